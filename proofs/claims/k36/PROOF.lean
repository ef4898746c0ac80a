import PyProof.Rows.All
import Wide.All
import OpenK.AllK
import Wide.FinOn
import Lean
import PyProof.EqAt
import PyProof.EqKinds
import PyProof.TupleCall
import PySem.Challenge.RW_jettison_k36_whole_no_matter_whose
set_option Elab.async false
set_option bootstrap.genMatcherCode false
set_option genSizeOf false
set_option genSizeOfSpec false
set_option linter.all false
set_option maxRecDepth 100000
local macro_rules|`(tactic|omega)=>`(tactic|lia)
abbrev Fg:=PySem.W.Frag
abbrev VS:=PySem.Value->PySem.Shared->Prop
abbrev AO:=List (PySem.Addr×PySem.Obj)
abbrev SO:=PySem.Str->Option PySem.Value
set_option autoImplicit true
def Vq:=@PySem.F.slot_dict_valueiterator_next
def Iz:=@Int.mul_le_mul_of_nonneg_left
def Vr:=@PySem.wpAny_typeNameOfWhole_keyiter
def Vs:=@PySem.wpAny_typeNameOfWhole_valiter
def Vt:=@PySem.F.slot_dict_keyiterator_next
def QE:=@PyProof.Rows.callWith_type1
def yH:=@List.idxOf_lt_length_of_mem
def Vu:=@Int.ediv_eq_of_eq_mul_right
def BW:=@List.getElem?_append_right
def mw:=@List.getD_eq_getElem?_getD
def OJ:=@PySem.F.slot_tuple_iterator_next
def OL:=@List.length_eraseIdx_of_lt
def dO:=@List.getElem?_eq_some_iff
def yI:=@List.getElem?_append_left
def OM:=@List.mem_or_eq_of_mem_set
def bD:=@List.getElem?_eq_getElem
def ON:=@PySem.wpAny_comprehension_free
def OO:=@PySem.wpAny_typeNameOf_keyiter
def OP:=@PySem.wpAny_typeNameOf_valiter
def DT:=@Int.mul_ediv_cancel_left
def nE:=@PySem.F.slot_list_append
def nF:=@PySem.F.type_list_append
def yJ:=@PySem.wpAny_callSpecial?_slot
def nG:=@PySem.F.plainAttrs_list
def p_:=@List.getElem?_set_self
def b7:=@PySem.Heap.get?_push_of_some
def nH:=@Option.map_eq_some_iff
def DU:=@List.zipWith_cons_cons
def OQ:=@PySem.Calls.callWith_builtin
def yK:=@PyProof.Rows.boot_list
def iA:=@List.mem_append_right
def nI:=@List.length_replicate
def OR:=@PySem.Heap.get?_update_self
def xx:=@List.getElem?_eq_none
def OS:=@PySem.wpAny_isOneOf_valiter
def OT:=@List.getElem?_zipWith
def yL:=@PyProof.Rows.boot_sum
def IA:=@PyProof.Rows.boot_min
def cD:=@List.mem_cons_of_mem
def A1:=@List.mem_append_left
def yM:=@List.getElem?_set_ne
def cg:=@List.mem_of_getElem?
def nJ:=@Bool.and_eq_true_iff
def OU:=@PySem.intBits_le_iff
def OV:=@Int.mul_ediv_cancel'
def A3:=@beq_eq_false_iff_ne
def IB:=@List.filterMap_cons
def eL:=@PySem.Heap.get?_push_size
def xy:=@PySem.mem_of_lookup
def A_:=@List.replicate_succ
def DV:=@Bool.or_eq_true_iff
def DW:=@PySem.Heap.SameBut.update
def kL:=@List.length_zipWith
def IC:=@List.filter_eq_self
def vI:=@List.map_congr_left
def yN:=@List.getElem_of_mem
def DX:=@List.length_reverse
def kM:=@Nat.lt_of_lt_of_le
def cS:=@List.mem_cons_self
def OW:=@List.mem_filterMap
def fH:=@Bool.false_ne_true
def ID:=@PySem.wpAny_Call_Name_kw
def dj:=@List.length_append
def OX:=@Option.isSome_some
def OY:=@PySem.tupleKind_room_in1
def IE:=@Nat.lt_of_le_of_lt
def fU:=@List.mem_singleton
def yO:=@Int.emod_lt_of_pos
def IF:=@Bool.false_eq_true
def DY:=@PySem.Obj.data_mapFields
def DZ:=@PySem.wpAny_setField_rec
def IG:=@List.set_cons_succ
def OZ:=@List.set_cons_zero
def O0:=@PySem.F.slot_dict_values
def tT:=@of_decide_eq_false
def oH:=@PySem.W.mg_none_of
def O1:=@PySem.wpAny_pyIter_list
def cA:=@List.getElem?_map
def O2:=@List.take_sublist
def iK:=@List.size_toArray
def O3:=@List.flatten_cons
def II:=@List.append_assoc
def bg:=@of_decide_eq_true
def IJ:=@Nat.lt_succ_of_lt
def vJ:=@PySem.wpAny_newObj_type
def D0:=@PySem.wpAny_truthy_bool
def O4:=@List.length_range
def O5:=@PySem.wpAny_dictEntries
def tU:=@Int.toNat_natCast
def Ba:=@List.foldl_append
def O6:=@List.nodup_append
def O7:=@List.getElem?_inj
def qa:=@Bool.eq_false_iff
def jZ:=@List.length_cons
def nK:=@List.length_take
def IK:=@Bool.and_eq_true
def O8:=@List.cons_append
def gZ:=@List.filter_cons
def vK:=@Nat.le_add_right
def oJ:=@List.lookup_cons
def qP:=@List.all_eq_true
def Ad:=@List.getElem_mem
def uT:=@PySem.wpAny_call_entry
def cW:=@List.take_length
def dw:=@decide_eq_false
def fu:=@Option.some.inj
def xA:=@List.mem_filter
def gb:=@List.mem_append
def Ae:=@Bool.eq_iff_iff
def aH:=@List.length_map
def Af:=@List.append_nil
def fP:=@List.nodup_cons
def iL:=@List.length_set
def jH:=@List.foldl_cons
def H_:=@List.nil_append
def sZ:=@List.find?_cons
def Ia:=@Option.map_some
def bR:=@List.map_append
def oK:=@Int.emod_nonneg
def Ib:=@Int.ediv_nonneg
def Ic:=@List.forIn_cons
def BX:=@PySem.pushCells_keeps
def Ie:=@PySem.wpAny_dictEpoch
def Ig:=@PySem.F.slot_zip_next
def xB:=@PySem.wpAny_passesOwn
def Ih:=@PySem.wpAny_execs_nil
def gc:=@PySem.PassesOwn.never
def qQ:=@List.mem_range
def j0:=@PySem.Heap.size_push
def bq:=@decide_eq_true
def BY:=@Int.natAbs_mul
def xC:=@List.forIn_nil
def uU:=@PySem.wpAny_fieldsOf
def Ag:=@PySem.wpAny_setField
def uV:=@PySem.wpAny_seqItems
def s_:=@List.nodup_nil
def oM:=@Int.mul_nonneg
def fQ:=@PySem.boot_len
def jc:=@Nat.lt_irrefl
def dz:=@List.mem_cons
def bw:=@List.map_cons
def BZ:=@List.any_cons
def qR:=@PySem.W.mg_of
def b8:=@List.sum_cons
def xD:=@PySem.wpAny_standAt
def xE:=@PySem.wpAny_holding
def jd:=@Int.mul_assoc
def bM:=@PySem.Heap.lt_size
def ee:=@Nat.ne_of_lt
def gf:=@Nat.le_trans
def B0:=@Nat.le_of_lt
def xF:=@Nat.ne_of_gt
def B4:=@PySem.codeAny_mono
def bH:=@List.mem_map
def B8:=@Int.ediv_one
def uW:=@List.set_set
def xG:=@Nat.min_self
def fR:=@List.map_map
def Ah:=@Nat.sub_self
def mZ:=@Int.mul_comm
def Ai:=@Int.zero_add
def B9:=@Int.zero_mul
def uX:=@Int.sub_zero
def tD:=@List.map_set
def B_:=@Nat.zero_add
def qS:=@Sum.inr.inj
def xH:=@Int.mul_one
def aN:=@Nat.le_refl
def gh:=@Nat.zero_le
def jI:=@PySem.sizeLine_eq
def Aj:=@Nat.le_succ
def m5:=@PySem.wpAny_field
def kP:=@Int.le_refl
def qT:=@Int.mul_add
def uY:=@Int.add_mul
def gj:=@PySem.wpAny_mono
def aV:=@PySem.wpAny_pure
def az:=@PySem.wpAny_bind
def m7:=@beq_iff_eq
def j6:=@congrArg
def qU:=@if_false
def bU:=@Ne.symm
def aD:=@if_pos
def aB:=@if_neg
theorem Z {α:Sort _} {a:α}:a=a:=rfl
namespace L2
open PySem PySem.Spec PyProof.Rows
abbrev Key:=Sum Int Str
def xJ:Key->Value->Bool
 | .inl k,v=>Value.isInt k v
 | .inr x,v=>Value.isStrOf x v
def aeW (w:World):Key->Int
 | .inl k=>hashInt k
 | .inr x=>hashStr w x
theorem f_:∀{k:Key} {v:Value},xJ k v=true->(∃i t,k=Sum.inl i/\v=Value.int i t)\/(∃x t,k=Sum.inr x/\v=Value.str x t)
 | .inl i,v,h=>by
   obtain ⟨t,e⟩:=Value.isInt_shape (k:=i) (v:=v) h
   exact .inl ⟨i,t,Z,e⟩
 | .inr x,v,h=>by
   obtain ⟨t,e⟩:=Value.isStrOf_shape (x:=x) (v:=v) h
   exact .inr ⟨x,t,Z,e⟩
theorem QF (i:Int) (t:Tok):xJ (.inl i) (.int i t)=true:=by simp [xJ,Value.isInt]
theorem QG (x:Str) (t:Tok):xJ (.inr x) (.str x t)=true:=by simp [xJ,Value.isStrOf]
theorem X0 (a b:Int):decide ((Sum.inl a:Key)=Sum.inl b)=(a==b):=by
 by_cases e:a=b
 . subst e;simp
 . have h:¬ (Sum.inl a:Key)=Sum.inl b:=fun q=>e (Sum.inl.inj q)
   rw [dw h]
   exact (A3.mpr e).symm
theorem X3 (a b:Str):decide ((Sum.inr a:Key)=Sum.inr b)=decide (a=b):=by
 by_cases e:a=b
 . subst e;simp
 . have h:¬ (Sum.inr a:Key)=Sum.inr b:=fun q=>e (qS q)
   rw [dw h,dw e]
theorem X4 (a:Int) (b:Str):decide ((Sum.inl a:Key)=Sum.inr b)=false:=dw (fun q=>nomatch q)
theorem X5 (a:Str) (b:Int):decide ((Sum.inr a:Key)=Sum.inl b)=false:=dw (fun q=>nomatch q)
def cY (prog:Program) (w:World):PySem.KeyKind prog w Key where
 is:=xJ
 hash:=aeW w
 inj:=fun v a b ha hb=>by
  rcases f_ ha with ⟨i,t,rfl,rfl⟩|⟨x,t,rfl,rfl⟩
  . rcases f_ hb with ⟨j,u,rfl,e⟩|⟨y,u,rfl,e⟩
    . injection e with e1 _;rw [e1]
    . exact nomatch e
  . rcases f_ hb with ⟨j,u,rfl,e⟩|⟨y,u,rfl,e⟩
    . exact nomatch e
    . injection e with e1 _;rw [e1]
 byValue:=fun k v h=>by
  rcases f_ h with ⟨i,t,rfl,rfl⟩|⟨x,t,rfl,rfl⟩ <;> rfl
 pyHash:=fun hv h=>by
  rcases f_ hv with ⟨i,t,rfl,rfl⟩|⟨x,t,rfl,rfl⟩
  . exact wpAny_pyHash_int h
  . exact wpAny_pyHash_str h
 eqBool:=fun hu hv h=>by
  rcases f_ hu with ⟨i,t,rfl,rfl⟩|⟨x,t,rfl,rfl⟩
  . rcases f_ hv with ⟨j,u,rfl,rfl⟩|⟨y,u,rfl,rfl⟩
    . rw [X0] at h;exact wpAny_eqBool_int h
    . rw [X4] at h;exact SeqAt.EqAt.int_str i t y u _ _ _ _ h
  . rcases f_ hv with ⟨j,u,rfl,rfl⟩|⟨y,u,rfl,rfl⟩
    . rw [X5] at h;exact SeqAt.EqAt.str_int x t j u _ _ _ _ h
    . rw [X3] at h;exact wpAny_eqBool_str h
 «strs»:=fun k x t v h=>by
  rcases f_ h with ⟨i,u,rfl,e⟩|⟨y,u,rfl,e⟩
  . exact nomatch e
  . injection e with e1 _
    subst e1
    cases v <;> rfl
theorem O9 (prog:Program) (w:World) (k:Key) (v:Value):(cY prog w).is k v=xJ k v:=rfl
theorem LZ (prog:Program) (w:World) (i:Int) (t:Tok):(cY prog w).is (.inl i) (.int i t)=true:=QF i t
theorem L1 (prog:Program) (w:World) (x:Str) (t:Tok):(cY prog w).is (.inr x) (.str x t)=true:=QG x t
inductive V where
 | b9|bl (b:Bool)|int (i:Int)|str (x:Str)|yq (b:Array UInt8)|Vv (b:UInt64)|ref (a:Addr)|ty (n:String)
 deriving DecidableEq
def RelV:V->Value->Prop
 | .b9,u=>u=Value.none
 | .bl b,u=>u=Value.bool b
 | .int i,u=>∃t,u=Value.int i t
 | .str x,u=>∃t,u=Value.str x t
 | .yq b,u=>∃t,u=Value.bytes b t
 | .Vv b,u=>∃t,u=Value.float b t
 | .ref a,u=>u=Value.ref a
 | .ty n,u=>u=Value.type n
abbrev Vals:List V->List Value->Prop:=Paired RelV
variable {xs:List V} {us:List Value}
theorem Vals.length (r:Vals xs us):xs.length=us.length:=Paired.length r
theorem Vals.get:∀{xs:List V} {us:List Value} {i:Nat} {x:V},Vals xs us->xs[i]?=some x->∃u,us[i]?=some u/\RelV x u
 | _,_,_,_, .nil,e=>by simp at e
 | _,_,0,_, .cons r _,e=>by simp at e;subst e;exact ⟨_,Z,r⟩
 | _,_,i+1,x, .cons _ t,e=>by
   obtain ⟨u,h1,h2⟩:=Vals.get (i:=i) (x:=x) t (by simpa using e)
   exact ⟨u,by simpa using h1,h2⟩
theorem Vals.set {x:V} {u:Value} (r:RelV x u):∀{xs:List V} {us:List Value} (i:Nat),Vals xs us->Vals (xs.set i x) (us.set i u)
 | _,_,_, .nil=> .nil
 | _,_,0, .cons _ t=> .cons r t
 | _,_,i+1, .cons q t=> .cons q (Vals.set r i t)
theorem Vals.append:∀{xs ys:List V} {us ws:List Value},Vals xs us->Vals ys ws->Vals (xs++ys) (us++ws)
 | _,_,_,_, .nil,s=>s
 | _,_,_,_, .cons r t,s=> .cons r (Vals.append t s)
def mE:Option V->Option Value->Prop
 | some v,some u=>RelV v u
 | none,none=>True
 | _,_=>False
def KV {κ:Type}:List (κ×V)->List (κ×Value)->Prop:=Paired fun (p:κ×V) (q:κ×Value)=>p.1=q.1/\RelV p.2 q.2
def kV:Key->V
 | .inl i=> .int i
 | .inr x=> .str x
inductive HO where
 | lst (xs:List V)
 | tup (xs:List V)
 | dK (kvs:List (Key×V))|dT (kvs:List (List Key×V))
 | set (S:Int->Bool) (n:Nat)
 | ins (C dx:Addr) (fs:List (Str×V))
 | own (x:Addr)
 | xd (fs:List (Str×V))
 | met (f x:Addr)
 | uZ (lo hi:Int)
 | eF (o:Obj) (u:HO)
 | E_ (ps:Array Value)
 | ext (φ:Heap->Prop)
abbrev Hp:=Addr->Option HO
def upd (H:Hp) (a:Addr) (o:HO):Hp:=fun b=>if b=a then some o else H b
variable {H:Hp} {a:Addr} {o:HO}
theorem ah:upd H a o a=some o:=by unfold upd;rw [aD rfl]
variable {b:Addr}
theorem au (h:b≠a):upd H a o b=H b:=by unfold upd;rw [aB h]
theorem kC {u:HO}:upd (upd H a o) a u=upd H a u:=by
 funext b;unfold upd;split <;> rfl
theorem iM {u:HO} (h:H a=some o) (h':H b=some u) (d:o≠u):a≠b:=by
 intro e;subst e;rw [h] at h';exact d (fu h')
theorem aF (h:H a=some o) (h':H b=none):a≠b:=by
 intro e;subst e;rw [h] at h';cases h'
section
variable (P:Program) (w:World)
def eY (H:Hp) (h:Heap) (a:Addr):HO->Prop
 | .lst xs=>xs.length<=sizeLine/\∃(its:List Value) (n:Nat),Vals xs its/\h.get? a=some { cls:= .type "list",data:= .seq its.toArray n }
 | .tup xs=>xs.length<=sizeLine/\∃its:List Value,Vals xs its/\IsTup h a its.toArray
 | .dK kvs=>kvs.length<=sizeLine/\(a==sysModules)=false/\∃vs,KV kvs vs/\h.DictOf (cY P w) a vs
 | .dT kvs=>kvs.length<=sizeLine/\(a==sysModules)=false/\∃xs:List (List Key×Addr×Value),
     Paired (fun (p:List Key×V) (q:List Key×Addr×Value)=>p.1=q.1/\H q.2.1=some (.tup (p.1.map kV))/\RelV p.2 q.2.2) kvs xs/\
     ∃o es ep,h.get? a=some o/\o.ExactDict/\o.data = .dict es ep/\es.toList=xs.map (entryOfKey (tupleKind (cY P w)))/\(xs.map (·.1)).Nodup
 | .set S n=>h.SetOf (intKind P w) a S n
 | .ins C dx fs=>H dx=some (.own a)/\fs.length<=1000/\dx≠a/\h.get? a=some (PySem.W.instObj C dx)/\
     ∃mA,h.Ns1 dx mA/\(∀f,mE (fs.lookup f) (mA f))/\PySem.Within mA (fs.map (·.1))
 | .own _=>∃o,h.get? a=some o
 | .xd fs=>∃mA,h.Ns1 a mA/\∀f,mE (fs.lookup f) (mA f)
 | .uZ lo hi=>∃t u v,h.get? a=some { cls:= .type "range",data:= .fields #[.int lo t, .int hi u, .int 1 v] }
 | .eF o u=>h.get? a=some o/\eY H h a u
 | .E_ ps=>h.get? a=some { cls:= .none,data:= .fields ps }
 | .met f x=>h.get? a=some (PySem.W.methodObj (.ref f) (.ref x))
 | .ext φ=>φ h/\(∃o,h.get? a=some o)/\∀h1 h2:Heap,φ h1->(∀o,h1.get? a=some o->h2.get? a=some o)->φ h2
def g_ (H:Hp) (h:Heap):Prop:=∀a o,H a=some o->eY P w H h a o
end
section
variable {P:Program} {w:World} {H H':Hp} {h h':Heap} {a:Addr} {o:HO}
theorem eY.lt (x:eY P w H h a o):a<h.objs.size:=by
 cases o with
 | lst xs=>obtain ⟨_,_,_,_,e⟩:=x;exact bM e
 | tup xs=>obtain ⟨_,_,_,p⟩:=x;exact p.lt
 | dK kvs=>obtain ⟨_,_,_,_,o,_,_,e,_⟩:=x;exact bM e
 | dT kvs=>obtain ⟨_,_,_,_,o,_,_,e,_⟩:=x;exact bM e
 | set S n=>obtain ⟨o,_,_,_,e,_⟩:=x;exact bM e
 | ins C dx fs=>obtain ⟨_,_,_,e,_⟩:=x;exact bM e
 | own y=>obtain ⟨_,e⟩:=x;exact bM e
 | xd fs=>obtain ⟨_,⟨_,_,_,e,_⟩,_⟩:=x;exact bM e
 | uZ lo hi=>obtain ⟨_,_,_,e⟩:=x;exact bM e
 | eF ob u=>obtain ⟨e,_⟩:=x;exact bM e
 | E_ ps=>exact bM (show h.get? a=some _ from x)
 | met f y=>exact bM (show h.get? a=some _ from x)
 | ext φ=>obtain ⟨_,⟨_,e⟩,_⟩:=x;exact bM e
theorem Paired.Ti {α β:Type} {F G:α->β->Prop}:∀{l₁:List α} {l₂:List β},Paired F l₁ l₂->(∀a b,F a b->G a b)->Paired G l₁ l₂
 | _,_, .nil,_=> .nil
 | _,_, .cons r t,f=> .cons (f _ _ r) (Paired.Ti t f)
theorem eY.stay (x:eY P w H h a o) (k:∀b u,(b=a\/H b=some (.own a))->h.get? b=some u->h'.get? b=some u)
  (ho:∀b,H b=some (.own a)->H' b=some (.own a)) (ht:∀b xs,H b=some (.tup xs)->H' b=some (.tup xs)):eY P w H' h' a o:=by
 induction o with
 | lst xs=>obtain ⟨z,its,n,r,e⟩:=x;exact ⟨z,its,n,r,k _ _ (.inl rfl) e⟩
 | tup xs=>obtain ⟨z,its,r,ob,e,c⟩:=x;exact ⟨z,its,r,ob,k _ _ (.inl rfl) e,c⟩
 | dK kvs=>obtain ⟨z,y,vs,r,ob,es,ep,e,c⟩:=x;exact ⟨z,y,vs,r,ob,es,ep,k _ _ (.inl rfl) e,c⟩
 | dT kvs=>
   obtain ⟨z,y,xs,r,ob,es,ep,e,c⟩:=x
   exact ⟨z,y,xs,Paired.Ti r fun p q z=>⟨z.1,ht _ _ z.2.1,z.2.2⟩,ob,es,ep,k _ _ (.inl rfl) e,c⟩
 | set S n=>obtain ⟨ob,es,ep,t,e,c⟩:=x;exact ⟨ob,es,ep,t,k _ _ (.inl rfl) e,c⟩
 | ins C dx fs=>
   obtain ⟨d,z,ne,e,mA,⟨od,es,ep,e2,c⟩,r⟩:=x
   exact ⟨ho _ d,z,ne,k _ _ (.inl rfl) e,mA,⟨od,es,ep,k _ _ (.inr d) e2,c⟩,r⟩
 | own y=>obtain ⟨ob,e⟩:=x;exact ⟨ob,k _ _ (.inl rfl) e⟩
 | xd fs=>obtain ⟨mA,⟨od,es,ep,e,c⟩,r⟩:=x;exact ⟨mA,⟨od,es,ep,k _ _ (.inl rfl) e,c⟩,r⟩
 | uZ lo hi=>obtain ⟨t,u,v,e⟩:=x;exact ⟨t,u,v,k _ _ (.inl rfl) e⟩
 | eF ob u ih=>obtain ⟨e,q⟩:=x;exact ⟨k _ _ (.inl rfl) e,ih q⟩
 | E_ ps=>
   have e:h.get? a=some { cls:= .none,data:= .fields ps }:=x
   show h'.get? a=some { cls:= .none,data:= .fields ps }
   exact k a _ (.inl rfl) e
 | met f y=>
   have e:h.get? a=some (PySem.W.methodObj (.ref f) (.ref y)):=x
   show h'.get? a=some (PySem.W.methodObj (.ref f) (.ref y))
   exact k a _ (.inl rfl) e
 | ext φ=>obtain ⟨p,⟨o,e⟩,st⟩:=x;exact ⟨st _ _ p fun o q=>k _ _ (.inl rfl) q,⟨o,k _ _ (.inl rfl) e⟩,st⟩
theorem g_.lt (x:g_ P w H h) (e:H a=some o):a<h.objs.size:=(x a o e).lt
theorem g_.fresh (x:g_ P w H h) (e:h.objs.size<=a):H a=none:=by
 cases q:H a with
 | none=>rfl
 | some u=>exact absurd (kM (x.lt q) e) (jc _)
theorem g_.kept (x:g_ P w H h) (k:∀b u,h.get? b=some u->h'.get? b=some u):g_ P w H h':=fun a o e=>
 (x a o e).stay (fun b u _ q=>k b u q) (fun _ q=>q) fun _ _ q=>q
theorem g_.laid (x:g_ P w H h) (k:∀b u,h.get? b=some u->h'.get? b=some u) (hp:h.objs.size<=a) (new:eY P w (upd H a o) h' a o):g_ P w (upd H a o) h':=fun b u e=>by
 have hn:=x.fresh hp
 by_cases hb:b=a
 . subst hb;rw [ah] at e;cases e;exact new
 . rw [au hb] at e
   exact (x b u e).stay (fun c v _ q=>k c v q) (fun c q=>by rw [au (aF q hn)];exact q) fun c xs q=>by rw [au (aF q hn)];exact q
end
def Rd (H:Hp) (a:Addr) (u:HO):Prop:=H a=some u\/∃o,H a=some (.eF o u)
variable {P:Program} {h:Heap}
theorem Rd.ok {w:World} {u:HO} (r:Rd H a u) (x:g_ P w H h):eY P w H h a u:=by
 rcases r with r|⟨o,r⟩
 . exact x a u r
 . obtain ⟨_,q⟩:=x a _ r
   exact q
def QH:Option HO->Prop
 | some (.lst _)=>True
 | some (.dK _)=>True
 | some (.dT _)=>True
 | some (.set _ _)=>True
 | some (.ins _ _ _)=>True
 | some (.ext _)=>True
 | _=>False
section
variable {P:Program} {w:World} {H:Hp} {h h':Heap} {x e:Addr} {o':HO}
theorem g_.write (ok:g_ P w H h) (mu:QH (H x)) (he:e=x\/H e=some (.own x)) (k:∀b u,b≠e->h.get? b=some u->h'.get? b=some u) (Nv:∃u,h'.get? e=some u)
  (new:eY P w (upd H x o') h' x o'):g_ P w (upd H x o') h':=fun b u q=>by
 have X6:∀c y,H c=some (.own y)->c≠x:=fun c y r z=>by subst z;rw [r] at mu;exact mu
 have aeX:∀c xs,H c=some (.tup xs)->c≠x:=fun c xs r z=>by subst z;rw [r] at mu;exact mu
 by_cases hb:b=x
 . subst hb;rw [ah] at q;cases q;exact new
 . rw [au hb] at q
   by_cases IL:b=e
   . have q':H b=some (.own x):=by
      rcases he with z|z
      . exact absurd (IL.trans z) hb
      . rw [IL];exact z
     rw [q] at q';cases q'
     obtain ⟨v,hv⟩:=Nv
     exact ⟨v,by rw [IL];exact hv⟩
   . refine (ok b u q).stay (fun c v hc r=>k c v ?_ r) (fun c r=>by rw [au (X6 c b r)];exact r) fun c xs r=>by rw [au (aeX c xs r)];exact r
     rcases hc with rfl|hc
     . exact IL
     . rintro rfl
       rcases he with z|z
       . exact X6 c b hc z
       . rw [hc] at z;cases z;exact hb rfl
end
structure Un (fs ex:List Addr) (H H':Hp) (h h':Heap):Prop where
 keep:∀b o,h.get? b=some o->H b=none->b∉fs->b∉ex->h'.get? b=some o
 slot:∀b o,h.get? b=some o->H b=none->b∈fs->b∉ex->∃sl,h'.get? b=some { o with slots:=sl }
 free:∀b o,h.get? b=some o->H b=none->b∉ex->H' b=none
 there:∀b o,h.get? b=some o->b∉ex->∃o',h'.get? b=some o'
 tups:∀b xs,H b=some (.tup xs)->H' b=some (.tup xs)
 qb:∀b o u,H b=some (.eF o u)->H' b=some (.eF o u)
 tV:∀b ps,H b=some (.E_ ps)->∃more,H' b=some (.E_ (ps++more))
section
variable {fs fs' ex ex':List Addr} {H H1 H2:Hp} {h h1 h2 h':Heap} {a x e:Addr} {o:HO}
theorem Un.any (u:Un fs ex H H1 h h1) (q:h.get? b=some ob) (n:H b=none) (hx:b∉ex):∃sl,h1.get? b=some { ob with slots:=sl }:=by
 by_cases hb:b∈fs
 . exact u.slot b ob q n hb hx
 . exact ⟨ob.slots,u.keep b ob q n hb hx⟩
theorem Un.kept (k:∀b u,h.get? b=some u->h'.get? b=some u):Un fs ex H H h h':=
 ⟨fun b ob q _ _ _=>k b ob q,fun b ob q _ _ _=>⟨ob.slots,k b ob q⟩,fun _ _ _ n _=>n,fun b ob q _=>⟨ob,k b ob q⟩,fun _ _ q=>q,fun _ _ _ q=>q,fun _ ps q=>⟨#[],by rw [q];simp⟩⟩
theorem Un.refl:Un fs ex H H h h:=Un.kept fun _ _ q=>q
theorem Un.laid (k:∀b u,h.get? b=some u->h'.get? b=some u) (hp:h.objs.size<=a) (hn:H a=none):Un fs ex H (upd H a o) h h' where
 keep:=fun b u q _ _ _=>k b u q
 slot:=fun b u q _ _ _=>⟨u.slots,k b u q⟩
 free:=fun b u q n _=>by rw [au (ee (kM (bM q) hp))];exact n
 there:=fun b u q _=>⟨u,k b u q⟩
 tups:=fun b xs q=>by rw [au (aF q hn)];exact q
 qb:=fun b u xs q=>by rw [au (aF q hn)];exact q
 tV:=fun b ps q=>⟨#[],by rw [au (aF q hn),q];simp⟩
theorem Un.write (mu:QH (H x)) (he:e=x\/H e=some (.own x)) (k:∀b u,b≠e->h.get? b=some u->h'.get? b=some u) (Nv:∃u,h'.get? e=some u):Un fs ex H (upd H x o) h h':=by
 have hx:∀b,H b=none->b≠x:=fun b n z=>by subst z;rw [n] at mu;exact mu
 have hb:∀b,H b=none->b≠e:=fun b n z=>by
  subst z
  rcases he with r|r
  . exact hx b n r
  . rw [n] at r;cases r
 have hm:∀b u,H b=some u->¬ QH (some u)->b≠x:=fun b u q nm z=>by subst z;rw [q] at mu;exact nm mu
 refine ⟨fun b u q n _ _=>k b u (hb b n) q,fun b u q n _ _=>⟨u.slots,k b u (hb b n) q⟩,fun b u q n _=>by rw [au (hx b n)];exact n,fun b u q _=>?_,
  fun b xs q=>by rw [au (hm b _ q fun z=>z)];exact q,fun b u xs q=>by rw [au (hm b _ q fun z=>z)];exact q,fun b ps q=>⟨#[],by rw [au (hm b _ q fun z=>z),q];simp⟩⟩
 by_cases IL:b=e
 . subst IL;exact Nv
 . exact ⟨u,k b u IL q⟩
end
def Vw (h:Heap) (H:Hp):List Addr:=(List.range h.objs.size).filter fun a=>(H a).isSome
def xK (h:Heap) (H:Hp):Heap:=PySem.W.hideAll h (Vw h H)
theorem QI (h:Heap) (H:Hp):(xK h H).objs.size=h.objs.size:=PySem.W.hideAll_size _ _
theorem Tj {o:Obj} (e:h.get? b=some o) (n:H b=none):(xK h H).get? b=some o:=
 PySem.W.hideAll_get _ e fun hm=>by
  have q:(H b).isSome=true:=(xA.mp hm).2
  rw [n] at q;simp at q
theorem WB {o:Obj} (e:(xK h H).get? b=some o):h.get? b=some o/\H b=none:=by
 have e':h.get? b=some o:=PySem.W.of_hideAll (Vw h H) e
 refine ⟨e',?_⟩
 cases q:H b with
 | none=>rfl
 | some x=>
   have hm:b∈Vw h H:=xA.mpr ⟨qQ.mpr (bM e'),by simp [q]⟩
   have z:(xK h H).get? b=none:=PySem.W.hideAll_none (Vw h H) hm
   rw [z] at e;cases e
structure Mod (K:Fg) (mg:SO) (base:Heap):Prop where
 QJ:K.In base
 glob:base.Ns mainGlobals mg
 blt:∃mb,base.Ns builtinsNs mb/\∀x:Str,x ≠ "__name__"->mb x=bootBuiltins x
 nolimit:base.NoLimit
structure Cx where
 prog:Program
 w:World
 K:Fg
 mg:Str->Option Value
 base:Heap
 A:Around
 N:List Str
 s₀:Shared
 H₀:Hp
 env:Env
 outer:List Env
 stack:List Env
 ex:List Addr
 fn:Str->Bool
 calm:Bool
 pn:List (Addr×Obj)
 xe:Value->Shared->Prop
def frs (l:List Env):List Addr:=l.filterMap (·.frame)
abbrev Cx.fs (X:Cx):List Addr:=frs X.outer
def Vx (sc:Scope) (x:Str):Prop:=sc.names.lookup x=some .local\/sc.names.lookup x=some .cell\/sc.names.lookup x=some .free
def Loc (sc:Scope) (x:Str):Prop:=sc.names.lookup x=some .local\/sc.names.lookup x=some .cell
def Look (env:Env) (h:Heap) (m:SO) (x:Str) (u:Value):Prop:=
 (env.kindOf x=some .local/\m x=some u)\/((env.kindOf x=some .cell\/env.kindOf x=some .free)/\∃c,env.cells.lookup x=some c/\h.IsCell c (some u))
structure Cx.Ok (X:Cx):Prop where
 mod:Mod X.K X.mg X.base
 kind:X.env.scope.kind = .function
 glob:X.env.globals=mainGlobals
 blt:X.env.builtins=builtinsNs
 above:X.s₀.heap.objs.size<=X.env.locals
 inj:∀x y c,X.env.cells.lookup x=some c->X.env.cells.lookup y=some c->x=y
 has:∀x,(X.env.kindOf x=some .cell\/X.env.kindOf x=some .free)->∃c,X.env.cells.lookup x=some c
 eX:∀x c,X.fn x=true->X.env.cells.lookup x=some c->X.s₀.heap.objs.size<=c
 hd:X.calm=true->X.A.handled=none
 frames:X.A.frames=some X.stack
 stk:X.stack=X.outer\/(X.stack=X.env::X.outer/\X.env.frame=some X.env.locals)
 Fb:∀b∈X.ex,b≠X.env.locals/\∀x c,X.env.cells.lookup x=some c->c≠b
 bs:∀b o,X.base.get? b=some o->X.s₀.heap.get? b=some o/\X.H₀ b=none
 Fc:X.base.objs.size<=X.s₀.heap.objs.size
 IM:∀b o,X.base.get? b=some o->b∉X.ex
 Bb:∀b∈X.ex,b∉X.fs
 oN:X.s₀.heap.FunFrames X.base X.outer
 IP:∀b∈X.fs,X.H₀ b=none
structure Inv (X:Cx) (pins:AO) (σ:List (Option V)) (H:Hp) (s:Shared):Prop where
 ok:X.Ok
 os:s.os=X.s₀.os
 bare:AllBare s.gens
 base:Un X.fs X.ex X.H₀ H X.s₀.heap s.heap
 loc:∃m,s.heap.Ns X.env.locals m/\∀(i:Nat) (x:Str) (v:V),X.N[i]?=some x->σ[i]?=some (some v)->Vx X.env.scope x->∃u,RelV v u/\Look X.env s.heap m x u
 cell:∀x c,X.env.cells.lookup x=some c->∃v,s.heap.IsCell c v
 free:H X.env.locals=none
 m8:∀x c,X.env.cells.lookup x=some c->H c=none
 pin:∀p∈X.pn++pins,s.heap.get? p.1=some p.2/\H p.1=none/\p.1≠X.env.locals/\p.1∉X.fs/\∀v,p.2.data ≠ .cell v
 hok:g_ X.prog X.w H s.heap
 len:σ.length=X.N.length
variable {g':Array GenState} {t' i j:Nat} {ch:List Addr} {it:Addr} {N:List Str} {x:Str} {M:Model} {E:VS} {u:Value} {Q:Unit->Shared->Prop}
section
variable {X:Cx} {pins:AO} {σ:List (Option V)} {H H':Hp} {s:Shared} {h':Heap}
theorem Cx.Ok.aeY (ok:X.Ok) {o:Obj} (e:X.base.get? b=some o):b∉X.fs:=fun hb=>by
 have:=(ok.oN.mem hb).1
 rw [e] at this;cases this
theorem Inv.bs (I:Inv X pins σ H s):∀b o,X.base.get? b=some o->s.heap.get? b=some o/\H b=none:=fun b o e=>
 ⟨I.base.keep b o (I.ok.bs b o e).1 (I.ok.bs b o e).2 (I.ok.aeY e) (I.ok.IM b o e),I.base.free b o (I.ok.bs b o e).1 (I.ok.bs b o e).2 (I.ok.IM b o e)⟩
theorem Inv.bk (I:Inv X pins σ H s):∀b o,X.base.get? b=some o->s.heap.get? b=some o:=fun b o e=>(I.bs b o e).1
theorem Inv.mod (I:Inv X pins σ H s):Mod X.K X.mg X.base:=I.ok.mod
theorem Inv.sU (I:Inv X pins σ H s):X.K.In s.heap:=I.ok.mod.QJ.keeps I.bk
theorem Inv.lt (I:Inv X pins σ H s):X.env.locals<s.heap.objs.size:=let ⟨_,hn,_⟩:=I.loc;hn.lt
theorem Inv.sz (I:Inv X pins σ H s):X.s₀.heap.objs.size<=s.heap.objs.size:=gf I.ok.above (B0 I.lt)
theorem Inv.aeZ (I:Inv X pins σ H s) (h:s.heap.objs.size<=a):a∉X.fs:=fun hb=>by
 obtain ⟨_,o,ho,_⟩:=I.ok.oN.mem hb
 exact absurd (kM (bM ho) (gf I.sz h)) (jc _)
theorem Inv.IQ (I:Inv X pins σ H s):∀x c,X.env.cells.lookup x=some c->c≠X.env.locals:=fun x c e z=>by
 obtain ⟨v,o,ho,hd⟩:=I.cell x c e
 obtain ⟨m,⟨o',es,ep,ho',hd',_⟩,_⟩:=I.loc
 rw [z,ho'] at ho;cases ho;rw [hd'] at hd;cases hd
theorem Inv.oN (I:Inv X pins σ H s):s.heap.FunFrames X.base X.outer:=by
 have all:∀(l:List Env),(∀b∈frs l,b∈X.fs)->X.s₀.heap.FunFrames X.base l->s.heap.FunFrames X.base l:=by
  intro l
  induction l with
  | nil=>intro _ _;trivial
  | cons env r ih=>
    intro hs hl
    obtain ⟨hk,⟨L,o,hf,hn,ho,hd⟩,hr⟩:=hl
    have hL:L∈X.fs:=hs L (by unfold frs;rw [IB,hf];exact cS)
    obtain ⟨sl,e⟩:=I.base.slot L o ho (I.ok.IP L hL) hL fun z=>I.ok.Bb L z hL
    exact ⟨hk,⟨L,_,hf,hn,e,hd⟩,ih (fun b hb=>hs b (by unfold frs;rw [IB,hf];exact cD _ hb)) hr⟩
 exact all X.outer (fun _ hb=>hb) I.ok.oN
theorem Inv.stack (I:Inv X pins σ H s):s.heap.FunFrames X.base X.stack:=by
 rcases I.ok.stk with e|⟨e,hf⟩
 . rw [e];exact I.oN
 . rw [e]
   obtain ⟨m,hn,_⟩:=I.loc
   refine .cons (by rw [I.ok.kind];decide) hf hn ?_ I.oN
   exact Heap.get?_none_of_le (gf I.ok.Fc I.ok.above)
theorem Inv.IS (I:Inv X pins σ H s):∀b∈frs X.stack,b∈X.env.locals::X.fs:=fun b hb=>by
 rcases I.ok.stk with e|⟨e,hf⟩
 . rw [e] at hb;exact cD _ hb
 . rw [e] at hb
   unfold frs at hb
   rw [IB,hf] at hb
   exact hb
theorem Inv.Ak (I:Inv X pins σ H s):∀b∈frs X.stack,H b=none:=fun b hb=>by
 rcases dz.mp (I.IS b hb) with e|hb
 . rw [e];exact I.free
 . obtain ⟨_,o,ho,_⟩:=I.ok.oN.mem hb
   exact I.base.free b o ho (I.ok.IP b hb) fun z=>I.ok.Bb b z hb
theorem Inv.step {d':Drawn} (I:Inv X pins σ H s)
  (hch:∀b∈ch,(b∈X.ex\/X.s₀.heap.objs.size<=b)/\b≠X.env.locals/\(∀x c,X.env.cells.lookup x=some c->c≠b)/\∀p∈X.pn++pins,p.1≠b)
  (keep:∀b o,b≠X.env.locals->b∉X.fs->b∉ch->s.heap.get? b=some o->H b=none->h'.get? b=some o)
  (slot:∀b o,b≠X.env.locals->b∈X.fs->b∉ch->s.heap.get? b=some o->H b=none->∃sl,h'.get? b=some { o with slots:=sl }) (free:∀b o,b∉ch->s.heap.get? b=some o->H b=none->H' b=none)
  (there:∀b o,b∉ch->s.heap.get? b=some o->∃o',h'.get? b=some o')
  (tups:∀b xs,H b=some (.tup xs)->H' b=some (.tup xs)) (qb:∀b o u,H b=some (.eF o u)->H' b=some (.eF o u)) (tV:∀b ps,H b=some (.E_ ps)->∃more,H' b=some (.E_ (ps++more)))
  (ns:∀m,s.heap.Ns X.env.locals m->h'.Ns X.env.locals m) (hok:g_ X.prog X.w H' h') (hg:AllBare g'):
  Inv X pins σ H' { s with heap:=h',gens:=g',drawn:=d',toks:=t' }:=by
 have neL:∀b o,X.s₀.heap.get? b=some o->b≠X.env.locals:=fun b o e=>ee (kM (bM e) I.ok.above)
 have Vy:∀b o,X.s₀.heap.get? b=some o->b∉X.ex->b∉ch:=fun b o e hx hb=>by
  rcases (hch b hb).1 with z|z
  . exact hx z
  . exact absurd (kM (bM e) z) (jc _)
 have cellK:∀x c,X.env.cells.lookup x=some c->∀v,s.heap.IsCell c v->h'.IsCell c v:=fun x c e v ⟨o,ho,hd⟩=>by
  have wg:c∉ch:=fun z=>(hch c z).2.2.1 x c e rfl
  by_cases hc:c∈X.fs
  . obtain ⟨sl,q⟩:=slot c o (I.IQ x c e) hc wg ho (I.m8 x c e)
    exact ⟨_,q,hd⟩
  . exact ⟨o,keep c o (I.IQ x c e) hc wg ho (I.m8 x c e),hd⟩
 refine ⟨I.ok,I.os,hg,⟨fun b o e n hb hx=>?_,fun b o e n hb hx=>?_,fun b o e n hx=>?_,fun b o e hx=>?_,fun b xs e=>tups b xs (I.base.tups b xs e),fun b o xs e=>qb b o xs (I.base.qb b o xs e),fun b ps e=>?_⟩,?_,fun x c e=>?_,?_,fun x c e=>?_,fun p hp=>?_,hok,I.len⟩
 . exact keep b o (neL b o e) hb (Vy b o e hx) (I.base.keep b o e n hb hx) (I.base.free b o e n hx)
 . obtain ⟨sl,e1⟩:=I.base.slot b o e n hb hx
   obtain ⟨X7,e2⟩:=slot b _ (neL b o e) hb (Vy b o e hx) e1 (I.base.free b o e n hx)
   exact ⟨X7,e2⟩
 . obtain ⟨o',e1⟩:=I.base.there b o e hx
   exact free b o' (Vy b o e hx) e1 (I.base.free b o e n hx)
 . obtain ⟨o',e1⟩:=I.base.there b o e hx
   exact there b o' (Vy b o e hx) e1
 . obtain ⟨m1,e1⟩:=I.base.tV b ps e
   obtain ⟨m2,e2⟩:=tV b _ e1
   exact ⟨m1++m2,by rw [e2,Array.append_assoc]⟩
 . obtain ⟨m,hn,hl⟩:=I.loc
   refine ⟨m,ns m hn,fun i x v e1 e2 e3=>?_⟩
   obtain ⟨u,r,l⟩:=hl i x v e1 e2 e3
   refine ⟨u,r,?_⟩
   rcases l with l|⟨k,c,e,z⟩
   . exact .inl l
   . exact .inr ⟨k,c,e,cellK x c e _ z⟩
 . obtain ⟨v,z⟩:=I.cell x c e
   exact ⟨v,cellK x c e v z⟩
 . obtain ⟨m,⟨o,_,_,ho,_⟩,_⟩:=I.loc
   exact free _ o (fun z=>(hch _ z).2.1 rfl) ho I.free
 . obtain ⟨v,o,ho,hd⟩:=I.cell x c e
   exact free c o (fun z=>(hch c z).2.2.1 x c e rfl) ho (I.m8 x c e)
 . obtain ⟨e,n,ne,nf,d⟩:=I.pin p hp
   have wg:p.1∉ch:=fun z=>(hch p.1 z).2.2.2 p hp rfl
   exact ⟨keep p.1 p.2 ne nf wg e n,free p.1 p.2 wg e n,ne,nf,d⟩
theorem Inv.un (I:Inv X pins σ H s) (u:Un X.fs [] H H' s.heap h') (hok:g_ X.prog X.w H' h'):Inv X pins σ H' { s with heap:=h',toks:=t' }:=by
 obtain ⟨m,⟨o,es,ep,ho,r⟩,_⟩:=id I.loc
 obtain ⟨sl,hL⟩:=u.any ho I.free (by simp)
 exact I.step (g':=s.gens) (d':=s.drawn) (ch:=[]) (fun _ z=>nomatch z) (fun b o _ hb _ e n=>u.keep b o e n hb (by simp)) (fun b o _ hb _ e n=>u.slot b o e n hb (by simp)) (fun b o _ e n=>u.free b o e n (by simp)) (fun b o _ e=>u.there b o e (by simp)) u.tups u.qb u.tV (fun m' hm=>by
  obtain ⟨o',es',wk,ho',r'⟩:=hm
  rw [ho] at ho';cases ho'
  exact ⟨_,es',wk,hL,r'⟩) hok I.bare
theorem Inv.call {d':Drawn} (I:Inv X pins σ H s) (u:Un (frs X.stack) ch H H' s.heap h') (hok:g_ X.prog X.w H' h') (hg:AllBare g')
  (hch:∀b∈ch,(b∈X.ex\/X.s₀.heap.objs.size<=b)/\b≠X.env.locals/\(∀x c,X.env.cells.lookup x=some c->c≠b)/\∀p∈X.pn++pins,p.1≠b):
  Inv X pins σ H' { s with heap:=h',gens:=g',drawn:=d',toks:=t' }:=by
 obtain ⟨m,⟨o,es,ep,ho,r⟩,_⟩:=id I.loc
 obtain ⟨sl,hL⟩:=u.any ho I.free fun z=>(hch _ z).2.1 rfl
 exact I.step (ch:=ch) hch (fun b o hL hb hc e n=>u.keep b o e n (fun z=>(dz.mp (I.IS b z)).elim hL hb) hc) (fun b o _ _ hc e n=>u.any e n hc) (fun b o hc e n=>u.free b o e n hc) (fun b o hc e=>u.there b o e hc) u.tups u.qb u.tV (fun m' hm=>by
  obtain ⟨o',es',wk,ho',r'⟩:=hm
  rw [ho] at ho';cases ho'
  exact ⟨_,es',wk,hL,r'⟩) hok hg
theorem Inv.turned (I:Inv X pins σ H s) (k:∀b o,b≠it->s.heap.get? b=some o->h'.get? b=some o) (hn:H it=none) (hL:it≠X.env.locals)
  (h1:it∈X.ex\/X.s₀.heap.objs.size<=it) (h2:∀x c,X.env.cells.lookup x=some c->c≠it) (h3:∀p∈X.pn++pins,p.1≠it):Inv X pins σ H { s with heap:=h',toks:=t' }:=by
 have nit:∀b u,H b=some u->b≠it:=fun b u e z=>by rw [z,hn] at e;cases e
 refine I.step (g':=s.gens) (d':=s.drawn) (ch:=[it]) (fun b hb=>?_) (fun b o _ _ hc e _=>k b o (fun z=>hc (by simp [z])) e) (fun b o _ _ hc e _=>⟨o.slots,k b o (fun z=>hc (by simp [z])) e⟩) (fun _ _ _ _ n=>n)
  (fun b o hc e=>⟨o,k b o (fun z=>hc (by simp [z])) e⟩) (fun _ _ e=>e) (fun _ _ _ e=>e) (fun b ps e=>⟨#[],by rw [e];simp⟩) (fun m hm=>?_) (fun b u e=>?_) I.bare
 . have e:b=it:=by simpa using hb
   subst e
   exact ⟨h1,hL,h2,h3⟩
 . obtain ⟨o,es,ep,ho,r⟩:=hm
   exact ⟨o,es,ep,k _ o (bU hL) ho,r⟩
 . refine (I.hok b u e).stay (fun c v hc q=>k c v ?_ q) (fun _ q=>q) fun _ _ q=>q
   rcases hc with z|z
   . rw [z];exact nit b u e
   . exact nit c _ z
theorem Inv.tok (I:Inv X pins σ H s) (t:Nat):Inv X pins σ H { s with toks:=t }:=I.un (h':=s.heap) (t':=t) Un.refl I.hok
theorem Inv.kept (I:Inv X pins σ H s) (k:∀b u,s.heap.get? b=some u->h'.get? b=some u):Inv X pins σ H { s with heap:=h',toks:=t' }:=I.un (Un.kept k) (I.hok.kept k)
theorem Inv.laid (I:Inv X pins σ H s) (k:∀b u,s.heap.get? b=some u->h'.get? b=some u) (hp:s.heap.objs.size<=a) (new:eY X.prog X.w (upd H a o) h' a o):
  Inv X pins σ (upd H a o) { s with heap:=h',toks:=t' }:=I.un (Un.laid k hp (I.hok.fresh hp)) (I.hok.laid k hp new)
theorem Inv.write {x e:Addr} (I:Inv X pins σ H s) (mu:QH (H x)) (he:e=x\/H e=some (.own x)) (k:∀b u,b≠e->s.heap.get? b=some u->h'.get? b=some u) (Nv:∃u,h'.get? e=some u)
  (new:eY X.prog X.w (upd H x o) h' x o):Inv X pins σ (upd H x o) { s with heap:=h',toks:=t' }:=I.un (Un.write mu he k Nv) (I.hok.write mu he k Nv new)
theorem Inv.Ny {Vz:AO} (I:Inv X pins σ H s) (h:∀p∈Vz,s.heap.get? p.1=some p.2/\H p.1=none/\p.1≠X.env.locals/\p.1∉X.fs/\∀v,p.2.data ≠ .cell v):Inv X Vz σ H s:=
 ⟨I.ok,I.os,I.bare,I.base,I.loc,I.cell,I.free,I.m8,fun p hp=>(gb.mp hp).elim (fun z=>I.pin p (A1 _ z)) (h p),I.hok,I.len⟩
theorem Bc (hN:N.Nodup) (a:N[i]?=some x) (b:N[j]?=some x):i=j:=by
 obtain ⟨h1,e1⟩:=dO.mp a
 obtain ⟨h2,e2⟩:=dO.mp b
 exact (List.getElem_inj hN).mp (e1.trans e2.symm)
theorem Fd {A:Around} {v:V} (I:Inv X pins σ H s) (hN:X.N.Nodup) (hi:X.N[i]?=some x) (hx:Loc X.env.scope x) (r:RelV v u)
  (h:∀s',Inv X pins (σ.set i (some v)) H s'->(∃a,Heap.SameBut a s.heap s'.heap/\(a=X.env.locals\/X.env.cells.lookup x=some a))->Q () s') (hf:X.fn x=true\/X.env.scope.names.lookup x=some .local:=by first|exact .inl rfl|exact .inr rfl|assumption):wpAny M A (storeName X.env x u) Q E s:=by
 obtain ⟨m,hn,hl⟩:=id I.loc
 have hcls:(X.env.scope.kind == .class || (X.env.scope.kind == .module && X.env.locals != X.env.globals))=false:=by rw [I.ok.kind];rfl
 have hiσ:i<σ.length:=by rw [I.len];exact (dO.mp hi).1
 have IQ:=I.IQ
 have tracked:∀{a:Addr} {h':Heap},(∃o,s.heap.get? a=some o/\H a=none)->Heap.SameBut a s.heap h'->g_ X.prog X.w H h':=fun {a h'} ha hs b ob e=>by
  obtain ⟨_,_,hfree⟩:=ha
  refine (I.hok b ob e).stay (fun c w' hc q=>(hs.2 c ?_).trans q) (fun _ q=>q) fun _ _ q=>q
  rintro rfl
  rcases hc with rfl|hc
  . rw [hfree] at e;cases e
  . rw [hfree] at hc;cases hc
 rcases hx with hk|hk
 . refine wpAny_storeName_local hk hn (fun h' hn' hs=>?_) hcls
   obtain ⟨oL,_,_,hoL,_⟩:=id hn
   refine h _ ⟨I.ok,I.os,I.bare,⟨fun b o e n hb hx=>?_,fun b o e n hb hx=>?_,I.base.free,fun b o e hx=>?_,I.base.tups,I.base.qb,I.base.tV⟩,⟨_,hn',fun j y v' e1 e2 e3=>?_⟩,fun y c e=>?_,I.free,I.m8,fun p hp=>?_,tracked ⟨oL,hoL,I.free⟩ hs,by simpa using I.len⟩ ⟨_,hs, .inl rfl⟩
   . exact (hs.2 b (ee (kM (bM e) I.ok.above))).trans (I.base.keep b o e n hb hx)
   . obtain ⟨sl,e1⟩:=I.base.slot b o e n hb hx
     exact ⟨sl,(hs.2 b (ee (kM (bM e) I.ok.above))).trans e1⟩
   . obtain ⟨o',e1⟩:=I.base.there b o e hx
     exact ⟨o',(hs.2 b (ee (kM (bM e) I.ok.above))).trans e1⟩
   . by_cases hj:j=i
     . subst hj
       rw [hi] at e1;cases e1
       rw [p_ hiσ] at e2
       cases e2
       exact ⟨u,r, .inl ⟨hk,by simp⟩⟩
     . rw [yM (bU hj)] at e2
       obtain ⟨u',r',q⟩:=hl j y v' e1 e2 e3
       refine ⟨u',r',?_⟩
       rcases q with ⟨k,e⟩|⟨k,c,e,z⟩
       . refine .inl ⟨k,?_⟩
         have:y≠x:=fun e=>hj (Bc hN e1 (e▸hi))
         simp [this,e]
       . exact .inr ⟨k,c,e,z.sameBut hs (IQ y c e)⟩
   . obtain ⟨w',z⟩:=I.cell y c e
     exact ⟨w',z.sameBut hs (IQ y c e)⟩
   . obtain ⟨e,n,ne,nf,d⟩:=I.pin p hp
     exact ⟨(hs.2 p.1 ne).trans e,n,ne,nf,d⟩
 . have hfn:X.fn x=true:=by
    rcases hf with z|z
    . exact z
    . rw [z] at hk;cases hk
   obtain ⟨c,hc⟩:=I.ok.has x (.inl hk)
   obtain ⟨w',z⟩:=I.cell x c hc
   refine wpAny_storeName_cell I.ok.kind hk hc z (fun h' hc' hs=>?_)
   obtain ⟨oc,hoc,ae0⟩:=id z
   refine h { s with heap:=h' } ⟨I.ok,I.os,I.bare,⟨fun b o e n hb hx=>?_,fun b o e n hb hx=>?_,I.base.free,fun b o e hx=>?_,I.base.tups,I.base.qb,I.base.tV⟩,⟨m,hn.sameBut hs (bU (IQ x c hc)),fun j y v' e1 e2 e3=>?_⟩,fun y c' e=>?_,I.free,I.m8,fun p hp=>?_,tracked ⟨oc,hoc,I.m8 x c hc⟩ hs,by simpa using I.len⟩ ⟨c,hs, .inr hc⟩
   . exact (hs.2 b (ee (kM (bM e) (I.ok.eX x c hfn hc)))).trans (I.base.keep b o e n hb hx)
   . obtain ⟨sl,e1⟩:=I.base.slot b o e n hb hx
     exact ⟨sl,(hs.2 b (ee (kM (bM e) (I.ok.eX x c hfn hc)))).trans e1⟩
   . obtain ⟨o',e1⟩:=I.base.there b o e hx
     exact ⟨o',(hs.2 b (ee (kM (bM e) (I.ok.eX x c hfn hc)))).trans e1⟩
   . by_cases hj:j=i
     . subst hj
       rw [hi] at e1;cases e1
       rw [p_ hiσ] at e2
       cases e2
       exact ⟨u,r, .inr ⟨.inl hk,c,hc,hc'⟩⟩
     . rw [yM (bU hj)] at e2
       obtain ⟨u',r',q⟩:=hl j y v' e1 e2 e3
       refine ⟨u',r',?_⟩
       rcases q with q|⟨k,c',e,z'⟩
       . exact .inl q
       . refine .inr ⟨k,c',e,z'.sameBut hs ?_⟩
         rintro rfl
         exact hj (Bc hN e1 (I.ok.inj _ _ _ e hc▸hi))
   . by_cases hcc:c'=c
     . subst hcc;exact ⟨_,hc'⟩
     . obtain ⟨w2,z2⟩:=I.cell y c' e
       exact ⟨w2,z2.sameBut hs hcc⟩
   . obtain ⟨e,n,ne,nf,d⟩:=I.pin p hp
     refine ⟨(hs.2 p.1 ?_).trans e,n,ne,nf,d⟩
     intro q
     rw [q,hoc] at e
     have q':oc=p.2:=fu e
     exact d w' (by rw [<-q'];exact ae0)
theorem xM {A:Around} {v:V} (I:Inv X pins σ H s) (hN:X.N.Nodup) (hi:X.N[i]?=some x) (hx:Loc X.env.scope x) (r:RelV v u)
  (h:∀s',Inv X pins (σ.set i (some v)) H s'->Q () s') (hf:X.fn x=true\/X.env.scope.names.lookup x=some .local:=by first|exact .inl rfl|exact .inr rfl|assumption):wpAny M A (storeName X.env x u) Q E s:=
 Fd I hN hi hx r (fun s' I' _=>h s' I') hf
theorem Inv.Ii {s':Shared} (I:Inv X pins σ H s) (ho:s'.os=s.os) (u:Un (frs X.stack) ch H H' s.heap s'.heap) (hok:g_ X.prog X.w H' s'.heap) (hg:AllBare s'.gens)
  (hch:∀b∈ch,(b∈X.ex\/X.s₀.heap.objs.size<=b)/\b≠X.env.locals/\(∀x c,X.env.cells.lookup x=some c->c≠b)/\∀p∈X.pn++pins,p.1≠b):Inv X pins σ H' s':=by
 obtain ⟨h',g',d',t',o'⟩:=s'
 have e:o'=s.os:=ho
 subst e
 exact I.call (g':=g') (t':=t') (d':=d') u hok hg hch
end
abbrev XK:=Value->Option Addr->Hp->Prop
abbrev St:=List (Option V)
abbrev VK:=V->Hp->Prop
abbrev TE:=St->Hp->VK->Prop
abbrev TT:=St->Hp->(Bool->Hp->Prop)->Prop
abbrev TA:=St->Hp->(List V->Hp->Prop)->Prop
structure Ends where
 nx:St->Hp->Prop
 rt:VK
 bk:St->Hp->Prop:=fun _ _=>False
 ct:St->Hp->Prop:=fun _ _=>False
abbrev TS:=Ends->St->Hp->Prop
def EP (X:Cx) (pins:AO) (σ:St) (Q:VK) (u:Value) (s':Shared):Prop:=∃v H',Inv X pins σ H' s'/\RelV v u/\Q v H'
def TP (X:Cx) (pins:AO) (σ:St) (Q:Bool->Hp->Prop) (b:Bool) (s':Shared):Prop:=∃H',Inv X pins σ H' s'/\Q b H'
def AP (X:Cx) (pins:AO) (σ:St) (Q:List V->Hp->Prop) (us:List Value) (s':Shared):Prop:=∃vs H',Inv X pins σ H' s'/\Vals vs us/\Q vs H'
def SP (X:Cx) (pins:AO) (D:Ends) (f:Flow) (s':Shared):Prop:=
 match f with
 | .next=>∃σ' H',Inv X pins σ' H' s'/\D.nx σ' H'
 | .brk=>∃σ' H',Inv X pins σ' H' s'/\D.bk σ' H'
 | .cont=>∃σ' H',Inv X pins σ' H' s'/\D.ct σ' H'
 | .ret u=>∃v σ' H',Inv X pins σ' H' s'/\RelV v u/\D.rt v H'
def PE (X:Cx) (e:Expr) (t:TE):Prop:=
 ∀(pins:AO) (s:Shared) (σ:St) (H:Hp) (Q:VK),Inv X pins σ H s->t σ H Q->wpAny (model X.prog X.w) X.A (eval e X.env) (EP X pins σ Q) X.xe s
def PT (X:Cx) (e:Expr) (t:TT):Prop:=
 ∀(pins:AO) (s:Shared) (σ:St) (H:Hp) (Q:Bool->Hp->Prop),Inv X pins σ H s->t σ H Q->wpAny (model X.prog X.w) X.A (isTrue e X.env (eval e X.env)) (TP X pins σ Q) X.xe s
def PW (X:Cx) (e:Expr) (t:TT):Prop:=
 ∀(whole:Sem Value) (pins:AO) (s:Shared) (σ:St) (H:Hp) (Q:Bool->Hp->Prop),Inv X pins σ H s->t σ H Q->wpAny (model X.prog X.w) X.A (isTrue e X.env whole) (TP X pins σ Q) X.xe s
variable {X:Cx} {e:Expr}
theorem PW.pt {t:TT} (h:PW X e t):PT X e t:=h _
def PA (X:Cx) (es:List Expr) (t:TA):Prop:=
 ∀(pos:Pos) (pins:AO) (s:Shared) (σ:St) (H:Hp) (Q:List V->Hp->Prop),Inv X pins σ H s->t σ H Q->wpAny (model X.prog X.w) X.A (spliced (backTo pos (starEach es X.env))) (AP X pins σ Q) X.xe s
def PS (X:Cx) (st:Stmt) (t:TS):Prop:=
 ∀(pins:AO) (s:Shared) (σ:St) (H:Hp) (D:Ends),Inv X pins σ H s->t D σ H->wpAny (model X.prog X.w) X.A (exec st X.env) (SP X pins D) X.xe s
def p7 (X:Cx) (st:List Stmt) (t:TS):Prop:=
 ∀(pins:AO) (s:Shared) (σ:St) (H:Hp) (D:Ends),Inv X pins σ H s->t D σ H->wpAny (model X.prog X.w) X.A (execs st X.env) (SP X pins D) X.xe s
variable {s:Shared}
theorem bh {α:Type} {t:Sem α} {Q Q':α->Shared->Prop} {A:Around} (h:wpAny M A t Q E s) (hQ:∀a s,Q a s->Q' a s):wpAny M A t Q' E s:=gj h hQ fun _ _ x=>x
variable {pos:Pos} {pins:AO} {σ:St}
section
variable {X:Cx}
inductive IT (i:Nat) (σ:St) (H:Hp) (Q:VK):Prop
 | mk  (v:_) (_:σ[i]?=some (some v)) (_:Q v H)
def tC (v:V):TE:=fun _ H Q=>Q v H
theorem X8 (hN:X.N[i]?=some x) (hv:Vx X.env.scope x) (hd:(x==("__debug__":Str))=false:=by decide) (hcd:(x==("__classdict__":Str))=false:=by decide):PE X (.Name x pos) (IT i):=by
 intro pins s σ H Q I h
 obtain ⟨v,e,h⟩:=h
 obtain ⟨m,hn,hl⟩:=I.loc
 obtain ⟨u,r,l⟩:=hl i x v hN e hv
 have fin:EP X pins σ Q u s:=⟨v,H,I,r,h⟩
 rcases l with ⟨hk,hm⟩|⟨hk,c,hc,hcell⟩
 . exact wpAny_Name (wpAny_loadName_local I.ok.kind hk hn hm fin) hd
 . rcases hk with hk|hk
   . exact wpAny_Name (wpAny_loadName_cell I.ok.kind hk hc hcell fin) hd
   . exact wpAny_Name (wpAny_loadName_free I.ok.kind hk hc hcell fin hcd) hd
theorem QK {x j pos}:PE X (.Constant (.str x) j pos) (tC (.str x)):=fun _ _ _ H _ I h=>Calls.Constant_str ⟨.str x,H,I.tok _,⟨_,Z⟩,h⟩
def Gl (X:Cx) (x:Str):Prop:=X.env.kindOf x=some .globalImplicit
theorem wm {Q:VS} (I:Inv X pins σ H s) (hg:Gl X x) (hm:X.mg x=some u) (h:Q u s)
  (hd:(x==("__debug__":Str))=false:=by decide):wpAny (model X.prog X.w) X.A (eval (.Name x pos) X.env) Q E s:=
 Calls.Name_function_global I.ok.kind hg (Calls.loadGlobal_global (by rw [I.ok.glob];exact I.mod.glob.keeps I.bk) hm h) hd
theorem wu {Q:VS} (I:Inv X pins σ H s) (hg:Gl X x) (hm:X.mg x=none) (hv:bootBuiltins x=some u) (h:Q u s)
  (hn:x ≠ "__name__":=by decide) (hd:(x==("__debug__":Str))=false:=by decide):wpAny (model X.prog X.w) X.A (eval (.Name x pos) X.env) Q E s:=by
 obtain ⟨mb,h1,h2⟩:=I.mod.blt
 exact Calls.Name_function_global I.ok.kind hg (Calls.loadGlobal_builtin (by rw [I.ok.glob];exact I.mod.glob.keeps I.bk) hm (by rw [I.ok.blt];exact h1.keeps I.bk) ((h2 x hn).trans hv) h) hd
variable {a b:Expr} {ta tb:TE} {pos:Pos}
def PC (X:Cx) (op:CmpOp) (a b:Expr) (t:TE):Prop:=
 ∀(pins:AO) (s:Shared) (σ:St) (H:Hp) (Q:VK),Inv X pins σ H s->t σ H Q->
  wpAny (model X.prog X.w) X.A (eval a X.env) (fun v s₁=>wpAny (model X.prog X.w) X.A (eval b X.env) (fun u s₂=>wpAny (model X.prog X.w) X.A (compareOp op v u) (EP X pins σ Q) X.xe s₂) X.xe s₁) X.xe s
inductive yTB (Q:Bool->Hp->Prop) (x:V) (H1:Hp):Prop
 | mk  (c:_) (_:x = .bl c) (_:Q c H1)
def tB (t:TE):TT:=fun σ H Q=>t σ H (yTB Q)
variable {tA VA:TT} {rest:List Expr}
def abp (u:TT) (σ:St) (Q:Bool->Hp->Prop):Bool->Hp->Prop:=fun c H1=>if c=true then u σ H1 Q else Q false H1
def ae1 (t u:TT):TT:=fun σ H Q=>t σ H (abp u σ Q)
def ae2 (u:TT) (σ:St) (Q:Bool->Hp->Prop):Bool->Hp->Prop:=fun c H1=>if c=true then Q true H1 else u σ H1 Q
def tOr (t u:TT):TT:=fun σ H Q=>t σ H (ae2 u σ Q)
abbrev abq (Q:Bool->Hp->Prop):Bool->Hp->Prop:=fun c H1=>Q (!c) H1
def ae3 (t:TT):TT:=fun σ H Q=>t σ H (abq Q)
inductive X_ (tb:TE) (σ:St) (Q:VK) (x:V) (H1:Hp):Prop
 | mk  (c:_) (_:x = .bl c) (_:if c=true then tb σ H1 Q else Q (.bl false) H1)
def abr (ta tb:TE):TE:=fun σ H Q=>ta σ H (X_ tb σ Q)
end
def aK (K:Fg) (H:Hp) (a:Addr) (xs:List V):Prop:=
 Rd H a (.lst xs)\/
  ∃(o:Obj) (its:Array Value) (n:Nat),K.lookup a=some o/\o.cls = .type "list"/\o.dict=none/\o.data = .seq its n/\its.size<=sizeLine/\Vals xs its.toList
def dm (K:Fg) (H:Hp) (a:Addr) (xs:List V):Prop:=
 Rd H a (.tup xs)\/
  ∃(o:Obj) (its:Array Value) (n:Nat),K.lookup a=some o/\o.cls = .type "tuple"/\o.data = .seq its n/\its.size<=sizeLine/\Vals xs its.toList
def ae4:Value->Option V
 | .none=>some .b9
 | .bool b=>some (.bl b)
 | .int i _=>some (.int i)
 | .str x _=>some (.str x)
 | .bytes b _=>some (.yq b)
 | .float b _=>some (.Vv b)
 | .ref a=>some (.ref a)
 | .type n=>some (.ty n)
 | _=>none
theorem RelV.abs {x:V} (r:RelV x u):ae4 u=some x:=by
 cases x with
 | b9=>cases r;rfl
 | bl _=>cases r;rfl
 | int _=>obtain ⟨t,rfl⟩:=r;rfl
 | str _=>obtain ⟨t,rfl⟩:=r;rfl
 | yq _=>obtain ⟨t,rfl⟩:=r;rfl
 | Vv _=>obtain ⟨t,rfl⟩:=r;rfl
 | ref _=>cases r;rfl
 | ty _=>cases r;rfl
variable {y:V}
theorem RelV.inj {x:V} (r:RelV x u) (q:RelV y u):x=y:=fu (r.abs.symm.trans q.abs)
theorem Vals.inj:∀{xs ys:List V} {us:List Value},Vals xs us->Vals ys us->xs=ys
 | _,_,_, .nil, .nil=>rfl
 | _,_,_, .cons r t, .cons r' t'=>by rw [r.inj r',Vals.inj t t']
variable {K:Fg}
section
variable {X:Cx} {pins:AO} {σ:St} {H:Hp} {s:Shared} {a:Addr} {xs ys:List V}
theorem aK.of (h:H a=some (.lst xs)):aK K H a xs:= .inl (.inl h)
theorem dm.of (h:H a=some (.tup xs)):dm K H a xs:= .inl (.inl h)
theorem Inv.list (I:Inv X pins σ H s) (h:aK X.K H a xs):∃its:List Value,Vals xs its/\PlainL s.heap a its.toArray/\xs.length<=sizeLine:=by
 rcases h with h|⟨o,its,n,hk,hc,hd,hs,hz,r⟩
 . obtain ⟨z,its,n,r,e⟩:=h.ok I.hok
   exact ⟨its,r,⟨_,n,e,Z,Z,Z⟩,z⟩
 . refine ⟨its.toList,r,⟨o,n,I.sU a o hk,hc,hd,by simpa using hs⟩,?_⟩
   have e:=r.length
   simp only [Array.length_toList] at e
   omega
theorem Inv.tuple (I:Inv X pins σ H s) (h:dm X.K H a xs):∃its:List Value,Vals xs its/\IsTup s.heap a its.toArray/\xs.length<=sizeLine:=by
 rcases h with h|⟨o,its,n,hk,hc,hs,hz,r⟩
 . obtain ⟨z,its,r,p⟩:=h.ok I.hok
   exact ⟨its,r,p,z⟩
 . refine ⟨its.toList,r,⟨o,I.sU a o hk,hc,n,by simpa using hs⟩,?_⟩
   have e:=r.length
   simp only [Array.length_toList] at e
   omega
theorem Inv.Tn (I:Inv X pins σ H s) (h:aK X.K H a xs) (h':aK X.K H a ys):xs=ys:=by
 obtain ⟨its,r,⟨o,n,e,_,_,d⟩,_⟩:=I.list h
 obtain ⟨its',r',⟨o',n',e',_,_,d'⟩,_⟩:=I.list h'
 rw [e] at e';cases e'
 rw [d] at d'
 injection d' with d1 _
 have:its=its':=by simpa using j6 Array.toList d1
 subst this
 exact r.inj r'
end
abbrev Cx.vL (X:Cx) (E:VS):Cx:={ X with xe:=E }
abbrev Cx.AJ (X:Cx):Cx:=X.vL fun _ _=>False
theorem Cx.Ok.vL (ok:X.Ok) (E:VS):(X.vL E).Ok:=
 ⟨ok.mod,ok.kind,ok.glob,ok.blt,ok.above,ok.inj,ok.has,ok.eX,ok.hd,ok.frames,ok.stk,ok.Fb,ok.bs,ok.Fc,ok.IM,ok.Bb,ok.oN,ok.IP⟩
theorem Cx.Ok.rG (ok:(X.vL E).Ok):X.Ok:=
 ⟨ok.mod,ok.kind,ok.glob,ok.blt,ok.above,ok.inj,ok.has,ok.eX,ok.hd,ok.frames,ok.stk,ok.Fb,ok.bs,ok.Fc,ok.IM,ok.Bb,ok.oN,ok.IP⟩
variable {D:Ends}
section
variable {X:Cx} {pins:AO} {σ:St} {H:Hp} {s:Shared} {E:VS}
theorem Inv.vL (I:Inv X pins σ H s) (E:VS):Inv (X.vL E) pins σ H s:=⟨I.ok.vL E,I.os,I.bare,I.base,I.loc,I.cell,I.free,I.m8,I.pin,I.hok,I.len⟩
theorem Inv.rG (I:Inv (X.vL E) pins σ H s):Inv X pins σ H s:=⟨I.ok.rG,I.os,I.bare,I.base,I.loc,I.cell,I.free,I.m8,I.pin,I.hok,I.len⟩
theorem SP.rG {f:Flow} (h:SP (X.vL E) pins D f s'):SP X pins D f s':=by
 cases f with
 | next=>obtain ⟨σ',H',I,q⟩:=h;exact ⟨σ',H',I.rG,q⟩
 | brk=>obtain ⟨σ',H',I,q⟩:=h;exact ⟨σ',H',I.rG,q⟩
 | cont=>obtain ⟨σ',H',I,q⟩:=h;exact ⟨σ',H',I.rG,q⟩
 | ret u=>obtain ⟨v,σ',H',I,r,q⟩:=h;exact ⟨v,σ',H',I.rG,r,q⟩
theorem p7.AJ {st:List Stmt} {t:TS} (h:p7 X.AJ st t):p7 X st t:=fun pins s σ H D I hw=>
 gj (h pins s σ H D (I.vL _) hw) (fun _ _ q=>q.rG) fun _ _ z=>False.elim z
end
variable {tc:TT}
section
variable {X:Cx} {st:Stmt} {rest:List Stmt} {t u:TS} {e:Expr} {te:TE} {pos:Pos}
def abt:TS:=fun D σ H=>D.nx σ H
def Ends.sq (D:Ends) (u:TS):Ends:={ D with nx:=u D }
def Ends.lp (D:Ends) (N:St->Hp->Prop):Ends:={ D with nx:=N,ct:=N,bk:=D.nx }
def iB (t u:TS):TS:=fun D σ H=>t (D.sq u) σ H
theorem Inv.quiet (I:Inv X pins σ H s):interactive X.env=false:=by simp [interactive,I.ok.kind]
def Yb (D:Ends) (σ:St):V->Hp->Prop:=fun _ H1=>D.nx σ H1
def abu (te:TE):TS:=fun D σ H=>te σ H (Yb D σ)
def ae5 (te:TE):TS:=fun D σ H=>te σ H D.rt
def abv:TS:=fun D _ H=>D.rt .b9 H
def abw (t:TS) (u:TS) (D:Ends) (σ:St):Bool->Hp->Prop:=fun b H1=>if b=true then t D σ H1 else u D σ H1
def Yc (c:TT) (t u:TS):TS:=fun D σ H=>c σ H (abw t u D σ)
theorem VB {c:Expr} {a b:List Stmt} (hc:PT X c tc) (ha:p7 X a t) (hb:p7 X b u):PS X (.If c a b pos) (Yc tc t u):=by
 intro pins s σ H D I h
 refine wpAny_If (bh (hc pins s σ H _ I h) fun d s1 ⟨H1,I1,q1⟩=>?_)
 cases d with
 | true=>exact ha pins s1 σ H1 D I1 q1
 | false=>exact hb pins s1 σ H1 D I1 q1
def Yd:TS:=fun _ _ _=>False
end
abbrev TG:=V->St->Hp->(St->Hp->Prop)->Prop
abbrev Ca:=List V->St->Hp->(St->Hp->Prop)->Prop
def PG (X:Cx) (target:Expr) (t:TG):Prop:=
 ∀(pins:AO) (s:Shared) (σ:St) (H:Hp) (v:V) (u:Value) (Q:St->Hp->Prop),Inv X pins σ H s->RelV v u->t v σ H Q->
  wpAny (model X.prog X.w) X.A (assign target X.env u) (fun _ s'=>∃σ' H',Inv X pins σ' H' s'/\Q σ' H') X.xe s
def PGs (X:Cx) (ts:List Expr) (t:Ca):Prop:=
 ∀(pins:AO) (s:Shared) (σ:St) (H:Hp) (vs:List V) (us:List Value) (Q:St->Hp->Prop),Inv X pins σ H s->Vals vs us->t vs σ H Q->
  wpAny (model X.prog X.w) X.A (assignInOrder ((assignEach ts X.env).map (·.2)) us) (fun _ s'=>∃σ' H',Inv X pins σ' H' s'/\Q σ' H') X.xe s
abbrev rW:=V->V->V->Hp->(Hp->Prop)->Prop
def To (X:Cx) (t:rW):Prop:=
 ∀(pins:AO) (s:Shared) (σ:St) (H:Hp) (o i v:V) (ov iv u:Value) (Q:Hp->Prop),Inv X pins σ H s->RelV o ov->RelV i iv->RelV v u->t o i v H Q->
  wpAny (model X.prog X.w) X.A (setItem ov iv u) (fun _ s'=>∃H',Inv X pins σ H' s'/\Q H') X.xe s
abbrev IU:=V->V->Hp->VK->Prop
def Ye (X:Cx) (op:Operator) (t:IU):Prop:=
 ∀(pins:AO) (s:Shared) (σ:St) (H:Hp) (x y:V) (v u:Value) (Q:VK),Inv X pins σ H s->RelV x v->RelV y u->t x y H Q->
  wpAny (model X.prog X.w) X.A (inplaceOp op v u) (EP X pins σ Q) X.xe s
section
variable {X:Cx} {pos:Pos}
def m9 (i:Nat):TG:=fun v σ H Q=>Q (σ.set i (some v)) H
inductive Yg (vs:List V) (σ:St) (H:Hp) (Q:St->Hp->Prop):Prop
 | mk  (_:vs=[]) (_:Q σ H)
def Yh (u:Ca) (Q:St->Hp->Prop) (r:List V):St->Hp->Prop:=fun σ' H'=>u r σ' H' Q
inductive VC (t:TG) (u:Ca) (vs:List V) (σ:St) (H:Hp) (Q:St->Hp->Prop):Prop
 | mk  (v r:_) (_:vs=v::r) (_:t v σ H (Yh u Q r))
inductive yP (K:Fg) (n:Nat) (t:Ca) (v:V) (σ:St) (H:Hp) (Q:St->Hp->Prop):Prop
 | mk  (a xs:_) (_:v = .ref a) (_:dm K H a xs) (_:xs.length=n) (_:t xs σ H Q)
theorem Yi {es:List Expr} {k:Nat} {t:Ca} {n:Nat} (hc:X.calm=true) (h:PGs X es t)
  (hn:(assignEach es X.env).length=n:=by rfl) (hst:(assignEach es X.env).findIdx? (·.1)=none:=by rfl):PG X (.Tuple es k pos) (yP X.K n t):=by
 intro pins s σ H v u Q I r hw
 obtain ⟨a,xs,e1,hq,hl,hw⟩:=hw
 subst e1
 cases r
 obtain ⟨its,rv,ht,hz⟩:=I.tuple hq
 refine assign_Tuple_tuple (I.ok.hd hc) ht (by simp [hn,<-hl,rv.length]) hst fun h' hx=>?_
 have I1:Inv X pins σ H { s with heap:=h' }:=I.kept (t':=s.toks) fun b o e=>hx b o (ee (bM e)) e
 exact h pins _ σ H xs _ Q I1 (by simpa using rv) hw
def WC (σ:St) (Q:St->Hp->Prop):Hp->Prop:=fun H3=>Q σ H3
def WD (t:rW) (v:V) (σ:St) (Q:St->Hp->Prop) (o:V):V->Hp->Prop:=fun i H2=>t o i v H2 (WC σ Q)
def abx (ti:TE) (t:rW) (v:V) (σ:St) (Q:St->Hp->Prop):V->Hp->Prop:=fun o H1=>ti σ H1 (WD t v σ Q o)
def ae6 (to ti:TE) (t:rW):TG:=fun v σ H Q=>to σ H (abx ti t v σ Q)
def aby (g:TG) (D:Ends) (σ:St):V->Hp->Prop:=fun x H1=>g x σ H1 D.nx
def Tp (te:TE) (g:TG):TS:=fun D σ H=>te σ H (aby g D σ)
inductive abz (i:Nat) (j:Nat) (D:Ends) (σ:St) (vs:List V) (H1:Hp):Prop
 | mk  (v w:_) (_:vs=[v,w]) (_:D.nx ((σ.set i (some v)).set j (some w)) H1)
def ae7 (i j:Nat) (ta:TA):TS:=fun D σ H=>ta σ H (abz i j D σ)
def Tq (D:Ends) (σ:St):Hp->Prop:=fun H6=>D.nx σ H6
def Tr (oO:rW) (D:Ends) (σ:St) (o:V) (i:V):V->Hp->Prop:=fun z H5=>oO o i z H5 (Tq D σ)
def Tt (yr:IU) (oO:rW) (D:Ends) (σ:St) (o:V) (i:V) (x:V):V->Hp->Prop:=fun y H4=>yr x y H4 (Tr oO D σ o i)
def Tu (te:TE) (yr:IU) (oO:rW) (D:Ends) (σ:St) (o:V) (i:V):V->Hp->Prop:=fun x H3=>te σ H3 (Tt yr oO D σ o i x)
def Tv (te:TE) (yQ:V->V->Hp->VK->Prop) (yr:IU) (oO:rW) (D:Ends) (σ:St) (o:V):V->Hp->Prop:=fun i H2=>yQ o i H2 (Tu te yr oO D σ o i)
def Yj (ti:TE) (te:TE) (yQ:V->V->Hp->VK->Prop) (yr:IU) (oO:rW) (D:Ends) (σ:St):V->Hp->Prop:=fun o H1=>ti σ H1 (Tv te yQ yr oO D σ o)
def abA (to ti te:TE) (yQ:V->V->Hp->VK->Prop) (yr:IU) (oO:rW):TS:=fun D σ H=>to σ H (Yj ti te yQ yr oO D σ)
def Yk (X:Cx) (t:V->V->Hp->VK->Prop):Prop:=
 ∀(pins:AO) (s:Shared) (σ:St) (H:Hp) (o i:V) (ov iv:Value) (Q:VK),Inv X pins σ H s->RelV o ov->RelV i iv->t o i H Q->
  wpAny (model X.prog X.w) X.A (getItem ov iv) (EP X pins σ Q) X.xe s
inductive ipI (f:Int->Int->Int) (x:V) (y:V) (H:Hp) (Q:VK):Prop
 | mk  (i j:_) (_:x = .int i) (_:y = .int j) (_:Q (.int (f i j)) H)
theorem Yl:Ye X .Add (ipI fun i j=>i+j):=by
 intro pins s σ H x y v u Q I r1 r2 h
 obtain ⟨i,j,e1,e2,q⟩:=h
 subst e1;subst e2
 obtain ⟨t,rfl⟩:=r1
 obtain ⟨t',rfl⟩:=r2
 exact iadd_int ⟨.int _,H,I.tok _,⟨_,Z⟩,q⟩
theorem Ym:Ye X .Sub (ipI fun i j=>i-j):=by
 intro pins s σ H x y v u Q I r1 r2 h
 obtain ⟨i,j,e1,e2,q⟩:=h
 subst e1;subst e2
 obtain ⟨t,rfl⟩:=r1
 obtain ⟨t',rfl⟩:=r2
 exact isub_int ⟨.int _,H,I.tok _,⟨_,Z⟩,q⟩
end
section
variable {X:Cx} {pos:Pos}
def Yn (c:TT) (tb:TS):TS:=fun D σ H=>∃W:Nat->St->Hp->Prop,(∃m,W m σ H)/\∀m σ H,W m σ H->
 c σ H fun b H1=>if b=true then ∃N:St->Hp->Prop,(∀σ' H',N σ' H'->∃m',m'<m/\W m' σ' H')/\tb { D with nx:=N,ct:=N,bk:=D.nx } σ H1 else D.nx σ H1
end
structure It where
 go:Nat->Hp->Prop
 yR:Nat->Hp->V->Hp->Prop
 stop:Nat->Hp->Prop
def k7 (X:Cx) (pins:AO) (H:Hp) (b:Addr):Prop:=
 H b=none/\b≠X.env.locals/\b∉X.fs/\(b∈X.ex\/X.s₀.heap.objs.size<=b)/\(∀x c,X.env.cells.lookup x=some c->c≠b)/\∀p∈X.pn++pins,p.1≠b
variable {H':Hp}
theorem Inv.Bd (I:Inv X pins σ H s) (hb:s.heap.objs.size<=b) (hn:H' b=none):k7 X pins H' b:=by
 refine ⟨hn,xF (kM I.lt hb),I.aeZ hb, .inr (gf I.sz hb),fun x c e z=>?_,fun p hp z=>?_⟩
 . obtain ⟨v,q⟩:=I.cell x c e
   exact absurd (kM q.lt (by rw [z];exact hb)) (jc _)
 . exact absurd (kM (bM (I.pin p hp).1) (by rw [z];exact hb)) (jc _)
structure Turn (P:Program) (w:World) (K:Fg) (tg:Expr) (J:It) (fp:List Addr) (it:Addr) (tn:Nat->Heap->Prop):Prop where
 mem:it∈fp
 obj:∀i h,tn i h->∀b∈fp,∃o,h.get? b=some o/\∀v,o.data ≠ .cell v
 keep:∀i h h',tn i h->(∀b∈fp,∀o,h.get? b=some o->h'.get? b=some o)->tn i h'
 item:∀(X:Cx),X.prog=P->X.w=w->X.K=K->X.calm=true->∀(i:Nat) (pins:AO) (s:Shared) (σ:St) (H:Hp) (E:VS),Inv X pins σ H s->(∀b∈fp,k7 X pins H b)->tn i s.heap->J.go i H->
  wpAny (model P w) X.A (pyNext (.ref it)) (fun r s1=>∃u,r=some u/\
   wpAny (model P w) X.A (letOwnedTupleGo tg (.ref it) u) (fun _ s2=>∃x H',Inv X pins σ H' s2/\RelV x u/\J.yR i H x H'/\tn (i+1) s2.heap/\∀b∈fp,H' b=none) E s1) E s
 done:∀(X:Cx),X.prog=P->X.w=w->X.K=K->X.calm=true->∀(i:Nat) (pins:AO) (s:Shared) (σ:St) (H:Hp) (E:VS),Inv X pins σ H s->(∀b∈fp,k7 X pins H b)->tn i s.heap->J.stop i H->
  wpAny (model P w) X.A (pyNext (.ref it)) (fun r s1=>r=none/\Inv X pins σ H s1) E s
 self:∀(A:Around) (i:Nat) (s:Shared) (Q:VS) (E:VS),tn i s.heap->Q (.ref it) s->wpAny (model P w) A (pyIter (.ref it)) Q E s
abbrev TI:=St->Hp->(It->Hp->Prop)->Prop
def PIE (X:Cx) (pins:AO) (σ:St) (tg:Expr) (R:It->Hp->Prop) (itv:Value) (s2:Shared):Prop:=
 ∃(it:Addr) (fp:List Addr) (tn:Nat->Heap->Prop) (J:It) (H':Hp),itv = .ref it/\Inv X pins σ H' s2/\Turn X.prog X.w X.K tg J fp it tn/\tn 0 s2.heap/\(∀b∈fp,k7 X pins H' b)/\R J H'
def PI (X:Cx) (tg iter:Expr) (wi:TI):Prop:=
 ∀(pins:AO) (s:Shared) (σ:St) (H:Hp) (R:It->Hp->Prop),Inv X pins σ H s->wi σ H R->
  wpAny (model X.prog X.w) X.A (eval iter X.env) (fun v s1=>wpAny (model X.prog X.w) X.A (pyIter v) (PIE X pins σ tg R) X.xe s1) X.xe s
variable {tg:Expr}
theorem Al {A:Around} {o:Obj} {n:String} {vs:Array Value} (ho:s.heap.get? it=some o) (hc:o.cls = .type n) (hd:o.data = .fields vs)
  (hn:["enumerate","zip","dict_itemiterator","dict_reverseitemiterator","odict_iterator","itertools.zip_longest","itertools.pairwise"].contains n=false) (hQ:Q () s):wpAny M A (letOwnedTupleGo tg (.ref it) u) Q E s:=by
 unfold letOwnedTupleGo
 cases tg <;> first
  | exact aV hQ
  | (cases u <;> first
      | exact aV hQ
      | (refine az (wpAny_load ho ?_)
         rw [hc,hd]
         show wpAny M A (if (["enumerate","zip","dict_itemiterator","dict_reverseitemiterator","odict_iterator","itertools.zip_longest","itertools.pairwise"].contains n && vs[0]?==some (rawInt _))=true then _ else _) Q E s
         rw [aB (by intro h;rw [hn,Bool.false_and] at h;cases h)]
         exact aV hQ))
def yt (K:Fg) (a:Addr):It:=
 ⟨fun i H=>∃xs x,aK K H a xs/\xs[i]?=some x,fun i H x H'=>H'=H/\∀xs,aK K H a xs->xs[i]?=some x,fun i H=>∃xs,aK K H a xs/\xs.length<=i⟩
def VD (lo:Int) (n:Nat):It:=⟨fun i _=>i<n,fun i H x H'=>H'=H/\x = .int (lo+i),fun i _=>n<=i⟩
theorem QL {w:World} (a it:Addr):Turn P w K tg (yt K a) [it] it (fun i h=>h.IsListIter it a i) where
 mem:=by simp
 obj:=fun i h st b hb=>by
  have e:b=it:=by simpa using hb
  subst e
  obtain ⟨o,e,c,d⟩:=st
  exact ⟨o,e,fun v z=>by rw [d] at z;cases z⟩
 keep:=fun i h h' st k=>st.at fun o e=>k it (by simp) o e
 item:=by
  intro X hP hw hK hc i pins s σ H E I hf st hg
  subst hP hw hK
  obtain ⟨xs,x,hq,hx⟩:=hg
  obtain ⟨its,rv,p,hz⟩:=I.list hq
  obtain ⟨u,hu,ru⟩:=rv.get hx
  obtain ⟨f0,f1,f2,f3,f4,f5⟩:=hf it (by simp)
  refine wpAny_pyNext_list_item st p.isList (x:=u) (by simpa using hu) fun h' st' sb=>?_
  have I1:Inv X pins σ H { s with heap:=h' }:=I.turned (t':=s.toks) (fun b o hb e=>(sb.2 b hb).trans e) f0 f1 f3 f4 f5
  obtain ⟨o,e,c,d⟩:=id st'
  exact ⟨u,Z,Al (s:={ s with heap:=h' }) e c d (by decide) ⟨x,H,I1,ru,⟨Z,fun ys hy=>by rw [I.Tn hy hq];exact hx⟩,st',fun b hb=>(hf b hb).1⟩⟩
 done:=by
  intro X hP hw hK hc i pins s σ H E I hf st hg
  subst hP hw hK
  obtain ⟨xs,hq,hx⟩:=hg
  obtain ⟨its,rv,p,hz⟩:=I.list hq
  obtain ⟨f0,f1,f2,f3,f4,f5⟩:=hf it (by simp)
  have hl:=rv.length
  exact wpAny_pyNext_list_end (I.ok.hd hc) st p.isList (by simp;omega) fun h' eb=>⟨Z,I.turned (t':=s.toks) (fun b o hb e=>eb b o hb e) f0 f1 f3 f4 f5⟩
 self:=fun _ _ _ _ _ st h=>wpAny_pyIter_listiter st h
theorem O_ {w:World} (it:Addr) (lo:Int) (n:Nat):Turn P w K tg (VD lo n) [it] it (fun i h=>IsRangeIter h it (lo+(i:Nat)*1) ((n:Int)-(i:Nat)) 1) where
 mem:=by simp
 obj:=fun i h st b hb=>by
  have e:b=it:=by simpa using hb
  subst e
  exact ⟨_,st,fun v z=>by
   have z':Data.fields _=Data.cell v:=z
   cases z'⟩
 keep:=fun i h h' st k=>k it (by simp) _ st
 item:=by
  intro X hP hw hK hc i pins s σ H E I hf st hg
  subst hP hw hK
  obtain ⟨f0,f1,f2,f3,f4,f5⟩:=hf it (by simp)
  have W:=Walks.range (prog:=X.prog) (w:=X.w) (I.ok.hd hc) it lo 1 n
  refine W.item i s _ _ hg st fun v h' tk hv st' kk=>?_
  obtain ⟨t,rfl⟩:=hv
  have I1:Inv X pins σ H { s with heap:=h',toks:=tk }:=I.turned (fun b o hb e=>kk b o (by simpa using hb) e) f0 f1 f3 f4 f5
  refine ⟨_,Z,Al (s:={ s with heap:=h',toks:=tk }) (n:="range_iterator") st' rfl rfl (by decide) ⟨.int (lo+i),H,I1,⟨t,?_⟩,⟨Z,Z⟩,st',fun b hb=>(hf b hb).1⟩⟩
  rw [xH]
 done:=by
  intro X hP hw hK hc i pins s σ H E I hf st hg
  subst hP hw hK
  obtain ⟨f0,f1,f2,f3,f4,f5⟩:=hf it (by simp)
  exact wpAny_pyNext_range_end (I.ok.hd hc) st (by have:n<=i:=hg;omega) fun h' eb=>⟨Z,I.turned (t':=s.toks) (fun b o hb e=>eb b o hb e) f0 f1 f3 f4 f5⟩
 self:=fun _ _ _ _ _ st h=>wpAny_pyIter_rangeiter st h
variable {tl:TE} {fp:List Addr}
section
variable {X:Cx} {tg:Expr}
inductive Yo (K:Fg) (R:It->Hp->Prop) (x:V) (H1:Hp):Prop
 | mk  (a:_) (_:x = .ref a) (_:(∃xs,aK K H1 a xs)) (_:R (yt K a:_) H1)
def VE (K:Fg) (tl:TE):TI:=fun σ H R=>tl σ H (Yo K R)
theorem WE {l:Expr} (hl:PE X l tl):PI X tg l (VE X.K tl):=by
 intro pins s σ H R I h
 refine bh (hl pins s σ H _ I h) fun v s1 ⟨x,H1,I1,r1,q1⟩=>?_
 obtain ⟨a,e,⟨xs,hq⟩,q⟩:=q1
 subst e
 cases r1
 obtain ⟨its,rv,p,hz⟩:=I1.list hq
 refine O1 p.isList ?_
 refine ⟨s1.heap.objs.size,[s1.heap.objs.size],_,_,H1,Z,I1.kept (t':=s1.toks) fun b o e=>b7 _ e,QL a _,⟨_,eL _ rfl,Z,Z⟩,fun b hb=>?_,q⟩
 have e:b=s1.heap.objs.size:=by simpa using hb
 subst e
 exact I1.Bd (aN _) (I1.hok.fresh (aN _))
theorem Tw {R:It->Hp->Prop} {lo hi:Int} {t u v:Tok} {tk:Nat} (I:Inv X pins σ H s) (h1:-(2 ^ 62)<=lo) (h2:lo<2 ^ 62) (h3:-(2 ^ 62)<=hi) (h4:hi<2 ^ 62)
  (q:R (VD lo (hi-lo).toNat) H):wpAny (model X.prog X.w) X.A (pyIter (.ref s.heap.objs.size)) (PIE X pins σ tg R) E { s with heap:=s.heap.push { cls:= .type "range",data:= .fields #[.int lo t, .int hi u, .int 1 v] },toks:=tk }:=by
 refine wpAny_pyIter_range (IsRange.new ..) (small_one h1 h2 h3 h4) ?_
 have I1:Inv X pins σ H { s with heap:=s.heap.push { cls:= .type "range",data:= .fields #[.int lo t, .int hi u, .int 1 v] },toks:=tk }:=I.kept fun b o e=>b7 _ e
 refine ⟨(s.heap.push { cls:= .type "range",data:= .fields #[.int lo t, .int hi u, .int 1 v] }).objs.size,[(s.heap.push { cls:= .type "range",data:= .fields #[.int lo t, .int hi u, .int 1 v] }).objs.size],_,_,H,Z,
  I1.kept (t':=tk) fun b o e=>b7 _ e,O_ _ lo (hi-lo).toNat,?_,fun b hb=>?_,q⟩
 . have e1:lo+((0:Nat):Int)*1=lo:=by simp
   have e2:(((hi-lo).toNat:Nat):Int)-((0:Nat):Int)=Builtin.Range.rangeSize lo hi 1:=by rw [rangeSize_one];split <;> omega
   show IsRangeIter _ _ (lo+((0:Nat):Int)*1) ((((hi-lo).toNat:Nat):Int)-((0:Nat):Int)) 1
   rw [e1,e2]
   exact eL _ rfl
 . have e:b=(s.heap.push { cls:= .type "range",data:= .fields #[.int lo t, .int hi u, .int 1 v] }).objs.size:=by simpa using hb
   subst e
   exact I1.Bd (aN _) (I1.hok.fresh (aN _))
inductive Yp (R:It->Hp->Prop) (vs:List V) (H1:Hp):Prop
 | mk  (j:Int) (_:vs=[.int j]) (_:-(2 ^ 62)<=j) (_:j<2 ^ 62) (_:R (VD 0 j.toNat) H1)
def abB (ta:TA):TI:=fun σ H R=>ta σ H (Yp R)
def Cb (g:TG) (tb:TS) (D:Ends) (σ:St):It->Hp->Prop:=fun J H1=>∃W:Nat->Nat->St->Hp->Prop,(∃m,W 0 m σ H1)/\∀i m σ H,W i m σ H->
 (J.stop i H/\D.nx σ H)\/(J.go i H/\∃N:St->Hp->Prop,(∀σ' H',N σ' H'->∃m',m'<m/\W (i+1) m' σ' H')/\∀x H',J.yR i H x H'->g x σ H' (tb (D.lp N)))
def ae8 (wi:TI) (g:TG) (tb:TS):TS:=fun D σ H=>wi σ H (Cb g tb D σ)
def Cc (fp:List Addr) (h:Heap):List (Addr×Obj):=fp.filterMap fun b=>(h.get? b).map fun o=>(b,o)
theorem gW {o:Obj} (hb:b∈fp) (e:h.get? b=some o):(b,o)∈Cc fp h:=OW.mpr ⟨b,hb,by rw [e];rfl⟩
theorem QM {p:Addr×Obj} (hp:p∈Cc fp h):p.1∈fp/\h.get? p.1=some p.2:=by
 obtain ⟨b,hb,e⟩:=OW.mp hp
 cases q:h.get? b with
 | none=>rw [q] at e;cases e
 | some o=>
   rw [q] at e
   have e':(b,o)=p:=fu e
   subst e'
   exact ⟨hb,q⟩
theorem Inv.pinned (I:Inv X pins σ H s) (hf:∀b∈fp,k7 X pins H b) (ho:∀b∈fp,∃o,s.heap.get? b=some o/\∀v,o.data ≠ .cell v):Inv X (pins++Cc fp s.heap) σ H s:=
 I.Ny fun p hp=>(gb.mp hp).elim (fun z=>I.pin p (iA _ z)) fun z=>by
   obtain ⟨hb,e⟩:=QM z
   obtain ⟨f0,f1,f2,_⟩:=hf p.1 hb
   obtain ⟨o,e',d⟩:=ho p.1 hb
   rw [e] at e';cases e'
   exact ⟨e,f0,f1,f2,d⟩
theorem Inv.nL {pl:AO} (I:Inv X (pins++pl) σ H s):Inv X pins σ H s:=I.Ny fun p hp=>I.pin p (iA _ (A1 _ hp))
end
variable {tb:TS}
theorem k_ {g:TG} (Pv:Nat->St->Hp->Prop) (h0:Pv 0 σ H) (hl:∀i σ H,i<=xs.length->Pv i σ H->aK K H a xs)
  (hs:∀i x σ H,xs[i]?=some x->Pv i σ H->g x σ H (tb (D.lp (Pv (i+1))))) (hd:∀σ H,Pv xs.length σ H->D.nx σ H):
  Cb g tb D σ (yt K a) H:=by
 refine ⟨fun i m σ H=>m=xs.length-i/\i<=xs.length/\Pv i σ H,⟨xs.length,by simp,gh _,h0⟩,?_⟩
 rintro i m σ H ⟨rfl,hi,p⟩
 have q:=hl i σ H hi p
 by_cases hlt:i<xs.length
 . refine .inr ⟨⟨xs,xs[i],q,by simp [hlt]⟩,Pv (i+1),fun σ' H' p'=>⟨xs.length-(i+1),by omega,Z,hlt,p'⟩,fun x H' y=>?_⟩
   obtain ⟨e,y⟩:=y
   subst e
   exact hs i x σ _ (y xs q) p
 . have e:i=xs.length:=by omega
   subst e
   exact .inl ⟨⟨xs,q,aN _⟩,hd σ H p⟩
theorem lg {lo:Int} {n:Nat} {g:TG} (Pv:Nat->St->Hp->Prop) (h0:Pv 0 σ H)
  (hs:∀i σ H,i<n->Pv i σ H->g (.int (lo+i)) σ H (tb (D.lp (Pv (i+1))))) (hd:∀σ H,Pv n σ H->D.nx σ H):
  Cb g tb D σ (VD lo n) H:=by
 refine ⟨fun i m σ H=>m=n-i/\i<=n/\Pv i σ H,⟨n,by simp,gh _,h0⟩,?_⟩
 rintro i m σ H ⟨rfl,hi,p⟩
 by_cases hlt:i<n
 . refine .inr ⟨hlt,Pv (i+1),fun σ' H' p'=>⟨n-(i+1),by omega,Z,hlt,p'⟩,fun x H' y=>?_⟩
   obtain ⟨e,y⟩:=y
   subst e y
   exact hs i σ _ hlt p
 . have e:i=n:=by omega
   subst e
   exact .inl ⟨aN _,hd σ H p⟩
abbrev R2:=V->V->Hp->VK->Prop
def jm (X:Cx) (f:Value->Value->Sem Value) (r:R2):Prop:=
 ∀(pins:AO) (s:Shared) (σ:St) (H:Hp) (x y:V) (v u:Value) (Q:VK),Inv X pins σ H s->RelV x v->RelV y u->r x y H Q->
  wpAny (model X.prog X.w) X.A (f v u) (EP X pins σ Q) X.xe s
def Yq (X:Cx) (f:Value->Sem Value) (r:V->Hp->VK->Prop):Prop:=
 ∀(pins:AO) (s:Shared) (σ:St) (H:Hp) (x:V) (v:Value) (Q:VK),Inv X pins σ H s->RelV x v->r x H Q->
  wpAny (model X.prog X.w) X.A (f v) (EP X pins σ Q) X.xe s
def je (X:Cx) (f:Value) (r:List V->Hp->VK->Prop):Prop:=
 ∀(pins:AO) (s:Shared) (σ:St) (H:Hp) (xs:List V) (us:List Value) (Q:VK),Inv X pins σ H s->Vals xs us->r xs H Q->
  wpAny (model X.prog X.w) X.A (call f us) (EP X pins σ Q) X.xe s
def Yr (r:R2) (Q:VK) (x:V):V->Hp->Prop:=fun y H2=>r x y H2 Q
def ae9 (r:R2) (tb:TE) (σ:St) (Q:VK):V->Hp->Prop:=fun x H1=>tb σ H1 (Yr r Q x)
def Nz (r:R2) (ta tb:TE):TE:=fun σ H Q=>ta σ H (ae9 r tb σ Q)
def ae_ (r:V->Hp->VK->Prop) (Q:VK):V->Hp->Prop:=fun x H1=>r x H1 Q
def tUn (r:V->Hp->VK->Prop) (ta:TE):TE:=fun σ H Q=>ta σ H (ae_ r Q)
inductive rI (C:Int->Int->Prop) (g:Int->Int->V) (x:V) (y:V) (H:Hp) (Q:VK):Prop
 | mk  (i j:_) (_:x = .int i) (_:y = .int j) (_:C i j) (_:Q (g i j:_) H)
inductive AK (g:Int->Int->V) (x:V) (y:V) (H:Hp) (Q:VK):Prop
 | mk  (i j:_) (_:x = .int i) (_:y = .int j) (_:Q (g i j:_) H)
inductive rU (g:Int->V) (x:V) (H:Hp) (Q:VK):Prop
 | mk  (i:_) (_:x = .int i) (_:Q (g i:_) H)
section
variable {X:Cx} {a b c:Expr} {ta tb tc:TE} {pos:Pos}
theorem Tz (ha:PE X a ta) (hb:PE X b tb) {R:V->V->Hp->Prop} (I:Inv X pins σ H s)
  (h:ta σ H fun x H1=>tb σ H1 fun y H2=>R x y H2) {Q:VS} {f:Value->Value->Sem Value}
  (hf:∀v u s2 x y H2,Inv X pins σ H2 s2->RelV x v->RelV y u->R x y H2->wpAny (model X.prog X.w) X.A (f v u) Q X.xe s2):
  wpAny (model X.prog X.w) X.A (eval a X.env) (fun v s₁=>wpAny (model X.prog X.w) X.A (eval b X.env) (fun u s₂=>wpAny (model X.prog X.w) X.A (f v u) Q X.xe s₂) X.xe s₁) X.xe s:=by
 refine bh (ha pins s σ H _ I h) fun v s1 ⟨x,H1,I1,r1,q1⟩=>?_
 refine bh (hb pins s1 σ H1 _ I1 q1) fun u s2 ⟨y,H2,I2,r2,q2⟩=>?_
 exact hf v u s2 x y H2 I2 r1 r2 q2
theorem QN {f:Value->Value->Sem Value} {C:Int->Int->Prop} {g:Int->Int->Int}
  (rule:∀(i j:Int) (t u:Tok) (s:Shared) (Q:VS) (E:VS),C i j->Q (.int (g i j) s.toks) { s with toks:=s.toks+1 }->wpAny (model X.prog X.w) X.A (f (.int i t) (.int j u)) Q E s):
  jm X f (rI C fun i j=> .int (g i j)):=by
 intro pins s σ H x y v u Q I rx ry h
 obtain ⟨i,j,rfl,rfl,hc,q⟩:=h
 obtain ⟨t,rfl⟩:=rx
 obtain ⟨t',rfl⟩:=ry
 exact rule i j t t' s _ _ hc ⟨.int (g i j),H,I.tok _,⟨_,Z⟩,q⟩
theorem Ys {f:Value->Value->Sem Value} {g:Int->Int->Int}
  (rule:∀(i j:Int) (t u:Tok) (s:Shared) (Q:VS) (E:VS),Q (.int (g i j) s.toks) { s with toks:=s.toks+1 }->wpAny (model X.prog X.w) X.A (f (.int i t) (.int j u)) Q E s):
  jm X f (AK fun i j=> .int (g i j)):=by
 intro pins s σ H x y v u Q I rx ry h
 obtain ⟨i,j,rfl,rfl,q⟩:=h
 obtain ⟨t,rfl⟩:=rx
 obtain ⟨t',rfl⟩:=ry
 exact rule i j t t' s _ _ ⟨.int (g i j),H,I.tok _,⟨_,Z⟩,q⟩
theorem Pa {f:Value->Value->Sem Value} {g:Int->Int->Bool}
  (rule:∀(i j:Int) (t u:Tok) (s:Shared) (Q:VS) (E:VS),Q (.bool (g i j)) s->wpAny (model X.prog X.w) X.A (f (.int i t) (.int j u)) Q E s):
  jm X f (AK fun i j=> .bl (g i j)):=by
 intro pins s σ H x y v u Q I rx ry h
 obtain ⟨i,j,rfl,rfl,q⟩:=h
 obtain ⟨t,rfl⟩:=rx
 obtain ⟨t',rfl⟩:=ry
 exact rule i j t t' s _ _ ⟨.bl (g i j),H,I,Z,q⟩
def TF (i j:Int):Prop:=0<=j/\j<=1000000/\i.natAbs<2 ^ 64
def IV (i j:Int):Prop:=(-(2 ^ 64)<i/\i<2 ^ 64)\/(-(2 ^ 64)<j/\j<2 ^ 64)
theorem IV.ok {i j:Int} (h:IV i j):IntMulOk i j:=by
 rcases h with ⟨h1,h2⟩|⟨h1,h2⟩
 . exact .of_left (intBits_le_64 h1 h2)
 . exact .of_right (intBits_le_64 h1 h2)
theorem cT:jm X (binaryOp .Add) (AK fun i j=> .int (i+j)):=Ys fun _ _ _ _ _ _ _ q=>add_int q
theorem iZ:jm X (binaryOp .Sub) (AK fun i j=> .int (i-j)):=Ys fun _ _ _ _ _ _ _ q=>sub_int q
theorem gk:jm X (binaryOp .Mult) (rI IV fun i j=> .int (i*j)):=QN fun _ _ _ _ _ _ _ hc q=>mul_int q hc.ok
theorem ko:jm X (binaryOp .Mod) (rI (fun _ j=>0<j) fun i j=> .int (i % j)):=QN fun i j _ _ _ _ _ hc q=>by
 have h1:(0:Int)<j:=hc
 exact mod_int' (by omega) (by rw [Int.fmod_eq_emod_of_nonneg i (by omega)];exact q)
theorem mP:jm X (binaryOp .Pow) (rI TF fun i j=> .int (i ^ j.toNat)):=QN fun _ _ _ _ _ _ _ hc q=>pow_int_small hc.1 hc.2.1 hc.2.2 q
theorem unI {f:Value->Sem Value} {g:Int->Int}
  (rule:∀(i:Int) (t:Tok) (s:Shared) (Q:VS) (E:VS),Q (.int (g i) s.toks) { s with toks:=s.toks+1 }->wpAny (model X.prog X.w) X.A (f (.int i t)) Q E s):
  Yq X f (rU fun i=> .int (g i)):=by
 intro pins s σ H x v Q I rx h
 obtain ⟨i,rfl,q⟩:=h
 obtain ⟨t,rfl⟩:=rx
 exact rule i t s _ _ ⟨.int (g i),H,I.tok _,⟨_,Z⟩,q⟩
theorem IW:Yq X (unaryOp .USub) (rU fun i=> .int (-i)):=unI fun _ _ _ _ _ q=>neg_int q
end
def Yt:V->V->Bool
 | .b9, .b9=>true | .b9, .int _=>true | .int _, .b9=>true | .b9, .bl _=>true | .bl _, .b9=>true | .b9, .str _=>true | .str _, .b9=>true
 | .int _, .int _=>true | .bl _, .bl _=>true | .str _, .str _=>true | .yq _, .yq _=>true
 | .int _, .str _=>true | .str _, .int _=>true | .bl _, .str _=>true | .str _, .bl _=>true
 | _,_=>false
inductive rEq (x:V) (y:V) (H:Hp) (Q:VK):Prop
 | mk  (_:Yt x y=true) (_:Q (.bl (decide (x=y))) H)
inductive rNe (x:V) (y:V) (H:Hp) (Q:VK):Prop
 | mk  (_:Yt x y=true) (_:Q (.bl (!decide (x=y))) H)
theorem NB {i j:Int}:decide (V.int i=V.int j)=(i==j):=by
 rw [Ae]
 simp
theorem QO {i j:Bool}:decide (V.bl i=V.bl j)=(i==j):=by
 rw [Ae]
 simp
theorem NC {i j:Str}:decide (V.str i=V.str j)=(i==j):=by
 rw [Ae]
 simp
theorem ND {i j:Array UInt8}:decide (V.yq i=V.yq j)=(i.toList==j.toList):=by
 rw [Ae]
 cases i
 cases j
 simp
variable {op:CmpOp}
section
variable {X:Cx} {a b c:Expr} {ta tb tc:TE} {pos:Pos}
theorem dg {Q:VK} {k k':Bool} (I:Inv X pins σ H s) (q:Q (.bl k) H) (e:k=k'):EP X pins σ Q (.bool k') s:=by
 subst e
 exact ⟨.bl k,H,I,Z,q⟩
theorem dS:jm X (compareOp .Eq) rEq:=by
 intro pins s σ H x y v u Q I rx ry h
 obtain ⟨hs,q⟩:=h
 cases x with
 | b9=>
   cases rx
   cases y with
   | b9=>cases ry;exact PySem.EqNone.eq_none_none (dg I q (by simp))
   | bl j=>cases ry;exact PySem.EqNone.eq_none_bool (dg I q (by simp))
   | int j=>obtain ⟨t',rfl⟩:=ry;exact PySem.EqNone.eq_none_int (dg I q (by simp))
   | str j=>obtain ⟨t',rfl⟩:=ry;exact PySem.EqNone.eq_none_str (dg I q (by simp))
   | _=>exact absurd (show false=true from hs) fH
 | bl i=>
   cases rx
   cases y with
   | b9=>cases ry;exact PySem.EqNone.eq_bool_none (dg I q (by simp))
   | bl j=>cases ry;exact eq_bool (dg I q QO)
   | str j=>obtain ⟨t',rfl⟩:=ry;exact PySem.EqMixed.eq_bool_str (dg I q (by simp))
   | _=>exact absurd (show false=true from hs) fH
 | int i=>
   obtain ⟨t,rfl⟩:=rx
   cases y with
   | b9=>cases ry;exact PySem.EqNone.eq_int_none (dg I q (by simp))
   | int j=>obtain ⟨t',rfl⟩:=ry;exact eq_int (dg I q NB)
   | str j=>obtain ⟨t',rfl⟩:=ry;exact PySem.EqMixed.eq_int_str (dg I q (by simp))
   | _=>exact absurd (show false=true from hs) fH
 | str i=>
   obtain ⟨t,rfl⟩:=rx
   cases y with
   | b9=>cases ry;exact PySem.EqNone.eq_str_none (dg I q (by simp))
   | bl j=>cases ry;exact PySem.EqMixed.eq_str_bool (dg I q (by simp))
   | int j=>obtain ⟨t',rfl⟩:=ry;exact PySem.EqMixed.eq_str_int (dg I q (by simp))
   | str j=>obtain ⟨t',rfl⟩:=ry;exact eq_str (dg I q NC)
   | _=>exact absurd (show false=true from hs) fH
 | yq i=>
   obtain ⟨t,rfl⟩:=rx
   cases y with
   | yq j=>obtain ⟨t',rfl⟩:=ry;exact PySem.W.eq_bytes (dg I q ND)
   | _=>exact absurd (show false=true from hs) fH
 | _=>cases y <;> exact absurd (show false=true from hs) fH
theorem VF:jm X (compareOp .NotEq) rNe:=by
 intro pins s σ H x y v u Q I rx ry h
 obtain ⟨hs,q⟩:=h
 cases x with
 | b9=>
   cases rx
   cases y with
   | b9=>cases ry;exact PySem.EqNone.ne_none_none (dg I q (by simp))
   | bl j=>cases ry;exact PySem.EqNone.ne_none_bool (dg I q (by simp))
   | int j=>obtain ⟨t',rfl⟩:=ry;exact PySem.EqNone.ne_none_int (dg I q (by simp))
   | str j=>obtain ⟨t',rfl⟩:=ry;exact PySem.EqNone.ne_none_str (dg I q (by simp))
   | _=>exact absurd (show false=true from hs) fH
 | bl i=>
   cases rx
   cases y with
   | b9=>cases ry;exact PySem.EqNone.ne_bool_none (dg I q (by simp))
   | bl j=>cases ry;exact ne_bool (dg I q (j6 not QO))
   | str j=>obtain ⟨t',rfl⟩:=ry;exact PySem.EqMixed.ne_bool_str (dg I q (by simp))
   | _=>exact absurd (show false=true from hs) fH
 | int i=>
   obtain ⟨t,rfl⟩:=rx
   cases y with
   | b9=>cases ry;exact PySem.EqNone.ne_int_none (dg I q (by simp))
   | int j=>obtain ⟨t',rfl⟩:=ry;exact ne_int (dg I q (j6 not NB))
   | str j=>obtain ⟨t',rfl⟩:=ry;exact PySem.EqMixed.ne_int_str (dg I q (by simp))
   | _=>exact absurd (show false=true from hs) fH
 | str i=>
   obtain ⟨t,rfl⟩:=rx
   cases y with
   | b9=>cases ry;exact PySem.EqNone.ne_str_none (dg I q (by simp))
   | bl j=>cases ry;exact PySem.EqMixed.ne_str_bool (dg I q (by simp))
   | int j=>obtain ⟨t',rfl⟩:=ry;exact PySem.EqMixed.ne_str_int (dg I q (by simp))
   | str j=>obtain ⟨t',rfl⟩:=ry;exact ne_str (dg I q (j6 not NC))
   | _=>exact absurd (show false=true from hs) fH
 | yq i=>
   obtain ⟨t,rfl⟩:=rx
   cases y with
   | yq j=>obtain ⟨t',rfl⟩:=ry;exact PySem.W.ne_bytes (dg I q (j6 not ND))
   | _=>exact absurd (show false=true from hs) fH
 | _=>cases y <;> exact absurd (show false=true from hs) fH
theorem qV:jm X (compareOp .Lt) (AK fun i j=> .bl (decide (i<j))):=Pa fun _ _ _ _ _ _ _ q=>lt_int q
theorem VG:jm X (compareOp .LtE) (AK fun i j=> .bl (decide (i<=j))):=Pa fun _ _ _ _ _ _ _ q=>le_int q
theorem jn:jm X (compareOp .Gt) (AK fun i j=> .bl (decide (j<i))):=Pa fun _ _ _ _ _ _ _ q=>gt_int q
theorem Ij:jm X (compareOp .GtE) (AK fun i j=> .bl (decide (j<=i))):=Pa fun _ _ _ _ _ _ _ q=>ge_int q
theorem QS:jm X (compareOp .In) (fun x y H Q=>∃i j,x = .str i/\y = .str j/\Q (.bl (!(Builtin.Str.occurrences j i 0 j.length 1).isEmpty)) H):=by
 intro pins s σ H x y v u Q I rx ry h
 obtain ⟨i,j,rfl,rfl,q⟩:=h
 obtain ⟨t,rfl⟩:=rx
 obtain ⟨t',rfl⟩:=ry
 exact in_str (dg I q rfl)
theorem bf (b:Expr) (h:op ≠ .In:=by decide) (h2:op ≠ .NotIn:=by decide):behindInMarks op b=false:=by
 have e1:(op==CmpOp.In)=false:=by cases op <;> first|rfl|exact absurd rfl h
 have e2:(op==CmpOp.NotIn)=false:=by cases op <;> first|rfl|exact absurd rfl h2
 cases b <;> simp [behindInMarks,e1,e2]
inductive QT (Q:Bool->Hp->Prop) (x:V) (H':Hp):Prop
 | mk  (k:_) (_:x = .bl k) (_:Q k H')
def Pb (t:TE):TT:=fun σ H Q=>t σ H (QT Q)
inductive QU (r':R2) (tc:TE) (σ:St) (Q:VK) (y:V) (z:V) (H3:Hp):Prop
 | mk  (k:_) (_:z = .bl k) (_:(if k=true then tc σ H3 fun w' H4=>r' y w' H4 Q else Q (.bl false) H3))
def QV (r:R2) (r':R2) (tc:TE) (σ:St) (Q:VK) (x:V):V->Hp->Prop:=fun y H2=>r x y H2 (QU r' tc σ Q y)
def WG (r:R2) (r':R2) (tb:TE) (tc:TE) (σ:St) (Q:VK):V->Hp->Prop:=fun x H1=>tb σ H1 (QV r r' tc σ Q x)
def Yu (r r':R2) (ta tb tc:TE):TE:=fun σ H Q=>ta σ H (WG r r' tb tc σ Q)
theorem tW:(sizeLine:Nat)<2 ^ 63:=by rw [jI];decide
theorem Pc:jm X (binaryOp .Add) (fun x y H Q=>∃i j,x = .str i/\y = .str j/\i.length+j.length<=sizeLine/\Q (.str (i++j)) H):=by
 intro pins s σ H x y v u Q I rx ry h
 obtain ⟨i,j,rfl,rfl,hz,q⟩:=h
 obtain ⟨t,rfl⟩:=rx
 obtain ⟨t',rfl⟩:=ry
 exact add_str (fun t' tk=>⟨.str (i++j),H,I.tok _,⟨_,Z⟩,q⟩) hz
theorem vals1 {x:V} (r:Vals [x] us):∃u,us=[u]/\RelV x u:=by
 cases r with
 | cons r1 r2=>cases r2;exact ⟨_,Z,r1⟩
theorem vals2 {x:V} (r:Vals [x,y] us):∃u w',us=[u,w']/\RelV x u/\RelV y w':=by
 cases r with
 | cons r1 r2=>
   cases r2 with
   | cons r3 r4=>cases r4;exact ⟨_,_,Z,r1,r3⟩
theorem u0 (hc:X.calm=true):je X (.builtin "min") (fun xs H Q=>∃i j,xs=[.int i, .int j]/\Q (.int (if j<i then j else i)) H):=by
 intro pins s σ H xs us Q I r h
 obtain ⟨i,j,rfl,q⟩:=h
 obtain ⟨u,w',rfl,⟨t,rfl⟩,⟨t',rfl⟩⟩:=vals2 r
 refine min_two_ints (I.ok.hd hc) fun h' tk k=>⟨_,H,I.kept k,?_,q⟩
 by_cases hj:j<i
 . rw [aD hj,aD hj];exact ⟨_,Z⟩
 . rw [aB hj,aB hj];exact ⟨_,Z⟩
end
structure Be (h:Heap) (x dx C:Addr) (mA:SO):Prop where
 obj:h.get? x=some (PySem.W.instObj C dx)
 ns:h.Ns1 dx mA
 ne:dx≠x
theorem QW {mA:SO} (n:h.Ns1 dx mA):∃od,h.get? dx=some od/\∀name,PySem.W.lookIn name od=some (mA name):=by
 obtain ⟨o,es,ep,ho,hd,hk,_,hm⟩:=n
 refine ⟨o,ho,fun name=>?_⟩
 have e:=hm name
 unfold nsFind findBy at e
 rw [<-Array.find?_toList] at e
 unfold PySem.W.lookIn
 rw [hd]
 dsimp only
 split
 . rename_i y q
   rw [q] at e
   exact j6 some e
 . rename_i q
   rw [q] at e
   have a:es.toList.any (·.refKey)=false:=by
    rw [List.any_eq_false]
    intro y hy
    obtain ⟨z,t,hkey⟩:=hk y (Array.mem_toList_iff.mp hy)
    simp [DictEntry.refKey,hkey]
   have a':¬ es.toList.any (·.refKey)=true:=by rw [a];exact fH
   rw [aB a']
   exact j6 some e
variable {C:Addr}
theorem Be.look {x dx:Addr} {mA:SO} (I:Be h x dx C mA):∃od,PySem.W.InstAt h x (PySem.W.instObj C dx) C (some od)/\∀name,PySem.W.lookIn name od=some (mA name):=
 let ⟨od,ho,hl⟩:=QW I.ns
 ⟨od,⟨I.obj,Z,Z,ho⟩,hl⟩
variable {kw:List (Str×Value)}
section
variable {prog:Program} {w:World} {A:Around} {E:VS} {s:Shared} {K:Fg} {x dx C f:Addr} {mA:SO} {name:Str} {v:Value}
theorem get_map {expr:Bool} {Q:VS} (X:K.In s.heap) (I:Be s.heap x dx C mA) (hg:PySem.W.plainGet K C name=true) (hh:PySem.W.hasDictIn K C=true)
  (ha:PySem.W.findIn K (.ref C) name=some none) (hv:mA name=some v) (hv':PySem.W.handedIn v=true) (h:Q v { s with toks:=s.toks+1 }):
  wpAny (model prog w) A (getAttr (.ref x) name expr) Q E s:=by
 obtain ⟨od,J,hl⟩:=I.look
 exact PySem.W.get_value X J (PySem.W.plainGet_of hg).1 (PySem.W.findObj_own hh ha rfl (by rw [hl,hv])) hv' h
theorem TH {pl:Sem Bool} {Q:Value×List Value->Shared->Prop} (X:K.In s.heap) (I:Be s.heap x dx C mA) (hg:PySem.W.plainGet K C name=true)
  (hf:PySem.W.findIn K (.ref C) name=some (some (.ref f))) (ht:PySem.W.isFn K (.ref f)=true) (hv:mA name=none) (h:Q (.ref f,[.ref x]) s):
  wpAny (model prog w) A (getMethod (.ref x) name pl) Q E s:=by
 obtain ⟨od,J,hl⟩:=I.look
 exact PySem.W.method_fn X J (PySem.W.plainGet_of hg).1 (PySem.W.plainGet_of hg).2 hf (m7.mp ht) (by show (PySem.W.lookIn name od).map (·.isSome)=some false;rw [hl,hv];rfl) h
theorem WH {ns:List Str} (X:K.In s.heap) (I:Be s.heap x dx C mA)
  (hs:PySem.W.findIn K (.ref C) "__setattr__"=some (some (.builtin "object.__setattr__"))) (hp:PySem.W.plainOver K C=true) (ht:PySem.W.takerIn K C name=some none) (hh:PySem.W.hasDictIn K C=true)
  (hw:PySem.Within mA ns) (hsz:ns.length<=sizeLine)
  (h:∀h',Be h' x dx C (fun y=>if y=name then some v else mA y)->Heap.SameBut dx s.heap h'->Q () { s with heap:=h',toks:=s.toks+2 }):
  wpAny (model prog w) A (setAttr (.ref x) name v) Q E s:=by
 obtain ⟨od,J,hl⟩:=I.look
 refine PySem.W.set_plain X J hs (PySem.W.osa_open (s:={ s with toks:=s.toks+1 }) (r:=none) X J hp ht fun b=>?_)
 obtain ⟨cd,hc,hd'⟩:=PySem.W.any_some hh
 have hx:s.heap.get? x=some ⟨.ref C,some dx, .plain,#[]⟩:=I.obj
 refine az (aV (az (az (wpAny_loadPart hx (az (PySem.W.Looks.here (s:={ s with toks:=s.toks+1 }) (PySem.W.looks_clsIn X hc) ?_))))))
 rw [hd']
 refine aV (a:=some dx) (az (aV (az ?_)))
 refine wpAny_nsSet1 (s:={ s with toks:=s.toks+1 }) I.ns fun h' hn2 hs2=>?_
 obtain ⟨oD,esD,epD,hoD,hdD,hcD⟩:=hn2.count (PySem.Within.cons name v hw)
 refine az (wpAny_lookBehind hoD (by rw [hdD];exact pastItsLine_dict (gf hcD (by rw [jZ];omega))) ?_)
 exact aV (h _ ⟨(hs2.2 _ (bU I.ne)).trans I.obj,hn2,I.ne⟩ hs2)
theorem TJ {R:Result->Shared->Prop} {vs:List Value} (X:K.In s.heap) (hm:PySem.W.makesIn K C=true)
  (hi:PySem.W.findIn K (.ref C) "__init__"=some (some (.ref f))) (hf:PySem.W.typeIn K (.ref f)=some (.type "function"))
  (h:codeAny (model prog w) (A.under (.builtin "type.__call__" ⟨.ref C::vs,kw⟩)) (.call (.ref f) ⟨.ref (s.heap.objs.size+1)::vs,kw⟩) (PySem.W.InitBack (s.heap.objs.size+1) R)
    { s with heap:=(s.heap.push PySem.W.emptyDict).push (PySem.W.instObj C s.heap.objs.size) }):
  codeAny (model prog w) A (.call (.ref C) ⟨vs,kw⟩) R s:=by
 obtain ⟨hh,g,d,t,os⟩:=s
 exact PySem.W.make_core (PySem.W.makes_of X hm) (PySem.W.looks_findIn X hi) (fun self=>PySem.W.bind_fn X self hf) (.inl rfl) h
end
def aW (f:Str) (v:V):List (Str×V)->List (Str×V)
 | []=>[(f,v)]
 | (g,x)::r=>if g=f then (g,v)::r else (g,x)::aW f v r
theorem AL (f g:Str) (v:V):∀fs:List (Str×V),(aW f v fs).lookup g=if g=f then some v else fs.lookup g
 | []=>by
   show List.lookup g [(f,v)]=_
   by_cases h:g=f
   . have hb:(g==f)=true:=m7.mpr h
     simp only [List.lookup,hb,aD h]
   . have hb:(g==f)=false:=A3.mpr h
     simp only [List.lookup,hb,aB h]
 | (k,x)::r=>by
   have ih:=AL f g v r
   rw [show aW f v ((k,x)::r)=(if k=f then (k,v)::r else (k,x)::aW f v r) from rfl]
   by_cases hk:k=f
   . rw [aD hk]
     by_cases h:g=k
     . have hb:(g==k)=true:=m7.mpr h
       simp only [List.lookup,hb,aD (h.trans hk)]
     . have hb:(g==k)=false:=A3.mpr h
       simp only [List.lookup,hb,aB (fun e:g=f=>h (e.trans hk.symm))]
   . rw [aB hk]
     by_cases h:g=k
     . have hb:(g==k)=true:=m7.mpr h
       simp only [List.lookup,hb,aB (fun e:g=f=>hk (h.symm.trans e))]
     . have hb:(g==k)=false:=A3.mpr h
       simp only [List.lookup,hb]
       exact ih
theorem yS (f:Str) (v:V):∀fs:List (Str×V),f∈(aW f v fs).map (·.1)/\∀g,g∈fs.map (·.1)->g∈(aW f v fs).map (·.1)
 | []=>⟨by simp [aW],fun g h=>by simp at h⟩
 | (k,x)::r=>by
   obtain ⟨i1,i2⟩:=yS f v r
   rw [show aW f v ((k,x)::r)=(if k=f then (k,v)::r else (k,x)::aW f v r) from rfl]
   by_cases hk:k=f
   . rw [aD hk]
     subst hk
     exact ⟨by simp,fun g h=>by simpa using h⟩
   . rw [aB hk]
     refine ⟨?_,fun g h=>?_⟩
     . rw [bw]
       exact cD _ i1
     . rw [bw] at h ⊢
       rcases dz.mp h with e|e
       . exact dz.mpr (.inl e)
       . exact cD _ (i2 g e)
theorem AM (f:Str) (v:V):∀fs:List (Str×V),(aW f v fs).length<=fs.length+1
 | []=>by simp [aW]
 | (k,x)::r=>by
   have ih:=AM f v r
   rw [show aW f v ((k,x)::r)=(if k=f then (k,v)::r else (k,x)::aW f v r) from rfl]
   by_cases hk:k=f
   . rw [aD hk,jZ,jZ];omega
   . rw [aB hk,jZ,jZ];omega
theorem mE.some_of {v:V} {o:Option Value} (r:mE (some v) o):∃u,o=some u/\RelV v u:=by
 cases o with
 | none=>exact (show False from r).elim
 | some u=>exact ⟨u,Z,r⟩
theorem mE.none_of {o:Option Value} (r:mE none o):o=none:=by
 cases o with
 | none=>rfl
 | some u=>exact (show False from r).elim
theorem QX {v:V} (r:RelV v u):PySem.W.handedIn u=true:=by
 cases v with
 | b9=>cases (show u=Value.none from r);rfl
 | bl b=>cases (show u=Value.bool b from r);rfl
 | int i=>obtain ⟨t,e⟩:=(show ∃t,u=Value.int i t from r);cases e;rfl
 | str x=>obtain ⟨t,e⟩:=(show ∃t,u=Value.str x t from r);cases e;rfl
 | yq b=>obtain ⟨t,e⟩:=(show ∃t,u=Value.bytes b t from r);cases e;rfl
 | Vv b=>obtain ⟨t,e⟩:=(show ∃t,u=Value.float b t from r);cases e;rfl
 | ref a=>cases (show u=Value.ref a from r);rfl
 | ty n=>cases (show u=Value.type n from r);rfl
section
variable {P:Program} {w:World} {H H':Hp} {h h':Heap} {a C dx:Addr} {fs fs':List (Str×V)}
theorem D3 (hok:g_ P w H h) (e:H a=some (.ins C dx fs)):∃mA,Be h a dx C mA/\(∀f,mE (fs.lookup f) (mA f))/\PySem.Within mA (fs.map (·.1))/\fs.length<=1000/\H dx=some (.own a):=by
 obtain ⟨d,z,ne,ob,mA,n,r,q⟩:=(show eY P w H h a (.ins C dx fs) from hok a _ e)
 exact ⟨mA,⟨ob,n,ne⟩,r,q,z,d⟩
end
structure oQ (K:Fg) (C:Addr):Prop where
 pg:PySem.W.plainGet K C Str.empty=true
 hd:PySem.W.hasDictIn K C=true
 po:PySem.W.plainOver K C=true
 sa:PySem.W.findIn K (.ref C) "__setattr__"=some (some (.builtin "object.__setattr__"))
theorem oQ.get (c:oQ K C) (f:Str):PySem.W.plainGet K C f=true:=c.pg
def e_ (K:Fg) (C:Addr) (f:Str):Prop:=PySem.W.findIn K (.ref C) f=some none
theorem e_.taker {f:Str} (n:e_ K C f):PySem.W.takerIn K C f=some none:=by
 unfold PySem.W.takerIn
 rw [show PySem.W.findIn K (.ref C) f=some none from n]
 rfl
structure Meth (K:Fg) (C:Addr) (m:Str) (f:Addr):Prop where
 at_:PySem.W.findIn K (.ref C) m=some (some (.ref f))
 fn:PySem.W.isFn K (.ref f)=true
 kp:PySem.W.keepIn K (.ref f)=true
variable {env:Env}
section
variable {X:Cx} {pins:AO} {σ:St} {H:Hp} {s:Shared} {a C dx:Addr} {fs:List (Str×V)} {f:Str} {v:V} {A:Around} {E:VS}
theorem Cd {b:Bool} {Q:VS} (I:Inv X pins σ H s) (e:H a=some (.ins C dx fs)) (c:oQ X.K C) (n:e_ X.K C f) (l:fs.lookup f=some v)
  (h:∀u s',Inv X pins σ H s'->RelV v u->Q u s'):wpAny (model X.prog X.w) A (getAttr (.ref a) f b) Q E s:=by
 obtain ⟨mA,O,r,_,_,_⟩:=D3 I.hok e
 obtain ⟨u,hu,ru⟩:=mE.some_of (v:=v) (o:=mA f) (by rw [<-l];exact r f)
 exact get_map I.sU O (c.get f) c.hd n hu (QX ru) (h u _ (I.tok _) ru)
theorem Ce {m:Str} {g:Addr} {pl:Sem Bool} {Q:Value×List Value->Shared->Prop} (I:Inv X pins σ H s) (e:H a=some (.ins C dx fs)) (c:oQ X.K C) (k:Meth X.K C m g) (l:fs.lookup m=none)
  (h:Q (.ref g,[.ref a]) s):wpAny (model X.prog X.w) A (getMethod (.ref a) m pl) Q E s:=by
 obtain ⟨mA,O,r,_,_,_⟩:=D3 I.hok e
 have hn:mA m=none:=mE.none_of (by rw [<-l];exact r m)
 exact TH I.sU O (c.get m) k.at_ k.fn hn h
theorem Cf (I:Inv X pins σ H s) (e:H a=some (.ins C dx fs)) (c:oQ X.K C) (n:e_ X.K C f) (hl:fs.length<1000) (ry:RelV y u)
  (h:∀s',Inv X pins σ (upd H a (.ins C dx (aW f y fs))) s'->Q () s'):wpAny (model X.prog X.w) A (setAttr (.ref a) f u) Q E s:=by
 obtain ⟨mA,O,r,wi,_,ho⟩:=D3 I.hok e
 have hz:(fs.map (·.1)).length<=sizeLine:=by rw [aH,jI];omega
 refine WH I.sU O c.sa c.po n.taker c.hd wi hz fun h' O' sb=>h _ ?_
 have hd:∃o,h'.get? dx=some o:=let ⟨o,_,_,e',_⟩:=O'.ns;⟨o,e'⟩
 refine I.write (x:=a) (e:=dx) (by rw [e];exact True.intro) (.inr ho) (fun b q hb z=>(sb.2 b hb).trans z) hd ?_
 refine ⟨by rw [au O.ne];exact ho,?_,O.ne,O'.obj,_,O'.ns,fun g=>?_,fun g hg=>?_⟩
 . have:=AM f y fs;omega
 . show mE ((aW f y fs).lookup g) (if g=f then some u else mA g)
   rw [AL]
   by_cases q:g=f
   . rw [aD q,aD q];exact ry
   . rw [aB q,aB q];exact r g
 . by_cases q:g=f
   . rw [q];exact (yS f y fs).1
   . refine (yS f y fs).2 g (wi g fun z=>hg ?_)
     show (if g=f then some u else mA g)=none
     rw [aB q];exact z
theorem Inv.made (I:Inv X pins σ H s):Inv X pins σ (upd (upd H s.heap.objs.size (.own (s.heap.objs.size+1))) (s.heap.objs.size+1) (.ins C s.heap.objs.size []))
  { s with heap:=(s.heap.push PySem.W.emptyDict).push (PySem.W.instObj C s.heap.objs.size) }:=by
 have e1:(s.heap.push PySem.W.emptyDict).get? s.heap.objs.size=some PySem.W.emptyDict:=eL s.heap rfl
 have e2:((s.heap.push PySem.W.emptyDict).push (PySem.W.instObj C s.heap.objs.size)).get? (s.heap.objs.size+1)=some (PySem.W.instObj C s.heap.objs.size):=by
  have:=eL (s.heap.push PySem.W.emptyDict) (o:=PySem.W.instObj C s.heap.objs.size) rfl
  rwa [j0] at this
 have e3:(s.heap.push PySem.W.emptyDict).Ns s.heap.objs.size (fun _=>none):=⟨PySem.W.emptyDict,#[],_,e1,Z,(fun e he=>absurd he (by simp)),fun _=>rfl⟩
 have I1:=I.laid (a:=s.heap.objs.size) (o:= .own (s.heap.objs.size+1)) (h':=s.heap.push PySem.W.emptyDict) (t':=s.toks) (fun b u q=>b7 _ q) (aN _) ⟨_,e1⟩
 refine I1.laid (a:=s.heap.objs.size+1) (o:= .ins C s.heap.objs.size []) (t':=s.toks) (fun b u q=>b7 _ q) (Nat.le_of_eq (j0 _ _)) ?_
 have ne:s.heap.objs.size≠s.heap.objs.size+1:=ee (Nat.lt_succ_self _)
 refine ⟨by rw [au ne,ah],gh _,ne,e2,fun _=>none,(Heap.Ns1.of_empty e3).at fun o q=>b7 _ q,fun _=>True.intro,fun y hy=>absurd rfl hy⟩
theorem WI {prog:Program} {w:World} {f:Str} {s:Shared} {Q:VS} (hb:attributeBase e f env (eval e env)=eval e env)
  (h:wpAny (model prog w) A (eval e env) (fun o s₁=>wpAny (model prog w) A (getAttr o f true) Q E s₁) E s):wpAny (model prog w) A (eval (.Attribute e f pos) env) Q E s:=
 Attribute_any_ h (by rw [arm_eval_Attribute,hb])
end
inductive abC (K:Fg) (f:Str) (Q:VK) (x:V) (H1:Hp):Prop
 | mk  (a C dx fs v:_) (_:x = .ref a) (_:H1 a=some (.ins C dx fs)) (_:oQ K C) (_:e_ K C f) (_:fs.lookup f=some v) (_:Q v H1)
def Yv (K:Fg) (ta:TE) (f:Str):TE:=fun σ H Q=>ta σ H (abC K f Q)
inductive WJ (K:Fg) (f:Str) (D:Ends) (σ:St) (y:V) (x:V) (H2:Hp):Prop
 | mk  (a C dx fs:_) (_:x = .ref a) (_:H2 a=some (.ins C dx fs)) (_:oQ K C) (_:e_ K C f) (_:fs.length<1000) (_:D.nx σ (upd H2 a (.ins C dx (aW f y fs))))
def abD (K:Fg) (ta:TE) (f:Str) (D:Ends) (σ:St):V->Hp->Prop:=fun y H1=>ta σ H1 (WJ K f D σ y)
def Yw (K:Fg) (ta tv:TE) (f:Str):TS:=fun D σ H=>tv σ H (abD K ta f D σ)
def IZ (X:Cx) (op:Operator) (rd:V->V->Hp->VK->Prop):Prop:=
 ∀(pins:AO) (s:Shared) (σ:St) (H:Hp) (x y:V) (u v:Value) (Q:VK),Inv X pins σ H s->RelV x u->RelV y v->rd x y H Q->wpAny (model X.prog X.w) X.A (inplaceOp op u v) (EP X pins σ Q) X.xe s
inductive Pd (f:Str) (D:Ends) (σ:St) (a:Addr) (C:Addr) (z:V) (H3:Hp):Prop
 | mk  (Yx fs':_) (_:H3 a=some (.ins C Yx fs')) (_:fs'.length<1000) (_:D.nx σ (upd H3 a (.ins C Yx (aW f z fs'))))
def Pe (rd:V->V->Hp->VK->Prop) (f:Str) (D:Ends) (σ:St) (a:Addr) (C:Addr) (v:V):V->Hp->Prop:=fun y H2=>rd v y H2 (Pd f D σ a C)
inductive TL (K:Fg) (tv:TE) (rd:V->V->Hp->VK->Prop) (f:Str) (D:Ends) (σ:St) (x:V) (H1:Hp):Prop
 | mk  (a C dx fs v:_) (_:x = .ref a) (_:H1 a=some (.ins C dx fs)) (_:oQ K C) (_:e_ K C f) (_:fs.lookup f=some v) (_:tv σ H1 (Pe rd f D σ a C v))
def NF (K:Fg) (ta tv:TE) (rd:V->V->Hp->VK->Prop) (f:Str):TS:=fun D σ H=>ta σ H (TL K tv rd f D σ)
variable {rd:V->V->Hp->VK->Prop}
section
variable {X:Cx} {o e value:Expr} {f:Str} {pos pos' tpos:Pos} {ta tv:TE}
theorem Yy (he:PE X e ta) (hb:attributeBase e f X.env (eval e X.env)=eval e X.env):PE X (.Attribute e f pos) (Yv X.K ta f):=by
 intro pins s σ H Q I h
 refine WI hb (bh (he pins s σ H _ I h) fun u s1 ⟨x,H1,I1,rx,a,C,dx,fs,v,ex,ea,c,n,l,q⟩=>?_)
 subst ex
 obtain rfl:u=Value.ref a:=rx
 exact Cd I1 ea c n l fun u' s2 I2 ru=>⟨v,H1,I2,ru,q⟩
theorem Yz (ha:PE X o ta) (hv:PE X value tv) (hs:swapsWith value (some (.Attribute o f pos')) pos.line X.env=pure false):PS X (.Assign [.Attribute o f pos'] value pos) (Yw X.K ta tv f):=by
 intro pins s σ H D I h
 refine plainObj_wpAny_Assign_Attribute (bh (hv pins s σ H _ I h) fun u s1 ⟨y,H1,I1,ry,q⟩=>bh (ha pins s1 σ H1 _ I1 q) fun ov s2 ⟨x,H2,I2,rx,a,C,dx,fs,ex,ea,c,n,l,q2⟩=>?_) hs
 subst ex
 obtain rfl:ov=Value.ref a:=rx
 exact Cf I2 ea c n l ry fun s3 I3=>⟨σ,_,I3,q2⟩
theorem QY {op:Operator} (ha:PE X o ta) (hv:PE X value tv) (hop:IZ X op rd):PS X (.AugAssign (.Attribute o f tpos) op value pos) (NF X.K ta tv rd f):=by
 intro pins s σ H D I h
 refine wpAny_AugAssign_AttributeAny (bh (ha pins s σ H _ I h) fun ov s1 ⟨x,H1,I1,rx,a,C,dx,fs,v,ex,ea,c,n,l,q⟩=>?_)
 subst ex
 obtain rfl:ov=Value.ref a:=rx
 refine Cd I1 ea c n l fun u s2 I2 ru=>bh (hv pins s2 σ H1 _ I2 q) fun w3 s3 ⟨y,H2,I3,ry,q3⟩=>bh (hop pins s3 σ H2 v y u w3 _ I3 ru ry q3) fun w4 s4 ⟨z,H3,I4,rz,Yx,fs',ea',l',q4⟩=>?_
 exact Cf I4 ea' c n l' rz fun s5 I5=>⟨σ,_,I5,q4⟩
inductive afa (x:V) (y:V) (H:Hp) (Q:VK):Prop
 | mk  (i j:_) (_:x = .int i) (_:y = .int j) (_:Q (.int (i+j)) H)
inductive afb (x:V) (y:V) (H:Hp) (Q:VK):Prop
 | mk  (i j:_) (_:x = .int i) (_:y = .int j) (_:Q (.int (i-j)) H)
theorem YA:IZ X .Add afa:=by
 rintro pins s σ H x y u v Q I rx ry ⟨i,j,rfl,rfl,q⟩
 obtain ⟨t,rfl⟩:=(show ∃t,u=Value.int i t from rx)
 obtain ⟨t',rfl⟩:=(show ∃t',v=Value.int j t' from ry)
 exact PyProof.Rows.iadd_int ⟨.int (i+j),H,I.tok _,⟨_,Z⟩,q⟩
theorem I0:IZ X .Sub afb:=by
 rintro pins s σ H x y u v Q I rx ry ⟨i,j,rfl,rfl,q⟩
 obtain ⟨t,rfl⟩:=(show ∃t,u=Value.int i t from rx)
 obtain ⟨t',rfl⟩:=(show ∃t',v=Value.int j t' from ry)
 exact PyProof.Rows.isub_int ⟨.int (i-j),H,I.tok _,⟨_,Z⟩,q⟩
end
section
variable {X:Cx} {pins:AO} {σ:St} {H:Hp} {s:Shared} {A:Around} {E:VS} {Q:VS} {c:Value} {b:Bool}
end
structure dJ (k:Nat) (A:Around):Prop where
 hd:A.handled=none
 dp:A.depth+3*k+5<recursionLimit
 un:A.units+16*k+200<cLine
theorem dJ.mono {k:Nat} {A:Around} (r:dJ k A) (h:j<=k):dJ j A:=⟨r.hd,by have:=r.dp;omega,by have:=r.un;omega⟩
theorem dJ.deeper {k:Nat} {A:Around} (r:dJ (k+1) A) (env:Env):dJ k (A.deeper env):=
 ⟨r.hd,by have:=r.dp;show A.depth+1+3*k+5<_;omega,by have:=r.un;show A.units+3+16*k+200<_;omega⟩
theorem Pf {A:Around}:(A.under (.builtin "type.__call__" ⟨.ref C::us,kw⟩)).depth=A.depth+1:=by
 first|rfl|simp [Around.under,Code.weight,Code.isCreation,Code.isGuard,Code.isCaller,Code.frames,Code.isFrame,guardIds]
theorem Pg {A:Around}:(A.under (.builtin "type.__call__" ⟨.ref C::us,kw⟩)).units=A.units+1:=by
 first|rfl|simp [Around.under,Code.cUnits,Code.frames,Code.isFrame]
theorem dJ.make {k:Nat} {A:Around} (r:dJ (k+1) A) (C:Addr) (us:List Value) (kw:List (Str×Value)):dJ k (A.under (.builtin "type.__call__" ⟨.ref C::us,kw⟩)):=
 ⟨r.hd,by have:=r.dp;rw [Pf];omega,by have:=r.un;rw [Pg];omega⟩
theorem dJ.depth {k:Nat} {A:Around} (r:dJ k A):A.depth<recursionLimit:=by have:=r.dp;omega
theorem dJ.units {k:Nat} {A:Around} (r:dJ k A):A.units+64<cLine:=by have:=r.un;omega
def qc:TA:=fun _ H Q=>Q [] H
def TM (Q:List V->Hp->Prop) (x:V):List V->Hp->Prop:=fun xs H2=>Q (x::xs) H2
def YB (tr:TA) (σ:St) (Q:List V->Hp->Prop):V->Hp->Prop:=fun x H1=>tr σ H1 (TM Q x)
def Ik (ta:TE) (tr:TA):TA:=fun σ H Q=>ta σ H (YB tr σ Q)
section
variable {X:Cx} {e:Expr} {es:List Expr} {te:TE} {t:TA} {pos:Pos}
theorem QZ:PA X [] qc:=fun _ _ _ _ H Q I h=>Calls.spliced_nil ⟨[],H,I, .nil,h⟩
theorem NG (ha:PE X e te) (hr:PA X es t) (hs:starEach (e::es) X.env=(false,eval e X.env)::starEach es X.env:=by rfl):PA X (e::es) (Ik te t):=by
 intro pos pins s σ H Q I h
 rw [hs]
 show wpAny _ _ (spliced ((false,eval e X.env)::backTo pos (starEach es X.env))) _ _ s
 refine Calls.spliced_cons (bh (ha pins s σ H _ I h) fun u s1 ⟨x,H1,I1,r1,q1⟩=>?_)
 exact bh (hr pos pins s1 σ H1 _ I1 q1) fun us s2 ⟨xs,H2,I2,r2,q2⟩=>⟨x::xs,H2,I2, .cons r1 r2,q2⟩
inductive abE (Q:VK) (xs:List V) (H1:Hp):Prop
 | mk  (_:xs.length<=sizeLine) (_:∀p,H1 p=none->Q (.ref p) (upd H1 p (.tup xs)))
def afc (t:TA):TE:=fun σ H Q=>t σ H (abE Q)
inductive abF (Q:VK) (xs:List V) (H1:Hp):Prop
 | mk  (_:xs.length<=sizeLine) (_:∀p,H1 p=none->Q (.ref p) (upd H1 p (.lst xs)))
def afd (t:TA):TE:=fun σ H Q=>t σ H (abF Q)
end
abbrev Sp:=List V->Hp->VK->XK->Prop
abbrev wC:=List Env->Hp->Shared->XK->Value->Shared->Prop
structure Bf (P:Program) (w:World) (K:Fg) (mg:SO) (base:Heap) (A:Around) (outer:List Env) (s:Shared) (H:Hp):Prop where
 frames:A.frames=some outer
 mod:Mod K mg base
 bs:∀b o,base.get? b=some o->s.heap.get? b=some o/\H b=none
 Fc:base.objs.size<=s.heap.objs.size
 oN:s.heap.FunFrames base outer
 IP:∀b∈frs outer,H b=none
 hok:g_ P w H s.heap
 bare:AllBare s.gens
def CE (outer:List Env) (P:Program) (w:World) (H:Hp) (s:Shared) (Q:VK) (u:Value) (s':Shared):Prop:=
 ∃v H',s'.os=s.os/\AllBare s'.gens/\Un (frs outer) [] H H' s.heap s'.heap/\g_ P w H' s'.heap/\RelV v u/\Q v H'
def CR (CX:wC) (outer:List Env) (P:Program) (w:World) (H:Hp) (s:Shared) (Q:VK) (E:XK) (r:Result) (s':Shared):Prop:=
 match r with
 | .ok (.ret u)=>CE outer P w H s Q u s'
 | .ok _=>False
 | .error e=>CX outer H s E e s'
structure jf (P:Program) (w:World) (K:Fg) (mg:SO) (base:Heap) (CX:wC) (k:Nat) (f:Addr) (fd:FuncData) (ps:List Str) (sp:Sp):Prop where
 len:∀vs H Q E,sp vs H Q E->vs.length=ps.length
 run:∀(A:Around) (outer:List Env) (s:Shared) (H:Hp) (args:Args) (us:List Value) (vs:List V) (Q:VK) (E:XK),dJ k A->Bf P w K mg base A outer s H->BindsTo s fd args (ps.zip us)->Vals vs us->sp vs H Q E->
  codeAny (model P w) A (.call (.ref f) args) (CR CX outer P w H s Q E) s
variable {mg:SO} {base:Heap}
theorem Bf.make {w:World} {A:Around} {outer:List Env} (e:Bf P w K mg base A outer s H) (C:Addr) (us:List Value) (kw:List (Str×Value)):
  Bf P w K mg base (A.under (.builtin "type.__call__" ⟨.ref C::us,kw⟩)) outer s H:=⟨by first|exact e.frames|(simpa [Around.under,Code.envs,Code.isFrame,pushEnvs] using e.frames),e.mod,e.bs,e.Fc,e.oN,e.IP,e.hok,e.bare⟩
section
variable {X:Cx} {pins:AO} {σ:St} {H:Hp} {s s':Shared}
theorem Inv.YC (I:Inv X pins σ H s):Bf X.prog X.w X.K X.mg X.base X.A X.stack s H:=
 ⟨I.ok.frames,I.ok.mod,I.bs,gf I.ok.Fc I.sz,I.stack,I.Ak,I.hok,I.bare⟩
theorem Inv.after {Q:VK} (I:Inv X pins σ H s) (h:CE X.stack X.prog X.w H s Q u s'):EP X pins σ Q u s':=by
 obtain ⟨v,H',os,bare,un,hok,r,q⟩:=h
 obtain ⟨hh,g,d,t,os'⟩:=s'
 obtain rfl:os'=s.os:=os
 exact ⟨v,H',I.call (h':=hh) (g':=g) (d':=d) (t':=t) (ch:=[]) un hok bare (fun b z=>absurd z (by simp)),r,q⟩
end
def YD (sp:Sp) (i6:List V) (E:XK) (Q:VK):List V->Hp->Prop:=fun vs H1=>sp (vs++i6) H1 Q E
def Ph (sp:Sp) (i6:List V) (E:XK) (t:TA):TE:=fun σ H Q=>t σ H (YD sp i6 E Q)
def TN (sp:Sp) (i6:List V) (E:XK) (Q:VK) (x:V):List V->Hp->Prop:=fun vs H2=>sp (x::(vs++i6)) H2 Q E
inductive YE (C:Addr) (m:Str) (sp:Sp) (i6:List V) (E:XK) (t:TA) (σ:St) (Q:VK) (x:V) (H1:Hp):Prop
 | mk  (a dx fs:_) (_:x = .ref a) (_:H1 a=some (.ins C dx fs)) (_:fs.lookup m=none) (_:t σ H1 (TN sp i6 E Q x))
def Cg (C:Addr) (m:Str) (sp:Sp) (i6:List V) (E:XK) (ta:TE) (t:TA):TE:=fun σ H Q=>ta σ H (YE C m sp i6 E t σ Q)
def YF (C:Addr) (sp:Sp) (i6:List V) (E:XK) (Q:VK):List V->Hp->Prop:=fun vs H1=>∀x dx,H1 x=none->H1 dx=none->dx≠x->sp (.ref x::(vs++i6)) (upd (upd H1 dx (.own x)) x (.ins C dx [])) (fun v H2=>v = .b9/\Q (.ref x) H2) E
def Il (C:Addr) (sp:Sp) (i6:List V) (E:XK) (t:TA):TE:=fun σ H Q=>t σ H (YF C sp i6 E Q)
def Binds (K:Fg) (fd:FuncData) (ps:List Str) (ds:List Value):Prop:=
 ∀(s:Shared) (us:List Value),K.In s.heap->(us++ds).length=ps.length->BindsTo s fd ⟨us,[]⟩ (ps.zip (us++ds))
variable {fd:FuncData} {ps:List Str}
theorem Binds.all (h:∀us:List Value,us.length=ps.length->bindArgs fd ⟨us,[]⟩=pure (ps.zip us)):Binds K fd ps [] :=fun s us _ hl=>by
 rw [Af] at hl ⊢
 exact .of_eq (h us hl)
def Passes (CX:wC) (X:Cx) (E:XK):Prop:=∀(pins:AO) (σ:St) (H:Hp) (s:Shared) (e:Value) (s':Shared),Inv X pins σ H s->CX X.stack H s E e s'->X.xe e s'
variable {vs:List V}
section
variable {X:Cx} {CX:wC} {k:Nat} {f C:Addr} {fd:FuncData} {ps:List Str} {sp:Sp} {i6:List V} {ds:List Value} {E:XK} {x m:Str} {p pos apos:Pos} {e o:Expr} {es:List Expr} {ta:TE} {t:TA}
theorem I_ {Q:VK} (F:jf X.prog X.w X.K X.mg X.base CX k f fd ps sp) (hr:dJ k X.A) (hb:Binds X.K fd ps ds) (hd:Vals i6 ds) (hx:Passes CX X E)
  (I:Inv X pins σ H s) (r:Vals vs us) (h:sp (vs++i6) H Q E):wpAny (model X.prog X.w) X.A (call (.ref f) us) (EP X pins σ Q) X.xe s:=by
 have r2:Vals (vs++i6) (us++ds):=r.append hd
 have hl:(us++ds).length=ps.length:=by rw [<-r2.length];exact F.len _ _ _ _ h
 refine wpAny_call (B4 (F.run X.A X.stack s H ⟨us,[]⟩ (us++ds) (vs++i6) Q E hr I.YC (hb s us I.sU hl) r2 h) fun r s' hq=>?_)
 cases r with
 | error e=>exact hx pins σ H s e s' I hq
 | ok fl=>
   cases fl with
   | ret u=>exact I.after hq
   | next=>exact False.elim hq
   | brk=>exact False.elim hq
   | cont=>exact False.elim hq
theorem NH (F:jf X.prog X.w X.K X.mg X.base CX k f fd ps sp) (hr:dJ k X.A) (hg:Gl X x) (hm:X.mg x=some (.ref f)) (hk:PySem.W.keepIn X.K (.ref f)=true) (hb:Binds X.K fd ps ds) (hd:Vals i6 ds) (hx:Passes CX X E)
  (ha:PA X (e::es) t) (hdb:(x==("__debug__":Str))=false:=by decide) (he:starEach (e::es) X.env=(false,eval e X.env)::starEach es X.env:=by rfl) (hpl:(backTo pos (starEach es X.env)).any (·.1)=false:=by rfl):
  PE X (.Call (.Name x p) (e::es) [] pos) (Ph sp i6 E t):=by
 intro pins s σ H Q I h
 refine ID (wm I hg hm ?_ hdb)
 refine PySem.W.callWith_K (h₀:=X.base) I.ok.mod.QJ hk (bh (ha pos pins s σ H _ I h) fun us s1 ⟨vs,H1,I1,r,q⟩=>⟨I1.sU,?_⟩) he hpl
 exact I_ F hr hb hd hx I1 r q
theorem NI {pl:Sem Bool} (he:PE X o ta) (c:oQ X.K C) (hm:Meth X.K C m f) (F:jf X.prog X.w X.K X.mg X.base CX k f fd ps sp) (hr:dJ k X.A) (hb:Binds X.K fd ps ds) (hd:Vals i6 ds) (hx:Passes CX X E) (ha:PA X (e::es) t)
  (hst:starEach (e::es) X.env=(false,eval e X.env)::starEach es X.env:=by rfl) (hpl:(backTo pos (starEach es X.env)).any (·.1)=false:=by rfl)
  (ht:eval (.Call (.Attribute o m apos) (e::es) [] pos) X.env=(do
    let ov <-eval o X.env
    standAt apos.atName
    let (f,first) <-holding [ov] (getMethod ov m pl)
    callWith pos f first (backTo pos (starEach (e::es) X.env)) (backToKw pos (keywordEach [] X.env))):=by rfl):
  PE X (.Call (.Attribute o m apos) (e::es) [] pos) (Cg C m sp i6 E ta t):=by
 intro pins s σ H Q I h
 refine PySem.W.methodCall_KW (pl:=pl) (bh (he pins s σ H _ I h) fun u s1 ⟨x,H1,I1,rx,a,dx,fs,ex,ea,l,q⟩=>?_) ht
 subst ex
 obtain rfl:u=Value.ref a:=rx
 refine Ce I1 ea c hm l ?_
 refine PySem.W.callWith_K (first:=[.ref a]) (h₀:=X.base) I.ok.mod.QJ hm.kp (bh (ha pos pins s1 σ H1 _ I1 q) fun us s2 ⟨vs,H2,I2,r,q2⟩=>⟨I2.sU,?_⟩) hst hpl
 exact I_ (us:= .ref a::us) (vs:= .ref a::vs) F hr hb hd hx I2 (.cons rfl r) q2
theorem TQ {pl:Sem Bool} (he:PE X o ta) (c:oQ X.K C) (hm:Meth X.K C m f) (F:jf X.prog X.w X.K X.mg X.base CX k f fd ps sp) (hr:dJ k X.A) (hb:Binds X.K fd ps ds) (hd:Vals i6 ds) (hx:Passes CX X E)
  (ht:eval (.Call (.Attribute o m apos) [] [] pos) X.env=(do
    let ov <-eval o X.env
    standAt apos.atName
    let (f,first) <-holding [ov] (getMethod ov m pl)
    callWith pos f first (backTo pos (starEach [] X.env)) (backToKw pos (keywordEach [] X.env))):=by rfl):
  PE X (.Call (.Attribute o m apos) [] [] pos) (Cg C m sp i6 E ta qc):=by
 intro pins s σ H Q I h
 refine PySem.W.methodCall_KW (pl:=pl) (bh (he pins s σ H _ I h) fun u s1 ⟨x,H1,I1,rx,a,dx,fs,ex,ea,l,q⟩=>?_) ht
 subst ex
 obtain rfl:u=Value.ref a:=rx
 refine Ce I1 ea c hm l ?_
 exact PySem.W.callWith_K0 (first:=[.ref a]) I1.sU hm.kp (I_ (us:=[.ref a]) (vs:=[.ref a]) F hr hb hd hx I1 (.cons rfl .nil) q)
structure Mk (K:Fg) (C f:Addr):Prop where
 makes:PySem.W.makesIn K C=true
 init:PySem.W.findIn K (.ref C) "__init__"=some (some (.ref f))
 fn:PySem.W.isFn K (.ref f)=true
 kp:PySem.W.keepIn K (.ref C)=true
theorem Ja {Q:VK} (M:Mk X.K C f) (F:jf X.prog X.w X.K X.mg X.base CX k f fd ps sp) (hr:dJ (k+1) X.A) (hb:Binds X.K fd ps ds) (hd:Vals i6 ds)
  (hx:Passes CX X E) (I:Inv X pins σ H s) (r:Vals vs us)
  (h:∀x dx,H x=none->H dx=none->dx≠x->sp (.ref x::(vs++i6)) (upd (upd H dx (.own x)) x (.ins C dx [])) (fun v H2=>v = .b9/\Q (.ref x) H2) E):
  wpAny (model X.prog X.w) X.A (call (.ref C) us) (EP X pins σ Q) X.xe s:=by
 have hq:=h (s.heap.objs.size+1) s.heap.objs.size (I.hok.fresh (Aj _)) (I.hok.fresh (aN _)) (ee (Nat.lt_succ_self _))
 have I2:=Inv.made (C:=C) I
 have r2:Vals (V.ref (s.heap.objs.size+1)::(vs++i6)) (Value.ref (s.heap.objs.size+1)::(us++ds)):= .cons rfl (r.append hd)
 have hl:(Value.ref (s.heap.objs.size+1)::us++ds).length=ps.length:=by
  have e:=r2.length
  rw [F.len _ _ _ _ hq] at e
  exact e.symm
 refine wpAny_call (TJ (f:=f) I.sU M.makes M.init (m7.mp M.fn) (B4 (F.run _ X.stack _ _ ⟨Value.ref (s.heap.objs.size+1)::us,[]⟩ (Value.ref (s.heap.objs.size+1)::(us++ds)) _ _ E (hr.make C us [])
  (I2.YC.make C us []) (hb _ (Value.ref (s.heap.objs.size+1)::us) I2.sU hl) r2 hq) fun r s' hq'=>?_))
 cases r with
 | error e=>exact hx pins σ _ _ e s' I2 hq'
 | ok fl=>
   cases fl with
   | ret u=>
     obtain ⟨v,H',I3,rv,ev,q3⟩:=I2.after hq'
     subst ev
     exact ⟨rv,⟨V.ref (s.heap.objs.size+1),H',I3,Z,q3⟩⟩
   | next=>exact False.elim hq'
   | brk=>exact False.elim hq'
   | cont=>exact False.elim hq'
theorem WK (M:Mk X.K C f) (F:jf X.prog X.w X.K X.mg X.base CX k f fd ps sp) (hr:dJ (k+1) X.A) (hg:Gl X x) (hm:X.mg x=some (.ref C)) (hb:Binds X.K fd ps ds) (hd:Vals i6 ds) (hx:Passes CX X E)
  (ha:PA X (e::es) t) (hdb:(x==("__debug__":Str))=false:=by decide) (he:starEach (e::es) X.env=(false,eval e X.env)::starEach es X.env:=by rfl) (hpl:(backTo pos (starEach es X.env)).any (·.1)=false:=by rfl):
  PE X (.Call (.Name x p) (e::es) [] pos) (Il C sp i6 E t):=by
 intro pins s σ H Q I h
 refine ID (wm I hg hm ?_ hdb)
 refine PySem.W.callWith_K (h₀:=X.base) I.ok.mod.QJ M.kp (bh (ha pos pins s σ H _ I h) fun us s1 ⟨vs,H1,I1,r,q⟩=>⟨I1.sU,?_⟩) he hpl
 exact Ja M F hr hb hd hx I1 r q
theorem TR (M:Mk X.K C f) (F:jf X.prog X.w X.K X.mg X.base CX k f fd ps sp) (hr:dJ (k+1) X.A) (hg:Gl X x) (hm:X.mg x=some (.ref C)) (hb:Binds X.K fd ps ds) (hd:Vals i6 ds) (hx:Passes CX X E)
  (hdb:(x==("__debug__":Str))=false:=by decide):PE X (.Call (.Name x p) [] [] pos) (Il C sp i6 E qc):=by
 intro pins s σ H Q I h
 refine ID (wm I hg hm ?_ hdb)
 exact PySem.W.callWith_K0 I.sU M.kp (Ja (us:=[]) M F hr hb hd hx I .nil h)
end
section
variable {X:Cx} {CX:wC} {k:Nat} {f C:Addr} {fd:FuncData} {ps ks:List Str} {sp:Sp} {E:XK} {x m:Str} {p pos apos kpos:Pos} {e o:Expr} {es:List Expr} {kws:List Keyword} {te ta:TE} {t tk:TA} {nm:Option Str}
variable {g:List Value->List Value->List Value} {gV:List V->List V->List V}
end
structure aR (N P:List Str) (sc:Scope):Prop where
 kind:sc.kind = .function
 co:sc.isCoroutine=false
 gen:sc.isGenerator=false
 nd:N.Nodup
 pre:N.take P.length=P
 par:∀x∈P,sc.names.lookup x=some .local\/sc.names.lookup x=some .cell
 YG:∀y∈sc.names,y.2 ≠ .free
theorem Fe {kindOf:Str->Option NameKind} {x:Str}:∀{binds:List (Str×Value)} {m:SO},(∀v,(x,v)∉binds)->bindL kindOf binds m x=m x
 | [],_,_=>rfl
 | (n,v)::r,m,h=>by
   unfold bindL
   rw [Fe fun w hw=>h w (cD _ hw)]
   split
   . have:x≠n:=by rintro rfl;exact h v cS
     simp [this]
   . rfl
theorem Ff {kindOf:Str->Option NameKind} {x:Str}:∀{binds:List (Str×Value)} {m:SO},(∀v,(x,v)∉binds)->bindC kindOf binds m x=m x
 | [],_,_=>rfl
 | (n,v)::r,m,h=>by
   unfold bindC
   rw [Ff fun w hw=>h w (cD _ hw)]
   split
   . rfl
   . have:x≠n:=by rintro rfl;exact h v cS
     simp [this]
theorem Fi {kindOf:Str->Option NameKind} {x:Str} {v:Value}:∀{P:List Str} {vs:List Value} {i:Nat} {m:SO},P.Nodup->P[i]?=some x->vs[i]?=some v->kindOf x=some .local->
  bindL kindOf (P.zip vs) m x=some v
 | [],_,_,_,_,h,_,_=>by simp at h
 | _::_,[],_,_,_,_,h,_=>by simp at h
 | p::P,w::vs,0,m,nd,h1,h2,hk=>by
   simp at h1 h2;subst h1;subst h2
   show bindL kindOf ((p,w)::P.zip vs) m p=_
   unfold bindL
   rw [Fe fun v hv=>(fP.mp nd).1 (List.of_mem_zip hv).1,aD hk]
   simp
 | p::P,w::vs,i+1,m,nd,h1,h2,hk=>by
   show bindL kindOf ((p,w)::P.zip vs) m x=_
   unfold bindL
   exact Fi (i:=i) (fP.mp nd).2 (by simpa using h1) (by simpa using h2) hk
theorem Fj {kindOf:Str->Option NameKind} {x:Str} {v:Value}:∀{P:List Str} {vs:List Value} {i:Nat} {m:SO},P.Nodup->P[i]?=some x->vs[i]?=some v->kindOf x≠some .local->
  bindC kindOf (P.zip vs) m x=some v
 | [],_,_,_,_,h,_,_=>by simp at h
 | _::_,[],_,_,_,_,h,_=>by simp at h
 | p::P,w::vs,0,m,nd,h1,h2,hk=>by
   simp at h1 h2;subst h1;subst h2
   show bindC kindOf ((p,w)::P.zip vs) m p=_
   unfold bindC
   rw [Ff fun v hv=>(fP.mp nd).1 (List.of_mem_zip hv).1,aB hk]
   simp
 | p::P,w::vs,i+1,m,nd,h1,h2,hk=>by
   show bindC kindOf ((p,w)::P.zip vs) m x=_
   unfold bindC
   exact Fj (i:=i) (fP.mp nd).2 (by simpa using h1) (by simpa using h2) hk
def start (N:List Str) (vs:List V):St:=vs.map some++List.replicate (N.length-vs.length) none
def cM (CX:wC) (P:Program) (w:World) (K:Fg) (mg:SO) (base:Heap) (N:List Str) (qual:Str) (scope:Scope) (f:Addr) (cd:Value) (A:Around) (outer:List Env) (s:Shared) (H:Hp) (E:XK):Cx where
 prog:=P
 w:=w
 K:=K
 mg:=mg
 base:=base
 A:=A.deeper (envOfC qual scope s.heap.objs.size f cd)
 N:=N
 s₀:=s
 H₀:=H
 env:=envOfC qual scope s.heap.objs.size f cd
 outer:=outer
 stack:=envOfC qual scope s.heap.objs.size f cd::outer
 ex:=[]
 calm:=true
 fn:=fun _=>true
 pn:=[]
 xe:=fun e s'=>wpAny (model P w) (A.deeper (envOfC qual scope s.heap.objs.size f cd)) (leaving (envOfC qual scope s.heap.objs.size f cd) e) (fun _ s''=>CX outer H s E e s'') (fun e' s''=>CX outer H s E e' s'') s'
theorem Jb {sc:Scope} {n:Nat} (h:sc.names.lookup x=some .cell):∃c,(cellsFrom n sc.names []).lookup x=some c:=by
 have q:=PySem.W.cellsFrom_some sc.names n [] (.inl h)
 exact Option.isSome_iff_exists.mp q
variable {qual:Str} {scope:Scope} {f:Addr}
theorem Q0 {CX:wC} {w:World} {cd:Value} {A:Around} {outer:List Env} {s1:Shared} {E:XK}
  (S:aR N ps scope) (hd:A.handled=none) (e0:Bf P w K mg base A outer s H) (hl:vs.length=ps.length) (r:Vals vs us)
  (x:InCallC s s.heap.objs.size (bindL (envOfC qual scope s.heap.objs.size f cd).kindOf (ps.zip us) fun _=>none) (cellsFrom (s.heap.objs.size+1) scope.names []) (bindC (envOfC qual scope s.heap.objs.size f cd).kindOf (ps.zip us) fun _=>none) s1):
  Inv (cM CX P w K mg base N qual scope f cd A outer s H E) [] (start N vs) H s1:=by
 have hpl:ps.length<=N.length:=by have:=j6 List.length S.pre;rw [nK] at this;omega
 obtain ⟨h1,tk,rfl,hk⟩:=x.done
 have Q2:∀b:Addr,b∉(cM CX P w K mg base N qual scope f cd A outer s H E).ex:=fun b z=>absurd (show b∈([] :List Addr) from z) (by simp)
 refine ⟨⟨e0.mod,S.kind,Z,Z,aN _,fun y z c h1 h2=>?_,fun y hy=>?_,fun y c _ h=>?_,fun _=>hd,Around.frames_deeper e0.frames, .inr ⟨Z,Z⟩,fun b z=>absurd z (Q2 b),e0.bs,e0.Fc,fun b _ _=>Q2 b,fun b z=>absurd z (Q2 b),e0.oN,e0.IP⟩,
  rfl,e0.bare,Un.kept hk,⟨_,x.toInCall.ns,fun i y v h1 h2 h3=>?_⟩,fun y c h=>⟨_,x.cell y c h⟩,e0.hok.fresh (aN _),fun y c h=>?_,fun p hp=>absurd (show p∈([] :AO) from hp) (by simp),e0.hok.kept hk,?_⟩
 . exact name_of_addr x.apart (xy h1) (xy h2)
 . have hy:scope.names.lookup y=some .cell\/scope.names.lookup y=some .free:=hy
   rcases hy with hy|hy
   . exact Jb hy
   . exact absurd rfl (S.YG _ (xy hy))
 . exact B0 (x.above y c (xy h))
 . have hi:i<vs.length:=by
    unfold start at h2
    by_cases hi:i<vs.length
    . exact hi
    . rw [BW (by simpa using hi)] at h2
      rw [List.getElem?_replicate] at h2
      split at h2 <;> cases h2
   have ha:vs[i]?=some v:=by
    unfold start at h2
    rw [yI (by simpa using hi),cA] at h2
    cases e:vs[i]? with
    | none=>rw [e] at h2;cases h2
    | some a=>rw [e] at h2;cases h2;rfl
   obtain ⟨u,hu,rv⟩:=r.get ha
   have hp:ps[i]?=some y:=by
    rw [<-S.pre,List.getElem?_take_of_lt (by omega)];exact h1
   have ndP:ps.Nodup:=by rw [<-S.pre];exact S.nd.sublist (O2 _ _)
   refine ⟨u,rv,?_⟩
   rcases S.par y (cg hp) with k|k
   . exact .inl ⟨k,Fi ndP hp hu k⟩
   . obtain ⟨c,e⟩:=Jb (n:=s.heap.objs.size+1) k
     refine .inr ⟨.inl k,c,e,?_⟩
     have q:=x.cell y c e
     rw [Fj ndP hp hu (by show scope.names.lookup y≠_;rw [k];decide)] at q
     exact q
 . exact e0.hok.fresh (B0 (x.above y c (xy h)))
 . unfold start
   show _=N.length
   rw [dj,aH,nI]
   omega
variable {body:List Stmt} {doc pm cdv ct oc:Value} {an od:Option Addr}
theorem Pj {CX:wC} {w:World} {k:Nat} {name:Str} {params:Arguments} {dV kV:Value}
  {osl:Array (Option Value)} {N ps:List Str} {sp:Sp} (lk:K.lookup f=some ⟨oc,od, .func (PySem.W.fnOf name qual params body scope dV kV doc pm an cdv ct),osl⟩) (hcd:PySem.W.codeIn K cdv qual=true) (S:aR N ps scope)
  (len:∀vs H Q E,sp vs H Q E->vs.length=ps.length)
  (hbody:∀(A:Around) (outer:List Env) (s:Shared) (H:Hp) (vs:List V) (Q:VK) (E:XK),dJ k (A.deeper (envOfC qual scope s.heap.objs.size f cdv))->sp vs H Q E->
    ∃t,p7 (cM CX P w K mg base N qual scope f cdv A outer s H E) body t/\t { nx:=fun _ H'=>Q .b9 H',rt:=Q } (start N vs) H):
  jf P w K mg base CX (k+1) f (PySem.W.fnOf name qual params body scope dV kV doc pm an cdv ct) ps sp:=by
 refine ⟨len,fun A outer s H args us vs Q E hr e0 hb r oR=>?_⟩
 have hl:=len _ _ _ _ oR
 have KX:K.In s.heap:=e0.mod.QJ.keeps fun b o e=>(e0.bs b o e).1
 have lim:s.heap.NoLimit:=e0.mod.nolimit.keeps fun b o e=>(e0.bs b o e).1
 have hkind:∀y∈ps.zip us,scope.names.lookup y.1=some .local\/(scope.names.lookup y.1=some .cell/\((cellsFrom (s.heap.objs.size+1) scope.names []).lookup y.1).isSome=true):=fun ⟨n,v⟩ hy=>by
  rcases S.par n (List.of_mem_zip hy).1 with q|q
  . exact .inl q
  . exact .inr ⟨q,PySem.W.cellsFrom_some _ _ _ (.inl q)⟩
 refine codeAny_call_function hr.depth (KX _ _ lk) rfl S.co S.gen rfl (PySem.W.codeRec_of KX hcd) (hb _ _ _ _ ?_)
 refine wpAny_newFunctionEnv_cells S.kind hkind fun env he s1 x=>?_
 subst he
 refine ⟨lim.keeps x.toInCall.keep,codeAny_func ?_⟩
 obtain ⟨t,ht,hq⟩:=hbody A outer s H vs Q E (hr.deeper _) oR
 have I:Inv (cM CX P w K mg base N qual scope f cdv A outer s H E) [] (start N vs) H s1:=Q0 S hr.hd e0 hl r x
 refine gj (ht [] s1 (start N vs) H _ I hq) (fun fl s' hs=>?_) fun e s' hs=>hs
 have fin:∀{σ':St} {H':Hp} {v:V} {u:Value},Inv (cM CX P w K mg base N qual scope f cdv A outer s H E) [] σ' H' s'->RelV v u->Q v H'->CE outer P w H s Q u s':=
  fun {σ' H' v u} J rv q=>⟨v,H',J.os,J.bare,J.base,J.hok,rv,q⟩
 cases fl with
 | ret u=>
   obtain ⟨v,σ',H',J,rv,q⟩:=hs
   exact fin J rv q
 | next=>
   obtain ⟨σ',H',J,q⟩:=hs
   exact fin (v:=V.b9) (u:=Value.none) J rfl q
 | brk=>
   obtain ⟨_,_,_,q⟩:=hs
   exact False.elim q
 | cont=>
   obtain ⟨_,_,_,q⟩:=hs
   exact False.elim q
section
variable {X:Cx} {x:Str} {p pos:Pos} {e:Expr} {es:List Expr} {t:TA} {id T:String} {r:List V->Hp->VK->Prop}
def afe (r:List V->Hp->VK->Prop) (Q:VK):List V->Hp->Prop:=fun vs H1=>r vs H1 Q
def YH (r:List V->Hp->VK->Prop) (t:TA):TE:=fun σ H Q=>t σ H (afe r Q)
end
end L2
namespace HT
open PySem PyProof.Rows
section
open PySem.SeqAt
open PySem.AutoSeq1 (wpAny_loadPart')
open PySem.MeetsSeq PySem.MeetsSeq2 PySem.MeetsSeq3
end
section
variable {prog:Program} {w:World} {A:Around} {E:VS} {s:Shared}
end
end HT
namespace L2
open PySem PySem.Spec PyProof.Rows
variable {ns:List Int}
theorem intsAre_of:∀{us:List Value},Vals (ns.map V.int) us->IntsAre us ns:=by
 induction ns with
 | nil=>intro us r;rw [List.map_nil] at r;cases r;exact .nil
 | cons n ns ih=>
   intro us r
   rw [bw] at r
   cases r with
   | cons r1 r2=>
     obtain ⟨t,e⟩:=r1
     subst e
     exact .cons n t (ih r2)
section
variable {X:Cx} {e:Expr} {te:TE} {lo hi:Option Expr} {tl th:TO} {pos p2:Pos}
end
def Ci (n:Nat) (i:Int):Option Nat:=if 0<=i then (if i<n then some i.toNat else none) else if -(n:Int)<=i then some (i+n).toNat else none
def rH {α:Type} (xs:List α) (i:Int):Option α:=(Ci xs.length i).bind fun j=>xs[j]?
variable {j:Nat}
theorem NJ {n:Nat} {i:Int} (h:Ci n i=some j):seqIndex? i n=some j/\j<n/\-(n:Int)<=i/\i<n:=by
 unfold Ci at h
 by_cases h0:0<=i
 . rw [aD h0] at h
   by_cases h1:i<n
   . rw [aD h1] at h
     have e:i.toNat=j:=fu h
     exact ⟨by rw [seqIndex_of h0 h1,e],by omega,by omega,h1⟩
   . rw [aB h1] at h;cases h
 . rw [aB h0] at h
   by_cases h1:-(n:Int)<=i
   . rw [aD h1] at h
     have e:(i+n).toNat=j:=fu h
     exact ⟨by rw [seqIndex_neg (by omega) h1,e],by omega,h1,by omega⟩
   . rw [aB h1] at h;cases h
theorem Am {α:Type} {xs:List α} {i:Int} {v:α} (h:rH xs i=some v):∃j,seqIndex? i xs.length=some j/\xs[j]?=some v/\j<xs.length/\-(xs.length:Int)<=i/\i<xs.length:=by
 unfold rH at h
 cases e:Ci xs.length i with
 | none=>rw [e] at h;cases h
 | some j=>
   rw [e] at h
   obtain ⟨h1,h2,h3,h4⟩:=NJ e
   exact ⟨j,h1,h,h2,h3,h4⟩
theorem aA {α:Type} {xs:List α} {v:α} (h:xs[j]?=some v):rH xs (j:Int)=some v:=by
 have hj:j<xs.length:=(dO.mp h).1
 have e:Ci xs.length (j:Int)=some j:=by
  unfold Ci
  rw [aD (by omega),aD (by omega)];simp
 unfold rH;rw [e];exact h
def WL (b:Expr):Prop:=∀o i,subscripted b false o i=operate [o,i] (getItem o i)
def yu (X:Cx) (r:R2):Prop:=
 ∀(value slice:Expr) (pins:AO) (s:Shared) (σ:St) (H:Hp) (x y:V) (v u:Value) (Q:VK),Inv X pins σ H s->RelV x v->RelV y u->r x y H Q->
  subscripted slice false v u=operate [v,u] (getItem v u)->wpAny (model X.prog X.w) X.A (subscriptTail value slice v u) (EP X pins σ Q) X.xe s
def MtR (X:Cx) (id:String) (r:V->List V->Hp->VK->Prop):Prop:=
 ∀(pins:AO) (s:Shared) (σ:St) (H:Hp) (x:V) (xs:List V) (v:Value) (us:List Value) (Q:VK),Inv X pins σ H s->RelV x v->Vals xs us->r x xs H Q->
  wpAny (model X.prog X.w) X.A (call (.builtin id) (v::us)) (EP X pins σ Q) X.xe s
variable {pins:AO} {σ:St} {H:Hp} {s:Shared} {xs ys:List V} {its its':List Value} {y:V} {u:Value}
section
variable {X:Cx} {a b:Expr} {ta tb:TE} {pos:Pos}
theorem yu.or {r r':R2} (h:yu X r) (h':yu X r'):yu X (fun x y H Q=>r x y H Q\/r' x y H Q):=by
 intro value slice pins s σ H x y v u Q I rx ry q hs
 rcases q with q|q
 . exact h value slice pins s σ H x y v u Q I rx ry q hs
 . exact h' value slice pins s σ H x y v u Q I rx ry q hs
inductive Pk (K:Fg) (x:V) (y:V) (H:Hp) (Q:VK):Prop
 | mk  (p xs i v:_) (_:x = .ref p) (_:y = .int i) (_:aK K H p xs) (_:rH xs i=some v) (_:Q v H)
inductive TU (K:Fg) (x:V) (y:V) (H:Hp) (Q:VK):Prop
 | mk  (p xs i v:_) (_:x = .ref p) (_:y = .int i) (_:dm K H p xs) (_:rH xs i=some v) (_:Q v H)
inductive YI (x:V) (y:V) (H:Hp) (Q:VK):Prop
 | mk  (z i c:_) (_:x = .str z) (_:y = .int i) (_:z.length<=sizeLine) (_:rH z.cps.toList i=some c) (_:Q (.str ⟨#[c]⟩) H)
theorem NK:yu X (Pk X.K):=by
 intro value slice pins s σ H x y v u Q I rx ry h hs
 obtain ⟨p,xs,i,z,rfl,rfl,hq,he,q⟩:=h
 cases rx
 obtain ⟨t,rfl⟩:=ry
 obtain ⟨its,r,pl,hz⟩:=I.list hq
 obtain ⟨j,h1,h2,h3,h4,h5⟩:=Am he
 obtain ⟨w,ew,rw'⟩:=r.get h2
 have hl:=r.length
 have hn:=tW
 have fin:EP X pins σ Q w s:=⟨z,H,I,rw',q⟩
 by_cases h0:0<=i
 . have hj:i.toNat=j:=by
    rw [seqIndex_of h0 h5] at h1
    exact fu h1
   exact item_listR pl.isList h0 (by omega) (by rw [hj];simpa using ew) fin hs
 . have hj:(i+(its.toArray.size:Int)).toNat=j:=by
    rw [seqIndex_neg (by omega) h4] at h1
    rw [iK,<-hl]
    exact fu h1
   exact subscriptTail_builtinR (x:=w) pl.isList.typeIs slot_list_getitem.lookup
    (wpAny_getItem_list_neg (Q:=fun r s'=>r=w/\EP X pins σ Q r s') pl.isList (by omega) (by rw [iK] <;> omega) (by omega) (by rw [hj];simpa using ew) ⟨Z,fin⟩) hs
theorem Q3:yu X (TU X.K):=by
 intro value slice pins s σ H x y v u Q I rx ry h hs
 obtain ⟨p,xs,i,z,rfl,rfl,hq,he,q⟩:=h
 cases rx
 obtain ⟨t,rfl⟩:=ry
 obtain ⟨its,r,pl,hz⟩:=I.tuple hq
 obtain ⟨j,h1,h2,h3,h4,h5⟩:=Am he
 obtain ⟨w,ew,rw'⟩:=r.get h2
 have hl:=r.length
 have hn:=tW
 have fin:EP X pins σ Q w s:=⟨z,H,I,rw',q⟩
 exact subscriptTail_builtinR (x:=w) pl.typeIs slot_tuple_getitem.lookup
  (getItem_tuple (j:=j) (Q:=fun r s'=>r=w/\EP X pins σ Q r s') pl (by omega) (by omega) (by rw [iK,<-hl];exact h1) (by simpa using ew) ⟨Z,fin⟩) hs
theorem Q5:yu X YI:=by
 intro value slice pins s σ H x y v u Q I rx ry h hs
 obtain ⟨z,i,c,rfl,rfl,hz,he,q⟩:=h
 obtain ⟨t,rfl⟩:=rx
 obtain ⟨t',rfl⟩:=ry
 obtain ⟨j,h1,h2,h3,h4,h5⟩:=Am he
 have hl:z.cps.toList.length=z.length:=by simp [Str.length]
 rw [hl] at h1 h4 h5
 have hn:=tW
 exact tail_any (typeIs_str s z t) slot_str_getitem.lookup (getItem_str (c:=c) (by
  have e1:decide (i < -(2 ^ 63:Int))=false:=dw (by omega)
  have e2:decide (i≥2 ^ 63)=false:=dw (by omega)
  rw [e1,e2,Bool.or_false]) (by rw [h1];simpa using h2) ⟨.str ⟨#[c]⟩,H,I.tok _,⟨_,Z⟩,q⟩) hs
def YJ (K:Fg):R2:=fun x y H Q=>Pk K x y H Q\/TU K x y H Q\/YI x y H Q
theorem YK:yu X (YJ X.K):=NK.or (Q3.or Q5)
theorem Pn (its:List Value) (n j:Nat) (u:Value):Obj.mapSeq (·.setIfInBounds j u) { cls:= .type "list",data:= .seq its.toArray n }={ cls:= .type "list",data:= .seq (its.set j u).toArray n }:=by
 simp [Obj.mapSeq]
theorem Inv.lst {pins:AO} {σ:St} {H:Hp} {s:Shared} {p:Addr} {xs:List V} (I:Inv X pins σ H s) (h:H p=some (.lst xs)):
  ∃(its:List Value) (n:Nat),Vals xs its/\s.heap.get? p=some { cls:= .type "list",data:= .seq its.toArray n }/\xs.length<=sizeLine:=by
 obtain ⟨z,its,n,r,e⟩:=I.hok p _ h
 exact ⟨its,n,r,e,z⟩
theorem Inv.YL {p:Addr} {n n':Nat} {f:Obj->Obj} (I:Inv X pins σ H s) (h:H p=some (.lst xs))
  (ho:s.heap.get? p=some { cls:= .type "list",data:= .seq its.toArray n }) (hf:f { cls:= .type "list",data:= .seq its.toArray n }={ cls:= .type "list",data:= .seq its'.toArray n' }) (r:Vals ys its') (hz:ys.length<=sizeLine) (t:Nat):
  Inv X pins σ (upd H p (.lst ys)) { s with heap:=s.heap.update p f,toks:=t }:=by
 have e:(s.heap.update p f).get? p=some { cls:= .type "list",data:= .seq its'.toArray n' }:=by
  rw [OR f ho (by rw [hf] <;> rfl),hf]
 refine I.write (x:=p) (e:=p) (by rw [h];trivial) (.inl rfl) (fun b u hb q=>(Heap.get?_update_other _ _ (bU hb)).trans q) ⟨_,e⟩ ?_
 exact ⟨hz,its',n',r,e⟩
inductive abG (o:V) (i:V) (v:V) (H:Hp) (Q:Hp->Prop):Prop
 | mk  (p xs k j:_) (_:o = .ref p) (_:i = .int k) (_:H p=some (.lst xs)) (_:Ci xs.length k=some j) (_:Q (upd H p (.lst (xs.set j v))))
theorem set_list:To X abG:=by
 intro pins s σ H o i v ov iv u Q I ro ri rv h
 obtain ⟨p,xs,k,j,rfl,rfl,hp,hj,q⟩:=h
 cases ro
 obtain ⟨t,rfl⟩:=ri
 obtain ⟨its,n,r,ho,hz⟩:=I.lst hp
 obtain ⟨h1,h2,h3,h4⟩:=NJ hj
 have hl:=r.length
 have hn:=tW
 have I':Inv X pins σ (upd H p (.lst (xs.set j v))) { s with heap:=s.heap.update p (Obj.mapSeq (·.setIfInBounds j u)) }:=
  I.YL hp ho (Pn its n j u) (r.set rv j) (by rw [iL];exact hz) s.toks
 by_cases h0:0<=k
 . have hk:k.toNat=j:=by
    rw [seqIndex_of h0 h4] at h1
    exact fu h1
   exact PySem.W.ki_setAt ho h0 (by omega) (by rw [iK,<-hl];exact h4) (by rw [hk];exact ⟨_,I',q⟩)
 . have hk:(k+(its.toArray.size:Int)).toNat=j:=by
    rw [seqIndex_neg (by omega) h3] at h1
    rw [iK,<-hl]
    exact fu h1
   exact PySem.W.ki_setBack ho (by omega) (by rw [iK,<-hl];exact h3) (by omega) (by rw [hk];exact ⟨_,I',q⟩)
def qW:V->Bool
 | .b9=>true
 | .bl _=>true
 | .int _=>true
 | .str _=>true
 | _=>false
def yv:V->V->Bool
 | .b9, .b9=>true
 | .bl a, .bl b=>a==b
 | .bl a, .int b=>(if a then 1 else 0)==b
 | .int a, .bl b=>a==(if b then 1 else 0)
 | .int a, .int b=>a==b
 | .str a, .str b=>a==b
 | _,_=>false
theorem YM {A:Around} {x:V} {v:Value} (ry:RelV y u) (rx:RelV x v) (fy:qW y=true) (fx:qW x=true):SeqAt.EqAt A s u v (yv y x):=by
 cases y with
 | b9=>
   cases ry
   cases x with
   | b9=>cases rx;exact SeqAt.EqAt.same _
   | bl b=>cases rx;exact SeqAt.EqAt.none_bool b
   | int b=>obtain ⟨t,rfl⟩:=rx;exact SeqAt.EqAt.none_int b t
   | str b=>obtain ⟨t,rfl⟩:=rx;exact SeqAt.EqAt.none_str b t
   | _=>exact absurd (show false=true from fx) fH
 | bl a=>
   cases ry
   cases x with
   | b9=>cases rx;exact SeqAt.EqAt.bool_none a
   | bl b=>cases rx;exact SeqAt.EqAt.bool_bool a b
   | int b=>obtain ⟨t,rfl⟩:=rx;exact SeqAt.EqAt.bool_int a b t
   | str b=>obtain ⟨t,rfl⟩:=rx;exact SeqAt.EqAt.bool_str a b t
   | _=>exact absurd (show false=true from fx) fH
 | int a=>
   obtain ⟨t',rfl⟩:=ry
   cases x with
   | b9=>cases rx;exact SeqAt.EqAt.int_none a t'
   | bl b=>cases rx;exact SeqAt.EqAt.int_bool a t' b
   | int b=>obtain ⟨t,rfl⟩:=rx;exact SeqAt.EqAt.int_int a t' b t
   | str b=>obtain ⟨t,rfl⟩:=rx;exact SeqAt.EqAt.int_str a t' b t
   | _=>exact absurd (show false=true from fx) fH
 | str a=>
   obtain ⟨t',rfl⟩:=ry
   cases x with
   | b9=>cases rx;exact SeqAt.EqAt.str_none a t'
   | bl b=>cases rx;exact SeqAt.EqAt.str_bool a t' b
   | int b=>obtain ⟨t,rfl⟩:=rx;exact SeqAt.EqAt.str_int a t' b t
   | str b=>obtain ⟨t,rfl⟩:=rx;exact SeqAt.EqAt.str_str a t' b t
   | _=>exact absurd (show false=true from fx) fH
 | _=>exact absurd (show false=true from fy) fH
def tX (x:V) (u:Value):Bool:=match u with
 | .none=>yv .b9 x
 | .bool b=>yv (.bl b) x
 | .int i _=>yv (.int i) x
 | .str z _=>yv (.str z) x
 | _=>false
theorem Q6 {x:V} (r:RelV y u) (f:qW y=true):tX x u=yv y x:=by
 cases y with
 | b9=>cases r;rfl
 | bl b=>cases r;rfl
 | int i=>obtain ⟨t,rfl⟩:=r;rfl
 | str z=>obtain ⟨t,rfl⟩:=r;rfl
 | _=>exact absurd (show false=true from f) fH
theorem wD {x:V}:∀{xs:List V} {us:List Value},Vals xs us->xs.all qW=true->us.any (tX x)=xs.any fun y=>yv y x
 | _,_, .nil,_=>rfl
 | y::xs,u::us, .cons r t,f=>by
   rw [List.all_cons,IK] at f
   rw [BZ,BZ,Q6 r f.1,wD t f.2]
theorem tY {A:Around} {s:Shared} {x:V} {v:Value} (rx:RelV x v) (fx:qW x=true):∀{xs:List V} {us:List Value},Vals xs us->xs.all qW=true->∀u∈us,SeqAt.EqAt A s u v (tX x u)
 | _,_, .nil,_=>fun u hu=>by cases hu
 | y::xs,u::us, .cons r t,f=>fun u' hu=>by
   rw [List.all_cons,IK] at f
   rcases dz.mp hu with rfl|hu
   . rw [Q6 r f.1];exact YM r rx f.1 fx
   . exact tY rx fx t f.2 u' hu
def Fl (x:V) (xs:List V):Bool:=xs.any fun y=>yv y x
inductive rIn (K:Fg) (neg:Bool) (x:V) (y:V) (H:Hp) (Q:VK):Prop
 | mk  (p xs:_) (_:y = .ref p) (_:(aK K H p xs\/dm K H p xs)) (_:qW x=true) (_:xs.all qW=true) (_:Q (.bl (if neg then !Fl x xs else Fl x xs)) H)
theorem Q7:jm X (compareOp .In) (rIn X.K false):=by
 intro pins s σ H x y v u Q I rx ry h
 obtain ⟨p,xs,rfl,hq,fx,fs,q⟩:=h
 cases ry
 rcases hq with hq|hq
 . obtain ⟨its,r,pl,hz⟩:=I.list hq
   refine SeqAt.in_listAt (tX x) pl.isList (fun w hw=>tY rx fx r fs w (by simpa using hw)) ⟨.bl _,H,I,Z,?_⟩
   rw [show its.toArray.any (tX x)=its.any (tX x) by simp,wD r fs]
   exact q
 . obtain ⟨its,r,pl,hz⟩:=I.tuple hq
   refine SeqAt.in_tupleAt (tX x) pl (fun w hw=>tY rx fx r fs w (by simpa using hw)) ⟨.bl _,H,I,Z,?_⟩
   rw [show its.toArray.any (tX x)=its.any (tX x) by simp,wD r fs]
   exact q
theorem Jc:jm X (compareOp .NotIn) (rIn X.K true):=by
 intro pins s σ H x y v u Q I rx ry h
 obtain ⟨p,xs,rfl,hq,fx,fs,q⟩:=h
 cases ry
 rcases hq with hq|hq
 . obtain ⟨its,r,pl,hz⟩:=I.list hq
   refine SeqAt.notIn_listAt (tX x) pl.isList (fun w hw=>tY rx fx r fs w (by simpa using hw)) ⟨.bl _,H,I,Z,?_⟩
   rw [show its.toArray.any (tX x)=its.any (tX x) by simp,wD r fs]
   exact q
 . obtain ⟨its,r,pl,hz⟩:=I.tuple hq
   refine SeqAt.notIn_tupleAt (tX x) pl (fun w hw=>tY rx fx r fs w (by simpa using hw)) ⟨.bl _,H,I,Z,?_⟩
   rw [show its.toArray.any (tX x)=its.any (tX x) by simp,wD r fs]
   exact q
theorem Jd:je X (.builtin "len") (fun xs H Q=>∃p ys,xs=[.ref p]/\(aK X.K H p ys\/dm X.K H p ys)/\Q (.int ys.length) H):=by
 intro pins s σ H xs us Q I r h
 obtain ⟨p,ys,rfl,hq,q⟩:=h
 obtain ⟨u,rfl,rx⟩:=vals1 r
 cases rx
 have hn:=tW
 rcases hq with hq|hq
 . obtain ⟨its,r',pl,hz⟩:=I.list hq
   have hlen:=r'.length
   exact Calls.call_len_list pl.isList (by simp only [iK] <;> omega) ⟨.int ys.length,H,I.tok _,⟨s.toks+1,by rw [iK,hlen]⟩,q⟩
 . obtain ⟨its,r',pl,hz⟩:=I.tuple hq
   have hlen:=r'.length
   exact len_tuple pl (by simp only [iK] <;> omega) ⟨.int ys.length,H,I.tok _,⟨s.toks+1,by rw [iK,hlen]⟩,q⟩
theorem Je:je X (.builtin "len") (fun xs H Q=>∃z,xs=[.str z]/\z.length<=sizeLine/\Q (.int z.length) H):=by
 intro pins s σ H xs us Q I r h
 obtain ⟨z,rfl,hz,q⟩:=h
 obtain ⟨u,rfl,t,rfl⟩:=vals1 r
 have hn:=tW
 exact len_str (by omega) ⟨.int z.length,H,I.tok _,⟨_,Z⟩,q⟩
theorem Jf:je X (.type "list") (fun xs H Q=>∃p ys,xs=[.ref p]/\(aK X.K H p ys\/dm X.K H p ys)/\∀l,H l=none->Q (.ref l) (upd H l (.lst ys))):=by
 intro pins s σ H xs us Q I r h
 obtain ⟨p,ys,rfl,hq,q⟩:=h
 obtain ⟨u,rfl,rx⟩:=vals1 r
 cases rx
 have fin:∀(its:List Value),Vals ys its->ys.length<=sizeLine->∀(h':Heap) (c':Nat),(∀b o',s.heap.get? b=some o'->h'.get? b=some o')->
   h'.get? s.heap.objs.size=some { cls:= .type "list",dict:=none,data:= .seq its.toArray c',slots:=#[] }->EP X pins σ Q (.ref s.heap.objs.size) { s with heap:=h' }:=fun its r' hz h' c' kp e=>
  ⟨.ref s.heap.objs.size,_,I.laid (t':=s.toks) kp (aN _) (show eY X.prog X.w _ h' _ (.lst ys) from ⟨hz,its,c',r',e⟩),Z,q _ (I.hok.fresh (aN _))⟩
 rcases hq with hq|hq
 . obtain ⟨its,r',pl,hz⟩:=I.list hq
   have hlen:=r'.length
   obtain ⟨o,ho,hc,n,hd⟩:=pl.isList
   exact call_list_seq p (.inl rfl) ho hc hd (fun h' c' kp e=>fin its r' hz h' c' kp e) (by simp only [iK] <;> omega)
 . obtain ⟨its,r',pl,hz⟩:=I.tuple hq
   have hlen:=r'.length
   obtain ⟨o,ho,hc,n,hd⟩:=pl
   exact call_list_seq p (.inr rfl) ho hc hd (fun h' c' kp e=>fin its r' hz h' c' kp e) (by simp only [iK] <;> omega)
theorem GG:je X (.type "tuple") (fun xs H Q=>∃p ys,xs=[.ref p]/\((aK X.K H p ys/\∀l,H l=none->Q (.ref l) (upd H l (.tup ys)))\/(dm X.K H p ys/\Q (.ref p) H))):=by
 intro pins s σ H xs us Q I r h
 obtain ⟨p,ys,rfl,h⟩:=h
 obtain ⟨u,rfl,rx⟩:=vals1 r
 cases rx
 rcases h with ⟨hq,q⟩|⟨hq,q⟩
 . obtain ⟨its,r',pl,hz⟩:=I.list hq
   have hlen:=r'.length
   refine call_tuple_list pl.isList (fun h' kp=>?_) (by simp only [iK] <;> omega)
   have I1:Inv X pins σ H { s with heap:=h' }:=I.kept (t':=s.toks) kp
   have I2:Inv X pins σ (upd H h'.objs.size (.tup ys)) { s with heap:=h'.push { cls:= .type "tuple",data:= .seq its.toArray } }:=
    I1.laid (t':=s.toks) (fun b o e=>b7 _ e) (aN _) (show eY X.prog X.w _ _ _ (.tup ys) from ⟨hz,its,r',IsTup.new _ _⟩)
   exact ⟨.ref h'.objs.size,_,I2,Z,q _ (I1.hok.fresh (aN _))⟩
 . obtain ⟨its,r',pl,hz⟩:=I.tuple hq
   exact call_tuple_same pl ⟨.ref p,H,I,Z,q⟩
def tyV (K:Fg) (T:String) (x:V) (H:Hp):Prop:=match x with
 | .str _=>T = "str"
 | .int _=>T = "int"
 | .ref p=>(T = "list"/\∃xs,aK K H p xs)\/(T = "tuple"/\∃o,K.lookup p=some o/\o.cls = .type "tuple"/\o.dict=none)\/
     (T = "dict"/\((∃kvs,H p=some (.dK kvs))\/∃kvs,H p=some (.dT kvs)))\/(T = "set"/\∃S n,H p=some (.set S n))
 | _=>False
theorem YN {T:String} {x:V} {v:Value} (I:Inv X pins σ H s) (r:RelV x v) (ty:tyV X.K T x H):
  s.TypeIs v T/\∀a,v = .ref a->∃ob,s.heap.get? a=some ob/\ob.dict=none:=by
 cases x with
 | str z=>
   obtain ⟨t,rfl⟩:=r
   cases (show T = "str" from ty)
   exact ⟨typeIs_str s z t,fun _ e=>nomatch e⟩
 | int i=>
   obtain ⟨t,rfl⟩:=r
   cases (show T = "int" from ty)
   exact ⟨typeIs_int s i t,fun _ e=>nomatch e⟩
 | ref p=>
   cases r
   rcases ty with ⟨rfl,xs,hq⟩|⟨rfl,o,hk,hc,hd⟩|⟨rfl,hk⟩|⟨rfl,S,n,hk⟩
   . obtain ⟨its,_,pl,_⟩:=I.list hq
     refine ⟨pl.isList.typeIs,fun a e=>?_⟩
     cases e
     obtain ⟨o,n,e,c,hd,_⟩:=pl
     exact ⟨o,e,hd⟩
   . refine ⟨⟨o,I.sU p o hk,hc⟩,fun a e=>?_⟩
     cases e
     exact ⟨o,I.sU _ o hk,hd⟩
   . have z:∃o,s.heap.get? p=some o/\o.ExactDict:=by
      rcases hk with ⟨kvs,hk⟩|⟨kvs,hk⟩
      . obtain ⟨_,_,_,_,o,_,_,e,ex,_⟩:=I.hok p _ hk
        exact ⟨o,e,ex⟩
      . obtain ⟨_,_,_,_,o,_,_,e,ex,_⟩:=I.hok p _ hk
        exact ⟨o,e,ex⟩
     obtain ⟨o,e,ex⟩:=z
     refine ⟨⟨o,e,ex.1⟩,fun a e2=>?_⟩
     cases e2
     exact ⟨o,e,ex.2.1⟩
   . obtain ⟨o,_,_,_,e,ex,_⟩:=I.hok p _ hk
     refine ⟨⟨o,e,ex.1⟩,fun a e2=>?_⟩
     cases e2
     exact ⟨o,e,ex.2.1⟩
 | _=>exact False.elim ty
def YO (r:V->List V->Hp->VK->Prop) (Q:VK) (x:V):List V->Hp->Prop:=fun xs H2=>r x xs H2 Q
inductive afg (K:Fg) (T:String) (r:V->List V->Hp->VK->Prop) (t:TA) (σ:St) (Q:VK) (x:V) (H1:Hp):Prop
 | mk  (_:tyV K T x H1) (_:t σ H1 (YO r Q x))
def tBM (K:Fg) (T:String) (r:V->List V->Hp->VK->Prop) (to:TE) (t:TA):TE:=fun σ H Q=>to σ H (afg K T r t σ Q)
variable {o e:Expr} {es:List Expr} {to:TE} {t:TA} {name:Str} {apos cpos:Pos} {T id:String} {r:V->List V->Hp->VK->Prop}
end
def MtM (X:Cx) (id:String) (r:V->List V->Hp->VK->Prop):Prop:=
 ∀(pins:AO) (s:Shared) (σ:St) (H:Hp) (x:V) (xs:List V) (v:Value) (us:List Value) (Q:VK),Inv X pins σ H s->RelV x v->Vals xs us->r x xs H Q->
  wpAny (model X.prog X.w) X.A (call (.builtin id) (v::us)) (EP X pins σ Q) X.xe s
theorem Vals.one:∀{x:V} {us:List Value},Vals [x] us->∃u,us=[u]/\RelV x u
 | _,_, .cons r .nil=>⟨_,Z,r⟩
variable {us:List Value}
theorem Vals.reverse (h:Vals xs us):Vals xs.reverse us.reverse:=by
 induction h with
 | nil=>exact .nil
 | cons r t ih=>rw [List.reverse_cons,List.reverse_cons];exact Vals.append ih (.cons r .nil)
theorem Vals.rep {xs:List V} {us:List Value} (h:Vals xs us):∀k:Nat,Vals (List.replicate k xs).flatten (List.replicate k us).flatten
 | 0=> .nil
 | k+1=>by
   rw [A_,A_,O3,O3]
   exact Vals.append h (Vals.rep h k)
theorem foldl_rep (its:List Value):∀(k:Nat) (acc:List Value),
  List.foldl (fun x1 x2=>x1++x2) acc.toArray (List.replicate k its.toArray)=(acc++(List.replicate k its).flatten).toArray
 | 0,acc=>by simp
 | k+1,acc=>by
   have e:acc.toArray++its.toArray=(acc++its).toArray:=by simp
   have e2:(acc++its)++(List.replicate k its).flatten=acc++(List.replicate (k+1) its).flatten:=by
    rw [A_,O3,II]
   rw [<-e2,<-foldl_rep its k (acc++its),<-e,A_,jH]
variable {t':Nat}
section
variable {X:Cx} {pins:AO} {σ:St} {H:Hp} {s:Shared} {l b:Addr} {xs ys zs:List V}
theorem Inv.afh {n:Nat} {f:Array Value->Array Value} (I:Inv X pins σ H s) (hH:H l=some (.lst xs))
  (e:s.heap.get? l=some { cls:= .type "list",data:= .seq its.toArray n }) (hf:f its.toArray=its'.toArray) (hv:Vals ys its') (hz:ys.length<=sizeLine):
  Inv X pins σ (upd H l (.lst ys)) { s with heap:=s.heap.update l (Obj.mapSeq f),toks:=t' }:=by
 have q:=PySem.IsL.update e f
 rw [hf] at q
 refine I.write (x:=l) (e:=l) (by rw [hH];exact trivial) (.inl rfl) (fun b' u hb hu=>(Heap.get?_update_other s.heap (Obj.mapSeq f) (bU hb)).trans hu) ⟨_,q⟩ ?_
 exact ⟨hz,its',_,hv,q⟩
theorem Inv.YQ (I:Inv X pins σ H s) (hv:Vals ys its) (hz:ys.length<=sizeLine):
  Inv X pins σ (upd H s.heap.objs.size (.lst ys)) { s with heap:=s.heap.push { cls:= .type "list",data:= .seq its.toArray },toks:=t' }:=
 I.laid (fun _ _ q=>b7 _ q) (aN _) ⟨hz,its,0,hv,eL _ rfl⟩
theorem Inv.fresh (I:Inv X pins σ H s):H s.heap.objs.size=none:=I.hok.fresh (aN _)
theorem Inv.Po (I:Inv X pins σ H s) (hH:H l=some (.lst xs)):xs.length<=sizeLine/\∃(its:List Value) (n:Nat),Vals xs its/\xs.length=its.length/\s.heap.get? l=some { cls:= .type "list",data:= .seq its.toArray n }:=by
 obtain ⟨z,its,n,r,e⟩:=I.hok l _ hH
 exact ⟨z,its,n,r,r.length,e⟩
theorem TV {n:Nat} (h:n<=sizeLine):Builtin.List.listTooLong n=false:=by
 unfold Builtin.List.listTooLong
 exact dw (by omega)
end
section
variable {X:Cx}
inductive WM (x:V) (vs:List V) (H:Hp) (Q:VK):Prop
 | mk  (l xs y:_) (_:x = .ref l) (_:vs=[y]) (_:H l=some (.lst xs)) (_:xs.length<sizeLine) (_:Q .b9 (upd H l (.lst (xs++[y]))))
theorem dX:MtM X "list.append" WM:=by
 intro pins s σ H x vs v us Q I rx rv h
 obtain ⟨l,xs,y,rfl,rfl,hH,hz,q⟩:=h
 cases rx
 obtain ⟨u,rfl,ru⟩:=rv.one
 obtain ⟨z,its,n,r,hl,e⟩:=I.Po hH
 refine call_meets F.slot_list_append ⟨_,e,Z⟩ F.entry_list_append (F.args_list_append_2 _ _) (PySem.list_append l its.toArray n u (by rw [iK];omega)) ⟨e,?_⟩
 refine ⟨.b9,_,I.afh (its':=its++[u]) hH e (by simp) (r.append (.cons ru .nil)) ?_,Z,q⟩
 rw [dj,List.length_singleton]
 omega
inductive afi (x:V) (y:V) (H:Hp) (Q:VK):Prop
 | mk  (l b xs zs:_) (_:x = .ref l) (_:y = .ref b) (_:H l=some (.lst xs)) (_:H b=some (.lst zs)) (_:xs.length+zs.length<=sizeLine) (_:∀p,H p=none->Q (.ref p) (upd H p (.lst (xs++zs))))
theorem YR:jm X (binaryOp .Add) afi:=by
 intro pins s σ H x y v u Q I rx ry h
 obtain ⟨l,b,xs,zs,rfl,rfl,hH,hB,hz,q⟩:=h
 cases rx
 cases ry
 obtain ⟨z,its,n,r,hl,e⟩:=I.Po hH
 obtain ⟨z2,its2,n2,r2,hl2,e2⟩:=I.Po hB
 refine PySem.P.add_list e e2 ?_ (by rw [iK,iK];omega)
 have ea:its.toArray++its2.toArray=(its++its2).toArray:=by simp
 rw [ea]
 exact ⟨.ref _,_,I.YQ (t':=s.toks) (r.append r2) (by rw [dj];omega),Z,q _ I.fresh⟩
inductive afj (x:V) (y:V) (H:Hp) (Q:VK):Prop
 | mk  (l k xs:_) (_:x = .ref l) (_:y = .int k) (_:H l=some (.lst xs)) (_:-(2 ^ 63)<=k) (_:k<2 ^ 63) (_:xs.length*k.toNat<=sizeLine) (_:∀p,H p=none->Q (.ref p) (upd H p (.lst (List.replicate k.toNat xs).flatten)))
theorem len_rep {α:Type} (xs:List α) (k:Nat):(List.replicate k xs).flatten.length=k*xs.length:=by
 induction k with
 | zero=>simp
 | succ k ih=>rw [A_,O3,dj,ih,Nat.succ_mul,Nat.add_comm]
theorem Q8:jm X (binaryOp .Mult) afj:=by
 intro pins s σ H x y v u Q I rx ry h
 obtain ⟨l,k,xs,rfl,rfl,hH,h1,h2,hz,q⟩:=h
 cases rx
 obtain ⟨t,rfl⟩:=ry
 obtain ⟨z,its,n,r,hl,e⟩:=I.Po hH
 have hlen:its.toArray.size*k.toNat<=sizeLine:=by rw [iK,<-hl];exact hz
 have hcap:¬ its.toArray.size*k.toNat>(2 ^ 63-1) / 8:=by
  have:(sizeLine:Nat)<=(2 ^ 63-1) / 8:=by decide
  omega
 have hfit:¬ (!Builtin.List.listFitsIndex k)=true:=by
  rw [fitsIndex_both h1 h2]
  exact fH
 have abH:¬ Builtin.List.listTooLong (its.toArray.size*k.toNat)=true:=by
  rw [TV hlen]
  exact fH
 have hnew:List.foldl (fun x1 x2=>x1++x2) #[] (List.replicate (if its.toArray.isEmpty=true then 0 else k.toNat) its.toArray)=(List.replicate k.toNat its).flatten.toArray:=by
  have f0:∀m:Nat,List.foldl (fun x1 x2=>x1++x2) #[] (List.replicate m its.toArray)=(List.replicate m its).flatten.toArray:=fun m=>by
   have:=foldl_rep its m []
   rw [H_] at this
   exact this
  rw [f0]
  cases its with
  | nil=>simp
  | cons a r'=>rw [aB (by simp)]
 refine wpAny_binaryOp_repeat_ref (T:="list") (U:="int") (by decide) ⟨_,e,Z⟩ (fun s'=>typeIs_int s' k t) noFill_list_mul F.fills_int_mul F.slot_int_rmul repeat_list F.slot_int_index.lookup
  (call_meets F.slot_int_rmul (typeIs_int s k t) F.entry_int_rmul (F.args_int_rmul_2 _ _) (int___rmul___int_list k t l its.toArray n)
    ⟨e,Z,⟨_,e,Z⟩,call_meets F.slot_list_mul ⟨_,e,Z⟩ F.entry_list_mul (F.args_list_mul_2 _ _) (AutoListH.list___mul___list_int_3 l its.toArray n k t hfit hcap abH) ⟨e,?_⟩⟩)
 rw [hnew]
 exact ⟨.ref _,_,I.YQ (t':=s.toks) (r.rep k.toNat) (by rw [len_rep,Nat.mul_comm];exact hz),Z,q _ I.fresh⟩
end
section
variable {prog:Program} {w:World} {A:Around} {E:VS} {s:Shared}
set_option maxRecDepth 100000 in
end
section
variable {X:Cx}
end
section
variable {κ:Type} [DecidableEq κ]
def dM (kvs:List (κ×V)) (k:κ):Option V:=(kvs.find? fun kv=>decide (kv.1=k)).map (·.2)
def putK (kvs:List (κ×V)) (k:κ) (v:V):List (κ×V):=
 if (kvs.any fun kv=>decide (kv.1=k))=true then kvs.map (fun kv=>if kv.1=k then (kv.1,v) else kv) else kvs++[(k,v)]
def lS (kvs:List (κ×V)) (k:κ):List (κ×V):=kvs.filter fun kv=>decide (kv.1≠k)
theorem gq {p:κ×V} {r:List (κ×V)} {k:κ} (e:p.1=k):dM (p::r) k=some p.2:=by simp [dM,sZ,e]
theorem eO {p:κ×V} {r:List (κ×V)} {k:κ} (e:¬ p.1=k):dM (p::r) k=dM r k:=by simp [dM,sZ,e]
theorem qd (k:κ):∀kvs:List (κ×V),(kvs.any fun kv=>decide (kv.1=k))=(dM kvs k).isSome
 | []=>rfl
 | p::r=>by
   rw [BZ]
   by_cases e:p.1=k
   . simp only [gq e,bq e,Bool.true_or,OX]
   . rw [eO e,dw e,Bool.false_or];exact qd k r
theorem Jg (k j:κ) (y:V):∀kvs:List (κ×V),dM (kvs.map fun kv=>if kv.1=k then (kv.1,y) else kv) j=(dM kvs j).map fun x=>if j=k then y else x
 | []=>rfl
 | p::r=>by
   have ih:=Jg k j y r
   rw [bw]
   by_cases h:p.1=k
   . rw [aD h]
     by_cases e:p.1=j
     . rw [gq (p:=(p.1,y)) e,gq e,Ia,aD (e.symm.trans h)]
     . rw [eO (p:=(p.1,y)) e,eO e,ih]
   . rw [aB h]
     by_cases e:p.1=j
     . rw [gq (p:=p) e,gq e,Ia,aB (fun z=>h (e.trans z))]
     . rw [eO (p:=p) e,eO e,ih]
theorem Fo (k j:κ) (y:V):∀kvs:List (κ×V),dM kvs k=none->dM (kvs++[(k,y)]) j=if j=k then some y else dM kvs j
 | [],_=>by
   by_cases e:k=j
   . rw [aD e.symm];exact gq (p:=(k,y)) e
   . rw [aB (fun z=>e z.symm)];exact eO (p:=(k,y)) e
 | p::r,hn=>by
   rw [O8]
   have hk:¬ p.1=k:=fun z=>by rw [gq z] at hn;cases hn
   rw [eO hk] at hn
   have ih:=Fo k j y r hn
   by_cases e:p.1=j
   . rw [gq e,gq e,aB (fun z=>hk (e.trans z))]
   . rw [eO e,eO e,ih]
theorem TY (kvs:List (κ×V)) (k j:κ) (y:V):dM (putK kvs k y) j=if j=k then some y else dM kvs j:=by
 unfold putK
 by_cases a:(kvs.any fun kv=>decide (kv.1=k))=true
 . rw [aD a,Jg]
   rw [qd] at a
   by_cases e:j=k
   . obtain ⟨x,hx⟩:=Option.isSome_iff_exists.mp a
     rw [aD e,e,hx,Ia,aD rfl]
   . rw [aB e]
     cases dM kvs j with
     | none=>rfl
     | some x=>rw [Ia,aB e]
 . rw [aB a]
   refine Fo k j y kvs ?_
   rw [qd] at a
   cases q:dM kvs k with
   | none=>rfl
   | some x=>rw [q] at a;exact (a rfl).elim
theorem mQ (kvs:List (κ×V)) (k:κ) (v:V):(putK kvs k v).length<=kvs.length+1:=by
 unfold putK
 split
 . rw [aH];omega
 . rw [dj,jZ,List.length_nil];omega
theorem lu {kvs:List (κ×V)} {k:κ} (v:V) (h:dM kvs k=none):putK kvs k v=kvs++[(k,v)] :=by
 unfold putK
 rw [qd,h]
 exact aB (by decide)
theorem mE.oj {o:Option V} {u:Option Value} (r:mE o u):o.isSome=u.isSome:=by
 cases o with
 | none=>cases u with
   | none=>rfl
   | some _=>exact (show False from r).elim
 | some _=>cases u with
   | none=>exact (show False from r).elim
   | some _=>rfl
theorem KV.val {kvs:List (κ×V)} {vs:List (κ×Value)} (r:KV kvs vs) (k:κ):mE (dM kvs k) (valueAt vs k):=by
 unfold KV at r
 induction r with
 | nil=>exact True.intro
 | @cons p q ps qs h t ih=>
   obtain ⟨h1,h2⟩:=h
   by_cases e:p.1=k
   . have e':q.1=k:=h1.symm.trans e
     have b:valueAt (q::qs) k=some q.2:=by simp [valueAt,sZ,e']
     rw [gq e,b];exact h2
   . have e':¬ q.1=k:=fun z=>e (h1.trans z)
     have b:valueAt (q::qs) k=valueAt qs k:=by simp [valueAt,sZ,e']
     rw [eO e,b];exact ih
theorem KV.any {kvs:List (κ×V)} {vs:List (κ×Value)} (r:KV kvs vs) (k:κ):(kvs.any fun kv=>decide (kv.1=k))=vs.any fun kv=>decide (kv.1=k):=by
 unfold KV at r
 induction r with
 | nil=>rfl
 | cons h t ih=>rw [BZ,BZ,ih,h.1]
theorem KV.repl {kvs:List (κ×V)} {vs:List (κ×Value)} (r:KV kvs vs) (k:κ) (ry:RelV y u):
  KV (kvs.map fun kv=>if kv.1=k then (kv.1,y) else kv) (vs.map fun kv=>if kv.1=k then (kv.1,u) else kv):=by
 unfold KV at r ⊢
 induction r with
 | nil=>exact .nil
 | @cons p q ps qs h t ih=>
   rw [bw,bw]
   refine .cons ?_ ih
   obtain ⟨h1,h2⟩:=h
   by_cases e:p.1=k
   . rw [aD e,aD (h1.symm.trans e)];exact ⟨h1,ry⟩
   . rw [aB e,aB (fun z=>e (h1.trans z))];exact ⟨h1,h2⟩
theorem KV.put {kvs:List (κ×V)} {vs:List (κ×Value)} (r:KV kvs vs) (k:κ) (ry:RelV y u):KV (putK kvs k y) (stored vs k u):=by
 unfold putK stored
 rw [r.any k]
 by_cases e:(vs.any fun kv=>decide (kv.1=k))=true
 . rw [aD e,aD e];exact r.repl k ry
 . rw [aB e,aB e];exact Paired.snoc r ⟨Z,ry⟩
theorem KV.drop {kvs:List (κ×V)} {vs:List (κ×Value)} (r:KV kvs vs) (k:κ):KV (lS kvs k) (without vs k):=by
 unfold KV at r ⊢
 unfold lS without
 induction r with
 | nil=>exact .nil
 | @cons p q ps qs h t ih=>
   obtain ⟨h1,h2⟩:=h
   rw [gZ,gZ]
   by_cases e:p.1=k
   . have a:¬ decide (p.1≠k)=true:=by simp [e]
     have b:¬ decide (q.1≠k)=true:=by simp [h1.symm.trans e]
     rw [aB a,aB b];exact ih
   . have e':¬ q.1=k:=fun z=>e (h1.trans z)
     have a:decide (p.1≠k)=true:=by simp [e]
     have b:decide (q.1≠k)=true:=by simp [e']
     rw [aD a,aD b];exact .cons ⟨h1,h2⟩ ih
theorem KV.length {kvs:List (κ×V)} {vs:List (κ×Value)} (r:KV kvs vs):kvs.length=vs.length:=Paired.length r
theorem TZ (kvs:List (κ×V)) (k:κ):(lS kvs k).length<=kvs.length:=List.length_filter_le _ _
end
variable {P:Program}
theorem u6 {w:World} {k:Key} (r:RelV (kV k) u):(cY P w).is k u=true:=by
 cases k with
 | inl i=>obtain ⟨t,e⟩:=(show ∃t,u=Value.int i t from r);subst e;exact LZ P w i t
 | inr x=>obtain ⟨t,e⟩:=(show ∃t,u=Value.str x t from r);subst e;exact L1 P w x t
theorem Fp {P:Program} {w:World}:∀{ks:List Key} {us:List Value},Vals (ks.map kV) us->ItemsAre (cY P w) ks us
 | [],_,r=>by rw [List.map_nil] at r;cases r;exact .nil
 | k::ks,_,r=>by
   rw [bw] at r
   cases r with
   | cons h t=>exact .cons (u6 h) (Fp t)
abbrev KT (H:Hp):List (List Key×V)->List (List Key×Addr×Value)->Prop:=Paired fun p q=>p.1=q.1/\H q.2.1=some (.tup (p.1.map kV))/\RelV p.2 q.2.2
theorem KT.val {kvs:List (List Key×V)} {xs:List (List Key×Addr×Value)} (r:KT H kvs xs) (k:List Key):mE (dM kvs k) ((atKey xs k).map (·.2)):=by
 induction r with
 | nil=>exact True.intro
 | @cons p q ps qs h t ih=>
   obtain ⟨h1,_,h2⟩:=h
   by_cases e:p.1=k
   . have e':q.1=k:=h1.symm.trans e
     have b:atKey (q::qs) k=some q.2:=by simp [atKey,sZ,e']
     rw [gq e,b];exact h2
   . have e':¬ q.1=k:=fun z=>e (h1.trans z)
     have b:atKey (q::qs) k=atKey qs k:=by simp [atKey,sZ,e']
     rw [eO e,b];exact ih
theorem KT.repl {kvs:List (List Key×V)} {xs:List (List Key×Addr×Value)} (r:KT H kvs xs) (k:List Key) (ry:RelV y u):
  KT H (kvs.map fun kv=>if kv.1=k then (kv.1,y) else kv) (xs.map (putAt k u)):=by
 induction r with
 | nil=>exact .nil
 | @cons p q ps qs h t ih=>
   rw [bw,bw]
   refine .cons ?_ ih
   obtain ⟨h1,h2,h3⟩:=h
   unfold putAt
   by_cases e:p.1=k
   . rw [aD e,aD (h1.symm.trans e)];exact ⟨h1,h2,ry⟩
   . rw [aB e,aB (fun z=>e (h1.trans z))];exact ⟨h1,h2,h3⟩
variable {b:Addr}
theorem KT.put {kvs:List (List Key×V)} {xs:List (List Key×Addr×Value)} (r:KT H kvs xs) (k:List Key) (hb:H b=some (.tup (k.map kV))) (ry:RelV y u):
  KT H (putK kvs k y) (storedH xs k b u):=by
 have e:(kvs.any fun kv=>decide (kv.1=k))=(atKey xs k).isSome:=by
  rw [qd,(r.val k).oj,Option.isSome_map]
 unfold putK storedH
 rw [e]
 by_cases q:(atKey xs k).isSome=true
 . rw [aD q,aD q];exact r.repl k ry
 . rw [aB q,aB q];exact Paired.snoc r ⟨Z,hb,ry⟩
variable {H':Hp}
theorem KT.keeps {kvs:List (List Key×V)} {xs:List (List Key×Addr×Value)} (r:KT H kvs xs) (ht:∀b ys,H b=some (.tup ys)->H' b=some (.tup ys)):KT H' kvs xs:=
 Paired.Ti r fun _ _ z=>⟨z.1,ht _ _ z.2.1,z.2.2⟩
variable {kvs:List (Key×V)}
section
variable {P:Program} {w:World} {H:Hp} {h:Heap} {a:Addr}
theorem VH {u:HO} (ok:g_ P w H h) (e:Rd H a u):eY P w H h a u:=e.ok ok
theorem tE (ok:g_ P w H h) (e:Rd H a (.dK kvs)):kvs.length<=sizeLine/\(a==sysModules)=false/\∃vs,KV kvs vs/\h.DictOf (cY P w) a vs:=
 show eY P w H h a (.dK kvs) from VH ok e
theorem xN (ok:g_ P w H h) (e:H a=some (.dK kvs)):kvs.length<=sizeLine/\(a==sysModules)=false/\∃vs,KV kvs vs/\h.DictOf (cY P w) a vs:=tE ok (.inl e)
theorem yT {ks:List Key} (ok:g_ P w H h) (e:H a=some (.tup (ks.map kV))):(tupleKind (cY P w)).is h ks a:=by
 obtain ⟨_,its,r,o,h1,h2,n,h3⟩:=(show eY P w H h a (.tup (ks.map kV)) from ok a _ e)
 exact ⟨o,its.toArray,n,h1,h2,h3,by simpa using Fp r⟩
theorem An {kvs:List (List Key×V)} (ok:g_ P w H h) (e:Rd H a (.dT kvs)):kvs.length<=sizeLine/\(a==sysModules)=false/\
  ∃xs,KT H kvs xs/\h.DictOfH (tupleKind (cY P w)) a xs:=by
 obtain ⟨z,y,xs,r,o,es,ep,h1,h2,h3,h4,h5⟩:=(show eY P w H h a (.dT kvs) from VH ok e)
 refine ⟨z,y,xs,r,o,es,ep,h1,h2,h3,h4,fun x hx=>?_,h5⟩
 have all:∀{l:List (List Key×V)} {m:List (List Key×Addr×Value)},KT H l m->∀x∈m,(tupleKind (cY P w)).is h x.1 x.2.1:=by
  intro l m q
  induction q with
  | nil=>intro x hx;exact nomatch hx
  | @cons p q ps qs hq t ih=>
    intro x hx
    rcases dz.mp hx with e|hx
    . subst e
      exact yT ok (by rw [<-hq.1];exact hq.2.1)
    . exact ih x hx
 exact all r x hx
theorem abI {kvs:List (List Key×V)} (ok:g_ P w H h) (e:H a=some (.dT kvs)):kvs.length<=sizeLine/\(a==sysModules)=false/\
  ∃xs,KT H kvs xs/\h.DictOfH (tupleKind (cY P w)) a xs:=An ok (.inl e)
end
def dW (H:Hp) (a:Addr) (y:V) (r:Option V):Prop:=
 (∃kvs k,Rd H a (.dK kvs)/\y=kV k/\r=dM kvs k)\/∃kvs k b,Rd H a (.dT kvs)/\y = .ref b/\H b=some (.tup (k.map kV))/\r=dM kvs k
def vM (H:Hp) (a:Addr) (y v:V) (H':Hp):Prop:=
 (∃kvs k,H a=some (.dK kvs)/\y=kV k/\kvs.length<sizeLine/\H'=upd H a (.dK (putK kvs k v)))\/
 ∃kvs k b,H a=some (.dT kvs)/\y = .ref b/\H b=some (.tup (k.map kV))/\kvs.length<sizeLine/\H'=upd H a (.dT (putK kvs k v))
variable {a:Addr}
theorem dW.k {k:Key} (e:H a=some (.dK kvs)):dW H a (kV k) (dM kvs k):= .inl ⟨kvs,k, .inl e,Z,Z⟩
theorem vM.k {k:Key} {v:V} (e:H a=some (.dK kvs)) (hl:kvs.length<sizeLine):vM H a (kV k) v (upd H a (.dK (putK kvs k v))):= .inl ⟨kvs,k,e,Z,hl,Z⟩
variable {h':Heap} {Q:Unit->Shared->Prop}
section
variable {X:Cx} {pins:AO} {σ:St} {H:Hp} {s:Shared} {a:Addr} {y v:V} {u r:Value} {o:Option V} {A:Around} {E:VS}
theorem Inv.big (I:Inv X pins σ H s):sysModules<s.heap.objs.size:=by
 have h:mainGlobals<s.heap.objs.size:=(I.mod.glob.keeps I.bk).lt
 exact Nat.lt_trans (by decide) h
theorem Q9 {Q:VS} (hu:A.units+1<cLine) (I:Inv X pins σ H s) (g:dW H a y (some v)) (ry:RelV y u) (h:∀w' s',Inv X pins σ H s'->RelV v w'->Q w' s'):
  wpAny (model X.prog X.w) A (getItem (.ref a) u) Q E s:=by
 rcases g with ⟨kvs,k,e,ey,l⟩|⟨kvs,k,b,e,ey,eb,l⟩
 . subst ey
   obtain ⟨z,hd,vs,rel,dd⟩:=tE I.hok e
   obtain ⟨w',hw,rw'⟩:=mE.some_of (v:=v) (o:=valueAt vs k) (by rw [l];exact rel.val k)
   exact wpAny_getItem_of (u6 ry) dd.mapOf hw (h w' _ (I.tok _) rw')
 . subst ey
   cases (show u=Value.ref b from ry)
   obtain ⟨z,hd,xs,rel,dd⟩:=An I.hok e
   obtain ⟨w',hw,rw'⟩:=mE.some_of (v:=v) (o:=(atKey xs k).map (·.2)) (by rw [l];exact rel.val k)
   obtain ⟨p,hp,hp2⟩:=nH.mp hw
   refine wpAny_getItem_heap (OY hu) (yT I.hok eb) dd hp ?_
   rw [hp2]
   exact h w' _ (I.tok _) rw'
theorem afk {Q:VS} (hu:A.units+1<cLine) (I:Inv X pins σ H s) (g:dW H a y o) (ry:RelV y u) (h:∀s',Inv X pins σ H s'->Q (.bool o.isSome) s'):
  wpAny (model X.prog X.w) A (compareOp .In u (.ref a)) Q E s:=by
 rcases g with ⟨kvs,k,e,ey,l⟩|⟨kvs,k,b,e,ey,eb,l⟩
 . subst ey
   obtain ⟨z,hd,vs,rel,dd⟩:=tE I.hok e
   refine wpAny_in_of (u6 ry) hd dd.mapOf ?_
   rw [<-(rel.val k).oj,<-l]
   exact h _ (I.tok _)
 . subst ey
   cases (show u=Value.ref b from ry)
   obtain ⟨z,hd,xs,rel,dd⟩:=An I.hok e
   refine wpAny_in_heap (OY hu) (yT I.hok eb) hd dd ?_
   have q:=(rel.val k).oj
   rw [Option.isSome_map] at q
   rw [<-q,<-l]
   exact h _ (I.tok _)
theorem WN {Q:VS} (hu:A.units+1<cLine) (I:Inv X pins σ H s) (g:dW H a y o) (ry:RelV y u) (h:∀s',Inv X pins σ H s'->Q (.bool (!o.isSome)) s'):
  wpAny (model X.prog X.w) A (compareOp .NotIn u (.ref a)) Q E s:=by
 rcases g with ⟨kvs,k,e,ey,l⟩|⟨kvs,k,b,e,ey,eb,l⟩
 . subst ey
   obtain ⟨z,hd,vs,rel,dd⟩:=tE I.hok e
   refine wpAny_notIn_of (u6 ry) hd dd.mapOf ?_
   rw [<-(rel.val k).oj,<-l]
   exact h _ (I.tok _)
 . subst ey
   cases (show u=Value.ref b from ry)
   obtain ⟨z,hd,xs,rel,dd⟩:=An I.hok e
   refine wpAny_notIn_heap (OY hu) (yT I.hok eb) hd dd ?_
   have q:=(rel.val k).oj
   rw [Option.isSome_map] at q
   rw [<-q,<-l]
   exact h _ (I.tok _)
theorem wF (I:Inv X pins σ H s) (mu:QH (H a)) (hs:Heap.SameBut a s.heap h') (he:∃q,h'.get? a=some q) (new:eY X.prog X.w (upd H a ob) h' a ob):
  Inv X pins σ (upd H a ob) { s with heap:=h',toks:=t' }:=
 I.write (x:=a) (e:=a) mu (.inl rfl) (fun b q hb z=>(hs.2 b hb).trans z) he new
theorem yU {w:World} {vs:List (Key×Value)} (z:kvs.length<=sizeLine) (hd:(a==sysModules)=false) (rel:KV kvs vs) (dd:h'.DictOf (cY P w) a vs):
  eY P w H' h' a (.dK kvs):=⟨z,hd,vs,rel,dd⟩
theorem Q_ (hu:A.units+1<cLine) (I:Inv X pins σ H s) (g:vM H a y v H') (ry:RelV y u) (rv:RelV v r) (h:∀s',Inv X pins σ H' s'->Q () s'):
  wpAny (model X.prog X.w) A (setItem (.ref a) u r) Q E s:=by
 rcases g with ⟨kvs,k,e,ey,l,eH⟩|⟨kvs,k,b,e,ey,eb,l,eH⟩
 . subst ey eH
   obtain ⟨z,hd,vs,rel,dd⟩:=xN I.hok e
   have hz:vs.length<=sizeLine:=by rw [<-rel.length];exact z
   have hl:(putK kvs k v).length<=sizeLine:=by have:=mQ kvs k v;omega
   refine wpAny_setItem_pairs (hsz:=hz) (u6 ry) dd fun h' tZ hs=>h _ ?_
   have he:∃q,h'.get? a=some q:=let ⟨q,_,_,hq,_⟩:=tZ;⟨q,hq⟩
   exact wF I (by rw [e];exact True.intro) hs he (yU hl hd (rel.put k rv) tZ)
 . subst ey eH
   cases (show u=Value.ref b from ry)
   obtain ⟨z,hd,xs,rel,dd⟩:=abI I.hok e
   have hz:xs.length<=sizeLine:=by rw [<-Paired.length rel];exact z
   have hl:(putK kvs k v).length<=sizeLine:=by have:=mQ kvs k v;omega
   refine wpAny_setItem_heap (hsz:=hz) (OY hu) (yT I.hok eb) dd fun h' tZ hs=>h _ ?_
   obtain ⟨q,es,ep,hq,h2,h3,h4,_,h5⟩:=tZ
   refine wF I (by rw [e];exact True.intro) hs ⟨q,hq⟩ ⟨hl,hd,_,(rel.put k eb rv).keeps fun c ys ec=>?_,q,es,ep,hq,h2,h3,h4,h5⟩
   rw [au (iM ec e (fun z=>nomatch z))]
   exact ec
end
section
variable {X:Cx} {pins:AO} {σ:St} {H:Hp} {s:Shared} {a:Addr} {kvs:List (Key×V)} {k:Key} {u:Value} {A:Around} {E:VS}
theorem Ra (I:Inv X pins σ H s) (e:H a=some (.dK kvs)) (ry:RelV (kV k) u) (l:(dM kvs k).isSome=true) (h:∀s',Inv X pins σ (upd H a (.dK (lS kvs k))) s'->Q () s'):
  wpAny (model X.prog X.w) A (delItem (.ref a) u) Q E s:=by
 obtain ⟨z,hd,vs,rel,dd⟩:=xN I.hok e
 refine wpAny_delItem_slot dd.typeIs (by decide) PySem.F.slot_dict_delitem
  (call_meetsIn PySem.F.slot_dict_delitem dd.typeIs PySem.F.entry_dict_delitem (PySem.F.args_dict_delitem_2 _ _) (meets_dict_delitem_pairs (cY X.prog X.w) a (u6 ry)) ⟨vs,dd,by rw [<-rel.length];exact z,by rw [<-(rel.val k).oj];exact l,fun h' tZ hs=>h _ ?_⟩)
 have he:∃q,h'.get? a=some q:=let ⟨q,_,_,hq,_⟩:=tZ;⟨q,hq⟩
 exact wF I (by rw [e];exact True.intro) hs he (yU (gf (TZ kvs k) z) hd (rel.drop k) tZ)
theorem abJ {Q:VS} (I:Inv X pins σ H s) (e:Rd H a (.dK kvs)) (h:∀t s',Inv X pins σ H s'->Q (.int kvs.length t) s'):wpAny (model X.prog X.w) A (call (.builtin "len") [.ref a]) Q E s:=by
 obtain ⟨z,hd,vs,rel,dd⟩:=tE I.hok e
 refine call_len_dict hd dd (by rw [<-rel.length];rw [jI] at z;omega) ?_
 rw [<-rel.length]
 exact h _ _ (I.tok _)
end
def YS (i:Expr):Prop:=∀ov iv,subscripted i false ov iv=operate [ov,iv] (getItem ov iv)
variable {E:VS} {env:Env} {value:Expr} {pos:Pos}
theorem WO {prog:Program} {w:World} {A:Around} {slice:Expr} {T id:String} {Q:VS}
  (hl:typeLookup (.type T) "__getitem__"=pure (some (.builtin id))) (hs:YS slice)
  (h:wpAny (model prog w) A (eval value env) (fun o s₁=>wpAny (model prog w) A (eval slice env) (fun i s₂=>s₂.TypeIs o T/\wpAny (model prog w) A (getItem o i) Q E s₂) E s₁) E s):
  wpAny (model prog w) A (eval (.Subscript value slice pos) env) Q E s:=by
 refine Subscript_ (gj h (fun o s₁ h₁=>gj h₁ (fun i s₂ h₂=>?_) fun _ _ x=>x) fun _ _ x=>x)
 obtain ⟨hT,h₂⟩:=h₂
 unfold subscriptTail
 refine az ?_
 rw [getitemInPython_of_ne hT.not_modules]
 refine az (wpAny_specialOf hT hl ?_)
 have fin:wpAny (model prog w) A (subscripted slice false o i) (fun r s₃=>wpAny (model prog w) A (letTemporaryGo value o r >>= fun _=>pure r) Q E s₃) E s₂:=by
  rw [hs o i]
  exact wpAny_operating (gj h₂ (fun r s₃ h₃=>az (wpAny_letTemporaryGo (aV h₃))) fun _ _ x=>x)
 first
  | exact aV (az fin)
  | exact az (aV (az fin))
  | exact az fin
variable {X:Cx}
theorem L3 {o:Option V} (I:Inv X pins σ H s) (g:dW H a y o):s.TypeIs (.ref a) "dict":=by
 rcases g with ⟨kvs,k,e,_,_⟩|⟨kvs,k,b,e,_,_,_⟩
 . obtain ⟨_,_,vs,_,dd⟩:=tE I.hok e
   exact dd.typeIs
 . obtain ⟨_,_,xs,_,dd⟩:=An I.hok e
   exact dd.typeIs
inductive T3 (Q:VK) (x:V) (y:V) (H2:Hp):Prop
 | mk  (a v:_) (_:x = .ref a) (_:dW H2 a y (some v)) (_:Q v H2)
def YT (ty:TE) (σ:St) (Q:VK):V->Hp->Prop:=fun x H1=>ty σ H1 (T3 Q x)
def VI (td ty:TE):TE:=fun σ H Q=>td σ H (YT ty σ Q)
inductive WQ (Q:VK) (y:V) (x:V) (H2:Hp):Prop
 | mk  (a o:_) (_:x = .ref a) (_:dW H2 a y o) (_:Q (.bl o.isSome) H2)
def abL (td:TE) (σ:St) (Q:VK):V->Hp->Prop:=fun y H1=>td σ H1 (WQ Q y)
def afl (ty td:TE):TE:=fun σ H Q=>ty σ H (abL td σ Q)
inductive Pp (Q:VK) (y:V) (x:V) (H2:Hp):Prop
 | mk  (a o:_) (_:x = .ref a) (_:dW H2 a y o) (_:Q (.bl (!o.isSome)) H2)
def T4 (td:TE) (σ:St) (Q:VK):V->Hp->Prop:=fun y H1=>td σ H1 (Pp Q y)
def WR (ty td:TE):TE:=fun σ H Q=>ty σ H (T4 td σ Q)
inductive T5 (D:Ends) (σ:St) (v:V) (x:V) (y:V) (H3:Hp):Prop
 | mk  (a H4:_) (_:x = .ref a) (_:vM H3 a y v H4) (_:D.nx σ H4)
def T6 (ty:TE) (D:Ends) (σ:St) (v:V):V->Hp->Prop:=fun x H2=>ty σ H2 (T5 D σ v x)
def YU (td:TE) (ty:TE) (D:Ends) (σ:St):V->Hp->Prop:=fun v H1=>td σ H1 (T6 ty D σ v)
def abM (td ty tv:TE):TS:=fun D σ H=>tv σ H (YU td ty D σ)
inductive T7 (D:Ends) (σ:St) (x:V) (y:V) (H2:Hp):Prop
 | mk  (a kvs k:_) (_:x = .ref a) (_:H2 a=some (.dK kvs)) (_:y=kV k) (_:(dM kvs k).isSome=true) (_:D.nx σ (upd H2 a (.dK (lS kvs k))))
def YV (ty:TE) (D:Ends) (σ:St):V->Hp->Prop:=fun x H1=>ty σ H1 (T7 D σ x)
def abN (td ty:TE):TS:=fun D σ H=>td σ H (YV ty D σ)
section
variable {X:Cx} {o i e value:Expr} {pos pos' tpos:Pos} {td ty tv:TE}
end
theorem Bg {w:World} (h:Heap) (hb:sysModules<h.objs.size):eY P w H (h.push { cls:= .type "dict",data:= .dict #[] }) h.objs.size (.dK []):=
 ⟨gh _,A3.mpr (bU (ee hb)),[], .nil,Heap.DictOf.new h⟩
def YW:TE:=fun _ H Q=>∀p,H p=none->Q (.ref p) (upd H p (.dK []))
section
variable {X:Cx} {pos:Pos}
end
def Cj:List (TE×TE)->St->Hp->(List (V×V)->Hp->Prop)->Prop
 | [],_,H,Q=>Q [] H
 | (tk,tv)::r,σ,H,Q=>tk σ H fun x H1=>tv σ H1 fun y H2=>Cj r σ H2 fun ps H3=>Q ((x,y)::ps) H3
abbrev VV:List (V×V)->List (Value×Value)->Prop:=Paired fun p q=>RelV p.1 q.1/\RelV p.2 q.2
def PPs (X:Cx) (pos:Pos) (keys:List (Option Expr)) (values:List Expr) (Ck:List (TE×TE)):Prop:=
 ∀(pins:AO) (s:Shared) (σ:St) (H:Hp) (Q:List (V×V)->Hp->Prop),Inv X pins σ H s->Cj Ck σ H Q->
  wpAny (model X.prog X.w) X.A (evalPairs (pairTrees keys values X.env pos)) (fun vs s'=>∃ps H',Inv X pins σ H' s'/\VV ps vs/\Q ps H') X.xe s
def wG (kvs more:List (Key×V)):List (Key×V):=more.foldl (fun acc kv=>putK acc kv.1 kv.2) kvs
theorem KV.merge:∀{more:List (Key×V)} {rs:List (Key×Value)} {kvs:List (Key×V)} {vs:List (Key×Value)},KV more rs->KV kvs vs->KV (wG kvs more) (merged vs rs):=by
 intro more rs kvs vs r
 unfold KV at r
 induction r generalizing kvs vs with
 | nil=>intro q;exact q
 | @cons p q ps qs h t ih=>
   intro r0
   have e:KV (putK kvs p.1 p.2) (stored vs q.1 q.2):=by
    have:=r0.put p.1 h.2
    rw [<-h.1];exact this
   exact ih e
theorem yw:∀(more kvs:List (Key×V)),(wG kvs more).length<=kvs.length+more.length
 | [],kvs=>by show kvs.length<=kvs.length+0;omega
 | p::r,kvs=>by
   have h1:=yw r (putK kvs p.1 p.2)
   have h2:=mQ kvs p.1 p.2
   show (wG (putK kvs p.1 p.2) r).length<=_
   rw [jZ];omega
theorem Cm {P:Program} {w:World}:∀{kvs:List (Key×V)} {ws:List (Value×Value)},VV (kvs.map fun kv=>(kV kv.1,kv.2)) ws->∃rs,Carries (cY P w) ws rs/\KV kvs rs
 | [],_,r=>by rw [List.map_nil] at r;cases r;exact ⟨[],True.intro, .nil⟩
 | p::kvs,_,r=>by
   rw [bw] at r
   cases r with
   | @cons a b as bs h t=>
     obtain ⟨rs,c,q⟩:=Cm (P:=P) (w:=w) t
     obtain ⟨b1,b2⟩:=b
     exact ⟨(p.1,b2)::rs,⟨u6 h.1,Z,c⟩, .cons ⟨Z,h.2⟩ q⟩
def abO (Ck:List (TE×TE)):TE:=fun σ H Q=>∀p,H p=none->Cj Ck σ (upd H p (.dK [])) fun ps H2=>H2 p=some (.dK [])/\∃kvs:List (Key×V),ps=kvs.map (fun kv=>(kV kv.1,kv.2))/\kvs.length<=15/\Q (.ref p) (upd H2 p (.dK (wG [] kvs)))
def IsD (H:Hp) (a:Addr):Prop:=(∃kvs,Rd H a (.dK kvs))\/∃kvs,Rd H a (.dT kvs)
theorem Jh (I:Inv X pins σ H s) (d:IsD H a):
  s.TypeIs (.ref a) "dict"/\(∀b,Value.ref a = .ref b->∃ob,s.heap.get? b=some ob/\ob.dict=none)/\(a==sysModules)=false:=by
 rcases d with ⟨kvs,e⟩|⟨kvs,e⟩
 . obtain ⟨_,hd,vs,_,dd⟩:=tE I.hok e
   refine ⟨dd.typeIs,fun b q=>?_,hd⟩
   cases q
   obtain ⟨ob,_,_,h1,h2,_⟩:=dd
   exact ⟨ob,h1,h2.2.1⟩
 . obtain ⟨_,hd,xs,_,dd⟩:=An I.hok e
   refine ⟨dd.typeIs,fun b q=>?_,hd⟩
   cases q
   obtain ⟨ob,_,_,h1,h2,_⟩:=dd
   exact ⟨ob,h1,h2.2.1⟩
section
variable {X:Cx} {pins:AO} {σ:St} {H:Hp} {s:Shared} {a:Addr} {y d:V} {u r:Value} {o:Option V} {A:Around} {E:VS}
end
section
variable {X:Cx} {o e f:Expr} {apos cpos:Pos} {td ty tx:TE}
end
section
variable {X:Cx} {pins:AO} {σ:St} {H:Hp} {s:Shared} {a:Addr} {kvs:List (Key×V)} {A:Around} {E:VS}
end
section
variable {X:Cx} {pins:AO} {σ:St} {H:Hp} {s:Shared} {a:Addr} {y:V} {u:Value} {A:Around} {E:VS}
end
end L2
namespace Att
open PySem PySem.W PySem.Calls PyProof.Rows
theorem Co {P:Params} {h:Heap}:∀(ns:List Int) (vs:List Value),WellAll P h vs (ns.map WData.int)->IntsAre vs ns:=by
 intro ns
 induction ns with
 | nil=>
   intro vs w
   rw [List.map_nil] at w
   cases w
   exact .nil
 | cons n ns ih=>
   intro vs w
   rw [bw] at w
   cases w with
   | cons a b=>
     cases a
     exact .cons _ _ (ih _ b)
theorem Rb {l:OpenLaw} {n:Nat} (hn:l.most=some n) {P:Params} {h:Heap} {args:List WData} {vals:List Value}
  (hpre:l.row.toRowW.claim.pre args=true) (hwl:WellAll P h vals args):
  ∃a vs ns,vals=[Value.ref a]/\args=[WData.list (ns.map WData.int)]/\h.get? a=some { cls:= .type "list",data:= .seq vs.toArray }/\IntsAre vs ns/\ns.length<=n:=by
 have hsh:WShape.hasAll [] args [.list .int]=true:=(pre_splitW hpre).1
 have hc:l.pre.holds [] { args:=args }=true:=(pre_splitW hpre).2
 obtain ⟨d,r,rfl,h1,h2⟩:=hasAllW_cons hsh
 obtain rfl:=hasAllW_nil h2
 obtain ⟨xs,rfl,h3⟩:=hasW_list h1
 obtain ⟨ns,rfl⟩:=items_int h3
 have hlen:ns.length<=n:=by
  unfold OpenLaw.pre at hc
  have h4:(WTm.not (.lt (.lit (.int (n:Int))) (.len (.arg 0)))).holds [] { args:=[.list (ns.map .int)] }=true:=by
   have h4:=(holds_andW hc).1
   rw [hn] at h4
   exact h4
  have h5:=condW_of h4 (w_not (w_lt w_lit (w_len_list (w_arg rfl))))
  rw [aH] at h5
  refine Nat.le_of_not_lt fun q=>?_
  have q':(n:Int)<((ns.length:Nat):Int):=by omega
  first
   | (rw [bq q'] at h5;exact absurd h5 (by decide))
   | (simp at h5;omega)
 cases hwl with
 | cons w1 w2=>
   cases w2
   cases w1 with
   | list ho hall=>exact ⟨_,_,ns,Z,Z,ho,Co ns _ hall,hlen⟩
theorem Rc (l:OpenLaw) (args:List WData):l.row.toRowW.claim.post args (.bool true) args=true:=
 postW_of (r:=l.row.toRowW) (X:=(true==true))
  (show WShape.has [] (.bool true) .bool=true by first|rfl|decide|simp [WShape.has,WShape.arms,WShape.armsAll])
  (show (WTm.eq .res (.lit (.bool true))).value [] { args:=args,res:=some (.bool true),after:=args }=some (.bool (true==true)) from w_eq_bool (w_res rfl) w_lit) rfl
theorem L4 {l:OpenLaw} {n:Nat} {q:Program} {loose:List Str} {XP:(Str->Option Value)->Heap->Prop} {YP:World->Heap->Prop} {d:DefRec}
  (hn:l.most=some n) (hdf:d.params.defaults=[])
  (call:∀(w:World) (s₀ s₁:Shared) (mg mb:SO) (fa:Addr) (o:Obj) (pm cd doc:Value) (a:Addr) (vs:List Value) (ns:List Int),
    Ground q loose [] XP w s₀ mg mb s₁.heap->YP w s₁.heap->
    s₁.heap.get? fa=some o->o.data = .func (docDef d.name d.params d.body d.scope pm cd doc)->s₁.heap.CodeRec cd d.name->mg d.name=some (.ref fa)->
    s₁.heap.get? a=some { cls:= .type "list",data:= .seq vs.toArray }->IntsAre vs ns->ns.length<=n->s₁.gens=#[]->
    codeAny (model l.prog w) callerA (.call (.ref fa) ⟨[.ref a],[]⟩) (fun r s'=>r = .ok (.ret (.bool true))/\OldK s₁.heap s'.heap/\s'.os=s₁.os/\AllBare s'.gens) s₁):
  WalkO q loose XP YP l.row.toRowW d [] (fun f vs=>PySem.call f vs):=by
 intro w s₀ s₁ mg mb G Y fa o pm cd doc dV kV ho hd hcd hD hmg hg args vals as hpre hlay hrd hwl hlo
 obtain rfl:dV = .none:=Dflts.none hD hdf
 obtain rfl:kV = .none:=Dflts.noKw hD
 obtain ⟨a,vs,ns,rfl,rfl,hobj,hints,hlen⟩:=Rb hn hpre hwl
 refine enter_call (B4 (call w s₀ s₁ mg mb fa o pm cd doc a vs ns G Y ho (fd_plain hd) hcd hmg hobj hints hlen hg) fun r s' hq=>?_)
 obtain ⟨rfl,h2,h3,h4⟩:=hq
 exact ⟨.inl ⟨.bool true, .bool true,[],Z,fun _=>rfl, .bool true,Rc l _,fun _=>⟨List.Pairwise.nil,fun _ hm=>(nomatch hm)⟩⟩,h2,h3,h4⟩
section
variable {prog:Program} {w:World} {A:Around} {E:VS} {s:Shared} {K:Frag}
end
end Att
namespace L2
open PySem PySem.Spec PyProof.Rows
theorem Fq:∀{vs:List Value} {ns:List Int},IntsAre vs ns->Vals (ns.map V.int) vs
 | _,_, .nil=> .nil
 | _,_, .cons n t h=> .cons ⟨t,Z⟩ (Fq h)
def T8 (H:Hp):Prop:=∀b,H b=none\/∃o xs,H b=some (.eF o (.lst xs))
variable {P:Program} {K:Fg} {mg:SO} {a:Addr} {fd:FuncData} {x:Str} {sp:Sp} {ns:List Int}
theorem T9 {w:World} {mb:SO} {CX:wC} {k:Nat} {fa:Addr} {s₁:Shared} {vs:List Value}
  (KX:K.In s₁.heap) (hns:s₁.heap.Ns mainGlobals mg) (hb:s₁.heap.Ns builtinsNs mb) (hbb:∀x:Str,x ≠ "__name__"->mb x=bootBuiltins x) (hlim:s₁.heap.NoLimit) (hg:s₁.gens=#[])
  (ha:s₁.heap.get? a=some { cls:= .type "list",data:= .seq vs.toArray }) (hi:IntsAre vs ns) (hl:ns.length<=sizeLine) (hr:dJ k callerA)
  (F:∀base:Heap,K.In base->base.Ns mainGlobals mg->jf P w K mg base CX k fa fd [x] sp) (hbind:∀(s:Shared) (u:Value),BindsTo s fd ⟨[u],[]⟩ [(x,u)])
  (oR:∀H:Hp,T8 H->aK K H a (ns.map V.int)->sp [.ref a] H (fun v _=>v = .bl true) fun _ _ _=>False)
  (YX:∀H e s',CX [] H s₁ (fun _ _ _=>False) e s'->False):
  codeAny (model P w) callerA (.call (.ref fa) ⟨[.ref a],[]⟩) (fun r s'=>r = .ok (.ret (.bool true))/\OldK s₁.heap s'.heap/\s'.os=s₁.os/\AllBare s'.gens) s₁:=by
 have rv:=Fq hi
 have afm:=hi.length
 have core:∀H:Hp,T8 H->aK K H a (ns.map V.int)->g_ P w H s₁.heap->(∀b,H b≠none->b=a)->(H a≠none->K.lookup a=none)->
   codeAny (model P w) callerA (.call (.ref fa) ⟨[.ref a],[]⟩) (fun r s'=>r = .ok (.ret (.bool true))/\OldK s₁.heap s'.heap/\s'.os=s₁.os/\AllBare s'.gens) s₁:=by
  intro H hO hS hok hA hK
  have NL:∀{b:Addr} {o:Obj},s₁.heap.get? b=some o->H b=none->(xK s₁.heap H).get? b=some o:=fun e n=>Tj e n
  have Q2:∀{b:Addr} {o:Obj} {es:Array DictEntry} {ep:Nat},s₁.heap.get? b=some o->o.data = .dict es ep->H b=none:=fun {b o es ep} e d=>by
   cases q:H b with
   | none=>rfl
   | some u=>
     have e':b=a:=hA b (by rw [q];simp)
     subst e'
     rw [ha] at e;cases e
     have d':Data.seq vs.toArray _=Data.dict es ep:=d
     cases d'
  have VJ:∀{b:Addr} {m:SO},s₁.heap.Ns b m->(xK s₁.heap H).Ns b m:=fun {b m} ⟨o,es,ep,e,d,r⟩=>⟨o,es,ep,NL e (Q2 e d),d,r⟩
  have hKb:K.In (xK s₁.heap H):=fun b o e=>NL (KX b o e) (by
   cases q:H b with
   | none=>rfl
   | some u=>
     have e':b=a:=hA b (by rw [q];simp)
     subst e'
     rw [hK (by rw [q];simp)] at e;cases e)
  have hM:Mod K mg (xK s₁.heap H):=⟨hKb,VJ hns,⟨mb,VJ hb,hbb⟩,let ⟨mc,h1,h2⟩:=hlim;⟨mc,VJ h1,h2⟩⟩
  have e0:Bf P w K mg (xK s₁.heap H) callerA [] s₁ H:=⟨Z,hM,fun b o e=>WB e,Nat.le_of_eq (QI _ _),trivial,fun b hb=>absurd (show b∈([] :List Addr) from hb) (by simp),hok, .of_eq hg⟩
  refine B4 ((F _ hKb (VJ hns)).run callerA [] s₁ H ⟨[.ref a],[]⟩ [.ref a] [.ref a] _ _ hr e0 (hbind s₁ (.ref a)) (.cons rfl .nil) (oR H hO hS)) fun r s' h=>?_
  cases r with
  | error e=>exact (YX H e s' h).elim
  | ok fl=>
    cases fl with
    | next=>exact False.elim h
    | brk=>exact False.elim h
    | cont=>exact False.elim h
    | ret u=>
      obtain ⟨v,H',os,bare,un,afn,r',q⟩:=h
      have q':v = .bl true:=q
      subst q'
      obtain rfl:u=Value.bool true:=r'
      refine ⟨Z,OldK.of_keep fun b o e=>?_,os,bare⟩
      cases q:H b with
      | none=>exact un.keep b o e q (by intro z;exact absurd (show b∈([] :List Addr) from z) (by simp)) (by simp)
      | some u=>
        rcases hO b with z|⟨ob,xs,z⟩
        . rw [q] at z;cases z
        . have z2:=un.qb b ob _ z
          obtain ⟨e1,_⟩:=hok b _ z
          obtain ⟨e2,_⟩:=afn b _ z2
          rw [e] at e1;cases e1
          exact e2
 cases hk:K.lookup a with
 | some o=>
   have e:=KX a o hk
   rw [ha] at e
   cases e
   refine core (fun _=>none) (fun _=> .inl rfl) (.inr ⟨_,vs.toArray,_,hk,Z,Z,Z,by rw [iK,afm];exact hl,by simpa using rv⟩) (fun b u z=>by have z':(none:Option HO)=some u:=z;cases z') (fun b z=>absurd rfl z) fun z=>absurd rfl z
 | none=>
   refine core (fun b=>if b=a then some (.eF { cls:= .type "list",data:= .seq vs.toArray } (.lst (ns.map V.int))) else none) (fun b=>?_) (.inl (.inr ⟨{ cls:= .type "list",data:= .seq vs.toArray },aD rfl⟩)) (fun b u z=>?_) (fun b z=>?_) fun _=>hk
   . by_cases hb:b=a
     . exact .inr ⟨_,_,aD hb⟩
     . exact .inl (aB hb)
   . by_cases hb:b=a
     . have z':=(aD hb).symm.trans z
       cases z'
       subst hb
       exact ⟨ha,by rw [aH];exact hl,vs,_,rv,ha⟩
     . have z':=(aB hb).symm.trans z
       cases z'
   . by_cases hb:b=a
     . exact hb
     . exact absurd (aB hb) z
variable {XP:(Str->Option Value)->Heap->Prop} {YP:World->Heap->Prop}
theorem WS {l:PySem.W.OpenLaw} {n k:Nat} {q:Program} {loose:List Str} {d:DefRec} {K:Params->Fg} {CX:World->wC} {sp:World->Sp}
  (hn:l.most=some n) (hn2:n<=sizeLine) (hdf:d.params.defaults=[]) (hr:dJ k callerA)
  (hY:∀(w:World) (h:Heap),YP w h->(K w.params).In h)
  (F:∀(w:World) (mg:SO) (fa:Addr) (h:Heap),(K w.params).In h->h.Ns mainGlobals mg->mg d.name=some (.ref fa)->
    ∃fd:FuncData,(∀(s:Shared) (u:Value),BindsTo s fd ⟨[u],[]⟩ [(x,u)])/\
     ∀base:Heap,(K w.params).In base->base.Ns mainGlobals mg->jf l.prog w (K w.params) mg base (CX w) k fa fd [x] (sp w))
  (oR:∀(w:World) (H:Hp) (a:Addr) (ns:List Int),ns.length<=n->T8 H->aK (K w.params) H a (ns.map V.int)->sp w [.ref a] H (fun v _=>v = .bl true) fun _ _ _=>False)
  (YX:∀(w:World) (H:Hp) (s:Shared) (e:Value) (s':Shared),CX w [] H s (fun _ _ _=>False) e s'->False):
  PySem.W.WalkO q loose XP YP l.row.toRowW d [] (fun f vs=>PySem.call f vs):=by
 refine Att.L4 hn hdf fun w s₀ s₁ mg mb fa o pm cd doc a vs ns G Y ho hd hcd hmg hobj hints hlen hg=>?_
 have KX:=hY w _ Y
 obtain ⟨fd,hb,hF⟩:=F w mg fa _ KX G.T.g hmg
 exact T9 KX G.T.g G.T.b G.T.builtins G.T.nolimit hg hobj hints (gf hlen hn2) hr hF hb (fun H hO hS=>oR w H a ns hlen hO hS) fun H e s'=>YX w H s₁ e s'
def inClass (s:Stmt) (j:Nat):Stmt:=match s with
 | .ClassDef _ _ _ body _ _ _ _ _ _ _=>body.getD j (.Pass ⟨0,0,0,0⟩)
 | _=> .Pass ⟨0,0,0,0⟩
def d8 (s:Stmt):Arguments:=match s with
 | .FunctionDef _ a _ _ _ _ _ _ _ _=>a
 | _=>{ posonlyargs:=[],args:=[],vararg:=none,kwonlyargs:=[],kw_defaults:=[],kwarg:=none,defaults:=[] }
def cJ (s:Stmt):List Stmt:=match s with
 | .FunctionDef _ _ b _ _ _ _ _ _ _=>b
 | _=>[]
def aE (s:Stmt):Scope:=match s with
 | .FunctionDef _ _ _ _ _ _ sc _ _ _=>sc
 | _=>{ kind:= .function,names:=[],isGenerator:=false,isCoroutine:=false }
abbrev sV:wC:=fun _ _ _ _ _ _=>False
abbrev E0:XK:=fun _ _ _=>False
structure Ft (K:Fg) (x qual:Str) (st:Stmt) (f:Addr) (fd:FuncData):Prop where
 ex:∃(oc:Value) (od:Option Addr) (kV doc pm:Value) (an:Option Addr) (cdv ct:Value) (osl:Array (Option Value)),
  fd=PySem.W.fnOf x qual (d8 st) (cJ st) (aE st) .none kV doc pm an cdv ct/\K.lookup f=some ⟨oc,od, .func fd,osl⟩/\PySem.W.codeIn K cdv qual=true
 kp:PySem.W.keepIn K (.ref f)=true
variable {qual:Str} {f:Addr} {N ps:List Str} {oc doc pm cdv ct:Value} {od an:Option Addr} {osl:Array (Option Value)}
section
variable {P:Program} {w:World} {K:Fg} {mg:SO} {base:Heap}
theorem Ft.ok {st:Stmt} {k:Nat} (F:Ft K x qual st f fd) (S:aR N ps (aE st)) (len:∀vs H Q E,sp vs H Q E->vs.length=ps.length)
  (hbody:∀(cdv:Value) (A:Around) (outer:List Env) (s:Shared) (H:Hp) (vs:List V) (Q:VK) (E:XK),dJ k (A.deeper (envOfC qual (aE st) s.heap.objs.size f cdv))->sp vs H Q E->
    ∃t,p7 (cM sV P w K mg base N qual (aE st) f cdv A outer s H E).AJ (cJ st) t/\t { nx:=fun _ H'=>Q .b9 H',rt:=Q } (start N vs) H):jf P w K mg base sV (k+1) f fd ps sp:=by
 obtain ⟨oc,od,kV,doc,pm,an,cdv,ct,osl,rfl,lk,hcd⟩:=F.ex
 refine Pj lk hcd S len fun A outer s H vs Q E hr oR=>?_
 obtain ⟨t,h,q⟩:=hbody cdv A outer s H vs Q E hr oR
 exact ⟨t,h.AJ,q⟩
theorem Ft.binds {st:Stmt} (F:Ft K x qual st f fd)
  (h:∀(kV doc pm:Value) (an:Option Addr) (cdv ct:Value) (us:List Value),us.length=ps.length->bindArgs (PySem.W.fnOf x qual (d8 st) (cJ st) (aE st) .none kV doc pm an cdv ct) ⟨us,[]⟩=pure (ps.zip us)):Binds K fd ps [] :=by
 obtain ⟨oc,od,kV,doc,pm,an,cdv,ct,osl,rfl,lk,hcd⟩:=F.ex
 exact .all (h kV doc pm an cdv ct)
theorem Ji {st:Stmt} {kV:Value} (l:K.lookup f=some ⟨oc,od, .func (PySem.W.fnOf x qual (d8 st) (cJ st) (aE st) .none kV doc pm an cdv ct),osl⟩)
  (c:PySem.W.codeIn K cdv qual=true) (k:PySem.W.keepIn K (.ref f)=true):Ft K x qual st f (PySem.W.fnOf x qual (d8 st) (cJ st) (aE st) .none kV doc pm an cdv ct):=⟨⟨oc,od,kV,doc,pm,an,cdv,ct,osl,Z,l,c⟩,k⟩
end
theorem dB {A:Around} {k:Nat} (hr:dJ k A):A.units+1<cLine:=IE (Nat.add_le_add_left (by decide:1<=64) _) hr.units
theorem dH {n:Nat} (h:n<=1000):n<sizeLine:=IE h (by decide)
section
variable {X:Cx}
end
theorem jg {A B:Prop} (h:B):if false=true then A else B:=by
 rw [aB fH]
 exact h
theorem mF {A B:Prop} (h:A):if true=true then A else B:=by
 rw [aD rfl]
 exact h
theorem aQ {c A B:Prop} [Decidable c] (h1:c->A) (h2:¬ c->B):if c then A else B:=by
 by_cases h:c
 . rw [aD h]
   exact h1 h
 . rw [aB h]
   exact h2 h
def aO (H H':Hp):Prop:=∀b o,H b=some o->H' b=some o
theorem aO.refl (H:Hp):aO H H:=fun _ _ h=>h
variable {H H1 H2:Hp}
theorem aO.trans (a:aO H H1) (b:aO H1 H2):aO H H2:=fun c o h=>b c o (a c o h)
variable {H':Hp}
theorem aO.free (e:aO H H') {l:Addr} (h:H' l=Option.none):H l=Option.none:=by
 cases q:H l with
 | none=>rfl
 | some o=>
   rw [e l o q] at h
   cases h
variable {xs:List V}
theorem aO.seq (e:aO H H') (h:aK K H a xs):aK K H' a xs:=by
 rcases h with (h|⟨o,h⟩)|h
 . exact .inl (.inl (e _ _ h))
 . exact .inl (.inr ⟨o,e _ _ h⟩)
 . exact .inr h
section
variable {X:Cx}
theorem u7:je X (.builtin "len") (fun xs H Q=>∃a kvs,xs=[V.ref a]/\H a=some (.dK kvs)/\Q (.int kvs.length) H):=by
 intro pins s σ H xs us Q I r h
 obtain ⟨a,kvs,rfl,ha,q⟩:=h
 obtain ⟨u,rfl,ru⟩:=vals1 r
 cases ru
 exact abJ I (.inl ha) fun t s' I'=>⟨.int kvs.length,H,I',⟨t,Z⟩,q⟩
end
section
variable {κ:Type} [DecidableEq κ]
theorem T_ {kvs:List (κ×V)} {k:κ} (h:dM kvs k=none):¬ k∈kvs.map (·.1):=by
 intro m
 obtain ⟨p,hp,e⟩:=bH.mp m
 have q:(kvs.any fun kv=>decide (kv.1=k))=true:=List.any_eq_true.mpr ⟨p,hp,bq e⟩
 rw [qd,h] at q
 exact absurd q (by simp)
theorem oq:∀{l:List κ} {k:κ},l.Nodup->¬ k∈l->(l++[k]).Nodup
 | [],k,_,_=>by simp
 | a::r,k,h,hk=>by
   obtain ⟨h1,h2⟩:=fP.mp h
   show (a::(r++[k])).Nodup
   refine fP.mpr ⟨fun m=>?_,oq h2 fun m=>hk (dz.mpr (Or.inr m))⟩
   rcases gb.mp m with q|q
   . exact h1 q
   . exact hk (dz.mpr (Or.inl (fU.mp q).symm))
theorem WT {kvs:List (κ×V)} {k:κ} (v:V) (hn:(kvs.map (·.1)).Nodup) (h:dM kvs k=none):((putK kvs k v).map (·.1)).Nodup:=by
 rw [lu v h,bR]
 exact oq hn (T_ h)
end
end L2
set_option maxHeartbeats 4000000
namespace L2
open PySem PySem.Spec PyProof.Rows
section
variable {X:Cx}
def Cp (_ j:Int):Prop:=0<j/\j.natAbs.log2<9000
theorem i7:jm X (binaryOp .FloorDiv) (rI Cp fun i j=> .int (i / j)):=QN fun i j _ _ _ _ _ hc q=>by
 have h1:(0:Int)<j:=hc.1
 exact floordiv_int (by omega) (by rw [Int.fdiv_eq_ediv_of_nonneg i (by omega)];exact q) (.inl (PyProof.noPylong_of_log2 hc.2))
theorem yV {i j:Int} (h:(decide (0<j) && decide (j.natAbs.log2<9000))=true):Cp i j:=by
 obtain ⟨a,b⟩:=nJ.mp h
 exact ⟨bg a,bg b⟩
theorem Ua {i j:Int} {n:Nat} (h0:0<j) (h:j<2 ^ n) (hn:n<=9000):Cp i j:=by
 refine ⟨h0,?_⟩
 have e:(j.natAbs:Int)=j:=by omega
 have h2:j.natAbs<2 ^ n:=by
  have:(j.natAbs:Int)<((2 ^ n:Nat):Int):=by rw [e];simpa using h
  exact Int.ofNat_lt.mp this
 have:=(Nat.log2_lt (n:=j.natAbs) (k:=n) (by omega)).mpr h2
 omega
def Pq (i j:Int):Prop:=∃m n:Nat,i.natAbs<2 ^ m/\j.natAbs<2 ^ n/\m+n<=134217728
theorem jh:jm X (binaryOp .Mult) (rI Pq fun i j=> .int (i*j)):=QN fun _ _ _ _ _ _ _ hc q=>by
 obtain ⟨m,n,h1,h2,h3⟩:=hc
 exact mul_int q (IntMulOk.of_le (OU.mpr h1) (OU.mpr h2) h3)
mutual
inductive Dt (K:Fg) (H:Hp):V->PyData->Prop
 | b9:Dt K H .b9 .none
 | bl (b:Bool):Dt K H (.bl b) (.bool b)
 | int (i:Int):Dt K H (.int i) (.int i)
 | str (x:Str):Dt K H (.str x) (.str x)
 | lst {a:Addr} {xs:List V} {ds:List PyData}:aK K H a xs->AN K H xs ds->Dt K H (.ref a) (.list ds)
 | tup {a:Addr} {xs:List V} {ds:List PyData}:dm K H a xs->AN K H xs ds->Dt K H (.ref a) (.tuple ds)
inductive AN (K:Fg) (H:Hp):List V->List PyData->Prop
 | nil:AN K H [] []
 | cons {x:V} {xs:List V} {d:PyData} {ds:List PyData}:Dt K H x d->AN K H xs ds->AN K H (x::xs) (d::ds)
end
section
variable {pins:AO} {σ:St} {H:Hp} {s:Shared}
mutual
theorem Dt.reads (I:Inv X pins σ H s):∀{x:V} {d:PyData} {u:Value},Dt X.K H x d->RelV x u->∃as,Reads s.heap u d as
 | _,_,u, .b9,r=>by cases (show u=Value.none from r);exact ⟨_, .none⟩
 | _,_,u, .bl b,r=>by cases (show u=Value.bool b from r);exact ⟨_, .bool b⟩
 | _,_,u, .int i,r=>by obtain ⟨t,rfl⟩:=(show ∃t,u=Value.int i t from r);exact ⟨_, .int i t⟩
 | _,_,u, .str x,r=>by obtain ⟨t,rfl⟩:=(show ∃t,u=Value.str x t from r);exact ⟨_, .str x t⟩
 | _,_,u,@Dt.lst _ _ a xs ds h hd,r=>by
   cases (show u=Value.ref a from r)
   obtain ⟨its,rv,⟨o,n,e,c,_,d⟩,hz⟩:=I.list h
   obtain ⟨as,ra⟩:=AN.reads I hd rv
   exact ⟨_, .list e c d (by simpa using ra)⟩
 | _,_,u,@Dt.tup _ _ a xs ds h hd,r=>by
   cases (show u=Value.ref a from r)
   obtain ⟨its,rv,⟨o,e,c,n,d⟩,hz⟩:=I.tuple h
   obtain ⟨as,ra⟩:=AN.reads I hd rv
   exact ⟨_, .tuple e c d (by simpa using ra)⟩
theorem AN.reads (I:Inv X pins σ H s):∀{xs:List V} {ds:List PyData} {us:List Value},AN X.K H xs ds->Vals xs us->∃as,ReadsAll s.heap us ds as
 | _,_,_, .nil, .nil=>⟨_, .nil⟩
 | _,_,_, .cons h t, .cons r rs=>by
   obtain ⟨as,ra⟩:=Dt.reads I h r
   obtain ⟨bs,rb⟩:=AN.reads I t rs
   exact ⟨_, .cons ra rb⟩
end
end
inductive YY (K:Fg) (x:V) (y:V) (H:Hp) (Q:VK):Prop
 | mk  (d e:_) (_:Dt K H x d) (_:Dt K H y e) (_:SeqAt.shaped d=true) (_:SeqAt.shaped e=true) (_:Q (.bl (!PyData.eqv d e)) H)
theorem YZ (hu:X.A.units+64<cLine):jm X (compareOp .NotEq) (YY X.K):=by
 intro pins s σ H x y v u Q I rx ry h
 obtain ⟨d,e,hd,he,sd,se,q⟩:=h
 obtain ⟨as,ra⟩:=hd.reads I rx
 obtain ⟨bs,rb⟩:=he.reads I ry
 exact ne_dataH ra rb sd se hu ⟨.bl _,H,I,Z,q⟩
structure Bx (p:Prop):Prop where
 ex:p
def bx (f:Sp):Sp:=fun vs H Q E=>Bx (f vs H Q E)
structure Dn (P:Program) (w:World) (K:Fg) (mg:SO) (base:Heap) (k:Nat) (x:Str) (ps:List Str) (sp:Sp):Prop where
 ex:∃f fd,jf P w K mg base sV k f fd ps sp/\Binds K fd ps []/\PySem.W.keepIn K (.ref f)=true/\mg x=some (.ref f)
end
structure At (K:Fg) (mg:SO) (x:Str) (st:Stmt) (f:Addr) (fd:FuncData):Prop where
 fn:Ft K x x st f fd
 name:mg x=some (.ref f)
variable {P:Program} {K:Fg} {mg:SO} {base:Heap} {x:Str} {f:Addr} {fd:FuncData} {N ps:List Str} {sp:Sp}
theorem At.ok {w:World} {st:Stmt} {k:Nat} (F:At K mg x st f fd) (S:aR N ps (aE st)) (len:∀vs H Q E,sp vs H Q E->vs.length=ps.length)
  (hbody:∀(cdv:Value) (A:Around) (outer:List Env) (s:Shared) (H:Hp) (vs:List V) (Q:VK) (E:XK),dJ k (A.deeper (envOfC x (aE st) s.heap.objs.size f cdv))->sp vs H Q E->
    ∃t,p7 (cM sV P w K mg base N x (aE st) f cdv A outer s H E).AJ (cJ st) t/\t { nx:=fun _ H'=>Q .b9 H',rt:=Q } (start N vs) H)
  (h:∀(kV doc pm:Value) (an:Option Addr) (cdv ct:Value) (us:List Value),us.length=ps.length->bindArgs (PySem.W.fnOf x x (d8 st) (cJ st) (aE st) .none kV doc pm an cdv ct) ⟨us,[]⟩=pure (ps.zip us)):
  Dn P w K mg base (k+1) x ps sp:=⟨f,fd,F.fn.ok S len hbody,F.fn.binds h,F.fn.kp,F.name⟩
variable {h:Heap} {oc doc pm cdv ct:Value} {od an:Option Addr} {osl:Array (Option Value)}
theorem VL {st:Stmt} {kV:Value} (X:K.In h) (G:h.Ns mainGlobals mg)
  (a:PySem.W.nsIn K mainGlobals x=some (some (.ref f))) (l:K.lookup f=some ⟨oc,od, .func (PySem.W.fnOf x x (d8 st) (cJ st) (aE st) .none kV doc pm an cdv ct),osl⟩)
  (c:PySem.W.codeIn K cdv x=true) (k:PySem.W.keepIn K (.ref f)=true):At K mg x st f (PySem.W.fnOf x x (d8 st) (cJ st) (aE st) .none kV doc pm an cdv ct):=⟨Ji l c k,qR X G a⟩
theorem aO.tup {H H':Hp} {K:Fg} {a:Addr} {xs:List V} (e:aO H H') (h:dm K H a xs):dm K H' a xs:=by
 rcases h with (h|⟨o,h⟩)|h
 . exact .inl (.inl (e _ _ h))
 . exact .inl (.inr ⟨o,e _ _ h⟩)
 . exact .inr h
variable {H:Hp}
theorem aG {p:Addr} (h:H p=none) (o:HO):aO H (upd H p o):=fun b u q=>by rw [au (aF q h)];exact q
theorem small {n:Nat} (h:n<=1000):n<=sizeLine:=B0 (dH h)
end L2
namespace Jm
def cf (a b:Int):Int:=(Int.gcd a b:Int)
theorem WU (a:Int) (h:0<=a):cf a 0=a:=by
 unfold cf;rw [Int.gcd_zero_right];omega
theorem NN (a b:Int) (h:0<b):cf b (a % b)=cf a b:=by
 unfold cf
 rw [Int.emod_def,Int.gcd_sub_mul_left_right,Int.gcd_comm]
theorem Cq (a b:Int) (h:0<a\/0<b):0<cf a b:=by
 unfold cf
 have:0<Int.gcd a b:=by
  rcases h with h|h
  . exact Int.gcd_pos_of_ne_zero_left _ (by omega)
  . exact Int.gcd_pos_of_ne_zero_right _ (by omega)
 omega
theorem WV (a b:Int):cf a b=cf b a:=by unfold cf;rw [Int.gcd_comm]
abbrev fr (t b:Int):Rat:=Rat.divInt t b
theorem Rg (t b:Int) (h:0<b):(fr t b).num=t / cf b t:=by
 unfold fr cf
 rw [Rat.num_divInt,Int.sign_eq_one_of_pos h,Int.one_mul]
theorem Rh (t b:Int) (h:0<b):((fr t b).den:Int)=b / cf b t:=by
 unfold fr cf
 rw [Rat.den_divInt,aB (by omega)]
 rw [Int.natCast_ediv];congr 1;omega
theorem vN (a b:Int):cf a b∣a:=Int.gcd_dvd_left ..
theorem oS (a b:Int):cf a b∣b:=Int.gcd_dvd_right ..
theorem NO (q:Rat):fr q.num q.den=q:=Rat.num_divInt_den q
theorem VM {t b t' b':Int} (h:0<b) (h':0<b') (e:t*b'=t'*b):fr t b=fr t' b':=
 (Rat.divInt_eq_divInt_iff (by omega) (by omega)).mpr e
theorem Ri {t b t' b':Int} (h:0<b) (h':0<b') (e:fr t b=fr t' b'):t*b'=t'*b:=
 (Rat.divInt_eq_divInt_iff (by omega) (by omega)).mp e
theorem Rj {n d:Int} (h:0<d) (c:cf n d=1):(fr n d).num=n/\((fr n d).den:Int)=d:=by
 rw [Rg n d h,Rh n d h,WV,c,B8,B8];exact ⟨Z,Z⟩
def Sz (n:Nat) (x:Int):Prop:=x.natAbs<2 ^ n
theorem Sz.mono {m n:Nat} {x:Int} (h:Sz m x) (hn:m<=n):Sz n x:=kM h (Nat.pow_le_pow_right (by decide) hn)
theorem Sz.of_le {n:Nat} {x y:Int} (h:Sz n y) (hx:x.natAbs<=y.natAbs):Sz n x:=IE hx h
theorem Sz.neg {n:Nat} {x:Int} (h:Sz n x):Sz n (-x):=h.of_le (by omega)
theorem Sz.mul {m n:Nat} {x y:Int} (hx:Sz m x) (hy:Sz n y):Sz (m+n) (x*y):=by
 unfold Sz at *
 rw [BY,Nat.pow_add]
 exact Nat.mul_lt_mul'' hx hy
theorem Sz.add {m n:Nat} {x y:Int} (hx:Sz m x) (hy:Sz n y):Sz (max m n+1) (x+y):=by
 have h1:=hx.mono (Nat.le_max_left m n)
 have h2:=hy.mono (Nat.le_max_right m n)
 unfold Sz at *
 rw [Nat.pow_succ]
 omega
theorem Sz.kN {n:Nat} {x y:Int} (hx:Sz n x) (hy:Sz n y):Sz (n+1) (x+y):=by
 have:=hx.add hy
 rwa [Nat.max_self] at this
theorem Sz.lz {n:Nat} {x B:Int} (h0:-B<=x) (h1:x<=B) (hB:Sz n B):Sz n x:=hB.of_le (by omega)
theorem Sz.ediv {n:Nat} {x y:Int} (h:Sz n x) (hy:0<y):Sz n (x / y):=by
 refine h.of_le ?_
 have e:=Int.emod_add_mul_ediv x y
 have m0:=oK x (b:=y) (by omega)
 have m1:=yO x hy
 rcases Int.lt_or_le x 0 with hx|hx
 . have q0:x / y<0:=Int.ediv_neg_of_neg_of_pos hx hy
   have z:y*(x / y)<=1*(x / y):=Int.mul_le_mul_of_nonpos_right (by omega) (by omega)
   rcases Int.lt_or_le (x / y) x with k|k
   . exfalso
     have z2:y*(x / y)<=y*(x-1):=Iz (by omega) (by omega)
     have z3:y*(x-1)<=1*(x-1)-(y-1):=by
      have z4:(y-1)*(x-1)<=(y-1)*(-2):=Iz (by omega) (by omega)
      have z5:y*(x-1)=(y-1)*(x-1)+(x-1):=by grind
      omega
     omega
   . omega
 . have q0:0<=x / y:=Ib hx (by omega)
   have:=Int.ediv_le_self y hx
   omega
def NP (n:Nat) (q:Rat):Prop:=Sz n q.num/\Sz n (q.den:Int)
theorem Sz.dvd {n:Nat} {x y:Int} (h:Sz n y) (hy:0<y) (hx:0<=x) (d:x∣y):Sz n x:=h.of_le (by have:=Int.le_of_dvd hy d;omega)
theorem Pr {n:Nat} {t b:Int} (hb:0<b) (h1:Sz n t) (h2:Sz n b):NP n (fr t b):=by
 unfold NP
 rw [Rg t b hb,Rh t b hb]
 have g:=Cq b t (.inl hb)
 exact ⟨h1.ediv g,h2.ediv g⟩
theorem Rk {n:Nat}:∀{ws:List Int},(∀m∈ws,Sz n m)->Sz (n+ws.length) ws.sum
 | [],_=>by unfold Sz;show 0<_;exact Nat.two_pow_pos _
 | x::r,h=>by
   have h1:=Rk (ws:=r) fun m hm=>h m (cD _ hm)
   have h2:=((h x cS).mono (vK n r.length)).kN h1
   rw [b8]
   exact h2.mono (by rw [jZ];omega)
def Cr (c:Int):Nat->Int
 | 0=>c
 | i+1=>Cr c i / 10000000000
def cellOf (ns:List Int) (k:Int):Int:=if 0<(ns.length:Int) then ns.getD (k % ns.length).toNat 0 else 0
def yW (ns:List Int) (k:Int):Int:=if 0<(ns.length:Int) then k / ns.length else 1
def mixed (c k j many:Int):Int:=
 let one:=(c*7919+k*104729+j*1299709+31) % 1000000007
 let two:=(one*48271+c / 1009) % 998244353
 let three:=(two*(one % 9973+1)+j) % 1000000009
 (one*69621+three*40692+three / 1013) % 2147483647 % many
def draw (ns:List Int) (k j many:Int):Int:=
 if yW ns k=0/\1000000000000000000<=cellOf ns k/\0<Cr (cellOf ns k) j.toNat then Cr (cellOf ns k) j.toNat % 10000000000 % many
 else mixed (cellOf ns k) k j many
theorem WW (ns:List Int) (k j many:Int) (h:0<many):0<=draw ns k j many:=by
 unfold draw;split
 . exact oK _ (by omega)
 . exact oK _ (by omega)
theorem WX (ns:List Int) (k j many:Int) (h:0<many):draw ns k j many<many:=by
 unfold draw;split
 . exact yO _ h
 . exact yO _ h
end Jm
namespace L2
open PySem PySem.Spec PyProof.Rows
inductive abP (K:Fg) (vs:List V) (H:Hp) (Q:VK) (E:XK):Prop
 | mk (a:Addr) (ns:List Int) (k j many:Int) (_:vs=[.ref a, .int k, .int j, .int many]) (_:aK K H a (ns.map V.int)) (_:ns.length<=63) (_:0<=k) (_:0<=j) (_:j<2 ^ 62) (_:0<many) (_:Q (.int (Jm.draw ns k j many)) H)
def rJ (K:Fg):Sp:=bx (abP K)
variable {K:Fg} {H:Hp} {a:Addr} {ns:List Int}
theorem c6 {Q:VK} {E:XK} {k j many:Int} (hS:aK K H a (ns.map V.int)) (h63:ns.length<=63) (h1:0<=k) (h2:0<=j) (h3:j<2 ^ 62) (h4:0<many)
  (h:∀d:Int,d=Jm.draw ns k j many->0<=d->d<many->Q (.int d) H):rJ K [.ref a, .int k, .int j, .int many] H Q E:=
 ⟨a,ns,k,j,many,Z,hS,h63,h1,h2,h3,h4,h _ rfl (Jm.WW ns k j many h4) (Jm.WX ns k j many h4)⟩
def Ub:Sp:=fun vs H Q _=>∃a b:Int,vs=[.int a, .int b]/\0<=a/\0<=b/\Q (.int (Jm.cf a b)) H
abbrev qe (q:Rat):HO:= .tup [.int q.num, .int (q.den:Int)]
def Im (K:Fg):Sp:=fun vs H Q _=>∃(a:Addr) (ns:List Int),vs=[.ref a]/\aK K H a (ns.map V.int)/\ns.length<=63/\∀H',Q (.bl true) H'
section
variable {X:Cx} {pos:Pos}
def Ends.too (D:Ends) (J:St->Hp->Prop):Ends:={ D with nx:=J }
def abQ (t u:TS) (D:Ends) (σ:St) (J:St->Hp->Prop):Bool->Hp->Prop:=fun b H1=>if b=true then t (D.too J) σ H1 else u (D.too J) σ H1
inductive Y0 (c:TT) (t u:TS) (D:Ends) (σ:St) (H:Hp):Prop
 | mk (J:St->Hp->Prop) (_:c σ H (abQ t u D σ J)) (_:∀σ' H',J σ' H'->D.nx σ' H')
end
theorem xO {i j:Int} (h0:0<j) (h:Jm.Sz 9000 j):Cp i j:=by
 refine ⟨h0,?_⟩
 exact (Nat.log2_lt (by omega)).mpr h
variable {m:Nat}
theorem iS {n:Nat} {i j:Int} (hi:Jm.Sz m i) (hj:Jm.Sz n j) (h:m+n<=134217728:=by decide):Pq i j:=⟨m,n,hi,hj,h⟩
theorem oU {n:Nat} {x:Int} (h:decide (x.natAbs<2 ^ n)=true):Jm.Sz n x:=by
 unfold Jm.Sz
 exact bg h
theorem WY {k:Int} (h0:0<=k) (h:k<(ns.length:Int)):rH (ns.map V.int) k=some (.int (ns.getD k.toNat 0)):=by
 have hk:k.toNat<ns.length:=by omega
 have ek:k=((k.toNat:Nat):Int):=by omega
 have q:rH (ns.map V.int) ((k.toNat:Nat):Int)=some (.int (ns.getD k.toNat 0)):=aA (by rw [cA,mw,bD hk] <;> rfl)
 rw [<-ek] at q
 exact q
variable {elt target iter:Expr} {scope:Scope} {pos:Pos} {env:Env}
section
variable {prog:Program} {w:World} {A:Around} {R:Result->Shared->Prop} {s:Shared}
theorem Jj {it acc:Value} (J:Nat->Shared->Prop)
  (turn:∀n s,J n s->wpAny (model prog w) A (pyNext it) (fun r s₁=>match r with
    | none=>R (.ok .next) s₁
    | some v=>wpAny (model prog w) A (letOwnedTupleGo target it v) (fun _ s₂=>wpAny (model prog w) A (assign target env v) (fun _ s₃=>wpAny (model prog w) A (eval elt env) (fun x s₄=>
            wpAny (model prog w) A (call (.builtin "list.append") [acc,x]) (fun _ s₅=>∃m,m<n/\J m s₅) (fun _ _=>False) s₄) (fun _ _=>False) s₃) (fun _ _=>False) s₂) (fun _ _=>False) s₁) (fun _ _=>False) s)
  (n:Nat) (h:J n s):codeAny (model prog w) A (.compLoop (.ListComp elt [⟨target,iter,[],0⟩] scope pos) 0 it acc env) R s:=by
 refine codeAny_loop rfl J (fun n s hI=>?_) n h
 show wpAny _ A ((compTurn (.ListComp elt [⟨target,iter,[],0⟩] scope pos) 0 it acc env).onRaise (fun x=>do noteFrame x env;theTreesLotGoes x)) _ _ s
 refine wpAny_noted ?_
 rw [compTurn_list1]
 refine az (xD (az (gj (turn n s hI) (fun r s₁ h₁=>?_) fun _ _ h'=>h'.elim)))
 cases r with
 | none=>exact aV h₁
 | some v=>
   refine az (gj h₁ (fun _ s₂ h₂=>az (gj h₂ (fun _ s₃ h₃=>?_) fun _ _ h'=>h'.elim)) fun _ _ h'=>h'.elim)
   exact az (az (gj h₃ (fun x s₄ h₄=>az (gj h₄ (fun _ s₅ h₅=>aV (aV ⟨Z,h₅⟩)) fun _ _ h'=>h'.elim)) fun _ _ h'=>h'.elim))
end
theorem tF (h:∀y∈scope.names,y.2 = .free->∃c,env.cells.lookup y.1=some c):
  ∃cl,closureFor scope env=pure cl/\(∀y c,(y,c)∈cl->env.cells.lookup y=some c/\(y,NameKind.free)∈scope.names)/\∀y,(y,NameKind.free)∈scope.names->∃c,(y,c)∈cl:=by
 have gen:∀(names:List (Str×NameKind)) (acc:List (Str×Addr)),(∀y∈names,y.2 = .free->∃c,env.cells.lookup y.1=some c)->
   ∃cl,(forIn names acc fun (x:Str×NameKind) (cs:List (Str×Addr))=>(if (x.2==NameKind.free)=true then do let a <-cellOf env x.1;pure (ForInStep.yield ((x.1,a)::cs)) else pure (ForInStep.yield cs):Sem _))=pure cl/\
    (∀y c,(y,c)∈cl->(env.cells.lookup y=some c/\(y,NameKind.free)∈names)\/(y,c)∈acc)/\(∀p∈acc,p∈cl)/\∀y,(y,NameKind.free)∈names->∃c,(y,c)∈cl:=by
  intro names
  induction names with
  | nil=>intro acc _;exact ⟨acc,by rw [xC],fun y c m=> .inr m,fun p hp=>hp,fun y m=>nomatch m⟩
  | cons x r ih=>
    intro acc hc
    obtain ⟨n,k⟩:=x
    by_cases hk:k = .free
    . subst hk
      obtain ⟨c,ec⟩:=hc (n, .free) cS rfl
      obtain ⟨cl,e,h1,h2,h3⟩:=ih ((n,c)::acc) fun y hy=>hc y (cD _ hy)
      refine ⟨cl,?_,fun y d m=>?_,fun p hp=>h2 p (cD _ hp),fun y m=>?_⟩
      . rw [Ic,<-e]
        have abR:cellOf env n=pure c:=by unfold cellOf;rw [ec]
        simp only [beq_self_eq_true,if_true,abR,pure_bind]
      . rcases h1 y d m with ⟨a,b⟩|b
        . exact .inl ⟨a,cD _ b⟩
        . rcases dz.mp b with z|z
          . cases z;exact .inl ⟨ec,cS⟩
          . exact .inr z
      . rcases dz.mp m with z|z
        . cases z;exact ⟨c,h2 _ cS⟩
        . exact h3 y z
    . obtain ⟨cl,e,h1,h2,h3⟩:=ih acc fun y hy=>hc y (cD _ hy)
      have hb:(k==NameKind.free)=false:=by simpa using hk
      refine ⟨cl,?_,fun y d m=>?_,h2,fun y m=>?_⟩
      . rw [Ic,<-e]
        simp only [hb,IF,qU,pure_bind]
      . rcases h1 y d m with ⟨a,b⟩|b
        . exact .inl ⟨a,cD _ b⟩
        . exact .inr b
      . rcases dz.mp m with z|z
        . cases z;exact absurd rfl hk
        . exact h3 y z
 obtain ⟨cl,e,h1,_,h3⟩:=gen scope.names [] h
 refine ⟨cl,?_,fun y c m=>(h1 y c m).elim id (fun z=>nomatch z),h3⟩
 have e2:closureFor scope env=((forIn scope.names ([] :List (Str×Addr)) fun (x:Str×NameKind) (cs:List (Str×Addr))=>(if (x.2==NameKind.free)=true then do let a <-cellOf env x.1;pure (ForInStep.yield ((x.1,a)::cs)) else pure (ForInStep.yield cs):Sem _)) >>= fun r=>pure r):=rfl
 rw [e2,e]
 rfl
theorem lookup_mem {α:Type} {l:List (Str×α)} {y:Str} {c:α} (h:(y,c)∈l):∃d,l.lookup y=some d:=by
 induction l with
 | nil=>cases h
 | cons p r ih=>
   obtain ⟨k,v⟩:=p
   rw [oJ]
   cases hb:y==k with
   | true=>exact ⟨v,Z⟩
   | false=>
     rcases dz.mp h with z|z
     . cases z;simp at hb
     . exact ih z
theorem lT:∀(names:List (Str×NameKind)) (n:Nat) (acc:List (Str×Addr)) {x:Str} {c:Addr},(cellsFrom n names acc).lookup x=some c->n<=c\/acc.lookup x=some c
 | [],_,_,_,_,h=> .inr h
 | (name,kind)::r,n,acc,x,c,h=>by
   unfold cellsFrom at h
   split at h
   . rcases lT r (n+1) _ h with z|z
     . exact .inl (by omega)
     . rw [oJ] at z
       cases hb:x==name with
       | true=>rw [hb] at z;cases z;exact .inl (aN _)
       | false=>rw [hb] at z;exact .inr z
   . exact lT r n acc h
theorem GH:∀(names:List (Str×NameKind)) (n n0:Nat) (acc:List (Str×Addr)) {x:Str} {c:Addr},n0<=n->(∀d,acc.lookup x=some d->n0<=d)->(cellsFrom n names acc).lookup x=some c->n0<=c:=by
 intro names n n0 acc x c hn ha h
 rcases lT names n acc h with z|z
 . omega
 . exact ha c z
theorem rX:∀(names:List (Str×NameKind)) (n:Nat) (acc:List (Str×Addr)) {x:Str} {c:Addr},(x,NameKind.cell)∈names->(cellsFrom n names acc).lookup x=some c->n<=c
 | [],_,_,_,_,m,_=>nomatch m
 | (name,kind)::r,n,acc,x,c,m,h=>by
   unfold cellsFrom at h
   rcases dz.mp m with z|z
   . cases z
     rw [aD (by rfl)] at h
     refine GH r (n+1) n _ (by omega) (fun d hd=>?_) h
     rw [oJ,beq_self_eq_true] at hd
     cases hd
     exact aN _
   . split at h
     . exact gf (Aj _) (rX r (n+1) _ z h)
     . exact rX r n acc z h
theorem lU:∀(names:List (Str×NameKind)) (n:Nat) (acc:List (Str×Addr)) {x:Str},(∃c,acc.lookup x=some c)->∃c,(cellsFrom n names acc).lookup x=some c
 | [],_,_,_,h=>h
 | (name,kind)::r,n,acc,x,h=>by
   unfold cellsFrom
   split
   . refine lU r (n+1) _ ?_
     rw [oJ]
     cases x==name with
     | true=>exact ⟨_,Z⟩
     | false=>exact h
   . exact lU r n acc h
theorem rY:∀(names:List (Str×NameKind)) (n:Nat) (acc:List (Str×Addr)) {x:Str},(x,NameKind.cell)∈names->∃c,(cellsFrom n names acc).lookup x=some c
 | [],_,_,_,m=>nomatch m
 | (name,kind)::r,n,acc,x,m=>by
   unfold cellsFrom
   rcases dz.mp m with z|z
   . cases z
     rw [aD (by rfl)]
     refine lU r (n+1) _ ⟨n,?_⟩
     rw [oJ,beq_self_eq_true]
   . split
     . exact rY r (n+1) _ z
     . exact rY r n acc z
theorem rZ:∀(names:List (Str×NameKind)) (n:Nat) (acc:List (Str×Addr)) {x:Str},(x,NameKind.cell)∉names->(cellsFrom n names acc).lookup x=acc.lookup x
 | [],_,_,_,_=>rfl
 | (name,kind)::r,n,acc,x,m=>by
   have m2:(x,NameKind.cell)∉r:=fun z=>m (cD _ z)
   unfold cellsFrom
   split
   . rename_i hk
     rw [rZ r (n+1) _ m2,oJ]
     cases hb:x==name with
     | true=>
       have e1:=m7.mp hb
       have e2:kind=NameKind.cell:=by simpa using hk
       subst e1 e2
       exact absurd cS m
     | false=>rfl
   . exact rZ r n acc m2
theorem r6:∀(names:List (Str×NameKind)) (n:Nat) (acc:List (Str×Addr)),(∀x y c,acc.lookup x=some c->acc.lookup y=some c->x=y)->(∀x c,acc.lookup x=some c->c<n)->
  ∀x y c,(cellsFrom n names acc).lookup x=some c->(cellsFrom n names acc).lookup y=some c->x=y
 | [],_,_,h,_=>h
 | (name,kind)::r,n,acc,h,hlt=>by
   intro x y c hx hy
   unfold cellsFrom at hx hy
   split at hx
   . rename_i hk
     rw [aD hk] at hy
     refine r6 r (n+1) _ (fun x y c hx hy=>?_) (fun x c hx=>?_) x y c hx hy
     . rw [oJ] at hx hy
       cases hb:x==name with
       | true=>
         cases hb2:y==name with
         | true=>rw [m7.mp hb,m7.mp hb2]
         | false=>
           rw [hb] at hx;rw [hb2] at hy
           cases hx
           exact absurd (hlt _ _ hy) (jc _)
       | false=>
         cases hb2:y==name with
         | true=>
           rw [hb] at hx;rw [hb2] at hy
           cases hy
           exact absurd (hlt _ _ hx) (jc _)
         | false=>
           rw [hb] at hx;rw [hb2] at hy
           exact h x y c hx hy
     . rw [oJ] at hx
       cases hb:x==name with
       | true=>rw [hb] at hx;cases hx;exact Nat.lt_succ_self _
       | false=>rw [hb] at hx;exact IJ (hlt _ _ hx)
   . rename_i hk
     rw [aB hk] at hy
     exact r6 r n acc h hlt x y c hx hy
theorem vO:∀(names:List (Str×NameKind)) (h:Heap) (acc:List (Str×Addr)),(∀x c,acc.lookup x=some c->∃v,h.IsCell c v)->∀x c,(cellsFrom h.objs.size names acc).lookup x=some c->∃v,(pushCells h names).IsCell c v
 | [],_,_,ha=>ha
 | (name,kind)::r,h,acc,ha=>by
   intro x c hx
   unfold cellsFrom at hx
   unfold pushCells
   split at hx
   . rename_i hk
     rw [aD hk]
     have q:=vO r (h.push { cls:= .type "cell",data:= .cell none }) ((name,h.objs.size)::acc) (fun x c hx=>by
      rw [oJ] at hx
      cases hb:x==name with
      | true=>rw [hb] at hx;cases hx;exact ⟨none,_,eL _ rfl,Z⟩
      | false=>
        rw [hb] at hx
        obtain ⟨v,z⟩:=ha x c hx
        exact ⟨v,z.keeps fun b o e=>b7 _ e⟩) x c
     rw [j0] at q
     exact q hx
   . rename_i hk
     rw [aB hk]
     exact vO r h acc ha x c hx
def cE (X:Cx) (N2:List Str) (scope:Scope) (cl:List (Str×Addr)) (s₂:Shared) (H₂:Hp) (fp:List Addr):Cx where
 prog:=X.prog
 w:=X.w
 K:=X.K
 mg:=X.mg
 base:=X.base
 A:=X.A
 N:=N2
 s₀:=s₂
 H₀:=H₂
 env:={ scope:=relabel scope X.env,locals:=s₂.heap.objs.size,globals:=X.env.globals,cells:=cellsFrom (s₂.heap.objs.size+1) scope.names cl,qual:=X.env.qual,func:=none,code:=X.env.code,frame:=X.env.frame,builtins:=X.env.builtins }
 outer:=X.stack
 stack:=X.stack
 ex:=fp
 fn:=fun x=>decide (scope.names.lookup x=some .cell)
 calm:=X.calm
 pn:=[]
 xe:=fun _ _=>False
def mR (XN:List Str) (xn sn:List (Str×NameKind)) (N2:List Str) (ix:List (Option Nat)):Bool:=
 (ix.length==N2.length) &&
 ((ix.zip N2).all fun p=>match p.1 with
   | none=>true
   | some j=>XN[j]?==some p.2 && sn.lookup p.2==some .free && (xn.lookup p.2==some .cell || xn.lookup p.2==some .free)) &&
 (sn.all fun y=>y.2 != .free || (xn.lookup y.1==some .cell || xn.lookup y.1==some .free)) &&
 (sn.all fun y=>y.2 != .local || sn.lookup y.1==some .local) &&
 (sn.all fun y=>y.2 != .free || sn.all fun z=>z.2 != .cell || z.1 != y.1)
variable {x:Str}
theorem AQ {k:NameKind} (h:(relabel scope env).names.lookup x=some k) (hk:k = .cell\/k = .free):(x,NameKind.cell)∈scope.names\/(x,NameKind.free)∈scope.names:=by
 have m:=xy h
 obtain ⟨y,hy,e⟩:=bH.mp m
 obtain ⟨n,k0⟩:=y
 dsimp only at e
 split at e
 . rename_i hc
   cases e
   have h1:k0=NameKind.free:=by
    have:=(nJ.mp (nJ.mp hc).1).1
    simpa using this
   subst h1
   exact .inr hy
 . cases e
   rcases hk with rfl|rfl
   . exact .inl hy
   . exact .inr hy
theorem Jk:∀{x:Str},scope.names.lookup x=some .free->(relabel scope env).names.lookup x=some .cell\/(relabel scope env).names.lookup x=some .free:=by
 intro x h
 have gen:∀(l:List (Str×NameKind)),l.lookup x=some .free->(l.map fun (n,k)=>if (k==NameKind.free && env.scope.kind == .function && env.kindOf n==some .cell) then (n,NameKind.cell) else (n,k)).lookup x=some .cell\/
   (l.map fun (n,k)=>if (k==NameKind.free && env.scope.kind == .function && env.kindOf n==some .cell) then (n,NameKind.cell) else (n,k)).lookup x=some .free:=by
  intro l
  induction l with
  | nil=>intro h;cases h
  | cons p r ih=>
    intro h
    obtain ⟨n,k⟩:=p
    rw [oJ] at h
    rw [bw]
    dsimp only
    cases hb:x==n with
    | true=>
      rw [hb] at h
      cases h
      split
      . rw [oJ,hb];exact .inl rfl
      . rw [oJ,hb];exact .inr rfl
    | false=>
      rw [hb] at h
      split
      . rw [oJ,hb];exact ih h
      . rw [oJ,hb];exact ih h
 exact gen scope.names h
variable {X:Cx} {pins:AO} {σ σ2:St} {s:Shared} {N2:List Str} {cl:List (Str×Addr)} {fp:List Addr}
theorem xP (I:Inv X pins σ H s) (hk:scope.kind = .function)
  (Bh:∀y c,(y,c)∈cl->X.env.cells.lookup y=some c) (yX:∀y,(y,NameKind.free)∈scope.names->∃c,(y,c)∈cl) (hfp:∀b∈fp,k7 X pins H b) (hfo:∀b∈fp,b<s.heap.objs.size) (hl:σ2.length=N2.length)
  (hσ:∀(i:Nat) (x:Str) (v:V),N2[i]?=some x->σ2[i]?=some (some v)->scope.names.lookup x=some .free/\(X.env.kindOf x=some .cell\/X.env.kindOf x=some .free)/\∃j:Nat,X.N[j]?=some x/\σ[j]?=some (some v))
  (hd:∀x,(x,NameKind.free)∈scope.names->(x,NameKind.cell)∉scope.names):
  Inv (cE X N2 scope cl s H fp) [] σ2 H { s with heap:=pushCells (s.heap.push { cls:= .type "dict",data:= .dict #[] }) scope.names }:=by
 have keeps:∀b o,s.heap.get? b=some o->(pushCells (s.heap.push { cls:= .type "dict",data:= .dict #[] }) scope.names).get? b=some o:=fun b o e=>BX _ _ b o (b7 _ e)
 have hsz:(s.heap.push { cls:= .type "dict",data:= .dict #[] }).objs.size=s.heap.objs.size+1:=j0 ..
 have Ao:∀x c,cl.lookup x=some c->X.env.cells.lookup x=some c:=fun x c e=>Bh x c (xy e)
 have clt:∀x c,cl.lookup x=some c->c<s.heap.objs.size:=fun x c e=>by
  obtain ⟨v,z⟩:=I.cell x c (Ao x c e)
  exact z.lt
 have there:=vO scope.names (s.heap.push { cls:= .type "dict",data:= .dict #[] }) cl (fun x c e=>by
  obtain ⟨v,z⟩:=I.cell x c (Ao x c e)
  exact ⟨v,z.keeps fun b o e=>b7 _ e⟩)
 rw [hsz] at there
 have cells:∀x c,(cellsFrom (s.heap.objs.size+1) scope.names cl).lookup x=some c->s.heap.objs.size+1<=c\/X.env.cells.lookup x=some c:=fun x c e=>by
  rcases lT _ _ _ e with z|z
  . exact .inl z
  . exact .inr (Ao x c z)
 have okY:(cE X N2 scope cl s H fp).Ok:=by
  refine ⟨I.ok.mod,hk,I.ok.glob,I.ok.blt,aN _,?_,?_,?_,I.ok.hd,I.ok.frames, .inl rfl,?_,I.bs,gf I.ok.Fc I.sz,?_,?_,I.stack,I.Ak⟩
  . exact r6 _ _ _ (fun x y c hx hy=>I.ok.inj x y c (Ao x c hx) (Ao y c hy)) fun x c e=>IJ (clt x c e)
  . intro x hx
    have m:(x,NameKind.cell)∈scope.names\/(x,NameKind.free)∈scope.names:=by
     rcases hx with z|z
     . exact AQ z (.inl rfl)
     . exact AQ z (.inr rfl)
    rcases m with m|m
    . exact rY _ _ _ m
    . obtain ⟨c,mc⟩:=yX x m
      exact lU _ _ _ (lookup_mem mc)
  . intro x c hf e
    have hf':scope.names.lookup x=some .cell:=bg hf
    exact gf (Aj _) (rX _ _ _ (xy hf') e)
  . intro b hb
    refine ⟨ee (hfo b hb),fun x c e z=>?_⟩
    have hlt:=hfo b hb
    rcases cells x c e with k|k
    . exact absurd (kM hlt (gf (Aj _) (z▸k))) (jc _)
    . exact (hfp b hb).2.2.2.2.1 x c k z
  . intro b o e hb
    rcases (hfp b hb).2.2.2.1 with z|z
    . exact I.ok.IM b o e z
    . exact absurd (kM (bM (I.ok.bs b o e).1) z) (jc _)
  . intro b hb hbs
    rcases dz.mp (I.IS b hbs) with z|z
    . exact (hfp b hb).2.1 z
    . exact (hfp b hb).2.2.1 z
 refine ⟨okY,Z,I.bare,Un.kept keeps,?_,there,I.hok.fresh (aN _),?_,(fun p hp=>nomatch hp),I.hok.kept keeps,hl⟩
 . refine ⟨fun _=>none,(Heap.Ns.new s.heap (.type "dict")).keeps (BX _ _),fun i x v e1 e2 _=>?_⟩
   obtain ⟨hf,hx,j,j1,j2⟩:=hσ i x v e1 e2
   obtain ⟨m,_,hloc⟩:=I.loc
   have hv:Vx X.env.scope x:=hx.elim (fun z=> .inr (.inl z)) fun z=> .inr (.inr z)
   obtain ⟨u,r,lk⟩:=hloc j x v j1 j2 hv
   refine ⟨u,r, .inr ⟨Jk hf,?_⟩⟩
   rcases lk with ⟨k,_⟩|⟨_,c,ec,ic⟩
   . rcases hx with z|z <;> rw [z] at k <;> cases k
   . refine ⟨c,?_,ic.keeps keeps⟩
     have mf:=xy hf
     show (cellsFrom (s.heap.objs.size+1) scope.names cl).lookup x=some c
     rw [rZ _ _ _ (hd x mf)]
     obtain ⟨c',mc⟩:=yX x mf
     obtain ⟨d,ed⟩:=lookup_mem mc
     rw [ed]
     have:=Ao x d ed
     rw [ec] at this
     exact this.symm
 . intro x c e
   rcases cells x c e with k|k
   . exact I.hok.fresh (by omega)
   . exact I.m8 x c k
variable {tg:Expr} {te:TE} {E:VS}
section
variable {X:Cx}
def Cs (J:It) (g:TG) (te:TE) (acc:Addr) (σ₀:St) (H:Hp) (Q:VK):Prop:=∃W:Nat->Nat->St->Hp->Prop,
 (∃m,W 0 m σ₀ (upd H acc (.lst [])))/\∀i m σ2 H2,W i m σ2 H2->
   (J.stop i H2/\Q (.ref acc) H2)\/(J.go i H2/\∃(S:St->Prop) (N:V->Hp->Prop),(∀σ3 v H4,S σ3->N v H4->∃xs,H4 acc=some (.lst xs)/\xs.length<sizeLine/\∃m',m'<m/\W (i+1) m' σ3 (upd H4 acc (.lst (xs++[v]))))/\∀x H',J.yR i H2 x H'->g x σ2 H' fun σ3 H3=>S σ3/\te σ3 H3 N)
inductive xQ (Pv:Nat->List V->Hp->Prop) (i:Nat) (acc:Addr) (out:List V) (v:V) (H4:Hp):Prop
 | mk (_:H4 acc=some (.lst out)) (_:Pv (i+1) (out++[v]) (upd H4 acc (.lst (out++[v]))))
def VN (te:TE) (σ:St) (Pv:Nat->List V->Hp->Prop) (i:Nat) (acc:Addr) (out:List V):Bool->Hp->Prop:=fun b H2=>if b=true then te σ H2 (xQ Pv i acc out) else H2 acc=some (.lst out)/\Pv (i+1) out H2
def pick (ix:List (Option Nat)) (σ:St):St:=ix.map fun o=>o.bind fun j=>(σ[j]?).join
def Y3 (ix:List (Option Nat)) (g:TG) (te:TE) (σ:St) (Q:VK):It->Hp->Prop:=fun J H1=>∀acc,H1 acc=none->Cs J g te acc (pick ix σ) H1 Q
def VO (wi:TI) (ix:List (Option Nat)) (g:TG) (te:TE):TE:=fun σ H Q=>wi σ H (Y3 ix g te σ Q)
theorem j7 {XN:List Str} {xn sn:List (Str×NameKind)} {ix:List (Option Nat)} (h:mR XN xn sn N2 ix=true):
  ix.length=N2.length/\(∀(i:Nat) (x:Str) (j:Nat),N2[i]?=some x->ix[i]?=some (some j)->XN[j]?=some x/\sn.lookup x=some .free/\(xn.lookup x=some .cell\/xn.lookup x=some .free))/\
  (∀y∈sn,y.2 = .free->xn.lookup y.1=some .cell\/xn.lookup y.1=some .free)/\(∀y∈sn,y.2 = .local->sn.lookup y.1=some .local)/\∀x,(x,NameKind.free)∈sn->(x,NameKind.cell)∉sn:=by
 unfold mR at h
 obtain ⟨h,h5⟩:=nJ.mp h
 obtain ⟨h,h4⟩:=nJ.mp h
 obtain ⟨h,h3⟩:=nJ.mp h
 obtain ⟨h1,h2⟩:=nJ.mp h
 have e1:ix.length=N2.length:=by simpa using h1
 refine ⟨e1,fun i x j a b=>?_,fun y hy e=>?_,fun y hy e=>?_,fun x m1 m2=>?_⟩
 . have m:(some j,x)∈ix.zip N2:=by
    refine cg (i:=i) ?_
    rw [List.getElem?_zip_eq_some]
    exact ⟨b,a⟩
   have q:=qP.mp h2 _ m
   dsimp only at q
   obtain ⟨q,q3⟩:=nJ.mp q
   obtain ⟨q1,q2⟩:=nJ.mp q
   exact ⟨by simpa using q1,by simpa using q2,(DV.mp q3).imp (fun z=>by simpa using z) fun z=>by simpa using z⟩
 . have q:=qP.mp h3 y hy
   rcases DV.mp q with z|z
   . rw [e] at z;simp at z
   . exact (DV.mp z).imp (fun z=>by simpa using z) fun z=>by simpa using z
 . have q:=qP.mp h4 y hy
   rcases DV.mp q with z|z
   . rw [e] at z;simp at z
   . simpa using z
 . have q:=qP.mp h5 _ m1
   rcases DV.mp q with z|z
   . simp at z
   . have q2:=qP.mp z _ m2
     simp at q2
theorem Ct {ix:List (Option Nat)} {g:TG} {Q:VK}
  {RR:Value->Addr->Result->Shared->Prop} (hc:X.calm=true) (hg:∀cl s₂ H₂ fp,PG (cE X N2 scope cl s₂ H₂ fp) tg g) (he:∀cl s₂ H₂ fp,PE (cE X N2 scope cl s₂ H₂ fp) elt te)
  (hk:scope.kind = .function) (hn:mR X.N X.env.scope.names scope.names N2 ix=true)
  (Bh:∀y c,(y,c)∈cl->X.env.cells.lookup y=some c) (yX:∀y,(y,NameKind.free)∈scope.names->∃c,(y,c)∈cl)
  {it:Addr} {fp:List Addr} {tn:Nat->Heap->Prop} {J:It} (I:Inv X pins σ H s) (T:Turn X.prog X.w X.K tg J fp it tn) (st:tn 0 s.heap) (f:∀b∈fp,k7 X pins H b)
  (h:∀acc,H acc=none->Cs J g te acc (ix.map fun o=>o.bind fun j=>(σ[j]?).join) H Q)
  (hR:∀acc C H' s' m,Inv X pins σ H' s'->s'.heap.Ns C m->H' C=none->C≠X.env.locals->X.s₀.heap.objs.size<=C->(∀x c,X.env.cells.lookup x=some c->c≠C)->(∀p∈X.pn++pins,p.1≠C)->Q (.ref acc) H'->RR (.ref acc) C (.ok .next) s'):
  wpAny (model X.prog X.w) X.A (newList []) (fun acc s₃=>wpAny (model X.prog X.w) X.A (newFunctionEnv scope X.env.globals cl [] X.env.qual none .none (some X.env)) (fun cenv s₄=>
   codeAny (model X.prog X.w) X.A (.compStart (.ListComp elt [⟨tg,iter,[],0⟩] scope pos) 0 (.ref it) acc { cenv with scope:=relabel scope X.env }) (RR acc cenv.locals) s₄) E s₃) E s:=by
 obtain ⟨k1,k2,k3,k4,k5⟩:=j7 hn
 refine vJ ?_
 have I3:Inv X pins σ (upd H s.heap.objs.size (.lst [])) { s with heap:=s.heap.push { cls:= .type "list",data:= .seq ([] :List Value).toArray } }:=
  I.laid (a:=s.heap.objs.size) (o:= .lst []) (t':=s.toks) (fun _ _ q=>b7 _ q) (aN _) ⟨gh _,[],_, .nil,eL _ rfl⟩
 obtain ⟨W,⟨m0,w0⟩,turn⟩:=h s.heap.objs.size I.fresh
 have fo:∀b∈fp,b<s.heap.objs.size:=fun b hb=>by
  obtain ⟨o,e,_⟩:=T.obj 0 _ st b hb
  exact bM e
 have st3:tn 0 (s.heap.push { cls:= .type "list",data:= .seq ([] :List Value).toArray }):=T.keep _ _ _ st fun b _ o e=>b7 _ e
 have f3:∀b∈fp,k7 X pins (upd H s.heap.objs.size (.lst [])) b:=fun b hb=>⟨by rw [au (ee (fo b hb))];exact (f b hb).1,(f b hb).2⟩
 have Fv:∀b∈fp,b<(s.heap.push { cls:= .type "list",data:= .seq ([] :List Value).toArray }).objs.size:=fun b hb=>by rw [j0];exact IJ (fo b hb)
 generalize Rl:({ s with heap:=s.heap.push { cls:= .type "list",data:= .seq ([] :List Value).toArray } }:Shared)=s3 at *
 have Rm:s3.heap=s.heap.push { cls:= .type "list",data:= .seq ([] :List Value).toArray }:=by rw [<-Rl]
 rw [<-Rm] at st3 Fv
 generalize s.heap.objs.size=acc at *
 generalize eH3:upd H acc (.lst [])=H3 at *
 have IY:=xP (N2:=N2) (scope:=scope) (cl:=cl) (fp:=fp) (σ2:=ix.map fun o=>o.bind fun j=>(σ[j]?).join) I3 hk Bh yX f3 Fv (by rw [aH];exact k1) (fun i x v e1 e2=>by
  rw [cA] at e2
  cases ei:ix[i]? with
  | none=>rw [ei] at e2;cases e2
  | some o=>
    rw [ei] at e2
    cases o with
    | none=>cases e2
    | some j=>
      obtain ⟨a1,a2,a3⟩:=k2 i x j e1 ei
      refine ⟨a2,a3,j,a1,?_⟩
      have e3:(σ[j]?).join=some v:=fu e2
      cases ej:σ[j]? with
      | none=>rw [ej] at e3;cases e3
      | some z=>rw [ej] at e3;exact j6 some e3) k5
 have ne:wpAny (model X.prog X.w) X.A (newFunctionEnv scope X.env.globals cl [] X.env.qual none .none (some X.env)) (fun cenv s₄=>
   cenv={ scope:=scope,locals:=s3.heap.objs.size,globals:=X.env.globals,cells:=cellsFrom (s3.heap.objs.size+1) scope.names cl,qual:=X.env.qual,func:=none,code:=X.env.code,frame:=X.env.frame,builtins:=X.env.builtins }/\
   s₄={ s3 with heap:=pushCells (s3.heap.push { cls:= .type "dict",data:= .dict #[] }) scope.names }) E s3:=by
  simp only [newFunctionEnv,OX,if_true]
  refine az (wpAny_alloc ?_)
  refine az (wpAny_layCells _ (fun name kind cells=>by cases hkc:kind==NameKind.cell <;> simp [hkc]) _ _ _ _ ?_)
  rw [xC]
  refine az (aV (aV ⟨?_,Z⟩))
  rw [show ({ s3 with heap:=s3.heap.push { cls:= .type "dict",data:= .dict #[] } }:Shared).heap.objs.size=s3.heap.objs.size+1 from j0 ..]
 refine bh ne fun cenv s4 ⟨e1,e2⟩=>?_
 subst e1 e2
 have Fw:tn 0 (pushCells (s3.heap.push { cls:= .type "dict",data:= .dict #[] }) scope.names):=T.keep _ _ _ st3 fun b _ o e=>BX _ _ b o (b7 _ e)
 have wH:s3.heap.objs.size≠X.env.locals:=xF I3.lt
 have nM:∀{H':Hp},(∀b∈fp,H' b=none)->∀b∈fp,k7 (cE X N2 scope cl s3 H3 fp) [] H' b:=fun {H'} hn b hb=>
  ⟨hn b hb,(IY.ok.Fb b hb).1,IY.ok.Bb b hb, .inl hb,(IY.ok.Fb b hb).2,fun p hp=>nomatch hp⟩
 have loop:codeAny (model X.prog X.w) X.A (.compLoop (.ListComp elt [⟨tg,iter,[],0⟩] scope pos) 0 (.ref it) (.ref acc) (cE X N2 scope cl s3 H3 fp).env) (RR (.ref acc) s3.heap.objs.size)
   { s3 with heap:=pushCells (s3.heap.push { cls:= .type "dict",data:= .dict #[] }) scope.names }:=by
  refine Jj (fun n s'=>∃i σ' H',Inv (cE X N2 scope cl s3 H3 fp) [] σ' H' s'/\tn i s'.heap/\(∀b∈fp,H' b=none)/\W i n σ' H') ?_ m0 ⟨0,_,H3,IY,Fw,fun b hb=>(f3 b hb).1,w0⟩
  rintro n s5 ⟨i,σ5,H5,I5,yx,AR,w5⟩
  rcases turn i n σ5 H5 w5 with ⟨stop,qn⟩|⟨go,S,N,Rn,step⟩
  . refine bh (T.done (cE X N2 scope cl s3 H3 fp) rfl rfl rfl hc i [] s5 σ5 H5 (fun _ _=>False) I5 (nM AR) yx stop) fun r s6 ⟨hr,I6⟩=>?_
    subst hr
    obtain ⟨m6,Ro,_⟩:=id I6.loc
    have IX:Inv X pins σ H5 s6:=I3.Ii (ch:=fp) I6.os I6.base I6.hok I6.bare fun b hb=>⟨(f3 b hb).2.2.2.1,(f3 b hb).2.1,(f3 b hb).2.2.2.2.1,(f3 b hb).2.2.2.2.2⟩
    refine hR acc s3.heap.objs.size H5 s6 m6 IX Ro I6.free wH I3.sz (fun x c e z=>?_) (fun p hp z=>?_) qn
    . obtain ⟨v,q⟩:=I3.cell x c e
      exact absurd q.lt (by rw [z];exact jc _)
    . exact absurd (bM (I3.pin p hp).1) (by rw [z];exact jc _)
  . refine bh (T.item (cE X N2 scope cl s3 H3 fp) rfl rfl rfl hc i [] s5 σ5 H5 (fun _ _=>False) I5 (nM AR) yx go) fun r s6 ⟨u,hr,h6⟩=>?_
    subst hr
    refine bh h6 fun _ s7 ⟨x,H7,I7,r7,y7,wI,Jl⟩=>?_
    have Rp:=I7.pinned (nM Jl) (T.obj _ _ wI)
    refine bh (hg cl s3 H3 fp _ s7 σ5 H7 x u _ Rp r7 (step x H7 y7)) fun _ s8 ⟨σ8,H8,I8,NQ,q8⟩=>?_
    refine bh (he cl s3 H3 fp _ s8 σ8 H8 _ I8 q8) fun y s9 ⟨v,H9,I9,r9,q9⟩=>?_
    obtain ⟨xs,hxs,Rq,m',hm,w9⟩:=Rn σ8 v H9 NQ q9
    refine bh (dX _ s9 σ8 H9 (.ref acc) [v] (.ref acc) [y] (fun z AS=>z = .b9/\AS=upd H9 acc (.lst (xs++[v]))) I9 rfl (.cons r9 .nil) ⟨acc,xs,v,Z,Z,hxs,Rq,Z,Z⟩) fun z NR ⟨zv,AS,yY,r10,ez,eH⟩=>?_
    subst eH
    refine ⟨m',hm,i+1,σ8,_,yY.nL,T.keep _ _ _ wI fun b hb o e=>(yY.pin (b,o) (iA _ (iA _ (gW hb e)))).1,fun b hb=>?_,w9⟩
    obtain ⟨o,e,d⟩:=T.obj _ _ wI b hb
    exact (yY.pin (b,o) (iA _ (iA _ (gW hb e)))).2.1
 exact codeAny_compStart_list loop (T.self _ 0 _ _ _ Fw loop)
end
variable {H':Hp}
theorem aO.cX {p:Addr} (e:aO H H') (h:H p=none) (o:HO):aO H (upd H' p o):=fun b u q=>by rw [au (aF q h)];exact e b u q
theorem Uc (n d:Int):PyData.eqv (.tuple [.int n, .int d]) (.tuple [.int n, .int d])=true:=by simp [PyData.eqv,PyData.eqvAll]
theorem Rr {p:Addr} {q:Rat} (h:H p=some (qe q)):Dt K H (.ref p) (.tuple [.int q.num, .int (q.den:Int)]):= .tup (dm.of h) (.cons (.int _) (.cons (.int _) .nil))
section
variable {X:Cx}
theorem Ud (hc:X.calm=true):je X (.builtin "sum") (fun xs H Q=>∃(a:Addr) (ns:List Int),xs=[.ref a]/\aK X.K H a (ns.map V.int)/\Q (.int ns.sum) H):=by
 intro pins s σ H xs us Q I r h
 obtain ⟨a,ns,rfl,hS,q⟩:=h
 obtain ⟨u,rfl,ru⟩:=vals1 r
 cases ru
 obtain ⟨its,rv,p,hz⟩:=I.list hS
 have hi:=intsAre_of rv
 have hl:=p.isList
 obtain ⟨o,ho,_⟩:=id hl
 have hne:a≠s.heap.objs.size:=ee (bM ho)
 have W:=(Walks.list (prog:=X.prog) (w:=X.w) (A:=X.A.in1) (I.ok.hd hc) s.heap.objs.size a hne its.toArray).toS
 have Cu:its.length=ns.length:=by rw [<-rv.length,aH]
 refine call_sum_walkAnyS (O1 hl ?_)
 refine ⟨s.heap.objs.size,_,_,_,_,_,_,fun i=>ns.getD i 0,Z,W,⟨⟨_,eL _ rfl,Z,Z⟩,hl.at fun o e=>b7 _ e⟩,fun b hb=>?_,fun i v hP=>?_,fun s' t' hm=>?_⟩
 . rcases dz.mp hb with rfl|hb
   . exact bM (eL _ rfl)
   . obtain rfl:=fU.mp hb
     exact bM (b7 _ ho)
 . have Rt:its[i]?=some v:=by simpa using hP
   have hil:i<ns.length:=by
    have:=(dO.mp Rt).1
    omega
   obtain ⟨u,hu,ru⟩:=rv.get (i:=i) (x:=V.int ns[i]) (by rw [cA,bD hil];rfl)
   rw [Rt] at hu
   cases hu
   obtain ⟨t,e⟩:=ru
   refine ⟨t,?_⟩
   rw [e]
   show Value.int ns[i] t=Value.int (ns.getD i 0) t
   rw [mw,bD hil]
   rfl
 . obtain ⟨h',g',d',tk',os'⟩:=s'
   have e1:g'=s.gens:=hm.gens
   have e2:d'=s.drawn:=hm.drawn
   have e3:os'=s.os:=hm.os
   subst e1 e2 e3
   have hsz:its.toArray.size=ns.length:=by rw [iK,Cu]
   rw [hsz,preSum_getD,List.take_of_length_le (aN _)]
   exact ⟨.int ns.sum,H,I.kept (h':=h') (t':=tk') fun b o e=>hm.heap b o (fun hb=>absurd (bM e) ((fU.mp hb)▸jc _)) (b7 _ e),⟨t',Z⟩,q⟩
theorem Ue (hc:X.calm=true):je X (.builtin "all") (fun xs H Q=>∃(a:Addr) (bs:List Bool),xs=[.ref a]/\aK X.K H a (bs.map V.bl)/\Q (.bl (bs.all id)) H):=by
 intro pins s σ H xs us Q I r h
 obtain ⟨a,bs,rfl,hS,q⟩:=h
 obtain ⟨u,rfl,ru⟩:=vals1 r
 cases ru
 obtain ⟨its,rv,p,hz⟩:=I.list hS
 have hl:=p.isList
 obtain ⟨o,ho,_⟩:=id hl
 have hne:a≠s.heap.objs.size:=ee (bM ho)
 have Cu:its.length=bs.length:=by rw [<-rv.length,aH]
 refine call_all_walk (O1 hl ?_)
 refine ⟨s.heap.objs.size,_,_,_,_,_,fun i=>bs.getD i false,Z,Walks.list (prog:=X.prog) (w:=X.w) (A:=X.A.in1) (I.ok.hd hc) s.heap.objs.size a hne its.toArray,⟨⟨_,eL _ rfl,Z,Z⟩,hl.at fun o e=>b7 _ e⟩,fun i v s' Q' E' hP hQ=>?_,fun h' tk hk=>?_⟩
 . have Rt:its[i]?=some v:=by simpa using hP
   have hil:i<bs.length:=by
    have:=(dO.mp Rt).1
    omega
   obtain ⟨u,hu,ru⟩:=rv.get (i:=i) (x:=V.bl bs[i]) (by rw [cA,bD hil];rfl)
   rw [Rt] at hu
   cases hu
   have e:v=Value.bool bs[i] :=ru
   subst e
   refine D0 ?_
   have hQ2:Q' (bs.getD i false) s':=hQ
   rw [mw,bD hil] at hQ2
   exact hQ2
 . have hsz:its.toArray.size=bs.length:=by rw [iK,Cu]
   have e:(List.range its.toArray.size).all (fun i=>bs.getD i false)=bs.all id:=by
    rw [hsz,Ae,qP,qP]
    refine ⟨fun z x hx=>?_,fun z i hi=>?_⟩
    . obtain ⟨i,hi,e⟩:=List.mem_iff_getElem.mp hx
      have:=z i (qQ.mpr hi)
      rw [mw,bD hi] at this
      rw [<-e]
      exact this
    . have hi':=qQ.mp hi
      rw [mw,bD hi']
      exact z _ (Ad hi')
   rw [e]
   exact ⟨.bl (bs.all id),H,I.kept (h':=h') (t':=tk) fun b o e=>hk b o (fun hb=>absurd (bM e) ((fU.mp hb)▸jc _)) (b7 _ e),Z,q⟩
end
section
variable {X:Cx} (K:Fg)
theorem aX (hK:X.K=K:=by rfl):yu X (TU K):=hK▸Q3
theorem cU (hK:X.K=K:=by rfl):yu X (Pk K):=hK▸NK
theorem WZ (hu:X.A.units+64<cLine) (hK:X.K=K:=by rfl):jm X (compareOp .NotEq) (YY K):=hK▸YZ hu
theorem ou (hc:X.calm=true) (hK:X.K=K:=by rfl):je X (.builtin "sum") (fun xs H Q=>∃(a:Addr) (ns:List Int),xs=[.ref a]/\aK K H a (ns.map V.int)/\Q (.int ns.sum) H):=hK▸Ud hc
theorem Ru (hc:X.calm=true) (hK:X.K=K:=by rfl):je X (.builtin "all") (fun xs H Q=>∃(a:Addr) (bs:List Bool),xs=[.ref a]/\aK K H a (bs.map V.bl)/\Q (.bl (bs.all id)) H):=hK▸Ue hc
theorem di (hK:X.K=K:=by rfl):je X (.builtin "len") (fun xs H Q=>∃p ys,xs=[.ref p]/\(aK K H p ys\/dm K H p ys)/\Q (.int ys.length) H):=hK▸Jd
theorem iC (hK:X.K=K:=by rfl):je X (.type "list") (fun xs H Q=>∃p ys,xs=[.ref p]/\(aK K H p ys\/dm K H p ys)/\∀l,H l=none->Q (.ref l) (upd H l (.lst ys))):=hK▸Jf
end
inductive jC (H:Hp):List V->List Rat->Prop
 | nil:jC H [] []
 | cons {r:Addr} {q:Rat} {vs:List V} {qs:List Rat}:H r=some (qe q)->jC H vs qs->jC H (.ref r::vs) (q::qs)
variable {vs:List V}
theorem jC.mono {qs:List Rat} (h:jC H vs qs) (g:aO H H'):jC H' vs qs:=by
 induction h with
 | nil=>exact .nil
 | cons e _ ih=>exact .cons (g _ _ e) ih
variable {xs ys:List V}
theorem jC.W0 {qs:List Rat} (h:jC H vs qs) (ha:H a=some (.lst xs)):jC (upd H a (.lst ys)) vs qs:=by
 induction h with
 | nil=>exact .nil
 | cons e _ ih=>exact .cons (by rw [au (iM e ha (by intro z;cases z))];exact e) ih
theorem jC.length {qs:List Rat} (h:jC H vs qs):vs.length=qs.length:=by
 induction h with
 | nil=>rfl
 | cons _ _ ih=>simp [ih]
variable {r:Addr}
theorem jC.snoc {qs:List Rat} {q:Rat} (h:jC H vs qs) (e:H r=some (qe q)):jC H (vs++[.ref r]) (qs++[q]):=by
 induction h with
 | nil=>exact .cons e .nil
 | cons e2 _ ih=>exact .cons e2 ih
theorem jC.afo {qs:List Rat} (h:jC H vs qs):∀{i:Nat} {q:Rat},qs[i]?=some q->∃r,vs[i]?=some (.ref r)/\H r=some (qe q):=by
 induction h with
 | nil=>intro i v e;simp at e
 | @cons r q vs qs e _ ih=>
   intro i v ev
   cases i with
   | zero=>simp at ev;subst ev;exact ⟨r,Z,e⟩
   | succ i=>simp at ev;obtain ⟨r',a,c⟩:=ih ev;exact ⟨r',by simpa using a,c⟩
theorem L5 {n l1 l2:Nat} (h1:l1<n) (h2:l2<n):ZipApart (n+4) (n+2) (n+3) n (n+1) l1 l2:=by
 have nn:∀i j:Nat,i≠j->n+i≠n+j:=fun i j h e=>h (Nat.add_left_cancel e)
 have ne:∀(c k:Nat),c<n->c≠n+k:=fun c k h=>by omega
 exact ⟨nn 2 4 (by decide),nn 3 4 (by decide),nn 0 4 (by decide),nn 1 4 (by decide),nn 2 3 (by decide),nn 2 0 (by decide),nn 2 1 (by decide),nn 3 0 (by decide),nn 3 1 (by decide),nn 0 1 (by decide),ne _ 4 h1,ne _ 3 h1,ne _ 0 h1,ne _ 1 h1,ne _ 4 h2,ne _ 3 h2,ne _ 0 h2,ne _ 1 h2⟩
section
variable {X:Cx} {elts:List Expr} {kk:Nat} {tpos:Pos}
end
inductive abS (K:Fg) (vs:List V) (H:Hp) (Q:VK) (E:XK):Prop
 | mk (a:Addr) (ns:List Int) (k j:Int) (_:vs=[.ref a, .int k, .int j]) (_:aK K H a (ns.map V.int)) (_:ns.length<=63) (_:0<=k) (_:0<=j) (_:j<2 ^ 61) (_:∀(m:Int) (H':Hp),1<=m->m<=1000000000->aO H H'->Q (.int m) H')
def Cv (K:Fg):Sp:=bx (abS K)
theorem Jo {Q:VK} {E:XK} {k j:Int} (hS:aK K H a (ns.map V.int)) (h63:ns.length<=63) (h1:0<=k) (h2:0<=j) (h3:j<2 ^ 61)
  (h:∀(m:Int) (H':Hp),1<=m->m<=1000000000->aO H H'->Q (.int m) H'):Cv K [.ref a, .int k, .int j] H Q E:=⟨a,ns,k,j,Z,hS,h63,h1,h2,h3,h⟩
section
variable {X:Cx}
inductive abT (Q:VK) (vs:List V) (H1:Hp):Prop
 | mk  (j:Int) (_:vs=[.int j]) (_:∀p,H1 p=none->Q (.ref p) (upd H1 p (.uZ 0 j)))
def afp (ta:TA):TE:=fun σ H Q=>ta σ H (abT Q)
def upTo (n:Nat):List Int:=(List.range n).map fun i=>((i:Nat):Int)
theorem GI (hc:X.calm=true):je X (.type "list") (fun xs H Q=>∃(r:Addr) (n:Nat),xs=[.ref r]/\H r=some (.uZ 0 (n:Int))/\n<=1000/\∀l,H l=none->Q (.ref l) (upd H l (.lst ((upTo n).map V.int)))):=by
 intro pins s σ H xs us Q I r h
 obtain ⟨a,n,rfl,hr,hn,q⟩:=h
 obtain ⟨u,rfl,ru⟩:=vals1 r
 cases ru
 obtain ⟨t,t2,t3,e⟩:=(show eY X.prog X.w H s.heap a (.uZ 0 (n:Int)) from I.hok a _ hr)
 refine call_list_range (n:=n) (I.ok.hd hc) e (small_one (by decide) (by decide) (by omega) (by omega)) (by rw [rangeSize_one];split <;> omega) (by omega) fun h' tk acc' c' hk hS hI=>?_
 obtain ⟨hsz,hit⟩:=hI
 have hv:Vals ((upTo n).map V.int) acc'.toList:=by
  have gen:∀(m:Nat) (us:List Value) (k:Nat),us.length=m->(∀(j:Nat) (v:Value),us[j]?=some v->∃t,v = .int ((0:Int)+((k+j:Nat):Int)*1) t)->Vals (((List.range' k m).map fun i=>((i:Nat):Int)).map V.int) us:=by
   intro m
   induction m with
   | zero=>intro us k hl _;rw [List.length_eq_zero_iff.mp hl];exact .nil
   | succ m ih=>
     intro us k hl hu
     cases us with
     | nil=>cases hl
     | cons v r=>
       obtain ⟨t,e⟩:=hu 0 v rfl
       refine .cons ⟨t,?_⟩ (ih r (k+1) (by simpa using hl) fun j v' hj=>?_)
       . rw [e]
         show Value.int _ t=Value.int ((k:Nat):Int) t
         congr 1
         omega
       . obtain ⟨t,e⟩:=hu (j+1) v' (by simpa using hj)
         exact ⟨t,by rw [e];congr 1;omega⟩
  have:=gen n acc'.toList 0 (by simpa using hsz) fun j v hj=>by
   obtain ⟨t,e⟩:=hit j v (by simpa using hj)
   exact ⟨t,by rw [e];congr 1;omega⟩
  unfold upTo
  rw [List.range_eq_range']
  exact this
 have hlen:((upTo n).map V.int).length<=sizeLine:=by unfold upTo;simp;exact small (by omega)
 exact ⟨.ref s.heap.objs.size,_,I.laid (a:=s.heap.objs.size) (o:= .lst ((upTo n).map V.int)) (h':=h') (t':=tk) hk (aN _) ⟨hlen,acc'.toList,c',hv,by simpa using hS⟩,Z,q _ I.fresh⟩
inductive W2 (K:Fg) (Q:VK) (x:V) (y:V) (H2:Hp):Prop
 | mk  (_:y = .int (-1)) (a xs:_) (_:x = .ref a) (_:aK K H2 a xs) (_:∀p,H2 p=none->Q (.ref p) (upd H2 p (.lst xs.reverse)))
def abU (K:Fg) (ts:TE) (σ:St) (Q:VK):V->Hp->Prop:=fun x H1=>ts σ H1 (W2 K Q x)
def afq (K:Fg) (te ts:TE):TE:=fun σ H Q=>te σ H (abU K ts σ Q)
end
theorem sum_set:∀(as:List Int) (j:Nat) (x:Int),j<as.length->(as.set j x).sum=as.sum-as.getD j 0+x
 | [],j,_,h=>absurd h (Nat.not_lt_zero _)
 | a::r,0,x,_=>by
   show (x::r).sum=(a::r).sum-a+x
   rw [b8,b8];omega
 | a::r,j+1,x,h=>by
   show (a::r.set j x).sum=(a::r).sum-r.getD j 0+x
   rw [b8,b8,sum_set r j x (by simpa using h)];omega
theorem Ug (as:List Int) (j k:Nat) (x:Int) (h:j<as.length):(as.set j x).getD k 0=if k=j then x else as.getD k 0:=by
 rw [mw,List.getElem?_set]
 by_cases e:j=k
 . subst e
   rw [aD rfl,aD h,aD rfl]
   rfl
 . rw [aB e,aB (bU e),<-mw]
theorem wJ {n k:Nat} (h:k<n):Ci n (k:Int)=some k:=by
 unfold Ci
 rw [aD (by omega),aD (by omega)]
 rfl
abbrev tx (cs:List Nat):Str:=⟨cs.toArray⟩
theorem Jp (x:Str):tx x.cps.toList=x:=by cases x;rfl
theorem yZ (cs:List Nat):(tx cs).length=cs.length:=by show cs.toArray.size=_;rw [iK]
theorem Y4 (a b:List Nat):(tx a++tx b:Str)=tx (a++b):=by
 show (⟨a.toArray++b.toArray⟩:Str)=_
 simp [tx]
def VP (cs:List Nat):It:=⟨fun i _=>i<cs.length,fun i H v H'=>H'=H/\∃c,cs[i]?=some c/\v = .str (tx [c]),fun i _=>cs.length<=i⟩
theorem Pu {P:Program} {w:World} {K:Fg} {tg:Expr} (x:Str) (t:Tok) (it:Addr):Turn P w K tg (VP x.cps.toList) [it] it (fun i h=>h.IsStrIter it "str_ascii_iterator" x t i) where
 mem:=by simp
 obj:=fun i h st b hb=>by
  have e:b=it:=by simpa using hb
  subst e
  obtain ⟨o,e,c,d⟩:=st
  exact ⟨o,e,fun v z=>by rw [d] at z;cases z⟩
 keep:=fun i h h' st k=>let ⟨o,ho,r⟩:=st;⟨o,k it (by simp) o ho,r⟩
 item:=by
  intro X hP hw hK hc i pins s σ H E I hf st hg
  subst hP hw hK
  have hi:i<x.cps.size:=by have hg':i<x.cps.toList.length:=hg;simpa using hg'
  obtain ⟨f0,f1,f2,f3,f4,f5⟩:=hf it (by simp)
  refine wpAny_pyNext_ascii_item st (c:=x.cps[i]) (by simp [hi]) fun h' st' sb=>?_
  have I1:Inv X pins σ H { s with heap:=h',toks:=s.toks+1 }:=I.turned (t':=s.toks+1) (fun b o hb e=>sb.extBut b o hb e) f0 f1 f3 f4 f5
  obtain ⟨o,e,c,d⟩:=id st'
  exact ⟨_,Z,Al (s:={ s with heap:=h',toks:=s.toks+1 }) e c d (by decide) ⟨.str (tx [x.cps[i]]),H,I1,⟨_,Z⟩,⟨Z,x.cps[i],by simp [hi],Z⟩,st',fun b hb=>(hf b hb).1⟩⟩
 done:=by
  intro X hP hw hK hc i pins s σ H E I hf st hg
  subst hP hw hK
  have hi:x.cps.size<=i:=by have hg':x.cps.toList.length<=i:=hg;simpa using hg'
  obtain ⟨f0,f1,f2,f3,f4,f5⟩:=hf it (by simp)
  exact wpAny_pyNext_ascii_end (I.ok.hd hc) st (by simp;omega) fun h' eb=>⟨Z,I.turned (t':=s.toks) (fun b o hb e=>eb b o hb e) f0 f1 f3 f4 f5⟩
 self:=fun _ _ _ _ _ st h=>wpAny_pyIter_striter_ascii st h
theorem Rv {P:Program} {w:World} {K:Fg} {tg:Expr} (x:Str) (t:Tok) (it:Addr):Turn P w K tg (VP x.cps.toList) [it] it (fun i h=>h.IsStrIter it "str_iterator" x t i) where
 mem:=by simp
 obj:=fun i h st b hb=>by
  have e:b=it:=by simpa using hb
  subst e
  obtain ⟨o,e,c,d⟩:=st
  exact ⟨o,e,fun v z=>by rw [d] at z;cases z⟩
 keep:=fun i h h' st k=>let ⟨o,ho,r⟩:=st;⟨o,k it (by simp) o ho,r⟩
 item:=by
  intro X hP hw hK hc i pins s σ H E I hf st hg
  subst hP hw hK
  have hi:i<x.cps.size:=by have hg':i<x.cps.toList.length:=hg;simpa using hg'
  obtain ⟨f0,f1,f2,f3,f4,f5⟩:=hf it (by simp)
  refine wpAny_pyNext_wide_item st (c:=x.cps[i]) (by simp [hi]) fun h' st' sb=>?_
  have I1:Inv X pins σ H { s with heap:=h',toks:=s.toks+1 }:=I.turned (t':=s.toks+1) (fun b o hb e=>sb.extBut b o hb e) f0 f1 f3 f4 f5
  obtain ⟨o,e,c,d⟩:=id st'
  exact ⟨_,Z,Al (s:={ s with heap:=h',toks:=s.toks+1 }) e c d (by decide) ⟨.str (tx [x.cps[i]]),H,I1,⟨_,Z⟩,⟨Z,x.cps[i],by simp [hi],Z⟩,st',fun b hb=>(hf b hb).1⟩⟩
 done:=by
  intro X hP hw hK hc i pins s σ H E I hf st hg
  subst hP hw hK
  have hi:x.cps.size<=i:=by have hg':x.cps.toList.length<=i:=hg;simpa using hg'
  obtain ⟨f0,f1,f2,f3,f4,f5⟩:=hf it (by simp)
  exact wpAny_pyNext_wide_end (I.ok.hd hc) st (by simp;omega) fun h' eb=>⟨Z,I.turned (t':=s.toks) (fun b o hb e=>eb b o hb e) f0 f1 f3 f4 f5⟩
 self:=fun _ _ _ _ _ st h=>wpAny_pyIter_striter_wide st h
variable {cs:List Nat} {acc:Addr}
section
variable {X:Cx} {tg:Expr}
inductive abV (R:It->Hp->Prop) (x:V) (H1:Hp):Prop
 | mk  (cs:List Nat) (_:x = .str (tx cs)) (_:R (VP cs:_) H1)
def Y5 (te:TE):TI:=fun σ H R=>te σ H (abV R)
theorem Y6 {l:Expr} {tl:TE} (hl:PE X l tl):PI X tg l (Y5 tl):=by
 intro pins s σ H R I h
 refine bh (hl pins s σ H _ I h) fun v s1 ⟨x,H1,I1,r1,q1⟩=>?_
 obtain ⟨cs,e,q⟩:=q1
 subst e
 obtain ⟨t,rfl⟩:=r1
 have fp:∀b∈[s1.heap.objs.size],k7 X pins H1 b:=fun b hb=>by
  have e:b=s1.heap.objs.size:=by simpa using hb
  subst e
  exact I1.Bd (aN _) (I1.hok.fresh (aN _))
 have tw:=@Rv X.prog X.w X.K tg (tx cs) t s1.heap.objs.size
 have ta:=@Pu X.prog X.w X.K tg (tx cs) t s1.heap.objs.size
 cases ha:(tx cs).cps.all (·<128)
 . exact wpAny_pyIter_wide ha ⟨s1.heap.objs.size,[s1.heap.objs.size],_,_,H1,Z,I1.kept (t':=s1.toks) fun b o e=>b7 _ e,tw,⟨_,eL _ rfl,Z,Z⟩,fp,q⟩
 . exact wpAny_pyIter_ascii ha ⟨s1.heap.objs.size,[s1.heap.objs.size],_,_,H1,Z,I1.kept (t':=s1.toks) fun b o e=>b7 _ e,ta,⟨_,eL _ rfl,Z,Z⟩,fp,q⟩
theorem Uh {k:Nat} {Q:VK} (Pv:Nat->List V->Hp->Prop) (hn:cs.length<=100000) (h0:Pv 0 [] (upd H acc (.lst [])))
  (hs:∀(i:Nat) (c:Nat) (out:List V) (H1:Hp),cs[i]?=some c->out.length=i->H1 acc=some (.lst out)->Pv i out H1->te (σ2.set k (some (.str (tx [c])))) H1 (xQ Pv i acc out))
  (hd:∀(out:List V) (H1:Hp),out.length=cs.length->H1 acc=some (.lst out)->Pv cs.length out H1->Q (.ref acc) H1):
  Cs (VP cs) (m9 k) te acc σ2 H Q:=by
 refine ⟨fun i m σ' H'=>m=cs.length-i/\i<=cs.length/\(∀v,σ'.set k (some v)=σ2.set k (some v))/\∃out,out.length=i/\H' acc=some (.lst out)/\Pv i out H',⟨cs.length,by simp,gh _,fun _=>rfl,[],Z,ah,h0⟩,?_⟩
 rintro i m σ' H' ⟨rfl,hi,hσ,out,ho,ha,p⟩
 by_cases hlt:i<cs.length
 . refine .inr ⟨hlt,fun σ3=>∀v,σ3.set k (some v)=σ2.set k (some v),(xQ Pv i acc out),fun σ3 v H4 hS ⟨a,b⟩=>?_,fun x H1 y=>?_⟩
   . refine ⟨out,a,?_,cs.length-(i+1),by omega,Z,hlt,hS,out++[v],by rw [dj,ho];rfl,ah,b⟩
     have:sizeLine=16777216:=jI
     omega
   . obtain ⟨e,c,hc,ex⟩:=y
     subst e ex
     refine ⟨fun v=>by rw [uW];exact hσ v,?_⟩
     have q2:=hs i c out _ hc ho ha p
     rw [<-hσ] at q2
     exact q2
 . have e:i=cs.length:=by omega
   subst e
   exact .inl ⟨aN _,hd out H' ho ha p⟩
end
def Fx (signs:Str) (c:Nat):Bool:=!(Builtin.Str.occurrences signs (tx [c]) 0 signs.length 1).isEmpty
def kQ (c:Int) (n:Nat):List Nat:=(List.range n).map fun i=>97+((c / 26 ^ i) % 26).toNat
theorem xR (c:Int) (n:Nat):(kQ c n).length=n:=by unfold kQ;rw [aH,O4]
theorem Ui (c:Int) (n:Nat):kQ c (n+1)=kQ c n++[97+((c / 26 ^ n) % 26).toNat] :=by
 unfold kQ
 rw [List.range_succ,bR]
 rfl
theorem Rw {k:Int} (h0:0<=k) (h1:k<26):rH (("abcdefghijklmnopqrstuvwxyz":Str).cps.toList) k=some (97+k.toNat):=by
 have h:∀n:Nat,n<26->("abcdefghijklmnopqrstuvwxyz":Str).cps.toList[n]?=some (97+n):=by decide +kernel
 have e:k=((k.toNat:Nat):Int):=by omega
 have:=aA (h k.toNat (by omega))
 rw [<-e] at this
 exact this
structure D4 (vs:List V) (H:Hp) (Q:VK) (E:XK):Prop where
 ex:∃(c:Int) (n:Nat),vs=[.int c, .int (n:Int)]/\0<=c/\n<=1000/\Q (.str (tx (kQ c n))) H
theorem Jq {Q:VK} {E:XK} {c ni:Int} {n:Nat} (e:ni=(n:Int)) (hc:0<=c) (hn:n<=1000) (q:Q (.str (tx (kQ c n))) H):D4 [.int c, .int ni] H Q E:=by
 subst e
 exact ⟨c,n,Z,hc,hn,q⟩
inductive W3 (vs:List V) (H:Hp) (Q:VK) (E:XK):Prop
 | mk (cs:List Nat) (signs:Str) (_:vs=[.str (tx cs), .str signs]) (_:cs.length<=100000) (_:∀H',aO H H'->Q (.bl (cs.all (Fx signs))) H')
def Bj:Sp:=bx (W3)
theorem Pw {H:Hp} {Q:VK} {E:XK} {cs:List Nat} {signs:Str} (hl:cs.length<=100000) (q:∀H',aO H H'->Q (.bl (cs.all (Fx signs))) H'):Bj [.str (tx cs), .str signs] H Q E:=⟨cs,signs,Z,hl,q⟩
def isName (cs:List Nat):Bool:=decide (1<=(cs.length:Int)) && decide ((cs.length:Int)<=8) && cs.all (Fx "abcdefghijklmnopqrstuvwxyz")
inductive W4 (vs:List V) (H:Hp) (Q:VK) (E:XK):Prop
 | mk (cs:List Nat) (_:vs=[.str (tx cs)]) (_:cs.length<=100000) (_:∀H',aO H H'->Q (.bl (isName cs)) H')
def xS:Sp:=bx (W4)
theorem Cw {Q:VK} {E:XK} (hl:cs.length<=100000) (q:∀H',aO H H'->Q (.bl (isName cs)) H'):xS [.str (tx cs)] H Q E:=⟨cs,Z,hl,q⟩
theorem Cy {p q:Prop} (h:if true=true then p else q):p:=by rwa [aD rfl] at h
theorem Cz {p q:Prop} (h:if false=true then p else q):q:=by rwa [aB fH] at h
variable {cond:Expr}
section
variable {prog:Program} {w:World} {A:Around} {R:Result->Shared->Prop} {s:Shared}
theorem GJ {it acc:Value} (J:Nat->Shared->Prop)
  (turn:∀n s,J n s->wpAny (model prog w) A (pyNext it) (fun r s₁=>match r with
    | none=>R (.ok .next) s₁
    | some v=>wpAny (model prog w) A (letOwnedTupleGo target it v) (fun _ s₂=>wpAny (model prog w) A (assign target env v) (fun _ s₃=>wpAny (model prog w) A (isTrue cond env (eval cond env)) (fun ok Y7=>if ok=true then
       wpAny (model prog w) A (eval elt env) (fun x s₄=>wpAny (model prog w) A (call (.builtin "list.append") [acc,x]) (fun _ s₅=>∃m,m<n/\J m s₅) (fun _ _=>False) s₄) (fun _ _=>False) Y7
       else ∃m,m<n/\J m Y7) (fun _ _=>False) s₃) (fun _ _=>False) s₂) (fun _ _=>False) s₁) (fun _ _=>False) s)
  (n:Nat) (h:J n s):codeAny (model prog w) A (.compLoop (.ListComp elt [⟨target,iter,[cond],0⟩] scope pos) 0 it acc env) R s:=by
 refine codeAny_loop rfl J (fun n s hI=>?_) n h
 show wpAny _ A ((compTurn (.ListComp elt [⟨target,iter,[cond],0⟩] scope pos) 0 it acc env).onRaise (fun x=>do noteFrame x env;theTreesLotGoes x)) _ _ s
 refine wpAny_noted ?_
 rw [compTurn_list]
 refine az (xD (az (gj (turn n s hI) (fun r s₁ h₁=>?_) fun _ _ h'=>h'.elim)))
 cases r with
 | none=>exact aV h₁
 | some v=>
   refine az (gj h₁ (fun _ s₂ h₂=>az (gj h₂ (fun _ s₃ h₃=>?_) fun _ _ h'=>h'.elim)) fun _ _ h'=>h'.elim)
   refine az (wpAny_tests_one (gj h₃ (fun ok Y7 h₃'=>?_) fun _ _ h'=>h'.elim))
   cases ok with
   | false=>exact aV ⟨Z,Cz h₃'⟩
   | true=>exact az (az (gj (Cy h₃') (fun x s₄ h₄=>az (gj h₄ (fun _ s₅ h₅=>aV (aV ⟨Z,h₅⟩)) fun _ _ h'=>h'.elim)) fun _ _ h'=>h'.elim))
end
variable {tc:TT} {wi:TI}
section
variable {X:Cx}
def CA (J:It) (g:TG) (tc:TT) (te:TE) (acc:Addr) (σ₀:St) (H:Hp) (Q:VK):Prop:=∃W:Nat->Nat->St->Hp->Prop,
 (∃m,W 0 m σ₀ (upd H acc (.lst [])))/\∀i m σ2 H2,W i m σ2 H2->
   (J.stop i H2/\Q (.ref acc) H2)\/(J.go i H2/\∃(S:St->Prop) (N:V->Hp->Prop) (N0:Hp->Prop),(∀σ3 v H4,S σ3->N v H4->∃xs,H4 acc=some (.lst xs)/\xs.length<sizeLine/\∃m',m'<m/\W (i+1) m' σ3 (upd H4 acc (.lst (xs++[v]))))/\
     (∀σ3 H4,S σ3->N0 H4->∃m',m'<m/\W (i+1) m' σ3 H4)/\∀x H',J.yR i H2 x H'->g x σ2 H' fun σ3 H3=>S σ3/\tc σ3 H3 fun b H4=>if b=true then te σ3 H4 N else N0 H4)
def W5 (ix:List (Option Nat)) (g:TG) (tc:TT) (te:TE) (σ:St) (Q:VK):It->Hp->Prop:=fun J H1=>∀acc,H1 acc=none->CA J g tc te acc (pick ix σ) H1 Q
def Rx (wi:TI) (ix:List (Option Nat)) (g:TG) (tc:TT) (te:TE):TE:=fun σ H Q=>wi σ H (W5 ix g tc te σ Q)
theorem L6 {ix:List (Option Nat)} {g:TG} {Q:VK}
  {RR:Value->Addr->Result->Shared->Prop} (hc:X.calm=true) (hg:∀cl s₂ H₂ fp,PG (cE X N2 scope cl s₂ H₂ fp) tg g) (he:∀cl s₂ H₂ fp,PE (cE X N2 scope cl s₂ H₂ fp) elt te)
  (ht:∀cl s₂ H₂ fp,PT (cE X N2 scope cl s₂ H₂ fp) cond tc) (hk:scope.kind = .function) (hn:mR X.N X.env.scope.names scope.names N2 ix=true)
  (Bh:∀y c,(y,c)∈cl->X.env.cells.lookup y=some c) (yX:∀y,(y,NameKind.free)∈scope.names->∃c,(y,c)∈cl)
  {it:Addr} {fp:List Addr} {tn:Nat->Heap->Prop} {J:It} (I:Inv X pins σ H s) (T:Turn X.prog X.w X.K tg J fp it tn) (st:tn 0 s.heap) (f:∀b∈fp,k7 X pins H b)
  (h:∀acc,H acc=none->CA J g tc te acc (ix.map fun o=>o.bind fun j=>(σ[j]?).join) H Q)
  (hR:∀acc C H' s' m,Inv X pins σ H' s'->s'.heap.Ns C m->H' C=none->C≠X.env.locals->X.s₀.heap.objs.size<=C->(∀x c,X.env.cells.lookup x=some c->c≠C)->(∀p∈X.pn++pins,p.1≠C)->Q (.ref acc) H'->RR (.ref acc) C (.ok .next) s'):
  wpAny (model X.prog X.w) X.A (newList []) (fun acc s₃=>wpAny (model X.prog X.w) X.A (newFunctionEnv scope X.env.globals cl [] X.env.qual none .none (some X.env)) (fun cenv s₄=>
   codeAny (model X.prog X.w) X.A (.compStart (.ListComp elt [⟨tg,iter,[cond],0⟩] scope pos) 0 (.ref it) acc { cenv with scope:=relabel scope X.env }) (RR acc cenv.locals) s₄) E s₃) E s:=by
 obtain ⟨k1,k2,k3,k4,k5⟩:=j7 hn
 refine vJ ?_
 have I3:Inv X pins σ (upd H s.heap.objs.size (.lst [])) { s with heap:=s.heap.push { cls:= .type "list",data:= .seq ([] :List Value).toArray } }:=
  I.laid (a:=s.heap.objs.size) (o:= .lst []) (t':=s.toks) (fun _ _ q=>b7 _ q) (aN _) ⟨gh _,[],_, .nil,eL _ rfl⟩
 obtain ⟨W,⟨m0,w0⟩,turn⟩:=h s.heap.objs.size I.fresh
 have fo:∀b∈fp,b<s.heap.objs.size:=fun b hb=>by
  obtain ⟨o,e,_⟩:=T.obj 0 _ st b hb
  exact bM e
 have st3:tn 0 (s.heap.push { cls:= .type "list",data:= .seq ([] :List Value).toArray }):=T.keep _ _ _ st fun b _ o e=>b7 _ e
 have f3:∀b∈fp,k7 X pins (upd H s.heap.objs.size (.lst [])) b:=fun b hb=>⟨by rw [au (ee (fo b hb))];exact (f b hb).1,(f b hb).2⟩
 have Fv:∀b∈fp,b<(s.heap.push { cls:= .type "list",data:= .seq ([] :List Value).toArray }).objs.size:=fun b hb=>by rw [j0];exact IJ (fo b hb)
 generalize Rl:({ s with heap:=s.heap.push { cls:= .type "list",data:= .seq ([] :List Value).toArray } }:Shared)=s3 at *
 have Rm:s3.heap=s.heap.push { cls:= .type "list",data:= .seq ([] :List Value).toArray }:=by rw [<-Rl]
 rw [<-Rm] at st3 Fv
 generalize s.heap.objs.size=acc at *
 generalize eH3:upd H acc (.lst [])=H3 at *
 have IY:=xP (N2:=N2) (scope:=scope) (cl:=cl) (fp:=fp) (σ2:=ix.map fun o=>o.bind fun j=>(σ[j]?).join) I3 hk Bh yX f3 Fv (by rw [aH];exact k1) (fun i x v e1 e2=>by
  rw [cA] at e2
  cases ei:ix[i]? with
  | none=>rw [ei] at e2;cases e2
  | some o=>
    rw [ei] at e2
    cases o with
    | none=>cases e2
    | some j=>
      obtain ⟨a1,a2,a3⟩:=k2 i x j e1 ei
      refine ⟨a2,a3,j,a1,?_⟩
      have e3:(σ[j]?).join=some v:=fu e2
      cases ej:σ[j]? with
      | none=>rw [ej] at e3;cases e3
      | some z=>rw [ej] at e3;exact j6 some e3) k5
 have ne:wpAny (model X.prog X.w) X.A (newFunctionEnv scope X.env.globals cl [] X.env.qual none .none (some X.env)) (fun cenv s₄=>
   cenv={ scope:=scope,locals:=s3.heap.objs.size,globals:=X.env.globals,cells:=cellsFrom (s3.heap.objs.size+1) scope.names cl,qual:=X.env.qual,func:=none,code:=X.env.code,frame:=X.env.frame,builtins:=X.env.builtins }/\
   s₄={ s3 with heap:=pushCells (s3.heap.push { cls:= .type "dict",data:= .dict #[] }) scope.names }) E s3:=by
  simp only [newFunctionEnv,OX,if_true]
  refine az (wpAny_alloc ?_)
  refine az (wpAny_layCells _ (fun name kind cells=>by cases hkc:kind==NameKind.cell <;> simp [hkc]) _ _ _ _ ?_)
  rw [xC]
  refine az (aV (aV ⟨?_,Z⟩))
  rw [show ({ s3 with heap:=s3.heap.push { cls:= .type "dict",data:= .dict #[] } }:Shared).heap.objs.size=s3.heap.objs.size+1 from j0 ..]
 refine bh ne fun cenv s4 ⟨e1,e2⟩=>?_
 subst e1 e2
 have Fw:tn 0 (pushCells (s3.heap.push { cls:= .type "dict",data:= .dict #[] }) scope.names):=T.keep _ _ _ st3 fun b _ o e=>BX _ _ b o (b7 _ e)
 have wH:s3.heap.objs.size≠X.env.locals:=xF I3.lt
 have nM:∀{H':Hp},(∀b∈fp,H' b=none)->∀b∈fp,k7 (cE X N2 scope cl s3 H3 fp) [] H' b:=fun {H'} hn b hb=>
  ⟨hn b hb,(IY.ok.Fb b hb).1,IY.ok.Bb b hb, .inl hb,(IY.ok.Fb b hb).2,fun p hp=>nomatch hp⟩
 have loop:codeAny (model X.prog X.w) X.A (.compLoop (.ListComp elt [⟨tg,iter,[cond],0⟩] scope pos) 0 (.ref it) (.ref acc) (cE X N2 scope cl s3 H3 fp).env) (RR (.ref acc) s3.heap.objs.size)
   { s3 with heap:=pushCells (s3.heap.push { cls:= .type "dict",data:= .dict #[] }) scope.names }:=by
  refine GJ (fun n s'=>∃i σ' H',Inv (cE X N2 scope cl s3 H3 fp) [] σ' H' s'/\tn i s'.heap/\(∀b∈fp,H' b=none)/\W i n σ' H') ?_ m0 ⟨0,_,H3,IY,Fw,fun b hb=>(f3 b hb).1,w0⟩
  rintro n s5 ⟨i,σ5,H5,I5,yx,AR,w5⟩
  rcases turn i n σ5 H5 w5 with ⟨stop,qn⟩|⟨go,S,N,N0,Rn,hS0,step⟩
  . refine bh (T.done (cE X N2 scope cl s3 H3 fp) rfl rfl rfl hc i [] s5 σ5 H5 (fun _ _=>False) I5 (nM AR) yx stop) fun r s6 ⟨hr,I6⟩=>?_
    subst hr
    obtain ⟨m6,Ro,_⟩:=id I6.loc
    have IX:Inv X pins σ H5 s6:=I3.Ii (ch:=fp) I6.os I6.base I6.hok I6.bare fun b hb=>⟨(f3 b hb).2.2.2.1,(f3 b hb).2.1,(f3 b hb).2.2.2.2.1,(f3 b hb).2.2.2.2.2⟩
    refine hR acc s3.heap.objs.size H5 s6 m6 IX Ro I6.free wH I3.sz (fun x c e z=>?_) (fun p hp z=>?_) qn
    . obtain ⟨v,q⟩:=I3.cell x c e
      exact absurd q.lt (by rw [z];exact jc _)
    . exact absurd (bM (I3.pin p hp).1) (by rw [z];exact jc _)
  . refine bh (T.item (cE X N2 scope cl s3 H3 fp) rfl rfl rfl hc i [] s5 σ5 H5 (fun _ _=>False) I5 (nM AR) yx go) fun r s6 ⟨u,hr,h6⟩=>?_
    subst hr
    refine bh h6 fun _ s7 ⟨x,H7,I7,r7,y7,wI,Jl⟩=>?_
    have Rp:=I7.pinned (nM Jl) (T.obj _ _ wI)
    refine bh (hg cl s3 H3 fp _ s7 σ5 H7 x u _ Rp r7 (step x H7 y7)) fun _ s8 ⟨σ8,H8,I8,NQ,q8⟩=>?_
    refine bh (ht cl s3 H3 fp _ s8 σ8 H8 _ I8 q8) fun ok s9' ⟨H9',VQ,q9'⟩=>?_
    cases ok with
    | false=>
      obtain ⟨m',hm,w9⟩:=hS0 σ8 H9' NQ (Cz q9')
      refine ite_ff ⟨m',hm,i+1,σ8,_,VQ.nL,T.keep _ _ _ wI fun b hb o e=>(VQ.pin (b,o) (iA _ (iA _ (gW hb e)))).1,fun b hb=>?_,w9⟩
      obtain ⟨o,e,d⟩:=T.obj _ _ wI b hb
      exact (VQ.pin (b,o) (iA _ (iA _ (gW hb e)))).2.1
    | true=>
      refine ite_tt ?_
      refine bh (he cl s3 H3 fp _ s9' σ8 H9' _ VQ (Cy q9')) fun y s9 ⟨v,H9,I9,r9,q9⟩=>?_
      obtain ⟨xs,hxs,Rq,m',hm,w9⟩:=Rn σ8 v H9 NQ q9
      refine bh (dX _ s9 σ8 H9 (.ref acc) [v] (.ref acc) [y] (fun z AS=>z = .b9/\AS=upd H9 acc (.lst (xs++[v]))) I9 rfl (.cons r9 .nil) ⟨acc,xs,v,Z,Z,hxs,Rq,Z,Z⟩) fun z NR ⟨zv,AS,yY,r10,ez,eH⟩=>?_
      subst eH
      refine ⟨m',hm,i+1,σ8,_,yY.nL,T.keep _ _ _ wI fun b hb o e=>(yY.pin (b,o) (iA _ (iA _ (gW hb e)))).1,fun b hb=>?_,w9⟩
      obtain ⟨o,e,d⟩:=T.obj _ _ wI b hb
      exact (yY.pin (b,o) (iA _ (iA _ (gW hb e)))).2.1
 exact codeAny_compStart_list loop (T.self _ 0 _ _ _ Fw loop)
theorem Uj (N2:List Str) (ix:List (Option Nat)) {g:TG} (hc:X.calm=true) (hi:PI X tg iter wi)
  (hg:∀cl s₂ H₂ fp,PG (cE X N2 scope cl s₂ H₂ fp) tg g) (he:∀cl s₂ H₂ fp,PE (cE X N2 scope cl s₂ H₂ fp) elt te)
  (ht:∀cl s₂ H₂ fp,PT (cE X N2 scope cl s₂ H₂ fp) cond tc) (hk:scope.kind = .function) (hn:mR X.N X.env.scope.names scope.names N2 ix=true) (hs:∀x,foldedSetIterable iter X.env x=pure x:=by intro _;rfl):
  PE X (.ListComp elt [⟨tg,iter,[cond],0⟩] scope pos) (Rx wi ix g tc te):=by
 intro pins s σ H Q I h
 obtain ⟨k1,k2,k3,k4,k5⟩:=j7 hn
 obtain ⟨cl,Jr,c1,c2⟩:=tF (scope:=scope) (env:=X.env) fun y hy e=>I.ok.has y.1 (k3 y hy e)
 rw [eval_ListComp]
 refine ON (use:=none) rfl hs Jr hk k4 (bh (hi pins s σ H _ I h) fun v s1 h1=>bh h1 fun itv s2 h2=>?_)
 obtain ⟨it,fp,tn,J,H2,e,I2,T,st2,f2,h2⟩:=h2
 subst e
 refine L6 (RR:=fun acc C=>compPost (model X.prog X.w) X.A X.xe none (EP X pins σ Q) acc C) (Q:=Q) hc hg he ht hk hn (fun y c m=>(c1 y c m).1) c2 I2 T st2 f2 h2 ?_
 intro acc C H' s' m I' ns wH hL hsz rK xT q
 exact ⟨m,ns,fun h' hs'=>⟨.ref acc,H',I'.turned (it:=C) (t':=s'.toks) (fun b o hb e=>(hs'.2 b hb).trans e) wH hL (.inr hsz) rK xT,Z,q⟩⟩
end
theorem t_ {α:Type} [DecidableEq α] :∀{l m:List α},l.Nodup->(∀x∈l,x∈m)->l.length<=m.length
 | [],_,_,_=>gh _
 | x::r,m,h,hs=>by
   have hn:=fP.mp h
   have hx:=hs x cS
   have:=t_ (l:=r) (m:=m.erase x) hn.2 fun y hy=>by
    have hne:y≠x:=fun e=>hn.1 (e▸hy)
    exact (List.mem_erase_of_ne hne).mpr (hs y (cD _ hy))
   rw [List.length_erase_of_mem hx] at this
   have hp:0<m.length:=List.length_pos_of_mem hx
   rw [jZ]
   omega
variable {i:Nat}
theorem Ry (c:Int) {n:Nat} (h:i<n):(kQ c n)[i]?=some (97+((c / 26 ^ i) % 26).toNat):=by
 unfold kQ
 rw [cA,List.getElem?_range h]
 rfl
theorem W6 {c c':Int} {n d:Nat} (h:d<n) (e:kQ c n=kQ c' n):(c / 26 ^ d) % 26=(c' / 26 ^ d) % 26:=by
 have h1:=Ry c h
 rw [e,Ry c' h] at h1
 have h2:=fu h1
 have a0:0<=(c / 26 ^ d) % 26:=oK _ (by decide)
 have b0:0<=(c' / 26 ^ d) % 26:=oK _ (by decide)
 omega
structure oV (x:List Nat):Prop where
 lo:1<=x.length
 hi:x.length<=8
 W7:∀c∈x,97<=c/\c<123
theorem Y8 (c:Int) {n:Nat} (h1:1<=n) (h2:n<=8):oV (kQ c n):=by
 refine ⟨by rw [xR];exact h1,by rw [xR];exact h2,fun x hx=>?_⟩
 obtain ⟨i,_,rfl⟩:=bH.mp hx
 have a0:0<=(c / 26 ^ i) % 26:=oK _ (by decide)
 have a1:(c / 26 ^ i) % 26<26:=yO _ (by decide)
 omega
def rL (nss:List (List Nat)):List V:=nss.map fun x=>V.str (tx x)
theorem Uk (nss:List (List Nat)):(rL nss).all qW=true:=by
 unfold rL
 rw [List.all_map,qP]
 exact fun _ _=>rfl
theorem Rz {a b:List Nat} (h:tx a=tx b):a=b:=by
 have:a.toArray=b.toArray:=by injection h
 simpa using this
theorem NS (x:List Nat) (nss:List (List Nat)):Fl (.str (tx x)) (rL nss)=decide (x∈nss):=by
 unfold Fl rL
 rw [List.any_map,Ae,List.any_eq_true,decide_eq_true_eq]
 constructor
 . rintro ⟨y,hy,e⟩
   have e2:yv (.str (tx y)) (.str (tx x))=true:=e
   have e3:tx y=tx x:=by
    unfold yv at e2
    simpa using e2
   rw [<-Rz e3]
   exact hy
 . intro h
   refine ⟨x,h,?_⟩
   show yv (.str (tx x)) (.str (tx x))=true
   unfold yv
   simp
open PySem.NumText
section
variable {X:Cx}
end
def Px (lo st:Int) (n:Nat):It:=⟨fun i _=>i<n,fun i H x H'=>H'=H/\x = .int (lo+i*st),fun i _=>n<=i⟩
variable {P:Program}
theorem L7 {w:World} (it:Addr) (lo st:Int) (n:Nat):Turn P w K tg (Px lo st n) [it] it (fun i h=>IsRangeIter h it (lo+(i:Nat)*st) ((n:Int)-(i:Nat)) st) where
 mem:=by simp
 obj:=fun i h st b hb=>by
  have e:b=it:=by simpa using hb
  subst e
  exact ⟨_,st,fun v z=>by
   have z':Data.fields _=Data.cell v:=z
   cases z'⟩
 keep:=fun i h h' st k=>k it (by simp) _ st
 item:=by
  intro X hP hw hK hc i pins s σ H E I hf st' hg
  subst hP hw hK
  obtain ⟨f0,f1,f2,f3,f4,f5⟩:=hf it (by simp)
  have W:=Walks.range (prog:=X.prog) (w:=X.w) (I.ok.hd hc) it lo st n
  refine W.item i s _ _ hg st' fun v h' tk hv st2 kk=>?_
  obtain ⟨t,rfl⟩:=hv
  have I1:Inv X pins σ H { s with heap:=h',toks:=tk }:=I.turned (fun b o hb e=>kk b o (by simpa using hb) e) f0 f1 f3 f4 f5
  exact ⟨_,Z,Al (s:={ s with heap:=h',toks:=tk }) (n:="range_iterator") st2 rfl rfl (by decide) ⟨.int (lo+i*st),H,I1,⟨t,Z⟩,⟨Z,Z⟩,st2,fun b hb=>(hf b hb).1⟩⟩
 done:=by
  intro X hP hw hK hc i pins s σ H E I hf st' hg
  subst hP hw hK
  obtain ⟨f0,f1,f2,f3,f4,f5⟩:=hf it (by simp)
  exact wpAny_pyNext_range_end (I.ok.hd hc) st' (by have:n<=i:=hg;omega) fun h' eb=>⟨Z,I.turned (t':=s.toks) (fun b o hb e=>eb b o hb e) f0 f1 f3 f4 f5⟩
 self:=fun _ _ _ _ _ st h=>wpAny_pyIter_rangeiter st h
variable {tb:TS} {D:Ends}
section
variable {X:Cx} {tg:Expr}
def qf (lo hi st:Int):Nat:=(Builtin.Range.rangeSize lo hi st).toNat
inductive Y9 (R:It->Hp->Prop) (vs:List V) (H1:Hp):Prop
 | mk  (i j k:Int) (_:vs=[.int i, .int j, .int k]) (_:(0<=i/\i<=1000000/\0<=j/\j<=1000000/\0<k/\k<=1000000)) (_:R (Px i k (qf i j k)) H1)
def abW (ta:TA):TI:=fun σ H R=>ta σ H (Y9 R)
theorem L8 {a b c:Int} (h1:0<=a) (h2:a<=1000000) (h3:0<=b) (h4:b<=1000000) (h5:0<c) (h6:c<=1000000):Builtin.Range.small a b c=true/\0<=Builtin.Range.rangeSize a b c:=by
 have hr:0<=Builtin.Range.rangeSize a b c/\Builtin.Range.rangeSize a b c<=1000001:=by
  unfold Builtin.Range.rangeSize
  rw [aD (by omega)]
  split
  . have e0:0<=(b-a-1) / c:=Ib (by omega) (by omega)
    have e1:(b-a-1) / c<=b-a-1:=Int.ediv_le_self _ (by omega)
    omega
  . omega
 refine ⟨?_,hr.1⟩
 unfold Builtin.Range.small
 simp only [Builtin.Range.rangeFitsLong,IK,Bool.or_eq_true,decide_eq_true_eq,m7,show c>0 from h5,if_true]
 omega
theorem Py {lo st:Int} {n:Nat} {g:TG} (Pv:Nat->St->Hp->Prop) (h0:Pv 0 σ H)
  (hs:∀i σ H,i<n->Pv i σ H->g (.int (lo+i*st)) σ H (tb (D.lp (Pv (i+1))))) (hd:∀σ H,Pv n σ H->D.nx σ H):
  Cb g tb D σ (Px lo st n) H:=by
 refine ⟨fun i m σ H=>m=n-i/\i<=n/\Pv i σ H,⟨n,by simp,gh _,h0⟩,?_⟩
 rintro i m σ H ⟨rfl,hi,p⟩
 by_cases hlt:i<n
 . refine .inr ⟨hlt,fun σ' H'=>Pv (i+1) σ' H',fun σ' H' q=>⟨n-(i+1),by omega,Z,hlt,q⟩,?_⟩
   rintro x H' ⟨rfl,rfl⟩
   exact hs i σ _ hlt p
 . have e:i=n:=by omega
   subst e
   exact .inl ⟨aN _,hd σ H p⟩
end
open Builtin Builtin.Str
section
variable {X:Cx}
end
theorem NT (c:Int) (j d:Nat):(c+(j:Int)*26 ^ d) / 26 ^ d=c / 26 ^ d+(j:Int):=by
 have hp:(26:Int) ^ d≠0:=Int.ne_of_gt (Int.pow_pos (by decide))
 rw [Int.add_mul_ediv_right _ _ hp]
variable {nss:List (List Nat)} {t:Nat}
theorem RA {c:Int} {n d:Nat} (h2:d<n) (ht:t<=26) (h:∀j:Nat,j<t->kQ (c+(j:Int)*26 ^ d) n∈nss):t<=nss.length:=by
 have hn:((List.range t).map fun j=>kQ (c+((j:Nat):Int)*26 ^ d) n).Nodup:=by
  have:(List.range t).Pairwise (fun a b=>a<b):=List.pairwise_lt_range
  refine List.Pairwise.map _ ?_ (List.Pairwise.and_mem.mp this)
  rintro a b ⟨ha,hb,hab⟩ e
  have ha':=qQ.mp ha
  have hb':=qQ.mp hb
  have:=W6 h2 e
  rw [NT,NT] at this
  omega
 have:=t_ hn fun x hx=>by
  obtain ⟨j,hj,rfl⟩:=bH.mp hx
  exact h j (qQ.mp hj)
 rw [aH,O4] at this
 exact this
inductive Y_ (K:Fg) (vs:List V) (H:Hp) (Q:VK) (E:XK):Prop
 | mk (a:Addr) (ms:List Int) (k:Int) (many:Nat) (_:vs=[.ref a, .int k, .int (many:Int)]) (_:aK K H a (ms.map V.int)) (_:ms.length<=63) (_:0<=k) (_:many<=25) (_:∀(z:Addr) (nss:List (List Nat)) (H':Hp),aO H H'->H' z=some (.lst (rL nss))->H z=none->nss.length=many->nss.Nodup->(∀x∈nss,oV x)->Q (.ref z) H')
def D5 (K:Fg):Sp:=bx (Y_ K)
theorem Fy {Q:VK} {E:XK} {ms:List Int} {k mi:Int} {many:Nat} (hmi:mi=(many:Int)) (hS:aK K H a (ms.map V.int)) (h63:ms.length<=63) (h1:0<=k) (h2:many<=25)
  (h:∀(z:Addr) (nss:List (List Nat)) (H':Hp),aO H H'->H' z=some (.lst (rL nss))->H z=none->nss.length=many->nss.Nodup->(∀x∈nss,oV x)->Q (.ref z) H'):D5 K [.ref a, .int k, .int mi] H Q E:=by
 subst hmi
 exact ⟨a,ms,k,many,Z,hS,h63,h1,h2,h⟩
theorem y9 {a:List (Key×V)} {b:List (Key×Value)} (r:KV a b):∀{j:Nat} {p:Key×V},a[j]?=some p->∃q,b[j]?=some q/\p.1=q.1/\RelV p.2 q.2:=by
 induction r with
 | nil=>intro j p z;simp at z
 | cons r1 _ ih=>
   intro j p z
   cases j with
   | zero=>simp at z;subst z;exact ⟨_,Z,r1⟩
   | succ j=>simp at z;obtain ⟨q,a1,a2⟩:=ih z;exact ⟨q,by simpa using a1,a2⟩
abbrev oz (H:Hp) (d:Addr) (o:Obj) (kvs:List (Key×V)):Prop:=H d=some (.eF o (.dK kvs))
section
variable {X:Cx} {pins:AO} {σ σ':St} {H H':Hp} {s s':Shared} {d:Addr} {kvs:List (Key×V)} {o:Obj}
theorem Inv.freeze (I:Inv X pins σ H s) (e:H d=some (.dK kvs)) (ho:s.heap.get? d=some o):Inv X pins σ (upd H d (.eF o (.dK kvs))) s:=by
 have nd:∀{b:Addr},H b=none->b≠d:=fun h z=>by rw [z,e] at h;cases h
 have dn:∀{b:Addr},H b=none->upd H d (.eF o (.dK kvs)) b=none:=fun h=>by rw [au (nd h)];exact h
 have un:∀{b:Addr} {u:HO},H b=some u->(∀k,u ≠ .dK k)->b≠d:=fun h k z=>by rw [z,e] at h;cases h;exact k _ rfl
 refine ⟨I.ok,I.os,I.bare,⟨I.base.keep,I.base.slot,fun b ob q n x=>dn (I.base.free b ob q n x),I.base.there,fun b xs q=>?_,fun b ob u q=>?_,fun b ps q=>?_⟩,I.loc,I.cell,dn I.free,fun x c q=>dn (I.m8 x c q),fun p hp=>?_,fun b ob q=>?_,I.len⟩
 . have:=I.base.tups b xs q
   rw [au (un this fun k z=>by cases z)];exact this
 . have:=I.base.qb b ob u q
   rw [au (un this fun k z=>by cases z)];exact this
 . obtain ⟨more,this⟩:=I.base.tV b ps q
   exact ⟨more,by rw [au (un this fun k z=>by cases z)];exact this⟩
 . obtain ⟨h1,h2,h3⟩:=I.pin p hp
   exact ⟨h1,dn h2,h3⟩
 . by_cases hb:b=d
   . subst hb
     rw [ah] at q;cases q
     have:=I.hok b _ e
     exact ⟨ho,this⟩
   . rw [au hb] at q
     refine (I.hok b ob q).stay (fun c u _ z=>z) (fun c z=>?_) fun c xs z=>?_
     . rw [au (un z fun k z=>by cases z)];exact z
     . rw [au (un z fun k z=>by cases z)];exact z
theorem Inv.Bk (I:Inv X pins σ H s) (e:oz H d o kvs) (h0:∀o u,X.H₀ d≠some (.eF o u)):Inv X pins σ (upd H d (.dK kvs)) s:=by
 have nd:∀{b:Addr},H b=none->b≠d:=fun h z=>by rw [z] at h;exact absurd (h.symm.trans e) (by simp)
 have dn:∀{b:Addr},H b=none->upd H d (.dK kvs) b=none:=fun h=>by rw [au (nd h)];exact h
 have un:∀{b:Addr} {u:HO},H b=some u->(∀o k,u ≠ .eF o k)->b≠d:=fun h k z=>by rw [z] at h;have:=h.symm.trans e;cases this;exact k _ _ rfl
 refine ⟨I.ok,I.os,I.bare,⟨I.base.keep,I.base.slot,fun b ob q n x=>dn (I.base.free b ob q n x),I.base.there,fun b xs q=>?_,fun b ob u q=>?_,fun b ps q=>?_⟩,I.loc,I.cell,dn I.free,fun x c q=>dn (I.m8 x c q),fun p hp=>?_,fun b ob q=>?_,I.len⟩
 . have:=I.base.tups b xs q
   rw [au (un this fun _ k z=>by cases z)];exact this
 . have:=I.base.qb b ob u q
   rw [au (fun (z:b=d)=>h0 ob u (by rw [<-z];exact q))];exact this
 . obtain ⟨more,this⟩:=I.base.tV b ps q
   exact ⟨more,by rw [au (un this fun _ k z=>by cases z)];exact this⟩
 . obtain ⟨h1,h2,h3⟩:=I.pin p hp
   exact ⟨h1,dn h2,h3⟩
 . by_cases hb:b=d
   . subst hb
     rw [ah] at q;cases q
     exact (I.hok b _ e).2
   . rw [au hb] at q
     refine (I.hok b ob q).stay (fun c u _ z=>z) (fun c z=>?_) fun c xs z=>?_
     . rw [au (un z fun _ k z=>by cases z)];exact z
     . rw [au (un z fun _ k z=>by cases z)];exact z
theorem Inv.RB (I:Inv X pins σ H s) (e:H d=some (.dK kvs)):∀o u,X.H₀ d≠some (.eF o u):=fun o u z=>by
 have:=I.base.qb d o u z
 rw [e] at this;cases this
theorem Inv.qX (I:Inv X pins σ H s) (e:oz H d o kvs):s.heap.get? d=some o/\kvs.length<=sizeLine/\(d==sysModules)=false/\∃vs ep,KV kvs vs/\s.heap.DictAt (cY X.prog X.w) d vs ep:=by
 obtain ⟨ho,hz,hs,vs,r,dd⟩:=(show eY X.prog X.w H s.heap d (.eF o (.dK kvs)) from I.hok d _ e)
 obtain ⟨ep,da⟩:=dd.dictAt
 exact ⟨ho,hz,hs,vs,ep,r,da⟩
end
def Ends.Bk (D:Ends) (d:Addr) (o:Obj) (kvs:List (Key×V)):Ends where
 nx:=fun σ H=>oz H d o kvs/\D.nx σ (upd H d (.dK kvs))
 rt:=fun v H=>oz H d o kvs/\D.rt v (upd H d (.dK kvs))
 bk:=fun σ H=>oz H d o kvs/\D.bk σ (upd H d (.dK kvs))
 ct:=fun σ H=>oz H d o kvs/\D.ct σ (upd H d (.dK kvs))
inductive afr (t:TS) (D:Ends) (σ:St) (H:Hp):Prop
 | mk  (d kvs:_) (_:H d=some (.dK kvs)) (_:∀o,t (D.Bk d o kvs) σ (upd H d (.eF o (.dK kvs))))
def afs (t:TE):TE:=fun σ H Q=>∃d kvs,H d=some (.dK kvs)/\∀o,t σ (upd H d (.eF o (.dK kvs))) fun v H'=>oz H' d o kvs/\Q v (upd H' d (.dK kvs))
def Itv (d:Addr) (o:Obj) (kvs:List (Key×V)):It:=⟨fun i H=>oz H d o kvs/\i<kvs.length,fun i H x H'=>H'=H/\∃p,kvs[i]?=some p/\x=p.2,fun i H=>oz H d o kvs/\kvs.length<=i⟩
def Iti (d:Addr) (o:Obj) (kvs:List (Key×V)):It:=⟨fun i H=>oz H d o kvs/\i<kvs.length,fun i H x H'=>∃a p,H a=none/\kvs[i]?=some p/\x = .ref a/\H'=upd H a (.tup [kV p.1,p.2]),fun i H=>oz H d o kvs/\kvs.length<=i⟩
variable {h:Heap} {es:Array DictEntry}
theorem Aq {w:World} {d:Addr} {vs:List (Key×Value)} {e1 e2:Nat} {o:Obj} (da:h.DictAt (cY P w) d vs e1) (ho:h.get? d=some o) (hd:o.data = .dict es e2):e1=e2:=by
 obtain ⟨o',es',h1,_,h2,_⟩:=da
 rw [ho] at h1;cases h1
 rw [hd] at h2;cases h2;rfl
theorem RC {w:World} {k:Key} {v:Value} (h:(cY P w).is k v=true):RelV (kV k) v:=by
 rw [O9] at h
 rcases f_ h with ⟨i,t,rfl,rfl⟩|⟨x,t,rfl,rfl⟩
 . exact ⟨t,Z⟩
 . exact ⟨t,Z⟩
variable {it:Addr} {kvs:List (Key×V)} {ep:Nat}
theorem RD {w:World} {d:Addr} {o:Obj} (hd:o.data = .dict es ep):
  Turn P w K tg (Itv d o kvs) [it] it (fun i h=>h.IsValIter it d i kvs.length ep) where
 mem:=by simp
 obj:=fun i h st b hb=>by
  have e:b=it:=by simpa using hb
  subst e
  obtain ⟨o,e,c,d⟩:=st
  exact ⟨o,e,fun v z=>by rw [d] at z;cases z⟩
 keep:=fun i h h' st k=>st.at fun o e=>k it (by simp) o e
 item:=by
  intro X hP hw hK hc i pins s σ H E I hf st hg
  subst hP hw hK
  obtain ⟨hz,hlt⟩:=hg
  obtain ⟨ho,_,_,vs,wk,r,da⟩:=I.qX hz
  cases Aq da ho hd
  have hl:kvs.length=vs.length:=r.length
  obtain ⟨q,hq,_,rq⟩:=y9 r (bD hlt)
  obtain ⟨qk,qv⟩:=q
  rw [hl] at st
  obtain ⟨f0,f1,f2,f3,f4,f5⟩:=hf it (by simp)
  refine wpAny_pyNext_values_item st da hq fun h' st' sb=>?_
  have I1:Inv X pins σ H { s with heap:=h' }:=I.turned (t':=s.toks) (fun b o hb e=>(sb.2 b hb).trans e) f0 f1 f3 f4 f5
  obtain ⟨oi,e,c,dd⟩:=id st'
  exact ⟨_,Z,Al (s:={ s with heap:=h' }) e c dd (by decide) ⟨kvs[i].2,H,I1,rq,⟨Z,kvs[i],bD hlt,Z⟩,by rw [hl];exact st',fun b hb=>(hf b hb).1⟩⟩
 done:=by
  intro X hP hw hK hc i pins s σ H E I hf st hg
  subst hP hw hK
  obtain ⟨hz,hle⟩:=hg
  obtain ⟨ho,_,_,vs,wk,r,da⟩:=I.qX hz
  cases Aq da ho hd
  have hl:kvs.length=vs.length:=r.length
  rw [hl] at st
  obtain ⟨f0,f1,f2,f3,f4,f5⟩:=hf it (by simp)
  exact wpAny_pyNext_values_end (I.ok.hd hc) st da (by rw [xx];omega) fun h' eb=>⟨Z,I.turned (t':=s.toks) (fun b o hb e=>eb b o hb e) f0 f1 f3 f4 f5⟩
 self:=fun _ _ _ _ _ st h=>wpAny_pyIter_valiter st h
variable {elts:List Expr}
theorem Pz {w:World} {kk:Nat} {d:Addr} {o:Obj} (hd:o.data = .dict es ep):
  Turn P w K (.Tuple elts kk pos) (Iti d o kvs) [it] it (fun i h=>∃ok ov,IsItemIter h it d i kvs.length ep ok ov) where
 mem:=by simp
 obj:=fun i h st b hb=>by
  have e:b=it:=by simpa using hb
  subst e
  obtain ⟨ok,ov,e⟩:=st
  exact ⟨_,e,fun v z=>by cases z⟩
 keep:=fun i h h' ⟨ok,ov,st⟩ k=>⟨ok,ov,k it (by simp) _ st⟩
 item:=by
  intro X hP hw hK hc i pins s σ H E I hf st hg
  subst hP hw hK
  obtain ⟨hz,hlt⟩:=hg
  obtain ⟨ok,ov,st⟩:=st
  obtain ⟨ho,_,_,vs,wk,r,da⟩:=I.qX hz
  cases Aq da ho hd
  have hl:kvs.length=vs.length:=r.length
  obtain ⟨q,hq,ek,rq⟩:=y9 r (bD hlt)
  obtain ⟨qk,qv⟩:=q
  rw [hl] at st
  obtain ⟨f0,f1,f2,f3,f4,f5⟩:=hf it (by simp)
  refine wpAny_pyNext_items_item st da hq fun key h1 hk st1 ht hsz hkeep=>?_
  refine ⟨_,Z,wpAny_letOwnedTupleGo_items (s:={ s with heap:=h1 }) st1 fun h2 st2 sb=>?_⟩
  have rk:RelV (kV kvs[i].1) key:=by rw [ek];exact RC hk
  have hil:it≠s.heap.objs.size:=ee (bM st)
  have u9:∀b o,b≠it->s.heap.get? b=some o->h2.get? b=some o:=fun b o hb e=>sb.extBut b o hb (hkeep b o hb e)
  have I1:Inv X pins σ (upd H s.heap.objs.size (.tup [kV kvs[i].1,kvs[i].2])) { s with heap:=h2 }:=by
   have J:Inv X pins σ H { s with heap:=h2 }:=I.turned (t':=s.toks) u9 f0 f1 f3 f4 f5
   have hn:=I.fresh
   have J2:Inv X pins σ (upd H s.heap.objs.size (.tup [kV kvs[i].1,kvs[i].2])) { s with heap:=h2,gens:=s.gens,drawn:=s.drawn,toks:=s.toks }:=by
    refine I.step (ch:=[it]) (fun b hb=>⟨(hf b hb).2.2.2.1,(hf b hb).2.1,(hf b hb).2.2.2.2.1,(hf b hb).2.2.2.2.2⟩) (fun b o _ _ hc' e _=>u9 b o (by simpa using hc') e) (fun b o _ _ hc' e _=>⟨o.slots,u9 b o (by simpa using hc') e⟩) (fun b o _ e n=>by rw [au (ee (bM e))];exact n) (fun b o hc' e=>⟨o,u9 b o (by simpa using hc') e⟩)
     (fun b zs q=>by rw [au (aF q hn)];exact q) (fun b o zs q=>by rw [au (aF q hn)];exact q) (fun b ps q=>⟨#[],by rw [au (aF q hn),q];simp⟩) (fun m hm=>?_) (fun b ob e=>?_) I.bare
    . obtain ⟨o,es,ep,ho,r⟩:=hm
      exact ⟨o,es,ep,u9 _ o (fun q=>f1 q.symm) ho,r⟩
    . by_cases hb:b=s.heap.objs.size
      . subst hb
        rw [ah] at e;cases e
        exact ⟨by show 2<=sizeLine;decide,[key,qv], .cons rk (.cons rq .nil),_,sb.extBut _ _ hil.symm ht,Z,0,Z⟩
      . rw [au hb] at e
        refine (I.hok b ob e).stay (fun c v RE q=>?_) (fun c q=>by rw [au (aF q hn)];exact q) fun c zs q=>by rw [au (aF q hn)];exact q
        refine u9 c v (fun z=>?_) q
        rcases RE with r|r
        . rw [r] at z;rw [z,f0] at e;cases e
        . rw [z,f0] at r;cases r
   exact J2
  refine ⟨.ref s.heap.objs.size,_,I1,Z,⟨_,kvs[i],I.fresh,bD hlt,Z,Z⟩,⟨key,qv,by rw [hl];exact st2⟩,fun b hb=>?_⟩
  have eb:b=it:=by simpa using hb
  subst eb
  rw [au hil]
  exact f0
 done:=by
  intro X hP hw hK hc i pins s σ H E I hf st hg
  subst hP hw hK
  obtain ⟨hz,hle⟩:=hg
  obtain ⟨ok,ov,st⟩:=st
  obtain ⟨ho,_,_,vs,wk,r,da⟩:=I.qX hz
  cases Aq da ho hd
  have hl:kvs.length=vs.length:=r.length
  rw [hl] at st
  obtain ⟨f0,f1,f2,f3,f4,f5⟩:=hf it (by simp)
  exact wpAny_pyNext_items_end (I.ok.hd hc) st da (by rw [xx];omega) fun h' eb=>⟨Z,I.turned (t':=s.toks) (fun b o hb e=>eb b o hb e) f0 f1 f3 f4 f5⟩
 self:=fun A i s Q E ⟨ok,ov,st⟩ h=>PySem.W.kcp_self st h
section
variable {X:Cx} {tg:Expr}
inductive Za (R:It->Hp->Prop) (x:V) (H1:Hp):Prop
 | mk  (d o kvs:_) (_:x = .ref d) (_:oz H1 d o kvs) (_:R (Itv d o kvs:_) H1)
def abX (td:TE):TI:=fun σ H R=>td σ H (Za R)
inductive W8 (R:It->Hp->Prop) (x:V) (H1:Hp):Prop
 | mk  (d o kvs:_) (_:x = .ref d) (_:oz H1 d o kvs) (_:R (Iti d o kvs:_) H1)
def Zb (td:TE):TI:=fun σ H R=>td σ H (W8 R)
end
variable {J:It}
theorem ua {n:Nat} {g:TG} (Pv:Nat->St->Hp->Prop) (h0:Pv 0 σ H) (hgo:∀i σ H,i<n->Pv i σ H->J.go i H) (hst:∀σ H,Pv n σ H->J.stop n H)
  (hs:∀i x σ H H',i<n->Pv i σ H->J.yR i H x H'->g x σ H' (tb (D.lp (Pv (i+1))))) (hd:∀σ H,Pv n σ H->D.nx σ H):
  Cb g tb D σ (J) H:=by
 refine ⟨fun i m σ H=>m=n-i/\i<=n/\Pv i σ H,⟨n,by simp,gh _,h0⟩,?_⟩
 rintro i m σ H ⟨rfl,hi,p⟩
 by_cases hlt:i<n
 . exact .inr ⟨hgo i σ H hlt p,Pv (i+1),fun σ' H' p'=>⟨n-(i+1),by omega,Z,hlt,p'⟩,fun x H' y=>hs i x σ H H' hlt p y⟩
 . have e:i=n:=by omega
   subst e
   exact .inl ⟨hst σ H p,hd σ H p⟩
section
variable {prog:Program} {w:World} {K:Type} [DecidableEq K] {knd:KeyKind prog w K} {A:Around} {E:VS} {s:Shared}
theorem L_ {d:Addr} {kvs:List (K×Value)} {k:K} {v:Value} {Q:VS} (hit:s.heap.IsKeyIter it d i kvs.length ep)
  (hm:s.heap.DictAt knd d kvs ep) (hx:kvs[i]?=some (k,v)) (hQ:∀key h',knd.is k key=true->h'.IsKeyIter it d (i+1) kvs.length ep->Heap.SameBut it s.heap h'->Q key { s with heap:=h' }):
  wpAny (model prog w) A (Builtin.SmallTypes.nextOf (.ref it)) Q E s:=by
 obtain ⟨o,ho,hc,hd⟩:=id hit;obtain ⟨od,es,hod,hcd,y_,hk,hp,hn⟩:=id hm
 unfold Builtin.SmallTypes.nextOf
 refine az (yJ (name:=Str.ofString "__next__") hit.typeIs Vt (uT Vt hit.typeIs F.entry_dict_keyiterator_next ?_ (F.args_dict_keyiterator_next_1 _)))
 refine az (aV ?_);refine az (az ?_)
 first|(refine az (Vr hit.typeIs (aV ?_));refine az (uU ho hd ?_))|(refine az (OO hit.typeIs (aV ?_));refine az (uU ho hd ?_))
 have own:Builtin.Dict_items.ownsTuple "dict_keyiterator"=false:=by decide
 simp only [own,IF,qU]
 show wpAny _ _ (if (Value.ref d==Value.none)=true then _ else _) _ _ _
 rw [aB (fun z=>fH z:¬ ((Value.ref d==Value.none)=true))];refine az (aV ?_)
 have sz:es.size=kvs.length:=by have:=hp.length;simpa using this
 refine az (O5 hod y_ ?_);rw [aB (by rw [sz];simp)]
 refine az (aV ?_);refine az (Ie hod y_ ?_)
 rw [aB (by simp)];refine aV ?_
 have lt:i<kvs.length:=(dO.mp hx).1
 have lt':i<es.size:=by omega
 have kv:=hp.get? (e:=es[i]) (by simp [lt']) hx
 simp only [show ¬ ((i:Int)<0) from by omega,qU,tU,Array.getElem?_eq_getElem lt'];refine az ?_
 first|(refine az (Vr hit.typeIs (aV ?_));refine az (wpAny_isOneOf_keyiter hit.typeIs ?_))|(refine az (OO hit.typeIs (aV ?_));refine az (wpAny_isOneOf_keyiter hit.typeIs ?_))
 show wpAny _ _ (setField (.ref it) 1 (rawInt ((i:Int)+1)) >>= _) _ _ _
 refine az (Ag ho hd (by simp) ?_)
 have D6:(s.heap.update it (Obj.mapFields (·.setIfInBounds 1 (rawInt ((i:Int)+1))))).IsKeyIter it d (i+1) kvs.length ep:=⟨_,OR _ ho (Obj.isFreed_of_fields (DY hd _)),(Obj.cls_mapFields ..).trans hc,by rw [DY hd];simp [rawInt]⟩
 refine az (xE (az (wpAny_isOneOf_keyiter (s:={ s with heap:=s.heap.update it (Obj.mapFields (·.setIfInBounds 1 (rawInt ((i:Int)+1)))) }) D6.typeIs ?_)))
 exact aV (aV ⟨_,Z,aV (hQ _ _ kv.1 D6 (DW ..))⟩)
theorem PB {d:Addr} {kvs:List (K×Value)} {Q:VS} (hh:A.handled=none) (hit:s.heap.IsKeyIter it d i kvs.length ep)
  (hm:s.heap.DictAt knd d kvs ep) (hx:kvs[i]?=none) (hE:∀h' e,Heap.ExtBut it s.heap h'->(∃o,h'.get? e=some o/\o.cls = .type "StopIteration")->E (.ref e) { s with heap:=h' }):
  wpAny (model prog w) A (Builtin.SmallTypes.nextOf (.ref it)) Q E s:=by
 obtain ⟨o,ho,hc,hd⟩:=id hit;obtain ⟨od,es,hod,hcd,y_,hk,hp,hn⟩:=id hm
 unfold Builtin.SmallTypes.nextOf
 refine az (yJ (name:=Str.ofString "__next__") hit.typeIs Vt (uT Vt hit.typeIs F.entry_dict_keyiterator_next ?_ (F.args_dict_keyiterator_next_1 _)))
 refine az (aV ?_);refine az (az ?_)
 first|(refine az (Vr hit.typeIs (aV ?_));refine az (uU ho hd ?_))|(refine az (OO hit.typeIs (aV ?_));refine az (uU ho hd ?_))
 have own:Builtin.Dict_items.ownsTuple "dict_keyiterator"=false:=by decide
 simp only [own,IF,qU]
 show wpAny _ _ (if (Value.ref d==Value.none)=true then _ else _) _ _ _
 rw [aB (fun z=>fH z:¬ ((Value.ref d==Value.none)=true))];refine az (aV ?_)
 have sz:es.size=kvs.length:=by have:=hp.length;simpa using this
 refine az (O5 hod y_ ?_);rw [aB (by rw [sz];simp)]
 refine az (aV ?_);refine az (Ie hod y_ ?_)
 rw [aB (by simp)];refine aV ?_
 have ge:es.size<=i:=by rw [sz];simpa using hx
 simp only [show ¬ ((i:Int)<0) from by omega,qU,tU,Array.getElem?_eq_none ge];refine az ?_
 first|(refine az (Vr hit.typeIs (aV ?_));show wpAny _ _ (setField (.ref it) 0 .none >>= _) _ _ _)|(refine az (OO hit.typeIs (aV ?_));show wpAny _ _ (setField (.ref it) 0 .none >>= _) _ _ _)
 refine az (Ag ho hd (by simp) ?_);show wpAny _ _ (newExc (.type "StopIteration") [] >>= _) _ _ _
 refine az ?_;simp only [newExc,newTuple]
 refine az (vJ ?_ (by size_fits));refine az (m:=firstArgMember _ _) (wpAny_of_eq (a:=Value.none) (by first|rfl|(simp only [firstArgMember];rfl)) ?_)
 refine vJ ?_ (by size_fits);simp only [raiseNew]
 refine az (wpAny_handled ?_);rw [show A.in1.handled=none from hh]
 exact az (aV (wpAny_throw (hE _ _ (((DW ..).extBut.push _).push _) ⟨_,eL _ rfl,Z⟩)))
theorem Ma {d:Addr} {kvs:List (K×Value)} {k:K} {v:Value} {Q:VS} (hit:s.heap.IsValIter it d i kvs.length ep)
  (hm:s.heap.DictAt knd d kvs ep) (hx:kvs[i]?=some (k,v)) (hQ:∀h',h'.IsValIter it d (i+1) kvs.length ep->Heap.SameBut it s.heap h'->Q v { s with heap:=h' }):
  wpAny (model prog w) A (Builtin.SmallTypes.nextOf (.ref it)) Q E s:=by
 obtain ⟨o,ho,hc,hd⟩:=id hit;obtain ⟨od,es,hod,hcd,y_,hk,hp,hn⟩:=id hm
 unfold Builtin.SmallTypes.nextOf
 refine az (yJ (name:=Str.ofString "__next__") hit.typeIs Vq (uT Vq hit.typeIs F.entry_dict_valueiterator_next ?_ (F.args_dict_valueiterator_next_1 _)))
 refine az (aV ?_);refine az (az ?_)
 first|(refine az (Vs hit.typeIs (aV ?_));refine az (uU ho hd ?_))|(refine az (OP hit.typeIs (aV ?_));refine az (uU ho hd ?_))
 have own:Builtin.Dict_items.ownsTuple "dict_valueiterator"=false:=by decide
 simp only [own,IF,qU]
 show wpAny _ _ (if (Value.ref d==Value.none)=true then _ else _) _ _ _
 rw [aB (fun z=>fH z:¬ ((Value.ref d==Value.none)=true))];refine az (aV ?_)
 have sz:es.size=kvs.length:=by have:=hp.length;simpa using this
 refine az (O5 hod y_ ?_);rw [aB (by rw [sz];simp)]
 refine az (aV ?_);refine az (Ie hod y_ ?_)
 rw [aB (by simp)];refine aV ?_
 have lt:i<kvs.length:=(dO.mp hx).1
 have lt':i<es.size:=by omega
 have kv:=hp.get? (e:=es[i]) (by simp [lt']) hx
 simp only [show ¬ ((i:Int)<0) from by omega,qU,tU,Array.getElem?_eq_getElem lt'];refine az ?_
 first|(refine az (Vs hit.typeIs (aV ?_));refine az (OS hit.typeIs ?_))|(refine az (OP hit.typeIs (aV ?_));refine az (OS hit.typeIs ?_))
 show wpAny _ _ (setField (.ref it) 1 (rawInt ((i:Int)+1)) >>= _) _ _ _
 refine az (Ag ho hd (by simp) ?_)
 have D6:(s.heap.update it (Obj.mapFields (·.setIfInBounds 1 (rawInt ((i:Int)+1))))).IsValIter it d (i+1) kvs.length ep:=⟨_,OR _ ho (Obj.isFreed_of_fields (DY hd _)),(Obj.cls_mapFields ..).trans hc,by rw [DY hd];simp [rawInt]⟩
 refine az (xE (az (OS (s:={ s with heap:=s.heap.update it (Obj.mapFields (·.setIfInBounds 1 (rawInt ((i:Int)+1)))) }) D6.typeIs ?_)))
 refine az (OS (s:={ s with heap:=s.heap.update it (Obj.mapFields (·.setIfInBounds 1 (rawInt ((i:Int)+1)))) }) D6.typeIs ?_)
 exact aV (aV ⟨_,Z,aV (kv.2▸hQ _ D6 (DW ..))⟩)
theorem PD {d:Addr} {kvs:List (K×Value)} {Q:VS} (hh:A.handled=none) (hit:s.heap.IsValIter it d i kvs.length ep)
  (hm:s.heap.DictAt knd d kvs ep) (hx:kvs[i]?=none) (hE:∀h' e,Heap.ExtBut it s.heap h'->(∃o,h'.get? e=some o/\o.cls = .type "StopIteration")->E (.ref e) { s with heap:=h' }):
  wpAny (model prog w) A (Builtin.SmallTypes.nextOf (.ref it)) Q E s:=by
 obtain ⟨o,ho,hc,hd⟩:=id hit;obtain ⟨od,es,hod,hcd,y_,hk,hp,hn⟩:=id hm
 unfold Builtin.SmallTypes.nextOf
 refine az (yJ (name:=Str.ofString "__next__") hit.typeIs Vq (uT Vq hit.typeIs F.entry_dict_valueiterator_next ?_ (F.args_dict_valueiterator_next_1 _)))
 refine az (aV ?_);refine az (az ?_)
 first|(refine az (Vs hit.typeIs (aV ?_));refine az (uU ho hd ?_))|(refine az (OP hit.typeIs (aV ?_));refine az (uU ho hd ?_))
 have own:Builtin.Dict_items.ownsTuple "dict_valueiterator"=false:=by decide
 simp only [own,IF,qU]
 show wpAny _ _ (if (Value.ref d==Value.none)=true then _ else _) _ _ _
 rw [aB (fun z=>fH z:¬ ((Value.ref d==Value.none)=true))];refine az (aV ?_)
 have sz:es.size=kvs.length:=by have:=hp.length;simpa using this
 refine az (O5 hod y_ ?_);rw [aB (by rw [sz];simp)]
 refine az (aV ?_);refine az (Ie hod y_ ?_)
 rw [aB (by simp)];refine aV ?_
 have ge:es.size<=i:=by rw [sz];simpa using hx
 simp only [show ¬ ((i:Int)<0) from by omega,qU,tU,Array.getElem?_eq_none ge];refine az ?_
 first|(refine az (Vs hit.typeIs (aV ?_));show wpAny _ _ (setField (.ref it) 0 .none >>= _) _ _ _)|(refine az (OP hit.typeIs (aV ?_));show wpAny _ _ (setField (.ref it) 0 .none >>= _) _ _ _)
 refine az (Ag ho hd (by simp) ?_);show wpAny _ _ (newExc (.type "StopIteration") [] >>= _) _ _ _
 refine az ?_;simp only [newExc,newTuple]
 refine az (vJ ?_ (by size_fits));refine az (m:=firstArgMember _ _) (wpAny_of_eq (a:=Value.none) (by first|rfl|(simp only [firstArgMember];rfl)) ?_)
 refine vJ ?_ (by size_fits);simp only [raiseNew]
 refine az (wpAny_handled ?_);rw [show A.in1.handled=none from hh]
 exact az (aV (wpAny_throw (hE _ _ (((DW ..).extBut.push _).push _) ⟨_,eL _ rfl,Z⟩)))
end
structure zb (P:Program) (w:World) (K:Fg) (S:Hp->Prop) (xs:List V) (it l:Addr) (tn:Nat->Heap->Prop) (src:Heap->Prop):Prop where
 obj:∀i h,tn i h->∃o,h.get? it=some o/\∀v,o.data ≠ .cell v
 keep:∀i h h',tn i h->(∀o,h.get? it=some o->h'.get? it=some o)->tn i h'
 u_:∀h h',src h->(∀o,h.get? l=some o->h'.get? l=some o)->src h'
 Fz:∀(X:Cx),X.prog=P->X.w=w->X.K=K->∀(pins:AO) (σ:St) (H:Hp) (s:Shared),Inv X pins σ H s->S H->src s.heap
 item:∀(A:Around) (i:Nat) (x:V) (s:Shared) (Q:VS) (E:VS),tn i s.heap->src s.heap->xs[i]?=some x->(∀u h',RelV x u->tn (i+1) h'->Heap.SameBut it s.heap h'->Q u { s with heap:=h' })->wpAny (model P w) A (Builtin.SmallTypes.nextOf (.ref it)) Q E s
 done:∀(A:Around) (i:Nat) (s:Shared) (Q:VS) (E:VS),A.handled=none->tn i s.heap->src s.heap->xs.length<=i->(∀h' e,Heap.ExtBut it s.heap h'->(∃o,h'.get? e=some o/\o.cls = .type "StopIteration")->E (.ref e) { s with heap:=h' })->wpAny (model P w) A (Builtin.SmallTypes.nextOf (.ref it)) Q E s
theorem Ul {w:World} {l:Addr}:zb P w K (fun H=>aK K H l xs) xs it l (fun i h=>h.IsListIter it l i) (fun h=>∃its:List Value,Vals xs its/\h.IsList l its.toArray) where
 obj:=fun i h ⟨o,e,c,d⟩=>⟨o,e,fun v z=>by rw [d] at z;cases z⟩
 keep:=fun i h h' st k=>st.at k
 u_:=fun h h' ⟨its,r,hl⟩ k=>⟨its,r,hl.at k⟩
 Fz:=fun X hP hw hK pins σ H s I h=>by
  subst hP hw hK
  obtain ⟨its,rv,p,_⟩:=I.list h
  exact ⟨its,rv,p.isList⟩
 item:=fun A i x s Q E st ⟨its,r,hl⟩ hx hQ=>by
  obtain ⟨u,hu,ru⟩:=r.get hx
  exact wpAny_nextOf_list_item st hl (by simpa using hu) fun h' st' sb=>hQ u h' ru st' sb
 done:=fun A i s Q E hh st ⟨its,r,hl⟩ hx hE=>wpAny_nextOf_list_end hh st hl (by have:=r.length;simp;omega) hE
theorem Um {w:World} {d:Addr} {o:Obj} (hd:o.data = .dict es ep):
  zb P w K (fun H=>oz H d o kvs) (kvs.map fun p=>kV p.1) it d (fun i h=>h.IsKeyIter it d i kvs.length ep) (fun h=>∃vs,KV kvs vs/\h.DictAt (cY P w) d vs ep) where
 obj:=fun i h ⟨o,e,c,d⟩=>⟨o,e,fun v z=>by rw [d] at z;cases z⟩
 keep:=fun i h h' st k=>st.at k
 u_:=fun h h' ⟨vs,r,hl⟩ k=>⟨vs,r,hl.at' k⟩
 Fz:=fun X hP hw hK pins σ H s I h=>by
  subst hP hw hK
  obtain ⟨ho,_,_,vs,wk,r,da⟩:=I.qX h
  cases Aq da ho hd
  exact ⟨vs,r,da⟩
 item:=fun A i x s Q E st ⟨vs,r,da⟩ hx hQ=>by
  rw [cA] at hx
  obtain ⟨p,hp,rfl⟩:=nH.mp hx
  obtain ⟨q,hq,ek,rq⟩:=y9 r hp
  obtain ⟨qk,qv⟩:=q
  have hl:kvs.length=vs.length:=r.length
  rw [hl] at st
  exact L_ st da hq fun key h' hk st' sb=>hQ key h' (by rw [ek];exact RC hk) (by rw [hl];exact st') sb
 done:=fun A i s Q E hh st ⟨vs,r,da⟩ hx hE=>by
  have hl:kvs.length=vs.length:=r.length
  rw [aH] at hx
  rw [hl] at st
  exact PB hh st da (by rw [xx];omega) hE
theorem Uo {w:World} {d:Addr} {o:Obj} (hd:o.data = .dict es ep):
  zb P w K (fun H=>oz H d o kvs) (kvs.map fun p=>p.2) it d (fun i h=>h.IsValIter it d i kvs.length ep) (fun h=>∃vs,KV kvs vs/\h.DictAt (cY P w) d vs ep) where
 obj:=fun i h ⟨o,e,c,d⟩=>⟨o,e,fun v z=>by rw [d] at z;cases z⟩
 keep:=fun i h h' st k=>st.at k
 u_:=fun h h' ⟨vs,r,hl⟩ k=>⟨vs,r,hl.at' k⟩
 Fz:=fun X hP hw hK pins σ H s I h=>by
  subst hP hw hK
  obtain ⟨ho,_,_,vs,wk,r,da⟩:=I.qX h
  cases Aq da ho hd
  exact ⟨vs,r,da⟩
 item:=fun A i x s Q E st ⟨vs,r,da⟩ hx hQ=>by
  rw [cA] at hx
  obtain ⟨p,hp,rfl⟩:=nH.mp hx
  obtain ⟨q,hq,ek,rq⟩:=y9 r hp
  obtain ⟨qk,qv⟩:=q
  have hl:kvs.length=vs.length:=r.length
  rw [hl] at st
  exact Ma st da hq fun h' st' sb=>hQ qv h' rq (by rw [hl];exact st') sb
 done:=fun A i s Q E hh st ⟨vs,r,da⟩ hx hE=>by
  have hl:kvs.length=vs.length:=r.length
  rw [aH] at hx
  rw [hl] at st
  exact PD hh st da (by rw [xx];omega) hE
variable {y:V}
section
variable {P:Program} {w:World} {A:Around} {E:VS} {s:Shared} {K:Fg} {S1 S2:Hp->Prop} {xs ys:List V} {z TI TO i1 i2 l1 l2:Addr} {t1 t2:Nat->Heap->Prop} {c1 c2:Heap->Prop} {i:Nat}
theorem RG {x:V} {a b:Value} {Q:VS} (D:ZipApart z TI TO i1 i2 l1 l2) (C1:zb P w K S1 xs i1 l1 t1 c1) (C2:zb P w K S2 ys i2 l2 t2 c2)
  (hz:IsZip s.heap z TI TO .none) (hTI:IsPair s.heap TI (.ref i1) (.ref i2)) (hTO:IsPair s.heap TO a b) (h1:t1 i s.heap) (h2:t2 i s.heap) (hc1:c1 s.heap) (hc2:c2 s.heap) (hx:xs[i]?=some x) (hy:ys[i]?=some y)
  (hQ:∀u v h',RelV x u->RelV y v->IsZip h' z TI TO (rawInt s.heap.objs.size)->IsPair h' TO u v->t1 (i+1) h'->t2 (i+1) h'->IsPair h' s.heap.objs.size u v->h'.objs.size=s.heap.objs.size+1->
    (∀c o,c≠z->c≠TO->c≠i1->c≠i2->s.heap.get? c=some o->h'.get? c=some o)->Q (.ref s.heap.objs.size) { s with heap:=h' }):
  wpAny (model P w) A (Builtin.«zip.__next__» ⟨[.ref z],[]⟩) (fun fin s'=>∃v,fin = .done (.ret v)/\Q v s') E s:=by
 show wpAny _ _ (field (.ref z) 2 >>= _) _ _ _
 refine az (m5 hz rfl (x:= .bool false) rfl ?_);show wpAny _ _ (field (.ref z) 3 >>= _) _ _ _
 refine az (m5 hz rfl (x:= .ref TI) rfl ?_);refine az (uV hTI rfl ?_)
 show wpAny _ _ (Builtin.SmallTypes.ownedTupleIsFree (.ref z) >>= _) _ _ _
 refine az ?_;unfold Builtin.SmallTypes.ownedTupleIsFree
 refine az (m5 hz rfl (x:= .none) rfl (aV ?_));simp only [if_true]
 refine az (wpAny_rule ?_);refine az (m5 hz rfl (x:= .ref TO) rfl ?_)
 refine az (DZ hz (by simp) fun hA FD sA=>?_)
 replace FD:IsZip hA z TI TO .ellipsis:=FD
 refine az ?_;simp only [List.zipIdx_cons,List.zipIdx_nil,Ic,xC]
 refine az (az (wpAny_onRaise ?_));show wpAny _ _ (Builtin.SmallTypes.nextOf (.ref i1) >>= _) _ _ _
 refine az (C1.item _ i x { s with heap:=hA } _ _ (C1.keep _ _ _ h1 fun o e=>sA.extBut _ _ D.i1z e) (C1.u_ _ _ hc1 fun o e=>sA.extBut _ _ D.l1z e) hx fun u hB ru h1B sB=>aV ?_)
 have RH:IsPair hB TO a b:=sB.extBut _ _ D.TOi1 (sA.extBut _ _ D.TOz hTO)
 refine az (uV RH rfl ?_);refine az (wpAny_updateSeq_pair RH fun hC VR sC=>?_)
 replace VR:IsPair hC TO u b:=VR
 refine az (wpAny_letGo (aV ?_));refine az (az (wpAny_onRaise ?_))
 show wpAny _ _ (Builtin.SmallTypes.nextOf (.ref i2) >>= _) _ _ _
 refine az (C2.item _ i y { s with heap:=hC } _ _ (C2.keep _ _ _ h2 fun o e=>sC.extBut _ _ D.TOi2.symm (sB.extBut _ _ D.i12.symm (sA.extBut _ _ D.i2z e))) (C2.u_ _ _ hc2 fun o e=>sC.extBut _ _ D.l2TO (sB.extBut _ _ D.l2i1 (sA.extBut _ _ D.l2z e))) hy fun v hD rv h2D sD=>aV ?_)
 have TOD:IsPair hD TO u b:=sD.extBut _ _ D.TOi2 VR
 refine az (uV TOD rfl ?_);refine az (wpAny_updateSeq_pair TOD fun hE VT sE=>?_)
 replace VT:IsPair hE TO u v:=VT
 refine az (wpAny_letGo (aV (aV ?_)));refine az (uV VT rfl ?_)
 refine az (wpAny_newTuple ?_)
 have sz:hE.objs.size=s.heap.objs.size:=by rw [sE.1,sD.1,sC.1,sB.1,sA.1]
 have zE:IsZip hE z TI TO .ellipsis:=sE.extBut _ _ D.TOz.symm (sD.extBut _ _ D.i2z.symm (sC.extBut _ _ D.TOz.symm (sB.extBut _ _ D.i1z.symm FD)))
 have kE:∀c o,c≠z->c≠TO->c≠i1->c≠i2->s.heap.get? c=some o->hE.get? c=some o:=fun c o c1 c2 c3 c4 e=>sE.extBut _ _ c2 (sD.extBut _ _ c4 (sC.extBut _ _ c2 (sB.extBut _ _ c3 (sA.extBut _ _ c1 e))))
 have t1E:t1 (i+1) hE:=C1.keep _ _ _ h1B fun o e=>sE.extBut _ _ D.TOi1.symm (sD.extBut _ _ D.i12 (sC.extBut _ _ D.TOi1.symm e))
 have t2E:t2 (i+1) hE:=C2.keep _ _ _ h2D fun o e=>sE.extBut _ _ D.TOi2.symm e
 have zlt:z<hE.objs.size:=bM zE
 show wpAny _ _ (Builtin.SmallTypes.ownedTupleHandOut (.ref z) (.ref hE.objs.size) >>= _) _ _ _
 refine az ?_;unfold Builtin.SmallTypes.ownedTupleHandOut
 have zF:IsZip (hE.push { cls:= .type "tuple",data:= .seq #[u,v] }) z TI TO .ellipsis:=b7 _ zE
 refine az (DZ zF (by simp) fun hG zG sG=>?_)
 replace zG:IsZip hG z TI TO (rawInt hE.objs.size):=zG
 refine DZ zG (by simp) fun hI zI sI=>?_
 replace zI:IsZip hI z TI TO (rawInt hE.objs.size):=zI
 have up:∀c o,c≠z->hE.get? c=some o->hI.get? c=some o:=fun c o c1 e=>sI.extBut _ _ c1 (sG.extBut _ _ c1 (b7 _ e))
 have TI':IsPair hI hE.objs.size u v:=sI.extBut _ _ (xF zlt) (sG.extBut _ _ (xF zlt) (eL _ rfl))
 have szI:hI.objs.size=hE.objs.size+1:=by rw [sI.1,sG.1,j0]
 rw [sz] at zI TI' szI
 refine aV ⟨_,Z,?_⟩
 show Q (.ref hE.objs.size) _
 rw [sz]
 exact hQ u v hI ru rv zI (up _ _ D.TOz VT) (C1.keep _ _ _ t1E fun o e=>up _ o D.i1z e) (C2.keep _ _ _ t2E fun o e=>up _ o D.i2z e) TI' szI fun c o c1 c2 c3 c4 e=>up c o c1 (kE c o c1 c2 c3 c4 e)
theorem Up {a b:Value} {Q:Fin->Shared->Prop} (hh:A.handled=none) (D:ZipApart z TI TO i1 i2 l1 l2) (C1:zb P w K S1 xs i1 l1 t1 c1) (C2:zb P w K S2 ys i2 l2 t2 c2)
  (hz:IsZip s.heap z TI TO .none) (hTI:IsPair s.heap TI (.ref i1) (.ref i2)) (hTO:IsPair s.heap TO a b) (h1:t1 i s.heap) (h2:t2 i s.heap) (hc1:c1 s.heap) (hc2:c2 s.heap) (hend:xs.length<=i\/ys.length<=i)
  (hE:∀h' e,(∀c o,c≠z->c≠TO->c≠i1->c≠i2->s.heap.get? c=some o->h'.get? c=some o)->(∃o,h'.get? e=some o/\o.cls = .type "StopIteration")->E (.ref e) { s with heap:=h' }):
  wpAny (model P w) A (Builtin.«zip.__next__» ⟨[.ref z],[]⟩) Q E s:=by
 show wpAny _ _ (field (.ref z) 2 >>= _) _ _ _
 refine az (m5 hz rfl (x:= .bool false) rfl ?_);show wpAny _ _ (field (.ref z) 3 >>= _) _ _ _
 refine az (m5 hz rfl (x:= .ref TI) rfl ?_);refine az (uV hTI rfl ?_)
 show wpAny _ _ (Builtin.SmallTypes.ownedTupleIsFree (.ref z) >>= _) _ _ _
 refine az ?_;unfold Builtin.SmallTypes.ownedTupleIsFree
 refine az (m5 hz rfl (x:= .none) rfl (aV ?_));simp only [if_true]
 refine az (wpAny_rule ?_);refine az (m5 hz rfl (x:= .ref TO) rfl ?_)
 refine az (DZ hz (by simp) fun hA FD sA=>?_)
 replace FD:IsZip hA z TI TO .ellipsis:=FD
 refine az ?_;simp only [List.zipIdx_cons,List.zipIdx_nil,Ic,xC]
 refine az (az (wpAny_onRaise ?_));show wpAny _ _ (Builtin.SmallTypes.nextOf (.ref i1) >>= _) _ _ _
 have k1:=C1.keep _ _ _ h1 fun o e=>sA.extBut _ _ D.i1z e
 have k2:=C1.u_ _ _ hc1 fun o e=>sA.extBut _ _ D.l1z e
 by_cases hx:xs.length<=i
 . refine az (C1.done _ i { s with heap:=hA } _ _ hh k1 k2 hx fun hB e sB he=>?_)
   obtain ⟨oe,CB,hce⟩:=he
   have zB:IsZip hB z TI TO .ellipsis:=sB _ _ D.i1z.symm FD
   have ez:e≠z:=fun x=>by subst x;rw [zB] at CB;cases CB;simp at hce
   exact DZ zB (by simp) fun hC _ sC=>hE hC e (fun c o c1 _ c3 _ x=>sC.extBut _ _ c1 (sB _ _ c3 (sA.extBut _ _ c1 x))) ⟨oe,sC.extBut _ _ ez CB,hce⟩
 . have hy:ys.length<=i:=hend.resolve_left hx
   refine az (C1.item _ i xs[i] { s with heap:=hA } _ _ k1 k2 (bD (by omega)) fun u hB ru h1B sB=>aV ?_)
   have RH:IsPair hB TO a b:=sB.extBut _ _ D.TOi1 (sA.extBut _ _ D.TOz hTO)
   refine az (uV RH rfl ?_);refine az (wpAny_updateSeq_pair RH fun hC VR sC=>?_)
   refine az (wpAny_letGo (aV ?_));refine az (az (wpAny_onRaise ?_))
   show wpAny _ _ (Builtin.SmallTypes.nextOf (.ref i2) >>= _) _ _ _
   refine az (C2.done _ i { s with heap:=hC } _ _ hh (C2.keep _ _ _ h2 fun o e=>sC.extBut _ _ D.TOi2.symm (sB.extBut _ _ D.i12.symm (sA.extBut _ _ D.i2z e))) (C2.u_ _ _ hc2 fun o e=>sC.extBut _ _ D.l2TO (sB.extBut _ _ D.l2i1 (sA.extBut _ _ D.l2z e))) hy fun hD e sD he=>?_)
   obtain ⟨oe,CB,hce⟩:=he
   have zD:IsZip hD z TI TO .ellipsis:=sD _ _ D.i2z.symm (sC.extBut _ _ D.TOz.symm (sB.extBut _ _ D.i1z.symm FD))
   have ez:e≠z:=fun x=>by subst x;rw [zD] at CB;cases CB;simp at hce
   exact DZ zD (by simp) fun hF _ sF=>hE hF e (fun c o c1 c2 c3 c4 x=>sF.extBut _ _ c1 (sD _ _ c4 (sC.extBut _ _ c2 (sB.extBut _ _ c3 (sA.extBut _ _ c1 x))))) ⟨oe,sF.extBut _ _ ez CB,hce⟩
end
def Zc (S1 S2:Hp->Prop) (xs ys:List V):It:=
 ⟨fun i H=>S1 H/\S2 H/\i<xs.length/\i<ys.length,fun i H v H'=>∃p x y,H p=none/\v = .ref p/\H'=upd H p (.tup [x,y])/\xs[i]?=some x/\ys[i]?=some y,fun i H=>S1 H/\S2 H/\(xs.length<=i\/ys.length<=i)⟩
variable {z:Addr}
theorem RI {w:World} {kk:Nat} {S1 S2:Hp->Prop} {TI TO i1 i2 l1 l2:Addr} {t1 t2:Nat->Heap->Prop} {c1 c2:Heap->Prop} (D:ZipApart z TI TO i1 i2 l1 l2)
  (C1:zb P w K S1 xs i1 l1 t1 c1) (C2:zb P w K S2 ys i2 l2 t2 c2):
  Turn P w K (.Tuple elts kk pos) (Zc S1 S2 xs ys) [z,TI,TO,i1,i2] z (fun i h=>IsZip h z TI TO .none/\IsPair h TI (.ref i1) (.ref i2)/\(∃a b,IsPair h TO a b)/\t1 i h/\t2 i h) where
 mem:=by simp
 obj:=fun i h st b hb=>by
  obtain ⟨hz,hTI,⟨a,b',hTO⟩,h1,h2⟩:=st
  have hb':b=z\/b=TI\/b=TO\/b=i1\/b=i2:=by simpa using hb
  rcases hb' with rfl|rfl|rfl|rfl|rfl
  . exact ⟨_,hz,fun v q=>by cases q⟩
  . exact ⟨_,hTI,fun v q=>by cases q⟩
  . exact ⟨_,hTO,fun v q=>by cases q⟩
  . exact C1.obj i h h1
  . exact C2.obj i h h2
 keep:=fun i h h' st k=>by
  obtain ⟨hz,hTI,⟨a,b',hTO⟩,h1,h2⟩:=st
  exact ⟨k z (by simp) _ hz,k TI (by simp) _ hTI,⟨a,b',k TO (by simp) _ hTO⟩,C1.keep _ _ _ h1 fun o e=>k i1 (by simp) o e,C2.keep _ _ _ h2 fun o e=>k i2 (by simp) o e⟩
 item:=by
  intro X hP hw hK hc i pins s σ H E I hf st hg
  subst hP hw hK
  obtain ⟨hz,hTI,⟨a,b,hTO⟩,h1,h2⟩:=st
  obtain ⟨g1,g2,lx,ly⟩:=hg
  have hT:s.TypeIs (.ref z) "zip":=⟨_,hz,Z⟩
  unfold pyNext
  refine az (wpAny_attempt (yJ (name:=Str.ofString "__next__") hT Ig (uT Ig hT F.entry_zip_next
   (RG D C1 C2 hz hTI hTO h1 h2 (C1.Fz X rfl rfl rfl pins σ H s I g1) (C2.Fz X rfl rfl rfl pins σ H s I g2) (bD lx) (bD ly) fun u u2 h' ru ru2 a1 a2 a3 a4 a5 a6 hk=>aV ?_) (F.args_zip_next_1 _))))
  refine ⟨_,Z,wpAny_letOwnedTupleGo_zip (s:={ s with heap:=h' }) a1 fun h'' b1 hs=>?_⟩
  have hTz:s.heap.objs.size≠z:=xF (bM hz)
  have u9:∀c o,c≠z->c≠TO->c≠i1->c≠i2->s.heap.get? c=some o->h''.get? c=some o:=fun c o c1 c2 c3 c4 e=>hs.extBut _ _ c1 (hk c o c1 c2 c3 c4 e)
  have hn:=I.fresh
  have nf:∀b u,H b=some u->b≠z/\b≠TO/\b≠i1/\b≠i2:=fun b u e=>by
   have g:∀c∈[z,TI,TO,i1,i2],b≠c:=fun c hc q=>by
    have:=(hf c hc).1
    rw [<-q,e] at this
    cases this
   exact ⟨g z (by simp),g TO (by simp),g i1 (by simp),g i2 (by simp)⟩
  have wg:∀c,c∉[z,TI,TO,i1,i2]->c≠z/\c≠TO/\c≠i1/\c≠i2:=fun c hc=>⟨fun q=>hc (by simp [q]),fun q=>hc (by simp [q]),fun q=>hc (by simp [q]),fun q=>hc (by simp [q])⟩
  have aft:IsPair h'' s.heap.objs.size u u2:=hs.extBut _ _ hTz a5
  have hok:g_ X.prog X.w (upd H s.heap.objs.size (.tup [xs[i],ys[i]])) h'':=fun b ob e=>by
   by_cases hb:b=s.heap.objs.size
   . subst hb
     rw [ah] at e
     cases e
     exact ⟨by show 2<=sizeLine;decide,[u,u2], .cons ru (.cons ru2 .nil),_,aft,Z,0,Z⟩
   . rw [au hb] at e
     refine (I.hok b ob e).stay (fun c v RE q=>?_) (fun c q=>by rw [au (aF q hn)];exact q) fun c zs q=>by rw [au (aF q hn)];exact q
     rcases RE with r|r
     . obtain ⟨n1,n2,n3,n4⟩:=nf b ob e
       rw [r]
       rw [r] at q
       exact u9 b v n1 n2 n3 n4 q
     . obtain ⟨n1,n2,n3,n4⟩:=nf c _ r
       exact u9 c v n1 n2 n3 n4 q
  have I2:Inv X pins σ (upd H s.heap.objs.size (.tup [xs[i],ys[i]])) { s with heap:=h'',gens:=s.gens,drawn:=s.drawn,toks:=s.toks }:=by
   refine I.step (ch:=[z,TI,TO,i1,i2]) (fun b hb=>⟨(hf b hb).2.2.2.1,(hf b hb).2.1,(hf b hb).2.2.2.2.1,(hf b hb).2.2.2.2.2⟩) (fun b o _ _ hc' e _=>?_) (fun b o _ _ hc' e _=>?_) (fun b o _ e n=>?_) (fun b o hc' e=>?_)
    (fun b zs q=>by rw [au (aF q hn)];exact q) (fun b o zs q=>by rw [au (aF q hn)];exact q) (fun b ps q=>⟨#[],by rw [au (aF q hn),q];simp⟩) (fun m hm=>?_) hok I.bare
   . obtain ⟨n1,n2,n3,n4⟩:=wg b hc'
     exact u9 b o n1 n2 n3 n4 e
   . obtain ⟨n1,n2,n3,n4⟩:=wg b hc'
     exact ⟨o.slots,u9 b o n1 n2 n3 n4 e⟩
   . rw [au (ee (bM e))]
     exact n
   . obtain ⟨n1,n2,n3,n4⟩:=wg b hc'
     exact ⟨o,u9 b o n1 n2 n3 n4 e⟩
   . obtain ⟨o,es,ep,ho,r⟩:=hm
     have nl:∀c∈[z,TI,TO,i1,i2],X.env.locals≠c:=fun c hc' q=>(hf c hc').2.1 q.symm
     exact ⟨o,es,ep,u9 _ o (nl z (by simp)) (nl TO (by simp)) (nl i1 (by simp)) (nl i2 (by simp)) ho,r⟩
  refine ⟨.ref s.heap.objs.size,_,I2,Z,⟨s.heap.objs.size,xs[i],ys[i],hn,Z,Z,bD lx,bD ly⟩,⟨b1,?_,⟨u,u2,?_⟩,?_,?_⟩,fun b hb=>?_⟩
  . exact u9 _ _ D.TIz D.TITO D.TIi1 D.TIi2 hTI
  . exact hs.extBut _ _ D.TOz a2
  . exact C1.keep _ _ _ a3 fun o e=>hs.extBut _ _ D.i1z e
  . exact C2.keep _ _ _ a4 fun o e=>hs.extBut _ _ D.i2z e
  . have hlt:b≠s.heap.objs.size:=by
     have hb':b=z\/b=TI\/b=TO\/b=i1\/b=i2:=by simpa using hb
     obtain ⟨_,e1,_⟩:=C1.obj _ _ h1
     obtain ⟨_,e2,_⟩:=C2.obj _ _ h2
     rcases hb' with rfl|rfl|rfl|rfl|rfl
     . exact ee (bM hz)
     . exact ee (bM hTI)
     . exact ee (bM hTO)
     . exact ee (bM e1)
     . exact ee (bM e2)
    rw [au hlt]
    exact (hf b hb).1
 done:=by
  intro X hP hw hK hc i pins s σ H E I hf st hg
  subst hP hw hK
  obtain ⟨hz,hTI,⟨a,b,hTO⟩,h1,h2⟩:=st
  obtain ⟨g1,g2,hend⟩:=hg
  have hT:s.TypeIs (.ref z) "zip":=⟨_,hz,Z⟩
  unfold pyNext
  refine az (wpAny_attempt (yJ (name:=Str.ofString "__next__") hT Ig (uT Ig hT F.entry_zip_next
   (Up (I.ok.hd hc) D C1 C2 hz hTI hTO h1 h2 (C1.Fz X rfl rfl rfl pins σ H s I g1) (C2.Fz X rfl rfl rfl pins σ H s I g2) hend fun h' e hk he=>?_) (F.args_zip_next_1 _))))
  obtain ⟨oe,CB,hce⟩:=he
  refine az (wpAny_isInstance (T:="StopIteration") (b:=true) ⟨oe,CB,hce⟩ isSubtype_stop (aV ⟨Z,?_⟩))
  have wg:∀c,c∉[z,TI,TO,i1,i2]->c≠z/\c≠TO/\c≠i1/\c≠i2:=fun c hc=>⟨fun q=>hc (by simp [q]),fun q=>hc (by simp [q]),fun q=>hc (by simp [q]),fun q=>hc (by simp [q])⟩
  have nf:∀b u,H b=some u->b≠z/\b≠TO/\b≠i1/\b≠i2:=fun b u e=>by
   have g:∀c∈[z,TI,TO,i1,i2],b≠c:=fun c hc q=>by
    have:=(hf c hc).1
    rw [<-q,e] at this
    cases this
   exact ⟨g z (by simp),g TO (by simp),g i1 (by simp),g i2 (by simp)⟩
  have I2:Inv X pins σ H { s with heap:=h',gens:=s.gens,drawn:=s.drawn,toks:=s.toks }:=by
   refine I.step (ch:=[z,TI,TO,i1,i2]) (fun b hb=>⟨(hf b hb).2.2.2.1,(hf b hb).2.1,(hf b hb).2.2.2.2.1,(hf b hb).2.2.2.2.2⟩) (fun b o _ _ hc' e _=>?_) (fun b o _ _ hc' e _=>?_) (fun b o _ e n=>n) (fun b o hc' e=>?_)
    (fun b zs q=>q) (fun b o zs q=>q) (fun b ps q=>⟨#[],by rw [q];simp⟩) (fun m hm=>?_) (fun b ob e=>?_) I.bare
   . obtain ⟨n1,n2,n3,n4⟩:=wg b hc'
     exact hk b o n1 n2 n3 n4 e
   . obtain ⟨n1,n2,n3,n4⟩:=wg b hc'
     exact ⟨o.slots,hk b o n1 n2 n3 n4 e⟩
   . obtain ⟨n1,n2,n3,n4⟩:=wg b hc'
     exact ⟨o,hk b o n1 n2 n3 n4 e⟩
   . obtain ⟨o,es,ep,ho,r⟩:=hm
     have nl:∀c∈[z,TI,TO,i1,i2],X.env.locals≠c:=fun c hc' q=>(hf c hc').2.1 q.symm
     exact ⟨o,es,ep,hk _ o (nl z (by simp)) (nl TO (by simp)) (nl i1 (by simp)) (nl i2 (by simp)) ho,r⟩
   . refine (I.hok b ob e).stay (fun c v RE q=>?_) (fun c q=>q) fun c zs q=>q
     rcases RE with r|r
     . obtain ⟨n1,n2,n3,n4⟩:=nf b ob e
       rw [r]
       rw [r] at q
       exact hk b v n1 n2 n3 n4 q
     . obtain ⟨n1,n2,n3,n4⟩:=nf c _ r
       exact hk c v n1 n2 n3 n4 q
  exact I2
 self:=fun _ _ _ _ _ st h=>wpAny_pyIter_zip st.1 h
def Js (P:Program) (w:World) (u:Value) (o:Obj) (pre:Heap->Prop):Prop:=∀(A:Around) (E:VS) (s:Shared) (Q:VS),pre s.heap->Q (.ref s.heap.objs.size) { s with heap:=s.heap.push o }->wpAny (model P w) A (pyIter u) Q E s
theorem PF {w:World} {p1 p2:Heap->Prop} (s1:Js P w u1 o1 p1) (s2:Js P w u2 o2 p2):
  MeetsIn P w (Builtin.«zip.__new__» ⟨[.type "zip",u1,u2],[]⟩) (fun _ R s=>p1 s.heap/\p2 (s.heap.push o1)/\
   R (.ok (.ret (.ref ((((s.heap.push o1).push o2).push { cls:= .type "tuple",data:= .seq #[.ref s.heap.objs.size, .ref (s.heap.push o1).objs.size] }).push { cls:= .type "tuple",data:= .seq #[.none, .none] }).objs.size)))
     { s with heap:=((((s.heap.push o1).push o2).push { cls:= .type "tuple",data:= .seq #[.ref s.heap.objs.size, .ref (s.heap.push o1).objs.size] }).push { cls:= .type "tuple",data:= .seq #[.none, .none] }).push { cls:= .type "zip",data:= .fields #[.none, .bool false, .bool false, .ref ((s.heap.push o1).push o2).objs.size, .ref (((s.heap.push o1).push o2).push { cls:= .type "tuple",data:= .seq #[.ref s.heap.objs.size, .ref (s.heap.push o1).objs.size] }).objs.size] } }):=
 .of_wp fun A R s h=>by
   obtain ⟨hp,g,d,tk,os⟩:=s;obtain ⟨q1,q2,h⟩:=h
   have hsub:=sub_zip
   have i1:=fun (A:Around) (E:VS) (Q:VS)=>s1 A E ⟨hp,g,d,tk,os⟩ Q q1
   have i2:=fun (A:Around) (E:VS) (Q:VS)=>s2 A E ⟨hp.push o1,g,d,tk,os⟩ Q q2
   wp_walk using i1 _ _ _,i2 _ _ _
   exact ⟨_,Z,h⟩
section
variable {prog:Program} {w:World} {A:Around} {E:VS} {s:Shared} {it t:Addr} {i:Nat} {items:Array Value} {Q:VS}
theorem Mb {x:Value} (hit:s.heap.IsTupleIter it t i) (ht:s.heap.IsTuple t items) (hx:items[i]?=some x) (hQ:∀h',h'.IsTupleIter it t (i+1)->Heap.SameBut it s.heap h'->Q x { s with heap:=h' }):wpAny (model prog w) A (Builtin.SmallTypes.nextOf (.ref it)) Q E s:=by
 obtain ⟨o,ho,hc,hd⟩:=id hit;obtain ⟨ol,fY,_,nl,hdl⟩:=ht;unfold Builtin.SmallTypes.nextOf
 refine az (yJ (name:=Str.ofString "__next__") hit.typeIs OJ (uT OJ hit.typeIs F.entry_tuple_iterator_next ?_ (F.args_tuple_iterator_next_1 _)))
 show wpAny _ _ (field (.ref it) 0 >>= _) _ _ s;refine az (m5 ho hd (x:= .ref t) rfl ?_);show wpAny _ _ (if (Value.ref t==Value.none)=true then _ else _) _ _ s
 rw [aB (fun z=>fH z:¬ ((Value.ref t==Value.none)=true))];show wpAny _ _ (field (.ref it) 1 >>= _) _ _ s
 refine az (m5 ho hd (x:= .int i 0) rfl ?_);show wpAny _ _ (seqItems? (.ref t) >>= _) _ _ s;refine az (uV fY hdl ?_);simp only [tU,hx]
 refine az (Ag ho hd (by simp) (aV ⟨x,Z,aV (hQ _ ?_ (DW ..))⟩));refine ⟨_,OR _ ho (Obj.isFreed_of_fields (DY hd _)),(Obj.cls_mapFields ..).trans hc,?_⟩;rw [DY hd];simp [rawInt]
theorem PJ (hh:A.handled=none) (hit:s.heap.IsTupleIter it t i) (ht:s.heap.IsTuple t items) (hx:items[i]?=none) (hE:∀h' e,Heap.ExtBut it s.heap h'->(∃o,h'.get? e=some o/\o.cls = .type "StopIteration")->E (.ref e) { s with heap:=h' }):wpAny (model prog w) A (Builtin.SmallTypes.nextOf (.ref it)) Q E s:=by
 obtain ⟨o,ho,hc,hd⟩:=id hit;obtain ⟨ol,fY,_,nl,hdl⟩:=ht;unfold Builtin.SmallTypes.nextOf
 refine az (yJ (name:=Str.ofString "__next__") hit.typeIs OJ (uT OJ hit.typeIs F.entry_tuple_iterator_next ?_ (F.args_tuple_iterator_next_1 _)))
 show wpAny _ _ (field (.ref it) 0 >>= _) _ _ s;refine az (m5 ho hd (x:= .ref t) rfl ?_);show wpAny _ _ (if (Value.ref t==Value.none)=true then _ else _) _ _ s
 rw [aB (fun z=>fH z:¬ ((Value.ref t==Value.none)=true))];show wpAny _ _ (field (.ref it) 1 >>= _) _ _ s
 refine az (m5 ho hd (x:= .int i 0) rfl ?_);show wpAny _ _ (seqItems? (.ref t) >>= _) _ _ s;refine az (uV fY hdl ?_);simp only [tU,hx]
 refine az (wpAny_rule (az (Ag ho hd (by simp) ?_)));show wpAny _ _ (newExc (.type "StopIteration") [] >>= _) _ _ _;refine az ?_;simp only [newExc,newTuple]
 refine az (vJ ?_ (by size_fits));refine az (m:=firstArgMember _ _) (wpAny_of_eq (a:=Value.none) (by first|rfl|(simp only [firstArgMember];rfl)) ?_);refine vJ ?_ (by size_fits);simp only [raiseNew]
 refine az (wpAny_handled ?_);first|rw [show A.in1.handled=none from hh]|rw [hh]
 refine az (aV (wpAny_throw ?_));exact hE _ _ (((DW ..).extBut.push _).push _) ⟨_,eL _ rfl,Z⟩
end
theorem W9 {w:World} {l:Addr}:zb P w K (fun H=>dm K H l xs) xs it l (fun i h=>h.IsTupleIter it l i) (fun h=>∃its:List Value,Vals xs its/\h.IsTuple l its.toArray) where
 obj:=fun i h ⟨o,e,c,d⟩=>⟨o,e,fun v z=>by rw [d] at z;cases z⟩
 keep:=fun i h h' st k=>st.at k
 u_:=fun h h' ⟨its,r,o,e,q⟩ k=>⟨its,r,o,k o e,q⟩
 Fz:=fun X hP hw hK pins σ H s I h=>by
  subst hP hw hK
  obtain ⟨its,rv,p,_⟩:=I.tuple h
  exact ⟨its,rv,p⟩
 item:=fun A i x s Q E st ⟨its,r,hl⟩ hx hQ=>by
  obtain ⟨u,hu,ru⟩:=r.get hx
  exact Mb st hl (by simpa using hu) fun h' st' sb=>hQ u h' ru st' sb
 done:=fun A i s Q E hh st ⟨its,r,hl⟩ hx hE=>PJ hh st hl (by have:=r.length;simp;omega) hE
section
variable {prog:Program} {w:World} {A:Around} {E:VS} {s:Shared} {K:Type} [DecidableEq K] {knd:KeyKind prog w K}
end
def kR (v d:Addr):HO:= .ext fun h=>h.IsValuesView v d
section
variable {X:Cx}
inductive Zd (Q:VK) (x:V) (H1:Hp):Prop
 | mk  (d kvs:_) (_:x = .ref d) (_:Rd H1 d (.dK kvs)) (_:∀v,H1 v=none->Q (.ref v) (upd H1 v (kR v d)))
def abY (td:TE):TE:=fun σ H Q=>td σ H (Zd Q)
inductive Wk (K:Fg) (H:Hp):V->(Hp->Prop)->List V->Prop
 | lst {l:Addr} {xs:List V}:aK K H l xs->Wk K H (.ref l) (fun H=>aK K H l xs) xs
 | tup {l:Addr} {xs:List V}:dm K H l xs->Wk K H (.ref l) (fun H=>dm K H l xs) xs
 | keys {d:Addr} {o:Obj} {kvs:List (Key×V)}:oz H d o kvs->Wk K H (.ref d) (fun H=>oz H d o kvs) (kvs.map fun p=>kV p.1)
 | vals {v d:Addr} {o:Obj} {kvs:List (Key×V)}:H v=some (kR v d)->oz H d o kvs->Wk K H (.ref v) (fun H=>oz H d o kvs) (kvs.map fun p=>p.2)
theorem Wk.ok {u:V} {S:Hp->Prop} (k:Wk X.K H u S xs) (I:Inv X pins σ H s) (r:RelV u uv):
  S H/\∃(l:Addr) (o:Obj) (p:Heap->Prop),l<s.heap.objs.size/\p s.heap/\(∀h (ob:Obj),p h->p (h.push ob))/\(∀h:Heap,(h.push o).get? h.objs.size=some o)/\Js X.prog X.w uv o p/\∀it:Addr,∃tn src,zb X.prog X.w X.K S xs it l tn src/\∀h:Heap,h.get? it=some o->tn 0 h:=by
 cases k with
 | @lst l xs hS=>
   cases r
   obtain ⟨its,rv,p,_⟩:=I.list hS
   obtain ⟨ol,fY,_⟩:=id p.isList
   refine ⟨hS,l,_,fun h=>h.IsList l its.toArray,bM fY,p.isList,fun h ob q=>q.push ob,fun h=>eL _ rfl,fun A E s Q q h=>O1 q h,fun it=>⟨_,_,Ul,fun h e=>⟨_,e,Z,Z⟩⟩⟩
 | @tup l xs hS=>
   cases r
   obtain ⟨its,rv,p,_⟩:=I.tuple hS
   obtain ⟨ol,fY,q0⟩:=id p
   refine ⟨hS,l,_,fun h=>h.IsTuple l its.toArray,bM fY,p,fun h ob ⟨o1,a,b⟩=>⟨o1,b7 _ a,b⟩,fun h=>eL _ rfl,fun A E s Q q h=>wpAny_pyIter_tuple q h,fun it=>⟨_,_,W9,fun h e=>⟨_,e,Z,Z⟩⟩⟩
 | @keys d o kvs hz=>
   cases r
   obtain ⟨ho,hl,hsys,vs,ep,rel,da⟩:=I.qX hz
   obtain ⟨o',es,h1,_,h2,_⟩:=id da
   rw [ho] at h1;cases h1
   have el:kvs.length=vs.length:=rel.length
   refine ⟨hz,d,_,fun h=>h.DictAt (cY X.prog X.w) d vs ep,bM ho,da,fun h ob q=>q.push ob,fun h=>eL _ rfl,fun A E s Q q h=>wpAny_pyIter_dict hsys q h,fun it=>⟨_,_,Um h2,fun h e=>?_⟩⟩
   rw [el]
   exact ⟨_,e,Z,Z⟩
 | @vals v d o kvs hv hz=>
   cases r
   obtain ⟨ho,hl,hsys,vs,ep,rel,da⟩:=I.qX hz
   obtain ⟨o',es,h1,_,h2,_⟩:=id da
   rw [ho] at h1;cases h1
   have el:kvs.length=vs.length:=rel.length
   obtain ⟨hv',_⟩:=(show eY X.prog X.w H s.heap v (kR v d) from I.hok v _ hv)
   refine ⟨hz,d,_,fun h=>h.IsValuesView v d/\h.DictAt (cY X.prog X.w) d vs ep,bM ho,⟨hv',da⟩,fun h ob ⟨⟨o1,a,b⟩,q⟩=>⟨⟨o1,b7 _ a,b⟩,q.push ob⟩,fun h=>eL _ rfl,fun A E s Q q h=>wpAny_pyIter_values q.1 q.2 h,fun it=>⟨_,_,Uo h2,fun h e=>?_⟩⟩
   rw [el]
   exact ⟨_,e,Z,Z⟩
variable {elts:List Expr} {kk:Nat} {tpos:Pos}
inductive Ze (K:Fg) (R:It->Hp->Prop) (vs:List V) (H1:Hp):Prop
 | mk  (u1 u2 S1 S2 xs ys:_) (_:vs=[u1,u2]) (_:Wk K H1 u1 S1 xs) (_:Wk K H1 u2 S2 ys) (_:R (Zc S1 S2 xs ys:_) H1)
def abZ (K:Fg) (ta:TA):TI:=fun σ H R=>ta σ H (Ze K R)
theorem FE (hc:X.calm=true):je X (.builtin "sum") (fun xs H Q=>∃(v d:Addr) (kvs:List (Key×V)) (ns:List Int),xs=[.ref v]/\H v=some (kR v d)/\Rd H d (.dK kvs)/\kvs.map (·.2)=ns.map V.int/\Q (.int ns.sum) H):=by
 intro pins s σ H xs us Q I r h
 obtain ⟨v,d,kvs,ns,rfl,hv,hz,en,q⟩:=h
 obtain ⟨u,rfl,ru⟩:=vals1 r
 cases ru
 obtain ⟨_,hsys,vs,rel,dd⟩:=tE I.hok hz
 obtain ⟨ep,da⟩:=dd.dictAt
 obtain ⟨hv',_⟩:=(show eY X.prog X.w H s.heap v (kR v d) from I.hok v _ hv)
 have hl:kvs.length=vs.length:=rel.length
 have hlt:=da.lt_size
 have hne:d≠s.heap.objs.size:=ee hlt
 have W:=(Walks.dictValues (prog:=X.prog) (w:=X.w) (A:=X.A.in1) (knd:=cY X.prog X.w) (I.ok.hd hc) s.heap.objs.size d hne vs ep).toS
 have Cu:kvs.length=ns.length:=by have:=j6 List.length en;simpa using this
 refine call_sum_walkAnyS (wpAny_pyIter_values hv' da ?_)
 refine ⟨s.heap.objs.size,_,_,_,_,_,_,fun i=>ns.getD i 0,Z,W,⟨⟨_,eL _ rfl,Z,Z⟩,da.push _⟩,fun b hb=>?_,fun i x hP=>?_,fun s' t' hm=>?_⟩
 . rcases dz.mp hb with rfl|hb
   . exact bM (eL _ rfl)
   . obtain rfl:=fU.mp hb
     exact (da.push _).lt_size
 . obtain ⟨k,hk⟩:=hP
   have hil:i<ns.length:=by
    have:=(dO.mp hk).1
    omega
   have hik:i<kvs.length:=by omega
   obtain ⟨q',hq',_,rq⟩:=y9 rel (bD hik)
   rw [hk] at hq'
   cases hq'
   have e1:kvs[i].2=V.int (ns.getD i 0):=by
    have:=j6 (fun l=>l[i]?) en
    simp only [cA,bD hik,bD hil] at this
    rw [mw,bD hil]
    exact fu this
   rw [e1] at rq
   exact rq
 . obtain ⟨h',g',d',tk',os'⟩:=s'
   have e1:g'=s.gens:=hm.gens
   have e2:d'=s.drawn:=hm.drawn
   have e3:os'=s.os:=hm.os
   subst e1 e2 e3
   have hsz:vs.length=ns.length:=by omega
   rw [hsz,preSum_getD,List.take_of_length_le (aN _)]
   exact ⟨.int ns.sum,H,I.kept (h':=h') (t':=tk') fun b o e=>hm.heap b o (fun hb=>absurd (bM e) ((fU.mp hb)▸jc _)) (b7 _ e),⟨t',Z⟩,q⟩
end
def c9:St->List Nat->List V->St
 | σ,k::ks,v::vs=>c9 (σ.set k (some v)) ks vs
 | σ,_,_=>σ
theorem CC {k:Nat} {v:Option V}:∀{ks:List Nat} {vs:List V} {σ:St},k∉ks->(c9 σ ks vs).set k v=c9 (σ.set k v) ks vs
 | [],_,_,_=>by unfold c9;rfl
 | _::_,[],_,_=>by unfold c9;rfl
 | j::ks,w::vs,σ,h=>by
   have hj:k≠j:=fun e=>h (by rw [e];exact cS)
   show (c9 (σ.set j (some w)) ks vs).set k v=c9 ((σ.set k v).set j (some w)) ks vs
   rw [CC (fun m=>h (cD _ m)),List.set_comm _ _ hj]
theorem oW:∀{ks:List Nat} {vs ws:List V} {σ:St},ks.Nodup->vs.length=ks.length->ws.length=ks.length->c9 (c9 σ ks vs) ks ws=c9 σ ks ws
 | [],[],[],_,_,_,_=>rfl
 | k::ks,v::vs,w::ws,σ,nd,h1,h2=>by
   have nk:=(fP.mp nd).1
   show c9 ((c9 (σ.set k (some v)) ks vs).set k (some w)) ks ws=c9 (σ.set k (some w)) ks ws
   rw [CC nk,uW,oW (fP.mp nd).2 (by simpa using h1) (by simpa using h2)]
def RJ:List Nat->Ca
 | []=>Yg
 | k::ks=>VC (m9 k) (RJ ks)
theorem CD {Q:St->Hp->Prop} {H:Hp}:∀{ks:List Nat} {vs:List V} {σ:St},vs.length=ks.length->Q (c9 σ ks vs) H->RJ ks vs σ H Q
 | [],[],_,_,q=>⟨Z,q⟩
 | k::ks,v::vs,σ,h,q=>⟨v,vs,Z,CD (by simpa using h) q⟩
theorem wK {n:Nat} (ks:List Nat) {Q:VK} (Pv:Nat->List V->Hp->Prop) (nd:ks.Nodup) (hn:n<=100000) (h0:Pv 0 [] (upd H acc (.lst [])))
  (hgo:∀i out H1,i<n->H1 acc=some (.lst out)->Pv i out H1->J.go i H1) (hst:∀out H1,H1 acc=some (.lst out)->Pv n out H1->J.stop n H1)
  (hs:∀(i:Nat) (x:V) (out:List V) (H1 H2:Hp),i<n->out.length=i->H1 acc=some (.lst out)->Pv i out H1->J.yR i H1 x H2->
    ∃t vs,x = .ref t/\dm K H2 t vs/\vs.length=ks.length/\te (c9 σ2 ks vs) H2 (xQ Pv i acc out))
  (hd:∀(out:List V) (H1:Hp),out.length=n->H1 acc=some (.lst out)->Pv n out H1->Q (.ref acc) H1):
  Cs J (yP K ks.length (RJ ks)) te acc σ2 H Q:=by
 refine ⟨fun i m σ' H'=>m=n-i/\i<=n/\(∀ws,ws.length=ks.length->c9 σ' ks ws=c9 σ2 ks ws)/\∃out,out.length=i/\H' acc=some (.lst out)/\Pv i out H',⟨n,by simp,gh _,fun _ _=>rfl,[],Z,ah,h0⟩,?_⟩
 rintro i m σ' H' ⟨rfl,hi,hσ,out,ho,ha,p⟩
 by_cases hlt:i<n
 . refine .inr ⟨hgo i out H' hlt ha p,fun σ3=>∀ws,ws.length=ks.length->c9 σ3 ks ws=c9 σ2 ks ws,(xQ Pv i acc out),fun σ3 v H4 hS ⟨a,b⟩=>?_,fun x H1 y=>?_⟩
   . refine ⟨out,a,?_,n-(i+1),by omega,Z,hlt,hS,out++[v],by rw [dj,ho];rfl,ah,b⟩
     have:sizeLine=16777216:=jI
     omega
   . obtain ⟨t,vs,rfl,sq,hl,q⟩:=hs i x out H' H1 hlt ho ha p y
     refine ⟨t,vs,Z,sq,hl,CD hl ⟨fun ws hw=>?_,?_⟩⟩
     . rw [oW nd hl hw];exact hσ ws hw
     . rw [hσ vs hl];exact q
 . have e:i=n:=by omega
   subst e
   exact .inl ⟨hst out H' ha p,hd out H' ho ha p⟩
theorem W_ {n:Nat} (ks:List Nat) {Q:VK} (Pv:Nat->List V->Hp->Prop) (nd:ks.Nodup) (hn:n<=100000) (h0:Pv 0 [] (upd H acc (.lst [])))
  (hgo:∀i out H1,i<n->H1 acc=some (.lst out)->Pv i out H1->J.go i H1) (hst:∀out H1,H1 acc=some (.lst out)->Pv n out H1->J.stop n H1)
  (hs:∀(i:Nat) (x:V) (out:List V) (H1 H2:Hp),i<n->out.length<=i->H1 acc=some (.lst out)->Pv i out H1->J.yR i H1 x H2->
    ∃t vs,x = .ref t/\dm K H2 t vs/\vs.length=ks.length/\tc (c9 σ2 ks vs) H2 (VN te (c9 σ2 ks vs) Pv i acc out))
  (hd:∀(out:List V) (H1:Hp),out.length<=n->H1 acc=some (.lst out)->Pv n out H1->Q (.ref acc) H1):
  CA J (yP K ks.length (RJ ks)) tc te acc σ2 H Q:=by
 refine ⟨fun i m σ' H'=>m=n-i/\i<=n/\(∀ws,ws.length=ks.length->c9 σ' ks ws=c9 σ2 ks ws)/\∃out,out.length<=i/\H' acc=some (.lst out)/\Pv i out H',⟨n,by simp,gh _,fun _ _=>rfl,[],aN _,ah,h0⟩,?_⟩
 rintro i m σ' H' ⟨rfl,hi,hσ,out,ho,ha,p⟩
 by_cases hlt:i<n
 . refine .inr ⟨hgo i out H' hlt ha p,fun σ3=>∀ws,ws.length=ks.length->c9 σ3 ks ws=c9 σ2 ks ws,(xQ Pv i acc out),fun H3=>H3 acc=some (.lst out)/\Pv (i+1) out H3,fun σ3 v H4 hS ⟨a,b⟩=>?_,fun σ3 H4 hS ⟨a,b⟩=>?_,fun x H1 y=>?_⟩
   . refine ⟨out,a,?_,n-(i+1),by omega,Z,hlt,hS,out++[v],by rw [dj];exact Nat.succ_le_succ ho,ah,b⟩
     have:sizeLine=16777216:=jI
     omega
   . exact ⟨n-(i+1),by omega,Z,hlt,hS,out,by omega,a,b⟩
   . obtain ⟨t,vs,rfl,sq,hl,q⟩:=hs i x out H' H1 hlt ho ha p y
     refine ⟨t,vs,Z,sq,hl,CD hl ⟨fun ws hw=>?_,?_⟩⟩
     . rw [oW nd hl hw];exact hσ ws hw
     . rw [hσ vs hl];exact q
 . have e:i=n:=by omega
   subst e
   exact .inl ⟨hst out H' ha p,hd out H' ho ha p⟩
theorem kq {n:Nat} (k:Nat) {Q:VK} (Pv:Nat->List V->Hp->Prop) (hn:n<=100000) (h0:Pv 0 [] (upd H acc (.lst [])))
  (hgo:∀i out H1,i<n->H1 acc=some (.lst out)->Pv i out H1->J.go i H1) (hst:∀out H1,H1 acc=some (.lst out)->Pv n out H1->J.stop n H1)
  (hs:∀(i:Nat) (x:V) (out:List V) (H1 H2:Hp),i<n->out.length=i->H1 acc=some (.lst out)->Pv i out H1->J.yR i H1 x H2->
    te (σ2.set k (some x)) H2 (xQ Pv i acc out))
  (hd:∀(out:List V) (H1:Hp),out.length=n->H1 acc=some (.lst out)->Pv n out H1->Q (.ref acc) H1):
  Cs J (m9 k) te acc σ2 H Q:=by
 refine ⟨fun i m σ' H'=>m=n-i/\i<=n/\(∀w:Option V,σ'.set k w=σ2.set k w)/\∃out,out.length=i/\H' acc=some (.lst out)/\Pv i out H',⟨n,by simp,gh _,fun _=>rfl,[],Z,ah,h0⟩,?_⟩
 rintro i m σ' H' ⟨rfl,hi,hσ,out,ho,ha,p⟩
 by_cases hlt:i<n
 . refine .inr ⟨hgo i out H' hlt ha p,fun σ3=>∀w:Option V,σ3.set k w=σ2.set k w,(xQ Pv i acc out),fun σ3 v H4 hS ⟨a,b⟩=>?_,fun x H1 y=>?_⟩
   . refine ⟨out,a,?_,n-(i+1),by omega,Z,hlt,hS,out++[v],by rw [dj,ho];rfl,ah,b⟩
     have:sizeLine=16777216:=jI
     omega
   . refine ⟨fun w=>by rw [uW];exact hσ w,?_⟩
     rw [hσ]
     exact hs i x out H' H1 hlt ho ha p y
 . have e:i=n:=by omega
   subst e
   exact .inl ⟨hst out H' ha p,hd out H' ho ha p⟩
theorem Xa {n:Nat} (k:Nat) {Q:VK} (Pv:Nat->List V->Hp->Prop) (hn:n<=100000) (h0:Pv 0 [] (upd H acc (.lst [])))
  (hgo:∀i out H1,i<n->H1 acc=some (.lst out)->Pv i out H1->J.go i H1) (hst:∀out H1,H1 acc=some (.lst out)->Pv n out H1->J.stop n H1)
  (hs:∀(i:Nat) (x:V) (out:List V) (H1 H2:Hp),i<n->out.length<=i->H1 acc=some (.lst out)->Pv i out H1->J.yR i H1 x H2->
    tc (σ2.set k (some x)) H2 (VN te (σ2.set k (some x)) Pv i acc out))
  (hd:∀(out:List V) (H1:Hp),out.length<=n->H1 acc=some (.lst out)->Pv n out H1->Q (.ref acc) H1):
  CA J (m9 k) tc te acc σ2 H Q:=by
 refine ⟨fun i m σ' H'=>m=n-i/\i<=n/\(∀w:Option V,σ'.set k w=σ2.set k w)/\∃out,out.length<=i/\H' acc=some (.lst out)/\Pv i out H',⟨n,by simp,gh _,fun _=>rfl,[],aN _,ah,h0⟩,?_⟩
 rintro i m σ' H' ⟨rfl,hi,hσ,out,ho,ha,p⟩
 by_cases hlt:i<n
 . refine .inr ⟨hgo i out H' hlt ha p,fun σ3=>∀w:Option V,σ3.set k w=σ2.set k w,(xQ Pv i acc out),fun H3=>H3 acc=some (.lst out)/\Pv (i+1) out H3,fun σ3 v H4 hS ⟨a,b⟩=>?_,fun σ3 H4 hS ⟨a,b⟩=>?_,fun x H1 y=>?_⟩
   . refine ⟨out,a,?_,n-(i+1),by omega,Z,hlt,hS,out++[v],by rw [dj];exact Nat.succ_le_succ ho,ah,b⟩
     have:sizeLine=16777216:=jI
     omega
   . exact ⟨n-(i+1),by omega,Z,hlt,hS,out,by omega,a,b⟩
   . refine ⟨fun w=>by rw [uW];exact hσ w,?_⟩
     rw [hσ]
     exact hs i x out H' H1 hlt ho ha p y
 . have e:i=n:=by omega
   subst e
   exact .inl ⟨hst out H' ha p,hd out H' ho ha p⟩
structure Mn (P:Program) (w:World) (K:Fg) (mg:SO) (base:Heap) (k:Nat) (C:Addr) (m:Str) (ps:List Str) (sp:Sp):Prop where
 ex:∃f fd,jf P w K mg base sV k f fd ps sp/\Binds K fd ps []/\Meth K C m f/\oQ K C
structure Cn (P:Program) (w:World) (K:Fg) (mg:SO) (base:Heap) (k:Nat) (x:Str) (C:Addr) (ps:List Str) (sp:Sp):Prop where
 ex:∃f fd,jf P w K mg base sV k f fd ps sp/\Binds K fd ps []/\Mk K C f/\mg x=some (.ref C)
section
variable {X:Cx}
inductive ab0 (x:V) (y:V) (H:Hp) (Q:VK):Prop
 | mk  (i j:_) (_:x = .int i) (_:y = .int j) (_:Pq i j) (_:Q (.int (i*j)) H)
theorem Xb:IZ X .Mult ab0:=by
 rintro pins s σ H x y u v Q I rx ry ⟨i,j,rfl,rfl,⟨m,n,h1,h2,h3⟩,q⟩
 obtain ⟨t,rfl⟩:=(show ∃t,u=Value.int i t from rx)
 obtain ⟨t',rfl⟩:=(show ∃t',v=Value.int j t' from ry)
 exact PyProof.Rows.imul_int ⟨.int (i*j),H,I.tok _,⟨_,Z⟩,q⟩ (IntMulOk.of_le (OU.mpr h1) (OU.mpr h2) h3)
end
structure gI (K:Fg) (C:Addr) (m qual:Str) (st:Stmt) (f:Addr) (fd:FuncData):Prop where
 fn:Ft K m qual st f fd
 me:Meth K C m f
 cl:oQ K C
variable {mg:SO} {base:Heap} {C f:Addr} {qual:Str} {fd:FuncData} {N ps:List Str} {sp:Sp}
theorem gI.ok {w:World} {m:Str} {st:Stmt} {k:Nat} (F:gI K C m qual st f fd) (S:aR N ps (aE st)) (len:∀vs H Q E,sp vs H Q E->vs.length=ps.length)
  (hbody:∀(cdv:Value) (A:Around) (outer:List Env) (s:Shared) (H:Hp) (vs:List V) (Q:VK) (E:XK),dJ k (A.deeper (envOfC qual (aE st) s.heap.objs.size f cdv))->sp vs H Q E->
    ∃t,p7 (cM sV P w K mg base N qual (aE st) f cdv A outer s H E).AJ (cJ st) t/\t { nx:=fun _ H'=>Q .b9 H',rt:=Q } (start N vs) H)
  (h:∀(kV doc pm:Value) (an:Option Addr) (cdv ct:Value) (us:List Value),us.length=ps.length->bindArgs (PySem.W.fnOf m qual (d8 st) (cJ st) (aE st) .none kV doc pm an cdv ct) ⟨us,[]⟩=pure (ps.zip us)):
  Mn P w K mg base (k+1) C m ps sp:=⟨f,fd,F.fn.ok S len hbody,F.fn.binds h,F.me,F.cl⟩
structure FF (K:Fg) (mg:SO) (x:Str) (C:Addr) (qual:Str) (st:Stmt) (f:Addr) (fd:FuncData):Prop where
 fn:Ft K "__init__" qual st f fd
 mks:Mk K C f
 name:mg x=some (.ref C)
theorem FF.ok {w:World} {st:Stmt} {k:Nat} (F:FF K mg x C qual st f fd) (S:aR N ps (aE st)) (len:∀vs H Q E,sp vs H Q E->vs.length=ps.length)
  (hbody:∀(cdv:Value) (A:Around) (outer:List Env) (s:Shared) (H:Hp) (vs:List V) (Q:VK) (E:XK),dJ k (A.deeper (envOfC qual (aE st) s.heap.objs.size f cdv))->sp vs H Q E->
    ∃t,p7 (cM sV P w K mg base N qual (aE st) f cdv A outer s H E).AJ (cJ st) t/\t { nx:=fun _ H'=>Q .b9 H',rt:=Q } (start N vs) H)
  (h:∀(kV doc pm:Value) (an:Option Addr) (cdv ct:Value) (us:List Value),us.length=ps.length->bindArgs (PySem.W.fnOf "__init__" qual (d8 st) (cJ st) (aE st) .none kV doc pm an cdv ct) ⟨us,[]⟩=pure (ps.zip us)):
  Cn P w K mg base (k+1) x C ps sp:=⟨f,fd,F.fn.ok S len hbody,F.fn.binds h,F.mks,F.name⟩
abbrev p8:=Nat×Nat×Str
abbrev cR:=Addr->Option p8
abbrev col (n t:Nat):Option p8:=some (n,t,(⟨#[]⟩:Str))
def isTup:HO->Bool
 | .tup _=>true
 | _=>false
def Gh (ρ:cR) (H:Hp):Prop:=∀b c,ρ b=some c->∃o,H b=some o/\isTup o=false
def Fr (n:Nat) (ρ:cR) (H:Hp) (ρ':cR) (H':Hp):Prop:=∀b o,H b=some o->(∀t x,ρ b≠some (n,t,x))->H' b=some o/\ρ' b=ρ b
def cO (ρ:cR) (a:Addr) (c:p8):cR:=fun b=>if b=a then some c else ρ b
variable {ρ:cR}
theorem bY {c:p8}:cO ρ a c a=some c:=aD rfl
variable {b:Addr}
theorem bu {c:p8} (h:b≠a):cO ρ a c b=ρ b:=aB h
def out (ρ:cR) (H:Hp):Hp:=fun b=>if ρ b=none then H b else none
variable {o:HO}
theorem rM (h:H b=some o) (c:ρ b=none):out ρ H b=some o:=by
 unfold out;rw [aD c];exact h
theorem lC (h:out ρ H b=some o):H b=some o/\ρ b=none:=by
 unfold out at h
 split at h
 . next c=>exact ⟨h,c⟩
 . cases h
theorem Gh.none (g:Gh ρ H) (h:H b=Option.none):ρ b=Option.none:=by
 cases e:ρ b with
 | none=>rfl
 | some c=>obtain ⟨o,q,_⟩:=g b c e;rw [h] at q;cases q
theorem Gh.tup {ρ:cR} {H:Hp} (g:Gh ρ H) {b:Addr} {xs:List V} (h:H b=some (.tup xs)):ρ b=Option.none:=by
 cases e:ρ b with
 | none=>rfl
 | some c=>obtain ⟨o,q,t⟩:=g b c e;rw [h] at q;cases q;cases t
theorem Gh.same (g:Gh ρ H) (s:aO H H'):Gh ρ H':=fun b c e=>let ⟨o,h,t⟩:=g b c e;⟨o,s b o h,t⟩
theorem Gh.wr (g:Gh ρ H) (t:isTup o=false):Gh ρ (upd H a o):=fun b c e=>by
 by_cases h:b=a
 . rw [h,ah];exact ⟨o,Z,t⟩
 . rw [au h];exact g b c e
theorem Gh.alloc (g:Gh ρ H) (h:H a=Option.none):Gh ρ (upd H a o):=g.same (aG h o)
theorem Gh.color (g:Gh ρ H) {c:p8} (h:H a=some o) (t:isTup o=false):Gh (cO ρ a c) H:=fun b d e=>by
 by_cases z:b=a
 . rw [z];exact ⟨o,h,t⟩
 . rw [bu z] at e;exact g b d e
theorem Fr.refl {n:Nat}:Fr n ρ H ρ H:=fun _ _ h _=>⟨h,Z⟩
variable {ρ1:cR} {H1 H2:Hp}
theorem Fr.trans {n:Nat} {ρ2:cR} (a:Fr n ρ H ρ1 H1) (b:Fr n ρ1 H1 ρ2 H2):Fr n ρ H ρ2 H2:=fun c o h k=>by
 obtain ⟨h1,e1⟩:=a c o h k
 obtain ⟨h2,e2⟩:=b c o h1 (by rw [e1];exact k)
 exact ⟨h2,e2.trans e1⟩
theorem Fr.of_same {n:Nat} (s:aO H H'):Fr n ρ H ρ H':=fun b o h _=>⟨s b o h,Z⟩
theorem Fr.write {n:Nat} (c:ρ a=some (n,t,x)):Fr n ρ H ρ (upd H a o):=fun b u h k=>by
 have:b≠a:=fun e=>k t x (by rw [e];exact c)
 rw [au this];exact ⟨h,Z⟩
theorem Fr.color {n:Nat} {c:p8} (h:H a=none) (s:aO H H'):Fr n ρ H (cO ρ a c) H':=fun b u e k=>by
 rw [bu (aF e h)];exact ⟨s b u e,Z⟩
variable {ρ':cR}
theorem Fr.out {n:Nat} (f:Fr n ρ H ρ' H'):aO (out ρ H) (out ρ' H'):=fun b o h=>by
 obtain ⟨h1,c⟩:=lC h
 obtain ⟨h2,e⟩:=f b o h1 (fun t x=>by rw [c];intro z;cases z)
 exact rM h2 (e.trans c)
theorem iD (s:aO H H'):aO (out ρ H) (out ρ H'):=fun b o h=>by
 obtain ⟨h1,c⟩:=lC h
 exact rM (s b o h1) c
structure Pt where
 nm:Str
 ow:Str
 wo:Int
 we:Int
 sc:Int
 row:List Int
structure jN where
 nm:Str
 ow:Str
 wo:Int
 sh:List (Str×Rat)
structure HS where
 own:List Str
 aj:List Pt
 d_:List jN
 nms:List Str
 stp:List Int
 prod:Int
 kn:Nat
 bz:List Int
 bL:List Int
structure HA where
 a:Addr
 dx:Addr
 pl:Addr
 ab:Addr
 as:Addr
 nm:Addr
 bt:Addr
 db:Addr
 cm:Addr
 pu:Addr
 sp:Addr
 kn:Addr
 qs:List (Addr×Addr×Addr)
structure TC where
 hold:Addr
 part:Addr
 bot:Addr
def fD:Nat->List Str->List (Key×V)
 | _,[]=>[]
 | i,o::r=>(Sum.inr o, .int i)::fD (i+1) r
def bN (ps:List Pt) (qs:List (Addr×Addr×Addr)):List (Key×V):=List.zipWith (fun p q=>((Sum.inr p.nm:Key),V.ref q.1)) ps qs
def wL (l:List Str):List (Key×V):=l.map fun x=>(Sum.inr x, .bl true)
def dI (A:HA):List (Str×V):=[("places", .ref A.pl),("aboard", .ref A.ab),("ashore", .ref A.as),("names", .ref A.nm),("bottom", .ref A.bt),("common", .ref A.cm),("purses", .ref A.pu)]
def cQ (p:Pt) (r:Addr):List (Str×V):=[("name", .str p.nm),("owner", .str p.ow),("worth", .int p.wo),("weight", .int p.we),("scale", .int p.sc),("row", .ref r)]
def jD (sp:Addr) (prod:Int) (kn:Addr):List (Str×V):=[("steps", .ref sp),("product", .int prod),("known", .ref kn)]
def Jt (H:Hp) (kvs:List (Key×V)) (prod:Int):Prop:=∀p∈kvs,∃(t:Int) (r:Addr),p=(Sum.inl t,V.ref r)/\H r=some (qe (Jm.fr t prod))
inductive kO (H:Hp):List V->List (Str×Rat)->Prop
 | nil:kO H [] []
 | cons {r f:Addr} {x:Str} {q:Rat} {vs:List V} {l:List (Str×Rat)}:H r=some (.tup [.str x, .ref f])->H f=some (qe q)->kO H vs l->kO H (.ref r::vs) ((x,q)::l)
inductive jJ (n:Nat) (ρ:cR) (H:Hp):List V->List jN->Prop
 | nil:jJ n ρ H [] []
 | cons {r l:Addr} {x:jN} {ss:List V} {vs:List V} {as:List jN}:H r=some (.tup [.str x.nm, .str x.ow, .int x.wo, .ref l])->H l=some (.lst ss)->ρ l=some (n,30,⟨#[]⟩)->kO H ss x.sh->jJ n ρ H vs as->jJ n ρ H (.ref r::vs) (x::as)
structure aL (T:TC) (n:Nat) (ρ:cR) (A:HA) (H:Hp) (st:HS):Prop where
 oa:H A.a=some (.ins T.hold A.dx (dI A))
 ca:ρ A.a=col n 0
 gQ:H A.pl=some (.dK (fD 0 st.own))
 fZ:ρ A.pl=col n 1
 c_:H A.ab=some (.dK (bN st.aj A.qs))
 eX:ρ A.ab=col n 2
 mC:∃vs,H A.as=some (.lst vs)/\jJ n ρ H vs st.d_
 gr:ρ A.as=col n 3
 mD:H A.nm=some (.dK (wL st.nms))
 gu:ρ A.nm=col n 4
 iQ:H A.bt=some (.ins T.bot A.db (jD A.sp st.prod A.kn))
 gv:ρ A.bt=col n 5
 gU:H A.cm=some (.lst (st.bz.map V.int))
 gx:ρ A.cm=col n 6
 jq:H A.pu=some (.lst (st.bL.map V.int))
 cpu:ρ A.pu=col n 7
 kT:H A.sp=some (.lst (st.stp.map V.int))
 gy:ρ A.sp=col n 8
 okn:∃kvs,H A.kn=some (.dK kvs)/\Jt H kvs st.prod/\kvs.length<=st.kn/\(kvs.map (·.1)).Nodup
 gC:ρ A.kn=col n 9
 ql:A.qs.length=st.aj.length
 opt:∀(i:Nat) (p:Pt) (q:Addr×Addr×Addr),st.aj[i]?=some p->A.qs[i]?=some q->H q.1=some (.ins T.part q.2.1 (cQ p q.2.2))/\H q.2.2=some (.lst (p.row.map V.int))/\ρ q.1=some (n,20,p.nm)/\ρ q.2.2=some (n,21,p.nm)
theorem CF {c d:p8} (ha:ρ a=some c) (hb:ρ b=some d) (h:c≠d):a≠b:=fun e=>by
 rw [e,hb] at ha;cases ha;exact h rfl
theorem AU {c:p8} (ha:ρ a=none) (hb:ρ b=some c):a≠b:=fun e=>by rw [e,hb] at ha;cases ha
theorem kO.mono {l:List (Str×Rat)} (h:kO H vs l) (g:∀b xs,H b=some (.tup xs)->H' b=some (.tup xs)):kO H' vs l:=by
 induction h with
 | nil=>exact .nil
 | cons a b _ ih=>exact .cons (g _ _ a) (g _ _ b) ih
def Kp (n:Nat) (ρ ρ':cR) (H H':Hp) (ts:Nat->Bool):Prop:=(∀b xs,H b=some (.tup xs)->H' b=some (.tup xs))/\∀b t x o,ts t=true->ρ b=some (n,t,x)->H b=some o->H' b=some o/\ρ' b=some (n,t,x)
variable {ts:Nat->Bool}
theorem jJ.keep {n:Nat} {l:List jN} (h:jJ n ρ H vs l) (k:Kp n ρ ρ' H H' ts) (e:ts 30=true):jJ n ρ' H' vs l:=by
 induction h with
 | nil=>exact .nil
 | cons a b c d _ ih=>exact .cons (k.1 _ _ a) (k.2 _ _ _ _ e c b).1 (k.2 _ _ _ _ e c b).2 (d.mono k.1) ih
theorem dD {n:Nat} (g:Gh ρ H) (c:ρ a=some (n,t,x)):Kp n ρ ρ H (upd H a o) (fun u=>decide (u≠t)):=by
 refine ⟨fun b xs h=>?_,fun b u y w hu hc h=>⟨?_,hc⟩⟩
 . rw [au (AU (g.tup h) c)];exact h
 . rw [au (CF hc c (fun e=>by cases e;exact absurd hu (by simp)))];exact h
theorem kz {n:Nat} (k:Kp n ρ ρ' H H' ts) (c:ρ b=some (n,t,x)) (e:H b=some o) (u:ts t=true:=by decide):H' b=some o:=(k.2 b t x o u c e).1
theorem NU {n:Nat} (s:aO H H'):Kp n ρ ρ H H' ts:=⟨fun b xs h=>s _ _ h,fun b u y w _ hc h=>⟨s _ _ h,hc⟩⟩
variable {T:TC} {A:HA}
theorem aL.same {n:Nat} {st:HS} (h:aL T n ρ A H st) (k:Kp n ρ ρ' H H' fun _=>true):aL T n ρ' A H' st:=by
 have z:=fun {b:Addr} {t:Nat} {x:Str} {o:HO} (c:ρ b=some (n,t,x)) (e:H b=some o)=>k.2 b t x o rfl c e
 obtain ⟨vs,h1,h2⟩:=h.mC
 obtain ⟨kvs,k1,k2,k3⟩:=h.okn
 exact ⟨(z h.ca h.oa).1,(z h.ca h.oa).2,(z h.fZ h.gQ).1,(z h.fZ h.gQ).2,(z h.eX h.c_).1,(z h.eX h.c_).2,⟨vs,(z h.gr h1).1,h2.keep k rfl⟩,(z h.gr h1).2,(z h.gu h.mD).1,(z h.gu h.mD).2,(z h.gv h.iQ).1,(z h.gv h.iQ).2,
  (z h.gx h.gU).1,(z h.gx h.gU).2,(z h.cpu h.jq).1,(z h.cpu h.jq).2,(z h.gy h.kT).1,(z h.gy h.kT).2,⟨kvs,(z h.gC k1).1,fun p hp=>let ⟨t,r,e,q⟩:=k2 p hp;⟨t,r,e,k.1 _ _ q⟩,k3⟩,(z h.gC k1).2,h.ql,
  fun i p q e1 e2=>let ⟨a,b,c,d⟩:=h.opt i p q e1 e2;⟨(z c a).1,(z d b).1,(z c a).2,(z d b).2⟩⟩
theorem aL.mono {n:Nat} {st:HS} (h:aL T n ρ A H st) (s:aO H H'):aL T n ρ A H' st:=h.same (NU s)
theorem aL.other {n:Nat} {st:HS} (h:aL T m ρ A H st) (f:Fr n ρ H ρ' H') (g:Gh ρ H) (e:m≠n):aL T m ρ' A H' st:=
 h.same ⟨fun b xs q=>(f b _ q fun t x=>by rw [g.tup q];intro z;cases z).1,fun b t x o _ c q=>by
   obtain ⟨a,b'⟩:=f b o q fun t' x'=>by rw [c];intro z;cases z;exact e rfl
   exact ⟨a,b'.trans c⟩⟩
variable {ss:List V}
theorem jJ.snoc {n:Nat} {as:List jN} {l:Addr} {x:jN} (h:jJ n ρ H vs as) (e1:H r=some (.tup [.str x.nm, .str x.ow, .int x.wo, .ref l])) (e2:H l=some (.lst ss)) (e3:ρ l=some (n,30,⟨#[]⟩)) (e4:kO H ss x.sh):jJ n ρ H (vs++[.ref r]) (as++[x]):=by
 induction h with
 | nil=>exact .cons e1 e2 e3 e4 .nil
 | cons a b c d _ ih=>exact .cons a b c d ih
theorem Ar {p0 p1:Pt}:∀{ps:List Pt} {qs:List (Addr×Addr×Addr)} {i:Nat},ps[i]?=some p0->p1.nm=p0.nm->bN (ps.set i p1) qs=bN ps qs
 | [],_,_,h,_=>by simp at h
 | _::_,[],_,_,_=>by simp [bN]
 | p::ps,q::qs,0,h,e=>by
   have:p=p0:=by simpa using h
   simp [bN,e,this]
 | p::ps,q::qs,i+1,h,e=>by
   have:=Ar (qs:=qs) (by simpa using h:ps[i]?=some p0) e
   simp only [bN,IG,DU] at this ⊢
   rw [this]
variable {j:Nat} {p:Pt}
theorem CG {ps:List Pt} (nd:(ps.map (·.nm)).Nodup) {q:Pt} (h1:ps[i]?=some p) (h2:ps[j]?=some q) (e:p.nm=q.nm):i=j:=by
 have a:(ps.map (·.nm))[i]?=some p.nm:=by rw [cA,h1];rfl
 have b:(ps.map (·.nm))[j]?=some p.nm:=by rw [cA,h2,e];rfl
 exact Bc nd a b
variable {p0 p1:Pt} {q0:Addr×Addr×Addr}
theorem Xc {n:Nat} {st:HS} (h:aL T n ρ A H st) (k:Kp n ρ ρ H H' ts) (nd:(st.aj.map (·.nm)).Nodup) (ep:st.aj[i]?=some p0) (eq:A.qs[i]?=some q0) (e1:p1.nm=p0.nm)
  (hw:H' q0.1=some (.ins T.part q0.2.1 (cQ p1 q0.2.2))) (hs:∀{b:Addr} {t:Nat} {x:Str} {o:HO},ρ b=some (n,t,x)->t≠20\/x≠p0.nm->H b=some o->H' b=some o) (er:(.lst (p0.row.map V.int):HO) = .lst (p1.row.map V.int)):
  ∀(j:Nat) (p:Pt) (q:Addr×Addr×Addr),(st.aj.set i p1)[j]?=some p->A.qs[j]?=some q->H' q.1=some (.ins T.part q.2.1 (cQ p q.2.2))/\H' q.2.2=some (.lst (p.row.map V.int))/\ρ q.1=some (n,20,p.nm)/\ρ q.2.2=some (n,21,p.nm):=by
 intro j p q ej eq'
 by_cases hj:i=j
 . subst hj
   rw [eq] at eq';cases eq'
   rw [p_ (dO.mp ep).1] at ej
   cases ej
   obtain ⟨a,b,c,d⟩:=h.opt i p0 q0 ep eq
   exact ⟨hw,by rw [<-er];exact hs d (.inl (by decide)) b,by rw [e1];exact c,by rw [e1];exact d⟩
 . rw [yM hj] at ej
   obtain ⟨a,b,c,d⟩:=h.opt j p q ej eq'
   exact ⟨hs c (.inr fun e=>hj (CG nd ep ej e.symm)) a,hs d (.inl (by decide)) b,c,d⟩
variable {l:List Int}
theorem Uq {n:Nat} {st:HS} (h:aL T n ρ A H st) (nd:(st.aj.map (·.nm)).Nodup) (ep:st.aj[i]?=some p0) (eq:A.qs[i]?=some q0)
  (hw:H' q0.2.2=some (.lst (l.map V.int))) (hs:∀{b:Addr} {t:Nat} {x:Str} {o:HO},ρ b=some (n,t,x)->t≠21\/x≠p0.nm->H b=some o->H' b=some o):
  ∀(j:Nat) (p:Pt) (q:Addr×Addr×Addr),(st.aj.set i { p0 with row:=l })[j]?=some p->A.qs[j]?=some q->H' q.1=some (.ins T.part q.2.1 (cQ p q.2.2))/\H' q.2.2=some (.lst (p.row.map V.int))/\ρ q.1=some (n,20,p.nm)/\ρ q.2.2=some (n,21,p.nm):=by
 intro j p q ej eq'
 by_cases hj:i=j
 . subst hj
   rw [eq] at eq';cases eq'
   rw [p_ (dO.mp ep).1] at ej
   cases ej
   obtain ⟨a,b,c,d⟩:=h.opt i p0 q0 ep eq
   exact ⟨hs c (.inl (by decide)) a,hw,c,d⟩
 . rw [yM hj] at ej
   obtain ⟨a,b,c,d⟩:=h.opt j p q ej eq'
   exact ⟨hs c (.inl (by decide)) a,hs d (.inr fun e=>hj (CG nd ep ej e.symm)) b,c,d⟩
theorem ze {n:Nat} (c:ρ a=some (n,t,x)):∀{b:Addr} {u:Nat} {y:Str} {w:HO},ρ b=some (n,u,y)->u≠t\/y≠x->H b=some w->upd H a o b=some w:=fun {b u y w} hc hu h=>by
 rw [au (CF hc c (fun e=>by cases e;rcases hu with z|z <;> exact z rfl))];exact h
theorem aL.Zf {n:Nat} {st:HS} (h:aL T n ρ A H st) (g:Gh ρ H) (l:List Str):aL T n ρ A (upd H A.pl (.dK (fD 0 l))) { st with own:=l }:=by
 have k:=dD (o:= .dK (fD 0 l)) g h.fZ
 obtain ⟨vs,h1,h2⟩:=h.mC
 obtain ⟨kvs,k1,k2,k3⟩:=h.okn
 exact ⟨kz k h.ca h.oa,h.ca,ah,h.fZ,kz k h.eX h.c_,h.eX,⟨vs,kz k h.gr h1,h2.keep k (by decide)⟩,h.gr,kz k h.gu h.mD,h.gu,kz k h.gv h.iQ,h.gv,kz k h.gx h.gU,h.gx,kz k h.cpu h.jq,h.cpu,kz k h.gy h.kT,h.gy,⟨kvs,kz k h.gC k1,fun p hp=>let ⟨t,r,e,q⟩:=k2 p hp;⟨t,r,e,k.1 _ _ q⟩,k3⟩,h.gC,h.ql,fun i p q e1 e2=>let ⟨a,b,c,d⟩:=h.opt i p q e1 e2;⟨kz k c a,kz k d b,c,d⟩⟩
theorem aL.Ju {n:Nat} {st:HS} (h:aL T n ρ A H st) (g:Gh ρ H) (ps:List Pt) (qs:List (Addr×Addr×Addr)) (el:qs.length=ps.length) (hp:∀(i:Nat) (p:Pt) (q:Addr×Addr×Addr),ps[i]?=some p->qs[i]?=some q->H q.1=some (.ins T.part q.2.1 (cQ p q.2.2))/\H q.2.2=some (.lst (p.row.map V.int))/\ρ q.1=some (n,20,p.nm)/\ρ q.2.2=some (n,21,p.nm)):aL T n ρ { A with qs:=qs } (upd H A.ab (.dK (bN ps qs))) { st with aj:=ps }:=by
 have k:=dD (o:= .dK (bN ps qs)) g h.eX
 obtain ⟨vs,h1,h2⟩:=h.mC
 obtain ⟨kvs,k1,k2,k3⟩:=h.okn
 exact ⟨kz k h.ca h.oa,h.ca,kz k h.fZ h.gQ,h.fZ,ah,h.eX,⟨vs,kz k h.gr h1,h2.keep k (by decide)⟩,h.gr,kz k h.gu h.mD,h.gu,kz k h.gv h.iQ,h.gv,kz k h.gx h.gU,h.gx,kz k h.cpu h.jq,h.cpu,kz k h.gy h.kT,h.gy,⟨kvs,kz k h.gC k1,fun p hp=>let ⟨t,r,e,q⟩:=k2 p hp;⟨t,r,e,k.1 _ _ q⟩,k3⟩,h.gC,el,fun i p q e1 e2=>let ⟨a,b,c,d⟩:=hp i p q e1 e2;⟨kz k c a,kz k d b,c,d⟩⟩
theorem aL.Zg {n:Nat} {st:HS} (h:aL T n ρ A H st) (g:Gh ρ H) {l:Addr} {x:jN} {RK:List V} (hv:H A.as=some (.lst RK)) (e1:H r=some (.tup [.str x.nm, .str x.ow, .int x.wo, .ref l])) (e2:H l=some (.lst ss)) (e3:ρ l=some (n,30,⟨#[]⟩)) (e4:kO H ss x.sh):aL T n ρ A (upd H A.as (.lst (RK++[.ref r]))) { st with d_:=st.d_++[x] }:=by
 have k:=dD (o:= .lst (RK++[.ref r])) g h.gr
 obtain ⟨vs,h1,h2⟩:=h.mC
 obtain ⟨kvs,k1,k2,k3⟩:=h.okn
 exact ⟨kz k h.ca h.oa,h.ca,kz k h.fZ h.gQ,h.fZ,kz k h.eX h.c_,h.eX,⟨_,ah,by rw [hv] at h1;cases h1;exact (h2.keep k (by decide)).snoc (k.1 _ _ e1) (kz k e3 e2) e3 (e4.mono k.1)⟩,h.gr,kz k h.gu h.mD,h.gu,kz k h.gv h.iQ,h.gv,kz k h.gx h.gU,h.gx,kz k h.cpu h.jq,h.cpu,kz k h.gy h.kT,h.gy,⟨kvs,kz k h.gC k1,fun p hp=>let ⟨t,r,e,q⟩:=k2 p hp;⟨t,r,e,k.1 _ _ q⟩,k3⟩,h.gC,h.ql,fun i p q e1 e2=>let ⟨a,b,c,d⟩:=h.opt i p q e1 e2;⟨kz k c a,kz k d b,c,d⟩⟩
theorem aL.Zh {n:Nat} {st:HS} (h:aL T n ρ A H st) (g:Gh ρ H) (l:List Str):aL T n ρ A (upd H A.nm (.dK (wL l))) { st with nms:=l }:=by
 have k:=dD (o:= .dK (wL l)) g h.gu
 obtain ⟨vs,h1,h2⟩:=h.mC
 obtain ⟨kvs,k1,k2,k3⟩:=h.okn
 exact ⟨kz k h.ca h.oa,h.ca,kz k h.fZ h.gQ,h.fZ,kz k h.eX h.c_,h.eX,⟨vs,kz k h.gr h1,h2.keep k (by decide)⟩,h.gr,ah,h.gu,kz k h.gv h.iQ,h.gv,kz k h.gx h.gU,h.gx,kz k h.cpu h.jq,h.cpu,kz k h.gy h.kT,h.gy,⟨kvs,kz k h.gC k1,fun p hp=>let ⟨t,r,e,q⟩:=k2 p hp;⟨t,r,e,k.1 _ _ q⟩,k3⟩,h.gC,h.ql,fun i p q e1 e2=>let ⟨a,b,c,d⟩:=h.opt i p q e1 e2;⟨kz k c a,kz k d b,c,d⟩⟩
theorem aL.Zi {n:Nat} {st:HS} (h:aL T n ρ A H st) (g:Gh ρ H) (l:List Int):aL T n ρ A (upd H A.cm (.lst (l.map V.int))) { st with bz:=l }:=by
 have k:=dD (o:= .lst (l.map V.int)) g h.gx
 obtain ⟨vs,h1,h2⟩:=h.mC
 obtain ⟨kvs,k1,k2,k3⟩:=h.okn
 exact ⟨kz k h.ca h.oa,h.ca,kz k h.fZ h.gQ,h.fZ,kz k h.eX h.c_,h.eX,⟨vs,kz k h.gr h1,h2.keep k (by decide)⟩,h.gr,kz k h.gu h.mD,h.gu,kz k h.gv h.iQ,h.gv,ah,h.gx,kz k h.cpu h.jq,h.cpu,kz k h.gy h.kT,h.gy,⟨kvs,kz k h.gC k1,fun p hp=>let ⟨t,r,e,q⟩:=k2 p hp;⟨t,r,e,k.1 _ _ q⟩,k3⟩,h.gC,h.ql,fun i p q e1 e2=>let ⟨a,b,c,d⟩:=h.opt i p q e1 e2;⟨kz k c a,kz k d b,c,d⟩⟩
theorem aL.Zj {n:Nat} {st:HS} (h:aL T n ρ A H st) (g:Gh ρ H) (l:List Int):aL T n ρ A (upd H A.pu (.lst (l.map V.int))) { st with bL:=l }:=by
 have k:=dD (o:= .lst (l.map V.int)) g h.cpu
 obtain ⟨vs,h1,h2⟩:=h.mC
 obtain ⟨kvs,k1,k2,k3⟩:=h.okn
 exact ⟨kz k h.ca h.oa,h.ca,kz k h.fZ h.gQ,h.fZ,kz k h.eX h.c_,h.eX,⟨vs,kz k h.gr h1,h2.keep k (by decide)⟩,h.gr,kz k h.gu h.mD,h.gu,kz k h.gv h.iQ,h.gv,kz k h.gx h.gU,h.gx,ah,h.cpu,kz k h.gy h.kT,h.gy,⟨kvs,kz k h.gC k1,fun p hp=>let ⟨t,r,e,q⟩:=k2 p hp;⟨t,r,e,k.1 _ _ q⟩,k3⟩,h.gC,h.ql,fun i p q e1 e2=>let ⟨a,b,c,d⟩:=h.opt i p q e1 e2;⟨kz k c a,kz k d b,c,d⟩⟩
theorem aL.Zk {n:Nat} {st:HS} (h:aL T n ρ A H st) (g:Gh ρ H) (l:List Int):aL T n ρ A (upd H A.sp (.lst (l.map V.int))) { st with stp:=l }:=by
 have k:=dD (o:= .lst (l.map V.int)) g h.gy
 obtain ⟨vs,h1,h2⟩:=h.mC
 obtain ⟨kvs,k1,k2,k3⟩:=h.okn
 exact ⟨kz k h.ca h.oa,h.ca,kz k h.fZ h.gQ,h.fZ,kz k h.eX h.c_,h.eX,⟨vs,kz k h.gr h1,h2.keep k (by decide)⟩,h.gr,kz k h.gu h.mD,h.gu,kz k h.gv h.iQ,h.gv,kz k h.gx h.gU,h.gx,kz k h.cpu h.jq,h.cpu,ah,h.gy,⟨kvs,kz k h.gC k1,fun p hp=>let ⟨t,r,e,q⟩:=k2 p hp;⟨t,r,e,k.1 _ _ q⟩,k3⟩,h.gC,h.ql,fun i p q e1 e2=>let ⟨a,b,c,d⟩:=h.opt i p q e1 e2;⟨kz k c a,kz k d b,c,d⟩⟩
theorem aL.RL {n:Nat} {st:HS} (h:aL T n ρ A H st) (g:Gh ρ H) (q:Addr) (l:List Int) (e:H q=some (.lst (l.map V.int))) (c:ρ q=col n 6):aL T n ρ { A with cm:=q } (upd H A.a (.ins T.hold A.dx (dI { A with cm:=q }))) { st with bz:=l }:=by
 have k:=dD (o:= .ins T.hold A.dx (dI { A with cm:=q })) g h.ca
 obtain ⟨vs,h1,h2⟩:=h.mC
 obtain ⟨kvs,k1,k2,k3⟩:=h.okn
 exact ⟨ah,h.ca,kz k h.fZ h.gQ,h.fZ,kz k h.eX h.c_,h.eX,⟨vs,kz k h.gr h1,h2.keep k (by decide)⟩,h.gr,kz k h.gu h.mD,h.gu,kz k h.gv h.iQ,h.gv,kz k c e,c,kz k h.cpu h.jq,h.cpu,kz k h.gy h.kT,h.gy,⟨kvs,kz k h.gC k1,fun p hp=>let ⟨t,r,e,q⟩:=k2 p hp;⟨t,r,e,k.1 _ _ q⟩,k3⟩,h.gC,h.ql,fun i p q e1 e2=>let ⟨a,b,c,d⟩:=h.opt i p q e1 e2;⟨kz k c a,kz k d b,c,d⟩⟩
theorem aL.Jv {n:Nat} {st:HS} (h:aL T n ρ A H st) (g:Gh ρ H) (q:Addr) (l:List Int) (e:H q=some (.lst (l.map V.int))) (c:ρ q=col n 7):aL T n ρ { A with pu:=q } (upd H A.a (.ins T.hold A.dx (dI { A with pu:=q }))) { st with bL:=l }:=by
 have k:=dD (o:= .ins T.hold A.dx (dI { A with pu:=q })) g h.ca
 obtain ⟨vs,h1,h2⟩:=h.mC
 obtain ⟨kvs,k1,k2,k3⟩:=h.okn
 exact ⟨ah,h.ca,kz k h.fZ h.gQ,h.fZ,kz k h.eX h.c_,h.eX,⟨vs,kz k h.gr h1,h2.keep k (by decide)⟩,h.gr,kz k h.gu h.mD,h.gu,kz k h.gv h.iQ,h.gv,kz k h.gx h.gU,h.gx,kz k c e,c,kz k h.gy h.kT,h.gy,⟨kvs,kz k h.gC k1,fun p hp=>let ⟨t,r,e,q⟩:=k2 p hp;⟨t,r,e,k.1 _ _ q⟩,k3⟩,h.gC,h.ql,fun i p q e1 e2=>let ⟨a,b,c,d⟩:=h.opt i p q e1 e2;⟨kz k c a,kz k d b,c,d⟩⟩
theorem aL.Zl {n:Nat} {st:HS} (h:aL T n ρ A H st) (g:Gh ρ H) (m:Int) (q:Addr) (e:H q=some (.dK [])) (c:ρ q=col n 9):aL T n ρ { A with kn:=q } (upd H A.bt (.ins T.bot A.db (jD A.sp m q))) { st with prod:=m,kn:=0 }:=by
 have k:=dD (o:= .ins T.bot A.db (jD A.sp m q)) g h.gv
 obtain ⟨vs,h1,h2⟩:=h.mC
 obtain ⟨kvs,k1,k2,k3⟩:=h.okn
 exact ⟨kz k h.ca h.oa,h.ca,kz k h.fZ h.gQ,h.fZ,kz k h.eX h.c_,h.eX,⟨vs,kz k h.gr h1,h2.keep k (by decide)⟩,h.gr,kz k h.gu h.mD,h.gu,ah,h.gv,kz k h.gx h.gU,h.gx,kz k h.cpu h.jq,h.cpu,kz k h.gy h.kT,h.gy,⟨[],kz k c e,(fun p hp=>absurd hp (by simp)),aN _,s_⟩,c,h.ql,fun i p q e1 e2=>let ⟨a,b,c,d⟩:=h.opt i p q e1 e2;⟨kz k c a,kz k d b,c,d⟩⟩
theorem aL.i8 {n:Nat} {st:HS} (h:aL T n ρ A H st) (g:Gh ρ H) (ep:st.aj[i]?=some p0) (eq:A.qs[i]?=some q0) (e1:p1.nm=p0.nm) (e2:p1.row=p0.row) (nd:(st.aj.map (·.nm)).Nodup):aL T n ρ A (upd H q0.1 (.ins T.part q0.2.1 (cQ p1 q0.2.2))) { st with aj:=st.aj.set i p1 }:=by
 have k:=dD (o:= .ins T.part q0.2.1 (cQ p1 q0.2.2)) g (h.opt i p0 q0 ep eq).2.2.1
 obtain ⟨vs,h1,h2⟩:=h.mC
 obtain ⟨kvs,k1,k2,k3⟩:=h.okn
 exact ⟨kz k h.ca h.oa,h.ca,kz k h.fZ h.gQ,h.fZ,by rw [Ar ep e1];exact kz k h.eX h.c_,h.eX,⟨vs,kz k h.gr h1,h2.keep k (by decide)⟩,h.gr,kz k h.gu h.mD,h.gu,kz k h.gv h.iQ,h.gv,kz k h.gx h.gU,h.gx,kz k h.cpu h.jq,h.cpu,kz k h.gy h.kT,h.gy,⟨kvs,kz k h.gC k1,fun p hp=>let ⟨t,r,e,q⟩:=k2 p hp;⟨t,r,e,k.1 _ _ q⟩,k3⟩,h.gC,by rw [iL];exact h.ql,Xc h k nd ep eq e1 ah (ze (h.opt i p0 q0 ep eq).2.2.1) (by rw [e2])⟩
theorem aL.Xd {n:Nat} {st:HS} (h:aL T n ρ A H st) (g:Gh ρ H) (l:List Int) (ep:st.aj[i]?=some p0) (eq:A.qs[i]?=some q0) (nd:(st.aj.map (·.nm)).Nodup):aL T n ρ A (upd H q0.2.2 (.lst (l.map V.int))) { st with aj:=st.aj.set i { p0 with row:=l } }:=by
 have k:=dD (o:= .lst (l.map V.int)) g (h.opt i p0 q0 ep eq).2.2.2
 obtain ⟨vs,h1,h2⟩:=h.mC
 obtain ⟨kvs,k1,k2,k3⟩:=h.okn
 exact ⟨kz k h.ca h.oa,h.ca,kz k h.fZ h.gQ,h.fZ,by show _=some (HO.dK (bN (st.aj.set i { p0 with row:=l }) A.qs));rw [Ar (p1:={ p0 with row:=l }) ep rfl];exact kz k h.eX h.c_,h.eX,⟨vs,kz k h.gr h1,h2.keep k (by decide)⟩,h.gr,kz k h.gu h.mD,h.gu,kz k h.gv h.iQ,h.gv,kz k h.gx h.gU,h.gx,kz k h.cpu h.jq,h.cpu,kz k h.gy h.kT,h.gy,⟨kvs,kz k h.gC k1,fun p hp=>let ⟨t,r,e,q⟩:=k2 p hp;⟨t,r,e,k.1 _ _ q⟩,k3⟩,h.gC,by rw [iL];exact h.ql,Uq h nd ep eq ah (ze (h.opt i p0 q0 ep eq).2.2.2)⟩
structure Txt (K:Fg) (T:TC):Prop where
 cH:oQ K T.hold
 cP:oQ K T.part
 cB:oQ K T.bot
 hpl:e_ K T.hold "places"
 hab:e_ K T.hold "aboard"
 has:e_ K T.hold "ashore"
 hnm:e_ K T.hold "names"
 vc:e_ K T.hold "bottom"
 wM:e_ K T.hold "common"
 zf:e_ K T.hold "purses"
 RM:e_ K T.part "name"
 pow:e_ K T.part "owner"
 uc:e_ K T.part "worth"
 RN:e_ K T.part "weight"
 CH:e_ K T.part "scale"
 FG:e_ K T.part "row"
 RO:e_ K T.bot "steps"
 FH:e_ K T.bot "product"
 RP:e_ K T.bot "known"
structure Wf (st:HS):Prop where
 nN:st.own.Nodup
 xU:st.nms.Nodup
 dh:(st.aj.map (·.nm)).Nodup
 sub:∀p∈st.aj,p.nm∈st.nms
 rows:∀p∈st.aj,p.row.length=st.own.length
 ow:∀p∈st.aj,p.ow∈st.own
 fV:st.bz.length=st.own.length
 nO:st.bL.length=st.own.length
 d9:1<=st.prod
 oX:st.prod=st.stp.foldl (·*·) 1
 ud:∀s∈st.stp,2<=s
 j8:st.own.length<=100
 xV:st.nms.length<=1000
 lD:st.aj.length<=1000
 zg:st.stp.length<=100
 ue:st.d_.length<=1000
 FI:st.kn<=1000000
 big:Jm.Sz 8000 st.prod
 nP:∀c∈st.bz,0<=c/\c<=st.prod
 oY:∀p∈st.aj,1<=p.sc/\p.sc<=st.prod
 mG:∀p∈st.aj,∀r∈p.row,-st.prod<=r/\r<=st.prod
 nQ:∀p∈st.aj,∀t∈List.zipWith (fun r c=>p.sc*r+c) p.row st.bz,0<=t/\t<=st.prod
 jr:∀p∈st.aj,1<=p.wo/\0<=p.we
 D7:∀u∈st.bL,Jm.Sz 9000 u
structure HH (T:TC) (n:Nat) (ρ:cR) (A:HA) (H:Hp) (st:HS):Prop where
 g:Gh ρ H
 h:aL T n ρ A H st
 wf:Wf st
def vd (T:TC) (n:Nat) (ρ:cR) (A:HA) (H:Hp) (st:HS) (Q:Hp->Prop):Prop:=∀ρ' A' H',HH T n ρ' A' H' st->A'.a=A.a->Fr n ρ H ρ' H'->Q H'
def hs0:HS:=⟨[],[],[],[],[],1,0,[],[]⟩
theorem wf0:Wf hs0:=by
 refine ⟨s_,s_,s_,?_,?_,?_,Z,Z,?_,Z,?_,?_,?_,?_,?_,?_,?_,?_,?_,?_,?_,?_,?_,?_⟩ <;> first|(intro _ h;exact absurd h (by simp [hs0]))|decide|(show Jm.Sz 8000 1;exact oU (by decide +kernel))
theorem NV:∀{l:List Str} {i:Nat} {o:Str},o∈l->dM (fD i l) (Sum.inr o)=some (.int ((i+l.idxOf o:Nat):Int))
 | [],_,_,h=>by simp at h
 | x::l,i,o,h=>by
   by_cases e:x=o
   . subst e
     rw [show fD i (x::l)=(Sum.inr x, .int i)::fD (i+1) l from rfl,gq rfl]
     simp
   . rw [show fD i (x::l)=(Sum.inr x, .int i)::fD (i+1) l from rfl,eO (by intro z;exact e (qS z))]
     have hm:o∈l:=by
      rcases dz.mp h with z|z
      . exact absurd z.symm e
      . exact z
     rw [NV hm]
     have eb:(x==o)=false:=by simpa using e
     have:(x::l).idxOf o=l.idxOf o+1:=by rw [List.idxOf_cons,eb];rfl
     rw [this]
     show some (V.int ((i+1+l.idxOf o:Nat):Int))=some (V.int ((i+(l.idxOf o+1):Nat):Int))
     rw [show i+1+l.idxOf o=i+(l.idxOf o+1) from by omega]
theorem oZ:∀{l:List Str} {i:Nat} {o:Str},o∉l->dM (fD i l) (Sum.inr o)=none
 | [],_,_,_=>rfl
 | x::l,i,o,h=>by
   rw [show fD i (x::l)=(Sum.inr x, .int i)::fD (i+1) l from rfl,eO (fun z=>h (by rw [<-qS z];exact cS))]
   exact oZ fun m=>h (cD _ m)
theorem o6:∀(l:List Str) (i:Nat),(fD i l).length=l.length
 | [],_=>rfl
 | _::l,i=>by rw [show ∀x,fD i (x::l)=(Sum.inr x, .int i)::fD (i+1) l from fun _=>rfl,jZ,jZ,o6 l]
theorem Jw:∀(l:List Str) (i:Nat) (o:Str),fD i (l++[o])=fD i l++[(Sum.inr o, .int ((i+l.length:Nat):Int))]
 | [],i,o=>rfl
 | x::l,i,o=>by
   show (Sum.inr x,V.int i)::fD (i+1) (l++[o])=_
   rw [Jw l (i+1) o]
   show _=(Sum.inr x,V.int i)::(fD (i+1) l++_)
   rw [jZ,show i+1+l.length=i+(l.length+1) from by omega]
theorem Jx:∀(l:List Str) (i:Nat),(fD i l).map (fun p=>kV p.1)=l.map V.str
 | [],_=>rfl
 | x::l,i=>by
   show kV (Sum.inr x)::(fD (i+1) l).map _=V.str x::l.map V.str
   rw [Jx l]
   rfl
variable {qs:List (Addr×Addr×Addr)}
theorem tK {ps:List Pt} {q:Addr×Addr×Addr} (h1:ps[i]?=some p) (h2:qs[i]?=some q):(bN ps qs)[i]?=some (Sum.inr p.nm, .ref q.1):=by
 unfold bN
 rw [OT,h1,h2]
theorem tL {ps:List Pt} (h:qs.length=ps.length):(bN ps qs).length=ps.length:=by
 unfold bN
 rw [kL,h,xG]
theorem tM:∀{ps:List Pt} {qs:List (Addr×Addr×Addr)} {i:Nat} {p:Pt} {q:Addr×Addr×Addr},(ps.map (·.nm)).Nodup->ps[i]?=some p->qs[i]?=some q->dM (bN ps qs) (Sum.inr p.nm)=some (.ref q.1)
 | [],_,_,_,_,_,h,_=>by simp at h
 | _::_,[],_,_,_,_,_,h=>by simp at h
 | a::ps,b::qs,0,p,q,_,h1,h2=>by
   have e1:a=p:=by simpa using h1
   have e2:b=q:=by simpa using h2
   subst e1 e2
   exact gq rfl
 | a::ps,b::qs,i+1,p,q,nd,h1,h2=>by
   have nd':=fP.mp (show (a.nm::ps.map (·.nm)).Nodup from nd)
   have CI:ps[i]?=some p:=by simpa using h1
   rw [show bN (a::ps) (b::qs)=(Sum.inr a.nm, .ref b.1)::bN ps qs from rfl,eO (fun z=>nd'.1 (bH.mpr ⟨p,cg CI,(qS z).symm⟩))]
   exact tM nd'.2 CI (by simpa using h2)
theorem o7:∀{ps:List Pt} {qs:List (Addr×Addr×Addr)} {x:Str},(∀p∈ps,p.nm≠x)->dM (bN ps qs) (Sum.inr x)=none
 | [],_,_,_=>rfl
 | _::_,[],_,_=>rfl
 | a::ps,b::qs,x,h=>by
   rw [show bN (a::ps) (b::qs)=(Sum.inr a.nm, .ref b.1)::bN ps qs from rfl,eO (fun z=>h a cS (qS z))]
   exact o7 fun p hp=>h p (cD _ hp)
theorem Jy {ps:List Pt} (h:qs.length=ps.length) (p:Pt) (q:Addr×Addr×Addr):bN (ps++[p]) (qs++[q])=bN ps qs++[(Sum.inr p.nm, .ref q.1)] :=by
 unfold bN
 rw [List.zipWith_append h.symm]
 rfl
theorem zh {l:List Str} (h:x∉l):dM (wL l) (Sum.inr x)=none:=by
 unfold wL
 induction l with
 | nil=>rfl
 | cons a l ih=>
   rw [bw,eO (fun z=>h (by rw [<-qS z];exact cS))]
   exact ih fun m=>h (cD _ m)
theorem Jz {l:List Str} (h:x∈l):dM (wL l) (Sum.inr x)=some (.bl true):=by
 unfold wL
 induction l with
 | nil=>simp at h
 | cons a l ih=>
   rw [bw]
   by_cases e:a=x
   . exact gq (by rw [e])
   . rw [eO (fun z=>e (qS z))]
     exact ih ((dz.mp h).resolve_left fun z=>e z.symm)
theorem aL.find {n:Nat} {st:HS} (h:aL T n ρ A H st) (e:st.aj[i]?=some p):∃q,A.qs[i]?=some q/\H q.1=some (.ins T.part q.2.1 (cQ p q.2.2))/\H q.2.2=some (.lst (p.row.map V.int))/\ρ q.1=some (n,20,p.nm)/\ρ q.2.2=some (n,21,p.nm):=by
 have hi:i<A.qs.length:=by rw [h.ql];exact (dO.mp e).1
 exact ⟨A.qs[i],bD hi,h.opt i p _ e (bD hi)⟩
def gO (st:HS) (o:Str):HS:={ st with own:=st.own++[o],bz:=st.bz++[0],bL:=st.bL++[0],aj:=st.aj.map fun p=>{ p with row:=p.row++[0] } }
def aS (st:HS) (p:Pt):List Int:=List.zipWith (fun r c=>p.sc*r+c) p.row st.bz
def lE (st:HS) (tops:List Int):List Int:=List.zipWith (fun t c=>t-c) tops st.bz
def CJ (st:HS) (p:Pt):HS:={ st with aj:=st.aj++[p],nms:=st.nms++[p.nm] }
def Io (st:HS) (x o:Str) (wo we:Int):HS:=CJ st ⟨x,o,wo,we,1,lE st ((List.replicate st.own.length 0).set (st.own.idxOf o) st.prod)⟩
def aC (st:HS):Int:=(st.aj.map (·.wo)).sum
def o8 (st:HS) (p:Pt):List (Str×Rat):=(List.zip st.own (aS st p)).filterMap fun x=>if 0<x.2 then some (x.1,Jm.fr x.2 st.prod) else none
def JA (n:Nat) (q1 q2:Addr) (ρ:cR) (H:Hp) (ρ':cR) (H':Hp):Prop:=∀b o,H b=some o->(∀t x,ρ b≠some (n,t,x))->b≠q1->b≠q2->H' b=some o/\ρ' b=ρ b
theorem JA.trans {n:Nat} {ρ2:cR} (a:JA n q1 q2 ρ H ρ1 H1) (b:Fr n ρ1 H1 ρ2 H2):JA n q1 q2 ρ H ρ2 H2:=fun c o h k x y=>by
 obtain ⟨h1,e1⟩:=a c o h k x y
 obtain ⟨h2,e2⟩:=b c o h1 (by rw [e1];exact k)
 exact ⟨h2,e2.trans e1⟩
theorem JA.fr {n:Nat} {ρ2:cR} (b:JA n q1 q2 ρ1 H1 ρ2 H2) (a:Fr n ρ H ρ1 H1) (h1:H q1=none) (h2:H q2=none):Fr n ρ H ρ2 H2:=fun c o h k=>by
 obtain ⟨e1,e2⟩:=a c o h k
 obtain ⟨e3,e4⟩:=b c o e1 (by rw [e2];exact k) (aF h h1) (aF h h2)
 exact ⟨e3,e4.trans e2⟩
def isNm (o:Str):Bool:=isName o.cps.toList
inductive Zm (T:TC) (vs:List V) (H:Hp) (Q:VK) (E:XK):Prop
 | mk (p dx:_) (_:vs=[.ref p]) (_:H p=some (.ins T.bot dx [])) (_:∀sp kn H',H sp=none->H kn=none->sp≠kn->(∀b o,H b=some o->b≠p->H' b=some o)->H' p=some (.ins T.bot dx (jD sp 1 kn))->H' sp=some (.lst [])->H' kn=some (.dK [])->Q .b9 H')
def D8 (T:TC):Sp:=bx (Zm T)
inductive Zn (T:TC) (K:Fg) (vs:List V) (H:Hp) (Q:VK) (E:XK):Prop
 | mk (p dx l:Addr) (pt:Pt) (_:vs=[.ref p, .str pt.nm, .str pt.ow, .int pt.wo, .int pt.we, .int pt.sc, .ref l]) (_:H p=some (.ins T.part dx [])) (_:aK K H l (pt.row.map V.int)) (_:∀r H',H r=none->(∀b o,H b=some o->b≠p->H' b=some o)->H' p=some (.ins T.part dx (cQ pt r))->H' r=some (.lst (pt.row.map V.int))->Q .b9 H')
def As (T:TC) (K:Fg):Sp:=bx (Zn T K)
inductive Zo (T:TC) (vs:List V) (H:Hp) (Q:VK) (E:XK):Prop
 | mk (p dx ρ n:_) (_:vs=[.ref p]) (_:H p=some (.ins T.hold dx [])) (_:Gh ρ H) (_:ρ p=none) (_:∀ρ' A H',A.a=p->HH T n ρ' A H' hs0->(∀b o,H b=some o->b≠p->H' b=some o/\ρ' b=ρ b)->Q .b9 H')
def D9 (T:TC):Sp:=bx (Zo T)
inductive Zp (T:TC) (vs:List V) (H:Hp) (Q:VK) (E:XK):Prop
 | mk (n ρ A st o:_) (_:vs=[.ref A.a, .str o]) (_:aL T n ρ A H st) (_:o∈st.own) (_:Q (.int (st.own.idxOf o:Int)) H)
def Au (T:TC):Sp:=bx (Zp T)
inductive Xe (T:TC) (vs:List V) (H:Hp) (Q:VK) (E:XK):Prop
 | mk (n ρ A st:_) (i:Nat) (p:Pt) (q:Addr×Addr×Addr) (_:vs=[.ref A.a, .str p.nm]) (_:aL T n ρ A H st) (_:(st.aj.map (·.nm)).Nodup) (_:st.aj[i]?=some p) (_:A.qs[i]?=some q) (_:Q (.ref q.1) H)
def Bl (T:TC):Sp:=bx (Xe T)
inductive RQ (T:TC) (vs:List V) (H:Hp) (Q:VK) (E:XK):Prop
 | mk (n ρ A st x:_) (_:vs=[.ref A.a, .str x]) (_:aL T n ρ A H st) (_:isNm x=true) (_:x∉st.nms) (_:∀H',aO H H'->Q .b9 H')
def CK (T:TC):Sp:=bx (RQ T)
inductive afu (T:TC) (K:Fg) (vs:List V) (H:Hp) (Q:VK) (E:XK):Prop
 | mk (n ρ A st l:_) (tops:List Int) (_:vs=[.ref A.a, .ref l]) (_:aL T n ρ A H st) (_:aK K H l (tops.map V.int)) (_:tops.length=st.bz.length) (_:tops.length<=1000) (_:∀r H',aO H H'->H r=none->H' r=some (.lst ((lE st tops).map V.int))->Q (.ref r) H')
def PK (T:TC) (K:Fg):Sp:=bx (afu T K)
inductive Zq (T:TC) (vs:List V) (H:Hp) (Q:VK) (E:XK):Prop
 | mk (n ρ A st:_) (i:Nat) (p:Pt) (q:Addr×Addr×Addr) (_:vs=[.ref A.a, .ref q.1]) (_:aL T n ρ A H st) (_:Wf st) (_:st.aj[i]?=some p) (_:A.qs[i]?=some q) (_:∀r H',aO H H'->H r=none->H' r=some (.lst ((aS st p).map V.int))->Q (.ref r) H')
def Av (T:TC):Sp:=bx (Zq T)
inductive ab1 (T:TC) (vs:List V) (H:Hp) (Q:VK) (E:XK):Prop
 | mk (n ρ A st:_) (q:Addr×Addr×Addr) (p:Pt) (_:vs=[.ref A.a, .ref q.1]) (_:HH T n ρ A H st) (_:H q.1=some (.ins T.part q.2.1 (cQ p q.2.2))) (_:H q.2.2=some (.lst (p.row.map V.int))) (_:ρ q.1=none) (_:ρ q.2.2=none) (_:p.nm∉st.nms) (_:Wf (CJ st p)) (_:∀ρ' A' H',HH T n ρ' A' H' (CJ st p:_)->A'.a=A.a->JA n q.1 q.2.2 ρ H ρ' H'->Q .b9 H')
def JB (T:TC):Sp:=bx (ab1 T)
inductive Zr (T:TC) (vs:List V) (H:Hp) (Q:VK) (E:XK):Prop
 | mk (n ρ A st o:_) (_:vs=[.ref A.a, .str o]) (_:HH T n ρ A H st) (_:isNm o=true) (_:o∉st.own) (_:st.own.length<100) (_:vd T n ρ A H (gO st o:_) fun H'=>Q .b9 H')
def D_ (T:TC):Sp:=bx (Zr T)
inductive ab2 (T:TC) (vs:List V) (H:Hp) (Q:VK) (E:XK):Prop
 | mk (n ρ A st x o wo we:_) (_:vs=[.ref A.a, .str x, .str o, .int wo, .int we]) (_:HH T n ρ A H st) (_:isNm x=true) (_:x∉st.nms) (_:o∈st.own) (_:1<=wo) (_:0<=we) (_:st.nms.length<1000) (_:st.aj.length<1000) (_:vd T n ρ A H (Io st x o wo we:_) fun H'=>Q .b9 H')
def RS (T:TC):Sp:=bx (ab2 T)
inductive Zs (T:TC) (vs:List V) (H:Hp) (Q:VK) (E:XK):Prop
 | mk (n ρ A st:_) (_:vs=[.ref A.a]) (_:aL T n ρ A H st) (_:st.aj.length<=1000) (_:∀H',aO H H'->Q (.int (aC st)) H')
def wN (T:TC):Sp:=bx (Zs T)
inductive Zt (T:TC) (vs:List V) (H:Hp) (Q:VK) (E:XK):Prop
 | mk (bt db sp kn:Addr) (stp:List Int) (prod top:Int) (_:vs=[.ref bt, .int top]) (_:H bt=some (.ins T.bot db (jD sp prod kn))) (_:H sp=some (.lst (stp.map V.int))) (_:prod=stp.foldl (·*·) 1) (_:(∀s∈stp,2<=s)) (_:Jm.Sz 8000 prod) (_:∀r H',aO H H'->H' r=some (qe (Jm.fr top prod))->Q (.ref r) H')
def Ea (T:TC):Sp:=bx (Zt T)
inductive Xf (T:TC) (vs:List V) (H:Hp) (Q:VK) (E:XK):Prop
 | mk (bt db sp kn:Addr) (stp:List Int) (prod top:Int) (kvs:List (Key×V)) (_:vs=[.ref bt, .int top]) (_:H bt=some (.ins T.bot db (jD sp prod kn))) (_:H sp=some (.lst (stp.map V.int))) (_:prod=stp.foldl (·*·) 1) (_:(∀s∈stp,2<=s)) (_:Jm.Sz 8000 prod) (_:H kn=some (.dK kvs)) (_:Jt H kvs prod) (_:kvs.length<10000000) (_:(kvs.map (·.1)).Nodup) (_:∀r H' kvs',(∀b o,H b=some o->b≠kn->H' b=some o)->H' kn=some (.dK kvs')->Jt H' kvs' prod->kvs'.length<=kvs.length+1->(kvs'.map (·.1)).Nodup->H' r=some (qe (Jm.fr top prod))->Q (.ref r) H')
def JC (T:TC):Sp:=bx (Xf T)
inductive wO (ρ:cR) (H:Hp):List V->List jN->Prop
 | nil:wO ρ H [] []
 | cons {r l:Addr} {x:jN} {ss:List V} {vs:List V} {as:List jN}:H r=some (.tup [.str x.nm, .str x.ow, .int x.wo, .ref l])->H l=some (.lst ss)->ρ l=none->kO H ss x.sh->wO ρ H vs as->wO ρ H (.ref r::vs) (x::as)
theorem kO.snoc {l:List (Str×Rat)} {q:Rat} (h:kO H vs l) (e:H r=some (.tup [.str x, .ref f])) (e2:H f=some (qe q)):kO H (vs++[.ref r]) (l++[(x,q)]):=by
 induction h with
 | nil=>exact .cons e e2 .nil
 | cons a b _ ih=>exact .cons a b ih
theorem jO {p:Addr} (h:H p=none\/∃u,H p=some u/\isTup u=false):∀b xs,H b=some (.tup xs)->upd H p o b=some (.tup xs):=fun b xs e=>by
 rw [au (fun z=>?_)]
 . exact e
 . rw [z] at e
   rcases h with h|⟨u,h,t⟩
   . rw [h] at e;cases e
   . rw [h] at e;cases e;cases t
theorem JD (h:isNm x=true):x.cps.toList.length<=100000:=by
 unfold isNm isName at h
 have:=bg (nJ.mp (nJ.mp h).1).2
 omega
theorem qg {d:Addr} {o:Obj} (e:H d=some (.dK kvs)) (s:aO (upd H d (.eF o (.dK kvs))) H1):aO H (upd H1 d (.dK kvs)):=fun b u q=>by
 by_cases h:b=d
 . rw [h,e] at q;cases q;rw [h];exact ah
 . rw [au h];exact s b u (by rw [au h];exact q)
theorem dY {d:Addr} {o:Obj} {u:HO} (e:H d=some (.dK kvs)) (q:H b=some u) (h:∀k,u ≠ .dK k):upd H d (.eF o (.dK kvs)) b=some u:=by
 rw [au (fun z=>by rw [z,e] at q;cases q;exact h _ rfl)];exact q
theorem jE {d:Addr} {o:Obj} (e:H d=some (.dK kvs)) (q:upd H d (.eF o (.dK kvs)) b=none):H b=none:=by
 by_cases h:b=d
 . rw [h,ah] at q;cases q
 . rw [au h] at q;exact q
theorem aO.tups (s:aO H H'):∀b xs,H b=some (.tup xs)->H' b=some (.tup xs):=fun b xs h=>s b _ h
theorem take_snoc {α:Type} {l:List α} {x:α} (h:l[i]?=some x):l.take (i+1)=l.take i++[x] :=by rw [List.take_add_one,h];rfl
theorem rN {α β γ:Type} (f:α->β->γ) {xs:List α} {ys:List β} {x:α} {y:β} (h1:xs[i]?=some x) (h2:ys[i]?=some y):List.zipWith f (xs.take (i+1)) (ys.take (i+1))=List.zipWith f (xs.take i) (ys.take i)++[f x y] :=by
 have l1:=(dO.mp h1).1
 have l2:=(dO.mp h2).1
 rw [take_snoc h1,take_snoc h2,List.zipWith_append (by rw [nK,nK];omega)]
 rfl
theorem fW {v:V} (h:(l.map V.int)[i]?=some v):∃z,v = .int z/\l[i]?=some z:=by
 rw [cA] at h
 obtain ⟨z,hz,rfl⟩:=nH.mp h
 exact ⟨z,Z,hz⟩
theorem HH.mono {n:Nat} {st:HS} (h:HH T n ρ A H st) (s:aO H H'):HH T n ρ A H' st:=⟨h.g.same s,h.h.mono s,h.wf⟩
theorem wQ {n:Nat} {u:HO} (c:ρ a=none) (h:H a=some u) (t:isTup u=false):Kp n ρ ρ H (upd H a o) ts:=
 ⟨jO (.inr ⟨u,h,t⟩),fun b x y w _ hc e=>⟨by rw [au (fun z=>by rw [z,c] at hc;cases hc)];exact e,hc⟩⟩
theorem HH.CL {n:Nat} {st:HS} {u:HO} (h:HH T n ρ A H st) (c:ρ a=none) (e:H a=some u) (t:isTup u=false) (t2:isTup o=false):HH T n ρ A (upd H a o) st:=⟨h.g.wr t2,h.h.same (wQ c e t),h.wf⟩
theorem Fr.new {n:Nat} (f:Fr n ρ H ρ' H') (h:H a=none):Fr n ρ H ρ' (upd H' a o):=fun b u e k=>by
 rw [au (aF e h)];exact f b u e k
theorem FJ {α β γ:Type} (f:α->β->γ) {xs:List α} {ys:List β} (h:xs.length=ys.length) (x:α) (y:β):List.zipWith f (xs++[x]) (ys++[y])=List.zipWith f xs ys++[f x y] :=by
 rw [List.zipWith_append h];rfl
theorem Eb {st:HS} (w:Wf st) {o:Str} (h:o∉st.own) (hl:st.own.length<100):Wf (gO st o):=by
 have P:∀p∈(gO st o).aj,∃p0∈st.aj,p={ p0 with row:=p0.row++[0] }:=fun p hp=>by
  obtain ⟨p0,h0,rfl⟩:=bH.mp (show p∈st.aj.map _ from hp)
  exact ⟨p0,h0,Z⟩
 have p1:=w.d9
 refine ⟨?_,w.xU,?_,fun p hp=>?_,fun p hp=>?_,fun p hp=>?_,?_,?_,w.d9,w.oX,w.ud,?_,w.xV,?_,w.zg,w.ue,w.FI,w.big,fun c hc=>?_,fun p hp=>?_,fun p hp r hr=>?_,fun p hp t ht=>?_,fun p hp=>?_,fun u hu=>?_⟩
 . exact oq w.nN h
 . show ((st.aj.map fun p=>{ p with row:=p.row++[0] }).map (·.nm)).Nodup
   rw [fR]
   exact w.dh
 . obtain ⟨p0,h0,rfl⟩:=P p hp
   exact w.sub p0 h0
 . obtain ⟨p0,h0,rfl⟩:=P p hp
   show (p0.row++[0]).length=(st.own++[o]).length
   rw [dj,dj,w.rows p0 h0]
   rfl
 . obtain ⟨p0,h0,rfl⟩:=P p hp
   exact A1 _ (w.ow p0 h0)
 . show (st.bz++[0]).length=(st.own++[o]).length
   rw [dj,dj,w.fV]
   rfl
 . show (st.bL++[0]).length=(st.own++[o]).length
   rw [dj,dj,w.nO]
   rfl
 . show (st.own++[o]).length<=100
   rw [dj]
   exact hl
 . show (st.aj.map _).length<=1000
   rw [aH]
   exact w.lD
 . rcases gb.mp (show c∈st.bz++[0] from hc) with z|z
   . exact w.nP c z
   . rw [fU.mp z];exact ⟨kP _,by show (0:Int)<=st.prod;omega⟩
 . obtain ⟨p0,h0,rfl⟩:=P p hp
   exact w.oY p0 h0
 . obtain ⟨p0,h0,rfl⟩:=P p hp
   rcases gb.mp (show r∈p0.row++[0] from hr) with z|z
   . exact w.mG p0 h0 r z
   . rw [fU.mp z];show -st.prod<=0/\0<=st.prod;omega
 . obtain ⟨p0,h0,rfl⟩:=P p hp
   have el:p0.row.length=st.bz.length:=by rw [w.rows p0 h0,w.fV]
   have ht:t∈List.zipWith (fun r c=>p0.sc*r+c) (p0.row++[0]) (st.bz++[0]):=ht
   rw [FJ _ el _ _] at ht
   rcases gb.mp ht with z|z
   . exact w.nQ p0 h0 t z
   . rw [fU.mp z];show 0<=p0.sc*0+0/\p0.sc*0+0<=st.prod;omega
 . obtain ⟨p0,h0,rfl⟩:=P p hp
   exact w.jr p0 h0
 . rcases gb.mp (show u∈st.bL++[0] from hu) with z|z
   . exact w.D7 u z
   . rw [fU.mp z];exact oU (by decide +kernel)
theorem NW {st:HS} (w:Wf st) (h1:p.nm∉st.nms) (h2:st.nms.length<1000) (h3:st.aj.length<1000) (h4:p.row.length=st.own.length) (h5:p.ow∈st.own) (h6:1<=p.sc/\p.sc<=st.prod) (h7:∀r∈p.row,-st.prod<=r/\r<=st.prod)
  (h8:∀t∈List.zipWith (fun r c=>p.sc*r+c) p.row st.bz,0<=t/\t<=st.prod) (h9:1<=p.wo/\0<=p.we):Wf (CJ st p):=by
 have P:∀{M:Pt->Prop},(∀x∈st.aj,M x)->M p->∀x∈st.aj++[p],M x:=fun a b x hx=>by
  rcases gb.mp hx with z|z
  . exact a x z
  . rw [fU.mp z];exact b
 refine ⟨w.nN,oq w.xU h1,?_,P (fun x hx=>A1 _ (w.sub x hx)) (iA _ (fU.mpr rfl)),P w.rows h4,P w.ow h5,w.fV,w.nO,w.d9,w.oX,w.ud,w.j8,?_,?_,w.zg,w.ue,w.FI,w.big,w.nP,P w.oY h6,P w.mG h7,P w.nQ h8,P w.jr h9,w.D7⟩
 . show ((st.aj++[p]).map (·.nm)).Nodup
   rw [bR]
   refine oq w.dh fun m=>?_
   obtain ⟨x,hx,e⟩:=bH.mp m
   have e:x.nm=p.nm:=e
   exact h1 (by rw [<-e];exact w.sub x hx)
 . show (st.nms++[p.nm]).length<=1000
   rw [dj];exact h2
 . show (st.aj++[p]).length<=1000
   rw [dj];exact h3
theorem uf {α β γ:Type} {f:α->β->γ} {t:γ}:∀{xs:List α} {ys:List β},t∈List.zipWith f xs ys->∃x∈xs,∃y∈ys,t=f x y
 | [],_,h=>by simp at h
 | _::_,[],h=>by simp at h
 | x::xs,y::ys,h=>by
   rcases dz.mp (show t∈f x y::List.zipWith f xs ys from h) with e|m
   . exact ⟨x,cS,y,cS,e⟩
   . obtain ⟨a,ha,b,hb,e⟩:=uf m
     exact ⟨a,cD _ ha,b,cD _ hb,e⟩
theorem JE:∀{ts cs:List Int},List.zipWith (fun r c=>1*r+c) (List.zipWith (fun t c=>t-c) ts cs) cs=ts.take cs.length
 | [],_=>by simp
 | _::_,[]=>by simp
 | t::ts,c::cs=>by
   show (1*(t-c)+c)::List.zipWith _ (List.zipWith _ ts cs) cs=t::ts.take cs.length
   rw [JE]
   congr 1
   omega
theorem CM {n:Nat} {b t:Int} (h:t∈(List.replicate n 0).set i b):t=0\/t=b:=by
 rcases OM h with z|z
 . exact .inl (List.eq_of_mem_replicate z)
 . exact .inr z
variable {wo we:Int}
theorem NX {st:HS} (w:Wf st) {o:Str} (h1:x∉st.nms) (h2:st.nms.length<1000) (h3:st.aj.length<1000) (ho:o∈st.own) (h4:1<=wo) (h5:0<=we):Wf (Io st x o wo we):=by
 have p1:=w.d9
 refine NW w h1 h2 h3 ?_ ho ⟨kP 1,w.d9⟩ (fun r hr=>?_) (fun t ht=>?_) ⟨h4,h5⟩
 . show (List.zipWith _ ((List.replicate st.own.length 0).set _ _) st.bz).length=_
   rw [kL,iL,nI,w.fV,xG]
 . obtain ⟨t,ht,c,hc,rfl⟩:=uf (show r∈List.zipWith _ _ st.bz from hr)
   have:=w.nP c hc
   rcases CM ht with rfl|rfl <;> omega
 . have e:List.zipWith (fun r c=>1*r+c) (lE st ((List.replicate st.own.length 0).set (st.own.idxOf o) st.prod)) st.bz=_:=JE
   have ht:t∈List.zipWith (fun r c=>1*r+c) (lE st ((List.replicate st.own.length 0).set (st.own.idxOf o) st.prod)) st.bz:=ht
   rw [e] at ht
   rcases CM (List.mem_of_mem_take ht) with rfl|rfl <;> omega
theorem iE {u:HO} (h:a≠b):upd (upd H a o) b u=upd (upd H b u) a o:=by
 funext c
 unfold upd
 by_cases e1:c=b
 . rw [aD e1,aB (fun z=>h (z.symm.trans e1)),aD e1]
 . rw [aB e1]
   by_cases e2:c=a
   . rw [aD e2,aD e2]
   . rw [aB e2,aB e2,aB e1]
theorem qh (h:H a=some o):upd H a o=H:=by
 funext c
 unfold upd
 by_cases e:c=a
 . rw [aD e,e,h]
 . rw [aB e]
theorem JF {α:Type} (g:α->α) {l:List α} {p:α} (h:l[i]?=some p):((l.take i).map g++l.drop i)[i]?=some p:=by
 have hi:=(dO.mp h).1
 have e:((l.take i).map g).length=i:=by rw [aH,nK];omega
 rw [BW (by omega),e,Ah,List.getElem?_drop]
 exact h
theorem JG {α:Type} (g:α->α) {l:List α} {p:α} (h:l[i]?=some p):((l.take i).map g++l.drop i).set i (g p)=(l.take (i+1)).map g++l.drop (i+1):=by
 have hi:=(dO.mp h).1
 have e:((l.take i).map g).length=i:=by rw [aH,nK];omega
 have ep:l[i]=p:=by rw [bD hi] at h;exact fu h
 rw [List.set_append_right _ _ (by omega),e,Ah,List.drop_eq_getElem_cons hi,OZ,take_snoc h,bR,II]
 rfl
theorem qi {α β:Type} (g:α->α) (f:α->β) (hf:∀x,f (g x)=f x) (l:List α) (i:Nat):((l.take i).map g++l.drop i).map f=l.map f:=by
 rw [bR,fR,show f ∘ g=f from funext hf,<-bR,List.take_append_drop]
theorem oB {ps ps':List Pt} (h:ps.map (·.nm)=ps'.map (·.nm)):bN ps qs=bN ps' qs:=by
 have:∀{ps:List Pt},bN ps qs=List.zipWith (fun (x:Str) q=>((Sum.inr x:Key),V.ref q.1)) (ps.map (·.nm)) qs:=fun {ps}=>by unfold bN;rw [List.zipWith_map_left]
 rw [this,this,h]
structure ju (p:Addr) (H:Hp) (ρ:cR) (H':Hp) (ρ':cR) (l:List (Addr×HO×p8)):Prop where
 m:∀e∈l,H' e.1=some e.2.1/\ρ' e.1=some e.2.2/\e.1≠p
 k:∀b o,H b=some o->b≠p->H' b=some o/\ρ' b=ρ b
 g:Gh ρ' H'
 pp:∃u,H' p=some u
theorem ju.new {p:Addr} {l:List (Addr×HO×p8)} {c:p8} (h:ju p H ρ H' ρ' l) (ha:H' a=none) (t:isTup o=false):ju p H ρ (upd H' a o) (cO ρ' a c) ((a,o,c)::l):=by
 obtain ⟨u,hu⟩:=h.pp
 refine ⟨fun e he=>?_,fun b w hb hp=>?_,(h.g.alloc ha).color ah t,u,by rw [au (aF hu ha)];exact hu⟩
 . rcases dz.mp he with rfl|he
   . exact ⟨ah,bY,fun z=>by rw [show a=p from z,hu] at ha;cases ha⟩
   . obtain ⟨x,y,z⟩:=h.m e he
     have:e.1≠a:=aF x ha
     rw [au this,bu this]
     exact ⟨x,y,z⟩
 . obtain ⟨x,y⟩:=h.k b w hb hp
   have:b≠a:=aF x ha
   rw [au this,bu this]
   exact ⟨x,y⟩
theorem ju.wr {p:Addr} {l:List (Addr×HO×p8)} {u:HO} (h:ju p H ρ H' ρ' l) (t:isTup u=false):ju p H ρ (upd H' p u) ρ' l:=by
 refine ⟨fun e he=>?_,fun b w hb hp=>?_,h.g.wr t,u,ah⟩
 . obtain ⟨x,y,z⟩:=h.m e he
   rw [au z];exact ⟨x,y,z⟩
 . obtain ⟨x,y⟩:=h.k b w hb hp
   rw [au hp];exact ⟨x,y⟩
theorem ju.same {p:Addr} {CN:Hp} {l:List (Addr×HO×p8)} (h:ju p H ρ H' ρ' l) (s:aO H' CN):ju p H ρ CN ρ' l:=by
 obtain ⟨u,hu⟩:=h.pp
 exact ⟨fun e he=>let ⟨x,y,z⟩:=h.m e he;⟨s _ _ x,y,z⟩,fun b w hb hp=>let ⟨x,y⟩:=h.k b w hb hp;⟨s _ _ x,y⟩,h.g.same s,u,s _ _ hu⟩
theorem ju.add {p:Addr} {H0:Hp} {ρ0:cR} {l l0:List (Addr×HO×p8)} {c:p8} (h:ju p H ρ H' ρ' l) (ha:H' a=some o) (t:isTup o=false) (h0:ju p H ρ H0 ρ0 l0) (hn:H0 a=none) (hl:∀e∈l,e.1≠a):ju p H ρ H' (cO ρ' a c) ((a,o,c)::l):=by
 refine ⟨fun e he=>?_,fun b w hb hp=>?_,h.g.color ha t,h.pp⟩
 . rcases dz.mp he with rfl|he
   . obtain ⟨u,hu⟩:=h0.pp
     exact ⟨ha,bY,fun z=>by rw [show a=p from z,hu] at hn;cases hn⟩
   . obtain ⟨x,y,z⟩:=h.m e he
     rw [bu (hl e he)]
     exact ⟨x,y,z⟩
 . obtain ⟨x,y⟩:=h.k b w hb hp
   obtain ⟨x0,_⟩:=h0.k b w hb hp
   rw [bu (aF x0 hn)]
   exact ⟨x,y⟩
theorem JH:∀(l:List Int) (a:Int),l.foldl (·*·) a=a*l.foldl (·*·) 1
 | [],a=>by simp
 | s::l,a=>by
   rw [jH,JH l (a*s),jH,JH l (1*s),Int.one_mul,jd]
theorem Ed (s:Int) (l:List Int):(s::l).foldl (·*·) 1=s*l.foldl (·*·) 1:=by rw [jH,JH,Int.one_mul]
theorem Xg (s:Int) (l:List Int):(l++[s]).foldl (·*·) 1=l.foldl (·*·) 1*s:=by rw [Ba];rfl
theorem JI:∀{l:List Int},(∀s∈l,2<=s)->1<=l.foldl (·*·) 1
 | [],_=>by decide
 | s::l,h=>by
   rw [Ed]
   have h1:=h s cS
   have h2:=JI (l:=l) fun x hx=>h x (cD _ hx)
   have:=Int.mul_le_mul (a:=1) (b:=1) (c:=s) (d:=l.foldl (·*·) 1) (by omega) h2 (by decide) (by omega)
   omega
theorem VU:∀{l:List Int} {s:Int},(∀s∈l,2<=s)->s∈l->s<=l.foldl (·*·) 1
 | [],_,_,h=>by simp at h
 | a::l,s,h,m=>by
   rw [Ed]
   have h1:=h a cS
   have h2:=JI (l:=l) fun x hx=>h x (cD _ hx)
   rcases dz.mp m with rfl|m
   . have:=Iz h2 (by omega:0<=s)
     omega
   . have h3:=VU (fun x hx=>h x (cD _ hx)) m
     have:=Int.mul_le_mul_of_nonneg_right (by omega:1<=a) (by omega:0<=l.foldl (·*·) 1)
     omega
theorem RT {t d s:Int} (hd:0<d) (hs:0<s) (c:Jm.cf t d=1):Jm.cf (t / Jm.cf t s) (d*(s / Jm.cf t s))=1/\0<d*(s / Jm.cf t s):=by
 have gp:0<Jm.cf t s:=Jm.Cq t s (.inr hs)
 obtain ⟨u,hu⟩:=Jm.vN t s
 obtain ⟨v,hv⟩:=Jm.oS t s
 generalize eg:Jm.cf t s=g at *
 have e1:t / g=u:=by rw [hu,DT _ (by omega)]
 have e2:s / g=v:=by rw [hv,DT _ (by omega)]
 have vp:0<v:=by
  rcases Int.lt_or_le 0 v with z|z
  . exact z
  . have:=Iz z (by omega:0<=g)
    omega
 rw [e1,e2]
 have c0:Nat.Coprime t.natAbs d.natAbs:=by unfold Jm.cf at c;exact_mod_cast c
 have c1:Nat.Coprime u.natAbs d.natAbs:=Nat.Coprime.coprime_dvd_left ⟨g.natAbs,by rw [hu,BY,Nat.mul_comm]⟩ c0
 have c2:Nat.Coprime u.natAbs v.natAbs:=by
  have hg:Int.gcd t s=g.natAbs:=by unfold Jm.cf at eg;omega
  have hg2:Nat.gcd t.natAbs s.natAbs=g.natAbs:=hg
  have:=Nat.coprime_div_gcd_div_gcd (m:=t.natAbs) (n:=s.natAbs) (by rw [hg2];omega)
  rw [hg2] at this
  have gn:0<g.natAbs:=by omega
  rw [hu,hv,BY,BY,Nat.mul_div_cancel_left _ gn,Nat.mul_div_cancel_left _ gn] at this
  exact this
 refine ⟨?_,Int.mul_pos hd vp⟩
 have:=Nat.Coprime.mul_right c1 c2
 rw [<-BY] at this
 unfold Jm.cf
 exact_mod_cast this
theorem Ur {κ:Type} [DecidableEq κ] {kvs:List (κ×V)} {k:κ} {v:V} (h:dM kvs k=some v):(k,v)∈kvs:=by
 unfold dM at h
 obtain ⟨p,hp,rfl⟩:=nH.mp h
 have:=List.find?_some hp
 have e:p.1=k:=bg this
 rw [<-e]
 exact List.mem_of_find?_eq_some hp
theorem aL.Us {n:Nat} {st:HS} (h:aL T n ρ A H st) (k:∀b o,H b=some o->b≠A.kn->H' b=some o) (e1:H' A.kn=some (.dK kvs)) (e2:Jt H' kvs st.prod) (e3:kvs.length<=m) (e4:(kvs.map (·.1)).Nodup):aL T n ρ A H' { st with kn:=m }:=by
 obtain ⟨kv0,k0,_⟩:=h.okn
 have z:=fun {b:Addr} {t:Nat} {x:Str} {o:HO} (u:t≠9) (c:ρ b=some (n,t,x)) (e:H b=some o)=>k b o e (CF c h.gC (fun w=>by cases w;exact u rfl))
 have tp:∀b xs,H b=some (.tup xs)->H' b=some (.tup xs):=fun b xs e=>k b _ e (iM e k0 (by intro w;cases w))
 obtain ⟨vs,h1,h2⟩:=h.mC
 have kp:Kp n ρ ρ H H' fun t=>decide (t≠9):=⟨tp,fun b t x o u c e=>⟨z (bg u) c e,c⟩⟩
 exact ⟨z (by decide) h.ca h.oa,h.ca,z (by decide) h.fZ h.gQ,h.fZ,z (by decide) h.eX h.c_,h.eX,⟨vs,z (by decide) h.gr h1,h2.keep kp (by decide)⟩,h.gr,z (by decide) h.gu h.mD,h.gu,z (by decide) h.gv h.iQ,h.gv,z (by decide) h.gx h.gU,h.gx,z (by decide) h.cpu h.jq,h.cpu,z (by decide) h.gy h.kT,h.gy,⟨kvs,e1,e2,e3,e4⟩,h.gC,h.ql,
  fun i p q a b=>let ⟨x,y,c,d⟩:=h.opt i p q a b;⟨z (by decide) c x,z (by decide) d y,c,d⟩⟩
theorem Ip {st:HS} (w:Wf st) (h:m<=1000000):Wf { st with kn:=m }:=⟨w.nN,w.xU,w.dh,w.sub,w.rows,w.ow,w.fV,w.nO,w.d9,w.oX,w.ud,w.j8,w.xV,w.lD,w.zg,w.ue,h,w.big,w.nP,w.oY,w.mG,w.nQ,w.jr,w.D7⟩
theorem jJ.length {n:Nat} {l:List jN} (h:jJ n ρ H vs l):vs.length=l.length:=by
 induction h with
 | nil=>rfl
 | cons _ _ _ _ _ ih=>simp [ih]
theorem jJ.get {n:Nat} {l:List jN} (h:jJ n ρ H vs l):∀{i:Nat} {x:V},vs[i]?=some x->∃r q y ss,x = .ref r/\l[i]?=some y/\H r=some (.tup [.str y.nm, .str y.ow, .int y.wo, .ref q])/\H q=some (.lst ss)/\ρ q=some (n,30,⟨#[]⟩)/\kO H ss y.sh:=by
 induction h with
 | nil=>intro i x e;simp at e
 | @cons r q y ss vs as a b c d _ ih=>
   intro i x e
   cases i with
   | zero=>simp at e;subst e;exact ⟨r,q,y,ss,Z,Z,a,b,c,d⟩
   | succ i=>simp at e;obtain ⟨r',q',y',ss',e1,e2,e3⟩:=ih e;exact ⟨r',q',y',ss',e1,by simpa using e2,e3⟩
inductive j9 (a:Addr) (ρ:cR) (H:Hp):List V->List jN->Prop
 | nil:j9 a ρ H [] []
 | cons {r l:Addr} {x:jN} {ss:List V} {vs:List V} {as:List jN}:H r=some (.tup [.str x.nm, .str x.ow, .int x.wo, .ref l])->H l=some (.lst ss)->ρ l=none->l≠a->kO H ss x.sh->j9 a ρ H vs as->j9 a ρ H (.ref r::vs) (x::as)
theorem j9.to {l:List jN} (h:j9 a ρ H vs l):wO ρ H vs l:=by
 induction h with
 | nil=>exact .nil
 | cons x y z _ w _ ih=>exact .cons x y z w ih
theorem j9.mono {l:List jN} (h:j9 a ρ H vs l) (g:aO H H'):j9 a ρ H' vs l:=by
 induction h with
 | nil=>exact .nil
 | cons x y z n w _ ih=>exact .cons (g _ _ x) (g _ _ y) z n (w.mono g.tups) ih
theorem j9.upd {l:List jN} (h:j9 a ρ H vs l) (ha:H a=some (.lst xs)):j9 a ρ (L2.upd H a (.lst ys)) vs l:=by
 induction h with
 | nil=>exact .nil
 | cons x y z n w _ ih=>exact .cons (jO (.inr ⟨_,ha,Z⟩) _ _ x) (by rw [au n];exact y) z n (w.mono (jO (.inr ⟨_,ha,Z⟩))) ih
theorem j9.snoc {as:List jN} {l:Addr} {x:jN} (h:j9 a ρ H vs as) (e1:H r=some (.tup [.str x.nm, .str x.ow, .int x.wo, .ref l])) (e2:H l=some (.lst ss)) (e3:ρ l=none) (e5:l≠a) (e4:kO H ss x.sh):j9 a ρ H (vs++[.ref r]) (as++[x]):=by
 induction h with
 | nil=>exact .cons e1 e2 e3 e5 e4 .nil
 | cons x y z n w _ ih=>exact .cons x y z n w ih
def Sq (K:Fg) (H:Hp) (r:Addr) (xs:List V):Prop:=aK K H r xs\/dm K H r xs
theorem aO.sq (g:aO H H') (h:Sq K H r xs):Sq K H' r xs:=h.elim (fun z=> .inl (g.seq z)) fun z=> .inr (g.tup z)
structure ug (K:Fg) (H:Hp) (us:List V) (ps:List Pt):Prop where
 len:us.length=ps.length
 at_:∀(i:Nat) (p:Pt),ps[i]?=some p->∃r xs,us[i]?=some (.ref r)/\Sq K H r xs/\xs[0]?=some (.str p.nm)/\xs[1]?=some (.str p.ow)/\xs[2]?=some (.int p.wo)/\xs[3]?=some (.int p.we)
theorem ug.mono {us:List V} {ps:List Pt} (h:ug K H us ps) (g:aO H H'):ug K H' us ps:=⟨h.len,fun i p e=>let ⟨r,xs,a,b,c⟩:=h.at_ i p e;⟨r,xs,a,g.sq b,c⟩⟩
def RU (own:List Str) (tops:List Int) (b:Int):List (Str×Rat):=(List.zip own tops).filterMap fun x=>if 0<x.2 then some (x.1,Jm.fr x.2 b) else none
def Ut (x:Str):Prop:=oV x.cps.toList
theorem PL:∀i:Fin 26,Fx "abcdefghijklmnopqrstuvwxyz" (97+i.val)=true:=by decide +kernel
theorem Ut.isNm (h:Ut x):L2.isNm x=true:=by
 unfold L2.isNm isName
 have h1:=h.lo
 have h2:=h.hi
 refine nJ.mpr ⟨nJ.mpr ⟨bq (by omega),bq (by omega)⟩,qP.mpr fun c hc=>?_⟩
 have h3:=h.W7 c hc
 have:=PL ⟨c-97,by omega⟩
 rw [show 97+(c-97)=c from by omega] at this
 exact this
theorem ve:∀(l:List Str) (st:HS),(l.foldl gO st).own=st.own++l
 | [],st=>by simp
 | o::l,st=>by
   rw [jH,ve l]
   show (st.own++[o])++l=_
   rw [II]
   rfl
theorem gH (K:Fg) (hK:X.K=K:=by rfl):yu X (YJ K):=hK▸YK
theorem Sq.ix {v:V} {Q:VK} (h:Sq K H r xs) (e:xs[i]?=some v) (q:Q v H):YJ K (.ref r) (.int (i:Int)) H Q:=by
 rcases h with h|h
 . exact .inl ⟨r,xs,i,v,Z,Z,h,aA e,q⟩
 . exact .inr (.inl ⟨r,xs,i,v,Z,Z,h,aA e,q⟩)
def CO (nss:List (List Nat)):List Str:=nss.map tx
theorem Xh (nss:List (List Nat)):rL nss=(CO nss).map V.str:=by unfold rL CO;rw [fR];rfl
theorem FL (h:nss.Nodup):(CO nss).Nodup:=by
 unfold CO
 exact List.Pairwise.map tx (fun a b hab e=>hab (Rz e)) h
theorem RV (h:∀x∈nss,oV x):∀o∈CO nss,Ut o:=fun o ho=>by
 obtain ⟨x,hx,rfl⟩:=bH.mp ho
 show oV (tx x).cps.toList
 rw [show (tx x).cps.toList=x from by simp]
 exact h x hx
theorem NY (nss:List (List Nat)):(CO nss).length=nss.length:=by unfold CO;rw [aH]
theorem Uu (x:Str) (l:List Str):Fl (.str x) (l.map V.str)=decide (x∈l):=by
 have:=NS x.cps.toList (l.map fun y=>y.cps.toList)
 rw [Jp] at this
 rw [show rL (l.map fun y=>y.cps.toList)=l.map V.str from by unfold rL;rw [fR];congr 1;] at this
 rw [this]
 congr 1
 refine propext ⟨fun m=>?_,fun m=>bH.mpr ⟨x,m,Z⟩⟩
 obtain ⟨y,hy,e⟩:=bH.mp m
 have:tx y.cps.toList=tx x.cps.toList:=by rw [e]
 rw [Jp,Jp] at this
 rw [<-this];exact hy
theorem zj (l:List Str):(l.map V.str).all qW=true:=by
 rw [List.all_map]
 exact qP.mpr fun _ _=>rfl
theorem JJ {l:List Str} {d:Int} (h0:0<=d) (h1:d<(l.length:Int)):∃(j:Nat) (o:Str),d=(j:Int)/\l[j]?=some o/\rH (l.map V.str) d=some (.str o):=by
 obtain ⟨j,rfl⟩:∃j:Nat,d=(j:Int):=⟨d.toNat,by omega⟩
 have hj:j<l.length:=by omega
 exact ⟨j,l[j],Z,bD hj,aA (by rw [cA,bD hj];rfl)⟩
section
variable {T:TC} {n:Nat} {L H:Hp} {x lp:Addr} {st:HS} {ps:List Pt}
end
theorem qj {α:Type} {l:List α} (nd:l.Nodup) {x:α} (h:l[i]?=some x):x∉l.take i:=fun m=>by
 have h2:(l.take (i+1)).Nodup:=nd.sublist (O2 _ _)
 rw [take_snoc h] at h2
 exact (O6.mp h2).2.2 x m x (fU.mpr rfl) rfl
abbrev Row:=Str×Int
def o9 (r:Row):HO:= .tup [.str r.1, .int r.2]
inductive dZ (H:Hp):List V->List Row->Prop
 | nil:dZ H [] []
 | cons {a:Addr} {r:Row} {vs:List V} {rs:List Row}:H a=some (o9 r)->dZ H vs rs->dZ H (.ref a::vs) (r::rs)
theorem dZ.mono {l:List Row} (h:dZ H vs l) (g:∀b xs,H b=some (.tup xs)->H' b=some (.tup xs)):dZ H' vs l:=by
 induction h with
 | nil=>exact .nil
 | cons a _ ih=>exact .cons (g _ _ a) ih
theorem dZ.length {l:List Row} (h:dZ H vs l):vs.length=l.length:=by
 induction h with
 | nil=>rfl
 | cons _ _ ih=>simp [ih]
theorem dZ.get {l:List Row} (h:dZ H vs l):∀{i:Nat} {x:V},vs[i]?=some x->∃a r,x = .ref a/\l[i]?=some r/\H a=some (o9 r):=by
 induction h with
 | nil=>intro i x e;simp at e
 | @cons a r vs rs e0 _ ih=>
   intro i x e
   cases i with
   | zero=>simp at e;subst e;exact ⟨a,r,Z,Z,e0⟩
   | succ i=>simp at e;obtain ⟨a',r',e1,e2,e3⟩:=ih e;exact ⟨a',r',e1,by simpa using e2,e3⟩
theorem dZ.snoc {l:List Row} {r:Row} (h:dZ H vs l) (e:H a=some (o9 r)):dZ H (vs++[.ref a]) (l++[r]):=by
 induction h with
 | nil=>exact .cons e .nil
 | cons a _ ih=>exact .cons a ih
def h_ (rs:List Row):List (Key×V):=rs.map fun r=>((Sum.inr r.1:Key),V.int r.2)
theorem xW (rs:List Row):(h_ rs).length=rs.length:=by unfold h_;rw [aH]
variable {rs:List Row}
theorem FN (h:x∉rs.map (·.1)):dM (h_ rs) (Sum.inr x)=none:=by
 unfold h_
 induction rs with
 | nil=>rfl
 | cons a l ih=>
   rw [bw,eO (fun z=>h (by rw [bw,<-qS z];exact cS))]
   exact ih fun m=>h (by rw [bw];exact cD _ m)
def aI (rs:List Row):Int:=(rs.map (·.2)).sum
def bO (st:HS) (x:Str):Pt:=(st.aj.find? fun p=>decide (p.nm=x)).getD ⟨x,x,0,0,1,[]⟩
theorem NZ {st:HS} (nd:(st.aj.map (·.nm)).Nodup) (h:st.aj[i]?=some p):bO st p.nm=p:=by
 unfold bO
 have:st.aj.find? (fun q=>decide (q.nm=p.nm))=some p:=by
  generalize st.aj=ps at *
  induction ps generalizing i with
  | nil=>simp at h
  | cons a ps ih=>
    obtain ⟨h1,h2⟩:=fP.mp (show (a.nm::ps.map (·.nm)).Nodup from nd)
    cases i with
    | zero=>
      have:a=p:=by simpa using h
      subst this
      rw [sZ,bq rfl]
    | succ i=>
      have h':ps[i]?=some p:=by simpa using h
      rw [sZ,dw (fun e=>h1 (bH.mpr ⟨p,cg h',e.symm⟩))]
      exact ih h2 h'
 rw [this]
 rfl
def jF (st:HS) (sums:List Int) (r:Row):List Int:=List.zipWith (fun old own=>old+(r.2*(bO st r.1).sc)*own) sums (bO st r.1).row
def cV (st:HS) (rs:List Row):List Int:=rs.foldl (jF st) (st.bz.map fun c=>aI rs*c)
def o_ (s:Int) (ts:List Int):Int:=ts.foldl (fun s t=>Jm.cf t s) s
def iT (st:HS) (kept:Int):List Int:=st.aj.map fun p=>p.sc*kept
def fJ (st:HS) (kept:Int) (added:List Int):List Int:=List.zipWith (fun t m=>t*kept+m) st.bz added
def bQ (st:HS) (kept whole:Int) (added:List Int):Int:=o_ whole (iT st kept++fJ st kept added)
def ef (st:HS) (s:Int):HS:=if 1<s then { st with stp:=st.stp++[s],prod:=st.prod*s,kn:=0 } else st
def aZ (st:HS) (kept whole:Int) (added:List Int):HS:=
 ef { st with aj:=st.aj.map (fun p=>{ p with sc:=p.sc*kept / bQ st kept whole added }),bz:=(fJ st kept added).map (· / bQ st kept whole added),bL:=st.bL.map (·*(whole / bQ st kept whole added)) } (whole / bQ st kept whole added)
def jK (ps:List Pt) (x:Str) (a:Int):List Pt:=(ps.map fun p=>if p.nm=x then { p with wo:=p.wo-a } else p).filter fun p=>decide (p.wo≠0)
def c7 (st:HS) (r:Row):HS:={ st with aj:=jK st.aj r.1 r.2 }
def bV (st:HS) (rs:List Row):HS:=rs.foldl c7 (aZ st (aC st-aI rs) (aC st) (cV st rs))
inductive afv (vs:List V) (H:Hp) (Q:VK) (E:XK):Prop
 | mk (a:Int) (_:vs=[.int a]) (_:1<=a) (_:Q .b9 H)
def ab3:Sp:=bx (afv)
inductive afw (vs:List V) (H:Hp) (Q:VK) (E:XK):Prop
 | mk (m a:Int) (_:vs=[.int m, .int a]) (_:1<=a) (_:a<=m) (_:Q .b9 H)
def VW:Sp:=bx (afw)
inductive ab4 (K:Fg) (vs:List V) (H:Hp) (Q:VK) (E:XK):Prop
 | mk (l:Addr) (us:List V) (rs:List Row) (_:vs=[.ref l]) (_:aK K H l us) (_:dZ H us rs) (_:(rs.map (·.1)).Nodup) (_:rs≠[]) (_:rs.length<=1000) (_:∀d H',aO H H'->H d=none->H' d=some (.dK (h_ rs))->Q (.ref d) H')
def RW (K:Fg):Sp:=bx (ab4 K)
inductive ab5 (K:Fg) (vs:List V) (H:Hp) (Q:VK) (E:XK):Prop
 | mk (s:Int) (l:Addr) (ts:List Int) (_:vs=[.int s, .ref l]) (_:aK K H l (ts.map V.int)) (_:0<=s) (_:(∀t∈ts,0<=t)) (_:Q (.int (o_ s ts)) H)
def RX (K:Fg):Sp:=bx (ab5 K)
inductive ab6 (T:TC) (vs:List V) (H:Hp) (Q:VK) (E:XK):Prop
 | mk (n ρ A st s:_) (_:vs=[.ref A.bt, .int s]) (_:Gh ρ H) (_:aL T n ρ A H st) (_:st.stp.length<=1000) (_:Jm.Sz 9000 st.prod) (_:Jm.Sz 9000 s) (_:∀ρ' A' H',Gh ρ' H'->aL T n ρ' A' H' (ef st s:_)->A'.a=A.a->Fr n ρ H ρ' H'->Q .b9 H')
def RY (T:TC):Sp:=bx (ab6 T)
inductive Zu (T:TC) (vs:List V) (H:Hp) (Q:VK) (E:XK):Prop
 | mk (n ρ A st:_) (d:Addr) (rs:List Row) (_:vs=[.ref A.a, .ref d]) (_:aL T n ρ A H st) (_:Wf st) (_:H d=some (.dK (h_ rs))) (_:ρ d=none) (_:rs.length<=1000) (_:(∀r∈rs,Jm.Sz 60 r.2/\∃p∈st.aj,p.nm=r.1)) (_:∀l H',aO H H'->H l=none->H' l=some (.lst ((cV st rs).map V.int))->Q (.ref l) H')
def N1 (T:TC):Sp:=bx (Zu T)
inductive Zv (T:TC) (K:Fg) (vs:List V) (H:Hp) (Q:VK) (E:XK):Prop
 | mk (n ρ A st:_) (kept whole:Int) (l:Addr) (added:List Int) (_:vs=[.ref A.a, .int kept, .int whole, .ref l]) (_:HH T n ρ A H st) (_:aK K H l (added.map V.int)) (_:added.length=st.bz.length) (_:0<kept) (_:0<whole) (_:Jm.Sz 60 kept) (_:Jm.Sz 60 whole) (_:(∀m∈added,0<=m/\Jm.Sz 8900 m)) (_:(∀u∈st.bL,Jm.Sz 8900 u)) (_:st.stp.length<100) (_:Wf (aZ st kept whole added)) (_:vd T n ρ A H (aZ st kept whole added:_) fun H'=>Q .b9 H')
def Ef (T:TC) (K:Fg):Sp:=bx (Zv T K)
inductive ab7 (T:TC) (vs:List V) (H:Hp) (Q:VK) (E:XK):Prop
 | mk (n ρ A st:_) (r:Row) (_:vs=[.ref A.a, .str r.1, .int r.2]) (_:HH T n ρ A H st) (_:(∃p∈st.aj,p.nm=r.1/\r.2<=p.wo)) (_:Wf (c7 st r)) (_:vd T n ρ A H (c7 st r:_) fun H'=>Q .b9 H')
def JK (T:TC):Sp:=bx (ab7 T)
structure jv (st:HS) (rs:List Row):Prop where
 nd:(rs.map (·.1)).Nodup
 ne:rs≠[]
 len:rs.length<=1000
 row:∀r∈rs,1<=r.2/\Jm.Sz 60 r.2/\∃p∈st.aj,p.nm=r.1/\r.2<=p.wo
 lost:aI rs<aC st
 big:Jm.Sz 60 (aC st)
 prod:Jm.Sz 7900 st.prod
 bL:∀u∈st.bL,Jm.Sz 8900 u
 stp:st.stp.length<100
inductive ab8 (T:TC) (K:Fg) (vs:List V) (H:Hp) (Q:VK) (E:XK):Prop
 | mk (n ρ A st:_) (l:Addr) (us:List V) (rs:List Row) (_:vs=[.ref A.a, .ref l]) (_:HH T n ρ A H st) (_:aK K H l us) (_:dZ H us rs) (_:jv st rs) (_:vd T n ρ A H (bV st rs:_) fun H'=>Q .b9 H')
def JL (T:TC) (K:Fg):Sp:=bx (ab8 T K)
theorem Bm:∀{ps:List Pt} {qs:List (Addr×Addr×Addr)} {i:Nat} {p:Pt},(ps.map (·.nm)).Nodup->qs.length=ps.length->ps[i]?=some p->lS (bN ps qs) (Sum.inr p.nm)=bN (ps.eraseIdx i) (qs.eraseIdx i)
 | [],_,_,_,_,_,h=>by simp at h
 | _::_,[],_,_,_,hl,_=>by simp at hl
 | a::ps,b::qs,0,p,nd,hl,h=>by
   have e:a=p:=by simpa using h
   subst e
   obtain ⟨h1,h2⟩:=fP.mp (show (a.nm::ps.map (·.nm)).Nodup from nd)
   show lS ((Sum.inr a.nm,V.ref b.1)::bN ps qs) (Sum.inr a.nm)=bN ps qs
   unfold lS
   rw [gZ,aB (by simp)]
   refine IC.mpr fun kv hkv=>?_
   unfold bN at hkv
   obtain ⟨x,hx,y,hy,rfl⟩:=uf hkv
   exact bq fun z=>h1 (bH.mpr ⟨x,hx,qS z⟩)
 | a::ps,b::qs,i+1,p,nd,hl,h=>by
   obtain ⟨h1,h2⟩:=fP.mp (show (a.nm::ps.map (·.nm)).Nodup from nd)
   have h':ps[i]?=some p:=by simpa using h
   have ih:=Bm h2 (by simpa using hl) h'
   show lS ((Sum.inr a.nm,V.ref b.1)::bN ps qs) (Sum.inr p.nm)=(Sum.inr a.nm,V.ref b.1)::bN (ps.eraseIdx i) (qs.eraseIdx i)
   rw [<-ih]
   unfold lS
   have hne:¬ (Sum.inr a.nm:Key)=Sum.inr p.nm:=fun z=>h1 (bH.mpr ⟨p,cg h',(qS z).symm⟩)
   rw [gZ,aD (by simpa using fun e:a.nm=p.nm=>hne (by rw [e]))]
theorem Bo:∀{ps:List Pt} {i:Nat} {p:Pt} {a:Int},(ps.map (·.nm)).Nodup->(∀q∈ps,q.wo≠0)->ps[i]?=some p->jK ps p.nm a=if p.wo-a=0 then ps.eraseIdx i else ps.set i { p with wo:=p.wo-a }
 | [],_,_,_,_,_,h=>by simp at h
 | x::ps,0,p,a,nd,hw,h=>by
   have e:x=p:=by simpa using h
   subst e
   obtain ⟨h1,h2⟩:=fP.mp (show (x.nm::ps.map (·.nm)).Nodup from nd)
   have rest:jK ps x.nm a=ps:=by
    unfold jK
    rw [show (ps.map fun p=>if p.nm=x.nm then { p with wo:=p.wo-a } else p)=ps from by
     conv=>rhs;rw [<-List.map_id ps]
     exact vI fun y hy=>aB fun z=>h1 (bH.mpr ⟨y,hy,z⟩)]
    exact IC.mpr fun y hy=>bq (hw y (cD _ hy))
   show ((x::ps).map fun p=>if p.nm=x.nm then { p with wo:=p.wo-a } else p).filter _=_
   rw [bw,aD rfl,gZ]
   by_cases c:x.wo-a=0
   . rw [aD c,aB (by simp [c])]
     exact rest
   . rw [aB c,aD (by simpa using c)]
     show _::jK ps x.nm a=_
     rw [rest]
     rfl
 | x::ps,i+1,p,a,nd,hw,h=>by
   obtain ⟨h1,h2⟩:=fP.mp (show (x.nm::ps.map (·.nm)).Nodup from nd)
   have h':ps[i]?=some p:=by simpa using h
   have ih:=Bo (a:=a) h2 (fun q hq=>hw q (cD _ hq)) h'
   have xn:¬ x.nm=p.nm:=fun z=>h1 (bH.mpr ⟨p,cg h',z.symm⟩)
   show ((x::ps).map fun q=>if q.nm=p.nm then { q with wo:=q.wo-a } else q).filter _=_
   rw [bw,aB xn,gZ,aD (bq (hw x cS))]
   show x::jK ps p.nm a=_
   rw [ih]
   by_cases c:p.wo-a=0
   . rw [aD c,aD c];rfl
   . rw [aB c,aB c];rfl
theorem rO {α:Type}:∀{l:List α} {i:Nat} {x:α},l[i]?=some x->l.set i x=l
 | [],_,_,h=>by simp at h
 | a::l,0,x,h=>by
   have:a=x:=by simpa using h
   rw [this];rfl
 | a::l,i+1,x,h=>by rw [IG,rO (by simpa using h)]
theorem zm {α β:Type} {l:List α} {m:List β} {x:α} {y:β} (h1:(l.eraseIdx i)[j]?=some x) (h2:(m.eraseIdx i)[j]?=some y):∃k:Nat,l[k]?=some x/\m[k]?=some y:=by
 rw [List.getElem?_eraseIdx] at h1 h2
 by_cases c:j<i
 . rw [aD c] at h1 h2;exact ⟨j,h1,h2⟩
 . rw [aB c] at h1 h2;exact ⟨j+1,h1,h2⟩
theorem zq:∀(ts:List Int) (s:Int),o_ s ts∣s/\∀t∈ts,o_ s ts∣t
 | [],s=>⟨Int.dvd_refl _,fun _ h=>absurd h (by simp)⟩
 | t::ts,s=>by
   obtain ⟨h1,h2⟩:=zq ts (Jm.cf t s)
   refine ⟨Int.dvd_trans h1 (Jm.oS t s),fun u hu=>?_⟩
   rcases dz.mp hu with rfl|hu
   . exact Int.dvd_trans h1 (Jm.vN u s)
   . exact h2 u hu
theorem zu:∀(ts:List Int) (s:Int),0<s->0<o_ s ts
 | [],_,h=>h
 | t::ts,s,h=>zu ts _ (Jm.Cq t s (.inr h))
theorem zx {n:Nat} {st:HS} (h:aL T n ρ A H st) (g:Gh ρ H) (c:ρ a=none) (e:H a=some o) (ht:isTup o=false):
  aL T n (cO ρ a (n,t,⟨#[]⟩)) A H st/\Gh (cO ρ a (n,t,⟨#[]⟩)) H:=
 ⟨h.same ⟨fun _ _ e=>e,fun b u x w _ hc he=>⟨he,by rw [bu (fun z=>by rw [z,c] at hc;cases hc)];exact hc⟩⟩,g.color e ht⟩
theorem Fr.nR {n:Nat} (f:Fr n ρ H ρ' H') (h:H a=none):Fr n ρ H (cO ρ' a (n,t,x)) H':=fun b o e k=>by
 obtain ⟨e1,e2⟩:=f b o e k
 exact ⟨e1,by rw [bu (aF e h)];exact e2⟩
theorem FO {d a b:Int} (hd:0<d) (h:a<=d*b):a / d<=b:=by
 have:=Int.ediv_le_ediv hd h
 rwa [DT _ (by omega)] at this
theorem xX {st:HS} {s:Int} (h:1<=s):(ef st s).prod=st.prod*s:=by
 unfold ef
 by_cases c:1<s
 . rw [aD c]
 . rw [aB c,show s=1 by omega,xH]
theorem jY (st:HS) (s:Int):(ef st s).aj=st.aj:=by unfold ef;split <;> rfl
theorem FP (st:HS) (s:Int):(ef st s).bz=st.bz:=by unfold ef;split <;> rfl
theorem FQ (st:HS) (s:Int):(ef st s).bL=st.bL:=by unfold ef;split <;> rfl
theorem rP (st:HS) (s:Int):(ef st s).own=st.own:=by unfold ef;split <;> rfl
theorem vf (st:HS) (s:Int):(ef st s).nms=st.nms:=by unfold ef;split <;> rfl
theorem zy (st:HS) (s:Int):(ef st s).d_=st.d_:=by unfold ef;split <;> rfl
theorem vg {α β γ:Type} {f:α->β->γ} {t:γ}:∀{xs:List α} {ys:List β},t∈List.zipWith f xs ys->∃(i:Nat) (x:α) (y:β),xs[i]?=some x/\ys[i]?=some y/\t=f x y:=fun {xs ys} h=>by
 obtain ⟨i,hi,e⟩:=yN h
 rw [kL] at hi
 have h1:i<xs.length:=by omega
 have h2:i<ys.length:=by omega
 exact ⟨i,xs[i],ys[i],bD h1,bD h2,by rw [<-e,List.getElem_zipWith]⟩
theorem Xi {α β γ:Type} {f:α->β->γ} {xs:List α} {ys:List β} {x:α} {y:β} (h1:xs[i]?=some x) (h2:ys[i]?=some y):(List.zipWith f xs ys)[i]?=some (f x y):=by
 rw [OT,h1,h2]
theorem Bp {a b c:Int} (h:a<=b) (hc:0<=c):a*c<=b*c:=Int.mul_le_mul_of_nonneg_right h hc
structure qm (st:HS) (kept whole lost:Int) (added:List Int):Prop where
 k:0<kept
 l:0<=lost
 w:whole=kept+lost
 len:added.length=st.bz.length
 add:∀m∈added,0<=m/\m<=lost*st.prod
 prod:Jm.Sz 7900 st.prod
 big:Jm.Sz 60 whole
 bL:∀u∈st.bL,Jm.Sz 8900 u
 stp:st.stp.length<100
variable {lost:Int} {added:List Int}
theorem qm.dvds {st:HS} {kept whole:Int} (b:qm st kept whole lost added):
  0<bQ st kept whole added/\bQ st kept whole added∣whole/\(∀p∈st.aj,bQ st kept whole added∣p.sc*kept)/\∀c∈fJ st kept added,bQ st kept whole added∣c:=by
 have hw:0<whole:=by have:=b.k;have:=b.l;have:=b.w;omega
 have d:=zq (iT st kept++fJ st kept added) whole
 exact ⟨zu _ _ hw,d.1,fun p hp=>d.2 _ (A1 _ (bH.mpr ⟨p,hp,Z⟩)),fun c hc=>d.2 _ (iA _ hc)⟩
theorem qo {st:HS} {kept whole:Int} (wf:Wf st) (b:qm st kept whole lost added):Wf (aZ st kept whole added):=by
 obtain ⟨hs,hsw,oR,hsc⟩:=b.dvds
 have hk:=b.k
 have hl:=b.l
 have hw:=b.w
 have p1:=wf.d9
 have eB:aZ st kept whole added=ef { st with aj:=st.aj.map (fun p=>{ p with sc:=p.sc*kept / bQ st kept whole added }),bz:=(fJ st kept added).map (· / bQ st kept whole added),bL:=st.bL.map (·*(whole / bQ st kept whole added)) } (whole / bQ st kept whole added):=rfl
 rw [eB]
 generalize bQ st kept whole added=d at *
 obtain ⟨s,es⟩:=hsw
 have hs1:1<=s:=by
  rcases Int.lt_trichotomy s 0 with z|z|z
  . have:=Int.mul_neg_of_pos_of_neg hs z;omega
  . rw [z,Int.mul_zero] at es;omega
  . omega
 have ed:whole / d=s:=by rw [es,DT _ (by omega)]
 rw [ed]
 have aii:s<=whole:=by rw [es];have:=Int.mul_le_mul_of_nonneg_right (show 1<=d by omega) (show 0<=s by omega);omega
 have zs:Jm.Sz 60 s:=b.big.of_le (by omega)
 have zp:Jm.Sz 8000 (st.prod*s):=(b.prod.mul zs).mono (by decide)
 have pp:st.prod<=st.prod*s:=by have:=Iz hs1 (show 0<=st.prod by omega);omega
 have Uv:∀c∈(fJ st kept added).map (· / d),0<=c/\c<=st.prod*s:=fun c hc=>by
  obtain ⟨x,hx,rfl⟩:=bH.mp hc
  obtain ⟨i,t,m,et,em,rfl⟩:=vg (show x∈List.zipWith (fun t m=>t*kept+m) st.bz added from hx)
  have ht:=wf.nP t (cg et)
  have hm:=b.add m (cg em)
  have a1:0<=t*kept:=oM ht.1 (by omega)
  have a2:t*kept<=st.prod*kept:=Bp ht.2 (by omega)
  have a3:st.prod*kept+lost*st.prod=d*(st.prod*s):=by
   rw [mZ lost,<-qT,<-hw,es,<-jd,<-jd,mZ st.prod d]
  exact ⟨Ib (by omega) (by omega),FO hs (by omega)⟩
 have sc':∀p∈st.aj,1<=p.sc*kept / d/\p.sc*kept / d<=st.prod*s/\d*(p.sc*kept / d)=p.sc*kept:=fun p hp=>by
  have h0:=wf.oY p hp
  obtain ⟨z,ez⟩:=oR p hp
  have a1:0<p.sc*kept:=Int.mul_pos (by omega) hk
  have ez':p.sc*kept / d=z:=by rw [ez,DT _ (by omega)]
  have hz:1<=z:=by
   rcases Int.lt_trichotomy z 0 with y|y|y
   . have:=Int.mul_neg_of_pos_of_neg hs y;omega
   . rw [y,Int.mul_zero] at ez;omega
   . omega
  have a2:p.sc*kept<=st.prod*kept:=Bp h0.2 (by omega)
  have a3:st.prod*kept<=st.prod*whole:=Iz (by omega) (by omega)
  have a4:st.prod*whole=d*(st.prod*s):=by rw [es,<-jd,<-jd,mZ st.prod d]
  refine ⟨by rw [ez'];exact hz,FO hs (by omega),by rw [ez',ez]⟩
 have P:∀{M:Pt->Prop},(∀p∈st.aj,M { p with sc:=p.sc*kept / d })->∀p∈st.aj.map (fun p=>{ p with sc:=p.sc*kept / d }),M p:=fun h p hp=>by
  obtain ⟨x,hx,rfl⟩:=bH.mp hp
  exact h x hx
 have top':∀p∈st.aj,∀t∈List.zipWith (fun r c=>(p.sc*kept / d)*r+c) p.row ((fJ st kept added).map (· / d)),0<=t/\t<=st.prod*s:=fun p hp t ht=>by
  obtain ⟨i,r,c,er,ec,rfl⟩:=vg ht
  rw [cA] at ec
  obtain ⟨x,ex,rfl⟩:=nH.mp ec
  obtain ⟨y,ey⟩:=hsc x (cg ex)
  have eyd:x / d=y:=by rw [ey,DT _ (by omega)]
  have ex':(List.zipWith (fun t m=>t*kept+m) st.bz added)[i]?=some x:=ex
  rw [OT] at ex'
  cases e1:st.bz[i]? with
  | none=>rw [e1] at ex';simp at ex'
  | some t0=>
    cases e2:added[i]? with
    | none=>rw [e1,e2] at ex';simp at ex'
    | some m=>
      rw [e1,e2] at ex'
      have ex2:t0*kept+m=x:=by simpa using ex'
      have hm:=b.add m (cg e2)
      have hT:=wf.nQ p hp (p.sc*r+t0) (cg (Xi (f:=fun r c=>p.sc*r+c) er e1))
      have hz:=(sc' p hp).2.2
      have key:d*((p.sc*kept / d)*r+x / d)=(p.sc*r+t0)*kept+m:=by
       rw [qT,<-jd,hz,eyd,<-ey,<-ex2]
       rw [uY,jd,jd,mZ kept r]
       omega
      have k1:0<=(p.sc*r+t0)*kept:=oM hT.1 (by omega)
      have k2:(p.sc*r+t0)*kept<=st.prod*kept:=Bp hT.2 (by omega)
      have a3:st.prod*kept+lost*st.prod=d*(st.prod*s):=by
       rw [mZ lost,<-qT,<-hw,es,<-jd,<-jd,mZ st.prod d]
      generalize (p.sc*kept / d)*r+x / d=W at *
      constructor
      . rcases Int.lt_or_le W 0 with z|z
        . have:=Int.mul_neg_of_pos_of_neg hs z;omega
        . exact z
      . have:d*W<=d*(st.prod*s):=by omega
        exact Int.le_of_mul_le_mul_left this hs
 have nm':(st.aj.map (fun p:Pt=>{ p with sc:=p.sc*kept / d })).map (fun p:Pt=>p.nm)=st.aj.map (fun p:Pt=>p.nm):=by rw [fR];rfl
 have e0:(fJ st kept added).length=st.bz.length:=by unfold fJ;rw [kL,b.len];omega
 have pu':∀u∈st.bL.map (·*s),Jm.Sz 9000 u:=fun u hu=>by
  obtain ⟨x,hx,rfl⟩:=bH.mp hu
  exact ((b.bL x hx).mul zs).mono (by decide)
 have Zw:∀p∈st.aj,∀r∈p.row,-(st.prod*s)<=r/\r<=st.prod*s:=fun p hp r hr=>by have:=wf.mG p hp r hr;omega
 unfold ef
 by_cases c:1<s
 . rw [aD c]
   refine ⟨wf.nN,wf.xU,by rw [nm'];exact wf.dh,P wf.sub,P wf.rows,P wf.ow,?_,?_,by show 1<=st.prod*s;omega,?_,fun x hx=>?_,wf.j8,wf.xV,?_,?_,wf.ue,gh _,zp,Uv,P fun p hp=>⟨(sc' p hp).1,(sc' p hp).2.1⟩,P Zw,P top',P wf.jr,pu'⟩
   . show (List.map _ (fJ st kept added)).length=_
     rw [aH,e0,wf.fV]
   . show (List.map _ st.bL).length=_
     rw [aH,wf.nO]
   . show st.prod*s=(st.stp++[s]).foldl (·*·) 1
     rw [Xg,<-wf.oX]
   . rcases gb.mp (show x∈st.stp++[s] from hx) with z|z
     . exact wf.ud x z
     . rw [fU.mp z];omega
   . show (List.map _ st.aj).length<=1000
     rw [aH];exact wf.lD
   . show (st.stp++[s]).length<=100
     rw [dj];exact b.stp
 . rw [aB c]
   have e1:s=1:=by omega
   subst e1
   rw [xH] at Uv sc' Zw top'
   refine ⟨wf.nN,wf.xU,by rw [nm'];exact wf.dh,P wf.sub,P wf.rows,P wf.ow,?_,?_,wf.d9,wf.oX,wf.ud,wf.j8,wf.xV,?_,wf.zg,wf.ue,wf.FI,wf.big,Uv,P fun p hp=>⟨(sc' p hp).1,(sc' p hp).2.1⟩,P wf.mG,P fun p hp t ht=>?_,P wf.jr,pu'⟩
   . show (List.map _ (fJ st kept added)).length=_
     rw [aH,e0,wf.fV]
   . show (List.map _ st.bL).length=_
     rw [aH,wf.nO]
   . show (List.map _ st.aj).length<=1000
     rw [aH];exact wf.lD
   . exact top' p hp t ht
def tG (st:HS) (acc:List Int) (rs:List Row):List Int:=rs.foldl (fun s r=>List.zipWith (fun x t=>x+r.2*t) s (aS st (bO st r.1))) acc
theorem FT:∀(acc bz row:List Int) (a sc L:Int),List.zipWith (fun old own=>old+(a*sc)*own) (List.zipWith (fun s c=>s+(a+L)*c) acc bz) row=List.zipWith (fun s c=>s+L*c) (List.zipWith (fun x t=>x+a*t) acc (List.zipWith (fun r c=>sc*r+c) row bz)) bz
 | [],_,_,_,_,_=>by simp
 | _::_,[],_,_,_,_=>by simp
 | _::_,_::_,[],_,_,_=>by simp
 | x::acc,c::bz,r::row,a,sc,L=>by
   simp only [DU]
   rw [FT acc bz row a sc L]
   congr 1
   grind
theorem JM {st:HS}:∀(rs:List Row) (acc:List Int),rs.foldl (jF st) (List.zipWith (fun s c=>s+aI rs*c) acc st.bz)=List.zipWith (fun s c=>s+0*c) (tG st acc rs) st.bz
 | [],acc=>by show List.zipWith _ acc st.bz=_;rfl
 | r::rs,acc=>by
   rw [jH]
   have e:jF st (List.zipWith (fun s c=>s+aI (r::rs)*c) acc st.bz) r=List.zipWith (fun s c=>s+aI rs*c) (List.zipWith (fun x t=>x+r.2*t) acc (aS st (bO st r.1))) st.bz:=by
    unfold jF
    rw [show aI (r::rs)=r.2+aI rs from by unfold aI;rw [bw,b8]]
    exact FT acc st.bz (bO st r.1).row r.2 (bO st r.1).sc (aI rs)
   rw [e,JM rs]
   rfl
theorem FU:∀(l:List Int) (L:Int),List.zipWith (fun s c=>s+L*c) (List.replicate l.length 0) l=l.map fun c=>L*c
 | [],_=>rfl
 | x::l,L=>by
   rw [jZ,A_,DU,FU l L,Ai]
   rfl
theorem JN:∀(s l:List Int),s.length<=l.length->List.zipWith (fun s c=>s+0*c) s l=s
 | [],_,_=>by simp
 | _::_,[],h=>by simp at h
 | x::s,c::l,h=>by
   rw [DU,JN s l (by simpa using h),B9,Int.add_zero]
theorem zz {st:HS}:∀(rs:List Row) (acc:List Int),(∀r∈rs,(aS st (bO st r.1)).length=acc.length)->(tG st acc rs).length=acc.length
 | [],_,_=>rfl
 | r::rs,acc,h=>by
   have e:(List.zipWith (fun x t=>x+r.2*t) acc (aS st (bO st r.1))).length=acc.length:=by rw [kL,h r cS];omega
   show (tG st (List.zipWith (fun x t=>x+r.2*t) acc (aS st (bO st r.1))) rs).length=_
   rw [zz rs _ (fun x hx=>by rw [e];exact h x (cD _ hx)),e]
theorem AV {st:HS} (hP:0<=st.prod):∀(rs:List Row) (acc:List Int) (B:Int),(∀r∈rs,0<=r.2/\∀t∈aS st (bO st r.1),0<=t/\t<=st.prod)->(∀x∈acc,0<=x/\x<=B)->∀x∈tG st acc rs,0<=x/\x<=B+aI rs*st.prod
 | [],acc,B,_,ha,x,hx=>by
   have:=ha x hx
   show 0<=x/\x<=B+0*st.prod
   omega
 | r::rs,acc,B,h,ha,x,hx=>by
   have hr:=h r cS
   have:=AV hP rs (List.zipWith (fun x t=>x+r.2*t) acc (aS st (bO st r.1))) (B+r.2*st.prod) (fun y hy=>h y (cD _ hy)) (fun y hy=>by
    obtain ⟨i,a,t,ea,et,rfl⟩:=vg hy
    have h1:=ha a (cg ea)
    have h2:=hr.2 t (cg et)
    have h3:0<=r.2*t:=oM hr.1 h2.1
    have h4:r.2*t<=r.2*st.prod:=Iz h2.2 hr.1
    omega) x hx
   rw [show aI (r::rs)=r.2+aI rs from by unfold aI;rw [bw,b8],uY]
   omega
theorem uh {st:HS} (wf:Wf st) (h:p∈st.aj):(aS st p).length=st.bz.length:=by
 unfold aS
 rw [kL,wf.rows p h,wf.fV]
 omega
theorem cN {st:HS} (wf:Wf st) (h:p∈st.aj) (e:p.nm=x):bO st x=p:=by
 obtain ⟨i,hi,ei⟩:=yN h
 rw [<-e]
 exact NZ wf.dh (i:=i) (by rw [bD hi,ei])
theorem zA {st:HS} (wf:Wf st) (h:∀r∈rs,∃p∈st.aj,p.nm=r.1):cV st rs=tG st (List.replicate st.bz.length 0) rs:=by
 unfold cV
 rw [<-FU st.bz (aI rs),JM]
 refine JN _ _ ?_
 rw [zz rs _ (fun r hr=>by
  obtain ⟨p,hp,e⟩:=h r hr
  rw [cN wf hp e,nI,uh wf hp]),nI]
 exact aN _
theorem RZ {st:HS} (wf:Wf st) (h:∀r∈rs,1<=r.2/\∃p∈st.aj,p.nm=r.1):(cV st rs).length=st.bz.length/\∀m∈cV st rs,0<=m/\m<=aI rs*st.prod:=by
 rw [zA wf (fun r hr=>(h r hr).2)]
 have p1:=wf.d9
 constructor
 . rw [zz rs _ (fun r hr=>by
    obtain ⟨p,hp,e⟩:=(h r hr).2
    rw [cN wf hp e,nI,uh wf hp]),nI]
 . intro m hm
   have:=AV (st:=st) (by omega) rs (List.replicate st.bz.length 0) 0 (fun r hr=>by
    obtain ⟨h1,p,hp,e⟩:=h r hr
    refine ⟨by omega,?_⟩
    rw [cN wf hp e]
    exact wf.nQ p hp) (fun x hx=>by rw [(List.mem_replicate.mp hx).2];omega) m hm
   omega
theorem CP {ps:List Pt} {a:Int} (h:p∈ps) (hn:p.nm≠x) (hw:p.wo≠0):p∈jK ps x a:=
 xA.mpr ⟨bH.mpr ⟨p,h,by rw [aB hn]⟩,bq hw⟩
theorem xY {ps:List Pt} {a:Int} (h:p∈jK ps x a):p.wo≠0/\∃q∈ps,p=if q.nm=x then { q with wo:=q.wo-a } else q:=by
 obtain ⟨h1,h2⟩:=xA.mp h
 obtain ⟨q,hq,e⟩:=bH.mp h1
 exact ⟨bg h2,q,hq,e.symm⟩
theorem tH {ps:List Pt} {a:Int}:((jK ps x a).map (fun p:Pt=>p.nm)).Sublist (ps.map (fun p:Pt=>p.nm)):=by
 unfold jK
 have e:(ps.map fun p=>if p.nm=x then { p with wo:=p.wo-a } else p).map (fun p:Pt=>p.nm)=ps.map (fun p:Pt=>p.nm):=by
  rw [fR]
  exact vI fun p _=>by show (if p.nm=x then _ else p:Pt).nm=p.nm;split <;> rfl
 rw [<-e]
 exact List.filter_sublist.map _
theorem Eg {st:HS} (wf:Wf st) {r:Row} (h:∀p∈st.aj,p.nm=r.1->r.2<=p.wo):Wf (c7 st r):=by
 have P:∀{M:Pt->Prop},(∀p∈st.aj,M p)->(∀(p:Pt) (w:Int),M p->M { p with wo:=w })->∀p∈jK st.aj r.1 r.2,M p:=fun h1 h2 p hp=>by
  obtain ⟨_,q,hq,e⟩:=xY hp
  rw [e]
  split
  . exact h2 _ _ (h1 q hq)
  . exact h1 q hq
 refine ⟨wf.nN,wf.xU,wf.dh.sublist tH,P wf.sub (fun _ _ z=>z),P wf.rows (fun _ _ z=>z),P wf.ow (fun _ _ z=>z),wf.fV,wf.nO,wf.d9,wf.oX,wf.ud,wf.j8,wf.xV,?_,wf.zg,wf.ue,wf.FI,wf.big,wf.nP,P wf.oY (fun _ _ z=>z),P wf.mG (fun _ _ z=>z),P wf.nQ (fun _ _ z=>z),fun p hp=>?_,wf.D7⟩
 . have:=tH (ps:=st.aj) (x:=r.1) (a:=r.2) |>.length_le
   rw [aH,aH] at this
   exact gf this wf.lD
 . obtain ⟨h0,q,hq,e⟩:=xY hp
   have:=wf.jr q hq
   by_cases c:q.nm=r.1
   . rw [aD c] at e
     subst e
     have:=h q hq c
     have h0:q.wo-r.2≠0:=h0
     exact ⟨by show 1<=q.wo-r.2;omega,by show 0<=q.we;omega⟩
   . rw [aB c] at e
     rw [e];exact this
def Due (st:HS) (rs:List Row):Prop:=∀r∈rs,∃p∈st.aj,p.nm=r.1/\r.2<=p.wo
theorem tN {st:HS} (wf:Wf st) {q:Pt} (hp:p∈st.aj) (hq:q∈st.aj) (e:p.nm=q.nm):p=q:=(cN wf hp rfl).symm.trans (by rw [e];exact cN wf hq rfl)
theorem JO {st:HS} (wf:Wf st) {r:Row} (d:Due st (r::rs)):Wf (c7 st r):=by
 obtain ⟨p,hp,e,hle⟩:=d r cS
 exact Eg wf fun q hq eq=>by rw [tN wf hq hp (eq.trans e.symm)];exact hle
theorem Bq {st:HS} (wf:Wf st) {r:Row} (d:Due st (r::rs)) (nd:((r::rs).map (fun r:Row=>r.1)).Nodup):Due (c7 st r) rs:=fun x hx=>by
 obtain ⟨p,hp,e,hle⟩:=d x (cD _ hx)
 have hn:p.nm≠r.1:=fun z=>(fP.mp nd).1 (bH.mpr ⟨x,hx,e.symm.trans z⟩)
 have:=wf.jr p hp
 exact ⟨p,CP hp hn (by omega),e,hle⟩
theorem JP:∀{rs:List Row} {st:HS},Wf st->Due st rs->(rs.map (fun r:Row=>r.1)).Nodup->Wf (rs.foldl c7 st)
 | [],_,wf,_,_=>wf
 | r::rs,st,wf,d,nd=>show Wf (rs.foldl c7 (c7 st r)) from JP (JO wf d) (Bq wf d nd) (fP.mp nd).2
theorem vh {st:HS} {kept whole:Int} (d:Due st rs):Due (aZ st kept whole added) rs:=fun r hr=>by
 obtain ⟨p,hp,e,hle⟩:=d r hr
 refine ⟨{ p with sc:=p.sc*kept / bQ st kept whole added },?_,e,hle⟩
 unfold aZ
 rw [jY]
 exact bH.mpr ⟨p,hp,Z⟩
theorem jv.due {st:HS} (c:jv st rs):Due st rs:=fun r hr=>(c.row r hr).2.2
theorem qp:∀{rs:List Row},(∀r∈rs,1<=r.2)->0<=aI rs
 | [],_=>kP _
 | r::rs,h=>by
   have:=h r cS
   have:=qp (rs:=rs) fun x hx=>h x (cD _ hx)
   rw [show aI (r::rs)=r.2+aI rs from by unfold aI;rw [bw,b8]]
   omega
theorem jv.blend {st:HS} (wf:Wf st) (c:jv st rs):qm st (aC st-aI rs) (aC st) (aI rs) (cV st rs):=by
 have g:=RZ wf (rs:=rs) (fun r hr=>⟨(c.row r hr).1,by obtain ⟨p,hp,e,_⟩:=(c.row r hr).2.2;exact ⟨p,hp,e⟩⟩)
 have l0:=qp (rs:=rs) fun r hr=>(c.row r hr).1
 have:=c.lost
 exact ⟨by omega,l0,by omega,g.1,g.2,c.prod,c.big,c.bL,c.stp⟩
theorem tO {st:HS} (wf:Wf st) (c:jv st rs):Wf (bV st rs):=JP (qo wf (c.blend wf)) (vh c.due) c.nd
structure xZ (K:Fg) (H:Hp) (us:List V) (ws:List Row):Prop where
 len:us.length=ws.length
 at_:∀(i:Nat) (r:Row),ws[i]?=some r->∃a xs,us[i]?=some (.ref a)/\Sq K H a xs/\xs[0]?=some (.str r.1)/\xs[2]?=some (.int r.2)
theorem xZ.mono {us:List V} {ws:List Row} (h:xZ K H us ws) (g:aO H H'):xZ K H' us ws:=⟨h.len,fun i p e=>let ⟨r,xs,a,b,c⟩:=h.at_ i p e;⟨r,xs,a,g.sq b,c⟩⟩
theorem zC:∀{l:List Str} {o:Str},o∈l->l[l.idxOf o]?=some o
 | [],_,h=>by simp at h
 | x::l,o,h=>by
   by_cases e:x=o
   . subst e;simp
   . have ho:o∈l:=by
      rcases dz.mp h with z|z
      . exact absurd z.symm e
      . exact z
     rw [List.idxOf_cons,show (x==o)=false from A3.mpr e]
     simpa using zC ho
inductive afx (K:Fg) (vs:List V) (H:Hp) (Q:VK) (E:XK):Prop
 | mk (l:Addr) (us:List V) (ws:List Row) (i:Nat) (r:Row) (_:vs=[.ref l, .str r.1]) (_:aK K H l us) (_:xZ K H us ws) (_:(ws.map (fun r:Row=>r.1)).Nodup) (_:ws.length<=1000) (_:ws[i]?=some r) (_:Q (.int (i:Int)) H)
def VX (K:Fg):Sp:=bx (afx K)
structure R0 (ws rs:List Row):Prop where
 nd:(rs.map (fun r:Row=>r.1)).Nodup
 row:∀r∈rs,1<=r.2/\r.2<=1000000000/\∃w∈ws,w.1=r.1/\r.2<=w.2
 lost:aI rs<aI ws\/rs=[]
 len:rs.length<=ws.length
inductive Zx (K:Fg) (vs:List V) (H:Hp) (Q:VK) (E:XK):Prop
 | mk (a l:Addr) (ns:List Int) (k:Int) (us:List V) (ws:List Row) (_:vs=[.ref a, .int k, .ref l]) (_:aK K H a (ns.map V.int)) (_:ns.length<=63) (_:0<=k) (_:k<=1000000) (_:aK K H l us) (_:xZ K H us ws) (_:(ws.map (fun r:Row=>r.1)).Nodup) (_:ws.length<=1000) (_:(∀w∈ws,1<=w.2)) (_:∀z zs rs H',aO H H'->H z=none->H' z=some (.lst zs)->dZ H' zs rs->R0 ws rs->Q (.ref z) H')
def Eh (K:Fg):Sp:=bx (Zx K)
section
variable {X:Cx}
def um (i j k:Int):Int:=if j<i then (if k<j then k else j) else (if k<i then k else i)
theorem Xj (i j k:Int):um i j k<=i/\um i j k<=j/\um i j k<=k:=by unfold um;split <;> split <;> omega
theorem Xk {i j k m:Int} (h1:m<=i) (h2:m<=j) (h3:m<=k):m<=um i j k:=by unfold um;split <;> split <;> omega
theorem R1 (hc:X.calm=true):je X (.builtin "min") (fun xs H Q=>∃i j k,xs=[.int i, .int j, .int k]/\Q (.int (um i j k)) H):=by
 intro pins s σ H xs us Q I r h
 obtain ⟨i,j,k,rfl,q⟩:=h
 obtain ⟨u,us,rfl,⟨t,rfl⟩,r2⟩:∃u us',us=u::us'/\RelV (.int i) u/\Vals [.int j, .int k] us':=by cases r with|cons a b=>exact ⟨_,_,rfl,a,b⟩
 obtain ⟨u2,u3,rfl,⟨t',rfl⟩,⟨t'',rfl⟩⟩:=vals2 r2
 refine min_three_ints (I.ok.hd hc) fun h' tk kk=>⟨_,H,I.kept kk,?_,q⟩
 unfold um
 by_cases hj:j<i
 . rw [aD hj,aD hj]
   by_cases hk:k<j
   . rw [aD hk,aD hk];exact ⟨_,Z⟩
   . rw [aB hk,aB hk];exact ⟨_,Z⟩
 . rw [aB hj,aB hj]
   by_cases hk:k<i
   . rw [aD hk,aD hk];exact ⟨_,Z⟩
   . rw [aB hk,aB hk];exact ⟨_,Z⟩
end
def gD (rs:List Row) (x:Str):Int:=((rs.find? fun r=>decide (r.1=x)).map (fun r:Row=>r.2)).getD 0
theorem zH (x:Str):gD [] x=0:=rfl
theorem pe (r:Row) (rs:List Row) (x:Str):gD (r::rs) x=if r.1=x then r.2 else gD rs x:=by
 unfold gD
 rw [sZ]
 by_cases c:r.1=x
 . rw [bq c,aD c];rfl
 . rw [dw c,aB c]
theorem x6:∀{rs:List Row} {x:Str},x∉rs.map (fun r:Row=>r.1)->gD rs x=0
 | [],_,_=>rfl
 | r::rs,x,h=>by
   rw [pe,aB (fun e=>h (by rw [bw,e];exact cS))]
   exact x6 fun m=>h (by rw [bw];exact cD _ m)
theorem x8:∀{rs:List Row} {r:Row} {x:Str},r.1∉rs.map (fun r:Row=>r.1)->gD (rs++[r]) x=if r.1=x then r.2 else gD rs x
 | [],r,x,_=>by rw [H_,pe]
 | y::rs,r,x,h=>by
   rw [bw] at h
   have h1:r.1≠y.1:=fun e=>h (by rw [e];exact cS)
   rw [O8,pe,x8 (fun m=>h (cD _ m)),pe]
   by_cases c:y.1=x
   . rw [aD c,aD c,aB (fun e=>h1 (e.trans c.symm))]
   . rw [aB c,aB c]
abbrev Q4:=Str×Str×Int×Int
def br (st:HS):List Q4:=st.aj.map fun p=>(p.nm,p.ow,p.wo,p.we)
def qY (qs:List Q4) (r:Row):List Q4:=(qs.map fun q=>if q.1=r.1 then (q.1,q.2.1,q.2.2.1-r.2,q.2.2.2) else q).filter fun q=>decide (q.2.2.1≠0)
def pA (rs:List Row) (qs:List Q4):List Q4:=(qs.map fun q=>(q.1,q.2.1,q.2.2.1-gD rs q.1,q.2.2.2)).filter fun q=>decide (0<q.2.2.1)
theorem R3 (st:HS) (r:Row):br (c7 st r)=qY (br st) r:=by
 unfold br c7 jK qY
 generalize st.aj=ps
 show List.map _ (List.filter _ (List.map _ ps))=_
 induction ps with
 | nil=>rfl
 | cons p ps ih=>
   rw [bw,bw,bw]
   by_cases c:p.nm=r.1
   . rw [aD c,aD (show (p.nm,p.ow,p.wo,p.we).1=r.1 from c),gZ,gZ]
     by_cases d:p.wo-r.2=0
     . rw [aB (by simpa using d),aB (by simpa using d),ih]
     . rw [aD (by simpa using d),aD (by simpa using d),bw,ih]
   . rw [aB c,aB (show ¬ (p.nm,p.ow,p.wo,p.we).1=r.1 from c),gZ,gZ]
     by_cases d:p.wo=0
     . rw [aB (by simpa using d),aB (by simpa using d),ih]
     . rw [aD (by simpa using d),aD (by simpa using d),bw,ih]
theorem CQ (st:HS) (kept whole:Int) (added:List Int):br (aZ st kept whole added)=br st:=by
 unfold br aZ
 rw [jY,fR]
 rfl
theorem CS:∀(rs:List Row) (st:HS),br (rs.foldl c7 st)=rs.foldl qY (br st)
 | [],_=>rfl
 | r::rs,st=>by rw [jH,jH,CS rs,R3]
theorem CT:∀(qs:List Q4) (r:Row) (rs:List Row),r.1∉rs.map (fun r:Row=>r.1)->(∀q∈qs,1<=q.2.2.1)->(∀q∈qs,q.1=r.1->r.2<=q.2.2.1)->pA rs (qY qs r)=pA (r::rs) qs
 | [],_,_,_,_,_=>rfl
 | q::qs,r,rs,hn,h1,h2=>by
   have ih:=CT qs r rs hn (fun x hx=>h1 x (cD _ hx)) (fun x hx=>h2 x (cD _ hx))
   have w1:=h1 q cS
   have e1:qY (q::qs) r=(if q.1=r.1 then (if q.2.2.1-r.2=0 then [] else [(q.1,q.2.1,q.2.2.1-r.2,q.2.2.2)]) else [q])++qY qs r:=by
    unfold qY
    rw [bw,gZ]
    by_cases c:q.1=r.1
    . rw [aD c,aD c]
      by_cases d:q.2.2.1-r.2=0
      . rw [aD d,aB (by simpa using d)];rfl
      . rw [aB d,aD (by simpa using d)];rfl
    . rw [aB c,aB c,aD (bq (show q.2.2.1≠0 by omega))];rfl
   have e2:∀(us:List Row) (x:Q4) (l:List Q4),pA us (x::l)=(if 0<x.2.2.1-gD us x.1 then [(x.1,x.2.1,x.2.2.1-gD us x.1,x.2.2.2)] else [])++pA us l:=fun us x l=>by
    unfold pA
    rw [bw,gZ]
    by_cases c:0<x.2.2.1-gD us x.1
    . rw [aD c,aD (bq c)];rfl
    . rw [aB c,aB (by simpa using c)];rfl
   rw [e1,e2 (r::rs),pe]
   by_cases c:q.1=r.1
   . have am:gD rs q.1=0:=by rw [c];exact x6 hn
     have le:=h2 q cS c
     rw [aD c,aD c.symm]
     by_cases d:q.2.2.1-r.2=0
     . rw [aD d,aB (by omega),<-ih];rfl
     . rw [aB d,aD (by omega),<-ih,O8,H_,e2 rs]
       show (if 0<q.2.2.1-r.2-gD rs q.1 then [(q.1,q.2.1,q.2.2.1-r.2-gD rs q.1,q.2.2.2)] else [])++_=_
       rw [am,uX,aD (by omega)]
   . rw [aB c,show (if r.1=q.1 then r.2 else gD rs q.1)=gD rs q.1 from aB (fun z=>c z.symm),<-ih,O8,H_,e2 rs]
theorem FW {qs:List Q4} {r:Row} {x:Q4} (h:x∈qY qs r):x.2.2.1≠0/\∃q∈qs,x=if q.1=r.1 then (q.1,q.2.1,q.2.2.1-r.2,q.2.2.2) else q:=by
 obtain ⟨h1,h2⟩:=xA.mp h
 obtain ⟨q,hq,e⟩:=bH.mp h1
 exact ⟨bg h2,q,hq,e.symm⟩
theorem FY:∀(rs:List Row) (qs:List Q4),(rs.map (fun r:Row=>r.1)).Nodup->(∀q∈qs,1<=q.2.2.1)->(∀r∈rs,∀q∈qs,q.1=r.1->r.2<=q.2.2.1)->rs.foldl qY qs=pA rs qs
 | [],qs,_,h1,_=>by
   show qs=pA [] qs
   unfold pA
   induction qs with
   | nil=>rfl
   | cons q qs ih=>
     have:=h1 q cS
     rw [bw,gZ,aD (bq (show 0<q.2.2.1-gD [] q.1 by rw [zH];omega)),<-ih (fun x hx=>h1 x (cD _ hx)) (fun r hr=>absurd hr (by simp)),zH,uX]
 | r::rs,qs,nd,h1,h2=>by
   obtain ⟨n1,n2⟩:=fP.mp (show (r.1::rs.map (fun r:Row=>r.1)).Nodup from nd)
   rw [jH,FY rs (qY qs r) n2 ?_ ?_]
   . exact CT qs r rs n1 h1 (h2 r cS)
   . intro x hx
     obtain ⟨a,q,hq,e⟩:=FW hx
     have:=h1 q hq
     by_cases c:q.1=r.1
     . rw [aD c] at e
       have:=h2 r cS q hq c
       rw [e] at a ⊢
       have a:q.2.2.1-r.2≠0:=a
       show 1<=q.2.2.1-r.2
       omega
     . rw [aB c] at e;rw [e];exact this
   . intro y hy x hx ex
     obtain ⟨_,q,hq,e⟩:=FW hx
     by_cases c:q.1=r.1
     . rw [aD c] at e
       rw [e] at ex
       exact absurd (bH.mpr ⟨y,hy,ex.symm.trans c⟩) n1
     . rw [aB c] at e
       rw [e] at ex ⊢
       exact h2 y (cD _ hy) q hq ex
theorem nS (st:HS) (rs:List Row):(bV st rs).own=st.own:=by
 unfold bV
 have:∀(rs:List Row) (s:HS),(rs.foldl c7 s).own=s.own:=fun rs=>by
  induction rs with
  | nil=>intro s;rfl
  | cons r rs ih=>intro s;rw [jH,ih];rfl
 rw [this]
 unfold aZ
 rw [rP]
theorem lF:∀(rs:List Row) (s:HS),rs.foldl c7 s={ s with aj:=(rs.foldl c7 s).aj }
 | [],_=>rfl
 | r::rs,s=>by
   rw [jH,lF rs (c7 s r)]
   rfl
theorem qt {f:Int->Int->Int} (hf:f 0 0=0) {xs ys:List Int} (h:xs.length=ys.length) (j:Nat):(List.zipWith f xs ys).getD j 0=f (xs.getD j 0) (ys.getD j 0):=by
 rw [mw,mw,mw,OT]
 by_cases c:j<xs.length
 . rw [bD c,bD (by omega)];rfl
 . rw [xx (by omega),xx (by omega)];exact hf.symm
def jP (rs:List Row) (f:Str->Int):Int:=(rs.map fun r=>r.2*f r.1).sum
theorem JQ {st:HS}:∀(rs:List Row) (acc:List Int),(∀r∈rs,(aS st (bO st r.1)).length=acc.length)->∀j,(tG st acc rs).getD j 0=acc.getD j 0+jP rs fun x=>(aS st (bO st x)).getD j 0
 | [],acc,_,j=>by show acc.getD j 0=_+0;omega
 | r::rs,acc,h,j=>by
   have hr:=h r cS
   have e:(List.zipWith (fun x t=>x+r.2*t) acc (aS st (bO st r.1))).length=acc.length:=by rw [kL,hr];omega
   show (tG st (List.zipWith (fun x t=>x+r.2*t) acc (aS st (bO st r.1))) rs).getD j 0=_
   rw [JQ rs _ (fun x hx=>by rw [e];exact h x (cD _ hx)),qt (f:=fun x t=>x+r.2*t) (by show (0:Int)+r.2*0=0;omega) hr.symm]
   unfold jP
   rw [bw,b8]
   show acc.getD j 0+r.2*(aS st (bO st r.1)).getD j 0+(rs.map fun r=>r.2*(aS st (bO st r.1)).getD j 0).sum=acc.getD j 0+(r.2*(aS st (bO st r.1)).getD j 0+(rs.map fun r=>r.2*(aS st (bO st r.1)).getD j 0).sum)
   omega
theorem FZ {st st':HS} {kept whole:Int} {added:List Int} (wf:Wf st) (bl:qm st kept whole lost added) (ec:st'.bz=(aZ st kept whole added).bz) (ep:st'.prod=(aZ st kept whole added).prod) {p':Pt} (hp:p∈st.aj) (e2:p'.row=p.row) (e3:p'.sc=p.sc*kept / bQ st kept whole added)
  {t0 gB B:Int} {j:Nat} (tj:t0*st.prod=(aS st p).getD j 0*B) (eB:gB*st.prod=added.getD j 0*B):(t0*kept+gB)*st'.prod=(aS st' p').getD j 0*(B*whole):=by
 obtain ⟨hd,N3,hds,hdc⟩:=bl.dvds
 have afy:st'.bz=(fJ st kept added).map (· / bQ st kept whole added):=by
  rw [ec];unfold aZ;rw [FP]
 have s1:1<=whole / bQ st kept whole added:=by
  have w1:0<whole:=by have:=bl.l;have:=bl.w;have:=bl.k;omega
  have:=Int.le_of_dvd w1 N3
  exact Int.le_ediv_of_mul_le hd (by omega)
 have CU:st'.prod=st.prod*(whole / bQ st kept whole added):=by
  rw [ep];unfold aZ;rw [xX s1]
 have hds:=hds p hp
 have hrl:=wf.rows p hp
 have hcl:=wf.fV
 have gl:=bl.len
 have ewd:bQ st kept whole added*(whole / bQ st kept whole added)=whole:=OV N3
 have a5:bQ st kept whole added*p'.sc=p.sc*kept:=by rw [e3];exact OV hds
 rw [CU]
 clear ec ep CU e3 bl N3 hds s1
 generalize bQ st kept whole added=d at *
 have etop:d*(aS st' p').getD j 0=(aS st p).getD j 0*kept+added.getD j 0:=by
  have a1:(aS st' p').getD j 0=p'.sc*p.row.getD j 0+((fJ st kept added).map (· / d)).getD j 0:=by
   unfold aS
   rw [afy,e2,qt (f:=fun r c=>p'.sc*r+c) (by show p'.sc*0+0=0;omega)]
   rw [aH]
   unfold fJ
   rw [kL,gl,hrl,hcl]
   omega
  have a2:(aS st p).getD j 0=p.sc*p.row.getD j 0+st.bz.getD j 0:=by
   unfold aS
   exact qt (f:=fun r c=>p.sc*r+c) (by show p.sc*0+0=0;omega) (by rw [hrl,hcl]) j
  have a3:(fJ st kept added).getD j 0=st.bz.getD j 0*kept+added.getD j 0:=by
   unfold fJ
   exact qt (f:=fun t m=>t*kept+m) (by show (0:Int)*_+0=0;omega) gl.symm j
  have a4:d*((fJ st kept added).map (· / d)).getD j 0=(fJ st kept added).getD j 0:=by
   rw [mw,mw,cA]
   cases ec:(fJ st kept added)[j]? with
   | none=>show _*0=(0:Int);omega
   | some x=>exact OV (hdc x (cg ec))
  rw [a1,qT,<-jd,a5,a4,a3,a2]
  grind
 generalize whole / d=R4 at *
 generalize (aS st' p').getD j 0=T' at *
 generalize (aS st p).getD j 0=T at *
 generalize added.getD j 0=gS at *
 refine Int.eq_of_mul_eq_mul_left (a:=d) (by omega) ?_
 have l1:d*((t0*kept+gB)*(st.prod*R4))=(t0*st.prod*kept+gB*st.prod)*(d*R4):=by grind
 have l2:d*(T'*(B*whole))=(d*T')*(B*whole):=by grind
 rw [l1,l2,ewd,tj,eB,etop]
 grind
theorem AW {α:Type} (f g:α->Int):∀l:List α,(l.map fun x=>f x+g x).sum=(l.map f).sum+(l.map g).sum
 | []=>rfl
 | a::l=>by rw [bw,bw,bw,b8,b8,b8,AW f g l];omega
theorem qZ {α:Type} (f:α->Int) (k:Int):∀l:List α,(l.map fun x=>f x*k).sum=(l.map f).sum*k
 | []=>by simp
 | a::l=>by rw [bw,bw,b8,b8,qZ f k l,uY]
theorem Mc:∀(l:List Int) (n:Nat),l.length=n->(List.range n).map (fun i=>l.getD i 0)=l:=fun l n h=>by
 refine List.ext_getElem? fun i=>?_
 rw [cA]
 by_cases hi:i<n
 . rw [List.getElem?_range hi,bD (by omega)]
   show some (l.getD i 0)=_
   rw [mw,bD (by omega)];rfl
 . rw [xx (by rw [O4];omega),xx (by omega)];rfl
theorem vP:∀{l:List Int} {i:Nat} {x:Int},i<l.length->(l.set i (l.getD i 0+x)).sum=l.sum+x
 | a::l,0,x,_=>by rw [OZ,b8,b8];show a+x+_=_;omega
 | a::l,i+1,x,h=>by
   rw [IG,b8,b8]
   have:=vP (l:=l) (i:=i) (x:=x) (by simpa using h)
   have e:(a::l).getD (i+1) 0=l.getD i 0:=rfl
   rw [e,this];omega
 | [],_,_,h=>by simp at h
theorem N4 (k:Int):∀{ts gs:List Int},ts.length=gs.length->(List.zipWith (fun t g=>t*k+g) ts gs).sum=ts.sum*k+gs.sum
 | [],[],_=>by simp
 | t::ts,g::gs,h=>by
   have:=N4 k (ts:=ts) (gs:=gs) (by simpa using h)
   rw [DU,b8,b8,b8,this,uY];omega
 | [],_::_,h=>by simp at h
 | _::_,[],h=>by simp at h
theorem Xl (st:HS) (rs:List Row):(bV st rs).kn<=st.kn:=by
 unfold bV
 rw [lF]
 show (aZ st (aC st-aI rs) (aC st) (cV st rs)).kn<=st.kn
 unfold aZ ef
 split
 . exact gh _
 . exact aN _
theorem JR (n:Nat):(List.replicate n (0:Int)).sum=0:=by
 induction n with
 | zero=>rfl
 | succ n ih=>rw [A_,b8,ih];rfl
theorem pB:∀(l:List Str) (st:HS),st.aj=[]->(∀u∈st.bL,u=0)->(l.foldl gO st).aj=[]/\(l.foldl gO st).nms=st.nms/\(l.foldl gO st).stp=st.stp/\(l.foldl gO st).prod=st.prod/\(l.foldl gO st).d_=st.d_/\∀u∈(l.foldl gO st).bL,u=0
 | [],_,h,hp=>⟨h,Z,Z,Z,Z,hp⟩
 | o::l,st,h,hp=>by
   rw [jH]
   exact pB l (gO st o) (by show st.aj.map _=[];rw [h];rfl) (fun u hu=>by
    rcases gb.mp (show u∈st.bL++[0] from hu) with z|z
    . exact hp u z
    . exact fU.mp z)
def yy (K:Fg) (ρ:cR) (H:Hp) (z:Addr) (xs:List V):Prop:=∀(ρ':cR) (H':Hp),aO (out ρ H) (out ρ' H')->aK K H' z xs
theorem yy.of (h:aK K H z xs):yy K (fun _=>none) H z xs:=fun ρ' H' s=>by
 rcases h with (h|⟨o,h⟩)|h
 . exact .inl (.inl (lC (s _ _ (rM h rfl))).1)
 . exact .inl (.inr ⟨o,(lC (s _ _ (rM h rfl))).1⟩)
 . exact .inr h
theorem yy.go (h:yy K ρ H z xs) (s:aO (out ρ H) (out ρ' H')):yy K ρ' H' z xs:=fun _ _ s'=>h _ _ (s.trans s')
theorem aK.outs (h:aK K H z xs) (c:ρ z=none) (s:aO (out ρ H) (out ρ' H')):aK K H' z xs:=by
 rcases h with (h|⟨o,h⟩)|h
 . exact .inl (.inl (lC (s _ _ (rM h c))).1)
 . exact .inl (.inr ⟨o,(lC (s _ _ (rM h c))).1⟩)
 . exact .inr h
theorem HH.other {n:Nat} {st:HS} (h:HH T n ρ A H st) (f:Fr m ρ H ρ' H') (g:Gh ρ' H') (e:n≠m):HH T n ρ' A H' st:=⟨g,h.h.other f h.g e,h.wf⟩
theorem JS:∀(l:List Str) (st:HS),(l.foldl gO st).kn=st.kn
 | [],_=>rfl
 | o::l,st=>by rw [jH,JS l];rfl
structure eZ (K:Fg) (x:Str) (st:Stmt):Prop where
 ex:∃(f:Addr) (oc:Value) (od an:Option Addr) (sl:Array (Option Value)) (kV dc pm cd ct:Value),PySem.W.nsIn K mainGlobals x=some (some (.ref f))/\K.lookup f=some ⟨oc,od, .func (PySem.W.fnOf x x (d8 st) (cJ st) (aE st) .none kV dc pm an cd ct),sl⟩/\PySem.W.codeIn K cd x=true/\PySem.W.keepIn K (.ref f)=true
theorem eZ.at {st:Stmt} (d:eZ K x st) (X:K.In h) (G:h.Ns mainGlobals mg):∃f fd,At K mg x st f fd:=by
 obtain ⟨f,oc,od,an,sl,kV,dc,pm,cd,ct,a,l,c,k⟩:=d.ex
 exact ⟨f,_,VL X G a l c k⟩
structure c8 (K:Fg) (C:Addr) (n qual:Str) (st:Stmt):Prop where
 ex:∃(f:Addr) (oc:Value) (od an:Option Addr) (sl:Array (Option Value)) (kV dc pm cd ct:Value),PySem.W.findIn K (.ref C) n=some (some (.ref f))/\PySem.W.isFn K (.ref f)=true/\K.lookup f=some ⟨oc,od, .func (PySem.W.fnOf n qual (d8 st) (cJ st) (aE st) .none kV dc pm an cd ct),sl⟩/\PySem.W.codeIn K cd qual=true/\PySem.W.keepIn K (.ref f)=true
theorem c8.at {n:Str} {st:Stmt} (d:c8 K C n qual st) (cl:oQ K C):∃f fd,gI K C n qual st f fd:=by
 obtain ⟨f,oc,od,an,sl,kV,dc,pm,cd,ct,a,i,l,c,k⟩:=d.ex
 exact ⟨f,_,Ji l c k,⟨a,i,k⟩,cl⟩
theorem c8.made {st:Stmt} (d:c8 K C "__init__" qual st) (X:K.In h) (G:h.Ns mainGlobals mg) (a0:PySem.W.nsIn K mainGlobals x=some (some (.ref C))) (m:PySem.W.makesIn K C=true) (kc:PySem.W.keepIn K (.ref C)=true):∃f fd,FF K mg x C qual st f fd:=by
 obtain ⟨f,oc,od,an,sl,kV,dc,pm,cd,ct,a,i,l,c,k⟩:=d.ex
 exact ⟨f,_,Ji l c k,⟨m,a,i,kc⟩,qR X G a0⟩
variable {oc pm ct:Value} {od an:Option Addr} {sl:Array (Option Value)}
theorem eZ.of {st:Stmt} {kV dc cd:Value} (a:PySem.W.nsIn K mainGlobals x=some (some (.ref f))) (l:K.lookup f=some ⟨oc,od, .func (PySem.W.fnOf x x (d8 st) (cJ st) (aE st) .none kV dc pm an cd ct),sl⟩) (c:PySem.W.codeIn K cd x=true) (k:PySem.W.keepIn K (.ref f)=true):eZ K x st:=⟨⟨_,_,_,_,_,_,_,_,_,_,a,l,c,k⟩⟩
theorem c8.of {n:Str} {st:Stmt} {kV dc cd:Value} (a:PySem.W.findIn K (.ref C) n=some (some (.ref f))) (i:PySem.W.isFn K (.ref f)=true) (l:K.lookup f=some ⟨oc,od, .func (PySem.W.fnOf n qual (d8 st) (cJ st) (aE st) .none kV dc pm an cd ct),sl⟩) (c:PySem.W.codeIn K cd qual=true) (k:PySem.W.keepIn K (.ref f)=true):c8 K C n qual st:=⟨⟨_,_,_,_,_,_,_,_,_,_,a,i,l,c,k⟩⟩
section
variable {X:Cx}
variable {o i:Expr} {pos:Pos} {td ty:TE}
end
section
variable {a b:List Nat} {m v:Int} (ha:oV a) (hb:oV b) (hm:1<=m) (hm2:m<=1000000000) (hv:0<=v) (hv2:v<=1000000000)
include ha hb hm hm2 hv hv2 in
end
section
variable {X:Cx}
end
section
variable {X:Cx}
end
def Trc (h:Heap) (x T C:Addr):Prop:=∃oe vs a0 oT ts,h.get? x=some oe/\oe.cls = .ref C/\vs[0]?=some a0/\oe.data = .fields vs/\vs[1]?=some (.ref T)/\T≠x/\h.get? T=some oT/\oT.data = .fields ts/\ts[3]?=some .none
def f7 (P:Program) (w:World):wC:=fun outer H s E e s'=>∃(x T C:Addr) (H':Hp),e = .ref x/\s'.os=s.os/\AllBare s'.gens/\Un (frs outer) [] H H' s.heap s'.heap/\g_ P w H' s'.heap/\Trc s'.heap x T C/\
 s.heap.get? x=none/\s.heap.get? T=none/\H' x=none/\H' T=none/\E e (some C) H'
variable {h':Heap}
theorem g_.Zy {w:World} (x:g_ P w H h) (k:∀b o u,H b=some o->h.get? b=some u->h'.get? b=some u):g_ P w H h':=fun a o e=>
 (x a o e).stay (fun b u hb q=>by
   rcases hb with rfl|hb
   . exact k _ _ _ e q
   . exact k _ _ _ hb q) (fun _ q=>q) fun _ _ q=>q
theorem eY.isAt {w:World} (x:eY P w H h a o):∃u,h.get? a=some u:=by
 cases o with
 | lst xs=>obtain ⟨_,_,_,_,e⟩:=x;exact ⟨_,e⟩
 | tup xs=>obtain ⟨_,_,_,p⟩:=x;obtain ⟨o,e,_⟩:=p;exact ⟨_,e⟩
 | dK kvs=>obtain ⟨_,_,_,_,o,_,_,e,_⟩:=x;exact ⟨_,e⟩
 | dT kvs=>obtain ⟨_,_,_,_,o,_,_,e,_⟩:=x;exact ⟨_,e⟩
 | set S n=>obtain ⟨o,_,_,_,e,_⟩:=x;exact ⟨_,e⟩
 | ins C dx fs=>obtain ⟨_,_,_,e,_⟩:=x;exact ⟨_,e⟩
 | own y=>obtain ⟨_,e⟩:=x;exact ⟨_,e⟩
 | xd fs=>obtain ⟨_,⟨_,_,_,e,_⟩,_⟩:=x;exact ⟨_,e⟩
 | uZ lo hi=>obtain ⟨_,_,_,e⟩:=x;exact ⟨_,e⟩
 | eF ob u=>obtain ⟨e,_⟩:=x;exact ⟨_,e⟩
 | E_ ps=>exact ⟨_,(show h.get? a=some _ from x)⟩
 | met f y=>exact ⟨_,(show h.get? a=some _ from x)⟩
 | ext φ=>obtain ⟨_,⟨_,e⟩,_⟩:=x;exact ⟨_,e⟩
section
variable {P:Program} {w:World} {K:Fg} {mg:SO} {base:Heap} {N:List Str} {qual:Str} {scope:Scope} {f:Addr} {cd:Value} {A:Around} {outer:List Env} {s0:Shared} {H0:Hp} {E:XK} {CX:wC}
theorem N5 {x:Addr} {a0:Value} {B:Heap} (I:Inv (cM CX P w K mg base N qual scope f cd A outer s0 H0 E) pins σ H s)
  (hB:∀b o,s.heap.get? b=some o->b∉frs (envOfC qual scope s0.heap.objs.size f cd::outer)->s0.heap.get? b≠none\/H b≠none->B.get? b=some o)
  (hfl:Heap.FlyingW B outer x (.ref C) a0 h') (hup:s.heap.UpToSlots h') (hx:s0.heap.get? x=none) (F_:H x=none)
  (q:E (.ref x) (some C) H):f7 P w outer H0 s0 E (.ref x) { s with heap:=h' }:=by
 obtain ⟨st,bx,fr,oe,vs,T,oT,ts,h1,⟨h2,h3⟩,h4,h5,h6,h7,h8,h9,yz⟩:=hfl
 have ab9:T∉frs outer:=fun m=>by
  obtain ⟨_,o,ho,hd⟩:=fr.mem m
  rw [h8] at ho;cases ho
  exact hd _ h9
 have L0:s0.heap.get? s0.heap.objs.size=none:=Heap.get?_none_of_le (aN _)
 have big:∀b o,s0.heap.get? b=some o->b∉frs outer->b∉frs (envOfC qual scope s0.heap.objs.size f cd::outer):=fun b o e n m=>by
  have m':b∈s0.heap.objs.size::frs outer:=m
  rcases dz.mp m' with z|z
  . rw [z,L0] at e;cases e
  . exact n z
 have hT0:s0.heap.get? T=none:=by
  cases e:s0.heap.get? T with
  | none=>rfl
  | some o=>
    obtain ⟨o',ho'⟩:=I.base.there T o e (by simp [cM])
    have:=hB T o' ho' (big T o e ab9) (.inl (by rw [e];exact fun z=>nomatch z))
    rw [h6] at this;cases this
 have R5:H T=none:=by
  cases e:H T with
  | none=>rfl
  | some o=>
    have lt:=I.hok.lt e
    have nst:T∉frs (envOfC qual scope s0.heap.objs.size f cd::outer):=fun m=>by
     have:=I.Ak T m
     rw [e] at this;cases this
    have hob:∃u,s.heap.get? T=some u:=(I.hok T o e).isAt
    obtain ⟨u,hu⟩:=hob
    have:=hB T u hu nst (.inr (by rw [e];exact fun z=>nomatch z))
    rw [h6] at this;cases this
 refine ⟨x,T,C,H,Z,I.os,I.bare,⟨fun b o e n nf _=>?_,fun b o e n m _=>?_,fun b o e n _=>?_,fun b o e _=>?_,I.base.tups,I.base.qb,I.base.tV⟩,?_,⟨oe,vs,a0,oT,ts,h1,h2,h3,h4,h5,h7,h8,h9,yz⟩,hx,hT0,F_,R5,q⟩
 . exact st b o (hB b o (I.base.keep b o e n nf (by simp [cM])) (big b o e nf) (.inl (by rw [e];exact fun z=>nomatch z)))
 . obtain ⟨sl,hs⟩:=I.base.slot b o e n m (by simp [cM])
   have fr0:=I.ok.oN
   obtain ⟨_,o',ho',hd'⟩:=fr0.mem m
   obtain ⟨X7,hs'⟩:=hup b _ hs (fun vs z=>by
    have ho2:s0.heap.get? b=some o':=ho'
    rw [e] at ho2;cases ho2
    exact hd' vs z)
   exact ⟨X7,hs'⟩
 . exact I.base.free b o e n (by simp [cM])
 . obtain ⟨o',ho'⟩:=I.base.there b o e (by simp [cM])
   by_cases m:b∈frs outer
   . have fr0:=I.ok.oN
     obtain ⟨_,o2,ho2,hd2⟩:=fr.mem m
     exact ⟨o2,ho2⟩
   . exact ⟨o',st b o' (hB b o' ho' (big b o e m) (.inl (by rw [e];exact fun z=>nomatch z)))⟩
 . exact I.hok.Zy fun b o u e hu=>st b u (hB b u hu (fun m=>by have:=I.Ak b m;rw [e] at this;cases this) (.inr (by rw [e];exact fun z=>nomatch z)))
theorem Uw {x T:Addr} (I:Inv (cM (f7 P w) P w K mg base N qual scope f cd A outer s0 H0 E) pins σ H s) (t:Trc s.heap x T C) (hx:s0.heap.get? x=none) (hT:s0.heap.get? T=none) (F_:H x=none) (R5:H T=none)
  (q:E (.ref x) (some C) H):(cM (f7 P w) P w K mg base N qual scope f cd A outer s0 H0 E).xe (.ref x) s:=by
 obtain ⟨oe,vs,a0,oT,ts,h1,h2,h3,h4,h5,h6,h7,h8,h9⟩:=t
 have hst:=I.stack
 have Ux:s.heap.FunFrames base (envOfC qual scope s0.heap.objs.size f cd::outer):=hst
 have hin:∀env∈(envOfC qual scope s0.heap.objs.size f cd::outer),∀b,env.frame=some b->b∈x::T::frs (envOfC qual scope s0.heap.objs.size f cd::outer):=fun env he b hb=>cD _ (cD _ (OW.mpr ⟨env,he,hb⟩))
 refine wpAny_leaves_onW (base:=PySem.W.hideAll s.heap (x::T::frs (envOfC qual scope s0.heap.objs.size f cd::outer))) (L:=s0.heap.objs.size) (cls:= .ref C) (a0:=a0) (outer:=outer) I.ok.frames rfl ⟨fun b o e=>PySem.W.of_hideAll _ e,PySem.W.hideAll_none _ cS,PySem.W.funFrames_hide Ux hin,oe,vs,T,oT,ts,h1,⟨h2,h3⟩,h4,h5,PySem.W.hideAll_none _ (cD _ cS),h6,h7,h8,h9⟩ fun h' fl up=>?_
 refine N5 I (fun b o e n hb=>PySem.W.hideAll_get _ e fun m=>?_) fl up hx F_ q
 rcases dz.mp m with z|m
 . rw [z] at hb
   rcases hb with hb|hb
   . exact hb hx
   . exact hb F_
 . rcases dz.mp m with z|m
   . rw [z] at hb
     rcases hb with hb|hb
     . exact hb hT
     . exact hb R5
   . exact n m
theorem VY:Passes (f7 P w) (cM (f7 P w) P w K mg base N qual scope f cd A outer s0 H0 E) E:=fun pins σ H s e s' I h=>by
 obtain ⟨x,T,C,H',rfl,os,bare,un,hok,t,hx,hT,F_,R5,q⟩:=h
 have I':Inv (cM (f7 P w) P w K mg base N qual scope f cd A outer s0 H0 E) pins σ H' s':=I.Ii (ch:=[]) os un hok bare (fun b z=>absurd z (by simp))
 have old:∀b,s.heap.get? b=none->s0.heap.get? b=none:=fun b e=>by
  cases q:s0.heap.get? b with
  | none=>rfl
  | some o=>
    obtain ⟨o',ho'⟩:=I.base.there b o q (by simp [cM])
    rw [e] at ho';cases ho'
 exact Uw I' t (old x hx) (old T hT) F_ R5 q
theorem PM {x:Addr} {args:List Value} (I:Inv (cM (f7 P w) P w K mg base N qual scope f cd A outer s0 H0 E) pins σ H s) (hm:Heap.MadeExcOf s.heap h1 x (.ref C) args)
  (q:E (.ref x) (some C) H):(cM (f7 P w) P w K mg base N qual scope f cd A outer s0 H0 E).xe (.ref x) { s with heap:=h1 }:=by
 have Ux:s.heap.FunFrames base (envOfC qual scope s0.heap.objs.size f cd::outer):=I.stack
 have hin:∀env∈(envOfC qual scope s0.heap.objs.size f cd::outer),∀b,env.frame=some b->b∈frs (envOfC qual scope s0.heap.objs.size f cd::outer):=fun env he b hb=>OW.mpr ⟨env,he,hb⟩
 have I1:Inv (cM (f7 P w) P w K mg base N qual scope f cd A outer s0 H0 E) pins σ H { s with heap:=h1 }:=I.kept (t':=s.toks) hm.keeps
 have F_:H x=none:=by
  cases e:H x with
  | none=>rfl
  | some o=>
    obtain ⟨u,hu⟩:=(I.hok x o e).isAt
    rw [hm.new] at hu;cases hu
 have hx0:s0.heap.get? x=none:=by
  cases e:s0.heap.get? x with
  | none=>rfl
  | some o=>
    obtain ⟨o',ho'⟩:=I.base.there x o e (by simp [cM])
    rw [hm.new] at ho';cases ho'
 refine wpAny_leaves_madeW (base:=PySem.W.hideAll s.heap (frs (envOfC qual scope s0.heap.objs.size f cd::outer))) (h:=s.heap) (L:=s0.heap.objs.size) (outer:=outer) I.ok.frames rfl (fun b o e=>PySem.W.of_hideAll _ e) (PySem.W.funFrames_hide Ux hin) hm fun h' t fl _ _ up=>?_
 refine N5 I1 (fun b o e n hb=>PySem.W.hideAll_get _ ?_ n) fl up hx0 F_ q
 rcases hb with hb|hb
 . cases e0:s0.heap.get? b with
   | none=>exact absurd e0 hb
   | some o0=>
     obtain ⟨o',ho'⟩:=I.base.there b o0 e0 (by simp [cM])
     have e':h1.get? b=some o:=e
     have:=hm.keeps b o' ho'
     rw [e'] at this;cases this
     exact ho'
 . cases e0:H b with
   | none=>exact absurd e0 hb
   | some o0=>
     obtain ⟨o',ho'⟩:=(I.hok b o0 e0).isAt
     have e':h1.get? b=some o:=e
     have:=hm.keeps b o' ho'
     rw [e'] at this;cases this
     exact ho'
end
def Zz:List Value:=[.type "ValueError", .type "Exception", .type "BaseException", .type "object"]
structure gR (K:Fg) (C:Addr):Prop where
 ex:∃(nm q:Str) (N:Addr) (bs bm:List Value) (hdct:Bool) (sn:List Str) (sub:List Value) (ab:Bool) (col:Option Bool) (dd:Option Addr) (k0 k1 k2 k3 k5:Option Value) (mN:SO),mN "__init__"=none/\bm.contains (.type "BaseException")=true/\∀h:Heap,K.In h->
  h.get? C=some (excClassObj nm q C N bs bm hdct sn sub ab col dd k0 k1 k2 k3 k5 "ValueError.__new__")/\h.Ns N mN/\OwnTail h Zz bm
section
variable {P:Program} {w:World} {K:Fg} {mg:SO} {base:Heap} {N:List Str} {qual:Str} {scope:Scope} {f:Addr} {cd:Value} {A:Around} {outer:List Env} {s0:Shared} {H0:Hp} {E:XK}
def ZA (C:Addr) (E:XK):TS:=fun _ _ H=>∀x,E (.ref x) (some C) H
structure Dx (P:Program) (w:World) (K:Fg) (mg:SO) (base:Heap) (k:Nat) (x:Str) (ps:List Str) (sp:Sp):Prop where
 ex:∃f fd,jf P w K mg base (f7 P w) k f fd ps sp/\Binds K fd ps []/\PySem.W.keepIn K (.ref f)=true/\mg x=some (.ref f)
theorem At.ZC {st:Stmt} {f:Addr} {N:List Str} {k:Nat} (F:At K mg x st f fd) (S:aR N ps (aE st)) (len:∀vs H Q E,sp vs H Q E->vs.length=ps.length)
  (hbody:∀(cdv:Value) (A:Around) (outer:List Env) (s:Shared) (H:Hp) (vs:List V) (Q:VK) (E:XK),dJ k (A.deeper (envOfC x (aE st) s.heap.objs.size f cdv))->sp vs H Q E->
    ∃t,p7 (cM (f7 P w) P w K mg base N x (aE st) f cdv A outer s H E) (cJ st) t/\t { nx:=fun _ H'=>Q .b9 H',rt:=Q } (start N vs) H)
  (h:∀(kV doc pm:Value) (an:Option Addr) (cdv ct:Value) (us:List Value),us.length=ps.length->bindArgs (PySem.W.fnOf x x (d8 st) (cJ st) (aE st) .none kV doc pm an cdv ct) ⟨us,[]⟩=pure (ps.zip us)):
  Dx P w K mg base (k+1) x ps sp:=by
 refine ⟨f,fd,?_,F.fn.binds h,F.fn.kp,F.name⟩
 obtain ⟨oc,od,kV,doc,pm,an,cdv,ct,osl,rfl,lk,hcd⟩:=F.fn.ex
 exact Pj lk hcd S len fun A outer s H vs Q E hr oR=>hbody cdv A outer s H vs Q E hr oR
end
section
variable {X:Cx} {pins:AO} {σ:St} {Hc H:Hp} {sc s:Shared} {x C:Addr} {fl:Value}
end
section
variable {X:Cx} {pins:AO} {σ:St} {Hc H:Hp} {sc s:Shared} {x C:Addr} {fl:Value}
end
section
variable {X:Cx} {pins:AO} {σ:St} {Hc H:Hp} {sc s:Shared} {x C:Addr} {fl:Value}
end
open PySem.W PySem.Calls Builtin.ObjectAttr Builtin.Getset_descriptor
section
variable {prog:Program} {w:World} {A:Around} {E:VS} {h:Heap} {g:Array GenState} {d:Drawn} {t:Nat} {os:OsState} {x C:Addr} {o:Obj} {K:Frag} {R:Result->Shared->Prop}
end
theorem JT {K:Frag} {bmB:List Value} {x:Value} (hb:bmB.contains x=true):∀{l:List Value},tailIn K bmB l=true->l.contains x=true
 | [],e=>by rw [m7.mp (show (bmB==[])=true from e)] at hb;exact hb
 | v::r,e=>by
   unfold tailIn at e
   rcases DV.mp e with q|q
   . rw [m7.mp q];exact hb
   . split at q
     . split at q
       . simp only [IK] at q
         rw [List.contains_cons,JT hb q.2,Bool.or_true]
       . cases q
     . cases q
def wR (K:Frag) (N:Addr) (x:Str):Option Value:=match K.lookup N with
 | some o=>(match o.data with | .dict es _=>nsFind es x|_=>none)
 | none=>none
theorem PN {K:Frag} {N:Addr} (X:K.In h) (e:nsOkIn K N=true):h.nsMap N=wR K N:=by
 unfold nsOkIn at e
 split at e
 . rename_i ho
   funext x
   unfold wR Heap.nsMap
   rw [X _ _ ho,ho]
 . cases e
theorem JU {K:Frag} {N:Addr} (q:nsIn K N x=some none):wR K N x=none:=by
 unfold nsIn at q
 unfold wR
 split at q
 . rename_i c d es n sl ho
   rw [ho]
   show nsFind es x=none
   split at q
   . cases q
   . rename_i he
     unfold nsFind findBy
     rw [<-Array.find?_toList,he]
     rfl
 . cases q
theorem gR.of {K:Frag} (q:excIn K C Zz "ValueError.__new__"=true):gR K C:=by
 unfold excIn at q
 split at q
 . rename_i dd cd sl ho
   split at q
   . rename_i C' bm k0 k1 k2 k3 n k5 hm hs
     simp only [IK,m7,Bool.not_eq_true'] at q
     obtain ⟨⟨⟨⟨⟨rfl,rfl⟩,ZD⟩,ht⟩,hok⟩,hni⟩:=q
     obtain ⟨nm,bs,mro,ns,qn,hd,sn,sub,ab,col,del⟩:=cd
     dsimp only at hm ZD hok hni
     subst hm ZD
     have hsl:sl=#[k0,k1,k2,k3,some (.builtin "ValueError.__new__"),k5] :=by
      obtain ⟨l⟩:=sl
      simp only at hs
      rw [hs]
     subst hsl
     refine ⟨nm,qn,ns,bs,bm,hd,sn,sub,ab,col,dd,k0,k1,k2,k3,k5,wR K ns,JU hni,JT (by decide +kernel) ht,fun h X=>⟨X _ _ ho,?_,tail_of_in X ht⟩⟩
     have:=Heap.Ns.of_isNs (isNs_of_in X hok)
     rw [PN X hok] at this
     exact this
   . cases q
 . cases q
section
variable {X:Cx}
end
structure Ec where
 (bad twice PO JV ab_ zJ Br rows afz acd aij:Addr)
section
end
structure Mx (P:Program) (w:World) (K:Fg) (mg:SO) (base:Heap) (k:Nat) (C:Addr) (m:Str) (ps:List Str) (sp:Sp):Prop where
 ex:∃f fd,jf P w K mg base (f7 P w) k f fd ps sp/\Binds K fd ps []/\Meth K C m f/\oQ K C
theorem gI.ZC {w:World} {m:Str} {st:Stmt} {k:Nat} (F:gI K C m qual st f fd) (S:aR N ps (aE st)) (len:∀vs H Q E,sp vs H Q E->vs.length=ps.length)
  (hbody:∀(cdv:Value) (A:Around) (outer:List Env) (s:Shared) (H:Hp) (vs:List V) (Q:VK) (E:XK),dJ k (A.deeper (envOfC qual (aE st) s.heap.objs.size f cdv))->sp vs H Q E->
    ∃t,p7 (cM (f7 P w) P w K mg base N qual (aE st) f cdv A outer s H E) (cJ st) t/\t { nx:=fun _ H'=>Q .b9 H',rt:=Q } (start N vs) H)
  (h:∀(kV doc pm:Value) (an:Option Addr) (cdv ct:Value) (us:List Value),us.length=ps.length->bindArgs (PySem.W.fnOf m qual (d8 st) (cJ st) (aE st) .none kV doc pm an cdv ct) ⟨us,[]⟩=pure (ps.zip us)):
  Mx P w K mg base (k+1) C m ps sp:=by
 refine ⟨f,fd,?_,F.fn.binds h,F.me,F.cl⟩
 obtain ⟨oc,od,kV,doc,pm,an,cdv,ct,osl,rfl,lk,hcd⟩:=F.fn.ex
 exact Pj lk hcd S len fun A outer s H vs Q E hr oR=>hbody cdv A outer s H vs Q E hr oR
theorem jf.noX {w:World} {k:Nat} {Ga:Sp} (F:jf P w K mg base (f7 P w) k f fd ps sp) (h:∀vs H Q E,Ga vs H Q E->sp vs H Q E0):jf P w K mg base sV k f fd ps Ga:=
 ⟨fun vs H Q E q=>F.len _ _ _ _ (h _ _ _ _ q),fun A outer s H args us vs Q E hr he hb hv hs=>B4 (F.run A outer s H args us vs Q E0 hr he hb hv (h _ _ _ _ hs)) fun r s' q=>by
   cases r with
   | error e=>
     obtain ⟨x,T,C,H',_,_,_,_,_,_,_,_,_,_,z⟩:=(show f7 P w outer H s E0 e s' from q)
     exact z.elim
   | ok fl=>cases fl <;> exact q⟩
theorem Mx.mn {w:World} {k:Nat} {m:Str} {Ga:Sp} (D:Mx P w K mg base k C m ps sp) (h:∀vs H Q E,Ga vs H Q E->sp vs H Q E0):Mn P w K mg base k C m ps Ga:=by
 obtain ⟨f,fd,F,b,me,c⟩:=D.ex
 exact ⟨f,fd,F.noX h,b,me,c⟩
theorem Dx.dn {w:World} {k:Nat} {Ga:Sp} (D:Dx P w K mg base k x ps sp) (h:∀vs H Q E,Ga vs H Q E->sp vs H Q E0):Dn P w K mg base k x ps Ga:=by
 obtain ⟨f,fd,F,b,kp,m⟩:=D.ex
 exact ⟨f,fd,F.noX h,b,kp,m⟩
section
variable {P:Program} {w:World} {K:Fg} {mg:SO} {base:Heap} {N:List Str} {qual:Str} {scope:Scope} {f:Addr} {cd:Value} {A:Around} {outer:List Env} {s0:Shared} {H0:Hp} {E:XK}
end
section
variable {X:Cx}
end
def Ec.at (e:Ec):Nat->Addr
 | 0=>e.bad|1=>e.twice|2=>e.PO|3=>e.JV|4=>e.ab_|5=>e.zJ|6=>e.Br|7=>e.rows|8=>e.afz|_=>e.acd
def Rf (e:Ec) (E:XK) (H:Hp) (i:Nat):Prop:=∀x H',aO H H'->E (.ref x) (some (e.at i)) H'
structure Gb (T:TC) (e:Ec) (n:Nat) (ρ:cR) (A:HA) (H:Hp) (r:Option Nat) (st':HS) (Q:VK) (E:XK):Prop where
 no:∀i,r=some i->Rf e E H i
 ok:r=none->vd T n ρ A H st' fun H'=>Q .b9 H'
def newR (st:HS) (x:Str):Option Nat:=if isNm x=true then (if x∈st.nms then some 1 else none) else some 0
def x9 (st:HS) (o:Str):Option Nat:=if isNm o=true then (if o∈st.own then some 1 else none) else some 0
def CV (st:HS) (x o:Str) (wo we:Int):Option Nat:=match newR st x with
 | some i=>some i
 | none=>if o∈st.own then (if wo<1\/we<0 then some 5 else none) else some 2
inductive Xm (T:TC) (e:Ec) (vs:List V) (H:Hp) (Q:VK) (E:XK):Prop
 | mk (n ρ A st o:_) (_:vs=[.ref A.a, .str o]) (_:aL T n ρ A H st) (_:(o∉st.own->Rf e E H 2)) (_:(o∈st.own->Q (.int (st.own.idxOf o:Int)) H))
def x_ (T:TC) (e:Ec):Sp:=bx (Xm T e)
inductive Uy (T:TC) (e:Ec) (vs:List V) (H:Hp) (Q:VK) (E:XK):Prop
 | mk (n ρ A st x:_) (_:vs=[.ref A.a, .str x]) (_:aL T n ρ A H st) (_:(st.aj.map (·.nm)).Nodup) (_:((∀p∈st.aj,p.nm≠x)->Rf e E H 3)) (_:∀(i:Nat) (p:Pt) (q:Addr×Addr×Addr),p.nm=x->st.aj[i]?=some p->A.qs[i]?=some q->Q (.ref q.1) H)
def lG (T:TC) (e:Ec):Sp:=bx (Uy T e)
inductive PR (T:TC) (e:Ec) (vs:List V) (H:Hp) (Q:VK) (E:XK):Prop
 | mk (n ρ A st x:_) (_:vs=[.ref A.a, .str x]) (_:aL T n ρ A H st) (_:x.cps.toList.length<=100000) (_:(∀i,newR st x=some i->Rf e E H i)) (_:(newR st x=none->∀H',aO H H'->Q .b9 H'))
def vQ (T:TC) (e:Ec):Sp:=bx (PR T e)
theorem zK {st:HS} (h1:isNm x=true) (h2:x∉st.nms):newR st x=none:=by unfold newR;rw [aD h1,aB h2]
theorem PU {st:HS} {o:Str} (h1:isNm x=true) (h2:x∉st.nms) (h3:o∈st.own) (h4:1<=wo) (h5:0<=we):CV st x o wo we=none:=by
 unfold CV;rw [zK h1 h2];show (if o∈st.own then _ else _)=_;rw [aD h3,aB (by omega)]
variable {st':HS}
theorem Gb.of {e:Ec} {n:Nat} {r:Option Nat} {Q:VK} (h:r=none) (q:vd T n ρ A H st' fun H'=>Q .b9 H'):Gb T e n ρ A H r st' Q E0:=⟨(fun i z=>by rw [h] at z;cases z),fun _=>q⟩
inductive Dd where
 | sign (o:Str)|load (x o:Str) (wo we:Int)|cast (rs:List Row)|award (o:Str) (a:Int)|mishap (x:Str) (a:Int)|rise (x:Str) (a:Int)|hand (x o:Str)|land (x:Str)|sever (x y:Str) (a we:Int)|still
def jw:List Row->List V
 | []=>[]
 | r::rs=> .str r.1 :: .int r.2::jw rs
def Dd.v:Dd->List V
 | .sign o=>[.str "sign", .str o]
 | .load x o wo we=>[.str "load", .str x, .str o, .int wo, .int we]
 | .cast rs=> .str "cast"::jw rs
 | .award o a=>[.str "award", .str o, .int a]
 | .mishap x a=>[.str "mishap", .str x, .int a]
 | .rise x a=>[.str "rise", .str x, .int a]
 | .hand x o=>[.str "hand", .str x, .str o]
 | .land x=>[.str "land", .str x]
 | .sever x y a we=>[.str "sever", .str x, .str y, .int a, .int we]
 | .still=>[.str "still"]
def eU (st:HS):List Str:=st.aj.map fun p=>p.nm
def jQ (st:HS) (r:Row):Option Nat:=if r.1∈eU st then (if r.2<1 then some 5 else if (bO st r.1).wo<r.2 then some 6 else none) else some 3
def lV (st:HS) (rs:List Row):Option Nat:=if rs≠[]/\(rs.map fun r:Row=>r.1).Nodup then (match rs.findSome? (jQ st) with
 | some i=>some i
 | none=>if aC st<=aI rs then some 6 else none) else some 7
def lH (st:HS) (o:Str) (a:Int):Option Nat:=if o∈st.own then (if a<1 then some 5 else if aC st<=a then some 6 else none) else some 2
def m_ (st:HS) (x:Str) (a:Int):Option Nat:=if x∈eU st then (if a<1 then some 5 else none) else some 3
def lW (st:HS) (x o:Str):Option Nat:=if x∈eU st then (if o∈st.own then none else some 2) else some 3
def vj (st:HS) (x:Str):Option Nat:=if x∈eU st then none else some 3
def jx (st:HS) (x y:Str) (a we:Int):Option Nat:=if x∈eU st then (match newR st y with
 | some i=>some i
 | none=>if a<1\/we<0 then some 5 else if (bO st x).wo<=a\/(bO st x).we<we then some 6 else none) else some 3
def qu (st:HS):Dd->Option Nat
 | .sign o=>x9 st o
 | .load x o wo we=>CV st x o wo we
 | .cast rs=>lV st rs
 | .award o a=>lH st o a
 | .mishap x a=>jQ st (x,a)
 | .rise x a=>m_ st x a
 | .hand x o=>lW st x o
 | .land x=>vj st x
 | .sever x y a we=>jx st x y a we
 | .still=>none
def JW (st:HS) (o:Str) (a:Int):HS:=aZ st (aC st-a) (aC st) ((List.replicate st.own.length 0).set (st.own.idxOf o) (a*st.prod))
def pC (st:HS) (x:Str) (f:Pt->Pt):HS:={ st with aj:=st.aj.map fun p=>if p.nm=x then f p else p }
def Iq (st:HS) (x:Str) (a:Int):HS:=pC st x fun p=>{ p with wo:=p.wo+a }
def lX (st:HS) (p:Pt) (o:Str):List Int:=((aS st p).set (st.own.idxOf o) ((aS st p).getD (st.own.idxOf o) 0+(aS st p).getD (st.own.idxOf p.ow) 0)).set (st.own.idxOf p.ow) 0
def fT (st:HS) (x o:Str):HS:=if st.own.idxOf o=st.own.idxOf (bO st x).ow then st else pC st x fun p=>{ p with ow:=o,sc:=1,row:=lE st (lX st p o) }
def gX (st:HS) (p:Pt):List Int:=List.zipWith (fun u t=>u+p.wo*t) st.bL (aS st p)
def vm (st:HS) (x:Str):HS:=
 { st with aj:=st.aj.filter (fun p=>decide (p.nm≠x))
           d_:=st.d_++[⟨x,(bO st x).ow,(bO st x).wo,o8 st (bO st x)⟩]
           kn:=st.kn+100
           bL:=(gX st (bO st x)).set (st.own.idxOf (bO st x).ow) ((gX st (bO st x)).getD (st.own.idxOf (bO st x).ow) 0-(bO st x).wo*st.prod) }
def pD (st:HS) (x y:Str) (a we:Int):HS:=CJ (pC st x fun p=>{ p with wo:=p.wo-a,we:=p.we-we }) ⟨y,(bO st x).ow,a,we,(bO st x).sc,(bO st x).row⟩
def jy (st:HS):Dd->HS
 | .sign o=>gO st o
 | .load x o wo we=>Io st x o wo we
 | .cast rs=>bV st rs
 | .award o a=>JW st o a
 | .mishap x a=>c7 st (x,a)
 | .rise x a=>Iq st x a
 | .hand x o=>fT st x o
 | .land x=>vm st x
 | .sever x y a we=>pD st x y a we
 | .still=>st
def wl (s:Str):Nat:=s.cps.toList.length
section
variable {X:Cx}
end
section
variable {P:Program} {w:World} {K:Fg} {mg:SO} {base:Heap} {k:Nat} {T:TC} {e:Ec} {ps:List Str}
theorem Uz (D:Mx P w K mg base k T.hold "place_of" ps (x_ T e)):Mn P w K mg base k T.hold "place_of" ps (Au T):=
 D.mn fun vs H Q E h=>by
   obtain ⟨⟨n,ρ,A,st,o,rfl,hx,ho,q⟩⟩:=h
   exact ⟨n,ρ,A,st,o,Z,hx,fun z=>absurd ho z,fun _=>q⟩
theorem R6 (D:Mx P w K mg base k T.hold "part_of" ps (lG T e)):Mn P w K mg base k T.hold "part_of" ps (Bl T):=
 D.mn fun vs H Q E h=>by
   obtain ⟨⟨n,ρ,A,st,i,p,qq,rfl,hx,nd,ep,eq,q⟩⟩:=h
   refine ⟨n,ρ,A,st,p.nm,Z,hx,nd,fun z=>absurd rfl (z p (cg ep)),fun j p' q' e1 e2 e3=>?_⟩
   have:j=i:=CG nd e2 ep e1
   subst this
   rw [eq] at e3;cases e3
   exact q
end
def nB (i:Int):Prop:=-1000000000<=i/\i<=1000000000
def N6:Dd->Prop
 | .sign o=>wl o<=20
 | .load x o wo we=>wl x<=20/\wl o<=20/\nB wo/\nB we
 | .cast rs=>rs.length<=60/\∀r∈rs,wl r.1<=20/\nB r.2
 | .award o a=>wl o<=20/\nB a
 | .mishap x a=>wl x<=20/\nB a
 | .rise x a=>wl x<=20/\nB a
 | .hand x o=>wl x<=20/\wl o<=20
 | .land x=>wl x<=20
 | .sever x y a we=>wl x<=20/\wl y<=20/\nB a/\nB we
 | .still=>True
def Dd.k:Dd->Nat
 | .sign _=>0 | .load .. =>1 | .cast _=>2 | .award .. =>3 | .mishap .. =>4 | .rise .. =>5 | .hand .. =>6 | .land _=>7 | .sever .. =>8 | .still=>9
def PV (n:Nat):Str:=(["sign","load","cast","award","mishap","rise","hand","land","sever","still"] :List Str).getD n "still"
def Dd.w (d:Dd):Str:=PV d.k
theorem Dd.v0 (d:Dd):d.v[0]?=some (.str d.w):=by cases d <;> rfl
theorem Dd.k_lt (d:Dd):d.k<10:=by cases d <;> simp [Dd.k]
theorem ace:∀m n:Fin 10,m≠n->PV m.val≠PV n.val:=by decide +kernel
variable {d:Dd}
theorem Dd.PX {n:Nat} (h:d.k≠n) (hn:n<10):d.w≠PV n:=ace ⟨d.k,d.k_lt⟩ ⟨n,hn⟩ fun e=>h (j6 Fin.val e)
theorem R7:∀{l:List Int},(∀x∈l,0<=x)->0<=l.sum
 | [],_=>kP _
 | a::l,h=>by
   rw [b8]
   have:=h a cS
   have:=R7 (l:=l) fun x hx=>h x (cD _ hx)
   omega
theorem zL:∀(l m:List Row),jw (l++m)=jw l++jw m
 | [],_=>rfl
 | r::l,m=>by
   show V.str r.1::V.int r.2::jw (l++m)=V.str r.1::V.int r.2::(jw l++jw m)
   rw [zL l m]
theorem zM:∀l:List Row,(jw l).length=2*l.length
 | []=>rfl
 | r::l=>by
   show (jw l).length+1+1=_
   rw [zM l,jZ];omega
theorem qw (h:isNm x=true):wl x<=20:=by
 unfold isNm isName at h
 have:=bg (nJ.mp (nJ.mp h).1).2
 unfold wl
 omega
theorem vq {st:HS} {o:Str} (h:CV st x o wo we=none):isNm x=true/\x∉st.nms/\o∈st.own/\1<=wo/\0<=we:=by
 unfold CV at h
 cases hn:newR st x with
 | some j=>rw [hn] at h;cases h
 | none=>
   rw [hn] at h
   have h':(if o∈st.own then (if wo<1\/we<0 then some 5 else none) else some 2)=none:=h
   have hx:isNm x=true/\x∉st.nms:=by
    unfold newR at hn
    by_cases c:isNm x=true
    . rw [aD c] at hn
      by_cases m:x∈st.nms
      . rw [aD m] at hn;cases hn
      . exact ⟨c,m⟩
    . rw [aB c] at hn;cases hn
   by_cases ho:o∈st.own
   . rw [aD ho] at h'
     by_cases hb:wo<1\/we<0
     . rw [aD hb] at h';cases h'
     . exact ⟨hx.1,hx.2,ho,by omega,by omega⟩
   . rw [aB ho] at h';cases h'
end L2
set_option autoImplicit true
namespace L2
open PySem PySem.Spec PyProof.Rows
structure bE (X:Cx) (e:Expr) (t:TE):Prop where h:PE X e t
structure bT (X:Cx) (e:Expr) (t:TT):Prop where h:PT X e t
structure bW (X:Cx) (e:Expr) (t:TT):Prop where h:PW X e t
structure bA (X:Cx) (es:List Expr) (t:TA):Prop where h:PA X es t
structure bS (X:Cx) (s:Stmt) (t:TS):Prop where h:PS X s t
structure c5 (X:Cx) (s:List Stmt) (t:TS):Prop where h:p7 X s t
structure bC (X:Cx) (op:CmpOp) (a b:Expr) (t:TE):Prop where h:PC X op a b t
structure bG (X:Cx) (e:Expr) (t:TG):Prop where h:PG X e t
structure VZ (X:Cx) (e:List Expr) (t:Ca):Prop where h:PGs X e t
structure bI (X:Cx) (tg iter:Expr) (wi:TI):Prop where h:PI X tg iter wi
structure V0 (X:Cx) (pos:Pos) (ks:List (Option Expr)) (vs:List Expr) (t:List (TE×TE)):Prop where h:PPs X pos ks vs t
theorem bW.pt {X:Cx} {e:Expr} {t:TT} (h:bW X e t):bT X e t:=⟨h.h.pt⟩
theorem ZE {op} {t:TE} (h:bE X a t):bE X (.BoolOp op [a] pos) t:=by
 have h:=h.h;exact ⟨fun pins s σ H Q I hw=>BoolOp_one (h pins s σ H Q I hw)⟩
theorem wU {e:Expr} {t:TE} (h:bE X e t) (he:∀whole,isTrue e X.env whole=(do let v <-whole;standAt e.pos;holding [v] (truthy v)):=by intro _;rfl):bT X e (tB t):=by
 have h:=h.h;constructor
 intro pins s σ H Q I hw
 refine isTrue_plain (bh (h pins s σ H _ I hw) fun v s1 ⟨x,H1,I1,r1,q1⟩=>?_) (he _)
 obtain ⟨d,rfl,q⟩:=q1
 cases r1
 exact D0 ⟨H1,I1,q⟩
theorem aP {r:R2} (hr:yu X r) (ha:bE X a ta) (hb:bE X b tb) (hs:WL b:=by exact fun _ _=>rfl):bE X (.Subscript a b pos) (Nz r ta tb):=by
 have ha:=ha.h;have hb:=hb.h;constructor
 intro pins s σ H Q I h
 exact Subscript_ (Tz ha hb I h fun v u s2 x y H2 I2 rx ry q=>hr a b pins s2 σ H2 x y v u Q I2 rx ry q (hs _ _))
theorem ir:VZ X [] Yg:=by
 constructor
 intro pins s σ H vs us Q I r h
 obtain ⟨e,h⟩:=h
 subst e
 cases r
 exact assignInOrder_nil ⟨σ,H,I,h⟩
theorem aY {i:Nat} {x:Str} (hN:X.N.Nodup) (hi:X.N[i]?=some x:=by rfl) (hx:Loc X.env.scope x:=by first|exact Or.inl rfl|exact Or.inr rfl) (hf:X.fn x=true\/X.env.scope.names.lookup x=some .local:=by first|exact .inl rfl|exact .inr rfl|assumption):bG X (.Name x pos) (m9 i):=by
 constructor
 intro pins s σ H v u Q I r h
 exact wpAny_assign_Name (xM I hN hi hx r (fun s' I'=>⟨_,H,I',h⟩) hf)
theorem JX {c:Expr} {body:List Stmt} {tc:TT} {tb:TS} (hp:PassesOwn (model X.prog X.w) X.A X.env X.xe) (hc:bT X c tc) (hb:c5 X body tb):bS X (.While c body [] pos) (Yn tc tb):=by
 have hc:=hc.h;have hb:=hb.h;constructor
 intro pins s σ H D I h
 obtain ⟨W,⟨m0,w0⟩,turn⟩:=h
 refine wpAny_While (codeAny_whileLoop (fun n s'=>∃σ' H',Inv X pins σ' H' s'/\W n σ' H') ?_ m0 ⟨σ,H,I,w0⟩)
 rintro n s1 ⟨σ1,H1,I1,w1⟩
 refine xB hp (bh (hc pins s1 σ1 H1 _ I1 (turn n σ1 H1 w1)) fun b s2 ⟨H2,I2,q2⟩=>?_)
 cases b with
 | true=>
   obtain ⟨N,hN,q2⟩:=q2
   rw [aD rfl]
   refine xB hp (bh (hb pins s2 σ1 H2 _ I2 q2) fun f s3 q3=>?_)
   cases f with
   | next=>
     obtain ⟨σ3,H3,I3,n3⟩:=q3
     obtain ⟨m',hm,w3⟩:=hN σ3 H3 n3
     exact ⟨m',hm,σ3,H3,I3,w3⟩
   | cont=>
     obtain ⟨σ3,H3,I3,n3⟩:=q3
     obtain ⟨m',hm,w3⟩:=hN σ3 H3 n3
     exact ⟨m',hm,σ3,H3,I3,w3⟩
   | brk=>exact q3
   | ret v=>exact q3
 | false=>
   rw [aB fH]
   exact Ih ⟨σ1,H2,I2,q2⟩
theorem Aw {tg:Expr} {ob:Expr} {td:TE} {apos cpos:Pos} (hob:bE X ob td) (hbase:attributeBase ob "values" X.env (eval ob X.env)=eval ob X.env:=by rfl) (hline:(apos.endLine==cpos.line)=true:=by rfl):bI X tg (.Call (.Attribute ob "values" apos) [] [] cpos) (abX td):=by
 have hob:=hob.h;constructor
 intro pins s σ H R I h
 refine wpAny_Call_method0_late hbase hline (bh (hob pins s σ H _ I h) fun v s1 ⟨x,H1,I1,r1,q1⟩=>?_)
 obtain ⟨d,o,kvs,rfl,e,fin⟩:=q1
 cases r1
 obtain ⟨ho,hz,hsys,vs,ep,rel,da⟩:=I1.qX e
 obtain ⟨t1,t2,_⟩:=Jh I1 (.inl ⟨kvs, .inr ⟨o,e⟩⟩)
 have dd:=da.dictOf
 refine ⟨"dict",_,F.plainAttrs_dict,O0,F.type_dict_values,t1,t2,OQ rfl (PySem.evalArgs_none ?_)⟩
 refine call_meetsIn O0 dd.typeIs F.entry_dict_values (F.args_dict_values_1 _) (meets_dict_values (cY X.prog X.w) d hsys) ⟨⟨vs,dd⟩,?_⟩
 refine wpAny_pyIter_values (s:={ s1 with heap:=s1.heap.push { cls:= .type "dict_values",data:= .fields #[.ref d] } }) ⟨_,eL _ rfl,Z,Z⟩ (da.push _) ?_
 have Iv:Inv X pins σ H1 { s1 with heap:=s1.heap.push { cls:= .type "dict_values",data:= .fields #[.ref d] } }:=I1.kept (t':=s1.toks) fun b o e=>b7 _ e
 generalize ({ s1 with heap:=s1.heap.push { cls:= .type "dict_values",data:= .fields #[.ref d] } }:Shared)=sv at *
 have I2:Inv X pins σ H1 { sv with heap:=sv.heap.push { cls:= .type "dict_valueiterator",data:= .fields #[.ref d, .int 0 0, .int vs.length 0, .int ep 0] } }:=Iv.kept (t':=sv.toks) fun b o e=>b7 _ e
 have hl:kvs.length=vs.length:=rel.length
 obtain ⟨o',es,h1,_,h2,_⟩:=id da
 rw [ho] at h1;cases h1
 refine ⟨sv.heap.objs.size,[sv.heap.objs.size],_,_,H1,Z,I2,RD h2,?_,fun b hb=>?_,fin⟩
 . rw [hl];exact ⟨_,eL _ rfl,Z,Z⟩
 . have eb:b=sv.heap.objs.size:=by simpa using hb
   subst eb
   exact Iv.Bd (aN _) (Iv.hok.fresh (aN _))
theorem N7 {o i e:Expr} {to ti te:TE} {yQ:V->V->Hp->VK->Prop} {yr:IU} {oO:rW} {op:Operator} {tpos:Pos} (ho:bE X o to) (hi:bE X i ti) (hg:Yk X yQ) (he:bE X e te) (hp:Ye X op yr) (hs:To X oO) (ha:∀ov iv new,augStore i ov iv new=(do holding [new,ov,iv] (setItem ov iv new);release [new,ov,iv] [];pure .next):=by intros;rfl):bS X (.AugAssign (.Subscript o i tpos) op e pos) (abA to ti te yQ yr oO):=by
 have ho:=ho.h;have hi:=hi.h;have he:=he.h;constructor
 intro pins s σ H D I h
 refine wpAny_AugAssign_SubscriptAny (bh (ho pins s σ H _ I h) fun ov s1 ⟨x1,H1,I1,r1,q1⟩=>?_) ha
 refine bh (hi pins s1 σ H1 _ I1 q1) fun iv s2 ⟨x2,H2,I2,r2,q2⟩=>?_
 refine bh (hg pins s2 σ H2 x1 x2 ov iv _ I2 r1 r2 q2) fun old s3 ⟨x3,H3,I3,r3,q3⟩=>?_
 refine bh (he pins s3 σ H3 _ I3 q3) fun v s4 ⟨x4,H4,I4,r4,q4⟩=>?_
 refine bh (hp pins s4 σ H4 x3 x4 old v _ I4 r3 r4 q4) fun new s5 ⟨x5,H5,I5,r5,q5⟩=>?_
 exact bh (hs pins s5 σ H5 x1 x2 x5 ov iv new _ I5 r1 r2 r5 q5) fun _ s6 ⟨H6,I6,q6⟩=>⟨σ,H6,I6,q6⟩
theorem j_ {id:String} (pa:PlainAttrs T) (slot:Slot T name id) (hty:typeOf (.builtin id)=pure (.type "method_descriptor")) (hm:MtR X id r) (ho:bE X o to) (ha:bA X (e::es) t) (hbase:attributeBase o name X.env (eval o X.env)=eval o X.env:=by rfl) (hfew:((backTo cpos (starEach (e::es) X.env)).all (fun x=>!x.1) && (backToKw cpos (keywordEach [] X.env)).all (fun x=>x.1.isSome)
   && decide ((e::es).length+([] :List Keyword).length+(if ([] :List Keyword).isEmpty then 0 else 1)<30))=true:=by rfl) (hline:(apos.endLine==cpos.line)=true:=by rfl) (hs:starEach (e::es) X.env=(false,eval e X.env)::starEach es X.env:=by rfl) (hplain:(backTo cpos (starEach es X.env)).any (·.1)=false:=by rfl):bE X (.Call (.Attribute o name apos) (e::es) [] cpos) (tBM X.K T r to t):=by
 have ho:=ho.h;have ha:=ha.h;constructor
 intro pins s σ H Q I h
 refine wpAny_Call_method_late hbase hfew hline rfl (bh (ho pins s σ H _ I h) fun v s1 ⟨x,H1,I1,r1,ty,q1⟩=>?_)
 obtain ⟨h1,h2⟩:=YN I1 r1 ty
 refine ⟨T,id,pa,slot,hty,h1,h2,?_⟩
 have hA:=ha cpos pins s1 σ H1 _ I1 q1
 rw [hs] at hA ⊢
 refine OQ (by show (false || (backTo cpos (starEach es X.env)).any (·.1))=false;rw [hplain] <;> rfl) (Calls.evalArgs_plain ?_)
 exact bh hA fun us s2 ⟨vs,H2,I2,r2,q2⟩=>hm pins s2 σ H2 x vs v us Q I2 r1 r2 q2
theorem Xn {X:Cx} {pos:Pos}:V0 X pos [] [] [] :=by
 exact ⟨fun pins s σ H Q I h=>pairTrees_nil_walk ⟨[],H,I, .nil,h⟩⟩
theorem CW {X:Cx} {e:Expr} {t:TE} (h:bE X e t):bE X e (afs t):=by
 have h:=h.h;constructor
 intro pins s σ H Q I hw
 obtain ⟨d,kvs,e,hw⟩:=hw
 obtain ⟨ho,es,ep,h1,_⟩:=(xN I.hok e).2.2.choose_spec.2
 have h0:=I.RB e
 exact bh (h pins s σ _ _ (I.freeze e h1) (hw ho)) fun u s' ⟨v,H',I',r,q1,q2⟩=>⟨v,_,I'.Bk q1 h0,r,q2⟩
theorem UA {op op':CmpOp} {r r':R2} (ho:jm X (compareOp op) r) (ho':jm X (compareOp op') r') (ha:bE X a ta) (hb:bE X b tb) (hc:bE X c tc) (hm:lastMarks [op,op'] [b,c]=false:=by with_unfolding_all rfl):bE X (.Compare a [op,op'] [b,c] pos) (Yu r r' ta tb tc):=by
 have ha:=ha.h;have hb:=hb.h;have hc:=hc.h;constructor
 intro pins s σ H Q I h
 refine Compare_chain (bh (ha pins s σ H _ I h) fun v s1 ⟨x,H1,I1,r1,q1⟩=>chain_link (bh (hb pins s1 σ H1 _ I1 q1) fun u s2 ⟨y,H2,I2,r2,q2⟩=>
  bh (ho pins s2 σ H2 x y v u _ I2 r1 r2 q2) fun d s3 ⟨z,H3,I3,r3,k,e,q3⟩=>?_)) hm
 subst e
 cases r3
 refine D0 ?_
 cases k with
 | false=>exact ite_ff ⟨.bl false,H3,I3,Z,q3⟩
 | true=>exact ite_tt (chain_last (bh (hc pins s3 σ H3 _ I3 q3) fun w' s4 ⟨z',H4,I4,r4,q4⟩=>ho' pins s4 σ H4 y z' u w' Q I4 r2 r4 q4))
theorem iG {x1} (h:bA X es t):bE X (.Tuple es x1 pos) (afc t):=by
 have h:=h.h;constructor
 intro pins s σ H Q I hq
 refine wpAny_Tuple_spliced (bh (h pos pins s σ H _ I hq) fun us s1 ⟨xs,H1,I1,r,z,q⟩=>⟨by rw [<-r.length];exact z,?_⟩)
 have hf:H1 s1.heap.objs.size=none:=I1.hok.fresh (aN _)
 refine ⟨.ref s1.heap.objs.size,upd H1 s1.heap.objs.size (.tup xs),I1.laid (t':=s1.toks) (fun b u e=>b7 _ e) (aN _) ?_,Z,q _ hf⟩
 exact ⟨z,us,r,⟨_,eL _ rfl,Z,_,Z⟩⟩
theorem JY {tg iter elt cond:Expr} {scope:Scope} {pos:Pos} (N2:List Str) (ix:List (Option Nat)) {wi:TI} {g:TG} {tc:TT} {te:TE} (hc:X.calm=true) (hi:bI X tg iter wi) (hg:∀cl s₂ H₂ fp,bG (cE X N2 scope cl s₂ H₂ fp) tg g) (he:∀cl s₂ H₂ fp,bE (cE X N2 scope cl s₂ H₂ fp) elt te) (ht:∀cl s₂ H₂ fp,bT (cE X N2 scope cl s₂ H₂ fp) cond tc) (hk:scope.kind = .function) (hn:mR X.N X.env.scope.names scope.names N2 ix=true) (hs:∀x,foldedSetIterable iter X.env x=pure x:=by intro _;rfl):bE X (.ListComp elt [⟨tg,iter,[cond],0⟩] scope pos) (Rx wi ix g tc te):=⟨Uj N2 ix hc hi.h (fun cl s₂ H₂ fp=>(hg cl s₂ H₂ fp).h) (fun cl s₂ H₂ fp=>(he cl s₂ H₂ fp).h) (fun cl s₂ H₂ fp=>(ht cl s₂ H₂ fp).h) hk hn hs⟩
theorem aM {op:Operator} {r:R2} (ho:jm X (binaryOp op) r) (ha:bE X a ta) (hb:bE X b tb):bE X (.BinOp a op b pos) (Nz r ta tb):=by
 have ha:=ha.h;have hb:=hb.h;constructor
 intro pins s σ H Q I h
 exact wpAny_BinOp (Tz ha hb I h fun v u s2 x y H2 I2 rx ry q=>ho pins s2 σ H2 x y v u Q I2 rx ry q)
theorem wV {op:CmpOp} {t:TE} (h:bC X op a b t) (h1:behindInMarks op b=false:=by first|exact afA _ (by decide) (by decide)|rfl):bT X (.Compare a [op] [b] pos) (tB t):=by
 have h:=h.h;constructor
 intro pins s σ H Q I hw
 refine wpAny_isTrue_Compare1 (bh (h pins s σ H _ I hw) fun v s1 h1=>bh h1 fun u s2 h2=>bh h2 fun c s3 ⟨x,H1,I1,r1,q1⟩=>?_) h1
 obtain ⟨d,rfl,q⟩:=q1
 cases r1
 exact D0 ⟨H1,I1,q⟩
theorem fK {tg:Expr} {iter:Expr} {body:List Stmt} {wi:TI} {g:TG} {tb:TS} {pos:Pos} (hp:PassesOwn (model X.prog X.w) X.A X.env X.xe) (hc:X.calm=true) (hi:bI X tg iter wi) (hg:bG X tg g) (hb:c5 X body tb) (hs:∀x,foldedSetIterable iter X.env x=pure x:=by intro _;rfl):bS X (.For tg iter body [] pos) (ae8 wi g tb):=by
 have hi:=hi.h;have hg:=hg.h;have hb:=hb.h;constructor
 intro pins s σ H D I h
 refine wpAny_For (bh (hi pins s σ H _ I h) fun v s1 h1=>bh h1 fun itv s2 h2=>?_) hs
 obtain ⟨it,fp,tn,J,H2,e,I2,T,st2,f2,W,⟨m0,w0⟩,turn⟩:=h2
 subst e
 have nM:∀{H':Hp},(∀b∈fp,H' b=none)->∀b∈fp,k7 X pins H' b:=fun hn b hb=>⟨hn b hb,(f2 b hb).2⟩
 refine codeAny_forLoop_any (fun n s'=>∃i σ' H',Inv X pins σ' H' s'/\tn i s'.heap/\(∀b∈fp,H' b=none)/\W i n σ' H') ?_ m0 ⟨0,σ,H2,I2,st2,fun b hb=>(f2 b hb).1,w0⟩
 rintro n s3 ⟨i,σ3,H3,I3,st3,V1,w3⟩
 rcases turn i n σ3 H3 w3 with ⟨stop,qn⟩|⟨go,N,hN,step⟩
 . refine xB hp (bh (T.done X rfl rfl rfl hc i pins s3 σ3 H3 X.xe I3 (nM V1) st3 stop) fun r s4 ⟨hr,I4⟩=>?_)
   subst hr
   exact Ih ⟨σ3,H3,I4,qn⟩
 . refine xB hp (bh (T.item X rfl rfl rfl hc i pins s3 σ3 H3 X.xe I3 (nM V1) st3 go) fun r s4 ⟨u,hr,h4⟩=>?_)
   subst hr
   refine xB hp (bh h4 fun _ s5 ⟨x,H5,I5,r5,y5,yx,AR⟩=>?_)
   have I5':=I5.pinned (nM AR) (T.obj _ _ yx)
   refine xB hp (bh (hg _ s5 σ3 H5 x u _ I5' r5 (step x H5 y5)) fun _ s6 ⟨σ6,H6,I6,q6⟩=>?_)
   refine xB hp (bh (hb _ s6 σ6 H6 _ I6 q6) fun f s7 q7=>?_)
   have again:∀{σ7:St} {H7:Hp},Inv X (pins++Cc fp s5.heap) σ7 H7 s7->N σ7 H7->∃m,m<n/\∃i σ' H',Inv X pins σ' H' s7/\tn i s7.heap/\(∀b∈fp,H' b=none)/\W i m σ' H':=fun {σ7 H7} I7 n7=>by
    obtain ⟨m',hm,w7⟩:=hN σ7 H7 n7
    refine ⟨m',hm,i+1,σ7,H7,I7.nL,T.keep _ _ _ yx fun b hb o e=>(I7.pin (b,o) (iA _ (iA _ (gW hb e)))).1,fun b hb=>?_,w7⟩
    obtain ⟨o,e,d⟩:=T.obj _ _ yx b hb
    exact (I7.pin (b,o) (iA _ (iA _ (gW hb e)))).2.1
   cases f with
   | next=>obtain ⟨σ7,H7,I7,n7⟩:=q7;exact again I7 n7
   | cont=>obtain ⟨σ7,H7,I7,n7⟩:=q7;exact again I7 n7
   | brk=>obtain ⟨σ7,H7,I7,q7⟩:=q7;exact ⟨σ7,H7,I7.nL,q7⟩
   | ret v=>obtain ⟨x7,σ7,H7,I7,r7,q7⟩:=q7;exact ⟨x7,σ7,H7,I7.nL,r7,q7⟩
theorem Xo:bS X (.Return none pos) abv:=by
 exact ⟨fun _ _ σ H _ I h=>wpAny_Return_none ⟨.b9,σ,H,I,Z,h⟩⟩
theorem iU {tg iter elt:Expr} {scope:Scope} {pos:Pos} (N2:List Str) (ix:List (Option Nat)) {wi:TI} {g:TG} {te:TE} (hc:X.calm=true) (hi:bI X tg iter wi) (hg:∀cl s₂ H₂ fp,bG (cE X N2 scope cl s₂ H₂ fp) tg g) (he:∀cl s₂ H₂ fp,bE (cE X N2 scope cl s₂ H₂ fp) elt te) (hk:scope.kind = .function) (hn:mR X.N X.env.scope.names scope.names N2 ix=true) (hs:∀x,foldedSetIterable iter X.env x=pure x:=by intro _;rfl):bE X (.ListComp elt [⟨tg,iter,[],0⟩] scope pos) (VO wi ix g te):=by
 have hi:=hi.h;have hg:=fun cl s₂ H₂ fp=>(hg cl s₂ H₂ fp).h;have he:=fun cl s₂ H₂ fp=>(he cl s₂ H₂ fp).h;constructor
 intro pins s σ H Q I h
 obtain ⟨k1,k2,k3,k4,k5⟩:=j7 hn
 obtain ⟨cl,Jr,c1,c2⟩:=tF (scope:=scope) (env:=X.env) fun y hy e=>I.ok.has y.1 (k3 y hy e)
 rw [eval_ListComp]
 refine ON (use:=none) rfl hs Jr hk k4 (bh (hi pins s σ H _ I h) fun v s1 h1=>bh h1 fun itv s2 h2=>?_)
 obtain ⟨it,fp,tn,J,H2,e,I2,T,st2,f2,h2⟩:=h2
 subst e
 refine Ct (RR:=fun acc C=>compPost (model X.prog X.w) X.A X.xe none (EP X pins σ Q) acc C) (Q:=Q) hc hg he hk hn (fun y c m=>(c1 y c m).1) c2 I2 T st2 f2 h2 ?_
 intro acc C H' s' m I' ns wH hL hsz rK xT q
 exact ⟨m,ns,fun h' hs'=>⟨.ref acc,H',I'.turned (it:=C) (t':=s'.toks) (fun b o hb e=>(hs'.2 b hb).trans e) wH hL (.inr hsz) rK xT,Z,q⟩⟩
theorem JZ (hu:X.A.units+1<cLine) (hi:bE X i ty) (ho:bE X o td):bC X .In i o (afl ty td):=by
 have hi:=hi.h;have ho:=ho.h;constructor
 intro pins s σ H Q I h
 refine bh (hi pins s σ H _ I h) fun iv s1 ⟨y,H1,I1,ry,q1⟩=>bh (ho pins s1 σ H1 _ I1 q1) fun u s2 ⟨x,H2,I2,rx,a,ov,ex,g,q2⟩=>?_
 subst ex
 obtain rfl:u=Value.ref a:=rx
 exact afk hu I2 g ry fun s3 I3=>⟨.bl ov.isSome,H2,I3,Z,q2⟩
theorem bK {x j pos}:bE X (.Constant (.str x) j pos) (tC (.str x)):=⟨QK⟩
theorem PY {op:UnaryOp} {r:V->Hp->VK->Prop} (ho:Yq X (unaryOp op) r) (ha:bE X a ta):bE X (.UnaryOp op a pos) (tUn r ta):=by
 have ha:=ha.h;constructor
 intro pins s σ H Q I h
 exact UnaryOp_ (bh (ha pins s σ H _ I h) fun v s1 ⟨x,H1,I1,r1,q1⟩=>ho pins s1 σ H1 x v Q I1 r1 q1)
theorem qx (K:Fg) {a b:Expr} {ta:TA} {p pos:Pos} (hg:Gl X "zip") (hm:X.mg "zip"=none) (ha:bA X [a,b] ta) (hK:X.K=K:=by rfl) (hs:starEach [a,b] X.env=[(false,eval a X.env),(false,eval b X.env)] :=by rfl) (hs2:starEach [b] X.env=[(false,eval b X.env)] :=by rfl):bI X (.Tuple elts kk tpos) (.Call (.Name "zip" p) [a,b] [] pos) (abZ K ta):=by
 have ha:=ha.h;constructor
 subst hK
 intro pins s σ H R I h
 refine Call_ (wu I hg hm boot_zip (QE (bh (ha pos pins s σ H _ I h) fun us s1 ⟨vs,H1,I1,r1,q1⟩=>?_) (by rw [hs,hs2]) (by rw [hs2];rfl)))
 obtain ⟨u1,u2,S1,S2,xs,ys,e,k1,k2,q⟩:=q1
 subst e
 obtain ⟨u,w',rfl,ru,rw'⟩:=vals2 r1
 obtain ⟨g1,l1,o1,p1,lt1,b1,aid,at1,st1,c1⟩:=k1.ok I1 ru
 obtain ⟨g2,l2,o2,p2,lt2,b2,acf,at2,st2,c2⟩:=k2.ok I1 rw'
 refine callType_newIn F.called_zip (by decide) (F.typeCall_zip_2 _ _) (F.newCall_zip_2 _ _) (fun obj=>F.args_object_init_3 obj _ _) F.entry_zip_new (PF st1 st2) ⟨b1,acf _ _ b2,?_⟩
 have z1:(s1.heap.push o1).objs.size=s1.heap.objs.size+1:=j0 ..
 have z2:((s1.heap.push o1).push o2).objs.size=s1.heap.objs.size+2:=by rw [j0,z1]
 generalize e3:({ cls:= .type "tuple",data:= .seq #[.ref s1.heap.objs.size, .ref (s1.heap.push o1).objs.size] }:Obj)=o3
 have z3:(((s1.heap.push o1).push o2).push o3).objs.size=s1.heap.objs.size+3:=by rw [j0,z2]
 generalize e4:({ cls:= .type "tuple",data:= .seq #[.none, .none] }:Obj)=o4
 have z4:((((s1.heap.push o1).push o2).push o3).push o4).objs.size=s1.heap.objs.size+4:=by rw [j0,z3]
 generalize e5:({ cls:= .type "zip",data:= .fields #[.none, .bool false, .bool false, .ref ((s1.heap.push o1).push o2).objs.size, .ref (((s1.heap.push o1).push o2).push o3).objs.size] }:Obj)=o5
 have g5:(((((s1.heap.push o1).push o2).push o3).push o4).push o5).get? ((((s1.heap.push o1).push o2).push o3).push o4).objs.size=some o5:=eL _ (by rw [<-e5];rfl)
 have g4:(((((s1.heap.push o1).push o2).push o3).push o4).push o5).get? (((s1.heap.push o1).push o2).push o3).objs.size=some o4:=b7 _ (eL _ (by rw [<-e4];rfl))
 have g3:(((((s1.heap.push o1).push o2).push o3).push o4).push o5).get? ((s1.heap.push o1).push o2).objs.size=some o3:=b7 _ (b7 _ (eL _ (by rw [<-e3];rfl)))
 have g2':(((((s1.heap.push o1).push o2).push o3).push o4).push o5).get? (s1.heap.push o1).objs.size=some o2:=b7 _ (b7 _ (b7 _ (at2 _)))
 have g1':(((((s1.heap.push o1).push o2).push o3).push o4).push o5).get? s1.heap.objs.size=some o1:=b7 _ (b7 _ (b7 _ (b7 _ (at1 _))))
 have kp:∀c o,s1.heap.get? c=some o->(((((s1.heap.push o1).push o2).push o3).push o4).push o5).get? c=some o:=fun c o x=>b7 _ (b7 _ (b7 _ (b7 _ (b7 _ x))))
 rw [z4] at g5 ⊢
 rw [z3] at g4 e5
 rw [z2] at g3 e5
 rw [z1] at g2' e3
 generalize (((((s1.heap.push o1).push o2).push o3).push o4).push o5)=hN at *
 show _/\_
 subst e3 e4 e5
 refine ⟨⟨_,g5,Z⟩,wpAny_pyIter_zip (s:={ s1 with heap:=hN }) g5 ?_⟩
 have I2:Inv X pins σ H1 { s1 with heap:=hN }:=I1.kept (t':=s1.toks) kp
 obtain ⟨t1,aik,C1,n1⟩:=c1 s1.heap.objs.size
 obtain ⟨t2,ail,C2,n2⟩:=c2 (s1.heap.objs.size+1)
 refine ⟨s1.heap.objs.size+4,[s1.heap.objs.size+4,s1.heap.objs.size+2,s1.heap.objs.size+3,s1.heap.objs.size,s1.heap.objs.size+1],_,_,H1,Z,I2,RI (L5 lt1 lt2) C1 C2,⟨g5,g3,⟨_,_,g4⟩,n1 _ g1',n2 _ g2'⟩,fun b hb=>?_,q⟩
 have hb':b=s1.heap.objs.size+4\/b=s1.heap.objs.size+2\/b=s1.heap.objs.size+3\/b=s1.heap.objs.size\/b=s1.heap.objs.size+1:=by simpa using hb
 have le:s1.heap.objs.size<=b:=by
  rcases hb' with r|r|r|r|r
  . rw [r];exact vK _ _
  . rw [r];exact vK _ _
  . rw [r];exact vK _ _
  . rw [r];exact aN _
  . rw [r];exact vK _ _
 exact I1.Bd le (I1.hok.fresh le)
theorem aU {op:CmpOp} {r:R2} (ho:jm X (compareOp op) r) (ha:bE X a ta) (hb:bE X b tb) (hm:behindInMarks op b=false):bT X (.Compare a [op] [b] pos) (Pb (Nz r ta tb)):=by
 have ha:=ha.h;have hb:=hb.h;constructor
 intro pins s σ H Q I h
 refine wpAny_isTrue_Compare1 (bh (ha pins s σ H _ I h) fun v s1 ⟨x,H1,I1,r1,q1⟩=>bh (hb pins s1 σ H1 _ I1 q1) fun u s2 ⟨y,H2,I2,r2,q2⟩=>
  bh (ho pins s2 σ H2 x y v u _ I2 r1 r2 q2) fun c s3 ⟨z,H3,I3,r3,k,e,q3⟩=>?_) hm
 subst e
 cases r3
 exact D0 ⟨H3,I3,q3⟩
theorem aT {i:Nat} {x:Str} {e:Expr} {te:TE} {pos':Pos} (hN:X.N.Nodup) (he:bE X e te) (hi:X.N[i]?=some x:=by rfl) (hx:Loc X.env.scope x:=by first|exact Or.inl rfl|exact Or.inr rfl) (hs:swapsWith e (some (.Name x pos')) pos.line X.env=pure false:=by rfl) (hf:X.fn x=true\/X.env.scope.names.lookup x=some .local:=by first|exact .inl rfl|exact .inr rfl|assumption):bS X (.Assign [.Name x pos'] e pos) (Tp te (m9 i)):=by
 have he:=he.h;constructor
 intro pins s σ H D I h
 refine wpAny_Assign_Name (bh (he pins s σ H _ I h) fun v s1 ⟨y,H1,I1,r1,q1⟩=>?_) hs
 exact xM I1 hN hi hx r1 (fun s2 I2=>⟨_,H1,I2,q1⟩) hf
theorem Xp {X:Cx} {pos:Pos} {keys:List (Option Expr)} {values:List Expr} {Ck:List (TE×TE)} (h:V0 X pos keys values Ck) (hall:keys.all (·.isSome)=true) (hl:keys.length=values.length) (h0:keys≠[]) (h15:keys.length<=15):bE X (.Dict keys values pos) (abO Ck):=by
 have h:=h.h;constructor
 intro pins s σ H Q I q
 have hn:=I.hok.fresh (aN s.heap.objs.size)
 have I1:=I.laid (a:=s.heap.objs.size) (o:= .dK []) (h':=s.heap.push { cls:= .type "dict",data:= .dict #[] }) (t':=s.toks) (fun _ _ q=>b7 _ q) (aN _) (Bg s.heap I.big)
 refine wpAny_Dict_walk (knd:=cY X.prog X.w) hall hl h0 h15 (bh (h pins _ σ _ _ I1 (q _ hn)) fun ws s2 ⟨ps,H2,I2,rel,e,kvs,ep,lk,q2⟩=>?_)
 subst ep
 obtain ⟨rs,c,rk⟩:=Cm (P:=X.prog) (w:=X.w) rel
 obtain ⟨z,hd,RK,r0,dd⟩:=xN I2.hok e
 cases r0
 refine ⟨rs,c,dd,fun h' tZ hs=>⟨.ref s.heap.objs.size,_,?_,Z,q2⟩⟩
 have hz:(wG [] kvs).length<=sizeLine:=by
  have h1:=yw kvs []
  rw [List.length_nil] at h1
  rw [jI];omega
 have he:∃q,h'.get? s.heap.objs.size=some q:=let ⟨q,_,_,hq,_⟩:=tZ;⟨q,hq⟩
 exact wF I2 (by rw [e];exact True.intro) hs he (yU hz hd (rk.merge .nil) tZ)
theorem eT (K:Fg) {tg l:Expr} {tl:TE} (hl:bE X l tl) (hK:X.K=K:=by rfl):bI X tg l (VE K tl):=by
 have hl:=hl.h;exact ⟨hK▸WE hl⟩
theorem kD {X:Cx} {e:Expr} {t:TT} (h:bT X e t):bT X e (fun σ H Q=>∃b:Bool,t σ H (fun b' H'=>b'=b/\H'=H)/\Q b H):=by
 have h:=h.h;constructor
 intro pins s σ H Q I hw
 obtain ⟨b,hb,q⟩:=hw
 refine bh (h pins s σ H _ I hb) fun b' s' ⟨H',I',e1,e2⟩=>?_
 subst e1 e2
 exact ⟨_,I',q⟩
theorem ay {st:Stmt} (h1:bS X st t):c5 X [st] t:=by
 have h1:=h1.h;constructor
 intro pins s σ H D I h
 refine wpAny_execs_cons (bh (h1 pins s σ H D I h) fun f s1 q=>?_)
 cases f with
 | next=>exact Ih q
 | ret v=>exact q
 | brk=>exact q
 | cont=>exact q
theorem N8 (ho:bE X o td) (hi:bE X i ty):bS X (.Delete [.Subscript o i tpos] pos) (abN td ty):=by
 have ho:=ho.h;have hi:=hi.h;constructor
 intro pins s σ H D I h
 refine wpAny_Delete (wpAny_deleteEach_cons (wpAny_delete_Subscript (bh (ho pins s σ H _ I h) fun u s1 ⟨x,H1,I1,rx,q1⟩=>bh (hi pins s1 σ H1 _ I1 q1) fun iv s2 ⟨y,H2,I2,ry,a,kvs,k,ex,e,ey,l,q2⟩=>?_)))
 subst ex ey
 obtain rfl:u=Value.ref a:=rx
 exact Ra I2 e ry l fun s3 I3=>wpAny_deleteEach_nil ⟨σ,_,I3,q2⟩
theorem J0 (ha:bT X a tA):bT X (.UnaryOp .Not a pos) (ae3 tA):=by
 have ha:=ha.h;constructor
 intro pins s σ H Q I h
 exact isTrue_not (ha pins s σ H (fun c H1=>Q (!c) H1) I h)
theorem cu (he:bE X e te) (hs:swapsWith e none pos.line X.env=pure false:=by rfl):bS X (.Expr e pos) (abu te):=by
 have he:=he.h;constructor
 intro pins s σ H D I h
 exact wpAny_Expr_any (bh (he pins s σ H _ I h) fun v s1 ⟨x,H1,I1,r1,q1⟩=>⟨σ,H1,I1,q1⟩) I.quiet hs
theorem cI {pl:Sem Bool} {j k:Nat} {C:Addr} {m:Str} {ps:List Str} {sp:Sp} {o e:Expr} {es:List Expr} {ta:TE} {t:TA} {apos pos:Pos} (D:Mn X.prog X.w X.K X.mg X.base j C m ps sp) (hr:dJ k X.A) (ho:bE X o ta) (ha:bA X (e::es) t) (hj:j<=k:=by decide) (hst:starEach (e::es) X.env=(false,eval e X.env)::starEach es X.env:=by rfl) (hpl:(backTo pos (starEach es X.env)).any (·.1)=false:=by rfl) (ht:eval (.Call (.Attribute o m apos) (e::es) [] pos) X.env=(do
   let ov <-eval o X.env
   standAt apos.atName
   let (f,first) <-holding [ov] (getMethod ov m pl)
   callWith pos f first (backTo pos (starEach (e::es) X.env)) (backToKw pos (keywordEach [] X.env))):=by rfl):bE X (.Call (.Attribute o m apos) (e::es) [] pos) (Cg C m sp [] E0 ta t):=by
 have ho:=ho.h;have ha:=ha.h;constructor
 obtain ⟨f,fd,F,b,hm,c⟩:=D.ex
 exact NI (pl:=pl) ho c hm F (hr.mono hj) b .nil (fun _ _ _ _ _ _ _ h=>h.elim) ha hst hpl ht
theorem cC {e:Expr} {es:List Expr} {t:TG} {u:Ca} (h1:bG X e t) (h2:VZ X es u) (hs:(assignEach (e::es) X.env).map (·.2)=assign e X.env::(assignEach es X.env).map (·.2):=by rfl):VZ X (e::es) (VC t u):=by
 have h1:=h1.h;have h2:=h2.h;constructor
 intro pins s σ H vs us Q I r h
 obtain ⟨v,vr,e1,h⟩:=h
 subst e1
 cases r with
 | cons r rr=>
   rw [hs]
   refine assignInOrder_cons (bh (h1 pins s σ H _ _ _ I r h) fun _ s1 ⟨σ1,H1,I1,q1⟩=>?_)
   exact h2 pins s1 σ1 H1 _ _ Q I1 rr q1
theorem tP {i:Nat} {x:Str} {px pos':Pos} {tg iter elt:Expr} {scope:Scope} {pos:Pos} (N2:List Str) (ix:List (Option Nat)) {wi:TI} {g:TG} {te:TE} (hN:X.N.Nodup) (hi:X.N[i]?=some x) (hx:X.env.scope.names.lookup x=some .local) (hc:X.calm=true) (hit:bI X tg iter wi) (hg:∀cl s₂ H₂ fp,bG (cE X N2 scope cl s₂ H₂ fp) tg g) (he:∀cl s₂ H₂ fp,bE (cE X N2 scope cl s₂ H₂ fp) elt te) (hk:scope.kind = .function) (hn:mR X.N X.env.scope.names scope.names N2 ix=true) (hw:swapsWith (.ListComp elt [⟨tg,iter,[],0⟩] scope pos) (some (.Name x px)) pos'.line X.env=pure true) (hs:∀x,foldedSetIterable iter X.env x=pure x:=by intro _;rfl):bS X (.Assign [.Name x px] (.ListComp elt [⟨tg,iter,[],0⟩] scope pos) pos') (Tp (VO wi ix g te) (m9 i)):=by
 have hit:=hit.h;have hg:=fun cl s₂ H₂ fp=>(hg cl s₂ H₂ fp).h;have he:=fun cl s₂ H₂ fp=>(he cl s₂ H₂ fp).h;constructor
 intro pins s σ H D I h
 obtain ⟨k1,k2,k3,k4,k5⟩:=j7 hn
 obtain ⟨cl,Jr,c1,c2⟩:=tF (scope:=scope) (env:=X.env) fun y hy e=>I.ok.has y.1 (k3 y hy e)
 rw [exec_Assign_Name_used _ _ _ _ hw]
 refine az (xD (az ?_))
 show wpAny _ X.A (do let _ <-comprehension (.ListComp elt [⟨tg,iter,[],0⟩] scope pos) scope X.env _ (newList []) false (eval iter X.env) (some (assign (.Name x px) X.env))) _ _ s
 refine az (bh (ON (use:=some (assign (.Name x px) X.env)) (Q:=fun _ s'=>SP X pins D .next s') rfl hs Jr hk k4 (bh (hit pins s σ H _ I h) fun v s1 h1=>bh h1 fun itv s2 h2=>?_)) fun _ s' hq=>aV (aV hq))
 obtain ⟨it,fp,tn,J,H2,e,I2,T,st2,f2,h2⟩:=h2
 subst e
 refine Ct (RR:=fun acc C=>compPost (model X.prog X.w) X.A X.xe (some (assign (.Name x px) X.env)) (fun _ s'=>SP X pins D .next s') acc C) (Q:=fun v H'=>D.nx (σ.set i (some v)) H') hc hg he hk hn (fun y c m=>(c1 y c m).1) c2 I2 T st2 f2 h2 ?_
 intro acc C H' s' m I' ns wH hL hsz rK xT q
 show wpAny _ X.A (assign (.Name x px) X.env (.ref acc)) _ _ _
 refine wpAny_assign_Name (Fd I' hN hi (.inl hx) (v:= .ref acc) rfl (fun s3 I3 ⟨a,sb,ha⟩=>?_) (.inr hx))
 have ca:C≠a:=by
  rcases ha with z|z
  . rw [z];exact hL
  . exact fun e=>rK x a z e.symm
 exact ⟨m,ns.sameBut sb ca,fun h' hs'=>⟨_,H',I3.turned (it:=C) (t':=s3.toks) (fun b o hb e=>(hs'.2 b hb).trans e) wH hL (.inr hsz) rK xT,q⟩⟩
theorem Bs {X:Cx} {pos:Pos} {k v:Expr} {ks:List (Option Expr)} {vs:List Expr} {tk tv:TE} {Ck:List (TE×TE)} (hk:bE X k tk) (hv:bE X v tv) (hr:V0 X pos ks vs Ck):V0 X pos (some k::ks) (v::vs) ((tk,tv)::Ck):=by
 have hk:=hk.h;have hv:=hv.h;have hr:=hr.h;exact ⟨fun pins s σ H Q I h=>
 pairTrees_cons_walk (bh (hk pins s σ H _ I h) fun u s1 ⟨x,H1,I1,rx,q1⟩=>bh (hv pins s1 σ H1 _ I1 q1) fun w2 s2 ⟨y,H2,I2,ry,q2⟩=>
  bh (hr pins s2 σ H2 _ I2 q2) fun ws s3 ⟨ps,H3,I3,rel,q3⟩=>⟨(x,y)::ps,H3,I3, .cons ⟨rx,ry⟩ rel,q3⟩)⟩
theorem zN (hu:X.A.units+1<cLine) (hi:bE X i ty) (ho:bE X o td):bC X .NotIn i o (WR ty td):=by
 have hi:=hi.h;have ho:=ho.h;constructor
 intro pins s σ H Q I h
 refine bh (hi pins s σ H _ I h) fun iv s1 ⟨y,H1,I1,ry,q1⟩=>bh (ho pins s1 σ H1 _ I1 q1) fun u s2 ⟨x,H2,I2,rx,a,ov,ex,g,q2⟩=>?_
 subst ex
 obtain rfl:u=Value.ref a:=rx
 exact WN hu I2 g ry fun s3 I3=>⟨.bl (!ov.isSome),H2,I3,Z,q2⟩
theorem Ir {b j pos}:bE X (.Constant (.bool b) j pos) (tC (.bl b)):=by
 exact ⟨fun _ _ _ H _ I h=>Constant_bool ⟨.bl b,H,I,Z,h⟩⟩
theorem lY {pl:Sem Bool} {j k:Nat} {C:Addr} {m:Str} {ps:List Str} {sp:Sp} {o:Expr} {ta:TE} {apos pos:Pos} (D:Mn X.prog X.w X.K X.mg X.base j C m ps sp) (hr:dJ k X.A) (ho:bE X o ta) (hj:j<=k:=by decide) (ht:eval (.Call (.Attribute o m apos) [] [] pos) X.env=(do
   let ov <-eval o X.env
   standAt apos.atName
   let (f,first) <-holding [ov] (getMethod ov m pl)
   callWith pos f first (backTo pos (starEach [] X.env)) (backToKw pos (keywordEach [] X.env))):=by rfl):bE X (.Call (.Attribute o m apos) [] [] pos) (Cg C m sp [] E0 ta qc):=by
 have ho:=ho.h;constructor
 obtain ⟨f,fd,F,b,hm,c⟩:=D.ex
 exact TQ (pl:=pl) ho c hm F (hr.mono hj) b .nil (fun _ _ _ _ _ _ _ h=>h.elim) ht
theorem bB (he:bE X e te):bS X (.Return (some e) pos) (ae5 te):=by
 have he:=he.h;constructor
 intro pins s σ H D I h
 exact wpAny_Return_some (bh (he pins s σ H _ I h) fun v s1 ⟨x,H1,I1,r1,q1⟩=>⟨x,σ,H1,I1,r1,q1⟩)
theorem lI {tg:Expr} {a:Expr} {ta:TA} {p pos:Pos} (hg:Gl X "range") (hm:X.mg "range"=none) (ha:bA X [a] ta) (hs:starEach [a] X.env=[(false,eval a X.env)] :=by rfl):bI X tg (.Call (.Name "range" p) [a] [] pos) (abB ta):=by
 have ha:=ha.h;constructor
 intro pins s σ H R I h
 refine Call_ (wu I hg hm boot_range (QE (bh (ha pos pins s σ H _ I h) fun us s1 ⟨vs,H1,I1,r1,q1⟩=>?_) hs rfl))
 obtain ⟨j,e,q1,q2,q⟩:=q1
 subst e
 cases r1 with
 | cons r rr=>
   cases rr
   obtain ⟨t,rfl⟩:=r
   exact call_range_1 (Tw I1 (by omega) (by omega) q1 q2 (by simpa using q))
theorem bF:c5 X [] abt:=by
 exact ⟨fun _ _ σ H _ I h=>Ih ⟨σ,H,I,h⟩⟩
theorem cK (K:Fg) {o value:Expr} {f:Str} {ta tv:TE} {pos pos':Pos} (ha:bE X o ta) (hv:bE X value tv) (hs:swapsWith value (some (.Attribute o f pos')) pos.line X.env=pure false:=by rfl) (hK:X.K=K:=by rfl):bS X (.Assign [.Attribute o f pos'] value pos) (Yw K ta tv f):=by
 have ha:=ha.h;have hv:=hv.h;exact ⟨hK▸Yz ha hv hs⟩
theorem Gd {tg:Expr} {a b c:Expr} {ta:TA} {p pos:Pos} (hg:Gl X "range") (hm:X.mg "range"=none) (ha:bA X [a,b,c] ta) (hs:starEach [a,b,c] X.env=[(false,eval a X.env),(false,eval b X.env),(false,eval c X.env)] :=by rfl) (hs2:starEach [b,c] X.env=[(false,eval b X.env),(false,eval c X.env)] :=by rfl):bI X tg (.Call (.Name "range" p) [a,b,c] [] pos) (abW ta):=by
 have ha:=ha.h;constructor
 intro pins s σ H R I h
 refine Call_ (wu I hg hm boot_range (QE (bh (ha pos pins s σ H _ I h) fun us s1 ⟨vs,H1,I1,r1,q1⟩=>?_) (by rw [hs,hs2]) (by rw [hs2];rfl)))
 obtain ⟨i,j,k,e,⟨q1,q2,q3,q4,q5,q6⟩,q⟩:=q1
 subst e
 cases r1 with
 | cons r rr=>
   cases rr with
   | cons r' rr=>
     cases rr with
     | cons r'' rr=>
       cases rr
       obtain ⟨t,rfl⟩:=r
       obtain ⟨t',rfl⟩:=r'
       obtain ⟨t'',rfl⟩:=r''
       obtain ⟨sm,sz⟩:=L8 q1 q2 q3 q4 q5 q6
       refine call_range_3 (by omega) ?_ (Or.inl (PyProof.noPylong_small (by omega)))
       refine wpAny_pyIter_range (IsRange.new ..) sm ?_
       have I2:Inv X pins σ H1 { s1 with heap:=s1.heap.push { cls:= .type "range",data:= .fields #[.int i t, .int j t', .int k t''] },toks:=s1.toks }:=I1.kept fun b o e=>b7 _ e
       refine ⟨(s1.heap.push { cls:= .type "range",data:= .fields #[.int i t, .int j t', .int k t''] }).objs.size,[(s1.heap.push { cls:= .type "range",data:= .fields #[.int i t, .int j t', .int k t''] }).objs.size],_,_,H1,Z,
        I2.kept (t':=s1.toks) fun b o e=>b7 _ e,L7 _ i k (qf i j k),?_,fun b hb=>?_,q⟩
       . have e1:i+((0:Nat):Int)*k=i:=by simp
         have e2:((qf i j k:Nat):Int)-((0:Nat):Int)=Builtin.Range.rangeSize i j k:=by unfold qf;omega
         show IsRangeIter _ _ (i+((0:Nat):Int)*k) (((qf i j k:Nat):Int)-((0:Nat):Int)) k
         rw [e1,e2]
         exact eL _ rfl
       . have e:b=(s1.heap.push { cls:= .type "range",data:= .fields #[.int i t, .int j t', .int k t''] }).objs.size:=by simpa using hb
         subst e
         exact I2.Bd (aN _) (I2.hok.fresh (aN _))
theorem R8 {a:Expr} {ta:TA} {p pos:Pos} (hg:Gl X "range") (hm:X.mg "range"=none) (ha:bA X [a] ta) (hs:starEach [a] X.env=[(false,eval a X.env)] :=by rfl):bE X (.Call (.Name "range" p) [a] [] pos) (afp ta):=by
 have ha:=ha.h;constructor
 intro pins s σ H Q I h
 refine Call_ (wu I hg hm boot_range (QE (bh (ha pos pins s σ H _ I h) fun us s1 ⟨vs,H1,I1,r1,q1⟩=>?_) hs rfl))
 obtain ⟨j,e,q⟩:=q1
 subst e
 obtain ⟨u,rfl,ru⟩:=vals1 r1
 obtain ⟨t,rfl⟩:=ru
 exact call_range_1 ⟨.ref s1.heap.objs.size,_,I1.laid (a:=s1.heap.objs.size) (o:= .uZ 0 j) (fun b o e=>b7 _ e) (aN _) ⟨_,_,_,eL _ rfl⟩,Z,q _ I1.fresh⟩
theorem iH (h:bA X es t):bE X (.List es pos) (afd t):=by
 have h:=h.h;constructor
 intro pins s σ H Q I hq
 refine wpAny_List_spliced (bh (h pos pins s σ H _ I hq) fun us s1 ⟨xs,H1,I1,r,z,q⟩=>⟨by rw [<-r.length];exact z,?_⟩)
 have hf:H1 s1.heap.objs.size=none:=I1.hok.fresh (aN _)
 refine ⟨.ref s1.heap.objs.size,upd H1 s1.heap.objs.size (.lst xs),I1.laid (t':=s1.toks) (fun b u e=>b7 _ e) (aN _) ?_,Z,q _ hf⟩
 exact ⟨z,us,0,r,eL _ rfl⟩
theorem pF (K:Fg) {o value:Expr} {f:Str} {ta tv:TE} {pos tpos:Pos} {op:Operator} {rd:V->V->Hp->VK->Prop} (ha:bE X o ta) (hv:bE X value tv) (hop:IZ X op rd) (hK:X.K=K:=by rfl):bS X (.AugAssign (.Attribute o f tpos) op value pos) (NF K ta tv rd f):=by
 have ha:=ha.h;have hv:=hv.h;exact ⟨hK▸QY ha hv hop⟩
theorem ZF {j pos}:bE X (.Constant .none j pos) (tC .b9):=by
 exact ⟨fun _ _ _ H _ I h=>Constant_none ⟨.b9,H,I,Z,h⟩⟩
theorem Ei {ob:Expr} {td:TE} {apos cpos:Pos} (hob:bE X ob td) (hbase:attributeBase ob "values" X.env (eval ob X.env)=eval ob X.env:=by rfl) (hline:(apos.endLine==cpos.line)=true:=by rfl):bE X (.Call (.Attribute ob "values" apos) [] [] cpos) (abY td):=by
 have hob:=hob.h;constructor
 intro pins s σ H Q I h
 refine wpAny_Call_method0_late hbase hline (bh (hob pins s σ H _ I h) fun v s1 ⟨x,H1,I1,r1,q1⟩=>?_)
 obtain ⟨d,kvs,rfl,e,fin⟩:=q1
 cases r1
 obtain ⟨t1,t2,hsys⟩:=Jh I1 (.inl ⟨kvs,e⟩)
 obtain ⟨hz,_,vs,rel,dd⟩:=tE I1.hok e
 refine ⟨"dict",_,F.plainAttrs_dict,O0,F.type_dict_values,t1,t2,OQ rfl (PySem.evalArgs_none ?_)⟩
 refine call_meetsIn O0 dd.typeIs F.entry_dict_values (F.args_dict_values_1 _) (meets_dict_values (cY X.prog X.w) d hsys) ⟨⟨vs,dd⟩,?_⟩
 refine ⟨.ref s1.heap.objs.size,_,I1.laid (t':=s1.toks) (o:=kR s1.heap.objs.size d) (fun b u e=>b7 _ e) (aN _) ?_,Z,fin _ I1.fresh⟩
 refine ⟨⟨_,eL _ rfl,Z,Z⟩,⟨_,eL _ rfl⟩,fun h1 h2 ⟨o,a,b⟩ k=>⟨o,k o a,b⟩⟩
theorem PZ {j k:Nat} {x:Str} {C:Addr} {ps:List Str} {sp:Sp} {e:Expr} {es:List Expr} {t:TA} {p pos:Pos} (D:Cn X.prog X.w X.K X.mg X.base j x C ps sp) (hr:dJ k X.A) (ha:bA X (e::es) t) (hj:j+1<=k:=by decide) (hg:Gl X x:=by rfl) (hdb:(x==("__debug__":Str))=false:=by decide) (he:starEach (e::es) X.env=(false,eval e X.env)::starEach es X.env:=by rfl) (hpl:(backTo pos (starEach es X.env)).any (·.1)=false:=by rfl):bE X (.Call (.Name x p) (e::es) [] pos) (Il C sp [] E0 t):=by
 have ha:=ha.h;constructor
 obtain ⟨f,fd,F,b,M,m⟩:=D.ex
 exact WK M F (hr.mono hj) hg m b .nil (fun _ _ _ _ _ _ _ h=>h.elim) ha hdb he hpl
theorem Xq {x:Str} {v:V} {u:Value} {pos:Pos} (hg:Gl X x) (hm:X.mg x=some u) (r:RelV v u) (hd:(x==("__debug__":Str))=false:=by decide):bE X (.Name x pos) (tC v):=by
 exact ⟨fun _ _ _ H _ I h=>wm I hg hm ⟨v,H,I,r,h⟩ hd⟩
theorem ia (hc:je X (.type T) r) (hg:Gl X x) (hm:X.mg x=none) (hv:bootBuiltins x=some (.type T)) (ha:bA X (e::es) t) (hn:x ≠ "__name__":=by decide) (hdb:(x==("__debug__":Str))=false:=by decide) (he:starEach (e::es) X.env=(false,eval e X.env)::starEach es X.env:=by rfl) (hpl:(backTo pos (starEach es X.env)).any (·.1)=false:=by rfl):bE X (.Call (.Name x p) (e::es) [] pos) (YH r t):=by
 have ha:=ha.h;constructor
 intro pins s σ H Q I h
 refine ID (wu I hg hm hv ?_ hn hdb)
 exact QE (bh (ha pos pins s σ H _ I h) fun us s1 ⟨vs,H1,I1,r1,q1⟩=>hc pins s1 σ H1 vs us Q I1 r1 q1) he hpl
theorem Iu {rest:List Expr} (ha:bT X a tA) (hb:bW X (.BoolOp .Or (b::rest) pos) VA):bW X (.BoolOp .Or (a::b::rest) pos) (tOr tA VA):=by
 have ha:=ha.h;have hb:=hb.h;constructor
 intro wh pins s σ H Q I h
 refine isTrue_or (bh (ha pins s σ H _ I h) fun c s1 ⟨H1,I1,q1⟩=>?_)
 cases c with
 | true=>exact ⟨H1,I1,q1⟩
 | false=>exact hb wh pins s1 σ H1 Q I1 q1
theorem tQ (ha:bT X a tA):bW X (.BoolOp .And [a] pos) tA:=by
 have ha:=ha.h;constructor
 intro wh pins s σ H Q I h
 refine isTrue_and (bh (ha pins s σ H Q I h) fun c s1 e=>?_)
 cases c with
 | true=>exact isTrue_and_nil e
 | false=>exact e
theorem cL {c:Expr} {a b:List Stmt} {tc:TT} (hc:bT X c tc) (ha:c5 X a t) (hb:c5 X b u):bS X (.If c a b pos) (Yc tc t u):=⟨VB hc.h ha.h hb.h⟩
theorem ZG {i j:Nat} {x y:Str} {a b:Expr} {ta:TA} {px py pt:Pos} {kt k2 ZH} (hc:X.calm=true) (hN:X.N.Nodup) (hi:X.N[i]?=some x) (hj:X.N[j]?=some y) (hij:i≠j) (hx:X.env.scope.names.lookup x=some .local) (hy:X.env.scope.names.lookup y=some .local) (ha:bA X [a,b] ta) (hw:swappedStores [.Tuple [.Name x px, .Name y py] kt pt] (.Tuple [a,b] k2 ZH) X.env=pure (some [x,y])) (hs:swapsWithSole [.Tuple [.Name x px, .Name y py] kt pt] (.Tuple [a,b] k2 ZH) pos.line X.env=pure false:=by rfl):bS X (.Assign [.Tuple [.Name x px, .Name y py] kt pt] (.Tuple [a,b] k2 ZH) pos) (ae7 i j ta):=by
 have ha:=ha.h;constructor
 intro pins s σ H D I h
 rw [exec_Assign_arm]
 refine az (xD ?_)
 rw [hs]
 refine az (aV ?_)
 rw [aB (by decide)]
 refine az (Tuple_ (bh (ha _ pins s σ H _ I h) fun us s1 ⟨vs,H1,I1,r1,q1⟩=>?_))
 obtain ⟨v,w,e1,q1⟩:=q1
 subst e1
 obtain ⟨u1,u2,rfl,rv,rw'⟩:∃u1 u2,us=[u1,u2]/\RelV v u1/\RelV w u2:=by
  cases r1 with
  | cons p q=>
    cases q with
    | cons p' q'=>
      cases q'
      exact ⟨_,_,Z,p,p'⟩
 refine vJ ?_ (by show 2<=sizeLine;decide)
 have I2:Inv X pins σ H1 { s1 with heap:=s1.heap.push { cls:= .type "tuple",data:= .seq [u1,u2].toArray } }:=I1.kept (t':=s1.toks) fun b o e=>b7 _ e
 rw [hw]
 refine az (aV ?_)
 show wpAny (model X.prog X.w) X.A (do rule "assign.swapped-stores";let items <-unpackItems (.ref s1.heap.objs.size) 2 none;assignInOrder [fun v=>bindName X.env y v,fun v=>bindName X.env x v] items.reverse;pure Flow.next) _ _ _
 refine az (wpAny_rule (az (unpackItems_tuple (items:=#[u1,u2]) (I.ok.hd hc) (IsTup.new s1.heap _) fun h' hx'=>?_)))
 have I3:=I2.kept (h':=h') (t':=s1.toks) fun b o e=>hx' b o (ee (bM e)) e
 show wpAny _ _ (assignInOrder [fun v=>bindName X.env y v,fun v=>bindName X.env x v] [u2,u1] >>= fun _=>pure Flow.next) _ _ _
 refine az (assignInOrder_cons (wpAny_bindName (xM I3 hN hj (.inl hy) rw' (fun s2 I4=>?_) (.inr hy))))
 refine assignInOrder_cons (wpAny_bindName (xM I4 hN hi (.inl hx) rv (fun s3 I5=>assignInOrder_nil (aV ?_)) (.inr hx)))
 rw [List.set_comm _ _ (bU hij)] at I5
 exact ⟨_,H1,I5,q1⟩
theorem i9 {c:Expr} {a b:List Stmt} {tc:TT} {t u:TS} (hc:bT X c tc) (ha:c5 X a t) (hb:c5 X b u):bS X (.If c a b pos) (Y0 tc t u):=by
 have hc:=hc.h;have ha:=ha.h;have hb:=hb.h;constructor
 intro pins s σ H D I h
 obtain ⟨J,h,hJ⟩:=h
 refine bh (VB hc ha hb pins s σ H { D with nx:=J } I h) fun f s' q=>?_
 cases f with
 | next=>obtain ⟨σ',H',I',q⟩:=q;exact ⟨σ',H',I',hJ _ _ q⟩
 | cont=>exact q
 | brk=>exact q
 | ret v=>exact q
theorem ai {st:Stmt} {rest:List Stmt} (h1:bS X st t) (h2:c5 X rest u):c5 X (st::rest) (iB t u):=by
 have h1:=h1.h;have h2:=h2.h;constructor
 intro pins s σ H D I h
 refine wpAny_execs_cons (bh (h1 pins s σ H { D with nx:=u D } I h) fun f s1 q=>?_)
 cases f with
 | next=>
   obtain ⟨σ',H',I',q⟩:=q
   exact h2 pins s1 σ' H' D I' q
 | ret v=>exact q
 | brk=>exact q
 | cont=>exact q
theorem R_ (K:Fg) {e st:Expr} {te ts:TE} {pos p2:Pos} (he:bE X e te) (hst:bE X st ts) (hK:X.K=K:=by rfl):bE X (.Subscript e (.Slice none none (some st) p2) pos) (afq K te ts):=by
 have he:=he.h;have hst:=hst.h;constructor
 subst hK
 intro pins s σ H Q I h
 refine Subscript_ (bh (he pins s σ H _ I h) fun v s1 ⟨x,H1,I1,r1,q1⟩=>?_)
 refine wpAny_Slice ?_
 rw [evalPart_none]
 refine aV (aV ?_)
 rw [evalPart_some]
 refine bh (hst pins s1 σ H1 _ I1 q1) fun w3 s3 ⟨y,H3,I3,r3,q3⟩=>?_
 obtain ⟨ey,a,xs,rfl,hx,q⟩:=q3
 subst ey
 obtain ⟨t,rfl⟩:=r3
 cases r1
 have I4:Inv X pins σ H3 { s3 with heap:=s3.heap.push { cls:= .type "slice",data:= .fields #[.none, .none, .int (-1) t] } }:=I3.kept (t':=s3.toks) fun b ob q=>b7 _ q
 obtain ⟨its,r,ht,hz⟩:=I4.list hx
 have hlen:=r.length
 refine tail_any (ops:=[.ref a, .ref s3.heap.objs.size]) ht.isList.typeIs slot_list_getitem.lookup ?_ (by with_unfolding_all rfl)
 refine wpAny_getItem_list_slice ht.isList (Heap.IsSliceOf.new ..) .none .none (.int (-1) t) (by decide) ?_ (by rw [iK] <;> omega)
 rw [PySem.W.krv_pick]
 refine ⟨.ref _,_,I4.laid (t':=s3.toks) (o:= .lst xs.reverse) (fun b ob q=>b7 _ q) (aN _) ?_,Z,q _ I4.fresh⟩
 exact ⟨by rw [DX];exact hz,its.reverse,0,r.reverse,eL _ rfl⟩
theorem iu (K:Fg) {X:Cx} {es:List Expr} {k:Nat} {t:Ca} {n:Nat} {pos:Pos} (hc:X.calm=true) (h:VZ X es t) (hK:X.K=K:=by rfl) (hn:(assignEach es X.env).length=n:=by rfl) (hst:(assignEach es X.env).findIdx? (·.1)=none:=by rfl):bG X (.Tuple es k pos) (yP K n t):=by
 have h:=h.h;exact ⟨hK▸Yi hc h hn hst⟩
theorem CY {K:Fg} {j k:Nat} {x:Str} {ps:List Str} {sp:Sp} {e:Expr} {es:List Expr} {t:TA} {p pos:Pos} (D:Dx P w K mg base j x ps sp) (hr:dJ k (cM (f7 P w) P w K mg base N qual scope f cd A outer s0 H0 E).A) (ha:bA (cM (f7 P w) P w K mg base N qual scope f cd A outer s0 H0 E) (e::es) t) (hj:j<=k:=by decide) (hg:Gl (cM (f7 P w) P w K mg base N qual scope f cd A outer s0 H0 E) x:=by rfl) (hdb:(x==("__debug__":Str))=false:=by decide) (he:starEach (e::es) (cM (f7 P w) P w K mg base N qual scope f cd A outer s0 H0 E).env=(false,eval e (cM (f7 P w) P w K mg base N qual scope f cd A outer s0 H0 E).env)::starEach es (cM (f7 P w) P w K mg base N qual scope f cd A outer s0 H0 E).env:=by rfl) (hpl:(backTo pos (starEach es (cM (f7 P w) P w K mg base N qual scope f cd A outer s0 H0 E).env)).any (·.1)=false:=by rfl):bE (cM (f7 P w) P w K mg base N qual scope f cd A outer s0 H0 E) (.Call (.Name x p) (e::es) [] pos) (Ph sp [] E t):=by
 have ha:=ha.h;constructor
 obtain ⟨f',fd,F,b,kp,m⟩:=D.ex
 exact NH F (hr.mono hj) hg m kp b .nil VY ha hdb he hpl
theorem dN (hu:X.A.units+1<cLine) (ho:bE X o td) (hi:bE X i ty) (hs:YS i:=by exact fun _ _=>rfl):bE X (.Subscript o i pos) (VI td ty):=by
 have ho:=ho.h;have hi:=hi.h;constructor
 intro pins s σ H Q I h
 refine WO PySem.F.slot_dict_getitem.lookup hs (bh (ho pins s σ H _ I h) fun u s1 ⟨x,H1,I1,rx,q1⟩=>bh (hi pins s1 σ H1 _ I1 q1) fun iv s2 ⟨y,H2,I2,ry,a,v,ex,g,q2⟩=>?_)
 subst ex
 obtain rfl:u=Value.ref a:=rx
 exact ⟨L3 I2 g,Q9 hu I2 g ry fun w' s3 I3 rw'=>⟨v,H2,I3,rw',q2⟩⟩
theorem aq:bA X [] qc:=⟨QZ⟩
theorem lZ {K:Fg} {pl:Sem Bool} {j k:Nat} {C:Addr} {m:Str} {ps:List Str} {sp:Sp} {o e:Expr} {es:List Expr} {ta:TE} {t:TA} {apos pos:Pos} (D:Mx P w K mg base j C m ps sp) (hr:dJ k (cM (f7 P w) P w K mg base N qual scope f cd A outer s0 H0 E).A) (ho:bE (cM (f7 P w) P w K mg base N qual scope f cd A outer s0 H0 E) o ta) (ha:bA (cM (f7 P w) P w K mg base N qual scope f cd A outer s0 H0 E) (e::es) t) (hj:j<=k:=by decide) (hst:starEach (e::es) (cM (f7 P w) P w K mg base N qual scope f cd A outer s0 H0 E).env=(false,eval e (cM (f7 P w) P w K mg base N qual scope f cd A outer s0 H0 E).env)::starEach es (cM (f7 P w) P w K mg base N qual scope f cd A outer s0 H0 E).env:=by rfl) (hpl:(backTo pos (starEach es (cM (f7 P w) P w K mg base N qual scope f cd A outer s0 H0 E).env)).any (·.1)=false:=by rfl) (ht:eval (.Call (.Attribute o m apos) (e::es) [] pos) (cM (f7 P w) P w K mg base N qual scope f cd A outer s0 H0 E).env=(do
   let ov <-eval o (cM (f7 P w) P w K mg base N qual scope f cd A outer s0 H0 E).env
   standAt apos.atName
   let (f2,first) <-holding [ov] (getMethod ov m pl)
   callWith pos f2 first (backTo pos (starEach (e::es) (cM (f7 P w) P w K mg base N qual scope f cd A outer s0 H0 E).env)) (backToKw pos (keywordEach [] (cM (f7 P w) P w K mg base N qual scope f cd A outer s0 H0 E).env))):=by rfl):bE (cM (f7 P w) P w K mg base N qual scope f cd A outer s0 H0 E) (.Call (.Attribute o m apos) (e::es) [] pos) (Cg C m sp [] E ta t):=by
 have ho:=ho.h;have ha:=ha.h;constructor
 obtain ⟨f',fd,F,b,hm,c⟩:=D.ex
 exact NI (pl:=pl) ho c hm F (hr.mono hj) b .nil VY ha hst hpl ht
theorem ak {i j pos}:bE X (.Constant (.int i) j pos) (tC (.int i)):=by
 exact ⟨fun _ _ _ H _ I h=>wpAny_Constant_int ⟨.int i,H,I.tok _,⟨_,Z⟩,h⟩⟩
theorem ZI {rest:List Expr} (ha:bE X a ta) (hb:bE X (.BoolOp .And (b::rest) pos) tb):bE X (.BoolOp .And (a::b::rest) pos) (abr ta tb):=by
 have ha:=ha.h;have hb:=hb.h;constructor
 intro pins s σ H Q I h
 refine BoolOp_and (bh (ha pins s σ H _ I h) fun v s1 ⟨x,H1,I1,r1,q1⟩=>?_)
 obtain ⟨c,rfl,q1⟩:=q1
 cases r1
 refine D0 ?_
 cases c with
 | true=>exact hb pins s1 σ H1 Q I1 q1
 | false=>exact ⟨.bl false,H1,I1,Z,q1⟩
theorem qy:bE X (.Dict [] [] pos) YW:=by
 exact ⟨fun pins s σ H Q I h=>
 wpAny_Dict_empty ⟨.ref s.heap.objs.size,_,I.laid (a:=s.heap.objs.size) (o:= .dK []) (t':=s.toks) (fun _ _ q=>b7 _ q) (aN _) (Bg s.heap I.big),Z,h _ (I.hok.fresh (aN _))⟩⟩
theorem mS {tg e:Expr} {te:TE} {g:TG} (he:bE X e te) (hg:bG X tg g) (hs:swapsWithSole [tg] e pos.line X.env=pure false:=by rfl) (hw:swappedStores [tg] e X.env=pure none:=by rfl) (h1:(assignEach [tg] X.env).map (·.2)=[assign tg X.env] :=by rfl):bS X (.Assign [tg] e pos) (Tp te g):=by
 have he:=he.h;have hg:=hg.h;constructor
 intro pins s σ H D I h
 refine wpAny_Assign_stores (bh (he pins s σ H _ I h) fun v s1 ⟨x,H1,I1,r1,q1⟩=>?_) hs hw
 rw [h1]
 exact bh (hg pins s1 σ H1 x v _ I1 r1 q1) fun _ s2 q=>q
theorem ya {elts:List Expr} {kk:Nat} {tpos:Pos} {ob:Expr} {td:TE} {apos cpos:Pos} (hob:bE X ob td) (hbase:attributeBase ob "items" X.env (eval ob X.env)=eval ob X.env:=by rfl) (hline:(apos.endLine==cpos.line)=true:=by rfl):bI X (.Tuple elts kk tpos) (.Call (.Attribute ob "items" apos) [] [] cpos) (Zb td):=by
 have hob:=hob.h;constructor
 intro pins s σ H R I h
 refine wpAny_Call_method0_late hbase hline (bh (hob pins s σ H _ I h) fun v s1 ⟨x,H1,I1,r1,q1⟩=>?_)
 obtain ⟨d,o,kvs,rfl,e,fin⟩:=q1
 cases r1
 obtain ⟨ho,hz,hsys,vs,ep,rel,da⟩:=I1.qX e
 obtain ⟨t1,t2,_⟩:=Jh I1 (.inl ⟨kvs, .inr ⟨o,e⟩⟩)
 have dd:=da.dictOf
 refine ⟨"dict",_,F.plainAttrs_dict,F.slot_dict_items,F.type_dict_items,t1,t2,OQ rfl (PySem.evalArgs_none ?_)⟩
 refine call_meetsIn F.slot_dict_items dd.typeIs F.entry_dict_items (F.args_dict_items_1 _) (meets_dict_items (cY X.prog X.w) d hsys) ⟨⟨vs,dd⟩,?_⟩
 refine wpAny_pyIter_items (s:={ s1 with heap:=s1.heap.push { cls:= .type "dict_items",data:= .fields #[.ref d] } }) ⟨_,eL _ rfl,Z,Z⟩ (da.push _) ?_
 have Iv:Inv X pins σ H1 { s1 with heap:=s1.heap.push { cls:= .type "dict_items",data:= .fields #[.ref d] } }:=I1.kept (t':=s1.toks) fun b o e=>b7 _ e
 generalize ({ s1 with heap:=s1.heap.push { cls:= .type "dict_items",data:= .fields #[.ref d] } }:Shared)=sv at *
 have I2:Inv X pins σ H1 { sv with heap:=sv.heap.push { cls:= .type "dict_itemiterator",data:= .fields #[.none, .bool false, .ref d, .int 0 0, .int vs.length 0, .int ep 0, .none, .none] } }:=Iv.kept (t':=sv.toks) fun b o e=>b7 _ e
 have hl:kvs.length=vs.length:=rel.length
 obtain ⟨o',es,h1,_,h2,_⟩:=id da
 rw [ho] at h1;cases h1
 refine ⟨sv.heap.objs.size,[sv.heap.objs.size],_,_,H1,Z,I2,Pz h2,?_,fun b hb=>?_,fin⟩
 . rw [hl];exact ⟨_,_,eL _ rfl⟩
 . have eb:b=sv.heap.objs.size:=by simpa using hb
   subst eb
   exact Iv.Bd (aN _) (Iv.hok.fresh (aN _))
theorem ZJ {tg:Expr} {l:Expr} {tl:TE} (hl:bE X l tl):bI X tg l (Y5 tl):=⟨Y6 hl.h⟩
theorem CZ (ha:bT X a tA):bW X (.BoolOp .Or [a] pos) tA:=by
 have ha:=ha.h;constructor
 intro wh pins s σ H Q I h
 refine isTrue_or (bh (ha pins s σ H Q I h) fun c s1 e=>?_)
 cases c with
 | false=>exact isTrue_or_nil e
 | true=>exact e
theorem wW {X:Cx} {st:Stmt} {t:TS} (h:bS X st t):bS X st (afr t):=by
 have h:=h.h;constructor
 intro pins s σ H D I hw
 obtain ⟨d,kvs,e,hw⟩:=hw
 obtain ⟨ho,es,ep,h1,_⟩:=(xN I.hok e).2.2.choose_spec.2
 have h0:=I.RB e
 refine bh (h pins s σ _ _ (I.freeze e h1) (hw ho)) fun f s' q=>?_
 cases f with
 | next=>obtain ⟨σ',H',I',q1,q2⟩:=q;exact ⟨σ',_,I'.Bk q1 h0,q2⟩
 | brk=>obtain ⟨σ',H',I',q1,q2⟩:=q;exact ⟨σ',_,I'.Bk q1 h0,q2⟩
 | cont=>obtain ⟨σ',H',I',q1,q2⟩:=q;exact ⟨σ',_,I'.Bk q1 h0,q2⟩
 | ret u=>obtain ⟨v,σ',H',I',r,q1,q2⟩:=q;exact ⟨v,σ',_,I'.Bk q1 h0,r,q2⟩
theorem tR (hu:X.A.units+1<cLine) (ho:bE X o td) (hi:bE X i ty) (hv:bE X value tv) (hs:swapsWith value (some (.Subscript o i pos')) pos.line X.env=pure false):bS X (.Assign [.Subscript o i pos'] value pos) (abM td ty tv):=by
 have ho:=ho.h;have hi:=hi.h;have hv:=hv.h;constructor
 intro pins s σ H D I h
 refine wpAny_Assign_Subscript (bh (hv pins s σ H _ I h) fun r s1 ⟨v,H1,I1,rv,q1⟩=>bh (ho pins s1 σ H1 _ I1 q1) fun u s2 ⟨x,H2,I2,rx,q2⟩=>bh (hi pins s2 σ H2 _ I2 q2) fun iv s3 ⟨y,H3,I3,ry,a,H4,ex,g,q3⟩=>?_) hs
 subst ex
 obtain rfl:u=Value.ref a:=rx
 exact Q_ hu I3 g ry rv fun s4 I4=>⟨σ,H4,I4,q3⟩
theorem qv (i:Nat) {x:Str} {pos:Pos} (hN:X.N[i]?=some x:=by rfl) (hv:Vx X.env.scope x:=by first|exact Or.inl rfl|exact Or.inr (Or.inl rfl)|exact Or.inr (Or.inr rfl)) (hd:(x==("__debug__":Str))=false:=by decide) (hcd:(x==("__classdict__":Str))=false:=by decide):bE X (.Name x pos) (IT i):=by
 exact ⟨X8 hN hv hd hcd⟩
theorem bJ {id:String} (hc:je X (.builtin id) r) (hg:Gl X x) (hm:X.mg x=none) (hv:bootBuiltins x=some (.builtin id)) (ha:bA X (e::es) t) (hn:x ≠ "__name__":=by decide) (hdb:(x==("__debug__":Str))=false:=by decide) (he:starEach (e::es) X.env=(false,eval e X.env)::starEach es X.env:=by rfl) (hpl:(backTo pos (starEach es X.env)).any (·.1)=false:=by rfl):bE X (.Call (.Name x p) (e::es) [] pos) (YH r t):=by
 have ha:=ha.h;constructor
 intro pins s σ H Q I h
 refine ID (wu I hg hm hv ?_ hn hdb)
 exact PyProof.Rows.callWith_builtin1 (bh (ha pos pins s σ H _ I h) fun us s1 ⟨vs,H1,I1,r1,q1⟩=>hc pins s1 σ H1 vs us Q I1 r1 q1) he hpl
theorem kg {K:Fg} {x:Str} {C:Addr} {t:Str} {kd:Nat} {p0 p1 cpos pos:Pos} (oc:gR K C) (hg:Gl (cM (f7 P w) P w K mg base N qual scope f cd A outer s0 H0 E) x) (hm:mg x=some (.ref C)) (hd:(x==("__debug__":Str))=false:=by decide):bS (cM (f7 P w) P w K mg base N qual scope f cd A outer s0 H0 E) (.Raise (some (.Call (.Name x p0) [.Constant (.str t) kd p1] [] cpos)) none pos) (ZA C E):=by
 constructor
 intro pins s σ H D I h
 obtain ⟨nm,q,Nn,bs,bm,hdct,sn,sub,ab,col,dd,k0,k1,k2,k3,k5,mN,hni,hb,fx⟩:=oc.ex
 refine wpAny_Raise_call_subT (bm:=bm) (C:=C) (nm:=nm) (q:=q) (N:=Nn) (bs:=bs) (hdct:=hdct) (sn:=sn) (sub:=sub) (ab:=ab) (col:=col) (dd:=dd) (k0:=k0) (k1:=k1) (k2:=k2) (k3:=k3) (k5:=k5) F.excBase_ValueError hb (I.ok.hd rfl) rfl hni ?_
 refine wm I hg hm ⟨Z,?_⟩ hd
 have pa:PA (cM (f7 P w) P w K mg base N qual scope f cd A outer s0 H0 E) [.Constant (.str t) kd p1] (Ik (tC (.str t)) qc):=NG QK QZ
 refine PySem.Calls.evalArgs_plain (bh (pa cpos pins s σ H (fun vs H1=>vs.length=1/\H1=H) I ⟨Z,Z⟩) fun us s1 ⟨vs,H1,I1,r,hv,e⟩=>?_)
 subst e
 obtain ⟨hC,hN,T⟩:=fx s1.heap I1.sU
 exact ⟨Z,by show us.length<=sizeLine;rw [<-r.length,hv,jI];decide,hC,hN,T,fun h' e hm=>PM I1 hm (h e)⟩
theorem mT {o i:Expr} {to ti:TE} {t:rW} (ho:bE X o to) (hi:bE X i ti) (hs:To X t) (ha:∀v,assign (.Subscript o i pos) X.env v=(do
   let ov <-holding [v] (eval o X.env)
   let iv <-holding [v,ov] (eval i X.env)
   standAt pos
   holding [v,ov,iv] (setItem ov iv v)
   release [v,ov,iv] []):=by intro _;rfl):bG X (.Subscript o i pos) (ae6 to ti t):=by
 have ho:=ho.h;have hi:=hi.h;constructor
 intro pins s σ H v u Q I r h
 rw [ha]
 refine az (xE (bh (ho pins s σ H _ I h) fun ov s1 ⟨x,H1,I1,r1,q1⟩=>?_))
 refine az (xE (bh (hi pins s1 σ H1 _ I1 q1) fun iv s2 ⟨y,H2,I2,r2,q2⟩=>?_))
 refine az (xD (az (xE (bh (hs pins s2 σ H2 x y v ov iv u _ I2 r1 r2 r q2) fun _ s3 ⟨H3,I3,q3⟩=>?_))))
 exact wpAny_release ⟨σ,H3,I3,q3⟩
theorem qz {st:Stmt}:bS X st Yd:=by
 exact ⟨fun _ _ _ _ _ _ h=>h.elim⟩
theorem C0 {j k:Nat} {x:Str} {C:Addr} {ps:List Str} {sp:Sp} {p pos:Pos} (D:Cn X.prog X.w X.K X.mg X.base j x C ps sp) (hr:dJ k X.A) (hj:j+1<=k:=by decide) (hg:Gl X x:=by rfl) (hdb:(x==("__debug__":Str))=false:=by decide):bE X (.Call (.Name x p) [] [] pos) (Il C sp [] E0 qc):=by
 constructor
 obtain ⟨f,fd,F,b,M,m⟩:=D.ex
 exact TR M F (hr.mono hj) hg m b .nil (fun _ _ _ _ _ _ _ h=>h.elim) hdb
theorem af (ha:bE X e te) (hr:bA X es t) (hs:starEach (e::es) X.env=(false,eval e X.env)::starEach es X.env:=by rfl):bA X (e::es) (Ik te t):=⟨NG ha.h hr.h hs⟩
theorem aJ (K:Fg) {e:Expr} {f:Str} {ta:TE} {pos:Pos} (he:bE X e ta) (hb:attributeBase e f X.env (eval e X.env)=eval e X.env:=by rfl) (hK:X.K=K:=by rfl):bE X (.Attribute e f pos) (Yv K ta f):=by
 have he:=he.h;exact ⟨hK▸Yy he hb⟩
theorem wX {op:CmpOp} {r:R2} (ho:jm X (compareOp op) r) (ha:bE X a ta) (hb:bE X b tb) (hm:behindInMarks op b=false):bE X (.Compare a [op] [b] pos) (Nz r ta tb):=by
 have ha:=ha.h;have hb:=hb.h;constructor
 intro pins s σ H Q I h
 exact wpAny_Compare1 (Tz ha hb I h fun v u s2 x y H2 I2 rx ry q=>ho pins s2 σ H2 x y v u Q I2 rx ry q) hm
theorem bX {j k:Nat} {x:Str} {ps:List Str} {sp:Sp} {e:Expr} {es:List Expr} {t:TA} {p pos:Pos} (D:Dn X.prog X.w X.K X.mg X.base j x ps sp) (hr:dJ k X.A) (ha:bA X (e::es) t) (hj:j<=k:=by decide) (hg:Gl X x:=by rfl) (hdb:(x==("__debug__":Str))=false:=by decide) (he:starEach (e::es) X.env=(false,eval e X.env)::starEach es X.env:=by rfl) (hpl:(backTo pos (starEach es X.env)).any (·.1)=false:=by rfl):bE X (.Call (.Name x p) (e::es) [] pos) (Ph sp [] E0 t):=by
 have ha:=ha.h;constructor
 obtain ⟨f,fd,F,b,kp,m⟩:=D.ex
 exact NH F (hr.mono hj) hg m kp b .nil (fun _ _ _ _ _ _ _ h=>h.elim) ha hdb he hpl
theorem rQ {rest:List Expr} (ha:bT X a tA) (hb:bW X (.BoolOp .And (b::rest) pos) VA):bW X (.BoolOp .And (a::b::rest) pos) (ae1 tA VA):=by
 have ha:=ha.h;have hb:=hb.h;constructor
 intro wh pins s σ H Q I h
 refine isTrue_and (bh (ha pins s σ H _ I h) fun c s1 ⟨H1,I1,q1⟩=>?_)
 cases c with
 | true=>exact hb wh pins s1 σ H1 Q I1 q1
 | false=>exact ⟨H1,I1,q1⟩
section
variable {P:Program} {w:World} {K:Fg} {mg:SO} {base:Heap} {f C:Addr} {fd:FuncData} {N ps:List Str} {k:Nat} {sp:Sp} {x m qual:Str} {st:Stmt}
theorem dP {N P:List Str} {sc:Scope} (a:sc.kind = .function:=by rfl) (b:sc.isCoroutine=false:=by rfl) (c:sc.isGenerator=false:=by rfl) (d:N.Nodup:=by decide +kernel) (e:N.take P.length=P:=by rfl) (f:∀x∈P,sc.names.lookup x=some .local\/sc.names.lookup x=some .cell:=by decide +kernel) (g:∀y∈sc.names,y.2 ≠ .free:=by decide +kernel):aR N P sc:=⟨a,b,c,d,e,f,g⟩
theorem At.oA (F:At K mg x st f fd) (S:aR N ps (aE st))
  (hbody:∀(cdv:Value) (A:Around) (outer:List Env) (s:Shared) (H:Hp) (vs:List V) (Q:VK) (E:XK),dJ k (A.deeper (envOfC x (aE st) s.heap.objs.size f cdv))->sp vs H Q E->
    ∃t,p7 (cM sV P w K mg base N x (aE st) f cdv A outer s H E).AJ (cJ st) t/\t { nx:=fun _ H'=>Q .b9 H',rt:=Q } (start N vs) H)
  (len:∀vs H Q E,sp vs H Q E->vs.length=ps.length:=by intro vs H Q E h;first|(cases h.ex;subst_vars;rfl)|(have h:=h.ex;(repeat first|(obtain ⟨rfl,_⟩:=h;rfl)|(obtain ⟨_,h⟩:=h));done)|(repeat first|(obtain ⟨rfl,_⟩:=h;rfl)|(obtain ⟨_,h⟩:=h)))
  (h:∀(kV doc pm:Value) (an:Option Addr) (cdv ct:Value) (us:List Value),us.length=ps.length->bindArgs (PySem.W.fnOf x x (d8 st) (cJ st) (aE st) .none kV doc pm an cdv ct) ⟨us,[]⟩=pure (ps.zip us):=by intro _ _ _ _ _ _ us hl;repeat' (first|rfl|(simp at hl;done)|(rcases us with _|⟨_,us⟩))):Dn P w K mg base (k+1) x ps sp:=F.ok S len hbody h
theorem At.yC (F:At K mg x st f fd) (S:aR N ps (aE st))
  (hbody:∀(cdv:Value) (A:Around) (outer:List Env) (s:Shared) (H:Hp) (vs:List V) (Q:VK) (E:XK),dJ k (A.deeper (envOfC x (aE st) s.heap.objs.size f cdv))->sp vs H Q E->
    ∃t,p7 (cM (f7 P w) P w K mg base N x (aE st) f cdv A outer s H E) (cJ st) t/\t { nx:=fun _ H'=>Q .b9 H',rt:=Q } (start N vs) H)
  (len:∀vs H Q E,sp vs H Q E->vs.length=ps.length:=by intro vs H Q E h;first|(cases h.ex;subst_vars;rfl)|(have h:=h.ex;(repeat first|(obtain ⟨rfl,_⟩:=h;rfl)|(obtain ⟨_,h⟩:=h));done)|(repeat first|(obtain ⟨rfl,_⟩:=h;rfl)|(obtain ⟨_,h⟩:=h)))
  (h:∀(kV doc pm:Value) (an:Option Addr) (cdv ct:Value) (us:List Value),us.length=ps.length->bindArgs (PySem.W.fnOf x x (d8 st) (cJ st) (aE st) .none kV doc pm an cdv ct) ⟨us,[]⟩=pure (ps.zip us):=by intro _ _ _ _ _ _ us hl;repeat' (first|rfl|(simp at hl;done)|(rcases us with _|⟨_,us⟩))):Dx P w K mg base (k+1) x ps sp:=F.ZC S len hbody h
theorem gI.oA (F:gI K C m qual st f fd) (S:aR N ps (aE st))
  (hbody:∀(cdv:Value) (A:Around) (outer:List Env) (s:Shared) (H:Hp) (vs:List V) (Q:VK) (E:XK),dJ k (A.deeper (envOfC qual (aE st) s.heap.objs.size f cdv))->sp vs H Q E->
    ∃t,p7 (cM sV P w K mg base N qual (aE st) f cdv A outer s H E).AJ (cJ st) t/\t { nx:=fun _ H'=>Q .b9 H',rt:=Q } (start N vs) H)
  (len:∀vs H Q E,sp vs H Q E->vs.length=ps.length:=by intro vs H Q E h;first|(cases h.ex;subst_vars;rfl)|(have h:=h.ex;(repeat first|(obtain ⟨rfl,_⟩:=h;rfl)|(obtain ⟨_,h⟩:=h));done)|(repeat first|(obtain ⟨rfl,_⟩:=h;rfl)|(obtain ⟨_,h⟩:=h)))
  (h:∀(kV doc pm:Value) (an:Option Addr) (cdv ct:Value) (us:List Value),us.length=ps.length->bindArgs (PySem.W.fnOf m qual (d8 st) (cJ st) (aE st) .none kV doc pm an cdv ct) ⟨us,[]⟩=pure (ps.zip us):=by intro _ _ _ _ _ _ us hl;repeat' (first|rfl|(simp at hl;done)|(rcases us with _|⟨_,us⟩))):Mn P w K mg base (k+1) C m ps sp:=F.ok S len hbody h
theorem gI.yC (F:gI K C m qual st f fd) (S:aR N ps (aE st))
  (hbody:∀(cdv:Value) (A:Around) (outer:List Env) (s:Shared) (H:Hp) (vs:List V) (Q:VK) (E:XK),dJ k (A.deeper (envOfC qual (aE st) s.heap.objs.size f cdv))->sp vs H Q E->
    ∃t,p7 (cM (f7 P w) P w K mg base N qual (aE st) f cdv A outer s H E) (cJ st) t/\t { nx:=fun _ H'=>Q .b9 H',rt:=Q } (start N vs) H)
  (len:∀vs H Q E,sp vs H Q E->vs.length=ps.length:=by intro vs H Q E h;first|(cases h.ex;subst_vars;rfl)|(have h:=h.ex;(repeat first|(obtain ⟨rfl,_⟩:=h;rfl)|(obtain ⟨_,h⟩:=h));done)|(repeat first|(obtain ⟨rfl,_⟩:=h;rfl)|(obtain ⟨_,h⟩:=h)))
  (h:∀(kV doc pm:Value) (an:Option Addr) (cdv ct:Value) (us:List Value),us.length=ps.length->bindArgs (PySem.W.fnOf m qual (d8 st) (cJ st) (aE st) .none kV doc pm an cdv ct) ⟨us,[]⟩=pure (ps.zip us):=by intro _ _ _ _ _ _ us hl;repeat' (first|rfl|(simp at hl;done)|(rcases us with _|⟨_,us⟩))):Mx P w K mg base (k+1) C m ps sp:=F.ZC S len hbody h
theorem FF.oA (F:FF K mg x C qual st f fd) (S:aR N ps (aE st))
  (hbody:∀(cdv:Value) (A:Around) (outer:List Env) (s:Shared) (H:Hp) (vs:List V) (Q:VK) (E:XK),dJ k (A.deeper (envOfC qual (aE st) s.heap.objs.size f cdv))->sp vs H Q E->
    ∃t,p7 (cM sV P w K mg base N qual (aE st) f cdv A outer s H E).AJ (cJ st) t/\t { nx:=fun _ H'=>Q .b9 H',rt:=Q } (start N vs) H)
  (len:∀vs H Q E,sp vs H Q E->vs.length=ps.length:=by intro vs H Q E h;first|(cases h.ex;subst_vars;rfl)|(have h:=h.ex;(repeat first|(obtain ⟨rfl,_⟩:=h;rfl)|(obtain ⟨_,h⟩:=h));done)|(repeat first|(obtain ⟨rfl,_⟩:=h;rfl)|(obtain ⟨_,h⟩:=h)))
  (h:∀(kV doc pm:Value) (an:Option Addr) (cdv ct:Value) (us:List Value),us.length=ps.length->bindArgs (PySem.W.fnOf "__init__" qual (d8 st) (cJ st) (aE st) .none kV doc pm an cdv ct) ⟨us,[]⟩=pure (ps.zip us):=by intro _ _ _ _ _ _ us hl;repeat' (first|rfl|(simp at hl;done)|(rcases us with _|⟨_,us⟩))):Cn P w K mg base (k+1) x C ps sp:=F.ok S len hbody h
end
inductive acg (e:Ec) (vs:List V) (H:Hp) (Q:VK) (E:XK):Prop
 | mk (a:Int) (_:vs=[.int a]) (_:(a<1->Rf e E H 5)) (_:(1<=a->Q .b9 H))
def zO (e:Ec):Sp:=bx (acg e)
inductive ach (e:Ec) (vs:List V) (H:Hp) (Q:VK) (E:XK):Prop
 | mk (m a:Int) (_:vs=[.int m, .int a]) (_:(a<1->Rf e E H 5)) (_:(1<=a->m<a->Rf e E H 6)) (_:(1<=a->a<=m->Q .b9 H))
def J1 (e:Ec):Sp:=bx (ach e)
inductive UB (T:TC) (e:Ec) (vs:List V) (H:Hp) (Q:VK) (E:XK):Prop
 | mk (n ρ A st x a:_) (_:vs=[.ref A.a, .str x, .int a]) (_:HH T n ρ A H st) (_:Gb T e n ρ A H (jQ st (x,a)) (c7 st (x,a)) Q E)
def Ge (T:TC) (e:Ec):Sp:=bx (UB T e)
inductive ZK (T:TC) (e:Ec) (vs:List V) (H:Hp) (Q:VK) (E:XK):Prop
 | mk (n ρ A st x a:_) (_:vs=[.ref A.a, .str x, .int a]) (_:HH T n ρ A H st) (_:Gb T e n ρ A H (m_ st x a:_) (Iq st x a:_) Q E)
def N9 (T:TC) (e:Ec):Sp:=bx (ZK T e)
theorem ZL {P:Program} {w:World} {K:Fg} {mg:SO} {base:Heap} {k:Nat} {e:Ec} {ps:List Str} (D:Dx P w K mg base k "check_amount" ps (zO e)):Dn P w K mg base k "check_amount" ps ab3:=
 D.dn fun vs H Q E h=>by
   obtain ⟨⟨a,rfl,h1,q⟩⟩:=h
   exact ⟨a,Z,fun z=>absurd z (by omega),fun _=>q⟩
theorem ZM {P:Program} {w:World} {K:Fg} {mg:SO} {base:Heap} {k:Nat} {e:Ec} {ps:List Str} (D:Dx P w K mg base k "check_loss" ps (J1 e)):Dn P w K mg base k "check_loss" ps VW:=
 D.dn fun vs H Q E h=>by
   obtain ⟨⟨m,a,rfl,h1,h2,q⟩⟩:=h
   exact ⟨m,a,Z,fun z=>absurd z (by omega),fun _ z=>absurd z (by omega),fun _ _=>q⟩
theorem kU {st:HS} {x:Str} (h:x∈eU st):∃(i:Nat) (p:Pt),st.aj[i]?=some p/\p.nm=x:=by
 obtain ⟨p,hp,e⟩:=bH.mp h
 obtain ⟨i,hi,ei⟩:=yN hp
 exact ⟨i,p,by rw [bD hi,ei],e⟩
theorem Ax {st:HS} {i:Nat} {p:Pt} (h:st.aj[i]?=some p):p.nm∈eU st:=bH.mpr ⟨p,cg h,Z⟩
theorem C3 {α:Type} {nm:α->Str} {f:α->α}:∀{l:List α} {i:Nat} {p:α},(l.map nm).Nodup->l[i]?=some p->(l.map fun q=>if nm q=nm p then f q else q)=l.set i (f p)
 | [],_,_,_,h=>by simp at h
 | a::l,0,p,nd,h=>by
   have e:a=p:=by simpa using h
   subst e
   obtain ⟨h1,_⟩:=fP.mp (show (nm a::l.map nm).Nodup from nd)
   rw [bw,aD rfl,OZ]
   congr 1
   refine (vI (g:=id) (fun q hq=>aB fun z=>h1 (bH.mpr ⟨q,hq,z⟩))).trans (List.map_id l)
 | a::l,i+1,p,nd,h=>by
   obtain ⟨h1,h2⟩:=fP.mp (show (nm a::l.map nm).Nodup from nd)
   have h':l[i]?=some p:=by simpa using h
   rw [bw,aB (fun z=>h1 (bH.mpr ⟨p,cg h',z.symm⟩)),IG,C3 h2 h']
theorem qA {st:HS} (nd:(st.aj.map (·.nm)).Nodup) {i:Nat} {p:Pt} (h:st.aj[i]?=some p) (f:Pt->Pt):pC st p.nm f={ st with aj:=st.aj.set i (f p) }:=by
 unfold pC
 rw [C3 (nm:=fun p:Pt=>p.nm) nd h]
theorem zP {st:HS} (wf:Wf st) {x:Str} {f:Pt->Pt} (h:∀p∈st.aj,p.nm=x->(f p).nm=p.nm/\(f p).ow=p.ow/\(f p).sc=p.sc/\(f p).row=p.row/\1<=(f p).wo/\0<=(f p).we):Wf (pC st x f):=by
 have P:∀{M:Pt->Prop},(∀p∈st.aj,p.nm=x->M (f p))->(∀p∈st.aj,M p)->∀p∈(pC st x f).aj,M p:=fun a c p hp=>by
  obtain ⟨q,hq,rfl⟩:=bH.mp (show p∈st.aj.map _ from hp)
  by_cases e:q.nm=x
  . rw [aD e];exact a q hq e
  . rw [aB e];exact c q hq
 have en:(pC st x f).aj.map (fun p:Pt=>p.nm)=st.aj.map (fun p:Pt=>p.nm):=by
  show (st.aj.map _).map _=_
  rw [fR]
  refine vI fun p hp=>?_
  show (if p.nm=x then f p else p).nm=p.nm
  by_cases e:p.nm=x
  . rw [aD e];exact (h p hp e).1
  . rw [aB e]
 refine ⟨wf.nN,wf.xU,?_,P (fun p hp e=>?_) wf.sub,P (fun p hp e=>?_) wf.rows,P (fun p hp e=>?_) wf.ow,wf.fV,wf.nO,wf.d9,wf.oX,wf.ud,wf.j8,wf.xV,?_,wf.zg,wf.ue,wf.FI,wf.big,wf.nP,P (fun p hp e=>?_) wf.oY,P (fun p hp e=>?_) wf.mG,P (fun p hp e=>?_) wf.nQ,P (fun p hp e=>?_) wf.jr,wf.D7⟩
 . show ((pC st x f).aj.map (fun p:Pt=>p.nm)).Nodup;rw [en];exact wf.dh
 . show (f p).nm∈st.nms;rw [(h p hp e).1];exact wf.sub p hp
 . rw [(h p hp e).2.2.2.1];exact wf.rows p hp
 . show (f p).ow∈st.own;rw [(h p hp e).2.1];exact wf.ow p hp
 . show (st.aj.map _).length<=1000;rw [aH];exact wf.lD
 . rw [(h p hp e).2.2.1];exact wf.oY p hp
 . rw [(h p hp e).2.2.2.1];exact wf.mG p hp
 . rw [(h p hp e).2.2.2.1,(h p hp e).2.2.1];exact wf.nQ p hp
 . exact (h p hp e).2.2.2.2
theorem zQ {st:HS} {x:Str} {a:Int} (h:m_ st x a=none):x∈eU st/\1<=a:=by
 unfold m_ at h
 by_cases hm:x∈eU st
 . rw [aD hm] at h
   by_cases c:a<1
   . rw [aD c] at h;cases h
   . exact ⟨hm,by omega⟩
 . rw [aB hm] at h;cases h
structure P0 (st:HS):Prop where
 big:Jm.Sz 60 (aC st)
 prod:Jm.Sz 7900 st.prod
 bL:∀u∈st.bL,Jm.Sz 8900 u
 stp:st.stp.length<100
def kN (st:HS) (o:Str) (a:Int):List Int:=(List.replicate st.own.length 0).set (st.own.idxOf o) (a*st.prod)
inductive Xr (T:TC) (e:Ec) (vs:List V) (H:Hp) (Q:VK) (E:XK):Prop
 | mk (n ρ A st o a:_) (_:vs=[.ref A.a, .str o, .int a]) (_:HH T n ρ A H st) (_:P0 st) (_:Gb T e n ρ A H (lH st o a:_) (JW st o a:_) Q E)
def J3 (T:TC) (e:Ec):Sp:=bx (Xr T e)
theorem C4 {st:HS} {o:Str} {a:Int} (h:lH st o a=none):o∈st.own/\1<=a/\a<aC st:=by
 unfold lH at h
 split at h
 . split at h
   . cases h
   . split at h
     . cases h
     . exact ⟨by assumption,by omega,by omega⟩
 . cases h
theorem UC {st:HS} {o:Str} {a m:Int} (h:m∈kN st o a):m=0\/m=a*st.prod:=by
 rcases OM h with z|z
 . exact .inl (List.eq_of_mem_replicate z)
 . exact .inr z
theorem UD (st:HS) (o:Str) (a:Int):(kN st o a).length=st.own.length:=by unfold kN;rw [iL,nI]
theorem P0.blend {st:HS} {o:Str} {a:Int} (w:P0 st) (wf:Wf st) (h1:1<=a) (h2:a<aC st):qm st (aC st-a) (aC st) a (kN st o a):=by
 have p1:=wf.d9
 refine ⟨by omega,by omega,by omega,by rw [UD,wf.fV],fun m hm=>?_,w.prod,w.big,w.bL,w.stp⟩
 have:0<=a*st.prod:=oM (by omega) (by omega)
 rcases UC hm with z|z <;> omega
theorem UE (n j:Nat):(List.replicate n (0:Int)).getD j 0=0:=by
 rw [mw,List.getElem?_replicate]
 split <;> rfl
inductive Xs (T:TC) (e:Ec) (vs:List V) (H:Hp) (Q:VK) (E:XK):Prop
 | mk (n ρ A st x y a we:_) (_:vs=[.ref A.a, .str x, .str y, .int a, .int we]) (_:HH T n ρ A H st) (_:y.cps.toList.length<=100000) (_:st.nms.length<1000) (_:st.aj.length<1000) (_:Gb T e n ρ A H (jx st x y a we:_) (pD st x y a we:_) Q E)
def J4 (T:TC) (e:Ec):Sp:=bx (Xs T e)
theorem gE {H:Hp} {a b:Addr} {o:HO} (h:upd H a o b=none):H b=none:=by
 by_cases z:b=a
 . rw [z,ah] at h;cases h
 . rw [au z] at h;exact h
theorem UG {st:HS} {y:Str} (h:newR st y=none):isNm y=true/\y∉st.nms:=by
 unfold newR at h
 split at h
 . split at h
   . cases h
   . exact ⟨by assumption,by assumption⟩
 . cases h
theorem l7 {st:HS} {x y:Str} {a we:Int} (h:jx st x y a we=none):x∈eU st/\(isNm y=true/\y∉st.nms)/\1<=a/\0<=we/\a<(bO st x).wo/\we<=(bO st x).we:=by
 unfold jx at h
 split at h
 . cases hf:newR st y with
   | some j=>rw [hf] at h;cases h
   | none=>
     rw [hf] at h
     have h':(if a<1\/we<0 then some 5 else if (bO st x).wo<=a\/(bO st x).we<we then some 6 else none)=none:=h
     split at h'
     . cases h'
     . split at h'
       . cases h'
       . exact ⟨by assumption,UG hf,by omega,by omega,by omega,by omega⟩
 . cases h
theorem J5 {st:HS} {x y:Str} {a we:Int} (wf:Wf st) (h:jx st x y a we=none) (h2:st.nms.length<1000) (h3:st.aj.length<1000):Wf (pD st x y a we):=by
 obtain ⟨hx,⟨_,hy⟩,h4,h5,h6,h7⟩:=l7 h
 obtain ⟨i,p0,ei,e0⟩:=kU hx
 have hp:=cg ei
 have eg:=cN wf hp e0
 have w1:Wf (pC st x fun p=>{ p with wo:=p.wo-a,we:=p.we-we }):=zP wf fun p gF e=>by
  rw [tN wf gF hp (e.trans e0.symm)]
  rw [eg] at h6 h7
  exact ⟨Z,Z,Z,Z,by show 1<=p0.wo-a;omega,by show 0<=p0.we-we;omega⟩
 unfold pD
 rw [eg]
 exact NW w1 hy h2 (by show (st.aj.map _).length<1000;rw [aH];exact h3) (wf.rows p0 hp) (wf.ow p0 hp) (wf.oY p0 hp) (wf.mG p0 hp) (wf.nQ p0 hp) ⟨h4,h5⟩
theorem ZN {P:Program} {w:World} {K:Fg} {mg:SO} {base:Heap} {k:Nat} {T:TC} {e:Ec} {ps:List Str} (D:Mx P w K mg base k T.hold "check_new" ps (vQ T e)):Mn P w K mg base k T.hold "check_new" ps (CK T):=
 D.mn fun vs H Q E h=>by
   obtain ⟨⟨n,ρ,A,st,x,rfl,h,h1,h2,q⟩⟩:=h
   have hn:newR st x=none:=by unfold newR;rw [aD h1,aB h2]
   refine ⟨n,ρ,A,st,x,Z,h,gf (qw h1) (by decide),fun i hi=>?_,fun _=>q⟩
   rw [hn] at hi;cases hi
inductive ZO (T:TC) (e:Ec) (vs:List V) (H:Hp) (Q:VK) (E:XK):Prop
 | mk (n ρ A st x o:_) (_:vs=[.ref A.a, .str x, .str o]) (_:HH T n ρ A H st) (_:∀p∈st.aj,(aS st p).sum=st.prod) (_:Gb T e n ρ A H (lW st x o:_) (fT st x o:_) Q E)
def N_ (T:TC) (e:Ec):Sp:=bx (ZO T e)
theorem vt {st:HS} {x o:Str} (h:lW st x o=none):x∈eU st/\o∈st.own:=by
 unfold lW at h
 split at h
 . split at h
   . exact ⟨by assumption,by assumption⟩
   . cases h
 . cases h
theorem J6:∀{l:List Int},(∀t∈l,0<=t)->0<=l.sum/\∀t∈l,t<=l.sum
 | [],_=>⟨kP _,fun t h=>by cases h⟩
 | a::l,h=>by
   obtain ⟨h1,h2⟩:=J6 (l:=l) fun t ht=>h t (cD _ ht)
   have h0:=h a cS
   refine ⟨by show 0<=a+l.sum;omega,fun t ht=>?_⟩
   show t<=a+l.sum
   rcases dz.mp ht with rfl|ht
   . omega
   . have:=h2 t ht;omega
theorem V2 {l:List Int} {i:Nat} {v:Int} (h:∀t∈l,0<=t) (hv:0<=v):∀t∈l.set i v,0<=t:=fun t ht=>by
 rcases OM ht with z|z
 . exact h t z
 . rw [z];exact hv
theorem Bt {l:List Int} (h:∀t∈l,0<=t) (i:Nat):0<=l.getD i 0:=by
 rw [mw]
 cases e:l[i]? with
 | none=>exact kP _
 | some v=>exact h v (cg e)
def Oa (l:List Int) (i j:Nat):List Int:=(l.set j (l.getD j 0+l.getD i 0)).set i 0
theorem Ej (l:List Int) (i j:Nat):(Oa l i j).length=l.length:=by unfold Oa;rw [iL,iL]
theorem Xu {l:List Int} {i j:Nat} (hi:i<l.length) (hj:j<l.length) (ne:i≠j):(Oa l i j).sum=l.sum:=by
 unfold Oa
 rw [sum_set _ _ _ (by rw [iL];exact hi),sum_set _ _ _ hj,Ug _ _ _ _ hj,aB ne]
 omega
theorem Xv {l:List Int} {i j:Nat} (h:∀t∈l,0<=t):∀t∈Oa l i j,0<=t:=
 V2 (V2 h (Int.add_nonneg (Bt h _) (Bt h _))) (kP _)
theorem J7 {st:HS} {tops:List Int} (h:tops.length=st.bz.length):List.zipWith (fun r c=>(1:Int)*r+c) (lE st tops) st.bz=tops:=by
 unfold lE
 generalize st.bz=cs at h
 induction tops generalizing cs with
 | nil=>rfl
 | cons t ts ih=>
   cases cs with
   | nil=>cases h
   | cons c cs=>
     have:=ih cs (Nat.succ.inj h)
     show (1*(t-c)+c)::_=t::ts
     rw [this]
     congr 1
     omega
theorem C5 {st:HS} (wf:Wf st) {p:Pt} (hp:p∈st.aj):(aS st p).length=st.own.length:=by
 unfold aS
 rw [kL,wf.rows p hp,wf.fV,xG]
def Ay (st:HS) (o:Str) (p:Pt):Pt:={ p with ow:=o,sc:=1,row:=lE st (lX st p o) }
theorem yb (st:HS) (p:Pt) (o:Str):lX st p o=Oa (aS st p) (st.own.idxOf p.ow) (st.own.idxOf o):=rfl
theorem Gf {st:HS} (wf:Wf st) {p:Pt} (hp:p∈st.aj) (o:Str):aS st (Ay st o p)=lX st p o:=by
 have:(lX st p o).length=st.bz.length:=by rw [yb,Ej,C5 wf hp,wf.fV]
 exact J7 this
theorem J8 {st:HS} (wf:Wf st) {p:Pt} (hp:p∈st.aj) {o:Str} (ho:o∈st.own) (ne:st.own.idxOf o≠st.own.idxOf p.ow) (hs:(aS st p).sum=st.prod):(∀t∈lX st p o,0<=t/\t<=st.prod)/\(lX st p o).sum=st.prod:=by
 have hl:=C5 wf hp
 have h1:st.own.idxOf p.ow<(aS st p).length:=by rw [hl];exact yH (wf.ow p hp)
 have h2:st.own.idxOf o<(aS st p).length:=by rw [hl];exact yH ho
 have hp0:=Xv (i:=st.own.idxOf p.ow) (j:=st.own.idxOf o) fun t ht=>(wf.nQ p hp t ht).1
 have hsum:=(Xu h1 h2 (bU ne)).trans hs
 rw [yb]
 exact ⟨fun t ht=>⟨hp0 t ht,by rw [<-hsum];exact (J6 hp0).2 t ht⟩,hsum⟩
theorem Ob {st:HS} {x o:Str} (wf:Wf st) (h:lW st x o=none) (hs:∀p∈st.aj,(aS st p).sum=st.prod):Wf (fT st x o):=by
 obtain ⟨hx,ho⟩:=vt h
 obtain ⟨i,p0,ei,e0⟩:=kU hx
 have hp:=cg ei
 have eg:=cN wf hp e0
 unfold fT
 by_cases ne:st.own.idxOf o=st.own.idxOf (bO st x).ow
 . rw [aD ne];exact wf
 rw [aB ne]
 rw [eg] at ne
 obtain ⟨ft,_⟩:=J8 wf hp ho ne (hs p0 hp)
 have uq:∀p∈st.aj,p.nm=x->p=p0:=fun p gF e=>tN wf gF hp (e.trans e0.symm)
 have P:∀{M:Pt->Prop},M (Ay st o p0)->(∀p∈st.aj,M p)->∀p∈(pC st x (Ay st o)).aj,M p:=fun a c p gF=>by
  obtain ⟨q,hq,rfl⟩:=bH.mp (show p∈st.aj.map _ from gF)
  by_cases e:q.nm=x
  . rw [aD e,uq q hq e];exact a
  . rw [aB e];exact c q hq
 have hl:(lX st p0 o).length=st.own.length:=by rw [yb,Ej,C5 wf hp]
 have en:(pC st x (Ay st o)).aj.map (fun p:Pt=>p.nm)=st.aj.map fun p:Pt=>p.nm:=by
  show (st.aj.map _).map _=_
  rw [fR]
  refine vI fun p _=>?_
  show (if p.nm=x then Ay st o p else p).nm=p.nm
  by_cases e:p.nm=x
  . rw [aD e];rfl
  . rw [aB e]
 have p1:=wf.d9
 refine ⟨wf.nN,wf.xU,?_,P (wf.sub p0 hp) wf.sub,P ?_ wf.rows,P ho wf.ow,wf.fV,wf.nO,wf.d9,wf.oX,wf.ud,wf.j8,wf.xV,?_,wf.zg,wf.ue,wf.FI,wf.big,wf.nP,P ⟨kP _,p1⟩ wf.oY,P ?_ wf.mG,P ?_ wf.nQ,P (wf.jr p0 hp) wf.jr,wf.D7⟩
 . show ((pC st x (Ay st o)).aj.map (fun p:Pt=>p.nm)).Nodup
   rw [en];exact wf.dh
 . show (lE st (lX st p0 o)).length=st.own.length
   unfold lE;rw [kL,hl,wf.fV,xG]
 . show (st.aj.map _).length<=1000
   rw [aH];exact wf.lD
 . intro r hr
   obtain ⟨t,ht,c,hc,rfl⟩:=uf (show r∈List.zipWith (fun t c=>t-c) (lX st p0 o) st.bz from hr)
   have a1:=ft t ht
   have a2:=wf.nP c hc
   exact ⟨by show -st.prod<=t-c;omega,by show t-c<=st.prod;omega⟩
 . intro t ht
   have:t∈lX st p0 o:=by rw [<-Gf wf hp];exact ht
   exact ft t this
theorem Oc:∀{l m:List Int} {a b:Int},l.length=m.length->(∀j,l.getD j 0*a=m.getD j 0*b)->l.sum*a=m.sum*b
 | [],[],_,_,_,_=>by show (0:Int)*_=0*_;rw [B9,B9]
 | x::l,y::m,a,b,e,h=>by
   have h0:x*a=y*b:=h 0
   have:=Oc (l:=l) (m:=m) (Nat.succ.inj e) fun j=>h (j+1)
   show (x+l.sum)*a=(y+m.sum)*b
   rw [uY,uY,h0,this]
theorem J9 {q0 q1:Addr×Addr×Addr}:∀{ps:List Pt} {qs:List (Addr×Addr×Addr)} {i:Nat},qs[i]?=some q0->q1.1=q0.1->bN ps (qs.set i q1)=bN ps qs
 | [],_,_,_,_=>by simp [bN]
 | _::_,[],_,h,_=>by simp at h
 | p::ps,q::qs,0,h,e=>by
   have:q=q0:=by simpa using h
   subst this
   show (_,V.ref q1.1)::_=(_,V.ref q.1)::_
   rw [e]
 | p::ps,q::qs,i+1,h,e=>by
   have:=J9 (ps:=ps) (qs:=qs) (i:=i) (q1:=q1) (by simpa using h) e
   show _::bN ps (qs.set i q1)=_::bN ps qs
   rw [this]
theorem aL.UH {T:TC} {n:Nat} {ρ:cR} {A:HA} {H:Hp} {st:HS} (h:aL T n ρ A H st) (g:Gh ρ H) {i:Nat} {p0 p1:Pt} {q0:Addr×Addr×Addr} {r:Addr} (ep:st.aj[i]?=some p0) (eq:A.qs[i]?=some q0) (e1:p1.nm=p0.nm) (cr:ρ r=some (n,21,p0.nm)) (hr:H r=some (.lst (p1.row.map V.int))) (nd:(st.aj.map (·.nm)).Nodup):
  aL T n ρ { A with qs:=A.qs.set i (q0.1,q0.2.1,r) } (upd H q0.1 (.ins T.part q0.2.1 (cQ p1 r))) { st with aj:=st.aj.set i p1 }:=by
 have c0:=(h.opt i p0 q0 ep eq).2.2.1
 have k:=dD (o:= .ins T.part q0.2.1 (cQ p1 r)) g c0
 have ZP:=fun {b:Addr} {u:Nat} {y:Str} {w:HO}=>ze (H:=H) (o:= .ins T.part q0.2.1 (cQ p1 r)) c0 (b:=b) (u:=u) (y:=y) (w:=w)
 obtain ⟨vs,h1,h2⟩:=h.mC
 obtain ⟨kvs,k1,k2,k3⟩:=h.okn
 refine ⟨kz k h.ca h.oa,h.ca,kz k h.fZ h.gQ,h.fZ,?_,h.eX,⟨vs,kz k h.gr h1,h2.keep k (by decide)⟩,h.gr,kz k h.gu h.mD,h.gu,kz k h.gv h.iQ,h.gv,kz k h.gx h.gU,h.gx,kz k h.cpu h.jq,h.cpu,kz k h.gy h.kT,h.gy,⟨kvs,kz k h.gC k1,fun p hp=>let ⟨t,r,e,q⟩:=k2 p hp;⟨t,r,e,k.1 _ _ q⟩,k3⟩,h.gC,?_,?_⟩
 . show _=some (HO.dK (bN (st.aj.set i p1) (A.qs.set i (q0.1,q0.2.1,r))))
   rw [J9 (q1:=(q0.1,q0.2.1,r)) eq rfl,Ar ep e1];exact kz k h.eX h.c_
 . show (A.qs.set i _).length=(st.aj.set i _).length
   rw [iL,iL];exact h.ql
 . intro j p q hp hq
   have hi:=(dO.mp ep).1
   have hi':=(dO.mp eq).1
   by_cases e:i=j
   . subst e
     rw [show ({ st with aj:=st.aj.set i p1 }:HS).aj=st.aj.set i p1 from rfl,p_ hi] at hp
     rw [show ({ A with qs:=A.qs.set i (q0.1,q0.2.1,r) }:HA).qs=A.qs.set i (q0.1,q0.2.1,r) from rfl,p_ hi'] at hq
     cases hp;cases hq
     exact ⟨ah,ZP cr (.inl (by decide)) hr,by rw [e1];exact c0,by rw [e1];exact cr⟩
   . rw [show ({ st with aj:=st.aj.set i p1 }:HS).aj=st.aj.set i p1 from rfl,yM e] at hp
     rw [show ({ A with qs:=A.qs.set i (q0.1,q0.2.1,r) }:HA).qs=A.qs.set i (q0.1,q0.2.1,r) from rfl,yM e] at hq
     obtain ⟨a1,a2,a3,a4⟩:=h.opt j p q hp hq
     exact ⟨ZP a3 (.inr fun z=>e (CG nd ep hp z.symm)) a1,ZP a4 (.inl (by decide)) a2,a3,a4⟩
theorem J_ {X:Cx}:Yk X (Pk X.K):=by
 intro pins s σ H x y v u Q I rx ry h
 obtain ⟨p,xs,i,z,rfl,rfl,hq,he,q⟩:=h
 cases rx
 obtain ⟨t,rfl⟩:=ry
 obtain ⟨its,r,pl,hz⟩:=I.list hq
 obtain ⟨j,h1,h2,h3,h4,h5⟩:=Am he
 obtain ⟨w,ew,rw'⟩:=r.get h2
 have hl:=r.length
 have hn:=tW
 have fin:EP X pins σ Q w s:=⟨z,H,I,rw',q⟩
 by_cases h0:0<=i
 . have hj:i.toNat=j:=by
    rw [seqIndex_of h0 h5] at h1
    exact fu h1
   exact wpAny_getItem_list pl.isList h0 (by omega) (by rw [hj];simpa using ew) fin
 . have hj:(i+(its.toArray.size:Int)).toNat=j:=by
    rw [seqIndex_neg (by omega) h4] at h1
    rw [iK,<-hl]
    exact fu h1
   exact wpAny_getItem_list_neg pl.isList (by omega) (by rw [iK] <;> omega) (by omega) (by rw [hj];simpa using ew) fin
inductive Sa (T:TC) (vs:List V) (H:Hp) (Q:VK) (E:XK):Prop
 | mk (n ρ A st:_) (i:Nat) (p:Pt) (_:vs=[.ref A.a, .str p.nm]) (_:HH T n ρ A H st) (_:st.aj[i]?=some p) (_:st.kn+100<=1000000) (_:∀r ws H',HH T n ρ A H' { st with kn:=st.kn+100 }->Fr n ρ H ρ H'->H r=none->H' r=some (.lst ws)->ρ r=none->kO H' ws (o8 st p:_)->Q (.ref r) H')
def C6 (T:TC):Sp:=bx (Sa T)
structure UI (st:HS):Prop where
 kn:st.kn+100<=1000000
 d_:st.d_.length<1000
 wo:∀p∈st.aj,Jm.Sz 60 p.wo
 prod:Jm.Sz 7900 st.prod
 bL:∀u∈st.bL,Jm.Sz 8900 u
inductive ZQ (T:TC) (e:Ec) (vs:List V) (H:Hp) (Q:VK) (E:XK):Prop
 | mk (n ρ A st x:_) (_:vs=[.ref A.a, .str x]) (_:HH T n ρ A H st) (_:UI st) (_:Gb T e n ρ A H (vj st x:_) (vm st x:_) Q E)
def Od (T:TC) (e:Ec):Sp:=bx (ZQ T e)
theorem vz {st:HS} {x:Str} (h:vj st x=none):x∈eU st:=by
 unfold vj at h
 split at h
 . assumption
 . cases h
theorem Fr.aci {n:Nat} {ρ:cR} {H H':Hp} (f:Fr n ρ H ρ H') (g:Gh ρ H') {b:Addr} (h:H' b=none):H b=none:=by
 cases e:H b with
 | none=>rfl
 | some o=>
   have:=(f b o e fun t x z=>by rw [g.none h] at z;cases z).1
   rw [h] at this;cases this
theorem uo:∀{l:List Pt} {i:Nat} {p:Pt},(l.map (·.nm)).Nodup->l[i]?=some p->l.filter (fun q=>decide (q.nm≠p.nm))=l.eraseIdx i
 | [],_,_,_,h=>by simp at h
 | x::l,0,p,nd,h=>by
   obtain ⟨h1,h2⟩:=fP.mp (show (x.nm::l.map (·.nm)).Nodup from nd)
   have e:x=p:=by simpa using h
   subst e
   rw [gZ,aB (by simp)]
   exact IC.mpr fun y hy=>bq fun z=>h1 (bH.mpr ⟨y,hy,z⟩)
 | x::l,i+1,p,nd,h=>by
   obtain ⟨h1,h2⟩:=fP.mp (show (x.nm::l.map (·.nm)).Nodup from nd)
   have h':l[i]?=some p:=by simpa using h
   rw [gZ,aD (by simpa using fun z:x.nm=p.nm=>h1 (bH.mpr ⟨p,cg h',z.symm⟩)),uo h2 h']
   rfl
def nT (st:HS) (p:Pt):List Int:=(gX st p).set (st.own.idxOf p.ow) ((gX st p).getD (st.own.idxOf p.ow) 0-p.wo*st.prod)
theorem UJ {st:HS} (wf:Wf st) {p:Pt} (hp:p∈st.aj) {m:Nat} (h1:Jm.Sz 60 p.wo) (h2:Jm.Sz m st.prod) (h3:∀u∈st.bL,Jm.Sz (m+60) u):∀u∈gX st p,Jm.Sz (m+61) u:=fun u hu=>by
 obtain ⟨i,a,t,ea,et,rfl⟩:=vg (show u∈List.zipWith (fun u t=>u+p.wo*t) st.bL (aS st p) from hu)
 have ht:=wf.nQ p hp t (cg et)
 have zt:Jm.Sz m t:=h2.of_le (by omega)
 exact (h3 a (cg ea)).kN ((h1.mul zt).mono (by omega))
theorem Oe {st:HS} (wf:Wf st) {p:Pt} (hp:p∈st.aj) {m:Nat} (h1:Jm.Sz 60 p.wo) (h2:Jm.Sz m st.prod) (h3:∀u∈st.bL,Jm.Sz (m+60) u):∀u∈nT st p,Jm.Sz (m+62) u:=fun u hu=>by
 have g:=UJ wf hp h1 h2 h3
 rcases OM (show u∈(gX st p).set _ _ from hu) with z|z
 . exact (g u z).mono (by omega)
 . rw [z]
   have z0:Jm.Sz (m+61) ((gX st p).getD (st.own.idxOf p.ow) 0):=by
    rw [mw]
    cases e:(gX st p)[st.own.idxOf p.ow]? with
    | none=>exact (by show Jm.Sz (m+61) 0;unfold Jm.Sz;exact Nat.pow_pos (by decide))
    | some y=>exact g y (cg e)
   have:=z0.kN (((h1.mul h2).mono (by omega:60+m<=m+61)).neg)
   rw [Int.sub_eq_add_neg]
   exact this
theorem zR {st:HS} (wf:Wf st) {p:Pt} (hp:p∈st.aj):(gX st p).length=st.own.length:=by
 unfold gX
 rw [kL,C5 wf hp,wf.nO,xG]
theorem ur {st:HS} (wf:Wf st) {p:Pt} (hp:p∈st.aj):vm st p.nm={ st with aj:=st.aj.filter (fun q=>decide (q.nm≠p.nm)),d_:=st.d_++[⟨p.nm,p.ow,p.wo,o8 st p⟩],kn:=st.kn+100,bL:=nT st p }:=by
 unfold vm nT
 rw [cN wf hp rfl]
theorem Of {st:HS} {x:Str} (wf:Wf st) (h:vj st x=none) (l:UI st):Wf (vm st x):=by
 obtain ⟨i,p,e1,rfl⟩:=kU (vz h)
 have hp:=cg e1
 rw [ur wf hp]
 have S:∀{M:Pt->Prop},(∀x∈st.aj,M x)->∀x∈st.aj.filter (fun q=>decide (q.nm≠p.nm)),M x:=fun h x hx=>h x (xA.mp hx).1
 have hf:=List.length_filter_le (fun q:Pt=>decide (q.nm≠p.nm)) st.aj
 refine ⟨wf.nN,wf.xU,List.Nodup.sublist (List.Sublist.map _ List.filter_sublist) wf.dh,S wf.sub,S wf.rows,S wf.ow,wf.fV,?_,wf.d9,wf.oX,wf.ud,wf.j8,wf.xV,?_,wf.zg,?_,l.kn,wf.big,wf.nP,S wf.oY,S wf.mG,S wf.nQ,S wf.jr,?_⟩
 . show (nT st p).length=_
   unfold nT
   rw [iL,zR wf hp]
 . have:=wf.lD
   show (List.filter _ _).length<=1000
   omega
 . show (st.d_++[_]).length<=1000
   rw [dj]
   exact l.d_
 . exact fun u hu=>(Oe wf hp (m:=8840) (l.wo p hp) (l.prod.mono (by decide)) (fun u hu=>(l.bL u hu).mono (by decide)) u hu).mono (by decide)
inductive Sb (c:Nat) (own:List Str) (sh:List (Str×Rat)):Prop
 | mk (Ka:List Str) (tops:List Int) (b:Int) (_:Ka <+:own) (_:Ka.length=tops.length) (_:sh=RU Ka tops b) (_:∀t∈tops,0<=t) (_:tops.sum=b) (_:1<=b) (_:Jm.Sz (64*c+1) b)
theorem Sb.mono {c c':Nat} {own own':List Str} {sh:List (Str×Rat)} (h:Sb c own sh) (hc:c<=c') (ho:own <+:own'):Sb c' own' sh:=by
 obtain ⟨o0,ts,b,h1,h2,h3,h4,h5,h6,h7⟩:=h
 exact ⟨o0,ts,b,h1.trans ho,h2,h3,h4,h5,h6,h7.mono (by omega)⟩
structure Go (c:Nat) (st:HS):Prop where
 bL:∀u∈st.bL,Jm.Sz (64*c+61) u
 stp:st.stp.length<=c
 prod:Jm.Sz (64*c+1) st.prod
 wo:∀p∈st.aj,p.wo<=1000000000000*((c:Int)+1)
 we:∀p∈st.aj,p.we<=1000000000
 pl:st.aj.length<=c
 kl:st.nms.length<=c
 ol:0<st.own.length
 nk:∀x∈st.nms,isNm x=true
 on:∀o∈st.own,isNm o=true
 sum:∀p∈st.aj,(aS st p).sum=st.prod
 al:st.d_.length<=c
 d_:∀a∈st.d_,Sb c st.own a.sh
theorem Go.mono {c:Nat} {st:HS} (g:Go c st):Go (c+1) st:=
 ⟨fun u hu=>(g.bL u hu).mono (by omega),by have:=g.stp;omega,g.prod.mono (by omega),fun p hp=>by have:=g.wo p hp;omega,g.we,by have:=g.pl;omega,by have:=g.kl;omega,g.ol,g.nk,g.on,g.sum,by have:=g.al;omega,fun a ha=>(g.d_ a ha).mono (by omega) (List.prefix_refl _)⟩
theorem Og:∀{ps:List Pt} {m:Int},(∀p∈ps,1<=p.wo/\p.wo<=m)->0<=(ps.map (·.wo)).sum/\(ps.map (·.wo)).sum<=m*(ps.length:Int)
 | [],m,_=>by show 0<=(0:Int)/\(0:Int)<=m*0;omega
 | p::ps,m,h=>by
   have h0:=h p cS
   have ih:=Og (ps:=ps) (m:=m) fun x hx=>h x (cD _ hx)
   rw [bw,b8,jZ,show (((ps.length+1:Nat)):Int)=(ps.length:Int)+1 from by omega,qT,xH]
   omega
theorem Go.whole {c:Nat} {st:HS} (g:Go c st) (wf:Wf st) (hc:c<=91):0<=aC st/\Jm.Sz 60 (aC st):=by
 have h:=Og (ps:=st.aj) (m:=92000000000000) fun p hp=>⟨(wf.jr p hp).1,by have:=g.wo p hp;omega⟩
 have hl:=g.pl
 have h2:(92000000000000:Int)*(st.aj.length:Int)<=92000000000000*91:=by omega
 have h3:aC st<=92000000000000*91:=Int.le_trans h.2 h2
 have h1:0<=aC st:=h.1
 exact ⟨h1,(show Jm.Sz 60 (92000000000000*91:Int) from oU (by decide +kernel)).of_le (by omega)⟩
theorem Go.aw {c:Nat} {st:HS} (g:Go c st) (wf:Wf st) (hc:c<=91):P0 st:=⟨(g.whole wf hc).2,g.prod.mono (by omega),fun u hu=>(g.bL u hu).mono (by omega),by have:=g.stp;omega⟩
theorem Go.sz {c:Nat} {st:HS} (g:Go c st) (wf:Wf st) (hc:c<=91):∀p∈st.aj,Jm.Sz 60 p.wo:=fun p hp=>by
 have h:=g.wo p hp
 have h1:=(wf.jr p hp).1
 exact (show Jm.Sz 60 (92000000000000:Int) from oU (by decide +kernel)).of_le (by omega)
theorem Go.ld {c:Nat} {st:HS} (g:Go c st) (wf:Wf st) (hc:c<=91) (hk:st.kn+100<=1000000):UI st:=
 ⟨hk,by have:=g.al;omega,g.sz wf hc,g.prod.mono (by omega),fun u hu=>(g.bL u hu).mono (by omega)⟩
theorem C7 {c:Nat} {st:HS} (g:Go c st) {ps:List Pt} {ns:List Str} (h:∀p∈ps,(aS st p).sum=st.prod/\p.wo<=1000000000000*((c:Int)+2)/\p.we<=1000000000) (hl:ps.length<=c+1) (hn:ns.length<=c+1) (hk:∀x∈ns,isNm x=true):Go (c+1) { st with aj:=ps,nms:=ns }:=
 ⟨g.mono.bL,g.mono.stp,g.mono.prod,fun p hp=>by have:=(h p hp).2.1;omega,fun p hp=>(h p hp).2.2,hl,hn,g.ol,hk,g.on,fun p hp=>(h p hp).1,g.mono.al,g.mono.d_⟩
theorem Go.same {c:Nat} {st:HS} (g:Go c st) {ps:List Pt} (h:∀p'∈ps,∃p∈st.aj,p'.row=p.row/\p'.sc=p.sc/\p'.wo<=p.wo+1000000000000/\p'.we<=p.we) (hl:ps.length<=c+1):Go (c+1) { st with aj:=ps }:=
 C7 g (ns:=st.nms) (fun p' gF=>by
  obtain ⟨p,hp,e1,e2,e3,e4⟩:=h p' gF
  have w:=g.wo p hp
  have v:=g.we p hp
  exact ⟨by have:=g.sum p hp;unfold aS at this ⊢;rw [e1,e2];exact this,by omega,by omega⟩) hl g.mono.kl g.nk
theorem Kc {c:Nat} {st st':HS} {kept lost:Int} {added:List Int} (g:Go c st) (wf:Wf st) (bl:qm st kept (aC st) lost added) (hs:added.sum=lost*st.prod) (hc:c<=90) (eC:st'={ aZ st kept (aC st) added with aj:=st'.aj })
  (hp:∀p'∈st'.aj,∃p∈st.aj,p'.row=p.row/\p'.sc=p.sc*kept / bQ st kept (aC st) added/\p'.wo<=p.wo/\p'.we=p.we) (hl:st'.aj.length<=st.aj.length):Go (c+1) st':=by
 have zw:=g.whole wf (by omega)
 obtain ⟨hd,hsw,_,_⟩:=bl.dvds
 have w1:0<aC st:=by have:=bl.k;have:=bl.l;have:=bl.w;omega
 have s1:1<=aC st / bQ st kept (aC st) added:=by
  have:=Int.le_of_dvd w1 hsw
  exact Int.le_ediv_of_mul_le hd (by omega)
 have s2:aC st / bQ st kept (aC st) added<=aC st:=Int.ediv_le_self _ (by omega)
 have zs:Jm.Sz 60 (aC st / bQ st kept (aC st) added):=zw.2.of_le (by omega)
 have ep:st'.prod=(aZ st kept (aC st) added).prod:=by rw [eC]
 have ec:st'.bz=(aZ st kept (aC st) added).bz:=by rw [eC]
 have epr:st'.prod=st.prod*(aC st / bQ st kept (aC st) added):=by rw [ep];unfold aZ;rw [xX s1]
 have en:st'.nms=st.nms:=by rw [eC];show (aZ st kept (aC st) added).nms=_;unfold aZ;rw [vf]
 have eo:st'.own=st.own:=by rw [eC];show (aZ st kept (aC st) added).own=_;unfold aZ;rw [rP]
 have ea:st'.d_=st.d_:=by rw [eC];show (aZ st kept (aC st) added).d_=_;unfold aZ;rw [zy]
 have p1:=wf.d9
 have gm:=g.mono
 refine ⟨fun u hu=>?_,?_,?_,fun p' gF=>?_,fun p' gF=>?_,by have:=g.pl;omega,by rw [en];exact gm.kl,by rw [eo];exact g.ol,by rw [en];exact g.nk,by rw [eo];exact g.on,fun p' gF=>?_,by rw [ea];exact gm.al,by rw [ea,eo];exact gm.d_⟩
 . rw [eC] at hu
   have hu:u∈(aZ st kept (aC st) added).bL:=hu
   unfold aZ at hu
   rw [FQ] at hu
   obtain ⟨x,hx,rfl⟩:=bH.mp hu
   exact ((g.bL x hx).mul zs).mono (by omega)
 . rw [eC]
   show (aZ st kept (aC st) added).stp.length<=c+1
   unfold aZ ef
   split
   . show (st.stp++[_]).length<=c+1
     rw [dj];have:=g.stp;show st.stp.length+1<=c+1;omega
   . exact gm.stp
 . rw [epr];exact (g.prod.mul zs).mono (by omega)
 . obtain ⟨p,h0,_,_,e3,_⟩:=hp p' gF
   have:=gm.wo p h0
   omega
 . obtain ⟨p,h0,_,_,_,e4⟩:=hp p' gF
   rw [e4];exact g.we p h0
 . obtain ⟨p,h0,e1,e2,_,_⟩:=hp p' gF
   have tl:=uh wf h0
   have tl':(aS st' p').length=st.bz.length:=by
    unfold aS
    rw [kL,e1,wf.rows p h0,<-wf.fV,ec]
    unfold aZ fJ
    rw [FP,aH,kL,bl.len];omega
   have r:=Oc (l:=List.zipWith (fun t m=>t*kept+m) (aS st p) added) (m:=aS st' p') (a:=st'.prod) (b:=st.prod*aC st) (by rw [kL,tl,tl',bl.len];omega) fun j=>by
    rw [qt (f:=fun t m=>t*kept+m) (by show (0:Int)*_+0=0;omega) (by rw [tl,bl.len])]
    exact FZ wf bl ec ep h0 e1 e2 (B:=st.prod) rfl rfl
   rw [N4 _ (by rw [tl,bl.len]),g.sum p h0,hs,mZ lost,<-qT,<-bl.w,mZ _ st'.prod] at r
   exact (Int.eq_of_mul_eq_mul_right (Int.ne_of_gt (Int.mul_pos (by omega) w1)) r).symm
theorem Gg:∀(rs:List Row) (s:HS),(∀r∈rs,1<=r.2)->∀p'∈(rs.foldl c7 s).aj,∃p∈s.aj,∃w,p'={ p with wo:=w }/\w<=p.wo
 | [],s,_,p',h=>⟨p',h,p'.wo,Z,kP _⟩
 | r::rs,s,h1,p',h=>by
   obtain ⟨p,hp,w,e,le⟩:=Gg rs (c7 s r) (fun x hx=>h1 x (cD _ hx)) p' h
   obtain ⟨_,q,hq,e2⟩:=xY hp
   have:=h1 r cS
   split at e2
   . subst e2
     have le:w<=q.wo-r.2:=le
     exact ⟨q,hq,w,e,by omega⟩
   . subst e2;exact ⟨p,hq,w,e,le⟩
theorem Gi:∀(rs:List Row) (s:HS),(rs.foldl c7 s).aj.length<=s.aj.length
 | [],s=>aN _
 | r::rs,s=>by
   have:=Gi rs (c7 s r)
   have h:=tH (ps:=s.aj) (x:=r.1) (a:=r.2) |>.length_le
   rw [aH,aH] at h
   exact gf this h
theorem Bu (k:Int):∀{xs ts:List Int},xs.length=ts.length->(List.zipWith (fun x t=>x+k*t) xs ts).sum=xs.sum+k*ts.sum
 | [],[],_=>by simp
 | x::xs,t::ts,h=>by
   rw [DU,b8,b8,b8,Bu k (by simpa using h),qT];omega
 | [],_::_,h=>by simp at h
 | _::_,[],h=>by simp at h
theorem Gj {st:HS}:∀(rs:List Row) (acc:List Int),(∀r∈rs,(aS st (bO st r.1)).length=acc.length/\(aS st (bO st r.1)).sum=st.prod)->(tG st acc rs).sum=acc.sum+aI rs*st.prod
 | [],acc,_=>by show acc.sum=acc.sum+0*_;omega
 | r::rs,acc,h=>by
   obtain ⟨h1,h2⟩:=h r cS
   have e:(List.zipWith (fun x t=>x+r.2*t) acc (aS st (bO st r.1))).length=acc.length:=by rw [kL,h1];omega
   show (tG st (List.zipWith (fun x t=>x+r.2*t) acc (aS st (bO st r.1))) rs).sum=_
   rw [Gj rs _ (fun x hx=>by rw [e];exact h x (cD _ hx)),Bu _ h1.symm,h2,show aI (r::rs)=r.2+aI rs from by unfold aI;rw [bw,b8],uY]
   omega
theorem kh {st:HS} {r:Row} (h:jQ st r=none):r.1∈eU st/\1<=r.2/\r.2<=(bO st r.1).wo:=by
 unfold jQ at h
 split at h
 . split at h
   . cases h
   . split at h
     . cases h
     . exact ⟨by assumption,by omega,by omega⟩
 . cases h
theorem vA {st:HS} {rs:List Row} (h:lV st rs=none):rs≠[]/\(rs.map fun r:Row=>r.1).Nodup/\(∀r∈rs,jQ st r=none)/\aI rs<aC st:=by
 unfold lV at h
 split at h
 . next c=>
   split at h
   . cases h
   . next e=>
     split at h
     . cases h
     . exact ⟨c.1,c.2,fun r hr=>List.findSome?_eq_none_iff.mp e r hr,by omega⟩
 . cases h
theorem Go.wY {c:Nat} {st:HS} (g:Go c st) (wf:Wf st) (hc:c<=91) {rs:List Row} (h:lV st rs=none):jv st rs:=by
 obtain ⟨h1,h2,h3,h4⟩:=vA h
 have aw:=g.aw wf hc
 refine ⟨h2,h1,?_,fun r hr=>?_,h4,aw.big,aw.prod,aw.bL,aw.stp⟩
 . have:=t_ h2 (m:=eU st) (fun x hx=>by obtain ⟨r,hr,rfl⟩:=bH.mp hx;exact (kh (h3 r hr)).1)
   rw [aH] at this
   unfold eU at this
   rw [aH] at this
   have:=g.pl
   omega
 . obtain ⟨a1,a2,a3⟩:=kh (h3 r hr)
   obtain ⟨i,p,e1,e2⟩:=kU a1
   have hp:=cg e1
   rw [cN wf hp e2] at a3
   have:=g.sz wf hc p hp
   exact ⟨a2,this.of_le (by omega),p,hp,e2,a3⟩
def ZR:Dd->Prop
 | .load _ _ wo we=>wo<=1000000000000/\we<=1000000000
 | .rise _ a=>a<=1000000000000
 | _=>True
theorem Oh {n i:Nat} {b:Int} (h:i<n):((List.replicate n (0:Int)).set i b).sum=b:=by
 have:=vP (l:=List.replicate n (0:Int)) (x:=b) (by rw [nI];exact h)
 rwa [UE,Ai,JR,Ai] at this
theorem Xw {c:Nat} {st:HS} (g:Go c st) (wf:Wf st) {x o:Str} {wo we:Int} (hx:isNm x=true) (ho:o∈st.own) (h1:wo<=1000000000000) (h2:we<=1000000000):Go (c+1) (Io st x o wo we):=by
 refine C7 g (fun p hp=>?_) (by rw [dj];have:=g.pl;show st.aj.length+1<=_;omega) (by rw [dj];have:=g.kl;show st.nms.length+1<=_;omega) (fun y hy=>?_)
 . rcases gb.mp hp with z|z
   . have:=g.wo p z
     exact ⟨g.sum p z,by omega,g.we p z⟩
   . rw [fU.mp z]
     refine ⟨?_,by show wo<=_;omega,h2⟩
     unfold aS
     show (List.zipWith (fun r c=>(1:Int)*r+c) (lE st _) st.bz).sum=_
     rw [J7 (by rw [iL,nI,wf.fV])]
     exact Oh (yH ho)
 . rcases gb.mp hy with z|z
   . exact g.nk y z
   . rw [fU.mp z];exact hx
theorem Ek {c:Nat} {st:HS} (g:Go c st) (wf:Wf st) (hc:c<=90) {rs:List Row} (h:lV st rs=none):Go (c+1) (bV st rs):=by
 have ok:=g.wY wf (by omega) h
 have h1:∀r∈rs,1<=r.2:=fun r hr=>(ok.row r hr).1
 refine Kc g wf (ok.blend wf) ?_ hc (lF rs _) (fun p' gF=>?_) ?_
 . have ex:∀r∈rs,∃p∈st.aj,p.nm=r.1:=fun r hr=>by obtain ⟨p,hp,e,_⟩:=(ok.row r hr).2.2;exact ⟨p,hp,e⟩
   rw [zA wf ex,Gj,JR,Ai]
   intro r hr
   obtain ⟨p,hp,e⟩:=ex r hr
   rw [cN wf hp e,nI]
   exact ⟨uh wf hp,g.sum p hp⟩
 . obtain ⟨p1,hp1,w,rfl,le⟩:=Gg rs _ h1 p' gF
   unfold aZ at hp1
   rw [jY] at hp1
   obtain ⟨p,hp,rfl⟩:=bH.mp hp1
   exact ⟨p,hp,Z,Z,le,Z⟩
 . refine gf (Gi rs _) ?_
   unfold aZ
   rw [jY,aH]
   exact aN _
theorem UK {c:Nat} {st:HS} (g:Go c st) (wf:Wf st) (hc:c<=90) {o:Str} {a:Int} (h:lH st o a=none):Go (c+1) (JW st o a):=by
 obtain ⟨ho,h1,h2⟩:=C4 h
 refine Kc g wf ((g.aw wf (by omega)).blend (o:=o) wf h1 h2) (Oh (yH ho)) hc rfl (fun p' gF=>?_) ?_
 . have gF:p'∈(aZ st _ _ _).aj:=gF
   unfold aZ at gF
   rw [jY] at gF
   obtain ⟨p,hp,rfl⟩:=bH.mp gF
   exact ⟨p,hp,Z,Z,kP _,Z⟩
 . show (aZ st _ _ _).aj.length<=_
   unfold aZ
   rw [jY,aH]
   exact aN _
theorem Sd {st:HS} (wf:Wf st) {c:Nat} (g:Go c st) {p:Pt} (hp:p∈st.aj):Sb c st.own (o8 st p):=
 ⟨st.own,aS st p,st.prod,List.prefix_refl _,(C5 wf hp).symm,Z,fun t ht=>(wf.nQ p hp t ht).1,g.sum p hp,wf.d9,g.prod⟩
theorem Xx {c:Nat} {st:HS} (g:Go c st) (wf:Wf st) (hc:c<=91) {x:Str} (h:vj st x=none):Go (c+1) (vm st x):=by
 obtain ⟨i,p,e1,rfl⟩:=kU (vz h)
 have hp:=cg e1
 rw [ur wf hp]
 have S:∀{M:Pt->Prop},(∀x∈st.aj,M x)->∀x∈st.aj.filter (fun q=>decide (q.nm≠p.nm)),M x:=fun h x hx=>h x (xA.mp hx).1
 have hf:=List.length_filter_le (fun q:Pt=>decide (q.nm≠p.nm)) st.aj
 have gm:=g.mono
 refine ⟨fun u hu=>?_,gm.stp,gm.prod,S gm.wo,S g.we,gf hf gm.pl,gm.kl,g.ol,g.nk,g.on,S g.sum,?_,fun a ha=>?_⟩
 . exact (Oe wf hp (m:=64*c+1) (g.sz wf hc p hp) g.prod (fun u hu=>(g.bL u hu).mono (by omega)) u hu).mono (by omega)
 . show (st.d_++[_]).length<=_
   rw [dj]
   have:=g.al
   show st.d_.length+1<=_
   omega
 . rcases gb.mp (show a∈st.d_++[_] from ha) with z|z
   . exact gm.d_ a z
   . rw [fU.mp z]
     exact (Sd wf g hp).mono (by omega) (List.prefix_refl _)
theorem Xy {c:Nat} {st:HS} (g:Go c st) (wf:Wf st) {o:Str} (h:isNm o=true):Go (c+1) (gO st o):=by
 have gm:=g.mono
 have P:∀p∈(gO st o).aj,∃p0∈st.aj,p={ p0 with row:=p0.row++[0] }:=fun p hp=>by
  obtain ⟨p0,h0,rfl⟩:=bH.mp (show p∈st.aj.map _ from hp)
  exact ⟨p0,h0,Z⟩
 refine ⟨fun u hu=>?_,gm.stp,gm.prod,fun p hp=>?_,fun p hp=>?_,?_,gm.kl,?_,g.nk,fun x hx=>?_,fun p hp=>?_,gm.al,fun a ha=>(gm.d_ a ha).mono (aN _) (List.prefix_append _ _)⟩
 . rcases gb.mp (show u∈st.bL++[0] from hu) with z|z
   . exact gm.bL u z
   . rw [fU.mp z]
     exact (show Jm.Sz 1 (0:Int) from oU (by decide +kernel)).mono (by omega)
 . obtain ⟨p0,h0,rfl⟩:=P p hp
   exact gm.wo p0 h0
 . obtain ⟨p0,h0,rfl⟩:=P p hp
   exact g.we p0 h0
 . show (st.aj.map _).length<=_
   rw [aH];exact gm.pl
 . show 0<(st.own++[o]).length
   rw [dj];exact kM g.ol (vK _ _)
 . rcases gb.mp (show x∈st.own++[o] from hx) with z|z
   . exact g.on x z
   . rw [fU.mp z];exact h
 . obtain ⟨p0,h0,rfl⟩:=P p hp
   show (List.zipWith (fun r c=>p0.sc*r+c) (p0.row++[0]) (st.bz++[0])).sum=st.prod
   rw [FJ _ (by rw [wf.rows p0 h0,wf.fV]),List.sum_append,show (List.zipWith (fun r c=>p0.sc*r+c) p0.row st.bz).sum=st.prod from g.sum p0 h0]
   simp
theorem yc {l:List Pt} {x:Str} {f:Pt->Pt} {p':Pt} (h:p'∈l.map fun p=>if p.nm=x then f p else p):∃p∈l,(p.nm=x/\p'=f p)\/p'=p:=by
 obtain ⟨p,hp,e⟩:=bH.mp h
 by_cases c:p.nm=x
 . exact ⟨p,hp, .inl ⟨c,by rw [aD c] at e;exact e.symm⟩⟩
 . exact ⟨p,hp, .inr (by rw [aB c] at e;exact e.symm)⟩
theorem acj {c:Nat} {st:HS} (g:Go c st) (wf:Wf st) (hc:c<=90) {d:Dd} (hr:qu st d=none) (db:ZR d):Go (c+1) (jy st d):=by
 have hl:=g.pl
 cases d with
 | sign o=>
   have:x9 st o=none:=hr
   unfold x9 at this
   split at this
   . exact Xy g wf (by assumption)
   . cases this
 | load x o wo we=>
   obtain ⟨h1,_,h3,_,_⟩:=vq hr
   exact Xw g wf h1 h3 db.1 db.2
 | cast rs=>exact Ek g wf hc hr
 | award o a=>exact UK g wf hc hr
 | mishap x a=>
   obtain ⟨_,h1,_⟩:=kh (show jQ st (x,a)=none from hr)
   have h1:1<=a:=h1
   refine g.same (ps:=jK st.aj x a) (fun p' gF=>?_) ?_
   . obtain ⟨_,p,hp,e⟩:=xY gF
     split at e
     . exact ⟨p,hp,by rw [e],by rw [e],by rw [e];show p.wo-a<=_;omega,by rw [e];exact kP _⟩
     . exact ⟨p,hp,by rw [e],by rw [e],by rw [e];omega,by rw [e];exact kP _⟩
   . have h:=tH (ps:=st.aj) (x:=x) (a:=a) |>.length_le
     rw [aH,aH] at h
     omega
 | rise x a=>
   have ha:a<=1000000000000:=db
   refine g.same (fun p' gF=>?_) (by rw [aH];omega)
   obtain ⟨p,hp,⟨_,e⟩|e⟩:=yc gF
   . exact ⟨p,hp,by rw [e],by rw [e],by rw [e];show p.wo+a<=_;omega,by rw [e];exact kP _⟩
   . exact ⟨p,hp,by rw [e],by rw [e],by rw [e];omega,by rw [e];exact kP _⟩
 | hand x o=>
   obtain ⟨hx,ho⟩:=vt hr
   show Go (c+1) (fT st x o)
   unfold fT
   split
   . exact g.mono
   . next ne=>
     refine C7 g (ns:=st.nms) (fun p' gF=>?_) (by rw [aH];omega) g.mono.kl g.nk
     obtain ⟨p,hp,⟨en,e⟩|e⟩:=yc gF
     . rw [cN wf hp en] at ne
       have:=g.wo p hp
       refine ⟨?_,by rw [e];show p.wo<=_;omega,by rw [e];exact g.we p hp⟩
       rw [e,show aS st { p with ow:=o,sc:=1,row:=lE st (lX st p o) }=_ from Gf wf hp o]
       exact (J8 wf hp ho ne (g.sum p hp)).2
     . rw [e]
       have:=g.wo p hp
       exact ⟨g.sum p hp,by omega,g.we p hp⟩
 | land x=>exact Xx g wf (by omega) hr
 | sever x y a we=>
   obtain ⟨hx,hy,h1,h2,h3,h4⟩:=l7 hr
   obtain ⟨i,p0,e1,en⟩:=kU hx
   have hp0:=cg e1
   have w0:=g.wo p0 hp0
   have v0:=g.we p0 hp0
   show Go (c+1) (pD st x y a we)
   unfold pD
   rw [cN wf hp0 en] at h3 h4 ⊢
   refine C7 g (fun p' gF=>?_) (by rw [dj];show (List.map _ st.aj).length+1<=_;rw [aH];omega) (by rw [dj];have:=g.kl;show st.nms.length+1<=_;omega) (fun z hz=>?_)
   . rcases gb.mp gF with z|z
     . obtain ⟨p,hp,⟨_,e⟩|e⟩:=yc z
       . rw [e]
         have:=g.wo p hp
         have:=g.we p hp
         exact ⟨g.sum p hp,by show p.wo-a<=_;omega,by show p.we-we<=_;omega⟩
       . rw [e]
         have:=g.wo p hp
         exact ⟨g.sum p hp,by omega,g.we p hp⟩
     . rw [fU.mp z]
       exact ⟨g.sum p0 hp0,by show a<=_;omega,by show we<=_;omega⟩
   . rcases gb.mp hz with w|w
     . exact g.nk z w
     . rw [fU.mp w];exact hy.1
 | still=>exact g.mono
theorem ack {c:Nat} {st:HS} (g:Go c st) (wf:Wf st) (hc:c<=90) (hk:st.kn+100<=1000000) (ho:st.own.length<100) {d:Dd} (hr:qu st d=none):Wf (jy st d):=by
 have hl:=g.pl
 have hn:=g.kl
 cases d with
 | sign o=>
   have:x9 st o=none:=hr
   unfold x9 at this
   split at this
   . split at this
     . cases this
     . exact Eb wf (by assumption) ho
   . cases this
 | load x o wo we=>
   obtain ⟨_,h2,h3,h4,h5⟩:=vq hr
   exact NX wf h2 (by omega) (by omega) h3 h4 h5
 | cast rs=>exact tO wf (g.wY wf (by omega) hr)
 | award o a=>
   obtain ⟨h0,h1,h2⟩:=C4 hr
   exact qo wf ((g.aw wf (by omega)).blend (o:=o) wf h1 h2)
 | mishap x a=>
   obtain ⟨_,_,h1⟩:=kh (show jQ st (x,a)=none from hr)
   exact Eg wf fun p hp e=>by rw [cN wf hp e] at h1;exact h1
 | rise x a=>
   have h1:=(zQ (show m_ st x a=none from hr)).2
   exact zP wf fun q hq _=>⟨Z,Z,Z,Z,by have:=(wf.jr q hq).1;show 1<=q.wo+a;omega,(wf.jr q hq).2⟩
 | hand x o=>exact Ob wf hr g.sum
 | land x=>exact Of wf hr (g.ld wf (by omega) hk)
 | sever x y a we=>exact J5 wf hr (by omega) (by omega)
 | still=>exact wf
theorem Xz (st:HS) (s:Int):(ef st s).kn<=st.kn:=by
 unfold ef
 split
 . exact gh _
 . exact aN _
theorem acm (st:HS) (d:Dd):(jy st d).kn<=st.kn+100:=by
 cases d with
 | cast rs=>exact gf (Xl st rs) (vK _ _)
 | award o a=>exact gf (Xz _ _) (vK _ _)
 | hand x o=>
   show (fT st x o).kn<=_
   unfold fT
   split <;> exact vK _ _
 | land x=>exact aN _
 | _=>exact vK _ _
def oE (a b:HS):Prop:=a={ b with kn:=a.kn }
theorem oE.refl (a:HS):oE a a:=rfl
theorem oE.set {a b:HS} (h:oE a b) (k:Nat):oE { a with kn:=k } b:=by rw [h];rfl
theorem UL {a b:HS} (h:oE a b) (s:Int):oE (ef a s) (ef b s):=by
 unfold ef
 rw [h]
 split <;> rfl
theorem Kd:∀(rs:List Row) {a b:HS},oE a b->oE (rs.foldl c7 a) (rs.foldl c7 b)
 | [],_,_,h=>h
 | r::rs,a,b,h=>by
   rw [jH,jH]
   exact Kd rs (by rw [h];rfl)
theorem Gk {a b:HS} (h:oE a b) (kept whole:Int) (added:List Int):oE (aZ a kept whole added) (aZ b kept whole added):=by
 generalize ek:a.kn=k at *
 unfold oE at h
 rw [ek] at h
 subst h
 unfold aZ
 refine UL ?_ _
 rfl
theorem oE.do {a b:HS} (h:oE a b) (d:Dd):oE (jy a d) (jy b d):=by
 generalize ek:a.kn=k at *
 unfold oE at h
 rw [ek] at h
 subst h
 cases d with
 | cast rs=>exact Kd rs (Gk (a:={ b with kn:=k }) rfl _ _ _)
 | award o a=>exact Gk (a:={ b with kn:=k }) rfl _ _ _
 | hand x o=>
   show oE (fT { b with kn:=k } x o) (fT b x o)
   unfold fT
   show oE (if b.own.idxOf o=b.own.idxOf (bO b x).ow then _ else _) _
   split <;> rfl
 | _=>rfl
structure LS where
 own:List Str
 aj:List Q4
 C9:List Str
structure LA where
 m:Addr
 lo:Addr
 lp:Addr
 lk:Addr
 qs:List Addr
def iN (B:LA):List (Key×V):=[(Sum.inr "owners", .ref B.lo),(Sum.inr "parts", .ref B.lp),(Sum.inr "known", .ref B.lk)]
def iI (q:Q4):List V:=[.str q.1, .str q.2.1, .int q.2.2.1, .int q.2.2.2]
def nx:Str:=⟨#[]⟩
structure bP (n:Nat) (ρ:cR) (B:LA) (H:Hp) (l:LS):Prop where
 om:H B.m=some (.dK (iN B))
 cm:ρ B.m=some (n,40,nx)
 oo:H B.lo=some (.lst (l.own.map V.str))
 co:ρ B.lo=some (n,41,nx)
 op:H B.lp=some (.lst (B.qs.map V.ref))
 cp:ρ B.lp=some (n,42,nx)
 ok:H B.lk=some (.lst (l.C9.map V.str))
 ck:ρ B.lk=some (n,43,nx)
 nd:B.qs.Nodup
 ql:B.qs.length=l.aj.length
 pt:∀(i:Nat) (q:Q4) (a:Addr),l.aj[i]?=some q->B.qs[i]?=some a->H a=some (.lst (iI q))/\ρ a=some (n,44,nx)
def dQ (st:HS):LS:=⟨st.own,br st,st.nms⟩
theorem bP.same {n:Nat} {ρ ρ':cR} {B:LA} {H H':Hp} {l:LS} (h:bP n ρ B H l) (k:Kp n ρ ρ' H H' fun _=>true):bP n ρ' B H' l:=by
 have z:=fun {b:Addr} {t:Nat} {x:Str} {o:HO} (c:ρ b=some (n,t,x)) (e:H b=some o)=>k.2 b t x o rfl c e
 exact ⟨(z h.cm h.om).1,(z h.cm h.om).2,(z h.co h.oo).1,(z h.co h.oo).2,(z h.cp h.op).1,(z h.cp h.op).2,(z h.ck h.ok).1,(z h.ck h.ok).2,h.nd,h.ql,fun i q a e1 e2=>let ⟨x,y⟩:=h.pt i q a e1 e2;z y x⟩
theorem bP.mono {n:Nat} {ρ:cR} {B:LA} {H H':Hp} {l:LS} (h:bP n ρ B H l) (s:aO H H'):bP n ρ B H' l:=h.same (NU s)
theorem bP.other {n m:Nat} {ρ ρ':cR} {B:LA} {H H':Hp} {l:LS} (h:bP m ρ B H l) (f:Fr n ρ H ρ' H') (g:Gh ρ H) (e:m≠n):bP m ρ' B H' l:=
 h.same ⟨fun b xs q=>(f b _ q fun t x=>by rw [g.tup q];intro z;cases z).1,fun b t x o _ c q=>by
   obtain ⟨a,b'⟩:=f b o q fun t' x'=>by rw [c];intro z;cases z;exact e rfl
   exact ⟨a,b'.trans c⟩⟩
theorem bP.col {n t:Nat} {x:Str} {ρ:cR} {B:LA} {H:Hp} {l:LS} {a:Addr} (h:bP n ρ B H l) (c:ρ a=none):bP n (cO ρ a (n,t,x)) B H l:=
 h.same ⟨fun _ _ e=>e,fun b u y w _ hc he=>⟨he,by rw [bu (fun z=>by rw [z,c] at hc;cases hc)];exact hc⟩⟩
theorem bP.find {n:Nat} {ρ:cR} {B:LA} {H:Hp} {l:LS} (h:bP n ρ B H l) {i:Nat} {q:Q4} (e:l.aj[i]?=some q):∃a,B.qs[i]?=some a/\H a=some (.lst (iI q))/\ρ a=some (n,44,nx):=by
 have hi:i<B.qs.length:=by rw [h.ql];exact (dO.mp e).1
 exact ⟨B.qs[i],bD hi,h.pt i q _ e (bD hi)⟩
theorem bP.i8 {n:Nat} {ρ:cR} {B:LA} {H:Hp} {l:LS} (h:bP n ρ B H l) (g:Gh ρ H) {i:Nat} {a:Addr} (q1:Q4) (ea:B.qs[i]?=some a):bP n ρ B (upd H a (.lst (iI q1))) { l with aj:=l.aj.set i q1 }:=by
 have hi:i<l.aj.length:=by rw [<-h.ql];exact (dO.mp ea).1
 obtain ⟨x1,x2⟩:=h.pt i _ a (bD hi) ea
 have k:=dD (o:= .lst (iI q1)) g x2
 refine ⟨kz k h.cm h.om,h.cm,kz k h.co h.oo,h.co,kz k h.cp h.op,h.cp,kz k h.ck h.ok,h.ck,h.nd,by show _=(l.aj.set i q1).length;rw [iL];exact h.ql,fun j q b e1 e2=>?_⟩
 have e1:(l.aj.set i q1)[j]?=some q:=e1
 by_cases hj:i=j
 . subst hj
   rw [p_ hi] at e1
   rw [ea] at e2
   cases e1;cases e2
   exact ⟨ah,x2⟩
 . rw [yM hj] at e1
   obtain ⟨y1,y2⟩:=h.pt j q b e1 e2
   have hb:b≠a:=fun e=>hj ((O7 (dO.mp ea).1 h.nd).mp (by rw [ea,e2,e]))
   exact ⟨by rw [au hb];exact y1,y2⟩
theorem bP.ZS {n:Nat} {ρ:cR} {B:LA} {H:Hp} {l:LS} (h:bP n ρ B H l) (g:Gh ρ H) {lp:Addr} {qs:List Addr} {ps:List Q4} (e:H lp=some (.lst (qs.map V.ref))) (c:ρ lp=some (n,42,nx)) (nd:qs.Nodup) (hl:qs.length=ps.length)
  (hp:∀(i:Nat) (q:Q4) (a:Addr),ps[i]?=some q->qs[i]?=some a->H a=some (.lst (iI q))/\ρ a=some (n,44,nx)):bP n ρ { { B with lp:=lp } with qs:=qs } (upd H B.m (.dK (iN { B with lp:=lp }))) { l with aj:=ps }:=by
 have k:=dD (o:= .dK (iN { B with lp:=lp })) g h.cm
 exact ⟨ah,h.cm,kz k h.co h.oo,h.co,kz k c e,c,kz k h.ck h.ok,h.ck,nd,hl,fun i q a e1 e2=>let ⟨x,y⟩:=hp i q a e1 e2;⟨kz k y x,y⟩⟩
theorem bP.Se {n:Nat} {ρ:cR} {B:LA} {H:Hp} {l:LS} (h:bP n ρ B H l) (g:Gh ρ H) {q:Q4} {a:Addr} (e:H a=some (.lst (iI q))) (c:ρ a=some (n,44,nx)) (hn:a∉B.qs):bP n ρ { B with qs:=B.qs++[a] } (upd H B.lp (.lst ((B.qs++[a]).map V.ref))) { l with aj:=l.aj++[q] }:=by
 have k:=dD (o:= .lst ((B.qs++[a]).map V.ref)) g h.cp
 refine ⟨kz k h.cm h.om,h.cm,kz k h.co h.oo,h.co,ah,h.cp,kz k h.ck h.ok,h.ck,oq h.nd hn,?_,fun i x y ex ey=>?_⟩
 . show (B.qs++[a]).length=(l.aj++[q]).length
   rw [dj,dj,h.ql];rfl
 . have ex:(l.aj++[q])[i]?=some x:=ex
   have ey:(B.qs++[a])[i]?=some y:=ey
   by_cases d:i<l.aj.length
   . rw [yI d] at ex
     rw [yI (by rw [h.ql];exact d)] at ey
     obtain ⟨a1,a2⟩:=h.pt i x y ex ey
     exact ⟨kz k a2 a1,a2⟩
   . have hi:i=l.aj.length:=by
      have:=(dO.mp ex).1
      rw [dj] at this
      have:i<l.aj.length+1:=this
      omega
     subst hi
     rw [BW (aN _),Ah] at ex
     rw [BW (by rw [h.ql];exact aN _),h.ql,Ah] at ey
     cases ex;cases ey
     exact ⟨kz k c e,c⟩
theorem bP.Oi {n:Nat} {ρ:cR} {B:LA} {H:Hp} {l:LS} (h:bP n ρ B H l) (g:Gh ρ H) (ks:List Str):bP n ρ B (upd H B.lk (.lst (ks.map V.str))) { l with C9:=ks }:=by
 have k:=dD (o:= .lst (ks.map V.str)) g h.ck
 exact ⟨kz k h.cm h.om,h.cm,kz k h.co h.oo,h.co,kz k h.cp h.op,h.cp,ah,h.ck,h.nd,h.ql,fun i q a e1 e2=>let ⟨x,y⟩:=h.pt i q a e1 e2;⟨kz k y x,y⟩⟩
inductive ZT (K:Fg) (H:Hp) (m:Addr) (st:HS):Prop
 | mk (kvs:List (Key×V)) (lo lp lk:Addr) (us:List V) (_:H m=some (.dK kvs)) (_:dM kvs (Sum.inr "owners")=some (.ref lo)) (_:dM kvs (Sum.inr "parts")=some (.ref lp)) (_:dM kvs (Sum.inr "known")=some (.ref lk)) (_:aK K H lo (st.own.map V.str)) (_:aK K H lp us) (_:ug K H us st.aj) (_:aK K H lk (st.nms.map V.str))
theorem wZ {st:HS} {i:Nat} {p:Pt} (h:st.aj[i]?=some p):(br st)[i]?=some (p.nm,p.ow,p.wo,p.we):=by
 unfold br
 rw [cA,h];rfl
theorem bP.rows {K:Fg} {n:Nat} {ρ:cR} {B:LA} {H:Hp} {st:HS} (h:bP n ρ B H (dQ st)):ug K H (B.qs.map V.ref) st.aj:=by
 refine ⟨by rw [aH,h.ql];show (br st).length=_;unfold br;rw [aH],fun i p e=>?_⟩
 obtain ⟨a,ea,k1,_⟩:=h.find (wZ e)
 exact ⟨a,_,by rw [cA,ea];rfl, .inl (aK.of k1),Z,Z,Z,Z⟩
theorem bP.q {K:Fg} {n:Nat} {ρ:cR} {B:LA} {H:Hp} {st:HS} (h:bP n ρ B H (dQ st)):ZT K H B.m st:=
 ⟨_,B.lo,B.lp,B.lk,_,h.om,Z,Z,Z,aK.of h.oo,aK.of h.op,h.rows,aK.of h.ok⟩
def ie (st:HS):List Row:=st.aj.map fun p=>(p.nm,p.wo)
theorem ug.nw {K:Fg} {H:Hp} {us:List V} {st:HS} (h:ug K H us st.aj):xZ K H us (ie st):=by
 refine ⟨by unfold ie;rw [aH];exact h.len,fun i r e=>?_⟩
 unfold ie at e
 rw [cA] at e
 obtain ⟨p,ep,rfl⟩:=nH.mp e
 obtain ⟨a,xs,e1,e2,e3,_,e5,_⟩:=h.at_ i p ep
 exact ⟨a,xs,e1,e2,e3,e5⟩
structure Nx (nms:List Str) (st:HS):Prop where
 t:st.nms=nms.take st.nms.length
 nd:nms.Nodup
 ok:∀x∈nms,isNm x=true
theorem Nx.next {nms:List Str} {st:HS} (h:Nx nms st) {x:Str} (e:nms[st.nms.length]?=some x):isNm x=true/\x∉st.nms/\∀st':HS,st'.nms=st.nms++[x]->Nx nms st':=by
 refine ⟨h.ok x (cg e),?_,fun st' e'=>⟨?_,h.nd,h.ok⟩⟩
 . rw [h.t]
   exact qj h.nd e
 . rw [e',dj,show st.nms.length+[x].length=st.nms.length+1 from rfl,take_snoc e,<-h.t]
theorem Nx.keep {nms:List Str} {st st':HS} (h:Nx nms st) (e:st'.nms=st.nms):Nx nms st':=⟨by rw [e];exact h.t,h.nd,h.ok⟩
theorem Sf {st:HS} {d:Dd} (h:d.k≠1) (h':d.k≠8):(jy st d).nms=st.nms:=by
 cases d with
 | load=>exact absurd rfl h
 | sever=>exact absurd rfl h'
 | cast rs=>
   show (bV st rs).nms=_
   unfold bV
   rw [lF]
   show (aZ st _ _ _).nms=_
   unfold aZ
   rw [vf]
 | award o a=>
   show (aZ st _ _ _).nms=_
   unfold aZ
   rw [vf]
 | hand x o=>show (fT st x o).nms=_;unfold fT;split <;> rfl
 | _=>rfl
def Dd.pl:Dd->Bool
 | .sign _=>false | .load .. =>false | .sever .. =>false|_=>true
theorem Dd.UM {d:Dd} (h:d.pl=true):d.k≠1/\d.k≠8/\d.k≠0:=by cases d <;> first|(exact Bool.noConfusion h)|(refine ⟨?_,?_,?_⟩ <;> simp [Dd.k])
theorem C_ {st:HS} (wf:Wf st) {rs:List Row} (h:R0 (ie st) rs) (hne:rs≠[]):lV st rs=none:=by
 have hl:aI rs<aC st:=by
  rcases h.lost with z|z
  . have e:aI (ie st)=aC st:=by unfold aI ie aC;rw [fR];rfl
    rw [<-e];exact z
  . exact absurd z hne
 have hr:∀r∈rs,jQ st r=none:=fun r hr=>by
  obtain ⟨r1,_,w,hw,e,le⟩:=h.row r hr
  obtain ⟨p,hp,rfl⟩:=bH.mp hw
  have e:p.nm=r.1:=e
  have le:r.2<=p.wo:=le
  unfold jQ
  rw [aD (show r.1∈eU st from bH.mpr ⟨p,hp,e⟩),aB (by omega),cN wf hp e,aB (by omega)]
 unfold lV
 rw [aD ⟨hne,h.nd⟩,List.findSome?_eq_none_iff.mpr hr]
 exact aB (by omega)
theorem Nx.pl {nms:List Str} {st:HS} (h:Nx nms st) (wf:Wf st):st.aj.length<=nms.length:=by
 have a:=t_ (l:=st.aj.map (·.nm)) (m:=nms) wf.dh (fun x hx=>by
  obtain ⟨p,hp,rfl⟩:=bH.mp hx
  have:=wf.sub p hp
  rw [h.t] at this
  exact List.mem_of_mem_take this)
 rwa [aH] at a
inductive acn (K:Fg) (vs:List V) (H:Hp) (Q:VK) (E:XK):Prop
 | mk (l:Addr) (us:List V) (rs:List Row) (_:vs=[.ref l]) (_:aK K H l us) (_:dZ H us rs) (_:rs.length<=1000) (_:∀z H',aO H H'->H' z=some (.tup (Dd.v (.cast rs)))->Q (.ref z) H')
def Sg (K:Fg):Sp:=bx (acn K)
inductive Az (nms:List Str) (st:HS) (d:Dd):Prop
 | mk (_:qu st d=none) (_:N6 d) (_:Nx nms (jy st d)) (_:d.k≠0)
inductive aco (K:Fg) (vs:List V) (H:Hp) (Q:VK) (E:XK):Prop
 | mk (a m ln:Addr) (ns:List Int) (k:Int) (nms:List Str) (c:Nat) (st:HS) (_:vs=[.ref a, .int k, .ref m, .ref ln]) (_:aK K H a (ns.map V.int)) (_:ns.length<=63) (_:0<=k) (_:k<=1000000) (_:ZT K H m st) (_:aK K H ln (nms.map V.str)) (_:Nx nms st) (_:nms.length<=50) (_:Wf st) (_:Go c st) (_:c<=90) (_:∀z d H',aO H H'->H' z=some (.tup (Dd.v d))->Az nms st d->Q (.ref z) H')
def Sh (K:Fg):Sp:=bx (aco K)
inductive Si (K:Fg) (vs:List V) (H:Hp) (Q:VK) (E:XK):Prop
 | mk (a m ln:Addr) (ns:List Int) (k way:Int) (nms:List Str) (c:Nat) (st:HS) (_:vs=[.ref a, .int k, .ref m, .ref ln, .int way]) (_:aK K H a (ns.map V.int)) (_:ns.length<=63) (_:0<=k) (_:k<=1000000) (_:ZT K H m st) (_:aK K H ln (nms.map V.str)) (_:Nx nms st) (_:nms.length<=50) (_:Wf st) (_:Go c st) (_:c<=90) (_:0<st.aj.length) (_:∀z d H',aO H H'->H' z=some (.tup (Dd.v d))->Az nms st d->Q (.ref z) H')
def Dc (K:Fg):Sp:=bx (Si K)
def jR (ps:List Q4) (qs:List Addr):List Addr:=((List.zip ps qs).filter fun x=>decide (0<x.1.2.2.1)).map fun x=>x.2
theorem Me {ps:List Q4} {qs:List Addr} {i:Nat} {p:Q4} {a:Addr} (h1:ps[i]?=some p) (h2:qs[i]?=some a):jR (ps.take (i+1)) (qs.take (i+1))=jR (ps.take i) (qs.take i)++if 0<p.2.2.1 then [a] else [] :=by
 have l1:=(dO.mp h1).1
 have l2:=(dO.mp h2).1
 unfold jR
 rw [take_snoc h1,take_snoc h2,List.zip_append (by rw [nK,nK];omega),List.filter_append,bR]
 congr 1
 show List.map _ (List.filter _ [(p,a)])=_
 by_cases c:0<p.2.2.1
 . simp [c]
 . simp [c]
theorem De:∀{ps:List Q4} {qs:List Addr},qs.length=ps.length->(jR ps qs).length=(ps.filter fun p=>decide (0<p.2.2.1)).length
 | [],[],_=>rfl
 | p::ps,a::qs,h=>by
   have ih:=De (ps:=ps) (qs:=qs) (by simpa using h)
   unfold jR at ih ⊢
   rw [List.zip_cons_cons,gZ,gZ]
   by_cases c:0<p.2.2.1
   . rw [aD (bq c),aD (bq c),bw,jZ,jZ,ih]
   . rw [aB (by simpa using c),aB (by simpa using c),ih]
 | [],_::_,h=>by simp at h
 | _::_,[],h=>by simp at h
theorem zS:∀{ps:List Q4} {qs:List Addr} {i:Nat} {q:Q4} {a:Addr},qs.length=ps.length->(ps.filter fun p=>decide (0<p.2.2.1))[i]?=some q->(jR ps qs)[i]?=some a->∃j:Nat,ps[j]?=some q/\qs[j]?=some a
 | [],[],_,_,_,_,h,_=>by simp at h
 | p::ps,b::qs,i,q,a,hl,h1,h2=>by
   unfold jR at h2
   rw [List.zip_cons_cons,gZ] at h2
   rw [gZ] at h1
   by_cases c:0<p.2.2.1
   . rw [aD (bq c)] at h1 h2
     rw [bw] at h2
     cases i with
     | zero=>exact ⟨0,by simpa using h1,by simpa using h2⟩
     | succ i=>
       obtain ⟨j,a1,a2⟩:=zS (ps:=ps) (qs:=qs) (i:=i) (by simpa using hl) (by simpa using h1) (by simpa [jR] using h2)
       exact ⟨j+1,by simpa using a1,by simpa using a2⟩
   . rw [aB (by simpa using c)] at h1 h2
     obtain ⟨j,a1,a2⟩:=zS (ps:=ps) (qs:=qs) (i:=i) (by simpa using hl) h1 h2
     exact ⟨j+1,by simpa using a1,by simpa using a2⟩
 | [],_::_,_,_,_,h,_,_=>by simp at h
 | _::_,[],_,_,_,h,_,_=>by simp at h
theorem yd:∀{ps:List Q4} {qs:List Addr},(jR ps qs).Sublist qs
 | [],_=>List.nil_sublist _
 | _::_,[]=>List.Sublist.refl _
 | p::ps,a::qs=>by
   unfold jR
   rw [List.zip_cons_cons,gZ]
   by_cases c:0<p.2.2.1
   . rw [aD (bq c),bw]
     exact List.Sublist.cons_cons _ yd
   . rw [aB (by simpa using c)]
     exact List.Sublist.cons _ yd
def P_ (l:LS):LS:={ l with aj:=l.aj.filter fun q=>decide (0<q.2.2.1) }
def lJ (rs:List Row) (qs:List Q4):List Q4:=qs.map fun q=>(q.1,q.2.1,q.2.2.1-gD rs q.1,q.2.2.2)
def UN (l:LS) (i:Nat) (p:Pt):Dd->LS
 | .mishap _ a=>{ l with aj:=l.aj.set i (p.nm,p.ow,p.wo-a,p.we) }
 | .rise _ a=>{ l with aj:=l.aj.set i (p.nm,p.ow,p.wo+a,p.we) }
 | .hand _ o=>{ l with aj:=l.aj.set i (p.nm,o,p.wo,p.we) }
 | .land _=>{ l with aj:=l.aj.set i (p.nm,p.ow,0,p.we) }
 | .sever _ y a we=>{ l with aj:=l.aj.set i (p.nm,p.ow,p.wo-a,p.we-we)++[(y,p.ow,a,we)],C9:=l.C9++[y] }
 | _=>l
def Dd.part:Dd->Option Str
 | .mishap x _=>some x
 | .rise x _=>some x
 | .hand x _=>some x
 | .land x=>some x
 | .sever x _ _ _=>some x
 | _=>none
theorem tS:∀{l:List Q4} {i:Nat} {q:Q4},(∀x∈l,0<x.2.2.1)->i<l.length->(l.set i q).filter (fun q=>decide (0<q.2.2.1))=if 0<q.2.2.1 then l.set i q else l.eraseIdx i
 | [],_,_,_,h=>by simp at h
 | x::l,0,q,hp,_=>by
   rw [OZ,gZ,IC.mpr (fun y hy=>bq (hp y (cD _ hy)))]
   by_cases c:0<q.2.2.1
   . rw [aD c,aD (bq c)]
   . rw [aB c,aB (by simpa using c)];rfl
 | x::l,i+1,q,hp,h=>by
   rw [IG,gZ,aD (bq (hp x cS)),tS (fun y hy=>hp y (cD _ hy)) (by simpa using h)]
   by_cases c:0<q.2.2.1
   . rw [aD c,aD c]
   . rw [aB c,aB c];rfl
theorem Gm {α β:Type} (f:α->β):∀(l:List α) (i:Nat),(l.eraseIdx i).map f=(l.map f).eraseIdx i
 | [],_=>rfl
 | _::_,0=>rfl
 | x::l,i+1=>by show f x::(l.eraseIdx i).map f=f x::(l.map f).eraseIdx i;rw [Gm f l i]
theorem ye (st:HS) (i:Nat) (p:Pt):br { st with aj:=st.aj.set i p }=(br st).set i (p.nm,p.ow,p.wo,p.we):=tD
theorem Df (st:HS) (i:Nat):br { st with aj:=st.aj.eraseIdx i }=(br st).eraseIdx i:=Gm _ _ _
theorem LS.ext' {a b:LS} (h1:a.own=b.own) (h2:a.aj=b.aj) (h3:a.C9=b.C9):a=b:=by cases a;cases b;cases h1;cases h2;cases h3;rfl
theorem Ke {st:HS} (wf:Wf st):∀x∈br st,0<x.2.2.1:=fun x hx=>by
 obtain ⟨p,hp,rfl⟩:=bH.mp hx
 exact (wf.jr p hp).1
theorem UO {st:HS} (wf:Wf st) {d:Dd} {i:Nat} {p:Pt} (hr:qu st d=none) (ep:st.aj[i]?=some p) (hd:d.part=some p.nm):P_ (UN (dQ st) i p d)=dQ (jy st d):=by
 have hp:=cg ep
 have hi:i<(br st).length:=by unfold br;rw [aH];exact (dO.mp ep).1
 have hP:=Ke wf
 have eg:bO st p.nm=p:=cN wf hp rfl
 have w1:=(wf.jr p hp).1
 cases d with
 | mishap x a=>
   have e:x=p.nm:=fu hd
   subst e
   refine LS.ext' rfl ?_ rfl
   show ((br st).set i _).filter _=br { st with aj:=jK st.aj p.nm a }
   obtain ⟨_,h1,h2⟩:=kh (show jQ st (p.nm,a)=none from hr)
   rw [show (bO st (p.nm,a).1).wo=p.wo by rw [eg]] at h2
   have h1:1<=a:=h1
   have h2:a<=p.wo:=h2
   rw [tS hP hi,Bo wf.dh (fun q hq=>by have:=(wf.jr q hq).1;omega) ep]
   show (if 0<p.wo-a then _ else _)=_
   by_cases c:p.wo-a=0
   . rw [aB (by omega),aD c,Df]
   . rw [aD (by omega),aB c,ye]
 | rise x a=>
   have e:x=p.nm:=fu hd
   subst e
   have h1:=(zQ (show m_ st p.nm a=none from hr)).2
   refine LS.ext' rfl ?_ rfl
   show ((br st).set i _).filter _=br (pC st p.nm _)
   rw [tS hP hi,qA wf.dh ep,ye]
   exact aD (by show 0<p.wo+a;omega)
 | hand x o=>
   have e:x=p.nm:=fu hd
   subst e
   have e1:(fT st p.nm o).own=st.own:=by unfold fT;split <;> rfl
   have e2:(fT st p.nm o).nms=st.nms:=by unfold fT;split <;> rfl
   refine LS.ext' e1.symm ?_ e2.symm
   show ((br st).set i _).filter _=br (fT st p.nm o)
   rw [tS hP hi]
   refine (aD (by show 0<p.wo;omega)).trans ?_
   unfold fT
   rw [eg]
   split
   . next c=>
     have ho:=(vt (show lW st p.nm o=none from hr)).2
     have e3:o=p.ow:=by
      have a1:=zC ho
      have a2:=zC (wf.ow p hp)
      rw [c,a2] at a1
      exact (fu a1).symm
     rw [e3]
     exact rO (wZ ep)
   . rw [qA wf.dh ep,ye]
 | land x=>
   have e:x=p.nm:=fu hd
   subst e
   refine LS.ext' rfl ?_ rfl
   show ((br st).set i _).filter _=br (vm st p.nm)
   rw [tS hP hi,ur wf hp,uo wf.dh ep]
   exact (aB (by show ¬ (0:Int)<0;omega)).trans (Df st i).symm
 | sever x y a we=>
   have e:x=p.nm:=fu hd
   subst e
   obtain ⟨_,_,h1,_,h3,_⟩:=l7 (show jx st p.nm y a we=none from hr)
   rw [eg] at h3
   refine LS.ext' rfl ?_ rfl
   show ((br st).set i _++[_]).filter _=br (pD st p.nm y a we)
   unfold pD
   rw [eg,qA wf.dh ep,List.filter_append,tS hP hi]
   show (if 0<p.wo-a then _ else _)++_=List.map _ (st.aj.set i _++[_])
   rw [aD (by omega),bR]
   congr 1
   . exact (ye st i { p with wo:=p.wo-a,we:=p.we-we }).symm
   . show List.filter _ [((y,p.ow,a,we):Q4)]=[(y,p.ow,a,we)]
     rw [gZ,aD (bq (show 0<a by omega))];rfl
 | _=>exact absurd hd (by simp [Dd.part])
def afB (st:HS):Dd->LS
 | .load x o wo we=>{ dQ st with aj:=br st++[(x,o,wo,we)],C9:=st.nms++[x] }
 | .cast rs=>{ dQ st with aj:=lJ rs (br st) }
 | _=>dQ st
theorem yf {st:HS} (wf:Wf st) {d:Dd} (hr:qu st d=none) (hd:d.part=none) (hs:d.k≠0):P_ (afB st d)=dQ (jy st d):=by
 have hP:=Ke wf
 have all:(br st).filter (fun q=>decide (0<q.2.2.1))=br st:=IC.mpr fun x hx=>bq (hP x hx)
 cases d with
 | load x o wo we=>
   obtain ⟨_,_,_,h4,_⟩:=vq hr
   refine LS.ext' rfl ?_ rfl
   show (br st++[(x,o,wo,we)]).filter _=List.map _ (st.aj++[_])
   rw [List.filter_append,all,bR]
   congr 1
   show List.filter _ [((x,o,wo,we):Q4)]=[(x,o,wo,we)]
   rw [gZ,aD (bq (show 0<wo by omega))];rfl
 | cast rs=>
   obtain ⟨h1,h2,h3,h4⟩:=vA hr
   refine LS.ext' (nS st rs).symm ?_ (Sf (d:= .cast rs) (by simp [Dd.k]) (by simp [Dd.k])).symm
   show pA rs (br st)=br (bV st rs)
   unfold bV
   rw [CS,CQ]
   refine (FY rs (br st) h2 (fun q hq=>hP q hq) (fun x hx q hq e=>?_)).symm
   obtain ⟨p,hp,rfl⟩:=bH.mp hq
   have:=(kh (h3 x hx)).2.2
   rw [cN wf hp e] at this
   exact this
 | award o a=>
   refine LS.ext' ?_ ?_ ?_
   . show st.own=(aZ st _ _ _).own;unfold aZ;rw [rP]
   . show List.filter _ (br st)=br (aZ st _ _ _);rw [CQ,all]
   . show st.nms=(aZ st _ _ _).nms;unfold aZ;rw [vf]
 | still=>exact LS.ext' rfl all rfl
 | sign o=>exact absurd rfl hs
 | _=>exact absurd hd (by simp [Dd.part])
inductive acp (K:Fg) (vs:List V) (H:Hp) (Q:VK) (E:XK):Prop
 | mk (l:Addr) (own:List Str) (n:Nat) (ρ:cR) (_:vs=[.ref l]) (_:aK K H l (own.map V.str)) (_:Gh ρ H) (_:own.length<=1000) (_:∀ρ' B H',Gh ρ' H'->bP n ρ' B H' ⟨own,[],[]⟩->(∀b o,H b=some o->H' b=some o/\ρ' b=ρ b)->Q (.ref B.m) H')
def Sj (K:Fg):Sp:=bx (acp K)
inductive UP (K:Fg) (vs:List V) (H:Hp) (Q:VK) (E:XK):Prop
 | mk (n:Nat) (ρ:cR) (B:LA) (st:HS) (i:Nat) (p:Pt) (a z:Addr) (d:Dd) (_:vs=[.ref B.m, .ref a, .ref z]) (_:H z=some (.tup d.v)) (_:Gh ρ H) (_:bP n ρ B H (dQ st)) (_:st.aj[i]?=some p) (_:B.qs[i]?=some a) (_:d.part=some p.nm) (_:st.aj.length<1000) (_:st.nms.length<1000) (_:∀ρ' B' H',Gh ρ' H'->bP n ρ' B' H' (UN (dQ st:_) i p d)->B'.m=B.m->Fr n ρ H ρ' H'->Q .b9 H')
def Gn (K:Fg):Sp:=bx (UP K)
inductive XA (K:Fg) (vs:List V) (H:Hp) (Q:VK) (E:XK):Prop
 | mk (n c:Nat) (ρ:cR) (B:LA) (st:HS) (z:Addr) (d:Dd) (_:vs=[.ref B.m, .ref z]) (_:H z=some (.tup d.v)) (_:Gh ρ H) (_:bP n ρ B H (dQ st)) (_:Wf st) (_:Go c st) (_:c<=90) (_:qu st d=none) (_:d.k≠0) (_:∀ρ' B' H',Gh ρ' H'->bP n ρ' B' H' (dQ (jy st d))->B'.m=B.m->Fr n ρ H ρ' H'->Q .b9 H')
def Kf (K:Fg):Sp:=bx (XA K)
inductive XC (T:TC) (K:Fg) (vs:List V) (H:Hp) (Q:VK) (E:XK):Prop
 | mk (n c:Nat) (ρ:cR) (A:HA) (st:HS) (z:Addr) (d:Dd) (_:vs=[.ref A.a, .ref z]) (_:dm K H z d.v) (_:HH T n ρ A H st) (_:Go c st) (_:c<=90) (_:st.kn+100<=1000000) (_:st.own.length<100) (_:qu st d=none) (_:vd T n ρ A H (jy st d:_) fun H'=>Q .b9 H')
def Kg (T:TC) (K:Fg):Sp:=bx (XC T K)
theorem UQ (B:LA) (l:Addr):putK (iN B) (Sum.inr "parts") (.ref l)=iN { B with lp:=l }:=rfl
theorem Oj:∀{rs:List Row} {i:Nat} {r:Row},rs[i]?=some r->(jw rs)[2*i]?=some (.str r.1)/\(jw rs)[2*i+1]?=some (.int r.2)
 | [],_,_,h=>by simp at h
 | x::rs,0,r,h=>by
   have e:x=r:=by simpa using h
   subst e
   exact ⟨Z,Z⟩
 | x::rs,i+1,r,h=>by
   obtain ⟨a,b⟩:=Oj (rs:=rs) (i:=i) (by simpa using h)
   rw [show 2*(i+1)=2*i+1+1 by omega]
   exact ⟨a,b⟩
theorem Ol {rs:List Row} {i:Nat} {r:Row} (h:rs[i]?=some r):(Dd.v (.cast rs))[1+2*i]?=some (.str r.1)/\(Dd.v (.cast rs))[2+2*i]?=some (.int r.2):=by
 obtain ⟨a,b⟩:=Oj h
 rw [show 1+2*i=2*i+1 by omega,show 2+2*i=2*i+1+1 by omega]
 exact ⟨a,b⟩
theorem yg (rs:List Row):(Dd.v (.cast rs)).length=2*rs.length+1:=by show (jw rs).length+1=_;rw [zM]
theorem Sk (m:Nat):qf 1 ((2*m+1:Nat):Int) 2=m:=by
 unfold qf Builtin.Range.rangeSize
 rw [aD (by decide)]
 split <;> omega
theorem Sl {qs:List Q4} (nd:(qs.map fun q:Q4=>q.1).Nodup) {rs:List Row} {r:Row} {j:Nat} {q:Q4} (hq:qs[j]?=some q) (e:q.1=r.1) (h:r.1∉rs.map (fun r:Row=>r.1)):lJ (rs++[r]) qs=(lJ rs qs).set j (q.1,q.2.1,q.2.2.1-r.2,q.2.2.2)/\(lJ rs qs)[j]?=some q:=by
 have hj:=(dO.mp hq).1
 constructor
 . refine List.ext_getElem? fun k=>?_
   by_cases c:j=k
   . subst c
     rw [p_ (by unfold lJ;rw [aH];exact hj)]
     unfold lJ
     rw [cA,hq]
     show some (q.1,q.2.1,q.2.2.1-gD (rs++[r]) q.1,q.2.2.2)=_
     rw [x8 h,aD e.symm]
   . rw [yM c]
     unfold lJ
     rw [cA,cA]
     cases ek:qs[k]? with
     | none=>rfl
     | some x=>
       show some (x.1,x.2.1,x.2.2.1-gD (rs++[r]) x.1,x.2.2.2)=some (x.1,x.2.1,x.2.2.1-gD rs x.1,x.2.2.2)
       rw [x8 h,aB]
       intro z
       have r1:(qs.map fun q:Q4=>q.1)[k]?=some x.1:=by rw [cA,ek];rfl
       have r2:(qs.map fun q:Q4=>q.1)[j]?=some q.1:=by rw [cA,hq];rfl
       exact c ((O7 (by rw [aH];exact hj) nd).mp (r2.trans (by rw [e,z];exact r1.symm)))
 . unfold lJ
   rw [cA,hq]
   show some (q.1,q.2.1,q.2.2.1-gD rs q.1,q.2.2.2)=some q
   rw [e,x6 h,uX,<-e]
theorem UR (qs:List Q4):lJ [] qs=qs:=by
 unfold lJ
 rw [show (fun q:Q4=>(q.1,q.2.1,q.2.2.1-gD [] q.1,q.2.2.2))=id from funext fun q=>by rw [zH,uX];rfl,List.map_id]
theorem Kh (rs:List Row) (qs:List Q4):(lJ rs qs).length=qs.length:=by unfold lJ;rw [aH]
theorem Qa (rs:List Row) (qs:List Q4):(lJ rs qs).map (fun q:Q4=>q.1)=qs.map fun q:Q4=>q.1:=by unfold lJ;rw [fR];rfl
theorem Qc (st:HS):(br st).map (fun q:Q4=>q.1)=eU st:=by unfold br eU;rw [fR];rfl
def w6 (qs:List Q4):List Row:=qs.map fun q=>(q.1,q.2.2.1)
theorem Gp (qs:List Q4):(w6 qs).map (fun r:Row=>r.1)=qs.map fun q:Q4=>q.1:=by unfold w6;rw [fR];rfl
theorem bP.nw {K:Fg} {n:Nat} {ρ:cR} {B:LA} {H:Hp} {l:LS} (h:bP n ρ B H l):xZ K H (B.qs.map V.ref) (w6 l.aj):=by
 refine ⟨by unfold w6;rw [aH,aH];exact h.ql,fun i r e=>?_⟩
 unfold w6 at e
 rw [cA] at e
 obtain ⟨q,eq,rfl⟩:=nH.mp e
 obtain ⟨a,ea,k1,_⟩:=h.find eq
 exact ⟨a,_,by rw [cA,ea];rfl, .inl (aK.of k1),Z,Z⟩
theorem Dd.ZU {d:Dd} {x:Str} (h:d.part=some x):d.v[1]?=some (.str x)/\d.k≠1/\d.k≠2/\d.k≠3/\d.k≠9:=by
 cases d <;> first|(cases h;refine ⟨rfl,?_,?_,?_,?_⟩ <;> simp [Dd.k])|(cases h)
theorem XD {st:HS} {d:Dd} {x:Str} (h:d.part=some x) (hr:qu st d=none):x∈eU st:=by
 cases d with
 | mishap y a=>cases h;exact (kh (show jQ st (x,a)=none from hr)).1
 | rise y a=>cases h;exact (zQ (show m_ st x a=none from hr)).1
 | hand y o=>cases h;exact (vt (show lW st x o=none from hr)).1
 | land y=>cases h;exact vz hr
 | sever y z a we=>cases h;exact (l7 (show jx st x z a we=none from hr)).1
 | _=>cases h
theorem US (l:LS) (i:Nat) (p:Pt) (d:Dd):(UN l i p d).aj.length<=l.aj.length+1:=by
 cases d <;> first|(show (List.set _ _ _).length<=_;rw [iL];omega)|(show (List.set _ _ _++[_]).length<=_;rw [dj,iL];exact aN _)|exact Aj _
def iw (st:HS) (ds:List Dd):HS:=ds.foldl jy st
inductive mH (H:Hp):List V->List Dd->Prop
 | nil:mH H [] []
 | cons {a:Addr} {d:Dd} {vs:List V} {ds:List Dd}:H a=some (.tup d.v)->mH H vs ds->mH H (.ref a::vs) (d::ds)
theorem mH.mono {H H':Hp} {vs:List V} {l:List Dd} (h:mH H vs l) (g:∀b xs,H b=some (.tup xs)->H' b=some (.tup xs)):mH H' vs l:=by
 induction h with
 | nil=>exact .nil
 | cons a _ ih=>exact .cons (g _ _ a) ih
theorem mH.length {H:Hp} {vs:List V} {l:List Dd} (h:mH H vs l):vs.length=l.length:=by
 induction h with
 | nil=>rfl
 | cons _ _ ih=>simp [ih]
theorem mH.get {H:Hp} {vs:List V} {l:List Dd} (h:mH H vs l):∀{i:Nat} {x:V},vs[i]?=some x->∃a d,x = .ref a/\l[i]?=some d/\H a=some (.tup d.v):=by
 induction h with
 | nil=>intro i x e;simp at e
 | @cons a r vs rs e0 _ ih=>
   intro i x e
   cases i with
   | zero=>simp at e;subst e;exact ⟨a,r,Z,Z,e0⟩
   | succ i=>simp at e;obtain ⟨a',r',e1,e2,e3⟩:=ih e;exact ⟨a',r',e1,by simpa using e2,e3⟩
theorem mH.snoc {H:Hp} {vs:List V} {l:List Dd} {a:Addr} {d:Dd} (h:mH H vs l) (e:H a=some (.tup d.v)):mH H (vs++[.ref a]) (l++[d]):=by
 induction h with
 | nil=>exact .cons e .nil
 | cons a _ ih=>exact .cons a ih
def w_ (st:HS) (ds:List Dd):Prop:=∀(i:Nat) (d:Dd),ds[i]?=some d->qu (iw st (ds.take i)) d=none/\N6 d/\d.k≠0
theorem w_.nil (st:HS):w_ st [] :=fun i d h=>by simp at h
theorem w_.snoc {st:HS} {ds:List Dd} {d:Dd} (h:w_ st ds) (h1:qu (iw st ds) d=none) (h2:N6 d) (h3:d.k≠0):w_ st (ds++[d]):=fun i x e=>by
 rcases Nat.lt_or_ge i ds.length with c|c
 . rw [yI c] at e
   rw [List.take_append_of_le_length (by omega)]
   exact h i x e
 . have hi:i=ds.length:=by
    have:=(dO.mp e).1
    rw [dj] at this
    have:i<ds.length+1:=this
    omega
   subst hi
   rw [BW (aN _),Ah] at e
   cases e
   rw [List.take_left']
   . exact ⟨h1,h2,h3⟩
   . rfl
theorem pG (st:HS) (ds:List Dd) (d:Dd):iw st (ds++[d])=jy (iw st ds) d:=by unfold iw;rw [Ba];rfl
theorem N6.g {d:Dd} (h:N6 d):ZR d:=by
 cases d with
 | load x o wo we=>obtain ⟨_,_,⟨_,h1⟩,⟨_,h2⟩⟩:=h;exact ⟨by omega,h2⟩
 | rise x a=>obtain ⟨_,⟨_,h1⟩⟩:=h;show a<=_;omega
 | _=>exact True.intro
theorem ZV {st:HS} {d:Dd} (h:d.k≠0):(jy st d).own=st.own:=by
 cases d with
 | sign o=>exact absurd rfl h
 | cast rs=>exact nS st rs
 | award o a=>show (aZ st _ _ _).own=_;unfold aZ;rw [rP]
 | hand x o=>show (fT st x o).own=_;unfold fT;split <;> rfl
 | _=>rfl
structure GW (c m:Nat) (st:HS):Prop where
 g:Go c st
 wf:Wf st
 kn:st.kn<=m
theorem GW.do {c m:Nat} {st:HS} (h:GW c m st) (hc:c<=90) (hm:m+100<=1000000) (ho:st.own.length<100) {d:Dd} (hr:qu st d=none) (hb:ZR d):GW (c+1) (m+100) (jy st d):=
 ⟨acj h.g h.wf hc hr hb,ack h.g h.wf hc (by have:=h.kn;omega) ho hr,by have:=h.kn;have:=acm st d;omega⟩
theorem w_.go {c m:Nat} {st:HS} {ds:List Dd} (h:w_ st ds) (g:GW c m st) (hc:c+ds.length<=91) (hm:m+100*ds.length<=1000000) (ho:st.own.length<100):∀i≤ds.length,GW (c+i) (m+100*i) (iw st (ds.take i))/\(iw st (ds.take i)).own=st.own:=by
 intro i
 induction i with
 | zero=>intro _;exact ⟨g,Z⟩
 | succ i ih=>
   intro hi
   obtain ⟨g1,e1⟩:=ih (by omega)
   have ei:=bD (show i<ds.length by omega)
   obtain ⟨h1,h2,h3⟩:=h i _ ei
   rw [take_snoc ei,pG]
   have:=g1.do (by omega) (by omega) (by rw [e1];exact ho) h1 h2.g
   exact ⟨by rw [show c+(i+1)=c+i+1 by omega,show m+100*(i+1)=m+100*i+100 by omega];exact this,by rw [ZV h3,e1]⟩
inductive ZW (K:Fg) (vs:List V) (H:Hp) (Q:VK) (E:XK):Prop
 | mk (n c m:Nat) (ρ:cR) (B:LA) (st:HS) (a ln:Addr) (ns:List Int) (k:Int) (nms:List Str) (many:Nat) (_:vs=[.ref a, .int k, .ref B.m, .ref ln, .int (many:Int)]) (_:Gh ρ H) (_:bP n ρ B H (dQ st)) (_:GW c m st) (_:c+many<=91) (_:m+100*many<=1000000) (_:st.own.length<100) (_:yy K ρ H a (ns.map V.int)) (_:ns.length<=63) (_:0<=k) (_:k<=100000) (_:yy K ρ H ln (nms.map V.str)) (_:Nx nms st) (_:nms.length<=50)
   (_:∀l zs ds ρ' B' H',Gh ρ' H'->bP n ρ' B' H' (dQ (iw st ds))->B'.m=B.m->Fr n ρ H ρ' H'->H' l=some (.lst zs)->ρ' l=none->mH H' zs ds->w_ st ds->ds.length=many->Nx nms (iw st ds)->Q (.ref l) H')
def Om (K:Fg):Sp:=bx (ZW K)
def sN (sp:Sp):Sp:=fun vs H Q _=>sp vs H Q E0
theorem Mx.n {P:Program} {w:World} {K:Fg} {mg:SO} {base:Heap} {k:Nat} {C:Addr} {m:Str} {ps:List Str} {sp:Sp} (D:Mx P w K mg base k C m ps sp):Mn P w K mg base k C m ps (sN sp):=D.mn fun _ _ _ _ h=>h
theorem Sm {st:HS} {o:Str} (h:x9 st o=none):isNm o=true/\o∉st.own:=by
 unfold x9 at h
 split at h
 . split at h
   . cases h
   . exact ⟨by assumption,by assumption⟩
 . cases h
def iR (own:List Str):HS:=own.foldl gO hs0
theorem Gq:∀(l:List Str) (st:HS),Wf st->(st.own++l).Nodup->st.own.length+l.length<=100->Wf (l.foldl gO st)
 | [],_,w,_,_=>w
 | o::l,st,w,nd,hl=>by
   rw [jH]
   rw [jZ] at hl
   have h1:o∉st.own:=fun m=>(O6.mp nd).2.2 o m o cS rfl
   refine Gq l (gO st o) (Eb w h1 (by omega)) ?_ ?_
   . show ((st.own++[o])++l).Nodup
     rw [II];exact nd
   . show (st.own++[o]).length+l.length<=100
     rw [dj];show st.own.length+1+l.length<=100;omega
theorem gw0 {own:List Str} (nd:own.Nodup) (h0:0<own.length) (h1:own.length<=100) (hon:∀o∈own,isNm o=true):GW 0 0 (iR own):=by
 obtain ⟨k1,k2,k3,k4,k5,k6⟩:=pB own hs0 rfl (fun u hu=>absurd hu (by simp [hs0]))
 have eo:(iR own).own=own:=by unfold iR;rw [ve];rfl
 have k1:(iR own).aj=[] :=k1
 have k2:(iR own).nms=[] :=k2
 have k3:(iR own).stp=[] :=k3
 have k4:(iR own).prod=1:=k4
 have k5:(iR own).d_=[] :=k5
 have k6:∀u∈(iR own).bL,u=0:=k6
 refine ⟨⟨fun u hu=>?_,by rw [k3];exact aN _,?_,fun p hp=>?_,fun p hp=>?_,by rw [k1];exact aN _,by rw [k2];exact aN _,by rw [eo];exact h0,fun x hx=>?_,by rw [eo];exact hon,fun p hp=>?_,by rw [k5];exact aN _,fun a ha=>?_⟩,Gq own hs0 wf0 nd (by show 0+_<=_;omega),?_⟩
 . rw [k6 u hu];exact oU (by decide +kernel)
 . rw [k4];exact oU (by decide +kernel)
 . rw [k1] at hp;cases hp
 . rw [k1] at hp;cases hp
 . rw [k2] at hx;cases hx
 . rw [k1] at hp;cases hp
 . rw [k5] at ha;cases ha
 . rw [show (iR own).kn=0 from JS own hs0];exact aN _
theorem El (own:List Str):(iR own).own=own:=by unfold iR;rw [ve];rfl
theorem UT (own:List Str):dQ (iR own)=⟨own,[],[]⟩:=by
 obtain ⟨k1,k2,_⟩:=pB own hs0 rfl (fun u hu=>absurd hu (by simp [hs0]))
 have k1:(iR own).aj=[] :=k1
 exact LS.ext' (El own) (by show List.map _ (iR own).aj=[];rw [k1];rfl) k2
theorem ZX {own nms:List Str} (nd:nms.Nodup) (h:∀x∈nms,isNm x=true):Nx nms (iR own):=by
 obtain ⟨_,k2,_⟩:=pB own hs0 rfl (fun u hu=>absurd hu (by simp [hs0]))
 have k2:(iR own).nms=[] :=k2
 exact ⟨by rw [k2];rfl,nd,h⟩
def fX (st:HS) (i:Nat):Int:=(st.aj.map fun p=>p.wo*p.sc*p.row.getD i 0).sum+aC st*st.bz.getD i 0
def AA (st:HS) (o:Str):Int:=((st.d_.filter fun a=>decide (a.ow=o)).map fun a=>a.wo).sum
def d7 (st:HS) (o:Str):Rat:=Jm.fr (fX st (st.own.idxOf o)) st.prod
def ZY (st:HS) (o:Str):Rat:=Jm.fr (st.bL.getD (st.own.idxOf o) 0) st.prod
def acq (st:HS) (o:Str):Rat:=Jm.fr (fX st (st.own.idxOf o)+st.bL.getD (st.own.idxOf o) 0+AA st o*st.prod) st.prod
structure Em (st:HS):Prop where
 wf:Wf st
 wo:∀p∈st.aj,Jm.Sz 60 p.wo
 wh:Jm.Sz 60 (aC st)
 la:∀o,Jm.Sz 60 (AA st o)
inductive Sn (T:TC) (vs:List V) (H:Hp) (Q:VK) (E:XK):Prop
 | mk (n ρ A st:_) (i:Nat) (_:vs=[.ref A.a, .int (i:Int)]) (_:aL T n ρ A H st) (_:Em st) (_:i<st.own.length) (_:∀H',aO H H'->Q (.int (fX st i)) H')
def Dg (T:TC):Sp:=bx (Sn T)
inductive XE (T:TC) (vs:List V) (H:Hp) (Q:VK) (E:XK):Prop
 | mk (n ρ A st o:_) (_:vs=[.ref A.a, .str o]) (_:aL T n ρ A H st) (_:Em st) (_:o∈st.own) (_:∀r H',aO H H'->H' r=some (qe (d7 st o))->Q (.ref r) H')
def Kl (T:TC):Sp:=bx (XE T)
theorem getD_at {l:List Int} {i:Nat} (h:i<l.length):rH (l.map V.int) (i:Int)=some (.int (l.getD i 0)):=aA (by rw [cA,mw,bD h];rfl)
theorem Gr {l:List Int} {i:Nat} (h:i<l.length):l.getD i 0∈l:=by rw [mw,bD h];exact Ad h
section
variable {X:Cx}
end
theorem vB {st:HS} (wf:Wf st) {i:Nat} (hi:i<st.own.length):fX st i=(st.aj.map fun p=>p.wo*(aS st p).getD i 0).sum:=by
 unfold fX aC
 have hc:=wf.fV
 have h:∀p∈st.aj,(aS st p).getD i 0=p.sc*p.row.getD i 0+st.bz.getD i 0:=fun p hp=>by
  unfold aS
  exact qt (f:=fun r c=>p.sc*r+c) (by show p.sc*0+0=0;omega) (by rw [wf.rows p hp,hc]) i
 generalize st.bz.getD i 0=k at *
 revert h
 generalize st.aj=ps
 intro h
 induction ps with
 | nil=>show (0:Int)+0*k=0;omega
 | cons p ps ih=>
   have e:=h p cS
   have:=ih fun x hx=>h x (cD _ hx)
   rw [bw,bw,bw,b8,b8,b8,e,<-this]
   grind
theorem Gs {st:HS} (wf:Wf st) {i:Nat} (hi:i<st.own.length):0<=fX st i:=by
 rw [vB wf hi]
 refine R7 fun x hx=>?_
 obtain ⟨p,hp,rfl⟩:=bH.mp hx
 have h1:=(wf.jr p hp).1
 have h2:=Bt (fun t ht=>(wf.nQ p hp t ht).1) i
 exact oM (by omega) h2
theorem sum_rows {f:Pt->List Int} {n:Nat} {b:Int}:∀(ps:List Pt),(∀p∈ps,(f p).length=n/\(f p).sum=b)->((List.range n).map fun i=>(ps.map fun p=>p.wo*(f p).getD i 0).sum).sum=(ps.map fun p=>p.wo).sum*b
 | [],_=>by
   have:(List.range n).map (fun i=>(([] :List Pt).map fun p=>p.wo*(f p).getD i 0).sum)=(List.range n).map fun _=>(0:Int)*0:=by congr 1
   rw [this,qZ];simp
 | p::ps,h=>by
   obtain ⟨h1,h2⟩:=h p cS
   have ih:=sum_rows ps fun x hx=>h x (cD _ hx)
   have e:(List.range n).map (fun i=>((p::ps).map fun p=>p.wo*(f p).getD i 0).sum)=(List.range n).map fun i=>(f p).getD i 0*p.wo+(ps.map fun p=>p.wo*(f p).getD i 0).sum:=by
    refine vI fun i _=>?_
    rw [bw,b8,mZ]
   rw [e,AW,qZ,Mc _ _ h1,ih,h2,bw,b8]
   grind
theorem So {st:HS} (wf:Wf st) (hs:∀p∈st.aj,(aS st p).sum=st.prod):((List.range st.own.length).map (fX st)).sum=aC st*st.prod:=by
 have e:(List.range st.own.length).map (fX st)=(List.range st.own.length).map fun i=>(st.aj.map fun p=>p.wo*(aS st p).getD i 0).sum:=vI fun i hi=>vB wf (qQ.mp hi)
 rw [e]
 exact sum_rows st.aj fun p hp=>⟨C5 wf hp,hs p hp⟩
structure Mo (c:Nat) (st:HS):Prop where
 pz:st.bL.sum=0
 ao:∀a∈st.d_,a.ow∈st.own
 aw:∀a∈st.d_,1<=a.wo/\a.wo<=1000000000000*((c:Int)+1)
theorem Mo.mono {c:Nat} {st:HS} (m:Mo c st):Mo (c+1) st:=⟨m.pz,m.ao,fun a ha=>by have:=m.aw a ha;omega⟩
theorem Km {c:Nat} {st:HS} (m:Mo c st) (kept whole:Int) (added:List Int):Mo (c+1) (aZ st kept whole added):=by
 unfold aZ
 refine ⟨?_,?_,?_⟩
 . rw [FQ]
   show (st.bL.map fun x=>x*_).sum=0
   rw [qZ (fun x=>x),List.map_id',m.pz,B9]
 . rw [zy,rP];exact m.ao
 . rw [zy];exact m.mono.aw
theorem UU {st:HS} (wf:Wf st) {p:Pt} (hp:p∈st.aj) (hs:(aS st p).sum=st.prod):(nT st p).sum=st.bL.sum:=by
 have e:=vP (l:=gX st p) (i:=st.own.idxOf p.ow) (x:=-(p.wo*st.prod)) (by rw [zR wf hp];exact yH (wf.ow p hp))
 have e2:(gX st p).sum=st.bL.sum+p.wo*st.prod:=by
  unfold gX
  rw [Bu _ (by rw [C5 wf hp,wf.nO]),hs]
 unfold nT
 rw [Int.sub_eq_add_neg,e,e2]
 omega
theorem Qd {c:Nat} {st:HS} (m:Mo c st) (g:Go c st) (wf:Wf st) {d:Dd} (hr:qu st d=none):Mo (c+1) (jy st d):=by
 cases d with
 | sign o=>
   refine ⟨?_,fun a ha=>A1 _ (m.ao a ha),m.mono.aw⟩
   show (st.bL++[0]).sum=0
   rw [List.sum_append,m.pz];rfl
 | cast rs=>
   show Mo (c+1) (bV st rs)
   unfold bV
   rw [lF]
   have:=Km m (aC st-aI rs) (aC st) (cV st rs)
   exact ⟨this.pz,this.ao,this.aw⟩
 | award o a=>exact Km m _ _ _
 | hand x o=>show Mo (c+1) (fT st x o);unfold fT;split <;> exact ⟨m.pz,m.ao,m.mono.aw⟩
 | land x=>
   obtain ⟨i,p,e1,rfl⟩:=kU (vz hr)
   have hp:=cg e1
   show Mo (c+1) (vm st p.nm)
   rw [ur wf hp]
   have S:∀{M:jN->Prop},(∀a∈st.d_,M a)->M ⟨p.nm,p.ow,p.wo,o8 st p⟩->∀a∈st.d_++[⟨p.nm,p.ow,p.wo,o8 st p⟩],M a:=fun h1 h2 a ha=>by
    rcases gb.mp ha with z|z
    . exact h1 a z
    . rw [fU.mp z];exact h2
   have w:=g.wo p hp
   exact ⟨by show (nT st p).sum=0;rw [UU wf hp (g.sum p hp),m.pz],S m.ao (wf.ow p hp),S m.mono.aw ⟨(wf.jr p hp).1,by show p.wo<=_;omega⟩⟩
 | _=>exact ⟨m.pz,m.ao,m.mono.aw⟩
theorem yD:∀{l:List jN} {m:Int} (f:jN->Bool),(∀a∈l,1<=a.wo/\a.wo<=m)->0<=((l.filter f).map fun a=>a.wo).sum/\((l.filter f).map fun a=>a.wo).sum<=m*(l.length:Int)
 | [],m,_,_=>by show 0<=(0:Int)/\(0:Int)<=m*0;omega
 | a::l,m,f,h=>by
   have h0:=h a cS
   have ih:=yD (l:=l) (m:=m) f fun x hx=>h x (cD _ hx)
   rw [gZ,jZ,show (((l.length+1:Nat)):Int)=(l.length:Int)+1 from by omega,qT,xH]
   by_cases c:f a=true
   . rw [aD c,bw,b8];omega
   . rw [aB c];omega
theorem Go.st {c:Nat} {st:HS} (g:Go c st) (m:Mo c st) (wf:Wf st) (hc:c<=91):Em st:=by
 refine ⟨wf,g.sz wf hc,(g.whole wf hc).2,fun o=>?_⟩
 have h:=yD (m:=92000000000000) (fun a:jN=>decide (a.ow=o)) fun a ha=>by have:=m.aw a ha;omega
 have hl:=g.al
 have h2:(92000000000000:Int)*(st.d_.length:Int)<=92000000000000*91:=by omega
 have h3:AA st o<=92000000000000*91:=Int.le_trans h.2 h2
 have h1:0<=AA st o:=h.1
 exact (show Jm.Sz 60 (92000000000000*91:Int) from oU (by decide +kernel)).of_le (by omega)
theorem UW {st:HS} (wf:Wf st) (hs:∀p∈st.aj,(aS st p).sum=st.prod) {i:Nat} (hi:i<st.own.length):fX st i<=aC st*st.prod:=by
 rw [<-So wf hs]
 exact (J6 (l:=(List.range st.own.length).map (fX st)) fun t ht=>by obtain ⟨j,hj,rfl⟩:=bH.mp ht;exact Gs wf (qQ.mp hj)).2 _ (bH.mpr ⟨i,qQ.mpr hi,Z⟩)
theorem En {c:Nat} {st:HS} (g:Go c st) (m:Mo c st) (wf:Wf st) (hc:c<=91) {o:Str} (ho:o∈st.own):Jm.NP 6000 (d7 st o)/\Jm.NP 6000 (ZY st o)/\Jm.NP 6000 (acq st o):=by
 have hi:=yH ho
 have ok:=g.st m wf hc
 have p1:0<st.prod:=by have:=wf.d9;omega
 have zp:Jm.Sz 6000 st.prod:=g.prod.mono (by omega)
 have z1:Jm.Sz (60+(64*c+1)) (fX st (st.own.idxOf o)):=(ok.wh.mul g.prod).of_le (by have:=UW wf g.sum hi;have:=Gs wf hi;omega)
 have z2:Jm.Sz (64*c+61) (st.bL.getD (st.own.idxOf o) 0):=g.bL _ (Gr (by rw [wf.nO];exact hi))
 have z3:=(ok.la o).mul g.prod
 have z4:=(z1.mono (show 60+(64*c+1)<=64*c+61 by omega)).kN z2
 have z5:=z4.kN (z3.mono (show 60+(64*c+1)<=64*c+61+1 by omega))
 exact ⟨Jm.Pr p1 (z1.mono (by omega)) zp,Jm.Pr p1 (z2.mono (by omega)) zp,Jm.Pr p1 (z5.mono (by omega)) zp⟩
theorem mo0 {own:List Str}:Mo 0 (iR own):=by
 obtain ⟨_,_,_,_,k5,k6⟩:=pB own hs0 rfl (fun u hu=>absurd hu (by simp [hs0]))
 have k5:(iR own).d_=[] :=k5
 have k6:∀u∈(iR own).bL,u=0:=k6
 refine ⟨?_,(fun a ha=>by rw [k5] at ha;cases ha),fun a ha=>by rw [k5] at ha;cases ha⟩
 generalize (iR own).bL=l at *
 induction l with
 | nil=>rfl
 | cons a l ih=>rw [b8,k6 a cS,ih fun u hu=>k6 u (cD _ hu)];rfl
theorem XF (st:HS):(br st).map (fun q:Q4=>q.2.2.1)=st.aj.map fun p=>p.wo:=by unfold br;rw [fR];rfl
section
variable {prog:Program} {w:World} {A:Around} {R:Result->Shared->Prop} {s:Shared}
theorem GK {kx vx target iter:Expr} {scope:Scope} {pos:Pos} {it:Value} {D:Addr} {env:Env} (J:Nat->Shared->Prop)
  (turn:∀n s,J n s->wpAny (model prog w) A (pyNext it) (fun r s₁=>match r with
    | none=>R (.ok .next) s₁
    | some v=>wpAny (model prog w) A (letOwnedTupleGo target it v) (fun _ s₂=>wpAny (model prog w) A (assign target env v) (fun _ s₃=>wpAny (model prog w) A (eval kx env) (fun kv s₄=>wpAny (model prog w) A (eval vx env) (fun vv s₅=>
            wpAny (model prog w) A (dictSet D kv vv) (fun _ s₆=>∃m,m<n/\J m s₆) (fun _ _=>False) s₅) (fun _ _=>False) s₄) (fun _ _=>False) s₃) (fun _ _=>False) s₂) (fun _ _=>False) s₁) (fun _ _=>False) s)
  (n:Nat) (h:J n s):codeAny (model prog w) A (.compLoop (.DictComp kx vx [⟨target,iter,[],0⟩] scope pos) 0 it (.ref D) env) R s:=by
 refine codeAny_loop rfl J (fun n s hI=>?_) n h
 show wpAny _ A ((compTurn (.DictComp kx vx [⟨target,iter,[],0⟩] scope pos) 0 it (.ref D) env).onRaise (fun x=>do noteFrame x env;theTreesLotGoes x)) _ _ s
 refine wpAny_noted ?_
 rw [compTurn_dict]
 refine az (xD (az (gj (turn n s hI) (fun r s₁ h₁=>?_) fun _ _ h'=>h'.elim)))
 cases r with
 | none=>exact aV h₁
 | some v=>
   refine az (gj h₁ (fun _ s₂ h₂=>az (gj h₂ (fun _ s₃ h₃=>?_) fun _ _ h'=>h'.elim)) fun _ _ h'=>h'.elim)
   simp only [xC,pure_bind,if_true]
   refine az (az (gj h₃ (fun kv s₄ h₄=>az (xE (gj h₄ (fun vv s₅ h₅=>az (xD (xE (gj h₅ (fun _ s₆ h₆=>?_) fun _ _ h'=>h'.elim)))) fun _ _ h'=>h'.elim))) fun _ _ h'=>h'.elim))
   exact aV ⟨Z,h₆⟩
end
section
variable {X:Cx}
theorem Eo {M:Model} {A:Around} {Q:VS} {E:VS} {s:Shared} (h:Q (.ref s.heap.objs.size) { s with heap:=s.heap.push { cls:= .type "dict",data:= .dict #[] } }):wpAny M A newDict Q E s:=by
 unfold newDict
 exact vJ h
theorem ZZ {pins:AO} {σ:St} {H:Hp} {s:Shared} {a:Addr} {kvs:List (Key×V)} {k:Key} {v:V} {u r:Value} {A:Around} {E:VS} {Q:Unit->Shared->Prop} (I:Inv X pins σ H s) (e:H a=some (.dK kvs)) (l:kvs.length<sizeLine) (ry:RelV (kV k) u) (rv:RelV v r) (h:∀s',Inv X pins σ (upd H a (.dK (putK kvs k v))) s'->Q () s'):
  wpAny (model X.prog X.w) A (dictSet a u r) Q E s:=by
 obtain ⟨z,hd,vs,rel,dd⟩:=xN I.hok e
 have hz:vs.length<=sizeLine:=by rw [<-rel.length];exact z
 have hl:(putK kvs k v).length<=sizeLine:=by have:=mQ kvs k v;omega
 refine wpAny_dictSet_pairs (hsz:=hz) (u6 ry) dd fun h' tZ hs=>h _ ?_
 have he:∃q,h'.get? a=some q:=let ⟨q,_,_,hq,_⟩:=tZ;⟨q,hq⟩
 exact wF I (by rw [e];exact True.intro) hs he (yU hl hd (rel.put k rv) tZ)
def V3 (tv:TE) (σ:St) (N:Key->V->Hp->Prop) (kv:V) (H4:Hp):Prop:=∃k:Key,kv=kV k/\tv σ H4 fun v H5=>N k v H5
def Qe (J:It) (g:TG) (tk tv:TE) (acc:Addr) (σ₀:St) (H:Hp) (Q:VK):Prop:=∃W:Nat->Nat->St->Hp->Prop,
 (∃m,W 0 m σ₀ (upd H acc (.dK [])))/\∀i m σ2 H2,W i m σ2 H2->
   (J.stop i H2/\Q (.ref acc) H2)\/(J.go i H2/\∃(S:St->Prop) (N:Key->V->Hp->Prop),(∀σ3 k v H4,S σ3->N k v H4->∃kvs,H4 acc=some (.dK kvs)/\kvs.length<sizeLine/\∃m',m'<m/\W (i+1) m' σ3 (upd H4 acc (.dK (putK kvs k v))))/\∀x H',J.yR i H2 x H'->g x σ2 H' fun σ3 H3=>S σ3/\tk σ3 H3 (V3 tv σ3 N))
def XG (ix:List (Option Nat)) (g:TG) (tk tv:TE) (σ:St) (Q:VK):It->Hp->Prop:=fun J H1=>∀acc,H1 acc=none->Qe J g tk tv acc (pick ix σ) H1 Q
def Z0 (wi:TI) (ix:List (Option Nat)) (g:TG) (tk tv:TE):TE:=fun σ H Q=>wi σ H (XG ix g tk tv σ Q)
theorem Mf {tg iter kx vx:Expr} {scope:Scope} {pos:Pos} {N2:List Str} {ix:List (Option Nat)} {g:TG} {tk tv:TE} {cl:List (Str×Addr)} {pins:AO} {σ:St} {H:Hp} {s:Shared} {E:VS} {Q:VK}
  {RR:Value->Addr->Result->Shared->Prop} (hc:X.calm=true) (hg:∀cl s₂ H₂ fp,PG (cE X N2 scope cl s₂ H₂ fp) tg g) (he:∀cl s₂ H₂ fp,PE (cE X N2 scope cl s₂ H₂ fp) kx tk) (hv:∀cl s₂ H₂ fp,PE (cE X N2 scope cl s₂ H₂ fp) vx tv)
  (hk:scope.kind = .function) (hn:mR X.N X.env.scope.names scope.names N2 ix=true)
  (Bh:∀y c,(y,c)∈cl->X.env.cells.lookup y=some c) (yX:∀y,(y,NameKind.free)∈scope.names->∃c,(y,c)∈cl)
  {it:Addr} {fp:List Addr} {tn:Nat->Heap->Prop} {J:It} (I:Inv X pins σ H s) (T:Turn X.prog X.w X.K tg J fp it tn) (st:tn 0 s.heap) (f:∀b∈fp,k7 X pins H b)
  (h:∀acc,H acc=none->Qe J g tk tv acc (ix.map fun o=>o.bind fun j=>(σ[j]?).join) H Q)
  (hR:∀acc C H' s' m,Inv X pins σ H' s'->s'.heap.Ns C m->H' C=none->C≠X.env.locals->X.s₀.heap.objs.size<=C->(∀x c,X.env.cells.lookup x=some c->c≠C)->(∀p∈X.pn++pins,p.1≠C)->Q (.ref acc) H'->RR (.ref acc) C (.ok .next) s'):
  wpAny (model X.prog X.w) X.A newDict (fun acc s₃=>wpAny (model X.prog X.w) X.A (newFunctionEnv scope X.env.globals cl [] X.env.qual none .none (some X.env)) (fun cenv s₄=>
   codeAny (model X.prog X.w) X.A (.compStart (.DictComp kx vx [⟨tg,iter,[],0⟩] scope pos) 0 (.ref it) acc { cenv with scope:=relabel scope X.env }) (RR acc cenv.locals) s₄) E s₃) E s:=by
 obtain ⟨k1,k2,k3,k4,k5⟩:=j7 hn
 refine Eo ?_
 have I3:Inv X pins σ (upd H s.heap.objs.size (.dK [])) { s with heap:=s.heap.push { cls:= .type "dict",data:= .dict #[] } }:=
  I.laid (a:=s.heap.objs.size) (o:= .dK []) (t':=s.toks) (fun _ _ q=>b7 _ q) (aN _) (Bg s.heap I.big)
 obtain ⟨W,⟨m0,w0⟩,turn⟩:=h s.heap.objs.size I.fresh
 have fo:∀b∈fp,b<s.heap.objs.size:=fun b hb=>by
  obtain ⟨o,e,_⟩:=T.obj 0 _ st b hb
  exact bM e
 have st3:tn 0 (s.heap.push { cls:= .type "dict",data:= .dict #[] }):=T.keep _ _ _ st fun b _ o e=>b7 _ e
 have f3:∀b∈fp,k7 X pins (upd H s.heap.objs.size (.dK [])) b:=fun b hb=>⟨by rw [au (ee (fo b hb))];exact (f b hb).1,(f b hb).2⟩
 have Fv:∀b∈fp,b<(s.heap.push { cls:= .type "dict",data:= .dict #[] }).objs.size:=fun b hb=>by rw [j0];exact IJ (fo b hb)
 generalize Rl:({ s with heap:=s.heap.push { cls:= .type "dict",data:= .dict #[] } }:Shared)=s3 at *
 have Rm:s3.heap=s.heap.push { cls:= .type "dict",data:= .dict #[] }:=by rw [<-Rl]
 rw [<-Rm] at st3 Fv
 generalize s.heap.objs.size=acc at *
 generalize eH3:upd H acc (.dK [])=H3 at *
 have IY:=xP (N2:=N2) (scope:=scope) (cl:=cl) (fp:=fp) (σ2:=ix.map fun o=>o.bind fun j=>(σ[j]?).join) I3 hk Bh yX f3 Fv (by rw [aH];exact k1) (fun i x v e1 e2=>by
  rw [cA] at e2
  cases ei:ix[i]? with
  | none=>rw [ei] at e2;cases e2
  | some o=>
    rw [ei] at e2
    cases o with
    | none=>cases e2
    | some j=>
      obtain ⟨a1,a2,a3⟩:=k2 i x j e1 ei
      refine ⟨a2,a3,j,a1,?_⟩
      have e3:(σ[j]?).join=some v:=fu e2
      cases ej:σ[j]? with
      | none=>rw [ej] at e3;cases e3
      | some z=>rw [ej] at e3;exact j6 some e3) k5
 have ne:wpAny (model X.prog X.w) X.A (newFunctionEnv scope X.env.globals cl [] X.env.qual none .none (some X.env)) (fun cenv s₄=>
   cenv={ scope:=scope,locals:=s3.heap.objs.size,globals:=X.env.globals,cells:=cellsFrom (s3.heap.objs.size+1) scope.names cl,qual:=X.env.qual,func:=none,code:=X.env.code,frame:=X.env.frame,builtins:=X.env.builtins }/\
   s₄={ s3 with heap:=pushCells (s3.heap.push { cls:= .type "dict",data:= .dict #[] }) scope.names }) E s3:=by
  simp only [newFunctionEnv,OX,if_true]
  refine az (wpAny_alloc ?_)
  refine az (wpAny_layCells _ (fun name kind cells=>by cases hkc:kind==NameKind.cell <;> simp [hkc]) _ _ _ _ ?_)
  rw [xC]
  refine az (aV (aV ⟨?_,Z⟩))
  rw [show ({ s3 with heap:=s3.heap.push { cls:= .type "dict",data:= .dict #[] } }:Shared).heap.objs.size=s3.heap.objs.size+1 from j0 ..]
 refine bh ne fun cenv s4 ⟨e1,e2⟩=>?_
 subst e1 e2
 have Fw:tn 0 (pushCells (s3.heap.push { cls:= .type "dict",data:= .dict #[] }) scope.names):=T.keep _ _ _ st3 fun b _ o e=>BX _ _ b o (b7 _ e)
 have wH:s3.heap.objs.size≠X.env.locals:=xF I3.lt
 have nM:∀{H':Hp},(∀b∈fp,H' b=none)->∀b∈fp,k7 (cE X N2 scope cl s3 H3 fp) [] H' b:=fun {H'} hn b hb=>
  ⟨hn b hb,(IY.ok.Fb b hb).1,IY.ok.Bb b hb, .inl hb,(IY.ok.Fb b hb).2,fun p hp=>nomatch hp⟩
 have loop:codeAny (model X.prog X.w) X.A (.compLoop (.DictComp kx vx [⟨tg,iter,[],0⟩] scope pos) 0 (.ref it) (.ref acc) (cE X N2 scope cl s3 H3 fp).env) (RR (.ref acc) s3.heap.objs.size)
   { s3 with heap:=pushCells (s3.heap.push { cls:= .type "dict",data:= .dict #[] }) scope.names }:=by
  refine GK (fun n s'=>∃i σ' H',Inv (cE X N2 scope cl s3 H3 fp) [] σ' H' s'/\tn i s'.heap/\(∀b∈fp,H' b=none)/\W i n σ' H') ?_ m0 ⟨0,_,H3,IY,Fw,fun b hb=>(f3 b hb).1,w0⟩
  rintro n s5 ⟨i,σ5,H5,I5,yx,AR,w5⟩
  rcases turn i n σ5 H5 w5 with ⟨stop,qn⟩|⟨go,S,N,Rn,step⟩
  . refine bh (T.done (cE X N2 scope cl s3 H3 fp) rfl rfl rfl hc i [] s5 σ5 H5 (fun _ _=>False) I5 (nM AR) yx stop) fun r s6 ⟨hr,I6⟩=>?_
    subst hr
    obtain ⟨m6,Ro,_⟩:=id I6.loc
    have IX:Inv X pins σ H5 s6:=I3.Ii (ch:=fp) I6.os I6.base I6.hok I6.bare fun b hb=>⟨(f3 b hb).2.2.2.1,(f3 b hb).2.1,(f3 b hb).2.2.2.2.1,(f3 b hb).2.2.2.2.2⟩
    refine hR acc s3.heap.objs.size H5 s6 m6 IX Ro I6.free wH I3.sz (fun x c e z=>?_) (fun p hp z=>?_) qn
    . obtain ⟨v,q⟩:=I3.cell x c e
      exact absurd q.lt (by rw [z];exact jc _)
    . exact absurd (bM (I3.pin p hp).1) (by rw [z];exact jc _)
  . refine bh (T.item (cE X N2 scope cl s3 H3 fp) rfl rfl rfl hc i [] s5 σ5 H5 (fun _ _=>False) I5 (nM AR) yx go) fun r s6 ⟨u,hr,h6⟩=>?_
    subst hr
    refine bh h6 fun _ s7 ⟨x,H7,I7,r7,y7,wI,Jl⟩=>?_
    have Rp:=I7.pinned (nM Jl) (T.obj _ _ wI)
    refine bh (hg cl s3 H3 fp _ s7 σ5 H7 x u _ Rp r7 (step x H7 y7)) fun _ s8 ⟨σ8,H8,I8,NQ,q8⟩=>?_
    refine bh (he cl s3 H3 fp _ s8 σ8 H8 _ I8 q8) fun kk s9 ⟨kv,H9,I9,r9,k,ek,q9⟩=>?_
    subst ek
    refine bh (hv cl s3 H3 fp _ s9 σ8 H9 _ I9 q9) fun y V4 ⟨v,AX,I11,r11,q11⟩=>?_
    obtain ⟨kvs,hxs,Rq,m',hm,w9⟩:=Rn σ8 k v AX NQ q11
    refine ZZ (X:=cE X N2 scope cl s3 H3 fp) I11 hxs Rq r9 r11 fun NR yY=>?_
    refine ⟨m',hm,i+1,σ8,_,yY.nL,T.keep _ _ _ wI fun b hb o e=>(yY.pin (b,o) (iA _ (iA _ (gW hb e)))).1,fun b hb=>?_,w9⟩
    obtain ⟨o,e,d⟩:=T.obj _ _ wI b hb
    exact (yY.pin (b,o) (iA _ (iA _ (gW hb e)))).2.1
 exact codeAny_compStart_dict loop (T.self _ 0 _ _ _ Fw loop)
inductive V5 (Pv:Nat->List (Key×V)->Hp->Prop) (i:Nat) (acc:Addr) (out:List (Key×V)) (k:Key) (v:V) (H4:Hp):Prop
 | mk (_:H4 acc=some (.dK out)) (_:Pv (i+1) (putK out k v:_) (upd H4 acc (.dK (putK out k v))))
theorem XH {K:Fg} {J:It} {n:Nat} (ks:List Nat) {tk tv:TE} {σ2:St} {H:Hp} {acc:Addr} {Q:VK} (Pv:Nat->List (Key×V)->Hp->Prop) (nd:ks.Nodup) (hn:n<=100000) (h0:Pv 0 [] (upd H acc (.dK [])))
  (hgo:∀i out H1,i<n->H1 acc=some (.dK out)->Pv i out H1->J.go i H1) (hst:∀out H1,H1 acc=some (.dK out)->Pv n out H1->J.stop n H1)
  (hs:∀(i:Nat) (x:V) (out:List (Key×V)) (H1 H2:Hp),i<n->out.length<=i->H1 acc=some (.dK out)->Pv i out H1->J.yR i H1 x H2->
    ∃t vs,x = .ref t/\dm K H2 t vs/\vs.length=ks.length/\tk (c9 σ2 ks vs) H2 (V3 tv (c9 σ2 ks vs) (V5 Pv i acc out)))
  (hd:∀(out:List (Key×V)) (H1:Hp),H1 acc=some (.dK out)->Pv n out H1->Q (.ref acc) H1):
  Qe J (yP K ks.length (RJ ks)) tk tv acc σ2 H Q:=by
 refine ⟨fun i m σ' H'=>m=n-i/\i<=n/\(∀ws,ws.length=ks.length->c9 σ' ks ws=c9 σ2 ks ws)/\∃out,out.length<=i/\H' acc=some (.dK out)/\Pv i out H',⟨n,by simp,gh _,fun _ _=>rfl,[],aN _,ah,h0⟩,?_⟩
 rintro i m σ' H' ⟨rfl,hi,hσ,out,ho,ha,p⟩
 by_cases hlt:i<n
 . refine .inr ⟨hgo i out H' hlt ha p,fun σ3=>∀ws,ws.length=ks.length->c9 σ3 ks ws=c9 σ2 ks ws,(V5 Pv i acc out),fun σ3 k v H4 hS ⟨a,b⟩=>?_,fun x H1 y=>?_⟩
   . have:=mQ out k v
     refine ⟨out,a,?_,n-(i+1),by omega,Z,hlt,hS,putK out k v,by omega,ah,b⟩
     have:sizeLine=16777216:=jI
     omega
   . obtain ⟨t,vs,rfl,sq,hl,q⟩:=hs i x out H' H1 hlt ho ha p y
     refine ⟨t,vs,Z,sq,hl,CD hl ⟨fun ws hw=>?_,?_⟩⟩
     . rw [oW nd hl hw];exact hσ ws hw
     . rw [hσ vs hl];exact q
 . have e:i=n:=by omega
   subst e
   exact .inl ⟨hst out H' ha p,hd out H' ha p⟩
inductive Z1 (xs:List V) (H:Hp) (Q:VK):Prop
 | mk (a:Addr) (kvs:List (Key×V)) (_:xs=[.ref a]) (_:H a=some (.dK kvs)) (_:∀l,H l=none->Q (.ref l) (upd H l (.dK kvs)))
theorem Dh:je X (.type "dict") Z1:=by
 intro pins s σ H xs us Q I r h
 obtain ⟨a,kvs,rfl,e,q⟩:=h
 obtain ⟨u,rfl,ru⟩:=vals1 r
 cases ru
 obtain ⟨z,hd,vs,rel,dd⟩:=xN I.hok e
 refine kt_call_dict hd dd (by rw [<-rel.length];exact z) fun h' tZ sb=>?_
 have fr:=I.fresh
 refine ⟨.ref s.heap.objs.size,_,I.laid (a:=s.heap.objs.size) (o:= .dK kvs) (t':=s.toks) (fun b o hb=>(sb.2 b (ee (bM hb))).trans (b7 _ hb)) (aN _) (yU z (A3.mpr (bU (ee I.big))) rel tZ),Z,q _ fr⟩
end
section
variable {X:Cx}
theorem UX {tg iter kx vx:Expr} {scope:Scope} {pos:Pos} (N2:List Str) (ix:List (Option Nat)) {wi:TI} {g:TG} {tk tv:TE} (hc:X.calm=true) (hi:bI X tg iter wi) (hg:∀cl s₂ H₂ fp,bG (cE X N2 scope cl s₂ H₂ fp) tg g) (he:∀cl s₂ H₂ fp,bE (cE X N2 scope cl s₂ H₂ fp) kx tk) (hv:∀cl s₂ H₂ fp,bE (cE X N2 scope cl s₂ H₂ fp) vx tv) (hk:scope.kind = .function) (hn:mR X.N X.env.scope.names scope.names N2 ix=true) (hs:∀x,foldedSetIterable iter X.env x=pure x:=by intro _;rfl):bE X (.DictComp kx vx [⟨tg,iter,[],0⟩] scope pos) (Z0 wi ix g tk tv):=by
 have hi:=hi.h;have hg:=fun cl s₂ H₂ fp=>(hg cl s₂ H₂ fp).h;have he:=fun cl s₂ H₂ fp=>(he cl s₂ H₂ fp).h;have hv:=fun cl s₂ H₂ fp=>(hv cl s₂ H₂ fp).h;constructor
 intro pins s σ H Q I h
 obtain ⟨k1,k2,k3,k4,k5⟩:=j7 hn
 obtain ⟨cl,Jr,c1,c2⟩:=tF (scope:=scope) (env:=X.env) fun y hy e=>I.ok.has y.1 (k3 y hy e)
 rw [arm_eval_DictComp]
 refine ON (use:=none) rfl hs Jr hk k4 (bh (hi pins s σ H _ I h) fun v s1 h1=>bh h1 fun itv s2 h2=>?_)
 obtain ⟨it,fp,tn,J,H2,e,I2,T,st2,f2,h2⟩:=h2
 subst e
 refine Mf (RR:=fun acc C=>compPost (model X.prog X.w) X.A X.xe none (EP X pins σ Q) acc C) (Q:=Q) hc hg he hv hk hn (fun y c m=>(c1 y c m).1) c2 I2 T st2 f2 h2 ?_
 intro acc C H' s' m I' ns wH hL hsz rK xT q
 exact ⟨m,ns,fun h' hs'=>⟨.ref acc,H',I'.turned (it:=C) (t':=s'.toks) (fun b o hb e=>(hs'.2 b hb).trans e) wH hL (.inr hsz) rK xT,Z,q⟩⟩
end
inductive Z2 (T:TC) (K:Fg) (vs:List V) (H:Hp) (Q:VK) (E:XK):Prop
 | mk (a d r:Addr) (p:Pt) (_:vs=[.ref a]) (_:H a=some (.ins T.part d (cQ p r))) (_:H r=some (.lst (p.row.map V.int))) (_:∀v dv rr H',aO H H'->H v=none->H rr=none->v≠rr->H' v=some (.ins T.part dv (cQ p rr))->H' rr=some (.lst (p.row.map V.int))->Q (.ref v) H')
def Oo (T:TC) (K:Fg):Sp:=bx (Z2 T K)
inductive Z3 (T:TC) (K:Fg) (vs:List V) (H:Hp) (Q:VK) (E:XK):Prop
 | mk (bt db sp kn:Addr) (stp:List Int) (prod:Int) (_:vs=[.ref bt]) (_:H bt=some (.ins T.bot db (jD sp prod kn))) (_:H sp=some (.lst (stp.map V.int))) (_:∀b2 d2 s2 k2 H',aO H H'->H b2=none->H s2=none->H k2=none->b2≠s2->b2≠k2->s2≠k2->H' b2=some (.ins T.bot d2 (jD s2 prod k2))->H' s2=some (.lst (stp.map V.int))->H' k2=some (.dK [])->Q (.ref b2) H')
def Oq (T:TC) (K:Fg):Sp:=bx (Z3 T K)
def Kept (ρ:cR) (H:Hp) (ρ':cR) (H':Hp):Prop:=∀b o,H b=some o->H' b=some o/\ρ' b=ρ b
theorem Kept.fr {n:Nat} {ρ ρ':cR} {H H':Hp} (k:Kept ρ H ρ' H'):Fr n ρ H ρ' H':=fun b o e _=>k b o e
inductive Z4 (T:TC) (vs:List V) (H:Hp) (Q:VK) (E:XK):Prop
 | mk (n m ρ A st:_) (_:vs=[.ref A.a]) (_:n≠m) (_:HH T n ρ A H st) (_:∀ρ' A' H',HH T m ρ' A' H' { st with kn:=0 }->Kept ρ H ρ' H'->Q (.ref A'.a) H')
def Ot (T:TC):Sp:=bx (Z4 T)
theorem aL.Z5 {T:TC} {n:Nat} {ρ:cR} {A:HA} {H:Hp} {st:HS} (h:aL T n ρ A H st) (g:Gh ρ H) (q:Addr) (l:List Str) (e:H q=some (.dK (fD 0 l))) (c:ρ q=col n 1):aL T n ρ { A with pl:=q } (upd H A.a (.ins T.hold A.dx (dI { A with pl:=q }))) { st with own:=l }:=by
 have k:=dD (o:= .ins T.hold A.dx (dI { A with pl:=q })) g h.ca
 obtain ⟨vs,h1,h2⟩:=h.mC
 obtain ⟨kvs,k1,k2,k3⟩:=h.okn
 exact ⟨ah,h.ca,kz k c e,c,kz k h.eX h.c_,h.eX,⟨vs,kz k h.gr h1,h2.keep k (by decide)⟩,h.gr,kz k h.gu h.mD,h.gu,kz k h.gv h.iQ,h.gv,kz k h.gx h.gU,h.gx,kz k h.cpu h.jq,h.cpu,kz k h.gy h.kT,h.gy,⟨kvs,kz k h.gC k1,fun p hp=>let ⟨t,r,e,q⟩:=k2 p hp;⟨t,r,e,k.1 _ _ q⟩,k3⟩,h.gC,h.ql,fun i p q e1 e2=>let ⟨a,b,c,d⟩:=h.opt i p q e1 e2;⟨kz k c a,kz k d b,c,d⟩⟩
theorem aL.Z6 {T:TC} {n:Nat} {ρ:cR} {A:HA} {H:Hp} {st:HS} (h:aL T n ρ A H st) (g:Gh ρ H) (q:Addr) (l:List Str) (e:H q=some (.dK (wL l))) (c:ρ q=col n 4):aL T n ρ { A with nm:=q } (upd H A.a (.ins T.hold A.dx (dI { A with nm:=q }))) { st with nms:=l }:=by
 have k:=dD (o:= .ins T.hold A.dx (dI { A with nm:=q })) g h.ca
 obtain ⟨vs,h1,h2⟩:=h.mC
 obtain ⟨kvs,k1,k2,k3⟩:=h.okn
 exact ⟨ah,h.ca,kz k h.fZ h.gQ,h.fZ,kz k h.eX h.c_,h.eX,⟨vs,kz k h.gr h1,h2.keep k (by decide)⟩,h.gr,kz k c e,c,kz k h.gv h.iQ,h.gv,kz k h.gx h.gU,h.gx,kz k h.cpu h.jq,h.cpu,kz k h.gy h.kT,h.gy,⟨kvs,kz k h.gC k1,fun p hp=>let ⟨t,r,e,q⟩:=k2 p hp;⟨t,r,e,k.1 _ _ q⟩,k3⟩,h.gC,h.ql,fun i p q e1 e2=>let ⟨a,b,c,d⟩:=h.opt i p q e1 e2;⟨kz k c a,kz k d b,c,d⟩⟩
theorem aL.Z7 {T:TC} {n:Nat} {ρ:cR} {A:HA} {H:Hp} {st:HS} (h:aL T n ρ A H st) (g:Gh ρ H) (q:Addr) (l:List jN) {ws:List V} (e:H q=some (.lst ws)) (c:ρ q=col n 3) (ha:jJ n ρ H ws l):aL T n ρ { A with as:=q } (upd H A.a (.ins T.hold A.dx (dI { A with as:=q }))) { st with d_:=l }:=by
 have k:=dD (o:= .ins T.hold A.dx (dI { A with as:=q })) g h.ca
 obtain ⟨kvs,k1,k2,k3⟩:=h.okn
 exact ⟨ah,h.ca,kz k h.fZ h.gQ,h.fZ,kz k h.eX h.c_,h.eX,⟨ws,kz k c e,ha.keep k (by decide)⟩,c,kz k h.gu h.mD,h.gu,kz k h.gv h.iQ,h.gv,kz k h.gx h.gU,h.gx,kz k h.cpu h.jq,h.cpu,kz k h.gy h.kT,h.gy,⟨kvs,kz k h.gC k1,fun p hp=>let ⟨t,r,e,q⟩:=k2 p hp;⟨t,r,e,k.1 _ _ q⟩,k3⟩,h.gC,h.ql,fun i p q e1 e2=>let ⟨a,b,c,d⟩:=h.opt i p q e1 e2;⟨kz k c a,kz k d b,c,d⟩⟩
theorem aL.Z8 {T:TC} {n:Nat} {ρ:cR} {A:HA} {H:Hp} {st:HS} (h:aL T n ρ A H st) (g:Gh ρ H) (q:Addr) (ps:List Pt) (qs:List (Addr×Addr×Addr)) (e:H q=some (.dK (bN ps qs))) (c:ρ q=col n 2) (el:qs.length=ps.length) (hp:∀(i:Nat) (p:Pt) (q:Addr×Addr×Addr),ps[i]?=some p->qs[i]?=some q->H q.1=some (.ins T.part q.2.1 (cQ p q.2.2))/\H q.2.2=some (.lst (p.row.map V.int))/\ρ q.1=some (n,20,p.nm)/\ρ q.2.2=some (n,21,p.nm)):aL T n ρ { { A with ab:=q } with qs:=qs } (upd H A.a (.ins T.hold A.dx (dI { A with ab:=q }))) { st with aj:=ps }:=by
 have k:=dD (o:= .ins T.hold A.dx (dI { A with ab:=q })) g h.ca
 obtain ⟨vs,h1,h2⟩:=h.mC
 obtain ⟨kvs,k1,k2,k3⟩:=h.okn
 exact ⟨ah,h.ca,kz k h.fZ h.gQ,h.fZ,kz k c e,c,⟨vs,kz k h.gr h1,h2.keep k (by decide)⟩,h.gr,kz k h.gu h.mD,h.gu,kz k h.gv h.iQ,h.gv,kz k h.gx h.gU,h.gx,kz k h.cpu h.jq,h.cpu,kz k h.gy h.kT,h.gy,⟨kvs,kz k h.gC k1,fun p hp=>let ⟨t,r,e,q⟩:=k2 p hp;⟨t,r,e,k.1 _ _ q⟩,k3⟩,h.gC,el,fun i p q e1 e2=>let ⟨a,b,c,d⟩:=hp i p q e1 e2;⟨kz k c a,kz k d b,c,d⟩⟩
theorem aL.Z9 {T:TC} {n:Nat} {ρ:cR} {A:HA} {H:Hp} {st:HS} (h:aL T n ρ A H st) (g:Gh ρ H) (b d s k0:Addr) (stp:List Int) (m:Int) (e1:H b=some (.ins T.bot d (jD s m k0))) (e2:H s=some (.lst (stp.map V.int))) (e3:H k0=some (.dK [])) (c1:ρ b=col n 5) (c2:ρ s=col n 8) (c3:ρ k0=col n 9):aL T n ρ { A with bt:=b,db:=d,sp:=s,kn:=k0 } (upd H A.a (.ins T.hold A.dx (dI { A with bt:=b }))) { st with stp:=stp,prod:=m,kn:=0 }:=by
 have k:=dD (o:= .ins T.hold A.dx (dI { A with bt:=b })) g h.ca
 obtain ⟨vs,h1,h2⟩:=h.mC
 exact ⟨ah,h.ca,kz k h.fZ h.gQ,h.fZ,kz k h.eX h.c_,h.eX,⟨vs,kz k h.gr h1,h2.keep k (by decide)⟩,h.gr,kz k h.gu h.mD,h.gu,kz k c1 e1,c1,kz k h.gx h.gU,h.gx,kz k h.cpu h.jq,h.cpu,kz k c2 e2,c2,⟨[],kz k c3 e3,(fun p hp=>absurd hp (by simp)),aN _,s_⟩,c3,h.ql,fun i p q e1 e2=>let ⟨a,b,c,d⟩:=h.opt i p q e1 e2;⟨kz k c a,kz k d b,c,d⟩⟩
structure jS (T:TC) (n m:Nat) (ρ:cR) (H:Hp) (A:HA) (st:HS) (x:Addr) (ρ1:cR) (H1:Hp) (B:HA) (s1:HS):Prop where
 nm:n≠m
 hx:H x=none
 hs:aL T n ρ1 A H1 st
 ht:aL T m ρ1 B H1 s1
 g:Gh ρ1 H1
 k:Kept ρ H ρ1 H1
 ea:B.a=x
section
variable {T:TC} {n m:Nat} {ρ ρ1:cR} {H H1:Hp} {A B:HA} {st s1:HS} {x:Addr}
theorem jS.free (h:jS T n m ρ H A st x ρ1 H1 B s1) {b:Addr} (e:H1 b=none):H b=none:=by
 cases e2:H b with
 | none=>rfl
 | some o=>rw [(h.k b o e2).1] at e;cases e
theorem jS.same (h:jS T n m ρ H A st x ρ1 H1 B s1) {H2:Hp} (s:aO H1 H2):jS T n m ρ H A st x ρ1 H2 B s1:=⟨h.nm,h.hx,h.hs.mono s,h.ht.mono s,h.g.same s,fun b o e=>⟨s _ _ (h.k b o e).1,(h.k b o e).2⟩,h.ea⟩
theorem jS.col (h:jS T n m ρ H A st x ρ1 H1 B s1) {l:Addr} {o:HO} {c:p8} (e:H1 l=some o) (t:isTup o=false) (cl:ρ1 l=none) (hl:H l=none):jS T n m ρ H A st x (cO ρ1 l c) H1 B s1:=by
 have z:∀{j:Nat},Kp j ρ1 (cO ρ1 l c) H1 H1 fun _=>true:=fun {j}=>⟨fun _ _ e=>e,fun b u y w _ hc he=>⟨he,by rw [bu (fun z=>by rw [z,cl] at hc;cases hc)];exact hc⟩⟩
 exact ⟨h.nm,h.hx,h.hs.same z,h.ht.same z,h.g.color e t,fun b o e=>⟨(h.k b o e).1,by rw [bu (aF e hl)];exact (h.k b o e).2⟩,h.ea⟩
theorem jS.set (h:jS T n m ρ H A st x ρ1 H1 B s1) {B':HA} {s':HS} {o:HO} (t:isTup o=false) (ht:aL T m ρ1 B' (upd H1 B.a o) s') (ea:B'.a=B.a):jS T n m ρ H A st x ρ1 (upd H1 x o) B' s':=by
 have e:=h.ea
 have hx:=h.hx
 subst e
 exact ⟨h.nm,hx,h.hs.other (Fr.write h.ht.ca) h.g h.nm,ht,h.g.wr t,fun b u e=>⟨by rw [au (fun z=>by rw [z,hx] at e;cases e)];exact (h.k b u e).1,(h.k b u e).2⟩,ea⟩
end
theorem UY {T:TC} {n m:Nat} {ρ:cR} {H:Hp} {A B:HA} {st s1:HS} {x:Addr} {ws:List V} {l:List jN} {ρ1:cR} {H1:Hp} (h:jS T n m ρ H A st x ρ1 H1 B s1) (hL:wO ρ1 H1 ws l) (hf:∀b ss,H1 b=some (.lst ss)->ρ1 b=none->(∃w∈ws,∃r xs,w = .ref r/\H1 r=some (.tup xs)/\V.ref b∈xs)->H b=none):∃ρ2,jS T n m ρ H A st x ρ2 H1 B s1/\jJ m ρ2 H1 ws l/\∀b,ρ2 b=ρ1 b\/(ρ1 b=none/\ρ2 b=some (m,30,⟨#[]⟩)/\∃w∈ws,∃r xs,w = .ref r/\H1 r=some (.tup xs)/\V.ref b∈xs):=by
 induction hL with
 | nil=>exact ⟨ρ1,h, .nil,fun b=> .inl rfl⟩
 | @cons r t y ss vs as a b c d hL ih=>
   obtain ⟨ρ2,h2,hA,hc⟩:=ih fun b ss e1 e2 ⟨w,hw,z⟩=>hf b ss e1 e2 ⟨w,cD _ hw,z⟩
   have ht:H t=none:=hf t ss b c ⟨.ref r,cS,r,_,Z,a,by simp⟩
   have up:∀b,ρ2 b=ρ1 b\/(ρ1 b=none/\ρ2 b=some (m,30,⟨#[]⟩)/\∃w∈V.ref r::vs,∃r xs,w = .ref r/\H1 r=some (.tup xs)/\V.ref b∈xs):=fun b=>(hc b).imp (fun z=>z) fun ⟨z1,z2,w,hw,z3⟩=>⟨z1,z2,w,cD _ hw,z3⟩
   rcases hc t with e|⟨_,e,_⟩
   . rw [c] at e
     have h3:=h2.col (c:=(m,30,⟨#[]⟩)) b rfl e ht
     refine ⟨_,h3, .cons a b bY d ?_,fun b'=>?_⟩
     . exact hA.keep (ts:=fun _=>true) ⟨fun _ _ e=>e,fun b u y w _ hc he=>⟨he,by rw [bu (fun z=>by rw [z,e] at hc;cases hc)];exact hc⟩⟩ rfl
     . by_cases z:b'=t
       . rw [z];exact .inr ⟨c,bY, .ref r,cS,r,_,Z,a,by simp⟩
       . rw [bu z];exact up b'
   . exact ⟨ρ2,h2, .cons a b e d hA,up⟩
section
variable {T:TC} {n m:Nat} {ρ ρ1:cR} {H H1:Hp} {A B:HA} {st s1:HS} {x:Addr}
theorem jS.wrO (h:jS T n m ρ H A st x ρ1 H1 B s1) {a:Addr} {o u:HO} (c:ρ1 a=none) (e:H1 a=some u) (tu:isTup u=false) (t:isTup o=false) (ha:H a=none):jS T n m ρ H A st x ρ1 (upd H1 a o) B s1:=
 ⟨h.nm,h.hx,h.hs.same (wQ c e tu),h.ht.same (wQ c e tu),h.g.wr t,fun b w q=>⟨by rw [au (aF q ha)];exact (h.k b w q).1,(h.k b w q).2⟩,h.ea⟩
theorem jS.fld (h:jS T n m ρ H A st x ρ1 H1 B s1) {l:Addr} {o:HO} {k:Nat} {B':HA} {s':HS} (hl:H1 l=none) (t:isTup o=false) (hn:∀{ρ2:cR} {H2:Hp},aL T m ρ2 B H2 s1->Gh ρ2 H2->H2 l=some o->ρ2 l=L2.col m k->aL T m ρ2 B' (upd H2 B.a (.ins T.hold B.dx (dI B'))) s') (ea:B'.a=B.a):
  upd H1 l o x=some (.ins T.hold B.dx (dI B))/\∃ρ2,jS T n m ρ H A st x ρ2 (upd (upd H1 l o) x (.ins T.hold B.dx (dI B'))) B' s':=by
 have t2:=(h.same (aG hl o)).col (c:=(m,k,⟨#[]⟩)) ah t (h.g.none hl) (h.free hl)
 refine ⟨h.ea▸t2.ht.oa,cO ρ1 l (m,k,⟨#[]⟩),?_⟩
 exact t2.set (o:= .ins T.hold B.dx (dI B')) rfl (hn t2.ht t2.g ah bY) ea
end
inductive UZ (T:TC) (vs:List V) (H:Hp) (Q:VK) (E:XK):Prop
 | mk (n ρ A st:_) (_:vs=[.ref A.a]) (_:HH T n ρ A H st) (_:∀r ws H',aO H H'->H r=none->H' r=some (.lst ws)->wO ρ H' ws st.d_->(∀w∈ws,∃t xs,w = .ref t/\H' t=some (.tup xs)/\∀b,V.ref b∈xs->H b=none/\b≠r)->Q (.ref r) H')
def Gu (T:TC):Sp:=bx (UZ T)
theorem Kn (f:Pt->Int):∀ps:List Pt,((ps.filter fun p=>decide (p.wo≠0)).map fun p=>p.wo*f p).sum=(ps.map fun p=>p.wo*f p).sum
 | []=>rfl
 | p::ps=>by
   rw [gZ,bw,b8,<-Kn f ps]
   by_cases c:p.wo=0
   . rw [aB (by simpa using c),c,B9,Ai]
   . rw [aD (by simpa using c),bw,b8]
theorem U0 (f:Pt->Int) (hf:∀(p:Pt) (w:Int),f { p with wo:=w }=f p) {x:Str} {a:Int} {p0:Pt} (e:p0.nm=x):∀{ps:List Pt},(ps.map fun p:Pt=>p.nm).Nodup->p0∈ps->((jK ps x a).map fun p=>p.wo*f p).sum=(ps.map fun p=>p.wo*f p).sum-a*f p0:=by
 intro ps nd h
 unfold jK
 rw [Kn]
 have out:∀{l:List Pt},(∀p∈l,p.nm≠x)->l.map (fun p=>if p.nm=x then { p with wo:=p.wo-a } else p)=l:=fun {l} h=>by
  refine (vI (g:=id) fun p hp=>aB (h p hp)).trans (List.map_id _)
 induction ps with
 | nil=>cases h
 | cons p ps ih=>
   obtain ⟨n1,n2⟩:=fP.mp nd
   by_cases c:p.nm=x
   . have ep:p0=p:=by
      rcases dz.mp h with z|z
      . exact z
      . exact absurd (bH.mpr ⟨p0,z,e.trans c.symm⟩) n1
     subst ep
     rw [bw,aD c,out fun q hq z=>n1 (bH.mpr ⟨q,hq,z.trans c.symm⟩),bw,bw,b8,b8,hf]
     show (p0.wo-a)*f p0+_=_
     rw [Int.sub_mul];omega
   . have hm:p0∈ps:=(dz.mp h).resolve_left fun z=>c (by rw [<-z];exact e)
     rw [bw,aB c,bw,bw,b8,b8,ih n2 hm]
     omega
theorem zT (f:Pt->Int) (hf:∀(p:Pt) (w:Int),f { p with wo:=w }=f p):∀(rs:List Row) {st:HS},Wf st->Due st rs->(rs.map fun r:Row=>r.1).Nodup->((rs.foldl c7 st).aj.map fun p=>p.wo*f p).sum=(st.aj.map fun p=>p.wo*f p).sum-jP rs fun x=>f (bO st x)
 | [],st,_,_,_=>by show _=_-(0:Int);rw [uX];rfl
 | r::rs,st,wf,d,nd=>by
   have n2:=(fP.mp nd).2
   have n1:=(fP.mp nd).1
   have wf1:=JO wf d
   have d1:=Bq wf d nd
   obtain ⟨p,hp,e,_⟩:=d r cS
   show ((rs.foldl c7 (c7 st r)).aj.map fun p=>p.wo*f p).sum=_
   rw [zT f hf rs wf1 d1 n2]
   have h1:((c7 st r).aj.map fun p=>p.wo*f p).sum=(st.aj.map fun p=>p.wo*f p).sum-r.2*f (bO st r.1):=by
    rw [cN wf hp e];exact U0 f hf e wf.dh hp
   have h2:jP rs (fun x=>f (bO (c7 st r) x))=jP rs fun x=>f (bO st x):=by
    unfold jP
    congr 1
    refine vI fun y hy=>?_
    obtain ⟨q,hq,eq,_⟩:=d y (cD _ hy)
    have ny:q.nm≠r.1:=fun z=>n1 (bH.mpr ⟨y,hy,eq.symm.trans z⟩)
    have hw:q.wo≠0:=by have:=(wf.jr q hq).1;omega
    show y.2*f (bO (c7 st r) y.1)=y.2*f (bO st y.1)
    rw [cN wf hq eq,cN wf1 (CP hq ny hw) eq]
   rw [h1,h2]
   unfold jP
   rw [bw,b8]
   show _=_-(r.2*f (bO st r.1)+_)
   omega
theorem Qf {rs:List Row} {st:HS} (wf:Wf st) (d:Due st rs) (nd:(rs.map fun r:Row=>r.1).Nodup):aC (rs.foldl c7 st)=aC st-aI rs:=by
 have h:=zT (fun _=>1) (fun _ _=>rfl) rs wf d nd
 unfold jP at h
 unfold aC aI
 have z:∀{α:Type} (g:α->Int) (l:List α),l.map (fun p=>g p*1)=l.map g:=fun g l=>vI fun p _=>xH _
 rw [z,z,z] at h
 exact h
theorem Di {st:HS} {rs:List Row} (wf:Wf st) (c:jv st rs):aC (bV st rs)=aC st-aI rs:=by
 unfold bV
 rw [Qf (qo wf (c.blend wf)) (vh c.due) c.nd]
 congr 1
 unfold aC aZ
 rw [jY]
 show ((st.aj.map _).map _).sum=_
 rw [fR];rfl
theorem Qg (rs:List Row) (f:Str->Int) (k g d:Int) (f':Str->Int) (h:∀r∈rs,d*f' r.1=f r.1*k+g):d*jP rs f'=jP rs f*k+aI rs*g:=by
 unfold jP aI
 induction rs with
 | nil=>show d*0=0*k+0*g;omega
 | cons r rs ih=>
   rw [bw,bw,bw,b8,b8,b8,qT,ih fun x hx=>h x (cD _ hx)]
   have:=h r cS
   grind
theorem Mg (ps:List Pt) (f f':Pt->Int) (k g d:Int) (h:∀p∈ps,d*f' p=f p*k+g):d*(ps.map fun p=>p.wo*f' p).sum=(ps.map fun p=>p.wo*f p).sum*k+(ps.map fun p=>p.wo).sum*g:=by
 induction ps with
 | nil=>show d*0=0*k+0*g;omega
 | cons r rs ih=>
   rw [bw,bw,bw,b8,b8,b8,qT,ih fun x hx=>h x (cD _ hx)]
   have:=h r cS
   grind
theorem Qh {st:HS} {rs:List Row} (wf:Wf st) (c:jv st rs) {i:Nat} (hi:i<st.own.length):fX (bV st rs) i*(aC st*st.prod)=(aC st-aI rs)*fX st i*(bV st rs).prod:=by
 have bl:=c.blend wf
 have wb:=qo wf bl
 have wc:=tO wf c
 obtain ⟨hd,N3,hds,hdc⟩:=bl.dvds
 have p1:0<st.prod:=by have:=wf.d9;omega
 have w1:0<aC st:=by have:=bl.l;have:=bl.w;have:=bl.k;omega
 have ec:(bV st rs).bz=(aZ st (aC st-aI rs) (aC st) (cV st rs)).bz:=by unfold bV;rw [lF]
 have ep:(bV st rs).prod=(aZ st (aC st-aI rs) (aC st) (cV st rs)).prod:=by unfold bV;rw [lF]
 have s1:1<=aC st / bQ st (aC st-aI rs) (aC st) (cV st rs):=Int.le_ediv_of_mul_le hd (by have:=Int.le_of_dvd w1 N3;omega)
 have CU:bQ st (aC st-aI rs) (aC st) (cV st rs)*(bV st rs).prod=aC st*st.prod:=by
  rw [ep];unfold aZ;rw [xX s1]
  show _*(st.prod*_)=_
  rw [<-jd,mZ _ st.prod,jd,OV N3,mZ]
 have pc:0<(bV st rs).prod:=by have:=wc.d9;omega
 have top:∀p∈st.aj,∀p':Pt,p'.row=p.row->p'.sc=p.sc*(aC st-aI rs) / bQ st (aC st-aI rs) (aC st) (cV st rs)->bQ st (aC st-aI rs) (aC st) (cV st rs)*(aS (bV st rs) p').getD i 0=(aS st p).getD i 0*(aC st-aI rs)+(cV st rs).getD i 0:=fun p hp p' e2 e3=>by
  have h:=FZ wf bl ec ep hp e2 e3 (j:=i) (t0:=(aS st p).getD i 0) (gB:=(cV st rs).getD i 0) (B:=st.prod) rfl rfl
  refine Int.eq_of_mul_eq_mul_right (a:=(bV st rs).prod) (by omega) ?_
  rw [h,mZ st.prod,<-CU]
  grind
 have eG:(cV st rs).getD i 0=jP rs fun x=>(aS st (bO st x)).getD i 0:=by
  have ex:∀r∈rs,∃p∈st.aj,p.nm=r.1:=fun r hr=>let ⟨_,_,p,hp,e,_⟩:=c.row r hr;⟨p,hp,e⟩
  rw [zA wf ex,JQ rs _ (fun r hr=>by
   obtain ⟨p,hp,e⟩:=ex r hr
   rw [cN wf hp e,nI,uh wf hp])]
  have:(List.replicate st.bz.length (0:Int)).getD i 0=0:=by
   rw [mw,List.getElem?_replicate];split <;> rfl
  rw [this,Ai]
 have hf:∀(p:Pt) (w:Int),(fun p=>(aS (bV st rs) p).getD i 0) { p with wo:=w }=(fun p=>(aS (bV st rs) p).getD i 0) p:=fun _ _=>rfl
 have hc:fX (bV st rs) i=((aZ st (aC st-aI rs) (aC st) (cV st rs)).aj.map fun p=>p.wo*(aS (bV st rs) p).getD i 0).sum-jP rs fun x=>(aS (bV st rs) (bO (aZ st (aC st-aI rs) (aC st) (cV st rs)) x)).getD i 0:=by
  rw [vB wc (by rw [nS];exact hi)]
  exact zT (fun p=>(aS (bV st rs) p).getD i 0) hf rs wb (vh c.due) c.nd
 have eB:(aZ st (aC st-aI rs) (aC st) (cV st rs)).aj=st.aj.map fun p=>{ p with sc:=p.sc*(aC st-aI rs) / bQ st (aC st-aI rs) (aC st) (cV st rs) }:=by unfold aZ;rw [jY]
 have h1:bQ st (aC st-aI rs) (aC st) (cV st rs)*((aZ st (aC st-aI rs) (aC st) (cV st rs)).aj.map fun p=>p.wo*(aS (bV st rs) p).getD i 0).sum=fX st i*(aC st-aI rs)+aC st*(cV st rs).getD i 0:=by
  rw [eB,fR,vB wf hi]
  exact Mg st.aj (fun p=>(aS st p).getD i 0) (fun p=>(aS (bV st rs) { p with sc:=p.sc*(aC st-aI rs) / bQ st (aC st-aI rs) (aC st) (cV st rs) }).getD i 0) _ _ _ fun p hp=>top p hp _ rfl rfl
 have h2:=Qg rs (fun x=>(aS st (bO st x)).getD i 0) (aC st-aI rs) ((cV st rs).getD i 0) (bQ st (aC st-aI rs) (aC st) (cV st rs)) (fun x=>(aS (bV st rs) (bO (aZ st (aC st-aI rs) (aC st) (cV st rs)) x)).getD i 0) fun r hr=>by
  obtain ⟨_,_,p,hp,e,_⟩:=c.row r hr
  have hb:{ p with sc:=p.sc*(aC st-aI rs) / bQ st (aC st-aI rs) (aC st) (cV st rs) }∈(aZ st (aC st-aI rs) (aC st) (cV st rs)).aj:=by rw [eB];exact bH.mpr ⟨p,hp,Z⟩
  rw [cN wb hb e,cN wf hp e]
  exact top p hp _ rfl rfl
 rw [<-eG] at h2
 have key:bQ st (aC st-aI rs) (aC st) (cV st rs)*fX (bV st rs) i=(aC st-aI rs)*fX st i:=by
  rw [hc,Int.mul_sub,h1,h2]
  grind
 rw [<-CU,<-key]
 grind
theorem vR {st:HS} {rs:List Row} (wf:Wf st) (c:jv st rs) {o:Str} (ho:o∈st.own):d7 (bV st rs) o=Jm.fr ((aC st-aI rs)*fX st (st.own.idxOf o)) (aC st*st.prod):=by
 have bl:=c.blend wf
 have wc:=tO wf c
 have p1:0<st.prod:=by have:=wf.d9;omega
 have pc:0<(bV st rs).prod:=by have:=wc.d9;omega
 have w1:0<aC st:=by have:=bl.l;have:=bl.w;have:=bl.k;omega
 unfold d7
 rw [nS]
 exact Jm.VM pc (Int.mul_pos w1 p1) (Qh wf c (yH ho))
theorem Mh {st:HS} {rs:List Row} (wf:Wf st) (c:jv st rs) {o:Str} (ho:o∈st.own):(d7 (bV st rs) o).num*aC st*((d7 st o).den:Int)=(d7 st o).num*(aC st-aI rs)*((d7 (bV st rs) o).den:Int):=by
 have e:=vR wf c ho
 generalize d7 (bV st rs) o=q at e
 have bl:=c.blend wf
 have p1:0<st.prod:=by have:=wf.d9;omega
 have w1:0<aC st:=by have:=bl.l;have:=bl.w;have:=bl.k;omega
 have e2:Jm.fr (fX st (st.own.idxOf o)) st.prod=d7 st o:=rfl
 generalize d7 st o=r at e2
 rw [<-Jm.NO q] at e
 rw [<-Jm.NO r] at e2
 have dq:(0:Int)<(q.den:Int):=by have:=q.den_pos;omega
 have dr:(0:Int)<(r.den:Int):=by have:=r.den_pos;omega
 have c1:=Jm.Ri dq (Int.mul_pos w1 p1) e
 have c2:=Jm.Ri p1 dr e2
 generalize (q.den:Int)=dq' at *
 generalize (r.den:Int)=V6 at *
 generalize q.num=a at *
 generalize r.num=b at *
 generalize fX st (st.own.idxOf o)=s at *
 generalize aC st-aI rs=k at *
 refine Int.eq_of_mul_eq_mul_left (a:=st.prod) (by omega) ?_
 have:st.prod*(a*aC st*V6)=(a*(aC st*st.prod))*V6:=by grind
 rw [this,c1]
 have:k*s*dq'*V6=(s*V6)*(k*dq'):=by grind
 rw [this,c2]
 grind
inductive acr (T:TC) (K:Fg) (vs:List V) (H:Hp) (Q:VK) (E:XK):Prop
 | mk (n:Nat) (ρ:cR) (zo l:Addr) (own:List Str) (zs:List V) (ds:List Dd) (_:vs=[.ref zo, .ref l]) (_:Gh ρ H) (_:yy K ρ H zo (own.map V.str)) (_:yy K ρ H l zs) (_:mH H zs ds) (_:w_ (iR own:_) ds) (_:own.Nodup) (_:0<own.length) (_:own.length<100) (_:∀o∈own,isNm o=true) (_:ds.length<=91)
   (_:∀ρ' A' H',HH T n ρ' A' H' (iw (iR own) ds)->GW ds.length (100*ds.length) (iw (iR own) ds)->(iw (iR own) ds).own=own->Fr n ρ H ρ' H'->Q (.ref A'.a) H')
def Ss (T:TC) (K:Fg):Sp:=bx (acr T K)
def jT (p:List Row×Int) (w:Row):List Row×Int:=(if 0<(if p.2<w.2 then p.2 else w.2) then p.1++[(w.1,if p.2<w.2 then p.2 else w.2)] else p.1,p.2-if p.2<w.2 then p.2 else w.2)
theorem Ko:∀(ws:List Row) (acc:List Row) (need:Int),0<=need->(∀w∈ws,1<=w.2)->∃R,ws.foldl jT (acc,need)=(acc++R,need-aI R)/\0<=need-aI R/\(need<=aI ws->need-aI R=0)/\(R.map fun r:Row=>r.1).Sublist (ws.map fun r:Row=>r.1)/\∀r∈R,1<=r.2/\∃w∈ws,w.1=r.1/\r.2<=w.2
 | [],acc,need,h0,_=>⟨[],by show (acc,need)=(acc++[],need-0);rw [Af,uX],by show 0<=need-0;omega,fun (h:need<=0)=>by show need-0=0;omega,List.Sublist.refl _,fun r hr=>absurd hr (by simp)⟩
 | w::ws,acc,need,h0,hw=>by
   have w1:=hw w cS
   have lc:∀(r:Row) (rs:List Row),aI (r::rs)=r.2+aI rs:=fun r rs=>by unfold aI;rw [bw,b8]
   have hm:(if need<w.2 then need else w.2)<=w.2/\(if need<w.2 then need else w.2)<=need/\0<=(if need<w.2 then need else w.2)/\((if need<w.2 then need else w.2)=w.2\/(if need<w.2 then need else w.2)=need):=by split <;> omega
   show ∃R,ws.foldl jT (if 0<(if need<w.2 then need else w.2) then acc++[(w.1,if need<w.2 then need else w.2)] else acc,need-if need<w.2 then need else w.2)=_/\_
   generalize (if need<w.2 then need else w.2)=m at *
   obtain ⟨m1,m2,m3,m4⟩:=hm
   obtain ⟨R,e,r0,r1,r2,r3⟩:=Ko ws (if 0<m then acc++[(w.1,m)] else acc) (need-m) (by omega) fun x hx=>hw x (cD _ hx)
   have up:∀r∈R,1<=r.2/\∃w'∈w::ws,w'.1=r.1/\r.2<=w'.2:=fun r hr=>let ⟨a,w',b,c⟩:=r3 r hr;⟨a,w',cD _ b,c⟩
   have lw:=lc w ws
   by_cases c:0<m
   . rw [aD c] at e ⊢
     refine ⟨(w.1,m)::R,by rw [e,lc,II];refine Prod.ext rfl ?_;show need-m-aI R=need-(m+aI R);omega,by rw [lc];show 0<=need-(m+aI R);omega,fun h=>?_,?_,fun r hr=>?_⟩
     . rw [lc]
       show need-(m+aI R)=0
       rcases m4 with z|z
       . have:=r1 (by omega);omega
       . have hz:aI R<=0:=by omega
         have:0<=aI R:=qp fun x hx=>(r3 x hx).1
         omega
     . exact r2.cons_cons _
     . rcases dz.mp hr with z|z
       . subst z;exact ⟨by show 1<=m;omega,w,cS,Z,m1⟩
       . exact up r z
   . rw [aB c] at e ⊢
     have mz:m=0:=by omega
     subst mz
     rw [uX] at e r0 r1 ⊢
     refine ⟨R,e,r0,fun h=>?_,r2.cons _,up⟩
     have nz:need=0:=by omega
     have:0<=aI R:=qp fun x hx=>(r3 x hx).1
     omega
theorem U1 {st:HS} (wf:Wf st) {rs:List Row} (nd:(rs.map fun r:Row=>r.1).Nodup) (row:∀r∈rs,1<=r.2/\∃w∈ie st,w.1=r.1/\r.2<=w.2) (hl:aI rs<aC st) (hne:rs≠[]):lV st rs=none:=by
 unfold lV
 rw [aD ⟨hne,nd⟩]
 have e:rs.findSome? (jQ st)=none:=List.findSome?_eq_none_iff.mpr fun r hr=>by
  obtain ⟨h1,w,hw,e1,e2⟩:=row r hr
  unfold ie at hw
  obtain ⟨p,hp,rfl⟩:=bH.mp hw
  have e1:p.nm=r.1:=e1
  have e2:r.2<=p.wo:=e2
  unfold jQ
  rw [aD (by unfold eU;exact bH.mpr ⟨p,hp,e1⟩),aB (by omega),cN wf hp e1,aB (by omega)]
 rw [e]
 show (if aC st<=aI rs then some 6 else none)=none
 rw [aB (by omega)]
theorem U3 (ws:List Row):aI ws.reverse=aI ws:=by
 unfold aI
 rw [List.map_reverse,List.sum_reverse]
def Bv (ws:List Row) (need:Int):List Row:=(ws.foldl jT ([],need)).1
theorem U4 {st:HS} (wf:Wf st) {need:Int} (h0:0<need) (h1:need<aC st) (t:Bool):lV st (Bv (if t=true then (ie st).reverse else ie st) need)=none/\aI (Bv (if t=true then (ie st).reverse else ie st) need)=need:=by
 have lw:aI (ie st)=aC st:=by unfold aI ie aC;rw [fR];rfl
 have nn:((ie st).map fun r:Row=>r.1)=eU st:=by unfold ie eU;rw [fR];rfl
 have nd:(eU st).Nodup:=wf.dh
 have w1:∀w∈ie st,1<=w.2:=fun w hw=>by unfold ie at hw;obtain ⟨p,hp,rfl⟩:=bH.mp hw;exact (wf.jr p hp).1
 have go:∀ws:List Row,aI ws=aC st->(ws.map fun r:Row=>r.1).Nodup->(∀w∈ws,w∈ie st)->lV st (Bv ws need)=none/\aI (Bv ws need)=need:=fun ws e1 e2 e3=>by
  obtain ⟨R,e,r0,r1,r2,r3⟩:=Ko ws [] need (by omega) fun w hw=>w1 w (e3 w hw)
  have eR:Bv ws need=R:=by unfold Bv;rw [e];rfl
  have r1:=r1 (by omega)
  rw [eR]
  refine ⟨U1 wf (e2.sublist r2) (fun r hr=>let ⟨a,w,b,c⟩:=r3 r hr;⟨a,w,e3 w b,c⟩) (by omega) (fun z=>?_),by omega⟩
  rw [z] at r1
  have:need-0=0:=r1
  omega
 cases t
 . exact go (ie st) lw (by rw [nn];exact nd) fun _ h=>h
 . exact go (ie st).reverse ((U3 _).trans lw) (by rw [List.map_reverse,nn];exact List.pairwise_reverse.mpr (nd.imp fun h=>bU h)) fun _ h=>List.mem_reverse.mp h
inductive acs (K:Fg) (vs:List V) (H:Hp) (Q:VK) (E:XK):Prop
 | mk (l:Addr) (us:List V) (ws:List Row) (need:Int) (t:Bool) (_:vs=[.ref l, .int need, .bl t]) (_:aK K H l us) (_:xZ K H us ws) (_:ws.length<=1000) (_:∀z zs H',aO H H'->H' z=some (.lst zs)->dZ H' zs (Bv (if t=true then ws.reverse else ws) need)->Q (.ref z) H')
def Su (K:Fg):Sp:=bx (acs K)
theorem w_.mo {c m:Nat} {st:HS} {ds:List Dd} (h:w_ st ds) (g:GW c m st) (mo:Mo c st) (hc:c+ds.length<=91) (hm:m+100*ds.length<=1000000) (ho:st.own.length<100):∀i≤ds.length,Mo (c+i) (iw st (ds.take i)):=by
 intro i
 induction i with
 | zero=>intro _;exact mo
 | succ i ih=>
   intro hi
   have ei:=bD (show i<ds.length by omega)
   obtain ⟨h1,h2,h3⟩:=h i _ ei
   have gi:=(h.go g hc hm ho i (by omega)).1
   rw [take_snoc ei,pG]
   exact Qd (ih (by omega)) gi.g gi.wf h1
theorem jC.tups {H H':Hp} {vs:List V} {qs:List Rat} (h:jC H vs qs) (g:∀b xs,H b=some (.tup xs)->H' b=some (.tup xs)):jC H' vs qs:=by
 induction h with
 | nil=>exact .nil
 | cons a _ ih=>exact .cons (g _ _ a) ih
theorem Kq (st:HS):w6 (br st)=ie st:=by unfold w6 br ie;rw [fR];rfl
structure Z_ (own:List Str) (w lost:Int) (q0:Str->Rat) (a b:HS):Prop where
 oa:Em a
 ob:Em b
 na:a.own=own
 nb:b.own=own
 wa:aC a=w-lost
 wb:aC b=w-lost
 eq:∀o∈own,d7 b o=d7 a o
 cr:∀o∈own,(d7 a o).num*w*((q0 o).den:Int)=(q0 o).num*(w-lost)*((d7 a o).den:Int)
 sz:∀o∈own,Jm.NP 6000 (d7 a o)
theorem U5 {c m:Nat} {st:HS} (g:GW c m st) (mo:Mo c st) (hc:c<=90):Z_ st.own (aC st) 0 (d7 st) st { st with kn:=0 }:=by
 have ok:=g.g.st mo g.wf (by omega)
 exact ⟨ok,⟨Ip g.wf (gh _),ok.wo,ok.wh,ok.la⟩,Z,Z,by omega,by show aC st=aC st-0;omega,fun _ _=>rfl,fun o _=>by rw [uX],fun o ho=>(En g.g mo g.wf (by omega) ho).1⟩
theorem U6 {c m:Nat} {st:HS} (g:GW c m st) (mo:Mo c st) (hc:c<=90) (hm:m<=1000000) {r1 r2:List Row} (h1:lV st r1=none) (h2:lV st r2=none) (e:aI r2=aI r1):jv st r1/\jv { st with kn:=0 } r2/\Z_ st.own (aC st) (aI r1) (d7 st) (bV st r1) (bV { st with kn:=0 } r2):=by
 have wf:=g.wf
 have wf2:Wf { st with kn:=0 }:=Ip wf (gh _)
 have c1:=g.g.wY wf (by omega) h1
 have AY:=g.g.wY wf (by omega) h2
 have c2:jv { st with kn:=0 } r2:=⟨AY.nd,AY.ne,AY.len,AY.row,AY.lost,AY.big,AY.prod,AY.bL,AY.stp⟩
 have m1:Mo (c+1) (bV st r1):=Qd (d:= .cast r1) mo g.g wf h1
 have g1:=Ek g.g wf hc h1
 have w1:=tO wf c1
 have ok1:=g1.st m1 w1 (by omega)
 have m2:Mo (c+1) (bV st r2):=Qd (d:= .cast r2) mo g.g wf h2
 have g2:=Ek g.g wf hc h2
 have w2:=tO wf AY
 have ok2:=g2.st m2 w2 (by omega)
 have ek:oE (bV { st with kn:=0 } r2) (bV st r2):=((oE.refl st).set 0).do (.cast r2)
 have w3:=tO wf2 c2
 have ok3:Em (bV { st with kn:=0 } r2):=by
  rw [show bV { st with kn:=0 } r2={ bV st r2 with kn:=(bV { st with kn:=0 } r2).kn } from ek] at w3 ⊢
  exact ⟨w3,ok2.wo,ok2.wh,ok2.la⟩
 refine ⟨c1,c2,ok1,ok3,nS _ _,nS _ _,Di wf c1,?_,fun o ho=>?_,fun o ho=>Mh wf c1 ho,fun o ho=>(En g1 m1 w1 (by omega) (by rw [nS];exact ho)).1⟩
 . rw [Di wf2 c2,e];rfl
 . rw [vR wf c1 ho,vR wf2 c2 (o:=o) ho,e]
   rfl
end L2
set_option autoImplicit false
namespace Law
open PySem L2
theorem iy (n:Nat) (h:n<=1000:=by decide):n<=sizeLine:=by rw [jI];omega
def top (i:Nat):Stmt:=PySem.Challenge.pw_jettison_k36_whole_no_matter_whose.main.body.getD i (.Pass ⟨0,0,0,0⟩)
section
variable {P:Program} {w:World} {K:Fg} {mg:SO} {base:Heap} {f:Addr} {fd:FuncData}
abbrev nU:Stmt:=top 2
abbrev jz:List Str:=["one","other"]
abbrev Dj:List Str:=jz
theorem uu:aR Dj jz (aE nU):=dP
theorem Bw (F:At K mg "common_factor" nU f fd):Dn P w K mg base 1 "common_factor" jz Ub:=by
 refine F.oA uu fun cdv A outer s H vs Q E hr h=>?_
 obtain ⟨a,b,rfl,ha,hb,q⟩:=h
 refine ⟨_,(@c5.h _ _ _ (ai (JX gc (aU jn (qv 1) ak (bf _)) (ay (ZG (i:=0) (j:=1) rfl uu.nd rfl rfl (by decide) rfl rfl (af (qv 1) (af (aM ko (qv 0) (qv 1)) aq)) (by rfl))))
  (ay (bB (qv 0))))),?_⟩
 refine ⟨fun m σ H'=>∃x y:Int,m=y.toNat/\σ=[some (.int x),some (.int y)]/\H'=H/\0<=x/\0<=y/\Jm.cf x y=Jm.cf a b,⟨_,a,b,Z,Z,Z,ha,hb,Z⟩,?_⟩
 rintro m σ H' ⟨x,y,rfl,rfl,rfl,hx,hy,e⟩
 refine ⟨_,Z,_,_,Z,Z,_,Z,?_⟩
 refine aQ (fun c=>?_) (fun c=>?_)
 . have c':0<y:=bg c
   refine ⟨_,fun _ _ z=>z,?_⟩
   refine ⟨_,Z,_,Z,_,Z,_,_,Z,Z,c',_,_,Z,?_⟩
   have h1:0<=x % y:=oK _ (by omega)
   have h2:x % y<y:=yO _ c'
   exact ⟨_,(by omega:(x % y).toNat<y.toNat),y,x % y,Z,Z,Z,hy,h1,(Jm.NN x y c').trans e⟩
 . have c':¬ 0<y:=tT (qa.mpr c)
   have ey:y=0:=by omega
   subst ey
   rw [Jm.WU x hx] at e
   refine ⟨_,Z,?_⟩
   rw [e]
   exact q
abbrev yh:Stmt:=top 18
abbrev vC:List Str:=["text","signs"]
abbrev Sv:List Str:=vC
theorem Qi:aR Sv vC (aE yh):=dP
theorem Qj (F:At K mg "made_of" yh f fd) (Qk:mg "all"=none):Dn P w K mg base 1 "made_of" vC Bj:=by
 refine F.oA Qi fun cdv A outer s H vs Q E hr h=>?_
 obtain ⟨⟨cs,signs,rfl,hl,q⟩⟩:=h
 refine ⟨_,(@c5.h _ _ _ (ay (bB (bJ (Ru K rfl) (by rfl) Qk PyProof.Rows.boot_all (af (iU ["sign","signs"] [none,some 1] rfl (ZJ (qv 0)) (fun _ _ _ _=>(aY (i:=0) (show List.Nodup (["sign","signs"] :List Str) from by decide +kernel))) (fun _ _ _ _=>(wX QS (qv 0) (qv 1) (by with_unfolding_all rfl))) rfl (by rfl)) aq))))),?_⟩
 refine ⟨_,Z,cs,Z,fun acc hacc=>?_⟩
 refine Uh (fun i out H1=>aO H H1/\out=((cs.take i).map (Fx signs)).map V.bl) hl ⟨aG hacc _,Z⟩ ?_ ?_
 . rintro i c out H1 hx fY ha ⟨g,e⟩
   refine ⟨_,Z,_,Z,_,_,Z,Z,ha,g.cX hacc _,?_⟩
   rw [e,List.take_add_one,hx,bR,bR]
   rfl
 rintro out H1 fY ha ⟨g,e⟩
 rw [cW] at e
 refine ⟨acc,cs.map (Fx signs),Z,aK.of (by rw [ha,e]),?_⟩
 have e2:(cs.map (Fx signs)).all id=cs.all (Fx signs):=by rw [List.all_map];rfl
 rw [e2]
 exact q H1 g
abbrev yi:Stmt:=top 17
abbrev rR:List Str:=["text"]
abbrev Sw:List Str:=rR
theorem Ql:aR Sw rR (aE yi):=dP
theorem Qm {tk:Tok} (F:At K mg "is_name" yi f fd) (zU:Dn P w K mg base 1 "made_of" vC Bj) (bZ:mg "len"=none) (zV:mg "LETTERS"=some (.str "abcdefghijklmnopqrstuvwxyz" tk)):Dn P w K mg base 2 "is_name" rR xS:=by
 refine F.oA Ql fun cdv A outer s H vs Q E hr h=>?_
 obtain ⟨⟨cs,rfl,hl,q⟩⟩:=h
 refine ⟨_,(@c5.h _ _ _ (ay (bB (ZI (UA VG VG ak (bJ Je (by rfl) bZ fQ (af (qv 0) aq)) ak) (ZE (bX zU hr (af (qv 0) (af (Xq (v:= .str "abcdefghijklmnopqrstuvwxyz") (by rfl) zV ⟨_,Z⟩) aq)))))))),?_⟩
 have hz:(tx cs).length<=sizeLine:=by rw [yZ,jI];omega
 refine ⟨_,Z,_,Z,hz,_,_,Z,Z,_,Z,?_⟩
 rw [yZ]
 refine aQ (fun c=>?_) (fun c=>?_)
 . refine ⟨_,_,Z,Z,_,Z,aQ (fun c2=>?_) (fun c2=>?_)⟩
   . refine ⟨_,Z,Pw hl fun H' g=>?_⟩
     have:=q H' g
     unfold isName at this
     rw [c,c2,Bool.true_and,Bool.true_and] at this
     exact this
   . have:=q H (aO.refl _)
     unfold isName at this
     rw [c,qa.mpr c2,Bool.true_and,Bool.false_and] at this
     exact this
 . have:=q H (aO.refl _)
   unfold isName at this
   rw [qa.mpr c,Bool.false_and,Bool.false_and] at this
   exact ⟨_,Z,jg this⟩
abbrev pH:Stmt:=top 23
abbrev iV:List Str:=["amount"]
abbrev Ep:List Str:=iV
theorem Dk:aR Ep iV (aE pH):=dP
theorem By {e:Ec} (F:At K mg "check_amount" pH f fd) (jU:gR K e.zJ) (kF:mg "BadNumber"=some (.ref e.zJ)):Dx P w K mg base 1 "check_amount" iV (zO e):=by
 refine F.yC Dk fun cdv A outer s H vs Q E hr h=>?_
 obtain ⟨⟨a,rfl,h5,q⟩⟩:=h
 refine ⟨_,(@c5.h _ _ _ (ay (cL (aU qV (qv 0) ak (bf _)) (ay (kg jU (by rfl) kF)) bF))),?_⟩
 exact ⟨_,Z,_,_,Z,Z,_,Z,aQ (fun c=>fun x=>h5 (bg c) x H (aO.refl _)) fun c=>q (by have:=tT (qa.mpr c);omega)⟩
abbrev r_:Stmt:=top 24
abbrev lK:List Str:=["most","amount"]
abbrev Kr:List Str:=lK
theorem GL:aR Kr lK (aE r_):=dP
theorem Er {e:Ec} (F:At K mg "check_loss" r_ f fd) (dU:Dx P w K mg base 1 "check_amount" iV (zO e)) (iO:gR K e.Br) (jA:mg "TooMuch"=some (.ref e.Br)):Dx P w K mg base 2 "check_loss" lK (J1 e):=by
 refine F.yC GL fun cdv A outer s H vs Q E hr h=>?_
 obtain ⟨⟨m,a,rfl,h5,h6,q⟩⟩:=h
 refine ⟨_,(@c5.h _ _ _ (ai (cu (CY dU hr (af (qv 1) aq)))
  (ay (cL (aU jn (qv 1) (qv 0) (bf _)) (ay (kg iO (by rfl) jA)) bF)))),?_⟩
 exact ⟨_,Z,⟨⟨a,Z,h5,fun h1=>⟨_,Z,_,Z,_,_,Z,Z,_,Z,aQ (fun c=>fun x=>h6 h1 (bg c) x H (aO.refl _)) fun c=>q h1 (by have:=tT (qa.mpr c);omega)⟩⟩⟩⟩
abbrev sf:Stmt:=top 22
abbrev pI:List Str:=["rows"]
abbrev Ks:List Str:=pI.append ["amounts","name","amount"]
theorem nc:aR Ks pI (aE sf):=dP
theorem GN (F:At K mg "amounts_of" sf f fd) (bZ:mg "len"=none):Dn P w K mg base 1 "amounts_of" pI (RW K):=by
 refine F.oA nc fun cdv A outer s H vs Q E hr h=>?_
 obtain ⟨⟨l,us,rs,rfl,hl,hR,nd,hne,hle,q⟩⟩:=h
 refine ⟨_,(@c5.h _ _ _ (ai (aT (i:=1) nc.nd qy)
  (ai (fK gc rfl (eT K (qv 0)) (iu K (n:=2) rfl (cC (aY (i:=2) nc.nd) (cC (aY (i:=3) nc.nd) ir))) (ai (cL (wV (JZ (dB hr) (qv 2) (qv 1))) (ay qz) bF)
  (ay (tR (dB hr) (qv 1) (qv 2) (qv 3) rfl))))
  (ai (cL (aU dS (bJ u7 (by rfl) bZ fQ (af (qv 1) aq)) ak (bf _)) (ay qz) bF)
  (ay (bB (qv 1))))))),?_⟩
 intro d hd
 have g0:=aG hd (.dK [])
 have hd0:upd H d (.dK []) d=some (.dK (h_ (rs.take 0))):=ah
 generalize upd H d (.dK [])=H0 at *
 have hul:=hR.length
 refine ⟨_,Z,l,Z,⟨us,g0.seq hl⟩,?_⟩
 refine k_ (K:=K) (xs:=us) (fun i σ H'=>aO H H'/\H' d=some (.dK (h_ (rs.take i)))/\∃s2 s3,σ=[some (.ref l),some (.ref d),s2,s3]) ⟨g0,hd0,_,_,Z⟩ (fun i σ H' _ hp=>hp.1.seq hl) ?_ ?_
 . rintro i x σ H' hx ⟨g,hd',s2,s3,rfl⟩
   obtain ⟨a,r,rfl,er,ha⟩:=hR.get hx
   have hnot:r.1∉(rs.take i).map (·.1):=by
    rw [List.map_take]
    exact qj nd (by rw [cA,er];rfl)
   have hlt:(h_ (rs.take i)).length<sizeLine:=by rw [xW,nK];exact dH (by omega)
   refine ⟨a,_,Z,dm.of (g _ _ ha),Z,_,_,Z,_,_,Z,Z,?_⟩
   refine ⟨_,Z,_,Z,d,_,Z,dW.k (k:=Sum.inr r.1) hd',_,Z,?_⟩
   rw [FN hnot]
   refine jg ?_
   refine ⟨_,Z,_,Z,_,Z,d,_,Z,vM.k (k:=Sum.inr r.1) hd' hlt,g.cX hd _,?_,_,_,Z⟩
   rw [ah,lu _ (FN hnot),take_snoc er]
   unfold h_
   rw [bR]
   rfl
 rintro σ H' ⟨g,hd',s2,s3,rfl⟩
 rw [hul,cW] at hd'
 refine ⟨_,Z,d,_,Z,hd',Z,_,Z,?_⟩
 rw [xW]
 have hpos:0<rs.length:=List.length_pos_iff.mpr hne
 rw [dw (fun e=>by have:=V.int.inj e;omega)]
 exact jg ⟨_,Z,q d H' g hd hd'⟩
abbrev nV:Stmt:=top 5
abbrev kW:List Str:=["step","tops"]
abbrev Dl:List Str:=kW.append ["top"]
theorem nW:aR Dl kW (aE nV):=dP
theorem BA (F:At K mg "factor_of_all" nV f fd) (iz:Dn P w K mg base 1 "common_factor" jz Ub):Dn P w K mg base 2 "factor_of_all" kW (RX K):=by
 refine F.oA nW fun cdv A outer s H vs Q E hr h=>?_
 obtain ⟨⟨s,l,ts,rfl,hl,h0,h1,q⟩⟩:=h
 refine ⟨_,(@c5.h _ _ _ (ai (fK gc rfl (eT K (qv 1)) (aY (i:=2) nW.nd) (ay (aT (i:=0) nW.nd (bX iz hr (af (qv 2) (af (qv 0) aq))))))
  (ay (bB (qv 0))))),?_⟩
 refine ⟨_,Z,l,Z,⟨_,hl⟩,?_⟩
 refine k_ (K:=K) (xs:=ts.map V.int) (fun i σ H'=>H'=H/\0<=o_ s (ts.take i)/\∃s2,σ=[some (.int (o_ s (ts.take i))),some (.ref l),s2]) ⟨Z,h0,_,Z⟩ (fun i σ H' _ hp=>by rw [hp.1];exact hl) ?_ ?_
 . rintro i x σ H' hx ⟨rfl,hf,s2,rfl⟩
   obtain ⟨t,rfl,et⟩:=fW hx
   have e1:o_ s (ts.take (i+1))=Jm.cf t (o_ s (ts.take i)):=by
    unfold o_
    rw [take_snoc et,Ba]
    rfl
   refine ⟨_,Z,_,Z,t,_,Z,h1 t (cg et),hf,Z,?_,some (.int t),?_⟩
   . rw [e1];unfold Jm.cf;omega
   . rw [e1];rfl
 rintro σ H' ⟨rfl,hf,s2,rfl⟩
 rw [aH,cW]
 exact ⟨_,Z,q⟩
abbrev qB:Stmt:=inClass (top 4) 0
abbrev sj:List Str:=["self"]
abbrev GO:List Str:=sj
theorem Es:aR GO sj (aE qB):=dP
theorem Et {T:TC} (F:FF K mg "Bottom" T.bot "Bottom.__init__" qB f fd) (X:Txt K T):Cn P w K mg base 1 "Bottom" T.bot sj (D8 T):=by
 refine F.oA Es fun cdv A outer s H vs Q E hr h=>?_
 obtain ⟨⟨p,dx,rfl,hp,q⟩⟩:=h
 refine ⟨_,(@c5.h _ _ _ (ai (cK K (qv 0) (iH aq))
  (ai (cK K (qv 0) ak)
  (ay (cK K (qv 0) qy))))),?_⟩
 refine ⟨(iy 0),fun l hl=>?_⟩
 have n1:p≠l:=aF hp hl
 refine ⟨_,Z,p,T.bot,dx,_,Z,by rw [au n1];exact hp,X.cB,X.RO,by show 0<1000;decide,?_⟩
 refine ⟨_,Z,p,T.bot,dx,_,Z,ah,X.cB,X.FH,by show 1<1000;decide,?_⟩
 intro d hd
 have n2:d≠p:=fun e=>by rw [e,ah] at hd;cases hd
 have n3:d≠l:=fun e=>by rw [e,au (bU n1),au (bU n1),ah] at hd;cases hd
 have hd0:H d=none:=by rw [au n2,au n2,au n3] at hd;exact hd
 refine ⟨_,Z,p,T.bot,dx,_,Z,by rw [au (bU n2)];exact ah,X.cB,X.RP,by show 2<1000;decide,?_⟩
 refine q l d _ hl hd0 (bU n3) (fun b o e hb=>?_) ah ?_ ?_
 . rw [au hb,au (aF e hd0),au hb,au hb,au (aF e hl)];exact e
 . rw [au (bU n1),au (bU n3),au (bU n1),au (bU n1)];exact ah
 . rw [au n2];exact ah
abbrev uw:Stmt:=inClass (top 20) 0
abbrev vS:List Str:=["self","name","owner","worth","weight","scale","row"]
abbrev Mi:List Str:=vS
theorem Ku:aR Mi vS (aE uw):=dP
theorem Kv {T:TC} (F:FF K mg "Part" T.part "Part.__init__" uw f fd) (X:Txt K T) (fE:mg "list"=none):Cn P w K mg base 1 "Part" T.part vS (As T K):=by
 refine F.oA Ku fun cdv A outer s H vs Q E hr h=>?_
 obtain ⟨⟨p,dx,l,pt,rfl,hp,hl,q⟩⟩:=h
 refine ⟨_,(@c5.h _ _ _ (ai (cK K (qv 0) (qv 1))
  (ai (cK K (qv 0) (qv 2))
  (ai (cK K (qv 0) (qv 3))
  (ai (cK K (qv 0) (qv 4))
  (ai (cK K (qv 0) (qv 5))
  (ay (cK K (qv 0) (ia (iC K) (by rfl) fE yK (af (qv 6) aq)))))))))),?_⟩
 refine ⟨_,Z,_,Z,p,T.part,dx,_,Z,hp,X.cP,X.RM,by show 0<1000;decide,?_⟩
 refine ⟨_,Z,_,Z,p,T.part,dx,_,Z,ah,X.cP,X.pow,by show 1<1000;decide,?_⟩
 refine ⟨_,Z,_,Z,p,T.part,dx,_,Z,ah,X.cP,X.uc,by show 2<1000;decide,?_⟩
 refine ⟨_,Z,_,Z,p,T.part,dx,_,Z,ah,X.cP,X.RN,by show 3<1000;decide,?_⟩
 refine ⟨_,Z,_,Z,p,T.part,dx,_,Z,ah,X.cP,X.CH,by show 4<1000;decide,?_⟩
 simp only [kC]
 have hl1:∀o,aK K (upd H p o) l (pt.row.map V.int):=fun o=>by
  rcases hl with (h|⟨ob,h⟩)|h
  . exact .inl (.inl (by rw [au (iM h hp (by intro z;cases z))];exact h))
  . exact .inl (.inr ⟨ob,by rw [au (iM h hp (by intro z;cases z))];exact h⟩)
  . exact .inr h
 refine ⟨_,Z,l,_,Z, .inl (hl1 _),fun r hr2=>?_⟩
 have n1:r≠p:=fun e=>by rw [e,ah] at hr2;cases hr2
 refine ⟨_,Z,p,T.part,dx,_,Z,by rw [au (bU n1)];exact ah,X.cP,X.FG,by show 5<1000;decide,?_⟩
 have hr0:H r=none:=by rw [au n1] at hr2;exact hr2
 refine q r _ hr0 (fun b o e hb=>?_) ah ?_
 . rw [au hb,au (aF e hr0),au hb];exact e
 . rw [au n1];exact ah
abbrev qC:Stmt:=inClass (top 4) 1
abbrev ng:List Str:=["self","step"]
abbrev GP:List Str:=ng
theorem Eu:aR GP ng (aE qC):=dP
theorem Ew {T:TC} (F:gI K T.bot "grow" "Bottom.grow" qC f fd) (X:Txt K T):Mn P w K mg base 1 T.bot "grow" ng (RY T):=by
 refine F.oA Eu fun cdv A outer s H vs Q E hr h=>?_
 obtain ⟨⟨n,ρ,A,st,s,rfl,g,h,hl,z1,z2,q⟩⟩:=h
 refine ⟨_,(@c5.h _ _ _ (ay (i9 (aU jn (qv 1) ak (bf _)) (ai (cu (j_ nG nE nF dX (aJ K (qv 0)) (af (qv 1) aq)))
  (ai (pF K (qv 0) (qv 1) Xb)
  (ay (cK K (qv 0) qy)))) bF))),?_⟩
 refine ⟨fun σ' H'=>Q .b9 H',⟨_,Z,_,_,Z,Z,_,Z,aQ (fun c=>?_) (fun c=>?_)⟩,fun _ _ z=>z⟩
 . have c':1<s:=bg c
   refine ⟨_,Z,A.bt,T.bot,A.db,_,_,Z,h.iQ,X.cB,X.RO,Z, .inl ⟨Z,_,aK.of h.kT⟩,_,Z,A.sp,_,_,Z,Z,h.kT,by rw [aH];exact dH hl,?_⟩
   rw [show st.stp.map V.int++[V.int s]=(st.stp++[s]).map V.int from by rw [bR];rfl]
   have h1:=h.Zk g (st.stp++[s])
   have g1:=g.wr (a:=A.sp) (o:= .lst ((st.stp++[s]).map V.int)) rfl
   have F1:Fr n ρ H ρ (upd H A.sp (.lst ((st.stp++[s]).map V.int))):=Fr.write h.gy
   generalize upd H A.sp (.lst ((st.stp++[s]).map V.int))=H1 at *
   refine ⟨_,Z,A.bt,T.bot,A.db,_,_,Z,h1.iQ,X.cB,X.FH,Z,_,Z,_,_,Z,Z,iS z1 z2,A.db,_,h1.iQ,by show 3<1000;decide,?_⟩
   intro kn hkn
   have nb:kn≠A.bt:=fun e=>by rw [e,ah] at hkn;cases hkn
   have BB:H1 kn=none:=by rw [au nb] at hkn;exact hkn
   have gC:ρ kn=none:=g1.none BB
   refine ⟨_,Z,A.bt,T.bot,A.db,_,Z,by rw [au (bU nb)];exact ah,X.cB,X.RP,by show 3<1000;decide,?_⟩
   have eH:upd (upd (upd H1 A.bt (.ins T.bot A.db (aW "product" (.int (st.prod*s)) (jD A.sp st.prod A.kn)))) kn (.dK [])) A.bt (.ins T.bot A.db (aW "known" (.ref kn) (aW "product" (.int (st.prod*s)) (jD A.sp st.prod A.kn))))=upd (upd H1 kn (.dK [])) A.bt (.ins T.bot A.db (jD A.sp (st.prod*s) kn)):=by
    rw [iE (bU nb),kC]
    rfl
   have k2:Kp n ρ (cO ρ kn (n,9,⟨#[]⟩)) H1 (upd H1 kn (.dK [])) (fun _=>true):=⟨(aG BB _).tups,fun b t x o _ c e=>⟨aG BB _ _ _ e,by rw [bu (aF e BB)];exact c⟩⟩
   have h2:=h1.same k2
   have g2:Gh (cO ρ kn (n,9,⟨#[]⟩)) (upd H1 kn (.dK [])):=(g1.alloc BB).color ah rfl
   have F2:Fr n ρ H1 (cO ρ kn (n,9,⟨#[]⟩)) (upd H1 kn (.dK [])):=Fr.color BB (aG BB _)
   have h3:=h2.Zl g2 (st.prod*s) kn ah bY
   have es:ef st s={ { st with stp:=st.stp++[s] } with prod:=st.prod*s,kn:=0 }:=by
    unfold ef
    rw [aD c']
   rw [es] at q
   show Q .b9 _
   refine (show _=_ from eH)▸?_
   exact q _ _ _ (g2.wr rfl) h3 rfl (F1.trans (F2.trans (Fr.write h2.gv)))
 . have c':¬ 1<s:=tT (qa.mpr c)
   have es:ef st s=st:=by unfold ef;rw [aB c']
   rw [es] at q
   exact q ρ A H g h rfl Fr.refl
abbrev nX:Stmt:=inClass (top 21) 19
abbrev fG:List Str:=["self","owner"]
abbrev Dm:List Str:=fG
theorem BC:aR Dm fG (aE nX):=dP
theorem AB {T:TC} {e:Ec} (F:gI K T.hold "place_of" "Hold.place_of" nX f fd) (X:Txt K T) (yj:gR K e.PO) (zW:mg "NoOwner"=some (.ref e.PO)):Mx P w K mg base 1 T.hold "place_of" fG (x_ T e):=by
 refine F.yC BC fun cdv A outer s H vs Q E hr h=>?_
 obtain ⟨⟨n,ρ,A,st,o,rfl,h,q2,q⟩⟩:=h
 refine ⟨_,(@c5.h _ _ _ (ai (cL (wV (zN (dB hr) (qv 1) (aJ K (qv 0)))) (ay (kg yj (by rfl) zW)) bF)
  (ay (bB (dN (dB hr) (aJ K (qv 0)) (qv 1)))))),?_⟩
 refine ⟨_,Z,_,Z,A.a,T.hold,A.dx,_,_,Z,h.oa,X.cH,X.hpl,Z,A.pl,_,Z,dW.k (k:=Sum.inr o) h.gQ,_,Z,?_⟩
 by_cases ho:o∈st.own
 . have hv:=NV (i:=0) ho
   rw [hv]
   refine jg ?_
   refine ⟨_,Z,A.a,T.hold,A.dx,_,_,Z,h.oa,X.cH,X.hpl,Z,_,Z,A.pl,_,Z,hv▸dW.k (k:=Sum.inr o) h.gQ,?_⟩
   rw [B_]
   exact q ho
 . rw [oZ ho]
   exact mF fun x=>q2 ho x H (aO.refl _)
abbrev pJ:Stmt:=inClass (top 21) 20
abbrev eE:List Str:=["self","name"]
abbrev Ex:List Str:=eE
theorem Dp:aR Ex eE (aE pJ):=dP
theorem BD {T:TC} {e:Ec} (F:gI K T.hold "part_of" "Hold.part_of" pJ f fd) (X:Txt K T) (zX:gR K e.JV) (BE:mg "NoPart"=some (.ref e.JV)):Mx P w K mg base 1 T.hold "part_of" eE (lG T e):=by
 refine F.yC Dp fun cdv A outer s H vs Q E hr h=>?_
 obtain ⟨⟨n,ρ,A,st,x,rfl,hA,nd,q2,k⟩⟩:=h
 refine ⟨_,(@c5.h _ _ _ (ai (cL (wV (zN (dB hr) (qv 1) (aJ K (qv 0)))) (ay (kg zX (by rfl) BE)) bF)
  (ay (bB (dN (dB hr) (aJ K (qv 0)) (qv 1)))))),?_⟩
 refine ⟨_,Z,_,Z,A.a,T.hold,A.dx,_,_,Z,hA.oa,X.cH,X.hab,Z,A.ab,_,Z,dW.k (k:=Sum.inr x) hA.c_,_,Z,?_⟩
 by_cases hx:∃p∈st.aj,p.nm=x
 . obtain ⟨p,hp,rfl⟩:=hx
   obtain ⟨i,hi,ep⟩:=List.mem_iff_getElem.mp hp
   have wk:st.aj[i]?=some p:=by rw [bD hi,ep]
   obtain ⟨qq,eq,_⟩:=hA.find wk
   have hv:=tM nd wk eq
   rw [hv]
   refine jg ?_
   exact ⟨_,Z,A.a,T.hold,A.dx,_,_,Z,hA.oa,X.cH,X.hab,Z,_,Z,A.ab,_,Z,hv▸dW.k (k:=Sum.inr p.nm) hA.c_,k i p qq rfl wk eq⟩
 . have hn:∀p∈st.aj,p.nm≠x:=fun p hp z=>hx ⟨p,hp,z⟩
   rw [o7 hn]
   exact mF fun y=>q2 hn y H (aO.refl _)
abbrev mJ:Stmt:=inClass (top 21) 21
abbrev i_:List Str:=["self","name"]
abbrev BF:List Str:=i_
theorem AD:aR BF i_ (aE mJ):=dP
theorem zY {T:TC} {e:Ec} (F:gI K T.hold "check_new" "Hold.check_new" mJ f fd) (X:Txt K T) (oF:Dn P w K mg base 2 "is_name" rR xS) (yk:gR K e.bad) (zZ:mg "BadName"=some (.ref e.bad)) (BG:gR K e.twice) (Ey:mg "Twice"=some (.ref e.twice)):Mx P w K mg base 3 T.hold "check_new" i_ (vQ T e):=by
 refine F.yC AD fun cdv A outer s H vs Q E hr h=>?_
 obtain ⟨⟨n,ρ,A,st,x,rfl,h,hx,q2,q⟩⟩:=h
 refine ⟨_,(@c5.h _ _ _ (ai (cL (J0 (wU (bX oF hr (af (qv 1) aq)))) (ay (kg yk (by rfl) zZ)) bF)
  (ay (cL (wV (JZ (dB hr) (qv 1) (aJ K (qv 0)))) (ay (kg BG (by rfl) Ey)) bF)))),?_⟩
 refine ⟨_,Z,Cw (cs:=x.cps.toList) hx fun H1 g1=>⟨_,Z,?_⟩⟩
 cases hn:isName x.cps.toList with
 | false=>exact mF fun y=>q2 0 (by unfold newR isNm;rw [hn];rfl) y H1 g1
 | true=>
   refine jg ?_
   have h1:=h.mono g1
   refine ⟨_,Z,_,Z,A.a,T.hold,A.dx,_,_,Z,h1.oa,X.cH,X.hnm,Z,A.nm,_,Z,dW.k (k:=Sum.inr x) h1.mD,_,Z,?_⟩
   by_cases hm:x∈st.nms
   . rw [Jz hm]
     exact mF fun y=>q2 1 (by unfold newR isNm;rw [hn,aD rfl,aD hm]) y H1 g1
   . rw [zh hm]
     exact jg (q (zK hn hm) H1 g1)
abbrev sr:Stmt:=inClass (top 21) 13
abbrev ja:List Str:=["self"]
abbrev Kw:List Str:=ja
theorem GQ:aR Kw ja (aE sr):=dP
theorem GR {T:TC} (F:gI K T.hold "whole" "Hold.whole" sr f fd) (X:Txt K T) (gP:mg "sum"=none):Mn P w K mg base 1 T.hold "whole" ja (wN T):=by
 refine F.oA GQ fun cdv A outer s H vs Q E hr h=>?_
 obtain ⟨⟨n,ρ,A,st,rfl,h,hl,q⟩⟩:=h
 refine ⟨_,(@c5.h _ _ _ (ay (bB (bJ (ou K rfl) (by rfl) gP yL (af (CW (iU ["part"] [none] rfl (Aw (aJ K (qv 0))) (fun _ _ _ _=>(aY (i:=0) (show List.Nodup (["part"] :List Str) from by decide +kernel))) (fun _ _ _ _=>(aJ K (qv 0))) rfl (by rfl))) aq))))),?_⟩
 refine ⟨A.ab,_,h.c_,fun o=>?_⟩
 refine ⟨_,Z,A.a,T.hold,A.dx,_,_,Z,dY h.c_ h.oa (fun k z=>by cases z),X.cH,X.hab,Z,A.ab,o,_,Z,ah,fun acc hacc=>?_⟩
 have el:=tL h.ql
 refine kq (n:=st.aj.length) 0 (fun i out H1=>aO (upd H A.ab (.eF o (.dK (bN st.aj A.qs)))) H1/\out=((st.aj.take i).map (·.wo)).map V.int) (by omega) ⟨aG hacc _,Z⟩ (fun i out H1 hi _ hp=>⟨hp.1 _ _ ah,by rw [el];exact hi⟩) (fun out H1 _ hp=>⟨hp.1 _ _ ah,by rw [el];exact aN _⟩) ?_ ?_
 . rintro i x out H1 H2 hi fY ha ⟨g,e⟩ ⟨rfl,kv,hkv,rfl⟩
   have ep:=bD hi
   obtain ⟨qq,eq,h1,h2,_⟩:=h.find ep
   rw [tK ep eq] at hkv
   cases hkv
   have hq:=g _ _ (dY h.c_ h1 (fun k z=>by cases z))
   refine ⟨_,Z,qq.1,T.part,qq.2.1,_,_,Z,hq,X.cP,X.uc,Z,ha,g.cX hacc _,?_⟩
   rw [take_snoc ep,e,bR,bR]
   rfl
 rintro out H1 fY ha ⟨g,e⟩
 rw [cW] at e
 have hz:=g _ _ (ah (H:=H) (a:=A.ab) (o:= .eF o (.dK (bN st.aj A.qs))))
 have na:acc≠A.ab:=fun e=>by rw [e,hz] at ha;cases ha
 exact ⟨hz,acc,st.aj.map (fun p:Pt=>p.wo),Z,aK.of (by rw [au na,ha,e]),q _ (qg h.c_ g)⟩
abbrev jV:Stmt:=inClass (top 21) 25
abbrev gG:List Str:=["self","tops"]
abbrev yl:List Str:=gG
theorem xg:aR yl gG (aE jV):=dP
theorem xh {T:TC} (F:gI K T.hold "beyond_common" "Hold.beyond_common" jV f fd) (X:Txt K T) (iP:mg "zip"=none):Mn P w K mg base 1 T.hold "beyond_common" gG (PK T K):=by
 refine F.oA xg fun cdv A outer s H vs Q E hr h=>?_
 obtain ⟨⟨n,ρ,A,st,l,tops,rfl,h,hS,htl,hle,q⟩⟩:=h
 refine ⟨_,(@c5.h _ _ _ (ay (bB (iU ["top","common"] [none,none] rfl (qx K (by rfl) iP (af (qv 1) (af (aJ K (qv 0)) aq))) (fun _ _ _ _=>(iu K (n:=2) rfl (cC (aY (i:=0) (show List.Nodup (["top","common"] :List Str) from by decide +kernel)) (cC (aY (i:=1) (show List.Nodup (["top","common"] :List Str) from by decide +kernel)) ir)))) (fun _ _ _ _=>(aM iZ (qv 0) (qv 1))) rfl (by rfl))))),?_⟩
 refine ⟨_,Z,_,Z,A.a,T.hold,A.dx,_,_,Z,h.oa,X.cH,X.wM,Z,_,_,_,_,_,_,Z, .lst hS, .lst (aK.of h.gU),fun acc hacc=>?_⟩
 refine wK (K:=K) (n:=tops.length) [0,1] (fun i out H1=>aO H H1/\out=(List.zipWith (fun t c=>t-c) (tops.take i) (st.bz.take i)).map V.int) (by decide) (by omega) ⟨aG hacc _,Z⟩ (fun i out H1 hi _ hp=>⟨hp.1.seq hS,hp.1.seq (aK.of h.gU),by rw [aH];exact hi,by rw [aH];omega⟩)
  (fun out H1 _ hp=>⟨hp.1.seq hS,hp.1.seq (aK.of h.gU), .inl (by rw [aH];exact aN _)⟩) ?_ ?_
 . rintro i x out H1 H2 hi fY ha ⟨g,e⟩ ⟨p,x1,y1,hp,rfl,rfl,e1,e2⟩
   obtain ⟨t,rfl,et⟩:=fW e1
   obtain ⟨c,rfl,ec⟩:=fW e2
   have g1:=aG hp (.tup [.int t, .int c])
   refine ⟨p,_,Z,dm.of ah,Z,_,Z,_,Z,_,_,Z,Z,g1 _ _ ha,(g.trans g1).cX hacc _,?_⟩
   rw [rN _ et ec,e,bR]
   rfl
 rintro out H1 fY ha ⟨g,e⟩
 rw [cW,htl,cW] at e
 exact q acc H1 g hacc (by rw [ha,e];rfl)
abbrev pK:Stmt:=inClass (top 21) 24
abbrev iW:List Str:=["self","part"]
abbrev Ez:List Str:=iW
theorem Dq:aR Ez iW (aE pK):=dP
theorem Dr {T:TC} (F:gI K T.hold "tops_of" "Hold.tops_of" pK f fd) (X:Txt K T) (iP:mg "zip"=none):Mn P w K mg base 1 T.hold "tops_of" iW (Av T):=by
 refine F.oA Dq fun cdv A outer s H vs Q E hr h=>?_
 obtain ⟨⟨n,ρ,A,st,ip,pt,qq,rfl,h,wf,ep,eq,q⟩⟩:=h
 obtain ⟨h1,h2,_⟩:=h.opt ip pt qq ep eq
 have eV:=cg ep
 refine ⟨_,(@c5.h _ _ _ (ay (bB (iU ["own","common","part"] [none,none,some 1] rfl (qx K (by rfl) iP (af (aJ K (qv 1)) (af (aJ K (qv 0)) aq))) (fun _ _ _ _=>(iu K (n:=2) rfl (cC (aY (i:=0) (show List.Nodup (["own","common","part"] :List Str) from by decide +kernel)) (cC (aY (i:=1) (show List.Nodup (["own","common","part"] :List Str) from by decide +kernel)) ir)))) (fun _ _ _ _=>(aM cT (aM jh (aJ K (qv 2)) (qv 0)) (qv 1))) rfl (by rfl))))),?_⟩
 have erl:pt.row.length=st.bz.length:=by rw [wf.rows pt eV,wf.fV]
 have hcl:st.bz.length<=100:=by rw [wf.fV];exact wf.j8
 refine ⟨_,Z,qq.1,T.part,qq.2.1,_,_,Z,h1,X.cP,X.FG,Z,_,Z,A.a,T.hold,A.dx,_,_,Z,h.oa,X.cH,X.wM,Z,_,_,_,_,_,_,Z, .lst (aK.of h2), .lst (aK.of h.gU),fun acc hacc=>?_⟩
 refine wK (K:=K) (n:=pt.row.length) [0,1] (fun i out H1=>aO H H1/\out=(List.zipWith (fun r c=>pt.sc*r+c) (pt.row.take i) (st.bz.take i)).map V.int) (by decide) (by omega) ⟨aG hacc _,Z⟩ (fun i out H1 hi _ hp=>⟨hp.1.seq (aK.of h2),hp.1.seq (aK.of h.gU),by rw [aH];exact hi,by rw [aH];omega⟩)
  (fun out H1 _ hp=>⟨hp.1.seq (aK.of h2),hp.1.seq (aK.of h.gU), .inl (by rw [aH];exact aN _)⟩) ?_ ?_
 . rintro i x out H1 H2 hi fY ha ⟨g,e⟩ ⟨p,x1,y1,hp,rfl,rfl,e1,e2⟩
   obtain ⟨t,rfl,et⟩:=fW e1
   obtain ⟨c,rfl,ec⟩:=fW e2
   have g1:=aG hp (.tup [.int t, .int c])
   have s1:Jm.Sz 8000 pt.sc:=Jm.Sz.lz (by have:=wf.oY pt eV;have:=wf.d9;omega) (wf.oY pt eV).2 wf.big
   have s2:Jm.Sz 8000 t:=Jm.Sz.lz (wf.mG pt eV t (cg et)).1 (wf.mG pt eV t (cg et)).2 wf.big
   refine ⟨p,_,Z,dm.of ah,Z,_,Z,qq.1,T.part,qq.2.1,_,_,Z,(g.trans g1) _ _ h1,X.cP,X.CH,Z,_,Z,_,_,Z,Z,iS s1 s2,_,Z,_,_,Z,Z,g1 _ _ ha,(g.trans g1).cX hacc _,?_⟩
   rw [rN _ et ec,e,bR]
   rfl
 rintro out H1 fY ha ⟨g,e⟩
 rw [cW,erl,cW] at e
 exact q acc H1 g hacc (by rw [ha,e];rfl)
abbrev ux:Stmt:=inClass (top 21) 22
abbrev mU:List Str:=["self","part"]
abbrev Mj:List Str:=mU
theorem Ky:aR Mj mU (aE ux):=dP
theorem Kz {T:TC} (F:gI K T.hold "stow" "Hold.stow" ux f fd) (X:Txt K T):Mn P w K mg base 1 T.hold "stow" mU (JB T):=by
 refine F.oA Ky fun cdv A outer s H vs Q E hr h=>?_
 obtain ⟨⟨n,ρ,A,st,qq,p,rfl,hh,h1,h2,c1,c2,hn,wf',q⟩⟩:=h
 have h:=hh.h
 refine ⟨_,(@c5.h _ _ _ (ai (tR (dB hr) (aJ K (qv 0)) (aJ K (qv 1)) (qv 1) rfl)
  (ay (tR (dB hr) (aJ K (qv 0)) (aJ K (qv 1)) Ir rfl)))),?_⟩
 have z6:∀x∈st.aj,x.nm≠p.nm:=fun x hx e=>hn (by rw [<-e];exact hh.wf.sub x hx)
 have lab:(bN st.aj A.qs).length<sizeLine:=by rw [tL h.ql];exact dH hh.wf.lD
 refine ⟨_,Z,_,Z,A.a,T.hold,A.dx,_,_,Z,h.oa,X.cH,X.hab,Z,_,Z,qq.1,T.part,qq.2.1,_,_,Z,h1,X.cP,X.RM,Z,A.ab,_,Z,vM.k (k:=Sum.inr p.nm) h.c_ lab,?_⟩
 rw [lu _ (o7 z6),<-Jy h.ql p qq]
 have k1:qq.1≠qq.2.2:=iM h1 h2 (by intro z;cases z)
 have f1:Kp n ρ (cO (cO ρ qq.1 (n,20,p.nm)) qq.2.2 (n,21,p.nm)) H H (fun _=>true):=⟨fun _ _ e=>e,fun b t x o _ c e=>⟨e,by
  rw [bu (fun z=>by rw [z,c2] at c;cases c),bu (fun z=>by rw [z,c1] at c;cases c)];exact c⟩⟩
 have hc:=h.same f1
 have g1:Gh (cO (cO ρ qq.1 (n,20,p.nm)) qq.2.2 (n,21,p.nm)) H:=(hh.g.color h1 rfl).color h2 rfl
 have fr1:JA n qq.1 qq.2.2 ρ H (cO (cO ρ qq.1 (n,20,p.nm)) qq.2.2 (n,21,p.nm)) H:=fun b o e k n1 n2=>⟨e,by rw [bu n2,bu n1]⟩
 have hs:=hc.Ju g1 (st.aj++[p]) (A.qs++[qq]) (by rw [dj,dj,h.ql];rfl) (fun i x y ex ey=>by
  by_cases hi:i<st.aj.length
  . rw [yI hi] at ex
    rw [yI (by rw [h.ql];exact hi)] at ey
    exact hc.opt i x y ex ey
  . rw [BW (by omega)] at ex
    rw [BW (by rw [h.ql];omega),h.ql] at ey
    have e0:i-st.aj.length=0:=by
     rcases Nat.eq_zero_or_pos (i-st.aj.length) with z|z
     . exact z
     . rw [xx (by show 1<=_;exact z)] at ex;cases ex
    rw [e0] at ex ey
    cases ex;cases ey
    exact ⟨h1,h2,by rw [bu k1];exact bY,bY⟩)
 have g2:=g1.wr (a:=A.ab) (o:= .dK (bN (st.aj++[p]) (A.qs++[qq]))) rfl
 have fr2:Fr n _ H _ (upd H A.ab (.dK (bN (st.aj++[p]) (A.qs++[qq])))):=Fr.write hc.eX
 have CI:upd H A.ab (.dK (bN (st.aj++[p]) (A.qs++[qq]))) qq.1=some (.ins T.part qq.2.1 (cQ p qq.2.2)):=by rw [au (iM h1 h.c_ (by intro z;cases z))];exact h1
 refine ⟨_,Z,A.a,T.hold,A.dx,_,_,Z,hs.oa,X.cH,X.hnm,Z,_,Z,qq.1,T.part,qq.2.1,_,_,Z,CI,X.cP,X.RM,Z,A.nm,_,Z,vM.k (k:=Sum.inr p.nm) hs.mD (by unfold wL;rw [aH];exact dH hh.wf.xV),?_⟩
 rw [lu _ (zh hn),show wL st.nms++[(Sum.inr p.nm,V.bl true)]=wL (st.nms++[p.nm]) from by unfold wL;rw [bR];rfl]
 have hs2:=hs.Zh g2 (st.nms++[p.nm])
 exact q _ _ _ ⟨g2.wr rfl,hs2,wf'⟩ rfl (fr1.trans (fr2.trans (Fr.write hs.gu)))
abbrev uy:Stmt:=inClass (top 21) 1
abbrev mV:List Str:=["self","owner"]
abbrev Ml:List Str:=mV.append ["part"]
theorem z7:aR Ml mV (aE uy):=dP
theorem KA {T:TC} (F:gI K T.hold "sign" "Hold.sign" uy f fd) (X:Txt K T) (oF:Dn P w K mg base 2 "is_name" rR xS) (bZ:mg "len"=none):Mn P w K mg base 3 T.hold "sign" mV (D_ T):=by
 refine F.oA z7 fun cdv A outer s H vs Q E hr h=>?_
 obtain ⟨⟨n,ρ,A,st,o,rfl,hh,hx,hn,hl,q⟩⟩:=h
 refine ⟨_,(@c5.h _ _ _ (ai (cL (J0 (wU (bX oF hr (af (qv 1) aq)))) (ay qz) bF)
  (ai (cL (wV (JZ (dB hr) (qv 1) (aJ K (qv 0)))) (ay qz) bF)
  (ai (tR (dB hr) (aJ K (qv 0)) (qv 1) (bJ u7 (by rfl) bZ fQ (af (aJ K (qv 0)) aq)) rfl)
  (ai (cu (j_ nG nE nF dX (aJ K (qv 0)) (af ak aq)))
  (ai (cu (j_ nG nE nF dX (aJ K (qv 0)) (af ak aq)))
  (ay (wW (fK gc rfl (Aw (aJ K (qv 0))) (aY (i:=2) z7.nd) (ay (cu (j_ nG nE nF dX (aJ K (qv 2)) (af ak aq))))))))))))),?_⟩
 refine ⟨_,Z,Cw (cs:=o.cps.toList) (JD hx) fun H1 g1=>⟨_,Z,?_⟩⟩
 rw [show isName o.cps.toList=true from hx]
 refine jg ?_
 have jb:=hh.mono g1
 have h1:=jb.h
 have F1:Fr n ρ H ρ H1:=Fr.of_same g1
 refine ⟨_,Z,_,Z,A.a,T.hold,A.dx,_,_,Z,h1.oa,X.cH,X.hpl,Z,A.pl,_,Z,dW.k (k:=Sum.inr o) h1.gQ,_,Z,?_⟩
 rw [oZ hn]
 refine jg ?_
 have AZ:=o6 st.own 0
 refine ⟨_,Z,A.a,T.hold,A.dx,_,_,Z,h1.oa,X.cH,X.hpl,Z,A.pl,_,Z,h1.gQ,_,Z,A.a,T.hold,A.dx,_,_,Z,h1.oa,X.cH,X.hpl,Z,_,Z,A.pl,_,Z,vM.k (k:=Sum.inr o) h1.gQ (dH (by rw [AZ];omega)),?_⟩
 rw [lu _ (oZ hn),AZ,show fD 0 st.own++[(Sum.inr o,V.int (st.own.length:Int))]=fD 0 (st.own++[o]) from by rw [Jw,B_]]
 have h2:=h1.Zf jb.g (st.own++[o])
 have G2:=jb.g.wr (a:=A.pl) (o:= .dK (fD 0 (st.own++[o]))) rfl
 have F2:=F1.trans (Fr.write (o:= .dK (fD 0 (st.own++[o]))) h1.fZ)
 generalize upd H1 A.pl (.dK (fD 0 (st.own++[o])))=H2 at *
 have lcm:(st.bz.map V.int).length<sizeLine:=by rw [aH,hh.wf.fV];exact dH (by omega)
 refine ⟨_,Z,A.a,T.hold,A.dx,_,_,Z,h2.oa,X.cH,X.wM,Z, .inl ⟨Z,_,aK.of h2.gU⟩,A.cm,_,_,Z,Z,h2.gU,lcm,?_⟩
 rw [show st.bz.map V.int++[V.int 0]=(st.bz++[0]).map V.int from by rw [bR];rfl]
 have h3:=h2.Zi G2 (st.bz++[0])
 have G3:=G2.wr (a:=A.cm) (o:= .lst ((st.bz++[0]).map V.int)) rfl
 have F3:=F2.trans (Fr.write (o:= .lst ((st.bz++[0]).map V.int)) h2.gx)
 generalize upd H2 A.cm (.lst ((st.bz++[0]).map V.int))=H3 at *
 have lpu:(st.bL.map V.int).length<sizeLine:=by rw [aH,hh.wf.nO];exact dH (by omega)
 refine ⟨_,Z,A.a,T.hold,A.dx,_,_,Z,h3.oa,X.cH,X.zf,Z, .inl ⟨Z,_,aK.of h3.jq⟩,A.pu,_,_,Z,Z,h3.jq,lpu,?_⟩
 rw [show st.bL.map V.int++[V.int 0]=(st.bL++[0]).map V.int from by rw [bR];rfl]
 have h4:=h3.Zj G3 (st.bL++[0])
 have G4:=G3.wr (a:=A.pu) (o:= .lst ((st.bL++[0]).map V.int)) rfl
 have F4:=F3.trans (Fr.write (o:= .lst ((st.bL++[0]).map V.int)) h3.cpu)
 generalize upd H3 A.pu (.lst ((st.bL++[0]).map V.int))=H4 at *
 clear h1 h2 h3 G2 G3 F2 F3 jb
 have hpl:=hh.wf.lD
 refine ⟨A.ab,_,h4.c_,fun ob=>?_⟩
 refine ⟨_,Z,A.a,T.hold,A.dx,_,_,Z,dY h4.c_ h4.oa (fun k z=>by cases z),X.cH,X.hab,Z,A.ab,ob,_,Z,ah,?_⟩
 have el:=tL h4.ql
 have el0:(bN st.aj A.qs).length=st.aj.length:=el
 refine ua (n:=st.aj.length) (fun i σ H'=>(∃s2,σ=[some (.ref A.a),some (.str o),s2])/\oz H' A.ab ob (bN st.aj A.qs)/\∃H5,H'=upd H5 A.ab (.eF ob (.dK (bN st.aj A.qs)))/\Gh ρ H5/\Fr n ρ H ρ H5/\
   aL T n ρ A H5 { st with own:=st.own++[o],bz:=st.bz++[0],bL:=st.bL++[0],aj:=(st.aj.take i).map (fun p=>{ p with row:=p.row++[0] })++st.aj.drop i })
  ⟨⟨_,Z⟩,ah,H4,Z,G4,F4,h4⟩ (fun i σ H' hi hp=>⟨hp.2.1,by rw [el0];exact hi⟩) (fun σ H' hp=>⟨hp.2.1,by rw [el0];exact aN _⟩) ?_ ?_
 . rintro i x σ H' CN hi ⟨⟨s2,rfl⟩,hz,H5,rfl,G5,F5,h5⟩ ⟨rfl,kv,hkv,rfl⟩
   have ep:=bD hi
   have ep5:=JF (fun p:Pt=>{ p with row:=p.row++[0] }) ep
   obtain ⟨qq,eq,k1,k2,k3,k4⟩:=h5.find ep5
   rw [tK ep eq] at hkv
   cases hkv
   have V7:=qi (fun p:Pt=>{ p with row:=p.row++[0] }) (fun p:Pt=>p.nm) (fun _=>rfl) st.aj i
   have nd5:(((st.aj.take i).map (fun p:Pt=>{ p with row:=p.row++[0] })++st.aj.drop i).map (fun p:Pt=>p.nm)).Nodup:=by rw [V7];exact hh.wf.dh
   have z1:=dY (o:=ob) h5.c_ k1 (fun k z=>by cases z)
   have z2:=dY (o:=ob) h5.c_ k2 (fun k z=>by cases z)
   rw [show bN ({ st with own:=st.own++[o],bz:=st.bz++[0],bL:=st.bL++[0],aj:=(st.aj.take i).map (fun p:Pt=>{ p with row:=p.row++[0] })++st.aj.drop i }:HS).aj A.qs=bN st.aj A.qs from oB V7] at z1 z2
   have hrl:((st.aj[i]).row.map V.int).length<sizeLine:=by rw [aH,hh.wf.rows _ (Ad hi)];exact dH (by omega)
   refine ⟨_,Z,qq.1,T.part,qq.2.1,_,_,Z,z1,X.cP,X.FG,Z, .inl ⟨Z,_,aK.of z2⟩,qq.2.2,_,_,Z,Z,z2,hrl,?_⟩
   have na:A.ab≠qq.2.2:=(iM k2 h5.c_ (by intro z;cases z)).symm
   rw [show (st.aj[i]).row.map V.int++[V.int 0]=((st.aj[i]).row++[0]).map V.int from by rw [bR];rfl]
   have h6:=h5.Xd G5 ((st.aj[i]).row++[0]) ep5 eq nd5
   rw [show ({ st with own:=st.own++[o],bz:=st.bz++[0],bL:=st.bL++[0],aj:=(st.aj.take i).map (fun p:Pt=>{ p with row:=p.row++[0] })++st.aj.drop i }:HS).aj.set i { st.aj[i] with row:=(st.aj[i]).row++[0] }=_ from JG (fun p:Pt=>{ p with row:=p.row++[0] }) ep] at h6
   exact ⟨⟨_,Z⟩,(au na).trans hz,_,iE na,G5.wr rfl,F5.trans (Fr.write k4),h6⟩
 . rintro σ H' ⟨_,hz,H5,rfl,G5,F5,h5⟩
   have V7:=qi (fun p:Pt=>{ p with row:=p.row++[0] }) (fun p:Pt=>p.nm) (fun _=>rfl) st.aj st.aj.length
   have e5:bN ({ st with own:=st.own++[o],bz:=st.bz++[0],bL:=st.bL++[0],aj:=(st.aj.take st.aj.length).map (fun p:Pt=>{ p with row:=p.row++[0] })++st.aj.drop st.aj.length }:HS).aj A.qs=bN st.aj A.qs:=oB V7
   have h5':=h5.c_
   rw [e5] at h5'
   refine ⟨hz,?_⟩
   rw [kC,qh h5']
   have es:({ st with own:=st.own++[o],bz:=st.bz++[0],bL:=st.bL++[0],aj:=(st.aj.take st.aj.length).map (fun p:Pt=>{ p with row:=p.row++[0] })++st.aj.drop st.aj.length }:HS)=gO st o:=by
    unfold gO
    rw [cW,List.drop_length,Af]
   rw [es] at h5
   exact q ρ A H5 ⟨G5,h5,Eb hh.wf hn hl⟩ rfl F5
abbrev uz:Stmt:=inClass (top 21) 2
abbrev q_:List Str:=["self","part","owner","worth","weight"]
abbrev Mm:List Str:=q_.append ["place","tops"]
theorem uA:aR Mm q_ (aE uz):=dP
theorem KC {T:TC} (F:gI K T.hold "load" "Hold.load" uz f fd) (X:Txt K T) (nY:Mn P w K mg base 3 T.hold "check_new" i_ (CK T)) (eW:Mn P w K mg base 1 T.hold "place_of" fG (Au T))
  (fB:Mn P w K mg base 1 T.hold "beyond_common" gG (PK T K)) (kG:Mn P w K mg base 1 T.hold "stow" mU (JB T)) (pL:Cn P w K mg base 1 "Part" T.part ["self","name","owner","worth","weight","scale","row"] (As T K)) (bZ:mg "len"=none):Mn P w K mg base 4 T.hold "load" q_ (RS T):=by
 refine F.oA uA fun cdv A outer s H vs Q E hr h=>?_
 obtain ⟨⟨n,ρ,A,st,x,o,wo,we,rfl,hh,hx,hn,ho,h4,h5,h6,h7,q⟩⟩:=h
 refine ⟨_,(@c5.h _ _ _ (ai (cu (cI nY hr (qv 0) (af (qv 1) aq)))
  (ai (aT (i:=5) uA.nd (cI eW hr (qv 0) (af (qv 2) aq)))
  (ai (cL (kD (bW.pt (Iu (aU qV (qv 3) ak (bf _)) (CZ (aU qV (qv 4) ak (bf _)))))) (ay qz) bF)
  (ai (aT (i:=6) uA.nd (aM Q8 (iH (af ak aq)) (bJ u7 (by rfl) bZ fQ (af (aJ K (qv 0)) aq))))
  (ai (mS (aJ K (aJ K (qv 0))) (mT (qv 6) (qv 5) set_list))
  (ay (cu (cI kG hr (qv 0) (af (PZ pL hr (af (qv 1) (af (qv 2) (af (qv 3) (af (qv 4) (af ak (af (cI fB hr (qv 0) (af (qv 6) aq)) aq))))))) aq)))))))))),?_⟩
 refine ⟨_,Z,A.a,A.dx,_,Z,hh.h.oa,Z,_,Z,⟨⟨n,ρ,A,st,x,Z,hh.h,hx,hn,fun H1 g1=>?_⟩⟩⟩
 have jb:=hh.mono g1
 have F1:Fr n ρ H ρ H1:=Fr.of_same g1
 clear hh
 refine ⟨_,Z,A.a,A.dx,_,Z,jb.h.oa,Z,_,Z,⟨⟨n,ρ,A,st,o,Z,jb.h,ho,?_⟩⟩⟩
 refine ⟨false,⟨_,Z,_,_,Z,Z,_,Z,aQ (fun c=>absurd (bg c) (by omega)) fun _=>⟨_,Z,_,_,Z,Z,_,Z,dw (by omega),Z⟩⟩,jg ?_⟩
 refine ⟨(iy 1),fun p0 hp0=>?_⟩
 have g2:=aG hp0 (.lst [.int 0])
 have oG:=jb.mono g2
 have F2:=F1.trans (Fr.of_same (ρ:=ρ) g2)
 have U7:upd H1 p0 (.lst [.int 0]) p0=some (.lst [.int 0]):=ah
 generalize upd H1 p0 (.lst [.int 0])=H2 at *
 clear jb F1
 have AZ:=o6 st.own 0
 have fY:=oG.wf.j8
 refine ⟨_,Z,A.a,T.hold,A.dx,_,_,Z,oG.h.oa,X.cH,X.hpl,Z,A.pl,_,Z,oG.h.gQ,p0,_,_,Z,Z,U7,by omega,by rw [AZ];omega,by rw [AZ];show 1*_<=_;rw [tU,Nat.one_mul];exact small (by omega),fun p1 hp1=>?_⟩
 rw [AZ,tU,show (List.replicate st.own.length [V.int 0]).flatten=(List.replicate st.own.length (0:Int)).map V.int from by rw [List.map_replicate,List.flatten_replicate_singleton]]
 have g3:=aG hp1 (.lst ((List.replicate st.own.length (0:Int)).map V.int))
 have pM:=oG.mono g3
 have F3:=F2.trans (Fr.of_same (ρ:=ρ) g3)
 have n1:H p1=none:=(g1.trans g2).free hp1
 have c1:ρ p1=none:=oG.g.none hp1
 have z8:upd H2 p1 (.lst ((List.replicate st.own.length (0:Int)).map V.int)) p1=_:=ah
 generalize upd H2 p1 (.lst ((List.replicate st.own.length (0:Int)).map V.int))=H3 at *
 have hi:=List.idxOf_lt_length_iff.mpr ho
 refine ⟨_,Z,A.a,T.hold,A.dx,_,_,Z,pM.h.oa,X.cH,X.vc,Z,A.bt,T.bot,A.db,_,_,Z,pM.h.iQ,X.cB,X.FH,Z,_,Z,_,Z,p1,_,_,st.own.idxOf o,Z,Z,z8,by rw [aH,nI];exact wJ hi,?_⟩
 rw [show ((List.replicate st.own.length (0:Int)).map V.int).set (st.own.idxOf o) (V.int st.prod)=((List.replicate st.own.length (0:Int)).set (st.own.idxOf o) st.prod).map V.int from by rw [tD]]
 have rS:=pM.CL (o:= .lst (((List.replicate st.own.length (0:Int)).set (st.own.idxOf o) st.prod).map V.int)) c1 z8 rfl rfl
 have F4:=F3.new (o:= .lst (((List.replicate st.own.length (0:Int)).set (st.own.idxOf o) st.prod).map V.int)) n1
 have U8:upd H3 p1 (.lst (((List.replicate st.own.length (0:Int)).set (st.own.idxOf o) st.prod).map V.int)) p1=_:=ah
 have s4:aO H (upd H3 p1 (.lst (((List.replicate st.own.length (0:Int)).set (st.own.idxOf o) st.prod).map V.int))):=((g1.trans g2).trans g3).cX n1 _
 generalize upd H3 p1 (.lst (((List.replicate st.own.length (0:Int)).set (st.own.idxOf o) st.prod).map V.int))=H4 at *
 clear oG pM F2 F3
 refine ⟨_,Z,A.a,A.dx,_,Z,rS.h.oa,Z,_,Z,_,Z,_,Z,_,Z,_,Z,A.a,A.dx,_,Z,rS.h.oa,Z,_,Z,⟨⟨n,ρ,A,st,p1,_,Z,rS.h,aK.of U8,by rw [iL,nI,rS.wf.fV],by rw [iL,nI];omega,fun r H5 g5 hr5 U9=>?_⟩⟩⟩
 intro y dy hy hdy hyd
 have Ds:upd (upd H5 dy (.own y)) y (.ins T.part dy []) r=some (.lst ((lE st ((List.replicate st.own.length 0).set (st.own.idxOf o) st.prod)).map V.int)):=by rw [au (aF U9 hy),au (aF U9 hdy)];exact U9
 refine ⟨⟨y,dy,r,⟨x,o,wo,we,1,lE st ((List.replicate st.own.length 0).set (st.own.idxOf o) st.prod)⟩,Z,ah,aK.of Ds,fun rr H6 hrr k6 hy6 U_=>⟨Z,?_⟩⟩⟩
 have KD:H5 rr=none:=by
  have e1:rr≠y:=fun e=>by rw [e,ah] at hrr;cases hrr
  have e2:rr≠dy:=fun e=>by rw [e,au hyd,ah] at hrr;cases hrr
  rw [au e1,au e2] at hrr;exact hrr
 have g6:aO H5 H6:=fun b u e=>k6 b u (by rw [au (aF e hy),au (aF e hdy)];exact e) (aF e hy)
 have A0:=rS.mono g5
 have KG:=A0.mono g6
 have F6:=F4.trans (Fr.of_same (ρ:=ρ) (g5.trans g6))
 exact ⟨⟨n,ρ,A,st,(y,dy,rr),_,Z,KG,hy6,U_,A0.g.none hy,A0.g.none KD,hn,NX rS.wf hn h6 h7 ho h4 h5,fun ρ' A' H' a1 a2 a3=>q ρ' A' H' a1 a2 (a3.fr F6 ((s4.trans g5).free hy) ((s4.trans g5).free KD))⟩⟩
abbrev uB:Stmt:=inClass (top 21) 0
abbrev vU:List Str:=["self"]
abbrev Mp:List Str:=vU
theorem KH:aR Mp vU (aE uB):=dP
theorem KI {T:TC} (F:FF K mg "Hold" T.hold "Hold.__init__" uB f fd) (X:Txt K T) (qD:Cn P w K mg base 1 "Bottom" T.bot ["self"] (D8 T)):Cn P w K mg base 3 "Hold" T.hold vU (D9 T):=by
 refine F.oA KH fun cdv A outer s H vs Q E hr h=>?_
 obtain ⟨⟨p,dx,ρ,n,rfl,hp,g,hρ,q⟩⟩:=h
 refine ⟨_,(@c5.h _ _ _ (ai (cK K (qv 0) qy)
  (ai (cK K (qv 0) qy)
  (ai (cK K (qv 0) (iH aq))
  (ai (cK K (qv 0) qy)
  (ai (cK K (qv 0) (C0 qD hr))
  (ai (cK K (qv 0) (iH aq))
  (ay (cK K (qv 0) (iH aq)))))))))),?_⟩
 have M0:ju p H ρ H ρ [] :=⟨(fun _ m=>absurd m (by simp)),fun b o e _=>⟨e,Z⟩,g,_,hp⟩
 intro pl hpl
 have M1:=(M0.new (o:= .dK []) (c:=(n,1,⟨#[]⟩)) hpl rfl)
 refine ⟨_,Z,p,T.hold,dx,_,Z,by rw [au (aF hp hpl)];exact hp,X.cH,X.hpl,by show 0<1000;decide,?_⟩
 have M2:=M1.wr (u:= .ins T.hold dx (aW "places" (.ref pl) [])) rfl
 have hp2:upd (upd H pl (.dK [])) p (.ins T.hold dx (aW "places" (.ref pl) [])) p=_:=ah
 generalize upd (upd H pl (.dK [])) p (.ins T.hold dx (aW "places" (.ref pl) []))=H2 at *
 clear M0 M1
 intro ab hab
 have M3:=(M2.new (o:= .dK []) (c:=(n,2,⟨#[]⟩)) hab rfl)
 refine ⟨_,Z,p,T.hold,dx,_,Z,by rw [au (aF hp2 hab)];exact hp2,X.cH,X.hab,by show 1<1000;decide,?_⟩
 have M4:=M3.wr (u:= .ins T.hold dx (aW "aboard" (.ref ab) (aW "places" (.ref pl) []))) rfl
 have hp4:upd (upd H2 ab (.dK [])) p (.ins T.hold dx (aW "aboard" (.ref ab) (aW "places" (.ref pl) []))) p=_:=ah
 generalize upd (upd H2 ab (.dK [])) p (.ins T.hold dx (aW "aboard" (.ref ab) (aW "places" (.ref pl) [])))=H4 at *
 clear M2 M3
 refine ⟨(iy 0),fun as has=>?_⟩
 have M5:=(M4.new (o:= .lst []) (c:=(n,3,⟨#[]⟩)) has rfl)
 refine ⟨_,Z,p,T.hold,dx,_,Z,by rw [au (aF hp4 has)];exact hp4,X.cH,X.has,by show 2<1000;decide,?_⟩
 have M6:=M5.wr (u:= .ins T.hold dx (aW "ashore" (.ref as) (aW "aboard" (.ref ab) (aW "places" (.ref pl) [])))) rfl
 have Ou:upd (upd H4 as (.lst [])) p (.ins T.hold dx (aW "ashore" (.ref as) (aW "aboard" (.ref ab) (aW "places" (.ref pl) [])))) p=_:=ah
 generalize upd (upd H4 as (.lst [])) p (.ins T.hold dx (aW "ashore" (.ref as) (aW "aboard" (.ref ab) (aW "places" (.ref pl) []))))=H6 at *
 clear M4 M5
 intro nm hnm
 have M7:=(M6.new (o:= .dK []) (c:=(n,4,⟨#[]⟩)) hnm rfl)
 refine ⟨_,Z,p,T.hold,dx,_,Z,by rw [au (aF Ou hnm)];exact Ou,X.cH,X.hnm,by show 3<1000;decide,?_⟩
 have M8:=M7.wr (u:= .ins T.hold dx (aW "names" (.ref nm) (aW "ashore" (.ref as) (aW "aboard" (.ref ab) (aW "places" (.ref pl) []))))) rfl
 have hp8:upd (upd H6 nm (.dK [])) p (.ins T.hold dx (aW "names" (.ref nm) (aW "ashore" (.ref as) (aW "aboard" (.ref ab) (aW "places" (.ref pl) []))))) p=_:=ah
 generalize upd (upd H6 nm (.dK [])) p (.ins T.hold dx (aW "names" (.ref nm) (aW "ashore" (.ref as) (aW "aboard" (.ref ab) (aW "places" (.ref pl) [])))))=H8 at *
 clear M6 M7
 intro bt db vc hdb hne
 refine ⟨⟨bt,db,Z,ah,fun sp kn H9 oR hkn hsk k9 xj hs9 hk9=>⟨Z,?_⟩⟩⟩
 have s9:aO H8 H9:=fun b o e=>k9 b o (by rw [au (aF e vc),au (aF e hdb)];exact e) (aF e vc)
 have fr:∀{c:Addr},upd (upd H8 db (.own bt)) bt (.ins T.bot db []) c=none->H8 c=none:=fun {c} e=>by
  have e1:c≠bt:=fun z=>by rw [z,ah] at e;cases e
  have e2:c≠db:=fun z=>by rw [z,au hne,ah] at e;cases e
  rw [au e1,au e2] at e;exact e
 have aal:=fr oR
 have aam:=fr hkn
 have M9:=M8.same s9
 have M10:=M9.add (c:=(n,5,⟨#[]⟩)) xj rfl M8 vc (fun e he=>aF (M8.m e he).1 vc)
 have M11:=M10.add (c:=(n,8,⟨#[]⟩)) hs9 rfl M8 aal (fun e he=>by
  rcases dz.mp he with rfl|he
  . exact iM xj hs9 (by intro z;cases z)
  . exact aF (M8.m e he).1 aal)
 have M12:=M11.add (c:=(n,9,⟨#[]⟩)) hk9 rfl M8 aam (fun e he=>by
  rcases dz.mp he with rfl|he
  . exact iM hs9 hk9 (by intro z;cases z)
  rcases dz.mp he with rfl|he
  . exact iM xj hk9 (by intro z;cases z)
  . exact aF (M8.m e he).1 aam)
 have hp9:=s9 _ _ hp8
 refine ⟨_,Z,p,T.hold,dx,_,Z,hp9,X.cH,X.vc,by show 4<1000;decide,?_⟩
 have M13:=M12.wr (u:= .ins T.hold dx (aW "bottom" (.ref bt) (aW "names" (.ref nm) (aW "ashore" (.ref as) (aW "aboard" (.ref ab) (aW "places" (.ref pl) [])))))) rfl
 have z8:upd H9 p (.ins T.hold dx (aW "bottom" (.ref bt) (aW "names" (.ref nm) (aW "ashore" (.ref as) (aW "aboard" (.ref ab) (aW "places" (.ref pl) [])))))) p=_:=ah
 generalize upd H9 p (.ins T.hold dx (aW "bottom" (.ref bt) (aW "names" (.ref nm) (aW "ashore" (.ref as) (aW "aboard" (.ref ab) (aW "places" (.ref pl) []))))))=Du at *
 clear M8 M9 M10 M11 M12
 refine ⟨(iy 0),fun cm wM=>?_⟩
 have M14:=(M13.new (o:= .lst []) (c:=(n,6,⟨#[]⟩)) wM rfl)
 refine ⟨_,Z,p,T.hold,dx,_,Z,by rw [au (aF z8 wM)];exact z8,X.cH,X.wM,by show 5<1000;decide,?_⟩
 have M15:=M14.wr (u:= .ins T.hold dx (aW "common" (.ref cm) (aW "bottom" (.ref bt) (aW "names" (.ref nm) (aW "ashore" (.ref as) (aW "aboard" (.ref ab) (aW "places" (.ref pl) []))))))) rfl
 have aan:upd (upd Du cm (.lst [])) p (.ins T.hold dx (aW "common" (.ref cm) (aW "bottom" (.ref bt) (aW "names" (.ref nm) (aW "ashore" (.ref as) (aW "aboard" (.ref ab) (aW "places" (.ref pl) []))))))) p=_:=ah
 generalize upd (upd Du cm (.lst [])) p (.ins T.hold dx (aW "common" (.ref cm) (aW "bottom" (.ref bt) (aW "names" (.ref nm) (aW "ashore" (.ref as) (aW "aboard" (.ref ab) (aW "places" (.ref pl) [])))))))=H15 at *
 clear M13 M14
 refine ⟨(iy 0),fun pu zf=>?_⟩
 have M16:=(M15.new (o:= .lst []) (c:=(n,7,⟨#[]⟩)) zf rfl)
 refine ⟨_,Z,p,T.hold,dx,_,Z,by rw [au (aF aan zf)];exact aan,X.cH,X.zf,by show 6<1000;decide,?_⟩
 have M17:=M16.wr (u:= .ins T.hold dx (aW "purses" (.ref pu) (aW "common" (.ref cm) (aW "bottom" (.ref bt) (aW "names" (.ref nm) (aW "ashore" (.ref as) (aW "aboard" (.ref ab) (aW "places" (.ref pl) [])))))))) rfl
 have aaq:upd (upd H15 pu (.lst [])) p (.ins T.hold dx (aW "purses" (.ref pu) (aW "common" (.ref cm) (aW "bottom" (.ref bt) (aW "names" (.ref nm) (aW "ashore" (.ref as) (aW "aboard" (.ref ab) (aW "places" (.ref pl) [])))))))) p=_:=ah
 generalize upd (upd H15 pu (.lst [])) p (.ins T.hold dx (aW "purses" (.ref pu) (aW "common" (.ref cm) (aW "bottom" (.ref bt) (aW "names" (.ref nm) (aW "ashore" (.ref as) (aW "aboard" (.ref ab) (aW "places" (.ref pl) []))))))))=KJ at *
 clear M15 M16
 have m:=M17.m
 have z6:∀{a:Addr} {o:HO} {c:p8} {ρ2:cR},(KJ a=some o/\ρ2 a=some c/\a≠p)->KJ a=some o/\cO ρ2 p (n,0,⟨#[]⟩) a=some c:=fun h=>⟨h.1,by rw [bu h.2.2];exact h.2.1⟩
 have a1:=z6 (m _ (.head _))
 have a2:=z6 (m _ (.tail _ (.head _)))
 have a3:=z6 (m _ (.tail _ (.tail _ (.head _))))
 have a4:=z6 (m _ (.tail _ (.tail _ (.tail _ (.head _)))))
 have a5:=z6 (m _ (.tail _ (.tail _ (.tail _ (.tail _ (.head _))))))
 have a6:=z6 (m _ (.tail _ (.tail _ (.tail _ (.tail _ (.tail _ (.head _)))))))
 have a7:=z6 (m _ (.tail _ (.tail _ (.tail _ (.tail _ (.tail _ (.tail _ (.head _))))))))
 have a8:=z6 (m _ (.tail _ (.tail _ (.tail _ (.tail _ (.tail _ (.tail _ (.tail _ (.head _)))))))))
 have a9:=z6 (m _ (.tail _ (.tail _ (.tail _ (.tail _ (.tail _ (.tail _ (.tail _ (.tail _ (.head _))))))))))
 refine q (cO _ p (n,0,⟨#[]⟩)) ⟨p,dx,pl,ab,as,nm,bt,db,cm,pu,sp,kn,[]⟩ KJ rfl ⟨M17.g.color aaq rfl,⟨aaq,bY,a9.1,a9.2,a8.1,a8.2,⟨[],a7.1, .nil⟩,a7.2,a6.1,a6.2,a5.1,a5.2,a2.1,a2.2,a1.1,a1.2,a4.1,a4.2,⟨[],a3.1,(fun x hx=>absurd hx (by simp)),aN _,s_⟩,a3.2,Z,fun i x y ex=>by simp [hs0] at ex⟩,wf0⟩ (fun b o e hb=>?_)
 obtain ⟨x,y⟩:=M17.k b o e hb
 exact ⟨x,by rw [bu hb];exact y⟩
abbrev nZ:Stmt:=inClass (top 21) 27
abbrev kX:List Str:=["self","amounts"]
abbrev Dv:List Str:=kX.append ["lost","sums","name","amount","part","many"]
theorem ff:aR Dv kX (aE nZ):=dP
theorem BH {T:TC} (F:gI K T.hold "given_up" "Hold.given_up" nZ f fd) (X:Txt K T) (gP:mg "sum"=none) (iP:mg "zip"=none):Mn P w K mg base 1 T.hold "given_up" kX (N1 T):=by
 refine F.oA ff fun cdv A outer s H vs Q E hr h=>?_
 obtain ⟨⟨n,ρ,A,st,d,rs,rfl,h,wf,hd,cd,hle,vV,q⟩⟩:=h
 refine ⟨_,(@c5.h _ _ _ (ai (aT (i:=2) ff.nd (bJ (FE rfl) (by rfl) gP yL (af (Ei (qv 1)) aq)))
  (ai (tP (i:=3) ["common","lost"] [none,some 2] ff.nd rfl rfl rfl (eT K (aJ K (qv 0))) (fun _ _ _ _=>(aY (i:=0) (show List.Nodup (["common","lost"] :List Str) from by decide +kernel))) (fun _ _ _ _=>(aM jh (qv 1) (qv 0))) rfl (by rfl) (by rfl))
  (ai (wW (fK gc rfl (ya (qv 1)) (iu K (n:=2) rfl (cC (aY (i:=4) ff.nd) (cC (aY (i:=5) ff.nd) ir))) (ai (aT (i:=6) ff.nd (dN (dB hr) (aJ K (qv 0)) (qv 4)))
  (ai (aT (i:=7) ff.nd (aM jh (qv 5) (aJ K (qv 6))))
  (ay (tP (i:=3) ["old","own","many"] [none,none,some 7] ff.nd rfl rfl rfl (qx K (by rfl) iP (af (qv 3) (af (aJ K (qv 6)) aq))) (fun _ _ _ _=>(iu K (n:=2) rfl (cC (aY (i:=0) (show List.Nodup (["old","own","many"] :List Str) from by decide +kernel)) (cC (aY (i:=1) (show List.Nodup (["old","own","many"] :List Str) from by decide +kernel)) ir)))) (fun _ _ _ _=>(aM cT (qv 0) (aM jh (qv 2) (qv 1)))) rfl (by rfl) (by rfl)))))))
  (ay (bB (qv 3))))))),?_⟩
 have hcl:st.bz.length<=100:=by rw [wf.fV];exact wf.j8
 have zl:Jm.Sz 1100 (aI rs):=by
  have:=Jm.Rk (n:=60) (ws:=rs.map (·.2)) (fun m hm=>by obtain ⟨r,hr,rfl⟩:=bH.mp hm;exact (vV r hr).1)
  exact this.mono (by rw [aH];omega)
 have zc:∀c∈st.bz,Jm.Sz 8000 c:=fun c hc=>Jm.Sz.lz (by have:=wf.nP c hc;have:=wf.d9;omega) (wf.nP c hc).2 wf.big
 refine ⟨_,Z,d,_,Z, .inl hd,fun v hv=>⟨v,d,_,rs.map (·.2),Z,ah, .inl (by rw [au (aF hd hv)];exact hd),by unfold h_;rw [fR,fR];rfl,?_⟩⟩
 have g1:=aG hv (kR v d)
 have hd1:=g1 _ _ hd
 have h1:=h.mono g1
 generalize upd H v (kR v d)=H1 at *
 refine ⟨_,Z,A.a,T.hold,A.dx,_,_,Z,h1.oa,X.cH,X.wM,Z,A.cm,Z,⟨_,aK.of h1.gU⟩,fun l0 rT=>?_⟩
 refine kq (J:=yt K A.cm) (n:=(st.bz.map V.int).length) 0 (fun i o H'=>aO H1 H'/\o=((st.bz.take i).map fun c=>aI rs*c).map V.int) (by rw [aH];omega) ⟨aG rT _,Z⟩ (fun i o H' hi _ hp=>⟨_,_,aK.of (hp.1 _ _ h1.gU),bD hi⟩) (fun o H' _ hp=>⟨_,aK.of (hp.1 _ _ h1.gU),aN _⟩) ?_ ?_
 . rintro i y o H2 H3 hi fY ha ⟨g,e⟩ ⟨rfl,hy⟩
   obtain ⟨c,rfl,ec⟩:=fW (hy _ (aK.of (g _ _ h1.gU)))
   refine ⟨_,Z,_,Z,_,_,Z,Z,iS zl (zc c (cg ec)),ha,g.cX rT _,?_⟩
   subst e
   rw [take_snoc ec,bR,bR]
   rfl
 rintro o H2 fY ha ⟨g2,e⟩
 rw [aH,cW] at e
 subst e
 have Dw:=g1.trans g2
 have hd2:=g2 _ _ hd1
 have h2:=h1.mono g2
 have hn0:H l0=none:=g1.free rT
 refine ⟨d,_,hd2,fun ob=>⟨_,Z,d,ob,_,Z,ah,?_⟩⟩
 have al:=xW rs
 refine ua (n:=(h_ rs).length) (fun i σ H'=>aO (upd H2 d (.eF ob (.dK (h_ rs)))) H'/\∃l s4 s5 s6 s7,σ=[some (.ref A.a),some (.ref d),some (.int (aI rs)),some (.ref l),s4,s5,s6,s7]/\H l=none/\H' l=some (.lst (((rs.take i).foldl (jF st) (st.bz.map fun c=>aI rs*c)).map V.int))/\((rs.take i).foldl (jF st) (st.bz.map fun c=>aI rs*c)).length=st.bz.length)
  ⟨aO.refl _,l0,_,_,_,_,Z,hn0,dY hd2 ha (fun k z=>by cases z),by rw [List.take_zero,List.foldl_nil,aH]⟩ (fun i σ H' hi hp=>⟨hp.1 _ _ ah,hi⟩) (fun σ H' hp=>⟨hp.1 _ _ ah,aN _⟩) ?_ ?_
 . rintro i x σ H3 H4 hi ⟨g,l,s4,s5,s6,s7,rfl,Cu,hl,hsl⟩ ⟨pp,kv,hpp,hkv,rfl,rfl⟩
   unfold h_ at hkv
   rw [cA] at hkv
   obtain ⟨r,er,rfl⟩:=nH.mp hkv
   have hrm:=cg er
   obtain ⟨zr,p,eV,Dy⟩:=vV r hrm
   obtain ⟨ip,Gv,Sx⟩:=yN eV
   have ep:st.aj[ip]?=some p:=by rw [bD Gv,Sx]
   have epg:bO st r.1=p:=by rw [<-Dy];exact NZ wf.dh ep
   have g4:=aG hpp (.tup [.str r.1, .int r.2])
   have gg:=g.trans g4
   have h2z:∀{b:Addr} {u:HO},H2 b=some u->(∀k,u ≠ .dK k)->upd H3 pp (.tup [.str r.1, .int r.2]) b=some u:=fun e k=>gg _ _ (dY hd2 e k)
   have nab:A.ab≠d:=(AU cd h.eX).symm
   obtain ⟨qq,eq,k1,k2,_,_⟩:=h2.find ep
   have hab:upd H3 pp (.tup [.str r.1, .int r.2]) A.ab=some (.dK (bN st.aj A.qs)):=gg _ _ (by rw [au nab];exact h2.c_)
   have hv:=tM wf.dh ep eq
   have hq1:=h2z k1 (fun k z=>by cases z)
   have hq2:=h2z k2 (fun k z=>by cases z)
   have KL:upd H3 pp (.tup [.str r.1, .int r.2]) pp=some (.tup [.str r.1, .int r.2]):=ah
   have Gw:=g4 _ _ hl
   have hno:∀{b:Addr},upd H3 pp (.tup [.str r.1, .int r.2]) b=none->H b=none:=fun {b} e=>by
    have e1:=jE hd2 (gg.free e)
    exact Dw.free e1
   have ha4:upd H3 pp (.tup [.str r.1, .int r.2]) A.a=some (.ins T.hold A.dx (dI A)):=h2z h2.oa (fun k z=>by cases z)
   show yP K 2 _ _ _ (upd H3 pp (.tup [.str r.1, .int r.2])) _
   generalize upd H3 pp (.tup [.str r.1, .int r.2])=H4 at *
   refine ⟨pp,_,Z,dm.of KL,Z,_,_,Z,_,_,Z,Z,?_⟩
   refine ⟨_,Z,A.a,T.hold,A.dx,_,_,Z,ha4,X.cH,X.hab,Z,_,Z,A.ab,_,Z,by rw [<-Dy];exact hv▸dW.k (k:=Sum.inr p.nm) hab,?_⟩
   have zs:Jm.Sz 8000 p.sc:=Jm.Sz.lz (by have:=wf.oY p eV;have:=wf.d9;omega) (wf.oY p eV).2 wf.big
   refine ⟨_,Z,_,Z,qq.1,T.part,qq.2.1,_,_,Z,hq1,X.cP,X.CH,Z,_,_,Z,Z,iS zr zs,?_⟩
   have erl:p.row.length=st.bz.length:=by rw [wf.rows p eV,wf.fV]
   generalize eS:(rs.take i).foldl (jF st) (st.bz.map fun c=>aI rs*c)=S at *
   refine ⟨_,Z,_,Z,qq.1,T.part,qq.2.1,_,_,Z,hq1,X.cP,X.FG,Z,_,_,_,_,_,_,Z, .lst (aK.of Gw), .lst (aK.of hq2),fun acc hacc=>?_⟩
   refine wK (K:=K) (n:=S.length) [0,1] (fun j out H5=>aO H4 H5/\out=(List.zipWith (fun old own=>old+(r.2*p.sc)*own) (S.take j) (p.row.take j)).map V.int) (by decide) (by omega) ⟨aG hacc _,Z⟩ (fun j out H5 hj _ hp=>⟨aK.of (hp.1 _ _ Gw),aK.of (hp.1 _ _ hq2),by rw [aH];exact hj,by rw [aH];omega⟩)
    (fun out H5 _ hp=>⟨aK.of (hp.1 _ _ Gw),aK.of (hp.1 _ _ hq2), .inl (by rw [aH];exact aN _)⟩) ?_ ?_
   . rintro j x out H5 H6 hj BI ha2 ⟨g5,e5⟩ ⟨p2,x1,y1,hp2,rfl,rfl,e1,e2⟩
     obtain ⟨t,rfl,et⟩:=fW e1
     obtain ⟨c,rfl,ec⟩:=fW e2
     have g6:=aG hp2 (.tup [.int t, .int c])
     have zw:Jm.Sz 8000 c:=Jm.Sz.lz (wf.mG p eV c (cg ec)).1 (wf.mG p eV c (cg ec)).2 wf.big
     refine ⟨p2,_,Z,dm.of ah,Z,_,Z,_,Z,_,Z,_,_,Z,Z,iS (zr.mul zs) zw,_,_,Z,Z,g6 _ _ ha2,(g5.trans g6).cX hacc _,?_⟩
     rw [rN _ et ec,e5,bR]
     rfl
   rintro out H5 BI ha2 ⟨g5,e5⟩
   rw [cW,hsl,<-erl,cW] at e5
   have eN:(rs.take (i+1)).foldl (jF st) (st.bz.map fun c=>aI rs*c)=List.zipWith (fun old own=>old+(r.2*p.sc)*own) S p.row:=by
    rw [take_snoc er,Ba,eS]
    show jF st S r=_
    unfold jF
    rw [epg]
   refine ⟨gg.trans g5,acc,_,_,_,_,Z,hno hacc,?_,?_⟩
   . rw [eN,ha2,e5]
   . rw [eN,kL];omega
 rintro σ H3 ⟨g,l,s4,s5,s6,s7,rfl,Cu,hl,hsl⟩
 rw [al,cW] at hl
 refine ⟨g _ _ ah,_,Z,?_⟩
 have nl:l≠d:=fun e=>by rw [e,hd] at Cu;cases Cu
 exact q l _ (Dw.trans (qg hd2 g)) Cu (by rw [au nl];exact hl)
abbrev qE:Stmt:=inClass (top 21) 23
abbrev kr:List Str:=["self","name","amount"]
abbrev GS:List Str:=kr.append ["part"]
theorem xm:aR GS kr (aE qE):=dP
theorem EA {T:TC} (F:gI K T.hold "lessen" "Hold.lessen" qE f fd) (X:Txt K T):Mn P w K mg base 1 T.hold "lessen" kr (JK T):=by
 refine F.oA xm fun cdv A outer s H vs Q E hr h=>?_
 obtain ⟨⟨n,ρ,A,st,r,rfl,hh,⟨p,eV,Dy,hle⟩,wf',q⟩⟩:=h
 have h:=hh.h
 have nd:=hh.wf.dh
 refine ⟨_,(@c5.h _ _ _ (ai (aT (i:=3) xm.nd (dN (dB hr) (aJ K (qv 0)) (qv 1)))
  (ai (pF K (qv 3) (qv 2) I0)
  (ay (i9 (aU dS (aJ K (qv 3)) ak (bf _)) (ay (N8 (aJ K (qv 0)) (qv 1))) bF))))),?_⟩
 obtain ⟨ip,Gv,Sx⟩:=yN eV
 have ep:st.aj[ip]?=some p:=by rw [bD Gv,Sx]
 obtain ⟨qq,eq,k1,k2,k3,k4⟩:=h.find ep
 have hv:=tM nd ep eq
 refine ⟨_,Z,A.a,T.hold,A.dx,_,_,Z,h.oa,X.cH,X.hab,Z,_,Z,A.ab,_,Z,by rw [<-Dy];exact hv▸dW.k (k:=Sum.inr p.nm) h.c_,?_⟩
 refine ⟨_,Z,qq.1,T.part,qq.2.1,_,_,Z,k1,X.cP,X.uc,Z,_,Z,_,_,Z,Z,qq.2.1,_,k1,by show 6<1000;decide,?_⟩
 have h1:=h.i8 (p1:={ p with wo:=p.wo-r.2 }) hh.g ep eq rfl rfl nd
 have g1:=hh.g.wr (a:=qq.1) (o:= .ins T.part qq.2.1 (cQ { p with wo:=p.wo-r.2 } qq.2.2)) rfl
 have F1:Fr n ρ H ρ (upd H qq.1 (.ins T.part qq.2.1 (cQ { p with wo:=p.wo-r.2 } qq.2.2))):=Fr.write k3
 show Y0 _ _ _ _ _ (upd H qq.1 (.ins T.part qq.2.1 (cQ { p with wo:=p.wo-r.2 } qq.2.2)))
 have Ov:upd H qq.1 (.ins T.part qq.2.1 (cQ { p with wo:=p.wo-r.2 } qq.2.2)) qq.1=some (.ins T.part qq.2.1 (cQ { p with wo:=p.wo-r.2 } qq.2.2)):=ah
 generalize upd H qq.1 (.ins T.part qq.2.1 (cQ { p with wo:=p.wo-r.2 } qq.2.2))=H1 at *
 have el:c7 st r={ st with aj:=if p.wo-r.2=0 then st.aj.eraseIdx ip else st.aj.set ip { p with wo:=p.wo-r.2 } }:=by
  unfold c7
  rw [<-Dy,Bo nd (fun x hx=>by have:=hh.wf.jr x hx;omega) ep]
 rw [el] at wf' q
 refine ⟨fun σ' H'=>Q .b9 H',?_,fun _ _ z=>z⟩
 refine ⟨_,Z,qq.1,T.part,qq.2.1,_,_,Z,Ov,X.cP,X.uc,Z,Z,_,Z,aQ (fun c=>?_) (fun c=>?_)⟩
 . have c':p.wo-r.2=0:=V.int.inj (bg c)
   rw [aD c'] at wf' q
   have nd1:((st.aj.set ip { p with wo:=p.wo-r.2 }).map (fun x:Pt=>x.nm)).Nodup:=by
    rw [tD,show ({ p with wo:=p.wo-r.2 }:Pt).nm=p.nm from rfl,rO (by rw [cA,ep];rfl)]
    exact nd
   have ep1:(st.aj.set ip { p with wo:=p.wo-r.2 })[ip]?=some { p with wo:=p.wo-r.2 }:=p_ Gv
   have dk:=Bm nd1 h1.ql ep1
   rw [List.eraseIdx_set_eq] at dk
   have hv1:=tM nd1 ep1 eq
   refine ⟨_,Z,A.a,T.hold,A.dx,_,_,Z,h1.oa,X.cH,X.hab,Z,_,Z,A.ab,_,Sum.inr r.1,Z,h1.c_,Z,?_,?_⟩
   . rw [<-Dy]
     show (dM (bN (st.aj.set ip { p with wo:=p.wo-r.2 }) A.qs) (Sum.inr p.nm)).isSome=true
     rw [show dM (bN (st.aj.set ip { p with wo:=p.wo-r.2 }) A.qs) (Sum.inr p.nm)=_ from hv1]
     rfl
   . show Q .b9 (upd H1 A.ab (.dK (lS (bN (st.aj.set ip { p with wo:=p.wo-r.2 }) A.qs) (Sum.inr r.1))))
     rw [<-Dy,show lS (bN (st.aj.set ip { p with wo:=p.wo-r.2 }) A.qs) (Sum.inr p.nm)=_ from dk]
     have hi2:ip<A.qs.length:=by rw [h.ql];exact Gv
     have h2:=h1.Ju g1 (st.aj.eraseIdx ip) (A.qs.eraseIdx ip) (by rw [OL Gv,OL hi2,h.ql]) (fun j x y ex ey=>by
      rw [<-List.eraseIdx_set_eq (l:=st.aj) (i:=ip) (a:={ p with wo:=p.wo-r.2 })] at ex
      obtain ⟨k,a1,a2⟩:=zm ex ey
      exact h1.opt k x y a1 a2)
     exact q ρ _ _ ⟨g1.wr rfl,h2,wf'⟩ rfl (F1.trans (Fr.write h1.eX))
 . have c':¬ p.wo-r.2=0:=fun e=>c (bq (by rw [e]))
   rw [aB c'] at wf' q
   exact q ρ A H1 ⟨g1,h1,wf'⟩ rfl F1
abbrev su:Stmt:=inClass (top 21) 28
abbrev lM:List Str:=["self","kept","whole","added"]
abbrev KN:List Str:=lM.append ["scales","common","shared","part","scale"]
theorem ji:aR KN lM (aE su):=dP
theorem GU {T:TC} (F:gI K T.hold "blend" "Hold.blend" su f fd) (X:Txt K T) (pN:Dn P w K mg base 2 "factor_of_all" kW (RX K)) (sy:Mn P w K mg base 1 T.bot "grow" ng (RY T)) (iP:mg "zip"=none):Mn P w K mg base 3 T.hold "blend" lM (Ef T K):=by
 refine F.oA ji fun cdv A outer s H vs Q E hr h=>?_
 obtain ⟨⟨n,ρ,A,st,kept,whole,la,added,rfl,hh,hla,hal,k0,w0,kz,wz,haz,KO,hsl,wf',q⟩⟩:=h
 refine ⟨_,(@c5.h _ _ _ (ai (wW (tP (i:=4) ["part","kept"] [none,some 1] ji.nd rfl rfl rfl (Aw (aJ K (qv 0))) (fun _ _ _ _=>(aY (i:=0) (show List.Nodup (["part","kept"] :List Str) from by decide +kernel))) (fun _ _ _ _=>(aM jh (aJ K (qv 0)) (qv 1))) rfl (by rfl) (by rfl)))
  (ai (tP (i:=5) ["top","more","kept"] [none,none,some 1] ji.nd rfl rfl rfl (qx K (by rfl) iP (af (aJ K (qv 0)) (af (qv 3) aq))) (fun _ _ _ _=>(iu K (n:=2) rfl (cC (aY (i:=0) (show List.Nodup (["top","more","kept"] :List Str) from by decide +kernel)) (cC (aY (i:=1) (show List.Nodup (["top","more","kept"] :List Str) from by decide +kernel)) ir)))) (fun _ _ _ _=>(aM cT (aM jh (qv 0) (qv 2)) (qv 1))) rfl (by rfl) (by rfl))
  (ai (aT (i:=6) ji.nd (bX pN hr (af (qv 2) (af (aM YR (qv 4) (qv 5)) aq))))
  (ai (wW (fK gc rfl (qx K (by rfl) iP (af (Ei (aJ K (qv 0))) (af (qv 4) aq))) (iu K (n:=2) rfl (cC (aY (i:=7) ji.nd) (cC (aY (i:=8) ji.nd) ir))) (ay (cK K (qv 7) (aM i7 (qv 8) (qv 6))))))
  (ai (cK K (qv 0) (iU ["top","shared"] [none,some 6] rfl (eT K (qv 5)) (fun _ _ _ _=>(aY (i:=0) (show List.Nodup (["top","shared"] :List Str) from by decide +kernel))) (fun _ _ _ _=>(aM i7 (qv 0) (qv 1))) rfl (by rfl)))
  (ai (cK K (qv 0) (iU ["purse","whole","shared"] [none,some 2,some 6] rfl (eT K (aJ K (qv 0))) (fun _ _ _ _=>(aY (i:=0) (show List.Nodup (["purse","whole","shared"] :List Str) from by decide +kernel))) (fun _ _ _ _=>(aM jh (qv 0) (aM i7 (qv 1) (qv 2)))) rfl (by rfl)))
  (ay (cu (cI sy hr (aJ K (qv 0)) (af (aM i7 (qv 2) (qv 6)) aq))))))))))),?_⟩
 have hpl:=hh.wf.lD
 have nd:=hh.wf.dh
 have hcl:st.bz.length<=100:=by rw [hh.wf.fV];exact hh.wf.j8
 have zsc:∀p∈st.aj,Jm.Sz 8000 p.sc:=fun p hp=>Jm.Sz.lz (by have:=hh.wf.oY p hp;have:=hh.wf.d9;omega) (hh.wf.oY p hp).2 hh.wf.big
 have zcm:∀c∈st.bz,Jm.Sz 8000 c:=fun c hc=>Jm.Sz.lz (by have:=hh.wf.nP c hc;have:=hh.wf.d9;omega) (hh.wf.nP c hc).2 hh.wf.big
 have h:=hh.h
 refine ⟨A.ab,_,h.c_,fun ob=>?_⟩
 refine ⟨_,Z,A.a,T.hold,A.dx,_,_,Z,dY h.c_ h.oa (fun k z=>by cases z),X.cH,X.hab,Z,A.ab,ob,_,Z,ah,fun l1 hl1=>?_⟩
 have el:=tL h.ql
 refine kq (n:=st.aj.length) 0 (fun i out H1=>aO (upd H A.ab (.eF ob (.dK (bN st.aj A.qs)))) H1/\out=((st.aj.take i).map fun p:Pt=>p.sc*kept).map V.int) (by omega) ⟨aG hl1 _,Z⟩ (fun i out H1 hi _ hp=>⟨hp.1 _ _ ah,by rw [el];exact hi⟩) (fun out H1 _ hp=>⟨hp.1 _ _ ah,by rw [el];exact aN _⟩) ?_ ?_
 . rintro i x out H1 H2 hi fY ha ⟨g,e⟩ ⟨rfl,kv,hkv,rfl⟩
   have ep:=bD hi
   obtain ⟨qq,eq,k1,k2,_⟩:=h.find ep
   rw [tK ep eq] at hkv
   cases hkv
   have hq:=g _ _ (dY h.c_ k1 (fun k z=>by cases z))
   refine ⟨_,Z,qq.1,T.part,qq.2.1,_,_,Z,hq,X.cP,X.CH,Z,_,Z,_,_,Z,Z,iS (zsc _ (Ad hi)) kz,ha,g.cX hl1 _,?_⟩
   subst e
   rw [take_snoc ep,bR,bR]
   rfl
 rintro o1 H1 aim ha1 ⟨g1,e1⟩
 rw [cW] at e1
 have hz1:=g1 _ _ (ah (H:=H) (a:=A.ab) (o:= .eF ob (.dK (bN st.aj A.qs))))
 have na1:l1≠A.ab:=fun e=>by rw [e,hz1] at ha1;cases ha1
 refine ⟨hz1,?_⟩
 have s2:aO H (upd H1 A.ab (.dK (bN st.aj A.qs))):=qg h.c_ g1
 have ain:H l1=none:=jE h.c_ hl1
 have ha2:upd H1 A.ab (.dK (bN st.aj A.qs)) l1=some (.lst ((iT st kept).map V.int)):=by rw [au na1,ha1,e1];rfl
 generalize upd H1 A.ab (.dK (bN st.aj A.qs))=H2 at *
 clear g1 hz1 ha1 e1
 have h2:=h.mono s2
 have Qn:=s2.seq hla
 refine ⟨_,Z,A.a,T.hold,A.dx,_,_,Z,h2.oa,X.cH,X.wM,Z,_,Z,_,_,_,_,_,_,Z, .lst (aK.of h2.gU), .lst Qn,fun l2 hl2=>?_⟩
 refine wK (K:=K) (n:=st.bz.length) [0,1] (fun i out H3=>aO H2 H3/\out=(List.zipWith (fun t m=>t*kept+m) (st.bz.take i) (added.take i)).map V.int) (by decide) (by omega) ⟨aG hl2 _,Z⟩ (fun i out H3 hi _ hp=>⟨aK.of (hp.1 _ _ h2.gU),hp.1.seq Qn,by rw [aH];exact hi,by rw [aH];omega⟩)
  (fun out H3 _ hp=>⟨aK.of (hp.1 _ _ h2.gU),hp.1.seq Qn, .inl (by rw [aH];exact aN _)⟩) ?_ ?_
 . rintro i x out H3 H4 hi fY ha ⟨g,e⟩ ⟨p,x1,y1,hp,rfl,rfl,e1,e2⟩
   obtain ⟨t,rfl,et⟩:=fW e1
   obtain ⟨c,rfl,ec⟩:=fW e2
   have g1:=aG hp (.tup [.int t, .int c])
   refine ⟨p,_,Z,dm.of ah,Z,_,Z,_,Z,_,_,Z,Z,iS (zcm t (cg et)) kz,_,Z,_,_,Z,Z,g1 _ _ ha,(g.trans g1).cX hl2 _,?_⟩
   rw [rN _ et ec,e,bR]
   rfl
 rintro o2 H3 BI ha3 ⟨g3,e3⟩
 rw [cW,<-hal,cW] at e3
 have ec3:o2=(fJ st kept added).map V.int:=e3
 subst ec3
 have s3:=s2.trans g3
 have h3:=h.mono s3
 have Va:=g3 _ _ ha2
 have aio:H l2=none:=s2.free hl2
 have n12:l1≠l2:=fun e=>by rw [e,hl2] at ha2;cases ha2
 clear e3 h2 Qn g3 ha2 s2
 have lsc:(iT st kept).length=st.aj.length:=by unfold iT;rw [aH]
 have lcm:(fJ st kept added).length=st.bz.length:=by unfold fJ;rw [kL,hal,xG]
 refine ⟨_,Z,_,Z,_,Z,l1,l2,_,_,Z,Z,Va,ha3,by rw [aH,aH,lsc,lcm];exact gf (Nat.add_le_add hpl hcl) (by rw [jI];decide),fun p3 hp3=>?_⟩
 rw [<-bR]
 have g4:=aG hp3 (.lst ((iT st kept++fJ st kept added).map V.int))
 refine ⟨⟨whole,p3,_,Z,aK.of ah,by omega,?_,?_⟩⟩
 . intro t ht
   rcases gb.mp ht with z|z
   . unfold iT at z
     obtain ⟨p,hp,rfl⟩:=bH.mp z
     exact oM (by have:=hh.wf.oY p hp;omega) (by omega)
   . obtain ⟨c,hc,m,hm,rfl⟩:=uf (show t∈List.zipWith _ st.bz added from z)
     have a1:=oM (hh.wf.nP c hc).1 (by omega:0<=kept)
     have a2:=(haz m hm).1
     omega
 have s4:=s3.trans g4
 have h4:=h.mono s4
 have G4:=hh.g.same s4
 have F4:Fr n ρ H ρ (upd H3 p3 (.lst ((iT st kept++fJ st kept added).map V.int))):=Fr.of_same s4
 have b1:=g4 _ _ Va
 have b2:=g4 _ _ ha3
 generalize upd H3 p3 (.lst ((iT st kept++fJ st kept added).map V.int))=H4 at *
 clear Va ha3 s3 h3 g4
 obtain ⟨sd,V8⟩:∃sd,sd=bQ st kept whole added:=⟨_,rfl⟩
 rw [show o_ whole (iT st kept++fJ st kept added)=sd from V8.symm]
 have sp:0<sd:=by rw [V8];exact zu _ _ w0
 have R4:sd∣whole:=by rw [V8];exact (zq _ _).1
 have sz:Jm.Sz 60 sd:=wz.dvd w0 (by omega) R4
 have wq:0<whole / sd:=Int.ediv_pos_of_pos_of_dvd w0 (by omega) R4
 have wqz:Jm.Sz 60 (whole / sd):=wz.ediv sp
 have V9:∀{i:Int},Cp i sd:=fun {i}=>xO sp (sz.mono (by decide))
 refine ⟨A.ab,_,h4.c_,fun Sy=>?_⟩
 refine ⟨_,Z,A.a,T.hold,A.dx,_,_,Z,dY h4.c_ h4.oa (fun k z=>by cases z),X.cH,X.hab,Z,A.ab,_,Z, .inr ⟨Sy,ah⟩,fun v hv=>?_⟩
 have nva:v≠A.ab:=fun e=>by rw [e,ah] at hv;cases hv
 have hv4:H4 v=none:=jE h4.c_ hv
 have g5:=aG hv4 (kR v A.ab)
 have hv5:upd H4 v (kR v A.ab) v=some (kR v A.ab):=ah
 rw [iE (bU nva)]
 have h5:=h4.mono g5
 have G5:=G4.same g5
 have F5:=F4.trans (Fr.of_same (ρ:=ρ) g5)
 have s5:=s4.trans g5
 have c1:=g5 _ _ b1
 have c2:=g5 _ _ b2
 generalize upd H4 v (kR v A.ab)=H5 at *
 clear h4 G4 F4 s4 b1 b2 g5
 refine ⟨_,Z,_,_,_,_,_,_,Z, .vals (dY h5.c_ hv5 (fun k z=>by cases z)) ah, .lst (aK.of (dY h5.c_ c1 (fun k z=>by cases z))),?_⟩
 have exl:((bN st.aj A.qs).map fun p=>p.2).length=st.aj.length:=by rw [aH];exact el
 have eyl:((iT st kept).map V.int).length=st.aj.length:=by rw [aH];exact lsc
 refine ua (n:=st.aj.length) (fun i σ H'=>(∃s7 s8,σ=[some (.ref A.a),some (.int kept),some (.int whole),some (.ref la),some (.ref l1),some (.ref l2),some (.int sd),s7,s8])/\∃H6,H'=upd H6 A.ab (.eF Sy (.dK (bN st.aj A.qs)))/\Gh ρ H6/\Fr n ρ H ρ H6/\aL T n ρ A H6 { st with aj:=(st.aj.take i).map (fun p=>{ p with sc:=p.sc*kept / sd })++st.aj.drop i }/\H6 l1=some (.lst ((iT st kept).map V.int))/\H6 l2=some (.lst ((fJ st kept added).map V.int))/\(∀b,H6 b=none->H b=none))
  ⟨⟨_,_,Z⟩,H5,Z,G5,F5,h5,c1,c2,fun b e=>s5.free e⟩ ?_ ?_ ?_ ?_
 . rintro i σ H' hi ⟨_,H6,rfl,G6,F6,h6,d1,d2,fr⟩
   have e6:bN ({ st with aj:=(st.aj.take i).map (fun p:Pt=>{ p with sc:=p.sc*kept / sd })++st.aj.drop i }:HS).aj A.qs=bN st.aj A.qs:=oB (qi (fun p:Pt=>{ p with sc:=p.sc*kept / sd }) (fun p:Pt=>p.nm) (fun _=>rfl) st.aj i)
   have qF:=h6.c_
   rw [e6] at qF
   exact ⟨ah,aK.of (dY qF d1 (fun k z=>by cases z)),by rw [exl];exact hi,by rw [eyl];exact hi⟩
 . rintro σ H' ⟨_,H6,rfl,G6,F6,h6,d1,d2,fr⟩
   have e6:bN ({ st with aj:=(st.aj.take st.aj.length).map (fun p:Pt=>{ p with sc:=p.sc*kept / sd })++st.aj.drop st.aj.length }:HS).aj A.qs=bN st.aj A.qs:=oB (qi (fun p:Pt=>{ p with sc:=p.sc*kept / sd }) (fun p:Pt=>p.nm) (fun _=>rfl) st.aj _)
   have qF:=h6.c_
   rw [e6] at qF
   exact ⟨ah,aK.of (dY qF d1 (fun k z=>by cases z)), .inl (by rw [exl];exact aN _)⟩
 . rintro i x σ H' CN hi ⟨⟨s7,s8,rfl⟩,H6,rfl,G6,F6,h6,d1,d2,fr⟩ ⟨pp,x1,y1,hpp,rfl,rfl,ex,ey⟩
   have ep:=bD hi
   have ep6:=JF (fun p:Pt=>{ p with sc:=p.sc*kept / sd }) ep
   obtain ⟨qq,eq,k1,k2,k3,k4⟩:=h6.find ep6
   have nm6:=qi (fun p:Pt=>{ p with sc:=p.sc*kept / sd }) (fun p:Pt=>p.nm) (fun _=>rfl) st.aj i
   have e6:bN ({ st with aj:=(st.aj.take i).map (fun p:Pt=>{ p with sc:=p.sc*kept / sd })++st.aj.drop i }:HS).aj A.qs=bN st.aj A.qs:=oB nm6
   have qF:=h6.c_
   rw [e6] at qF
   rw [cA,tK ep eq] at ex
   cases ex
   obtain ⟨sc,rfl,esc⟩:=fW ey
   have afC:sc=(st.aj[i]).sc*kept:=by
    unfold iT at esc
    rw [cA,ep] at esc
    exact (fu esc).symm
   subst afC
   have npa:pp≠A.ab:=fun e=>by rw [e,ah] at hpp;cases hpp
   have afD:H6 pp=none:=jE qF hpp
   have g7:=aG afD (.tup [.ref qq.1, .int ((st.aj[i]).sc*kept)])
   rw [iE (bU npa)]
   have KL:upd H6 pp (.tup [.ref qq.1, .int ((st.aj[i]).sc*kept)]) pp=some (.tup [.ref qq.1, .int ((st.aj[i]).sc*kept)]):=ah
   have h7:=h6.mono g7
   have G7:=G6.same g7
   have F7:=F6.trans (Fr.of_same (ρ:=ρ) g7)
   have Vb:=g7 _ _ qF
   have f1:=g7 _ _ d1
   have f2:=g7 _ _ d2
   have Jl:∀b,upd H6 pp (.tup [.ref qq.1, .int ((st.aj[i]).sc*kept)]) b=none->H b=none:=fun b e=>fr b (g7.free e)
   have Ov:=g7 _ _ k1
   generalize upd H6 pp (.tup [.ref qq.1, .int ((st.aj[i]).sc*kept)])=H7 at *
   refine ⟨pp,_,Z,dm.of (dY Vb KL (fun k z=>by cases z)),Z,_,_,Z,_,_,Z,Z,?_⟩
   refine ⟨_,Z,_,Z,_,_,Z,Z,V9,_,Z,qq.1,T.part,qq.2.1,_,Z,dY Vb Ov (fun k z=>by cases z),X.cP,X.CH,by show 6<1000;decide,?_⟩
   have nd7:(((st.aj.take i).map (fun p:Pt=>{ p with sc:=p.sc*kept / sd })++st.aj.drop i).map (fun p:Pt=>p.nm)).Nodup:=by rw [nm6];exact nd
   have h8:=h7.i8 (p1:={ st.aj[i] with sc:=(st.aj[i]).sc*kept / sd }) G7 ep6 eq rfl rfl nd7
   rw [show ({ st with aj:=(st.aj.take i).map (fun p:Pt=>{ p with sc:=p.sc*kept / sd })++st.aj.drop i }:HS).aj.set i { st.aj[i] with sc:=(st.aj[i]).sc*kept / sd }=_ from JG (fun p:Pt=>{ p with sc:=p.sc*kept / sd }) ep] at h8
   have nqa:A.ab≠qq.1:=(iM Ov Vb (by intro z;cases z)).symm
   have nq1:l1≠qq.1:=iM f1 Ov (by intro z;cases z)
   have nq2:l2≠qq.1:=iM f2 Ov (by intro z;cases z)
   refine ⟨⟨_,_,Z⟩,_,iE nqa,G7.wr rfl,F7.trans (Fr.write k3),h8,by rw [au nq1];exact f1,by rw [au nq2];exact f2,fun b e=>Jl b ?_⟩
   by_cases z:b=qq.1
   . rw [z,ah] at e;cases e
   . rw [au z] at e;exact e
 rintro σ H' ⟨⟨s7,s8,rfl⟩,H6,rfl,G6,F6,h6,d1,d2,fr⟩
 have e6:bN ({ st with aj:=(st.aj.take st.aj.length).map (fun p:Pt=>{ p with sc:=p.sc*kept / sd })++st.aj.drop st.aj.length }:HS).aj A.qs=bN st.aj A.qs:=oB (qi (fun p:Pt=>{ p with sc:=p.sc*kept / sd }) (fun p:Pt=>p.nm) (fun _=>rfl) st.aj _)
 have qF:=h6.c_
 rw [e6] at qF
 refine ⟨ah,?_⟩
 rw [kC,qh qF]
 rw [show ({ st with aj:=(st.aj.take st.aj.length).map (fun p:Pt=>{ p with sc:=p.sc*kept / sd })++st.aj.drop st.aj.length }:HS)={ st with aj:=st.aj.map fun p:Pt=>{ p with sc:=p.sc*kept / sd } } from by rw [cW,List.drop_length,Af]] at h6
 clear e6 qF h5 G5 F5 s5 c1 c2 hv5
 refine ⟨_,Z,l2,Z,⟨_,aK.of d2⟩,fun l3 hl3=>?_⟩
 refine kq (J:=yt K l2) (n:=((fJ st kept added).map V.int).length) 0 (fun i o H'=>aO H6 H'/\o=(((fJ st kept added).take i).map (· / sd)).map V.int) (by rw [aH];omega) ⟨aG hl3 _,Z⟩ (fun i o H' hi _ hp=>⟨_,_,aK.of (hp.1 _ _ d2),bD hi⟩) (fun o H' _ hp=>⟨_,aK.of (hp.1 _ _ d2),aN _⟩) ?_ ?_
 . rintro i y o Ha Hb hi fY ha ⟨g,e⟩ ⟨rfl,hy⟩
   obtain ⟨c,rfl,ec⟩:=fW (hy _ (aK.of (g _ _ d2)))
   refine ⟨_,Z,_,Z,_,_,Z,Z,V9,ha,g.cX hl3 _,?_⟩
   subst e
   rw [take_snoc ec,bR,bR]
   rfl
 rintro o3 H8 aip KP ⟨g8,e8⟩
 rw [aH,cW] at e8
 subst e8
 have h8:=h6.mono g8
 have G8:=G6.same g8
 have F8:=F6.trans (Fr.of_same (ρ:=ρ) g8)
 have fr8:∀b,H8 b=none->H b=none:=fun b e=>fr b (g8.free e)
 have c3:ρ l3=none:=G6.none hl3
 have n3:H l3=none:=fr l3 hl3
 refine ⟨_,Z,A.a,T.hold,A.dx,_,Z,h8.oa,X.cH,X.wM,by show 7<1000;decide,?_⟩
 obtain ⟨h9,G9⟩:=zx (t:=6) h8 G8 c3 KP rfl
 have F9:Fr n ρ H (cO ρ l3 (n,6,⟨#[]⟩)) H8:=F8.nR n3
 have yz:=h9.RL G9 l3 _ KP bY
 have G10:=G9.wr (a:=A.a) (o:= .ins T.hold A.dx (dI { A with cm:=l3 })) rfl
 have F10:=F9.trans (Fr.write (o:= .ins T.hold A.dx (dI { A with cm:=l3 })) h9.ca)
 show iB _ _ _ _ (upd H8 A.a (.ins T.hold A.dx (dI { A with cm:=l3 })))
 have afE:∀b,upd H8 A.a (.ins T.hold A.dx (dI { A with cm:=l3 })) b=none->H b=none:=fun b e=>fr8 b (by
  by_cases z:b=A.a
  . rw [z,ah] at e;cases e
  . rw [au z] at e;exact e)
 generalize upd H8 A.a (.ins T.hold A.dx (dI { A with cm:=l3 }))=AS at *
 clear h6 G6 F6 h8 G8 F8 h9 G9 F9 KP g8 fr8 fr d1 d2
 refine ⟨_,Z,A.a,T.hold,A.dx,_,_,Z,yz.oa,X.cH,X.zf,Z,A.pu,Z,⟨_,aK.of yz.jq⟩,fun l4 Gw=>?_⟩
 have aiq:st.bL.length<=100:=by rw [hh.wf.nO];exact hh.wf.j8
 refine kq (J:=yt K A.pu) (n:=(st.bL.map V.int).length) 0 (fun i o H'=>aO AS H'/\o=((st.bL.take i).map (·*(whole / sd))).map V.int) (by rw [aH];omega) ⟨aG Gw _,Z⟩ (fun i o H' hi _ hp=>⟨_,_,aK.of (hp.1 _ _ yz.jq),bD hi⟩) (fun o H' _ hp=>⟨_,aK.of (hp.1 _ _ yz.jq),aN _⟩) ?_ ?_
 . rintro i y o Ha Hb hi fY ha ⟨g,e⟩ ⟨rfl,hy⟩
   obtain ⟨c,rfl,ec⟩:=fW (hy _ (aK.of (g _ _ yz.jq)))
   refine ⟨_,Z,_,Z,_,Z,_,_,Z,Z,V9,_,_,Z,Z,iS (KO c (cg ec)) wqz,ha,g.cX Gw _,?_⟩
   subst e
   rw [take_snoc ec,bR,bR]
   rfl
 rintro o4 AX air aau ⟨SA,e11⟩
 rw [aH,cW] at e11
 subst e11
 have h11:=yz.mono SA
 have G11:=G10.same SA
 have F11:=F10.trans (Fr.of_same (ρ:=cO ρ l3 (n,6,⟨#[]⟩)) SA)
 have c4:cO ρ l3 (n,6,⟨#[]⟩) l4=none:=G10.none Gw
 have n4:H l4=none:=afE l4 Gw
 refine ⟨_,Z,A.a,T.hold,A.dx,_,Z,h11.oa,X.cH,X.zf,by show 7<1000;decide,?_⟩
 obtain ⟨h12,G12⟩:=zx (t:=7) h11 G11 c4 aau rfl
 have F12:Fr n ρ H (cO (cO ρ l3 (n,6,⟨#[]⟩)) l4 (n,7,⟨#[]⟩)) AX:=F11.nR n4
 have h13:=h12.Jv G12 l4 _ aau bY
 have G13:=G12.wr (a:=A.a) (o:= .ins T.hold A.dx (dI { { A with cm:=l3 } with pu:=l4 })) rfl
 have Gx:=F12.trans (Fr.write (o:= .ins T.hold A.dx (dI { { A with cm:=l3 } with pu:=l4 })) h12.ca)
 rw [show aW "purses" (V.ref l4) (dI { A with cm:=l3 })=dI { { A with cm:=l3 } with pu:=l4 } from rfl]
 generalize upd AX A.a (.ins T.hold A.dx (dI { { A with cm:=l3 } with pu:=l4 }))=Du at *
 refine ⟨_,Z,A.a,T.hold,A.dx,_,_,Z,h13.oa,X.cH,X.vc,Z,A.bt,A.db,_,Z,h13.iQ,Z,_,Z,_,Z,_,_,Z,Z,V9,?_⟩
 refine ⟨⟨n,_,{ { A with cm:=l3 } with pu:=l4 },{ st with aj:=st.aj.map (fun p:Pt=>{ p with sc:=p.sc*kept / sd }),bz:=(fJ st kept added).map (· / sd),bL:=st.bL.map (·*(whole / sd)) },whole / sd,Z,G13,h13,by show st.stp.length<=1000;omega,hh.wf.big.mono (by decide),wqz.mono (by decide),fun ρ' A' H' a1 a2 a3 a4=>?_⟩⟩
 have eb:aZ st kept whole added=ef { st with aj:=st.aj.map (fun p:Pt=>{ p with sc:=p.sc*kept / sd }),bz:=(fJ st kept added).map (· / sd),bL:=st.bL.map (·*(whole / sd)) } (whole / sd):=by
  unfold aZ
  rw [V8]
 rw [eb] at wf' q
 exact q ρ' A' H' ⟨a1,a2,wf'⟩ a3 (Gx.trans a4)
abbrev uC:Stmt:=inClass (top 21) 3
abbrev mW:List Str:=["self","rows"]
abbrev Mq:List Str:=mW.append ["amounts","name","amount","whole","lost"]
theorem ig:aR Mq mW (aE uC):=dP
theorem KQ {T:TC} (F:gI K T.hold "cast" "Hold.cast" uC f fd) (X:Txt K T) (uD:Dn P w K mg base 1 "amounts_of" pI (RW K)) (uE:Dn P w K mg base 2 "check_loss" lK VW) (iX:Mn P w K mg base 1 T.hold "part_of" eE (Bl T)) (dR:Mn P w K mg base 1 T.hold "whole" ja (wN T)) (jW:Mn P w K mg base 3 T.hold "blend" lM (Ef T K)) (pO:Mn P w K mg base 1 T.hold "given_up" kX (N1 T)) (jj:Mn P w K mg base 1 T.hold "lessen" kr (JK T)) (gP:mg "sum"=none):Mn P w K mg base 4 T.hold "cast" mW (JL T K):=by
 refine F.oA ig fun cdv A outer s H vs Q E hr h=>?_
 obtain ⟨⟨n,ρ,A,st,l,us,rs,rfl,hh,hl,hR,ok,q⟩⟩:=h
 have wf:=hh.wf
 have nd:=ok.nd
 refine ⟨_,(@c5.h _ _ _ (ai (aT (i:=2) ig.nd (bX uD hr (af (qv 1) aq)))
  (ai (wW (fK gc rfl (ya (qv 2)) (iu K (n:=2) rfl (cC (aY (i:=3) ig.nd) (cC (aY (i:=4) ig.nd) ir))) (ay (cu (bX uE hr (af (aJ K (cI iX hr (qv 0) (af (qv 3) aq))) (af (qv 4) aq)))))))
  (ai (aT (i:=5) ig.nd (lY dR hr (qv 0)))
  (ai (aT (i:=6) ig.nd (bJ (FE rfl) (by rfl) gP yL (af (Ei (qv 2)) aq)))
  (ai (cL (aU Ij (qv 6) (qv 5) (bf _)) (ay qz) bF)
  (ai (cu (cI jW hr (qv 0) (af (aM iZ (qv 5) (qv 6)) (af (qv 5) (af (cI pO hr (qv 0) (af (qv 2) aq)) aq)))))
  (ay (wW (fK gc rfl (ya (qv 2)) (iu K (n:=2) rfl (cC (aY (i:=3) ig.nd) (cC (aY (i:=4) ig.nd) ir))) (ay (cu (cI jj hr (qv 0) (af (qv 3) (af (qv 4) aq))))))))))))))),?_⟩
 refine ⟨_,Z,⟨⟨l,us,rs,Z,hl,hR,nd,ok.ne,ok.len,fun d H1 g1 hdn hd1=>?_⟩⟩⟩
 have jb:=hh.mono g1
 have F1:Fr n ρ H ρ H1:=Fr.of_same g1
 have cd:ρ d=none:=hh.g.none hdn
 have al:=xW rs
 refine ⟨d,_,hd1,fun ob=>⟨_,Z,d,ob,_,Z,ah,?_⟩⟩
 refine ua (n:=(h_ rs).length) (fun i σ H'=>aO (upd H1 d (.eF ob (.dK (h_ rs)))) H'/\∃s3 s4 s5 s6,σ=[some (.ref A.a),some (.ref l),some (.ref d),s3,s4,s5,s6])
  ⟨aO.refl _,_,_,_,_,Z⟩ (fun i σ H' hi hp=>⟨hp.1 _ _ ah,hi⟩) (fun σ H' hp=>⟨hp.1 _ _ ah,aN _⟩) ?_ ?_
 . rintro i x σ H3 H4 hi ⟨g,s3,s4,s5,s6,rfl⟩ ⟨pp,kv,hpp,hkv,rfl,rfl⟩
   unfold h_ at hkv
   rw [cA] at hkv
   obtain ⟨r,er,rfl⟩:=nH.mp hkv
   have hrm:=cg er
   obtain ⟨r1,zr,p,eV,Dy,hle⟩:=ok.row r hrm
   obtain ⟨ip,Gv,Sx⟩:=yN eV
   have ep:st.aj[ip]?=some p:=by rw [bD Gv,Sx]
   have g4:=aG hpp (.tup [.str r.1, .int r.2])
   have gg:=g.trans g4
   have hf:HH T n ρ A (upd H1 d (.eF ob (.dK (h_ rs)))) st:=jb.CL cd hd1 rfl rfl
   have h4:=hf.mono gg
   have KL:upd H3 pp (.tup [.str r.1, .int r.2]) pp=some (.tup [.str r.1, .int r.2]):=ah
   show yP K 2 _ _ _ (upd H3 pp (.tup [.str r.1, .int r.2])) _
   generalize upd H3 pp (.tup [.str r.1, .int r.2])=H4 at *
   obtain ⟨qq,eq,k1,k2,_,_⟩:=h4.h.find ep
   refine ⟨pp,_,Z,dm.of KL,Z,_,_,Z,_,_,Z,Z,?_⟩
   refine ⟨_,Z,A.a,A.dx,_,Z,h4.h.oa,Z,_,Z,⟨⟨n,ρ,A,st,ip,p,qq,by rw [<-Dy];rfl,h4.h,wf.dh,ep,eq,?_⟩⟩⟩
   refine ⟨qq.1,T.part,qq.2.1,_,_,Z,k1,X.cP,X.uc,Z,_,Z,⟨⟨p.wo,r.2,Z,r1,hle,?_⟩⟩⟩
   exact ⟨gg,_,_,_,_,Z⟩
 rintro σ H2 ⟨g2,s3,s4,s5,s6,rfl⟩
 refine ⟨g2 _ _ ah,?_⟩
 have gB:=qg hd1 g2
 have oG:=jb.mono gB
 have F2:Fr n ρ H ρ (upd H2 d (.dK (h_ rs))):=F1.trans (Fr.of_same gB)
 have hd2:upd H2 d (.dK (h_ rs)) d=some (.dK (h_ rs)):=ah
 generalize upd H2 d (.dK (h_ rs))=H2' at *
 refine ⟨_,Z,A.a,A.dx,_,Z,oG.h.oa,Z,⟨⟨n,ρ,A,st,Z,oG.h,wf.lD,fun H3 g3=>?_⟩⟩⟩
 have pM:=oG.mono g3
 have V_:=g3 _ _ hd2
 have F3:=F2.trans (Fr.of_same (ρ:=ρ) g3)
 refine ⟨_,Z,d,_,Z, .inl V_,fun v hv=>⟨v,d,_,rs.map (·.2),Z,ah, .inl (by rw [au (aF V_ hv)];exact V_),by unfold h_;rw [fR,fR];rfl,?_⟩⟩
 have g4:=aG hv (kR v d)
 have rS:=pM.mono g4
 have hd4:=g4 _ _ V_
 have F4:=F3.trans (Fr.of_same (ρ:=ρ) g4)
 generalize upd H3 v (kR v d)=H4 at *
 have bo:=ok.blend wf
 refine ⟨_,Z,_,Z,_,_,Z,Z,_,Z,aQ (fun c=>absurd (bg c) (by have:=ok.lost;show ¬ aC st<=aI rs;omega)) fun _=>?_⟩
 refine ⟨_,Z,A.a,A.dx,_,Z,rS.h.oa,Z,_,Z,_,Z,_,_,Z,Z,_,Z,_,Z,A.a,A.dx,_,Z,rS.h.oa,Z,_,Z,⟨⟨n,ρ,A,st,d,rs,Z,rS.h,wf,hd4,cd,ok.len,fun r hr=>⟨(ok.row r hr).2.1,by obtain ⟨p,hp,e,_⟩:=(ok.row r hr).2.2;exact ⟨p,hp,e⟩⟩,fun l5 H5 g5 hn5 hl5=>?_⟩⟩⟩
 have A0:=rS.mono g5
 have hd5:=g5 _ _ hd4
 have F5:=F4.trans (Fr.of_same (ρ:=ρ) g5)
 have zk:Jm.Sz 60 (aC st-aI rs):=bo.big.of_le (by have:=bo.k;have:=bo.l;omega)
 have zG:∀m∈cV st rs,0<=m/\Jm.Sz 8900 m:=fun m hm=>by
  have h1:=bo.add m hm
  have h2:=wf.d9
  have zl:Jm.Sz 60 (aI rs):=bo.big.of_le (by have:=bo.k;have:=bo.l;omega)
  exact ⟨h1.1,Jm.Sz.lz (by have:=oM bo.l (show 0<=st.prod by omega);omega) h1.2 ((zl.mul bo.prod).mono (by decide))⟩
 refine ⟨⟨n,ρ,A,st,aC st-aI rs,aC st,l5,cV st rs,Z,A0,aK.of hl5,bo.len,bo.k,by have:=bo.k;have:=bo.l;omega,zk,bo.big,zG,ok.bL,ok.stp,qo wf bo,fun ρ6 A6 H6 KG e6 f6=>?_⟩⟩
 obtain ⟨hd6,cd6⟩:=f6 d _ hd5 (fun t x=>by rw [cd];intro z;cases z)
 rw [cd] at cd6
 have F6:=F5.trans f6
 refine ⟨d,_,hd6,fun Sy=>⟨_,Z,d,Sy,_,Z,ah,?_⟩⟩
 generalize eB:aZ st (aC st-aI rs) (aC st) (cV st rs)=Ow at *
 have afF:Due Ow rs:=by rw [<-eB];exact vh ok.due
 have acu:bV st rs=rs.foldl c7 Ow:=by unfold bV;rw [eB]
 refine ua (n:=(h_ rs).length) (fun i σ H'=>∃ρ' A',HH T n ρ' A' H' ((rs.take i).foldl c7 Ow)/\A'.a=A.a/\H' d=some (.eF Sy (.dK (h_ rs)))/\ρ' d=none/\Fr n ρ H ρ' H'/\Due ((rs.take i).foldl c7 Ow) (rs.drop i)/\∃s3 s4 s5 s6,σ=[some (.ref A.a),some (.ref l),some (.ref d),s3,s4,s5,s6])
  ⟨ρ6,A6,KG.CL cd6 hd6 rfl rfl,e6,ah,cd6,F6.new hdn,afF,_,_,_,_,Z⟩ (fun i σ H' hi hp=>by obtain ⟨_,_,_,_,e,_⟩:=hp;exact ⟨e,hi⟩) (fun σ H' hp=>by obtain ⟨_,_,_,_,e,_⟩:=hp;exact ⟨e,aN _⟩) ?_ ?_
 . rintro i x σ H7 H8 hi ⟨ρ7,A7,vD,e7,Wa,Wb,F7,due,s3,s4,s5,s6,rfl⟩ ⟨pp,kv,hpp,hkv,rfl,rfl⟩
   unfold h_ at hkv
   rw [cA] at hkv
   obtain ⟨r,er,rfl⟩:=nH.mp hkv
   have hir:i<rs.length:=by rw [<-al];exact hi
   have edr:rs.drop i=r::rs.drop (i+1):=by
    rw [List.drop_eq_getElem_cons hir]
    rw [bD hir] at er
    rw [fu er]
   rw [edr] at due
   have g4:=aG hpp (.tup [.str r.1, .int r.2])
   have yE:=vD.mono g4
   have hd8:=g4 _ _ Wa
   have F8:=F7.trans (Fr.of_same (ρ:=ρ7) g4)
   have KL:upd H7 pp (.tup [.str r.1, .int r.2]) pp=some (.tup [.str r.1, .int r.2]):=ah
   show yP K 2 _ _ _ (upd H7 pp (.tup [.str r.1, .int r.2])) _
   generalize upd H7 pp (.tup [.str r.1, .int r.2])=H8 at *
   refine ⟨pp,_,Z,dm.of KL,Z,_,_,Z,_,_,Z,Z,?_⟩
   have eN:(rs.take (i+1)).foldl c7 Ow=c7 ((rs.take i).foldl c7 Ow) r:=by rw [take_snoc er,Ba];rfl
   have Wc:((r::rs.drop (i+1)).map (fun r:Row=>r.1)).Nodup:=by rw [<-edr,List.map_drop];exact nd.sublist (List.drop_sublist _ _)
   refine ⟨_,Z,A.a,A7.dx,_,Z,by rw [<-e7];exact yE.h.oa,Z,_,Z,_,Z,⟨⟨n,ρ7,A7,_,r,by rw [e7];rfl,yE,due r cS,JO vD.wf due,fun ρ9 A9 H9 SD e9 f9=>?_⟩⟩⟩
   obtain ⟨hd9,cd9⟩:=f9 d _ hd8 (fun t x=>by rw [Wb];intro z;cases z)
   rw [Wb] at cd9
   rw [<-eN] at SD
   exact ⟨ρ9,A9,SD,e9.trans e7,hd9,cd9,F8.trans f9,by rw [eN];exact Bq vD.wf due Wc,_,_,_,_,Z⟩
 rintro σ H7 ⟨ρ7,A7,vD,e7,Wa,Wb,F7,due,s3,s4,s5,s6,rfl⟩
 rw [al,cW,<-acu] at vD
 exact ⟨Wa,q ρ7 A7 _ (vD.CL Wb Wa rfl rfl) e7 (F7.new hdn)⟩
abbrev qG:Stmt:=inClass (top 4) 2
abbrev ku:List Str:=["self","top"]
abbrev GV:List Str:=ku.append ["rest","step","shared"]
theorem iY:aR GV ku (aE qG):=dP
theorem EB {T:TC} (F:gI K T.bot "over" "Bottom.over" qG f fd) (X:Txt K T) (iz:Dn P w K mg base 1 "common_factor" jz Ub):Mn P w K mg base 2 T.bot "over" ku (Ea T):=by
 refine F.oA iY fun cdv A outer s H vs Q E hr h=>?_
 obtain ⟨⟨bt,db,sp,kn,stp,prod,top,rfl,hb,hs,ep,h2,hz,q⟩⟩:=h
 refine ⟨_,(@c5.h _ _ _ (ai (aT (i:=2) iY.nd (aJ K (qv 0)))
  (ai (fK gc rfl (eT K (aJ K (qv 0))) (aY (i:=3) iY.nd) (ai (aT (i:=4) iY.nd (bX iz hr (af (qv 3) (af (aM ko (qv 1) (qv 3)) aq))))
  (ay (i9 (aU jn (qv 4) ak (bf _)) (ai (aT (i:=1) iY.nd (aM i7 (qv 1) (qv 4)))
  (ay (aT (i:=2) iY.nd (aM i7 (qv 2) (qv 4))))) bF))))
  (ay (bB (iG (af (qv 1) (af (qv 2) aq)))))))),?_⟩
 have p1:1<=prod:=by rw [ep];exact JI h2
 refine ⟨_,Z,bt,T.bot,db,_,_,Z,hb,X.cB,X.FH,Z,?_⟩
 refine ⟨_,Z,bt,T.bot,db,_,_,Z,hb,X.cB,X.RO,Z,sp,Z,⟨_,aK.of hs⟩,?_⟩
 refine k_ (K:=K) (xs:=stp.map V.int) (fun i σ H'=>H'=H/\∃(t r d:Int) (s3 s4:Option V),σ=[some (.ref bt),some (.int t),some (.int r),s3,s4]/\t*prod=top*r/\r=d*(stp.drop i).foldl (·*·) 1/\0<d/\Jm.cf t d=1)
  ⟨Z,top,prod,1,none,none,Z,Z,by rw [List.drop_zero,Int.one_mul];exact ep,by decide,by unfold Jm.cf;rw [Int.gcd_one];rfl⟩ (fun i σ H' _ hp=>by rw [hp.1];exact aK.of hs) ?_ ?_
 . rintro i x σ H' hx ⟨rfl,t,r,d,s3,s4,rfl,e1,e2,d0,c⟩
   obtain ⟨st,rfl,es⟩:=fW hx
   have hm:=cg es
   have s2:=h2 st hm
   have hi:=(dO.mp es).1
   have hdr:stp.drop i=st::stp.drop (i+1):=by
    rw [List.drop_eq_getElem_cons hi]
    congr 1
    rw [bD hi] at es
    exact fu es
   rw [hdr,Ed] at e2
   have r0:0<=t % st:=oK _ (by omega)
   refine ⟨_,Z,_,Z,_,Z,_,_,Z,Z,(by show 0<st;omega),st,t % st,Z,by omega,r0,?_⟩
   rw [Jm.NN t st (by omega)]
   obtain ⟨o1,o2⟩:=RT d0 (by omega:0<st) c
   have gp:0<Jm.cf t st:=Jm.Cq t st (.inr (by omega))
   have gz:Jm.Sz 9000 (Jm.cf t st):=((hz.of_le (by have:=VU h2 hm;rw [<-ep] at this;omega)).dvd (by omega:0<st) (by omega) (Jm.oS t st)).mono (by decide)
   obtain ⟨u,hu⟩:=Jm.vN t st
   obtain ⟨v,hv⟩:=Jm.oS t st
   have e3:t / Jm.cf t st*prod=top*(r / Jm.cf t st):=by
    have a1:t / Jm.cf t st=u:=by rw [Vu (by omega) hu]
    have a2:r=Jm.cf t st*(d*v*(stp.drop (i+1)).foldl (·*·) 1):=by
     rw [e2]
     conv=>lhs;rw [hv]
     rw [jd (Jm.cf t st),Int.mul_left_comm,jd d]
    have a3:r / Jm.cf t st=d*v*(stp.drop (i+1)).foldl (·*·) 1:=by rw [Vu (by omega) a2]
    rw [a1,a3]
    have e1':Jm.cf t st*(u*prod)=Jm.cf t st*(top*(d*v*(stp.drop (i+1)).foldl (·*·) 1)):=by
     rw [<-jd,<-hu,e1]
     conv=>lhs;rw [a2]
     rw [Int.mul_left_comm]
    exact Int.eq_of_mul_eq_mul_left (by omega) e1'
   have e4:r / Jm.cf t st=d*(st / Jm.cf t st)*(stp.drop (i+1)).foldl (·*·) 1:=by
    have a4:st / Jm.cf t st=v:=by rw [Vu (by omega) hv]
    have a2:r=Jm.cf t st*(d*v*(stp.drop (i+1)).foldl (·*·) 1):=by
     rw [e2]
     conv=>lhs;rw [hv]
     rw [jd (Jm.cf t st),Int.mul_left_comm,jd d]
    rw [a4,Vu (by omega) a2]
   refine ⟨fun σ' H2=>H2=H'/\σ'=[some (.ref bt),some (.int (t / Jm.cf t st)),some (.int (r / Jm.cf t st)),some (.int st),some (.int (Jm.cf t st))],?_,?_⟩
   . refine ⟨_,Z,_,_,Z,Z,_,Z,aQ (fun c=>?_) (fun c=>?_)⟩
     . exact ⟨_,Z,_,Z,_,_,Z,Z,xO gp gz,_,Z,_,Z,_,_,Z,Z,xO gp gz,Z,Z⟩
     . have c':¬ 1<Jm.cf t st:=tT (qa.mpr c)
       have g1:Jm.cf t st=1:=by omega
       refine ⟨Z,?_⟩
       rw [g1,B8,B8]
       rfl
   rintro σ' H2 ⟨rfl,rfl⟩
   exact ⟨Z,_,_,_,_,_,Z,e3,e4,o2,o1⟩
 rintro σ H' ⟨rfl,t,r,d,s3,s4,rfl,e1,e2,d0,c⟩
 rw [List.drop_of_length_le (by rw [aH];exact aN _),List.foldl_nil,xH] at e2
 subst e2
 refine ⟨_,Z,_,Z,(iy 2),fun p hp=>?_⟩
 refine q p _ (aG hp _) ?_
 rw [ah]
 obtain ⟨a1,a2⟩:=Jm.Rj d0 c
 have:Jm.fr top prod=Jm.fr t r:=Jm.VM (by omega) d0 e1.symm
 unfold qe
 rw [this,a1,a2]
abbrev pP:Stmt:=inClass (top 4) 3
abbrev l_:List Str:=["self","top"]
abbrev EC:List Str:=l_
theorem Dz:aR EC l_ (aE pP):=dP
theorem DA {T:TC} (F:gI K T.bot "share" "Bottom.share" pP f fd) (X:Txt K T) (jk:Mn P w K mg base 2 T.bot "over" ku (Ea T)):Mn P w K mg base 3 T.bot "share" l_ (JC T):=by
 refine F.oA Dz fun cdv A outer s H vs Q E hr h=>?_
 obtain ⟨⟨bt,db,sp,kn,stp,prod,top,kvs,rfl,hb,hs,ep,h2,hz,hk,kat,kl,knd,q⟩⟩:=h
 refine ⟨_,(@c5.h _ _ _ (ai (i9 (wV (zN (dB hr) (qv 1) (aJ K (qv 0)))) (ay (tR (dB hr) (aJ K (qv 0)) (qv 1) (cI jk hr (qv 0) (af (qv 1) aq)) rfl)) bF)
  (ay (bB (dN (dB hr) (aJ K (qv 0)) (qv 1)))))),?_⟩
 refine ⟨fun σ' H'=>σ'=[some (.ref bt),some (.int top)]/\(∀b o,H b=some o->b≠kn->H' b=some o)/\∃kvs' r,H' kn=some (.dK kvs')/\Jt H' kvs' prod/\kvs'.length<=kvs.length+1/\(kvs'.map (·.1)).Nodup/\dM kvs' (Sum.inl top)=some (.ref r)/\H' r=some (qe (Jm.fr top prod)),?_,?_⟩
 . refine ⟨_,Z,_,Z,bt,T.bot,db,_,_,Z,hb,X.cB,X.RP,Z,kn,_,Z,dW.k (k:=Sum.inl top) hk,_,Z,?_⟩
   cases e:dM kvs (Sum.inl top) with
   | some v=>
     refine jg ⟨Z,fun b o e _=>e,kvs,?_⟩
     obtain ⟨t,r,e2,hr2⟩:=kat _ (Ur e)
     cases e2
     exact ⟨r,hk,kat,Aj _,knd,e,hr2⟩
   | none=>
     refine mF ?_
     refine ⟨_,Z,bt,db,_,Z,hb,Z,_,Z,⟨⟨bt,db,sp,kn,stp,prod,top,Z,hb,hs,ep,h2,hz,fun r H1 g1 hr1=>?_⟩⟩⟩
     have sl:kvs.length<sizeLine:=by rw [jI];omega
     refine ⟨_,Z,bt,T.bot,db,_,_,Z,g1 _ _ hb,X.cB,X.RP,Z,_,Z,kn,_,Z,vM.k (k:=Sum.inl top) (g1 _ _ hk) sl,Z,fun b o e hb=>by rw [au hb];exact g1 _ _ e,_,r,ah,?_,?_,WT _ knd e,by rw [TY,aD rfl],by rw [au (iM hr1 (g1 _ _ hk) (by intro z;cases z))];exact hr1⟩
     . rw [lu _ e]
       intro p hp
       rcases gb.mp hp with z|z
       . obtain ⟨t,r',e2,hr2⟩:=kat p z
         exact ⟨t,r',e2,by rw [au (iM (g1 _ _ hr2) (g1 _ _ hk) (by intro z;cases z))];exact g1 _ _ hr2⟩
       . rw [fU.mp z]
         exact ⟨top,r,Z,by rw [au (iM hr1 (g1 _ _ hk) (by intro z;cases z))];exact hr1⟩
     . rw [lu _ e,dj]
       exact aN _
 rintro σ' H' ⟨rfl,k1,kvs',r,e1,e2,e3,e4,e5,e6⟩
 exact ⟨_,Z,bt,T.bot,db,_,_,Z,k1 _ _ hb (iM hb hk (by intro z;cases z)),X.cB,X.RP,Z,_,Z,kn,_,Z,e5▸dW.k (k:=Sum.inl top) e1,q r H' kvs' k1 e1 e2 e3 e4 e6⟩
abbrev qH:Stmt:=inClass (top 21) 12
abbrev nh:List Str:=["self","part"]
abbrev GX:List Str:=nh.append ["tops"]
theorem xo:aR GX nh (aE qH):=dP
theorem ED {T:TC} (F:gI K T.hold "shares" "Hold.shares" qH f fd) (X:Txt K T) (iX:Mn P w K mg base 1 T.hold "part_of" eE (Bl T)) (fC:Mn P w K mg base 1 T.hold "tops_of" iW (Av T)) (qI:Mn P w K mg base 3 T.bot "share" l_ (JC T)) (iP:mg "zip"=none):Mn P w K mg base 4 T.hold "shares" nh (C6 T):=by
 refine F.oA xo fun cdv A outer s H vs Q E hr h=>?_
 obtain ⟨⟨n,ρ,A,st,ip,pt,rfl,hh,ep,hkn,q⟩⟩:=h
 obtain ⟨qq,eq,k1,k2,k3,k4⟩:=hh.h.find ep
 have eV:=cg ep
 refine ⟨_,(@c5.h _ _ _ (ai (aT (i:=2) xo.nd (cI fC hr (qv 0) (af (cI iX hr (qv 0) (af (qv 1) aq)) aq)))
  (ay (bB (CW (JY ["owner","top","self"] [none,none,some 0] rfl (qx K (by rfl) iP (af (aJ K (qv 0)) (af (qv 2) aq))) (fun _ _ _ _=>(iu K (n:=2) rfl (cC (aY (i:=0) (show List.Nodup (["owner","top","self"] :List Str) from by decide +kernel)) (cC (aY (i:=1) (show List.Nodup (["owner","top","self"] :List Str) from by decide +kernel)) ir)))) (fun _ _ _ _=>(iG (af (qv 0) (af (cI qI hr (aJ K (qv 2)) (af (qv 1) aq)) aq)))) (fun _ _ _ _=>(aU jn (qv 1) ak (bf _))) rfl (by rfl))))))),?_⟩
 refine ⟨_,Z,A.a,A.dx,_,Z,hh.h.oa,Z,_,Z,A.a,A.dx,_,Z,hh.h.oa,Z,_,Z,⟨⟨n,ρ,A,st,ip,pt,qq,Z,hh.h,hh.wf.dh,ep,eq,?_⟩⟩⟩
 refine ⟨⟨n,ρ,A,st,ip,pt,qq,Z,hh.h,hh.wf,ep,eq,fun l H1 g1 hl hl1=>?_⟩⟩
 have jb:=hh.mono g1
 have cl:ρ l=none:=hh.g.none hl
 have tl:(aS st pt).length=st.own.length:=by
  unfold aS
  rw [kL,hh.wf.rows pt eV,hh.wf.fV,xG]
 have fY:=hh.wf.j8
 refine ⟨A.pl,_,jb.h.gQ,fun ob=>?_⟩
 have hl2:upd H1 A.pl (.eF ob (.dK (fD 0 st.own))) l=some (.lst ((aS st pt).map V.int)):=dY jb.h.gQ hl1 (fun k z=>by cases z)
 refine ⟨_,Z,A.a,T.hold,A.dx,_,_,Z,dY jb.h.gQ jb.h.oa (fun k z=>by cases z),X.cH,X.hpl,Z,_,Z,_,_,_,_,_,_,Z, .keys ah, .lst (aK.of hl2),fun acc hacc=>?_⟩
 have vE:H1 acc=none:=jE jb.h.gQ hacc
 have ca:ρ acc=none:=jb.g.none vE
 have Ox:acc≠A.pl:=fun e=>by rw [e,ah] at hacc;cases hacc
 have nal:acc≠l:=fun e=>by rw [e,hl1] at vE;cases vE
 refine W_ (K:=K) (n:=st.own.length) [0,1] (fun i out Hc=>∃H5,Hc=upd H5 A.pl (.eF ob (.dK (fD 0 st.own)))/\Gh ρ H5/\Fr n ρ H ρ H5/\aL T n ρ A H5 { st with kn:=st.kn+i }/\H5 l=some (.lst ((aS st pt).map V.int))/\kO H5 out (((List.zip st.own (aS st pt)).take i).filterMap fun x=>if 0<x.2 then some (x.1,Jm.fr x.2 st.prod) else none))
  (by decide) (by omega) ⟨upd H1 acc (.lst []),iE (bU Ox),jb.g.alloc vE,(Fr.of_same (ρ:=ρ) g1).trans (Fr.of_same (aG vE _)),jb.h.mono (aG vE _),by rw [au (bU nal)];exact hl1, .nil⟩ ?_ ?_ ?_ ?_
 . rintro i out Hc hi ha ⟨H5,rfl,G5,F5,h5,l5,S5⟩
   exact ⟨ah,aK.of (dY h5.gQ l5 (fun k z=>by cases z)),by rw [aH,o6];exact hi,by rw [aH,tl];exact hi⟩
 . rintro out Hc ha ⟨H5,rfl,G5,F5,h5,l5,S5⟩
   exact ⟨ah,aK.of (dY h5.gQ l5 (fun k z=>by cases z)), .inr (by rw [aH,tl];exact aN _)⟩
 . rintro i x out Hc H2 hi BI ha ⟨H5,rfl,G5,F5,h5,l5,S5⟩ ⟨pp,x1,y1,hpp,rfl,rfl,e1,e2⟩
   obtain ⟨t,rfl,et⟩:=fW e2
   rw [Jx,cA] at e1
   obtain ⟨o,eo,rfl⟩:=nH.mp e1
   have npl:pp≠A.pl:=fun e=>by rw [e,ah] at hpp;cases hpp
   have EE:H5 pp=none:=jE h5.gQ hpp
   have ez:(List.zip st.own (aS st pt))[i]?=some (o,t):=by rw [List.getElem?_zip_eq_some];exact ⟨eo,et⟩
   have g6:=aG EE (.tup [.str o, .int t])
   have e6:upd (upd H5 A.pl (.eF ob (.dK (fD 0 st.own)))) pp (.tup [.str o, .int t])=upd (upd H5 pp (.tup [.str o, .int t])) A.pl (.eF ob (.dK (fD 0 st.own))):=iE (bU npl)
   rw [e6]
   have G6:=G5.same g6
   have F6:=F5.trans (Fr.of_same (ρ:=ρ) g6)
   have h6:=h5.mono g6
   have l6:=g6 _ _ l5
   have S6:=S5.mono g6.tups
   have t6:upd H5 pp (.tup [.str o, .int t]) pp=some (.tup [.str o, .int t]):=ah
   have KR:upd H5 pp (.tup [.str o, .int t]) acc=some (.lst out):=by
    rw [au Ox] at ha
    exact g6 _ _ ha
   generalize upd H5 pp (.tup [.str o, .int t])=H6 at *
   have fz:∀{b:Addr} {u:HO},H6 b=some u->(∀k,u ≠ .dK k)->upd H6 A.pl (.eF ob (.dK (fD 0 st.own))) b=some u:=fun e k=>dY h6.gQ e k
   refine ⟨pp,_,Z,dm.of (fz t6 (fun k z=>by cases z)),Z,_,Z,_,_,Z,Z,_,Z,?_⟩
   refine aQ (fun c=>?_) (fun c=>?_)
   . have c':0<t:=bg c
     obtain ⟨kvs,j1,j2,j3,j4⟩:=h6.okn
     have Wd:A.kn≠A.pl:=CF h6.gC h6.fZ (by intro z;cases z)
     refine ⟨_,Z,_,Z,A.a,T.hold,A.dx,_,_,Z,fz h6.oa (fun k z=>by cases z),X.cH,X.vc,Z,A.bt,A.db,_,Z,fz h6.iQ (fun k z=>by cases z),Z,_,Z,
      ⟨⟨A.bt,A.db,A.sp,A.kn,st.stp,st.prod,t,kvs,Z,fz h6.iQ (fun k z=>by cases z),fz h6.kT (fun k z=>by cases z),hh.wf.oX,hh.wf.ud,hh.wf.big,by rw [au Wd];exact j1,(fun p hp=>let ⟨t,r,e,w⟩:=j2 p hp;⟨t,r,e,fz w (fun k z=>by cases z)⟩),IE j3 (by show st.kn+i<_;omega),j4,fun r H7 kvs' b1 b2 b3 b4 b5 b6=>?_⟩⟩⟩
     have Gy:H7 A.pl=some (.eF ob (.dK (fD 0 st.own))):=b1 _ _ ah (bU Wd)
     refine ⟨(iy 2),fun tt We=>?_⟩
     have ntp:tt≠A.pl:=fun e=>by rw [e,Gy] at We;cases We
     have k8:∀b u,H6 b=some u->b≠A.kn->upd H7 A.pl (.dK (fD 0 st.own)) b=some u:=fun b u e hb=>by
      by_cases z:b=A.pl
      . rw [z] at e ⊢
        rw [show H6 A.pl=some (.dK (fD 0 st.own)) from h6.gQ] at e
        cases e;exact ah
      . rw [au z];exact b1 _ _ (by rw [au z];exact e) hb
     have h8:=h6.Us (m:=st.kn+i+1) k8 (by rw [au Wd];exact b2) (fun p hp=>let ⟨t,r,e,w⟩:=b3 p hp;⟨t,r,e,jO (.inr ⟨_,Gy,Z⟩) _ _ w⟩) (gf b4 (Nat.succ_le_succ j3)) b5
     have G8:Gh ρ (upd H7 A.pl (.dK (fD 0 st.own))):=fun b cc e=>by
      by_cases z:b=A.pl
      . rw [z];exact ⟨_,ah,Z⟩
      by_cases z2:b=A.kn
      . rw [z2,au Wd];exact ⟨_,b2,Z⟩
      obtain ⟨u,a1,a2⟩:=G6 b cc e
      exact ⟨u,k8 b u a1 z2,a2⟩
     have F8:Fr n ρ H6 ρ (upd H7 A.pl (.dK (fD 0 st.own))):=fun b u e k=>⟨k8 b u e (fun z=>k 9 ⟨#[]⟩ (by rw [z];exact h6.gC)),Z⟩
     have tp8:∀b xs,H6 b=some (.tup xs)->upd H7 A.pl (.dK (fD 0 st.own)) b=some (.tup xs):=fun b xs e=>k8 b _ e (iM e j1 (by intro z;cases z))
     have afG:upd H7 A.pl (.dK (fD 0 st.own)) tt=none:=by rw [au ntp];exact We
     have back:H7=upd (upd H7 A.pl (.dK (fD 0 st.own))) A.pl (.eF ob (.dK (fD 0 st.own))):=by rw [kC,qh Gy]
     have hr8:upd H7 A.pl (.dK (fD 0 st.own)) r=some (qe (Jm.fr t st.prod)):=jO (.inr ⟨_,Gy,Z⟩) _ _ b6
     have l8:=k8 _ _ l6 (fun z=>by rw [z,j1] at l6;cases l6)
     have KP:=k8 _ _ KR (fun z=>by rw [z,j1] at KR;cases KR)
     have S8:=S6.mono tp8
     have F08:=F6.trans F8
     rw [back] at We ⊢
     generalize upd H7 A.pl (.dK (fD 0 st.own))=H8 at *
     have g9:=aG afG (.tup [.str o, .ref r])
     rw [iE (bU ntp)]
     refine ⟨by rw [au Ox];exact g9 _ _ KP,_,iE (bU Ox),(G8.same g9).wr rfl,(F08.trans (Fr.of_same (ρ:=ρ) g9)).new (g1.free vE),?_,?_,?_⟩
     . exact (h8.mono g9).same (wQ ca (g9 _ _ KP) rfl)
     . rw [au (bU nal)];exact g9 _ _ l8
     . rw [take_snoc ez,List.filterMap_append,IB]
       simp only [c',if_true,List.filterMap_nil]
       exact ((S8.mono g9.tups).snoc ah (g9 _ _ hr8)).mono (jO (.inr ⟨_,g9 _ _ KP,Z⟩))
   . have c':¬ 0<t:=tT (qa.mpr c)
     refine ⟨by rw [au Ox];exact KR,H6,Z,G6,F6,?_,l6,?_⟩
     . obtain ⟨kvs,j1,j2,j3,j4⟩:=h6.okn
       exact h6.Us (m:=st.kn+i+1) (fun b u e _=>e) j1 j2 (Nat.le_succ_of_le j3) j4
     . rw [take_snoc ez,List.filterMap_append,IB]
       simp only [c',qU,List.filterMap_nil,Af]
       exact S6
 . rintro out Hc BI ha ⟨H5,rfl,G5,F5,h5,l5,S5⟩
   rw [List.take_of_length_le (by rw [List.length_zip,tl];omega)] at S5
   refine ⟨ah,?_⟩
   rw [kC,qh (show H5 A.pl=some (.dK (fD 0 st.own)) from h5.gQ)]
   rw [au Ox] at ha
   obtain ⟨kvs,j1,j2,j3,j4⟩:=h5.okn
   have h9:=h5.Us (m:=st.kn+100) (fun b u e _=>e) j1 j2 (gf j3 (by show st.kn+st.own.length<=st.kn+100;omega)) j4
   exact q acc out H5 ⟨G5,h9,Ip hh.wf hkn⟩ F5 (g1.free vE) ha ca S5
abbrev sH:Stmt:=inClass (top 21) 4
abbrev pQ:List Str:=["self","owner","amount"]
abbrev KS:List Str:=pQ.append ["place","whole","added"]
theorem nj:aR KS pQ (aE sH):=dP
theorem EF {T:TC} {e:Ec} (F:gI K T.hold "award" "Hold.award" sH f fd) (X:Txt K T) (fh:Mx P w K mg base 1 T.hold "place_of" fG (x_ T e)) (dU:Dx P w K mg base 1 "check_amount" iV (zO e)) (dR:Mn P w K mg base 1 T.hold "whole" ja (wN T)) (jW:Mn P w K mg base 3 T.hold "blend" lM (Ef T K)) (bZ:mg "len"=none) (iO:gR K e.Br) (jA:mg "TooMuch"=some (.ref e.Br)):Mx P w K mg base 4 T.hold "award" pQ (J3 T e):=by
 refine F.yC nj fun cdv A outer s H vs Q E hr h=>?_
 obtain ⟨⟨n,ρ,A,st,o,a,rfl,hh,aw,dq⟩⟩:=h
 refine ⟨_,(@c5.h _ _ _ (ai (aT (i:=3) nj.nd (lZ fh hr (qv 0) (af (qv 1) aq)))
  (ai (cu (CY dU hr (af (qv 2) aq)))
  (ai (aT (i:=4) nj.nd (lY dR hr (qv 0)))
  (ai (cL (aU Ij (qv 2) (qv 4) (bf _)) (ay (kg iO (by rfl) jA)) bF)
  (ai (aT (i:=5) nj.nd (aM Q8 (iH (af ak aq)) (bJ u7 (by rfl) bZ fQ (af (aJ K (qv 0)) aq))))
  (ai (mS (aM gk (qv 2) (aJ K (aJ K (qv 0)))) (mT (qv 5) (qv 3) set_list))
  (ay (cu (cI jW hr (qv 0) (af (aM iZ (qv 4) (qv 2)) (af (qv 4) (af (qv 5) aq))))))))))))),?_⟩
 have wf:=hh.wf
 refine ⟨_,Z,A.a,A.dx,_,Z,hh.h.oa,Z,_,Z,⟨⟨n,ρ,A,st,o,Z,hh.h,fun ho=>dq.no 2 (by unfold lH;exact aB ho),fun ho=>?_⟩⟩⟩
 refine ⟨_,Z,⟨⟨a,Z,fun h5=>dq.no 5 (by unfold lH;rw [aD ho,aD h5]),fun h1=>?_⟩⟩⟩
 refine ⟨_,Z,A.a,A.dx,_,Z,hh.h.oa,Z,⟨⟨n,ρ,A,st,Z,hh.h,wf.lD,fun H1 g1=>?_⟩⟩⟩
 refine ⟨_,Z,_,Z,_,_,Z,Z,_,Z,aQ (fun c=>?_) (fun c=>?_)⟩
 . have c':aC st<=a:=bg c
   exact fun y=>dq.no 6 (by unfold lH;rw [aD ho,aB (show ¬ a<1 by omega),aD c']) y H1 g1
 have c':¬ aC st<=a:=tT (qa.mpr c)
 have q:=dq.ok (by unfold lH;rw [aD ho,aB (show ¬ a<1 by omega),aB c'])
 have jb:=hh.mono g1
 have F1:Fr n ρ H ρ H1:=Fr.of_same g1
 clear hh
 refine ⟨(iy 1),fun p0 hp0=>?_⟩
 have g2:=aG hp0 (.lst [.int 0])
 have oG:=jb.mono g2
 have F2:=F1.trans (Fr.of_same (ρ:=ρ) g2)
 have U7:upd H1 p0 (.lst [.int 0]) p0=some (.lst [.int 0]):=ah
 generalize upd H1 p0 (.lst [.int 0])=H2 at *
 clear jb F1
 have AZ:=o6 st.own 0
 have fY:=oG.wf.j8
 refine ⟨_,Z,A.a,T.hold,A.dx,_,_,Z,oG.h.oa,X.cH,X.hpl,Z,A.pl,_,Z,oG.h.gQ,p0,_,_,Z,Z,U7,by omega,by rw [AZ];omega,by rw [AZ];show 1*_<=_;rw [tU,Nat.one_mul];exact small (by omega),fun p1 hp1=>?_⟩
 rw [AZ,tU,show (List.replicate st.own.length [V.int 0]).flatten=(List.replicate st.own.length (0:Int)).map V.int from by rw [List.map_replicate,List.flatten_replicate_singleton]]
 have g3:=aG hp1 (.lst ((List.replicate st.own.length (0:Int)).map V.int))
 have pM:=oG.mono g3
 have F3:=F2.trans (Fr.of_same (ρ:=ρ) g3)
 have n1:H p1=none:=(g1.trans g2).free hp1
 have c1:ρ p1=none:=oG.g.none hp1
 have z8:upd H2 p1 (.lst ((List.replicate st.own.length (0:Int)).map V.int)) p1=_:=ah
 generalize upd H2 p1 (.lst ((List.replicate st.own.length (0:Int)).map V.int))=H3 at *
 have hi:=List.idxOf_lt_length_iff.mpr ho
 have bo:=aw.blend (o:=o) wf h1 (by omega)
 have za:IV a st.prod:= .inl (by have:(aC st).natAbs<2 ^ 60:=aw.big;omega)
 refine ⟨_,Z,_,Z,A.a,T.hold,A.dx,_,_,Z,pM.h.oa,X.cH,X.vc,Z,A.bt,T.bot,A.db,_,_,Z,pM.h.iQ,X.cB,X.FH,Z,_,_,Z,Z,za,_,Z,_,Z,p1,_,_,st.own.idxOf o,Z,Z,z8,by rw [aH,nI];exact wJ hi,?_⟩
 rw [show ((List.replicate st.own.length (0:Int)).map V.int).set (st.own.idxOf o) (V.int (a*st.prod))=(kN st o a).map V.int from by unfold kN;rw [tD]]
 have rS:=pM.CL (o:= .lst ((kN st o a).map V.int)) c1 z8 rfl rfl
 have F4:=F3.new (o:= .lst ((kN st o a).map V.int)) n1
 have U8:upd H3 p1 (.lst ((kN st o a).map V.int)) p1=_:=ah
 generalize upd H3 p1 (.lst ((kN st o a).map V.int))=H4 at *
 have zk:Jm.Sz 60 (aC st-a):=bo.big.of_le (by omega)
 have zG:∀m∈kN st o a,0<=m/\Jm.Sz 8900 m:=fun m hm=>by
  have CI:=bo.add m hm
  have h2:=wf.d9
  have zl:Jm.Sz 60 a:=bo.big.of_le (by omega)
  exact ⟨CI.1,Jm.Sz.lz (by have:=oM bo.l (show 0<=st.prod by omega);omega) CI.2 ((zl.mul bo.prod).mono (by decide))⟩
 exact ⟨_,Z,A.a,A.dx,_,Z,rS.h.oa,Z,_,Z,_,Z,_,_,Z,Z,_,Z,_,Z,⟨⟨n,ρ,A,st,aC st-a,aC st,p1,kN st o a,Z,rS,aK.of U8,bo.len,bo.k,by omega,zk,bo.big,zG,aw.bL,aw.stp,qo wf bo,fun ρ6 A6 H6 KG e6 f6=>q ρ6 A6 H6 KG e6 (F4.trans f6)⟩⟩⟩
abbrev qJ:Stmt:=inClass (top 21) 5
abbrev nq:List Str:=["self","part","amount"]
abbrev GY:List Str:=nq
theorem EG:aR GY nq (aE qJ):=dP
theorem DB {T:TC} {e:Ec} (F:gI K T.hold "mishap" "Hold.mishap" qJ f fd) (X:Txt K T) (b_:Mx P w K mg base 1 T.hold "part_of" eE (lG T e)) (nt:Dx P w K mg base 2 "check_loss" lK (J1 e)) (jj:Mn P w K mg base 1 T.hold "lessen" kr (JK T)):Mx P w K mg base 3 T.hold "mishap" nq (Ge T e):=by
 refine F.yC EG fun cdv A outer s H vs Q E hr h=>?_
 obtain ⟨⟨n,ρ,A,st,x,a,rfl,hh,dq⟩⟩:=h
 refine ⟨_,(@c5.h _ _ _ (ai (cu (CY nt hr (af (aJ K (lZ b_ hr (qv 0) (af (qv 1) aq))) (af (qv 2) aq))))
  (ay (cu (cI jj hr (qv 0) (af (qv 1) (af (qv 2) aq))))))),?_⟩
 refine ⟨_,Z,A.a,A.dx,_,Z,hh.h.oa,Z,_,Z,⟨⟨n,ρ,A,st,x,Z,hh.h,hh.wf.dh,fun hn=>dq.no 3 ?_,fun i p qq e1 e2 e3=>?_⟩⟩⟩
 . unfold jQ;rw [aB (fun z=>?_)]
   obtain ⟨j,p,h1,h2⟩:=kU z
   exact hn p (cg h1) h2
 obtain ⟨k1,_⟩:=hh.h.opt i p qq e2 e3
 have hm:x∈eU st:=by rw [<-e1];exact Ax e2
 have eV:=cg e2
 have ew:(bO st x).wo=p.wo:=by rw [cN hh.wf eV e1]
 refine ⟨qq.1,T.part,qq.2.1,_,_,Z,k1,X.cP,X.uc,Z,_,Z,⟨⟨p.wo,a,Z,fun h5=>dq.no 5 ?_,fun h1 h6=>dq.no 6 ?_,fun h1 h2=>?_⟩⟩⟩
 . unfold jQ;rw [aD hm,aD h5]
 . unfold jQ;rw [aD hm,aB (show ¬ a<1 by omega)];show (if (bO st x).wo<a then _ else _)=_;rw [ew,aD h6]
 have ho:=dq.ok (by unfold jQ;rw [aD hm,aB (show ¬ a<1 by omega)];show (if (bO st x).wo<a then _ else _)=_;rw [ew,aB (by omega)])
 exact ⟨_,Z,A.a,A.dx,_,Z,hh.h.oa,Z,_,Z,_,Z,⟨⟨n,ρ,A,st,(x,a),Z,hh,⟨p,eV,e1,h2⟩,Eg hh.wf (fun p' gF e'=>by rw [tN hh.wf gF eV (e'.trans e1.symm)];exact h2),ho⟩⟩⟩
abbrev uF:Stmt:=inClass (top 21) 6
abbrev rj:List Str:=["self","part","amount"]
abbrev Mr:List Str:=rj.append ["risen"]
theorem z9:aR Mr rj (aE uF):=dP
theorem GZ {T:TC} {e:Ec} (F:gI K T.hold "rise" "Hold.rise" uF f fd) (X:Txt K T) (b_:Mx P w K mg base 1 T.hold "part_of" eE (lG T e)) (dU:Dx P w K mg base 1 "check_amount" iV (zO e)):Mx P w K mg base 2 T.hold "rise" rj (N9 T e):=by
 refine F.yC z9 fun cdv A outer s H vs Q E hr h=>?_
 obtain ⟨⟨n,ρ,A,st,x,a,rfl,hh,dq⟩⟩:=h
 refine ⟨_,(@c5.h _ _ _ (ai (aT (i:=3) z9.nd (lZ b_ hr (qv 0) (af (qv 1) aq)))
  (ai (cu (CY dU hr (af (qv 2) aq)))
  (ay (pF K (qv 3) (qv 2) YA))))),?_⟩
 refine ⟨_,Z,A.a,A.dx,_,Z,hh.h.oa,Z,_,Z,⟨⟨n,ρ,A,st,x,Z,hh.h,hh.wf.dh,fun hn=>dq.no 3 ?_,fun i p qq e1 e2 e3=>?_⟩⟩⟩
 . unfold m_;rw [aB (fun z=>?_)]
   obtain ⟨j,p,h1,h2⟩:=kU z
   exact hn p (cg h1) h2
 subst e1
 obtain ⟨k1,k2,k3,k4⟩:=hh.h.opt i p qq e2 e3
 have hm:=Ax e2
 refine ⟨_,Z,⟨⟨a,Z,fun h5=>dq.no 5 ?_,fun h1=>?_⟩⟩⟩
 . unfold m_;rw [aD hm,aD h5]
 have ho:=dq.ok (by unfold m_;rw [aD hm,aB (show ¬ a<1 by omega)])
 refine ⟨_,Z,qq.1,T.part,qq.2.1,_,_,Z,k1,X.cP,X.uc,Z,_,Z,_,_,Z,Z,qq.2.1,_,k1,by show 6<1000;decide,?_⟩
 have CI:=hh.h.i8 (p1:={ p with wo:=p.wo+a }) hh.g e2 e3 rfl rfl hh.wf.dh
 have hw:Wf (Iq st p.nm a):=zP hh.wf fun q hq _=>⟨Z,Z,Z,Z,by have:=(hh.wf.jr q hq).1;show 1<=q.wo+a;omega,(hh.wf.jr q hq).2⟩
 have es:Iq st p.nm a={ st with aj:=st.aj.set i { p with wo:=p.wo+a } }:=qA hh.wf.dh e2 _
 rw [es] at ho hw
 exact ho ρ A _ ⟨hh.g.wr rfl,CI,hw⟩ rfl (Fr.write k3)
abbrev uG:Stmt:=inClass (top 21) 7
abbrev rm:List Str:=["self","part","taker"]
abbrev Ms:List Str:=rm.append ["handed","to","at","tops"]
theorem lN:aR Ms rm (aE uG):=dP
theorem G_ {T:TC} {e:Ec} (F:gI K T.hold "hand" "Hold.hand" uG f fd) (X:Txt K T) (b_:Mx P w K mg base 1 T.hold "part_of" eE (lG T e)) (fh:Mx P w K mg base 1 T.hold "place_of" fG (x_ T e)) (fC:Mn P w K mg base 1 T.hold "tops_of" iW (Av T)) (fB:Mn P w K mg base 1 T.hold "beyond_common" gG (PK T K)):Mx P w K mg base 2 T.hold "hand" rm (N_ T e):=by
 refine F.yC lN fun cdv A outer s H vs Q E hr h=>?_
 obtain ⟨⟨n,ρ,A,st,x,o,rfl,hh,hs,dq⟩⟩:=h
 refine ⟨_,(@c5.h _ _ _ (ai (aT (i:=3) lN.nd (lZ b_ hr (qv 0) (af (qv 1) aq)))
  (ai (aT (i:=4) lN.nd (lZ fh hr (qv 0) (af (qv 2) aq)))
  (ai (aT (i:=5) lN.nd (lZ fh hr (qv 0) (af (aJ K (qv 3)) aq)))
  (ai (cL (aU dS (qv 4) (qv 5) (bf _)) (ay Xo) bF)
  (ai (aT (i:=6) lN.nd (cI fC hr (qv 0) (af (qv 3) aq)))
  (ai (N7 (qv 6) (qv 4) J_ (aP (cU K) (qv 6) (qv 5)) Yl set_list)
  (ai (mS ak (mT (qv 6) (qv 5) set_list))
  (ai (cK K (qv 3) (qv 2))
  (ai (cK K (qv 3) ak)
  (ay (cK K (qv 3) (cI fB hr (qv 0) (af (qv 6) aq)))))))))))))),?_⟩
 have wf:=hh.wf
 refine ⟨_,Z,A.a,A.dx,_,Z,hh.h.oa,Z,_,Z,⟨⟨n,ρ,A,st,x,Z,hh.h,wf.dh,fun hn=>dq.no 3 ?_,fun i p qq e1 e2 e3=>?_⟩⟩⟩
 . unfold lW;rw [aB (fun z=>?_)]
   obtain ⟨j,p,h1,h2⟩:=kU z
   exact hn p (cg h1) h2
 have eV:=cg e2
 have eg:bO st x=p:=cN wf eV e1
 subst e1
 have hm:=Ax e2
 refine ⟨_,Z,A.a,A.dx,_,Z,hh.h.oa,Z,_,Z,⟨⟨n,ρ,A,st,o,Z,hh.h,fun ho=>dq.no 2 (by unfold lW;rw [aD hm,aB ho]),fun ho=>?_⟩⟩⟩
 have eR:lW st p.nm o=none:=by unfold lW;rw [aD hm,aD ho]
 have q:=dq.ok eR
 have wS:=Ob wf eR hs
 obtain ⟨k1,k2,k3,k4⟩:=hh.h.opt i p qq e2 e3
 have Gz:=wf.ow p eV
 refine ⟨_,Z,A.a,A.dx,_,Z,hh.h.oa,Z,_,Z,qq.1,T.part,qq.2.1,_,_,Z,k1,X.cP,X.pow,Z,⟨⟨n,ρ,A,st,p.ow,Z,hh.h,fun z=>absurd Gz z,fun _=>?_⟩⟩⟩
 refine ⟨_,Z,_,Z,Z,_,Z,aQ (fun c=>?_) (fun c=>?_)⟩
 . have c':st.own.idxOf o=st.own.idxOf p.ow:=by have:=V.int.inj (bg c);omega
   unfold fT at q
   rw [eg,aD c'] at q
   exact q ρ A H hh rfl Fr.refl
 have ne:st.own.idxOf o≠st.own.idxOf p.ow:=fun z=>c (bq (by rw [z]))
 have hl:=C5 wf eV
 have ha:st.own.idxOf p.ow<(aS st p).length:=by rw [hl];exact yH Gz
 have hb:st.own.idxOf o<(aS st p).length:=by rw [hl];exact yH ho
 have at':∀{l:List Int} {j:Nat},j<l.length->rH (l.map V.int) (j:Int)=some (.int (l.getD j 0)):=fun {l j} h=>aA (by rw [cA,mw,bD h];rfl)
 unfold fT at q wS
 rw [eg,aB ne,qA wf.dh e2] at q wS
 generalize hTT:lX st p o=TT at *
 rw [yb] at hTT
 refine ⟨_,Z,A.a,A.dx,_,Z,hh.h.oa,Z,_,Z,⟨⟨n,ρ,A,st,i,p,qq,Z,hh.h,wf,e2,e3,fun l H1 g1 rT hl1=>?_⟩⟩⟩
 have cl:ρ l=none:=hh.g.none rT
 refine ⟨_,Z,_,Z,l,_,_,_,Z,Z,aK.of hl1,at' hb,_,Z,_,Z,l,_,_,_,Z,Z,aK.of hl1,at' ha,_,_,Z,Z,l,_,_,st.own.idxOf o,Z,Z,hl1,by rw [aH];exact wJ hb,?_⟩
 have m1:(List.map V.int (aS st p)).set (st.own.idxOf o) (.int ((aS st p).getD (st.own.idxOf o) 0+(aS st p).getD (st.own.idxOf p.ow) 0))=((aS st p).set (st.own.idxOf o) ((aS st p).getD (st.own.idxOf o) 0+(aS st p).getD (st.own.idxOf p.ow) 0)).map V.int:=tD.symm
 rw [m1]
 refine ⟨_,Z,_,Z,l,_,_,st.own.idxOf p.ow,Z,Z,ah,by rw [aH,iL];exact wJ ha,?_⟩
 have m2:(((aS st p).set (st.own.idxOf o) ((aS st p).getD (st.own.idxOf o) 0+(aS st p).getD (st.own.idxOf p.ow) 0)).map V.int).set (st.own.idxOf p.ow) (.int 0)=TT.map V.int:=by rw [<-hTT];exact tD.symm
 rw [m2,kC]
 have g3:aO H (upd H1 l (.lst (TT.map V.int))):=g1.cX rT _
 have hl3:upd H1 l (.lst (TT.map V.int)) l=some (.lst (TT.map V.int)):=ah
 generalize upd H1 l (.lst (TT.map V.int))=H3 at *
 have pM:=hh.mono g3
 have c3:=g3 _ _ k1
 have hi:i<st.aj.length:=(dO.mp e2).1
 have tl:TT.length=st.own.length:=by rw [<-hTT,Ej,hl]
 clear hl1 g1 m1 m2
 refine ⟨_,Z,_,Z,qq.1,T.part,qq.2.1,_,Z,c3,X.cP,X.pow,by show 6<1000;decide,?_⟩
 have hA:=pM.h.i8 (p1:={ p with ow:=o }) pM.g e2 e3 rfl rfl wf.dh
 have gA:Gh ρ (upd H3 qq.1 (.ins T.part qq.2.1 (cQ { p with ow:=o } qq.2.2))):=pM.g.wr rfl
 have FA:Fr n ρ H ρ (upd H3 qq.1 (.ins T.part qq.2.1 (cQ { p with ow:=o } qq.2.2))):=(Fr.of_same g3).trans (Fr.write k3)
 have kA:upd H3 qq.1 (.ins T.part qq.2.1 (cQ { p with ow:=o } qq.2.2)) qq.1=some (.ins T.part qq.2.1 (cQ { p with ow:=o } qq.2.2)):=ah
 have nA:∀b,upd H3 qq.1 (.ins T.part qq.2.1 (cQ { p with ow:=o } qq.2.2)) b=none->H b=none:=fun b h=>g3.free (gE h)
 have lA:upd H3 qq.1 (.ins T.part qq.2.1 (cQ { p with ow:=o } qq.2.2)) l=some (.lst (TT.map V.int)):=by rw [au (fun z=>by rw [z,k3] at cl;cases cl)];exact hl3
 show iB _ _ _ _ (upd H3 qq.1 (.ins T.part qq.2.1 (cQ { p with ow:=o } qq.2.2)))
 generalize upd H3 qq.1 (.ins T.part qq.2.1 (cQ { p with ow:=o } qq.2.2))=H4 at *
 refine ⟨_,Z,qq.1,T.part,qq.2.1,_,Z,kA,X.cP,X.CH,by show 6<1000;decide,?_⟩
 have ndA:((st.aj.set i { p with ow:=o }).map (·.nm)).Nodup:=by rw [tD,rO (by rw [cA,e2];rfl)];exact wf.dh
 have hB:=hA.i8 (i:=i) (p1:={ p with ow:=o,sc:=1 }) gA (p_ hi) e3 rfl rfl ndA
 have gB:Gh ρ (upd H4 qq.1 (.ins T.part qq.2.1 (cQ { p with ow:=o,sc:=1 } qq.2.2))):=gA.wr rfl
 have FB:Fr n ρ H ρ (upd H4 qq.1 (.ins T.part qq.2.1 (cQ { p with ow:=o,sc:=1 } qq.2.2))):=FA.trans (Fr.write k3)
 have kB:upd H4 qq.1 (.ins T.part qq.2.1 (cQ { p with ow:=o,sc:=1 } qq.2.2)) qq.1=some (.ins T.part qq.2.1 (cQ { p with ow:=o,sc:=1 } qq.2.2)):=ah
 have lB:upd H4 qq.1 (.ins T.part qq.2.1 (cQ { p with ow:=o,sc:=1 } qq.2.2)) l=some (.lst (TT.map V.int)):=by rw [au (fun z=>by rw [z,k3] at cl;cases cl)];exact lA
 have nB:∀b,upd H4 qq.1 (.ins T.part qq.2.1 (cQ { p with ow:=o,sc:=1 } qq.2.2)) b=none->H b=none:=fun b h=>nA b (gE h)
 have Wg:(st.aj.set i { p with ow:=o }).set i { p with ow:=o,sc:=1 }=st.aj.set i { p with ow:=o,sc:=1 }:=uW ..
 have hB:aL T n ρ A (upd H4 qq.1 (.ins T.part qq.2.1 (cQ { p with ow:=o,sc:=1 } qq.2.2))) { st with aj:=st.aj.set i { p with ow:=o,sc:=1 } }:=by rw [<-Wg];exact hB
 generalize hH5:upd H4 qq.1 (HO.ins T.part qq.2.1 (aW _ _ _))=H5
 have afH:upd H4 qq.1 (.ins T.part qq.2.1 (cQ { p with ow:=o,sc:=1 } qq.2.2))=H5:=hH5
 rw [afH] at hB gB FB kB lB nB
 clear hA gA FA kA nA lA
 have ol:=wf.j8
 refine ⟨_,Z,A.a,A.dx,_,Z,hB.oa,Z,_,Z,⟨⟨n,ρ,A,_,l,TT,Z,hB,aK.of lB,by show _=st.bz.length;rw [tl,wf.fV],by omega,fun r H6 g6 hr0 hr1=>?_⟩⟩⟩
 have cr:ρ r=none:=gB.none hr0
 have h6:=hB.mono g6
 have G6:=gB.same g6
 have F6:Fr n ρ H (cO ρ r (n,21,p.nm)) H6:=(FB.trans (Fr.of_same (ρ:=ρ) g6)).nR (nB _ hr0)
 have hC:aL T n (cO ρ r (n,21,p.nm)) A H6 _:=h6.same ⟨fun _ _ e=>e,fun b u x w _ hc he=>⟨he,by rw [bu (fun z=>by rw [z,cr] at hc;cases hc)];exact hc⟩⟩
 have GC:Gh (cO ρ r (n,21,p.nm)) H6:=G6.color hr1 rfl
 have ndB:((st.aj.set i { p with ow:=o,sc:=1 }).map (·.nm)).Nodup:=by rw [tD,rO (by rw [cA,e2];rfl)];exact wf.dh
 have hD:=hC.UH (p1:={ p with ow:=o,sc:=1,row:=lE st TT }) GC (p_ hi) e3 rfl bY hr1 ndB
 refine ⟨_,Z,qq.1,T.part,qq.2.1,_,Z,g6 _ _ kB,X.cP,X.FG,by show 6<1000;decide,?_⟩
 refine q _ { A with qs:=A.qs.set i (qq.1,qq.2.1,r) } _ ⟨GC.wr rfl,?_,wS⟩ rfl (F6.trans (Fr.write (t:=20) (x:=p.nm) (by rw [bu (fun z=>by rw [<-z,k3] at cr;cases cr)];exact k3)))
 have eS2:(st.aj.set i { p with ow:=o,sc:=1 }).set i { p with ow:=o,sc:=1,row:=lE st TT }=st.aj.set i { p with ow:=o,sc:=1,row:=lE st TT }:=uW ..
 rw [<-eS2]
 exact hD
abbrev uH:Stmt:=inClass (top 21) 8
abbrev rA:List Str:=["self","part"]
abbrev Mt:List Str:=rA.append ["leaving","gains"]
theorem uI:aR Mt rA (aE uH):=dP
theorem Hf {T:TC} {e:Ec} (F:gI K T.hold "land" "Hold.land" uH f fd) (X:Txt K T) (b_:Mx P w K mg base 1 T.hold "part_of" eE (lG T e)) (eW:Mn P w K mg base 1 T.hold "place_of" fG (Au T)) (fC:Mn P w K mg base 1 T.hold "tops_of" iW (Av T)) (Hg:Mn P w K mg base 4 T.hold "shares" nh (C6 T)) (iP:mg "zip"=none):Mx P w K mg base 5 T.hold "land" rA (Od T e):=by
 refine F.yC uI fun cdv A outer s H vs Q E hr h=>?_
 obtain ⟨⟨n,ρ,A,st,x,rfl,hh,ld,dq⟩⟩:=h
 refine ⟨_,(@c5.h _ _ _ (ai (aT (i:=2) uI.nd (lZ b_ hr (qv 0) (af (qv 1) aq)))
  (ai (cu (j_ nG nE nF dX (aJ K (qv 0)) (af (iG (af (aJ K (qv 2)) (af (aJ K (qv 2)) (af (aJ K (qv 2)) (af (cI Hg hr (qv 0) (af (qv 1) aq)) aq))))) aq)))
  (ai (tP (i:=3) ["purse","top","leaving"] [none,none,some 2] uI.nd rfl rfl rfl (qx K (by rfl) iP (af (aJ K (qv 0)) (af (cI fC hr (qv 0) (af (qv 2) aq)) aq))) (fun _ _ _ _=>(iu K (n:=2) rfl (cC (aY (i:=0) (show List.Nodup (["purse","top","leaving"] :List Str) from by decide +kernel)) (cC (aY (i:=1) (show List.Nodup (["purse","top","leaving"] :List Str) from by decide +kernel)) ir)))) (fun _ _ _ _=>(aM cT (qv 0) (aM gk (aJ K (qv 2)) (qv 1)))) rfl (by rfl) (by rfl))
  (ai (N7 (qv 3) (cI eW hr (qv 0) (af (aJ K (qv 2)) aq)) J_ (aM gk (aJ K (qv 2)) (aJ K (aJ K (qv 0)))) Ym set_list)
  (ai (cK K (qv 0) (qv 3))
  (ay (N8 (aJ K (qv 0)) (qv 1))))))))),?_⟩
 refine ⟨_,Z,A.a,A.dx,_,Z,hh.h.oa,Z,_,Z,⟨⟨n,ρ,A,st,x,Z,hh.h,hh.wf.dh,fun hn=>dq.no 3 ?_,fun i p qq e1 e2 e3=>?_⟩⟩⟩
 . unfold vj;rw [aB (fun z=>?_)]
   obtain ⟨j,p,h1,h2⟩:=kU z
   exact hn p (cg h1) h2
 subst e1
 have wf:=hh.wf
 have eV:=cg e2
 have eR:vj st p.nm=none:=aD (Ax e2)
 have q:=dq.ok eR
 have wS:=Of wf eR ld
 rw [ur wf eV] at q wS
 obtain ⟨k1,k2,k3,k4⟩:=hh.h.opt i p qq e2 e3
 obtain ⟨RK,hv0,hA0⟩:=hh.h.mC
 refine ⟨_,Z,A.a,T.hold,A.dx,_,_,Z,hh.h.oa,X.cH,X.has,Z, .inl ⟨Z,_,aK.of hv0⟩,_,Z,qq.1,T.part,qq.2.1,_,_,Z,k1,X.cP,X.RM,Z,_,Z,qq.1,T.part,qq.2.1,_,_,Z,k1,X.cP,X.pow,Z,_,Z,qq.1,T.part,qq.2.1,_,_,Z,k1,X.cP,X.uc,Z,_,Z,A.a,A.dx,_,Z,hh.h.oa,Z,_,Z,⟨⟨n,ρ,A,st,i,p,Z,hh,e2,ld.kn,fun r ws H1 jb F1 hr0 hr1 cr1 sh1=>?_⟩⟩⟩
 have hi:i<st.aj.length:=(dO.mp e2).1
 refine ⟨(iy 4),fun t ht=>?_⟩
 have g2:=aG ht (.tup [.str p.nm, .str p.ow, .int p.wo, .ref r])
 have fr1:∀b,H1 b=none->H b=none:=fun b hb=>F1.aci jb.g hb
 have fr2:∀b,upd H1 t (.tup [.str p.nm, .str p.ow, .int p.wo, .ref r]) b=none->H b=none:=fun b hb=>fr1 b (gE hb)
 have oG:=jb.mono g2
 have F2:=F1.trans (Fr.of_same (ρ:=ρ) g2)
 have hr2:=g2 _ _ hr1
 have sh2:=sh1.mono g2.tups
 have ht2:upd H1 t (.tup [.str p.nm, .str p.ow, .int p.wo, .ref r]) t=some (.tup [.str p.nm, .str p.ow, .int p.wo, .ref r]):=ah
 show qc _ (upd H1 t (.tup [.str p.nm, .str p.ow, .int p.wo, .ref r])) _
 generalize upd H1 t (.tup [.str p.nm, .str p.ow, .int p.wo, .ref r])=H2 at *
 clear g2 sh1 hr1 F1
 have cH:aL T n (cO ρ r (n,30,⟨#[]⟩)) A H2 { st with kn:=st.kn+100 }:=oG.h.same ⟨fun _ _ e=>e,fun b u x w _ hc he=>⟨he,by rw [bu (fun z=>by rw [z,cr1] at hc;cases hc)];exact hc⟩⟩
 have cG:Gh (cO ρ r (n,30,⟨#[]⟩)) H2:=oG.g.color hr2 rfl
 have cF:Fr n ρ H (cO ρ r (n,30,⟨#[]⟩)) H2:=F2.nR hr0
 have cr2:cO ρ r (n,30,⟨#[]⟩) r=some (n,30,⟨#[]⟩):=bY
 generalize cO ρ r (n,30,⟨#[]⟩)=ρ2 at *
 clear oG F2
 obtain ⟨GA,hv2,hA2⟩:=cH.mC
 have hal:GA.length<1000:=by rw [show GA.length=st.d_.length from hA2.length];exact ld.d_
 refine ⟨A.as,GA,_,Z,Z,hv2,dH (by omega),?_⟩
 have h3:aL T n ρ2 A (upd H2 A.as (.lst (GA++[.ref t]))) { st with d_:=st.d_++[⟨p.nm,p.ow,p.wo,o8 st p⟩],kn:=st.kn+100 }:=cH.Zg (x:=⟨p.nm,p.ow,p.wo,o8 st p⟩) cG hv2 ht2 hr2 cr2 sh2
 have G3:=cG.wr (a:=A.as) (o:= .lst (GA++[.ref t])) rfl
 have F3:=cF.trans (Fr.write (o:= .lst (GA++[.ref t])) cH.gr)
 have V1:∀b,upd H2 A.as (.lst (GA++[.ref t])) b=none->H b=none:=fun b hb=>fr2 b (gE hb)
 have wf3:Wf { st with d_:=st.d_++[⟨p.nm,p.ow,p.wo,o8 st p⟩],kn:=st.kn+100 }:={ wf with ue:=wS.ue,FI:=wS.FI }
 generalize upd H2 A.as (.lst (GA++[.ref t]))=H3 at *
 clear cH cG cF hv2 hA2 ht2 hr2 sh2
 obtain ⟨j1,j2,_,_⟩:=h3.opt i p qq e2 e3
 refine ⟨_,Z,A.a,T.hold,A.dx,_,_,Z,h3.oa,X.cH,X.zf,Z,_,Z,A.a,A.dx,_,Z,h3.oa,Z,_,Z,⟨⟨n,ρ2,A,_,i,p,qq,Z,h3,wf3,e2,e3,fun l H4 g4 rT hl1=>?_⟩⟩⟩
 have hl1:H4 l=some (.lst ((aS st p).map V.int)):=hl1
 have tl:=C5 wf eV
 have fY:=wf.j8
 have nO:=wf.nO
 have j4:=g4 _ _ j1
 have zw:=ld.wo p eV
 refine ⟨_,_,_,_,_,_,Z, .lst (aK.of (g4 _ _ h3.jq)), .lst (aK.of hl1),fun acc hacc=>?_⟩
 refine wK (K:=K) (n:=st.bL.length) [0,1] (fun i out H5=>aO H4 H5/\out=(List.zipWith (fun u t=>u+p.wo*t) (st.bL.take i) ((aS st p).take i)).map V.int) (by decide) (by omega) ⟨aG hacc _,Z⟩ (fun i out H5 hi _ hp=>⟨aK.of (hp.1 _ _ (g4 _ _ h3.jq)),aK.of (hp.1 _ _ hl1),by rw [aH];exact hi,by rw [aH,tl];omega⟩)
  (fun out H5 _ hp=>⟨aK.of (hp.1 _ _ (g4 _ _ h3.jq)),aK.of (hp.1 _ _ hl1), .inl (by rw [aH];exact aN _)⟩) ?_ ?_
 . rintro k x out H5 H6 hk afI ha ⟨g5,e5⟩ ⟨pp,x1,y1,hpp,rfl,rfl,e6,e7⟩
   obtain ⟨u,rfl,eu⟩:=fW e6
   obtain ⟨c,rfl,ec⟩:=fW e7
   have g6:=aG hpp (.tup [.int u, .int c])
   refine ⟨pp,_,Z,dm.of ah,Z,_,Z,_,Z,qq.1,T.part,qq.2.1,_,_,Z,(g5.trans g6) _ _ j4,X.cP,X.uc,Z,_,Z,_,_,Z,Z, .inl (by have:p.wo.natAbs<2 ^ 60:=zw;omega),_,_,Z,Z,g6 _ _ ha,(g5.trans g6).cX hacc _,?_⟩
   rw [rN _ eu ec,e5,bR]
   rfl
 rintro out H5 afI ha5 ⟨g5,e5⟩
 rw [cW,show st.bL.length=(aS st p).length by omega,cW] at e5
 have e5:out=(gX st p).map V.int:=e5
 subst e5
 have KU:H3 acc=none:=g4.free hacc
 have g35:=g4.trans g5
 have h5:=h3.mono g35
 have G5:=G3.same g35
 have F5:=F3.trans (Fr.of_same (ρ:=ρ2) g35)
 have ca:ρ2 acc=none:=G3.none KU
 have j5:=g5 _ _ j4
 have hown:=wf.ow p eV
 have gl:=zR wf eV
 have hix:st.own.idxOf p.ow<(gX st p).length:=by rw [gl];exact yH hown
 refine ⟨_,Z,_,Z,A.a,A.dx,_,Z,h5.oa,Z,_,Z,qq.1,T.part,qq.2.1,_,_,Z,j5,X.cP,X.pow,Z,⟨⟨n,ρ2,A,_,p.ow,Z,h5,hown,?_⟩⟩⟩
 have at':rH ((gX st p).map V.int) ((st.own.idxOf p.ow:Nat):Int)=some (.int ((gX st p).getD (st.own.idxOf p.ow) 0)):=aA (by rw [cA,mw,bD hix];rfl)
 refine ⟨acc,_,_,_,Z,Z,aK.of ha5,at',_,Z,qq.1,T.part,qq.2.1,_,_,Z,j5,X.cP,X.uc,Z,_,Z,A.a,T.hold,A.dx,_,_,Z,h5.oa,X.cH,X.vc,Z,A.bt,T.bot,A.db,_,_,Z,h5.iQ,X.cB,X.FH,Z,_,_,Z,Z, .inl (by have:p.wo.natAbs<2 ^ 60:=zw;omega),_,_,Z,Z,acc,_,_,st.own.idxOf p.ow,Z,Z,ha5,by rw [aH];exact wJ hix,?_⟩
 have m1:((gX st p).map V.int).set (st.own.idxOf p.ow) (.int ((gX st p).getD (st.own.idxOf p.ow) 0-p.wo*st.prod))=(nT st p).map V.int:=tD.symm
 have G6:=G5.wr (a:=acc) (o:= .lst ((nT st p).map V.int)) rfl
 have h6:=h5.same (wQ (o:= .lst ((nT st p).map V.int)) ca ha5 rfl)
 have n6:H acc=none:=V1 acc KU
 have F6:=F5.new (o:= .lst ((nT st p).map V.int)) n6
 show iB _ _ _ _ (upd H5 acc (.lst (((gX st p).map V.int).set (st.own.idxOf p.ow) (.int ((gX st p).getD (st.own.idxOf p.ow) 0-p.wo*st.prod)))))
 rw [m1]
 have KR:upd H5 acc (.lst ((nT st p).map V.int)) acc=some (.lst ((nT st p).map V.int)):=ah
 generalize upd H5 acc (.lst ((nT st p).map V.int))=H6 at *
 refine ⟨_,Z,_,Z,A.a,T.hold,A.dx,_,Z,h6.oa,X.cH,X.zf,by show 7<1000;decide,?_⟩
 obtain ⟨h7,G7⟩:=zx (t:=7) h6 G6 ca KR rfl
 have F7:Fr n ρ H (cO ρ2 acc (n,7,⟨#[]⟩)) H6:=F6.nR n6
 have h8:=h7.Jv G7 acc _ KR bY
 have G8:=G7.wr (a:=A.a) (o:= .ins T.hold A.dx (dI { A with pu:=acc })) rfl
 have F8:=F7.trans (Fr.write (o:= .ins T.hold A.dx (dI { A with pu:=acc })) h7.ca)
 rw [show aW "purses" (V.ref acc) (dI A)=dI { A with pu:=acc } from rfl]
 generalize upd H6 A.a (.ins T.hold A.dx (dI { A with pu:=acc }))=H8 at *
 have hv8:=tM wf.dh e2 e3
 have dk:=Bm wf.dh hh.h.ql e2
 refine ⟨_,Z,A.a,T.hold,A.dx,_,_,Z,h8.oa,X.cH,X.hab,Z,_,Z,A.ab,_,Sum.inr p.nm,Z,h8.c_,Z,?_,?_⟩
 . show (dM (bN st.aj A.qs) (Sum.inr p.nm)).isSome=true
   rw [hv8];rfl
 show Q .b9 (upd H8 A.ab (.dK (lS (bN st.aj A.qs) (Sum.inr p.nm))))
 rw [dk]
 have hi2:i<A.qs.length:=by rw [hh.h.ql];exact hi
 have h9:=h8.Ju G8 (st.aj.eraseIdx i) (A.qs.eraseIdx i) (by rw [OL hi,OL hi2,hh.h.ql]) (fun j x y ex ey=>by
  obtain ⟨k,a1,a2⟩:=zm ex ey
  exact h8.opt k x y a1 a2)
 rw [uo wf.dh e2] at q wS
 exact q _ { { A with pu:=acc } with qs:=A.qs.eraseIdx i } _ ⟨G8.wr rfl,h9,wS⟩ rfl (F8.trans (Fr.write h8.eX))
abbrev sJ:Stmt:=inClass (top 21) 9
abbrev pR:List Str:=["self","part","name","amount","weight"]
abbrev KW:List Str:=pR.append ["source"]
theorem yF:aR KW pR (aE sJ):=dP
theorem EH {T:TC} {e:Ec} (F:gI K T.hold "sever" "Hold.sever" sJ f fd) (X:Txt K T) (b_:Mx P w K mg base 1 T.hold "part_of" eE (lG T e)) (jL:Mx P w K mg base 3 T.hold "check_new" i_ (vQ T e)) (kG:Mn P w K mg base 1 T.hold "stow" mU (JB T)) (pL:Cn P w K mg base 1 "Part" T.part ["self","name","owner","worth","weight","scale","row"] (As T K)) (jU:gR K e.zJ) (kF:mg "BadNumber"=some (.ref e.zJ)) (iO:gR K e.Br) (jA:mg "TooMuch"=some (.ref e.Br)):Mx P w K mg base 4 T.hold "sever" pR (J4 T e):=by
 refine F.yC yF fun cdv A outer s H vs Q E hr h=>?_
 obtain ⟨⟨n,ρ,A,st,x,y,a,we,rfl,KY,hy0,hl1,hl2,dq⟩⟩:=h
 refine ⟨_,(@c5.h _ _ _ (ai (aT (i:=5) yF.nd (lZ b_ hr (qv 0) (af (qv 1) aq)))
  (ai (cu (lZ jL hr (qv 0) (af (qv 2) aq)))
  (ai (cL (kD (bW.pt (Iu (aU qV (qv 3) ak (bf _)) (CZ (aU qV (qv 4) ak (bf _)))))) (ay (kg jU (by rfl) kF)) bF)
  (ai (cL (kD (bW.pt (Iu (aU Ij (qv 3) (aJ K (qv 5)) (bf _)) (CZ (aU jn (qv 4) (aJ K (qv 5)) (bf _)))))) (ay (kg iO (by rfl) jA)) bF)
  (ai (pF K (qv 5) (qv 3) I0)
  (ai (pF K (qv 5) (qv 4) I0)
  (ay (cu (cI kG hr (qv 0) (af (PZ pL hr (af (qv 2) (af (aJ K (qv 5)) (af (qv 3) (af (qv 4) (af (aJ K (qv 5)) (af (aJ K (qv 5)) aq))))))) aq))))))))))),?_⟩
 refine ⟨_,Z,A.a,A.dx,_,Z,KY.h.oa,Z,_,Z,⟨⟨n,ρ,A,st,x,Z,KY.h,KY.wf.dh,fun hn=>dq.no 3 ?_,fun i p qq e1 e2 e3=>?_⟩⟩⟩
 . unfold jx;rw [aB (fun z=>?_)]
   obtain ⟨j,p,h1,h2⟩:=kU z
   exact hn p (cg h1) h2
 have eV:=cg e2
 have eg:bO st x=p:=cN KY.wf eV e1
 subst e1
 have hm:=Ax e2
 have eR:jx st p.nm y a we=match newR st y with
  | some i=>some i
  | none=>if a<1\/we<0 then some 5 else if p.wo<=a\/p.we<we then some 6 else none:=by unfold jx;rw [aD hm,eg];first|done|(cases newR st y <;> rfl)
 refine ⟨_,Z,A.a,A.dx,_,Z,KY.h.oa,Z,_,Z,⟨⟨n,ρ,A,st,y,Z,KY.h,hy0,fun i hi=>dq.no i (by rw [eR,hi]),fun hnew H1 g1=>?_⟩⟩⟩
 rw [hnew] at eR
 have eR:jx st p.nm y a we=if a<1\/we<0 then some 5 else if p.wo<=a\/p.we<we then some 6 else none:=eR
 have hh:=KY.mono g1
 obtain ⟨k1,k2,k3,k4⟩:=hh.h.opt i p qq e2 e3
 by_cases hb:a<1\/we<0
 . have rq:=dq.no 5 (by rw [eR,aD hb])
   refine ⟨true,⟨_,Z,_,_,Z,Z,_,Z,aQ (fun c=>⟨Z,Z⟩) fun c=>⟨_,Z,_,_,Z,Z,_,Z,bq (hb.resolve_left fun z=>c (bq z)),Z⟩⟩,mF fun y=>rq y H1 g1⟩
 rw [aB hb] at eR
 refine ⟨false,⟨_,Z,_,_,Z,Z,_,Z,aQ (fun c=>absurd (bg c) (by omega)) fun _=>⟨_,Z,_,_,Z,Z,_,Z,dw (by omega),Z⟩⟩,jg ?_⟩
 by_cases hb2:p.wo<=a\/p.we<we
 . have rq:=dq.no 6 (by rw [eR,aD hb2])
   refine ⟨true,⟨_,Z,_,Z,qq.1,T.part,qq.2.1,_,_,Z,k1,X.cP,X.uc,Z,_,_,Z,Z,_,Z,aQ (fun c=>⟨Z,Z⟩) fun c=>⟨_,Z,_,Z,qq.1,T.part,qq.2.1,_,_,Z,k1,X.cP,X.RN,Z,_,_,Z,Z,_,Z,bq (hb2.resolve_left fun z=>c (bq z)),Z⟩⟩,mF fun y=>rq y H1 g1⟩
 rw [aB hb2] at eR
 have q:=dq.ok eR
 refine ⟨false,⟨_,Z,_,Z,qq.1,T.part,qq.2.1,_,_,Z,k1,X.cP,X.uc,Z,_,_,Z,Z,_,Z,aQ (fun c=>absurd (bg c) (by show ¬ p.wo<=a;omega)) fun _=>⟨_,Z,_,Z,qq.1,T.part,qq.2.1,_,_,Z,k1,X.cP,X.RN,Z,_,_,Z,Z,_,Z,dw (by show ¬ p.we<we;omega),Z⟩⟩,jg ?_⟩
 refine ⟨_,Z,qq.1,T.part,qq.2.1,_,_,Z,k1,X.cP,X.uc,Z,_,Z,_,_,Z,Z,qq.2.1,_,k1,by show 6<1000;decide,?_⟩
 have wA:Wf (pC st p.nm fun p=>{ p with wo:=p.wo-a }):=zP hh.wf fun p' gF e=>by
  rw [tN hh.wf gF eV e];exact ⟨Z,Z,Z,Z,by show 1<=p.wo-a;omega,(hh.wf.jr p eV).2⟩
 have wB:Wf (pC st p.nm fun p=>{ p with wo:=p.wo-a,we:=p.we-we }):=zP hh.wf fun p' gF e=>by
  rw [tN hh.wf gF eV e];exact ⟨Z,Z,Z,Z,by show 1<=p.wo-a;omega,by show 0<=p.we-we;omega⟩
 have wS:=J5 hh.wf eR hl1 hl2
 have esA:pC st p.nm (fun p=>{ p with wo:=p.wo-a })={ st with aj:=st.aj.set i { p with wo:=p.wo-a } }:=qA hh.wf.dh e2 _
 have esB:pC st p.nm (fun p=>{ p with wo:=p.wo-a,we:=p.we-we })={ st with aj:=st.aj.set i { p with wo:=p.wo-a,we:=p.we-we } }:=qA hh.wf.dh e2 _
 have hi:i<st.aj.length:=(dO.mp e2).1
 have hA:=hh.h.i8 (p1:={ p with wo:=p.wo-a }) hh.g e2 e3 rfl rfl hh.wf.dh
 have gA:Gh ρ (upd H1 qq.1 (.ins T.part qq.2.1 (cQ { p with wo:=p.wo-a } qq.2.2))):=hh.g.wr rfl
 have FA:Fr n ρ H ρ (upd H1 qq.1 (.ins T.part qq.2.1 (cQ { p with wo:=p.wo-a } qq.2.2))):=(Fr.of_same g1).trans (Fr.write k3)
 have kA:upd H1 qq.1 (.ins T.part qq.2.1 (cQ { p with wo:=p.wo-a } qq.2.2)) qq.1=some (.ins T.part qq.2.1 (cQ { p with wo:=p.wo-a } qq.2.2)):=ah
 have nA:∀b,upd H1 qq.1 (.ins T.part qq.2.1 (cQ { p with wo:=p.wo-a } qq.2.2)) b=none->H b=none:=fun b h=>g1.free (gE h)
 show iB _ _ _ _ (upd H1 qq.1 (.ins T.part qq.2.1 (cQ { p with wo:=p.wo-a } qq.2.2)))
 generalize upd H1 qq.1 (.ins T.part qq.2.1 (cQ { p with wo:=p.wo-a } qq.2.2))=H2 at *
 refine ⟨_,Z,qq.1,T.part,qq.2.1,_,_,Z,kA,X.cP,X.RN,Z,_,Z,_,_,Z,Z,qq.2.1,_,kA,by show 6<1000;decide,?_⟩
 have hB:=hA.i8 (i:=i) (p1:={ p with wo:=p.wo-a,we:=p.we-we }) gA (p_ hi) e3 rfl rfl (by have:=wA.dh;rw [esA] at this;exact this)
 have Wg:(st.aj.set i { p with wo:=p.wo-a }).set i { p with wo:=p.wo-a,we:=p.we-we }=st.aj.set i { p with wo:=p.wo-a,we:=p.we-we }:=uW ..
 have gB:Gh ρ (upd H2 qq.1 (.ins T.part qq.2.1 (cQ { p with wo:=p.wo-a,we:=p.we-we } qq.2.2))):=gA.wr rfl
 have FB:Fr n ρ H ρ (upd H2 qq.1 (.ins T.part qq.2.1 (cQ { p with wo:=p.wo-a,we:=p.we-we } qq.2.2))):=FA.trans (Fr.write k3)
 have kB:upd H2 qq.1 (.ins T.part qq.2.1 (cQ { p with wo:=p.wo-a,we:=p.we-we } qq.2.2)) qq.1=some (.ins T.part qq.2.1 (cQ { p with wo:=p.wo-a,we:=p.we-we } qq.2.2)):=ah
 generalize hH3:upd H2 qq.1 (HO.ins T.part qq.2.1 (aW _ _ _))=H3
 have Vc:upd H2 qq.1 (.ins T.part qq.2.1 (cQ { p with wo:=p.wo-a,we:=p.we-we } qq.2.2))=H3:=hH3
 have nB:∀b,H3 b=none->H b=none:=fun b h=>nA b (gE (by rw [Vc];exact h))
 rw [Vc] at hB gB FB kB
 have pM:HH T n ρ A H3 (pC st p.nm fun p=>{ p with wo:=p.wo-a,we:=p.we-we }):=⟨gB,by rw [esB,<-Wg];exact hB,wB⟩
 obtain ⟨_,r3,_,_⟩:=hB.opt i { p with wo:=p.wo-a,we:=p.we-we } qq (by show ((st.aj.set i _).set i _)[i]?=_;rw [Wg];exact p_ hi) e3
 clear hA hB gA FA kA hH3 Vc
 refine ⟨_,Z,A.a,A.dx,_,Z,pM.h.oa,Z,_,Z,_,Z,qq.1,T.part,qq.2.1,_,_,Z,kB,X.cP,X.pow,Z,_,Z,_,Z,_,Z,qq.1,T.part,qq.2.1,_,_,Z,kB,X.cP,X.CH,Z,_,Z,qq.1,T.part,qq.2.1,_,_,Z,kB,X.cP,X.FG,Z,?_⟩
 intro v dv hv KZ hvd
 have Ds:upd (upd H3 dv (.own v)) v (.ins T.part dv []) qq.2.2=some (.lst (p.row.map V.int)):=by rw [au (aF r3 hv),au (aF r3 KZ)];exact r3
 refine ⟨⟨v,dv,qq.2.2,⟨y,p.ow,a,we,p.sc,p.row⟩,Z,ah,aK.of Ds,fun rr H6 hrr k6 hy6 U_=>⟨Z,?_⟩⟩⟩
 have KD:H3 rr=none:=gE (gE hrr)
 have g6:aO H3 H6:=fun b u e=>k6 b u (by rw [au (aF e hv),au (aF e KZ)];exact e) (aF e hv)
 have KG:=pM.mono g6
 have F6:=FB.trans (Fr.of_same (ρ:=ρ) g6)
 unfold pD at wS q
 rw [eg] at wS q
 exact ⟨⟨n,ρ,A,_,(v,dv,rr),_,Z,KG,hy6,U_,pM.g.none hv,pM.g.none KD,(l7 eR).2.1.2,wS,fun ρ' A' H' a1 a2 a3=>q ρ' A' H' a1 a2 (a3.fr F6 (nB _ hv) (nB _ KD))⟩⟩
abbrev mK:Stmt:=inClass (top 21) 26
abbrev ki:List Str:=["self","place"]
abbrev BJ:List Str:=ki.append ["own"]
theorem sW:aR BJ ki (aE mK):=dP
theorem AE {T:TC} (F:gI K T.hold "stake_top" "Hold.stake_top" mK f fd) (X:Txt K T) (dR:Mn P w K mg base 1 T.hold "whole" ja (wN T)) (gP:mg "sum"=none):Mn P w K mg base 2 T.hold "stake_top" ki (Dg T):=by
 refine F.oA sW fun cdv A outer s H vs Q E hr h=>?_
 obtain ⟨⟨n,ρ,A,st,k,rfl,h,ok,hk,q⟩⟩:=h
 refine ⟨_,(@c5.h _ _ _ (ai (aT (i:=2) sW.nd (bJ (ou K rfl) (by rfl) gP yL (af (CW (iU ["part","place"] [none,some 1] rfl (Aw (aJ K (qv 0))) (fun _ _ _ _=>(aY (i:=0) (show List.Nodup (["part","place"] :List Str) from by decide +kernel))) (fun _ _ _ _=>(aM jh (aM gk (aJ K (qv 0)) (aJ K (qv 0))) (aP (cU K) (aJ K (qv 0)) (qv 1)))) rfl (by rfl))) aq)))
  (ay (bB (aM cT (qv 2) (aM gk (lY dR hr (qv 0)) (aP (cU K) (aJ K (qv 0)) (qv 1)))))))),?_⟩
 have wf:=ok.wf
 have hl:=wf.lD
 refine ⟨A.ab,_,h.c_,fun o=>?_⟩
 refine ⟨_,Z,A.a,T.hold,A.dx,_,_,Z,dY h.c_ h.oa (fun k z=>by cases z),X.cH,X.hab,Z,A.ab,o,_,Z,ah,fun acc hacc=>?_⟩
 have el:=tL h.ql
 refine kq (n:=st.aj.length) 0 (fun i out H1=>aO (upd H A.ab (.eF o (.dK (bN st.aj A.qs)))) H1/\out=((st.aj.take i).map fun p:Pt=>p.wo*p.sc*p.row.getD k 0).map V.int) (by omega) ⟨aG hacc _,Z⟩ (fun i out H1 hi _ hp=>⟨hp.1 _ _ ah,by rw [el];exact hi⟩) (fun out H1 _ hp=>⟨hp.1 _ _ ah,by rw [el];exact aN _⟩) ?_ ?_
 . rintro i x out H1 H2 hi fY ha ⟨g,e⟩ ⟨rfl,kv,hkv,rfl⟩
   have ep:=bD hi
   have eV:=Ad hi
   obtain ⟨qq,eq,h1,h2,_⟩:=h.find ep
   rw [tK ep eq] at hkv
   cases hkv
   generalize st.aj[i]=p at *
   have hq:=g _ _ (dY h.c_ h1 (fun k z=>by cases z))
   have hrw:=g _ _ (dY h.c_ h2 (fun k z=>by cases z))
   have hkr:k<p.row.length:=by rw [wf.rows p eV];exact hk
   have s1:Jm.Sz 8000 p.sc:=Jm.Sz.lz (by have:=wf.oY p eV;have:=wf.d9;omega) (wf.oY p eV).2 wf.big
   have hr0:=wf.mG p eV _ (Gr hkr)
   have s2:Jm.Sz 8000 (p.row.getD k 0):=Jm.Sz.lz hr0.1 hr0.2 wf.big
   have s3:=(ok.wo p eV).mul s1
   have cm:IV p.wo p.sc:= .inl (by have:p.wo.natAbs<2 ^ 60:=ok.wo p eV;omega)
   refine ⟨_,Z,qq.1,T.part,qq.2.1,_,_,Z,hq,X.cP,X.uc,Z,_,Z,qq.1,T.part,qq.2.1,_,_,Z,hq,X.cP,X.CH,Z,_,_,Z,Z,cm,_,Z,qq.1,T.part,qq.2.1,_,_,Z,hq,X.cP,X.FG,Z,_,Z,qq.2.2,_,_,_,Z,Z,aK.of hrw,getD_at hkr,_,_,Z,Z,iS s3 s2,ha,g.cX hacc _,?_⟩
   rw [take_snoc ep,e,bR,bR]
   rfl
 rintro out H1 fY ha ⟨g,e⟩
 rw [cW] at e
 have hz:=g _ _ (ah (H:=H) (a:=A.ab) (o:= .eF o (.dK (bN st.aj A.qs))))
 have na:acc≠A.ab:=fun e=>by rw [e,hz] at ha;cases ha
 refine ⟨hz,acc,st.aj.map (fun p:Pt=>p.wo*p.sc*p.row.getD k 0),Z,aK.of (by rw [au na,ha,e]),?_⟩
 have g2:=qg h.c_ g
 generalize upd H1 A.ab (.dK (bN st.aj A.qs))=H2 at *
 have h2:=h.mono g2
 have hkc:k<st.bz.length:=by rw [wf.fV];exact hk
 refine ⟨_,Z,_,Z,A.a,A.dx,_,Z,h2.oa,Z,⟨⟨n,ρ,A,st,Z,h2,hl,fun H3 g3=>?_⟩⟩⟩
 have h3:=h2.mono g3
 exact ⟨_,Z,A.a,T.hold,A.dx,_,_,Z,h3.oa,X.cH,X.wM,Z,_,Z,A.cm,_,_,_,Z,Z,aK.of h3.gU,getD_at hkc,_,_,Z,Z, .inl (by have:(aC st).natAbs<2 ^ 60:=ok.wh;omega),_,_,Z,Z,q H3 (g2.trans g3)⟩
abbrev sL:Stmt:=inClass (top 21) 14
abbrev pS:List Str:=["self","owner"]
abbrev K0:List Str:=pS
theorem Hh:aR K0 pS (aE sL):=dP
theorem Hi {T:TC} (F:gI K T.hold "stake" "Hold.stake" sL f fd) (X:Txt K T) (jk:Mn P w K mg base 2 T.bot "over" ku (Ea T)) (n5:Mn P w K mg base 2 T.hold "stake_top" ki (Dg T)) (eW:Mn P w K mg base 1 T.hold "place_of" fG (Au T)):Mn P w K mg base 3 T.hold "stake" pS (Kl T):=by
 refine F.oA Hh fun cdv A outer s H vs Q E hr h=>?_
 obtain ⟨⟨n,ρ,A,st,o,rfl,h,ok,ho,q⟩⟩:=h
 refine ⟨_,(@c5.h _ _ _ (ay (bB (cI jk hr (aJ K (qv 0)) (af (cI n5 hr (qv 0) (af (cI eW hr (qv 0) (af (qv 1) aq)) aq)) aq))))),?_⟩
 have wf:=ok.wf
 refine ⟨_,Z,A.a,T.hold,A.dx,_,_,Z,h.oa,X.cH,X.vc,Z,A.bt,A.db,_,Z,h.iQ,Z,_,Z,A.a,A.dx,_,Z,h.oa,Z,_,Z,A.a,A.dx,_,Z,h.oa,Z,_,Z,⟨⟨n,ρ,A,st,o,Z,h,ho,?_⟩⟩⟩
 refine ⟨⟨n,ρ,A,st,st.own.idxOf o,Z,h,ok,yH ho,fun H1 g1=>?_⟩⟩
 have h1:=h.mono g1
 exact ⟨⟨A.bt,A.db,A.sp,A.kn,st.stp,st.prod,_,Z,h1.iQ,h1.kT,wf.oX,wf.ud,wf.big,fun r H2 g2 hr2=>q r H2 (g1.trans g2) hr2⟩⟩
abbrev qK:Stmt:=inClass (top 21) 17
abbrev nu:List Str:=["self"]
abbrev Hj:List Str:=nu
theorem EI:aR Hj nu (aE qK):=dP
theorem EJ {T:TC} (F:gI K T.hold "landed" "Hold.landed" qK f fd) (X:Txt K T) (fE:mg "list"=none):Mn P w K mg base 1 T.hold "landed" nu (Gu T):=by
 refine F.oA EI fun cdv A outer s H vs Q E hr h=>?_
 obtain ⟨⟨n,ρ,A,st,rfl,hh,q⟩⟩:=h
 obtain ⟨ws,hw,hA⟩:=hh.h.mC
 have hl:=hA.length
 have hal:=hh.wf.ue
 refine ⟨_,(@c5.h _ _ _ (ay (bB (iU ["name","owner","worth","shares"] [none,none,none,none] rfl (eT K (aJ K (qv 0))) (fun _ _ _ _=>(iu K (n:=4) rfl (cC (aY (i:=0) (show List.Nodup (["name","owner","worth","shares"] :List Str) from by decide +kernel)) (cC (aY (i:=1) (show List.Nodup (["name","owner","worth","shares"] :List Str) from by decide +kernel)) (cC (aY (i:=2) (show List.Nodup (["name","owner","worth","shares"] :List Str) from by decide +kernel)) (cC (aY (i:=3) (show List.Nodup (["name","owner","worth","shares"] :List Str) from by decide +kernel)) ir)))))) (fun _ _ _ _=>(iG (af (qv 0) (af (qv 1) (af (qv 2) (af (ia (iC K) (by rfl) fE yK (af (qv 3) aq)) aq)))))) rfl (by rfl))))),?_⟩
 refine ⟨_,Z,A.a,T.hold,A.dx,_,_,Z,hh.h.oa,X.cH,X.has,Z,A.as,Z,⟨_,aK.of hw⟩,fun acc hacc=>?_⟩
 refine wK (K:=K) (n:=ws.length) [0,1,2,3] (fun i out H1=>aO H H1/\j9 acc ρ H1 out (st.d_.take i)/\∀w∈out,∃t xs,w = .ref t/\H1 t=some (.tup xs)/\∀b,V.ref b∈xs->H b=none/\b≠acc) (by decide) (by omega) ⟨aG hacc _, .nil,fun w hw=>nomatch hw⟩ (fun i out H1 hi _ hp=>⟨ws,_,aK.of (hp.1 _ _ hw),bD hi⟩) (fun out H1 _ hp=>⟨ws,aK.of (hp.1 _ _ hw),aN _⟩) ?_ ?_
 . rintro i x out H1 H2 hi fY ha ⟨g,hL,hF⟩ ⟨rfl,hy⟩
   have ex:=hy ws (aK.of (g _ _ hw))
   obtain ⟨r,l,y,ss,rfl,ey,a1,a2,a3,a4⟩:=hA.get ex
   refine ⟨r,_,Z,dm.of (g _ _ a1),Z,_,Z,_,Z,_,Z,_,Z,l,ss,Z, .inl (aK.of (g _ _ a2)),fun l2 hl2=>⟨(iy 4),fun t ht=>?_⟩⟩
   have g2:=aG hl2 (.lst ss)
   have g3:=aG ht (.tup [.str y.nm, .str y.ow, .int y.wo, .ref l2])
   have hl3:upd H2 l2 (.lst ss) l2=some (.lst ss):=ah
   have c2:ρ l2=none:=hh.g.none (g.free hl2)
   have tu:=jO (o:= .lst (out++[.ref t])) (.inr ⟨_,(g2.trans g3) _ _ ha,Z⟩)
   refine ⟨(g2.trans g3) _ _ ha,((g.trans g2).trans g3).cX hacc _,?_,fun w hw=>?_⟩
   rotate_left
   . rcases gb.mp hw with z|z
     . obtain ⟨t',xs,e1,e2,e3⟩:=hF w z
       exact ⟨t',xs,e1,tu _ _ ((g2.trans g3) _ _ e2),e3⟩
     . rw [fU.mp z]
       refine ⟨t,_,Z,tu _ _ ah,fun b hb=>?_⟩
       have:b=l2:=by simpa using hb
       rw [this];exact ⟨g.free hl2,fun e=>by rw [e,ha] at hl2;cases hl2⟩
   rw [take_snoc ey]
   have n1:l2≠acc:=fun e=>by rw [e,ha] at hl2;cases hl2
   exact ((hL.mono (g2.trans g3)).snoc (x:=y) ah (g3 _ _ hl3) c2 n1 (a4.mono ((g.trans g2).trans g3).tups)).upd ((g2.trans g3) _ _ ha)
 rintro out H1 fY ha ⟨g,hL,hF⟩
 rw [hl,cW] at hL
 exact q acc out H1 g hacc ha hL.to hF
abbrev uJ:Stmt:=inClass (top 20) 1
abbrev vW:List Str:=["self"]
abbrev Mu:List Str:=vW
theorem K2:aR Mu vW (aE uJ):=dP
theorem K3 {T:TC} (F:gI K T.part "twin" "Part.twin" uJ f fd) (X:Txt K T) (pL:Cn P w K mg base 1 "Part" T.part ["self","name","owner","worth","weight","scale","row"] (As T K)):Mn P w K mg base 3 T.part "twin" vW (Oo T K):=by
 refine F.oA K2 fun cdv A outer s H vs Q E hr h=>?_
 obtain ⟨⟨a,d,r,p,rfl,ha,hr1,q⟩⟩:=h
 refine ⟨_,(@c5.h _ _ _ (ay (bB (PZ pL hr (af (aJ K (qv 0)) (af (aJ K (qv 0)) (af (aJ K (qv 0)) (af (aJ K (qv 0)) (af (aJ K (qv 0)) (af (aJ K (qv 0)) aq)))))))))),?_⟩
 refine ⟨_,Z,a,T.part,d,_,_,Z,ha,X.cP,X.RM,Z,_,Z,a,T.part,d,_,_,Z,ha,X.cP,X.pow,Z,_,Z,a,T.part,d,_,_,Z,ha,X.cP,X.uc,Z,_,Z,a,T.part,d,_,_,Z,ha,X.cP,X.RN,Z,_,Z,a,T.part,d,_,_,Z,ha,X.cP,X.CH,Z,_,Z,a,T.part,d,_,_,Z,ha,X.cP,X.FG,Z,?_⟩
 intro v dv hv KZ hvd
 have hr2:upd (upd H dv (.own v)) v (.ins T.part dv []) r=some (.lst (p.row.map V.int)):=by rw [au (aF hr1 hv),au (aF hr1 KZ)];exact hr1
 refine ⟨⟨v,dv,r,p,Z,ah,aK.of hr2,fun rr H2 hrr k2 hv2 afJ=>⟨Z,?_⟩⟩⟩
 have hrv:v≠rr:=fun e=>by rw [<-e,ah] at hrr;cases hrr
 exact q v dv rr H2 (fun b u e=>k2 b u (by rw [au (aF e hv),au (aF e KZ)];exact e) (aF e hv)) hv (gE (gE hrr)) hrv hv2 afJ
abbrev qL:Stmt:=inClass (top 4) 4
abbrev sM:List Str:=["self"]
abbrev Hl:List Str:=sM.append ["other"]
theorem xq:aR Hl sM (aE qL):=dP
theorem EK {T:TC} (F:gI K T.bot "twin" "Bottom.twin" qL f fd) (X:Txt K T) (qD:Cn P w K mg base 1 "Bottom" T.bot ["self"] (D8 T)) (fE:mg "list"=none):Mn P w K mg base 3 T.bot "twin" sM (Oq T K):=by
 refine F.oA xq fun cdv A outer s H vs Q E hr h=>?_
 obtain ⟨⟨bt,db,sp,kn,stp,prod,rfl,hb,hs,q⟩⟩:=h
 refine ⟨_,(@c5.h _ _ _ (ai (aT (i:=1) xq.nd (C0 qD hr))
  (ai (cK K (qv 1) (ia (iC K) (by rfl) fE yK (af (aJ K (qv 0)) aq)))
  (ai (cK K (qv 1) (aJ K (qv 0)))
  (ay (bB (qv 1))))))),?_⟩
 intro v dv hv KZ hvd
 refine ⟨⟨v,dv,Z,ah,fun s0 k0 H1 hs0 hk0 hsk k1 hv1 hs1 hk1=>⟨Z,?_⟩⟩⟩
 have g1:aO H H1:=fun b u e=>k1 b u (by rw [au (aF e hv),au (aF e KZ)];exact e) (aF e hv)
 have kv:k0≠v:=fun e=>by rw [e,ah] at hk0;cases hk0
 refine ⟨_,Z,bt,T.bot,db,_,_,Z,g1 _ _ hb,X.cB,X.RO,Z,sp,_,Z, .inl (aK.of (g1 _ _ hs)),fun s2 hs2=>?_⟩
 have g2:=aG hs2 (.lst (stp.map V.int))
 have s2v:upd H1 s2 (.lst (stp.map V.int)) s2=some (.lst (stp.map V.int)):=ah
 have v2:=g2 _ _ hv1
 have k2:=g2 _ _ hk1
 have b2:=g2 _ _ (g1 _ _ hb)
 have n1:s2≠v:=fun e=>by rw [e,hv1] at hs2;cases hs2
 have n2:s2≠k0:=fun e=>by rw [e,hk1] at hs2;cases hs2
 have nb:bt≠v:=aF hb hv
 generalize upd H1 s2 (.lst (stp.map V.int))=H2 at *
 refine ⟨_,Z,v,T.bot,dv,_,Z,v2,X.cB,X.RO,by show 3<1000;decide,?_⟩
 have b3:upd H2 v (.ins T.bot dv (jD s2 1 k0)) bt=some (.ins T.bot db (jD sp prod kn)):=by rw [au nb];exact b2
 have v3:upd H2 v (.ins T.bot dv (jD s2 1 k0)) v=some (.ins T.bot dv (jD s2 1 k0)):=ah
 have g3:aO H (upd H2 v (.ins T.bot dv (jD s2 1 k0))):=(g1.trans g2).cX hv _
 have s3:upd H2 v (.ins T.bot dv (jD s2 1 k0)) s2=some (.lst (stp.map V.int)):=by rw [au n1];exact s2v
 have k3:upd H2 v (.ins T.bot dv (jD s2 1 k0)) k0=some (.dK []):=by rw [au kv];exact k2
 show iB _ _ _ _ (upd H2 v (.ins T.bot dv (jD s2 1 k0)))
 generalize upd H2 v (.ins T.bot dv (jD s2 1 k0))=H3 at *
 refine ⟨_,Z,bt,T.bot,db,_,_,Z,b3,X.cB,X.FH,Z,_,Z,v,T.bot,dv,_,Z,v3,X.cB,X.FH,by show 3<1000;decide,?_⟩
 exact ⟨_,Z,q v dv s2 k0 _ (g3.cX hv _) hv (g1.free hs2) (gE (gE hk0)) (bU n1) (bU kv) n2 ah (by rw [au n1];exact s3) (by rw [au kv];exact k3)⟩
abbrev uK:Stmt:=inClass (top 21) 18
abbrev kH:List Str:=["self"]
abbrev Mv:List Str:=kH.append ["other"]
theorem z_:aR Mv kH (aE uK):=dP
theorem K4 {T:TC} (F:gI K T.hold "twin" "Hold.twin" uK f fd) (X:Txt K T) (xr:Cn P w K mg base 3 "Hold" T.hold ["self"] (D9 T)) (vX:Mn P w K mg base 3 T.part "twin" kH (Oo T K)) (sO:Mn P w K mg base 3 T.bot "twin" kH (Oq T K)) (sP:Mn P w K mg base 1 T.hold "landed" nu (Gu T)) (fE:mg "list"=none) (DC:mg "dict"=none):Mn P w K mg base 5 T.hold "twin" kH (Ot T):=by
 refine F.oA z_ fun cdv A outer s H vs Q E hr h=>?_
 obtain ⟨⟨n,m,ρ,A,st,rfl,hnm,hh,q⟩⟩:=h
 refine ⟨_,(@c5.h _ _ _ (ai (aT (i:=1) z_.nd (C0 xr hr))
  (ai (cK K (qv 1) (ia Dh (by rfl) DC PyProof.Rows.boot_dict (af (aJ K (qv 0)) aq)))
  (ai (cK K (qv 1) (CW (UX ["name","part"] [none,none] rfl (ya (aJ K (qv 0))) (fun _ _ _ _=>(iu K (n:=2) rfl (cC (aY (i:=0) (show List.Nodup (["name","part"] :List Str) from by decide +kernel)) (cC (aY (i:=1) (show List.Nodup (["name","part"] :List Str) from by decide +kernel)) ir)))) (fun _ _ _ _=>(qv 0)) (fun _ _ _ _=>(lY vX hr (qv 1))) rfl (by rfl))))
  (ai (cK K (qv 1) (lY sP hr (qv 0)))
  (ai (cK K (qv 1) (ia Dh (by rfl) DC PyProof.Rows.boot_dict (af (aJ K (qv 0)) aq)))
  (ai (cK K (qv 1) (lY sO hr (aJ K (qv 0))))
  (ai (cK K (qv 1) (ia (iC K) (by rfl) fE yK (af (aJ K (qv 0)) aq)))
  (ai (cK K (qv 1) (ia (iC K) (by rfl) fE yK (af (aJ K (qv 0)) aq)))
  (ay (bB (qv 1)))))))))))),?_⟩
 intro x dx hx hdx hne
 refine ⟨⟨x,dx,ρ,m,Z,ah,(hh.g.alloc hdx).alloc (by rw [au (bU hne)];exact hx),hh.g.none hx,fun ρ1 B1 H1 ea1 jb k1=>⟨Z,?_⟩⟩⟩
 have K1:Kept ρ H ρ1 H1:=fun b o e=>k1 b o (by rw [au (aF e hx),au (aF e hdx)];exact e) (aF e hx)
 have t1:jS T n m ρ H A st x ρ1 H1 B1 hs0:=⟨hnm,hx,hh.h.same ⟨fun b xs e=>(K1 b _ e).1,fun b t y o _ c e=>⟨(K1 b o e).1,(K1 b o e).2.trans c⟩⟩,jb.h,jb.g,K1,ea1⟩
 clear jb k1 K1 ea1 hdx hne
 refine ⟨_,Z,A.a,T.hold,A.dx,_,_,Z,t1.hs.oa,X.cH,X.hpl,Z,A.pl,_,Z,t1.hs.gQ,fun l hl=>?_⟩
 obtain ⟨e2,ρ2,t2⟩:=t1.fld (k:=1) (B':={ B1 with pl:=l }) hl rfl (fun h g e c=>h.Z5 g l st.own e c) rfl
 refine ⟨_,Z,x,T.hold,B1.dx,_,Z,e2,X.cH,X.hpl,by show 7<1000;decide,?_⟩
 show iB _ _ _ _ (upd (upd H1 l (.dK (fD 0 st.own))) x (.ins T.hold B1.dx (dI { B1 with pl:=l })))
 refine (fun (k:∀(r2:cR) (h2:Hp) (b2:HA),jS T n m ρ H A st x r2 h2 b2 ⟨st.own,[],[],[],[],1,0,[],[]⟩->iB _ _ _ _ h2)=>k _ _ _ t2) ?_
 clear t2
 intro ρ2 H2 B2 t2
 clear t1 e2 hl
 have hpl:=hh.wf.lD
 have nd:=hh.wf.dh
 refine ⟨A.ab,_,t2.hs.c_,fun ob=>?_⟩
 refine ⟨_,Z,A.a,T.hold,A.dx,_,_,Z,dY t2.hs.c_ t2.hs.oa (fun k z=>by cases z),X.cH,X.hab,Z,A.ab,ob,_,Z,ah,fun acc hacc=>?_⟩
 have Iw:H2 acc=none:=jE t2.hs.c_ hacc
 have KU:H acc=none:=t2.free Iw
 have nab:acc≠A.ab:=fun e=>by rw [e,ah] at hacc;cases hacc
 have el:=tL t2.hs.ql
 refine XH (K:=K) (n:=st.aj.length) [0,1] (fun i out Hc=>∃H5 ρ5 qs,Hc=upd H5 A.ab (.eF ob (.dK (bN st.aj A.qs)))/\jS T n m ρ H A st x ρ5 H5 B2 ⟨st.own,[],[],[],[],1,0,[],[]⟩/\ρ5 acc=none/\H5 acc=some (.dK out)/\out=bN (st.aj.take i) qs/\qs.length=i/\∀(j:Nat) (p:Pt) (y:Addr×Addr×Addr),(st.aj.take i)[j]?=some p->qs[j]?=some y->H5 y.1=some (.ins T.part y.2.1 (cQ p y.2.2))/\H5 y.2.2=some (.lst (p.row.map V.int))/\ρ5 y.1=some (m,20,p.nm)/\ρ5 y.2.2=some (m,21,p.nm))
  (by decide) (by omega) ⟨upd H2 acc (.dK []),ρ2,[],iE (bU nab),t2.same (aG Iw _),t2.g.none Iw,ah,Z,Z,fun j p y e=>by simp at e⟩ ?_ ?_ ?_ ?_
 . rintro i out Hc hi ha ⟨H5,ρ5,qs,rfl,_⟩
   exact ⟨ah,by rw [el];exact hi⟩
 . rintro out Hc ha ⟨H5,ρ5,qs,rfl,_⟩
   exact ⟨ah,by rw [el];exact aN _⟩
 . rintro i y out Hc H6 hi fY ha ⟨H5,ρ5,qs,rfl,t5,GB,a5,eo,ql,hq⟩ ⟨pp,kv,hpp,hkv,rfl,rfl⟩
   have ep:=bD hi
   generalize st.aj[i]=p at ep
   obtain ⟨qq,eq,k1,k2,k3,k4⟩:=t5.hs.find ep
   rw [tK ep eq] at hkv
   cases hkv
   have npl:pp≠A.ab:=fun e=>by rw [e,ah] at hpp;cases hpp
   have EE:H5 pp=none:=jE t5.hs.c_ hpp
   have e6:upd (upd H5 A.ab (.eF ob (.dK (bN st.aj A.qs)))) pp (.tup [.str p.nm, .ref qq.1])=upd (upd H5 pp (.tup [.str p.nm, .ref qq.1])) A.ab (.eF ob (.dK (bN st.aj A.qs))):=iE (bU npl)
   show ∃t vs,V.ref pp = .ref t/\dm K (upd (upd H5 A.ab (.eF ob (.dK (bN st.aj A.qs)))) pp (.tup [.str p.nm, .ref qq.1])) t vs/\vs.length=2/\IT 0 (c9 _ [0,1] vs) (upd (upd H5 A.ab (.eF ob (.dK (bN st.aj A.qs)))) pp (.tup [.str p.nm, .ref qq.1])) _
   rw [e6]
   have t6:=t5.same (aG EE (.tup [.str p.nm, .ref qq.1]))
   have g6:=aG EE (.tup [.str p.nm, .ref qq.1])
   have tt6:upd H5 pp (.tup [.str p.nm, .ref qq.1]) pp=some (.tup [.str p.nm, .ref qq.1]):=ah
   have a6:=g6 _ _ a5
   have k16:=g6 _ _ k1
   have k26:=g6 _ _ k2
   have GD:∀(j:Nat) (u:Pt) (y:Addr×Addr×Addr),(st.aj.take i)[j]?=some u->qs[j]?=some y->upd H5 pp (.tup [.str p.nm, .ref qq.1]) y.1=some (.ins T.part y.2.1 (cQ u y.2.2))/\upd H5 pp (.tup [.str p.nm, .ref qq.1]) y.2.2=some (.lst (u.row.map V.int))/\ρ5 y.1=some (m,20,u.nm)/\ρ5 y.2.2=some (m,21,u.nm):=fun j p' y' e1 e2=>by
    obtain ⟨z1,z2,z3,z4⟩:=hq j p' y' e1 e2
    exact ⟨by rw [au (aF z1 EE)];exact z1,by rw [au (aF z2 EE)];exact z2,z3,z4⟩
   clear e6 k1 k2 hq a5 hpp
   generalize upd H5 pp (.tup [.str p.nm, .ref qq.1])=H6 at t6 g6 tt6 a6 k16 k26 GD ⊢
   have fz:∀{b:Addr} {u:HO},H6 b=some u->(∀k,u ≠ .dK k)->upd H6 A.ab (.eF ob (.dK (bN st.aj A.qs))) b=some u:=fun e k=>dY t6.hs.c_ e k
   refine ⟨pp,_,Z,dm.of (fz tt6 (fun k z=>by cases z)),Z,_,Z,Sum.inr p.nm,Z,?_⟩
   refine ⟨_,Z,qq.1,qq.2.1,_,Z,fz k16 (fun k z=>by cases z),Z,⟨⟨qq.1,qq.2.1,qq.2.2,p,Z,fz k16 (fun k z=>by cases z),fz k26 (fun k z=>by cases z),fun v dv rr H7 g7 hv hrr hvr hv7 afK=>?_⟩⟩⟩
   have Gy:H7 A.ab=some (.eF ob (.dK (bN st.aj A.qs))):=g7 _ _ ah
   have bk:=qg t6.hs.c_ g7
   have SE:H6 v=none:=jE t6.hs.c_ hv
   have Ds:H6 rr=none:=jE t6.hs.c_ hrr
   have nv:v≠A.ab:=fun e=>by rw [e,ah] at hv;cases hv
   have nr:rr≠A.ab:=fun e=>by rw [e,ah] at hrr;cases hrr
   have av:acc≠v:=aF a6 SE
   have ar:acc≠rr:=aF a6 Ds
   have ha7:H7 acc=some (.dK out):=g7 _ _ (by rw [au nab];exact a6)
   have e7:H7=upd (upd H7 A.ab (.dK (bN st.aj A.qs))) A.ab (.eF ob (.dK (bN st.aj A.qs))):=by rw [kC,qh Gy]
   have v8:upd H7 A.ab (.dK (bN st.aj A.qs)) v=some (.ins T.part dv (cQ p rr)):=by rw [au nv];exact hv7
   have r8:upd H7 A.ab (.dK (bN st.aj A.qs)) rr=some (.lst (p.row.map V.int)):=by rw [au nr];exact afK
   have a8:upd H7 A.ab (.dK (bN st.aj A.qs)) acc=some (.dK out):=by rw [au nab];exact ha7
   have t8:=t6.same bk
   refine ⟨ha7,?_⟩
   rw [e7]
   generalize upd H7 A.ab (.dK (bN st.aj A.qs))=H8 at v8 r8 a8 t8 bk ⊢
   have t9:=t8.col (c:=(m,20,p.nm)) v8 rfl (t6.g.none SE) (t6.free SE)
   have Oz:=t9.col (c:=(m,21,p.nm)) r8 rfl (by rw [bu (bU hvr)];exact t6.g.none Ds) (t6.free Ds)
   have ca:cO (cO ρ5 v (m,20,p.nm)) rr (m,21,p.nm) acc=none:=by rw [bu ar,bu av];exact GB
   have vn:dM out (Sum.inr p.nm)=none:=by
    rw [eo]
    refine o7 fun p' gF e=>?_
    have h2:((st.aj.take (i+1)).map (·.nm)).Nodup:=nd.sublist ((O2 _ _).map _)
    rw [take_snoc ep,bR] at h2
    exact (O6.mp h2).2.2 p.nm (bH.mpr ⟨p',gF,e⟩) p.nm (fU.mpr rfl) rfl
   have el2:qs.length=(st.aj.take i).length:=by rw [nK];omega
   have Wh:putK out (Sum.inr p.nm) (.ref v)=bN (st.aj.take (i+1)) (qs++[(v,dv,rr)]):=by rw [lu _ vn,take_snoc ep,Jy el2,eo]
   rw [iE (bU nab)]
   refine ⟨upd H8 acc (.dK (putK out (Sum.inr p.nm) (.ref v))),_,qs++[(v,dv,rr)],Z,Oz.wrO ca a8 rfl rfl KU,ca,ah,Wh,by rw [dj,ql];rfl,fun j p' y' e1 e2=>?_⟩
   have wr:∀{b:Addr} {u:HO},H8 b=some u->b≠acc->upd H8 acc (.dK (putK out (Sum.inr p.nm) (.ref v))) b=some u:=fun e z=>by rw [au z];exact e
   rw [take_snoc ep] at e1
   by_cases cj:j<i
   . rw [yI (by rw [nK];omega)] at e1
     rw [yI (by omega)] at e2
     obtain ⟨z1,z2,z3,z4⟩:=GD j p' y' e1 e2
     have y1:y'.1≠acc:=fun e=>by rw [e,GB] at z3;cases z3
     have y2:y'.2.2≠acc:=fun e=>by rw [e,GB] at z4;cases z4
     exact ⟨wr (bk _ _ z1) y1,wr (bk _ _ z2) y2,by rw [bu (aF z1 Ds),bu (aF z1 SE)];exact z3,by rw [bu (aF z2 Ds),bu (aF z2 SE)];exact z4⟩
   . have hj:j=i:=by
      have:=(dO.mp e2).1
      rw [dj,ql] at this
      have:j<i+1:=this
      omega
     subst hj
     rw [BW (by rw [nK];omega),nK,show j-min j st.aj.length=0 by omega] at e1
     rw [BW (by omega),ql,Ah] at e2
     cases e1;cases e2
     exact ⟨wr v8 (bU av),wr r8 (bU ar),by rw [bu hvr,bY],bY⟩
 rintro out Hc ha ⟨H5,ρ5,qs,rfl,t5,GB,a5,eo,ql,hq⟩
 rw [cW] at eo hq
 subst eo
 refine ⟨ah,?_⟩
 rw [kC,qh t5.hs.c_]
 have t6:=t5.col (c:=(m,2,⟨#[]⟩)) a5 rfl GB KU
 have t7:=t6.set (o:= .ins T.hold B2.dx (dI { B2 with ab:=acc })) rfl (t6.ht.Z8 t6.g acc st.aj qs a5 bY ql (fun i p y e1 e2=>by
  obtain ⟨z1,z2,z3,z4⟩:=hq i p y e1 e2
  exact ⟨z1,z2,by rw [bu (fun e=>by rw [e,GB] at z3;cases z3)];exact z3,by rw [bu (fun e=>by rw [e,GB] at z4;cases z4)];exact z4⟩)) rfl
 refine ⟨_,Z,x,T.hold,B2.dx,_,Z,t5.ea▸t5.ht.oa,X.cH,X.hab,by show 7<1000;decide,?_⟩
 show iB _ _ _ _ (upd H5 x (.ins T.hold B2.dx (dI { B2 with ab:=acc })))
 refine (fun (k:∀(r2:cR) (h2:Hp) (b2:HA),jS T n m ρ H A st x r2 h2 b2 ⟨st.own,st.aj,[],[],[],1,0,[],[]⟩->iB _ _ _ _ h2)=>k _ _ _ t7) ?_
 clear t7
 intro ρ7 H7 B7 t7
 clear t2 t5 t6 hq a5 GB hacc Iw ha
 refine ⟨_,Z,A.a,A.dx,_,Z,t7.hs.oa,Z,⟨⟨n,ρ7,A,st,Z,⟨t7.g,t7.hs,hh.wf⟩,fun r ws H8 g8 hr0 hr1 hL hF=>?_⟩⟩⟩
 have t8:=t7.same g8
 obtain ⟨ρ9,t9,hA9,SG⟩:=UY t8 hL (fun b ss _ _ ⟨w,hw,t,xs,e1,e2,e3⟩=>by
  obtain ⟨t',xs',f1,f2,f3⟩:=hF w hw
  rw [e1] at f1;cases f1
  rw [e2] at f2;cases f2
  exact t7.free (f3 b e3).1)
 have cr:ρ9 r=none:=by
  rcases SG r with z|⟨_,_,w,hw,t,xs,e1,e2,e3⟩
  . rw [z];exact t7.g.none hr0
  . obtain ⟨t',xs',f1,f2,f3⟩:=hF w hw
    rw [e1] at f1;cases f1
    rw [e2] at f2;cases f2
    exact absurd rfl (f3 r e3).2
 have Oz:=t9.col (c:=(m,3,⟨#[]⟩)) hr1 rfl cr (t7.free hr0)
 have K5:=Oz.set (o:= .ins T.hold B7.dx (dI { B7 with as:=r })) rfl (Oz.ht.Z7 Oz.g r st.d_ hr1 bY (hA9.keep (ts:=fun _=>true) ⟨fun _ _ e=>e,fun b u y w _ hc he=>⟨he,by rw [bu (fun z=>by rw [z,cr] at hc;cases hc)];exact hc⟩⟩ rfl)) rfl
 refine ⟨_,Z,x,T.hold,B7.dx,_,Z,t7.ea▸t8.ht.oa,X.cH,X.has,by show 7<1000;decide,?_⟩
 show iB _ _ _ _ (upd H8 x (.ins T.hold B7.dx (dI { B7 with as:=r })))
 refine (fun (k:∀(r2:cR) (h2:Hp) (b2:HA),jS T n m ρ H A st x r2 h2 b2 ⟨st.own,st.aj,st.d_,[],[],1,0,[],[]⟩->iB _ _ _ _ h2)=>k _ _ _ K5) ?_
 clear K5
 intro ρ11 AX Wi K5
 clear t7 t8 t9 Oz hA9 SG hL hF hr0 hr1 g8 cr
 refine ⟨_,Z,A.a,T.hold,A.dx,_,_,Z,K5.hs.oa,X.cH,X.hnm,Z,A.nm,_,Z,K5.hs.mD,fun l hl=>?_⟩
 obtain ⟨e2,ρ12,sX⟩:=K5.fld (k:=4) (B':={ Wi with nm:=l }) hl rfl (fun h g e c=>h.Z6 g l st.nms e c) rfl
 refine ⟨_,Z,x,T.hold,Wi.dx,_,Z,e2,X.cH,X.hnm,by show 7<1000;decide,?_⟩
 show iB _ _ _ _ (upd (upd AX l (.dK (wL st.nms))) x (.ins T.hold Wi.dx (dI { Wi with nm:=l })))
 refine (fun (k:∀(r2:cR) (h2:Hp) (b2:HA),jS T n m ρ H A st x r2 h2 b2 ⟨st.own,st.aj,st.d_,st.nms,[],1,0,[],[]⟩->iB _ _ _ _ h2)=>k _ _ _ sX) ?_
 clear sX
 intro ρ12 SH SI sX
 clear K5 e2 hl
 refine ⟨_,Z,A.a,T.hold,A.dx,_,_,Z,sX.hs.oa,X.cH,X.vc,Z,A.bt,A.db,_,Z,sX.hs.iQ,Z,⟨⟨A.bt,A.db,A.sp,A.kn,st.stp,st.prod,Z,sX.hs.iQ,sX.hs.kT,fun b2 d2 s2 k2 Du OA hb hs hk n1 n2 n3 e1 e2 e3=>?_⟩⟩⟩
 have t13:=sX.same OA
 have t14:=t13.col (c:=(m,5,⟨#[]⟩)) e1 rfl (sX.g.none hb) (sX.free hb)
 have t15:=t14.col (c:=(m,8,⟨#[]⟩)) e2 rfl (by rw [bu (bU n1)];exact sX.g.none hs) (sX.free hs)
 have Wj:=t15.col (c:=(m,9,⟨#[]⟩)) e3 rfl (by rw [bu (bU n3),bu (bU n2)];exact sX.g.none hk) (sX.free hk)
 have K6:=Wj.set (o:= .ins T.hold SI.dx (dI { SI with bt:=b2 })) rfl (Wj.ht.Z9 Wj.g b2 d2 s2 k2 st.stp st.prod e1 e2 e3 (by rw [bu n2,bu n1,bY]) (by rw [bu n3,bY]) bY) rfl
 refine ⟨_,Z,x,T.hold,SI.dx,_,Z,sX.ea▸t13.ht.oa,X.cH,X.vc,by show 7<1000;decide,?_⟩
 show iB _ _ _ _ (upd Du x (.ins T.hold SI.dx (dI { SI with bt:=b2 })))
 refine (fun (k:∀(r2:cR) (h2:Hp) (b2:HA),jS T n m ρ H A st x r2 h2 b2 ⟨st.own,st.aj,st.d_,st.nms,st.stp,st.prod,0,[],[]⟩->iB _ _ _ _ h2)=>k _ _ _ K6) ?_
 clear K6
 intro ρ17 KJ Wl K6
 clear sX t13 t14 t15 Wj
 refine ⟨_,Z,A.a,T.hold,A.dx,_,_,Z,K6.hs.oa,X.cH,X.wM,Z,A.cm,_,Z, .inl (aK.of K6.hs.gU),fun l hl=>?_⟩
 obtain ⟨f2,ρ18,OB⟩:=K6.fld (k:=6) (B':={ Wl with cm:=l }) hl rfl (fun h g e c=>h.RL g l st.bz e c) rfl
 refine ⟨_,Z,x,T.hold,Wl.dx,_,Z,f2,X.cH,X.wM,by show 7<1000;decide,?_⟩
 show iB _ _ _ _ (upd (upd KJ l (.lst (st.bz.map V.int))) x (.ins T.hold Wl.dx (dI { Wl with cm:=l })))
 refine (fun (k:∀(r2:cR) (h2:Hp) (b2:HA),jS T n m ρ H A st x r2 h2 b2 ⟨st.own,st.aj,st.d_,st.nms,st.stp,st.prod,0,st.bz,[]⟩->iB _ _ _ _ h2)=>k _ _ _ OB) ?_
 clear OB
 intro ρ18 H18 B18 OB
 clear K6 f2 hl
 refine ⟨_,Z,A.a,T.hold,A.dx,_,_,Z,OB.hs.oa,X.cH,X.zf,Z,A.pu,_,Z, .inl (aK.of OB.hs.jq),fun l hl=>?_⟩
 obtain ⟨f2,ρ19,Wm⟩:=OB.fld (k:=7) (B':={ B18 with pu:=l }) hl rfl (fun h g e c=>h.Jv g l st.bL e c) rfl
 refine ⟨_,Z,x,T.hold,B18.dx,_,Z,f2,X.cH,X.zf,by show 7<1000;decide,_,Z,?_⟩
 have:=q ρ19 _ _ ⟨Wm.g,Wm.ht,Ip hh.wf (gh _)⟩ Wm.k
 rw [Wm.ea] at this
 exact this
abbrev uL:Stmt:=top 26
abbrev gY:List Str:=["_law_script","_law_k","_law_j","_law_many"]
abbrev Mw:List Str:=gY.append ["_law_cell","_law_turn","_law_rest","_law_step","_law_one","_law_two"]
theorem fj:aR Mw gY (aE uL):=dP
theorem K7 (F:At K mg "_law_draw" uL f fd) (bZ:mg "len"=none) (cZ:mg "range"=none):Dn P w K mg base 1 "_law_draw" gY (rJ K):=by
 refine F.oA fj fun cdv A outer s H vs Q E hr h=>?_
 obtain ⟨⟨a,ns,k,j,many,rfl,hS,h63,hk,hj,hj2,hm,q⟩⟩:=h
 refine ⟨_,(@c5.h _ _ _ (ai (aT (i:=4) fj.nd ak)
  (ai (aT (i:=5) fj.nd ak)
  (ai (i9 (aU jn (bJ (di K) (by rfl) bZ fQ (af (qv 0) aq)) ak (bf _)) (ai (aT (i:=4) fj.nd (aP (cU K) (qv 0) (aM ko (qv 1) (bJ (di K) (by rfl) bZ fQ (af (qv 0) aq)))))
  (ay (aT (i:=5) fj.nd (aM i7 (qv 1) (bJ (di K) (by rfl) bZ fQ (af (qv 0) aq)))))) bF)
  (ai (aT (i:=6) fj.nd (qv 4))
  (ai (fK gc rfl (lI (by rfl) cZ (af (qv 2) aq)) (aY (i:=7) fj.nd) (ay (aT (i:=6) fj.nd (aM i7 (qv 6) (aM mP ak ak)))))
  (ai (cL (kD (bW.pt (rQ (aU dS (qv 5) ak (bf _)) (rQ (aU Ij (qv 4) (aM mP ak ak) (bf _)) (tQ (aU jn (qv 6) ak (bf _))))))) (ay (bB (aM ko (aM ko (qv 6) (aM mP ak ak)) (qv 3)))) bF)
  (ai (aT (i:=8) fj.nd (aM ko (aM cT (aM cT (aM cT (aM gk (qv 4) ak) (aM gk (qv 1) ak)) (aM gk (qv 2) ak)) ak) ak))
  (ai (aT (i:=9) fj.nd (aM ko (aM cT (aM gk (qv 8) ak) (aM i7 (qv 4) ak)) ak))
  (ai (aT (i:=9) fj.nd (aM ko (aM cT (aM gk (qv 9) (aM cT (aM ko (qv 8) ak) ak)) (qv 2)) ak))
  (ay (bB (aM ko (aM ko (aM cT (aM cT (aM gk (qv 8) ak) (aM gk (qv 9) ak)) (aM i7 (qv 9) ak)) ak) (qv 3)))))))))))))),?_⟩
 have hl:(ns.map V.int).length=ns.length:=aH _
 refine ⟨fun σ H'=>H'=H/\σ=[some (.ref a),some (.int k),some (.int j),some (.int many),some (.int (Jm.cellOf ns k)),some (.int (Jm.yW ns k)),none,none,none,none],?_,?_⟩
 . refine ⟨_,Z,a,_,Z, .inl hS,_,_,Z,Z,_,Z,?_⟩
   refine aQ (fun c=>?_) (fun c=>?_)
   . have c':0<(((ns.map V.int).length:Nat):Int):=bg c
     rw [hl] at c'
     have i0:0<=k % (ns.length:Int):=oK _ (by omega)
     have i1:k % (ns.length:Int)<(ns.length:Int):=yO _ c'
     refine ⟨_,Z,_,Z,_,Z,a,_,Z, .inl hS,_,_,Z,Z,(by show (0:Int)<_;rw [hl];exact c'),a,_,_, .int (ns.getD (k % ns.length).toNat 0),Z,Z,hS,?_,?_⟩
     . rw [hl]
       exact WY i0 i1
     refine ⟨_,Z,_,Z,a,_,Z, .inl hS,_,_,Z,Z,Ua (n:=10) (by rw [hl];exact c') (by rw [hl];omega) (by decide),Z,?_⟩
     unfold Jm.cellOf Jm.yW
     rw [aD c',aD c',hl]
     rfl
   . have c':¬ 0<(((ns.map V.int).length:Nat):Int):=tT (qa.mpr c)
     rw [hl] at c'
     refine ⟨Z,?_⟩
     unfold Jm.cellOf Jm.yW
     rw [aB c',aB c']
     rfl
 rintro σ H' ⟨rfl,rfl⟩
 generalize ec:Jm.cellOf ns k=cell at *
 generalize et:Jm.yW ns k=turn at *
 refine ⟨_,Z,_,Z,j,Z,by omega,hj2,?_⟩
 refine lg (lo:=0) (n:=j.toNat) (fun i σ CN=>CN=H'/\∃st:Option V,σ=[some (.ref a),some (.int k),some (.int j),some (.int many),some (.int cell),some (.int turn),some (.int (Jm.Cr cell i)),st,none,none]) ⟨Z,none,Z⟩ ?_ ?_
 . rintro i σ CN hi ⟨rfl,st,rfl⟩
   refine ⟨_,Z,_,_,Z,Z,⟨by decide,by decide,by decide⟩,_,_,Z,Z,yV (by decide +kernel),Z,?_⟩
   exact ⟨_,Z⟩
 rintro σ CN ⟨rfl,st,rfl⟩
 have full:Q (.int (Jm.draw ns k j many)) CN:=q
 unfold Jm.draw at full
 rw [ec,et] at full
 generalize er:Jm.Cr cell j.toNat=rest at *
 refine ⟨decide (turn=0/\1000000000000000000<=cell/\0<rest),?_,?_⟩
 . refine ⟨_,Z,Z,_,Z,?_⟩
   by_cases h1:turn=0
   . rw [bq (by rw [h1] :V.int turn=V.int 0)]
     refine mF ⟨_,Z,_,_,Z,Z,⟨by decide,by decide,by decide⟩,_,_,Z,Z,_,Z,?_⟩
     by_cases h2:1000000000000000000<=cell
     . rw [bq (show (10:Int) ^ (18:Int).toNat<=cell from h2)]
       refine mF ⟨_,Z,_,_,Z,Z,_,Z,?_,Z⟩
       by_cases h3:0<rest
       . rw [bq h3,bq ⟨h1,h2,h3⟩]
       . rw [dw h3,dw fun z=>h3 z.2.2]
     . rw [dw (show ¬ (10:Int) ^ (18:Int).toNat<=cell from h2)]
       exact jg ⟨(dw fun z=>h2 z.2.1).symm,Z⟩
   . rw [dw (fun z=>h1 (V.int.inj z))]
     exact jg ⟨(dw fun z=>h1 z.1).symm,Z⟩
 by_cases h:turn=0/\1000000000000000000<=cell/\0<rest
 . rw [bq h]
   rw [aD h] at full
   refine mF ⟨_,Z,_,_,Z,Z,⟨by decide,by decide,by decide⟩,_,_,Z,Z,(by show (0:Int)<_;decide),_,Z,_,_,Z,Z,hm,?_⟩
   exact full
 . rw [dw h]
   rw [aB h] at full
   refine jg ?_
   refine ⟨_,Z,_,_,Z,Z, .inr ⟨by decide,by decide⟩,_,Z,_,_,Z,Z, .inr ⟨by decide,by decide⟩,_,_,Z,Z,_,Z,_,_,Z,Z, .inr ⟨by decide,by decide⟩,_,_,Z,Z,_,_,Z,Z,_,_,Z,Z,(by show (0:Int)<_;decide),?_⟩
   refine ⟨_,Z,_,_,Z,Z, .inr ⟨by decide,by decide⟩,_,Z,_,_,Z,Z,yV (by decide +kernel),_,_,Z,Z,_,_,Z,Z,(by show (0:Int)<_;decide),?_⟩
   unfold Jm.mixed at full
   dsimp only at full ⊢
   generalize e1:(cell*7919+k*104729+j*1299709+31) % 1000000007=one at *
   generalize e2:(one*48271+cell / 1009) % 998244353=two at *
   have b1:0<=one % 9973:=oK _ (by decide)
   have b2:one % 9973<9973:=yO _ (by decide)
   refine ⟨_,Z,_,Z,_,_,Z,Z,(by show (0:Int)<_;decide),_,_,Z,Z,_,_,Z,Z, .inr ⟨by omega,by omega⟩,_,Z,_,_,Z,Z,_,_,Z,Z,(by show (0:Int)<_;decide),?_⟩
   refine ⟨_,Z,_,_,Z,Z, .inr ⟨by decide,by decide⟩,_,Z,_,_,Z,Z, .inr ⟨by decide,by decide⟩,_,_,Z,Z,_,Z,_,_,Z,Z,yV (by decide +kernel),_,_,Z,Z,_,_,Z,Z,(by show (0:Int)<_;decide),_,Z,_,_,Z,Z,hm,?_⟩
   exact full
abbrev uM:Stmt:=top 27
abbrev rB:List Str:=["_law_code","_law_size"]
abbrev My:List Str:=rB.append ["_law_word","_law_at_here"]
theorem lO:aR My rB (aE uM):=dP
theorem K8 (F:At K mg "_law_name" uM f fd) (cZ:mg "range"=none):Dn P w K mg base 1 "_law_name" rB D4:=by
 refine F.oA lO fun cdv A outer s H vs Q E hr h=>?_
 obtain ⟨⟨c,n,rfl,hc,hn,q⟩⟩:=h
 refine ⟨_,(@c5.h _ _ _ (ai (aT (i:=2) lO.nd bK)
  (ai (fK gc rfl (lI (by rfl) cZ (af (qv 1) aq)) (aY (i:=3) lO.nd) (ai (aT (i:=2) lO.nd (aM Pc (qv 2) (aP Q5 bK (aM ko (qv 0) ak))))
  (ay (aT (i:=0) lO.nd (aM i7 (qv 0) ak)))))
  (ay (bB (qv 2)))))),?_⟩
 refine ⟨_,Z,_,Z,by omega,by omega,?_⟩
 refine lg (lo:=0) (n:=(n:Int).toNat) (fun i σ H'=>H'=H/\∃(s1:Option V),σ=[some (.int (c / 26 ^ i)),some (.int n),some (.str (tx (kQ c i))),s1]) ⟨Z,none,by rw [Int.pow_zero,B8];rfl⟩ ?_ ?_
 . rintro i σ H' hi ⟨rfl,s1,rfl⟩
   have hp:(0:Int)<26 ^ i:=Int.pow_pos (by decide)
   have hd0:0<=c / 26 ^ i:=Ib hc (Int.le_of_lt hp)
   have hm0:0<=c / 26 ^ i % 26:=oK _ (by decide)
   have hm1:c / 26 ^ i % 26<26:=yO _ (by decide)
   refine ⟨_,Z,_,Z,_,_,Z,Z,(by show (0:Int)<26;decide),_,_,_,Z,Z,(by decide +kernel),Rw hm0 hm1,?_⟩
   refine ⟨_,_,Z,Z,?_,?_⟩
   . rw [yZ,xR]
     show i+1<=sizeLine
     exact B0 (dH (by omega))
   refine ⟨_,Z,_,_,Z,Z,xO (by decide) (oU (by decide +kernel)),Z,some (.int ((0:Int)+(i:Int))),?_⟩
   have e1:c / 26 ^ i / 26=c / 26 ^ (i+1):=by rw [Int.ediv_ediv_of_nonneg (Int.le_of_lt hp),Int.pow_succ]
   have e2:(tx (kQ c i)++tx [97+(c / 26 ^ i % 26).toNat] :Str)=tx (kQ c (i+1)):=by rw [Y4,Ui]
   rw [<-e1,<-e2]
   rfl
 rintro σ H' ⟨rfl,s1,rfl⟩
 refine ⟨_,Z,?_⟩
 rw [tU]
 exact q
abbrev sQ:Stmt:=top 28
abbrev pT:List Str:=["_law_script","_law_k","_law_many"]
abbrev K9:List Str:=pT.append ["_law_alike","_law_size","_law_first","_law_shift","_law_at_here","_law_names_here","_law_code"]
theorem dF:aR K9 pT (aE sQ):=dP
theorem Ho (F:At K mg "_law_names" sQ f fd) (a_:Dn P w K mg base 1 "_law_draw" gY (rJ K)) (rC:Dn P w K mg base 1 "_law_name" rB D4) (cZ:mg "range"=none):Dn P w K mg base 2 "_law_names" pT (D5 K):=by
 refine F.oA dF fun cdv A outer s H vs Q E hr h=>?_
 obtain ⟨⟨a,ms,k,many,rfl,hS,h63,hk,hm,q⟩⟩:=h
 refine ⟨_,(@c5.h _ _ _ (ai (aT (i:=3) dF.nd (wX dS (bX a_ hr (af (qv 0) (af (qv 1) (af ak (af ak aq))))) ak (bf _)))
  (ai (aT (i:=4) dF.nd (aM cT ak (bX a_ hr (af (qv 0) (af (qv 1) (af ak (af ak aq)))))))
  (ai (aT (i:=5) dF.nd (bX a_ hr (af (qv 0) (af (qv 1) (af ak (af (aM mP ak ak) aq))))))
  (ai (aT (i:=6) dF.nd ak)
  (ai (i9 (wU (qv 3)) (ay (fK gc rfl (lI (by rfl) cZ (af (bX a_ hr (af (qv 0) (af (qv 1) (af ak (af (qv 4) aq))))) aq)) (aY (i:=7) dF.nd) (ay (aT (i:=6) dF.nd (aM gk (qv 6) ak))))) bF)
  (ai (aT (i:=8) dF.nd (iH aq))
  (ai (fK gc rfl (lI (by rfl) cZ (af (qv 2) aq)) (aY (i:=7) dF.nd) (ai (aT (i:=9) dF.nd (aM cT (qv 5) (aM gk (qv 6) (bX a_ hr (af (qv 0) (af (qv 1) (af (aM cT ak (aM gk ak (qv 7))) (af ak aq))))))))
  (ai (i9 (J0 (wU (qv 3))) (ai (aT (i:=4) dF.nd (aM cT ak (bX a_ hr (af (qv 0) (af (qv 1) (af (aM cT ak (aM gk ak (qv 7))) (af ak aq)))))))
  (ay (aT (i:=9) dF.nd (bX a_ hr (af (qv 0) (af (qv 1) (af (aM cT ak (aM gk ak (qv 7))) (af (aM mP ak ak) aq)))))))) bF)
  (ai (JX gc (aU Q7 (bX rC hr (af (qv 9) (af (qv 4) aq))) (qv 8) (by with_unfolding_all rfl)) (ay (aT (i:=9) dF.nd (aM cT (qv 9) (qv 6)))))
  (ay (cu (j_ nG nE nF dX (qv 8) (af (bX rC hr (af (qv 9) (af (qv 4) aq))) aq))))))))
  (ay (bB (qv 8))))))))))),?_⟩
 have P10:TF 10 10:=⟨by decide,by decide,by decide +kernel⟩
 refine ⟨_,Z,_,Z,c6 hS h63 hk (by decide) (by decide) (by decide) fun al _ _ _=>⟨Z,?_⟩⟩
 refine ⟨_,Z,_,Z,c6 hS h63 hk (by decide) (by decide) (by decide) fun sd _ s0 s1=>⟨_,_,Z,Z,?_⟩⟩
 refine ⟨_,Z,_,Z,_,_,Z,Z,P10,c6 hS h63 hk (by decide) (by decide) (by decide +kernel) fun fc _ f0 f1=>?_⟩
 generalize hal:decide (V.int al=V.int 0)=alike
 obtain ⟨n0,en0⟩:∃n:Nat,1+sd=(n:Int):=⟨(1+sd).toNat,by omega⟩
 refine ⟨fun σ H'=>H'=H/\∃(d:Nat) (s7:Option V),(alike=true->d<n0)/\(alike=false->d=0)/\d<8/\σ=[some (.ref a),some (.int k),some (.int many),some (.bl alike),some (.int (1+sd)),some (.int fc),some (.int ((26:Int) ^ d)),s7,none,none],?_,?_⟩
 . refine ⟨_,Z,_,Z,aQ (fun c=>?_) (fun c=>?_)⟩
   . refine ⟨_,Z,_,Z,_,Z,c6 hS h63 hk (by decide) (by decide) (by omega) fun dd _ d0 d1=>⟨dd,Z,by omega,by omega,?_⟩⟩
     refine lg (lo:=0) (n:=dd.toNat) (fun i σ H'=>H'=H/\∃s7:Option V,σ=[some (.ref a),some (.int k),some (.int many),some (.bl alike),some (.int (1+sd)),some (.int fc),some (.int ((26:Int) ^ i)),s7,none,none]) ⟨Z,none,Z⟩ ?_ ?_
     . rintro i σ H' hi ⟨rfl,s7,rfl⟩
       refine ⟨_,Z,_,_,Z,Z, .inr ⟨by decide,by decide⟩,Z,some (.int ((0:Int)+(i:Int))),?_⟩
       rw [Int.pow_succ]
       rfl
     . rintro σ H' ⟨rfl,s7,rfl⟩
       exact ⟨Z,dd.toNat,s7,fun _=>by omega,fun z=>absurd c (by rw [z];exact fH),by omega,Z⟩
   . exact ⟨Z,0,none,fun z=>absurd z c,fun _=>rfl,by decide,Z⟩
 rintro σ H' ⟨rfl,d,s7,hd1,hd2,hd8,rfl⟩
 refine ⟨(iy 0),fun pn hpn=>?_⟩
 have g0:=aG hpn (.lst [])
 refine ⟨_,Z,(many:Int),Z,by omega,by omega,?_⟩
 refine lg (lo:=0) (n:=(many:Int).toNat) (fun i σ H2=>aO H' H2/\∃(nss:List (List Nat)) (n:Nat) (s1 s2:Option V),d<n/\n<=8/\σ=[some (.ref a),some (.int k),some (.int many),some (.bl alike),some (.int (n:Int)),some (.int fc),some (.int ((26:Int) ^ d)),s1,some (.ref pn),s2]/\H2 pn=some (.lst (rL nss))/\nss.length=i/\nss.Nodup/\∀x∈nss,oV x)
  ⟨g0,[],n0,s7,none,?_,by omega,by rw [<-en0];rfl,ah,Z,s_,fun _ m=>nomatch m⟩ ?_ ?_
 . cases alike with
   | true=>exact hd1 rfl
   | false=>rw [hd2 rfl];omega
 . rintro i σ H2 hi ⟨g,nss,n,s1,s2,hdn,OC,rfl,hn,hnl,hnd,hok⟩
   have hsl:(rL nss).length=i:=by unfold rL;rw [aH];exact hnl
   have hSg:=g.seq hS
   have hp:(0:Int)<26 ^ d:=Int.pow_pos (by decide)
   have hp8:(26:Int) ^ d<2 ^ 64:=by
    rcases (by omega:d=0\/d=1\/d=2\/d=3\/d=4\/d=5\/d=6\/d=7) with e|e|e|e|e|e|e|e <;> (rw [e];decide +kernel)
   refine ⟨_,Z,_,Z,_,Z,_,Z,_,Z,_,_,Z,Z, .inl ⟨by decide,by decide⟩,_,_,Z,Z,c6 hSg h63 hk (by omega) (by omega) (by decide) fun cd _ c0 c1=>⟨_,_,Z,Z, .inl ⟨by omega,hp8⟩,_,_,Z,Z,?_⟩⟩
   have hcode:0<=fc+26 ^ d*cd:=Int.add_nonneg f0 (oM (Int.le_of_lt hp) c0)
   refine ⟨fun σ H3=>H3=H2/\∃(n:Nat) (c:Int),0<=c/\d<n/\n<=8/\σ=[some (.ref a),some (.int k),some (.int many),some (.bl alike),some (.int (n:Int)),some (.int fc),some (.int ((26:Int) ^ d)),some (.int ((0:Int)+(i:Int))),some (.ref pn),some (.int c)],?_,?_⟩
   . refine ⟨_,Z,_,Z,?_⟩
     cases hb:alike with
     | true=>exact jg ⟨Z,n,_,hcode,hdn,OC,Z⟩
     | false=>
       refine mF ?_
       have hd0:=hd2 hb
       refine ⟨_,Z,_,Z,_,Z,_,_,Z,Z, .inl ⟨by decide,by decide⟩,_,_,Z,Z,c6 hSg h63 hk (by omega) (by omega) (by decide) fun zd _ z0 z1=>⟨_,_,Z,Z,?_⟩⟩
       refine ⟨_,Z,_,Z,_,Z,_,_,Z,Z, .inl ⟨by decide,by decide⟩,_,_,Z,Z,_,_,Z,Z,P10,c6 hSg h63 hk (by omega) (by omega) (by decide +kernel) fun cd2 _ e0 _=>?_⟩
       refine ⟨Z,(1+zd).toNat,cd2,e0,by omega,by omega,?_⟩
       rw [show (((1+zd).toNat:Nat):Int)=1+zd from by omega]
       rfl
   clear hdn OC hcode
   rintro σ H3 ⟨rfl,n,vF,cc0,hdn,OC,rfl⟩
   refine ⟨fun m σ H4=>H4=H3/\∃t:Nat,m=nss.length+1-t/\t<=nss.length/\σ=[some (.ref a),some (.int k),some (.int many),some (.bl alike),some (.int (n:Int)),some (.int fc),some (.int ((26:Int) ^ d)),some (.int ((0:Int)+(i:Int))),some (.ref pn),some (.int (vF+(t:Int)*26 ^ d))]/\∀j:Nat,j<t->kQ (vF+(j:Int)*26 ^ d) n∈nss,
    ⟨_,Z,0,Z,gh _,by rw [show vF+((0:Nat):Int)*26 ^ d=vF from by simp],fun j hj=>absurd hj (Nat.not_lt_zero _)⟩,?_⟩
   rintro m σ H4 ⟨rfl,t,rfl,ht,rfl,htr⟩
   have hct:0<=vF+(t:Int)*26 ^ d:=Int.add_nonneg cc0 (oM (by omega) (Int.le_of_lt hp))
   refine ⟨_,Z,_,Z,Jq rfl hct (by omega) ?_⟩
   refine ⟨_,Z,pn,_,Z, .inl (aK.of hn),Z,Uk nss,?_⟩
   show QT _ (V.bl (if false=true then !Fl (.str (tx (kQ (vF+(t:Int)*26 ^ d) n))) (rL nss) else Fl (.str (tx (kQ (vF+(t:Int)*26 ^ d) n))) (rL nss))) _
   rw [aB fH,NS]
   refine ⟨_,Z,aQ (fun c=>?_) (fun c=>?_)⟩
   . have hmem:kQ (vF+(t:Int)*26 ^ d) n∈nss:=bg c
     have aaF:∀j:Nat,j<t+1->kQ (vF+(j:Int)*26 ^ d) n∈nss:=fun j hj=>by
      rcases Nat.lt_succ_iff_lt_or_eq.mp hj with z|z
      . exact htr j z
      . rw [z];exact hmem
     have hle:=RA (c:=vF) (n:=n) (t:=t+1) hdn (by omega) aaF
     refine ⟨_,fun _ _ z=>z,?_⟩
     refine ⟨_,Z,_,Z,_,_,Z,Z,?_⟩
     refine ⟨_,(by omega:nss.length+1-(t+1)<nss.length+1-t),Z,t+1,Z,hle,?_,aaF⟩
     rw [show vF+((t+1:Nat):Int)*26 ^ d=vF+(t:Int)*26 ^ d+26 ^ d from by rw [Int.natCast_add,uY];show _+(_+1*_)=_;rw [Int.one_mul,Int.add_assoc]]
     rfl
   . have hnm:kQ (vF+(t:Int)*26 ^ d) n∉nss:=tT (qa.mpr c)
     refine ⟨_,Z, .inl ⟨Z,_,aK.of hn⟩,?_⟩
     refine ⟨_,Z,_,Z,Jq rfl hct (by omega) ?_⟩
     refine ⟨pn,rL nss,_,Z,Z,hn,dH (by omega),g.cX hpn _,nss++[kQ (vF+(t:Int)*26 ^ d) n],n,_,_,hdn,OC,Z,?_,?_,oq hnd hnm,fun x hx=>?_⟩
     . rw [ah]
       unfold rL
       rw [bR]
       rfl
     . rw [dj,hnl]
       rfl
     . rcases gb.mp hx with z|z
       . exact hok x z
       . rw [fU.mp z]
         exact Y8 _ (by omega) OC
 rintro σ H2 ⟨g,nss,n,s1,s2,hdn,OC,rfl,hn,hnl,hnd,hok⟩
 exact ⟨_,Z,q pn nss H2 g hn hpn (by omega) hnd hok⟩
abbrev uN:Stmt:=top 29
abbrev rD:List Str:=["_law_owners"]
abbrev Mz:List Str:=rD
theorem K_:aR Mz rD (aE uN):=dP
theorem La (F:At K mg "_law_lite" uN f fd) (fE:mg "list"=none):Dn P w K mg base 1 "_law_lite" rD (Sj K):=by
 refine F.oA K_ fun cdv A outer s H vs Q E hr h=>?_
 obtain ⟨⟨l,own,n,ρ,rfl,hl,G,hle,q⟩⟩:=h
 refine ⟨_,(@c5.h _ _ _ (ay (bB (Xp (Bs bK (ia (iC K) (by rfl) fE yK (af (qv 0) aq)) (Bs bK (iH aq) (Bs bK (iH aq) Xn))) (by rfl) (by rfl) (fun z=>nomatch z) (by with_unfolding_all decide))))),?_⟩
 intro m hm
 have g0:=aG hm (.dK [])
 have em0:upd H m (.dK []) m=some (.dK []):=ah
 have rT:=g0.seq hl
 generalize upd H m (.dK [])=H0 at *
 refine ⟨_,Z,l,_,Z, .inl rT,fun lo hlo=>?_⟩
 have g1:=aG hlo (.lst (own.map V.str))
 have eo1:upd H0 lo (.lst (own.map V.str)) lo=some (.lst (own.map V.str)):=ah
 have em1:=g1 _ _ em0
 generalize upd H0 lo (.lst (own.map V.str))=H1 at *
 refine ⟨(iy 0),fun lp Aa=>?_⟩
 have g2:=aG Aa (.lst [])
 have ep2:upd H1 lp (.lst []) lp=some (.lst []):=ah
 have Wh:=g2 _ _ eo1
 have em2:=g2 _ _ em1
 show Cj _ _ (upd H1 lp (.lst [])) _
 generalize upd H1 lp (.lst [])=H2 at *
 refine ⟨(iy 0),fun lk hlk=>?_⟩
 have g4:=aG hlk (.lst [])
 have ek4:upd H2 lk (.lst []) lk=some (.lst []):=ah
 have ep4:=g4 _ _ ep2
 have eo4:=g4 _ _ Wh
 have em4:=g4 _ _ em2
 show upd H2 lk (.lst []) m=_/\_
 generalize upd H2 lk (.lst [])=H4 at *
 have gA:=((g0.trans g1).trans g2).trans g4
 have n1:lo≠m:=fun e=>by rw [e,em0] at hlo;cases hlo
 have n2:lp≠m:=fun e=>by rw [e,em1] at Aa;cases Aa
 have n3:lp≠lo:=fun e=>by rw [e,eo1] at Aa;cases Aa
 have n7:lk≠m:=fun e=>by rw [e,em2] at hlk;cases hlk
 have n8:lk≠lo:=fun e=>by rw [e,Wh] at hlk;cases hlk
 have n9:lk≠lp:=fun e=>by rw [e,ep2] at hlk;cases hlk
 refine ⟨em4,[(Sum.inr "owners", .ref lo),(Sum.inr "parts", .ref lp),(Sum.inr "known", .ref lk)],Z,by show 3<=15;decide,?_⟩
 have eK:wG [] [(Sum.inr "owners", .ref lo),(Sum.inr "parts", .ref lp),(Sum.inr "known", .ref lk)]=iN ⟨m,lo,lp,lk,[]⟩:=rfl
 rw [eK]
 have u1:upd H4 m (.dK (iN ⟨m,lo,lp,lk,[]⟩)) m=some (.dK (iN ⟨m,lo,lp,lk,[]⟩)):=ah
 have u2:upd H4 m (.dK (iN ⟨m,lo,lp,lk,[]⟩)) lo=some (.lst (own.map V.str)):=by rw [au n1];exact eo4
 have u3:upd H4 m (.dK (iN ⟨m,lo,lp,lk,[]⟩)) lp=some (.lst []):=by rw [au n2];exact ep4
 have u5:upd H4 m (.dK (iN ⟨m,lo,lp,lk,[]⟩)) lk=some (.lst []):=by rw [au n7];exact ek4
 have G4:=(G.same gA).wr (a:=m) (o:= .dK (iN ⟨m,lo,lp,lk,[]⟩)) rfl
 have hz:∀b o,H b=some o->upd H4 m (.dK (iN ⟨m,lo,lp,lk,[]⟩)) b=some o:=fun b o e=>by
  rw [au (fun z=>by rw [z,hm] at e;cases e)];exact gA _ _ e
 have y1:H lo=none:=g0.free hlo
 have y2:H lp=none:=(g0.trans g1).free Aa
 have y4:H lk=none:=((g0.trans g1).trans g2).free hlk
 generalize upd H4 m (.dK (iN ⟨m,lo,lp,lk,[]⟩))=H5 at *
 refine q (cO (cO (cO (cO ρ m (n,40,nx)) lo (n,41,nx)) lp (n,42,nx)) lk (n,43,nx)) ⟨m,lo,lp,lk,[]⟩ H5 ((((G4.color u1 rfl).color u2 rfl).color u3 rfl).color u5 rfl) ⟨u1,?_,u2,?_,u3,?_,u5,bY,s_,Z,fun i p q e=>by simp at e⟩ (fun b o e=>⟨hz b o e,?_⟩)
 . show cO _ lk _ m=_
   rw [bu (bU n7),bu (bU n2),bu (bU n1),bY]
 . show cO _ lk _ lo=_
   rw [bu (bU n8),bu (bU n3),bY]
 . show cO _ lk _ lp=_
   rw [bu (bU n9),bY]
 . rw [bu (aF e y4),bu (aF e y2),bu (aF e y1),bu (aF e hm)]
abbrev uO:Stmt:=top 30
abbrev mX:List Str:=["_law_script","_law_k","_law_j"]
abbrev MA:List Str:=mX.append ["_law_size"]
theorem Ab:aR MA mX (aE uO):=dP
theorem Lb (F:At K mg "_law_much" uO f fd) (a_:Dn P w K mg base 1 "_law_draw" gY (rJ K)):Dn P w K mg base 2 "_law_much" mX (Cv K):=by
 refine F.oA Ab fun cdv A outer s H vs Q E hr h=>?_
 obtain ⟨⟨a,ns,k,j,rfl,hS,h63,hk,hj,hj2,q⟩⟩:=h
 refine ⟨_,(@c5.h _ _ _ (ai (aT (i:=3) Ab.nd (aP (cU K) (iH (af ak (af ak (af ak (af (aM mP ak ak) aq))))) (bX a_ hr (af (qv 0) (af (qv 1) (af (qv 2) (af ak aq)))))))
  (ay (bB (aM cT ak (bX a_ hr (af (qv 0) (af (qv 1) (af (aM cT (qv 2) ak) (af (qv 3) aq)))))))))),?_⟩
 refine ⟨_,_,Z,Z,⟨by decide,by decide,by decide⟩,(iy 4),fun p1 hp1=>?_⟩
 have g1:=aG hp1 (.lst [V.int 9,V.int 40,V.int 1000,V.int (10 ^ (9:Int).toNat)])
 refine ⟨_,Z,_,Z,_,Z,c6 (g1.seq hS) h63 hk hj (by omega) (by decide) fun d _ d0 d1=>?_⟩
 obtain ⟨B,hB,hB0,hB1⟩:∃B:Int,rH [V.int 9,V.int 40,V.int 1000,V.int (10 ^ (9:Int).toNat)] d=some (.int B)/\0<B/\B<=1000000000:=by
  rcases (by omega:d=0\/d=1\/d=2\/d=3) with e|e|e|e
  . exact ⟨9,by rw [e];rfl,by decide,by decide⟩
  . exact ⟨40,by rw [e];rfl,by decide,by decide⟩
  . exact ⟨1000,by rw [e];rfl,by decide,by decide⟩
  . exact ⟨10 ^ (9:Int).toNat,by rw [e];rfl,by decide,by decide⟩
 refine ⟨p1,_,_,_,Z,Z,aK.of ah,hB,?_⟩
 refine ⟨_,Z,_,Z,_,Z,_,_,Z,Z,_,Z,c6 (g1.seq hS) h63 hk (by omega) (by omega) hB0 fun e _ e0 e1=>⟨_,_,Z,Z,?_⟩⟩
 exact q (1+e) _ (by omega) (by omega) g1
abbrev uP:Stmt:=top 31
abbrev mY:List Str:=["_law_script","_law_k","_law_parts"]
abbrev MB:List Str:=mY.append ["_law_spare","_law_order","_law_rows_here","_law_at_here","_law_way","_law_amount"]
theorem fM:aR MB mY (aE uP):=dP
theorem Lc (F:At K mg "_law_rows" uP f fd) (a_:Dn P w K mg base 1 "_law_draw" gY (rJ K)) (bZ:mg "len"=none) (cZ:mg "range"=none) (fE:mg "list"=none) (gP:mg "sum"=none) (pU:mg "min"=none):Dn P w K mg base 2 "_law_rows" mY (Eh K):=by
 refine F.oA fM fun cdv A outer s H vs Q E hr h=>?_
 obtain ⟨⟨a,l,ns,k,us,ws,rfl,hS,h63,hk0,hk1,hl,hW,nd,hle,hw1,q⟩⟩:=h
 refine ⟨_,(@c5.h _ _ _ (ai (aT (i:=3) fM.nd (aM iZ (bJ (ou K rfl) (by rfl) gP yL (af (iU ["_law_part"] [none] rfl (eT K (qv 2)) (fun _ _ _ _=>(aY (i:=0) (show List.Nodup (["_law_part"] :List Str) from by decide +kernel))) (fun _ _ _ _=>(aP (gH K) (qv 0) ak)) rfl (by rfl)) aq)) ak))
  (ai (aT (i:=4) fM.nd (ia (GI rfl) (by rfl) fE yK (af (R8 (by rfl) cZ (af (bJ (di K) (by rfl) bZ fQ (af (qv 2) aq)) aq)) aq)))
  (ai (i9 (aU dS (bX a_ hr (af (qv 0) (af (qv 1) (af ak (af ak aq))))) ak (bf _)) (ay (aT (i:=4) fM.nd (R_ K (qv 4) (PY IW ak)))) bF)
  (ai (aT (i:=5) fM.nd (iH aq))
  (ai (fK gc rfl (eT K (qv 4)) (aY (i:=6) fM.nd) (ai (aT (i:=7) fM.nd (bX a_ hr (af (qv 0) (af (qv 1) (af (aM cT ak (aM gk ak (qv 6))) (af ak aq))))))
  (ai (aT (i:=8) fM.nd (bJ (R1 rfl) (by rfl) pU IA (af (aP (gH K) (aP (cU K) (qv 2) (qv 6)) ak) (af (qv 3) (af (aM mP ak ak) aq)))))
  (ai (i9 (kD (bW.pt (rQ (aU dS (qv 7) ak (bf _)) (tQ (aU jn (qv 8) ak (bf _)))))) (ay (aT (i:=8) fM.nd (aM cT ak (bX a_ hr (af (qv 0) (af (qv 1) (af (aM cT ak (aM gk ak (qv 6))) (af (qv 8) aq)))))))) bF)
  (ay (i9 (kD (bW.pt (rQ (aU jn (qv 7) ak (bf _)) (tQ (aU jn (qv 8) ak (bf _)))))) (ai (cu (j_ nG nE nF dX (qv 5) (af (iG (af (aP (gH K) (aP (cU K) (qv 2) (qv 6)) ak) (af (qv 8) aq))) aq)))
  (ay (aT (i:=3) fM.nd (aM iZ (qv 3) (qv 8))))) bF))))))
  (ay (bB (qv 5))))))))),?_⟩
 have ll:=hW.len
 refine ⟨_,Z,l,Z,⟨_,hl⟩,fun l0 rT=>?_⟩
 refine kq (J:=yt K l) (n:=us.length) 0 (fun i o H'=>aO H H'/\o=((ws.take i).map (fun r:Row=>r.2)).map V.int) (by omega) ⟨aG rT _,Z⟩ (fun i o H' hi _ hp=>⟨_,_,hp.1.seq hl,bD hi⟩) (fun o H' _ hp=>⟨_,hp.1.seq hl,aN _⟩) ?_ ?_
 . rintro i y o H2 H3 hi fY ha ⟨g,e⟩ ⟨rfl,hy⟩
   have hiw:i<ws.length:=by omega
   have ei:=bD hiw
   obtain ⟨ar,xs,ea,xu,x0,x2⟩:=hW.at_ i _ ei
   have ey:=hy _ (g.seq hl)
   rw [ea] at ey
   cases ey
   refine ⟨_,Z,(g.sq xu).ix (i:=2) x2 ?_⟩
   refine ⟨ha,g.cX rT _,?_⟩
   subst e
   rw [take_snoc ei,bR,bR]
   rfl
 rintro o1 H1 _ ha ⟨g1,e⟩
 rw [ll,cW] at e
 subst e
 refine ⟨l0,ws.map (fun r:Row=>r.2),Z,aK.of ha,_,_,Z,Z,?_⟩
 show m9 3 (.int (aI ws-1)) _ _ _
 refine ⟨_,Z,l,_,Z, .inl (g1.seq hl),_,Z,fun pr hpr=>?_⟩
 refine ⟨pr,ws.length,Z,?_,by omega,fun po Gz=>?_⟩
 . rw [ah,ll]
 have gA:=(aG hpr (.uZ 0 ((us.length:Nat):Int))).trans (aG Gz (.lst ((L2.upTo ws.length).map V.int)))
 have gB:=g1.trans gA
 have hord:upd (upd H1 pr (.uZ 0 ((us.length:Nat):Int))) po (.lst ((L2.upTo ws.length).map V.int)) po=some (.lst ((L2.upTo ws.length).map V.int)):=ah
 generalize upd (upd H1 pr (.uZ 0 ((us.length:Nat):Int))) po (.lst ((L2.upTo ws.length).map V.int))=H2 at *
 have ndo:(L2.upTo ws.length).Nodup:=by
  unfold L2.upTo
  refine List.Pairwise.map _ (fun x y h e=>h (by omega)) List.nodup_range
 have uZ:∀x∈L2.upTo ws.length,0<=x/\x<(ws.length:Int):=fun x hx=>by
  unfold L2.upTo at hx
  obtain ⟨i,hi,rfl⟩:=bH.mp hx
  have:=qQ.mp hi
  omega
 have lup:(L2.upTo ws.length).length=ws.length:=by unfold L2.upTo;rw [aH,O4]
 refine ⟨fun σ H3=>aO H H3/\∃(pq:Addr) (os:List Int),σ=[some (.ref a),some (.int k),some (.ref l),some (.int (aI ws-1)),some (.ref pq),none,none,none,none]/\H3 pq=some (.lst (os.map V.int))/\os.Nodup/\os.length=ws.length/\∀x∈os,0<=x/\x<(ws.length:Int),?_,?_⟩
 . refine ⟨_,Z,_,Z,c6 (gB.seq hS) h63 hk0 (by decide) (by decide) (by decide) fun d _ d0 d1=>⟨Z,_,Z,aQ (fun c=>?_) (fun c=>?_)⟩⟩
   . refine ⟨_,Z,_,Z,Z,po,_,Z,aK.of hord,fun pz KO=>?_⟩
     have g3:=aG KO (.lst ((L2.upTo ws.length).map V.int).reverse)
     exact ⟨gB.trans g3,pz,(L2.upTo ws.length).reverse,Z,by rw [ah,List.map_reverse],List.pairwise_reverse.mpr (List.Pairwise.imp (fun h=>bU h) ndo),by rw [DX,lup],fun x hx=>uZ x (List.mem_reverse.mp hx)⟩
   . exact ⟨gB,po,L2.upTo ws.length,Z,hord,ndo,lup,uZ⟩
 rintro σ H3 ⟨g3,pq,os,rfl,hos,hnd,fY,hrg⟩
 refine ⟨(iy 0),fun z hz=>?_⟩
 have g4:=aG hz (.lst [])
 have Wn:upd H3 z (.lst []) z=some (.lst []):=ah
 have aaH:=g4 _ _ hos
 have nz:pq≠z:=fun e=>by rw [e,hz] at hos;cases hos
 have Wo:H z=none:=g3.free hz
 have g34:=g3.trans g4
 show iB _ _ _ _ (upd H3 z (.lst []))
 generalize upd H3 z (.lst [])=H4 at *
 have w1:ws≠[]->1<=aI ws:=fun hne=>by
  cases ws with
  | nil=>exact absurd rfl hne
  | cons r rs=>
    have h1:=hw1 r cS
    have h2:=qp (rs:=rs) fun x hx=>hw1 x (cD _ hx)
    rw [show aI (r::rs)=r.2+aI rs from by unfold aI;rw [bw,b8]]
    omega
 refine ⟨_,Z,pq,Z,⟨_,aK.of aaH⟩,?_⟩
 refine k_ (K:=K) (xs:=os.map V.int) (fun i σ H'=>aO H H'/\H' pq=some (.lst (os.map V.int))/\∃(zs:List V) (rs:List Row) (sp:Int) (s6 s7 s8:Option V),σ=[some (.ref a),some (.int k),some (.ref l),some (.int sp),some (.ref pq),some (.ref z),s6,s7,s8]/\H' z=some (.lst zs)/\dZ H' zs rs/\rs.length<=i/\(rs.map (fun r:Row=>r.1)).Nodup/\
   sp=aI ws-1-aI rs/\(ws≠[]->0<=sp)/\∀r∈rs,1<=r.2/\r.2<=1000000000/\∃j:Nat,((j:Nat):Int)∈os.take i/\∃w,ws[j]?=some w/\w.1=r.1/\r.2<=w.2)
  ⟨g34,aaH,[],[],aI ws-1,none,none,none,Z,Wn, .nil,aN _,s_,by show _=aI ws-1-0;omega,fun hne=>by have:=w1 hne;omega,fun r hr=>absurd hr (by simp)⟩ ?_ ?_ ?_
 . rintro i σ H' _ ⟨_,h,_⟩
   exact aK.of h
 . rintro i x σ H5 hx ⟨g5,Ld,zs,rs,sp,s6,s7,s8,rfl,yG,hR,hrl,Wq,oR,Qo,vV⟩
   rw [cA] at hx
   obtain ⟨at',hat,rfl⟩:=nH.mp hx
   have hio:=(dO.mp hat).1
   obtain ⟨t0,t1⟩:=hrg at' (cg hat)
   obtain ⟨jt,hjt⟩:∃jt:Nat,((jt:Nat):Int)=at':=⟨at'.toNat,by omega⟩
   subst hjt
   have hjl:jt<ws.length:=by omega
   have hne:ws≠[] :=fun e=>by rw [e] at hjl;simp at hjl
   have afL:=Qo hne
   have hnot:((jt:Nat):Int)∉os.take i:=fun m=>by
    obtain ⟨j,hj,ej⟩:=List.mem_iff_getElem.mp m
    rw [List.getElem_take] at ej
    rw [nK] at hj
    have e2:=(dO.mp hat).2
    have:=(List.getElem_inj hnd).mp (ej.trans e2.symm)
    omega
   have ej:=bD hjl
   have hwj:=hw1 _ (cg ej)
   generalize ws[jt]=wj at *
   obtain ⟨ar,xs,ea,xu,x0,x2⟩:=hW.at_ jt _ ej
   refine ⟨_,Z,_,Z,_,Z,_,_,Z,Z, .inl ⟨by decide,by decide⟩,_,_,Z,Z,c6 (g5.seq hS) h63 hk0 (by omega) (by omega) (by decide) fun way _ v0 v1=>?_⟩
   refine ⟨_,Z,_,Z,l,_,_,_,Z,Z,g5.seq hl,aA ea,(g5.sq xu).ix (i:=2) x2 ?_⟩
   refine ⟨_,Z,_,_,Z,Z,⟨by decide,by decide,by decide⟩,_,_,_,Z,?_⟩
   obtain ⟨m1,m2,m3⟩:=Xj wj.2 sp ((10:Int) ^ (9:Int).toNat)
   have m0:0<=um wj.2 sp ((10:Int) ^ (9:Int).toNat):=Xk (by omega) afL (by decide)
   have m3:um wj.2 sp ((10:Int) ^ (9:Int).toNat)<=1000000000:=m3
   generalize um wj.2 sp ((10:Int) ^ (9:Int).toNat)=m at *
   refine ⟨fun σ H6=>H5=H6/\∃m:Int,0<=m/\m<=sp/\m<=wj.2/\m<=1000000000/\σ=[some (.ref a),some (.int k),some (.ref l),some (.int sp),some (.ref pq),some (.ref z),some (.int (jt:Int)),some (.int way),some (.int m)],?_,?_⟩
   . refine ⟨decide (way=2/\0<m),?_,?_⟩
     . refine ⟨_,Z,Z,_,Z,?_⟩
       by_cases h1:way=2
       . rw [bq (by rw [h1] :V.int way=V.int 2)]
         refine mF ⟨_,Z,_,_,Z,Z,_,Z,?_,Z⟩
         by_cases h2:0<m
         . rw [bq h2,bq ⟨h1,h2⟩]
         . rw [dw h2,dw fun z=>h2 z.2]
       . rw [dw (fun z=>h1 (V.int.inj z))]
         exact jg ⟨(dw fun z=>h1 z.1).symm,Z⟩
     refine aQ (fun c=>?_) (fun c=>?_)
     . obtain ⟨_,c2⟩:=bg c
       refine ⟨_,Z,_,Z,_,Z,_,_,Z,Z, .inl ⟨by decide,by decide⟩,_,_,Z,Z,_,Z,c6 (g5.seq hS) h63 hk0 (by omega) (by omega) c2 fun d _ d0 d1=>⟨_,_,Z,Z,Z,1+d,by omega,by omega,by omega,by omega,Z⟩⟩
     . exact ⟨Z,m,m0,m2,m1,m3,Z⟩
   rintro σ H6 ⟨rfl,o,o0,o1,o2,o3,rfl⟩
   have grow:∀r∈rs,1<=r.2/\r.2<=1000000000/\∃j:Nat,((j:Nat):Int)∈os.take (i+1)/\∃w,ws[j]?=some w/\w.1=r.1/\r.2<=w.2:=fun r hr=>by
    obtain ⟨a1,a2,j,a3,a4⟩:=vV r hr
    exact ⟨a1,a2,j,by rw [take_snoc hat];exact A1 _ a3,a4⟩
   refine ⟨fun σ H6=>aO H H6/\H6 pq=some (.lst (os.map V.int))/\∃(zs:List V) (rs:List Row) (sp:Int) (s6 s7 s8:Option V),σ=[some (.ref a),some (.int k),some (.ref l),some (.int sp),some (.ref pq),some (.ref z),s6,s7,s8]/\H6 z=some (.lst zs)/\dZ H6 zs rs/\rs.length<=i+1/\(rs.map (fun r:Row=>r.1)).Nodup/\
    sp=aI ws-1-aI rs/\(ws≠[]->0<=sp)/\∀r∈rs,1<=r.2/\r.2<=1000000000/\∃j:Nat,((j:Nat):Int)∈os.take (i+1)/\∃w,ws[j]?=some w/\w.1=r.1/\r.2<=w.2,?_,fun _ _ h=>h⟩
   refine ⟨decide (0<way/\0<o),?_,?_⟩
   . refine ⟨_,Z,_,_,Z,Z,_,Z,?_⟩
     by_cases h1:0<way
     . rw [bq h1]
       refine mF ⟨_,Z,_,_,Z,Z,_,Z,?_,Z⟩
       by_cases h2:0<o
       . rw [bq h2,bq ⟨h1,h2⟩]
       . rw [dw h2,dw fun z=>h2 z.2]
     . rw [dw h1]
       exact jg ⟨(dw fun z=>h1 z.1).symm,Z⟩
   refine aQ (fun c=>?_) (fun c=>?_)
   . obtain ⟨_,c2⟩:=bg c
     refine ⟨_,Z, .inl ⟨Z,_,aK.of yG⟩,_,Z,_,Z,l,_,_,_,Z,Z,g5.seq hl,aA ea,(g5.sq xu).ix (i:=0) x0 ?_⟩
     refine ⟨_,Z,(iy 2),fun p hp=>?_⟩
     have g6:=aG hp (o9 (wj.1,o))
     have Le:=g6 _ _ yG
     have GD:=g6 _ _ Ld
     have Ou:upd H5 p (o9 (wj.1,o)) p=some (o9 (wj.1,o)):=ah
     have Vd:=hR.length
     show qc _ (upd H5 p (o9 (wj.1,o))) _
     generalize upd H5 p (o9 (wj.1,o))=H6 at *
     refine ⟨z,_,_,Z,Z,Le,by rw [Vd];exact dH (by omega),?_⟩
     have np:p≠z:=fun e=>by rw [e,yG] at hp;cases hp
     have tu:∀b ys,H6 b=some (.tup ys)->upd H6 z (.lst (zs++[.ref p])) b=some (.tup ys):=jO (.inr ⟨_,Le,Z⟩)
     refine ⟨_,Z,_,Z,_,_,Z,Z,(g5.trans g6).cX Wo _,by rw [au nz];exact GD,zs++[.ref p],rs++[(wj.1,o)],sp-o,_,_,_,Z,ah,((hR.mono g6.tups).snoc Ou).mono tu,by rw [dj];show rs.length+1<=i+1;omega,?_,?_,fun _=>by omega,?_⟩
     . rw [bR]
       refine oq Wq fun hm=>?_
       obtain ⟨r,hr,er⟩:=bH.mp hm
       obtain ⟨_,_,j,hj,w,aaI,e1,_⟩:=vV r hr
       have hj2:j<ws.length:=(dO.mp aaI).1
       have r1:(ws.map (fun r:Row=>r.1))[j]?=some w.1:=by rw [cA,aaI];rfl
       have r2:(ws.map (fun r:Row=>r.1))[jt]?=some wj.1:=by rw [cA,ej];rfl
       have er:r.1=wj.1:=er
       have:j=jt:=(O7 (by rw [aH];exact hj2) nd).mp (r1.trans (by rw [e1,er];exact r2.symm))
       rw [this] at hj
       exact hnot hj
     . rw [show aI (rs++[(wj.1,o)])=aI rs+o from by unfold aI;rw [bR,List.sum_append];simp]
       omega
     . intro r hr
       rcases gb.mp hr with h1|h1
       . exact grow r h1
       . rw [fU.mp h1]
         exact ⟨by show 1<=o;omega,o3,jt,by rw [take_snoc hat];exact iA _ (fU.mpr rfl),wj,ej,Z,o2⟩
   . exact ⟨g5,Ld,zs,rs,sp,_,_,_,Z,yG,hR,by omega,Wq,oR,Qo,grow⟩
 rintro σ H5 ⟨g5,Ld,zs,rs,sp,s6,s7,s8,rfl,yG,hR,hrl,Wq,oR,Qo,vV⟩
 rw [aH,fY] at hrl
 refine ⟨_,Z,q z zs rs H5 g5 Wo yG hR ⟨Wq,fun r hr=>?_,?_,hrl⟩⟩
 . obtain ⟨a1,a2,j,_,w,hw,e1,e2⟩:=vV r hr
   exact ⟨a1,a2,w,cg hw,e1,e2⟩
 . by_cases c:ws=[]
   . right
     rw [c] at hrl
     exact List.length_eq_zero_iff.mp (by simpa using hrl)
   . left
     have:=Qo c
     omega
abbrev uQ:Stmt:=top 32
abbrev rE:List Str:=["_law_rows_here"]
abbrev MC:List Str:=rE.append ["_law_things","_law_name_here","_law_amount"]
theorem pV:aR MC rE (aE uQ):=dP
theorem Lf (F:At K mg "_law_flat" uQ f fd) (EL:mg "tuple"=none):Dn P w K mg base 1 "_law_flat" rE (Sg K):=by
 refine F.oA pV fun cdv A outer s H vs Q E hr h=>?_
 obtain ⟨⟨l,us,rs,rfl,hl,hR,hle,q⟩⟩:=h
 refine ⟨_,(@c5.h _ _ _ (ai (aT (i:=1) pV.nd (iH (af bK aq)))
  (ai (fK gc rfl (eT K (qv 0)) (iu K (n:=2) rfl (cC (aY (i:=2) pV.nd) (cC (aY (i:=3) pV.nd) ir))) (ai (cu (j_ nG nE nF dX (qv 1) (af (qv 2) aq)))
  (ay (cu (j_ nG nE nF dX (qv 1) (af (qv 3) aq))))))
  (ay (bB (ia GG (by rfl) EL PyProof.Rows.boot_tuple (af (qv 1) aq))))))),?_⟩
 have hul:=hR.length
 refine ⟨(iy 1),fun t ht=>?_⟩
 have g0:=aG ht (.lst [.str "cast"])
 have h0:upd H t (.lst [.str "cast"]) t=some (.lst (Dd.v (.cast (rs.take 0)))):=ah
 show iB _ _ _ _ (upd H t (.lst [.str "cast"]))
 generalize upd H t (.lst [.str "cast"])=H0 at *
 refine ⟨_,Z,l,Z,⟨us,g0.seq hl⟩,?_⟩
 refine k_ (K:=K) (xs:=us) (fun i σ H'=>aO H H'/\H' t=some (.lst (Dd.v (.cast (rs.take i))))/\∃s2 s3,σ=[some (.ref l),some (.ref t),s2,s3]) ⟨g0,h0,_,_,Z⟩ (fun i σ H' _ hp=>hp.1.seq hl) ?_ ?_
 . rintro i x σ H' hx ⟨g,hd',s2,s3,rfl⟩
   obtain ⟨a,r,rfl,er,ha⟩:=hR.get hx
   have hlt:(Dd.v (.cast (rs.take i))).length+1<sizeLine:=by
    show (jw (rs.take i)).length+1+1<_
    rw [zM,nK,jI];exact IE (show _<=3000 by omega) (by decide)
   refine ⟨a,_,Z,dm.of (g _ _ ha),Z,_,_,Z,_,_,Z,Z,?_⟩
   refine ⟨_,Z, .inl ⟨Z,_,aK.of hd'⟩,_,Z,t,_,_,Z,Z,hd',by omega,?_⟩
   refine ⟨_,Z, .inl ⟨Z,_,aK.of ah⟩,_,Z,t,_,_,Z,Z,ah,by rw [dj];exact hlt,?_⟩
   refine ⟨?_,?_,_,_,Z⟩
   . rw [kC];exact g.cX ht _
   . rw [ah,take_snoc er]
     show some (HO.lst ((V.str "cast"::jw (rs.take i)++[V.str r.1])++[V.int r.2]))=some (HO.lst (V.str "cast"::jw (rs.take i++[r])))
     rw [zL]
     simp [jw]
 rintro σ H' ⟨g,hd',s2,s3,rfl⟩
 rw [hul,cW] at hd'
 refine ⟨_,Z,t,_,Z, .inl ⟨aK.of hd',fun z hz=>q z _ (g.trans (aG hz _)) ah⟩⟩
abbrev mL:Stmt:=top 33
abbrev kj:List Str:=["_law_script","_law_k","_law_model","_law_names_here","_law_way"]
abbrev BK:List Str:=kj.append ["_law_parts","_law_part","_law_owner","_law_whole","_law_rows_here","_law_amount"]
theorem fF:aR BK kj (aE mL):=dP
theorem AF (F:At K mg "_law_part_deed" mL f fd) (a_:Dn P w K mg base 1 "_law_draw" gY (rJ K)) (kI:Dn P w K mg base 2 "_law_much" mX (Cv K)) (kJ:Dn P w K mg base 2 "_law_rows" mY (Eh K)) (vY:Dn P w K mg base 1 "_law_flat" rE (Sg K)) (bZ:mg "len"=none) (gP:mg "sum"=none) (pU:mg "min"=none):Dn P w K mg base 3 "_law_part_deed" kj (Dc K):=by
 refine F.oA fF fun cdv A outer s H vs Q E hr h=>?_
 obtain ⟨⟨a,m,ln,ns,k,way,nms,c,st,rfl,hS,h63,hk0,hk1,hq,hN,nx,hnl,wf,g,hc,hp0,q⟩⟩:=h
 refine ⟨_,(@c5.h _ _ _ (ai (aT (i:=5) fF.nd (dN (dB hr) (qv 2) bK))
  (ai (aT (i:=6) fF.nd (aP (cU K) (qv 5) (bX a_ hr (af (qv 0) (af (qv 1) (af ak (af (bJ (di K) (by rfl) bZ fQ (af (qv 5) aq)) aq)))))))
  (ai (aT (i:=7) fF.nd (aP (cU K) (dN (dB hr) (qv 2) bK) (bX a_ hr (af (qv 0) (af (qv 1) (af ak (af (bJ (di K) (by rfl) bZ fQ (af (dN (dB hr) (qv 2) bK) aq)) aq)))))))
  (ai (aT (i:=8) fF.nd (bJ (ou K rfl) (by rfl) gP yL (af (iU ["_law_one"] [none] rfl (eT K (qv 5)) (fun _ _ _ _=>(aY (i:=0) (show List.Nodup (["_law_one"] :List Str) from by decide +kernel))) (fun _ _ _ _=>(aP (gH K) (qv 0) ak)) rfl (by rfl)) aq)))
  (ai (i9 (aU qV (qv 4) ak (bf _)) (ai (aT (i:=9) fF.nd (bX kJ hr (af (qv 0) (af (qv 1) (af (qv 5) aq)))))
  (ay (cL (aU jn (bJ (di K) (by rfl) bZ fQ (af (qv 9) aq)) ak (bf _)) (ay (bB (bX vY hr (af (qv 9) aq)))) bF))) bF)
  (ai (cL (aU dS (qv 4) ak (bf _)) (ay (bB (iG (af bK (af (aP (gH K) (qv 6) ak) (af (qv 7) aq)))))) bF)
  (ai (cL (aU dS (qv 4) ak (bf _)) (ay (bB (iG (af bK (af (aP (gH K) (qv 6) ak) aq))))) bF)
  (ai (cL (kD (bW.pt (rQ (aU dS (qv 4) ak (bf _)) (tQ (aU jn (qv 8) ak (bf _)))))) (ay (bB (iG (af bK (af (qv 7) (af (aM cT ak (bX a_ hr (af (qv 0) (af (qv 1) (af ak (af (bJ (u0 rfl) (by rfl) pU IA (af (aM iZ (qv 8) ak) (af (aM mP ak ak) aq))) aq)))))) aq)))))) bF)
  (ai (cL (kD (bW.pt (rQ (aU dS (qv 4) ak (bf _)) (rQ (aU jn (aP (gH K) (qv 6) ak) ak (bf _)) (tQ (aU qV (bJ (di K) (by rfl) bZ fQ (af (dN (dB hr) (qv 2) bK) aq)) (bJ (di K) (by rfl) bZ fQ (af (qv 3) aq)) (bf _))))))) (ai (aT (i:=10) fF.nd (aM cT ak (bX a_ hr (af (qv 0) (af (qv 1) (af ak (af (bJ (u0 rfl) (by rfl) pU IA (af (aM iZ (aP (gH K) (qv 6) ak) ak) (af (aM mP ak ak) aq))) aq)))))))
  (ay (bB (iG (af bK (af (aP (gH K) (qv 6) ak) (af (aP (cU K) (qv 3) (bJ (di K) (by rfl) bZ fQ (af (dN (dB hr) (qv 2) bK) aq))) (af (qv 10) (af (bX a_ hr (af (qv 0) (af (qv 1) (af ak (af (aM cT (aP (gH K) (qv 6) ak) ak) aq))))) aq))))))))) bF)
  (ai (cL (aU dS (qv 4) ak (bf _)) (ay (bB (iG (af bK (af (aP (gH K) (qv 6) ak) (af (aM cT ak (bX a_ hr (af (qv 0) (af (qv 1) (af ak (af (bJ (u0 rfl) (by rfl) pU IA (af (aP (gH K) (qv 6) ak) (af (aM mP ak ak) aq))) aq)))))) aq)))))) bF)
  (ay (bB (iG (af bK (af (aP (gH K) (qv 6) ak) (af (bX kI hr (af (qv 0) (af (qv 1) (af ak aq)))) aq))))))))))))))))),?_⟩
 obtain ⟨kvs,lo,lp,lk,us,om,vo,vp,vk,oo,op,rw',ok⟩:=hq
 have ll:=rw'.len
 have hpl:=g.pl
 have fY:=wf.j8
 have afM:=g.ol
 refine ⟨_,Z,m,_,Z,vp▸dW.k (k:=Sum.inr "parts") om,?_⟩
 refine ⟨_,Z,_,Z,_,Z,_,Z,_,us,Z, .inl op,c6 hS h63 hk0 (by decide) (by decide) (by omega) fun d _ d0 d1=>?_⟩
 obtain ⟨j,rfl⟩:∃j:Nat,d=(j:Int):=⟨d.toNat,by omega⟩
 have hj:j<st.aj.length:=by omega
 have ep:=bD hj
 have eV:=Ad hj
 generalize st.aj[j]=p at *
 obtain ⟨ap,xs,ea,xu,x0,x1,x2,x3⟩:=rw'.at_ j p ep
 refine ⟨lp,_,_,_,Z,Z,op,aA ea,?_⟩
 refine ⟨_,Z,m,_,Z,vo▸dW.k (k:=Sum.inr "owners") om,_,Z,_,Z,_,Z,m,_,Z,vo▸dW.k (k:=Sum.inr "owners") om,lo,_,Z, .inl oo,c6 hS h63 hk0 (by decide) (by decide) (by rw [aH];omega) fun wd _ w0 w1=>?_⟩
 rw [aH] at w1
 obtain ⟨jo,o,ejo,eo,eat⟩:=JJ (l:=st.own) (d:=wd) w0 w1
 refine ⟨lo,_,_,_,Z,Z,oo,eat,?_⟩
 have how:=cg eo
 have wol:wl o<=20:=qw (g.on o how)
 have SJ:wl p.nm<=20:=qw (g.nk _ (wf.sub p eV))
 have hw0:=wf.jr p eV
 have eg:bO st p.nm=p:=cN wf eV rfl
 have hin:p.nm∈eU st:=Ax ep
 refine ⟨_,Z,lp,Z,⟨_,op⟩,fun l0 rT=>?_⟩
 refine kq (J:=yt K lp) (n:=us.length) 0 (fun i o H'=>aO H H'/\o=((st.aj.take i).map (fun p:Pt=>p.wo)).map V.int) (by omega) ⟨aG rT _,Z⟩ (fun i o H' hi _ hp=>⟨_,_,hp.1.seq op,bD hi⟩) (fun o H' _ hp=>⟨_,hp.1.seq op,aN _⟩) ?_ ?_
 . rintro i y o H2 H3 hi fY ha ⟨g,e⟩ ⟨rfl,hy⟩
   have hiw:i<st.aj.length:=by omega
   have ei:=bD hiw
   obtain ⟨ar,xs,ea,xu,_,_,x2,_⟩:=rw'.at_ i _ ei
   have ey:=hy _ (g.seq op)
   rw [ea] at ey
   cases ey
   refine ⟨_,Z,(g.sq xu).ix (i:=2) x2 ?_⟩
   refine ⟨ha,g.cX rT _,?_⟩
   subst e
   rw [take_snoc ei,bR,bR]
   rfl
 rintro o1 H1 _ ha ⟨g1,e⟩
 rw [ll,cW] at e
 subst e
 refine ⟨l0,st.aj.map (fun p:Pt=>p.wo),Z,aK.of ha,?_⟩
 show m9 8 (.int (aC st)) _ _ _
 have ret:∀(t:Addr) (d:Dd) (H2:Hp),aO H H2->H2 t=none->Az nms st d->Q (.ref t) (upd H2 t (.tup (Dd.v d))):=fun t d H2 g2 ht hd=>q t d _ (g2.trans (aG ht _)) ah hd
 have keep:∀d:Dd,qu st d=none->N6 d->d.pl=true->Az nms st d:=fun d h1 h2 h3=>⟨h1,h2,nx.keep (Sf (Dd.UM h3).1 (Dd.UM h3).2.1),(Dd.UM h3).2.2⟩
 refine ⟨fun σ' H'=>aO H H'/\∃s9,σ'=[some (.ref a),some (.int k),some (.ref m),some (.ref ln),some (.int way),some (.ref lp),some (.ref ap),some (.str o),some (.int (aC st)),s9,none],?_,?_⟩
 . refine ⟨_,Z,_,_,Z,Z,_,Z,aQ (fun _=>?_) (fun _=>⟨g1,_,Z⟩)⟩
   have hw1:∀w∈ie st,1<=w.2:=fun w hw=>by obtain ⟨p,hp,rfl⟩:=bH.mp hw;exact (wf.jr p hp).1
   have nwN:((ie st).map (fun r:Row=>r.1)).Nodup:=by unfold ie;rw [fR];exact wf.dh
   have nwL:(ie st).length=st.aj.length:=by unfold ie;rw [aH]
   refine ⟨_,Z,_,Z,_,Z,⟨⟨a,lp,ns,k,us,ie st,Z,g1.seq hS,h63,hk0,hk1,g1.seq op,(rw'.mono g1).nw,nwN,by omega,hw1,fun z zs rs H2 g2 hz0 hz1 hR hro=>?_⟩⟩⟩
   have zl:=hR.length
   refine ⟨_,Z,z,zs,Z, .inl (aK.of hz1),_,_,Z,Z,_,Z,aQ (fun c=>?_) (fun c=>⟨g1.trans g2,_,Z⟩)⟩
   have c':(0:Int)<(zs.length:Int):=bg c
   have hne:rs≠[] :=fun e=>by rw [zl,e] at c';simp at c'
   have rl:=hro.len
   have:=nx.pl wf
   refine ⟨_,Z,⟨⟨z,zs,rs,Z,aK.of hz1,hR,by omega,fun t H3 g3 ht=>q t (.cast rs) H3 ((g1.trans g2).trans g3) ht (keep _ (C_ wf hro hne) ⟨by omega,fun r hr=>?_⟩ rfl)⟩⟩⟩
   obtain ⟨r1,r2,w,hw,e,_⟩:=hro.row r hr
   obtain ⟨p',gF,rfl⟩:=bH.mp hw
   have e:p'.nm=r.1:=e
   exact ⟨by rw [<-e];exact qw (g.nk _ (wf.sub p' gF)),by omega,r2⟩
 rintro σ H2 ⟨g2,s9,rfl⟩
 have vZ:=g2.sq xu
 have Lg:=g2.seq hS
 have P9:TF 10 9:=⟨by decide,by decide,by decide +kernel⟩
 have p9:(10:Int) ^ (9:Int).toNat=1000000000:=by decide +kernel
 have mn:∀w:Int,0<w->0<(if (10:Int) ^ (9:Int).toNat<w then (10:Int) ^ (9:Int).toNat else w)/\(if (10:Int) ^ (9:Int).toNat<w then (10:Int) ^ (9:Int).toNat else w)<=w/\(if (10:Int) ^ (9:Int).toNat<w then (10:Int) ^ (9:Int).toNat else w)<=1000000000:=fun w h=>by rw [p9];split <;> omega
 refine ⟨_,Z,Z,_,Z,aQ (fun _=>?_) (fun _=>?_)⟩
 . exact ⟨_,Z,vZ.ix (i:=0) x0 ⟨_,Z,(iy 3),fun t ht=>ret t (.hand p.nm o) H2 g2 ht (keep _ (by show lW st p.nm o=none;unfold lW;rw [aD hin,aD how]) ⟨SJ,wol⟩ rfl)⟩⟩
 refine ⟨_,Z,Z,_,Z,aQ (fun _=>?_) (fun _=>?_)⟩
 . exact ⟨_,Z,vZ.ix (i:=0) x0 ⟨(iy 2),fun t ht=>ret t (.land p.nm) H2 g2 ht (keep _ (aD hin) SJ rfl)⟩⟩
 by_cases yz:way=10/\1<aC st
 . refine ⟨true,⟨_,Z,Z,_,Z,aQ (fun _=>⟨_,Z,_,_,Z,Z,_,Z,bq yz.2,Z⟩) (fun c=>absurd (bq (by rw [yz.1])) c)⟩,mF ?_⟩
   obtain ⟨m0,m1,m2⟩:=mn (aC st-1) (by omega)
   refine ⟨_,Z,_,Z,_,Z,_,Z,_,_,Z,Z,_,_,Z,Z,P9,_,_,Z,c6 Lg h63 hk0 (by decide) (by decide) m0 fun d _ d0 d1=>⟨_,_,Z,Z,(iy 3),fun t ht=>ret t (.award o (1+d)) H2 g2 ht (keep _ ?_ ⟨wol,by omega,by omega⟩ rfl)⟩⟩
   show lH st o (1+d)=none
   unfold lH
   rw [aD how,aB (by omega),aB (by omega)]
 refine ⟨false,⟨_,Z,Z,_,Z,aQ (fun c=>⟨_,Z,_,_,Z,Z,_,Z,dw (fun z=>yz ⟨V.int.inj (bg c),z⟩),Z⟩) (fun c=>⟨Z,Z⟩)⟩,jg ?_⟩
 have Qp:((nms.map V.str).length:Int)=(nms.length:Int):=by rw [aH]
 have Qq:((st.nms.map V.str).length:Int)=(st.nms.length:Int):=by rw [aH]
 by_cases h11:way=11/\1<p.wo/\st.nms.length<nms.length
 . refine ⟨true,⟨_,Z,Z,_,Z,aQ (fun _=>⟨_,Z,vZ.ix (i:=2) x2 ⟨_,_,Z,Z,_,Z,aQ (fun _=>⟨_,Z,m,_,Z,vk▸dW.k (k:=Sum.inr "known") (g2 _ _ om),lk,_,Z, .inl (g2.seq ok),_,Z,ln,_,Z, .inl (g2.seq hN),_,_,Z,Z,_,Z,bq (by rw [Qp,Qq];omega),Z⟩) (fun c=>absurd (bq h11.2.1) c)⟩⟩) (fun c=>absurd (bq (by rw [h11.1])) c)⟩,mF ?_⟩
   obtain ⟨m0,m1,m2⟩:=mn (p.wo-1) (by omega)
   have ey:=bD h11.2.2
   obtain ⟨y1,y2,y3⟩:=nx.next ey
   generalize nms[st.nms.length]=y at *
   have eyv:rH (nms.map V.str) ((st.nms.length:Nat):Int)=some (.str y):=aA (by rw [cA,ey];rfl)
   refine ⟨_,Z,_,Z,_,Z,vZ.ix (i:=2) x2 ⟨_,_,Z,Z,_,_,Z,Z,P9,_,_,Z,c6 Lg h63 hk0 (by decide) (by decide) m0 fun d _ d0 d1=>⟨_,_,Z,Z,?_⟩⟩⟩
   refine ⟨_,Z,vZ.ix (i:=0) x0 ⟨_,Z,_,Z,m,_,Z,vk▸dW.k (k:=Sum.inr "known") (g2 _ _ om),lk,_,Z, .inl (g2.seq ok),ln,_,_,_,Z,Z,g2.seq hN,by rw [aH];exact eyv,_,Z,_,Z,_,Z,_,Z,vZ.ix (i:=3) x3 ⟨_,_,Z,Z,c6 Lg h63 hk0 (by decide) (by decide) (by omega) fun v _ v0 v1=>⟨(iy 5),fun t ht=>ret t (.sever p.nm y (1+d) v) H2 g2 ht ⟨?_,⟨SJ,qw y1,⟨by omega,by omega⟩,⟨by omega,?_⟩⟩,y3 _ rfl,by show (8:Nat)≠0;decide⟩⟩⟩⟩⟩
   . show jx st p.nm y (1+d) v=none
     unfold jx
     rw [aD hin,zK y1 y2,eg]
     show (if _ then _ else _)=none
     rw [aB (by omega),aB (by omega)]
   . have:=g.we p eV
     omega
 refine ⟨false,⟨_,Z,Z,_,Z,aQ (fun c=>⟨_,Z,vZ.ix (i:=2) x2 ⟨_,_,Z,Z,_,Z,aQ (fun c2=>⟨_,Z,m,_,Z,vk▸dW.k (k:=Sum.inr "known") (g2 _ _ om),lk,_,Z, .inl (g2.seq ok),_,Z,ln,_,Z, .inl (g2.seq hN),_,_,Z,Z,_,Z,dw (fun z=>h11 ⟨V.int.inj (bg c),bg c2,by rw [Qp,Qq] at z;omega⟩),Z⟩) (fun c=>⟨Z,Z⟩)⟩⟩) (fun c=>⟨Z,Z⟩)⟩,jg ?_⟩
 refine ⟨_,Z,Z,_,Z,aQ (fun _=>?_) (fun _=>?_)⟩
 . obtain ⟨m0,m1,m2⟩:=mn p.wo (by omega)
   refine ⟨_,Z,vZ.ix (i:=0) x0 ⟨_,Z,_,Z,_,Z,vZ.ix (i:=2) x2 ⟨_,_,Z,Z,P9,_,_,Z,c6 Lg h63 hk0 (by decide) (by decide) m0 fun d _ d0 d1=>⟨_,_,Z,Z,(iy 3),fun t ht=>ret t (.mishap p.nm (1+d)) H2 g2 ht (keep _ ?_ ⟨SJ,by omega,by omega⟩ rfl)⟩⟩⟩⟩
   show jQ st (p.nm,1+d)=none
   unfold jQ
   show (if p.nm∈eU st then (if 1+d<1 then _ else if (bO st p.nm).wo<1+d then _ else _) else _)=none
   rw [aD hin,aB (by omega),eg,aB (by omega)]
 refine ⟨_,Z,vZ.ix (i:=0) x0 ⟨_,Z,_,Z,Jo Lg h63 hk0 (by decide) (by decide) fun w H3 w1 w2 g3=>⟨(iy 3),fun t ht=>ret t (.rise p.nm w) H3 (g2.trans g3) ht (keep _ ?_ ⟨SJ,by omega,by omega⟩ rfl)⟩⟩⟩
 show m_ st p.nm w=none
 unfold m_
 rw [aD hin,aB (by omega)]
abbrev uR:Stmt:=top 34
abbrev rF:List Str:=["_law_script","_law_k","_law_model","_law_names_here"]
abbrev MD:List Str:=rF.append ["_law_way","_law_more","_law_owner","_law_worth"]
theorem lP:aR MD rF (aE uR):=dP
theorem Lh (F:At K mg "_law_deed" uR f fd) (a_:Dn P w K mg base 1 "_law_draw" gY (rJ K)) (kI:Dn P w K mg base 2 "_law_much" mX (Cv K)) (n_:Dn P w K mg base 3 "_law_part_deed" kj (Dc K)) (bZ:mg "len"=none):Dn P w K mg base 4 "_law_deed" rF (Sh K):=by
 refine F.oA lP fun cdv A outer s H vs Q E hr h=>?_
 obtain ⟨⟨a,m,ln,ns,k,nms,c,st,rfl,hS,h63,hk0,hk1,hq,hN,nx,hnl,wf,g,hc,q⟩⟩:=h
 refine ⟨_,(@c5.h _ _ _ (ai (aT (i:=4) lP.nd (bX a_ hr (af (qv 0) (af (qv 1) (af ak (af ak aq))))))
  (ai (aT (i:=5) lP.nd (wX qV (bJ (di K) (by rfl) bZ fQ (af (dN (dB hr) (qv 2) bK) aq)) (bJ (di K) (by rfl) bZ fQ (af (qv 3) aq)) (bf _)))
  (ai (cL (kD (bW.pt (rQ (wU (qv 5)) (tQ (kD (bW.pt (Iu (aU qV (qv 4) ak (bf _)) (CZ (aU qV (bJ (di K) (by rfl) bZ fQ (af (dN (dB hr) (qv 2) bK) aq)) ak (bf _)))))))))) (ai (aT (i:=6) lP.nd (aP (cU K) (dN (dB hr) (qv 2) bK) (bX a_ hr (af (qv 0) (af (qv 1) (af ak (af (bJ (di K) (by rfl) bZ fQ (af (dN (dB hr) (qv 2) bK) aq)) aq)))))))
  (ai (aT (i:=7) lP.nd (bX kI hr (af (qv 0) (af (qv 1) (af ak aq)))))
  (ay (bB (iG (af bK (af (aP (cU K) (qv 3) (bJ (di K) (by rfl) bZ fQ (af (dN (dB hr) (qv 2) bK) aq))) (af (qv 6) (af (qv 7) (af (bX a_ hr (af (qv 0) (af (qv 1) (af ak (af ak aq))))) aq)))))))))) bF)
  (ai (cL (aU dS (bJ (di K) (by rfl) bZ fQ (af (dN (dB hr) (qv 2) bK) aq)) ak (bf _)) (ay (bB (iG (af bK aq)))) bF)
  (ay (bB (bX n_ hr (af (qv 0) (af (qv 1) (af (qv 2) (af (qv 3) (af (qv 4) aq))))))))))))),?_⟩
 obtain ⟨kvs,lo,lp,lk,us,om,vo,vp,vk,oo,op,rw',ok⟩:=id hq
 have ll:=rw'.len
 have hpl:=g.pl
 have fY:=wf.j8
 have afM:=g.ol
 have Qp:((nms.map V.str).length:Int)=(nms.length:Int):=by rw [aH]
 have Qq:((st.nms.map V.str).length:Int)=(st.nms.length:Int):=by rw [aH]
 refine ⟨_,Z,_,Z,c6 hS h63 hk0 (by decide) (by decide) (by decide) fun way _ v0 v1=>?_⟩
 refine ⟨_,Z,m,_,Z,vk▸dW.k (k:=Sum.inr "known") om,lk,_,Z, .inl ok,_,Z,ln,_,Z, .inl hN,_,_,Z,Z,?_⟩
 rw [Qp,Qq]
 have orR:∀b:Bool,b=decide (way<3\/st.aj.length<2)->(tOr (Pb (Nz (AK fun i j=>V.bl (decide (i<j))) (IT 4) (tC (V.int 3)))) (Pb (Nz (AK fun i j=>V.bl (decide (i<j))) (YH (fun xs H Q=>∃p ys,xs=[V.ref p]/\(aK K H p ys\/dm K H p ys)/\Q (V.int ↑ys.length) H) (Ik (VI (IT 2) (tC (V.str "parts"))) qc)) (tC (V.int 2))))) [some (.ref a),some (.int k),some (.ref m),some (.ref ln),some (.int way),some (.bl (decide ((st.nms.length:Int)<(nms.length:Int)))),none,none] H (fun b' H'=>b'=b/\H'=H):=fun b eb=>by
  refine ⟨_,Z,_,_,Z,Z,_,Z,aQ (fun c=>⟨?_,Z⟩) (fun c=>⟨_,Z,m,_,Z,vp▸dW.k (k:=Sum.inr "parts") om,lp,_,Z, .inl op,_,_,Z,Z,_,Z,?_,Z⟩)⟩
  . rw [eb];exact (bq (.inl (bg c))).symm
  . have c':¬ way<3:=tT (qa.mpr c)
    rw [eb]
    by_cases h2:st.aj.length<2
    . rw [bq (.inr h2:way<3\/st.aj.length<2)];exact bq (by omega)
    . rw [dw (fun z=>z.elim c' h2:¬ (way<3\/st.aj.length<2))];exact dw (by omega)
 by_cases hL:st.nms.length<nms.length/\(way<3\/st.aj.length<2)
 . refine ⟨true,⟨_,Z,_,Z,aQ (fun _=>⟨true,orR true (bq hL.2).symm,Z,Z⟩) (fun c=>absurd (bq (by omega)) c)⟩,mF ?_⟩
   have ey:=bD hL.1
   obtain ⟨y1,y2,y3⟩:=nx.next ey
   generalize nms[st.nms.length]=y at *
   have eyv:rH (nms.map V.str) ((st.nms.length:Nat):Int)=some (.str y):=aA (by rw [cA,ey];rfl)
   refine ⟨_,Z,m,_,Z,vo▸dW.k (k:=Sum.inr "owners") om,_,Z,_,Z,_,Z,m,_,Z,vo▸dW.k (k:=Sum.inr "owners") om,lo,_,Z, .inl oo,c6 hS h63 hk0 (by decide) (by decide) (by rw [aH];omega) fun wd _ w0 w1=>?_⟩
   rw [aH] at w1
   obtain ⟨jo,o,ejo,eo,eat⟩:=JJ (l:=st.own) (d:=wd) w0 w1
   have how:=cg eo
   refine ⟨lo,_,_,_,Z,Z,oo,eat,?_⟩
   refine ⟨_,Z,_,Z,Jo hS h63 hk0 (by decide) (by decide) fun w H1 w1 w2 g1=>?_⟩
   refine ⟨_,Z,_,Z,m,_,Z,vk▸dW.k (k:=Sum.inr "known") (g1 _ _ om),lk,_,Z, .inl (g1.seq ok),ln,_,_,_,Z,Z,g1.seq hN,by rw [aH];exact eyv,_,Z,_,Z,_,Z,_,Z,c6 (g1.seq hS) h63 hk0 (by decide) (by decide) (by decide) fun v _ v0 v1=>⟨(iy 5),fun t ht=>q t (.load y o w v) _ (g1.trans (aG ht _)) ah ⟨PU y1 y2 how w1 v0,⟨qw y1,qw (g.on o how),⟨by omega,by omega⟩,⟨by omega,by omega⟩⟩,y3 _ rfl,by show (1:Nat)≠0;decide⟩⟩⟩
 refine ⟨false,⟨_,Z,_,Z,aQ (fun c=>⟨false,orR false (dw (fun z=>hL ⟨by have:=bg c;omega,z⟩)).symm,Z,Z⟩) (fun c=>⟨Z,Z⟩)⟩,jg ?_⟩
 refine ⟨_,Z,m,_,Z,vp▸dW.k (k:=Sum.inr "parts") om,lp,_,Z, .inl op,Z,_,Z,aQ (fun c=>?_) (fun cz=>?_)⟩
 . exact ⟨(iy 1),fun t ht=>q t .still _ (aG ht _) ah ⟨Z,True.intro,nx,by show (9:Nat)≠0;decide⟩⟩
 have c':0<st.aj.length:=Nat.pos_of_ne_zero fun z=>cz (bq (by rw [ll,z];rfl))
 exact ⟨_,Z,_,Z,_,Z,_,Z,_,Z,⟨⟨a,m,ln,ns,k,way,nms,c,st,Z,hS,h63,hk0,hk1,hq,hN,nx,hnl,wf,g,hc,c',q⟩⟩⟩
abbrev ym:Stmt:=top 35
abbrev vG:List Str:=["_law_parts","_law_name_here"]
abbrev SK:List Str:=vG.append ["_law_at_here"]
theorem DE:aR SK vG (aE ym):=dP
theorem Qs (F:At K mg "_law_at" ym f fd) (bZ:mg "len"=none) (cZ:mg "range"=none):Dn P w K mg base 1 "_law_at" vG (VX K):=by
 refine F.oA DE fun cdv A outer s H vs Q E hr h=>?_
 obtain ⟨⟨l,us,ws,j,r,rfl,hl,hW,nd,hle,ej,q⟩⟩:=h
 refine ⟨_,(@c5.h _ _ _ (ai (fK gc rfl (lI (by rfl) cZ (af (bJ (di K) (by rfl) bZ fQ (af (qv 0) aq)) aq)) (aY (i:=2) DE.nd) (ay (cL (aU dS (aP (gH K) (aP (cU K) (qv 0) (qv 2)) ak) (qv 1) (bf _)) (ay (bB (qv 2))) bF)))
  (ay (bB (PY IW ak))))),?_⟩
 have ll:=hW.len
 have hj:j<ws.length:=(dO.mp ej).1
 refine ⟨_,Z,l,_,Z, .inl hl,_,Z,by omega,by omega,?_⟩
 refine lg (lo:=0) (n:=((us.length:Nat):Int).toNat) (fun i σ H'=>H'=H/\i<=j/\∃s2,σ=[some (.ref l),some (.str r.1),s2]) ⟨Z,gh _,_,Z⟩ ?_ ?_
 . rintro i σ H' hi ⟨rfl,hn,s2,rfl⟩
   have e0:(0:Int)+(i:Int)=((i:Nat):Int):=by omega
   rw [e0]
   have hio:i<ws.length:=by omega
   have ei:=bD hio
   obtain ⟨a,xs,ea,xu,x0,_⟩:=hW.at_ i _ ei
   refine ⟨_,Z,_,Z,l,_,_,_,Z,Z,hl,aA ea,xu.ix (i:=0) x0 ?_⟩
   refine ⟨_,Z,Z,_,Z,aQ (fun c=>?_) (fun c=>?_)⟩
   . have c':(ws[i]).1=r.1:=V.str.inj (bg c)
     have:i=j:=by
      have r1:(ws.map (fun r:Row=>r.1))[i]?=some (ws[i]).1:=by rw [cA,ei];rfl
      have r2:(ws.map (fun r:Row=>r.1))[j]?=some r.1:=by rw [cA,ej];rfl
      exact (O7 (by rw [aH];exact hio) nd).mp (r1.trans (by rw [c'];exact r2.symm))
     subst this
     exact ⟨_,Z,q⟩
   . refine ⟨Z,?_,_,Z⟩
     rcases Nat.lt_or_ge i j with z|z
     . exact z
     . have:i=j:=by omega
       subst this
       rw [ei] at ej
       cases ej
       exact absurd (bq rfl) c
 rintro σ H' ⟨rfl,hn,s2,rfl⟩
 omega
abbrev oh:Stmt:=top 36
abbrev kY:List Str:=["_law_model","_law_part","_law_deed_here"]
abbrev DF:List Str:=kY
theorem BL:aR DF kY (aE oh):=dP
theorem BN (F:At K mg "_law_lite_one" oh f fd):Dn P w K mg base 1 "_law_lite_one" kY (Gn K):=by
 refine F.oA BL fun cdv A outer s H vs Q E hr h=>?_
 obtain ⟨⟨n,ρ,B,st,i,p,a,z,d,rfl,hz,G,hb,ep,ea,hd,hpl,hkl,q⟩⟩:=h
 refine ⟨_,(@c5.h _ _ _ (ay (cL (aU dS (aP (aX K) (qv 2) ak) bK (bf _)) (ay (mS (aM iZ (aP (cU K) (qv 1) ak) (aP (aX K) (qv 2) ak)) (mT (qv 1) ak set_list))) (ay (cL (aU dS (aP (aX K) (qv 2) ak) bK (bf _)) (ay (mS (aM cT (aP (cU K) (qv 1) ak) (aP (aX K) (qv 2) ak)) (mT (qv 1) ak set_list))) (ay (cL (aU dS (aP (aX K) (qv 2) ak) bK (bf _)) (ay (mS (aP (aX K) (qv 2) ak) (mT (qv 1) ak set_list))) (ay (cL (aU dS (aP (aX K) (qv 2) ak) bK (bf _)) (ay (mS ak (mT (qv 1) ak set_list))) (ay (cL (aU dS (aP (aX K) (qv 2) ak) bK (bf _)) (ai (mS (aM iZ (aP (cU K) (qv 1) ak) (aP (aX K) (qv 2) ak)) (mT (qv 1) ak set_list))
  (ai (mS (aM iZ (aP (cU K) (qv 1) ak) (aP (aX K) (qv 2) ak)) (mT (qv 1) ak set_list))
  (ai (cu (j_ nG nE nF dX (dN (dB hr) (qv 0) bK) (af (iH (af (aP (aX K) (qv 2) ak) (af (aP (cU K) (qv 1) ak) (af (aP (aX K) (qv 2) ak) (af (aP (aX K) (qv 2) ak) aq))))) aq)))
  (ay (cu (j_ nG nE nF dX (dN (dB hr) (qv 0) bK) (af (aP (aX K) (qv 2) ak) aq))))))) bF))))))))))),?_⟩
 obtain ⟨ha,ca⟩:=hb.pt i _ a (wZ ep) ea
 have ha:H a=some (.lst [.str p.nm, .str p.ow, .int p.wo, .int p.we]):=ha
 have gT:dm K H z d.v:=dm.of hz
 have za:z≠a:=fun e=>by rw [e,ha] at hz;cases hz
 cases d with
 | mishap x m=>
   refine ⟨_,Z,z,_,_,_,Z,Z,gT,aA (j:=0) rfl,Z,_,Z,aQ (fun _=>?_) (fun c=>absurd (bq rfl) c)⟩
   refine ⟨_,Z,a,_,_,_,Z,Z,aK.of ha,aA (j:=2) rfl,_,Z,z,_,_,_,Z,Z,gT,aA (j:=2) rfl,_,_,Z,Z,_,Z,a,_,_,2,Z,Z,ha,Z,?_⟩
   exact q _ _ _ (G.wr rfl) (hb.i8 G (p.nm,p.ow,p.wo-m,p.we) ea) rfl (Fr.write ca)
 | rise x m=>
   refine ⟨_,Z,z,_,_,_,Z,Z,gT,aA (j:=0) rfl,Z,_,Z,aQ (fun c=>absurd (bg c) (by decide)) (fun c=>?_)⟩
   refine ⟨_,Z,z,_,_,_,Z,Z,gT,aA (j:=0) rfl,Z,_,Z,aQ (fun _=>?_) (fun c=>absurd (bq rfl) c)⟩
   refine ⟨_,Z,a,_,_,_,Z,Z,aK.of ha,aA (j:=2) rfl,_,Z,z,_,_,_,Z,Z,gT,aA (j:=2) rfl,_,_,Z,Z,_,Z,a,_,_,2,Z,Z,ha,Z,?_⟩
   exact q _ _ _ (G.wr rfl) (hb.i8 G (p.nm,p.ow,p.wo+m,p.we) ea) rfl (Fr.write ca)
 | hand x o=>
   refine ⟨_,Z,z,_,_,_,Z,Z,gT,aA (j:=0) rfl,Z,_,Z,aQ (fun c=>absurd (bg c) (by decide)) (fun c=>?_)⟩
   refine ⟨_,Z,z,_,_,_,Z,Z,gT,aA (j:=0) rfl,Z,_,Z,aQ (fun c=>absurd (bg c) (by decide)) (fun c=>?_)⟩
   refine ⟨_,Z,z,_,_,_,Z,Z,gT,aA (j:=0) rfl,Z,_,Z,aQ (fun _=>?_) (fun c=>absurd (bq rfl) c)⟩
   refine ⟨_,Z,z,_,_,_,Z,Z,gT,aA (j:=2) rfl,_,Z,a,_,_,1,Z,Z,ha,Z,?_⟩
   exact q _ _ _ (G.wr rfl) (hb.i8 G (p.nm,o,p.wo,p.we) ea) rfl (Fr.write ca)
 | land x=>
   refine ⟨_,Z,z,_,_,_,Z,Z,gT,aA (j:=0) rfl,Z,_,Z,aQ (fun c=>absurd (bg c) (by decide)) (fun c=>?_)⟩
   refine ⟨_,Z,z,_,_,_,Z,Z,gT,aA (j:=0) rfl,Z,_,Z,aQ (fun c=>absurd (bg c) (by decide)) (fun c=>?_)⟩
   refine ⟨_,Z,z,_,_,_,Z,Z,gT,aA (j:=0) rfl,Z,_,Z,aQ (fun c=>absurd (bg c) (by decide)) (fun c=>?_)⟩
   refine ⟨_,Z,z,_,_,_,Z,Z,gT,aA (j:=0) rfl,Z,_,Z,aQ (fun _=>?_) (fun c=>absurd (bq rfl) c)⟩
   refine ⟨_,Z,a,_,_,2,Z,Z,ha,Z,?_⟩
   exact q _ _ _ (G.wr rfl) (hb.i8 G (p.nm,p.ow,0,p.we) ea) rfl (Fr.write ca)
 | sever x y m we=>
   refine ⟨_,Z,z,_,_,_,Z,Z,gT,aA (j:=0) rfl,Z,_,Z,aQ (fun c=>absurd (bg c) (by decide)) (fun c=>?_)⟩
   refine ⟨_,Z,z,_,_,_,Z,Z,gT,aA (j:=0) rfl,Z,_,Z,aQ (fun c=>absurd (bg c) (by decide)) (fun c=>?_)⟩
   refine ⟨_,Z,z,_,_,_,Z,Z,gT,aA (j:=0) rfl,Z,_,Z,aQ (fun c=>absurd (bg c) (by decide)) (fun c=>?_)⟩
   refine ⟨_,Z,z,_,_,_,Z,Z,gT,aA (j:=0) rfl,Z,_,Z,aQ (fun c=>absurd (bg c) (by decide)) (fun c=>?_)⟩
   refine ⟨_,Z,z,_,_,_,Z,Z,gT,aA (j:=0) rfl,Z,_,Z,aQ (fun _=>?_) (fun c=>absurd (bq rfl) c)⟩
   refine ⟨_,Z,a,_,_,_,Z,Z,aK.of ha,aA (j:=2) rfl,_,Z,z,_,_,_,Z,Z,gT,aA (j:=3) rfl,_,_,Z,Z,_,Z,a,_,_,2,Z,Z,ha,Z,?_⟩
   have h1:=hb.i8 G (p.nm,p.ow,p.wo-m,p.we) ea
   have G1:=G.wr (a:=a) (o:= .lst (iI (p.nm,p.ow,p.wo-m,p.we))) rfl
   have F1:Fr n ρ H ρ (upd H a (.lst (iI (p.nm,p.ow,p.wo-m,p.we)))):=Fr.write ca
   have z1:upd H a (.lst (iI (p.nm,p.ow,p.wo-m,p.we))) z=some (.tup (Dd.v (.sever x y m we))):=by rw [au za];exact hz
   have a1:upd H a (.lst (iI (p.nm,p.ow,p.wo-m,p.we))) a=some (.lst (iI (p.nm,p.ow,p.wo-m,p.we))):=ah
   have n1:∀b,upd H a (.lst (iI (p.nm,p.ow,p.wo-m,p.we))) b=none->H b=none:=fun b=>gE
   show iB _ _ _ _ (upd H a (.lst (iI (p.nm,p.ow,p.wo-m,p.we))))
   generalize upd H a (.lst (iI (p.nm,p.ow,p.wo-m,p.we)))=H1 at *
   refine ⟨_,Z,a,_,_,_,Z,Z,aK.of a1,aA (j:=3) rfl,_,Z,z,_,_,_,Z,Z,dm.of z1,aA (j:=4) rfl,_,_,Z,Z,_,Z,a,_,_,3,Z,Z,a1,Z,?_⟩
   have h2:bP n ρ B (upd H1 a (.lst (iI (p.nm,p.ow,p.wo-m,p.we-we)))) { dQ st with aj:=(br st).set i (p.nm,p.ow,p.wo-m,p.we-we) }:=by
    have:=h1.i8 G1 (p.nm,p.ow,p.wo-m,p.we-we) ea
    have e:((br st).set i (p.nm,p.ow,p.wo-m,p.we)).set i (p.nm,p.ow,p.wo-m,p.we-we)=(br st).set i (p.nm,p.ow,p.wo-m,p.we-we):=uW ..
    rw [<-e];exact this
   have G2:=G1.wr (a:=a) (o:= .lst (iI (p.nm,p.ow,p.wo-m,p.we-we))) rfl
   have F2:=F1.trans (Fr.write (o:= .lst (iI (p.nm,p.ow,p.wo-m,p.we-we))) ca)
   have z2:upd H1 a (.lst (iI (p.nm,p.ow,p.wo-m,p.we-we))) z=some (.tup (Dd.v (.sever x y m we))):=by rw [au za];exact z1
   have a2:upd H1 a (.lst (iI (p.nm,p.ow,p.wo-m,p.we-we))) a=some (.lst (iI (p.nm,p.ow,p.wo-m,p.we-we))):=ah
   have n2:∀b,upd H1 a (.lst (iI (p.nm,p.ow,p.wo-m,p.we-we))) b=none->H b=none:=fun b h=>n1 b (gE h)
   show iB _ _ _ _ (upd H1 a (.lst (iI (p.nm,p.ow,p.wo-m,p.we-we))))
   generalize upd H1 a (.lst (iI (p.nm,p.ow,p.wo-m,p.we-we)))=H2 at *
   refine ⟨_,Z,B.m,_,Z,dW.k (k:=Sum.inr "parts") h2.om, .inl ⟨Z,_,aK.of h2.op⟩,_,Z,z,_,_,_,Z,Z,dm.of z2,aA (j:=2) rfl,_,Z,a,_,_,_,Z,Z,aK.of a2,aA (j:=1) rfl,_,Z,z,_,_,_,Z,Z,dm.of z2,aA (j:=3) rfl,_,Z,z,_,_,_,Z,Z,dm.of z2,aA (j:=4) rfl,(iy 4),fun t ht=>?_⟩
   have g3:=aG ht (.lst (iI (y,p.ow,m,we)))
   have t3:upd H2 t (.lst (iI (y,p.ow,m,we))) t=some (.lst (iI (y,p.ow,m,we))):=ah
   show qc _ (upd H2 t (.lst (iI (y,p.ow,m,we)))) _
   generalize upd H2 t (.lst (iI (y,p.ow,m,we)))=H3 at *
   have tn:H t=none:=n2 t ht
   have ct:ρ t=none:=G2.none ht
   have h3:=(h2.mono g3).col (t:=44) (x:=nx) ct
   have G3:Gh (cO ρ t (n,44,nx)) H3:=(G2.same g3).color t3 rfl
   have F3:Fr n ρ H (cO ρ t (n,44,nx)) H3:=(F2.trans (Fr.of_same (ρ:=ρ) g3)).nR tn
   have tq:t∉B.qs:=fun mem=>by
    obtain ⟨j,hj,ej⟩:=yN mem
    have hj2:j<((br st).set i (p.nm,p.ow,p.wo-m,p.we-we)).length:=by rw [iL,<-show B.qs.length=(br st).length from hb.ql];exact hj
    have:=(h2.pt j _ t (bD hj2) (by rw [bD hj,ej])).1
    rw [ht] at this;cases this
   have ql:(br st).length=st.aj.length:=by unfold br;rw [aH]
   have lq:(B.qs.map V.ref).length<1000:=by rw [aH,hb.ql];show (br st).length<1000;rw [ql];exact hpl
   refine ⟨B.lp,_,_,Z,Z,h3.op,dH (by omega),?_⟩
   rw [show B.qs.map V.ref++[V.ref t]=(B.qs++[t]).map V.ref from by rw [bR];rfl]
   have h4:=h3.Se G3 (q:=(y,p.ow,m,we)) t3 bY tq
   have G4:=G3.wr (a:=B.lp) (o:= .lst ((B.qs++[t]).map V.ref)) rfl
   have F4:=F3.trans (Fr.write (o:= .lst ((B.qs++[t]).map V.ref)) h3.cp)
   have nz:z≠B.lp:=fun e=>by have:=h3.op;rw [<-e,g3 _ _ z2] at this;cases this
   have z4:upd H3 B.lp (.lst ((B.qs++[t]).map V.ref)) z=some (.tup (Dd.v (.sever x y m we))):=by rw [au nz];exact g3 _ _ z2
   generalize upd H3 B.lp (.lst ((B.qs++[t]).map V.ref))=H4 at *
   refine ⟨_,Z,B.m,_,Z,dW.k (k:=Sum.inr "known") h4.om, .inl ⟨Z,_,aK.of h4.ok⟩,_,Z,z,_,_,_,Z,Z,dm.of z4,aA (j:=2) rfl,B.lk,_,_,Z,Z,h4.ok,by rw [aH];exact dH (by show st.nms.length<=1000;omega),?_⟩
   rw [show List.map V.str (dQ st).C9++[V.str y]=(st.nms++[y]).map V.str from by rw [bR];rfl]
   exact q _ _ _ (G4.wr rfl) (h4.Oi G4 (st.nms++[y])) rfl (F4.trans (Fr.write h4.ck))
 | _=>exact absurd hd (by simp [Dd.part])
abbrev pW:Stmt:=top 37
abbrev mh:List Str:=["_law_model","_law_deed_here"]
abbrev EM:List Str:=mh.append ["_law_parts","_law_k","_law_part"]
theorem kZ:aR EM mh (aE pW):=dP
theorem DG (F:At K mg "_law_lite_do" pW f fd) (vH:Dn P w K mg base 1 "_law_at" vG (VX K)) (pX:Dn P w K mg base 1 "_law_lite_one" kY (Gn K)) (bZ:mg "len"=none) (cZ:mg "range"=none):Dn P w K mg base 2 "_law_lite_do" mh (Kf K):=by
 refine F.oA kZ fun cdv A outer s H vs Q E hr h=>?_
 obtain ⟨⟨n,c,ρ,B,st,z,d,rfl,hz,G,hb,wf,g,hc,hr0,hk,q⟩⟩:=h
 refine ⟨_,(@c5.h _ _ _ (ai (aT (i:=2) kZ.nd (dN (dB hr) (qv 0) bK))
  (ai (i9 (aU dS (aP (aX K) (qv 1) ak) bK (bf _)) (ai (cu (j_ nG nE nF dX (qv 2) (af (iH (af (aP (aX K) (qv 1) ak) (af (aP (aX K) (qv 1) ak) (af (aP (aX K) (qv 1) ak) (af (aP (aX K) (qv 1) ak) aq))))) aq)))
  (ay (cu (j_ nG nE nF dX (dN (dB hr) (qv 0) bK) (af (aP (aX K) (qv 1) ak) aq))))) (ay (cL (aU dS (aP (aX K) (qv 1) ak) bK (bf _)) (ay (fK gc rfl (Gd (by rfl) cZ (af ak (af (bJ (di K) (by rfl) bZ fQ (af (qv 1) aq)) (af ak aq)))) (aY (i:=3) kZ.nd) (ai (aT (i:=4) kZ.nd (aP (cU K) (qv 2) (bX vH hr (af (qv 2) (af (aP (aX K) (qv 1) (qv 3)) aq)))))
  (ay (mS (aM iZ (aP (cU K) (qv 4) ak) (aP (aX K) (qv 1) (aM cT (qv 3) ak))) (mT (qv 4) ak set_list)))))) (ay (cL (aU Jc (aP (aX K) (qv 1) ak) (iG (af bK (af bK aq))) (by with_unfolding_all rfl)) (ay (cu (bX pX hr (af (qv 0) (af (aP (cU K) (qv 2) (bX vH hr (af (qv 2) (af (aP (aX K) (qv 1) ak) aq)))) (af (qv 1) aq)))))) bF)))))
  (ay (tR (dB hr) (qv 0) bK (JY ["_law_part"] [none] rfl (eT K (dN (dB hr) (qv 0) bK)) (fun _ _ _ _=>(aY (i:=0) (show List.Nodup (["_law_part"] :List Str) from by decide +kernel))) (fun _ _ _ _=>(qv 0)) (fun _ _ _ _=>(aU jn (aP (cU K) (qv 0) ak) ak (bf _))) rfl (by rfl)) rfl))))),?_⟩
 have gT:dm K H z d.v:=dm.of hz
 have hpl:=g.pl
 have hkl:=g.kl
 refine ⟨_,Z,B.m,_,Z,dW.k (k:=Sum.inr "parts") hb.om,?_⟩
 refine ⟨fun σ' H'=>∃ρ5 B5 l5 s2 s3 s4,σ'=[some (.ref B.m),some (.ref z),s2,s3,s4]/\Gh ρ5 H'/\bP n ρ5 B5 H' l5/\l5.aj.length<=1000/\P_ l5=dQ (jy st d)/\B5.m=B.m/\Fr n ρ H ρ5 H',?_,?_⟩
 . have ql:(br st).length=st.aj.length:=by unfold br;rw [aH]
   have bql:B.qs.length=st.aj.length:=by rw [<-ql];exact hb.ql
   have ndQ:((br st).map fun q:Q4=>q.1).Nodup:=by rw [Qc];exact wf.dh
   have lq:(B.qs.map V.ref).length<1000:=by rw [aH];omega
   by_cases hp:d.part=none
   rotate_left
   ·
    obtain ⟨x,hx⟩:=Option.ne_none_iff_exists'.mp hp
    obtain ⟨e1,k1,k2,k3,k9⟩:=Dd.ZU hx
    obtain ⟨j,p,ep,en⟩:=kU (XD hx hr0)
    subst en
    refine ⟨_,Z,z,_,_,_,Z,Z,gT,aA d.v0,Z,_,Z,aQ (fun c=>absurd (V.str.inj (bg c)) (d.PX k1 (by decide))) (fun _=>?_)⟩
    refine ⟨_,Z,z,_,_,_,Z,Z,gT,aA d.v0,Z,_,Z,aQ (fun c=>absurd (V.str.inj (bg c)) (d.PX k2 (by decide))) (fun _=>?_)⟩
    have hin:(!Fl (.str d.w) ((["award","still"] :List Str).map V.str))=true:=by rw [Uu,dw (fun m=>by rcases dz.mp m with w|w;exact d.PX k3 (by decide) w;exact d.PX k9 (by decide) (fU.mp w))];rfl
    refine ⟨_,Z,z,_,_,_,Z,Z,gT,aA d.v0,(iy 2),fun t ht=>⟨t,_,Z, .inr (dm.of ah),Z,zj ["award","still"],_,Z,aQ (fun _=>?_) (fun c=>absurd hin c)⟩⟩
    have g1:=aG ht (.tup [.str "award", .str "still"])
    have G1:=G.same g1
    have h1:=hb.mono g1
    have z1:=g1 _ _ hz
    generalize upd H t (.tup [.str "award", .str "still"])=H1 at *
    have jB:j<B.qs.length:=by rw [bql];exact (dO.mp ep).1
    have ea:=bD jB
    generalize B.qs[j]=a at *
    refine ⟨_,Z,_,Z,_,Z,_,Z,z,_,_,_,Z,Z,dm.of z1,aA e1,⟨⟨B.lp,_,w6 (br st),j,(p.nm,p.wo),Z,aK.of h1.op,h1.nw,by rw [Gp];exact ndQ,by unfold w6;rw [aH];omega,by unfold w6;rw [cA,wZ ep];rfl,?_⟩⟩⟩
    refine ⟨B.lp,_,_,_,Z,Z,aK.of h1.op,aA (by rw [cA,ea];rfl),_,Z,⟨⟨n,ρ,B,st,j,p,a,z,d,Z,z1,G1,h1,ep,ea,hx,by omega,by omega,fun ρ' B' H' G' h' em F'=>?_⟩⟩⟩
    exact ⟨ρ',B',_,_,_,_,Z,G',h',gf (US _ _ _ _) (by show (br st).length+1<=1000;omega),UO wf hr0 ep hx,em,(Fr.of_same g1).trans F'⟩
   cases d with
   | load x o wo we=>
     refine ⟨_,Z,z,_,_,_,Z,Z,gT,aA (j:=0) rfl,Z,_,Z,aQ (fun _=>?_) (fun c=>absurd (bq rfl) c)⟩
     refine ⟨_,Z, .inl ⟨Z,_,aK.of hb.op⟩,_,Z,z,_,_,_,Z,Z,gT,aA (j:=1) rfl,_,Z,z,_,_,_,Z,Z,gT,aA (j:=2) rfl,_,Z,z,_,_,_,Z,Z,gT,aA (j:=3) rfl,_,Z,z,_,_,_,Z,Z,gT,aA (j:=4) rfl,(iy 4),fun t ht=>?_⟩
     have g3:=aG ht (.lst (iI (x,o,wo,we)))
     have t3:upd H t (.lst (iI (x,o,wo,we))) t=some (.lst (iI (x,o,wo,we))):=ah
     show qc _ (upd H t (.lst (iI (x,o,wo,we)))) _
     generalize upd H t (.lst (iI (x,o,wo,we)))=H3 at *
     have ct:ρ t=none:=G.none ht
     have h3:=(hb.mono g3).col (t:=44) (x:=nx) ct
     have G3:Gh (cO ρ t (n,44,nx)) H3:=(G.same g3).color t3 rfl
     have F3:Fr n ρ H (cO ρ t (n,44,nx)) H3:=(Fr.of_same (ρ:=ρ) g3).nR ht
     have tq:t∉B.qs:=fun mem=>by
      obtain ⟨j,hj,ej⟩:=yN mem
      have hj2:j<(br st).length:=by omega
      have:=(hb.pt j _ t (bD hj2) (by rw [bD hj,ej])).1
      rw [ht] at this;cases this
     refine ⟨B.lp,_,_,Z,Z,h3.op,dH (by omega),?_⟩
     rw [show B.qs.map V.ref++[V.ref t]=(B.qs++[t]).map V.ref from by rw [bR];rfl]
     have h4:=h3.Se G3 (q:=(x,o,wo,we)) t3 bY tq
     have G4:=G3.wr (a:=B.lp) (o:= .lst ((B.qs++[t]).map V.ref)) rfl
     have F4:=F3.trans (Fr.write (o:= .lst ((B.qs++[t]).map V.ref)) h3.cp)
     have nz:z≠B.lp:=fun e=>by have:=h3.op;rw [<-e,g3 _ _ hz] at this;cases this
     have z4:upd H3 B.lp (.lst ((B.qs++[t]).map V.ref)) z=some (.tup (Dd.v (.load x o wo we))):=by rw [au nz];exact g3 _ _ hz
     generalize upd H3 B.lp (.lst ((B.qs++[t]).map V.ref))=H4 at *
     refine ⟨_,Z,B.m,_,Z,dW.k (k:=Sum.inr "known") h4.om, .inl ⟨Z,_,aK.of h4.ok⟩,_,Z,z,_,_,_,Z,Z,dm.of z4,aA (j:=1) rfl,B.lk,_,_,Z,Z,h4.ok,by rw [aH];exact dH (by show st.nms.length<=1000;omega),?_⟩
     rw [show List.map V.str (dQ st).C9++[V.str x]=(st.nms++[x]).map V.str from by rw [bR];rfl]
     exact ⟨_,_,_,_,_,_,Z,G4.wr rfl,h4.Oi G4 (st.nms++[x]),by show (br st++[_]).length<=1000;rw [dj];show (br st).length+1<=1000;omega,yf (d:= .load x o wo we) wf hr0 rfl hk,Z,F4.trans (Fr.write h4.ck)⟩
   | cast rs=>
     refine ⟨_,Z,z,_,_,_,Z,Z,gT,aA (j:=0) rfl,Z,_,Z,aQ (fun c=>absurd (bg c) (by decide)) (fun c=>?_)⟩
     refine ⟨_,Z,z,_,_,_,Z,Z,gT,aA (j:=0) rfl,Z,_,Z,aQ (fun _=>?_) (fun c=>absurd (bq rfl) c)⟩
     obtain ⟨_,Wc,vV,_⟩:=vA hr0
     have hrl:rs.length<=st.aj.length:=by
      have:=t_ (l:=rs.map fun r:Row=>r.1) (m:=eU st) Wc (fun x hx=>by obtain ⟨r,hr,rfl⟩:=bH.mp hx;exact (kh (vV r hr)).1)
      rwa [aH,show (eU st).length=st.aj.length by unfold eU;rw [aH]] at this
     refine ⟨_,Z,z,_,Z, .inr gT,_,_,_,Z,⟨by decide,by decide,by omega,by rw [yg];omega,by decide,by decide⟩,?_⟩
     rw [yg,Sk]
     refine Py (lo:=1) (st:=2) (n:=rs.length) (fun i σ H'=>∃s3 s4,σ=[some (.ref B.m),some (.ref z),some (.ref B.lp),s3,s4]/\Gh ρ H'/\bP n ρ B H' { dQ st with aj:=lJ (rs.take i) (br st) }/\Fr n ρ H ρ H'/\H' z=some (.tup (Dd.v (.cast rs)))) ⟨_,_,Z,G,by rw [List.take_zero,UR];exact hb,Fr.refl,hz⟩ ?_ ?_
     . rintro i σ H' hi ⟨s3,s4,rfl,G',h',F',z'⟩
       have ei:=bD hi
       generalize rs[i]=r at *
       obtain ⟨c1,c2⟩:=Ol ei
       obtain ⟨j,p,ep,en⟩:=kU (kh (vV r (cg ei))).1
       have jB:j<B.qs.length:=by rw [bql];exact (dO.mp ep).1
       have ea:=bD jB
       generalize B.qs[j]=a at *
       have hn:r.1∉(rs.take i).map (fun r:Row=>r.1):=by
        rw [List.map_take]
        exact qj Wc (by rw [cA,ei];rfl)
       obtain ⟨m1,m2⟩:=Sl (rs:=rs.take i) (r:=r) ndQ (wZ ep) en hn
       obtain ⟨ha,ca⟩:=h'.pt j _ a m2 ea
       have ha:H' a=some (.lst [.str p.nm, .str p.ow, .int p.wo, .int p.we]):=ha
       have e1:(1:Int)+(i:Int)*2=((1+2*i:Nat):Int):=by omega
       have e2:((1+2*i:Nat):Int)+1=((2+2*i:Nat):Int):=by omega
       rw [e1]
       refine ⟨_,Z,_,Z,_,Z,_,Z,z,_,_,_,Z,Z,dm.of z',aA c1,⟨⟨B.lp,_,w6 (lJ (rs.take i) (br st)),j,(r.1,p.wo),Z,aK.of h'.op,h'.nw,by rw [Gp,Qa];exact ndQ,by unfold w6;rw [aH,Kh];omega,by unfold w6;rw [cA,m2,<-en];rfl,?_⟩⟩⟩
       refine ⟨B.lp,_,_,_,Z,Z,aK.of h'.op,aA (by rw [cA,ea];rfl),?_⟩
       refine ⟨_,Z,a,_,_,_,Z,Z,aK.of ha,aA (j:=2) rfl,_,Z,_,Z,_,_,Z,Z,z,_,_,_,Z,Z,dm.of z',by rw [e2];exact aA c2,_,_,Z,Z,_,Z,a,_,_,2,Z,Z,ha,Z,?_⟩
       have za:z≠a:=fun e=>by rw [e,ha] at z';cases z'
       refine ⟨_,_,Z,G'.wr rfl,?_,F'.trans (Fr.write ca),by rw [au za];exact z'⟩
       rw [take_snoc ei,m1]
       exact h'.i8 G' (p.nm,p.ow,p.wo-r.2,p.we) ea
     rintro σ H' ⟨s3,s4,rfl,G',h',F',z'⟩
     rw [cW] at h'
     exact ⟨ρ,B,_,_,_,_,Z,G',h',by show (lJ rs (br st)).length<=1000;rw [Kh];omega,yf (d:= .cast rs) wf hr0 rfl hk,Z,F'⟩
   | award o a=>
     refine ⟨_,Z,z,_,_,_,Z,Z,gT,aA (j:=0) rfl,Z,_,Z,aQ (fun c=>absurd (bg c) (by decide)) (fun c=>?_)⟩
     refine ⟨_,Z,z,_,_,_,Z,Z,gT,aA (j:=0) rfl,Z,_,Z,aQ (fun c=>absurd (bg c) (by decide)) (fun c=>?_)⟩
     exact ⟨_,Z,z,_,_,_,Z,Z,gT,aA (j:=0) rfl,(iy 2),fun t ht=>⟨t,_,Z, .inr (dm.of ah),Z,zj ["award","still"],_,Z,aQ (fun c=>absurd c (by decide +kernel)) (fun _=>⟨ρ,B,dQ st,_,_,_,Z,G.same (aG ht _),hb.mono (aG ht _),by show (br st).length<=1000;omega,yf (d:= .award o a) wf hr0 rfl hk,Z,Fr.of_same (aG ht _)⟩)⟩⟩
   | still=>
     refine ⟨_,Z,z,_,_,_,Z,Z,gT,aA (j:=0) rfl,Z,_,Z,aQ (fun c=>absurd (bg c) (by decide)) (fun c=>?_)⟩
     refine ⟨_,Z,z,_,_,_,Z,Z,gT,aA (j:=0) rfl,Z,_,Z,aQ (fun c=>absurd (bg c) (by decide)) (fun c=>?_)⟩
     exact ⟨_,Z,z,_,_,_,Z,Z,gT,aA (j:=0) rfl,(iy 2),fun t ht=>⟨t,_,Z, .inr (dm.of ah),Z,zj ["award","still"],_,Z,aQ (fun c=>absurd c (by decide +kernel)) (fun _=>⟨ρ,B,dQ st,_,_,_,Z,G.same (aG ht _),hb.mono (aG ht _),by show (br st).length<=1000;omega,yf (d:= .still) wf hr0 rfl hk,Z,Fr.of_same (aG ht _)⟩)⟩⟩
   | sign o=>exact absurd rfl hk
   | _=>exact absurd hp (by simp [Dd.part])
 rintro σ H5 ⟨ρ5,B5,l5,s2,s3,s4,rfl,G5,h5,pl5,el5,em5,F5⟩
 have Wr:=h5.ql
 have qml:(B5.qs.map V.ref).length=l5.aj.length:=by rw [aH];exact Wr
 have om6:H5 B.m=some (.dK (iN B5)):=by rw [<-em5];exact h5.om
 refine ⟨_,Z,B.m,_,Z,dW.k (k:=Sum.inr "parts") om6,B5.lp,Z,⟨_,aK.of h5.op⟩,fun lp Aa=>?_⟩
 refine Xa (J:=yt K B5.lp) (n:=l5.aj.length) 0 (fun i o H'=>aO H5 H'/\o=(jR (l5.aj.take i) (B5.qs.take i)).map V.ref) (by omega) ⟨aG Aa _,Z⟩ (fun i o H' hi _ hp=>⟨_,_,aK.of (hp.1 _ _ h5.op),bD (by rw [qml];exact hi)⟩) (fun o H' _ hp=>⟨_,aK.of (hp.1 _ _ h5.op),by rw [qml];exact aN _⟩) ?_ ?_
 . rintro i y o H7 H8 hi fY ha ⟨g,e⟩ ⟨rfl,hy⟩
   have ei:=bD hi
   obtain ⟨qq,eq,k1,_⟩:=h5.find ei
   have ey:=hy _ (aK.of (g _ _ h5.op))
   rw [cA,eq] at ey
   cases ey
   have es:=Me ei eq
   refine ⟨_,Z,qq,_,_,_,Z,Z,aK.of (g _ _ k1),aA (j:=2) rfl,_,_,Z,Z,_,Z,aQ (fun c=>?_) (fun c=>?_)⟩
   . rw [aD (bg c)] at es
     refine ⟨_,Z,ha,g.cX Aa _,?_⟩
     rw [es,e,bR]
     rfl
   . rw [aB (tT (qa.mpr c))] at es
     exact ⟨ha,g,by rw [es,e,Af]⟩
 rintro o H7 _ ha ⟨g7,e⟩
 rw [cW,<-Wr,cW] at e
 subst e
 have h7:=h5.mono g7
 have G7:=G5.same g7
 have clp:ρ5 lp=none:=G5.none Aa
 have h8:=h7.col (t:=42) (x:=nx) clp
 have G8:Gh (cO ρ5 lp (n,42,nx)) H7:=G7.color ha rfl
 have F8:Fr n ρ H (cO ρ5 lp (n,42,nx)) H7:=F5.trans (Fr.color Aa g7)
 have h9:bP n (cO ρ5 lp (n,42,nx)) { { B5 with lp:=lp } with qs:=jR l5.aj B5.qs } (upd H7 B5.m (.dK (iN { B5 with lp:=lp }))) (P_ l5):=h8.ZS G8 (lp:=lp) (qs:=jR l5.aj B5.qs) (ps:=l5.aj.filter fun p=>decide (0<p.2.2.1)) ha bY (h5.nd.sublist yd) (De Wr) (fun i x y ex ey=>by
  obtain ⟨j,a1,a2⟩:=zS Wr ex ey
  exact h8.pt j x y a1 a2)
 have cm8:=h8.cm
 rw [em5] at h9 cm8
 refine ⟨_,Z,B.m,_,Z,vM.k (k:=Sum.inr "parts") (by rw [<-em5];exact h7.om) (by show 3<sizeLine;decide),?_⟩
 rw [UQ]
 rw [el5] at h9
 exact q _ _ _ (G8.wr rfl) h9 rfl (F8.trans (Fr.write cm8))
abbrev sR:Stmt:=top 38
abbrev pY:List Str:=["_law_script","_law_k","_law_model","_law_names_here","_law_many"]
abbrev Li:List Str:=pY.append ["_law_deeds_here","_law_at_here","_law_deed_here"]
theorem nC:aR Li pY (aE sR):=dP
theorem Hq (F:At K mg "_law_deeds" sR f fd) (v5:Dn P w K mg base 4 "_law_deed" rF (Sh K)) (qM:Dn P w K mg base 2 "_law_lite_do" mh (Kf K)) (cZ:mg "range"=none):Dn P w K mg base 5 "_law_deeds" pY (Om K):=by
 refine F.oA nC fun cdv A outer s H vs Q E hr h=>?_
 obtain ⟨⟨n,c,m,ρ,B,st,a,ln,ns,k,nms,many,rfl,G,hb,gw,hc,hm,ho,fS,h63,hk0,hk1,fN,nx,hnl,q⟩⟩:=h
 refine ⟨_,(@c5.h _ _ _ (ai (aT (i:=5) nC.nd (iH aq))
  (ai (fK gc rfl (lI (by rfl) cZ (af (qv 4) aq)) (aY (i:=6) nC.nd) (ai (aT (i:=7) nC.nd (bX v5 hr (af (qv 0) (af (aM cT (qv 1) (qv 6)) (af (qv 2) (af (qv 3) aq))))))
  (ai (cu (bX qM hr (af (qv 2) (af (qv 7) aq))))
  (ay (cu (j_ nG nE nF dX (qv 5) (af (qv 7) aq)))))))
  (ay (bB (qv 5)))))),?_⟩
 refine ⟨(iy 0),fun l hl=>?_⟩
 have g0:=aG hl (.lst [])
 have rT:upd H l (.lst []) l=some (.lst []):=ah
 show iB _ _ _ _ (upd H l (.lst []))
 have F0:Fr n ρ H ρ (upd H l (.lst [])):=Fr.of_same g0
 have cl0:ρ l=none:=G.none hl
 have G0:=G.same g0
 have hb0:=hb.mono g0
 generalize upd H l (.lst [])=H0 at *
 refine ⟨_,Z,_,Z,by omega,by omega,?_⟩
 refine lg (lo:=0) (n:=((many:Nat):Int).toNat) (fun i σ H'=>∃ρ' B' zs ds s6 s7,σ=[some (.ref a),some (.int k),some (.ref B.m),some (.ref ln),some (.int (many:Int)),some (.ref l),s6,s7]/\Gh ρ' H'/\bP n ρ' B' H' (dQ (iw st ds))/\B'.m=B.m/\Fr n ρ H ρ' H'/\H' l=some (.lst zs)/\ρ' l=none/\mH H' zs ds/\w_ st ds/\ds.length=i/\Nx nms (iw st ds))
  ⟨ρ,B,[],[],_,_,Z,G0,hb0,Z,F0,rT,cl0, .nil,w_.nil st,Z,nx⟩ ?_ ?_
 . rintro i σ H1 hi ⟨ρ1,B1,zs,ds,s6,s7,rfl,G1,h1,em,F1,hl1,Ws,hD,hC,hdl,nx1⟩
   have hi:i<many:=by omega
   have e0:(0:Int)+(i:Int)=((i:Nat):Int):=by omega
   rw [e0]
   obtain ⟨SM,eo⟩:=hC.go gw (by omega) (by omega) ho ds.length (aN _)
   rw [cW] at SM eo
   have o1:=F1.out
   have Wt:=fS _ _ o1
   have hN1:=fN _ _ o1
   refine ⟨_,Z,_,Z,_,Z,_,_,Z,Z,_,Z,_,Z,⟨⟨a,B.m,ln,ns,k+i,nms,c+ds.length,iw st ds,Z,Wt,h63,by omega,by omega,by rw [<-em];exact h1.q,hN1,nx1,hnl,SM.wf,SM.g,by omega,fun z d H2 g2 hz hd=>?_⟩⟩⟩
   obtain ⟨d1,d2,d3,d4⟩:=hd
   have G2:=G1.same g2
   refine ⟨_,Z,_,Z,⟨⟨n,c+ds.length,ρ1,B1,iw st ds,z,d,by rw [em];rfl,hz,G2,h1.mono g2,SM.wf,SM.g,by omega,d1,d4,fun ρ3 B3 H3 G3 h3 em3 F3=>?_⟩⟩⟩
   obtain ⟨hl3,cl3⟩:=F3 l _ (g2 _ _ hl1) (fun t x e=>by rw [Ws] at e;cases e)
   have tu:∀b xs,H2 b=some (.tup xs)->H3 b=some (.tup xs):=fun b xs e=>(F3 b _ e (fun t x z=>by rw [G2.tup e] at z;cases z)).1
   have zl:=hD.length
   refine ⟨_,Z, .inl ⟨Z,_,aK.of hl3⟩,_,Z,l,_,_,Z,Z,hl3,dH (by omega),?_⟩
   have Gx:=(F1.trans (Fr.of_same (ρ:=ρ1) g2)).trans F3
   have tl:∀b xs,H3 b=some (.tup xs)->upd H3 l (.lst (zs++[.ref z])) b=some (.tup xs):=jO (.inr ⟨_,hl3,Z⟩)
   have aaP:ρ3 l=none:=cl3.trans Ws
   refine ⟨ρ3,B3,zs++[.ref z],ds++[d],_,_,Z,G3.wr rfl,?_,em3.trans em,Gx.new hl,ah,aaP,((((hD.mono g2.tups).mono tu).snoc (tu _ _ hz)).mono tl),hC.snoc d1 d2 d4,by rw [dj];show ds.length+1=i+1;omega,by rw [pG];exact d3⟩
   rw [pG]
   exact h3.same (wQ aaP hl3 rfl)
 rintro σ H1 ⟨ρ1,B1,zs,ds,s6,s7,rfl,G1,h1,em,F1,hl1,Ws,hD,hC,hdl,nx1⟩
 exact ⟨_,Z,q l zs ds ρ1 B1 H1 G1 h1 em F1 hl1 Ws hD hC (by omega) nx1⟩
abbrev pZ:Stmt:=top 39
abbrev mj:List Str:=["_law_hold","_law_deed_here"]
abbrev EN:List Str:=mj
theorem DH:aR EN mj (aE pZ):=dP
theorem DI {T:TC} {e:Ec} (F:At K mg "_law_hold_do" pZ f fd) (kK:Mn P w K mg base 3 T.hold "sign" mV (D_ T)) (v7:Mn P w K mg base 4 T.hold "load" q_ (RS T)) (jG:Mn P w K mg base 4 T.hold "cast" mW (JL T K)) (Lj:Mn P w K mg base 4 T.hold "award" pQ (sN (J3 T e))) (Hr:Mn P w K mg base 3 T.hold "mishap" nq (sN (Ge T e))) (ME:Mn P w K mg base 2 T.hold "rise" rj (sN (N9 T e))) (MF:Mn P w K mg base 2 T.hold "hand" rm (sN (N_ T e))) (MG:Mn P w K mg base 5 T.hold "land" rA (sN (Od T e))) (Lk:Mn P w K mg base 4 T.hold "sever" pR (sN (J4 T e))) (bZ:mg "len"=none) (cZ:mg "range"=none):Dn P w K mg base 6 "_law_hold_do" mj (Kg T K):=by
 refine F.oA DH fun cdv A outer s H vs Q E hr h=>?_
 obtain ⟨⟨n,c,ρ,A,st,z,d,rfl,hz,hh,gg,hc,hk,ho,hr0,q⟩⟩:=h
 refine ⟨_,(@c5.h _ _ _ (ai (cL (aU dS (aP (aX K) (qv 1) ak) bK (bf _)) (ay (bB (cI kK hr (qv 0) (af (aP (aX K) (qv 1) ak) aq)))) (ay (cL (aU dS (aP (aX K) (qv 1) ak) bK (bf _)) (ay (bB (cI v7 hr (qv 0) (af (aP (aX K) (qv 1) ak) (af (aP (aX K) (qv 1) ak) (af (aP (aX K) (qv 1) ak) (af (aP (aX K) (qv 1) ak) aq))))))) (ay (cL (aU dS (aP (aX K) (qv 1) ak) bK (bf _)) (ay (bB (cI jG hr (qv 0) (af (iU ["_law_k","_law_deed_here"] [none,some 1] rfl (Gd (by rfl) cZ (af ak (af (bJ (di K) (by rfl) bZ fQ (af (qv 1) aq)) (af ak aq)))) (fun _ _ _ _=>(aY (i:=0) (show List.Nodup (["_law_k","_law_deed_here"] :List Str) from by decide +kernel))) (fun _ _ _ _=>(iG (af (aP (aX K) (qv 1) (qv 0)) (af (aP (aX K) (qv 1) (aM cT (qv 0) ak)) aq)))) rfl (by rfl)) aq)))) (ay (cL (aU dS (aP (aX K) (qv 1) ak) bK (bf _)) (ay (bB (cI Lj hr (qv 0) (af (aP (aX K) (qv 1) ak) (af (aP (aX K) (qv 1) ak) aq))))) (ay (cL (aU dS (aP (aX K) (qv 1) ak) bK (bf _)) (ay (bB (cI Hr hr (qv 0) (af (aP (aX K) (qv 1) ak) (af (aP (aX K) (qv 1) ak) aq))))) (ay (cL (aU dS (aP (aX K) (qv 1) ak) bK (bf _)) (ay (bB (cI ME hr (qv 0) (af (aP (aX K) (qv 1) ak) (af (aP (aX K) (qv 1) ak) aq))))) (ay (cL (aU dS (aP (aX K) (qv 1) ak) bK (bf _)) (ay (bB (cI MF hr (qv 0) (af (aP (aX K) (qv 1) ak) (af (aP (aX K) (qv 1) ak) aq))))) (ay (cL (aU dS (aP (aX K) (qv 1) ak) bK (bf _)) (ay (bB (cI MG hr (qv 0) (af (aP (aX K) (qv 1) ak) aq)))) (ay (cL (aU dS (aP (aX K) (qv 1) ak) bK (bf _)) (ay (bB (cI Lk hr (qv 0) (af (aP (aX K) (qv 1) ak) (af (aP (aX K) (qv 1) ak) (af (aP (aX K) (qv 1) ak) (af (aP (aX K) (qv 1) ak) aq))))))) bF)))))))))))))))))
  (ay (bB ZF)))),?_⟩
 have wf:=hh.wf
 have hpl:=gg.pl
 have hkl:=gg.kl
 cases d with
 | sign o=>
   obtain ⟨s1,s2⟩:=Sm hr0
   refine ⟨_,Z,z,_,_,_,Z,Z,hz,aA (j:=0) rfl,Z,_,Z,aQ (fun _=>?_) (fun c=>absurd (bq rfl) c)⟩
   refine ⟨_,Z,A.a,A.dx,_,Z,hh.h.oa,Z,_,Z,z,_,_,_,Z,Z,hz,aA (j:=1) rfl,⟨⟨n,ρ,A,st,o,Z,hh,s1,s2,ho,q⟩⟩⟩
 | load x o wo we=>
   obtain ⟨l1,l2,l3,l4,l5⟩:=vq hr0
   refine ⟨_,Z,z,_,_,_,Z,Z,hz,aA (j:=0) rfl,Z,_,Z,aQ (fun c=>absurd (bg c) (by decide)) (fun c=>?_)⟩
   refine ⟨_,Z,z,_,_,_,Z,Z,hz,aA (j:=0) rfl,Z,_,Z,aQ (fun _=>?_) (fun c=>absurd (bq rfl) c)⟩
   refine ⟨_,Z,A.a,A.dx,_,Z,hh.h.oa,Z,_,Z,z,_,_,_,Z,Z,hz,aA (j:=1) rfl,_,Z,z,_,_,_,Z,Z,hz,aA (j:=2) rfl,_,Z,z,_,_,_,Z,Z,hz,aA (j:=3) rfl,_,Z,z,_,_,_,Z,Z,hz,aA (j:=4) rfl,⟨⟨n,ρ,A,st,x,o,wo,we,Z,hh,l1,l2,l3,l4,l5,by omega,by omega,q⟩⟩⟩
 | cast rs=>
   refine ⟨_,Z,z,_,_,_,Z,Z,hz,aA (j:=0) rfl,Z,_,Z,aQ (fun c=>absurd (bg c) (by decide)) (fun c=>?_)⟩
   refine ⟨_,Z,z,_,_,_,Z,Z,hz,aA (j:=0) rfl,Z,_,Z,aQ (fun c=>absurd (bg c) (by decide)) (fun c=>?_)⟩
   refine ⟨_,Z,z,_,_,_,Z,Z,hz,aA (j:=0) rfl,Z,_,Z,aQ (fun _=>?_) (fun c=>absurd (bq rfl) c)⟩
   have ok:=gg.wY wf (by omega) hr0
   have hrl:rs.length<=1000:=ok.len
   refine ⟨_,Z,A.a,A.dx,_,Z,hh.h.oa,Z,_,Z,z,_,Z, .inr hz,_,_,_,Z,⟨by decide,by decide,by omega,by rw [yg];omega,by decide,by decide⟩,?_⟩
   rw [yg,Sk]
   intro acc hacc
   refine kq (J:=Px 1 2 rs.length) (n:=rs.length) 0 (fun i out H1=>aO H H1/\dZ H1 out (rs.take i)) (by omega) ⟨aG hacc _, .nil⟩ (fun i o H' hi _ _=>hi) (fun o H' _ _=>aN _) ?_ ?_
   . rintro i x out H1 H2 hi fY ha ⟨g,R⟩ ⟨rfl,rfl⟩
     have ei:=bD hi
     generalize rs[i]=r at *
     obtain ⟨c1,c2⟩:=Ol ei
     have e1:(1:Int)+(i:Int)*2=((1+2*i:Nat):Int):=by omega
     have e2:((1+2*i:Nat):Int)+1=((2+2*i:Nat):Int):=by omega
     rw [e1]
     refine ⟨_,Z,_,Z,z,_,_,_,Z,Z,g.tup hz,aA c1,_,Z,_,Z,_,_,Z,Z,z,_,_,_,Z,Z,g.tup hz,by rw [e2];exact aA c2,(iy 2),fun p hp=>?_⟩
     have g6:=aG hp (o9 r)
     refine ⟨g6 _ _ ha,(g.trans g6).cX hacc _,?_⟩
     rw [take_snoc ei]
     exact ((R.mono g6.tups).snoc ah).mono (jO (.inr ⟨_,g6 _ _ ha,Z⟩))
   rintro out H1 fY ha ⟨g,R⟩
   rw [cW] at R
   exact ⟨⟨n,ρ,A,st,acc,out,rs,Z,hh.mono g,aK.of ha,R,ok,fun ρ' A' H' a1 a2 a3=>q ρ' A' H' a1 a2 ((Fr.of_same g).trans a3)⟩⟩
 | award o a=>
   refine ⟨_,Z,z,_,_,_,Z,Z,hz,aA (j:=0) rfl,Z,_,Z,aQ (fun c=>absurd (bg c) (by decide)) (fun c=>?_)⟩
   refine ⟨_,Z,z,_,_,_,Z,Z,hz,aA (j:=0) rfl,Z,_,Z,aQ (fun c=>absurd (bg c) (by decide)) (fun c=>?_)⟩
   refine ⟨_,Z,z,_,_,_,Z,Z,hz,aA (j:=0) rfl,Z,_,Z,aQ (fun c=>absurd (bg c) (by decide)) (fun c=>?_)⟩
   refine ⟨_,Z,z,_,_,_,Z,Z,hz,aA (j:=0) rfl,Z,_,Z,aQ (fun _=>?_) (fun c=>absurd (bq rfl) c)⟩
   refine ⟨_,Z,A.a,A.dx,_,Z,hh.h.oa,Z,_,Z,z,_,_,_,Z,Z,hz,aA (j:=1) rfl,_,Z,z,_,_,_,Z,Z,hz,aA (j:=2) rfl,⟨⟨n,ρ,A,st,o,a,Z,hh,gg.aw wf (by omega), .of hr0 q⟩⟩⟩
 | mishap x a=>
   refine ⟨_,Z,z,_,_,_,Z,Z,hz,aA (j:=0) rfl,Z,_,Z,aQ (fun c=>absurd (bg c) (by decide)) (fun c=>?_)⟩
   refine ⟨_,Z,z,_,_,_,Z,Z,hz,aA (j:=0) rfl,Z,_,Z,aQ (fun c=>absurd (bg c) (by decide)) (fun c=>?_)⟩
   refine ⟨_,Z,z,_,_,_,Z,Z,hz,aA (j:=0) rfl,Z,_,Z,aQ (fun c=>absurd (bg c) (by decide)) (fun c=>?_)⟩
   refine ⟨_,Z,z,_,_,_,Z,Z,hz,aA (j:=0) rfl,Z,_,Z,aQ (fun c=>absurd (bg c) (by decide)) (fun c=>?_)⟩
   refine ⟨_,Z,z,_,_,_,Z,Z,hz,aA (j:=0) rfl,Z,_,Z,aQ (fun _=>?_) (fun c=>absurd (bq rfl) c)⟩
   refine ⟨_,Z,A.a,A.dx,_,Z,hh.h.oa,Z,_,Z,z,_,_,_,Z,Z,hz,aA (j:=1) rfl,_,Z,z,_,_,_,Z,Z,hz,aA (j:=2) rfl,⟨⟨n,ρ,A,st,x,a,Z,hh, .of hr0 q⟩⟩⟩
 | rise x a=>
   refine ⟨_,Z,z,_,_,_,Z,Z,hz,aA (j:=0) rfl,Z,_,Z,aQ (fun c=>absurd (bg c) (by decide)) (fun c=>?_)⟩
   refine ⟨_,Z,z,_,_,_,Z,Z,hz,aA (j:=0) rfl,Z,_,Z,aQ (fun c=>absurd (bg c) (by decide)) (fun c=>?_)⟩
   refine ⟨_,Z,z,_,_,_,Z,Z,hz,aA (j:=0) rfl,Z,_,Z,aQ (fun c=>absurd (bg c) (by decide)) (fun c=>?_)⟩
   refine ⟨_,Z,z,_,_,_,Z,Z,hz,aA (j:=0) rfl,Z,_,Z,aQ (fun c=>absurd (bg c) (by decide)) (fun c=>?_)⟩
   refine ⟨_,Z,z,_,_,_,Z,Z,hz,aA (j:=0) rfl,Z,_,Z,aQ (fun c=>absurd (bg c) (by decide)) (fun c=>?_)⟩
   refine ⟨_,Z,z,_,_,_,Z,Z,hz,aA (j:=0) rfl,Z,_,Z,aQ (fun _=>?_) (fun c=>absurd (bq rfl) c)⟩
   refine ⟨_,Z,A.a,A.dx,_,Z,hh.h.oa,Z,_,Z,z,_,_,_,Z,Z,hz,aA (j:=1) rfl,_,Z,z,_,_,_,Z,Z,hz,aA (j:=2) rfl,⟨⟨n,ρ,A,st,x,a,Z,hh, .of hr0 q⟩⟩⟩
 | hand x o=>
   refine ⟨_,Z,z,_,_,_,Z,Z,hz,aA (j:=0) rfl,Z,_,Z,aQ (fun c=>absurd (bg c) (by decide)) (fun c=>?_)⟩
   refine ⟨_,Z,z,_,_,_,Z,Z,hz,aA (j:=0) rfl,Z,_,Z,aQ (fun c=>absurd (bg c) (by decide)) (fun c=>?_)⟩
   refine ⟨_,Z,z,_,_,_,Z,Z,hz,aA (j:=0) rfl,Z,_,Z,aQ (fun c=>absurd (bg c) (by decide)) (fun c=>?_)⟩
   refine ⟨_,Z,z,_,_,_,Z,Z,hz,aA (j:=0) rfl,Z,_,Z,aQ (fun c=>absurd (bg c) (by decide)) (fun c=>?_)⟩
   refine ⟨_,Z,z,_,_,_,Z,Z,hz,aA (j:=0) rfl,Z,_,Z,aQ (fun c=>absurd (bg c) (by decide)) (fun c=>?_)⟩
   refine ⟨_,Z,z,_,_,_,Z,Z,hz,aA (j:=0) rfl,Z,_,Z,aQ (fun c=>absurd (bg c) (by decide)) (fun c=>?_)⟩
   refine ⟨_,Z,z,_,_,_,Z,Z,hz,aA (j:=0) rfl,Z,_,Z,aQ (fun _=>?_) (fun c=>absurd (bq rfl) c)⟩
   refine ⟨_,Z,A.a,A.dx,_,Z,hh.h.oa,Z,_,Z,z,_,_,_,Z,Z,hz,aA (j:=1) rfl,_,Z,z,_,_,_,Z,Z,hz,aA (j:=2) rfl,⟨⟨n,ρ,A,st,x,o,Z,hh,gg.sum, .of hr0 q⟩⟩⟩
 | land x=>
   refine ⟨_,Z,z,_,_,_,Z,Z,hz,aA (j:=0) rfl,Z,_,Z,aQ (fun c=>absurd (bg c) (by decide)) (fun c=>?_)⟩
   refine ⟨_,Z,z,_,_,_,Z,Z,hz,aA (j:=0) rfl,Z,_,Z,aQ (fun c=>absurd (bg c) (by decide)) (fun c=>?_)⟩
   refine ⟨_,Z,z,_,_,_,Z,Z,hz,aA (j:=0) rfl,Z,_,Z,aQ (fun c=>absurd (bg c) (by decide)) (fun c=>?_)⟩
   refine ⟨_,Z,z,_,_,_,Z,Z,hz,aA (j:=0) rfl,Z,_,Z,aQ (fun c=>absurd (bg c) (by decide)) (fun c=>?_)⟩
   refine ⟨_,Z,z,_,_,_,Z,Z,hz,aA (j:=0) rfl,Z,_,Z,aQ (fun c=>absurd (bg c) (by decide)) (fun c=>?_)⟩
   refine ⟨_,Z,z,_,_,_,Z,Z,hz,aA (j:=0) rfl,Z,_,Z,aQ (fun c=>absurd (bg c) (by decide)) (fun c=>?_)⟩
   refine ⟨_,Z,z,_,_,_,Z,Z,hz,aA (j:=0) rfl,Z,_,Z,aQ (fun c=>absurd (bg c) (by decide)) (fun c=>?_)⟩
   refine ⟨_,Z,z,_,_,_,Z,Z,hz,aA (j:=0) rfl,Z,_,Z,aQ (fun _=>?_) (fun c=>absurd (bq rfl) c)⟩
   refine ⟨_,Z,A.a,A.dx,_,Z,hh.h.oa,Z,_,Z,z,_,_,_,Z,Z,hz,aA (j:=1) rfl,⟨⟨n,ρ,A,st,x,Z,hh,gg.ld wf (by omega) hk, .of hr0 q⟩⟩⟩
 | sever x y a we=>
   refine ⟨_,Z,z,_,_,_,Z,Z,hz,aA (j:=0) rfl,Z,_,Z,aQ (fun c=>absurd (bg c) (by decide)) (fun c=>?_)⟩
   refine ⟨_,Z,z,_,_,_,Z,Z,hz,aA (j:=0) rfl,Z,_,Z,aQ (fun c=>absurd (bg c) (by decide)) (fun c=>?_)⟩
   refine ⟨_,Z,z,_,_,_,Z,Z,hz,aA (j:=0) rfl,Z,_,Z,aQ (fun c=>absurd (bg c) (by decide)) (fun c=>?_)⟩
   refine ⟨_,Z,z,_,_,_,Z,Z,hz,aA (j:=0) rfl,Z,_,Z,aQ (fun c=>absurd (bg c) (by decide)) (fun c=>?_)⟩
   refine ⟨_,Z,z,_,_,_,Z,Z,hz,aA (j:=0) rfl,Z,_,Z,aQ (fun c=>absurd (bg c) (by decide)) (fun c=>?_)⟩
   refine ⟨_,Z,z,_,_,_,Z,Z,hz,aA (j:=0) rfl,Z,_,Z,aQ (fun c=>absurd (bg c) (by decide)) (fun c=>?_)⟩
   refine ⟨_,Z,z,_,_,_,Z,Z,hz,aA (j:=0) rfl,Z,_,Z,aQ (fun c=>absurd (bg c) (by decide)) (fun c=>?_)⟩
   refine ⟨_,Z,z,_,_,_,Z,Z,hz,aA (j:=0) rfl,Z,_,Z,aQ (fun c=>absurd (bg c) (by decide)) (fun c=>?_)⟩
   refine ⟨_,Z,z,_,_,_,Z,Z,hz,aA (j:=0) rfl,Z,_,Z,aQ (fun _=>?_) (fun c=>absurd (bq rfl) c)⟩
   refine ⟨_,Z,A.a,A.dx,_,Z,hh.h.oa,Z,_,Z,z,_,_,_,Z,Z,hz,aA (j:=1) rfl,_,Z,z,_,_,_,Z,Z,hz,aA (j:=2) rfl,_,Z,z,_,_,_,Z,Z,hz,aA (j:=3) rfl,_,Z,z,_,_,_,Z,Z,hz,aA (j:=4) rfl,⟨⟨n,ρ,A,st,x,y,a,we,Z,hh,JD (l7 (show jx st x y a we=none from hr0)).2.1.1,by omega,by omega, .of hr0 q⟩⟩⟩
 | still=>
   refine ⟨_,Z,z,_,_,_,Z,Z,hz,aA (j:=0) rfl,Z,_,Z,aQ (fun c=>absurd (bg c) (by decide)) (fun c=>?_)⟩
   refine ⟨_,Z,z,_,_,_,Z,Z,hz,aA (j:=0) rfl,Z,_,Z,aQ (fun c=>absurd (bg c) (by decide)) (fun c=>?_)⟩
   refine ⟨_,Z,z,_,_,_,Z,Z,hz,aA (j:=0) rfl,Z,_,Z,aQ (fun c=>absurd (bg c) (by decide)) (fun c=>?_)⟩
   refine ⟨_,Z,z,_,_,_,Z,Z,hz,aA (j:=0) rfl,Z,_,Z,aQ (fun c=>absurd (bg c) (by decide)) (fun c=>?_)⟩
   refine ⟨_,Z,z,_,_,_,Z,Z,hz,aA (j:=0) rfl,Z,_,Z,aQ (fun c=>absurd (bg c) (by decide)) (fun c=>?_)⟩
   refine ⟨_,Z,z,_,_,_,Z,Z,hz,aA (j:=0) rfl,Z,_,Z,aQ (fun c=>absurd (bg c) (by decide)) (fun c=>?_)⟩
   refine ⟨_,Z,z,_,_,_,Z,Z,hz,aA (j:=0) rfl,Z,_,Z,aQ (fun c=>absurd (bg c) (by decide)) (fun c=>?_)⟩
   refine ⟨_,Z,z,_,_,_,Z,Z,hz,aA (j:=0) rfl,Z,_,Z,aQ (fun c=>absurd (bg c) (by decide)) (fun c=>?_)⟩
   refine ⟨_,Z,z,_,_,_,Z,Z,hz,aA (j:=0) rfl,Z,_,Z,aQ (fun c=>absurd (bg c) (by decide)) (fun c=>?_)⟩
   exact q ρ A H hh rfl Fr.refl
abbrev qN:Stmt:=top 40
abbrev nD:List Str:=["_law_owners","_law_deeds_here"]
abbrev Hs:List Str:=nD.append ["_law_hold","_law_owner","_law_deed_here"]
theorem mq:aR Hs nD (aE qN):=dP
theorem EO {T:TC} (F:At K mg "_law_behind" qN f fd) (xr:Cn P w K mg base 3 "Hold" T.hold ["self"] (D9 T)) (kK:Mn P w K mg base 3 T.hold "sign" mV (D_ T)) (qO:Dn P w K mg base 6 "_law_hold_do" mj (Kg T K)):Dn P w K mg base 7 "_law_behind" nD (Ss T K):=by
 refine F.oA mq fun cdv A outer s H vs Q E hr h=>?_
 obtain ⟨⟨n,ρ,zo,l,own,zs,ds,rfl,G,fO,fL,hD,hC,nN,Ka,ais,Ll,hdl,q⟩⟩:=h
 refine ⟨_,(@c5.h _ _ _ (ai (aT (i:=2) mq.nd (C0 xr hr))
  (ai (fK gc rfl (eT K (qv 0)) (aY (i:=3) mq.nd) (ay (cu (cI kK hr (qv 2) (af (qv 3) aq)))))
  (ai (fK gc rfl (eT K (qv 1)) (aY (i:=4) mq.nd) (ay (cu (bX qO hr (af (qv 2) (af (qv 4) aq))))))
  (ay (bB (qv 2))))))),?_⟩
 intro x dx hx hdx hne
 refine ⟨⟨x,dx,ρ,n,Z,ah,(G.alloc hdx).alloc (by rw [au (bU hne)];exact hx),G.none hx,fun ρ4 A4 H4 ea4 rS k4=>⟨Z,?_⟩⟩⟩
 have F4:Fr n ρ H ρ4 H4:=fun b o e _=>k4 b o (by rw [au (aF e hx),au (aF e hdx)];exact e) (aF e hx)
 refine ⟨_,Z,zo,Z,⟨_,fO _ _ F4.out⟩,?_⟩
 refine k_ (K:=K) (xs:=own.map V.str) (fun i σ H'=>∃ρ' A' s5,σ=[some (.ref zo),some (.ref l),some (.ref x),s5,none]/\A'.a=x/\HH T n ρ' A' H' ((own.take i).foldl gO hs0)/\Fr n ρ H ρ' H')
  ⟨ρ4,A4,none,Z,ea4,rS,F4⟩ (fun i σ H' _ hp=>by obtain ⟨_,_,_,_,_,_,f⟩:=hp;exact fO _ _ f.out) ?_ ?_
 . rintro i y σ H' hy ⟨ρ',A',s2,rfl,ea',hh',F'⟩
   rw [cA] at hy
   obtain ⟨o,eo,rfl⟩:=nH.mp hy
   have hi:=(dO.mp eo).1
   have aaQ:((own.take i).foldl gO hs0).own=own.take i:=by rw [ve];rfl
   refine ⟨_,Z,x,A'.dx,_,Z,ea'▸hh'.h.oa,Z,_,Z,⟨⟨n,ρ',A',_,o,by rw [ea'];rfl,hh',Ll o (cg eo),?_,?_,fun ρ2 A2 H2 h2 e2 F2=>?_⟩⟩⟩
   . rw [aaQ]
     intro m
     have h2:(own.take (i+1)).Nodup:=nN.sublist (O2 _ _)
     rw [take_snoc eo] at h2
     exact (O6.mp h2).2.2 o m o (fU.mpr rfl) rfl
   . rw [aaQ,nK]
     omega
   . rw [take_snoc eo,Ba]
     exact ⟨ρ2,A2,_,Z,e2.trans ea',h2,F'.trans F2⟩
 rintro σ H5 ⟨ρ5,A5,s5,rfl,ea5,A0,F5⟩
 rw [aH,cW] at A0
 have A0:HH T n ρ5 A5 H5 (iR own):=A0
 clear rS k4 F4
 have gw:=gw0 nN Ka (by omega) Ll
 have Lm:=El own
 have chg:=hC.go gw (by omega) (by omega) (by rw [Lm];omega)
 have zl:=hD.length
 refine ⟨_,Z,l,Z,⟨zs,fL _ _ F5.out⟩,?_⟩
 refine k_ (K:=K) (xs:=zs) (fun i σ H'=>∃ρ' A' s3 s4,σ=[some (.ref zo),some (.ref l),some (.ref x),s3,s4]/\HH T n ρ' A' H' (iw (iR own) (ds.take i))/\A'.a=x/\Fr n ρ H ρ' H')
  ⟨ρ5,A5,_,_,Z,A0,ea5,F5⟩ (fun i σ H' _ hp=>by obtain ⟨_,_,_,_,_,_,_,f⟩:=hp;exact fL _ _ f.out) ?_ ?_
 . rintro i y σ H7 hy ⟨ρ7,A7,s3,s4,rfl,vD,ea7,F7⟩
   obtain ⟨z,d,rfl,ed,hz⟩:=hD.get hy
   have hi:=(dO.mp ed).1
   obtain ⟨sY,eo7⟩:=chg i (by omega)
   obtain ⟨d1,d2,d3⟩:=hC i d ed
   rw [Lm] at eo7
   have Gy:H7 z=some (.tup d.v):=(lC (F7.out _ _ (rM hz (G.tup hz)))).1
   have kn7:=sY.kn
   refine ⟨_,Z,_,Z,⟨⟨n,0+i,ρ7,A7,_,z,d,by rw [ea7];rfl,dm.of Gy,vD,sY.g,by omega,by omega,by rw [eo7];omega,d1,fun ρ8 A8 H8 yE ea8 F8=>?_⟩⟩⟩
   rw [<-pG,<-take_snoc ed] at yE
   exact ⟨ρ8,A8,_,_,Z,yE,ea8.trans ea7,F7.trans F8⟩
 rintro σ H8 ⟨ρ8,A8,s3,s4,rfl,yE,ea8,F8⟩
 rw [zl,cW] at yE
 have ch:=chg ds.length (aN _)
 rw [cW] at ch
 refine ⟨_,Z,?_⟩
 have:=q ρ8 A8 H8 yE (by have:=ch.1;rw [B_,B_] at this;exact this) (ch.2.trans Lm) F8
 rw [ea8] at this
 exact this
abbrev lQ:Stmt:=top 41
abbrev jM:List Str:=["_law_parts","_law_need","_law_turned"]
abbrev AG:List Str:=jM.append ["_law_rows_here","_law_order","_law_part","_law_amount"]
theorem fk:aR AG jM (aE lQ):=dP
theorem Ac (F:At K mg "_law_other_rows" lQ f fd) (fE:mg "list"=none) (pU:mg "min"=none):Dn P w K mg base 1 "_law_other_rows" jM (Su K):=by
 refine F.oA fk fun cdv A outer s H vs Q E hr h=>?_
 obtain ⟨⟨l,us,ws,need,t,rfl,hl,hW,hle,q⟩⟩:=h
 refine ⟨_,(@c5.h _ _ _ (ai (aT (i:=3) fk.nd (iH aq))
  (ai (aT (i:=4) fk.nd (ia (iC K) (by rfl) fE yK (af (qv 0) aq)))
  (ai (i9 (wU (qv 2)) (ay (aT (i:=4) fk.nd (R_ K (qv 4) (PY IW ak)))) bF)
  (ai (fK gc rfl (eT K (qv 4)) (aY (i:=5) fk.nd) (ai (aT (i:=6) fk.nd (bJ (u0 rfl) (by rfl) pU IA (af (aP (gH K) (qv 5) ak) (af (qv 1) aq))))
  (ai (i9 (aU jn (qv 6) ak (bf _)) (ay (cu (j_ nG nE nF dX (qv 3) (af (iG (af (aP (gH K) (qv 5) ak) (af (qv 6) aq))) aq)))) bF)
  (ay (aT (i:=1) fk.nd (aM iZ (qv 1) (qv 6)))))))
  (ay (bB (qv 3)))))))),?_⟩
 have ll:=hW.len
 refine ⟨(iy 0),fun z hz=>?_⟩
 have g1:=aG hz (.lst [])
 have Wn:upd H z (.lst []) z=some (.lst []):=ah
 show iB _ _ _ _ (upd H z (.lst []))
 generalize upd H z (.lst [])=H1 at *
 refine ⟨_,Z,l,_,Z, .inl (g1.seq hl),fun po Gz=>?_⟩
 have g2:=aG Gz (.lst us)
 have hpp:upd H1 po (.lst us) po=some (.lst us):=ah
 have Ve:=g2 _ _ Wn
 have Dw:=g1.trans g2
 show iB _ _ _ _ (upd H1 po (.lst us))
 have npz:po≠z:=fun e=>by rw [e,Wn] at Gz;cases Gz
 generalize upd H1 po (.lst us)=H2 at *
 refine ⟨fun σ H3=>aO H H3/\H3 z=some (.lst [])/\∃pq,pq≠z/\σ=[some (.ref l),some (.int need),some (.bl t),some (.ref z),some (.ref pq),none,none]/\H3 pq=some (.lst (if t=true then us.reverse else us)),?_,?_⟩
 . refine ⟨_,Z,_,Z,aQ (fun c=>?_) (fun c=>?_)⟩
   . refine ⟨_,Z,_,Z,Z,po,_,Z,aK.of hpp,fun pz KO=>?_⟩
     have g3:=aG KO (.lst us.reverse)
     exact ⟨Dw.trans g3,g3 _ _ Ve,pz,(fun e=>by rw [e,Ve] at KO;cases KO),Z,by rw [ah,aD c]⟩
   . exact ⟨Dw,Ve,po,npz,Z,by rw [aB c];exact hpp⟩
 rintro σ H3 ⟨g3,hz3,pq,nz,rfl,hq3⟩
 have hR:xZ K H (if t=true then us.reverse else us) (if t=true then ws.reverse else ws):=by
  cases t
  . exact hW
  . refine ⟨by show us.reverse.length=ws.reverse.length;rw [DX,DX,ll],fun i r e=>?_⟩
    have e:ws.reverse[i]?=some r:=e
    have hi:=(dO.mp e).1
    rw [DX] at hi
    rw [List.getElem?_reverse hi] at e
    obtain ⟨a,xs,h1,h2⟩:=hW.at_ _ _ e
    refine ⟨a,xs,?_,h2⟩
    show us.reverse[i]?=_
    rw [List.getElem?_reverse (by omega),ll]
    exact h1
 have ait:(if t=true then ws.reverse else ws).length<=1000:=by
  cases t
  . exact hle
  . show ws.reverse.length<=1000;rw [DX];exact hle
 generalize (if t=true then us.reverse else us)=os at *
 generalize (if t=true then ws.reverse else ws)=wr at *
 have lr:=hR.len
 have Wo:H z=none:=hz
 refine ⟨_,Z,pq,Z,⟨_,aK.of hq3⟩,?_⟩
 refine k_ (K:=K) (xs:=os) (fun i σ H'=>aO H H'/\H' pq=some (.lst os)/\∃(zs:List V) (s5 s6:Option V),σ=[some (.ref l),some (.int ((wr.take i).foldl jT ([],need)).2),some (.bl t),some (.ref z),some (.ref pq),s5,s6]/\H' z=some (.lst zs)/\dZ H' zs ((wr.take i).foldl jT ([],need)).1/\((wr.take i).foldl jT ([],need)).1.length<=i)
  ⟨g3,hq3,[],_,_,Z,hz3, .nil,aN _⟩ (fun i σ H' _ hp=>aK.of hp.2.1) ?_ ?_
 . rintro i x σ H5 hx ⟨g5,Ld,zs,s5,s6,rfl,yG,GF,hri⟩
   have hi:=(dO.mp hx).1
   have ei:=bD (show i<wr.length by omega)
   generalize wr[i]=wi at ei
   obtain ⟨ar,xs,ea,xu,x0,x2⟩:=hR.at_ i _ ei
   rw [ea] at hx
   cases hx
   rw [take_snoc ei,Ba]
   generalize (wr.take i).foldl jT ([],need)=pr at *
   obtain ⟨rs,nd⟩:=pr
   refine ⟨_,Z,(g5.sq xu).ix (i:=2) x2 ⟨_,Z,_,_,Z,?_⟩⟩
   show m9 6 (.int (if nd<wi.2 then nd else wi.2)) _ _ _
   have eS:jT (rs,nd) wi=(if 0<(if nd<wi.2 then nd else wi.2) then rs++[(wi.1,if nd<wi.2 then nd else wi.2)] else rs,nd-if nd<wi.2 then nd else wi.2):=rfl
   generalize (if nd<wi.2 then nd else wi.2)=m at *
   have GF:dZ H5 zs rs:=GF
   have hri:rs.length<=i:=hri
   refine ⟨fun σ H6=>aO H H6/\H6 pq=some (.lst os)/\∃(zs:List V) (s5:Option V),σ=[some (.ref l),some (.int nd),some (.bl t),some (.ref z),some (.ref pq),s5,some (.int m)]/\H6 z=some (.lst zs)/\dZ H6 zs (jT (rs,nd) wi).1/\(jT (rs,nd) wi).1.length<=i+1,?_,?_⟩
   . refine ⟨_,Z,_,_,Z,Z,_,Z,aQ (fun c=>?_) (fun c=>?_)⟩
     . have c:=bg c
       refine ⟨_,Z, .inl ⟨Z,_,aK.of yG⟩,_,Z,(g5.sq xu).ix (i:=0) x0 ?_⟩
       refine ⟨_,Z,(iy 2),fun p hp=>?_⟩
       have g6:=aG hp (o9 (wi.1,m))
       have Le:=g6 _ _ yG
       have GD:=g6 _ _ Ld
       have Ou:upd H5 p (o9 (wi.1,m)) p=some (o9 (wi.1,m)):=ah
       have Vd:=GF.length
       show qc _ (upd H5 p (o9 (wi.1,m))) _
       generalize upd H5 p (o9 (wi.1,m))=H6 at *
       refine ⟨z,_,_,Z,Z,Le,by rw [Vd];exact dH (by omega),?_⟩
       have tu:∀b ys,H6 b=some (.tup ys)->upd H6 z (.lst (zs++[.ref p])) b=some (.tup ys):=jO (.inr ⟨_,Le,Z⟩)
       refine ⟨(g5.trans g6).cX Wo _,by rw [au nz];exact GD,zs++[.ref p],_,Z,ah,?_,?_⟩
       . rw [eS]
         show dZ _ _ (if 0<m then rs++[(wi.1,m)] else rs)
         rw [aD c]
         exact ((GF.mono g6.tups).snoc Ou).mono tu
       . rw [eS]
         show (if 0<m then rs++[(wi.1,m)] else rs).length<=i+1
         rw [aD c,dj]
         show rs.length+1<=i+1
         omega
     . have c:¬ 0<m:=fun z=>c (bq z)
       refine ⟨g5,Ld,zs,_,Z,yG,?_,?_⟩
       . rw [eS]
         show dZ _ _ (if 0<m then rs++[(wi.1,m)] else rs)
         rw [aB c];exact GF
       . rw [eS]
         show (if 0<m then rs++[(wi.1,m)] else rs).length<=i+1
         rw [aB c];omega
   rintro σ H6 ⟨g6,GD,zs6,s5',rfl,Le,hR6,Wu⟩
   refine ⟨_,Z,_,Z,_,_,Z,Z,g6,GD,zs6,s5',some (.int m),?_,Le,hR6,Wu⟩
   show _=[_,some (V.int (jT (rs,nd) wi).2),_,_,_,_,_]
   rw [eS]
   rfl
 rintro σ H5 ⟨g5,Ld,zs,s5,s6,rfl,yG,GF,hri⟩
 rw [lr,cW] at GF
 exact ⟨_,Z,q z zs H5 g5 yG GF⟩
abbrev p5:Stmt:=top 42
abbrev Qt:List Str:=["_law_script"]
abbrev acv:List Str:=Qt.append ["_law_owners","_law_names_here","_law_model","_law_one","_law_other","_law_ahead","_law_whole","_law_rows_here","_law_lost","_law_at_here","_law_two","_law_due"]
theorem jX:aR acv Qt (aE p5):=dP
theorem aaT {T:TC} (F:At K mg "law" p5 f fd) (a_:Dn P w K mg base 1 "_law_draw" gY (rJ K)) (p6:Dn P w K mg base 2 "_law_names" pT (D5 K)) (v9:Dn P w K mg base 1 "_law_lite" rD (Sj K)) (uS:Dn P w K mg base 5 "_law_deeds" pY (Om K)) (sS:Dn P w K mg base 7 "_law_behind" nD (Ss T K)) (v_:Mn P w K mg base 5 T.hold "twin" kH (Ot T)) (lR:Mn P w K mg base 3 T.hold "stake" pS (Kl T)) (kJ:Dn P w K mg base 2 "_law_rows" mY (Eh K)) (jG:Mn P w K mg base 4 T.hold "cast" mW (JL T K)) (mO:Dn P w K mg base 1 "_law_other_rows" jM (Su K)) (dR:Mn P w K mg base 1 T.hold "whole" ja (wN T)) (bZ:mg "len"=none) (cZ:mg "range"=none) (gP:mg "sum"=none):jf P w K mg base sV 8 f fd Qt (Im K):=by
 refine F.fn.ok jX (fun vs H Q E h=>?_) (fun cdv A outer s H vs Q E hr h=>?_)
 . obtain ⟨a,ns,rfl,_⟩:=h
   rfl
 obtain ⟨a,ns,rfl,hS,h63,q⟩:=h
 refine ⟨_,(@c5.h _ _ _ (ai (aT (i:=1) jX.nd (bX p6 hr (af (qv 0) (af ak (af (aM cT ak (bX a_ hr (af (qv 0) (af ak (af ak (af ak aq)))))) aq)))))
  (ai (aT (i:=2) jX.nd (bX p6 hr (af (qv 0) (af ak (af ak aq)))))
  (ai (aT (i:=3) jX.nd (bX v9 hr (af (qv 1) aq)))
  (ai (aT (i:=4) jX.nd (bX sS hr (af (qv 1) (af (bX uS hr (af (qv 0) (af ak (af (qv 3) (af (qv 2) (af (aM cT ak (bX a_ hr (af (qv 0) (af ak (af ak (af ak aq)))))) aq)))))) aq))))
  (ai (aT (i:=5) jX.nd (lY v_ hr (qv 4)))
  (ai (tP (i:=6) ["_law_owner","_law_one"] [none,some 4] jX.nd rfl rfl rfl (eT K (qv 1)) (fun _ _ _ _=>(aY (i:=0) (show List.Nodup (["_law_owner","_law_one"] :List Str) from by decide +kernel))) (fun _ _ _ _=>(cI lR hr (qv 1) (af (qv 0) aq))) rfl (by rfl) (by rfl))
  (ai (aT (i:=7) jX.nd (bJ (ou K rfl) (by rfl) gP yL (af (iU ["_law_part"] [none] rfl (eT K (dN (dB hr) (qv 3) bK)) (fun _ _ _ _=>(aY (i:=0) (show List.Nodup (["_law_part"] :List Str) from by decide +kernel))) (fun _ _ _ _=>(aP (cU K) (qv 0) ak)) rfl (by rfl)) aq)))
  (ai (aT (i:=8) jX.nd (bX kJ hr (af (qv 0) (af ak (af (dN (dB hr) (qv 3) bK) aq)))))
  (ai (aT (i:=9) jX.nd (bJ (ou K rfl) (by rfl) gP yL (af (iU ["_law_row"] [none] rfl (eT K (qv 8)) (fun _ _ _ _=>(aY (i:=0) (show List.Nodup (["_law_row"] :List Str) from by decide +kernel))) (fun _ _ _ _=>(aP (aX K) (qv 0) ak)) rfl (by rfl)) aq)))
  (ai (i9 (aU jn (qv 9) ak (bf _)) (ai (cu (cI jG hr (qv 4) (af (qv 8) aq)))
  (ay (cu (cI jG hr (qv 5) (af (bX mO hr (af (dN (dB hr) (qv 3) bK) (af (qv 9) (af (wX dS (bX a_ hr (af (qv 0) (af ak (af ak (af ak aq))))) ak (bf _)) aq)))) aq))))) bF)
  (ai (fK gc rfl (lI (by rfl) cZ (af (bJ (di K) (by rfl) bZ fQ (af (qv 1) aq)) aq)) (aY (i:=10) jX.nd) (ai (aT (i:=11) jX.nd (cI lR hr (qv 4) (af (aP (cU K) (qv 1) (qv 10)) aq)))
  (ai (cL (aU (WZ K hr.units) (cI lR hr (qv 5) (af (aP (cU K) (qv 1) (qv 10)) aq)) (qv 11) (bf _)) (ay (bB Ir)) bF)
  (ai (aT (i:=12) jX.nd (aP (cU K) (qv 6) (qv 10)))
  (ay (cL (aU VF (aM jh (aM jh (aP (aX K) (qv 11) ak) (qv 7)) (aP (aX K) (qv 12) ak)) (aM jh (aM jh (aP (aX K) (qv 12) ak) (aM iZ (qv 7) (qv 9))) (aP (aX K) (qv 11) ak)) (bf _)) (ay (bB Ir)) bF))))))
  (ai (cL (aU VF (lY dR hr (qv 4)) (aM iZ (qv 7) (qv 9)) (bf _)) (ay (bB Ir)) bF)
  (ay (bB (wX dS (lY dR hr (qv 5)) (aM iZ (qv 7) (qv 9)) (bf _))))))))))))))))),?_⟩
 refine ⟨_,Z,_,Z,c6 hS h63 (by decide) (by decide) (by decide) (by decide) fun od _ o0 o1=>⟨_,_,Z,Z,?_⟩⟩
 obtain ⟨no,hno⟩:∃no:Nat,1+od=(no:Int):=⟨(1+od).toNat,by omega⟩
 refine Fy hno hS h63 (by decide) (by omega) fun zo nso H1 g1 hzo _ aiu aaU aaV=>?_
 have Wt:=g1.seq hS
 refine ⟨_,Z,Fy (show (6:Int)=((6:Nat):Int) from rfl) Wt h63 (by decide) (by decide) fun zn nsn H2 g2 hzn _ aiv aaW aaX=>?_⟩
 have Lg:=g2.seq Wt
 have Vf:=g2 _ _ hzo
 rw [Xh] at Vf hzn
 have fY:=NY nso
 have hnl:=NY nsn
 have nN:=FL aaU
 have Ll:=RV aaV
 have nmN:=FL aaW
 have afN:=RV aaX
 generalize CO nso=own at *
 generalize CO nsn=nms at *
 clear aaU aaV aaW aaX hzo
 have fS0:=yy.of Lg
 have fN0:=yy.of (aK.of (K:=K) hzn)
 have fO0:=yy.of (aK.of (K:=K) Vf)
 refine ⟨_,Z,⟨⟨zo,own,1,fun _=>none,Z,aK.of Vf,(fun b c e=>by cases e),by omega,fun ρ3 B3 H3 G3 SN k3=>?_⟩⟩⟩
 have F3:Fr 1 (fun _=>none) H2 ρ3 H3:=fun b o e _=>k3 b o e
 have Wv:=fS0.go F3.out
 have fN3:=fN0.go F3.out
 have fO3:=fO0.go F3.out
 have gw:=gw0 nN (by omega) (by omega) (fun o ho=>(Ll o ho).isNm)
 have Lm:=El own
 have nx0:Nx nms (iR own):=ZX nmN (fun x hx=>(afN x hx).isNm)
 rw [<-UT] at SN
 have SN:bP 1 ρ3 B3 H3 (dQ (iR own)):=SN
 refine ⟨_,Z,_,Z,_,Z,_,Z,_,Z,c6 (Wv _ _ (aO.refl _)) h63 (by decide) (by decide) (by decide) (by decide) fun md _ m0 m1=>⟨_,_,Z,Z,?_⟩⟩
 obtain ⟨many,acw⟩:∃many:Nat,2+md=(many:Int):=⟨(2+md).toNat,by omega⟩
 rw [acw]
 refine ⟨⟨1,0,0,ρ3,B3,iR own,a,zn,ns,4,nms,many,Z,G3,SN,gw,by omega,by omega,by rw [Lm];omega,Wv,h63,by decide,by decide,fN3,nx0,by omega,fun l zs ds ρ6 B6 H6 G6 hb6 em6 F6 Wu cl6 hD hC hdl nx6=>?_⟩⟩
 have fS6:=Wv.go F6.out
 have fO6:=fO3.go F6.out
 have SQ:Mo (0+ds.length) (iw (iR own) ds):=by
  have:=hC.mo gw mo0 (by omega) (by omega) (by rw [Lm];omega) ds.length (aN _)
  rwa [cW] at this
 rw [B_] at SQ
 refine ⟨⟨0,ρ6,zo,l,own,zs,ds,Z,G6,fO6,(fun ρ' H' s=>(aK.of (K:=K) Wu).outs cl6 s),hD,hC,nN,by omega,by omega,(fun o ho=>(Ll o ho).isNm),by omega,fun ρ7 A7 H7 vD sY ow7 F7=>?_⟩⟩
 have hb7:=hb6.other F7 G6 (by decide)
 have fS7:=fS6.go F7.out
 have fO7:=fO6.go F7.out
 clear hD hC Wu cl6 fS6 fO6 Wv fN3 fO3 SN hb6 gw nx0 nx6 F6 F7 k3 F3 fS0 fN0 fO0 Lm
 have hc7:ds.length<=10:=by omega
 generalize ds.length=c at *
 generalize iw (iR own) ds=st at *
 subst ow7
 refine ⟨_,Z,A7.a,A7.dx,_,Z,vD.h.oa,Z,⟨⟨0,2,ρ7,A7,st,Z,by decide,vD,fun ρ8 C8 H8 Ww k8=>?_⟩⟩⟩
 have yE:=vD.other (k8.fr (n:=2)) Ww.g (by decide)
 have hb8:=hb7.other (k8.fr (n:=2)) vD.g (by decide)
 have o78:aO (out ρ7 H7) (out ρ8 H8):=(k8.fr (n:=2)).out
 have fS8:=fS7.go o78
 have OD:=fO7.go o78
 clear vD hb7 fS7 fO7 k8 o78
 have ok:=sY.g.st SQ sY.wf (by omega)
 have G8:=Ww.g
 refine ⟨_,Z,zo,Z,⟨_,OD _ _ (aO.refl _)⟩,fun la hla=>?_⟩
 refine kq (J:=yt K zo) (n:=st.own.length) 0 (fun i out H'=>aO H8 H'/\jC H' out ((st.own.take i).map (d7 st))) (by omega) ⟨aG hla _, .nil⟩ (fun i o H' hi _ hp=>⟨_,_,OD _ _ (iD hp.1),by rw [cA,bD hi];rfl⟩) (fun o H' _ hp=>⟨_,OD _ _ (iD hp.1),by rw [aH];exact aN _⟩) ?_ ?_
 . rintro j y out AX SH hj BI ha ⟨g,R⟩ ⟨rfl,hy⟩
   have ey:=hy _ (OD _ _ (iD g))
   rw [cA] at ey
   obtain ⟨o,eo,rfl⟩:=nH.mp ey
   have h11:=yE.h.mono g
   refine ⟨_,Z,A7.a,A7.dx,_,Z,h11.oa,Z,_,Z,⟨⟨0,ρ8,A7,st,o,Z,h11,ok,cg eo,fun r Du OA afO=>⟨OA _ _ ha,(g.trans OA).cX hla _,?_⟩⟩⟩⟩
   rw [take_snoc eo,bR]
   exact ((R.mono OA).snoc afO).W0 (OA _ _ ha)
 rintro wa H9 _ ha9 ⟨g9,R9⟩
 rw [cW] at R9
 have SD:=yE.mono g9
 have SG:=Ww.mono g9
 have xj:=hb8.mono g9
 have fS9:=fS8.go (iD (ρ:=ρ8) g9)
 have fO9:=OD.go (iD (ρ:=ρ8) g9)
 have ca9:ρ8 la=none:=G8.none hla
 clear yE Ww hb8 fS8 OD hla G8 g9
 have q8:(br st).length=st.aj.length:=by unfold br;rw [aH]
 have pl8:=sY.g.pl
 have bl8:B6.qs.length=(br st).length:=xj.ql
 have bq8:(B6.qs.map V.ref).length=(br st).length:=by rw [aH];exact bl8
 have om9:H9 B3.m=some (.dK (iN B6)):=by rw [<-em6];exact xj.om
 refine ⟨_,Z,B3.m,_,Z,dW.k (k:=Sum.inr "parts") om9,B6.lp,Z,⟨_,aK.of xj.op⟩,fun l9 hl9=>?_⟩
 refine kq (J:=yt K B6.lp) (n:=(br st).length) 0 (fun i o H'=>aO H9 H'/\o=(((br st).take i).map (fun q:Q4=>q.2.2.1)).map V.int) (by omega) ⟨aG hl9 _,Z⟩ (fun i o H' hi _ hp=>⟨_,_,aK.of (hp.1 _ _ xj.op),bD (by omega)⟩) (fun o H' _ hp=>⟨_,aK.of (hp.1 _ _ xj.op),by omega⟩) ?_ ?_
 . rintro j y o AS AX hj BI ha ⟨g,e⟩ ⟨rfl,hy⟩
   have ei:=bD hj
   obtain ⟨ap,ea,k1,_⟩:=xj.find (l:=dQ st) ei
   have ey:=hy _ (aK.of (g _ _ xj.op))
   rw [cA,ea] at ey
   cases ey
   refine ⟨_,Z,ap,_,_,_,Z,Z,aK.of (g _ _ k1),aA (j:=2) rfl,ha,g.cX hl9 _,?_⟩
   subst e
   rw [take_snoc ei,bR,bR]
   rfl
 rintro o10 AS _ aa1 ⟨Ln,e10⟩
 rw [cW,XF] at e10
 subst e10
 refine ⟨l9,st.aj.map (fun p:Pt=>p.wo),Z,aK.of aa1,?_⟩
 show m9 7 (.int (aC st)) _ _ _
 have aa2:=SD.mono Ln
 have aa3:=SG.mono Ln
 have Lo:=xj.mono Ln
 have Vg:=fS9.go (iD (ρ:=ρ8) Ln)
 have aa4:=fO9.go (iD (ρ:=ρ8) Ln)
 have R10:=R9.mono Ln
 have Wx:=Ln _ _ ha9
 clear SD SG xj fS9 fO9 R9 ha9 aa1 om9
 have Vh:AS B3.m=some (.dK (iN B6)):=by rw [<-em6];exact Lo.om
 have Qu:=Lo.nw (K:=K)
 rw [show (dQ st).aj=br st from rfl,Kq] at Qu
 have nwl:(ie st).length<=1000:=by unfold ie;rw [aH];omega
 refine ⟨_,Z,_,Z,B3.m,_,Z,dW.k (k:=Sum.inr "parts") Vh,⟨⟨a,B6.lp,ns,12,_,ie st,Z,Vg _ _ (aO.refl _),h63,by decide,by decide,aK.of Lo.op,Qu,by unfold ie;rw [fR];exact sY.wf.dh,nwl,(fun w hw=>by unfold ie at hw;obtain ⟨p,hp,rfl⟩:=bH.mp hw;exact (sY.wf.jr p hp).1),fun z zs1 rs AX SA _ ER Qv rok=>?_⟩⟩⟩
 have zl:=Qv.length
 have rl:=rok.len
 refine ⟨_,Z,z,Z,⟨_,aK.of ER⟩,fun l12 aa6=>?_⟩
 refine kq (J:=yt K z) (n:=zs1.length) 0 (fun i o H'=>aO AX H'/\o=((rs.take i).map (fun r:Row=>r.2)).map V.int) (by omega) ⟨aG aa6 _,Z⟩ (fun i o H' hi _ hp=>⟨_,_,aK.of (hp.1 _ _ ER),bD hi⟩) (fun o H' _ hp=>⟨_,aK.of (hp.1 _ _ ER),aN _⟩) ?_ ?_
 . rintro j y o SH Du hj BI ha ⟨g,e⟩ ⟨rfl,hy⟩
   have ey:=hy _ (aK.of (g _ _ ER))
   obtain ⟨ar,r,rfl,er,har⟩:=Qv.get ey
   refine ⟨_,Z,ar,_,_,_,Z,Z,dm.of (g _ _ har),aA (j:=1) rfl,ha,g.cX aa6 _,?_⟩
   subst e
   rw [take_snoc er,bR,bR]
   rfl
 rintro o12 SH _ aa7 ⟨Dw,e12⟩
 rw [zl,cW] at e12
 subst e12
 refine ⟨l12,rs.map (fun r:Row=>r.2),Z,aK.of aa7,?_⟩
 show m9 9 (.int (aI rs)) _ _ _
 have gA:=SA.trans Dw
 have ES:=aa2.mono gA
 have Vi:=aa3.mono gA
 have aa8:=Lo.mono gA
 have aa9:=Vg.go (iD (ρ:=ρ8) gA)
 have aa_:=aa4.go (iD (ρ:=ρ8) gA)
 have R12:=R10.mono gA
 have Wy:=gA _ _ Wx
 have afP:=gA _ _ Vh
 have afQ:=Qu.mono gA
 have aba:=Dw _ _ ER
 have abb:=Qv.mono Dw.tups
 clear aa2 aa3 Lo Vg aa4 R10 Wx Vh Qu ER Qv aa7
 have abc:∀{ρ':cR} {H':Hp},aO (out ρ8 SH) (out ρ' H')->aK K H' la wa/\jC H' wa (st.own.map (d7 st)):=fun s=>⟨(aK.of (K:=K) Wy).outs ca9 s,R12.tups fun b xs e=>(lC (s _ _ (rM e (ES.g.tup e)))).1⟩
 have l0:0<=aI rs:=qp fun x hx=>(rok.row x hx).1
 refine ⟨fun σ H'=>∃ρ' A' C' s1 s2,σ=[some (.ref a),some (.ref zo),some (.ref zn),some (.ref B3.m),some (.ref A'.a),some (.ref C'.a),some (.ref la),some (.int (aC st)),some (.ref z),some (.int (aI rs)),none,none,none]/\HH T 0 ρ' A' H' s1/\HH T 2 ρ' C' H' s2/\Z_ st.own (aC st) (aI rs) (d7 st) s1 s2/\aO (out ρ8 SH) (out ρ' H'),?_,?_⟩
 . refine ⟨_,Z,_,_,Z,Z,_,Z,aQ (fun c=>?_) (fun c=>?_)⟩
   . have lp:0<aI rs:=bg c
     have hne:rs≠[] :=fun e=>by rw [e] at lp;exact absurd lp (by decide)
     have h1:=C_ sY.wf rok hne
     have hl:=(vA h1).2.2.2
     refine ⟨_,Z,A7.a,A7.dx,_,Z,ES.h.oa,Z,_,Z,⟨⟨0,ρ8,A7,st,z,zs1,rs,Z,ES,aK.of aba,abb,sY.g.wY sY.wf (by omega) h1,fun ρ13 A13 Du abd afR Gx=>?_⟩⟩⟩
     have abe:=Vi.other Gx abd.g (by decide)
     have Vj:=aa8.other Gx ES.g (by decide)
     have afS:Du B3.m=some (.dK (iN B6)):=by rw [<-em6];exact Vj.om
     have abf:=Vj.nw (K:=K)
     rw [show (dQ st).aj=br st from rfl,Kq] at abf
     refine ⟨_,Z,C8.a,C8.dx,_,Z,abe.h.oa,Z,_,Z,B3.m,_,Z,dW.k (k:=Sum.inr "parts") afS,_,Z,_,Z,c6 ((aa9.go Gx.out) _ _ (aO.refl _)) h63 (by decide) (by decide) (by decide) (by decide) fun d _ d0 d1=>⟨Z,⟨⟨B6.lp,_,ie st,aI rs,decide (V.int d=V.int 1),Z,aK.of Vj.op,abf,nwl,fun z2 zs2 H14 g14 afT afU=>?_⟩⟩⟩⟩
     obtain ⟨k1,k2⟩:=U4 sY.wf lp hl (decide (V.int d=V.int 1))
     obtain ⟨c1,c2,xw⟩:=U6 sY SQ (by omega) (by omega) h1 k1 k2
     refine ⟨⟨2,ρ13,C8,{ st with kn:=0 },z2,zs2,_,Z,abe.mono g14,aK.of afT,afU,c2,fun ρ15 C15 H15 abh afV F15=>?_⟩⟩
     have afW:=(abd.mono g14).other F15 abh.g (by decide)
     exact ⟨ρ15,A13,C15,_,_,by rw [afR,afV];rfl,afW,abh,xw,(Gx.out.trans (iD g14)).trans F15.out⟩
   . have e0:aI rs=0:=by have:¬ 0<aI rs:=fun z=>c (bq z);omega
     rw [e0]
     exact ⟨ρ8,A7,C8,st,_,Z,ES,Vi,U5 sY SQ (by omega),aO.refl _⟩
 rintro σ H16 ⟨OE,Lp,Lq,s1,s2,rfl,Vk,Vl,xw,o16⟩
 have Vm:=aa_.go o16
 obtain ⟨acy,R16⟩:=abc o16
 clear abc ES Vi aa8 aa9 aa_ R12 Wy afP afQ aba abb o16 ca9
 have wl:=R16.length
 rw [aH] at wl
 have zw:Jm.Sz 62 (aC st):=ok.wh.mono (by decide)
 have zk:Jm.Sz 62 (aC st-aI rs):=by rw [<-xw.wa];exact xw.oa.wh.mono (by decide)
 have sz:=fun {o:Str} (ho:o∈st.own)=>(En sY.g SQ sY.wf (by omega) (o:=o) ho).1
 have pl1:=Vk.wf.lD
 have pl2:=Vl.wf.lD
 refine ⟨_,Z,zo,_,Z, .inl (Vm _ _ (aO.refl _)),_,Z,by rw [aH];omega,by rw [aH];omega,?_⟩
 rw [aH]
 refine lg (lo:=0) (n:=((st.own.length:Nat):Int).toNat) (fun i σ H'=>∃NR V4 s12,σ=[some (.ref a),some (.ref zo),some (.ref zn),some (.ref B3.m),some (.ref Lp.a),some (.ref Lq.a),some (.ref la),some (.int (aC st)),some (.ref z),some (.int (aI rs)),NR,V4,s12]/\aO H16 H')
  ⟨_,_,_,Z,aO.refl _⟩ ?_ ?_
 . rintro i σ KJ hi ⟨NR,V4,s12,rfl,Lr⟩
   have hi:i<st.own.length:=by omega
   have e0:(0:Int)+(i:Int)=((i:Nat):Int):=by omega
   rw [e0]
   have eo:=bD hi
   have ho:=cg eo
   generalize st.own[i]=o at eo ho
   have afX:=Vm _ _ (iD (ρ:=OE) Lr)
   have eoV:(st.own.map V.str)[i]?=some (.str o):=by rw [cA,eo];rfl
   obtain ⟨rd,ed,hrd⟩:=R16.afo (i:=i) (q:=d7 st o) (by rw [cA,eo];rfl)
   have SR:=Vk.h.mono Lr
   refine ⟨_,Z,Lp.a,Lp.dx,_,Z,SR.oa,Z,_,Z,_,Z,zo,_,_,_,Z,Z,afX,aA eoV,⟨⟨0,OE,Lp,s1,o,Z,SR,xw.oa,by rw [xw.na];exact ho,fun r1 H18 Wz hr1=>?_⟩⟩⟩
   have SS:=(Vl.h.mono Lr).mono Wz
   have abj:=Lr.trans Wz
   have afY:=Vm _ _ (iD (ρ:=OE) abj)
   refine ⟨_,Z,Lq.a,Lq.dx,_,Z,SS.oa,Z,_,Z,_,Z,zo,_,_,_,Z,Z,afY,aA eoV,⟨⟨2,OE,Lq,s2,o,Z,SS,xw.ob,by rw [xw.nb];exact ho,fun r2 WA g19 hr2=>?_⟩⟩⟩
   rw [xw.eq o ho] at hr2
   have Vn:=abj.trans g19
   have hr1:=g19 _ _ hr1
   refine ⟨_,Z,_,_,Rr hr2,Rr hr1,Z,Z,_,Z,aQ (fun c=>?_) (fun _=>?_)⟩
   . exact absurd c (by rw [Uc];decide)
   have hr1:WA r1=some (.tup [.int (d7 s1 o).num, .int ((d7 s1 o).den:Int)]):=hr1
   have hrd:WA rd=some (.tup [.int (d7 st o).num, .int ((d7 st o).den:Int)]):=Vn _ _ hrd
   have sa:=xw.sz o ho
   have sb:=sz ho
   refine ⟨_,Z,_,Z,la,_,_,_,Z,Z,Vn.seq acy,aA ed,?_⟩
   refine ⟨_,Z,r1,_,_,_,Z,Z,dm.of hr1,Z,_,Z,_,_,Z,Z,iS sa.1 zw,_,Z,rd,_,_,_,Z,Z,dm.of hrd,Z,_,_,Z,Z,iS (sa.1.mul zw) sb.2,?_⟩
   refine ⟨_,Z,rd,_,_,_,Z,Z,dm.of hrd,Z,_,Z,_,Z,_,_,Z,Z,_,_,Z,Z,iS sb.1 zk,_,Z,r1,_,_,_,Z,Z,dm.of hr1,Z,_,_,Z,Z,iS (sb.1.mul zk) sa.2,Z,_,Z,aQ (fun c=>?_) (fun _=>?_)⟩
   . exact absurd c (by rw [show V.int _=V.int _ from j6 V.int (xw.cr o ho),bq rfl];decide)
   exact ⟨_,_,_,Z,Vn⟩
 rintro σ KJ ⟨NR,V4,s12,rfl,Lr⟩
 have SR:=Vk.h.mono Lr
 refine ⟨_,Z,Lp.a,Lp.dx,_,Z,SR.oa,Z,⟨⟨0,OE,Lp,s1,Z,SR,pl1,fun H18 Wz=>⟨_,Z,_,Z,_,_,Z,Z,Z,_,Z,aQ (fun c=>?_) (fun _=>?_)⟩⟩⟩⟩
 . exact absurd c (by rw [xw.wa,bq rfl];decide)
 have SS:=(Vl.h.mono Lr).mono Wz
 refine ⟨_,Z,Lq.a,Lq.dx,_,Z,SS.oa,Z,⟨⟨2,OE,Lq,s2,Z,SS,pl2,fun WA g19=>⟨_,Z,_,Z,_,_,Z,Z,Z,?_⟩⟩⟩⟩
 rw [xw.wb,bq rfl]
 exact q WA
end
theorem all_mk {l:PySem.W.OpenLaw} {w:World} {K:Fg} {h:Heap} {mg:SO} {fa:Addr} (X:K.In h) (G:h.Ns mainGlobals mg) (hfa:mg "law"=some (.ref fa))
  {f:Addr} {od an:Option Addr} {sl:Array (Option Value)} {oc kV dc pm cd ct:Value}
  (a:PySem.W.nsIn K mainGlobals "law"=some (some (.ref f))) (l1:K.lookup f=some ⟨oc,od, .func (PySem.W.fnOf "law" "law" (d8 p5) (cJ p5) (aE p5) .none kV dc pm an cd ct),sl⟩) (c:PySem.W.codeIn K cd "law"=true) (k:PySem.W.keepIn K (.ref f)=true)
  (DJ:eZ K "common_factor" nU) (SV:eZ K "made_of" yh) (SW:eZ K "is_name" yi) (ET:eZ K "check_amount" pH) (Ls:eZ K "check_loss" r_) (Lu:eZ K "amounts_of" sf) (DK:eZ K "factor_of_all" nV) (MH:eZ K "_law_draw" uL) (MI:eZ K "_law_name" uM) (Lv:eZ K "_law_names" sQ) (MJ:eZ K "_law_lite" uN) (MK:eZ K "_law_much" uO) (ML:eZ K "_law_rows" uP) (MM:eZ K "_law_flat" uQ) (BO:eZ K "_law_part_deed" mL) (MN:eZ K "_law_deed" uR) (SX:eZ K "_law_at" ym) (DL:eZ K "_law_lite_one" oh) (EU:eZ K "_law_lite_do" pW) (Lw:eZ K "_law_deeds" sR) (EV:eZ K "_law_hold_do" pZ) (Ht:eZ K "_law_behind" qN) (AH:eZ K "_law_other_rows" lQ)
  (acz:PySem.W.nsIn K mainGlobals "len"=some none)
  (XI:PySem.W.nsIn K mainGlobals "range"=some none)
  (acA:PySem.W.nsIn K mainGlobals "sum"=some none)
  (abl:PySem.W.nsIn K mainGlobals "list"=some none)
  (acB:PySem.W.nsIn K mainGlobals "zip"=some none)
  (acC:PySem.W.nsIn K mainGlobals "all"=some none)
  (acD:PySem.W.nsIn K mainGlobals "int"=some none)
  (abm:PySem.W.nsIn K mainGlobals "bool"=some none)
  (acE:PySem.W.nsIn K mainGlobals "str"=some none)
  (XJ:PySem.W.nsIn K mainGlobals "tuple"=some none)
  (acF:PySem.W.nsIn K mainGlobals "abs"=some none)
  (Lx:PySem.W.nsIn K mainGlobals "isinstance"=some none)
  (acG:PySem.W.nsIn K mainGlobals "min"=some none)
  (abn:PySem.W.nsIn K mainGlobals "dict"=some none)
  {Qw:Tok} (SY:PySem.W.nsIn K mainGlobals "LETTERS"=some (some (.str "abcdefghijklmnopqrstuvwxyz" Qw)))
  {cy:Addr} (XM:PySem.W.nsIn K mainGlobals "Hold"=some (some (.ref cy))) (XO:PySem.W.plainGet K cy Str.empty=true) (XQ:PySem.W.hasDictIn K cy=true) (XR:PySem.W.plainOver K cy=true) (XS:PySem.W.findIn K (.ref cy) "__setattr__"=some (some (.builtin "object.__setattr__"))) (XT:PySem.W.makesIn K cy=true) (XU:PySem.W.keepIn K (.ref cy)=true)
  (MO:c8 K cy "__init__" "Hold.__init__" uB) (DM:c8 K cy "place_of" "Hold.place_of" nX) (EW:c8 K cy "part_of" "Hold.part_of" pJ) (BP:c8 K cy "check_new" "Hold.check_new" mJ) (Ly:c8 K cy "whole" "Hold.whole" sr) (yo:c8 K cy "beyond_common" "Hold.beyond_common" jV) (EX:c8 K cy "tops_of" "Hold.tops_of" pK) (MP:c8 K cy "stow" "Hold.stow" ux) (MQ:c8 K cy "sign" "Hold.sign" uy) (MR:c8 K cy "load" "Hold.load" uz) (Hu:c8 K cy "shares" "Hold.shares" qH) (DN:c8 K cy "given_up" "Hold.given_up" nZ) (Hv:c8 K cy "lessen" "Hold.lessen" qE) (Lz:c8 K cy "blend" "Hold.blend" su) (MS:c8 K cy "cast" "Hold.cast" uC) (LB:c8 K cy "award" "Hold.award" sH) (Hw:c8 K cy "mishap" "Hold.mishap" qJ) (MT:c8 K cy "rise" "Hold.rise" uF) (MU:c8 K cy "hand" "Hold.hand" uG) (MV:c8 K cy "land" "Hold.land" uH) (LC:c8 K cy "sever" "Hold.sever" sJ) (BQ:c8 K cy "stake_top" "Hold.stake_top" mK) (LD:c8 K cy "stake" "Hold.stake" sL) (Hx:c8 K cy "landed" "Hold.landed" qK) (MW:c8 K cy "twin" "Hold.twin" uK)
  (Hy:PySem.W.findIn K (.ref cy) "places"=some none)
  (Hz:PySem.W.findIn K (.ref cy) "aboard"=some none)
  (HB:PySem.W.findIn K (.ref cy) "ashore"=some none)
  (LF:PySem.W.findIn K (.ref cy) "names"=some none)
  (HC:PySem.W.findIn K (.ref cy) "bottom"=some none)
  (HD:PySem.W.findIn K (.ref cy) "common"=some none)
  (HE:PySem.W.findIn K (.ref cy) "purses"=some none)
  {iJ:Addr} (XW:PySem.W.nsIn K mainGlobals "Part"=some (some (.ref iJ))) (OF:PySem.W.plainGet K iJ Str.empty=true) (OG:PySem.W.hasDictIn K iJ=true) (OH:PySem.W.plainOver K iJ=true) (OI:PySem.W.findIn K (.ref iJ) "__setattr__"=some (some (.builtin "object.__setattr__"))) (XX:PySem.W.makesIn K iJ=true) (XY:PySem.W.keepIn K (.ref iJ)=true)
  (MX:c8 K iJ "__init__" "Part.__init__" uw) (MY:c8 K iJ "twin" "Part.twin" uJ)
  (MZ:PySem.W.findIn K (.ref iJ) "name"=some none)
  (LG:PySem.W.findIn K (.ref iJ) "owner"=some none)
  (LH:PySem.W.findIn K (.ref iJ) "worth"=some none)
  (HF:PySem.W.findIn K (.ref iJ) "weight"=some none)
  (LI:PySem.W.findIn K (.ref iJ) "scale"=some none)
  (Qx:PySem.W.findIn K (.ref iJ) "row"=some none)
  {fm:Addr} (S0:PySem.W.nsIn K mainGlobals "Bottom"=some (some (.ref fm))) (S3:PySem.W.plainGet K fm Str.empty=true) (S4:PySem.W.hasDictIn K fm=true) (S7:PySem.W.plainOver K fm=true) (S9:PySem.W.findIn K (.ref fm) "__setattr__"=some (some (.builtin "object.__setattr__"))) (S_:PySem.W.makesIn K fm=true) (Tc:PySem.W.keepIn K (.ref fm)=true)
  (HG:c8 K fm "__init__" "Bottom.__init__" qB) (HJ:c8 K fm "over" "Bottom.over" qG) (EY:c8 K fm "share" "Bottom.share" pP) (HK:c8 K fm "grow" "Bottom.grow" qC) (HL:c8 K fm "twin" "Bottom.twin" qL)
  (EZ:PySem.W.findIn K (.ref fm) "steps"=some none)
  (BR:PySem.W.findIn K (.ref fm) "product"=some none)
  (E1:PySem.W.findIn K (.ref fm) "known"=some none)
  {gJ jl gK iF fq gM:Addr}
  (Qy:PySem.W.nsIn K mainGlobals "BadName"=some (some (.ref gJ))) (Vo:PySem.W.nsIn K mainGlobals "Twice"=some (some (.ref jl))) (Qz:PySem.W.nsIn K mainGlobals "NoOwner"=some (some (.ref gK))) (Td:PySem.W.nsIn K mainGlobals "NoPart"=some (some (.ref iF))) (LJ:PySem.W.nsIn K mainGlobals "BadNumber"=some (some (.ref fq))) (QA:PySem.W.nsIn K mainGlobals "TooMuch"=some (some (.ref gM)))
  (QB:PySem.W.excIn K gJ [.type "ValueError", .type "Exception", .type "BaseException", .type "object"] "ValueError.__new__"=true)
  (Vp:PySem.W.excIn K jl [.type "ValueError", .type "Exception", .type "BaseException", .type "object"] "ValueError.__new__"=true)
  (QC:PySem.W.excIn K gK [.type "ValueError", .type "Exception", .type "BaseException", .type "object"] "ValueError.__new__"=true)
  (Te:PySem.W.excIn K iF [.type "ValueError", .type "Exception", .type "BaseException", .type "object"] "ValueError.__new__"=true)
  (LK:PySem.W.excIn K fq [.type "ValueError", .type "Exception", .type "BaseException", .type "object"] "ValueError.__new__"=true)
  (QD:PySem.W.excIn K gM [.type "ValueError", .type "Exception", .type "BaseException", .type "object"] "ValueError.__new__"=true)
  :∃fd:FuncData,(∀(s:Shared) (v:Value),BindsTo s fd ⟨[v],[]⟩ [("_law_script",v)])/\∀base:Heap,K.In base->base.Ns mainGlobals mg->jf l.prog w K mg base sV 8 fa fd ["_law_script"] (Im K):=by
 have e:=hfa.symm.trans (qR X G a)
 cases e
 have acH:=VL (st:=p5) X G a l1 c k
 have rV:oQ K fm:=⟨S3,S4,S7,S9⟩
 have dG:oQ K cy:=⟨XO,XQ,XR,XS⟩
 obtain ⟨_,_,DO⟩:=DJ.at X G
 obtain ⟨_,_,Tf⟩:=SV.at X G
 obtain ⟨_,_,Tg⟩:=SW.at X G
 obtain ⟨_,_,E2⟩:=ET.at X G
 obtain ⟨_,_,LL⟩:=Ls.at X G
 obtain ⟨_,_,LM⟩:=Lu.at X G
 obtain ⟨_,_,DP⟩:=DK.at X G
 obtain ⟨_,_,M_⟩:=MH.at X G
 obtain ⟨_,_,Na⟩:=MI.at X G
 obtain ⟨_,_,LN⟩:=Lv.at X G
 obtain ⟨_,_,Nb⟩:=MJ.at X G
 obtain ⟨_,_,Nc⟩:=MK.at X G
 obtain ⟨_,_,Nd⟩:=ML.at X G
 obtain ⟨_,_,Nf⟩:=MM.at X G
 obtain ⟨_,_,BS⟩:=BO.at X G
 obtain ⟨_,_,Ng⟩:=MN.at X G
 obtain ⟨_,_,Th⟩:=SX.at X G
 obtain ⟨_,_,DQ⟩:=DL.at X G
 obtain ⟨_,_,E3⟩:=EU.at X G
 obtain ⟨_,_,LO⟩:=Lw.at X G
 obtain ⟨_,_,E4⟩:=EV.at X G
 obtain ⟨_,_,HM⟩:=Ht.at X G
 obtain ⟨_,_,AI⟩:=AH.at X G
 have bZ:=oH X G acz
 have cZ:=oH X G XI
 have gP:=oH X G acA
 have fE:=oH X G abl
 have iP:=oH X G acB
 have Qk:=oH X G acC
 have aie:=oH X G acD
 have aic:=oH X G abm
 have aif:=oH X G acE
 have EL:=oH X G XJ
 have aih:=oH X G acF
 have abo:=oH X G Lx
 have pU:=oH X G acG
 have DC:=oH X G abn
 have zV:=qR X G SY
 obtain ⟨_,_,Nh⟩:=MO.made X G XM XT XU
 obtain ⟨_,_,DR⟩:=DM.at dG
 obtain ⟨_,_,E5⟩:=EW.at dG
 obtain ⟨_,_,BU⟩:=BP.at dG
 obtain ⟨_,_,LP⟩:=Ly.at dG
 obtain ⟨_,_,yp⟩:=yo.at dG
 obtain ⟨_,_,E6⟩:=EX.at dG
 obtain ⟨_,_,Ni⟩:=MP.at dG
 obtain ⟨_,_,Nj⟩:=MQ.at dG
 obtain ⟨_,_,Nk⟩:=MR.at dG
 obtain ⟨_,_,HN⟩:=Hu.at dG
 obtain ⟨_,_,DS⟩:=DN.at dG
 obtain ⟨_,_,HP⟩:=Hv.at dG
 obtain ⟨_,_,LQ⟩:=Lz.at dG
 obtain ⟨_,_,Nl⟩:=MS.at dG
 obtain ⟨_,_,LR⟩:=LB.at dG
 obtain ⟨_,_,HQ⟩:=Hw.at dG
 obtain ⟨_,_,Nm⟩:=MT.at dG
 obtain ⟨_,_,Np⟩:=MU.at dG
 obtain ⟨_,_,Nq⟩:=MV.at dG
 obtain ⟨_,_,LU⟩:=LC.at dG
 obtain ⟨_,_,BV⟩:=BQ.at dG
 obtain ⟨_,_,LV⟩:=LD.at dG
 obtain ⟨_,_,HR⟩:=Hx.at dG
 obtain ⟨_,_,Nr⟩:=MW.at dG
 obtain ⟨_,_,Nt⟩:=MX.made X G XW XX XY
 obtain ⟨_,_,Nu⟩:=MY.at ⟨OF,OG,OH,OI⟩
 obtain ⟨_,_,HU⟩:=HG.made X G S0 S_ Tc
 obtain ⟨_,_,HV⟩:=HJ.at rV
 obtain ⟨_,_,E7⟩:=EY.at rV
 obtain ⟨_,_,HW⟩:=HK.at rV
 obtain ⟨_,_,HX⟩:=HL.at rV
 have TX:Txt K ⟨cy,iJ,fm⟩:=⟨dG,⟨OF,OG,OH,OI⟩,rV,Hy,Hz,HB,LF,HC,HD,HE,MZ,LG,LH,HF,LI,Qx,EZ,BR,E1⟩
 have zZ:=qR X G Qy
 have Ey:=qR X G Vo
 have zW:=qR X G Qz
 have BE:=qR X G Td
 have kF:=qR X G LJ
 have jA:=qR X G QA
 have yk:=gR.of QB
 have BG:=gR.of Vp
 have yj:=gR.of QC
 have zX:=gR.of Te
 have jU:=gR.of LK
 have iO:=gR.of QD
 refine ⟨PySem.W.fnOf "law" "law" (d8 p5) (cJ p5) (aE p5) .none kV dc pm an cd ct,fun s v=> .of_eq rfl,fun base _ _=>?_⟩
 have iz:=Bw (P:=l.prog) (w:=w) (base:=base) (mg:=mg) DO
 have zU:=Qj (P:=l.prog) (w:=w) (base:=base) (mg:=mg) Tf Qk
 have oF:=Qm Tg zU bZ zV
 have dU:=By (P:=l.prog) (w:=w) (base:=base) (mg:=mg) (e:=⟨gJ,jl,gK,iF,0,fq,gM,0,0,0,0⟩) E2 jU kF
 have nt:=Er LL dU iO jA
 have XZ:=ZL dU
 have uE:=ZM nt
 have uD:=GN (P:=l.prog) (w:=w) (base:=base) (mg:=mg) LM bZ
 have pN:=BA DP iz
 have qD:=Et (P:=l.prog) (w:=w) (base:=base) (mg:=mg) HU TX
 have pL:=Kv (P:=l.prog) (w:=w) (base:=base) (mg:=mg) Nt TX fE
 have xr:=KI Nh TX qD
 have sy:=Ew (P:=l.prog) (w:=w) (base:=base) (mg:=mg) HW TX
 have jk:=EB HV TX iz
 have qI:=DA E7 TX jk
 have fh:=AB (P:=l.prog) (w:=w) (base:=base) (mg:=mg) (e:=⟨gJ,jl,gK,iF,0,fq,gM,0,0,0,0⟩) DR TX yj zW
 have eW:=Uz fh
 have b_:=BD (P:=l.prog) (w:=w) (base:=base) (mg:=mg) (e:=⟨gJ,jl,gK,iF,0,fq,gM,0,0,0,0⟩) E5 TX zX BE
 have iX:=R6 b_
 have jL:=zY (e:=⟨gJ,jl,gK,iF,0,fq,gM,0,0,0,0⟩) BU TX oF yk zZ BG Ey
 have nY:=ZN jL
 have dR:=GR (P:=l.prog) (w:=w) (base:=base) (mg:=mg) LP TX gP
 have fB:=xh (P:=l.prog) (w:=w) (base:=base) (mg:=mg) yp TX iP
 have fC:=Dr (P:=l.prog) (w:=w) (base:=base) (mg:=mg) E6 TX iP
 have kG:=Kz (P:=l.prog) (w:=w) (base:=base) (mg:=mg) Ni TX
 have kK:=KA Nj TX oF bZ
 have v7:=KC Nk TX nY eW fB kG pL bZ
 have pO:=BH (P:=l.prog) (w:=w) (base:=base) (mg:=mg) DS TX gP iP
 have jj:=EA (P:=l.prog) (w:=w) (base:=base) (mg:=mg) HP TX
 have jW:=GU LQ TX pN sy iP
 have jG:=KQ Nl TX uD uE iX dR jW pO jj gP
 have E8:=ED HN TX iX fC qI iP
 have HY:=EF (e:=⟨gJ,jl,gK,iF,0,fq,gM,0,0,0,0⟩) LR TX fh dU dR jW bZ iO jA
 have E9:=DB (e:=⟨gJ,jl,gK,iF,0,fq,gM,0,0,0,0⟩) HQ TX b_ nt jj
 have LW:=GZ (e:=⟨gJ,jl,gK,iF,0,fq,gM,0,0,0,0⟩) Nm TX b_ dU
 have LX:=G_ (e:=⟨gJ,jl,gK,iF,0,fq,gM,0,0,0,0⟩) Np TX b_ fh fC fB
 have LY:=Hf (e:=⟨gJ,jl,gK,iF,0,fq,gM,0,0,0,0⟩) Nq TX b_ eW fC E8 iP
 have HZ:=EH (e:=⟨gJ,jl,gK,iF,0,fq,gM,0,0,0,0⟩) LU TX b_ jL kG pL jU kF iO jA
 have n5:=AE BV TX dR gP
 have lR:=Hi LV TX jk n5 eW
 have sP:=EJ (P:=l.prog) (w:=w) (base:=base) (mg:=mg) HR TX fE
 have vX:=K3 Nu TX pL
 have sO:=EK HX TX qD fE
 have v_:=K4 Nr TX xr vX sO sP fE DC
 have a_:=K7 (P:=l.prog) (w:=w) (base:=base) (mg:=mg) M_ bZ cZ
 have rC:=K8 (P:=l.prog) (w:=w) (base:=base) (mg:=mg) Na cZ
 have p6:=Ho LN a_ rC cZ
 have v9:=La (P:=l.prog) (w:=w) (base:=base) (mg:=mg) Nb fE
 have kI:=Lb Nc a_
 have kJ:=Lc Nd a_ bZ cZ fE gP pU
 have vY:=Lf (P:=l.prog) (w:=w) (base:=base) (mg:=mg) Nf EL
 have n_:=AF BS a_ kI kJ vY bZ gP pU
 have v5:=Lh Ng a_ kI n_ bZ
 have vH:=Qs (P:=l.prog) (w:=w) (base:=base) (mg:=mg) Th bZ cZ
 have pX:=BN (P:=l.prog) (w:=w) (base:=base) (mg:=mg) DQ
 have qM:=DG E3 vH pX bZ cZ
 have uS:=Hq LO v5 qM cZ
 have qO:=DI E4 kK v7 jG HY.n E9.n LW.n LX.n LY.n HZ.n bZ cZ
 have sS:=EO HM xr kK qO
 have mO:=Ac (P:=l.prog) (w:=w) (base:=base) (mg:=mg) AI fE pU
 exact aaT acH a_ p6 v9 uS sS v_ lR kJ jG mO dR bZ cZ gP
theorem walk {l:PySem.W.OpenLaw} {q:Program} {loose:List Str} {XP:(Str->Option Value)->Heap->Prop} {YP:World->Heap->Prop} {d:DefRec} {K:Params->Fg} (hn:l.most=some 63) (hdf:d.params.defaults=[])
  (hY:∀(w:World) (h:Heap),YP w h->(K w.params).In h)
  (F:∀(w:World) (mg:SO) (fa:Addr) (h:Heap),(K w.params).In h->h.Ns mainGlobals mg->mg d.name=some (.ref fa)->
    ∃fd:FuncData,(∀(s:Shared) (u:Value),BindsTo s fd ⟨[u],[]⟩ [("_law_script",u)])/\∀base:Heap,(K w.params).In base->base.Ns mainGlobals mg->jf l.prog w (K w.params) mg base sV 8 fa fd ["_law_script"] (Im (K w.params))):
  PySem.W.WalkO q loose XP YP l.row.toRowW d [] (fun f vs=>PySem.call f vs):=
 L2.WS (n:=63) (k:=8) (x:="_law_script") (CX:=fun _=>sV) (sp:=fun w=>Im (K w.params)) hn (by decide) hdf ⟨Z,by decide,by decide⟩ hY F (fun _ _ a ns hl _ hS=>⟨a,ns,Z,hS,hl,fun _=>rfl⟩) fun _ _ _ _ _ z=>z
end Law
namespace PySem.W.Fast
abbrev A:=True
theorem a:A:=⟨⟩
theorem tw17915521445039919243:A:=a
theorem tw8833408316288359204:A:=a
theorem tw10090509816472700381:A:=a
theorem tw15485084947354520677:A:=a
theorem tw12001979608850710281:A:=a
theorem tw11255437860204969918:A:=a
theorem tw14075298567853124569:A:=a
theorem tw2791672500963928129:A:=a
theorem tw7188834707038928518:A:=a
theorem tw3867472015093449563:A:=a
theorem tw6919954827726383015:A:=a
theorem tw15894808533901904759:A:=a
theorem tw17214527001610231798:A:=a
theorem tw6476869294886169601:A:=a
theorem tw3342721036920959815:A:=a
theorem tw18276868384645203834:A:=a
theorem tw5224934690861091777:A:=a
theorem tw3196472921940564046:A:=a
theorem tw18288189905788625340:A:=a
theorem tw2684753366574061486:A:=a
theorem tw16572201750244014674:A:=a
theorem tw13351995621345425928:A:=a
theorem tw16859070444214116407:A:=a
theorem tw13752892418165334424:A:=a
theorem tw12307294824869678713:A:=a
theorem tw12861126117657435076:A:=a
theorem tw2459080846349667572:A:=a
theorem tw15906074216398978886:A:=a
theorem tw10180503329611968756:A:=a
theorem tw3465310416212046420:A:=a
theorem tw6278293734279628419:A:=a
theorem tw3722526610561811804:A:=a
theorem tw16061653379575995728:A:=a
theorem tw17630211241373383993:A:=a
theorem tw2971167165520907466:A:=a
theorem tw11911026583930258315:A:=a
theorem tw5937354135507271934:A:=a
theorem tw7512657366725937319:A:=a
theorem tw16890040759806667007:A:=a
theorem tw9606775607568238869:A:=a
theorem tw2439502027295437687:A:=a
theorem tw14977765297937625033:A:=a
theorem tw16156003945557864514:A:=a
theorem tw12456892512373626686:A:=a
theorem tw9896788546799599168:A:=a
theorem tw9161338022768459674:A:=a
theorem tw12552039075957959728:A:=a
theorem tw15716055816872229668:A:=a
theorem tw7091567368212851417:A:=a
theorem tw7748454305120811354:A:=a
theorem tw8117674708168815253:A:=a
theorem tw15734422672110299965:A:=a
theorem tw6835100537749464343:A:=a
theorem tw14503601842296380817:A:=a
theorem tw6058837738783493331:A:=a
theorem tw18304602849097552421:A:=a
theorem tw8870874667377909001:A:=a
theorem tw16959451122794370732:A:=a
theorem tw11532827182678541138:A:=a
theorem tw7207634379715502458:A:=a
theorem tw14858851918418034699:A:=a
theorem tw17652256083222160137:A:=a
theorem tw9655309517350290873:A:=a
theorem tw14917437998742899997:A:=a
theorem tw2789163380445321838:A:=a
theorem tw10438336705953113721:A:=a
theorem tw12895167225567649021:A:=a
theorem tw17229625178452206833:A:=a
theorem tw2974103888224710772:A:=a
theorem tw135377277960579777:A:=a
theorem tw15262106155684831426:A:=a
theorem tw13229711010994049258:A:=a
theorem tw3356274819392616707:A:=a
theorem tw2630701809782357533:A:=a
theorem tw2170838593556027907:A:=a
theorem tw3642526608646399168:A:=a
theorem tw8579641227560728116:A:=a
theorem tw9561862179802731078:A:=a
theorem tw15840262609188238240:A:=a
theorem tw17226937057142347372:A:=a
theorem tw3091235864148890262:A:=a
theorem tw2826307122725837631:A:=a
theorem tw4574049135566748839:A:=a
theorem tw1043362452567144993:A:=a
theorem tw4491731834723732801:A:=a
theorem tw3903819863244630270:A:=a
theorem tw15694887058043347126:A:=a
theorem tw9091316156276600690:A:=a
theorem tw670024448075493811:A:=a
theorem tw1100289667886591256:A:=a
theorem tw1455574106009452268:A:=a
theorem tw10176514034872719425:A:=a
theorem tw10851169265524615683:A:=a
theorem tw9888915032565476614:A:=a
theorem tw5736721933921357024:A:=a
theorem tw15209227010388985246:A:=a
theorem tw8605475896697528985:A:=a
theorem tw8400220407788389147:A:=a
theorem tw11717519262134717441:A:=a
theorem tw16316984191346299461:A:=a
theorem tw5000070103355945583:A:=a
theorem tw4011463071894943201:A:=a
theorem tw2609271901653034710:A:=a
theorem tw14341996217451309556:A:=a
theorem tw8499076375996468113:A:=a
theorem tw4215595251405338887:A:=a
theorem tw16979799538110005817:A:=a
theorem tw15681804556535160806:A:=a
theorem tw4684976169559311190:A:=a
theorem tw11651893922363840604:A:=a
theorem tw15786428783603752337:A:=a
theorem tw14821713865256570549:A:=a
theorem tw6852501749101062735:A:=a
theorem tw16639932761540741722:A:=a
theorem tw13292467586886781188:A:=a
theorem tw4229088273142026502:A:=a
theorem tw7476484090224392089:A:=a
theorem tw10926150320863775583:A:=a
theorem tw9226433906603835517:A:=a
theorem tw62357231999245613:A:=a
theorem tw1996213992082815066:A:=a
theorem tw6131838817645575536:A:=a
theorem tw16406602521478082500:A:=a
theorem tw2184580997568413232:A:=a
theorem tw272679923281593596:A:=a
theorem tw8315995015130617252:A:=a
theorem tw12286813459744810205:A:=a
theorem tw17712282731339399476:A:=a
theorem tw8437357977452373899:A:=a
theorem tw417491519586386871:A:=a
theorem tw4415094506904129278:A:=a
theorem tw3741997132057550724:A:=a
theorem tw3810624839625293923:A:=a
theorem tw17856594094584376545:A:=a
theorem tw11973551269723746043:A:=a
theorem tw13075877875641889504:A:=a
theorem tw8907738346802566866:A:=a
theorem tw9513775448787352740:A:=a
theorem tw2994572230001028069:A:=a
theorem tw8233192900450444022:A:=a
theorem tw17108501859918954842:A:=a
theorem tw9336823442837731328:A:=a
theorem tw13988787990662163761:A:=a
theorem tw5037006940410725105:A:=a
theorem tw6543621488043060766:A:=a
theorem tw702444887307217938:A:=a
theorem tw1408235333934624230:A:=a
theorem tw15873574945804983358:A:=a
theorem tw1164722556236689940:A:=a
theorem tw15016751235432634528:A:=a
theorem tw408947034699708121:A:=a
theorem tw6390584746344326061:A:=a
theorem tw15125660737350123229:A:=a
theorem tw9922757922729413380:A:=a
theorem tw1104377059127882927:A:=a
theorem tw6153299009702962248:A:=a
theorem tw4275830410330865424:A:=a
theorem tw10469798247007601200:A:=a
theorem tw12213390722819979462:A:=a
theorem tw12648240983887012289:A:=a
theorem tw17226017047836444302:A:=a
theorem tw4071374736174541426:A:=a
theorem tw10993937298262768187:A:=a
theorem tw4938476985595379549:A:=a
theorem tw6124039916290638913:A:=a
theorem tw6982165400219074152:A:=a
theorem tw2100168962830103522:A:=a
theorem tw3702443268550018419:A:=a
theorem tw7463743268482200341:A:=a
theorem tw2939668792482638351:A:=a
theorem tw6780264378526728761:A:=a
theorem tw15420666966442323540:A:=a
theorem tw5051076798866616926:A:=a
theorem tw15495488066110633070:A:=a
theorem tw12237069731982113801:A:=a
theorem tw10822053949197013312:A:=a
theorem tw2649399346070952569:A:=a
theorem tw2656865718221074880:A:=a
theorem tw15079686455317931922:A:=a
theorem tw16518177442768885761:A:=a
theorem tw13435464923187696043:A:=a
theorem tw7442167201211642860:A:=a
theorem tw786263479719797037:A:=a
theorem tw2309153925350662973:A:=a
theorem tw985398050701053400:A:=a
theorem tw13480307566106574004:A:=a
theorem tw2684221326792303729:A:=a
theorem tw5443787078848547406:A:=a
theorem tw24041693315809840:A:=a
theorem tw2452019775185835285:A:=a
theorem tw13684072134694629688:A:=a
theorem tw7194488625839657835:A:=a
theorem tw6411031494588410665:A:=a
theorem tw8498689871839406989:A:=a
theorem tw3572435510078359039:A:=a
theorem tw6502663206622067158:A:=a
theorem tw8472295921484808765:A:=a
theorem tw4699038027984934128:A:=a
theorem tw1843458078287161400:A:=a
theorem tw9039294955699426207:A:=a
theorem tw7111404466972199588:A:=a
theorem tw15221558857261011143:A:=a
theorem tw13335841639048136550:A:=a
theorem tw11409483063548103090:A:=a
theorem tw16180380972721839671:A:=a
theorem tw3215516009983947075:A:=a
theorem tw4123341593027658851:A:=a
theorem tw13593613972106568866:A:=a
theorem tw8378485767255653794:A:=a
theorem tw7636445751363753377:A:=a
theorem tw13865400206845625382:A:=a
theorem tw13105532137956139590:A:=a
theorem tw14500161276641681093:A:=a
theorem tw9688181699264721396:A:=a
theorem tw5097692993568301249:A:=a
theorem tw4223161529142803656:A:=a
theorem tw738829955948703866:A:=a
theorem tw4859053865913904222:A:=a
theorem tw10435230610516929840:A:=a
theorem tw10191163326225958270:A:=a
theorem tw16078457345647596246:A:=a
theorem tw10458549007137605763:A:=a
theorem tw7873811621975747296:A:=a
theorem tw11476750499568986940:A:=a
theorem tw10975189040399464019:A:=a
theorem tw10063710364765864520:A:=a
theorem tw345191448264269763:A:=a
theorem tw2423971904671996270:A:=a
theorem tw3525023167933010018:A:=a
theorem tw6968465339973045053:A:=a
theorem tw16106923644089679390:A:=a
theorem tw16089094229665593173:A:=a
theorem tw11973610945200819258:A:=a
theorem tw8561852492524808698:A:=a
theorem tw13220062966552455992:A:=a
theorem tw13287209264152411756:A:=a
theorem tw17078155964367003289:A:=a
theorem tw11827817235536826258:A:=a
theorem tw15467656908410822396:A:=a
theorem tw8559393229741392208:A:=a
theorem tw7523127055814094747:A:=a
theorem tw2717192936434588902:A:=a
theorem tw12426499408222877815:A:=a
theorem tw425110059266845244:A:=a
theorem tw12716817034227335649:A:=a
theorem tw147055765629934362:A:=a
theorem tw5577728173532195828:A:=a
theorem tw10135787393030376213:A:=a
theorem tw4108254675780531137:A:=a
theorem tw3984908571936772252:A:=a
theorem tw9873208344806351034:A:=a
theorem tw17892895627928976687:A:=a
theorem tw16374496853303145226:A:=a
theorem tw4680197217120146000:A:=a
theorem tw10197560505136163909:A:=a
theorem tw12013900673436529547:A:=a
theorem tw11800900233125388440:A:=a
theorem tw1852725122207375783:A:=a
theorem tw9784104946200902353:A:=a
theorem tw5299354943949313340:A:=a
theorem tw5337549492865076017:A:=a
theorem tw15535778370556705380:A:=a
theorem tw4161341930459758245:A:=a
theorem tw5523959391549157966:A:=a
theorem tw5474143410413660817:A:=a
theorem tw12149252843899207811:A:=a
theorem tw1153388147974268754:A:=a
theorem tw16410940285490789556:A:=a
theorem tw15033728043396349125:A:=a
theorem tw12695202823729046057:A:=a
theorem tw14477880378819560888:A:=a
theorem tw7970604834132432903:A:=a
theorem tw5041935876798474395:A:=a
theorem tw16061169856036142975:A:=a
theorem tw7640947169979103276:A:=a
theorem tw846529162000828143:A:=a
theorem tw15398489573615317216:A:=a
theorem tw2464375070630144836:A:=a
theorem tw9453372270060905261:A:=a
theorem tw12468686050088897118:A:=a
theorem tw16674906293102619500:A:=a
theorem tw16477825462441938549:A:=a
theorem tw14331560979704723732:A:=a
theorem tw10437606963879967970:A:=a
theorem tw11962599834286859173:A:=a
theorem tw3231331442131668656:A:=a
theorem tw8103169445629402252:A:=a
theorem tw14796773884248964496:A:=a
theorem tw14950704333406802406:A:=a
theorem tw15460175756127893503:A:=a
theorem tw6883788461990691186:A:=a
theorem tw17852786118859831172:A:=a
theorem tw4290258649940182608:A:=a
theorem tw675652728852931917:A:=a
theorem tw4565894331486603848:A:=a
theorem tw15121024481483468024:A:=a
theorem tw15494673217173027625:A:=a
theorem tw1362937347162117285:A:=a
theorem tw16030960003606437916:A:=a
theorem tw7975722325183396253:A:=a
theorem tw10311159178405440868:A:=a
theorem tw7622905080719111652:A:=a
theorem tw10932286240494106788:A:=a
theorem tw11655244653370972095:A:=a
theorem tw14335169932728479448:A:=a
theorem tw17694829962874751777:A:=a
theorem tw1509851318243790804:A:=a
theorem tw15740339884000184867:A:=a
theorem tw13349107948686881704:A:=a
theorem tw1525681471264910095:A:=a
theorem tw7996968550961673848:A:=a
theorem tw415809562870092473:A:=a
theorem tw13315408915149143332:A:=a
theorem tw7649348565627987789:A:=a
theorem tw15151040171047843279:A:=a
theorem tw13042733168820989553:A:=a
theorem tw13185201933573788547:A:=a
theorem tw12958985711972575614:A:=a
theorem tw15701660699906662285:A:=a
theorem tw12067144414931794011:A:=a
theorem tw3962362589655799552:A:=a
theorem tw5483479901548021199:A:=a
theorem tw9997122208425484968:A:=a
theorem tw8213867492356681752:A:=a
theorem tw13469520174690157391:A:=a
theorem tw8438249952937850166:A:=a
theorem tw14371837907351344574:A:=a
theorem tw13017953582580074192:A:=a
theorem tw16561876466400616793:A:=a
theorem tw45841874198520998:A:=a
theorem tw2779581548439494900:A:=a
theorem tw4742384238172448259:A:=a
theorem tw9591930289999279247:A:=a
theorem tw14197362639360935848:A:=a
theorem tw1759443100993611555:A:=a
theorem tw9279114729764109765:A:=a
theorem tw18245306048054324380:A:=a
theorem tw3833207303475870411:A:=a
theorem tw5443094091753963162:A:=a
theorem tw2067330545513604971:A:=a
theorem tw11740039708415812082:A:=a
theorem tw11687099116232559208:A:=a
theorem tw15354407024014491658:A:=a
theorem tw4266486560801083634:A:=a
theorem tw12214223412014977659:A:=a
theorem tw3250484424199829017:A:=a
theorem tw17058598790405252924:A:=a
theorem tw6575322942688763149:A:=a
theorem tw12312714832690454181:A:=a
theorem tw12879419676374704793:A:=a
theorem tw16535768208482879876:A:=a
theorem tw5259622299693740891:A:=a
theorem tw16854247280647958205:A:=a
theorem tw4226750930970880231:A:=a
theorem tw3269491820791508675:A:=a
theorem tw18349608493817993299:A:=a
theorem tw14697794720465712987:A:=a
theorem tw7695986953926408807:A:=a
theorem tw9550778158743214025:A:=a
theorem tw11901068210395530227:A:=a
theorem tw6111937396658618904:A:=a
theorem tw4223982927933503786:A:=a
theorem tw11469309442677537924:A:=a
theorem tw17361619204240587865:A:=a
theorem tw6495482467887970283:A:=a
theorem tw3214034013920235256:A:=a
theorem tw5946531882242625366:A:=a
theorem tw15257069557935948101:A:=a
theorem tw4280676003630309914:A:=a
theorem tw2795609700363330649:A:=a
theorem tw3243149421721652233:A:=a
theorem tw15556331943043100684:A:=a
theorem tw13879392936317021243:A:=a
theorem tw15845031054067732657:A:=a
theorem tw4765307454884913223:A:=a
theorem tw11313847943854192990:A:=a
theorem tw513950576455931890:A:=a
theorem tw2861561157496115724:A:=a
theorem tw12897926884964809411:A:=a
theorem tw12134495852346631671:A:=a
theorem tw1104225079040365512:A:=a
theorem tw17709400163045435199:A:=a
theorem tw5875776092133266758:A:=a
theorem tw1054124491789035438:A:=a
theorem tw16818799974002567441:A:=a
theorem tw12789347841308688127:A:=a
theorem tw16691414657528574359:A:=a
theorem tw7136073810014961552:A:=a
theorem tw296322657882886090:A:=a
theorem tw14852737022092805946:A:=a
theorem tw15785084743960541346:A:=a
theorem tw1112695136514317115:A:=a
theorem tw8630600534404086156:A:=a
theorem tw17508544810651812662:A:=a
theorem tw3158075777317315647:A:=a
theorem tw9055885594752347114:A:=a
theorem tw15550181046299044369:A:=a
theorem tw10952187100543782319:A:=a
theorem tw8099381375066860683:A:=a
theorem tw9454441283681376619:A:=a
theorem tw7451141394475404674:A:=a
theorem tw4481499286605138003:A:=a
theorem tw393383775093650447:A:=a
theorem tw8999204788148385051:A:=a
theorem tw4787271522384301940:A:=a
theorem tw15129264837558733087:A:=a
theorem tw9762459113549259472:A:=a
theorem tw9530599068455208675:A:=a
theorem tw13602404176106513521:A:=a
theorem tw849761545007433964:A:=a
theorem tw13882402623467396478:A:=a
theorem tw8802706349275302969:A:=a
theorem tw12467538285764754866:A:=a
theorem tw1863576718043461457:A:=a
theorem tw14918957084084068618:A:=a
theorem tw9496669585837889487:A:=a
theorem tw1931106488919697700:A:=a
theorem tw6655821735116854586:A:=a
theorem tw3332728881914497698:A:=a
theorem tw13620078482331448853:A:=a
theorem tw14987973811553029857:A:=a
theorem tw6649174573727870613:A:=a
theorem tw14301505629939515120:A:=a
theorem tw3285705052171876309:A:=a
theorem tw15751528714062024568:A:=a
theorem tw4431643956235395579:A:=a
theorem tw13152301473992454992:A:=a
theorem tw6663923161693907487:A:=a
theorem tw9759712683408294231:A:=a
theorem tw15671085749119956244:A:=a
theorem tw11070020329004359202:A:=a
theorem tw15364876791670587737:A:=a
theorem tw12263870703709828795:A:=a
theorem tw2971483096184633516:A:=a
theorem tw6251070779035898166:A:=a
theorem tw8465202387990221526:A:=a
theorem tw3089311375588386277:A:=a
theorem tw8296362199760416623:A:=a
theorem tw1170465816397599103:A:=a
theorem tw3594606566657486853:A:=a
theorem tw17387937562028644993:A:=a
theorem tw17046765468297448192:A:=a
theorem tw14608611142511670772:A:=a
theorem tw3354201548113050308:A:=a
theorem tw17687559805805138992:A:=a
theorem tw8885197426863760537:A:=a
theorem tw4172984587878421453:A:=a
theorem tw6353850493405503802:A:=a
theorem tw305468417386136404:A:=a
theorem tw11644407952049022012:A:=a
theorem tw377091835944198556:A:=a
theorem tw5923941997068932385:A:=a
theorem tw13141277250650800171:A:=a
theorem tw15911629876390380981:A:=a
theorem tw14429749775403099846:A:=a
theorem tw16298703193822541691:A:=a
theorem tw16037894660863460797:A:=a
theorem tw9870650961276082407:A:=a
theorem tw10628369352057944056:A:=a
theorem tw4332021318373579518:A:=a
theorem tw7315505315368759848:A:=a
theorem tw13930289185063831353:A:=a
theorem tw2515623623945361817:A:=a
theorem tw16327726163630168439:A:=a
theorem tw17167782715157640810:A:=a
theorem tw10869742231392841273:A:=a
theorem tw6899357027752254215:A:=a
theorem tw5923144028752022560:A:=a
theorem tw5670750752136487063:A:=a
theorem tw3265732714379824241:A:=a
theorem tw11926494047954740203:A:=a
theorem tw13968523327252962608:A:=a
theorem tw12538390604339588868:A:=a
theorem tw17760067732422224843:A:=a
theorem tw16130915830771478550:A:=a
theorem tw6077234479933918402:A:=a
theorem tw13961664386230734072:A:=a
theorem tw165858563340377395:A:=a
theorem tw1993672834609982170:A:=a
theorem tw3333815202008936319:A:=a
theorem tw17612518043590959234:A:=a
theorem tw1800473763759070640:A:=a
theorem tw15533132635165030903:A:=a
theorem tw10330560576571011825:A:=a
theorem tw9774171545643690262:A:=a
theorem tw13387327146251572741:A:=a
theorem tw12606927749653066126:A:=a
theorem tw15497033433023539368:A:=a
theorem tw8811301194171585063:A:=a
theorem tw14269374070553546277:A:=a
theorem tw3782779498842835634:A:=a
theorem tw5484031115599995569:A:=a
theorem tw9374746526465806265:A:=a
theorem tw2041059943875363059:A:=a
theorem tw11257744801046971015:A:=a
theorem tw13245490740793609322:A:=a
theorem tw2170071468000695404:A:=a
theorem tw11283759162531166725:A:=a
theorem tw13188609629730700128:A:=a
theorem tw16090377537501932625:A:=a
theorem tw11791412905191802581:A:=a
theorem tw1943506449181926647:A:=a
theorem tw6538007791317494168:A:=a
theorem tw2843690969527289654:A:=a
theorem tw18301005014481398334:A:=a
theorem tw8768314122742047494:A:=a
theorem tw14306231164653731776:A:=a
theorem tw17476758755697609514:A:=a
theorem tw12870546461579124916:A:=a
theorem tw7750446792990677404:A:=a
theorem tw9934696208192355140:A:=a
theorem tw11792006431357896791:A:=a
theorem tw1378814876987410299:A:=a
theorem tw14295599586130231609:A:=a
theorem tw16834418782249585661:A:=a
theorem tw11486494775146616334:A:=a
theorem tw7648161851567170956:A:=a
theorem tw16617415594568523815:A:=a
theorem tw7593190599894407624:A:=a
theorem tw11949741664834739296:A:=a
theorem tw8758779636505021782:A:=a
theorem tw14786036500436939902:A:=a
theorem tw17785463318414414314:A:=a
theorem tw5679039810004693515:A:=a
theorem tw2363447165626480500:A:=a
theorem tw1689866064962175792:A:=a
theorem tw9025942740803238599:A:=a
theorem tw4522449356480038290:A:=a
theorem tw14371530625067754763:A:=a
theorem tw3763595418818575956:A:=a
theorem tw11327219612352052948:A:=a
theorem tw4650660028735311763:A:=a
theorem tw17825236140027282575:A:=a
theorem tw9431767826223823475:A:=a
theorem tw13320894377028167306:A:=a
theorem tw7010792022311884029:A:=a
theorem tw2848950246887706842:A:=a
theorem tw14940237760867966519:A:=a
theorem tw141600355629607489:A:=a
theorem tw748978293750574455:A:=a
theorem tw8325665378670414447:A:=a
theorem tw1256354326433314386:A:=a
theorem tw16309370404964323976:A:=a
theorem tw4569425180292822719:A:=a
theorem tw10317996656213956330:A:=a
theorem tw10211542332972724895:A:=a
theorem tw1762454669399024857:A:=a
theorem tw5960719709632346324:A:=a
theorem tw273516228013582461:A:=a
theorem tw12683499092926691423:A:=a
theorem tw259006670862082019:A:=a
theorem tw1368843755411330062:A:=a
theorem tw9958941047241079913:A:=a
theorem tw15797270466084137990:A:=a
theorem tw14943807326337044990:A:=a
theorem tw10956534682768791302:A:=a
theorem tw6403234986991570611:A:=a
theorem tw15709629335881353724:A:=a
theorem tw7816686442317717503:A:=a
theorem tw4596984881003275818:A:=a
theorem tw15738317024699977631:A:=a
theorem tw9466276228044322284:A:=a
theorem tw10435280793057485443:A:=a
theorem tw9184519175901525774:A:=a
theorem tw13019163542641848555:A:=a
theorem tw15354563136844239777:A:=a
theorem tw8338381130358502497:A:=a
theorem tw14176316900624276864:A:=a
theorem tw8143160737564875449:A:=a
theorem tw12911884261691910927:A:=a
theorem tw15268321270705126949:A:=a
theorem tw9510994343926159834:A:=a
theorem tw12492526968618184079:A:=a
theorem tw3330524297519736173:A:=a
theorem tw2037175839146364874:A:=a
theorem tw52512639705425560:A:=a
theorem tw7497452081649100678:A:=a
theorem tw9129241325782705990:A:=a
theorem tw8953275186513840598:A:=a
theorem tw11458228077636218552:A:=a
theorem tw4997361063521871935:A:=a
theorem tw16055507526422635315:A:=a
theorem tw9253296719849858197:A:=a
theorem tw13073540367358891365:A:=a
theorem tw7114288191786748045:A:=a
theorem tw2543281747948908810:A:=a
theorem tw8047106553739605557:A:=a
theorem tw10272637752788792765:A:=a
theorem tw13353441185326452822:A:=a
theorem tw12463372251882859601:A:=a
theorem tw18350385047146968172:A:=a
theorem tw5994266610049143553:A:=a
theorem tw3679394191863683908:A:=a
theorem tw5589082040038146339:A:=a
theorem tw1212484769065070654:A:=a
theorem tw13565692939789579245:A:=a
theorem tw2462542399126098668:A:=a
theorem tw98968045325915520:A:=a
theorem tw3953816075009626950:A:=a
theorem tw12513912052013237287:A:=a
theorem tw7391771547803948608:A:=a
theorem tw15664044175620686629:A:=a
theorem tw15517048746614434917:A:=a
theorem tw12222039646130709846:A:=a
theorem tw4928358892019863525:A:=a
theorem tw4633321610357439060:A:=a
theorem tw9169513546652475632:A:=a
theorem tw13470590557052349290:A:=a
theorem tw3807769843905922548:A:=a
theorem tw6898885703149578203:A:=a
theorem tw14454756621057578250:A:=a
theorem tw13371006835671643658:A:=a
theorem tw8680125071723251316:A:=a
theorem tw1474403378833970169:A:=a
theorem tw8553293874200031698:A:=a
theorem tw744318551738479294:A:=a
theorem tw2045508298774426623:A:=a
theorem tw12005533601486683122:A:=a
theorem tw13241512288548179705:A:=a
theorem tw2926289490328068754:A:=a
theorem tw15630407188826238089:A:=a
theorem tw1497621804330146321:A:=a
theorem tw9885170775270017689:A:=a
theorem tw14528576782130813188:A:=a
theorem tw3903560996922202716:A:=a
theorem tw1119079594596364843:A:=a
theorem tw12593588499958278383:A:=a
theorem tw8052825150652194020:A:=a
theorem tw4691167983067700792:A:=a
theorem tw12936250098059614372:A:=a
theorem tw9131937039133559825:A:=a
theorem tw15220293260394288082:A:=a
theorem tw6770493919914133356:A:=a
theorem tw17481633053069672558:A:=a
theorem tw13252668034324442339:A:=a
theorem tw15061423032752755099:A:=a
theorem tw14551375928386865165:A:=a
theorem tw6334399399368251204:A:=a
theorem tw2130833945380765930:A:=a
theorem tw17204553101056792484:A:=a
theorem tw8497990471598901275:A:=a
end PySem.W.Fast
open PySem PySem.W PyProof.Rows
set_option maxRecDepth 100000 in
set_option maxHeartbeats 0 in
theorem PySem.Challenge.cw_jettison_k36_whole_no_matter_whose_holds : PySem.Challenge.rw_jettison_k36_whole_no_matter_whose.Holds := by
 w_on;o_law;k_head;(case hw=>w_witness2)
 k_fill
 refine Law.walk (l:=PySem.Challenge.rw_jettison_k36_whole_no_matter_whose) rfl rfl (fun w h Y=>PySem.W.kIn_of Y) ?F
 case F=>
  intro w mg fa h KX G hmg
  refine' Law.all_mk KX G hmg ?_ ?_ ?_ ?_ ?_ ?_ ?_ ?_ ?_ ?_ ?_ ?_ ?_ ?_ ?_ ?_ ?_ ?_ ?_ ?_ ?_ ?_ ?_ ?_ ?_ ?_ ?_ ?_ ?_ ?_ ?_ ?_ ?_ ?_ ?_ ?_ ?_ ?_ ?_ ?_ ?_ ?_ ?_ ?_ ?_ ?_ ?_ ?_ ?_ ?_ ?_ ?_ ?_ ?_ ?_ ?_ ?_ ?_ ?_ ?_ ?_ ?_ ?_ ?_ ?_ ?_ ?_ ?_ ?_ ?_ ?_ ?_ ?_ ?_ ?_ ?_ ?_ ?_ ?_ ?_ ?_ ?_ ?_ ?_ ?_ ?_ ?_ ?_ ?_ ?_ ?_ ?_ ?_ ?_ ?_ ?_ ?_ ?_ ?_ ?_ ?_ ?_ ?_ ?_ ?_ ?_ ?_ ?_ ?_ ?_ ?_ ?_ ?_ ?_ ?_ ?_ ?_ ?_ ?_ ?_ ?_ ?_ ?_
  any_goals first|(refine' L2.eZ.of ?a ?l ?c ?k;(case a=>k_is);(case l=>k_is);(case c=>k_is);(case k=>k_is))|(refine' L2.c8.of ?a ?i ?l ?c ?k;(case a=>k_is);(case i=>k_is);(case l=>k_is);(case c=>k_is);(case k=>k_is))|k_is|k_exc
