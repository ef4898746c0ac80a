import PyProof.Rows.All
import Wide.All
import OpenK.AllK
import Wide.FinOn
import Lean
import PyProof.EqAt
import PyProof.EqKinds
import PyProof.TupleCall
import PySem.Challenge.RW_jettison_k32_whole_shares_come_to_one
set_option Elab.async false
set_option bootstrap.genMatcherCode false
set_option genSizeOf false
set_option genSizeOfSpec false
set_option linter.all false
set_option maxRecDepth 100000
local macro_rules|`(tactic|omega)=>`(tactic|lia)
abbrev Fg:=PySem.W.Frag
abbrev VS:=PySem.Value->PySem.Shared->Prop
abbrev AO:=List (PySem.Addr×PySem.Obj)
abbrev SO:=PySem.Str->Option PySem.Value
set_option autoImplicit true
def RB:=@PySem.F.slot_dict_valueiterator_next
def KC:=@Int.mul_le_mul_of_nonneg_right
def Fq:=@Int.mul_le_mul_of_nonneg_left
def RC:=@PySem.wpAny_typeNameOfWhole_keyiter
def RD:=@PySem.wpAny_typeNameOfWhole_valiter
def RE:=@PySem.F.slot_dict_keyiterator_next
def Ny:=@PyProof.Rows.callWith_type1
def Ft:=@List.idxOf_lt_length_of_mem
def RG:=@Int.ediv_eq_of_eq_mul_right
def Fv:=@List.getElem?_append_right
def jJ:=@List.getD_eq_getElem?_getD
def LH:=@PySem.F.slot_tuple_iterator_next
def LI:=@List.length_eraseIdx_of_lt
def c_:=@List.getElem?_eq_some_iff
def BY:=@List.getElem?_append_left
def LJ:=@List.mem_or_eq_of_mem_set
def bB:=@List.getElem?_eq_getElem
def LK:=@PySem.wpAny_typeNameOf_keyiter
def LL:=@PySem.wpAny_typeNameOf_valiter
def BZ:=@Int.mul_ediv_cancel_left
def lU:=@PySem.F.slot_list_append
def lV:=@PySem.F.type_list_append
def wJ:=@PySem.wpAny_callSpecial?_slot
def lW:=@PySem.F.plainAttrs_list
def ou:=@List.getElem?_set_self
def bU:=@PySem.Heap.get?_push_of_some
def mU:=@Option.map_eq_some_iff
def B0:=@List.zipWith_cons_cons
def LM:=@PySem.Calls.callWith_builtin
def LN:=@PyProof.Rows.boot_list
def iQ:=@List.mem_append_right
def mV:=@List.length_replicate
def LO:=@PySem.Heap.get?_update_self
def yT:=@List.getElem?_eq_none
def LP:=@PySem.wpAny_isOneOf_valiter
def LQ:=@List.getElem?_zipWith
def Fw:=@PyProof.Rows.boot_sum
def LR:=@PyProof.Rows.boot_min
def cK:=@List.mem_cons_of_mem
def B4:=@List.mem_append_left
def wK:=@List.getElem?_set_ne
def bR:=@List.mem_of_getElem?
def lX:=@Bool.and_eq_true_iff
def LU:=@PySem.intBits_le_iff
def B7:=@beq_eq_false_iff_ne
def yU:=@List.filterMap_cons
def dP:=@PySem.Heap.get?_push_size
def uX:=@PySem.mem_of_lookup
def yV:=@List.replicate_succ
def B8:=@Bool.or_eq_true_iff
def B9:=@PySem.Heap.SameBut.update
def jY:=@List.length_zipWith
def Fx:=@List.filter_eq_self
def Fy:=@List.map_congr_left
def wL:=@List.getElem_of_mem
def jK:=@Nat.lt_of_lt_of_le
def dg:=@List.mem_cons_self
def B_:=@List.mem_filterMap
def eX:=@Bool.false_ne_true
def Fz:=@PySem.wpAny_Call_Name_kw
def cT:=@List.length_append
def LV:=@PySem.tupleKind_room_in1
def FD:=@Nat.lt_of_le_of_lt
def fT:=@List.mem_singleton
def wM:=@Int.emod_lt_of_pos
def FE:=@Bool.false_eq_true
def Ca:=@PySem.Obj.data_mapFields
def Cb:=@PySem.wpAny_setField_rec
def FF:=@List.set_cons_succ
def LW:=@List.set_cons_zero
def LX:=@PySem.F.slot_dict_values
def FG:=@List.zip_cons_cons
def rm:=@of_decide_eq_false
def oz:=@PySem.W.mg_none_of
def LY:=@PySem.wpAny_pyIter_list
def b_:=@List.getElem?_map
def gE:=@List.size_toArray
def LZ:=@List.flatten_cons
def L1:=@List.append_assoc
def aV:=@of_decide_eq_true
def L3:=@Nat.lt_succ_of_lt
def uY:=@PySem.wpAny_newObj_type
def Cc:=@PySem.wpAny_truthy_bool
def L4:=@PySem.wpAny_dictEntries
def rA:=@Int.toNat_natCast
def Cd:=@List.foldl_append
def L5:=@List.getElem?_inj
def oB:=@Bool.eq_false_iff
def jL:=@List.length_cons
def qi:=@List.length_take
def FH:=@Bool.and_eq_true
def L6:=@List.cons_append
def gF:=@List.filter_cons
def L7:=@Int.ediv_le_self
def tX:=@Nat.le_add_right
def mW:=@List.lookup_cons
def tY:=@List.all_eq_true
def Ce:=@List.getElem_mem
def wN:=@PySem.wpAny_call_entry
def ee:=@List.take_length
def cu:=@decide_eq_false
def eV:=@Option.some.inj
def uZ:=@List.mem_filter
def fZ:=@List.mem_append
def yc:=@Bool.eq_iff_iff
def aC:=@List.length_map
def zZ:=@List.append_nil
def fU:=@List.nodup_cons
def z6:=@List.of_mem_zip
def gG:=@List.length_set
def iV:=@List.foldl_cons
def E7:=@List.nil_append
def qP:=@List.find?_cons
def E8:=@Option.map_some
def bQ:=@List.map_append
def mX:=@Int.emod_nonneg
def E9:=@Int.ediv_nonneg
def E_:=@List.forIn_cons
def Fb:=@PySem.pushCells_keeps
def Fc:=@PySem.wpAny_dictEpoch
def Fd:=@PySem.F.slot_zip_next
def u0:=@PySem.wpAny_passesOwn
def Fe:=@PySem.wpAny_execs_nil
def fu:=@PySem.PassesOwn.never
def u6:=@List.mem_range
def kD:=@PySem.Heap.size_push
def aX:=@decide_eq_true
def z7:=@Int.natAbs_mul
def z8:=@List.forIn_nil
def sU:=@PySem.wpAny_fieldsOf
def yd:=@PySem.wpAny_setField
def sV:=@PySem.wpAny_seqItems
def sW:=@List.nodup_nil
def lE:=@Int.mul_nonneg
def ff:=@PySem.boot_len
def iW:=@Nat.lt_irrefl
def c8:=@List.mem_cons
def cj:=@List.map_cons
def z9:=@List.any_cons
def pC:=@PySem.W.mg_of
def fG:=@List.sum_cons
def z_:=@PySem.wpAny_standAt
def Aa:=@PySem.wpAny_holding
def iX:=@Int.mul_assoc
def bF:=@PySem.Heap.lt_size
def ef:=@Nat.ne_of_lt
def fH:=@Nat.le_trans
def Ab:=@Nat.le_of_lt
def ye:=@Nat.ne_of_gt
def Ac:=@PySem.codeAny_mono
def bJ:=@List.mem_map
def Ad:=@Int.ediv_one
def Ae:=@Int.le_of_lt
def sX:=@List.set_set
def u7:=@Nat.min_self
def iy:=@List.map_map
def Af:=@Nat.sub_self
def sY:=@Int.mul_comm
def qQ:=@List.map_set
def pD:=@Sum.inr.inj
def aK:=@Nat.le_refl
def gH:=@Nat.zero_le
def ji:=@PySem.sizeLine_eq
def yf:=@Nat.le_succ
def lF:=@PySem.wpAny_field
def kF:=@Int.le_refl
def u9:=@Int.mul_add
def u_:=@Int.add_mul
def iG:=@PySem.wpAny_mono
def aS:=@PySem.wpAny_pure
def ay:=@PySem.wpAny_bind
def lG:=@beq_iff_eq
def kG:=@congrArg
def lH:=@if_false
def cD:=@Ne.symm
def aA:=@if_pos
def az:=@if_neg
theorem Z {α:Sort _} {a:α}:a=a:=rfl
namespace L2
open PySem PySem.Spec PyProof.Rows
abbrev Key:=Sum Int Str
def vc:Key->Value->Bool
 | .inl k,v=>Value.isInt k v
 | .inr x,v=>Value.isStrOf x v
def aaY (w:World):Key->Int
 | .inl k=>hashInt k
 | .inr x=>hashStr w x
theorem fF:∀{k:Key} {v:Value},vc k v=true->(∃i t,k=Sum.inl i/\v=Value.int i t)\/(∃x t,k=Sum.inr x/\v=Value.str x t)
 | .inl i,v,h=>by
   obtain ⟨t,e⟩:=Value.isInt_shape (k:=i) (v:=v) h
   exact .inl ⟨i,t,Z,e⟩
 | .inr x,v,h=>by
   obtain ⟨t,e⟩:=Value.isStrOf_shape (x:=x) (v:=v) h
   exact .inr ⟨x,t,Z,e⟩
theorem Nz (i:Int) (t:Tok):vc (.inl i) (.int i t)=true:=by simp [vc,Value.isInt]
theorem NB (x:Str) (t:Tok):vc (.inr x) (.str x t)=true:=by simp [vc,Value.isStrOf]
theorem UM (a b:Int):decide ((Sum.inl a:Key)=Sum.inl b)=(a==b):=by
 by_cases e:a=b
 . subst e;simp
 . have h:¬ (Sum.inl a:Key)=Sum.inl b:=fun q=>e (Sum.inl.inj q)
   rw [cu h]
   exact (B7.mpr e).symm
theorem UN (a b:Str):decide ((Sum.inr a:Key)=Sum.inr b)=decide (a=b):=by
 by_cases e:a=b
 . subst e;simp
 . have h:¬ (Sum.inr a:Key)=Sum.inr b:=fun q=>e (pD q)
   rw [cu h,cu e]
theorem UO (a:Int) (b:Str):decide ((Sum.inl a:Key)=Sum.inr b)=false:=cu (fun q=>nomatch q)
theorem UP (a:Str) (b:Int):decide ((Sum.inr a:Key)=Sum.inl b)=false:=cu (fun q=>nomatch q)
def cA (prog:Program) (w:World):PySem.KeyKind prog w Key where
 is:=vc
 hash:=aaY w
 inj:=fun v a b ha hb=>by
  rcases fF ha with ⟨i,t,rfl,rfl⟩|⟨x,t,rfl,rfl⟩
  . rcases fF hb with ⟨j,u,rfl,e⟩|⟨y,u,rfl,e⟩
    . injection e with e1 _;rw [e1]
    . exact nomatch e
  . rcases fF hb with ⟨j,u,rfl,e⟩|⟨y,u,rfl,e⟩
    . exact nomatch e
    . injection e with e1 _;rw [e1]
 byValue:=fun k v h=>by
  rcases fF h with ⟨i,t,rfl,rfl⟩|⟨x,t,rfl,rfl⟩ <;> rfl
 pyHash:=fun hv h=>by
  rcases fF hv with ⟨i,t,rfl,rfl⟩|⟨x,t,rfl,rfl⟩
  . exact wpAny_pyHash_int h
  . exact wpAny_pyHash_str h
 eqBool:=fun hu hv h=>by
  rcases fF hu with ⟨i,t,rfl,rfl⟩|⟨x,t,rfl,rfl⟩
  . rcases fF hv with ⟨j,u,rfl,rfl⟩|⟨y,u,rfl,rfl⟩
    . rw [UM] at h;exact wpAny_eqBool_int h
    . rw [UO] at h;exact SeqAt.EqAt.int_str i t y u _ _ _ _ h
  . rcases fF hv with ⟨j,u,rfl,rfl⟩|⟨y,u,rfl,rfl⟩
    . rw [UP] at h;exact SeqAt.EqAt.str_int x t j u _ _ _ _ h
    . rw [UN] at h;exact wpAny_eqBool_str h
 «strs»:=fun k x t v h=>by
  rcases fF h with ⟨i,u,rfl,e⟩|⟨y,u,rfl,e⟩
  . exact nomatch e
  . injection e with e1 _
    subst e1
    cases v <;> rfl
theorem L8 (prog:Program) (w:World) (k:Key) (v:Value):(cA prog w).is k v=vc k v:=rfl
theorem Jr (prog:Program) (w:World) (i:Int) (t:Tok):(cA prog w).is (.inl i) (.int i t)=true:=Nz i t
theorem Js (prog:Program) (w:World) (x:Str) (t:Tok):(cA prog w).is (.inr x) (.str x t)=true:=NB x t
inductive V where
 | bL|bl (b:Bool)|int (i:Int)|str (x:Str)|wc (b:Array UInt8)|RH (b:UInt64)|ref (a:Addr)|ty (n:String)
 deriving DecidableEq
def RelV:V->Value->Prop
 | .bL,u=>u=Value.none
 | .bl b,u=>u=Value.bool b
 | .int i,u=>∃t,u=Value.int i t
 | .str x,u=>∃t,u=Value.str x t
 | .wc b,u=>∃t,u=Value.bytes b t
 | .RH b,u=>∃t,u=Value.float b t
 | .ref a,u=>u=Value.ref a
 | .ty n,u=>u=Value.type n
abbrev Vals:List V->List Value->Prop:=Paired RelV
variable {xs:List V} {us:List Value}
theorem Vals.length (r:Vals xs us):xs.length=us.length:=Paired.length r
theorem Vals.get:∀{xs:List V} {us:List Value} {i:Nat} {x:V},Vals xs us->xs[i]?=some x->∃u,us[i]?=some u/\RelV x u
 | _,_,_,_, .nil,e=>by simp at e
 | _,_,0,_, .cons r _,e=>by simp at e;subst e;exact ⟨_,Z,r⟩
 | _,_,i+1,x, .cons _ t,e=>by
   obtain ⟨u,h1,h2⟩:=Vals.get (i:=i) (x:=x) t (by simpa using e)
   exact ⟨u,by simpa using h1,h2⟩
theorem Vals.set {x:V} {u:Value} (r:RelV x u):∀{xs:List V} {us:List Value} (i:Nat),Vals xs us->Vals (xs.set i x) (us.set i u)
 | _,_,_, .nil=> .nil
 | _,_,0, .cons _ t=> .cons r t
 | _,_,i+1, .cons q t=> .cons q (Vals.set r i t)
theorem Vals.append:∀{xs ys:List V} {us ws:List Value},Vals xs us->Vals ys ws->Vals (xs++ys) (us++ws)
 | _,_,_,_, .nil,s=>s
 | _,_,_,_, .cons r t,s=> .cons r (Vals.append t s)
def kU:Option V->Option Value->Prop
 | some v,some u=>RelV v u
 | none,none=>True
 | _,_=>False
def KV {κ:Type}:List (κ×V)->List (κ×Value)->Prop:=Paired fun (p:κ×V) (q:κ×Value)=>p.1=q.1/\RelV p.2 q.2
def kV:Key->V
 | .inl i=> .int i
 | .inr x=> .str x
inductive HO where
 | lst (xs:List V)
 | tup (xs:List V)
 | dK (kvs:List (Key×V))|dT (kvs:List (List Key×V))
 | set (S:Int->Bool) (n:Nat)
 | ins (C dx:Addr) (fs:List (Str×V))
 | own (x:Addr)
 | xd (fs:List (Str×V))
 | met (f x:Addr)
 | sZ (lo hi:Int)
 | fk (o:Obj) (u:HO)
 | Dj (ps:Array Value)
 | ext (φ:Heap->Prop)
abbrev Hp:=Addr->Option HO
def upd (H:Hp) (a:Addr) (o:HO):Hp:=fun b=>if b=a then some o else H b
variable {H:Hp} {a:Addr} {o:HO}
theorem ah:upd H a o a=some o:=by unfold upd;rw [aA rfl]
variable {b:Addr}
theorem av (h:b≠a):upd H a o b=H b:=by unfold upd;rw [az h]
theorem mG {u:HO}:upd (upd H a o) a u=upd H a u:=by
 funext b;unfold upd;split <;> rfl
theorem iz {u:HO} (h:H a=some o) (h':H b=some u) (d:o≠u):a≠b:=by
 intro e;subst e;rw [h] at h';exact d (eV h')
theorem aD (h:H a=some o) (h':H b=none):a≠b:=by
 intro e;subst e;rw [h] at h';cases h'
section
variable (P:Program) (w:World)
def dS (H:Hp) (h:Heap) (a:Addr):HO->Prop
 | .lst xs=>xs.length<=sizeLine/\∃(its:List Value) (n:Nat),Vals xs its/\h.get? a=some { cls:= .type "list",data:= .seq its.toArray n }
 | .tup xs=>xs.length<=sizeLine/\∃its:List Value,Vals xs its/\IsTup h a its.toArray
 | .dK kvs=>kvs.length<=sizeLine/\(a==sysModules)=false/\∃vs,KV kvs vs/\h.DictOf (cA P w) a vs
 | .dT kvs=>kvs.length<=sizeLine/\(a==sysModules)=false/\∃xs:List (List Key×Addr×Value),
     Paired (fun (p:List Key×V) (q:List Key×Addr×Value)=>p.1=q.1/\H q.2.1=some (.tup (p.1.map kV))/\RelV p.2 q.2.2) kvs xs/\
     ∃o es ep,h.get? a=some o/\o.ExactDict/\o.data = .dict es ep/\es.toList=xs.map (entryOfKey (tupleKind (cA P w)))/\(xs.map (·.1)).Nodup
 | .set S n=>h.SetOf (intKind P w) a S n
 | .ins C dx fs=>H dx=some (.own a)/\fs.length<=1000/\dx≠a/\h.get? a=some (PySem.W.instObj C dx)/\
     ∃mA,h.Ns1 dx mA/\(∀f,kU (fs.lookup f) (mA f))/\PySem.Within mA (fs.map (·.1))
 | .own _=>∃o,h.get? a=some o
 | .xd fs=>∃mA,h.Ns1 a mA/\∀f,kU (fs.lookup f) (mA f)
 | .sZ lo hi=>∃t u v,h.get? a=some { cls:= .type "range",data:= .fields #[.int lo t, .int hi u, .int 1 v] }
 | .fk o u=>h.get? a=some o/\dS H h a u
 | .Dj ps=>h.get? a=some { cls:= .none,data:= .fields ps }
 | .met f x=>h.get? a=some (PySem.W.methodObj (.ref f) (.ref x))
 | .ext φ=>φ h/\(∃o,h.get? a=some o)/\∀h1 h2:Heap,φ h1->(∀o,h1.get? a=some o->h2.get? a=some o)->φ h2
def f_ (H:Hp) (h:Heap):Prop:=∀a o,H a=some o->dS P w H h a o
end
section
variable {P:Program} {w:World} {H H':Hp} {h h':Heap} {a:Addr} {o:HO}
theorem dS.lt (x:dS P w H h a o):a<h.objs.size:=by
 cases o with
 | lst xs=>obtain ⟨_,_,_,_,e⟩:=x;exact bF e
 | tup xs=>obtain ⟨_,_,_,p⟩:=x;exact p.lt
 | dK kvs=>obtain ⟨_,_,_,_,o,_,_,e,_⟩:=x;exact bF e
 | dT kvs=>obtain ⟨_,_,_,_,o,_,_,e,_⟩:=x;exact bF e
 | set S n=>obtain ⟨o,_,_,_,e,_⟩:=x;exact bF e
 | ins C dx fs=>obtain ⟨_,_,_,e,_⟩:=x;exact bF e
 | own y=>obtain ⟨_,e⟩:=x;exact bF e
 | xd fs=>obtain ⟨_,⟨_,_,_,e,_⟩,_⟩:=x;exact bF e
 | sZ lo hi=>obtain ⟨_,_,_,e⟩:=x;exact bF e
 | fk ob u=>obtain ⟨e,_⟩:=x;exact bF e
 | Dj ps=>exact bF (show h.get? a=some _ from x)
 | met f y=>exact bF (show h.get? a=some _ from x)
 | ext φ=>obtain ⟨_,⟨_,e⟩,_⟩:=x;exact bF e
theorem Paired.PU {α β:Type} {F G:α->β->Prop}:∀{l₁:List α} {l₂:List β},Paired F l₁ l₂->(∀a b,F a b->G a b)->Paired G l₁ l₂
 | _,_, .nil,_=> .nil
 | _,_, .cons r t,f=> .cons (f _ _ r) (Paired.PU t f)
theorem dS.stay (x:dS P w H h a o) (k:∀b u,(b=a\/H b=some (.own a))->h.get? b=some u->h'.get? b=some u)
  (ho:∀b,H b=some (.own a)->H' b=some (.own a)) (ht:∀b xs,H b=some (.tup xs)->H' b=some (.tup xs)):dS P w H' h' a o:=by
 induction o with
 | lst xs=>obtain ⟨z,its,n,r,e⟩:=x;exact ⟨z,its,n,r,k _ _ (.inl rfl) e⟩
 | tup xs=>obtain ⟨z,its,r,ob,e,c⟩:=x;exact ⟨z,its,r,ob,k _ _ (.inl rfl) e,c⟩
 | dK kvs=>obtain ⟨z,y,vs,r,ob,es,ep,e,c⟩:=x;exact ⟨z,y,vs,r,ob,es,ep,k _ _ (.inl rfl) e,c⟩
 | dT kvs=>
   obtain ⟨z,y,xs,r,ob,es,ep,e,c⟩:=x
   exact ⟨z,y,xs,Paired.PU r fun p q z=>⟨z.1,ht _ _ z.2.1,z.2.2⟩,ob,es,ep,k _ _ (.inl rfl) e,c⟩
 | set S n=>obtain ⟨ob,es,ep,t,e,c⟩:=x;exact ⟨ob,es,ep,t,k _ _ (.inl rfl) e,c⟩
 | ins C dx fs=>
   obtain ⟨d,z,ne,e,mA,⟨od,es,ep,e2,c⟩,r⟩:=x
   exact ⟨ho _ d,z,ne,k _ _ (.inl rfl) e,mA,⟨od,es,ep,k _ _ (.inr d) e2,c⟩,r⟩
 | own y=>obtain ⟨ob,e⟩:=x;exact ⟨ob,k _ _ (.inl rfl) e⟩
 | xd fs=>obtain ⟨mA,⟨od,es,ep,e,c⟩,r⟩:=x;exact ⟨mA,⟨od,es,ep,k _ _ (.inl rfl) e,c⟩,r⟩
 | sZ lo hi=>obtain ⟨t,u,v,e⟩:=x;exact ⟨t,u,v,k _ _ (.inl rfl) e⟩
 | fk ob u ih=>obtain ⟨e,q⟩:=x;exact ⟨k _ _ (.inl rfl) e,ih q⟩
 | Dj ps=>
   have e:h.get? a=some { cls:= .none,data:= .fields ps }:=x
   show h'.get? a=some { cls:= .none,data:= .fields ps }
   exact k a _ (.inl rfl) e
 | met f y=>
   have e:h.get? a=some (PySem.W.methodObj (.ref f) (.ref y)):=x
   show h'.get? a=some (PySem.W.methodObj (.ref f) (.ref y))
   exact k a _ (.inl rfl) e
 | ext φ=>obtain ⟨p,⟨o,e⟩,st⟩:=x;exact ⟨st _ _ p fun o q=>k _ _ (.inl rfl) q,⟨o,k _ _ (.inl rfl) e⟩,st⟩
theorem f_.lt (x:f_ P w H h) (e:H a=some o):a<h.objs.size:=(x a o e).lt
theorem f_.fresh (x:f_ P w H h) (e:h.objs.size<=a):H a=none:=by
 cases q:H a with
 | none=>rfl
 | some u=>exact absurd (jK (x.lt q) e) (iW _)
theorem f_.kept (x:f_ P w H h) (k:∀b u,h.get? b=some u->h'.get? b=some u):f_ P w H h':=fun a o e=>
 (x a o e).stay (fun b u _ q=>k b u q) (fun _ q=>q) fun _ _ q=>q
theorem f_.laid (x:f_ P w H h) (k:∀b u,h.get? b=some u->h'.get? b=some u) (hp:h.objs.size<=a) (new:dS P w (upd H a o) h' a o):f_ P w (upd H a o) h':=fun b u e=>by
 have hn:=x.fresh hp
 by_cases hb:b=a
 . subst hb;rw [ah] at e;cases e;exact new
 . rw [av hb] at e
   exact (x b u e).stay (fun c v _ q=>k c v q) (fun c q=>by rw [av (aD q hn)];exact q) fun c xs q=>by rw [av (aD q hn)];exact q
end
def Rd (H:Hp) (a:Addr) (u:HO):Prop:=H a=some u\/∃o,H a=some (.fk o u)
variable {P:Program} {h:Heap}
theorem Rd.ok {w:World} {u:HO} (r:Rd H a u) (x:f_ P w H h):dS P w H h a u:=by
 rcases r with r|⟨o,r⟩
 . exact x a u r
 . obtain ⟨_,q⟩:=x a _ r
   exact q
def NC:Option HO->Prop
 | some (.lst _)=>True
 | some (.dK _)=>True
 | some (.dT _)=>True
 | some (.set _ _)=>True
 | some (.ins _ _ _)=>True
 | some (.ext _)=>True
 | _=>False
section
variable {P:Program} {w:World} {H:Hp} {h h':Heap} {x e:Addr} {o':HO}
theorem f_.write (ok:f_ P w H h) (mu:NC (H x)) (he:e=x\/H e=some (.own x)) (k:∀b u,b≠e->h.get? b=some u->h'.get? b=some u) (KD:∃u,h'.get? e=some u)
  (new:dS P w (upd H x o') h' x o'):f_ P w (upd H x o') h':=fun b u q=>by
 have UQ:∀c y,H c=some (.own y)->c≠x:=fun c y r z=>by subst z;rw [r] at mu;exact mu
 have aaZ:∀c xs,H c=some (.tup xs)->c≠x:=fun c xs r z=>by subst z;rw [r] at mu;exact mu
 by_cases hb:b=x
 . subst hb;rw [ah] at q;cases q;exact new
 . rw [av hb] at q
   by_cases FI:b=e
   . have q':H b=some (.own x):=by
      rcases he with z|z
      . exact absurd (FI.trans z) hb
      . rw [FI];exact z
     rw [q] at q';cases q'
     obtain ⟨v,hv⟩:=KD
     exact ⟨v,by rw [FI];exact hv⟩
   . refine (ok b u q).stay (fun c v hc r=>k c v ?_ r) (fun c r=>by rw [av (UQ c b r)];exact r) fun c xs r=>by rw [av (aaZ c xs r)];exact r
     rcases hc with rfl|hc
     . exact FI
     . rintro rfl
       rcases he with z|z
       . exact UQ c b hc z
       . rw [hc] at z;cases z;exact hb rfl
end
structure Un (fs ex:List Addr) (H H':Hp) (h h':Heap):Prop where
 keep:∀b o,h.get? b=some o->H b=none->b∉fs->b∉ex->h'.get? b=some o
 slot:∀b o,h.get? b=some o->H b=none->b∈fs->b∉ex->∃sl,h'.get? b=some { o with slots:=sl }
 free:∀b o,h.get? b=some o->H b=none->b∉ex->H' b=none
 there:∀b o,h.get? b=some o->b∉ex->∃o',h'.get? b=some o'
 tups:∀b xs,H b=some (.tup xs)->H' b=some (.tup xs)
 oE:∀b o u,H b=some (.fk o u)->H' b=some (.fk o u)
 rB:∀b ps,H b=some (.Dj ps)->∃more,H' b=some (.Dj (ps++more))
section
variable {fs fs' ex ex':List Addr} {H H1 H2:Hp} {h h1 h2 h':Heap} {a x e:Addr} {o:HO}
theorem Un.any (u:Un fs ex H H1 h h1) (q:h.get? b=some ob) (n:H b=none) (hx:b∉ex):∃sl,h1.get? b=some { ob with slots:=sl }:=by
 by_cases hb:b∈fs
 . exact u.slot b ob q n hb hx
 . exact ⟨ob.slots,u.keep b ob q n hb hx⟩
theorem Un.kept (k:∀b u,h.get? b=some u->h'.get? b=some u):Un fs ex H H h h':=
 ⟨fun b ob q _ _ _=>k b ob q,fun b ob q _ _ _=>⟨ob.slots,k b ob q⟩,fun _ _ _ n _=>n,fun b ob q _=>⟨ob,k b ob q⟩,fun _ _ q=>q,fun _ _ _ q=>q,fun _ ps q=>⟨#[],by rw [q];simp⟩⟩
theorem Un.refl:Un fs ex H H h h:=Un.kept fun _ _ q=>q
theorem Un.laid (k:∀b u,h.get? b=some u->h'.get? b=some u) (hp:h.objs.size<=a) (hn:H a=none):Un fs ex H (upd H a o) h h' where
 keep:=fun b u q _ _ _=>k b u q
 slot:=fun b u q _ _ _=>⟨u.slots,k b u q⟩
 free:=fun b u q n _=>by rw [av (ef (jK (bF q) hp))];exact n
 there:=fun b u q _=>⟨u,k b u q⟩
 tups:=fun b xs q=>by rw [av (aD q hn)];exact q
 oE:=fun b u xs q=>by rw [av (aD q hn)];exact q
 rB:=fun b ps q=>⟨#[],by rw [av (aD q hn),q];simp⟩
theorem Un.write (mu:NC (H x)) (he:e=x\/H e=some (.own x)) (k:∀b u,b≠e->h.get? b=some u->h'.get? b=some u) (KD:∃u,h'.get? e=some u):Un fs ex H (upd H x o) h h':=by
 have hx:∀b,H b=none->b≠x:=fun b n z=>by subst z;rw [n] at mu;exact mu
 have hb:∀b,H b=none->b≠e:=fun b n z=>by
  subst z
  rcases he with r|r
  . exact hx b n r
  . rw [n] at r;cases r
 have hm:∀b u,H b=some u->¬ NC (some u)->b≠x:=fun b u q nm z=>by subst z;rw [q] at mu;exact nm mu
 refine ⟨fun b u q n _ _=>k b u (hb b n) q,fun b u q n _ _=>⟨u.slots,k b u (hb b n) q⟩,fun b u q n _=>by rw [av (hx b n)];exact n,fun b u q _=>?_,
  fun b xs q=>by rw [av (hm b _ q fun z=>z)];exact q,fun b u xs q=>by rw [av (hm b _ q fun z=>z)];exact q,fun b ps q=>⟨#[],by rw [av (hm b _ q fun z=>z),q];simp⟩⟩
 by_cases FI:b=e
 . subst FI;exact KD
 . exact ⟨u,k b u FI q⟩
end
def RI (h:Heap) (H:Hp):List Addr:=(List.range h.objs.size).filter fun a=>(H a).isSome
def vd (h:Heap) (H:Hp):Heap:=PySem.W.hideAll h (RI h H)
theorem ND (h:Heap) (H:Hp):(vd h H).objs.size=h.objs.size:=PySem.W.hideAll_size _ _
theorem PV {o:Obj} (e:h.get? b=some o) (n:H b=none):(vd h H).get? b=some o:=
 PySem.W.hideAll_get _ e fun hm=>by
  have q:(H b).isSome=true:=(uZ.mp hm).2
  rw [n] at q;simp at q
theorem SV {o:Obj} (e:(vd h H).get? b=some o):h.get? b=some o/\H b=none:=by
 have e':h.get? b=some o:=PySem.W.of_hideAll (RI h H) e
 refine ⟨e',?_⟩
 cases q:H b with
 | none=>rfl
 | some x=>
   have hm:b∈RI h H:=uZ.mpr ⟨u6.mpr (bF e'),by simp [q]⟩
   have z:(vd h H).get? b=none:=PySem.W.hideAll_none (RI h H) hm
   rw [z] at e;cases e
structure Mod (K:Fg) (mg:SO) (base:Heap):Prop where
 NF:K.In base
 glob:base.Ns mainGlobals mg
 blt:∃mb,base.Ns builtinsNs mb/\∀x:Str,x ≠ "__name__"->mb x=bootBuiltins x
 nolimit:base.NoLimit
structure Cx where
 prog:Program
 w:World
 K:Fg
 mg:Str->Option Value
 base:Heap
 A:Around
 N:List Str
 s₀:Shared
 H₀:Hp
 env:Env
 outer:List Env
 stack:List Env
 ex:List Addr
 fn:Str->Bool
 calm:Bool
 pn:List (Addr×Obj)
 xe:Value->Shared->Prop
def frs (l:List Env):List Addr:=l.filterMap (·.frame)
abbrev Cx.fs (X:Cx):List Addr:=frs X.outer
def RJ (sc:Scope) (x:Str):Prop:=sc.names.lookup x=some .local\/sc.names.lookup x=some .cell\/sc.names.lookup x=some .free
def Loc (sc:Scope) (x:Str):Prop:=sc.names.lookup x=some .local\/sc.names.lookup x=some .cell
def Look (env:Env) (h:Heap) (m:SO) (x:Str) (u:Value):Prop:=
 (env.kindOf x=some .local/\m x=some u)\/((env.kindOf x=some .cell\/env.kindOf x=some .free)/\∃c,env.cells.lookup x=some c/\h.IsCell c (some u))
structure Cx.Ok (X:Cx):Prop where
 mod:Mod X.K X.mg X.base
 kind:X.env.scope.kind = .function
 glob:X.env.globals=mainGlobals
 blt:X.env.builtins=builtinsNs
 above:X.s₀.heap.objs.size<=X.env.locals
 inj:∀x y c,X.env.cells.lookup x=some c->X.env.cells.lookup y=some c->x=y
 has:∀x,(X.env.kindOf x=some .cell\/X.env.kindOf x=some .free)->∃c,X.env.cells.lookup x=some c
 fC:∀x c,X.fn x=true->X.env.cells.lookup x=some c->X.s₀.heap.objs.size<=c
 hd:X.calm=true->X.A.handled=none
 frames:X.A.frames=some X.stack
 stk:X.stack=X.outer\/(X.stack=X.env::X.outer/\X.env.frame=some X.env.locals)
 KG:∀b∈X.ex,b≠X.env.locals/\∀x c,X.env.cells.lookup x=some c->c≠b
 bs:∀b o,X.base.get? b=some o->X.s₀.heap.get? b=some o/\X.H₀ b=none
 Dk:X.base.objs.size<=X.s₀.heap.objs.size
 FJ:∀b o,X.base.get? b=some o->b∉X.ex
 Cf:∀b∈X.ex,b∉X.fs
 mY:X.s₀.heap.FunFrames X.base X.outer
 FL:∀b∈X.fs,X.H₀ b=none
structure Inv (X:Cx) (pins:AO) (σ:List (Option V)) (H:Hp) (s:Shared):Prop where
 ok:X.Ok
 os:s.os=X.s₀.os
 bare:AllBare s.gens
 base:Un X.fs X.ex X.H₀ H X.s₀.heap s.heap
 loc:∃m,s.heap.Ns X.env.locals m/\∀(i:Nat) (x:Str) (v:V),X.N[i]?=some x->σ[i]?=some (some v)->RJ X.env.scope x->∃u,RelV v u/\Look X.env s.heap m x u
 cell:∀x c,X.env.cells.lookup x=some c->∃v,s.heap.IsCell c v
 free:H X.env.locals=none
 lI:∀x c,X.env.cells.lookup x=some c->H c=none
 pin:∀p∈X.pn++pins,s.heap.get? p.1=some p.2/\H p.1=none/\p.1≠X.env.locals/\p.1∉X.fs/\∀v,p.2.data ≠ .cell v
 hok:f_ X.prog X.w H s.heap
 len:σ.length=X.N.length
variable {g':Array GenState} {t' i j:Nat} {ch:List Addr} {it:Addr} {N:List Str} {x:Str} {M:Model} {E:VS} {u:Value} {Q:Unit->Shared->Prop}
section
variable {X:Cx} {pins:AO} {σ:List (Option V)} {H H':Hp} {s:Shared} {h':Heap}
theorem Cx.Ok.aa0 (ok:X.Ok) {o:Obj} (e:X.base.get? b=some o):b∉X.fs:=fun hb=>by
 have:=(ok.mY.mem hb).1
 rw [e] at this;cases this
theorem Inv.bs (I:Inv X pins σ H s):∀b o,X.base.get? b=some o->s.heap.get? b=some o/\H b=none:=fun b o e=>
 ⟨I.base.keep b o (I.ok.bs b o e).1 (I.ok.bs b o e).2 (I.ok.aa0 e) (I.ok.FJ b o e),I.base.free b o (I.ok.bs b o e).1 (I.ok.bs b o e).2 (I.ok.FJ b o e)⟩
theorem Inv.bk (I:Inv X pins σ H s):∀b o,X.base.get? b=some o->s.heap.get? b=some o:=fun b o e=>(I.bs b o e).1
theorem Inv.mod (I:Inv X pins σ H s):Mod X.K X.mg X.base:=I.ok.mod
theorem Inv.qM (I:Inv X pins σ H s):X.K.In s.heap:=I.ok.mod.NF.keeps I.bk
theorem Inv.lt (I:Inv X pins σ H s):X.env.locals<s.heap.objs.size:=let ⟨_,hn,_⟩:=I.loc;hn.lt
theorem Inv.sz (I:Inv X pins σ H s):X.s₀.heap.objs.size<=s.heap.objs.size:=fH I.ok.above (Ab I.lt)
theorem Inv.aa1 (I:Inv X pins σ H s) (h:s.heap.objs.size<=a):a∉X.fs:=fun hb=>by
 obtain ⟨_,o,ho,_⟩:=I.ok.mY.mem hb
 exact absurd (jK (bF ho) (fH I.sz h)) (iW _)
theorem Inv.FN (I:Inv X pins σ H s):∀x c,X.env.cells.lookup x=some c->c≠X.env.locals:=fun x c e z=>by
 obtain ⟨v,o,ho,hd⟩:=I.cell x c e
 obtain ⟨m,⟨o',es,ep,ho',hd',_⟩,_⟩:=I.loc
 rw [z,ho'] at ho;cases ho;rw [hd'] at hd;cases hd
theorem Inv.mY (I:Inv X pins σ H s):s.heap.FunFrames X.base X.outer:=by
 have all:∀(l:List Env),(∀b∈frs l,b∈X.fs)->X.s₀.heap.FunFrames X.base l->s.heap.FunFrames X.base l:=by
  intro l
  induction l with
  | nil=>intro _ _;trivial
  | cons env r ih=>
    intro hs hl
    obtain ⟨hk,⟨L,o,hf,hn,ho,hd⟩,hr⟩:=hl
    have hL:L∈X.fs:=hs L (by unfold frs;rw [yU,hf];exact dg)
    obtain ⟨sl,e⟩:=I.base.slot L o ho (I.ok.FL L hL) hL fun z=>I.ok.Cf L z hL
    exact ⟨hk,⟨L,_,hf,hn,e,hd⟩,ih (fun b hb=>hs b (by unfold frs;rw [yU,hf];exact cK _ hb)) hr⟩
 exact all X.outer (fun _ hb=>hb) I.ok.mY
theorem Inv.stack (I:Inv X pins σ H s):s.heap.FunFrames X.base X.stack:=by
 rcases I.ok.stk with e|⟨e,hf⟩
 . rw [e];exact I.mY
 . rw [e]
   obtain ⟨m,hn,_⟩:=I.loc
   refine .cons (by rw [I.ok.kind];decide) hf hn ?_ I.mY
   exact Heap.get?_none_of_le (fH I.ok.Dk I.ok.above)
theorem Inv.FO (I:Inv X pins σ H s):∀b∈frs X.stack,b∈X.env.locals::X.fs:=fun b hb=>by
 rcases I.ok.stk with e|⟨e,hf⟩
 . rw [e] at hb;exact cK _ hb
 . rw [e] at hb
   unfold frs at hb
   rw [yU,hf] at hb
   exact hb
theorem Inv.yg (I:Inv X pins σ H s):∀b∈frs X.stack,H b=none:=fun b hb=>by
 rcases c8.mp (I.FO b hb) with e|hb
 . rw [e];exact I.free
 . obtain ⟨_,o,ho,_⟩:=I.ok.mY.mem hb
   exact I.base.free b o ho (I.ok.FL b hb) fun z=>I.ok.Cf b z hb
theorem Inv.step {d':Drawn} (I:Inv X pins σ H s)
  (hch:∀b∈ch,(b∈X.ex\/X.s₀.heap.objs.size<=b)/\b≠X.env.locals/\(∀x c,X.env.cells.lookup x=some c->c≠b)/\∀p∈X.pn++pins,p.1≠b)
  (keep:∀b o,b≠X.env.locals->b∉X.fs->b∉ch->s.heap.get? b=some o->H b=none->h'.get? b=some o)
  (slot:∀b o,b≠X.env.locals->b∈X.fs->b∉ch->s.heap.get? b=some o->H b=none->∃sl,h'.get? b=some { o with slots:=sl }) (free:∀b o,b∉ch->s.heap.get? b=some o->H b=none->H' b=none)
  (there:∀b o,b∉ch->s.heap.get? b=some o->∃o',h'.get? b=some o')
  (tups:∀b xs,H b=some (.tup xs)->H' b=some (.tup xs)) (oE:∀b o u,H b=some (.fk o u)->H' b=some (.fk o u)) (rB:∀b ps,H b=some (.Dj ps)->∃more,H' b=some (.Dj (ps++more)))
  (ns:∀m,s.heap.Ns X.env.locals m->h'.Ns X.env.locals m) (hok:f_ X.prog X.w H' h') (hg:AllBare g'):
  Inv X pins σ H' { s with heap:=h',gens:=g',drawn:=d',toks:=t' }:=by
 have Zd:∀b o,X.s₀.heap.get? b=some o->b≠X.env.locals:=fun b o e=>ef (jK (bF e) I.ok.above)
 have RK:∀b o,X.s₀.heap.get? b=some o->b∉X.ex->b∉ch:=fun b o e hx hb=>by
  rcases (hch b hb).1 with z|z
  . exact hx z
  . exact absurd (jK (bF e) z) (iW _)
 have cellK:∀x c,X.env.cells.lookup x=some c->∀v,s.heap.IsCell c v->h'.IsCell c v:=fun x c e v ⟨o,ho,hd⟩=>by
  have uz:c∉ch:=fun z=>(hch c z).2.2.1 x c e rfl
  by_cases hc:c∈X.fs
  . obtain ⟨sl,q⟩:=slot c o (I.FN x c e) hc uz ho (I.lI x c e)
    exact ⟨_,q,hd⟩
  . exact ⟨o,keep c o (I.FN x c e) hc uz ho (I.lI x c e),hd⟩
 refine ⟨I.ok,I.os,hg,⟨fun b o e n hb hx=>?_,fun b o e n hb hx=>?_,fun b o e n hx=>?_,fun b o e hx=>?_,fun b xs e=>tups b xs (I.base.tups b xs e),fun b o xs e=>oE b o xs (I.base.oE b o xs e),fun b ps e=>?_⟩,?_,fun x c e=>?_,?_,fun x c e=>?_,fun p hp=>?_,hok,I.len⟩
 . exact keep b o (Zd b o e) hb (RK b o e hx) (I.base.keep b o e n hb hx) (I.base.free b o e n hx)
 . obtain ⟨sl,e1⟩:=I.base.slot b o e n hb hx
   obtain ⟨UR,e2⟩:=slot b _ (Zd b o e) hb (RK b o e hx) e1 (I.base.free b o e n hx)
   exact ⟨UR,e2⟩
 . obtain ⟨o',e1⟩:=I.base.there b o e hx
   exact free b o' (RK b o e hx) e1 (I.base.free b o e n hx)
 . obtain ⟨o',e1⟩:=I.base.there b o e hx
   exact there b o' (RK b o e hx) e1
 . obtain ⟨m1,e1⟩:=I.base.rB b ps e
   obtain ⟨m2,e2⟩:=rB b _ e1
   exact ⟨m1++m2,by rw [e2,Array.append_assoc]⟩
 . obtain ⟨m,hn,hl⟩:=I.loc
   refine ⟨m,ns m hn,fun i x v e1 e2 e3=>?_⟩
   obtain ⟨u,r,l⟩:=hl i x v e1 e2 e3
   refine ⟨u,r,?_⟩
   rcases l with l|⟨k,c,e,z⟩
   . exact .inl l
   . exact .inr ⟨k,c,e,cellK x c e _ z⟩
 . obtain ⟨v,z⟩:=I.cell x c e
   exact ⟨v,cellK x c e v z⟩
 . obtain ⟨m,⟨o,_,_,ho,_⟩,_⟩:=I.loc
   exact free _ o (fun z=>(hch _ z).2.1 rfl) ho I.free
 . obtain ⟨v,o,ho,hd⟩:=I.cell x c e
   exact free c o (fun z=>(hch c z).2.2.1 x c e rfl) ho (I.lI x c e)
 . obtain ⟨e,n,ne,nf,d⟩:=I.pin p hp
   have uz:p.1∉ch:=fun z=>(hch p.1 z).2.2.2 p hp rfl
   exact ⟨keep p.1 p.2 ne nf uz e n,free p.1 p.2 uz e n,ne,nf,d⟩
theorem Inv.un (I:Inv X pins σ H s) (u:Un X.fs [] H H' s.heap h') (hok:f_ X.prog X.w H' h'):Inv X pins σ H' { s with heap:=h',toks:=t' }:=by
 obtain ⟨m,⟨o,es,ep,ho,r⟩,_⟩:=id I.loc
 obtain ⟨sl,hL⟩:=u.any ho I.free (by simp)
 exact I.step (g':=s.gens) (d':=s.drawn) (ch:=[]) (fun _ z=>nomatch z) (fun b o _ hb _ e n=>u.keep b o e n hb (by simp)) (fun b o _ hb _ e n=>u.slot b o e n hb (by simp)) (fun b o _ e n=>u.free b o e n (by simp)) (fun b o _ e=>u.there b o e (by simp)) u.tups u.oE u.rB (fun m' hm=>by
  obtain ⟨o',es',uA,ho',r'⟩:=hm
  rw [ho] at ho';cases ho'
  exact ⟨_,es',uA,hL,r'⟩) hok I.bare
theorem Inv.call {d':Drawn} (I:Inv X pins σ H s) (u:Un (frs X.stack) ch H H' s.heap h') (hok:f_ X.prog X.w H' h') (hg:AllBare g')
  (hch:∀b∈ch,(b∈X.ex\/X.s₀.heap.objs.size<=b)/\b≠X.env.locals/\(∀x c,X.env.cells.lookup x=some c->c≠b)/\∀p∈X.pn++pins,p.1≠b):
  Inv X pins σ H' { s with heap:=h',gens:=g',drawn:=d',toks:=t' }:=by
 obtain ⟨m,⟨o,es,ep,ho,r⟩,_⟩:=id I.loc
 obtain ⟨sl,hL⟩:=u.any ho I.free fun z=>(hch _ z).2.1 rfl
 exact I.step (ch:=ch) hch (fun b o hL hb hc e n=>u.keep b o e n (fun z=>(c8.mp (I.FO b z)).elim hL hb) hc) (fun b o _ _ hc e n=>u.any e n hc) (fun b o hc e n=>u.free b o e n hc) (fun b o hc e=>u.there b o e hc) u.tups u.oE u.rB (fun m' hm=>by
  obtain ⟨o',es',uA,ho',r'⟩:=hm
  rw [ho] at ho';cases ho'
  exact ⟨_,es',uA,hL,r'⟩) hok hg
theorem Inv.turned (I:Inv X pins σ H s) (k:∀b o,b≠it->s.heap.get? b=some o->h'.get? b=some o) (hn:H it=none) (hL:it≠X.env.locals)
  (h1:it∈X.ex\/X.s₀.heap.objs.size<=it) (h2:∀x c,X.env.cells.lookup x=some c->c≠it) (h3:∀p∈X.pn++pins,p.1≠it):Inv X pins σ H { s with heap:=h',toks:=t' }:=by
 have Ze:∀b u,H b=some u->b≠it:=fun b u e z=>by rw [z,hn] at e;cases e
 refine I.step (g':=s.gens) (d':=s.drawn) (ch:=[it]) (fun b hb=>?_) (fun b o _ _ hc e _=>k b o (fun z=>hc (by simp [z])) e) (fun b o _ _ hc e _=>⟨o.slots,k b o (fun z=>hc (by simp [z])) e⟩) (fun _ _ _ _ n=>n)
  (fun b o hc e=>⟨o,k b o (fun z=>hc (by simp [z])) e⟩) (fun _ _ e=>e) (fun _ _ _ e=>e) (fun b ps e=>⟨#[],by rw [e];simp⟩) (fun m hm=>?_) (fun b u e=>?_) I.bare
 . have e:b=it:=by simpa using hb
   subst e
   exact ⟨h1,hL,h2,h3⟩
 . obtain ⟨o,es,ep,ho,r⟩:=hm
   exact ⟨o,es,ep,k _ o (cD hL) ho,r⟩
 . refine (I.hok b u e).stay (fun c v hc q=>k c v ?_ q) (fun _ q=>q) fun _ _ q=>q
   rcases hc with z|z
   . rw [z];exact Ze b u e
   . exact Ze c _ z
theorem Inv.tok (I:Inv X pins σ H s) (t:Nat):Inv X pins σ H { s with toks:=t }:=I.un (h':=s.heap) (t':=t) Un.refl I.hok
theorem Inv.kept (I:Inv X pins σ H s) (k:∀b u,s.heap.get? b=some u->h'.get? b=some u):Inv X pins σ H { s with heap:=h',toks:=t' }:=I.un (Un.kept k) (I.hok.kept k)
theorem Inv.laid (I:Inv X pins σ H s) (k:∀b u,s.heap.get? b=some u->h'.get? b=some u) (hp:s.heap.objs.size<=a) (new:dS X.prog X.w (upd H a o) h' a o):
  Inv X pins σ (upd H a o) { s with heap:=h',toks:=t' }:=I.un (Un.laid k hp (I.hok.fresh hp)) (I.hok.laid k hp new)
theorem Inv.write {x e:Addr} (I:Inv X pins σ H s) (mu:NC (H x)) (he:e=x\/H e=some (.own x)) (k:∀b u,b≠e->s.heap.get? b=some u->h'.get? b=some u) (KD:∃u,h'.get? e=some u)
  (new:dS X.prog X.w (upd H x o) h' x o):Inv X pins σ (upd H x o) { s with heap:=h',toks:=t' }:=I.un (Un.write mu he k KD) (I.hok.write mu he k KD new)
theorem Inv.KH {RL:AO} (I:Inv X pins σ H s) (h:∀p∈RL,s.heap.get? p.1=some p.2/\H p.1=none/\p.1≠X.env.locals/\p.1∉X.fs/\∀v,p.2.data ≠ .cell v):Inv X RL σ H s:=
 ⟨I.ok,I.os,I.bare,I.base,I.loc,I.cell,I.free,I.lI,fun p hp=>(fZ.mp hp).elim (fun z=>I.pin p (B4 _ z)) (h p),I.hok,I.len⟩
theorem yW (hN:N.Nodup) (a:N[i]?=some x) (b:N[j]?=some x):i=j:=by
 obtain ⟨h1,e1⟩:=c_.mp a
 obtain ⟨h2,e2⟩:=c_.mp b
 exact (List.getElem_inj hN).mp (e1.trans e2.symm)
theorem Dl {A:Around} {v:V} (I:Inv X pins σ H s) (hN:X.N.Nodup) (hi:X.N[i]?=some x) (hx:Loc X.env.scope x) (r:RelV v u)
  (h:∀s',Inv X pins (σ.set i (some v)) H s'->(∃a,Heap.SameBut a s.heap s'.heap/\(a=X.env.locals\/X.env.cells.lookup x=some a))->Q () s') (hf:X.fn x=true\/X.env.scope.names.lookup x=some .local:=by first|exact .inl rfl|exact .inr rfl|assumption):wpAny M A (storeName X.env x u) Q E s:=by
 obtain ⟨m,hn,hl⟩:=id I.loc
 have hcls:(X.env.scope.kind == .class || (X.env.scope.kind == .module && X.env.locals != X.env.globals))=false:=by rw [I.ok.kind];rfl
 have Zf:i<σ.length:=by rw [I.len];exact (c_.mp hi).1
 have FN:=I.FN
 have tracked:∀{a:Addr} {h':Heap},(∃o,s.heap.get? a=some o/\H a=none)->Heap.SameBut a s.heap h'->f_ X.prog X.w H h':=fun {a h'} ha hs b ob e=>by
  obtain ⟨_,_,hfree⟩:=ha
  refine (I.hok b ob e).stay (fun c w' hc q=>(hs.2 c ?_).trans q) (fun _ q=>q) fun _ _ q=>q
  rintro rfl
  rcases hc with rfl|hc
  . rw [hfree] at e;cases e
  . rw [hfree] at hc;cases hc
 rcases hx with hk|hk
 . refine wpAny_storeName_local hk hn (fun h' hn' hs=>?_) hcls
   obtain ⟨oL,_,_,hoL,_⟩:=id hn
   refine h _ ⟨I.ok,I.os,I.bare,⟨fun b o e n hb hx=>?_,fun b o e n hb hx=>?_,I.base.free,fun b o e hx=>?_,I.base.tups,I.base.oE,I.base.rB⟩,⟨_,hn',fun j y v' e1 e2 e3=>?_⟩,fun y c e=>?_,I.free,I.lI,fun p hp=>?_,tracked ⟨oL,hoL,I.free⟩ hs,by simpa using I.len⟩ ⟨_,hs, .inl rfl⟩
   . exact (hs.2 b (ef (jK (bF e) I.ok.above))).trans (I.base.keep b o e n hb hx)
   . obtain ⟨sl,e1⟩:=I.base.slot b o e n hb hx
     exact ⟨sl,(hs.2 b (ef (jK (bF e) I.ok.above))).trans e1⟩
   . obtain ⟨o',e1⟩:=I.base.there b o e hx
     exact ⟨o',(hs.2 b (ef (jK (bF e) I.ok.above))).trans e1⟩
   . by_cases hj:j=i
     . subst hj
       rw [hi] at e1;cases e1
       rw [ou Zf] at e2
       cases e2
       exact ⟨u,r, .inl ⟨hk,by simp⟩⟩
     . rw [wK (cD hj)] at e2
       obtain ⟨u',r',q⟩:=hl j y v' e1 e2 e3
       refine ⟨u',r',?_⟩
       rcases q with ⟨k,e⟩|⟨k,c,e,z⟩
       . refine .inl ⟨k,?_⟩
         have:y≠x:=fun e=>hj (yW hN e1 (e▸hi))
         simp [this,e]
       . exact .inr ⟨k,c,e,z.sameBut hs (FN y c e)⟩
   . obtain ⟨w',z⟩:=I.cell y c e
     exact ⟨w',z.sameBut hs (FN y c e)⟩
   . obtain ⟨e,n,ne,nf,d⟩:=I.pin p hp
     exact ⟨(hs.2 p.1 ne).trans e,n,ne,nf,d⟩
 . have hfn:X.fn x=true:=by
    rcases hf with z|z
    . exact z
    . rw [z] at hk;cases hk
   obtain ⟨c,hc⟩:=I.ok.has x (.inl hk)
   obtain ⟨w',z⟩:=I.cell x c hc
   refine wpAny_storeName_cell I.ok.kind hk hc z (fun h' hc' hs=>?_)
   obtain ⟨oc,hoc,aa2⟩:=id z
   refine h { s with heap:=h' } ⟨I.ok,I.os,I.bare,⟨fun b o e n hb hx=>?_,fun b o e n hb hx=>?_,I.base.free,fun b o e hx=>?_,I.base.tups,I.base.oE,I.base.rB⟩,⟨m,hn.sameBut hs (cD (FN x c hc)),fun j y v' e1 e2 e3=>?_⟩,fun y c' e=>?_,I.free,I.lI,fun p hp=>?_,tracked ⟨oc,hoc,I.lI x c hc⟩ hs,by simpa using I.len⟩ ⟨c,hs, .inr hc⟩
   . exact (hs.2 b (ef (jK (bF e) (I.ok.fC x c hfn hc)))).trans (I.base.keep b o e n hb hx)
   . obtain ⟨sl,e1⟩:=I.base.slot b o e n hb hx
     exact ⟨sl,(hs.2 b (ef (jK (bF e) (I.ok.fC x c hfn hc)))).trans e1⟩
   . obtain ⟨o',e1⟩:=I.base.there b o e hx
     exact ⟨o',(hs.2 b (ef (jK (bF e) (I.ok.fC x c hfn hc)))).trans e1⟩
   . by_cases hj:j=i
     . subst hj
       rw [hi] at e1;cases e1
       rw [ou Zf] at e2
       cases e2
       exact ⟨u,r, .inr ⟨.inl hk,c,hc,hc'⟩⟩
     . rw [wK (cD hj)] at e2
       obtain ⟨u',r',q⟩:=hl j y v' e1 e2 e3
       refine ⟨u',r',?_⟩
       rcases q with q|⟨k,c',e,z'⟩
       . exact .inl q
       . refine .inr ⟨k,c',e,z'.sameBut hs ?_⟩
         rintro rfl
         exact hj (yW hN e1 (I.ok.inj _ _ _ e hc▸hi))
   . by_cases hcc:c'=c
     . subst hcc;exact ⟨_,hc'⟩
     . obtain ⟨w2,z2⟩:=I.cell y c' e
       exact ⟨w2,z2.sameBut hs hcc⟩
   . obtain ⟨e,n,ne,nf,d⟩:=I.pin p hp
     refine ⟨(hs.2 p.1 ?_).trans e,n,ne,nf,d⟩
     intro q
     rw [q,hoc] at e
     have q':oc=p.2:=eV e
     exact d w' (by rw [<-q'];exact aa2)
theorem ve {A:Around} {v:V} (I:Inv X pins σ H s) (hN:X.N.Nodup) (hi:X.N[i]?=some x) (hx:Loc X.env.scope x) (r:RelV v u)
  (h:∀s',Inv X pins (σ.set i (some v)) H s'->Q () s') (hf:X.fn x=true\/X.env.scope.names.lookup x=some .local:=by first|exact .inl rfl|exact .inr rfl|assumption):wpAny M A (storeName X.env x u) Q E s:=
 Dl I hN hi hx r (fun s' I' _=>h s' I') hf
theorem Inv.L_ {s':Shared} (I:Inv X pins σ H s) (ho:s'.os=s.os) (u:Un (frs X.stack) ch H H' s.heap s'.heap) (hok:f_ X.prog X.w H' s'.heap) (hg:AllBare s'.gens)
  (hch:∀b∈ch,(b∈X.ex\/X.s₀.heap.objs.size<=b)/\b≠X.env.locals/\(∀x c,X.env.cells.lookup x=some c->c≠b)/\∀p∈X.pn++pins,p.1≠b):Inv X pins σ H' s':=by
 obtain ⟨h',g',d',t',o'⟩:=s'
 have e:o'=s.os:=ho
 subst e
 exact I.call (g':=g') (t':=t') (d':=d') u hok hg hch
end
abbrev XK:=Value->Option Addr->Hp->Prop
abbrev St:=List (Option V)
abbrev VK:=V->Hp->Prop
abbrev TE:=St->Hp->VK->Prop
abbrev TT:=St->Hp->(Bool->Hp->Prop)->Prop
abbrev TA:=St->Hp->(List V->Hp->Prop)->Prop
structure Ends where
 nx:St->Hp->Prop
 rt:VK
 bk:St->Hp->Prop:=fun _ _=>False
 ct:St->Hp->Prop:=fun _ _=>False
abbrev TS:=Ends->St->Hp->Prop
def EP (X:Cx) (pins:AO) (σ:St) (Q:VK) (u:Value) (s':Shared):Prop:=∃v H',Inv X pins σ H' s'/\RelV v u/\Q v H'
def TP (X:Cx) (pins:AO) (σ:St) (Q:Bool->Hp->Prop) (b:Bool) (s':Shared):Prop:=∃H',Inv X pins σ H' s'/\Q b H'
def AP (X:Cx) (pins:AO) (σ:St) (Q:List V->Hp->Prop) (us:List Value) (s':Shared):Prop:=∃vs H',Inv X pins σ H' s'/\Vals vs us/\Q vs H'
def SP (X:Cx) (pins:AO) (D:Ends) (f:Flow) (s':Shared):Prop:=
 match f with
 | .next=>∃σ' H',Inv X pins σ' H' s'/\D.nx σ' H'
 | .brk=>∃σ' H',Inv X pins σ' H' s'/\D.bk σ' H'
 | .cont=>∃σ' H',Inv X pins σ' H' s'/\D.ct σ' H'
 | .ret u=>∃v σ' H',Inv X pins σ' H' s'/\RelV v u/\D.rt v H'
def PE (X:Cx) (e:Expr) (t:TE):Prop:=
 ∀(pins:AO) (s:Shared) (σ:St) (H:Hp) (Q:VK),Inv X pins σ H s->t σ H Q->wpAny (model X.prog X.w) X.A (eval e X.env) (EP X pins σ Q) X.xe s
def PT (X:Cx) (e:Expr) (t:TT):Prop:=
 ∀(pins:AO) (s:Shared) (σ:St) (H:Hp) (Q:Bool->Hp->Prop),Inv X pins σ H s->t σ H Q->wpAny (model X.prog X.w) X.A (isTrue e X.env (eval e X.env)) (TP X pins σ Q) X.xe s
def PW (X:Cx) (e:Expr) (t:TT):Prop:=
 ∀(whole:Sem Value) (pins:AO) (s:Shared) (σ:St) (H:Hp) (Q:Bool->Hp->Prop),Inv X pins σ H s->t σ H Q->wpAny (model X.prog X.w) X.A (isTrue e X.env whole) (TP X pins σ Q) X.xe s
variable {X:Cx} {e:Expr}
theorem PW.pt {t:TT} (h:PW X e t):PT X e t:=h _
def PA (X:Cx) (es:List Expr) (t:TA):Prop:=
 ∀(pos:Pos) (pins:AO) (s:Shared) (σ:St) (H:Hp) (Q:List V->Hp->Prop),Inv X pins σ H s->t σ H Q->wpAny (model X.prog X.w) X.A (spliced (backTo pos (starEach es X.env))) (AP X pins σ Q) X.xe s
def PS (X:Cx) (st:Stmt) (t:TS):Prop:=
 ∀(pins:AO) (s:Shared) (σ:St) (H:Hp) (D:Ends),Inv X pins σ H s->t D σ H->wpAny (model X.prog X.w) X.A (exec st X.env) (SP X pins D) X.xe s
def oh (X:Cx) (st:List Stmt) (t:TS):Prop:=
 ∀(pins:AO) (s:Shared) (σ:St) (H:Hp) (D:Ends),Inv X pins σ H s->t D σ H->wpAny (model X.prog X.w) X.A (execs st X.env) (SP X pins D) X.xe s
variable {s:Shared}
theorem aZ {α:Type} {t:Sem α} {Q Q':α->Shared->Prop} {A:Around} (h:wpAny M A t Q E s) (hQ:∀a s,Q a s->Q' a s):wpAny M A t Q' E s:=iG h hQ fun _ _ x=>x
variable {pos:Pos} {pins:AO} {σ:St}
section
variable {X:Cx}
inductive Ma (i:Nat) (σ:St) (H:Hp) (Q:VK):Prop
 | mk  (v:_) (_:σ[i]?=some (some v)) (_:Q v H)
def tC (v:V):TE:=fun _ H Q=>Q v H
theorem US (hN:X.N[i]?=some x) (hv:RJ X.env.scope x) (hd:(x==("__debug__":Str))=false:=by decide) (hcd:(x==("__classdict__":Str))=false:=by decide):PE X (.Name x pos) (Ma i):=by
 intro pins s σ H Q I h
 obtain ⟨v,e,h⟩:=h
 obtain ⟨m,hn,hl⟩:=I.loc
 obtain ⟨u,r,l⟩:=hl i x v hN e hv
 have fin:EP X pins σ Q u s:=⟨v,H,I,r,h⟩
 rcases l with ⟨hk,hm⟩|⟨hk,c,hc,hcell⟩
 . exact wpAny_Name (wpAny_loadName_local I.ok.kind hk hn hm fin) hd
 . rcases hk with hk|hk
   . exact wpAny_Name (wpAny_loadName_cell I.ok.kind hk hc hcell fin) hd
   . exact wpAny_Name (wpAny_loadName_free I.ok.kind hk hc hcell fin hcd) hd
theorem NG {x j pos}:PE X (.Constant (.str x) j pos) (tC (.str x)):=fun _ _ _ H _ I h=>Calls.Constant_str ⟨.str x,H,I.tok _,⟨_,Z⟩,h⟩
def Gl (X:Cx) (x:Str):Prop:=X.env.kindOf x=some .globalImplicit
theorem uB {Q:VS} (I:Inv X pins σ H s) (hg:Gl X x) (hm:X.mg x=some u) (h:Q u s)
  (hd:(x==("__debug__":Str))=false:=by decide):wpAny (model X.prog X.w) X.A (eval (.Name x pos) X.env) Q E s:=
 Calls.Name_function_global I.ok.kind hg (Calls.loadGlobal_global (by rw [I.ok.glob];exact I.mod.glob.keeps I.bk) hm h) hd
theorem uC {Q:VS} (I:Inv X pins σ H s) (hg:Gl X x) (hm:X.mg x=none) (hv:bootBuiltins x=some u) (h:Q u s)
  (hn:x ≠ "__name__":=by decide) (hd:(x==("__debug__":Str))=false:=by decide):wpAny (model X.prog X.w) X.A (eval (.Name x pos) X.env) Q E s:=by
 obtain ⟨mb,h1,h2⟩:=I.mod.blt
 exact Calls.Name_function_global I.ok.kind hg (Calls.loadGlobal_builtin (by rw [I.ok.glob];exact I.mod.glob.keeps I.bk) hm (by rw [I.ok.blt];exact h1.keeps I.bk) ((h2 x hn).trans hv) h) hd
variable {a b:Expr} {ta tb:TE} {pos:Pos}
def PC (X:Cx) (op:CmpOp) (a b:Expr) (t:TE):Prop:=
 ∀(pins:AO) (s:Shared) (σ:St) (H:Hp) (Q:VK),Inv X pins σ H s->t σ H Q->
  wpAny (model X.prog X.w) X.A (eval a X.env) (fun v s₁=>wpAny (model X.prog X.w) X.A (eval b X.env) (fun u s₂=>wpAny (model X.prog X.w) X.A (compareOp op v u) (EP X pins σ Q) X.xe s₂) X.xe s₁) X.xe s
inductive yTB (Q:Bool->Hp->Prop) (x:V) (H1:Hp):Prop
 | mk  (c:_) (_:x = .bl c) (_:Q c H1)
def tB (t:TE):TT:=fun σ H Q=>t σ H (yTB Q)
variable {tA RM:TT} {rest:List Expr}
def XZ (u:TT) (σ:St) (Q:Bool->Hp->Prop):Bool->Hp->Prop:=fun c H1=>if c=true then u σ H1 Q else Q false H1
def aa3 (t u:TT):TT:=fun σ H Q=>t σ H (XZ u σ Q)
def aa4 (u:TT) (σ:St) (Q:Bool->Hp->Prop):Bool->Hp->Prop:=fun c H1=>if c=true then Q true H1 else u σ H1 Q
def Zg (t u:TT):TT:=fun σ H Q=>t σ H (aa4 u σ Q)
abbrev X0 (Q:Bool->Hp->Prop):Bool->Hp->Prop:=fun c H1=>Q (!c) H1
def aa5 (t:TT):TT:=fun σ H Q=>t σ H (X0 Q)
inductive UT (tb:TE) (σ:St) (Q:VK) (x:V) (H1:Hp):Prop
 | mk  (c:_) (_:x = .bl c) (_:if c=true then tb σ H1 Q else Q (.bl false) H1)
def X3 (ta tb:TE):TE:=fun σ H Q=>ta σ H (UT tb σ Q)
end
def aF (K:Fg) (H:Hp) (a:Addr) (xs:List V):Prop:=
 Rd H a (.lst xs)\/
  ∃(o:Obj) (its:Array Value) (n:Nat),K.lookup a=some o/\o.cls = .type "list"/\o.dict=none/\o.data = .seq its n/\its.size<=sizeLine/\Vals xs its.toList
def cO (K:Fg) (H:Hp) (a:Addr) (xs:List V):Prop:=
 Rd H a (.tup xs)\/
  ∃(o:Obj) (its:Array Value) (n:Nat),K.lookup a=some o/\o.cls = .type "tuple"/\o.data = .seq its n/\its.size<=sizeLine/\Vals xs its.toList
def aa6:Value->Option V
 | .none=>some .bL
 | .bool b=>some (.bl b)
 | .int i _=>some (.int i)
 | .str x _=>some (.str x)
 | .bytes b _=>some (.wc b)
 | .float b _=>some (.RH b)
 | .ref a=>some (.ref a)
 | .type n=>some (.ty n)
 | _=>none
theorem RelV.abs {x:V} (r:RelV x u):aa6 u=some x:=by
 cases x with
 | bL=>cases r;rfl
 | bl _=>cases r;rfl
 | int _=>obtain ⟨t,rfl⟩:=r;rfl
 | str _=>obtain ⟨t,rfl⟩:=r;rfl
 | wc _=>obtain ⟨t,rfl⟩:=r;rfl
 | RH _=>obtain ⟨t,rfl⟩:=r;rfl
 | ref _=>cases r;rfl
 | ty _=>cases r;rfl
variable {y:V}
theorem RelV.inj {x:V} (r:RelV x u) (q:RelV y u):x=y:=eV (r.abs.symm.trans q.abs)
theorem Vals.inj:∀{xs ys:List V} {us:List Value},Vals xs us->Vals ys us->xs=ys
 | _,_,_, .nil, .nil=>rfl
 | _,_,_, .cons r t, .cons r' t'=>by rw [r.inj r',Vals.inj t t']
variable {K:Fg}
section
variable {X:Cx} {pins:AO} {σ:St} {H:Hp} {s:Shared} {a:Addr} {xs ys:List V}
theorem aF.of (h:H a=some (.lst xs)):aF K H a xs:= .inl (.inl h)
theorem cO.of (h:H a=some (.tup xs)):cO K H a xs:= .inl (.inl h)
theorem Inv.list (I:Inv X pins σ H s) (h:aF X.K H a xs):∃its:List Value,Vals xs its/\PlainL s.heap a its.toArray/\xs.length<=sizeLine:=by
 rcases h with h|⟨o,its,n,hk,hc,hd,hs,hz,r⟩
 . obtain ⟨z,its,n,r,e⟩:=h.ok I.hok
   exact ⟨its,r,⟨_,n,e,Z,Z,Z⟩,z⟩
 . refine ⟨its.toList,r,⟨o,n,I.qM a o hk,hc,hd,by simpa using hs⟩,?_⟩
   have e:=r.length
   simp only [Array.length_toList] at e
   omega
theorem Inv.tuple (I:Inv X pins σ H s) (h:cO X.K H a xs):∃its:List Value,Vals xs its/\IsTup s.heap a its.toArray/\xs.length<=sizeLine:=by
 rcases h with h|⟨o,its,n,hk,hc,hs,hz,r⟩
 . obtain ⟨z,its,r,p⟩:=h.ok I.hok
   exact ⟨its,r,p,z⟩
 . refine ⟨its.toList,r,⟨o,I.qM a o hk,hc,n,by simpa using hs⟩,?_⟩
   have e:=r.length
   simp only [Array.length_toList] at e
   omega
theorem Inv.PX (I:Inv X pins σ H s) (h:aF X.K H a xs) (h':aF X.K H a ys):xs=ys:=by
 obtain ⟨its,r,⟨o,n,e,_,_,d⟩,_⟩:=I.list h
 obtain ⟨its',r',⟨o',n',e',_,_,d'⟩,_⟩:=I.list h'
 rw [e] at e';cases e'
 rw [d] at d'
 injection d' with d1 _
 have:its=its':=by simpa using kG Array.toList d1
 subst this
 exact r.inj r'
end
abbrev Cx.tZ (X:Cx) (E:VS):Cx:={ X with xe:=E }
abbrev Cx.yC (X:Cx):Cx:=X.tZ fun _ _=>False
theorem Cx.Ok.tZ (ok:X.Ok) (E:VS):(X.tZ E).Ok:=
 ⟨ok.mod,ok.kind,ok.glob,ok.blt,ok.above,ok.inj,ok.has,ok.fC,ok.hd,ok.frames,ok.stk,ok.KG,ok.bs,ok.Dk,ok.FJ,ok.Cf,ok.mY,ok.FL⟩
theorem Cx.Ok.pU (ok:(X.tZ E).Ok):X.Ok:=
 ⟨ok.mod,ok.kind,ok.glob,ok.blt,ok.above,ok.inj,ok.has,ok.fC,ok.hd,ok.frames,ok.stk,ok.KG,ok.bs,ok.Dk,ok.FJ,ok.Cf,ok.mY,ok.FL⟩
variable {D:Ends}
section
variable {X:Cx} {pins:AO} {σ:St} {H:Hp} {s:Shared} {E:VS}
theorem Inv.tZ (I:Inv X pins σ H s) (E:VS):Inv (X.tZ E) pins σ H s:=⟨I.ok.tZ E,I.os,I.bare,I.base,I.loc,I.cell,I.free,I.lI,I.pin,I.hok,I.len⟩
theorem Inv.pU (I:Inv (X.tZ E) pins σ H s):Inv X pins σ H s:=⟨I.ok.pU,I.os,I.bare,I.base,I.loc,I.cell,I.free,I.lI,I.pin,I.hok,I.len⟩
theorem SP.pU {f:Flow} (h:SP (X.tZ E) pins D f s'):SP X pins D f s':=by
 cases f with
 | next=>obtain ⟨σ',H',I,q⟩:=h;exact ⟨σ',H',I.pU,q⟩
 | brk=>obtain ⟨σ',H',I,q⟩:=h;exact ⟨σ',H',I.pU,q⟩
 | cont=>obtain ⟨σ',H',I,q⟩:=h;exact ⟨σ',H',I.pU,q⟩
 | ret u=>obtain ⟨v,σ',H',I,r,q⟩:=h;exact ⟨v,σ',H',I.pU,r,q⟩
theorem oh.yC {st:List Stmt} {t:TS} (h:oh X.yC st t):oh X st t:=fun pins s σ H D I hw=>
 iG (h pins s σ H D (I.tZ _) hw) (fun _ _ q=>q.pU) fun _ _ z=>False.elim z
end
variable {tc:TT}
section
variable {X:Cx} {st:Stmt} {rest:List Stmt} {t u:TS} {e:Expr} {te:TE} {pos:Pos}
def X4:TS:=fun D σ H=>D.nx σ H
def Ends.sq (D:Ends) (u:TS):Ends:={ D with nx:=u D }
def Ends.lp (D:Ends) (N:St->Hp->Prop):Ends:={ D with nx:=N,ct:=N,bk:=D.nx }
def rC (t u:TS):TS:=fun D σ H=>t (D.sq u) σ H
theorem Inv.quiet (I:Inv X pins σ H s):interactive X.env=false:=by simp [interactive,I.ok.kind]
def UU (D:Ends) (σ:St):V->Hp->Prop:=fun _ H1=>D.nx σ H1
def X5 (te:TE):TS:=fun D σ H=>te σ H (UU D σ)
def aa7 (te:TE):TS:=fun D σ H=>te σ H D.rt
def X6:TS:=fun D _ H=>D.rt .bL H
def X7 (t:TS) (u:TS) (D:Ends) (σ:St):Bool->Hp->Prop:=fun b H1=>if b=true then t D σ H1 else u D σ H1
def UW (c:TT) (t u:TS):TS:=fun D σ H=>c σ H (X7 t u D σ)
theorem RN {c:Expr} {a b:List Stmt} (hc:PT X c tc) (ha:oh X a t) (hb:oh X b u):PS X (.If c a b pos) (UW tc t u):=by
 intro pins s σ H D I h
 refine wpAny_If (aZ (hc pins s σ H _ I h) fun d s1 ⟨H1,I1,q1⟩=>?_)
 cases d with
 | true=>exact ha pins s1 σ H1 D I1 q1
 | false=>exact hb pins s1 σ H1 D I1 q1
def UX:TS:=fun _ _ _=>False
end
abbrev TG:=V->St->Hp->(St->Hp->Prop)->Prop
abbrev Ag:=List V->St->Hp->(St->Hp->Prop)->Prop
def PG (X:Cx) (target:Expr) (t:TG):Prop:=
 ∀(pins:AO) (s:Shared) (σ:St) (H:Hp) (v:V) (u:Value) (Q:St->Hp->Prop),Inv X pins σ H s->RelV v u->t v σ H Q->
  wpAny (model X.prog X.w) X.A (assign target X.env u) (fun _ s'=>∃σ' H',Inv X pins σ' H' s'/\Q σ' H') X.xe s
def Zh (X:Cx) (ts:List Expr) (t:Ag):Prop:=
 ∀(pins:AO) (s:Shared) (σ:St) (H:Hp) (vs:List V) (us:List Value) (Q:St->Hp->Prop),Inv X pins σ H s->Vals vs us->t vs σ H Q->
  wpAny (model X.prog X.w) X.A (assignInOrder ((assignEach ts X.env).map (·.2)) us) (fun _ s'=>∃σ' H',Inv X pins σ' H' s'/\Q σ' H') X.xe s
abbrev qj:=V->V->V->Hp->(Hp->Prop)->Prop
def PY (X:Cx) (t:qj):Prop:=
 ∀(pins:AO) (s:Shared) (σ:St) (H:Hp) (o i v:V) (ov iv u:Value) (Q:Hp->Prop),Inv X pins σ H s->RelV o ov->RelV i iv->RelV v u->t o i v H Q->
  wpAny (model X.prog X.w) X.A (setItem ov iv u) (fun _ s'=>∃H',Inv X pins σ H' s'/\Q H') X.xe s
abbrev FP:=V->V->Hp->VK->Prop
def UY (X:Cx) (op:Operator) (t:FP):Prop:=
 ∀(pins:AO) (s:Shared) (σ:St) (H:Hp) (x y:V) (v u:Value) (Q:VK),Inv X pins σ H s->RelV x v->RelV y u->t x y H Q->
  wpAny (model X.prog X.w) X.A (inplaceOp op v u) (EP X pins σ Q) X.xe s
section
variable {X:Cx} {pos:Pos}
def qR (i:Nat):TG:=fun v σ H Q=>Q (σ.set i (some v)) H
inductive UZ (vs:List V) (σ:St) (H:Hp) (Q:St->Hp->Prop):Prop
 | mk  (_:vs=[]) (_:Q σ H)
def U0 (u:Ag) (Q:St->Hp->Prop) (r:List V):St->Hp->Prop:=fun σ' H'=>u r σ' H' Q
inductive RO (t:TG) (u:Ag) (vs:List V) (σ:St) (H:Hp) (Q:St->Hp->Prop):Prop
 | mk  (v r:_) (_:vs=v::r) (_:t v σ H (U0 u Q r))
inductive yX (K:Fg) (n:Nat) (t:Ag) (v:V) (σ:St) (H:Hp) (Q:St->Hp->Prop):Prop
 | mk  (a xs:_) (_:v = .ref a) (_:cO K H a xs) (_:xs.length=n) (_:t xs σ H Q)
theorem U1 {es:List Expr} {k:Nat} {t:Ag} {n:Nat} (hc:X.calm=true) (h:Zh X es t)
  (hn:(assignEach es X.env).length=n:=by rfl) (hst:(assignEach es X.env).findIdx? (·.1)=none:=by rfl):PG X (.Tuple es k pos) (yX X.K n t):=by
 intro pins s σ H v u Q I r hw
 obtain ⟨a,xs,e1,hq,hl,hw⟩:=hw
 subst e1
 cases r
 obtain ⟨its,rv,ht,hz⟩:=I.tuple hq
 refine assign_Tuple_tuple (I.ok.hd hc) ht (by simp [hn,<-hl,rv.length]) hst fun h' hx=>?_
 have I1:Inv X pins σ H { s with heap:=h' }:=I.kept (t':=s.toks) fun b o e=>hx b o (ef (bF e)) e
 exact h pins _ σ H xs _ Q I1 (by simpa using rv) hw
def SW (σ:St) (Q:St->Hp->Prop):Hp->Prop:=fun H3=>Q σ H3
def SX (t:qj) (v:V) (σ:St) (Q:St->Hp->Prop) (o:V):V->Hp->Prop:=fun i H2=>t o i v H2 (SW σ Q)
def X8 (ti:TE) (t:qj) (v:V) (σ:St) (Q:St->Hp->Prop):V->Hp->Prop:=fun o H1=>ti σ H1 (SX t v σ Q o)
def aa8 (to ti:TE) (t:qj):TG:=fun v σ H Q=>to σ H (X8 ti t v σ Q)
def X_ (g:TG) (D:Ends) (σ:St):V->Hp->Prop:=fun x H1=>g x σ H1 D.nx
def PZ (te:TE) (g:TG):TS:=fun D σ H=>te σ H (X_ g D σ)
inductive Yb (i:Nat) (j:Nat) (D:Ends) (σ:St) (vs:List V) (H1:Hp):Prop
 | mk  (v w:_) (_:vs=[v,w]) (_:D.nx ((σ.set i (some v)).set j (some w)) H1)
def aa9 (i j:Nat) (ta:TA):TS:=fun D σ H=>ta σ H (Yb i j D σ)
def P0 (D:Ends) (σ:St):Hp->Prop:=fun H6=>D.nx σ H6
def P_ (mZ:qj) (D:Ends) (σ:St) (o:V) (i:V):V->Hp->Prop:=fun z H5=>mZ o i z H5 (P0 D σ)
def Qa (wg:FP) (mZ:qj) (D:Ends) (σ:St) (o:V) (i:V) (x:V):V->Hp->Prop:=fun y H4=>wg x y H4 (P_ mZ D σ o i)
def Qc (te:TE) (wg:FP) (mZ:qj) (D:Ends) (σ:St) (o:V) (i:V):V->Hp->Prop:=fun x H3=>te σ H3 (Qa wg mZ D σ o i x)
def Qd (te:TE) (wO:V->V->Hp->VK->Prop) (wg:FP) (mZ:qj) (D:Ends) (σ:St) (o:V):V->Hp->Prop:=fun i H2=>wO o i H2 (Qc te wg mZ D σ o i)
def U3 (ti:TE) (te:TE) (wO:V->V->Hp->VK->Prop) (wg:FP) (mZ:qj) (D:Ends) (σ:St):V->Hp->Prop:=fun o H1=>ti σ H1 (Qd te wO wg mZ D σ o)
def Yc (to ti te:TE) (wO:V->V->Hp->VK->Prop) (wg:FP) (mZ:qj):TS:=fun D σ H=>to σ H (U3 ti te wO wg mZ D σ)
def U4 (X:Cx) (t:V->V->Hp->VK->Prop):Prop:=
 ∀(pins:AO) (s:Shared) (σ:St) (H:Hp) (o i:V) (ov iv:Value) (Q:VK),Inv X pins σ H s->RelV o ov->RelV i iv->t o i H Q->
  wpAny (model X.prog X.w) X.A (getItem ov iv) (EP X pins σ Q) X.xe s
inductive Zi (f:Int->Int->Int) (x:V) (y:V) (H:Hp) (Q:VK):Prop
 | mk  (i j:_) (_:x = .int i) (_:y = .int j) (_:Q (.int (f i j)) H)
theorem U5:UY X .Add (Zi fun i j=>i+j):=by
 intro pins s σ H x y v u Q I r1 r2 h
 obtain ⟨i,j,e1,e2,q⟩:=h
 subst e1;subst e2
 obtain ⟨t,rfl⟩:=r1
 obtain ⟨t',rfl⟩:=r2
 exact iadd_int ⟨.int _,H,I.tok _,⟨_,Z⟩,q⟩
theorem U6:UY X .Sub (Zi fun i j=>i-j):=by
 intro pins s σ H x y v u Q I r1 r2 h
 obtain ⟨i,j,e1,e2,q⟩:=h
 subst e1;subst e2
 obtain ⟨t,rfl⟩:=r1
 obtain ⟨t',rfl⟩:=r2
 exact isub_int ⟨.int _,H,I.tok _,⟨_,Z⟩,q⟩
end
section
variable {X:Cx} {pos:Pos}
def U7 (c:TT) (tb:TS):TS:=fun D σ H=>∃W:Nat->St->Hp->Prop,(∃m,W m σ H)/\∀m σ H,W m σ H->
 c σ H fun b H1=>if b=true then ∃N:St->Hp->Prop,(∀σ' H',N σ' H'->∃m',m'<m/\W m' σ' H')/\tb { D with nx:=N,ct:=N,bk:=D.nx } σ H1 else D.nx σ H1
end
structure It where
 go:Nat->Hp->Prop
 Ah:Nat->Hp->V->Hp->Prop
 stop:Nat->Hp->Prop
def m5 (X:Cx) (pins:AO) (H:Hp) (b:Addr):Prop:=
 H b=none/\b≠X.env.locals/\b∉X.fs/\(b∈X.ex\/X.s₀.heap.objs.size<=b)/\(∀x c,X.env.cells.lookup x=some c->c≠b)/\∀p∈X.pn++pins,p.1≠b
variable {H':Hp}
theorem Inv.yY (I:Inv X pins σ H s) (hb:s.heap.objs.size<=b) (hn:H' b=none):m5 X pins H' b:=by
 refine ⟨hn,ye (jK I.lt hb),I.aa1 hb, .inr (fH I.sz hb),fun x c e z=>?_,fun p hp z=>?_⟩
 . obtain ⟨v,q⟩:=I.cell x c e
   exact absurd (jK q.lt (by rw [z];exact hb)) (iW _)
 . exact absurd (jK (bF (I.pin p hp).1) (by rw [z];exact hb)) (iW _)
structure Turn (P:Program) (w:World) (K:Fg) (tg:Expr) (J:It) (fp:List Addr) (it:Addr) (tn:Nat->Heap->Prop):Prop where
 mem:it∈fp
 obj:∀i h,tn i h->∀b∈fp,∃o,h.get? b=some o/\∀v,o.data ≠ .cell v
 keep:∀i h h',tn i h->(∀b∈fp,∀o,h.get? b=some o->h'.get? b=some o)->tn i h'
 item:∀(X:Cx),X.prog=P->X.w=w->X.K=K->X.calm=true->∀(i:Nat) (pins:AO) (s:Shared) (σ:St) (H:Hp) (E:VS),Inv X pins σ H s->(∀b∈fp,m5 X pins H b)->tn i s.heap->J.go i H->
  wpAny (model P w) X.A (pyNext (.ref it)) (fun r s1=>∃u,r=some u/\
   wpAny (model P w) X.A (letOwnedTupleGo tg (.ref it) u) (fun _ s2=>∃x H',Inv X pins σ H' s2/\RelV x u/\J.Ah i H x H'/\tn (i+1) s2.heap/\∀b∈fp,H' b=none) E s1) E s
 done:∀(X:Cx),X.prog=P->X.w=w->X.K=K->X.calm=true->∀(i:Nat) (pins:AO) (s:Shared) (σ:St) (H:Hp) (E:VS),Inv X pins σ H s->(∀b∈fp,m5 X pins H b)->tn i s.heap->J.stop i H->
  wpAny (model P w) X.A (pyNext (.ref it)) (fun r s1=>r=none/\Inv X pins σ H s1) E s
 self:∀(A:Around) (i:Nat) (s:Shared) (Q:VS) (E:VS),tn i s.heap->Q (.ref it) s->wpAny (model P w) A (pyIter (.ref it)) Q E s
abbrev TI:=St->Hp->(It->Hp->Prop)->Prop
def Zj (X:Cx) (pins:AO) (σ:St) (tg:Expr) (R:It->Hp->Prop) (itv:Value) (s2:Shared):Prop:=
 ∃(it:Addr) (fp:List Addr) (tn:Nat->Heap->Prop) (J:It) (H':Hp),itv = .ref it/\Inv X pins σ H' s2/\Turn X.prog X.w X.K tg J fp it tn/\tn 0 s2.heap/\(∀b∈fp,m5 X pins H' b)/\R J H'
def PI (X:Cx) (tg iter:Expr) (wi:TI):Prop:=
 ∀(pins:AO) (s:Shared) (σ:St) (H:Hp) (R:It->Hp->Prop),Inv X pins σ H s->wi σ H R->
  wpAny (model X.prog X.w) X.A (eval iter X.env) (fun v s1=>wpAny (model X.prog X.w) X.A (pyIter v) (Zj X pins σ tg R) X.xe s1) X.xe s
variable {tg:Expr}
theorem yh {A:Around} {o:Obj} {n:String} {vs:Array Value} (ho:s.heap.get? it=some o) (hc:o.cls = .type n) (hd:o.data = .fields vs)
  (hn:["enumerate","zip","dict_itemiterator","dict_reverseitemiterator","odict_iterator","itertools.zip_longest","itertools.pairwise"].contains n=false) (hQ:Q () s):wpAny M A (letOwnedTupleGo tg (.ref it) u) Q E s:=by
 unfold letOwnedTupleGo
 cases tg <;> first
  | exact aS hQ
  | (cases u <;> first
      | exact aS hQ
      | (refine ay (wpAny_load ho ?_)
         rw [hc,hd]
         show wpAny M A (if (["enumerate","zip","dict_itemiterator","dict_reverseitemiterator","odict_iterator","itertools.zip_longest","itertools.pairwise"].contains n && vs[0]?==some (rawInt _))=true then _ else _) Q E s
         rw [az (by intro h;rw [hn,Bool.false_and] at h;cases h)]
         exact aS hQ))
def Ai (K:Fg) (a:Addr):It:=
 ⟨fun i H=>∃xs x,aF K H a xs/\xs[i]?=some x,fun i H x H'=>H'=H/\∀xs,aF K H a xs->xs[i]?=some x,fun i H=>∃xs,aF K H a xs/\xs.length<=i⟩
def RP (lo:Int) (n:Nat):It:=⟨fun i _=>i<n,fun i H x H'=>H'=H/\x = .int (lo+i),fun i _=>n<=i⟩
theorem NH {w:World} (a it:Addr):Turn P w K tg (Ai K a) [it] it (fun i h=>h.IsListIter it a i) where
 mem:=by simp
 obj:=fun i h st b hb=>by
  have e:b=it:=by simpa using hb
  subst e
  obtain ⟨o,e,c,d⟩:=st
  exact ⟨o,e,fun v z=>by rw [d] at z;cases z⟩
 keep:=fun i h h' st k=>st.at fun o e=>k it (by simp) o e
 item:=by
  intro X hP hw hK hc i pins s σ H E I hf st hg
  subst hP hw hK
  obtain ⟨xs,x,hq,hx⟩:=hg
  obtain ⟨its,rv,p,hz⟩:=I.list hq
  obtain ⟨u,hu,ru⟩:=rv.get hx
  obtain ⟨f0,f1,f2,f3,f4,f5⟩:=hf it (by simp)
  refine wpAny_pyNext_list_item st p.isList (x:=u) (by simpa using hu) fun h' st' sb=>?_
  have I1:Inv X pins σ H { s with heap:=h' }:=I.turned (t':=s.toks) (fun b o hb e=>(sb.2 b hb).trans e) f0 f1 f3 f4 f5
  obtain ⟨o,e,c,d⟩:=id st'
  exact ⟨u,Z,yh (s:={ s with heap:=h' }) e c d (by decide) ⟨x,H,I1,ru,⟨Z,fun ys hy=>by rw [I.PX hy hq];exact hx⟩,st',fun b hb=>(hf b hb).1⟩⟩
 done:=by
  intro X hP hw hK hc i pins s σ H E I hf st hg
  subst hP hw hK
  obtain ⟨xs,hq,hx⟩:=hg
  obtain ⟨its,rv,p,hz⟩:=I.list hq
  obtain ⟨f0,f1,f2,f3,f4,f5⟩:=hf it (by simp)
  have hl:=rv.length
  exact wpAny_pyNext_list_end (I.ok.hd hc) st p.isList (by simp;omega) fun h' eb=>⟨Z,I.turned (t':=s.toks) (fun b o hb e=>eb b o hb e) f0 f1 f3 f4 f5⟩
 self:=fun _ _ _ _ _ st h=>wpAny_pyIter_listiter st h
theorem Mb {w:World} (it:Addr) (lo:Int) (n:Nat):Turn P w K tg (RP lo n) [it] it (fun i h=>IsRangeIter h it (lo+(i:Nat)*1) ((n:Int)-(i:Nat)) 1) where
 mem:=by simp
 obj:=fun i h st b hb=>by
  have e:b=it:=by simpa using hb
  subst e
  exact ⟨_,st,fun v z=>by
   have z':Data.fields _=Data.cell v:=z
   cases z'⟩
 keep:=fun i h h' st k=>k it (by simp) _ st
 item:=by
  intro X hP hw hK hc i pins s σ H E I hf st hg
  subst hP hw hK
  obtain ⟨f0,f1,f2,f3,f4,f5⟩:=hf it (by simp)
  have W:=Walks.range (prog:=X.prog) (w:=X.w) (I.ok.hd hc) it lo 1 n
  refine W.item i s _ _ hg st fun v h' tk hv st' kk=>?_
  obtain ⟨t,rfl⟩:=hv
  have I1:Inv X pins σ H { s with heap:=h',toks:=tk }:=I.turned (fun b o hb e=>kk b o (by simpa using hb) e) f0 f1 f3 f4 f5
  refine ⟨_,Z,yh (s:={ s with heap:=h',toks:=tk }) (n:="range_iterator") st' rfl rfl (by decide) ⟨.int (lo+i),H,I1,⟨t,?_⟩,⟨Z,Z⟩,st',fun b hb=>(hf b hb).1⟩⟩
  rw [Int.mul_one]
 done:=by
  intro X hP hw hK hc i pins s σ H E I hf st hg
  subst hP hw hK
  obtain ⟨f0,f1,f2,f3,f4,f5⟩:=hf it (by simp)
  exact wpAny_pyNext_range_end (I.ok.hd hc) st (by have:n<=i:=hg;omega) fun h' eb=>⟨Z,I.turned (t':=s.toks) (fun b o hb e=>eb b o hb e) f0 f1 f3 f4 f5⟩
 self:=fun _ _ _ _ _ st h=>wpAny_pyIter_rangeiter st h
variable {tl:TE} {fp:List Addr}
section
variable {X:Cx} {tg:Expr}
inductive U8 (K:Fg) (R:It->Hp->Prop) (x:V) (H1:Hp):Prop
 | mk  (a:_) (_:x = .ref a) (_:(∃xs,aF K H1 a xs)) (_:R (Ai K a:_) H1)
def RQ (K:Fg) (tl:TE):TI:=fun σ H R=>tl σ H (U8 K R)
theorem SY {l:Expr} (hl:PE X l tl):PI X tg l (RQ X.K tl):=by
 intro pins s σ H R I h
 refine aZ (hl pins s σ H _ I h) fun v s1 ⟨x,H1,I1,r1,q1⟩=>?_
 obtain ⟨a,e,⟨xs,hq⟩,q⟩:=q1
 subst e
 cases r1
 obtain ⟨its,rv,p,hz⟩:=I1.list hq
 refine LY p.isList ?_
 refine ⟨s1.heap.objs.size,[s1.heap.objs.size],_,_,H1,Z,I1.kept (t':=s1.toks) fun b o e=>bU _ e,NH a _,⟨_,dP _ rfl,Z,Z⟩,fun b hb=>?_,q⟩
 have e:b=s1.heap.objs.size:=by simpa using hb
 subst e
 exact I1.yY (aK _) (I1.hok.fresh (aK _))
theorem Qe {R:It->Hp->Prop} {lo hi:Int} {t u v:Tok} {tk:Nat} (I:Inv X pins σ H s) (h1:-(2 ^ 62)<=lo) (h2:lo<2 ^ 62) (h3:-(2 ^ 62)<=hi) (h4:hi<2 ^ 62)
  (q:R (RP lo (hi-lo).toNat) H):wpAny (model X.prog X.w) X.A (pyIter (.ref s.heap.objs.size)) (Zj X pins σ tg R) E { s with heap:=s.heap.push { cls:= .type "range",data:= .fields #[.int lo t, .int hi u, .int 1 v] },toks:=tk }:=by
 refine wpAny_pyIter_range (IsRange.new ..) (small_one h1 h2 h3 h4) ?_
 have I1:Inv X pins σ H { s with heap:=s.heap.push { cls:= .type "range",data:= .fields #[.int lo t, .int hi u, .int 1 v] },toks:=tk }:=I.kept fun b o e=>bU _ e
 refine ⟨(s.heap.push { cls:= .type "range",data:= .fields #[.int lo t, .int hi u, .int 1 v] }).objs.size,[(s.heap.push { cls:= .type "range",data:= .fields #[.int lo t, .int hi u, .int 1 v] }).objs.size],_,_,H,Z,
  I1.kept (t':=tk) fun b o e=>bU _ e,Mb _ lo (hi-lo).toNat,?_,fun b hb=>?_,q⟩
 . have e1:lo+((0:Nat):Int)*1=lo:=by simp
   have e2:(((hi-lo).toNat:Nat):Int)-((0:Nat):Int)=Builtin.Range.rangeSize lo hi 1:=by rw [rangeSize_one];split <;> omega
   show IsRangeIter _ _ (lo+((0:Nat):Int)*1) ((((hi-lo).toNat:Nat):Int)-((0:Nat):Int)) 1
   rw [e1,e2]
   exact dP _ rfl
 . have e:b=(s.heap.push { cls:= .type "range",data:= .fields #[.int lo t, .int hi u, .int 1 v] }).objs.size:=by simpa using hb
   subst e
   exact I1.yY (aK _) (I1.hok.fresh (aK _))
inductive U9 (R:It->Hp->Prop) (vs:List V) (H1:Hp):Prop
 | mk  (j:Int) (_:vs=[.int j]) (_:-(2 ^ 62)<=j) (_:j<2 ^ 62) (_:R (RP 0 j.toNat) H1)
def Yd (ta:TA):TI:=fun σ H R=>ta σ H (U9 R)
def Aj (g:TG) (tb:TS) (D:Ends) (σ:St):It->Hp->Prop:=fun J H1=>∃W:Nat->Nat->St->Hp->Prop,(∃m,W 0 m σ H1)/\∀i m σ H,W i m σ H->
 (J.stop i H/\D.nx σ H)\/(J.go i H/\∃N:St->Hp->Prop,(∀σ' H',N σ' H'->∃m',m'<m/\W (i+1) m' σ' H')/\∀x H',J.Ah i H x H'->g x σ H' (tb (D.lp N)))
def aa_ (wi:TI) (g:TG) (tb:TS):TS:=fun D σ H=>wi σ H (Aj g tb D σ)
def Ak (fp:List Addr) (h:Heap):List (Addr×Obj):=fp.filterMap fun b=>(h.get? b).map fun o=>(b,o)
theorem iH {o:Obj} (hb:b∈fp) (e:h.get? b=some o):(b,o)∈Ak fp h:=B_.mpr ⟨b,hb,by rw [e];rfl⟩
theorem NI {p:Addr×Obj} (hp:p∈Ak fp h):p.1∈fp/\h.get? p.1=some p.2:=by
 obtain ⟨b,hb,e⟩:=B_.mp hp
 cases q:h.get? b with
 | none=>rw [q] at e;cases e
 | some o=>
   rw [q] at e
   have e':(b,o)=p:=eV e
   subst e'
   exact ⟨hb,q⟩
theorem Inv.pinned (I:Inv X pins σ H s) (hf:∀b∈fp,m5 X pins H b) (ho:∀b∈fp,∃o,s.heap.get? b=some o/\∀v,o.data ≠ .cell v):Inv X (pins++Ak fp s.heap) σ H s:=
 I.KH fun p hp=>(fZ.mp hp).elim (fun z=>I.pin p (iQ _ z)) fun z=>by
   obtain ⟨hb,e⟩:=NI z
   obtain ⟨f0,f1,f2,_⟩:=hf p.1 hb
   obtain ⟨o,e',d⟩:=ho p.1 hb
   rw [e] at e';cases e'
   exact ⟨e,f0,f1,f2,d⟩
theorem Inv.oF {pl:AO} (I:Inv X (pins++pl) σ H s):Inv X pins σ H s:=I.KH fun p hp=>I.pin p (iQ _ (B4 _ hp))
end
variable {tb:TS}
theorem iR {g:TG} (Pv:Nat->St->Hp->Prop) (h0:Pv 0 σ H) (hl:∀i σ H,i<=xs.length->Pv i σ H->aF K H a xs)
  (hs:∀i x σ H,xs[i]?=some x->Pv i σ H->g x σ H (tb (D.lp (Pv (i+1))))) (hd:∀σ H,Pv xs.length σ H->D.nx σ H):
  Aj g tb D σ (Ai K a) H:=by
 refine ⟨fun i m σ H=>m=xs.length-i/\i<=xs.length/\Pv i σ H,⟨xs.length,by simp,gH _,h0⟩,?_⟩
 rintro i m σ H ⟨rfl,hi,p⟩
 have q:=hl i σ H hi p
 by_cases hlt:i<xs.length
 . refine .inr ⟨⟨xs,xs[i],q,by simp [hlt]⟩,Pv (i+1),fun σ' H' p'=>⟨xs.length-(i+1),by omega,Z,hlt,p'⟩,fun x H' y=>?_⟩
   obtain ⟨e,y⟩:=y
   subst e
   exact hs i x σ _ (y xs q) p
 . have e:i=xs.length:=by omega
   subst e
   exact .inl ⟨⟨xs,q,aK _⟩,hd σ H p⟩
theorem mH {lo:Int} {n:Nat} {g:TG} (Pv:Nat->St->Hp->Prop) (h0:Pv 0 σ H)
  (hs:∀i σ H,i<n->Pv i σ H->g (.int (lo+i)) σ H (tb (D.lp (Pv (i+1))))) (hd:∀σ H,Pv n σ H->D.nx σ H):
  Aj g tb D σ (RP lo n) H:=by
 refine ⟨fun i m σ H=>m=n-i/\i<=n/\Pv i σ H,⟨n,by simp,gH _,h0⟩,?_⟩
 rintro i m σ H ⟨rfl,hi,p⟩
 by_cases hlt:i<n
 . refine .inr ⟨hlt,Pv (i+1),fun σ' H' p'=>⟨n-(i+1),by omega,Z,hlt,p'⟩,fun x H' y=>?_⟩
   obtain ⟨e,y⟩:=y
   subst e y
   exact hs i σ _ hlt p
 . have e:i=n:=by omega
   subst e
   exact .inl ⟨aK _,hd σ H p⟩
abbrev R2:=V->V->Hp->VK->Prop
def i7 (X:Cx) (f:Value->Value->Sem Value) (r:R2):Prop:=
 ∀(pins:AO) (s:Shared) (σ:St) (H:Hp) (x y:V) (v u:Value) (Q:VK),Inv X pins σ H s->RelV x v->RelV y u->r x y H Q->
  wpAny (model X.prog X.w) X.A (f v u) (EP X pins σ Q) X.xe s
def U_ (X:Cx) (f:Value->Sem Value) (r:V->Hp->VK->Prop):Prop:=
 ∀(pins:AO) (s:Shared) (σ:St) (H:Hp) (x:V) (v:Value) (Q:VK),Inv X pins σ H s->RelV x v->r x H Q->
  wpAny (model X.prog X.w) X.A (f v) (EP X pins σ Q) X.xe s
def iA (X:Cx) (f:Value) (r:List V->Hp->VK->Prop):Prop:=
 ∀(pins:AO) (s:Shared) (σ:St) (H:Hp) (xs:List V) (us:List Value) (Q:VK),Inv X pins σ H s->Vals xs us->r xs H Q->
  wpAny (model X.prog X.w) X.A (call f us) (EP X pins σ Q) X.xe s
def Va (r:R2) (Q:VK) (x:V):V->Hp->Prop:=fun y H2=>r x y H2 Q
def aba (r:R2) (tb:TE) (σ:St) (Q:VK):V->Hp->Prop:=fun x H1=>tb σ H1 (Va r Q x)
def KI (r:R2) (ta tb:TE):TE:=fun σ H Q=>ta σ H (aba r tb σ Q)
def abb (r:V->Hp->VK->Prop) (Q:VK):V->Hp->Prop:=fun x H1=>r x H1 Q
def tUn (r:V->Hp->VK->Prop) (ta:TE):TE:=fun σ H Q=>ta σ H (abb r Q)
inductive rI (C:Int->Int->Prop) (g:Int->Int->V) (x:V) (y:V) (H:Hp) (Q:VK):Prop
 | mk  (i j:_) (_:x = .int i) (_:y = .int j) (_:C i j) (_:Q (g i j:_) H)
inductive yD (g:Int->Int->V) (x:V) (y:V) (H:Hp) (Q:VK):Prop
 | mk  (i j:_) (_:x = .int i) (_:y = .int j) (_:Q (g i j:_) H)
inductive rU (g:Int->V) (x:V) (H:Hp) (Q:VK):Prop
 | mk  (i:_) (_:x = .int i) (_:Q (g i:_) H)
section
variable {X:Cx} {a b c:Expr} {ta tb tc:TE} {pos:Pos}
theorem Qf (ha:PE X a ta) (hb:PE X b tb) {R:V->V->Hp->Prop} (I:Inv X pins σ H s)
  (h:ta σ H fun x H1=>tb σ H1 fun y H2=>R x y H2) {Q:VS} {f:Value->Value->Sem Value}
  (hf:∀v u s2 x y H2,Inv X pins σ H2 s2->RelV x v->RelV y u->R x y H2->wpAny (model X.prog X.w) X.A (f v u) Q X.xe s2):
  wpAny (model X.prog X.w) X.A (eval a X.env) (fun v s₁=>wpAny (model X.prog X.w) X.A (eval b X.env) (fun u s₂=>wpAny (model X.prog X.w) X.A (f v u) Q X.xe s₂) X.xe s₁) X.xe s:=by
 refine aZ (ha pins s σ H _ I h) fun v s1 ⟨x,H1,I1,r1,q1⟩=>?_
 refine aZ (hb pins s1 σ H1 _ I1 q1) fun u s2 ⟨y,H2,I2,r2,q2⟩=>?_
 exact hf v u s2 x y H2 I2 r1 r2 q2
theorem NJ {f:Value->Value->Sem Value} {C:Int->Int->Prop} {g:Int->Int->Int}
  (rule:∀(i j:Int) (t u:Tok) (s:Shared) (Q:VS) (E:VS),C i j->Q (.int (g i j) s.toks) { s with toks:=s.toks+1 }->wpAny (model X.prog X.w) X.A (f (.int i t) (.int j u)) Q E s):
  i7 X f (rI C fun i j=> .int (g i j)):=by
 intro pins s σ H x y v u Q I rx ry h
 obtain ⟨i,j,rfl,rfl,hc,q⟩:=h
 obtain ⟨t,rfl⟩:=rx
 obtain ⟨t',rfl⟩:=ry
 exact rule i j t t' s _ _ hc ⟨.int (g i j),H,I.tok _,⟨_,Z⟩,q⟩
theorem Vb {f:Value->Value->Sem Value} {g:Int->Int->Int}
  (rule:∀(i j:Int) (t u:Tok) (s:Shared) (Q:VS) (E:VS),Q (.int (g i j) s.toks) { s with toks:=s.toks+1 }->wpAny (model X.prog X.w) X.A (f (.int i t) (.int j u)) Q E s):
  i7 X f (yD fun i j=> .int (g i j)):=by
 intro pins s σ H x y v u Q I rx ry h
 obtain ⟨i,j,rfl,rfl,q⟩:=h
 obtain ⟨t,rfl⟩:=rx
 obtain ⟨t',rfl⟩:=ry
 exact rule i j t t' s _ _ ⟨.int (g i j),H,I.tok _,⟨_,Z⟩,q⟩
theorem Mc {f:Value->Value->Sem Value} {g:Int->Int->Bool}
  (rule:∀(i j:Int) (t u:Tok) (s:Shared) (Q:VS) (E:VS),Q (.bool (g i j)) s->wpAny (model X.prog X.w) X.A (f (.int i t) (.int j u)) Q E s):
  i7 X f (yD fun i j=> .bl (g i j)):=by
 intro pins s σ H x y v u Q I rx ry h
 obtain ⟨i,j,rfl,rfl,q⟩:=h
 obtain ⟨t,rfl⟩:=rx
 obtain ⟨t',rfl⟩:=ry
 exact rule i j t t' s _ _ ⟨.bl (g i j),H,I,Z,q⟩
def Qg (i j:Int):Prop:=0<=j/\j<=1000000/\i.natAbs<2 ^ 64
def Me (i j:Int):Prop:=(-(2 ^ 64)<i/\i<2 ^ 64)\/(-(2 ^ 64)<j/\j<2 ^ 64)
theorem Me.ok {i j:Int} (h:Me i j):IntMulOk i j:=by
 rcases h with ⟨h1,h2⟩|⟨h1,h2⟩
 . exact .of_left (intBits_le_64 h1 h2)
 . exact .of_right (intBits_le_64 h1 h2)
theorem b9:i7 X (binaryOp .Add) (yD fun i j=> .int (i+j)):=Vb fun _ _ _ _ _ _ _ q=>add_int q
theorem jZ:i7 X (binaryOp .Sub) (yD fun i j=> .int (i-j)):=Vb fun _ _ _ _ _ _ _ q=>sub_int q
theorem gb:i7 X (binaryOp .Mult) (rI Me fun i j=> .int (i*j)):=NJ fun _ _ _ _ _ _ _ hc q=>mul_int q hc.ok
theorem jx:i7 X (binaryOp .Mod) (rI (fun _ j=>0<j) fun i j=> .int (i % j)):=NJ fun i j _ _ _ _ _ hc q=>by
 have h1:(0:Int)<j:=hc
 exact mod_int' (by omega) (by rw [Int.fmod_eq_emod_of_nonneg i (by omega)];exact q)
theorem k7:i7 X (binaryOp .Pow) (rI Qg fun i j=> .int (i ^ j.toNat)):=NJ fun _ _ _ _ _ _ _ hc q=>pow_int_small hc.1 hc.2.1 hc.2.2 q
theorem unI {f:Value->Sem Value} {g:Int->Int}
  (rule:∀(i:Int) (t:Tok) (s:Shared) (Q:VS) (E:VS),Q (.int (g i) s.toks) { s with toks:=s.toks+1 }->wpAny (model X.prog X.w) X.A (f (.int i t)) Q E s):
  U_ X f (rU fun i=> .int (g i)):=by
 intro pins s σ H x v Q I rx h
 obtain ⟨i,rfl,q⟩:=h
 obtain ⟨t,rfl⟩:=rx
 exact rule i t s _ _ ⟨.int (g i),H,I.tok _,⟨_,Z⟩,q⟩
theorem NK:U_ X (unaryOp .USub) (rU fun i=> .int (-i)):=unI fun _ _ _ _ _ q=>neg_int q
end
def Vc:V->V->Bool
 | .bL, .bL=>true | .bL, .int _=>true | .int _, .bL=>true | .bL, .bl _=>true | .bl _, .bL=>true | .bL, .str _=>true | .str _, .bL=>true
 | .int _, .int _=>true | .bl _, .bl _=>true | .str _, .str _=>true | .wc _, .wc _=>true
 | .int _, .str _=>true | .str _, .int _=>true | .bl _, .str _=>true | .str _, .bl _=>true
 | _,_=>false
inductive rEq (x:V) (y:V) (H:Hp) (Q:VK):Prop
 | mk  (_:Vc x y=true) (_:Q (.bl (decide (x=y))) H)
inductive rNe (x:V) (y:V) (H:Hp) (Q:VK):Prop
 | mk  (_:Vc x y=true) (_:Q (.bl (!decide (x=y))) H)
theorem KJ {i j:Int}:decide (V.int i=V.int j)=(i==j):=by
 rw [yc]
 simp
theorem NL {i j:Bool}:decide (V.bl i=V.bl j)=(i==j):=by
 rw [yc]
 simp
theorem KL {i j:Str}:decide (V.str i=V.str j)=(i==j):=by
 rw [yc]
 simp
theorem KN {i j:Array UInt8}:decide (V.wc i=V.wc j)=(i.toList==j.toList):=by
 rw [yc]
 cases i
 cases j
 simp
variable {op:CmpOp}
section
variable {X:Cx} {a b c:Expr} {ta tb tc:TE} {pos:Pos}
theorem cL {Q:VK} {k k':Bool} (I:Inv X pins σ H s) (q:Q (.bl k) H) (e:k=k'):EP X pins σ Q (.bool k') s:=by
 subst e
 exact ⟨.bl k,H,I,Z,q⟩
theorem dw:i7 X (compareOp .Eq) rEq:=by
 intro pins s σ H x y v u Q I rx ry h
 obtain ⟨hs,q⟩:=h
 cases x with
 | bL=>
   cases rx
   cases y with
   | bL=>cases ry;exact PySem.EqNone.eq_none_none (cL I q (by simp))
   | bl j=>cases ry;exact PySem.EqNone.eq_none_bool (cL I q (by simp))
   | int j=>obtain ⟨t',rfl⟩:=ry;exact PySem.EqNone.eq_none_int (cL I q (by simp))
   | str j=>obtain ⟨t',rfl⟩:=ry;exact PySem.EqNone.eq_none_str (cL I q (by simp))
   | _=>exact absurd (show false=true from hs) eX
 | bl i=>
   cases rx
   cases y with
   | bL=>cases ry;exact PySem.EqNone.eq_bool_none (cL I q (by simp))
   | bl j=>cases ry;exact eq_bool (cL I q NL)
   | str j=>obtain ⟨t',rfl⟩:=ry;exact PySem.EqMixed.eq_bool_str (cL I q (by simp))
   | _=>exact absurd (show false=true from hs) eX
 | int i=>
   obtain ⟨t,rfl⟩:=rx
   cases y with
   | bL=>cases ry;exact PySem.EqNone.eq_int_none (cL I q (by simp))
   | int j=>obtain ⟨t',rfl⟩:=ry;exact eq_int (cL I q KJ)
   | str j=>obtain ⟨t',rfl⟩:=ry;exact PySem.EqMixed.eq_int_str (cL I q (by simp))
   | _=>exact absurd (show false=true from hs) eX
 | str i=>
   obtain ⟨t,rfl⟩:=rx
   cases y with
   | bL=>cases ry;exact PySem.EqNone.eq_str_none (cL I q (by simp))
   | bl j=>cases ry;exact PySem.EqMixed.eq_str_bool (cL I q (by simp))
   | int j=>obtain ⟨t',rfl⟩:=ry;exact PySem.EqMixed.eq_str_int (cL I q (by simp))
   | str j=>obtain ⟨t',rfl⟩:=ry;exact eq_str (cL I q KL)
   | _=>exact absurd (show false=true from hs) eX
 | wc i=>
   obtain ⟨t,rfl⟩:=rx
   cases y with
   | wc j=>obtain ⟨t',rfl⟩:=ry;exact PySem.W.eq_bytes (cL I q KN)
   | _=>exact absurd (show false=true from hs) eX
 | _=>cases y <;> exact absurd (show false=true from hs) eX
theorem Ye:i7 X (compareOp .NotEq) rNe:=by
 intro pins s σ H x y v u Q I rx ry h
 obtain ⟨hs,q⟩:=h
 cases x with
 | bL=>
   cases rx
   cases y with
   | bL=>cases ry;exact PySem.EqNone.ne_none_none (cL I q (by simp))
   | bl j=>cases ry;exact PySem.EqNone.ne_none_bool (cL I q (by simp))
   | int j=>obtain ⟨t',rfl⟩:=ry;exact PySem.EqNone.ne_none_int (cL I q (by simp))
   | str j=>obtain ⟨t',rfl⟩:=ry;exact PySem.EqNone.ne_none_str (cL I q (by simp))
   | _=>exact absurd (show false=true from hs) eX
 | bl i=>
   cases rx
   cases y with
   | bL=>cases ry;exact PySem.EqNone.ne_bool_none (cL I q (by simp))
   | bl j=>cases ry;exact ne_bool (cL I q (kG not NL))
   | str j=>obtain ⟨t',rfl⟩:=ry;exact PySem.EqMixed.ne_bool_str (cL I q (by simp))
   | _=>exact absurd (show false=true from hs) eX
 | int i=>
   obtain ⟨t,rfl⟩:=rx
   cases y with
   | bL=>cases ry;exact PySem.EqNone.ne_int_none (cL I q (by simp))
   | int j=>obtain ⟨t',rfl⟩:=ry;exact ne_int (cL I q (kG not KJ))
   | str j=>obtain ⟨t',rfl⟩:=ry;exact PySem.EqMixed.ne_int_str (cL I q (by simp))
   | _=>exact absurd (show false=true from hs) eX
 | str i=>
   obtain ⟨t,rfl⟩:=rx
   cases y with
   | bL=>cases ry;exact PySem.EqNone.ne_str_none (cL I q (by simp))
   | bl j=>cases ry;exact PySem.EqMixed.ne_str_bool (cL I q (by simp))
   | int j=>obtain ⟨t',rfl⟩:=ry;exact PySem.EqMixed.ne_str_int (cL I q (by simp))
   | str j=>obtain ⟨t',rfl⟩:=ry;exact ne_str (cL I q (kG not KL))
   | _=>exact absurd (show false=true from hs) eX
 | wc i=>
   obtain ⟨t,rfl⟩:=rx
   cases y with
   | wc j=>obtain ⟨t',rfl⟩:=ry;exact PySem.W.ne_bytes (cL I q (kG not KN))
   | _=>exact absurd (show false=true from hs) eX
 | _=>cases y <;> exact absurd (show false=true from hs) eX
theorem lJ:i7 X (compareOp .Lt) (yD fun i j=> .bl (decide (i<j))):=Mc fun _ _ _ _ _ _ _ q=>lt_int q
theorem RS:i7 X (compareOp .LtE) (yD fun i j=> .bl (decide (i<=j))):=Mc fun _ _ _ _ _ _ _ q=>le_int q
theorem jj:i7 X (compareOp .Gt) (yD fun i j=> .bl (decide (j<i))):=Mc fun _ _ _ _ _ _ _ q=>gt_int q
theorem Ff:i7 X (compareOp .GtE) (yD fun i j=> .bl (decide (j<=i))):=Mc fun _ _ _ _ _ _ _ q=>ge_int q
theorem NN:i7 X (compareOp .In) (fun x y H Q=>∃i j,x = .str i/\y = .str j/\Q (.bl (!(Builtin.Str.occurrences j i 0 j.length 1).isEmpty)) H):=by
 intro pins s σ H x y v u Q I rx ry h
 obtain ⟨i,j,rfl,rfl,q⟩:=h
 obtain ⟨t,rfl⟩:=rx
 obtain ⟨t',rfl⟩:=ry
 exact in_str (cL I q rfl)
theorem aW (b:Expr) (h:op ≠ .In:=by decide) (h2:op ≠ .NotIn:=by decide):behindInMarks op b=false:=by
 have e1:(op==CmpOp.In)=false:=by cases op <;> first|rfl|exact absurd rfl h
 have e2:(op==CmpOp.NotIn)=false:=by cases op <;> first|rfl|exact absurd rfl h2
 cases b <;> simp [behindInMarks,e1,e2]
inductive NO (Q:Bool->Hp->Prop) (x:V) (H':Hp):Prop
 | mk  (k:_) (_:x = .bl k) (_:Q k H')
def Mf (t:TE):TT:=fun σ H Q=>t σ H (NO Q)
inductive NP (r':R2) (tc:TE) (σ:St) (Q:VK) (y:V) (z:V) (H3:Hp):Prop
 | mk  (k:_) (_:z = .bl k) (_:(if k=true then tc σ H3 fun w' H4=>r' y w' H4 Q else Q (.bl false) H3))
def NQ (r:R2) (r':R2) (tc:TE) (σ:St) (Q:VK) (x:V):V->Hp->Prop:=fun y H2=>r x y H2 (NP r' tc σ Q y)
def S0 (r:R2) (r':R2) (tb:TE) (tc:TE) (σ:St) (Q:VK):V->Hp->Prop:=fun x H1=>tb σ H1 (NQ r r' tc σ Q x)
def Vd (r r':R2) (ta tb tc:TE):TE:=fun σ H Q=>ta σ H (S0 r r' tb tc σ Q)
theorem rD:(sizeLine:Nat)<2 ^ 63:=by rw [ji];decide
theorem Mg:i7 X (binaryOp .Add) (fun x y H Q=>∃i j,x = .str i/\y = .str j/\i.length+j.length<=sizeLine/\Q (.str (i++j)) H):=by
 intro pins s σ H x y v u Q I rx ry h
 obtain ⟨i,j,rfl,rfl,hz,q⟩:=h
 obtain ⟨t,rfl⟩:=rx
 obtain ⟨t',rfl⟩:=ry
 exact add_str (fun t' tk=>⟨.str (i++j),H,I.tok _,⟨_,Z⟩,q⟩) hz
theorem vals1 {x:V} (r:Vals [x] us):∃u,us=[u]/\RelV x u:=by
 cases r with
 | cons r1 r2=>cases r2;exact ⟨_,Z,r1⟩
theorem vals2 {x:V} (r:Vals [x,y] us):∃u w',us=[u,w']/\RelV x u/\RelV y w':=by
 cases r with
 | cons r1 r2=>
   cases r2 with
   | cons r3 r4=>cases r4;exact ⟨_,_,Z,r1,r3⟩
theorem wQ (hc:X.calm=true):iA X (.builtin "min") (fun xs H Q=>∃i j,xs=[.int i, .int j]/\Q (.int (if j<i then j else i)) H):=by
 intro pins s σ H xs us Q I r h
 obtain ⟨i,j,rfl,q⟩:=h
 obtain ⟨u,w',rfl,⟨t,rfl⟩,⟨t',rfl⟩⟩:=vals2 r
 refine min_two_ints (I.ok.hd hc) fun h' tk k=>⟨_,H,I.kept k,?_,q⟩
 by_cases hj:j<i
 . rw [aA hj,aA hj];exact ⟨_,Z⟩
 . rw [az hj,az hj];exact ⟨_,Z⟩
theorem NR:iA X (.type "int") (fun xs H Q=>(∃i,xs=[.int i]/\Q (.int i) H)\/∃k,xs=[.bl k]/\Q (.int (if k then 1 else 0)) H):=by
 intro pins s σ H xs us Q I r h
 rcases h with ⟨i,rfl,q⟩|⟨k,rfl,q⟩
 . obtain ⟨u,rfl,t,rfl⟩:=vals1 r
   exact call_int_int ⟨.int i,H,I,⟨_,Z⟩,q⟩
 . obtain ⟨u,rfl,r1⟩:=vals1 r
   cases r1
   exact call_int_bool ⟨.int (if k then 1 else 0),H,I.tok _,⟨_,Z⟩,q⟩
end
structure yZ (h:Heap) (x dx C:Addr) (mA:SO):Prop where
 obj:h.get? x=some (PySem.W.instObj C dx)
 ns:h.Ns1 dx mA
 ne:dx≠x
theorem NS {mA:SO} (n:h.Ns1 dx mA):∃od,h.get? dx=some od/\∀name,PySem.W.lookIn name od=some (mA name):=by
 obtain ⟨o,es,ep,ho,hd,hk,_,hm⟩:=n
 refine ⟨o,ho,fun name=>?_⟩
 have e:=hm name
 unfold nsFind findBy at e
 rw [<-Array.find?_toList] at e
 unfold PySem.W.lookIn
 rw [hd]
 dsimp only
 split
 . rename_i y q
   rw [q] at e
   exact kG some e
 . rename_i q
   rw [q] at e
   have a:es.toList.any (·.refKey)=false:=by
    rw [List.any_eq_false]
    intro y hy
    obtain ⟨z,t,hkey⟩:=hk y (Array.mem_toList_iff.mp hy)
    simp [DictEntry.refKey,hkey]
   have a':¬ es.toList.any (·.refKey)=true:=by rw [a];exact eX
   rw [az a']
   exact kG some e
variable {C:Addr}
theorem yZ.look {x dx:Addr} {mA:SO} (I:yZ h x dx C mA):∃od,PySem.W.InstAt h x (PySem.W.instObj C dx) C (some od)/\∀name,PySem.W.lookIn name od=some (mA name):=
 let ⟨od,ho,hl⟩:=NS I.ns
 ⟨od,⟨I.obj,Z,Z,ho⟩,hl⟩
variable {kw:List (Str×Value)}
section
variable {prog:Program} {w:World} {A:Around} {E:VS} {s:Shared} {K:Fg} {x dx C f:Addr} {mA:SO} {name:Str} {v:Value}
theorem get_map {expr:Bool} {Q:VS} (X:K.In s.heap) (I:yZ s.heap x dx C mA) (hg:PySem.W.plainGet K C name=true) (hh:PySem.W.hasDictIn K C=true)
  (ha:PySem.W.findIn K (.ref C) name=some none) (hv:mA name=some v) (hv':PySem.W.handedIn v=true) (h:Q v { s with toks:=s.toks+1 }):
  wpAny (model prog w) A (getAttr (.ref x) name expr) Q E s:=by
 obtain ⟨od,J,hl⟩:=I.look
 exact PySem.W.get_value X J (PySem.W.plainGet_of hg).1 (PySem.W.findObj_own hh ha rfl (by rw [hl,hv])) hv' h
theorem Qh {pl:Sem Bool} {Q:Value×List Value->Shared->Prop} (X:K.In s.heap) (I:yZ s.heap x dx C mA) (hg:PySem.W.plainGet K C name=true)
  (hf:PySem.W.findIn K (.ref C) name=some (some (.ref f))) (ht:PySem.W.isFn K (.ref f)=true) (hv:mA name=none) (h:Q (.ref f,[.ref x]) s):
  wpAny (model prog w) A (getMethod (.ref x) name pl) Q E s:=by
 obtain ⟨od,J,hl⟩:=I.look
 exact PySem.W.method_fn X J (PySem.W.plainGet_of hg).1 (PySem.W.plainGet_of hg).2 hf (lG.mp ht) (by show (PySem.W.lookIn name od).map (·.isSome)=some false;rw [hl,hv];rfl) h
theorem S3 {ns:List Str} (X:K.In s.heap) (I:yZ s.heap x dx C mA)
  (hs:PySem.W.findIn K (.ref C) "__setattr__"=some (some (.builtin "object.__setattr__"))) (hp:PySem.W.plainOver K C=true) (ht:PySem.W.takerIn K C name=some none) (hh:PySem.W.hasDictIn K C=true)
  (hw:PySem.Within mA ns) (hsz:ns.length<=sizeLine)
  (h:∀h',yZ h' x dx C (fun y=>if y=name then some v else mA y)->Heap.SameBut dx s.heap h'->Q () { s with heap:=h',toks:=s.toks+2 }):
  wpAny (model prog w) A (setAttr (.ref x) name v) Q E s:=by
 obtain ⟨od,J,hl⟩:=I.look
 refine PySem.W.set_plain X J hs (PySem.W.osa_open (s:={ s with toks:=s.toks+1 }) (r:=none) X J hp ht fun b=>?_)
 obtain ⟨cd,hc,hd'⟩:=PySem.W.any_some hh
 have hx:s.heap.get? x=some ⟨.ref C,some dx, .plain,#[]⟩:=I.obj
 refine ay (aS (ay (ay (wpAny_loadPart hx (ay (PySem.W.Looks.here (s:={ s with toks:=s.toks+1 }) (PySem.W.looks_clsIn X hc) ?_))))))
 rw [hd']
 refine aS (a:=some dx) (ay (aS (ay ?_)))
 refine wpAny_nsSet1 (s:={ s with toks:=s.toks+1 }) I.ns fun h' hn2 hs2=>?_
 obtain ⟨oD,esD,epD,hoD,hdD,hcD⟩:=hn2.count (PySem.Within.cons name v hw)
 refine ay (wpAny_lookBehind hoD (by rw [hdD];exact pastItsLine_dict (fH hcD (by rw [jL];omega))) ?_)
 exact aS (h _ ⟨(hs2.2 _ (cD I.ne)).trans I.obj,hn2,I.ne⟩ hs2)
theorem Qi {R:Result->Shared->Prop} {vs:List Value} (X:K.In s.heap) (hm:PySem.W.makesIn K C=true)
  (hi:PySem.W.findIn K (.ref C) "__init__"=some (some (.ref f))) (hf:PySem.W.typeIn K (.ref f)=some (.type "function"))
  (h:codeAny (model prog w) (A.under (.builtin "type.__call__" ⟨.ref C::vs,kw⟩)) (.call (.ref f) ⟨.ref (s.heap.objs.size+1)::vs,kw⟩) (PySem.W.InitBack (s.heap.objs.size+1) R)
    { s with heap:=(s.heap.push PySem.W.emptyDict).push (PySem.W.instObj C s.heap.objs.size) }):
  codeAny (model prog w) A (.call (.ref C) ⟨vs,kw⟩) R s:=by
 obtain ⟨hh,g,d,t,os⟩:=s
 exact PySem.W.make_core (PySem.W.makes_of X hm) (PySem.W.looks_findIn X hi) (fun self=>PySem.W.bind_fn X self hf) (.inl rfl) h
end
def aQ (f:Str) (v:V):List (Str×V)->List (Str×V)
 | []=>[(f,v)]
 | (g,x)::r=>if g=f then (g,v)::r else (g,x)::aQ f v r
theorem yE (f g:Str) (v:V):∀fs:List (Str×V),(aQ f v fs).lookup g=if g=f then some v else fs.lookup g
 | []=>by
   show List.lookup g [(f,v)]=_
   by_cases h:g=f
   . have hb:(g==f)=true:=lG.mpr h
     simp only [List.lookup,hb,aA h]
   . have hb:(g==f)=false:=B7.mpr h
     simp only [List.lookup,hb,az h]
 | (k,x)::r=>by
   have ih:=yE f g v r
   rw [show aQ f v ((k,x)::r)=(if k=f then (k,v)::r else (k,x)::aQ f v r) from rfl]
   by_cases hk:k=f
   . rw [aA hk]
     by_cases h:g=k
     . have hb:(g==k)=true:=lG.mpr h
       simp only [List.lookup,hb,aA (h.trans hk)]
     . have hb:(g==k)=false:=B7.mpr h
       simp only [List.lookup,hb,az (fun e:g=f=>h (e.trans hk.symm))]
   . rw [az hk]
     by_cases h:g=k
     . have hb:(g==k)=true:=lG.mpr h
       simp only [List.lookup,hb,az (fun e:g=f=>hk (h.symm.trans e))]
     . have hb:(g==k)=false:=B7.mpr h
       simp only [List.lookup,hb]
       exact ih
theorem wR (f:Str) (v:V):∀fs:List (Str×V),f∈(aQ f v fs).map (·.1)/\∀g,g∈fs.map (·.1)->g∈(aQ f v fs).map (·.1)
 | []=>⟨by simp [aQ],fun g h=>by simp at h⟩
 | (k,x)::r=>by
   obtain ⟨i1,i2⟩:=wR f v r
   rw [show aQ f v ((k,x)::r)=(if k=f then (k,v)::r else (k,x)::aQ f v r) from rfl]
   by_cases hk:k=f
   . rw [aA hk]
     subst hk
     exact ⟨by simp,fun g h=>by simpa using h⟩
   . rw [az hk]
     refine ⟨?_,fun g h=>?_⟩
     . rw [cj]
       exact cK _ i1
     . rw [cj] at h ⊢
       rcases c8.mp h with e|e
       . exact c8.mpr (.inl e)
       . exact cK _ (i2 g e)
theorem yF (f:Str) (v:V):∀fs:List (Str×V),(aQ f v fs).length<=fs.length+1
 | []=>by simp [aQ]
 | (k,x)::r=>by
   have ih:=yF f v r
   rw [show aQ f v ((k,x)::r)=(if k=f then (k,v)::r else (k,x)::aQ f v r) from rfl]
   by_cases hk:k=f
   . rw [aA hk,jL,jL];omega
   . rw [az hk,jL,jL];omega
theorem kU.some_of {v:V} {o:Option Value} (r:kU (some v) o):∃u,o=some u/\RelV v u:=by
 cases o with
 | none=>exact (show False from r).elim
 | some u=>exact ⟨u,Z,r⟩
theorem kU.none_of {o:Option Value} (r:kU none o):o=none:=by
 cases o with
 | none=>rfl
 | some u=>exact (show False from r).elim
theorem NT {v:V} (r:RelV v u):PySem.W.handedIn u=true:=by
 cases v with
 | bL=>cases (show u=Value.none from r);rfl
 | bl b=>cases (show u=Value.bool b from r);rfl
 | int i=>obtain ⟨t,e⟩:=(show ∃t,u=Value.int i t from r);cases e;rfl
 | str x=>obtain ⟨t,e⟩:=(show ∃t,u=Value.str x t from r);cases e;rfl
 | wc b=>obtain ⟨t,e⟩:=(show ∃t,u=Value.bytes b t from r);cases e;rfl
 | RH b=>obtain ⟨t,e⟩:=(show ∃t,u=Value.float b t from r);cases e;rfl
 | ref a=>cases (show u=Value.ref a from r);rfl
 | ty n=>cases (show u=Value.type n from r);rfl
section
variable {P:Program} {w:World} {H H':Hp} {h h':Heap} {a C dx:Addr} {fs fs':List (Str×V)}
theorem Cg (hok:f_ P w H h) (e:H a=some (.ins C dx fs)):∃mA,yZ h a dx C mA/\(∀f,kU (fs.lookup f) (mA f))/\PySem.Within mA (fs.map (·.1))/\fs.length<=1000/\H dx=some (.own a):=by
 obtain ⟨d,z,ne,ob,mA,n,r,q⟩:=(show dS P w H h a (.ins C dx fs) from hok a _ e)
 exact ⟨mA,⟨ob,n,ne⟩,r,q,z,d⟩
end
structure m7 (K:Fg) (C:Addr):Prop where
 pg:PySem.W.plainGet K C Str.empty=true
 hd:PySem.W.hasDictIn K C=true
 po:PySem.W.plainOver K C=true
 sa:PySem.W.findIn K (.ref C) "__setattr__"=some (some (.builtin "object.__setattr__"))
theorem m7.get (c:m7 K C) (f:Str):PySem.W.plainGet K C f=true:=c.pg
def dU (K:Fg) (C:Addr) (f:Str):Prop:=PySem.W.findIn K (.ref C) f=some none
theorem dU.taker {f:Str} (n:dU K C f):PySem.W.takerIn K C f=some none:=by
 unfold PySem.W.takerIn
 rw [show PySem.W.findIn K (.ref C) f=some none from n]
 rfl
structure Meth (K:Fg) (C:Addr) (m:Str) (f:Addr):Prop where
 at_:PySem.W.findIn K (.ref C) m=some (some (.ref f))
 fn:PySem.W.isFn K (.ref f)=true
 kp:PySem.W.keepIn K (.ref f)=true
variable {env:Env}
section
variable {X:Cx} {pins:AO} {σ:St} {H:Hp} {s:Shared} {a C dx:Addr} {fs:List (Str×V)} {f:Str} {v:V} {A:Around} {E:VS}
theorem Al {b:Bool} {Q:VS} (I:Inv X pins σ H s) (e:H a=some (.ins C dx fs)) (c:m7 X.K C) (n:dU X.K C f) (l:fs.lookup f=some v)
  (h:∀u s',Inv X pins σ H s'->RelV v u->Q u s'):wpAny (model X.prog X.w) A (getAttr (.ref a) f b) Q E s:=by
 obtain ⟨mA,O,r,_,_,_⟩:=Cg I.hok e
 obtain ⟨u,hu,ru⟩:=kU.some_of (v:=v) (o:=mA f) (by rw [<-l];exact r f)
 exact get_map I.qM O (c.get f) c.hd n hu (NT ru) (h u _ (I.tok _) ru)
theorem Am {m:Str} {g:Addr} {pl:Sem Bool} {Q:Value×List Value->Shared->Prop} (I:Inv X pins σ H s) (e:H a=some (.ins C dx fs)) (c:m7 X.K C) (k:Meth X.K C m g) (l:fs.lookup m=none)
  (h:Q (.ref g,[.ref a]) s):wpAny (model X.prog X.w) A (getMethod (.ref a) m pl) Q E s:=by
 obtain ⟨mA,O,r,_,_,_⟩:=Cg I.hok e
 have hn:mA m=none:=kU.none_of (by rw [<-l];exact r m)
 exact Qh I.qM O (c.get m) k.at_ k.fn hn h
theorem An (I:Inv X pins σ H s) (e:H a=some (.ins C dx fs)) (c:m7 X.K C) (n:dU X.K C f) (hl:fs.length<1000) (ry:RelV y u)
  (h:∀s',Inv X pins σ (upd H a (.ins C dx (aQ f y fs))) s'->Q () s'):wpAny (model X.prog X.w) A (setAttr (.ref a) f u) Q E s:=by
 obtain ⟨mA,O,r,wi,_,ho⟩:=Cg I.hok e
 have hz:(fs.map (·.1)).length<=sizeLine:=by rw [aC,ji];omega
 refine S3 I.qM O c.sa c.po n.taker c.hd wi hz fun h' O' sb=>h _ ?_
 have hd:∃o,h'.get? dx=some o:=let ⟨o,_,_,e',_⟩:=O'.ns;⟨o,e'⟩
 refine I.write (x:=a) (e:=dx) (by rw [e];exact True.intro) (.inr ho) (fun b q hb z=>(sb.2 b hb).trans z) hd ?_
 refine ⟨by rw [av O.ne];exact ho,?_,O.ne,O'.obj,_,O'.ns,fun g=>?_,fun g hg=>?_⟩
 . have:=yF f y fs;omega
 . show kU ((aQ f y fs).lookup g) (if g=f then some u else mA g)
   rw [yE]
   by_cases q:g=f
   . rw [aA q,aA q];exact ry
   . rw [az q,az q];exact r g
 . by_cases q:g=f
   . rw [q];exact (wR f y fs).1
   . refine (wR f y fs).2 g (wi g fun z=>hg ?_)
     show (if g=f then some u else mA g)=none
     rw [az q];exact z
theorem Inv.made (I:Inv X pins σ H s):Inv X pins σ (upd (upd H s.heap.objs.size (.own (s.heap.objs.size+1))) (s.heap.objs.size+1) (.ins C s.heap.objs.size []))
  { s with heap:=(s.heap.push PySem.W.emptyDict).push (PySem.W.instObj C s.heap.objs.size) }:=by
 have e1:(s.heap.push PySem.W.emptyDict).get? s.heap.objs.size=some PySem.W.emptyDict:=dP s.heap rfl
 have e2:((s.heap.push PySem.W.emptyDict).push (PySem.W.instObj C s.heap.objs.size)).get? (s.heap.objs.size+1)=some (PySem.W.instObj C s.heap.objs.size):=by
  have:=dP (s.heap.push PySem.W.emptyDict) (o:=PySem.W.instObj C s.heap.objs.size) rfl
  rwa [kD] at this
 have e3:(s.heap.push PySem.W.emptyDict).Ns s.heap.objs.size (fun _=>none):=⟨PySem.W.emptyDict,#[],_,e1,Z,(fun e he=>absurd he (by simp)),fun _=>rfl⟩
 have I1:=I.laid (a:=s.heap.objs.size) (o:= .own (s.heap.objs.size+1)) (h':=s.heap.push PySem.W.emptyDict) (t':=s.toks) (fun b u q=>bU _ q) (aK _) ⟨_,e1⟩
 refine I1.laid (a:=s.heap.objs.size+1) (o:= .ins C s.heap.objs.size []) (t':=s.toks) (fun b u q=>bU _ q) (Nat.le_of_eq (kD _ _)) ?_
 have ne:s.heap.objs.size≠s.heap.objs.size+1:=ef (Nat.lt_succ_self _)
 refine ⟨by rw [av ne,ah],gH _,ne,e2,fun _=>none,(Heap.Ns1.of_empty e3).at fun o q=>bU _ q,fun _=>True.intro,fun y hy=>absurd rfl hy⟩
theorem S4 {prog:Program} {w:World} {f:Str} {s:Shared} {Q:VS} (hb:attributeBase e f env (eval e env)=eval e env)
  (h:wpAny (model prog w) A (eval e env) (fun o s₁=>wpAny (model prog w) A (getAttr o f true) Q E s₁) E s):wpAny (model prog w) A (eval (.Attribute e f pos) env) Q E s:=
 Attribute_any_ h (by rw [arm_eval_Attribute,hb])
end
inductive Yg (K:Fg) (f:Str) (Q:VK) (x:V) (H1:Hp):Prop
 | mk  (a C dx fs v:_) (_:x = .ref a) (_:H1 a=some (.ins C dx fs)) (_:m7 K C) (_:dU K C f) (_:fs.lookup f=some v) (_:Q v H1)
def Ve (K:Fg) (ta:TE) (f:Str):TE:=fun σ H Q=>ta σ H (Yg K f Q)
inductive S7 (K:Fg) (f:Str) (D:Ends) (σ:St) (y:V) (x:V) (H2:Hp):Prop
 | mk  (a C dx fs:_) (_:x = .ref a) (_:H2 a=some (.ins C dx fs)) (_:m7 K C) (_:dU K C f) (_:fs.length<1000) (_:D.nx σ (upd H2 a (.ins C dx (aQ f y fs))))
def Yh (K:Fg) (ta:TE) (f:Str) (D:Ends) (σ:St):V->Hp->Prop:=fun y H1=>ta σ H1 (S7 K f D σ y)
def Vf (K:Fg) (ta tv:TE) (f:Str):TS:=fun D σ H=>tv σ H (Yh K ta f D σ)
def FQ (X:Cx) (op:Operator) (rd:V->V->Hp->VK->Prop):Prop:=
 ∀(pins:AO) (s:Shared) (σ:St) (H:Hp) (x y:V) (u v:Value) (Q:VK),Inv X pins σ H s->RelV x u->RelV y v->rd x y H Q->wpAny (model X.prog X.w) X.A (inplaceOp op u v) (EP X pins σ Q) X.xe s
inductive Mh (f:Str) (D:Ends) (σ:St) (a:Addr) (C:Addr) (z:V) (H3:Hp):Prop
 | mk  (Vg fs':_) (_:H3 a=some (.ins C Vg fs')) (_:fs'.length<1000) (_:D.nx σ (upd H3 a (.ins C Vg (aQ f z fs'))))
def Mi (rd:V->V->Hp->VK->Prop) (f:Str) (D:Ends) (σ:St) (a:Addr) (C:Addr) (v:V):V->Hp->Prop:=fun y H2=>rd v y H2 (Mh f D σ a C)
inductive Qj (K:Fg) (tv:TE) (rd:V->V->Hp->VK->Prop) (f:Str) (D:Ends) (σ:St) (x:V) (H1:Hp):Prop
 | mk  (a C dx fs v:_) (_:x = .ref a) (_:H1 a=some (.ins C dx fs)) (_:m7 K C) (_:dU K C f) (_:fs.lookup f=some v) (_:tv σ H1 (Mi rd f D σ a C v))
def KO (K:Fg) (ta tv:TE) (rd:V->V->Hp->VK->Prop) (f:Str):TS:=fun D σ H=>ta σ H (Qj K tv rd f D σ)
variable {rd:V->V->Hp->VK->Prop}
section
variable {X:Cx} {o e value:Expr} {f:Str} {pos pos' tpos:Pos} {ta tv:TE}
theorem Vh (he:PE X e ta) (hb:attributeBase e f X.env (eval e X.env)=eval e X.env):PE X (.Attribute e f pos) (Ve X.K ta f):=by
 intro pins s σ H Q I h
 refine S4 hb (aZ (he pins s σ H _ I h) fun u s1 ⟨x,H1,I1,rx,a,C,dx,fs,v,ex,ea,c,n,l,q⟩=>?_)
 subst ex
 obtain rfl:u=Value.ref a:=rx
 exact Al I1 ea c n l fun u' s2 I2 ru=>⟨v,H1,I2,ru,q⟩
theorem Vi (ha:PE X o ta) (hv:PE X value tv) (hs:swapsWith value (some (.Attribute o f pos')) pos.line X.env=pure false):PS X (.Assign [.Attribute o f pos'] value pos) (Vf X.K ta tv f):=by
 intro pins s σ H D I h
 refine plainObj_wpAny_Assign_Attribute (aZ (hv pins s σ H _ I h) fun u s1 ⟨y,H1,I1,ry,q⟩=>aZ (ha pins s1 σ H1 _ I1 q) fun ov s2 ⟨x,H2,I2,rx,a,C,dx,fs,ex,ea,c,n,l,q2⟩=>?_) hs
 subst ex
 obtain rfl:ov=Value.ref a:=rx
 exact An I2 ea c n l ry fun s3 I3=>⟨σ,_,I3,q2⟩
theorem NU {op:Operator} (ha:PE X o ta) (hv:PE X value tv) (hop:FQ X op rd):PS X (.AugAssign (.Attribute o f tpos) op value pos) (KO X.K ta tv rd f):=by
 intro pins s σ H D I h
 refine wpAny_AugAssign_AttributeAny (aZ (ha pins s σ H _ I h) fun ov s1 ⟨x,H1,I1,rx,a,C,dx,fs,v,ex,ea,c,n,l,q⟩=>?_)
 subst ex
 obtain rfl:ov=Value.ref a:=rx
 refine Al I1 ea c n l fun u s2 I2 ru=>aZ (hv pins s2 σ H1 _ I2 q) fun w3 s3 ⟨y,H2,I3,ry,q3⟩=>aZ (hop pins s3 σ H2 v y u w3 _ I3 ru ry q3) fun w4 s4 ⟨z,H3,I4,rz,Vg,fs',ea',l',q4⟩=>?_
 exact An I4 ea' c n l' rz fun s5 I5=>⟨σ,_,I5,q4⟩
inductive abc (x:V) (y:V) (H:Hp) (Q:VK):Prop
 | mk  (i j:_) (_:x = .int i) (_:y = .int j) (_:Q (.int (i+j)) H)
inductive abd (x:V) (y:V) (H:Hp) (Q:VK):Prop
 | mk  (i j:_) (_:x = .int i) (_:y = .int j) (_:Q (.int (i-j)) H)
theorem Vj:FQ X .Add abc:=by
 rintro pins s σ H x y u v Q I rx ry ⟨i,j,rfl,rfl,q⟩
 obtain ⟨t,rfl⟩:=(show ∃t,u=Value.int i t from rx)
 obtain ⟨t',rfl⟩:=(show ∃t',v=Value.int j t' from ry)
 exact PyProof.Rows.iadd_int ⟨.int (i+j),H,I.tok _,⟨_,Z⟩,q⟩
theorem FT:FQ X .Sub abd:=by
 rintro pins s σ H x y u v Q I rx ry ⟨i,j,rfl,rfl,q⟩
 obtain ⟨t,rfl⟩:=(show ∃t,u=Value.int i t from rx)
 obtain ⟨t',rfl⟩:=(show ∃t',v=Value.int j t' from ry)
 exact PyProof.Rows.isub_int ⟨.int (i-j),H,I.tok _,⟨_,Z⟩,q⟩
end
section
variable {X:Cx} {pins:AO} {σ:St} {H:Hp} {s:Shared} {A:Around} {E:VS} {Q:VS} {c:Value} {b:Bool}
end
structure cW (k:Nat) (A:Around):Prop where
 hd:A.handled=none
 dp:A.depth+3*k+5<recursionLimit
 un:A.units+16*k+200<cLine
theorem cW.mono {k:Nat} {A:Around} (r:cW k A) (h:j<=k):cW j A:=⟨r.hd,by have:=r.dp;omega,by have:=r.un;omega⟩
theorem cW.deeper {k:Nat} {A:Around} (r:cW (k+1) A) (env:Env):cW k (A.deeper env):=
 ⟨r.hd,by have:=r.dp;show A.depth+1+3*k+5<_;omega,by have:=r.un;show A.units+3+16*k+200<_;omega⟩
theorem Mj {A:Around}:(A.under (.builtin "type.__call__" ⟨.ref C::us,kw⟩)).depth=A.depth+1:=by
 first|rfl|simp [Around.under,Code.weight,Code.isCreation,Code.isGuard,Code.isCaller,Code.frames,Code.isFrame,guardIds]
theorem Ml {A:Around}:(A.under (.builtin "type.__call__" ⟨.ref C::us,kw⟩)).units=A.units+1:=by
 first|rfl|simp [Around.under,Code.cUnits,Code.frames,Code.isFrame]
theorem cW.make {k:Nat} {A:Around} (r:cW (k+1) A) (C:Addr) (us:List Value) (kw:List (Str×Value)):cW k (A.under (.builtin "type.__call__" ⟨.ref C::us,kw⟩)):=
 ⟨r.hd,by have:=r.dp;rw [Mj];omega,by have:=r.un;rw [Ml];omega⟩
theorem cW.depth {k:Nat} {A:Around} (r:cW k A):A.depth<recursionLimit:=by have:=r.dp;omega
theorem cW.units {k:Nat} {A:Around} (r:cW k A):A.units+64<cLine:=by have:=r.un;omega
def qm:TA:=fun _ H Q=>Q [] H
def Qk (Q:List V->Hp->Prop) (x:V):List V->Hp->Prop:=fun xs H2=>Q (x::xs) H2
def Vk (tr:TA) (σ:St) (Q:List V->Hp->Prop):V->Hp->Prop:=fun x H1=>tr σ H1 (Qk Q x)
def Fi (ta:TE) (tr:TA):TA:=fun σ H Q=>ta σ H (Vk tr σ Q)
section
variable {X:Cx} {e:Expr} {es:List Expr} {te:TE} {t:TA} {pos:Pos}
theorem NV:PA X [] qm:=fun _ _ _ _ H Q I h=>Calls.spliced_nil ⟨[],H,I, .nil,h⟩
theorem KP (ha:PE X e te) (hr:PA X es t) (hs:starEach (e::es) X.env=(false,eval e X.env)::starEach es X.env:=by rfl):PA X (e::es) (Fi te t):=by
 intro pos pins s σ H Q I h
 rw [hs]
 show wpAny _ _ (spliced ((false,eval e X.env)::backTo pos (starEach es X.env))) _ _ s
 refine Calls.spliced_cons (aZ (ha pins s σ H _ I h) fun u s1 ⟨x,H1,I1,r1,q1⟩=>?_)
 exact aZ (hr pos pins s1 σ H1 _ I1 q1) fun us s2 ⟨xs,H2,I2,r2,q2⟩=>⟨x::xs,H2,I2, .cons r1 r2,q2⟩
inductive Yi (Q:VK) (xs:List V) (H1:Hp):Prop
 | mk  (_:xs.length<=sizeLine) (_:∀p,H1 p=none->Q (.ref p) (upd H1 p (.tup xs)))
def abe (t:TA):TE:=fun σ H Q=>t σ H (Yi Q)
inductive Yj (Q:VK) (xs:List V) (H1:Hp):Prop
 | mk  (_:xs.length<=sizeLine) (_:∀p,H1 p=none->Q (.ref p) (upd H1 p (.lst xs)))
def abf (t:TA):TE:=fun σ H Q=>t σ H (Yj Q)
end
abbrev Sp:=List V->Hp->VK->XK->Prop
abbrev uD:=List Env->Hp->Shared->XK->Value->Shared->Prop
structure y9 (P:Program) (w:World) (K:Fg) (mg:SO) (base:Heap) (A:Around) (outer:List Env) (s:Shared) (H:Hp):Prop where
 frames:A.frames=some outer
 mod:Mod K mg base
 bs:∀b o,base.get? b=some o->s.heap.get? b=some o/\H b=none
 Dk:base.objs.size<=s.heap.objs.size
 mY:s.heap.FunFrames base outer
 FL:∀b∈frs outer,H b=none
 hok:f_ P w H s.heap
 bare:AllBare s.gens
def CE (outer:List Env) (P:Program) (w:World) (H:Hp) (s:Shared) (Q:VK) (u:Value) (s':Shared):Prop:=
 ∃v H',s'.os=s.os/\AllBare s'.gens/\Un (frs outer) [] H H' s.heap s'.heap/\f_ P w H' s'.heap/\RelV v u/\Q v H'
def CR (CX:uD) (outer:List Env) (P:Program) (w:World) (H:Hp) (s:Shared) (Q:VK) (E:XK) (r:Result) (s':Shared):Prop:=
 match r with
 | .ok (.ret u)=>CE outer P w H s Q u s'
 | .ok _=>False
 | .error e=>CX outer H s E e s'
structure iC (P:Program) (w:World) (K:Fg) (mg:SO) (base:Heap) (CX:uD) (k:Nat) (f:Addr) (fd:FuncData) (ps:List Str) (sp:Sp):Prop where
 len:∀vs H Q E,sp vs H Q E->vs.length=ps.length
 run:∀(A:Around) (outer:List Env) (s:Shared) (H:Hp) (args:Args) (us:List Value) (vs:List V) (Q:VK) (E:XK),cW k A->y9 P w K mg base A outer s H->BindsTo s fd args (ps.zip us)->Vals vs us->sp vs H Q E->
  codeAny (model P w) A (.call (.ref f) args) (CR CX outer P w H s Q E) s
variable {mg:SO} {base:Heap}
theorem y9.make {w:World} {A:Around} {outer:List Env} (e:y9 P w K mg base A outer s H) (C:Addr) (us:List Value) (kw:List (Str×Value)):
  y9 P w K mg base (A.under (.builtin "type.__call__" ⟨.ref C::us,kw⟩)) outer s H:=⟨by first|exact e.frames|(simpa [Around.under,Code.envs,Code.isFrame,pushEnvs] using e.frames),e.mod,e.bs,e.Dk,e.mY,e.FL,e.hok,e.bare⟩
section
variable {X:Cx} {pins:AO} {σ:St} {H:Hp} {s s':Shared}
theorem Inv.Vl (I:Inv X pins σ H s):y9 X.prog X.w X.K X.mg X.base X.A X.stack s H:=
 ⟨I.ok.frames,I.ok.mod,I.bs,fH I.ok.Dk I.sz,I.stack,I.yg,I.hok,I.bare⟩
theorem Inv.after {Q:VK} (I:Inv X pins σ H s) (h:CE X.stack X.prog X.w H s Q u s'):EP X pins σ Q u s':=by
 obtain ⟨v,H',os,bare,un,hok,r,q⟩:=h
 obtain ⟨hh,g,d,t,os'⟩:=s'
 obtain rfl:os'=s.os:=os
 exact ⟨v,H',I.call (h':=hh) (g':=g) (d':=d) (t':=t) (ch:=[]) un hok bare (fun b z=>absurd z (by simp)),r,q⟩
end
def Vm (sp:Sp) (gY:List V) (E:XK) (Q:VK):List V->Hp->Prop:=fun vs H1=>sp (vs++gY) H1 Q E
def Mm (sp:Sp) (gY:List V) (E:XK) (t:TA):TE:=fun σ H Q=>t σ H (Vm sp gY E Q)
def Ql (sp:Sp) (gY:List V) (E:XK) (Q:VK) (x:V):List V->Hp->Prop:=fun vs H2=>sp (x::(vs++gY)) H2 Q E
inductive Vn (C:Addr) (m:Str) (sp:Sp) (gY:List V) (E:XK) (t:TA) (σ:St) (Q:VK) (x:V) (H1:Hp):Prop
 | mk  (a dx fs:_) (_:x = .ref a) (_:H1 a=some (.ins C dx fs)) (_:fs.lookup m=none) (_:t σ H1 (Ql sp gY E Q x))
def Ao (C:Addr) (m:Str) (sp:Sp) (gY:List V) (E:XK) (ta:TE) (t:TA):TE:=fun σ H Q=>ta σ H (Vn C m sp gY E t σ Q)
def Vo (C:Addr) (sp:Sp) (gY:List V) (E:XK) (Q:VK):List V->Hp->Prop:=fun vs H1=>∀x dx,H1 x=none->H1 dx=none->dx≠x->sp (.ref x::(vs++gY)) (upd (upd H1 dx (.own x)) x (.ins C dx [])) (fun v H2=>v = .bL/\Q (.ref x) H2) E
def Fj (C:Addr) (sp:Sp) (gY:List V) (E:XK) (t:TA):TE:=fun σ H Q=>t σ H (Vo C sp gY E Q)
def Binds (K:Fg) (fd:FuncData) (ps:List Str) (ds:List Value):Prop:=
 ∀(s:Shared) (us:List Value),K.In s.heap->(us++ds).length=ps.length->BindsTo s fd ⟨us,[]⟩ (ps.zip (us++ds))
variable {fd:FuncData} {ps:List Str}
theorem Binds.all (h:∀us:List Value,us.length=ps.length->bindArgs fd ⟨us,[]⟩=pure (ps.zip us)):Binds K fd ps [] :=fun s us _ hl=>by
 rw [zZ] at hl ⊢
 exact .of_eq (h us hl)
def Passes (CX:uD) (X:Cx) (E:XK):Prop:=∀(pins:AO) (σ:St) (H:Hp) (s:Shared) (e:Value) (s':Shared),Inv X pins σ H s->CX X.stack H s E e s'->X.xe e s'
variable {vs:List V}
section
variable {X:Cx} {CX:uD} {k:Nat} {f C:Addr} {fd:FuncData} {ps:List Str} {sp:Sp} {gY:List V} {ds:List Value} {E:XK} {x m:Str} {p pos apos:Pos} {e o:Expr} {es:List Expr} {ta:TE} {t:TA}
theorem FU {Q:VK} (F:iC X.prog X.w X.K X.mg X.base CX k f fd ps sp) (hr:cW k X.A) (hb:Binds X.K fd ps ds) (hd:Vals gY ds) (hx:Passes CX X E)
  (I:Inv X pins σ H s) (r:Vals vs us) (h:sp (vs++gY) H Q E):wpAny (model X.prog X.w) X.A (call (.ref f) us) (EP X pins σ Q) X.xe s:=by
 have r2:Vals (vs++gY) (us++ds):=r.append hd
 have hl:(us++ds).length=ps.length:=by rw [<-r2.length];exact F.len _ _ _ _ h
 refine wpAny_call (Ac (F.run X.A X.stack s H ⟨us,[]⟩ (us++ds) (vs++gY) Q E hr I.Vl (hb s us I.qM hl) r2 h) fun r s' hq=>?_)
 cases r with
 | error e=>exact hx pins σ H s e s' I hq
 | ok fl=>
   cases fl with
   | ret u=>exact I.after hq
   | next=>exact False.elim hq
   | brk=>exact False.elim hq
   | cont=>exact False.elim hq
theorem KQ (F:iC X.prog X.w X.K X.mg X.base CX k f fd ps sp) (hr:cW k X.A) (hg:Gl X x) (hm:X.mg x=some (.ref f)) (hk:PySem.W.keepIn X.K (.ref f)=true) (hb:Binds X.K fd ps ds) (hd:Vals gY ds) (hx:Passes CX X E)
  (ha:PA X (e::es) t) (hdb:(x==("__debug__":Str))=false:=by decide) (he:starEach (e::es) X.env=(false,eval e X.env)::starEach es X.env:=by rfl) (hpl:(backTo pos (starEach es X.env)).any (·.1)=false:=by rfl):
  PE X (.Call (.Name x p) (e::es) [] pos) (Mm sp gY E t):=by
 intro pins s σ H Q I h
 refine Fz (uB I hg hm ?_ hdb)
 refine PySem.W.callWith_K (h₀:=X.base) I.ok.mod.NF hk (aZ (ha pos pins s σ H _ I h) fun us s1 ⟨vs,H1,I1,r,q⟩=>⟨I1.qM,?_⟩) he hpl
 exact FU F hr hb hd hx I1 r q
theorem KR {pl:Sem Bool} (he:PE X o ta) (c:m7 X.K C) (hm:Meth X.K C m f) (F:iC X.prog X.w X.K X.mg X.base CX k f fd ps sp) (hr:cW k X.A) (hb:Binds X.K fd ps ds) (hd:Vals gY ds) (hx:Passes CX X E) (ha:PA X (e::es) t)
  (hst:starEach (e::es) X.env=(false,eval e X.env)::starEach es X.env:=by rfl) (hpl:(backTo pos (starEach es X.env)).any (·.1)=false:=by rfl)
  (ht:eval (.Call (.Attribute o m apos) (e::es) [] pos) X.env=(do
    let ov <-eval o X.env
    standAt apos.atName
    let (f,first) <-holding [ov] (getMethod ov m pl)
    callWith pos f first (backTo pos (starEach (e::es) X.env)) (backToKw pos (keywordEach [] X.env))):=by rfl):
  PE X (.Call (.Attribute o m apos) (e::es) [] pos) (Ao C m sp gY E ta t):=by
 intro pins s σ H Q I h
 refine PySem.W.methodCall_KW (pl:=pl) (aZ (he pins s σ H _ I h) fun u s1 ⟨x,H1,I1,rx,a,dx,fs,ex,ea,l,q⟩=>?_) ht
 subst ex
 obtain rfl:u=Value.ref a:=rx
 refine Am I1 ea c hm l ?_
 refine PySem.W.callWith_K (first:=[.ref a]) (h₀:=X.base) I.ok.mod.NF hm.kp (aZ (ha pos pins s1 σ H1 _ I1 q) fun us s2 ⟨vs,H2,I2,r,q2⟩=>⟨I2.qM,?_⟩) hst hpl
 exact FU (us:= .ref a::us) (vs:= .ref a::vs) F hr hb hd hx I2 (.cons rfl r) q2
theorem Qm {pl:Sem Bool} (he:PE X o ta) (c:m7 X.K C) (hm:Meth X.K C m f) (F:iC X.prog X.w X.K X.mg X.base CX k f fd ps sp) (hr:cW k X.A) (hb:Binds X.K fd ps ds) (hd:Vals gY ds) (hx:Passes CX X E)
  (ht:eval (.Call (.Attribute o m apos) [] [] pos) X.env=(do
    let ov <-eval o X.env
    standAt apos.atName
    let (f,first) <-holding [ov] (getMethod ov m pl)
    callWith pos f first (backTo pos (starEach [] X.env)) (backToKw pos (keywordEach [] X.env))):=by rfl):
  PE X (.Call (.Attribute o m apos) [] [] pos) (Ao C m sp gY E ta qm):=by
 intro pins s σ H Q I h
 refine PySem.W.methodCall_KW (pl:=pl) (aZ (he pins s σ H _ I h) fun u s1 ⟨x,H1,I1,rx,a,dx,fs,ex,ea,l,q⟩=>?_) ht
 subst ex
 obtain rfl:u=Value.ref a:=rx
 refine Am I1 ea c hm l ?_
 exact PySem.W.callWith_K0 (first:=[.ref a]) I1.qM hm.kp (FU (us:=[.ref a]) (vs:=[.ref a]) F hr hb hd hx I1 (.cons rfl .nil) q)
structure Mk (K:Fg) (C f:Addr):Prop where
 makes:PySem.W.makesIn K C=true
 init:PySem.W.findIn K (.ref C) "__init__"=some (some (.ref f))
 fn:PySem.W.isFn K (.ref f)=true
 kp:PySem.W.keepIn K (.ref C)=true
theorem FW {Q:VK} (M:Mk X.K C f) (F:iC X.prog X.w X.K X.mg X.base CX k f fd ps sp) (hr:cW (k+1) X.A) (hb:Binds X.K fd ps ds) (hd:Vals gY ds)
  (hx:Passes CX X E) (I:Inv X pins σ H s) (r:Vals vs us)
  (h:∀x dx,H x=none->H dx=none->dx≠x->sp (.ref x::(vs++gY)) (upd (upd H dx (.own x)) x (.ins C dx [])) (fun v H2=>v = .bL/\Q (.ref x) H2) E):
  wpAny (model X.prog X.w) X.A (call (.ref C) us) (EP X pins σ Q) X.xe s:=by
 have hq:=h (s.heap.objs.size+1) s.heap.objs.size (I.hok.fresh (yf _)) (I.hok.fresh (aK _)) (ef (Nat.lt_succ_self _))
 have I2:=Inv.made (C:=C) I
 have r2:Vals (V.ref (s.heap.objs.size+1)::(vs++gY)) (Value.ref (s.heap.objs.size+1)::(us++ds)):= .cons rfl (r.append hd)
 have hl:(Value.ref (s.heap.objs.size+1)::us++ds).length=ps.length:=by
  have e:=r2.length
  rw [F.len _ _ _ _ hq] at e
  exact e.symm
 refine wpAny_call (Qi (f:=f) I.qM M.makes M.init (lG.mp M.fn) (Ac (F.run _ X.stack _ _ ⟨Value.ref (s.heap.objs.size+1)::us,[]⟩ (Value.ref (s.heap.objs.size+1)::(us++ds)) _ _ E (hr.make C us [])
  (I2.Vl.make C us []) (hb _ (Value.ref (s.heap.objs.size+1)::us) I2.qM hl) r2 hq) fun r s' hq'=>?_))
 cases r with
 | error e=>exact hx pins σ _ _ e s' I2 hq'
 | ok fl=>
   cases fl with
   | ret u=>
     obtain ⟨v,H',I3,rv,ev,q3⟩:=I2.after hq'
     subst ev
     exact ⟨rv,⟨V.ref (s.heap.objs.size+1),H',I3,Z,q3⟩⟩
   | next=>exact False.elim hq'
   | brk=>exact False.elim hq'
   | cont=>exact False.elim hq'
theorem S9 (M:Mk X.K C f) (F:iC X.prog X.w X.K X.mg X.base CX k f fd ps sp) (hr:cW (k+1) X.A) (hg:Gl X x) (hm:X.mg x=some (.ref C)) (hb:Binds X.K fd ps ds) (hd:Vals gY ds) (hx:Passes CX X E)
  (ha:PA X (e::es) t) (hdb:(x==("__debug__":Str))=false:=by decide) (he:starEach (e::es) X.env=(false,eval e X.env)::starEach es X.env:=by rfl) (hpl:(backTo pos (starEach es X.env)).any (·.1)=false:=by rfl):
  PE X (.Call (.Name x p) (e::es) [] pos) (Fj C sp gY E t):=by
 intro pins s σ H Q I h
 refine Fz (uB I hg hm ?_ hdb)
 refine PySem.W.callWith_K (h₀:=X.base) I.ok.mod.NF M.kp (aZ (ha pos pins s σ H _ I h) fun us s1 ⟨vs,H1,I1,r,q⟩=>⟨I1.qM,?_⟩) he hpl
 exact FW M F hr hb hd hx I1 r q
theorem Qn (M:Mk X.K C f) (F:iC X.prog X.w X.K X.mg X.base CX k f fd ps sp) (hr:cW (k+1) X.A) (hg:Gl X x) (hm:X.mg x=some (.ref C)) (hb:Binds X.K fd ps ds) (hd:Vals gY ds) (hx:Passes CX X E)
  (hdb:(x==("__debug__":Str))=false:=by decide):PE X (.Call (.Name x p) [] [] pos) (Fj C sp gY E qm):=by
 intro pins s σ H Q I h
 refine Fz (uB I hg hm ?_ hdb)
 exact PySem.W.callWith_K0 I.qM M.kp (FW (us:=[]) M F hr hb hd hx I .nil h)
end
section
variable {X:Cx} {CX:uD} {k:Nat} {f C:Addr} {fd:FuncData} {ps ks:List Str} {sp:Sp} {E:XK} {x m:Str} {p pos apos kpos:Pos} {e o:Expr} {es:List Expr} {kws:List Keyword} {te ta:TE} {t tk:TA} {nm:Option Str}
variable {g:List Value->List Value->List Value} {gV:List V->List V->List V}
end
structure aM (N P:List Str) (sc:Scope):Prop where
 kind:sc.kind = .function
 co:sc.isCoroutine=false
 gen:sc.isGenerator=false
 nd:N.Nodup
 pre:N.take P.length=P
 par:∀x∈P,sc.names.lookup x=some .local\/sc.names.lookup x=some .cell
 Vp:∀y∈sc.names,y.2 ≠ .free
theorem Dm {kindOf:Str->Option NameKind} {x:Str}:∀{binds:List (Str×Value)} {m:SO},(∀v,(x,v)∉binds)->bindL kindOf binds m x=m x
 | [],_,_=>rfl
 | (n,v)::r,m,h=>by
   unfold bindL
   rw [Dm fun w hw=>h w (cK _ hw)]
   split
   . have:x≠n:=by rintro rfl;exact h v dg
     simp [this]
   . rfl
theorem Dp {kindOf:Str->Option NameKind} {x:Str}:∀{binds:List (Str×Value)} {m:SO},(∀v,(x,v)∉binds)->bindC kindOf binds m x=m x
 | [],_,_=>rfl
 | (n,v)::r,m,h=>by
   unfold bindC
   rw [Dp fun w hw=>h w (cK _ hw)]
   split
   . rfl
   . have:x≠n:=by rintro rfl;exact h v dg
     simp [this]
theorem Dq {kindOf:Str->Option NameKind} {x:Str} {v:Value}:∀{P:List Str} {vs:List Value} {i:Nat} {m:SO},P.Nodup->P[i]?=some x->vs[i]?=some v->kindOf x=some .local->
  bindL kindOf (P.zip vs) m x=some v
 | [],_,_,_,_,h,_,_=>by simp at h
 | _::_,[],_,_,_,_,h,_=>by simp at h
 | p::P,w::vs,0,m,nd,h1,h2,hk=>by
   simp at h1 h2;subst h1;subst h2
   show bindL kindOf ((p,w)::P.zip vs) m p=_
   unfold bindL
   rw [Dm fun v hv=>(fU.mp nd).1 (z6 hv).1,aA hk]
   simp
 | p::P,w::vs,i+1,m,nd,h1,h2,hk=>by
   show bindL kindOf ((p,w)::P.zip vs) m x=_
   unfold bindL
   exact Dq (i:=i) (fU.mp nd).2 (by simpa using h1) (by simpa using h2) hk
theorem Dr {kindOf:Str->Option NameKind} {x:Str} {v:Value}:∀{P:List Str} {vs:List Value} {i:Nat} {m:SO},P.Nodup->P[i]?=some x->vs[i]?=some v->kindOf x≠some .local->
  bindC kindOf (P.zip vs) m x=some v
 | [],_,_,_,_,h,_,_=>by simp at h
 | _::_,[],_,_,_,_,h,_=>by simp at h
 | p::P,w::vs,0,m,nd,h1,h2,hk=>by
   simp at h1 h2;subst h1;subst h2
   show bindC kindOf ((p,w)::P.zip vs) m p=_
   unfold bindC
   rw [Dp fun v hv=>(fU.mp nd).1 (z6 hv).1,az hk]
   simp
 | p::P,w::vs,i+1,m,nd,h1,h2,hk=>by
   show bindC kindOf ((p,w)::P.zip vs) m x=_
   unfold bindC
   exact Dr (i:=i) (fU.mp nd).2 (by simpa using h1) (by simpa using h2) hk
def start (N:List Str) (vs:List V):St:=vs.map some++List.replicate (N.length-vs.length) none
def b8 (CX:uD) (P:Program) (w:World) (K:Fg) (mg:SO) (base:Heap) (N:List Str) (qual:Str) (scope:Scope) (f:Addr) (cd:Value) (A:Around) (outer:List Env) (s:Shared) (H:Hp) (E:XK):Cx where
 prog:=P
 w:=w
 K:=K
 mg:=mg
 base:=base
 A:=A.deeper (envOfC qual scope s.heap.objs.size f cd)
 N:=N
 s₀:=s
 H₀:=H
 env:=envOfC qual scope s.heap.objs.size f cd
 outer:=outer
 stack:=envOfC qual scope s.heap.objs.size f cd::outer
 ex:=[]
 calm:=true
 fn:=fun _=>true
 pn:=[]
 xe:=fun e s'=>wpAny (model P w) (A.deeper (envOfC qual scope s.heap.objs.size f cd)) (leaving (envOfC qual scope s.heap.objs.size f cd) e) (fun _ s''=>CX outer H s E e s'') (fun e' s''=>CX outer H s E e' s'') s'
theorem FY {sc:Scope} {n:Nat} (h:sc.names.lookup x=some .cell):∃c,(cellsFrom n sc.names []).lookup x=some c:=by
 have q:=PySem.W.cellsFrom_some sc.names n [] (.inl h)
 exact Option.isSome_iff_exists.mp q
variable {qual:Str} {scope:Scope} {f:Addr}
theorem NW {CX:uD} {w:World} {cd:Value} {A:Around} {outer:List Env} {s1:Shared} {E:XK}
  (S:aM N ps scope) (hd:A.handled=none) (e0:y9 P w K mg base A outer s H) (hl:vs.length=ps.length) (r:Vals vs us)
  (x:InCallC s s.heap.objs.size (bindL (envOfC qual scope s.heap.objs.size f cd).kindOf (ps.zip us) fun _=>none) (cellsFrom (s.heap.objs.size+1) scope.names []) (bindC (envOfC qual scope s.heap.objs.size f cd).kindOf (ps.zip us) fun _=>none) s1):
  Inv (b8 CX P w K mg base N qual scope f cd A outer s H E) [] (start N vs) H s1:=by
 have hpl:ps.length<=N.length:=by have:=kG List.length S.pre;rw [qi] at this;omega
 obtain ⟨h1,tk,rfl,hk⟩:=x.done
 have NX:∀b:Addr,b∉(b8 CX P w K mg base N qual scope f cd A outer s H E).ex:=fun b z=>absurd (show b∈([] :List Addr) from z) (by simp)
 refine ⟨⟨e0.mod,S.kind,Z,Z,aK _,fun y z c h1 h2=>?_,fun y hy=>?_,fun y c _ h=>?_,fun _=>hd,Around.frames_deeper e0.frames, .inr ⟨Z,Z⟩,fun b z=>absurd z (NX b),e0.bs,e0.Dk,fun b _ _=>NX b,fun b z=>absurd z (NX b),e0.mY,e0.FL⟩,
  rfl,e0.bare,Un.kept hk,⟨_,x.toInCall.ns,fun i y v h1 h2 h3=>?_⟩,fun y c h=>⟨_,x.cell y c h⟩,e0.hok.fresh (aK _),fun y c h=>?_,fun p hp=>absurd (show p∈([] :AO) from hp) (by simp),e0.hok.kept hk,?_⟩
 . exact name_of_addr x.apart (uX h1) (uX h2)
 . have hy:scope.names.lookup y=some .cell\/scope.names.lookup y=some .free:=hy
   rcases hy with hy|hy
   . exact FY hy
   . exact absurd rfl (S.Vp _ (uX hy))
 . exact Ab (x.above y c (uX h))
 . have hi:i<vs.length:=by
    unfold start at h2
    by_cases hi:i<vs.length
    . exact hi
    . rw [Fv (by simpa using hi)] at h2
      rw [List.getElem?_replicate] at h2
      split at h2 <;> cases h2
   have ha:vs[i]?=some v:=by
    unfold start at h2
    rw [BY (by simpa using hi),b_] at h2
    cases e:vs[i]? with
    | none=>rw [e] at h2;cases h2
    | some a=>rw [e] at h2;cases h2;rfl
   obtain ⟨u,hu,rv⟩:=r.get ha
   have hp:ps[i]?=some y:=by
    rw [<-S.pre,List.getElem?_take_of_lt (by omega)];exact h1
   have Zk:ps.Nodup:=by rw [<-S.pre];exact S.nd.sublist (List.take_sublist _ _)
   refine ⟨u,rv,?_⟩
   rcases S.par y (bR hp) with k|k
   . exact .inl ⟨k,Dq Zk hp hu k⟩
   . obtain ⟨c,e⟩:=FY (n:=s.heap.objs.size+1) k
     refine .inr ⟨.inl k,c,e,?_⟩
     have q:=x.cell y c e
     rw [Dr Zk hp hu (by show scope.names.lookup y≠_;rw [k];decide)] at q
     exact q
 . exact e0.hok.fresh (Ab (x.above y c (uX h)))
 . unfold start
   show _=N.length
   rw [cT,aC,mV]
   omega
variable {body:List Stmt} {doc pm cdv ct oc:Value} {an od:Option Addr}
theorem Mp {CX:uD} {w:World} {k:Nat} {name:Str} {params:Arguments} {dV kV:Value}
  {osl:Array (Option Value)} {N ps:List Str} {sp:Sp} (lk:K.lookup f=some ⟨oc,od, .func (PySem.W.fnOf name qual params body scope dV kV doc pm an cdv ct),osl⟩) (hcd:PySem.W.codeIn K cdv qual=true) (S:aM N ps scope)
  (len:∀vs H Q E,sp vs H Q E->vs.length=ps.length)
  (hbody:∀(A:Around) (outer:List Env) (s:Shared) (H:Hp) (vs:List V) (Q:VK) (E:XK),cW k (A.deeper (envOfC qual scope s.heap.objs.size f cdv))->sp vs H Q E->
    ∃t,oh (b8 CX P w K mg base N qual scope f cdv A outer s H E) body t/\t { nx:=fun _ H'=>Q .bL H',rt:=Q } (start N vs) H):
  iC P w K mg base CX (k+1) f (PySem.W.fnOf name qual params body scope dV kV doc pm an cdv ct) ps sp:=by
 refine ⟨len,fun A outer s H args us vs Q E hr e0 hb r m8=>?_⟩
 have hl:=len _ _ _ _ m8
 have KX:K.In s.heap:=e0.mod.NF.keeps fun b o e=>(e0.bs b o e).1
 have lim:s.heap.NoLimit:=e0.mod.nolimit.keeps fun b o e=>(e0.bs b o e).1
 have hkind:∀y∈ps.zip us,scope.names.lookup y.1=some .local\/(scope.names.lookup y.1=some .cell/\((cellsFrom (s.heap.objs.size+1) scope.names []).lookup y.1).isSome=true):=fun ⟨n,v⟩ hy=>by
  rcases S.par n (z6 hy).1 with q|q
  . exact .inl q
  . exact .inr ⟨q,PySem.W.cellsFrom_some _ _ _ (.inl q)⟩
 refine codeAny_call_function hr.depth (KX _ _ lk) rfl S.co S.gen rfl (PySem.W.codeRec_of KX hcd) (hb _ _ _ _ ?_)
 refine wpAny_newFunctionEnv_cells S.kind hkind fun env he s1 x=>?_
 subst he
 refine ⟨lim.keeps x.toInCall.keep,codeAny_func ?_⟩
 obtain ⟨t,ht,hq⟩:=hbody A outer s H vs Q E (hr.deeper _) m8
 have I:Inv (b8 CX P w K mg base N qual scope f cdv A outer s H E) [] (start N vs) H s1:=NW S hr.hd e0 hl r x
 refine iG (ht [] s1 (start N vs) H _ I hq) (fun fl s' hs=>?_) fun e s' hs=>hs
 have fin:∀{σ':St} {H':Hp} {v:V} {u:Value},Inv (b8 CX P w K mg base N qual scope f cdv A outer s H E) [] σ' H' s'->RelV v u->Q v H'->CE outer P w H s Q u s':=
  fun {σ' H' v u} J rv q=>⟨v,H',J.os,J.bare,J.base,J.hok,rv,q⟩
 cases fl with
 | ret u=>
   obtain ⟨v,σ',H',J,rv,q⟩:=hs
   exact fin J rv q
 | next=>
   obtain ⟨σ',H',J,q⟩:=hs
   exact fin (v:=V.bL) (u:=Value.none) J rfl q
 | brk=>
   obtain ⟨_,_,_,q⟩:=hs
   exact False.elim q
 | cont=>
   obtain ⟨_,_,_,q⟩:=hs
   exact False.elim q
section
variable {X:Cx} {x:Str} {p pos:Pos} {e:Expr} {es:List Expr} {t:TA} {id T:String} {r:List V->Hp->VK->Prop}
def abg (r:List V->Hp->VK->Prop) (Q:VK):List V->Hp->Prop:=fun vs H1=>r vs H1 Q
def Vq (r:List V->Hp->VK->Prop) (t:TA):TE:=fun σ H Q=>t σ H (abg r Q)
end
end L2
namespace HT
open PySem PyProof.Rows
section
open PySem.SeqAt
open PySem.AutoSeq1 (wpAny_loadPart')
open PySem.MeetsSeq PySem.MeetsSeq2 PySem.MeetsSeq3
end
section
variable {prog:Program} {w:World} {A:Around} {E:VS} {s:Shared}
end
end HT
namespace L2
open PySem PySem.Spec PyProof.Rows
variable {ns:List Int}
theorem intsAre_of:∀{us:List Value},Vals (ns.map V.int) us->IntsAre us ns:=by
 induction ns with
 | nil=>intro us r;rw [List.map_nil] at r;cases r;exact .nil
 | cons n ns ih=>
   intro us r
   rw [cj] at r
   cases r with
   | cons r1 r2=>
     obtain ⟨t,e⟩:=r1
     subst e
     exact .cons n t (ih r2)
section
variable {X:Cx} {e:Expr} {te:TE} {lo hi:Option Expr} {tl th:TO} {pos p2:Pos}
end
def Aq (n:Nat) (i:Int):Option Nat:=if 0<=i then (if i<n then some i.toNat else none) else if -(n:Int)<=i then some (i+n).toNat else none
def qN {α:Type} (xs:List α) (i:Int):Option α:=(Aq xs.length i).bind fun j=>xs[j]?
variable {j:Nat}
theorem KS {n:Nat} {i:Int} (h:Aq n i=some j):seqIndex? i n=some j/\j<n/\-(n:Int)<=i/\i<n:=by
 unfold Aq at h
 by_cases h0:0<=i
 . rw [aA h0] at h
   by_cases h1:i<n
   . rw [aA h1] at h
     have e:i.toNat=j:=eV h
     exact ⟨by rw [seqIndex_of h0 h1,e],by omega,by omega,h1⟩
   . rw [az h1] at h;cases h
 . rw [az h0] at h
   by_cases h1:-(n:Int)<=i
   . rw [aA h1] at h
     have e:(i+n).toNat=j:=eV h
     exact ⟨by rw [seqIndex_neg (by omega) h1,e],by omega,h1,by omega⟩
   . rw [az h1] at h;cases h
theorem yi {α:Type} {xs:List α} {i:Int} {v:α} (h:qN xs i=some v):∃j,seqIndex? i xs.length=some j/\xs[j]?=some v/\j<xs.length/\-(xs.length:Int)<=i/\i<xs.length:=by
 unfold qN at h
 cases e:Aq xs.length i with
 | none=>rw [e] at h;cases h
 | some j=>
   rw [e] at h
   obtain ⟨h1,h2,h3,h4⟩:=KS e
   exact ⟨j,h1,h,h2,h3,h4⟩
theorem au {α:Type} {xs:List α} {v:α} (h:xs[j]?=some v):qN xs (j:Int)=some v:=by
 have hj:j<xs.length:=(c_.mp h).1
 have e:Aq xs.length (j:Int)=some j:=by
  unfold Aq
  rw [aA (by omega),aA (by omega)];simp
 unfold qN;rw [e];exact h
def S_ (b:Expr):Prop:=∀o i,subscripted b false o i=operate [o,i] (getItem o i)
def wk (X:Cx) (r:R2):Prop:=
 ∀(value slice:Expr) (pins:AO) (s:Shared) (σ:St) (H:Hp) (x y:V) (v u:Value) (Q:VK),Inv X pins σ H s->RelV x v->RelV y u->r x y H Q->
  subscripted slice false v u=operate [v,u] (getItem v u)->wpAny (model X.prog X.w) X.A (subscriptTail value slice v u) (EP X pins σ Q) X.xe s
def MtR (X:Cx) (id:String) (r:V->List V->Hp->VK->Prop):Prop:=
 ∀(pins:AO) (s:Shared) (σ:St) (H:Hp) (x:V) (xs:List V) (v:Value) (us:List Value) (Q:VK),Inv X pins σ H s->RelV x v->Vals xs us->r x xs H Q->
  wpAny (model X.prog X.w) X.A (call (.builtin id) (v::us)) (EP X pins σ Q) X.xe s
variable {pins:AO} {σ:St} {H:Hp} {s:Shared} {xs ys:List V} {its its':List Value} {y:V} {u:Value}
section
variable {X:Cx} {a b:Expr} {ta tb:TE} {pos:Pos}
theorem wk.or {r r':R2} (h:wk X r) (h':wk X r'):wk X (fun x y H Q=>r x y H Q\/r' x y H Q):=by
 intro value slice pins s σ H x y v u Q I rx ry q hs
 rcases q with q|q
 . exact h value slice pins s σ H x y v u Q I rx ry q hs
 . exact h' value slice pins s σ H x y v u Q I rx ry q hs
inductive Mq (K:Fg) (x:V) (y:V) (H:Hp) (Q:VK):Prop
 | mk  (p xs i v:_) (_:x = .ref p) (_:y = .int i) (_:aF K H p xs) (_:qN xs i=some v) (_:Q v H)
inductive Qo (K:Fg) (x:V) (y:V) (H:Hp) (Q:VK):Prop
 | mk  (p xs i v:_) (_:x = .ref p) (_:y = .int i) (_:cO K H p xs) (_:qN xs i=some v) (_:Q v H)
inductive Vr (x:V) (y:V) (H:Hp) (Q:VK):Prop
 | mk  (z i c:_) (_:x = .str z) (_:y = .int i) (_:z.length<=sizeLine) (_:qN z.cps.toList i=some c) (_:Q (.str ⟨#[c]⟩) H)
theorem KU:wk X (Mq X.K):=by
 intro value slice pins s σ H x y v u Q I rx ry h hs
 obtain ⟨p,xs,i,z,rfl,rfl,hq,he,q⟩:=h
 cases rx
 obtain ⟨t,rfl⟩:=ry
 obtain ⟨its,r,pl,hz⟩:=I.list hq
 obtain ⟨j,h1,h2,h3,h4,h5⟩:=yi he
 obtain ⟨w,ew,rw'⟩:=r.get h2
 have hl:=r.length
 have hn:=rD
 have fin:EP X pins σ Q w s:=⟨z,H,I,rw',q⟩
 by_cases h0:0<=i
 . have hj:i.toNat=j:=by
    rw [seqIndex_of h0 h5] at h1
    exact eV h1
   exact item_listR pl.isList h0 (by omega) (by rw [hj];simpa using ew) fin hs
 . have hj:(i+(its.toArray.size:Int)).toNat=j:=by
    rw [seqIndex_neg (by omega) h4] at h1
    rw [gE,<-hl]
    exact eV h1
   exact subscriptTail_builtinR (x:=w) pl.isList.typeIs slot_list_getitem.lookup
    (wpAny_getItem_list_neg (Q:=fun r s'=>r=w/\EP X pins σ Q r s') pl.isList (by omega) (by rw [gE] <;> omega) (by omega) (by rw [hj];simpa using ew) ⟨Z,fin⟩) hs
theorem NY:wk X (Qo X.K):=by
 intro value slice pins s σ H x y v u Q I rx ry h hs
 obtain ⟨p,xs,i,z,rfl,rfl,hq,he,q⟩:=h
 cases rx
 obtain ⟨t,rfl⟩:=ry
 obtain ⟨its,r,pl,hz⟩:=I.tuple hq
 obtain ⟨j,h1,h2,h3,h4,h5⟩:=yi he
 obtain ⟨w,ew,rw'⟩:=r.get h2
 have hl:=r.length
 have hn:=rD
 have fin:EP X pins σ Q w s:=⟨z,H,I,rw',q⟩
 exact subscriptTail_builtinR (x:=w) pl.typeIs slot_tuple_getitem.lookup
  (getItem_tuple (j:=j) (Q:=fun r s'=>r=w/\EP X pins σ Q r s') pl (by omega) (by omega) (by rw [gE,<-hl];exact h1) (by simpa using ew) ⟨Z,fin⟩) hs
theorem NZ:wk X Vr:=by
 intro value slice pins s σ H x y v u Q I rx ry h hs
 obtain ⟨z,i,c,rfl,rfl,hz,he,q⟩:=h
 obtain ⟨t,rfl⟩:=rx
 obtain ⟨t',rfl⟩:=ry
 obtain ⟨j,h1,h2,h3,h4,h5⟩:=yi he
 have hl:z.cps.toList.length=z.length:=by simp [Str.length]
 rw [hl] at h1 h4 h5
 have hn:=rD
 exact tail_any (typeIs_str s z t) slot_str_getitem.lookup (getItem_str (c:=c) (by
  have e1:decide (i < -(2 ^ 63:Int))=false:=cu (by omega)
  have e2:decide (i≥2 ^ 63)=false:=cu (by omega)
  rw [e1,e2,Bool.or_false]) (by rw [h1];simpa using h2) ⟨.str ⟨#[c]⟩,H,I.tok _,⟨_,Z⟩,q⟩) hs
def Vs (K:Fg):R2:=fun x y H Q=>Mq K x y H Q\/Qo K x y H Q\/Vr x y H Q
theorem Vt:wk X (Vs X.K):=KU.or (NY.or NZ)
theorem Mr (its:List Value) (n j:Nat) (u:Value):Obj.mapSeq (·.setIfInBounds j u) { cls:= .type "list",data:= .seq its.toArray n }={ cls:= .type "list",data:= .seq (its.set j u).toArray n }:=by
 simp [Obj.mapSeq]
theorem Inv.lst {pins:AO} {σ:St} {H:Hp} {s:Shared} {p:Addr} {xs:List V} (I:Inv X pins σ H s) (h:H p=some (.lst xs)):
  ∃(its:List Value) (n:Nat),Vals xs its/\s.heap.get? p=some { cls:= .type "list",data:= .seq its.toArray n }/\xs.length<=sizeLine:=by
 obtain ⟨z,its,n,r,e⟩:=I.hok p _ h
 exact ⟨its,n,r,e,z⟩
theorem Inv.Vu {p:Addr} {n n':Nat} {f:Obj->Obj} (I:Inv X pins σ H s) (h:H p=some (.lst xs))
  (ho:s.heap.get? p=some { cls:= .type "list",data:= .seq its.toArray n }) (hf:f { cls:= .type "list",data:= .seq its.toArray n }={ cls:= .type "list",data:= .seq its'.toArray n' }) (r:Vals ys its') (hz:ys.length<=sizeLine) (t:Nat):
  Inv X pins σ (upd H p (.lst ys)) { s with heap:=s.heap.update p f,toks:=t }:=by
 have e:(s.heap.update p f).get? p=some { cls:= .type "list",data:= .seq its'.toArray n' }:=by
  rw [LO f ho (by rw [hf] <;> rfl),hf]
 refine I.write (x:=p) (e:=p) (by rw [h];trivial) (.inl rfl) (fun b u hb q=>(Heap.get?_update_other _ _ (cD hb)).trans q) ⟨_,e⟩ ?_
 exact ⟨hz,its',n',r,e⟩
inductive Yk (o:V) (i:V) (v:V) (H:Hp) (Q:Hp->Prop):Prop
 | mk  (p xs k j:_) (_:o = .ref p) (_:i = .int k) (_:H p=some (.lst xs)) (_:Aq xs.length k=some j) (_:Q (upd H p (.lst (xs.set j v))))
theorem set_list:PY X Yk:=by
 intro pins s σ H o i v ov iv u Q I ro ri rv h
 obtain ⟨p,xs,k,j,rfl,rfl,hp,hj,q⟩:=h
 cases ro
 obtain ⟨t,rfl⟩:=ri
 obtain ⟨its,n,r,ho,hz⟩:=I.lst hp
 obtain ⟨h1,h2,h3,h4⟩:=KS hj
 have hl:=r.length
 have hn:=rD
 have I':Inv X pins σ (upd H p (.lst (xs.set j v))) { s with heap:=s.heap.update p (Obj.mapSeq (·.setIfInBounds j u)) }:=
  I.Vu hp ho (Mr its n j u) (r.set rv j) (by rw [gG];exact hz) s.toks
 by_cases h0:0<=k
 . have hk:k.toNat=j:=by
    rw [seqIndex_of h0 h4] at h1
    exact eV h1
   exact PySem.W.ki_setAt ho h0 (by omega) (by rw [gE,<-hl];exact h4) (by rw [hk];exact ⟨_,I',q⟩)
 . have hk:(k+(its.toArray.size:Int)).toNat=j:=by
    rw [seqIndex_neg (by omega) h3] at h1
    rw [gE,<-hl]
    exact eV h1
   exact PySem.W.ki_setBack ho (by omega) (by rw [gE,<-hl];exact h3) (by omega) (by rw [hk];exact ⟨_,I',q⟩)
def pF:V->Bool
 | .bL=>true
 | .bl _=>true
 | .int _=>true
 | .str _=>true
 | _=>false
def wm:V->V->Bool
 | .bL, .bL=>true
 | .bl a, .bl b=>a==b
 | .bl a, .int b=>(if a then 1 else 0)==b
 | .int a, .bl b=>a==(if b then 1 else 0)
 | .int a, .int b=>a==b
 | .str a, .str b=>a==b
 | _,_=>false
theorem Vv {A:Around} {x:V} {v:Value} (ry:RelV y u) (rx:RelV x v) (fy:pF y=true) (fx:pF x=true):SeqAt.EqAt A s u v (wm y x):=by
 cases y with
 | bL=>
   cases ry
   cases x with
   | bL=>cases rx;exact SeqAt.EqAt.same _
   | bl b=>cases rx;exact SeqAt.EqAt.none_bool b
   | int b=>obtain ⟨t,rfl⟩:=rx;exact SeqAt.EqAt.none_int b t
   | str b=>obtain ⟨t,rfl⟩:=rx;exact SeqAt.EqAt.none_str b t
   | _=>exact absurd (show false=true from fx) eX
 | bl a=>
   cases ry
   cases x with
   | bL=>cases rx;exact SeqAt.EqAt.bool_none a
   | bl b=>cases rx;exact SeqAt.EqAt.bool_bool a b
   | int b=>obtain ⟨t,rfl⟩:=rx;exact SeqAt.EqAt.bool_int a b t
   | str b=>obtain ⟨t,rfl⟩:=rx;exact SeqAt.EqAt.bool_str a b t
   | _=>exact absurd (show false=true from fx) eX
 | int a=>
   obtain ⟨t',rfl⟩:=ry
   cases x with
   | bL=>cases rx;exact SeqAt.EqAt.int_none a t'
   | bl b=>cases rx;exact SeqAt.EqAt.int_bool a t' b
   | int b=>obtain ⟨t,rfl⟩:=rx;exact SeqAt.EqAt.int_int a t' b t
   | str b=>obtain ⟨t,rfl⟩:=rx;exact SeqAt.EqAt.int_str a t' b t
   | _=>exact absurd (show false=true from fx) eX
 | str a=>
   obtain ⟨t',rfl⟩:=ry
   cases x with
   | bL=>cases rx;exact SeqAt.EqAt.str_none a t'
   | bl b=>cases rx;exact SeqAt.EqAt.str_bool a t' b
   | int b=>obtain ⟨t,rfl⟩:=rx;exact SeqAt.EqAt.str_int a t' b t
   | str b=>obtain ⟨t,rfl⟩:=rx;exact SeqAt.EqAt.str_str a t' b t
   | _=>exact absurd (show false=true from fx) eX
 | _=>exact absurd (show false=true from fy) eX
def rE (x:V) (u:Value):Bool:=match u with
 | .none=>wm .bL x
 | .bool b=>wm (.bl b) x
 | .int i _=>wm (.int i) x
 | .str z _=>wm (.str z) x
 | _=>false
theorem N1 {x:V} (r:RelV y u) (f:pF y=true):rE x u=wm y x:=by
 cases y with
 | bL=>cases r;rfl
 | bl b=>cases r;rfl
 | int i=>obtain ⟨t,rfl⟩:=r;rfl
 | str z=>obtain ⟨t,rfl⟩:=r;rfl
 | _=>exact absurd (show false=true from f) eX
theorem uE {x:V}:∀{xs:List V} {us:List Value},Vals xs us->xs.all pF=true->us.any (rE x)=xs.any fun y=>wm y x
 | _,_, .nil,_=>rfl
 | y::xs,u::us, .cons r t,f=>by
   rw [List.all_cons,FH] at f
   rw [z9,z9,N1 r f.1,uE t f.2]
theorem rF {A:Around} {s:Shared} {x:V} {v:Value} (rx:RelV x v) (fx:pF x=true):∀{xs:List V} {us:List Value},Vals xs us->xs.all pF=true->∀u∈us,SeqAt.EqAt A s u v (rE x u)
 | _,_, .nil,_=>fun u hu=>by cases hu
 | y::xs,u::us, .cons r t,f=>fun u' hu=>by
   rw [List.all_cons,FH] at f
   rcases c8.mp hu with rfl|hu
   . rw [N1 r f.1];exact Vv r rx f.1 fx
   . exact rF rx fx t f.2 u' hu
def yG (x:V) (xs:List V):Bool:=xs.any fun y=>wm y x
inductive Zl (K:Fg) (neg:Bool) (x:V) (y:V) (H:Hp) (Q:VK):Prop
 | mk  (p xs:_) (_:y = .ref p) (_:(aF K H p xs\/cO K H p xs)) (_:pF x=true) (_:xs.all pF=true) (_:Q (.bl (if neg then !yG x xs else yG x xs)) H)
theorem Ds:i7 X (compareOp .In) (Zl X.K false):=by
 intro pins s σ H x y v u Q I rx ry h
 obtain ⟨p,xs,rfl,hq,fx,fs,q⟩:=h
 cases ry
 rcases hq with hq|hq
 . obtain ⟨its,r,pl,hz⟩:=I.list hq
   refine SeqAt.in_listAt (rE x) pl.isList (fun w hw=>rF rx fx r fs w (by simpa using hw)) ⟨.bl _,H,I,Z,?_⟩
   rw [show its.toArray.any (rE x)=its.any (rE x) by simp,uE r fs]
   exact q
 . obtain ⟨its,r,pl,hz⟩:=I.tuple hq
   refine SeqAt.in_tupleAt (rE x) pl (fun w hw=>rF rx fx r fs w (by simpa using hw)) ⟨.bl _,H,I,Z,?_⟩
   rw [show its.toArray.any (rE x)=its.any (rE x) by simp,uE r fs]
   exact q
theorem wU:i7 X (compareOp .NotIn) (Zl X.K true):=by
 intro pins s σ H x y v u Q I rx ry h
 obtain ⟨p,xs,rfl,hq,fx,fs,q⟩:=h
 cases ry
 rcases hq with hq|hq
 . obtain ⟨its,r,pl,hz⟩:=I.list hq
   refine SeqAt.notIn_listAt (rE x) pl.isList (fun w hw=>rF rx fx r fs w (by simpa using hw)) ⟨.bl _,H,I,Z,?_⟩
   rw [show its.toArray.any (rE x)=its.any (rE x) by simp,uE r fs]
   exact q
 . obtain ⟨its,r,pl,hz⟩:=I.tuple hq
   refine SeqAt.notIn_tupleAt (rE x) pl (fun w hw=>rF rx fx r fs w (by simpa using hw)) ⟨.bl _,H,I,Z,?_⟩
   rw [show its.toArray.any (rE x)=its.any (rE x) by simp,uE r fs]
   exact q
theorem FZ:iA X (.builtin "len") (fun xs H Q=>∃p ys,xs=[.ref p]/\(aF X.K H p ys\/cO X.K H p ys)/\Q (.int ys.length) H):=by
 intro pins s σ H xs us Q I r h
 obtain ⟨p,ys,rfl,hq,q⟩:=h
 obtain ⟨u,rfl,rx⟩:=vals1 r
 cases rx
 have hn:=rD
 rcases hq with hq|hq
 . obtain ⟨its,r',pl,hz⟩:=I.list hq
   have hlen:=r'.length
   exact Calls.call_len_list pl.isList (by simp only [gE] <;> omega) ⟨.int ys.length,H,I.tok _,⟨s.toks+1,by rw [gE,hlen]⟩,q⟩
 . obtain ⟨its,r',pl,hz⟩:=I.tuple hq
   have hlen:=r'.length
   exact len_tuple pl (by simp only [gE] <;> omega) ⟨.int ys.length,H,I.tok _,⟨s.toks+1,by rw [gE,hlen]⟩,q⟩
theorem F_:iA X (.builtin "len") (fun xs H Q=>∃z,xs=[.str z]/\z.length<=sizeLine/\Q (.int z.length) H):=by
 intro pins s σ H xs us Q I r h
 obtain ⟨z,rfl,hz,q⟩:=h
 obtain ⟨u,rfl,t,rfl⟩:=vals1 r
 have hn:=rD
 exact len_str (by omega) ⟨.int z.length,H,I.tok _,⟨_,Z⟩,q⟩
theorem Ga:iA X (.type "list") (fun xs H Q=>∃p ys,xs=[.ref p]/\(aF X.K H p ys\/cO X.K H p ys)/\∀l,H l=none->Q (.ref l) (upd H l (.lst ys))):=by
 intro pins s σ H xs us Q I r h
 obtain ⟨p,ys,rfl,hq,q⟩:=h
 obtain ⟨u,rfl,rx⟩:=vals1 r
 cases rx
 have fin:∀(its:List Value),Vals ys its->ys.length<=sizeLine->∀(h':Heap) (c':Nat),(∀b o',s.heap.get? b=some o'->h'.get? b=some o')->
   h'.get? s.heap.objs.size=some { cls:= .type "list",dict:=none,data:= .seq its.toArray c',slots:=#[] }->EP X pins σ Q (.ref s.heap.objs.size) { s with heap:=h' }:=fun its r' hz h' c' kp e=>
  ⟨.ref s.heap.objs.size,_,I.laid (t':=s.toks) kp (aK _) (show dS X.prog X.w _ h' _ (.lst ys) from ⟨hz,its,c',r',e⟩),Z,q _ (I.hok.fresh (aK _))⟩
 rcases hq with hq|hq
 . obtain ⟨its,r',pl,hz⟩:=I.list hq
   have hlen:=r'.length
   obtain ⟨o,ho,hc,n,hd⟩:=pl.isList
   exact call_list_seq p (.inl rfl) ho hc hd (fun h' c' kp e=>fin its r' hz h' c' kp e) (by simp only [gE] <;> omega)
 . obtain ⟨its,r',pl,hz⟩:=I.tuple hq
   have hlen:=r'.length
   obtain ⟨o,ho,hc,n,hd⟩:=pl
   exact call_list_seq p (.inr rfl) ho hc hd (fun h' c' kp e=>fin its r' hz h' c' kp e) (by simp only [gE] <;> omega)
theorem Eg:iA X (.type "tuple") (fun xs H Q=>∃p ys,xs=[.ref p]/\((aF X.K H p ys/\∀l,H l=none->Q (.ref l) (upd H l (.tup ys)))\/(cO X.K H p ys/\Q (.ref p) H))):=by
 intro pins s σ H xs us Q I r h
 obtain ⟨p,ys,rfl,h⟩:=h
 obtain ⟨u,rfl,rx⟩:=vals1 r
 cases rx
 rcases h with ⟨hq,q⟩|⟨hq,q⟩
 . obtain ⟨its,r',pl,hz⟩:=I.list hq
   have hlen:=r'.length
   refine call_tuple_list pl.isList (fun h' kp=>?_) (by simp only [gE] <;> omega)
   have I1:Inv X pins σ H { s with heap:=h' }:=I.kept (t':=s.toks) kp
   have I2:Inv X pins σ (upd H h'.objs.size (.tup ys)) { s with heap:=h'.push { cls:= .type "tuple",data:= .seq its.toArray } }:=
    I1.laid (t':=s.toks) (fun b o e=>bU _ e) (aK _) (show dS X.prog X.w _ _ _ (.tup ys) from ⟨hz,its,r',IsTup.new _ _⟩)
   exact ⟨.ref h'.objs.size,_,I2,Z,q _ (I1.hok.fresh (aK _))⟩
 . obtain ⟨its,r',pl,hz⟩:=I.tuple hq
   exact call_tuple_same pl ⟨.ref p,H,I,Z,q⟩
def Zm (K:Fg) (T:String) (x:V) (H:Hp):Prop:=match x with
 | .str _=>T = "str"
 | .int _=>T = "int"
 | .ref p=>(T = "list"/\∃xs,aF K H p xs)\/(T = "tuple"/\∃o,K.lookup p=some o/\o.cls = .type "tuple"/\o.dict=none)\/
     (T = "dict"/\((∃kvs,H p=some (.dK kvs))\/∃kvs,H p=some (.dT kvs)))\/(T = "set"/\∃S n,H p=some (.set S n))
 | _=>False
theorem Vw {T:String} {x:V} {v:Value} (I:Inv X pins σ H s) (r:RelV x v) (ty:Zm X.K T x H):
  s.TypeIs v T/\∀a,v = .ref a->∃ob,s.heap.get? a=some ob/\ob.dict=none:=by
 cases x with
 | str z=>
   obtain ⟨t,rfl⟩:=r
   cases (show T = "str" from ty)
   exact ⟨typeIs_str s z t,fun _ e=>nomatch e⟩
 | int i=>
   obtain ⟨t,rfl⟩:=r
   cases (show T = "int" from ty)
   exact ⟨typeIs_int s i t,fun _ e=>nomatch e⟩
 | ref p=>
   cases r
   rcases ty with ⟨rfl,xs,hq⟩|⟨rfl,o,hk,hc,hd⟩|⟨rfl,hk⟩|⟨rfl,S,n,hk⟩
   . obtain ⟨its,_,pl,_⟩:=I.list hq
     refine ⟨pl.isList.typeIs,fun a e=>?_⟩
     cases e
     obtain ⟨o,n,e,c,hd,_⟩:=pl
     exact ⟨o,e,hd⟩
   . refine ⟨⟨o,I.qM p o hk,hc⟩,fun a e=>?_⟩
     cases e
     exact ⟨o,I.qM _ o hk,hd⟩
   . have z:∃o,s.heap.get? p=some o/\o.ExactDict:=by
      rcases hk with ⟨kvs,hk⟩|⟨kvs,hk⟩
      . obtain ⟨_,_,_,_,o,_,_,e,ex,_⟩:=I.hok p _ hk
        exact ⟨o,e,ex⟩
      . obtain ⟨_,_,_,_,o,_,_,e,ex,_⟩:=I.hok p _ hk
        exact ⟨o,e,ex⟩
     obtain ⟨o,e,ex⟩:=z
     refine ⟨⟨o,e,ex.1⟩,fun a e2=>?_⟩
     cases e2
     exact ⟨o,e,ex.2.1⟩
   . obtain ⟨o,_,_,_,e,ex,_⟩:=I.hok p _ hk
     refine ⟨⟨o,e,ex.1⟩,fun a e2=>?_⟩
     cases e2
     exact ⟨o,e,ex.2.1⟩
 | _=>exact False.elim ty
def Vx (r:V->List V->Hp->VK->Prop) (Q:VK) (x:V):List V->Hp->Prop:=fun xs H2=>r x xs H2 Q
inductive abh (K:Fg) (T:String) (r:V->List V->Hp->VK->Prop) (t:TA) (σ:St) (Q:VK) (x:V) (H1:Hp):Prop
 | mk  (_:Zm K T x H1) (_:t σ H1 (Vx r Q x))
def tBM (K:Fg) (T:String) (r:V->List V->Hp->VK->Prop) (to:TE) (t:TA):TE:=fun σ H Q=>to σ H (abh K T r t σ Q)
variable {o e:Expr} {es:List Expr} {to:TE} {t:TA} {name:Str} {apos cpos:Pos} {T id:String} {r:V->List V->Hp->VK->Prop}
end
def MtM (X:Cx) (id:String) (r:V->List V->Hp->VK->Prop):Prop:=
 ∀(pins:AO) (s:Shared) (σ:St) (H:Hp) (x:V) (xs:List V) (v:Value) (us:List Value) (Q:VK),Inv X pins σ H s->RelV x v->Vals xs us->r x xs H Q->
  wpAny (model X.prog X.w) X.A (call (.builtin id) (v::us)) (EP X pins σ Q) X.xe s
theorem Vals.one:∀{x:V} {us:List Value},Vals [x] us->∃u,us=[u]/\RelV x u
 | _,_, .cons r .nil=>⟨_,Z,r⟩
variable {us:List Value}
theorem Vals.reverse (h:Vals xs us):Vals xs.reverse us.reverse:=by
 induction h with
 | nil=>exact .nil
 | cons r t ih=>rw [List.reverse_cons,List.reverse_cons];exact Vals.append ih (.cons r .nil)
theorem Vals.rep {xs:List V} {us:List Value} (h:Vals xs us):∀k:Nat,Vals (List.replicate k xs).flatten (List.replicate k us).flatten
 | 0=> .nil
 | k+1=>by
   rw [yV,yV,LZ,LZ]
   exact Vals.append h (Vals.rep h k)
theorem foldl_rep (its:List Value):∀(k:Nat) (acc:List Value),
  List.foldl (fun x1 x2=>x1++x2) acc.toArray (List.replicate k its.toArray)=(acc++(List.replicate k its).flatten).toArray
 | 0,acc=>by simp
 | k+1,acc=>by
   have e:acc.toArray++its.toArray=(acc++its).toArray:=by simp
   have e2:(acc++its)++(List.replicate k its).flatten=acc++(List.replicate (k+1) its).flatten:=by
    rw [yV,LZ,L1]
   rw [<-e2,<-foldl_rep its k (acc++its),<-e,yV,iV]
variable {t':Nat}
section
variable {X:Cx} {pins:AO} {σ:St} {H:Hp} {s:Shared} {l b:Addr} {xs ys zs:List V}
theorem Inv.abi {n:Nat} {f:Array Value->Array Value} (I:Inv X pins σ H s) (hH:H l=some (.lst xs))
  (e:s.heap.get? l=some { cls:= .type "list",data:= .seq its.toArray n }) (hf:f its.toArray=its'.toArray) (hv:Vals ys its') (hz:ys.length<=sizeLine):
  Inv X pins σ (upd H l (.lst ys)) { s with heap:=s.heap.update l (Obj.mapSeq f),toks:=t' }:=by
 have q:=PySem.IsL.update e f
 rw [hf] at q
 refine I.write (x:=l) (e:=l) (by rw [hH];exact trivial) (.inl rfl) (fun b' u hb hu=>(Heap.get?_update_other s.heap (Obj.mapSeq f) (cD hb)).trans hu) ⟨_,q⟩ ?_
 exact ⟨hz,its',_,hv,q⟩
theorem Inv.Vy (I:Inv X pins σ H s) (hv:Vals ys its) (hz:ys.length<=sizeLine):
  Inv X pins σ (upd H s.heap.objs.size (.lst ys)) { s with heap:=s.heap.push { cls:= .type "list",data:= .seq its.toArray },toks:=t' }:=
 I.laid (fun _ _ q=>bU _ q) (aK _) ⟨hz,its,0,hv,dP _ rfl⟩
theorem Inv.fresh (I:Inv X pins σ H s):H s.heap.objs.size=none:=I.hok.fresh (aK _)
theorem Inv.Ms (I:Inv X pins σ H s) (hH:H l=some (.lst xs)):xs.length<=sizeLine/\∃(its:List Value) (n:Nat),Vals xs its/\xs.length=its.length/\s.heap.get? l=some { cls:= .type "list",data:= .seq its.toArray n }:=by
 obtain ⟨z,its,n,r,e⟩:=I.hok l _ hH
 exact ⟨z,its,n,r,r.length,e⟩
theorem Qp {n:Nat} (h:n<=sizeLine):Builtin.List.listTooLong n=false:=by
 unfold Builtin.List.listTooLong
 exact cu (by omega)
end
section
variable {X:Cx}
inductive Tc (x:V) (vs:List V) (H:Hp) (Q:VK):Prop
 | mk  (l xs y:_) (_:x = .ref l) (_:vs=[y]) (_:H l=some (.lst xs)) (_:xs.length<sizeLine) (_:Q .bL (upd H l (.lst (xs++[y]))))
theorem dD:MtM X "list.append" Tc:=by
 intro pins s σ H x vs v us Q I rx rv h
 obtain ⟨l,xs,y,rfl,rfl,hH,hz,q⟩:=h
 cases rx
 obtain ⟨u,rfl,ru⟩:=rv.one
 obtain ⟨z,its,n,r,hl,e⟩:=I.Ms hH
 refine call_meets F.slot_list_append ⟨_,e,Z⟩ F.entry_list_append (F.args_list_append_2 _ _) (PySem.list_append l its.toArray n u (by rw [gE];omega)) ⟨e,?_⟩
 refine ⟨.bL,_,I.abi (its':=its++[u]) hH e (by simp) (r.append (.cons ru .nil)) ?_,Z,q⟩
 rw [cT,List.length_singleton]
 omega
inductive abj (x:V) (y:V) (H:Hp) (Q:VK):Prop
 | mk  (l b xs zs:_) (_:x = .ref l) (_:y = .ref b) (_:H l=some (.lst xs)) (_:H b=some (.lst zs)) (_:xs.length+zs.length<=sizeLine) (_:∀p,H p=none->Q (.ref p) (upd H p (.lst (xs++zs))))
theorem Vz:i7 X (binaryOp .Add) abj:=by
 intro pins s σ H x y v u Q I rx ry h
 obtain ⟨l,b,xs,zs,rfl,rfl,hH,hB,hz,q⟩:=h
 cases rx
 cases ry
 obtain ⟨z,its,n,r,hl,e⟩:=I.Ms hH
 obtain ⟨z2,its2,n2,r2,hl2,e2⟩:=I.Ms hB
 refine PySem.P.add_list e e2 ?_ (by rw [gE,gE];omega)
 have ea:its.toArray++its2.toArray=(its++its2).toArray:=by simp
 rw [ea]
 exact ⟨.ref _,_,I.Vy (t':=s.toks) (r.append r2) (by rw [cT];omega),Z,q _ I.fresh⟩
inductive abk (x:V) (y:V) (H:Hp) (Q:VK):Prop
 | mk  (l k xs:_) (_:x = .ref l) (_:y = .int k) (_:H l=some (.lst xs)) (_:-(2 ^ 63)<=k) (_:k<2 ^ 63) (_:xs.length*k.toNat<=sizeLine) (_:∀p,H p=none->Q (.ref p) (upd H p (.lst (List.replicate k.toNat xs).flatten)))
theorem len_rep {α:Type} (xs:List α) (k:Nat):(List.replicate k xs).flatten.length=k*xs.length:=by
 induction k with
 | zero=>simp
 | succ k ih=>rw [yV,LZ,cT,ih,Nat.succ_mul,Nat.add_comm]
theorem N3:i7 X (binaryOp .Mult) abk:=by
 intro pins s σ H x y v u Q I rx ry h
 obtain ⟨l,k,xs,rfl,rfl,hH,h1,h2,hz,q⟩:=h
 cases rx
 obtain ⟨t,rfl⟩:=ry
 obtain ⟨z,its,n,r,hl,e⟩:=I.Ms hH
 have hlen:its.toArray.size*k.toNat<=sizeLine:=by rw [gE,<-hl];exact hz
 have hcap:¬ its.toArray.size*k.toNat>(2 ^ 63-1) / 8:=by
  have:(sizeLine:Nat)<=(2 ^ 63-1) / 8:=by decide
  omega
 have hfit:¬ (!Builtin.List.listFitsIndex k)=true:=by
  rw [fitsIndex_both h1 h2]
  exact eX
 have Yl:¬ Builtin.List.listTooLong (its.toArray.size*k.toNat)=true:=by
  rw [Qp hlen]
  exact eX
 have hnew:List.foldl (fun x1 x2=>x1++x2) #[] (List.replicate (if its.toArray.isEmpty=true then 0 else k.toNat) its.toArray)=(List.replicate k.toNat its).flatten.toArray:=by
  have f0:∀m:Nat,List.foldl (fun x1 x2=>x1++x2) #[] (List.replicate m its.toArray)=(List.replicate m its).flatten.toArray:=fun m=>by
   have:=foldl_rep its m []
   rw [E7] at this
   exact this
  rw [f0]
  cases its with
  | nil=>simp
  | cons a r'=>rw [az (by simp)]
 refine wpAny_binaryOp_repeat_ref (T:="list") (U:="int") (by decide) ⟨_,e,Z⟩ (fun s'=>typeIs_int s' k t) noFill_list_mul F.fills_int_mul F.slot_int_rmul repeat_list F.slot_int_index.lookup
  (call_meets F.slot_int_rmul (typeIs_int s k t) F.entry_int_rmul (F.args_int_rmul_2 _ _) (int___rmul___int_list k t l its.toArray n)
    ⟨e,Z,⟨_,e,Z⟩,call_meets F.slot_list_mul ⟨_,e,Z⟩ F.entry_list_mul (F.args_list_mul_2 _ _) (AutoListH.list___mul___list_int_3 l its.toArray n k t hfit hcap Yl) ⟨e,?_⟩⟩)
 rw [hnew]
 exact ⟨.ref _,_,I.Vy (t':=s.toks) (r.rep k.toNat) (by rw [len_rep,Nat.mul_comm];exact hz),Z,q _ I.fresh⟩
end
section
variable {prog:Program} {w:World} {A:Around} {E:VS} {s:Shared}
set_option maxRecDepth 100000 in
end
section
variable {X:Cx}
end
section
variable {κ:Type} [DecidableEq κ]
def c5 (kvs:List (κ×V)) (k:κ):Option V:=(kvs.find? fun kv=>decide (kv.1=k)).map (·.2)
def putK (kvs:List (κ×V)) (k:κ) (v:V):List (κ×V):=
 if (kvs.any fun kv=>decide (kv.1=k))=true then kvs.map (fun kv=>if kv.1=k then (kv.1,v) else kv) else kvs++[(k,v)]
def kH (kvs:List (κ×V)) (k:κ):List (κ×V):=kvs.filter fun kv=>decide (kv.1≠k)
theorem fJ {p:κ×V} {r:List (κ×V)} {k:κ} (e:p.1=k):c5 (p::r) k=some p.2:=by simp [c5,qP,e]
theorem dQ {p:κ×V} {r:List (κ×V)} {k:κ} (e:¬ p.1=k):c5 (p::r) k=c5 r k:=by simp [c5,qP,e]
theorem oG (k:κ):∀kvs:List (κ×V),(kvs.any fun kv=>decide (kv.1=k))=(c5 kvs k).isSome
 | []=>rfl
 | p::r=>by
   rw [z9]
   by_cases e:p.1=k
   . simp only [fJ e,aX e,Bool.true_or,Option.isSome_some]
   . rw [dQ e,cu e,Bool.false_or];exact oG k r
theorem Gb (k j:κ) (y:V):∀kvs:List (κ×V),c5 (kvs.map fun kv=>if kv.1=k then (kv.1,y) else kv) j=(c5 kvs j).map fun x=>if j=k then y else x
 | []=>rfl
 | p::r=>by
   have ih:=Gb k j y r
   rw [cj]
   by_cases h:p.1=k
   . rw [aA h]
     by_cases e:p.1=j
     . rw [fJ (p:=(p.1,y)) e,fJ e,E8,aA (e.symm.trans h)]
     . rw [dQ (p:=(p.1,y)) e,dQ e,ih]
   . rw [az h]
     by_cases e:p.1=j
     . rw [fJ (p:=p) e,fJ e,E8,az (fun z=>h (e.trans z))]
     . rw [dQ (p:=p) e,dQ e,ih]
theorem Du (k j:κ) (y:V):∀kvs:List (κ×V),c5 kvs k=none->c5 (kvs++[(k,y)]) j=if j=k then some y else c5 kvs j
 | [],_=>by
   by_cases e:k=j
   . rw [aA e.symm];exact fJ (p:=(k,y)) e
   . rw [az (fun z=>e z.symm)];exact dQ (p:=(k,y)) e
 | p::r,hn=>by
   rw [L6]
   have hk:¬ p.1=k:=fun z=>by rw [fJ z] at hn;cases hn
   rw [dQ hk] at hn
   have ih:=Du k j y r hn
   by_cases e:p.1=j
   . rw [fJ e,fJ e,az (fun z=>hk (e.trans z))]
   . rw [dQ e,dQ e,ih]
theorem Qq (kvs:List (κ×V)) (k j:κ) (y:V):c5 (putK kvs k y) j=if j=k then some y else c5 kvs j:=by
 unfold putK
 by_cases a:(kvs.any fun kv=>decide (kv.1=k))=true
 . rw [aA a,Gb]
   rw [oG] at a
   by_cases e:j=k
   . obtain ⟨x,hx⟩:=Option.isSome_iff_exists.mp a
     rw [aA e,e,hx,E8,aA rfl]
   . rw [az e]
     cases c5 kvs j with
     | none=>rfl
     | some x=>rw [E8,az e]
 . rw [az a]
   refine Du k j y kvs ?_
   rw [oG] at a
   cases q:c5 kvs k with
   | none=>rfl
   | some x=>rw [q] at a;exact (a rfl).elim
theorem t7 (kvs:List (κ×V)) (k:κ) (v:V):(putK kvs k v).length<=kvs.length+1:=by
 unfold putK
 split
 . rw [aC];omega
 . rw [cT,jL,List.length_nil];omega
theorem lY {kvs:List (κ×V)} {k:κ} (v:V) (h:c5 kvs k=none):putK kvs k v=kvs++[(k,v)] :=by
 unfold putK
 rw [oG,h]
 exact az (by decide)
theorem kU.mJ {o:Option V} {u:Option Value} (r:kU o u):o.isSome=u.isSome:=by
 cases o with
 | none=>cases u with
   | none=>rfl
   | some _=>exact (show False from r).elim
 | some _=>cases u with
   | none=>exact (show False from r).elim
   | some _=>rfl
theorem KV.val {kvs:List (κ×V)} {vs:List (κ×Value)} (r:KV kvs vs) (k:κ):kU (c5 kvs k) (valueAt vs k):=by
 unfold KV at r
 induction r with
 | nil=>exact True.intro
 | @cons p q ps qs h t ih=>
   obtain ⟨h1,h2⟩:=h
   by_cases e:p.1=k
   . have e':q.1=k:=h1.symm.trans e
     have b:valueAt (q::qs) k=some q.2:=by simp [valueAt,qP,e']
     rw [fJ e,b];exact h2
   . have e':¬ q.1=k:=fun z=>e (h1.trans z)
     have b:valueAt (q::qs) k=valueAt qs k:=by simp [valueAt,qP,e']
     rw [dQ e,b];exact ih
theorem KV.any {kvs:List (κ×V)} {vs:List (κ×Value)} (r:KV kvs vs) (k:κ):(kvs.any fun kv=>decide (kv.1=k))=vs.any fun kv=>decide (kv.1=k):=by
 unfold KV at r
 induction r with
 | nil=>rfl
 | cons h t ih=>rw [z9,z9,ih,h.1]
theorem KV.repl {kvs:List (κ×V)} {vs:List (κ×Value)} (r:KV kvs vs) (k:κ) (ry:RelV y u):
  KV (kvs.map fun kv=>if kv.1=k then (kv.1,y) else kv) (vs.map fun kv=>if kv.1=k then (kv.1,u) else kv):=by
 unfold KV at r ⊢
 induction r with
 | nil=>exact .nil
 | @cons p q ps qs h t ih=>
   rw [cj,cj]
   refine .cons ?_ ih
   obtain ⟨h1,h2⟩:=h
   by_cases e:p.1=k
   . rw [aA e,aA (h1.symm.trans e)];exact ⟨h1,ry⟩
   . rw [az e,az (fun z=>e (h1.trans z))];exact ⟨h1,h2⟩
theorem KV.put {kvs:List (κ×V)} {vs:List (κ×Value)} (r:KV kvs vs) (k:κ) (ry:RelV y u):KV (putK kvs k y) (stored vs k u):=by
 unfold putK stored
 rw [r.any k]
 by_cases e:(vs.any fun kv=>decide (kv.1=k))=true
 . rw [aA e,aA e];exact r.repl k ry
 . rw [az e,az e];exact Paired.snoc r ⟨Z,ry⟩
theorem KV.drop {kvs:List (κ×V)} {vs:List (κ×Value)} (r:KV kvs vs) (k:κ):KV (kH kvs k) (without vs k):=by
 unfold KV at r ⊢
 unfold kH without
 induction r with
 | nil=>exact .nil
 | @cons p q ps qs h t ih=>
   obtain ⟨h1,h2⟩:=h
   rw [gF,gF]
   by_cases e:p.1=k
   . have a:¬ decide (p.1≠k)=true:=by simp [e]
     have b:¬ decide (q.1≠k)=true:=by simp [h1.symm.trans e]
     rw [az a,az b];exact ih
   . have e':¬ q.1=k:=fun z=>e (h1.trans z)
     have a:decide (p.1≠k)=true:=by simp [e]
     have b:decide (q.1≠k)=true:=by simp [e']
     rw [aA a,aA b];exact .cons ⟨h1,h2⟩ ih
theorem KV.length {kvs:List (κ×V)} {vs:List (κ×Value)} (r:KV kvs vs):kvs.length=vs.length:=Paired.length r
theorem Qs (kvs:List (κ×V)) (k:κ):(kH kvs k).length<=kvs.length:=List.length_filter_le _ _
end
variable {P:Program}
theorem vf {w:World} {k:Key} (r:RelV (kV k) u):(cA P w).is k u=true:=by
 cases k with
 | inl i=>obtain ⟨t,e⟩:=(show ∃t,u=Value.int i t from r);subst e;exact Jr P w i t
 | inr x=>obtain ⟨t,e⟩:=(show ∃t,u=Value.str x t from r);subst e;exact Js P w x t
theorem Dv {P:Program} {w:World}:∀{ks:List Key} {us:List Value},Vals (ks.map kV) us->ItemsAre (cA P w) ks us
 | [],_,r=>by rw [List.map_nil] at r;cases r;exact .nil
 | k::ks,_,r=>by
   rw [cj] at r
   cases r with
   | cons h t=>exact .cons (vf h) (Dv t)
abbrev KT (H:Hp):List (List Key×V)->List (List Key×Addr×Value)->Prop:=Paired fun p q=>p.1=q.1/\H q.2.1=some (.tup (p.1.map kV))/\RelV p.2 q.2.2
theorem KT.val {kvs:List (List Key×V)} {xs:List (List Key×Addr×Value)} (r:KT H kvs xs) (k:List Key):kU (c5 kvs k) ((atKey xs k).map (·.2)):=by
 induction r with
 | nil=>exact True.intro
 | @cons p q ps qs h t ih=>
   obtain ⟨h1,_,h2⟩:=h
   by_cases e:p.1=k
   . have e':q.1=k:=h1.symm.trans e
     have b:atKey (q::qs) k=some q.2:=by simp [atKey,qP,e']
     rw [fJ e,b];exact h2
   . have e':¬ q.1=k:=fun z=>e (h1.trans z)
     have b:atKey (q::qs) k=atKey qs k:=by simp [atKey,qP,e']
     rw [dQ e,b];exact ih
theorem KT.repl {kvs:List (List Key×V)} {xs:List (List Key×Addr×Value)} (r:KT H kvs xs) (k:List Key) (ry:RelV y u):
  KT H (kvs.map fun kv=>if kv.1=k then (kv.1,y) else kv) (xs.map (putAt k u)):=by
 induction r with
 | nil=>exact .nil
 | @cons p q ps qs h t ih=>
   rw [cj,cj]
   refine .cons ?_ ih
   obtain ⟨h1,h2,h3⟩:=h
   unfold putAt
   by_cases e:p.1=k
   . rw [aA e,aA (h1.symm.trans e)];exact ⟨h1,h2,ry⟩
   . rw [az e,az (fun z=>e (h1.trans z))];exact ⟨h1,h2,h3⟩
variable {b:Addr}
theorem KT.put {kvs:List (List Key×V)} {xs:List (List Key×Addr×Value)} (r:KT H kvs xs) (k:List Key) (hb:H b=some (.tup (k.map kV))) (ry:RelV y u):
  KT H (putK kvs k y) (storedH xs k b u):=by
 have e:(kvs.any fun kv=>decide (kv.1=k))=(atKey xs k).isSome:=by
  rw [oG,(r.val k).mJ,Option.isSome_map]
 unfold putK storedH
 rw [e]
 by_cases q:(atKey xs k).isSome=true
 . rw [aA q,aA q];exact r.repl k ry
 . rw [az q,az q];exact Paired.snoc r ⟨Z,hb,ry⟩
variable {H':Hp}
theorem KT.keeps {kvs:List (List Key×V)} {xs:List (List Key×Addr×Value)} (r:KT H kvs xs) (ht:∀b ys,H b=some (.tup ys)->H' b=some (.tup ys)):KT H' kvs xs:=
 Paired.PU r fun _ _ z=>⟨z.1,ht _ _ z.2.1,z.2.2⟩
variable {kvs:List (Key×V)}
section
variable {P:Program} {w:World} {H:Hp} {h:Heap} {a:Addr}
theorem RT {u:HO} (ok:f_ P w H h) (e:Rd H a u):dS P w H h a u:=e.ok ok
theorem qS (ok:f_ P w H h) (e:Rd H a (.dK kvs)):kvs.length<=sizeLine/\(a==sysModules)=false/\∃vs,KV kvs vs/\h.DictOf (cA P w) a vs:=
 show dS P w H h a (.dK kvs) from RT ok e
theorem Ar (ok:f_ P w H h) (e:H a=some (.dK kvs)):kvs.length<=sizeLine/\(a==sysModules)=false/\∃vs,KV kvs vs/\h.DictOf (cA P w) a vs:=qS ok (.inl e)
theorem wV {ks:List Key} (ok:f_ P w H h) (e:H a=some (.tup (ks.map kV))):(tupleKind (cA P w)).is h ks a:=by
 obtain ⟨_,its,r,o,h1,h2,n,h3⟩:=(show dS P w H h a (.tup (ks.map kV)) from ok a _ e)
 exact ⟨o,its.toArray,n,h1,h2,h3,by simpa using Dv r⟩
theorem yj {kvs:List (List Key×V)} (ok:f_ P w H h) (e:Rd H a (.dT kvs)):kvs.length<=sizeLine/\(a==sysModules)=false/\
  ∃xs,KT H kvs xs/\h.DictOfH (tupleKind (cA P w)) a xs:=by
 obtain ⟨z,y,xs,r,o,es,ep,h1,h2,h3,h4,h5⟩:=(show dS P w H h a (.dT kvs) from RT ok e)
 refine ⟨z,y,xs,r,o,es,ep,h1,h2,h3,h4,fun x hx=>?_,h5⟩
 have all:∀{l:List (List Key×V)} {m:List (List Key×Addr×Value)},KT H l m->∀x∈m,(tupleKind (cA P w)).is h x.1 x.2.1:=by
  intro l m q
  induction q with
  | nil=>intro x hx;exact nomatch hx
  | @cons p q ps qs hq t ih=>
    intro x hx
    rcases c8.mp hx with e|hx
    . subst e
      exact wV ok (by rw [<-hq.1];exact hq.2.1)
    . exact ih x hx
 exact all r x hx
theorem Ym {kvs:List (List Key×V)} (ok:f_ P w H h) (e:H a=some (.dT kvs)):kvs.length<=sizeLine/\(a==sysModules)=false/\
  ∃xs,KT H kvs xs/\h.DictOfH (tupleKind (cA P w)) a xs:=yj ok (.inl e)
end
def dR (H:Hp) (a:Addr) (y:V) (r:Option V):Prop:=
 (∃kvs k,Rd H a (.dK kvs)/\y=kV k/\r=c5 kvs k)\/∃kvs k b,Rd H a (.dT kvs)/\y = .ref b/\H b=some (.tup (k.map kV))/\r=c5 kvs k
def t8 (H:Hp) (a:Addr) (y v:V) (H':Hp):Prop:=
 (∃kvs k,H a=some (.dK kvs)/\y=kV k/\kvs.length<sizeLine/\H'=upd H a (.dK (putK kvs k v)))\/
 ∃kvs k b,H a=some (.dT kvs)/\y = .ref b/\H b=some (.tup (k.map kV))/\kvs.length<sizeLine/\H'=upd H a (.dT (putK kvs k v))
variable {a:Addr}
theorem dR.k {k:Key} (e:H a=some (.dK kvs)):dR H a (kV k) (c5 kvs k):= .inl ⟨kvs,k, .inl e,Z,Z⟩
theorem t8.k {k:Key} {v:V} (e:H a=some (.dK kvs)) (hl:kvs.length<sizeLine):t8 H a (kV k) v (upd H a (.dK (putK kvs k v))):= .inl ⟨kvs,k,e,Z,hl,Z⟩
variable {h':Heap} {Q:Unit->Shared->Prop}
section
variable {X:Cx} {pins:AO} {σ:St} {H:Hp} {s:Shared} {a:Addr} {y v:V} {u r:Value} {o:Option V} {A:Around} {E:VS}
theorem Inv.big (I:Inv X pins σ H s):sysModules<s.heap.objs.size:=by
 have h:mainGlobals<s.heap.objs.size:=(I.mod.glob.keeps I.bk).lt
 exact Nat.lt_trans (by decide) h
theorem N4 {Q:VS} (hu:A.units+1<cLine) (I:Inv X pins σ H s) (g:dR H a y (some v)) (ry:RelV y u) (h:∀w' s',Inv X pins σ H s'->RelV v w'->Q w' s'):
  wpAny (model X.prog X.w) A (getItem (.ref a) u) Q E s:=by
 rcases g with ⟨kvs,k,e,ey,l⟩|⟨kvs,k,b,e,ey,eb,l⟩
 . subst ey
   obtain ⟨z,hd,vs,rel,dd⟩:=qS I.hok e
   obtain ⟨w',hw,rw'⟩:=kU.some_of (v:=v) (o:=valueAt vs k) (by rw [l];exact rel.val k)
   exact wpAny_getItem_of (vf ry) dd.mapOf hw (h w' _ (I.tok _) rw')
 . subst ey
   cases (show u=Value.ref b from ry)
   obtain ⟨z,hd,xs,rel,dd⟩:=yj I.hok e
   obtain ⟨w',hw,rw'⟩:=kU.some_of (v:=v) (o:=(atKey xs k).map (·.2)) (by rw [l];exact rel.val k)
   obtain ⟨p,hp,hp2⟩:=mU.mp hw
   refine wpAny_getItem_heap (LV hu) (wV I.hok eb) dd hp ?_
   rw [hp2]
   exact h w' _ (I.tok _) rw'
theorem abl {Q:VS} (hu:A.units+1<cLine) (I:Inv X pins σ H s) (g:dR H a y o) (ry:RelV y u) (h:∀s',Inv X pins σ H s'->Q (.bool o.isSome) s'):
  wpAny (model X.prog X.w) A (compareOp .In u (.ref a)) Q E s:=by
 rcases g with ⟨kvs,k,e,ey,l⟩|⟨kvs,k,b,e,ey,eb,l⟩
 . subst ey
   obtain ⟨z,hd,vs,rel,dd⟩:=qS I.hok e
   refine wpAny_in_of (vf ry) hd dd.mapOf ?_
   rw [<-(rel.val k).mJ,<-l]
   exact h _ (I.tok _)
 . subst ey
   cases (show u=Value.ref b from ry)
   obtain ⟨z,hd,xs,rel,dd⟩:=yj I.hok e
   refine wpAny_in_heap (LV hu) (wV I.hok eb) hd dd ?_
   have q:=(rel.val k).mJ
   rw [Option.isSome_map] at q
   rw [<-q,<-l]
   exact h _ (I.tok _)
theorem Td {Q:VS} (hu:A.units+1<cLine) (I:Inv X pins σ H s) (g:dR H a y o) (ry:RelV y u) (h:∀s',Inv X pins σ H s'->Q (.bool (!o.isSome)) s'):
  wpAny (model X.prog X.w) A (compareOp .NotIn u (.ref a)) Q E s:=by
 rcases g with ⟨kvs,k,e,ey,l⟩|⟨kvs,k,b,e,ey,eb,l⟩
 . subst ey
   obtain ⟨z,hd,vs,rel,dd⟩:=qS I.hok e
   refine wpAny_notIn_of (vf ry) hd dd.mapOf ?_
   rw [<-(rel.val k).mJ,<-l]
   exact h _ (I.tok _)
 . subst ey
   cases (show u=Value.ref b from ry)
   obtain ⟨z,hd,xs,rel,dd⟩:=yj I.hok e
   refine wpAny_notIn_heap (LV hu) (wV I.hok eb) hd dd ?_
   have q:=(rel.val k).mJ
   rw [Option.isSome_map] at q
   rw [<-q,<-l]
   exact h _ (I.tok _)
theorem yk (I:Inv X pins σ H s) (mu:NC (H a)) (hs:Heap.SameBut a s.heap h') (he:∃q,h'.get? a=some q) (new:dS X.prog X.w (upd H a ob) h' a ob):
  Inv X pins σ (upd H a ob) { s with heap:=h',toks:=t' }:=
 I.write (x:=a) (e:=a) mu (.inl rfl) (fun b q hb z=>(hs.2 b hb).trans z) he new
theorem Gd {w:World} {vs:List (Key×Value)} (z:kvs.length<=sizeLine) (hd:(a==sysModules)=false) (rel:KV kvs vs) (dd:h'.DictOf (cA P w) a vs):
  dS P w H' h' a (.dK kvs):=⟨z,hd,vs,rel,dd⟩
theorem N5 (hu:A.units+1<cLine) (I:Inv X pins σ H s) (g:t8 H a y v H') (ry:RelV y u) (rv:RelV v r) (h:∀s',Inv X pins σ H' s'->Q () s'):
  wpAny (model X.prog X.w) A (setItem (.ref a) u r) Q E s:=by
 rcases g with ⟨kvs,k,e,ey,l,eH⟩|⟨kvs,k,b,e,ey,eb,l,eH⟩
 . subst ey eH
   obtain ⟨z,hd,vs,rel,dd⟩:=Ar I.hok e
   have hz:vs.length<=sizeLine:=by rw [<-rel.length];exact z
   have hl:(putK kvs k v).length<=sizeLine:=by have:=t7 kvs k v;omega
   refine wpAny_setItem_pairs (hsz:=hz) (vf ry) dd fun h' yH hs=>h _ ?_
   have he:∃q,h'.get? a=some q:=let ⟨q,_,_,hq,_⟩:=yH;⟨q,hq⟩
   exact yk I (by rw [e];exact True.intro) hs he (Gd hl hd (rel.put k rv) yH)
 . subst ey eH
   cases (show u=Value.ref b from ry)
   obtain ⟨z,hd,xs,rel,dd⟩:=Ym I.hok e
   have hz:xs.length<=sizeLine:=by rw [<-Paired.length rel];exact z
   have hl:(putK kvs k v).length<=sizeLine:=by have:=t7 kvs k v;omega
   refine wpAny_setItem_heap (hsz:=hz) (LV hu) (wV I.hok eb) dd fun h' yH hs=>h _ ?_
   obtain ⟨q,es,ep,hq,h2,h3,h4,_,h5⟩:=yH
   refine yk I (by rw [e];exact True.intro) hs ⟨q,hq⟩ ⟨hl,hd,_,(rel.put k eb rv).keeps fun c ys ec=>?_,q,es,ep,hq,h2,h3,h4,h5⟩
   rw [av (iz ec e (fun z=>nomatch z))]
   exact ec
end
section
variable {X:Cx} {pins:AO} {σ:St} {H:Hp} {s:Shared} {a:Addr} {kvs:List (Key×V)} {k:Key} {u:Value} {A:Around} {E:VS}
theorem N6 (I:Inv X pins σ H s) (e:H a=some (.dK kvs)) (ry:RelV (kV k) u) (l:(c5 kvs k).isSome=true) (h:∀s',Inv X pins σ (upd H a (.dK (kH kvs k))) s'->Q () s'):
  wpAny (model X.prog X.w) A (delItem (.ref a) u) Q E s:=by
 obtain ⟨z,hd,vs,rel,dd⟩:=Ar I.hok e
 refine wpAny_delItem_slot dd.typeIs (by decide) PySem.F.slot_dict_delitem
  (call_meetsIn PySem.F.slot_dict_delitem dd.typeIs PySem.F.entry_dict_delitem (PySem.F.args_dict_delitem_2 _ _) (meets_dict_delitem_pairs (cA X.prog X.w) a (vf ry)) ⟨vs,dd,by rw [<-rel.length];exact z,by rw [<-(rel.val k).mJ];exact l,fun h' yH hs=>h _ ?_⟩)
 have he:∃q,h'.get? a=some q:=let ⟨q,_,_,hq,_⟩:=yH;⟨q,hq⟩
 exact yk I (by rw [e];exact True.intro) hs he (Gd (fH (Qs kvs k) z) hd (rel.drop k) yH)
theorem Yn {Q:VS} (I:Inv X pins σ H s) (e:Rd H a (.dK kvs)) (h:∀t s',Inv X pins σ H s'->Q (.int kvs.length t) s'):wpAny (model X.prog X.w) A (call (.builtin "len") [.ref a]) Q E s:=by
 obtain ⟨z,hd,vs,rel,dd⟩:=qS I.hok e
 refine call_len_dict hd dd (by rw [<-rel.length];rw [ji] at z;omega) ?_
 rw [<-rel.length]
 exact h _ _ (I.tok _)
end
def VA (i:Expr):Prop:=∀ov iv,subscripted i false ov iv=operate [ov,iv] (getItem ov iv)
variable {E:VS} {env:Env} {value:Expr} {pos:Pos}
theorem Te {prog:Program} {w:World} {A:Around} {slice:Expr} {T id:String} {Q:VS}
  (hl:typeLookup (.type T) "__getitem__"=pure (some (.builtin id))) (hs:VA slice)
  (h:wpAny (model prog w) A (eval value env) (fun o s₁=>wpAny (model prog w) A (eval slice env) (fun i s₂=>s₂.TypeIs o T/\wpAny (model prog w) A (getItem o i) Q E s₂) E s₁) E s):
  wpAny (model prog w) A (eval (.Subscript value slice pos) env) Q E s:=by
 refine Subscript_ (iG h (fun o s₁ h₁=>iG h₁ (fun i s₂ h₂=>?_) fun _ _ x=>x) fun _ _ x=>x)
 obtain ⟨hT,h₂⟩:=h₂
 unfold subscriptTail
 refine ay ?_
 rw [getitemInPython_of_ne hT.not_modules]
 refine ay (wpAny_specialOf hT hl ?_)
 have fin:wpAny (model prog w) A (subscripted slice false o i) (fun r s₃=>wpAny (model prog w) A (letTemporaryGo value o r >>= fun _=>pure r) Q E s₃) E s₂:=by
  rw [hs o i]
  exact wpAny_operating (iG h₂ (fun r s₃ h₃=>ay (wpAny_letTemporaryGo (aS h₃))) fun _ _ x=>x)
 first
  | exact aS (ay fin)
  | exact ay (aS (ay fin))
  | exact ay fin
variable {X:Cx}
theorem Jt {o:Option V} (I:Inv X pins σ H s) (g:dR H a y o):s.TypeIs (.ref a) "dict":=by
 rcases g with ⟨kvs,k,e,_,_⟩|⟨kvs,k,b,e,_,_,_⟩
 . obtain ⟨_,_,vs,_,dd⟩:=qS I.hok e
   exact dd.typeIs
 . obtain ⟨_,_,xs,_,dd⟩:=yj I.hok e
   exact dd.typeIs
inductive Qt (Q:VK) (x:V) (y:V) (H2:Hp):Prop
 | mk  (a v:_) (_:x = .ref a) (_:dR H2 a y (some v)) (_:Q v H2)
def VB (ty:TE) (σ:St) (Q:VK):V->Hp->Prop:=fun x H1=>ty σ H1 (Qt Q x)
def RU (td ty:TE):TE:=fun σ H Q=>td σ H (VB ty σ Q)
inductive Tf (Q:VK) (y:V) (x:V) (H2:Hp):Prop
 | mk  (a o:_) (_:x = .ref a) (_:dR H2 a y o) (_:Q (.bl o.isSome) H2)
def Yo (td:TE) (σ:St) (Q:VK):V->Hp->Prop:=fun y H1=>td σ H1 (Tf Q y)
def abm (ty td:TE):TE:=fun σ H Q=>ty σ H (Yo td σ Q)
inductive Mt (Q:VK) (y:V) (x:V) (H2:Hp):Prop
 | mk  (a o:_) (_:x = .ref a) (_:dR H2 a y o) (_:Q (.bl (!o.isSome)) H2)
def Qu (td:TE) (σ:St) (Q:VK):V->Hp->Prop:=fun y H1=>td σ H1 (Mt Q y)
def Tg (ty td:TE):TE:=fun σ H Q=>ty σ H (Qu td σ Q)
inductive Qv (D:Ends) (σ:St) (v:V) (x:V) (y:V) (H3:Hp):Prop
 | mk  (a H4:_) (_:x = .ref a) (_:t8 H3 a y v H4) (_:D.nx σ H4)
def Qw (ty:TE) (D:Ends) (σ:St) (v:V):V->Hp->Prop:=fun x H2=>ty σ H2 (Qv D σ v x)
def VC (td:TE) (ty:TE) (D:Ends) (σ:St):V->Hp->Prop:=fun v H1=>td σ H1 (Qw ty D σ v)
def Yp (td ty tv:TE):TS:=fun D σ H=>tv σ H (VC td ty D σ)
inductive Qx (D:Ends) (σ:St) (x:V) (y:V) (H2:Hp):Prop
 | mk  (a kvs k:_) (_:x = .ref a) (_:H2 a=some (.dK kvs)) (_:y=kV k) (_:(c5 kvs k).isSome=true) (_:D.nx σ (upd H2 a (.dK (kH kvs k))))
def VD (ty:TE) (D:Ends) (σ:St):V->Hp->Prop:=fun x H1=>ty σ H1 (Qx D σ x)
def Yq (td ty:TE):TS:=fun D σ H=>td σ H (VD ty D σ)
section
variable {X:Cx} {o i e value:Expr} {pos pos' tpos:Pos} {td ty tv:TE}
end
theorem Ge {w:World} (h:Heap) (hb:sysModules<h.objs.size):dS P w H (h.push { cls:= .type "dict",data:= .dict #[] }) h.objs.size (.dK []):=
 ⟨gH _,B7.mpr (cD (ef hb)),[], .nil,Heap.DictOf.new h⟩
def VE:TE:=fun _ H Q=>∀p,H p=none->Q (.ref p) (upd H p (.dK []))
section
variable {X:Cx} {pos:Pos}
end
def As:List (TE×TE)->St->Hp->(List (V×V)->Hp->Prop)->Prop
 | [],_,H,Q=>Q [] H
 | (tk,tv)::r,σ,H,Q=>tk σ H fun x H1=>tv σ H1 fun y H2=>As r σ H2 fun ps H3=>Q ((x,y)::ps) H3
abbrev VV:List (V×V)->List (Value×Value)->Prop:=Paired fun p q=>RelV p.1 q.1/\RelV p.2 q.2
def PPs (X:Cx) (pos:Pos) (keys:List (Option Expr)) (values:List Expr) (Au:List (TE×TE)):Prop:=
 ∀(pins:AO) (s:Shared) (σ:St) (H:Hp) (Q:List (V×V)->Hp->Prop),Inv X pins σ H s->As Au σ H Q->
  wpAny (model X.prog X.w) X.A (evalPairs (pairTrees keys values X.env pos)) (fun vs s'=>∃ps H',Inv X pins σ H' s'/\VV ps vs/\Q ps H') X.xe s
def uF (kvs more:List (Key×V)):List (Key×V):=more.foldl (fun acc kv=>putK acc kv.1 kv.2) kvs
theorem KV.merge:∀{more:List (Key×V)} {rs:List (Key×Value)} {kvs:List (Key×V)} {vs:List (Key×Value)},KV more rs->KV kvs vs->KV (uF kvs more) (merged vs rs):=by
 intro more rs kvs vs r
 unfold KV at r
 induction r generalizing kvs vs with
 | nil=>intro q;exact q
 | @cons p q ps qs h t ih=>
   intro r0
   have e:KV (putK kvs p.1 p.2) (stored vs q.1 q.2):=by
    have:=r0.put p.1 h.2
    rw [<-h.1];exact this
   exact ih e
theorem wu:∀(more kvs:List (Key×V)),(uF kvs more).length<=kvs.length+more.length
 | [],kvs=>by show kvs.length<=kvs.length+0;omega
 | p::r,kvs=>by
   have h1:=wu r (putK kvs p.1 p.2)
   have h2:=t7 kvs p.1 p.2
   show (uF (putK kvs p.1 p.2) r).length<=_
   rw [jL];omega
theorem Av {P:Program} {w:World}:∀{kvs:List (Key×V)} {ws:List (Value×Value)},VV (kvs.map fun kv=>(kV kv.1,kv.2)) ws->∃rs,Carries (cA P w) ws rs/\KV kvs rs
 | [],_,r=>by rw [List.map_nil] at r;cases r;exact ⟨[],True.intro, .nil⟩
 | p::kvs,_,r=>by
   rw [cj] at r
   cases r with
   | @cons a b as bs h t=>
     obtain ⟨rs,c,q⟩:=Av (P:=P) (w:=w) t
     obtain ⟨b1,b2⟩:=b
     exact ⟨(p.1,b2)::rs,⟨vf h.1,Z,c⟩, .cons ⟨Z,h.2⟩ q⟩
def Yr (Au:List (TE×TE)):TE:=fun σ H Q=>∀p,H p=none->As Au σ (upd H p (.dK [])) fun ps H2=>H2 p=some (.dK [])/\∃kvs:List (Key×V),ps=kvs.map (fun kv=>(kV kv.1,kv.2))/\kvs.length<=15/\Q (.ref p) (upd H2 p (.dK (uF [] kvs)))
def IsD (H:Hp) (a:Addr):Prop:=(∃kvs,Rd H a (.dK kvs))\/∃kvs,Rd H a (.dT kvs)
theorem Gf (I:Inv X pins σ H s) (d:IsD H a):
  s.TypeIs (.ref a) "dict"/\(∀b,Value.ref a = .ref b->∃ob,s.heap.get? b=some ob/\ob.dict=none)/\(a==sysModules)=false:=by
 rcases d with ⟨kvs,e⟩|⟨kvs,e⟩
 . obtain ⟨_,hd,vs,_,dd⟩:=qS I.hok e
   refine ⟨dd.typeIs,fun b q=>?_,hd⟩
   cases q
   obtain ⟨ob,_,_,h1,h2,_⟩:=dd
   exact ⟨ob,h1,h2.2.1⟩
 . obtain ⟨_,hd,xs,_,dd⟩:=yj I.hok e
   refine ⟨dd.typeIs,fun b q=>?_,hd⟩
   cases q
   obtain ⟨ob,_,_,h1,h2,_⟩:=dd
   exact ⟨ob,h1,h2.2.1⟩
section
variable {X:Cx} {pins:AO} {σ:St} {H:Hp} {s:Shared} {a:Addr} {y d:V} {u r:Value} {o:Option V} {A:Around} {E:VS}
end
section
variable {X:Cx} {o e f:Expr} {apos cpos:Pos} {td ty tx:TE}
end
section
variable {X:Cx} {pins:AO} {σ:St} {H:Hp} {s:Shared} {a:Addr} {kvs:List (Key×V)} {A:Around} {E:VS}
end
section
variable {X:Cx} {pins:AO} {σ:St} {H:Hp} {s:Shared} {a:Addr} {y:V} {u:Value} {A:Around} {E:VS}
end
end L2
namespace Zn
open PySem PySem.W PySem.Calls PyProof.Rows
theorem Aw {P:Params} {h:Heap}:∀(ns:List Int) (vs:List Value),WellAll P h vs (ns.map WData.int)->IntsAre vs ns:=by
 intro ns
 induction ns with
 | nil=>
   intro vs w
   rw [List.map_nil] at w
   cases w
   exact .nil
 | cons n ns ih=>
   intro vs w
   rw [cj] at w
   cases w with
   | cons a b=>
     cases a
     exact .cons _ _ (ih _ b)
theorem N7 {l:OpenLaw} {n:Nat} (hn:l.most=some n) {P:Params} {h:Heap} {args:List WData} {vals:List Value}
  (hpre:l.row.toRowW.claim.pre args=true) (hwl:WellAll P h vals args):
  ∃a vs ns,vals=[Value.ref a]/\args=[WData.list (ns.map WData.int)]/\h.get? a=some { cls:= .type "list",data:= .seq vs.toArray }/\IntsAre vs ns/\ns.length<=n:=by
 have hsh:WShape.hasAll [] args [.list .int]=true:=(pre_splitW hpre).1
 have hc:l.pre.holds [] { args:=args }=true:=(pre_splitW hpre).2
 obtain ⟨d,r,rfl,h1,h2⟩:=hasAllW_cons hsh
 obtain rfl:=hasAllW_nil h2
 obtain ⟨xs,rfl,h3⟩:=hasW_list h1
 obtain ⟨ns,rfl⟩:=items_int h3
 have hlen:ns.length<=n:=by
  unfold OpenLaw.pre at hc
  have h4:(WTm.not (.lt (.lit (.int (n:Int))) (.len (.arg 0)))).holds [] { args:=[.list (ns.map .int)] }=true:=by
   have h4:=(holds_andW hc).1
   rw [hn] at h4
   exact h4
  have h5:=condW_of h4 (w_not (w_lt w_lit (w_len_list (w_arg rfl))))
  rw [aC] at h5
  refine Nat.le_of_not_lt fun q=>?_
  have q':(n:Int)<((ns.length:Nat):Int):=by omega
  first
   | (rw [aX q'] at h5;exact absurd h5 (by decide))
   | (simp at h5;omega)
 cases hwl with
 | cons w1 w2=>
   cases w2
   cases w1 with
   | list ho hall=>exact ⟨_,_,ns,Z,Z,ho,Aw ns _ hall,hlen⟩
theorem N8 (l:OpenLaw) (args:List WData):l.row.toRowW.claim.post args (.bool true) args=true:=
 postW_of (r:=l.row.toRowW) (X:=(true==true))
  (show WShape.has [] (.bool true) .bool=true by first|rfl|decide|simp [WShape.has,WShape.arms,WShape.armsAll])
  (show (WTm.eq .res (.lit (.bool true))).value [] { args:=args,res:=some (.bool true),after:=args }=some (.bool (true==true)) from w_eq_bool (w_res rfl) w_lit) rfl
theorem Ju {l:OpenLaw} {n:Nat} {q:Program} {loose:List Str} {XP:(Str->Option Value)->Heap->Prop} {YP:World->Heap->Prop} {d:DefRec}
  (hn:l.most=some n) (hdf:d.params.defaults=[])
  (call:∀(w:World) (s₀ s₁:Shared) (mg mb:SO) (fa:Addr) (o:Obj) (pm cd doc:Value) (a:Addr) (vs:List Value) (ns:List Int),
    Ground q loose [] XP w s₀ mg mb s₁.heap->YP w s₁.heap->
    s₁.heap.get? fa=some o->o.data = .func (docDef d.name d.params d.body d.scope pm cd doc)->s₁.heap.CodeRec cd d.name->mg d.name=some (.ref fa)->
    s₁.heap.get? a=some { cls:= .type "list",data:= .seq vs.toArray }->IntsAre vs ns->ns.length<=n->s₁.gens=#[]->
    codeAny (model l.prog w) callerA (.call (.ref fa) ⟨[.ref a],[]⟩) (fun r s'=>r = .ok (.ret (.bool true))/\OldK s₁.heap s'.heap/\s'.os=s₁.os/\AllBare s'.gens) s₁):
  WalkO q loose XP YP l.row.toRowW d [] (fun f vs=>PySem.call f vs):=by
 intro w s₀ s₁ mg mb G Y fa o pm cd doc dV kV ho hd hcd hD hmg hg args vals as hpre hlay hrd hwl hlo
 obtain rfl:dV = .none:=Dflts.none hD hdf
 obtain rfl:kV = .none:=Dflts.noKw hD
 obtain ⟨a,vs,ns,rfl,rfl,hobj,hints,hlen⟩:=N7 hn hpre hwl
 refine enter_call (Ac (call w s₀ s₁ mg mb fa o pm cd doc a vs ns G Y ho (fd_plain hd) hcd hmg hobj hints hlen hg) fun r s' hq=>?_)
 obtain ⟨rfl,h2,h3,h4⟩:=hq
 exact ⟨.inl ⟨.bool true, .bool true,[],Z,fun _=>rfl, .bool true,N8 l _,fun _=>⟨List.Pairwise.nil,fun _ hm=>(nomatch hm)⟩⟩,h2,h3,h4⟩
section
variable {prog:Program} {w:World} {A:Around} {E:VS} {s:Shared} {K:Frag}
end
end Zn
namespace L2
open PySem PySem.Spec PyProof.Rows
theorem Dw:∀{vs:List Value} {ns:List Int},IntsAre vs ns->Vals (ns.map V.int) vs
 | _,_, .nil=> .nil
 | _,_, .cons n t h=> .cons ⟨t,Z⟩ (Dw h)
def Qy (H:Hp):Prop:=∀b,H b=none\/∃o xs,H b=some (.fk o (.lst xs))
variable {P:Program} {K:Fg} {mg:SO} {a:Addr} {fd:FuncData} {x:Str} {sp:Sp} {ns:List Int}
theorem Qz {w:World} {mb:SO} {CX:uD} {k:Nat} {fa:Addr} {s₁:Shared} {vs:List Value}
  (KX:K.In s₁.heap) (hns:s₁.heap.Ns mainGlobals mg) (hb:s₁.heap.Ns builtinsNs mb) (hbb:∀x:Str,x ≠ "__name__"->mb x=bootBuiltins x) (hlim:s₁.heap.NoLimit) (hg:s₁.gens=#[])
  (ha:s₁.heap.get? a=some { cls:= .type "list",data:= .seq vs.toArray }) (hi:IntsAre vs ns) (hl:ns.length<=sizeLine) (hr:cW k callerA)
  (F:∀base:Heap,K.In base->base.Ns mainGlobals mg->iC P w K mg base CX k fa fd [x] sp) (hbind:∀(s:Shared) (u:Value),BindsTo s fd ⟨[u],[]⟩ [(x,u)])
  (m8:∀H:Hp,Qy H->aF K H a (ns.map V.int)->sp [.ref a] H (fun v _=>v = .bl true) fun _ _ _=>False)
  (VF:∀H e s',CX [] H s₁ (fun _ _ _=>False) e s'->False):
  codeAny (model P w) callerA (.call (.ref fa) ⟨[.ref a],[]⟩) (fun r s'=>r = .ok (.ret (.bool true))/\OldK s₁.heap s'.heap/\s'.os=s₁.os/\AllBare s'.gens) s₁:=by
 have rv:=Dw hi
 have abn:=hi.length
 have core:∀H:Hp,Qy H->aF K H a (ns.map V.int)->f_ P w H s₁.heap->(∀b,H b≠none->b=a)->(H a≠none->K.lookup a=none)->
   codeAny (model P w) callerA (.call (.ref fa) ⟨[.ref a],[]⟩) (fun r s'=>r = .ok (.ret (.bool true))/\OldK s₁.heap s'.heap/\s'.os=s₁.os/\AllBare s'.gens) s₁:=by
  intro H hO hS hok hA hK
  have KW:∀{b:Addr} {o:Obj},s₁.heap.get? b=some o->H b=none->(vd s₁.heap H).get? b=some o:=fun e n=>PV e n
  have NX:∀{b:Addr} {o:Obj} {es:Array DictEntry} {ep:Nat},s₁.heap.get? b=some o->o.data = .dict es ep->H b=none:=fun {b o es ep} e d=>by
   cases q:H b with
   | none=>rfl
   | some u=>
     have e':b=a:=hA b (by rw [q];simp)
     subst e'
     rw [ha] at e;cases e
     have d':Data.seq vs.toArray _=Data.dict es ep:=d
     cases d'
  have RV:∀{b:Addr} {m:SO},s₁.heap.Ns b m->(vd s₁.heap H).Ns b m:=fun {b m} ⟨o,es,ep,e,d,r⟩=>⟨o,es,ep,KW e (NX e d),d,r⟩
  have Zo:K.In (vd s₁.heap H):=fun b o e=>KW (KX b o e) (by
   cases q:H b with
   | none=>rfl
   | some u=>
     have e':b=a:=hA b (by rw [q];simp)
     subst e'
     rw [hK (by rw [q];simp)] at e;cases e)
  have hM:Mod K mg (vd s₁.heap H):=⟨Zo,RV hns,⟨mb,RV hb,hbb⟩,let ⟨mc,h1,h2⟩:=hlim;⟨mc,RV h1,h2⟩⟩
  have e0:y9 P w K mg (vd s₁.heap H) callerA [] s₁ H:=⟨Z,hM,fun b o e=>SV e,Nat.le_of_eq (ND _ _),trivial,fun b hb=>absurd (show b∈([] :List Addr) from hb) (by simp),hok, .of_eq hg⟩
  refine Ac ((F _ Zo (RV hns)).run callerA [] s₁ H ⟨[.ref a],[]⟩ [.ref a] [.ref a] _ _ hr e0 (hbind s₁ (.ref a)) (.cons rfl .nil) (m8 H hO hS)) fun r s' h=>?_
  cases r with
  | error e=>exact (VF H e s' h).elim
  | ok fl=>
    cases fl with
    | next=>exact False.elim h
    | brk=>exact False.elim h
    | cont=>exact False.elim h
    | ret u=>
      obtain ⟨v,H',os,bare,un,abo,r',q⟩:=h
      have q':v = .bl true:=q
      subst q'
      obtain rfl:u=Value.bool true:=r'
      refine ⟨Z,OldK.of_keep fun b o e=>?_,os,bare⟩
      cases q:H b with
      | none=>exact un.keep b o e q (by intro z;exact absurd (show b∈([] :List Addr) from z) (by simp)) (by simp)
      | some u=>
        rcases hO b with z|⟨ob,xs,z⟩
        . rw [q] at z;cases z
        . have z2:=un.oE b ob _ z
          obtain ⟨e1,_⟩:=hok b _ z
          obtain ⟨e2,_⟩:=abo b _ z2
          rw [e] at e1;cases e1
          exact e2
 cases hk:K.lookup a with
 | some o=>
   have e:=KX a o hk
   rw [ha] at e
   cases e
   refine core (fun _=>none) (fun _=> .inl rfl) (.inr ⟨_,vs.toArray,_,hk,Z,Z,Z,by rw [gE,abn];exact hl,by simpa using rv⟩) (fun b u z=>by have z':(none:Option HO)=some u:=z;cases z') (fun b z=>absurd rfl z) fun z=>absurd rfl z
 | none=>
   refine core (fun b=>if b=a then some (.fk { cls:= .type "list",data:= .seq vs.toArray } (.lst (ns.map V.int))) else none) (fun b=>?_) (.inl (.inr ⟨{ cls:= .type "list",data:= .seq vs.toArray },aA rfl⟩)) (fun b u z=>?_) (fun b z=>?_) fun _=>hk
   . by_cases hb:b=a
     . exact .inr ⟨_,_,aA hb⟩
     . exact .inl (az hb)
   . by_cases hb:b=a
     . have z':=(aA hb).symm.trans z
       cases z'
       subst hb
       exact ⟨ha,by rw [aC];exact hl,vs,_,rv,ha⟩
     . have z':=(az hb).symm.trans z
       cases z'
   . by_cases hb:b=a
     . exact hb
     . exact absurd (az hb) z
variable {XP:(Str->Option Value)->Heap->Prop} {YP:World->Heap->Prop}
theorem Th {l:PySem.W.OpenLaw} {n k:Nat} {q:Program} {loose:List Str} {d:DefRec} {K:Params->Fg} {CX:World->uD} {sp:World->Sp}
  (hn:l.most=some n) (hn2:n<=sizeLine) (hdf:d.params.defaults=[]) (hr:cW k callerA)
  (hY:∀(w:World) (h:Heap),YP w h->(K w.params).In h)
  (F:∀(w:World) (mg:SO) (fa:Addr) (h:Heap),(K w.params).In h->h.Ns mainGlobals mg->mg d.name=some (.ref fa)->
    ∃fd:FuncData,(∀(s:Shared) (u:Value),BindsTo s fd ⟨[u],[]⟩ [(x,u)])/\
     ∀base:Heap,(K w.params).In base->base.Ns mainGlobals mg->iC l.prog w (K w.params) mg base (CX w) k fa fd [x] (sp w))
  (m8:∀(w:World) (H:Hp) (a:Addr) (ns:List Int),ns.length<=n->Qy H->aF (K w.params) H a (ns.map V.int)->sp w [.ref a] H (fun v _=>v = .bl true) fun _ _ _=>False)
  (VF:∀(w:World) (H:Hp) (s:Shared) (e:Value) (s':Shared),CX w [] H s (fun _ _ _=>False) e s'->False):
  PySem.W.WalkO q loose XP YP l.row.toRowW d [] (fun f vs=>PySem.call f vs):=by
 refine Zn.Ju hn hdf fun w s₀ s₁ mg mb fa o pm cd doc a vs ns G Y ho hd hcd hmg hobj hints hlen hg=>?_
 have KX:=hY w _ Y
 obtain ⟨fd,hb,hF⟩:=F w mg fa _ KX G.T.g hmg
 exact Qz KX G.T.g G.T.b G.T.builtins G.T.nolimit hg hobj hints (fH hlen hn2) hr hF hb (fun H hO hS=>m8 w H a ns hlen hO hS) fun H e s'=>VF w H s₁ e s'
def inClass (s:Stmt) (j:Nat):Stmt:=match s with
 | .ClassDef _ _ _ body _ _ _ _ _ _ _=>body.getD j (.Pass ⟨0,0,0,0⟩)
 | _=> .Pass ⟨0,0,0,0⟩
def dF (s:Stmt):Arguments:=match s with
 | .FunctionDef _ a _ _ _ _ _ _ _ _=>a
 | _=>{ posonlyargs:=[],args:=[],vararg:=none,kwonlyargs:=[],kw_defaults:=[],kwarg:=none,defaults:=[] }
def bX (s:Stmt):List Stmt:=match s with
 | .FunctionDef _ _ b _ _ _ _ _ _ _=>b
 | _=>[]
def aB (s:Stmt):Scope:=match s with
 | .FunctionDef _ _ _ _ _ _ sc _ _ _=>sc
 | _=>{ kind:= .function,names:=[],isGenerator:=false,isCoroutine:=false }
abbrev qO:uD:=fun _ _ _ _ _ _=>False
abbrev E0:XK:=fun _ _ _=>False
structure Dy (K:Fg) (x qual:Str) (st:Stmt) (f:Addr) (fd:FuncData):Prop where
 ex:∃(oc:Value) (od:Option Addr) (kV doc pm:Value) (an:Option Addr) (cdv ct:Value) (osl:Array (Option Value)),
  fd=PySem.W.fnOf x qual (dF st) (bX st) (aB st) .none kV doc pm an cdv ct/\K.lookup f=some ⟨oc,od, .func fd,osl⟩/\PySem.W.codeIn K cdv qual=true
 kp:PySem.W.keepIn K (.ref f)=true
variable {qual:Str} {f:Addr} {N ps:List Str} {oc doc pm cdv ct:Value} {od an:Option Addr} {osl:Array (Option Value)}
section
variable {P:Program} {w:World} {K:Fg} {mg:SO} {base:Heap}
theorem Dy.ok {st:Stmt} {k:Nat} (F:Dy K x qual st f fd) (S:aM N ps (aB st)) (len:∀vs H Q E,sp vs H Q E->vs.length=ps.length)
  (hbody:∀(cdv:Value) (A:Around) (outer:List Env) (s:Shared) (H:Hp) (vs:List V) (Q:VK) (E:XK),cW k (A.deeper (envOfC qual (aB st) s.heap.objs.size f cdv))->sp vs H Q E->
    ∃t,oh (b8 qO P w K mg base N qual (aB st) f cdv A outer s H E).yC (bX st) t/\t { nx:=fun _ H'=>Q .bL H',rt:=Q } (start N vs) H):iC P w K mg base qO (k+1) f fd ps sp:=by
 obtain ⟨oc,od,kV,doc,pm,an,cdv,ct,osl,rfl,lk,hcd⟩:=F.ex
 refine Mp lk hcd S len fun A outer s H vs Q E hr m8=>?_
 obtain ⟨t,h,q⟩:=hbody cdv A outer s H vs Q E hr m8
 exact ⟨t,h.yC,q⟩
theorem Dy.binds {st:Stmt} (F:Dy K x qual st f fd)
  (h:∀(kV doc pm:Value) (an:Option Addr) (cdv ct:Value) (us:List Value),us.length=ps.length->bindArgs (PySem.W.fnOf x qual (dF st) (bX st) (aB st) .none kV doc pm an cdv ct) ⟨us,[]⟩=pure (ps.zip us)):Binds K fd ps [] :=by
 obtain ⟨oc,od,kV,doc,pm,an,cdv,ct,osl,rfl,lk,hcd⟩:=F.ex
 exact .all (h kV doc pm an cdv ct)
theorem Gg {st:Stmt} {kV:Value} (l:K.lookup f=some ⟨oc,od, .func (PySem.W.fnOf x qual (dF st) (bX st) (aB st) .none kV doc pm an cdv ct),osl⟩)
  (c:PySem.W.codeIn K cdv qual=true) (k:PySem.W.keepIn K (.ref f)=true):Dy K x qual st f (PySem.W.fnOf x qual (dF st) (bX st) (aB st) .none kV doc pm an cdv ct):=⟨⟨oc,od,kV,doc,pm,an,cdv,ct,osl,Z,l,c⟩,k⟩
end
theorem c9 {A:Around} {k:Nat} (hr:cW k A):A.units+1<cLine:=FD (Nat.add_le_add_left (by decide:1<=64) _) hr.units
theorem cU {n:Nat} (h:n<=1000):n<sizeLine:=FD h (by decide)
section
variable {X:Cx}
end
theorem gv {A B:Prop} (h:B):if false=true then A else B:=by
 rw [az eX]
 exact h
theorem kW {A B:Prop} (h:A):if true=true then A else B:=by
 rw [aA rfl]
 exact h
theorem aI {c A B:Prop} [Decidable c] (h1:c->A) (h2:¬ c->B):if c then A else B:=by
 by_cases h:c
 . rw [aA h]
   exact h1 h
 . rw [az h]
   exact h2 h
def aO (H H':Hp):Prop:=∀b o,H b=some o->H' b=some o
theorem aO.refl (H:Hp):aO H H:=fun _ _ h=>h
variable {H H1 H2:Hp}
theorem aO.trans (a:aO H H1) (b:aO H1 H2):aO H H2:=fun c o h=>b c o (a c o h)
variable {H':Hp}
theorem aO.free (e:aO H H') {l:Addr} (h:H' l=Option.none):H l=Option.none:=by
 cases q:H l with
 | none=>rfl
 | some o=>
   rw [e l o q] at h
   cases h
variable {xs:List V}
theorem aO.seq (e:aO H H') (h:aF K H a xs):aF K H' a xs:=by
 rcases h with (h|⟨o,h⟩)|h
 . exact .inl (.inl (e _ _ h))
 . exact .inl (.inr ⟨o,e _ _ h⟩)
 . exact .inr h
section
variable {X:Cx}
theorem s_:iA X (.builtin "len") (fun xs H Q=>∃a kvs,xs=[V.ref a]/\H a=some (.dK kvs)/\Q (.int kvs.length) H):=by
 intro pins s σ H xs us Q I r h
 obtain ⟨a,kvs,rfl,ha,q⟩:=h
 obtain ⟨u,rfl,ru⟩:=vals1 r
 cases ru
 exact Yn I (.inl ha) fun t s' I'=>⟨.int kvs.length,H,I',⟨t,Z⟩,q⟩
end
section
variable {κ:Type} [DecidableEq κ]
theorem QA {kvs:List (κ×V)} {k:κ} (h:c5 kvs k=none):¬ k∈kvs.map (·.1):=by
 intro m
 obtain ⟨p,hp,e⟩:=bJ.mp m
 have q:(kvs.any fun kv=>decide (kv.1=k))=true:=List.any_eq_true.mpr ⟨p,hp,aX e⟩
 rw [oG,h] at q
 exact absurd q (by simp)
theorem mK:∀{l:List κ} {k:κ},l.Nodup->¬ k∈l->(l++[k]).Nodup
 | [],k,_,_=>by simp
 | a::r,k,h,hk=>by
   obtain ⟨h1,h2⟩:=fU.mp h
   show (a::(r++[k])).Nodup
   refine fU.mpr ⟨fun m=>?_,mK h2 fun m=>hk (c8.mpr (Or.inr m))⟩
   rcases fZ.mp m with q|q
   . exact h1 q
   . exact hk (c8.mpr (Or.inl (fT.mp q).symm))
theorem Ti {kvs:List (κ×V)} {k:κ} (v:V) (hn:(kvs.map (·.1)).Nodup) (h:c5 kvs k=none):((putK kvs k v).map (·.1)).Nodup:=by
 rw [lY v h,bQ]
 exact mK hn (QA h)
end
end L2
set_option maxHeartbeats 4000000
namespace L2
open PySem PySem.Spec PyProof.Rows
section
variable {X:Cx}
def Ax (_ j:Int):Prop:=0<j/\j.natAbs.log2<9000
theorem gZ:i7 X (binaryOp .FloorDiv) (rI Ax fun i j=> .int (i / j)):=NJ fun i j _ _ _ _ _ hc q=>by
 have h1:(0:Int)<j:=hc.1
 exact floordiv_int (by omega) (by rw [Int.fdiv_eq_ediv_of_nonneg i (by omega)];exact q) (.inl (PyProof.noPylong_of_log2 hc.2))
theorem wW {i j:Int} (h:(decide (0<j) && decide (j.natAbs.log2<9000))=true):Ax i j:=by
 obtain ⟨a,b⟩:=lX.mp h
 exact ⟨aV a,aV b⟩
theorem QB {i j:Int} {n:Nat} (h0:0<j) (h:j<2 ^ n) (hn:n<=9000):Ax i j:=by
 refine ⟨h0,?_⟩
 have e:(j.natAbs:Int)=j:=by omega
 have h2:j.natAbs<2 ^ n:=by
  have:(j.natAbs:Int)<((2 ^ n:Nat):Int):=by rw [e];simpa using h
  exact Int.ofNat_lt.mp this
 have:=(Nat.log2_lt (n:=j.natAbs) (k:=n) (by omega)).mpr h2
 omega
def Mu (i j:Int):Prop:=∃m n:Nat,i.natAbs<2 ^ m/\j.natAbs<2 ^ n/\m+n<=134217728
theorem jE:i7 X (binaryOp .Mult) (rI Mu fun i j=> .int (i*j)):=NJ fun _ _ _ _ _ _ _ hc q=>by
 obtain ⟨m,n,h1,h2,h3⟩:=hc
 exact mul_int q (IntMulOk.of_le (LU.mpr h1) (LU.mpr h2) h3)
mutual
inductive Dt (K:Fg) (H:Hp):V->PyData->Prop
 | bL:Dt K H .bL .none
 | bl (b:Bool):Dt K H (.bl b) (.bool b)
 | int (i:Int):Dt K H (.int i) (.int i)
 | str (x:Str):Dt K H (.str x) (.str x)
 | lst {a:Addr} {xs:List V} {ds:List PyData}:aF K H a xs->yI K H xs ds->Dt K H (.ref a) (.list ds)
 | tup {a:Addr} {xs:List V} {ds:List PyData}:cO K H a xs->yI K H xs ds->Dt K H (.ref a) (.tuple ds)
inductive yI (K:Fg) (H:Hp):List V->List PyData->Prop
 | nil:yI K H [] []
 | cons {x:V} {xs:List V} {d:PyData} {ds:List PyData}:Dt K H x d->yI K H xs ds->yI K H (x::xs) (d::ds)
end
section
variable {pins:AO} {σ:St} {H:Hp} {s:Shared}
mutual
theorem Dt.reads (I:Inv X pins σ H s):∀{x:V} {d:PyData} {u:Value},Dt X.K H x d->RelV x u->∃as,Reads s.heap u d as
 | _,_,u, .bL,r=>by cases (show u=Value.none from r);exact ⟨_, .none⟩
 | _,_,u, .bl b,r=>by cases (show u=Value.bool b from r);exact ⟨_, .bool b⟩
 | _,_,u, .int i,r=>by obtain ⟨t,rfl⟩:=(show ∃t,u=Value.int i t from r);exact ⟨_, .int i t⟩
 | _,_,u, .str x,r=>by obtain ⟨t,rfl⟩:=(show ∃t,u=Value.str x t from r);exact ⟨_, .str x t⟩
 | _,_,u,@Dt.lst _ _ a xs ds h hd,r=>by
   cases (show u=Value.ref a from r)
   obtain ⟨its,rv,⟨o,n,e,c,_,d⟩,hz⟩:=I.list h
   obtain ⟨as,ra⟩:=yI.reads I hd rv
   exact ⟨_, .list e c d (by simpa using ra)⟩
 | _,_,u,@Dt.tup _ _ a xs ds h hd,r=>by
   cases (show u=Value.ref a from r)
   obtain ⟨its,rv,⟨o,e,c,n,d⟩,hz⟩:=I.tuple h
   obtain ⟨as,ra⟩:=yI.reads I hd rv
   exact ⟨_, .tuple e c d (by simpa using ra)⟩
theorem yI.reads (I:Inv X pins σ H s):∀{xs:List V} {ds:List PyData} {us:List Value},yI X.K H xs ds->Vals xs us->∃as,ReadsAll s.heap us ds as
 | _,_,_, .nil, .nil=>⟨_, .nil⟩
 | _,_,_, .cons h t, .cons r rs=>by
   obtain ⟨as,ra⟩:=Dt.reads I h r
   obtain ⟨bs,rb⟩:=yI.reads I t rs
   exact ⟨_, .cons ra rb⟩
end
end
structure Bx (p:Prop):Prop where
 ex:p
def bx (f:Sp):Sp:=fun vs H Q E=>Bx (f vs H Q E)
structure Dn (P:Program) (w:World) (K:Fg) (mg:SO) (base:Heap) (k:Nat) (x:Str) (ps:List Str) (sp:Sp):Prop where
 ex:∃f fd,iC P w K mg base qO k f fd ps sp/\Binds K fd ps []/\PySem.W.keepIn K (.ref f)=true/\mg x=some (.ref f)
end
structure At (K:Fg) (mg:SO) (x:Str) (st:Stmt) (f:Addr) (fd:FuncData):Prop where
 fn:Dy K x x st f fd
 name:mg x=some (.ref f)
variable {P:Program} {K:Fg} {mg:SO} {base:Heap} {x:Str} {f:Addr} {fd:FuncData} {N ps:List Str} {sp:Sp}
theorem At.ok {w:World} {st:Stmt} {k:Nat} (F:At K mg x st f fd) (S:aM N ps (aB st)) (len:∀vs H Q E,sp vs H Q E->vs.length=ps.length)
  (hbody:∀(cdv:Value) (A:Around) (outer:List Env) (s:Shared) (H:Hp) (vs:List V) (Q:VK) (E:XK),cW k (A.deeper (envOfC x (aB st) s.heap.objs.size f cdv))->sp vs H Q E->
    ∃t,oh (b8 qO P w K mg base N x (aB st) f cdv A outer s H E).yC (bX st) t/\t { nx:=fun _ H'=>Q .bL H',rt:=Q } (start N vs) H)
  (h:∀(kV doc pm:Value) (an:Option Addr) (cdv ct:Value) (us:List Value),us.length=ps.length->bindArgs (PySem.W.fnOf x x (dF st) (bX st) (aB st) .none kV doc pm an cdv ct) ⟨us,[]⟩=pure (ps.zip us)):
  Dn P w K mg base (k+1) x ps sp:=⟨f,fd,F.fn.ok S len hbody,F.fn.binds h,F.fn.kp,F.name⟩
variable {h:Heap} {oc doc pm cdv ct:Value} {od an:Option Addr} {osl:Array (Option Value)}
theorem RW {st:Stmt} {kV:Value} (X:K.In h) (G:h.Ns mainGlobals mg)
  (a:PySem.W.nsIn K mainGlobals x=some (some (.ref f))) (l:K.lookup f=some ⟨oc,od, .func (PySem.W.fnOf x x (dF st) (bX st) (aB st) .none kV doc pm an cdv ct),osl⟩)
  (c:PySem.W.codeIn K cdv x=true) (k:PySem.W.keepIn K (.ref f)=true):At K mg x st f (PySem.W.fnOf x x (dF st) (bX st) (aB st) .none kV doc pm an cdv ct):=⟨Gg l c k,pC X G a⟩
theorem aO.tup {H H':Hp} {K:Fg} {a:Addr} {xs:List V} (e:aO H H') (h:cO K H a xs):cO K H' a xs:=by
 rcases h with (h|⟨o,h⟩)|h
 . exact .inl (.inl (e _ _ h))
 . exact .inl (.inr ⟨o,e _ _ h⟩)
 . exact .inr h
variable {H:Hp}
theorem aE {p:Addr} (h:H p=none) (o:HO):aO H (upd H p o):=fun b u q=>by rw [av (aD q h)];exact q
theorem small {n:Nat} (h:n<=1000):n<=sizeLine:=Ab (cU h)
end L2
namespace Jm
def cf (a b:Int):Int:=(Int.gcd a b:Int)
theorem Tj (a:Int) (h:0<=a):cf a 0=a:=by
 unfold cf;rw [Int.gcd_zero_right];omega
theorem KY (a b:Int) (h:0<b):cf b (a % b)=cf a b:=by
 unfold cf
 rw [Int.emod_def,Int.gcd_sub_mul_left_right,Int.gcd_comm]
theorem Ay (a b:Int) (h:0<a\/0<b):0<cf a b:=by
 unfold cf
 have:0<Int.gcd a b:=by
  rcases h with h|h
  . exact Int.gcd_pos_of_ne_zero_left _ (by omega)
  . exact Int.gcd_pos_of_ne_zero_right _ (by omega)
 omega
theorem Tn (a b:Int):cf a b=cf b a:=by unfold cf;rw [Int.gcd_comm]
abbrev fr (t b:Int):Rat:=Rat.divInt t b
theorem N9 (t b:Int) (h:0<b):(fr t b).num=t / cf b t:=by
 unfold fr cf
 rw [Rat.num_divInt,Int.sign_eq_one_of_pos h,Int.one_mul]
theorem Gi (t b:Int) (h:0<b):((fr t b).den:Int)=b / cf b t:=by
 unfold fr cf
 rw [Rat.den_divInt,az (by omega)]
 rw [Int.natCast_ediv];congr 1;omega
theorem t9 (a b:Int):cf a b∣a:=Int.gcd_dvd_left ..
theorem j0 (a b:Int):cf a b∣b:=Int.gcd_dvd_right ..
theorem To (q:Rat):fr q.num q.den=q:=Rat.num_divInt_den q
theorem Mv {t b t' b':Int} (h:0<b) (h':0<b') (e:t*b'=t'*b):fr t b=fr t' b':=
 (Rat.divInt_eq_divInt_iff (by omega) (by omega)).mpr e
theorem VG {t b t' b':Int} (h:0<b) (h':0<b') (e:fr t b=fr t' b'):t*b'=t'*b:=
 (Rat.divInt_eq_divInt_iff (by omega) (by omega)).mp e
theorem N_ {n d:Int} (h:0<d) (c:cf n d=1):(fr n d).num=n/\((fr n d).den:Int)=d:=by
 rw [N9 n d h,Gi n d h,Tn,c,Ad,Ad];exact ⟨Z,Z⟩
theorem Oa {t b t' b':Int} (h:0<b) (h':0<b'):fr t b+fr t' b'=fr (t*b'+t'*b) (b*b'):=
 Rat.divInt_add_divInt _ _ (by omega) (by omega)
theorem Ob (t b:Int) (h:0<b):((fr t b).den:Int)<=b:=by
 rw [Gi t b h]
 exact L7 _ (Ae h)
def Sz (n:Nat) (x:Int):Prop:=x.natAbs<2 ^ n
theorem Sz.mono {m n:Nat} {x:Int} (h:Sz m x) (hn:m<=n):Sz n x:=jK h (Nat.pow_le_pow_right (by decide) hn)
theorem Sz.of_le {n:Nat} {x y:Int} (h:Sz n y) (hx:x.natAbs<=y.natAbs):Sz n x:=FD hx h
theorem Sz.neg {n:Nat} {x:Int} (h:Sz n x):Sz n (-x):=h.of_le (by omega)
theorem Sz.mul {m n:Nat} {x y:Int} (hx:Sz m x) (hy:Sz n y):Sz (m+n) (x*y):=by
 unfold Sz at *
 rw [z7,Nat.pow_add]
 exact Nat.mul_lt_mul'' hx hy
theorem Sz.add {m n:Nat} {x y:Int} (hx:Sz m x) (hy:Sz n y):Sz (max m n+1) (x+y):=by
 have h1:=hx.mono (Nat.le_max_left m n)
 have h2:=hy.mono (Nat.le_max_right m n)
 unfold Sz at *
 rw [Nat.pow_succ]
 omega
theorem Sz.kX {n:Nat} {x y:Int} (hx:Sz n x) (hy:Sz n y):Sz (n+1) (x+y):=by
 have:=hx.add hy
 rwa [Nat.max_self] at this
theorem Sz.m9 {n:Nat} {x B:Int} (h0:-B<=x) (h1:x<=B) (hB:Sz n B):Sz n x:=hB.of_le (by omega)
theorem Sz.ediv {n:Nat} {x y:Int} (h:Sz n x) (hy:0<y):Sz n (x / y):=by
 refine h.of_le ?_
 have e:=Int.emod_add_mul_ediv x y
 have m0:=mX x (b:=y) (by omega)
 have m1:=wM x hy
 rcases Int.lt_or_le x 0 with hx|hx
 . have q0:x / y<0:=Int.ediv_neg_of_neg_of_pos hx hy
   have z:y*(x / y)<=1*(x / y):=Int.mul_le_mul_of_nonpos_right (by omega) (by omega)
   rcases Int.lt_or_le (x / y) x with k|k
   . exfalso
     have z2:y*(x / y)<=y*(x-1):=Fq (by omega) (by omega)
     have z3:y*(x-1)<=1*(x-1)-(y-1):=by
      have z4:(y-1)*(x-1)<=(y-1)*(-2):=Fq (by omega) (by omega)
      have z5:y*(x-1)=(y-1)*(x-1)+(x-1):=by grind
      omega
     omega
   . omega
 . have q0:0<=x / y:=E9 hx (by omega)
   have:=L7 y hx
   omega
theorem Sz.dvd {n:Nat} {x y:Int} (h:Sz n y) (hy:0<y) (hx:0<=x) (d:x∣y):Sz n x:=h.of_le (by have:=Int.le_of_dvd hy d;omega)
theorem Ci (B:Int):fr 0 B=0:=Rat.zero_divInt B
theorem Tp (x y:Int) {B:Int} (h:0<B):fr (x+y) B=fr x B+fr y B:=by
 rw [Oa h h]
 refine Mv h (Int.mul_pos h h) ?_
 grind
theorem Oc {n:Nat}:∀{ws:List Int},(∀m∈ws,Sz n m)->Sz (n+ws.length) ws.sum
 | [],_=>by unfold Sz;show 0<_;exact Nat.two_pow_pos _
 | x::r,h=>by
   have h1:=Oc (ws:=r) fun m hm=>h m (cK _ hm)
   have h2:=((h x dg).mono (tX n r.length)).kX h1
   rw [fG]
   exact h2.mono (by rw [jL];omega)
def Az (c:Int):Nat->Int
 | 0=>c
 | i+1=>Az c i / 10000000000
def cellOf (ns:List Int) (k:Int):Int:=if 0<(ns.length:Int) then ns.getD (k % ns.length).toNat 0 else 0
def wX (ns:List Int) (k:Int):Int:=if 0<(ns.length:Int) then k / ns.length else 1
def mixed (c k j many:Int):Int:=
 let one:=(c*7919+k*104729+j*1299709+31) % 1000000007
 let two:=(one*48271+c / 1009) % 998244353
 let three:=(two*(one % 9973+1)+j) % 1000000009
 (one*69621+three*40692+three / 1013) % 2147483647 % many
def draw (ns:List Int) (k j many:Int):Int:=
 if wX ns k=0/\1000000000000000000<=cellOf ns k/\0<Az (cellOf ns k) j.toNat then Az (cellOf ns k) j.toNat % 10000000000 % many
 else mixed (cellOf ns k) k j many
theorem Tq (ns:List Int) (k j many:Int) (h:0<many):0<=draw ns k j many:=by
 unfold draw;split
 . exact mX _ (by omega)
 . exact mX _ (by omega)
theorem Tr (ns:List Int) (k j many:Int) (h:0<many):draw ns k j many<many:=by
 unfold draw;split
 . exact wM _ h
 . exact wM _ h
end Jm
namespace L2
open PySem PySem.Spec PyProof.Rows
inductive Ys (K:Fg) (vs:List V) (H:Hp) (Q:VK) (E:XK):Prop
 | mk (a:Addr) (ns:List Int) (k j many:Int) (_:vs=[.ref a, .int k, .int j, .int many]) (_:aF K H a (ns.map V.int)) (_:ns.length<=63) (_:0<=k) (_:0<=j) (_:j<2 ^ 62) (_:0<many) (_:Q (.int (Jm.draw ns k j many)) H)
def pV (K:Fg):Sp:=bx (Ys K)
variable {K:Fg} {H:Hp} {a:Addr} {ns:List Int}
theorem cM {Q:VK} {E:XK} {k j many:Int} (hS:aF K H a (ns.map V.int)) (h63:ns.length<=63) (h1:0<=k) (h2:0<=j) (h3:j<2 ^ 62) (h4:0<many)
  (h:∀d:Int,d=Jm.draw ns k j many->0<=d->d<many->Q (.int d) H):pV K [.ref a, .int k, .int j, .int many] H Q E:=
 ⟨a,ns,k,j,many,Z,hS,h63,h1,h2,h3,h4,h _ rfl (Jm.Tq ns k j many h4) (Jm.Tr ns k j many h4)⟩
def QC:Sp:=fun vs H Q _=>∃a b:Int,vs=[.int a, .int b]/\0<=a/\0<=b/\Q (.int (Jm.cf a b)) H
abbrev t_ (q:Rat):HO:= .tup [.int q.num, .int (q.den:Int)]
def Fl (K:Fg):Sp:=fun vs H Q _=>∃(a:Addr) (ns:List Int),vs=[.ref a]/\aF K H a (ns.map V.int)/\ns.length<=63/\∀H',Q (.bl true) H'
section
variable {X:Cx} {pos:Pos}
def Ends.Zp (D:Ends) (J:St->Hp->Prop):Ends:={ D with nx:=J }
def Yt (t u:TS) (D:Ends) (σ:St) (J:St->Hp->Prop):Bool->Hp->Prop:=fun b H1=>if b=true then t (D.Zp J) σ H1 else u (D.Zp J) σ H1
inductive VH (c:TT) (t u:TS) (D:Ends) (σ:St) (H:Hp):Prop
 | mk (J:St->Hp->Prop) (_:c σ H (Yt t u D σ J)) (_:∀σ' H',J σ' H'->D.nx σ' H')
end
theorem vg {i j:Int} (h0:0<j) (h:Jm.Sz 9000 j):Ax i j:=by
 refine ⟨h0,?_⟩
 exact (Nat.log2_lt (by omega)).mpr h
variable {m:Nat}
theorem i8 {n:Nat} {i j:Int} (hi:Jm.Sz m i) (hj:Jm.Sz n j) (h:m+n<=134217728:=by decide):Mu i j:=⟨m,n,hi,hj,h⟩
theorem k_ {n:Nat} {x:Int} (h:decide (x.natAbs<2 ^ n)=true):Jm.Sz n x:=by
 unfold Jm.Sz
 exact aV h
theorem Tt {k:Int} (h0:0<=k) (h:k<(ns.length:Int)):qN (ns.map V.int) k=some (.int (ns.getD k.toNat 0)):=by
 have hk:k.toNat<ns.length:=by omega
 have ek:k=((k.toNat:Nat):Int):=by omega
 have q:qN (ns.map V.int) ((k.toNat:Nat):Int)=some (.int (ns.getD k.toNat 0)):=au (by rw [b_,jJ,bB hk] <;> rfl)
 rw [<-ek] at q
 exact q
variable {elt iter:Expr} {scope:Scope} {pos:Pos} {env:Env}
section
variable {prog:Program} {w:World} {A:Around} {R:Result->Shared->Prop} {s:Shared}
theorem Gj {target:Expr} {it acc:Value} (J:Nat->Shared->Prop)
  (turn:∀n s,J n s->wpAny (model prog w) A (pyNext it) (fun r s₁=>match r with
    | none=>R (.ok .next) s₁
    | some v=>wpAny (model prog w) A (letOwnedTupleGo target it v) (fun _ s₂=>wpAny (model prog w) A (assign target env v) (fun _ s₃=>wpAny (model prog w) A (eval elt env) (fun x s₄=>
            wpAny (model prog w) A (call (.builtin "list.append") [acc,x]) (fun _ s₅=>∃m,m<n/\J m s₅) (fun _ _=>False) s₄) (fun _ _=>False) s₃) (fun _ _=>False) s₂) (fun _ _=>False) s₁) (fun _ _=>False) s)
  (n:Nat) (h:J n s):codeAny (model prog w) A (.compLoop (.ListComp elt [⟨target,iter,[],0⟩] scope pos) 0 it acc env) R s:=by
 refine codeAny_loop rfl J (fun n s hI=>?_) n h
 show wpAny _ A ((compTurn (.ListComp elt [⟨target,iter,[],0⟩] scope pos) 0 it acc env).onRaise (fun x=>do noteFrame x env;theTreesLotGoes x)) _ _ s
 refine wpAny_noted ?_
 rw [compTurn_list1]
 refine ay (z_ (ay (iG (turn n s hI) (fun r s₁ h₁=>?_) fun _ _ h'=>h'.elim)))
 cases r with
 | none=>exact aS h₁
 | some v=>
   refine ay (iG h₁ (fun _ s₂ h₂=>ay (iG h₂ (fun _ s₃ h₃=>?_) fun _ _ h'=>h'.elim)) fun _ _ h'=>h'.elim)
   exact ay (ay (iG h₃ (fun x s₄ h₄=>ay (iG h₄ (fun _ s₅ h₅=>aS (aS ⟨Z,h₅⟩)) fun _ _ h'=>h'.elim)) fun _ _ h'=>h'.elim))
end
theorem vh (h:∀y∈scope.names,y.2 = .free->∃c,env.cells.lookup y.1=some c):
  ∃cl,closureFor scope env=pure cl/\(∀y c,(y,c)∈cl->env.cells.lookup y=some c/\(y,NameKind.free)∈scope.names)/\∀y,(y,NameKind.free)∈scope.names->∃c,(y,c)∈cl:=by
 have gen:∀(names:List (Str×NameKind)) (acc:List (Str×Addr)),(∀y∈names,y.2 = .free->∃c,env.cells.lookup y.1=some c)->
   ∃cl,(forIn names acc fun (x:Str×NameKind) (cs:List (Str×Addr))=>(if (x.2==NameKind.free)=true then do let a <-cellOf env x.1;pure (ForInStep.yield ((x.1,a)::cs)) else pure (ForInStep.yield cs):Sem _))=pure cl/\
    (∀y c,(y,c)∈cl->(env.cells.lookup y=some c/\(y,NameKind.free)∈names)\/(y,c)∈acc)/\(∀p∈acc,p∈cl)/\∀y,(y,NameKind.free)∈names->∃c,(y,c)∈cl:=by
  intro names
  induction names with
  | nil=>intro acc _;exact ⟨acc,by rw [z8],fun y c m=> .inr m,fun p hp=>hp,fun y m=>nomatch m⟩
  | cons x r ih=>
    intro acc hc
    obtain ⟨n,k⟩:=x
    by_cases hk:k = .free
    . subst hk
      obtain ⟨c,ec⟩:=hc (n, .free) dg rfl
      obtain ⟨cl,e,h1,h2,h3⟩:=ih ((n,c)::acc) fun y hy=>hc y (cK _ hy)
      refine ⟨cl,?_,fun y d m=>?_,fun p hp=>h2 p (cK _ hp),fun y m=>?_⟩
      . rw [E_,<-e]
        have Yu:cellOf env n=pure c:=by unfold cellOf;rw [ec]
        simp only [beq_self_eq_true,if_true,Yu,pure_bind]
      . rcases h1 y d m with ⟨a,b⟩|b
        . exact .inl ⟨a,cK _ b⟩
        . rcases c8.mp b with z|z
          . cases z;exact .inl ⟨ec,dg⟩
          . exact .inr z
      . rcases c8.mp m with z|z
        . cases z;exact ⟨c,h2 _ dg⟩
        . exact h3 y z
    . obtain ⟨cl,e,h1,h2,h3⟩:=ih acc fun y hy=>hc y (cK _ hy)
      have hb:(k==NameKind.free)=false:=by simpa using hk
      refine ⟨cl,?_,fun y d m=>?_,h2,fun y m=>?_⟩
      . rw [E_,<-e]
        simp only [hb,FE,lH,pure_bind]
      . rcases h1 y d m with ⟨a,b⟩|b
        . exact .inl ⟨a,cK _ b⟩
        . exact .inr b
      . rcases c8.mp m with z|z
        . cases z;exact absurd rfl hk
        . exact h3 y z
 obtain ⟨cl,e,h1,_,h3⟩:=gen scope.names [] h
 refine ⟨cl,?_,fun y c m=>(h1 y c m).elim id (fun z=>nomatch z),h3⟩
 have e2:closureFor scope env=((forIn scope.names ([] :List (Str×Addr)) fun (x:Str×NameKind) (cs:List (Str×Addr))=>(if (x.2==NameKind.free)=true then do let a <-cellOf env x.1;pure (ForInStep.yield ((x.1,a)::cs)) else pure (ForInStep.yield cs):Sem _)) >>= fun r=>pure r):=rfl
 rw [e2,e]
 rfl
theorem lookup_mem {α:Type} {l:List (Str×α)} {y:Str} {c:α} (h:(y,c)∈l):∃d,l.lookup y=some d:=by
 induction l with
 | nil=>cases h
 | cons p r ih=>
   obtain ⟨k,v⟩:=p
   rw [mW]
   cases hb:y==k with
   | true=>exact ⟨v,Z⟩
   | false=>
     rcases c8.mp h with z|z
     . cases z;simp at hb
     . exact ih z
theorem kI:∀(names:List (Str×NameKind)) (n:Nat) (acc:List (Str×Addr)) {x:Str} {c:Addr},(cellsFrom n names acc).lookup x=some c->n<=c\/acc.lookup x=some c
 | [],_,_,_,_,h=> .inr h
 | (name,kind)::r,n,acc,x,c,h=>by
   unfold cellsFrom at h
   split at h
   . rcases kI r (n+1) _ h with z|z
     . exact .inl (by omega)
     . rw [mW] at z
       cases hb:x==name with
       | true=>rw [hb] at z;cases z;exact .inl (aK _)
       | false=>rw [hb] at z;exact .inr z
   . exact kI r n acc h
theorem Eh:∀(names:List (Str×NameKind)) (n n0:Nat) (acc:List (Str×Addr)) {x:Str} {c:Addr},n0<=n->(∀d,acc.lookup x=some d->n0<=d)->(cellsFrom n names acc).lookup x=some c->n0<=c:=by
 intro names n n0 acc x c hn ha h
 rcases kI names n acc h with z|z
 . omega
 . exact ha c z
theorem qo:∀(names:List (Str×NameKind)) (n:Nat) (acc:List (Str×Addr)) {x:Str} {c:Addr},(x,NameKind.cell)∈names->(cellsFrom n names acc).lookup x=some c->n<=c
 | [],_,_,_,_,m,_=>nomatch m
 | (name,kind)::r,n,acc,x,c,m,h=>by
   unfold cellsFrom at h
   rcases c8.mp m with z|z
   . cases z
     rw [aA (by rfl)] at h
     refine Eh r (n+1) n _ (by omega) (fun d hd=>?_) h
     rw [mW,beq_self_eq_true] at hd
     cases hd
     exact aK _
   . split at h
     . exact fH (yf _) (qo r (n+1) _ z h)
     . exact qo r n acc z h
theorem kJ:∀(names:List (Str×NameKind)) (n:Nat) (acc:List (Str×Addr)) {x:Str},(∃c,acc.lookup x=some c)->∃c,(cellsFrom n names acc).lookup x=some c
 | [],_,_,_,h=>h
 | (name,kind)::r,n,acc,x,h=>by
   unfold cellsFrom
   split
   . refine kJ r (n+1) _ ?_
     rw [mW]
     cases x==name with
     | true=>exact ⟨_,Z⟩
     | false=>exact h
   . exact kJ r n acc h
theorem qp:∀(names:List (Str×NameKind)) (n:Nat) (acc:List (Str×Addr)) {x:Str},(x,NameKind.cell)∈names->∃c,(cellsFrom n names acc).lookup x=some c
 | [],_,_,_,m=>nomatch m
 | (name,kind)::r,n,acc,x,m=>by
   unfold cellsFrom
   rcases c8.mp m with z|z
   . cases z
     rw [aA (by rfl)]
     refine kJ r (n+1) _ ⟨n,?_⟩
     rw [mW,beq_self_eq_true]
   . split
     . exact qp r (n+1) _ z
     . exact qp r n acc z
theorem qt:∀(names:List (Str×NameKind)) (n:Nat) (acc:List (Str×Addr)) {x:Str},(x,NameKind.cell)∉names->(cellsFrom n names acc).lookup x=acc.lookup x
 | [],_,_,_,_=>rfl
 | (name,kind)::r,n,acc,x,m=>by
   have m2:(x,NameKind.cell)∉r:=fun z=>m (cK _ z)
   unfold cellsFrom
   split
   . rename_i hk
     rw [qt r (n+1) _ m2,mW]
     cases hb:x==name with
     | true=>
       have e1:=lG.mp hb
       have e2:kind=NameKind.cell:=by simpa using hk
       subst e1 e2
       exact absurd dg m
     | false=>rfl
   . exact qt r n acc m2
theorem qu:∀(names:List (Str×NameKind)) (n:Nat) (acc:List (Str×Addr)),(∀x y c,acc.lookup x=some c->acc.lookup y=some c->x=y)->(∀x c,acc.lookup x=some c->c<n)->
  ∀x y c,(cellsFrom n names acc).lookup x=some c->(cellsFrom n names acc).lookup y=some c->x=y
 | [],_,_,h,_=>h
 | (name,kind)::r,n,acc,h,hlt=>by
   intro x y c hx hy
   unfold cellsFrom at hx hy
   split at hx
   . rename_i hk
     rw [aA hk] at hy
     refine qu r (n+1) _ (fun x y c hx hy=>?_) (fun x c hx=>?_) x y c hx hy
     . rw [mW] at hx hy
       cases hb:x==name with
       | true=>
         cases hb2:y==name with
         | true=>rw [lG.mp hb,lG.mp hb2]
         | false=>
           rw [hb] at hx;rw [hb2] at hy
           cases hx
           exact absurd (hlt _ _ hy) (iW _)
       | false=>
         cases hb2:y==name with
         | true=>
           rw [hb] at hx;rw [hb2] at hy
           cases hy
           exact absurd (hlt _ _ hx) (iW _)
         | false=>
           rw [hb] at hx;rw [hb2] at hy
           exact h x y c hx hy
     . rw [mW] at hx
       cases hb:x==name with
       | true=>rw [hb] at hx;cases hx;exact Nat.lt_succ_self _
       | false=>rw [hb] at hx;exact L3 (hlt _ _ hx)
   . rename_i hk
     rw [az hk] at hy
     exact qu r n acc h hlt x y c hx hy
theorem ua:∀(names:List (Str×NameKind)) (h:Heap) (acc:List (Str×Addr)),(∀x c,acc.lookup x=some c->∃v,h.IsCell c v)->∀x c,(cellsFrom h.objs.size names acc).lookup x=some c->∃v,(pushCells h names).IsCell c v
 | [],_,_,ha=>ha
 | (name,kind)::r,h,acc,ha=>by
   intro x c hx
   unfold cellsFrom at hx
   unfold pushCells
   split at hx
   . rename_i hk
     rw [aA hk]
     have q:=ua r (h.push { cls:= .type "cell",data:= .cell none }) ((name,h.objs.size)::acc) (fun x c hx=>by
      rw [mW] at hx
      cases hb:x==name with
      | true=>rw [hb] at hx;cases hx;exact ⟨none,_,dP _ rfl,Z⟩
      | false=>
        rw [hb] at hx
        obtain ⟨v,z⟩:=ha x c hx
        exact ⟨v,z.keeps fun b o e=>bU _ e⟩) x c
     rw [kD] at q
     exact q hx
   . rename_i hk
     rw [az hk]
     exact ua r h acc ha x c hx
def dh (X:Cx) (N2:List Str) (scope:Scope) (cl:List (Str×Addr)) (s₂:Shared) (H₂:Hp) (fp:List Addr):Cx where
 prog:=X.prog
 w:=X.w
 K:=X.K
 mg:=X.mg
 base:=X.base
 A:=X.A
 N:=N2
 s₀:=s₂
 H₀:=H₂
 env:={ scope:=relabel scope X.env,locals:=s₂.heap.objs.size,globals:=X.env.globals,cells:=cellsFrom (s₂.heap.objs.size+1) scope.names cl,qual:=X.env.qual,func:=none,code:=X.env.code,frame:=X.env.frame,builtins:=X.env.builtins }
 outer:=X.stack
 stack:=X.stack
 ex:=fp
 fn:=fun x=>decide (scope.names.lookup x=some .cell)
 calm:=X.calm
 pn:=[]
 xe:=fun _ _=>False
def pW (XN:List Str) (xn sn:List (Str×NameKind)) (N2:List Str) (ix:List (Option Nat)):Bool:=
 (ix.length==N2.length) &&
 ((ix.zip N2).all fun p=>match p.1 with
   | none=>true
   | some j=>XN[j]?==some p.2 && sn.lookup p.2==some .free && (xn.lookup p.2==some .cell || xn.lookup p.2==some .free)) &&
 (sn.all fun y=>y.2 != .free || (xn.lookup y.1==some .cell || xn.lookup y.1==some .free)) &&
 (sn.all fun y=>y.2 != .local || sn.lookup y.1==some .local) &&
 (sn.all fun y=>y.2 != .free || sn.all fun z=>z.2 != .cell || z.1 != y.1)
variable {x:Str}
theorem yJ {k:NameKind} (h:(relabel scope env).names.lookup x=some k) (hk:k = .cell\/k = .free):(x,NameKind.cell)∈scope.names\/(x,NameKind.free)∈scope.names:=by
 have m:=uX h
 obtain ⟨y,hy,e⟩:=bJ.mp m
 obtain ⟨n,k0⟩:=y
 dsimp only at e
 split at e
 . rename_i hc
   cases e
   have h1:k0=NameKind.free:=by
    have:=(lX.mp (lX.mp hc).1).1
    simpa using this
   subst h1
   exact .inr hy
 . cases e
   rcases hk with rfl|rfl
   . exact .inl hy
   . exact .inr hy
theorem Gk:∀{x:Str},scope.names.lookup x=some .free->(relabel scope env).names.lookup x=some .cell\/(relabel scope env).names.lookup x=some .free:=by
 intro x h
 have gen:∀(l:List (Str×NameKind)),l.lookup x=some .free->(l.map fun (n,k)=>if (k==NameKind.free && env.scope.kind == .function && env.kindOf n==some .cell) then (n,NameKind.cell) else (n,k)).lookup x=some .cell\/
   (l.map fun (n,k)=>if (k==NameKind.free && env.scope.kind == .function && env.kindOf n==some .cell) then (n,NameKind.cell) else (n,k)).lookup x=some .free:=by
  intro l
  induction l with
  | nil=>intro h;cases h
  | cons p r ih=>
    intro h
    obtain ⟨n,k⟩:=p
    rw [mW] at h
    rw [cj]
    dsimp only
    cases hb:x==n with
    | true=>
      rw [hb] at h
      cases h
      split
      . rw [mW,hb];exact .inl rfl
      . rw [mW,hb];exact .inr rfl
    | false=>
      rw [hb] at h
      split
      . rw [mW,hb];exact ih h
      . rw [mW,hb];exact ih h
 exact gen scope.names h
variable {X:Cx} {pins:AO} {σ σ2:St} {s:Shared} {N2:List Str} {cl:List (Str×Addr)} {fp:List Addr}
theorem AA (I:Inv X pins σ H s) (hk:scope.kind = .function)
  (Gm:∀y c,(y,c)∈cl->X.env.cells.lookup y=some c) (Cj:∀y,(y,NameKind.free)∈scope.names->∃c,(y,c)∈cl) (hfp:∀b∈fp,m5 X pins H b) (hfo:∀b∈fp,b<s.heap.objs.size) (hl:σ2.length=N2.length)
  (hσ:∀(i:Nat) (x:Str) (v:V),N2[i]?=some x->σ2[i]?=some (some v)->scope.names.lookup x=some .free/\(X.env.kindOf x=some .cell\/X.env.kindOf x=some .free)/\∃j:Nat,X.N[j]?=some x/\σ[j]?=some (some v))
  (hd:∀x,(x,NameKind.free)∈scope.names->(x,NameKind.cell)∉scope.names):
  Inv (dh X N2 scope cl s H fp) [] σ2 H { s with heap:=pushCells (s.heap.push { cls:= .type "dict",data:= .dict #[] }) scope.names }:=by
 have keeps:∀b o,s.heap.get? b=some o->(pushCells (s.heap.push { cls:= .type "dict",data:= .dict #[] }) scope.names).get? b=some o:=fun b o e=>Fb _ _ b o (bU _ e)
 have hsz:(s.heap.push { cls:= .type "dict",data:= .dict #[] }).objs.size=s.heap.objs.size+1:=kD ..
 have yl:∀x c,cl.lookup x=some c->X.env.cells.lookup x=some c:=fun x c e=>Gm x c (uX e)
 have clt:∀x c,cl.lookup x=some c->c<s.heap.objs.size:=fun x c e=>by
  obtain ⟨v,z⟩:=I.cell x c (yl x c e)
  exact z.lt
 have there:=ua scope.names (s.heap.push { cls:= .type "dict",data:= .dict #[] }) cl (fun x c e=>by
  obtain ⟨v,z⟩:=I.cell x c (yl x c e)
  exact ⟨v,z.keeps fun b o e=>bU _ e⟩)
 rw [hsz] at there
 have cells:∀x c,(cellsFrom (s.heap.objs.size+1) scope.names cl).lookup x=some c->s.heap.objs.size+1<=c\/X.env.cells.lookup x=some c:=fun x c e=>by
  rcases kI _ _ _ e with z|z
  . exact .inl z
  . exact .inr (yl x c z)
 have okY:(dh X N2 scope cl s H fp).Ok:=by
  refine ⟨I.ok.mod,hk,I.ok.glob,I.ok.blt,aK _,?_,?_,?_,I.ok.hd,I.ok.frames, .inl rfl,?_,I.bs,fH I.ok.Dk I.sz,?_,?_,I.stack,I.yg⟩
  . exact qu _ _ _ (fun x y c hx hy=>I.ok.inj x y c (yl x c hx) (yl y c hy)) fun x c e=>L3 (clt x c e)
  . intro x hx
    have m:(x,NameKind.cell)∈scope.names\/(x,NameKind.free)∈scope.names:=by
     rcases hx with z|z
     . exact yJ z (.inl rfl)
     . exact yJ z (.inr rfl)
    rcases m with m|m
    . exact qp _ _ _ m
    . obtain ⟨c,mc⟩:=Cj x m
      exact kJ _ _ _ (lookup_mem mc)
  . intro x c hf e
    have hf':scope.names.lookup x=some .cell:=aV hf
    exact fH (yf _) (qo _ _ _ (uX hf') e)
  . intro b hb
    refine ⟨ef (hfo b hb),fun x c e z=>?_⟩
    have hlt:=hfo b hb
    rcases cells x c e with k|k
    . exact absurd (jK hlt (fH (yf _) (z▸k))) (iW _)
    . exact (hfp b hb).2.2.2.2.1 x c k z
  . intro b o e hb
    rcases (hfp b hb).2.2.2.1 with z|z
    . exact I.ok.FJ b o e z
    . exact absurd (jK (bF (I.ok.bs b o e).1) z) (iW _)
  . intro b hb hbs
    rcases c8.mp (I.FO b hbs) with z|z
    . exact (hfp b hb).2.1 z
    . exact (hfp b hb).2.2.1 z
 refine ⟨okY,Z,I.bare,Un.kept keeps,?_,there,I.hok.fresh (aK _),?_,(fun p hp=>nomatch hp),I.hok.kept keeps,hl⟩
 . refine ⟨fun _=>none,(Heap.Ns.new s.heap (.type "dict")).keeps (Fb _ _),fun i x v e1 e2 _=>?_⟩
   obtain ⟨hf,hx,j,j1,j2⟩:=hσ i x v e1 e2
   obtain ⟨m,_,hloc⟩:=I.loc
   have hv:RJ X.env.scope x:=hx.elim (fun z=> .inr (.inl z)) fun z=> .inr (.inr z)
   obtain ⟨u,r,lk⟩:=hloc j x v j1 j2 hv
   refine ⟨u,r, .inr ⟨Gk hf,?_⟩⟩
   rcases lk with ⟨k,_⟩|⟨_,c,ec,ic⟩
   . rcases hx with z|z <;> rw [z] at k <;> cases k
   . refine ⟨c,?_,ic.keeps keeps⟩
     have mf:=uX hf
     show (cellsFrom (s.heap.objs.size+1) scope.names cl).lookup x=some c
     rw [qt _ _ _ (hd x mf)]
     obtain ⟨c',mc⟩:=Cj x mf
     obtain ⟨d,ed⟩:=lookup_mem mc
     rw [ed]
     have:=yl x d ed
     rw [ec] at this
     exact this.symm
 . intro x c e
   rcases cells x c e with k|k
   . exact I.hok.fresh (by omega)
   . exact I.lI x c k
variable {tg:Expr} {te:TE} {E:VS}
section
variable {X:Cx}
def AB (J:It) (g:TG) (te:TE) (acc:Addr) (σ₀:St) (H:Hp) (Q:VK):Prop:=∃W:Nat->Nat->St->Hp->Prop,
 (∃m,W 0 m σ₀ (upd H acc (.lst [])))/\∀i m σ2 H2,W i m σ2 H2->
   (J.stop i H2/\Q (.ref acc) H2)\/(J.go i H2/\∃(S:St->Prop) (N:V->Hp->Prop),(∀σ3 v H4,S σ3->N v H4->∃xs,H4 acc=some (.lst xs)/\xs.length<sizeLine/\∃m',m'<m/\W (i+1) m' σ3 (upd H4 acc (.lst (xs++[v]))))/\∀x H',J.Ah i H2 x H'->g x σ2 H' fun σ3 H3=>S σ3/\te σ3 H3 N)
inductive vj (Pv:Nat->List V->Hp->Prop) (i:Nat) (acc:Addr) (out:List V) (v:V) (H4:Hp):Prop
 | mk (_:H4 acc=some (.lst out)) (_:Pv (i+1) (out++[v]) (upd H4 acc (.lst (out++[v]))))
def RX (te:TE) (σ:St) (Pv:Nat->List V->Hp->Prop) (i:Nat) (acc:Addr) (out:List V):Bool->Hp->Prop:=fun b H2=>if b=true then te σ H2 (vj Pv i acc out) else H2 acc=some (.lst out)/\Pv (i+1) out H2
def pick (ix:List (Option Nat)) (σ:St):St:=ix.map fun o=>o.bind fun j=>(σ[j]?).join
def VI (ix:List (Option Nat)) (g:TG) (te:TE) (σ:St) (Q:VK):It->Hp->Prop:=fun J H1=>∀acc,H1 acc=none->AB J g te acc (pick ix σ) H1 Q
def RY (wi:TI) (ix:List (Option Nat)) (g:TG) (te:TE):TE:=fun σ H Q=>wi σ H (VI ix g te σ Q)
theorem m_ {XN:List Str} {xn sn:List (Str×NameKind)} {ix:List (Option Nat)} (h:pW XN xn sn N2 ix=true):
  ix.length=N2.length/\(∀(i:Nat) (x:Str) (j:Nat),N2[i]?=some x->ix[i]?=some (some j)->XN[j]?=some x/\sn.lookup x=some .free/\(xn.lookup x=some .cell\/xn.lookup x=some .free))/\
  (∀y∈sn,y.2 = .free->xn.lookup y.1=some .cell\/xn.lookup y.1=some .free)/\(∀y∈sn,y.2 = .local->sn.lookup y.1=some .local)/\∀x,(x,NameKind.free)∈sn->(x,NameKind.cell)∉sn:=by
 unfold pW at h
 obtain ⟨h,h5⟩:=lX.mp h
 obtain ⟨h,h4⟩:=lX.mp h
 obtain ⟨h,h3⟩:=lX.mp h
 obtain ⟨h1,h2⟩:=lX.mp h
 have e1:ix.length=N2.length:=by simpa using h1
 refine ⟨e1,fun i x j a b=>?_,fun y hy e=>?_,fun y hy e=>?_,fun x m1 m2=>?_⟩
 . have m:(some j,x)∈ix.zip N2:=by
    refine bR (i:=i) ?_
    rw [List.getElem?_zip_eq_some]
    exact ⟨b,a⟩
   have q:=tY.mp h2 _ m
   dsimp only at q
   obtain ⟨q,q3⟩:=lX.mp q
   obtain ⟨q1,q2⟩:=lX.mp q
   exact ⟨by simpa using q1,by simpa using q2,(B8.mp q3).imp (fun z=>by simpa using z) fun z=>by simpa using z⟩
 . have q:=tY.mp h3 y hy
   rcases B8.mp q with z|z
   . rw [e] at z;simp at z
   . exact (B8.mp z).imp (fun z=>by simpa using z) fun z=>by simpa using z
 . have q:=tY.mp h4 y hy
   rcases B8.mp q with z|z
   . rw [e] at z;simp at z
   . simpa using z
 . have q:=tY.mp h5 _ m1
   rcases B8.mp q with z|z
   . simp at z
   . have q2:=tY.mp z _ m2
     simp at q2
theorem AD {ix:List (Option Nat)} {g:TG} {Q:VK}
  {RR:Value->Addr->Result->Shared->Prop} (hc:X.calm=true) (hg:∀cl s₂ H₂ fp,PG (dh X N2 scope cl s₂ H₂ fp) tg g) (he:∀cl s₂ H₂ fp,PE (dh X N2 scope cl s₂ H₂ fp) elt te)
  (hk:scope.kind = .function) (hn:pW X.N X.env.scope.names scope.names N2 ix=true)
  (Gm:∀y c,(y,c)∈cl->X.env.cells.lookup y=some c) (Cj:∀y,(y,NameKind.free)∈scope.names->∃c,(y,c)∈cl)
  {it:Addr} {fp:List Addr} {tn:Nat->Heap->Prop} {J:It} (I:Inv X pins σ H s) (T:Turn X.prog X.w X.K tg J fp it tn) (st:tn 0 s.heap) (f:∀b∈fp,m5 X pins H b)
  (h:∀acc,H acc=none->AB J g te acc (ix.map fun o=>o.bind fun j=>(σ[j]?).join) H Q)
  (hR:∀acc C H' s' m,Inv X pins σ H' s'->s'.heap.Ns C m->H' C=none->C≠X.env.locals->X.s₀.heap.objs.size<=C->(∀x c,X.env.cells.lookup x=some c->c≠C)->(∀p∈X.pn++pins,p.1≠C)->Q (.ref acc) H'->RR (.ref acc) C (.ok .next) s'):
  wpAny (model X.prog X.w) X.A (newList []) (fun acc s₃=>wpAny (model X.prog X.w) X.A (newFunctionEnv scope X.env.globals cl [] X.env.qual none .none (some X.env)) (fun cenv s₄=>
   codeAny (model X.prog X.w) X.A (.compStart (.ListComp elt [⟨tg,iter,[],0⟩] scope pos) 0 (.ref it) acc { cenv with scope:=relabel scope X.env }) (RR acc cenv.locals) s₄) E s₃) E s:=by
 obtain ⟨k1,k2,k3,k4,k5⟩:=m_ hn
 refine uY ?_
 have I3:Inv X pins σ (upd H s.heap.objs.size (.lst [])) { s with heap:=s.heap.push { cls:= .type "list",data:= .seq ([] :List Value).toArray } }:=
  I.laid (a:=s.heap.objs.size) (o:= .lst []) (t':=s.toks) (fun _ _ q=>bU _ q) (aK _) ⟨gH _,[],_, .nil,dP _ rfl⟩
 obtain ⟨W,⟨m0,w0⟩,turn⟩:=h s.heap.objs.size I.fresh
 have fo:∀b∈fp,b<s.heap.objs.size:=fun b hb=>by
  obtain ⟨o,e,_⟩:=T.obj 0 _ st b hb
  exact bF e
 have st3:tn 0 (s.heap.push { cls:= .type "list",data:= .seq ([] :List Value).toArray }):=T.keep _ _ _ st fun b _ o e=>bU _ e
 have f3:∀b∈fp,m5 X pins (upd H s.heap.objs.size (.lst [])) b:=fun b hb=>⟨by rw [av (ef (fo b hb))];exact (f b hb).1,(f b hb).2⟩
 have Od:∀b∈fp,b<(s.heap.push { cls:= .type "list",data:= .seq ([] :List Value).toArray }).objs.size:=fun b hb=>by rw [kD];exact L3 (fo b hb)
 generalize VJ:({ s with heap:=s.heap.push { cls:= .type "list",data:= .seq ([] :List Value).toArray } }:Shared)=s3 at *
 have VL:s3.heap=s.heap.push { cls:= .type "list",data:= .seq ([] :List Value).toArray }:=by rw [<-VJ]
 rw [<-VL] at st3 Od
 generalize s.heap.objs.size=acc at *
 generalize eH3:upd H acc (.lst [])=H3 at *
 have IY:=AA (N2:=N2) (scope:=scope) (cl:=cl) (fp:=fp) (σ2:=ix.map fun o=>o.bind fun j=>(σ[j]?).join) I3 hk Gm Cj f3 Od (by rw [aC];exact k1) (fun i x v e1 e2=>by
  rw [b_] at e2
  cases ei:ix[i]? with
  | none=>rw [ei] at e2;cases e2
  | some o=>
    rw [ei] at e2
    cases o with
    | none=>cases e2
    | some j=>
      obtain ⟨a1,a2,a3⟩:=k2 i x j e1 ei
      refine ⟨a2,a3,j,a1,?_⟩
      have e3:(σ[j]?).join=some v:=eV e2
      cases ej:σ[j]? with
      | none=>rw [ej] at e3;cases e3
      | some z=>rw [ej] at e3;exact kG some e3) k5
 have ne:wpAny (model X.prog X.w) X.A (newFunctionEnv scope X.env.globals cl [] X.env.qual none .none (some X.env)) (fun cenv s₄=>
   cenv={ scope:=scope,locals:=s3.heap.objs.size,globals:=X.env.globals,cells:=cellsFrom (s3.heap.objs.size+1) scope.names cl,qual:=X.env.qual,func:=none,code:=X.env.code,frame:=X.env.frame,builtins:=X.env.builtins }/\
   s₄={ s3 with heap:=pushCells (s3.heap.push { cls:= .type "dict",data:= .dict #[] }) scope.names }) E s3:=by
  simp only [newFunctionEnv,Option.isSome_some,if_true]
  refine ay (wpAny_alloc ?_)
  refine ay (wpAny_layCells _ (fun name kind cells=>by cases hkc:kind==NameKind.cell <;> simp [hkc]) _ _ _ _ ?_)
  rw [z8]
  refine ay (aS (aS ⟨?_,Z⟩))
  rw [show ({ s3 with heap:=s3.heap.push { cls:= .type "dict",data:= .dict #[] } }:Shared).heap.objs.size=s3.heap.objs.size+1 from kD ..]
 refine aZ ne fun cenv s4 ⟨e1,e2⟩=>?_
 subst e1 e2
 have Oe:tn 0 (pushCells (s3.heap.push { cls:= .type "dict",data:= .dict #[] }) scope.names):=T.keep _ _ _ st3 fun b _ o e=>Fb _ _ b o (bU _ e)
 have AE:s3.heap.objs.size≠X.env.locals:=ye I3.lt
 have rG:∀{H':Hp},(∀b∈fp,H' b=none)->∀b∈fp,m5 (dh X N2 scope cl s3 H3 fp) [] H' b:=fun {H'} hn b hb=>
  ⟨hn b hb,(IY.ok.KG b hb).1,IY.ok.Cf b hb, .inl hb,(IY.ok.KG b hb).2,fun p hp=>nomatch hp⟩
 have loop:codeAny (model X.prog X.w) X.A (.compLoop (.ListComp elt [⟨tg,iter,[],0⟩] scope pos) 0 (.ref it) (.ref acc) (dh X N2 scope cl s3 H3 fp).env) (RR (.ref acc) s3.heap.objs.size)
   { s3 with heap:=pushCells (s3.heap.push { cls:= .type "dict",data:= .dict #[] }) scope.names }:=by
  refine Gj (fun n s'=>∃i σ' H',Inv (dh X N2 scope cl s3 H3 fp) [] σ' H' s'/\tn i s'.heap/\(∀b∈fp,H' b=none)/\W i n σ' H') ?_ m0 ⟨0,_,H3,IY,Oe,fun b hb=>(f3 b hb).1,w0⟩
  rintro n s5 ⟨i,σ5,H5,I5,AF,Gn,w5⟩
  rcases turn i n σ5 H5 w5 with ⟨stop,qn⟩|⟨go,S,N,VM,step⟩
  . refine aZ (T.done (dh X N2 scope cl s3 H3 fp) rfl rfl rfl hc i [] s5 σ5 H5 (fun _ _=>False) I5 (rG Gn) AF stop) fun r s6 ⟨hr,I6⟩=>?_
    subst hr
    obtain ⟨m6,VN,_⟩:=id I6.loc
    have IX:Inv X pins σ H5 s6:=I3.L_ (ch:=fp) I6.os I6.base I6.hok I6.bare fun b hb=>⟨(f3 b hb).2.2.2.1,(f3 b hb).2.1,(f3 b hb).2.2.2.2.1,(f3 b hb).2.2.2.2.2⟩
    refine hR acc s3.heap.objs.size H5 s6 m6 IX VN I6.free AE I3.sz (fun x c e z=>?_) (fun p hp z=>?_) qn
    . obtain ⟨v,q⟩:=I3.cell x c e
      exact absurd q.lt (by rw [z];exact iW _)
    . exact absurd (bF (I3.pin p hp).1) (by rw [z];exact iW _)
  . refine aZ (T.item (dh X N2 scope cl s3 H3 fp) rfl rfl rfl hc i [] s5 σ5 H5 (fun _ _=>False) I5 (rG Gn) AF go) fun r s6 ⟨u,hr,h6⟩=>?_
    subst hr
    refine aZ h6 fun _ s7 ⟨x,H7,I7,r7,y7,pX,Of⟩=>?_
    have VO:=I7.pinned (rG Of) (T.obj _ _ pX)
    refine aZ (hg cl s3 H3 fp _ s7 σ5 H7 x u _ VO r7 (step x H7 y7)) fun _ s8 ⟨σ8,H8,I8,RZ,q8⟩=>?_
    refine aZ (he cl s3 H3 fp _ s8 σ8 H8 _ I8 q8) fun y s9 ⟨v,H9,I9,r9,q9⟩=>?_
    obtain ⟨xs,hxs,VP,m',hm,w9⟩:=VM σ8 v H9 RZ q9
    refine aZ (dD _ s9 σ8 H9 (.ref acc) [v] (.ref acc) [y] (fun z AG=>z = .bL/\AG=upd H9 acc (.lst (xs++[v]))) I9 rfl (.cons r9 .nil) ⟨acc,xs,v,Z,Z,hxs,VP,Z,Z⟩) fun z s10 ⟨zv,AG,Gp,r10,ez,eH⟩=>?_
    subst eH
    refine ⟨m',hm,i+1,σ8,_,Gp.oF,T.keep _ _ _ pX fun b hb o e=>(Gp.pin (b,o) (iQ _ (iQ _ (iH hb e)))).1,fun b hb=>?_,w9⟩
    obtain ⟨o,e,d⟩:=T.obj _ _ pX b hb
    exact (Gp.pin (b,o) (iQ _ (iQ _ (iH hb e)))).2.1
 exact codeAny_compStart_list loop (T.self _ 0 _ _ _ Oe loop)
end
variable {H':Hp}
theorem aO.cY {p:Addr} (e:aO H H') (h:H p=none) (o:HO):aO H (upd H' p o):=fun b u q=>by rw [av (aD q h)];exact e b u q
section
variable {X:Cx}
theorem QD (hc:X.calm=true):iA X (.builtin "sum") (fun xs H Q=>∃(a:Addr) (ns:List Int),xs=[.ref a]/\aF X.K H a (ns.map V.int)/\Q (.int ns.sum) H):=by
 intro pins s σ H xs us Q I r h
 obtain ⟨a,ns,rfl,hS,q⟩:=h
 obtain ⟨u,rfl,ru⟩:=vals1 r
 cases ru
 obtain ⟨its,rv,p,hz⟩:=I.list hS
 have hi:=intsAre_of rv
 have hl:=p.isList
 obtain ⟨o,ho,_⟩:=id hl
 have hne:a≠s.heap.objs.size:=ef (bF ho)
 have W:=(Walks.list (prog:=X.prog) (w:=X.w) (A:=X.A.in1) (I.ok.hd hc) s.heap.objs.size a hne its.toArray).toS
 have AH:its.length=ns.length:=by rw [<-rv.length,aC]
 refine call_sum_walkAnyS (LY hl ?_)
 refine ⟨s.heap.objs.size,_,_,_,_,_,_,fun i=>ns.getD i 0,Z,W,⟨⟨_,dP _ rfl,Z,Z⟩,hl.at fun o e=>bU _ e⟩,fun b hb=>?_,fun i v hP=>?_,fun s' t' hm=>?_⟩
 . rcases c8.mp hb with rfl|hb
   . exact bF (dP _ rfl)
   . obtain rfl:=fT.mp hb
     exact bF (bU _ ho)
 . have Og:its[i]?=some v:=by simpa using hP
   have hil:i<ns.length:=by
    have:=(c_.mp Og).1
    omega
   obtain ⟨u,hu,ru⟩:=rv.get (i:=i) (x:=V.int ns[i]) (by rw [b_,bB hil];rfl)
   rw [Og] at hu
   cases hu
   obtain ⟨t,e⟩:=ru
   refine ⟨t,?_⟩
   rw [e]
   show Value.int ns[i] t=Value.int (ns.getD i 0) t
   rw [jJ,bB hil]
   rfl
 . obtain ⟨h',g',d',tk',os'⟩:=s'
   have e1:g'=s.gens:=hm.gens
   have e2:d'=s.drawn:=hm.drawn
   have e3:os'=s.os:=hm.os
   subst e1 e2 e3
   have hsz:its.toArray.size=ns.length:=by rw [gE,AH]
   rw [hsz,preSum_getD,List.take_of_length_le (aK _)]
   exact ⟨.int ns.sum,H,I.kept (h':=h') (t':=tk') fun b o e=>hm.heap b o (fun hb=>absurd (bF e) ((fT.mp hb)▸iW _)) (bU _ e),⟨t',Z⟩,q⟩
theorem QE (hc:X.calm=true):iA X (.builtin "all") (fun xs H Q=>∃(a:Addr) (bs:List Bool),xs=[.ref a]/\aF X.K H a (bs.map V.bl)/\Q (.bl (bs.all id)) H):=by
 intro pins s σ H xs us Q I r h
 obtain ⟨a,bs,rfl,hS,q⟩:=h
 obtain ⟨u,rfl,ru⟩:=vals1 r
 cases ru
 obtain ⟨its,rv,p,hz⟩:=I.list hS
 have hl:=p.isList
 obtain ⟨o,ho,_⟩:=id hl
 have hne:a≠s.heap.objs.size:=ef (bF ho)
 have AH:its.length=bs.length:=by rw [<-rv.length,aC]
 refine call_all_walk (LY hl ?_)
 refine ⟨s.heap.objs.size,_,_,_,_,_,fun i=>bs.getD i false,Z,Walks.list (prog:=X.prog) (w:=X.w) (A:=X.A.in1) (I.ok.hd hc) s.heap.objs.size a hne its.toArray,⟨⟨_,dP _ rfl,Z,Z⟩,hl.at fun o e=>bU _ e⟩,fun i v s' Q' E' hP hQ=>?_,fun h' tk hk=>?_⟩
 . have Og:its[i]?=some v:=by simpa using hP
   have hil:i<bs.length:=by
    have:=(c_.mp Og).1
    omega
   obtain ⟨u,hu,ru⟩:=rv.get (i:=i) (x:=V.bl bs[i]) (by rw [b_,bB hil];rfl)
   rw [Og] at hu
   cases hu
   have e:v=Value.bool bs[i] :=ru
   subst e
   refine Cc ?_
   have Zq:Q' (bs.getD i false) s':=hQ
   rw [jJ,bB hil] at Zq
   exact Zq
 . have hsz:its.toArray.size=bs.length:=by rw [gE,AH]
   have e:(List.range its.toArray.size).all (fun i=>bs.getD i false)=bs.all id:=by
    rw [hsz,yc,tY,tY]
    refine ⟨fun z x hx=>?_,fun z i hi=>?_⟩
    . obtain ⟨i,hi,e⟩:=List.mem_iff_getElem.mp hx
      have:=z i (u6.mpr hi)
      rw [jJ,bB hi] at this
      rw [<-e]
      exact this
    . have hi':=u6.mp hi
      rw [jJ,bB hi']
      exact z _ (Ce hi')
   rw [e]
   exact ⟨.bl (bs.all id),H,I.kept (h':=h') (t':=tk) fun b o e=>hk b o (fun hb=>absurd (bF e) ((fT.mp hb)▸iW _)) (bU _ e),Z,q⟩
end
section
variable {X:Cx} (K:Fg)
theorem aP (hK:X.K=K:=by rfl):wk X (Qo K):=hK▸NY
theorem di (hK:X.K=K:=by rfl):wk X (Mq K):=hK▸KU
theorem wY (hc:X.calm=true) (hK:X.K=K:=by rfl):iA X (.builtin "sum") (fun xs H Q=>∃(a:Addr) (ns:List Int),xs=[.ref a]/\aF K H a (ns.map V.int)/\Q (.int ns.sum) H):=hK▸QD hc
theorem Oh (hc:X.calm=true) (hK:X.K=K:=by rfl):iA X (.builtin "all") (fun xs H Q=>∃(a:Addr) (bs:List Bool),xs=[.ref a]/\aF K H a (bs.map V.bl)/\Q (.bl (bs.all id)) H):=hK▸QE hc
theorem cN (hK:X.K=K:=by rfl):iA X (.builtin "len") (fun xs H Q=>∃p ys,xs=[.ref p]/\(aF K H p ys\/cO K H p ys)/\Q (.int ys.length) H):=hK▸FZ
theorem qw (hK:X.K=K:=by rfl):iA X (.type "list") (fun xs H Q=>∃p ys,xs=[.ref p]/\(aF K H p ys\/cO K H p ys)/\∀l,H l=none->Q (.ref l) (upd H l (.lst ys))):=hK▸Ga
end
theorem Jv {n l1 l2:Nat} (h1:l1<n) (h2:l2<n):ZipApart (n+4) (n+2) (n+3) n (n+1) l1 l2:=by
 have nn:∀i j:Nat,i≠j->n+i≠n+j:=fun i j h e=>h (Nat.add_left_cancel e)
 have ne:∀(c k:Nat),c<n->c≠n+k:=fun c k h=>by omega
 exact ⟨nn 2 4 (by decide),nn 3 4 (by decide),nn 0 4 (by decide),nn 1 4 (by decide),nn 2 3 (by decide),nn 2 0 (by decide),nn 2 1 (by decide),nn 3 0 (by decide),nn 3 1 (by decide),nn 0 1 (by decide),ne _ 4 h1,ne _ 3 h1,ne _ 0 h1,ne _ 1 h1,ne _ 4 h2,ne _ 3 h2,ne _ 0 h2,ne _ 1 h2⟩
section
variable {X:Cx} {elts:List Expr} {kk:Nat} {tpos:Pos}
end
inductive Yv (K:Fg) (vs:List V) (H:Hp) (Q:VK) (E:XK):Prop
 | mk (a:Addr) (ns:List Int) (k j:Int) (_:vs=[.ref a, .int k, .int j]) (_:aF K H a (ns.map V.int)) (_:ns.length<=63) (_:0<=k) (_:0<=j) (_:j<2 ^ 61) (_:∀(m:Int) (H':Hp),1<=m->m<=1000000000->aO H H'->Q (.int m) H')
def AI (K:Fg):Sp:=bx (Yv K)
theorem Gq {Q:VK} {E:XK} {k j:Int} (hS:aF K H a (ns.map V.int)) (h63:ns.length<=63) (h1:0<=k) (h2:0<=j) (h3:j<2 ^ 61)
  (h:∀(m:Int) (H':Hp),1<=m->m<=1000000000->aO H H'->Q (.int m) H'):AI K [.ref a, .int k, .int j] H Q E:=⟨a,ns,k,j,Z,hS,h63,h1,h2,h3,h⟩
section
variable {X:Cx}
inductive Yw (Q:VK) (vs:List V) (H1:Hp):Prop
 | mk  (j:Int) (_:vs=[.int j]) (_:∀p,H1 p=none->Q (.ref p) (upd H1 p (.sZ 0 j)))
def abp (ta:TA):TE:=fun σ H Q=>ta σ H (Yw Q)
def upTo (n:Nat):List Int:=(List.range n).map fun i=>((i:Nat):Int)
theorem Ei (hc:X.calm=true):iA X (.type "list") (fun xs H Q=>∃(r:Addr) (n:Nat),xs=[.ref r]/\H r=some (.sZ 0 (n:Int))/\n<=1000/\∀l,H l=none->Q (.ref l) (upd H l (.lst ((upTo n).map V.int)))):=by
 intro pins s σ H xs us Q I r h
 obtain ⟨a,n,rfl,hr,hn,q⟩:=h
 obtain ⟨u,rfl,ru⟩:=vals1 r
 cases ru
 obtain ⟨t,t2,t3,e⟩:=(show dS X.prog X.w H s.heap a (.sZ 0 (n:Int)) from I.hok a _ hr)
 refine call_list_range (n:=n) (I.ok.hd hc) e (small_one (by decide) (by decide) (by omega) (by omega)) (by rw [rangeSize_one];split <;> omega) (by omega) fun h' tk acc' c' hk hS hI=>?_
 obtain ⟨hsz,hit⟩:=hI
 have hv:Vals ((upTo n).map V.int) acc'.toList:=by
  have gen:∀(m:Nat) (us:List Value) (k:Nat),us.length=m->(∀(j:Nat) (v:Value),us[j]?=some v->∃t,v = .int ((0:Int)+((k+j:Nat):Int)*1) t)->Vals (((List.range' k m).map fun i=>((i:Nat):Int)).map V.int) us:=by
   intro m
   induction m with
   | zero=>intro us k hl _;rw [List.length_eq_zero_iff.mp hl];exact .nil
   | succ m ih=>
     intro us k hl hu
     cases us with
     | nil=>cases hl
     | cons v r=>
       obtain ⟨t,e⟩:=hu 0 v rfl
       refine .cons ⟨t,?_⟩ (ih r (k+1) (by simpa using hl) fun j v' hj=>?_)
       . rw [e]
         show Value.int _ t=Value.int ((k:Nat):Int) t
         congr 1
         omega
       . obtain ⟨t,e⟩:=hu (j+1) v' (by simpa using hj)
         exact ⟨t,by rw [e];congr 1;omega⟩
  have:=gen n acc'.toList 0 (by simpa using hsz) fun j v hj=>by
   obtain ⟨t,e⟩:=hit j v (by simpa using hj)
   exact ⟨t,by rw [e];congr 1;omega⟩
  unfold upTo
  rw [List.range_eq_range']
  exact this
 have hlen:((upTo n).map V.int).length<=sizeLine:=by unfold upTo;simp;exact small (by omega)
 exact ⟨.ref s.heap.objs.size,_,I.laid (a:=s.heap.objs.size) (o:= .lst ((upTo n).map V.int)) (h':=h') (t':=tk) hk (aK _) ⟨hlen,acc'.toList,c',hv,by simpa using hS⟩,Z,q _ I.fresh⟩
inductive Tu (K:Fg) (Q:VK) (x:V) (y:V) (H2:Hp):Prop
 | mk  (_:y = .int (-1)) (a xs:_) (_:x = .ref a) (_:aF K H2 a xs) (_:∀p,H2 p=none->Q (.ref p) (upd H2 p (.lst xs.reverse)))
def Yx (K:Fg) (ts:TE) (σ:St) (Q:VK):V->Hp->Prop:=fun x H1=>ts σ H1 (Tu K Q x)
def abq (K:Fg) (te ts:TE):TE:=fun σ H Q=>te σ H (Yx K ts σ Q)
end
theorem sum_set:∀(as:List Int) (j:Nat) (x:Int),j<as.length->(as.set j x).sum=as.sum-as.getD j 0+x
 | [],j,_,h=>absurd h (Nat.not_lt_zero _)
 | a::r,0,x,_=>by
   show (x::r).sum=(a::r).sum-a+x
   rw [fG,fG];omega
 | a::r,j+1,x,h=>by
   show (a::r.set j x).sum=(a::r).sum-r.getD j 0+x
   rw [fG,fG,sum_set r j x (by simpa using h)];omega
theorem QF (as:List Int) (j k:Nat) (x:Int) (h:j<as.length):(as.set j x).getD k 0=if k=j then x else as.getD k 0:=by
 rw [jJ,List.getElem?_set]
 by_cases e:j=k
 . subst e
   rw [aA rfl,aA h,aA rfl]
   rfl
 . rw [az e,az (cD e),<-jJ]
theorem uG {n k:Nat} (h:k<n):Aq n (k:Int)=some k:=by
 unfold Aq
 rw [aA (by omega),aA (by omega)]
 rfl
abbrev tx (cs:List Nat):Str:=⟨cs.toArray⟩
theorem Gr (x:Str):tx x.cps.toList=x:=by cases x;rfl
theorem wZ (cs:List Nat):(tx cs).length=cs.length:=by show cs.toArray.size=_;rw [gE]
theorem VQ (a b:List Nat):(tx a++tx b:Str)=tx (a++b):=by
 show (⟨a.toArray++b.toArray⟩:Str)=_
 simp [tx]
def R0 (cs:List Nat):It:=⟨fun i _=>i<cs.length,fun i H v H'=>H'=H/\∃c,cs[i]?=some c/\v = .str (tx [c]),fun i _=>cs.length<=i⟩
theorem Mw {P:Program} {w:World} {K:Fg} {tg:Expr} (x:Str) (t:Tok) (it:Addr):Turn P w K tg (R0 x.cps.toList) [it] it (fun i h=>h.IsStrIter it "str_ascii_iterator" x t i) where
 mem:=by simp
 obj:=fun i h st b hb=>by
  have e:b=it:=by simpa using hb
  subst e
  obtain ⟨o,e,c,d⟩:=st
  exact ⟨o,e,fun v z=>by rw [d] at z;cases z⟩
 keep:=fun i h h' st k=>let ⟨o,ho,r⟩:=st;⟨o,k it (by simp) o ho,r⟩
 item:=by
  intro X hP hw hK hc i pins s σ H E I hf st hg
  subst hP hw hK
  have hi:i<x.cps.size:=by have hg':i<x.cps.toList.length:=hg;simpa using hg'
  obtain ⟨f0,f1,f2,f3,f4,f5⟩:=hf it (by simp)
  refine wpAny_pyNext_ascii_item st (c:=x.cps[i]) (by simp [hi]) fun h' st' sb=>?_
  have I1:Inv X pins σ H { s with heap:=h',toks:=s.toks+1 }:=I.turned (t':=s.toks+1) (fun b o hb e=>sb.extBut b o hb e) f0 f1 f3 f4 f5
  obtain ⟨o,e,c,d⟩:=id st'
  exact ⟨_,Z,yh (s:={ s with heap:=h',toks:=s.toks+1 }) e c d (by decide) ⟨.str (tx [x.cps[i]]),H,I1,⟨_,Z⟩,⟨Z,x.cps[i],by simp [hi],Z⟩,st',fun b hb=>(hf b hb).1⟩⟩
 done:=by
  intro X hP hw hK hc i pins s σ H E I hf st hg
  subst hP hw hK
  have hi:x.cps.size<=i:=by have hg':x.cps.toList.length<=i:=hg;simpa using hg'
  obtain ⟨f0,f1,f2,f3,f4,f5⟩:=hf it (by simp)
  exact wpAny_pyNext_ascii_end (I.ok.hd hc) st (by simp;omega) fun h' eb=>⟨Z,I.turned (t':=s.toks) (fun b o hb e=>eb b o hb e) f0 f1 f3 f4 f5⟩
 self:=fun _ _ _ _ _ st h=>wpAny_pyIter_striter_ascii st h
theorem Oi {P:Program} {w:World} {K:Fg} {tg:Expr} (x:Str) (t:Tok) (it:Addr):Turn P w K tg (R0 x.cps.toList) [it] it (fun i h=>h.IsStrIter it "str_iterator" x t i) where
 mem:=by simp
 obj:=fun i h st b hb=>by
  have e:b=it:=by simpa using hb
  subst e
  obtain ⟨o,e,c,d⟩:=st
  exact ⟨o,e,fun v z=>by rw [d] at z;cases z⟩
 keep:=fun i h h' st k=>let ⟨o,ho,r⟩:=st;⟨o,k it (by simp) o ho,r⟩
 item:=by
  intro X hP hw hK hc i pins s σ H E I hf st hg
  subst hP hw hK
  have hi:i<x.cps.size:=by have hg':i<x.cps.toList.length:=hg;simpa using hg'
  obtain ⟨f0,f1,f2,f3,f4,f5⟩:=hf it (by simp)
  refine wpAny_pyNext_wide_item st (c:=x.cps[i]) (by simp [hi]) fun h' st' sb=>?_
  have I1:Inv X pins σ H { s with heap:=h',toks:=s.toks+1 }:=I.turned (t':=s.toks+1) (fun b o hb e=>sb.extBut b o hb e) f0 f1 f3 f4 f5
  obtain ⟨o,e,c,d⟩:=id st'
  exact ⟨_,Z,yh (s:={ s with heap:=h',toks:=s.toks+1 }) e c d (by decide) ⟨.str (tx [x.cps[i]]),H,I1,⟨_,Z⟩,⟨Z,x.cps[i],by simp [hi],Z⟩,st',fun b hb=>(hf b hb).1⟩⟩
 done:=by
  intro X hP hw hK hc i pins s σ H E I hf st hg
  subst hP hw hK
  have hi:x.cps.size<=i:=by have hg':x.cps.toList.length<=i:=hg;simpa using hg'
  obtain ⟨f0,f1,f2,f3,f4,f5⟩:=hf it (by simp)
  exact wpAny_pyNext_wide_end (I.ok.hd hc) st (by simp;omega) fun h' eb=>⟨Z,I.turned (t':=s.toks) (fun b o hb e=>eb b o hb e) f0 f1 f3 f4 f5⟩
 self:=fun _ _ _ _ _ st h=>wpAny_pyIter_striter_wide st h
variable {cs:List Nat} {acc:Addr}
section
variable {X:Cx} {tg:Expr}
inductive Yy (R:It->Hp->Prop) (x:V) (H1:Hp):Prop
 | mk  (cs:List Nat) (_:x = .str (tx cs)) (_:R (R0 cs:_) H1)
def VR (te:TE):TI:=fun σ H R=>te σ H (Yy R)
theorem VT {l:Expr} {tl:TE} (hl:PE X l tl):PI X tg l (VR tl):=by
 intro pins s σ H R I h
 refine aZ (hl pins s σ H _ I h) fun v s1 ⟨x,H1,I1,r1,q1⟩=>?_
 obtain ⟨cs,e,q⟩:=q1
 subst e
 obtain ⟨t,rfl⟩:=r1
 have fp:∀b∈[s1.heap.objs.size],m5 X pins H1 b:=fun b hb=>by
  have e:b=s1.heap.objs.size:=by simpa using hb
  subst e
  exact I1.yY (aK _) (I1.hok.fresh (aK _))
 have tw:=@Oi X.prog X.w X.K tg (tx cs) t s1.heap.objs.size
 have ta:=@Mw X.prog X.w X.K tg (tx cs) t s1.heap.objs.size
 cases ha:(tx cs).cps.all (·<128)
 . exact wpAny_pyIter_wide ha ⟨s1.heap.objs.size,[s1.heap.objs.size],_,_,H1,Z,I1.kept (t':=s1.toks) fun b o e=>bU _ e,tw,⟨_,dP _ rfl,Z,Z⟩,fp,q⟩
 . exact wpAny_pyIter_ascii ha ⟨s1.heap.objs.size,[s1.heap.objs.size],_,_,H1,Z,I1.kept (t':=s1.toks) fun b o e=>bU _ e,ta,⟨_,dP _ rfl,Z,Z⟩,fp,q⟩
theorem QG {k:Nat} {Q:VK} (Pv:Nat->List V->Hp->Prop) (hn:cs.length<=100000) (h0:Pv 0 [] (upd H acc (.lst [])))
  (hs:∀(i:Nat) (c:Nat) (out:List V) (H1:Hp),cs[i]?=some c->out.length=i->H1 acc=some (.lst out)->Pv i out H1->te (σ2.set k (some (.str (tx [c])))) H1 (vj Pv i acc out))
  (hd:∀(out:List V) (H1:Hp),out.length=cs.length->H1 acc=some (.lst out)->Pv cs.length out H1->Q (.ref acc) H1):
  AB (R0 cs) (qR k) te acc σ2 H Q:=by
 refine ⟨fun i m σ' H'=>m=cs.length-i/\i<=cs.length/\(∀v,σ'.set k (some v)=σ2.set k (some v))/\∃out,out.length=i/\H' acc=some (.lst out)/\Pv i out H',⟨cs.length,by simp,gH _,fun _=>rfl,[],Z,ah,h0⟩,?_⟩
 rintro i m σ' H' ⟨rfl,hi,hσ,out,ho,ha,p⟩
 by_cases hlt:i<cs.length
 . refine .inr ⟨hlt,fun σ3=>∀v,σ3.set k (some v)=σ2.set k (some v),(vj Pv i acc out),fun σ3 v H4 hS ⟨a,b⟩=>?_,fun x H1 y=>?_⟩
   . refine ⟨out,a,?_,cs.length-(i+1),by omega,Z,hlt,hS,out++[v],by rw [cT,ho];rfl,ah,b⟩
     have:sizeLine=16777216:=ji
     omega
   . obtain ⟨e,c,hc,ex⟩:=y
     subst e ex
     refine ⟨fun v=>by rw [sX];exact hσ v,?_⟩
     have q2:=hs i c out _ hc ho ha p
     rw [<-hσ] at q2
     exact q2
 . have e:i=cs.length:=by omega
   subst e
   exact .inl ⟨aK _,hd out H' ho ha p⟩
end
def Dz (signs:Str) (c:Nat):Bool:=!(Builtin.Str.occurrences signs (tx [c]) 0 signs.length 1).isEmpty
def jN (c:Int) (n:Nat):List Nat:=(List.range n).map fun i=>97+((c / 26 ^ i) % 26).toNat
theorem vm (c:Int) (n:Nat):(jN c n).length=n:=by unfold jN;rw [aC,List.length_range]
theorem QH (c:Int) (n:Nat):jN c (n+1)=jN c n++[97+((c / 26 ^ n) % 26).toNat] :=by
 unfold jN
 rw [List.range_succ,bQ]
 rfl
theorem Oj {k:Int} (h0:0<=k) (h1:k<26):qN (("abcdefghijklmnopqrstuvwxyz":Str).cps.toList) k=some (97+k.toNat):=by
 have h:∀n:Nat,n<26->("abcdefghijklmnopqrstuvwxyz":Str).cps.toList[n]?=some (97+n):=by decide +kernel
 have e:k=((k.toNat:Nat):Int):=by omega
 have:=au (h k.toNat (by omega))
 rw [<-e] at this
 exact this
structure Ck (vs:List V) (H:Hp) (Q:VK) (E:XK):Prop where
 ex:∃(c:Int) (n:Nat),vs=[.int c, .int (n:Int)]/\0<=c/\n<=1000/\Q (.str (tx (jN c n))) H
theorem Gs {Q:VK} {E:XK} {c ni:Int} {n:Nat} (e:ni=(n:Int)) (hc:0<=c) (hn:n<=1000) (q:Q (.str (tx (jN c n))) H):Ck [.int c, .int ni] H Q E:=by
 subst e
 exact ⟨c,n,Z,hc,hn,q⟩
inductive Tv (vs:List V) (H:Hp) (Q:VK) (E:XK):Prop
 | mk (cs:List Nat) (signs:Str) (_:vs=[.str (tx cs), .str signs]) (_:cs.length<=100000) (_:∀H',aO H H'->Q (.bl (cs.all (Dz signs))) H')
def y_:Sp:=bx (Tv)
theorem My {H:Hp} {Q:VK} {E:XK} {cs:List Nat} {signs:Str} (hl:cs.length<=100000) (q:∀H',aO H H'->Q (.bl (cs.all (Dz signs))) H'):y_ [.str (tx cs), .str signs] H Q E:=⟨cs,signs,Z,hl,q⟩
def isName (cs:List Nat):Bool:=decide (1<=(cs.length:Int)) && decide ((cs.length:Int)<=8) && cs.all (Dz "abcdefghijklmnopqrstuvwxyz")
inductive Tw (vs:List V) (H:Hp) (Q:VK) (E:XK):Prop
 | mk (cs:List Nat) (_:vs=[.str (tx cs)]) (_:cs.length<=100000) (_:∀H',aO H H'->Q (.bl (isName cs)) H')
def vn:Sp:=bx (Tw)
theorem AJ {Q:VK} {E:XK} (hl:cs.length<=100000) (q:∀H',aO H H'->Q (.bl (isName cs)) H'):vn [.str (tx cs)] H Q E:=⟨cs,Z,hl,q⟩
theorem AK {p q:Prop} (h:if true=true then p else q):p:=by rwa [aA rfl] at h
theorem AL {p q:Prop} (h:if false=true then p else q):q:=by rwa [az eX] at h
variable {cond:Expr}
section
variable {prog:Program} {w:World} {A:Around} {R:Result->Shared->Prop} {s:Shared}
theorem Ej {target:Expr} {it acc:Value} (J:Nat->Shared->Prop)
  (turn:∀n s,J n s->wpAny (model prog w) A (pyNext it) (fun r s₁=>match r with
    | none=>R (.ok .next) s₁
    | some v=>wpAny (model prog w) A (letOwnedTupleGo target it v) (fun _ s₂=>wpAny (model prog w) A (assign target env v) (fun _ s₃=>wpAny (model prog w) A (isTrue cond env (eval cond env)) (fun ok VU=>if ok=true then
       wpAny (model prog w) A (eval elt env) (fun x s₄=>wpAny (model prog w) A (call (.builtin "list.append") [acc,x]) (fun _ s₅=>∃m,m<n/\J m s₅) (fun _ _=>False) s₄) (fun _ _=>False) VU
       else ∃m,m<n/\J m VU) (fun _ _=>False) s₃) (fun _ _=>False) s₂) (fun _ _=>False) s₁) (fun _ _=>False) s)
  (n:Nat) (h:J n s):codeAny (model prog w) A (.compLoop (.ListComp elt [⟨target,iter,[cond],0⟩] scope pos) 0 it acc env) R s:=by
 refine codeAny_loop rfl J (fun n s hI=>?_) n h
 show wpAny _ A ((compTurn (.ListComp elt [⟨target,iter,[cond],0⟩] scope pos) 0 it acc env).onRaise (fun x=>do noteFrame x env;theTreesLotGoes x)) _ _ s
 refine wpAny_noted ?_
 rw [compTurn_list]
 refine ay (z_ (ay (iG (turn n s hI) (fun r s₁ h₁=>?_) fun _ _ h'=>h'.elim)))
 cases r with
 | none=>exact aS h₁
 | some v=>
   refine ay (iG h₁ (fun _ s₂ h₂=>ay (iG h₂ (fun _ s₃ h₃=>?_) fun _ _ h'=>h'.elim)) fun _ _ h'=>h'.elim)
   refine ay (wpAny_tests_one (iG h₃ (fun ok VU Zr=>?_) fun _ _ h'=>h'.elim))
   cases ok with
   | false=>exact aS ⟨Z,AL Zr⟩
   | true=>exact ay (ay (iG (AK Zr) (fun x s₄ h₄=>ay (iG h₄ (fun _ s₅ h₅=>aS (aS ⟨Z,h₅⟩)) fun _ _ h'=>h'.elim)) fun _ _ h'=>h'.elim))
end
variable {tc:TT} {wi:TI}
section
variable {X:Cx}
def AM (J:It) (g:TG) (tc:TT) (te:TE) (acc:Addr) (σ₀:St) (H:Hp) (Q:VK):Prop:=∃W:Nat->Nat->St->Hp->Prop,
 (∃m,W 0 m σ₀ (upd H acc (.lst [])))/\∀i m σ2 H2,W i m σ2 H2->
   (J.stop i H2/\Q (.ref acc) H2)\/(J.go i H2/\∃(S:St->Prop) (N:V->Hp->Prop) (N0:Hp->Prop),(∀σ3 v H4,S σ3->N v H4->∃xs,H4 acc=some (.lst xs)/\xs.length<sizeLine/\∃m',m'<m/\W (i+1) m' σ3 (upd H4 acc (.lst (xs++[v]))))/\
     (∀σ3 H4,S σ3->N0 H4->∃m',m'<m/\W (i+1) m' σ3 H4)/\∀x H',J.Ah i H2 x H'->g x σ2 H' fun σ3 H3=>S σ3/\tc σ3 H3 fun b H4=>if b=true then te σ3 H4 N else N0 H4)
def Tz (ix:List (Option Nat)) (g:TG) (tc:TT) (te:TE) (σ:St) (Q:VK):It->Hp->Prop:=fun J H1=>∀acc,H1 acc=none->AM J g tc te acc (pick ix σ) H1 Q
def Ol (wi:TI) (ix:List (Option Nat)) (g:TG) (tc:TT) (te:TE):TE:=fun σ H Q=>wi σ H (Tz ix g tc te σ Q)
theorem Jw {ix:List (Option Nat)} {g:TG} {Q:VK}
  {RR:Value->Addr->Result->Shared->Prop} (hc:X.calm=true) (hg:∀cl s₂ H₂ fp,PG (dh X N2 scope cl s₂ H₂ fp) tg g) (he:∀cl s₂ H₂ fp,PE (dh X N2 scope cl s₂ H₂ fp) elt te)
  (ht:∀cl s₂ H₂ fp,PT (dh X N2 scope cl s₂ H₂ fp) cond tc) (hk:scope.kind = .function) (hn:pW X.N X.env.scope.names scope.names N2 ix=true)
  (Gm:∀y c,(y,c)∈cl->X.env.cells.lookup y=some c) (Cj:∀y,(y,NameKind.free)∈scope.names->∃c,(y,c)∈cl)
  {it:Addr} {fp:List Addr} {tn:Nat->Heap->Prop} {J:It} (I:Inv X pins σ H s) (T:Turn X.prog X.w X.K tg J fp it tn) (st:tn 0 s.heap) (f:∀b∈fp,m5 X pins H b)
  (h:∀acc,H acc=none->AM J g tc te acc (ix.map fun o=>o.bind fun j=>(σ[j]?).join) H Q)
  (hR:∀acc C H' s' m,Inv X pins σ H' s'->s'.heap.Ns C m->H' C=none->C≠X.env.locals->X.s₀.heap.objs.size<=C->(∀x c,X.env.cells.lookup x=some c->c≠C)->(∀p∈X.pn++pins,p.1≠C)->Q (.ref acc) H'->RR (.ref acc) C (.ok .next) s'):
  wpAny (model X.prog X.w) X.A (newList []) (fun acc s₃=>wpAny (model X.prog X.w) X.A (newFunctionEnv scope X.env.globals cl [] X.env.qual none .none (some X.env)) (fun cenv s₄=>
   codeAny (model X.prog X.w) X.A (.compStart (.ListComp elt [⟨tg,iter,[cond],0⟩] scope pos) 0 (.ref it) acc { cenv with scope:=relabel scope X.env }) (RR acc cenv.locals) s₄) E s₃) E s:=by
 obtain ⟨k1,k2,k3,k4,k5⟩:=m_ hn
 refine uY ?_
 have I3:Inv X pins σ (upd H s.heap.objs.size (.lst [])) { s with heap:=s.heap.push { cls:= .type "list",data:= .seq ([] :List Value).toArray } }:=
  I.laid (a:=s.heap.objs.size) (o:= .lst []) (t':=s.toks) (fun _ _ q=>bU _ q) (aK _) ⟨gH _,[],_, .nil,dP _ rfl⟩
 obtain ⟨W,⟨m0,w0⟩,turn⟩:=h s.heap.objs.size I.fresh
 have fo:∀b∈fp,b<s.heap.objs.size:=fun b hb=>by
  obtain ⟨o,e,_⟩:=T.obj 0 _ st b hb
  exact bF e
 have st3:tn 0 (s.heap.push { cls:= .type "list",data:= .seq ([] :List Value).toArray }):=T.keep _ _ _ st fun b _ o e=>bU _ e
 have f3:∀b∈fp,m5 X pins (upd H s.heap.objs.size (.lst [])) b:=fun b hb=>⟨by rw [av (ef (fo b hb))];exact (f b hb).1,(f b hb).2⟩
 have Od:∀b∈fp,b<(s.heap.push { cls:= .type "list",data:= .seq ([] :List Value).toArray }).objs.size:=fun b hb=>by rw [kD];exact L3 (fo b hb)
 generalize VJ:({ s with heap:=s.heap.push { cls:= .type "list",data:= .seq ([] :List Value).toArray } }:Shared)=s3 at *
 have VL:s3.heap=s.heap.push { cls:= .type "list",data:= .seq ([] :List Value).toArray }:=by rw [<-VJ]
 rw [<-VL] at st3 Od
 generalize s.heap.objs.size=acc at *
 generalize eH3:upd H acc (.lst [])=H3 at *
 have IY:=AA (N2:=N2) (scope:=scope) (cl:=cl) (fp:=fp) (σ2:=ix.map fun o=>o.bind fun j=>(σ[j]?).join) I3 hk Gm Cj f3 Od (by rw [aC];exact k1) (fun i x v e1 e2=>by
  rw [b_] at e2
  cases ei:ix[i]? with
  | none=>rw [ei] at e2;cases e2
  | some o=>
    rw [ei] at e2
    cases o with
    | none=>cases e2
    | some j=>
      obtain ⟨a1,a2,a3⟩:=k2 i x j e1 ei
      refine ⟨a2,a3,j,a1,?_⟩
      have e3:(σ[j]?).join=some v:=eV e2
      cases ej:σ[j]? with
      | none=>rw [ej] at e3;cases e3
      | some z=>rw [ej] at e3;exact kG some e3) k5
 have ne:wpAny (model X.prog X.w) X.A (newFunctionEnv scope X.env.globals cl [] X.env.qual none .none (some X.env)) (fun cenv s₄=>
   cenv={ scope:=scope,locals:=s3.heap.objs.size,globals:=X.env.globals,cells:=cellsFrom (s3.heap.objs.size+1) scope.names cl,qual:=X.env.qual,func:=none,code:=X.env.code,frame:=X.env.frame,builtins:=X.env.builtins }/\
   s₄={ s3 with heap:=pushCells (s3.heap.push { cls:= .type "dict",data:= .dict #[] }) scope.names }) E s3:=by
  simp only [newFunctionEnv,Option.isSome_some,if_true]
  refine ay (wpAny_alloc ?_)
  refine ay (wpAny_layCells _ (fun name kind cells=>by cases hkc:kind==NameKind.cell <;> simp [hkc]) _ _ _ _ ?_)
  rw [z8]
  refine ay (aS (aS ⟨?_,Z⟩))
  rw [show ({ s3 with heap:=s3.heap.push { cls:= .type "dict",data:= .dict #[] } }:Shared).heap.objs.size=s3.heap.objs.size+1 from kD ..]
 refine aZ ne fun cenv s4 ⟨e1,e2⟩=>?_
 subst e1 e2
 have Oe:tn 0 (pushCells (s3.heap.push { cls:= .type "dict",data:= .dict #[] }) scope.names):=T.keep _ _ _ st3 fun b _ o e=>Fb _ _ b o (bU _ e)
 have AE:s3.heap.objs.size≠X.env.locals:=ye I3.lt
 have rG:∀{H':Hp},(∀b∈fp,H' b=none)->∀b∈fp,m5 (dh X N2 scope cl s3 H3 fp) [] H' b:=fun {H'} hn b hb=>
  ⟨hn b hb,(IY.ok.KG b hb).1,IY.ok.Cf b hb, .inl hb,(IY.ok.KG b hb).2,fun p hp=>nomatch hp⟩
 have loop:codeAny (model X.prog X.w) X.A (.compLoop (.ListComp elt [⟨tg,iter,[cond],0⟩] scope pos) 0 (.ref it) (.ref acc) (dh X N2 scope cl s3 H3 fp).env) (RR (.ref acc) s3.heap.objs.size)
   { s3 with heap:=pushCells (s3.heap.push { cls:= .type "dict",data:= .dict #[] }) scope.names }:=by
  refine Ej (fun n s'=>∃i σ' H',Inv (dh X N2 scope cl s3 H3 fp) [] σ' H' s'/\tn i s'.heap/\(∀b∈fp,H' b=none)/\W i n σ' H') ?_ m0 ⟨0,_,H3,IY,Oe,fun b hb=>(f3 b hb).1,w0⟩
  rintro n s5 ⟨i,σ5,H5,I5,AF,Gn,w5⟩
  rcases turn i n σ5 H5 w5 with ⟨stop,qn⟩|⟨go,S,N,N0,VM,hS0,step⟩
  . refine aZ (T.done (dh X N2 scope cl s3 H3 fp) rfl rfl rfl hc i [] s5 σ5 H5 (fun _ _=>False) I5 (rG Gn) AF stop) fun r s6 ⟨hr,I6⟩=>?_
    subst hr
    obtain ⟨m6,VN,_⟩:=id I6.loc
    have IX:Inv X pins σ H5 s6:=I3.L_ (ch:=fp) I6.os I6.base I6.hok I6.bare fun b hb=>⟨(f3 b hb).2.2.2.1,(f3 b hb).2.1,(f3 b hb).2.2.2.2.1,(f3 b hb).2.2.2.2.2⟩
    refine hR acc s3.heap.objs.size H5 s6 m6 IX VN I6.free AE I3.sz (fun x c e z=>?_) (fun p hp z=>?_) qn
    . obtain ⟨v,q⟩:=I3.cell x c e
      exact absurd q.lt (by rw [z];exact iW _)
    . exact absurd (bF (I3.pin p hp).1) (by rw [z];exact iW _)
  . refine aZ (T.item (dh X N2 scope cl s3 H3 fp) rfl rfl rfl hc i [] s5 σ5 H5 (fun _ _=>False) I5 (rG Gn) AF go) fun r s6 ⟨u,hr,h6⟩=>?_
    subst hr
    refine aZ h6 fun _ s7 ⟨x,H7,I7,r7,y7,pX,Of⟩=>?_
    have VO:=I7.pinned (rG Of) (T.obj _ _ pX)
    refine aZ (hg cl s3 H3 fp _ s7 σ5 H7 x u _ VO r7 (step x H7 y7)) fun _ s8 ⟨σ8,H8,I8,RZ,q8⟩=>?_
    refine aZ (ht cl s3 H3 fp _ s8 σ8 H8 _ I8 q8) fun ok s9' ⟨Zs,R1,Zt⟩=>?_
    cases ok with
    | false=>
      obtain ⟨m',hm,w9⟩:=hS0 σ8 Zs RZ (AL Zt)
      refine ite_ff ⟨m',hm,i+1,σ8,_,R1.oF,T.keep _ _ _ pX fun b hb o e=>(R1.pin (b,o) (iQ _ (iQ _ (iH hb e)))).1,fun b hb=>?_,w9⟩
      obtain ⟨o,e,d⟩:=T.obj _ _ pX b hb
      exact (R1.pin (b,o) (iQ _ (iQ _ (iH hb e)))).2.1
    | true=>
      refine ite_tt ?_
      refine aZ (he cl s3 H3 fp _ s9' σ8 Zs _ R1 (AK Zt)) fun y s9 ⟨v,H9,I9,r9,q9⟩=>?_
      obtain ⟨xs,hxs,VP,m',hm,w9⟩:=VM σ8 v H9 RZ q9
      refine aZ (dD _ s9 σ8 H9 (.ref acc) [v] (.ref acc) [y] (fun z AG=>z = .bL/\AG=upd H9 acc (.lst (xs++[v]))) I9 rfl (.cons r9 .nil) ⟨acc,xs,v,Z,Z,hxs,VP,Z,Z⟩) fun z s10 ⟨zv,AG,Gp,r10,ez,eH⟩=>?_
      subst eH
      refine ⟨m',hm,i+1,σ8,_,Gp.oF,T.keep _ _ _ pX fun b hb o e=>(Gp.pin (b,o) (iQ _ (iQ _ (iH hb e)))).1,fun b hb=>?_,w9⟩
      obtain ⟨o,e,d⟩:=T.obj _ _ pX b hb
      exact (Gp.pin (b,o) (iQ _ (iQ _ (iH hb e)))).2.1
 exact codeAny_compStart_list loop (T.self _ 0 _ _ _ Oe loop)
theorem QI (N2:List Str) (ix:List (Option Nat)) {g:TG} (hc:X.calm=true) (hi:PI X tg iter wi)
  (hg:∀cl s₂ H₂ fp,PG (dh X N2 scope cl s₂ H₂ fp) tg g) (he:∀cl s₂ H₂ fp,PE (dh X N2 scope cl s₂ H₂ fp) elt te)
  (ht:∀cl s₂ H₂ fp,PT (dh X N2 scope cl s₂ H₂ fp) cond tc) (hk:scope.kind = .function) (hn:pW X.N X.env.scope.names scope.names N2 ix=true) (hs:∀x,foldedSetIterable iter X.env x=pure x:=by intro _;rfl):
  PE X (.ListComp elt [⟨tg,iter,[cond],0⟩] scope pos) (Ol wi ix g tc te):=by
 intro pins s σ H Q I h
 obtain ⟨k1,k2,k3,k4,k5⟩:=m_ hn
 obtain ⟨cl,Om,c1,c2⟩:=vh (scope:=scope) (env:=X.env) fun y hy e=>I.ok.has y.1 (k3 y hy e)
 rw [eval_ListComp]
 refine wpAny_comprehension_free (use:=none) rfl hs Om hk k4 (aZ (hi pins s σ H _ I h) fun v s1 h1=>aZ h1 fun itv s2 h2=>?_)
 obtain ⟨it,fp,tn,J,H2,e,I2,T,st2,f2,h2⟩:=h2
 subst e
 refine Jw (RR:=fun acc C=>compPost (model X.prog X.w) X.A X.xe none (EP X pins σ Q) acc C) (Q:=Q) hc hg he ht hk hn (fun y c m=>(c1 y c m).1) c2 I2 T st2 f2 h2 ?_
 intro acc C H' s' m I' ns AE hL hsz uH AN q
 exact ⟨m,ns,fun h' hs'=>⟨.ref acc,H',I'.turned (it:=C) (t':=s'.toks) (fun b o hb e=>(hs'.2 b hb).trans e) AE hL (.inr hsz) uH AN,Z,q⟩⟩
end
theorem rH {α:Type} [DecidableEq α] :∀{l m:List α},l.Nodup->(∀x∈l,x∈m)->l.length<=m.length
 | [],_,_,_=>gH _
 | x::r,m,h,hs=>by
   have hn:=fU.mp h
   have hx:=hs x dg
   have:=rH (l:=r) (m:=m.erase x) hn.2 fun y hy=>by
    have hne:y≠x:=fun e=>hn.1 (e▸hy)
    exact (List.mem_erase_of_ne hne).mpr (hs y (cK _ hy))
   rw [List.length_erase_of_mem hx] at this
   have hp:0<m.length:=List.length_pos_of_mem hx
   rw [jL]
   omega
variable {i:Nat}
theorem Oo (c:Int) {n:Nat} (h:i<n):(jN c n)[i]?=some (97+((c / 26 ^ i) % 26).toNat):=by
 unfold jN
 rw [b_,List.getElem?_range h]
 rfl
theorem TF {c c':Int} {n d:Nat} (h:d<n) (e:jN c n=jN c' n):(c / 26 ^ d) % 26=(c' / 26 ^ d) % 26:=by
 have h1:=Oo c h
 rw [e,Oo c' h] at h1
 have h2:=eV h1
 have a0:0<=(c / 26 ^ d) % 26:=mX _ (by decide)
 have b0:0<=(c' / 26 ^ d) % 26:=mX _ (by decide)
 omega
structure nc (x:List Nat):Prop where
 lo:1<=x.length
 hi:x.length<=8
 TH:∀c∈x,97<=c/\c<123
theorem VW (c:Int) {n:Nat} (h1:1<=n) (h2:n<=8):nc (jN c n):=by
 refine ⟨by rw [vm];exact h1,by rw [vm];exact h2,fun x hx=>?_⟩
 obtain ⟨i,_,rfl⟩:=bJ.mp hx
 have a0:0<=(c / 26 ^ i) % 26:=mX _ (by decide)
 have a1:(c / 26 ^ i) % 26<26:=wM _ (by decide)
 omega
def pY (nss:List (List Nat)):List V:=nss.map fun x=>V.str (tx x)
theorem QJ (nss:List (List Nat)):(pY nss).all pF=true:=by
 unfold pY
 rw [List.all_map,tY]
 exact fun _ _=>rfl
theorem Oq {a b:List Nat} (h:tx a=tx b):a=b:=by
 have:a.toArray=b.toArray:=by injection h
 simpa using this
theorem KZ (x:List Nat) (nss:List (List Nat)):yG (.str (tx x)) (pY nss)=decide (x∈nss):=by
 unfold yG pY
 rw [List.any_map,yc,List.any_eq_true,decide_eq_true_eq]
 constructor
 . rintro ⟨y,hy,e⟩
   have e2:wm (.str (tx y)) (.str (tx x))=true:=e
   have e3:tx y=tx x:=by
    unfold wm at e2
    simpa using e2
   rw [<-Oq e3]
   exact hy
 . intro h
   refine ⟨x,h,?_⟩
   show wm (.str (tx x)) (.str (tx x))=true
   unfold wm
   simp
open PySem.NumText
section
variable {X:Cx}
end
def Mz (lo st:Int) (n:Nat):It:=⟨fun i _=>i<n,fun i H x H'=>H'=H/\x = .int (lo+i*st),fun i _=>n<=i⟩
variable {P:Program}
theorem Jx {w:World} (it:Addr) (lo st:Int) (n:Nat):Turn P w K tg (Mz lo st n) [it] it (fun i h=>IsRangeIter h it (lo+(i:Nat)*st) ((n:Int)-(i:Nat)) st) where
 mem:=by simp
 obj:=fun i h st b hb=>by
  have e:b=it:=by simpa using hb
  subst e
  exact ⟨_,st,fun v z=>by
   have z':Data.fields _=Data.cell v:=z
   cases z'⟩
 keep:=fun i h h' st k=>k it (by simp) _ st
 item:=by
  intro X hP hw hK hc i pins s σ H E I hf st' hg
  subst hP hw hK
  obtain ⟨f0,f1,f2,f3,f4,f5⟩:=hf it (by simp)
  have W:=Walks.range (prog:=X.prog) (w:=X.w) (I.ok.hd hc) it lo st n
  refine W.item i s _ _ hg st' fun v h' tk hv st2 kk=>?_
  obtain ⟨t,rfl⟩:=hv
  have I1:Inv X pins σ H { s with heap:=h',toks:=tk }:=I.turned (fun b o hb e=>kk b o (by simpa using hb) e) f0 f1 f3 f4 f5
  exact ⟨_,Z,yh (s:={ s with heap:=h',toks:=tk }) (n:="range_iterator") st2 rfl rfl (by decide) ⟨.int (lo+i*st),H,I1,⟨t,Z⟩,⟨Z,Z⟩,st2,fun b hb=>(hf b hb).1⟩⟩
 done:=by
  intro X hP hw hK hc i pins s σ H E I hf st' hg
  subst hP hw hK
  obtain ⟨f0,f1,f2,f3,f4,f5⟩:=hf it (by simp)
  exact wpAny_pyNext_range_end (I.ok.hd hc) st' (by have:n<=i:=hg;omega) fun h' eb=>⟨Z,I.turned (t':=s.toks) (fun b o hb e=>eb b o hb e) f0 f1 f3 f4 f5⟩
 self:=fun _ _ _ _ _ st h=>wpAny_pyIter_rangeiter st h
variable {tb:TS} {D:Ends}
section
variable {X:Cx} {tg:Expr}
def oH (lo hi st:Int):Nat:=(Builtin.Range.rangeSize lo hi st).toNat
inductive VX (R:It->Hp->Prop) (vs:List V) (H1:Hp):Prop
 | mk  (i j k:Int) (_:vs=[.int i, .int j, .int k]) (_:(0<=i/\i<=1000000/\0<=j/\j<=1000000/\0<k/\k<=1000000)) (_:R (Mz i k (oH i j k)) H1)
def Yz (ta:TA):TI:=fun σ H R=>ta σ H (VX R)
theorem Jy {a b c:Int} (h1:0<=a) (h2:a<=1000000) (h3:0<=b) (h4:b<=1000000) (h5:0<c) (h6:c<=1000000):Builtin.Range.small a b c=true/\0<=Builtin.Range.rangeSize a b c:=by
 have hr:0<=Builtin.Range.rangeSize a b c/\Builtin.Range.rangeSize a b c<=1000001:=by
  unfold Builtin.Range.rangeSize
  rw [aA (by omega)]
  split
  . have e0:0<=(b-a-1) / c:=E9 (by omega) (by omega)
    have e1:(b-a-1) / c<=b-a-1:=L7 _ (by omega)
    omega
  . omega
 refine ⟨?_,hr.1⟩
 unfold Builtin.Range.small
 simp only [Builtin.Range.rangeFitsLong,FH,Bool.or_eq_true,decide_eq_true_eq,lG,show c>0 from h5,if_true]
 omega
theorem MA {lo st:Int} {n:Nat} {g:TG} (Pv:Nat->St->Hp->Prop) (h0:Pv 0 σ H)
  (hs:∀i σ H,i<n->Pv i σ H->g (.int (lo+i*st)) σ H (tb (D.lp (Pv (i+1))))) (hd:∀σ H,Pv n σ H->D.nx σ H):
  Aj g tb D σ (Mz lo st n) H:=by
 refine ⟨fun i m σ H=>m=n-i/\i<=n/\Pv i σ H,⟨n,by simp,gH _,h0⟩,?_⟩
 rintro i m σ H ⟨rfl,hi,p⟩
 by_cases hlt:i<n
 . refine .inr ⟨hlt,fun σ' H'=>Pv (i+1) σ' H',fun σ' H' q=>⟨n-(i+1),by omega,Z,hlt,q⟩,?_⟩
   rintro x H' ⟨rfl,rfl⟩
   exact hs i σ _ hlt p
 . have e:i=n:=by omega
   subst e
   exact .inl ⟨aK _,hd σ H p⟩
end
open Builtin Builtin.Str
section
variable {X:Cx}
end
theorem K0 (c:Int) (j d:Nat):(c+(j:Int)*26 ^ d) / 26 ^ d=c / 26 ^ d+(j:Int):=by
 have hp:(26:Int) ^ d≠0:=Int.ne_of_gt (Int.pow_pos (by decide))
 rw [Int.add_mul_ediv_right _ _ hp]
variable {nss:List (List Nat)} {t:Nat}
theorem Ot {c:Int} {n d:Nat} (h2:d<n) (ht:t<=26) (h:∀j:Nat,j<t->jN (c+(j:Int)*26 ^ d) n∈nss):t<=nss.length:=by
 have hn:((List.range t).map fun j=>jN (c+((j:Nat):Int)*26 ^ d) n).Nodup:=by
  have:(List.range t).Pairwise (fun a b=>a<b):=List.pairwise_lt_range
  refine List.Pairwise.map _ ?_ (List.Pairwise.and_mem.mp this)
  rintro a b ⟨ha,hb,hab⟩ e
  have ha':=u6.mp ha
  have hb':=u6.mp hb
  have:=TF h2 e
  rw [K0,K0] at this
  omega
 have:=rH hn fun x hx=>by
  obtain ⟨j,hj,rfl⟩:=bJ.mp hx
  exact h j (u6.mp hj)
 rw [aC,List.length_range] at this
 exact this
inductive VY (K:Fg) (vs:List V) (H:Hp) (Q:VK) (E:XK):Prop
 | mk (a:Addr) (ms:List Int) (k:Int) (many:Nat) (_:vs=[.ref a, .int k, .int (many:Int)]) (_:aF K H a (ms.map V.int)) (_:ms.length<=63) (_:0<=k) (_:many<=25) (_:∀(z:Addr) (nss:List (List Nat)) (H':Hp),aO H H'->H' z=some (.lst (pY nss))->H z=none->nss.length=many->nss.Nodup->(∀x∈nss,nc x)->Q (.ref z) H')
def Cm (K:Fg):Sp:=bx (VY K)
theorem DA {Q:VK} {E:XK} {ms:List Int} {k mi:Int} {many:Nat} (hmi:mi=(many:Int)) (hS:aF K H a (ms.map V.int)) (h63:ms.length<=63) (h1:0<=k) (h2:many<=25)
  (h:∀(z:Addr) (nss:List (List Nat)) (H':Hp),aO H H'->H' z=some (.lst (pY nss))->H z=none->nss.length=many->nss.Nodup->(∀x∈nss,nc x)->Q (.ref z) H'):Cm K [.ref a, .int k, .int mi] H Q E:=by
 subst hmi
 exact ⟨a,ms,k,many,Z,hS,h63,h1,h2,h⟩
theorem w6 {a:List (Key×V)} {b:List (Key×Value)} (r:KV a b):∀{j:Nat} {p:Key×V},a[j]?=some p->∃q,b[j]?=some q/\p.1=q.1/\RelV p.2 q.2:=by
 induction r with
 | nil=>intro j p z;simp at z
 | cons r1 _ ih=>
   intro j p z
   cases j with
   | zero=>simp at z;subst z;exact ⟨_,Z,r1⟩
   | succ j=>simp at z;obtain ⟨q,a1,a2⟩:=ih z;exact ⟨q,by simpa using a1,a2⟩
abbrev mL (H:Hp) (d:Addr) (o:Obj) (kvs:List (Key×V)):Prop:=H d=some (.fk o (.dK kvs))
section
variable {X:Cx} {pins:AO} {σ σ':St} {H H':Hp} {s s':Shared} {d:Addr} {kvs:List (Key×V)} {o:Obj}
theorem Inv.freeze (I:Inv X pins σ H s) (e:H d=some (.dK kvs)) (ho:s.heap.get? d=some o):Inv X pins σ (upd H d (.fk o (.dK kvs))) s:=by
 have nd:∀{b:Addr},H b=none->b≠d:=fun h z=>by rw [z,e] at h;cases h
 have dn:∀{b:Addr},H b=none->upd H d (.fk o (.dK kvs)) b=none:=fun h=>by rw [av (nd h)];exact h
 have un:∀{b:Addr} {u:HO},H b=some u->(∀k,u ≠ .dK k)->b≠d:=fun h k z=>by rw [z,e] at h;cases h;exact k _ rfl
 refine ⟨I.ok,I.os,I.bare,⟨I.base.keep,I.base.slot,fun b ob q n x=>dn (I.base.free b ob q n x),I.base.there,fun b xs q=>?_,fun b ob u q=>?_,fun b ps q=>?_⟩,I.loc,I.cell,dn I.free,fun x c q=>dn (I.lI x c q),fun p hp=>?_,fun b ob q=>?_,I.len⟩
 . have:=I.base.tups b xs q
   rw [av (un this fun k z=>by cases z)];exact this
 . have:=I.base.oE b ob u q
   rw [av (un this fun k z=>by cases z)];exact this
 . obtain ⟨more,this⟩:=I.base.rB b ps q
   exact ⟨more,by rw [av (un this fun k z=>by cases z)];exact this⟩
 . obtain ⟨h1,h2,h3⟩:=I.pin p hp
   exact ⟨h1,dn h2,h3⟩
 . by_cases hb:b=d
   . subst hb
     rw [ah] at q;cases q
     have:=I.hok b _ e
     exact ⟨ho,this⟩
   . rw [av hb] at q
     refine (I.hok b ob q).stay (fun c u _ z=>z) (fun c z=>?_) fun c xs z=>?_
     . rw [av (un z fun k z=>by cases z)];exact z
     . rw [av (un z fun k z=>by cases z)];exact z
theorem Inv.zb (I:Inv X pins σ H s) (e:mL H d o kvs) (h0:∀o u,X.H₀ d≠some (.fk o u)):Inv X pins σ (upd H d (.dK kvs)) s:=by
 have nd:∀{b:Addr},H b=none->b≠d:=fun h z=>by rw [z] at h;exact absurd (h.symm.trans e) (by simp)
 have dn:∀{b:Addr},H b=none->upd H d (.dK kvs) b=none:=fun h=>by rw [av (nd h)];exact h
 have un:∀{b:Addr} {u:HO},H b=some u->(∀o k,u ≠ .fk o k)->b≠d:=fun h k z=>by rw [z] at h;have:=h.symm.trans e;cases this;exact k _ _ rfl
 refine ⟨I.ok,I.os,I.bare,⟨I.base.keep,I.base.slot,fun b ob q n x=>dn (I.base.free b ob q n x),I.base.there,fun b xs q=>?_,fun b ob u q=>?_,fun b ps q=>?_⟩,I.loc,I.cell,dn I.free,fun x c q=>dn (I.lI x c q),fun p hp=>?_,fun b ob q=>?_,I.len⟩
 . have:=I.base.tups b xs q
   rw [av (un this fun _ k z=>by cases z)];exact this
 . have:=I.base.oE b ob u q
   rw [av (fun (z:b=d)=>h0 ob u (by rw [<-z];exact q))];exact this
 . obtain ⟨more,this⟩:=I.base.rB b ps q
   exact ⟨more,by rw [av (un this fun _ k z=>by cases z)];exact this⟩
 . obtain ⟨h1,h2,h3⟩:=I.pin p hp
   exact ⟨h1,dn h2,h3⟩
 . by_cases hb:b=d
   . subst hb
     rw [ah] at q;cases q
     exact (I.hok b _ e).2
   . rw [av hb] at q
     refine (I.hok b ob q).stay (fun c u _ z=>z) (fun c z=>?_) fun c xs z=>?_
     . rw [av (un z fun _ k z=>by cases z)];exact z
     . rw [av (un z fun _ k z=>by cases z)];exact z
theorem Inv.Ou (I:Inv X pins σ H s) (e:H d=some (.dK kvs)):∀o u,X.H₀ d≠some (.fk o u):=fun o u z=>by
 have:=I.base.oE d o u z
 rw [e] at this;cases this
theorem Inv.pG (I:Inv X pins σ H s) (e:mL H d o kvs):s.heap.get? d=some o/\kvs.length<=sizeLine/\(d==sysModules)=false/\∃vs ep,KV kvs vs/\s.heap.DictAt (cA X.prog X.w) d vs ep:=by
 obtain ⟨ho,hz,hs,vs,r,dd⟩:=(show dS X.prog X.w H s.heap d (.fk o (.dK kvs)) from I.hok d _ e)
 obtain ⟨ep,da⟩:=dd.dictAt
 exact ⟨ho,hz,hs,vs,ep,r,da⟩
end
def Ends.zb (D:Ends) (d:Addr) (o:Obj) (kvs:List (Key×V)):Ends where
 nx:=fun σ H=>mL H d o kvs/\D.nx σ (upd H d (.dK kvs))
 rt:=fun v H=>mL H d o kvs/\D.rt v (upd H d (.dK kvs))
 bk:=fun σ H=>mL H d o kvs/\D.bk σ (upd H d (.dK kvs))
 ct:=fun σ H=>mL H d o kvs/\D.ct σ (upd H d (.dK kvs))
inductive abr (t:TS) (D:Ends) (σ:St) (H:Hp):Prop
 | mk  (d kvs:_) (_:H d=some (.dK kvs)) (_:∀o,t (D.zb d o kvs) σ (upd H d (.fk o (.dK kvs))))
def abt (t:TE):TE:=fun σ H Q=>∃d kvs,H d=some (.dK kvs)/\∀o,t σ (upd H d (.fk o (.dK kvs))) fun v H'=>mL H' d o kvs/\Q v (upd H' d (.dK kvs))
def Zu (d:Addr) (o:Obj) (kvs:List (Key×V)):It:=⟨fun i H=>mL H d o kvs/\i<kvs.length,fun i H x H'=>H'=H/\∃p,kvs[i]?=some p/\x=p.2,fun i H=>mL H d o kvs/\kvs.length<=i⟩
def Zv (d:Addr) (o:Obj) (kvs:List (Key×V)):It:=⟨fun i H=>mL H d o kvs/\i<kvs.length,fun i H x H'=>∃a p,H a=none/\kvs[i]?=some p/\x = .ref a/\H'=upd H a (.tup [kV p.1,p.2]),fun i H=>mL H d o kvs/\kvs.length<=i⟩
variable {h:Heap} {es:Array DictEntry}
theorem ym {w:World} {d:Addr} {vs:List (Key×Value)} {e1 e2:Nat} {o:Obj} (da:h.DictAt (cA P w) d vs e1) (ho:h.get? d=some o) (hd:o.data = .dict es e2):e1=e2:=by
 obtain ⟨o',es',h1,_,h2,_⟩:=da
 rw [ho] at h1;cases h1
 rw [hd] at h2;cases h2;rfl
theorem Ov {w:World} {k:Key} {v:Value} (h:(cA P w).is k v=true):RelV (kV k) v:=by
 rw [L8] at h
 rcases fF h with ⟨i,t,rfl,rfl⟩|⟨x,t,rfl,rfl⟩
 . exact ⟨t,Z⟩
 . exact ⟨t,Z⟩
variable {it:Addr} {kvs:List (Key×V)} {ep:Nat}
theorem Ow {w:World} {d:Addr} {o:Obj} (hd:o.data = .dict es ep):
  Turn P w K tg (Zu d o kvs) [it] it (fun i h=>h.IsValIter it d i kvs.length ep) where
 mem:=by simp
 obj:=fun i h st b hb=>by
  have e:b=it:=by simpa using hb
  subst e
  obtain ⟨o,e,c,d⟩:=st
  exact ⟨o,e,fun v z=>by rw [d] at z;cases z⟩
 keep:=fun i h h' st k=>st.at fun o e=>k it (by simp) o e
 item:=by
  intro X hP hw hK hc i pins s σ H E I hf st hg
  subst hP hw hK
  obtain ⟨hz,hlt⟩:=hg
  obtain ⟨ho,_,_,vs,uA,r,da⟩:=I.pG hz
  cases ym da ho hd
  have hl:kvs.length=vs.length:=r.length
  obtain ⟨q,hq,_,rq⟩:=w6 r (bB hlt)
  obtain ⟨qk,qv⟩:=q
  rw [hl] at st
  obtain ⟨f0,f1,f2,f3,f4,f5⟩:=hf it (by simp)
  refine wpAny_pyNext_values_item st da hq fun h' st' sb=>?_
  have I1:Inv X pins σ H { s with heap:=h' }:=I.turned (t':=s.toks) (fun b o hb e=>(sb.2 b hb).trans e) f0 f1 f3 f4 f5
  obtain ⟨oi,e,c,dd⟩:=id st'
  exact ⟨_,Z,yh (s:={ s with heap:=h' }) e c dd (by decide) ⟨kvs[i].2,H,I1,rq,⟨Z,kvs[i],bB hlt,Z⟩,by rw [hl];exact st',fun b hb=>(hf b hb).1⟩⟩
 done:=by
  intro X hP hw hK hc i pins s σ H E I hf st hg
  subst hP hw hK
  obtain ⟨hz,hle⟩:=hg
  obtain ⟨ho,_,_,vs,uA,r,da⟩:=I.pG hz
  cases ym da ho hd
  have hl:kvs.length=vs.length:=r.length
  rw [hl] at st
  obtain ⟨f0,f1,f2,f3,f4,f5⟩:=hf it (by simp)
  exact wpAny_pyNext_values_end (I.ok.hd hc) st da (by rw [yT];omega) fun h' eb=>⟨Z,I.turned (t':=s.toks) (fun b o hb e=>eb b o hb e) f0 f1 f3 f4 f5⟩
 self:=fun _ _ _ _ _ st h=>wpAny_pyIter_valiter st h
variable {elts:List Expr}
theorem MB {w:World} {kk:Nat} {d:Addr} {o:Obj} (hd:o.data = .dict es ep):
  Turn P w K (.Tuple elts kk pos) (Zv d o kvs) [it] it (fun i h=>∃ok ov,IsItemIter h it d i kvs.length ep ok ov) where
 mem:=by simp
 obj:=fun i h st b hb=>by
  have e:b=it:=by simpa using hb
  subst e
  obtain ⟨ok,ov,e⟩:=st
  exact ⟨_,e,fun v z=>by cases z⟩
 keep:=fun i h h' ⟨ok,ov,st⟩ k=>⟨ok,ov,k it (by simp) _ st⟩
 item:=by
  intro X hP hw hK hc i pins s σ H E I hf st hg
  subst hP hw hK
  obtain ⟨hz,hlt⟩:=hg
  obtain ⟨ok,ov,st⟩:=st
  obtain ⟨ho,_,_,vs,uA,r,da⟩:=I.pG hz
  cases ym da ho hd
  have hl:kvs.length=vs.length:=r.length
  obtain ⟨q,hq,ek,rq⟩:=w6 r (bB hlt)
  obtain ⟨qk,qv⟩:=q
  rw [hl] at st
  obtain ⟨f0,f1,f2,f3,f4,f5⟩:=hf it (by simp)
  refine wpAny_pyNext_items_item st da hq fun key h1 hk st1 ht hsz hkeep=>?_
  refine ⟨_,Z,wpAny_letOwnedTupleGo_items (s:={ s with heap:=h1 }) st1 fun h2 st2 sb=>?_⟩
  have rk:RelV (kV kvs[i].1) key:=by rw [ek];exact Ov hk
  have hil:it≠s.heap.objs.size:=ef (bF st)
  have tD:∀b o,b≠it->s.heap.get? b=some o->h2.get? b=some o:=fun b o hb e=>sb.extBut b o hb (hkeep b o hb e)
  have I1:Inv X pins σ (upd H s.heap.objs.size (.tup [kV kvs[i].1,kvs[i].2])) { s with heap:=h2 }:=by
   have J:Inv X pins σ H { s with heap:=h2 }:=I.turned (t':=s.toks) tD f0 f1 f3 f4 f5
   have hn:=I.fresh
   have J2:Inv X pins σ (upd H s.heap.objs.size (.tup [kV kvs[i].1,kvs[i].2])) { s with heap:=h2,gens:=s.gens,drawn:=s.drawn,toks:=s.toks }:=by
    refine I.step (ch:=[it]) (fun b hb=>⟨(hf b hb).2.2.2.1,(hf b hb).2.1,(hf b hb).2.2.2.2.1,(hf b hb).2.2.2.2.2⟩) (fun b o _ _ hc' e _=>tD b o (by simpa using hc') e) (fun b o _ _ hc' e _=>⟨o.slots,tD b o (by simpa using hc') e⟩) (fun b o _ e n=>by rw [av (ef (bF e))];exact n) (fun b o hc' e=>⟨o,tD b o (by simpa using hc') e⟩)
     (fun b zs q=>by rw [av (aD q hn)];exact q) (fun b o zs q=>by rw [av (aD q hn)];exact q) (fun b ps q=>⟨#[],by rw [av (aD q hn),q];simp⟩) (fun m hm=>?_) (fun b ob e=>?_) I.bare
    . obtain ⟨o,es,ep,ho,r⟩:=hm
      exact ⟨o,es,ep,tD _ o (fun q=>f1 q.symm) ho,r⟩
    . by_cases hb:b=s.heap.objs.size
      . subst hb
        rw [ah] at e;cases e
        exact ⟨by show 2<=sizeLine;decide,[key,qv], .cons rk (.cons rq .nil),_,sb.extBut _ _ hil.symm ht,Z,0,Z⟩
      . rw [av hb] at e
        refine (I.hok b ob e).stay (fun c v Ox q=>?_) (fun c q=>by rw [av (aD q hn)];exact q) fun c zs q=>by rw [av (aD q hn)];exact q
        refine tD c v (fun z=>?_) q
        rcases Ox with r|r
        . rw [r] at z;rw [z,f0] at e;cases e
        . rw [z,f0] at r;cases r
   exact J2
  refine ⟨.ref s.heap.objs.size,_,I1,Z,⟨_,kvs[i],I.fresh,bB hlt,Z,Z⟩,⟨key,qv,by rw [hl];exact st2⟩,fun b hb=>?_⟩
  have eb:b=it:=by simpa using hb
  subst eb
  rw [av hil]
  exact f0
 done:=by
  intro X hP hw hK hc i pins s σ H E I hf st hg
  subst hP hw hK
  obtain ⟨hz,hle⟩:=hg
  obtain ⟨ok,ov,st⟩:=st
  obtain ⟨ho,_,_,vs,uA,r,da⟩:=I.pG hz
  cases ym da ho hd
  have hl:kvs.length=vs.length:=r.length
  rw [hl] at st
  obtain ⟨f0,f1,f2,f3,f4,f5⟩:=hf it (by simp)
  exact wpAny_pyNext_items_end (I.ok.hd hc) st da (by rw [yT];omega) fun h' eb=>⟨Z,I.turned (t':=s.toks) (fun b o hb e=>eb b o hb e) f0 f1 f3 f4 f5⟩
 self:=fun A i s Q E ⟨ok,ov,st⟩ h=>PySem.W.kcp_self st h
section
variable {X:Cx} {tg:Expr}
inductive VZ (R:It->Hp->Prop) (x:V) (H1:Hp):Prop
 | mk  (d o kvs:_) (_:x = .ref d) (_:mL H1 d o kvs) (_:R (Zu d o kvs:_) H1)
def YA (td:TE):TI:=fun σ H R=>td σ H (VZ R)
inductive TJ (R:It->Hp->Prop) (x:V) (H1:Hp):Prop
 | mk  (d o kvs:_) (_:x = .ref d) (_:mL H1 d o kvs) (_:R (Zv d o kvs:_) H1)
def V0 (td:TE):TI:=fun σ H R=>td σ H (TJ R)
end
variable {J:It}
theorem rJ {n:Nat} {g:TG} (Pv:Nat->St->Hp->Prop) (h0:Pv 0 σ H) (hgo:∀i σ H,i<n->Pv i σ H->J.go i H) (hst:∀σ H,Pv n σ H->J.stop n H)
  (hs:∀i x σ H H',i<n->Pv i σ H->J.Ah i H x H'->g x σ H' (tb (D.lp (Pv (i+1))))) (hd:∀σ H,Pv n σ H->D.nx σ H):
  Aj g tb D σ (J) H:=by
 refine ⟨fun i m σ H=>m=n-i/\i<=n/\Pv i σ H,⟨n,by simp,gH _,h0⟩,?_⟩
 rintro i m σ H ⟨rfl,hi,p⟩
 by_cases hlt:i<n
 . exact .inr ⟨hgo i σ H hlt p,Pv (i+1),fun σ' H' p'=>⟨n-(i+1),by omega,Z,hlt,p'⟩,fun x H' y=>hs i x σ H H' hlt p y⟩
 . have e:i=n:=by omega
   subst e
   exact .inl ⟨hst σ H p,hd σ H p⟩
section
variable {prog:Program} {w:World} {K:Type} [DecidableEq K] {knd:KeyKind prog w K} {A:Around} {E:VS} {s:Shared}
theorem Jz {d:Addr} {kvs:List (K×Value)} {k:K} {v:Value} {Q:VS} (hit:s.heap.IsKeyIter it d i kvs.length ep)
  (hm:s.heap.DictAt knd d kvs ep) (hx:kvs[i]?=some (k,v)) (hQ:∀key h',knd.is k key=true->h'.IsKeyIter it d (i+1) kvs.length ep->Heap.SameBut it s.heap h'->Q key { s with heap:=h' }):
  wpAny (model prog w) A (Builtin.SmallTypes.nextOf (.ref it)) Q E s:=by
 obtain ⟨o,ho,hc,hd⟩:=id hit;obtain ⟨od,es,hod,hcd,w_,hk,hp,hn⟩:=id hm
 unfold Builtin.SmallTypes.nextOf
 refine ay (wJ (name:=Str.ofString "__next__") hit.typeIs RE (wN RE hit.typeIs F.entry_dict_keyiterator_next ?_ (F.args_dict_keyiterator_next_1 _)))
 refine ay (aS ?_);refine ay (ay ?_)
 first|(refine ay (RC hit.typeIs (aS ?_));refine ay (sU ho hd ?_))|(refine ay (LK hit.typeIs (aS ?_));refine ay (sU ho hd ?_))
 have own:Builtin.Dict_items.ownsTuple "dict_keyiterator"=false:=by decide
 simp only [own,FE,lH]
 show wpAny _ _ (if (Value.ref d==Value.none)=true then _ else _) _ _ _
 rw [az (fun z=>eX z:¬ ((Value.ref d==Value.none)=true))];refine ay (aS ?_)
 have sz:es.size=kvs.length:=by have:=hp.length;simpa using this
 refine ay (L4 hod w_ ?_);rw [az (by rw [sz];simp)]
 refine ay (aS ?_);refine ay (Fc hod w_ ?_)
 rw [az (by simp)];refine aS ?_
 have lt:i<kvs.length:=(c_.mp hx).1
 have lt':i<es.size:=by omega
 have kv:=hp.get? (e:=es[i]) (by simp [lt']) hx
 simp only [show ¬ ((i:Int)<0) from by omega,lH,rA,Array.getElem?_eq_getElem lt'];refine ay ?_
 first|(refine ay (RC hit.typeIs (aS ?_));refine ay (wpAny_isOneOf_keyiter hit.typeIs ?_))|(refine ay (LK hit.typeIs (aS ?_));refine ay (wpAny_isOneOf_keyiter hit.typeIs ?_))
 show wpAny _ _ (setField (.ref it) 1 (rawInt ((i:Int)+1)) >>= _) _ _ _
 refine ay (yd ho hd (by simp) ?_)
 have Co:(s.heap.update it (Obj.mapFields (·.setIfInBounds 1 (rawInt ((i:Int)+1))))).IsKeyIter it d (i+1) kvs.length ep:=⟨_,LO _ ho (Obj.isFreed_of_fields (Ca hd _)),(Obj.cls_mapFields ..).trans hc,by rw [Ca hd];simp [rawInt]⟩
 refine ay (Aa (ay (wpAny_isOneOf_keyiter (s:={ s with heap:=s.heap.update it (Obj.mapFields (·.setIfInBounds 1 (rawInt ((i:Int)+1)))) }) Co.typeIs ?_)))
 exact aS (aS ⟨_,Z,aS (hQ _ _ kv.1 Co (B9 ..))⟩)
theorem MC {d:Addr} {kvs:List (K×Value)} {Q:VS} (hh:A.handled=none) (hit:s.heap.IsKeyIter it d i kvs.length ep)
  (hm:s.heap.DictAt knd d kvs ep) (hx:kvs[i]?=none) (hE:∀h' e,Heap.ExtBut it s.heap h'->(∃o,h'.get? e=some o/\o.cls = .type "StopIteration")->E (.ref e) { s with heap:=h' }):
  wpAny (model prog w) A (Builtin.SmallTypes.nextOf (.ref it)) Q E s:=by
 obtain ⟨o,ho,hc,hd⟩:=id hit;obtain ⟨od,es,hod,hcd,w_,hk,hp,hn⟩:=id hm
 unfold Builtin.SmallTypes.nextOf
 refine ay (wJ (name:=Str.ofString "__next__") hit.typeIs RE (wN RE hit.typeIs F.entry_dict_keyiterator_next ?_ (F.args_dict_keyiterator_next_1 _)))
 refine ay (aS ?_);refine ay (ay ?_)
 first|(refine ay (RC hit.typeIs (aS ?_));refine ay (sU ho hd ?_))|(refine ay (LK hit.typeIs (aS ?_));refine ay (sU ho hd ?_))
 have own:Builtin.Dict_items.ownsTuple "dict_keyiterator"=false:=by decide
 simp only [own,FE,lH]
 show wpAny _ _ (if (Value.ref d==Value.none)=true then _ else _) _ _ _
 rw [az (fun z=>eX z:¬ ((Value.ref d==Value.none)=true))];refine ay (aS ?_)
 have sz:es.size=kvs.length:=by have:=hp.length;simpa using this
 refine ay (L4 hod w_ ?_);rw [az (by rw [sz];simp)]
 refine ay (aS ?_);refine ay (Fc hod w_ ?_)
 rw [az (by simp)];refine aS ?_
 have ge:es.size<=i:=by rw [sz];simpa using hx
 simp only [show ¬ ((i:Int)<0) from by omega,lH,rA,Array.getElem?_eq_none ge];refine ay ?_
 first|(refine ay (RC hit.typeIs (aS ?_));show wpAny _ _ (setField (.ref it) 0 .none >>= _) _ _ _)|(refine ay (LK hit.typeIs (aS ?_));show wpAny _ _ (setField (.ref it) 0 .none >>= _) _ _ _)
 refine ay (yd ho hd (by simp) ?_);show wpAny _ _ (newExc (.type "StopIteration") [] >>= _) _ _ _
 refine ay ?_;simp only [newExc,newTuple]
 refine ay (uY ?_ (by size_fits));refine ay (m:=firstArgMember _ _) (wpAny_of_eq (a:=Value.none) (by first|rfl|(simp only [firstArgMember];rfl)) ?_)
 refine uY ?_ (by size_fits);simp only [raiseNew]
 refine ay (wpAny_handled ?_);rw [show A.in1.handled=none from hh]
 exact ay (aS (wpAny_throw (hE _ _ (((B9 ..).extBut.push _).push _) ⟨_,dP _ rfl,Z⟩)))
theorem JA {d:Addr} {kvs:List (K×Value)} {k:K} {v:Value} {Q:VS} (hit:s.heap.IsValIter it d i kvs.length ep)
  (hm:s.heap.DictAt knd d kvs ep) (hx:kvs[i]?=some (k,v)) (hQ:∀h',h'.IsValIter it d (i+1) kvs.length ep->Heap.SameBut it s.heap h'->Q v { s with heap:=h' }):
  wpAny (model prog w) A (Builtin.SmallTypes.nextOf (.ref it)) Q E s:=by
 obtain ⟨o,ho,hc,hd⟩:=id hit;obtain ⟨od,es,hod,hcd,w_,hk,hp,hn⟩:=id hm
 unfold Builtin.SmallTypes.nextOf
 refine ay (wJ (name:=Str.ofString "__next__") hit.typeIs RB (wN RB hit.typeIs F.entry_dict_valueiterator_next ?_ (F.args_dict_valueiterator_next_1 _)))
 refine ay (aS ?_);refine ay (ay ?_)
 first|(refine ay (RD hit.typeIs (aS ?_));refine ay (sU ho hd ?_))|(refine ay (LL hit.typeIs (aS ?_));refine ay (sU ho hd ?_))
 have own:Builtin.Dict_items.ownsTuple "dict_valueiterator"=false:=by decide
 simp only [own,FE,lH]
 show wpAny _ _ (if (Value.ref d==Value.none)=true then _ else _) _ _ _
 rw [az (fun z=>eX z:¬ ((Value.ref d==Value.none)=true))];refine ay (aS ?_)
 have sz:es.size=kvs.length:=by have:=hp.length;simpa using this
 refine ay (L4 hod w_ ?_);rw [az (by rw [sz];simp)]
 refine ay (aS ?_);refine ay (Fc hod w_ ?_)
 rw [az (by simp)];refine aS ?_
 have lt:i<kvs.length:=(c_.mp hx).1
 have lt':i<es.size:=by omega
 have kv:=hp.get? (e:=es[i]) (by simp [lt']) hx
 simp only [show ¬ ((i:Int)<0) from by omega,lH,rA,Array.getElem?_eq_getElem lt'];refine ay ?_
 first|(refine ay (RD hit.typeIs (aS ?_));refine ay (LP hit.typeIs ?_))|(refine ay (LL hit.typeIs (aS ?_));refine ay (LP hit.typeIs ?_))
 show wpAny _ _ (setField (.ref it) 1 (rawInt ((i:Int)+1)) >>= _) _ _ _
 refine ay (yd ho hd (by simp) ?_)
 have Co:(s.heap.update it (Obj.mapFields (·.setIfInBounds 1 (rawInt ((i:Int)+1))))).IsValIter it d (i+1) kvs.length ep:=⟨_,LO _ ho (Obj.isFreed_of_fields (Ca hd _)),(Obj.cls_mapFields ..).trans hc,by rw [Ca hd];simp [rawInt]⟩
 refine ay (Aa (ay (LP (s:={ s with heap:=s.heap.update it (Obj.mapFields (·.setIfInBounds 1 (rawInt ((i:Int)+1)))) }) Co.typeIs ?_)))
 refine ay (LP (s:={ s with heap:=s.heap.update it (Obj.mapFields (·.setIfInBounds 1 (rawInt ((i:Int)+1)))) }) Co.typeIs ?_)
 exact aS (aS ⟨_,Z,aS (kv.2▸hQ _ Co (B9 ..))⟩)
theorem MD {d:Addr} {kvs:List (K×Value)} {Q:VS} (hh:A.handled=none) (hit:s.heap.IsValIter it d i kvs.length ep)
  (hm:s.heap.DictAt knd d kvs ep) (hx:kvs[i]?=none) (hE:∀h' e,Heap.ExtBut it s.heap h'->(∃o,h'.get? e=some o/\o.cls = .type "StopIteration")->E (.ref e) { s with heap:=h' }):
  wpAny (model prog w) A (Builtin.SmallTypes.nextOf (.ref it)) Q E s:=by
 obtain ⟨o,ho,hc,hd⟩:=id hit;obtain ⟨od,es,hod,hcd,w_,hk,hp,hn⟩:=id hm
 unfold Builtin.SmallTypes.nextOf
 refine ay (wJ (name:=Str.ofString "__next__") hit.typeIs RB (wN RB hit.typeIs F.entry_dict_valueiterator_next ?_ (F.args_dict_valueiterator_next_1 _)))
 refine ay (aS ?_);refine ay (ay ?_)
 first|(refine ay (RD hit.typeIs (aS ?_));refine ay (sU ho hd ?_))|(refine ay (LL hit.typeIs (aS ?_));refine ay (sU ho hd ?_))
 have own:Builtin.Dict_items.ownsTuple "dict_valueiterator"=false:=by decide
 simp only [own,FE,lH]
 show wpAny _ _ (if (Value.ref d==Value.none)=true then _ else _) _ _ _
 rw [az (fun z=>eX z:¬ ((Value.ref d==Value.none)=true))];refine ay (aS ?_)
 have sz:es.size=kvs.length:=by have:=hp.length;simpa using this
 refine ay (L4 hod w_ ?_);rw [az (by rw [sz];simp)]
 refine ay (aS ?_);refine ay (Fc hod w_ ?_)
 rw [az (by simp)];refine aS ?_
 have ge:es.size<=i:=by rw [sz];simpa using hx
 simp only [show ¬ ((i:Int)<0) from by omega,lH,rA,Array.getElem?_eq_none ge];refine ay ?_
 first|(refine ay (RD hit.typeIs (aS ?_));show wpAny _ _ (setField (.ref it) 0 .none >>= _) _ _ _)|(refine ay (LL hit.typeIs (aS ?_));show wpAny _ _ (setField (.ref it) 0 .none >>= _) _ _ _)
 refine ay (yd ho hd (by simp) ?_);show wpAny _ _ (newExc (.type "StopIteration") [] >>= _) _ _ _
 refine ay ?_;simp only [newExc,newTuple]
 refine ay (uY ?_ (by size_fits));refine ay (m:=firstArgMember _ _) (wpAny_of_eq (a:=Value.none) (by first|rfl|(simp only [firstArgMember];rfl)) ?_)
 refine uY ?_ (by size_fits);simp only [raiseNew]
 refine ay (wpAny_handled ?_);rw [show A.in1.handled=none from hh]
 exact ay (aS (wpAny_throw (hE _ _ (((B9 ..).extBut.push _).push _) ⟨_,dP _ rfl,Z⟩)))
end
structure xg (P:Program) (w:World) (K:Fg) (S:Hp->Prop) (xs:List V) (it l:Addr) (tn:Nat->Heap->Prop) (src:Heap->Prop):Prop where
 obj:∀i h,tn i h->∃o,h.get? it=some o/\∀v,o.data ≠ .cell v
 keep:∀i h h',tn i h->(∀o,h.get? it=some o->h'.get? it=some o)->tn i h'
 tE:∀h h',src h->(∀o,h.get? l=some o->h'.get? l=some o)->src h'
 DB:∀(X:Cx),X.prog=P->X.w=w->X.K=K->∀(pins:AO) (σ:St) (H:Hp) (s:Shared),Inv X pins σ H s->S H->src s.heap
 item:∀(A:Around) (i:Nat) (x:V) (s:Shared) (Q:VS) (E:VS),tn i s.heap->src s.heap->xs[i]?=some x->(∀u h',RelV x u->tn (i+1) h'->Heap.SameBut it s.heap h'->Q u { s with heap:=h' })->wpAny (model P w) A (Builtin.SmallTypes.nextOf (.ref it)) Q E s
 done:∀(A:Around) (i:Nat) (s:Shared) (Q:VS) (E:VS),A.handled=none->tn i s.heap->src s.heap->xs.length<=i->(∀h' e,Heap.ExtBut it s.heap h'->(∃o,h'.get? e=some o/\o.cls = .type "StopIteration")->E (.ref e) { s with heap:=h' })->wpAny (model P w) A (Builtin.SmallTypes.nextOf (.ref it)) Q E s
variable {xs:List V}
theorem QK {w:World} {l:Addr}:xg P w K (fun H=>aF K H l xs) xs it l (fun i h=>h.IsListIter it l i) (fun h=>∃its:List Value,Vals xs its/\h.IsList l its.toArray) where
 obj:=fun i h ⟨o,e,c,d⟩=>⟨o,e,fun v z=>by rw [d] at z;cases z⟩
 keep:=fun i h h' st k=>st.at k
 tE:=fun h h' ⟨its,r,hl⟩ k=>⟨its,r,hl.at k⟩
 DB:=fun X hP hw hK pins σ H s I h=>by
  subst hP hw hK
  obtain ⟨its,rv,p,_⟩:=I.list h
  exact ⟨its,rv,p.isList⟩
 item:=fun A i x s Q E st ⟨its,r,hl⟩ hx hQ=>by
  obtain ⟨u,hu,ru⟩:=r.get hx
  exact wpAny_nextOf_list_item st hl (by simpa using hu) fun h' st' sb=>hQ u h' ru st' sb
 done:=fun A i s Q E hh st ⟨its,r,hl⟩ hx hE=>wpAny_nextOf_list_end hh st hl (by have:=r.length;simp;omega) hE
theorem QL {w:World} {d:Addr} {o:Obj} (hd:o.data = .dict es ep):
  xg P w K (fun H=>mL H d o kvs) (kvs.map fun p=>kV p.1) it d (fun i h=>h.IsKeyIter it d i kvs.length ep) (fun h=>∃vs,KV kvs vs/\h.DictAt (cA P w) d vs ep) where
 obj:=fun i h ⟨o,e,c,d⟩=>⟨o,e,fun v z=>by rw [d] at z;cases z⟩
 keep:=fun i h h' st k=>st.at k
 tE:=fun h h' ⟨vs,r,hl⟩ k=>⟨vs,r,hl.at' k⟩
 DB:=fun X hP hw hK pins σ H s I h=>by
  subst hP hw hK
  obtain ⟨ho,_,_,vs,uA,r,da⟩:=I.pG h
  cases ym da ho hd
  exact ⟨vs,r,da⟩
 item:=fun A i x s Q E st ⟨vs,r,da⟩ hx hQ=>by
  rw [b_] at hx
  obtain ⟨p,hp,rfl⟩:=mU.mp hx
  obtain ⟨q,hq,ek,rq⟩:=w6 r hp
  obtain ⟨qk,qv⟩:=q
  have hl:kvs.length=vs.length:=r.length
  rw [hl] at st
  exact Jz st da hq fun key h' hk st' sb=>hQ key h' (by rw [ek];exact Ov hk) (by rw [hl];exact st') sb
 done:=fun A i s Q E hh st ⟨vs,r,da⟩ hx hE=>by
  have hl:kvs.length=vs.length:=r.length
  rw [aC] at hx
  rw [hl] at st
  exact MC hh st da (by rw [yT];omega) hE
theorem QM {w:World} {d:Addr} {o:Obj} (hd:o.data = .dict es ep):
  xg P w K (fun H=>mL H d o kvs) (kvs.map fun p=>p.2) it d (fun i h=>h.IsValIter it d i kvs.length ep) (fun h=>∃vs,KV kvs vs/\h.DictAt (cA P w) d vs ep) where
 obj:=fun i h ⟨o,e,c,d⟩=>⟨o,e,fun v z=>by rw [d] at z;cases z⟩
 keep:=fun i h h' st k=>st.at k
 tE:=fun h h' ⟨vs,r,hl⟩ k=>⟨vs,r,hl.at' k⟩
 DB:=fun X hP hw hK pins σ H s I h=>by
  subst hP hw hK
  obtain ⟨ho,_,_,vs,uA,r,da⟩:=I.pG h
  cases ym da ho hd
  exact ⟨vs,r,da⟩
 item:=fun A i x s Q E st ⟨vs,r,da⟩ hx hQ=>by
  rw [b_] at hx
  obtain ⟨p,hp,rfl⟩:=mU.mp hx
  obtain ⟨q,hq,ek,rq⟩:=w6 r hp
  obtain ⟨qk,qv⟩:=q
  have hl:kvs.length=vs.length:=r.length
  rw [hl] at st
  exact JA st da hq fun h' st' sb=>hQ qv h' rq (by rw [hl];exact st') sb
 done:=fun A i s Q E hh st ⟨vs,r,da⟩ hx hE=>by
  have hl:kvs.length=vs.length:=r.length
  rw [aC] at hx
  rw [hl] at st
  exact MD hh st da (by rw [yT];omega) hE
variable {y:V}
section
variable {P:Program} {w:World} {A:Around} {E:VS} {s:Shared} {K:Fg} {S1 S2:Hp->Prop} {xs ys:List V} {z TI TO i1 i2 l1 l2:Addr} {t1 t2:Nat->Heap->Prop} {c1 c2:Heap->Prop} {i:Nat}
theorem Oz {x:V} {a b:Value} {Q:VS} (D:ZipApart z TI TO i1 i2 l1 l2) (C1:xg P w K S1 xs i1 l1 t1 c1) (C2:xg P w K S2 ys i2 l2 t2 c2)
  (hz:IsZip s.heap z TI TO .none) (hTI:IsPair s.heap TI (.ref i1) (.ref i2)) (hTO:IsPair s.heap TO a b) (h1:t1 i s.heap) (h2:t2 i s.heap) (hc1:c1 s.heap) (hc2:c2 s.heap) (hx:xs[i]?=some x) (hy:ys[i]?=some y)
  (hQ:∀u v h',RelV x u->RelV y v->IsZip h' z TI TO (rawInt s.heap.objs.size)->IsPair h' TO u v->t1 (i+1) h'->t2 (i+1) h'->IsPair h' s.heap.objs.size u v->h'.objs.size=s.heap.objs.size+1->
    (∀c o,c≠z->c≠TO->c≠i1->c≠i2->s.heap.get? c=some o->h'.get? c=some o)->Q (.ref s.heap.objs.size) { s with heap:=h' }):
  wpAny (model P w) A (Builtin.«zip.__next__» ⟨[.ref z],[]⟩) (fun fin s'=>∃v,fin = .done (.ret v)/\Q v s') E s:=by
 show wpAny _ _ (field (.ref z) 2 >>= _) _ _ _
 refine ay (lF hz rfl (x:= .bool false) rfl ?_);show wpAny _ _ (field (.ref z) 3 >>= _) _ _ _
 refine ay (lF hz rfl (x:= .ref TI) rfl ?_);refine ay (sV hTI rfl ?_)
 show wpAny _ _ (Builtin.SmallTypes.ownedTupleIsFree (.ref z) >>= _) _ _ _
 refine ay ?_;unfold Builtin.SmallTypes.ownedTupleIsFree
 refine ay (lF hz rfl (x:= .none) rfl (aS ?_));simp only [if_true]
 refine ay (wpAny_rule ?_);refine ay (lF hz rfl (x:= .ref TO) rfl ?_)
 refine ay (Cb hz (by simp) fun hA DC sA=>?_)
 replace DC:IsZip hA z TI TO .ellipsis:=DC
 refine ay ?_;simp only [List.zipIdx_cons,List.zipIdx_nil,E_,z8]
 refine ay (ay (wpAny_onRaise ?_));show wpAny _ _ (Builtin.SmallTypes.nextOf (.ref i1) >>= _) _ _ _
 refine ay (C1.item _ i x { s with heap:=hA } _ _ (C1.keep _ _ _ h1 fun o e=>sA.extBut _ _ D.i1z e) (C1.tE _ _ hc1 fun o e=>sA.extBut _ _ D.l1z e) hx fun u hB ru Zw sB=>aS ?_)
 have OA:IsPair hB TO a b:=sB.extBut _ _ D.TOi1 (sA.extBut _ _ D.TOz hTO)
 refine ay (sV OA rfl ?_);refine ay (wpAny_updateSeq_pair OA fun hC R3 sC=>?_)
 replace R3:IsPair hC TO u b:=R3
 refine ay (wpAny_letGo (aS ?_));refine ay (ay (wpAny_onRaise ?_))
 show wpAny _ _ (Builtin.SmallTypes.nextOf (.ref i2) >>= _) _ _ _
 refine ay (C2.item _ i y { s with heap:=hC } _ _ (C2.keep _ _ _ h2 fun o e=>sC.extBut _ _ D.TOi2.symm (sB.extBut _ _ D.i12.symm (sA.extBut _ _ D.i2z e))) (C2.tE _ _ hc2 fun o e=>sC.extBut _ _ D.l2TO (sB.extBut _ _ D.l2i1 (sA.extBut _ _ D.l2z e))) hy fun v hD rv h2D sD=>aS ?_)
 have Zx:IsPair hD TO u b:=sD.extBut _ _ D.TOi2 R3
 refine ay (sV Zx rfl ?_);refine ay (wpAny_updateSeq_pair Zx fun hE R4 sE=>?_)
 replace R4:IsPair hE TO u v:=R4
 refine ay (wpAny_letGo (aS (aS ?_)));refine ay (sV R4 rfl ?_)
 refine ay (wpAny_newTuple ?_)
 have sz:hE.objs.size=s.heap.objs.size:=by rw [sE.1,sD.1,sC.1,sB.1,sA.1]
 have zE:IsZip hE z TI TO .ellipsis:=sE.extBut _ _ D.TOz.symm (sD.extBut _ _ D.i2z.symm (sC.extBut _ _ D.TOz.symm (sB.extBut _ _ D.i1z.symm DC)))
 have kE:∀c o,c≠z->c≠TO->c≠i1->c≠i2->s.heap.get? c=some o->hE.get? c=some o:=fun c o c1 c2 c3 c4 e=>sE.extBut _ _ c2 (sD.extBut _ _ c4 (sC.extBut _ _ c2 (sB.extBut _ _ c3 (sA.extBut _ _ c1 e))))
 have t1E:t1 (i+1) hE:=C1.keep _ _ _ Zw fun o e=>sE.extBut _ _ D.TOi1.symm (sD.extBut _ _ D.i12 (sC.extBut _ _ D.TOi1.symm e))
 have t2E:t2 (i+1) hE:=C2.keep _ _ _ h2D fun o e=>sE.extBut _ _ D.TOi2.symm e
 have Zy:z<hE.objs.size:=bF zE
 show wpAny _ _ (Builtin.SmallTypes.ownedTupleHandOut (.ref z) (.ref hE.objs.size) >>= _) _ _ _
 refine ay ?_;unfold Builtin.SmallTypes.ownedTupleHandOut
 have zF:IsZip (hE.push { cls:= .type "tuple",data:= .seq #[u,v] }) z TI TO .ellipsis:=bU _ zE
 refine ay (Cb zF (by simp) fun hG zG sG=>?_)
 replace zG:IsZip hG z TI TO (rawInt hE.objs.size):=zG
 refine Cb zG (by simp) fun hI zI sI=>?_
 replace zI:IsZip hI z TI TO (rawInt hE.objs.size):=zI
 have up:∀c o,c≠z->hE.get? c=some o->hI.get? c=some o:=fun c o c1 e=>sI.extBut _ _ c1 (sG.extBut _ _ c1 (bU _ e))
 have Zz:IsPair hI hE.objs.size u v:=sI.extBut _ _ (ye Zy) (sG.extBut _ _ (ye Zy) (dP _ rfl))
 have ZA:hI.objs.size=hE.objs.size+1:=by rw [sI.1,sG.1,kD]
 rw [sz] at zI Zz ZA
 refine aS ⟨_,Z,?_⟩
 show Q (.ref hE.objs.size) _
 rw [sz]
 exact hQ u v hI ru rv zI (up _ _ D.TOz R4) (C1.keep _ _ _ t1E fun o e=>up _ o D.i1z e) (C2.keep _ _ _ t2E fun o e=>up _ o D.i2z e) Zz ZA fun c o c1 c2 c3 c4 e=>up c o c1 (kE c o c1 c2 c3 c4 e)
theorem QN {a b:Value} {Q:Fin->Shared->Prop} (hh:A.handled=none) (D:ZipApart z TI TO i1 i2 l1 l2) (C1:xg P w K S1 xs i1 l1 t1 c1) (C2:xg P w K S2 ys i2 l2 t2 c2)
  (hz:IsZip s.heap z TI TO .none) (hTI:IsPair s.heap TI (.ref i1) (.ref i2)) (hTO:IsPair s.heap TO a b) (h1:t1 i s.heap) (h2:t2 i s.heap) (hc1:c1 s.heap) (hc2:c2 s.heap) (hend:xs.length<=i\/ys.length<=i)
  (hE:∀h' e,(∀c o,c≠z->c≠TO->c≠i1->c≠i2->s.heap.get? c=some o->h'.get? c=some o)->(∃o,h'.get? e=some o/\o.cls = .type "StopIteration")->E (.ref e) { s with heap:=h' }):
  wpAny (model P w) A (Builtin.«zip.__next__» ⟨[.ref z],[]⟩) Q E s:=by
 show wpAny _ _ (field (.ref z) 2 >>= _) _ _ _
 refine ay (lF hz rfl (x:= .bool false) rfl ?_);show wpAny _ _ (field (.ref z) 3 >>= _) _ _ _
 refine ay (lF hz rfl (x:= .ref TI) rfl ?_);refine ay (sV hTI rfl ?_)
 show wpAny _ _ (Builtin.SmallTypes.ownedTupleIsFree (.ref z) >>= _) _ _ _
 refine ay ?_;unfold Builtin.SmallTypes.ownedTupleIsFree
 refine ay (lF hz rfl (x:= .none) rfl (aS ?_));simp only [if_true]
 refine ay (wpAny_rule ?_);refine ay (lF hz rfl (x:= .ref TO) rfl ?_)
 refine ay (Cb hz (by simp) fun hA DC sA=>?_)
 replace DC:IsZip hA z TI TO .ellipsis:=DC
 refine ay ?_;simp only [List.zipIdx_cons,List.zipIdx_nil,E_,z8]
 refine ay (ay (wpAny_onRaise ?_));show wpAny _ _ (Builtin.SmallTypes.nextOf (.ref i1) >>= _) _ _ _
 have k1:=C1.keep _ _ _ h1 fun o e=>sA.extBut _ _ D.i1z e
 have k2:=C1.tE _ _ hc1 fun o e=>sA.extBut _ _ D.l1z e
 by_cases hx:xs.length<=i
 . refine ay (C1.done _ i { s with heap:=hA } _ _ hh k1 k2 hx fun hB e sB he=>?_)
   obtain ⟨oe,AQ,hce⟩:=he
   have zB:IsZip hB z TI TO .ellipsis:=sB _ _ D.i1z.symm DC
   have ez:e≠z:=fun x=>by subst x;rw [zB] at AQ;cases AQ;simp at hce
   exact Cb zB (by simp) fun hC _ sC=>hE hC e (fun c o c1 _ c3 _ x=>sC.extBut _ _ c1 (sB _ _ c3 (sA.extBut _ _ c1 x))) ⟨oe,sC.extBut _ _ ez AQ,hce⟩
 . have hy:ys.length<=i:=hend.resolve_left hx
   refine ay (C1.item _ i xs[i] { s with heap:=hA } _ _ k1 k2 (bB (by omega)) fun u hB ru Zw sB=>aS ?_)
   have OA:IsPair hB TO a b:=sB.extBut _ _ D.TOi1 (sA.extBut _ _ D.TOz hTO)
   refine ay (sV OA rfl ?_);refine ay (wpAny_updateSeq_pair OA fun hC R3 sC=>?_)
   refine ay (wpAny_letGo (aS ?_));refine ay (ay (wpAny_onRaise ?_))
   show wpAny _ _ (Builtin.SmallTypes.nextOf (.ref i2) >>= _) _ _ _
   refine ay (C2.done _ i { s with heap:=hC } _ _ hh (C2.keep _ _ _ h2 fun o e=>sC.extBut _ _ D.TOi2.symm (sB.extBut _ _ D.i12.symm (sA.extBut _ _ D.i2z e))) (C2.tE _ _ hc2 fun o e=>sC.extBut _ _ D.l2TO (sB.extBut _ _ D.l2i1 (sA.extBut _ _ D.l2z e))) hy fun hD e sD he=>?_)
   obtain ⟨oe,AQ,hce⟩:=he
   have zD:IsZip hD z TI TO .ellipsis:=sD _ _ D.i2z.symm (sC.extBut _ _ D.TOz.symm (sB.extBut _ _ D.i1z.symm DC))
   have ez:e≠z:=fun x=>by subst x;rw [zD] at AQ;cases AQ;simp at hce
   exact Cb zD (by simp) fun hF _ sF=>hE hF e (fun c o c1 c2 c3 c4 x=>sF.extBut _ _ c1 (sD _ _ c4 (sC.extBut _ _ c2 (sB.extBut _ _ c3 (sA.extBut _ _ c1 x))))) ⟨oe,sF.extBut _ _ ez AQ,hce⟩
end
def V1 (S1 S2:Hp->Prop) (xs ys:List V):It:=
 ⟨fun i H=>S1 H/\S2 H/\i<xs.length/\i<ys.length,fun i H v H'=>∃p x y,H p=none/\v = .ref p/\H'=upd H p (.tup [x,y])/\xs[i]?=some x/\ys[i]?=some y,fun i H=>S1 H/\S2 H/\(xs.length<=i\/ys.length<=i)⟩
variable {ys:List V} {z:Addr}
theorem OB {w:World} {kk:Nat} {S1 S2:Hp->Prop} {TI TO i1 i2 l1 l2:Addr} {t1 t2:Nat->Heap->Prop} {c1 c2:Heap->Prop} (D:ZipApart z TI TO i1 i2 l1 l2)
  (C1:xg P w K S1 xs i1 l1 t1 c1) (C2:xg P w K S2 ys i2 l2 t2 c2):
  Turn P w K (.Tuple elts kk pos) (V1 S1 S2 xs ys) [z,TI,TO,i1,i2] z (fun i h=>IsZip h z TI TO .none/\IsPair h TI (.ref i1) (.ref i2)/\(∃a b,IsPair h TO a b)/\t1 i h/\t2 i h) where
 mem:=by simp
 obj:=fun i h st b hb=>by
  obtain ⟨hz,hTI,⟨a,b',hTO⟩,h1,h2⟩:=st
  have hb':b=z\/b=TI\/b=TO\/b=i1\/b=i2:=by simpa using hb
  rcases hb' with rfl|rfl|rfl|rfl|rfl
  . exact ⟨_,hz,fun v q=>by cases q⟩
  . exact ⟨_,hTI,fun v q=>by cases q⟩
  . exact ⟨_,hTO,fun v q=>by cases q⟩
  . exact C1.obj i h h1
  . exact C2.obj i h h2
 keep:=fun i h h' st k=>by
  obtain ⟨hz,hTI,⟨a,b',hTO⟩,h1,h2⟩:=st
  exact ⟨k z (by simp) _ hz,k TI (by simp) _ hTI,⟨a,b',k TO (by simp) _ hTO⟩,C1.keep _ _ _ h1 fun o e=>k i1 (by simp) o e,C2.keep _ _ _ h2 fun o e=>k i2 (by simp) o e⟩
 item:=by
  intro X hP hw hK hc i pins s σ H E I hf st hg
  subst hP hw hK
  obtain ⟨hz,hTI,⟨a,b,hTO⟩,h1,h2⟩:=st
  obtain ⟨g1,g2,lx,ly⟩:=hg
  have hT:s.TypeIs (.ref z) "zip":=⟨_,hz,Z⟩
  unfold pyNext
  refine ay (wpAny_attempt (wJ (name:=Str.ofString "__next__") hT Fd (wN Fd hT F.entry_zip_next
   (Oz D C1 C2 hz hTI hTO h1 h2 (C1.DB X rfl rfl rfl pins σ H s I g1) (C2.DB X rfl rfl rfl pins σ H s I g2) (bB lx) (bB ly) fun u u2 h' ru ru2 a1 a2 a3 a4 a5 a6 hk=>aS ?_) (F.args_zip_next_1 _))))
  refine ⟨_,Z,wpAny_letOwnedTupleGo_zip (s:={ s with heap:=h' }) a1 fun h'' b1 hs=>?_⟩
  have hTz:s.heap.objs.size≠z:=ye (bF hz)
  have tD:∀c o,c≠z->c≠TO->c≠i1->c≠i2->s.heap.get? c=some o->h''.get? c=some o:=fun c o c1 c2 c3 c4 e=>hs.extBut _ _ c1 (hk c o c1 c2 c3 c4 e)
  have hn:=I.fresh
  have nf:∀b u,H b=some u->b≠z/\b≠TO/\b≠i1/\b≠i2:=fun b u e=>by
   have g:∀c∈[z,TI,TO,i1,i2],b≠c:=fun c hc q=>by
    have:=(hf c hc).1
    rw [<-q,e] at this
    cases this
   exact ⟨g z (by simp),g TO (by simp),g i1 (by simp),g i2 (by simp)⟩
  have uz:∀c,c∉[z,TI,TO,i1,i2]->c≠z/\c≠TO/\c≠i1/\c≠i2:=fun c hc=>⟨fun q=>hc (by simp [q]),fun q=>hc (by simp [q]),fun q=>hc (by simp [q]),fun q=>hc (by simp [q])⟩
  have abu:IsPair h'' s.heap.objs.size u u2:=hs.extBut _ _ hTz a5
  have hok:f_ X.prog X.w (upd H s.heap.objs.size (.tup [xs[i],ys[i]])) h'':=fun b ob e=>by
   by_cases hb:b=s.heap.objs.size
   . subst hb
     rw [ah] at e
     cases e
     exact ⟨by show 2<=sizeLine;decide,[u,u2], .cons ru (.cons ru2 .nil),_,abu,Z,0,Z⟩
   . rw [av hb] at e
     refine (I.hok b ob e).stay (fun c v Ox q=>?_) (fun c q=>by rw [av (aD q hn)];exact q) fun c zs q=>by rw [av (aD q hn)];exact q
     rcases Ox with r|r
     . obtain ⟨n1,n2,n3,n4⟩:=nf b ob e
       rw [r]
       rw [r] at q
       exact tD b v n1 n2 n3 n4 q
     . obtain ⟨n1,n2,n3,n4⟩:=nf c _ r
       exact tD c v n1 n2 n3 n4 q
  have I2:Inv X pins σ (upd H s.heap.objs.size (.tup [xs[i],ys[i]])) { s with heap:=h'',gens:=s.gens,drawn:=s.drawn,toks:=s.toks }:=by
   refine I.step (ch:=[z,TI,TO,i1,i2]) (fun b hb=>⟨(hf b hb).2.2.2.1,(hf b hb).2.1,(hf b hb).2.2.2.2.1,(hf b hb).2.2.2.2.2⟩) (fun b o _ _ hc' e _=>?_) (fun b o _ _ hc' e _=>?_) (fun b o _ e n=>?_) (fun b o hc' e=>?_)
    (fun b zs q=>by rw [av (aD q hn)];exact q) (fun b o zs q=>by rw [av (aD q hn)];exact q) (fun b ps q=>⟨#[],by rw [av (aD q hn),q];simp⟩) (fun m hm=>?_) hok I.bare
   . obtain ⟨n1,n2,n3,n4⟩:=uz b hc'
     exact tD b o n1 n2 n3 n4 e
   . obtain ⟨n1,n2,n3,n4⟩:=uz b hc'
     exact ⟨o.slots,tD b o n1 n2 n3 n4 e⟩
   . rw [av (ef (bF e))]
     exact n
   . obtain ⟨n1,n2,n3,n4⟩:=uz b hc'
     exact ⟨o,tD b o n1 n2 n3 n4 e⟩
   . obtain ⟨o,es,ep,ho,r⟩:=hm
     have nl:∀c∈[z,TI,TO,i1,i2],X.env.locals≠c:=fun c hc' q=>(hf c hc').2.1 q.symm
     exact ⟨o,es,ep,tD _ o (nl z (by simp)) (nl TO (by simp)) (nl i1 (by simp)) (nl i2 (by simp)) ho,r⟩
  refine ⟨.ref s.heap.objs.size,_,I2,Z,⟨s.heap.objs.size,xs[i],ys[i],hn,Z,Z,bB lx,bB ly⟩,⟨b1,?_,⟨u,u2,?_⟩,?_,?_⟩,fun b hb=>?_⟩
  . exact tD _ _ D.TIz D.TITO D.TIi1 D.TIi2 hTI
  . exact hs.extBut _ _ D.TOz a2
  . exact C1.keep _ _ _ a3 fun o e=>hs.extBut _ _ D.i1z e
  . exact C2.keep _ _ _ a4 fun o e=>hs.extBut _ _ D.i2z e
  . have hlt:b≠s.heap.objs.size:=by
     have hb':b=z\/b=TI\/b=TO\/b=i1\/b=i2:=by simpa using hb
     obtain ⟨_,e1,_⟩:=C1.obj _ _ h1
     obtain ⟨_,e2,_⟩:=C2.obj _ _ h2
     rcases hb' with rfl|rfl|rfl|rfl|rfl
     . exact ef (bF hz)
     . exact ef (bF hTI)
     . exact ef (bF hTO)
     . exact ef (bF e1)
     . exact ef (bF e2)
    rw [av hlt]
    exact (hf b hb).1
 done:=by
  intro X hP hw hK hc i pins s σ H E I hf st hg
  subst hP hw hK
  obtain ⟨hz,hTI,⟨a,b,hTO⟩,h1,h2⟩:=st
  obtain ⟨g1,g2,hend⟩:=hg
  have hT:s.TypeIs (.ref z) "zip":=⟨_,hz,Z⟩
  unfold pyNext
  refine ay (wpAny_attempt (wJ (name:=Str.ofString "__next__") hT Fd (wN Fd hT F.entry_zip_next
   (QN (I.ok.hd hc) D C1 C2 hz hTI hTO h1 h2 (C1.DB X rfl rfl rfl pins σ H s I g1) (C2.DB X rfl rfl rfl pins σ H s I g2) hend fun h' e hk he=>?_) (F.args_zip_next_1 _))))
  obtain ⟨oe,AQ,hce⟩:=he
  refine ay (wpAny_isInstance (T:="StopIteration") (b:=true) ⟨oe,AQ,hce⟩ isSubtype_stop (aS ⟨Z,?_⟩))
  have uz:∀c,c∉[z,TI,TO,i1,i2]->c≠z/\c≠TO/\c≠i1/\c≠i2:=fun c hc=>⟨fun q=>hc (by simp [q]),fun q=>hc (by simp [q]),fun q=>hc (by simp [q]),fun q=>hc (by simp [q])⟩
  have nf:∀b u,H b=some u->b≠z/\b≠TO/\b≠i1/\b≠i2:=fun b u e=>by
   have g:∀c∈[z,TI,TO,i1,i2],b≠c:=fun c hc q=>by
    have:=(hf c hc).1
    rw [<-q,e] at this
    cases this
   exact ⟨g z (by simp),g TO (by simp),g i1 (by simp),g i2 (by simp)⟩
  have I2:Inv X pins σ H { s with heap:=h',gens:=s.gens,drawn:=s.drawn,toks:=s.toks }:=by
   refine I.step (ch:=[z,TI,TO,i1,i2]) (fun b hb=>⟨(hf b hb).2.2.2.1,(hf b hb).2.1,(hf b hb).2.2.2.2.1,(hf b hb).2.2.2.2.2⟩) (fun b o _ _ hc' e _=>?_) (fun b o _ _ hc' e _=>?_) (fun b o _ e n=>n) (fun b o hc' e=>?_)
    (fun b zs q=>q) (fun b o zs q=>q) (fun b ps q=>⟨#[],by rw [q];simp⟩) (fun m hm=>?_) (fun b ob e=>?_) I.bare
   . obtain ⟨n1,n2,n3,n4⟩:=uz b hc'
     exact hk b o n1 n2 n3 n4 e
   . obtain ⟨n1,n2,n3,n4⟩:=uz b hc'
     exact ⟨o.slots,hk b o n1 n2 n3 n4 e⟩
   . obtain ⟨n1,n2,n3,n4⟩:=uz b hc'
     exact ⟨o,hk b o n1 n2 n3 n4 e⟩
   . obtain ⟨o,es,ep,ho,r⟩:=hm
     have nl:∀c∈[z,TI,TO,i1,i2],X.env.locals≠c:=fun c hc' q=>(hf c hc').2.1 q.symm
     exact ⟨o,es,ep,hk _ o (nl z (by simp)) (nl TO (by simp)) (nl i1 (by simp)) (nl i2 (by simp)) ho,r⟩
   . refine (I.hok b ob e).stay (fun c v Ox q=>?_) (fun c q=>q) fun c zs q=>q
     rcases Ox with r|r
     . obtain ⟨n1,n2,n3,n4⟩:=nf b ob e
       rw [r]
       rw [r] at q
       exact hk b v n1 n2 n3 n4 q
     . obtain ⟨n1,n2,n3,n4⟩:=nf c _ r
       exact hk c v n1 n2 n3 n4 q
  exact I2
 self:=fun _ _ _ _ _ st h=>wpAny_pyIter_zip st.1 h
def Gu (P:Program) (w:World) (u:Value) (o:Obj) (pre:Heap->Prop):Prop:=∀(A:Around) (E:VS) (s:Shared) (Q:VS),pre s.heap->Q (.ref s.heap.objs.size) { s with heap:=s.heap.push o }->wpAny (model P w) A (pyIter u) Q E s
theorem ME {w:World} {p1 p2:Heap->Prop} (s1:Gu P w u1 o1 p1) (s2:Gu P w u2 o2 p2):
  MeetsIn P w (Builtin.«zip.__new__» ⟨[.type "zip",u1,u2],[]⟩) (fun _ R s=>p1 s.heap/\p2 (s.heap.push o1)/\
   R (.ok (.ret (.ref ((((s.heap.push o1).push o2).push { cls:= .type "tuple",data:= .seq #[.ref s.heap.objs.size, .ref (s.heap.push o1).objs.size] }).push { cls:= .type "tuple",data:= .seq #[.none, .none] }).objs.size)))
     { s with heap:=((((s.heap.push o1).push o2).push { cls:= .type "tuple",data:= .seq #[.ref s.heap.objs.size, .ref (s.heap.push o1).objs.size] }).push { cls:= .type "tuple",data:= .seq #[.none, .none] }).push { cls:= .type "zip",data:= .fields #[.none, .bool false, .bool false, .ref ((s.heap.push o1).push o2).objs.size, .ref (((s.heap.push o1).push o2).push { cls:= .type "tuple",data:= .seq #[.ref s.heap.objs.size, .ref (s.heap.push o1).objs.size] }).objs.size] } }):=
 .of_wp fun A R s h=>by
   obtain ⟨hp,g,d,tk,os⟩:=s;obtain ⟨q1,q2,h⟩:=h
   have hsub:=sub_zip
   have i1:=fun (A:Around) (E:VS) (Q:VS)=>s1 A E ⟨hp,g,d,tk,os⟩ Q q1
   have i2:=fun (A:Around) (E:VS) (Q:VS)=>s2 A E ⟨hp.push o1,g,d,tk,os⟩ Q q2
   wp_walk using i1 _ _ _,i2 _ _ _
   exact ⟨_,Z,h⟩
section
variable {prog:Program} {w:World} {A:Around} {E:VS} {s:Shared} {it t:Addr} {i:Nat} {items:Array Value} {Q:VS}
theorem JB {x:Value} (hit:s.heap.IsTupleIter it t i) (ht:s.heap.IsTuple t items) (hx:items[i]?=some x) (hQ:∀h',h'.IsTupleIter it t (i+1)->Heap.SameBut it s.heap h'->Q x { s with heap:=h' }):wpAny (model prog w) A (Builtin.SmallTypes.nextOf (.ref it)) Q E s:=by
 obtain ⟨o,ho,hc,hd⟩:=id hit;obtain ⟨ol,fD,_,nl,hdl⟩:=ht;unfold Builtin.SmallTypes.nextOf
 refine ay (wJ (name:=Str.ofString "__next__") hit.typeIs LH (wN LH hit.typeIs F.entry_tuple_iterator_next ?_ (F.args_tuple_iterator_next_1 _)))
 show wpAny _ _ (field (.ref it) 0 >>= _) _ _ s;refine ay (lF ho hd (x:= .ref t) rfl ?_);show wpAny _ _ (if (Value.ref t==Value.none)=true then _ else _) _ _ s
 rw [az (fun z=>eX z:¬ ((Value.ref t==Value.none)=true))];show wpAny _ _ (field (.ref it) 1 >>= _) _ _ s
 refine ay (lF ho hd (x:= .int i 0) rfl ?_);show wpAny _ _ (seqItems? (.ref t) >>= _) _ _ s;refine ay (sV fD hdl ?_);simp only [rA,hx]
 refine ay (yd ho hd (by simp) (aS ⟨x,Z,aS (hQ _ ?_ (B9 ..))⟩));refine ⟨_,LO _ ho (Obj.isFreed_of_fields (Ca hd _)),(Obj.cls_mapFields ..).trans hc,?_⟩;rw [Ca hd];simp [rawInt]
theorem MF (hh:A.handled=none) (hit:s.heap.IsTupleIter it t i) (ht:s.heap.IsTuple t items) (hx:items[i]?=none) (hE:∀h' e,Heap.ExtBut it s.heap h'->(∃o,h'.get? e=some o/\o.cls = .type "StopIteration")->E (.ref e) { s with heap:=h' }):wpAny (model prog w) A (Builtin.SmallTypes.nextOf (.ref it)) Q E s:=by
 obtain ⟨o,ho,hc,hd⟩:=id hit;obtain ⟨ol,fD,_,nl,hdl⟩:=ht;unfold Builtin.SmallTypes.nextOf
 refine ay (wJ (name:=Str.ofString "__next__") hit.typeIs LH (wN LH hit.typeIs F.entry_tuple_iterator_next ?_ (F.args_tuple_iterator_next_1 _)))
 show wpAny _ _ (field (.ref it) 0 >>= _) _ _ s;refine ay (lF ho hd (x:= .ref t) rfl ?_);show wpAny _ _ (if (Value.ref t==Value.none)=true then _ else _) _ _ s
 rw [az (fun z=>eX z:¬ ((Value.ref t==Value.none)=true))];show wpAny _ _ (field (.ref it) 1 >>= _) _ _ s
 refine ay (lF ho hd (x:= .int i 0) rfl ?_);show wpAny _ _ (seqItems? (.ref t) >>= _) _ _ s;refine ay (sV fD hdl ?_);simp only [rA,hx]
 refine ay (wpAny_rule (ay (yd ho hd (by simp) ?_)));show wpAny _ _ (newExc (.type "StopIteration") [] >>= _) _ _ _;refine ay ?_;simp only [newExc,newTuple]
 refine ay (uY ?_ (by size_fits));refine ay (m:=firstArgMember _ _) (wpAny_of_eq (a:=Value.none) (by first|rfl|(simp only [firstArgMember];rfl)) ?_);refine uY ?_ (by size_fits);simp only [raiseNew]
 refine ay (wpAny_handled ?_);first|rw [show A.in1.handled=none from hh]|rw [hh]
 refine ay (aS (wpAny_throw ?_));exact hE _ _ (((B9 ..).extBut.push _).push _) ⟨_,dP _ rfl,Z⟩
end
theorem TL {w:World} {l:Addr}:xg P w K (fun H=>cO K H l xs) xs it l (fun i h=>h.IsTupleIter it l i) (fun h=>∃its:List Value,Vals xs its/\h.IsTuple l its.toArray) where
 obj:=fun i h ⟨o,e,c,d⟩=>⟨o,e,fun v z=>by rw [d] at z;cases z⟩
 keep:=fun i h h' st k=>st.at k
 tE:=fun h h' ⟨its,r,o,e,q⟩ k=>⟨its,r,o,k o e,q⟩
 DB:=fun X hP hw hK pins σ H s I h=>by
  subst hP hw hK
  obtain ⟨its,rv,p,_⟩:=I.tuple h
  exact ⟨its,rv,p⟩
 item:=fun A i x s Q E st ⟨its,r,hl⟩ hx hQ=>by
  obtain ⟨u,hu,ru⟩:=r.get hx
  exact JB st hl (by simpa using hu) fun h' st' sb=>hQ u h' ru st' sb
 done:=fun A i s Q E hh st ⟨its,r,hl⟩ hx hE=>MF hh st hl (by have:=r.length;simp;omega) hE
section
variable {prog:Program} {w:World} {A:Around} {E:VS} {s:Shared} {K:Type} [DecidableEq K] {knd:KeyKind prog w K}
end
def jO (v d:Addr):HO:= .ext fun h=>h.IsValuesView v d
section
variable {X:Cx}
inductive V2 (Q:VK) (x:V) (H1:Hp):Prop
 | mk  (d kvs:_) (_:x = .ref d) (_:Rd H1 d (.dK kvs)) (_:∀v,H1 v=none->Q (.ref v) (upd H1 v (jO v d)))
def YB (td:TE):TE:=fun σ H Q=>td σ H (V2 Q)
inductive Wk (K:Fg) (H:Hp):V->(Hp->Prop)->List V->Prop
 | lst {l:Addr} {xs:List V}:aF K H l xs->Wk K H (.ref l) (fun H=>aF K H l xs) xs
 | tup {l:Addr} {xs:List V}:cO K H l xs->Wk K H (.ref l) (fun H=>cO K H l xs) xs
 | keys {d:Addr} {o:Obj} {kvs:List (Key×V)}:mL H d o kvs->Wk K H (.ref d) (fun H=>mL H d o kvs) (kvs.map fun p=>kV p.1)
 | vals {v d:Addr} {o:Obj} {kvs:List (Key×V)}:H v=some (jO v d)->mL H d o kvs->Wk K H (.ref v) (fun H=>mL H d o kvs) (kvs.map fun p=>p.2)
theorem Wk.ok {u:V} {S:Hp->Prop} (k:Wk X.K H u S xs) (I:Inv X pins σ H s) (r:RelV u uv):
  S H/\∃(l:Addr) (o:Obj) (p:Heap->Prop),l<s.heap.objs.size/\p s.heap/\(∀h (ob:Obj),p h->p (h.push ob))/\(∀h:Heap,(h.push o).get? h.objs.size=some o)/\Gu X.prog X.w uv o p/\∀it:Addr,∃tn src,xg X.prog X.w X.K S xs it l tn src/\∀h:Heap,h.get? it=some o->tn 0 h:=by
 cases k with
 | @lst l xs hS=>
   cases r
   obtain ⟨its,rv,p,_⟩:=I.list hS
   obtain ⟨ol,fD,_⟩:=id p.isList
   refine ⟨hS,l,_,fun h=>h.IsList l its.toArray,bF fD,p.isList,fun h ob q=>q.push ob,fun h=>dP _ rfl,fun A E s Q q h=>LY q h,fun it=>⟨_,_,QK,fun h e=>⟨_,e,Z,Z⟩⟩⟩
 | @tup l xs hS=>
   cases r
   obtain ⟨its,rv,p,_⟩:=I.tuple hS
   obtain ⟨ol,fD,q0⟩:=id p
   refine ⟨hS,l,_,fun h=>h.IsTuple l its.toArray,bF fD,p,fun h ob ⟨o1,a,b⟩=>⟨o1,bU _ a,b⟩,fun h=>dP _ rfl,fun A E s Q q h=>wpAny_pyIter_tuple q h,fun it=>⟨_,_,TL,fun h e=>⟨_,e,Z,Z⟩⟩⟩
 | @keys d o kvs hz=>
   cases r
   obtain ⟨ho,hl,hsys,vs,ep,rel,da⟩:=I.pG hz
   obtain ⟨o',es,h1,_,h2,_⟩:=id da
   rw [ho] at h1;cases h1
   have el:kvs.length=vs.length:=rel.length
   refine ⟨hz,d,_,fun h=>h.DictAt (cA X.prog X.w) d vs ep,bF ho,da,fun h ob q=>q.push ob,fun h=>dP _ rfl,fun A E s Q q h=>wpAny_pyIter_dict hsys q h,fun it=>⟨_,_,QL h2,fun h e=>?_⟩⟩
   rw [el]
   exact ⟨_,e,Z,Z⟩
 | @vals v d o kvs hv hz=>
   cases r
   obtain ⟨ho,hl,hsys,vs,ep,rel,da⟩:=I.pG hz
   obtain ⟨o',es,h1,_,h2,_⟩:=id da
   rw [ho] at h1;cases h1
   have el:kvs.length=vs.length:=rel.length
   obtain ⟨hv',_⟩:=(show dS X.prog X.w H s.heap v (jO v d) from I.hok v _ hv)
   refine ⟨hz,d,_,fun h=>h.IsValuesView v d/\h.DictAt (cA X.prog X.w) d vs ep,bF ho,⟨hv',da⟩,fun h ob ⟨⟨o1,a,b⟩,q⟩=>⟨⟨o1,bU _ a,b⟩,q.push ob⟩,fun h=>dP _ rfl,fun A E s Q q h=>wpAny_pyIter_values q.1 q.2 h,fun it=>⟨_,_,QM h2,fun h e=>?_⟩⟩
   rw [el]
   exact ⟨_,e,Z,Z⟩
variable {elts:List Expr} {kk:Nat} {tpos:Pos}
inductive V3 (K:Fg) (R:It->Hp->Prop) (vs:List V) (H1:Hp):Prop
 | mk  (u1 u2 S1 S2 xs ys:_) (_:vs=[u1,u2]) (_:Wk K H1 u1 S1 xs) (_:Wk K H1 u2 S2 ys) (_:R (V1 S1 S2 xs ys:_) H1)
def YC (K:Fg) (ta:TA):TI:=fun σ H R=>ta σ H (V3 K R)
theorem DE (hc:X.calm=true):iA X (.builtin "sum") (fun xs H Q=>∃(v d:Addr) (kvs:List (Key×V)) (ns:List Int),xs=[.ref v]/\H v=some (jO v d)/\Rd H d (.dK kvs)/\kvs.map (·.2)=ns.map V.int/\Q (.int ns.sum) H):=by
 intro pins s σ H xs us Q I r h
 obtain ⟨v,d,kvs,ns,rfl,hv,hz,en,q⟩:=h
 obtain ⟨u,rfl,ru⟩:=vals1 r
 cases ru
 obtain ⟨_,hsys,vs,rel,dd⟩:=qS I.hok hz
 obtain ⟨ep,da⟩:=dd.dictAt
 obtain ⟨hv',_⟩:=(show dS X.prog X.w H s.heap v (jO v d) from I.hok v _ hv)
 have hl:kvs.length=vs.length:=rel.length
 have hlt:=da.lt_size
 have hne:d≠s.heap.objs.size:=ef hlt
 have W:=(Walks.dictValues (prog:=X.prog) (w:=X.w) (A:=X.A.in1) (knd:=cA X.prog X.w) (I.ok.hd hc) s.heap.objs.size d hne vs ep).toS
 have AH:kvs.length=ns.length:=by have:=kG List.length en;simpa using this
 refine call_sum_walkAnyS (wpAny_pyIter_values hv' da ?_)
 refine ⟨s.heap.objs.size,_,_,_,_,_,_,fun i=>ns.getD i 0,Z,W,⟨⟨_,dP _ rfl,Z,Z⟩,da.push _⟩,fun b hb=>?_,fun i x hP=>?_,fun s' t' hm=>?_⟩
 . rcases c8.mp hb with rfl|hb
   . exact bF (dP _ rfl)
   . obtain rfl:=fT.mp hb
     exact (da.push _).lt_size
 . obtain ⟨k,hk⟩:=hP
   have hil:i<ns.length:=by
    have:=(c_.mp hk).1
    omega
   have hik:i<kvs.length:=by omega
   obtain ⟨q',hq',_,rq⟩:=w6 rel (bB hik)
   rw [hk] at hq'
   cases hq'
   have e1:kvs[i].2=V.int (ns.getD i 0):=by
    have:=kG (fun l=>l[i]?) en
    simp only [b_,bB hik,bB hil] at this
    rw [jJ,bB hil]
    exact eV this
   rw [e1] at rq
   exact rq
 . obtain ⟨h',g',d',tk',os'⟩:=s'
   have e1:g'=s.gens:=hm.gens
   have e2:d'=s.drawn:=hm.drawn
   have e3:os'=s.os:=hm.os
   subst e1 e2 e3
   have hsz:vs.length=ns.length:=by omega
   rw [hsz,preSum_getD,List.take_of_length_le (aK _)]
   exact ⟨.int ns.sum,H,I.kept (h':=h') (t':=tk') fun b o e=>hm.heap b o (fun hb=>absurd (bF e) ((fT.mp hb)▸iW _)) (bU _ e),⟨t',Z⟩,q⟩
end
def dH:St->List Nat->List V->St
 | σ,k::ks,v::vs=>dH (σ.set k (some v)) ks vs
 | σ,_,_=>σ
theorem AR {k:Nat} {v:Option V}:∀{ks:List Nat} {vs:List V} {σ:St},k∉ks->(dH σ ks vs).set k v=dH (σ.set k v) ks vs
 | [],_,_,_=>by unfold dH;rfl
 | _::_,[],_,_=>by unfold dH;rfl
 | j::ks,w::vs,σ,h=>by
   have hj:k≠j:=fun e=>h (by rw [e];exact dg)
   show (dH (σ.set j (some w)) ks vs).set k v=dH ((σ.set k v).set j (some w)) ks vs
   rw [AR (fun m=>h (cK _ m)),List.set_comm _ _ hj]
theorem rK:∀{ks:List Nat} {vs ws:List V} {σ:St},ks.Nodup->vs.length=ks.length->ws.length=ks.length->dH (dH σ ks vs) ks ws=dH σ ks ws
 | [],[],[],_,_,_,_=>rfl
 | k::ks,v::vs,w::ws,σ,nd,h1,h2=>by
   have nk:=(fU.mp nd).1
   show dH ((dH (σ.set k (some v)) ks vs).set k (some w)) ks ws=dH (σ.set k (some w)) ks ws
   rw [AR nk,sX,rK (fU.mp nd).2 (by simpa using h1) (by simpa using h2)]
def R5:List Nat->Ag
 | []=>UZ
 | k::ks=>RO (qR k) (R5 ks)
theorem Gv {Q:St->Hp->Prop} {H:Hp}:∀{ks:List Nat} {vs:List V} {σ:St},vs.length=ks.length->Q (dH σ ks vs) H->R5 ks vs σ H Q
 | [],[],_,_,q=>⟨Z,q⟩
 | k::ks,v::vs,σ,h,q=>⟨v,vs,Z,Gv (by simpa using h) q⟩
theorem uI {n:Nat} (ks:List Nat) {Q:VK} (Pv:Nat->List V->Hp->Prop) (nd:ks.Nodup) (hn:n<=100000) (h0:Pv 0 [] (upd H acc (.lst [])))
  (hgo:∀i out H1,i<n->H1 acc=some (.lst out)->Pv i out H1->J.go i H1) (hst:∀out H1,H1 acc=some (.lst out)->Pv n out H1->J.stop n H1)
  (hs:∀(i:Nat) (x:V) (out:List V) (H1 H2:Hp),i<n->out.length=i->H1 acc=some (.lst out)->Pv i out H1->J.Ah i H1 x H2->
    ∃t vs,x = .ref t/\cO K H2 t vs/\vs.length=ks.length/\te (dH σ2 ks vs) H2 (vj Pv i acc out))
  (hd:∀(out:List V) (H1:Hp),out.length=n->H1 acc=some (.lst out)->Pv n out H1->Q (.ref acc) H1):
  AB J (yX K ks.length (R5 ks)) te acc σ2 H Q:=by
 refine ⟨fun i m σ' H'=>m=n-i/\i<=n/\(∀ws,ws.length=ks.length->dH σ' ks ws=dH σ2 ks ws)/\∃out,out.length=i/\H' acc=some (.lst out)/\Pv i out H',⟨n,by simp,gH _,fun _ _=>rfl,[],Z,ah,h0⟩,?_⟩
 rintro i m σ' H' ⟨rfl,hi,hσ,out,ho,ha,p⟩
 by_cases hlt:i<n
 . refine .inr ⟨hgo i out H' hlt ha p,fun σ3=>∀ws,ws.length=ks.length->dH σ3 ks ws=dH σ2 ks ws,(vj Pv i acc out),fun σ3 v H4 hS ⟨a,b⟩=>?_,fun x H1 y=>?_⟩
   . refine ⟨out,a,?_,n-(i+1),by omega,Z,hlt,hS,out++[v],by rw [cT,ho];rfl,ah,b⟩
     have:sizeLine=16777216:=ji
     omega
   . obtain ⟨t,vs,rfl,sq,hl,q⟩:=hs i x out H' H1 hlt ho ha p y
     refine ⟨t,vs,Z,sq,hl,Gv hl ⟨fun ws hw=>?_,?_⟩⟩
     . rw [rK nd hl hw];exact hσ ws hw
     . rw [hσ vs hl];exact q
 . have e:i=n:=by omega
   subst e
   exact .inl ⟨hst out H' ha p,hd out H' ho ha p⟩
theorem TM {n:Nat} (ks:List Nat) {Q:VK} (Pv:Nat->List V->Hp->Prop) (nd:ks.Nodup) (hn:n<=100000) (h0:Pv 0 [] (upd H acc (.lst [])))
  (hgo:∀i out H1,i<n->H1 acc=some (.lst out)->Pv i out H1->J.go i H1) (hst:∀out H1,H1 acc=some (.lst out)->Pv n out H1->J.stop n H1)
  (hs:∀(i:Nat) (x:V) (out:List V) (H1 H2:Hp),i<n->out.length<=i->H1 acc=some (.lst out)->Pv i out H1->J.Ah i H1 x H2->
    ∃t vs,x = .ref t/\cO K H2 t vs/\vs.length=ks.length/\tc (dH σ2 ks vs) H2 (RX te (dH σ2 ks vs) Pv i acc out))
  (hd:∀(out:List V) (H1:Hp),out.length<=n->H1 acc=some (.lst out)->Pv n out H1->Q (.ref acc) H1):
  AM J (yX K ks.length (R5 ks)) tc te acc σ2 H Q:=by
 refine ⟨fun i m σ' H'=>m=n-i/\i<=n/\(∀ws,ws.length=ks.length->dH σ' ks ws=dH σ2 ks ws)/\∃out,out.length<=i/\H' acc=some (.lst out)/\Pv i out H',⟨n,by simp,gH _,fun _ _=>rfl,[],aK _,ah,h0⟩,?_⟩
 rintro i m σ' H' ⟨rfl,hi,hσ,out,ho,ha,p⟩
 by_cases hlt:i<n
 . refine .inr ⟨hgo i out H' hlt ha p,fun σ3=>∀ws,ws.length=ks.length->dH σ3 ks ws=dH σ2 ks ws,(vj Pv i acc out),fun H3=>H3 acc=some (.lst out)/\Pv (i+1) out H3,fun σ3 v H4 hS ⟨a,b⟩=>?_,fun σ3 H4 hS ⟨a,b⟩=>?_,fun x H1 y=>?_⟩
   . refine ⟨out,a,?_,n-(i+1),by omega,Z,hlt,hS,out++[v],by rw [cT];exact Nat.succ_le_succ ho,ah,b⟩
     have:sizeLine=16777216:=ji
     omega
   . exact ⟨n-(i+1),by omega,Z,hlt,hS,out,by omega,a,b⟩
   . obtain ⟨t,vs,rfl,sq,hl,q⟩:=hs i x out H' H1 hlt ho ha p y
     refine ⟨t,vs,Z,sq,hl,Gv hl ⟨fun ws hw=>?_,?_⟩⟩
     . rw [rK nd hl hw];exact hσ ws hw
     . rw [hσ vs hl];exact q
 . have e:i=n:=by omega
   subst e
   exact .inl ⟨hst out H' ha p,hd out H' ho ha p⟩
theorem ng {n:Nat} (k:Nat) {Q:VK} (Pv:Nat->List V->Hp->Prop) (hn:n<=100000) (h0:Pv 0 [] (upd H acc (.lst [])))
  (hgo:∀i out H1,i<n->H1 acc=some (.lst out)->Pv i out H1->J.go i H1) (hst:∀out H1,H1 acc=some (.lst out)->Pv n out H1->J.stop n H1)
  (hs:∀(i:Nat) (x:V) (out:List V) (H1 H2:Hp),i<n->out.length=i->H1 acc=some (.lst out)->Pv i out H1->J.Ah i H1 x H2->
    te (σ2.set k (some x)) H2 (vj Pv i acc out))
  (hd:∀(out:List V) (H1:Hp),out.length=n->H1 acc=some (.lst out)->Pv n out H1->Q (.ref acc) H1):
  AB J (qR k) te acc σ2 H Q:=by
 refine ⟨fun i m σ' H'=>m=n-i/\i<=n/\(∀w:Option V,σ'.set k w=σ2.set k w)/\∃out,out.length=i/\H' acc=some (.lst out)/\Pv i out H',⟨n,by simp,gH _,fun _=>rfl,[],Z,ah,h0⟩,?_⟩
 rintro i m σ' H' ⟨rfl,hi,hσ,out,ho,ha,p⟩
 by_cases hlt:i<n
 . refine .inr ⟨hgo i out H' hlt ha p,fun σ3=>∀w:Option V,σ3.set k w=σ2.set k w,(vj Pv i acc out),fun σ3 v H4 hS ⟨a,b⟩=>?_,fun x H1 y=>?_⟩
   . refine ⟨out,a,?_,n-(i+1),by omega,Z,hlt,hS,out++[v],by rw [cT,ho];rfl,ah,b⟩
     have:sizeLine=16777216:=ji
     omega
   . refine ⟨fun w=>by rw [sX];exact hσ w,?_⟩
     rw [hσ]
     exact hs i x out H' H1 hlt ho ha p y
 . have e:i=n:=by omega
   subst e
   exact .inl ⟨hst out H' ha p,hd out H' ho ha p⟩
theorem TN {n:Nat} (k:Nat) {Q:VK} (Pv:Nat->List V->Hp->Prop) (hn:n<=100000) (h0:Pv 0 [] (upd H acc (.lst [])))
  (hgo:∀i out H1,i<n->H1 acc=some (.lst out)->Pv i out H1->J.go i H1) (hst:∀out H1,H1 acc=some (.lst out)->Pv n out H1->J.stop n H1)
  (hs:∀(i:Nat) (x:V) (out:List V) (H1 H2:Hp),i<n->out.length<=i->H1 acc=some (.lst out)->Pv i out H1->J.Ah i H1 x H2->
    tc (σ2.set k (some x)) H2 (RX te (σ2.set k (some x)) Pv i acc out))
  (hd:∀(out:List V) (H1:Hp),out.length<=n->H1 acc=some (.lst out)->Pv n out H1->Q (.ref acc) H1):
  AM J (qR k) tc te acc σ2 H Q:=by
 refine ⟨fun i m σ' H'=>m=n-i/\i<=n/\(∀w:Option V,σ'.set k w=σ2.set k w)/\∃out,out.length<=i/\H' acc=some (.lst out)/\Pv i out H',⟨n,by simp,gH _,fun _=>rfl,[],aK _,ah,h0⟩,?_⟩
 rintro i m σ' H' ⟨rfl,hi,hσ,out,ho,ha,p⟩
 by_cases hlt:i<n
 . refine .inr ⟨hgo i out H' hlt ha p,fun σ3=>∀w:Option V,σ3.set k w=σ2.set k w,(vj Pv i acc out),fun H3=>H3 acc=some (.lst out)/\Pv (i+1) out H3,fun σ3 v H4 hS ⟨a,b⟩=>?_,fun σ3 H4 hS ⟨a,b⟩=>?_,fun x H1 y=>?_⟩
   . refine ⟨out,a,?_,n-(i+1),by omega,Z,hlt,hS,out++[v],by rw [cT];exact Nat.succ_le_succ ho,ah,b⟩
     have:sizeLine=16777216:=ji
     omega
   . exact ⟨n-(i+1),by omega,Z,hlt,hS,out,by omega,a,b⟩
   . refine ⟨fun w=>by rw [sX];exact hσ w,?_⟩
     rw [hσ]
     exact hs i x out H' H1 hlt ho ha p y
 . have e:i=n:=by omega
   subst e
   exact .inl ⟨hst out H' ha p,hd out H' ho ha p⟩
structure Mn (P:Program) (w:World) (K:Fg) (mg:SO) (base:Heap) (k:Nat) (C:Addr) (m:Str) (ps:List Str) (sp:Sp):Prop where
 ex:∃f fd,iC P w K mg base qO k f fd ps sp/\Binds K fd ps []/\Meth K C m f/\m7 K C
structure Cn (P:Program) (w:World) (K:Fg) (mg:SO) (base:Heap) (k:Nat) (x:Str) (C:Addr) (ps:List Str) (sp:Sp):Prop where
 ex:∃f fd,iC P w K mg base qO k f fd ps sp/\Binds K fd ps []/\Mk K C f/\mg x=some (.ref C)
section
variable {X:Cx}
inductive YD (x:V) (y:V) (H:Hp) (Q:VK):Prop
 | mk  (i j:_) (_:x = .int i) (_:y = .int j) (_:Mu i j) (_:Q (.int (i*j)) H)
theorem TQ:FQ X .Mult YD:=by
 rintro pins s σ H x y u v Q I rx ry ⟨i,j,rfl,rfl,⟨m,n,h1,h2,h3⟩,q⟩
 obtain ⟨t,rfl⟩:=(show ∃t,u=Value.int i t from rx)
 obtain ⟨t',rfl⟩:=(show ∃t',v=Value.int j t' from ry)
 exact PyProof.Rows.imul_int ⟨.int (i*j),H,I.tok _,⟨_,Z⟩,q⟩ (IntMulOk.of_le (LU.mpr h1) (LU.mpr h2) h3)
end
structure gh (K:Fg) (C:Addr) (m qual:Str) (st:Stmt) (f:Addr) (fd:FuncData):Prop where
 fn:Dy K m qual st f fd
 me:Meth K C m f
 cl:m7 K C
variable {mg:SO} {base:Heap} {C f:Addr} {qual:Str} {fd:FuncData} {N ps:List Str} {sp:Sp}
theorem gh.ok {w:World} {m:Str} {st:Stmt} {k:Nat} (F:gh K C m qual st f fd) (S:aM N ps (aB st)) (len:∀vs H Q E,sp vs H Q E->vs.length=ps.length)
  (hbody:∀(cdv:Value) (A:Around) (outer:List Env) (s:Shared) (H:Hp) (vs:List V) (Q:VK) (E:XK),cW k (A.deeper (envOfC qual (aB st) s.heap.objs.size f cdv))->sp vs H Q E->
    ∃t,oh (b8 qO P w K mg base N qual (aB st) f cdv A outer s H E).yC (bX st) t/\t { nx:=fun _ H'=>Q .bL H',rt:=Q } (start N vs) H)
  (h:∀(kV doc pm:Value) (an:Option Addr) (cdv ct:Value) (us:List Value),us.length=ps.length->bindArgs (PySem.W.fnOf m qual (dF st) (bX st) (aB st) .none kV doc pm an cdv ct) ⟨us,[]⟩=pure (ps.zip us)):
  Mn P w K mg base (k+1) C m ps sp:=⟨f,fd,F.fn.ok S len hbody,F.fn.binds h,F.me,F.cl⟩
structure DF (K:Fg) (mg:SO) (x:Str) (C:Addr) (qual:Str) (st:Stmt) (f:Addr) (fd:FuncData):Prop where
 fn:Dy K "__init__" qual st f fd
 mks:Mk K C f
 name:mg x=some (.ref C)
theorem DF.ok {w:World} {st:Stmt} {k:Nat} (F:DF K mg x C qual st f fd) (S:aM N ps (aB st)) (len:∀vs H Q E,sp vs H Q E->vs.length=ps.length)
  (hbody:∀(cdv:Value) (A:Around) (outer:List Env) (s:Shared) (H:Hp) (vs:List V) (Q:VK) (E:XK),cW k (A.deeper (envOfC qual (aB st) s.heap.objs.size f cdv))->sp vs H Q E->
    ∃t,oh (b8 qO P w K mg base N qual (aB st) f cdv A outer s H E).yC (bX st) t/\t { nx:=fun _ H'=>Q .bL H',rt:=Q } (start N vs) H)
  (h:∀(kV doc pm:Value) (an:Option Addr) (cdv ct:Value) (us:List Value),us.length=ps.length->bindArgs (PySem.W.fnOf "__init__" qual (dF st) (bX st) (aB st) .none kV doc pm an cdv ct) ⟨us,[]⟩=pure (ps.zip us)):
  Cn P w K mg base (k+1) x C ps sp:=⟨f,fd,F.fn.ok S len hbody,F.fn.binds h,F.mks,F.name⟩
abbrev pZ:=Nat×Nat×Str
abbrev dO:=Addr->Option pZ
abbrev col (n t:Nat):Option pZ:=some (n,t,(⟨#[]⟩:Str))
def isTup:HO->Bool
 | .tup _=>true
 | _=>false
def Gh (ρ:dO) (H:Hp):Prop:=∀b c,ρ b=some c->∃o,H b=some o/\isTup o=false
def Fr (n:Nat) (ρ:dO) (H:Hp) (ρ':dO) (H':Hp):Prop:=∀b o,H b=some o->(∀t x,ρ b≠some (n,t,x))->H' b=some o/\ρ' b=ρ b
def cE (ρ:dO) (a:Addr) (c:pZ):dO:=fun b=>if b=a then some c else ρ b
variable {ρ:dO}
theorem c6 {c:pZ}:cE ρ a c a=some c:=aA rfl
variable {b:Addr}
theorem cg {c:pZ} (h:b≠a):cE ρ a c b=ρ b:=az h
def out (ρ:dO) (H:Hp):Hp:=fun b=>if ρ b=none then H b else none
variable {o:HO}
theorem p5 (h:H b=some o) (c:ρ b=none):out ρ H b=some o:=by
 unfold out;rw [aA c];exact h
theorem j6 (h:out ρ H b=some o):H b=some o/\ρ b=none:=by
 unfold out at h
 split at h
 . next c=>exact ⟨h,c⟩
 . cases h
theorem Gh.none (g:Gh ρ H) (h:H b=Option.none):ρ b=Option.none:=by
 cases e:ρ b with
 | none=>rfl
 | some c=>obtain ⟨o,q,_⟩:=g b c e;rw [h] at q;cases q
theorem Gh.tup {ρ:dO} {H:Hp} (g:Gh ρ H) {b:Addr} {xs:List V} (h:H b=some (.tup xs)):ρ b=Option.none:=by
 cases e:ρ b with
 | none=>rfl
 | some c=>obtain ⟨o,q,t⟩:=g b c e;rw [h] at q;cases q;cases t
theorem Gh.same (g:Gh ρ H) (s:aO H H'):Gh ρ H':=fun b c e=>let ⟨o,h,t⟩:=g b c e;⟨o,s b o h,t⟩
theorem Gh.wr (g:Gh ρ H) (t:isTup o=false):Gh ρ (upd H a o):=fun b c e=>by
 by_cases h:b=a
 . rw [h,ah];exact ⟨o,Z,t⟩
 . rw [av h];exact g b c e
theorem Gh.alloc (g:Gh ρ H) (h:H a=Option.none):Gh ρ (upd H a o):=g.same (aE h o)
theorem Gh.color (g:Gh ρ H) {c:pZ} (h:H a=some o) (t:isTup o=false):Gh (cE ρ a c) H:=fun b d e=>by
 by_cases z:b=a
 . rw [z];exact ⟨o,h,t⟩
 . rw [cg z] at e;exact g b d e
theorem Fr.refl {n:Nat}:Fr n ρ H ρ H:=fun _ _ h _=>⟨h,Z⟩
variable {H1 H2:Hp}
theorem Fr.trans {n:Nat} {ρ1 ρ2:dO} (a:Fr n ρ H ρ1 H1) (b:Fr n ρ1 H1 ρ2 H2):Fr n ρ H ρ2 H2:=fun c o h k=>by
 obtain ⟨h1,e1⟩:=a c o h k
 obtain ⟨h2,e2⟩:=b c o h1 (by rw [e1];exact k)
 exact ⟨h2,e2.trans e1⟩
theorem Fr.of_same {n:Nat} (s:aO H H'):Fr n ρ H ρ H':=fun b o h _=>⟨s b o h,Z⟩
theorem Fr.write {n:Nat} (c:ρ a=some (n,t,x)):Fr n ρ H ρ (upd H a o):=fun b u h k=>by
 have:b≠a:=fun e=>k t x (by rw [e];exact c)
 rw [av this];exact ⟨h,Z⟩
theorem Fr.color {n:Nat} {c:pZ} (h:H a=none) (s:aO H H'):Fr n ρ H (cE ρ a c) H':=fun b u e k=>by
 rw [cg (aD e h)];exact ⟨s b u e,Z⟩
variable {ρ':dO}
theorem Fr.out {n:Nat} (f:Fr n ρ H ρ' H'):aO (out ρ H) (out ρ' H'):=fun b o h=>by
 obtain ⟨h1,c⟩:=j6 h
 obtain ⟨h2,e⟩:=f b o h1 (fun t x=>by rw [c];intro z;cases z)
 exact p5 h2 (e.trans c)
theorem ze (s:aO H H'):aO (out ρ H) (out ρ H'):=fun b o h=>by
 obtain ⟨h1,c⟩:=j6 h
 exact p5 (s b o h1) c
structure Pt where
 nm:Str
 ow:Str
 wo:Int
 we:Int
 sc:Int
 row:List Int
structure p6 where
 nm:Str
 ow:Str
 wo:Int
 sh:List (Str×Rat)
structure HS where
 own:List Str
 ak:List Pt
 c7:List p6
 nms:List Str
 stp:List Int
 prod:Int
 kn:Nat
 bq:List Int
 bO:List Int
structure HA where
 a:Addr
 dx:Addr
 pl:Addr
 ab:Addr
 as:Addr
 nm:Addr
 bt:Addr
 db:Addr
 cm:Addr
 pu:Addr
 sp:Addr
 kn:Addr
 qs:List (Addr×Addr×Addr)
structure TC where
 hold:Addr
 part:Addr
 bot:Addr
def eY:Nat->List Str->List (Key×V)
 | _,[]=>[]
 | i,o::r=>(Sum.inr o, .int i)::eY (i+1) r
def b7 (ps:List Pt) (qs:List (Addr×Addr×Addr)):List (Key×V):=List.zipWith (fun p q=>((Sum.inr p.nm:Key),V.ref q.1)) ps qs
def xh (l:List Str):List (Key×V):=l.map fun x=>(Sum.inr x, .bl true)
def iS (A:HA):List (Str×V):=[("places", .ref A.pl),("aboard", .ref A.ab),("ashore", .ref A.as),("names", .ref A.nm),("bottom", .ref A.bt),("common", .ref A.cm),("purses", .ref A.pu)]
def cJ (p:Pt) (r:Addr):List (Str×V):=[("name", .str p.nm),("owner", .str p.ow),("worth", .int p.wo),("weight", .int p.we),("scale", .int p.sc),("row", .ref r)]
def vq (sp:Addr) (prod:Int) (kn:Addr):List (Str×V):=[("steps", .ref sp),("product", .int prod),("known", .ref kn)]
def Gw (H:Hp) (kvs:List (Key×V)) (prod:Int):Prop:=∀p∈kvs,∃(t:Int) (r:Addr),p=(Sum.inl t,V.ref r)/\H r=some (t_ (Jm.fr t prod))
inductive gI (H:Hp):List V->List (Str×Rat)->Prop
 | nil:gI H [] []
 | cons {r f:Addr} {x:Str} {q:Rat} {vs:List V} {l:List (Str×Rat)}:H r=some (.tup [.str x, .ref f])->H f=some (t_ q)->gI H vs l->gI H (.ref r::vs) ((x,q)::l)
inductive jP (n:Nat) (ρ:dO) (H:Hp):List V->List p6->Prop
 | nil:jP n ρ H [] []
 | cons {r l:Addr} {x:p6} {ss:List V} {vs:List V} {as:List p6}:H r=some (.tup [.str x.nm, .str x.ow, .int x.wo, .ref l])->H l=some (.lst ss)->ρ l=some (n,30,⟨#[]⟩)->gI H ss x.sh->jP n ρ H vs as->jP n ρ H (.ref r::vs) (x::as)
structure aL (T:TC) (n:Nat) (ρ:dO) (A:HA) (H:Hp) (st:HS):Prop where
 oa:H A.a=some (.ins T.hold A.dx (iS A))
 ca:ρ A.a=col n 0
 gO:H A.pl=some (.dK (eY 0 st.own))
 gP:ρ A.pl=col n 1
 dG:H A.ab=some (.dK (b7 st.ak A.qs))
 fC:ρ A.ab=col n 2
 oj:∃vs,H A.as=some (.lst vs)/\jP n ρ H vs st.c7
 g_:ρ A.as=col n 3
 p7:H A.nm=some (.dK (xh st.nms))
 h_:ρ A.nm=col n 4
 jQ:H A.bt=some (.ins T.bot A.db (vq A.sp st.prod A.kn))
 ia:ρ A.bt=col n 5
 iI:H A.cm=some (.lst (st.bq.map V.int))
 iJ:ρ A.cm=col n 6
 j7:H A.pu=some (.lst (st.bO.map V.int))
 cpu:ρ A.pu=col n 7
 oq:H A.sp=some (.lst (st.stp.map V.int))
 ie:ρ A.sp=col n 8
 okn:∃kvs,H A.kn=some (.dK kvs)/\Gw H kvs st.prod/\kvs.length<=st.kn/\(kvs.map (·.1)).Nodup
 ig:ρ A.kn=col n 9
 ql:A.qs.length=st.ak.length
 opt:∀(i:Nat) (p:Pt) (q:Addr×Addr×Addr),st.ak[i]?=some p->A.qs[i]?=some q->H q.1=some (.ins T.part q.2.1 (cJ p q.2.2))/\H q.2.2=some (.lst (p.row.map V.int))/\ρ q.1=some (n,20,p.nm)/\ρ q.2.2=some (n,21,p.nm)
theorem AS {c d:pZ} (ha:ρ a=some c) (hb:ρ b=some d) (h:c≠d):a≠b:=fun e=>by
 rw [e,hb] at ha;cases ha;exact h rfl
theorem yK {c:pZ} (ha:ρ a=none) (hb:ρ b=some c):a≠b:=fun e=>by rw [e,hb] at ha;cases ha
variable {vs:List V}
theorem gI.mono {l:List (Str×Rat)} (h:gI H vs l) (g:∀b xs,H b=some (.tup xs)->H' b=some (.tup xs)):gI H' vs l:=by
 induction h with
 | nil=>exact .nil
 | cons a b _ ih=>exact .cons (g _ _ a) (g _ _ b) ih
def Kp (n:Nat) (ρ ρ':dO) (H H':Hp) (ts:Nat->Bool):Prop:=(∀b xs,H b=some (.tup xs)->H' b=some (.tup xs))/\∀b t x o,ts t=true->ρ b=some (n,t,x)->H b=some o->H' b=some o/\ρ' b=some (n,t,x)
variable {l:List p6} {ts:Nat->Bool}
theorem jP.keep {n:Nat} (h:jP n ρ H vs l) (k:Kp n ρ ρ' H H' ts) (e:ts 30=true):jP n ρ' H' vs l:=by
 induction h with
 | nil=>exact .nil
 | cons a b c d _ ih=>exact .cons (k.1 _ _ a) (k.2 _ _ _ _ e c b).1 (k.2 _ _ _ _ e c b).2 (d.mono k.1) ih
theorem dW {n:Nat} (g:Gh ρ H) (c:ρ a=some (n,t,x)):Kp n ρ ρ H (upd H a o) (fun u=>decide (u≠t)):=by
 refine ⟨fun b xs h=>?_,fun b u y w hu hc h=>⟨?_,hc⟩⟩
 . rw [av (yK (g.tup h) c)];exact h
 . rw [av (AS hc c (fun e=>by cases e;exact absurd hu (by simp)))];exact h
theorem kz {n:Nat} (k:Kp n ρ ρ' H H' ts) (c:ρ b=some (n,t,x)) (e:H b=some o) (u:ts t=true:=by decide):H' b=some o:=(k.2 b t x o u c e).1
theorem K1 {n:Nat} (s:aO H H'):Kp n ρ ρ H H' ts:=⟨fun b xs h=>s _ _ h,fun b u y w _ hc h=>⟨s _ _ h,hc⟩⟩
variable {T:TC} {A:HA} {st:HS}
theorem aL.same {n:Nat} (h:aL T n ρ A H st) (k:Kp n ρ ρ' H H' fun _=>true):aL T n ρ' A H' st:=by
 have z:=fun {b:Addr} {t:Nat} {x:Str} {o:HO} (c:ρ b=some (n,t,x)) (e:H b=some o)=>k.2 b t x o rfl c e
 obtain ⟨vs,h1,h2⟩:=h.oj
 obtain ⟨kvs,k1,k2,k3⟩:=h.okn
 exact ⟨(z h.ca h.oa).1,(z h.ca h.oa).2,(z h.gP h.gO).1,(z h.gP h.gO).2,(z h.fC h.dG).1,(z h.fC h.dG).2,⟨vs,(z h.g_ h1).1,h2.keep k rfl⟩,(z h.g_ h1).2,(z h.h_ h.p7).1,(z h.h_ h.p7).2,(z h.ia h.jQ).1,(z h.ia h.jQ).2,
  (z h.iJ h.iI).1,(z h.iJ h.iI).2,(z h.cpu h.j7).1,(z h.cpu h.j7).2,(z h.ie h.oq).1,(z h.ie h.oq).2,⟨kvs,(z h.ig k1).1,fun p hp=>let ⟨t,r,e,q⟩:=k2 p hp;⟨t,r,e,k.1 _ _ q⟩,k3⟩,(z h.ig k1).2,h.ql,
  fun i p q e1 e2=>let ⟨a,b,c,d⟩:=h.opt i p q e1 e2;⟨(z c a).1,(z d b).1,(z c a).2,(z d b).2⟩⟩
theorem aL.mono {n:Nat} (h:aL T n ρ A H st) (s:aO H H'):aL T n ρ A H' st:=h.same (K1 s)
theorem aL.other {n:Nat} (h:aL T m ρ A H st) (f:Fr n ρ H ρ' H') (g:Gh ρ H) (e:m≠n):aL T m ρ' A H' st:=
 h.same ⟨fun b xs q=>(f b _ q fun t x=>by rw [g.tup q];intro z;cases z).1,fun b t x o _ c q=>by
   obtain ⟨a,b'⟩:=f b o q fun t' x'=>by rw [c];intro z;cases z;exact e rfl
   exact ⟨a,b'.trans c⟩⟩
variable {r:Addr} {ss:List V}
theorem jP.snoc {n:Nat} {as:List p6} {l:Addr} {x:p6} (h:jP n ρ H vs as) (e1:H r=some (.tup [.str x.nm, .str x.ow, .int x.wo, .ref l])) (e2:H l=some (.lst ss)) (e3:ρ l=some (n,30,⟨#[]⟩)) (e4:gI H ss x.sh):jP n ρ H (vs++[.ref r]) (as++[x]):=by
 induction h with
 | nil=>exact .cons e1 e2 e3 e4 .nil
 | cons a b c d _ ih=>exact .cons a b c d ih
theorem yo {p0 p1:Pt}:∀{ps:List Pt} {qs:List (Addr×Addr×Addr)} {i:Nat},ps[i]?=some p0->p1.nm=p0.nm->b7 (ps.set i p1) qs=b7 ps qs
 | [],_,_,h,_=>by simp at h
 | _::_,[],_,_,_=>by simp [b7]
 | p::ps,q::qs,0,h,e=>by
   have:p=p0:=by simpa using h
   simp [b7,e,this]
 | p::ps,q::qs,i+1,h,e=>by
   have:=yo (qs:=qs) (by simpa using h:ps[i]?=some p0) e
   simp only [b7,FF,B0] at this ⊢
   rw [this]
variable {j:Nat} {p:Pt}
theorem AU {ps:List Pt} (nd:(ps.map (·.nm)).Nodup) {q:Pt} (h1:ps[i]?=some p) (h2:ps[j]?=some q) (e:p.nm=q.nm):i=j:=by
 have a:(ps.map (·.nm))[i]?=some p.nm:=by rw [b_,h1];rfl
 have b:(ps.map (·.nm))[j]?=some p.nm:=by rw [b_,h2,e];rfl
 exact yW nd a b
variable {p0 p1:Pt} {q0:Addr×Addr×Addr}
theorem TR {n:Nat} (h:aL T n ρ A H st) (k:Kp n ρ ρ H H' ts) (nd:(st.ak.map (·.nm)).Nodup) (ep:st.ak[i]?=some p0) (eq:A.qs[i]?=some q0) (e1:p1.nm=p0.nm)
  (hw:H' q0.1=some (.ins T.part q0.2.1 (cJ p1 q0.2.2))) (hs:∀{b:Addr} {t:Nat} {x:Str} {o:HO},ρ b=some (n,t,x)->t≠20\/x≠p0.nm->H b=some o->H' b=some o) (er:(.lst (p0.row.map V.int):HO) = .lst (p1.row.map V.int)):
  ∀(j:Nat) (p:Pt) (q:Addr×Addr×Addr),(st.ak.set i p1)[j]?=some p->A.qs[j]?=some q->H' q.1=some (.ins T.part q.2.1 (cJ p q.2.2))/\H' q.2.2=some (.lst (p.row.map V.int))/\ρ q.1=some (n,20,p.nm)/\ρ q.2.2=some (n,21,p.nm):=by
 intro j p q ej eq'
 by_cases hj:i=j
 . subst hj
   rw [eq] at eq';cases eq'
   rw [ou (c_.mp ep).1] at ej
   cases ej
   obtain ⟨a,b,c,d⟩:=h.opt i p0 q0 ep eq
   exact ⟨hw,by rw [<-er];exact hs d (.inl (by decide)) b,by rw [e1];exact c,by rw [e1];exact d⟩
 . rw [wK hj] at ej
   obtain ⟨a,b,c,d⟩:=h.opt j p q ej eq'
   exact ⟨hs c (.inr fun e=>hj (AU nd ep ej e.symm)) a,hs d (.inl (by decide)) b,c,d⟩
theorem QO {n:Nat} (h:aL T n ρ A H st) (nd:(st.ak.map (·.nm)).Nodup) {l:List Int} (ep:st.ak[i]?=some p0) (eq:A.qs[i]?=some q0)
  (hw:H' q0.2.2=some (.lst (l.map V.int))) (hs:∀{b:Addr} {t:Nat} {x:Str} {o:HO},ρ b=some (n,t,x)->t≠21\/x≠p0.nm->H b=some o->H' b=some o):
  ∀(j:Nat) (p:Pt) (q:Addr×Addr×Addr),(st.ak.set i { p0 with row:=l })[j]?=some p->A.qs[j]?=some q->H' q.1=some (.ins T.part q.2.1 (cJ p q.2.2))/\H' q.2.2=some (.lst (p.row.map V.int))/\ρ q.1=some (n,20,p.nm)/\ρ q.2.2=some (n,21,p.nm):=by
 intro j p q ej eq'
 by_cases hj:i=j
 . subst hj
   rw [eq] at eq';cases eq'
   rw [ou (c_.mp ep).1] at ej
   cases ej
   obtain ⟨a,b,c,d⟩:=h.opt i p0 q0 ep eq
   exact ⟨hs c (.inl (by decide)) a,hw,c,d⟩
 . rw [wK hj] at ej
   obtain ⟨a,b,c,d⟩:=h.opt j p q ej eq'
   exact ⟨hs c (.inl (by decide)) a,hs d (.inr fun e=>hj (AU nd ep ej e.symm)) b,c,d⟩
theorem xj {n:Nat} (c:ρ a=some (n,t,x)):∀{b:Addr} {u:Nat} {y:Str} {w:HO},ρ b=some (n,u,y)->u≠t\/y≠x->H b=some w->upd H a o b=some w:=fun {b u y w} hc hu h=>by
 rw [av (AS hc c (fun e=>by cases e;rcases hu with z|z <;> exact z rfl))];exact h
theorem aL.V4 {n:Nat} (h:aL T n ρ A H st) (g:Gh ρ H) (l:List Str):aL T n ρ A (upd H A.pl (.dK (eY 0 l))) { st with own:=l }:=by
 have k:=dW (o:= .dK (eY 0 l)) g h.gP
 obtain ⟨vs,h1,h2⟩:=h.oj
 obtain ⟨kvs,k1,k2,k3⟩:=h.okn
 exact ⟨kz k h.ca h.oa,h.ca,ah,h.gP,kz k h.fC h.dG,h.fC,⟨vs,kz k h.g_ h1,h2.keep k (by decide)⟩,h.g_,kz k h.h_ h.p7,h.h_,kz k h.ia h.jQ,h.ia,kz k h.iJ h.iI,h.iJ,kz k h.cpu h.j7,h.cpu,kz k h.ie h.oq,h.ie,⟨kvs,kz k h.ig k1,fun p hp=>let ⟨t,r,e,q⟩:=k2 p hp;⟨t,r,e,k.1 _ _ q⟩,k3⟩,h.ig,h.ql,fun i p q e1 e2=>let ⟨a,b,c,d⟩:=h.opt i p q e1 e2;⟨kz k c a,kz k d b,c,d⟩⟩
theorem aL.Gx {n:Nat} (h:aL T n ρ A H st) (g:Gh ρ H) (ps:List Pt) (qs:List (Addr×Addr×Addr)) (el:qs.length=ps.length) (hp:∀(i:Nat) (p:Pt) (q:Addr×Addr×Addr),ps[i]?=some p->qs[i]?=some q->H q.1=some (.ins T.part q.2.1 (cJ p q.2.2))/\H q.2.2=some (.lst (p.row.map V.int))/\ρ q.1=some (n,20,p.nm)/\ρ q.2.2=some (n,21,p.nm)):aL T n ρ { A with qs:=qs } (upd H A.ab (.dK (b7 ps qs))) { st with ak:=ps }:=by
 have k:=dW (o:= .dK (b7 ps qs)) g h.fC
 obtain ⟨vs,h1,h2⟩:=h.oj
 obtain ⟨kvs,k1,k2,k3⟩:=h.okn
 exact ⟨kz k h.ca h.oa,h.ca,kz k h.gP h.gO,h.gP,ah,h.fC,⟨vs,kz k h.g_ h1,h2.keep k (by decide)⟩,h.g_,kz k h.h_ h.p7,h.h_,kz k h.ia h.jQ,h.ia,kz k h.iJ h.iI,h.iJ,kz k h.cpu h.j7,h.cpu,kz k h.ie h.oq,h.ie,⟨kvs,kz k h.ig k1,fun p hp=>let ⟨t,r,e,q⟩:=k2 p hp;⟨t,r,e,k.1 _ _ q⟩,k3⟩,h.ig,el,fun i p q e1 e2=>let ⟨a,b,c,d⟩:=hp i p q e1 e2;⟨kz k c a,kz k d b,c,d⟩⟩
theorem aL.V5 {n:Nat} (h:aL T n ρ A H st) (g:Gh ρ H) {l:Addr} {x:p6} {OC:List V} (hv:H A.as=some (.lst OC)) (e1:H r=some (.tup [.str x.nm, .str x.ow, .int x.wo, .ref l])) (e2:H l=some (.lst ss)) (e3:ρ l=some (n,30,⟨#[]⟩)) (e4:gI H ss x.sh):aL T n ρ A (upd H A.as (.lst (OC++[.ref r]))) { st with c7:=st.c7++[x] }:=by
 have k:=dW (o:= .lst (OC++[.ref r])) g h.g_
 obtain ⟨vs,h1,h2⟩:=h.oj
 obtain ⟨kvs,k1,k2,k3⟩:=h.okn
 exact ⟨kz k h.ca h.oa,h.ca,kz k h.gP h.gO,h.gP,kz k h.fC h.dG,h.fC,⟨_,ah,by rw [hv] at h1;cases h1;exact (h2.keep k (by decide)).snoc (k.1 _ _ e1) (kz k e3 e2) e3 (e4.mono k.1)⟩,h.g_,kz k h.h_ h.p7,h.h_,kz k h.ia h.jQ,h.ia,kz k h.iJ h.iI,h.iJ,kz k h.cpu h.j7,h.cpu,kz k h.ie h.oq,h.ie,⟨kvs,kz k h.ig k1,fun p hp=>let ⟨t,r,e,q⟩:=k2 p hp;⟨t,r,e,k.1 _ _ q⟩,k3⟩,h.ig,h.ql,fun i p q e1 e2=>let ⟨a,b,c,d⟩:=h.opt i p q e1 e2;⟨kz k c a,kz k d b,c,d⟩⟩
theorem aL.V6 {n:Nat} (h:aL T n ρ A H st) (g:Gh ρ H) (l:List Str):aL T n ρ A (upd H A.nm (.dK (xh l))) { st with nms:=l }:=by
 have k:=dW (o:= .dK (xh l)) g h.h_
 obtain ⟨vs,h1,h2⟩:=h.oj
 obtain ⟨kvs,k1,k2,k3⟩:=h.okn
 exact ⟨kz k h.ca h.oa,h.ca,kz k h.gP h.gO,h.gP,kz k h.fC h.dG,h.fC,⟨vs,kz k h.g_ h1,h2.keep k (by decide)⟩,h.g_,ah,h.h_,kz k h.ia h.jQ,h.ia,kz k h.iJ h.iI,h.iJ,kz k h.cpu h.j7,h.cpu,kz k h.ie h.oq,h.ie,⟨kvs,kz k h.ig k1,fun p hp=>let ⟨t,r,e,q⟩:=k2 p hp;⟨t,r,e,k.1 _ _ q⟩,k3⟩,h.ig,h.ql,fun i p q e1 e2=>let ⟨a,b,c,d⟩:=h.opt i p q e1 e2;⟨kz k c a,kz k d b,c,d⟩⟩
theorem aL.V7 {n:Nat} (h:aL T n ρ A H st) (g:Gh ρ H) (l:List Int):aL T n ρ A (upd H A.cm (.lst (l.map V.int))) { st with bq:=l }:=by
 have k:=dW (o:= .lst (l.map V.int)) g h.iJ
 obtain ⟨vs,h1,h2⟩:=h.oj
 obtain ⟨kvs,k1,k2,k3⟩:=h.okn
 exact ⟨kz k h.ca h.oa,h.ca,kz k h.gP h.gO,h.gP,kz k h.fC h.dG,h.fC,⟨vs,kz k h.g_ h1,h2.keep k (by decide)⟩,h.g_,kz k h.h_ h.p7,h.h_,kz k h.ia h.jQ,h.ia,ah,h.iJ,kz k h.cpu h.j7,h.cpu,kz k h.ie h.oq,h.ie,⟨kvs,kz k h.ig k1,fun p hp=>let ⟨t,r,e,q⟩:=k2 p hp;⟨t,r,e,k.1 _ _ q⟩,k3⟩,h.ig,h.ql,fun i p q e1 e2=>let ⟨a,b,c,d⟩:=h.opt i p q e1 e2;⟨kz k c a,kz k d b,c,d⟩⟩
theorem aL.V8 {n:Nat} (h:aL T n ρ A H st) (g:Gh ρ H) (l:List Int):aL T n ρ A (upd H A.pu (.lst (l.map V.int))) { st with bO:=l }:=by
 have k:=dW (o:= .lst (l.map V.int)) g h.cpu
 obtain ⟨vs,h1,h2⟩:=h.oj
 obtain ⟨kvs,k1,k2,k3⟩:=h.okn
 exact ⟨kz k h.ca h.oa,h.ca,kz k h.gP h.gO,h.gP,kz k h.fC h.dG,h.fC,⟨vs,kz k h.g_ h1,h2.keep k (by decide)⟩,h.g_,kz k h.h_ h.p7,h.h_,kz k h.ia h.jQ,h.ia,kz k h.iJ h.iI,h.iJ,ah,h.cpu,kz k h.ie h.oq,h.ie,⟨kvs,kz k h.ig k1,fun p hp=>let ⟨t,r,e,q⟩:=k2 p hp;⟨t,r,e,k.1 _ _ q⟩,k3⟩,h.ig,h.ql,fun i p q e1 e2=>let ⟨a,b,c,d⟩:=h.opt i p q e1 e2;⟨kz k c a,kz k d b,c,d⟩⟩
theorem aL.V9 {n:Nat} (h:aL T n ρ A H st) (g:Gh ρ H) (l:List Int):aL T n ρ A (upd H A.sp (.lst (l.map V.int))) { st with stp:=l }:=by
 have k:=dW (o:= .lst (l.map V.int)) g h.ie
 obtain ⟨vs,h1,h2⟩:=h.oj
 obtain ⟨kvs,k1,k2,k3⟩:=h.okn
 exact ⟨kz k h.ca h.oa,h.ca,kz k h.gP h.gO,h.gP,kz k h.fC h.dG,h.fC,⟨vs,kz k h.g_ h1,h2.keep k (by decide)⟩,h.g_,kz k h.h_ h.p7,h.h_,kz k h.ia h.jQ,h.ia,kz k h.iJ h.iI,h.iJ,kz k h.cpu h.j7,h.cpu,ah,h.ie,⟨kvs,kz k h.ig k1,fun p hp=>let ⟨t,r,e,q⟩:=k2 p hp;⟨t,r,e,k.1 _ _ q⟩,k3⟩,h.ig,h.ql,fun i p q e1 e2=>let ⟨a,b,c,d⟩:=h.opt i p q e1 e2;⟨kz k c a,kz k d b,c,d⟩⟩
theorem aL.V_ {n:Nat} (h:aL T n ρ A H st) (g:Gh ρ H) (q:Addr) (l:List Int) (e:H q=some (.lst (l.map V.int))) (c:ρ q=col n 6):aL T n ρ { A with cm:=q } (upd H A.a (.ins T.hold A.dx (iS { A with cm:=q }))) { st with bq:=l }:=by
 have k:=dW (o:= .ins T.hold A.dx (iS { A with cm:=q })) g h.ca
 obtain ⟨vs,h1,h2⟩:=h.oj
 obtain ⟨kvs,k1,k2,k3⟩:=h.okn
 exact ⟨ah,h.ca,kz k h.gP h.gO,h.gP,kz k h.fC h.dG,h.fC,⟨vs,kz k h.g_ h1,h2.keep k (by decide)⟩,h.g_,kz k h.h_ h.p7,h.h_,kz k h.ia h.jQ,h.ia,kz k c e,c,kz k h.cpu h.j7,h.cpu,kz k h.ie h.oq,h.ie,⟨kvs,kz k h.ig k1,fun p hp=>let ⟨t,r,e,q⟩:=k2 p hp;⟨t,r,e,k.1 _ _ q⟩,k3⟩,h.ig,h.ql,fun i p q e1 e2=>let ⟨a,b,c,d⟩:=h.opt i p q e1 e2;⟨kz k c a,kz k d b,c,d⟩⟩
theorem aL.OD {n:Nat} (h:aL T n ρ A H st) (g:Gh ρ H) (q:Addr) (l:List Int) (e:H q=some (.lst (l.map V.int))) (c:ρ q=col n 7):aL T n ρ { A with pu:=q } (upd H A.a (.ins T.hold A.dx (iS { A with pu:=q }))) { st with bO:=l }:=by
 have k:=dW (o:= .ins T.hold A.dx (iS { A with pu:=q })) g h.ca
 obtain ⟨vs,h1,h2⟩:=h.oj
 obtain ⟨kvs,k1,k2,k3⟩:=h.okn
 exact ⟨ah,h.ca,kz k h.gP h.gO,h.gP,kz k h.fC h.dG,h.fC,⟨vs,kz k h.g_ h1,h2.keep k (by decide)⟩,h.g_,kz k h.h_ h.p7,h.h_,kz k h.ia h.jQ,h.ia,kz k h.iJ h.iI,h.iJ,kz k c e,c,kz k h.ie h.oq,h.ie,⟨kvs,kz k h.ig k1,fun p hp=>let ⟨t,r,e,q⟩:=k2 p hp;⟨t,r,e,k.1 _ _ q⟩,k3⟩,h.ig,h.ql,fun i p q e1 e2=>let ⟨a,b,c,d⟩:=h.opt i p q e1 e2;⟨kz k c a,kz k d b,c,d⟩⟩
theorem aL.Wa {n:Nat} (h:aL T n ρ A H st) (g:Gh ρ H) (m:Int) (q:Addr) (e:H q=some (.dK [])) (c:ρ q=col n 9):aL T n ρ { A with kn:=q } (upd H A.bt (.ins T.bot A.db (vq A.sp m q))) { st with prod:=m,kn:=0 }:=by
 have k:=dW (o:= .ins T.bot A.db (vq A.sp m q)) g h.ia
 obtain ⟨vs,h1,h2⟩:=h.oj
 obtain ⟨kvs,k1,k2,k3⟩:=h.okn
 exact ⟨kz k h.ca h.oa,h.ca,kz k h.gP h.gO,h.gP,kz k h.fC h.dG,h.fC,⟨vs,kz k h.g_ h1,h2.keep k (by decide)⟩,h.g_,kz k h.h_ h.p7,h.h_,ah,h.ia,kz k h.iJ h.iI,h.iJ,kz k h.cpu h.j7,h.cpu,kz k h.ie h.oq,h.ie,⟨[],kz k c e,(fun p hp=>absurd hp (by simp)),aK _,sW⟩,c,h.ql,fun i p q e1 e2=>let ⟨a,b,c,d⟩:=h.opt i p q e1 e2;⟨kz k c a,kz k d b,c,d⟩⟩
theorem aL.ir {n:Nat} (h:aL T n ρ A H st) (g:Gh ρ H) (ep:st.ak[i]?=some p0) (eq:A.qs[i]?=some q0) (e1:p1.nm=p0.nm) (e2:p1.row=p0.row) (nd:(st.ak.map (·.nm)).Nodup):aL T n ρ A (upd H q0.1 (.ins T.part q0.2.1 (cJ p1 q0.2.2))) { st with ak:=st.ak.set i p1 }:=by
 have k:=dW (o:= .ins T.part q0.2.1 (cJ p1 q0.2.2)) g (h.opt i p0 q0 ep eq).2.2.1
 obtain ⟨vs,h1,h2⟩:=h.oj
 obtain ⟨kvs,k1,k2,k3⟩:=h.okn
 exact ⟨kz k h.ca h.oa,h.ca,kz k h.gP h.gO,h.gP,by rw [yo ep e1];exact kz k h.fC h.dG,h.fC,⟨vs,kz k h.g_ h1,h2.keep k (by decide)⟩,h.g_,kz k h.h_ h.p7,h.h_,kz k h.ia h.jQ,h.ia,kz k h.iJ h.iI,h.iJ,kz k h.cpu h.j7,h.cpu,kz k h.ie h.oq,h.ie,⟨kvs,kz k h.ig k1,fun p hp=>let ⟨t,r,e,q⟩:=k2 p hp;⟨t,r,e,k.1 _ _ q⟩,k3⟩,h.ig,by rw [gG];exact h.ql,TR h k nd ep eq e1 ah (xj (h.opt i p0 q0 ep eq).2.2.1) (by rw [e2])⟩
theorem aL.TU {n:Nat} (h:aL T n ρ A H st) (g:Gh ρ H) (l:List Int) (ep:st.ak[i]?=some p0) (eq:A.qs[i]?=some q0) (nd:(st.ak.map (·.nm)).Nodup):aL T n ρ A (upd H q0.2.2 (.lst (l.map V.int))) { st with ak:=st.ak.set i { p0 with row:=l } }:=by
 have k:=dW (o:= .lst (l.map V.int)) g (h.opt i p0 q0 ep eq).2.2.2
 obtain ⟨vs,h1,h2⟩:=h.oj
 obtain ⟨kvs,k1,k2,k3⟩:=h.okn
 exact ⟨kz k h.ca h.oa,h.ca,kz k h.gP h.gO,h.gP,by show _=some (HO.dK (b7 (st.ak.set i { p0 with row:=l }) A.qs));rw [yo (p1:={ p0 with row:=l }) ep rfl];exact kz k h.fC h.dG,h.fC,⟨vs,kz k h.g_ h1,h2.keep k (by decide)⟩,h.g_,kz k h.h_ h.p7,h.h_,kz k h.ia h.jQ,h.ia,kz k h.iJ h.iI,h.iJ,kz k h.cpu h.j7,h.cpu,kz k h.ie h.oq,h.ie,⟨kvs,kz k h.ig k1,fun p hp=>let ⟨t,r,e,q⟩:=k2 p hp;⟨t,r,e,k.1 _ _ q⟩,k3⟩,h.ig,by rw [gG];exact h.ql,QO h nd ep eq ah (xj (h.opt i p0 q0 ep eq).2.2.2)⟩
structure Txt (K:Fg) (T:TC):Prop where
 cH:m7 K T.hold
 cP:m7 K T.part
 cB:m7 K T.bot
 hpl:dU K T.hold "places"
 hab:dU K T.hold "aboard"
 has:dU K T.hold "ashore"
 hnm:dU K T.hold "names"
 xm:dU K T.hold "bottom"
 yL:dU K T.hold "common"
 AV:dU K T.hold "purses"
 OE:dU K T.part "name"
 pow:dU K T.part "owner"
 tF:dU K T.part "worth"
 OF:dU K T.part "weight"
 Gy:dU K T.part "scale"
 K2:dU K T.part "row"
 Wb:dU K T.bot "steps"
 K3:dU K T.bot "product"
 OG:dU K T.bot "known"
structure Wf (st:HS):Prop where
 nh:st.own.Nodup
 vt:st.nms.Nodup
 cX:(st.ak.map (·.nm)).Nodup
 sub:∀p∈st.ak,p.nm∈st.nms
 rows:∀p∈st.ak,p.row.length=st.own.length
 ow:∀p∈st.ak,p.ow∈st.own
 fK:st.bq.length=st.own.length
 oJ:st.bO.length=st.own.length
 fB:1<=st.prod
 pH:st.prod=st.stp.foldl (·*·) 1
 uc:∀s∈st.stp,2<=s
 jk:st.own.length<=100
 vv:st.nms.length<=1000
 nj:st.ak.length<=1000
 xo:st.stp.length<=100
 rL:st.c7.length<=1000
 DG:st.kn<=1000000
 big:Jm.Sz 8000 st.prod
 lZ:∀c∈st.bq,0<=c/\c<=st.prod
 p8:∀p∈st.ak,1<=p.sc/\p.sc<=st.prod
 l7:∀p∈st.ak,∀r∈p.row,-st.prod<=r/\r<=st.prod
 nq:∀p∈st.ak,∀t∈List.zipWith (fun r c=>p.sc*r+c) p.row st.bq,0<=t/\t<=st.prod
 jR:∀p∈st.ak,1<=p.wo/\0<=p.we
 Cp:∀u∈st.bO,Jm.Sz 9000 u
structure HH (T:TC) (n:Nat) (ρ:dO) (A:HA) (H:Hp) (st:HS):Prop where
 g:Gh ρ H
 h:aL T n ρ A H st
 wf:Wf st
def tG (T:TC) (n:Nat) (ρ:dO) (A:HA) (H:Hp) (st:HS) (Q:Hp->Prop):Prop:=∀ρ' A' H',HH T n ρ' A' H' st->A'.a=A.a->Fr n ρ H ρ' H'->Q H'
def hs0:HS:=⟨[],[],[],[],[],1,0,[],[]⟩
theorem ZC:Wf hs0:=by
 refine ⟨sW,sW,sW,?_,?_,?_,Z,Z,?_,Z,?_,?_,?_,?_,?_,?_,?_,?_,?_,?_,?_,?_,?_,?_⟩ <;> first|(intro _ h;exact absurd h (by simp [hs0]))|decide|(show Jm.Sz 8000 1;exact k_ (by decide +kernel))
theorem K4:∀{l:List Str} {i:Nat} {o:Str},o∈l->c5 (eY i l) (Sum.inr o)=some (.int ((i+l.idxOf o:Nat):Int))
 | [],_,_,h=>by simp at h
 | x::l,i,o,h=>by
   by_cases e:x=o
   . subst e
     rw [show eY i (x::l)=(Sum.inr x, .int i)::eY (i+1) l from rfl,fJ rfl]
     simp
   . rw [show eY i (x::l)=(Sum.inr x, .int i)::eY (i+1) l from rfl,dQ (by intro z;exact e (pD z))]
     have hm:o∈l:=by
      rcases c8.mp h with z|z
      . exact absurd z.symm e
      . exact z
     rw [K4 hm]
     have eb:(x==o)=false:=by simpa using e
     have:(x::l).idxOf o=l.idxOf o+1:=by rw [List.idxOf_cons,eb];rfl
     rw [this]
     show some (V.int ((i+1+l.idxOf o:Nat):Int))=some (V.int ((i+(l.idxOf o+1):Nat):Int))
     rw [show i+1+l.idxOf o=i+(l.idxOf o+1) from by omega]
theorem nt:∀{l:List Str} {i:Nat} {o:Str},o∉l->c5 (eY i l) (Sum.inr o)=none
 | [],_,_,_=>rfl
 | x::l,i,o,h=>by
   rw [show eY i (x::l)=(Sum.inr x, .int i)::eY (i+1) l from rfl,dQ (fun z=>h (by rw [<-pD z];exact dg))]
   exact nt fun m=>h (cK _ m)
theorem nu:∀(l:List Str) (i:Nat),(eY i l).length=l.length
 | [],_=>rfl
 | _::l,i=>by rw [show ∀x,eY i (x::l)=(Sum.inr x, .int i)::eY (i+1) l from fun _=>rfl,jL,jL,nu l]
theorem Gz:∀(l:List Str) (i:Nat) (o:Str),eY i (l++[o])=eY i l++[(Sum.inr o, .int ((i+l.length:Nat):Int))]
 | [],i,o=>rfl
 | x::l,i,o=>by
   show (Sum.inr x,V.int i)::eY (i+1) (l++[o])=_
   rw [Gz l (i+1) o]
   show _=(Sum.inr x,V.int i)::(eY (i+1) l++_)
   rw [jL,show i+1+l.length=i+(l.length+1) from by omega]
theorem GA:∀(l:List Str) (i:Nat),(eY i l).map (fun p=>kV p.1)=l.map V.str
 | [],_=>rfl
 | x::l,i=>by
   show kV (Sum.inr x)::(eY (i+1) l).map _=V.str x::l.map V.str
   rw [GA l]
   rfl
variable {qs:List (Addr×Addr×Addr)}
theorem uJ {ps:List Pt} {q:Addr×Addr×Addr} (h1:ps[i]?=some p) (h2:qs[i]?=some q):(b7 ps qs)[i]?=some (Sum.inr p.nm, .ref q.1):=by
 unfold b7
 rw [LQ,h1,h2]
theorem uK {ps:List Pt} (h:qs.length=ps.length):(b7 ps qs).length=ps.length:=by
 unfold b7
 rw [jY,h,u7]
theorem qX:∀{ps:List Pt} {qs:List (Addr×Addr×Addr)} {i:Nat} {p:Pt} {q:Addr×Addr×Addr},(ps.map (·.nm)).Nodup->ps[i]?=some p->qs[i]?=some q->c5 (b7 ps qs) (Sum.inr p.nm)=some (.ref q.1)
 | [],_,_,_,_,_,h,_=>by simp at h
 | _::_,[],_,_,_,_,_,h=>by simp at h
 | a::ps,b::qs,0,p,q,_,h1,h2=>by
   have e1:a=p:=by simpa using h1
   have e2:b=q:=by simpa using h2
   subst e1 e2
   exact fJ rfl
 | a::ps,b::qs,i+1,p,q,nd,h1,h2=>by
   have ZD:=fU.mp (show (a.nm::ps.map (·.nm)).Nodup from nd)
   have AW:ps[i]?=some p:=by simpa using h1
   rw [show b7 (a::ps) (b::qs)=(Sum.inr a.nm, .ref b.1)::b7 ps qs from rfl,dQ (fun z=>ZD.1 (bJ.mpr ⟨p,bR AW,(pD z).symm⟩))]
   exact qX ZD.2 AW (by simpa using h2)
theorem rM:∀{ps:List Pt} {qs:List (Addr×Addr×Addr)} {x:Str},(∀p∈ps,p.nm≠x)->c5 (b7 ps qs) (Sum.inr x)=none
 | [],_,_,_=>rfl
 | _::_,[],_,_=>rfl
 | a::ps,b::qs,x,h=>by
   rw [show b7 (a::ps) (b::qs)=(Sum.inr a.nm, .ref b.1)::b7 ps qs from rfl,dQ (fun z=>h a dg (pD z))]
   exact rM fun p hp=>h p (cK _ hp)
theorem QS {ps:List Pt} (h:qs.length=ps.length) (p:Pt) (q:Addr×Addr×Addr):b7 (ps++[p]) (qs++[q])=b7 ps qs++[(Sum.inr p.nm, .ref q.1)] :=by
 unfold b7
 rw [List.zipWith_append h.symm]
 rfl
theorem xq {l:List Str} (h:x∉l):c5 (xh l) (Sum.inr x)=none:=by
 unfold xh
 induction l with
 | nil=>rfl
 | cons a l ih=>
   rw [cj,dQ (fun z=>h (by rw [<-pD z];exact dg))]
   exact ih fun m=>h (cK _ m)
theorem GB {l:List Str} (h:x∈l):c5 (xh l) (Sum.inr x)=some (.bl true):=by
 unfold xh
 induction l with
 | nil=>simp at h
 | cons a l ih=>
   rw [cj]
   by_cases e:a=x
   . exact fJ (by rw [e])
   . rw [dQ (fun z=>e (pD z))]
     exact ih ((c8.mp h).resolve_left fun z=>e z.symm)
theorem aL.find {n:Nat} (h:aL T n ρ A H st) (e:st.ak[i]?=some p):∃q,A.qs[i]?=some q/\H q.1=some (.ins T.part q.2.1 (cJ p q.2.2))/\H q.2.2=some (.lst (p.row.map V.int))/\ρ q.1=some (n,20,p.nm)/\ρ q.2.2=some (n,21,p.nm):=by
 have hi:i<A.qs.length:=by rw [h.ql];exact (c_.mp e).1
 exact ⟨A.qs[i],bB hi,h.opt i p _ e (bB hi)⟩
def fV (st:HS) (o:Str):HS:={ st with own:=st.own++[o],bq:=st.bq++[0],bO:=st.bO++[0],ak:=st.ak.map fun p=>{ p with row:=p.row++[0] } }
def bf (st:HS) (p:Pt):List Int:=List.zipWith (fun r c=>p.sc*r+c) p.row st.bq
def j8 (st:HS) (tops:List Int):List Int:=List.zipWith (fun t c=>t-c) tops st.bq
def AX (st:HS) (p:Pt):HS:={ st with ak:=st.ak++[p],nms:=st.nms++[p.nm] }
def Fo (st:HS) (x o:Str) (wo we:Int):HS:=AX st ⟨x,o,wo,we,1,j8 st ((List.replicate st.own.length 0).set (st.own.idxOf o) st.prod)⟩
def aY (st:HS):Int:=(st.ak.map (·.wo)).sum
def p_ (st:HS) (p:Pt):List (Str×Rat):=(List.zip st.own (bf st p)).filterMap fun x=>if 0<x.2 then some (x.1,Jm.fr x.2 st.prod) else none
def AY (p:Pt):HO:= .tup [.str p.nm, .str p.ow, .int p.wo, .int p.we]
inductive jl (H:Hp):List V->List Pt->Prop
 | nil:jl H [] []
 | cons {r:Addr} {p:Pt} {vs:List V} {ps:List Pt}:H r=some (AY p)->jl H vs ps->jl H (.ref r::vs) (p::ps)
def GD (n:Nat) (q1 q2:Addr) (ρ:dO) (H:Hp) (ρ':dO) (H':Hp):Prop:=∀b o,H b=some o->(∀t x,ρ b≠some (n,t,x))->b≠q1->b≠q2->H' b=some o/\ρ' b=ρ b
theorem GD.trans {n:Nat} {ρ1 ρ2:dO} (a:GD n q1 q2 ρ H ρ1 H1) (b:Fr n ρ1 H1 ρ2 H2):GD n q1 q2 ρ H ρ2 H2:=fun c o h k x y=>by
 obtain ⟨h1,e1⟩:=a c o h k x y
 obtain ⟨h2,e2⟩:=b c o h1 (by rw [e1];exact k)
 exact ⟨h2,e2.trans e1⟩
theorem GD.fr {n:Nat} {ρ1 ρ2:dO} (b:GD n q1 q2 ρ1 H1 ρ2 H2) (a:Fr n ρ H ρ1 H1) (h1:H q1=none) (h2:H q2=none):Fr n ρ H ρ2 H2:=fun c o h k=>by
 obtain ⟨e1,e2⟩:=a c o h k
 obtain ⟨e3,e4⟩:=b c o e1 (by rw [e2];exact k) (aD h h1) (aD h h2)
 exact ⟨e3,e4.trans e2⟩
def isNm (o:Str):Bool:=isName o.cps.toList
inductive Wc (T:TC) (vs:List V) (H:Hp) (Q:VK) (E:XK):Prop
 | mk (p dx:_) (_:vs=[.ref p]) (_:H p=some (.ins T.bot dx [])) (_:∀sp kn H',H sp=none->H kn=none->sp≠kn->(∀b o,H b=some o->b≠p->H' b=some o)->H' p=some (.ins T.bot dx (vq sp 1 kn))->H' sp=some (.lst [])->H' kn=some (.dK [])->Q .bL H')
def K5 (T:TC):Sp:=bx (Wc T)
inductive Wd (T:TC) (K:Fg) (vs:List V) (H:Hp) (Q:VK) (E:XK):Prop
 | mk (p dx l:Addr) (pt:Pt) (_:vs=[.ref p, .str pt.nm, .str pt.ow, .int pt.wo, .int pt.we, .int pt.sc, .ref l]) (_:H p=some (.ins T.part dx [])) (_:aF K H l (pt.row.map V.int)) (_:∀r H',H r=none->(∀b o,H b=some o->b≠p->H' b=some o)->H' p=some (.ins T.part dx (cJ pt r))->H' r=some (.lst (pt.row.map V.int))->Q .bL H')
def Cq (T:TC) (K:Fg):Sp:=bx (Wd T K)
inductive We (T:TC) (vs:List V) (H:Hp) (Q:VK) (E:XK):Prop
 | mk (p dx ρ n:_) (_:vs=[.ref p]) (_:H p=some (.ins T.hold dx [])) (_:Gh ρ H) (_:ρ p=none) (_:∀ρ' A H',A.a=p->HH T n ρ' A H' hs0->(∀b o,H b=some o->b≠p->H' b=some o/\ρ' b=ρ b)->Q .bL H')
def K6 (T:TC):Sp:=bx (We T)
inductive Wg (T:TC) (vs:List V) (H:Hp) (Q:VK) (E:XK):Prop
 | mk (n ρ A st o:_) (_:vs=[.ref A.a, .str o]) (_:aL T n ρ A H st) (_:o∈st.own) (_:Q (.int (st.own.idxOf o:Int)) H)
def Cr (T:TC):Sp:=bx (Wg T)
inductive TV (T:TC) (vs:List V) (H:Hp) (Q:VK) (E:XK):Prop
 | mk (n ρ A st:_) (i:Nat) (p:Pt) (q:Addr×Addr×Addr) (_:vs=[.ref A.a, .str p.nm]) (_:aL T n ρ A H st) (_:(st.ak.map (·.nm)).Nodup) (_:st.ak[i]?=some p) (_:A.qs[i]?=some q) (_:Q (.ref q.1) H)
def zf (T:TC):Sp:=bx (TV T)
inductive OH (T:TC) (vs:List V) (H:Hp) (Q:VK) (E:XK):Prop
 | mk (n ρ A st x:_) (_:vs=[.ref A.a, .str x]) (_:aL T n ρ A H st) (_:isNm x=true) (_:x∉st.nms) (_:∀H',aO H H'->Q .bL H')
def AZ (T:TC):Sp:=bx (OH T)
inductive abv (T:TC) (K:Fg) (vs:List V) (H:Hp) (Q:VK) (E:XK):Prop
 | mk (n ρ A st l:_) (tops:List Int) (_:vs=[.ref A.a, .ref l]) (_:aL T n ρ A H st) (_:aF K H l (tops.map V.int)) (_:tops.length=st.bq.length) (_:tops.length<=1000) (_:∀r H',aO H H'->H r=none->H' r=some (.lst ((j8 st tops).map V.int))->Q (.ref r) H')
def MG (T:TC) (K:Fg):Sp:=bx (abv T K)
inductive Wh (T:TC) (vs:List V) (H:Hp) (Q:VK) (E:XK):Prop
 | mk (n ρ A st:_) (i:Nat) (p:Pt) (q:Addr×Addr×Addr) (_:vs=[.ref A.a, .ref q.1]) (_:aL T n ρ A H st) (_:Wf st) (_:st.ak[i]?=some p) (_:A.qs[i]?=some q) (_:∀r H',aO H H'->H r=none->H' r=some (.lst ((bf st p).map V.int))->Q (.ref r) H')
def yp (T:TC):Sp:=bx (Wh T)
inductive YE (T:TC) (vs:List V) (H:Hp) (Q:VK) (E:XK):Prop
 | mk (n ρ A st:_) (q:Addr×Addr×Addr) (p:Pt) (_:vs=[.ref A.a, .ref q.1]) (_:HH T n ρ A H st) (_:H q.1=some (.ins T.part q.2.1 (cJ p q.2.2))) (_:H q.2.2=some (.lst (p.row.map V.int))) (_:ρ q.1=none) (_:ρ q.2.2=none) (_:p.nm∉st.nms) (_:Wf (AX st p)) (_:∀ρ' A' H',HH T n ρ' A' H' (AX st p:_)->A'.a=A.a->GD n q.1 q.2.2 ρ H ρ' H'->Q .bL H')
def GF (T:TC):Sp:=bx (YE T)
inductive Wi (T:TC) (vs:List V) (H:Hp) (Q:VK) (E:XK):Prop
 | mk (n ρ A st o:_) (_:vs=[.ref A.a, .str o]) (_:HH T n ρ A H st) (_:isNm o=true) (_:o∉st.own) (_:st.own.length<100) (_:tG T n ρ A H (fV st o:_) fun H'=>Q .bL H')
def Cs (T:TC):Sp:=bx (Wi T)
inductive YF (T:TC) (vs:List V) (H:Hp) (Q:VK) (E:XK):Prop
 | mk (n ρ A st x o wo we:_) (_:vs=[.ref A.a, .str x, .str o, .int wo, .int we]) (_:HH T n ρ A H st) (_:isNm x=true) (_:x∉st.nms) (_:o∈st.own) (_:1<=wo) (_:0<=we) (_:st.nms.length<1000) (_:st.ak.length<1000) (_:tG T n ρ A H (Fo st x o wo we:_) fun H'=>Q .bL H')
def OI (T:TC):Sp:=bx (YF T)
inductive Wj (T:TC) (vs:List V) (H:Hp) (Q:VK) (E:XK):Prop
 | mk (n ρ A st:_) (_:vs=[.ref A.a]) (_:aL T n ρ A H st) (_:st.ak.length<=1000) (_:∀r ws H',aO H H'->H r=none->H' r=some (.lst ws)->jl H' ws st.ak->Q (.ref r) H')
def K7 (T:TC):Sp:=bx (Wj T)
inductive Wl (T:TC) (vs:List V) (H:Hp) (Q:VK) (E:XK):Prop
 | mk (n ρ A st:_) (_:vs=[.ref A.a]) (_:aL T n ρ A H st) (_:st.ak.length<=1000) (_:∀H',aO H H'->Q (.int (aY st)) H')
def Ct (T:TC):Sp:=bx (Wl T)
inductive Wm (T:TC) (vs:List V) (H:Hp) (Q:VK) (E:XK):Prop
 | mk (bt db sp kn:Addr) (stp:List Int) (prod top:Int) (_:vs=[.ref bt, .int top]) (_:H bt=some (.ins T.bot db (vq sp prod kn))) (_:H sp=some (.lst (stp.map V.int))) (_:prod=stp.foldl (·*·) 1) (_:(∀s∈stp,2<=s)) (_:Jm.Sz 8000 prod) (_:∀r H',aO H H'->H' r=some (t_ (Jm.fr top prod))->Q (.ref r) H')
def K8 (T:TC):Sp:=bx (Wm T)
inductive TY (T:TC) (vs:List V) (H:Hp) (Q:VK) (E:XK):Prop
 | mk (bt db sp kn:Addr) (stp:List Int) (prod top:Int) (kvs:List (Key×V)) (_:vs=[.ref bt, .int top]) (_:H bt=some (.ins T.bot db (vq sp prod kn))) (_:H sp=some (.lst (stp.map V.int))) (_:prod=stp.foldl (·*·) 1) (_:(∀s∈stp,2<=s)) (_:Jm.Sz 8000 prod) (_:H kn=some (.dK kvs)) (_:Gw H kvs prod) (_:kvs.length<10000000) (_:(kvs.map (·.1)).Nodup) (_:∀r H' kvs',(∀b o,H b=some o->b≠kn->H' b=some o)->H' kn=some (.dK kvs')->Gw H' kvs' prod->kvs'.length<=kvs.length+1->(kvs'.map (·.1)).Nodup->H' r=some (t_ (Jm.fr top prod))->Q (.ref r) H')
def GG (T:TC):Sp:=bx (TY T)
inductive nv (ρ:dO) (H:Hp):List V->List p6->Prop
 | nil:nv ρ H [] []
 | cons {r l:Addr} {x:p6} {ss:List V} {vs:List V} {as:List p6}:H r=some (.tup [.str x.nm, .str x.ow, .int x.wo, .ref l])->H l=some (.lst ss)->ρ l=none->gI H ss x.sh->nv ρ H vs as->nv ρ H (.ref r::vs) (x::as)
inductive TZ (T:TC) (vs:List V) (H:Hp) (Q:VK) (E:XK):Prop
 | mk (n ρ A st:_) (_:vs=[.ref A.a]) (_:HH T n ρ A H st) (_:∀r ws H',aO H H'->H r=none->H' r=some (.lst ws)->nv ρ H' ws st.c7->Q (.ref r) H')
def GH (T:TC):Sp:=bx (TZ T)
theorem jl.mono {l:List Pt} (h:jl H vs l) (g:∀b xs,H b=some (.tup xs)->H' b=some (.tup xs)):jl H' vs l:=by
 induction h with
 | nil=>exact .nil
 | cons a _ ih=>exact .cons (g _ _ a) ih
theorem jl.snoc {l:List Pt} (h:jl H vs l) (e:H r=some (AY p)):jl H (vs++[.ref r]) (l++[p]):=by
 induction h with
 | nil=>exact .cons e .nil
 | cons a _ ih=>exact .cons a ih
theorem gI.snoc {l:List (Str×Rat)} {q:Rat} (h:gI H vs l) (e:H r=some (.tup [.str x, .ref f])) (e2:H f=some (t_ q)):gI H (vs++[.ref r]) (l++[(x,q)]):=by
 induction h with
 | nil=>exact .cons e e2 .nil
 | cons a b _ ih=>exact .cons a b ih
theorem i9 {p:Addr} (h:H p=none\/∃u,H p=some u/\isTup u=false):∀b xs,H b=some (.tup xs)->upd H p o b=some (.tup xs):=fun b xs e=>by
 rw [av (fun z=>?_)]
 . exact e
 . rw [z] at e
   rcases h with h|⟨u,h,t⟩
   . rw [h] at e;cases e
   . rw [h] at e;cases e;cases t
theorem GI (h:isNm x=true):x.cps.toList.length<=100000:=by
 unfold isNm isName at h
 have:=aV (lX.mp (lX.mp h).1).2
 omega
theorem rN {d:Addr} {o:Obj} (e:H d=some (.dK kvs)) (s:aO (upd H d (.fk o (.dK kvs))) H1):aO H (upd H1 d (.dK kvs)):=fun b u q=>by
 by_cases h:b=d
 . rw [h,e] at q;cases q;rw [h];exact ah
 . rw [av h];exact s b u (by rw [av h];exact q)
theorem dX {d:Addr} {o:Obj} {u:HO} (e:H d=some (.dK kvs)) (q:H b=some u) (h:∀k,u ≠ .dK k):upd H d (.fk o (.dK kvs)) b=some u:=by
 rw [av (fun z=>by rw [z,e] at q;cases q;exact h _ rfl)];exact q
theorem l9 {d:Addr} {o:Obj} (e:H d=some (.dK kvs)) (q:upd H d (.fk o (.dK kvs)) b=none):H b=none:=by
 by_cases h:b=d
 . rw [h,ah] at q;cases q
 . rw [av h] at q;exact q
theorem aO.tups (s:aO H H'):∀b xs,H b=some (.tup xs)->H' b=some (.tup xs):=fun b xs h=>s b _ h
theorem take_snoc {α:Type} {l:List α} {x:α} (h:l[i]?=some x):l.take (i+1)=l.take i++[x] :=by rw [List.take_add_one,h];rfl
theorem qa {α β γ:Type} (f:α->β->γ) {xs:List α} {ys:List β} {x:α} {y:β} (h1:xs[i]?=some x) (h2:ys[i]?=some y):List.zipWith f (xs.take (i+1)) (ys.take (i+1))=List.zipWith f (xs.take i) (ys.take i)++[f x y] :=by
 have l1:=(c_.mp h1).1
 have l2:=(c_.mp h2).1
 rw [take_snoc h1,take_snoc h2,List.zipWith_append (by rw [qi,qi];omega)]
 rfl
theorem fm {l:List Int} {v:V} (h:(l.map V.int)[i]?=some v):∃z,v = .int z/\l[i]?=some z:=by
 rw [b_] at h
 obtain ⟨z,hz,rfl⟩:=mU.mp h
 exact ⟨z,Z,hz⟩
theorem HH.mono {n:Nat} (h:HH T n ρ A H st) (s:aO H H'):HH T n ρ A H' st:=⟨h.g.same s,h.h.mono s,h.wf⟩
theorem A0 {n:Nat} {u:HO} (c:ρ a=none) (h:H a=some u) (t:isTup u=false):Kp n ρ ρ H (upd H a o) ts:=
 ⟨i9 (.inr ⟨u,h,t⟩),fun b x y w _ hc e=>⟨by rw [av (fun z=>by rw [z,c] at hc;cases hc)];exact e,hc⟩⟩
theorem HH.A1 {n:Nat} {u:HO} (h:HH T n ρ A H st) (c:ρ a=none) (e:H a=some u) (t:isTup u=false) (t2:isTup o=false):HH T n ρ A (upd H a o) st:=⟨h.g.wr t2,h.h.same (A0 c e t),h.wf⟩
theorem Fr.new {n:Nat} (f:Fr n ρ H ρ' H') (h:H a=none):Fr n ρ H ρ' (upd H' a o):=fun b u e k=>by
 rw [av (aD e h)];exact f b u e k
theorem DH {α β γ:Type} (f:α->β->γ) {xs:List α} {ys:List β} (h:xs.length=ys.length) (x:α) (y:β):List.zipWith f (xs++[x]) (ys++[y])=List.zipWith f xs ys++[f x y] :=by
 rw [List.zipWith_append h];rfl
theorem Cu (w:Wf st) {o:Str} (h:o∉st.own) (hl:st.own.length<100):Wf (fV st o):=by
 have P:∀p∈(fV st o).ak,∃p0∈st.ak,p={ p0 with row:=p0.row++[0] }:=fun p hp=>by
  obtain ⟨p0,h0,rfl⟩:=bJ.mp (show p∈st.ak.map _ from hp)
  exact ⟨p0,h0,Z⟩
 have p1:=w.fB
 refine ⟨?_,w.vt,?_,fun p hp=>?_,fun p hp=>?_,fun p hp=>?_,?_,?_,w.fB,w.pH,w.uc,?_,w.vv,?_,w.xo,w.rL,w.DG,w.big,fun c hc=>?_,fun p hp=>?_,fun p hp r hr=>?_,fun p hp t ht=>?_,fun p hp=>?_,fun u hu=>?_⟩
 . exact mK w.nh h
 . show ((st.ak.map fun p=>{ p with row:=p.row++[0] }).map (·.nm)).Nodup
   rw [iy]
   exact w.cX
 . obtain ⟨p0,h0,rfl⟩:=P p hp
   exact w.sub p0 h0
 . obtain ⟨p0,h0,rfl⟩:=P p hp
   show (p0.row++[0]).length=(st.own++[o]).length
   rw [cT,cT,w.rows p0 h0]
   rfl
 . obtain ⟨p0,h0,rfl⟩:=P p hp
   exact B4 _ (w.ow p0 h0)
 . show (st.bq++[0]).length=(st.own++[o]).length
   rw [cT,cT,w.fK]
   rfl
 . show (st.bO++[0]).length=(st.own++[o]).length
   rw [cT,cT,w.oJ]
   rfl
 . show (st.own++[o]).length<=100
   rw [cT]
   exact hl
 . show (st.ak.map _).length<=1000
   rw [aC]
   exact w.nj
 . rcases fZ.mp (show c∈st.bq++[0] from hc) with z|z
   . exact w.lZ c z
   . rw [fT.mp z];exact ⟨kF _,by show (0:Int)<=st.prod;omega⟩
 . obtain ⟨p0,h0,rfl⟩:=P p hp
   exact w.p8 p0 h0
 . obtain ⟨p0,h0,rfl⟩:=P p hp
   rcases fZ.mp (show r∈p0.row++[0] from hr) with z|z
   . exact w.l7 p0 h0 r z
   . rw [fT.mp z];show -st.prod<=0/\0<=st.prod;omega
 . obtain ⟨p0,h0,rfl⟩:=P p hp
   have el:p0.row.length=st.bq.length:=by rw [w.rows p0 h0,w.fK]
   have ht:t∈List.zipWith (fun r c=>p0.sc*r+c) (p0.row++[0]) (st.bq++[0]):=ht
   rw [DH _ el _ _] at ht
   rcases fZ.mp ht with z|z
   . exact w.nq p0 h0 t z
   . rw [fT.mp z];show 0<=p0.sc*0+0/\p0.sc*0+0<=st.prod;omega
 . obtain ⟨p0,h0,rfl⟩:=P p hp
   exact w.jR p0 h0
 . rcases fZ.mp (show u∈st.bO++[0] from hu) with z|z
   . exact w.Cp u z
   . rw [fT.mp z];exact k_ (by decide +kernel)
theorem K9 (w:Wf st) (h1:p.nm∉st.nms) (h2:st.nms.length<1000) (h3:st.ak.length<1000) (h4:p.row.length=st.own.length) (h5:p.ow∈st.own) (h6:1<=p.sc/\p.sc<=st.prod) (h7:∀r∈p.row,-st.prod<=r/\r<=st.prod)
  (h8:∀t∈List.zipWith (fun r c=>p.sc*r+c) p.row st.bq,0<=t/\t<=st.prod) (h9:1<=p.wo/\0<=p.we):Wf (AX st p):=by
 have P:∀{M:Pt->Prop},(∀x∈st.ak,M x)->M p->∀x∈st.ak++[p],M x:=fun a b x hx=>by
  rcases fZ.mp hx with z|z
  . exact a x z
  . rw [fT.mp z];exact b
 refine ⟨w.nh,mK w.vt h1,?_,P (fun x hx=>B4 _ (w.sub x hx)) (iQ _ (fT.mpr rfl)),P w.rows h4,P w.ow h5,w.fK,w.oJ,w.fB,w.pH,w.uc,w.jk,?_,?_,w.xo,w.rL,w.DG,w.big,w.lZ,P w.p8 h6,P w.l7 h7,P w.nq h8,P w.jR h9,w.Cp⟩
 . show ((st.ak++[p]).map (·.nm)).Nodup
   rw [bQ]
   refine mK w.cX fun m=>?_
   obtain ⟨x,hx,e⟩:=bJ.mp m
   have e:x.nm=p.nm:=e
   exact h1 (by rw [<-e];exact w.sub x hx)
 . show (st.nms++[p.nm]).length<=1000
   rw [cT];exact h2
 . show (st.ak++[p]).length<=1000
   rw [cT];exact h3
theorem rO {α β γ:Type} {f:α->β->γ} {t:γ}:∀{xs:List α} {ys:List β},t∈List.zipWith f xs ys->∃x∈xs,∃y∈ys,t=f x y
 | [],_,h=>by simp at h
 | _::_,[],h=>by simp at h
 | x::xs,y::ys,h=>by
   rcases c8.mp (show t∈f x y::List.zipWith f xs ys from h) with e|m
   . exact ⟨x,dg,y,dg,e⟩
   . obtain ⟨a,ha,b,hb,e⟩:=rO m
     exact ⟨a,cK _ ha,b,cK _ hb,e⟩
theorem GJ:∀{ts cs:List Int},List.zipWith (fun r c=>1*r+c) (List.zipWith (fun t c=>t-c) ts cs) cs=ts.take cs.length
 | [],_=>by simp
 | _::_,[]=>by simp
 | t::ts,c::cs=>by
   show (1*(t-c)+c)::List.zipWith _ (List.zipWith _ ts cs) cs=t::ts.take cs.length
   rw [GJ]
   congr 1
   omega
theorem A3 {n:Nat} {b t:Int} (h:t∈(List.replicate n 0).set i b):t=0\/t=b:=by
 rcases LJ h with z|z
 . exact .inl (List.eq_of_mem_replicate z)
 . exact .inr z
variable {wo we:Int}
theorem K_ (w:Wf st) {o:Str} (h1:x∉st.nms) (h2:st.nms.length<1000) (h3:st.ak.length<1000) (ho:o∈st.own) (h4:1<=wo) (h5:0<=we):Wf (Fo st x o wo we):=by
 have p1:=w.fB
 refine K9 w h1 h2 h3 ?_ ho ⟨kF 1,w.fB⟩ (fun r hr=>?_) (fun t ht=>?_) ⟨h4,h5⟩
 . show (List.zipWith _ ((List.replicate st.own.length 0).set _ _) st.bq).length=_
   rw [jY,gG,mV,w.fK,u7]
 . obtain ⟨t,ht,c,hc,rfl⟩:=rO (show r∈List.zipWith _ _ st.bq from hr)
   have:=w.lZ c hc
   rcases A3 ht with rfl|rfl <;> omega
 . have e:List.zipWith (fun r c=>1*r+c) (j8 st ((List.replicate st.own.length 0).set (st.own.idxOf o) st.prod)) st.bq=_:=GJ
   have ht:t∈List.zipWith (fun r c=>1*r+c) (j8 st ((List.replicate st.own.length 0).set (st.own.idxOf o) st.prod)) st.bq:=ht
   rw [e] at ht
   rcases A3 (List.mem_of_mem_take ht) with rfl|rfl <;> omega
theorem jm {u:HO} (h:a≠b):upd (upd H a o) b u=upd (upd H b u) a o:=by
 funext c
 unfold upd
 by_cases e1:c=b
 . rw [aA e1,az (fun z=>h (z.symm.trans e1)),aA e1]
 . rw [az e1]
   by_cases e2:c=a
   . rw [aA e2,aA e2]
   . rw [az e2,az e2,az e1]
theorem vz (h:H a=some o):upd H a o=H:=by
 funext c
 unfold upd
 by_cases e:c=a
 . rw [aA e,e,h]
 . rw [az e]
theorem GK {α:Type} (g:α->α) {l:List α} {p:α} (h:l[i]?=some p):((l.take i).map g++l.drop i)[i]?=some p:=by
 have hi:=(c_.mp h).1
 have e:((l.take i).map g).length=i:=by rw [aC,qi];omega
 rw [Fv (by omega),e,Af,List.getElem?_drop]
 exact h
theorem GL {α:Type} (g:α->α) {l:List α} {p:α} (h:l[i]?=some p):((l.take i).map g++l.drop i).set i (g p)=(l.take (i+1)).map g++l.drop (i+1):=by
 have hi:=(c_.mp h).1
 have e:((l.take i).map g).length=i:=by rw [aC,qi];omega
 have ep:l[i]=p:=by rw [bB hi] at h;exact eV h
 rw [List.set_append_right _ _ (by omega),e,Af,List.drop_eq_getElem_cons hi,LW,take_snoc h,bQ,L1]
 rfl
theorem oK {α β:Type} (g:α->α) (f:α->β) (hf:∀x,f (g x)=f x) (l:List α) (i:Nat):((l.take i).map g++l.drop i).map f=l.map f:=by
 rw [bQ,iy,show f ∘ g=f from funext hf,<-bQ,List.take_append_drop]
theorem mO {ps ps':List Pt} (h:ps.map (·.nm)=ps'.map (·.nm)):b7 ps qs=b7 ps' qs:=by
 have:∀{ps:List Pt},b7 ps qs=List.zipWith (fun (x:Str) q=>((Sum.inr x:Key),V.ref q.1)) (ps.map (·.nm)) qs:=fun {ps}=>by unfold b7;rw [List.zipWith_map_left]
 rw [this,this,h]
structure iK (p:Addr) (H:Hp) (ρ:dO) (H':Hp) (ρ':dO) (l:List (Addr×HO×pZ)):Prop where
 m:∀e∈l,H' e.1=some e.2.1/\ρ' e.1=some e.2.2/\e.1≠p
 k:∀b o,H b=some o->b≠p->H' b=some o/\ρ' b=ρ b
 g:Gh ρ' H'
 pp:∃u,H' p=some u
theorem iK.new {p:Addr} {l:List (Addr×HO×pZ)} {c:pZ} (h:iK p H ρ H' ρ' l) (ha:H' a=none) (t:isTup o=false):iK p H ρ (upd H' a o) (cE ρ' a c) ((a,o,c)::l):=by
 obtain ⟨u,hu⟩:=h.pp
 refine ⟨fun e he=>?_,fun b w hb hp=>?_,(h.g.alloc ha).color ah t,u,by rw [av (aD hu ha)];exact hu⟩
 . rcases c8.mp he with rfl|he
   . exact ⟨ah,c6,fun z=>by rw [show a=p from z,hu] at ha;cases ha⟩
   . obtain ⟨x,y,z⟩:=h.m e he
     have:e.1≠a:=aD x ha
     rw [av this,cg this]
     exact ⟨x,y,z⟩
 . obtain ⟨x,y⟩:=h.k b w hb hp
   have:b≠a:=aD x ha
   rw [av this,cg this]
   exact ⟨x,y⟩
theorem iK.wr {p:Addr} {l:List (Addr×HO×pZ)} {u:HO} (h:iK p H ρ H' ρ' l) (t:isTup u=false):iK p H ρ (upd H' p u) ρ' l:=by
 refine ⟨fun e he=>?_,fun b w hb hp=>?_,h.g.wr t,u,ah⟩
 . obtain ⟨x,y,z⟩:=h.m e he
   rw [av z];exact ⟨x,y,z⟩
 . obtain ⟨x,y⟩:=h.k b w hb hp
   rw [av hp];exact ⟨x,y⟩
theorem iK.same {p:Addr} {A_:Hp} {l:List (Addr×HO×pZ)} (h:iK p H ρ H' ρ' l) (s:aO H' A_):iK p H ρ A_ ρ' l:=by
 obtain ⟨u,hu⟩:=h.pp
 exact ⟨fun e he=>let ⟨x,y,z⟩:=h.m e he;⟨s _ _ x,y,z⟩,fun b w hb hp=>let ⟨x,y⟩:=h.k b w hb hp;⟨s _ _ x,y⟩,h.g.same s,u,s _ _ hu⟩
theorem iK.add {p:Addr} {H0:Hp} {ρ0:dO} {l l0:List (Addr×HO×pZ)} {c:pZ} (h:iK p H ρ H' ρ' l) (ha:H' a=some o) (t:isTup o=false) (h0:iK p H ρ H0 ρ0 l0) (hn:H0 a=none) (hl:∀e∈l,e.1≠a):iK p H ρ H' (cE ρ' a c) ((a,o,c)::l):=by
 refine ⟨fun e he=>?_,fun b w hb hp=>?_,h.g.color ha t,h.pp⟩
 . rcases c8.mp he with rfl|he
   . obtain ⟨u,hu⟩:=h0.pp
     exact ⟨ha,c6,fun z=>by rw [show a=p from z,hu] at hn;cases hn⟩
   . obtain ⟨x,y,z⟩:=h.m e he
     rw [cg (hl e he)]
     exact ⟨x,y,z⟩
 . obtain ⟨x,y⟩:=h.k b w hb hp
   obtain ⟨x0,_⟩:=h0.k b w hb hp
   rw [cg (aD x0 hn)]
   exact ⟨x,y⟩
theorem GN:∀(l:List Int) (a:Int),l.foldl (·*·) a=a*l.foldl (·*·) 1
 | [],a=>by simp
 | s::l,a=>by
   rw [iV,GN l (a*s),iV,GN l (1*s),Int.one_mul,iX]
theorem Cv (s:Int) (l:List Int):(s::l).foldl (·*·) 1=s*l.foldl (·*·) 1:=by rw [iV,GN,Int.one_mul]
theorem T3 (s:Int) (l:List Int):(l++[s]).foldl (·*·) 1=l.foldl (·*·) 1*s:=by rw [Cd];rfl
theorem GO:∀{l:List Int},(∀s∈l,2<=s)->1<=l.foldl (·*·) 1
 | [],_=>by decide
 | s::l,h=>by
   rw [Cv]
   have h1:=h s dg
   have h2:=GO (l:=l) fun x hx=>h x (cK _ hx)
   have:=Int.mul_le_mul (a:=1) (b:=1) (c:=s) (d:=l.foldl (·*·) 1) (by omega) h2 (by decide) (by omega)
   omega
theorem R6:∀{l:List Int} {s:Int},(∀s∈l,2<=s)->s∈l->s<=l.foldl (·*·) 1
 | [],_,_,h=>by simp at h
 | a::l,s,h,m=>by
   rw [Cv]
   have h1:=h a dg
   have h2:=GO (l:=l) fun x hx=>h x (cK _ hx)
   rcases c8.mp m with rfl|m
   . have:=Fq h2 (by omega:0<=s)
     omega
   . have h3:=R6 (fun x hx=>h x (cK _ hx)) m
     have:=KC (by omega:1<=a) (by omega:0<=l.foldl (·*·) 1)
     omega
theorem OJ {t d s:Int} (hd:0<d) (hs:0<s) (c:Jm.cf t d=1):Jm.cf (t / Jm.cf t s) (d*(s / Jm.cf t s))=1/\0<d*(s / Jm.cf t s):=by
 have gp:0<Jm.cf t s:=Jm.Ay t s (.inr hs)
 obtain ⟨u,hu⟩:=Jm.t9 t s
 obtain ⟨v,hv⟩:=Jm.j0 t s
 generalize eg:Jm.cf t s=g at *
 have e1:t / g=u:=by rw [hu,BZ _ (by omega)]
 have e2:s / g=v:=by rw [hv,BZ _ (by omega)]
 have vp:0<v:=by
  rcases Int.lt_or_le 0 v with z|z
  . exact z
  . have:=Fq z (by omega:0<=g)
    omega
 rw [e1,e2]
 have c0:Nat.Coprime t.natAbs d.natAbs:=by unfold Jm.cf at c;exact_mod_cast c
 have c1:Nat.Coprime u.natAbs d.natAbs:=Nat.Coprime.coprime_dvd_left ⟨g.natAbs,by rw [hu,z7,Nat.mul_comm]⟩ c0
 have c2:Nat.Coprime u.natAbs v.natAbs:=by
  have hg:Int.gcd t s=g.natAbs:=by unfold Jm.cf at eg;omega
  have ZE:Nat.gcd t.natAbs s.natAbs=g.natAbs:=hg
  have:=Nat.coprime_div_gcd_div_gcd (m:=t.natAbs) (n:=s.natAbs) (by rw [ZE];omega)
  rw [ZE] at this
  have gn:0<g.natAbs:=by omega
  rw [hu,hv,z7,z7,Nat.mul_div_cancel_left _ gn,Nat.mul_div_cancel_left _ gn] at this
  exact this
 refine ⟨?_,Int.mul_pos hd vp⟩
 have:=Nat.Coprime.mul_right c1 c2
 rw [<-z7] at this
 unfold Jm.cf
 exact_mod_cast this
theorem QT {κ:Type} [DecidableEq κ] {kvs:List (κ×V)} {k:κ} {v:V} (h:c5 kvs k=some v):(k,v)∈kvs:=by
 unfold c5 at h
 obtain ⟨p,hp,rfl⟩:=mU.mp h
 have:=List.find?_some hp
 have e:p.1=k:=aV this
 rw [<-e]
 exact List.mem_of_find?_eq_some hp
theorem aL.QU {n:Nat} (h:aL T n ρ A H st) (k:∀b o,H b=some o->b≠A.kn->H' b=some o) (e1:H' A.kn=some (.dK kvs)) (e2:Gw H' kvs st.prod) (e3:kvs.length<=m) (e4:(kvs.map (·.1)).Nodup):aL T n ρ A H' { st with kn:=m }:=by
 obtain ⟨kv0,k0,_⟩:=h.okn
 have z:=fun {b:Addr} {t:Nat} {x:Str} {o:HO} (u:t≠9) (c:ρ b=some (n,t,x)) (e:H b=some o)=>k b o e (AS c h.ig (fun w=>by cases w;exact u rfl))
 have tp:∀b xs,H b=some (.tup xs)->H' b=some (.tup xs):=fun b xs e=>k b _ e (iz e k0 (by intro w;cases w))
 obtain ⟨vs,h1,h2⟩:=h.oj
 have kp:Kp n ρ ρ H H' fun t=>decide (t≠9):=⟨tp,fun b t x o u c e=>⟨z (aV u) c e,c⟩⟩
 exact ⟨z (by decide) h.ca h.oa,h.ca,z (by decide) h.gP h.gO,h.gP,z (by decide) h.fC h.dG,h.fC,⟨vs,z (by decide) h.g_ h1,h2.keep kp (by decide)⟩,h.g_,z (by decide) h.h_ h.p7,h.h_,z (by decide) h.ia h.jQ,h.ia,z (by decide) h.iJ h.iI,h.iJ,z (by decide) h.cpu h.j7,h.cpu,z (by decide) h.ie h.oq,h.ie,⟨kvs,e1,e2,e3,e4⟩,h.ig,h.ql,
  fun i p q a b=>let ⟨x,y,c,d⟩:=h.opt i p q a b;⟨z (by decide) c x,z (by decide) d y,c,d⟩⟩
theorem R7 (w:Wf st) (h:m<=1000000):Wf { st with kn:=m }:=⟨w.nh,w.vt,w.cX,w.sub,w.rows,w.ow,w.fK,w.oJ,w.fB,w.pH,w.uc,w.jk,w.vv,w.nj,w.xo,w.rL,h,w.big,w.lZ,w.p8,w.l7,w.nq,w.jR,w.Cp⟩
theorem jP.length {n:Nat} (h:jP n ρ H vs l):vs.length=l.length:=by
 induction h with
 | nil=>rfl
 | cons _ _ _ _ _ ih=>simp [ih]
theorem jP.get {n:Nat} (h:jP n ρ H vs l):∀{i:Nat} {x:V},vs[i]?=some x->∃r q y ss,x = .ref r/\l[i]?=some y/\H r=some (.tup [.str y.nm, .str y.ow, .int y.wo, .ref q])/\H q=some (.lst ss)/\ρ q=some (n,30,⟨#[]⟩)/\gI H ss y.sh:=by
 induction h with
 | nil=>intro i x e;simp at e
 | @cons r q y ss vs as a b c d _ ih=>
   intro i x e
   cases i with
   | zero=>simp at e;subst e;exact ⟨r,q,y,ss,Z,Z,a,b,c,d⟩
   | succ i=>simp at e;obtain ⟨r',q',y',ss',e1,e2,e3⟩:=ih e;exact ⟨r',q',y',ss',e1,by simpa using e2,e3⟩
inductive jn (a:Addr) (ρ:dO) (H:Hp):List V->List p6->Prop
 | nil:jn a ρ H [] []
 | cons {r l:Addr} {x:p6} {ss:List V} {vs:List V} {as:List p6}:H r=some (.tup [.str x.nm, .str x.ow, .int x.wo, .ref l])->H l=some (.lst ss)->ρ l=none->l≠a->gI H ss x.sh->jn a ρ H vs as->jn a ρ H (.ref r::vs) (x::as)
theorem jn.to (h:jn a ρ H vs l):nv ρ H vs l:=by
 induction h with
 | nil=>exact .nil
 | cons x y z _ w _ ih=>exact .cons x y z w ih
theorem jn.mono (h:jn a ρ H vs l) (g:aO H H'):jn a ρ H' vs l:=by
 induction h with
 | nil=>exact .nil
 | cons x y z n w _ ih=>exact .cons (g _ _ x) (g _ _ y) z n (w.mono g.tups) ih
theorem jn.upd (h:jn a ρ H vs l) (ha:H a=some (.lst xs)):jn a ρ (L2.upd H a (.lst ys)) vs l:=by
 induction h with
 | nil=>exact .nil
 | cons x y z n w _ ih=>exact .cons (i9 (.inr ⟨_,ha,Z⟩) _ _ x) (by rw [av n];exact y) z n (w.mono (i9 (.inr ⟨_,ha,Z⟩))) ih
theorem jn.snoc {as:List p6} {l:Addr} {x:p6} (h:jn a ρ H vs as) (e1:H r=some (.tup [.str x.nm, .str x.ow, .int x.wo, .ref l])) (e2:H l=some (.lst ss)) (e3:ρ l=none) (e5:l≠a) (e4:gI H ss x.sh):jn a ρ H (vs++[.ref r]) (as++[x]):=by
 induction h with
 | nil=>exact .cons e1 e2 e3 e5 e4 .nil
 | cons x y z n w _ ih=>exact .cons x y z n w ih
theorem nv.length (h:nv ρ H vs l):vs.length=l.length:=by
 induction h with
 | nil=>rfl
 | cons _ _ _ _ _ ih=>simp [ih]
def Sq (K:Fg) (H:Hp) (r:Addr) (xs:List V):Prop:=aF K H r xs\/cO K H r xs
theorem aO.sq (g:aO H H') (h:Sq K H r xs):Sq K H' r xs:=h.elim (fun z=> .inl (g.seq z)) fun z=> .inr (g.tup z)
structure rP (K:Fg) (H:Hp) (us:List V) (ps:List Pt):Prop where
 len:us.length=ps.length
 at_:∀(i:Nat) (p:Pt),ps[i]?=some p->∃r xs,us[i]?=some (.ref r)/\Sq K H r xs/\xs[0]?=some (.str p.nm)/\xs[1]?=some (.str p.ow)/\xs[2]?=some (.int p.wo)/\xs[3]?=some (.int p.we)
theorem rP.mono {us:List V} {ps:List Pt} (h:rP K H us ps) (g:aO H H'):rP K H' us ps:=⟨h.len,fun i p e=>let ⟨r,xs,a,b,c⟩:=h.at_ i p e;⟨r,xs,a,g.sq b,c⟩⟩
def iL (own:List Str) (tops:List Int) (b:Int):List (Str×Rat):=(List.zip own tops).filterMap fun x=>if 0<x.2 then some (x.1,Jm.fr x.2 b) else none
theorem jl.length {l:List Pt} (h:jl H vs l):vs.length=l.length:=by
 induction h with
 | nil=>rfl
 | cons _ _ ih=>simp [ih]
theorem jl.get {l:List Pt} (h:jl H vs l):∀{i:Nat} {p:Pt},l[i]?=some p->∃r,vs[i]?=some (.ref r)/\H r=some (AY p):=by
 induction h with
 | nil=>intro i p e;simp at e
 | @cons r q vs ps a _ ih=>
   intro i p e
   cases i with
   | zero=>simp at e;subst e;exact ⟨r,Z,a⟩
   | succ i=>simp at e;obtain ⟨r',e1,e2⟩:=ih e;exact ⟨r',by simpa using e1,e2⟩
theorem gI.length {l:List (Str×Rat)} (h:gI H vs l):vs.length=l.length:=by
 induction h with
 | nil=>rfl
 | cons _ _ _ ih=>simp [ih]
theorem gI.get {l:List (Str×Rat)} (h:gI H vs l):∀{i:Nat} {x:Str} {q:Rat},l[i]?=some (x,q)->∃r f,vs[i]?=some (.ref r)/\H r=some (.tup [.str x, .ref f])/\H f=some (t_ q):=by
 induction h with
 | nil=>intro i x q e;simp at e
 | @cons r f x q vs l a b _ ih=>
   intro i y p e
   cases i with
   | zero=>simp at e;obtain ⟨rfl,rfl⟩:=e;exact ⟨r,f,Z,a,b⟩
   | succ i=>simp at e;obtain ⟨r',f',e1,e2⟩:=ih e;exact ⟨r',f',by simpa using e1,e2⟩
def QV (x:Str):Prop:=nc x.cps.toList
theorem MH:∀i:Fin 26,Dz "abcdefghijklmnopqrstuvwxyz" (97+i.val)=true:=by decide +kernel
theorem QV.isNm (h:QV x):L2.isNm x=true:=by
 unfold L2.isNm isName
 have h1:=h.lo
 have h2:=h.hi
 refine lX.mpr ⟨lX.mpr ⟨aX (by omega),aX (by omega)⟩,tY.mpr fun c hc=>?_⟩
 have h3:=h.TH c hc
 have:=MH ⟨c-97,by omega⟩
 rw [show 97+(c-97)=c from by omega] at this
 exact this
theorem tH:∀(l:List Str) (st:HS),(l.foldl fV st).own=st.own++l
 | [],st=>by simp
 | o::l,st=>by
   rw [iV,tH l]
   show (st.own++[o])++l=_
   rw [L1]
   rfl
theorem gi (K:Fg) (hK:X.K=K:=by rfl):wk X (Vs K):=hK▸Vt
theorem Sq.ix {v:V} {Q:VK} (h:Sq K H r xs) (e:xs[i]?=some v) (q:Q v H):Vs K (.ref r) (.int (i:Int)) H Q:=by
 rcases h with h|h
 . exact .inl ⟨r,xs,i,v,Z,Z,h,au e,q⟩
 . exact .inr (.inl ⟨r,xs,i,v,Z,Z,h,au e,q⟩)
variable {tops:List Int}
theorem Ek {own:List Str} {b:Int} (hb:0<b) (hz:Jm.Sz m b) {q:Rat} (h:(x,q)∈iL own tops b):Jm.Sz m (q.den:Int):=by
 unfold iL at h
 obtain ⟨y,_,e⟩:=B_.mp h
 by_cases c:0<y.2
 . rw [aA c] at e
   cases e
   refine hz.of_le ?_
   have:=Jm.Ob y.2 b hb
   omega
 . rw [az c] at e;cases e
theorem Fr.at {n:Nat} (f:Fr n ρ H ρ' H') (e:H b=some o) (c:ρ b=none):H' b=some o/\ρ' b=none:=by
 obtain ⟨a,d⟩:=f b o e (fun t x=>by rw [c];intro z;cases z)
 exact ⟨a,d.trans c⟩
theorem Fr.seq {n:Nat} (f:Fr n ρ H ρ' H') {l:Addr} (h:aF K H l xs) (c:ρ l=none):aF K H' l xs:=by
 rcases h with (h|⟨o,h⟩)|h
 . exact .inl (.inl (f.at h c).1)
 . exact .inl (.inr ⟨o,(f.at h c).1⟩)
 . exact .inr h
def Ba (nss:List (List Nat)):List Str:=nss.map tx
theorem T4 (nss:List (List Nat)):pY nss=(Ba nss).map V.str:=by unfold pY Ba;rw [iy];rfl
theorem DI (h:nss.Nodup):(Ba nss).Nodup:=by
 unfold Ba
 exact List.Pairwise.map tx (fun a b hab e=>hab (Oq e)) h
theorem OL (h:∀x∈nss,nc x):∀o∈Ba nss,QV o:=fun o ho=>by
 obtain ⟨x,hx,rfl⟩:=bJ.mp ho
 show nc (tx x).cps.toList
 rw [show (tx x).cps.toList=x from by simp]
 exact h x hx
theorem La (nss:List (List Nat)):(Ba nss).length=nss.length:=by unfold Ba;rw [aC]
theorem zg (x:Str) (l:List Str):yG (.str x) (l.map V.str)=decide (x∈l):=by
 have:=KZ x.cps.toList (l.map fun y=>y.cps.toList)
 rw [Gr] at this
 rw [show pY (l.map fun y=>y.cps.toList)=l.map V.str from by unfold pY;rw [iy];congr 1;] at this
 rw [this]
 congr 1
 refine propext ⟨fun m=>?_,fun m=>bJ.mpr ⟨x,m,Z⟩⟩
 obtain ⟨y,hy,e⟩:=bJ.mp m
 have:tx y.cps.toList=tx x.cps.toList:=by rw [e]
 rw [Gr,Gr] at this
 rw [<-this];exact hy
theorem qb (l:List Str):(l.map V.str).all pF=true:=by
 rw [List.all_map]
 exact tY.mpr fun _ _=>rfl
theorem GP {l:List Str} {d:Int} (h0:0<=d) (h1:d<(l.length:Int)):∃(j:Nat) (o:Str),d=(j:Int)/\l[j]?=some o/\qN (l.map V.str) d=some (.str o):=by
 obtain ⟨j,rfl⟩:∃j:Nat,d=(j:Int):=⟨d.toNat,by omega⟩
 have hj:j<l.length:=by omega
 exact ⟨j,l[j],Z,bB hj,au (by rw [b_,bB hj];rfl)⟩
section
variable {T:TC} {n:Nat} {L H:Hp} {x lp:Addr} {st:HS} {ps:List Pt}
end
theorem kK {α:Type} {l:List α} (nd:l.Nodup) {x:α} (h:l[i]?=some x):x∉l.take i:=fun m=>by
 have h2:(l.take (i+1)).Nodup:=nd.sublist (List.take_sublist _ _)
 rw [take_snoc h] at h2
 exact (List.nodup_append.mp h2).2.2 x m x (fT.mpr rfl) rfl
abbrev Row:=Str×Int
def vA (r:Row):HO:= .tup [.str r.1, .int r.2]
inductive fq (H:Hp):List V->List Row->Prop
 | nil:fq H [] []
 | cons {a:Addr} {r:Row} {vs:List V} {rs:List Row}:H a=some (vA r)->fq H vs rs->fq H (.ref a::vs) (r::rs)
theorem fq.mono {l:List Row} (h:fq H vs l) (g:∀b xs,H b=some (.tup xs)->H' b=some (.tup xs)):fq H' vs l:=by
 induction h with
 | nil=>exact .nil
 | cons a _ ih=>exact .cons (g _ _ a) ih
theorem fq.length {l:List Row} (h:fq H vs l):vs.length=l.length:=by
 induction h with
 | nil=>rfl
 | cons _ _ ih=>simp [ih]
theorem fq.get {l:List Row} (h:fq H vs l):∀{i:Nat} {x:V},vs[i]?=some x->∃a r,x = .ref a/\l[i]?=some r/\H a=some (vA r):=by
 induction h with
 | nil=>intro i x e;simp at e
 | @cons a r vs rs e0 _ ih=>
   intro i x e
   cases i with
   | zero=>simp at e;subst e;exact ⟨a,r,Z,Z,e0⟩
   | succ i=>simp at e;obtain ⟨a',r',e1,e2,e3⟩:=ih e;exact ⟨a',r',e1,by simpa using e2,e3⟩
theorem fq.snoc {l:List Row} {r:Row} (h:fq H vs l) (e:H a=some (vA r)):fq H (vs++[.ref a]) (l++[r]):=by
 induction h with
 | nil=>exact .cons e .nil
 | cons a _ ih=>exact .cons a ih
def gc (rs:List Row):List (Key×V):=rs.map fun r=>((Sum.inr r.1:Key),V.int r.2)
theorem vB (rs:List Row):(gc rs).length=rs.length:=by unfold gc;rw [aC]
variable {rs:List Row}
theorem DJ (h:x∉rs.map (·.1)):c5 (gc rs) (Sum.inr x)=none:=by
 unfold gc
 induction rs with
 | nil=>rfl
 | cons a l ih=>
   rw [cj,dQ (fun z=>h (by rw [cj,<-pD z];exact dg))]
   exact ih fun m=>h (by rw [cj];exact cK _ m)
def bu (rs:List Row):Int:=(rs.map (·.2)).sum
def cy (st:HS) (x:Str):Pt:=(st.ak.find? fun p=>decide (p.nm=x)).getD ⟨x,x,0,0,1,[]⟩
theorem Lb (nd:(st.ak.map (·.nm)).Nodup) (h:st.ak[i]?=some p):cy st p.nm=p:=by
 unfold cy
 have:st.ak.find? (fun q=>decide (q.nm=p.nm))=some p:=by
  generalize st.ak=ps at *
  induction ps generalizing i with
  | nil=>simp at h
  | cons a ps ih=>
    obtain ⟨h1,h2⟩:=fU.mp (show (a.nm::ps.map (·.nm)).Nodup from nd)
    cases i with
    | zero=>
      have:a=p:=by simpa using h
      subst this
      rw [qP,aX rfl]
    | succ i=>
      have h':ps[i]?=some p:=by simpa using h
      rw [qP,cu (fun e=>h1 (bJ.mpr ⟨p,bR h',e.symm⟩))]
      exact ih h2 h'
 rw [this]
 rfl
def iT (st:HS) (sums:List Int) (r:Row):List Int:=List.zipWith (fun old own=>old+(r.2*(cy st r.1).sc)*own) sums (cy st r.1).row
def j9 (st:HS) (rs:List Row):List Int:=rs.foldl (iT st) (st.bq.map fun c=>bu rs*c)
def ny (s:Int) (ts:List Int):Int:=ts.foldl (fun s t=>Jm.cf t s) s
def gR (st:HS) (kept:Int):List Int:=st.ak.map fun p=>p.sc*kept
def eZ (st:HS) (kept:Int) (added:List Int):List Int:=List.zipWith (fun t m=>t*kept+m) st.bq added
def cC (st:HS) (kept whole:Int) (added:List Int):Int:=ny whole (gR st kept++eZ st kept added)
def dJ (st:HS) (s:Int):HS:=if 1<s then { st with stp:=st.stp++[s],prod:=st.prod*s,kn:=0 } else st
def a_ (st:HS) (kept whole:Int) (added:List Int):HS:=
 dJ { st with ak:=st.ak.map (fun p=>{ p with sc:=p.sc*kept / cC st kept whole added }),bq:=(eZ st kept added).map (· / cC st kept whole added),bO:=st.bO.map (·*(whole / cC st kept whole added)) } (whole / cC st kept whole added)
def jS (ps:List Pt) (x:Str) (a:Int):List Pt:=(ps.map fun p=>if p.nm=x then { p with wo:=p.wo-a } else p).filter fun p=>decide (p.wo≠0)
def dz (st:HS) (r:Row):HS:={ st with ak:=jS st.ak r.1 r.2 }
def iY (st:HS) (rs:List Row):HS:=rs.foldl dz (a_ st (aY st-bu rs) (aY st) (j9 st rs))
inductive abw (vs:List V) (H:Hp) (Q:VK) (E:XK):Prop
 | mk (a:Int) (_:vs=[.int a]) (_:1<=a) (_:Q .bL H)
def YG:Sp:=bx (abw)
inductive abx (vs:List V) (H:Hp) (Q:VK) (E:XK):Prop
 | mk (m a:Int) (_:vs=[.int m, .int a]) (_:1<=a) (_:a<=m) (_:Q .bL H)
def R8:Sp:=bx (abx)
inductive YH (K:Fg) (vs:List V) (H:Hp) (Q:VK) (E:XK):Prop
 | mk (l:Addr) (us:List V) (rs:List Row) (_:vs=[.ref l]) (_:aF K H l us) (_:fq H us rs) (_:(rs.map (·.1)).Nodup) (_:rs≠[]) (_:rs.length<=1000) (_:∀d H',aO H H'->H d=none->H' d=some (.dK (gc rs))->Q (.ref d) H')
def OM (K:Fg):Sp:=bx (YH K)
inductive YI (K:Fg) (vs:List V) (H:Hp) (Q:VK) (E:XK):Prop
 | mk (s:Int) (l:Addr) (ts:List Int) (_:vs=[.int s, .ref l]) (_:aF K H l (ts.map V.int)) (_:0<=s) (_:(∀t∈ts,0<=t)) (_:Q (.int (ny s ts)) H)
def ON (K:Fg):Sp:=bx (YI K)
inductive YJ (T:TC) (vs:List V) (H:Hp) (Q:VK) (E:XK):Prop
 | mk (n ρ A st s:_) (_:vs=[.ref A.bt, .int s]) (_:Gh ρ H) (_:aL T n ρ A H st) (_:st.stp.length<=1000) (_:Jm.Sz 9000 st.prod) (_:Jm.Sz 9000 s) (_:∀ρ' A' H',Gh ρ' H'->aL T n ρ' A' H' (dJ st s:_)->A'.a=A.a->Fr n ρ H ρ' H'->Q .bL H')
def OO (T:TC):Sp:=bx (YJ T)
inductive Wn (T:TC) (vs:List V) (H:Hp) (Q:VK) (E:XK):Prop
 | mk (n ρ A st:_) (d:Addr) (rs:List Row) (_:vs=[.ref A.a, .ref d]) (_:aL T n ρ A H st) (_:Wf st) (_:H d=some (.dK (gc rs))) (_:ρ d=none) (_:rs.length<=1000) (_:(∀r∈rs,Jm.Sz 60 r.2/\∃p∈st.ak,p.nm=r.1)) (_:∀l H',aO H H'->H l=none->H' l=some (.lst ((j9 st rs).map V.int))->Q (.ref l) H')
def Lc (T:TC):Sp:=bx (Wn T)
inductive Wo (T:TC) (K:Fg) (vs:List V) (H:Hp) (Q:VK) (E:XK):Prop
 | mk (n ρ A st:_) (kept whole:Int) (l:Addr) (added:List Int) (_:vs=[.ref A.a, .int kept, .int whole, .ref l]) (_:HH T n ρ A H st) (_:aF K H l (added.map V.int)) (_:added.length=st.bq.length) (_:0<kept) (_:0<whole) (_:Jm.Sz 60 kept) (_:Jm.Sz 60 whole) (_:(∀m∈added,0<=m/\Jm.Sz 8900 m)) (_:(∀u∈st.bO,Jm.Sz 8900 u)) (_:st.stp.length<100) (_:Wf (a_ st kept whole added)) (_:tG T n ρ A H (a_ st kept whole added:_) fun H'=>Q .bL H')
def Cw (T:TC) (K:Fg):Sp:=bx (Wo T K)
inductive YK (T:TC) (vs:List V) (H:Hp) (Q:VK) (E:XK):Prop
 | mk (n ρ A st:_) (r:Row) (_:vs=[.ref A.a, .str r.1, .int r.2]) (_:HH T n ρ A H st) (_:(∃p∈st.ak,p.nm=r.1/\r.2<=p.wo)) (_:Wf (dz st r)) (_:tG T n ρ A H (dz st r:_) fun H'=>Q .bL H')
def GQ (T:TC):Sp:=bx (YK T)
structure rQ (st:HS) (rs:List Row):Prop where
 nd:(rs.map (·.1)).Nodup
 ne:rs≠[]
 len:rs.length<=1000
 row:∀r∈rs,1<=r.2/\Jm.Sz 60 r.2/\∃p∈st.ak,p.nm=r.1/\r.2<=p.wo
 lost:bu rs<aY st
 big:Jm.Sz 60 (aY st)
 prod:Jm.Sz 7900 st.prod
 bO:∀u∈st.bO,Jm.Sz 8900 u
 stp:st.stp.length<100
inductive YL (T:TC) (K:Fg) (vs:List V) (H:Hp) (Q:VK) (E:XK):Prop
 | mk (n ρ A st:_) (l:Addr) (us:List V) (rs:List Row) (_:vs=[.ref A.a, .ref l]) (_:HH T n ρ A H st) (_:aF K H l us) (_:fq H us rs) (_:rQ st rs) (_:tG T n ρ A H (iY st rs:_) fun H'=>Q .bL H')
def OP (T:TC) (K:Fg):Sp:=bx (YL T K)
theorem zh:∀{ps:List Pt} {qs:List (Addr×Addr×Addr)} {i:Nat} {p:Pt},(ps.map (·.nm)).Nodup->qs.length=ps.length->ps[i]?=some p->kH (b7 ps qs) (Sum.inr p.nm)=b7 (ps.eraseIdx i) (qs.eraseIdx i)
 | [],_,_,_,_,_,h=>by simp at h
 | _::_,[],_,_,_,hl,_=>by simp at hl
 | a::ps,b::qs,0,p,nd,hl,h=>by
   have e:a=p:=by simpa using h
   subst e
   obtain ⟨h1,h2⟩:=fU.mp (show (a.nm::ps.map (·.nm)).Nodup from nd)
   show kH ((Sum.inr a.nm,V.ref b.1)::b7 ps qs) (Sum.inr a.nm)=b7 ps qs
   unfold kH
   rw [gF,az (by simp)]
   refine Fx.mpr fun kv hkv=>?_
   unfold b7 at hkv
   obtain ⟨x,hx,y,hy,rfl⟩:=rO hkv
   exact aX fun z=>h1 (bJ.mpr ⟨x,hx,pD z⟩)
 | a::ps,b::qs,i+1,p,nd,hl,h=>by
   obtain ⟨h1,h2⟩:=fU.mp (show (a.nm::ps.map (·.nm)).Nodup from nd)
   have h':ps[i]?=some p:=by simpa using h
   have ih:=zh h2 (by simpa using hl) h'
   show kH ((Sum.inr a.nm,V.ref b.1)::b7 ps qs) (Sum.inr p.nm)=(Sum.inr a.nm,V.ref b.1)::b7 (ps.eraseIdx i) (qs.eraseIdx i)
   rw [<-ih]
   unfold kH
   have hne:¬ (Sum.inr a.nm:Key)=Sum.inr p.nm:=fun z=>h1 (bJ.mpr ⟨p,bR h',(pD z).symm⟩)
   rw [gF,aA (by simpa using fun e:a.nm=p.nm=>hne (by rw [e]))]
theorem zj:∀{ps:List Pt} {i:Nat} {p:Pt} {a:Int},(ps.map (·.nm)).Nodup->(∀q∈ps,q.wo≠0)->ps[i]?=some p->jS ps p.nm a=if p.wo-a=0 then ps.eraseIdx i else ps.set i { p with wo:=p.wo-a }
 | [],_,_,_,_,_,h=>by simp at h
 | x::ps,0,p,a,nd,hw,h=>by
   have e:x=p:=by simpa using h
   subst e
   obtain ⟨h1,h2⟩:=fU.mp (show (x.nm::ps.map (·.nm)).Nodup from nd)
   have rest:jS ps x.nm a=ps:=by
    unfold jS
    rw [show (ps.map fun p=>if p.nm=x.nm then { p with wo:=p.wo-a } else p)=ps from by
     conv=>rhs;rw [<-List.map_id ps]
     exact Fy fun y hy=>az fun z=>h1 (bJ.mpr ⟨y,hy,z⟩)]
    exact Fx.mpr fun y hy=>aX (hw y (cK _ hy))
   show ((x::ps).map fun p=>if p.nm=x.nm then { p with wo:=p.wo-a } else p).filter _=_
   rw [cj,aA rfl,gF]
   by_cases c:x.wo-a=0
   . rw [aA c,az (by simp [c])]
     exact rest
   . rw [az c,aA (by simpa using c)]
     show _::jS ps x.nm a=_
     rw [rest]
     rfl
 | x::ps,i+1,p,a,nd,hw,h=>by
   obtain ⟨h1,h2⟩:=fU.mp (show (x.nm::ps.map (·.nm)).Nodup from nd)
   have h':ps[i]?=some p:=by simpa using h
   have ih:=zj (a:=a) h2 (fun q hq=>hw q (cK _ hq)) h'
   have xn:¬ x.nm=p.nm:=fun z=>h1 (bJ.mpr ⟨p,bR h',z.symm⟩)
   show ((x::ps).map fun q=>if q.nm=p.nm then { q with wo:=q.wo-a } else q).filter _=_
   rw [cj,az xn,gF,aA (aX (hw x dg))]
   show x::jS ps p.nm a=_
   rw [ih]
   by_cases c:p.wo-a=0
   . rw [aA c,aA c];rfl
   . rw [az c,az c];rfl
theorem qc {α:Type}:∀{l:List α} {i:Nat} {x:α},l[i]?=some x->l.set i x=l
 | [],_,_,h=>by simp at h
 | a::l,0,x,h=>by
   have:a=x:=by simpa using h
   rw [this];rfl
 | a::l,i+1,x,h=>by rw [FF,qc (by simpa using h)]
theorem xr {α β:Type} {l:List α} {m:List β} {x:α} {y:β} (h1:(l.eraseIdx i)[j]?=some x) (h2:(m.eraseIdx i)[j]?=some y):∃k:Nat,l[k]?=some x/\m[k]?=some y:=by
 rw [List.getElem?_eraseIdx] at h1 h2
 by_cases c:j<i
 . rw [aA c] at h1 h2;exact ⟨j,h1,h2⟩
 . rw [az c] at h1 h2;exact ⟨j+1,h1,h2⟩
theorem xu:∀(ts:List Int) (s:Int),ny s ts∣s/\∀t∈ts,ny s ts∣t
 | [],s=>⟨Int.dvd_refl _,fun _ h=>absurd h (by simp)⟩
 | t::ts,s=>by
   obtain ⟨h1,h2⟩:=xu ts (Jm.cf t s)
   refine ⟨Int.dvd_trans h1 (Jm.j0 t s),fun u hu=>?_⟩
   rcases c8.mp hu with rfl|hu
   . exact Int.dvd_trans h1 (Jm.t9 u s)
   . exact h2 u hu
theorem xw:∀(ts:List Int) (s:Int),0<s->0<ny s ts
 | [],_,h=>h
 | t::ts,s,h=>xw ts _ (Jm.Ay t s (.inr h))
theorem xx {n:Nat} (h:aL T n ρ A H st) (g:Gh ρ H) (c:ρ a=none) (e:H a=some o) (ht:isTup o=false):
  aL T n (cE ρ a (n,t,⟨#[]⟩)) A H st/\Gh (cE ρ a (n,t,⟨#[]⟩)) H:=
 ⟨h.same ⟨fun _ _ e=>e,fun b u x w _ hc he=>⟨he,by rw [cg (fun z=>by rw [z,c] at hc;cases hc)];exact hc⟩⟩,g.color e ht⟩
theorem Fr.l_ {n:Nat} (f:Fr n ρ H ρ' H') (h:H a=none):Fr n ρ H (cE ρ' a (n,t,x)) H':=fun b o e k=>by
 obtain ⟨e1,e2⟩:=f b o e k
 exact ⟨e1,by rw [cg (aD e h)];exact e2⟩
theorem DK {d a b:Int} (hd:0<d) (h:a<=d*b):a / d<=b:=by
 have:=Int.ediv_le_ediv hd h
 rwa [BZ _ (by omega)] at this
theorem Bb {s:Int} (h:1<=s):(dJ st s).prod=st.prod*s:=by
 unfold dJ
 by_cases c:1<s
 . rw [aA c]
 . rw [az c,show s=1 by omega,Int.mul_one]
theorem mP (st:HS) (s:Int):(dJ st s).ak=st.ak:=by unfold dJ;split <;> rfl
theorem DL (st:HS) (s:Int):(dJ st s).bq=st.bq:=by unfold dJ;split <;> rfl
theorem OQ (st:HS) (s:Int):(dJ st s).bO=st.bO:=by unfold dJ;split <;> rfl
theorem tK (st:HS) (s:Int):(dJ st s).own=st.own:=by unfold dJ;split <;> rfl
theorem tL (st:HS) (s:Int):(dJ st s).nms=st.nms:=by unfold dJ;split <;> rfl
theorem xy (st:HS) (s:Int):(dJ st s).c7=st.c7:=by unfold dJ;split <;> rfl
theorem tM {α β γ:Type} {f:α->β->γ} {t:γ}:∀{xs:List α} {ys:List β},t∈List.zipWith f xs ys->∃(i:Nat) (x:α) (y:β),xs[i]?=some x/\ys[i]?=some y/\t=f x y:=fun {xs ys} h=>by
 obtain ⟨i,hi,e⟩:=wL h
 rw [jY] at hi
 have h1:i<xs.length:=by omega
 have h2:i<ys.length:=by omega
 exact ⟨i,xs[i],ys[i],bB h1,bB h2,by rw [<-e,List.getElem_zipWith]⟩
theorem T5 {α β γ:Type} {f:α->β->γ} {xs:List α} {ys:List β} {x:α} {y:β} (h1:xs[i]?=some x) (h2:ys[i]?=some y):(List.zipWith f xs ys)[i]?=some (f x y):=by
 rw [LQ,h1,h2]
theorem zm {a b c:Int} (h:a<=b) (hc:0<=c):a*c<=b*c:=KC h hc
structure oM (st:HS) (kept whole lost:Int) (added:List Int):Prop where
 k:0<kept
 l:0<=lost
 w:whole=kept+lost
 len:added.length=st.bq.length
 add:∀m∈added,0<=m/\m<=lost*st.prod
 prod:Jm.Sz 7900 st.prod
 big:Jm.Sz 60 whole
 bO:∀u∈st.bO,Jm.Sz 8900 u
 stp:st.stp.length<100
variable {lost:Int} {added:List Int}
theorem oM.dvds {kept whole:Int} (b:oM st kept whole lost added):
  0<cC st kept whole added/\cC st kept whole added∣whole/\(∀p∈st.ak,cC st kept whole added∣p.sc*kept)/\∀c∈eZ st kept added,cC st kept whole added∣c:=by
 have hw:0<whole:=by have:=b.k;have:=b.l;have:=b.w;omega
 have d:=xu (gR st kept++eZ st kept added) whole
 exact ⟨xw _ _ hw,d.1,fun p hp=>d.2 _ (B4 _ (bJ.mpr ⟨p,hp,Z⟩)),fun c hc=>d.2 _ (iQ _ hc)⟩
theorem vC {kept whole:Int} (wf:Wf st) (b:oM st kept whole lost added):Wf (a_ st kept whole added):=by
 obtain ⟨hs,hsw,m8,hsc⟩:=b.dvds
 have hk:=b.k
 have hl:=b.l
 have hw:=b.w
 have p1:=wf.fB
 have eB:a_ st kept whole added=dJ { st with ak:=st.ak.map (fun p=>{ p with sc:=p.sc*kept / cC st kept whole added }),bq:=(eZ st kept added).map (· / cC st kept whole added),bO:=st.bO.map (·*(whole / cC st kept whole added)) } (whole / cC st kept whole added):=rfl
 rw [eB]
 generalize cC st kept whole added=d at *
 obtain ⟨s,es⟩:=hsw
 have hs1:1<=s:=by
  rcases Int.lt_trichotomy s 0 with z|z|z
  . have:=Int.mul_neg_of_pos_of_neg hs z;omega
  . rw [z,Int.mul_zero] at es;omega
  . omega
 have ed:whole / d=s:=by rw [es,BZ _ (by omega)]
 rw [ed]
 have ad4:s<=whole:=by rw [es];have:=KC (show 1<=d by omega) (show 0<=s by omega);omega
 have zs:Jm.Sz 60 s:=b.big.of_le (by omega)
 have zp:Jm.Sz 8000 (st.prod*s):=(b.prod.mul zs).mono (by decide)
 have pp:st.prod<=st.prod*s:=by have:=Fq hs1 (show 0<=st.prod by omega);omega
 have QW:∀c∈(eZ st kept added).map (· / d),0<=c/\c<=st.prod*s:=fun c hc=>by
  obtain ⟨x,hx,rfl⟩:=bJ.mp hc
  obtain ⟨i,t,m,et,em,rfl⟩:=tM (show x∈List.zipWith (fun t m=>t*kept+m) st.bq added from hx)
  have ht:=wf.lZ t (bR et)
  have hm:=b.add m (bR em)
  have a1:0<=t*kept:=lE ht.1 (by omega)
  have a2:t*kept<=st.prod*kept:=zm ht.2 (by omega)
  have a3:st.prod*kept+lost*st.prod=d*(st.prod*s):=by
   rw [sY lost,<-u9,<-hw,es,<-iX,<-iX,sY st.prod d]
  exact ⟨E9 (by omega) (by omega),DK hs (by omega)⟩
 have sc':∀p∈st.ak,1<=p.sc*kept / d/\p.sc*kept / d<=st.prod*s/\d*(p.sc*kept / d)=p.sc*kept:=fun p hp=>by
  have h0:=wf.p8 p hp
  obtain ⟨z,ez⟩:=m8 p hp
  have a1:0<p.sc*kept:=Int.mul_pos (by omega) hk
  have ZF:p.sc*kept / d=z:=by rw [ez,BZ _ (by omega)]
  have hz:1<=z:=by
   rcases Int.lt_trichotomy z 0 with y|y|y
   . have:=Int.mul_neg_of_pos_of_neg hs y;omega
   . rw [y,Int.mul_zero] at ez;omega
   . omega
  have a2:p.sc*kept<=st.prod*kept:=zm h0.2 (by omega)
  have a3:st.prod*kept<=st.prod*whole:=Fq (by omega) (by omega)
  have a4:st.prod*whole=d*(st.prod*s):=by rw [es,<-iX,<-iX,sY st.prod d]
  refine ⟨by rw [ZF];exact hz,DK hs (by omega),by rw [ZF,ez]⟩
 have P:∀{M:Pt->Prop},(∀p∈st.ak,M { p with sc:=p.sc*kept / d })->∀p∈st.ak.map (fun p=>{ p with sc:=p.sc*kept / d }),M p:=fun h p hp=>by
  obtain ⟨x,hx,rfl⟩:=bJ.mp hp
  exact h x hx
 have top':∀p∈st.ak,∀t∈List.zipWith (fun r c=>(p.sc*kept / d)*r+c) p.row ((eZ st kept added).map (· / d)),0<=t/\t<=st.prod*s:=fun p hp t ht=>by
  obtain ⟨i,r,c,er,ec,rfl⟩:=tM ht
  rw [b_] at ec
  obtain ⟨x,ex,rfl⟩:=mU.mp ec
  obtain ⟨y,ey⟩:=hsc x (bR ex)
  have eyd:x / d=y:=by rw [ey,BZ _ (by omega)]
  have ex':(List.zipWith (fun t m=>t*kept+m) st.bq added)[i]?=some x:=ex
  rw [LQ] at ex'
  cases e1:st.bq[i]? with
  | none=>rw [e1] at ex';simp at ex'
  | some t0=>
    cases e2:added[i]? with
    | none=>rw [e1,e2] at ex';simp at ex'
    | some m=>
      rw [e1,e2] at ex'
      have ex2:t0*kept+m=x:=by simpa using ex'
      have hm:=b.add m (bR e2)
      have hT:=wf.nq p hp (p.sc*r+t0) (bR (T5 (f:=fun r c=>p.sc*r+c) er e1))
      have hz:=(sc' p hp).2.2
      have key:d*((p.sc*kept / d)*r+x / d)=(p.sc*r+t0)*kept+m:=by
       rw [u9,<-iX,hz,eyd,<-ey,<-ex2]
       rw [u_,iX,iX,sY kept r]
       omega
      have k1:0<=(p.sc*r+t0)*kept:=lE hT.1 (by omega)
      have k2:(p.sc*r+t0)*kept<=st.prod*kept:=zm hT.2 (by omega)
      have a3:st.prod*kept+lost*st.prod=d*(st.prod*s):=by
       rw [sY lost,<-u9,<-hw,es,<-iX,<-iX,sY st.prod d]
      generalize (p.sc*kept / d)*r+x / d=W at *
      constructor
      . rcases Int.lt_or_le W 0 with z|z
        . have:=Int.mul_neg_of_pos_of_neg hs z;omega
        . exact z
      . have:d*W<=d*(st.prod*s):=by omega
        exact Int.le_of_mul_le_mul_left this hs
 have ZG:(st.ak.map (fun p:Pt=>{ p with sc:=p.sc*kept / d })).map (fun p:Pt=>p.nm)=st.ak.map (fun p:Pt=>p.nm):=by rw [iy];rfl
 have e0:(eZ st kept added).length=st.bq.length:=by unfold eZ;rw [jY,b.len];omega
 have pu':∀u∈st.bO.map (·*s),Jm.Sz 9000 u:=fun u hu=>by
  obtain ⟨x,hx,rfl⟩:=bJ.mp hu
  exact ((b.bO x hx).mul zs).mono (by decide)
 have Wq:∀p∈st.ak,∀r∈p.row,-(st.prod*s)<=r/\r<=st.prod*s:=fun p hp r hr=>by have:=wf.l7 p hp r hr;omega
 unfold dJ
 by_cases c:1<s
 . rw [aA c]
   refine ⟨wf.nh,wf.vt,by rw [ZG];exact wf.cX,P wf.sub,P wf.rows,P wf.ow,?_,?_,by show 1<=st.prod*s;omega,?_,fun x hx=>?_,wf.jk,wf.vv,?_,?_,wf.rL,gH _,zp,QW,P fun p hp=>⟨(sc' p hp).1,(sc' p hp).2.1⟩,P Wq,P top',P wf.jR,pu'⟩
   . show (List.map _ (eZ st kept added)).length=_
     rw [aC,e0,wf.fK]
   . show (List.map _ st.bO).length=_
     rw [aC,wf.oJ]
   . show st.prod*s=(st.stp++[s]).foldl (·*·) 1
     rw [T3,<-wf.pH]
   . rcases fZ.mp (show x∈st.stp++[s] from hx) with z|z
     . exact wf.uc x z
     . rw [fT.mp z];omega
   . show (List.map _ st.ak).length<=1000
     rw [aC];exact wf.nj
   . show (st.stp++[s]).length<=100
     rw [cT];exact b.stp
 . rw [az c]
   have e1:s=1:=by omega
   subst e1
   rw [Int.mul_one] at QW sc' Wq top'
   refine ⟨wf.nh,wf.vt,by rw [ZG];exact wf.cX,P wf.sub,P wf.rows,P wf.ow,?_,?_,wf.fB,wf.pH,wf.uc,wf.jk,wf.vv,?_,wf.xo,wf.rL,wf.DG,wf.big,QW,P fun p hp=>⟨(sc' p hp).1,(sc' p hp).2.1⟩,P wf.l7,P fun p hp t ht=>?_,P wf.jR,pu'⟩
   . show (List.map _ (eZ st kept added)).length=_
     rw [aC,e0,wf.fK]
   . show (List.map _ st.bO).length=_
     rw [aC,wf.oJ]
   . show (List.map _ st.ak).length<=1000
     rw [aC];exact wf.nj
   . exact top' p hp t ht
def vD (st:HS) (acc:List Int) (rs:List Row):List Int:=rs.foldl (fun s r=>List.zipWith (fun x t=>x+r.2*t) s (bf st (cy st r.1))) acc
theorem DM:∀(acc bq row:List Int) (a sc L:Int),List.zipWith (fun old own=>old+(a*sc)*own) (List.zipWith (fun s c=>s+(a+L)*c) acc bq) row=List.zipWith (fun s c=>s+L*c) (List.zipWith (fun x t=>x+a*t) acc (List.zipWith (fun r c=>sc*r+c) row bq)) bq
 | [],_,_,_,_,_=>by simp
 | _::_,[],_,_,_,_=>by simp
 | _::_,_::_,[],_,_,_=>by simp
 | x::acc,c::bq,r::row,a,sc,L=>by
   simp only [B0]
   rw [DM acc bq row a sc L]
   congr 1
   grind
theorem GR {st:HS}:∀(rs:List Row) (acc:List Int),rs.foldl (iT st) (List.zipWith (fun s c=>s+bu rs*c) acc st.bq)=List.zipWith (fun s c=>s+0*c) (vD st acc rs) st.bq
 | [],acc=>by show List.zipWith _ acc st.bq=_;rfl
 | r::rs,acc=>by
   rw [iV]
   have e:iT st (List.zipWith (fun s c=>s+bu (r::rs)*c) acc st.bq) r=List.zipWith (fun s c=>s+bu rs*c) (List.zipWith (fun x t=>x+r.2*t) acc (bf st (cy st r.1))) st.bq:=by
    unfold iT
    rw [show bu (r::rs)=r.2+bu rs from by unfold bu;rw [cj,fG]]
    exact DM acc st.bq (cy st r.1).row r.2 (cy st r.1).sc (bu rs)
   rw [e,GR rs]
   rfl
theorem DN:∀(l:List Int) (L:Int),List.zipWith (fun s c=>s+L*c) (List.replicate l.length 0) l=l.map fun c=>L*c
 | [],_=>rfl
 | x::l,L=>by
   rw [jL,yV,B0,DN l L,Int.zero_add]
   rfl
theorem GS:∀(s l:List Int),s.length<=l.length->List.zipWith (fun s c=>s+0*c) s l=s
 | [],_,_=>by simp
 | _::_,[],h=>by simp at h
 | x::s,c::l,h=>by
   rw [B0,GS s l (by simpa using h),Int.zero_mul,Int.add_zero]
theorem xA {st:HS}:∀(rs:List Row) (acc:List Int),(∀r∈rs,(bf st (cy st r.1)).length=acc.length)->(vD st acc rs).length=acc.length
 | [],_,_=>rfl
 | r::rs,acc,h=>by
   have e:(List.zipWith (fun x t=>x+r.2*t) acc (bf st (cy st r.1))).length=acc.length:=by rw [jY,h r dg];omega
   show (vD st (List.zipWith (fun x t=>x+r.2*t) acc (bf st (cy st r.1))) rs).length=_
   rw [xA rs _ (fun x hx=>by rw [e];exact h x (cK _ hx)),e]
theorem yM {st:HS} (hP:0<=st.prod):∀(rs:List Row) (acc:List Int) (B:Int),(∀r∈rs,0<=r.2/\∀t∈bf st (cy st r.1),0<=t/\t<=st.prod)->(∀x∈acc,0<=x/\x<=B)->∀x∈vD st acc rs,0<=x/\x<=B+bu rs*st.prod
 | [],acc,B,_,ha,x,hx=>by
   have:=ha x hx
   show 0<=x/\x<=B+0*st.prod
   omega
 | r::rs,acc,B,h,ha,x,hx=>by
   have hr:=h r dg
   have:=yM hP rs (List.zipWith (fun x t=>x+r.2*t) acc (bf st (cy st r.1))) (B+r.2*st.prod) (fun y hy=>h y (cK _ hy)) (fun y hy=>by
    obtain ⟨i,a,t,ea,et,rfl⟩:=tM hy
    have h1:=ha a (bR ea)
    have h2:=hr.2 t (bR et)
    have h3:0<=r.2*t:=lE hr.1 h2.1
    have h4:r.2*t<=r.2*st.prod:=Fq h2.2 hr.1
    omega) x hx
   rw [show bu (r::rs)=r.2+bu rs from by unfold bu;rw [cj,fG],u_]
   omega
theorem vE (wf:Wf st) (h:p∈st.ak):(bf st p).length=st.bq.length:=by
 unfold bf
 rw [jY,wf.rows p h,wf.fK]
 omega
theorem dj (wf:Wf st) (h:p∈st.ak) (e:p.nm=x):cy st x=p:=by
 obtain ⟨i,hi,ei⟩:=wL h
 rw [<-e]
 exact Lb wf.cX (i:=i) (by rw [bB hi,ei])
theorem DO (wf:Wf st) (h:∀r∈rs,∃p∈st.ak,p.nm=r.1):j9 st rs=vD st (List.replicate st.bq.length 0) rs:=by
 unfold j9
 rw [<-DN st.bq (bu rs),GR]
 refine GS _ _ ?_
 rw [xA rs _ (fun r hr=>by
  obtain ⟨p,hp,e⟩:=h r hr
  rw [dj wf hp e,mV,vE wf hp]),mV]
 exact aK _
theorem OR (wf:Wf st) (h:∀r∈rs,1<=r.2/\∃p∈st.ak,p.nm=r.1):(j9 st rs).length=st.bq.length/\∀m∈j9 st rs,0<=m/\m<=bu rs*st.prod:=by
 rw [DO wf (fun r hr=>(h r hr).2)]
 have p1:=wf.fB
 constructor
 . rw [xA rs _ (fun r hr=>by
    obtain ⟨p,hp,e⟩:=(h r hr).2
    rw [dj wf hp e,mV,vE wf hp]),mV]
 . intro m hm
   have:=yM (st:=st) (by omega) rs (List.replicate st.bq.length 0) 0 (fun r hr=>by
    obtain ⟨h1,p,hp,e⟩:=h r hr
    refine ⟨by omega,?_⟩
    rw [dj wf hp e]
    exact wf.nq p hp) (fun x hx=>by rw [(List.mem_replicate.mp hx).2];omega) m hm
   omega
theorem MI {ps:List Pt} {a:Int} (h:p∈ps) (hn:p.nm≠x) (hw:p.wo≠0):p∈jS ps x a:=
 uZ.mpr ⟨bJ.mpr ⟨p,h,by rw [az hn]⟩,aX hw⟩
theorem vF {ps:List Pt} {a:Int} (h:p∈jS ps x a):p.wo≠0/\∃q∈ps,p=if q.nm=x then { q with wo:=q.wo-a } else q:=by
 obtain ⟨h1,h2⟩:=uZ.mp h
 obtain ⟨q,hq,e⟩:=bJ.mp h1
 exact ⟨aV h2,q,hq,e.symm⟩
theorem qT {ps:List Pt} {a:Int}:((jS ps x a).map (fun p:Pt=>p.nm)).Sublist (ps.map (fun p:Pt=>p.nm)):=by
 unfold jS
 have e:(ps.map fun p=>if p.nm=x then { p with wo:=p.wo-a } else p).map (fun p:Pt=>p.nm)=ps.map (fun p:Pt=>p.nm):=by
  rw [iy]
  exact Fy fun p _=>by show (if p.nm=x then _ else p:Pt).nm=p.nm;split <;> rfl
 rw [<-e]
 exact List.filter_sublist.map _
theorem Cy (wf:Wf st) {r:Row} (h:∀p∈st.ak,p.nm=r.1->r.2<=p.wo):Wf (dz st r):=by
 have P:∀{M:Pt->Prop},(∀p∈st.ak,M p)->(∀(p:Pt) (w:Int),M p->M { p with wo:=w })->∀p∈jS st.ak r.1 r.2,M p:=fun h1 h2 p hp=>by
  obtain ⟨_,q,hq,e⟩:=vF hp
  rw [e]
  split
  . exact h2 _ _ (h1 q hq)
  . exact h1 q hq
 refine ⟨wf.nh,wf.vt,wf.cX.sublist qT,P wf.sub (fun _ _ z=>z),P wf.rows (fun _ _ z=>z),P wf.ow (fun _ _ z=>z),wf.fK,wf.oJ,wf.fB,wf.pH,wf.uc,wf.jk,wf.vv,?_,wf.xo,wf.rL,wf.DG,wf.big,wf.lZ,P wf.p8 (fun _ _ z=>z),P wf.l7 (fun _ _ z=>z),P wf.nq (fun _ _ z=>z),fun p hp=>?_,wf.Cp⟩
 . have:=qT (ps:=st.ak) (x:=r.1) (a:=r.2) |>.length_le
   rw [aC,aC] at this
   exact fH this wf.nj
 . obtain ⟨h0,q,hq,e⟩:=vF hp
   have:=wf.jR q hq
   by_cases c:q.nm=r.1
   . rw [aA c] at e
     subst e
     have:=h q hq c
     have h0:q.wo-r.2≠0:=h0
     exact ⟨by show 1<=q.wo-r.2;omega,by show 0<=q.we;omega⟩
   . rw [az c] at e
     rw [e];exact this
def Due (st:HS) (rs:List Row):Prop:=∀r∈rs,∃p∈st.ak,p.nm=r.1/\r.2<=p.wo
theorem qY (wf:Wf st) {q:Pt} (hp:p∈st.ak) (hq:q∈st.ak) (e:p.nm=q.nm):p=q:=(dj wf hp rfl).symm.trans (by rw [e];exact dj wf hq rfl)
theorem OS (wf:Wf st) {r:Row} (d:Due st (r::rs)):Wf (dz st r):=by
 obtain ⟨p,hp,e,hle⟩:=d r dg
 exact Cy wf fun q hq eq=>by rw [qY wf hq hp (eq.trans e.symm)];exact hle
theorem GU (wf:Wf st) {r:Row} (d:Due st (r::rs)) (nd:((r::rs).map (fun r:Row=>r.1)).Nodup):Due (dz st r) rs:=fun x hx=>by
 obtain ⟨p,hp,e,hle⟩:=d x (cK _ hx)
 have hn:p.nm≠r.1:=fun z=>(fU.mp nd).1 (bJ.mpr ⟨x,hx,e.symm.trans z⟩)
 have:=wf.jR p hp
 exact ⟨p,MI hp hn (by omega),e,hle⟩
theorem GV:∀{rs:List Row} {st:HS},Wf st->Due st rs->(rs.map (fun r:Row=>r.1)).Nodup->Wf (rs.foldl dz st)
 | [],_,wf,_,_=>wf
 | r::rs,st,wf,d,nd=>show Wf (rs.foldl dz (dz st r)) from GV (OS wf d) (GU wf d nd) (fU.mp nd).2
theorem DP {kept whole:Int} (d:Due st rs):Due (a_ st kept whole added) rs:=fun r hr=>by
 obtain ⟨p,hp,e,hle⟩:=d r hr
 refine ⟨{ p with sc:=p.sc*kept / cC st kept whole added },?_,e,hle⟩
 unfold a_
 rw [mP]
 exact bJ.mpr ⟨p,hp,Z⟩
theorem rQ.due (c:rQ st rs):Due st rs:=fun r hr=>(c.row r hr).2.2
theorem zq:∀{rs:List Row},(∀r∈rs,1<=r.2)->0<=bu rs
 | [],_=>kF _
 | r::rs,h=>by
   have:=h r dg
   have:=zq (rs:=rs) fun x hx=>h x (cK _ hx)
   rw [show bu (r::rs)=r.2+bu rs from by unfold bu;rw [cj,fG]]
   omega
theorem rQ.blend (wf:Wf st) (c:rQ st rs):oM st (aY st-bu rs) (aY st) (bu rs) (j9 st rs):=by
 have g:=OR wf (rs:=rs) (fun r hr=>⟨(c.row r hr).1,by obtain ⟨p,hp,e,_⟩:=(c.row r hr).2.2;exact ⟨p,hp,e⟩⟩)
 have l0:=zq (rs:=rs) fun r hr=>(c.row r hr).1
 have:=c.lost
 exact ⟨by omega,l0,by omega,g.1,g.2,c.prod,c.big,c.bO,c.stp⟩
theorem T6 (wf:Wf st) (c:rQ st rs):Wf (iY st rs):=GV (vC wf (c.blend wf)) (DP c.due) c.nd
structure MJ (K:Fg) (H:Hp) (us:List V) (ws:List Row):Prop where
 len:us.length=ws.length
 at_:∀(i:Nat) (r:Row),ws[i]?=some r->∃a xs,us[i]?=some (.ref a)/\Sq K H a xs/\xs[0]?=some (.str r.1)/\xs[2]?=some (.int r.2)
theorem xB:∀{l:List Str} {o:Str},o∈l->l[l.idxOf o]?=some o
 | [],_,h=>by simp at h
 | x::l,o,h=>by
   by_cases e:x=o
   . subst e;simp
   . have ho:o∈l:=by
      rcases c8.mp h with z|z
      . exact absurd z.symm e
      . exact z
     rw [List.idxOf_cons,show (x==o)=false from B7.mpr e]
     simpa using xB ho
inductive aby (K:Fg) (vs:List V) (H:Hp) (Q:VK) (E:XK):Prop
 | mk (l:Addr) (us:List V) (ws:List Row) (i:Nat) (r:Row) (_:vs=[.ref l, .str r.1]) (_:aF K H l us) (_:MJ K H us ws) (_:(ws.map (fun r:Row=>r.1)).Nodup) (_:ws.length<=1000) (_:ws[i]?=some r) (_:Q (.int (i:Int)) H)
def R9 (K:Fg):Sp:=bx (aby K)
structure OT (ws rs:List Row):Prop where
 nd:(rs.map (fun r:Row=>r.1)).Nodup
 row:∀r∈rs,1<=r.2/\r.2<=1000000000/\∃w∈ws,w.1=r.1/\r.2<=w.2
 lost:bu rs<bu ws\/rs=[]
 len:rs.length<=ws.length
inductive Wr (K:Fg) (vs:List V) (H:Hp) (Q:VK) (E:XK):Prop
 | mk (a l:Addr) (ns:List Int) (k:Int) (us:List V) (ws:List Row) (_:vs=[.ref a, .int k, .ref l]) (_:aF K H a (ns.map V.int)) (_:ns.length<=63) (_:0<=k) (_:k<=1000000) (_:aF K H l us) (_:MJ K H us ws) (_:(ws.map (fun r:Row=>r.1)).Nodup) (_:ws.length<=1000) (_:(∀w∈ws,1<=w.2)) (_:∀z zs rs H',aO H H'->H z=none->H' z=some (.lst zs)->fq H' zs rs->OT ws rs->Q (.ref z) H')
def Ld (K:Fg):Sp:=bx (Wr K)
section
variable {X:Cx}
def rR (i j k:Int):Int:=if j<i then (if k<j then k else j) else (if k<i then k else i)
theorem T7 (i j k:Int):rR i j k<=i/\rR i j k<=j/\rR i j k<=k:=by unfold rR;split <;> split <;> omega
theorem T8 {i j k m:Int} (h1:m<=i) (h2:m<=j) (h3:m<=k):m<=rR i j k:=by unfold rR;split <;> split <;> omega
theorem OU (hc:X.calm=true):iA X (.builtin "min") (fun xs H Q=>∃i j k,xs=[.int i, .int j, .int k]/\Q (.int (rR i j k)) H):=by
 intro pins s σ H xs us Q I r h
 obtain ⟨i,j,k,rfl,q⟩:=h
 obtain ⟨u,us,rfl,⟨t,rfl⟩,r2⟩:∃u us',us=u::us'/\RelV (.int i) u/\Vals [.int j, .int k] us':=by cases r with|cons a b=>exact ⟨_,_,rfl,a,b⟩
 obtain ⟨u2,u3,rfl,⟨t',rfl⟩,⟨t'',rfl⟩⟩:=vals2 r2
 refine min_three_ints (I.ok.hd hc) fun h' tk kk=>⟨_,H,I.kept kk,?_,q⟩
 unfold rR
 by_cases hj:j<i
 . rw [aA hj,aA hj]
   by_cases hk:k<j
   . rw [aA hk,aA hk];exact ⟨_,Z⟩
   . rw [az hk,az hk];exact ⟨_,Z⟩
 . rw [az hj,az hj]
   by_cases hk:k<i
   . rw [aA hk,aA hk];exact ⟨_,Z⟩
   . rw [az hk,az hk];exact ⟨_,Z⟩
end
def fL (rs:List Row) (x:Str):Int:=((rs.find? fun r=>decide (r.1=x)).map (fun r:Row=>r.2)).getD 0
theorem xC (x:Str):fL [] x=0:=rfl
theorem nC (r:Row) (rs:List Row) (x:Str):fL (r::rs) x=if r.1=x then r.2 else fL rs x:=by
 unfold fL
 rw [qP]
 by_cases c:r.1=x
 . rw [aX c,aA c];rfl
 . rw [cu c,az c]
theorem vG:∀{rs:List Row} {x:Str},x∉rs.map (fun r:Row=>r.1)->fL rs x=0
 | [],_,_=>rfl
 | r::rs,x,h=>by
   rw [nC,az (fun e=>h (by rw [cj,e];exact dg))]
   exact vG fun m=>h (by rw [cj];exact cK _ m)
theorem vH:∀{rs:List Row} {r:Row} {x:Str},r.1∉rs.map (fun r:Row=>r.1)->fL (rs++[r]) x=if r.1=x then r.2 else fL rs x
 | [],r,x,_=>by rw [E7,nC]
 | y::rs,r,x,h=>by
   rw [cj] at h
   have h1:r.1≠y.1:=fun e=>h (by rw [e];exact dg)
   rw [L6,nC,vH (fun m=>h (cK _ m)),nC]
   by_cases c:y.1=x
   . rw [aA c,aA c,az (fun e=>h1 (e.trans c.symm))]
   . rw [az c,az c]
abbrev Q4:=Str×Str×Int×Int
def bh (st:HS):List Q4:=st.ak.map fun p=>(p.nm,p.ow,p.wo,p.we)
def pI (qs:List Q4) (r:Row):List Q4:=(qs.map fun q=>if q.1=r.1 then (q.1,q.2.1,q.2.2.1-r.2,q.2.2.2) else q).filter fun q=>decide (q.2.2.1≠0)
def nD (rs:List Row) (qs:List Q4):List Q4:=(qs.map fun q=>(q.1,q.2.1,q.2.2.1-fL rs q.1,q.2.2.2)).filter fun q=>decide (0<q.2.2.1)
theorem OV (st:HS) (r:Row):bh (dz st r)=pI (bh st) r:=by
 unfold bh dz jS pI
 generalize st.ak=ps
 show List.map _ (List.filter _ (List.map _ ps))=_
 induction ps with
 | nil=>rfl
 | cons p ps ih=>
   rw [cj,cj,cj]
   by_cases c:p.nm=r.1
   . rw [aA c,aA (show (p.nm,p.ow,p.wo,p.we).1=r.1 from c),gF,gF]
     by_cases d:p.wo-r.2=0
     . rw [az (by simpa using d),az (by simpa using d),ih]
     . rw [aA (by simpa using d),aA (by simpa using d),cj,ih]
   . rw [az c,az (show ¬ (p.nm,p.ow,p.wo,p.we).1=r.1 from c),gF,gF]
     by_cases d:p.wo=0
     . rw [az (by simpa using d),az (by simpa using d),ih]
     . rw [aA (by simpa using d),aA (by simpa using d),cj,ih]
theorem Bc (st:HS) (kept whole:Int) (added:List Int):bh (a_ st kept whole added)=bh st:=by
 unfold bh a_
 rw [mP,iy]
 rfl
theorem Bd:∀(rs:List Row) (st:HS),bh (rs.foldl dz st)=rs.foldl pI (bh st)
 | [],_=>rfl
 | r::rs,st=>by rw [iV,iV,Bd rs,OV]
theorem Be:∀(qs:List Q4) (r:Row) (rs:List Row),r.1∉rs.map (fun r:Row=>r.1)->(∀q∈qs,1<=q.2.2.1)->(∀q∈qs,q.1=r.1->r.2<=q.2.2.1)->nD rs (pI qs r)=nD (r::rs) qs
 | [],_,_,_,_,_=>rfl
 | q::qs,r,rs,hn,h1,h2=>by
   have ih:=Be qs r rs hn (fun x hx=>h1 x (cK _ hx)) (fun x hx=>h2 x (cK _ hx))
   have w1:=h1 q dg
   have e1:pI (q::qs) r=(if q.1=r.1 then (if q.2.2.1-r.2=0 then [] else [(q.1,q.2.1,q.2.2.1-r.2,q.2.2.2)]) else [q])++pI qs r:=by
    unfold pI
    rw [cj,gF]
    by_cases c:q.1=r.1
    . rw [aA c,aA c]
      by_cases d:q.2.2.1-r.2=0
      . rw [aA d,az (by simpa using d)];rfl
      . rw [az d,aA (by simpa using d)];rfl
    . rw [az c,az c,aA (aX (show q.2.2.1≠0 by omega))];rfl
   have e2:∀(us:List Row) (x:Q4) (l:List Q4),nD us (x::l)=(if 0<x.2.2.1-fL us x.1 then [(x.1,x.2.1,x.2.2.1-fL us x.1,x.2.2.2)] else [])++nD us l:=fun us x l=>by
    unfold nD
    rw [cj,gF]
    by_cases c:0<x.2.2.1-fL us x.1
    . rw [aA c,aA (aX c)];rfl
    . rw [az c,az (by simpa using c)];rfl
   rw [e1,e2 (r::rs),nC]
   by_cases c:q.1=r.1
   . have am:fL rs q.1=0:=by rw [c];exact vG hn
     have le:=h2 q dg c
     rw [aA c,aA c.symm]
     by_cases d:q.2.2.1-r.2=0
     . rw [aA d,az (by omega),<-ih];rfl
     . rw [az d,aA (by omega),<-ih,L6,E7,e2 rs]
       show (if 0<q.2.2.1-r.2-fL rs q.1 then [(q.1,q.2.1,q.2.2.1-r.2-fL rs q.1,q.2.2.2)] else [])++_=_
       rw [am,Int.sub_zero,aA (by omega)]
   . rw [az c,show (if r.1=q.1 then r.2 else fL rs q.1)=fL rs q.1 from az (fun z=>c z.symm),<-ih,L6,E7,e2 rs]
theorem DQ {qs:List Q4} {r:Row} {x:Q4} (h:x∈pI qs r):x.2.2.1≠0/\∃q∈qs,x=if q.1=r.1 then (q.1,q.2.1,q.2.2.1-r.2,q.2.2.2) else q:=by
 obtain ⟨h1,h2⟩:=uZ.mp h
 obtain ⟨q,hq,e⟩:=bJ.mp h1
 exact ⟨aV h2,q,hq,e.symm⟩
theorem DR:∀(rs:List Row) (qs:List Q4),(rs.map (fun r:Row=>r.1)).Nodup->(∀q∈qs,1<=q.2.2.1)->(∀r∈rs,∀q∈qs,q.1=r.1->r.2<=q.2.2.1)->rs.foldl pI qs=nD rs qs
 | [],qs,_,h1,_=>by
   show qs=nD [] qs
   unfold nD
   induction qs with
   | nil=>rfl
   | cons q qs ih=>
     have:=h1 q dg
     rw [cj,gF,aA (aX (show 0<q.2.2.1-fL [] q.1 by rw [xC];omega)),<-ih (fun x hx=>h1 x (cK _ hx)) (fun r hr=>absurd hr (by simp)),xC,Int.sub_zero]
 | r::rs,qs,nd,h1,h2=>by
   obtain ⟨n1,n2⟩:=fU.mp (show (r.1::rs.map (fun r:Row=>r.1)).Nodup from nd)
   rw [iV,DR rs (pI qs r) n2 ?_ ?_]
   . exact Be qs r rs n1 h1 (h2 r dg)
   . intro x hx
     obtain ⟨a,q,hq,e⟩:=DQ hx
     have:=h1 q hq
     by_cases c:q.1=r.1
     . rw [aA c] at e
       have:=h2 r dg q hq c
       rw [e] at a ⊢
       have a:q.2.2.1-r.2≠0:=a
       show 1<=q.2.2.1-r.2
       omega
     . rw [az c] at e;rw [e];exact this
   . intro y hy x hx ex
     obtain ⟨_,q,hq,e⟩:=DQ hx
     by_cases c:q.1=r.1
     . rw [aA c] at e
       rw [e] at ex
       exact absurd (bJ.mpr ⟨y,hy,ex.symm.trans c⟩) n1
     . rw [az c] at e
       rw [e] at ex ⊢
       exact h2 y (cK _ hy) q hq ex
theorem GX (st:HS) (rs:List Row):(iY st rs).own=st.own:=by
 unfold iY
 have:∀(rs:List Row) (s:HS),(rs.foldl dz s).own=s.own:=fun rs=>by
  induction rs with
  | nil=>intro s;rfl
  | cons r rs ih=>intro s;rw [iV,ih];rfl
 rw [this]
 unfold a_
 rw [tK]
theorem qd:∀(rs:List Row) (s:HS),rs.foldl dz s={ s with ak:=(rs.foldl dz s).ak }
 | [],_=>rfl
 | r::rs,s=>by
   rw [iV,qd rs (dz s r)]
   rfl
theorem vI {f:Int->Int->Int} (hf:f 0 0=0) {xs ys:List Int} (h:xs.length=ys.length) (j:Nat):(List.zipWith f xs ys).getD j 0=f (xs.getD j 0) (ys.getD j 0):=by
 rw [jJ,jJ,jJ,LQ]
 by_cases c:j<xs.length
 . rw [bB c,bB (by omega)];rfl
 . rw [yT (by omega),yT (by omega)];exact hf.symm
theorem OW {st st':HS} {kept whole:Int} {added:List Int} (wf:Wf st) (bl:oM st kept whole lost added) (ec:st'.bq=(a_ st kept whole added).bq) (ep:st'.prod=(a_ st kept whole added).prod) {p':Pt} (hp:p∈st.ak) (e2:p'.row=p.row) (e3:p'.sc=p.sc*kept / cC st kept whole added)
  {t0 gB B:Int} {j:Nat} (tj:t0*st.prod=(bf st p).getD j 0*B) (eB:gB*st.prod=added.getD j 0*B):(t0*kept+gB)*st'.prod=(bf st' p').getD j 0*(B*whole):=by
 obtain ⟨hd,Ws,hds,hdc⟩:=bl.dvds
 have abz:st'.bq=(eZ st kept added).map (· / cC st kept whole added):=by
  rw [ec];unfold a_;rw [DL]
 have s1:1<=whole / cC st kept whole added:=by
  have w1:0<whole:=by have:=bl.l;have:=bl.w;have:=bl.k;omega
  have:=Int.le_of_dvd w1 Ws
  exact Int.le_ediv_of_mul_le hd (by omega)
 have R_:st'.prod=st.prod*(whole / cC st kept whole added):=by
  rw [ep];unfold a_;rw [Bb s1]
 have hds:=hds p hp
 have hrl:=wf.rows p hp
 have hcl:=wf.fK
 have gl:=bl.len
 have ewd:cC st kept whole added*(whole / cC st kept whole added)=whole:=Int.mul_ediv_cancel' Ws
 have a5:cC st kept whole added*p'.sc=p.sc*kept:=by rw [e3];exact Int.mul_ediv_cancel' hds
 rw [R_]
 clear ec ep R_ e3 bl Ws hds s1
 generalize cC st kept whole added=d at *
 have etop:d*(bf st' p').getD j 0=(bf st p).getD j 0*kept+added.getD j 0:=by
  have a1:(bf st' p').getD j 0=p'.sc*p.row.getD j 0+((eZ st kept added).map (· / d)).getD j 0:=by
   unfold bf
   rw [abz,e2,vI (f:=fun r c=>p'.sc*r+c) (by show p'.sc*0+0=0;omega)]
   rw [aC]
   unfold eZ
   rw [jY,gl,hrl,hcl]
   omega
  have a2:(bf st p).getD j 0=p.sc*p.row.getD j 0+st.bq.getD j 0:=by
   unfold bf
   exact vI (f:=fun r c=>p.sc*r+c) (by show p.sc*0+0=0;omega) (by rw [hrl,hcl]) j
  have a3:(eZ st kept added).getD j 0=st.bq.getD j 0*kept+added.getD j 0:=by
   unfold eZ
   exact vI (f:=fun t m=>t*kept+m) (by show (0:Int)*_+0=0;omega) gl.symm j
  have a4:d*((eZ st kept added).map (· / d)).getD j 0=(eZ st kept added).getD j 0:=by
   rw [jJ,jJ,b_]
   cases ec:(eZ st kept added)[j]? with
   | none=>show _*0=(0:Int);omega
   | some x=>exact Int.mul_ediv_cancel' (hdc x (bR ec))
  rw [a1,u9,<-iX,a5,a4,a3,a2]
  grind
 generalize whole / d=OX at *
 generalize (bf st' p').getD j 0=T' at *
 generalize (bf st p).getD j 0=T at *
 generalize added.getD j 0=gS at *
 refine Int.eq_of_mul_eq_mul_left (a:=d) (by omega) ?_
 have l1:d*((t0*kept+gB)*(st.prod*OX))=(t0*st.prod*kept+gB*st.prod)*(d*OX):=by grind
 have l2:d*(T'*(B*whole))=(d*T')*(B*whole):=by grind
 rw [l1,l2,ewd,tj,eB,etop]
 grind
theorem yN:∀{l:List Int} {i:Nat} {x:Int},i<l.length->(l.set i (l.getD i 0+x)).sum=l.sum+x
 | a::l,0,x,_=>by rw [LW,fG,fG];show a+x+_=_;omega
 | a::l,i+1,x,h=>by
   rw [FF,fG,fG]
   have:=yN (l:=l) (i:=i) (x:=x) (by simpa using h)
   have e:(a::l).getD (i+1) 0=l.getD i 0:=rfl
   rw [e,this];omega
 | [],_,_,h=>by simp at h
theorem Le (k:Int):∀{ts gs:List Int},ts.length=gs.length->(List.zipWith (fun t g=>t*k+g) ts gs).sum=ts.sum*k+gs.sum
 | [],[],_=>by simp
 | t::ts,g::gs,h=>by
   have:=Le k (ts:=ts) (gs:=gs) (by simpa using h)
   rw [B0,fG,fG,fG,this,u_];omega
 | [],_::_,h=>by simp at h
 | _::_,[],h=>by simp at h
theorem T9 (st:HS) (rs:List Row):(iY st rs).kn<=st.kn:=by
 unfold iY
 rw [qd]
 show (a_ st (aY st-bu rs) (aY st) (j9 st rs)).kn<=st.kn
 unfold a_ dJ
 split
 . exact gH _
 . exact aK _
theorem GY (n:Nat):(List.replicate n (0:Int)).sum=0:=by
 induction n with
 | zero=>rfl
 | succ n ih=>rw [yV,fG,ih];rfl
theorem nE:∀(l:List Str) (st:HS),st.ak=[]->(∀u∈st.bO,u=0)->(l.foldl fV st).ak=[]/\(l.foldl fV st).nms=st.nms/\(l.foldl fV st).stp=st.stp/\(l.foldl fV st).prod=st.prod/\(l.foldl fV st).c7=st.c7/\∀u∈(l.foldl fV st).bO,u=0
 | [],_,h,hp=>⟨h,Z,Z,Z,Z,hp⟩
 | o::l,st,h,hp=>by
   rw [iV]
   exact nE l (fV st o) (by show st.ak.map _=[];rw [h];rfl) (fun u hu=>by
    rcases fZ.mp (show u∈st.bO++[0] from hu) with z|z
    . exact hp u z
    . exact fT.mp z)
def yO (K:Fg) (ρ:dO) (H:Hp) (z:Addr) (xs:List V):Prop:=∀(ρ':dO) (H':Hp),aO (out ρ H) (out ρ' H')->aF K H' z xs
theorem yO.of (h:aF K H z xs):yO K (fun _=>none) H z xs:=fun ρ' H' s=>by
 rcases h with (h|⟨o,h⟩)|h
 . exact .inl (.inl (j6 (s _ _ (p5 h rfl))).1)
 . exact .inl (.inr ⟨o,(j6 (s _ _ (p5 h rfl))).1⟩)
 . exact .inr h
theorem yO.go (h:yO K ρ H z xs) (s:aO (out ρ H) (out ρ' H')):yO K ρ' H' z xs:=fun _ _ s'=>h _ _ (s.trans s')
theorem aF.outs (h:aF K H z xs) (c:ρ z=none) (s:aO (out ρ H) (out ρ' H')):aF K H' z xs:=by
 rcases h with (h|⟨o,h⟩)|h
 . exact .inl (.inl (j6 (s _ _ (p5 h c))).1)
 . exact .inl (.inr ⟨o,(j6 (s _ _ (p5 h c))).1⟩)
 . exact .inr h
theorem HH.other {n:Nat} (h:HH T n ρ A H st) (f:Fr m ρ H ρ' H') (g:Gh ρ' H') (e:n≠m):HH T n ρ' A H' st:=⟨g,h.h.other f h.g e,h.wf⟩
theorem zu:∀(l:List Str) (st:HS),(l.foldl fV st).kn=st.kn
 | [],_=>rfl
 | o::l,st=>by rw [iV,zu l];rfl
structure eE (K:Fg) (x:Str) (st:Stmt):Prop where
 ex:∃(f:Addr) (oc:Value) (od an:Option Addr) (sl:Array (Option Value)) (kV dc pm cd ct:Value),PySem.W.nsIn K mainGlobals x=some (some (.ref f))/\K.lookup f=some ⟨oc,od, .func (PySem.W.fnOf x x (dF st) (bX st) (aB st) .none kV dc pm an cd ct),sl⟩/\PySem.W.codeIn K cd x=true/\PySem.W.keepIn K (.ref f)=true
theorem eE.at {st:Stmt} (d:eE K x st) (X:K.In h) (G:h.Ns mainGlobals mg):∃f fd,At K mg x st f fd:=by
 obtain ⟨f,oc,od,an,sl,kV,dc,pm,cd,ct,a,l,c,k⟩:=d.ex
 exact ⟨f,_,RW X G a l c k⟩
structure cV (K:Fg) (C:Addr) (n qual:Str) (st:Stmt):Prop where
 ex:∃(f:Addr) (oc:Value) (od an:Option Addr) (sl:Array (Option Value)) (kV dc pm cd ct:Value),PySem.W.findIn K (.ref C) n=some (some (.ref f))/\PySem.W.isFn K (.ref f)=true/\K.lookup f=some ⟨oc,od, .func (PySem.W.fnOf n qual (dF st) (bX st) (aB st) .none kV dc pm an cd ct),sl⟩/\PySem.W.codeIn K cd qual=true/\PySem.W.keepIn K (.ref f)=true
theorem cV.at {n:Str} {st:Stmt} (d:cV K C n qual st) (cl:m7 K C):∃f fd,gh K C n qual st f fd:=by
 obtain ⟨f,oc,od,an,sl,kV,dc,pm,cd,ct,a,i,l,c,k⟩:=d.ex
 exact ⟨f,_,Gg l c k,⟨a,i,k⟩,cl⟩
theorem cV.made {st:Stmt} (d:cV K C "__init__" qual st) (X:K.In h) (G:h.Ns mainGlobals mg) (a0:PySem.W.nsIn K mainGlobals x=some (some (.ref C))) (m:PySem.W.makesIn K C=true) (kc:PySem.W.keepIn K (.ref C)=true):∃f fd,DF K mg x C qual st f fd:=by
 obtain ⟨f,oc,od,an,sl,kV,dc,pm,cd,ct,a,i,l,c,k⟩:=d.ex
 exact ⟨f,_,Gg l c k,⟨m,a,i,kc⟩,pC X G a0⟩
variable {oc pm ct:Value} {od an:Option Addr} {sl:Array (Option Value)}
theorem eE.of {st:Stmt} {kV dc cd:Value} (a:PySem.W.nsIn K mainGlobals x=some (some (.ref f))) (l:K.lookup f=some ⟨oc,od, .func (PySem.W.fnOf x x (dF st) (bX st) (aB st) .none kV dc pm an cd ct),sl⟩) (c:PySem.W.codeIn K cd x=true) (k:PySem.W.keepIn K (.ref f)=true):eE K x st:=⟨⟨_,_,_,_,_,_,_,_,_,_,a,l,c,k⟩⟩
theorem cV.of {n:Str} {st:Stmt} {kV dc cd:Value} (a:PySem.W.findIn K (.ref C) n=some (some (.ref f))) (i:PySem.W.isFn K (.ref f)=true) (l:K.lookup f=some ⟨oc,od, .func (PySem.W.fnOf n qual (dF st) (bX st) (aB st) .none kV dc pm an cd ct),sl⟩) (c:PySem.W.codeIn K cd qual=true) (k:PySem.W.keepIn K (.ref f)=true):cV K C n qual st:=⟨⟨_,_,_,_,_,_,_,_,_,_,a,i,l,c,k⟩⟩
section
variable {X:Cx}
variable {o i:Expr} {pos:Pos} {td ty:TE}
end
section
variable {a b:List Nat} {m v:Int} (ha:nc a) (hb:nc b) (hm:1<=m) (hm2:m<=1000000000) (hv:0<=v) (hv2:v<=1000000000)
include ha hb hm hm2 hv hv2 in
end
section
variable {X:Cx}
end
section
variable {X:Cx}
end
def ZH (h:Heap) (x T C:Addr):Prop:=∃oe vs a0 oT ts,h.get? x=some oe/\oe.cls = .ref C/\vs[0]?=some a0/\oe.data = .fields vs/\vs[1]?=some (.ref T)/\T≠x/\h.get? T=some oT/\oT.data = .fields ts/\ts[3]?=some .none
def fE (P:Program) (w:World):uD:=fun outer H s E e s'=>∃(x T C:Addr) (H':Hp),e = .ref x/\s'.os=s.os/\AllBare s'.gens/\Un (frs outer) [] H H' s.heap s'.heap/\f_ P w H' s'.heap/\ZH s'.heap x T C/\
 s.heap.get? x=none/\s.heap.get? T=none/\H' x=none/\H' T=none/\E e (some C) H'
variable {h':Heap}
theorem f_.Wt {w:World} (x:f_ P w H h) (k:∀b o u,H b=some o->h.get? b=some u->h'.get? b=some u):f_ P w H h':=fun a o e=>
 (x a o e).stay (fun b u hb q=>by
   rcases hb with rfl|hb
   . exact k _ _ _ e q
   . exact k _ _ _ hb q) (fun _ q=>q) fun _ _ q=>q
theorem dS.isAt {w:World} (x:dS P w H h a o):∃u,h.get? a=some u:=by
 cases o with
 | lst xs=>obtain ⟨_,_,_,_,e⟩:=x;exact ⟨_,e⟩
 | tup xs=>obtain ⟨_,_,_,p⟩:=x;obtain ⟨o,e,_⟩:=p;exact ⟨_,e⟩
 | dK kvs=>obtain ⟨_,_,_,_,o,_,_,e,_⟩:=x;exact ⟨_,e⟩
 | dT kvs=>obtain ⟨_,_,_,_,o,_,_,e,_⟩:=x;exact ⟨_,e⟩
 | set S n=>obtain ⟨o,_,_,_,e,_⟩:=x;exact ⟨_,e⟩
 | ins C dx fs=>obtain ⟨_,_,_,e,_⟩:=x;exact ⟨_,e⟩
 | own y=>obtain ⟨_,e⟩:=x;exact ⟨_,e⟩
 | xd fs=>obtain ⟨_,⟨_,_,_,e,_⟩,_⟩:=x;exact ⟨_,e⟩
 | sZ lo hi=>obtain ⟨_,_,_,e⟩:=x;exact ⟨_,e⟩
 | fk ob u=>obtain ⟨e,_⟩:=x;exact ⟨_,e⟩
 | Dj ps=>exact ⟨_,(show h.get? a=some _ from x)⟩
 | met f y=>exact ⟨_,(show h.get? a=some _ from x)⟩
 | ext φ=>obtain ⟨_,⟨_,e⟩,_⟩:=x;exact ⟨_,e⟩
section
variable {P:Program} {w:World} {K:Fg} {mg:SO} {base:Heap} {N:List Str} {qual:Str} {scope:Scope} {f:Addr} {cd:Value} {A:Around} {outer:List Env} {s0:Shared} {H0:Hp} {E:XK} {CX:uD}
theorem Lf {x:Addr} {a0:Value} {B:Heap} (I:Inv (b8 CX P w K mg base N qual scope f cd A outer s0 H0 E) pins σ H s)
  (hB:∀b o,s.heap.get? b=some o->b∉frs (envOfC qual scope s0.heap.objs.size f cd::outer)->s0.heap.get? b≠none\/H b≠none->B.get? b=some o)
  (hfl:Heap.FlyingW B outer x (.ref C) a0 h') (hup:s.heap.UpToSlots h') (hx:s0.heap.get? x=none) (DS:H x=none)
  (q:E (.ref x) (some C) H):fE P w outer H0 s0 E (.ref x) { s with heap:=h' }:=by
 obtain ⟨st,bx,fr,oe,vs,T,oT,ts,h1,⟨h2,h3⟩,h4,h5,h6,h7,h8,h9,wC⟩:=hfl
 have YM:T∉frs outer:=fun m=>by
  obtain ⟨_,o,ho,hd⟩:=fr.mem m
  rw [h8] at ho;cases ho
  exact hd _ h9
 have L0:s0.heap.get? s0.heap.objs.size=none:=Heap.get?_none_of_le (aK _)
 have big:∀b o,s0.heap.get? b=some o->b∉frs outer->b∉frs (envOfC qual scope s0.heap.objs.size f cd::outer):=fun b o e n m=>by
  have m':b∈s0.heap.objs.size::frs outer:=m
  rcases c8.mp m' with z|z
  . rw [z,L0] at e;cases e
  . exact n z
 have hT0:s0.heap.get? T=none:=by
  cases e:s0.heap.get? T with
  | none=>rfl
  | some o=>
    obtain ⟨o',ho'⟩:=I.base.there T o e (by simp [b8])
    have:=hB T o' ho' (big T o e YM) (.inl (by rw [e];exact fun z=>nomatch z))
    rw [h6] at this;cases this
 have OY:H T=none:=by
  cases e:H T with
  | none=>rfl
  | some o=>
    have lt:=I.hok.lt e
    have nst:T∉frs (envOfC qual scope s0.heap.objs.size f cd::outer):=fun m=>by
     have:=I.yg T m
     rw [e] at this;cases this
    have hob:∃u,s.heap.get? T=some u:=(I.hok T o e).isAt
    obtain ⟨u,hu⟩:=hob
    have:=hB T u hu nst (.inr (by rw [e];exact fun z=>nomatch z))
    rw [h6] at this;cases this
 refine ⟨x,T,C,H,Z,I.os,I.bare,⟨fun b o e n nf _=>?_,fun b o e n m _=>?_,fun b o e n _=>?_,fun b o e _=>?_,I.base.tups,I.base.oE,I.base.rB⟩,?_,⟨oe,vs,a0,oT,ts,h1,h2,h3,h4,h5,h7,h8,h9,wC⟩,hx,hT0,DS,OY,q⟩
 . exact st b o (hB b o (I.base.keep b o e n nf (by simp [b8])) (big b o e nf) (.inl (by rw [e];exact fun z=>nomatch z)))
 . obtain ⟨sl,hs⟩:=I.base.slot b o e n m (by simp [b8])
   have ZI:=I.ok.mY
   obtain ⟨_,o',ho',hd'⟩:=ZI.mem m
   obtain ⟨UR,hs'⟩:=hup b _ hs (fun vs z=>by
    have ho2:s0.heap.get? b=some o':=ho'
    rw [e] at ho2;cases ho2
    exact hd' vs z)
   exact ⟨UR,hs'⟩
 . exact I.base.free b o e n (by simp [b8])
 . obtain ⟨o',ho'⟩:=I.base.there b o e (by simp [b8])
   by_cases m:b∈frs outer
   . have ZI:=I.ok.mY
     obtain ⟨_,o2,ho2,hd2⟩:=fr.mem m
     exact ⟨o2,ho2⟩
   . exact ⟨o',st b o' (hB b o' ho' (big b o e m) (.inl (by rw [e];exact fun z=>nomatch z)))⟩
 . exact I.hok.Wt fun b o u e hu=>st b u (hB b u hu (fun m=>by have:=I.yg b m;rw [e] at this;cases this) (.inr (by rw [e];exact fun z=>nomatch z)))
theorem QX {x T:Addr} (I:Inv (b8 (fE P w) P w K mg base N qual scope f cd A outer s0 H0 E) pins σ H s) (t:ZH s.heap x T C) (hx:s0.heap.get? x=none) (hT:s0.heap.get? T=none) (DS:H x=none) (OY:H T=none)
  (q:E (.ref x) (some C) H):(b8 (fE P w) P w K mg base N qual scope f cd A outer s0 H0 E).xe (.ref x) s:=by
 obtain ⟨oe,vs,a0,oT,ts,h1,h2,h3,h4,h5,h6,h7,h8,h9⟩:=t
 have hst:=I.stack
 have QY:s.heap.FunFrames base (envOfC qual scope s0.heap.objs.size f cd::outer):=hst
 have hin:∀env∈(envOfC qual scope s0.heap.objs.size f cd::outer),∀b,env.frame=some b->b∈x::T::frs (envOfC qual scope s0.heap.objs.size f cd::outer):=fun env he b hb=>cK _ (cK _ (B_.mpr ⟨env,he,hb⟩))
 refine wpAny_leaves_onW (base:=PySem.W.hideAll s.heap (x::T::frs (envOfC qual scope s0.heap.objs.size f cd::outer))) (L:=s0.heap.objs.size) (cls:= .ref C) (a0:=a0) (outer:=outer) I.ok.frames rfl ⟨fun b o e=>PySem.W.of_hideAll _ e,PySem.W.hideAll_none _ dg,PySem.W.funFrames_hide QY hin,oe,vs,T,oT,ts,h1,⟨h2,h3⟩,h4,h5,PySem.W.hideAll_none _ (cK _ dg),h6,h7,h8,h9⟩ fun h' fl up=>?_
 refine Lf I (fun b o e n hb=>PySem.W.hideAll_get _ e fun m=>?_) fl up hx DS q
 rcases c8.mp m with z|m
 . rw [z] at hb
   rcases hb with hb|hb
   . exact hb hx
   . exact hb DS
 . rcases c8.mp m with z|m
   . rw [z] at hb
     rcases hb with hb|hb
     . exact hb hT
     . exact hb OY
   . exact n m
theorem Sa:Passes (fE P w) (b8 (fE P w) P w K mg base N qual scope f cd A outer s0 H0 E) E:=fun pins σ H s e s' I h=>by
 obtain ⟨x,T,C,H',rfl,os,bare,un,hok,t,hx,hT,DS,OY,q⟩:=h
 have I':Inv (b8 (fE P w) P w K mg base N qual scope f cd A outer s0 H0 E) pins σ H' s':=I.L_ (ch:=[]) os un hok bare (fun b z=>absurd z (by simp))
 have old:∀b,s.heap.get? b=none->s0.heap.get? b=none:=fun b e=>by
  cases q:s0.heap.get? b with
  | none=>rfl
  | some o=>
    obtain ⟨o',ho'⟩:=I.base.there b o q (by simp [b8])
    rw [e] at ho';cases ho'
 exact QX I' t (old x hx) (old T hT) DS OY q
theorem MK {x:Addr} {args:List Value} (I:Inv (b8 (fE P w) P w K mg base N qual scope f cd A outer s0 H0 E) pins σ H s) (hm:Heap.MadeExcOf s.heap h1 x (.ref C) args)
  (q:E (.ref x) (some C) H):(b8 (fE P w) P w K mg base N qual scope f cd A outer s0 H0 E).xe (.ref x) { s with heap:=h1 }:=by
 have QY:s.heap.FunFrames base (envOfC qual scope s0.heap.objs.size f cd::outer):=I.stack
 have hin:∀env∈(envOfC qual scope s0.heap.objs.size f cd::outer),∀b,env.frame=some b->b∈frs (envOfC qual scope s0.heap.objs.size f cd::outer):=fun env he b hb=>B_.mpr ⟨env,he,hb⟩
 have I1:Inv (b8 (fE P w) P w K mg base N qual scope f cd A outer s0 H0 E) pins σ H { s with heap:=h1 }:=I.kept (t':=s.toks) hm.keeps
 have DS:H x=none:=by
  cases e:H x with
  | none=>rfl
  | some o=>
    obtain ⟨u,hu⟩:=(I.hok x o e).isAt
    rw [hm.new] at hu;cases hu
 have hx0:s0.heap.get? x=none:=by
  cases e:s0.heap.get? x with
  | none=>rfl
  | some o=>
    obtain ⟨o',ho'⟩:=I.base.there x o e (by simp [b8])
    rw [hm.new] at ho';cases ho'
 refine wpAny_leaves_madeW (base:=PySem.W.hideAll s.heap (frs (envOfC qual scope s0.heap.objs.size f cd::outer))) (h:=s.heap) (L:=s0.heap.objs.size) (outer:=outer) I.ok.frames rfl (fun b o e=>PySem.W.of_hideAll _ e) (PySem.W.funFrames_hide QY hin) hm fun h' t fl _ _ up=>?_
 refine Lf I1 (fun b o e n hb=>PySem.W.hideAll_get _ ?_ n) fl up hx0 DS q
 rcases hb with hb|hb
 . cases e0:s0.heap.get? b with
   | none=>exact absurd e0 hb
   | some o0=>
     obtain ⟨o',ho'⟩:=I.base.there b o0 e0 (by simp [b8])
     have e':h1.get? b=some o:=e
     have:=hm.keeps b o' ho'
     rw [e'] at this;cases this
     exact ho'
 . cases e0:H b with
   | none=>exact absurd e0 hb
   | some o0=>
     obtain ⟨o',ho'⟩:=(I.hok b o0 e0).isAt
     have e':h1.get? b=some o:=e
     have:=hm.keeps b o' ho'
     rw [e'] at this;cases this
     exact ho'
end
def Wu:List Value:=[.type "ValueError", .type "Exception", .type "BaseException", .type "object"]
structure fW (K:Fg) (C:Addr):Prop where
 ex:∃(nm q:Str) (N:Addr) (bs bm:List Value) (hdct:Bool) (sn:List Str) (sub:List Value) (ab:Bool) (col:Option Bool) (dd:Option Addr) (k0 k1 k2 k3 k5:Option Value) (mN:SO),mN "__init__"=none/\bm.contains (.type "BaseException")=true/\∀h:Heap,K.In h->
  h.get? C=some (excClassObj nm q C N bs bm hdct sn sub ab col dd k0 k1 k2 k3 k5 "ValueError.__new__")/\h.Ns N mN/\OwnTail h Wu bm
section
variable {P:Program} {w:World} {K:Fg} {mg:SO} {base:Heap} {N:List Str} {qual:Str} {scope:Scope} {f:Addr} {cd:Value} {A:Around} {outer:List Env} {s0:Shared} {H0:Hp} {E:XK}
def Wv (C:Addr) (E:XK):TS:=fun _ _ H=>∀x,E (.ref x) (some C) H
structure Dx (P:Program) (w:World) (K:Fg) (mg:SO) (base:Heap) (k:Nat) (x:Str) (ps:List Str) (sp:Sp):Prop where
 ex:∃f fd,iC P w K mg base (fE P w) k f fd ps sp/\Binds K fd ps []/\PySem.W.keepIn K (.ref f)=true/\mg x=some (.ref f)
theorem At.Ww {st:Stmt} {f:Addr} {N:List Str} {k:Nat} (F:At K mg x st f fd) (S:aM N ps (aB st)) (len:∀vs H Q E,sp vs H Q E->vs.length=ps.length)
  (hbody:∀(cdv:Value) (A:Around) (outer:List Env) (s:Shared) (H:Hp) (vs:List V) (Q:VK) (E:XK),cW k (A.deeper (envOfC x (aB st) s.heap.objs.size f cdv))->sp vs H Q E->
    ∃t,oh (b8 (fE P w) P w K mg base N x (aB st) f cdv A outer s H E) (bX st) t/\t { nx:=fun _ H'=>Q .bL H',rt:=Q } (start N vs) H)
  (h:∀(kV doc pm:Value) (an:Option Addr) (cdv ct:Value) (us:List Value),us.length=ps.length->bindArgs (PySem.W.fnOf x x (dF st) (bX st) (aB st) .none kV doc pm an cdv ct) ⟨us,[]⟩=pure (ps.zip us)):
  Dx P w K mg base (k+1) x ps sp:=by
 refine ⟨f,fd,?_,F.fn.binds h,F.fn.kp,F.name⟩
 obtain ⟨oc,od,kV,doc,pm,an,cdv,ct,osl,rfl,lk,hcd⟩:=F.fn.ex
 exact Mp lk hcd S len fun A outer s H vs Q E hr m8=>hbody cdv A outer s H vs Q E hr m8
end
section
variable {X:Cx} {pins:AO} {σ:St} {Hc H:Hp} {sc s:Shared} {x C:Addr} {fl:Value}
end
section
variable {X:Cx} {pins:AO} {σ:St} {Hc H:Hp} {sc s:Shared} {x C:Addr} {fl:Value}
end
section
variable {X:Cx} {pins:AO} {σ:St} {Hc H:Hp} {sc s:Shared} {x C:Addr} {fl:Value}
end
open PySem.W PySem.Calls Builtin.ObjectAttr Builtin.Getset_descriptor
section
variable {prog:Program} {w:World} {A:Around} {E:VS} {h:Heap} {g:Array GenState} {d:Drawn} {t:Nat} {os:OsState} {x C:Addr} {o:Obj} {K:Frag} {R:Result->Shared->Prop}
end
theorem GZ {K:Frag} {bmB:List Value} {x:Value} (hb:bmB.contains x=true):∀{l:List Value},tailIn K bmB l=true->l.contains x=true
 | [],e=>by rw [lG.mp (show (bmB==[])=true from e)] at hb;exact hb
 | v::r,e=>by
   unfold tailIn at e
   rcases B8.mp e with q|q
   . rw [lG.mp q];exact hb
   . split at q
     . split at q
       . simp only [FH] at q
         rw [List.contains_cons,GZ hb q.2,Bool.or_true]
       . cases q
     . cases q
def uL (K:Frag) (N:Addr) (x:Str):Option Value:=match K.lookup N with
 | some o=>(match o.data with | .dict es _=>nsFind es x|_=>none)
 | none=>none
theorem ML {K:Frag} {N:Addr} (X:K.In h) (e:nsOkIn K N=true):h.nsMap N=uL K N:=by
 unfold nsOkIn at e
 split at e
 . rename_i ho
   funext x
   unfold uL Heap.nsMap
   rw [X _ _ ho,ho]
 . cases e
theorem G_ {K:Frag} {N:Addr} (q:nsIn K N x=some none):uL K N x=none:=by
 unfold nsIn at q
 unfold uL
 split at q
 . rename_i c d es n sl ho
   rw [ho]
   show nsFind es x=none
   split at q
   . cases q
   . rename_i he
     unfold nsFind findBy
     rw [<-Array.find?_toList,he]
     rfl
 . cases q
theorem fW.of {K:Frag} (q:excIn K C Wu "ValueError.__new__"=true):fW K C:=by
 unfold excIn at q
 split at q
 . rename_i dd cd sl ho
   split at q
   . rename_i C' bm k0 k1 k2 k3 n k5 hm hs
     simp only [FH,lG,Bool.not_eq_true'] at q
     obtain ⟨⟨⟨⟨⟨rfl,rfl⟩,Wx⟩,ht⟩,hok⟩,hni⟩:=q
     obtain ⟨nm,bs,mro,ns,qn,hd,sn,sub,ab,col,del⟩:=cd
     dsimp only at hm Wx hok hni
     subst hm Wx
     have hsl:sl=#[k0,k1,k2,k3,some (.builtin "ValueError.__new__"),k5] :=by
      obtain ⟨l⟩:=sl
      simp only at hs
      rw [hs]
     subst hsl
     refine ⟨nm,qn,ns,bs,bm,hd,sn,sub,ab,col,dd,k0,k1,k2,k3,k5,uL K ns,G_ hni,GZ (by decide +kernel) ht,fun h X=>⟨X _ _ ho,?_,tail_of_in X ht⟩⟩
     have:=Heap.Ns.of_isNs (isNs_of_in X hok)
     rw [ML X hok] at this
     exact this
   . cases q
 . cases q
section
variable {X:Cx}
end
structure Ec where
 (bad twice MM Hf YN xD zx rows abA YO ad5:Addr)
section
end
structure Mx (P:Program) (w:World) (K:Fg) (mg:SO) (base:Heap) (k:Nat) (C:Addr) (m:Str) (ps:List Str) (sp:Sp):Prop where
 ex:∃f fd,iC P w K mg base (fE P w) k f fd ps sp/\Binds K fd ps []/\Meth K C m f/\m7 K C
theorem gh.Ww {w:World} {m:Str} {st:Stmt} {k:Nat} (F:gh K C m qual st f fd) (S:aM N ps (aB st)) (len:∀vs H Q E,sp vs H Q E->vs.length=ps.length)
  (hbody:∀(cdv:Value) (A:Around) (outer:List Env) (s:Shared) (H:Hp) (vs:List V) (Q:VK) (E:XK),cW k (A.deeper (envOfC qual (aB st) s.heap.objs.size f cdv))->sp vs H Q E->
    ∃t,oh (b8 (fE P w) P w K mg base N qual (aB st) f cdv A outer s H E) (bX st) t/\t { nx:=fun _ H'=>Q .bL H',rt:=Q } (start N vs) H)
  (h:∀(kV doc pm:Value) (an:Option Addr) (cdv ct:Value) (us:List Value),us.length=ps.length->bindArgs (PySem.W.fnOf m qual (dF st) (bX st) (aB st) .none kV doc pm an cdv ct) ⟨us,[]⟩=pure (ps.zip us)):
  Mx P w K mg base (k+1) C m ps sp:=by
 refine ⟨f,fd,?_,F.fn.binds h,F.me,F.cl⟩
 obtain ⟨oc,od,kV,doc,pm,an,cdv,ct,osl,rfl,lk,hcd⟩:=F.fn.ex
 exact Mp lk hcd S len fun A outer s H vs Q E hr m8=>hbody cdv A outer s H vs Q E hr m8
theorem iC.ZJ {w:World} {k:Nat} {DT:Sp} (F:iC P w K mg base (fE P w) k f fd ps sp) (h:∀vs H Q E,DT vs H Q E->sp vs H Q E0):iC P w K mg base qO k f fd ps DT:=
 ⟨fun vs H Q E q=>F.len _ _ _ _ (h _ _ _ _ q),fun A outer s H args us vs Q E hr he hb hv hs=>Ac (F.run A outer s H args us vs Q E0 hr he hb hv (h _ _ _ _ hs)) fun r s' q=>by
   cases r with
   | error e=>
     obtain ⟨x,T,C,H',_,_,_,_,_,_,_,_,_,_,z⟩:=(show fE P w outer H s E0 e s' from q)
     exact z.elim
   | ok fl=>cases fl <;> exact q⟩
theorem Mx.mn {w:World} {k:Nat} {m:Str} {DT:Sp} (D:Mx P w K mg base k C m ps sp) (h:∀vs H Q E,DT vs H Q E->sp vs H Q E0):Mn P w K mg base k C m ps DT:=by
 obtain ⟨f,fd,F,b,me,c⟩:=D.ex
 exact ⟨f,fd,F.ZJ h,b,me,c⟩
theorem Dx.dn {w:World} {k:Nat} {DT:Sp} (D:Dx P w K mg base k x ps sp) (h:∀vs H Q E,DT vs H Q E->sp vs H Q E0):Dn P w K mg base k x ps DT:=by
 obtain ⟨f,fd,F,b,kp,m⟩:=D.ex
 exact ⟨f,fd,F.ZJ h,b,kp,m⟩
section
variable {P:Program} {w:World} {K:Fg} {mg:SO} {base:Heap} {N:List Str} {qual:Str} {scope:Scope} {f:Addr} {cd:Value} {A:Around} {outer:List Env} {s0:Shared} {H0:Hp} {E:XK}
end
section
variable {X:Cx}
end
def Ec.at (e:Ec):Nat->Addr
 | 0=>e.bad|1=>e.twice|2=>e.MM|3=>e.Hf|4=>e.YN|5=>e.xD|6=>e.zx|7=>e.rows|8=>e.abA|_=>e.YO
def Rf (e:Ec) (E:XK) (H:Hp) (i:Nat):Prop:=∀x H',aO H H'->E (.ref x) (some (e.at i)) H'
structure DU (T:TC) (e:Ec) (n:Nat) (ρ:dO) (A:HA) (H:Hp) (r:Option Nat) (st':HS) (Q:VK) (E:XK):Prop where
 no:∀i,r=some i->Rf e E H i
 ok:r=none->tG T n ρ A H st' fun H'=>Q .bL H'
def newR (st:HS) (x:Str):Option Nat:=if isNm x=true then (if x∈st.nms then some 1 else none) else some 0
def vJ (st:HS) (o:Str):Option Nat:=if isNm o=true then (if o∈st.own then some 1 else none) else some 0
def Bf (st:HS) (x o:Str) (wo we:Int):Option Nat:=match newR st x with
 | some i=>some i
 | none=>if o∈st.own then (if wo<1\/we<0 then some 5 else none) else some 2
inductive T_ (T:TC) (e:Ec) (vs:List V) (H:Hp) (Q:VK) (E:XK):Prop
 | mk (n ρ A st o:_) (_:vs=[.ref A.a, .str o]) (_:aL T n ρ A H st) (_:(o∉st.own->Rf e E H 2)) (_:(o∈st.own->Q (.int (st.own.idxOf o:Int)) H))
def vK (T:TC) (e:Ec):Sp:=bx (T_ T e)
inductive QZ (T:TC) (e:Ec) (vs:List V) (H:Hp) (Q:VK) (E:XK):Prop
 | mk (n ρ A st x:_) (_:vs=[.ref A.a, .str x]) (_:aL T n ρ A H st) (_:(st.ak.map (·.nm)).Nodup) (_:((∀p∈st.ak,p.nm≠x)->Rf e E H 3)) (_:∀(i:Nat) (p:Pt) (q:Addr×Addr×Addr),p.nm=x->st.ak[i]?=some p->A.qs[i]?=some q->Q (.ref q.1) H)
def j_ (T:TC) (e:Ec):Sp:=bx (QZ T e)
inductive MN (T:TC) (e:Ec) (vs:List V) (H:Hp) (Q:VK) (E:XK):Prop
 | mk (n ρ A st x:_) (_:vs=[.ref A.a, .str x]) (_:aL T n ρ A H st) (_:x.cps.toList.length<=100000) (_:(∀i,newR st x=some i->Rf e E H i)) (_:(newR st x=none->∀H',aO H H'->Q .bL H'))
def ud (T:TC) (e:Ec):Sp:=bx (MN T e)
theorem xE (h1:isNm x=true) (h2:x∉st.nms):newR st x=none:=by unfold newR;rw [aA h1,az h2]
theorem MO {o:Str} (h1:isNm x=true) (h2:x∉st.nms) (h3:o∈st.own) (h4:1<=wo) (h5:0<=we):Bf st x o wo we=none:=by
 unfold Bf;rw [xE h1 h2];show (if o∈st.own then _ else _)=_;rw [aA h3,az (by omega)]
variable {st':HS}
theorem DU.of {e:Ec} {n:Nat} {r:Option Nat} {Q:VK} (h:r=none) (q:tG T n ρ A H st' fun H'=>Q .bL H'):DU T e n ρ A H r st' Q E0:=⟨(fun i z=>by rw [h] at z;cases z),fun _=>q⟩
inductive Dd where
 | sign (o:Str)|load (x o:Str) (wo we:Int)|cast (rs:List Row)|award (o:Str) (a:Int)|mishap (x:Str) (a:Int)|rise (x:Str) (a:Int)|hand (x o:Str)|land (x:Str)|sever (x y:Str) (a we:Int)|still
def iM:List Row->List V
 | []=>[]
 | r::rs=> .str r.1 :: .int r.2::iM rs
def Dd.v:Dd->List V
 | .sign o=>[.str "sign", .str o]
 | .load x o wo we=>[.str "load", .str x, .str o, .int wo, .int we]
 | .cast rs=> .str "cast"::iM rs
 | .award o a=>[.str "award", .str o, .int a]
 | .mishap x a=>[.str "mishap", .str x, .int a]
 | .rise x a=>[.str "rise", .str x, .int a]
 | .hand x o=>[.str "hand", .str x, .str o]
 | .land x=>[.str "land", .str x]
 | .sever x y a we=>[.str "sever", .str x, .str y, .int a, .int we]
 | .still=>[.str "still"]
def fh (st:HS):List Str:=st.ak.map fun p=>p.nm
def jM (st:HS) (r:Row):Option Nat:=if r.1∈fh st then (if r.2<1 then some 5 else if (cy st r.1).wo<r.2 then some 6 else none) else some 3
def vL (st:HS) (rs:List Row):Option Nat:=if rs≠[]/\(rs.map fun r:Row=>r.1).Nodup then (match rs.findSome? (jM st) with
 | some i=>some i
 | none=>if aY st<=bu rs then some 6 else none) else some 7
def kg (st:HS) (o:Str) (a:Int):Option Nat:=if o∈st.own then (if a<1 then some 5 else if aY st<=a then some 6 else none) else some 2
def lK (st:HS) (x:Str) (a:Int):Option Nat:=if x∈fh st then (if a<1 then some 5 else none) else some 3
def kL (st:HS) (x o:Str):Option Nat:=if x∈fh st then (if o∈st.own then none else some 2) else some 3
def tN (st:HS) (x:Str):Option Nat:=if x∈fh st then none else some 3
def iN (st:HS) (x y:Str) (a we:Int):Option Nat:=if x∈fh st then (match newR st y with
 | some i=>some i
 | none=>if a<1\/we<0 then some 5 else if (cy st x).wo<=a\/(cy st x).we<we then some 6 else none) else some 3
def nF (st:HS):Dd->Option Nat
 | .sign o=>vJ st o
 | .load x o wo we=>Bf st x o wo we
 | .cast rs=>vL st rs
 | .award o a=>kg st o a
 | .mishap x a=>jM st (x,a)
 | .rise x a=>lK st x a
 | .hand x o=>kL st x o
 | .land x=>tN st x
 | .sever x y a we=>iN st x y a we
 | .still=>none
def Hg (st:HS) (o:Str) (a:Int):HS:=a_ st (aY st-a) (aY st) ((List.replicate st.own.length 0).set (st.own.idxOf o) (a*st.prod))
def nG (st:HS) (x:Str) (f:Pt->Pt):HS:={ st with ak:=st.ak.map fun p=>if p.nm=x then f p else p }
def Fp (st:HS) (x:Str) (a:Int):HS:=nG st x fun p=>{ p with wo:=p.wo+a }
def kM (st:HS) (p:Pt) (o:Str):List Int:=((bf st p).set (st.own.idxOf o) ((bf st p).getD (st.own.idxOf o) 0+(bf st p).getD (st.own.idxOf p.ow) 0)).set (st.own.idxOf p.ow) 0
def fj (st:HS) (x o:Str):HS:=if st.own.idxOf o=st.own.idxOf (cy st x).ow then st else nG st x fun p=>{ p with ow:=o,sc:=1,row:=j8 st (kM st p o) }
def iB (st:HS) (p:Pt):List Int:=List.zipWith (fun u t=>u+p.wo*t) st.bO (bf st p)
def vM (st:HS) (x:Str):HS:=
 { st with ak:=st.ak.filter (fun p=>decide (p.nm≠x))
           c7:=st.c7++[⟨x,(cy st x).ow,(cy st x).wo,p_ st (cy st x)⟩]
           kn:=st.kn+100
           bO:=(iB st (cy st x)).set (st.own.idxOf (cy st x).ow) ((iB st (cy st x)).getD (st.own.idxOf (cy st x).ow) 0-(cy st x).wo*st.prod) }
def nH (st:HS) (x y:Str) (a we:Int):HS:=AX (nG st x fun p=>{ p with wo:=p.wo-a,we:=p.we-we }) ⟨y,(cy st x).ow,a,we,(cy st x).sc,(cy st x).row⟩
def gJ (st:HS):Dd->HS
 | .sign o=>fV st o
 | .load x o wo we=>Fo st x o wo we
 | .cast rs=>iY st rs
 | .award o a=>Hg st o a
 | .mishap x a=>dz st (x,a)
 | .rise x a=>Fp st x a
 | .hand x o=>fj st x o
 | .land x=>vM st x
 | .sever x y a we=>nH st x y a we
 | .still=>st
def wl (s:Str):Nat:=s.cps.toList.length
section
variable {X:Cx}
end
section
variable {P:Program} {w:World} {K:Fg} {mg:SO} {base:Heap} {k:Nat} {T:TC} {e:Ec} {ps:List Str}
theorem Q0 (D:Mx P w K mg base k T.hold "place_of" ps (vK T e)):Mn P w K mg base k T.hold "place_of" ps (Cr T):=
 D.mn fun vs H Q E h=>by
   obtain ⟨⟨n,ρ,A,st,o,rfl,hx,ho,q⟩⟩:=h
   exact ⟨n,ρ,A,st,o,Z,hx,fun z=>absurd ho z,fun _=>q⟩
theorem OZ (D:Mx P w K mg base k T.hold "part_of" ps (j_ T e)):Mn P w K mg base k T.hold "part_of" ps (zf T):=
 D.mn fun vs H Q E h=>by
   obtain ⟨⟨n,ρ,A,st,i,p,qq,rfl,hx,nd,ep,eq,q⟩⟩:=h
   refine ⟨n,ρ,A,st,p.nm,Z,hx,nd,fun z=>absurd rfl (z p (bR ep)),fun j p' q' e1 e2 e3=>?_⟩
   have:j=i:=AU nd e2 ep e1
   subst this
   rw [eq] at e3;cases e3
   exact q
end
def nB (i:Int):Prop:=-1000000000<=i/\i<=1000000000
def Lg:Dd->Prop
 | .sign o=>wl o<=20
 | .load x o wo we=>wl x<=20/\wl o<=20/\nB wo/\nB we
 | .cast rs=>rs.length<=60/\∀r∈rs,wl r.1<=20/\nB r.2
 | .award o a=>wl o<=20/\nB a
 | .mishap x a=>wl x<=20/\nB a
 | .rise x a=>wl x<=20/\nB a
 | .hand x o=>wl x<=20/\wl o<=20
 | .land x=>wl x<=20
 | .sever x y a we=>wl x<=20/\wl y<=20/\nB a/\nB we
 | .still=>True
def Dd.k:Dd->Nat
 | .sign _=>0 | .load .. =>1 | .cast _=>2 | .award .. =>3 | .mishap .. =>4 | .rise .. =>5 | .hand .. =>6 | .land _=>7 | .sever .. =>8 | .still=>9
def MP (n:Nat):Str:=(["sign","load","cast","award","mishap","rise","hand","land","sever","still"] :List Str).getD n "still"
def Dd.w (d:Dd):Str:=MP d.k
theorem Dd.v0 (d:Dd):d.v[0]?=some (.str d.w):=by cases d <;> rfl
theorem Dd.k_lt (d:Dd):d.k<10:=by cases d <;> simp [Dd.k]
theorem YQ:∀m n:Fin 10,m≠n->MP m.val≠MP n.val:=by decide +kernel
variable {d:Dd}
theorem Dd.Hh {n:Nat} (h:d.k≠n) (hn:n<10):d.w≠MP n:=YQ ⟨d.k,d.k_lt⟩ ⟨n,hn⟩ fun e=>h (kG Fin.val e)
theorem xF:∀(l m:List Row),iM (l++m)=iM l++iM m
 | [],_=>rfl
 | r::l,m=>by
   show V.str r.1::V.int r.2::iM (l++m)=V.str r.1::V.int r.2::(iM l++iM m)
   rw [xF l m]
theorem xG:∀l:List Row,(iM l).length=2*l.length
 | []=>rfl
 | r::l=>by
   show (iM l).length+1+1=_
   rw [xG l,jL];omega
theorem oN (h:isNm x=true):wl x<=20:=by
 unfold isNm isName at h
 have:=aV (lX.mp (lX.mp h).1).2
 unfold wl
 omega
theorem tO {o:Str} (h:Bf st x o wo we=none):isNm x=true/\x∉st.nms/\o∈st.own/\1<=wo/\0<=we:=by
 unfold Bf at h
 cases hn:newR st x with
 | some j=>rw [hn] at h;cases h
 | none=>
   rw [hn] at h
   have h':(if o∈st.own then (if wo<1\/we<0 then some 5 else none) else some 2)=none:=h
   have hx:isNm x=true/\x∉st.nms:=by
    unfold newR at hn
    by_cases c:isNm x=true
    . rw [aA c] at hn
      by_cases m:x∈st.nms
      . rw [aA m] at hn;cases hn
      . exact ⟨c,m⟩
    . rw [az c] at hn;cases hn
   by_cases ho:o∈st.own
   . rw [aA ho] at h'
     by_cases hb:wo<1\/we<0
     . rw [aA hb] at h';cases h'
     . exact ⟨hx.1,hx.2,ho,by omega,by omega⟩
   . rw [az ho] at h';cases h'
theorem Dd.Ua (h:d.k=7):∃x,d = .land x:=by cases d <;> first|exact ⟨_,Z⟩|(simp [Dd.k] at h)
end L2
set_option autoImplicit true
namespace L2
open PySem PySem.Spec PyProof.Rows
structure bE (X:Cx) (e:Expr) (t:TE):Prop where h:PE X e t
structure bT (X:Cx) (e:Expr) (t:TT):Prop where h:PT X e t
structure bW (X:Cx) (e:Expr) (t:TT):Prop where h:PW X e t
structure bA (X:Cx) (es:List Expr) (t:TA):Prop where h:PA X es t
structure bS (X:Cx) (s:Stmt) (t:TS):Prop where h:PS X s t
structure cQ (X:Cx) (s:List Stmt) (t:TS):Prop where h:oh X s t
structure bC (X:Cx) (op:CmpOp) (a b:Expr) (t:TE):Prop where h:PC X op a b t
structure bG (X:Cx) (e:Expr) (t:TG):Prop where h:PG X e t
structure Sb (X:Cx) (e:List Expr) (t:Ag):Prop where h:Zh X e t
structure bI (X:Cx) (tg iter:Expr) (wi:TI):Prop where h:PI X tg iter wi
structure Sd (X:Cx) (pos:Pos) (ks:List (Option Expr)) (vs:List Expr) (t:List (TE×TE)):Prop where h:PPs X pos ks vs t
theorem bW.pt {X:Cx} {e:Expr} {t:TT} (h:bW X e t):bT X e t:=⟨h.h.pt⟩
theorem Wy {op} {t:TE} (h:bE X a t):bE X (.BoolOp op [a] pos) t:=by
 have h:=h.h;exact ⟨fun pins s σ H Q I hw=>BoolOp_one (h pins s σ H Q I hw)⟩
theorem rS {e:Expr} {t:TE} (h:bE X e t) (he:∀whole,isTrue e X.env whole=(do let v <-whole;standAt e.pos;holding [v] (truthy v)):=by intro _;rfl):bT X e (tB t):=by
 have h:=h.h;constructor
 intro pins s σ H Q I hw
 refine isTrue_plain (aZ (h pins s σ H _ I hw) fun v s1 ⟨x,H1,I1,r1,q1⟩=>?_) (he _)
 obtain ⟨d,rfl,q⟩:=q1
 cases r1
 exact Cc ⟨H1,I1,q⟩
theorem aJ {r:R2} (hr:wk X r) (ha:bE X a ta) (hb:bE X b tb) (hs:S_ b:=by exact fun _ _=>rfl):bE X (.Subscript a b pos) (KI r ta tb):=by
 have ha:=ha.h;have hb:=hb.h;constructor
 intro pins s σ H Q I h
 exact Subscript_ (Qf ha hb I h fun v u s2 x y H2 I2 rx ry q=>hr a b pins s2 σ H2 x y v u Q I2 rx ry q (hs _ _))
theorem gj:Sb X [] UZ:=by
 constructor
 intro pins s σ H vs us Q I r h
 obtain ⟨e,h⟩:=h
 subst e
 cases r
 exact assignInOrder_nil ⟨σ,H,I,h⟩
theorem aT {i:Nat} {x:Str} (hN:X.N.Nodup) (hi:X.N[i]?=some x:=by rfl) (hx:Loc X.env.scope x:=by first|exact Or.inl rfl|exact Or.inr rfl) (hf:X.fn x=true\/X.env.scope.names.lookup x=some .local:=by first|exact .inl rfl|exact .inr rfl|assumption):bG X (.Name x pos) (qR i):=by
 constructor
 intro pins s σ H v u Q I r h
 exact wpAny_assign_Name (ve I hN hi hx r (fun s' I'=>⟨_,H,I',h⟩) hf)
theorem Hi {c:Expr} {body:List Stmt} {tc:TT} {tb:TS} (hp:PassesOwn (model X.prog X.w) X.A X.env X.xe) (hc:bT X c tc) (hb:cQ X body tb):bS X (.While c body [] pos) (U7 tc tb):=by
 have hc:=hc.h;have hb:=hb.h;constructor
 intro pins s σ H D I h
 obtain ⟨W,⟨m0,w0⟩,turn⟩:=h
 refine wpAny_While (codeAny_whileLoop (fun n s'=>∃σ' H',Inv X pins σ' H' s'/\W n σ' H') ?_ m0 ⟨σ,H,I,w0⟩)
 rintro n s1 ⟨σ1,H1,I1,w1⟩
 refine u0 hp (aZ (hc pins s1 σ1 H1 _ I1 (turn n σ1 H1 w1)) fun b s2 ⟨H2,I2,q2⟩=>?_)
 cases b with
 | true=>
   obtain ⟨N,hN,q2⟩:=q2
   rw [aA rfl]
   refine u0 hp (aZ (hb pins s2 σ1 H2 _ I2 q2) fun f s3 q3=>?_)
   cases f with
   | next=>
     obtain ⟨σ3,H3,I3,n3⟩:=q3
     obtain ⟨m',hm,w3⟩:=hN σ3 H3 n3
     exact ⟨m',hm,σ3,H3,I3,w3⟩
   | cont=>
     obtain ⟨σ3,H3,I3,n3⟩:=q3
     obtain ⟨m',hm,w3⟩:=hN σ3 H3 n3
     exact ⟨m',hm,σ3,H3,I3,w3⟩
   | brk=>exact q3
   | ret v=>exact q3
 | false=>
   rw [az eX]
   exact Fe ⟨σ1,H2,I2,q2⟩
theorem yq {tg:Expr} {ob:Expr} {td:TE} {apos cpos:Pos} (hob:bE X ob td) (hbase:attributeBase ob "values" X.env (eval ob X.env)=eval ob X.env:=by rfl) (hline:(apos.endLine==cpos.line)=true:=by rfl):bI X tg (.Call (.Attribute ob "values" apos) [] [] cpos) (YA td):=by
 have hob:=hob.h;constructor
 intro pins s σ H R I h
 refine wpAny_Call_method0_late hbase hline (aZ (hob pins s σ H _ I h) fun v s1 ⟨x,H1,I1,r1,q1⟩=>?_)
 obtain ⟨d,o,kvs,rfl,e,fin⟩:=q1
 cases r1
 obtain ⟨ho,hz,hsys,vs,ep,rel,da⟩:=I1.pG e
 obtain ⟨t1,t2,_⟩:=Gf I1 (.inl ⟨kvs, .inr ⟨o,e⟩⟩)
 have dd:=da.dictOf
 refine ⟨"dict",_,F.plainAttrs_dict,LX,F.type_dict_values,t1,t2,LM rfl (PySem.evalArgs_none ?_)⟩
 refine call_meetsIn LX dd.typeIs F.entry_dict_values (F.args_dict_values_1 _) (meets_dict_values (cA X.prog X.w) d hsys) ⟨⟨vs,dd⟩,?_⟩
 refine wpAny_pyIter_values (s:={ s1 with heap:=s1.heap.push { cls:= .type "dict_values",data:= .fields #[.ref d] } }) ⟨_,dP _ rfl,Z,Z⟩ (da.push _) ?_
 have Iv:Inv X pins σ H1 { s1 with heap:=s1.heap.push { cls:= .type "dict_values",data:= .fields #[.ref d] } }:=I1.kept (t':=s1.toks) fun b o e=>bU _ e
 generalize ({ s1 with heap:=s1.heap.push { cls:= .type "dict_values",data:= .fields #[.ref d] } }:Shared)=sv at *
 have I2:Inv X pins σ H1 { sv with heap:=sv.heap.push { cls:= .type "dict_valueiterator",data:= .fields #[.ref d, .int 0 0, .int vs.length 0, .int ep 0] } }:=Iv.kept (t':=sv.toks) fun b o e=>bU _ e
 have hl:kvs.length=vs.length:=rel.length
 obtain ⟨o',es,h1,_,h2,_⟩:=id da
 rw [ho] at h1;cases h1
 refine ⟨sv.heap.objs.size,[sv.heap.objs.size],_,_,H1,Z,I2,Ow h2,?_,fun b hb=>?_,fin⟩
 . rw [hl];exact ⟨_,dP _ rfl,Z,Z⟩
 . have eb:b=sv.heap.objs.size:=by simpa using hb
   subst eb
   exact Iv.yY (aK _) (Iv.hok.fresh (aK _))
theorem Lh {o i e:Expr} {to ti te:TE} {wO:V->V->Hp->VK->Prop} {wg:FP} {mZ:qj} {op:Operator} {tpos:Pos} (ho:bE X o to) (hi:bE X i ti) (hg:U4 X wO) (he:bE X e te) (hp:UY X op wg) (hs:PY X mZ) (ha:∀ov iv new,augStore i ov iv new=(do holding [new,ov,iv] (setItem ov iv new);release [new,ov,iv] [];pure .next):=by intros;rfl):bS X (.AugAssign (.Subscript o i tpos) op e pos) (Yc to ti te wO wg mZ):=by
 have ho:=ho.h;have hi:=hi.h;have he:=he.h;constructor
 intro pins s σ H D I h
 refine wpAny_AugAssign_SubscriptAny (aZ (ho pins s σ H _ I h) fun ov s1 ⟨x1,H1,I1,r1,q1⟩=>?_) ha
 refine aZ (hi pins s1 σ H1 _ I1 q1) fun iv s2 ⟨x2,H2,I2,r2,q2⟩=>?_
 refine aZ (hg pins s2 σ H2 x1 x2 ov iv _ I2 r1 r2 q2) fun old s3 ⟨x3,H3,I3,r3,q3⟩=>?_
 refine aZ (he pins s3 σ H3 _ I3 q3) fun v s4 ⟨x4,H4,I4,r4,q4⟩=>?_
 refine aZ (hp pins s4 σ H4 x3 x4 old v _ I4 r3 r4 q4) fun new s5 ⟨x5,H5,I5,r5,q5⟩=>?_
 exact aZ (hs pins s5 σ H5 x1 x2 x5 ov iv new _ I5 r1 r2 r5 q5) fun _ s6 ⟨H6,I6,q6⟩=>⟨σ,H6,I6,q6⟩
theorem jq {id:String} (pa:PlainAttrs T) (slot:Slot T name id) (hty:typeOf (.builtin id)=pure (.type "method_descriptor")) (hm:MtR X id r) (ho:bE X o to) (ha:bA X (e::es) t) (hbase:attributeBase o name X.env (eval o X.env)=eval o X.env:=by rfl) (hfew:((backTo cpos (starEach (e::es) X.env)).all (fun x=>!x.1) && (backToKw cpos (keywordEach [] X.env)).all (fun x=>x.1.isSome)
   && decide ((e::es).length+([] :List Keyword).length+(if ([] :List Keyword).isEmpty then 0 else 1)<30))=true:=by rfl) (hline:(apos.endLine==cpos.line)=true:=by rfl) (hs:starEach (e::es) X.env=(false,eval e X.env)::starEach es X.env:=by rfl) (hplain:(backTo cpos (starEach es X.env)).any (·.1)=false:=by rfl):bE X (.Call (.Attribute o name apos) (e::es) [] cpos) (tBM X.K T r to t):=by
 have ho:=ho.h;have ha:=ha.h;constructor
 intro pins s σ H Q I h
 refine wpAny_Call_method_late hbase hfew hline rfl (aZ (ho pins s σ H _ I h) fun v s1 ⟨x,H1,I1,r1,ty,q1⟩=>?_)
 obtain ⟨h1,h2⟩:=Vw I1 r1 ty
 refine ⟨T,id,pa,slot,hty,h1,h2,?_⟩
 have hA:=ha cpos pins s1 σ H1 _ I1 q1
 rw [hs] at hA ⊢
 refine LM (by show (false || (backTo cpos (starEach es X.env)).any (·.1))=false;rw [hplain] <;> rfl) (Calls.evalArgs_plain ?_)
 exact aZ hA fun us s2 ⟨vs,H2,I2,r2,q2⟩=>hm pins s2 σ H2 x vs v us Q I2 r1 r2 q2
theorem Ub {X:Cx} {pos:Pos}:Sd X pos [] [] [] :=by
 exact ⟨fun pins s σ H Q I h=>pairTrees_nil_walk ⟨[],H,I, .nil,h⟩⟩
theorem Hj {X:Cx} {e:Expr} {t:TE} (h:bE X e t):bE X e (abt t):=by
 have h:=h.h;constructor
 intro pins s σ H Q I hw
 obtain ⟨d,kvs,e,hw⟩:=hw
 obtain ⟨ho,es,ep,h1,_⟩:=(Ar I.hok e).2.2.choose_spec.2
 have h0:=I.Ou e
 exact aZ (h pins s σ _ _ (I.freeze e h1) (hw ho)) fun u s' ⟨v,H',I',r,q1,q2⟩=>⟨v,_,I'.zb q1 h0,r,q2⟩
theorem Q2 {op op':CmpOp} {r r':R2} (ho:i7 X (compareOp op) r) (ho':i7 X (compareOp op') r') (ha:bE X a ta) (hb:bE X b tb) (hc:bE X c tc) (hm:lastMarks [op,op'] [b,c]=false:=by with_unfolding_all rfl):bE X (.Compare a [op,op'] [b,c] pos) (Vd r r' ta tb tc):=by
 have ha:=ha.h;have hb:=hb.h;have hc:=hc.h;constructor
 intro pins s σ H Q I h
 refine Compare_chain (aZ (ha pins s σ H _ I h) fun v s1 ⟨x,H1,I1,r1,q1⟩=>chain_link (aZ (hb pins s1 σ H1 _ I1 q1) fun u s2 ⟨y,H2,I2,r2,q2⟩=>
  aZ (ho pins s2 σ H2 x y v u _ I2 r1 r2 q2) fun d s3 ⟨z,H3,I3,r3,k,e,q3⟩=>?_)) hm
 subst e
 cases r3
 refine Cc ?_
 cases k with
 | false=>exact ite_ff ⟨.bl false,H3,I3,Z,q3⟩
 | true=>exact ite_tt (chain_last (aZ (hc pins s3 σ H3 _ I3 q3) fun w' s4 ⟨z',H4,I4,r4,q4⟩=>ho' pins s4 σ H4 y z' u w' Q I4 r2 r4 q4))
theorem gy {x1} (h:bA X es t):bE X (.Tuple es x1 pos) (abe t):=by
 have h:=h.h;constructor
 intro pins s σ H Q I hq
 refine wpAny_Tuple_spliced (aZ (h pos pins s σ H _ I hq) fun us s1 ⟨xs,H1,I1,r,z,q⟩=>⟨by rw [<-r.length];exact z,?_⟩)
 have hf:H1 s1.heap.objs.size=none:=I1.hok.fresh (aK _)
 refine ⟨.ref s1.heap.objs.size,upd H1 s1.heap.objs.size (.tup xs),I1.laid (t':=s1.toks) (fun b u e=>bU _ e) (aK _) ?_,Z,q _ hf⟩
 exact ⟨z,us,r,⟨_,dP _ rfl,Z,_,Z⟩⟩
theorem Hl {tg iter elt cond:Expr} {scope:Scope} {pos:Pos} (N2:List Str) (ix:List (Option Nat)) {wi:TI} {g:TG} {tc:TT} {te:TE} (hc:X.calm=true) (hi:bI X tg iter wi) (hg:∀cl s₂ H₂ fp,bG (dh X N2 scope cl s₂ H₂ fp) tg g) (he:∀cl s₂ H₂ fp,bE (dh X N2 scope cl s₂ H₂ fp) elt te) (ht:∀cl s₂ H₂ fp,bT (dh X N2 scope cl s₂ H₂ fp) cond tc) (hk:scope.kind = .function) (hn:pW X.N X.env.scope.names scope.names N2 ix=true) (hs:∀x,foldedSetIterable iter X.env x=pure x:=by intro _;rfl):bE X (.ListComp elt [⟨tg,iter,[cond],0⟩] scope pos) (Ol wi ix g tc te):=⟨QI N2 ix hc hi.h (fun cl s₂ H₂ fp=>(hg cl s₂ H₂ fp).h) (fun cl s₂ H₂ fp=>(he cl s₂ H₂ fp).h) (fun cl s₂ H₂ fp=>(ht cl s₂ H₂ fp).h) hk hn hs⟩
theorem aG {op:Operator} {r:R2} (ho:i7 X (binaryOp op) r) (ha:bE X a ta) (hb:bE X b tb):bE X (.BinOp a op b pos) (KI r ta tb):=by
 have ha:=ha.h;have hb:=hb.h;constructor
 intro pins s σ H Q I h
 exact wpAny_BinOp (Qf ha hb I h fun v u s2 x y H2 I2 rx ry q=>ho pins s2 σ H2 x y v u Q I2 rx ry q)
theorem uM {op:CmpOp} {t:TE} (h:bC X op a b t) (h1:behindInMarks op b=false:=by first|exact abB _ (by decide) (by decide)|rfl):bT X (.Compare a [op] [b] pos) (tB t):=by
 have h:=h.h;constructor
 intro pins s σ H Q I hw
 refine wpAny_isTrue_Compare1 (aZ (h pins s σ H _ I hw) fun v s1 h1=>aZ h1 fun u s2 h2=>aZ h2 fun c s3 ⟨x,H1,I1,r1,q1⟩=>?_) h1
 obtain ⟨d,rfl,q⟩:=q1
 cases r1
 exact Cc ⟨H1,I1,q⟩
theorem eO {tg:Expr} {iter:Expr} {body:List Stmt} {wi:TI} {g:TG} {tb:TS} {pos:Pos} (hp:PassesOwn (model X.prog X.w) X.A X.env X.xe) (hc:X.calm=true) (hi:bI X tg iter wi) (hg:bG X tg g) (hb:cQ X body tb) (hs:∀x,foldedSetIterable iter X.env x=pure x:=by intro _;rfl):bS X (.For tg iter body [] pos) (aa_ wi g tb):=by
 have hi:=hi.h;have hg:=hg.h;have hb:=hb.h;constructor
 intro pins s σ H D I h
 refine wpAny_For (aZ (hi pins s σ H _ I h) fun v s1 h1=>aZ h1 fun itv s2 h2=>?_) hs
 obtain ⟨it,fp,tn,J,H2,e,I2,T,st2,f2,W,⟨m0,w0⟩,turn⟩:=h2
 subst e
 have rG:∀{H':Hp},(∀b∈fp,H' b=none)->∀b∈fp,m5 X pins H' b:=fun hn b hb=>⟨hn b hb,(f2 b hb).2⟩
 refine codeAny_forLoop_any (fun n s'=>∃i σ' H',Inv X pins σ' H' s'/\tn i s'.heap/\(∀b∈fp,H' b=none)/\W i n σ' H') ?_ m0 ⟨0,σ,H2,I2,st2,fun b hb=>(f2 b hb).1,w0⟩
 rintro n s3 ⟨i,σ3,H3,I3,st3,Se,w3⟩
 rcases turn i n σ3 H3 w3 with ⟨stop,qn⟩|⟨go,N,hN,step⟩
 . refine u0 hp (aZ (T.done X rfl rfl rfl hc i pins s3 σ3 H3 X.xe I3 (rG Se) st3 stop) fun r s4 ⟨hr,I4⟩=>?_)
   subst hr
   exact Fe ⟨σ3,H3,I4,qn⟩
 . refine u0 hp (aZ (T.item X rfl rfl rfl hc i pins s3 σ3 H3 X.xe I3 (rG Se) st3 go) fun r s4 ⟨u,hr,h4⟩=>?_)
   subst hr
   refine u0 hp (aZ h4 fun _ s5 ⟨x,H5,I5,r5,y5,AF,Gn⟩=>?_)
   have I5':=I5.pinned (rG Gn) (T.obj _ _ AF)
   refine u0 hp (aZ (hg _ s5 σ3 H5 x u _ I5' r5 (step x H5 y5)) fun _ s6 ⟨σ6,H6,I6,q6⟩=>?_)
   refine u0 hp (aZ (hb _ s6 σ6 H6 _ I6 q6) fun f s7 q7=>?_)
   have again:∀{σ7:St} {H7:Hp},Inv X (pins++Ak fp s5.heap) σ7 H7 s7->N σ7 H7->∃m,m<n/\∃i σ' H',Inv X pins σ' H' s7/\tn i s7.heap/\(∀b∈fp,H' b=none)/\W i m σ' H':=fun {σ7 H7} I7 n7=>by
    obtain ⟨m',hm,w7⟩:=hN σ7 H7 n7
    refine ⟨m',hm,i+1,σ7,H7,I7.oF,T.keep _ _ _ AF fun b hb o e=>(I7.pin (b,o) (iQ _ (iQ _ (iH hb e)))).1,fun b hb=>?_,w7⟩
    obtain ⟨o,e,d⟩:=T.obj _ _ AF b hb
    exact (I7.pin (b,o) (iQ _ (iQ _ (iH hb e)))).2.1
   cases f with
   | next=>obtain ⟨σ7,H7,I7,n7⟩:=q7;exact again I7 n7
   | cont=>obtain ⟨σ7,H7,I7,n7⟩:=q7;exact again I7 n7
   | brk=>obtain ⟨σ7,H7,I7,q7⟩:=q7;exact ⟨σ7,H7,I7.oF,q7⟩
   | ret v=>obtain ⟨x7,σ7,H7,I7,r7,q7⟩:=q7;exact ⟨x7,σ7,H7,I7.oF,r7,q7⟩
theorem Uc:bS X (.Return none pos) X6:=by
 exact ⟨fun _ _ σ H _ I h=>wpAny_Return_none ⟨.bL,σ,H,I,Z,h⟩⟩
theorem i_ {tg iter elt:Expr} {scope:Scope} {pos:Pos} (N2:List Str) (ix:List (Option Nat)) {wi:TI} {g:TG} {te:TE} (hc:X.calm=true) (hi:bI X tg iter wi) (hg:∀cl s₂ H₂ fp,bG (dh X N2 scope cl s₂ H₂ fp) tg g) (he:∀cl s₂ H₂ fp,bE (dh X N2 scope cl s₂ H₂ fp) elt te) (hk:scope.kind = .function) (hn:pW X.N X.env.scope.names scope.names N2 ix=true) (hs:∀x,foldedSetIterable iter X.env x=pure x:=by intro _;rfl):bE X (.ListComp elt [⟨tg,iter,[],0⟩] scope pos) (RY wi ix g te):=by
 have hi:=hi.h;have hg:=fun cl s₂ H₂ fp=>(hg cl s₂ H₂ fp).h;have he:=fun cl s₂ H₂ fp=>(he cl s₂ H₂ fp).h;constructor
 intro pins s σ H Q I h
 obtain ⟨k1,k2,k3,k4,k5⟩:=m_ hn
 obtain ⟨cl,Om,c1,c2⟩:=vh (scope:=scope) (env:=X.env) fun y hy e=>I.ok.has y.1 (k3 y hy e)
 rw [eval_ListComp]
 refine wpAny_comprehension_free (use:=none) rfl hs Om hk k4 (aZ (hi pins s σ H _ I h) fun v s1 h1=>aZ h1 fun itv s2 h2=>?_)
 obtain ⟨it,fp,tn,J,H2,e,I2,T,st2,f2,h2⟩:=h2
 subst e
 refine AD (RR:=fun acc C=>compPost (model X.prog X.w) X.A X.xe none (EP X pins σ Q) acc C) (Q:=Q) hc hg he hk hn (fun y c m=>(c1 y c m).1) c2 I2 T st2 f2 h2 ?_
 intro acc C H' s' m I' ns AE hL hsz uH AN q
 exact ⟨m,ns,fun h' hs'=>⟨.ref acc,H',I'.turned (it:=C) (t':=s'.toks) (fun b o hb e=>(hs'.2 b hb).trans e) AE hL (.inr hsz) uH AN,Z,q⟩⟩
theorem Ho (hu:X.A.units+1<cLine) (hi:bE X i ty) (ho:bE X o td):bC X .In i o (abm ty td):=by
 have hi:=hi.h;have ho:=ho.h;constructor
 intro pins s σ H Q I h
 refine aZ (hi pins s σ H _ I h) fun iv s1 ⟨y,H1,I1,ry,q1⟩=>aZ (ho pins s1 σ H1 _ I1 q1) fun u s2 ⟨x,H2,I2,rx,a,ov,ex,g,q2⟩=>?_
 subst ex
 obtain rfl:u=Value.ref a:=rx
 exact abl hu I2 g ry fun s3 I3=>⟨.bl ov.isSome,H2,I3,Z,q2⟩
theorem bw {x j pos}:bE X (.Constant (.str x) j pos) (tC (.str x)):=⟨NG⟩
theorem Sf {op:UnaryOp} {r:V->Hp->VK->Prop} (ho:U_ X (unaryOp op) r) (ha:bE X a ta):bE X (.UnaryOp op a pos) (tUn r ta):=by
 have ha:=ha.h;constructor
 intro pins s σ H Q I h
 exact UnaryOp_ (aZ (ha pins s σ H _ I h) fun v s1 ⟨x,H1,I1,r1,q1⟩=>ho pins s1 σ H1 x v Q I1 r1 q1)
theorem oO (K:Fg) {a b:Expr} {ta:TA} {p pos:Pos} (hg:Gl X "zip") (hm:X.mg "zip"=none) (ha:bA X [a,b] ta) (hK:X.K=K:=by rfl) (hs:starEach [a,b] X.env=[(false,eval a X.env),(false,eval b X.env)] :=by rfl) (hs2:starEach [b] X.env=[(false,eval b X.env)] :=by rfl):bI X (.Tuple elts kk tpos) (.Call (.Name "zip" p) [a,b] [] pos) (YC K ta):=by
 have ha:=ha.h;constructor
 subst hK
 intro pins s σ H R I h
 refine Call_ (uC I hg hm boot_zip (Ny (aZ (ha pos pins s σ H _ I h) fun us s1 ⟨vs,H1,I1,r1,q1⟩=>?_) (by rw [hs,hs2]) (by rw [hs2];rfl)))
 obtain ⟨u1,u2,S1,S2,xs,ys,e,k1,k2,q⟩:=q1
 subst e
 obtain ⟨u,w',rfl,ru,rw'⟩:=vals2 r1
 obtain ⟨g1,l1,o1,p1,lt1,b1,ad1,at1,st1,c1⟩:=k1.ok I1 ru
 obtain ⟨g2,l2,o2,p2,lt2,b2,YR,at2,st2,c2⟩:=k2.ok I1 rw'
 refine callType_newIn F.called_zip (by decide) (F.typeCall_zip_2 _ _) (F.newCall_zip_2 _ _) (fun obj=>F.args_object_init_3 obj _ _) F.entry_zip_new (ME st1 st2) ⟨b1,YR _ _ b2,?_⟩
 have z1:(s1.heap.push o1).objs.size=s1.heap.objs.size+1:=kD ..
 have z2:((s1.heap.push o1).push o2).objs.size=s1.heap.objs.size+2:=by rw [kD,z1]
 generalize e3:({ cls:= .type "tuple",data:= .seq #[.ref s1.heap.objs.size, .ref (s1.heap.push o1).objs.size] }:Obj)=o3
 have z3:(((s1.heap.push o1).push o2).push o3).objs.size=s1.heap.objs.size+3:=by rw [kD,z2]
 generalize e4:({ cls:= .type "tuple",data:= .seq #[.none, .none] }:Obj)=o4
 have z4:((((s1.heap.push o1).push o2).push o3).push o4).objs.size=s1.heap.objs.size+4:=by rw [kD,z3]
 generalize e5:({ cls:= .type "zip",data:= .fields #[.none, .bool false, .bool false, .ref ((s1.heap.push o1).push o2).objs.size, .ref (((s1.heap.push o1).push o2).push o3).objs.size] }:Obj)=o5
 have g5:(((((s1.heap.push o1).push o2).push o3).push o4).push o5).get? ((((s1.heap.push o1).push o2).push o3).push o4).objs.size=some o5:=dP _ (by rw [<-e5];rfl)
 have g4:(((((s1.heap.push o1).push o2).push o3).push o4).push o5).get? (((s1.heap.push o1).push o2).push o3).objs.size=some o4:=bU _ (dP _ (by rw [<-e4];rfl))
 have g3:(((((s1.heap.push o1).push o2).push o3).push o4).push o5).get? ((s1.heap.push o1).push o2).objs.size=some o3:=bU _ (bU _ (dP _ (by rw [<-e3];rfl)))
 have ZK:(((((s1.heap.push o1).push o2).push o3).push o4).push o5).get? (s1.heap.push o1).objs.size=some o2:=bU _ (bU _ (bU _ (at2 _)))
 have g1':(((((s1.heap.push o1).push o2).push o3).push o4).push o5).get? s1.heap.objs.size=some o1:=bU _ (bU _ (bU _ (bU _ (at1 _))))
 have kp:∀c o,s1.heap.get? c=some o->(((((s1.heap.push o1).push o2).push o3).push o4).push o5).get? c=some o:=fun c o x=>bU _ (bU _ (bU _ (bU _ (bU _ x))))
 rw [z4] at g5 ⊢
 rw [z3] at g4 e5
 rw [z2] at g3 e5
 rw [z1] at ZK e3
 generalize (((((s1.heap.push o1).push o2).push o3).push o4).push o5)=hN at *
 show _/\_
 subst e3 e4 e5
 refine ⟨⟨_,g5,Z⟩,wpAny_pyIter_zip (s:={ s1 with heap:=hN }) g5 ?_⟩
 have I2:Inv X pins σ H1 { s1 with heap:=hN }:=I1.kept (t':=s1.toks) kp
 obtain ⟨t1,ad6,C1,n1⟩:=c1 s1.heap.objs.size
 obtain ⟨t2,ad7,C2,n2⟩:=c2 (s1.heap.objs.size+1)
 refine ⟨s1.heap.objs.size+4,[s1.heap.objs.size+4,s1.heap.objs.size+2,s1.heap.objs.size+3,s1.heap.objs.size,s1.heap.objs.size+1],_,_,H1,Z,I2,OB (Jv lt1 lt2) C1 C2,⟨g5,g3,⟨_,_,g4⟩,n1 _ g1',n2 _ ZK⟩,fun b hb=>?_,q⟩
 have hb':b=s1.heap.objs.size+4\/b=s1.heap.objs.size+2\/b=s1.heap.objs.size+3\/b=s1.heap.objs.size\/b=s1.heap.objs.size+1:=by simpa using hb
 have le:s1.heap.objs.size<=b:=by
  rcases hb' with r|r|r|r|r
  . rw [r];exact tX _ _
  . rw [r];exact tX _ _
  . rw [r];exact tX _ _
  . rw [r];exact aK _
  . rw [r];exact tX _ _
 exact I1.yY le (I1.hok.fresh le)
theorem aN {op:CmpOp} {r:R2} (ho:i7 X (compareOp op) r) (ha:bE X a ta) (hb:bE X b tb) (hm:behindInMarks op b=false):bT X (.Compare a [op] [b] pos) (Mf (KI r ta tb)):=by
 have ha:=ha.h;have hb:=hb.h;constructor
 intro pins s σ H Q I h
 refine wpAny_isTrue_Compare1 (aZ (ha pins s σ H _ I h) fun v s1 ⟨x,H1,I1,r1,q1⟩=>aZ (hb pins s1 σ H1 _ I1 q1) fun u s2 ⟨y,H2,I2,r2,q2⟩=>
  aZ (ho pins s2 σ H2 x y v u _ I2 r1 r2 q2) fun c s3 ⟨z,H3,I3,r3,k,e,q3⟩=>?_) hm
 subst e
 cases r3
 exact Cc ⟨H3,I3,q3⟩
theorem aR {i:Nat} {x:Str} {e:Expr} {te:TE} {pos':Pos} (hN:X.N.Nodup) (he:bE X e te) (hi:X.N[i]?=some x:=by rfl) (hx:Loc X.env.scope x:=by first|exact Or.inl rfl|exact Or.inr rfl) (hs:swapsWith e (some (.Name x pos')) pos.line X.env=pure false:=by rfl) (hf:X.fn x=true\/X.env.scope.names.lookup x=some .local:=by first|exact .inl rfl|exact .inr rfl|assumption):bS X (.Assign [.Name x pos'] e pos) (PZ te (qR i)):=by
 have he:=he.h;constructor
 intro pins s σ H D I h
 refine wpAny_Assign_Name (aZ (he pins s σ H _ I h) fun v s1 ⟨y,H1,I1,r1,q1⟩=>?_) hs
 exact ve I1 hN hi hx r1 (fun s2 I2=>⟨_,H1,I2,q1⟩) hf
theorem Ud {X:Cx} {pos:Pos} {keys:List (Option Expr)} {values:List Expr} {Au:List (TE×TE)} (h:Sd X pos keys values Au) (hall:keys.all (·.isSome)=true) (hl:keys.length=values.length) (h0:keys≠[]) (h15:keys.length<=15):bE X (.Dict keys values pos) (Yr Au):=by
 have h:=h.h;constructor
 intro pins s σ H Q I q
 have hn:=I.hok.fresh (aK s.heap.objs.size)
 have I1:=I.laid (a:=s.heap.objs.size) (o:= .dK []) (h':=s.heap.push { cls:= .type "dict",data:= .dict #[] }) (t':=s.toks) (fun _ _ q=>bU _ q) (aK _) (Ge s.heap I.big)
 refine wpAny_Dict_walk (knd:=cA X.prog X.w) hall hl h0 h15 (aZ (h pins _ σ _ _ I1 (q _ hn)) fun ws s2 ⟨ps,H2,I2,rel,e,kvs,ep,lk,q2⟩=>?_)
 subst ep
 obtain ⟨rs,c,rk⟩:=Av (P:=X.prog) (w:=X.w) rel
 obtain ⟨z,hd,OC,r0,dd⟩:=Ar I2.hok e
 cases r0
 refine ⟨rs,c,dd,fun h' yH hs=>⟨.ref s.heap.objs.size,_,?_,Z,q2⟩⟩
 have hz:(uF [] kvs).length<=sizeLine:=by
  have h1:=wu kvs []
  rw [List.length_nil] at h1
  rw [ji];omega
 have he:∃q,h'.get? s.heap.objs.size=some q:=let ⟨q,_,_,hq,_⟩:=yH;⟨q,hq⟩
 exact yk I2 (by rw [e];exact True.intro) hs he (Gd hz hd (rk.merge .nil) yH)
theorem dY (K:Fg) {tg l:Expr} {tl:TE} (hl:bE X l tl) (hK:X.K=K:=by rfl):bI X tg l (RQ K tl):=by
 have hl:=hl.h;exact ⟨hK▸SY hl⟩
theorem ja {X:Cx} {e:Expr} {t:TT} (h:bT X e t):bT X e (fun σ H Q=>∃b:Bool,t σ H (fun b' H'=>b'=b/\H'=H)/\Q b H):=by
 have h:=h.h;constructor
 intro pins s σ H Q I hw
 obtain ⟨b,hb,q⟩:=hw
 refine aZ (h pins s σ H _ I hb) fun b' s' ⟨H',I',e1,e2⟩=>?_
 subst e1 e2
 exact ⟨_,I',q⟩
theorem aq {st:Stmt} (h1:bS X st t):cQ X [st] t:=by
 have h1:=h1.h;constructor
 intro pins s σ H D I h
 refine wpAny_execs_cons (aZ (h1 pins s σ H D I h) fun f s1 q=>?_)
 cases f with
 | next=>exact Fe q
 | ret v=>exact q
 | brk=>exact q
 | cont=>exact q
theorem Li (ho:bE X o td) (hi:bE X i ty):bS X (.Delete [.Subscript o i tpos] pos) (Yq td ty):=by
 have ho:=ho.h;have hi:=hi.h;constructor
 intro pins s σ H D I h
 refine wpAny_Delete (wpAny_deleteEach_cons (wpAny_delete_Subscript (aZ (ho pins s σ H _ I h) fun u s1 ⟨x,H1,I1,rx,q1⟩=>aZ (hi pins s1 σ H1 _ I1 q1) fun iv s2 ⟨y,H2,I2,ry,a,kvs,k,ex,e,ey,l,q2⟩=>?_)))
 subst ex ey
 obtain rfl:u=Value.ref a:=rx
 exact N6 I2 e ry l fun s3 I3=>wpAny_deleteEach_nil ⟨σ,_,I3,q2⟩
theorem xH (ha:bT X a tA):bT X (.UnaryOp .Not a pos) (aa5 tA):=by
 have ha:=ha.h;constructor
 intro pins s σ H Q I h
 exact isTrue_not (ha pins s σ H (fun c H1=>Q (!c) H1) I h)
theorem bY (he:bE X e te) (hs:swapsWith e none pos.line X.env=pure false:=by rfl):bS X (.Expr e pos) (X5 te):=by
 have he:=he.h;constructor
 intro pins s σ H D I h
 exact wpAny_Expr_any (aZ (he pins s σ H _ I h) fun v s1 ⟨x,H1,I1,r1,q1⟩=>⟨σ,H1,I1,q1⟩) I.quiet hs
theorem cI {pl:Sem Bool} {j k:Nat} {C:Addr} {m:Str} {ps:List Str} {sp:Sp} {o e:Expr} {es:List Expr} {ta:TE} {t:TA} {apos pos:Pos} (D:Mn X.prog X.w X.K X.mg X.base j C m ps sp) (hr:cW k X.A) (ho:bE X o ta) (ha:bA X (e::es) t) (hj:j<=k:=by decide) (hst:starEach (e::es) X.env=(false,eval e X.env)::starEach es X.env:=by rfl) (hpl:(backTo pos (starEach es X.env)).any (·.1)=false:=by rfl) (ht:eval (.Call (.Attribute o m apos) (e::es) [] pos) X.env=(do
   let ov <-eval o X.env
   standAt apos.atName
   let (f,first) <-holding [ov] (getMethod ov m pl)
   callWith pos f first (backTo pos (starEach (e::es) X.env)) (backToKw pos (keywordEach [] X.env))):=by rfl):bE X (.Call (.Attribute o m apos) (e::es) [] pos) (Ao C m sp [] E0 ta t):=by
 have ho:=ho.h;have ha:=ha.h;constructor
 obtain ⟨f,fd,F,b,hm,c⟩:=D.ex
 exact KR (pl:=pl) ho c hm F (hr.mono hj) b .nil (fun _ _ _ _ _ _ _ h=>h.elim) ha hst hpl ht
theorem bP {e:Expr} {es:List Expr} {t:TG} {u:Ag} (h1:bG X e t) (h2:Sb X es u) (hs:(assignEach (e::es) X.env).map (·.2)=assign e X.env::(assignEach es X.env).map (·.2):=by rfl):Sb X (e::es) (RO t u):=by
 have h1:=h1.h;have h2:=h2.h;constructor
 intro pins s σ H vs us Q I r h
 obtain ⟨v,vr,e1,h⟩:=h
 subst e1
 cases r with
 | cons r rr=>
   rw [hs]
   refine assignInOrder_cons (aZ (h1 pins s σ H _ _ _ I r h) fun _ s1 ⟨σ1,H1,I1,q1⟩=>?_)
   exact h2 pins s1 σ1 H1 _ _ Q I1 rr q1
theorem uN {i:Nat} {x:Str} {px pos':Pos} {tg iter elt:Expr} {scope:Scope} {pos:Pos} (N2:List Str) (ix:List (Option Nat)) {wi:TI} {g:TG} {te:TE} (hN:X.N.Nodup) (hi:X.N[i]?=some x) (hx:X.env.scope.names.lookup x=some .local) (hc:X.calm=true) (hit:bI X tg iter wi) (hg:∀cl s₂ H₂ fp,bG (dh X N2 scope cl s₂ H₂ fp) tg g) (he:∀cl s₂ H₂ fp,bE (dh X N2 scope cl s₂ H₂ fp) elt te) (hk:scope.kind = .function) (hn:pW X.N X.env.scope.names scope.names N2 ix=true) (hw:swapsWith (.ListComp elt [⟨tg,iter,[],0⟩] scope pos) (some (.Name x px)) pos'.line X.env=pure true) (hs:∀x,foldedSetIterable iter X.env x=pure x:=by intro _;rfl):bS X (.Assign [.Name x px] (.ListComp elt [⟨tg,iter,[],0⟩] scope pos) pos') (PZ (RY wi ix g te) (qR i)):=by
 have hit:=hit.h;have hg:=fun cl s₂ H₂ fp=>(hg cl s₂ H₂ fp).h;have he:=fun cl s₂ H₂ fp=>(he cl s₂ H₂ fp).h;constructor
 intro pins s σ H D I h
 obtain ⟨k1,k2,k3,k4,k5⟩:=m_ hn
 obtain ⟨cl,Om,c1,c2⟩:=vh (scope:=scope) (env:=X.env) fun y hy e=>I.ok.has y.1 (k3 y hy e)
 rw [exec_Assign_Name_used _ _ _ _ hw]
 refine ay (z_ (ay ?_))
 show wpAny _ X.A (do let _ <-comprehension (.ListComp elt [⟨tg,iter,[],0⟩] scope pos) scope X.env _ (newList []) false (eval iter X.env) (some (assign (.Name x px) X.env))) _ _ s
 refine ay (aZ (wpAny_comprehension_free (use:=some (assign (.Name x px) X.env)) (Q:=fun _ s'=>SP X pins D .next s') rfl hs Om hk k4 (aZ (hit pins s σ H _ I h) fun v s1 h1=>aZ h1 fun itv s2 h2=>?_)) fun _ s' hq=>aS (aS hq))
 obtain ⟨it,fp,tn,J,H2,e,I2,T,st2,f2,h2⟩:=h2
 subst e
 refine AD (RR:=fun acc C=>compPost (model X.prog X.w) X.A X.xe (some (assign (.Name x px) X.env)) (fun _ s'=>SP X pins D .next s') acc C) (Q:=fun v H'=>D.nx (σ.set i (some v)) H') hc hg he hk hn (fun y c m=>(c1 y c m).1) c2 I2 T st2 f2 h2 ?_
 intro acc C H' s' m I' ns AE hL hsz uH AN q
 show wpAny _ X.A (assign (.Name x px) X.env (.ref acc)) _ _ _
 refine wpAny_assign_Name (Dl I' hN hi (.inl hx) (v:= .ref acc) rfl (fun s3 I3 ⟨a,sb,ha⟩=>?_) (.inr hx))
 have ca:C≠a:=by
  rcases ha with z|z
  . rw [z];exact hL
  . exact fun e=>uH x a z e.symm
 exact ⟨m,ns.sameBut sb ca,fun h' hs'=>⟨_,H',I3.turned (it:=C) (t':=s3.toks) (fun b o hb e=>(hs'.2 b hb).trans e) AE hL (.inr hsz) uH AN,q⟩⟩
theorem zy {X:Cx} {pos:Pos} {k v:Expr} {ks:List (Option Expr)} {vs:List Expr} {tk tv:TE} {Au:List (TE×TE)} (hk:bE X k tk) (hv:bE X v tv) (hr:Sd X pos ks vs Au):Sd X pos (some k::ks) (v::vs) ((tk,tv)::Au):=by
 have hk:=hk.h;have hv:=hv.h;have hr:=hr.h;exact ⟨fun pins s σ H Q I h=>
 pairTrees_cons_walk (aZ (hk pins s σ H _ I h) fun u s1 ⟨x,H1,I1,rx,q1⟩=>aZ (hv pins s1 σ H1 _ I1 q1) fun w2 s2 ⟨y,H2,I2,ry,q2⟩=>
  aZ (hr pins s2 σ H2 _ I2 q2) fun ws s3 ⟨ps,H3,I3,rel,q3⟩=>⟨(x,y)::ps,H3,I3, .cons ⟨rx,ry⟩ rel,q3⟩)⟩
theorem xJ (hu:X.A.units+1<cLine) (hi:bE X i ty) (ho:bE X o td):bC X .NotIn i o (Tg ty td):=by
 have hi:=hi.h;have ho:=ho.h;constructor
 intro pins s σ H Q I h
 refine aZ (hi pins s σ H _ I h) fun iv s1 ⟨y,H1,I1,ry,q1⟩=>aZ (ho pins s1 σ H1 _ I1 q1) fun u s2 ⟨x,H2,I2,rx,a,ov,ex,g,q2⟩=>?_
 subst ex
 obtain rfl:u=Value.ref a:=rx
 exact Td hu I2 g ry fun s3 I3=>⟨.bl (!ov.isSome),H2,I3,Z,q2⟩
theorem yr {b j pos}:bE X (.Constant (.bool b) j pos) (tC (.bl b)):=by
 exact ⟨fun _ _ _ H _ I h=>Constant_bool ⟨.bl b,H,I,Z,h⟩⟩
theorem yt {pl:Sem Bool} {j k:Nat} {C:Addr} {m:Str} {ps:List Str} {sp:Sp} {o:Expr} {ta:TE} {apos pos:Pos} (D:Mn X.prog X.w X.K X.mg X.base j C m ps sp) (hr:cW k X.A) (ho:bE X o ta) (hj:j<=k:=by decide) (ht:eval (.Call (.Attribute o m apos) [] [] pos) X.env=(do
   let ov <-eval o X.env
   standAt apos.atName
   let (f,first) <-holding [ov] (getMethod ov m pl)
   callWith pos f first (backTo pos (starEach [] X.env)) (backToKw pos (keywordEach [] X.env))):=by rfl):bE X (.Call (.Attribute o m apos) [] [] pos) (Ao C m sp [] E0 ta qm):=by
 have ho:=ho.h;constructor
 obtain ⟨f,fd,F,b,hm,c⟩:=D.ex
 exact Qm (pl:=pl) ho c hm F (hr.mono hj) b .nil (fun _ _ _ _ _ _ _ h=>h.elim) ht
theorem bg (he:bE X e te):bS X (.Return (some e) pos) (aa7 te):=by
 have he:=he.h;constructor
 intro pins s σ H D I h
 exact wpAny_Return_some (aZ (he pins s σ H _ I h) fun v s1 ⟨x,H1,I1,r1,q1⟩=>⟨x,σ,H1,I1,r1,q1⟩)
theorem mQ {tg:Expr} {a:Expr} {ta:TA} {p pos:Pos} (hg:Gl X "range") (hm:X.mg "range"=none) (ha:bA X [a] ta) (hs:starEach [a] X.env=[(false,eval a X.env)] :=by rfl):bI X tg (.Call (.Name "range" p) [a] [] pos) (Yd ta):=by
 have ha:=ha.h;constructor
 intro pins s σ H R I h
 refine Call_ (uC I hg hm boot_range (Ny (aZ (ha pos pins s σ H _ I h) fun us s1 ⟨vs,H1,I1,r1,q1⟩=>?_) hs rfl))
 obtain ⟨j,e,q1,q2,q⟩:=q1
 subst e
 cases r1 with
 | cons r rr=>
   cases rr
   obtain ⟨t,rfl⟩:=r
   exact call_range_1 (Qe I1 (by omega) (by omega) q1 q2 (by simpa using q))
theorem br:cQ X [] X4:=by
 exact ⟨fun _ _ σ H _ I h=>Fe ⟨σ,H,I,h⟩⟩
theorem cZ (K:Fg) {o value:Expr} {f:Str} {ta tv:TE} {pos pos':Pos} (ha:bE X o ta) (hv:bE X value tv) (hs:swapsWith value (some (.Attribute o f pos')) pos.line X.env=pure false:=by rfl) (hK:X.K=K:=by rfl):bS X (.Assign [.Attribute o f pos'] value pos) (Vf K ta tv f):=by
 have ha:=ha.h;have hv:=hv.h;exact ⟨hK▸Vi ha hv hs⟩
theorem DV {tg:Expr} {a b c:Expr} {ta:TA} {p pos:Pos} (hg:Gl X "range") (hm:X.mg "range"=none) (ha:bA X [a,b,c] ta) (hs:starEach [a,b,c] X.env=[(false,eval a X.env),(false,eval b X.env),(false,eval c X.env)] :=by rfl) (hs2:starEach [b,c] X.env=[(false,eval b X.env),(false,eval c X.env)] :=by rfl):bI X tg (.Call (.Name "range" p) [a,b,c] [] pos) (Yz ta):=by
 have ha:=ha.h;constructor
 intro pins s σ H R I h
 refine Call_ (uC I hg hm boot_range (Ny (aZ (ha pos pins s σ H _ I h) fun us s1 ⟨vs,H1,I1,r1,q1⟩=>?_) (by rw [hs,hs2]) (by rw [hs2];rfl)))
 obtain ⟨i,j,k,e,⟨q1,q2,q3,q4,q5,q6⟩,q⟩:=q1
 subst e
 cases r1 with
 | cons r rr=>
   cases rr with
   | cons r' rr=>
     cases rr with
     | cons r'' rr=>
       cases rr
       obtain ⟨t,rfl⟩:=r
       obtain ⟨t',rfl⟩:=r'
       obtain ⟨t'',rfl⟩:=r''
       obtain ⟨sm,sz⟩:=Jy q1 q2 q3 q4 q5 q6
       refine call_range_3 (by omega) ?_ (Or.inl (PyProof.noPylong_small (by omega)))
       refine wpAny_pyIter_range (IsRange.new ..) sm ?_
       have I2:Inv X pins σ H1 { s1 with heap:=s1.heap.push { cls:= .type "range",data:= .fields #[.int i t, .int j t', .int k t''] },toks:=s1.toks }:=I1.kept fun b o e=>bU _ e
       refine ⟨(s1.heap.push { cls:= .type "range",data:= .fields #[.int i t, .int j t', .int k t''] }).objs.size,[(s1.heap.push { cls:= .type "range",data:= .fields #[.int i t, .int j t', .int k t''] }).objs.size],_,_,H1,Z,
        I2.kept (t':=s1.toks) fun b o e=>bU _ e,Jx _ i k (oH i j k),?_,fun b hb=>?_,q⟩
       . have e1:i+((0:Nat):Int)*k=i:=by simp
         have e2:((oH i j k:Nat):Int)-((0:Nat):Int)=Builtin.Range.rangeSize i j k:=by unfold oH;omega
         show IsRangeIter _ _ (i+((0:Nat):Int)*k) (((oH i j k:Nat):Int)-((0:Nat):Int)) k
         rw [e1,e2]
         exact dP _ rfl
       . have e:b=(s1.heap.push { cls:= .type "range",data:= .fields #[.int i t, .int j t', .int k t''] }).objs.size:=by simpa using hb
         subst e
         exact I2.yY (aK _) (I2.hok.fresh (aK _))
theorem O0 {a:Expr} {ta:TA} {p pos:Pos} (hg:Gl X "range") (hm:X.mg "range"=none) (ha:bA X [a] ta) (hs:starEach [a] X.env=[(false,eval a X.env)] :=by rfl):bE X (.Call (.Name "range" p) [a] [] pos) (abp ta):=by
 have ha:=ha.h;constructor
 intro pins s σ H Q I h
 refine Call_ (uC I hg hm boot_range (Ny (aZ (ha pos pins s σ H _ I h) fun us s1 ⟨vs,H1,I1,r1,q1⟩=>?_) hs rfl))
 obtain ⟨j,e,q⟩:=q1
 subst e
 obtain ⟨u,rfl,ru⟩:=vals1 r1
 obtain ⟨t,rfl⟩:=ru
 exact call_range_1 ⟨.ref s1.heap.objs.size,_,I1.laid (a:=s1.heap.objs.size) (o:= .sZ 0 j) (fun b o e=>bU _ e) (aK _) ⟨_,_,_,dP _ rfl⟩,Z,q _ I1.fresh⟩
theorem gC (h:bA X es t):bE X (.List es pos) (abf t):=by
 have h:=h.h;constructor
 intro pins s σ H Q I hq
 refine wpAny_List_spliced (aZ (h pos pins s σ H _ I hq) fun us s1 ⟨xs,H1,I1,r,z,q⟩=>⟨by rw [<-r.length];exact z,?_⟩)
 have hf:H1 s1.heap.objs.size=none:=I1.hok.fresh (aK _)
 refine ⟨.ref s1.heap.objs.size,upd H1 s1.heap.objs.size (.lst xs),I1.laid (t':=s1.toks) (fun b u e=>bU _ e) (aK _) ?_,Z,q _ hf⟩
 exact ⟨z,us,0,r,dP _ rfl⟩
theorem nI (K:Fg) {o value:Expr} {f:Str} {ta tv:TE} {pos tpos:Pos} {op:Operator} {rd:V->V->Hp->VK->Prop} (ha:bE X o ta) (hv:bE X value tv) (hop:FQ X op rd) (hK:X.K=K:=by rfl):bS X (.AugAssign (.Attribute o f tpos) op value pos) (KO K ta tv rd f):=by
 have ha:=ha.h;have hv:=hv.h;exact ⟨hK▸NU ha hv hop⟩
theorem Wz {j pos}:bE X (.Constant .none j pos) (tC .bL):=by
 exact ⟨fun _ _ _ H _ I h=>Constant_none ⟨.bL,H,I,Z,h⟩⟩
theorem Cz {ob:Expr} {td:TE} {apos cpos:Pos} (hob:bE X ob td) (hbase:attributeBase ob "values" X.env (eval ob X.env)=eval ob X.env:=by rfl) (hline:(apos.endLine==cpos.line)=true:=by rfl):bE X (.Call (.Attribute ob "values" apos) [] [] cpos) (YB td):=by
 have hob:=hob.h;constructor
 intro pins s σ H Q I h
 refine wpAny_Call_method0_late hbase hline (aZ (hob pins s σ H _ I h) fun v s1 ⟨x,H1,I1,r1,q1⟩=>?_)
 obtain ⟨d,kvs,rfl,e,fin⟩:=q1
 cases r1
 obtain ⟨t1,t2,hsys⟩:=Gf I1 (.inl ⟨kvs,e⟩)
 obtain ⟨hz,_,vs,rel,dd⟩:=qS I1.hok e
 refine ⟨"dict",_,F.plainAttrs_dict,LX,F.type_dict_values,t1,t2,LM rfl (PySem.evalArgs_none ?_)⟩
 refine call_meetsIn LX dd.typeIs F.entry_dict_values (F.args_dict_values_1 _) (meets_dict_values (cA X.prog X.w) d hsys) ⟨⟨vs,dd⟩,?_⟩
 refine ⟨.ref s1.heap.objs.size,_,I1.laid (t':=s1.toks) (o:=jO s1.heap.objs.size d) (fun b u e=>bU _ e) (aK _) ?_,Z,fin _ I1.fresh⟩
 refine ⟨⟨_,dP _ rfl,Z,Z⟩,⟨_,dP _ rfl⟩,fun h1 h2 ⟨o,a,b⟩ k=>⟨o,k o a,b⟩⟩
theorem Sg {j k:Nat} {x:Str} {C:Addr} {ps:List Str} {sp:Sp} {e:Expr} {es:List Expr} {t:TA} {p pos:Pos} (D:Cn X.prog X.w X.K X.mg X.base j x C ps sp) (hr:cW k X.A) (ha:bA X (e::es) t) (hj:j+1<=k:=by decide) (hg:Gl X x:=by rfl) (hdb:(x==("__debug__":Str))=false:=by decide) (he:starEach (e::es) X.env=(false,eval e X.env)::starEach es X.env:=by rfl) (hpl:(backTo pos (starEach es X.env)).any (·.1)=false:=by rfl):bE X (.Call (.Name x p) (e::es) [] pos) (Fj C sp [] E0 t):=by
 have ha:=ha.h;constructor
 obtain ⟨f,fd,F,b,M,m⟩:=D.ex
 exact S9 M F (hr.mono hj) hg m b .nil (fun _ _ _ _ _ _ _ h=>h.elim) ha hdb he hpl
theorem Ue {x:Str} {v:V} {u:Value} {pos:Pos} (hg:Gl X x) (hm:X.mg x=some u) (r:RelV v u) (hd:(x==("__debug__":Str))=false:=by decide):bE X (.Name x pos) (tC v):=by
 exact ⟨fun _ _ _ H _ I h=>uB I hg hm ⟨v,H,I,r,h⟩ hd⟩
theorem mR (hc:iA X (.type T) r) (hg:Gl X x) (hm:X.mg x=none) (hv:bootBuiltins x=some (.type T)) (ha:bA X (e::es) t) (hn:x ≠ "__name__":=by decide) (hdb:(x==("__debug__":Str))=false:=by decide) (he:starEach (e::es) X.env=(false,eval e X.env)::starEach es X.env:=by rfl) (hpl:(backTo pos (starEach es X.env)).any (·.1)=false:=by rfl):bE X (.Call (.Name x p) (e::es) [] pos) (Vq r t):=by
 have ha:=ha.h;constructor
 intro pins s σ H Q I h
 refine Fz (uC I hg hm hv ?_ hn hdb)
 exact Ny (aZ (ha pos pins s σ H _ I h) fun us s1 ⟨vs,H1,I1,r1,q1⟩=>hc pins s1 σ H1 vs us Q I1 r1 q1) he hpl
theorem vN {rest:List Expr} (ha:bT X a tA) (hb:bW X (.BoolOp .Or (b::rest) pos) RM):bW X (.BoolOp .Or (a::b::rest) pos) (Zg tA RM):=by
 have ha:=ha.h;have hb:=hb.h;constructor
 intro wh pins s σ H Q I h
 refine isTrue_or (aZ (ha pins s σ H _ I h) fun c s1 ⟨H1,I1,q1⟩=>?_)
 cases c with
 | true=>exact ⟨H1,I1,q1⟩
 | false=>exact hb wh pins s1 σ H1 Q I1 q1
theorem qZ (ha:bT X a tA):bW X (.BoolOp .And [a] pos) tA:=by
 have ha:=ha.h;constructor
 intro wh pins s σ H Q I h
 refine isTrue_and (aZ (ha pins s σ H Q I h) fun c s1 e=>?_)
 cases c with
 | true=>exact isTrue_and_nil e
 | false=>exact e
theorem bZ {c:Expr} {a b:List Stmt} {tc:TT} (hc:bT X c tc) (ha:cQ X a t) (hb:cQ X b u):bS X (.If c a b pos) (UW tc t u):=⟨RN hc.h ha.h hb.h⟩
theorem WA {i j:Nat} {x y:Str} {a b:Expr} {ta:TA} {px py pt:Pos} {kt k2 WB} (hc:X.calm=true) (hN:X.N.Nodup) (hi:X.N[i]?=some x) (hj:X.N[j]?=some y) (hij:i≠j) (hx:X.env.scope.names.lookup x=some .local) (hy:X.env.scope.names.lookup y=some .local) (ha:bA X [a,b] ta) (hw:swappedStores [.Tuple [.Name x px, .Name y py] kt pt] (.Tuple [a,b] k2 WB) X.env=pure (some [x,y])) (hs:swapsWithSole [.Tuple [.Name x px, .Name y py] kt pt] (.Tuple [a,b] k2 WB) pos.line X.env=pure false:=by rfl):bS X (.Assign [.Tuple [.Name x px, .Name y py] kt pt] (.Tuple [a,b] k2 WB) pos) (aa9 i j ta):=by
 have ha:=ha.h;constructor
 intro pins s σ H D I h
 rw [exec_Assign_arm]
 refine ay (z_ ?_)
 rw [hs]
 refine ay (aS ?_)
 rw [az (by decide)]
 refine ay (Tuple_ (aZ (ha _ pins s σ H _ I h) fun us s1 ⟨vs,H1,I1,r1,q1⟩=>?_))
 obtain ⟨v,w,e1,q1⟩:=q1
 subst e1
 obtain ⟨u1,u2,rfl,rv,rw'⟩:∃u1 u2,us=[u1,u2]/\RelV v u1/\RelV w u2:=by
  cases r1 with
  | cons p q=>
    cases q with
    | cons p' q'=>
      cases q'
      exact ⟨_,_,Z,p,p'⟩
 refine uY ?_ (by show 2<=sizeLine;decide)
 have I2:Inv X pins σ H1 { s1 with heap:=s1.heap.push { cls:= .type "tuple",data:= .seq [u1,u2].toArray } }:=I1.kept (t':=s1.toks) fun b o e=>bU _ e
 rw [hw]
 refine ay (aS ?_)
 show wpAny (model X.prog X.w) X.A (do rule "assign.swapped-stores";let items <-unpackItems (.ref s1.heap.objs.size) 2 none;assignInOrder [fun v=>bindName X.env y v,fun v=>bindName X.env x v] items.reverse;pure Flow.next) _ _ _
 refine ay (wpAny_rule (ay (unpackItems_tuple (items:=#[u1,u2]) (I.ok.hd hc) (IsTup.new s1.heap _) fun h' hx'=>?_)))
 have I3:=I2.kept (h':=h') (t':=s1.toks) fun b o e=>hx' b o (ef (bF e)) e
 show wpAny _ _ (assignInOrder [fun v=>bindName X.env y v,fun v=>bindName X.env x v] [u2,u1] >>= fun _=>pure Flow.next) _ _ _
 refine ay (assignInOrder_cons (wpAny_bindName (ve I3 hN hj (.inl hy) rw' (fun s2 I4=>?_) (.inr hy))))
 refine assignInOrder_cons (wpAny_bindName (ve I4 hN hi (.inl hx) rv (fun s3 I5=>assignInOrder_nil (aS ?_)) (.inr hx)))
 rw [List.set_comm _ _ (cD hij)] at I5
 exact ⟨_,H1,I5,q1⟩
theorem jy {c:Expr} {a b:List Stmt} {tc:TT} {t u:TS} (hc:bT X c tc) (ha:cQ X a t) (hb:cQ X b u):bS X (.If c a b pos) (VH tc t u):=by
 have hc:=hc.h;have ha:=ha.h;have hb:=hb.h;constructor
 intro pins s σ H D I h
 obtain ⟨J,h,hJ⟩:=h
 refine aZ (RN hc ha hb pins s σ H { D with nx:=J } I h) fun f s' q=>?_
 cases f with
 | next=>obtain ⟨σ',H',I',q⟩:=q;exact ⟨σ',H',I',hJ _ _ q⟩
 | cont=>exact q
 | brk=>exact q
 | ret v=>exact q
theorem aj {st:Stmt} {rest:List Stmt} (h1:bS X st t) (h2:cQ X rest u):cQ X (st::rest) (rC t u):=by
 have h1:=h1.h;have h2:=h2.h;constructor
 intro pins s σ H D I h
 refine wpAny_execs_cons (aZ (h1 pins s σ H { D with nx:=u D } I h) fun f s1 q=>?_)
 cases f with
 | next=>
   obtain ⟨σ',H',I',q⟩:=q
   exact h2 pins s1 σ' H' D I' q
 | ret v=>exact q
 | brk=>exact q
 | cont=>exact q
theorem WC (K:Fg) {e st:Expr} {te ts:TE} {pos p2:Pos} (he:bE X e te) (hst:bE X st ts) (hK:X.K=K:=by rfl):bE X (.Subscript e (.Slice none none (some st) p2) pos) (abq K te ts):=by
 have he:=he.h;have hst:=hst.h;constructor
 subst hK
 intro pins s σ H Q I h
 refine Subscript_ (aZ (he pins s σ H _ I h) fun v s1 ⟨x,H1,I1,r1,q1⟩=>?_)
 refine wpAny_Slice ?_
 rw [evalPart_none]
 refine aS (aS ?_)
 rw [evalPart_some]
 refine aZ (hst pins s1 σ H1 _ I1 q1) fun w3 s3 ⟨y,H3,I3,r3,q3⟩=>?_
 obtain ⟨ey,a,xs,rfl,hx,q⟩:=q3
 subst ey
 obtain ⟨t,rfl⟩:=r3
 cases r1
 have I4:Inv X pins σ H3 { s3 with heap:=s3.heap.push { cls:= .type "slice",data:= .fields #[.none, .none, .int (-1) t] } }:=I3.kept (t':=s3.toks) fun b ob q=>bU _ q
 obtain ⟨its,r,ht,hz⟩:=I4.list hx
 have hlen:=r.length
 refine tail_any (ops:=[.ref a, .ref s3.heap.objs.size]) ht.isList.typeIs slot_list_getitem.lookup ?_ (by with_unfolding_all rfl)
 refine wpAny_getItem_list_slice ht.isList (Heap.IsSliceOf.new ..) .none .none (.int (-1) t) (by decide) ?_ (by rw [gE] <;> omega)
 rw [PySem.W.krv_pick]
 refine ⟨.ref _,_,I4.laid (t':=s3.toks) (o:= .lst xs.reverse) (fun b ob q=>bU _ q) (aK _) ?_,Z,q _ I4.fresh⟩
 exact ⟨by rw [List.length_reverse];exact hz,its.reverse,0,r.reverse,dP _ rfl⟩
theorem gk (K:Fg) {X:Cx} {es:List Expr} {k:Nat} {t:Ag} {n:Nat} {pos:Pos} (hc:X.calm=true) (h:Sb X es t) (hK:X.K=K:=by rfl) (hn:(assignEach es X.env).length=n:=by rfl) (hst:(assignEach es X.env).findIdx? (·.1)=none:=by rfl):bG X (.Tuple es k pos) (yX K n t):=by
 have h:=h.h;exact ⟨hK▸U1 hc h hn hst⟩
theorem Bg {K:Fg} {j k:Nat} {x:Str} {ps:List Str} {sp:Sp} {e:Expr} {es:List Expr} {t:TA} {p pos:Pos} (D:Dx P w K mg base j x ps sp) (hr:cW k (b8 (fE P w) P w K mg base N qual scope f cd A outer s0 H0 E).A) (ha:bA (b8 (fE P w) P w K mg base N qual scope f cd A outer s0 H0 E) (e::es) t) (hj:j<=k:=by decide) (hg:Gl (b8 (fE P w) P w K mg base N qual scope f cd A outer s0 H0 E) x:=by rfl) (hdb:(x==("__debug__":Str))=false:=by decide) (he:starEach (e::es) (b8 (fE P w) P w K mg base N qual scope f cd A outer s0 H0 E).env=(false,eval e (b8 (fE P w) P w K mg base N qual scope f cd A outer s0 H0 E).env)::starEach es (b8 (fE P w) P w K mg base N qual scope f cd A outer s0 H0 E).env:=by rfl) (hpl:(backTo pos (starEach es (b8 (fE P w) P w K mg base N qual scope f cd A outer s0 H0 E).env)).any (·.1)=false:=by rfl):bE (b8 (fE P w) P w K mg base N qual scope f cd A outer s0 H0 E) (.Call (.Name x p) (e::es) [] pos) (Mm sp [] E t):=by
 have ha:=ha.h;constructor
 obtain ⟨f',fd,F,b,kp,m⟩:=D.ex
 exact KQ F (hr.mono hj) hg m kp b .nil Sa ha hdb he hpl
theorem dM (hu:X.A.units+1<cLine) (ho:bE X o td) (hi:bE X i ty) (hs:VA i:=by exact fun _ _=>rfl):bE X (.Subscript o i pos) (RU td ty):=by
 have ho:=ho.h;have hi:=hi.h;constructor
 intro pins s σ H Q I h
 refine Te PySem.F.slot_dict_getitem.lookup hs (aZ (ho pins s σ H _ I h) fun u s1 ⟨x,H1,I1,rx,q1⟩=>aZ (hi pins s1 σ H1 _ I1 q1) fun iv s2 ⟨y,H2,I2,ry,a,v,ex,g,q2⟩=>?_)
 subst ex
 obtain rfl:u=Value.ref a:=rx
 exact ⟨Jt I2 g,N4 hu I2 g ry fun w' s3 I3 rw'=>⟨v,H2,I3,rw',q2⟩⟩
theorem ao:bA X [] qm:=⟨NV⟩
theorem kN {K:Fg} {pl:Sem Bool} {j k:Nat} {C:Addr} {m:Str} {ps:List Str} {sp:Sp} {o e:Expr} {es:List Expr} {ta:TE} {t:TA} {apos pos:Pos} (D:Mx P w K mg base j C m ps sp) (hr:cW k (b8 (fE P w) P w K mg base N qual scope f cd A outer s0 H0 E).A) (ho:bE (b8 (fE P w) P w K mg base N qual scope f cd A outer s0 H0 E) o ta) (ha:bA (b8 (fE P w) P w K mg base N qual scope f cd A outer s0 H0 E) (e::es) t) (hj:j<=k:=by decide) (hst:starEach (e::es) (b8 (fE P w) P w K mg base N qual scope f cd A outer s0 H0 E).env=(false,eval e (b8 (fE P w) P w K mg base N qual scope f cd A outer s0 H0 E).env)::starEach es (b8 (fE P w) P w K mg base N qual scope f cd A outer s0 H0 E).env:=by rfl) (hpl:(backTo pos (starEach es (b8 (fE P w) P w K mg base N qual scope f cd A outer s0 H0 E).env)).any (·.1)=false:=by rfl) (ht:eval (.Call (.Attribute o m apos) (e::es) [] pos) (b8 (fE P w) P w K mg base N qual scope f cd A outer s0 H0 E).env=(do
   let ov <-eval o (b8 (fE P w) P w K mg base N qual scope f cd A outer s0 H0 E).env
   standAt apos.atName
   let (f2,first) <-holding [ov] (getMethod ov m pl)
   callWith pos f2 first (backTo pos (starEach (e::es) (b8 (fE P w) P w K mg base N qual scope f cd A outer s0 H0 E).env)) (backToKw pos (keywordEach [] (b8 (fE P w) P w K mg base N qual scope f cd A outer s0 H0 E).env))):=by rfl):bE (b8 (fE P w) P w K mg base N qual scope f cd A outer s0 H0 E) (.Call (.Attribute o m apos) (e::es) [] pos) (Ao C m sp [] E ta t):=by
 have ho:=ho.h;have ha:=ha.h;constructor
 obtain ⟨f',fd,F,b,hm,c⟩:=D.ex
 exact KR (pl:=pl) ho c hm F (hr.mono hj) b .nil Sa ha hst hpl ht
theorem ai {i j pos}:bE X (.Constant (.int i) j pos) (tC (.int i)):=by
 exact ⟨fun _ _ _ H _ I h=>wpAny_Constant_int ⟨.int i,H,I.tok _,⟨_,Z⟩,h⟩⟩
theorem WD {rest:List Expr} (ha:bE X a ta) (hb:bE X (.BoolOp .And (b::rest) pos) tb):bE X (.BoolOp .And (a::b::rest) pos) (X3 ta tb):=by
 have ha:=ha.h;have hb:=hb.h;constructor
 intro pins s σ H Q I h
 refine BoolOp_and (aZ (ha pins s σ H _ I h) fun v s1 ⟨x,H1,I1,r1,q1⟩=>?_)
 obtain ⟨c,rfl,q1⟩:=q1
 cases r1
 refine Cc ?_
 cases c with
 | true=>exact hb pins s1 σ H1 Q I1 q1
 | false=>exact ⟨.bl false,H1,I1,Z,q1⟩
theorem oQ:bE X (.Dict [] [] pos) VE:=by
 exact ⟨fun pins s σ H Q I h=>
 wpAny_Dict_empty ⟨.ref s.heap.objs.size,_,I.laid (a:=s.heap.objs.size) (o:= .dK []) (t':=s.toks) (fun _ _ q=>bU _ q) (aK _) (Ge s.heap I.big),Z,h _ (I.hok.fresh (aK _))⟩⟩
theorem lg {tg e:Expr} {te:TE} {g:TG} (he:bE X e te) (hg:bG X tg g) (hs:swapsWithSole [tg] e pos.line X.env=pure false:=by rfl) (hw:swappedStores [tg] e X.env=pure none:=by rfl) (h1:(assignEach [tg] X.env).map (·.2)=[assign tg X.env] :=by rfl):bS X (.Assign [tg] e pos) (PZ te g):=by
 have he:=he.h;have hg:=hg.h;constructor
 intro pins s σ H D I h
 refine wpAny_Assign_stores (aZ (he pins s σ H _ I h) fun v s1 ⟨x,H1,I1,r1,q1⟩=>?_) hs hw
 rw [h1]
 exact aZ (hg pins s1 σ H1 x v _ I1 r1 q1) fun _ s2 q=>q
theorem zz {elts:List Expr} {kk:Nat} {tpos:Pos} {ob:Expr} {td:TE} {apos cpos:Pos} (hob:bE X ob td) (hbase:attributeBase ob "items" X.env (eval ob X.env)=eval ob X.env:=by rfl) (hline:(apos.endLine==cpos.line)=true:=by rfl):bI X (.Tuple elts kk tpos) (.Call (.Attribute ob "items" apos) [] [] cpos) (V0 td):=by
 have hob:=hob.h;constructor
 intro pins s σ H R I h
 refine wpAny_Call_method0_late hbase hline (aZ (hob pins s σ H _ I h) fun v s1 ⟨x,H1,I1,r1,q1⟩=>?_)
 obtain ⟨d,o,kvs,rfl,e,fin⟩:=q1
 cases r1
 obtain ⟨ho,hz,hsys,vs,ep,rel,da⟩:=I1.pG e
 obtain ⟨t1,t2,_⟩:=Gf I1 (.inl ⟨kvs, .inr ⟨o,e⟩⟩)
 have dd:=da.dictOf
 refine ⟨"dict",_,F.plainAttrs_dict,F.slot_dict_items,F.type_dict_items,t1,t2,LM rfl (PySem.evalArgs_none ?_)⟩
 refine call_meetsIn F.slot_dict_items dd.typeIs F.entry_dict_items (F.args_dict_items_1 _) (meets_dict_items (cA X.prog X.w) d hsys) ⟨⟨vs,dd⟩,?_⟩
 refine wpAny_pyIter_items (s:={ s1 with heap:=s1.heap.push { cls:= .type "dict_items",data:= .fields #[.ref d] } }) ⟨_,dP _ rfl,Z,Z⟩ (da.push _) ?_
 have Iv:Inv X pins σ H1 { s1 with heap:=s1.heap.push { cls:= .type "dict_items",data:= .fields #[.ref d] } }:=I1.kept (t':=s1.toks) fun b o e=>bU _ e
 generalize ({ s1 with heap:=s1.heap.push { cls:= .type "dict_items",data:= .fields #[.ref d] } }:Shared)=sv at *
 have I2:Inv X pins σ H1 { sv with heap:=sv.heap.push { cls:= .type "dict_itemiterator",data:= .fields #[.none, .bool false, .ref d, .int 0 0, .int vs.length 0, .int ep 0, .none, .none] } }:=Iv.kept (t':=sv.toks) fun b o e=>bU _ e
 have hl:kvs.length=vs.length:=rel.length
 obtain ⟨o',es,h1,_,h2,_⟩:=id da
 rw [ho] at h1;cases h1
 refine ⟨sv.heap.objs.size,[sv.heap.objs.size],_,_,H1,Z,I2,MB h2,?_,fun b hb=>?_,fin⟩
 . rw [hl];exact ⟨_,_,dP _ rfl⟩
 . have eb:b=sv.heap.objs.size:=by simpa using hb
   subst eb
   exact Iv.yY (aK _) (Iv.hok.fresh (aK _))
theorem WE {tg:Expr} {l:Expr} {tl:TE} (hl:bE X l tl):bI X tg l (VR tl):=⟨VT hl.h⟩
theorem xK (ha:bT X a tA):bW X (.BoolOp .Or [a] pos) tA:=by
 have ha:=ha.h;constructor
 intro wh pins s σ H Q I h
 refine isTrue_or (aZ (ha pins s σ H Q I h) fun c s1 e=>?_)
 cases c with
 | false=>exact isTrue_or_nil e
 | true=>exact e
theorem uO {X:Cx} {st:Stmt} {t:TS} (h:bS X st t):bS X st (abr t):=by
 have h:=h.h;constructor
 intro pins s σ H D I hw
 obtain ⟨d,kvs,e,hw⟩:=hw
 obtain ⟨ho,es,ep,h1,_⟩:=(Ar I.hok e).2.2.choose_spec.2
 have h0:=I.Ou e
 refine aZ (h pins s σ _ _ (I.freeze e h1) (hw ho)) fun f s' q=>?_
 cases f with
 | next=>obtain ⟨σ',H',I',q1,q2⟩:=q;exact ⟨σ',_,I'.zb q1 h0,q2⟩
 | brk=>obtain ⟨σ',H',I',q1,q2⟩:=q;exact ⟨σ',_,I'.zb q1 h0,q2⟩
 | cont=>obtain ⟨σ',H',I',q1,q2⟩:=q;exact ⟨σ',_,I'.zb q1 h0,q2⟩
 | ret u=>obtain ⟨v,σ',H',I',r,q1,q2⟩:=q;exact ⟨v,σ',_,I'.zb q1 h0,r,q2⟩
theorem q_ (hu:X.A.units+1<cLine) (ho:bE X o td) (hi:bE X i ty) (hv:bE X value tv) (hs:swapsWith value (some (.Subscript o i pos')) pos.line X.env=pure false):bS X (.Assign [.Subscript o i pos'] value pos) (Yp td ty tv):=by
 have ho:=ho.h;have hi:=hi.h;have hv:=hv.h;constructor
 intro pins s σ H D I h
 refine wpAny_Assign_Subscript (aZ (hv pins s σ H _ I h) fun r s1 ⟨v,H1,I1,rv,q1⟩=>aZ (ho pins s1 σ H1 _ I1 q1) fun u s2 ⟨x,H2,I2,rx,q2⟩=>aZ (hi pins s2 σ H2 _ I2 q2) fun iv s3 ⟨y,H3,I3,ry,a,H4,ex,g,q3⟩=>?_) hs
 subst ex
 obtain rfl:u=Value.ref a:=rx
 exact N5 hu I3 g ry rv fun s4 I4=>⟨σ,H4,I4,q3⟩
theorem qv (i:Nat) {x:Str} {pos:Pos} (hN:X.N[i]?=some x:=by rfl) (hv:RJ X.env.scope x:=by first|exact Or.inl rfl|exact Or.inr (Or.inl rfl)|exact Or.inr (Or.inr rfl)) (hd:(x==("__debug__":Str))=false:=by decide) (hcd:(x==("__classdict__":Str))=false:=by decide):bE X (.Name x pos) (Ma i):=by
 exact ⟨US hN hv hd hcd⟩
theorem bD {id:String} (hc:iA X (.builtin id) r) (hg:Gl X x) (hm:X.mg x=none) (hv:bootBuiltins x=some (.builtin id)) (ha:bA X (e::es) t) (hn:x ≠ "__name__":=by decide) (hdb:(x==("__debug__":Str))=false:=by decide) (he:starEach (e::es) X.env=(false,eval e X.env)::starEach es X.env:=by rfl) (hpl:(backTo pos (starEach es X.env)).any (·.1)=false:=by rfl):bE X (.Call (.Name x p) (e::es) [] pos) (Vq r t):=by
 have ha:=ha.h;constructor
 intro pins s σ H Q I h
 refine Fz (uC I hg hm hv ?_ hn hdb)
 exact PyProof.Rows.callWith_builtin1 (aZ (ha pos pins s σ H _ I h) fun us s1 ⟨vs,H1,I1,r1,q1⟩=>hc pins s1 σ H1 vs us Q I1 r1 q1) he hpl
theorem jr {K:Fg} {x:Str} {C:Addr} {t:Str} {kd:Nat} {p0 p1 cpos pos:Pos} (oc:fW K C) (hg:Gl (b8 (fE P w) P w K mg base N qual scope f cd A outer s0 H0 E) x) (hm:mg x=some (.ref C)) (hd:(x==("__debug__":Str))=false:=by decide):bS (b8 (fE P w) P w K mg base N qual scope f cd A outer s0 H0 E) (.Raise (some (.Call (.Name x p0) [.Constant (.str t) kd p1] [] cpos)) none pos) (Wv C E):=by
 constructor
 intro pins s σ H D I h
 obtain ⟨nm,q,Nn,bs,bm,hdct,sn,sub,ab,col,dd,k0,k1,k2,k3,k5,mN,hni,hb,fx⟩:=oc.ex
 refine wpAny_Raise_call_subT (bm:=bm) (C:=C) (nm:=nm) (q:=q) (N:=Nn) (bs:=bs) (hdct:=hdct) (sn:=sn) (sub:=sub) (ab:=ab) (col:=col) (dd:=dd) (k0:=k0) (k1:=k1) (k2:=k2) (k3:=k3) (k5:=k5) F.excBase_ValueError hb (I.ok.hd rfl) rfl hni ?_
 refine uB I hg hm ⟨Z,?_⟩ hd
 have pa:PA (b8 (fE P w) P w K mg base N qual scope f cd A outer s0 H0 E) [.Constant (.str t) kd p1] (Fi (tC (.str t)) qm):=KP NG NV
 refine PySem.Calls.evalArgs_plain (aZ (pa cpos pins s σ H (fun vs H1=>vs.length=1/\H1=H) I ⟨Z,Z⟩) fun us s1 ⟨vs,H1,I1,r,hv,e⟩=>?_)
 subst e
 obtain ⟨hC,hN,T⟩:=fx s1.heap I1.qM
 exact ⟨Z,by show us.length<=sizeLine;rw [<-r.length,hv,ji];decide,hC,hN,T,fun h' e hm=>MK I1 hm (h e)⟩
theorem lu {o i:Expr} {to ti:TE} {t:qj} (ho:bE X o to) (hi:bE X i ti) (hs:PY X t) (ha:∀v,assign (.Subscript o i pos) X.env v=(do
   let ov <-holding [v] (eval o X.env)
   let iv <-holding [v,ov] (eval i X.env)
   standAt pos
   holding [v,ov,iv] (setItem ov iv v)
   release [v,ov,iv] []):=by intro _;rfl):bG X (.Subscript o i pos) (aa8 to ti t):=by
 have ho:=ho.h;have hi:=hi.h;constructor
 intro pins s σ H v u Q I r h
 rw [ha]
 refine ay (Aa (aZ (ho pins s σ H _ I h) fun ov s1 ⟨x,H1,I1,r1,q1⟩=>?_))
 refine ay (Aa (aZ (hi pins s1 σ H1 _ I1 q1) fun iv s2 ⟨y,H2,I2,r2,q2⟩=>?_))
 refine ay (z_ (ay (Aa (aZ (hs pins s2 σ H2 x y v ov iv u _ I2 r1 r2 r q2) fun _ s3 ⟨H3,I3,q3⟩=>?_))))
 exact wpAny_release ⟨σ,H3,I3,q3⟩
theorem oR {st:Stmt}:bS X st UX:=by
 exact ⟨fun _ _ _ _ _ _ h=>h.elim⟩
theorem O1 {j k:Nat} {x:Str} {C:Addr} {ps:List Str} {sp:Sp} {p pos:Pos} (D:Cn X.prog X.w X.K X.mg X.base j x C ps sp) (hr:cW k X.A) (hj:j+1<=k:=by decide) (hg:Gl X x:=by rfl) (hdb:(x==("__debug__":Str))=false:=by decide):bE X (.Call (.Name x p) [] [] pos) (Fj C sp [] E0 qm):=by
 constructor
 obtain ⟨f,fd,F,b,M,m⟩:=D.ex
 exact Qn M F (hr.mono hj) hg m b .nil (fun _ _ _ _ _ _ _ h=>h.elim) hdb
theorem af (ha:bE X e te) (hr:bA X es t) (hs:starEach (e::es) X.env=(false,eval e X.env)::starEach es X.env:=by rfl):bA X (e::es) (Fi te t):=⟨KP ha.h hr.h hs⟩
theorem aH (K:Fg) {e:Expr} {f:Str} {ta:TE} {pos:Pos} (he:bE X e ta) (hb:attributeBase e f X.env (eval e X.env)=eval e X.env:=by rfl) (hK:X.K=K:=by rfl):bE X (.Attribute e f pos) (Ve K ta f):=by
 have he:=he.h;exact ⟨hK▸Vh he hb⟩
theorem uP {op:CmpOp} {r:R2} (ho:i7 X (compareOp op) r) (ha:bE X a ta) (hb:bE X b tb) (hm:behindInMarks op b=false):bE X (.Compare a [op] [b] pos) (KI r ta tb):=by
 have ha:=ha.h;have hb:=hb.h;constructor
 intro pins s σ H Q I h
 exact wpAny_Compare1 (Qf ha hb I h fun v u s2 x y H2 I2 rx ry q=>ho pins s2 σ H2 x y v u Q I2 rx ry q) hm
theorem bM {j k:Nat} {x:Str} {ps:List Str} {sp:Sp} {e:Expr} {es:List Expr} {t:TA} {p pos:Pos} (D:Dn X.prog X.w X.K X.mg X.base j x ps sp) (hr:cW k X.A) (ha:bA X (e::es) t) (hj:j<=k:=by decide) (hg:Gl X x:=by rfl) (hdb:(x==("__debug__":Str))=false:=by decide) (he:starEach (e::es) X.env=(false,eval e X.env)::starEach es X.env:=by rfl) (hpl:(backTo pos (starEach es X.env)).any (·.1)=false:=by rfl):bE X (.Call (.Name x p) (e::es) [] pos) (Mm sp [] E0 t):=by
 have ha:=ha.h;constructor
 obtain ⟨f,fd,F,b,kp,m⟩:=D.ex
 exact KQ F (hr.mono hj) hg m kp b .nil (fun _ _ _ _ _ _ _ h=>h.elim) ha hdb he hpl
theorem qe {rest:List Expr} (ha:bT X a tA) (hb:bW X (.BoolOp .And (b::rest) pos) RM):bW X (.BoolOp .And (a::b::rest) pos) (aa3 tA RM):=by
 have ha:=ha.h;have hb:=hb.h;constructor
 intro wh pins s σ H Q I h
 refine isTrue_and (aZ (ha pins s σ H _ I h) fun c s1 ⟨H1,I1,q1⟩=>?_)
 cases c with
 | true=>exact hb wh pins s1 σ H1 Q I1 q1
 | false=>exact ⟨H1,I1,q1⟩
section
variable {P:Program} {w:World} {K:Fg} {mg:SO} {base:Heap} {f C:Addr} {fd:FuncData} {N ps:List Str} {k:Nat} {sp:Sp} {x m qual:Str} {st:Stmt}
theorem dI {N P:List Str} {sc:Scope} (a:sc.kind = .function:=by rfl) (b:sc.isCoroutine=false:=by rfl) (c:sc.isGenerator=false:=by rfl) (d:N.Nodup:=by decide +kernel) (e:N.take P.length=P:=by rfl) (f:∀x∈P,sc.names.lookup x=some .local\/sc.names.lookup x=some .cell:=by decide +kernel) (g:∀y∈sc.names,y.2 ≠ .free:=by decide +kernel):aM N P sc:=⟨a,b,c,d,e,f,g⟩
theorem At.oA (F:At K mg x st f fd) (S:aM N ps (aB st))
  (hbody:∀(cdv:Value) (A:Around) (outer:List Env) (s:Shared) (H:Hp) (vs:List V) (Q:VK) (E:XK),cW k (A.deeper (envOfC x (aB st) s.heap.objs.size f cdv))->sp vs H Q E->
    ∃t,oh (b8 qO P w K mg base N x (aB st) f cdv A outer s H E).yC (bX st) t/\t { nx:=fun _ H'=>Q .bL H',rt:=Q } (start N vs) H)
  (len:∀vs H Q E,sp vs H Q E->vs.length=ps.length:=by intro vs H Q E h;first|(cases h.ex;subst_vars;rfl)|(have h:=h.ex;(repeat first|(obtain ⟨rfl,_⟩:=h;rfl)|(obtain ⟨_,h⟩:=h));done)|(repeat first|(obtain ⟨rfl,_⟩:=h;rfl)|(obtain ⟨_,h⟩:=h)))
  (h:∀(kV doc pm:Value) (an:Option Addr) (cdv ct:Value) (us:List Value),us.length=ps.length->bindArgs (PySem.W.fnOf x x (dF st) (bX st) (aB st) .none kV doc pm an cdv ct) ⟨us,[]⟩=pure (ps.zip us):=by intro _ _ _ _ _ _ us hl;repeat' (first|rfl|(simp at hl;done)|(rcases us with _|⟨_,us⟩))):Dn P w K mg base (k+1) x ps sp:=F.ok S len hbody h
theorem At.wD (F:At K mg x st f fd) (S:aM N ps (aB st))
  (hbody:∀(cdv:Value) (A:Around) (outer:List Env) (s:Shared) (H:Hp) (vs:List V) (Q:VK) (E:XK),cW k (A.deeper (envOfC x (aB st) s.heap.objs.size f cdv))->sp vs H Q E->
    ∃t,oh (b8 (fE P w) P w K mg base N x (aB st) f cdv A outer s H E) (bX st) t/\t { nx:=fun _ H'=>Q .bL H',rt:=Q } (start N vs) H)
  (len:∀vs H Q E,sp vs H Q E->vs.length=ps.length:=by intro vs H Q E h;first|(cases h.ex;subst_vars;rfl)|(have h:=h.ex;(repeat first|(obtain ⟨rfl,_⟩:=h;rfl)|(obtain ⟨_,h⟩:=h));done)|(repeat first|(obtain ⟨rfl,_⟩:=h;rfl)|(obtain ⟨_,h⟩:=h)))
  (h:∀(kV doc pm:Value) (an:Option Addr) (cdv ct:Value) (us:List Value),us.length=ps.length->bindArgs (PySem.W.fnOf x x (dF st) (bX st) (aB st) .none kV doc pm an cdv ct) ⟨us,[]⟩=pure (ps.zip us):=by intro _ _ _ _ _ _ us hl;repeat' (first|rfl|(simp at hl;done)|(rcases us with _|⟨_,us⟩))):Dx P w K mg base (k+1) x ps sp:=F.Ww S len hbody h
theorem gh.oA (F:gh K C m qual st f fd) (S:aM N ps (aB st))
  (hbody:∀(cdv:Value) (A:Around) (outer:List Env) (s:Shared) (H:Hp) (vs:List V) (Q:VK) (E:XK),cW k (A.deeper (envOfC qual (aB st) s.heap.objs.size f cdv))->sp vs H Q E->
    ∃t,oh (b8 qO P w K mg base N qual (aB st) f cdv A outer s H E).yC (bX st) t/\t { nx:=fun _ H'=>Q .bL H',rt:=Q } (start N vs) H)
  (len:∀vs H Q E,sp vs H Q E->vs.length=ps.length:=by intro vs H Q E h;first|(cases h.ex;subst_vars;rfl)|(have h:=h.ex;(repeat first|(obtain ⟨rfl,_⟩:=h;rfl)|(obtain ⟨_,h⟩:=h));done)|(repeat first|(obtain ⟨rfl,_⟩:=h;rfl)|(obtain ⟨_,h⟩:=h)))
  (h:∀(kV doc pm:Value) (an:Option Addr) (cdv ct:Value) (us:List Value),us.length=ps.length->bindArgs (PySem.W.fnOf m qual (dF st) (bX st) (aB st) .none kV doc pm an cdv ct) ⟨us,[]⟩=pure (ps.zip us):=by intro _ _ _ _ _ _ us hl;repeat' (first|rfl|(simp at hl;done)|(rcases us with _|⟨_,us⟩))):Mn P w K mg base (k+1) C m ps sp:=F.ok S len hbody h
theorem gh.wD (F:gh K C m qual st f fd) (S:aM N ps (aB st))
  (hbody:∀(cdv:Value) (A:Around) (outer:List Env) (s:Shared) (H:Hp) (vs:List V) (Q:VK) (E:XK),cW k (A.deeper (envOfC qual (aB st) s.heap.objs.size f cdv))->sp vs H Q E->
    ∃t,oh (b8 (fE P w) P w K mg base N qual (aB st) f cdv A outer s H E) (bX st) t/\t { nx:=fun _ H'=>Q .bL H',rt:=Q } (start N vs) H)
  (len:∀vs H Q E,sp vs H Q E->vs.length=ps.length:=by intro vs H Q E h;first|(cases h.ex;subst_vars;rfl)|(have h:=h.ex;(repeat first|(obtain ⟨rfl,_⟩:=h;rfl)|(obtain ⟨_,h⟩:=h));done)|(repeat first|(obtain ⟨rfl,_⟩:=h;rfl)|(obtain ⟨_,h⟩:=h)))
  (h:∀(kV doc pm:Value) (an:Option Addr) (cdv ct:Value) (us:List Value),us.length=ps.length->bindArgs (PySem.W.fnOf m qual (dF st) (bX st) (aB st) .none kV doc pm an cdv ct) ⟨us,[]⟩=pure (ps.zip us):=by intro _ _ _ _ _ _ us hl;repeat' (first|rfl|(simp at hl;done)|(rcases us with _|⟨_,us⟩))):Mx P w K mg base (k+1) C m ps sp:=F.Ww S len hbody h
theorem DF.oA (F:DF K mg x C qual st f fd) (S:aM N ps (aB st))
  (hbody:∀(cdv:Value) (A:Around) (outer:List Env) (s:Shared) (H:Hp) (vs:List V) (Q:VK) (E:XK),cW k (A.deeper (envOfC qual (aB st) s.heap.objs.size f cdv))->sp vs H Q E->
    ∃t,oh (b8 qO P w K mg base N qual (aB st) f cdv A outer s H E).yC (bX st) t/\t { nx:=fun _ H'=>Q .bL H',rt:=Q } (start N vs) H)
  (len:∀vs H Q E,sp vs H Q E->vs.length=ps.length:=by intro vs H Q E h;first|(cases h.ex;subst_vars;rfl)|(have h:=h.ex;(repeat first|(obtain ⟨rfl,_⟩:=h;rfl)|(obtain ⟨_,h⟩:=h));done)|(repeat first|(obtain ⟨rfl,_⟩:=h;rfl)|(obtain ⟨_,h⟩:=h)))
  (h:∀(kV doc pm:Value) (an:Option Addr) (cdv ct:Value) (us:List Value),us.length=ps.length->bindArgs (PySem.W.fnOf "__init__" qual (dF st) (bX st) (aB st) .none kV doc pm an cdv ct) ⟨us,[]⟩=pure (ps.zip us):=by intro _ _ _ _ _ _ us hl;repeat' (first|rfl|(simp at hl;done)|(rcases us with _|⟨_,us⟩))):Cn P w K mg base (k+1) x C ps sp:=F.ok S len hbody h
end
inductive YS (e:Ec) (vs:List V) (H:Hp) (Q:VK) (E:XK):Prop
 | mk (a:Int) (_:vs=[.int a]) (_:(a<1->Rf e E H 5)) (_:(1<=a->Q .bL H))
def xM (e:Ec):Sp:=bx (YS e)
inductive YT (e:Ec) (vs:List V) (H:Hp) (Q:VK) (E:XK):Prop
 | mk (m a:Int) (_:vs=[.int m, .int a]) (_:(a<1->Rf e E H 5)) (_:(1<=a->m<a->Rf e E H 6)) (_:(1<=a->a<=m->Q .bL H))
def Hq (e:Ec):Sp:=bx (YT e)
inductive Q3 (T:TC) (e:Ec) (vs:List V) (H:Hp) (Q:VK) (E:XK):Prop
 | mk (n ρ A st x a:_) (_:vs=[.ref A.a, .str x, .int a]) (_:HH T n ρ A H st) (_:DU T e n ρ A H (jM st (x,a)) (dz st (x,a)) Q E)
def DW (T:TC) (e:Ec):Sp:=bx (Q3 T e)
inductive WG (T:TC) (e:Ec) (vs:List V) (H:Hp) (Q:VK) (E:XK):Prop
 | mk (n ρ A st x a:_) (_:vs=[.ref A.a, .str x, .int a]) (_:HH T n ρ A H st) (_:DU T e n ρ A H (lK st x a:_) (Fp st x a:_) Q E)
def Lj (T:TC) (e:Ec):Sp:=bx (WG T e)
theorem WH {P:Program} {w:World} {K:Fg} {mg:SO} {base:Heap} {k:Nat} {e:Ec} {ps:List Str} (D:Dx P w K mg base k "check_amount" ps (xM e)):Dn P w K mg base k "check_amount" ps YG:=
 D.dn fun vs H Q E h=>by
   obtain ⟨⟨a,rfl,h1,q⟩⟩:=h
   exact ⟨a,Z,fun z=>absurd z (by omega),fun _=>q⟩
theorem WI {P:Program} {w:World} {K:Fg} {mg:SO} {base:Heap} {k:Nat} {e:Ec} {ps:List Str} (D:Dx P w K mg base k "check_loss" ps (Hq e)):Dn P w K mg base k "check_loss" ps R8:=
 D.dn fun vs H Q E h=>by
   obtain ⟨⟨m,a,rfl,h1,h2,q⟩⟩:=h
   exact ⟨m,a,Z,fun z=>absurd z (by omega),fun _ z=>absurd z (by omega),fun _ _=>q⟩
theorem kO {st:HS} {x:Str} (h:x∈fh st):∃(i:Nat) (p:Pt),st.ak[i]?=some p/\p.nm=x:=by
 obtain ⟨p,hp,e⟩:=bJ.mp h
 obtain ⟨i,hi,ei⟩:=wL hp
 exact ⟨i,p,by rw [bB hi,ei],e⟩
theorem yu {st:HS} {i:Nat} {p:Pt} (h:st.ak[i]?=some p):p.nm∈fh st:=bJ.mpr ⟨p,bR h,Z⟩
theorem Bh {α:Type} {nm:α->Str} {f:α->α}:∀{l:List α} {i:Nat} {p:α},(l.map nm).Nodup->l[i]?=some p->(l.map fun q=>if nm q=nm p then f q else q)=l.set i (f p)
 | [],_,_,_,h=>by simp at h
 | a::l,0,p,nd,h=>by
   have e:a=p:=by simpa using h
   subst e
   obtain ⟨h1,_⟩:=fU.mp (show (nm a::l.map nm).Nodup from nd)
   rw [cj,aA rfl,LW]
   congr 1
   refine (Fy (g:=id) (fun q hq=>az fun z=>h1 (bJ.mpr ⟨q,hq,z⟩))).trans (List.map_id l)
 | a::l,i+1,p,nd,h=>by
   obtain ⟨h1,h2⟩:=fU.mp (show (nm a::l.map nm).Nodup from nd)
   have h':l[i]?=some p:=by simpa using h
   rw [cj,az (fun z=>h1 (bJ.mpr ⟨p,bR h',z.symm⟩)),FF,Bh h2 h']
theorem oS {st:HS} (nd:(st.ak.map (·.nm)).Nodup) {i:Nat} {p:Pt} (h:st.ak[i]?=some p) (f:Pt->Pt):nG st p.nm f={ st with ak:=st.ak.set i (f p) }:=by
 unfold nG
 rw [Bh (nm:=fun p:Pt=>p.nm) nd h]
theorem xN {st:HS} (wf:Wf st) {x:Str} {f:Pt->Pt} (h:∀p∈st.ak,p.nm=x->(f p).nm=p.nm/\(f p).ow=p.ow/\(f p).sc=p.sc/\(f p).row=p.row/\1<=(f p).wo/\0<=(f p).we):Wf (nG st x f):=by
 have P:∀{M:Pt->Prop},(∀p∈st.ak,p.nm=x->M (f p))->(∀p∈st.ak,M p)->∀p∈(nG st x f).ak,M p:=fun a c p hp=>by
  obtain ⟨q,hq,rfl⟩:=bJ.mp (show p∈st.ak.map _ from hp)
  by_cases e:q.nm=x
  . rw [aA e];exact a q hq e
  . rw [az e];exact c q hq
 have en:(nG st x f).ak.map (fun p:Pt=>p.nm)=st.ak.map (fun p:Pt=>p.nm):=by
  show (st.ak.map _).map _=_
  rw [iy]
  refine Fy fun p hp=>?_
  show (if p.nm=x then f p else p).nm=p.nm
  by_cases e:p.nm=x
  . rw [aA e];exact (h p hp e).1
  . rw [az e]
 refine ⟨wf.nh,wf.vt,?_,P (fun p hp e=>?_) wf.sub,P (fun p hp e=>?_) wf.rows,P (fun p hp e=>?_) wf.ow,wf.fK,wf.oJ,wf.fB,wf.pH,wf.uc,wf.jk,wf.vv,?_,wf.xo,wf.rL,wf.DG,wf.big,wf.lZ,P (fun p hp e=>?_) wf.p8,P (fun p hp e=>?_) wf.l7,P (fun p hp e=>?_) wf.nq,P (fun p hp e=>?_) wf.jR,wf.Cp⟩
 . show ((nG st x f).ak.map (fun p:Pt=>p.nm)).Nodup;rw [en];exact wf.cX
 . show (f p).nm∈st.nms;rw [(h p hp e).1];exact wf.sub p hp
 . rw [(h p hp e).2.2.2.1];exact wf.rows p hp
 . show (f p).ow∈st.own;rw [(h p hp e).2.1];exact wf.ow p hp
 . show (st.ak.map _).length<=1000;rw [aC];exact wf.nj
 . rw [(h p hp e).2.2.1];exact wf.p8 p hp
 . rw [(h p hp e).2.2.2.1];exact wf.l7 p hp
 . rw [(h p hp e).2.2.2.1,(h p hp e).2.2.1];exact wf.nq p hp
 . exact (h p hp e).2.2.2.2
theorem xO {st:HS} {x:Str} {a:Int} (h:lK st x a=none):x∈fh st/\1<=a:=by
 unfold lK at h
 by_cases hm:x∈fh st
 . rw [aA hm] at h
   by_cases c:a<1
   . rw [aA c] at h;cases h
   . exact ⟨hm,by omega⟩
 . rw [az hm] at h;cases h
structure MQ (st:HS):Prop where
 big:Jm.Sz 60 (aY st)
 prod:Jm.Sz 7900 st.prod
 bO:∀u∈st.bO,Jm.Sz 8900 u
 stp:st.stp.length<100
def kX (st:HS) (o:Str) (a:Int):List Int:=(List.replicate st.own.length 0).set (st.own.idxOf o) (a*st.prod)
inductive Ug (T:TC) (e:Ec) (vs:List V) (H:Hp) (Q:VK) (E:XK):Prop
 | mk (n ρ A st o a:_) (_:vs=[.ref A.a, .str o, .int a]) (_:HH T n ρ A H st) (_:MQ st) (_:DU T e n ρ A H (kg st o a:_) (Hg st o a:_) Q E)
def Hr (T:TC) (e:Ec):Sp:=bx (Ug T e)
theorem Bj {st:HS} {o:Str} {a:Int} (h:kg st o a=none):o∈st.own/\1<=a/\a<aY st:=by
 unfold kg at h
 split at h
 . split at h
   . cases h
   . split at h
     . cases h
     . exact ⟨by assumption,by omega,by omega⟩
 . cases h
theorem Q5 {st:HS} {o:Str} {a m:Int} (h:m∈kX st o a):m=0\/m=a*st.prod:=by
 rcases LJ h with z|z
 . exact .inl (List.eq_of_mem_replicate z)
 . exact .inr z
theorem Q6 (st:HS) (o:Str) (a:Int):(kX st o a).length=st.own.length:=by unfold kX;rw [gG,mV]
theorem MQ.blend {st:HS} {o:Str} {a:Int} (w:MQ st) (wf:Wf st) (h1:1<=a) (h2:a<aY st):oM st (aY st-a) (aY st) a (kX st o a):=by
 have p1:=wf.fB
 refine ⟨by omega,by omega,by omega,by rw [Q6,wf.fK],fun m hm=>?_,w.prod,w.big,w.bO,w.stp⟩
 have:0<=a*st.prod:=lE (by omega) (by omega)
 rcases Q5 hm with z|z <;> omega
theorem Q7 (n j:Nat):(List.replicate n (0:Int)).getD j 0=0:=by
 rw [jJ,List.getElem?_replicate]
 split <;> rfl
inductive Uh (T:TC) (e:Ec) (vs:List V) (H:Hp) (Q:VK) (E:XK):Prop
 | mk (n ρ A st x y a we:_) (_:vs=[.ref A.a, .str x, .str y, .int a, .int we]) (_:HH T n ρ A H st) (_:y.cps.toList.length<=100000) (_:st.nms.length<1000) (_:st.ak.length<1000) (_:DU T e n ρ A H (iN st x y a we:_) (nH st x y a we:_) Q E)
def Hs (T:TC) (e:Ec):Sp:=bx (Uh T e)
theorem iU {H:Hp} {a b:Addr} {o:HO} (h:upd H a o b=none):H b=none:=by
 by_cases z:b=a
 . rw [z,ah] at h;cases h
 . rw [av z] at h;exact h
theorem Q8 {st:HS} {y:Str} (h:newR st y=none):isNm y=true/\y∉st.nms:=by
 unfold newR at h
 split at h
 . split at h
   . cases h
   . exact ⟨by assumption,by assumption⟩
 . cases h
theorem kP {st:HS} {x y:Str} {a we:Int} (h:iN st x y a we=none):x∈fh st/\(isNm y=true/\y∉st.nms)/\1<=a/\0<=we/\a<(cy st x).wo/\we<=(cy st x).we:=by
 unfold iN at h
 split at h
 . cases hf:newR st y with
   | some j=>rw [hf] at h;cases h
   | none=>
     rw [hf] at h
     have h':(if a<1\/we<0 then some 5 else if (cy st x).wo<=a\/(cy st x).we<we then some 6 else none)=none:=h
     split at h'
     . cases h'
     . split at h'
       . cases h'
       . exact ⟨by assumption,Q8 hf,by omega,by omega,by omega,by omega⟩
 . cases h
theorem Ht {st:HS} {x y:Str} {a we:Int} (wf:Wf st) (h:iN st x y a we=none) (h2:st.nms.length<1000) (h3:st.ak.length<1000):Wf (nH st x y a we):=by
 obtain ⟨hx,⟨_,hy⟩,h4,h5,h6,h7⟩:=kP h
 obtain ⟨i,p0,ei,e0⟩:=kO hx
 have hp:=bR ei
 have eg:=dj wf hp e0
 have w1:Wf (nG st x fun p=>{ p with wo:=p.wo-a,we:=p.we-we }):=xN wf fun p fX e=>by
  rw [qY wf fX hp (e.trans e0.symm)]
  rw [eg] at h6 h7
  exact ⟨Z,Z,Z,Z,by show 1<=p0.wo-a;omega,by show 0<=p0.we-we;omega⟩
 unfold nH
 rw [eg]
 exact K9 w1 hy h2 (by show (st.ak.map _).length<1000;rw [aC];exact h3) (wf.rows p0 hp) (wf.ow p0 hp) (wf.p8 p0 hp) (wf.l7 p0 hp) (wf.nq p0 hp) ⟨h4,h5⟩
theorem WJ {P:Program} {w:World} {K:Fg} {mg:SO} {base:Heap} {k:Nat} {T:TC} {e:Ec} {ps:List Str} (D:Mx P w K mg base k T.hold "check_new" ps (ud T e)):Mn P w K mg base k T.hold "check_new" ps (AZ T):=
 D.mn fun vs H Q E h=>by
   obtain ⟨⟨n,ρ,A,st,x,rfl,h,h1,h2,q⟩⟩:=h
   have hn:newR st x=none:=by unfold newR;rw [aA h1,az h2]
   refine ⟨n,ρ,A,st,x,Z,h,fH (oN h1) (by decide),fun i hi=>?_,fun _=>q⟩
   rw [hn] at hi;cases hi
inductive WK (T:TC) (e:Ec) (vs:List V) (H:Hp) (Q:VK) (E:XK):Prop
 | mk (n ρ A st x o:_) (_:vs=[.ref A.a, .str x, .str o]) (_:HH T n ρ A H st) (_:∀p∈st.ak,(bf st p).sum=st.prod) (_:DU T e n ρ A H (kL st x o:_) (fj st x o:_) Q E)
def Lk (T:TC) (e:Ec):Sp:=bx (WK T e)
theorem tP {st:HS} {x o:Str} (h:kL st x o=none):x∈fh st/\o∈st.own:=by
 unfold kL at h
 split at h
 . split at h
   . exact ⟨by assumption,by assumption⟩
   . cases h
 . cases h
theorem Hu:∀{l:List Int},(∀t∈l,0<=t)->0<=l.sum/\∀t∈l,t<=l.sum
 | [],_=>⟨kF _,fun t h=>by cases h⟩
 | a::l,h=>by
   obtain ⟨h1,h2⟩:=Hu (l:=l) fun t ht=>h t (cK _ ht)
   have h0:=h a dg
   refine ⟨by show 0<=a+l.sum;omega,fun t ht=>?_⟩
   show t<=a+l.sum
   rcases c8.mp ht with rfl|ht
   . omega
   . have:=h2 t ht;omega
theorem Sh {l:List Int} {i:Nat} {v:Int} (h:∀t∈l,0<=t) (hv:0<=v):∀t∈l.set i v,0<=t:=fun t ht=>by
 rcases LJ ht with z|z
 . exact h t z
 . rw [z];exact hv
theorem Hv {l:List Int} (h:∀t∈l,0<=t) (i:Nat):0<=l.getD i 0:=by
 rw [jJ]
 cases e:l[i]? with
 | none=>exact kF _
 | some v=>exact h v (bR e)
def Ll (l:List Int) (i j:Nat):List Int:=(l.set j (l.getD j 0+l.getD i 0)).set i 0
theorem CA (l:List Int) (i j:Nat):(Ll l i j).length=l.length:=by unfold Ll;rw [gG,gG]
theorem Ui {l:List Int} {i j:Nat} (hi:i<l.length) (hj:j<l.length) (ne:i≠j):(Ll l i j).sum=l.sum:=by
 unfold Ll
 rw [sum_set _ _ _ (by rw [gG];exact hi),sum_set _ _ _ hj,QF _ _ _ _ hj,az ne]
 omega
theorem Uj {l:List Int} {i j:Nat} (h:∀t∈l,0<=t):∀t∈Ll l i j,0<=t:=
 Sh (Sh h (Int.add_nonneg (Hv h _) (Hv h _))) (kF _)
theorem Hw {st:HS} {tops:List Int} (h:tops.length=st.bq.length):List.zipWith (fun r c=>(1:Int)*r+c) (j8 st tops) st.bq=tops:=by
 unfold j8
 generalize st.bq=cs at h
 induction tops generalizing cs with
 | nil=>rfl
 | cons t ts ih=>
   cases cs with
   | nil=>cases h
   | cons c cs=>
     have:=ih cs (Nat.succ.inj h)
     show (1*(t-c)+c)::_=t::ts
     rw [this]
     congr 1
     omega
theorem Hx {st:HS} (wf:Wf st) {p:Pt} (hp:p∈st.ak):(bf st p).length=st.own.length:=by
 unfold bf
 rw [jY,wf.rows p hp,wf.fK,u7]
def yv (st:HS) (o:Str) (p:Pt):Pt:={ p with ow:=o,sc:=1,row:=j8 st (kM st p o) }
theorem vO (st:HS) (p:Pt) (o:Str):kM st p o=Ll (bf st p) (st.own.idxOf p.ow) (st.own.idxOf o):=rfl
theorem DX {st:HS} (wf:Wf st) {p:Pt} (hp:p∈st.ak) (o:Str):bf st (yv st o p)=kM st p o:=by
 have:(kM st p o).length=st.bq.length:=by rw [vO,CA,Hx wf hp,wf.fK]
 exact Hw this
theorem Hy {st:HS} (wf:Wf st) {p:Pt} (hp:p∈st.ak) {o:Str} (ho:o∈st.own) (ne:st.own.idxOf o≠st.own.idxOf p.ow) (hs:(bf st p).sum=st.prod):(∀t∈kM st p o,0<=t/\t<=st.prod)/\(kM st p o).sum=st.prod:=by
 have hl:=Hx wf hp
 have h1:st.own.idxOf p.ow<(bf st p).length:=by rw [hl];exact Ft (wf.ow p hp)
 have h2:st.own.idxOf o<(bf st p).length:=by rw [hl];exact Ft ho
 have hp0:=Uj (i:=st.own.idxOf p.ow) (j:=st.own.idxOf o) fun t ht=>(wf.nq p hp t ht).1
 have hsum:=(Ui h1 h2 (cD ne)).trans hs
 rw [vO]
 exact ⟨fun t ht=>⟨hp0 t ht,by rw [<-hsum];exact (Hu hp0).2 t ht⟩,hsum⟩
theorem Lm {st:HS} {x o:Str} (wf:Wf st) (h:kL st x o=none) (hs:∀p∈st.ak,(bf st p).sum=st.prod):Wf (fj st x o):=by
 obtain ⟨hx,ho⟩:=tP h
 obtain ⟨i,p0,ei,e0⟩:=kO hx
 have hp:=bR ei
 have eg:=dj wf hp e0
 unfold fj
 by_cases ne:st.own.idxOf o=st.own.idxOf (cy st x).ow
 . rw [aA ne];exact wf
 rw [az ne]
 rw [eg] at ne
 obtain ⟨ft,_⟩:=Hy wf hp ho ne (hs p0 hp)
 have uq:∀p∈st.ak,p.nm=x->p=p0:=fun p fX e=>qY wf fX hp (e.trans e0.symm)
 have P:∀{M:Pt->Prop},M (yv st o p0)->(∀p∈st.ak,M p)->∀p∈(nG st x (yv st o)).ak,M p:=fun a c p fX=>by
  obtain ⟨q,hq,rfl⟩:=bJ.mp (show p∈st.ak.map _ from fX)
  by_cases e:q.nm=x
  . rw [aA e,uq q hq e];exact a
  . rw [az e];exact c q hq
 have hl:(kM st p0 o).length=st.own.length:=by rw [vO,CA,Hx wf hp]
 have en:(nG st x (yv st o)).ak.map (fun p:Pt=>p.nm)=st.ak.map fun p:Pt=>p.nm:=by
  show (st.ak.map _).map _=_
  rw [iy]
  refine Fy fun p _=>?_
  show (if p.nm=x then yv st o p else p).nm=p.nm
  by_cases e:p.nm=x
  . rw [aA e];rfl
  . rw [az e]
 have p1:=wf.fB
 refine ⟨wf.nh,wf.vt,?_,P (wf.sub p0 hp) wf.sub,P ?_ wf.rows,P ho wf.ow,wf.fK,wf.oJ,wf.fB,wf.pH,wf.uc,wf.jk,wf.vv,?_,wf.xo,wf.rL,wf.DG,wf.big,wf.lZ,P ⟨kF _,p1⟩ wf.p8,P ?_ wf.l7,P ?_ wf.nq,P (wf.jR p0 hp) wf.jR,wf.Cp⟩
 . show ((nG st x (yv st o)).ak.map (fun p:Pt=>p.nm)).Nodup
   rw [en];exact wf.cX
 . show (j8 st (kM st p0 o)).length=st.own.length
   unfold j8;rw [jY,hl,wf.fK,u7]
 . show (st.ak.map _).length<=1000
   rw [aC];exact wf.nj
 . intro r hr
   obtain ⟨t,ht,c,hc,rfl⟩:=rO (show r∈List.zipWith (fun t c=>t-c) (kM st p0 o) st.bq from hr)
   have a1:=ft t ht
   have a2:=wf.lZ c hc
   exact ⟨by show -st.prod<=t-c;omega,by show t-c<=st.prod;omega⟩
 . intro t ht
   have:t∈kM st p0 o:=by rw [<-DX wf hp];exact ht
   exact ft t this
theorem Ln:∀{l m:List Int} {a b:Int},l.length=m.length->(∀j,l.getD j 0*a=m.getD j 0*b)->l.sum*a=m.sum*b
 | [],[],_,_,_,_=>by show (0:Int)*_=0*_;rw [Int.zero_mul,Int.zero_mul]
 | x::l,y::m,a,b,e,h=>by
   have h0:x*a=y*b:=h 0
   have:=Ln (l:=l) (m:=m) (Nat.succ.inj e) fun j=>h (j+1)
   show (x+l.sum)*a=(y+m.sum)*b
   rw [u_,u_,h0,this]
theorem Hz {q0 q1:Addr×Addr×Addr}:∀{ps:List Pt} {qs:List (Addr×Addr×Addr)} {i:Nat},qs[i]?=some q0->q1.1=q0.1->b7 ps (qs.set i q1)=b7 ps qs
 | [],_,_,_,_=>by simp [b7]
 | _::_,[],_,h,_=>by simp at h
 | p::ps,q::qs,0,h,e=>by
   have:q=q0:=by simpa using h
   subst this
   show (_,V.ref q1.1)::_=(_,V.ref q.1)::_
   rw [e]
 | p::ps,q::qs,i+1,h,e=>by
   have:=Hz (ps:=ps) (qs:=qs) (i:=i) (q1:=q1) (by simpa using h) e
   show _::b7 ps (qs.set i q1)=_::b7 ps qs
   rw [this]
theorem aL.Q9 {T:TC} {n:Nat} {ρ:dO} {A:HA} {H:Hp} {st:HS} (h:aL T n ρ A H st) (g:Gh ρ H) {i:Nat} {p0 p1:Pt} {q0:Addr×Addr×Addr} {r:Addr} (ep:st.ak[i]?=some p0) (eq:A.qs[i]?=some q0) (e1:p1.nm=p0.nm) (cr:ρ r=some (n,21,p0.nm)) (hr:H r=some (.lst (p1.row.map V.int))) (nd:(st.ak.map (·.nm)).Nodup):
  aL T n ρ { A with qs:=A.qs.set i (q0.1,q0.2.1,r) } (upd H q0.1 (.ins T.part q0.2.1 (cJ p1 r))) { st with ak:=st.ak.set i p1 }:=by
 have c0:=(h.opt i p0 q0 ep eq).2.2.1
 have k:=dW (o:= .ins T.part q0.2.1 (cJ p1 r)) g c0
 have WL:=fun {b:Addr} {u:Nat} {y:Str} {w:HO}=>xj (H:=H) (o:= .ins T.part q0.2.1 (cJ p1 r)) c0 (b:=b) (u:=u) (y:=y) (w:=w)
 obtain ⟨vs,h1,h2⟩:=h.oj
 obtain ⟨kvs,k1,k2,k3⟩:=h.okn
 refine ⟨kz k h.ca h.oa,h.ca,kz k h.gP h.gO,h.gP,?_,h.fC,⟨vs,kz k h.g_ h1,h2.keep k (by decide)⟩,h.g_,kz k h.h_ h.p7,h.h_,kz k h.ia h.jQ,h.ia,kz k h.iJ h.iI,h.iJ,kz k h.cpu h.j7,h.cpu,kz k h.ie h.oq,h.ie,⟨kvs,kz k h.ig k1,fun p hp=>let ⟨t,r,e,q⟩:=k2 p hp;⟨t,r,e,k.1 _ _ q⟩,k3⟩,h.ig,?_,?_⟩
 . show _=some (HO.dK (b7 (st.ak.set i p1) (A.qs.set i (q0.1,q0.2.1,r))))
   rw [Hz (q1:=(q0.1,q0.2.1,r)) eq rfl,yo ep e1];exact kz k h.fC h.dG
 . show (A.qs.set i _).length=(st.ak.set i _).length
   rw [gG,gG];exact h.ql
 . intro j p q hp hq
   have hi:=(c_.mp ep).1
   have hi':=(c_.mp eq).1
   by_cases e:i=j
   . subst e
     rw [show ({ st with ak:=st.ak.set i p1 }:HS).ak=st.ak.set i p1 from rfl,ou hi] at hp
     rw [show ({ A with qs:=A.qs.set i (q0.1,q0.2.1,r) }:HA).qs=A.qs.set i (q0.1,q0.2.1,r) from rfl,ou hi'] at hq
     cases hp;cases hq
     exact ⟨ah,WL cr (.inl (by decide)) hr,by rw [e1];exact c0,by rw [e1];exact cr⟩
   . rw [show ({ st with ak:=st.ak.set i p1 }:HS).ak=st.ak.set i p1 from rfl,wK e] at hp
     rw [show ({ A with qs:=A.qs.set i (q0.1,q0.2.1,r) }:HA).qs=A.qs.set i (q0.1,q0.2.1,r) from rfl,wK e] at hq
     obtain ⟨a1,a2,a3,a4⟩:=h.opt j p q hp hq
     exact ⟨WL a3 (.inr fun z=>e (AU nd ep hp z.symm)) a1,WL a4 (.inl (by decide)) a2,a3,a4⟩
theorem HB {X:Cx}:U4 X (Mq X.K):=by
 intro pins s σ H x y v u Q I rx ry h
 obtain ⟨p,xs,i,z,rfl,rfl,hq,he,q⟩:=h
 cases rx
 obtain ⟨t,rfl⟩:=ry
 obtain ⟨its,r,pl,hz⟩:=I.list hq
 obtain ⟨j,h1,h2,h3,h4,h5⟩:=yi he
 obtain ⟨w,ew,rw'⟩:=r.get h2
 have hl:=r.length
 have hn:=rD
 have fin:EP X pins σ Q w s:=⟨z,H,I,rw',q⟩
 by_cases h0:0<=i
 . have hj:i.toNat=j:=by
    rw [seqIndex_of h0 h5] at h1
    exact eV h1
   exact wpAny_getItem_list pl.isList h0 (by omega) (by rw [hj];simpa using ew) fin
 . have hj:(i+(its.toArray.size:Int)).toNat=j:=by
    rw [seqIndex_neg (by omega) h4] at h1
    rw [gE,<-hl]
    exact eV h1
   exact wpAny_getItem_list_neg pl.isList (by omega) (by rw [gE] <;> omega) (by omega) (by rw [hj];simpa using ew) fin
inductive O2 (T:TC) (vs:List V) (H:Hp) (Q:VK) (E:XK):Prop
 | mk (n ρ A st:_) (i:Nat) (p:Pt) (_:vs=[.ref A.a, .str p.nm]) (_:HH T n ρ A H st) (_:st.ak[i]?=some p) (_:st.kn+100<=1000000) (_:∀r ws H',HH T n ρ A H' { st with kn:=st.kn+100 }->Fr n ρ H ρ H'->H r=none->H' r=some (.lst ws)->ρ r=none->gI H' ws (p_ st p:_)->Q (.ref r) H')
def vP (T:TC):Sp:=bx (O2 T)
structure Q_ (st:HS):Prop where
 kn:st.kn+100<=1000000
 c7:st.c7.length<1000
 wo:∀p∈st.ak,Jm.Sz 60 p.wo
 prod:Jm.Sz 7900 st.prod
 bO:∀u∈st.bO,Jm.Sz 8900 u
inductive WM (T:TC) (e:Ec) (vs:List V) (H:Hp) (Q:VK) (E:XK):Prop
 | mk (n ρ A st x:_) (_:vs=[.ref A.a, .str x]) (_:HH T n ρ A H st) (_:Q_ st) (_:DU T e n ρ A H (tN st x:_) (vM st x:_) Q E)
def Lo (T:TC) (e:Ec):Sp:=bx (WM T e)
theorem xP {st:HS} {x:Str} (h:tN st x=none):x∈fh st:=by
 unfold tN at h
 split at h
 . assumption
 . cases h
theorem Fr.YU {n:Nat} {ρ:dO} {H H':Hp} (f:Fr n ρ H ρ H') (g:Gh ρ H') {b:Addr} (h:H' b=none):H b=none:=by
 cases e:H b with
 | none=>rfl
 | some o=>
   have:=(f b o e fun t x z=>by rw [g.none h] at z;cases z).1
   rw [h] at this;cases this
theorem rT:∀{l:List Pt} {i:Nat} {p:Pt},(l.map (·.nm)).Nodup->l[i]?=some p->l.filter (fun q=>decide (q.nm≠p.nm))=l.eraseIdx i
 | [],_,_,_,h=>by simp at h
 | x::l,0,p,nd,h=>by
   obtain ⟨h1,h2⟩:=fU.mp (show (x.nm::l.map (·.nm)).Nodup from nd)
   have e:x=p:=by simpa using h
   subst e
   rw [gF,az (by simp)]
   exact Fx.mpr fun y hy=>aX fun z=>h1 (bJ.mpr ⟨y,hy,z⟩)
 | x::l,i+1,p,nd,h=>by
   obtain ⟨h1,h2⟩:=fU.mp (show (x.nm::l.map (·.nm)).Nodup from nd)
   have h':l[i]?=some p:=by simpa using h
   rw [gF,aA (by simpa using fun z:x.nm=p.nm=>h1 (bJ.mpr ⟨p,bR h',z.symm⟩)),rT h2 h']
   rfl
def qx (st:HS) (p:Pt):List Int:=(iB st p).set (st.own.idxOf p.ow) ((iB st p).getD (st.own.idxOf p.ow) 0-p.wo*st.prod)
theorem Ra {st:HS} (wf:Wf st) {p:Pt} (hp:p∈st.ak) {m:Nat} (h1:Jm.Sz 60 p.wo) (h2:Jm.Sz m st.prod) (h3:∀u∈st.bO,Jm.Sz (m+60) u):∀u∈iB st p,Jm.Sz (m+61) u:=fun u hu=>by
 obtain ⟨i,a,t,ea,et,rfl⟩:=tM (show u∈List.zipWith (fun u t=>u+p.wo*t) st.bO (bf st p) from hu)
 have ht:=wf.nq p hp t (bR et)
 have zt:Jm.Sz m t:=h2.of_le (by omega)
 exact (h3 a (bR ea)).kX ((h1.mul zt).mono (by omega))
theorem Lp {st:HS} (wf:Wf st) {p:Pt} (hp:p∈st.ak) {m:Nat} (h1:Jm.Sz 60 p.wo) (h2:Jm.Sz m st.prod) (h3:∀u∈st.bO,Jm.Sz (m+60) u):∀u∈qx st p,Jm.Sz (m+62) u:=fun u hu=>by
 have g:=Ra wf hp h1 h2 h3
 rcases LJ (show u∈(iB st p).set _ _ from hu) with z|z
 . exact (g u z).mono (by omega)
 . rw [z]
   have z0:Jm.Sz (m+61) ((iB st p).getD (st.own.idxOf p.ow) 0):=by
    rw [jJ]
    cases e:(iB st p)[st.own.idxOf p.ow]? with
    | none=>exact (by show Jm.Sz (m+61) 0;unfold Jm.Sz;exact Nat.pow_pos (by decide))
    | some y=>exact g y (bR e)
   have:=z0.kX (((h1.mul h2).mono (by omega:60+m<=m+61)).neg)
   rw [Int.sub_eq_add_neg]
   exact this
theorem DY {st:HS} (wf:Wf st) {p:Pt} (hp:p∈st.ak):(iB st p).length=st.own.length:=by
 unfold iB
 rw [jY,Hx wf hp,wf.oJ,u7]
theorem vQ {st:HS} (wf:Wf st) {p:Pt} (hp:p∈st.ak):vM st p.nm={ st with ak:=st.ak.filter (fun q=>decide (q.nm≠p.nm)),c7:=st.c7++[⟨p.nm,p.ow,p.wo,p_ st p⟩],kn:=st.kn+100,bO:=qx st p }:=by
 unfold vM qx
 rw [dj wf hp rfl]
theorem Lq {st:HS} {x:Str} (wf:Wf st) (h:tN st x=none) (l:Q_ st):Wf (vM st x):=by
 obtain ⟨i,p,e1,rfl⟩:=kO (xP h)
 have hp:=bR e1
 rw [vQ wf hp]
 have S:∀{M:Pt->Prop},(∀x∈st.ak,M x)->∀x∈st.ak.filter (fun q=>decide (q.nm≠p.nm)),M x:=fun h x hx=>h x (uZ.mp hx).1
 have hf:=List.length_filter_le (fun q:Pt=>decide (q.nm≠p.nm)) st.ak
 refine ⟨wf.nh,wf.vt,List.Nodup.sublist (List.Sublist.map _ List.filter_sublist) wf.cX,S wf.sub,S wf.rows,S wf.ow,wf.fK,?_,wf.fB,wf.pH,wf.uc,wf.jk,wf.vv,?_,wf.xo,?_,l.kn,wf.big,wf.lZ,S wf.p8,S wf.l7,S wf.nq,S wf.jR,?_⟩
 . show (qx st p).length=_
   unfold qx
   rw [gG,DY wf hp]
 . have:=wf.nj
   show (List.filter _ _).length<=1000
   omega
 . show (st.c7++[_]).length<=1000
   rw [cT]
   exact l.c7
 . exact fun u hu=>(Lp wf hp (m:=8840) (l.wo p hp) (l.prod.mono (by decide)) (fun u hu=>(l.bO u hu).mono (by decide)) u hu).mono (by decide)
inductive HC (c:Nat) (own:List Str) (sh:List (Str×Rat)):Prop
 | mk (Rb:List Str) (tops:List Int) (b:Int) (_:Rb <+:own) (_:Rb.length=tops.length) (_:sh=iL Rb tops b) (_:∀t∈tops,0<=t) (_:tops.sum=b) (_:1<=b) (_:Jm.Sz (64*c+1) b)
theorem HC.mono {c c':Nat} {own own':List Str} {sh:List (Str×Rat)} (h:HC c own sh) (hc:c<=c') (ho:own <+:own'):HC c' own' sh:=by
 obtain ⟨o0,ts,b,h1,h2,h3,h4,h5,h6,h7⟩:=h
 exact ⟨o0,ts,b,h1.trans ho,h2,h3,h4,h5,h6,h7.mono (by omega)⟩
structure Go (c:Nat) (st:HS):Prop where
 bO:∀u∈st.bO,Jm.Sz (64*c+61) u
 stp:st.stp.length<=c
 prod:Jm.Sz (64*c+1) st.prod
 wo:∀p∈st.ak,p.wo<=1000000000000*((c:Int)+1)
 we:∀p∈st.ak,p.we<=1000000000
 pl:st.ak.length<=c
 kl:st.nms.length<=c
 ol:0<st.own.length
 nk:∀x∈st.nms,isNm x=true
 on:∀o∈st.own,isNm o=true
 sum:∀p∈st.ak,(bf st p).sum=st.prod
 al:st.c7.length<=c
 c7:∀a∈st.c7,HC c st.own a.sh
theorem Go.kn {c:Nat} {st:HS} (g:Go c st) (k:Nat):Go c { st with kn:=k }:=⟨g.bO,g.stp,g.prod,g.wo,g.we,g.pl,g.kl,g.ol,g.nk,g.on,g.sum,g.al,g.c7⟩
theorem Go.mono {c:Nat} {st:HS} (g:Go c st):Go (c+1) st:=
 ⟨fun u hu=>(g.bO u hu).mono (by omega),by have:=g.stp;omega,g.prod.mono (by omega),fun p hp=>by have:=g.wo p hp;omega,g.we,by have:=g.pl;omega,by have:=g.kl;omega,g.ol,g.nk,g.on,g.sum,by have:=g.al;omega,fun a ha=>(g.c7 a ha).mono (by omega) (List.prefix_refl _)⟩
theorem Lr:∀{ps:List Pt} {m:Int},(∀p∈ps,1<=p.wo/\p.wo<=m)->0<=(ps.map (·.wo)).sum/\(ps.map (·.wo)).sum<=m*(ps.length:Int)
 | [],m,_=>by show 0<=(0:Int)/\(0:Int)<=m*0;omega
 | p::ps,m,h=>by
   have h0:=h p dg
   have ih:=Lr (ps:=ps) (m:=m) fun x hx=>h x (cK _ hx)
   rw [cj,fG,jL,show (((ps.length+1:Nat)):Int)=(ps.length:Int)+1 from by omega,u9,Int.mul_one]
   omega
theorem Go.whole {c:Nat} {st:HS} (g:Go c st) (wf:Wf st) (hc:c<=91):0<=aY st/\Jm.Sz 60 (aY st):=by
 have h:=Lr (ps:=st.ak) (m:=92000000000000) fun p hp=>⟨(wf.jR p hp).1,by have:=g.wo p hp;omega⟩
 have hl:=g.pl
 have h2:(92000000000000:Int)*(st.ak.length:Int)<=92000000000000*91:=by omega
 have h3:aY st<=92000000000000*91:=Int.le_trans h.2 h2
 have h1:0<=aY st:=h.1
 exact ⟨h1,(show Jm.Sz 60 (92000000000000*91:Int) from k_ (by decide +kernel)).of_le (by omega)⟩
theorem Go.aw {c:Nat} {st:HS} (g:Go c st) (wf:Wf st) (hc:c<=91):MQ st:=⟨(g.whole wf hc).2,g.prod.mono (by omega),fun u hu=>(g.bO u hu).mono (by omega),by have:=g.stp;omega⟩
theorem Go.sz {c:Nat} {st:HS} (g:Go c st) (wf:Wf st) (hc:c<=91):∀p∈st.ak,Jm.Sz 60 p.wo:=fun p hp=>by
 have h:=g.wo p hp
 have h1:=(wf.jR p hp).1
 exact (show Jm.Sz 60 (92000000000000:Int) from k_ (by decide +kernel)).of_le (by omega)
theorem Go.ld {c:Nat} {st:HS} (g:Go c st) (wf:Wf st) (hc:c<=91) (hk:st.kn+100<=1000000):Q_ st:=
 ⟨hk,by have:=g.al;omega,g.sz wf hc,g.prod.mono (by omega),fun u hu=>(g.bO u hu).mono (by omega)⟩
theorem Bk {c:Nat} {st:HS} (g:Go c st) {ps:List Pt} {ns:List Str} (h:∀p∈ps,(bf st p).sum=st.prod/\p.wo<=1000000000000*((c:Int)+2)/\p.we<=1000000000) (hl:ps.length<=c+1) (hn:ns.length<=c+1) (hk:∀x∈ns,isNm x=true):Go (c+1) { st with ak:=ps,nms:=ns }:=
 ⟨g.mono.bO,g.mono.stp,g.mono.prod,fun p hp=>by have:=(h p hp).2.1;omega,fun p hp=>(h p hp).2.2,hl,hn,g.ol,hk,g.on,fun p hp=>(h p hp).1,g.mono.al,g.mono.c7⟩
theorem Go.same {c:Nat} {st:HS} (g:Go c st) {ps:List Pt} (h:∀p'∈ps,∃p∈st.ak,p'.row=p.row/\p'.sc=p.sc/\p'.wo<=p.wo+1000000000000/\p'.we<=p.we) (hl:ps.length<=c+1):Go (c+1) { st with ak:=ps }:=
 Bk g (ns:=st.nms) (fun p' fX=>by
  obtain ⟨p,hp,e1,e2,e3,e4⟩:=h p' fX
  have w:=g.wo p hp
  have v:=g.we p hp
  exact ⟨by have:=g.sum p hp;unfold bf at this ⊢;rw [e1,e2];exact this,by omega,by omega⟩) hl g.mono.kl g.nk
theorem HD {c:Nat} {st st':HS} {kept lost:Int} {added:List Int} (g:Go c st) (wf:Wf st) (bl:oM st kept (aY st) lost added) (hs:added.sum=lost*st.prod) (hc:c<=90) (eC:st'={ a_ st kept (aY st) added with ak:=st'.ak })
  (hp:∀p'∈st'.ak,∃p∈st.ak,p'.row=p.row/\p'.sc=p.sc*kept / cC st kept (aY st) added/\p'.wo<=p.wo/\p'.we=p.we) (hl:st'.ak.length<=st.ak.length):Go (c+1) st':=by
 have zw:=g.whole wf (by omega)
 obtain ⟨hd,hsw,_,_⟩:=bl.dvds
 have w1:0<aY st:=by have:=bl.k;have:=bl.l;have:=bl.w;omega
 have s1:1<=aY st / cC st kept (aY st) added:=by
  have:=Int.le_of_dvd w1 hsw
  exact Int.le_ediv_of_mul_le hd (by omega)
 have s2:aY st / cC st kept (aY st) added<=aY st:=L7 _ (by omega)
 have zs:Jm.Sz 60 (aY st / cC st kept (aY st) added):=zw.2.of_le (by omega)
 have ep:st'.prod=(a_ st kept (aY st) added).prod:=by rw [eC]
 have ec:st'.bq=(a_ st kept (aY st) added).bq:=by rw [eC]
 have epr:st'.prod=st.prod*(aY st / cC st kept (aY st) added):=by rw [ep];unfold a_;rw [Bb s1]
 have en:st'.nms=st.nms:=by rw [eC];show (a_ st kept (aY st) added).nms=_;unfold a_;rw [tL]
 have eo:st'.own=st.own:=by rw [eC];show (a_ st kept (aY st) added).own=_;unfold a_;rw [tK]
 have ea:st'.c7=st.c7:=by rw [eC];show (a_ st kept (aY st) added).c7=_;unfold a_;rw [xy]
 have p1:=wf.fB
 have gm:=g.mono
 refine ⟨fun u hu=>?_,?_,?_,fun p' fX=>?_,fun p' fX=>?_,by have:=g.pl;omega,by rw [en];exact gm.kl,by rw [eo];exact g.ol,by rw [en];exact g.nk,by rw [eo];exact g.on,fun p' fX=>?_,by rw [ea];exact gm.al,by rw [ea,eo];exact gm.c7⟩
 . rw [eC] at hu
   have hu:u∈(a_ st kept (aY st) added).bO:=hu
   unfold a_ at hu
   rw [OQ] at hu
   obtain ⟨x,hx,rfl⟩:=bJ.mp hu
   exact ((g.bO x hx).mul zs).mono (by omega)
 . rw [eC]
   show (a_ st kept (aY st) added).stp.length<=c+1
   unfold a_ dJ
   split
   . show (st.stp++[_]).length<=c+1
     rw [cT];have:=g.stp;show st.stp.length+1<=c+1;omega
   . exact gm.stp
 . rw [epr];exact (g.prod.mul zs).mono (by omega)
 . obtain ⟨p,h0,_,_,e3,_⟩:=hp p' fX
   have:=gm.wo p h0
   omega
 . obtain ⟨p,h0,_,_,_,e4⟩:=hp p' fX
   rw [e4];exact g.we p h0
 . obtain ⟨p,h0,e1,e2,_,_⟩:=hp p' fX
   have tl:=vE wf h0
   have tl':(bf st' p').length=st.bq.length:=by
    unfold bf
    rw [jY,e1,wf.rows p h0,<-wf.fK,ec]
    unfold a_ eZ
    rw [DL,aC,jY,bl.len];omega
   have r:=Ln (l:=List.zipWith (fun t m=>t*kept+m) (bf st p) added) (m:=bf st' p') (a:=st'.prod) (b:=st.prod*aY st) (by rw [jY,tl,tl',bl.len];omega) fun j=>by
    rw [vI (f:=fun t m=>t*kept+m) (by show (0:Int)*_+0=0;omega) (by rw [tl,bl.len])]
    exact OW wf bl ec ep h0 e1 e2 (B:=st.prod) rfl rfl
   rw [Le _ (by rw [tl,bl.len]),g.sum p h0,hs,sY lost,<-u9,<-bl.w,sY _ st'.prod] at r
   exact (Int.eq_of_mul_eq_mul_right (Int.ne_of_gt (Int.mul_pos (by omega) w1)) r).symm
theorem DZ:∀(rs:List Row) (s:HS),(∀r∈rs,1<=r.2)->∀p'∈(rs.foldl dz s).ak,∃p∈s.ak,∃w,p'={ p with wo:=w }/\w<=p.wo
 | [],s,_,p',h=>⟨p',h,p'.wo,Z,kF _⟩
 | r::rs,s,h1,p',h=>by
   obtain ⟨p,hp,w,e,le⟩:=DZ rs (dz s r) (fun x hx=>h1 x (cK _ hx)) p' h
   obtain ⟨_,q,hq,e2⟩:=vF hp
   have:=h1 r dg
   split at e2
   . subst e2
     have le:w<=q.wo-r.2:=le
     exact ⟨q,hq,w,e,by omega⟩
   . subst e2;exact ⟨p,hq,w,e,le⟩
theorem D0:∀(rs:List Row) (s:HS),(rs.foldl dz s).ak.length<=s.ak.length
 | [],s=>aK _
 | r::rs,s=>by
   have:=D0 rs (dz s r)
   have h:=qT (ps:=s.ak) (x:=r.1) (a:=r.2) |>.length_le
   rw [aC,aC] at h
   exact fH this h
theorem HE (k:Int):∀{xs ts:List Int},xs.length=ts.length->(List.zipWith (fun x t=>x+k*t) xs ts).sum=xs.sum+k*ts.sum
 | [],[],_=>by simp
 | x::xs,t::ts,h=>by
   rw [B0,fG,fG,fG,HE k (by simpa using h),u9];omega
 | [],_::_,h=>by simp at h
 | _::_,[],h=>by simp at h
theorem D3 {st:HS}:∀(rs:List Row) (acc:List Int),(∀r∈rs,(bf st (cy st r.1)).length=acc.length/\(bf st (cy st r.1)).sum=st.prod)->(vD st acc rs).sum=acc.sum+bu rs*st.prod
 | [],acc,_=>by show acc.sum=acc.sum+0*_;omega
 | r::rs,acc,h=>by
   obtain ⟨h1,h2⟩:=h r dg
   have e:(List.zipWith (fun x t=>x+r.2*t) acc (bf st (cy st r.1))).length=acc.length:=by rw [jY,h1];omega
   show (vD st (List.zipWith (fun x t=>x+r.2*t) acc (bf st (cy st r.1))) rs).sum=_
   rw [D3 rs _ (fun x hx=>by rw [e];exact h x (cK _ hx)),HE _ h1.symm,h2,show bu (r::rs)=r.2+bu rs from by unfold bu;rw [cj,fG],u_]
   omega
theorem ju {st:HS} {r:Row} (h:jM st r=none):r.1∈fh st/\1<=r.2/\r.2<=(cy st r.1).wo:=by
 unfold jM at h
 split at h
 . split at h
   . cases h
   . split at h
     . cases h
     . exact ⟨by assumption,by omega,by omega⟩
 . cases h
theorem xQ {st:HS} {rs:List Row} (h:vL st rs=none):rs≠[]/\(rs.map fun r:Row=>r.1).Nodup/\(∀r∈rs,jM st r=none)/\bu rs<aY st:=by
 unfold vL at h
 split at h
 . next c=>
   split at h
   . cases h
   . next e=>
     split at h
     . cases h
     . exact ⟨c.1,c.2,fun r hr=>List.findSome?_eq_none_iff.mp e r hr,by omega⟩
 . cases h
theorem Go.HF {c:Nat} {st:HS} (g:Go c st) (wf:Wf st) (hc:c<=91) {rs:List Row} (h:vL st rs=none):rQ st rs:=by
 obtain ⟨h1,h2,h3,h4⟩:=xQ h
 have aw:=g.aw wf hc
 refine ⟨h2,h1,?_,fun r hr=>?_,h4,aw.big,aw.prod,aw.bO,aw.stp⟩
 . have:=rH h2 (m:=fh st) (fun x hx=>by obtain ⟨r,hr,rfl⟩:=bJ.mp hx;exact (ju (h3 r hr)).1)
   rw [aC] at this
   unfold fh at this
   rw [aC] at this
   have:=g.pl
   omega
 . obtain ⟨a1,a2,a3⟩:=ju (h3 r hr)
   obtain ⟨i,p,e1,e2⟩:=kO a1
   have hp:=bR e1
   rw [dj wf hp e2] at a3
   have:=g.sz wf hc p hp
   exact ⟨a2,this.of_le (by omega),p,hp,e2,a3⟩
def WN:Dd->Prop
 | .load _ _ wo we=>wo<=1000000000000/\we<=1000000000
 | .rise _ a=>a<=1000000000000
 | _=>True
theorem Ls {n i:Nat} {b:Int} (h:i<n):((List.replicate n (0:Int)).set i b).sum=b:=by
 have:=yN (l:=List.replicate n (0:Int)) (x:=b) (by rw [mV];exact h)
 rwa [Q7,Int.zero_add,GY,Int.zero_add] at this
theorem Uk {c:Nat} {st:HS} (g:Go c st) (wf:Wf st) {x o:Str} {wo we:Int} (hx:isNm x=true) (ho:o∈st.own) (h1:wo<=1000000000000) (h2:we<=1000000000):Go (c+1) (Fo st x o wo we):=by
 refine Bk g (fun p hp=>?_) (by rw [cT];have:=g.pl;show st.ak.length+1<=_;omega) (by rw [cT];have:=g.kl;show st.nms.length+1<=_;omega) (fun y hy=>?_)
 . rcases fZ.mp hp with z|z
   . have:=g.wo p z
     exact ⟨g.sum p z,by omega,g.we p z⟩
   . rw [fT.mp z]
     refine ⟨?_,by show wo<=_;omega,h2⟩
     unfold bf
     show (List.zipWith (fun r c=>(1:Int)*r+c) (j8 st _) st.bq).sum=_
     rw [Hw (by rw [gG,mV,wf.fK])]
     exact Ls (Ft ho)
 . rcases fZ.mp hy with z|z
   . exact g.nk y z
   . rw [fT.mp z];exact hx
theorem Ul {c:Nat} {st:HS} (g:Go c st) (wf:Wf st) (hc:c<=90) {rs:List Row} (h:vL st rs=none):Go (c+1) (iY st rs):=by
 have ok:=g.HF wf (by omega) h
 have h1:∀r∈rs,1<=r.2:=fun r hr=>(ok.row r hr).1
 refine HD g wf (ok.blend wf) ?_ hc (qd rs _) (fun p' fX=>?_) ?_
 . have ex:∀r∈rs,∃p∈st.ak,p.nm=r.1:=fun r hr=>by obtain ⟨p,hp,e,_⟩:=(ok.row r hr).2.2;exact ⟨p,hp,e⟩
   rw [DO wf ex,D3,GY,Int.zero_add]
   intro r hr
   obtain ⟨p,hp,e⟩:=ex r hr
   rw [dj wf hp e,mV]
   exact ⟨vE wf hp,g.sum p hp⟩
 . obtain ⟨p1,hp1,w,rfl,le⟩:=DZ rs _ h1 p' fX
   unfold a_ at hp1
   rw [mP] at hp1
   obtain ⟨p,hp,rfl⟩:=bJ.mp hp1
   exact ⟨p,hp,Z,Z,le,Z⟩
 . refine fH (D0 rs _) ?_
   unfold a_
   rw [mP,aC]
   exact aK _
theorem Rc {c:Nat} {st:HS} (g:Go c st) (wf:Wf st) (hc:c<=90) {o:Str} {a:Int} (h:kg st o a=none):Go (c+1) (Hg st o a):=by
 obtain ⟨ho,h1,h2⟩:=Bj h
 refine HD g wf ((g.aw wf (by omega)).blend (o:=o) wf h1 h2) (Ls (Ft ho)) hc rfl (fun p' fX=>?_) ?_
 . have fX:p'∈(a_ st _ _ _).ak:=fX
   unfold a_ at fX
   rw [mP] at fX
   obtain ⟨p,hp,rfl⟩:=bJ.mp fX
   exact ⟨p,hp,Z,Z,kF _,Z⟩
 . show (a_ st _ _ _).ak.length<=_
   unfold a_
   rw [mP,aC]
   exact aK _
theorem D4 {st:HS} (wf:Wf st) {c:Nat} (g:Go c st) {p:Pt} (hp:p∈st.ak):HC c st.own (p_ st p):=
 ⟨st.own,bf st p,st.prod,List.prefix_refl _,(Hx wf hp).symm,Z,fun t ht=>(wf.nq p hp t ht).1,g.sum p hp,wf.fB,g.prod⟩
theorem Um {c:Nat} {st:HS} (g:Go c st) (wf:Wf st) (hc:c<=91) {x:Str} (h:tN st x=none):Go (c+1) (vM st x):=by
 obtain ⟨i,p,e1,rfl⟩:=kO (xP h)
 have hp:=bR e1
 rw [vQ wf hp]
 have S:∀{M:Pt->Prop},(∀x∈st.ak,M x)->∀x∈st.ak.filter (fun q=>decide (q.nm≠p.nm)),M x:=fun h x hx=>h x (uZ.mp hx).1
 have hf:=List.length_filter_le (fun q:Pt=>decide (q.nm≠p.nm)) st.ak
 have gm:=g.mono
 refine ⟨fun u hu=>?_,gm.stp,gm.prod,S gm.wo,S g.we,fH hf gm.pl,gm.kl,g.ol,g.nk,g.on,S g.sum,?_,fun a ha=>?_⟩
 . exact (Lp wf hp (m:=64*c+1) (g.sz wf hc p hp) g.prod (fun u hu=>(g.bO u hu).mono (by omega)) u hu).mono (by omega)
 . show (st.c7++[_]).length<=_
   rw [cT]
   have:=g.al
   show st.c7.length+1<=_
   omega
 . rcases fZ.mp (show a∈st.c7++[_] from ha) with z|z
   . exact gm.c7 a z
   . rw [fT.mp z]
     exact (D4 wf g hp).mono (by omega) (List.prefix_refl _)
theorem Uo {c:Nat} {st:HS} (g:Go c st) (wf:Wf st) {o:Str} (h:isNm o=true):Go (c+1) (fV st o):=by
 have gm:=g.mono
 have P:∀p∈(fV st o).ak,∃p0∈st.ak,p={ p0 with row:=p0.row++[0] }:=fun p hp=>by
  obtain ⟨p0,h0,rfl⟩:=bJ.mp (show p∈st.ak.map _ from hp)
  exact ⟨p0,h0,Z⟩
 refine ⟨fun u hu=>?_,gm.stp,gm.prod,fun p hp=>?_,fun p hp=>?_,?_,gm.kl,?_,g.nk,fun x hx=>?_,fun p hp=>?_,gm.al,fun a ha=>(gm.c7 a ha).mono (aK _) (List.prefix_append _ _)⟩
 . rcases fZ.mp (show u∈st.bO++[0] from hu) with z|z
   . exact gm.bO u z
   . rw [fT.mp z]
     exact (show Jm.Sz 1 (0:Int) from k_ (by decide +kernel)).mono (by omega)
 . obtain ⟨p0,h0,rfl⟩:=P p hp
   exact gm.wo p0 h0
 . obtain ⟨p0,h0,rfl⟩:=P p hp
   exact g.we p0 h0
 . show (st.ak.map _).length<=_
   rw [aC];exact gm.pl
 . show 0<(st.own++[o]).length
   rw [cT];exact jK g.ol (tX _ _)
 . rcases fZ.mp (show x∈st.own++[o] from hx) with z|z
   . exact g.on x z
   . rw [fT.mp z];exact h
 . obtain ⟨p0,h0,rfl⟩:=P p hp
   show (List.zipWith (fun r c=>p0.sc*r+c) (p0.row++[0]) (st.bq++[0])).sum=st.prod
   rw [DH _ (by rw [wf.rows p0 h0,wf.fK]),List.sum_append,show (List.zipWith (fun r c=>p0.sc*r+c) p0.row st.bq).sum=st.prod from g.sum p0 h0]
   simp
theorem vR {l:List Pt} {x:Str} {f:Pt->Pt} {p':Pt} (h:p'∈l.map fun p=>if p.nm=x then f p else p):∃p∈l,(p.nm=x/\p'=f p)\/p'=p:=by
 obtain ⟨p,hp,e⟩:=bJ.mp h
 by_cases c:p.nm=x
 . exact ⟨p,hp, .inl ⟨c,by rw [aA c] at e;exact e.symm⟩⟩
 . exact ⟨p,hp, .inr (by rw [az c] at e;exact e.symm)⟩
theorem YV {c:Nat} {st:HS} (g:Go c st) (wf:Wf st) (hc:c<=90) {d:Dd} (hr:nF st d=none) (db:WN d):Go (c+1) (gJ st d):=by
 have hl:=g.pl
 cases d with
 | sign o=>
   have:vJ st o=none:=hr
   unfold vJ at this
   split at this
   . exact Uo g wf (by assumption)
   . cases this
 | load x o wo we=>
   obtain ⟨h1,_,h3,_,_⟩:=tO hr
   exact Uk g wf h1 h3 db.1 db.2
 | cast rs=>exact Ul g wf hc hr
 | award o a=>exact Rc g wf hc hr
 | mishap x a=>
   obtain ⟨_,h1,_⟩:=ju (show jM st (x,a)=none from hr)
   have h1:1<=a:=h1
   refine g.same (ps:=jS st.ak x a) (fun p' fX=>?_) ?_
   . obtain ⟨_,p,hp,e⟩:=vF fX
     split at e
     . exact ⟨p,hp,by rw [e],by rw [e],by rw [e];show p.wo-a<=_;omega,by rw [e];exact kF _⟩
     . exact ⟨p,hp,by rw [e],by rw [e],by rw [e];omega,by rw [e];exact kF _⟩
   . have h:=qT (ps:=st.ak) (x:=x) (a:=a) |>.length_le
     rw [aC,aC] at h
     omega
 | rise x a=>
   have ha:a<=1000000000000:=db
   refine g.same (fun p' fX=>?_) (by rw [aC];omega)
   obtain ⟨p,hp,⟨_,e⟩|e⟩:=vR fX
   . exact ⟨p,hp,by rw [e],by rw [e],by rw [e];show p.wo+a<=_;omega,by rw [e];exact kF _⟩
   . exact ⟨p,hp,by rw [e],by rw [e],by rw [e];omega,by rw [e];exact kF _⟩
 | hand x o=>
   obtain ⟨hx,ho⟩:=tP hr
   show Go (c+1) (fj st x o)
   unfold fj
   split
   . exact g.mono
   . next ne=>
     refine Bk g (ns:=st.nms) (fun p' fX=>?_) (by rw [aC];omega) g.mono.kl g.nk
     obtain ⟨p,hp,⟨en,e⟩|e⟩:=vR fX
     . rw [dj wf hp en] at ne
       have:=g.wo p hp
       refine ⟨?_,by rw [e];show p.wo<=_;omega,by rw [e];exact g.we p hp⟩
       rw [e,show bf st { p with ow:=o,sc:=1,row:=j8 st (kM st p o) }=_ from DX wf hp o]
       exact (Hy wf hp ho ne (g.sum p hp)).2
     . rw [e]
       have:=g.wo p hp
       exact ⟨g.sum p hp,by omega,g.we p hp⟩
 | land x=>exact Um g wf (by omega) hr
 | sever x y a we=>
   obtain ⟨hx,hy,h1,h2,h3,h4⟩:=kP hr
   obtain ⟨i,p0,e1,en⟩:=kO hx
   have hp0:=bR e1
   have w0:=g.wo p0 hp0
   have v0:=g.we p0 hp0
   show Go (c+1) (nH st x y a we)
   unfold nH
   rw [dj wf hp0 en] at h3 h4 ⊢
   refine Bk g (fun p' fX=>?_) (by rw [cT];show (List.map _ st.ak).length+1<=_;rw [aC];omega) (by rw [cT];have:=g.kl;show st.nms.length+1<=_;omega) (fun z hz=>?_)
   . rcases fZ.mp fX with z|z
     . obtain ⟨p,hp,⟨_,e⟩|e⟩:=vR z
       . rw [e]
         have:=g.wo p hp
         have:=g.we p hp
         exact ⟨g.sum p hp,by show p.wo-a<=_;omega,by show p.we-we<=_;omega⟩
       . rw [e]
         have:=g.wo p hp
         exact ⟨g.sum p hp,by omega,g.we p hp⟩
     . rw [fT.mp z]
       exact ⟨g.sum p0 hp0,by show a<=_;omega,by show we<=_;omega⟩
   . rcases fZ.mp hz with w|w
     . exact g.nk z w
     . rw [fT.mp w];exact hy.1
 | still=>exact g.mono
theorem YW {c:Nat} {st:HS} (g:Go c st) (wf:Wf st) (hc:c<=90) (hk:st.kn+100<=1000000) (ho:st.own.length<100) {d:Dd} (hr:nF st d=none):Wf (gJ st d):=by
 have hl:=g.pl
 have hn:=g.kl
 cases d with
 | sign o=>
   have:vJ st o=none:=hr
   unfold vJ at this
   split at this
   . split at this
     . cases this
     . exact Cu wf (by assumption) ho
   . cases this
 | load x o wo we=>
   obtain ⟨_,h2,h3,h4,h5⟩:=tO hr
   exact K_ wf h2 (by omega) (by omega) h3 h4 h5
 | cast rs=>exact T6 wf (g.HF wf (by omega) hr)
 | award o a=>
   obtain ⟨h0,h1,h2⟩:=Bj hr
   exact vC wf ((g.aw wf (by omega)).blend (o:=o) wf h1 h2)
 | mishap x a=>
   obtain ⟨_,_,h1⟩:=ju (show jM st (x,a)=none from hr)
   exact Cy wf fun p hp e=>by rw [dj wf hp e] at h1;exact h1
 | rise x a=>
   have h1:=(xO (show lK st x a=none from hr)).2
   exact xN wf fun q hq _=>⟨Z,Z,Z,Z,by have:=(wf.jR q hq).1;show 1<=q.wo+a;omega,(wf.jR q hq).2⟩
 | hand x o=>exact Lm wf hr g.sum
 | land x=>exact Lq wf hr (g.ld wf (by omega) hk)
 | sever x y a we=>exact Ht wf hr (by omega) (by omega)
 | still=>exact wf
theorem Up (st:HS) (s:Int):(dJ st s).kn<=st.kn:=by
 unfold dJ
 split
 . exact gH _
 . exact aK _
theorem Si (st:HS) (d:Dd):(gJ st d).kn<=st.kn+100:=by
 cases d with
 | cast rs=>exact fH (T9 st rs) (tX _ _)
 | award o a=>exact fH (Up _ _) (tX _ _)
 | hand x o=>
   show (fj st x o).kn<=_
   unfold fj
   split <;> exact tX _ _
 | land x=>exact aK _
 | _=>exact tX _ _
def jh (a b:HS):Prop:=a={ b with kn:=a.kn }
theorem jh.refl (a:HS):jh a a:=rfl
theorem jh.set {a b:HS} (h:jh a b) (k:Nat):jh { a with kn:=k } b:=by rw [h];rfl
theorem jh.ref {a b:HS} (h:jh a b) (d:Dd):nF a d=nF b d:=by
 rw [h]
 cases d <;> rfl
theorem Rg {a b:HS} (h:jh a b) (s:Int):jh (dJ a s) (dJ b s):=by
 unfold dJ
 rw [h]
 split <;> rfl
theorem HG:∀(rs:List Row) {a b:HS},jh a b->jh (rs.foldl dz a) (rs.foldl dz b)
 | [],_,_,h=>h
 | r::rs,a,b,h=>by
   rw [iV,iV]
   exact HG rs (by rw [h];rfl)
theorem D5 {a b:HS} (h:jh a b) (kept whole:Int) (added:List Int):jh (a_ a kept whole added) (a_ b kept whole added):=by
 generalize ek:a.kn=k at *
 unfold jh at h
 rw [ek] at h
 subst h
 unfold a_
 refine Rg ?_ _
 rfl
theorem jh.do {a b:HS} (h:jh a b) (d:Dd):jh (gJ a d) (gJ b d):=by
 generalize ek:a.kn=k at *
 unfold jh at h
 rw [ek] at h
 subst h
 cases d with
 | cast rs=>exact HG rs (D5 (a:={ b with kn:=k }) rfl _ _ _)
 | award o a=>exact D5 (a:={ b with kn:=k }) rfl _ _ _
 | hand x o=>
   show jh (fj { b with kn:=k } x o) (fj b x o)
   unfold fj
   show jh (if b.own.idxOf o=b.own.idxOf (cy b x).ow then _ else _) _
   split <;> rfl
 | _=>rfl
structure LS where
 own:List Str
 ak:List Q4
 Bl:List Str
structure LA where
 m:Addr
 lo:Addr
 lp:Addr
 lk:Addr
 qs:List Addr
def iZ (B:LA):List (Key×V):=[(Sum.inr "owners", .ref B.lo),(Sum.inr "parts", .ref B.lp),(Sum.inr "known", .ref B.lk)]
def gD (q:Q4):List V:=[.str q.1, .str q.2.1, .int q.2.2.1, .int q.2.2.2]
def nx:Str:=⟨#[]⟩
structure bH (n:Nat) (ρ:dO) (B:LA) (H:Hp) (l:LS):Prop where
 om:H B.m=some (.dK (iZ B))
 cm:ρ B.m=some (n,40,nx)
 oo:H B.lo=some (.lst (l.own.map V.str))
 co:ρ B.lo=some (n,41,nx)
 op:H B.lp=some (.lst (B.qs.map V.ref))
 cp:ρ B.lp=some (n,42,nx)
 ok:H B.lk=some (.lst (l.Bl.map V.str))
 ck:ρ B.lk=some (n,43,nx)
 nd:B.qs.Nodup
 ql:B.qs.length=l.ak.length
 pt:∀(i:Nat) (q:Q4) (a:Addr),l.ak[i]?=some q->B.qs[i]?=some a->H a=some (.lst (gD q))/\ρ a=some (n,44,nx)
def dZ (st:HS):LS:=⟨st.own,bh st,st.nms⟩
theorem bH.same {n:Nat} {ρ ρ':dO} {B:LA} {H H':Hp} {l:LS} (h:bH n ρ B H l) (k:Kp n ρ ρ' H H' fun _=>true):bH n ρ' B H' l:=by
 have z:=fun {b:Addr} {t:Nat} {x:Str} {o:HO} (c:ρ b=some (n,t,x)) (e:H b=some o)=>k.2 b t x o rfl c e
 exact ⟨(z h.cm h.om).1,(z h.cm h.om).2,(z h.co h.oo).1,(z h.co h.oo).2,(z h.cp h.op).1,(z h.cp h.op).2,(z h.ck h.ok).1,(z h.ck h.ok).2,h.nd,h.ql,fun i q a e1 e2=>let ⟨x,y⟩:=h.pt i q a e1 e2;z y x⟩
theorem bH.mono {n:Nat} {ρ:dO} {B:LA} {H H':Hp} {l:LS} (h:bH n ρ B H l) (s:aO H H'):bH n ρ B H' l:=h.same (K1 s)
theorem bH.other {n m:Nat} {ρ ρ':dO} {B:LA} {H H':Hp} {l:LS} (h:bH m ρ B H l) (f:Fr n ρ H ρ' H') (g:Gh ρ H) (e:m≠n):bH m ρ' B H' l:=
 h.same ⟨fun b xs q=>(f b _ q fun t x=>by rw [g.tup q];intro z;cases z).1,fun b t x o _ c q=>by
   obtain ⟨a,b'⟩:=f b o q fun t' x'=>by rw [c];intro z;cases z;exact e rfl
   exact ⟨a,b'.trans c⟩⟩
theorem bH.col {n t:Nat} {x:Str} {ρ:dO} {B:LA} {H:Hp} {l:LS} {a:Addr} (h:bH n ρ B H l) (c:ρ a=none):bH n (cE ρ a (n,t,x)) B H l:=
 h.same ⟨fun _ _ e=>e,fun b u y w _ hc he=>⟨he,by rw [cg (fun z=>by rw [z,c] at hc;cases hc)];exact hc⟩⟩
theorem bH.find {n:Nat} {ρ:dO} {B:LA} {H:Hp} {l:LS} (h:bH n ρ B H l) {i:Nat} {q:Q4} (e:l.ak[i]?=some q):∃a,B.qs[i]?=some a/\H a=some (.lst (gD q))/\ρ a=some (n,44,nx):=by
 have hi:i<B.qs.length:=by rw [h.ql];exact (c_.mp e).1
 exact ⟨B.qs[i],bB hi,h.pt i q _ e (bB hi)⟩
theorem bH.ir {n:Nat} {ρ:dO} {B:LA} {H:Hp} {l:LS} (h:bH n ρ B H l) (g:Gh ρ H) {i:Nat} {a:Addr} (q1:Q4) (ea:B.qs[i]?=some a):bH n ρ B (upd H a (.lst (gD q1))) { l with ak:=l.ak.set i q1 }:=by
 have hi:i<l.ak.length:=by rw [<-h.ql];exact (c_.mp ea).1
 obtain ⟨x1,x2⟩:=h.pt i _ a (bB hi) ea
 have k:=dW (o:= .lst (gD q1)) g x2
 refine ⟨kz k h.cm h.om,h.cm,kz k h.co h.oo,h.co,kz k h.cp h.op,h.cp,kz k h.ck h.ok,h.ck,h.nd,by show _=(l.ak.set i q1).length;rw [gG];exact h.ql,fun j q b e1 e2=>?_⟩
 have e1:(l.ak.set i q1)[j]?=some q:=e1
 by_cases hj:i=j
 . subst hj
   rw [ou hi] at e1
   rw [ea] at e2
   cases e1;cases e2
   exact ⟨ah,x2⟩
 . rw [wK hj] at e1
   obtain ⟨y1,y2⟩:=h.pt j q b e1 e2
   have hb:b≠a:=fun e=>hj ((L5 (c_.mp ea).1 h.nd).mp (by rw [ea,e2,e]))
   exact ⟨by rw [av hb];exact y1,y2⟩
theorem bH.WO {n:Nat} {ρ:dO} {B:LA} {H:Hp} {l:LS} (h:bH n ρ B H l) (g:Gh ρ H) {lp:Addr} {qs:List Addr} {ps:List Q4} (e:H lp=some (.lst (qs.map V.ref))) (c:ρ lp=some (n,42,nx)) (nd:qs.Nodup) (hl:qs.length=ps.length)
  (hp:∀(i:Nat) (q:Q4) (a:Addr),ps[i]?=some q->qs[i]?=some a->H a=some (.lst (gD q))/\ρ a=some (n,44,nx)):bH n ρ { { B with lp:=lp } with qs:=qs } (upd H B.m (.dK (iZ { B with lp:=lp }))) { l with ak:=ps }:=by
 have k:=dW (o:= .dK (iZ { B with lp:=lp })) g h.cm
 exact ⟨ah,h.cm,kz k h.co h.oo,h.co,kz k c e,c,kz k h.ck h.ok,h.ck,nd,hl,fun i q a e1 e2=>let ⟨x,y⟩:=hp i q a e1 e2;⟨kz k y x,y⟩⟩
theorem bH.O3 {n:Nat} {ρ:dO} {B:LA} {H:Hp} {l:LS} (h:bH n ρ B H l) (g:Gh ρ H) {q:Q4} {a:Addr} (e:H a=some (.lst (gD q))) (c:ρ a=some (n,44,nx)) (hn:a∉B.qs):bH n ρ { B with qs:=B.qs++[a] } (upd H B.lp (.lst ((B.qs++[a]).map V.ref))) { l with ak:=l.ak++[q] }:=by
 have k:=dW (o:= .lst ((B.qs++[a]).map V.ref)) g h.cp
 refine ⟨kz k h.cm h.om,h.cm,kz k h.co h.oo,h.co,ah,h.cp,kz k h.ck h.ok,h.ck,mK h.nd hn,?_,fun i x y ex ey=>?_⟩
 . show (B.qs++[a]).length=(l.ak++[q]).length
   rw [cT,cT,h.ql];rfl
 . have ex:(l.ak++[q])[i]?=some x:=ex
   have ey:(B.qs++[a])[i]?=some y:=ey
   by_cases d:i<l.ak.length
   . rw [BY d] at ex
     rw [BY (by rw [h.ql];exact d)] at ey
     obtain ⟨a1,a2⟩:=h.pt i x y ex ey
     exact ⟨kz k a2 a1,a2⟩
   . have hi:i=l.ak.length:=by
      have:=(c_.mp ex).1
      rw [cT] at this
      have:i<l.ak.length+1:=this
      omega
     subst hi
     rw [Fv (aK _),Af] at ex
     rw [Fv (by rw [h.ql];exact aK _),h.ql,Af] at ey
     cases ex;cases ey
     exact ⟨kz k c e,c⟩
theorem bH.Lu {n:Nat} {ρ:dO} {B:LA} {H:Hp} {l:LS} (h:bH n ρ B H l) (g:Gh ρ H) (ks:List Str):bH n ρ B (upd H B.lk (.lst (ks.map V.str))) { l with Bl:=ks }:=by
 have k:=dW (o:= .lst (ks.map V.str)) g h.ck
 exact ⟨kz k h.cm h.om,h.cm,kz k h.co h.oo,h.co,kz k h.cp h.op,h.cp,ah,h.ck,h.nd,h.ql,fun i q a e1 e2=>let ⟨x,y⟩:=h.pt i q a e1 e2;⟨kz k y x,y⟩⟩
inductive WQ (K:Fg) (H:Hp) (m:Addr) (st:HS):Prop
 | mk (kvs:List (Key×V)) (lo lp lk:Addr) (us:List V) (_:H m=some (.dK kvs)) (_:c5 kvs (Sum.inr "owners")=some (.ref lo)) (_:c5 kvs (Sum.inr "parts")=some (.ref lp)) (_:c5 kvs (Sum.inr "known")=some (.ref lk)) (_:aF K H lo (st.own.map V.str)) (_:aF K H lp us) (_:rP K H us st.ak) (_:aF K H lk (st.nms.map V.str))
theorem uQ {st:HS} {i:Nat} {p:Pt} (h:st.ak[i]?=some p):(bh st)[i]?=some (p.nm,p.ow,p.wo,p.we):=by
 unfold bh
 rw [b_,h];rfl
theorem bH.rows {K:Fg} {n:Nat} {ρ:dO} {B:LA} {H:Hp} {st:HS} (h:bH n ρ B H (dZ st)):rP K H (B.qs.map V.ref) st.ak:=by
 refine ⟨by rw [aC,h.ql];show (bh st).length=_;unfold bh;rw [aC],fun i p e=>?_⟩
 obtain ⟨a,ea,k1,_⟩:=h.find (uQ e)
 exact ⟨a,_,by rw [b_,ea];rfl, .inl (aF.of k1),Z,Z,Z,Z⟩
theorem bH.q {K:Fg} {n:Nat} {ρ:dO} {B:LA} {H:Hp} {st:HS} (h:bH n ρ B H (dZ st)):WQ K H B.m st:=
 ⟨_,B.lo,B.lp,B.lk,_,h.om,Z,Z,Z,aF.of h.oo,aF.of h.op,h.rows,aF.of h.ok⟩
def wF (st:HS):List Row:=st.ak.map fun p=>(p.nm,p.wo)
theorem rP.nw {K:Fg} {H:Hp} {us:List V} {st:HS} (h:rP K H us st.ak):MJ K H us (wF st):=by
 refine ⟨by unfold wF;rw [aC];exact h.len,fun i r e=>?_⟩
 unfold wF at e
 rw [b_] at e
 obtain ⟨p,ep,rfl⟩:=mU.mp e
 obtain ⟨a,xs,e1,e2,e3,_,e5,_⟩:=h.at_ i p ep
 exact ⟨a,xs,e1,e2,e3,e5⟩
structure Nx (nms:List Str) (st:HS):Prop where
 t:st.nms=nms.take st.nms.length
 nd:nms.Nodup
 ok:∀x∈nms,isNm x=true
theorem Nx.next {nms:List Str} {st:HS} (h:Nx nms st) {x:Str} (e:nms[st.nms.length]?=some x):isNm x=true/\x∉st.nms/\∀st':HS,st'.nms=st.nms++[x]->Nx nms st':=by
 refine ⟨h.ok x (bR e),?_,fun st' e'=>⟨?_,h.nd,h.ok⟩⟩
 . rw [h.t]
   exact kK h.nd e
 . rw [e',cT,show st.nms.length+[x].length=st.nms.length+1 from rfl,take_snoc e,<-h.t]
theorem Nx.keep {nms:List Str} {st st':HS} (h:Nx nms st) (e:st'.nms=st.nms):Nx nms st':=⟨by rw [e];exact h.t,h.nd,h.ok⟩
theorem O4 {st:HS} {d:Dd} (h:d.k≠1) (h':d.k≠8):(gJ st d).nms=st.nms:=by
 cases d with
 | load=>exact absurd rfl h
 | sever=>exact absurd rfl h'
 | cast rs=>
   show (iY st rs).nms=_
   unfold iY
   rw [qd]
   show (a_ st _ _ _).nms=_
   unfold a_
   rw [tL]
 | award o a=>
   show (a_ st _ _ _).nms=_
   unfold a_
   rw [tL]
 | hand x o=>show (fj st x o).nms=_;unfold fj;split <;> rfl
 | _=>rfl
def Dd.pl:Dd->Bool
 | .sign _=>false | .load .. =>false | .sever .. =>false|_=>true
theorem Dd.Rh {d:Dd} (h:d.pl=true):d.k≠1/\d.k≠8/\d.k≠0:=by cases d <;> first|(exact Bool.noConfusion h)|(refine ⟨?_,?_,?_⟩ <;> simp [Dd.k])
theorem MR {st:HS} (wf:Wf st) {rs:List Row} (h:OT (wF st) rs) (hne:rs≠[]):vL st rs=none:=by
 have hl:bu rs<aY st:=by
  rcases h.lost with z|z
  . have e:bu (wF st)=aY st:=by unfold bu wF aY;rw [iy];rfl
    rw [<-e];exact z
  . exact absurd z hne
 have hr:∀r∈rs,jM st r=none:=fun r hr=>by
  obtain ⟨r1,_,w,hw,e,le⟩:=h.row r hr
  obtain ⟨p,hp,rfl⟩:=bJ.mp hw
  have e:p.nm=r.1:=e
  have le:r.2<=p.wo:=le
  unfold jM
  rw [aA (show r.1∈fh st from bJ.mpr ⟨p,hp,e⟩),az (by omega),dj wf hp e,az (by omega)]
 unfold vL
 rw [aA ⟨hne,h.nd⟩,List.findSome?_eq_none_iff.mpr hr]
 exact az (by omega)
theorem Nx.pl {nms:List Str} {st:HS} (h:Nx nms st) (wf:Wf st):st.ak.length<=nms.length:=by
 have a:=rH (l:=st.ak.map (·.nm)) (m:=nms) wf.cX (fun x hx=>by
  obtain ⟨p,hp,rfl⟩:=bJ.mp hx
  have:=wf.sub p hp
  rw [h.t] at this
  exact List.mem_of_mem_take this)
 rwa [aC] at a
inductive YX (K:Fg) (vs:List V) (H:Hp) (Q:VK) (E:XK):Prop
 | mk (l:Addr) (us:List V) (rs:List Row) (_:vs=[.ref l]) (_:aF K H l us) (_:fq H us rs) (_:rs.length<=1000) (_:∀z H',aO H H'->H' z=some (.tup (Dd.v (.cast rs)))->Q (.ref z) H')
def O5 (K:Fg):Sp:=bx (YX K)
inductive yw (nms:List Str) (st:HS) (d:Dd):Prop
 | mk (_:nF st d=none) (_:Lg d) (_:Nx nms (gJ st d)) (_:d.k≠0)
inductive YY (K:Fg) (vs:List V) (H:Hp) (Q:VK) (E:XK):Prop
 | mk (a m ln:Addr) (ns:List Int) (k:Int) (nms:List Str) (c:Nat) (st:HS) (_:vs=[.ref a, .int k, .ref m, .ref ln]) (_:aF K H a (ns.map V.int)) (_:ns.length<=63) (_:0<=k) (_:k<=1000000) (_:WQ K H m st) (_:aF K H ln (nms.map V.str)) (_:Nx nms st) (_:nms.length<=50) (_:Wf st) (_:Go c st) (_:c<=90) (_:∀z d H',aO H H'->H' z=some (.tup (Dd.v d))->yw nms st d->Q (.ref z) H')
def O6 (K:Fg):Sp:=bx (YY K)
inductive O7 (K:Fg) (vs:List V) (H:Hp) (Q:VK) (E:XK):Prop
 | mk (a m ln:Addr) (ns:List Int) (k way:Int) (nms:List Str) (c:Nat) (st:HS) (_:vs=[.ref a, .int k, .ref m, .ref ln, .int way]) (_:aF K H a (ns.map V.int)) (_:ns.length<=63) (_:0<=k) (_:k<=1000000) (_:WQ K H m st) (_:aF K H ln (nms.map V.str)) (_:Nx nms st) (_:nms.length<=50) (_:Wf st) (_:Go c st) (_:c<=90) (_:0<st.ak.length) (_:∀z d H',aO H H'->H' z=some (.tup (Dd.v d))->yw nms st d->Q (.ref z) H')
def Bm (K:Fg):Sp:=bx (O7 K)
def jb (ps:List Q4) (qs:List Addr):List Addr:=((List.zip ps qs).filter fun x=>decide (0<x.1.2.2.1)).map fun x=>x.2
theorem JC {ps:List Q4} {qs:List Addr} {i:Nat} {p:Q4} {a:Addr} (h1:ps[i]?=some p) (h2:qs[i]?=some a):jb (ps.take (i+1)) (qs.take (i+1))=jb (ps.take i) (qs.take i)++if 0<p.2.2.1 then [a] else [] :=by
 have l1:=(c_.mp h1).1
 have l2:=(c_.mp h2).1
 unfold jb
 rw [take_snoc h1,take_snoc h2,List.zip_append (by rw [qi,qi];omega),List.filter_append,bQ]
 congr 1
 show List.map _ (List.filter _ [(p,a)])=_
 by_cases c:0<p.2.2.1
 . simp [c]
 . simp [c]
theorem Bo:∀{ps:List Q4} {qs:List Addr},qs.length=ps.length->(jb ps qs).length=(ps.filter fun p=>decide (0<p.2.2.1)).length
 | [],[],_=>rfl
 | p::ps,a::qs,h=>by
   have ih:=Bo (ps:=ps) (qs:=qs) (by simpa using h)
   unfold jb at ih ⊢
   rw [FG,gF,gF]
   by_cases c:0<p.2.2.1
   . rw [aA (aX c),aA (aX c),cj,jL,jL,ih]
   . rw [az (by simpa using c),az (by simpa using c),ih]
 | [],_::_,h=>by simp at h
 | _::_,[],h=>by simp at h
theorem xR:∀{ps:List Q4} {qs:List Addr} {i:Nat} {q:Q4} {a:Addr},qs.length=ps.length->(ps.filter fun p=>decide (0<p.2.2.1))[i]?=some q->(jb ps qs)[i]?=some a->∃j:Nat,ps[j]?=some q/\qs[j]?=some a
 | [],[],_,_,_,_,h,_=>by simp at h
 | p::ps,b::qs,i,q,a,hl,h1,h2=>by
   unfold jb at h2
   rw [FG,gF] at h2
   rw [gF] at h1
   by_cases c:0<p.2.2.1
   . rw [aA (aX c)] at h1 h2
     rw [cj] at h2
     cases i with
     | zero=>exact ⟨0,by simpa using h1,by simpa using h2⟩
     | succ i=>
       obtain ⟨j,a1,a2⟩:=xR (ps:=ps) (qs:=qs) (i:=i) (by simpa using hl) (by simpa using h1) (by simpa [jb] using h2)
       exact ⟨j+1,by simpa using a1,by simpa using a2⟩
   . rw [az (by simpa using c)] at h1 h2
     obtain ⟨j,a1,a2⟩:=xR (ps:=ps) (qs:=qs) (i:=i) (by simpa using hl) h1 h2
     exact ⟨j+1,by simpa using a1,by simpa using a2⟩
 | [],_::_,_,_,_,h,_,_=>by simp at h
 | _::_,[],_,_,_,h,_,_=>by simp at h
theorem vS:∀{ps:List Q4} {qs:List Addr},(jb ps qs).Sublist qs
 | [],_=>List.nil_sublist _
 | _::_,[]=>List.Sublist.refl _
 | p::ps,a::qs=>by
   unfold jb
   rw [FG,gF]
   by_cases c:0<p.2.2.1
   . rw [aA (aX c),cj]
     exact List.Sublist.cons_cons _ vS
   . rw [az (by simpa using c)]
     exact List.Sublist.cons _ vS
def MS (l:LS):LS:={ l with ak:=l.ak.filter fun q=>decide (0<q.2.2.1) }
def kh (rs:List Row) (qs:List Q4):List Q4:=qs.map fun q=>(q.1,q.2.1,q.2.2.1-fL rs q.1,q.2.2.2)
def Ri (l:LS) (i:Nat) (p:Pt):Dd->LS
 | .mishap _ a=>{ l with ak:=l.ak.set i (p.nm,p.ow,p.wo-a,p.we) }
 | .rise _ a=>{ l with ak:=l.ak.set i (p.nm,p.ow,p.wo+a,p.we) }
 | .hand _ o=>{ l with ak:=l.ak.set i (p.nm,o,p.wo,p.we) }
 | .land _=>{ l with ak:=l.ak.set i (p.nm,p.ow,0,p.we) }
 | .sever _ y a we=>{ l with ak:=l.ak.set i (p.nm,p.ow,p.wo-a,p.we-we)++[(y,p.ow,a,we)],Bl:=l.Bl++[y] }
 | _=>l
def Dd.part:Dd->Option Str
 | .mishap x _=>some x
 | .rise x _=>some x
 | .hand x _=>some x
 | .land x=>some x
 | .sever x _ _ _=>some x
 | _=>none
theorem rj:∀{l:List Q4} {i:Nat} {q:Q4},(∀x∈l,0<x.2.2.1)->i<l.length->(l.set i q).filter (fun q=>decide (0<q.2.2.1))=if 0<q.2.2.1 then l.set i q else l.eraseIdx i
 | [],_,_,_,h=>by simp at h
 | x::l,0,q,hp,_=>by
   rw [LW,gF,Fx.mpr (fun y hy=>aX (hp y (cK _ hy)))]
   by_cases c:0<q.2.2.1
   . rw [aA c,aA (aX c)]
   . rw [az c,az (by simpa using c)];rfl
 | x::l,i+1,q,hp,h=>by
   rw [FF,gF,aA (aX (hp x dg)),rj (fun y hy=>hp y (cK _ hy)) (by simpa using h)]
   by_cases c:0<q.2.2.1
   . rw [aA c,aA c]
   . rw [az c,az c];rfl
theorem D6 {α β:Type} (f:α->β):∀(l:List α) (i:Nat),(l.eraseIdx i).map f=(l.map f).eraseIdx i
 | [],_=>rfl
 | _::_,0=>rfl
 | x::l,i+1=>by show f x::(l.eraseIdx i).map f=f x::(l.map f).eraseIdx i;rw [D6 f l i]
theorem vU (st:HS) (i:Nat) (p:Pt):bh { st with ak:=st.ak.set i p }=(bh st).set i (p.nm,p.ow,p.wo,p.we):=qQ
theorem Bp (st:HS) (i:Nat):bh { st with ak:=st.ak.eraseIdx i }=(bh st).eraseIdx i:=D6 _ _ _
theorem LS.ext' {a b:LS} (h1:a.own=b.own) (h2:a.ak=b.ak) (h3:a.Bl=b.Bl):a=b:=by cases a;cases b;cases h1;cases h2;cases h3;rfl
theorem HJ {st:HS} (wf:Wf st):∀x∈bh st,0<x.2.2.1:=fun x hx=>by
 obtain ⟨p,hp,rfl⟩:=bJ.mp hx
 exact (wf.jR p hp).1
theorem Rj {st:HS} (wf:Wf st) {d:Dd} {i:Nat} {p:Pt} (hr:nF st d=none) (ep:st.ak[i]?=some p) (hd:d.part=some p.nm):MS (Ri (dZ st) i p d)=dZ (gJ st d):=by
 have hp:=bR ep
 have hi:i<(bh st).length:=by unfold bh;rw [aC];exact (c_.mp ep).1
 have hP:=HJ wf
 have eg:cy st p.nm=p:=dj wf hp rfl
 have w1:=(wf.jR p hp).1
 cases d with
 | mishap x a=>
   have e:x=p.nm:=eV hd
   subst e
   refine LS.ext' rfl ?_ rfl
   show ((bh st).set i _).filter _=bh { st with ak:=jS st.ak p.nm a }
   obtain ⟨_,h1,h2⟩:=ju (show jM st (p.nm,a)=none from hr)
   rw [show (cy st (p.nm,a).1).wo=p.wo by rw [eg]] at h2
   have h1:1<=a:=h1
   have h2:a<=p.wo:=h2
   rw [rj hP hi,zj wf.cX (fun q hq=>by have:=(wf.jR q hq).1;omega) ep]
   show (if 0<p.wo-a then _ else _)=_
   by_cases c:p.wo-a=0
   . rw [az (by omega),aA c,Bp]
   . rw [aA (by omega),az c,vU]
 | rise x a=>
   have e:x=p.nm:=eV hd
   subst e
   have h1:=(xO (show lK st p.nm a=none from hr)).2
   refine LS.ext' rfl ?_ rfl
   show ((bh st).set i _).filter _=bh (nG st p.nm _)
   rw [rj hP hi,oS wf.cX ep,vU]
   exact aA (by show 0<p.wo+a;omega)
 | hand x o=>
   have e:x=p.nm:=eV hd
   subst e
   have e1:(fj st p.nm o).own=st.own:=by unfold fj;split <;> rfl
   have e2:(fj st p.nm o).nms=st.nms:=by unfold fj;split <;> rfl
   refine LS.ext' e1.symm ?_ e2.symm
   show ((bh st).set i _).filter _=bh (fj st p.nm o)
   rw [rj hP hi]
   refine (aA (by show 0<p.wo;omega)).trans ?_
   unfold fj
   rw [eg]
   split
   . next c=>
     have ho:=(tP (show kL st p.nm o=none from hr)).2
     have e3:o=p.ow:=by
      have a1:=xB ho
      have a2:=xB (wf.ow p hp)
      rw [c,a2] at a1
      exact (eV a1).symm
     rw [e3]
     exact qc (uQ ep)
   . rw [oS wf.cX ep,vU]
 | land x=>
   have e:x=p.nm:=eV hd
   subst e
   refine LS.ext' rfl ?_ rfl
   show ((bh st).set i _).filter _=bh (vM st p.nm)
   rw [rj hP hi,vQ wf hp,rT wf.cX ep]
   exact (az (by show ¬ (0:Int)<0;omega)).trans (Bp st i).symm
 | sever x y a we=>
   have e:x=p.nm:=eV hd
   subst e
   obtain ⟨_,_,h1,_,h3,_⟩:=kP (show iN st p.nm y a we=none from hr)
   rw [eg] at h3
   refine LS.ext' rfl ?_ rfl
   show ((bh st).set i _++[_]).filter _=bh (nH st p.nm y a we)
   unfold nH
   rw [eg,oS wf.cX ep,List.filter_append,rj hP hi]
   show (if 0<p.wo-a then _ else _)++_=List.map _ (st.ak.set i _++[_])
   rw [aA (by omega),bQ]
   congr 1
   . exact (vU st i { p with wo:=p.wo-a,we:=p.we-we }).symm
   . show List.filter _ [((y,p.ow,a,we):Q4)]=[(y,p.ow,a,we)]
     rw [gF,aA (aX (show 0<a by omega))];rfl
 | _=>exact absurd hd (by simp [Dd.part])
def abC (st:HS):Dd->LS
 | .load x o wo we=>{ dZ st with ak:=bh st++[(x,o,wo,we)],Bl:=st.nms++[x] }
 | .cast rs=>{ dZ st with ak:=kh rs (bh st) }
 | _=>dZ st
theorem vV {st:HS} (wf:Wf st) {d:Dd} (hr:nF st d=none) (hd:d.part=none) (hs:d.k≠0):MS (abC st d)=dZ (gJ st d):=by
 have hP:=HJ wf
 have all:(bh st).filter (fun q=>decide (0<q.2.2.1))=bh st:=Fx.mpr fun x hx=>aX (hP x hx)
 cases d with
 | load x o wo we=>
   obtain ⟨_,_,_,h4,_⟩:=tO hr
   refine LS.ext' rfl ?_ rfl
   show (bh st++[(x,o,wo,we)]).filter _=List.map _ (st.ak++[_])
   rw [List.filter_append,all,bQ]
   congr 1
   show List.filter _ [((x,o,wo,we):Q4)]=[(x,o,wo,we)]
   rw [gF,aA (aX (show 0<wo by omega))];rfl
 | cast rs=>
   obtain ⟨h1,h2,h3,h4⟩:=xQ hr
   refine LS.ext' (GX st rs).symm ?_ (O4 (d:= .cast rs) (by simp [Dd.k]) (by simp [Dd.k])).symm
   show nD rs (bh st)=bh (iY st rs)
   unfold iY
   rw [Bd,Bc]
   refine (DR rs (bh st) h2 (fun q hq=>hP q hq) (fun x hx q hq e=>?_)).symm
   obtain ⟨p,hp,rfl⟩:=bJ.mp hq
   have:=(ju (h3 x hx)).2.2
   rw [dj wf hp e] at this
   exact this
 | award o a=>
   refine LS.ext' ?_ ?_ ?_
   . show st.own=(a_ st _ _ _).own;unfold a_;rw [tK]
   . show List.filter _ (bh st)=bh (a_ st _ _ _);rw [Bc,all]
   . show st.nms=(a_ st _ _ _).nms;unfold a_;rw [tL]
 | still=>exact LS.ext' rfl all rfl
 | sign o=>exact absurd rfl hs
 | _=>exact absurd hd (by simp [Dd.part])
inductive YZ (K:Fg) (vs:List V) (H:Hp) (Q:VK) (E:XK):Prop
 | mk (l:Addr) (own:List Str) (n:Nat) (ρ:dO) (_:vs=[.ref l]) (_:aF K H l (own.map V.str)) (_:Gh ρ H) (_:own.length<=1000) (_:∀ρ' B H',Gh ρ' H'->bH n ρ' B H' ⟨own,[],[]⟩->(∀b o,H b=some o->H' b=some o/\ρ' b=ρ b)->Q (.ref B.m) H')
def O8 (K:Fg):Sp:=bx (YZ K)
inductive Rk (K:Fg) (vs:List V) (H:Hp) (Q:VK) (E:XK):Prop
 | mk (n:Nat) (ρ:dO) (B:LA) (st:HS) (i:Nat) (p:Pt) (a z:Addr) (d:Dd) (_:vs=[.ref B.m, .ref a, .ref z]) (_:H z=some (.tup d.v)) (_:Gh ρ H) (_:bH n ρ B H (dZ st)) (_:st.ak[i]?=some p) (_:B.qs[i]?=some a) (_:d.part=some p.nm) (_:st.ak.length<1000) (_:st.nms.length<1000) (_:∀ρ' B' H',Gh ρ' H'->bH n ρ' B' H' (Ri (dZ st:_) i p d)->B'.m=B.m->Fr n ρ H ρ' H'->Q .bL H')
def D7 (K:Fg):Sp:=bx (Rk K)
inductive Uq (K:Fg) (vs:List V) (H:Hp) (Q:VK) (E:XK):Prop
 | mk (n c:Nat) (ρ:dO) (B:LA) (st:HS) (z:Addr) (d:Dd) (_:vs=[.ref B.m, .ref z]) (_:H z=some (.tup d.v)) (_:Gh ρ H) (_:bH n ρ B H (dZ st)) (_:Wf st) (_:Go c st) (_:c<=90) (_:nF st d=none) (_:d.k≠0) (_:∀ρ' B' H',Gh ρ' H'->bH n ρ' B' H' (dZ (gJ st d))->B'.m=B.m->Fr n ρ H ρ' H'->Q .bL H')
def HK (K:Fg):Sp:=bx (Uq K)
inductive Ur (T:TC) (K:Fg) (vs:List V) (H:Hp) (Q:VK) (E:XK):Prop
 | mk (n c:Nat) (ρ:dO) (A:HA) (st:HS) (z:Addr) (d:Dd) (_:vs=[.ref A.a, .ref z]) (_:cO K H z d.v) (_:HH T n ρ A H st) (_:Go c st) (_:c<=90) (_:st.kn+100<=1000000) (_:st.own.length<100) (_:nF st d=none) (_:tG T n ρ A H (gJ st d:_) fun H'=>Q .bL H')
def HL (T:TC) (K:Fg):Sp:=bx (Ur T K)
theorem Rl (B:LA) (l:Addr):putK (iZ B) (Sum.inr "parts") (.ref l)=iZ { B with lp:=l }:=rfl
theorem Lv:∀{rs:List Row} {i:Nat} {r:Row},rs[i]?=some r->(iM rs)[2*i]?=some (.str r.1)/\(iM rs)[2*i+1]?=some (.int r.2)
 | [],_,_,h=>by simp at h
 | x::rs,0,r,h=>by
   have e:x=r:=by simpa using h
   subst e
   exact ⟨Z,Z⟩
 | x::rs,i+1,r,h=>by
   obtain ⟨a,b⟩:=Lv (rs:=rs) (i:=i) (by simpa using h)
   rw [show 2*(i+1)=2*i+1+1 by omega]
   exact ⟨a,b⟩
theorem Lw {rs:List Row} {i:Nat} {r:Row} (h:rs[i]?=some r):(Dd.v (.cast rs))[1+2*i]?=some (.str r.1)/\(Dd.v (.cast rs))[2+2*i]?=some (.int r.2):=by
 obtain ⟨a,b⟩:=Lv h
 rw [show 1+2*i=2*i+1 by omega,show 2+2*i=2*i+1+1 by omega]
 exact ⟨a,b⟩
theorem vW (rs:List Row):(Dd.v (.cast rs)).length=2*rs.length+1:=by show (iM rs).length+1=_;rw [xG]
theorem O9 (m:Nat):oH 1 ((2*m+1:Nat):Int) 2=m:=by
 unfold oH Builtin.Range.rangeSize
 rw [aA (by decide)]
 split <;> omega
theorem O_ {qs:List Q4} (nd:(qs.map fun q:Q4=>q.1).Nodup) {rs:List Row} {r:Row} {j:Nat} {q:Q4} (hq:qs[j]?=some q) (e:q.1=r.1) (h:r.1∉rs.map (fun r:Row=>r.1)):kh (rs++[r]) qs=(kh rs qs).set j (q.1,q.2.1,q.2.2.1-r.2,q.2.2.2)/\(kh rs qs)[j]?=some q:=by
 have hj:=(c_.mp hq).1
 constructor
 . refine List.ext_getElem? fun k=>?_
   by_cases c:j=k
   . subst c
     rw [ou (by unfold kh;rw [aC];exact hj)]
     unfold kh
     rw [b_,hq]
     show some (q.1,q.2.1,q.2.2.1-fL (rs++[r]) q.1,q.2.2.2)=_
     rw [vH h,aA e.symm]
   . rw [wK c]
     unfold kh
     rw [b_,b_]
     cases ek:qs[k]? with
     | none=>rfl
     | some x=>
       show some (x.1,x.2.1,x.2.2.1-fL (rs++[r]) x.1,x.2.2.2)=some (x.1,x.2.1,x.2.2.1-fL rs x.1,x.2.2.2)
       rw [vH h,az]
       intro z
       have r1:(qs.map fun q:Q4=>q.1)[k]?=some x.1:=by rw [b_,ek];rfl
       have r2:(qs.map fun q:Q4=>q.1)[j]?=some q.1:=by rw [b_,hq];rfl
       exact c ((L5 (by rw [aC];exact hj) nd).mp (r2.trans (by rw [e,z];exact r1.symm)))
 . unfold kh
   rw [b_,hq]
   show some (q.1,q.2.1,q.2.2.1-fL rs q.1,q.2.2.2)=some q
   rw [e,vG h,Int.sub_zero,<-e]
theorem Rm (qs:List Q4):kh [] qs=qs:=by
 unfold kh
 rw [show (fun q:Q4=>(q.1,q.2.1,q.2.2.1-fL [] q.1,q.2.2.2))=id from funext fun q=>by rw [xC,Int.sub_zero];rfl,List.map_id]
theorem HM (rs:List Row) (qs:List Q4):(kh rs qs).length=qs.length:=by unfold kh;rw [aC]
theorem MT (rs:List Row) (qs:List Q4):(kh rs qs).map (fun q:Q4=>q.1)=qs.map fun q:Q4=>q.1:=by unfold kh;rw [iy];rfl
theorem MU (st:HS):(bh st).map (fun q:Q4=>q.1)=fh st:=by unfold bh fh;rw [iy];rfl
def xS (qs:List Q4):List Row:=qs.map fun q=>(q.1,q.2.2.1)
theorem D8 (qs:List Q4):(xS qs).map (fun r:Row=>r.1)=qs.map fun q:Q4=>q.1:=by unfold xS;rw [iy];rfl
theorem bH.nw {K:Fg} {n:Nat} {ρ:dO} {B:LA} {H:Hp} {l:LS} (h:bH n ρ B H l):MJ K H (B.qs.map V.ref) (xS l.ak):=by
 refine ⟨by unfold xS;rw [aC,aC];exact h.ql,fun i r e=>?_⟩
 unfold xS at e
 rw [b_] at e
 obtain ⟨q,eq,rfl⟩:=mU.mp e
 obtain ⟨a,ea,k1,_⟩:=h.find eq
 exact ⟨a,_,by rw [b_,ea];rfl, .inl (aF.of k1),Z,Z⟩
theorem Dd.WR {d:Dd} {x:Str} (h:d.part=some x):d.v[1]?=some (.str x)/\d.k≠1/\d.k≠2/\d.k≠3/\d.k≠9:=by
 cases d <;> first|(cases h;refine ⟨rfl,?_,?_,?_,?_⟩ <;> simp [Dd.k])|(cases h)
theorem Us {st:HS} {d:Dd} {x:Str} (h:d.part=some x) (hr:nF st d=none):x∈fh st:=by
 cases d with
 | mishap y a=>cases h;exact (ju (show jM st (x,a)=none from hr)).1
 | rise y a=>cases h;exact (xO (show lK st x a=none from hr)).1
 | hand y o=>cases h;exact (tP (show kL st x o=none from hr)).1
 | land y=>cases h;exact xP hr
 | sever y z a we=>cases h;exact (kP (show iN st x z a we=none from hr)).1
 | _=>cases h
theorem Rn (l:LS) (i:Nat) (p:Pt) (d:Dd):(Ri l i p d).ak.length<=l.ak.length+1:=by
 cases d <;> first|(show (List.set _ _ _).length<=_;rw [gG];omega)|(show (List.set _ _ _++[_]).length<=_;rw [cT,gG];exact aK _)|exact yf _
def jT (st:HS) (ds:List Dd):HS:=ds.foldl gJ st
inductive mh (H:Hp):List V->List Dd->Prop
 | nil:mh H [] []
 | cons {a:Addr} {d:Dd} {vs:List V} {ds:List Dd}:H a=some (.tup d.v)->mh H vs ds->mh H (.ref a::vs) (d::ds)
theorem mh.mono {H H':Hp} {vs:List V} {l:List Dd} (h:mh H vs l) (g:∀b xs,H b=some (.tup xs)->H' b=some (.tup xs)):mh H' vs l:=by
 induction h with
 | nil=>exact .nil
 | cons a _ ih=>exact .cons (g _ _ a) ih
theorem mh.length {H:Hp} {vs:List V} {l:List Dd} (h:mh H vs l):vs.length=l.length:=by
 induction h with
 | nil=>rfl
 | cons _ _ ih=>simp [ih]
theorem mh.get {H:Hp} {vs:List V} {l:List Dd} (h:mh H vs l):∀{i:Nat} {x:V},vs[i]?=some x->∃a d,x = .ref a/\l[i]?=some d/\H a=some (.tup d.v):=by
 induction h with
 | nil=>intro i x e;simp at e
 | @cons a r vs rs e0 _ ih=>
   intro i x e
   cases i with
   | zero=>simp at e;subst e;exact ⟨a,r,Z,Z,e0⟩
   | succ i=>simp at e;obtain ⟨a',r',e1,e2,e3⟩:=ih e;exact ⟨a',r',e1,by simpa using e2,e3⟩
theorem mh.snoc {H:Hp} {vs:List V} {l:List Dd} {a:Addr} {d:Dd} (h:mh H vs l) (e:H a=some (.tup d.v)):mh H (vs++[.ref a]) (l++[d]):=by
 induction h with
 | nil=>exact .cons e .nil
 | cons a _ ih=>exact .cons a ih
def yP (st:HS) (ds:List Dd):Prop:=∀(i:Nat) (d:Dd),ds[i]?=some d->nF (jT st (ds.take i)) d=none/\Lg d/\d.k≠0
theorem yP.nil (st:HS):yP st [] :=fun i d h=>by simp at h
theorem yP.snoc {st:HS} {ds:List Dd} {d:Dd} (h:yP st ds) (h1:nF (jT st ds) d=none) (h2:Lg d) (h3:d.k≠0):yP st (ds++[d]):=fun i x e=>by
 rcases Nat.lt_or_ge i ds.length with c|c
 . rw [BY c] at e
   rw [List.take_append_of_le_length (by omega)]
   exact h i x e
 . have hi:i=ds.length:=by
    have:=(c_.mp e).1
    rw [cT] at this
    have:i<ds.length+1:=this
    omega
   subst hi
   rw [Fv (aK _),Af] at e
   cases e
   rw [List.take_left']
   . exact ⟨h1,h2,h3⟩
   . rfl
theorem qU (st:HS) (ds:List Dd) (d:Dd):jT st (ds++[d])=gJ (jT st ds) d:=by unfold jT;rw [Cd];rfl
theorem Lg.g {d:Dd} (h:Lg d):WN d:=by
 cases d with
 | load x o wo we=>obtain ⟨_,_,⟨_,h1⟩,⟨_,h2⟩⟩:=h;exact ⟨by omega,h2⟩
 | rise x a=>obtain ⟨_,⟨_,h1⟩⟩:=h;show a<=_;omega
 | _=>exact True.intro
theorem WS {st:HS} {d:Dd} (h:d.k≠0):(gJ st d).own=st.own:=by
 cases d with
 | sign o=>exact absurd rfl h
 | cast rs=>exact GX st rs
 | award o a=>show (a_ st _ _ _).own=_;unfold a_;rw [tK]
 | hand x o=>show (fj st x o).own=_;unfold fj;split <;> rfl
 | _=>rfl
structure GW (c m:Nat) (st:HS):Prop where
 g:Go c st
 wf:Wf st
 kn:st.kn<=m
theorem GW.do {c m:Nat} {st:HS} (h:GW c m st) (hc:c<=90) (hm:m+100<=1000000) (ho:st.own.length<100) {d:Dd} (hr:nF st d=none) (hb:WN d):GW (c+1) (m+100) (gJ st d):=
 ⟨YV h.g h.wf hc hr hb,YW h.g h.wf hc (by have:=h.kn;omega) ho hr,by have:=h.kn;have:=Si st d;omega⟩
theorem yP.go {c m:Nat} {st:HS} {ds:List Dd} (h:yP st ds) (g:GW c m st) (hc:c+ds.length<=91) (hm:m+100*ds.length<=1000000) (ho:st.own.length<100):∀i≤ds.length,GW (c+i) (m+100*i) (jT st (ds.take i))/\(jT st (ds.take i)).own=st.own:=by
 intro i
 induction i with
 | zero=>intro _;exact ⟨g,Z⟩
 | succ i ih=>
   intro hi
   obtain ⟨g1,e1⟩:=ih (by omega)
   have ei:=bB (show i<ds.length by omega)
   obtain ⟨h1,h2,h3⟩:=h i _ ei
   rw [take_snoc ei,qU]
   have:=g1.do (by omega) (by omega) (by rw [e1];exact ho) h1 h2.g
   exact ⟨by rw [show c+(i+1)=c+i+1 by omega,show m+100*(i+1)=m+100*i+100 by omega];exact this,by rw [WS h3,e1]⟩
inductive WT (K:Fg) (vs:List V) (H:Hp) (Q:VK) (E:XK):Prop
 | mk (n c m:Nat) (ρ:dO) (B:LA) (st:HS) (a ln:Addr) (ns:List Int) (k:Int) (nms:List Str) (many:Nat) (_:vs=[.ref a, .int k, .ref B.m, .ref ln, .int (many:Int)]) (_:Gh ρ H) (_:bH n ρ B H (dZ st)) (_:GW c m st) (_:c+many<=91) (_:m+100*many<=1000000) (_:st.own.length<100) (_:yO K ρ H a (ns.map V.int)) (_:ns.length<=63) (_:0<=k) (_:k<=100000) (_:yO K ρ H ln (nms.map V.str)) (_:Nx nms st) (_:nms.length<=50)
   (_:∀l zs ds ρ' B' H',Gh ρ' H'->bH n ρ' B' H' (dZ (jT st ds))->B'.m=B.m->Fr n ρ H ρ' H'->H' l=some (.lst zs)->ρ' l=none->mh H' zs ds->yP st ds->ds.length=many->Nx nms (jT st ds)->Q (.ref l) H')
def Lx (K:Fg):Sp:=bx (WT K)
def sN (sp:Sp):Sp:=fun vs H Q _=>sp vs H Q E0
theorem Mx.n {P:Program} {w:World} {K:Fg} {mg:SO} {base:Heap} {k:Nat} {C:Addr} {m:Str} {ps:List Str} {sp:Sp} (D:Mx P w K mg base k C m ps sp):Mn P w K mg base k C m ps (sN sp):=D.mn fun _ _ _ _ h=>h
theorem Pa {st:HS} {o:Str} (h:vJ st o=none):isNm o=true/\o∉st.own:=by
 unfold vJ at h
 split at h
 . split at h
   . cases h
   . exact ⟨by assumption,by assumption⟩
 . cases h
def ki (own:List Str):HS:=own.foldl fV hs0
theorem D9:∀(l:List Str) (st:HS),Wf st->(st.own++l).Nodup->st.own.length+l.length<=100->Wf (l.foldl fV st)
 | [],_,w,_,_=>w
 | o::l,st,w,nd,hl=>by
   rw [iV]
   rw [jL] at hl
   have h1:o∉st.own:=fun m=>(List.nodup_append.mp nd).2.2 o m o dg rfl
   refine D9 l (fV st o) (Cu w h1 (by omega)) ?_ ?_
   . show ((st.own++[o])++l).Nodup
     rw [L1];exact nd
   . show (st.own++[o]).length+l.length<=100
     rw [cT];show st.own.length+1+l.length<=100;omega
theorem gw0 {own:List Str} (nd:own.Nodup) (h0:0<own.length) (h1:own.length<=100) (hon:∀o∈own,isNm o=true):GW 0 0 (ki own):=by
 obtain ⟨k1,k2,k3,k4,k5,k6⟩:=nE own hs0 rfl (fun u hu=>absurd hu (by simp [hs0]))
 have eo:(ki own).own=own:=by unfold ki;rw [tH];rfl
 have k1:(ki own).ak=[] :=k1
 have k2:(ki own).nms=[] :=k2
 have k3:(ki own).stp=[] :=k3
 have k4:(ki own).prod=1:=k4
 have k5:(ki own).c7=[] :=k5
 have k6:∀u∈(ki own).bO,u=0:=k6
 refine ⟨⟨fun u hu=>?_,by rw [k3];exact aK _,?_,fun p hp=>?_,fun p hp=>?_,by rw [k1];exact aK _,by rw [k2];exact aK _,by rw [eo];exact h0,fun x hx=>?_,by rw [eo];exact hon,fun p hp=>?_,by rw [k5];exact aK _,fun a ha=>?_⟩,D9 own hs0 ZC nd (by show 0+_<=_;omega),?_⟩
 . rw [k6 u hu];exact k_ (by decide +kernel)
 . rw [k4];exact k_ (by decide +kernel)
 . rw [k1] at hp;cases hp
 . rw [k1] at hp;cases hp
 . rw [k2] at hx;cases hx
 . rw [k1] at hp;cases hp
 . rw [k5] at ha;cases ha
 . rw [show (ki own).kn=0 from zu own hs0];exact aK _
theorem Ly (own:List Str):(ki own).own=own:=by unfold ki;rw [tH];rfl
theorem Ro (own:List Str):dZ (ki own)=⟨own,[],[]⟩:=by
 obtain ⟨k1,k2,_⟩:=nE own hs0 rfl (fun u hu=>absurd hu (by simp [hs0]))
 have k1:(ki own).ak=[] :=k1
 exact LS.ext' (Ly own) (by show List.map _ (ki own).ak=[];rw [k1];rfl) k2
theorem WU {own nms:List Str} (nd:nms.Nodup) (h:∀x∈nms,isNm x=true):Nx nms (ki own):=by
 obtain ⟨_,k2,_⟩:=nE own hs0 rfl (fun u hu=>absurd hu (by simp [hs0]))
 have k2:(ki own).nms=[] :=k2
 exact ⟨by rw [k2];rfl,nd,h⟩
def CB (l:List Rat):Rat:=l.foldr (·+·) 0
theorem Pb (l:List Rat) (x:Rat):CB (l++[x])=CB l+x:=by
 unfold CB
 induction l with
 | nil=>show x+0=0+x;grind
 | cons a l ih=>show a+List.foldr (·+·) 0 (l++[x])=a+List.foldr (·+·) 0 l+x;rw [ih];grind
theorem HN {b:Int} (hb:0<b):∀(own:List Str) (tops:List Int),own.length=tops.length->(∀t∈tops,0<=t)->CB ((iL own tops b).map fun x=>x.2)=Jm.fr tops.sum b
 | [],[],_,_=>by show (0:Rat)=Jm.fr 0 b;rw [Jm.Ci]
 | o::own,t::tops,hl,ht=>by
   have ih:=HN hb own tops (by simpa using hl) (fun x hx=>ht x (cK _ hx))
   have h0:=ht t dg
   unfold iL at ih ⊢
   rw [FG,yU,fG,Jm.Tp _ _ hb,<-ih]
   by_cases c:0<t
   . simp only [c,if_true];rfl
   . have e:t=0:=by omega
     subst e
     simp only [Int.lt_irrefl,lH]
     rw [Jm.Ci,Rat.zero_add]
 | [],_::_,h,_=>by simp at h
 | _::_,[],h,_=>by simp at h
theorem Ut {own:List Str} {tops:List Int} {b:Int} {x:Str} {q:Rat} (h:(x,q)∈iL own tops b):∃t∈tops,x∈own/\0<t/\q=Jm.fr t b:=by
 unfold iL at h
 obtain ⟨y,hy,e⟩:=B_.mp h
 split at e
 . cases e
   exact ⟨y.2,(z6 hy).2,(z6 hy).1,by assumption,Z⟩
 . cases e
theorem D_ {b:Int}:∀(own:List Str) (tops:List Int),((iL own tops b).map fun x=>x.1).Sublist own
 | [],_=>List.Sublist.refl _
 | _::_,[]=>List.nil_sublist _
 | o::own,t::tops=>by
   have ih:=D_ (b:=b) own tops
   unfold iL at ih ⊢
   rw [FG,yU]
   by_cases c:0<t
   . simp only [c,if_true]
     exact List.Sublist.cons_cons _ ih
   . simp only [c,lH]
     exact List.Sublist.cons _ ih
structure WV (c:Nat) (own:List Str) (sh:List (Str×Rat)):Prop where
 nd:(sh.map fun x=>x.1).Nodup
 sub:∀x∈sh.map (fun x=>x.1),x∈own
 q:∀x∈sh,1<=x.2.num/\x.2.num<=(x.2.den:Int)/\Jm.Sz (64*c+1) (x.2.den:Int)
 one:CB (sh.map fun x=>x.2)=1
 len:sh.length<=own.length
theorem HC.ones {c:Nat} {own:List Str} {sh:List (Str×Rat)} (h:HC c own sh) (nd:own.Nodup):WV c own sh:=by
 obtain ⟨o0,ts,b,h1,h2,h3,h4,h5,h6,h7⟩:=h
 subst h3
 have s1:=(D_ (b:=b) o0 ts).trans h1.sublist
 have hb:0<b:=by omega
 refine ⟨nd.sublist s1,fun x hx=>s1.subset hx,fun x hx=>?_,?_,by have:=s1.length_le;rwa [aC] at this⟩
 . obtain ⟨x,q⟩:=x
   obtain ⟨t,ht,_,t0,e⟩:=Ut hx
   have tb:t<=b:=by rw [<-h5];exact (Hu h4).2 t ht
   have e1:=Jm.N9 t b hb
   have e2:=Jm.Gi t b hb
   have cp:0<Jm.cf b t:=Jm.Ay b t (.inl hb)
   refine ⟨?_,?_,Ek hb h7 hx⟩
   . show 1<=q.num
     rw [e,e1]
     have d:Jm.cf b t∣t:=Jm.j0 b t
     exact Int.le_ediv_of_mul_le cp (by have:=Int.le_of_dvd t0 d;omega)
   . show q.num<=(q.den:Int)
     rw [e,e1,e2]
     exact Int.ediv_le_ediv cp tb
 . rw [HN hb _ _ h2 h4,h5]
   have:Jm.fr b b=Jm.fr 1 1:=Jm.Mv hb (by decide) (by omega)
   rw [this];rfl
inductive abD (K:Fg) (vs:List V) (H:Hp) (Q:VK) (E:XK):Prop
 | mk (l lo:Addr) (ws:List V) (sh:List (Str×Rat)) (own:List Str) (c:Nat) (_:vs=[.ref l, .ref lo]) (_:aF K H l ws) (_:gI H ws sh) (_:aF K H lo (own.map V.str)) (_:WV c own sh) (_:own.length<=5) (_:c<=20) (_:∀H',aO H H'->Q (.bl true) H')
def Sj (K:Fg):Sp:=bx (abD K)
theorem WW {st:HS} (d:Dd):(gJ st d).c7.length=st.c7.length+if d.k=7 then 1 else 0:=by
 cases d with
 | cast rs=>
   show (iY st rs).c7.length=_
   unfold iY
   rw [qd]
   show (a_ st _ _ _).c7.length=_
   unfold a_
   rw [xy];rfl
 | award o a=>show (a_ st _ _ _).c7.length=_;unfold a_;rw [xy];rfl
 | hand x o=>show (fj st x o).c7.length=_;unfold fj;split <;> rfl
 | land x=>show (st.c7++[_]).length=_;rw [cT];rfl
 | _=>rfl
theorem Dd.WX (d:Dd):decide (V.str d.w=V.str "land")=decide (d.k=7):=by
 by_cases c:d.k=7
 . rw [aX c]
   obtain ⟨x,rfl⟩:=Dd.Ua c
   exact aX rfl
 . rw [cu c]
   exact cu fun e=>d.Hh c (by decide) (V.str.inj e)
theorem jh.gw {c m:Nat} {a b:HS} (h:jh a b) (g:GW c m b) (hk:a.kn<=1000000):Go c a/\Wf a:=by
 rw [h]
 exact ⟨g.g.kn _,R7 g.wf hk⟩
theorem jh.own {a b:HS} (h:jh a b):a.own=b.own:=by rw [h]
theorem nv.get {ρ:dO} {H:Hp} {vs:List V} {l:List p6} (h:nv ρ H vs l):∀{i:Nat} {x:V},vs[i]?=some x->∃r t y ss,x = .ref r/\l[i]?=some y/\H r=some (.tup [.str y.nm, .str y.ow, .int y.wo, .ref t])/\H t=some (.lst ss)/\ρ t=none/\gI H ss y.sh:=by
 induction h with
 | nil=>intro i x e;simp at e
 | @cons r t y ss vs as a b c d _ ih=>
   intro i x e
   cases i with
   | zero=>simp at e;subst e;exact ⟨r,t,y,ss,Z,Z,a,b,c,d⟩
   | succ i=>simp at e;obtain ⟨r',t',y',ss',e1,e2,e3⟩:=ih e;exact ⟨r',t',y',ss',e1,by simpa using e2,e3⟩
end L2
set_option autoImplicit false
namespace WY
open PySem L2
theorem gq (n:Nat) (h:n<=1000:=by decide):n<=sizeLine:=by rw [ji];omega
def top (i:Nat):Stmt:=PySem.Challenge.pw_jettison_k32_whole_shares_come_to_one.main.body.getD i (.Pass ⟨0,0,0,0⟩)
section
variable {P:Program} {w:World} {K:Fg} {mg:SO} {base:Heap} {f:Addr} {fd:FuncData}
abbrev mj:Stmt:=top 2
abbrev iO:List Str:=["one","other"]
abbrev Bq:List Str:=iO
theorem rV:aM Bq iO (aB mj):=dI
theorem zA (F:At K mg "common_factor" mj f fd):Dn P w K mg base 1 "common_factor" iO QC:=by
 refine F.oA rV fun cdv A outer s H vs Q E hr h=>?_
 obtain ⟨a,b,rfl,ha,hb,q⟩:=h
 refine ⟨_,(@cQ.h _ _ _ (aj (Hi fu (aN jj (qv 1) ai (aW _)) (aq (WA (i:=0) (j:=1) rfl rV.nd rfl rfl (by decide) rfl rfl (af (qv 1) (af (aG jx (qv 0) (qv 1)) ao)) (by rfl))))
  (aq (bg (qv 0))))),?_⟩
 refine ⟨fun m σ H'=>∃x y:Int,m=y.toNat/\σ=[some (.int x),some (.int y)]/\H'=H/\0<=x/\0<=y/\Jm.cf x y=Jm.cf a b,⟨_,a,b,Z,Z,Z,ha,hb,Z⟩,?_⟩
 rintro m σ H' ⟨x,y,rfl,rfl,rfl,hx,hy,e⟩
 refine ⟨_,Z,_,_,Z,Z,_,Z,?_⟩
 refine aI (fun c=>?_) (fun c=>?_)
 . have c':0<y:=aV c
   refine ⟨_,fun _ _ z=>z,?_⟩
   refine ⟨_,Z,_,Z,_,Z,_,_,Z,Z,c',_,_,Z,?_⟩
   have h1:0<=x % y:=mX _ (by omega)
   have h2:x % y<y:=wM _ c'
   exact ⟨_,(by omega:(x % y).toNat<y.toNat),y,x % y,Z,Z,Z,hy,h1,(Jm.KY x y c').trans e⟩
 . have c':¬ 0<y:=rm (oB.mpr c)
   have ey:y=0:=by omega
   subst ey
   rw [Jm.Tj x hx] at e
   refine ⟨_,Z,?_⟩
   rw [e]
   exact q
abbrev vX:Stmt:=top 18
abbrev tQ:List Str:=["text","signs"]
abbrev Pc:List Str:=tQ
theorem MV:aM Pc tQ (aB vX):=dI
theorem MW (F:At K mg "made_of" vX f fd) (MX:mg "all"=none):Dn P w K mg base 1 "made_of" tQ y_:=by
 refine F.oA MV fun cdv A outer s H vs Q E hr h=>?_
 obtain ⟨⟨cs,signs,rfl,hl,q⟩⟩:=h
 refine ⟨_,(@cQ.h _ _ _ (aq (bg (bD (Oh K rfl) (by rfl) MX PyProof.Rows.boot_all (af (i_ ["sign","signs"] [none,some 1] rfl (WE (qv 0)) (fun _ _ _ _=>(aT (i:=0) (show List.Nodup (["sign","signs"] :List Str) from by decide +kernel))) (fun _ _ _ _=>(uP NN (qv 0) (qv 1) (by with_unfolding_all rfl))) rfl (by rfl)) ao))))),?_⟩
 refine ⟨_,Z,cs,Z,fun acc hacc=>?_⟩
 refine QG (fun i out H1=>aO H H1/\out=((cs.take i).map (Dz signs)).map V.bl) hl ⟨aE hacc _,Z⟩ ?_ ?_
 . rintro i c out H1 hx fD ha ⟨g,e⟩
   refine ⟨_,Z,_,Z,_,_,Z,Z,ha,g.cY hacc _,?_⟩
   rw [e,List.take_add_one,hx,bQ,bQ]
   rfl
 rintro out H1 fD ha ⟨g,e⟩
 rw [ee] at e
 refine ⟨acc,cs.map (Dz signs),Z,aF.of (by rw [ha,e]),?_⟩
 have e2:(cs.map (Dz signs)).all id=cs.all (Dz signs):=by rw [List.all_map];rfl
 rw [e2]
 exact q H1 g
abbrev vY:Stmt:=top 17
abbrev qf:List Str:=["text"]
abbrev Pd:List Str:=qf
theorem MY:aM Pd qf (aB vY):=dI
theorem MZ {tk:Tok} (F:At K mg "is_name" vY f fd) (xT:Dn P w K mg base 1 "made_of" tQ y_) (bK:mg "len"=none) (xU:mg "LETTERS"=some (.str "abcdefghijklmnopqrstuvwxyz" tk)):Dn P w K mg base 2 "is_name" qf vn:=by
 refine F.oA MY fun cdv A outer s H vs Q E hr h=>?_
 obtain ⟨⟨cs,rfl,hl,q⟩⟩:=h
 refine ⟨_,(@cQ.h _ _ _ (aq (bg (WD (Q2 RS RS ai (bD F_ (by rfl) bK ff (af (qv 0) ao)) ai) (Wy (bM xT hr (af (qv 0) (af (Ue (v:= .str "abcdefghijklmnopqrstuvwxyz") (by rfl) xU ⟨_,Z⟩) ao)))))))),?_⟩
 have hz:(tx cs).length<=sizeLine:=by rw [wZ,ji];omega
 refine ⟨_,Z,_,Z,hz,_,_,Z,Z,_,Z,?_⟩
 rw [wZ]
 refine aI (fun c=>?_) (fun c=>?_)
 . refine ⟨_,_,Z,Z,_,Z,aI (fun c2=>?_) (fun c2=>?_)⟩
   . refine ⟨_,Z,My hl fun H' g=>?_⟩
     have:=q H' g
     unfold isName at this
     rw [c,c2,Bool.true_and,Bool.true_and] at this
     exact this
   . have:=q H (aO.refl _)
     unfold isName at this
     rw [c,oB.mpr c2,Bool.true_and,Bool.false_and] at this
     exact this
 . have:=q H (aO.refl _)
   unfold isName at this
   rw [oB.mpr c,Bool.false_and,Bool.false_and] at this
   exact ⟨_,Z,gv this⟩
abbrev nJ:Stmt:=top 23
abbrev gT:List Str:=["amount"]
abbrev CC:List Str:=gT
theorem Br:aM CC gT (aB nJ):=dI
theorem zC {e:Ec} (F:At K mg "check_amount" nJ f fd) (jc:fW K e.xD) (jF:mg "BadNumber"=some (.ref e.xD)):Dx P w K mg base 1 "check_amount" gT (xM e):=by
 refine F.wD Br fun cdv A outer s H vs Q E hr h=>?_
 obtain ⟨⟨a,rfl,h5,q⟩⟩:=h
 refine ⟨_,(@cQ.h _ _ _ (aq (bZ (aN lJ (qv 0) ai (aW _)) (aq (jr jc (by rfl) jF)) br))),?_⟩
 exact ⟨_,Z,_,_,Z,Z,_,Z,aI (fun c=>fun x=>h5 (aV c) x H (aO.refl _)) fun c=>q (by have:=rm (oB.mpr c);omega)⟩
abbrev qy:Stmt:=top 24
abbrev kj:List Str:=["most","amount"]
abbrev HP:List Str:=kj
theorem El:aM HP kj (aB qy):=dI
theorem CD {e:Ec} (F:At K mg "check_loss" qy f fd) (dB:Dx P w K mg base 1 "check_amount" gT (xM e)) (gK:fW K e.zx) (iP:mg "TooMuch"=some (.ref e.zx)):Dx P w K mg base 2 "check_loss" kj (Hq e):=by
 refine F.wD El fun cdv A outer s H vs Q E hr h=>?_
 obtain ⟨⟨m,a,rfl,h5,h6,q⟩⟩:=h
 refine ⟨_,(@cQ.h _ _ _ (aj (bY (Bg dB hr (af (qv 1) ao)))
  (aq (bZ (aN jj (qv 1) (qv 0) (aW _)) (aq (jr gK (by rfl) iP)) br)))),?_⟩
 exact ⟨_,Z,⟨⟨a,Z,h5,fun h1=>⟨_,Z,_,Z,_,_,Z,Z,_,Z,aI (fun c=>fun x=>h6 h1 (aV c) x H (aO.refl _)) fun c=>q h1 (by have:=rm (oB.mpr c);omega)⟩⟩⟩⟩
abbrev qz:Stmt:=top 22
abbrev nK:List Str:=["rows"]
abbrev HQ:List Str:=nK.append ["amounts","name","amount"]
theorem lM:aM HQ nK (aB qz):=dI
theorem Em (F:At K mg "amounts_of" qz f fd) (bK:mg "len"=none):Dn P w K mg base 1 "amounts_of" nK (OM K):=by
 refine F.oA lM fun cdv A outer s H vs Q E hr h=>?_
 obtain ⟨⟨l,us,rs,rfl,hl,hR,nd,hne,hle,q⟩⟩:=h
 refine ⟨_,(@cQ.h _ _ _ (aj (aR (i:=1) lM.nd oQ)
  (aj (eO fu rfl (dY K (qv 0)) (gk K (n:=2) rfl (bP (aT (i:=2) lM.nd) (bP (aT (i:=3) lM.nd) gj))) (aj (bZ (uM (Ho (c9 hr) (qv 2) (qv 1))) (aq oR) br)
  (aq (q_ (c9 hr) (qv 1) (qv 2) (qv 3) rfl))))
  (aj (bZ (aN dw (bD s_ (by rfl) bK ff (af (qv 1) ao)) ai (aW _)) (aq oR) br)
  (aq (bg (qv 1))))))),?_⟩
 intro d hd
 have g0:=aE hd (.dK [])
 have hd0:upd H d (.dK []) d=some (.dK (gc (rs.take 0))):=ah
 generalize upd H d (.dK [])=H0 at *
 have WZ:=hR.length
 refine ⟨_,Z,l,Z,⟨us,g0.seq hl⟩,?_⟩
 refine iR (K:=K) (xs:=us) (fun i σ H'=>aO H H'/\H' d=some (.dK (gc (rs.take i)))/\∃s2 s3,σ=[some (.ref l),some (.ref d),s2,s3]) ⟨g0,hd0,_,_,Z⟩ (fun i σ H' _ hp=>hp.1.seq hl) ?_ ?_
 . rintro i x σ H' hx ⟨g,hd',s2,s3,rfl⟩
   obtain ⟨a,r,rfl,er,ha⟩:=hR.get hx
   have hnot:r.1∉(rs.take i).map (·.1):=by
    rw [List.map_take]
    exact kK nd (by rw [b_,er];rfl)
   have hlt:(gc (rs.take i)).length<sizeLine:=by rw [vB,qi];exact cU (by omega)
   refine ⟨a,_,Z,cO.of (g _ _ ha),Z,_,_,Z,_,_,Z,Z,?_⟩
   refine ⟨_,Z,_,Z,d,_,Z,dR.k (k:=Sum.inr r.1) hd',_,Z,?_⟩
   rw [DJ hnot]
   refine gv ?_
   refine ⟨_,Z,_,Z,_,Z,d,_,Z,t8.k (k:=Sum.inr r.1) hd' hlt,g.cY hd _,?_,_,_,Z⟩
   rw [ah,lY _ (DJ hnot),take_snoc er]
   unfold gc
   rw [bQ]
   rfl
 rintro σ H' ⟨g,hd',s2,s3,rfl⟩
 rw [WZ,ee] at hd'
 refine ⟨_,Z,d,_,Z,hd',Z,_,Z,?_⟩
 rw [vB]
 have hpos:0<rs.length:=List.length_pos_iff.mpr hne
 rw [cu (fun e=>by have:=V.int.inj e;omega)]
 exact gv ⟨_,Z,q d H' g hd hd'⟩
abbrev mq:Stmt:=top 5
abbrev jU:List Str:=["step","tops"]
abbrev Bs:List Str:=jU.append ["top"]
theorem mw:aM Bs jU (aB mq):=dI
theorem zH (F:At K mg "factor_of_all" mq f fd) (gr:Dn P w K mg base 1 "common_factor" iO QC):Dn P w K mg base 2 "factor_of_all" jU (ON K):=by
 refine F.oA mw fun cdv A outer s H vs Q E hr h=>?_
 obtain ⟨⟨s,l,ts,rfl,hl,h0,h1,q⟩⟩:=h
 refine ⟨_,(@cQ.h _ _ _ (aj (eO fu rfl (dY K (qv 1)) (aT (i:=2) mw.nd) (aq (aR (i:=0) mw.nd (bM gr hr (af (qv 2) (af (qv 0) ao))))))
  (aq (bg (qv 0))))),?_⟩
 refine ⟨_,Z,l,Z,⟨_,hl⟩,?_⟩
 refine iR (K:=K) (xs:=ts.map V.int) (fun i σ H'=>H'=H/\0<=ny s (ts.take i)/\∃s2,σ=[some (.int (ny s (ts.take i))),some (.ref l),s2]) ⟨Z,h0,_,Z⟩ (fun i σ H' _ hp=>by rw [hp.1];exact hl) ?_ ?_
 . rintro i x σ H' hx ⟨rfl,hf,s2,rfl⟩
   obtain ⟨t,rfl,et⟩:=fm hx
   have e1:ny s (ts.take (i+1))=Jm.cf t (ny s (ts.take i)):=by
    unfold ny
    rw [take_snoc et,Cd]
    rfl
   refine ⟨_,Z,_,Z,t,_,Z,h1 t (bR et),hf,Z,?_,some (.int t),?_⟩
   . rw [e1];unfold Jm.cf;omega
   . rw [e1];rfl
 rintro σ H' ⟨rfl,hf,s2,rfl⟩
 rw [aC,ee]
 exact ⟨_,Z,q⟩
abbrev oU:Stmt:=inClass (top 4) 0
abbrev qA:List Str:=["self"]
abbrev En:List Str:=qA
theorem CF:aM En qA (aB oU):=dI
theorem CG {T:TC} (F:DF K mg "Bottom" T.bot "Bottom.__init__" oU f fd) (X:Txt K T):Cn P w K mg base 1 "Bottom" T.bot qA (K5 T):=by
 refine F.oA CF fun cdv A outer s H vs Q E hr h=>?_
 obtain ⟨⟨p,dx,rfl,hp,q⟩⟩:=h
 refine ⟨_,(@cQ.h _ _ _ (aj (cZ K (qv 0) (gC ao))
  (aj (cZ K (qv 0) ai)
  (aq (cZ K (qv 0) oQ))))),?_⟩
 refine ⟨(gq 0),fun l hl=>?_⟩
 have n1:p≠l:=aD hp hl
 refine ⟨_,Z,p,T.bot,dx,_,Z,by rw [av n1];exact hp,X.cB,X.Wb,by show 0<1000;decide,?_⟩
 refine ⟨_,Z,p,T.bot,dx,_,Z,ah,X.cB,X.K3,by show 1<1000;decide,?_⟩
 intro d hd
 have n2:d≠p:=fun e=>by rw [e,ah] at hd;cases hd
 have n3:d≠l:=fun e=>by rw [e,av (cD n1),av (cD n1),ah] at hd;cases hd
 have hd0:H d=none:=by rw [av n2,av n2,av n3] at hd;exact hd
 refine ⟨_,Z,p,T.bot,dx,_,Z,by rw [av (cD n2)];exact ah,X.cB,X.OG,by show 2<1000;decide,?_⟩
 refine q l d _ hl hd0 (cD n3) (fun b o e hb=>?_) ah ?_ ?_
 . rw [av hb,av (aD e hd0),av hb,av hb,av (aD e hl)];exact e
 . rw [av (cD n1),av (cD n3),av (cD n1),av (cD n1)];exact ah
 . rw [av n2];exact ah
abbrev rW:Stmt:=inClass (top 20) 0
abbrev ue:List Str:=["self","name","owner","worth","weight","scale","row"]
abbrev JD:List Str:=ue
theorem HR:aM JD ue (aB rW):=dI
theorem HU {T:TC} (F:DF K mg "Part" T.part "Part.__init__" rW f fd) (X:Txt K T) (jz:mg "list"=none):Cn P w K mg base 1 "Part" T.part ue (Cq T K):=by
 refine F.oA HR fun cdv A outer s H vs Q E hr h=>?_
 obtain ⟨⟨p,dx,l,pt,rfl,hp,hl,q⟩⟩:=h
 refine ⟨_,(@cQ.h _ _ _ (aj (cZ K (qv 0) (qv 1))
  (aj (cZ K (qv 0) (qv 2))
  (aj (cZ K (qv 0) (qv 3))
  (aj (cZ K (qv 0) (qv 4))
  (aj (cZ K (qv 0) (qv 5))
  (aq (cZ K (qv 0) (mR (qw K) (by rfl) jz LN (af (qv 6) ao)))))))))),?_⟩
 refine ⟨_,Z,_,Z,p,T.part,dx,_,Z,hp,X.cP,X.OE,by show 0<1000;decide,?_⟩
 refine ⟨_,Z,_,Z,p,T.part,dx,_,Z,ah,X.cP,X.pow,by show 1<1000;decide,?_⟩
 refine ⟨_,Z,_,Z,p,T.part,dx,_,Z,ah,X.cP,X.tF,by show 2<1000;decide,?_⟩
 refine ⟨_,Z,_,Z,p,T.part,dx,_,Z,ah,X.cP,X.OF,by show 3<1000;decide,?_⟩
 refine ⟨_,Z,_,Z,p,T.part,dx,_,Z,ah,X.cP,X.Gy,by show 4<1000;decide,?_⟩
 simp only [mG]
 have hl1:∀o,aF K (upd H p o) l (pt.row.map V.int):=fun o=>by
  rcases hl with (h|⟨ob,h⟩)|h
  . exact .inl (.inl (by rw [av (iz h hp (by intro z;cases z))];exact h))
  . exact .inl (.inr ⟨ob,by rw [av (iz h hp (by intro z;cases z))];exact h⟩)
  . exact .inr h
 refine ⟨_,Z,l,_,Z, .inl (hl1 _),fun r hr2=>?_⟩
 have n1:r≠p:=fun e=>by rw [e,ah] at hr2;cases hr2
 refine ⟨_,Z,p,T.part,dx,_,Z,by rw [av (cD n1)];exact ah,X.cP,X.K2,by show 5<1000;decide,?_⟩
 have hr0:H r=none:=by rw [av n1] at hr2;exact hr2
 refine q r _ hr0 (fun b o e hb=>?_) ah ?_
 . rw [av hb,av (aD e hr0),av hb];exact e
 . rw [av n1];exact ah
abbrev oV:Stmt:=inClass (top 4) 1
abbrev lN:List Str:=["self","step"]
abbrev Eo:List Str:=lN
theorem CH:aM Eo lN (aB oV):=dI
theorem CI {T:TC} (F:gh K T.bot "grow" "Bottom.grow" oV f fd) (X:Txt K T):Mn P w K mg base 1 T.bot "grow" lN (OO T):=by
 refine F.oA CH fun cdv A outer s H vs Q E hr h=>?_
 obtain ⟨⟨n,ρ,A,st,s,rfl,g,h,hl,z1,z2,q⟩⟩:=h
 refine ⟨_,(@cQ.h _ _ _ (aq (jy (aN jj (qv 1) ai (aW _)) (aj (bY (jq lW lU lV dD (aH K (qv 0)) (af (qv 1) ao)))
  (aj (nI K (qv 0) (qv 1) TQ)
  (aq (cZ K (qv 0) oQ)))) br))),?_⟩
 refine ⟨fun σ' H'=>Q .bL H',⟨_,Z,_,_,Z,Z,_,Z,aI (fun c=>?_) (fun c=>?_)⟩,fun _ _ z=>z⟩
 . have c':1<s:=aV c
   refine ⟨_,Z,A.bt,T.bot,A.db,_,_,Z,h.jQ,X.cB,X.Wb,Z, .inl ⟨Z,_,aF.of h.oq⟩,_,Z,A.sp,_,_,Z,Z,h.oq,by rw [aC];exact cU hl,?_⟩
   rw [show st.stp.map V.int++[V.int s]=(st.stp++[s]).map V.int from by rw [bQ];rfl]
   have h1:=h.V9 g (st.stp++[s])
   have g1:=g.wr (a:=A.sp) (o:= .lst ((st.stp++[s]).map V.int)) rfl
   have F1:Fr n ρ H ρ (upd H A.sp (.lst ((st.stp++[s]).map V.int))):=Fr.write h.ie
   generalize upd H A.sp (.lst ((st.stp++[s]).map V.int))=H1 at *
   refine ⟨_,Z,A.bt,T.bot,A.db,_,_,Z,h1.jQ,X.cB,X.K3,Z,_,Z,_,_,Z,Z,i8 z1 z2,A.db,_,h1.jQ,by show 3<1000;decide,?_⟩
   intro kn hkn
   have nb:kn≠A.bt:=fun e=>by rw [e,ah] at hkn;cases hkn
   have zJ:H1 kn=none:=by rw [av nb] at hkn;exact hkn
   have ig:ρ kn=none:=g1.none zJ
   refine ⟨_,Z,A.bt,T.bot,A.db,_,Z,by rw [av (cD nb)];exact ah,X.cB,X.OG,by show 3<1000;decide,?_⟩
   have eH:upd (upd (upd H1 A.bt (.ins T.bot A.db (aQ "product" (.int (st.prod*s)) (vq A.sp st.prod A.kn)))) kn (.dK [])) A.bt (.ins T.bot A.db (aQ "known" (.ref kn) (aQ "product" (.int (st.prod*s)) (vq A.sp st.prod A.kn))))=upd (upd H1 kn (.dK [])) A.bt (.ins T.bot A.db (vq A.sp (st.prod*s) kn)):=by
    rw [jm (cD nb),mG]
    rfl
   have k2:Kp n ρ (cE ρ kn (n,9,⟨#[]⟩)) H1 (upd H1 kn (.dK [])) (fun _=>true):=⟨(aE zJ _).tups,fun b t x o _ c e=>⟨aE zJ _ _ _ e,by rw [cg (aD e zJ)];exact c⟩⟩
   have h2:=h1.same k2
   have g2:Gh (cE ρ kn (n,9,⟨#[]⟩)) (upd H1 kn (.dK [])):=(g1.alloc zJ).color ah rfl
   have F2:Fr n ρ H1 (cE ρ kn (n,9,⟨#[]⟩)) (upd H1 kn (.dK [])):=Fr.color zJ (aE zJ _)
   have h3:=h2.Wa g2 (st.prod*s) kn ah c6
   have es:dJ st s={ { st with stp:=st.stp++[s] } with prod:=st.prod*s,kn:=0 }:=by
    unfold dJ
    rw [aA c']
   rw [es] at q
   show Q .bL _
   refine (show _=_ from eH)▸?_
   exact q _ _ _ (g2.wr rfl) h3 rfl (F1.trans (F2.trans (Fr.write h2.ia)))
 . have c':¬ 1<s:=rm (oB.mpr c)
   have es:dJ st s=st:=by unfold dJ;rw [az c']
   rw [es] at q
   exact q ρ A H g h rfl Fr.refl
abbrev mz:Stmt:=inClass (top 21) 19
abbrev fM:List Str:=["self","owner"]
abbrev Bt:List Str:=fM
theorem zK:aM Bt fM (aB mz):=dI
theorem yx {T:TC} {e:Ec} (F:gh K T.hold "place_of" "Hold.place_of" mz f fd) (X:Txt K T) (vZ:fW K e.MM) (xV:mg "NoOwner"=some (.ref e.MM)):Mx P w K mg base 1 T.hold "place_of" fM (vK T e):=by
 refine F.wD zK fun cdv A outer s H vs Q E hr h=>?_
 obtain ⟨⟨n,ρ,A,st,o,rfl,h,q2,q⟩⟩:=h
 refine ⟨_,(@cQ.h _ _ _ (aj (bZ (uM (xJ (c9 hr) (qv 1) (aH K (qv 0)))) (aq (jr vZ (by rfl) xV)) br)
  (aq (bg (dM (c9 hr) (aH K (qv 0)) (qv 1)))))),?_⟩
 refine ⟨_,Z,_,Z,A.a,T.hold,A.dx,_,_,Z,h.oa,X.cH,X.hpl,Z,A.pl,_,Z,dR.k (k:=Sum.inr o) h.gO,_,Z,?_⟩
 by_cases ho:o∈st.own
 . have hv:=K4 (i:=0) ho
   rw [hv]
   refine gv ?_
   refine ⟨_,Z,A.a,T.hold,A.dx,_,_,Z,h.oa,X.cH,X.hpl,Z,_,Z,A.pl,_,Z,hv▸dR.k (k:=Sum.inr o) h.gO,?_⟩
   rw [Nat.zero_add]
   exact q ho
 . rw [nt ho]
   exact kW fun x=>q2 ho x H (aO.refl _)
abbrev nL:Stmt:=inClass (top 21) 20
abbrev dN:List Str:=["self","name"]
abbrev CJ:List Str:=dN
theorem Bu:aM CJ dN (aB nL):=dI
theorem zL {T:TC} {e:Ec} (F:gh K T.hold "part_of" "Hold.part_of" nL f fd) (X:Txt K T) (xW:fW K e.Hf) (zM:mg "NoPart"=some (.ref e.Hf)):Mx P w K mg base 1 T.hold "part_of" dN (j_ T e):=by
 refine F.wD Bu fun cdv A outer s H vs Q E hr h=>?_
 obtain ⟨⟨n,ρ,A,st,x,rfl,hA,nd,q2,k⟩⟩:=h
 refine ⟨_,(@cQ.h _ _ _ (aj (bZ (uM (xJ (c9 hr) (qv 1) (aH K (qv 0)))) (aq (jr xW (by rfl) zM)) br)
  (aq (bg (dM (c9 hr) (aH K (qv 0)) (qv 1)))))),?_⟩
 refine ⟨_,Z,_,Z,A.a,T.hold,A.dx,_,_,Z,hA.oa,X.cH,X.hab,Z,A.ab,_,Z,dR.k (k:=Sum.inr x) hA.dG,_,Z,?_⟩
 by_cases hx:∃p∈st.ak,p.nm=x
 . obtain ⟨p,hp,rfl⟩:=hx
   obtain ⟨i,hi,ep⟩:=List.mem_iff_getElem.mp hp
   have uA:st.ak[i]?=some p:=by rw [bB hi,ep]
   obtain ⟨qq,eq,_⟩:=hA.find uA
   have hv:=qX nd uA eq
   rw [hv]
   refine gv ?_
   exact ⟨_,Z,A.a,T.hold,A.dx,_,_,Z,hA.oa,X.cH,X.hab,Z,_,Z,A.ab,_,Z,hv▸dR.k (k:=Sum.inr p.nm) hA.dG,k i p qq rfl uA eq⟩
 . have hn:∀p∈st.ak,p.nm≠x:=fun p hp z=>hx ⟨p,hp,z⟩
   rw [rM hn]
   exact kW fun y=>q2 hn y H (aO.refl _)
abbrev kY:Stmt:=inClass (top 21) 21
abbrev iu:List Str:=["self","name"]
abbrev zN:List Str:=iu
theorem yy:aM zN iu (aB kY):=dI
theorem xX {T:TC} {e:Ec} (F:gh K T.hold "check_new" "Hold.check_new" kY f fd) (X:Txt K T) (mS:Dn P w K mg base 2 "is_name" qf vn) (v5:fW K e.bad) (xY:mg "BadName"=some (.ref e.bad)) (zO:fW K e.twice) (CK:mg "Twice"=some (.ref e.twice)):Mx P w K mg base 3 T.hold "check_new" iu (ud T e):=by
 refine F.wD yy fun cdv A outer s H vs Q E hr h=>?_
 obtain ⟨⟨n,ρ,A,st,x,rfl,h,hx,q2,q⟩⟩:=h
 refine ⟨_,(@cQ.h _ _ _ (aj (bZ (xH (rS (bM mS hr (af (qv 1) ao)))) (aq (jr v5 (by rfl) xY)) br)
  (aq (bZ (uM (Ho (c9 hr) (qv 1) (aH K (qv 0)))) (aq (jr zO (by rfl) CK)) br)))),?_⟩
 refine ⟨_,Z,AJ (cs:=x.cps.toList) hx fun H1 g1=>⟨_,Z,?_⟩⟩
 cases hn:isName x.cps.toList with
 | false=>exact kW fun y=>q2 0 (by unfold newR isNm;rw [hn];rfl) y H1 g1
 | true=>
   refine gv ?_
   have h1:=h.mono g1
   refine ⟨_,Z,_,Z,A.a,T.hold,A.dx,_,_,Z,h1.oa,X.cH,X.hnm,Z,A.nm,_,Z,dR.k (k:=Sum.inr x) h1.p7,_,Z,?_⟩
   by_cases hm:x∈st.nms
   . rw [GB hm]
     exact kW fun y=>q2 1 (by unfold newR isNm;rw [hn,aA rfl,aA hm]) y H1 g1
   . rw [xq hm]
     exact gv (q (xE hn hm) H1 g1)
abbrev qB:Stmt:=inClass (top 21) 11
abbrev nM:List Str:=["self"]
abbrev HV:List Str:=nM
theorem Ep:aM HV nM (aB qB):=dI
theorem Er {T:TC} (F:gh K T.hold "parts" "Hold.parts" qB f fd) (X:Txt K T):Mn P w K mg base 1 T.hold "parts" nM (K7 T):=by
 refine F.oA Ep fun cdv A outer s H vs Q E hr h=>?_
 obtain ⟨⟨n,ρ,A,st,rfl,h,hl,q⟩⟩:=h
 refine ⟨_,(@cQ.h _ _ _ (aq (bg (Hj (i_ ["part"] [none] rfl (yq (aH K (qv 0))) (fun _ _ _ _=>(aT (i:=0) (show List.Nodup (["part"] :List Str) from by decide +kernel))) (fun _ _ _ _=>(gy (af (aH K (qv 0)) (af (aH K (qv 0)) (af (aH K (qv 0)) (af (aH K (qv 0)) ao)))))) rfl (by rfl)))))),?_⟩
 refine ⟨A.ab,_,h.dG,fun o=>?_⟩
 refine ⟨_,Z,A.a,T.hold,A.dx,_,_,Z,dX h.dG h.oa (fun k z=>by cases z),X.cH,X.hab,Z,A.ab,o,_,Z,ah,fun acc hacc=>?_⟩
 have el:=uK h.ql
 refine ng (n:=st.ak.length) 0 (fun i out H1=>aO (upd H A.ab (.fk o (.dK (b7 st.ak A.qs)))) H1/\jl H1 out (st.ak.take i)) (by omega) ⟨aE hacc _, .nil⟩ (fun i out H1 hi _ hp=>⟨hp.1 _ _ ah,by rw [el];exact hi⟩) (fun out H1 _ hp=>⟨hp.1 _ _ ah,by rw [el];exact aK _⟩) ?_ ?_
 . rintro i x out H1 H2 hi fD ha ⟨g,hP⟩ ⟨rfl,kv,hkv,rfl⟩
   have ep:=bB hi
   obtain ⟨qq,eq,h1,h2,_⟩:=h.find ep
   rw [uJ ep eq] at hkv
   cases hkv
   have hq:=g _ _ (dX h.dG h1 (fun k z=>by cases z))
   refine ⟨_,Z,qq.1,T.part,qq.2.1,_,_,Z,hq,X.cP,X.OE,Z,_,Z,qq.1,T.part,qq.2.1,_,_,Z,hq,X.cP,X.pow,Z,_,Z,qq.1,T.part,qq.2.1,_,_,Z,hq,X.cP,X.tF,Z,_,Z,qq.1,T.part,qq.2.1,_,_,Z,hq,X.cP,X.OF,Z,(gq 4),fun t ht=>?_⟩
   have g1:=aE ht (AY st.ak[i])
   refine ⟨g1 _ _ ha,(g.trans g1).cY hacc _,?_⟩
   rw [take_snoc ep]
   exact ((hP.mono g1.tups).snoc ah).mono (i9 (.inr ⟨_,g1 _ _ ha,Z⟩))
 rintro out H1 fD ha ⟨g,hP⟩
 rw [ee] at hP
 have hz:=g _ _ (ah (H:=H) (a:=A.ab) (o:= .fk o (.dK (b7 st.ak A.qs))))
 have na:acc≠A.ab:=fun e=>by rw [e,hz] at ha;cases ha
 exact ⟨hz,q acc out _ (rN h.dG g) (l9 h.dG hacc) (by rw [av na];exact ha) (hP.mono (i9 (.inr ⟨_,hz,Z⟩)))⟩
abbrev qC:Stmt:=inClass (top 21) 13
abbrev ko:List Str:=["self"]
abbrev HW:List Str:=ko
theorem Es:aM HW ko (aB qC):=dI
theorem Et {T:TC} (F:gh K T.hold "whole" "Hold.whole" qC f fd) (X:Txt K T) (jv:mg "sum"=none):Mn P w K mg base 1 T.hold "whole" ko (Ct T):=by
 refine F.oA Es fun cdv A outer s H vs Q E hr h=>?_
 obtain ⟨⟨n,ρ,A,st,rfl,h,hl,q⟩⟩:=h
 refine ⟨_,(@cQ.h _ _ _ (aq (bg (bD (wY K rfl) (by rfl) jv Fw (af (Hj (i_ ["part"] [none] rfl (yq (aH K (qv 0))) (fun _ _ _ _=>(aT (i:=0) (show List.Nodup (["part"] :List Str) from by decide +kernel))) (fun _ _ _ _=>(aH K (qv 0))) rfl (by rfl))) ao))))),?_⟩
 refine ⟨A.ab,_,h.dG,fun o=>?_⟩
 refine ⟨_,Z,A.a,T.hold,A.dx,_,_,Z,dX h.dG h.oa (fun k z=>by cases z),X.cH,X.hab,Z,A.ab,o,_,Z,ah,fun acc hacc=>?_⟩
 have el:=uK h.ql
 refine ng (n:=st.ak.length) 0 (fun i out H1=>aO (upd H A.ab (.fk o (.dK (b7 st.ak A.qs)))) H1/\out=((st.ak.take i).map (·.wo)).map V.int) (by omega) ⟨aE hacc _,Z⟩ (fun i out H1 hi _ hp=>⟨hp.1 _ _ ah,by rw [el];exact hi⟩) (fun out H1 _ hp=>⟨hp.1 _ _ ah,by rw [el];exact aK _⟩) ?_ ?_
 . rintro i x out H1 H2 hi fD ha ⟨g,e⟩ ⟨rfl,kv,hkv,rfl⟩
   have ep:=bB hi
   obtain ⟨qq,eq,h1,h2,_⟩:=h.find ep
   rw [uJ ep eq] at hkv
   cases hkv
   have hq:=g _ _ (dX h.dG h1 (fun k z=>by cases z))
   refine ⟨_,Z,qq.1,T.part,qq.2.1,_,_,Z,hq,X.cP,X.tF,Z,ha,g.cY hacc _,?_⟩
   rw [take_snoc ep,e,bQ,bQ]
   rfl
 rintro out H1 fD ha ⟨g,e⟩
 rw [ee] at e
 have hz:=g _ _ (ah (H:=H) (a:=A.ab) (o:= .fk o (.dK (b7 st.ak A.qs))))
 have na:acc≠A.ab:=fun e=>by rw [e,hz] at ha;cases ha
 exact ⟨hz,acc,st.ak.map (fun p:Pt=>p.wo),Z,aF.of (by rw [av na,ha,e]),q _ (rN h.dG g)⟩
abbrev jd:Stmt:=inClass (top 21) 25
abbrev fO:List Str:=["self","tops"]
abbrev v7:List Str:=fO
theorem uR:aM v7 fO (aB jd):=dI
theorem uS {T:TC} (F:gh K T.hold "beyond_common" "Hold.beyond_common" jd f fd) (X:Txt K T) (gM:mg "zip"=none):Mn P w K mg base 1 T.hold "beyond_common" fO (MG T K):=by
 refine F.oA uR fun cdv A outer s H vs Q E hr h=>?_
 obtain ⟨⟨n,ρ,A,st,l,tops,rfl,h,hS,htl,hle,q⟩⟩:=h
 refine ⟨_,(@cQ.h _ _ _ (aq (bg (i_ ["top","common"] [none,none] rfl (oO K (by rfl) gM (af (qv 1) (af (aH K (qv 0)) ao))) (fun _ _ _ _=>(gk K (n:=2) rfl (bP (aT (i:=0) (show List.Nodup (["top","common"] :List Str) from by decide +kernel)) (bP (aT (i:=1) (show List.Nodup (["top","common"] :List Str) from by decide +kernel)) gj)))) (fun _ _ _ _=>(aG jZ (qv 0) (qv 1))) rfl (by rfl))))),?_⟩
 refine ⟨_,Z,_,Z,A.a,T.hold,A.dx,_,_,Z,h.oa,X.cH,X.yL,Z,_,_,_,_,_,_,Z, .lst hS, .lst (aF.of h.iI),fun acc hacc=>?_⟩
 refine uI (K:=K) (n:=tops.length) [0,1] (fun i out H1=>aO H H1/\out=(List.zipWith (fun t c=>t-c) (tops.take i) (st.bq.take i)).map V.int) (by decide) (by omega) ⟨aE hacc _,Z⟩ (fun i out H1 hi _ hp=>⟨hp.1.seq hS,hp.1.seq (aF.of h.iI),by rw [aC];exact hi,by rw [aC];omega⟩)
  (fun out H1 _ hp=>⟨hp.1.seq hS,hp.1.seq (aF.of h.iI), .inl (by rw [aC];exact aK _)⟩) ?_ ?_
 . rintro i x out H1 H2 hi fD ha ⟨g,e⟩ ⟨p,x1,y1,hp,rfl,rfl,e1,e2⟩
   obtain ⟨t,rfl,et⟩:=fm e1
   obtain ⟨c,rfl,ec⟩:=fm e2
   have g1:=aE hp (.tup [.int t, .int c])
   refine ⟨p,_,Z,cO.of ah,Z,_,Z,_,Z,_,_,Z,Z,g1 _ _ ha,(g.trans g1).cY hacc _,?_⟩
   rw [qa _ et ec,e,bQ]
   rfl
 rintro out H1 fD ha ⟨g,e⟩
 rw [ee,htl,ee] at e
 exact q acc H1 g hacc (by rw [ha,e];rfl)
abbrev nN:Stmt:=inClass (top 21) 24
abbrev gU:List Str:=["self","part"]
abbrev CL:List Str:=gU
theorem Bv:aM CL gU (aB nN):=dI
theorem Bw {T:TC} (F:gh K T.hold "tops_of" "Hold.tops_of" nN f fd) (X:Txt K T) (gM:mg "zip"=none):Mn P w K mg base 1 T.hold "tops_of" gU (yp T):=by
 refine F.oA Bv fun cdv A outer s H vs Q E hr h=>?_
 obtain ⟨⟨n,ρ,A,st,ip,pt,qq,rfl,h,wf,ep,eq,q⟩⟩:=h
 obtain ⟨h1,h2,_⟩:=h.opt ip pt qq ep eq
 have eW:=bR ep
 refine ⟨_,(@cQ.h _ _ _ (aq (bg (i_ ["own","common","part"] [none,none,some 1] rfl (oO K (by rfl) gM (af (aH K (qv 1)) (af (aH K (qv 0)) ao))) (fun _ _ _ _=>(gk K (n:=2) rfl (bP (aT (i:=0) (show List.Nodup (["own","common","part"] :List Str) from by decide +kernel)) (bP (aT (i:=1) (show List.Nodup (["own","common","part"] :List Str) from by decide +kernel)) gj)))) (fun _ _ _ _=>(aG b9 (aG jE (aH K (qv 2)) (qv 0)) (qv 1))) rfl (by rfl))))),?_⟩
 have W0:pt.row.length=st.bq.length:=by rw [wf.rows pt eW,wf.fK]
 have hcl:st.bq.length<=100:=by rw [wf.fK];exact wf.jk
 refine ⟨_,Z,qq.1,T.part,qq.2.1,_,_,Z,h1,X.cP,X.K2,Z,_,Z,A.a,T.hold,A.dx,_,_,Z,h.oa,X.cH,X.yL,Z,_,_,_,_,_,_,Z, .lst (aF.of h2), .lst (aF.of h.iI),fun acc hacc=>?_⟩
 refine uI (K:=K) (n:=pt.row.length) [0,1] (fun i out H1=>aO H H1/\out=(List.zipWith (fun r c=>pt.sc*r+c) (pt.row.take i) (st.bq.take i)).map V.int) (by decide) (by omega) ⟨aE hacc _,Z⟩ (fun i out H1 hi _ hp=>⟨hp.1.seq (aF.of h2),hp.1.seq (aF.of h.iI),by rw [aC];exact hi,by rw [aC];omega⟩)
  (fun out H1 _ hp=>⟨hp.1.seq (aF.of h2),hp.1.seq (aF.of h.iI), .inl (by rw [aC];exact aK _)⟩) ?_ ?_
 . rintro i x out H1 H2 hi fD ha ⟨g,e⟩ ⟨p,x1,y1,hp,rfl,rfl,e1,e2⟩
   obtain ⟨t,rfl,et⟩:=fm e1
   obtain ⟨c,rfl,ec⟩:=fm e2
   have g1:=aE hp (.tup [.int t, .int c])
   have s1:Jm.Sz 8000 pt.sc:=Jm.Sz.m9 (by have:=wf.p8 pt eW;have:=wf.fB;omega) (wf.p8 pt eW).2 wf.big
   have s2:Jm.Sz 8000 t:=Jm.Sz.m9 (wf.l7 pt eW t (bR et)).1 (wf.l7 pt eW t (bR et)).2 wf.big
   refine ⟨p,_,Z,cO.of ah,Z,_,Z,qq.1,T.part,qq.2.1,_,_,Z,(g.trans g1) _ _ h1,X.cP,X.Gy,Z,_,Z,_,_,Z,Z,i8 s1 s2,_,Z,_,_,Z,Z,g1 _ _ ha,(g.trans g1).cY hacc _,?_⟩
   rw [qa _ et ec,e,bQ]
   rfl
 rintro out H1 fD ha ⟨g,e⟩
 rw [ee,W0,ee] at e
 exact q acc H1 g hacc (by rw [ha,e];rfl)
abbrev rX:Stmt:=inClass (top 21) 22
abbrev lz:List Str:=["self","part"]
abbrev JE:List Str:=lz
theorem HX:aM JE lz (aB rX):=dI
theorem HY {T:TC} (F:gh K T.hold "stow" "Hold.stow" rX f fd) (X:Txt K T):Mn P w K mg base 1 T.hold "stow" lz (GF T):=by
 refine F.oA HX fun cdv A outer s H vs Q E hr h=>?_
 obtain ⟨⟨n,ρ,A,st,qq,p,rfl,hh,h1,h2,c1,c2,hn,wf',q⟩⟩:=h
 have h:=hh.h
 refine ⟨_,(@cQ.h _ _ _ (aj (q_ (c9 hr) (aH K (qv 0)) (aH K (qv 1)) (qv 1) rfl)
  (aq (q_ (c9 hr) (aH K (qv 0)) (aH K (qv 1)) yr rfl)))),?_⟩
 have xZ:∀x∈st.ak,x.nm≠p.nm:=fun x hx e=>hn (by rw [<-e];exact hh.wf.sub x hx)
 have lab:(b7 st.ak A.qs).length<sizeLine:=by rw [uK h.ql];exact cU hh.wf.nj
 refine ⟨_,Z,_,Z,A.a,T.hold,A.dx,_,_,Z,h.oa,X.cH,X.hab,Z,_,Z,qq.1,T.part,qq.2.1,_,_,Z,h1,X.cP,X.OE,Z,A.ab,_,Z,t8.k (k:=Sum.inr p.nm) h.dG lab,?_⟩
 rw [lY _ (rM xZ),<-QS h.ql p qq]
 have k1:qq.1≠qq.2.2:=iz h1 h2 (by intro z;cases z)
 have f1:Kp n ρ (cE (cE ρ qq.1 (n,20,p.nm)) qq.2.2 (n,21,p.nm)) H H (fun _=>true):=⟨fun _ _ e=>e,fun b t x o _ c e=>⟨e,by
  rw [cg (fun z=>by rw [z,c2] at c;cases c),cg (fun z=>by rw [z,c1] at c;cases c)];exact c⟩⟩
 have hc:=h.same f1
 have g1:Gh (cE (cE ρ qq.1 (n,20,p.nm)) qq.2.2 (n,21,p.nm)) H:=(hh.g.color h1 rfl).color h2 rfl
 have W2:GD n qq.1 qq.2.2 ρ H (cE (cE ρ qq.1 (n,20,p.nm)) qq.2.2 (n,21,p.nm)) H:=fun b o e k n1 n2=>⟨e,by rw [cg n2,cg n1]⟩
 have hs:=hc.Gx g1 (st.ak++[p]) (A.qs++[qq]) (by rw [cT,cT,h.ql];rfl) (fun i x y ex ey=>by
  by_cases hi:i<st.ak.length
  . rw [BY hi] at ex
    rw [BY (by rw [h.ql];exact hi)] at ey
    exact hc.opt i x y ex ey
  . rw [Fv (by omega)] at ex
    rw [Fv (by rw [h.ql];omega),h.ql] at ey
    have e0:i-st.ak.length=0:=by
     rcases Nat.eq_zero_or_pos (i-st.ak.length) with z|z
     . exact z
     . rw [yT (by show 1<=_;exact z)] at ex;cases ex
    rw [e0] at ex ey
    cases ex;cases ey
    exact ⟨h1,h2,by rw [cg k1];exact c6,c6⟩)
 have g2:=g1.wr (a:=A.ab) (o:= .dK (b7 (st.ak++[p]) (A.qs++[qq]))) rfl
 have W3:Fr n _ H _ (upd H A.ab (.dK (b7 (st.ak++[p]) (A.qs++[qq])))):=Fr.write hc.fC
 have AW:upd H A.ab (.dK (b7 (st.ak++[p]) (A.qs++[qq]))) qq.1=some (.ins T.part qq.2.1 (cJ p qq.2.2)):=by rw [av (iz h1 h.dG (by intro z;cases z))];exact h1
 refine ⟨_,Z,A.a,T.hold,A.dx,_,_,Z,hs.oa,X.cH,X.hnm,Z,_,Z,qq.1,T.part,qq.2.1,_,_,Z,AW,X.cP,X.OE,Z,A.nm,_,Z,t8.k (k:=Sum.inr p.nm) hs.p7 (by unfold xh;rw [aC];exact cU hh.wf.vv),?_⟩
 rw [lY _ (xq hn),show xh st.nms++[(Sum.inr p.nm,V.bl true)]=xh (st.nms++[p.nm]) from by unfold xh;rw [bQ];rfl]
 have hs2:=hs.V6 g2 (st.nms++[p.nm])
 exact q _ _ _ ⟨g2.wr rfl,hs2,wf'⟩ rfl (W2.trans (W3.trans (Fr.write hs.h_)))
abbrev rY:Stmt:=inClass (top 21) 1
abbrev lC:List Str:=["self","owner"]
abbrev JF:List Str:=lC.append ["part"]
theorem x6:aM JF lC (aB rY):=dI
theorem HZ {T:TC} (F:gh K T.hold "sign" "Hold.sign" rY f fd) (X:Txt K T) (mS:Dn P w K mg base 2 "is_name" qf vn) (bK:mg "len"=none):Mn P w K mg base 3 T.hold "sign" lC (Cs T):=by
 refine F.oA x6 fun cdv A outer s H vs Q E hr h=>?_
 obtain ⟨⟨n,ρ,A,st,o,rfl,hh,hx,hn,hl,q⟩⟩:=h
 refine ⟨_,(@cQ.h _ _ _ (aj (bZ (xH (rS (bM mS hr (af (qv 1) ao)))) (aq oR) br)
  (aj (bZ (uM (Ho (c9 hr) (qv 1) (aH K (qv 0)))) (aq oR) br)
  (aj (q_ (c9 hr) (aH K (qv 0)) (qv 1) (bD s_ (by rfl) bK ff (af (aH K (qv 0)) ao)) rfl)
  (aj (bY (jq lW lU lV dD (aH K (qv 0)) (af ai ao)))
  (aj (bY (jq lW lU lV dD (aH K (qv 0)) (af ai ao)))
  (aq (uO (eO fu rfl (yq (aH K (qv 0))) (aT (i:=2) x6.nd) (aq (bY (jq lW lU lV dD (aH K (qv 2)) (af ai ao))))))))))))),?_⟩
 refine ⟨_,Z,AJ (cs:=o.cps.toList) (GI hx) fun H1 g1=>⟨_,Z,?_⟩⟩
 rw [show isName o.cps.toList=true from hx]
 refine gv ?_
 have je:=hh.mono g1
 have h1:=je.h
 have F1:Fr n ρ H ρ H1:=Fr.of_same g1
 refine ⟨_,Z,_,Z,A.a,T.hold,A.dx,_,_,Z,h1.oa,X.cH,X.hpl,Z,A.pl,_,Z,dR.k (k:=Sum.inr o) h1.gO,_,Z,?_⟩
 rw [nt hn]
 refine gv ?_
 have yQ:=nu st.own 0
 refine ⟨_,Z,A.a,T.hold,A.dx,_,_,Z,h1.oa,X.cH,X.hpl,Z,A.pl,_,Z,h1.gO,_,Z,A.a,T.hold,A.dx,_,_,Z,h1.oa,X.cH,X.hpl,Z,_,Z,A.pl,_,Z,t8.k (k:=Sum.inr o) h1.gO (cU (by rw [yQ];omega)),?_⟩
 rw [lY _ (nt hn),yQ,show eY 0 st.own++[(Sum.inr o,V.int (st.own.length:Int))]=eY 0 (st.own++[o]) from by rw [Gz,Nat.zero_add]]
 have h2:=h1.V4 je.g (st.own++[o])
 have G2:=je.g.wr (a:=A.pl) (o:= .dK (eY 0 (st.own++[o]))) rfl
 have F2:=F1.trans (Fr.write (o:= .dK (eY 0 (st.own++[o]))) h1.gP)
 generalize upd H1 A.pl (.dK (eY 0 (st.own++[o])))=H2 at *
 have lcm:(st.bq.map V.int).length<sizeLine:=by rw [aC,hh.wf.fK];exact cU (by omega)
 refine ⟨_,Z,A.a,T.hold,A.dx,_,_,Z,h2.oa,X.cH,X.yL,Z, .inl ⟨Z,_,aF.of h2.iI⟩,A.cm,_,_,Z,Z,h2.iI,lcm,?_⟩
 rw [show st.bq.map V.int++[V.int 0]=(st.bq++[0]).map V.int from by rw [bQ];rfl]
 have h3:=h2.V7 G2 (st.bq++[0])
 have G3:=G2.wr (a:=A.cm) (o:= .lst ((st.bq++[0]).map V.int)) rfl
 have F3:=F2.trans (Fr.write (o:= .lst ((st.bq++[0]).map V.int)) h2.iJ)
 generalize upd H2 A.cm (.lst ((st.bq++[0]).map V.int))=H3 at *
 have lpu:(st.bO.map V.int).length<sizeLine:=by rw [aC,hh.wf.oJ];exact cU (by omega)
 refine ⟨_,Z,A.a,T.hold,A.dx,_,_,Z,h3.oa,X.cH,X.AV,Z, .inl ⟨Z,_,aF.of h3.j7⟩,A.pu,_,_,Z,Z,h3.j7,lpu,?_⟩
 rw [show st.bO.map V.int++[V.int 0]=(st.bO++[0]).map V.int from by rw [bQ];rfl]
 have h4:=h3.V8 G3 (st.bO++[0])
 have G4:=G3.wr (a:=A.pu) (o:= .lst ((st.bO++[0]).map V.int)) rfl
 have F4:=F3.trans (Fr.write (o:= .lst ((st.bO++[0]).map V.int)) h3.cpu)
 generalize upd H3 A.pu (.lst ((st.bO++[0]).map V.int))=H4 at *
 clear h1 h2 h3 G2 G3 F2 F3 je
 have hpl:=hh.wf.nj
 refine ⟨A.ab,_,h4.dG,fun ob=>?_⟩
 refine ⟨_,Z,A.a,T.hold,A.dx,_,_,Z,dX h4.dG h4.oa (fun k z=>by cases z),X.cH,X.hab,Z,A.ab,ob,_,Z,ah,?_⟩
 have el:=uK h4.ql
 have ZL:(b7 st.ak A.qs).length=st.ak.length:=el
 refine rJ (n:=st.ak.length) (fun i σ H'=>(∃s2,σ=[some (.ref A.a),some (.str o),s2])/\mL H' A.ab ob (b7 st.ak A.qs)/\∃H5,H'=upd H5 A.ab (.fk ob (.dK (b7 st.ak A.qs)))/\Gh ρ H5/\Fr n ρ H ρ H5/\
   aL T n ρ A H5 { st with own:=st.own++[o],bq:=st.bq++[0],bO:=st.bO++[0],ak:=(st.ak.take i).map (fun p=>{ p with row:=p.row++[0] })++st.ak.drop i })
  ⟨⟨_,Z⟩,ah,H4,Z,G4,F4,h4⟩ (fun i σ H' hi hp=>⟨hp.2.1,by rw [ZL];exact hi⟩) (fun σ H' hp=>⟨hp.2.1,by rw [ZL];exact aK _⟩) ?_ ?_
 . rintro i x σ H' A_ hi ⟨⟨s2,rfl⟩,hz,H5,rfl,G5,F5,h5⟩ ⟨rfl,kv,hkv,rfl⟩
   have ep:=bB hi
   have ZM:=GK (fun p:Pt=>{ p with row:=p.row++[0] }) ep
   obtain ⟨qq,eq,k1,k2,k3,k4⟩:=h5.find ZM
   rw [uJ ep eq] at hkv
   cases hkv
   have Sk:=oK (fun p:Pt=>{ p with row:=p.row++[0] }) (fun p:Pt=>p.nm) (fun _=>rfl) st.ak i
   have nd5:(((st.ak.take i).map (fun p:Pt=>{ p with row:=p.row++[0] })++st.ak.drop i).map (fun p:Pt=>p.nm)).Nodup:=by rw [Sk];exact hh.wf.cX
   have z1:=dX (o:=ob) h5.dG k1 (fun k z=>by cases z)
   have z2:=dX (o:=ob) h5.dG k2 (fun k z=>by cases z)
   rw [show b7 ({ st with own:=st.own++[o],bq:=st.bq++[0],bO:=st.bO++[0],ak:=(st.ak.take i).map (fun p:Pt=>{ p with row:=p.row++[0] })++st.ak.drop i }:HS).ak A.qs=b7 st.ak A.qs from mO Sk] at z1 z2
   have hrl:((st.ak[i]).row.map V.int).length<sizeLine:=by rw [aC,hh.wf.rows _ (Ce hi)];exact cU (by omega)
   refine ⟨_,Z,qq.1,T.part,qq.2.1,_,_,Z,z1,X.cP,X.K2,Z, .inl ⟨Z,_,aF.of z2⟩,qq.2.2,_,_,Z,Z,z2,hrl,?_⟩
   have na:A.ab≠qq.2.2:=(iz k2 h5.dG (by intro z;cases z)).symm
   rw [show (st.ak[i]).row.map V.int++[V.int 0]=((st.ak[i]).row++[0]).map V.int from by rw [bQ];rfl]
   have h6:=h5.TU G5 ((st.ak[i]).row++[0]) ZM eq nd5
   rw [show ({ st with own:=st.own++[o],bq:=st.bq++[0],bO:=st.bO++[0],ak:=(st.ak.take i).map (fun p:Pt=>{ p with row:=p.row++[0] })++st.ak.drop i }:HS).ak.set i { st.ak[i] with row:=(st.ak[i]).row++[0] }=_ from GL (fun p:Pt=>{ p with row:=p.row++[0] }) ep] at h6
   exact ⟨⟨_,Z⟩,(av na).trans hz,_,jm na,G5.wr rfl,F5.trans (Fr.write k4),h6⟩
 . rintro σ H' ⟨_,hz,H5,rfl,G5,F5,h5⟩
   have Sk:=oK (fun p:Pt=>{ p with row:=p.row++[0] }) (fun p:Pt=>p.nm) (fun _=>rfl) st.ak st.ak.length
   have e5:b7 ({ st with own:=st.own++[o],bq:=st.bq++[0],bO:=st.bO++[0],ak:=(st.ak.take st.ak.length).map (fun p:Pt=>{ p with row:=p.row++[0] })++st.ak.drop st.ak.length }:HS).ak A.qs=b7 st.ak A.qs:=mO Sk
   have ZN:=h5.dG
   rw [e5] at ZN
   refine ⟨hz,?_⟩
   rw [mG,vz ZN]
   have es:({ st with own:=st.own++[o],bq:=st.bq++[0],bO:=st.bO++[0],ak:=(st.ak.take st.ak.length).map (fun p:Pt=>{ p with row:=p.row++[0] })++st.ak.drop st.ak.length }:HS)=fV st o:=by
    unfold fV
    rw [ee,List.drop_length,zZ]
   rw [es] at h5
   exact q ρ A H5 ⟨G5,h5,Cu hh.wf hn hl⟩ rfl F5
abbrev rZ:Stmt:=inClass (top 21) 2
abbrev pJ:List Str:=["self","part","owner","worth","weight"]
abbrev JG:List Str:=pJ.append ["place","tops"]
theorem r6:aM JG pJ (aB rZ):=dI
theorem H_ {T:TC} (F:gh K T.hold "load" "Hold.load" rZ f fd) (X:Txt K T) (mC:Mn P w K mg base 3 T.hold "check_new" iu (AZ T)) (gu:Mn P w K mg base 1 T.hold "place_of" fM (Cr T))
  (eF:Mn P w K mg base 1 T.hold "beyond_common" fO (MG T K)) (jG:Mn P w K mg base 1 T.hold "stow" lz (GF T)) (uT:Cn P w K mg base 1 "Part" T.part ["self","name","owner","worth","weight","scale","row"] (Cq T K)) (bK:mg "len"=none):Mn P w K mg base 4 T.hold "load" pJ (OI T):=by
 refine F.oA r6 fun cdv A outer s H vs Q E hr h=>?_
 obtain ⟨⟨n,ρ,A,st,x,o,wo,we,rfl,hh,hx,hn,ho,h4,h5,h6,h7,q⟩⟩:=h
 refine ⟨_,(@cQ.h _ _ _ (aj (bY (cI mC hr (qv 0) (af (qv 1) ao)))
  (aj (aR (i:=5) r6.nd (cI gu hr (qv 0) (af (qv 2) ao)))
  (aj (bZ (ja (bW.pt (vN (aN lJ (qv 3) ai (aW _)) (xK (aN lJ (qv 4) ai (aW _)))))) (aq oR) br)
  (aj (aR (i:=6) r6.nd (aG N3 (gC (af ai ao)) (bD s_ (by rfl) bK ff (af (aH K (qv 0)) ao))))
  (aj (lg (aH K (aH K (qv 0))) (lu (qv 6) (qv 5) set_list))
  (aq (bY (cI jG hr (qv 0) (af (Sg uT hr (af (qv 1) (af (qv 2) (af (qv 3) (af (qv 4) (af ai (af (cI eF hr (qv 0) (af (qv 6) ao)) ao))))))) ao)))))))))),?_⟩
 refine ⟨_,Z,A.a,A.dx,_,Z,hh.h.oa,Z,_,Z,⟨⟨n,ρ,A,st,x,Z,hh.h,hx,hn,fun H1 g1=>?_⟩⟩⟩
 have je:=hh.mono g1
 have F1:Fr n ρ H ρ H1:=Fr.of_same g1
 clear hh
 refine ⟨_,Z,A.a,A.dx,_,Z,je.h.oa,Z,_,Z,⟨⟨n,ρ,A,st,o,Z,je.h,ho,?_⟩⟩⟩
 refine ⟨false,⟨_,Z,_,_,Z,Z,_,Z,aI (fun c=>absurd (aV c) (by omega)) fun _=>⟨_,Z,_,_,Z,Z,_,Z,cu (by omega),Z⟩⟩,gv ?_⟩
 refine ⟨(gq 1),fun p0 hp0=>?_⟩
 have g2:=aE hp0 (.lst [.int 0])
 have mT:=je.mono g2
 have F2:=F1.trans (Fr.of_same (ρ:=ρ) g2)
 have Rp:upd H1 p0 (.lst [.int 0]) p0=some (.lst [.int 0]):=ah
 generalize upd H1 p0 (.lst [.int 0])=H2 at *
 clear je F1
 have yQ:=nu st.own 0
 have fD:=mT.wf.jk
 refine ⟨_,Z,A.a,T.hold,A.dx,_,_,Z,mT.h.oa,X.cH,X.hpl,Z,A.pl,_,Z,mT.h.gO,p0,_,_,Z,Z,Rp,by omega,by rw [yQ];omega,by rw [yQ];show 1*_<=_;rw [rA,Nat.one_mul];exact small (by omega),fun p1 hp1=>?_⟩
 rw [yQ,rA,show (List.replicate st.own.length [V.int 0]).flatten=(List.replicate st.own.length (0:Int)).map V.int from by rw [List.map_replicate,List.flatten_replicate_singleton]]
 have g3:=aE hp1 (.lst ((List.replicate st.own.length (0:Int)).map V.int))
 have nO:=mT.mono g3
 have F3:=F2.trans (Fr.of_same (ρ:=ρ) g3)
 have n1:H p1=none:=(g1.trans g2).free hp1
 have c1:ρ p1=none:=mT.g.none hp1
 have x8:upd H2 p1 (.lst ((List.replicate st.own.length (0:Int)).map V.int)) p1=_:=ah
 generalize upd H2 p1 (.lst ((List.replicate st.own.length (0:Int)).map V.int))=H3 at *
 have hi:=List.idxOf_lt_length_iff.mpr ho
 refine ⟨_,Z,A.a,T.hold,A.dx,_,_,Z,nO.h.oa,X.cH,X.xm,Z,A.bt,T.bot,A.db,_,_,Z,nO.h.jQ,X.cB,X.K3,Z,_,Z,_,Z,p1,_,_,st.own.idxOf o,Z,Z,x8,by rw [aC,mV];exact uG hi,?_⟩
 rw [show ((List.replicate st.own.length (0:Int)).map V.int).set (st.own.idxOf o) (V.int st.prod)=((List.replicate st.own.length (0:Int)).set (st.own.idxOf o) st.prod).map V.int from by rw [qQ]]
 have qg:=nO.A1 (o:= .lst (((List.replicate st.own.length (0:Int)).set (st.own.idxOf o) st.prod).map V.int)) c1 x8 rfl rfl
 have F4:=F3.new (o:= .lst (((List.replicate st.own.length (0:Int)).set (st.own.idxOf o) st.prod).map V.int)) n1
 have Rq:upd H3 p1 (.lst (((List.replicate st.own.length (0:Int)).set (st.own.idxOf o) st.prod).map V.int)) p1=_:=ah
 have s4:aO H (upd H3 p1 (.lst (((List.replicate st.own.length (0:Int)).set (st.own.idxOf o) st.prod).map V.int))):=((g1.trans g2).trans g3).cY n1 _
 generalize upd H3 p1 (.lst (((List.replicate st.own.length (0:Int)).set (st.own.idxOf o) st.prod).map V.int))=H4 at *
 clear mT nO F2 F3
 refine ⟨_,Z,A.a,A.dx,_,Z,qg.h.oa,Z,_,Z,_,Z,_,Z,_,Z,_,Z,A.a,A.dx,_,Z,qg.h.oa,Z,_,Z,⟨⟨n,ρ,A,st,p1,_,Z,qg.h,aF.of Rq,by rw [gG,mV,qg.wf.fK],by rw [gG,mV];omega,fun r H5 g5 hr5 Rr=>?_⟩⟩⟩
 intro y dy hy ZO hyd
 have W4:upd (upd H5 dy (.own y)) y (.ins T.part dy []) r=some (.lst ((j8 st ((List.replicate st.own.length 0).set (st.own.idxOf o) st.prod)).map V.int)):=by rw [av (aD Rr hy),av (aD Rr ZO)];exact Rr
 refine ⟨⟨y,dy,r,⟨x,o,wo,we,1,j8 st ((List.replicate st.own.length 0).set (st.own.idxOf o) st.prod)⟩,Z,ah,aF.of W4,fun rr H6 hrr k6 W5 Rt=>⟨Z,?_⟩⟩⟩
 have Ia:H5 rr=none:=by
  have e1:rr≠y:=fun e=>by rw [e,ah] at hrr;cases hrr
  have e2:rr≠dy:=fun e=>by rw [e,av hyd,ah] at hrr;cases hrr
  rw [av e1,av e2] at hrr;exact hrr
 have g6:aO H5 H6:=fun b u e=>k6 b u (by rw [av (aD e hy),av (aD e ZO)];exact e) (aD e hy)
 have wG:=qg.mono g5
 have yR:=wG.mono g6
 have F6:=F4.trans (Fr.of_same (ρ:=ρ) (g5.trans g6))
 exact ⟨⟨n,ρ,A,st,(y,dy,rr),_,Z,yR,W5,Rt,wG.g.none hy,wG.g.none Ia,hn,K_ qg.wf hn h6 h7 ho h4 h5,fun ρ' A' H' a1 a2 a3=>q ρ' A' H' a1 a2 (a3.fr F6 ((s4.trans g5).free hy) ((s4.trans g5).free Ia))⟩⟩
abbrev r8:Stmt:=inClass (top 21) 0
abbrev uf:List Str:=["self"]
abbrev JH:List Str:=uf
theorem Ib:aM JH uf (aB r8):=dI
theorem Ic {T:TC} (F:DF K mg "Hold" T.hold "Hold.__init__" r8 f fd) (X:Txt K T) (zP:Cn P w K mg base 1 "Bottom" T.bot ["self"] (K5 T)):Cn P w K mg base 3 "Hold" T.hold uf (K6 T):=by
 refine F.oA Ib fun cdv A outer s H vs Q E hr h=>?_
 obtain ⟨⟨p,dx,ρ,n,rfl,hp,g,hρ,q⟩⟩:=h
 refine ⟨_,(@cQ.h _ _ _ (aj (cZ K (qv 0) oQ)
  (aj (cZ K (qv 0) oQ)
  (aj (cZ K (qv 0) (gC ao))
  (aj (cZ K (qv 0) oQ)
  (aj (cZ K (qv 0) (O1 zP hr))
  (aj (cZ K (qv 0) (gC ao))
  (aq (cZ K (qv 0) (gC ao)))))))))),?_⟩
 have M0:iK p H ρ H ρ [] :=⟨(fun _ m=>absurd m (by simp)),fun b o e _=>⟨e,Z⟩,g,_,hp⟩
 intro pl hpl
 have M1:=(M0.new (o:= .dK []) (c:=(n,1,⟨#[]⟩)) hpl rfl)
 refine ⟨_,Z,p,T.hold,dx,_,Z,by rw [av (aD hp hpl)];exact hp,X.cH,X.hpl,by show 0<1000;decide,?_⟩
 have M2:=M1.wr (u:= .ins T.hold dx (aQ "places" (.ref pl) [])) rfl
 have hp2:upd (upd H pl (.dK [])) p (.ins T.hold dx (aQ "places" (.ref pl) [])) p=_:=ah
 generalize upd (upd H pl (.dK [])) p (.ins T.hold dx (aQ "places" (.ref pl) []))=H2 at *
 clear M0 M1
 intro ab hab
 have M3:=(M2.new (o:= .dK []) (c:=(n,2,⟨#[]⟩)) hab rfl)
 refine ⟨_,Z,p,T.hold,dx,_,Z,by rw [av (aD hp2 hab)];exact hp2,X.cH,X.hab,by show 1<1000;decide,?_⟩
 have M4:=M3.wr (u:= .ins T.hold dx (aQ "aboard" (.ref ab) (aQ "places" (.ref pl) []))) rfl
 have ZP:upd (upd H2 ab (.dK [])) p (.ins T.hold dx (aQ "aboard" (.ref ab) (aQ "places" (.ref pl) []))) p=_:=ah
 generalize upd (upd H2 ab (.dK [])) p (.ins T.hold dx (aQ "aboard" (.ref ab) (aQ "places" (.ref pl) [])))=H4 at *
 clear M2 M3
 refine ⟨(gq 0),fun as has=>?_⟩
 have M5:=(M4.new (o:= .lst []) (c:=(n,3,⟨#[]⟩)) has rfl)
 refine ⟨_,Z,p,T.hold,dx,_,Z,by rw [av (aD ZP has)];exact ZP,X.cH,X.has,by show 2<1000;decide,?_⟩
 have M6:=M5.wr (u:= .ins T.hold dx (aQ "ashore" (.ref as) (aQ "aboard" (.ref ab) (aQ "places" (.ref pl) [])))) rfl
 have Sl:upd (upd H4 as (.lst [])) p (.ins T.hold dx (aQ "ashore" (.ref as) (aQ "aboard" (.ref ab) (aQ "places" (.ref pl) [])))) p=_:=ah
 generalize upd (upd H4 as (.lst [])) p (.ins T.hold dx (aQ "ashore" (.ref as) (aQ "aboard" (.ref ab) (aQ "places" (.ref pl) []))))=H6 at *
 clear M4 M5
 intro nm hnm
 have M7:=(M6.new (o:= .dK []) (c:=(n,4,⟨#[]⟩)) hnm rfl)
 refine ⟨_,Z,p,T.hold,dx,_,Z,by rw [av (aD Sl hnm)];exact Sl,X.cH,X.hnm,by show 3<1000;decide,?_⟩
 have M8:=M7.wr (u:= .ins T.hold dx (aQ "names" (.ref nm) (aQ "ashore" (.ref as) (aQ "aboard" (.ref ab) (aQ "places" (.ref pl) []))))) rfl
 have W6:upd (upd H6 nm (.dK [])) p (.ins T.hold dx (aQ "names" (.ref nm) (aQ "ashore" (.ref as) (aQ "aboard" (.ref ab) (aQ "places" (.ref pl) []))))) p=_:=ah
 generalize upd (upd H6 nm (.dK [])) p (.ins T.hold dx (aQ "names" (.ref nm) (aQ "ashore" (.ref as) (aQ "aboard" (.ref ab) (aQ "places" (.ref pl) [])))))=H8 at *
 clear M6 M7
 intro bt db xm hdb hne
 refine ⟨⟨bt,db,Z,ah,fun sp kn H9 m8 hkn hsk k9 W7 W8 W9=>⟨Z,?_⟩⟩⟩
 have s9:aO H8 H9:=fun b o e=>k9 b o (by rw [av (aD e xm),av (aD e hdb)];exact e) (aD e xm)
 have fr:∀{c:Addr},upd (upd H8 db (.own bt)) bt (.ins T.bot db []) c=none->H8 c=none:=fun {c} e=>by
  have e1:c≠bt:=fun z=>by rw [z,ah] at e;cases e
  have e2:c≠db:=fun z=>by rw [z,av hne,ah] at e;cases e
  rw [av e1,av e2] at e;exact e
 have W_:=fr m8
 have Xa:=fr hkn
 have M9:=M8.same s9
 have ZQ:=M9.add (c:=(n,5,⟨#[]⟩)) W7 rfl M8 xm (fun e he=>aD (M8.m e he).1 xm)
 have ZR:=ZQ.add (c:=(n,8,⟨#[]⟩)) W8 rfl M8 W_ (fun e he=>by
  rcases c8.mp he with rfl|he
  . exact iz W7 W8 (by intro z;cases z)
  . exact aD (M8.m e he).1 W_)
 have ZS:=ZR.add (c:=(n,9,⟨#[]⟩)) W9 rfl M8 Xa (fun e he=>by
  rcases c8.mp he with rfl|he
  . exact iz W8 W9 (by intro z;cases z)
  rcases c8.mp he with rfl|he
  . exact iz W7 W9 (by intro z;cases z)
  . exact aD (M8.m e he).1 Xa)
 have hp9:=s9 _ _ W6
 refine ⟨_,Z,p,T.hold,dx,_,Z,hp9,X.cH,X.xm,by show 4<1000;decide,?_⟩
 have ZT:=ZS.wr (u:= .ins T.hold dx (aQ "bottom" (.ref bt) (aQ "names" (.ref nm) (aQ "ashore" (.ref as) (aQ "aboard" (.ref ab) (aQ "places" (.ref pl) [])))))) rfl
 have x8:upd H9 p (.ins T.hold dx (aQ "bottom" (.ref bt) (aQ "names" (.ref nm) (aQ "ashore" (.ref as) (aQ "aboard" (.ref ab) (aQ "places" (.ref pl) [])))))) p=_:=ah
 generalize upd H9 p (.ins T.hold dx (aQ "bottom" (.ref bt) (aQ "names" (.ref nm) (aQ "ashore" (.ref as) (aQ "aboard" (.ref ab) (aQ "places" (.ref pl) []))))))=Xb at *
 clear M8 M9 ZQ ZR ZS
 refine ⟨(gq 0),fun cm yL=>?_⟩
 have ZU:=(ZT.new (o:= .lst []) (c:=(n,6,⟨#[]⟩)) yL rfl)
 refine ⟨_,Z,p,T.hold,dx,_,Z,by rw [av (aD x8 yL)];exact x8,X.cH,X.yL,by show 5<1000;decide,?_⟩
 have ZV:=ZU.wr (u:= .ins T.hold dx (aQ "common" (.ref cm) (aQ "bottom" (.ref bt) (aQ "names" (.ref nm) (aQ "ashore" (.ref as) (aQ "aboard" (.ref ab) (aQ "places" (.ref pl) []))))))) rfl
 have Xc:upd (upd Xb cm (.lst [])) p (.ins T.hold dx (aQ "common" (.ref cm) (aQ "bottom" (.ref bt) (aQ "names" (.ref nm) (aQ "ashore" (.ref as) (aQ "aboard" (.ref ab) (aQ "places" (.ref pl) []))))))) p=_:=ah
 generalize upd (upd Xb cm (.lst [])) p (.ins T.hold dx (aQ "common" (.ref cm) (aQ "bottom" (.ref bt) (aQ "names" (.ref nm) (aQ "ashore" (.ref as) (aQ "aboard" (.ref ab) (aQ "places" (.ref pl) [])))))))=ZW at *
 clear ZT ZU
 refine ⟨(gq 0),fun pu AV=>?_⟩
 have ZX:=(ZV.new (o:= .lst []) (c:=(n,7,⟨#[]⟩)) AV rfl)
 refine ⟨_,Z,p,T.hold,dx,_,Z,by rw [av (aD Xc AV)];exact Xc,X.cH,X.AV,by show 6<1000;decide,?_⟩
 have Xd:=ZX.wr (u:= .ins T.hold dx (aQ "purses" (.ref pu) (aQ "common" (.ref cm) (aQ "bottom" (.ref bt) (aQ "names" (.ref nm) (aQ "ashore" (.ref as) (aQ "aboard" (.ref ab) (aQ "places" (.ref pl) [])))))))) rfl
 have Xe:upd (upd ZW pu (.lst [])) p (.ins T.hold dx (aQ "purses" (.ref pu) (aQ "common" (.ref cm) (aQ "bottom" (.ref bt) (aQ "names" (.ref nm) (aQ "ashore" (.ref as) (aQ "aboard" (.ref ab) (aQ "places" (.ref pl) [])))))))) p=_:=ah
 generalize upd (upd ZW pu (.lst [])) p (.ins T.hold dx (aQ "purses" (.ref pu) (aQ "common" (.ref cm) (aQ "bottom" (.ref bt) (aQ "names" (.ref nm) (aQ "ashore" (.ref as) (aQ "aboard" (.ref ab) (aQ "places" (.ref pl) []))))))))=Xf at *
 clear ZV ZX
 have m:=Xd.m
 have xZ:∀{a:Addr} {o:HO} {c:pZ} {ρ2:dO},(Xf a=some o/\ρ2 a=some c/\a≠p)->Xf a=some o/\cE ρ2 p (n,0,⟨#[]⟩) a=some c:=fun h=>⟨h.1,by rw [cg h.2.2];exact h.2.1⟩
 have a1:=xZ (m _ (.head _))
 have a2:=xZ (m _ (.tail _ (.head _)))
 have a3:=xZ (m _ (.tail _ (.tail _ (.head _))))
 have a4:=xZ (m _ (.tail _ (.tail _ (.tail _ (.head _)))))
 have a5:=xZ (m _ (.tail _ (.tail _ (.tail _ (.tail _ (.head _))))))
 have a6:=xZ (m _ (.tail _ (.tail _ (.tail _ (.tail _ (.tail _ (.head _)))))))
 have a7:=xZ (m _ (.tail _ (.tail _ (.tail _ (.tail _ (.tail _ (.tail _ (.head _))))))))
 have a8:=xZ (m _ (.tail _ (.tail _ (.tail _ (.tail _ (.tail _ (.tail _ (.tail _ (.head _)))))))))
 have a9:=xZ (m _ (.tail _ (.tail _ (.tail _ (.tail _ (.tail _ (.tail _ (.tail _ (.tail _ (.head _))))))))))
 refine q (cE _ p (n,0,⟨#[]⟩)) ⟨p,dx,pl,ab,as,nm,bt,db,cm,pu,sp,kn,[]⟩ Xf rfl ⟨Xd.g.color Xe rfl,⟨Xe,c6,a9.1,a9.2,a8.1,a8.2,⟨[],a7.1, .nil⟩,a7.2,a6.1,a6.2,a5.1,a5.2,a2.1,a2.2,a1.1,a1.2,a4.1,a4.2,⟨[],a3.1,(fun x hx=>absurd hx (by simp)),aK _,sW⟩,a3.2,Z,fun i x y ex=>by simp [hs0] at ex⟩,ZC⟩ (fun b o e hb=>?_)
 obtain ⟨x,y⟩:=Xd.k b o e hb
 exact ⟨x,by rw [cg hb];exact y⟩
abbrev mD:Stmt:=inClass (top 21) 27
abbrev jV:List Str:=["self","amounts"]
abbrev By:List Str:=jV.append ["lost","sums","name","amount","part","many"]
theorem d7:aM By jV (aB mD):=dI
theorem zQ {T:TC} (F:gh K T.hold "given_up" "Hold.given_up" mD f fd) (X:Txt K T) (jv:mg "sum"=none) (gM:mg "zip"=none):Mn P w K mg base 1 T.hold "given_up" jV (Lc T):=by
 refine F.oA d7 fun cdv A outer s H vs Q E hr h=>?_
 obtain ⟨⟨n,ρ,A,st,d,rs,rfl,h,wf,hd,cd,hle,ug,q⟩⟩:=h
 refine ⟨_,(@cQ.h _ _ _ (aj (aR (i:=2) d7.nd (bD (DE rfl) (by rfl) jv Fw (af (Cz (qv 1)) ao)))
  (aj (uN (i:=3) ["common","lost"] [none,some 2] d7.nd rfl rfl rfl (dY K (aH K (qv 0))) (fun _ _ _ _=>(aT (i:=0) (show List.Nodup (["common","lost"] :List Str) from by decide +kernel))) (fun _ _ _ _=>(aG jE (qv 1) (qv 0))) rfl (by rfl) (by rfl))
  (aj (uO (eO fu rfl (zz (qv 1)) (gk K (n:=2) rfl (bP (aT (i:=4) d7.nd) (bP (aT (i:=5) d7.nd) gj))) (aj (aR (i:=6) d7.nd (dM (c9 hr) (aH K (qv 0)) (qv 4)))
  (aj (aR (i:=7) d7.nd (aG jE (qv 5) (aH K (qv 6))))
  (aq (uN (i:=3) ["old","own","many"] [none,none,some 7] d7.nd rfl rfl rfl (oO K (by rfl) gM (af (qv 3) (af (aH K (qv 6)) ao))) (fun _ _ _ _=>(gk K (n:=2) rfl (bP (aT (i:=0) (show List.Nodup (["old","own","many"] :List Str) from by decide +kernel)) (bP (aT (i:=1) (show List.Nodup (["old","own","many"] :List Str) from by decide +kernel)) gj)))) (fun _ _ _ _=>(aG b9 (qv 0) (aG jE (qv 2) (qv 1)))) rfl (by rfl) (by rfl)))))))
  (aq (bg (qv 3))))))),?_⟩
 have hcl:st.bq.length<=100:=by rw [wf.fK];exact wf.jk
 have zl:Jm.Sz 1100 (bu rs):=by
  have:=Jm.Oc (n:=60) (ws:=rs.map (·.2)) (fun m hm=>by obtain ⟨r,hr,rfl⟩:=bJ.mp hm;exact (ug r hr).1)
  exact this.mono (by rw [aC];omega)
 have zc:∀c∈st.bq,Jm.Sz 8000 c:=fun c hc=>Jm.Sz.m9 (by have:=wf.lZ c hc;have:=wf.fB;omega) (wf.lZ c hc).2 wf.big
 refine ⟨_,Z,d,_,Z, .inl hd,fun v hv=>⟨v,d,_,rs.map (·.2),Z,ah, .inl (by rw [av (aD hd hv)];exact hd),by unfold gc;rw [iy,iy];rfl,?_⟩⟩
 have g1:=aE hv (jO v d)
 have hd1:=g1 _ _ hd
 have h1:=h.mono g1
 generalize upd H v (jO v d)=H1 at *
 refine ⟨_,Z,A.a,T.hold,A.dx,_,_,Z,h1.oa,X.cH,X.yL,Z,A.cm,Z,⟨_,aF.of h1.iI⟩,fun l0 qh=>?_⟩
 refine ng (J:=Ai K A.cm) (n:=(st.bq.map V.int).length) 0 (fun i o H'=>aO H1 H'/\o=((st.bq.take i).map fun c=>bu rs*c).map V.int) (by rw [aC];omega) ⟨aE qh _,Z⟩ (fun i o H' hi _ hp=>⟨_,_,aF.of (hp.1 _ _ h1.iI),bB hi⟩) (fun o H' _ hp=>⟨_,aF.of (hp.1 _ _ h1.iI),aK _⟩) ?_ ?_
 . rintro i y o H2 H3 hi fD ha ⟨g,e⟩ ⟨rfl,hy⟩
   obtain ⟨c,rfl,ec⟩:=fm (hy _ (aF.of (g _ _ h1.iI)))
   refine ⟨_,Z,_,Z,_,_,Z,Z,i8 zl (zc c (bR ec)),ha,g.cY qh _,?_⟩
   subst e
   rw [take_snoc ec,bQ,bQ]
   rfl
 rintro o H2 fD ha ⟨g2,e⟩
 rw [aC,ee] at e
 subst e
 have Ie:=g1.trans g2
 have hd2:=g2 _ _ hd1
 have h2:=h1.mono g2
 have hn0:H l0=none:=g1.free qh
 refine ⟨d,_,hd2,fun ob=>⟨_,Z,d,ob,_,Z,ah,?_⟩⟩
 have al:=vB rs
 refine rJ (n:=(gc rs).length) (fun i σ H'=>aO (upd H2 d (.fk ob (.dK (gc rs)))) H'/\∃l s4 s5 s6 s7,σ=[some (.ref A.a),some (.ref d),some (.int (bu rs)),some (.ref l),s4,s5,s6,s7]/\H l=none/\H' l=some (.lst (((rs.take i).foldl (iT st) (st.bq.map fun c=>bu rs*c)).map V.int))/\((rs.take i).foldl (iT st) (st.bq.map fun c=>bu rs*c)).length=st.bq.length)
  ⟨aO.refl _,l0,_,_,_,_,Z,hn0,dX hd2 ha (fun k z=>by cases z),by rw [List.take_zero,List.foldl_nil,aC]⟩ (fun i σ H' hi hp=>⟨hp.1 _ _ ah,hi⟩) (fun σ H' hp=>⟨hp.1 _ _ ah,aK _⟩) ?_ ?_
 . rintro i x σ H3 H4 hi ⟨g,l,s4,s5,s6,s7,rfl,AH,hl,hsl⟩ ⟨pp,kv,hpp,hkv,rfl,rfl⟩
   unfold gc at hkv
   rw [b_] at hkv
   obtain ⟨r,er,rfl⟩:=mU.mp hkv
   have hrm:=bR er
   obtain ⟨zr,p,eW,BA⟩:=ug r hrm
   obtain ⟨ip,Ea,Pe⟩:=wL eW
   have ep:st.ak[ip]?=some p:=by rw [bB Ea,Pe]
   have epg:cy st r.1=p:=by rw [<-BA];exact Lb wf.cX ep
   have g4:=aE hpp (.tup [.str r.1, .int r.2])
   have gg:=g.trans g4
   have Xg:∀{b:Addr} {u:HO},H2 b=some u->(∀k,u ≠ .dK k)->upd H3 pp (.tup [.str r.1, .int r.2]) b=some u:=fun e k=>gg _ _ (dX hd2 e k)
   have nab:A.ab≠d:=(yK cd h.fC).symm
   obtain ⟨qq,eq,k1,k2,_,_⟩:=h2.find ep
   have hab:upd H3 pp (.tup [.str r.1, .int r.2]) A.ab=some (.dK (b7 st.ak A.qs)):=gg _ _ (by rw [av nab];exact h2.dG)
   have hv:=qX wf.cX ep eq
   have hq1:=Xg k1 (fun k z=>by cases z)
   have hq2:=Xg k2 (fun k z=>by cases z)
   have Ig:upd H3 pp (.tup [.str r.1, .int r.2]) pp=some (.tup [.str r.1, .int r.2]):=ah
   have Eb:=g4 _ _ hl
   have hno:∀{b:Addr},upd H3 pp (.tup [.str r.1, .int r.2]) b=none->H b=none:=fun {b} e=>by
    have e1:=l9 hd2 (gg.free e)
    exact Ie.free e1
   have ha4:upd H3 pp (.tup [.str r.1, .int r.2]) A.a=some (.ins T.hold A.dx (iS A)):=Xg h2.oa (fun k z=>by cases z)
   show yX K 2 _ _ _ (upd H3 pp (.tup [.str r.1, .int r.2])) _
   generalize upd H3 pp (.tup [.str r.1, .int r.2])=H4 at *
   refine ⟨pp,_,Z,cO.of Ig,Z,_,_,Z,_,_,Z,Z,?_⟩
   refine ⟨_,Z,A.a,T.hold,A.dx,_,_,Z,ha4,X.cH,X.hab,Z,_,Z,A.ab,_,Z,by rw [<-BA];exact hv▸dR.k (k:=Sum.inr p.nm) hab,?_⟩
   have zs:Jm.Sz 8000 p.sc:=Jm.Sz.m9 (by have:=wf.p8 p eW;have:=wf.fB;omega) (wf.p8 p eW).2 wf.big
   refine ⟨_,Z,_,Z,qq.1,T.part,qq.2.1,_,_,Z,hq1,X.cP,X.Gy,Z,_,_,Z,Z,i8 zr zs,?_⟩
   have W0:p.row.length=st.bq.length:=by rw [wf.rows p eW,wf.fK]
   generalize eS:(rs.take i).foldl (iT st) (st.bq.map fun c=>bu rs*c)=S at *
   refine ⟨_,Z,_,Z,qq.1,T.part,qq.2.1,_,_,Z,hq1,X.cP,X.K2,Z,_,_,_,_,_,_,Z, .lst (aF.of Eb), .lst (aF.of hq2),fun acc hacc=>?_⟩
   refine uI (K:=K) (n:=S.length) [0,1] (fun j out H5=>aO H4 H5/\out=(List.zipWith (fun old own=>old+(r.2*p.sc)*own) (S.take j) (p.row.take j)).map V.int) (by decide) (by omega) ⟨aE hacc _,Z⟩ (fun j out H5 hj _ hp=>⟨aF.of (hp.1 _ _ Eb),aF.of (hp.1 _ _ hq2),by rw [aC];exact hj,by rw [aC];omega⟩)
    (fun out H5 _ hp=>⟨aF.of (hp.1 _ _ Eb),aF.of (hp.1 _ _ hq2), .inl (by rw [aC];exact aK _)⟩) ?_ ?_
   . rintro j x out H5 H6 hj M_ ha2 ⟨g5,e5⟩ ⟨p2,x1,y1,hp2,rfl,rfl,e1,e2⟩
     obtain ⟨t,rfl,et⟩:=fm e1
     obtain ⟨c,rfl,ec⟩:=fm e2
     have g6:=aE hp2 (.tup [.int t, .int c])
     have zw:Jm.Sz 8000 c:=Jm.Sz.m9 (wf.l7 p eW c (bR ec)).1 (wf.l7 p eW c (bR ec)).2 wf.big
     refine ⟨p2,_,Z,cO.of ah,Z,_,Z,_,Z,_,Z,_,_,Z,Z,i8 (zr.mul zs) zw,_,_,Z,Z,g6 _ _ ha2,(g5.trans g6).cY hacc _,?_⟩
     rw [qa _ et ec,e5,bQ]
     rfl
   rintro out H5 M_ ha2 ⟨g5,e5⟩
   rw [ee,hsl,<-W0,ee] at e5
   have eN:(rs.take (i+1)).foldl (iT st) (st.bq.map fun c=>bu rs*c)=List.zipWith (fun old own=>old+(r.2*p.sc)*own) S p.row:=by
    rw [take_snoc er,Cd,eS]
    show iT st S r=_
    unfold iT
    rw [epg]
   refine ⟨gg.trans g5,acc,_,_,_,_,Z,hno hacc,?_,?_⟩
   . rw [eN,ha2,e5]
   . rw [eN,jY];omega
 rintro σ H3 ⟨g,l,s4,s5,s6,s7,rfl,AH,hl,hsl⟩
 rw [al,ee] at hl
 refine ⟨g _ _ ah,_,Z,?_⟩
 have nl:l≠d:=fun e=>by rw [e,hd] at AH;cases AH
 exact q l _ (Ie.trans (rN hd2 g)) AH (by rw [av nl];exact hl)
abbrev oW:Stmt:=inClass (top 21) 23
abbrev jA:List Str:=["self","name","amount"]
abbrev Eu:List Str:=jA.append ["part"]
theorem uU:aM Eu jA (aB oW):=dI
theorem CM {T:TC} (F:gh K T.hold "lessen" "Hold.lessen" oW f fd) (X:Txt K T):Mn P w K mg base 1 T.hold "lessen" jA (GQ T):=by
 refine F.oA uU fun cdv A outer s H vs Q E hr h=>?_
 obtain ⟨⟨n,ρ,A,st,r,rfl,hh,⟨p,eW,BA,hle⟩,wf',q⟩⟩:=h
 have h:=hh.h
 have nd:=hh.wf.cX
 refine ⟨_,(@cQ.h _ _ _ (aj (aR (i:=3) uU.nd (dM (c9 hr) (aH K (qv 0)) (qv 1)))
  (aj (nI K (qv 3) (qv 2) FT)
  (aq (jy (aN dw (aH K (qv 3)) ai (aW _)) (aq (Li (aH K (qv 0)) (qv 1))) br))))),?_⟩
 obtain ⟨ip,Ea,Pe⟩:=wL eW
 have ep:st.ak[ip]?=some p:=by rw [bB Ea,Pe]
 obtain ⟨qq,eq,k1,k2,k3,k4⟩:=h.find ep
 have hv:=qX nd ep eq
 refine ⟨_,Z,A.a,T.hold,A.dx,_,_,Z,h.oa,X.cH,X.hab,Z,_,Z,A.ab,_,Z,by rw [<-BA];exact hv▸dR.k (k:=Sum.inr p.nm) h.dG,?_⟩
 refine ⟨_,Z,qq.1,T.part,qq.2.1,_,_,Z,k1,X.cP,X.tF,Z,_,Z,_,_,Z,Z,qq.2.1,_,k1,by show 6<1000;decide,?_⟩
 have h1:=h.ir (p1:={ p with wo:=p.wo-r.2 }) hh.g ep eq rfl rfl nd
 have g1:=hh.g.wr (a:=qq.1) (o:= .ins T.part qq.2.1 (cJ { p with wo:=p.wo-r.2 } qq.2.2)) rfl
 have F1:Fr n ρ H ρ (upd H qq.1 (.ins T.part qq.2.1 (cJ { p with wo:=p.wo-r.2 } qq.2.2))):=Fr.write k3
 show VH _ _ _ _ _ (upd H qq.1 (.ins T.part qq.2.1 (cJ { p with wo:=p.wo-r.2 } qq.2.2)))
 have Lz:upd H qq.1 (.ins T.part qq.2.1 (cJ { p with wo:=p.wo-r.2 } qq.2.2)) qq.1=some (.ins T.part qq.2.1 (cJ { p with wo:=p.wo-r.2 } qq.2.2)):=ah
 generalize upd H qq.1 (.ins T.part qq.2.1 (cJ { p with wo:=p.wo-r.2 } qq.2.2))=H1 at *
 have el:dz st r={ st with ak:=if p.wo-r.2=0 then st.ak.eraseIdx ip else st.ak.set ip { p with wo:=p.wo-r.2 } }:=by
  unfold dz
  rw [<-BA,zj nd (fun x hx=>by have:=hh.wf.jR x hx;omega) ep]
 rw [el] at wf' q
 refine ⟨fun σ' H'=>Q .bL H',?_,fun _ _ z=>z⟩
 refine ⟨_,Z,qq.1,T.part,qq.2.1,_,_,Z,Lz,X.cP,X.tF,Z,Z,_,Z,aI (fun c=>?_) (fun c=>?_)⟩
 . have c':p.wo-r.2=0:=V.int.inj (aV c)
   rw [aA c'] at wf' q
   have ZY:((st.ak.set ip { p with wo:=p.wo-r.2 }).map (fun x:Pt=>x.nm)).Nodup:=by
    rw [qQ,show ({ p with wo:=p.wo-r.2 }:Pt).nm=p.nm from rfl,qc (by rw [b_,ep];rfl)]
    exact nd
   have ZZ:(st.ak.set ip { p with wo:=p.wo-r.2 })[ip]?=some { p with wo:=p.wo-r.2 }:=ou Ea
   have dk:=zh ZY h1.ql ZZ
   rw [List.eraseIdx_set_eq] at dk
   have hv1:=qX ZY ZZ eq
   refine ⟨_,Z,A.a,T.hold,A.dx,_,_,Z,h1.oa,X.cH,X.hab,Z,_,Z,A.ab,_,Sum.inr r.1,Z,h1.dG,Z,?_,?_⟩
   . rw [<-BA]
     show (c5 (b7 (st.ak.set ip { p with wo:=p.wo-r.2 }) A.qs) (Sum.inr p.nm)).isSome=true
     rw [show c5 (b7 (st.ak.set ip { p with wo:=p.wo-r.2 }) A.qs) (Sum.inr p.nm)=_ from hv1]
     rfl
   . show Q .bL (upd H1 A.ab (.dK (kH (b7 (st.ak.set ip { p with wo:=p.wo-r.2 }) A.qs) (Sum.inr r.1))))
     rw [<-BA,show kH (b7 (st.ak.set ip { p with wo:=p.wo-r.2 }) A.qs) (Sum.inr p.nm)=_ from dk]
     have hi2:ip<A.qs.length:=by rw [h.ql];exact Ea
     have h2:=h1.Gx g1 (st.ak.eraseIdx ip) (A.qs.eraseIdx ip) (by rw [LI Ea,LI hi2,h.ql]) (fun j x y ex ey=>by
      rw [<-List.eraseIdx_set_eq (l:=st.ak) (i:=ip) (a:={ p with wo:=p.wo-r.2 })] at ex
      obtain ⟨k,a1,a2⟩:=xr ex ey
      exact h1.opt k x y a1 a2)
     exact q ρ _ _ ⟨g1.wr rfl,h2,wf'⟩ rfl (F1.trans (Fr.write h1.fC))
 . have c':¬ p.wo-r.2=0:=fun e=>c (aX (by rw [e]))
   rw [az c'] at wf' q
   exact q ρ A H1 ⟨g1,h1,wf'⟩ rfl F1
abbrev qD:Stmt:=inClass (top 21) 28
abbrev kq:List Str:=["self","kept","whole","added"]
abbrev Ih:List Str:=kq.append ["scales","common","shared","part","scale"]
theorem iD:aM Ih kq (aB qD):=dI
theorem Ew {T:TC} (F:gh K T.hold "blend" "Hold.blend" qD f fd) (X:Txt K T) (nP:Dn P w K mg base 2 "factor_of_all" jU (ON K)) (qE:Mn P w K mg base 1 T.bot "grow" lN (OO T)) (gM:mg "zip"=none):Mn P w K mg base 3 T.hold "blend" kq (Cw T K):=by
 refine F.oA iD fun cdv A outer s H vs Q E hr h=>?_
 obtain ⟨⟨n,ρ,A,st,kept,whole,la,added,rfl,hh,hla,hal,k0,w0,kz,wz,haz,Xh,hsl,wf',q⟩⟩:=h
 refine ⟨_,(@cQ.h _ _ _ (aj (uO (uN (i:=4) ["part","kept"] [none,some 1] iD.nd rfl rfl rfl (yq (aH K (qv 0))) (fun _ _ _ _=>(aT (i:=0) (show List.Nodup (["part","kept"] :List Str) from by decide +kernel))) (fun _ _ _ _=>(aG jE (aH K (qv 0)) (qv 1))) rfl (by rfl) (by rfl)))
  (aj (uN (i:=5) ["top","more","kept"] [none,none,some 1] iD.nd rfl rfl rfl (oO K (by rfl) gM (af (aH K (qv 0)) (af (qv 3) ao))) (fun _ _ _ _=>(gk K (n:=2) rfl (bP (aT (i:=0) (show List.Nodup (["top","more","kept"] :List Str) from by decide +kernel)) (bP (aT (i:=1) (show List.Nodup (["top","more","kept"] :List Str) from by decide +kernel)) gj)))) (fun _ _ _ _=>(aG b9 (aG jE (qv 0) (qv 2)) (qv 1))) rfl (by rfl) (by rfl))
  (aj (aR (i:=6) iD.nd (bM nP hr (af (qv 2) (af (aG Vz (qv 4) (qv 5)) ao))))
  (aj (uO (eO fu rfl (oO K (by rfl) gM (af (Cz (aH K (qv 0))) (af (qv 4) ao))) (gk K (n:=2) rfl (bP (aT (i:=7) iD.nd) (bP (aT (i:=8) iD.nd) gj))) (aq (cZ K (qv 7) (aG gZ (qv 8) (qv 6))))))
  (aj (cZ K (qv 0) (i_ ["top","shared"] [none,some 6] rfl (dY K (qv 5)) (fun _ _ _ _=>(aT (i:=0) (show List.Nodup (["top","shared"] :List Str) from by decide +kernel))) (fun _ _ _ _=>(aG gZ (qv 0) (qv 1))) rfl (by rfl)))
  (aj (cZ K (qv 0) (i_ ["purse","whole","shared"] [none,some 2,some 6] rfl (dY K (aH K (qv 0))) (fun _ _ _ _=>(aT (i:=0) (show List.Nodup (["purse","whole","shared"] :List Str) from by decide +kernel))) (fun _ _ _ _=>(aG jE (qv 0) (aG gZ (qv 1) (qv 2)))) rfl (by rfl)))
  (aq (bY (cI qE hr (aH K (qv 0)) (af (aG gZ (qv 2) (qv 6)) ao))))))))))),?_⟩
 have hpl:=hh.wf.nj
 have nd:=hh.wf.cX
 have hcl:st.bq.length<=100:=by rw [hh.wf.fK];exact hh.wf.jk
 have zsc:∀p∈st.ak,Jm.Sz 8000 p.sc:=fun p hp=>Jm.Sz.m9 (by have:=hh.wf.p8 p hp;have:=hh.wf.fB;omega) (hh.wf.p8 p hp).2 hh.wf.big
 have zcm:∀c∈st.bq,Jm.Sz 8000 c:=fun c hc=>Jm.Sz.m9 (by have:=hh.wf.lZ c hc;have:=hh.wf.fB;omega) (hh.wf.lZ c hc).2 hh.wf.big
 have h:=hh.h
 refine ⟨A.ab,_,h.dG,fun ob=>?_⟩
 refine ⟨_,Z,A.a,T.hold,A.dx,_,_,Z,dX h.dG h.oa (fun k z=>by cases z),X.cH,X.hab,Z,A.ab,ob,_,Z,ah,fun l1 hl1=>?_⟩
 have el:=uK h.ql
 refine ng (n:=st.ak.length) 0 (fun i out H1=>aO (upd H A.ab (.fk ob (.dK (b7 st.ak A.qs)))) H1/\out=((st.ak.take i).map fun p:Pt=>p.sc*kept).map V.int) (by omega) ⟨aE hl1 _,Z⟩ (fun i out H1 hi _ hp=>⟨hp.1 _ _ ah,by rw [el];exact hi⟩) (fun out H1 _ hp=>⟨hp.1 _ _ ah,by rw [el];exact aK _⟩) ?_ ?_
 . rintro i x out H1 H2 hi fD ha ⟨g,e⟩ ⟨rfl,kv,hkv,rfl⟩
   have ep:=bB hi
   obtain ⟨qq,eq,k1,k2,_⟩:=h.find ep
   rw [uJ ep eq] at hkv
   cases hkv
   have hq:=g _ _ (dX h.dG k1 (fun k z=>by cases z))
   refine ⟨_,Z,qq.1,T.part,qq.2.1,_,_,Z,hq,X.cP,X.Gy,Z,_,Z,_,_,Z,Z,i8 (zsc _ (Ce hi)) kz,ha,g.cY hl1 _,?_⟩
   subst e
   rw [take_snoc ep,bQ,bQ]
   rfl
 rintro o1 H1 ad8 ha1 ⟨g1,e1⟩
 rw [ee] at e1
 have hz1:=g1 _ _ (ah (H:=H) (a:=A.ab) (o:= .fk ob (.dK (b7 st.ak A.qs))))
 have na1:l1≠A.ab:=fun e=>by rw [e,hz1] at ha1;cases ha1
 refine ⟨hz1,?_⟩
 have s2:aO H (upd H1 A.ab (.dK (b7 st.ak A.qs))):=rN h.dG g1
 have ad9:H l1=none:=l9 h.dG hl1
 have ha2:upd H1 A.ab (.dK (b7 st.ak A.qs)) l1=some (.lst ((gR st kept).map V.int)):=by rw [av na1,ha1,e1];rfl
 generalize upd H1 A.ab (.dK (b7 st.ak A.qs))=H2 at *
 clear g1 hz1 ha1 e1
 have h2:=h.mono s2
 have Na:=s2.seq hla
 refine ⟨_,Z,A.a,T.hold,A.dx,_,_,Z,h2.oa,X.cH,X.yL,Z,_,Z,_,_,_,_,_,_,Z, .lst (aF.of h2.iI), .lst Na,fun l2 hl2=>?_⟩
 refine uI (K:=K) (n:=st.bq.length) [0,1] (fun i out H3=>aO H2 H3/\out=(List.zipWith (fun t m=>t*kept+m) (st.bq.take i) (added.take i)).map V.int) (by decide) (by omega) ⟨aE hl2 _,Z⟩ (fun i out H3 hi _ hp=>⟨aF.of (hp.1 _ _ h2.iI),hp.1.seq Na,by rw [aC];exact hi,by rw [aC];omega⟩)
  (fun out H3 _ hp=>⟨aF.of (hp.1 _ _ h2.iI),hp.1.seq Na, .inl (by rw [aC];exact aK _)⟩) ?_ ?_
 . rintro i x out H3 H4 hi fD ha ⟨g,e⟩ ⟨p,x1,y1,hp,rfl,rfl,e1,e2⟩
   obtain ⟨t,rfl,et⟩:=fm e1
   obtain ⟨c,rfl,ec⟩:=fm e2
   have g1:=aE hp (.tup [.int t, .int c])
   refine ⟨p,_,Z,cO.of ah,Z,_,Z,_,Z,_,_,Z,Z,i8 (zcm t (bR et)) kz,_,Z,_,_,Z,Z,g1 _ _ ha,(g.trans g1).cY hl2 _,?_⟩
   rw [qa _ et ec,e,bQ]
   rfl
 rintro o2 H3 M_ Xi ⟨g3,e3⟩
 rw [ee,<-hal,ee] at e3
 have ec3:o2=(eZ st kept added).map V.int:=e3
 subst ec3
 have s3:=s2.trans g3
 have h3:=h.mono s3
 have Ru:=g3 _ _ ha2
 have ad_:H l2=none:=s2.free hl2
 have n12:l1≠l2:=fun e=>by rw [e,hl2] at ha2;cases ha2
 clear e3 h2 Na g3 ha2 s2
 have Z0:(gR st kept).length=st.ak.length:=by unfold gR;rw [aC]
 have lcm:(eZ st kept added).length=st.bq.length:=by unfold eZ;rw [jY,hal,u7]
 refine ⟨_,Z,_,Z,_,Z,l1,l2,_,_,Z,Z,Ru,Xi,by rw [aC,aC,Z0,lcm];exact fH (Nat.add_le_add hpl hcl) (by rw [ji];decide),fun p3 hp3=>?_⟩
 rw [<-bQ]
 have g4:=aE hp3 (.lst ((gR st kept++eZ st kept added).map V.int))
 refine ⟨⟨whole,p3,_,Z,aF.of ah,by omega,?_,?_⟩⟩
 . intro t ht
   rcases fZ.mp ht with z|z
   . unfold gR at z
     obtain ⟨p,hp,rfl⟩:=bJ.mp z
     exact lE (by have:=hh.wf.p8 p hp;omega) (by omega)
   . obtain ⟨c,hc,m,hm,rfl⟩:=rO (show t∈List.zipWith _ st.bq added from z)
     have a1:=lE (hh.wf.lZ c hc).1 (by omega:0<=kept)
     have a2:=(haz m hm).1
     omega
 have s4:=s3.trans g4
 have h4:=h.mono s4
 have G4:=hh.g.same s4
 have F4:Fr n ρ H ρ (upd H3 p3 (.lst ((gR st kept++eZ st kept added).map V.int))):=Fr.of_same s4
 have b1:=g4 _ _ Ru
 have b2:=g4 _ _ Xi
 generalize upd H3 p3 (.lst ((gR st kept++eZ st kept added).map V.int))=H4 at *
 clear Ru Xi s3 h3 g4
 obtain ⟨sd,Sm⟩:∃sd,sd=cC st kept whole added:=⟨_,rfl⟩
 rw [show ny whole (gR st kept++eZ st kept added)=sd from Sm.symm]
 have sp:0<sd:=by rw [Sm];exact xw _ _ w0
 have OX:sd∣whole:=by rw [Sm];exact (xu _ _).1
 have sz:Jm.Sz 60 sd:=wz.dvd w0 (by omega) OX
 have wq:0<whole / sd:=Int.ediv_pos_of_pos_of_dvd w0 (by omega) OX
 have Z1:Jm.Sz 60 (whole / sd):=wz.ediv sp
 have Sn:∀{i:Int},Ax i sd:=fun {i}=>vg sp (sz.mono (by decide))
 refine ⟨A.ab,_,h4.dG,fun Pf=>?_⟩
 refine ⟨_,Z,A.a,T.hold,A.dx,_,_,Z,dX h4.dG h4.oa (fun k z=>by cases z),X.cH,X.hab,Z,A.ab,_,Z, .inr ⟨Pf,ah⟩,fun v hv=>?_⟩
 have nva:v≠A.ab:=fun e=>by rw [e,ah] at hv;cases hv
 have hv4:H4 v=none:=l9 h4.dG hv
 have g5:=aE hv4 (jO v A.ab)
 have Z2:upd H4 v (jO v A.ab) v=some (jO v A.ab):=ah
 rw [jm (cD nva)]
 have h5:=h4.mono g5
 have G5:=G4.same g5
 have F5:=F4.trans (Fr.of_same (ρ:=ρ) g5)
 have s5:=s4.trans g5
 have c1:=g5 _ _ b1
 have c2:=g5 _ _ b2
 generalize upd H4 v (jO v A.ab)=H5 at *
 clear h4 G4 F4 s4 b1 b2 g5
 refine ⟨_,Z,_,_,_,_,_,_,Z, .vals (dX h5.dG Z2 (fun k z=>by cases z)) ah, .lst (aF.of (dX h5.dG c1 (fun k z=>by cases z))),?_⟩
 have Z3:((b7 st.ak A.qs).map fun p=>p.2).length=st.ak.length:=by rw [aC];exact el
 have eyl:((gR st kept).map V.int).length=st.ak.length:=by rw [aC];exact Z0
 refine rJ (n:=st.ak.length) (fun i σ H'=>(∃s7 s8,σ=[some (.ref A.a),some (.int kept),some (.int whole),some (.ref la),some (.ref l1),some (.ref l2),some (.int sd),s7,s8])/\∃H6,H'=upd H6 A.ab (.fk Pf (.dK (b7 st.ak A.qs)))/\Gh ρ H6/\Fr n ρ H ρ H6/\aL T n ρ A H6 { st with ak:=(st.ak.take i).map (fun p=>{ p with sc:=p.sc*kept / sd })++st.ak.drop i }/\H6 l1=some (.lst ((gR st kept).map V.int))/\H6 l2=some (.lst ((eZ st kept added).map V.int))/\(∀b,H6 b=none->H b=none))
  ⟨⟨_,_,Z⟩,H5,Z,G5,F5,h5,c1,c2,fun b e=>s5.free e⟩ ?_ ?_ ?_ ?_
 . rintro i σ H' hi ⟨_,H6,rfl,G6,F6,h6,d1,d2,fr⟩
   have e6:b7 ({ st with ak:=(st.ak.take i).map (fun p:Pt=>{ p with sc:=p.sc*kept / sd })++st.ak.drop i }:HS).ak A.qs=b7 st.ak A.qs:=mO (oK (fun p:Pt=>{ p with sc:=p.sc*kept / sd }) (fun p:Pt=>p.nm) (fun _=>rfl) st.ak i)
   have oX:=h6.dG
   rw [e6] at oX
   exact ⟨ah,aF.of (dX oX d1 (fun k z=>by cases z)),by rw [Z3];exact hi,by rw [eyl];exact hi⟩
 . rintro σ H' ⟨_,H6,rfl,G6,F6,h6,d1,d2,fr⟩
   have e6:b7 ({ st with ak:=(st.ak.take st.ak.length).map (fun p:Pt=>{ p with sc:=p.sc*kept / sd })++st.ak.drop st.ak.length }:HS).ak A.qs=b7 st.ak A.qs:=mO (oK (fun p:Pt=>{ p with sc:=p.sc*kept / sd }) (fun p:Pt=>p.nm) (fun _=>rfl) st.ak _)
   have oX:=h6.dG
   rw [e6] at oX
   exact ⟨ah,aF.of (dX oX d1 (fun k z=>by cases z)), .inl (by rw [Z3];exact aK _)⟩
 . rintro i x σ H' A_ hi ⟨⟨s7,s8,rfl⟩,H6,rfl,G6,F6,h6,d1,d2,fr⟩ ⟨pp,x1,y1,hpp,rfl,rfl,ex,ey⟩
   have ep:=bB hi
   have Z4:=GK (fun p:Pt=>{ p with sc:=p.sc*kept / sd }) ep
   obtain ⟨qq,eq,k1,k2,k3,k4⟩:=h6.find Z4
   have Z5:=oK (fun p:Pt=>{ p with sc:=p.sc*kept / sd }) (fun p:Pt=>p.nm) (fun _=>rfl) st.ak i
   have e6:b7 ({ st with ak:=(st.ak.take i).map (fun p:Pt=>{ p with sc:=p.sc*kept / sd })++st.ak.drop i }:HS).ak A.qs=b7 st.ak A.qs:=mO Z5
   have oX:=h6.dG
   rw [e6] at oX
   rw [b_,uJ ep eq] at ex
   cases ex
   obtain ⟨sc,rfl,Xj⟩:=fm ey
   have abE:sc=(st.ak[i]).sc*kept:=by
    unfold gR at Xj
    rw [b_,ep] at Xj
    exact (eV Xj).symm
   subst abE
   have npa:pp≠A.ab:=fun e=>by rw [e,ah] at hpp;cases hpp
   have abF:H6 pp=none:=l9 oX hpp
   have g7:=aE abF (.tup [.ref qq.1, .int ((st.ak[i]).sc*kept)])
   rw [jm (cD npa)]
   have Ig:upd H6 pp (.tup [.ref qq.1, .int ((st.ak[i]).sc*kept)]) pp=some (.tup [.ref qq.1, .int ((st.ak[i]).sc*kept)]):=ah
   have h7:=h6.mono g7
   have G7:=G6.same g7
   have F7:=F6.trans (Fr.of_same (ρ:=ρ) g7)
   have Rv:=g7 _ _ oX
   have f1:=g7 _ _ d1
   have f2:=g7 _ _ d2
   have Of:∀b,upd H6 pp (.tup [.ref qq.1, .int ((st.ak[i]).sc*kept)]) b=none->H b=none:=fun b e=>fr b (g7.free e)
   have Lz:=g7 _ _ k1
   generalize upd H6 pp (.tup [.ref qq.1, .int ((st.ak[i]).sc*kept)])=H7 at *
   refine ⟨pp,_,Z,cO.of (dX Rv Ig (fun k z=>by cases z)),Z,_,_,Z,_,_,Z,Z,?_⟩
   refine ⟨_,Z,_,Z,_,_,Z,Z,Sn,_,Z,qq.1,T.part,qq.2.1,_,Z,dX Rv Lz (fun k z=>by cases z),X.cP,X.Gy,by show 6<1000;decide,?_⟩
   have nd7:(((st.ak.take i).map (fun p:Pt=>{ p with sc:=p.sc*kept / sd })++st.ak.drop i).map (fun p:Pt=>p.nm)).Nodup:=by rw [Z5];exact nd
   have h8:=h7.ir (p1:={ st.ak[i] with sc:=(st.ak[i]).sc*kept / sd }) G7 Z4 eq rfl rfl nd7
   rw [show ({ st with ak:=(st.ak.take i).map (fun p:Pt=>{ p with sc:=p.sc*kept / sd })++st.ak.drop i }:HS).ak.set i { st.ak[i] with sc:=(st.ak[i]).sc*kept / sd }=_ from GL (fun p:Pt=>{ p with sc:=p.sc*kept / sd }) ep] at h8
   have nqa:A.ab≠qq.1:=(iz Lz Rv (by intro z;cases z)).symm
   have nq1:l1≠qq.1:=iz f1 Lz (by intro z;cases z)
   have nq2:l2≠qq.1:=iz f2 Lz (by intro z;cases z)
   refine ⟨⟨_,_,Z⟩,_,jm nqa,G7.wr rfl,F7.trans (Fr.write k3),h8,by rw [av nq1];exact f1,by rw [av nq2];exact f2,fun b e=>Of b ?_⟩
   by_cases z:b=qq.1
   . rw [z,ah] at e;cases e
   . rw [av z] at e;exact e
 rintro σ H' ⟨⟨s7,s8,rfl⟩,H6,rfl,G6,F6,h6,d1,d2,fr⟩
 have e6:b7 ({ st with ak:=(st.ak.take st.ak.length).map (fun p:Pt=>{ p with sc:=p.sc*kept / sd })++st.ak.drop st.ak.length }:HS).ak A.qs=b7 st.ak A.qs:=mO (oK (fun p:Pt=>{ p with sc:=p.sc*kept / sd }) (fun p:Pt=>p.nm) (fun _=>rfl) st.ak _)
 have oX:=h6.dG
 rw [e6] at oX
 refine ⟨ah,?_⟩
 rw [mG,vz oX]
 rw [show ({ st with ak:=(st.ak.take st.ak.length).map (fun p:Pt=>{ p with sc:=p.sc*kept / sd })++st.ak.drop st.ak.length }:HS)={ st with ak:=st.ak.map fun p:Pt=>{ p with sc:=p.sc*kept / sd } } from by rw [ee,List.drop_length,zZ]] at h6
 clear e6 oX h5 G5 F5 s5 c1 c2 Z2
 refine ⟨_,Z,l2,Z,⟨_,aF.of d2⟩,fun l3 hl3=>?_⟩
 refine ng (J:=Ai K l2) (n:=((eZ st kept added).map V.int).length) 0 (fun i o H'=>aO H6 H'/\o=(((eZ st kept added).take i).map (· / sd)).map V.int) (by rw [aC];omega) ⟨aE hl3 _,Z⟩ (fun i o H' hi _ hp=>⟨_,_,aF.of (hp.1 _ _ d2),bB hi⟩) (fun o H' _ hp=>⟨_,aF.of (hp.1 _ _ d2),aK _⟩) ?_ ?_
 . rintro i y o Ha Hb hi fD ha ⟨g,e⟩ ⟨rfl,hy⟩
   obtain ⟨c,rfl,ec⟩:=fm (hy _ (aF.of (g _ _ d2)))
   refine ⟨_,Z,_,Z,_,_,Z,Z,Sn,ha,g.cY hl3 _,?_⟩
   subst e
   rw [take_snoc ec,bQ,bQ]
   rfl
 rintro o3 H8 aea Ii ⟨g8,e8⟩
 rw [aC,ee] at e8
 subst e8
 have h8:=h6.mono g8
 have G8:=G6.same g8
 have F8:=F6.trans (Fr.of_same (ρ:=ρ) g8)
 have Z6:∀b,H8 b=none->H b=none:=fun b e=>fr b (g8.free e)
 have c3:ρ l3=none:=G6.none hl3
 have n3:H l3=none:=fr l3 hl3
 refine ⟨_,Z,A.a,T.hold,A.dx,_,Z,h8.oa,X.cH,X.yL,by show 7<1000;decide,?_⟩
 obtain ⟨h9,G9⟩:=xx (t:=6) h8 G8 c3 Ii rfl
 have F9:Fr n ρ H (cE ρ l3 (n,6,⟨#[]⟩)) H8:=F8.l_ n3
 have wC:=h9.V_ G9 l3 _ Ii c6
 have Z7:=G9.wr (a:=A.a) (o:= .ins T.hold A.dx (iS { A with cm:=l3 })) rfl
 have Pg:=F9.trans (Fr.write (o:= .ins T.hold A.dx (iS { A with cm:=l3 })) h9.ca)
 show rC _ _ _ _ (upd H8 A.a (.ins T.hold A.dx (iS { A with cm:=l3 })))
 have abG:∀b,upd H8 A.a (.ins T.hold A.dx (iS { A with cm:=l3 })) b=none->H b=none:=fun b e=>Z6 b (by
  by_cases z:b=A.a
  . rw [z,ah] at e;cases e
  . rw [av z] at e;exact e)
 generalize upd H8 A.a (.ins T.hold A.dx (iS { A with cm:=l3 }))=AG at *
 clear h6 G6 F6 h8 G8 F8 h9 G9 F9 Ii g8 Z6 fr d1 d2
 refine ⟨_,Z,A.a,T.hold,A.dx,_,_,Z,wC.oa,X.cH,X.AV,Z,A.pu,Z,⟨_,aF.of wC.j7⟩,fun l4 Eb=>?_⟩
 have aeb:st.bO.length<=100:=by rw [hh.wf.oJ];exact hh.wf.jk
 refine ng (J:=Ai K A.pu) (n:=(st.bO.map V.int).length) 0 (fun i o H'=>aO AG H'/\o=((st.bO.take i).map (·*(whole / sd))).map V.int) (by rw [aC];omega) ⟨aE Eb _,Z⟩ (fun i o H' hi _ hp=>⟨_,_,aF.of (hp.1 _ _ wC.j7),bB hi⟩) (fun o H' _ hp=>⟨_,aF.of (hp.1 _ _ wC.j7),aK _⟩) ?_ ?_
 . rintro i y o Ha Hb hi fD ha ⟨g,e⟩ ⟨rfl,hy⟩
   obtain ⟨c,rfl,ec⟩:=fm (hy _ (aF.of (g _ _ wC.j7)))
   refine ⟨_,Z,_,Z,_,Z,_,_,Z,Z,Sn,_,_,Z,Z,i8 (Xh c (bR ec)) Z1,ha,g.cY Eb _,?_⟩
   subst e
   rw [take_snoc ec,bQ,bQ]
   rfl
 rintro o4 Ph aec Xk ⟨BB,Z8⟩
 rw [aC,ee] at Z8
 subst Z8
 have h11:=wC.mono BB
 have G11:=Z7.same BB
 have So:=Pg.trans (Fr.of_same (ρ:=cE ρ l3 (n,6,⟨#[]⟩)) BB)
 have c4:cE ρ l3 (n,6,⟨#[]⟩) l4=none:=Z7.none Eb
 have n4:H l4=none:=abG l4 Eb
 refine ⟨_,Z,A.a,T.hold,A.dx,_,Z,h11.oa,X.cH,X.AV,by show 7<1000;decide,?_⟩
 obtain ⟨h12,Z9⟩:=xx (t:=7) h11 G11 c4 Xk rfl
 have F12:Fr n ρ H (cE (cE ρ l3 (n,6,⟨#[]⟩)) l4 (n,7,⟨#[]⟩)) Ph:=So.l_ n4
 have Xl:=h12.OD Z9 l4 _ Xk c6
 have G13:=Z9.wr (a:=A.a) (o:= .ins T.hold A.dx (iS { { A with cm:=l3 } with pu:=l4 })) rfl
 have Xm:=F12.trans (Fr.write (o:= .ins T.hold A.dx (iS { { A with cm:=l3 } with pu:=l4 })) h12.ca)
 rw [show aQ "purses" (V.ref l4) (iS { A with cm:=l3 })=iS { { A with cm:=l3 } with pu:=l4 } from rfl]
 generalize upd Ph A.a (.ins T.hold A.dx (iS { { A with cm:=l3 } with pu:=l4 }))=Xb at *
 refine ⟨_,Z,A.a,T.hold,A.dx,_,_,Z,Xl.oa,X.cH,X.xm,Z,A.bt,A.db,_,Z,Xl.jQ,Z,_,Z,_,Z,_,_,Z,Z,Sn,?_⟩
 refine ⟨⟨n,_,{ { A with cm:=l3 } with pu:=l4 },{ st with ak:=st.ak.map (fun p:Pt=>{ p with sc:=p.sc*kept / sd }),bq:=(eZ st kept added).map (· / sd),bO:=st.bO.map (·*(whole / sd)) },whole / sd,Z,G13,Xl,by show st.stp.length<=1000;omega,hh.wf.big.mono (by decide),Z1.mono (by decide),fun ρ' A' H' a1 a2 a3 a4=>?_⟩⟩
 have eb:a_ st kept whole added=dJ { st with ak:=st.ak.map (fun p:Pt=>{ p with sc:=p.sc*kept / sd }),bq:=(eZ st kept added).map (· / sd),bO:=st.bO.map (·*(whole / sd)) } (whole / sd):=by
  unfold a_
  rw [Sm]
 rw [eb] at wf' q
 exact q ρ' A' H' ⟨a1,a2,wf'⟩ a3 (Xm.trans a4)
abbrev r_:Stmt:=inClass (top 21) 3
abbrev pK:List Str:=["self","rows"]
abbrev JI:List Str:=pK.append ["amounts","name","amount","whole","lost"]
theorem gf:aM JI pK (aB r_):=dI
theorem Ij {T:TC} (F:gh K T.hold "cast" "Hold.cast" r_ f fd) (X:Txt K T) (se:Dn P w K mg base 1 "amounts_of" nK (OM K)) (sf:Dn P w K mg base 2 "check_loss" kj R8) (gW:Mn P w K mg base 1 T.hold "part_of" dN (zf T)) (jf:Mn P w K mg base 1 T.hold "whole" ko (Ct T)) (jg:Mn P w K mg base 3 T.hold "blend" kq (Cw T K)) (nQ:Mn P w K mg base 1 T.hold "given_up" jV (Lc T)) (iE:Mn P w K mg base 1 T.hold "lessen" jA (GQ T)) (jv:mg "sum"=none):Mn P w K mg base 4 T.hold "cast" pK (OP T K):=by
 refine F.oA gf fun cdv A outer s H vs Q E hr h=>?_
 obtain ⟨⟨n,ρ,A,st,l,us,rs,rfl,hh,hl,hR,ok,q⟩⟩:=h
 have wf:=hh.wf
 have nd:=ok.nd
 refine ⟨_,(@cQ.h _ _ _ (aj (aR (i:=2) gf.nd (bM se hr (af (qv 1) ao)))
  (aj (uO (eO fu rfl (zz (qv 2)) (gk K (n:=2) rfl (bP (aT (i:=3) gf.nd) (bP (aT (i:=4) gf.nd) gj))) (aq (bY (bM sf hr (af (aH K (cI gW hr (qv 0) (af (qv 3) ao))) (af (qv 4) ao)))))))
  (aj (aR (i:=5) gf.nd (yt jf hr (qv 0)))
  (aj (aR (i:=6) gf.nd (bD (DE rfl) (by rfl) jv Fw (af (Cz (qv 2)) ao)))
  (aj (bZ (aN Ff (qv 6) (qv 5) (aW _)) (aq oR) br)
  (aj (bY (cI jg hr (qv 0) (af (aG jZ (qv 5) (qv 6)) (af (qv 5) (af (cI nQ hr (qv 0) (af (qv 2) ao)) ao)))))
  (aq (uO (eO fu rfl (zz (qv 2)) (gk K (n:=2) rfl (bP (aT (i:=3) gf.nd) (bP (aT (i:=4) gf.nd) gj))) (aq (bY (cI iE hr (qv 0) (af (qv 3) (af (qv 4) ao))))))))))))))),?_⟩
 refine ⟨_,Z,⟨⟨l,us,rs,Z,hl,hR,nd,ok.ne,ok.len,fun d H1 g1 hdn hd1=>?_⟩⟩⟩
 have je:=hh.mono g1
 have F1:Fr n ρ H ρ H1:=Fr.of_same g1
 have cd:ρ d=none:=hh.g.none hdn
 have al:=vB rs
 refine ⟨d,_,hd1,fun ob=>⟨_,Z,d,ob,_,Z,ah,?_⟩⟩
 refine rJ (n:=(gc rs).length) (fun i σ H'=>aO (upd H1 d (.fk ob (.dK (gc rs)))) H'/\∃s3 s4 s5 s6,σ=[some (.ref A.a),some (.ref l),some (.ref d),s3,s4,s5,s6])
  ⟨aO.refl _,_,_,_,_,Z⟩ (fun i σ H' hi hp=>⟨hp.1 _ _ ah,hi⟩) (fun σ H' hp=>⟨hp.1 _ _ ah,aK _⟩) ?_ ?_
 . rintro i x σ H3 H4 hi ⟨g,s3,s4,s5,s6,rfl⟩ ⟨pp,kv,hpp,hkv,rfl,rfl⟩
   unfold gc at hkv
   rw [b_] at hkv
   obtain ⟨r,er,rfl⟩:=mU.mp hkv
   have hrm:=bR er
   obtain ⟨r1,zr,p,eW,BA,hle⟩:=ok.row r hrm
   obtain ⟨ip,Ea,Pe⟩:=wL eW
   have ep:st.ak[ip]?=some p:=by rw [bB Ea,Pe]
   have g4:=aE hpp (.tup [.str r.1, .int r.2])
   have gg:=g.trans g4
   have hf:HH T n ρ A (upd H1 d (.fk ob (.dK (gc rs)))) st:=je.A1 cd hd1 rfl rfl
   have h4:=hf.mono gg
   have Ig:upd H3 pp (.tup [.str r.1, .int r.2]) pp=some (.tup [.str r.1, .int r.2]):=ah
   show yX K 2 _ _ _ (upd H3 pp (.tup [.str r.1, .int r.2])) _
   generalize upd H3 pp (.tup [.str r.1, .int r.2])=H4 at *
   obtain ⟨qq,eq,k1,k2,_,_⟩:=h4.h.find ep
   refine ⟨pp,_,Z,cO.of Ig,Z,_,_,Z,_,_,Z,Z,?_⟩
   refine ⟨_,Z,A.a,A.dx,_,Z,h4.h.oa,Z,_,Z,⟨⟨n,ρ,A,st,ip,p,qq,by rw [<-BA];rfl,h4.h,wf.cX,ep,eq,?_⟩⟩⟩
   refine ⟨qq.1,T.part,qq.2.1,_,_,Z,k1,X.cP,X.tF,Z,_,Z,⟨⟨p.wo,r.2,Z,r1,hle,?_⟩⟩⟩
   exact ⟨gg,_,_,_,_,Z⟩
 rintro σ H2 ⟨g2,s3,s4,s5,s6,rfl⟩
 refine ⟨g2 _ _ ah,?_⟩
 have gB:=rN hd1 g2
 have mT:=je.mono gB
 have F2:Fr n ρ H ρ (upd H2 d (.dK (gc rs))):=F1.trans (Fr.of_same gB)
 have hd2:upd H2 d (.dK (gc rs)) d=some (.dK (gc rs)):=ah
 generalize upd H2 d (.dK (gc rs))=H2' at *
 refine ⟨_,Z,A.a,A.dx,_,Z,mT.h.oa,Z,⟨⟨n,ρ,A,st,Z,mT.h,wf.nj,fun H3 g3=>?_⟩⟩⟩
 have nO:=mT.mono g3
 have Ss:=g3 _ _ hd2
 have F3:=F2.trans (Fr.of_same (ρ:=ρ) g3)
 refine ⟨_,Z,d,_,Z, .inl Ss,fun v hv=>⟨v,d,_,rs.map (·.2),Z,ah, .inl (by rw [av (aD Ss hv)];exact Ss),by unfold gc;rw [iy,iy];rfl,?_⟩⟩
 have g4:=aE hv (jO v d)
 have qg:=nO.mono g4
 have Z_:=g4 _ _ Ss
 have F4:=F3.trans (Fr.of_same (ρ:=ρ) g4)
 generalize upd H3 v (jO v d)=H4 at *
 have bo:=ok.blend wf
 refine ⟨_,Z,_,Z,_,_,Z,Z,_,Z,aI (fun c=>absurd (aV c) (by have:=ok.lost;show ¬ aY st<=bu rs;omega)) fun _=>?_⟩
 refine ⟨_,Z,A.a,A.dx,_,Z,qg.h.oa,Z,_,Z,_,Z,_,_,Z,Z,_,Z,_,Z,A.a,A.dx,_,Z,qg.h.oa,Z,_,Z,⟨⟨n,ρ,A,st,d,rs,Z,qg.h,wf,Z_,cd,ok.len,fun r hr=>⟨(ok.row r hr).2.1,by obtain ⟨p,hp,e,_⟩:=(ok.row r hr).2.2;exact ⟨p,hp,e⟩⟩,fun l5 H5 g5 hn5 hl5=>?_⟩⟩⟩
 have wG:=qg.mono g5
 have hd5:=g5 _ _ Z_
 have F5:=F4.trans (Fr.of_same (ρ:=ρ) g5)
 have zk:Jm.Sz 60 (aY st-bu rs):=bo.big.of_le (by have:=bo.k;have:=bo.l;omega)
 have zG:∀m∈j9 st rs,0<=m/\Jm.Sz 8900 m:=fun m hm=>by
  have h1:=bo.add m hm
  have h2:=wf.fB
  have zl:Jm.Sz 60 (bu rs):=bo.big.of_le (by have:=bo.k;have:=bo.l;omega)
  exact ⟨h1.1,Jm.Sz.m9 (by have:=lE bo.l (show 0<=st.prod by omega);omega) h1.2 ((zl.mul bo.prod).mono (by decide))⟩
 refine ⟨⟨n,ρ,A,st,aY st-bu rs,aY st,l5,j9 st rs,Z,wG,aF.of hl5,bo.len,bo.k,by have:=bo.k;have:=bo.l;omega,zk,bo.big,zG,ok.bO,ok.stp,vC wf bo,fun ρ6 A6 H6 yR e6 f6=>?_⟩⟩
 obtain ⟨hd6,Xn⟩:=f6 d _ hd5 (fun t x=>by rw [cd];intro z;cases z)
 rw [cd] at Xn
 have F6:=F5.trans f6
 refine ⟨d,_,hd6,fun Pf=>⟨_,Z,d,Pf,_,Z,ah,?_⟩⟩
 generalize eB:a_ st (aY st-bu rs) (aY st) (j9 st rs)=LB at *
 have abH:Due LB rs:=by rw [<-eB];exact DP ok.due
 have Y0:iY st rs=rs.foldl dz LB:=by unfold iY;rw [eB]
 refine rJ (n:=(gc rs).length) (fun i σ H'=>∃ρ' A',HH T n ρ' A' H' ((rs.take i).foldl dz LB)/\A'.a=A.a/\H' d=some (.fk Pf (.dK (gc rs)))/\ρ' d=none/\Fr n ρ H ρ' H'/\Due ((rs.take i).foldl dz LB) (rs.drop i)/\∃s3 s4 s5 s6,σ=[some (.ref A.a),some (.ref l),some (.ref d),s3,s4,s5,s6])
  ⟨ρ6,A6,yR.A1 Xn hd6 rfl rfl,e6,ah,Xn,F6.new hdn,abH,_,_,_,_,Z⟩ (fun i σ H' hi hp=>by obtain ⟨_,_,_,_,e,_⟩:=hp;exact ⟨e,hi⟩) (fun σ H' hp=>by obtain ⟨_,_,_,_,e,_⟩:=hp;exact ⟨e,aK _⟩) ?_ ?_
 . rintro i x σ H7 H8 hi ⟨ρ7,A7,BC,e7,Su,Sv,F7,due,s3,s4,s5,s6,rfl⟩ ⟨pp,kv,hpp,hkv,rfl,rfl⟩
   unfold gc at hkv
   rw [b_] at hkv
   obtain ⟨r,er,rfl⟩:=mU.mp hkv
   have hir:i<rs.length:=by rw [<-al];exact hi
   have edr:rs.drop i=r::rs.drop (i+1):=by
    rw [List.drop_eq_getElem_cons hir]
    rw [bB hir] at er
    rw [eV er]
   rw [edr] at due
   have g4:=aE hpp (.tup [.str r.1, .int r.2])
   have Ed:=BC.mono g4
   have hd8:=g4 _ _ Su
   have F8:=F7.trans (Fr.of_same (ρ:=ρ7) g4)
   have Ig:upd H7 pp (.tup [.str r.1, .int r.2]) pp=some (.tup [.str r.1, .int r.2]):=ah
   show yX K 2 _ _ _ (upd H7 pp (.tup [.str r.1, .int r.2])) _
   generalize upd H7 pp (.tup [.str r.1, .int r.2])=H8 at *
   refine ⟨pp,_,Z,cO.of Ig,Z,_,_,Z,_,_,Z,Z,?_⟩
   have eN:(rs.take (i+1)).foldl dz LB=dz ((rs.take i).foldl dz LB) r:=by rw [take_snoc er,Cd];rfl
   have Sw:((r::rs.drop (i+1)).map (fun r:Row=>r.1)).Nodup:=by rw [<-edr,List.map_drop];exact nd.sublist (List.drop_sublist _ _)
   refine ⟨_,Z,A.a,A7.dx,_,Z,by rw [<-e7];exact Ed.h.oa,Z,_,Z,_,Z,⟨⟨n,ρ7,A7,_,r,by rw [e7];rfl,Ed,due r dg,OS BC.wf due,fun ρ9 A9 H9 Pj e9 f9=>?_⟩⟩⟩
   obtain ⟨hd9,cd9⟩:=f9 d _ hd8 (fun t x=>by rw [Sv];intro z;cases z)
   rw [Sv] at cd9
   rw [<-eN] at Pj
   exact ⟨ρ9,A9,Pj,e9.trans e7,hd9,cd9,F8.trans f9,by rw [eN];exact GU BC.wf due Sw,_,_,_,_,Z⟩
 rintro σ H7 ⟨ρ7,A7,BC,e7,Su,Sv,F7,due,s3,s4,s5,s6,rfl⟩
 rw [al,ee,<-Y0] at BC
 exact ⟨Su,q ρ7 A7 _ (BC.A1 Sv Su rfl rfl) e7 (F7.new hdn)⟩
abbrev oY:Stmt:=inClass (top 4) 2
abbrev lO:List Str:=["self","top"]
abbrev Ex:List Str:=lO.append ["rest","step","shared"]
theorem gX:aM Ex lO (aB oY):=dI
theorem CN {T:TC} (F:gh K T.bot "over" "Bottom.over" oY f fd) (X:Txt K T) (gr:Dn P w K mg base 1 "common_factor" iO QC):Mn P w K mg base 2 T.bot "over" lO (K8 T):=by
 refine F.oA gX fun cdv A outer s H vs Q E hr h=>?_
 obtain ⟨⟨bt,db,sp,kn,stp,prod,top,rfl,hb,hs,ep,h2,hz,q⟩⟩:=h
 refine ⟨_,(@cQ.h _ _ _ (aj (aR (i:=2) gX.nd (aH K (qv 0)))
  (aj (eO fu rfl (dY K (aH K (qv 0))) (aT (i:=3) gX.nd) (aj (aR (i:=4) gX.nd (bM gr hr (af (qv 3) (af (aG jx (qv 1) (qv 3)) ao))))
  (aq (jy (aN jj (qv 4) ai (aW _)) (aj (aR (i:=1) gX.nd (aG gZ (qv 1) (qv 4)))
  (aq (aR (i:=2) gX.nd (aG gZ (qv 2) (qv 4))))) br))))
  (aq (bg (gy (af (qv 1) (af (qv 2) ao)))))))),?_⟩
 have p1:1<=prod:=by rw [ep];exact GO h2
 refine ⟨_,Z,bt,T.bot,db,_,_,Z,hb,X.cB,X.K3,Z,?_⟩
 refine ⟨_,Z,bt,T.bot,db,_,_,Z,hb,X.cB,X.Wb,Z,sp,Z,⟨_,aF.of hs⟩,?_⟩
 refine iR (K:=K) (xs:=stp.map V.int) (fun i σ H'=>H'=H/\∃(t r d:Int) (s3 s4:Option V),σ=[some (.ref bt),some (.int t),some (.int r),s3,s4]/\t*prod=top*r/\r=d*(stp.drop i).foldl (·*·) 1/\0<d/\Jm.cf t d=1)
  ⟨Z,top,prod,1,none,none,Z,Z,by rw [List.drop_zero,Int.one_mul];exact ep,by decide,by unfold Jm.cf;rw [Int.gcd_one];rfl⟩ (fun i σ H' _ hp=>by rw [hp.1];exact aF.of hs) ?_ ?_
 . rintro i x σ H' hx ⟨rfl,t,r,d,s3,s4,rfl,e1,e2,d0,c⟩
   obtain ⟨st,rfl,es⟩:=fm hx
   have hm:=bR es
   have s2:=h2 st hm
   have hi:=(c_.mp es).1
   have hdr:stp.drop i=st::stp.drop (i+1):=by
    rw [List.drop_eq_getElem_cons hi]
    congr 1
    rw [bB hi] at es
    exact eV es
   rw [hdr,Cv] at e2
   have r0:0<=t % st:=mX _ (by omega)
   refine ⟨_,Z,_,Z,_,Z,_,_,Z,Z,(by show 0<st;omega),st,t % st,Z,by omega,r0,?_⟩
   rw [Jm.KY t st (by omega)]
   obtain ⟨o1,o2⟩:=OJ d0 (by omega:0<st) c
   have gp:0<Jm.cf t st:=Jm.Ay t st (.inr (by omega))
   have gz:Jm.Sz 9000 (Jm.cf t st):=((hz.of_le (by have:=R6 h2 hm;rw [<-ep] at this;omega)).dvd (by omega:0<st) (by omega) (Jm.j0 t st)).mono (by decide)
   obtain ⟨u,hu⟩:=Jm.t9 t st
   obtain ⟨v,hv⟩:=Jm.j0 t st
   have e3:t / Jm.cf t st*prod=top*(r / Jm.cf t st):=by
    have a1:t / Jm.cf t st=u:=by rw [RG (by omega) hu]
    have a2:r=Jm.cf t st*(d*v*(stp.drop (i+1)).foldl (·*·) 1):=by
     rw [e2]
     conv=>lhs;rw [hv]
     rw [iX (Jm.cf t st),Int.mul_left_comm,iX d]
    have a3:r / Jm.cf t st=d*v*(stp.drop (i+1)).foldl (·*·) 1:=by rw [RG (by omega) a2]
    rw [a1,a3]
    have e1':Jm.cf t st*(u*prod)=Jm.cf t st*(top*(d*v*(stp.drop (i+1)).foldl (·*·) 1)):=by
     rw [<-iX,<-hu,e1]
     conv=>lhs;rw [a2]
     rw [Int.mul_left_comm]
    exact Int.eq_of_mul_eq_mul_left (by omega) e1'
   have e4:r / Jm.cf t st=d*(st / Jm.cf t st)*(stp.drop (i+1)).foldl (·*·) 1:=by
    have a4:st / Jm.cf t st=v:=by rw [RG (by omega) hv]
    have a2:r=Jm.cf t st*(d*v*(stp.drop (i+1)).foldl (·*·) 1):=by
     rw [e2]
     conv=>lhs;rw [hv]
     rw [iX (Jm.cf t st),Int.mul_left_comm,iX d]
    rw [a4,RG (by omega) a2]
   refine ⟨fun σ' H2=>H2=H'/\σ'=[some (.ref bt),some (.int (t / Jm.cf t st)),some (.int (r / Jm.cf t st)),some (.int st),some (.int (Jm.cf t st))],?_,?_⟩
   . refine ⟨_,Z,_,_,Z,Z,_,Z,aI (fun c=>?_) (fun c=>?_)⟩
     . exact ⟨_,Z,_,Z,_,_,Z,Z,vg gp gz,_,Z,_,Z,_,_,Z,Z,vg gp gz,Z,Z⟩
     . have c':¬ 1<Jm.cf t st:=rm (oB.mpr c)
       have g1:Jm.cf t st=1:=by omega
       refine ⟨Z,?_⟩
       rw [g1,Ad,Ad]
       rfl
   rintro σ' H2 ⟨rfl,rfl⟩
   exact ⟨Z,_,_,_,_,_,Z,e3,e4,o2,o1⟩
 rintro σ H' ⟨rfl,t,r,d,s3,s4,rfl,e1,e2,d0,c⟩
 rw [List.drop_of_length_le (by rw [aC];exact aK _),List.foldl_nil,Int.mul_one] at e2
 subst e2
 refine ⟨_,Z,_,Z,(gq 2),fun p hp=>?_⟩
 refine q p _ (aE hp _) ?_
 rw [ah]
 obtain ⟨a1,a2⟩:=Jm.N_ d0 c
 have:Jm.fr top prod=Jm.fr t r:=Jm.Mv (by omega) d0 e1.symm
 unfold t_
 rw [this,a1,a2]
abbrev nR:Stmt:=inClass (top 4) 3
abbrev kQ:List Str:=["self","top"]
abbrev CO:List Str:=kQ
theorem BD:aM CO kQ (aB nR):=dI
theorem BE {T:TC} (F:gh K T.bot "share" "Bottom.share" nR f fd) (X:Txt K T) (qF:Mn P w K mg base 2 T.bot "over" lO (K8 T)):Mn P w K mg base 3 T.bot "share" kQ (GG T):=by
 refine F.oA BD fun cdv A outer s H vs Q E hr h=>?_
 obtain ⟨⟨bt,db,sp,kn,stp,prod,top,kvs,rfl,hb,hs,ep,h2,hz,hk,Xo,kl,knd,q⟩⟩:=h
 refine ⟨_,(@cQ.h _ _ _ (aj (jy (uM (xJ (c9 hr) (qv 1) (aH K (qv 0)))) (aq (q_ (c9 hr) (aH K (qv 0)) (qv 1) (cI qF hr (qv 0) (af (qv 1) ao)) rfl)) br)
  (aq (bg (dM (c9 hr) (aH K (qv 0)) (qv 1)))))),?_⟩
 refine ⟨fun σ' H'=>σ'=[some (.ref bt),some (.int top)]/\(∀b o,H b=some o->b≠kn->H' b=some o)/\∃kvs' r,H' kn=some (.dK kvs')/\Gw H' kvs' prod/\kvs'.length<=kvs.length+1/\(kvs'.map (·.1)).Nodup/\c5 kvs' (Sum.inl top)=some (.ref r)/\H' r=some (t_ (Jm.fr top prod)),?_,?_⟩
 . refine ⟨_,Z,_,Z,bt,T.bot,db,_,_,Z,hb,X.cB,X.OG,Z,kn,_,Z,dR.k (k:=Sum.inl top) hk,_,Z,?_⟩
   cases e:c5 kvs (Sum.inl top) with
   | some v=>
     refine gv ⟨Z,fun b o e _=>e,kvs,?_⟩
     obtain ⟨t,r,e2,hr2⟩:=Xo _ (QT e)
     cases e2
     exact ⟨r,hk,Xo,yf _,knd,e,hr2⟩
   | none=>
     refine kW ?_
     refine ⟨_,Z,bt,db,_,Z,hb,Z,_,Z,⟨⟨bt,db,sp,kn,stp,prod,top,Z,hb,hs,ep,h2,hz,fun r H1 g1 hr1=>?_⟩⟩⟩
     have sl:kvs.length<sizeLine:=by rw [ji];omega
     refine ⟨_,Z,bt,T.bot,db,_,_,Z,g1 _ _ hb,X.cB,X.OG,Z,_,Z,kn,_,Z,t8.k (k:=Sum.inl top) (g1 _ _ hk) sl,Z,fun b o e hb=>by rw [av hb];exact g1 _ _ e,_,r,ah,?_,?_,Ti _ knd e,by rw [Qq,aA rfl],by rw [av (iz hr1 (g1 _ _ hk) (by intro z;cases z))];exact hr1⟩
     . rw [lY _ e]
       intro p hp
       rcases fZ.mp hp with z|z
       . obtain ⟨t,r',e2,hr2⟩:=Xo p z
         exact ⟨t,r',e2,by rw [av (iz (g1 _ _ hr2) (g1 _ _ hk) (by intro z;cases z))];exact g1 _ _ hr2⟩
       . rw [fT.mp z]
         exact ⟨top,r,Z,by rw [av (iz hr1 (g1 _ _ hk) (by intro z;cases z))];exact hr1⟩
     . rw [lY _ e,cT]
       exact aK _
 rintro σ' H' ⟨rfl,k1,kvs',r,e1,e2,e3,e4,e5,e6⟩
 exact ⟨_,Z,bt,T.bot,db,_,_,Z,k1 _ _ hb (iz hb hk (by intro z;cases z)),X.cB,X.OG,Z,_,Z,kn,_,Z,e5▸dR.k (k:=Sum.inl top) e1,q r H' kvs' k1 e1 e2 e3 e4 e6⟩
abbrev oZ:Stmt:=inClass (top 21) 12
abbrev jC:List Str:=["self","part"]
abbrev Ey:List Str:=jC.append ["tops"]
theorem uV:aM Ey jC (aB oZ):=dI
theorem CP {T:TC} (F:gh K T.hold "shares" "Hold.shares" oZ f fd) (X:Txt K T) (gW:Mn P w K mg base 1 T.hold "part_of" dN (zf T)) (eG:Mn P w K mg base 1 T.hold "tops_of" gU (yp T)) (o6:Mn P w K mg base 3 T.bot "share" kQ (GG T)) (gM:mg "zip"=none):Mn P w K mg base 4 T.hold "shares" jC (vP T):=by
 refine F.oA uV fun cdv A outer s H vs Q E hr h=>?_
 obtain ⟨⟨n,ρ,A,st,ip,pt,rfl,hh,ep,hkn,q⟩⟩:=h
 obtain ⟨qq,eq,k1,k2,k3,k4⟩:=hh.h.find ep
 have eW:=bR ep
 refine ⟨_,(@cQ.h _ _ _ (aj (aR (i:=2) uV.nd (cI eG hr (qv 0) (af (cI gW hr (qv 0) (af (qv 1) ao)) ao)))
  (aq (bg (Hj (Hl ["owner","top","self"] [none,none,some 0] rfl (oO K (by rfl) gM (af (aH K (qv 0)) (af (qv 2) ao))) (fun _ _ _ _=>(gk K (n:=2) rfl (bP (aT (i:=0) (show List.Nodup (["owner","top","self"] :List Str) from by decide +kernel)) (bP (aT (i:=1) (show List.Nodup (["owner","top","self"] :List Str) from by decide +kernel)) gj)))) (fun _ _ _ _=>(gy (af (qv 0) (af (cI o6 hr (aH K (qv 2)) (af (qv 1) ao)) ao)))) (fun _ _ _ _=>(aN jj (qv 1) ai (aW _))) rfl (by rfl))))))),?_⟩
 refine ⟨_,Z,A.a,A.dx,_,Z,hh.h.oa,Z,_,Z,A.a,A.dx,_,Z,hh.h.oa,Z,_,Z,⟨⟨n,ρ,A,st,ip,pt,qq,Z,hh.h,hh.wf.cX,ep,eq,?_⟩⟩⟩
 refine ⟨⟨n,ρ,A,st,ip,pt,qq,Z,hh.h,hh.wf,ep,eq,fun l H1 g1 hl hl1=>?_⟩⟩
 have je:=hh.mono g1
 have cl:ρ l=none:=hh.g.none hl
 have tl:(bf st pt).length=st.own.length:=by
  unfold bf
  rw [jY,hh.wf.rows pt eW,hh.wf.fK,u7]
 have fD:=hh.wf.jk
 refine ⟨A.pl,_,je.h.gO,fun ob=>?_⟩
 have hl2:upd H1 A.pl (.fk ob (.dK (eY 0 st.own))) l=some (.lst ((bf st pt).map V.int)):=dX je.h.gO hl1 (fun k z=>by cases z)
 refine ⟨_,Z,A.a,T.hold,A.dx,_,_,Z,dX je.h.gO je.h.oa (fun k z=>by cases z),X.cH,X.hpl,Z,_,Z,_,_,_,_,_,_,Z, .keys ah, .lst (aF.of hl2),fun acc hacc=>?_⟩
 have tR:H1 acc=none:=l9 je.h.gO hacc
 have ca:ρ acc=none:=je.g.none tR
 have LC:acc≠A.pl:=fun e=>by rw [e,ah] at hacc;cases hacc
 have nal:acc≠l:=fun e=>by rw [e,hl1] at tR;cases tR
 refine TM (K:=K) (n:=st.own.length) [0,1] (fun i out Hc=>∃H5,Hc=upd H5 A.pl (.fk ob (.dK (eY 0 st.own)))/\Gh ρ H5/\Fr n ρ H ρ H5/\aL T n ρ A H5 { st with kn:=st.kn+i }/\H5 l=some (.lst ((bf st pt).map V.int))/\gI H5 out (((List.zip st.own (bf st pt)).take i).filterMap fun x=>if 0<x.2 then some (x.1,Jm.fr x.2 st.prod) else none))
  (by decide) (by omega) ⟨upd H1 acc (.lst []),jm (cD LC),je.g.alloc tR,(Fr.of_same (ρ:=ρ) g1).trans (Fr.of_same (aE tR _)),je.h.mono (aE tR _),by rw [av (cD nal)];exact hl1, .nil⟩ ?_ ?_ ?_ ?_
 . rintro i out Hc hi ha ⟨H5,rfl,G5,F5,h5,l5,S5⟩
   exact ⟨ah,aF.of (dX h5.gO l5 (fun k z=>by cases z)),by rw [aC,nu];exact hi,by rw [aC,tl];exact hi⟩
 . rintro out Hc ha ⟨H5,rfl,G5,F5,h5,l5,S5⟩
   exact ⟨ah,aF.of (dX h5.gO l5 (fun k z=>by cases z)), .inr (by rw [aC,tl];exact aK _)⟩
 . rintro i x out Hc H2 hi M_ ha ⟨H5,rfl,G5,F5,h5,l5,S5⟩ ⟨pp,x1,y1,hpp,rfl,rfl,e1,e2⟩
   obtain ⟨t,rfl,et⟩:=fm e2
   rw [GA,b_] at e1
   obtain ⟨o,eo,rfl⟩:=mU.mp e1
   have npl:pp≠A.pl:=fun e=>by rw [e,ah] at hpp;cases hpp
   have abI:H5 pp=none:=l9 h5.gO hpp
   have ez:(List.zip st.own (bf st pt))[i]?=some (o,t):=by rw [List.getElem?_zip_eq_some];exact ⟨eo,et⟩
   have g6:=aE abI (.tup [.str o, .int t])
   have e6:upd (upd H5 A.pl (.fk ob (.dK (eY 0 st.own)))) pp (.tup [.str o, .int t])=upd (upd H5 pp (.tup [.str o, .int t])) A.pl (.fk ob (.dK (eY 0 st.own))):=jm (cD npl)
   rw [e6]
   have G6:=G5.same g6
   have F6:=F5.trans (Fr.of_same (ρ:=ρ) g6)
   have h6:=h5.mono g6
   have l6:=g6 _ _ l5
   have S6:=S5.mono g6.tups
   have t6:upd H5 pp (.tup [.str o, .int t]) pp=some (.tup [.str o, .int t]):=ah
   have Ik:upd H5 pp (.tup [.str o, .int t]) acc=some (.lst out):=by
    rw [av LC] at ha
    exact g6 _ _ ha
   generalize upd H5 pp (.tup [.str o, .int t])=H6 at *
   have fz:∀{b:Addr} {u:HO},H6 b=some u->(∀k,u ≠ .dK k)->upd H6 A.pl (.fk ob (.dK (eY 0 st.own))) b=some u:=fun e k=>dX h6.gO e k
   refine ⟨pp,_,Z,cO.of (fz t6 (fun k z=>by cases z)),Z,_,Z,_,_,Z,Z,_,Z,?_⟩
   refine aI (fun c=>?_) (fun c=>?_)
   . have c':0<t:=aV c
     obtain ⟨kvs,j1,j2,j3,j4⟩:=h6.okn
     have Sx:A.kn≠A.pl:=AS h6.ig h6.gP (by intro z;cases z)
     refine ⟨_,Z,_,Z,A.a,T.hold,A.dx,_,_,Z,fz h6.oa (fun k z=>by cases z),X.cH,X.xm,Z,A.bt,A.db,_,Z,fz h6.jQ (fun k z=>by cases z),Z,_,Z,
      ⟨⟨A.bt,A.db,A.sp,A.kn,st.stp,st.prod,t,kvs,Z,fz h6.jQ (fun k z=>by cases z),fz h6.oq (fun k z=>by cases z),hh.wf.pH,hh.wf.uc,hh.wf.big,by rw [av Sx];exact j1,(fun p hp=>let ⟨t,r,e,w⟩:=j2 p hp;⟨t,r,e,fz w (fun k z=>by cases z)⟩),FD j3 (by show st.kn+i<_;omega),j4,fun r H7 kvs' b1 b2 b3 b4 b5 b6=>?_⟩⟩⟩
     have LD:H7 A.pl=some (.fk ob (.dK (eY 0 st.own))):=b1 _ _ ah (cD Sx)
     refine ⟨(gq 2),fun tt Sy=>?_⟩
     have ntp:tt≠A.pl:=fun e=>by rw [e,LD] at Sy;cases Sy
     have k8:∀b u,H6 b=some u->b≠A.kn->upd H7 A.pl (.dK (eY 0 st.own)) b=some u:=fun b u e hb=>by
      by_cases z:b=A.pl
      . rw [z] at e ⊢
        rw [show H6 A.pl=some (.dK (eY 0 st.own)) from h6.gO] at e
        cases e;exact ah
      . rw [av z];exact b1 _ _ (by rw [av z];exact e) hb
     have h8:=h6.QU (m:=st.kn+i+1) k8 (by rw [av Sx];exact b2) (fun p hp=>let ⟨t,r,e,w⟩:=b3 p hp;⟨t,r,e,i9 (.inr ⟨_,LD,Z⟩) _ _ w⟩) (fH b4 (Nat.succ_le_succ j3)) b5
     have G8:Gh ρ (upd H7 A.pl (.dK (eY 0 st.own))):=fun b cc e=>by
      by_cases z:b=A.pl
      . rw [z];exact ⟨_,ah,Z⟩
      by_cases z2:b=A.kn
      . rw [z2,av Sx];exact ⟨_,b2,Z⟩
      obtain ⟨u,a1,a2⟩:=G6 b cc e
      exact ⟨u,k8 b u a1 z2,a2⟩
     have F8:Fr n ρ H6 ρ (upd H7 A.pl (.dK (eY 0 st.own))):=fun b u e k=>⟨k8 b u e (fun z=>k 9 ⟨#[]⟩ (by rw [z];exact h6.ig)),Z⟩
     have tp8:∀b xs,H6 b=some (.tup xs)->upd H7 A.pl (.dK (eY 0 st.own)) b=some (.tup xs):=fun b xs e=>k8 b _ e (iz e j1 (by intro z;cases z))
     have abJ:upd H7 A.pl (.dK (eY 0 st.own)) tt=none:=by rw [av ntp];exact Sy
     have back:H7=upd (upd H7 A.pl (.dK (eY 0 st.own))) A.pl (.fk ob (.dK (eY 0 st.own))):=by rw [mG,vz LD]
     have hr8:upd H7 A.pl (.dK (eY 0 st.own)) r=some (t_ (Jm.fr t st.prod)):=i9 (.inr ⟨_,LD,Z⟩) _ _ b6
     have l8:=k8 _ _ l6 (fun z=>by rw [z,j1] at l6;cases l6)
     have Ii:=k8 _ _ Ik (fun z=>by rw [z,j1] at Ik;cases Ik)
     have S8:=S6.mono tp8
     have F08:=F6.trans F8
     rw [back] at Sy ⊢
     generalize upd H7 A.pl (.dK (eY 0 st.own))=H8 at *
     have g9:=aE abJ (.tup [.str o, .ref r])
     rw [jm (cD ntp)]
     refine ⟨by rw [av LC];exact g9 _ _ Ii,_,jm (cD LC),(G8.same g9).wr rfl,(F08.trans (Fr.of_same (ρ:=ρ) g9)).new (g1.free tR),?_,?_,?_⟩
     . exact (h8.mono g9).same (A0 ca (g9 _ _ Ii) rfl)
     . rw [av (cD nal)];exact g9 _ _ l8
     . rw [take_snoc ez,List.filterMap_append,yU]
       simp only [c',if_true,List.filterMap_nil]
       exact ((S8.mono g9.tups).snoc ah (g9 _ _ hr8)).mono (i9 (.inr ⟨_,g9 _ _ Ii,Z⟩))
   . have c':¬ 0<t:=rm (oB.mpr c)
     refine ⟨by rw [av LC];exact Ik,H6,Z,G6,F6,?_,l6,?_⟩
     . obtain ⟨kvs,j1,j2,j3,j4⟩:=h6.okn
       exact h6.QU (m:=st.kn+i+1) (fun b u e _=>e) j1 j2 (Nat.le_succ_of_le j3) j4
     . rw [take_snoc ez,List.filterMap_append,yU]
       simp only [c',lH,List.filterMap_nil,zZ]
       exact S6
 . rintro out Hc M_ ha ⟨H5,rfl,G5,F5,h5,l5,S5⟩
   rw [List.take_of_length_le (by rw [List.length_zip,tl];omega)] at S5
   refine ⟨ah,?_⟩
   rw [mG,vz (show H5 A.pl=some (.dK (eY 0 st.own)) from h5.gO)]
   rw [av LC] at ha
   obtain ⟨kvs,j1,j2,j3,j4⟩:=h5.okn
   have h9:=h5.QU (m:=st.kn+100) (fun b u e _=>e) j1 j2 (fH j3 (by show st.kn+st.own.length<=st.kn+100;omega)) j4
   exact q acc out H5 ⟨G5,h9,R7 hh.wf hkn⟩ F5 (g1.free tR) ha ca S5
abbrev o_:Stmt:=inClass (top 21) 17
abbrev lP:List Str:=["self"]
abbrev Ez:List Str:=lP
theorem CQ:aM Ez lP (aB o_):=dI
theorem CS {T:TC} (F:gh K T.hold "landed" "Hold.landed" o_ f fd) (X:Txt K T) (jz:mg "list"=none):Mn P w K mg base 1 T.hold "landed" lP (GH T):=by
 refine F.oA CQ fun cdv A outer s H vs Q E hr h=>?_
 obtain ⟨⟨n,ρ,A,st,rfl,hh,q⟩⟩:=h
 obtain ⟨ws,hw,hA⟩:=hh.h.oj
 have hl:=hA.length
 have hal:=hh.wf.rL
 refine ⟨_,(@cQ.h _ _ _ (aq (bg (i_ ["name","owner","worth","shares"] [none,none,none,none] rfl (dY K (aH K (qv 0))) (fun _ _ _ _=>(gk K (n:=4) rfl (bP (aT (i:=0) (show List.Nodup (["name","owner","worth","shares"] :List Str) from by decide +kernel)) (bP (aT (i:=1) (show List.Nodup (["name","owner","worth","shares"] :List Str) from by decide +kernel)) (bP (aT (i:=2) (show List.Nodup (["name","owner","worth","shares"] :List Str) from by decide +kernel)) (bP (aT (i:=3) (show List.Nodup (["name","owner","worth","shares"] :List Str) from by decide +kernel)) gj)))))) (fun _ _ _ _=>(gy (af (qv 0) (af (qv 1) (af (qv 2) (af (mR (qw K) (by rfl) jz LN (af (qv 3) ao)) ao)))))) rfl (by rfl))))),?_⟩
 refine ⟨_,Z,A.a,T.hold,A.dx,_,_,Z,hh.h.oa,X.cH,X.has,Z,A.as,Z,⟨_,aF.of hw⟩,fun acc hacc=>?_⟩
 refine uI (K:=K) (n:=ws.length) [0,1,2,3] (fun i out H1=>aO H H1/\jn acc ρ H1 out (st.c7.take i)) (by decide) (by omega) ⟨aE hacc _, .nil⟩ (fun i out H1 hi _ hp=>⟨ws,_,aF.of (hp.1 _ _ hw),bB hi⟩) (fun out H1 _ hp=>⟨ws,aF.of (hp.1 _ _ hw),aK _⟩) ?_ ?_
 . rintro i x out H1 H2 hi fD ha ⟨g,hL⟩ ⟨rfl,hy⟩
   have ex:=hy ws (aF.of (g _ _ hw))
   obtain ⟨r,l,y,ss,rfl,ey,a1,a2,a3,a4⟩:=hA.get ex
   refine ⟨r,_,Z,cO.of (g _ _ a1),Z,_,Z,_,Z,_,Z,_,Z,l,ss,Z, .inl (aF.of (g _ _ a2)),fun l2 hl2=>⟨(gq 4),fun t ht=>?_⟩⟩
   have g2:=aE hl2 (.lst ss)
   have g3:=aE ht (.tup [.str y.nm, .str y.ow, .int y.wo, .ref l2])
   have hl3:upd H2 l2 (.lst ss) l2=some (.lst ss):=ah
   have c2:ρ l2=none:=hh.g.none (g.free hl2)
   refine ⟨(g2.trans g3) _ _ ha,((g.trans g2).trans g3).cY hacc _,?_⟩
   rw [take_snoc ey]
   have n1:l2≠acc:=fun e=>by rw [e,ha] at hl2;cases hl2
   exact ((hL.mono (g2.trans g3)).snoc (x:=y) ah (g3 _ _ hl3) c2 n1 (a4.mono ((g.trans g2).trans g3).tups)).upd ((g2.trans g3) _ _ ha)
 rintro out H1 fD ha ⟨g,hL⟩
 rw [hl,ee] at hL
 exact q acc out H1 g hacc ha hL.to
abbrev qG:Stmt:=inClass (top 21) 4
abbrev nS:List Str:=["self","owner","amount"]
abbrev Il:List Str:=nS.append ["place","whole","added"]
theorem lQ:aM Il nS (aB qG):=dI
theorem CT {T:TC} {e:Ec} (F:gh K T.hold "award" "Hold.award" qG f fd) (X:Txt K T) (d8:Mx P w K mg base 1 T.hold "place_of" fM (vK T e)) (dB:Dx P w K mg base 1 "check_amount" gT (xM e)) (jf:Mn P w K mg base 1 T.hold "whole" ko (Ct T)) (jg:Mn P w K mg base 3 T.hold "blend" kq (Cw T K)) (bK:mg "len"=none) (gK:fW K e.zx) (iP:mg "TooMuch"=some (.ref e.zx)):Mx P w K mg base 4 T.hold "award" nS (Hr T e):=by
 refine F.wD lQ fun cdv A outer s H vs Q E hr h=>?_
 obtain ⟨⟨n,ρ,A,st,o,a,rfl,hh,aw,dq⟩⟩:=h
 refine ⟨_,(@cQ.h _ _ _ (aj (aR (i:=3) lQ.nd (kN d8 hr (qv 0) (af (qv 1) ao)))
  (aj (bY (Bg dB hr (af (qv 2) ao)))
  (aj (aR (i:=4) lQ.nd (yt jf hr (qv 0)))
  (aj (bZ (aN Ff (qv 2) (qv 4) (aW _)) (aq (jr gK (by rfl) iP)) br)
  (aj (aR (i:=5) lQ.nd (aG N3 (gC (af ai ao)) (bD s_ (by rfl) bK ff (af (aH K (qv 0)) ao))))
  (aj (lg (aG gb (qv 2) (aH K (aH K (qv 0)))) (lu (qv 5) (qv 3) set_list))
  (aq (bY (cI jg hr (qv 0) (af (aG jZ (qv 4) (qv 2)) (af (qv 4) (af (qv 5) ao))))))))))))),?_⟩
 have wf:=hh.wf
 refine ⟨_,Z,A.a,A.dx,_,Z,hh.h.oa,Z,_,Z,⟨⟨n,ρ,A,st,o,Z,hh.h,fun ho=>dq.no 2 (by unfold kg;exact az ho),fun ho=>?_⟩⟩⟩
 refine ⟨_,Z,⟨⟨a,Z,fun h5=>dq.no 5 (by unfold kg;rw [aA ho,aA h5]),fun h1=>?_⟩⟩⟩
 refine ⟨_,Z,A.a,A.dx,_,Z,hh.h.oa,Z,⟨⟨n,ρ,A,st,Z,hh.h,wf.nj,fun H1 g1=>?_⟩⟩⟩
 refine ⟨_,Z,_,Z,_,_,Z,Z,_,Z,aI (fun c=>?_) (fun c=>?_)⟩
 . have c':aY st<=a:=aV c
   exact fun y=>dq.no 6 (by unfold kg;rw [aA ho,az (show ¬ a<1 by omega),aA c']) y H1 g1
 have c':¬ aY st<=a:=rm (oB.mpr c)
 have q:=dq.ok (by unfold kg;rw [aA ho,az (show ¬ a<1 by omega),az c'])
 have je:=hh.mono g1
 have F1:Fr n ρ H ρ H1:=Fr.of_same g1
 clear hh
 refine ⟨(gq 1),fun p0 hp0=>?_⟩
 have g2:=aE hp0 (.lst [.int 0])
 have mT:=je.mono g2
 have F2:=F1.trans (Fr.of_same (ρ:=ρ) g2)
 have Rp:upd H1 p0 (.lst [.int 0]) p0=some (.lst [.int 0]):=ah
 generalize upd H1 p0 (.lst [.int 0])=H2 at *
 clear je F1
 have yQ:=nu st.own 0
 have fD:=mT.wf.jk
 refine ⟨_,Z,A.a,T.hold,A.dx,_,_,Z,mT.h.oa,X.cH,X.hpl,Z,A.pl,_,Z,mT.h.gO,p0,_,_,Z,Z,Rp,by omega,by rw [yQ];omega,by rw [yQ];show 1*_<=_;rw [rA,Nat.one_mul];exact small (by omega),fun p1 hp1=>?_⟩
 rw [yQ,rA,show (List.replicate st.own.length [V.int 0]).flatten=(List.replicate st.own.length (0:Int)).map V.int from by rw [List.map_replicate,List.flatten_replicate_singleton]]
 have g3:=aE hp1 (.lst ((List.replicate st.own.length (0:Int)).map V.int))
 have nO:=mT.mono g3
 have F3:=F2.trans (Fr.of_same (ρ:=ρ) g3)
 have n1:H p1=none:=(g1.trans g2).free hp1
 have c1:ρ p1=none:=mT.g.none hp1
 have x8:upd H2 p1 (.lst ((List.replicate st.own.length (0:Int)).map V.int)) p1=_:=ah
 generalize upd H2 p1 (.lst ((List.replicate st.own.length (0:Int)).map V.int))=H3 at *
 have hi:=List.idxOf_lt_length_iff.mpr ho
 have bo:=aw.blend (o:=o) wf h1 (by omega)
 have za:Me a st.prod:= .inl (by have:(aY st).natAbs<2 ^ 60:=aw.big;omega)
 refine ⟨_,Z,_,Z,A.a,T.hold,A.dx,_,_,Z,nO.h.oa,X.cH,X.xm,Z,A.bt,T.bot,A.db,_,_,Z,nO.h.jQ,X.cB,X.K3,Z,_,_,Z,Z,za,_,Z,_,Z,p1,_,_,st.own.idxOf o,Z,Z,x8,by rw [aC,mV];exact uG hi,?_⟩
 rw [show ((List.replicate st.own.length (0:Int)).map V.int).set (st.own.idxOf o) (V.int (a*st.prod))=(kX st o a).map V.int from by unfold kX;rw [qQ]]
 have qg:=nO.A1 (o:= .lst ((kX st o a).map V.int)) c1 x8 rfl rfl
 have F4:=F3.new (o:= .lst ((kX st o a).map V.int)) n1
 have Rq:upd H3 p1 (.lst ((kX st o a).map V.int)) p1=_:=ah
 generalize upd H3 p1 (.lst ((kX st o a).map V.int))=H4 at *
 have zk:Jm.Sz 60 (aY st-a):=bo.big.of_le (by omega)
 have zG:∀m∈kX st o a,0<=m/\Jm.Sz 8900 m:=fun m hm=>by
  have AW:=bo.add m hm
  have h2:=wf.fB
  have zl:Jm.Sz 60 a:=bo.big.of_le (by omega)
  exact ⟨AW.1,Jm.Sz.m9 (by have:=lE bo.l (show 0<=st.prod by omega);omega) AW.2 ((zl.mul bo.prod).mono (by decide))⟩
 exact ⟨_,Z,A.a,A.dx,_,Z,qg.h.oa,Z,_,Z,_,Z,_,_,Z,Z,_,Z,_,Z,⟨⟨n,ρ,A,st,aY st-a,aY st,p1,kX st o a,Z,qg,aF.of Rq,bo.len,bo.k,by omega,zk,bo.big,zG,aw.bO,aw.stp,vC wf bo,fun ρ6 A6 H6 yR e6 f6=>q ρ6 A6 H6 yR e6 (F4.trans f6)⟩⟩⟩
abbrev pe:Stmt:=inClass (top 21) 5
abbrev lR:List Str:=["self","part","amount"]
abbrev EA:List Str:=lR
theorem CU:aM EA lR (aB pe):=dI
theorem BF {T:TC} {e:Ec} (F:gh K T.hold "mishap" "Hold.mishap" pe f fd) (X:Txt K T) (bN:Mx P w K mg base 1 T.hold "part_of" dN (j_ T e)) (lS:Dx P w K mg base 2 "check_loss" kj (Hq e)) (iE:Mn P w K mg base 1 T.hold "lessen" jA (GQ T)):Mx P w K mg base 3 T.hold "mishap" lR (DW T e):=by
 refine F.wD CU fun cdv A outer s H vs Q E hr h=>?_
 obtain ⟨⟨n,ρ,A,st,x,a,rfl,hh,dq⟩⟩:=h
 refine ⟨_,(@cQ.h _ _ _ (aj (bY (Bg lS hr (af (aH K (kN bN hr (qv 0) (af (qv 1) ao))) (af (qv 2) ao))))
  (aq (bY (cI iE hr (qv 0) (af (qv 1) (af (qv 2) ao))))))),?_⟩
 refine ⟨_,Z,A.a,A.dx,_,Z,hh.h.oa,Z,_,Z,⟨⟨n,ρ,A,st,x,Z,hh.h,hh.wf.cX,fun hn=>dq.no 3 ?_,fun i p qq e1 e2 e3=>?_⟩⟩⟩
 . unfold jM;rw [az (fun z=>?_)]
   obtain ⟨j,p,h1,h2⟩:=kO z
   exact hn p (bR h1) h2
 obtain ⟨k1,_⟩:=hh.h.opt i p qq e2 e3
 have hm:x∈fh st:=by rw [<-e1];exact yu e2
 have eW:=bR e2
 have ew:(cy st x).wo=p.wo:=by rw [dj hh.wf eW e1]
 refine ⟨qq.1,T.part,qq.2.1,_,_,Z,k1,X.cP,X.tF,Z,_,Z,⟨⟨p.wo,a,Z,fun h5=>dq.no 5 ?_,fun h1 h6=>dq.no 6 ?_,fun h1 h2=>?_⟩⟩⟩
 . unfold jM;rw [aA hm,aA h5]
 . unfold jM;rw [aA hm,az (show ¬ a<1 by omega)];show (if (cy st x).wo<a then _ else _)=_;rw [ew,aA h6]
 have ho:=dq.ok (by unfold jM;rw [aA hm,az (show ¬ a<1 by omega)];show (if (cy st x).wo<a then _ else _)=_;rw [ew,az (by omega)])
 exact ⟨_,Z,A.a,A.dx,_,Z,hh.h.oa,Z,_,Z,_,Z,⟨⟨n,ρ,A,st,(x,a),Z,hh,⟨p,eW,e1,h2⟩,Cy hh.wf (fun p' fX e'=>by rw [qY hh.wf fX eW (e'.trans e1.symm)];exact h2),ho⟩⟩⟩
abbrev sj:Stmt:=inClass (top 21) 6
abbrev pL:List Str:=["self","part","amount"]
abbrev JJ:List Str:=pL.append ["risen"]
theorem x9:aM JJ pL (aB sj):=dI
theorem EB {T:TC} {e:Ec} (F:gh K T.hold "rise" "Hold.rise" sj f fd) (X:Txt K T) (bN:Mx P w K mg base 1 T.hold "part_of" dN (j_ T e)) (dB:Dx P w K mg base 1 "check_amount" gT (xM e)):Mx P w K mg base 2 T.hold "rise" pL (Lj T e):=by
 refine F.wD x9 fun cdv A outer s H vs Q E hr h=>?_
 obtain ⟨⟨n,ρ,A,st,x,a,rfl,hh,dq⟩⟩:=h
 refine ⟨_,(@cQ.h _ _ _ (aj (aR (i:=3) x9.nd (kN bN hr (qv 0) (af (qv 1) ao)))
  (aj (bY (Bg dB hr (af (qv 2) ao)))
  (aq (nI K (qv 3) (qv 2) Vj))))),?_⟩
 refine ⟨_,Z,A.a,A.dx,_,Z,hh.h.oa,Z,_,Z,⟨⟨n,ρ,A,st,x,Z,hh.h,hh.wf.cX,fun hn=>dq.no 3 ?_,fun i p qq e1 e2 e3=>?_⟩⟩⟩
 . unfold lK;rw [az (fun z=>?_)]
   obtain ⟨j,p,h1,h2⟩:=kO z
   exact hn p (bR h1) h2
 subst e1
 obtain ⟨k1,k2,k3,k4⟩:=hh.h.opt i p qq e2 e3
 have hm:=yu e2
 refine ⟨_,Z,⟨⟨a,Z,fun h5=>dq.no 5 ?_,fun h1=>?_⟩⟩⟩
 . unfold lK;rw [aA hm,aA h5]
 have ho:=dq.ok (by unfold lK;rw [aA hm,az (show ¬ a<1 by omega)])
 refine ⟨_,Z,qq.1,T.part,qq.2.1,_,_,Z,k1,X.cP,X.tF,Z,_,Z,_,_,Z,Z,qq.2.1,_,k1,by show 6<1000;decide,?_⟩
 have AW:=hh.h.ir (p1:={ p with wo:=p.wo+a }) hh.g e2 e3 rfl rfl hh.wf.cX
 have hw:Wf (Fp st p.nm a):=xN hh.wf fun q hq _=>⟨Z,Z,Z,Z,by have:=(hh.wf.jR q hq).1;show 1<=q.wo+a;omega,(hh.wf.jR q hq).2⟩
 have es:Fp st p.nm a={ st with ak:=st.ak.set i { p with wo:=p.wo+a } }:=oS hh.wf.cX e2 _
 rw [es] at ho hw
 exact ho ρ A _ ⟨hh.g.wr rfl,AW,hw⟩ rfl (Fr.write k3)
abbrev sr:Stmt:=inClass (top 21) 7
abbrev pM:List Str:=["self","part","taker"]
abbrev JK:List Str:=pM.append ["handed","to","at","tops"]
theorem kr:aM JK pM (aB sr):=dI
theorem EC {T:TC} {e:Ec} (F:gh K T.hold "hand" "Hold.hand" sr f fd) (X:Txt K T) (bN:Mx P w K mg base 1 T.hold "part_of" dN (j_ T e)) (d8:Mx P w K mg base 1 T.hold "place_of" fM (vK T e)) (eG:Mn P w K mg base 1 T.hold "tops_of" gU (yp T)) (eF:Mn P w K mg base 1 T.hold "beyond_common" fO (MG T K)):Mx P w K mg base 2 T.hold "hand" pM (Lk T e):=by
 refine F.wD kr fun cdv A outer s H vs Q E hr h=>?_
 obtain ⟨⟨n,ρ,A,st,x,o,rfl,hh,hs,dq⟩⟩:=h
 refine ⟨_,(@cQ.h _ _ _ (aj (aR (i:=3) kr.nd (kN bN hr (qv 0) (af (qv 1) ao)))
  (aj (aR (i:=4) kr.nd (kN d8 hr (qv 0) (af (qv 2) ao)))
  (aj (aR (i:=5) kr.nd (kN d8 hr (qv 0) (af (aH K (qv 3)) ao)))
  (aj (bZ (aN dw (qv 4) (qv 5) (aW _)) (aq Uc) br)
  (aj (aR (i:=6) kr.nd (cI eG hr (qv 0) (af (qv 3) ao)))
  (aj (Lh (qv 6) (qv 4) HB (aJ (di K) (qv 6) (qv 5)) U5 set_list)
  (aj (lg ai (lu (qv 6) (qv 5) set_list))
  (aj (cZ K (qv 3) (qv 2))
  (aj (cZ K (qv 3) ai)
  (aq (cZ K (qv 3) (cI eF hr (qv 0) (af (qv 6) ao)))))))))))))),?_⟩
 have wf:=hh.wf
 refine ⟨_,Z,A.a,A.dx,_,Z,hh.h.oa,Z,_,Z,⟨⟨n,ρ,A,st,x,Z,hh.h,wf.cX,fun hn=>dq.no 3 ?_,fun i p qq e1 e2 e3=>?_⟩⟩⟩
 . unfold kL;rw [az (fun z=>?_)]
   obtain ⟨j,p,h1,h2⟩:=kO z
   exact hn p (bR h1) h2
 have eW:=bR e2
 have eg:cy st x=p:=dj wf eW e1
 subst e1
 have hm:=yu e2
 refine ⟨_,Z,A.a,A.dx,_,Z,hh.h.oa,Z,_,Z,⟨⟨n,ρ,A,st,o,Z,hh.h,fun ho=>dq.no 2 (by unfold kL;rw [aA hm,az ho]),fun ho=>?_⟩⟩⟩
 have eR:kL st p.nm o=none:=by unfold kL;rw [aA hm,aA ho]
 have q:=dq.ok eR
 have wS:=Lm wf eR hs
 obtain ⟨k1,k2,k3,k4⟩:=hh.h.opt i p qq e2 e3
 have SA:=wf.ow p eW
 refine ⟨_,Z,A.a,A.dx,_,Z,hh.h.oa,Z,_,Z,qq.1,T.part,qq.2.1,_,_,Z,k1,X.cP,X.pow,Z,⟨⟨n,ρ,A,st,p.ow,Z,hh.h,fun z=>absurd SA z,fun _=>?_⟩⟩⟩
 refine ⟨_,Z,_,Z,Z,_,Z,aI (fun c=>?_) (fun c=>?_)⟩
 . have c':st.own.idxOf o=st.own.idxOf p.ow:=by have:=V.int.inj (aV c);omega
   unfold fj at q
   rw [eg,aA c'] at q
   exact q ρ A H hh rfl Fr.refl
 have ne:st.own.idxOf o≠st.own.idxOf p.ow:=fun z=>c (aX (by rw [z]))
 have hl:=Hx wf eW
 have ha:st.own.idxOf p.ow<(bf st p).length:=by rw [hl];exact Ft SA
 have hb:st.own.idxOf o<(bf st p).length:=by rw [hl];exact Ft ho
 have at':∀{l:List Int} {j:Nat},j<l.length->qN (l.map V.int) (j:Int)=some (.int (l.getD j 0)):=fun {l j} h=>au (by rw [b_,jJ,bB h];rfl)
 unfold fj at q wS
 rw [eg,az ne,oS wf.cX e2] at q wS
 generalize hTT:kM st p o=TT at *
 rw [vO] at hTT
 refine ⟨_,Z,A.a,A.dx,_,Z,hh.h.oa,Z,_,Z,⟨⟨n,ρ,A,st,i,p,qq,Z,hh.h,wf,e2,e3,fun l H1 g1 qh hl1=>?_⟩⟩⟩
 have cl:ρ l=none:=hh.g.none qh
 refine ⟨_,Z,_,Z,l,_,_,_,Z,Z,aF.of hl1,at' hb,_,Z,_,Z,l,_,_,_,Z,Z,aF.of hl1,at' ha,_,_,Z,Z,l,_,_,st.own.idxOf o,Z,Z,hl1,by rw [aC];exact uG hb,?_⟩
 have m1:(List.map V.int (bf st p)).set (st.own.idxOf o) (.int ((bf st p).getD (st.own.idxOf o) 0+(bf st p).getD (st.own.idxOf p.ow) 0))=((bf st p).set (st.own.idxOf o) ((bf st p).getD (st.own.idxOf o) 0+(bf st p).getD (st.own.idxOf p.ow) 0)).map V.int:=qQ.symm
 rw [m1]
 refine ⟨_,Z,_,Z,l,_,_,st.own.idxOf p.ow,Z,Z,ah,by rw [aC,gG];exact uG ha,?_⟩
 have m2:(((bf st p).set (st.own.idxOf o) ((bf st p).getD (st.own.idxOf o) 0+(bf st p).getD (st.own.idxOf p.ow) 0)).map V.int).set (st.own.idxOf p.ow) (.int 0)=TT.map V.int:=by rw [<-hTT];exact qQ.symm
 rw [m2,mG]
 have g3:aO H (upd H1 l (.lst (TT.map V.int))):=g1.cY qh _
 have hl3:upd H1 l (.lst (TT.map V.int)) l=some (.lst (TT.map V.int)):=ah
 generalize upd H1 l (.lst (TT.map V.int))=H3 at *
 have nO:=hh.mono g3
 have c3:=g3 _ _ k1
 have hi:i<st.ak.length:=(c_.mp e2).1
 have tl:TT.length=st.own.length:=by rw [<-hTT,CA,hl]
 clear hl1 g1 m1 m2
 refine ⟨_,Z,_,Z,qq.1,T.part,qq.2.1,_,Z,c3,X.cP,X.pow,by show 6<1000;decide,?_⟩
 have hA:=nO.h.ir (p1:={ p with ow:=o }) nO.g e2 e3 rfl rfl wf.cX
 have gA:Gh ρ (upd H3 qq.1 (.ins T.part qq.2.1 (cJ { p with ow:=o } qq.2.2))):=nO.g.wr rfl
 have FA:Fr n ρ H ρ (upd H3 qq.1 (.ins T.part qq.2.1 (cJ { p with ow:=o } qq.2.2))):=(Fr.of_same g3).trans (Fr.write k3)
 have kA:upd H3 qq.1 (.ins T.part qq.2.1 (cJ { p with ow:=o } qq.2.2)) qq.1=some (.ins T.part qq.2.1 (cJ { p with ow:=o } qq.2.2)):=ah
 have nA:∀b,upd H3 qq.1 (.ins T.part qq.2.1 (cJ { p with ow:=o } qq.2.2)) b=none->H b=none:=fun b h=>g3.free (iU h)
 have lA:upd H3 qq.1 (.ins T.part qq.2.1 (cJ { p with ow:=o } qq.2.2)) l=some (.lst (TT.map V.int)):=by rw [av (fun z=>by rw [z,k3] at cl;cases cl)];exact hl3
 show rC _ _ _ _ (upd H3 qq.1 (.ins T.part qq.2.1 (cJ { p with ow:=o } qq.2.2)))
 generalize upd H3 qq.1 (.ins T.part qq.2.1 (cJ { p with ow:=o } qq.2.2))=H4 at *
 refine ⟨_,Z,qq.1,T.part,qq.2.1,_,Z,kA,X.cP,X.Gy,by show 6<1000;decide,?_⟩
 have ndA:((st.ak.set i { p with ow:=o }).map (·.nm)).Nodup:=by rw [qQ,qc (by rw [b_,e2];rfl)];exact wf.cX
 have hB:=hA.ir (i:=i) (p1:={ p with ow:=o,sc:=1 }) gA (ou hi) e3 rfl rfl ndA
 have gB:Gh ρ (upd H4 qq.1 (.ins T.part qq.2.1 (cJ { p with ow:=o,sc:=1 } qq.2.2))):=gA.wr rfl
 have FB:Fr n ρ H ρ (upd H4 qq.1 (.ins T.part qq.2.1 (cJ { p with ow:=o,sc:=1 } qq.2.2))):=FA.trans (Fr.write k3)
 have kB:upd H4 qq.1 (.ins T.part qq.2.1 (cJ { p with ow:=o,sc:=1 } qq.2.2)) qq.1=some (.ins T.part qq.2.1 (cJ { p with ow:=o,sc:=1 } qq.2.2)):=ah
 have lB:upd H4 qq.1 (.ins T.part qq.2.1 (cJ { p with ow:=o,sc:=1 } qq.2.2)) l=some (.lst (TT.map V.int)):=by rw [av (fun z=>by rw [z,k3] at cl;cases cl)];exact lA
 have nB:∀b,upd H4 qq.1 (.ins T.part qq.2.1 (cJ { p with ow:=o,sc:=1 } qq.2.2)) b=none->H b=none:=fun b h=>nA b (iU h)
 have SD:(st.ak.set i { p with ow:=o }).set i { p with ow:=o,sc:=1 }=st.ak.set i { p with ow:=o,sc:=1 }:=sX ..
 have hB:aL T n ρ A (upd H4 qq.1 (.ins T.part qq.2.1 (cJ { p with ow:=o,sc:=1 } qq.2.2))) { st with ak:=st.ak.set i { p with ow:=o,sc:=1 } }:=by rw [<-SD];exact hB
 generalize hH5:upd H4 qq.1 (HO.ins T.part qq.2.1 (aQ _ _ _))=H5
 have abL:upd H4 qq.1 (.ins T.part qq.2.1 (cJ { p with ow:=o,sc:=1 } qq.2.2))=H5:=hH5
 rw [abL] at hB gB FB kB lB nB
 clear hA gA FA kA nA lA
 have ol:=wf.jk
 refine ⟨_,Z,A.a,A.dx,_,Z,hB.oa,Z,_,Z,⟨⟨n,ρ,A,_,l,TT,Z,hB,aF.of lB,by show _=st.bq.length;rw [tl,wf.fK],by omega,fun r H6 g6 hr0 hr1=>?_⟩⟩⟩
 have cr:ρ r=none:=gB.none hr0
 have h6:=hB.mono g6
 have G6:=gB.same g6
 have F6:Fr n ρ H (cE ρ r (n,21,p.nm)) H6:=(FB.trans (Fr.of_same (ρ:=ρ) g6)).l_ (nB _ hr0)
 have hC:aL T n (cE ρ r (n,21,p.nm)) A H6 _:=h6.same ⟨fun _ _ e=>e,fun b u x w _ hc he=>⟨he,by rw [cg (fun z=>by rw [z,cr] at hc;cases hc)];exact hc⟩⟩
 have GC:Gh (cE ρ r (n,21,p.nm)) H6:=G6.color hr1 rfl
 have ndB:((st.ak.set i { p with ow:=o,sc:=1 }).map (·.nm)).Nodup:=by rw [qQ,qc (by rw [b_,e2];rfl)];exact wf.cX
 have hD:=hC.Q9 (p1:={ p with ow:=o,sc:=1,row:=j8 st TT }) GC (ou hi) e3 rfl c6 hr1 ndB
 refine ⟨_,Z,qq.1,T.part,qq.2.1,_,Z,g6 _ _ kB,X.cP,X.K2,by show 6<1000;decide,?_⟩
 refine q _ { A with qs:=A.qs.set i (qq.1,qq.2.1,r) } _ ⟨GC.wr rfl,?_,wS⟩ rfl (F6.trans (Fr.write (t:=20) (x:=p.nm) (by rw [cg (fun z=>by rw [<-z,k3] at cr;cases cr)];exact k3)))
 have eS2:(st.ak.set i { p with ow:=o,sc:=1 }).set i { p with ow:=o,sc:=1,row:=j8 st TT }=st.ak.set i { p with ow:=o,sc:=1,row:=j8 st TT }:=sX ..
 rw [<-eS2]
 exact hD
abbrev su:Stmt:=inClass (top 21) 8
abbrev pN:List Str:=["self","part"]
abbrev JL:List Str:=pN.append ["leaving","gains"]
theorem sy:aM JL pN (aB su):=dI
theorem ED {T:TC} {e:Ec} (F:gh K T.hold "land" "Hold.land" su f fd) (X:Txt K T) (bN:Mx P w K mg base 1 T.hold "part_of" dN (j_ T e)) (gu:Mn P w K mg base 1 T.hold "place_of" fM (Cr T)) (eG:Mn P w K mg base 1 T.hold "tops_of" gU (yp T)) (qH:Mn P w K mg base 4 T.hold "shares" jC (vP T)) (gM:mg "zip"=none):Mx P w K mg base 5 T.hold "land" pN (Lo T e):=by
 refine F.wD sy fun cdv A outer s H vs Q E hr h=>?_
 obtain ⟨⟨n,ρ,A,st,x,rfl,hh,ld,dq⟩⟩:=h
 refine ⟨_,(@cQ.h _ _ _ (aj (aR (i:=2) sy.nd (kN bN hr (qv 0) (af (qv 1) ao)))
  (aj (bY (jq lW lU lV dD (aH K (qv 0)) (af (gy (af (aH K (qv 2)) (af (aH K (qv 2)) (af (aH K (qv 2)) (af (cI qH hr (qv 0) (af (qv 1) ao)) ao))))) ao)))
  (aj (uN (i:=3) ["purse","top","leaving"] [none,none,some 2] sy.nd rfl rfl rfl (oO K (by rfl) gM (af (aH K (qv 0)) (af (cI eG hr (qv 0) (af (qv 2) ao)) ao))) (fun _ _ _ _=>(gk K (n:=2) rfl (bP (aT (i:=0) (show List.Nodup (["purse","top","leaving"] :List Str) from by decide +kernel)) (bP (aT (i:=1) (show List.Nodup (["purse","top","leaving"] :List Str) from by decide +kernel)) gj)))) (fun _ _ _ _=>(aG b9 (qv 0) (aG gb (aH K (qv 2)) (qv 1)))) rfl (by rfl) (by rfl))
  (aj (Lh (qv 3) (cI gu hr (qv 0) (af (aH K (qv 2)) ao)) HB (aG gb (aH K (qv 2)) (aH K (aH K (qv 0)))) U6 set_list)
  (aj (cZ K (qv 0) (qv 3))
  (aq (Li (aH K (qv 0)) (qv 1))))))))),?_⟩
 refine ⟨_,Z,A.a,A.dx,_,Z,hh.h.oa,Z,_,Z,⟨⟨n,ρ,A,st,x,Z,hh.h,hh.wf.cX,fun hn=>dq.no 3 ?_,fun i p qq e1 e2 e3=>?_⟩⟩⟩
 . unfold tN;rw [az (fun z=>?_)]
   obtain ⟨j,p,h1,h2⟩:=kO z
   exact hn p (bR h1) h2
 subst e1
 have wf:=hh.wf
 have eW:=bR e2
 have eR:tN st p.nm=none:=aA (yu e2)
 have q:=dq.ok eR
 have wS:=Lq wf eR ld
 rw [vQ wf eW] at q wS
 obtain ⟨k1,k2,k3,k4⟩:=hh.h.opt i p qq e2 e3
 obtain ⟨OC,hv0,hA0⟩:=hh.h.oj
 refine ⟨_,Z,A.a,T.hold,A.dx,_,_,Z,hh.h.oa,X.cH,X.has,Z, .inl ⟨Z,_,aF.of hv0⟩,_,Z,qq.1,T.part,qq.2.1,_,_,Z,k1,X.cP,X.OE,Z,_,Z,qq.1,T.part,qq.2.1,_,_,Z,k1,X.cP,X.pow,Z,_,Z,qq.1,T.part,qq.2.1,_,_,Z,k1,X.cP,X.tF,Z,_,Z,A.a,A.dx,_,Z,hh.h.oa,Z,_,Z,⟨⟨n,ρ,A,st,i,p,Z,hh,e2,ld.kn,fun r ws H1 je F1 hr0 hr1 cr1 sh1=>?_⟩⟩⟩
 have hi:i<st.ak.length:=(c_.mp e2).1
 refine ⟨(gq 4),fun t ht=>?_⟩
 have g2:=aE ht (.tup [.str p.nm, .str p.ow, .int p.wo, .ref r])
 have W2:∀b,H1 b=none->H b=none:=fun b hb=>F1.YU je.g hb
 have W3:∀b,upd H1 t (.tup [.str p.nm, .str p.ow, .int p.wo, .ref r]) b=none->H b=none:=fun b hb=>W2 b (iU hb)
 have mT:=je.mono g2
 have F2:=F1.trans (Fr.of_same (ρ:=ρ) g2)
 have hr2:=g2 _ _ hr1
 have sh2:=sh1.mono g2.tups
 have ht2:upd H1 t (.tup [.str p.nm, .str p.ow, .int p.wo, .ref r]) t=some (.tup [.str p.nm, .str p.ow, .int p.wo, .ref r]):=ah
 show qm _ (upd H1 t (.tup [.str p.nm, .str p.ow, .int p.wo, .ref r])) _
 generalize upd H1 t (.tup [.str p.nm, .str p.ow, .int p.wo, .ref r])=H2 at *
 clear g2 sh1 hr1 F1
 have cH:aL T n (cE ρ r (n,30,⟨#[]⟩)) A H2 { st with kn:=st.kn+100 }:=mT.h.same ⟨fun _ _ e=>e,fun b u x w _ hc he=>⟨he,by rw [cg (fun z=>by rw [z,cr1] at hc;cases hc)];exact hc⟩⟩
 have cG:Gh (cE ρ r (n,30,⟨#[]⟩)) H2:=mT.g.color hr2 rfl
 have cF:Fr n ρ H (cE ρ r (n,30,⟨#[]⟩)) H2:=F2.l_ hr0
 have cr2:cE ρ r (n,30,⟨#[]⟩) r=some (n,30,⟨#[]⟩):=c6
 generalize cE ρ r (n,30,⟨#[]⟩)=ρ2 at *
 clear mT F2
 obtain ⟨Ef,hv2,hA2⟩:=cH.oj
 have hal:Ef.length<1000:=by rw [show Ef.length=st.c7.length from hA2.length];exact ld.c7
 refine ⟨A.as,Ef,_,Z,Z,hv2,cU (by omega),?_⟩
 have h3:aL T n ρ2 A (upd H2 A.as (.lst (Ef++[.ref t]))) { st with c7:=st.c7++[⟨p.nm,p.ow,p.wo,p_ st p⟩],kn:=st.kn+100 }:=cH.V5 (x:=⟨p.nm,p.ow,p.wo,p_ st p⟩) cG hv2 ht2 hr2 cr2 sh2
 have G3:=cG.wr (a:=A.as) (o:= .lst (Ef++[.ref t])) rfl
 have F3:=cF.trans (Fr.write (o:= .lst (Ef++[.ref t])) cH.g_)
 have Se:∀b,upd H2 A.as (.lst (Ef++[.ref t])) b=none->H b=none:=fun b hb=>W3 b (iU hb)
 have wf3:Wf { st with c7:=st.c7++[⟨p.nm,p.ow,p.wo,p_ st p⟩],kn:=st.kn+100 }:={ wf with rL:=wS.rL,DG:=wS.DG }
 generalize upd H2 A.as (.lst (Ef++[.ref t]))=H3 at *
 clear cH cG cF hv2 hA2 ht2 hr2 sh2
 obtain ⟨j1,j2,_,_⟩:=h3.opt i p qq e2 e3
 refine ⟨_,Z,A.a,T.hold,A.dx,_,_,Z,h3.oa,X.cH,X.AV,Z,_,Z,A.a,A.dx,_,Z,h3.oa,Z,_,Z,⟨⟨n,ρ2,A,_,i,p,qq,Z,h3,wf3,e2,e3,fun l H4 g4 qh hl1=>?_⟩⟩⟩
 have hl1:H4 l=some (.lst ((bf st p).map V.int)):=hl1
 have tl:=Hx wf eW
 have fD:=wf.jk
 have oJ:=wf.oJ
 have j4:=g4 _ _ j1
 have zw:=ld.wo p eW
 refine ⟨_,_,_,_,_,_,Z, .lst (aF.of (g4 _ _ h3.j7)), .lst (aF.of hl1),fun acc hacc=>?_⟩
 refine uI (K:=K) (n:=st.bO.length) [0,1] (fun i out H5=>aO H4 H5/\out=(List.zipWith (fun u t=>u+p.wo*t) (st.bO.take i) ((bf st p).take i)).map V.int) (by decide) (by omega) ⟨aE hacc _,Z⟩ (fun i out H5 hi _ hp=>⟨aF.of (hp.1 _ _ (g4 _ _ h3.j7)),aF.of (hp.1 _ _ hl1),by rw [aC];exact hi,by rw [aC,tl];omega⟩)
  (fun out H5 _ hp=>⟨aF.of (hp.1 _ _ (g4 _ _ h3.j7)),aF.of (hp.1 _ _ hl1), .inl (by rw [aC];exact aK _)⟩) ?_ ?_
 . rintro k x out H5 H6 hk abM ha ⟨g5,e5⟩ ⟨pp,x1,y1,hpp,rfl,rfl,e6,e7⟩
   obtain ⟨u,rfl,eu⟩:=fm e6
   obtain ⟨c,rfl,ec⟩:=fm e7
   have g6:=aE hpp (.tup [.int u, .int c])
   refine ⟨pp,_,Z,cO.of ah,Z,_,Z,_,Z,qq.1,T.part,qq.2.1,_,_,Z,(g5.trans g6) _ _ j4,X.cP,X.tF,Z,_,Z,_,_,Z,Z, .inl (by have:p.wo.natAbs<2 ^ 60:=zw;omega),_,_,Z,Z,g6 _ _ ha,(g5.trans g6).cY hacc _,?_⟩
   rw [qa _ eu ec,e5,bQ]
   rfl
 rintro out H5 abM Xp ⟨g5,e5⟩
 rw [ee,show st.bO.length=(bf st p).length by omega,ee] at e5
 have e5:out=(iB st p).map V.int:=e5
 subst e5
 have Xq:H3 acc=none:=g4.free hacc
 have Xr:=g4.trans g5
 have h5:=h3.mono Xr
 have G5:=G3.same Xr
 have F5:=F3.trans (Fr.of_same (ρ:=ρ2) Xr)
 have ca:ρ2 acc=none:=G3.none Xq
 have j5:=g5 _ _ j4
 have hown:=wf.ow p eW
 have gl:=DY wf eW
 have hix:st.own.idxOf p.ow<(iB st p).length:=by rw [gl];exact Ft hown
 refine ⟨_,Z,_,Z,A.a,A.dx,_,Z,h5.oa,Z,_,Z,qq.1,T.part,qq.2.1,_,_,Z,j5,X.cP,X.pow,Z,⟨⟨n,ρ2,A,_,p.ow,Z,h5,hown,?_⟩⟩⟩
 have at':qN ((iB st p).map V.int) ((st.own.idxOf p.ow:Nat):Int)=some (.int ((iB st p).getD (st.own.idxOf p.ow) 0)):=au (by rw [b_,jJ,bB hix];rfl)
 refine ⟨acc,_,_,_,Z,Z,aF.of Xp,at',_,Z,qq.1,T.part,qq.2.1,_,_,Z,j5,X.cP,X.tF,Z,_,Z,A.a,T.hold,A.dx,_,_,Z,h5.oa,X.cH,X.xm,Z,A.bt,T.bot,A.db,_,_,Z,h5.jQ,X.cB,X.K3,Z,_,_,Z,Z, .inl (by have:p.wo.natAbs<2 ^ 60:=zw;omega),_,_,Z,Z,acc,_,_,st.own.idxOf p.ow,Z,Z,Xp,by rw [aC];exact uG hix,?_⟩
 have m1:((iB st p).map V.int).set (st.own.idxOf p.ow) (.int ((iB st p).getD (st.own.idxOf p.ow) 0-p.wo*st.prod))=(qx st p).map V.int:=qQ.symm
 have G6:=G5.wr (a:=acc) (o:= .lst ((qx st p).map V.int)) rfl
 have h6:=h5.same (A0 (o:= .lst ((qx st p).map V.int)) ca Xp rfl)
 have n6:H acc=none:=Se acc Xq
 have F6:=F5.new (o:= .lst ((qx st p).map V.int)) n6
 show rC _ _ _ _ (upd H5 acc (.lst (((iB st p).map V.int).set (st.own.idxOf p.ow) (.int ((iB st p).getD (st.own.idxOf p.ow) 0-p.wo*st.prod)))))
 rw [m1]
 have Ik:upd H5 acc (.lst ((qx st p).map V.int)) acc=some (.lst ((qx st p).map V.int)):=ah
 generalize upd H5 acc (.lst ((qx st p).map V.int))=H6 at *
 refine ⟨_,Z,_,Z,A.a,T.hold,A.dx,_,Z,h6.oa,X.cH,X.AV,by show 7<1000;decide,?_⟩
 obtain ⟨h7,G7⟩:=xx (t:=7) h6 G6 ca Ik rfl
 have F7:Fr n ρ H (cE ρ2 acc (n,7,⟨#[]⟩)) H6:=F6.l_ n6
 have h8:=h7.OD G7 acc _ Ik c6
 have G8:=G7.wr (a:=A.a) (o:= .ins T.hold A.dx (iS { A with pu:=acc })) rfl
 have F8:=F7.trans (Fr.write (o:= .ins T.hold A.dx (iS { A with pu:=acc })) h7.ca)
 rw [show aQ "purses" (V.ref acc) (iS A)=iS { A with pu:=acc } from rfl]
 generalize upd H6 A.a (.ins T.hold A.dx (iS { A with pu:=acc }))=H8 at *
 have hv8:=qX wf.cX e2 e3
 have dk:=zh wf.cX hh.h.ql e2
 refine ⟨_,Z,A.a,T.hold,A.dx,_,_,Z,h8.oa,X.cH,X.hab,Z,_,Z,A.ab,_,Sum.inr p.nm,Z,h8.dG,Z,?_,?_⟩
 . show (c5 (b7 st.ak A.qs) (Sum.inr p.nm)).isSome=true
   rw [hv8];rfl
 show Q .bL (upd H8 A.ab (.dK (kH (b7 st.ak A.qs) (Sum.inr p.nm))))
 rw [dk]
 have hi2:i<A.qs.length:=by rw [hh.h.ql];exact hi
 have h9:=h8.Gx G8 (st.ak.eraseIdx i) (A.qs.eraseIdx i) (by rw [LI hi,LI hi2,hh.h.ql]) (fun j x y ex ey=>by
  obtain ⟨k,a1,a2⟩:=xr ex ey
  exact h8.opt k x y a1 a2)
 rw [rT wf.cX e2] at q wS
 exact q _ { { A with pu:=acc } with qs:=A.qs.eraseIdx i } _ ⟨G8.wr rfl,h9,wS⟩ rfl (F8.trans (Fr.write h8.fC))
abbrev qI:Stmt:=inClass (top 21) 9
abbrev nT:List Str:=["self","part","name","amount","weight"]
abbrev Im:List Str:=nT.append ["source"]
theorem wH:aM Im nT (aB qI):=dI
theorem CV {T:TC} {e:Ec} (F:gh K T.hold "sever" "Hold.sever" qI f fd) (X:Txt K T) (bN:Mx P w K mg base 1 T.hold "part_of" dN (j_ T e)) (i6:Mx P w K mg base 3 T.hold "check_new" iu (ud T e)) (jG:Mn P w K mg base 1 T.hold "stow" lz (GF T)) (uT:Cn P w K mg base 1 "Part" T.part ["self","name","owner","worth","weight","scale","row"] (Cq T K)) (jc:fW K e.xD) (jF:mg "BadNumber"=some (.ref e.xD)) (gK:fW K e.zx) (iP:mg "TooMuch"=some (.ref e.zx)):Mx P w K mg base 4 T.hold "sever" nT (Hs T e):=by
 refine F.wD wH fun cdv A outer s H vs Q E hr h=>?_
 obtain ⟨⟨n,ρ,A,st,x,y,a,we,rfl,Io,hy0,hl1,hl2,dq⟩⟩:=h
 refine ⟨_,(@cQ.h _ _ _ (aj (aR (i:=5) wH.nd (kN bN hr (qv 0) (af (qv 1) ao)))
  (aj (bY (kN i6 hr (qv 0) (af (qv 2) ao)))
  (aj (bZ (ja (bW.pt (vN (aN lJ (qv 3) ai (aW _)) (xK (aN lJ (qv 4) ai (aW _)))))) (aq (jr jc (by rfl) jF)) br)
  (aj (bZ (ja (bW.pt (vN (aN Ff (qv 3) (aH K (qv 5)) (aW _)) (xK (aN jj (qv 4) (aH K (qv 5)) (aW _)))))) (aq (jr gK (by rfl) iP)) br)
  (aj (nI K (qv 5) (qv 3) FT)
  (aj (nI K (qv 5) (qv 4) FT)
  (aq (bY (cI jG hr (qv 0) (af (Sg uT hr (af (qv 2) (af (aH K (qv 5)) (af (qv 3) (af (qv 4) (af (aH K (qv 5)) (af (aH K (qv 5)) ao))))))) ao))))))))))),?_⟩
 refine ⟨_,Z,A.a,A.dx,_,Z,Io.h.oa,Z,_,Z,⟨⟨n,ρ,A,st,x,Z,Io.h,Io.wf.cX,fun hn=>dq.no 3 ?_,fun i p qq e1 e2 e3=>?_⟩⟩⟩
 . unfold iN;rw [az (fun z=>?_)]
   obtain ⟨j,p,h1,h2⟩:=kO z
   exact hn p (bR h1) h2
 have eW:=bR e2
 have eg:cy st x=p:=dj Io.wf eW e1
 subst e1
 have hm:=yu e2
 have eR:iN st p.nm y a we=match newR st y with
  | some i=>some i
  | none=>if a<1\/we<0 then some 5 else if p.wo<=a\/p.we<we then some 6 else none:=by unfold iN;rw [aA hm,eg];first|done|(cases newR st y <;> rfl)
 refine ⟨_,Z,A.a,A.dx,_,Z,Io.h.oa,Z,_,Z,⟨⟨n,ρ,A,st,y,Z,Io.h,hy0,fun i hi=>dq.no i (by rw [eR,hi]),fun hnew H1 g1=>?_⟩⟩⟩
 rw [hnew] at eR
 have eR:iN st p.nm y a we=if a<1\/we<0 then some 5 else if p.wo<=a\/p.we<we then some 6 else none:=eR
 have hh:=Io.mono g1
 obtain ⟨k1,k2,k3,k4⟩:=hh.h.opt i p qq e2 e3
 by_cases hb:a<1\/we<0
 . have rq:=dq.no 5 (by rw [eR,aA hb])
   refine ⟨true,⟨_,Z,_,_,Z,Z,_,Z,aI (fun c=>⟨Z,Z⟩) fun c=>⟨_,Z,_,_,Z,Z,_,Z,aX (hb.resolve_left fun z=>c (aX z)),Z⟩⟩,kW fun y=>rq y H1 g1⟩
 rw [az hb] at eR
 refine ⟨false,⟨_,Z,_,_,Z,Z,_,Z,aI (fun c=>absurd (aV c) (by omega)) fun _=>⟨_,Z,_,_,Z,Z,_,Z,cu (by omega),Z⟩⟩,gv ?_⟩
 by_cases hb2:p.wo<=a\/p.we<we
 . have rq:=dq.no 6 (by rw [eR,aA hb2])
   refine ⟨true,⟨_,Z,_,Z,qq.1,T.part,qq.2.1,_,_,Z,k1,X.cP,X.tF,Z,_,_,Z,Z,_,Z,aI (fun c=>⟨Z,Z⟩) fun c=>⟨_,Z,_,Z,qq.1,T.part,qq.2.1,_,_,Z,k1,X.cP,X.OF,Z,_,_,Z,Z,_,Z,aX (hb2.resolve_left fun z=>c (aX z)),Z⟩⟩,kW fun y=>rq y H1 g1⟩
 rw [az hb2] at eR
 have q:=dq.ok eR
 refine ⟨false,⟨_,Z,_,Z,qq.1,T.part,qq.2.1,_,_,Z,k1,X.cP,X.tF,Z,_,_,Z,Z,_,Z,aI (fun c=>absurd (aV c) (by show ¬ p.wo<=a;omega)) fun _=>⟨_,Z,_,Z,qq.1,T.part,qq.2.1,_,_,Z,k1,X.cP,X.OF,Z,_,_,Z,Z,_,Z,cu (by show ¬ p.we<we;omega),Z⟩⟩,gv ?_⟩
 refine ⟨_,Z,qq.1,T.part,qq.2.1,_,_,Z,k1,X.cP,X.tF,Z,_,Z,_,_,Z,Z,qq.2.1,_,k1,by show 6<1000;decide,?_⟩
 have wA:Wf (nG st p.nm fun p=>{ p with wo:=p.wo-a }):=xN hh.wf fun p' fX e=>by
  rw [qY hh.wf fX eW e];exact ⟨Z,Z,Z,Z,by show 1<=p.wo-a;omega,(hh.wf.jR p eW).2⟩
 have wB:Wf (nG st p.nm fun p=>{ p with wo:=p.wo-a,we:=p.we-we }):=xN hh.wf fun p' fX e=>by
  rw [qY hh.wf fX eW e];exact ⟨Z,Z,Z,Z,by show 1<=p.wo-a;omega,by show 0<=p.we-we;omega⟩
 have wS:=Ht hh.wf eR hl1 hl2
 have esA:nG st p.nm (fun p=>{ p with wo:=p.wo-a })={ st with ak:=st.ak.set i { p with wo:=p.wo-a } }:=oS hh.wf.cX e2 _
 have esB:nG st p.nm (fun p=>{ p with wo:=p.wo-a,we:=p.we-we })={ st with ak:=st.ak.set i { p with wo:=p.wo-a,we:=p.we-we } }:=oS hh.wf.cX e2 _
 have hi:i<st.ak.length:=(c_.mp e2).1
 have hA:=hh.h.ir (p1:={ p with wo:=p.wo-a }) hh.g e2 e3 rfl rfl hh.wf.cX
 have gA:Gh ρ (upd H1 qq.1 (.ins T.part qq.2.1 (cJ { p with wo:=p.wo-a } qq.2.2))):=hh.g.wr rfl
 have FA:Fr n ρ H ρ (upd H1 qq.1 (.ins T.part qq.2.1 (cJ { p with wo:=p.wo-a } qq.2.2))):=(Fr.of_same g1).trans (Fr.write k3)
 have kA:upd H1 qq.1 (.ins T.part qq.2.1 (cJ { p with wo:=p.wo-a } qq.2.2)) qq.1=some (.ins T.part qq.2.1 (cJ { p with wo:=p.wo-a } qq.2.2)):=ah
 have nA:∀b,upd H1 qq.1 (.ins T.part qq.2.1 (cJ { p with wo:=p.wo-a } qq.2.2)) b=none->H b=none:=fun b h=>g1.free (iU h)
 show rC _ _ _ _ (upd H1 qq.1 (.ins T.part qq.2.1 (cJ { p with wo:=p.wo-a } qq.2.2)))
 generalize upd H1 qq.1 (.ins T.part qq.2.1 (cJ { p with wo:=p.wo-a } qq.2.2))=H2 at *
 refine ⟨_,Z,qq.1,T.part,qq.2.1,_,_,Z,kA,X.cP,X.OF,Z,_,Z,_,_,Z,Z,qq.2.1,_,kA,by show 6<1000;decide,?_⟩
 have hB:=hA.ir (i:=i) (p1:={ p with wo:=p.wo-a,we:=p.we-we }) gA (ou hi) e3 rfl rfl (by have:=wA.cX;rw [esA] at this;exact this)
 have SD:(st.ak.set i { p with wo:=p.wo-a }).set i { p with wo:=p.wo-a,we:=p.we-we }=st.ak.set i { p with wo:=p.wo-a,we:=p.we-we }:=sX ..
 have gB:Gh ρ (upd H2 qq.1 (.ins T.part qq.2.1 (cJ { p with wo:=p.wo-a,we:=p.we-we } qq.2.2))):=gA.wr rfl
 have FB:Fr n ρ H ρ (upd H2 qq.1 (.ins T.part qq.2.1 (cJ { p with wo:=p.wo-a,we:=p.we-we } qq.2.2))):=FA.trans (Fr.write k3)
 have kB:upd H2 qq.1 (.ins T.part qq.2.1 (cJ { p with wo:=p.wo-a,we:=p.we-we } qq.2.2)) qq.1=some (.ins T.part qq.2.1 (cJ { p with wo:=p.wo-a,we:=p.we-we } qq.2.2)):=ah
 generalize hH3:upd H2 qq.1 (HO.ins T.part qq.2.1 (aQ _ _ _))=H3
 have Rw:upd H2 qq.1 (.ins T.part qq.2.1 (cJ { p with wo:=p.wo-a,we:=p.we-we } qq.2.2))=H3:=hH3
 have nB:∀b,H3 b=none->H b=none:=fun b h=>nA b (iU (by rw [Rw];exact h))
 rw [Rw] at hB gB FB kB
 have nO:HH T n ρ A H3 (nG st p.nm fun p=>{ p with wo:=p.wo-a,we:=p.we-we }):=⟨gB,by rw [esB,<-SD];exact hB,wB⟩
 obtain ⟨_,r3,_,_⟩:=hB.opt i { p with wo:=p.wo-a,we:=p.we-we } qq (by show ((st.ak.set i _).set i _)[i]?=_;rw [SD];exact ou hi) e3
 clear hA hB gA FA kA hH3 Rw
 refine ⟨_,Z,A.a,A.dx,_,Z,nO.h.oa,Z,_,Z,_,Z,qq.1,T.part,qq.2.1,_,_,Z,kB,X.cP,X.pow,Z,_,Z,_,Z,_,Z,qq.1,T.part,qq.2.1,_,_,Z,kB,X.cP,X.Gy,Z,_,Z,qq.1,T.part,qq.2.1,_,_,Z,kB,X.cP,X.K2,Z,?_⟩
 intro v dv hv hdv hvd
 have W4:upd (upd H3 dv (.own v)) v (.ins T.part dv []) qq.2.2=some (.lst (p.row.map V.int)):=by rw [av (aD r3 hv),av (aD r3 hdv)];exact r3
 refine ⟨⟨v,dv,qq.2.2,⟨y,p.ow,a,we,p.sc,p.row⟩,Z,ah,aF.of W4,fun rr H6 hrr k6 W5 Rt=>⟨Z,?_⟩⟩⟩
 have Ia:H3 rr=none:=iU (iU hrr)
 have g6:aO H3 H6:=fun b u e=>k6 b u (by rw [av (aD e hv),av (aD e hdv)];exact e) (aD e hv)
 have yR:=nO.mono g6
 have F6:=FB.trans (Fr.of_same (ρ:=ρ) g6)
 unfold nH at wS q
 rw [eg] at wS q
 exact ⟨⟨n,ρ,A,_,(v,dv,rr),_,Z,yR,W5,Rt,nO.g.none hv,nO.g.none Ia,(kP eR).2.1.2,wS,fun ρ' A' H' a1 a2 a3=>q ρ' A' H' a1 a2 (a3.fr F6 (nB _ hv) (nB _ Ia))⟩⟩
abbrev sH:Stmt:=top 26
abbrev f7:List Str:=["_law_script","_law_k","_law_j","_law_many"]
abbrev JM:List Str:=f7.append ["_law_cell","_law_turn","_law_rest","_law_step","_law_one_here","_law_two"]
theorem d9:aM JM f7 (aB sH):=dI
theorem Ip (F:At K mg "_law_draw" sH f fd) (bK:mg "len"=none) (cR:mg "range"=none):Dn P w K mg base 1 "_law_draw" f7 (pV K):=by
 refine F.oA d9 fun cdv A outer s H vs Q E hr h=>?_
 obtain ⟨⟨a,ns,k,j,many,rfl,hS,h63,hk,hj,hj2,hm,q⟩⟩:=h
 refine ⟨_,(@cQ.h _ _ _ (aj (aR (i:=4) d9.nd ai)
  (aj (aR (i:=5) d9.nd ai)
  (aj (jy (aN jj (bD (cN K) (by rfl) bK ff (af (qv 0) ao)) ai (aW _)) (aj (aR (i:=4) d9.nd (aJ (di K) (qv 0) (aG jx (qv 1) (bD (cN K) (by rfl) bK ff (af (qv 0) ao)))))
  (aq (aR (i:=5) d9.nd (aG gZ (qv 1) (bD (cN K) (by rfl) bK ff (af (qv 0) ao)))))) br)
  (aj (aR (i:=6) d9.nd (qv 4))
  (aj (eO fu rfl (mQ (by rfl) cR (af (qv 2) ao)) (aT (i:=7) d9.nd) (aq (aR (i:=6) d9.nd (aG gZ (qv 6) (aG k7 ai ai)))))
  (aj (bZ (ja (bW.pt (qe (aN dw (qv 5) ai (aW _)) (qe (aN Ff (qv 4) (aG k7 ai ai) (aW _)) (qZ (aN jj (qv 6) ai (aW _))))))) (aq (bg (aG jx (aG jx (qv 6) (aG k7 ai ai)) (qv 3)))) br)
  (aj (aR (i:=8) d9.nd (aG jx (aG b9 (aG b9 (aG b9 (aG gb (qv 4) ai) (aG gb (qv 1) ai)) (aG gb (qv 2) ai)) ai) ai))
  (aj (aR (i:=9) d9.nd (aG jx (aG b9 (aG gb (qv 8) ai) (aG gZ (qv 4) ai)) ai))
  (aj (aR (i:=9) d9.nd (aG jx (aG b9 (aG gb (qv 9) (aG b9 (aG jx (qv 8) ai) ai)) (qv 2)) ai))
  (aq (bg (aG jx (aG jx (aG b9 (aG b9 (aG gb (qv 8) ai) (aG gb (qv 9) ai)) (aG gZ (qv 9) ai)) ai) (qv 3)))))))))))))),?_⟩
 have hl:(ns.map V.int).length=ns.length:=aC _
 refine ⟨fun σ H'=>H'=H/\σ=[some (.ref a),some (.int k),some (.int j),some (.int many),some (.int (Jm.cellOf ns k)),some (.int (Jm.wX ns k)),none,none,none,none],?_,?_⟩
 . refine ⟨_,Z,a,_,Z, .inl hS,_,_,Z,Z,_,Z,?_⟩
   refine aI (fun c=>?_) (fun c=>?_)
   . have c':0<(((ns.map V.int).length:Nat):Int):=aV c
     rw [hl] at c'
     have i0:0<=k % (ns.length:Int):=mX _ (by omega)
     have i1:k % (ns.length:Int)<(ns.length:Int):=wM _ c'
     refine ⟨_,Z,_,Z,_,Z,a,_,Z, .inl hS,_,_,Z,Z,(by show (0:Int)<_;rw [hl];exact c'),a,_,_, .int (ns.getD (k % ns.length).toNat 0),Z,Z,hS,?_,?_⟩
     . rw [hl]
       exact Tt i0 i1
     refine ⟨_,Z,_,Z,a,_,Z, .inl hS,_,_,Z,Z,QB (n:=10) (by rw [hl];exact c') (by rw [hl];omega) (by decide),Z,?_⟩
     unfold Jm.cellOf Jm.wX
     rw [aA c',aA c',hl]
     rfl
   . have c':¬ 0<(((ns.map V.int).length:Nat):Int):=rm (oB.mpr c)
     rw [hl] at c'
     refine ⟨Z,?_⟩
     unfold Jm.cellOf Jm.wX
     rw [az c',az c']
     rfl
 rintro σ H' ⟨rfl,rfl⟩
 generalize ec:Jm.cellOf ns k=cell at *
 generalize et:Jm.wX ns k=turn at *
 refine ⟨_,Z,_,Z,j,Z,by omega,hj2,?_⟩
 refine mH (lo:=0) (n:=j.toNat) (fun i σ A_=>A_=H'/\∃st:Option V,σ=[some (.ref a),some (.int k),some (.int j),some (.int many),some (.int cell),some (.int turn),some (.int (Jm.Az cell i)),st,none,none]) ⟨Z,none,Z⟩ ?_ ?_
 . rintro i σ A_ hi ⟨rfl,st,rfl⟩
   refine ⟨_,Z,_,_,Z,Z,⟨by decide,by decide,by decide⟩,_,_,Z,Z,wW (by decide +kernel),Z,?_⟩
   exact ⟨_,Z⟩
 rintro σ A_ ⟨rfl,st,rfl⟩
 have full:Q (.int (Jm.draw ns k j many)) A_:=q
 unfold Jm.draw at full
 rw [ec,et] at full
 generalize er:Jm.Az cell j.toNat=rest at *
 refine ⟨decide (turn=0/\1000000000000000000<=cell/\0<rest),?_,?_⟩
 . refine ⟨_,Z,Z,_,Z,?_⟩
   by_cases h1:turn=0
   . rw [aX (by rw [h1] :V.int turn=V.int 0)]
     refine kW ⟨_,Z,_,_,Z,Z,⟨by decide,by decide,by decide⟩,_,_,Z,Z,_,Z,?_⟩
     by_cases h2:1000000000000000000<=cell
     . rw [aX (show (10:Int) ^ (18:Int).toNat<=cell from h2)]
       refine kW ⟨_,Z,_,_,Z,Z,_,Z,?_,Z⟩
       by_cases h3:0<rest
       . rw [aX h3,aX ⟨h1,h2,h3⟩]
       . rw [cu h3,cu fun z=>h3 z.2.2]
     . rw [cu (show ¬ (10:Int) ^ (18:Int).toNat<=cell from h2)]
       exact gv ⟨(cu fun z=>h2 z.2.1).symm,Z⟩
   . rw [cu (fun z=>h1 (V.int.inj z))]
     exact gv ⟨(cu fun z=>h1 z.1).symm,Z⟩
 by_cases h:turn=0/\1000000000000000000<=cell/\0<rest
 . rw [aX h]
   rw [aA h] at full
   refine kW ⟨_,Z,_,_,Z,Z,⟨by decide,by decide,by decide⟩,_,_,Z,Z,(by show (0:Int)<_;decide),_,Z,_,_,Z,Z,hm,?_⟩
   exact full
 . rw [cu h]
   rw [az h] at full
   refine gv ?_
   refine ⟨_,Z,_,_,Z,Z, .inr ⟨by decide,by decide⟩,_,Z,_,_,Z,Z, .inr ⟨by decide,by decide⟩,_,_,Z,Z,_,Z,_,_,Z,Z, .inr ⟨by decide,by decide⟩,_,_,Z,Z,_,_,Z,Z,_,_,Z,Z,(by show (0:Int)<_;decide),?_⟩
   refine ⟨_,Z,_,_,Z,Z, .inr ⟨by decide,by decide⟩,_,Z,_,_,Z,Z,wW (by decide +kernel),_,_,Z,Z,_,_,Z,Z,(by show (0:Int)<_;decide),?_⟩
   unfold Jm.mixed at full
   dsimp only at full ⊢
   generalize e1:(cell*7919+k*104729+j*1299709+31) % 1000000007=one at *
   generalize e2:(one*48271+cell / 1009) % 998244353=two at *
   have b1:0<=one % 9973:=mX _ (by decide)
   have b2:one % 9973<9973:=wM _ (by decide)
   refine ⟨_,Z,_,Z,_,_,Z,Z,(by show (0:Int)<_;decide),_,_,Z,Z,_,_,Z,Z, .inr ⟨by omega,by omega⟩,_,Z,_,_,Z,Z,_,_,Z,Z,(by show (0:Int)<_;decide),?_⟩
   refine ⟨_,Z,_,_,Z,Z, .inr ⟨by decide,by decide⟩,_,Z,_,_,Z,Z, .inr ⟨by decide,by decide⟩,_,_,Z,Z,_,Z,_,_,Z,Z,wW (by decide +kernel),_,_,Z,Z,_,_,Z,Z,(by show (0:Int)<_;decide),_,Z,_,_,Z,Z,hm,?_⟩
   exact full
abbrev sJ:Stmt:=top 27
abbrev pO:List Str:=["_law_code","_law_size"]
abbrev JN:List Str:=pO.append ["_law_word","_law_at_here"]
theorem ku:aM JN pO (aB sJ):=dI
theorem Iq (F:At K mg "_law_name" sJ f fd) (cR:mg "range"=none):Dn P w K mg base 1 "_law_name" pO Ck:=by
 refine F.oA ku fun cdv A outer s H vs Q E hr h=>?_
 obtain ⟨⟨c,n,rfl,hc,hn,q⟩⟩:=h
 refine ⟨_,(@cQ.h _ _ _ (aj (aR (i:=2) ku.nd bw)
  (aj (eO fu rfl (mQ (by rfl) cR (af (qv 1) ao)) (aT (i:=3) ku.nd) (aj (aR (i:=2) ku.nd (aG Mg (qv 2) (aJ NZ bw (aG jx (qv 0) ai))))
  (aq (aR (i:=0) ku.nd (aG gZ (qv 0) ai)))))
  (aq (bg (qv 2)))))),?_⟩
 refine ⟨_,Z,_,Z,by omega,by omega,?_⟩
 refine mH (lo:=0) (n:=(n:Int).toNat) (fun i σ H'=>H'=H/\∃(s1:Option V),σ=[some (.int (c / 26 ^ i)),some (.int n),some (.str (tx (jN c i))),s1]) ⟨Z,none,by rw [Int.pow_zero,Ad];rfl⟩ ?_ ?_
 . rintro i σ H' hi ⟨rfl,s1,rfl⟩
   have hp:(0:Int)<26 ^ i:=Int.pow_pos (by decide)
   have hd0:0<=c / 26 ^ i:=E9 hc (Ae hp)
   have hm0:0<=c / 26 ^ i % 26:=mX _ (by decide)
   have hm1:c / 26 ^ i % 26<26:=wM _ (by decide)
   refine ⟨_,Z,_,Z,_,_,Z,Z,(by show (0:Int)<26;decide),_,_,_,Z,Z,(by decide +kernel),Oj hm0 hm1,?_⟩
   refine ⟨_,_,Z,Z,?_,?_⟩
   . rw [wZ,vm]
     show i+1<=sizeLine
     exact Ab (cU (by omega))
   refine ⟨_,Z,_,_,Z,Z,vg (by decide) (k_ (by decide +kernel)),Z,some (.int ((0:Int)+(i:Int))),?_⟩
   have e1:c / 26 ^ i / 26=c / 26 ^ (i+1):=by rw [Int.ediv_ediv_of_nonneg (Ae hp),Int.pow_succ]
   have e2:(tx (jN c i)++tx [97+(c / 26 ^ i % 26).toNat] :Str)=tx (jN c (i+1)):=by rw [VQ,QH]
   rw [<-e1,<-e2]
   rfl
 rintro σ H' ⟨rfl,s1,rfl⟩
 refine ⟨_,Z,?_⟩
 rw [rA]
 exact q
abbrev qJ:Stmt:=top 28
abbrev nU:List Str:=["_law_script","_law_k","_law_many"]
abbrev Ir:List Str:=nU.append ["_law_alike","_law_size","_law_first","_law_shift","_law_at_here","_law_names_here","_law_code"]
theorem cS:aM Ir nU (aB qJ):=dI
theorem EE (F:At K mg "_law_names" qJ f fd) (aU:Dn P w K mg base 1 "_law_draw" f7 (pV K)) (pP:Dn P w K mg base 1 "_law_name" pO Ck) (cR:mg "range"=none):Dn P w K mg base 2 "_law_names" nU (Cm K):=by
 refine F.oA cS fun cdv A outer s H vs Q E hr h=>?_
 obtain ⟨⟨a,ms,k,many,rfl,hS,h63,hk,hm,q⟩⟩:=h
 refine ⟨_,(@cQ.h _ _ _ (aj (aR (i:=3) cS.nd (uP dw (bM aU hr (af (qv 0) (af (qv 1) (af ai (af ai ao))))) ai (aW _)))
  (aj (aR (i:=4) cS.nd (aG b9 ai (bM aU hr (af (qv 0) (af (qv 1) (af ai (af ai ao)))))))
  (aj (aR (i:=5) cS.nd (bM aU hr (af (qv 0) (af (qv 1) (af ai (af (aG k7 ai ai) ao))))))
  (aj (aR (i:=6) cS.nd ai)
  (aj (jy (rS (qv 3)) (aq (eO fu rfl (mQ (by rfl) cR (af (bM aU hr (af (qv 0) (af (qv 1) (af ai (af (qv 4) ao))))) ao)) (aT (i:=7) cS.nd) (aq (aR (i:=6) cS.nd (aG gb (qv 6) ai))))) br)
  (aj (aR (i:=8) cS.nd (gC ao))
  (aj (eO fu rfl (mQ (by rfl) cR (af (qv 2) ao)) (aT (i:=7) cS.nd) (aj (aR (i:=9) cS.nd (aG b9 (qv 5) (aG gb (qv 6) (bM aU hr (af (qv 0) (af (qv 1) (af (aG b9 ai (aG gb ai (qv 7))) (af ai ao))))))))
  (aj (jy (xH (rS (qv 3))) (aj (aR (i:=4) cS.nd (aG b9 ai (bM aU hr (af (qv 0) (af (qv 1) (af (aG b9 ai (aG gb ai (qv 7))) (af ai ao)))))))
  (aq (aR (i:=9) cS.nd (bM aU hr (af (qv 0) (af (qv 1) (af (aG b9 ai (aG gb ai (qv 7))) (af (aG k7 ai ai) ao)))))))) br)
  (aj (Hi fu (aN Ds (bM pP hr (af (qv 9) (af (qv 4) ao))) (qv 8) (by with_unfolding_all rfl)) (aq (aR (i:=9) cS.nd (aG b9 (qv 9) (qv 6)))))
  (aq (bY (jq lW lU lV dD (qv 8) (af (bM pP hr (af (qv 9) (af (qv 4) ao))) ao))))))))
  (aq (bg (qv 8))))))))))),?_⟩
 have P10:Qg 10 10:=⟨by decide,by decide,by decide +kernel⟩
 refine ⟨_,Z,_,Z,cM hS h63 hk (by decide) (by decide) (by decide) fun al _ _ _=>⟨Z,?_⟩⟩
 refine ⟨_,Z,_,Z,cM hS h63 hk (by decide) (by decide) (by decide) fun sd _ s0 s1=>⟨_,_,Z,Z,?_⟩⟩
 refine ⟨_,Z,_,Z,_,_,Z,Z,P10,cM hS h63 hk (by decide) (by decide) (by decide +kernel) fun fc _ f0 f1=>?_⟩
 generalize hal:decide (V.int al=V.int 0)=alike
 obtain ⟨n0,en0⟩:∃n:Nat,1+sd=(n:Int):=⟨(1+sd).toNat,by omega⟩
 refine ⟨fun σ H'=>H'=H/\∃(d:Nat) (s7:Option V),(alike=true->d<n0)/\(alike=false->d=0)/\d<8/\σ=[some (.ref a),some (.int k),some (.int many),some (.bl alike),some (.int (1+sd)),some (.int fc),some (.int ((26:Int) ^ d)),s7,none,none],?_,?_⟩
 . refine ⟨_,Z,_,Z,aI (fun c=>?_) (fun c=>?_)⟩
   . refine ⟨_,Z,_,Z,_,Z,cM hS h63 hk (by decide) (by decide) (by omega) fun dd _ d0 d1=>⟨dd,Z,by omega,by omega,?_⟩⟩
     refine mH (lo:=0) (n:=dd.toNat) (fun i σ H'=>H'=H/\∃s7:Option V,σ=[some (.ref a),some (.int k),some (.int many),some (.bl alike),some (.int (1+sd)),some (.int fc),some (.int ((26:Int) ^ i)),s7,none,none]) ⟨Z,none,Z⟩ ?_ ?_
     . rintro i σ H' hi ⟨rfl,s7,rfl⟩
       refine ⟨_,Z,_,_,Z,Z, .inr ⟨by decide,by decide⟩,Z,some (.int ((0:Int)+(i:Int))),?_⟩
       rw [Int.pow_succ]
       rfl
     . rintro σ H' ⟨rfl,s7,rfl⟩
       exact ⟨Z,dd.toNat,s7,fun _=>by omega,fun z=>absurd c (by rw [z];exact eX),by omega,Z⟩
   . exact ⟨Z,0,none,fun z=>absurd z c,fun _=>rfl,by decide,Z⟩
 rintro σ H' ⟨rfl,d,s7,hd1,hd2,hd8,rfl⟩
 refine ⟨(gq 0),fun pn Xs=>?_⟩
 have g0:=aE Xs (.lst [])
 refine ⟨_,Z,(many:Int),Z,by omega,by omega,?_⟩
 refine mH (lo:=0) (n:=(many:Int).toNat) (fun i σ H2=>aO H' H2/\∃(nss:List (List Nat)) (n:Nat) (s1 s2:Option V),d<n/\n<=8/\σ=[some (.ref a),some (.int k),some (.int many),some (.bl alike),some (.int (n:Int)),some (.int fc),some (.int ((26:Int) ^ d)),s1,some (.ref pn),s2]/\H2 pn=some (.lst (pY nss))/\nss.length=i/\nss.Nodup/\∀x∈nss,nc x)
  ⟨g0,[],n0,s7,none,?_,by omega,by rw [<-en0];rfl,ah,Z,sW,fun _ m=>nomatch m⟩ ?_ ?_
 . cases alike with
   | true=>exact hd1 rfl
   | false=>rw [hd2 rfl];omega
 . rintro i σ H2 hi ⟨g,nss,n,s1,s2,hdn,LF,rfl,hn,hnl,hnd,hok⟩
   have hsl:(pY nss).length=i:=by unfold pY;rw [aC];exact hnl
   have Xu:=g.seq hS
   have hp:(0:Int)<26 ^ d:=Int.pow_pos (by decide)
   have W6:(26:Int) ^ d<2 ^ 64:=by
    rcases (by omega:d=0\/d=1\/d=2\/d=3\/d=4\/d=5\/d=6\/d=7) with e|e|e|e|e|e|e|e <;> (rw [e];decide +kernel)
   refine ⟨_,Z,_,Z,_,Z,_,Z,_,Z,_,_,Z,Z, .inl ⟨by decide,by decide⟩,_,_,Z,Z,cM Xu h63 hk (by omega) (by omega) (by decide) fun cd _ c0 c1=>⟨_,_,Z,Z, .inl ⟨by omega,W6⟩,_,_,Z,Z,?_⟩⟩
   have hcode:0<=fc+26 ^ d*cd:=Int.add_nonneg f0 (lE (Ae hp) c0)
   refine ⟨fun σ H3=>H3=H2/\∃(n:Nat) (c:Int),0<=c/\d<n/\n<=8/\σ=[some (.ref a),some (.int k),some (.int many),some (.bl alike),some (.int (n:Int)),some (.int fc),some (.int ((26:Int) ^ d)),some (.int ((0:Int)+(i:Int))),some (.ref pn),some (.int c)],?_,?_⟩
   . refine ⟨_,Z,_,Z,?_⟩
     cases hb:alike with
     | true=>exact gv ⟨Z,n,_,hcode,hdn,LF,Z⟩
     | false=>
       refine kW ?_
       have hd0:=hd2 hb
       refine ⟨_,Z,_,Z,_,Z,_,_,Z,Z, .inl ⟨by decide,by decide⟩,_,_,Z,Z,cM Xu h63 hk (by omega) (by omega) (by decide) fun zd _ z0 z1=>⟨_,_,Z,Z,?_⟩⟩
       refine ⟨_,Z,_,Z,_,Z,_,_,Z,Z, .inl ⟨by decide,by decide⟩,_,_,Z,Z,_,_,Z,Z,P10,cM Xu h63 hk (by omega) (by omega) (by decide +kernel) fun cd2 _ e0 _=>?_⟩
       refine ⟨Z,(1+zd).toNat,cd2,e0,by omega,by omega,?_⟩
       rw [show (((1+zd).toNat:Nat):Int)=1+zd from by omega]
       rfl
   clear hdn LF hcode
   rintro σ H3 ⟨rfl,n,tS,cc0,hdn,LF,rfl⟩
   refine ⟨fun m σ H4=>H4=H3/\∃t:Nat,m=nss.length+1-t/\t<=nss.length/\σ=[some (.ref a),some (.int k),some (.int many),some (.bl alike),some (.int (n:Int)),some (.int fc),some (.int ((26:Int) ^ d)),some (.int ((0:Int)+(i:Int))),some (.ref pn),some (.int (tS+(t:Int)*26 ^ d))]/\∀j:Nat,j<t->jN (tS+(j:Int)*26 ^ d) n∈nss,
    ⟨_,Z,0,Z,gH _,by rw [show tS+((0:Nat):Int)*26 ^ d=tS from by simp],fun j hj=>absurd hj (Nat.not_lt_zero _)⟩,?_⟩
   rintro m σ H4 ⟨rfl,t,rfl,ht,rfl,htr⟩
   have hct:0<=tS+(t:Int)*26 ^ d:=Int.add_nonneg cc0 (lE (by omega) (Ae hp))
   refine ⟨_,Z,_,Z,Gs rfl hct (by omega) ?_⟩
   refine ⟨_,Z,pn,_,Z, .inl (aF.of hn),Z,QJ nss,?_⟩
   show NO _ (V.bl (if false=true then !yG (.str (tx (jN (tS+(t:Int)*26 ^ d) n))) (pY nss) else yG (.str (tx (jN (tS+(t:Int)*26 ^ d) n))) (pY nss))) _
   rw [az eX,KZ]
   refine ⟨_,Z,aI (fun c=>?_) (fun c=>?_)⟩
   . have hmem:jN (tS+(t:Int)*26 ^ d) n∈nss:=aV c
     have Xv:∀j:Nat,j<t+1->jN (tS+(j:Int)*26 ^ d) n∈nss:=fun j hj=>by
      rcases Nat.lt_succ_iff_lt_or_eq.mp hj with z|z
      . exact htr j z
      . rw [z];exact hmem
     have hle:=Ot (c:=tS) (n:=n) (t:=t+1) hdn (by omega) Xv
     refine ⟨_,fun _ _ z=>z,?_⟩
     refine ⟨_,Z,_,Z,_,_,Z,Z,?_⟩
     refine ⟨_,(by omega:nss.length+1-(t+1)<nss.length+1-t),Z,t+1,Z,hle,?_,Xv⟩
     rw [show tS+((t+1:Nat):Int)*26 ^ d=tS+(t:Int)*26 ^ d+26 ^ d from by rw [Int.natCast_add,u_];show _+(_+1*_)=_;rw [Int.one_mul,Int.add_assoc]]
     rfl
   . have hnm:jN (tS+(t:Int)*26 ^ d) n∉nss:=rm (oB.mpr c)
     refine ⟨_,Z, .inl ⟨Z,_,aF.of hn⟩,?_⟩
     refine ⟨_,Z,_,Z,Gs rfl hct (by omega) ?_⟩
     refine ⟨pn,pY nss,_,Z,Z,hn,cU (by omega),g.cY Xs _,nss++[jN (tS+(t:Int)*26 ^ d) n],n,_,_,hdn,LF,Z,?_,?_,mK hnd hnm,fun x hx=>?_⟩
     . rw [ah]
       unfold pY
       rw [bQ]
       rfl
     . rw [cT,hnl]
       rfl
     . rcases fZ.mp hx with z|z
       . exact hok x z
       . rw [fT.mp z]
         exact VW _ (by omega) LF
 rintro σ H2 ⟨g,nss,n,s1,s2,hdn,LF,rfl,hn,hnl,hnd,hok⟩
 exact ⟨_,Z,q pn nss H2 g hn Xs (by omega) hnd hok⟩
abbrev sL:Stmt:=top 29
abbrev pQ:List Str:=["_law_owners"]
abbrev JO:List Str:=pQ
theorem Iu:aM JO pQ (aB sL):=dI
theorem Iw (F:At K mg "_law_lite" sL f fd) (jz:mg "list"=none):Dn P w K mg base 1 "_law_lite" pQ (O8 K):=by
 refine F.oA Iu fun cdv A outer s H vs Q E hr h=>?_
 obtain ⟨⟨l,own,n,ρ,rfl,hl,G,hle,q⟩⟩:=h
 refine ⟨_,(@cQ.h _ _ _ (aq (bg (Ud (zy bw (mR (qw K) (by rfl) jz LN (af (qv 0) ao)) (zy bw (gC ao) (zy bw (gC ao) Ub))) (by rfl) (by rfl) (fun z=>nomatch z) (by with_unfolding_all decide))))),?_⟩
 intro m hm
 have g0:=aE hm (.dK [])
 have em0:upd H m (.dK []) m=some (.dK []):=ah
 have qh:=g0.seq hl
 generalize upd H m (.dK [])=H0 at *
 refine ⟨_,Z,l,_,Z, .inl qh,fun lo hlo=>?_⟩
 have g1:=aE hlo (.lst (own.map V.str))
 have eo1:upd H0 lo (.lst (own.map V.str)) lo=some (.lst (own.map V.str)):=ah
 have em1:=g1 _ _ em0
 generalize upd H0 lo (.lst (own.map V.str))=H1 at *
 refine ⟨(gq 0),fun lp x_=>?_⟩
 have g2:=aE x_ (.lst [])
 have ep2:upd H1 lp (.lst []) lp=some (.lst []):=ah
 have eo2:=g2 _ _ eo1
 have em2:=g2 _ _ em1
 show As _ _ (upd H1 lp (.lst [])) _
 generalize upd H1 lp (.lst [])=H2 at *
 refine ⟨(gq 0),fun lk hlk=>?_⟩
 have g4:=aE hlk (.lst [])
 have ek4:upd H2 lk (.lst []) lk=some (.lst []):=ah
 have ep4:=g4 _ _ ep2
 have eo4:=g4 _ _ eo2
 have em4:=g4 _ _ em2
 show upd H2 lk (.lst []) m=_/\_
 generalize upd H2 lk (.lst [])=H4 at *
 have gA:=((g0.trans g1).trans g2).trans g4
 have n1:lo≠m:=fun e=>by rw [e,em0] at hlo;cases hlo
 have n2:lp≠m:=fun e=>by rw [e,em1] at x_;cases x_
 have n3:lp≠lo:=fun e=>by rw [e,eo1] at x_;cases x_
 have n7:lk≠m:=fun e=>by rw [e,em2] at hlk;cases hlk
 have n8:lk≠lo:=fun e=>by rw [e,eo2] at hlk;cases hlk
 have n9:lk≠lp:=fun e=>by rw [e,ep2] at hlk;cases hlk
 refine ⟨em4,[(Sum.inr "owners", .ref lo),(Sum.inr "parts", .ref lp),(Sum.inr "known", .ref lk)],Z,by show 3<=15;decide,?_⟩
 have eK:uF [] [(Sum.inr "owners", .ref lo),(Sum.inr "parts", .ref lp),(Sum.inr "known", .ref lk)]=iZ ⟨m,lo,lp,lk,[]⟩:=rfl
 rw [eK]
 have u1:upd H4 m (.dK (iZ ⟨m,lo,lp,lk,[]⟩)) m=some (.dK (iZ ⟨m,lo,lp,lk,[]⟩)):=ah
 have u2:upd H4 m (.dK (iZ ⟨m,lo,lp,lk,[]⟩)) lo=some (.lst (own.map V.str)):=by rw [av n1];exact eo4
 have u3:upd H4 m (.dK (iZ ⟨m,lo,lp,lk,[]⟩)) lp=some (.lst []):=by rw [av n2];exact ep4
 have u5:upd H4 m (.dK (iZ ⟨m,lo,lp,lk,[]⟩)) lk=some (.lst []):=by rw [av n7];exact ek4
 have G4:=(G.same gA).wr (a:=m) (o:= .dK (iZ ⟨m,lo,lp,lk,[]⟩)) rfl
 have hz:∀b o,H b=some o->upd H4 m (.dK (iZ ⟨m,lo,lp,lk,[]⟩)) b=some o:=fun b o e=>by
  rw [av (fun z=>by rw [z,hm] at e;cases e)];exact gA _ _ e
 have y1:H lo=none:=g0.free hlo
 have y2:H lp=none:=(g0.trans g1).free x_
 have y4:H lk=none:=((g0.trans g1).trans g2).free hlk
 generalize upd H4 m (.dK (iZ ⟨m,lo,lp,lk,[]⟩))=H5 at *
 refine q (cE (cE (cE (cE ρ m (n,40,nx)) lo (n,41,nx)) lp (n,42,nx)) lk (n,43,nx)) ⟨m,lo,lp,lk,[]⟩ H5 ((((G4.color u1 rfl).color u2 rfl).color u3 rfl).color u5 rfl) ⟨u1,?_,u2,?_,u3,?_,u5,c6,sW,Z,fun i p q e=>by simp at e⟩ (fun b o e=>⟨hz b o e,?_⟩)
 . show cE _ lk _ m=_
   rw [cg (cD n7),cg (cD n2),cg (cD n1),c6]
 . show cE _ lk _ lo=_
   rw [cg (cD n8),cg (cD n3),c6]
 . show cE _ lk _ lp=_
   rw [cg (cD n9),c6]
 . rw [cg (aD e y4),cg (aD e y2),cg (aD e y1),cg (aD e hm)]
abbrev sM:Stmt:=top 30
abbrev lD:List Str:=["_law_script","_law_k","_law_j"]
abbrev JP:List Str:=lD.append ["_law_size"]
theorem yb:aM JP lD (aB sM):=dI
theorem Iz (F:At K mg "_law_much" sM f fd) (aU:Dn P w K mg base 1 "_law_draw" f7 (pV K)):Dn P w K mg base 2 "_law_much" lD (AI K):=by
 refine F.oA yb fun cdv A outer s H vs Q E hr h=>?_
 obtain ⟨⟨a,ns,k,j,rfl,hS,h63,hk,hj,hj2,q⟩⟩:=h
 refine ⟨_,(@cQ.h _ _ _ (aj (aR (i:=3) yb.nd (aJ (di K) (gC (af ai (af ai (af ai (af (aG k7 ai ai) ao))))) (bM aU hr (af (qv 0) (af (qv 1) (af (qv 2) (af ai ao)))))))
  (aq (bg (aG b9 ai (bM aU hr (af (qv 0) (af (qv 1) (af (aG b9 (qv 2) ai) (af (qv 3) ao)))))))))),?_⟩
 refine ⟨_,_,Z,Z,⟨by decide,by decide,by decide⟩,(gq 4),fun p1 hp1=>?_⟩
 have g1:=aE hp1 (.lst [V.int 9,V.int 40,V.int 1000,V.int (10 ^ (9:Int).toNat)])
 refine ⟨_,Z,_,Z,_,Z,cM (g1.seq hS) h63 hk hj (by omega) (by decide) fun d _ d0 d1=>?_⟩
 obtain ⟨B,hB,hB0,hB1⟩:∃B:Int,qN [V.int 9,V.int 40,V.int 1000,V.int (10 ^ (9:Int).toNat)] d=some (.int B)/\0<B/\B<=1000000000:=by
  rcases (by omega:d=0\/d=1\/d=2\/d=3) with e|e|e|e
  . exact ⟨9,by rw [e];rfl,by decide,by decide⟩
  . exact ⟨40,by rw [e];rfl,by decide,by decide⟩
  . exact ⟨1000,by rw [e];rfl,by decide,by decide⟩
  . exact ⟨10 ^ (9:Int).toNat,by rw [e];rfl,by decide,by decide⟩
 refine ⟨p1,_,_,_,Z,Z,aF.of ah,hB,?_⟩
 refine ⟨_,Z,_,Z,_,Z,_,_,Z,Z,_,Z,cM (g1.seq hS) h63 hk (by omega) (by omega) hB0 fun e _ e0 e1=>⟨_,_,Z,Z,?_⟩⟩
 exact q (1+e) _ (by omega) (by omega) g1
abbrev sO:Stmt:=top 31
abbrev pR:List Str:=["_law_script","_law_k","_law_parts"]
abbrev JQ:List Str:=pR.append ["_law_spare","_law_order","_law_rows_here","_law_at_here","_law_way","_law_amount"]
theorem e_:aM JQ pR (aB sO):=dI
theorem IA (F:At K mg "_law_rows" sO f fd) (aU:Dn P w K mg base 1 "_law_draw" f7 (pV K)) (bK:mg "len"=none) (cR:mg "range"=none) (jz:mg "list"=none) (jv:mg "sum"=none) (tT:mg "min"=none):Dn P w K mg base 2 "_law_rows" pR (Ld K):=by
 refine F.oA e_ fun cdv A outer s H vs Q E hr h=>?_
 obtain ⟨⟨a,l,ns,k,us,ws,rfl,hS,h63,hk0,hk1,hl,hW,nd,hle,hw1,q⟩⟩:=h
 refine ⟨_,(@cQ.h _ _ _ (aj (aR (i:=3) e_.nd (aG jZ (bD (wY K rfl) (by rfl) jv Fw (af (i_ ["_law_part"] [none] rfl (dY K (qv 2)) (fun _ _ _ _=>(aT (i:=0) (show List.Nodup (["_law_part"] :List Str) from by decide +kernel))) (fun _ _ _ _=>(aJ (gi K) (qv 0) ai)) rfl (by rfl)) ao)) ai))
  (aj (aR (i:=4) e_.nd (mR (Ei rfl) (by rfl) jz LN (af (O0 (by rfl) cR (af (bD (cN K) (by rfl) bK ff (af (qv 2) ao)) ao)) ao)))
  (aj (jy (aN dw (bM aU hr (af (qv 0) (af (qv 1) (af ai (af ai ao))))) ai (aW _)) (aq (aR (i:=4) e_.nd (WC K (qv 4) (Sf NK ai)))) br)
  (aj (aR (i:=5) e_.nd (gC ao))
  (aj (eO fu rfl (dY K (qv 4)) (aT (i:=6) e_.nd) (aj (aR (i:=7) e_.nd (bM aU hr (af (qv 0) (af (qv 1) (af (aG b9 ai (aG gb ai (qv 6))) (af ai ao))))))
  (aj (aR (i:=8) e_.nd (bD (OU rfl) (by rfl) tT LR (af (aJ (gi K) (aJ (di K) (qv 2) (qv 6)) ai) (af (qv 3) (af (aG k7 ai ai) ao)))))
  (aj (jy (ja (bW.pt (qe (aN dw (qv 7) ai (aW _)) (qZ (aN jj (qv 8) ai (aW _)))))) (aq (aR (i:=8) e_.nd (aG b9 ai (bM aU hr (af (qv 0) (af (qv 1) (af (aG b9 ai (aG gb ai (qv 6))) (af (qv 8) ao)))))))) br)
  (aq (jy (ja (bW.pt (qe (aN jj (qv 7) ai (aW _)) (qZ (aN jj (qv 8) ai (aW _)))))) (aj (bY (jq lW lU lV dD (qv 5) (af (gy (af (aJ (gi K) (aJ (di K) (qv 2) (qv 6)) ai) (af (qv 8) ao))) ao)))
  (aq (aR (i:=3) e_.nd (aG jZ (qv 3) (qv 8))))) br))))))
  (aq (bg (qv 5))))))))),?_⟩
 have ll:=hW.len
 refine ⟨_,Z,l,Z,⟨_,hl⟩,fun l0 qh=>?_⟩
 refine ng (J:=Ai K l) (n:=us.length) 0 (fun i o H'=>aO H H'/\o=((ws.take i).map (fun r:Row=>r.2)).map V.int) (by omega) ⟨aE qh _,Z⟩ (fun i o H' hi _ hp=>⟨_,_,hp.1.seq hl,bB hi⟩) (fun o H' _ hp=>⟨_,hp.1.seq hl,aK _⟩) ?_ ?_
 . rintro i y o H2 H3 hi fD ha ⟨g,e⟩ ⟨rfl,hy⟩
   have Xw:i<ws.length:=by omega
   have ei:=bB Xw
   obtain ⟨ar,xs,ea,yS,x0,x2⟩:=hW.at_ i _ ei
   have ey:=hy _ (g.seq hl)
   rw [ea] at ey
   cases ey
   refine ⟨_,Z,(g.sq yS).ix (i:=2) x2 ?_⟩
   refine ⟨ha,g.cY qh _,?_⟩
   subst e
   rw [take_snoc ei,bQ,bQ]
   rfl
 rintro o1 H1 _ ha ⟨g1,e⟩
 rw [ll,ee] at e
 subst e
 refine ⟨l0,ws.map (fun r:Row=>r.2),Z,aF.of ha,_,_,Z,Z,?_⟩
 show qR 3 (.int (bu ws-1)) _ _ _
 refine ⟨_,Z,l,_,Z, .inl (g1.seq hl),_,Z,fun pr hpr=>?_⟩
 refine ⟨pr,ws.length,Z,?_,by omega,fun po SA=>?_⟩
 . rw [ah,ll]
 have gA:=(aE hpr (.sZ 0 ((us.length:Nat):Int))).trans (aE SA (.lst ((L2.upTo ws.length).map V.int)))
 have gB:=g1.trans gA
 have hord:upd (upd H1 pr (.sZ 0 ((us.length:Nat):Int))) po (.lst ((L2.upTo ws.length).map V.int)) po=some (.lst ((L2.upTo ws.length).map V.int)):=ah
 generalize upd (upd H1 pr (.sZ 0 ((us.length:Nat):Int))) po (.lst ((L2.upTo ws.length).map V.int))=H2 at *
 have ndo:(L2.upTo ws.length).Nodup:=by
  unfold L2.upTo
  refine List.Pairwise.map _ (fun x y h e=>h (by omega)) List.nodup_range
 have sZ:∀x∈L2.upTo ws.length,0<=x/\x<(ws.length:Int):=fun x hx=>by
  unfold L2.upTo at hx
  obtain ⟨i,hi,rfl⟩:=bJ.mp hx
  have:=u6.mp hi
  omega
 have lup:(L2.upTo ws.length).length=ws.length:=by unfold L2.upTo;rw [aC,List.length_range]
 refine ⟨fun σ H3=>aO H H3/\∃(pq:Addr) (os:List Int),σ=[some (.ref a),some (.int k),some (.ref l),some (.int (bu ws-1)),some (.ref pq),none,none,none,none]/\H3 pq=some (.lst (os.map V.int))/\os.Nodup/\os.length=ws.length/\∀x∈os,0<=x/\x<(ws.length:Int),?_,?_⟩
 . refine ⟨_,Z,_,Z,cM (gB.seq hS) h63 hk0 (by decide) (by decide) (by decide) fun d _ d0 d1=>⟨Z,_,Z,aI (fun c=>?_) (fun c=>?_)⟩⟩
   . refine ⟨_,Z,_,Z,Z,po,_,Z,aF.of hord,fun pz Xh=>?_⟩
     have g3:=aE Xh (.lst ((L2.upTo ws.length).map V.int).reverse)
     exact ⟨gB.trans g3,pz,(L2.upTo ws.length).reverse,Z,by rw [ah,List.map_reverse],List.pairwise_reverse.mpr (List.Pairwise.imp (fun h=>cD h) ndo),by rw [List.length_reverse,lup],fun x hx=>sZ x (List.mem_reverse.mp hx)⟩
   . exact ⟨gB,po,L2.upTo ws.length,Z,hord,ndo,lup,sZ⟩
 rintro σ H3 ⟨g3,pq,os,rfl,hos,hnd,fD,hrg⟩
 refine ⟨(gq 0),fun z hz=>?_⟩
 have g4:=aE hz (.lst [])
 have hzz:upd H3 z (.lst []) z=some (.lst []):=ah
 have Xx:=g4 _ _ hos
 have nz:pq≠z:=fun e=>by rw [e,hz] at hos;cases hos
 have hzH:H z=none:=g3.free hz
 have g34:=g3.trans g4
 show rC _ _ _ _ (upd H3 z (.lst []))
 generalize upd H3 z (.lst [])=H4 at *
 have w1:ws≠[]->1<=bu ws:=fun hne=>by
  cases ws with
  | nil=>exact absurd rfl hne
  | cons r rs=>
    have h1:=hw1 r dg
    have h2:=zq (rs:=rs) fun x hx=>hw1 x (cK _ hx)
    rw [show bu (r::rs)=r.2+bu rs from by unfold bu;rw [cj,fG]]
    omega
 refine ⟨_,Z,pq,Z,⟨_,aF.of Xx⟩,?_⟩
 refine iR (K:=K) (xs:=os.map V.int) (fun i σ H'=>aO H H'/\H' pq=some (.lst (os.map V.int))/\∃(zs:List V) (rs:List Row) (sp:Int) (s6 s7 s8:Option V),σ=[some (.ref a),some (.int k),some (.ref l),some (.int sp),some (.ref pq),some (.ref z),s6,s7,s8]/\H' z=some (.lst zs)/\fq H' zs rs/\rs.length<=i/\(rs.map (fun r:Row=>r.1)).Nodup/\
   sp=bu ws-1-bu rs/\(ws≠[]->0<=sp)/\∀r∈rs,1<=r.2/\r.2<=1000000000/\∃j:Nat,((j:Nat):Int)∈os.take i/\∃w,ws[j]?=some w/\w.1=r.1/\r.2<=w.2)
  ⟨g34,Xx,[],[],bu ws-1,none,none,none,Z,hzz, .nil,aK _,sW,by show _=bu ws-1-0;omega,fun hne=>by have:=w1 hne;omega,fun r hr=>absurd hr (by simp)⟩ ?_ ?_ ?_
 . rintro i σ H' _ ⟨_,h,_⟩
   exact aF.of h
 . rintro i x σ H5 hx ⟨g5,Xy,zs,rs,sp,s6,s7,s8,rfl,LG,hR,hrl,SE,m8,Nb,ug⟩
   rw [b_] at hx
   obtain ⟨at',hat,rfl⟩:=mU.mp hx
   have hio:=(c_.mp hat).1
   obtain ⟨t0,t1⟩:=hrg at' (bR hat)
   obtain ⟨jt,hjt⟩:∃jt:Nat,((jt:Nat):Int)=at':=⟨at'.toNat,by omega⟩
   subst hjt
   have hjl:jt<ws.length:=by omega
   have hne:ws≠[] :=fun e=>by rw [e] at hjl;simp at hjl
   have abN:=Nb hne
   have hnot:((jt:Nat):Int)∉os.take i:=fun m=>by
    obtain ⟨j,hj,ej⟩:=List.mem_iff_getElem.mp m
    rw [List.getElem_take] at ej
    rw [qi] at hj
    have e2:=(c_.mp hat).2
    have:=(List.getElem_inj hnd).mp (ej.trans e2.symm)
    omega
   have ej:=bB hjl
   have hwj:=hw1 _ (bR ej)
   generalize ws[jt]=wj at *
   obtain ⟨ar,xs,ea,yS,x0,x2⟩:=hW.at_ jt _ ej
   refine ⟨_,Z,_,Z,_,Z,_,_,Z,Z, .inl ⟨by decide,by decide⟩,_,_,Z,Z,cM (g5.seq hS) h63 hk0 (by omega) (by omega) (by decide) fun way _ v0 v1=>?_⟩
   refine ⟨_,Z,_,Z,l,_,_,_,Z,Z,g5.seq hl,au ea,(g5.sq yS).ix (i:=2) x2 ?_⟩
   refine ⟨_,Z,_,_,Z,Z,⟨by decide,by decide,by decide⟩,_,_,_,Z,?_⟩
   obtain ⟨m1,m2,m3⟩:=T7 wj.2 sp ((10:Int) ^ (9:Int).toNat)
   have m0:0<=rR wj.2 sp ((10:Int) ^ (9:Int).toNat):=T8 (by omega) abN (by decide)
   have m3:rR wj.2 sp ((10:Int) ^ (9:Int).toNat)<=1000000000:=m3
   generalize rR wj.2 sp ((10:Int) ^ (9:Int).toNat)=m at *
   refine ⟨fun σ H6=>H5=H6/\∃m:Int,0<=m/\m<=sp/\m<=wj.2/\m<=1000000000/\σ=[some (.ref a),some (.int k),some (.ref l),some (.int sp),some (.ref pq),some (.ref z),some (.int (jt:Int)),some (.int way),some (.int m)],?_,?_⟩
   . refine ⟨decide (way=2/\0<m),?_,?_⟩
     . refine ⟨_,Z,Z,_,Z,?_⟩
       by_cases h1:way=2
       . rw [aX (by rw [h1] :V.int way=V.int 2)]
         refine kW ⟨_,Z,_,_,Z,Z,_,Z,?_,Z⟩
         by_cases h2:0<m
         . rw [aX h2,aX ⟨h1,h2⟩]
         . rw [cu h2,cu fun z=>h2 z.2]
       . rw [cu (fun z=>h1 (V.int.inj z))]
         exact gv ⟨(cu fun z=>h1 z.1).symm,Z⟩
     refine aI (fun c=>?_) (fun c=>?_)
     . obtain ⟨_,c2⟩:=aV c
       refine ⟨_,Z,_,Z,_,Z,_,_,Z,Z, .inl ⟨by decide,by decide⟩,_,_,Z,Z,_,Z,cM (g5.seq hS) h63 hk0 (by omega) (by omega) c2 fun d _ d0 d1=>⟨_,_,Z,Z,Z,1+d,by omega,by omega,by omega,by omega,Z⟩⟩
     . exact ⟨Z,m,m0,m2,m1,m3,Z⟩
   rintro σ H6 ⟨rfl,o,o0,o1,o2,o3,rfl⟩
   have grow:∀r∈rs,1<=r.2/\r.2<=1000000000/\∃j:Nat,((j:Nat):Int)∈os.take (i+1)/\∃w,ws[j]?=some w/\w.1=r.1/\r.2<=w.2:=fun r hr=>by
    obtain ⟨a1,a2,j,a3,a4⟩:=ug r hr
    exact ⟨a1,a2,j,by rw [take_snoc hat];exact B4 _ a3,a4⟩
   refine ⟨fun σ H6=>aO H H6/\H6 pq=some (.lst (os.map V.int))/\∃(zs:List V) (rs:List Row) (sp:Int) (s6 s7 s8:Option V),σ=[some (.ref a),some (.int k),some (.ref l),some (.int sp),some (.ref pq),some (.ref z),s6,s7,s8]/\H6 z=some (.lst zs)/\fq H6 zs rs/\rs.length<=i+1/\(rs.map (fun r:Row=>r.1)).Nodup/\
    sp=bu ws-1-bu rs/\(ws≠[]->0<=sp)/\∀r∈rs,1<=r.2/\r.2<=1000000000/\∃j:Nat,((j:Nat):Int)∈os.take (i+1)/\∃w,ws[j]?=some w/\w.1=r.1/\r.2<=w.2,?_,fun _ _ h=>h⟩
   refine ⟨decide (0<way/\0<o),?_,?_⟩
   . refine ⟨_,Z,_,_,Z,Z,_,Z,?_⟩
     by_cases h1:0<way
     . rw [aX h1]
       refine kW ⟨_,Z,_,_,Z,Z,_,Z,?_,Z⟩
       by_cases h2:0<o
       . rw [aX h2,aX ⟨h1,h2⟩]
       . rw [cu h2,cu fun z=>h2 z.2]
     . rw [cu h1]
       exact gv ⟨(cu fun z=>h1 z.1).symm,Z⟩
   refine aI (fun c=>?_) (fun c=>?_)
   . obtain ⟨_,c2⟩:=aV c
     refine ⟨_,Z, .inl ⟨Z,_,aF.of LG⟩,_,Z,_,Z,l,_,_,_,Z,Z,g5.seq hl,au ea,(g5.sq yS).ix (i:=0) x0 ?_⟩
     refine ⟨_,Z,(gq 2),fun p hp=>?_⟩
     have g6:=aE hp (vA (wj.1,o))
     have hz6:=g6 _ _ LG
     have hq6:=g6 _ _ Xy
     have Sl:upd H5 p (vA (wj.1,o)) p=some (vA (wj.1,o)):=ah
     have abO:=hR.length
     show qm _ (upd H5 p (vA (wj.1,o))) _
     generalize upd H5 p (vA (wj.1,o))=H6 at *
     refine ⟨z,_,_,Z,Z,hz6,by rw [abO];exact cU (by omega),?_⟩
     have np:p≠z:=fun e=>by rw [e,LG] at hp;cases hp
     have tu:∀b ys,H6 b=some (.tup ys)->upd H6 z (.lst (zs++[.ref p])) b=some (.tup ys):=i9 (.inr ⟨_,hz6,Z⟩)
     refine ⟨_,Z,_,Z,_,_,Z,Z,(g5.trans g6).cY hzH _,by rw [av nz];exact hq6,zs++[.ref p],rs++[(wj.1,o)],sp-o,_,_,_,Z,ah,((hR.mono g6.tups).snoc Sl).mono tu,by rw [cT];show rs.length+1<=i+1;omega,?_,?_,fun _=>by omega,?_⟩
     . rw [bQ]
       refine mK SE fun hm=>?_
       obtain ⟨r,hr,er⟩:=bJ.mp hm
       obtain ⟨_,_,j,hj,w,Xz,e1,_⟩:=ug r hr
       have hj2:j<ws.length:=(c_.mp Xz).1
       have r1:(ws.map (fun r:Row=>r.1))[j]?=some w.1:=by rw [b_,Xz];rfl
       have r2:(ws.map (fun r:Row=>r.1))[jt]?=some wj.1:=by rw [b_,ej];rfl
       have er:r.1=wj.1:=er
       have:j=jt:=(L5 (by rw [aC];exact hj2) nd).mp (r1.trans (by rw [e1,er];exact r2.symm))
       rw [this] at hj
       exact hnot hj
     . rw [show bu (rs++[(wj.1,o)])=bu rs+o from by unfold bu;rw [bQ,List.sum_append];simp]
       omega
     . intro r hr
       rcases fZ.mp hr with h1|h1
       . exact grow r h1
       . rw [fT.mp h1]
         exact ⟨by show 1<=o;omega,o3,jt,by rw [take_snoc hat];exact iQ _ (fT.mpr rfl),wj,ej,Z,o2⟩
   . exact ⟨g5,Xy,zs,rs,sp,_,_,_,Z,LG,hR,by omega,SE,m8,Nb,grow⟩
 rintro σ H5 ⟨g5,Xy,zs,rs,sp,s6,s7,s8,rfl,LG,hR,hrl,SE,m8,Nb,ug⟩
 rw [aC,fD] at hrl
 refine ⟨_,Z,q z zs rs H5 g5 hzH LG hR ⟨SE,fun r hr=>?_,?_,hrl⟩⟩
 . obtain ⟨a1,a2,j,_,w,hw,e1,e2⟩:=ug r hr
   exact ⟨a1,a2,w,bR hw,e1,e2⟩
 . by_cases c:ws=[]
   . right
     rw [c] at hrl
     exact List.length_eq_zero_iff.mp (by simpa using hrl)
   . left
     have:=Nb c
     omega
abbrev sP:Stmt:=top 32
abbrev pS:List Str:=["_law_rows_here"]
abbrev JR:List Str:=pS.append ["_law_things","_law_name_here","_law_amount"]
theorem nV:aM JR pS (aB sP):=dI
theorem IB (F:At K mg "_law_flat" sP f fd) (CW:mg "tuple"=none):Dn P w K mg base 1 "_law_flat" pS (O5 K):=by
 refine F.oA nV fun cdv A outer s H vs Q E hr h=>?_
 obtain ⟨⟨l,us,rs,rfl,hl,hR,hle,q⟩⟩:=h
 refine ⟨_,(@cQ.h _ _ _ (aj (aR (i:=1) nV.nd (gC (af bw ao)))
  (aj (eO fu rfl (dY K (qv 0)) (gk K (n:=2) rfl (bP (aT (i:=2) nV.nd) (bP (aT (i:=3) nV.nd) gj))) (aj (bY (jq lW lU lV dD (qv 1) (af (qv 2) ao)))
  (aq (bY (jq lW lU lV dD (qv 1) (af (qv 3) ao))))))
  (aq (bg (mR Eg (by rfl) CW PyProof.Rows.boot_tuple (af (qv 1) ao))))))),?_⟩
 have WZ:=hR.length
 refine ⟨(gq 1),fun t ht=>?_⟩
 have g0:=aE ht (.lst [.str "cast"])
 have h0:upd H t (.lst [.str "cast"]) t=some (.lst (Dd.v (.cast (rs.take 0)))):=ah
 show rC _ _ _ _ (upd H t (.lst [.str "cast"]))
 generalize upd H t (.lst [.str "cast"])=H0 at *
 refine ⟨_,Z,l,Z,⟨us,g0.seq hl⟩,?_⟩
 refine iR (K:=K) (xs:=us) (fun i σ H'=>aO H H'/\H' t=some (.lst (Dd.v (.cast (rs.take i))))/\∃s2 s3,σ=[some (.ref l),some (.ref t),s2,s3]) ⟨g0,h0,_,_,Z⟩ (fun i σ H' _ hp=>hp.1.seq hl) ?_ ?_
 . rintro i x σ H' hx ⟨g,hd',s2,s3,rfl⟩
   obtain ⟨a,r,rfl,er,ha⟩:=hR.get hx
   have hlt:(Dd.v (.cast (rs.take i))).length+1<sizeLine:=by
    show (iM (rs.take i)).length+1+1<_
    rw [xG,qi,ji];exact FD (show _<=3000 by omega) (by decide)
   refine ⟨a,_,Z,cO.of (g _ _ ha),Z,_,_,Z,_,_,Z,Z,?_⟩
   refine ⟨_,Z, .inl ⟨Z,_,aF.of hd'⟩,_,Z,t,_,_,Z,Z,hd',by omega,?_⟩
   refine ⟨_,Z, .inl ⟨Z,_,aF.of ah⟩,_,Z,t,_,_,Z,Z,ah,by rw [cT];exact hlt,?_⟩
   refine ⟨?_,?_,_,_,Z⟩
   . rw [mG];exact g.cY ht _
   . rw [ah,take_snoc er]
     show some (HO.lst ((V.str "cast"::iM (rs.take i)++[V.str r.1])++[V.int r.2]))=some (HO.lst (V.str "cast"::iM (rs.take i++[r])))
     rw [xF]
     simp [iM]
 rintro σ H' ⟨g,hd',s2,s3,rfl⟩
 rw [WZ,ee] at hd'
 refine ⟨_,Z,t,_,Z, .inl ⟨aF.of hd',fun z hz=>q z _ (g.trans (aE hz _)) ah⟩⟩
abbrev kZ:Stmt:=top 33
abbrev jw:List Str:=["_law_script","_law_k","_law_model","_law_names_here","_law_way"]
abbrev zR:List Str:=jw.append ["_law_parts","_law_part","_law_owner","_law_whole","_law_rows_here","_law_amount"]
theorem eT:aM zR jw (aB kZ):=dI
theorem yz (F:At K mg "_law_part_deed" kZ f fd) (aU:Dn P w K mg base 1 "_law_draw" f7 (pV K)) (jH:Dn P w K mg base 2 "_law_much" lD (AI K)) (uh:Dn P w K mg base 2 "_law_rows" pR (Ld K)) (um:Dn P w K mg base 1 "_law_flat" pS (O5 K)) (bK:mg "len"=none) (jv:mg "sum"=none) (tT:mg "min"=none):Dn P w K mg base 3 "_law_part_deed" jw (Bm K):=by
 refine F.oA eT fun cdv A outer s H vs Q E hr h=>?_
 obtain ⟨⟨a,m,ln,ns,k,way,nms,c,st,rfl,hS,h63,hk0,hk1,hq,hN,nx,hnl,wf,g,hc,hp0,q⟩⟩:=h
 refine ⟨_,(@cQ.h _ _ _ (aj (aR (i:=5) eT.nd (dM (c9 hr) (qv 2) bw))
  (aj (aR (i:=6) eT.nd (aJ (di K) (qv 5) (bM aU hr (af (qv 0) (af (qv 1) (af ai (af (bD (cN K) (by rfl) bK ff (af (qv 5) ao)) ao)))))))
  (aj (aR (i:=7) eT.nd (aJ (di K) (dM (c9 hr) (qv 2) bw) (bM aU hr (af (qv 0) (af (qv 1) (af ai (af (bD (cN K) (by rfl) bK ff (af (dM (c9 hr) (qv 2) bw) ao)) ao)))))))
  (aj (aR (i:=8) eT.nd (bD (wY K rfl) (by rfl) jv Fw (af (i_ ["_law_one_here"] [none] rfl (dY K (qv 5)) (fun _ _ _ _=>(aT (i:=0) (show List.Nodup (["_law_one_here"] :List Str) from by decide +kernel))) (fun _ _ _ _=>(aJ (gi K) (qv 0) ai)) rfl (by rfl)) ao)))
  (aj (jy (aN lJ (qv 4) ai (aW _)) (aj (aR (i:=9) eT.nd (bM uh hr (af (qv 0) (af (qv 1) (af (qv 5) ao)))))
  (aq (bZ (aN jj (bD (cN K) (by rfl) bK ff (af (qv 9) ao)) ai (aW _)) (aq (bg (bM um hr (af (qv 9) ao)))) br))) br)
  (aj (bZ (aN dw (qv 4) ai (aW _)) (aq (bg (gy (af bw (af (aJ (gi K) (qv 6) ai) (af (qv 7) ao)))))) br)
  (aj (bZ (aN dw (qv 4) ai (aW _)) (aq (bg (gy (af bw (af (aJ (gi K) (qv 6) ai) ao))))) br)
  (aj (bZ (ja (bW.pt (qe (aN dw (qv 4) ai (aW _)) (qZ (aN jj (qv 8) ai (aW _)))))) (aq (bg (gy (af bw (af (qv 7) (af (aG b9 ai (bM aU hr (af (qv 0) (af (qv 1) (af ai (af (bD (wQ rfl) (by rfl) tT LR (af (aG jZ (qv 8) ai) (af (aG k7 ai ai) ao))) ao)))))) ao)))))) br)
  (aj (bZ (ja (bW.pt (qe (aN dw (qv 4) ai (aW _)) (qe (aN jj (aJ (gi K) (qv 6) ai) ai (aW _)) (qZ (aN lJ (bD (cN K) (by rfl) bK ff (af (dM (c9 hr) (qv 2) bw) ao)) (bD (cN K) (by rfl) bK ff (af (qv 3) ao)) (aW _))))))) (aj (aR (i:=10) eT.nd (aG b9 ai (bM aU hr (af (qv 0) (af (qv 1) (af ai (af (bD (wQ rfl) (by rfl) tT LR (af (aG jZ (aJ (gi K) (qv 6) ai) ai) (af (aG k7 ai ai) ao))) ao)))))))
  (aq (bg (gy (af bw (af (aJ (gi K) (qv 6) ai) (af (aJ (di K) (qv 3) (bD (cN K) (by rfl) bK ff (af (dM (c9 hr) (qv 2) bw) ao))) (af (qv 10) (af (bM aU hr (af (qv 0) (af (qv 1) (af ai (af (aG b9 (aJ (gi K) (qv 6) ai) ai) ao))))) ao))))))))) br)
  (aj (bZ (aN dw (qv 4) ai (aW _)) (aq (bg (gy (af bw (af (aJ (gi K) (qv 6) ai) (af (aG b9 ai (bM aU hr (af (qv 0) (af (qv 1) (af ai (af (bD (wQ rfl) (by rfl) tT LR (af (aJ (gi K) (qv 6) ai) (af (aG k7 ai ai) ao))) ao)))))) ao)))))) br)
  (aq (bg (gy (af bw (af (aJ (gi K) (qv 6) ai) (af (bM jH hr (af (qv 0) (af (qv 1) (af ai ao)))) ao))))))))))))))))),?_⟩
 obtain ⟨kvs,lo,lp,lk,us,om,vo,vp,vk,oo,op,rw',ok⟩:=hq
 have ll:=rw'.len
 have hpl:=g.pl
 have fD:=wf.jk
 have abP:=g.ol
 refine ⟨_,Z,m,_,Z,vp▸dR.k (k:=Sum.inr "parts") om,?_⟩
 refine ⟨_,Z,_,Z,_,Z,_,Z,_,us,Z, .inl op,cM hS h63 hk0 (by decide) (by decide) (by omega) fun d _ d0 d1=>?_⟩
 obtain ⟨j,rfl⟩:∃j:Nat,d=(j:Int):=⟨d.toNat,by omega⟩
 have hj:j<st.ak.length:=by omega
 have ep:=bB hj
 have eW:=Ce hj
 generalize st.ak[j]=p at *
 obtain ⟨ap,xs,ea,yS,x0,x1,x2,x3⟩:=rw'.at_ j p ep
 refine ⟨lp,_,_,_,Z,Z,op,au ea,?_⟩
 refine ⟨_,Z,m,_,Z,vo▸dR.k (k:=Sum.inr "owners") om,_,Z,_,Z,_,Z,m,_,Z,vo▸dR.k (k:=Sum.inr "owners") om,lo,_,Z, .inl oo,cM hS h63 hk0 (by decide) (by decide) (by rw [aC];omega) fun wd _ w0 w1=>?_⟩
 rw [aC] at w1
 obtain ⟨jo,o,ejo,eo,XA⟩:=GP (l:=st.own) (d:=wd) w0 w1
 refine ⟨lo,_,_,_,Z,Z,oo,XA,?_⟩
 have how:=bR eo
 have wol:wl o<=20:=oN (g.on o how)
 have Pk:wl p.nm<=20:=oN (g.nk _ (wf.sub p eW))
 have hw0:=wf.jR p eW
 have eg:cy st p.nm=p:=dj wf eW rfl
 have hin:p.nm∈fh st:=yu ep
 refine ⟨_,Z,lp,Z,⟨_,op⟩,fun l0 qh=>?_⟩
 refine ng (J:=Ai K lp) (n:=us.length) 0 (fun i o H'=>aO H H'/\o=((st.ak.take i).map (fun p:Pt=>p.wo)).map V.int) (by omega) ⟨aE qh _,Z⟩ (fun i o H' hi _ hp=>⟨_,_,hp.1.seq op,bB hi⟩) (fun o H' _ hp=>⟨_,hp.1.seq op,aK _⟩) ?_ ?_
 . rintro i y o H2 H3 hi fD ha ⟨g,e⟩ ⟨rfl,hy⟩
   have Xw:i<st.ak.length:=by omega
   have ei:=bB Xw
   obtain ⟨ar,xs,ea,yS,_,_,x2,_⟩:=rw'.at_ i _ ei
   have ey:=hy _ (g.seq op)
   rw [ea] at ey
   cases ey
   refine ⟨_,Z,(g.sq yS).ix (i:=2) x2 ?_⟩
   refine ⟨ha,g.cY qh _,?_⟩
   subst e
   rw [take_snoc ei,bQ,bQ]
   rfl
 rintro o1 H1 _ ha ⟨g1,e⟩
 rw [ll,ee] at e
 subst e
 refine ⟨l0,st.ak.map (fun p:Pt=>p.wo),Z,aF.of ha,?_⟩
 show qR 8 (.int (aY st)) _ _ _
 have ret:∀(t:Addr) (d:Dd) (H2:Hp),aO H H2->H2 t=none->yw nms st d->Q (.ref t) (upd H2 t (.tup (Dd.v d))):=fun t d H2 g2 ht hd=>q t d _ (g2.trans (aE ht _)) ah hd
 have keep:∀d:Dd,nF st d=none->Lg d->d.pl=true->yw nms st d:=fun d h1 h2 h3=>⟨h1,h2,nx.keep (O4 (Dd.Rh h3).1 (Dd.Rh h3).2.1),(Dd.Rh h3).2.2⟩
 refine ⟨fun σ' H'=>aO H H'/\∃s9,σ'=[some (.ref a),some (.int k),some (.ref m),some (.ref ln),some (.int way),some (.ref lp),some (.ref ap),some (.str o),some (.int (aY st)),s9,none],?_,?_⟩
 . refine ⟨_,Z,_,_,Z,Z,_,Z,aI (fun _=>?_) (fun _=>⟨g1,_,Z⟩)⟩
   have hw1:∀w∈wF st,1<=w.2:=fun w hw=>by obtain ⟨p,hp,rfl⟩:=bJ.mp hw;exact (wf.jR p hp).1
   have nwN:((wF st).map (fun r:Row=>r.1)).Nodup:=by unfold wF;rw [iy];exact wf.cX
   have nwL:(wF st).length=st.ak.length:=by unfold wF;rw [aC]
   refine ⟨_,Z,_,Z,_,Z,⟨⟨a,lp,ns,k,us,wF st,Z,g1.seq hS,h63,hk0,hk1,g1.seq op,(rw'.mono g1).nw,nwN,by omega,hw1,fun z zs rs H2 g2 hz0 hz1 hR XC=>?_⟩⟩⟩
   have zl:=hR.length
   refine ⟨_,Z,z,zs,Z, .inl (aF.of hz1),_,_,Z,Z,_,Z,aI (fun c=>?_) (fun c=>⟨g1.trans g2,_,Z⟩)⟩
   have c':(0:Int)<(zs.length:Int):=aV c
   have hne:rs≠[] :=fun e=>by rw [zl,e] at c';simp at c'
   have rl:=XC.len
   have:=nx.pl wf
   refine ⟨_,Z,⟨⟨z,zs,rs,Z,aF.of hz1,hR,by omega,fun t H3 g3 ht=>q t (.cast rs) H3 ((g1.trans g2).trans g3) ht (keep _ (MR wf XC hne) ⟨by omega,fun r hr=>?_⟩ rfl)⟩⟩⟩
   obtain ⟨r1,r2,w,hw,e,_⟩:=XC.row r hr
   obtain ⟨p',fX,rfl⟩:=bJ.mp hw
   have e:p'.nm=r.1:=e
   exact ⟨by rw [<-e];exact oN (g.nk _ (wf.sub p' fX)),by omega,r2⟩
 rintro σ H2 ⟨g2,s9,rfl⟩
 have uo:=g2.sq yS
 have IC:=g2.seq hS
 have P9:Qg 10 9:=⟨by decide,by decide,by decide +kernel⟩
 have p9:(10:Int) ^ (9:Int).toNat=1000000000:=by decide +kernel
 have mn:∀w:Int,0<w->0<(if (10:Int) ^ (9:Int).toNat<w then (10:Int) ^ (9:Int).toNat else w)/\(if (10:Int) ^ (9:Int).toNat<w then (10:Int) ^ (9:Int).toNat else w)<=w/\(if (10:Int) ^ (9:Int).toNat<w then (10:Int) ^ (9:Int).toNat else w)<=1000000000:=fun w h=>by rw [p9];split <;> omega
 refine ⟨_,Z,Z,_,Z,aI (fun _=>?_) (fun _=>?_)⟩
 . exact ⟨_,Z,uo.ix (i:=0) x0 ⟨_,Z,(gq 3),fun t ht=>ret t (.hand p.nm o) H2 g2 ht (keep _ (by show kL st p.nm o=none;unfold kL;rw [aA hin,aA how]) ⟨Pk,wol⟩ rfl)⟩⟩
 refine ⟨_,Z,Z,_,Z,aI (fun _=>?_) (fun _=>?_)⟩
 . exact ⟨_,Z,uo.ix (i:=0) x0 ⟨(gq 2),fun t ht=>ret t (.land p.nm) H2 g2 ht (keep _ (aA hin) Pk rfl)⟩⟩
 by_cases wC:way=10/\1<aY st
 . refine ⟨true,⟨_,Z,Z,_,Z,aI (fun _=>⟨_,Z,_,_,Z,Z,_,Z,aX wC.2,Z⟩) (fun c=>absurd (aX (by rw [wC.1])) c)⟩,kW ?_⟩
   obtain ⟨m0,m1,m2⟩:=mn (aY st-1) (by omega)
   refine ⟨_,Z,_,Z,_,Z,_,Z,_,_,Z,Z,_,_,Z,Z,P9,_,_,Z,cM IC h63 hk0 (by decide) (by decide) m0 fun d _ d0 d1=>⟨_,_,Z,Z,(gq 3),fun t ht=>ret t (.award o (1+d)) H2 g2 ht (keep _ ?_ ⟨wol,by omega,by omega⟩ rfl)⟩⟩
   show kg st o (1+d)=none
   unfold kg
   rw [aA how,az (by omega),az (by omega)]
 refine ⟨false,⟨_,Z,Z,_,Z,aI (fun c=>⟨_,Z,_,_,Z,Z,_,Z,cu (fun z=>wC ⟨V.int.inj (aV c),z⟩),Z⟩) (fun c=>⟨Z,Z⟩)⟩,gv ?_⟩
 have Nc:((nms.map V.str).length:Int)=(nms.length:Int):=by rw [aC]
 have Nd:((st.nms.map V.str).length:Int)=(st.nms.length:Int):=by rw [aC]
 by_cases h11:way=11/\1<p.wo/\st.nms.length<nms.length
 . refine ⟨true,⟨_,Z,Z,_,Z,aI (fun _=>⟨_,Z,uo.ix (i:=2) x2 ⟨_,_,Z,Z,_,Z,aI (fun _=>⟨_,Z,m,_,Z,vk▸dR.k (k:=Sum.inr "known") (g2 _ _ om),lk,_,Z, .inl (g2.seq ok),_,Z,ln,_,Z, .inl (g2.seq hN),_,_,Z,Z,_,Z,aX (by rw [Nc,Nd];omega),Z⟩) (fun c=>absurd (aX h11.2.1) c)⟩⟩) (fun c=>absurd (aX (by rw [h11.1])) c)⟩,kW ?_⟩
   obtain ⟨m0,m1,m2⟩:=mn (p.wo-1) (by omega)
   have ey:=bB h11.2.2
   obtain ⟨y1,y2,y3⟩:=nx.next ey
   generalize nms[st.nms.length]=y at *
   have XD:qN (nms.map V.str) ((st.nms.length:Nat):Int)=some (.str y):=au (by rw [b_,ey];rfl)
   refine ⟨_,Z,_,Z,_,Z,uo.ix (i:=2) x2 ⟨_,_,Z,Z,_,_,Z,Z,P9,_,_,Z,cM IC h63 hk0 (by decide) (by decide) m0 fun d _ d0 d1=>⟨_,_,Z,Z,?_⟩⟩⟩
   refine ⟨_,Z,uo.ix (i:=0) x0 ⟨_,Z,_,Z,m,_,Z,vk▸dR.k (k:=Sum.inr "known") (g2 _ _ om),lk,_,Z, .inl (g2.seq ok),ln,_,_,_,Z,Z,g2.seq hN,by rw [aC];exact XD,_,Z,_,Z,_,Z,_,Z,uo.ix (i:=3) x3 ⟨_,_,Z,Z,cM IC h63 hk0 (by decide) (by decide) (by omega) fun v _ v0 v1=>⟨(gq 5),fun t ht=>ret t (.sever p.nm y (1+d) v) H2 g2 ht ⟨?_,⟨Pk,oN y1,⟨by omega,by omega⟩,⟨by omega,?_⟩⟩,y3 _ rfl,by show (8:Nat)≠0;decide⟩⟩⟩⟩⟩
   . show iN st p.nm y (1+d) v=none
     unfold iN
     rw [aA hin,xE y1 y2,eg]
     show (if _ then _ else _)=none
     rw [az (by omega),az (by omega)]
   . have:=g.we p eW
     omega
 refine ⟨false,⟨_,Z,Z,_,Z,aI (fun c=>⟨_,Z,uo.ix (i:=2) x2 ⟨_,_,Z,Z,_,Z,aI (fun c2=>⟨_,Z,m,_,Z,vk▸dR.k (k:=Sum.inr "known") (g2 _ _ om),lk,_,Z, .inl (g2.seq ok),_,Z,ln,_,Z, .inl (g2.seq hN),_,_,Z,Z,_,Z,cu (fun z=>h11 ⟨V.int.inj (aV c),aV c2,by rw [Nc,Nd] at z;omega⟩),Z⟩) (fun c=>⟨Z,Z⟩)⟩⟩) (fun c=>⟨Z,Z⟩)⟩,gv ?_⟩
 refine ⟨_,Z,Z,_,Z,aI (fun _=>?_) (fun _=>?_)⟩
 . obtain ⟨m0,m1,m2⟩:=mn p.wo (by omega)
   refine ⟨_,Z,uo.ix (i:=0) x0 ⟨_,Z,_,Z,_,Z,uo.ix (i:=2) x2 ⟨_,_,Z,Z,P9,_,_,Z,cM IC h63 hk0 (by decide) (by decide) m0 fun d _ d0 d1=>⟨_,_,Z,Z,(gq 3),fun t ht=>ret t (.mishap p.nm (1+d)) H2 g2 ht (keep _ ?_ ⟨Pk,by omega,by omega⟩ rfl)⟩⟩⟩⟩
   show jM st (p.nm,1+d)=none
   unfold jM
   show (if p.nm∈fh st then (if 1+d<1 then _ else if (cy st p.nm).wo<1+d then _ else _) else _)=none
   rw [aA hin,az (by omega),eg,az (by omega)]
 refine ⟨_,Z,uo.ix (i:=0) x0 ⟨_,Z,_,Z,Gq IC h63 hk0 (by decide) (by decide) fun w H3 w1 w2 g3=>⟨(gq 3),fun t ht=>ret t (.rise p.nm w) H3 (g2.trans g3) ht (keep _ ?_ ⟨Pk,by omega,by omega⟩ rfl)⟩⟩⟩
 show lK st p.nm w=none
 unfold lK
 rw [aA hin,az (by omega)]
abbrev sQ:Stmt:=top 34
abbrev pT:List Str:=["_law_script","_law_k","_law_model","_law_names_here"]
abbrev JS:List Str:=pT.append ["_law_way","_law_more","_law_owner","_law_worth"]
theorem kC:aM JS pT (aB sQ):=dI
theorem ID (F:At K mg "_law_deed" sQ f fd) (aU:Dn P w K mg base 1 "_law_draw" f7 (pV K)) (jH:Dn P w K mg base 2 "_law_much" lD (AI K)) (mE:Dn P w K mg base 3 "_law_part_deed" jw (Bm K)) (bK:mg "len"=none):Dn P w K mg base 4 "_law_deed" pT (O6 K):=by
 refine F.oA kC fun cdv A outer s H vs Q E hr h=>?_
 obtain ⟨⟨a,m,ln,ns,k,nms,c,st,rfl,hS,h63,hk0,hk1,hq,hN,nx,hnl,wf,g,hc,q⟩⟩:=h
 refine ⟨_,(@cQ.h _ _ _ (aj (aR (i:=4) kC.nd (bM aU hr (af (qv 0) (af (qv 1) (af ai (af ai ao))))))
  (aj (aR (i:=5) kC.nd (uP lJ (bD (cN K) (by rfl) bK ff (af (dM (c9 hr) (qv 2) bw) ao)) (bD (cN K) (by rfl) bK ff (af (qv 3) ao)) (aW _)))
  (aj (bZ (ja (bW.pt (qe (rS (qv 5)) (qZ (ja (bW.pt (vN (aN lJ (qv 4) ai (aW _)) (xK (aN lJ (bD (cN K) (by rfl) bK ff (af (dM (c9 hr) (qv 2) bw) ao)) ai (aW _)))))))))) (aj (aR (i:=6) kC.nd (aJ (di K) (dM (c9 hr) (qv 2) bw) (bM aU hr (af (qv 0) (af (qv 1) (af ai (af (bD (cN K) (by rfl) bK ff (af (dM (c9 hr) (qv 2) bw) ao)) ao)))))))
  (aj (aR (i:=7) kC.nd (bM jH hr (af (qv 0) (af (qv 1) (af ai ao)))))
  (aq (bg (gy (af bw (af (aJ (di K) (qv 3) (bD (cN K) (by rfl) bK ff (af (dM (c9 hr) (qv 2) bw) ao))) (af (qv 6) (af (qv 7) (af (bM aU hr (af (qv 0) (af (qv 1) (af ai (af ai ao))))) ao)))))))))) br)
  (aj (bZ (aN dw (bD (cN K) (by rfl) bK ff (af (dM (c9 hr) (qv 2) bw) ao)) ai (aW _)) (aq (bg (gy (af bw ao)))) br)
  (aq (bg (bM mE hr (af (qv 0) (af (qv 1) (af (qv 2) (af (qv 3) (af (qv 4) ao))))))))))))),?_⟩
 obtain ⟨kvs,lo,lp,lk,us,om,vo,vp,vk,oo,op,rw',ok⟩:=id hq
 have ll:=rw'.len
 have hpl:=g.pl
 have fD:=wf.jk
 have abP:=g.ol
 have Nc:((nms.map V.str).length:Int)=(nms.length:Int):=by rw [aC]
 have Nd:((st.nms.map V.str).length:Int)=(st.nms.length:Int):=by rw [aC]
 refine ⟨_,Z,_,Z,cM hS h63 hk0 (by decide) (by decide) (by decide) fun way _ v0 v1=>?_⟩
 refine ⟨_,Z,m,_,Z,vk▸dR.k (k:=Sum.inr "known") om,lk,_,Z, .inl ok,_,Z,ln,_,Z, .inl hN,_,_,Z,Z,?_⟩
 rw [Nc,Nd]
 have orR:∀b:Bool,b=decide (way<3\/st.ak.length<2)->(Zg (Mf (KI (yD fun i j=>V.bl (decide (i<j))) (Ma 4) (tC (V.int 3)))) (Mf (KI (yD fun i j=>V.bl (decide (i<j))) (Vq (fun xs H Q=>∃p ys,xs=[V.ref p]/\(aF K H p ys\/cO K H p ys)/\Q (V.int ↑ys.length) H) (Fi (RU (Ma 2) (tC (V.str "parts"))) qm)) (tC (V.int 2))))) [some (.ref a),some (.int k),some (.ref m),some (.ref ln),some (.int way),some (.bl (decide ((st.nms.length:Int)<(nms.length:Int)))),none,none] H (fun b' H'=>b'=b/\H'=H):=fun b eb=>by
  refine ⟨_,Z,_,_,Z,Z,_,Z,aI (fun c=>⟨?_,Z⟩) (fun c=>⟨_,Z,m,_,Z,vp▸dR.k (k:=Sum.inr "parts") om,lp,_,Z, .inl op,_,_,Z,Z,_,Z,?_,Z⟩)⟩
  . rw [eb];exact (aX (.inl (aV c))).symm
  . have c':¬ way<3:=rm (oB.mpr c)
    rw [eb]
    by_cases h2:st.ak.length<2
    . rw [aX (.inr h2:way<3\/st.ak.length<2)];exact aX (by omega)
    . rw [cu (fun z=>z.elim c' h2:¬ (way<3\/st.ak.length<2))];exact cu (by omega)
 by_cases hL:st.nms.length<nms.length/\(way<3\/st.ak.length<2)
 . refine ⟨true,⟨_,Z,_,Z,aI (fun _=>⟨true,orR true (aX hL.2).symm,Z,Z⟩) (fun c=>absurd (aX (by omega)) c)⟩,kW ?_⟩
   have ey:=bB hL.1
   obtain ⟨y1,y2,y3⟩:=nx.next ey
   generalize nms[st.nms.length]=y at *
   have XD:qN (nms.map V.str) ((st.nms.length:Nat):Int)=some (.str y):=au (by rw [b_,ey];rfl)
   refine ⟨_,Z,m,_,Z,vo▸dR.k (k:=Sum.inr "owners") om,_,Z,_,Z,_,Z,m,_,Z,vo▸dR.k (k:=Sum.inr "owners") om,lo,_,Z, .inl oo,cM hS h63 hk0 (by decide) (by decide) (by rw [aC];omega) fun wd _ w0 w1=>?_⟩
   rw [aC] at w1
   obtain ⟨jo,o,ejo,eo,XA⟩:=GP (l:=st.own) (d:=wd) w0 w1
   have how:=bR eo
   refine ⟨lo,_,_,_,Z,Z,oo,XA,?_⟩
   refine ⟨_,Z,_,Z,Gq hS h63 hk0 (by decide) (by decide) fun w H1 w1 w2 g1=>?_⟩
   refine ⟨_,Z,_,Z,m,_,Z,vk▸dR.k (k:=Sum.inr "known") (g1 _ _ om),lk,_,Z, .inl (g1.seq ok),ln,_,_,_,Z,Z,g1.seq hN,by rw [aC];exact XD,_,Z,_,Z,_,Z,_,Z,cM (g1.seq hS) h63 hk0 (by decide) (by decide) (by decide) fun v _ v0 v1=>⟨(gq 5),fun t ht=>q t (.load y o w v) _ (g1.trans (aE ht _)) ah ⟨MO y1 y2 how w1 v0,⟨oN y1,oN (g.on o how),⟨by omega,by omega⟩,⟨by omega,by omega⟩⟩,y3 _ rfl,by show (1:Nat)≠0;decide⟩⟩⟩
 refine ⟨false,⟨_,Z,_,Z,aI (fun c=>⟨false,orR false (cu (fun z=>hL ⟨by have:=aV c;omega,z⟩)).symm,Z,Z⟩) (fun c=>⟨Z,Z⟩)⟩,gv ?_⟩
 refine ⟨_,Z,m,_,Z,vp▸dR.k (k:=Sum.inr "parts") om,lp,_,Z, .inl op,Z,_,Z,aI (fun c=>?_) (fun cz=>?_)⟩
 . exact ⟨(gq 1),fun t ht=>q t .still _ (aE ht _) ah ⟨Z,True.intro,nx,by show (9:Nat)≠0;decide⟩⟩
 have c':0<st.ak.length:=Nat.pos_of_ne_zero fun z=>cz (aX (by rw [ll,z];rfl))
 exact ⟨_,Z,_,Z,_,Z,_,Z,_,Z,⟨⟨a,m,ln,ns,k,way,nms,c,st,Z,hS,h63,hk0,hk1,hq,hN,nx,hnl,wf,g,hc,c',q⟩⟩⟩
abbrev v8:Stmt:=top 35
abbrev tU:List Str:=["_law_parts","_law_name_here"]
abbrev Pn:List Str:=tU.append ["_law_at_here"]
theorem BG:aM Pn tU (aB v8):=dI
theorem Nf (F:At K mg "_law_at" v8 f fd) (bK:mg "len"=none) (cR:mg "range"=none):Dn P w K mg base 1 "_law_at" tU (R9 K):=by
 refine F.oA BG fun cdv A outer s H vs Q E hr h=>?_
 obtain ⟨⟨l,us,ws,j,r,rfl,hl,hW,nd,hle,ej,q⟩⟩:=h
 refine ⟨_,(@cQ.h _ _ _ (aj (eO fu rfl (mQ (by rfl) cR (af (bD (cN K) (by rfl) bK ff (af (qv 0) ao)) ao)) (aT (i:=2) BG.nd) (aq (bZ (aN dw (aJ (gi K) (aJ (di K) (qv 0) (qv 2)) ai) (qv 1) (aW _)) (aq (bg (qv 2))) br)))
  (aq (bg (Sf NK ai))))),?_⟩
 have ll:=hW.len
 have hj:j<ws.length:=(c_.mp ej).1
 refine ⟨_,Z,l,_,Z, .inl hl,_,Z,by omega,by omega,?_⟩
 refine mH (lo:=0) (n:=((us.length:Nat):Int).toNat) (fun i σ H'=>H'=H/\i<=j/\∃s2,σ=[some (.ref l),some (.str r.1),s2]) ⟨Z,gH _,_,Z⟩ ?_ ?_
 . rintro i σ H' hi ⟨rfl,hn,s2,rfl⟩
   have e0:(0:Int)+(i:Int)=((i:Nat):Int):=by omega
   rw [e0]
   have hio:i<ws.length:=by omega
   have ei:=bB hio
   obtain ⟨a,xs,ea,yS,x0,_⟩:=hW.at_ i _ ei
   refine ⟨_,Z,_,Z,l,_,_,_,Z,Z,hl,au ea,yS.ix (i:=0) x0 ?_⟩
   refine ⟨_,Z,Z,_,Z,aI (fun c=>?_) (fun c=>?_)⟩
   . have c':(ws[i]).1=r.1:=V.str.inj (aV c)
     have:i=j:=by
      have r1:(ws.map (fun r:Row=>r.1))[i]?=some (ws[i]).1:=by rw [b_,ei];rfl
      have r2:(ws.map (fun r:Row=>r.1))[j]?=some r.1:=by rw [b_,ej];rfl
      exact (L5 (by rw [aC];exact hio) nd).mp (r1.trans (by rw [c'];exact r2.symm))
     subst this
     exact ⟨_,Z,q⟩
   . refine ⟨Z,?_,_,Z⟩
     rcases Nat.lt_or_ge i j with z|z
     . exact z
     . have:i=j:=by omega
       subst this
       rw [ei] at ej
       cases ej
       exact absurd (aX rfl) c
 rintro σ H' ⟨rfl,hn,s2,rfl⟩
 omega
abbrev mF:Stmt:=top 36
abbrev jW:List Str:=["_law_model","_law_part","_law_deed_here"]
abbrev BH:List Str:=jW
theorem zS:aM BH jW (aB mF):=dI
theorem zT (F:At K mg "_law_lite_one" mF f fd):Dn P w K mg base 1 "_law_lite_one" jW (D7 K):=by
 refine F.oA zS fun cdv A outer s H vs Q E hr h=>?_
 obtain ⟨⟨n,ρ,B,st,i,p,a,z,d,rfl,hz,G,hb,ep,ea,hd,hpl,hkl,q⟩⟩:=h
 refine ⟨_,(@cQ.h _ _ _ (aq (bZ (aN dw (aJ (aP K) (qv 2) ai) bw (aW _)) (aq (lg (aG jZ (aJ (di K) (qv 1) ai) (aJ (aP K) (qv 2) ai)) (lu (qv 1) ai set_list))) (aq (bZ (aN dw (aJ (aP K) (qv 2) ai) bw (aW _)) (aq (lg (aG b9 (aJ (di K) (qv 1) ai) (aJ (aP K) (qv 2) ai)) (lu (qv 1) ai set_list))) (aq (bZ (aN dw (aJ (aP K) (qv 2) ai) bw (aW _)) (aq (lg (aJ (aP K) (qv 2) ai) (lu (qv 1) ai set_list))) (aq (bZ (aN dw (aJ (aP K) (qv 2) ai) bw (aW _)) (aq (lg ai (lu (qv 1) ai set_list))) (aq (bZ (aN dw (aJ (aP K) (qv 2) ai) bw (aW _)) (aj (lg (aG jZ (aJ (di K) (qv 1) ai) (aJ (aP K) (qv 2) ai)) (lu (qv 1) ai set_list))
  (aj (lg (aG jZ (aJ (di K) (qv 1) ai) (aJ (aP K) (qv 2) ai)) (lu (qv 1) ai set_list))
  (aj (bY (jq lW lU lV dD (dM (c9 hr) (qv 0) bw) (af (gC (af (aJ (aP K) (qv 2) ai) (af (aJ (di K) (qv 1) ai) (af (aJ (aP K) (qv 2) ai) (af (aJ (aP K) (qv 2) ai) ao))))) ao)))
  (aq (bY (jq lW lU lV dD (dM (c9 hr) (qv 0) bw) (af (aJ (aP K) (qv 2) ai) ao))))))) br))))))))))),?_⟩
 obtain ⟨ha,ca⟩:=hb.pt i _ a (uQ ep) ea
 have ha:H a=some (.lst [.str p.nm, .str p.ow, .int p.wo, .int p.we]):=ha
 have fY:cO K H z d.v:=cO.of hz
 have za:z≠a:=fun e=>by rw [e,ha] at hz;cases hz
 cases d with
 | mishap x m=>
   refine ⟨_,Z,z,_,_,_,Z,Z,fY,au (j:=0) rfl,Z,_,Z,aI (fun _=>?_) (fun c=>absurd (aX rfl) c)⟩
   refine ⟨_,Z,a,_,_,_,Z,Z,aF.of ha,au (j:=2) rfl,_,Z,z,_,_,_,Z,Z,fY,au (j:=2) rfl,_,_,Z,Z,_,Z,a,_,_,2,Z,Z,ha,Z,?_⟩
   exact q _ _ _ (G.wr rfl) (hb.ir G (p.nm,p.ow,p.wo-m,p.we) ea) rfl (Fr.write ca)
 | rise x m=>
   refine ⟨_,Z,z,_,_,_,Z,Z,fY,au (j:=0) rfl,Z,_,Z,aI (fun c=>absurd (aV c) (by decide)) (fun c=>?_)⟩
   refine ⟨_,Z,z,_,_,_,Z,Z,fY,au (j:=0) rfl,Z,_,Z,aI (fun _=>?_) (fun c=>absurd (aX rfl) c)⟩
   refine ⟨_,Z,a,_,_,_,Z,Z,aF.of ha,au (j:=2) rfl,_,Z,z,_,_,_,Z,Z,fY,au (j:=2) rfl,_,_,Z,Z,_,Z,a,_,_,2,Z,Z,ha,Z,?_⟩
   exact q _ _ _ (G.wr rfl) (hb.ir G (p.nm,p.ow,p.wo+m,p.we) ea) rfl (Fr.write ca)
 | hand x o=>
   refine ⟨_,Z,z,_,_,_,Z,Z,fY,au (j:=0) rfl,Z,_,Z,aI (fun c=>absurd (aV c) (by decide)) (fun c=>?_)⟩
   refine ⟨_,Z,z,_,_,_,Z,Z,fY,au (j:=0) rfl,Z,_,Z,aI (fun c=>absurd (aV c) (by decide)) (fun c=>?_)⟩
   refine ⟨_,Z,z,_,_,_,Z,Z,fY,au (j:=0) rfl,Z,_,Z,aI (fun _=>?_) (fun c=>absurd (aX rfl) c)⟩
   refine ⟨_,Z,z,_,_,_,Z,Z,fY,au (j:=2) rfl,_,Z,a,_,_,1,Z,Z,ha,Z,?_⟩
   exact q _ _ _ (G.wr rfl) (hb.ir G (p.nm,o,p.wo,p.we) ea) rfl (Fr.write ca)
 | land x=>
   refine ⟨_,Z,z,_,_,_,Z,Z,fY,au (j:=0) rfl,Z,_,Z,aI (fun c=>absurd (aV c) (by decide)) (fun c=>?_)⟩
   refine ⟨_,Z,z,_,_,_,Z,Z,fY,au (j:=0) rfl,Z,_,Z,aI (fun c=>absurd (aV c) (by decide)) (fun c=>?_)⟩
   refine ⟨_,Z,z,_,_,_,Z,Z,fY,au (j:=0) rfl,Z,_,Z,aI (fun c=>absurd (aV c) (by decide)) (fun c=>?_)⟩
   refine ⟨_,Z,z,_,_,_,Z,Z,fY,au (j:=0) rfl,Z,_,Z,aI (fun _=>?_) (fun c=>absurd (aX rfl) c)⟩
   refine ⟨_,Z,a,_,_,2,Z,Z,ha,Z,?_⟩
   exact q _ _ _ (G.wr rfl) (hb.ir G (p.nm,p.ow,0,p.we) ea) rfl (Fr.write ca)
 | sever x y m we=>
   refine ⟨_,Z,z,_,_,_,Z,Z,fY,au (j:=0) rfl,Z,_,Z,aI (fun c=>absurd (aV c) (by decide)) (fun c=>?_)⟩
   refine ⟨_,Z,z,_,_,_,Z,Z,fY,au (j:=0) rfl,Z,_,Z,aI (fun c=>absurd (aV c) (by decide)) (fun c=>?_)⟩
   refine ⟨_,Z,z,_,_,_,Z,Z,fY,au (j:=0) rfl,Z,_,Z,aI (fun c=>absurd (aV c) (by decide)) (fun c=>?_)⟩
   refine ⟨_,Z,z,_,_,_,Z,Z,fY,au (j:=0) rfl,Z,_,Z,aI (fun c=>absurd (aV c) (by decide)) (fun c=>?_)⟩
   refine ⟨_,Z,z,_,_,_,Z,Z,fY,au (j:=0) rfl,Z,_,Z,aI (fun _=>?_) (fun c=>absurd (aX rfl) c)⟩
   refine ⟨_,Z,a,_,_,_,Z,Z,aF.of ha,au (j:=2) rfl,_,Z,z,_,_,_,Z,Z,fY,au (j:=3) rfl,_,_,Z,Z,_,Z,a,_,_,2,Z,Z,ha,Z,?_⟩
   have h1:=hb.ir G (p.nm,p.ow,p.wo-m,p.we) ea
   have G1:=G.wr (a:=a) (o:= .lst (gD (p.nm,p.ow,p.wo-m,p.we))) rfl
   have F1:Fr n ρ H ρ (upd H a (.lst (gD (p.nm,p.ow,p.wo-m,p.we)))):=Fr.write ca
   have z1:upd H a (.lst (gD (p.nm,p.ow,p.wo-m,p.we))) z=some (.tup (Dd.v (.sever x y m we))):=by rw [av za];exact hz
   have a1:upd H a (.lst (gD (p.nm,p.ow,p.wo-m,p.we))) a=some (.lst (gD (p.nm,p.ow,p.wo-m,p.we))):=ah
   have n1:∀b,upd H a (.lst (gD (p.nm,p.ow,p.wo-m,p.we))) b=none->H b=none:=fun b=>iU
   show rC _ _ _ _ (upd H a (.lst (gD (p.nm,p.ow,p.wo-m,p.we))))
   generalize upd H a (.lst (gD (p.nm,p.ow,p.wo-m,p.we)))=H1 at *
   refine ⟨_,Z,a,_,_,_,Z,Z,aF.of a1,au (j:=3) rfl,_,Z,z,_,_,_,Z,Z,cO.of z1,au (j:=4) rfl,_,_,Z,Z,_,Z,a,_,_,3,Z,Z,a1,Z,?_⟩
   have h2:bH n ρ B (upd H1 a (.lst (gD (p.nm,p.ow,p.wo-m,p.we-we)))) { dZ st with ak:=(bh st).set i (p.nm,p.ow,p.wo-m,p.we-we) }:=by
    have:=h1.ir G1 (p.nm,p.ow,p.wo-m,p.we-we) ea
    have e:((bh st).set i (p.nm,p.ow,p.wo-m,p.we)).set i (p.nm,p.ow,p.wo-m,p.we-we)=(bh st).set i (p.nm,p.ow,p.wo-m,p.we-we):=sX ..
    rw [<-e];exact this
   have G2:=G1.wr (a:=a) (o:= .lst (gD (p.nm,p.ow,p.wo-m,p.we-we))) rfl
   have F2:=F1.trans (Fr.write (o:= .lst (gD (p.nm,p.ow,p.wo-m,p.we-we))) ca)
   have z2:upd H1 a (.lst (gD (p.nm,p.ow,p.wo-m,p.we-we))) z=some (.tup (Dd.v (.sever x y m we))):=by rw [av za];exact z1
   have a2:upd H1 a (.lst (gD (p.nm,p.ow,p.wo-m,p.we-we))) a=some (.lst (gD (p.nm,p.ow,p.wo-m,p.we-we))):=ah
   have n2:∀b,upd H1 a (.lst (gD (p.nm,p.ow,p.wo-m,p.we-we))) b=none->H b=none:=fun b h=>n1 b (iU h)
   show rC _ _ _ _ (upd H1 a (.lst (gD (p.nm,p.ow,p.wo-m,p.we-we))))
   generalize upd H1 a (.lst (gD (p.nm,p.ow,p.wo-m,p.we-we)))=H2 at *
   refine ⟨_,Z,B.m,_,Z,dR.k (k:=Sum.inr "parts") h2.om, .inl ⟨Z,_,aF.of h2.op⟩,_,Z,z,_,_,_,Z,Z,cO.of z2,au (j:=2) rfl,_,Z,a,_,_,_,Z,Z,aF.of a2,au (j:=1) rfl,_,Z,z,_,_,_,Z,Z,cO.of z2,au (j:=3) rfl,_,Z,z,_,_,_,Z,Z,cO.of z2,au (j:=4) rfl,(gq 4),fun t ht=>?_⟩
   have g3:=aE ht (.lst (gD (y,p.ow,m,we)))
   have t3:upd H2 t (.lst (gD (y,p.ow,m,we))) t=some (.lst (gD (y,p.ow,m,we))):=ah
   show qm _ (upd H2 t (.lst (gD (y,p.ow,m,we)))) _
   generalize upd H2 t (.lst (gD (y,p.ow,m,we)))=H3 at *
   have tn:H t=none:=n2 t ht
   have ct:ρ t=none:=G2.none ht
   have h3:=(h2.mono g3).col (t:=44) (x:=nx) ct
   have G3:Gh (cE ρ t (n,44,nx)) H3:=(G2.same g3).color t3 rfl
   have F3:Fr n ρ H (cE ρ t (n,44,nx)) H3:=(F2.trans (Fr.of_same (ρ:=ρ) g3)).l_ tn
   have tq:t∉B.qs:=fun mem=>by
    obtain ⟨j,hj,ej⟩:=wL mem
    have hj2:j<((bh st).set i (p.nm,p.ow,p.wo-m,p.we-we)).length:=by rw [gG,<-show B.qs.length=(bh st).length from hb.ql];exact hj
    have:=(h2.pt j _ t (bB hj2) (by rw [bB hj,ej])).1
    rw [ht] at this;cases this
   have ql:(bh st).length=st.ak.length:=by unfold bh;rw [aC]
   have lq:(B.qs.map V.ref).length<1000:=by rw [aC,hb.ql];show (bh st).length<1000;rw [ql];exact hpl
   refine ⟨B.lp,_,_,Z,Z,h3.op,cU (by omega),?_⟩
   rw [show B.qs.map V.ref++[V.ref t]=(B.qs++[t]).map V.ref from by rw [bQ];rfl]
   have h4:=h3.O3 G3 (q:=(y,p.ow,m,we)) t3 c6 tq
   have G4:=G3.wr (a:=B.lp) (o:= .lst ((B.qs++[t]).map V.ref)) rfl
   have F4:=F3.trans (Fr.write (o:= .lst ((B.qs++[t]).map V.ref)) h3.cp)
   have nz:z≠B.lp:=fun e=>by have:=h3.op;rw [<-e,g3 _ _ z2] at this;cases this
   have z4:upd H3 B.lp (.lst ((B.qs++[t]).map V.ref)) z=some (.tup (Dd.v (.sever x y m we))):=by rw [av nz];exact g3 _ _ z2
   generalize upd H3 B.lp (.lst ((B.qs++[t]).map V.ref))=H4 at *
   refine ⟨_,Z,B.m,_,Z,dR.k (k:=Sum.inr "known") h4.om, .inl ⟨Z,_,aF.of h4.ok⟩,_,Z,z,_,_,_,Z,Z,cO.of z4,au (j:=2) rfl,B.lk,_,_,Z,Z,h4.ok,by rw [aC];exact cU (by show st.nms.length<=1000;omega),?_⟩
   rw [show List.map V.str (dZ st).Bl++[V.str y]=(st.nms++[y]).map V.str from by rw [bQ];rfl]
   exact q _ _ _ (G4.wr rfl) (h4.Lu G4 (st.nms++[y])) rfl (F4.trans (Fr.write h4.ck))
 | _=>exact absurd hd (by simp [Dd.part])
abbrev nW:Stmt:=top 37
abbrev kR:List Str:=["_law_model","_law_deed_here"]
abbrev CY:List Str:=kR.append ["_law_parts","_law_k","_law_part"]
theorem jX:aM CY kR (aB nW):=dI
theorem BI (F:At K mg "_law_lite_do" nW f fd) (tV:Dn P w K mg base 1 "_law_at" tU (R9 K)) (nX:Dn P w K mg base 1 "_law_lite_one" jW (D7 K)) (bK:mg "len"=none) (cR:mg "range"=none):Dn P w K mg base 2 "_law_lite_do" kR (HK K):=by
 refine F.oA jX fun cdv A outer s H vs Q E hr h=>?_
 obtain ⟨⟨n,c,ρ,B,st,z,d,rfl,hz,G,hb,wf,g,hc,hr0,hk,q⟩⟩:=h
 refine ⟨_,(@cQ.h _ _ _ (aj (aR (i:=2) jX.nd (dM (c9 hr) (qv 0) bw))
  (aj (jy (aN dw (aJ (aP K) (qv 1) ai) bw (aW _)) (aj (bY (jq lW lU lV dD (qv 2) (af (gC (af (aJ (aP K) (qv 1) ai) (af (aJ (aP K) (qv 1) ai) (af (aJ (aP K) (qv 1) ai) (af (aJ (aP K) (qv 1) ai) ao))))) ao)))
  (aq (bY (jq lW lU lV dD (dM (c9 hr) (qv 0) bw) (af (aJ (aP K) (qv 1) ai) ao))))) (aq (bZ (aN dw (aJ (aP K) (qv 1) ai) bw (aW _)) (aq (eO fu rfl (DV (by rfl) cR (af ai (af (bD (cN K) (by rfl) bK ff (af (qv 1) ao)) (af ai ao)))) (aT (i:=3) jX.nd) (aj (aR (i:=4) jX.nd (aJ (di K) (qv 2) (bM tV hr (af (qv 2) (af (aJ (aP K) (qv 1) (qv 3)) ao)))))
  (aq (lg (aG jZ (aJ (di K) (qv 4) ai) (aJ (aP K) (qv 1) (aG b9 (qv 3) ai))) (lu (qv 4) ai set_list)))))) (aq (bZ (aN wU (aJ (aP K) (qv 1) ai) (gy (af bw (af bw ao))) (by with_unfolding_all rfl)) (aq (bY (bM nX hr (af (qv 0) (af (aJ (di K) (qv 2) (bM tV hr (af (qv 2) (af (aJ (aP K) (qv 1) ai) ao)))) (af (qv 1) ao)))))) br)))))
  (aq (q_ (c9 hr) (qv 0) bw (Hl ["_law_part"] [none] rfl (dY K (dM (c9 hr) (qv 0) bw)) (fun _ _ _ _=>(aT (i:=0) (show List.Nodup (["_law_part"] :List Str) from by decide +kernel))) (fun _ _ _ _=>(qv 0)) (fun _ _ _ _=>(aN jj (aJ (di K) (qv 0) ai) ai (aW _))) rfl (by rfl)) rfl))))),?_⟩
 have fY:cO K H z d.v:=cO.of hz
 have hpl:=g.pl
 have hkl:=g.kl
 refine ⟨_,Z,B.m,_,Z,dR.k (k:=Sum.inr "parts") hb.om,?_⟩
 refine ⟨fun σ' H'=>∃ρ5 B5 l5 s2 s3 s4,σ'=[some (.ref B.m),some (.ref z),s2,s3,s4]/\Gh ρ5 H'/\bH n ρ5 B5 H' l5/\l5.ak.length<=1000/\MS l5=dZ (gJ st d)/\B5.m=B.m/\Fr n ρ H ρ5 H',?_,?_⟩
 . have ql:(bh st).length=st.ak.length:=by unfold bh;rw [aC]
   have bql:B.qs.length=st.ak.length:=by rw [<-ql];exact hb.ql
   have XE:((bh st).map fun q:Q4=>q.1).Nodup:=by rw [MU];exact wf.cX
   have lq:(B.qs.map V.ref).length<1000:=by rw [aC];omega
   by_cases hp:d.part=none
   rotate_left
   ·
    obtain ⟨x,hx⟩:=Option.ne_none_iff_exists'.mp hp
    obtain ⟨e1,k1,k2,k3,k9⟩:=Dd.WR hx
    obtain ⟨j,p,ep,en⟩:=kO (Us hx hr0)
    subst en
    refine ⟨_,Z,z,_,_,_,Z,Z,fY,au d.v0,Z,_,Z,aI (fun c=>absurd (V.str.inj (aV c)) (d.Hh k1 (by decide))) (fun _=>?_)⟩
    refine ⟨_,Z,z,_,_,_,Z,Z,fY,au d.v0,Z,_,Z,aI (fun c=>absurd (V.str.inj (aV c)) (d.Hh k2 (by decide))) (fun _=>?_)⟩
    have hin:(!yG (.str d.w) ((["award","still"] :List Str).map V.str))=true:=by rw [zg,cu (fun m=>by rcases c8.mp m with w|w;exact d.Hh k3 (by decide) w;exact d.Hh k9 (by decide) (fT.mp w))];rfl
    refine ⟨_,Z,z,_,_,_,Z,Z,fY,au d.v0,(gq 2),fun t ht=>⟨t,_,Z, .inr (cO.of ah),Z,qb ["award","still"],_,Z,aI (fun _=>?_) (fun c=>absurd hin c)⟩⟩
    have g1:=aE ht (.tup [.str "award", .str "still"])
    have G1:=G.same g1
    have h1:=hb.mono g1
    have z1:=g1 _ _ hz
    generalize upd H t (.tup [.str "award", .str "still"])=H1 at *
    have jB:j<B.qs.length:=by rw [bql];exact (c_.mp ep).1
    have ea:=bB jB
    generalize B.qs[j]=a at *
    refine ⟨_,Z,_,Z,_,Z,_,Z,z,_,_,_,Z,Z,cO.of z1,au e1,⟨⟨B.lp,_,xS (bh st),j,(p.nm,p.wo),Z,aF.of h1.op,h1.nw,by rw [D8];exact XE,by unfold xS;rw [aC];omega,by unfold xS;rw [b_,uQ ep];rfl,?_⟩⟩⟩
    refine ⟨B.lp,_,_,_,Z,Z,aF.of h1.op,au (by rw [b_,ea];rfl),_,Z,⟨⟨n,ρ,B,st,j,p,a,z,d,Z,z1,G1,h1,ep,ea,hx,by omega,by omega,fun ρ' B' H' G' h' em F'=>?_⟩⟩⟩
    exact ⟨ρ',B',_,_,_,_,Z,G',h',fH (Rn _ _ _ _) (by show (bh st).length+1<=1000;omega),Rj wf hr0 ep hx,em,(Fr.of_same g1).trans F'⟩
   cases d with
   | load x o wo we=>
     refine ⟨_,Z,z,_,_,_,Z,Z,fY,au (j:=0) rfl,Z,_,Z,aI (fun _=>?_) (fun c=>absurd (aX rfl) c)⟩
     refine ⟨_,Z, .inl ⟨Z,_,aF.of hb.op⟩,_,Z,z,_,_,_,Z,Z,fY,au (j:=1) rfl,_,Z,z,_,_,_,Z,Z,fY,au (j:=2) rfl,_,Z,z,_,_,_,Z,Z,fY,au (j:=3) rfl,_,Z,z,_,_,_,Z,Z,fY,au (j:=4) rfl,(gq 4),fun t ht=>?_⟩
     have g3:=aE ht (.lst (gD (x,o,wo,we)))
     have t3:upd H t (.lst (gD (x,o,wo,we))) t=some (.lst (gD (x,o,wo,we))):=ah
     show qm _ (upd H t (.lst (gD (x,o,wo,we)))) _
     generalize upd H t (.lst (gD (x,o,wo,we)))=H3 at *
     have ct:ρ t=none:=G.none ht
     have h3:=(hb.mono g3).col (t:=44) (x:=nx) ct
     have G3:Gh (cE ρ t (n,44,nx)) H3:=(G.same g3).color t3 rfl
     have F3:Fr n ρ H (cE ρ t (n,44,nx)) H3:=(Fr.of_same (ρ:=ρ) g3).l_ ht
     have tq:t∉B.qs:=fun mem=>by
      obtain ⟨j,hj,ej⟩:=wL mem
      have hj2:j<(bh st).length:=by omega
      have:=(hb.pt j _ t (bB hj2) (by rw [bB hj,ej])).1
      rw [ht] at this;cases this
     refine ⟨B.lp,_,_,Z,Z,h3.op,cU (by omega),?_⟩
     rw [show B.qs.map V.ref++[V.ref t]=(B.qs++[t]).map V.ref from by rw [bQ];rfl]
     have h4:=h3.O3 G3 (q:=(x,o,wo,we)) t3 c6 tq
     have G4:=G3.wr (a:=B.lp) (o:= .lst ((B.qs++[t]).map V.ref)) rfl
     have F4:=F3.trans (Fr.write (o:= .lst ((B.qs++[t]).map V.ref)) h3.cp)
     have nz:z≠B.lp:=fun e=>by have:=h3.op;rw [<-e,g3 _ _ hz] at this;cases this
     have z4:upd H3 B.lp (.lst ((B.qs++[t]).map V.ref)) z=some (.tup (Dd.v (.load x o wo we))):=by rw [av nz];exact g3 _ _ hz
     generalize upd H3 B.lp (.lst ((B.qs++[t]).map V.ref))=H4 at *
     refine ⟨_,Z,B.m,_,Z,dR.k (k:=Sum.inr "known") h4.om, .inl ⟨Z,_,aF.of h4.ok⟩,_,Z,z,_,_,_,Z,Z,cO.of z4,au (j:=1) rfl,B.lk,_,_,Z,Z,h4.ok,by rw [aC];exact cU (by show st.nms.length<=1000;omega),?_⟩
     rw [show List.map V.str (dZ st).Bl++[V.str x]=(st.nms++[x]).map V.str from by rw [bQ];rfl]
     exact ⟨_,_,_,_,_,_,Z,G4.wr rfl,h4.Lu G4 (st.nms++[x]),by show (bh st++[_]).length<=1000;rw [cT];show (bh st).length+1<=1000;omega,vV (d:= .load x o wo we) wf hr0 rfl hk,Z,F4.trans (Fr.write h4.ck)⟩
   | cast rs=>
     refine ⟨_,Z,z,_,_,_,Z,Z,fY,au (j:=0) rfl,Z,_,Z,aI (fun c=>absurd (aV c) (by decide)) (fun c=>?_)⟩
     refine ⟨_,Z,z,_,_,_,Z,Z,fY,au (j:=0) rfl,Z,_,Z,aI (fun _=>?_) (fun c=>absurd (aX rfl) c)⟩
     obtain ⟨_,Sw,ug,_⟩:=xQ hr0
     have hrl:rs.length<=st.ak.length:=by
      have:=rH (l:=rs.map fun r:Row=>r.1) (m:=fh st) Sw (fun x hx=>by obtain ⟨r,hr,rfl⟩:=bJ.mp hx;exact (ju (ug r hr)).1)
      rwa [aC,show (fh st).length=st.ak.length by unfold fh;rw [aC]] at this
     refine ⟨_,Z,z,_,Z, .inr fY,_,_,_,Z,⟨by decide,by decide,by omega,by rw [vW];omega,by decide,by decide⟩,?_⟩
     rw [vW,O9]
     refine MA (lo:=1) (st:=2) (n:=rs.length) (fun i σ H'=>∃s3 s4,σ=[some (.ref B.m),some (.ref z),some (.ref B.lp),s3,s4]/\Gh ρ H'/\bH n ρ B H' { dZ st with ak:=kh (rs.take i) (bh st) }/\Fr n ρ H ρ H'/\H' z=some (.tup (Dd.v (.cast rs)))) ⟨_,_,Z,G,by rw [List.take_zero,Rm];exact hb,Fr.refl,hz⟩ ?_ ?_
     . rintro i σ H' hi ⟨s3,s4,rfl,G',h',F',z'⟩
       have ei:=bB hi
       generalize rs[i]=r at *
       obtain ⟨c1,c2⟩:=Lw ei
       obtain ⟨j,p,ep,en⟩:=kO (ju (ug r (bR ei))).1
       have jB:j<B.qs.length:=by rw [bql];exact (c_.mp ep).1
       have ea:=bB jB
       generalize B.qs[j]=a at *
       have hn:r.1∉(rs.take i).map (fun r:Row=>r.1):=by
        rw [List.map_take]
        exact kK Sw (by rw [b_,ei];rfl)
       obtain ⟨m1,m2⟩:=O_ (rs:=rs.take i) (r:=r) XE (uQ ep) en hn
       obtain ⟨ha,ca⟩:=h'.pt j _ a m2 ea
       have ha:H' a=some (.lst [.str p.nm, .str p.ow, .int p.wo, .int p.we]):=ha
       have e1:(1:Int)+(i:Int)*2=((1+2*i:Nat):Int):=by omega
       have e2:((1+2*i:Nat):Int)+1=((2+2*i:Nat):Int):=by omega
       rw [e1]
       refine ⟨_,Z,_,Z,_,Z,_,Z,z,_,_,_,Z,Z,cO.of z',au c1,⟨⟨B.lp,_,xS (kh (rs.take i) (bh st)),j,(r.1,p.wo),Z,aF.of h'.op,h'.nw,by rw [D8,MT];exact XE,by unfold xS;rw [aC,HM];omega,by unfold xS;rw [b_,m2,<-en];rfl,?_⟩⟩⟩
       refine ⟨B.lp,_,_,_,Z,Z,aF.of h'.op,au (by rw [b_,ea];rfl),?_⟩
       refine ⟨_,Z,a,_,_,_,Z,Z,aF.of ha,au (j:=2) rfl,_,Z,_,Z,_,_,Z,Z,z,_,_,_,Z,Z,cO.of z',by rw [e2];exact au c2,_,_,Z,Z,_,Z,a,_,_,2,Z,Z,ha,Z,?_⟩
       have za:z≠a:=fun e=>by rw [e,ha] at z';cases z'
       refine ⟨_,_,Z,G'.wr rfl,?_,F'.trans (Fr.write ca),by rw [av za];exact z'⟩
       rw [take_snoc ei,m1]
       exact h'.ir G' (p.nm,p.ow,p.wo-r.2,p.we) ea
     rintro σ H' ⟨s3,s4,rfl,G',h',F',z'⟩
     rw [ee] at h'
     exact ⟨ρ,B,_,_,_,_,Z,G',h',by show (kh rs (bh st)).length<=1000;rw [HM];omega,vV (d:= .cast rs) wf hr0 rfl hk,Z,F'⟩
   | award o a=>
     refine ⟨_,Z,z,_,_,_,Z,Z,fY,au (j:=0) rfl,Z,_,Z,aI (fun c=>absurd (aV c) (by decide)) (fun c=>?_)⟩
     refine ⟨_,Z,z,_,_,_,Z,Z,fY,au (j:=0) rfl,Z,_,Z,aI (fun c=>absurd (aV c) (by decide)) (fun c=>?_)⟩
     exact ⟨_,Z,z,_,_,_,Z,Z,fY,au (j:=0) rfl,(gq 2),fun t ht=>⟨t,_,Z, .inr (cO.of ah),Z,qb ["award","still"],_,Z,aI (fun c=>absurd c (by decide +kernel)) (fun _=>⟨ρ,B,dZ st,_,_,_,Z,G.same (aE ht _),hb.mono (aE ht _),by show (bh st).length<=1000;omega,vV (d:= .award o a) wf hr0 rfl hk,Z,Fr.of_same (aE ht _)⟩)⟩⟩
   | still=>
     refine ⟨_,Z,z,_,_,_,Z,Z,fY,au (j:=0) rfl,Z,_,Z,aI (fun c=>absurd (aV c) (by decide)) (fun c=>?_)⟩
     refine ⟨_,Z,z,_,_,_,Z,Z,fY,au (j:=0) rfl,Z,_,Z,aI (fun c=>absurd (aV c) (by decide)) (fun c=>?_)⟩
     exact ⟨_,Z,z,_,_,_,Z,Z,fY,au (j:=0) rfl,(gq 2),fun t ht=>⟨t,_,Z, .inr (cO.of ah),Z,qb ["award","still"],_,Z,aI (fun c=>absurd c (by decide +kernel)) (fun _=>⟨ρ,B,dZ st,_,_,_,Z,G.same (aE ht _),hb.mono (aE ht _),by show (bh st).length<=1000;omega,vV (d:= .still) wf hr0 rfl hk,Z,Fr.of_same (aE ht _)⟩)⟩⟩
   | sign o=>exact absurd rfl hk
   | _=>exact absurd hp (by simp [Dd.part])
 rintro σ H5 ⟨ρ5,B5,l5,s2,s3,s4,rfl,G5,h5,pl5,el5,XF,F5⟩
 have SG:=h5.ql
 have qml:(B5.qs.map V.ref).length=l5.ak.length:=by rw [aC];exact SG
 have om6:H5 B.m=some (.dK (iZ B5)):=by rw [<-XF];exact h5.om
 refine ⟨_,Z,B.m,_,Z,dR.k (k:=Sum.inr "parts") om6,B5.lp,Z,⟨_,aF.of h5.op⟩,fun lp x_=>?_⟩
 refine TN (J:=Ai K B5.lp) (n:=l5.ak.length) 0 (fun i o H'=>aO H5 H'/\o=(jb (l5.ak.take i) (B5.qs.take i)).map V.ref) (by omega) ⟨aE x_ _,Z⟩ (fun i o H' hi _ hp=>⟨_,_,aF.of (hp.1 _ _ h5.op),bB (by rw [qml];exact hi)⟩) (fun o H' _ hp=>⟨_,aF.of (hp.1 _ _ h5.op),by rw [qml];exact aK _⟩) ?_ ?_
 . rintro i y o H7 H8 hi fD ha ⟨g,e⟩ ⟨rfl,hy⟩
   have ei:=bB hi
   obtain ⟨qq,eq,k1,_⟩:=h5.find ei
   have ey:=hy _ (aF.of (g _ _ h5.op))
   rw [b_,eq] at ey
   cases ey
   have es:=JC ei eq
   refine ⟨_,Z,qq,_,_,_,Z,Z,aF.of (g _ _ k1),au (j:=2) rfl,_,_,Z,Z,_,Z,aI (fun c=>?_) (fun c=>?_)⟩
   . rw [aA (aV c)] at es
     refine ⟨_,Z,ha,g.cY x_ _,?_⟩
     rw [es,e,bQ]
     rfl
   . rw [az (rm (oB.mpr c))] at es
     exact ⟨ha,g,by rw [es,e,zZ]⟩
 rintro o H7 _ ha ⟨g7,e⟩
 rw [ee,<-SG,ee] at e
 subst e
 have h7:=h5.mono g7
 have G7:=G5.same g7
 have clp:ρ5 lp=none:=G5.none x_
 have h8:=h7.col (t:=42) (x:=nx) clp
 have G8:Gh (cE ρ5 lp (n,42,nx)) H7:=G7.color ha rfl
 have F8:Fr n ρ H (cE ρ5 lp (n,42,nx)) H7:=F5.trans (Fr.color x_ g7)
 have h9:bH n (cE ρ5 lp (n,42,nx)) { { B5 with lp:=lp } with qs:=jb l5.ak B5.qs } (upd H7 B5.m (.dK (iZ { B5 with lp:=lp }))) (MS l5):=h8.WO G8 (lp:=lp) (qs:=jb l5.ak B5.qs) (ps:=l5.ak.filter fun p=>decide (0<p.2.2.1)) ha c6 (h5.nd.sublist vS) (Bo SG) (fun i x y ex ey=>by
  obtain ⟨j,a1,a2⟩:=xR SG ex ey
  exact h8.pt j x y a1 a2)
 have cm8:=h8.cm
 rw [XF] at h9 cm8
 refine ⟨_,Z,B.m,_,Z,t8.k (k:=Sum.inr "parts") (by rw [<-XF];exact h7.om) (by show 3<sizeLine;decide),?_⟩
 rw [Rl]
 rw [el5] at h9
 exact q _ _ _ (G8.wr rfl) h9 rfl (F8.trans (Fr.write cm8))
abbrev qK:Stmt:=top 38
abbrev nY:List Str:=["_law_script","_law_k","_law_model","_law_names_here","_law_many"]
abbrev IE:List Str:=nY.append ["_law_deeds_here","_law_at_here","_law_deed_here"]
theorem lT:aM IE nY (aB qK):=dI
theorem EF (F:At K mg "_law_deeds" qK f fd) (ur:Dn P w K mg base 4 "_law_deed" pT (O6 K)) (pA:Dn P w K mg base 2 "_law_lite_do" kR (HK K)) (cR:mg "range"=none):Dn P w K mg base 5 "_law_deeds" nY (Lx K):=by
 refine F.oA lT fun cdv A outer s H vs Q E hr h=>?_
 obtain ⟨⟨n,c,m,ρ,B,st,a,ln,ns,k,nms,many,rfl,G,hb,gw,hc,hm,ho,fS,h63,hk0,hk1,fN,nx,hnl,q⟩⟩:=h
 refine ⟨_,(@cQ.h _ _ _ (aj (aR (i:=5) lT.nd (gC ao))
  (aj (eO fu rfl (mQ (by rfl) cR (af (qv 4) ao)) (aT (i:=6) lT.nd) (aj (aR (i:=7) lT.nd (bM ur hr (af (qv 0) (af (aG b9 (qv 1) (qv 6)) (af (qv 2) (af (qv 3) ao))))))
  (aj (bY (bM pA hr (af (qv 2) (af (qv 7) ao))))
  (aq (bY (jq lW lU lV dD (qv 5) (af (qv 7) ao)))))))
  (aq (bg (qv 5)))))),?_⟩
 refine ⟨(gq 0),fun l hl=>?_⟩
 have g0:=aE hl (.lst [])
 have qh:upd H l (.lst []) l=some (.lst []):=ah
 show rC _ _ _ _ (upd H l (.lst []))
 have F0:Fr n ρ H ρ (upd H l (.lst [])):=Fr.of_same g0
 have cl0:ρ l=none:=G.none hl
 have G0:=G.same g0
 have hb0:=hb.mono g0
 generalize upd H l (.lst [])=H0 at *
 refine ⟨_,Z,_,Z,by omega,by omega,?_⟩
 refine mH (lo:=0) (n:=((many:Nat):Int).toNat) (fun i σ H'=>∃ρ' B' zs ds s6 s7,σ=[some (.ref a),some (.int k),some (.ref B.m),some (.ref ln),some (.int (many:Int)),some (.ref l),s6,s7]/\Gh ρ' H'/\bH n ρ' B' H' (dZ (jT st ds))/\B'.m=B.m/\Fr n ρ H ρ' H'/\H' l=some (.lst zs)/\ρ' l=none/\mh H' zs ds/\yP st ds/\ds.length=i/\Nx nms (jT st ds))
  ⟨ρ,B,[],[],_,_,Z,G0,hb0,Z,F0,qh,cl0, .nil,yP.nil st,Z,nx⟩ ?_ ?_
 . rintro i σ H1 hi ⟨ρ1,B1,zs,ds,s6,s7,rfl,G1,h1,em,F1,hl1,SH,hD,hC,hdl,XG⟩
   have hi:i<many:=by omega
   have e0:(0:Int)+(i:Int)=((i:Nat):Int):=by omega
   rw [e0]
   obtain ⟨Po,eo⟩:=hC.go gw (by omega) (by omega) ho ds.length (aK _)
   rw [ee] at Po eo
   have o1:=F1.out
   have SI:=fS _ _ o1
   have hN1:=fN _ _ o1
   refine ⟨_,Z,_,Z,_,Z,_,_,Z,Z,_,Z,_,Z,⟨⟨a,B.m,ln,ns,k+i,nms,c+ds.length,jT st ds,Z,SI,h63,by omega,by omega,by rw [<-em];exact h1.q,hN1,XG,hnl,Po.wf,Po.g,by omega,fun z d H2 g2 hz hd=>?_⟩⟩⟩
   obtain ⟨d1,d2,d3,d4⟩:=hd
   have G2:=G1.same g2
   refine ⟨_,Z,_,Z,⟨⟨n,c+ds.length,ρ1,B1,jT st ds,z,d,by rw [em];rfl,hz,G2,h1.mono g2,Po.wf,Po.g,by omega,d1,d4,fun ρ3 B3 H3 G3 h3 em3 F3=>?_⟩⟩⟩
   obtain ⟨hl3,cl3⟩:=F3 l _ (g2 _ _ hl1) (fun t x e=>by rw [SH] at e;cases e)
   have tu:∀b xs,H2 b=some (.tup xs)->H3 b=some (.tup xs):=fun b xs e=>(F3 b _ e (fun t x z=>by rw [G2.tup e] at z;cases z)).1
   have zl:=hD.length
   refine ⟨_,Z, .inl ⟨Z,_,aF.of hl3⟩,_,Z,l,_,_,Z,Z,hl3,cU (by omega),?_⟩
   have Xm:=(F1.trans (Fr.of_same (ρ:=ρ1) g2)).trans F3
   have tl:∀b xs,H3 b=some (.tup xs)->upd H3 l (.lst (zs++[.ref z])) b=some (.tup xs):=i9 (.inr ⟨_,hl3,Z⟩)
   have XH:ρ3 l=none:=cl3.trans SH
   refine ⟨ρ3,B3,zs++[.ref z],ds++[d],_,_,Z,G3.wr rfl,?_,em3.trans em,Xm.new hl,ah,XH,((((hD.mono g2.tups).mono tu).snoc (tu _ _ hz)).mono tl),hC.snoc d1 d2 d4,by rw [cT];show ds.length+1=i+1;omega,by rw [qU];exact d3⟩
   rw [qU]
   exact h3.same (A0 XH hl3 rfl)
 rintro σ H1 ⟨ρ1,B1,zs,ds,s6,s7,rfl,G1,h1,em,F1,hl1,SH,hD,hC,hdl,XG⟩
 exact ⟨_,Z,q l zs ds ρ1 B1 H1 G1 h1 em F1 hl1 SH hD hC (by omega) XG⟩
abbrev nZ:Stmt:=top 39
abbrev kT:List Str:=["_law_hold","_law_deed_here"]
abbrev CZ:List Str:=kT
theorem BJ:aM CZ kT (aB nZ):=dI
theorem BK {T:TC} {e:Ec} (F:At K mg "_law_hold_do" nZ f fd) (jI:Mn P w K mg base 3 T.hold "sign" lC (Cs T)) (uu:Mn P w K mg base 4 T.hold "load" pJ (OI T)) (uw:Mn P w K mg base 4 T.hold "cast" pK (OP T K)) (IF:Mn P w K mg base 4 T.hold "award" nS (sN (Hr T e))) (EG:Mn P w K mg base 3 T.hold "mishap" lR (sN (DW T e))) (JT:Mn P w K mg base 2 T.hold "rise" pL (sN (Lj T e))) (JU:Mn P w K mg base 2 T.hold "hand" pM (sN (Lk T e))) (JV:Mn P w K mg base 5 T.hold "land" pN (sN (Lo T e))) (IG:Mn P w K mg base 4 T.hold "sever" nT (sN (Hs T e))) (bK:mg "len"=none) (cR:mg "range"=none):Dn P w K mg base 6 "_law_hold_do" kT (HL T K):=by
 refine F.oA BJ fun cdv A outer s H vs Q E hr h=>?_
 obtain ⟨⟨n,c,ρ,A,st,z,d,rfl,hz,hh,gg,hc,hk,ho,hr0,q⟩⟩:=h
 refine ⟨_,(@cQ.h _ _ _ (aj (bZ (aN dw (aJ (aP K) (qv 1) ai) bw (aW _)) (aq (bg (cI jI hr (qv 0) (af (aJ (aP K) (qv 1) ai) ao)))) (aq (bZ (aN dw (aJ (aP K) (qv 1) ai) bw (aW _)) (aq (bg (cI uu hr (qv 0) (af (aJ (aP K) (qv 1) ai) (af (aJ (aP K) (qv 1) ai) (af (aJ (aP K) (qv 1) ai) (af (aJ (aP K) (qv 1) ai) ao))))))) (aq (bZ (aN dw (aJ (aP K) (qv 1) ai) bw (aW _)) (aq (bg (cI uw hr (qv 0) (af (i_ ["_law_k","_law_deed_here"] [none,some 1] rfl (DV (by rfl) cR (af ai (af (bD (cN K) (by rfl) bK ff (af (qv 1) ao)) (af ai ao)))) (fun _ _ _ _=>(aT (i:=0) (show List.Nodup (["_law_k","_law_deed_here"] :List Str) from by decide +kernel))) (fun _ _ _ _=>(gy (af (aJ (aP K) (qv 1) (qv 0)) (af (aJ (aP K) (qv 1) (aG b9 (qv 0) ai)) ao)))) rfl (by rfl)) ao)))) (aq (bZ (aN dw (aJ (aP K) (qv 1) ai) bw (aW _)) (aq (bg (cI IF hr (qv 0) (af (aJ (aP K) (qv 1) ai) (af (aJ (aP K) (qv 1) ai) ao))))) (aq (bZ (aN dw (aJ (aP K) (qv 1) ai) bw (aW _)) (aq (bg (cI EG hr (qv 0) (af (aJ (aP K) (qv 1) ai) (af (aJ (aP K) (qv 1) ai) ao))))) (aq (bZ (aN dw (aJ (aP K) (qv 1) ai) bw (aW _)) (aq (bg (cI JT hr (qv 0) (af (aJ (aP K) (qv 1) ai) (af (aJ (aP K) (qv 1) ai) ao))))) (aq (bZ (aN dw (aJ (aP K) (qv 1) ai) bw (aW _)) (aq (bg (cI JU hr (qv 0) (af (aJ (aP K) (qv 1) ai) (af (aJ (aP K) (qv 1) ai) ao))))) (aq (bZ (aN dw (aJ (aP K) (qv 1) ai) bw (aW _)) (aq (bg (cI JV hr (qv 0) (af (aJ (aP K) (qv 1) ai) ao)))) (aq (bZ (aN dw (aJ (aP K) (qv 1) ai) bw (aW _)) (aq (bg (cI IG hr (qv 0) (af (aJ (aP K) (qv 1) ai) (af (aJ (aP K) (qv 1) ai) (af (aJ (aP K) (qv 1) ai) (af (aJ (aP K) (qv 1) ai) ao))))))) br)))))))))))))))))
  (aq (bg Wz)))),?_⟩
 have wf:=hh.wf
 have hpl:=gg.pl
 have hkl:=gg.kl
 cases d with
 | sign o=>
   obtain ⟨s1,s2⟩:=Pa hr0
   refine ⟨_,Z,z,_,_,_,Z,Z,hz,au (j:=0) rfl,Z,_,Z,aI (fun _=>?_) (fun c=>absurd (aX rfl) c)⟩
   refine ⟨_,Z,A.a,A.dx,_,Z,hh.h.oa,Z,_,Z,z,_,_,_,Z,Z,hz,au (j:=1) rfl,⟨⟨n,ρ,A,st,o,Z,hh,s1,s2,ho,q⟩⟩⟩
 | load x o wo we=>
   obtain ⟨l1,l2,l3,l4,l5⟩:=tO hr0
   refine ⟨_,Z,z,_,_,_,Z,Z,hz,au (j:=0) rfl,Z,_,Z,aI (fun c=>absurd (aV c) (by decide)) (fun c=>?_)⟩
   refine ⟨_,Z,z,_,_,_,Z,Z,hz,au (j:=0) rfl,Z,_,Z,aI (fun _=>?_) (fun c=>absurd (aX rfl) c)⟩
   refine ⟨_,Z,A.a,A.dx,_,Z,hh.h.oa,Z,_,Z,z,_,_,_,Z,Z,hz,au (j:=1) rfl,_,Z,z,_,_,_,Z,Z,hz,au (j:=2) rfl,_,Z,z,_,_,_,Z,Z,hz,au (j:=3) rfl,_,Z,z,_,_,_,Z,Z,hz,au (j:=4) rfl,⟨⟨n,ρ,A,st,x,o,wo,we,Z,hh,l1,l2,l3,l4,l5,by omega,by omega,q⟩⟩⟩
 | cast rs=>
   refine ⟨_,Z,z,_,_,_,Z,Z,hz,au (j:=0) rfl,Z,_,Z,aI (fun c=>absurd (aV c) (by decide)) (fun c=>?_)⟩
   refine ⟨_,Z,z,_,_,_,Z,Z,hz,au (j:=0) rfl,Z,_,Z,aI (fun c=>absurd (aV c) (by decide)) (fun c=>?_)⟩
   refine ⟨_,Z,z,_,_,_,Z,Z,hz,au (j:=0) rfl,Z,_,Z,aI (fun _=>?_) (fun c=>absurd (aX rfl) c)⟩
   have ok:=gg.HF wf (by omega) hr0
   have hrl:rs.length<=1000:=ok.len
   refine ⟨_,Z,A.a,A.dx,_,Z,hh.h.oa,Z,_,Z,z,_,Z, .inr hz,_,_,_,Z,⟨by decide,by decide,by omega,by rw [vW];omega,by decide,by decide⟩,?_⟩
   rw [vW,O9]
   intro acc hacc
   refine ng (J:=Mz 1 2 rs.length) (n:=rs.length) 0 (fun i out H1=>aO H H1/\fq H1 out (rs.take i)) (by omega) ⟨aE hacc _, .nil⟩ (fun i o H' hi _ _=>hi) (fun o H' _ _=>aK _) ?_ ?_
   . rintro i x out H1 H2 hi fD ha ⟨g,R⟩ ⟨rfl,rfl⟩
     have ei:=bB hi
     generalize rs[i]=r at *
     obtain ⟨c1,c2⟩:=Lw ei
     have e1:(1:Int)+(i:Int)*2=((1+2*i:Nat):Int):=by omega
     have e2:((1+2*i:Nat):Int)+1=((2+2*i:Nat):Int):=by omega
     rw [e1]
     refine ⟨_,Z,_,Z,z,_,_,_,Z,Z,g.tup hz,au c1,_,Z,_,Z,_,_,Z,Z,z,_,_,_,Z,Z,g.tup hz,by rw [e2];exact au c2,(gq 2),fun p hp=>?_⟩
     have g6:=aE hp (vA r)
     refine ⟨g6 _ _ ha,(g.trans g6).cY hacc _,?_⟩
     rw [take_snoc ei]
     exact ((R.mono g6.tups).snoc ah).mono (i9 (.inr ⟨_,g6 _ _ ha,Z⟩))
   rintro out H1 fD ha ⟨g,R⟩
   rw [ee] at R
   exact ⟨⟨n,ρ,A,st,acc,out,rs,Z,hh.mono g,aF.of ha,R,ok,fun ρ' A' H' a1 a2 a3=>q ρ' A' H' a1 a2 ((Fr.of_same g).trans a3)⟩⟩
 | award o a=>
   refine ⟨_,Z,z,_,_,_,Z,Z,hz,au (j:=0) rfl,Z,_,Z,aI (fun c=>absurd (aV c) (by decide)) (fun c=>?_)⟩
   refine ⟨_,Z,z,_,_,_,Z,Z,hz,au (j:=0) rfl,Z,_,Z,aI (fun c=>absurd (aV c) (by decide)) (fun c=>?_)⟩
   refine ⟨_,Z,z,_,_,_,Z,Z,hz,au (j:=0) rfl,Z,_,Z,aI (fun c=>absurd (aV c) (by decide)) (fun c=>?_)⟩
   refine ⟨_,Z,z,_,_,_,Z,Z,hz,au (j:=0) rfl,Z,_,Z,aI (fun _=>?_) (fun c=>absurd (aX rfl) c)⟩
   refine ⟨_,Z,A.a,A.dx,_,Z,hh.h.oa,Z,_,Z,z,_,_,_,Z,Z,hz,au (j:=1) rfl,_,Z,z,_,_,_,Z,Z,hz,au (j:=2) rfl,⟨⟨n,ρ,A,st,o,a,Z,hh,gg.aw wf (by omega), .of hr0 q⟩⟩⟩
 | mishap x a=>
   refine ⟨_,Z,z,_,_,_,Z,Z,hz,au (j:=0) rfl,Z,_,Z,aI (fun c=>absurd (aV c) (by decide)) (fun c=>?_)⟩
   refine ⟨_,Z,z,_,_,_,Z,Z,hz,au (j:=0) rfl,Z,_,Z,aI (fun c=>absurd (aV c) (by decide)) (fun c=>?_)⟩
   refine ⟨_,Z,z,_,_,_,Z,Z,hz,au (j:=0) rfl,Z,_,Z,aI (fun c=>absurd (aV c) (by decide)) (fun c=>?_)⟩
   refine ⟨_,Z,z,_,_,_,Z,Z,hz,au (j:=0) rfl,Z,_,Z,aI (fun c=>absurd (aV c) (by decide)) (fun c=>?_)⟩
   refine ⟨_,Z,z,_,_,_,Z,Z,hz,au (j:=0) rfl,Z,_,Z,aI (fun _=>?_) (fun c=>absurd (aX rfl) c)⟩
   refine ⟨_,Z,A.a,A.dx,_,Z,hh.h.oa,Z,_,Z,z,_,_,_,Z,Z,hz,au (j:=1) rfl,_,Z,z,_,_,_,Z,Z,hz,au (j:=2) rfl,⟨⟨n,ρ,A,st,x,a,Z,hh, .of hr0 q⟩⟩⟩
 | rise x a=>
   refine ⟨_,Z,z,_,_,_,Z,Z,hz,au (j:=0) rfl,Z,_,Z,aI (fun c=>absurd (aV c) (by decide)) (fun c=>?_)⟩
   refine ⟨_,Z,z,_,_,_,Z,Z,hz,au (j:=0) rfl,Z,_,Z,aI (fun c=>absurd (aV c) (by decide)) (fun c=>?_)⟩
   refine ⟨_,Z,z,_,_,_,Z,Z,hz,au (j:=0) rfl,Z,_,Z,aI (fun c=>absurd (aV c) (by decide)) (fun c=>?_)⟩
   refine ⟨_,Z,z,_,_,_,Z,Z,hz,au (j:=0) rfl,Z,_,Z,aI (fun c=>absurd (aV c) (by decide)) (fun c=>?_)⟩
   refine ⟨_,Z,z,_,_,_,Z,Z,hz,au (j:=0) rfl,Z,_,Z,aI (fun c=>absurd (aV c) (by decide)) (fun c=>?_)⟩
   refine ⟨_,Z,z,_,_,_,Z,Z,hz,au (j:=0) rfl,Z,_,Z,aI (fun _=>?_) (fun c=>absurd (aX rfl) c)⟩
   refine ⟨_,Z,A.a,A.dx,_,Z,hh.h.oa,Z,_,Z,z,_,_,_,Z,Z,hz,au (j:=1) rfl,_,Z,z,_,_,_,Z,Z,hz,au (j:=2) rfl,⟨⟨n,ρ,A,st,x,a,Z,hh, .of hr0 q⟩⟩⟩
 | hand x o=>
   refine ⟨_,Z,z,_,_,_,Z,Z,hz,au (j:=0) rfl,Z,_,Z,aI (fun c=>absurd (aV c) (by decide)) (fun c=>?_)⟩
   refine ⟨_,Z,z,_,_,_,Z,Z,hz,au (j:=0) rfl,Z,_,Z,aI (fun c=>absurd (aV c) (by decide)) (fun c=>?_)⟩
   refine ⟨_,Z,z,_,_,_,Z,Z,hz,au (j:=0) rfl,Z,_,Z,aI (fun c=>absurd (aV c) (by decide)) (fun c=>?_)⟩
   refine ⟨_,Z,z,_,_,_,Z,Z,hz,au (j:=0) rfl,Z,_,Z,aI (fun c=>absurd (aV c) (by decide)) (fun c=>?_)⟩
   refine ⟨_,Z,z,_,_,_,Z,Z,hz,au (j:=0) rfl,Z,_,Z,aI (fun c=>absurd (aV c) (by decide)) (fun c=>?_)⟩
   refine ⟨_,Z,z,_,_,_,Z,Z,hz,au (j:=0) rfl,Z,_,Z,aI (fun c=>absurd (aV c) (by decide)) (fun c=>?_)⟩
   refine ⟨_,Z,z,_,_,_,Z,Z,hz,au (j:=0) rfl,Z,_,Z,aI (fun _=>?_) (fun c=>absurd (aX rfl) c)⟩
   refine ⟨_,Z,A.a,A.dx,_,Z,hh.h.oa,Z,_,Z,z,_,_,_,Z,Z,hz,au (j:=1) rfl,_,Z,z,_,_,_,Z,Z,hz,au (j:=2) rfl,⟨⟨n,ρ,A,st,x,o,Z,hh,gg.sum, .of hr0 q⟩⟩⟩
 | land x=>
   refine ⟨_,Z,z,_,_,_,Z,Z,hz,au (j:=0) rfl,Z,_,Z,aI (fun c=>absurd (aV c) (by decide)) (fun c=>?_)⟩
   refine ⟨_,Z,z,_,_,_,Z,Z,hz,au (j:=0) rfl,Z,_,Z,aI (fun c=>absurd (aV c) (by decide)) (fun c=>?_)⟩
   refine ⟨_,Z,z,_,_,_,Z,Z,hz,au (j:=0) rfl,Z,_,Z,aI (fun c=>absurd (aV c) (by decide)) (fun c=>?_)⟩
   refine ⟨_,Z,z,_,_,_,Z,Z,hz,au (j:=0) rfl,Z,_,Z,aI (fun c=>absurd (aV c) (by decide)) (fun c=>?_)⟩
   refine ⟨_,Z,z,_,_,_,Z,Z,hz,au (j:=0) rfl,Z,_,Z,aI (fun c=>absurd (aV c) (by decide)) (fun c=>?_)⟩
   refine ⟨_,Z,z,_,_,_,Z,Z,hz,au (j:=0) rfl,Z,_,Z,aI (fun c=>absurd (aV c) (by decide)) (fun c=>?_)⟩
   refine ⟨_,Z,z,_,_,_,Z,Z,hz,au (j:=0) rfl,Z,_,Z,aI (fun c=>absurd (aV c) (by decide)) (fun c=>?_)⟩
   refine ⟨_,Z,z,_,_,_,Z,Z,hz,au (j:=0) rfl,Z,_,Z,aI (fun _=>?_) (fun c=>absurd (aX rfl) c)⟩
   refine ⟨_,Z,A.a,A.dx,_,Z,hh.h.oa,Z,_,Z,z,_,_,_,Z,Z,hz,au (j:=1) rfl,⟨⟨n,ρ,A,st,x,Z,hh,gg.ld wf (by omega) hk, .of hr0 q⟩⟩⟩
 | sever x y a we=>
   refine ⟨_,Z,z,_,_,_,Z,Z,hz,au (j:=0) rfl,Z,_,Z,aI (fun c=>absurd (aV c) (by decide)) (fun c=>?_)⟩
   refine ⟨_,Z,z,_,_,_,Z,Z,hz,au (j:=0) rfl,Z,_,Z,aI (fun c=>absurd (aV c) (by decide)) (fun c=>?_)⟩
   refine ⟨_,Z,z,_,_,_,Z,Z,hz,au (j:=0) rfl,Z,_,Z,aI (fun c=>absurd (aV c) (by decide)) (fun c=>?_)⟩
   refine ⟨_,Z,z,_,_,_,Z,Z,hz,au (j:=0) rfl,Z,_,Z,aI (fun c=>absurd (aV c) (by decide)) (fun c=>?_)⟩
   refine ⟨_,Z,z,_,_,_,Z,Z,hz,au (j:=0) rfl,Z,_,Z,aI (fun c=>absurd (aV c) (by decide)) (fun c=>?_)⟩
   refine ⟨_,Z,z,_,_,_,Z,Z,hz,au (j:=0) rfl,Z,_,Z,aI (fun c=>absurd (aV c) (by decide)) (fun c=>?_)⟩
   refine ⟨_,Z,z,_,_,_,Z,Z,hz,au (j:=0) rfl,Z,_,Z,aI (fun c=>absurd (aV c) (by decide)) (fun c=>?_)⟩
   refine ⟨_,Z,z,_,_,_,Z,Z,hz,au (j:=0) rfl,Z,_,Z,aI (fun c=>absurd (aV c) (by decide)) (fun c=>?_)⟩
   refine ⟨_,Z,z,_,_,_,Z,Z,hz,au (j:=0) rfl,Z,_,Z,aI (fun _=>?_) (fun c=>absurd (aX rfl) c)⟩
   refine ⟨_,Z,A.a,A.dx,_,Z,hh.h.oa,Z,_,Z,z,_,_,_,Z,Z,hz,au (j:=1) rfl,_,Z,z,_,_,_,Z,Z,hz,au (j:=2) rfl,_,Z,z,_,_,_,Z,Z,hz,au (j:=3) rfl,_,Z,z,_,_,_,Z,Z,hz,au (j:=4) rfl,⟨⟨n,ρ,A,st,x,y,a,we,Z,hh,GI (kP (show iN st x y a we=none from hr0)).2.1.1,by omega,by omega, .of hr0 q⟩⟩⟩
 | still=>
   refine ⟨_,Z,z,_,_,_,Z,Z,hz,au (j:=0) rfl,Z,_,Z,aI (fun c=>absurd (aV c) (by decide)) (fun c=>?_)⟩
   refine ⟨_,Z,z,_,_,_,Z,Z,hz,au (j:=0) rfl,Z,_,Z,aI (fun c=>absurd (aV c) (by decide)) (fun c=>?_)⟩
   refine ⟨_,Z,z,_,_,_,Z,Z,hz,au (j:=0) rfl,Z,_,Z,aI (fun c=>absurd (aV c) (by decide)) (fun c=>?_)⟩
   refine ⟨_,Z,z,_,_,_,Z,Z,hz,au (j:=0) rfl,Z,_,Z,aI (fun c=>absurd (aV c) (by decide)) (fun c=>?_)⟩
   refine ⟨_,Z,z,_,_,_,Z,Z,hz,au (j:=0) rfl,Z,_,Z,aI (fun c=>absurd (aV c) (by decide)) (fun c=>?_)⟩
   refine ⟨_,Z,z,_,_,_,Z,Z,hz,au (j:=0) rfl,Z,_,Z,aI (fun c=>absurd (aV c) (by decide)) (fun c=>?_)⟩
   refine ⟨_,Z,z,_,_,_,Z,Z,hz,au (j:=0) rfl,Z,_,Z,aI (fun c=>absurd (aV c) (by decide)) (fun c=>?_)⟩
   refine ⟨_,Z,z,_,_,_,Z,Z,hz,au (j:=0) rfl,Z,_,Z,aI (fun c=>absurd (aV c) (by decide)) (fun c=>?_)⟩
   refine ⟨_,Z,z,_,_,_,Z,Z,hz,au (j:=0) rfl,Z,_,Z,aI (fun c=>absurd (aV c) (by decide)) (fun c=>?_)⟩
   exact q ρ A H hh rfl Fr.refl
abbrev ux:Stmt:=top 40
abbrev qV:List Str:=["_law_shares","_law_owners"]
abbrev Ng:List Str:=qV.append ["_law_top","_law_bottom","_law_seen","_law_owner","_law_one_here"]
theorem gQ:aM Ng qV (aB ux):=dI
theorem JW (F:At K mg "_law_one" ux f fd):Dn P w K mg base 1 "_law_one" qV (Sj K):=by
 refine F.oA gQ fun cdv A outer s H vs Q E hr h=>?_
 obtain ⟨⟨l,lo,ws,sh,own,c,rfl,hl,hS,ho,on,fD,hc,q⟩⟩:=h
 refine ⟨_,(@cQ.h _ _ _ (aj (aR (i:=2) gQ.nd ai)
  (aj (aR (i:=3) gQ.nd ai)
  (aj (aR (i:=4) gQ.nd (gC ao))
  (aj (eO fu rfl (dY K (qv 0)) (gk K (n:=2) rfl (bP (aT (i:=5) gQ.nd) (bP (aT (i:=6) gQ.nd) gj))) (aj (bZ (ja (bW.pt (vN (aN Ds (qv 5) (qv 4) (by with_unfolding_all rfl)) (vN (aN wU (qv 5) (qv 1) (by with_unfolding_all rfl)) (vN (aN lJ (aJ (aP K) (qv 6) ai) ai (aW _)) (xK (aN lJ (aJ (aP K) (qv 6) ai) ai (aW _)))))))) (aq (bg yr)) br)
  (aj (bY (jq lW lU lV dD (qv 4) (af (qv 5) ao)))
  (aj (aR (i:=2) gQ.nd (aG b9 (aG jE (qv 2) (aJ (aP K) (qv 6) ai)) (aG jE (aJ (aP K) (qv 6) ai) (qv 3))))
  (aq (aR (i:=3) gQ.nd (aG jE (qv 3) (aJ (aP K) (qv 6) ai))))))))
  (aq (bg (uP dw (qv 2) (qv 3) (aW _))))))))),?_⟩
 have wl:=hS.length
 have sl:=on.len
 refine ⟨(gq 0),fun z hz=>?_⟩
 have g0:=aE hz (.lst [])
 have z0:upd H z (.lst []) z=some (.lst (((sh.take 0).map fun x=>x.1).map V.str)):=ah
 show rC _ _ _ _ (upd H z (.lst []))
 generalize upd H z (.lst [])=H0 at *
 refine ⟨_,Z,l,Z,⟨ws,g0.seq hl⟩,?_⟩
 refine iR (K:=K) (xs:=ws) (fun i σ H'=>aO H H'/\H' z=some (.lst (((sh.take i).map fun x=>x.1).map V.str))/\∃(t b:Int) (s5 s6:Option V),σ=[some (.ref l),some (.ref lo),some (.int t),some (.int b),some (.ref z),s5,s6]/\0<b/\0<=t/\t<=i*b/\Jm.Sz (1281*i+1) b/\Jm.fr t b=CB ((sh.take i).map fun x=>x.2)) ⟨g0,z0,0,1,_,_,Z,by decide,by decide,by decide,k_ (by decide +kernel),by rw [Jm.Ci];rfl⟩ (fun i σ H' _ hp=>hp.1.seq hl) ?_ ?_
 . rintro i x σ H' hx ⟨g,hz',t,b,s5,s6,rfl,b0,t0,tb,bz,et⟩
   have hi:i<sh.length:=by have:=(c_.mp hx).1;omega
   have ei:=bB hi
   have hm:=Ce hi
   generalize sh[i]=y at *
   obtain ⟨o,qq⟩:=y
   obtain ⟨r,f,e1,e2,e3⟩:=hS.get ei
   rw [hx] at e1
   cases e1
   have Pp:=g _ _ e3
   obtain ⟨q1,q2,q3⟩:=on.q _ hm
   have q3:Jm.Sz 1281 (qq.den:Int):=q3.mono (by omega)
   have q1:1<=qq.num:=q1
   have q2:qq.num<=(qq.den:Int):=q2
   have n1:o∉(sh.take i).map (fun x=>x.1):=by
    rw [List.map_take]
    exact kK on.nd (by rw [b_,ei];rfl)
   have n2:o∈own:=on.sub o (bJ.mpr ⟨_,hm,Z⟩)
   refine ⟨r,_,Z,cO.of (g _ _ e2),Z,_,_,Z,_,_,Z,Z,?_⟩
   refine ⟨false,⟨_,Z,_,Z,z,_,Z, .inl (aF.of hz'),Z,qb _,_,Z,aI (fun c=>absurd c ?_) (fun _=>⟨_,Z,_,Z,lo,_,Z, .inl (g.seq ho),Z,qb _,_,Z,aI (fun c=>absurd c ?_) (fun _=>⟨_,Z,f,_,_,_,Z,Z,cO.of Pp,Z,_,_,Z,Z,_,Z,aI (fun c=>absurd (aV c) (by show ¬ qq.num<1;omega)) (fun _=>⟨_,Z,f,_,_,_,Z,Z,cO.of Pp,Z,_,_,Z,Z,_,Z,cu (by show ¬ (qq.den:Int)<1;omega),Z⟩)⟩)⟩)⟩,gv ?_⟩
   . show ¬ (yG (.str o) _)=true
     rw [zg,cu n1];decide
   . show ¬ (!yG (.str o) _)=true
     rw [zg,aX n2];decide
   refine ⟨_,Z, .inl ⟨Z,_,aF.of hz'⟩,_,Z,z,_,_,Z,Z,hz',cU (by rw [aC,aC,qi];omega),?_⟩
   have fz:f≠z:=fun e=>by rw [e,hz'] at Pp;cases Pp
   have f2:upd H' z (.lst (((sh.take i).map fun x=>x.1).map V.str++[.str o])) f=some (t_ qq):=by rw [av fz];exact Pp
   have g2:=g.cY hz (.lst (((sh.take i).map fun x=>x.1).map V.str++[.str o]))
   have z2:upd H' z (.lst (((sh.take i).map fun x=>x.1).map V.str++[.str o])) z=some (.lst (((sh.take (i+1)).map fun x=>x.1).map V.str)):=by rw [ah,take_snoc ei,bQ,bQ];rfl
   generalize upd H' z (.lst (((sh.take i).map fun x=>x.1).map V.str++[.str o]))=H2 at *
   have i5:i<=4:=by omega
   have t5:t<=8*b:=by
    have:(i:Int)*b<=4*b:=KC (by omega) (by omega)
    omega
   have zt:Jm.Sz (3+1+(1281*i+1)) t:=((show Jm.Sz (3+1) (8:Int) from k_ (by decide +kernel)).mul bz).of_le (by omega)
   have zn:Jm.Sz 1281 qq.num:=q3.of_le (by omega)
   refine ⟨_,Z,_,Z,f,_,_,_,Z,Z,cO.of f2,Z,_,_,Z,Z,i8 zt q3 (by omega),_,Z,f,_,_,_,Z,Z,cO.of f2,Z,_,Z,_,_,Z,Z,i8 zn bz (by omega),_,_,Z,Z,?_⟩
   refine ⟨_,Z,_,Z,f,_,_,_,Z,Z,cO.of f2,Z,_,_,Z,Z,i8 bz q3 (by omega),?_⟩
   have d0:(0:Int)<qq.den:=by omega
   refine ⟨g2,z2,t*qq.den+qq.num*b,b*qq.den,_,_,Z,Int.mul_pos b0 d0,?_,?_,?_,?_⟩
   . have:=lE t0 (show 0<=(qq.den:Int) by omega)
     have:=lE (show 0<=qq.num by omega) (show 0<=b by omega)
     omega
   . have h1:t*(qq.den:Int)<=(i*b)*qq.den:=KC tb (by omega)
     have h2:qq.num*b<=qq.den*b:=KC q2 (by omega)
     have h3:((i+1:Nat):Int)*(b*qq.den)=(i*b)*qq.den+qq.den*b:=by rw [show ((i+1:Nat):Int)=(i:Int)+1 by omega];grind
     omega
   . exact (bz.mul q3).mono (by omega)
   . rw [<-Jm.Oa b0 d0,et,Jm.To,take_snoc ei,bQ]
     exact (Pb _ _).symm
 rintro σ H' ⟨g,hz',t,b,s5,s6,rfl,b0,t0,tb,bz,et⟩
 rw [wl,ee,on.one] at et
 have e:t=b:=by
  have:Jm.fr t b=Jm.fr 1 1:=et.trans rfl
  have:=Jm.VG b0 (by decide) this
  omega
 subst e
 refine ⟨_,Z,_,Z,Z,?_⟩
 show Q (.bl (decide (V.int t=V.int t))) H'
 rw [aX rfl]
 exact q H' g
abbrev n5:Stmt:=top 41
abbrev Nh:List Str:=["_law_script"]
abbrev Y3:List Str:=Nh.append ["_law_owners","_law_names_here","_law_model","_law_hold","_law_owner","_law_landings","_law_deed_here","_law_part","_law_found"]
theorem jD:aM Y3 Nh (aB n5):=dI
theorem XI {T:TC} (F:At K mg "law" n5 f fd) (aU:Dn P w K mg base 1 "_law_draw" f7 (pV K)) (n_:Dn P w K mg base 2 "_law_names" nU (Cm K)) (uy:Dn P w K mg base 1 "_law_lite" pQ (O8 K)) (II:Cn P w K mg base 3 "Hold" T.hold ["self"] (K6 T)) (jI:Mn P w K mg base 3 T.hold "sign" lC (Cs T)) (sR:Dn P w K mg base 5 "_law_deeds" nY (Lx K)) (pB:Dn P w K mg base 6 "_law_hold_do" kT (HL T K)) (sS:Mn P w K mg base 1 T.hold "parts" nM (K7 T)) (qH:Mn P w K mg base 4 T.hold "shares" jC (vP T)) (qL:Mn P w K mg base 1 T.hold "landed" lP (GH T)) (qW:Dn P w K mg base 1 "_law_one" qV (Sj K)) (bK:mg "len"=none) (Ni:mg "int"=none):iC P w K mg base qO 8 f fd Nh (Fl K):=by
 refine F.fn.ok jD (fun vs H Q E h=>?_) (fun cdv A outer s H vs Q E hr h=>?_)
 . obtain ⟨a,ns,rfl,_⟩:=h
   rfl
 obtain ⟨a,ns,rfl,hS,h63,q⟩:=h
 refine ⟨_,(@cQ.h _ _ _ (aj (aR (i:=1) jD.nd (bM n_ hr (af (qv 0) (af ai (af (aG b9 ai (bM aU hr (af (qv 0) (af ai (af ai (af ai ao)))))) ao)))))
  (aj (aR (i:=2) jD.nd (bM n_ hr (af (qv 0) (af ai (af ai ao)))))
  (aj (aR (i:=3) jD.nd (bM uy hr (af (qv 1) ao)))
  (aj (aR (i:=4) jD.nd (O1 II hr))
  (aj (eO fu rfl (dY K (qv 1)) (aT (i:=5) jD.nd) (aq (bY (cI jI hr (qv 4) (af (qv 5) ao)))))
  (aj (aR (i:=6) jD.nd ai)
  (aj (eO fu rfl (dY K (bM sR hr (af (qv 0) (af ai (af (qv 3) (af (qv 2) (af (aG b9 ai (bM aU hr (af (qv 0) (af ai (af ai (af ai ao)))))) ao))))))) (aT (i:=7) jD.nd) (aj (bY (bM pB hr (af (qv 4) (af (qv 7) ao))))
  (aj (aR (i:=6) jD.nd (aG b9 (qv 6) (mR NR (by rfl) Ni PyProof.Rows.boot_int (af (uP dw (aJ (aP K) (qv 7) ai) bw (aW _)) ao))))
  (aj (eO fu rfl (dY K (yt sS hr (qv 4))) (aT (i:=8) jD.nd) (aq (bZ (xH (rS (bM qW hr (af (cI qH hr (qv 4) (af (aJ (aP K) (qv 8) ai) ao)) (af (qv 1) ao))))) (aq (bg yr)) br)))
  (aj (aR (i:=9) jD.nd (yt qL hr (qv 4)))
  (aj (bZ (aN Ye (bD (cN K) (by rfl) bK ff (af (qv 9) ao)) (qv 6) (aW _)) (aq (bg yr)) br)
  (aq (eO fu rfl (dY K (qv 9)) (aT (i:=8) jD.nd) (aq (bZ (xH (rS (bM qW hr (af (aJ (aP K) (qv 8) ai) (af (qv 1) ao))))) (aq (bg yr)) br))))))))))
  (aq (bg yr)))))))))),?_⟩
 refine ⟨_,Z,_,Z,cM hS h63 (by decide) (by decide) (by decide) (by decide) fun od _ o0 o1=>⟨_,_,Z,Z,?_⟩⟩
 obtain ⟨no,hno⟩:∃no:Nat,1+od=(no:Int):=⟨(1+od).toNat,by omega⟩
 refine DA hno hS h63 (by decide) (by omega) fun zo nso H1 g1 hzo _ aed XJ XM=>?_
 have SI:=g1.seq hS
 refine ⟨_,Z,DA (show (6:Int)=((6:Nat):Int) from rfl) SI h63 (by decide) (by decide) fun zn nsn H2 g2 hzn _ aee XO XQ=>?_⟩
 have IC:=g2.seq SI
 have Rx:=g2 _ _ hzo
 rw [T4] at Rx hzn
 have fD:=La nso
 have hnl:=La nsn
 have nh:=DI XJ
 have XR:=OL XM
 have nmN:=DI XO
 have abQ:=OL XQ
 generalize Ba nso=own at *
 generalize Ba nsn=nms at *
 clear XJ XM XO XQ hzo
 have fS0:=yO.of IC
 have fN0:=yO.of (aF.of (K:=K) hzn)
 have fO0:=yO.of (aF.of (K:=K) Rx)
 refine ⟨_,Z,⟨⟨zo,own,1,fun _=>none,Z,aF.of Rx,(fun b c e=>by cases e),by omega,fun ρ3 B3 H3 G3 hb3 k3=>?_⟩⟩⟩
 have F3:Fr 1 (fun _=>none) H2 ρ3 H3:=fun b o e _=>k3 b o e
 have fS3:=fS0.go F3.out
 have fN3:=fN0.go F3.out
 have SJ:=fO0.go F3.out
 intro x dx hx hdx hne
 refine ⟨⟨x,dx,ρ3,0,Z,ah,(G3.alloc hdx).alloc (by rw [av (cD hne)];exact hx),G3.none hx,fun ρ4 A4 H4 ea4 qg k4=>⟨Z,?_⟩⟩⟩
 have F4:Fr 0 ρ3 H3 ρ4 H4:=fun b o e _=>k4 b o (by rw [av (aD e hx),av (aD e hdx)];exact e) (aD e hx)
 refine ⟨_,Z,zo,Z,⟨_,SJ _ _ F4.out⟩,?_⟩
 refine iR (K:=K) (xs:=own.map V.str) (fun i σ H'=>∃ρ' A' s5,σ=[some (.ref a),some (.ref zo),some (.ref zn),some (.ref B3.m),some (.ref x),s5,none,none,none,none]/\A'.a=x/\HH T 0 ρ' A' H' ((own.take i).foldl fV hs0)/\Fr 0 ρ3 H3 ρ' H')
  ⟨ρ4,A4,none,Z,ea4,qg,F4⟩ (fun i σ H' _ hp=>by obtain ⟨_,_,_,_,_,_,f⟩:=hp;exact SJ _ _ f.out) ?_ ?_
 . rintro i y σ H' hy ⟨ρ',A',s2,rfl,ea',Pq,F'⟩
   rw [b_] at hy
   obtain ⟨o,eo,rfl⟩:=mU.mp hy
   have hi:=(c_.mp eo).1
   have XS:((own.take i).foldl fV hs0).own=own.take i:=by rw [tH];rfl
   refine ⟨_,Z,x,A'.dx,_,Z,ea'▸Pq.h.oa,Z,_,Z,⟨⟨0,ρ',A',_,o,by rw [ea'];rfl,Pq,(XR o (bR eo)).isNm,?_,?_,fun ρ2 A2 H2 h2 e2 F2=>?_⟩⟩⟩
   . rw [XS]
     intro m
     have h2:(own.take (i+1)).Nodup:=nh.sublist (List.take_sublist _ _)
     rw [take_snoc eo] at h2
     exact (List.nodup_append.mp h2).2.2 o m o (fT.mpr rfl) rfl
   . rw [XS,qi]
     omega
   . rw [take_snoc eo,Cd]
     exact ⟨ρ2,A2,_,Z,e2.trans ea',h2,F'.trans F2⟩
 rintro σ H5 ⟨ρ5,A5,s5,rfl,ea5,wG,F5⟩
 rw [aC,ee] at wG
 have wG:HH T 0 ρ5 A5 H5 (ki own):=wG
 have hb5:=hb3.other F5 G3 (by decide)
 have XT:=fS3.go F5.out
 have fN5:=fN3.go F5.out
 have fO5:=SJ.go F5.out
 clear qg k4 F4 F5 hb3 k3 F3 fS3 fN3 SJ fS0 fN0 fO0 hx hdx hne
 refine ⟨_,Z,_,Z,_,Z,_,Z,cM (XT _ _ (aO.refl _)) h63 (by decide) (by decide) (by decide) (by decide) fun md _ m0 m1=>⟨_,_,Z,Z,?_⟩⟩
 obtain ⟨many,Y4⟩:∃many:Nat,1+md=(many:Int):=⟨(1+md).toNat,by omega⟩
 rw [Y4]
 have gw:=gw0 nh (by omega) (by omega) (fun o ho=>(XR o ho).isNm)
 have SK:=Ly own
 refine ⟨⟨1,0,0,ρ5,B3,ki own,a,zn,ns,4,nms,many,Z,wG.g,by rw [Ro];exact hb5,gw,by omega,by omega,by rw [SK];omega,XT,h63,by decide,by decide,fN5,WU nmN (fun x hx=>(abQ x hx).isNm),by omega,fun l zs ds ρ6 B6 H6 G6 hb6 em6 F6 hl6 cl6 hD hC hdl nx6=>?_⟩⟩
 have yR:=wG.other F6 G6 (by decide)
 have fO6:=fO5.go F6.out
 have chg:=hC.go gw (by omega) (by omega) (by rw [SK];omega)
 have zl:=hD.length
 clear wG hb5 XT fN5 fO5 F6 hb6
 refine ⟨l,Z,⟨zs,aF.of hl6⟩,?_⟩
 have hlz:∀{ρ':dO} {H':Hp},aO (out ρ6 H6) (out ρ' H')->aF K H' l zs:=fun s=>(aF.of (K:=K) hl6).outs cl6 s
 refine iR (K:=K) (xs:=zs) (fun i σ H'=>∃ρ' A' st' s5 s7 s8 s9,σ=[some (.ref a),some (.ref zo),some (.ref zn),some (.ref B3.m),some (.ref x),s5,some (.int (st'.c7.length:Int)),s7,s8,s9]/\HH T 0 ρ' A' H' st'/\A'.a=x/\jh st' (jT (ki own) (ds.take i))/\st'.kn<=10000*i/\aO (out ρ6 H6) (out ρ' H'))
  ⟨ρ6,A5,ki own,_,_,_,_,by rw [show (ki own).c7=[] from (nE own hs0 rfl (fun u hu=>absurd hu (by simp [hs0]))).2.2.2.2.1];rfl,yR,ea5,jh.refl _,by rw [show (ki own).kn=0 from zu own hs0];omega,aO.refl _⟩ (fun i σ H' _ hp=>by obtain ⟨_,_,_,_,_,_,_,_,_,_,_,_,s⟩:=hp;exact hlz s) ?_ ?_
 . clear yR
   rintro i y σ H7 hy ⟨ρ7,A7,pX,s5,s7,s8,s9,rfl,BC,ea7,SM,hk7,o7⟩
   obtain ⟨z,d,rfl,ed,hz⟩:=hD.get hy
   have hi:=(c_.mp ed).1
   obtain ⟨gw7,eo7⟩:=chg i (by omega)
   obtain ⟨d1,d2,d3⟩:=hC i d ed
   rw [SK] at eo7
   obtain ⟨go7,_⟩:=SM.gw gw7 (by omega)
   have ow7:pX.own=own:=SM.own.trans eo7
   have LD:H7 z=some (.tup d.v):=(j6 (o7 _ _ (p5 hz (G6.tup hz)))).1
   refine ⟨_,Z,_,Z,⟨⟨0,0+i,ρ7,A7,pX,z,d,by rw [ea7];rfl,cO.of LD,BC,go7,by omega,by omega,by rw [ow7];omega,by rw [SM.ref];exact d1,fun ρ8 A8 H8 Ed BL F8=>?_⟩⟩⟩
   have SN:=SM.do d
   rw [<-qU,<-take_snoc ed] at SN
   obtain ⟨gw8,eo8⟩:=chg (i+1) (by omega)
   rw [SK] at eo8
   have kn8:=Si pX d
   obtain ⟨XU,_⟩:=SN.gw gw8 (by omega)
   have ow8:=SN.own.trans eo8
   have o8:=o7.trans F8.out
   have BL:A8.a=x:=BL.trans ea7
   have as8:=WW (st:=pX) d
   have hz8:H8 z=some (.tup d.v):=(j6 (o8 _ _ (p5 hz (G6.tup hz)))).1
   refine ⟨_,Z,_,Z,z,_,_,_,Z,Z,cO.of hz8,au d.v0,Z, .inr ⟨_,Z,_,_,Z,Z,?_⟩⟩
   rw [d.WX]
   have eL:((pX.c7.length:Nat):Int)+(if decide (d.k=7)=true then 1 else 0)=(((gJ pX d).c7.length:Nat):Int):=by
    rw [as8]
    by_cases c:d.k=7
    . rw [aA (aX c),aA c];omega
    . rw [az (by simpa using c),az c];omega
   rw [eL]
   clear BC go7 F8
   generalize gJ pX d=wI at *
   have SQ:=Ed.wf
   have pl8:=XU.pl
   have fO8:=fO6.go o8
   refine ⟨_,Z,x,A8.dx,_,Z,BL▸Ed.h.oa,Z,⟨⟨0,ρ8,A8,wI,by rw [BL];rfl,Ed.h,SQ.nj,fun r ws H9 g9 hr0 hr1 hP=>?_⟩⟩⟩
   have Pj:=Ed.mono g9
   have cr:ρ8 r=none:=Ed.g.none hr0
   have o9:aO (out ρ8 H8) (out ρ8 H9):=ze g9
   have wl:=hP.length
   refine ⟨r,Z,⟨ws,aF.of hr1⟩,?_⟩
   refine iR (K:=K) (xs:=ws) (fun j σ H'=>∃s8 k,σ=[some (.ref a),some (.ref zo),some (.ref zn),some (.ref B3.m),some (.ref x),s5,some (.int (wI.c7.length:Int)),some (.ref z),s8,s9]/\HH T 0 ρ8 A8 H' { wI with kn:=k }/\k<=wI.kn+100*j/\Fr 0 ρ8 H9 ρ8 H') ⟨s8,wI.kn,Z,Pj,aK _,Fr.refl⟩ (fun j σ H' _ hp=>by obtain ⟨_,_,_,_,_,f⟩:=hp;exact f.seq (aF.of hr1) cr) ?_ ?_
   . rintro j y σ H' SR ⟨s8,k,rfl,Pq,hk',F'⟩
     have hj:j<wI.ak.length:=by have:=(c_.mp SR).1;omega
     have ep:=bB hj
     have eW:=Ce hj
     generalize wI.ak[j]=p at *
     obtain ⟨t,et,ht⟩:=hP.get ep
     rw [SR] at et
     cases et
     have ht':H' t=some (AY p):=(F' t _ ht (fun t' x' z'=>by rw [Pj.g.tup ht] at z';cases z')).1
     refine ⟨_,Z,x,A8.dx,_,Z,BL▸Pq.h.oa,Z,_,Z,t,_,_,_,Z,Z,cO.of ht',au (j:=0) rfl,⟨⟨0,ρ8,A8,_,j,p,by rw [BL];rfl,Pq,ep,by show k+100<=1000000;omega,fun rs us AG IJ Pg _ abR _ hsh=>?_⟩⟩⟩
     have F9:=F'.trans Pg
     refine ⟨_,Z,⟨⟨rs,zo,us,p_ wI p,own,0+(i+1),Z,aF.of abR,hsh,fO8 _ _ (o9.trans F9.out),?_,by omega,by omega,fun Ph BB=>⟨_,Z,gv ⟨_,k+100,Z,IJ.mono BB,by omega,F9.trans (Fr.of_same (ρ:=ρ8) BB)⟩⟩⟩⟩⟩
     have:=(D4 SQ XU eW).ones SQ.nh
     rw [ow8] at this
     exact this
   rintro σ AG ⟨s8,k,rfl,IJ,aef,Pg⟩
   refine ⟨_,Z,x,A8.dx,_,Z,BL▸IJ.h.oa,Z,⟨⟨0,ρ8,A8,_,by rw [BL];rfl,IJ,fun r2 SS Ph BB aeg Ry hL=>?_⟩⟩⟩
   have abS:=IJ.mono BB
   have So:=Pg.trans (Fr.of_same (ρ:=ρ8) BB)
   have ll:=hL.length
   have ll:SS.length=wI.c7.length:=ll
   refine ⟨_,Z,r2,_,Z, .inl (aF.of Ry),_,Z,Z,_,Z,aI (fun c=>?_) (fun _=>?_)⟩
   . exact absurd c (by show ¬ (!decide (V.int (SS.length:Int)=V.int (wI.c7.length:Int)))=true;rw [ll,aX rfl];decide)
   refine ⟨_,Z,r2,Z,⟨SS,aF.of Ry⟩,?_⟩
   refine iR (K:=K) (xs:=SS) (fun j σ H'=>∃s8,σ=[some (.ref a),some (.ref zo),some (.ref zn),some (.ref B3.m),some (.ref x),s5,some (.int (wI.c7.length:Int)),some (.ref z),s8,some (.ref r2)]/\aO Ph H') ⟨_,Z,aO.refl _⟩ (fun j σ H' _ hp=>by obtain ⟨_,_,g⟩:=hp;exact g.seq (aF.of Ry)) ?_ ?_
   . rintro j y σ H' SR ⟨s8,rfl,g'⟩
     obtain ⟨t,tl,ya,ss,rfl,ea,h1,h2,h3,h4⟩:=hL.get SR
     have ham:=bR ea
     have:=(XU.c7 ya ham).ones SQ.nh
     rw [ow8] at this
     exact ⟨_,Z,t,_,_,_,Z,Z,cO.of (g' _ _ h1),au (j:=3) rfl,_,Z,⟨⟨tl,zo,ss,ya.sh,own,0+(i+1),Z,aF.of (g' _ _ h2),h4.mono g'.tups,fO8 _ _ (o9.trans (So.out.trans (ze g'))),this,by omega,by omega,fun H12 Ie=>⟨_,Z,gv ⟨_,Z,g'.trans Ie⟩⟩⟩⟩⟩
   rintro σ H12 ⟨s8,rfl,Ie⟩
   refine ⟨ρ8,A8,{ wI with kn:=k },_,_,_,_,Z,abS.mono Ie,BL,SN.set k,by show k<=_;omega,o8.trans (o9.trans (So.out.trans (ze Ie)))⟩
 rintro σ H7 _
 exact q H7
end
theorem all_mk {l:PySem.W.OpenLaw} {w:World} {K:Fg} {h:Heap} {mg:SO} {fa:Addr} (X:K.In h) (G:h.Ns mainGlobals mg) (hfa:mg "law"=some (.ref fa))
  {f:Addr} {od an:Option Addr} {sl:Array (Option Value)} {oc kV dc pm cd ct:Value}
  (a:PySem.W.nsIn K mainGlobals "law"=some (some (.ref f))) (l1:K.lookup f=some ⟨oc,od, .func (PySem.W.fnOf "law" "law" (dF n5) (bX n5) (aB n5) .none kV dc pm an cd ct),sl⟩) (c:PySem.W.codeIn K cd "law"=true) (k:PySem.W.keepIn K (.ref f)=true)
  (BN:eE K "common_factor" mj) (Pr:eE K "made_of" vX) (Pu:eE K "is_name" vY) (C0:eE K "check_amount" nJ) (IK:eE K "check_loss" qy) (IL:eE K "amounts_of" qz) (BO:eE K "factor_of_all" mq) (JX:eE K "_law_draw" sH) (JY:eE K "_law_name" sJ) (IM:eE K "_law_names" qJ) (JZ:eE K "_law_lite" sL) (J0:eE K "_law_much" sM) (J1:eE K "_law_rows" sO) (J3:eE K "_law_flat" sP) (zU:eE K "_law_part_deed" kZ) (J4:eE K "_law_deed" sQ) (Pw:eE K "_law_at" v8) (BP:eE K "_law_lite_one" mF) (C3:eE K "_law_lite_do" nW) (IP:eE K "_law_deeds" qK) (C4:eE K "_law_hold_do" nZ) (Nj:eE K "_law_one" ux)
  (Y5:PySem.W.nsIn K mainGlobals "len"=some none)
  (Uu:PySem.W.nsIn K mainGlobals "range"=some none)
  (Y6:PySem.W.nsIn K mainGlobals "sum"=some none)
  (XW:PySem.W.nsIn K mainGlobals "list"=some none)
  (Y7:PySem.W.nsIn K mainGlobals "zip"=some none)
  (Y8:PySem.W.nsIn K mainGlobals "all"=some none)
  (Y9:PySem.W.nsIn K mainGlobals "int"=some none)
  (XX:PySem.W.nsIn K mainGlobals "bool"=some none)
  (Y_:PySem.W.nsIn K mainGlobals "str"=some none)
  (Uv:PySem.W.nsIn K mainGlobals "tuple"=some none)
  (Za:PySem.W.nsIn K mainGlobals "abs"=some none)
  (IQ:PySem.W.nsIn K mainGlobals "isinstance"=some none)
  (Zb:PySem.W.nsIn K mainGlobals "min"=some none)
  {Nk:Tok} (Px:PySem.W.nsIn K mainGlobals "LETTERS"=some (some (.str "abcdefghijklmnopqrstuvwxyz" Nk)))
  {bV:Addr} (Uw:PySem.W.nsIn K mainGlobals "Hold"=some (some (.ref bV))) (Ux:PySem.W.plainGet K bV Str.empty=true) (Uy:PySem.W.hasDictIn K bV=true) (Uz:PySem.W.plainOver K bV=true) (UA:PySem.W.findIn K (.ref bV) "__setattr__"=some (some (.builtin "object.__setattr__"))) (UB:PySem.W.makesIn K bV=true) (UC:PySem.W.keepIn K (.ref bV)=true)
  (J5:cV K bV "__init__" "Hold.__init__" r8) (BQ:cV K bV "place_of" "Hold.place_of" mz) (C5:cV K bV "part_of" "Hold.part_of" nL) (zV:cV K bV "check_new" "Hold.check_new" kY) (IS:cV K bV "parts" "Hold.parts" qB) (IT:cV K bV "whole" "Hold.whole" qC) (v9:cV K bV "beyond_common" "Hold.beyond_common" jd) (C6:cV K bV "tops_of" "Hold.tops_of" nN) (J6:cV K bV "stow" "Hold.stow" rX) (J7:cV K bV "sign" "Hold.sign" rY) (J8:cV K bV "load" "Hold.load" rZ) (EH:cV K bV "shares" "Hold.shares" oZ) (EI:cV K bV "landed" "Hold.landed" o_) (BR:cV K bV "given_up" "Hold.given_up" mD) (EJ:cV K bV "lessen" "Hold.lessen" oW) (IU:cV K bV "blend" "Hold.blend" qD) (J9:cV K bV "cast" "Hold.cast" r_) (IV:cV K bV "award" "Hold.award" qG) (EK:cV K bV "mishap" "Hold.mishap" pe) (J_:cV K bV "rise" "Hold.rise" sj) (Ka:cV K bV "hand" "Hold.hand" sr) (Kc:cV K bV "land" "Hold.land" su) (IW:cV K bV "sever" "Hold.sever" qI)
  (EL:PySem.W.findIn K (.ref bV) "places"=some none)
  (EM:PySem.W.findIn K (.ref bV) "aboard"=some none)
  (EN:PySem.W.findIn K (.ref bV) "ashore"=some none)
  (IZ:PySem.W.findIn K (.ref bV) "names"=some none)
  (EO:PySem.W.findIn K (.ref bV) "bottom"=some none)
  (ER:PySem.W.findIn K (.ref bV) "common"=some none)
  (ES:PySem.W.findIn K (.ref bV) "purses"=some none)
  {iw:Addr} (UD:PySem.W.nsIn K mainGlobals "Part"=some (some (.ref iw))) (UE:PySem.W.plainGet K iw Str.empty=true) (UG:PySem.W.hasDictIn K iw=true) (UH:PySem.W.plainOver K iw=true) (UI:PySem.W.findIn K (.ref iw) "__setattr__"=some (some (.builtin "object.__setattr__"))) (UJ:PySem.W.makesIn K iw=true) (UK:PySem.W.keepIn K (.ref iw)=true)
  (Kd:cV K iw "__init__" "Part.__init__" rW)
  (Ke:PySem.W.findIn K (.ref iw) "name"=some none)
  (I0:PySem.W.findIn K (.ref iw) "owner"=some none)
  (I_:PySem.W.findIn K (.ref iw) "worth"=some none)
  (ET:PySem.W.findIn K (.ref iw) "weight"=some none)
  (Ja:PySem.W.findIn K (.ref iw) "scale"=some none)
  (Nl:PySem.W.findIn K (.ref iw) "row"=some none)
  {eU:Addr} (Py:PySem.W.nsIn K mainGlobals "Bottom"=some (some (.ref eU))) (Pz:PySem.W.plainGet K eU Str.empty=true) (PB:PySem.W.hasDictIn K eU=true) (PD:PySem.W.plainOver K eU=true) (PF:PySem.W.findIn K (.ref eU) "__setattr__"=some (some (.builtin "object.__setattr__"))) (PJ:PySem.W.makesIn K eU=true) (PK:PySem.W.keepIn K (.ref eU)=true)
  (EU:cV K eU "__init__" "Bottom.__init__" oU) (EV:cV K eU "over" "Bottom.over" oY) (C7:cV K eU "share" "Bottom.share" nR) (EW:cV K eU "grow" "Bottom.grow" oV)
  (C8:PySem.W.findIn K (.ref eU) "steps"=some none)
  (zW:PySem.W.findIn K (.ref eU) "product"=some none)
  (C9:PySem.W.findIn K (.ref eU) "known"=some none)
  {fP iF fQ gx d_ fR:Addr}
  (Nm:PySem.W.nsIn K mainGlobals "BadName"=some (some (.ref fP))) (Rz:PySem.W.nsIn K mainGlobals "Twice"=some (some (.ref iF))) (Np:PySem.W.nsIn K mainGlobals "NoOwner"=some (some (.ref fQ))) (PL:PySem.W.nsIn K mainGlobals "NoPart"=some (some (.ref gx))) (Jb:PySem.W.nsIn K mainGlobals "BadNumber"=some (some (.ref d_))) (Nq:PySem.W.nsIn K mainGlobals "TooMuch"=some (some (.ref fR)))
  (Nr:PySem.W.excIn K fP [.type "ValueError", .type "Exception", .type "BaseException", .type "object"] "ValueError.__new__"=true)
  (RA:PySem.W.excIn K iF [.type "ValueError", .type "Exception", .type "BaseException", .type "object"] "ValueError.__new__"=true)
  (Nt:PySem.W.excIn K fQ [.type "ValueError", .type "Exception", .type "BaseException", .type "object"] "ValueError.__new__"=true)
  (PM:PySem.W.excIn K gx [.type "ValueError", .type "Exception", .type "BaseException", .type "object"] "ValueError.__new__"=true)
  (Jc:PySem.W.excIn K d_ [.type "ValueError", .type "Exception", .type "BaseException", .type "object"] "ValueError.__new__"=true)
  (Nu:PySem.W.excIn K fR [.type "ValueError", .type "Exception", .type "BaseException", .type "object"] "ValueError.__new__"=true)
  :∃fd:FuncData,(∀(s:Shared) (v:Value),BindsTo s fd ⟨[v],[]⟩ [("_law_script",v)])/\∀base:Heap,K.In base->base.Ns mainGlobals mg->iC l.prog w K mg base qO 8 fa fd ["_law_script"] (Fl K):=by
 have e:=hfa.symm.trans (pC X G a)
 cases e
 have Zc:=RW (st:=n5) X G a l1 c k
 have tW:m7 K eU:=⟨Pz,PB,PD,PF⟩
 have dm:m7 K bV:=⟨Ux,Uy,Uz,UA⟩
 obtain ⟨_,_,BS⟩:=BN.at X G
 obtain ⟨_,_,PN⟩:=Pr.at X G
 obtain ⟨_,_,PO⟩:=Pu.at X G
 obtain ⟨_,_,C_⟩:=C0.at X G
 obtain ⟨_,_,Jd⟩:=IK.at X G
 obtain ⟨_,_,Je⟩:=IL.at X G
 obtain ⟨_,_,BU⟩:=BO.at X G
 obtain ⟨_,_,Kf⟩:=JX.at X G
 obtain ⟨_,_,Kg⟩:=JY.at X G
 obtain ⟨_,_,Jf⟩:=IM.at X G
 obtain ⟨_,_,Kh⟩:=JZ.at X G
 obtain ⟨_,_,Kl⟩:=J0.at X G
 obtain ⟨_,_,Km⟩:=J1.at X G
 obtain ⟨_,_,Kn⟩:=J3.at X G
 obtain ⟨_,_,zX⟩:=zU.at X G
 obtain ⟨_,_,Ko⟩:=J4.at X G
 obtain ⟨_,_,PR⟩:=Pw.at X G
 obtain ⟨_,_,BV⟩:=BP.at X G
 obtain ⟨_,_,Dc⟩:=C3.at X G
 obtain ⟨_,_,Jg⟩:=IP.at X G
 obtain ⟨_,_,De⟩:=C4.at X G
 obtain ⟨_,_,Nv⟩:=Nj.at X G
 have bK:=oz X G Y5
 have cR:=oz X G Uu
 have jv:=oz X G Y6
 have jz:=oz X G XW
 have gM:=oz X G Y7
 have MX:=oz X G Y8
 have Ni:=oz X G Y9
 have ad0:=oz X G XX
 have ad2:=oz X G Y_
 have CW:=oz X G Uv
 have ad3:=oz X G Za
 have XY:=oz X G IQ
 have tT:=oz X G Zb
 have xU:=pC X G Px
 obtain ⟨_,_,Kq⟩:=J5.made X G Uw UB UC
 obtain ⟨_,_,BW⟩:=BQ.at dm
 obtain ⟨_,_,Df⟩:=C5.at dm
 obtain ⟨_,_,zY⟩:=zV.at dm
 obtain ⟨_,_,Jh⟩:=IS.at dm
 obtain ⟨_,_,Ji⟩:=IT.at dm
 obtain ⟨_,_,v_⟩:=v9.at dm
 obtain ⟨_,_,Dg⟩:=C6.at dm
 obtain ⟨_,_,Kr⟩:=J6.at dm
 obtain ⟨_,_,Ks⟩:=J7.at dm
 obtain ⟨_,_,Ku⟩:=J8.at dm
 obtain ⟨_,_,EX⟩:=EH.at dm
 obtain ⟨_,_,EY⟩:=EI.at dm
 obtain ⟨_,_,BX⟩:=BR.at dm
 obtain ⟨_,_,EZ⟩:=EJ.at dm
 obtain ⟨_,_,Jj⟩:=IU.at dm
 obtain ⟨_,_,Kv⟩:=J9.at dm
 obtain ⟨_,_,Jk⟩:=IV.at dm
 obtain ⟨_,_,E1⟩:=EK.at dm
 obtain ⟨_,_,Kw⟩:=J_.at dm
 obtain ⟨_,_,Ky⟩:=Ka.at dm
 obtain ⟨_,_,Kz⟩:=Kc.at dm
 obtain ⟨_,_,Jl⟩:=IW.at dm
 obtain ⟨_,_,KA⟩:=Kd.made X G UD UJ UK
 obtain ⟨_,_,E2⟩:=EU.made X G Py PJ PK
 obtain ⟨_,_,E3⟩:=EV.at tW
 obtain ⟨_,_,Dh⟩:=C7.at tW
 obtain ⟨_,_,E4⟩:=EW.at tW
 have TX:Txt K ⟨bV,iw,eU⟩:=⟨dm,⟨UE,UG,UH,UI⟩,tW,EL,EM,EN,IZ,EO,ER,ES,Ke,I0,I_,ET,Ja,Nl,C8,zW,C9⟩
 have xY:=pC X G Nm
 have CK:=pC X G Rz
 have xV:=pC X G Np
 have zM:=pC X G PL
 have jF:=pC X G Jb
 have iP:=pC X G Nq
 have v5:=fW.of Nr
 have zO:=fW.of RA
 have vZ:=fW.of Nt
 have xW:=fW.of PM
 have jc:=fW.of Jc
 have gK:=fW.of Nu
 refine ⟨PySem.W.fnOf "law" "law" (dF n5) (bX n5) (aB n5) .none kV dc pm an cd ct,fun s v=> .of_eq rfl,fun base _ _=>?_⟩
 have gr:=zA (P:=l.prog) (w:=w) (base:=base) (mg:=mg) BS
 have xT:=MW (P:=l.prog) (w:=w) (base:=base) (mg:=mg) PN MX
 have mS:=MZ PO xT bK xU
 have dB:=zC (P:=l.prog) (w:=w) (base:=base) (mg:=mg) (e:=⟨fP,iF,fQ,gx,0,d_,fR,0,0,0,0⟩) C_ jc jF
 have lS:=CD Jd dB gK iP
 have UL:=WH dB
 have sf:=WI lS
 have se:=Em (P:=l.prog) (w:=w) (base:=base) (mg:=mg) Je bK
 have nP:=zH BU gr
 have zP:=CG (P:=l.prog) (w:=w) (base:=base) (mg:=mg) E2 TX
 have uT:=HU (P:=l.prog) (w:=w) (base:=base) (mg:=mg) KA TX jz
 have II:=Ic Kq TX zP
 have qE:=CI (P:=l.prog) (w:=w) (base:=base) (mg:=mg) E4 TX
 have qF:=CN E3 TX gr
 have o6:=BE Dh TX qF
 have d8:=yx (P:=l.prog) (w:=w) (base:=base) (mg:=mg) (e:=⟨fP,iF,fQ,gx,0,d_,fR,0,0,0,0⟩) BW TX vZ xV
 have gu:=Q0 d8
 have bN:=zL (P:=l.prog) (w:=w) (base:=base) (mg:=mg) (e:=⟨fP,iF,fQ,gx,0,d_,fR,0,0,0,0⟩) Df TX xW zM
 have gW:=OZ bN
 have i6:=xX (e:=⟨fP,iF,fQ,gx,0,d_,fR,0,0,0,0⟩) zY TX mS v5 xY zO CK
 have mC:=WJ i6
 have sS:=Er (P:=l.prog) (w:=w) (base:=base) (mg:=mg) Jh TX
 have jf:=Et (P:=l.prog) (w:=w) (base:=base) (mg:=mg) Ji TX jv
 have eF:=uS (P:=l.prog) (w:=w) (base:=base) (mg:=mg) v_ TX gM
 have eG:=Bw (P:=l.prog) (w:=w) (base:=base) (mg:=mg) Dg TX gM
 have jG:=HY (P:=l.prog) (w:=w) (base:=base) (mg:=mg) Kr TX
 have jI:=HZ Ks TX mS bK
 have uu:=H_ Ku TX mC gu eF jG uT bK
 have nQ:=zQ (P:=l.prog) (w:=w) (base:=base) (mg:=mg) BX TX jv gM
 have iE:=CM (P:=l.prog) (w:=w) (base:=base) (mg:=mg) EZ TX
 have jg:=Ew Jj TX nP qE gM
 have uw:=Ij Kv TX se sf gW jf jg nQ iE jv
 have uW:=CP EX TX gW eG o6 gM
 have qL:=CS (P:=l.prog) (w:=w) (base:=base) (mg:=mg) EY TX jz
 have E5:=CT (e:=⟨fP,iF,fQ,gx,0,d_,fR,0,0,0,0⟩) Jk TX d8 dB jf jg bK gK iP
 have Di:=BF (e:=⟨fP,iF,fQ,gx,0,d_,fR,0,0,0,0⟩) E1 TX bN lS iE
 have Jo:=EB (e:=⟨fP,iF,fQ,gx,0,d_,fR,0,0,0,0⟩) Kw TX bN dB
 have Jp:=EC (e:=⟨fP,iF,fQ,gx,0,d_,fR,0,0,0,0⟩) Ky TX bN d8 eG eF
 have Jq:=ED (e:=⟨fP,iF,fQ,gx,0,d_,fR,0,0,0,0⟩) Kz TX bN gu eG uW gM
 have E6:=CV (e:=⟨fP,iF,fQ,gx,0,d_,fR,0,0,0,0⟩) Jl TX bN i6 jG uT jc jF gK iP
 have aU:=Ip (P:=l.prog) (w:=w) (base:=base) (mg:=mg) Kf bK cR
 have pP:=Iq (P:=l.prog) (w:=w) (base:=base) (mg:=mg) Kg cR
 have n_:=EE Jf aU pP cR
 have uy:=Iw (P:=l.prog) (w:=w) (base:=base) (mg:=mg) Kh jz
 have jH:=Iz Kl aU
 have uh:=IA Km aU bK cR jz jv tT
 have um:=IB (P:=l.prog) (w:=w) (base:=base) (mg:=mg) Kn CW
 have mE:=yz zX aU jH uh um bK jv tT
 have ur:=ID Ko aU jH mE bK
 have tV:=Nf (P:=l.prog) (w:=w) (base:=base) (mg:=mg) PR bK cR
 have nX:=zT (P:=l.prog) (w:=w) (base:=base) (mg:=mg) BV
 have pA:=BI Dc tV nX bK cR
 have sR:=EF Jg ur pA cR
 have pB:=BK De jI uu uw E5.n Di.n Jo.n Jp.n Jq.n E6.n bK cR
 have qW:=JW (P:=l.prog) (w:=w) (base:=base) (mg:=mg) Nv
 exact XI Zc aU n_ uy II jI sR pB sS uW qL qW bK Ni
theorem walk {l:PySem.W.OpenLaw} {q:Program} {loose:List Str} {XP:(Str->Option Value)->Heap->Prop} {YP:World->Heap->Prop} {d:DefRec} {K:Params->Fg} (hn:l.most=some 63) (hdf:d.params.defaults=[])
  (hY:∀(w:World) (h:Heap),YP w h->(K w.params).In h)
  (F:∀(w:World) (mg:SO) (fa:Addr) (h:Heap),(K w.params).In h->h.Ns mainGlobals mg->mg d.name=some (.ref fa)->
    ∃fd:FuncData,(∀(s:Shared) (u:Value),BindsTo s fd ⟨[u],[]⟩ [("_law_script",u)])/\∀base:Heap,(K w.params).In base->base.Ns mainGlobals mg->iC l.prog w (K w.params) mg base qO 8 fa fd ["_law_script"] (Fl (K w.params))):
  PySem.W.WalkO q loose XP YP l.row.toRowW d [] (fun f vs=>PySem.call f vs):=
 L2.Th (n:=63) (k:=8) (x:="_law_script") (CX:=fun _=>qO) (sp:=fun w=>Fl (K w.params)) hn (by decide) hdf ⟨Z,by decide,by decide⟩ hY F (fun _ _ a ns hl _ hS=>⟨a,ns,Z,hS,hl,fun _=>rfl⟩) fun _ _ _ _ _ z=>z
end WY
namespace PySem.W.Fast
abbrev A:=True
theorem a:A:=⟨⟩
theorem tw3723830662485475350:A:=a
theorem tw10988586666179147225:A:=a
theorem tw16779781556185376040:A:=a
theorem tw503439573334811643:A:=a
theorem tw627781332860673797:A:=a
theorem tw363865505252810580:A:=a
theorem tw11033044101995025143:A:=a
theorem tw13896952095688755382:A:=a
theorem tw16962711399311796731:A:=a
theorem tw1788675222673611430:A:=a
theorem tw11781726359170593842:A:=a
theorem tw14774659423853101826:A:=a
theorem tw18059941422077685931:A:=a
theorem tw17800946448426466892:A:=a
theorem tw2014499461404125330:A:=a
theorem tw15899969050078389039:A:=a
theorem tw8214693024445229324:A:=a
theorem tw11749491037359316739:A:=a
theorem tw6804508189963608177:A:=a
theorem tw2074429599713634851:A:=a
theorem tw5751865201728035586:A:=a
theorem tw22921371347505294:A:=a
theorem tw12300483930468033249:A:=a
theorem tw4397887689736622253:A:=a
theorem tw18389013096833718023:A:=a
theorem tw713380284684608450:A:=a
theorem tw8335533926284646205:A:=a
theorem tw9516971594500225691:A:=a
theorem tw6130850604454706540:A:=a
theorem tw3035119803607743697:A:=a
theorem tw4742607284396349505:A:=a
theorem tw392868279246588356:A:=a
theorem tw4019330630808156722:A:=a
theorem tw16219670512217712840:A:=a
theorem tw6928583533343657360:A:=a
theorem tw5874947733354024214:A:=a
theorem tw15397205652391562574:A:=a
theorem tw838742923797127151:A:=a
theorem tw10384683477269961098:A:=a
theorem tw12649343751931487077:A:=a
theorem tw7077458132877414340:A:=a
theorem tw12146578287088136942:A:=a
theorem tw10296246570414788233:A:=a
theorem tw8991944914984718796:A:=a
theorem tw1751686143943532021:A:=a
theorem tw6517684562156235535:A:=a
theorem tw18093903046193223132:A:=a
theorem tw7994691927004697181:A:=a
theorem tw17973849722166109732:A:=a
theorem tw2503871506667248942:A:=a
theorem tw17795288071153839531:A:=a
theorem tw2481652404047182490:A:=a
theorem tw17525829145390704994:A:=a
theorem tw16239941552603130783:A:=a
theorem tw16503381781910815326:A:=a
theorem tw7696115821522189488:A:=a
theorem tw11201300673230864724:A:=a
theorem tw4962893574488932579:A:=a
theorem tw7533561146158534151:A:=a
theorem tw15791640946343948122:A:=a
theorem tw8152213973112048452:A:=a
theorem tw7408083357656476837:A:=a
theorem tw9354340008360156387:A:=a
theorem tw10955326992459317043:A:=a
theorem tw8542920335837070259:A:=a
theorem tw8797278072517683263:A:=a
theorem tw3835166580050748215:A:=a
theorem tw10178107535916301902:A:=a
theorem tw2774488932700997109:A:=a
theorem tw250140532456814868:A:=a
theorem tw364092285254165926:A:=a
theorem tw4364573765978421109:A:=a
theorem tw165480500861104809:A:=a
theorem tw13770893612998414285:A:=a
theorem tw2502723316223338107:A:=a
theorem tw17955857734459121173:A:=a
theorem tw8646620913472822474:A:=a
theorem tw7463142373784945735:A:=a
theorem tw10598524868408733033:A:=a
theorem tw7439353598676461452:A:=a
theorem tw6029125605431319475:A:=a
theorem tw15352309839884384174:A:=a
theorem tw14918689192692257534:A:=a
theorem tw10915310542572900181:A:=a
theorem tw15537014764275350242:A:=a
theorem tw15672486674208840844:A:=a
theorem tw6767361918062356229:A:=a
theorem tw7893170375941192571:A:=a
theorem tw574795930080666323:A:=a
theorem tw13383379521548320531:A:=a
theorem tw5465484900730812644:A:=a
theorem tw18387539475874817382:A:=a
theorem tw4392389874276924952:A:=a
theorem tw4012415201935768720:A:=a
theorem tw7982450780861973178:A:=a
theorem tw16585252954876834924:A:=a
theorem tw11114798782309234067:A:=a
theorem tw974286332391759703:A:=a
theorem tw10923680104825065447:A:=a
theorem tw5391337223009212498:A:=a
theorem tw4197560625787113156:A:=a
theorem tw5547713315903729899:A:=a
theorem tw14643481273479701497:A:=a
theorem tw17690877497938041372:A:=a
theorem tw8178306807088711871:A:=a
theorem tw8777126216889545803:A:=a
theorem tw16749385530073311951:A:=a
theorem tw2368504806543898989:A:=a
theorem tw1870214933448087419:A:=a
theorem tw13168591297436662103:A:=a
theorem tw17220052177487909682:A:=a
theorem tw13224691762369803528:A:=a
theorem tw18281807669341945039:A:=a
theorem tw16243448490893268971:A:=a
theorem tw11295294702224702333:A:=a
theorem tw3178994486348750523:A:=a
theorem tw13319352183141343156:A:=a
theorem tw4502557600789630411:A:=a
theorem tw13243593382336059339:A:=a
theorem tw398632413677012520:A:=a
theorem tw5862768759133717883:A:=a
theorem tw2020751154316112618:A:=a
theorem tw7723532113846429974:A:=a
theorem tw7498013232152157410:A:=a
theorem tw3511857972851823675:A:=a
theorem tw16478317584917133038:A:=a
theorem tw13596867042374839627:A:=a
theorem tw12951343731803720762:A:=a
theorem tw18270465601400149081:A:=a
theorem tw14065540717278133684:A:=a
theorem tw16212802304052060473:A:=a
theorem tw14131633834636614069:A:=a
theorem tw8918506496838989672:A:=a
theorem tw17133545874819304060:A:=a
theorem tw9897343467956440794:A:=a
theorem tw5594640614974789267:A:=a
theorem tw786450620847881229:A:=a
theorem tw1444572043628295881:A:=a
theorem tw13161967742216062106:A:=a
theorem tw13121823561099669710:A:=a
theorem tw5064336714638208041:A:=a
theorem tw905137137227081793:A:=a
theorem tw5268965004764087997:A:=a
theorem tw1691496634832047269:A:=a
theorem tw2452435648332884354:A:=a
theorem tw7774695386274177284:A:=a
theorem tw16014841736796302460:A:=a
theorem tw2912674049531914581:A:=a
theorem tw16316586977834218809:A:=a
theorem tw4383773476010095750:A:=a
theorem tw11125710067388410792:A:=a
theorem tw4725242910279251741:A:=a
theorem tw17883668903929862807:A:=a
theorem tw6158758319552030824:A:=a
theorem tw6247761550199643808:A:=a
theorem tw16217761752536910474:A:=a
theorem tw9155470586881769254:A:=a
theorem tw12821976966689217747:A:=a
theorem tw13666375281691020973:A:=a
theorem tw6285274057511925849:A:=a
theorem tw1368678868186632313:A:=a
theorem tw13126731568442831943:A:=a
theorem tw17378311255916624149:A:=a
theorem tw17299522489695544635:A:=a
theorem tw16417255668415952313:A:=a
theorem tw5765710894431779960:A:=a
theorem tw8710729431794197931:A:=a
theorem tw11524345672642533965:A:=a
theorem tw9520398429312199721:A:=a
theorem tw2480626007127072188:A:=a
theorem tw9885909573239681560:A:=a
theorem tw5170639292272596833:A:=a
theorem tw16645674249563442884:A:=a
theorem tw12455839073171486445:A:=a
theorem tw1192218905833031606:A:=a
theorem tw3692089784411247746:A:=a
theorem tw12952645615358311547:A:=a
theorem tw11838598572318086496:A:=a
theorem tw578587935474990218:A:=a
theorem tw4586336899418107139:A:=a
theorem tw771322474537905549:A:=a
theorem tw5805196047502651237:A:=a
theorem tw15100356680220786669:A:=a
theorem tw4434689666455219770:A:=a
theorem tw17584153712144101098:A:=a
theorem tw4098573765150770777:A:=a
theorem tw13479468147811336408:A:=a
theorem tw8853932528139673883:A:=a
theorem tw8027477160066011519:A:=a
theorem tw279881670406138920:A:=a
theorem tw15784002655378395687:A:=a
theorem tw5230248573227803598:A:=a
theorem tw8640233966141803780:A:=a
theorem tw9798895791945602847:A:=a
theorem tw18114280096178195868:A:=a
theorem tw14049697825349491236:A:=a
theorem tw1408465730742696326:A:=a
theorem tw11937069370815444686:A:=a
theorem tw6757952970770547275:A:=a
theorem tw17247211890472060503:A:=a
theorem tw16145657328683753260:A:=a
theorem tw14714227645765671387:A:=a
theorem tw13241235550402689979:A:=a
theorem tw14466011046936342544:A:=a
theorem tw1971345788389305449:A:=a
theorem tw12052255591424962109:A:=a
theorem tw1498396081212068876:A:=a
theorem tw554133895680227887:A:=a
theorem tw2930527650241946021:A:=a
theorem tw13934073737233009341:A:=a
theorem tw6376901596389537460:A:=a
theorem tw7666612890651110074:A:=a
theorem tw7361712557346605131:A:=a
theorem tw15316827578197212402:A:=a
theorem tw14364302359735464277:A:=a
theorem tw6594590505201756916:A:=a
theorem tw7401423962390094420:A:=a
theorem tw5109059831297585262:A:=a
theorem tw17474041104774502622:A:=a
theorem tw13332844961712695485:A:=a
theorem tw385826127684246044:A:=a
theorem tw5015194642088877539:A:=a
theorem tw14533113756900720815:A:=a
theorem tw66202031420712160:A:=a
theorem tw6636754750634280595:A:=a
theorem tw15623775566544641992:A:=a
theorem tw11449859407421341207:A:=a
theorem tw16613380122735356143:A:=a
theorem tw10572500333189446893:A:=a
theorem tw14324275021685861345:A:=a
theorem tw5429405435577728228:A:=a
theorem tw13775794808486634149:A:=a
theorem tw643715714738346161:A:=a
theorem tw12028536829445175526:A:=a
theorem tw7174460022572190619:A:=a
theorem tw14012136741691268430:A:=a
theorem tw56349782889879042:A:=a
theorem tw16919391951239321585:A:=a
theorem tw3807340783976540268:A:=a
theorem tw10396177313655771023:A:=a
theorem tw17083948210279723625:A:=a
theorem tw16167420777725904544:A:=a
theorem tw4154013517166674188:A:=a
theorem tw1897313898515572497:A:=a
theorem tw12855368698965316719:A:=a
theorem tw9126426300270816634:A:=a
theorem tw18388143626198233097:A:=a
theorem tw520967954690184665:A:=a
theorem tw172682391760018710:A:=a
theorem tw9513798620821287429:A:=a
theorem tw7939012443744940447:A:=a
theorem tw3870242815299520815:A:=a
theorem tw12738449127391683210:A:=a
theorem tw8336184957515610947:A:=a
theorem tw16992692605220060429:A:=a
theorem tw18221329800630257500:A:=a
theorem tw7658609373654062059:A:=a
theorem tw12051127197766569125:A:=a
theorem tw15045913373274389455:A:=a
theorem tw16187188544519439104:A:=a
theorem tw9153667475000336665:A:=a
theorem tw3524592137302275531:A:=a
theorem tw3956626859461082870:A:=a
theorem tw1286754702200813325:A:=a
theorem tw17961432965951124145:A:=a
theorem tw7198352922827313680:A:=a
theorem tw18141805050351983932:A:=a
theorem tw10594900520747655789:A:=a
theorem tw615544166014046503:A:=a
theorem tw16271917855062916257:A:=a
theorem tw7130549631333497191:A:=a
theorem tw2439727153900520202:A:=a
theorem tw12461648798984700024:A:=a
theorem tw2389130003312621906:A:=a
theorem tw15974561736034102281:A:=a
theorem tw296629085545071302:A:=a
theorem tw11144524116311264704:A:=a
theorem tw12631339115379098835:A:=a
theorem tw5245105537305745955:A:=a
theorem tw12338799850259718670:A:=a
theorem tw16318635587687017264:A:=a
theorem tw12667819619866050597:A:=a
theorem tw2197146636879221143:A:=a
theorem tw16781385465712890181:A:=a
theorem tw12839784294251140572:A:=a
theorem tw15745517789470848053:A:=a
theorem tw1944290154932185627:A:=a
theorem tw4510616887191056327:A:=a
theorem tw16329545846423249862:A:=a
theorem tw16372277208754713656:A:=a
theorem tw688820570683302270:A:=a
theorem tw6438278158324853365:A:=a
theorem tw9656127335587642885:A:=a
theorem tw4055217230578720957:A:=a
theorem tw15970056725497884845:A:=a
theorem tw16803330400236481919:A:=a
theorem tw3324144684204770053:A:=a
theorem tw8921548924798925360:A:=a
theorem tw129085936468094489:A:=a
theorem tw1507917060095033496:A:=a
theorem tw12220122819790299792:A:=a
theorem tw14112844786312504729:A:=a
theorem tw13140904354577414477:A:=a
theorem tw9718692040618221642:A:=a
theorem tw5285025819057060754:A:=a
theorem tw3121019523669740375:A:=a
theorem tw4649134050424672852:A:=a
theorem tw16755417959864563549:A:=a
theorem tw11293213793796585459:A:=a
theorem tw2429371240649156397:A:=a
theorem tw12883852096768756807:A:=a
theorem tw15363104837388949640:A:=a
theorem tw12849608378761264986:A:=a
theorem tw17376013635527507524:A:=a
theorem tw5035118585076093884:A:=a
theorem tw4202850638529686369:A:=a
theorem tw17136545051727198901:A:=a
theorem tw9049028786489380735:A:=a
theorem tw11670285064035534889:A:=a
theorem tw4365133443230642644:A:=a
theorem tw11873830273156455175:A:=a
theorem tw10890530418351159667:A:=a
theorem tw13942594308633310718:A:=a
theorem tw2566579656767614884:A:=a
theorem tw190800118225284111:A:=a
theorem tw2384040177418236595:A:=a
theorem tw774135390223523926:A:=a
theorem tw13446590693923742963:A:=a
theorem tw3352565374320467574:A:=a
theorem tw9152378320678935551:A:=a
theorem tw624540266520585609:A:=a
theorem tw10610408981644335499:A:=a
theorem tw2022549865167846322:A:=a
theorem tw16822929254501078222:A:=a
theorem tw11061487938795253239:A:=a
theorem tw12800635811195221530:A:=a
theorem tw14335810081209411305:A:=a
theorem tw14330325328002591517:A:=a
theorem tw168530037495651057:A:=a
theorem tw136599299564634215:A:=a
theorem tw8960022676247307620:A:=a
theorem tw7426930673249635019:A:=a
theorem tw11825187865669204295:A:=a
theorem tw1451405941677185136:A:=a
theorem tw5328905281848569904:A:=a
theorem tw13819673148005420986:A:=a
theorem tw12466987628297021159:A:=a
theorem tw10636767650260036262:A:=a
theorem tw3218914083983715616:A:=a
theorem tw1805971796449470578:A:=a
theorem tw7650124992078304014:A:=a
theorem tw2353059266975094514:A:=a
theorem tw2504439438432450270:A:=a
theorem tw17463976429879895718:A:=a
theorem tw12358196361378255124:A:=a
theorem tw4573186827764276109:A:=a
theorem tw12238834896525626174:A:=a
theorem tw17672069919725534943:A:=a
theorem tw9051257039956124470:A:=a
theorem tw1712262091659500396:A:=a
theorem tw4517978198781583097:A:=a
theorem tw8097581407165399364:A:=a
theorem tw6210123812316171211:A:=a
theorem tw14054416742302452334:A:=a
theorem tw2539341845830371471:A:=a
theorem tw1169453407786602444:A:=a
theorem tw15011356052476275876:A:=a
theorem tw6606428104252916929:A:=a
theorem tw7743479296604090822:A:=a
theorem tw10430512494943191106:A:=a
theorem tw8040420482036688636:A:=a
theorem tw5261347947811047948:A:=a
theorem tw17892098094590318035:A:=a
theorem tw13702506157739598529:A:=a
theorem tw13278149456712899135:A:=a
theorem tw9520978887452420226:A:=a
theorem tw9297464061116794638:A:=a
theorem tw12840728178767146479:A:=a
theorem tw2676233871646931777:A:=a
theorem tw12786793579305068607:A:=a
theorem tw13799122607340178194:A:=a
theorem tw16270027850523807685:A:=a
theorem tw6080292602228357624:A:=a
theorem tw8196785812529725700:A:=a
theorem tw14476007766667991019:A:=a
theorem tw10222085801800101835:A:=a
theorem tw7737198137787338954:A:=a
theorem tw4175445289082756758:A:=a
theorem tw5892093745711121290:A:=a
theorem tw6475695374762982560:A:=a
theorem tw8023329785053078111:A:=a
theorem tw5348632643825087334:A:=a
theorem tw18254922432737434874:A:=a
theorem tw17098062127951574682:A:=a
theorem tw13243615863664428766:A:=a
theorem tw12063640250976461846:A:=a
theorem tw17885224088810299186:A:=a
theorem tw17384283962054558134:A:=a
theorem tw15064583824147906807:A:=a
theorem tw7200933606949871755:A:=a
theorem tw9201400277431377340:A:=a
theorem tw12120874022047747817:A:=a
theorem tw13879496921942194538:A:=a
theorem tw5965207674786865541:A:=a
theorem tw2487766615303946936:A:=a
theorem tw6895455315220463768:A:=a
theorem tw9481425659835546457:A:=a
theorem tw16817646159433273932:A:=a
theorem tw8474503322414885531:A:=a
theorem tw1035619600173337308:A:=a
theorem tw8980218163899244927:A:=a
theorem tw17009843346568682842:A:=a
theorem tw3416286525407389657:A:=a
theorem tw11994656024706110744:A:=a
theorem tw2083116729989019174:A:=a
theorem tw17807302761222792642:A:=a
theorem tw12392064713690875237:A:=a
theorem tw14012790862167810848:A:=a
theorem tw10306175003821454596:A:=a
theorem tw9026633938113628347:A:=a
theorem tw6408270249457343392:A:=a
theorem tw8831376085913762451:A:=a
theorem tw9184377150026944045:A:=a
theorem tw5142598328823714425:A:=a
theorem tw6840250136844174982:A:=a
theorem tw17781824569089102085:A:=a
theorem tw4030638553991088203:A:=a
theorem tw6679380690084189348:A:=a
theorem tw11292585976024746475:A:=a
theorem tw1350228257422335600:A:=a
theorem tw14592488689367792673:A:=a
theorem tw9090619424581871430:A:=a
theorem tw6126989973738464727:A:=a
theorem tw17805594456788553636:A:=a
theorem tw2447555697450649018:A:=a
theorem tw8804464372303573258:A:=a
theorem tw8856366891385198698:A:=a
theorem tw8070346536314532809:A:=a
theorem tw8289248777696638387:A:=a
theorem tw13240345842174097124:A:=a
theorem tw17411766346052375535:A:=a
theorem tw5509687681253463120:A:=a
theorem tw12647005988607939672:A:=a
theorem tw8136977530565629497:A:=a
theorem tw15250997330789792421:A:=a
theorem tw3585027488688817845:A:=a
theorem tw4499552104224333297:A:=a
theorem tw2868407608310962953:A:=a
theorem tw1482225228252620905:A:=a
theorem tw12281385827054458385:A:=a
theorem tw16386903714223542390:A:=a
theorem tw16227199710944801030:A:=a
theorem tw4185529363907747756:A:=a
theorem tw15062598545349823488:A:=a
theorem tw7055170097057642610:A:=a
theorem tw14706905492387538248:A:=a
theorem tw17097674041198212923:A:=a
theorem tw4299612290111087300:A:=a
theorem tw11252365943187813970:A:=a
theorem tw9147759619083846116:A:=a
theorem tw16470393562738091437:A:=a
theorem tw15427251388146758914:A:=a
theorem tw7538926059409010146:A:=a
theorem tw14277622088760899805:A:=a
theorem tw4289065034309076373:A:=a
theorem tw7289696977307239074:A:=a
theorem tw2280918565374594079:A:=a
theorem tw12798437295952849331:A:=a
theorem tw10132899255924066397:A:=a
theorem tw7610686896948656356:A:=a
theorem tw18067365520556995597:A:=a
theorem tw12280374644059271015:A:=a
theorem tw7820913941243924531:A:=a
theorem tw7408890230389184230:A:=a
theorem tw14936952466594198972:A:=a
theorem tw6375013452327252108:A:=a
theorem tw8332435450853108636:A:=a
theorem tw1197047900569460257:A:=a
theorem tw8450234492572593744:A:=a
theorem tw9911516112115601725:A:=a
theorem tw11986483038407455518:A:=a
theorem tw10081459421030533267:A:=a
theorem tw12666025969021554386:A:=a
theorem tw18050452014687087555:A:=a
theorem tw14200543518303898271:A:=a
theorem tw9437983074714706824:A:=a
theorem tw18271578688539048377:A:=a
theorem tw13492291348598772663:A:=a
theorem tw14912253379169122103:A:=a
theorem tw10307573137936913354:A:=a
theorem tw14561205996606225769:A:=a
theorem tw49147163673202238:A:=a
theorem tw16476009915067940229:A:=a
theorem tw11408232943763641098:A:=a
theorem tw11035382425014167944:A:=a
theorem tw9132553311786790725:A:=a
theorem tw17132260784528056533:A:=a
theorem tw10240913382625286830:A:=a
theorem tw183425894955605109:A:=a
theorem tw8694087842200876854:A:=a
theorem tw2002643957858384889:A:=a
theorem tw16570283021400318305:A:=a
theorem tw17092321722231100668:A:=a
theorem tw14093651774321876723:A:=a
theorem tw9891225689196246625:A:=a
theorem tw17760379808527142015:A:=a
theorem tw10228812780988976796:A:=a
theorem tw14236978143636697843:A:=a
theorem tw10758576499278530228:A:=a
theorem tw1321572563798858547:A:=a
theorem tw14648275943376582504:A:=a
theorem tw1083398786072065763:A:=a
theorem tw12180860400903491915:A:=a
theorem tw5344944766215234656:A:=a
theorem tw6291843165543055534:A:=a
theorem tw15275752449604219830:A:=a
theorem tw5429949342924360635:A:=a
theorem tw4503933172106145951:A:=a
theorem tw15511661908204760100:A:=a
theorem tw994099776154538318:A:=a
theorem tw17164201572052723507:A:=a
theorem tw11429937536317969926:A:=a
theorem tw3943676753086944012:A:=a
theorem tw16507812263518732902:A:=a
theorem tw17142932744387122657:A:=a
theorem tw5641452895139550398:A:=a
theorem tw10516112018744221958:A:=a
theorem tw9368588910224977137:A:=a
theorem tw3914337180621705721:A:=a
theorem tw1074583099559602742:A:=a
theorem tw9767231563595321157:A:=a
theorem tw16811824479659463135:A:=a
theorem tw16305417141670146469:A:=a
theorem tw9984892329112807307:A:=a
theorem tw13747981842168440299:A:=a
theorem tw7895866921608050156:A:=a
theorem tw17377181916037559582:A:=a
theorem tw10060987837233339112:A:=a
theorem tw6806354633829976646:A:=a
theorem tw3230339965225852492:A:=a
theorem tw3134857777646931228:A:=a
theorem tw18198352038866875720:A:=a
theorem tw17671505852954578184:A:=a
theorem tw5793239937068763728:A:=a
theorem tw665672853010119962:A:=a
theorem tw633734255094169544:A:=a
theorem tw10006015054928061181:A:=a
theorem tw4551553331124471975:A:=a
theorem tw13506745404112356548:A:=a
theorem tw13512865910549613037:A:=a
theorem tw13623615461234739634:A:=a
theorem tw4261885002079874800:A:=a
theorem tw5612983091363805803:A:=a
theorem tw11924617527563245422:A:=a
theorem tw16139030935724463073:A:=a
theorem tw8299635388477597140:A:=a
theorem tw7995529878363062877:A:=a
theorem tw11966304257472389001:A:=a
theorem tw7676461382384818098:A:=a
theorem tw7419311189192958252:A:=a
theorem tw4450699676329708219:A:=a
theorem tw11400414057273659370:A:=a
theorem tw12168039149216318168:A:=a
theorem tw1370258186249041595:A:=a
theorem tw10508927540601352666:A:=a
theorem tw9173670680137047569:A:=a
theorem tw9596574636390964339:A:=a
theorem tw3668414083664651436:A:=a
theorem tw4943549847333402106:A:=a
theorem tw3920763175084560534:A:=a
theorem tw13890224357313082911:A:=a
theorem tw7198825480668708363:A:=a
theorem tw6144226141670228122:A:=a
theorem tw16631727303267495630:A:=a
theorem tw1637130808409280784:A:=a
theorem tw15778058591908057034:A:=a
theorem tw8426413289688098330:A:=a
theorem tw7552402544836018815:A:=a
theorem tw9078744455824513709:A:=a
theorem tw4145925683029929393:A:=a
theorem tw10395865034282025593:A:=a
theorem tw3558299382047213728:A:=a
theorem tw11115893145104504249:A:=a
theorem tw3110721377673068185:A:=a
theorem tw5623869948578488329:A:=a
theorem tw7886091308882158671:A:=a
theorem tw15146665751222383567:A:=a
theorem tw5216261017254838186:A:=a
theorem tw17240757652456078727:A:=a
theorem tw7250733747522469:A:=a
theorem tw9159491163160240628:A:=a
theorem tw2051850111696742865:A:=a
theorem tw8067509039221400915:A:=a
theorem tw12235024557827362625:A:=a
theorem tw14546834435773847657:A:=a
theorem tw206681106200039652:A:=a
theorem tw1823242580981405339:A:=a
theorem tw740644601687240997:A:=a
theorem tw1488865742286671498:A:=a
theorem tw7894874522496535313:A:=a
theorem tw2314925223166476245:A:=a
theorem tw13117906833690140551:A:=a
theorem tw1345723770354341272:A:=a
theorem tw8937422262536667875:A:=a
theorem tw11571547477665098873:A:=a
theorem tw10076481586302644207:A:=a
theorem tw17402150605519039939:A:=a
theorem tw1358494324012712266:A:=a
theorem tw18208381262763380540:A:=a
theorem tw10007952413158560105:A:=a
theorem tw2667253889698115725:A:=a
theorem tw13249989024786747459:A:=a
theorem tw15207557803624598812:A:=a
theorem tw10527335506460805711:A:=a
theorem tw15748544909342178132:A:=a
theorem tw6092762853906432251:A:=a
theorem tw3882461591048178394:A:=a
theorem tw4103408067064389159:A:=a
theorem tw16545064832170044310:A:=a
theorem tw8530224691110443655:A:=a
theorem tw6005733264634970288:A:=a
theorem tw14891815733061247837:A:=a
theorem tw698085041595267419:A:=a
theorem tw14542008837434435497:A:=a
theorem tw2677254635018180428:A:=a
theorem tw7835369629310732995:A:=a
theorem tw6687966113563578747:A:=a
theorem tw17477524008920462433:A:=a
theorem tw187084614636961690:A:=a
theorem tw970364620230952836:A:=a
theorem tw6080305562196676784:A:=a
theorem tw10537750027350489433:A:=a
theorem tw9890536933996306690:A:=a
theorem tw7578377446437123553:A:=a
theorem tw17007932010523399839:A:=a
theorem tw359855713393656223:A:=a
theorem tw9348747019364154612:A:=a
theorem tw2763516006954801136:A:=a
theorem tw11810353673526662727:A:=a
theorem tw13830997120056895441:A:=a
theorem tw7203433634396040220:A:=a
theorem tw10429141652799163524:A:=a
end PySem.W.Fast
open PySem PySem.W PyProof.Rows
set_option maxRecDepth 100000 in
set_option maxHeartbeats 0 in
theorem PySem.Challenge.cw_jettison_k32_whole_shares_come_to_one_holds : PySem.Challenge.rw_jettison_k32_whole_shares_come_to_one.Holds := by
 w_on;o_law;k_head;(case hw=>w_witness2)
 k_fill
 refine WY.walk (l:=PySem.Challenge.rw_jettison_k32_whole_shares_come_to_one) rfl rfl (fun w h Y=>PySem.W.kIn_of Y) ?F
 case F=>
  intro w mg fa h KX G hmg
  refine' WY.all_mk KX G hmg ?_ ?_ ?_ ?_ ?_ ?_ ?_ ?_ ?_ ?_ ?_ ?_ ?_ ?_ ?_ ?_ ?_ ?_ ?_ ?_ ?_ ?_ ?_ ?_ ?_ ?_ ?_ ?_ ?_ ?_ ?_ ?_ ?_ ?_ ?_ ?_ ?_ ?_ ?_ ?_ ?_ ?_ ?_ ?_ ?_ ?_ ?_ ?_ ?_ ?_ ?_ ?_ ?_ ?_ ?_ ?_ ?_ ?_ ?_ ?_ ?_ ?_ ?_ ?_ ?_ ?_ ?_ ?_ ?_ ?_ ?_ ?_ ?_ ?_ ?_ ?_ ?_ ?_ ?_ ?_ ?_ ?_ ?_ ?_ ?_ ?_ ?_ ?_ ?_ ?_ ?_ ?_ ?_ ?_ ?_ ?_ ?_ ?_ ?_ ?_ ?_ ?_ ?_ ?_ ?_ ?_ ?_ ?_ ?_ ?_ ?_ ?_ ?_ ?_ ?_ ?_ ?_
  any_goals first|(refine' L2.eE.of ?a ?l ?c ?k;(case a=>k_is);(case l=>k_is);(case c=>k_is);(case k=>k_is))|(refine' L2.cV.of ?a ?i ?l ?c ?k;(case a=>k_is);(case i=>k_is);(case l=>k_is);(case c=>k_is);(case k=>k_is))|k_is|k_exc
