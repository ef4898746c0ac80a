import PyProof.Rows.All
import Wide.All
import OpenK.AllK
import Wide.FinOn
import Lean
import PyProof.EqAt
import PyProof.EqKinds
import PyProof.TupleCall
import PySem.Challenge.RW_jettison_k22_awards
set_option Elab.async false
set_option linter.all false
set_option maxRecDepth 100000
abbrev Fg:=PySem.W.Frag
abbrev VS:=PySem.Value->PySem.Shared->Prop
abbrev AO:=List (PySem.Addr×PySem.Obj)
abbrev SO:=PySem.Str->Option PySem.Value
set_option autoImplicit true
def V4:=@PySem.F.slot_dict_valueiterator_next
def Rj:=@Int.mul_le_mul_of_nonneg_right
def Gq:=@Int.mul_le_mul_of_nonneg_left
def V5:=@PySem.wpAny_typeNameOfWhole_keyiter
def V6:=@PySem.wpAny_typeNameOfWhole_valiter
def V7:=@PySem.F.slot_dict_keyiterator_next
def jK:=@PyProof.Rows.boot_isinstance
def V8:=@PyProof.Rows.callWith_type1
def V9:=@Int.ediv_eq_of_eq_mul_right
def Jg:=@List.getElem?_append_right
def gR:=@List.getD_eq_getElem?_getD
def O4:=@PySem.F.slot_tuple_iterator_next
def eU:=@List.getElem?_eq_some_iff
def Jh:=@List.getElem?_append_left
def O5:=@List.drop_eq_getElem_cons
def aX:=@List.getElem?_eq_getElem
def O6:=@PySem.wpAny_comprehension_free
def O7:=@PySem.wpAny_typeNameOf_keyiter
def O8:=@PySem.wpAny_typeNameOf_valiter
def Ji:=@List.eq_of_mem_replicate
def EO:=@Int.mul_ediv_cancel_left
def Jj:=@List.idxOf_lt_length_iff
def xy:=@PySem.F.slot_list_append
def xA:=@PySem.F.type_list_append
def O9:=@List.getElem?_replicate
def xB:=@PySem.wpAny_callSpecial?_slot
def xC:=@PySem.F.plainAttrs_list
def O_:=@PyProof.Rows.boot_tuple
def tU:=@List.getElem?_set_self
def cg:=@PySem.Heap.get?_push_of_some
def Jk:=@PySem.Heap.get?_update_other
def lP:=@Option.map_eq_some_iff
def BX:=@List.take_of_length_le
def rM:=@List.zipWith_cons_cons
def Pa:=@PySem.Calls.callWith_builtin
def vO:=@PyProof.Rows.boot_list
def jy:=@List.mem_append_right
def jz:=@List.length_replicate
def BY:=@PySem.Heap.get?_update_self
def tV:=@List.getElem?_eq_none
def Pb:=@PySem.wpAny_isOneOf_valiter
def Pc:=@List.getElem?_zipWith
def tW:=@PyProof.Rows.boot_sum
def ER:=@PyProof.Rows.boot_str
def Jl:=@PySem.W.hideAll_none
def cI:=@List.mem_cons_of_mem
def ES:=@List.mem_append_left
def yN:=@List.getElem?_set_ne
def bV:=@List.mem_of_getElem?
def kU:=@Bool.and_eq_true_iff
def Pd:=@PySem.intBits_le_iff
def ET:=@beq_eq_false_iff_ne
def Pe:=@PySem.W.hideAll_get
def yO:=@List.filterMap_cons
def dW:=@PySem.Heap.get?_push_size
def xD:=@PySem.mem_of_lookup
def xE:=@List.replicate_succ
def EU:=@Bool.or_eq_true_iff
def EV:=@PySem.Heap.SameBut.update
def qh:=@List.length_zipWith
def Pf:=@List.map_congr_left
def tX:=@List.getElem_of_mem
def kW:=@Nat.lt_of_lt_of_le
def Pg:=@PySem.W.of_hideAll
def cO:=@List.mem_cons_self
def EW:=@List.mem_filterMap
def fJ:=@Bool.false_ne_true
def EX:=@PySem.wpAny_Call_Name_kw
def Ph:=@PySem.W.callWith_K
def dg:=@List.length_append
def Pj:=@PySem.tupleKind_room_in1
def Pk:=@Nat.lt_of_le_of_lt
def fZ:=@List.mem_singleton
def xF:=@Int.emod_lt_of_pos
def EY:=@Bool.false_eq_true
def EZ:=@PySem.Obj.data_mapFields
def E1:=@PySem.wpAny_setField_rec
def Pn:=@List.set_cons_succ
def Po:=@List.set_cons_zero
def Pp:=@PySem.F.slot_dict_values
def oN:=@of_decide_eq_false
def nN:=@PySem.W.mg_none_of
def Pq:=@PySem.wpAny_pyIter_list
def bK:=@List.getElem?_map
def ie:=@List.size_toArray
def rN:=@Int.toNat_natCast
def qi:=@PySem.wpAny_newObj_type
def Pr:=@List.flatten_cons
def Jo:=@List.append_assoc
def eE:=@of_decide_eq_true
def Pu:=@Nat.lt_succ_of_lt
def yP:=@PySem.wpAny_truthy_bool
def BZ:=@List.length_range
def Pw:=@PySem.wpAny_dictEntries
def Jp:=@List.foldl_append
def Px:=@List.getElem?_inj
def mQ:=@Bool.eq_false_iff
def kX:=@List.length_cons
def kY:=@List.length_take
def Jq:=@List.length_drop
def tD:=@PySem.wpAny_call_entry
def Ak:=@Bool.and_eq_true
def IP:=@List.cons_append
def iw:=@List.filter_cons
def CY:=@beq_self_eq_true
def Al:=@Nat.le_add_right
def lA:=@List.lookup_cons
def oO:=@List.all_eq_true
def u_:=@List.getElem_mem
def cA:=@List.take_length
def CZ:=@List.drop_length
def d7:=@decide_eq_false
def iy:=@Option.some.inj
def oQ:=@List.mem_filter
def gh:=@List.mem_append
def Am:=@Bool.eq_iff_iff
def aG:=@List.length_map
def oR:=@PySem.W.kia_one
def tE:=@List.append_nil
def iQ:=@List.nodup_cons
def lB:=@List.length_set
def mz:=@List.foldl_cons
def IQ:=@List.nil_append
def tF:=@List.find?_cons
def IS:=@Option.map_some
def bF:=@List.map_append
def nt:=@Int.emod_nonneg
def IT:=@List.forIn_cons
def IU:=@PySem.pushCells_keeps
def IV:=@PySem.wpAny_dictEpoch
def IW:=@PySem.F.slot_zip_next
def xG:=@PySem.wpAny_passesOwn
def xH:=@PySem.wpAny_execs_nil
def d8:=@PySem.PassesOwn.never
def xJ:=@List.mem_range
def mC:=@PySem.Heap.size_push
def cG:=@decide_eq_true
def C0:=@Int.natAbs_mul
def C3:=@List.forIn_nil
def vc:=@PySem.wpAny_fieldsOf
def An:=@PySem.wpAny_setField
def tG:=@PySem.wpAny_seqItems
def vd:=@List.nodup_nil
def lC:=@Int.mul_nonneg
def dF:=@PySem.boot_len
def je:=@Nat.lt_irrefl
def c_:=@List.mem_cons
def bJ:=@List.map_cons
def xK:=@PySem.wpAny_holding
def C4:=@List.any_cons
def kh:=@PySem.W.mg_of
def cQ:=@List.sum_cons
def Ao:=@PySem.wpAny_standAt
def iR:=@Int.mul_assoc
def Aq:=@List.map_take
def bL:=@PySem.Heap.lt_size
def dM:=@Nat.ne_of_lt
def fQ:=@Nat.le_trans
def C5:=@Nat.le_of_lt
def xM:=@Nat.ne_of_gt
def Ar:=@PySem.codeAny_mono
def As:=@Int.ediv_one
def cD:=@List.mem_map
def xN:=@Int.le_of_lt
def C6:=@Int.lt_or_le
def vf:=@List.set_set
def iS:=@List.map_map
def Au:=@Nat.sub_self
def oS:=@Int.mul_comm
def vg:=@List.map_set
def C7:=@Int.sub_zero
def tH:=@Sum.inr.inj
def aO:=@Nat.le_refl
def fC:=@Nat.zero_le
def fm:=@PySem.sizeLine_eq
def ki:=@PySem.wpAny_field
def lD:=@Int.le_refl
def oU:=@Int.mul_add
def Av:=@Int.add_mul
def gP:=@PySem.wpAny_mono
def aJ:=@PySem.wpAny_pure
def aq:=@PySem.wpAny_bind
def nu:=@beq_iff_eq
def h_:=@congrArg
def lE:=@if_false
def bY:=@Ne.symm
def qP:=@if_true
def aC:=@if_pos
def aA:=@if_neg
theorem Z {α:Sort _} {a:α}:a=a:=rfl
namespace L2
open PySem PySem.Spec PyProof.Rows
abbrev Key:=Sum Int Str
def xO:Key->Value->Bool
 | .inl k,v=>Value.isInt k v
 | .inr x,v=>Value.isStrOf x v
def afT (w:World):Key->Int
 | .inl k=>hashInt k
 | .inr x=>hashStr w x
theorem gf:∀{k:Key} {v:Value},xO k v=true->(∃i t,k=Sum.inl i/\v=Value.int i t)\/(∃x t,k=Sum.inr x/\v=Value.str x t)
 | .inl i,v,h=>by
   obtain ⟨t,e⟩:=Value.isInt_shape (k:=i) (v:=v) h
   exact .inl ⟨i,t,Z,e⟩
 | .inr x,v,h=>by
   obtain ⟨t,e⟩:=Value.isStrOf_shape (x:=x) (v:=v) h
   exact .inr ⟨x,t,Z,e⟩
theorem Rk (i:Int) (t:Tok):xO (.inl i) (.int i t)=true:=by simp [xO,Value.isInt]
theorem Rl (x:Str) (t:Tok):xO (.inr x) (.str x t)=true:=by simp [xO,Value.isStrOf]
theorem Y3 (a b:Int):decide ((Sum.inl a:Key)=Sum.inl b)=(a==b):=by
 by_cases e:a=b
 . subst e;simp
 . have h:¬ (Sum.inl a:Key)=Sum.inl b:=fun q=>e (Sum.inl.inj q)
   rw [d7 h]
   exact (ET.mpr e).symm
theorem Y4 (a b:Str):decide ((Sum.inr a:Key)=Sum.inr b)=decide (a=b):=by
 by_cases e:a=b
 . subst e;simp
 . have h:¬ (Sum.inr a:Key)=Sum.inr b:=fun q=>e (tH q)
   rw [d7 h,d7 e]
theorem Y5 (a:Int) (b:Str):decide ((Sum.inl a:Key)=Sum.inr b)=false:=d7 (fun q=>nomatch q)
theorem Y6 (a:Str) (b:Int):decide ((Sum.inr a:Key)=Sum.inl b)=false:=d7 (fun q=>nomatch q)
def c7 (prog:Program) (w:World):PySem.KeyKind prog w Key where
 is:=xO
 hash:=afT w
 inj:=fun v a b ha hb=>by
  rcases gf ha with ⟨i,t,rfl,rfl⟩|⟨x,t,rfl,rfl⟩
  . rcases gf hb with ⟨j,u,rfl,e⟩|⟨y,u,rfl,e⟩
    . injection e with e1 _;rw [e1]
    . exact nomatch e
  . rcases gf hb with ⟨j,u,rfl,e⟩|⟨y,u,rfl,e⟩
    . exact nomatch e
    . injection e with e1 _;rw [e1]
 byValue:=fun k v h=>by
  rcases gf h with ⟨i,t,rfl,rfl⟩|⟨x,t,rfl,rfl⟩ <;> rfl
 pyHash:=fun hv h=>by
  rcases gf hv with ⟨i,t,rfl,rfl⟩|⟨x,t,rfl,rfl⟩
  . exact wpAny_pyHash_int h
  . exact wpAny_pyHash_str h
 eqBool:=fun hu hv h=>by
  rcases gf hu with ⟨i,t,rfl,rfl⟩|⟨x,t,rfl,rfl⟩
  . rcases gf hv with ⟨j,u,rfl,rfl⟩|⟨y,u,rfl,rfl⟩
    . rw [Y3] at h;exact wpAny_eqBool_int h
    . rw [Y5] at h;exact SeqAt.EqAt.int_str i t y u _ _ _ _ h
  . rcases gf hv with ⟨j,u,rfl,rfl⟩|⟨y,u,rfl,rfl⟩
    . rw [Y6] at h;exact SeqAt.EqAt.str_int x t j u _ _ _ _ h
    . rw [Y4] at h;exact wpAny_eqBool_str h
 «strs»:=fun k x t v h=>by
  rcases gf h with ⟨i,u,rfl,e⟩|⟨y,u,rfl,e⟩
  . exact nomatch e
  . injection e with e1 _
    subst e1
    cases v <;> rfl
theorem Py (prog:Program) (w:World) (k:Key) (v:Value):(c7 prog w).is k v=xO k v:=rfl
theorem Mr (prog:Program) (w:World) (i:Int) (t:Tok):(c7 prog w).is (.inl i) (.int i t)=true:=Rk i t
theorem Ms (prog:Program) (w:World) (x:Str) (t:Tok):(c7 prog w).is (.inr x) (.str x t)=true:=Rl x t
inductive V where
 | bU|bl (b:Bool)|int (i:Int)|str (x:Str)|wD (b:Array UInt8)|Gr (b:UInt64)|ref (a:Addr)|ty (n:String)
 deriving DecidableEq
def RelV:V->Value->Prop
 | .bU,u=>u=Value.none
 | .bl b,u=>u=Value.bool b
 | .int i,u=>∃t,u=Value.int i t
 | .str x,u=>∃t,u=Value.str x t
 | .wD b,u=>∃t,u=Value.bytes b t
 | .Gr b,u=>∃t,u=Value.float b t
 | .ref a,u=>u=Value.ref a
 | .ty n,u=>u=Value.type n
abbrev Vals:List V->List Value->Prop:=Paired RelV
variable {xs:List V} {us:List Value}
theorem Vals.length (r:Vals xs us):xs.length=us.length:=Paired.length r
theorem Vals.get:∀{xs:List V} {us:List Value} {i:Nat} {x:V},Vals xs us->xs[i]?=some x->∃u,us[i]?=some u/\RelV x u
 | _,_,_,_, .nil,e=>by simp at e
 | _,_,0,_, .cons r _,e=>by simp at e;subst e;exact ⟨_,Z,r⟩
 | _,_,i+1,x, .cons _ t,e=>by
   obtain ⟨u,h1,h2⟩:=Vals.get (i:=i) (x:=x) t (by simpa using e)
   exact ⟨u,by simpa using h1,h2⟩
theorem Vals.set {x:V} {u:Value} (r:RelV x u):∀{xs:List V} {us:List Value} (i:Nat),Vals xs us->Vals (xs.set i x) (us.set i u)
 | _,_,_, .nil=> .nil
 | _,_,0, .cons _ t=> .cons r t
 | _,_,i+1, .cons q t=> .cons q (Vals.set r i t)
theorem Vals.append:∀{xs ys:List V} {us ws:List Value},Vals xs us->Vals ys ws->Vals (xs++ys) (us++ws)
 | _,_,_,_, .nil,s=>s
 | _,_,_,_, .cons r t,s=> .cons r (Vals.append t s)
theorem Vals.take:∀{xs:List V} {us:List Value} (n:Nat),Vals xs us->Vals (xs.take n) (us.take n)
 | _,_,0,_=> .nil
 | _,_,_+1, .nil=> .nil
 | _,_,n+1, .cons r t=> .cons r (Vals.take n t)
theorem Vals.drop:∀{xs:List V} {us:List Value} (n:Nat),Vals xs us->Vals (xs.drop n) (us.drop n)
 | _,_,0,r=>r
 | _,_,_+1, .nil=> .nil
 | _,_,n+1, .cons _ t=>Vals.drop n t
def mR:Option V->Option Value->Prop
 | some v,some u=>RelV v u
 | none,none=>True
 | _,_=>False
def KV {κ:Type}:List (κ×V)->List (κ×Value)->Prop:=Paired fun (p:κ×V) (q:κ×Value)=>p.1=q.1/\RelV p.2 q.2
def kV:Key->V
 | .inl i=> .int i
 | .inr x=> .str x
inductive HO where
 | lst (xs:List V)
 | tup (xs:List V)
 | dK (kvs:List (Key×V))|dT (kvs:List (List Key×V))
 | set (S:Int->Bool) (n:Nat)
 | ins (C dx:Addr) (fs:List (Str×V))
 | own (x:Addr)
 | xd (fs:List (Str×V))
 | met (f x:Addr)
 | vh (lo hi:Int)
 | fk (o:Obj) (u:HO)
 | Gs (ps:Array Value)
 | ext (φ:Heap->Prop)
abbrev Hp:=Addr->Option HO
def upd (H:Hp) (a:Addr) (o:HO):Hp:=fun b=>if b=a then some o else H b
variable {H:Hp} {a:Addr} {o:HO}
theorem ah:upd H a o a=some o:=by unfold upd;rw [aC rfl]
theorem av {b:Addr} (h:b≠a):upd H a o b=H b:=by unfold upd;rw [aA h]
theorem tQ {u:HO}:upd (upd H a o) a u=upd H a u:=by
 funext b;unfold upd;split <;> rfl
theorem iT {b:Addr} {u:HO} (h:H a=some o) (h':H b=some u) (d:o≠u):a≠b:=by
 intro e;subst e;rw [h] at h';exact d (iy h')
theorem aH {b:Addr} (h:H a=some o) (h':H b=none):a≠b:=by
 intro e;subst e;rw [h] at h';cases h'
section
variable (P:Program) (w:World)
def dJ (H:Hp) (h:Heap) (a:Addr):HO->Prop
 | .lst xs=>xs.length<=sizeLine/\∃(its:List Value) (n:Nat),Vals xs its/\h.get? a=some { cls:= .type "list",data:= .seq its.toArray n }
 | .tup xs=>xs.length<=sizeLine/\∃its:List Value,Vals xs its/\IsTup h a its.toArray
 | .dK kvs=>kvs.length<=sizeLine/\(a==sysModules)=false/\∃vs,KV kvs vs/\h.DictOf (c7 P w) a vs
 | .dT kvs=>kvs.length<=sizeLine/\(a==sysModules)=false/\∃xs:List (List Key×Addr×Value),
     Paired (fun (p:List Key×V) (q:List Key×Addr×Value)=>p.1=q.1/\H q.2.1=some (.tup (p.1.map kV))/\RelV p.2 q.2.2) kvs xs/\
     ∃o es ep,h.get? a=some o/\o.ExactDict/\o.data = .dict es ep/\es.toList=xs.map (entryOfKey (tupleKind (c7 P w)))/\(xs.map (·.1)).Nodup
 | .set S n=>h.SetOf (intKind P w) a S n
 | .ins C dx fs=>H dx=some (.own a)/\fs.length<=1000/\dx≠a/\h.get? a=some (PySem.W.instObj C dx)/\
     ∃mA,h.Ns1 dx mA/\(∀f,mR (fs.lookup f) (mA f))/\PySem.Within mA (fs.map (·.1))
 | .own _=>∃o,h.get? a=some o
 | .xd fs=>∃mA,h.Ns1 a mA/\∀f,mR (fs.lookup f) (mA f)
 | .vh lo hi=>∃t u v,h.get? a=some { cls:= .type "range",data:= .fields #[.int lo t, .int hi u, .int 1 v] }
 | .fk o u=>h.get? a=some o/\dJ H h a u
 | .Gs ps=>h.get? a=some { cls:= .none,data:= .fields ps }
 | .met f x=>h.get? a=some (PySem.W.methodObj (.ref f) (.ref x))
 | .ext φ=>φ h/\(∃o,h.get? a=some o)/\∀h1 h2:Heap,φ h1->(∀o,h1.get? a=some o->h2.get? a=some o)->φ h2
def gM (H:Hp) (h:Heap):Prop:=∀a o,H a=some o->dJ P w H h a o
end
section
variable {P:Program} {w:World} {H H':Hp} {h h':Heap} {a:Addr} {o:HO}
theorem dJ.lt (x:dJ P w H h a o):a<h.objs.size:=by
 cases o with
 | lst xs=>obtain ⟨_,_,_,_,e⟩:=x;exact bL e
 | tup xs=>obtain ⟨_,_,_,p⟩:=x;exact p.lt
 | dK kvs=>obtain ⟨_,_,_,_,o,_,_,e,_⟩:=x;exact bL e
 | dT kvs=>obtain ⟨_,_,_,_,o,_,_,e,_⟩:=x;exact bL e
 | set S n=>obtain ⟨o,_,_,_,e,_⟩:=x;exact bL e
 | ins C dx fs=>obtain ⟨_,_,_,e,_⟩:=x;exact bL e
 | own y=>obtain ⟨_,e⟩:=x;exact bL e
 | xd fs=>obtain ⟨_,⟨_,_,_,e,_⟩,_⟩:=x;exact bL e
 | vh lo hi=>obtain ⟨_,_,_,e⟩:=x;exact bL e
 | fk ob u=>obtain ⟨e,_⟩:=x;exact bL e
 | Gs ps=>exact bL (show h.get? a=some _ from x)
 | met f y=>exact bL (show h.get? a=some _ from x)
 | ext φ=>obtain ⟨_,⟨_,e⟩,_⟩:=x;exact bL e
theorem Paired.Uz {α β:Type} {F G:α->β->Prop}:∀{l₁:List α} {l₂:List β},Paired F l₁ l₂->(∀a b,F a b->G a b)->Paired G l₁ l₂
 | _,_, .nil,_=> .nil
 | _,_, .cons r t,f=> .cons (f _ _ r) (Paired.Uz t f)
theorem dJ.stay (x:dJ P w H h a o) (k:∀b u,(b=a\/H b=some (.own a))->h.get? b=some u->h'.get? b=some u)
  (ho:∀b,H b=some (.own a)->H' b=some (.own a)) (ht:∀b xs,H b=some (.tup xs)->H' b=some (.tup xs)):dJ P w H' h' a o:=by
 induction o with
 | lst xs=>obtain ⟨z,its,n,r,e⟩:=x;exact ⟨z,its,n,r,k _ _ (.inl rfl) e⟩
 | tup xs=>obtain ⟨z,its,r,ob,e,c⟩:=x;exact ⟨z,its,r,ob,k _ _ (.inl rfl) e,c⟩
 | dK kvs=>obtain ⟨z,y,vs,r,ob,es,ep,e,c⟩:=x;exact ⟨z,y,vs,r,ob,es,ep,k _ _ (.inl rfl) e,c⟩
 | dT kvs=>
   obtain ⟨z,y,xs,r,ob,es,ep,e,c⟩:=x
   exact ⟨z,y,xs,Paired.Uz r fun p q z=>⟨z.1,ht _ _ z.2.1,z.2.2⟩,ob,es,ep,k _ _ (.inl rfl) e,c⟩
 | set S n=>obtain ⟨ob,es,ep,t,e,c⟩:=x;exact ⟨ob,es,ep,t,k _ _ (.inl rfl) e,c⟩
 | ins C dx fs=>
   obtain ⟨d,z,ne,e,mA,⟨od,es,ep,e2,c⟩,r⟩:=x
   exact ⟨ho _ d,z,ne,k _ _ (.inl rfl) e,mA,⟨od,es,ep,k _ _ (.inr d) e2,c⟩,r⟩
 | own y=>obtain ⟨ob,e⟩:=x;exact ⟨ob,k _ _ (.inl rfl) e⟩
 | xd fs=>obtain ⟨mA,⟨od,es,ep,e,c⟩,r⟩:=x;exact ⟨mA,⟨od,es,ep,k _ _ (.inl rfl) e,c⟩,r⟩
 | vh lo hi=>obtain ⟨t,u,v,e⟩:=x;exact ⟨t,u,v,k _ _ (.inl rfl) e⟩
 | fk ob u ih=>obtain ⟨e,q⟩:=x;exact ⟨k _ _ (.inl rfl) e,ih q⟩
 | Gs ps=>
   have e:h.get? a=some { cls:= .none,data:= .fields ps }:=x
   show h'.get? a=some { cls:= .none,data:= .fields ps }
   exact k a _ (.inl rfl) e
 | met f y=>
   have e:h.get? a=some (PySem.W.methodObj (.ref f) (.ref y)):=x
   show h'.get? a=some (PySem.W.methodObj (.ref f) (.ref y))
   exact k a _ (.inl rfl) e
 | ext φ=>obtain ⟨p,⟨o,e⟩,st⟩:=x;exact ⟨st _ _ p fun o q=>k _ _ (.inl rfl) q,⟨o,k _ _ (.inl rfl) e⟩,st⟩
theorem gM.lt (x:gM P w H h) (e:H a=some o):a<h.objs.size:=(x a o e).lt
theorem gM.fresh (x:gM P w H h) (e:h.objs.size<=a):H a=none:=by
 cases q:H a with
 | none=>rfl
 | some u=>exact absurd (kW (x.lt q) e) (je _)
theorem gM.kept (x:gM P w H h) (k:∀b u,h.get? b=some u->h'.get? b=some u):gM P w H h':=fun a o e=>
 (x a o e).stay (fun b u _ q=>k b u q) (fun _ q=>q) fun _ _ q=>q
theorem gM.laid (x:gM P w H h) (k:∀b u,h.get? b=some u->h'.get? b=some u) (hp:h.objs.size<=a) (new:dJ P w (upd H a o) h' a o):gM P w (upd H a o) h':=fun b u e=>by
 have hn:=x.fresh hp
 by_cases hb:b=a
 . subst hb;rw [ah] at e;cases e;exact new
 . rw [av hb] at e
   exact (x b u e).stay (fun c v _ q=>k c v q) (fun c q=>by rw [av (aH q hn)];exact q) fun c xs q=>by rw [av (aH q hn)];exact q
end
def Rd (H:Hp) (a:Addr) (u:HO):Prop:=H a=some u\/∃o,H a=some (.fk o u)
variable {P:Program} {h:Heap}
theorem Rd.ok {w:World} {u:HO} (r:Rd H a u) (x:gM P w H h):dJ P w H h a u:=by
 rcases r with r|⟨o,r⟩
 . exact x a u r
 . obtain ⟨_,q⟩:=x a _ r
   exact q
def Rm:Option HO->Prop
 | some (.lst _)=>True
 | some (.dK _)=>True
 | some (.dT _)=>True
 | some (.set _ _)=>True
 | some (.ins _ _ _)=>True
 | some (.ext _)=>True
 | _=>False
section
variable {P:Program} {w:World} {H:Hp} {h h':Heap} {x e:Addr} {o':HO}
theorem gM.write (ok:gM P w H h) (mu:Rm (H x)) (he:e=x\/H e=some (.own x)) (k:∀b u,b≠e->h.get? b=some u->h'.get? b=some u) (NK:∃u,h'.get? e=some u)
  (new:dJ P w (upd H x o') h' x o'):gM P w (upd H x o') h':=fun b u q=>by
 have Y7:∀c y,H c=some (.own y)->c≠x:=fun c y r z=>by subst z;rw [r] at mu;exact mu
 have afU:∀c xs,H c=some (.tup xs)->c≠x:=fun c xs r z=>by subst z;rw [r] at mu;exact mu
 by_cases hb:b=x
 . subst hb;rw [ah] at q;cases q;exact new
 . rw [av hb] at q
   by_cases Jr:b=e
   . have q':H b=some (.own x):=by
      rcases he with z|z
      . exact absurd (Jr.trans z) hb
      . rw [Jr];exact z
     rw [q] at q';cases q'
     obtain ⟨v,hv⟩:=NK
     exact ⟨v,by rw [Jr];exact hv⟩
   . refine (ok b u q).stay (fun c v hc r=>k c v ?_ r) (fun c r=>by rw [av (Y7 c b r)];exact r) fun c xs r=>by rw [av (afU c xs r)];exact r
     rcases hc with rfl|hc
     . exact Jr
     . rintro rfl
       rcases he with z|z
       . exact Y7 c b hc z
       . rw [hc] at z;cases z;exact hb rfl
end
structure Un (fs ex:List Addr) (H H':Hp) (h h':Heap):Prop where
 keep:∀b o,h.get? b=some o->H b=none->b∉fs->b∉ex->h'.get? b=some o
 slot:∀b o,h.get? b=some o->H b=none->b∈fs->b∉ex->∃sl,h'.get? b=some { o with slots:=sl }
 free:∀b o,h.get? b=some o->H b=none->b∉ex->H' b=none
 there:∀b o,h.get? b=some o->b∉ex->∃o',h'.get? b=some o'
 tups:∀b xs,H b=some (.tup xs)->H' b=some (.tup xs)
 mS:∀b o u,H b=some (.fk o u)->H' b=some (.fk o u)
 oV:∀b ps,H b=some (.Gs ps)->∃more,H' b=some (.Gs (ps++more))
section
variable {fs fs' ex ex':List Addr} {H H1 H2:Hp} {h h1 h2 h':Heap} {a x e:Addr} {o:HO}
theorem Un.any (u:Un fs ex H H1 h h1) {b:Addr} (q:h.get? b=some ob) (n:H b=none) (hx:b∉ex):∃sl,h1.get? b=some { ob with slots:=sl }:=by
 by_cases hb:b∈fs
 . exact u.slot b ob q n hb hx
 . exact ⟨ob.slots,u.keep b ob q n hb hx⟩
theorem Un.kept (k:∀b u,h.get? b=some u->h'.get? b=some u):Un fs ex H H h h':=
 ⟨fun b ob q _ _ _=>k b ob q,fun b ob q _ _ _=>⟨ob.slots,k b ob q⟩,fun _ _ _ n _=>n,fun b ob q _=>⟨ob,k b ob q⟩,fun _ _ q=>q,fun _ _ _ q=>q,fun _ ps q=>⟨#[],by rw [q];simp⟩⟩
theorem Un.refl:Un fs ex H H h h:=Un.kept fun _ _ q=>q
theorem Un.laid (k:∀b u,h.get? b=some u->h'.get? b=some u) (hp:h.objs.size<=a) (hn:H a=none):Un fs ex H (upd H a o) h h' where
 keep:=fun b u q _ _ _=>k b u q
 slot:=fun b u q _ _ _=>⟨u.slots,k b u q⟩
 free:=fun b u q n _=>by rw [av (dM (kW (bL q) hp))];exact n
 there:=fun b u q _=>⟨u,k b u q⟩
 tups:=fun b xs q=>by rw [av (aH q hn)];exact q
 mS:=fun b u xs q=>by rw [av (aH q hn)];exact q
 oV:=fun b ps q=>⟨#[],by rw [av (aH q hn),q];simp⟩
theorem Un.write (mu:Rm (H x)) (he:e=x\/H e=some (.own x)) (k:∀b u,b≠e->h.get? b=some u->h'.get? b=some u) (NK:∃u,h'.get? e=some u):Un fs ex H (upd H x o) h h':=by
 have hx:∀b,H b=none->b≠x:=fun b n z=>by subst z;rw [n] at mu;exact mu
 have hb:∀b,H b=none->b≠e:=fun b n z=>by
  subst z
  rcases he with r|r
  . exact hx b n r
  . rw [n] at r;cases r
 have hm:∀b u,H b=some u->¬ Rm (some u)->b≠x:=fun b u q nm z=>by subst z;rw [q] at mu;exact nm mu
 refine ⟨fun b u q n _ _=>k b u (hb b n) q,fun b u q n _ _=>⟨u.slots,k b u (hb b n) q⟩,fun b u q n _=>by rw [av (hx b n)];exact n,fun b u q _=>?_,
  fun b xs q=>by rw [av (hm b _ q fun z=>z)];exact q,fun b u xs q=>by rw [av (hm b _ q fun z=>z)];exact q,fun b ps q=>⟨#[],by rw [av (hm b _ q fun z=>z),q];simp⟩⟩
 by_cases Jr:b=e
 . subst Jr;exact NK
 . exact ⟨u,k b u Jr q⟩
end
def V_ (h:Heap) (H:Hp):List Addr:=(List.range h.objs.size).filter fun a=>(H a).isSome
def xP (h:Heap) (H:Hp):Heap:=PySem.W.hideAll h (V_ h H)
theorem Rn (h:Heap) (H:Hp):(xP h H).objs.size=h.objs.size:=PySem.W.hideAll_size _ _
theorem UA {b:Addr} {o:Obj} (e:h.get? b=some o) (n:H b=none):(xP h H).get? b=some o:=
 Pe _ e fun hm=>by
  have q:(H b).isSome=true:=(oQ.mp hm).2
  rw [n] at q;simp at q
theorem Xk {b:Addr} {o:Obj} (e:(xP h H).get? b=some o):h.get? b=some o/\H b=none:=by
 have e':h.get? b=some o:=Pg (V_ h H) e
 refine ⟨e',?_⟩
 cases q:H b with
 | none=>rfl
 | some x=>
   have hm:b∈V_ h H:=oQ.mpr ⟨xJ.mpr (bL e'),by simp [q]⟩
   have z:(xP h H).get? b=none:=Jl (V_ h H) hm
   rw [z] at e;cases e
structure Mod (K:Fg) (mg:SO) (base:Heap):Prop where
 NL:K.In base
 glob:base.Ns mainGlobals mg
 blt:∃mb,base.Ns builtinsNs mb/\∀x:Str,x ≠ "__name__"->mb x=bootBuiltins x
 nolimit:base.NoLimit
structure Cx where
 prog:Program
 w:World
 K:Fg
 mg:Str->Option Value
 base:Heap
 A:Around
 N:List Str
 s₀:Shared
 H₀:Hp
 env:Env
 outer:List Env
 stack:List Env
 ex:List Addr
 fn:Str->Bool
 calm:Bool
 pn:List (Addr×Obj)
 xe:Value->Shared->Prop
def frs (l:List Env):List Addr:=l.filterMap (·.frame)
abbrev Cx.fs (X:Cx):List Addr:=frs X.outer
def Ro (sc:Scope) (x:Str):Prop:=sc.names.lookup x=some .local\/sc.names.lookup x=some .cell\/sc.names.lookup x=some .free
def Loc (sc:Scope) (x:Str):Prop:=sc.names.lookup x=some .local\/sc.names.lookup x=some .cell
def Look (env:Env) (h:Heap) (m:SO) (x:Str) (u:Value):Prop:=
 (env.kindOf x=some .local/\m x=some u)\/((env.kindOf x=some .cell\/env.kindOf x=some .free)/\∃c,env.cells.lookup x=some c/\h.IsCell c (some u))
structure Cx.Ok (X:Cx):Prop where
 mod:Mod X.K X.mg X.base
 kind:X.env.scope.kind = .function
 glob:X.env.globals=mainGlobals
 blt:X.env.builtins=builtinsNs
 above:X.s₀.heap.objs.size<=X.env.locals
 inj:∀x y c,X.env.cells.lookup x=some c->X.env.cells.lookup y=some c->x=y
 has:∀x,(X.env.kindOf x=some .cell\/X.env.kindOf x=some .free)->∃c,X.env.cells.lookup x=some c
 gO:∀x c,X.fn x=true->X.env.cells.lookup x=some c->X.s₀.heap.objs.size<=c
 hd:X.calm=true->X.A.handled=none
 frames:X.A.frames=some X.stack
 stk:X.stack=X.outer\/(X.stack=X.env::X.outer/\X.env.frame=some X.env.locals)
 Js:∀b∈X.ex,b≠X.env.locals/\∀x c,X.env.cells.lookup x=some c->c≠b
 bs:∀b o,X.base.get? b=some o->X.s₀.heap.get? b=some o/\X.H₀ b=none
 C8:X.base.objs.size<=X.s₀.heap.objs.size
 E2:∀b o,X.base.get? b=some o->b∉X.ex
 B0:∀b∈X.ex,b∉X.fs
 nO:X.s₀.heap.FunFrames X.base X.outer
 Gu:∀b∈X.fs,X.H₀ b=none
structure Inv (X:Cx) (pins:AO) (σ:List (Option V)) (H:Hp) (s:Shared):Prop where
 ok:X.Ok
 os:s.os=X.s₀.os
 bare:AllBare s.gens
 base:Un X.fs X.ex X.H₀ H X.s₀.heap s.heap
 loc:∃m,s.heap.Ns X.env.locals m/\∀(i:Nat) (x:Str) (v:V),X.N[i]?=some x->σ[i]?=some (some v)->Ro X.env.scope x->∃u,RelV v u/\Look X.env s.heap m x u
 cell:∀x c,X.env.cells.lookup x=some c->∃v,s.heap.IsCell c v
 free:H X.env.locals=none
 jD:∀x c,X.env.cells.lookup x=some c->H c=none
 pin:∀p∈X.pn++pins,s.heap.get? p.1=some p.2/\H p.1=none/\p.1≠X.env.locals/\p.1∉X.fs/\∀v,p.2.data ≠ .cell v
 hok:gM X.prog X.w H s.heap
 len:σ.length=X.N.length
variable {g':Array GenState} {t' i j:Nat} {ch:List Addr} {it:Addr} {N:List Str} {x:Str} {M:Model} {A:Around} {E:VS} {u:Value} {Q:Unit->Shared->Prop}
section
variable {X:Cx} {pins:AO} {σ:List (Option V)} {H H':Hp} {s:Shared} {h':Heap}
theorem Cx.Ok.afV (ok:X.Ok) {b:Addr} {o:Obj} (e:X.base.get? b=some o):b∉X.fs:=fun hb=>by
 have:=(ok.nO.mem hb).1
 rw [e] at this;cases this
theorem Inv.bs (I:Inv X pins σ H s):∀b o,X.base.get? b=some o->s.heap.get? b=some o/\H b=none:=fun b o e=>
 ⟨I.base.keep b o (I.ok.bs b o e).1 (I.ok.bs b o e).2 (I.ok.afV e) (I.ok.E2 b o e),I.base.free b o (I.ok.bs b o e).1 (I.ok.bs b o e).2 (I.ok.E2 b o e)⟩
theorem Inv.bk (I:Inv X pins σ H s):∀b o,X.base.get? b=some o->s.heap.get? b=some o:=fun b o e=>(I.bs b o e).1
theorem Inv.mod (I:Inv X pins σ H s):Mod X.K X.mg X.base:=I.ok.mod
theorem Inv.iJ (I:Inv X pins σ H s):X.K.In s.heap:=I.ok.mod.NL.keeps I.bk
theorem Inv.lt (I:Inv X pins σ H s):X.env.locals<s.heap.objs.size:=let ⟨_,hn,_⟩:=I.loc;hn.lt
theorem Inv.sz (I:Inv X pins σ H s):X.s₀.heap.objs.size<=s.heap.objs.size:=fQ I.ok.above (C5 I.lt)
theorem Inv.afW (I:Inv X pins σ H s) (h:s.heap.objs.size<=a):a∉X.fs:=fun hb=>by
 obtain ⟨_,o,ho,_⟩:=I.ok.nO.mem hb
 exact absurd (kW (bL ho) (fQ I.sz h)) (je _)
theorem Inv.Gv (I:Inv X pins σ H s):∀x c,X.env.cells.lookup x=some c->c≠X.env.locals:=fun x c e z=>by
 obtain ⟨v,o,ho,hd⟩:=I.cell x c e
 obtain ⟨m,⟨o',es,ep,ho',hd',_⟩,_⟩:=I.loc
 rw [z,ho'] at ho;cases ho;rw [hd'] at hd;cases hd
theorem Inv.nO (I:Inv X pins σ H s):s.heap.FunFrames X.base X.outer:=by
 have all:∀(l:List Env),(∀b∈frs l,b∈X.fs)->X.s₀.heap.FunFrames X.base l->s.heap.FunFrames X.base l:=by
  intro l
  induction l with
  | nil=>intro _ _;trivial
  | cons env r ih=>
    intro hs hl
    obtain ⟨hk,⟨L,o,hf,hn,ho,hd⟩,hr⟩:=hl
    have hL:L∈X.fs:=hs L (by unfold frs;rw [yO,hf];exact cO)
    obtain ⟨sl,e⟩:=I.base.slot L o ho (I.ok.Gu L hL) hL fun z=>I.ok.B0 L z hL
    exact ⟨hk,⟨L,_,hf,hn,e,hd⟩,ih (fun b hb=>hs b (by unfold frs;rw [yO,hf];exact cI _ hb)) hr⟩
 exact all X.outer (fun _ hb=>hb) I.ok.nO
theorem Inv.stack (I:Inv X pins σ H s):s.heap.FunFrames X.base X.stack:=by
 rcases I.ok.stk with e|⟨e,hf⟩
 . rw [e];exact I.nO
 . rw [e]
   obtain ⟨m,hn,_⟩:=I.loc
   refine .cons (by rw [I.ok.kind];decide) hf hn ?_ I.nO
   exact Heap.get?_none_of_le (fQ I.ok.C8 I.ok.above)
theorem Inv.Jt (I:Inv X pins σ H s):∀b∈frs X.stack,b∈X.env.locals::X.fs:=fun b hb=>by
 rcases I.ok.stk with e|⟨e,hf⟩
 . rw [e] at hb;exact cI _ hb
 . rw [e] at hb
   unfold frs at hb
   rw [yO,hf] at hb
   exact hb
theorem Inv.wF (I:Inv X pins σ H s):∀b∈frs X.stack,H b=none:=fun b hb=>by
 rcases c_.mp (I.Jt b hb) with e|hb
 . rw [e];exact I.free
 . obtain ⟨_,o,ho,_⟩:=I.ok.nO.mem hb
   exact I.base.free b o ho (I.ok.Gu b hb) fun z=>I.ok.B0 b z hb
theorem Inv.step {d':Drawn} (I:Inv X pins σ H s)
  (hch:∀b∈ch,(b∈X.ex\/X.s₀.heap.objs.size<=b)/\b≠X.env.locals/\(∀x c,X.env.cells.lookup x=some c->c≠b)/\∀p∈X.pn++pins,p.1≠b)
  (keep:∀b o,b≠X.env.locals->b∉X.fs->b∉ch->s.heap.get? b=some o->H b=none->h'.get? b=some o)
  (slot:∀b o,b≠X.env.locals->b∈X.fs->b∉ch->s.heap.get? b=some o->H b=none->∃sl,h'.get? b=some { o with slots:=sl }) (free:∀b o,b∉ch->s.heap.get? b=some o->H b=none->H' b=none)
  (there:∀b o,b∉ch->s.heap.get? b=some o->∃o',h'.get? b=some o')
  (tups:∀b xs,H b=some (.tup xs)->H' b=some (.tup xs)) (mS:∀b o u,H b=some (.fk o u)->H' b=some (.fk o u)) (oV:∀b ps,H b=some (.Gs ps)->∃more,H' b=some (.Gs (ps++more)))
  (ns:∀m,s.heap.Ns X.env.locals m->h'.Ns X.env.locals m) (hok:gM X.prog X.w H' h') (hg:AllBare g'):
  Inv X pins σ H' { s with heap:=h',gens:=g',drawn:=d',toks:=t' }:=by
 have NN:∀b o,X.s₀.heap.get? b=some o->b≠X.env.locals:=fun b o e=>dM (kW (bL e) I.ok.above)
 have Wa:∀b o,X.s₀.heap.get? b=some o->b∉X.ex->b∉ch:=fun b o e hx hb=>by
  rcases (hch b hb).1 with z|z
  . exact hx z
  . exact absurd (kW (bL e) z) (je _)
 have cellK:∀x c,X.env.cells.lookup x=some c->∀v,s.heap.IsCell c v->h'.IsCell c v:=fun x c e v ⟨o,ho,hd⟩=>by
  have wG:c∉ch:=fun z=>(hch c z).2.2.1 x c e rfl
  by_cases hc:c∈X.fs
  . obtain ⟨sl,q⟩:=slot c o (I.Gv x c e) hc wG ho (I.jD x c e)
    exact ⟨_,q,hd⟩
  . exact ⟨o,keep c o (I.Gv x c e) hc wG ho (I.jD x c e),hd⟩
 refine ⟨I.ok,I.os,hg,⟨fun b o e n hb hx=>?_,fun b o e n hb hx=>?_,fun b o e n hx=>?_,fun b o e hx=>?_,fun b xs e=>tups b xs (I.base.tups b xs e),fun b o xs e=>mS b o xs (I.base.mS b o xs e),fun b ps e=>?_⟩,?_,fun x c e=>?_,?_,fun x c e=>?_,fun p hp=>?_,hok,I.len⟩
 . exact keep b o (NN b o e) hb (Wa b o e hx) (I.base.keep b o e n hb hx) (I.base.free b o e n hx)
 . obtain ⟨sl,e1⟩:=I.base.slot b o e n hb hx
   obtain ⟨Ju,e2⟩:=slot b _ (NN b o e) hb (Wa b o e hx) e1 (I.base.free b o e n hx)
   exact ⟨Ju,e2⟩
 . obtain ⟨o',e1⟩:=I.base.there b o e hx
   exact free b o' (Wa b o e hx) e1 (I.base.free b o e n hx)
 . obtain ⟨o',e1⟩:=I.base.there b o e hx
   exact there b o' (Wa b o e hx) e1
 . obtain ⟨m1,e1⟩:=I.base.oV b ps e
   obtain ⟨m2,e2⟩:=oV b _ e1
   exact ⟨m1++m2,by rw [e2,Array.append_assoc]⟩
 . obtain ⟨m,hn,hl⟩:=I.loc
   refine ⟨m,ns m hn,fun i x v e1 e2 e3=>?_⟩
   obtain ⟨u,r,l⟩:=hl i x v e1 e2 e3
   refine ⟨u,r,?_⟩
   rcases l with l|⟨k,c,e,z⟩
   . exact .inl l
   . exact .inr ⟨k,c,e,cellK x c e _ z⟩
 . obtain ⟨v,z⟩:=I.cell x c e
   exact ⟨v,cellK x c e v z⟩
 . obtain ⟨m,⟨o,_,_,ho,_⟩,_⟩:=I.loc
   exact free _ o (fun z=>(hch _ z).2.1 rfl) ho I.free
 . obtain ⟨v,o,ho,hd⟩:=I.cell x c e
   exact free c o (fun z=>(hch c z).2.2.1 x c e rfl) ho (I.jD x c e)
 . obtain ⟨e,n,ne,nf,d⟩:=I.pin p hp
   have wG:p.1∉ch:=fun z=>(hch p.1 z).2.2.2 p hp rfl
   exact ⟨keep p.1 p.2 ne nf wG e n,free p.1 p.2 wG e n,ne,nf,d⟩
theorem Inv.un (I:Inv X pins σ H s) (u:Un X.fs [] H H' s.heap h') (hok:gM X.prog X.w H' h'):Inv X pins σ H' { s with heap:=h',toks:=t' }:=by
 obtain ⟨m,⟨o,es,ep,ho,r⟩,_⟩:=id I.loc
 obtain ⟨sl,hL⟩:=u.any ho I.free (by simp)
 exact I.step (g':=s.gens) (d':=s.drawn) (ch:=[]) (fun _ z=>nomatch z) (fun b o _ hb _ e n=>u.keep b o e n hb (by simp)) (fun b o _ hb _ e n=>u.slot b o e n hb (by simp)) (fun b o _ e n=>u.free b o e n (by simp)) (fun b o _ e=>u.there b o e (by simp)) u.tups u.mS u.oV (fun m' hm=>by
  obtain ⟨o',es',C9,ho',r'⟩:=hm
  rw [ho] at ho';cases ho'
  exact ⟨_,es',C9,hL,r'⟩) hok I.bare
theorem Inv.call {d':Drawn} (I:Inv X pins σ H s) (u:Un (frs X.stack) ch H H' s.heap h') (hok:gM X.prog X.w H' h') (hg:AllBare g')
  (hch:∀b∈ch,(b∈X.ex\/X.s₀.heap.objs.size<=b)/\b≠X.env.locals/\(∀x c,X.env.cells.lookup x=some c->c≠b)/\∀p∈X.pn++pins,p.1≠b):
  Inv X pins σ H' { s with heap:=h',gens:=g',drawn:=d',toks:=t' }:=by
 obtain ⟨m,⟨o,es,ep,ho,r⟩,_⟩:=id I.loc
 obtain ⟨sl,hL⟩:=u.any ho I.free fun z=>(hch _ z).2.1 rfl
 exact I.step (ch:=ch) hch (fun b o hL hb hc e n=>u.keep b o e n (fun z=>(c_.mp (I.Jt b z)).elim hL hb) hc) (fun b o _ _ hc e n=>u.any e n hc) (fun b o hc e n=>u.free b o e n hc) (fun b o hc e=>u.there b o e hc) u.tups u.mS u.oV (fun m' hm=>by
  obtain ⟨o',es',C9,ho',r'⟩:=hm
  rw [ho] at ho';cases ho'
  exact ⟨_,es',C9,hL,r'⟩) hok hg
theorem Inv.turned (I:Inv X pins σ H s) (k:∀b o,b≠it->s.heap.get? b=some o->h'.get? b=some o) (hn:H it=none) (hL:it≠X.env.locals)
  (h1:it∈X.ex\/X.s₀.heap.objs.size<=it) (h2:∀x c,X.env.cells.lookup x=some c->c≠it) (h3:∀p∈X.pn++pins,p.1≠it):Inv X pins σ H { s with heap:=h',toks:=t' }:=by
 have nit:∀b u,H b=some u->b≠it:=fun b u e z=>by rw [z,hn] at e;cases e
 refine I.step (g':=s.gens) (d':=s.drawn) (ch:=[it]) (fun b hb=>?_) (fun b o _ _ hc e _=>k b o (fun z=>hc (by simp [z])) e) (fun b o _ _ hc e _=>⟨o.slots,k b o (fun z=>hc (by simp [z])) e⟩) (fun _ _ _ _ n=>n)
  (fun b o hc e=>⟨o,k b o (fun z=>hc (by simp [z])) e⟩) (fun _ _ e=>e) (fun _ _ _ e=>e) (fun b ps e=>⟨#[],by rw [e];simp⟩) (fun m hm=>?_) (fun b u e=>?_) I.bare
 . have e:b=it:=by simpa using hb
   subst e
   exact ⟨h1,hL,h2,h3⟩
 . obtain ⟨o,es,ep,ho,r⟩:=hm
   exact ⟨o,es,ep,k _ o (bY hL) ho,r⟩
 . refine (I.hok b u e).stay (fun c v hc q=>k c v ?_ q) (fun _ q=>q) fun _ _ q=>q
   rcases hc with z|z
   . rw [z];exact nit b u e
   . exact nit c _ z
theorem Inv.tok (I:Inv X pins σ H s) (t:Nat):Inv X pins σ H { s with toks:=t }:=I.un (h':=s.heap) (t':=t) Un.refl I.hok
theorem Inv.kept (I:Inv X pins σ H s) (k:∀b u,s.heap.get? b=some u->h'.get? b=some u):Inv X pins σ H { s with heap:=h',toks:=t' }:=I.un (Un.kept k) (I.hok.kept k)
theorem Inv.laid (I:Inv X pins σ H s) (k:∀b u,s.heap.get? b=some u->h'.get? b=some u) (hp:s.heap.objs.size<=a) (new:dJ X.prog X.w (upd H a o) h' a o):
  Inv X pins σ (upd H a o) { s with heap:=h',toks:=t' }:=I.un (Un.laid k hp (I.hok.fresh hp)) (I.hok.laid k hp new)
theorem Inv.write {x e:Addr} (I:Inv X pins σ H s) (mu:Rm (H x)) (he:e=x\/H e=some (.own x)) (k:∀b u,b≠e->s.heap.get? b=some u->h'.get? b=some u) (NK:∃u,h'.get? e=some u)
  (new:dJ X.prog X.w (upd H x o) h' x o):Inv X pins σ (upd H x o) { s with heap:=h',toks:=t' }:=I.un (Un.write mu he k NK) (I.hok.write mu he k NK new)
theorem Inv.NO {Wb:AO} (I:Inv X pins σ H s) (h:∀p∈Wb,s.heap.get? p.1=some p.2/\H p.1=none/\p.1≠X.env.locals/\p.1∉X.fs/\∀v,p.2.data ≠ .cell v):Inv X Wb σ H s:=
 ⟨I.ok,I.os,I.bare,I.base,I.loc,I.cell,I.free,I.jD,fun p hp=>(gh.mp hp).elim (fun z=>I.pin p (ES _ z)) (h p),I.hok,I.len⟩
theorem xQ (hN:N.Nodup) (a:N[i]?=some x) (b:N[j]?=some x):i=j:=by
 obtain ⟨h1,e1⟩:=eU.mp a
 obtain ⟨h2,e2⟩:=eU.mp b
 exact (List.getElem_inj hN).mp (e1.trans e2.symm)
theorem yQ {v:V} (I:Inv X pins σ H s) (hN:X.N.Nodup) (hi:X.N[i]?=some x) (hx:Loc X.env.scope x) (r:RelV v u)
  (h:∀s',Inv X pins (σ.set i (some v)) H s'->(∃a,Heap.SameBut a s.heap s'.heap/\(a=X.env.locals\/X.env.cells.lookup x=some a))->Q () s') (hf:X.fn x=true\/X.env.scope.names.lookup x=some .local:=by first|exact .inl rfl|exact .inr rfl|assumption):wpAny M A (storeName X.env x u) Q E s:=by
 obtain ⟨m,hn,hl⟩:=id I.loc
 have hcls:(X.env.scope.kind == .class || (X.env.scope.kind == .module && X.env.locals != X.env.globals))=false:=by rw [I.ok.kind];rfl
 have hiσ:i<σ.length:=by rw [I.len];exact (eU.mp hi).1
 have Gv:=I.Gv
 have tracked:∀{a:Addr} {h':Heap},(∃o,s.heap.get? a=some o/\H a=none)->Heap.SameBut a s.heap h'->gM X.prog X.w H h':=fun {a h'} ha hs b ob e=>by
  obtain ⟨_,_,hfree⟩:=ha
  refine (I.hok b ob e).stay (fun c w' hc q=>(hs.2 c ?_).trans q) (fun _ q=>q) fun _ _ q=>q
  rintro rfl
  rcases hc with rfl|hc
  . rw [hfree] at e;cases e
  . rw [hfree] at hc;cases hc
 rcases hx with hk|hk
 . refine wpAny_storeName_local hk hn (fun h' hn' hs=>?_) hcls
   obtain ⟨oL,_,_,hoL,_⟩:=id hn
   refine h _ ⟨I.ok,I.os,I.bare,⟨fun b o e n hb hx=>?_,fun b o e n hb hx=>?_,I.base.free,fun b o e hx=>?_,I.base.tups,I.base.mS,I.base.oV⟩,⟨_,hn',fun j y v' e1 e2 e3=>?_⟩,fun y c e=>?_,I.free,I.jD,fun p hp=>?_,tracked ⟨oL,hoL,I.free⟩ hs,by simpa using I.len⟩ ⟨_,hs, .inl rfl⟩
   . exact (hs.2 b (dM (kW (bL e) I.ok.above))).trans (I.base.keep b o e n hb hx)
   . obtain ⟨sl,e1⟩:=I.base.slot b o e n hb hx
     exact ⟨sl,(hs.2 b (dM (kW (bL e) I.ok.above))).trans e1⟩
   . obtain ⟨o',e1⟩:=I.base.there b o e hx
     exact ⟨o',(hs.2 b (dM (kW (bL e) I.ok.above))).trans e1⟩
   . by_cases hj:j=i
     . subst hj
       rw [hi] at e1;cases e1
       rw [tU hiσ] at e2
       cases e2
       exact ⟨u,r, .inl ⟨hk,by simp⟩⟩
     . rw [yN (bY hj)] at e2
       obtain ⟨u',r',q⟩:=hl j y v' e1 e2 e3
       refine ⟨u',r',?_⟩
       rcases q with ⟨k,e⟩|⟨k,c,e,z⟩
       . refine .inl ⟨k,?_⟩
         have:y≠x:=fun e=>hj (xQ hN e1 (e▸hi))
         simp [this,e]
       . exact .inr ⟨k,c,e,z.sameBut hs (Gv y c e)⟩
   . obtain ⟨w',z⟩:=I.cell y c e
     exact ⟨w',z.sameBut hs (Gv y c e)⟩
   . obtain ⟨e,n,ne,nf,d⟩:=I.pin p hp
     exact ⟨(hs.2 p.1 ne).trans e,n,ne,nf,d⟩
 . have hfn:X.fn x=true:=by
    rcases hf with z|z
    . exact z
    . rw [z] at hk;cases hk
   obtain ⟨c,hc⟩:=I.ok.has x (.inl hk)
   obtain ⟨w',z⟩:=I.cell x c hc
   refine wpAny_storeName_cell I.ok.kind hk hc z (fun h' hc' hs=>?_)
   obtain ⟨oc,hoc,afX⟩:=id z
   refine h { s with heap:=h' } ⟨I.ok,I.os,I.bare,⟨fun b o e n hb hx=>?_,fun b o e n hb hx=>?_,I.base.free,fun b o e hx=>?_,I.base.tups,I.base.mS,I.base.oV⟩,⟨m,hn.sameBut hs (bY (Gv x c hc)),fun j y v' e1 e2 e3=>?_⟩,fun y c' e=>?_,I.free,I.jD,fun p hp=>?_,tracked ⟨oc,hoc,I.jD x c hc⟩ hs,by simpa using I.len⟩ ⟨c,hs, .inr hc⟩
   . exact (hs.2 b (dM (kW (bL e) (I.ok.gO x c hfn hc)))).trans (I.base.keep b o e n hb hx)
   . obtain ⟨sl,e1⟩:=I.base.slot b o e n hb hx
     exact ⟨sl,(hs.2 b (dM (kW (bL e) (I.ok.gO x c hfn hc)))).trans e1⟩
   . obtain ⟨o',e1⟩:=I.base.there b o e hx
     exact ⟨o',(hs.2 b (dM (kW (bL e) (I.ok.gO x c hfn hc)))).trans e1⟩
   . by_cases hj:j=i
     . subst hj
       rw [hi] at e1;cases e1
       rw [tU hiσ] at e2
       cases e2
       exact ⟨u,r, .inr ⟨.inl hk,c,hc,hc'⟩⟩
     . rw [yN (bY hj)] at e2
       obtain ⟨u',r',q⟩:=hl j y v' e1 e2 e3
       refine ⟨u',r',?_⟩
       rcases q with q|⟨k,c',e,z'⟩
       . exact .inl q
       . refine .inr ⟨k,c',e,z'.sameBut hs ?_⟩
         rintro rfl
         exact hj (xQ hN e1 (I.ok.inj _ _ _ e hc▸hi))
   . by_cases hcc:c'=c
     . subst hcc;exact ⟨_,hc'⟩
     . obtain ⟨w2,z2⟩:=I.cell y c' e
       exact ⟨w2,z2.sameBut hs hcc⟩
   . obtain ⟨e,n,ne,nf,d⟩:=I.pin p hp
     refine ⟨(hs.2 p.1 ?_).trans e,n,ne,nf,d⟩
     intro q
     rw [q,hoc] at e
     have q':oc=p.2:=iy e
     exact d w' (by rw [<-q'];exact afX)
theorem tY {v:V} (I:Inv X pins σ H s) (hN:X.N.Nodup) (hi:X.N[i]?=some x) (hx:Loc X.env.scope x) (r:RelV v u)
  (h:∀s',Inv X pins (σ.set i (some v)) H s'->Q () s') (hf:X.fn x=true\/X.env.scope.names.lookup x=some .local:=by first|exact .inl rfl|exact .inr rfl|assumption):wpAny M A (storeName X.env x u) Q E s:=
 yQ I hN hi hx r (fun s' I' _=>h s' I') hf
theorem Inv.IZ {s':Shared} (I:Inv X pins σ H s) (ho:s'.os=s.os) (u:Un (frs X.stack) ch H H' s.heap s'.heap) (hok:gM X.prog X.w H' s'.heap) (hg:AllBare s'.gens)
  (hch:∀b∈ch,(b∈X.ex\/X.s₀.heap.objs.size<=b)/\b≠X.env.locals/\(∀x c,X.env.cells.lookup x=some c->c≠b)/\∀p∈X.pn++pins,p.1≠b):Inv X pins σ H' s':=by
 obtain ⟨h',g',d',t',o'⟩:=s'
 have e:o'=s.os:=ho
 subst e
 exact I.call (g':=g') (t':=t') (d':=d') u hok hg hch
end
abbrev XK:=Value->Option Addr->Hp->Prop
abbrev St:=List (Option V)
abbrev VK:=V->Hp->Prop
abbrev TE:=St->Hp->VK->Prop
abbrev TT:=St->Hp->(Bool->Hp->Prop)->Prop
abbrev TA:=St->Hp->(List V->Hp->Prop)->Prop
structure Ends where
 nx:St->Hp->Prop
 rt:VK
 bk:St->Hp->Prop:=fun _ _=>False
 ct:St->Hp->Prop:=fun _ _=>False
abbrev TS:=Ends->St->Hp->Prop
def EP (X:Cx) (pins:AO) (σ:St) (Q:VK) (u:Value) (s':Shared):Prop:=∃v H',Inv X pins σ H' s'/\RelV v u/\Q v H'
def TP (X:Cx) (pins:AO) (σ:St) (Q:Bool->Hp->Prop) (b:Bool) (s':Shared):Prop:=∃H',Inv X pins σ H' s'/\Q b H'
def AP (X:Cx) (pins:AO) (σ:St) (Q:List V->Hp->Prop) (us:List Value) (s':Shared):Prop:=∃vs H',Inv X pins σ H' s'/\Vals vs us/\Q vs H'
def SP (X:Cx) (pins:AO) (D:Ends) (f:Flow) (s':Shared):Prop:=
 match f with
 | .next=>∃σ' H',Inv X pins σ' H' s'/\D.nx σ' H'
 | .brk=>∃σ' H',Inv X pins σ' H' s'/\D.bk σ' H'
 | .cont=>∃σ' H',Inv X pins σ' H' s'/\D.ct σ' H'
 | .ret u=>∃v σ' H',Inv X pins σ' H' s'/\RelV v u/\D.rt v H'
def PE (X:Cx) (e:Expr) (t:TE):Prop:=
 ∀(pins:AO) (s:Shared) (σ:St) (H:Hp) (Q:VK),Inv X pins σ H s->t σ H Q->wpAny (model X.prog X.w) X.A (eval e X.env) (EP X pins σ Q) X.xe s
def PT (X:Cx) (e:Expr) (t:TT):Prop:=
 ∀(pins:AO) (s:Shared) (σ:St) (H:Hp) (Q:Bool->Hp->Prop),Inv X pins σ H s->t σ H Q->wpAny (model X.prog X.w) X.A (isTrue e X.env (eval e X.env)) (TP X pins σ Q) X.xe s
def PW (X:Cx) (e:Expr) (t:TT):Prop:=
 ∀(whole:Sem Value) (pins:AO) (s:Shared) (σ:St) (H:Hp) (Q:Bool->Hp->Prop),Inv X pins σ H s->t σ H Q->wpAny (model X.prog X.w) X.A (isTrue e X.env whole) (TP X pins σ Q) X.xe s
variable {X:Cx} {e:Expr}
theorem PW.pt {t:TT} (h:PW X e t):PT X e t:=h _
def PA (X:Cx) (es:List Expr) (t:TA):Prop:=
 ∀(pos:Pos) (pins:AO) (s:Shared) (σ:St) (H:Hp) (Q:List V->Hp->Prop),Inv X pins σ H s->t σ H Q->wpAny (model X.prog X.w) X.A (spliced (backTo pos (starEach es X.env))) (AP X pins σ Q) X.xe s
def PS (X:Cx) (st:Stmt) (t:TS):Prop:=
 ∀(pins:AO) (s:Shared) (σ:St) (H:Hp) (D:Ends),Inv X pins σ H s->t D σ H->wpAny (model X.prog X.w) X.A (exec st X.env) (SP X pins D) X.xe s
def qe (X:Cx) (st:List Stmt) (t:TS):Prop:=
 ∀(pins:AO) (s:Shared) (σ:St) (H:Hp) (D:Ends),Inv X pins σ H s->t D σ H->wpAny (model X.prog X.w) X.A (execs st X.env) (SP X pins D) X.xe s
variable {s:Shared}
theorem bq {α:Type} {t:Sem α} {Q Q':α->Shared->Prop} (h:wpAny M A t Q E s) (hQ:∀a s,Q a s->Q' a s):wpAny M A t Q' E s:=gP h hQ fun _ _ x=>x
variable {pos:Pos} {pins:AO} {σ:St} {op:CmpOp}
section
variable {X:Cx}
inductive B3 (i:Nat) (σ:St) (H:Hp) (Q:VK):Prop
 | mk  (v:_) (_:σ[i]?=some (some v)) (_:Q v H)
def tC (v:V):TE:=fun _ H Q=>Q v H
theorem Y8 (hN:X.N[i]?=some x) (hv:Ro X.env.scope x) (hd:(x==("__debug__":Str))=false:=by decide) (hcd:(x==("__classdict__":Str))=false:=by decide):PE X (.Name x pos) (B3 i):=by
 intro pins s σ H Q I h
 obtain ⟨v,e,h⟩:=h
 obtain ⟨m,hn,hl⟩:=I.loc
 obtain ⟨u,r,l⟩:=hl i x v hN e hv
 have fin:EP X pins σ Q u s:=⟨v,H,I,r,h⟩
 rcases l with ⟨hk,hm⟩|⟨hk,c,hc,hcell⟩
 . exact wpAny_Name (wpAny_loadName_local I.ok.kind hk hn hm fin) hd
 . rcases hk with hk|hk
   . exact wpAny_Name (wpAny_loadName_cell I.ok.kind hk hc hcell fin) hd
   . exact wpAny_Name (wpAny_loadName_free I.ok.kind hk hc hcell fin hcd) hd
theorem Rp {x j pos}:PE X (.Constant (.str x) j pos) (tC (.str x)):=fun _ _ _ H _ I h=>Calls.Constant_str ⟨.str x,H,I.tok _,⟨_,Z⟩,h⟩
def Gl (X:Cx) (x:Str):Prop:=X.env.kindOf x=some .globalImplicit
theorem qj {Q:VS} (I:Inv X pins σ H s) (hg:Gl X x) (hm:X.mg x=some u) (h:Q u s)
  (hd:(x==("__debug__":Str))=false:=by decide):wpAny (model X.prog X.w) X.A (eval (.Name x pos) X.env) Q E s:=
 Calls.Name_function_global I.ok.kind hg (Calls.loadGlobal_global (by rw [I.ok.glob];exact I.mod.glob.keeps I.bk) hm h) hd
theorem wH {Q:VS} (I:Inv X pins σ H s) (hg:Gl X x) (hm:X.mg x=none) (hv:bootBuiltins x=some u) (h:Q u s)
  (hn:x ≠ "__name__":=by decide) (hd:(x==("__debug__":Str))=false:=by decide):wpAny (model X.prog X.w) X.A (eval (.Name x pos) X.env) Q E s:=by
 obtain ⟨mb,h1,h2⟩:=I.mod.blt
 exact Calls.Name_function_global I.ok.kind hg (Calls.loadGlobal_builtin (by rw [I.ok.glob];exact I.mod.glob.keeps I.bk) hm (by rw [I.ok.blt];exact h1.keeps I.bk) ((h2 x hn).trans hv) h) hd
theorem Xl {v:V} (hg:Gl X x) (hm:X.mg x=none) (hv:bootBuiltins x=some u) (r:RelV v u) (hn:x ≠ "__name__":=by decide) (hd:(x==("__debug__":Str))=false:=by decide):PE X (.Name x pos) (tC v):=
 fun _ _ _ H _ I h=>wH I hg hm hv ⟨v,H,I,r,h⟩ hn hd
variable {a b:Expr} {ta tb:TE} {pos:Pos}
def PC (X:Cx) (op:CmpOp) (a b:Expr) (t:TE):Prop:=
 ∀(pins:AO) (s:Shared) (σ:St) (H:Hp) (Q:VK),Inv X pins σ H s->t σ H Q->
  wpAny (model X.prog X.w) X.A (eval a X.env) (fun v s₁=>wpAny (model X.prog X.w) X.A (eval b X.env) (fun u s₂=>wpAny (model X.prog X.w) X.A (compareOp op v u) (EP X pins σ Q) X.xe s₂) X.xe s₁) X.xe s
theorem Jv (b:Expr) (h:op ≠ .In) (h2:op ≠ .NotIn):behindInMarks op b=false:=by
 have e1:(op==CmpOp.In)=false:=by cases op <;> first|rfl|exact absurd rfl h
 have e2:(op==CmpOp.NotIn)=false:=by cases op <;> first|rfl|exact absurd rfl h2
 cases b <;> simp [behindInMarks,e1,e2]
inductive yTB (Q:Bool->Hp->Prop) (x:V) (H1:Hp):Prop
 | mk  (c:_) (_:x = .bl c) (_:Q c H1)
def tB (t:TE):TT:=fun σ H Q=>t σ H (yTB Q)
variable {tA Wc:TT} {rest:List Expr}
def acm (u:TT) (σ:St) (Q:Bool->Hp->Prop):Bool->Hp->Prop:=fun c H1=>if c=true then u σ H1 Q else Q false H1
def Y9 (t u:TT):TT:=fun σ H Q=>t σ H (acm u σ Q)
def afY (u:TT) (σ:St) (Q:Bool->Hp->Prop):Bool->Hp->Prop:=fun c H1=>if c=true then Q true H1 else u σ H1 Q
def tOr (t u:TT):TT:=fun σ H Q=>t σ H (afY u σ Q)
abbrev acn (Q:Bool->Hp->Prop):Bool->Hp->Prop:=fun c H1=>Q (!c) H1
def afZ (t:TT):TT:=fun σ H Q=>t σ H (acn Q)
inductive Y_ (tb:TE) (σ:St) (Q:VK) (x:V) (H1:Hp):Prop
 | mk  (c:_) (_:x = .bl c) (_:if c=true then tb σ H1 Q else Q (.bl false) H1)
def aco (ta tb:TE):TE:=fun σ H Q=>ta σ H (Y_ tb σ Q)
inductive Za (Q:VK) (x:V) (H1:Hp):Prop
 | mk  (c:_) (_:x = .bl c) (_:Q (.bl (!c)) H1)
def acp (ta:TE):TE:=fun σ H Q=>ta σ H (Za Q)
end
def aB (K:Fg) (H:Hp) (a:Addr) (xs:List V):Prop:=
 Rd H a (.lst xs)\/
  ∃(o:Obj) (its:Array Value) (n:Nat),K.lookup a=some o/\o.cls = .type "list"/\o.dict=none/\o.data = .seq its n/\its.size<=sizeLine/\Vals xs its.toList
def cT (K:Fg) (H:Hp) (a:Addr) (xs:List V):Prop:=
 Rd H a (.tup xs)\/
  ∃(o:Obj) (its:Array Value) (n:Nat),K.lookup a=some o/\o.cls = .type "tuple"/\o.data = .seq its n/\its.size<=sizeLine/\Vals xs its.toList
def af0:Value->Option V
 | .none=>some .bU
 | .bool b=>some (.bl b)
 | .int i _=>some (.int i)
 | .str x _=>some (.str x)
 | .bytes b _=>some (.wD b)
 | .float b _=>some (.Gr b)
 | .ref a=>some (.ref a)
 | .type n=>some (.ty n)
 | _=>none
theorem RelV.abs {x:V} (r:RelV x u):af0 u=some x:=by
 cases x with
 | bU=>cases r;rfl
 | bl _=>cases r;rfl
 | int _=>obtain ⟨t,rfl⟩:=r;rfl
 | str _=>obtain ⟨t,rfl⟩:=r;rfl
 | wD _=>obtain ⟨t,rfl⟩:=r;rfl
 | Gr _=>obtain ⟨t,rfl⟩:=r;rfl
 | ref _=>cases r;rfl
 | ty _=>cases r;rfl
variable {y:V}
theorem RelV.inj {x:V} (r:RelV x u) (q:RelV y u):x=y:=iy (r.abs.symm.trans q.abs)
theorem Vals.inj:∀{xs ys:List V} {us:List Value},Vals xs us->Vals ys us->xs=ys
 | _,_,_, .nil, .nil=>rfl
 | _,_,_, .cons r t, .cons r' t'=>by rw [r.inj r',Vals.inj t t']
variable {K:Fg}
section
variable {X:Cx} {pins:AO} {σ:St} {H:Hp} {s:Shared} {a:Addr} {xs ys:List V}
theorem aB.of (h:H a=some (.lst xs)):aB K H a xs:= .inl (.inl h)
theorem cT.of (h:H a=some (.tup xs)):cT K H a xs:= .inl (.inl h)
theorem Inv.list (I:Inv X pins σ H s) (h:aB X.K H a xs):∃its:List Value,Vals xs its/\PlainL s.heap a its.toArray/\xs.length<=sizeLine:=by
 rcases h with h|⟨o,its,n,hk,hc,hd,hs,hz,r⟩
 . obtain ⟨z,its,n,r,e⟩:=h.ok I.hok
   exact ⟨its,r,⟨_,n,e,Z,Z,Z⟩,z⟩
 . refine ⟨its.toList,r,⟨o,n,I.iJ a o hk,hc,hd,by simpa using hs⟩,?_⟩
   have e:=r.length
   simp only [Array.length_toList] at e
   omega
theorem Inv.tuple (I:Inv X pins σ H s) (h:cT X.K H a xs):∃its:List Value,Vals xs its/\IsTup s.heap a its.toArray/\xs.length<=sizeLine:=by
 rcases h with h|⟨o,its,n,hk,hc,hs,hz,r⟩
 . obtain ⟨z,its,r,p⟩:=h.ok I.hok
   exact ⟨its,r,p,z⟩
 . refine ⟨its.toList,r,⟨o,I.iJ a o hk,hc,n,by simpa using hs⟩,?_⟩
   have e:=r.length
   simp only [Array.length_toList] at e
   omega
theorem Inv.UB (I:Inv X pins σ H s) (h:aB X.K H a xs) (h':aB X.K H a ys):xs=ys:=by
 obtain ⟨its,r,⟨o,n,e,_,_,d⟩,_⟩:=I.list h
 obtain ⟨its',r',⟨o',n',e',_,_,d'⟩,_⟩:=I.list h'
 rw [e] at e';cases e'
 rw [d] at d'
 injection d' with d1 _
 have:its=its':=by simpa using h_ Array.toList d1
 subst this
 exact r.inj r'
end
abbrev Cx.vP (X:Cx) (E:VS):Cx:={ X with xe:=E }
abbrev Cx.Bf (X:Cx):Cx:=X.vP fun _ _=>False
theorem Cx.Ok.vP (ok:X.Ok) (E:VS):(X.vP E).Ok:=
 ⟨ok.mod,ok.kind,ok.glob,ok.blt,ok.above,ok.inj,ok.has,ok.gO,ok.hd,ok.frames,ok.stk,ok.Js,ok.bs,ok.C8,ok.E2,ok.B0,ok.nO,ok.Gu⟩
theorem Cx.Ok.rE (ok:(X.vP E).Ok):X.Ok:=
 ⟨ok.mod,ok.kind,ok.glob,ok.blt,ok.above,ok.inj,ok.has,ok.gO,ok.hd,ok.frames,ok.stk,ok.Js,ok.bs,ok.C8,ok.E2,ok.B0,ok.nO,ok.Gu⟩
variable {D:Ends}
section
variable {X:Cx} {pins:AO} {σ:St} {H:Hp} {s:Shared} {E:VS}
theorem Inv.vP (I:Inv X pins σ H s) (E:VS):Inv (X.vP E) pins σ H s:=⟨I.ok.vP E,I.os,I.bare,I.base,I.loc,I.cell,I.free,I.jD,I.pin,I.hok,I.len⟩
theorem Inv.rE (I:Inv (X.vP E) pins σ H s):Inv X pins σ H s:=⟨I.ok.rE,I.os,I.bare,I.base,I.loc,I.cell,I.free,I.jD,I.pin,I.hok,I.len⟩
theorem SP.rE {f:Flow} (h:SP (X.vP E) pins D f s'):SP X pins D f s':=by
 cases f with
 | next=>obtain ⟨σ',H',I,q⟩:=h;exact ⟨σ',H',I.rE,q⟩
 | brk=>obtain ⟨σ',H',I,q⟩:=h;exact ⟨σ',H',I.rE,q⟩
 | cont=>obtain ⟨σ',H',I,q⟩:=h;exact ⟨σ',H',I.rE,q⟩
 | ret u=>obtain ⟨v,σ',H',I,r,q⟩:=h;exact ⟨v,σ',H',I.rE,r,q⟩
theorem qe.Bf {st:List Stmt} {t:TS} (h:qe X.Bf st t):qe X st t:=fun pins s σ H D I hw=>
 gP (h pins s σ H D (I.vP _) hw) (fun _ _ q=>q.rE) fun _ _ z=>False.elim z
end
variable {tc:TT}
section
variable {X:Cx} {st:Stmt} {rest:List Stmt} {t u:TS} {e:Expr} {te:TE} {pos:Pos}
def acq:TS:=fun D σ H=>D.nx σ H
def Ends.sq (D:Ends) (u:TS):Ends:={ D with nx:=u D }
def Ends.lp (D:Ends) (N:St->Hp->Prop):Ends:={ D with nx:=N,ct:=N,bk:=D.nx }
def B7 (t u:TS):TS:=fun D σ H=>t (D.sq u) σ H
theorem Inv.quiet (I:Inv X pins σ H s):interactive X.env=false:=by simp [interactive,I.ok.kind]
def Zb (D:Ends) (σ:St):V->Hp->Prop:=fun _ H1=>D.nx σ H1
def acr (te:TE):TS:=fun D σ H=>te σ H (Zb D σ)
def af1 (te:TE):TS:=fun D σ H=>te σ H D.rt
def acs (t:TS) (u:TS) (D:Ends) (σ:St):Bool->Hp->Prop:=fun b H1=>if b=true then t D σ H1 else u D σ H1
def Zc (c:TT) (t u:TS):TS:=fun D σ H=>c σ H (acs t u D σ)
theorem Wd {c:Expr} {a b:List Stmt} (hc:PT X c tc) (ha:qe X a t) (hb:qe X b u):PS X (.If c a b pos) (Zc tc t u):=by
 intro pins s σ H D I h
 refine wpAny_If (bq (hc pins s σ H _ I h) fun d s1 ⟨H1,I1,q1⟩=>?_)
 cases d with
 | true=>exact ha pins s1 σ H1 D I1 q1
 | false=>exact hb pins s1 σ H1 D I1 q1
def Zd:TS:=fun _ _ _=>False
end
abbrev TG:=V->St->Hp->(St->Hp->Prop)->Prop
abbrev C_:=List V->St->Hp->(St->Hp->Prop)->Prop
def PG (X:Cx) (target:Expr) (t:TG):Prop:=
 ∀(pins:AO) (s:Shared) (σ:St) (H:Hp) (v:V) (u:Value) (Q:St->Hp->Prop),Inv X pins σ H s->RelV v u->t v σ H Q->
  wpAny (model X.prog X.w) X.A (assign target X.env u) (fun _ s'=>∃σ' H',Inv X pins σ' H' s'/\Q σ' H') X.xe s
def PGs (X:Cx) (ts:List Expr) (t:C_):Prop:=
 ∀(pins:AO) (s:Shared) (σ:St) (H:Hp) (vs:List V) (us:List Value) (Q:St->Hp->Prop),Inv X pins σ H s->Vals vs us->t vs σ H Q->
  wpAny (model X.prog X.w) X.A (assignInOrder ((assignEach ts X.env).map (·.2)) us) (fun _ s'=>∃σ' H',Inv X pins σ' H' s'/\Q σ' H') X.xe s
abbrev Jw:=V->V->V->Hp->(Hp->Prop)->Prop
def Ze (X:Cx) (t:Jw):Prop:=
 ∀(pins:AO) (s:Shared) (σ:St) (H:Hp) (o i v:V) (ov iv u:Value) (Q:Hp->Prop),Inv X pins σ H s->RelV o ov->RelV i iv->RelV v u->t o i v H Q->
  wpAny (model X.prog X.w) X.A (setItem ov iv u) (fun _ s'=>∃H',Inv X pins σ H' s'/\Q H') X.xe s
variable {es:List Expr} {n:Nat}
section
variable {X:Cx} {pos:Pos}
def gi (i:Nat):TG:=fun v σ H Q=>Q (σ.set i (some v)) H
inductive Zf (vs:List V) (σ:St) (H:Hp) (Q:St->Hp->Prop):Prop
 | mk  (_:vs=[]) (_:Q σ H)
def Zg (u:C_) (Q:St->Hp->Prop) (r:List V):St->Hp->Prop:=fun σ' H'=>u r σ' H' Q
inductive We (t:TG) (u:C_) (vs:List V) (σ:St) (H:Hp) (Q:St->Hp->Prop):Prop
 | mk  (v r:_) (_:vs=v::r) (_:t v σ H (Zg u Q r))
inductive B8 (K:Fg) (n:Nat) (t:C_) (v:V) (σ:St) (H:Hp) (Q:St->Hp->Prop):Prop
 | mk  (a xs:_) (_:v = .ref a) (_:cT K H a xs) (_:xs.length=n) (_:t xs σ H Q)
theorem Zh {k:Nat} {t:C_} (hc:X.calm=true) (h:PGs X es t)
  (hn:(assignEach es X.env).length=n:=by rfl) (hst:(assignEach es X.env).findIdx? (·.1)=none:=by rfl):PG X (.Tuple es k pos) (B8 X.K n t):=by
 intro pins s σ H v u Q I r hw
 obtain ⟨a,xs,e1,hq,hl,hw⟩:=hw
 subst e1
 cases r
 obtain ⟨its,rv,ht,hz⟩:=I.tuple hq
 refine assign_Tuple_tuple (I.ok.hd hc) ht (by simp [hn,<-hl,rv.length]) hst fun h' hx=>?_
 have I1:Inv X pins σ H { s with heap:=h' }:=I.kept (t':=s.toks) fun b o e=>hx b o (dM (bL e)) e
 exact h pins _ σ H xs _ Q I1 (by simpa using rv) hw
def Xm (σ:St) (Q:St->Hp->Prop):Hp->Prop:=fun H3=>Q σ H3
def Xn (t:Jw) (v:V) (σ:St) (Q:St->Hp->Prop) (o:V):V->Hp->Prop:=fun i H2=>t o i v H2 (Xm σ Q)
def acu (ti:TE) (t:Jw) (v:V) (σ:St) (Q:St->Hp->Prop):V->Hp->Prop:=fun o H1=>ti σ H1 (Xn t v σ Q o)
def af2 (to ti:TE) (t:Jw):TG:=fun v σ H Q=>to σ H (acu ti t v σ Q)
def acv (g:TG) (D:Ends) (σ:St):V->Hp->Prop:=fun x H1=>g x σ H1 D.nx
def yR (te:TE) (g:TG):TS:=fun D σ H=>te σ H (acv g D σ)
inductive acw (i:Nat) (j:Nat) (D:Ends) (σ:St) (vs:List V) (H1:Hp):Prop
 | mk  (v w:_) (_:vs=[v,w]) (_:D.nx ((σ.set i (some v)).set j (some w)) H1)
def af3 (i j:Nat) (ta:TA):TS:=fun D σ H=>ta σ H (acw i j D σ)
end
section
variable {X:Cx} {pos:Pos}
def Zi (c:TT) (tb:TS):TS:=fun D σ H=>∃W:Nat->St->Hp->Prop,(∃m,W m σ H)/\∀m σ H,W m σ H->
 c σ H fun b H1=>if b=true then ∃N:St->Hp->Prop,(∀σ' H',N σ' H'->∃m',m'<m/\W m' σ' H')/\tb { D with nx:=N,ct:=N,bk:=D.nx } σ H1 else D.nx σ H1
end
structure It where
 go:Nat->Hp->Prop
 Dc:Nat->Hp->V->Hp->Prop
 stop:Nat->Hp->Prop
def oW (X:Cx) (pins:AO) (H:Hp) (b:Addr):Prop:=
 H b=none/\b≠X.env.locals/\b∉X.fs/\(b∈X.ex\/X.s₀.heap.objs.size<=b)/\(∀x c,X.env.cells.lookup x=some c->c≠b)/\∀p∈X.pn++pins,p.1≠b
variable {H':Hp}
theorem Inv.E3 {b:Addr} (I:Inv X pins σ H s) (hb:s.heap.objs.size<=b) (hn:H' b=none):oW X pins H' b:=by
 refine ⟨hn,xM (kW I.lt hb),I.afW hb, .inr (fQ I.sz hb),fun x c e z=>?_,fun p hp z=>?_⟩
 . obtain ⟨v,q⟩:=I.cell x c e
   exact absurd (kW q.lt (by rw [z];exact hb)) (je _)
 . exact absurd (kW (bL (I.pin p hp).1) (by rw [z];exact hb)) (je _)
structure Turn (P:Program) (w:World) (K:Fg) (tg:Expr) (J:It) (fp:List Addr) (it:Addr) (tn:Nat->Heap->Prop):Prop where
 mem:it∈fp
 obj:∀i h,tn i h->∀b∈fp,∃o,h.get? b=some o/\∀v,o.data ≠ .cell v
 keep:∀i h h',tn i h->(∀b∈fp,∀o,h.get? b=some o->h'.get? b=some o)->tn i h'
 item:∀(X:Cx),X.prog=P->X.w=w->X.K=K->X.calm=true->∀(i:Nat) (pins:AO) (s:Shared) (σ:St) (H:Hp) (E:VS),Inv X pins σ H s->(∀b∈fp,oW X pins H b)->tn i s.heap->J.go i H->
  wpAny (model P w) X.A (pyNext (.ref it)) (fun r s1=>∃u,r=some u/\
   wpAny (model P w) X.A (letOwnedTupleGo tg (.ref it) u) (fun _ s2=>∃x H',Inv X pins σ H' s2/\RelV x u/\J.Dc i H x H'/\tn (i+1) s2.heap/\∀b∈fp,H' b=none) E s1) E s
 done:∀(X:Cx),X.prog=P->X.w=w->X.K=K->X.calm=true->∀(i:Nat) (pins:AO) (s:Shared) (σ:St) (H:Hp) (E:VS),Inv X pins σ H s->(∀b∈fp,oW X pins H b)->tn i s.heap->J.stop i H->
  wpAny (model P w) X.A (pyNext (.ref it)) (fun r s1=>r=none/\Inv X pins σ H s1) E s
 self:∀(A:Around) (i:Nat) (s:Shared) (Q:VS) (E:VS),tn i s.heap->Q (.ref it) s->wpAny (model P w) A (pyIter (.ref it)) Q E s
abbrev TI:=St->Hp->(It->Hp->Prop)->Prop
def PIE (X:Cx) (pins:AO) (σ:St) (tg:Expr) (R:It->Hp->Prop) (itv:Value) (s2:Shared):Prop:=
 ∃(it:Addr) (fp:List Addr) (tn:Nat->Heap->Prop) (J:It) (H':Hp),itv = .ref it/\Inv X pins σ H' s2/\Turn X.prog X.w X.K tg J fp it tn/\tn 0 s2.heap/\(∀b∈fp,oW X pins H' b)/\R J H'
def PI (X:Cx) (tg iter:Expr) (wi:TI):Prop:=
 ∀(pins:AO) (s:Shared) (σ:St) (H:Hp) (R:It->Hp->Prop),Inv X pins σ H s->wi σ H R->
  wpAny (model X.prog X.w) X.A (eval iter X.env) (fun v s1=>wpAny (model X.prog X.w) X.A (pyIter v) (PIE X pins σ tg R) X.xe s1) X.xe s
variable {tg:Expr}
theorem De {o:Obj} {n:String} {vs:Array Value} (ho:s.heap.get? it=some o) (hc:o.cls = .type n) (hd:o.data = .fields vs)
  (hn:["enumerate","zip","dict_itemiterator","dict_reverseitemiterator","odict_iterator","itertools.zip_longest","itertools.pairwise"].contains n=false) (hQ:Q () s):wpAny M A (letOwnedTupleGo tg (.ref it) u) Q E s:=by
 unfold letOwnedTupleGo
 cases tg <;> first
  | exact aJ hQ
  | (cases u <;> first
      | exact aJ hQ
      | (refine aq (wpAny_load ho ?_)
         rw [hc,hd]
         show wpAny M A (if (["enumerate","zip","dict_itemiterator","dict_reverseitemiterator","odict_iterator","itertools.zip_longest","itertools.pairwise"].contains n && vs[0]?==some (rawInt _))=true then _ else _) Q E s
         rw [aA (by intro h;rw [hn,Bool.false_and] at h;cases h)]
         exact aJ hQ))
def rF (K:Fg) (a:Addr):It:=
 ⟨fun i H=>∃xs x,aB K H a xs/\xs[i]?=some x,fun i H x H'=>H'=H/\∀xs,aB K H a xs->xs[i]?=some x,fun i H=>∃xs,aB K H a xs/\xs.length<=i⟩
def Gw (lo:Int) (n:Nat):It:=⟨fun i _=>i<n,fun i H x H'=>H'=H/\x = .int (lo+i),fun i _=>n<=i⟩
theorem Rq {w:World} (a it:Addr):Turn P w K tg (rF K a) [it] it (fun i h=>h.IsListIter it a i) where
 mem:=by simp
 obj:=fun i h st b hb=>by
  have e:b=it:=by simpa using hb
  subst e
  obtain ⟨o,e,c,d⟩:=st
  exact ⟨o,e,fun v z=>by rw [d] at z;cases z⟩
 keep:=fun i h h' st k=>st.at fun o e=>k it (by simp) o e
 item:=by
  intro X hP hw hK hc i pins s σ H E I hf st hg
  subst hP hw hK
  obtain ⟨xs,x,hq,hx⟩:=hg
  obtain ⟨its,rv,p,hz⟩:=I.list hq
  obtain ⟨u,hu,ru⟩:=rv.get hx
  obtain ⟨f0,f1,f2,f3,f4,f5⟩:=hf it (by simp)
  refine wpAny_pyNext_list_item st p.isList (x:=u) (by simpa using hu) fun h' st' sb=>?_
  have I1:Inv X pins σ H { s with heap:=h' }:=I.turned (t':=s.toks) (fun b o hb e=>(sb.2 b hb).trans e) f0 f1 f3 f4 f5
  obtain ⟨o,e,c,d⟩:=id st'
  exact ⟨u,Z,De (s:={ s with heap:=h' }) e c d (by decide) ⟨x,H,I1,ru,⟨Z,fun ys hy=>by rw [I.UB hy hq];exact hx⟩,st',fun b hb=>(hf b hb).1⟩⟩
 done:=by
  intro X hP hw hK hc i pins s σ H E I hf st hg
  subst hP hw hK
  obtain ⟨xs,hq,hx⟩:=hg
  obtain ⟨its,rv,p,hz⟩:=I.list hq
  obtain ⟨f0,f1,f2,f3,f4,f5⟩:=hf it (by simp)
  have hl:=rv.length
  exact wpAny_pyNext_list_end (I.ok.hd hc) st p.isList (by simp;omega) fun h' eb=>⟨Z,I.turned (t':=s.toks) (fun b o hb e=>eb b o hb e) f0 f1 f3 f4 f5⟩
 self:=fun _ _ _ _ _ st h=>wpAny_pyIter_listiter st h
theorem Pz {w:World} (it:Addr) (lo:Int) (n:Nat):Turn P w K tg (Gw lo n) [it] it (fun i h=>IsRangeIter h it (lo+(i:Nat)*1) ((n:Int)-(i:Nat)) 1) where
 mem:=by simp
 obj:=fun i h st b hb=>by
  have e:b=it:=by simpa using hb
  subst e
  exact ⟨_,st,fun v z=>by
   have z':Data.fields _=Data.cell v:=z
   cases z'⟩
 keep:=fun i h h' st k=>k it (by simp) _ st
 item:=by
  intro X hP hw hK hc i pins s σ H E I hf st hg
  subst hP hw hK
  obtain ⟨f0,f1,f2,f3,f4,f5⟩:=hf it (by simp)
  have W:=Walks.range (prog:=X.prog) (w:=X.w) (I.ok.hd hc) it lo 1 n
  refine W.item i s _ _ hg st fun v h' tk hv st' kk=>?_
  obtain ⟨t,rfl⟩:=hv
  have I1:Inv X pins σ H { s with heap:=h',toks:=tk }:=I.turned (fun b o hb e=>kk b o (by simpa using hb) e) f0 f1 f3 f4 f5
  refine ⟨_,Z,De (s:={ s with heap:=h',toks:=tk }) (n:="range_iterator") st' rfl rfl (by decide) ⟨.int (lo+i),H,I1,⟨t,?_⟩,⟨Z,Z⟩,st',fun b hb=>(hf b hb).1⟩⟩
  rw [Int.mul_one]
 done:=by
  intro X hP hw hK hc i pins s σ H E I hf st hg
  subst hP hw hK
  obtain ⟨f0,f1,f2,f3,f4,f5⟩:=hf it (by simp)
  exact wpAny_pyNext_range_end (I.ok.hd hc) st (by have:n<=i:=hg;omega) fun h' eb=>⟨Z,I.turned (t':=s.toks) (fun b o hb e=>eb b o hb e) f0 f1 f3 f4 f5⟩
 self:=fun _ _ _ _ _ st h=>wpAny_pyIter_rangeiter st h
variable {tl:TE} {fp:List Addr}
section
variable {X:Cx} {tg:Expr}
inductive Zj (K:Fg) (R:It->Hp->Prop) (x:V) (H1:Hp):Prop
 | mk  (a:_) (_:x = .ref a) (_:(∃xs,aB K H1 a xs)) (_:R (rF K a:_) H1)
def Wg (K:Fg) (tl:TE):TI:=fun σ H R=>tl σ H (Zj K R)
theorem Xo {l:Expr} (hl:PE X l tl):PI X tg l (Wg X.K tl):=by
 intro pins s σ H R I h
 refine bq (hl pins s σ H _ I h) fun v s1 ⟨x,H1,I1,r1,q1⟩=>?_
 obtain ⟨a,e,⟨xs,hq⟩,q⟩:=q1
 subst e
 cases r1
 obtain ⟨its,rv,p,hz⟩:=I1.list hq
 refine Pq p.isList ?_
 refine ⟨s1.heap.objs.size,[s1.heap.objs.size],_,_,H1,Z,I1.kept (t':=s1.toks) fun b o e=>cg _ e,Rq a _,⟨_,dW _ rfl,Z,Z⟩,fun b hb=>?_,q⟩
 have e:b=s1.heap.objs.size:=by simpa using hb
 subst e
 exact I1.E3 (aO _) (I1.hok.fresh (aO _))
theorem UC {R:It->Hp->Prop} {lo hi:Int} {t u v:Tok} {tk:Nat} (I:Inv X pins σ H s) (h1:-(2 ^ 62)<=lo) (h2:lo<2 ^ 62) (h3:-(2 ^ 62)<=hi) (h4:hi<2 ^ 62)
  (q:R (Gw lo (hi-lo).toNat) H):wpAny (model X.prog X.w) X.A (pyIter (.ref s.heap.objs.size)) (PIE X pins σ tg R) E { s with heap:=s.heap.push { cls:= .type "range",data:= .fields #[.int lo t, .int hi u, .int 1 v] },toks:=tk }:=by
 refine wpAny_pyIter_range (IsRange.new ..) (small_one h1 h2 h3 h4) ?_
 have I1:Inv X pins σ H { s with heap:=s.heap.push { cls:= .type "range",data:= .fields #[.int lo t, .int hi u, .int 1 v] },toks:=tk }:=I.kept fun b o e=>cg _ e
 refine ⟨(s.heap.push { cls:= .type "range",data:= .fields #[.int lo t, .int hi u, .int 1 v] }).objs.size,[(s.heap.push { cls:= .type "range",data:= .fields #[.int lo t, .int hi u, .int 1 v] }).objs.size],_,_,H,Z,
  I1.kept (t':=tk) fun b o e=>cg _ e,Pz _ lo (hi-lo).toNat,?_,fun b hb=>?_,q⟩
 . have e1:lo+((0:Nat):Int)*1=lo:=by simp
   have e2:(((hi-lo).toNat:Nat):Int)-((0:Nat):Int)=Builtin.Range.rangeSize lo hi 1:=by rw [rangeSize_one];split <;> omega
   show IsRangeIter _ _ (lo+((0:Nat):Int)*1) ((((hi-lo).toNat:Nat):Int)-((0:Nat):Int)) 1
   rw [e1,e2]
   exact dW _ rfl
 . have e:b=(s.heap.push { cls:= .type "range",data:= .fields #[.int lo t, .int hi u, .int 1 v] }).objs.size:=by simpa using hb
   subst e
   exact I1.E3 (aO _) (I1.hok.fresh (aO _))
inductive Zk (R:It->Hp->Prop) (vs:List V) (H1:Hp):Prop
 | mk  (j:Int) (_:vs=[.int j]) (_:-(2 ^ 62)<=j) (_:j<2 ^ 62) (_:R (Gw 0 j.toNat) H1)
def acy (ta:TA):TI:=fun σ H R=>ta σ H (Zk R)
def I0 (g:TG) (tb:TS) (D:Ends) (σ:St):It->Hp->Prop:=fun J H1=>∃W:Nat->Nat->St->Hp->Prop,(∃m,W 0 m σ H1)/\∀i m σ H,W i m σ H->
 (J.stop i H/\D.nx σ H)\/(J.go i H/\∃N:St->Hp->Prop,(∀σ' H',N σ' H'->∃m',m'<m/\W (i+1) m' σ' H')/\∀x H',J.Dc i H x H'->g x σ H' (tb (D.lp N)))
def af4 (wi:TI) (g:TG) (tb:TS):TS:=fun D σ H=>wi σ H (I0 g tb D σ)
def Df (fp:List Addr) (h:Heap):List (Addr×Obj):=fp.filterMap fun b=>(h.get? b).map fun o=>(b,o)
theorem jf {b:Addr} {o:Obj} (hb:b∈fp) (e:h.get? b=some o):(b,o)∈Df fp h:=EW.mpr ⟨b,hb,by rw [e];rfl⟩
theorem Rr {p:Addr×Obj} (hp:p∈Df fp h):p.1∈fp/\h.get? p.1=some p.2:=by
 obtain ⟨b,hb,e⟩:=EW.mp hp
 cases q:h.get? b with
 | none=>rw [q] at e;cases e
 | some o=>
   rw [q] at e
   have e':(b,o)=p:=iy e
   subst e'
   exact ⟨hb,q⟩
theorem Inv.pinned (I:Inv X pins σ H s) (hf:∀b∈fp,oW X pins H b) (ho:∀b∈fp,∃o,s.heap.get? b=some o/\∀v,o.data ≠ .cell v):Inv X (pins++Df fp s.heap) σ H s:=
 I.NO fun p hp=>(gh.mp hp).elim (fun z=>I.pin p (jy _ z)) fun z=>by
   obtain ⟨hb,e⟩:=Rr z
   obtain ⟨f0,f1,f2,_⟩:=hf p.1 hb
   obtain ⟨o,e',d⟩:=ho p.1 hb
   rw [e] at e';cases e'
   exact ⟨e,f0,f1,f2,d⟩
theorem Inv.qm {pl:AO} (I:Inv X (pins++pl) σ H s):Inv X pins σ H s:=I.NO fun p hp=>I.pin p (jy _ (ES _ hp))
end
variable {g:TG} {tb:TS}
theorem lQ (Pv:Nat->St->Hp->Prop) (h0:Pv 0 σ H) (hl:∀i σ H,i<=xs.length->Pv i σ H->aB K H a xs)
  (hs:∀i x σ H,xs[i]?=some x->Pv i σ H->g x σ H (tb (D.lp (Pv (i+1))))) (hd:∀σ H,Pv xs.length σ H->D.nx σ H):
  I0 g tb D σ (rF K a) H:=by
 refine ⟨fun i m σ H=>m=xs.length-i/\i<=xs.length/\Pv i σ H,⟨xs.length,by simp,fC _,h0⟩,?_⟩
 rintro i m σ H ⟨rfl,hi,p⟩
 have q:=hl i σ H hi p
 by_cases hlt:i<xs.length
 . refine .inr ⟨⟨xs,xs[i],q,by simp [hlt]⟩,Pv (i+1),fun σ' H' p'=>⟨xs.length-(i+1),by omega,Z,hlt,p'⟩,fun x H' y=>?_⟩
   obtain ⟨e,y⟩:=y
   subst e
   exact hs i x σ _ (y xs q) p
 . have e:i=xs.length:=by omega
   subst e
   exact .inl ⟨⟨xs,q,aO _⟩,hd σ H p⟩
theorem fT {lo:Int} (Pv:Nat->St->Hp->Prop) (h0:Pv 0 σ H)
  (hs:∀i σ H,i<n->Pv i σ H->g (.int (lo+i)) σ H (tb (D.lp (Pv (i+1))))) (hd:∀σ H,Pv n σ H->D.nx σ H):
  I0 g tb D σ (Gw lo n) H:=by
 refine ⟨fun i m σ H=>m=n-i/\i<=n/\Pv i σ H,⟨n,by simp,fC _,h0⟩,?_⟩
 rintro i m σ H ⟨rfl,hi,p⟩
 by_cases hlt:i<n
 . refine .inr ⟨hlt,Pv (i+1),fun σ' H' p'=>⟨n-(i+1),by omega,Z,hlt,p'⟩,fun x H' y=>?_⟩
   obtain ⟨e,y⟩:=y
   subst e y
   exact hs i σ _ hlt p
 . have e:i=n:=by omega
   subst e
   exact .inl ⟨aO _,hd σ H p⟩
abbrev R2:=V->V->Hp->VK->Prop
def gT (X:Cx) (f:Value->Value->Sem Value) (r:R2):Prop:=
 ∀(pins:AO) (s:Shared) (σ:St) (H:Hp) (x y:V) (v u:Value) (Q:VK),Inv X pins σ H s->RelV x v->RelV y u->r x y H Q->
  wpAny (model X.prog X.w) X.A (f v u) (EP X pins σ Q) X.xe s
def Zl (X:Cx) (f:Value->Sem Value) (r:V->Hp->VK->Prop):Prop:=
 ∀(pins:AO) (s:Shared) (σ:St) (H:Hp) (x:V) (v:Value) (Q:VK),Inv X pins σ H s->RelV x v->r x H Q->
  wpAny (model X.prog X.w) X.A (f v) (EP X pins σ Q) X.xe s
def gj (X:Cx) (f:Value) (r:List V->Hp->VK->Prop):Prop:=
 ∀(pins:AO) (s:Shared) (σ:St) (H:Hp) (xs:List V) (us:List Value) (Q:VK),Inv X pins σ H s->Vals xs us->r xs H Q->
  wpAny (model X.prog X.w) X.A (call f us) (EP X pins σ Q) X.xe s
def Zm (r:R2) (Q:VK) (x:V):V->Hp->Prop:=fun y H2=>r x y H2 Q
def af5 (r:R2) (tb:TE) (σ:St) (Q:VK):V->Hp->Prop:=fun x H1=>tb σ H1 (Zm r Q x)
def Dg (r:R2) (ta tb:TE):TE:=fun σ H Q=>ta σ H (af5 r tb σ Q)
def af6 (r:V->Hp->VK->Prop) (Q:VK):V->Hp->Prop:=fun x H1=>r x H1 Q
def tUn (r:V->Hp->VK->Prop) (ta:TE):TE:=fun σ H Q=>ta σ H (af6 r Q)
inductive rI (C:Int->Int->Prop) (g:Int->Int->V) (x:V) (y:V) (H:Hp) (Q:VK):Prop
 | mk  (i j:_) (_:x = .int i) (_:y = .int j) (_:C i j) (_:Q (g i j:_) H)
inductive Gx (g:Int->Int->V) (x:V) (y:V) (H:Hp) (Q:VK):Prop
 | mk  (i j:_) (_:x = .int i) (_:y = .int j) (_:Q (g i j:_) H)
inductive rU (g:Int->V) (x:V) (H:Hp) (Q:VK):Prop
 | mk  (i:_) (_:x = .int i) (_:Q (g i:_) H)
section
variable {X:Cx} {a b c:Expr} {ta tb tc:TE} {pos:Pos}
theorem UD (ha:PE X a ta) (hb:PE X b tb) {R:V->V->Hp->Prop} (I:Inv X pins σ H s)
  (h:ta σ H fun x H1=>tb σ H1 fun y H2=>R x y H2) {Q:VS} {f:Value->Value->Sem Value}
  (hf:∀v u s2 x y H2,Inv X pins σ H2 s2->RelV x v->RelV y u->R x y H2->wpAny (model X.prog X.w) X.A (f v u) Q X.xe s2):
  wpAny (model X.prog X.w) X.A (eval a X.env) (fun v s₁=>wpAny (model X.prog X.w) X.A (eval b X.env) (fun u s₂=>wpAny (model X.prog X.w) X.A (f v u) Q X.xe s₂) X.xe s₁) X.xe s:=by
 refine bq (ha pins s σ H _ I h) fun v s1 ⟨x,H1,I1,r1,q1⟩=>?_
 refine bq (hb pins s1 σ H1 _ I1 q1) fun u s2 ⟨y,H2,I2,r2,q2⟩=>?_
 exact hf v u s2 x y H2 I2 r1 r2 q2
theorem Rt {f:Value->Value->Sem Value} {C:Int->Int->Prop} {g:Int->Int->Int}
  (rule:∀(i j:Int) (t u:Tok) (s:Shared) (Q:VS) (E:VS),C i j->Q (.int (g i j) s.toks) { s with toks:=s.toks+1 }->wpAny (model X.prog X.w) X.A (f (.int i t) (.int j u)) Q E s):
  gT X f (rI C fun i j=> .int (g i j)):=by
 intro pins s σ H x y v u Q I rx ry h
 obtain ⟨i,j,rfl,rfl,hc,q⟩:=h
 obtain ⟨t,rfl⟩:=rx
 obtain ⟨t',rfl⟩:=ry
 exact rule i j t t' s _ _ hc ⟨.int (g i j),H,I.tok _,⟨_,Z⟩,q⟩
theorem Zn {f:Value->Value->Sem Value} {g:Int->Int->Int}
  (rule:∀(i j:Int) (t u:Tok) (s:Shared) (Q:VS) (E:VS),Q (.int (g i j) s.toks) { s with toks:=s.toks+1 }->wpAny (model X.prog X.w) X.A (f (.int i t) (.int j u)) Q E s):
  gT X f (Gx fun i j=> .int (g i j)):=by
 intro pins s σ H x y v u Q I rx ry h
 obtain ⟨i,j,rfl,rfl,q⟩:=h
 obtain ⟨t,rfl⟩:=rx
 obtain ⟨t',rfl⟩:=ry
 exact rule i j t t' s _ _ ⟨.int (g i j),H,I.tok _,⟨_,Z⟩,q⟩
theorem PB {f:Value->Value->Sem Value} {g:Int->Int->Bool}
  (rule:∀(i j:Int) (t u:Tok) (s:Shared) (Q:VS) (E:VS),Q (.bool (g i j)) s->wpAny (model X.prog X.w) X.A (f (.int i t) (.int j u)) Q E s):
  gT X f (Gx fun i j=> .bl (g i j)):=by
 intro pins s σ H x y v u Q I rx ry h
 obtain ⟨i,j,rfl,rfl,q⟩:=h
 obtain ⟨t,rfl⟩:=rx
 obtain ⟨t',rfl⟩:=ry
 exact rule i j t t' s _ _ ⟨.bl (g i j),H,I,Z,q⟩
def PD (i j:Int):Prop:=0<=j/\j<=1000000/\i.natAbs<2 ^ 64
def PF (i j:Int):Prop:=(-(2 ^ 64)<i/\i<2 ^ 64)\/(-(2 ^ 64)<j/\j<2 ^ 64)
theorem PF.ok {i j:Int} (h:PF i j):IntMulOk i j:=by
 rcases h with ⟨h1,h2⟩|⟨h1,h2⟩
 . exact .of_left (intBits_le_64 h1 h2)
 . exact .of_right (intBits_le_64 h1 h2)
theorem bP:gT X (binaryOp .Add) (Gx fun i j=> .int (i+j)):=Zn fun _ _ _ _ _ _ _ q=>add_int q
theorem jL:gT X (binaryOp .Sub) (Gx fun i j=> .int (i-j)):=Zn fun _ _ _ _ _ _ _ q=>sub_int q
theorem iK:gT X (binaryOp .Mult) (rI PF fun i j=> .int (i*j)):=Rt fun _ _ _ _ _ _ _ hc q=>mul_int q hc.ok
theorem jM:gT X (binaryOp .Mod) (rI (fun _ j=>0<j) fun i j=> .int (i % j)):=Rt fun i j _ _ _ _ _ hc q=>by
 have h1:(0:Int)<j:=hc
 exact mod_int' (by omega) (by rw [Int.fmod_eq_emod_of_nonneg i (by omega)];exact q)
theorem mZ:gT X (binaryOp .Pow) (rI PD fun i j=> .int (i ^ j.toNat)):=Rt fun _ _ _ _ _ _ _ hc q=>pow_int_small hc.1 hc.2.1 hc.2.2 q
theorem unI {f:Value->Sem Value} {g:Int->Int}
  (rule:∀(i:Int) (t:Tok) (s:Shared) (Q:VS) (E:VS),Q (.int (g i) s.toks) { s with toks:=s.toks+1 }->wpAny (model X.prog X.w) X.A (f (.int i t)) Q E s):
  Zl X f (rU fun i=> .int (g i)):=by
 intro pins s σ H x v Q I rx h
 obtain ⟨i,rfl,q⟩:=h
 obtain ⟨t,rfl⟩:=rx
 exact rule i t s _ _ ⟨.int (g i),H,I.tok _,⟨_,Z⟩,q⟩
theorem wI:Zl X (unaryOp .USub) (rU fun i=> .int (-i)):=unI fun _ _ _ _ _ q=>neg_int q
end
def Zo:V->V->Bool
 | .bU, .bU=>true | .bU, .int _=>true | .int _, .bU=>true | .bU, .bl _=>true | .bl _, .bU=>true | .bU, .str _=>true | .str _, .bU=>true
 | .int _, .int _=>true | .bl _, .bl _=>true | .str _, .str _=>true | .wD _, .wD _=>true
 | .int _, .str _=>true | .str _, .int _=>true | .bl _, .str _=>true | .str _, .bl _=>true
 | _,_=>false
inductive Zp (x:V) (y:V) (H:Hp) (Q:VK):Prop
 | mk  (_:Zo x y=true) (_:Q (.bl (decide (x=y))) H)
inductive rNe (x:V) (y:V) (H:Hp) (Q:VK):Prop
 | mk  (_:Zo x y=true) (_:Q (.bl (!decide (x=y))) H)
theorem NP {i j:Int}:decide (V.int i=V.int j)=(i==j):=by
 rw [Am]
 simp
theorem Ru {i j:Bool}:decide (V.bl i=V.bl j)=(i==j):=by
 rw [Am]
 simp
theorem NQ {i j:Str}:decide (V.str i=V.str j)=(i==j):=by
 rw [Am]
 simp
theorem NR {i j:Array UInt8}:decide (V.wD i=V.wD j)=(i.toList==j.toList):=by
 rw [Am]
 cases i
 cases j
 simp
section
variable {X:Cx} {a b c:Expr} {ta tb tc:TE} {pos:Pos}
theorem dh {Q:VK} {k k':Bool} (I:Inv X pins σ H s) (q:Q (.bl k) H) (e:k=k'):EP X pins σ Q (.bool k') s:=by
 subst e
 exact ⟨.bl k,H,I,Z,q⟩
theorem iU:gT X (compareOp .Eq) Zp:=by
 intro pins s σ H x y v u Q I rx ry h
 obtain ⟨hs,q⟩:=h
 cases x with
 | bU=>
   cases rx
   cases y with
   | bU=>cases ry;exact PySem.EqNone.eq_none_none (dh I q (by simp))
   | bl j=>cases ry;exact PySem.EqNone.eq_none_bool (dh I q (by simp))
   | int j=>obtain ⟨t',rfl⟩:=ry;exact PySem.EqNone.eq_none_int (dh I q (by simp))
   | str j=>obtain ⟨t',rfl⟩:=ry;exact PySem.EqNone.eq_none_str (dh I q (by simp))
   | _=>exact absurd (show false=true from hs) fJ
 | bl i=>
   cases rx
   cases y with
   | bU=>cases ry;exact PySem.EqNone.eq_bool_none (dh I q (by simp))
   | bl j=>cases ry;exact eq_bool (dh I q Ru)
   | str j=>obtain ⟨t',rfl⟩:=ry;exact PySem.EqMixed.eq_bool_str (dh I q (by simp))
   | _=>exact absurd (show false=true from hs) fJ
 | int i=>
   obtain ⟨t,rfl⟩:=rx
   cases y with
   | bU=>cases ry;exact PySem.EqNone.eq_int_none (dh I q (by simp))
   | int j=>obtain ⟨t',rfl⟩:=ry;exact eq_int (dh I q NP)
   | str j=>obtain ⟨t',rfl⟩:=ry;exact PySem.EqMixed.eq_int_str (dh I q (by simp))
   | _=>exact absurd (show false=true from hs) fJ
 | str i=>
   obtain ⟨t,rfl⟩:=rx
   cases y with
   | bU=>cases ry;exact PySem.EqNone.eq_str_none (dh I q (by simp))
   | bl j=>cases ry;exact PySem.EqMixed.eq_str_bool (dh I q (by simp))
   | int j=>obtain ⟨t',rfl⟩:=ry;exact PySem.EqMixed.eq_str_int (dh I q (by simp))
   | str j=>obtain ⟨t',rfl⟩:=ry;exact eq_str (dh I q NQ)
   | _=>exact absurd (show false=true from hs) fJ
 | wD i=>
   obtain ⟨t,rfl⟩:=rx
   cases y with
   | wD j=>obtain ⟨t',rfl⟩:=ry;exact PySem.W.eq_bytes (dh I q NR)
   | _=>exact absurd (show false=true from hs) fJ
 | _=>cases y <;> exact absurd (show false=true from hs) fJ
theorem oX:gT X (compareOp .NotEq) rNe:=by
 intro pins s σ H x y v u Q I rx ry h
 obtain ⟨hs,q⟩:=h
 cases x with
 | bU=>
   cases rx
   cases y with
   | bU=>cases ry;exact PySem.EqNone.ne_none_none (dh I q (by simp))
   | bl j=>cases ry;exact PySem.EqNone.ne_none_bool (dh I q (by simp))
   | int j=>obtain ⟨t',rfl⟩:=ry;exact PySem.EqNone.ne_none_int (dh I q (by simp))
   | str j=>obtain ⟨t',rfl⟩:=ry;exact PySem.EqNone.ne_none_str (dh I q (by simp))
   | _=>exact absurd (show false=true from hs) fJ
 | bl i=>
   cases rx
   cases y with
   | bU=>cases ry;exact PySem.EqNone.ne_bool_none (dh I q (by simp))
   | bl j=>cases ry;exact ne_bool (dh I q (h_ not Ru))
   | str j=>obtain ⟨t',rfl⟩:=ry;exact PySem.EqMixed.ne_bool_str (dh I q (by simp))
   | _=>exact absurd (show false=true from hs) fJ
 | int i=>
   obtain ⟨t,rfl⟩:=rx
   cases y with
   | bU=>cases ry;exact PySem.EqNone.ne_int_none (dh I q (by simp))
   | int j=>obtain ⟨t',rfl⟩:=ry;exact ne_int (dh I q (h_ not NP))
   | str j=>obtain ⟨t',rfl⟩:=ry;exact PySem.EqMixed.ne_int_str (dh I q (by simp))
   | _=>exact absurd (show false=true from hs) fJ
 | str i=>
   obtain ⟨t,rfl⟩:=rx
   cases y with
   | bU=>cases ry;exact PySem.EqNone.ne_str_none (dh I q (by simp))
   | bl j=>cases ry;exact PySem.EqMixed.ne_str_bool (dh I q (by simp))
   | int j=>obtain ⟨t',rfl⟩:=ry;exact PySem.EqMixed.ne_str_int (dh I q (by simp))
   | str j=>obtain ⟨t',rfl⟩:=ry;exact ne_str (dh I q (h_ not NQ))
   | _=>exact absurd (show false=true from hs) fJ
 | wD i=>
   obtain ⟨t,rfl⟩:=rx
   cases y with
   | wD j=>obtain ⟨t',rfl⟩:=ry;exact PySem.W.ne_bytes (dh I q (h_ not NR))
   | _=>exact absurd (show false=true from hs) fJ
 | _=>cases y <;> exact absurd (show false=true from hs) fJ
theorem I_:gT X (compareOp .Lt) (Gx fun i j=> .bl (decide (i<j))):=PB fun _ _ _ _ _ _ _ q=>lt_int q
theorem Wh:gT X (compareOp .LtE) (Gx fun i j=> .bl (decide (i<=j))):=PB fun _ _ _ _ _ _ _ q=>le_int q
theorem jE:gT X (compareOp .Gt) (Gx fun i j=> .bl (decide (j<i))):=PB fun _ _ _ _ _ _ _ q=>gt_int q
theorem Dh:gT X (compareOp .GtE) (Gx fun i j=> .bl (decide (j<=i))):=PB fun _ _ _ _ _ _ _ q=>ge_int q
theorem Rv:gT X (compareOp .In) (fun x y H Q=>∃i j,x = .str i/\y = .str j/\Q (.bl (!(Builtin.Str.occurrences j i 0 j.length 1).isEmpty)) H):=by
 intro pins s σ H x y v u Q I rx ry h
 obtain ⟨i,j,rfl,rfl,q⟩:=h
 obtain ⟨t,rfl⟩:=rx
 obtain ⟨t',rfl⟩:=ry
 exact in_str (dh I q rfl)
theorem br (b:Expr) (h:op ≠ .In:=by decide) (h2:op ≠ .NotIn:=by decide):behindInMarks op b=false:=by
 have e1:(op==CmpOp.In)=false:=by cases op <;> first|rfl|exact absurd rfl h
 have e2:(op==CmpOp.NotIn)=false:=by cases op <;> first|rfl|exact absurd rfl h2
 cases b <;> simp [behindInMarks,e1,e2]
inductive Rw (Q:Bool->Hp->Prop) (x:V) (H':Hp):Prop
 | mk  (k:_) (_:x = .bl k) (_:Q k H')
def PJ (t:TE):TT:=fun σ H Q=>t σ H (Rw Q)
inductive Rx (r':R2) (tc:TE) (σ:St) (Q:VK) (y:V) (z:V) (H3:Hp):Prop
 | mk  (k:_) (_:z = .bl k) (_:(if k=true then tc σ H3 fun w' H4=>r' y w' H4 Q else Q (.bl false) H3))
def Ry (r:R2) (r':R2) (tc:TE) (σ:St) (Q:VK) (x:V):V->Hp->Prop:=fun y H2=>r x y H2 (Rx r' tc σ Q y)
def Xp (r:R2) (r':R2) (tb:TE) (tc:TE) (σ:St) (Q:VK):V->Hp->Prop:=fun x H1=>tb σ H1 (Ry r r' tc σ Q x)
def Zq (r r':R2) (ta tb tc:TE):TE:=fun σ H Q=>ta σ H (Xp r r' tb tc σ Q)
theorem wJ:(sizeLine:Nat)<2 ^ 63:=by rw [fm];decide
theorem Di:gT X (binaryOp .Add) (fun x y H Q=>∃i j,x = .str i/\y = .str j/\i.length+j.length<=sizeLine/\Q (.str (i++j)) H):=by
 intro pins s σ H x y v u Q I rx ry h
 obtain ⟨i,j,rfl,rfl,hz,q⟩:=h
 obtain ⟨t,rfl⟩:=rx
 obtain ⟨t',rfl⟩:=ry
 exact add_str (fun t' tk=>⟨.str (i++j),H,I.tok _,⟨_,Z⟩,q⟩) hz
theorem vals1 {x:V} (r:Vals [x] us):∃u,us=[u]/\RelV x u:=by
 cases r with
 | cons r1 r2=>cases r2;exact ⟨_,Z,r1⟩
theorem vals2 {x:V} (r:Vals [x,y] us):∃u w',us=[u,w']/\RelV x u/\RelV y w':=by
 cases r with
 | cons r1 r2=>
   cases r2 with
   | cons r3 r4=>cases r4;exact ⟨_,_,Z,r1,r3⟩
theorem UE:gj X (.builtin "abs") (fun xs H Q=>∃i,xs=[.int i]/\Q (.int (if i<0 then -i else i)) H):=by
 intro pins s σ H xs us Q I r h
 obtain ⟨i,rfl,q⟩:=h
 obtain ⟨u,rfl,t,rfl⟩:=vals1 r
 exact call_abs_int fun u tk=>⟨.int (if i<0 then -i else i),H,I.tok _,⟨_,Z⟩,q⟩
theorem Rz (hc:X.calm=true):gj X (.builtin "max") (fun xs H Q=>∃i j,xs=[.int i, .int j]/\Q (.int (if j>i then j else i)) H):=by
 intro pins s σ H xs us Q I r h
 obtain ⟨i,j,rfl,q⟩:=h
 obtain ⟨u,w',rfl,⟨t,rfl⟩,⟨t',rfl⟩⟩:=vals2 r
 refine max_two_ints (I.ok.hd hc) fun h' tk k=>⟨_,H,I.kept k,?_,q⟩
 by_cases hj:j>i
 . rw [aC hj,aC hj];exact ⟨_,Z⟩
 . rw [aA hj,aA hj];exact ⟨_,Z⟩
theorem Gy (hc:X.calm=true):gj X (.builtin "min") (fun xs H Q=>∃i j,xs=[.int i, .int j]/\Q (.int (if j<i then j else i)) H):=by
 intro pins s σ H xs us Q I r h
 obtain ⟨i,j,rfl,q⟩:=h
 obtain ⟨u,w',rfl,⟨t,rfl⟩,⟨t',rfl⟩⟩:=vals2 r
 refine min_two_ints (I.ok.hd hc) fun h' tk k=>⟨_,H,I.kept k,?_,q⟩
 by_cases hj:j<i
 . rw [aC hj,aC hj];exact ⟨_,Z⟩
 . rw [aA hj,aA hj];exact ⟨_,Z⟩
theorem RA:gj X (.type "int") (fun xs H Q=>(∃i,xs=[.int i]/\Q (.int i) H)\/∃k,xs=[.bl k]/\Q (.int (if k then 1 else 0)) H):=by
 intro pins s σ H xs us Q I r h
 rcases h with ⟨i,rfl,q⟩|⟨k,rfl,q⟩
 . obtain ⟨u,rfl,t,rfl⟩:=vals1 r
   exact call_int_int ⟨.int i,H,I,⟨_,Z⟩,q⟩
 . obtain ⟨u,rfl,r1⟩:=vals1 r
   cases r1
   exact call_int_bool ⟨.int (if k then 1 else 0),H,I.tok _,⟨_,Z⟩,q⟩
end
structure B9 (h:Heap) (x dx C:Addr) (mA:SO):Prop where
 obj:h.get? x=some (PySem.W.instObj C dx)
 ns:h.Ns1 dx mA
 ne:dx≠x
theorem RB {mA:SO} (n:h.Ns1 dx mA):∃od,h.get? dx=some od/\∀name,PySem.W.lookIn name od=some (mA name):=by
 obtain ⟨o,es,ep,ho,hd,hk,_,hm⟩:=n
 refine ⟨o,ho,fun name=>?_⟩
 have e:=hm name
 unfold nsFind findBy at e
 rw [<-Array.find?_toList] at e
 unfold PySem.W.lookIn
 rw [hd]
 dsimp only
 split
 . rename_i y q
   rw [q] at e
   exact h_ some e
 . rename_i q
   rw [q] at e
   have a:es.toList.any (·.refKey)=false:=by
    rw [List.any_eq_false]
    intro y hy
    obtain ⟨z,t,hkey⟩:=hk y (Array.mem_toList_iff.mp hy)
    simp [DictEntry.refKey,hkey]
   have a':¬ es.toList.any (·.refKey)=true:=by rw [a];exact fJ
   rw [aA a']
   exact h_ some e
variable {C:Addr}
theorem B9.look {x dx:Addr} {mA:SO} (I:B9 h x dx C mA):∃od,PySem.W.InstAt h x (PySem.W.instObj C dx) C (some od)/\∀name,PySem.W.lookIn name od=some (mA name):=
 let ⟨od,ho,hl⟩:=RB I.ns
 ⟨od,⟨I.obj,Z,Z,ho⟩,hl⟩
variable {pl:Sem Bool} {R:Result->Shared->Prop} {kw:List (Str×Value)}
section
variable {prog:Program} {w:World} {A:Around} {E:VS} {s:Shared} {K:Fg} {x dx C f:Addr} {mA:SO} {name:Str} {v:Value}
theorem get_map {expr:Bool} {Q:VS} (X:K.In s.heap) (I:B9 s.heap x dx C mA) (hg:PySem.W.plainGet K C name=true) (hh:PySem.W.hasDictIn K C=true)
  (ha:PySem.W.findIn K (.ref C) name=some none) (hv:mA name=some v) (hv':PySem.W.handedIn v=true) (h:Q v { s with toks:=s.toks+1 }):
  wpAny (model prog w) A (getAttr (.ref x) name expr) Q E s:=by
 obtain ⟨od,J,hl⟩:=I.look
 exact PySem.W.get_value X J (PySem.W.plainGet_of hg).1 (PySem.W.findObj_own hh ha rfl (by rw [hl,hv])) hv' h
theorem UG {Q:Value×List Value->Shared->Prop} (X:K.In s.heap) (I:B9 s.heap x dx C mA) (hg:PySem.W.plainGet K C name=true)
  (hf:PySem.W.findIn K (.ref C) name=some (some (.ref f))) (ht:PySem.W.isFn K (.ref f)=true) (hv:mA name=none) (h:Q (.ref f,[.ref x]) s):
  wpAny (model prog w) A (getMethod (.ref x) name pl) Q E s:=by
 obtain ⟨od,J,hl⟩:=I.look
 exact PySem.W.method_fn X J (PySem.W.plainGet_of hg).1 (PySem.W.plainGet_of hg).2 hf (nu.mp ht) (by show (PySem.W.lookIn name od).map (·.isSome)=some false;rw [hl,hv];rfl) h
theorem Xq {ns:List Str} (X:K.In s.heap) (I:B9 s.heap x dx C mA)
  (hs:PySem.W.findIn K (.ref C) "__setattr__"=some (some (.builtin "object.__setattr__"))) (hp:PySem.W.plainOver K C=true) (ht:PySem.W.takerIn K C name=some none) (hh:PySem.W.hasDictIn K C=true)
  (hw:PySem.Within mA ns) (hsz:ns.length<=sizeLine)
  (h:∀h',B9 h' x dx C (fun y=>if y=name then some v else mA y)->Heap.SameBut dx s.heap h'->Q () { s with heap:=h',toks:=s.toks+2 }):
  wpAny (model prog w) A (setAttr (.ref x) name v) Q E s:=by
 obtain ⟨od,J,hl⟩:=I.look
 refine PySem.W.set_plain X J hs (PySem.W.osa_open (s:={ s with toks:=s.toks+1 }) (r:=none) X J hp ht fun b=>?_)
 obtain ⟨cd,hc,hd'⟩:=PySem.W.any_some hh
 have hx:s.heap.get? x=some ⟨.ref C,some dx, .plain,#[]⟩:=I.obj
 refine aq (aJ (aq (aq (wpAny_loadPart hx (aq (PySem.W.Looks.here (s:={ s with toks:=s.toks+1 }) (PySem.W.looks_clsIn X hc) ?_))))))
 rw [hd']
 refine aJ (a:=some dx) (aq (aJ (aq ?_)))
 refine wpAny_nsSet1 (s:={ s with toks:=s.toks+1 }) I.ns fun h' hn2 hs2=>?_
 obtain ⟨oD,esD,epD,hoD,hdD,hcD⟩:=hn2.count (PySem.Within.cons name v hw)
 refine aq (wpAny_lookBehind hoD (by rw [hdD];exact pastItsLine_dict (fQ hcD (by rw [kX];omega))) ?_)
 exact aJ (h _ ⟨(hs2.2 _ (bY I.ne)).trans I.obj,hn2,I.ne⟩ hs2)
theorem UH {vs:List Value} (X:K.In s.heap) (hm:PySem.W.makesIn K C=true)
  (hi:PySem.W.findIn K (.ref C) "__init__"=some (some (.ref f))) (hf:PySem.W.typeIn K (.ref f)=some (.type "function"))
  (h:codeAny (model prog w) (A.under (.builtin "type.__call__" ⟨.ref C::vs,kw⟩)) (.call (.ref f) ⟨.ref (s.heap.objs.size+1)::vs,kw⟩) (PySem.W.InitBack (s.heap.objs.size+1) R)
    { s with heap:=(s.heap.push PySem.W.emptyDict).push (PySem.W.instObj C s.heap.objs.size) }):
  codeAny (model prog w) A (.call (.ref C) ⟨vs,kw⟩) R s:=by
 obtain ⟨hh,g,d,t,os⟩:=s
 exact PySem.W.make_core (PySem.W.makes_of X hm) (PySem.W.looks_findIn X hi) (fun self=>PySem.W.bind_fn X self hf) (.inl rfl) h
end
def aU (f:Str) (v:V):List (Str×V)->List (Str×V)
 | []=>[(f,v)]
 | (g,x)::r=>if g=f then (g,v)::r else (g,x)::aU f v r
theorem Bg (f g:Str) (v:V):∀fs:List (Str×V),(aU f v fs).lookup g=if g=f then some v else fs.lookup g
 | []=>by
   show List.lookup g [(f,v)]=_
   by_cases h:g=f
   . have hb:(g==f)=true:=nu.mpr h
     simp only [List.lookup,hb,aC h]
   . have hb:(g==f)=false:=ET.mpr h
     simp only [List.lookup,hb,aA h]
 | (k,x)::r=>by
   have ih:=Bg f g v r
   rw [show aU f v ((k,x)::r)=(if k=f then (k,v)::r else (k,x)::aU f v r) from rfl]
   by_cases hk:k=f
   . rw [aC hk]
     by_cases h:g=k
     . have hb:(g==k)=true:=nu.mpr h
       simp only [List.lookup,hb,aC (h.trans hk)]
     . have hb:(g==k)=false:=ET.mpr h
       simp only [List.lookup,hb,aA (fun e:g=f=>h (e.trans hk.symm))]
   . rw [aA hk]
     by_cases h:g=k
     . have hb:(g==k)=true:=nu.mpr h
       simp only [List.lookup,hb,aA (fun e:g=f=>hk (h.symm.trans e))]
     . have hb:(g==k)=false:=ET.mpr h
       simp only [List.lookup,hb]
       exact ih
theorem yS (f:Str) (v:V):∀fs:List (Str×V),f∈(aU f v fs).map (·.1)/\∀g,g∈fs.map (·.1)->g∈(aU f v fs).map (·.1)
 | []=>⟨by simp [aU],fun g h=>by simp at h⟩
 | (k,x)::r=>by
   obtain ⟨i1,i2⟩:=yS f v r
   rw [show aU f v ((k,x)::r)=(if k=f then (k,v)::r else (k,x)::aU f v r) from rfl]
   by_cases hk:k=f
   . rw [aC hk]
     subst hk
     exact ⟨by simp,fun g h=>by simpa using h⟩
   . rw [aA hk]
     refine ⟨?_,fun g h=>?_⟩
     . rw [bJ]
       exact cI _ i1
     . rw [bJ] at h ⊢
       rcases c_.mp h with e|e
       . exact c_.mpr (.inl e)
       . exact cI _ (i2 g e)
theorem Bh (f:Str) (v:V):∀fs:List (Str×V),(aU f v fs).length<=fs.length+1
 | []=>by simp [aU]
 | (k,x)::r=>by
   have ih:=Bh f v r
   rw [show aU f v ((k,x)::r)=(if k=f then (k,v)::r else (k,x)::aU f v r) from rfl]
   by_cases hk:k=f
   . rw [aC hk,kX,kX];omega
   . rw [aA hk,kX,kX];omega
theorem mR.some_of {v:V} {o:Option Value} (r:mR (some v) o):∃u,o=some u/\RelV v u:=by
 cases o with
 | none=>exact (show False from r).elim
 | some u=>exact ⟨u,Z,r⟩
theorem mR.none_of {o:Option Value} (r:mR none o):o=none:=by
 cases o with
 | none=>rfl
 | some u=>exact (show False from r).elim
theorem RC {v:V} (r:RelV v u):PySem.W.handedIn u=true:=by
 cases v with
 | bU=>cases (show u=Value.none from r);rfl
 | bl b=>cases (show u=Value.bool b from r);rfl
 | int i=>obtain ⟨t,e⟩:=(show ∃t,u=Value.int i t from r);cases e;rfl
 | str x=>obtain ⟨t,e⟩:=(show ∃t,u=Value.str x t from r);cases e;rfl
 | wD b=>obtain ⟨t,e⟩:=(show ∃t,u=Value.bytes b t from r);cases e;rfl
 | Gr b=>obtain ⟨t,e⟩:=(show ∃t,u=Value.float b t from r);cases e;rfl
 | ref a=>cases (show u=Value.ref a from r);rfl
 | ty n=>cases (show u=Value.type n from r);rfl
section
variable {P:Program} {w:World} {H H':Hp} {h h':Heap} {a C dx:Addr} {fs fs':List (Str×V)}
theorem Aw (hok:gM P w H h) (e:H a=some (.ins C dx fs)):∃mA,B9 h a dx C mA/\(∀f,mR (fs.lookup f) (mA f))/\PySem.Within mA (fs.map (·.1))/\fs.length<=1000/\H dx=some (.own a):=by
 obtain ⟨d,z,ne,ob,mA,n,r,q⟩:=(show dJ P w H h a (.ins C dx fs) from hok a _ e)
 exact ⟨mA,⟨ob,n,ne⟩,r,q,z,d⟩
end
structure oj (K:Fg) (C:Addr):Prop where
 pg:PySem.W.plainGet K C Str.empty=true
 hd:PySem.W.hasDictIn K C=true
 po:PySem.W.plainOver K C=true
 sa:PySem.W.findIn K (.ref C) "__setattr__"=some (some (.builtin "object.__setattr__"))
theorem oj.get (c:oj K C) (f:Str):PySem.W.plainGet K C f=true:=c.pg
def eV (K:Fg) (C:Addr) (f:Str):Prop:=PySem.W.findIn K (.ref C) f=some none
theorem eV.acz {f:Str} (n:eV K C f):PySem.W.takerIn K C f=some none:=by
 unfold PySem.W.takerIn
 rw [show PySem.W.findIn K (.ref C) f=some none from n]
 rfl
structure Meth (K:Fg) (C:Addr) (m:Str) (f:Addr):Prop where
 at_:PySem.W.findIn K (.ref C) m=some (some (.ref f))
 fn:PySem.W.isFn K (.ref f)=true
 kp:PySem.W.keepIn K (.ref f)=true
variable {env:Env}
section
variable {X:Cx} {pins:AO} {σ:St} {H:Hp} {s:Shared} {a C dx:Addr} {fs:List (Str×V)} {f:Str} {v:V} {A:Around} {E:VS}
theorem Dj {b:Bool} {Q:VS} (I:Inv X pins σ H s) (e:H a=some (.ins C dx fs)) (c:oj X.K C) (n:eV X.K C f) (l:fs.lookup f=some v)
  (h:∀u s',Inv X pins σ H s'->RelV v u->Q u s'):wpAny (model X.prog X.w) A (getAttr (.ref a) f b) Q E s:=by
 obtain ⟨mA,O,r,_,_,_⟩:=Aw I.hok e
 obtain ⟨u,hu,ru⟩:=mR.some_of (v:=v) (o:=mA f) (by rw [<-l];exact r f)
 exact get_map I.iJ O (c.get f) c.hd n hu (RC ru) (h u _ (I.tok _) ru)
theorem Dk {m:Str} {g:Addr} {Q:Value×List Value->Shared->Prop} (I:Inv X pins σ H s) (e:H a=some (.ins C dx fs)) (c:oj X.K C) (k:Meth X.K C m g) (l:fs.lookup m=none)
  (h:Q (.ref g,[.ref a]) s):wpAny (model X.prog X.w) A (getMethod (.ref a) m pl) Q E s:=by
 obtain ⟨mA,O,r,_,_,_⟩:=Aw I.hok e
 have hn:mA m=none:=mR.none_of (by rw [<-l];exact r m)
 exact UG I.iJ O (c.get m) k.at_ k.fn hn h
theorem Dl (I:Inv X pins σ H s) (e:H a=some (.ins C dx fs)) (c:oj X.K C) (n:eV X.K C f) (hl:fs.length<1000) (ry:RelV y u)
  (h:∀s',Inv X pins σ (upd H a (.ins C dx (aU f y fs))) s'->Q () s'):wpAny (model X.prog X.w) A (setAttr (.ref a) f u) Q E s:=by
 obtain ⟨mA,O,r,wi,_,ho⟩:=Aw I.hok e
 have hz:(fs.map (·.1)).length<=sizeLine:=by rw [aG,fm];omega
 refine Xq I.iJ O c.sa c.po n.acz c.hd wi hz fun h' O' sb=>h _ ?_
 have hd:∃o,h'.get? dx=some o:=let ⟨o,_,_,e',_⟩:=O'.ns;⟨o,e'⟩
 refine I.write (x:=a) (e:=dx) (by rw [e];exact True.intro) (.inr ho) (fun b q hb z=>(sb.2 b hb).trans z) hd ?_
 refine ⟨by rw [av O.ne];exact ho,?_,O.ne,O'.obj,_,O'.ns,fun g=>?_,fun g hg=>?_⟩
 . have:=Bh f y fs;omega
 . show mR ((aU f y fs).lookup g) (if g=f then some u else mA g)
   rw [Bg]
   by_cases q:g=f
   . rw [aC q,aC q];exact ry
   . rw [aA q,aA q];exact r g
 . by_cases q:g=f
   . rw [q];exact (yS f y fs).1
   . refine (yS f y fs).2 g (wi g fun z=>hg ?_)
     show (if g=f then some u else mA g)=none
     rw [aA q];exact z
theorem Inv.made (I:Inv X pins σ H s):Inv X pins σ (upd (upd H s.heap.objs.size (.own (s.heap.objs.size+1))) (s.heap.objs.size+1) (.ins C s.heap.objs.size []))
  { s with heap:=(s.heap.push PySem.W.emptyDict).push (PySem.W.instObj C s.heap.objs.size) }:=by
 have e1:(s.heap.push PySem.W.emptyDict).get? s.heap.objs.size=some PySem.W.emptyDict:=dW s.heap rfl
 have e2:((s.heap.push PySem.W.emptyDict).push (PySem.W.instObj C s.heap.objs.size)).get? (s.heap.objs.size+1)=some (PySem.W.instObj C s.heap.objs.size):=by
  have:=dW (s.heap.push PySem.W.emptyDict) (o:=PySem.W.instObj C s.heap.objs.size) rfl
  rwa [mC] at this
 have e3:(s.heap.push PySem.W.emptyDict).Ns s.heap.objs.size (fun _=>none):=⟨PySem.W.emptyDict,#[],_,e1,Z,(fun e he=>absurd he (by simp)),fun _=>rfl⟩
 have I1:=I.laid (a:=s.heap.objs.size) (o:= .own (s.heap.objs.size+1)) (h':=s.heap.push PySem.W.emptyDict) (t':=s.toks) (fun b u q=>cg _ q) (aO _) ⟨_,e1⟩
 refine I1.laid (a:=s.heap.objs.size+1) (o:= .ins C s.heap.objs.size []) (t':=s.toks) (fun b u q=>cg _ q) (Nat.le_of_eq (mC _ _)) ?_
 have ne:s.heap.objs.size≠s.heap.objs.size+1:=dM (Nat.lt_succ_self _)
 refine ⟨by rw [av ne,ah],fC _,ne,e2,fun _=>none,(Heap.Ns1.of_empty e3).at fun o q=>cg _ q,fun _=>True.intro,fun y hy=>absurd rfl hy⟩
theorem Xr {prog:Program} {w:World} {f:Str} {s:Shared} {Q:VS} (hb:attributeBase e f env (eval e env)=eval e env)
  (h:wpAny (model prog w) A (eval e env) (fun o s₁=>wpAny (model prog w) A (getAttr o f true) Q E s₁) E s):wpAny (model prog w) A (eval (.Attribute e f pos) env) Q E s:=
 Attribute_any_ h (by rw [arm_eval_Attribute,hb])
end
inductive acA (K:Fg) (f:Str) (Q:VK) (x:V) (H1:Hp):Prop
 | mk  (a C dx fs v:_) (_:x = .ref a) (_:H1 a=some (.ins C dx fs)) (_:oj K C) (_:eV K C f) (_:fs.lookup f=some v) (_:Q v H1)
def Zr (K:Fg) (ta:TE) (f:Str):TE:=fun σ H Q=>ta σ H (acA K f Q)
inductive Xs (K:Fg) (f:Str) (D:Ends) (σ:St) (y:V) (x:V) (H2:Hp):Prop
 | mk  (a C dx fs:_) (_:x = .ref a) (_:H2 a=some (.ins C dx fs)) (_:oj K C) (_:eV K C f) (_:fs.length<1000) (_:D.nx σ (upd H2 a (.ins C dx (aU f y fs))))
def acB (K:Fg) (ta:TE) (f:Str) (D:Ends) (σ:St):V->Hp->Prop:=fun y H1=>ta σ H1 (Xs K f D σ y)
def Zs (K:Fg) (ta tv:TE) (f:Str):TS:=fun D σ H=>tv σ H (acB K ta f D σ)
def PK (X:Cx) (op:Operator) (rd:V->V->Hp->VK->Prop):Prop:=
 ∀(pins:AO) (s:Shared) (σ:St) (H:Hp) (x y:V) (u v:Value) (Q:VK),Inv X pins σ H s->RelV x u->RelV y v->rd x y H Q->wpAny (model X.prog X.w) X.A (inplaceOp op u v) (EP X pins σ Q) X.xe s
inductive PL (f:Str) (D:Ends) (σ:St) (a:Addr) (C:Addr) (z:V) (H3:Hp):Prop
 | mk  (Zt fs':_) (_:H3 a=some (.ins C Zt fs')) (_:fs'.length<1000) (_:D.nx σ (upd H3 a (.ins C Zt (aU f z fs'))))
def PM (rd:V->V->Hp->VK->Prop) (f:Str) (D:Ends) (σ:St) (a:Addr) (C:Addr) (v:V):V->Hp->Prop:=fun y H2=>rd v y H2 (PL f D σ a C)
inductive UI (K:Fg) (tv:TE) (rd:V->V->Hp->VK->Prop) (f:Str) (D:Ends) (σ:St) (x:V) (H1:Hp):Prop
 | mk  (a C dx fs v:_) (_:x = .ref a) (_:H1 a=some (.ins C dx fs)) (_:oj K C) (_:eV K C f) (_:fs.lookup f=some v) (_:tv σ H1 (PM rd f D σ a C v))
def NS (K:Fg) (ta tv:TE) (rd:V->V->Hp->VK->Prop) (f:Str):TS:=fun D σ H=>ta σ H (UI K tv rd f D σ)
variable {rd:V->V->Hp->VK->Prop}
section
variable {X:Cx} {o e value:Expr} {f:Str} {pos pos' tpos:Pos} {ta tv:TE}
theorem Zu (he:PE X e ta) (hb:attributeBase e f X.env (eval e X.env)=eval e X.env):PE X (.Attribute e f pos) (Zr X.K ta f):=by
 intro pins s σ H Q I h
 refine Xr hb (bq (he pins s σ H _ I h) fun u s1 ⟨x,H1,I1,rx,a,C,dx,fs,v,ex,ea,c,n,l,q⟩=>?_)
 subst ex
 obtain rfl:u=Value.ref a:=rx
 exact Dj I1 ea c n l fun u' s2 I2 ru=>⟨v,H1,I2,ru,q⟩
theorem Zv (ha:PE X o ta) (hv:PE X value tv) (hs:swapsWith value (some (.Attribute o f pos')) pos.line X.env=pure false):PS X (.Assign [.Attribute o f pos'] value pos) (Zs X.K ta tv f):=by
 intro pins s σ H D I h
 refine plainObj_wpAny_Assign_Attribute (bq (hv pins s σ H _ I h) fun u s1 ⟨y,H1,I1,ry,q⟩=>bq (ha pins s1 σ H1 _ I1 q) fun ov s2 ⟨x,H2,I2,rx,a,C,dx,fs,ex,ea,c,n,l,q2⟩=>?_) hs
 subst ex
 obtain rfl:ov=Value.ref a:=rx
 exact Dl I2 ea c n l ry fun s3 I3=>⟨σ,_,I3,q2⟩
theorem RD {op:Operator} (ha:PE X o ta) (hv:PE X value tv) (hop:PK X op rd):PS X (.AugAssign (.Attribute o f tpos) op value pos) (NS X.K ta tv rd f):=by
 intro pins s σ H D I h
 refine wpAny_AugAssign_AttributeAny (bq (ha pins s σ H _ I h) fun ov s1 ⟨x,H1,I1,rx,a,C,dx,fs,v,ex,ea,c,n,l,q⟩=>?_)
 subst ex
 obtain rfl:ov=Value.ref a:=rx
 refine Dj I1 ea c n l fun u s2 I2 ru=>bq (hv pins s2 σ H1 _ I2 q) fun w3 s3 ⟨y,H2,I3,ry,q3⟩=>bq (hop pins s3 σ H2 v y u w3 _ I3 ru ry q3) fun w4 s4 ⟨z,H3,I4,rz,Zt,fs',ea',l',q4⟩=>?_
 exact Dl I4 ea' c n l' rz fun s5 I5=>⟨σ,_,I5,q4⟩
inductive af7 (x:V) (y:V) (H:Hp) (Q:VK):Prop
 | mk  (i j:_) (_:x = .int i) (_:y = .int j) (_:Q (.int (i-j)) H)
theorem Zw:PK X .Sub af7:=by
 rintro pins s σ H x y u v Q I rx ry ⟨i,j,rfl,rfl,q⟩
 obtain ⟨t,rfl⟩:=(show ∃t,u=Value.int i t from rx)
 obtain ⟨t',rfl⟩:=(show ∃t',v=Value.int j t' from ry)
 exact PyProof.Rows.isub_int ⟨.int (i-j),H,I.tok _,⟨_,Z⟩,q⟩
end
section
variable {X:Cx} {pins:AO} {σ:St} {H:Hp} {s:Shared} {A:Around} {E:VS} {Q:VS} {c:Value} {b:Bool}
inductive gx (K:Fg) (H:Hp):V->Value->Prop where
 | bU:gx K H .bU (.type "NoneType")
 | bl (x:Bool):gx K H (.bl x) (.type "bool")
 | int (i:Int):gx K H (.int i) (.type "int")
 | str (x:Str):gx K H (.str x) (.type "str")
 | Gr (x:UInt64):gx K H (.Gr x) (.type "float")
 | lst {a:Addr} {xs:List V} (e:H a=some (.lst xs)):gx K H (.ref a) (.type "list")
 | fk {a:Addr} {o:Obj} {xs:List V} (e:H a=some (.fk o (.lst xs))):gx K H (.ref a) (.type "list")
 | tup {a:Addr} {xs:List V} (e:H a=some (.tup xs)):gx K H (.ref a) (.type "tuple")
 | dK {a:Addr} {kvs:List (Key×V)} (e:H a=some (.dK kvs)):gx K H (.ref a) (.type "dict")
 | dT {a:Addr} {kvs:List (List Key×V)} (e:H a=some (.dT kvs)):gx K H (.ref a) (.type "dict")
 | ins {a C dx:Addr} {fs:List (Str×V)} (e:H a=some (.ins C dx fs)) (cl:oj K C) (ha:PySem.W.findIn K (.ref C) "__class__"=some (some (.builtin "object.__class__")))
    (hn:PySem.W.specialIn K (.builtin "object.__class__") "__get__"=some (some (.builtin "getset_descriptor.__get__"))) (htk:PySem.W.takesIn K (.builtin "object.__class__")=some true)
    (hm:PySem.W.mroIn K C (.type "object")=some true):gx K H (.ref a) (.ref C)
theorem RE {x:V} {t:Value} (I:Inv X pins σ H s) (rx:RelV x u) (ty:gx X.K H x t) (e:PySem.W.kitOne X.K t c=some b) (h:∀tk,Q (.bool b) { s with toks:=tk }):
  wpAny (model X.prog X.w) A (call (.builtin "isinstance") [u,c]) Q E s:=by
 cases ty with
 | bU=>cases (show u=Value.none from rx);exact oR PySem.W.kitx_none I.iJ True.intro e (fun z=>nomatch z) h
 | bl y=>cases (show u=Value.bool y from rx);exact oR PySem.W.kitx_bool I.iJ True.intro e (fun z=>nomatch z) h
 | int i=>obtain ⟨t,q⟩:=(show ∃t,u=Value.int i t from rx);cases q;exact oR PySem.W.kitx_int I.iJ True.intro e (fun z=>nomatch z) h
 | str y=>obtain ⟨t,q⟩:=(show ∃t,u=Value.str y t from rx);cases q;exact oR PySem.W.kitx_str I.iJ True.intro e (fun z=>nomatch z) h
 | Gr y=>obtain ⟨t,q⟩:=(show ∃t,u=Value.float y t from rx);cases q;exact oR PySem.W.kitx_float I.iJ True.intro e (fun z=>nomatch z) h
 | @lst a xs ea=>
   cases (show u=Value.ref a from rx)
   obtain ⟨_,_,n,_,h1⟩:=(show dJ X.prog X.w H s.heap a (.lst xs) from I.hok a _ ea)
   exact oR PySem.W.kitx_list I.iJ ⟨_,h1,Z⟩ e (fun z=>nomatch z) h
 | @fk a ob xs ea=>
   cases (show u=Value.ref a from rx)
   obtain ⟨_,_,_,n,_,h1⟩:=(show dJ X.prog X.w H s.heap a (.fk ob (.lst xs)) from I.hok a _ ea)
   exact oR PySem.W.kitx_list I.iJ ⟨_,h1,Z⟩ e (fun z=>nomatch z) h
 | @tup a xs ea=>
   cases (show u=Value.ref a from rx)
   obtain ⟨_,_,_,p⟩:=(show dJ X.prog X.w H s.heap a (.tup xs) from I.hok a _ ea)
   obtain ⟨o,h1,h2,_⟩:=p
   exact oR PySem.W.kitx_tuple I.iJ ⟨o,h1,h2⟩ e (fun z=>nomatch z) h
 | @dK a kvs ea=>
   cases (show u=Value.ref a from rx)
   obtain ⟨_,_,vs,_,p⟩:=(show dJ X.prog X.w H s.heap a (.dK kvs) from I.hok a _ ea)
   obtain ⟨o,es,ep,h1,h2,_⟩:=p
   exact oR PySem.W.kitx_dict I.iJ ⟨o,h1,h2.1⟩ e (fun z=>nomatch z) h
 | @dT a kvs ea=>
   cases (show u=Value.ref a from rx)
   obtain ⟨_,_,xs,_,o,es,ep,h1,h2,_⟩:=(show dJ X.prog X.w H s.heap a (.dT kvs) from I.hok a _ ea)
   exact oR PySem.W.kitx_dict I.iJ ⟨o,h1,h2.1⟩ e (fun z=>nomatch z) h
 | @ins a C dx fs ea cl ha hn htk hm=>
   cases (show u=Value.ref a from rx)
   obtain ⟨mA,O,_⟩:=Aw I.hok ea
   obtain ⟨od,J,_⟩:=O.look
   exact oR (PySem.W.kitx_own (cl.get _) cl.hd ha hn htk hm) I.iJ J e (fun z=>nomatch z) h
end
structure dB (k:Nat) (A:Around):Prop where
 hd:A.handled=none
 dp:A.depth+3*k+5<recursionLimit
 un:A.units+16*k+200<cLine
theorem dB.mono {k:Nat} (r:dB k A) (h:j<=k):dB j A:=⟨r.hd,by have:=r.dp;omega,by have:=r.un;omega⟩
theorem dB.deeper {k:Nat} (r:dB (k+1) A) (env:Env):dB k (A.deeper env):=
 ⟨r.hd,by have:=r.dp;show A.depth+1+3*k+5<_;omega,by have:=r.un;show A.units+3+16*k+200<_;omega⟩
theorem PN:(A.under (.builtin "type.__call__" ⟨.ref C::us,kw⟩)).depth=A.depth+1:=by
 first|rfl|simp [Around.under,Code.weight,Code.isCreation,Code.isGuard,Code.isCaller,Code.frames,Code.isFrame,guardIds]
theorem PR:(A.under (.builtin "type.__call__" ⟨.ref C::us,kw⟩)).units=A.units+1:=by
 first|rfl|simp [Around.under,Code.cUnits,Code.frames,Code.isFrame]
theorem dB.make {k:Nat} (r:dB (k+1) A) (C:Addr) (us:List Value) (kw:List (Str×Value)):dB k (A.under (.builtin "type.__call__" ⟨.ref C::us,kw⟩)):=
 ⟨r.hd,by have:=r.dp;rw [PN];omega,by have:=r.un;rw [PR];omega⟩
theorem dB.depth {k:Nat} (r:dB k A):A.depth<recursionLimit:=by have:=r.dp;omega
theorem dB.units {k:Nat} (r:dB k A):A.units+64<cLine:=by have:=r.un;omega
def oY:TA:=fun _ H Q=>Q [] H
def UJ (Q:List V->Hp->Prop) (x:V):List V->Hp->Prop:=fun xs H2=>Q (x::xs) H2
def Zx (tr:TA) (σ:St) (Q:List V->Hp->Prop):V->Hp->Prop:=fun x H1=>tr σ H1 (UJ Q x)
def jF (ta:TE) (tr:TA):TA:=fun σ H Q=>ta σ H (Zx tr σ Q)
section
variable {X:Cx} {e:Expr} {es:List Expr} {te:TE} {t:TA} {pos:Pos}
theorem RG:PA X [] oY:=fun _ _ _ _ H Q I h=>Calls.spliced_nil ⟨[],H,I, .nil,h⟩
theorem NT (ha:PE X e te) (hr:PA X es t) (hs:starEach (e::es) X.env=(false,eval e X.env)::starEach es X.env:=by rfl):PA X (e::es) (jF te t):=by
 intro pos pins s σ H Q I h
 rw [hs]
 show wpAny _ _ (spliced ((false,eval e X.env)::backTo pos (starEach es X.env))) _ _ s
 refine Calls.spliced_cons (bq (ha pins s σ H _ I h) fun u s1 ⟨x,H1,I1,r1,q1⟩=>?_)
 exact bq (hr pos pins s1 σ H1 _ I1 q1) fun us s2 ⟨xs,H2,I2,r2,q2⟩=>⟨x::xs,H2,I2, .cons r1 r2,q2⟩
inductive acC (Q:VK) (xs:List V) (H1:Hp):Prop
 | mk  (_:xs.length<=sizeLine) (_:∀p,H1 p=none->Q (.ref p) (upd H1 p (.tup xs)))
def af8 (t:TA):TE:=fun σ H Q=>t σ H (acC Q)
inductive acD (Q:VK) (xs:List V) (H1:Hp):Prop
 | mk  (_:xs.length<=sizeLine) (_:∀p,H1 p=none->Q (.ref p) (upd H1 p (.lst xs)))
def PU (t:TA):TE:=fun σ H Q=>t σ H (acD Q)
end
abbrev Sp:=List V->Hp->VK->XK->Prop
abbrev wK:=List Env->Hp->Shared->XK->Value->Shared->Prop
structure B_ (P:Program) (w:World) (K:Fg) (mg:SO) (base:Heap) (A:Around) (outer:List Env) (s:Shared) (H:Hp):Prop where
 frames:A.frames=some outer
 mod:Mod K mg base
 bs:∀b o,base.get? b=some o->s.heap.get? b=some o/\H b=none
 C8:base.objs.size<=s.heap.objs.size
 nO:s.heap.FunFrames base outer
 Gu:∀b∈frs outer,H b=none
 hok:gM P w H s.heap
 bare:AllBare s.gens
def CE (outer:List Env) (P:Program) (w:World) (H:Hp) (s:Shared) (Q:VK) (u:Value) (s':Shared):Prop:=
 ∃v H',s'.os=s.os/\AllBare s'.gens/\Un (frs outer) [] H H' s.heap s'.heap/\gM P w H' s'.heap/\RelV v u/\Q v H'
def CR (CX:wK) (outer:List Env) (P:Program) (w:World) (H:Hp) (s:Shared) (Q:VK) (E:XK) (r:Result) (s':Shared):Prop:=
 match r with
 | .ok (.ret u)=>CE outer P w H s Q u s'
 | .ok _=>False
 | .error e=>CX outer H s E e s'
structure iZ (P:Program) (w:World) (K:Fg) (mg:SO) (base:Heap) (CX:wK) (k:Nat) (f:Addr) (fd:FuncData) (ps:List Str) (sp:Sp):Prop where
 len:∀vs H Q E,sp vs H Q E->vs.length=ps.length
 run:∀(A:Around) (outer:List Env) (s:Shared) (H:Hp) (args:Args) (us:List Value) (vs:List V) (Q:VK) (E:XK),dB k A->B_ P w K mg base A outer s H->BindsTo s fd args (ps.zip us)->Vals vs us->sp vs H Q E->
  codeAny (model P w) A (.call (.ref f) args) (CR CX outer P w H s Q E) s
variable {mg:SO} {base:Heap}
theorem B_.make {w:World} {outer:List Env} (e:B_ P w K mg base A outer s H) (C:Addr) (us:List Value) (kw:List (Str×Value)):
  B_ P w K mg base (A.under (.builtin "type.__call__" ⟨.ref C::us,kw⟩)) outer s H:=⟨by first|exact e.frames|(simpa [Around.under,Code.envs,Code.isFrame,pushEnvs] using e.frames),e.mod,e.bs,e.C8,e.nO,e.Gu,e.hok,e.bare⟩
section
variable {X:Cx} {pins:AO} {σ:St} {H:Hp} {s s':Shared}
theorem Inv.UK (I:Inv X pins σ H s):B_ X.prog X.w X.K X.mg X.base X.A X.stack s H:=
 ⟨I.ok.frames,I.ok.mod,I.bs,fQ I.ok.C8 I.sz,I.stack,I.wF,I.hok,I.bare⟩
theorem Inv.after {Q:VK} (I:Inv X pins σ H s) (h:CE X.stack X.prog X.w H s Q u s'):EP X pins σ Q u s':=by
 obtain ⟨v,H',os,bare,un,hok,r,q⟩:=h
 obtain ⟨hh,g,d,t,os'⟩:=s'
 obtain rfl:os'=s.os:=os
 exact ⟨v,H',I.call (h':=hh) (g':=g) (d':=d) (t':=t) (ch:=[]) un hok bare (fun b z=>absurd z (by simp)),r,q⟩
end
def Zy (sp:Sp) (iL:List V) (E:XK) (Q:VK):List V->Hp->Prop:=fun vs H1=>sp (vs++iL) H1 Q E
def PV (sp:Sp) (iL:List V) (E:XK) (t:TA):TE:=fun σ H Q=>t σ H (Zy sp iL E Q)
def UL (sp:Sp) (iL:List V) (E:XK) (Q:VK) (x:V):List V->Hp->Prop:=fun vs H2=>sp (x::(vs++iL)) H2 Q E
inductive Zz (C:Addr) (m:Str) (sp:Sp) (iL:List V) (E:XK) (t:TA) (σ:St) (Q:VK) (x:V) (H1:Hp):Prop
 | mk  (a dx fs:_) (_:x = .ref a) (_:H1 a=some (.ins C dx fs)) (_:fs.lookup m=none) (_:t σ H1 (UL sp iL E Q x))
def Dm (C:Addr) (m:Str) (sp:Sp) (iL:List V) (E:XK) (ta:TE) (t:TA):TE:=fun σ H Q=>ta σ H (Zz C m sp iL E t σ Q)
def ZA (C:Addr) (sp:Sp) (iL:List V) (E:XK) (Q:VK):List V->Hp->Prop:=fun vs H1=>∀x dx,H1 x=none->H1 dx=none->dx≠x->sp (.ref x::(vs++iL)) (upd (upd H1 dx (.own x)) x (.ins C dx [])) (fun v H2=>v = .bU/\Q (.ref x) H2) E
def Jb (C:Addr) (sp:Sp) (iL:List V) (E:XK) (t:TA):TE:=fun σ H Q=>t σ H (ZA C sp iL E Q)
def Binds (K:Fg) (fd:FuncData) (ps:List Str) (ds:List Value):Prop:=
 ∀(s:Shared) (us:List Value),K.In s.heap->(us++ds).length=ps.length->BindsTo s fd ⟨us,[]⟩ (ps.zip (us++ds))
variable {fd:FuncData} {ps:List Str}
theorem Binds.all (h:∀us:List Value,us.length=ps.length->bindArgs fd ⟨us,[]⟩=pure (ps.zip us)):Binds K fd ps [] :=fun s us _ hl=>by
 rw [tE] at hl ⊢
 exact .of_eq (h us hl)
def Passes (CX:wK) (X:Cx) (E:XK):Prop:=∀(pins:AO) (σ:St) (H:Hp) (s:Shared) (e:Value) (s':Shared),Inv X pins σ H s->CX X.stack H s E e s'->X.xe e s'
variable {vs:List V}
section
variable {X:Cx} {CX:wK} {k:Nat} {f C:Addr} {fd:FuncData} {ps:List Str} {sp:Sp} {iL:List V} {ds:List Value} {E:XK} {x m:Str} {p pos apos:Pos} {e o:Expr} {es:List Expr} {ta:TE} {t:TA}
theorem Jx {Q:VK} (F:iZ X.prog X.w X.K X.mg X.base CX k f fd ps sp) (hr:dB k X.A) (hb:Binds X.K fd ps ds) (hd:Vals iL ds) (hx:Passes CX X E)
  (I:Inv X pins σ H s) (r:Vals vs us) (h:sp (vs++iL) H Q E):wpAny (model X.prog X.w) X.A (call (.ref f) us) (EP X pins σ Q) X.xe s:=by
 have r2:Vals (vs++iL) (us++ds):=r.append hd
 have hl:(us++ds).length=ps.length:=by rw [<-r2.length];exact F.len _ _ _ _ h
 refine wpAny_call (Ar (F.run X.A X.stack s H ⟨us,[]⟩ (us++ds) (vs++iL) Q E hr I.UK (hb s us I.iJ hl) r2 h) fun r s' hq=>?_)
 cases r with
 | error e=>exact hx pins σ H s e s' I hq
 | ok fl=>
   cases fl with
   | ret u=>exact I.after hq
   | next=>exact False.elim hq
   | brk=>exact False.elim hq
   | cont=>exact False.elim hq
theorem NU (F:iZ X.prog X.w X.K X.mg X.base CX k f fd ps sp) (hr:dB k X.A) (hg:Gl X x) (hm:X.mg x=some (.ref f)) (hk:PySem.W.keepIn X.K (.ref f)=true) (hb:Binds X.K fd ps ds) (hd:Vals iL ds) (hx:Passes CX X E)
  (ha:PA X (e::es) t) (hdb:(x==("__debug__":Str))=false:=by decide) (he:starEach (e::es) X.env=(false,eval e X.env)::starEach es X.env:=by rfl) (hpl:(backTo pos (starEach es X.env)).any (·.1)=false:=by rfl):
  PE X (.Call (.Name x p) (e::es) [] pos) (PV sp iL E t):=by
 intro pins s σ H Q I h
 refine EX (qj I hg hm ?_ hdb)
 refine Ph (h₀:=X.base) I.ok.mod.NL hk (bq (ha pos pins s σ H _ I h) fun us s1 ⟨vs,H1,I1,r,q⟩=>⟨I1.iJ,?_⟩) he hpl
 exact Jx F hr hb hd hx I1 r q
theorem NV (he:PE X o ta) (c:oj X.K C) (hm:Meth X.K C m f) (F:iZ X.prog X.w X.K X.mg X.base CX k f fd ps sp) (hr:dB k X.A) (hb:Binds X.K fd ps ds) (hd:Vals iL ds) (hx:Passes CX X E) (ha:PA X (e::es) t)
  (hst:starEach (e::es) X.env=(false,eval e X.env)::starEach es X.env:=by rfl) (hpl:(backTo pos (starEach es X.env)).any (·.1)=false:=by rfl)
  (ht:eval (.Call (.Attribute o m apos) (e::es) [] pos) X.env=(do
    let ov <-eval o X.env
    standAt apos.atName
    let (f,first) <-holding [ov] (getMethod ov m pl)
    callWith pos f first (backTo pos (starEach (e::es) X.env)) (backToKw pos (keywordEach [] X.env))):=by rfl):
  PE X (.Call (.Attribute o m apos) (e::es) [] pos) (Dm C m sp iL E ta t):=by
 intro pins s σ H Q I h
 refine PySem.W.methodCall_KW (pl:=pl) (bq (he pins s σ H _ I h) fun u s1 ⟨x,H1,I1,rx,a,dx,fs,ex,ea,l,q⟩=>?_) ht
 subst ex
 obtain rfl:u=Value.ref a:=rx
 refine Dk I1 ea c hm l ?_
 refine Ph (first:=[.ref a]) (h₀:=X.base) I.ok.mod.NL hm.kp (bq (ha pos pins s1 σ H1 _ I1 q) fun us s2 ⟨vs,H2,I2,r,q2⟩=>⟨I2.iJ,?_⟩) hst hpl
 exact Jx (us:= .ref a::us) (vs:= .ref a::vs) F hr hb hd hx I2 (.cons rfl r) q2
theorem UM (he:PE X o ta) (c:oj X.K C) (hm:Meth X.K C m f) (F:iZ X.prog X.w X.K X.mg X.base CX k f fd ps sp) (hr:dB k X.A) (hb:Binds X.K fd ps ds) (hd:Vals iL ds) (hx:Passes CX X E)
  (ht:eval (.Call (.Attribute o m apos) [] [] pos) X.env=(do
    let ov <-eval o X.env
    standAt apos.atName
    let (f,first) <-holding [ov] (getMethod ov m pl)
    callWith pos f first (backTo pos (starEach [] X.env)) (backToKw pos (keywordEach [] X.env))):=by rfl):
  PE X (.Call (.Attribute o m apos) [] [] pos) (Dm C m sp iL E ta oY):=by
 intro pins s σ H Q I h
 refine PySem.W.methodCall_KW (pl:=pl) (bq (he pins s σ H _ I h) fun u s1 ⟨x,H1,I1,rx,a,dx,fs,ex,ea,l,q⟩=>?_) ht
 subst ex
 obtain rfl:u=Value.ref a:=rx
 refine Dk I1 ea c hm l ?_
 exact PySem.W.callWith_K0 (first:=[.ref a]) I1.iJ hm.kp (Jx (us:=[.ref a]) (vs:=[.ref a]) F hr hb hd hx I1 (.cons rfl .nil) q)
structure Mk (K:Fg) (C f:Addr):Prop where
 makes:PySem.W.makesIn K C=true
 init:PySem.W.findIn K (.ref C) "__init__"=some (some (.ref f))
 fn:PySem.W.isFn K (.ref f)=true
 kp:PySem.W.keepIn K (.ref C)=true
theorem Jy {Q:VK} (M:Mk X.K C f) (F:iZ X.prog X.w X.K X.mg X.base CX k f fd ps sp) (hr:dB (k+1) X.A) (hb:Binds X.K fd ps ds) (hd:Vals iL ds)
  (hx:Passes CX X E) (I:Inv X pins σ H s) (r:Vals vs us)
  (h:∀x dx,H x=none->H dx=none->dx≠x->sp (.ref x::(vs++iL)) (upd (upd H dx (.own x)) x (.ins C dx [])) (fun v H2=>v = .bU/\Q (.ref x) H2) E):
  wpAny (model X.prog X.w) X.A (call (.ref C) us) (EP X pins σ Q) X.xe s:=by
 have hq:=h (s.heap.objs.size+1) s.heap.objs.size (I.hok.fresh (Nat.le_succ _)) (I.hok.fresh (aO _)) (dM (Nat.lt_succ_self _))
 have I2:=Inv.made (C:=C) I
 have r2:Vals (V.ref (s.heap.objs.size+1)::(vs++iL)) (Value.ref (s.heap.objs.size+1)::(us++ds)):= .cons rfl (r.append hd)
 have hl:(Value.ref (s.heap.objs.size+1)::us++ds).length=ps.length:=by
  have e:=r2.length
  rw [F.len _ _ _ _ hq] at e
  exact e.symm
 refine wpAny_call (UH (f:=f) I.iJ M.makes M.init (nu.mp M.fn) (Ar (F.run _ X.stack _ _ ⟨Value.ref (s.heap.objs.size+1)::us,[]⟩ (Value.ref (s.heap.objs.size+1)::(us++ds)) _ _ E (hr.make C us [])
  (I2.UK.make C us []) (hb _ (Value.ref (s.heap.objs.size+1)::us) I2.iJ hl) r2 hq) fun r s' hq'=>?_))
 cases r with
 | error e=>exact hx pins σ _ _ e s' I2 hq'
 | ok fl=>
   cases fl with
   | ret u=>
     obtain ⟨v,H',I3,rv,ev,q3⟩:=I2.after hq'
     subst ev
     exact ⟨rv,⟨V.ref (s.heap.objs.size+1),H',I3,Z,q3⟩⟩
   | next=>exact False.elim hq'
   | brk=>exact False.elim hq'
   | cont=>exact False.elim hq'
theorem Xu (M:Mk X.K C f) (F:iZ X.prog X.w X.K X.mg X.base CX k f fd ps sp) (hr:dB (k+1) X.A) (hg:Gl X x) (hm:X.mg x=some (.ref C)) (hb:Binds X.K fd ps ds) (hd:Vals iL ds) (hx:Passes CX X E)
  (ha:PA X (e::es) t) (hdb:(x==("__debug__":Str))=false:=by decide) (he:starEach (e::es) X.env=(false,eval e X.env)::starEach es X.env:=by rfl) (hpl:(backTo pos (starEach es X.env)).any (·.1)=false:=by rfl):
  PE X (.Call (.Name x p) (e::es) [] pos) (Jb C sp iL E t):=by
 intro pins s σ H Q I h
 refine EX (qj I hg hm ?_ hdb)
 refine Ph (h₀:=X.base) I.ok.mod.NL M.kp (bq (ha pos pins s σ H _ I h) fun us s1 ⟨vs,H1,I1,r,q⟩=>⟨I1.iJ,?_⟩) he hpl
 exact Jy M F hr hb hd hx I1 r q
theorem UN (M:Mk X.K C f) (F:iZ X.prog X.w X.K X.mg X.base CX k f fd ps sp) (hr:dB (k+1) X.A) (hg:Gl X x) (hm:X.mg x=some (.ref C)) (hb:Binds X.K fd ps ds) (hd:Vals iL ds) (hx:Passes CX X E)
  (hdb:(x==("__debug__":Str))=false:=by decide):PE X (.Call (.Name x p) [] [] pos) (Jb C sp iL E oY):=by
 intro pins s σ H Q I h
 refine EX (qj I hg hm ?_ hdb)
 exact PySem.W.callWith_K0 I.iJ M.kp (Jy (us:=[]) M F hr hb hd hx I .nil h)
end
section
variable {X:Cx} {CX:wK} {k:Nat} {f C:Addr} {fd:FuncData} {ps ks:List Str} {sp:Sp} {E:XK} {x m:Str} {p pos apos kpos:Pos} {e o:Expr} {es:List Expr} {kws:List Keyword} {te ta:TE} {t tk:TA} {nm:Option Str}
variable {g:List Value->List Value->List Value} {gV:List V->List V->List V}
end
structure aI (N P:List Str) (sc:Scope):Prop where
 kind:sc.kind = .function
 co:sc.isCoroutine=false
 gen:sc.isGenerator=false
 nd:N.Nodup
 pre:N.take P.length=P
 par:∀x∈P,sc.names.lookup x=some .local\/sc.names.lookup x=some .cell
 ZC:∀y∈sc.names,y.2 ≠ .free
theorem Gz {kindOf:Str->Option NameKind} {x:Str}:∀{binds:List (Str×Value)} {m:SO},(∀v,(x,v)∉binds)->bindL kindOf binds m x=m x
 | [],_,_=>rfl
 | (n,v)::r,m,h=>by
   unfold bindL
   rw [Gz fun w hw=>h w (cI _ hw)]
   split
   . have:x≠n:=by rintro rfl;exact h v cO
     simp [this]
   . rfl
theorem GA {kindOf:Str->Option NameKind} {x:Str}:∀{binds:List (Str×Value)} {m:SO},(∀v,(x,v)∉binds)->bindC kindOf binds m x=m x
 | [],_,_=>rfl
 | (n,v)::r,m,h=>by
   unfold bindC
   rw [GA fun w hw=>h w (cI _ hw)]
   split
   . rfl
   . have:x≠n:=by rintro rfl;exact h v cO
     simp [this]
theorem GB {kindOf:Str->Option NameKind} {x:Str} {v:Value}:∀{P:List Str} {vs:List Value} {i:Nat} {m:SO},P.Nodup->P[i]?=some x->vs[i]?=some v->kindOf x=some .local->
  bindL kindOf (P.zip vs) m x=some v
 | [],_,_,_,_,h,_,_=>by simp at h
 | _::_,[],_,_,_,_,h,_=>by simp at h
 | p::P,w::vs,0,m,nd,h1,h2,hk=>by
   simp at h1 h2;subst h1;subst h2
   show bindL kindOf ((p,w)::P.zip vs) m p=_
   unfold bindL
   rw [Gz fun v hv=>(iQ.mp nd).1 (List.of_mem_zip hv).1,aC hk]
   simp
 | p::P,w::vs,i+1,m,nd,h1,h2,hk=>by
   show bindL kindOf ((p,w)::P.zip vs) m x=_
   unfold bindL
   exact GB (i:=i) (iQ.mp nd).2 (by simpa using h1) (by simpa using h2) hk
theorem GC {kindOf:Str->Option NameKind} {x:Str} {v:Value}:∀{P:List Str} {vs:List Value} {i:Nat} {m:SO},P.Nodup->P[i]?=some x->vs[i]?=some v->kindOf x≠some .local->
  bindC kindOf (P.zip vs) m x=some v
 | [],_,_,_,_,h,_,_=>by simp at h
 | _::_,[],_,_,_,_,h,_=>by simp at h
 | p::P,w::vs,0,m,nd,h1,h2,hk=>by
   simp at h1 h2;subst h1;subst h2
   show bindC kindOf ((p,w)::P.zip vs) m p=_
   unfold bindC
   rw [GA fun v hv=>(iQ.mp nd).1 (List.of_mem_zip hv).1,aA hk]
   simp
 | p::P,w::vs,i+1,m,nd,h1,h2,hk=>by
   show bindC kindOf ((p,w)::P.zip vs) m x=_
   unfold bindC
   exact GC (i:=i) (iQ.mp nd).2 (by simpa using h1) (by simpa using h2) hk
def start (N:List Str) (vs:List V):St:=vs.map some++List.replicate (N.length-vs.length) none
def cL (CX:wK) (P:Program) (w:World) (K:Fg) (mg:SO) (base:Heap) (N:List Str) (qual:Str) (scope:Scope) (f:Addr) (cd:Value) (A:Around) (outer:List Env) (s:Shared) (H:Hp) (E:XK):Cx where
 prog:=P
 w:=w
 K:=K
 mg:=mg
 base:=base
 A:=A.deeper (envOfC qual scope s.heap.objs.size f cd)
 N:=N
 s₀:=s
 H₀:=H
 env:=envOfC qual scope s.heap.objs.size f cd
 outer:=outer
 stack:=envOfC qual scope s.heap.objs.size f cd::outer
 ex:=[]
 calm:=true
 fn:=fun _=>true
 pn:=[]
 xe:=fun e s'=>wpAny (model P w) (A.deeper (envOfC qual scope s.heap.objs.size f cd)) (leaving (envOfC qual scope s.heap.objs.size f cd) e) (fun _ s''=>CX outer H s E e s'') (fun e' s''=>CX outer H s E e' s'') s'
theorem Jz {sc:Scope} (h:sc.names.lookup x=some .cell):∃c,(cellsFrom n sc.names []).lookup x=some c:=by
 have q:=PySem.W.cellsFrom_some sc.names n [] (.inl h)
 exact Option.isSome_iff_exists.mp q
variable {qual:Str} {scope:Scope} {f:Addr}
theorem RH {CX:wK} {w:World} {cd:Value} {outer:List Env} {s1:Shared} {E:XK}
  (S:aI N ps scope) (hd:A.handled=none) (e0:B_ P w K mg base A outer s H) (hl:vs.length=ps.length) (r:Vals vs us)
  (x:InCallC s s.heap.objs.size (bindL (envOfC qual scope s.heap.objs.size f cd).kindOf (ps.zip us) fun _=>none) (cellsFrom (s.heap.objs.size+1) scope.names []) (bindC (envOfC qual scope s.heap.objs.size f cd).kindOf (ps.zip us) fun _=>none) s1):
  Inv (cL CX P w K mg base N qual scope f cd A outer s H E) [] (start N vs) H s1:=by
 have hpl:ps.length<=N.length:=by have:=h_ List.length S.pre;rw [kY] at this;omega
 obtain ⟨h1,tk,rfl,hk⟩:=x.done
 have RI:∀b:Addr,b∉(cL CX P w K mg base N qual scope f cd A outer s H E).ex:=fun b z=>absurd (show b∈([] :List Addr) from z) (by simp)
 refine ⟨⟨e0.mod,S.kind,Z,Z,aO _,fun y z c h1 h2=>?_,fun y hy=>?_,fun y c _ h=>?_,fun _=>hd,Around.frames_deeper e0.frames, .inr ⟨Z,Z⟩,fun b z=>absurd z (RI b),e0.bs,e0.C8,fun b _ _=>RI b,fun b z=>absurd z (RI b),e0.nO,e0.Gu⟩,
  rfl,e0.bare,Un.kept hk,⟨_,x.toInCall.ns,fun i y v h1 h2 h3=>?_⟩,fun y c h=>⟨_,x.cell y c h⟩,e0.hok.fresh (aO _),fun y c h=>?_,fun p hp=>absurd (show p∈([] :AO) from hp) (by simp),e0.hok.kept hk,?_⟩
 . exact name_of_addr x.apart (xD h1) (xD h2)
 . have hy:scope.names.lookup y=some .cell\/scope.names.lookup y=some .free:=hy
   rcases hy with hy|hy
   . exact Jz hy
   . exact absurd rfl (S.ZC _ (xD hy))
 . exact C5 (x.above y c (xD h))
 . have hi:i<vs.length:=by
    unfold start at h2
    by_cases hi:i<vs.length
    . exact hi
    . rw [Jg (by simpa using hi)] at h2
      rw [O9] at h2
      split at h2 <;> cases h2
   have ha:vs[i]?=some v:=by
    unfold start at h2
    rw [Jh (by simpa using hi),bK] at h2
    cases e:vs[i]? with
    | none=>rw [e] at h2;cases h2
    | some a=>rw [e] at h2;cases h2;rfl
   obtain ⟨u,hu,rv⟩:=r.get ha
   have hp:ps[i]?=some y:=by
    rw [<-S.pre,List.getElem?_take_of_lt (by omega)];exact h1
   have ndP:ps.Nodup:=by rw [<-S.pre];exact S.nd.sublist (List.take_sublist _ _)
   refine ⟨u,rv,?_⟩
   rcases S.par y (bV hp) with k|k
   . exact .inl ⟨k,GB ndP hp hu k⟩
   . obtain ⟨c,e⟩:=Jz (n:=s.heap.objs.size+1) k
     refine .inr ⟨.inl k,c,e,?_⟩
     have q:=x.cell y c e
     rw [GC ndP hp hu (by show scope.names.lookup y≠_;rw [k];decide)] at q
     exact q
 . exact e0.hok.fresh (C5 (x.above y c (xD h)))
 . unfold start
   show _=N.length
   rw [dg,aG,jz]
   omega
variable {body:List Stmt} {doc pm cdv ct oc:Value} {an od:Option Addr}
theorem PY {CX:wK} {w:World} {k:Nat} {name:Str} {params:Arguments} {dV kV:Value}
  {osl:Array (Option Value)} {N ps:List Str} {sp:Sp} (lk:K.lookup f=some ⟨oc,od, .func (PySem.W.fnOf name qual params body scope dV kV doc pm an cdv ct),osl⟩) (hcd:PySem.W.codeIn K cdv qual=true) (S:aI N ps scope)
  (len:∀vs H Q E,sp vs H Q E->vs.length=ps.length)
  (hbody:∀(A:Around) (outer:List Env) (s:Shared) (H:Hp) (vs:List V) (Q:VK) (E:XK),dB k (A.deeper (envOfC qual scope s.heap.objs.size f cdv))->sp vs H Q E->
    ∃t,qe (cL CX P w K mg base N qual scope f cdv A outer s H E) body t/\t { nx:=fun _ H'=>Q .bU H',rt:=Q } (start N vs) H):
  iZ P w K mg base CX (k+1) f (PySem.W.fnOf name qual params body scope dV kV doc pm an cdv ct) ps sp:=by
 refine ⟨len,fun A outer s H args us vs Q E hr e0 hb r oZ=>?_⟩
 have hl:=len _ _ _ _ oZ
 have KX:K.In s.heap:=e0.mod.NL.keeps fun b o e=>(e0.bs b o e).1
 have lim:s.heap.NoLimit:=e0.mod.nolimit.keeps fun b o e=>(e0.bs b o e).1
 have hkind:∀y∈ps.zip us,scope.names.lookup y.1=some .local\/(scope.names.lookup y.1=some .cell/\((cellsFrom (s.heap.objs.size+1) scope.names []).lookup y.1).isSome=true):=fun ⟨n,v⟩ hy=>by
  rcases S.par n (List.of_mem_zip hy).1 with q|q
  . exact .inl q
  . exact .inr ⟨q,PySem.W.cellsFrom_some _ _ _ (.inl q)⟩
 refine codeAny_call_function hr.depth (KX _ _ lk) rfl S.co S.gen rfl (PySem.W.codeRec_of KX hcd) (hb _ _ _ _ ?_)
 refine wpAny_newFunctionEnv_cells S.kind hkind fun env he s1 x=>?_
 subst he
 refine ⟨lim.keeps x.toInCall.keep,codeAny_func ?_⟩
 obtain ⟨t,ht,hq⟩:=hbody A outer s H vs Q E (hr.deeper _) oZ
 have I:Inv (cL CX P w K mg base N qual scope f cdv A outer s H E) [] (start N vs) H s1:=RH S hr.hd e0 hl r x
 refine gP (ht [] s1 (start N vs) H _ I hq) (fun fl s' hs=>?_) fun e s' hs=>hs
 have fin:∀{σ':St} {H':Hp} {v:V} {u:Value},Inv (cL CX P w K mg base N qual scope f cdv A outer s H E) [] σ' H' s'->RelV v u->Q v H'->CE outer P w H s Q u s':=
  fun {σ' H' v u} J rv q=>⟨v,H',J.os,J.bare,J.base,J.hok,rv,q⟩
 cases fl with
 | ret u=>
   obtain ⟨v,σ',H',J,rv,q⟩:=hs
   exact fin J rv q
 | next=>
   obtain ⟨σ',H',J,q⟩:=hs
   exact fin (v:=V.bU) (u:=Value.none) J rfl q
 | brk=>
   obtain ⟨_,_,_,q⟩:=hs
   exact False.elim q
 | cont=>
   obtain ⟨_,_,_,q⟩:=hs
   exact False.elim q
section
variable {X:Cx} {x:Str} {p pos:Pos} {e:Expr} {es:List Expr} {t:TA} {id T:String} {r:List V->Hp->VK->Prop}
def af9 (r:List V->Hp->VK->Prop) (Q:VK):List V->Hp->Prop:=fun vs H1=>r vs H1 Q
def Wi (r:List V->Hp->VK->Prop) (t:TA):TE:=fun σ H Q=>t σ H (af9 r Q)
end
end L2
namespace HT
open PySem PyProof.Rows
section
open PySem.SeqAt
open PySem.AutoSeq1 (wpAny_loadPart')
open PySem.MeetsSeq PySem.MeetsSeq2 PySem.MeetsSeq3
end
section
variable {prog:Program} {w:World} {A:Around} {E:VS} {s:Shared}
theorem Xv {t b:Addr} {vs ws:List Value} {Q:VS} (ht:IsTup s.heap t vs.toArray) (hb:IsTup s.heap b ws.toArray) (hv:vs≠[])
  (h1:ws=[]->Q (.ref t) s) (h2:ws≠[]->Q (.ref s.heap.objs.size) { s with heap:=s.heap.push { cls:= .type "tuple",data:= .seq (vs++ws).toArray } })
  (hsz:vs.length+ws.length<=sizeLine):wpAny (model prog w) A (binaryOp .Add (.ref t) (.ref b)) Q E s:=by
 obtain ⟨⟨cls,dd,data,sl⟩,ho,hc,n,hd⟩:=id ht
 obtain ⟨⟨af_,dd2,data2,sl2⟩,ho2,hc2,n2,hd2⟩:=id hb
 simp only at hc hd hc2 hd2
 subst hc hd hc2 hd2
 have e:vs.toArray++ws.toArray=(vs++ws).toArray:=by simp
 by_cases hw:ws=[]
 . exact concat_meets ⟨_,ho,Z⟩ ⟨_,ho2,Z⟩ noFill_tuple_add seq_tuple_add PySem.F.slot_tuple_add PySem.F.entry_tuple_add (PySem.F.args_tuple_add_2 _ _)
    (tuple_addW1 t b vs.toArray ws.toArray n n2 dd dd2 sl sl2 (by simpa using hv) (by simp [hw])) ⟨ho,ho2,h1 hw⟩
 . refine concat_meets ⟨_,ho,Z⟩ ⟨_,ho2,Z⟩ noFill_tuple_add seq_tuple_add PySem.F.slot_tuple_add PySem.F.entry_tuple_add (PySem.F.args_tuple_add_2 _ _)
    (tuple_addW2 t b vs.toArray ws.toArray n n2 dd dd2 sl sl2 (by simpa using hv) (by simpa using hw) (by rw [ie,ie];exact hsz)) ⟨ho,ho2,?_⟩
   rw [e]
   exact h2 hw
def dG (n d:Nat):Option Int->Nat
 | none=>d
 | some v=>if v<0 then (v+(n:Int)).toNat else min v.toNat n
theorem Ca (n d:Nat):dG n d none=d:=rfl
theorem wL (n d k:Nat):dG n d (some (k:Int))=min k n:=by
 show (if (k:Int)<0 then ((k:Int)+(n:Int)).toNat else min (k:Int).toNat n)=min k n
 rw [aA (by omega),rN]
theorem RJ (n d:Nat) (hd:d<=n) (o:Option Int):dG n d o<=n:=by
 cases o with
 | none=>exact hd
 | some v=>
   show (if v<0 then (v+(n:Int)).toNat else min v.toNat n)<=n
   by_cases hv:v<0
   . rw [aC hv];omega
   . rw [aA hv];exact Nat.min_le_right _ _
theorem NW (v:Int) (n d:Nat):(if v<0 then max (v+(n:Int)) 0 else min v (n:Int))=((dG n d (some v):Nat):Int):=by
 show (if v<0 then max (v+(n:Int)) 0 else min v (n:Int))=(((if v<0 then (v+(n:Int)).toNat else min v.toNat n):Nat):Int)
 by_cases hv:v<0
 . simp only [aC hv];omega
 . simp only [aA hv];omega
theorem PZ (lo hi:Option Int) (n:Nat):Builtin.Slice.sliceAdjust lo hi 1 (n:Int)=(((dG n 0 lo:Nat):Int),((dG n n hi:Nat):Int)):=by
 have h1:¬ ((1:Int)<0):=by omega
 unfold Builtin.Slice.sliceAdjust
 simp only [h1,lE]
 refine Prod.ext ?_ ?_
 . cases lo with
   | none=>rfl
   | some v=>exact NW v n 0
 . cases hi with
   | none=>rfl
   | some v=>exact NW v n n
theorem P0 (i j:Nat):Builtin.Slice.slicePlaces (i:Int) (j:Int) 1=j-i:=by
 unfold Builtin.Slice.slicePlaces
 have h1:(1:Int)>0:=by omega
 simp only [h1,qP,As]
 split <;> omega
theorem Dp {v:Value} {o:Option Int} {Q:Option Int->Shared->Prop} (p:IsPart v o) (h:Q o s):wpAny (model prog w) A (Builtin.Slice.slicePartIndex v) Q E s:=by
 cases p with
 | none=>exact slicePart_none h
 | int i t=>exact slicePart_int h
theorem Cb {sl:Addr} {vl vu:Value} {lo hi:Option Int} {n:Nat} {Q:Int×Int×Nat->Shared->Prop} (hs:s.heap.IsSliceOf sl vl vu .none) (pl:IsPart vl lo) (pu:IsPart vu hi)
  (h:Q (((dG n 0 lo:Nat):Int),1,dG n n hi-dG n 0 lo) s):wpAny (model prog w) A (Builtin.Slice.sliceApplied (.ref sl) (pure (n:Int))) Q E s:=by
 obtain ⟨os,hos,hcs,hds⟩:=id hs
 unfold Builtin.Slice.sliceApplied Builtin.Slice.sliceFields
 refine aq (aq (ki hos hds (x:=vl) rfl (aq (ki hos hds (x:=vu) rfl (aq (ki hos hds (x:= .none) rfl (aJ ?_)))))))
 refine aq (slicePart_none ?_)
 show wpAny _ _ (if ((1:Int)==0)=true then _ else _) _ _ s
 rw [aA (by decide)]
 refine aq (Dp pl (aq (Dp pu (aq (aJ ?_)))))
 show wpAny _ _ (match Builtin.Slice.sliceAdjust lo hi 1 (n:Int) with|(lo,hi)=>pure (lo,(1:Int),Builtin.Slice.slicePlaces lo hi 1)) _ _ s
 rw [PZ lo hi n]
 show wpAny _ _ (pure (((dG n 0 lo:Nat):Int),(1:Int),Builtin.Slice.slicePlaces ((dG n 0 lo:Nat):Int) ((dG n n hi:Nat):Int) 1)) _ _ s
 rw [P0]
 exact aJ h
theorem UO (xs:Array Value) (i k:Nat):((List.range k).filterMap fun (m:Nat)=>xs[((i:Int)+(m:Int)*1).toNat]?).toArray=((xs.toList.drop i).take k).toArray:=by
 have e:(fun (m:Nat)=>xs[((i:Int)+(m:Int)*1).toNat]?)=fun m=>xs[i+m]?:=by
  funext m
  have:((i:Int)+(m:Int)*1).toNat=i+m:=by omega
  rw [this]
 rw [e]
 have:=pick_run xs i k
 rw [List.filterMap_map] at this
 have e2:((fun x=>xs[x]?) ∘ fun x=>i+x)=fun m=>xs[i+m]?:=rfl
 rw [e2] at this
 rw [this]
theorem AS {t sl:Addr} {items:Array Value} {vl vu:Value} {lo hi:Option Int} {Q:VS} (ht:IsTup s.heap t items) (hs:s.heap.IsSliceOf sl vl vu .none) (pl:IsPart vl lo) (pu:IsPart vu hi)
  (hw:¬ (dG items.size 0 lo=0/\dG items.size items.size hi=items.size))
  (h:Q (.ref s.heap.objs.size) { s with heap:=s.heap.push { cls:= .type "tuple",data:= .seq ((items.toList.drop (dG items.size 0 lo)).take (dG items.size items.size hi-dG items.size 0 lo)).toArray } })
  (hsz:items.size<=sizeLine):wpAny (model prog w) A (getItem (.ref t) (.ref sl)) Q E s:=by
 have Jc:sizeOk (.seq ((items.toList.drop (dG items.size 0 lo)).take (dG items.size items.size hi-dG items.size 0 lo)).toArray):=by
  show ((items.toList.drop (dG items.size 0 lo)).take (dG items.size items.size hi-dG items.size 0 lo)).toArray.size<=sizeLine
  rw [ie,kY,Jq,Array.length_toList]
  omega
 have hj:dG items.size items.size hi<=items.size:=RJ _ _ (aO _) hi
 obtain ⟨os,hos,hcs,hds⟩:=id hs
 have hTs:s.TypeIs (.ref sl) "slice":=⟨os,hos,hcs⟩
 unfold getItem
 try with_reducible refine xK ?_
 first|refine aq (aJ ?_)|skip
 refine aq (wpAny_sequenceKey ht.typeIs (by decide) ?_)
 refine aq (xB (name:=Str.ofString "__getitem__") ht.typeIs PyProof.Rows.slot_tuple_getitem
  (tD PyProof.Rows.slot_tuple_getitem ht.typeIs entry_tuple_getitem ?_ (args_tuple_getitem _ _)))
 show wpAny _ _ (Builtin.Tuple.tupleItemsOf (.ref t) >>= _) _ _ s
 refine aq (tupleItemsOf_ ht ?_)
 refine aq (wpAny_typeOf hTs ?_)
 rw [aC (by decide)]
 refine aq (Cb hs pl pu ?_)
 have hno:¬ ((((dG items.size 0 lo:Nat):Int)==0 && (1:Int)==1 && (dG items.size items.size hi-dG items.size 0 lo)==items.size)=true):=by
  intro q
  rw [Ak,Ak] at q
  have q1:((dG items.size 0 lo:Nat):Int)=0:=eq_of_beq q.1.1
  have q2:dG items.size items.size hi-dG items.size 0 lo=items.size:=eq_of_beq q.2
  exact hw ⟨by omega,by omega⟩
 show wpAny _ _ (if (((dG items.size 0 lo:Nat):Int)==0 && (1:Int)==1 && (dG items.size items.size hi-dG items.size 0 lo)==items.size)=true then _ else _) _ _ s
 rw [aA hno,UO]
 first
  | exact aq (m:=Builtin.Tuple.tupleExact _) (qi (aJ ⟨_,Z,aJ h⟩) Jc)
  | exact aq (m:=Builtin.Tuple.tupleExact _) (qi (aq (aJ (aJ ⟨_,Z,aJ h⟩))) Jc)
  | exact aq (aq (m:=Builtin.Tuple.tupleExact _) (qi (aJ (aJ ⟨_,Z,aJ h⟩)) Jc))
  | exact aq (aq (m:=Builtin.Tuple.tupleExact _) (qi (aJ ⟨_,Z,aJ h⟩) Jc))
end
end HT
namespace L2
open PySem PySem.Spec PyProof.Rows
abbrev TO:=St->Hp->(Option Int->Hp->Prop)->Prop
def PO (X:Cx) (e:Option Expr) (t:TO):Prop:=
 ∀(pins:AO) (s:Shared) (σ:St) (H:Hp) (Q:Option Int->Hp->Prop),Inv X pins σ H s->t σ H Q->
  wpAny (model X.prog X.w) X.A (evalPart e X.env) (fun u s'=>∃o H',Inv X pins σ H' s'/\IsPart u o/\Q o H') X.xe s
def Xw:TO:=fun _ H Q=>Q none H
inductive ZD (Q:Option Int->Hp->Prop) (x:V) (H1:Hp):Prop
 | mk  (i:_) (_:x = .int i) (_:Q (some i:_) H1)
def acE (t:TE):TO:=fun σ H Q=>t σ H (ZD Q)
variable {ns:List Int}
theorem intsAre_of:∀{us:List Value},Vals (ns.map V.int) us->IntsAre us ns:=by
 induction ns with
 | nil=>intro us r;rw [List.map_nil] at r;cases r;exact .nil
 | cons n ns ih=>
   intro us r
   rw [bJ] at r
   cases r with
   | cons r1 r2=>
     obtain ⟨t,e⟩:=r1
     subst e
     exact .cons n t (ih r2)
variable {xs:List V} {us:List Value}
section
variable {X:Cx} {e:Expr} {te:TE} {lo hi:Option Expr} {tl th:TO} {pos p2:Pos}
def RK (X:Cx) (r:V->Option Int->Option Int->Hp->VK->Prop):Prop:=
 ∀(pins:AO) (s:Shared) (σ:St) (H:Hp) (x:V) (v vl vu:Value) (lo hi:Option Int) (sl:Addr) (Q:VK),Inv X pins σ H s->RelV x v->s.heap.IsSliceOf sl vl vu .none->IsPart vl lo->IsPart vu hi->r x lo hi H Q->
  ∃T id,typeLookup (.type T) "__getitem__"=pure (some (.builtin id))/\s.TypeIs v T/\wpAny (model X.prog X.w) X.A (getItem v (.ref sl)) (EP X pins σ Q) X.xe s
def ZE (r:V->Option Int->Option Int->Hp->VK->Prop) (Q:VK) (x:V) (l:Option Int):Option Int->Hp->Prop:=fun u H3=>r x l u H3 Q
def ZF (r:V->Option Int->Option Int->Hp->VK->Prop) (th:TO) (σ:St) (Q:VK) (x:V):Option Int->Hp->Prop:=fun l H2=>th σ H2 (ZE r Q x l)
def aga (r:V->Option Int->Option Int->Hp->VK->Prop) (tl:TO) (th:TO) (σ:St) (Q:VK):V->Hp->Prop:=fun x H1=>tl σ H1 (ZF r th σ Q x)
def tSl (r:V->Option Int->Option Int->Hp->VK->Prop) (te:TE) (tl th:TO):TE:=fun σ H Q=>te σ H (aga r tl th σ Q)
def vQ (xs:List V) (lo hi:Option Int):List V:=(xs.drop (HT.dG xs.length 0 lo)).take (HT.dG xs.length xs.length hi-HT.dG xs.length 0 lo)
theorem Mt (xs:List V) (lo hi:Option Int):(vQ xs lo hi).length<=xs.length:=by
 unfold vQ
 rw [kY,Jq]
 omega
inductive ZG (K:Fg) (x:V) (lo:Option Int) (hi:Option Int) (H:Hp) (Q:VK):Prop
 | mk  (a xs:_) (_:x = .ref a) (_:cT K H a xs) (_:¬ (HT.dG xs.length 0 lo=0/\HT.dG xs.length xs.length hi=xs.length)) (_:∀p,H p=none->Q (.ref p) (upd H p (.tup (vQ xs lo hi))))
theorem ZH:RK X (ZG X.K):=by
 intro pins s σ H x v vl vu lo hi sl Q I rx hs pl pu h
 obtain ⟨a,xs,rfl,hx,hw,q⟩:=h
 cases rx
 obtain ⟨its,r,ht,hz⟩:=I.tuple hx
 have hlen:its.toArray.size=xs.length:=by rw [ie];exact r.length.symm
 refine ⟨"tuple",_,PyProof.Rows.slot_tuple_getitem.lookup,ht.typeIs,?_⟩
 refine HT.AS ht hs pl pu (by rw [hlen];exact hw) ?_ (by rw [hlen];exact hz)
 rw [hlen]
 refine ⟨.ref s.heap.objs.size,_,I.laid (t':=s.toks) (o:= .tup (vQ xs lo hi)) (fun b ob q=>cg _ q) (aO _) ?_,Z,q _ (I.hok.fresh (aO _))⟩
 exact ⟨fQ (Mt xs lo hi) hz,_,(r.drop (HT.dG xs.length 0 lo)).take (HT.dG xs.length xs.length hi-HT.dG xs.length 0 lo),IsTup.new _ _⟩
inductive acF (K:Fg) (x:V) (y:V) (H:Hp) (Q:VK):Prop
 | mk  (a b xs ys:_) (_:x = .ref a) (_:y = .ref b) (_:cT K H a xs) (_:cT K H b ys) (_:xs≠[]) (_:xs.length+ys.length<=sizeLine) (_:(ys=[]->Q (.ref a) H)) (_:(ys≠[]->∀p,H p=none->Q (.ref p) (upd H p (.tup (xs++ys)))))
theorem Vals.Ax (r:Vals xs us):us=[]↔xs=[] :=by
 cases r with
 | nil=>simp
 | cons _ _=>simp
theorem Xx:gT X (binaryOp .Add) (acF X.K):=by
 intro pins s σ H x y v u Q I rx ry h
 obtain ⟨a,b,xs,ys,rfl,rfl,ha,hb,hx,hz,q1,q2⟩:=h
 cases rx
 cases ry
 obtain ⟨its,r1,p1,_⟩:=I.tuple ha
 obtain ⟨its2,r2,p2,_⟩:=I.tuple hb
 refine HT.Xv p1 p2 (fun z=>hx (r1.Ax.mp z)) (fun z=>⟨.ref a,H,I,Z,q1 (r2.Ax.mp z)⟩) (fun z=>?_) (by rw [<-r1.length,<-r2.length];exact hz)
 refine ⟨.ref s.heap.objs.size,_,I.laid (t':=s.toks) (o:= .tup (xs++ys)) (fun b ob q=>cg _ q) (aO _) ?_,Z,q2 (fun w=>z (r2.Ax.mpr w)) _ (I.hok.fresh (aO _))⟩
 exact ⟨by rw [dg];exact hz,_,r1.append r2,IsTup.new _ _⟩
end
def Bj (n:Nat) (i:Int):Option Nat:=if 0<=i then (if i<n then some i.toNat else none) else if -(n:Int)<=i then some (i+n).toNat else none
def rG {α:Type} (xs:List α) (i:Int):Option α:=(Bj xs.length i).bind fun j=>xs[j]?
variable {n j:Nat}
theorem NX {i:Int} (h:Bj n i=some j):seqIndex? i n=some j/\j<n/\-(n:Int)<=i/\i<n:=by
 unfold Bj at h
 by_cases h0:0<=i
 . rw [aC h0] at h
   by_cases h1:i<n
   . rw [aC h1] at h
     have e:i.toNat=j:=iy h
     exact ⟨by rw [seqIndex_of h0 h1,e],by omega,by omega,h1⟩
   . rw [aA h1] at h;cases h
 . rw [aA h0] at h
   by_cases h1:-(n:Int)<=i
   . rw [aC h1] at h
     have e:(i+n).toNat=j:=iy h
     exact ⟨by rw [seqIndex_neg (by omega) h1,e],by omega,h1,by omega⟩
   . rw [aA h1] at h;cases h
theorem E4 {α:Type} {xs:List α} {i:Int} {v:α} (h:rG xs i=some v):∃j,seqIndex? i xs.length=some j/\xs[j]?=some v/\j<xs.length/\-(xs.length:Int)<=i/\i<xs.length:=by
 unfold rG at h
 cases e:Bj xs.length i with
 | none=>rw [e] at h;cases h
 | some j=>
   rw [e] at h
   obtain ⟨h1,h2,h3,h4⟩:=NX e
   exact ⟨j,h1,h,h2,h3,h4⟩
theorem bg {α:Type} {xs:List α} {v:α} (h:xs[j]?=some v):rG xs (j:Int)=some v:=by
 have hj:j<xs.length:=(eU.mp h).1
 have e:Bj xs.length (j:Int)=some j:=by
  unfold Bj
  rw [aC (by omega),aC (by omega)];simp
 unfold rG;rw [e];exact h
def Xy (b:Expr):Prop:=∀o i,subscripted b false o i=operate [o,i] (getItem o i)
def yx (X:Cx) (r:R2):Prop:=
 ∀(value slice:Expr) (pins:AO) (s:Shared) (σ:St) (H:Hp) (x y:V) (v u:Value) (Q:VK),Inv X pins σ H s->RelV x v->RelV y u->r x y H Q->
  subscripted slice false v u=operate [v,u] (getItem v u)->wpAny (model X.prog X.w) X.A (subscriptTail value slice v u) (EP X pins σ Q) X.xe s
def MtR (X:Cx) (id:String) (r:V->List V->Hp->VK->Prop):Prop:=
 ∀(pins:AO) (s:Shared) (σ:St) (H:Hp) (x:V) (xs:List V) (v:Value) (us:List Value) (Q:VK),Inv X pins σ H s->RelV x v->Vals xs us->r x xs H Q->
  wpAny (model X.prog X.w) X.A (call (.builtin id) (v::us)) (EP X pins σ Q) X.xe s
variable {pins:AO} {σ:St} {H:Hp} {s:Shared} {ys:List V} {its its':List Value} {A:Around} {y:V} {u:Value}
section
variable {X:Cx} {a b:Expr} {ta tb:TE} {pos:Pos}
theorem yx.or {r r':R2} (h:yx X r) (h':yx X r'):yx X (fun x y H Q=>r x y H Q\/r' x y H Q):=by
 intro value slice pins s σ H x y v u Q I rx ry q hs
 rcases q with q|q
 . exact h value slice pins s σ H x y v u Q I rx ry q hs
 . exact h' value slice pins s σ H x y v u Q I rx ry q hs
inductive UP (K:Fg) (x:V) (y:V) (H:Hp) (Q:VK):Prop
 | mk  (p xs i v:_) (_:x = .ref p) (_:y = .int i) (_:aB K H p xs) (_:rG xs i=some v) (_:Q v H)
inductive P_ (K:Fg) (x:V) (y:V) (H:Hp) (Q:VK):Prop
 | mk  (p xs i v:_) (_:x = .ref p) (_:y = .int i) (_:cT K H p xs) (_:rG xs i=some v) (_:Q v H)
inductive ZI (x:V) (y:V) (H:Hp) (Q:VK):Prop
 | mk  (z i c:_) (_:x = .str z) (_:y = .int i) (_:z.length<=sizeLine) (_:rG z.cps.toList i=some c) (_:Q (.str ⟨#[c]⟩) H)
theorem NY:yx X (UP X.K):=by
 intro value slice pins s σ H x y v u Q I rx ry h hs
 obtain ⟨p,xs,i,z,rfl,rfl,hq,he,q⟩:=h
 cases rx
 obtain ⟨t,rfl⟩:=ry
 obtain ⟨its,r,pl,hz⟩:=I.list hq
 obtain ⟨j,h1,h2,h3,h4,h5⟩:=E4 he
 obtain ⟨w,ew,rw'⟩:=r.get h2
 have hl:=r.length
 have hn:=wJ
 have fin:EP X pins σ Q w s:=⟨z,H,I,rw',q⟩
 by_cases h0:0<=i
 . have hj:i.toNat=j:=by
    rw [seqIndex_of h0 h5] at h1
    exact iy h1
   exact item_listR pl.isList h0 (by omega) (by rw [hj];simpa using ew) fin hs
 . have hj:(i+(its.toArray.size:Int)).toNat=j:=by
    rw [seqIndex_neg (by omega) h4] at h1
    rw [ie,<-hl]
    exact iy h1
   exact subscriptTail_builtinR (x:=w) pl.isList.typeIs slot_list_getitem.lookup
    (wpAny_getItem_list_neg (Q:=fun r s'=>r=w/\EP X pins σ Q r s') pl.isList (by omega) (by rw [ie] <;> omega) (by omega) (by rw [hj];simpa using ew) ⟨Z,fin⟩) hs
theorem RL:yx X (P_ X.K):=by
 intro value slice pins s σ H x y v u Q I rx ry h hs
 obtain ⟨p,xs,i,z,rfl,rfl,hq,he,q⟩:=h
 cases rx
 obtain ⟨t,rfl⟩:=ry
 obtain ⟨its,r,pl,hz⟩:=I.tuple hq
 obtain ⟨j,h1,h2,h3,h4,h5⟩:=E4 he
 obtain ⟨w,ew,rw'⟩:=r.get h2
 have hl:=r.length
 have hn:=wJ
 have fin:EP X pins σ Q w s:=⟨z,H,I,rw',q⟩
 exact subscriptTail_builtinR (x:=w) pl.typeIs slot_tuple_getitem.lookup
  (getItem_tuple (j:=j) (Q:=fun r s'=>r=w/\EP X pins σ Q r s') pl (by omega) (by omega) (by rw [ie,<-hl];exact h1) (by simpa using ew) ⟨Z,fin⟩) hs
theorem RM:yx X ZI:=by
 intro value slice pins s σ H x y v u Q I rx ry h hs
 obtain ⟨z,i,c,rfl,rfl,hz,he,q⟩:=h
 obtain ⟨t,rfl⟩:=rx
 obtain ⟨t',rfl⟩:=ry
 obtain ⟨j,h1,h2,h3,h4,h5⟩:=E4 he
 have hl:z.cps.toList.length=z.length:=by simp [Str.length]
 rw [hl] at h1 h4 h5
 have hn:=wJ
 exact tail_any (typeIs_str s z t) slot_str_getitem.lookup (getItem_str (c:=c) (by
  have e1:decide (i < -(2 ^ 63:Int))=false:=d7 (by omega)
  have e2:decide (i≥2 ^ 63)=false:=d7 (by omega)
  rw [e1,e2,Bool.or_false]) (by rw [h1];simpa using h2) ⟨.str ⟨#[c]⟩,H,I.tok _,⟨_,Z⟩,q⟩) hs
def ZJ (K:Fg):R2:=fun x y H Q=>UP K x y H Q\/P_ K x y H Q\/ZI x y H Q
theorem ZK:yx X (ZJ X.K):=NY.or (RL.or RM)
theorem Qa (its:List Value) (n j:Nat) (u:Value):Obj.mapSeq (·.setIfInBounds j u) { cls:= .type "list",data:= .seq its.toArray n }={ cls:= .type "list",data:= .seq (its.set j u).toArray n }:=by
 simp [Obj.mapSeq]
theorem Inv.lst {pins:AO} {σ:St} {H:Hp} {s:Shared} {p:Addr} {xs:List V} (I:Inv X pins σ H s) (h:H p=some (.lst xs)):
  ∃(its:List Value) (n:Nat),Vals xs its/\s.heap.get? p=some { cls:= .type "list",data:= .seq its.toArray n }/\xs.length<=sizeLine:=by
 obtain ⟨z,its,n,r,e⟩:=I.hok p _ h
 exact ⟨its,n,r,e,z⟩
theorem Inv.ZL {p:Addr} {n':Nat} {f:Obj->Obj} (I:Inv X pins σ H s) (h:H p=some (.lst xs))
  (ho:s.heap.get? p=some { cls:= .type "list",data:= .seq its.toArray n }) (hf:f { cls:= .type "list",data:= .seq its.toArray n }={ cls:= .type "list",data:= .seq its'.toArray n' }) (r:Vals ys its') (hz:ys.length<=sizeLine) (t:Nat):
  Inv X pins σ (upd H p (.lst ys)) { s with heap:=s.heap.update p f,toks:=t }:=by
 have e:(s.heap.update p f).get? p=some { cls:= .type "list",data:= .seq its'.toArray n' }:=by
  rw [BY f ho (by rw [hf] <;> rfl),hf]
 refine I.write (x:=p) (e:=p) (by rw [h];trivial) (.inl rfl) (fun b u hb q=>(Jk _ _ (bY hb)).trans q) ⟨_,e⟩ ?_
 exact ⟨hz,its',n',r,e⟩
inductive acG (o:V) (i:V) (v:V) (H:Hp) (Q:Hp->Prop):Prop
 | mk  (p xs k j:_) (_:o = .ref p) (_:i = .int k) (_:H p=some (.lst xs)) (_:Bj xs.length k=some j) (_:Q (upd H p (.lst (xs.set j v))))
theorem set_list:Ze X acG:=by
 intro pins s σ H o i v ov iv u Q I ro ri rv h
 obtain ⟨p,xs,k,j,rfl,rfl,hp,hj,q⟩:=h
 cases ro
 obtain ⟨t,rfl⟩:=ri
 obtain ⟨its,n,r,ho,hz⟩:=I.lst hp
 obtain ⟨h1,h2,h3,h4⟩:=NX hj
 have hl:=r.length
 have hn:=wJ
 have I':Inv X pins σ (upd H p (.lst (xs.set j v))) { s with heap:=s.heap.update p (Obj.mapSeq (·.setIfInBounds j u)) }:=
  I.ZL hp ho (Qa its n j u) (r.set rv j) (by rw [lB];exact hz) s.toks
 by_cases h0:0<=k
 . have hk:k.toNat=j:=by
    rw [seqIndex_of h0 h4] at h1
    exact iy h1
   exact PySem.W.ki_setAt ho h0 (by omega) (by rw [ie,<-hl];exact h4) (by rw [hk];exact ⟨_,I',q⟩)
 . have hk:(k+(its.toArray.size:Int)).toNat=j:=by
    rw [seqIndex_neg (by omega) h3] at h1
    rw [ie,<-hl]
    exact iy h1
   exact PySem.W.ki_setBack ho (by omega) (by rw [ie,<-hl];exact h3) (by omega) (by rw [hk];exact ⟨_,I',q⟩)
def qQ:V->Bool
 | .bU=>true
 | .bl _=>true
 | .int _=>true
 | .str _=>true
 | _=>false
def yy:V->V->Bool
 | .bU, .bU=>true
 | .bl a, .bl b=>a==b
 | .bl a, .int b=>(if a then 1 else 0)==b
 | .int a, .bl b=>a==(if b then 1 else 0)
 | .int a, .int b=>a==b
 | .str a, .str b=>a==b
 | _,_=>false
theorem ZM {x:V} {v:Value} (ry:RelV y u) (rx:RelV x v) (fy:qQ y=true) (fx:qQ x=true):SeqAt.EqAt A s u v (yy y x):=by
 cases y with
 | bU=>
   cases ry
   cases x with
   | bU=>cases rx;exact SeqAt.EqAt.same _
   | bl b=>cases rx;exact SeqAt.EqAt.none_bool b
   | int b=>obtain ⟨t,rfl⟩:=rx;exact SeqAt.EqAt.none_int b t
   | str b=>obtain ⟨t,rfl⟩:=rx;exact SeqAt.EqAt.none_str b t
   | _=>exact absurd (show false=true from fx) fJ
 | bl a=>
   cases ry
   cases x with
   | bU=>cases rx;exact SeqAt.EqAt.bool_none a
   | bl b=>cases rx;exact SeqAt.EqAt.bool_bool a b
   | int b=>obtain ⟨t,rfl⟩:=rx;exact SeqAt.EqAt.bool_int a b t
   | str b=>obtain ⟨t,rfl⟩:=rx;exact SeqAt.EqAt.bool_str a b t
   | _=>exact absurd (show false=true from fx) fJ
 | int a=>
   obtain ⟨t',rfl⟩:=ry
   cases x with
   | bU=>cases rx;exact SeqAt.EqAt.int_none a t'
   | bl b=>cases rx;exact SeqAt.EqAt.int_bool a t' b
   | int b=>obtain ⟨t,rfl⟩:=rx;exact SeqAt.EqAt.int_int a t' b t
   | str b=>obtain ⟨t,rfl⟩:=rx;exact SeqAt.EqAt.int_str a t' b t
   | _=>exact absurd (show false=true from fx) fJ
 | str a=>
   obtain ⟨t',rfl⟩:=ry
   cases x with
   | bU=>cases rx;exact SeqAt.EqAt.str_none a t'
   | bl b=>cases rx;exact SeqAt.EqAt.str_bool a t' b
   | int b=>obtain ⟨t,rfl⟩:=rx;exact SeqAt.EqAt.str_int a t' b t
   | str b=>obtain ⟨t,rfl⟩:=rx;exact SeqAt.EqAt.str_str a t' b t
   | _=>exact absurd (show false=true from fx) fJ
 | _=>exact absurd (show false=true from fy) fJ
def tZ (x:V) (u:Value):Bool:=match u with
 | .none=>yy .bU x
 | .bool b=>yy (.bl b) x
 | .int i _=>yy (.int i) x
 | .str z _=>yy (.str z) x
 | _=>false
theorem RN {x:V} (r:RelV y u) (f:qQ y=true):tZ x u=yy y x:=by
 cases y with
 | bU=>cases r;rfl
 | bl b=>cases r;rfl
 | int i=>obtain ⟨t,rfl⟩:=r;rfl
 | str z=>obtain ⟨t,rfl⟩:=r;rfl
 | _=>exact absurd (show false=true from f) fJ
theorem wM {x:V}:∀{xs:List V} {us:List Value},Vals xs us->xs.all qQ=true->us.any (tZ x)=xs.any fun y=>yy y x
 | _,_, .nil,_=>rfl
 | y::xs,u::us, .cons r t,f=>by
   rw [List.all_cons,Ak] at f
   rw [C4,C4,RN r f.1,wM t f.2]
theorem t7 {A:Around} {s:Shared} {x:V} {v:Value} (rx:RelV x v) (fx:qQ x=true):∀{xs:List V} {us:List Value},Vals xs us->xs.all qQ=true->∀u∈us,SeqAt.EqAt A s u v (tZ x u)
 | _,_, .nil,_=>fun u hu=>by cases hu
 | y::xs,u::us, .cons r t,f=>fun u' hu=>by
   rw [List.all_cons,Ak] at f
   rcases c_.mp hu with rfl|hu
   . rw [RN r f.1];exact ZM r rx f.1 fx
   . exact t7 rx fx t f.2 u' hu
def JA (x:V) (xs:List V):Bool:=xs.any fun y=>yy y x
inductive rIn (K:Fg) (neg:Bool) (x:V) (y:V) (H:Hp) (Q:VK):Prop
 | mk  (p xs:_) (_:y = .ref p) (_:(aB K H p xs\/cT K H p xs)) (_:qQ x=true) (_:xs.all qQ=true) (_:Q (.bl (if neg then !JA x xs else JA x xs)) H)
theorem RO:gT X (compareOp .In) (rIn X.K false):=by
 intro pins s σ H x y v u Q I rx ry h
 obtain ⟨p,xs,rfl,hq,fx,fs,q⟩:=h
 cases ry
 rcases hq with hq|hq
 . obtain ⟨its,r,pl,hz⟩:=I.list hq
   refine SeqAt.in_listAt (tZ x) pl.isList (fun w hw=>t7 rx fx r fs w (by simpa using hw)) ⟨.bl _,H,I,Z,?_⟩
   rw [show its.toArray.any (tZ x)=its.any (tZ x) by simp,wM r fs]
   exact q
 . obtain ⟨its,r,pl,hz⟩:=I.tuple hq
   refine SeqAt.in_tupleAt (tZ x) pl (fun w hw=>t7 rx fx r fs w (by simpa using hw)) ⟨.bl _,H,I,Z,?_⟩
   rw [show its.toArray.any (tZ x)=its.any (tZ x) by simp,wM r fs]
   exact q
theorem JB:gT X (compareOp .NotIn) (rIn X.K true):=by
 intro pins s σ H x y v u Q I rx ry h
 obtain ⟨p,xs,rfl,hq,fx,fs,q⟩:=h
 cases ry
 rcases hq with hq|hq
 . obtain ⟨its,r,pl,hz⟩:=I.list hq
   refine SeqAt.notIn_listAt (tZ x) pl.isList (fun w hw=>t7 rx fx r fs w (by simpa using hw)) ⟨.bl _,H,I,Z,?_⟩
   rw [show its.toArray.any (tZ x)=its.any (tZ x) by simp,wM r fs]
   exact q
 . obtain ⟨its,r,pl,hz⟩:=I.tuple hq
   refine SeqAt.notIn_tupleAt (tZ x) pl (fun w hw=>t7 rx fx r fs w (by simpa using hw)) ⟨.bl _,H,I,Z,?_⟩
   rw [show its.toArray.any (tZ x)=its.any (tZ x) by simp,wM r fs]
   exact q
theorem JC:gj X (.builtin "len") (fun xs H Q=>∃p ys,xs=[.ref p]/\(aB X.K H p ys\/cT X.K H p ys)/\Q (.int ys.length) H):=by
 intro pins s σ H xs us Q I r h
 obtain ⟨p,ys,rfl,hq,q⟩:=h
 obtain ⟨u,rfl,rx⟩:=vals1 r
 cases rx
 have hn:=wJ
 rcases hq with hq|hq
 . obtain ⟨its,r',pl,hz⟩:=I.list hq
   have hlen:=r'.length
   exact Calls.call_len_list pl.isList (by simp only [ie] <;> omega) ⟨.int ys.length,H,I.tok _,⟨s.toks+1,by rw [ie,hlen]⟩,q⟩
 . obtain ⟨its,r',pl,hz⟩:=I.tuple hq
   have hlen:=r'.length
   exact len_tuple pl (by simp only [ie] <;> omega) ⟨.int ys.length,H,I.tok _,⟨s.toks+1,by rw [ie,hlen]⟩,q⟩
theorem JD:gj X (.builtin "len") (fun xs H Q=>∃z,xs=[.str z]/\z.length<=sizeLine/\Q (.int z.length) H):=by
 intro pins s σ H xs us Q I r h
 obtain ⟨z,rfl,hz,q⟩:=h
 obtain ⟨u,rfl,t,rfl⟩:=vals1 r
 have hn:=wJ
 exact len_str (by omega) ⟨.int z.length,H,I.tok _,⟨_,Z⟩,q⟩
theorem JE:gj X (.type "list") (fun xs H Q=>∃p ys,xs=[.ref p]/\(aB X.K H p ys\/cT X.K H p ys)/\∀l,H l=none->Q (.ref l) (upd H l (.lst ys))):=by
 intro pins s σ H xs us Q I r h
 obtain ⟨p,ys,rfl,hq,q⟩:=h
 obtain ⟨u,rfl,rx⟩:=vals1 r
 cases rx
 have fin:∀(its:List Value),Vals ys its->ys.length<=sizeLine->∀(h':Heap) (c':Nat),(∀b o',s.heap.get? b=some o'->h'.get? b=some o')->
   h'.get? s.heap.objs.size=some { cls:= .type "list",dict:=none,data:= .seq its.toArray c',slots:=#[] }->EP X pins σ Q (.ref s.heap.objs.size) { s with heap:=h' }:=fun its r' hz h' c' kp e=>
  ⟨.ref s.heap.objs.size,_,I.laid (t':=s.toks) kp (aO _) (show dJ X.prog X.w _ h' _ (.lst ys) from ⟨hz,its,c',r',e⟩),Z,q _ (I.hok.fresh (aO _))⟩
 rcases hq with hq|hq
 . obtain ⟨its,r',pl,hz⟩:=I.list hq
   have hlen:=r'.length
   obtain ⟨o,ho,hc,n,hd⟩:=pl.isList
   exact call_list_seq p (.inl rfl) ho hc hd (fun h' c' kp e=>fin its r' hz h' c' kp e) (by simp only [ie] <;> omega)
 . obtain ⟨its,r',pl,hz⟩:=I.tuple hq
   have hlen:=r'.length
   obtain ⟨o,ho,hc,n,hd⟩:=pl
   exact call_list_seq p (.inr rfl) ho hc hd (fun h' c' kp e=>fin its r' hz h' c' kp e) (by simp only [ie] <;> omega)
def tyV (K:Fg) (T:String) (x:V) (H:Hp):Prop:=match x with
 | .str _=>T = "str"
 | .int _=>T = "int"
 | .ref p=>(T = "list"/\∃xs,aB K H p xs)\/(T = "tuple"/\∃o,K.lookup p=some o/\o.cls = .type "tuple"/\o.dict=none)\/
     (T = "dict"/\((∃kvs,H p=some (.dK kvs))\/∃kvs,H p=some (.dT kvs)))\/(T = "set"/\∃S n,H p=some (.set S n))
 | _=>False
theorem ZN {T:String} {x:V} {v:Value} (I:Inv X pins σ H s) (r:RelV x v) (ty:tyV X.K T x H):
  s.TypeIs v T/\∀a,v = .ref a->∃ob,s.heap.get? a=some ob/\ob.dict=none:=by
 cases x with
 | str z=>
   obtain ⟨t,rfl⟩:=r
   cases (show T = "str" from ty)
   exact ⟨typeIs_str s z t,fun _ e=>nomatch e⟩
 | int i=>
   obtain ⟨t,rfl⟩:=r
   cases (show T = "int" from ty)
   exact ⟨typeIs_int s i t,fun _ e=>nomatch e⟩
 | ref p=>
   cases r
   rcases ty with ⟨rfl,xs,hq⟩|⟨rfl,o,hk,hc,hd⟩|⟨rfl,hk⟩|⟨rfl,S,n,hk⟩
   . obtain ⟨its,_,pl,_⟩:=I.list hq
     refine ⟨pl.isList.typeIs,fun a e=>?_⟩
     cases e
     obtain ⟨o,n,e,c,hd,_⟩:=pl
     exact ⟨o,e,hd⟩
   . refine ⟨⟨o,I.iJ p o hk,hc⟩,fun a e=>?_⟩
     cases e
     exact ⟨o,I.iJ _ o hk,hd⟩
   . have z:∃o,s.heap.get? p=some o/\o.ExactDict:=by
      rcases hk with ⟨kvs,hk⟩|⟨kvs,hk⟩
      . obtain ⟨_,_,_,_,o,_,_,e,ex,_⟩:=I.hok p _ hk
        exact ⟨o,e,ex⟩
      . obtain ⟨_,_,_,_,o,_,_,e,ex,_⟩:=I.hok p _ hk
        exact ⟨o,e,ex⟩
     obtain ⟨o,e,ex⟩:=z
     refine ⟨⟨o,e,ex.1⟩,fun a e2=>?_⟩
     cases e2
     exact ⟨o,e,ex.2.1⟩
   . obtain ⟨o,_,_,_,e,ex,_⟩:=I.hok p _ hk
     refine ⟨⟨o,e,ex.1⟩,fun a e2=>?_⟩
     cases e2
     exact ⟨o,e,ex.2.1⟩
 | _=>exact False.elim ty
def ZO (r:V->List V->Hp->VK->Prop) (Q:VK) (x:V):List V->Hp->Prop:=fun xs H2=>r x xs H2 Q
inductive agb (K:Fg) (T:String) (r:V->List V->Hp->VK->Prop) (t:TA) (σ:St) (Q:VK) (x:V) (H1:Hp):Prop
 | mk  (_:tyV K T x H1) (_:t σ H1 (ZO r Q x))
def tBM (K:Fg) (T:String) (r:V->List V->Hp->VK->Prop) (to:TE) (t:TA):TE:=fun σ H Q=>to σ H (agb K T r t σ Q)
variable {o e:Expr} {es:List Expr} {to:TE} {t:TA} {name:Str} {apos cpos:Pos} {T id:String} {r:V->List V->Hp->VK->Prop}
end
def MtM (X:Cx) (id:String) (r:V->List V->Hp->VK->Prop):Prop:=
 ∀(pins:AO) (s:Shared) (σ:St) (H:Hp) (x:V) (xs:List V) (v:Value) (us:List Value) (Q:VK),Inv X pins σ H s->RelV x v->Vals xs us->r x xs H Q->
  wpAny (model X.prog X.w) X.A (call (.builtin id) (v::us)) (EP X pins σ Q) X.xe s
theorem Vals.one:∀{x:V} {us:List Value},Vals [x] us->∃u,us=[u]/\RelV x u
 | _,_, .cons r .nil=>⟨_,Z,r⟩
theorem Vals.reverse (h:Vals xs us):Vals xs.reverse us.reverse:=by
 induction h with
 | nil=>exact .nil
 | cons r t ih=>rw [List.reverse_cons,List.reverse_cons];exact Vals.append ih (.cons r .nil)
theorem Vals.rep {xs:List V} {us:List Value} (h:Vals xs us):∀k:Nat,Vals (List.replicate k xs).flatten (List.replicate k us).flatten
 | 0=> .nil
 | k+1=>by
   rw [xE,xE,Pr,Pr]
   exact Vals.append h (Vals.rep h k)
theorem foldl_rep (its:List Value):∀(k:Nat) (acc:List Value),
  List.foldl (fun x1 x2=>x1++x2) acc.toArray (List.replicate k its.toArray)=(acc++(List.replicate k its).flatten).toArray
 | 0,acc=>by simp
 | k+1,acc=>by
   have e:acc.toArray++its.toArray=(acc++its).toArray:=by simp
   have e2:(acc++its)++(List.replicate k its).flatten=acc++(List.replicate (k+1) its).flatten:=by
    rw [xE,Pr,Jo]
   rw [<-e2,<-foldl_rep its k (acc++its),<-e,xE,mz]
variable {t':Nat}
section
variable {X:Cx} {pins:AO} {σ:St} {H:Hp} {s:Shared} {l b:Addr} {xs ys zs:List V}
theorem Inv.agc {f:Array Value->Array Value} (I:Inv X pins σ H s) (hH:H l=some (.lst xs))
  (e:s.heap.get? l=some { cls:= .type "list",data:= .seq its.toArray n }) (hf:f its.toArray=its'.toArray) (hv:Vals ys its') (hz:ys.length<=sizeLine):
  Inv X pins σ (upd H l (.lst ys)) { s with heap:=s.heap.update l (Obj.mapSeq f),toks:=t' }:=by
 have q:=PySem.IsL.update e f
 rw [hf] at q
 refine I.write (x:=l) (e:=l) (by rw [hH];exact trivial) (.inl rfl) (fun b' u hb hu=>(Jk s.heap (Obj.mapSeq f) (bY hb)).trans hu) ⟨_,q⟩ ?_
 exact ⟨hz,its',_,hv,q⟩
theorem Inv.ZP (I:Inv X pins σ H s) (hv:Vals ys its) (hz:ys.length<=sizeLine):
  Inv X pins σ (upd H s.heap.objs.size (.lst ys)) { s with heap:=s.heap.push { cls:= .type "list",data:= .seq its.toArray },toks:=t' }:=
 I.laid (fun _ _ q=>cg _ q) (aO _) ⟨hz,its,0,hv,dW _ rfl⟩
theorem Inv.fresh (I:Inv X pins σ H s):H s.heap.objs.size=none:=I.hok.fresh (aO _)
theorem Inv.Qc (I:Inv X pins σ H s) (hH:H l=some (.lst xs)):xs.length<=sizeLine/\∃(its:List Value) (n:Nat),Vals xs its/\xs.length=its.length/\s.heap.get? l=some { cls:= .type "list",data:= .seq its.toArray n }:=by
 obtain ⟨z,its,n,r,e⟩:=I.hok l _ hH
 exact ⟨z,its,n,r,r.length,e⟩
theorem UQ (h:n<=sizeLine):Builtin.List.listTooLong n=false:=by
 unfold Builtin.List.listTooLong
 exact d7 (by omega)
end
section
variable {X:Cx}
inductive Xz (x:V) (vs:List V) (H:Hp) (Q:VK):Prop
 | mk  (l xs y:_) (_:x = .ref l) (_:vs=[y]) (_:H l=some (.lst xs)) (_:xs.length<sizeLine) (_:Q .bU (upd H l (.lst (xs++[y]))))
theorem gU:MtM X "list.append" Xz:=by
 intro pins s σ H x vs v us Q I rx rv h
 obtain ⟨l,xs,y,rfl,rfl,hH,hz,q⟩:=h
 cases rx
 obtain ⟨u,rfl,ru⟩:=rv.one
 obtain ⟨z,its,n,r,hl,e⟩:=I.Qc hH
 refine call_meets F.slot_list_append ⟨_,e,Z⟩ F.entry_list_append (F.args_list_append_2 _ _) (PySem.list_append l its.toArray n u (by rw [ie];omega)) ⟨e,?_⟩
 refine ⟨.bU,_,I.agc (its':=its++[u]) hH e (by simp) (r.append (.cons ru .nil)) ?_,Z,q⟩
 rw [dg,List.length_singleton]
 omega
inductive UR (x:V) (y:V) (H:Hp) (Q:VK):Prop
 | mk  (l b xs zs:_) (_:x = .ref l) (_:y = .ref b) (_:H l=some (.lst xs)) (_:H b=some (.lst zs)) (_:xs.length+zs.length<=sizeLine) (_:∀p,H p=none->Q (.ref p) (upd H p (.lst (xs++zs))))
theorem m7:gT X (binaryOp .Add) UR:=by
 intro pins s σ H x y v u Q I rx ry h
 obtain ⟨l,b,xs,zs,rfl,rfl,hH,hB,hz,q⟩:=h
 cases rx
 cases ry
 obtain ⟨z,its,n,r,hl,e⟩:=I.Qc hH
 obtain ⟨z2,its2,n2,r2,hl2,e2⟩:=I.Qc hB
 refine PySem.P.add_list e e2 ?_ (by rw [ie,ie];omega)
 have ea:its.toArray++its2.toArray=(its++its2).toArray:=by simp
 rw [ea]
 exact ⟨.ref _,_,I.ZP (t':=s.toks) (r.append r2) (by rw [dg];omega),Z,q _ I.fresh⟩
inductive agd (x:V) (y:V) (H:Hp) (Q:VK):Prop
 | mk  (l k xs:_) (_:x = .ref l) (_:y = .int k) (_:H l=some (.lst xs)) (_:-(2 ^ 63)<=k) (_:k<2 ^ 63) (_:xs.length*k.toNat<=sizeLine) (_:∀p,H p=none->Q (.ref p) (upd H p (.lst (List.replicate k.toNat xs).flatten)))
theorem len_rep {α:Type} (xs:List α) (k:Nat):(List.replicate k xs).flatten.length=k*xs.length:=by
 induction k with
 | zero=>simp
 | succ k ih=>rw [xE,Pr,dg,ih,Nat.succ_mul,Nat.add_comm]
theorem RP:gT X (binaryOp .Mult) agd:=by
 intro pins s σ H x y v u Q I rx ry h
 obtain ⟨l,k,xs,rfl,rfl,hH,h1,h2,hz,q⟩:=h
 cases rx
 obtain ⟨t,rfl⟩:=ry
 obtain ⟨z,its,n,r,hl,e⟩:=I.Qc hH
 have hlen:its.toArray.size*k.toNat<=sizeLine:=by rw [ie,<-hl];exact hz
 have hcap:¬ its.toArray.size*k.toNat>(2 ^ 63-1) / 8:=by
  have:(sizeLine:Nat)<=(2 ^ 63-1) / 8:=by decide
  omega
 have hfit:¬ (!Builtin.List.listFitsIndex k)=true:=by
  rw [fitsIndex_both h1 h2]
  exact fJ
 have acH:¬ Builtin.List.listTooLong (its.toArray.size*k.toNat)=true:=by
  rw [UQ hlen]
  exact fJ
 have hnew:List.foldl (fun x1 x2=>x1++x2) #[] (List.replicate (if its.toArray.isEmpty=true then 0 else k.toNat) its.toArray)=(List.replicate k.toNat its).flatten.toArray:=by
  have f0:∀m:Nat,List.foldl (fun x1 x2=>x1++x2) #[] (List.replicate m its.toArray)=(List.replicate m its).flatten.toArray:=fun m=>by
   have:=foldl_rep its m []
   rw [IQ] at this
   exact this
  rw [f0]
  cases its with
  | nil=>simp
  | cons a r'=>rw [aA (by simp)]
 refine wpAny_binaryOp_repeat_ref (T:="list") (U:="int") (by decide) ⟨_,e,Z⟩ (fun s'=>typeIs_int s' k t) noFill_list_mul F.fills_int_mul F.slot_int_rmul repeat_list F.slot_int_index.lookup
  (call_meets F.slot_int_rmul (typeIs_int s k t) F.entry_int_rmul (F.args_int_rmul_2 _ _) (int___rmul___int_list k t l its.toArray n)
    ⟨e,Z,⟨_,e,Z⟩,call_meets F.slot_list_mul ⟨_,e,Z⟩ F.entry_list_mul (F.args_list_mul_2 _ _) (AutoListH.list___mul___list_int_3 l its.toArray n k t hfit hcap acH) ⟨e,?_⟩⟩)
 rw [hnew]
 exact ⟨.ref _,_,I.ZP (t':=s.toks) (r.rep k.toNat) (by rw [len_rep,Nat.mul_comm];exact hz),Z,q _ I.fresh⟩
end
section
variable {prog:Program} {w:World} {A:Around} {E:VS} {s:Shared}
set_option maxRecDepth 100000 in
end
section
variable {X:Cx}
end
section
variable {κ:Type} [DecidableEq κ]
def dZ (kvs:List (κ×V)) (k:κ):Option V:=(kvs.find? fun kv=>decide (kv.1=k)).map (·.2)
def putK (kvs:List (κ×V)) (k:κ) (v:V):List (κ×V):=
 if (kvs.any fun kv=>decide (kv.1=k))=true then kvs.map (fun kv=>if kv.1=k then (kv.1,v) else kv) else kvs++[(k,v)]
def nv (kvs:List (κ×V)) (k:κ):List (κ×V):=kvs.filter fun kv=>decide (kv.1≠k)
theorem gH {p:κ×V} {r:List (κ×V)} {k:κ} (e:p.1=k):dZ (p::r) k=some p.2:=by simp [dZ,tF,e]
theorem eX {p:κ×V} {r:List (κ×V)} {k:κ} (e:¬ p.1=k):dZ (p::r) k=dZ r k:=by simp [dZ,tF,e]
theorem qo (k:κ):∀kvs:List (κ×V),(kvs.any fun kv=>decide (kv.1=k))=(dZ kvs k).isSome
 | []=>rfl
 | p::r=>by
   rw [C4]
   by_cases e:p.1=k
   . simp only [gH e,cG e,Bool.true_or,Option.isSome_some]
   . rw [eX e,d7 e,Bool.false_or];exact qo k r
theorem JF (k j:κ) (y:V):∀kvs:List (κ×V),dZ (kvs.map fun kv=>if kv.1=k then (kv.1,y) else kv) j=(dZ kvs j).map fun x=>if j=k then y else x
 | []=>rfl
 | p::r=>by
   have ih:=JF k j y r
   rw [bJ]
   by_cases h:p.1=k
   . rw [aC h]
     by_cases e:p.1=j
     . rw [gH (p:=(p.1,y)) e,gH e,IS,aC (e.symm.trans h)]
     . rw [eX (p:=(p.1,y)) e,eX e,ih]
   . rw [aA h]
     by_cases e:p.1=j
     . rw [gH (p:=p) e,gH e,IS,aA (fun z=>h (e.trans z))]
     . rw [eX (p:=p) e,eX e,ih]
theorem GF (k j:κ) (y:V):∀kvs:List (κ×V),dZ kvs k=none->dZ (kvs++[(k,y)]) j=if j=k then some y else dZ kvs j
 | [],_=>by
   by_cases e:k=j
   . rw [aC e.symm];exact gH (p:=(k,y)) e
   . rw [aA (fun z=>e z.symm)];exact eX (p:=(k,y)) e
 | p::r,hn=>by
   rw [IP]
   have hk:¬ p.1=k:=fun z=>by rw [gH z] at hn;cases hn
   rw [eX hk] at hn
   have ih:=GF k j y r hn
   by_cases e:p.1=j
   . rw [gH e,gH e,aA (fun z=>hk (e.trans z))]
   . rw [eX e,eX e,ih]
theorem US (kvs:List (κ×V)) (k j:κ) (y:V):dZ (putK kvs k y) j=if j=k then some y else dZ kvs j:=by
 unfold putK
 by_cases a:(kvs.any fun kv=>decide (kv.1=k))=true
 . rw [aC a,JF]
   rw [qo] at a
   by_cases e:j=k
   . obtain ⟨x,hx⟩:=Option.isSome_iff_exists.mp a
     rw [aC e,e,hx,IS,aC rfl]
   . rw [aA e]
     cases dZ kvs j with
     | none=>rfl
     | some x=>rw [IS,aA e]
 . rw [aA a]
   refine GF k j y kvs ?_
   rw [qo] at a
   cases q:dZ kvs k with
   | none=>rfl
   | some x=>rw [q] at a;exact (a rfl).elim
theorem vR (kvs:List (κ×V)) (k:κ) (v:V):(putK kvs k v).length<=kvs.length+1:=by
 unfold putK
 split
 . rw [aG];omega
 . rw [dg,kX,List.length_nil];omega
theorem nP {kvs:List (κ×V)} {k:κ} (v:V) (h:dZ kvs k=none):putK kvs k v=kvs++[(k,v)] :=by
 unfold putK
 rw [qo,h]
 exact aA (by decide)
theorem mR.oq {o:Option V} {u:Option Value} (r:mR o u):o.isSome=u.isSome:=by
 cases o with
 | none=>cases u with
   | none=>rfl
   | some _=>exact (show False from r).elim
 | some _=>cases u with
   | none=>exact (show False from r).elim
   | some _=>rfl
theorem KV.val {kvs:List (κ×V)} {vs:List (κ×Value)} (r:KV kvs vs) (k:κ):mR (dZ kvs k) (valueAt vs k):=by
 unfold KV at r
 induction r with
 | nil=>exact True.intro
 | @cons p q ps qs h t ih=>
   obtain ⟨h1,h2⟩:=h
   by_cases e:p.1=k
   . have e':q.1=k:=h1.symm.trans e
     have b:valueAt (q::qs) k=some q.2:=by simp [valueAt,tF,e']
     rw [gH e,b];exact h2
   . have e':¬ q.1=k:=fun z=>e (h1.trans z)
     have b:valueAt (q::qs) k=valueAt qs k:=by simp [valueAt,tF,e']
     rw [eX e,b];exact ih
theorem KV.any {kvs:List (κ×V)} {vs:List (κ×Value)} (r:KV kvs vs) (k:κ):(kvs.any fun kv=>decide (kv.1=k))=vs.any fun kv=>decide (kv.1=k):=by
 unfold KV at r
 induction r with
 | nil=>rfl
 | cons h t ih=>rw [C4,C4,ih,h.1]
theorem KV.repl {kvs:List (κ×V)} {vs:List (κ×Value)} (r:KV kvs vs) (k:κ) (ry:RelV y u):
  KV (kvs.map fun kv=>if kv.1=k then (kv.1,y) else kv) (vs.map fun kv=>if kv.1=k then (kv.1,u) else kv):=by
 unfold KV at r ⊢
 induction r with
 | nil=>exact .nil
 | @cons p q ps qs h t ih=>
   rw [bJ,bJ]
   refine .cons ?_ ih
   obtain ⟨h1,h2⟩:=h
   by_cases e:p.1=k
   . rw [aC e,aC (h1.symm.trans e)];exact ⟨h1,ry⟩
   . rw [aA e,aA (fun z=>e (h1.trans z))];exact ⟨h1,h2⟩
theorem KV.put {kvs:List (κ×V)} {vs:List (κ×Value)} (r:KV kvs vs) (k:κ) (ry:RelV y u):KV (putK kvs k y) (stored vs k u):=by
 unfold putK stored
 rw [r.any k]
 by_cases e:(vs.any fun kv=>decide (kv.1=k))=true
 . rw [aC e,aC e];exact r.repl k ry
 . rw [aA e,aA e];exact Paired.snoc r ⟨Z,ry⟩
theorem KV.drop {kvs:List (κ×V)} {vs:List (κ×Value)} (r:KV kvs vs) (k:κ):KV (nv kvs k) (without vs k):=by
 unfold KV at r ⊢
 unfold nv without
 induction r with
 | nil=>exact .nil
 | @cons p q ps qs h t ih=>
   obtain ⟨h1,h2⟩:=h
   rw [iw,iw]
   by_cases e:p.1=k
   . have a:¬ decide (p.1≠k)=true:=by simp [e]
     have b:¬ decide (q.1≠k)=true:=by simp [h1.symm.trans e]
     rw [aA a,aA b];exact ih
   . have e':¬ q.1=k:=fun z=>e (h1.trans z)
     have a:decide (p.1≠k)=true:=by simp [e]
     have b:decide (q.1≠k)=true:=by simp [e']
     rw [aC a,aC b];exact .cons ⟨h1,h2⟩ ih
theorem KV.length {kvs:List (κ×V)} {vs:List (κ×Value)} (r:KV kvs vs):kvs.length=vs.length:=Paired.length r
theorem UT (kvs:List (κ×V)) (k:κ):(nv kvs k).length<=kvs.length:=List.length_filter_le _ _
end
variable {P:Program}
theorem xR {w:World} {k:Key} (r:RelV (kV k) u):(c7 P w).is k u=true:=by
 cases k with
 | inl i=>obtain ⟨t,e⟩:=(show ∃t,u=Value.int i t from r);subst e;exact Mr P w i t
 | inr x=>obtain ⟨t,e⟩:=(show ∃t,u=Value.str x t from r);subst e;exact Ms P w x t
theorem GG {P:Program} {w:World}:∀{ks:List Key} {us:List Value},Vals (ks.map kV) us->ItemsAre (c7 P w) ks us
 | [],_,r=>by rw [List.map_nil] at r;cases r;exact .nil
 | k::ks,_,r=>by
   rw [bJ] at r
   cases r with
   | cons h t=>exact .cons (xR h) (GG t)
abbrev KT (H:Hp):List (List Key×V)->List (List Key×Addr×Value)->Prop:=Paired fun p q=>p.1=q.1/\H q.2.1=some (.tup (p.1.map kV))/\RelV p.2 q.2.2
theorem KT.val {kvs:List (List Key×V)} {xs:List (List Key×Addr×Value)} (r:KT H kvs xs) (k:List Key):mR (dZ kvs k) ((atKey xs k).map (·.2)):=by
 induction r with
 | nil=>exact True.intro
 | @cons p q ps qs h t ih=>
   obtain ⟨h1,_,h2⟩:=h
   by_cases e:p.1=k
   . have e':q.1=k:=h1.symm.trans e
     have b:atKey (q::qs) k=some q.2:=by simp [atKey,tF,e']
     rw [gH e,b];exact h2
   . have e':¬ q.1=k:=fun z=>e (h1.trans z)
     have b:atKey (q::qs) k=atKey qs k:=by simp [atKey,tF,e']
     rw [eX e,b];exact ih
theorem KT.repl {kvs:List (List Key×V)} {xs:List (List Key×Addr×Value)} (r:KT H kvs xs) (k:List Key) (ry:RelV y u):
  KT H (kvs.map fun kv=>if kv.1=k then (kv.1,y) else kv) (xs.map (putAt k u)):=by
 induction r with
 | nil=>exact .nil
 | @cons p q ps qs h t ih=>
   rw [bJ,bJ]
   refine .cons ?_ ih
   obtain ⟨h1,h2,h3⟩:=h
   unfold putAt
   by_cases e:p.1=k
   . rw [aC e,aC (h1.symm.trans e)];exact ⟨h1,h2,ry⟩
   . rw [aA e,aA (fun z=>e (h1.trans z))];exact ⟨h1,h2,h3⟩
theorem KT.put {kvs:List (List Key×V)} {xs:List (List Key×Addr×Value)} (r:KT H kvs xs) (k:List Key) {b:Addr} (hb:H b=some (.tup (k.map kV))) (ry:RelV y u):
  KT H (putK kvs k y) (storedH xs k b u):=by
 have e:(kvs.any fun kv=>decide (kv.1=k))=(atKey xs k).isSome:=by
  rw [qo,(r.val k).oq,Option.isSome_map]
 unfold putK storedH
 rw [e]
 by_cases q:(atKey xs k).isSome=true
 . rw [aC q,aC q];exact r.repl k ry
 . rw [aA q,aA q];exact Paired.snoc r ⟨Z,hb,ry⟩
variable {H':Hp}
theorem KT.keeps {kvs:List (List Key×V)} {xs:List (List Key×Addr×Value)} (r:KT H kvs xs) (ht:∀b ys,H b=some (.tup ys)->H' b=some (.tup ys)):KT H' kvs xs:=
 Paired.Uz r fun _ _ z=>⟨z.1,ht _ _ z.2.1,z.2.2⟩
variable {kvs:List (Key×V)}
section
variable {P:Program} {w:World} {H:Hp} {h:Heap} {a:Addr}
theorem Wj {u:HO} (ok:gM P w H h) (e:Rd H a u):dJ P w H h a u:=e.ok ok
theorem qR (ok:gM P w H h) (e:Rd H a (.dK kvs)):kvs.length<=sizeLine/\(a==sysModules)=false/\∃vs,KV kvs vs/\h.DictOf (c7 P w) a vs:=
 show dJ P w H h a (.dK kvs) from Wj ok e
theorem Dq (ok:gM P w H h) (e:H a=some (.dK kvs)):kvs.length<=sizeLine/\(a==sysModules)=false/\∃vs,KV kvs vs/\h.DictOf (c7 P w) a vs:=qR ok (.inl e)
theorem yT {ks:List Key} (ok:gM P w H h) (e:H a=some (.tup (ks.map kV))):(tupleKind (c7 P w)).is h ks a:=by
 obtain ⟨_,its,r,o,h1,h2,n,h3⟩:=(show dJ P w H h a (.tup (ks.map kV)) from ok a _ e)
 exact ⟨o,its.toArray,n,h1,h2,h3,by simpa using GG r⟩
theorem Ay {kvs:List (List Key×V)} (ok:gM P w H h) (e:Rd H a (.dT kvs)):kvs.length<=sizeLine/\(a==sysModules)=false/\
  ∃xs,KT H kvs xs/\h.DictOfH (tupleKind (c7 P w)) a xs:=by
 obtain ⟨z,y,xs,r,o,es,ep,h1,h2,h3,h4,h5⟩:=(show dJ P w H h a (.dT kvs) from Wj ok e)
 refine ⟨z,y,xs,r,o,es,ep,h1,h2,h3,h4,fun x hx=>?_,h5⟩
 have all:∀{l:List (List Key×V)} {m:List (List Key×Addr×Value)},KT H l m->∀x∈m,(tupleKind (c7 P w)).is h x.1 x.2.1:=by
  intro l m q
  induction q with
  | nil=>intro x hx;exact nomatch hx
  | @cons p q ps qs hq t ih=>
    intro x hx
    rcases c_.mp hx with e|hx
    . subst e
      exact yT ok (by rw [<-hq.1];exact hq.2.1)
    . exact ih x hx
 exact all r x hx
theorem acI {kvs:List (List Key×V)} (ok:gM P w H h) (e:H a=some (.dT kvs)):kvs.length<=sizeLine/\(a==sysModules)=false/\
  ∃xs,KT H kvs xs/\h.DictOfH (tupleKind (c7 P w)) a xs:=Ay ok (.inl e)
end
def cV (H:Hp) (a:Addr) (y:V) (r:Option V):Prop:=
 (∃kvs k,Rd H a (.dK kvs)/\y=kV k/\r=dZ kvs k)\/∃kvs k b,Rd H a (.dT kvs)/\y = .ref b/\H b=some (.tup (k.map kV))/\r=dZ kvs k
def t8 (H:Hp) (a:Addr) (y v:V) (H':Hp):Prop:=
 (∃kvs k,H a=some (.dK kvs)/\y=kV k/\kvs.length<sizeLine/\H'=upd H a (.dK (putK kvs k v)))\/
 ∃kvs k b,H a=some (.dT kvs)/\y = .ref b/\H b=some (.tup (k.map kV))/\kvs.length<sizeLine/\H'=upd H a (.dT (putK kvs k v))
variable {a:Addr}
theorem cV.k {k:Key} (e:H a=some (.dK kvs)):cV H a (kV k) (dZ kvs k):= .inl ⟨kvs,k, .inl e,Z,Z⟩
theorem t8.k {k:Key} {v:V} (e:H a=some (.dK kvs)) (hl:kvs.length<sizeLine):t8 H a (kV k) v (upd H a (.dK (putK kvs k v))):= .inl ⟨kvs,k,e,Z,hl,Z⟩
variable {h':Heap} {Q:Unit->Shared->Prop}
section
variable {X:Cx} {pins:AO} {σ:St} {H:Hp} {s:Shared} {a:Addr} {y v:V} {u r:Value} {o:Option V} {A:Around} {E:VS}
theorem Inv.big (I:Inv X pins σ H s):sysModules<s.heap.objs.size:=by
 have h:mainGlobals<s.heap.objs.size:=(I.mod.glob.keeps I.bk).lt
 exact Nat.lt_trans (by decide) h
theorem RQ {Q:VS} (hu:A.units+1<cLine) (I:Inv X pins σ H s) (g:cV H a y (some v)) (ry:RelV y u) (h:∀w' s',Inv X pins σ H s'->RelV v w'->Q w' s'):
  wpAny (model X.prog X.w) A (getItem (.ref a) u) Q E s:=by
 rcases g with ⟨kvs,k,e,ey,l⟩|⟨kvs,k,b,e,ey,eb,l⟩
 . subst ey
   obtain ⟨z,hd,vs,rel,dd⟩:=qR I.hok e
   obtain ⟨w',hw,rw'⟩:=mR.some_of (v:=v) (o:=valueAt vs k) (by rw [l];exact rel.val k)
   exact wpAny_getItem_of (xR ry) dd.mapOf hw (h w' _ (I.tok _) rw')
 . subst ey
   cases (show u=Value.ref b from ry)
   obtain ⟨z,hd,xs,rel,dd⟩:=Ay I.hok e
   obtain ⟨w',hw,rw'⟩:=mR.some_of (v:=v) (o:=(atKey xs k).map (·.2)) (by rw [l];exact rel.val k)
   obtain ⟨p,hp,hp2⟩:=lP.mp hw
   refine wpAny_getItem_heap (Pj hu) (yT I.hok eb) dd hp ?_
   rw [hp2]
   exact h w' _ (I.tok _) rw'
theorem age {Q:VS} (hu:A.units+1<cLine) (I:Inv X pins σ H s) (g:cV H a y o) (ry:RelV y u) (h:∀s',Inv X pins σ H s'->Q (.bool o.isSome) s'):
  wpAny (model X.prog X.w) A (compareOp .In u (.ref a)) Q E s:=by
 rcases g with ⟨kvs,k,e,ey,l⟩|⟨kvs,k,b,e,ey,eb,l⟩
 . subst ey
   obtain ⟨z,hd,vs,rel,dd⟩:=qR I.hok e
   refine wpAny_in_of (xR ry) hd dd.mapOf ?_
   rw [<-(rel.val k).oq,<-l]
   exact h _ (I.tok _)
 . subst ey
   cases (show u=Value.ref b from ry)
   obtain ⟨z,hd,xs,rel,dd⟩:=Ay I.hok e
   refine wpAny_in_heap (Pj hu) (yT I.hok eb) hd dd ?_
   have q:=(rel.val k).oq
   rw [Option.isSome_map] at q
   rw [<-q,<-l]
   exact h _ (I.tok _)
theorem XA {Q:VS} (hu:A.units+1<cLine) (I:Inv X pins σ H s) (g:cV H a y o) (ry:RelV y u) (h:∀s',Inv X pins σ H s'->Q (.bool (!o.isSome)) s'):
  wpAny (model X.prog X.w) A (compareOp .NotIn u (.ref a)) Q E s:=by
 rcases g with ⟨kvs,k,e,ey,l⟩|⟨kvs,k,b,e,ey,eb,l⟩
 . subst ey
   obtain ⟨z,hd,vs,rel,dd⟩:=qR I.hok e
   refine wpAny_notIn_of (xR ry) hd dd.mapOf ?_
   rw [<-(rel.val k).oq,<-l]
   exact h _ (I.tok _)
 . subst ey
   cases (show u=Value.ref b from ry)
   obtain ⟨z,hd,xs,rel,dd⟩:=Ay I.hok e
   refine wpAny_notIn_heap (Pj hu) (yT I.hok eb) hd dd ?_
   have q:=(rel.val k).oq
   rw [Option.isSome_map] at q
   rw [<-q,<-l]
   exact h _ (I.tok _)
theorem Az (I:Inv X pins σ H s) (mu:Rm (H a)) (hs:Heap.SameBut a s.heap h') (he:∃q,h'.get? a=some q) (new:dJ X.prog X.w (upd H a ob) h' a ob):
  Inv X pins σ (upd H a ob) { s with heap:=h',toks:=t' }:=
 I.write (x:=a) (e:=a) mu (.inl rfl) (fun b q hb z=>(hs.2 b hb).trans z) he new
theorem JG {w:World} {vs:List (Key×Value)} (z:kvs.length<=sizeLine) (hd:(a==sysModules)=false) (rel:KV kvs vs) (dd:h'.DictOf (c7 P w) a vs):
  dJ P w H' h' a (.dK kvs):=⟨z,hd,vs,rel,dd⟩
theorem RS (hu:A.units+1<cLine) (I:Inv X pins σ H s) (g:t8 H a y v H') (ry:RelV y u) (rv:RelV v r) (h:∀s',Inv X pins σ H' s'->Q () s'):
  wpAny (model X.prog X.w) A (setItem (.ref a) u r) Q E s:=by
 rcases g with ⟨kvs,k,e,ey,l,eH⟩|⟨kvs,k,b,e,ey,eb,l,eH⟩
 . subst ey eH
   obtain ⟨z,hd,vs,rel,dd⟩:=Dq I.hok e
   have hz:vs.length<=sizeLine:=by rw [<-rel.length];exact z
   have hl:(putK kvs k v).length<=sizeLine:=by have:=vR kvs k v;omega
   refine wpAny_setItem_pairs (hsz:=hz) (xR ry) dd fun h' Bl hs=>h _ ?_
   have he:∃q,h'.get? a=some q:=let ⟨q,_,_,hq,_⟩:=Bl;⟨q,hq⟩
   exact Az I (by rw [e];exact True.intro) hs he (JG hl hd (rel.put k rv) Bl)
 . subst ey eH
   cases (show u=Value.ref b from ry)
   obtain ⟨z,hd,xs,rel,dd⟩:=acI I.hok e
   have hz:xs.length<=sizeLine:=by rw [<-Paired.length rel];exact z
   have hl:(putK kvs k v).length<=sizeLine:=by have:=vR kvs k v;omega
   refine wpAny_setItem_heap (hsz:=hz) (Pj hu) (yT I.hok eb) dd fun h' Bl hs=>h _ ?_
   obtain ⟨q,es,ep,hq,h2,h3,h4,_,h5⟩:=Bl
   refine Az I (by rw [e];exact True.intro) hs ⟨q,hq⟩ ⟨hl,hd,_,(rel.put k eb rv).keeps fun c ys ec=>?_,q,es,ep,hq,h2,h3,h4,h5⟩
   rw [av (iT ec e (fun z=>nomatch z))]
   exact ec
end
section
variable {X:Cx} {pins:AO} {σ:St} {H:Hp} {s:Shared} {a:Addr} {kvs:List (Key×V)} {k:Key} {u:Value} {A:Around} {E:VS}
theorem RT (I:Inv X pins σ H s) (e:H a=some (.dK kvs)) (ry:RelV (kV k) u) (l:(dZ kvs k).isSome=true) (h:∀s',Inv X pins σ (upd H a (.dK (nv kvs k))) s'->Q () s'):
  wpAny (model X.prog X.w) A (delItem (.ref a) u) Q E s:=by
 obtain ⟨z,hd,vs,rel,dd⟩:=Dq I.hok e
 refine wpAny_delItem_slot dd.typeIs (by decide) PySem.F.slot_dict_delitem
  (call_meetsIn PySem.F.slot_dict_delitem dd.typeIs PySem.F.entry_dict_delitem (PySem.F.args_dict_delitem_2 _ _) (meets_dict_delitem_pairs (c7 X.prog X.w) a (xR ry)) ⟨vs,dd,by rw [<-rel.length];exact z,by rw [<-(rel.val k).oq];exact l,fun h' Bl hs=>h _ ?_⟩)
 have he:∃q,h'.get? a=some q:=let ⟨q,_,_,hq,_⟩:=Bl;⟨q,hq⟩
 exact Az I (by rw [e];exact True.intro) hs he (JG (fQ (UT kvs k) z) hd (rel.drop k) Bl)
theorem acJ {Q:VS} (I:Inv X pins σ H s) (e:Rd H a (.dK kvs)) (h:∀t s',Inv X pins σ H s'->Q (.int kvs.length t) s'):wpAny (model X.prog X.w) A (call (.builtin "len") [.ref a]) Q E s:=by
 obtain ⟨z,hd,vs,rel,dd⟩:=qR I.hok e
 refine call_len_dict hd dd (by rw [<-rel.length];rw [fm] at z;omega) ?_
 rw [<-rel.length]
 exact h _ _ (I.tok _)
end
def ZQ (i:Expr):Prop:=∀ov iv,subscripted i false ov iv=operate [ov,iv] (getItem ov iv)
variable {E:VS} {env:Env} {value:Expr} {pos:Pos}
theorem XC {prog:Program} {w:World} {slice:Expr} {T id:String} {Q:VS}
  (hl:typeLookup (.type T) "__getitem__"=pure (some (.builtin id))) (hs:ZQ slice)
  (h:wpAny (model prog w) A (eval value env) (fun o s₁=>wpAny (model prog w) A (eval slice env) (fun i s₂=>s₂.TypeIs o T/\wpAny (model prog w) A (getItem o i) Q E s₂) E s₁) E s):
  wpAny (model prog w) A (eval (.Subscript value slice pos) env) Q E s:=by
 refine Subscript_ (gP h (fun o s₁ h₁=>gP h₁ (fun i s₂ h₂=>?_) fun _ _ x=>x) fun _ _ x=>x)
 obtain ⟨hT,h₂⟩:=h₂
 unfold subscriptTail
 refine aq ?_
 rw [getitemInPython_of_ne hT.not_modules]
 refine aq (wpAny_specialOf hT hl ?_)
 have fin:wpAny (model prog w) A (subscripted slice false o i) (fun r s₃=>wpAny (model prog w) A (letTemporaryGo value o r >>= fun _=>pure r) Q E s₃) E s₂:=by
  rw [hs o i]
  exact wpAny_operating (gP h₂ (fun r s₃ h₃=>aq (wpAny_letTemporaryGo (aJ h₃))) fun _ _ x=>x)
 first
  | exact aJ (aq fin)
  | exact aq (aJ (aq fin))
  | exact aq fin
variable {X:Cx}
theorem Mu {o:Option V} (I:Inv X pins σ H s) (g:cV H a y o):s.TypeIs (.ref a) "dict":=by
 rcases g with ⟨kvs,k,e,_,_⟩|⟨kvs,k,b,e,_,_,_⟩
 . obtain ⟨_,_,vs,_,dd⟩:=qR I.hok e
   exact dd.typeIs
 . obtain ⟨_,_,xs,_,dd⟩:=Ay I.hok e
   exact dd.typeIs
inductive UU (Q:VK) (x:V) (y:V) (H2:Hp):Prop
 | mk  (a v:_) (_:x = .ref a) (_:cV H2 a y (some v)) (_:Q v H2)
def ZR (ty:TE) (σ:St) (Q:VK):V->Hp->Prop:=fun x H1=>ty σ H1 (UU Q x)
def acK (td ty:TE):TE:=fun σ H Q=>td σ H (ZR ty σ Q)
inductive XD (Q:VK) (y:V) (x:V) (H2:Hp):Prop
 | mk  (a o:_) (_:x = .ref a) (_:cV H2 a y o) (_:Q (.bl o.isSome) H2)
def acL (td:TE) (σ:St) (Q:VK):V->Hp->Prop:=fun y H1=>td σ H1 (XD Q y)
def agf (ty td:TE):TE:=fun σ H Q=>ty σ H (acL td σ Q)
inductive Qd (Q:VK) (y:V) (x:V) (H2:Hp):Prop
 | mk  (a o:_) (_:x = .ref a) (_:cV H2 a y o) (_:Q (.bl (!o.isSome)) H2)
def UW (td:TE) (σ:St) (Q:VK):V->Hp->Prop:=fun y H1=>td σ H1 (Qd Q y)
def XE (ty td:TE):TE:=fun σ H Q=>ty σ H (UW td σ Q)
inductive UX (D:Ends) (σ:St) (v:V) (x:V) (y:V) (H3:Hp):Prop
 | mk  (a H4:_) (_:x = .ref a) (_:t8 H3 a y v H4) (_:D.nx σ H4)
def UY (ty:TE) (D:Ends) (σ:St) (v:V):V->Hp->Prop:=fun x H2=>ty σ H2 (UX D σ v x)
def ZS (td:TE) (ty:TE) (D:Ends) (σ:St):V->Hp->Prop:=fun v H1=>td σ H1 (UY ty D σ v)
def acM (td ty tv:TE):TS:=fun D σ H=>tv σ H (ZS td ty D σ)
inductive UZ (D:Ends) (σ:St) (x:V) (y:V) (H2:Hp):Prop
 | mk  (a kvs k:_) (_:x = .ref a) (_:H2 a=some (.dK kvs)) (_:y=kV k) (_:(dZ kvs k).isSome=true) (_:D.nx σ (upd H2 a (.dK (nv kvs k))))
def ZT (ty:TE) (D:Ends) (σ:St):V->Hp->Prop:=fun x H1=>ty σ H1 (UZ D σ x)
def acN (td ty:TE):TS:=fun D σ H=>td σ H (ZT ty D σ)
section
variable {X:Cx} {o i e value:Expr} {pos pos' tpos:Pos} {td ty tv:TE}
end
theorem JH {w:World} (h:Heap) (hb:sysModules<h.objs.size):dJ P w H (h.push { cls:= .type "dict",data:= .dict #[] }) h.objs.size (.dK []):=
 ⟨fC _,ET.mpr (bY (dM hb)),[], .nil,Heap.DictOf.new h⟩
def ZU:TE:=fun _ H Q=>∀p,H p=none->Q (.ref p) (upd H p (.dK []))
section
variable {X:Cx} {pos:Pos}
end
def yU:List (TE×TE)->St->Hp->(List (V×V)->Hp->Prop)->Prop
 | [],_,H,Q=>Q [] H
 | (tk,tv)::r,σ,H,Q=>tk σ H fun x H1=>tv σ H1 fun y H2=>yU r σ H2 fun ps H3=>Q ((x,y)::ps) H3
abbrev VV:List (V×V)->List (Value×Value)->Prop:=Paired fun p q=>RelV p.1 q.1/\RelV p.2 q.2
def PPs (X:Cx) (pos:Pos) (keys:List (Option Expr)) (values:List Expr) (Dr:List (TE×TE)):Prop:=
 ∀(pins:AO) (s:Shared) (σ:St) (H:Hp) (Q:List (V×V)->Hp->Prop),Inv X pins σ H s->yU Dr σ H Q->
  wpAny (model X.prog X.w) X.A (evalPairs (pairTrees keys values X.env pos)) (fun vs s'=>∃ps H',Inv X pins σ H' s'/\VV ps vs/\Q ps H') X.xe s
def wN (kvs more:List (Key×V)):List (Key×V):=more.foldl (fun acc kv=>putK acc kv.1 kv.2) kvs
theorem KV.merge:∀{more:List (Key×V)} {rs:List (Key×Value)} {kvs:List (Key×V)} {vs:List (Key×Value)},KV more rs->KV kvs vs->KV (wN kvs more) (merged vs rs):=by
 intro more rs kvs vs r
 unfold KV at r
 induction r generalizing kvs vs with
 | nil=>intro q;exact q
 | @cons p q ps qs h t ih=>
   intro r0
   have e:KV (putK kvs p.1 p.2) (stored vs q.1 q.2):=by
    have:=r0.put p.1 h.2
    rw [<-h.1];exact this
   exact ih e
theorem yz:∀(more kvs:List (Key×V)),(wN kvs more).length<=kvs.length+more.length
 | [],kvs=>by show kvs.length<=kvs.length+0;omega
 | p::r,kvs=>by
   have h1:=yz r (putK kvs p.1 p.2)
   have h2:=vR kvs p.1 p.2
   show (wN (putK kvs p.1 p.2) r).length<=_
   rw [kX];omega
theorem Ds {P:Program} {w:World}:∀{kvs:List (Key×V)} {ws:List (Value×Value)},VV (kvs.map fun kv=>(kV kv.1,kv.2)) ws->∃rs,Carries (c7 P w) ws rs/\KV kvs rs
 | [],_,r=>by rw [List.map_nil] at r;cases r;exact ⟨[],True.intro, .nil⟩
 | p::kvs,_,r=>by
   rw [bJ] at r
   cases r with
   | @cons a b as bs h t=>
     obtain ⟨rs,c,q⟩:=Ds (P:=P) (w:=w) t
     obtain ⟨b1,b2⟩:=b
     exact ⟨(p.1,b2)::rs,⟨xR h.1,Z,c⟩, .cons ⟨Z,h.2⟩ q⟩
def acO (Dr:List (TE×TE)):TE:=fun σ H Q=>∀p,H p=none->yU Dr σ (upd H p (.dK [])) fun ps H2=>H2 p=some (.dK [])/\∃kvs:List (Key×V),ps=kvs.map (fun kv=>(kV kv.1,kv.2))/\kvs.length<=15/\Q (.ref p) (upd H2 p (.dK (wN [] kvs)))
def IsD (H:Hp) (a:Addr):Prop:=(∃kvs,Rd H a (.dK kvs))\/∃kvs,Rd H a (.dT kvs)
theorem JI (I:Inv X pins σ H s) (d:IsD H a):
  s.TypeIs (.ref a) "dict"/\(∀b,Value.ref a = .ref b->∃ob,s.heap.get? b=some ob/\ob.dict=none)/\(a==sysModules)=false:=by
 rcases d with ⟨kvs,e⟩|⟨kvs,e⟩
 . obtain ⟨_,hd,vs,_,dd⟩:=qR I.hok e
   refine ⟨dd.typeIs,fun b q=>?_,hd⟩
   cases q
   obtain ⟨ob,_,_,h1,h2,_⟩:=dd
   exact ⟨ob,h1,h2.2.1⟩
 . obtain ⟨_,hd,xs,_,dd⟩:=Ay I.hok e
   refine ⟨dd.typeIs,fun b q=>?_,hd⟩
   cases q
   obtain ⟨ob,_,_,h1,h2,_⟩:=dd
   exact ⟨ob,h1,h2.2.1⟩
section
variable {X:Cx} {pins:AO} {σ:St} {H:Hp} {s:Shared} {a:Addr} {y d:V} {u r:Value} {o:Option V} {A:Around} {E:VS}
end
section
variable {X:Cx} {o e f:Expr} {apos cpos:Pos} {td ty tx:TE}
end
section
variable {X:Cx} {pins:AO} {σ:St} {H:Hp} {s:Shared} {a:Addr} {kvs:List (Key×V)} {A:Around} {E:VS}
end
section
variable {X:Cx} {pins:AO} {σ:St} {H:Hp} {s:Shared} {a:Addr} {y:V} {u:Value} {A:Around} {E:VS}
end
end L2
namespace Att
open PySem PySem.W PySem.Calls PyProof.Rows
theorem Du {P:Params} {h:Heap}:∀(ns:List Int) (vs:List Value),WellAll P h vs (ns.map WData.int)->IntsAre vs ns:=by
 intro ns
 induction ns with
 | nil=>
   intro vs w
   rw [List.map_nil] at w
   cases w
   exact .nil
 | cons n ns ih=>
   intro vs w
   rw [bJ] at w
   cases w with
   | cons a b=>
     cases a
     exact .cons _ _ (ih _ b)
theorem RU {l:OpenLaw} {n:Nat} (hn:l.most=some n) {P:Params} {h:Heap} {args:List WData} {vals:List Value}
  (hpre:l.row.toRowW.claim.pre args=true) (hwl:WellAll P h vals args):
  ∃a vs ns,vals=[Value.ref a]/\args=[WData.list (ns.map WData.int)]/\h.get? a=some { cls:= .type "list",data:= .seq vs.toArray }/\IntsAre vs ns/\ns.length<=n:=by
 have hsh:WShape.hasAll [] args [.list .int]=true:=(pre_splitW hpre).1
 have hc:l.pre.holds [] { args:=args }=true:=(pre_splitW hpre).2
 obtain ⟨d,r,rfl,h1,h2⟩:=hasAllW_cons hsh
 obtain rfl:=hasAllW_nil h2
 obtain ⟨xs,rfl,h3⟩:=hasW_list h1
 obtain ⟨ns,rfl⟩:=items_int h3
 have hlen:ns.length<=n:=by
  unfold OpenLaw.pre at hc
  have h4:(WTm.not (.lt (.lit (.int (n:Int))) (.len (.arg 0)))).holds [] { args:=[.list (ns.map .int)] }=true:=by
   have h4:=(holds_andW hc).1
   rw [hn] at h4
   exact h4
  have h5:=condW_of h4 (w_not (w_lt w_lit (w_len_list (w_arg rfl))))
  rw [aG] at h5
  refine Nat.le_of_not_lt fun q=>?_
  have q':(n:Int)<((ns.length:Nat):Int):=by omega
  first
   | (rw [cG q'] at h5;exact absurd h5 (by decide))
   | (simp at h5;omega)
 cases hwl with
 | cons w1 w2=>
   cases w2
   cases w1 with
   | list ho hall=>exact ⟨_,_,ns,Z,Z,ho,Du ns _ hall,hlen⟩
theorem RV (l:OpenLaw) (args:List WData):l.row.toRowW.claim.post args (.bool true) args=true:=
 postW_of (r:=l.row.toRowW) (X:=(true==true))
  (show WShape.has [] (.bool true) .bool=true by first|rfl|decide|simp [WShape.has,WShape.arms,WShape.armsAll])
  (show (WTm.eq .res (.lit (.bool true))).value [] { args:=args,res:=some (.bool true),after:=args }=some (.bool (true==true)) from w_eq_bool (w_res rfl) w_lit) rfl
theorem Mv {l:OpenLaw} {n:Nat} {q:Program} {loose:List Str} {XP:(Str->Option Value)->Heap->Prop} {YP:World->Heap->Prop} {d:DefRec}
  (hn:l.most=some n) (hdf:d.params.defaults=[])
  (call:∀(w:World) (s₀ s₁:Shared) (mg mb:SO) (fa:Addr) (o:Obj) (pm cd doc:Value) (a:Addr) (vs:List Value) (ns:List Int),
    Ground q loose [] XP w s₀ mg mb s₁.heap->YP w s₁.heap->
    s₁.heap.get? fa=some o->o.data = .func (docDef d.name d.params d.body d.scope pm cd doc)->s₁.heap.CodeRec cd d.name->mg d.name=some (.ref fa)->
    s₁.heap.get? a=some { cls:= .type "list",data:= .seq vs.toArray }->IntsAre vs ns->ns.length<=n->s₁.gens=#[]->
    codeAny (model l.prog w) callerA (.call (.ref fa) ⟨[.ref a],[]⟩) (fun r s'=>r = .ok (.ret (.bool true))/\OldK s₁.heap s'.heap/\s'.os=s₁.os/\AllBare s'.gens) s₁):
  WalkO q loose XP YP l.row.toRowW d [] (fun f vs=>PySem.call f vs):=by
 intro w s₀ s₁ mg mb G Y fa o pm cd doc dV kV ho hd hcd hD hmg hg args vals as hpre hlay hrd hwl hlo
 obtain rfl:dV = .none:=Dflts.none hD hdf
 obtain rfl:kV = .none:=Dflts.noKw hD
 obtain ⟨a,vs,ns,rfl,rfl,hobj,hints,hlen⟩:=RU hn hpre hwl
 refine enter_call (Ar (call w s₀ s₁ mg mb fa o pm cd doc a vs ns G Y ho (fd_plain hd) hcd hmg hobj hints hlen hg) fun r s' hq=>?_)
 obtain ⟨rfl,h2,h3,h4⟩:=hq
 exact ⟨.inl ⟨.bool true, .bool true,[],Z,fun _=>rfl, .bool true,RV l _,fun _=>⟨List.Pairwise.nil,fun _ hm=>(nomatch hm)⟩⟩,h2,h3,h4⟩
section
variable {prog:Program} {w:World} {A:Around} {E:VS} {s:Shared} {K:Frag}
end
end Att
namespace L2
open PySem PySem.Spec PyProof.Rows
theorem GH:∀{vs:List Value} {ns:List Int},IntsAre vs ns->Vals (ns.map V.int) vs
 | _,_, .nil=> .nil
 | _,_, .cons n t h=> .cons ⟨t,Z⟩ (GH h)
def U0 (H:Hp):Prop:=∀b,H b=none\/∃o xs,H b=some (.fk o (.lst xs))
variable {P:Program} {K:Fg} {mg:SO} {a:Addr} {fd:FuncData} {x:Str} {sp:Sp} {ns:List Int}
theorem U1 {w:World} {mb:SO} {CX:wK} {k:Nat} {fa:Addr} {s₁:Shared} {vs:List Value}
  (KX:K.In s₁.heap) (hns:s₁.heap.Ns mainGlobals mg) (hb:s₁.heap.Ns builtinsNs mb) (hbb:∀x:Str,x ≠ "__name__"->mb x=bootBuiltins x) (hlim:s₁.heap.NoLimit) (hg:s₁.gens=#[])
  (ha:s₁.heap.get? a=some { cls:= .type "list",data:= .seq vs.toArray }) (hi:IntsAre vs ns) (hl:ns.length<=sizeLine) (hr:dB k callerA)
  (F:∀base:Heap,K.In base->base.Ns mainGlobals mg->iZ P w K mg base CX k fa fd [x] sp) (hbind:∀(s:Shared) (u:Value),BindsTo s fd ⟨[u],[]⟩ [(x,u)])
  (oZ:∀H:Hp,U0 H->aB K H a (ns.map V.int)->sp [.ref a] H (fun v _=>v = .bl true) fun _ _ _=>False)
  (ZV:∀H e s',CX [] H s₁ (fun _ _ _=>False) e s'->False):
  codeAny (model P w) callerA (.call (.ref fa) ⟨[.ref a],[]⟩) (fun r s'=>r = .ok (.ret (.bool true))/\OldK s₁.heap s'.heap/\s'.os=s₁.os/\AllBare s'.gens) s₁:=by
 have rv:=GH hi
 have agg:=hi.length
 have core:∀H:Hp,U0 H->aB K H a (ns.map V.int)->gM P w H s₁.heap->(∀b,H b≠none->b=a)->(H a≠none->K.lookup a=none)->
   codeAny (model P w) callerA (.call (.ref fa) ⟨[.ref a],[]⟩) (fun r s'=>r = .ok (.ret (.bool true))/\OldK s₁.heap s'.heap/\s'.os=s₁.os/\AllBare s'.gens) s₁:=by
  intro H hO hS hok hA hK
  have NZ:∀{b:Addr} {o:Obj},s₁.heap.get? b=some o->H b=none->(xP s₁.heap H).get? b=some o:=fun e n=>UA e n
  have RI:∀{b:Addr} {o:Obj} {es:Array DictEntry} {ep:Nat},s₁.heap.get? b=some o->o.data = .dict es ep->H b=none:=fun {b o es ep} e d=>by
   cases q:H b with
   | none=>rfl
   | some u=>
     have e':b=a:=hA b (by rw [q];simp)
     subst e'
     rw [ha] at e;cases e
     have d':Data.seq vs.toArray _=Data.dict es ep:=d
     cases d'
  have Wl:∀{b:Addr} {m:SO},s₁.heap.Ns b m->(xP s₁.heap H).Ns b m:=fun {b m} ⟨o,es,ep,e,d,r⟩=>⟨o,es,ep,NZ e (RI e d),d,r⟩
  have hKb:K.In (xP s₁.heap H):=fun b o e=>NZ (KX b o e) (by
   cases q:H b with
   | none=>rfl
   | some u=>
     have e':b=a:=hA b (by rw [q];simp)
     subst e'
     rw [hK (by rw [q];simp)] at e;cases e)
  have hM:Mod K mg (xP s₁.heap H):=⟨hKb,Wl hns,⟨mb,Wl hb,hbb⟩,let ⟨mc,h1,h2⟩:=hlim;⟨mc,Wl h1,h2⟩⟩
  have e0:B_ P w K mg (xP s₁.heap H) callerA [] s₁ H:=⟨Z,hM,fun b o e=>Xk e,Nat.le_of_eq (Rn _ _),trivial,fun b hb=>absurd (show b∈([] :List Addr) from hb) (by simp),hok, .of_eq hg⟩
  refine Ar ((F _ hKb (Wl hns)).run callerA [] s₁ H ⟨[.ref a],[]⟩ [.ref a] [.ref a] _ _ hr e0 (hbind s₁ (.ref a)) (.cons rfl .nil) (oZ H hO hS)) fun r s' h=>?_
  cases r with
  | error e=>exact (ZV H e s' h).elim
  | ok fl=>
    cases fl with
    | next=>exact False.elim h
    | brk=>exact False.elim h
    | cont=>exact False.elim h
    | ret u=>
      obtain ⟨v,H',os,bare,un,agh,r',q⟩:=h
      have q':v = .bl true:=q
      subst q'
      obtain rfl:u=Value.bool true:=r'
      refine ⟨Z,OldK.of_keep fun b o e=>?_,os,bare⟩
      cases q:H b with
      | none=>exact un.keep b o e q (by intro z;exact absurd (show b∈([] :List Addr) from z) (by simp)) (by simp)
      | some u=>
        rcases hO b with z|⟨ob,xs,z⟩
        . rw [q] at z;cases z
        . have z2:=un.mS b ob _ z
          obtain ⟨e1,_⟩:=hok b _ z
          obtain ⟨e2,_⟩:=agh b _ z2
          rw [e] at e1;cases e1
          exact e2
 cases hk:K.lookup a with
 | some o=>
   have e:=KX a o hk
   rw [ha] at e
   cases e
   refine core (fun _=>none) (fun _=> .inl rfl) (.inr ⟨_,vs.toArray,_,hk,Z,Z,Z,by rw [ie,agg];exact hl,by simpa using rv⟩) (fun b u z=>by have z':(none:Option HO)=some u:=z;cases z') (fun b z=>absurd rfl z) fun z=>absurd rfl z
 | none=>
   refine core (fun b=>if b=a then some (.fk { cls:= .type "list",data:= .seq vs.toArray } (.lst (ns.map V.int))) else none) (fun b=>?_) (.inl (.inr ⟨{ cls:= .type "list",data:= .seq vs.toArray },aC rfl⟩)) (fun b u z=>?_) (fun b z=>?_) fun _=>hk
   . by_cases hb:b=a
     . exact .inr ⟨_,_,aC hb⟩
     . exact .inl (aA hb)
   . by_cases hb:b=a
     . have z':=(aC hb).symm.trans z
       cases z'
       subst hb
       exact ⟨ha,by rw [aG];exact hl,vs,_,rv,ha⟩
     . have z':=(aA hb).symm.trans z
       cases z'
   . by_cases hb:b=a
     . exact hb
     . exact absurd (aA hb) z
variable {n:Nat} {XP:(Str->Option Value)->Heap->Prop} {YP:World->Heap->Prop}
theorem XF {l:PySem.W.OpenLaw} {k:Nat} {q:Program} {loose:List Str} {d:DefRec} {K:Params->Fg} {CX:World->wK} {sp:World->Sp}
  (hn:l.most=some n) (hn2:n<=sizeLine) (hdf:d.params.defaults=[]) (hr:dB k callerA)
  (hY:∀(w:World) (h:Heap),YP w h->(K w.params).In h)
  (F:∀(w:World) (mg:SO) (fa:Addr) (h:Heap),(K w.params).In h->h.Ns mainGlobals mg->mg d.name=some (.ref fa)->
    ∃fd:FuncData,(∀(s:Shared) (u:Value),BindsTo s fd ⟨[u],[]⟩ [(x,u)])/\
     ∀base:Heap,(K w.params).In base->base.Ns mainGlobals mg->iZ l.prog w (K w.params) mg base (CX w) k fa fd [x] (sp w))
  (oZ:∀(w:World) (H:Hp) (a:Addr) (ns:List Int),ns.length<=n->U0 H->aB (K w.params) H a (ns.map V.int)->sp w [.ref a] H (fun v _=>v = .bl true) fun _ _ _=>False)
  (ZV:∀(w:World) (H:Hp) (s:Shared) (e:Value) (s':Shared),CX w [] H s (fun _ _ _=>False) e s'->False):
  PySem.W.WalkO q loose XP YP l.row.toRowW d [] (fun f vs=>PySem.call f vs):=by
 refine Att.Mv hn hdf fun w s₀ s₁ mg mb fa o pm cd doc a vs ns G Y ho hd hcd hmg hobj hints hlen hg=>?_
 have KX:=hY w _ Y
 obtain ⟨fd,hb,hF⟩:=F w mg fa _ KX G.T.g hmg
 exact U1 KX G.T.g G.T.b G.T.builtins G.T.nolimit hg hobj hints (fQ hlen hn2) hr hF hb (fun H hO hS=>oZ w H a ns hlen hO hS) fun H e s'=>ZV w H s₁ e s'
def inClass (s:Stmt) (j:Nat):Stmt:=match s with
 | .ClassDef _ _ _ body _ _ _ _ _ _ _=>body.getD j (.Pass ⟨0,0,0,0⟩)
 | _=> .Pass ⟨0,0,0,0⟩
def dR (s:Stmt):Arguments:=match s with
 | .FunctionDef _ a _ _ _ _ _ _ _ _=>a
 | _=>{ posonlyargs:=[],args:=[],vararg:=none,kwonlyargs:=[],kw_defaults:=[],kwarg:=none,defaults:=[] }
def cE (s:Stmt):List Stmt:=match s with
 | .FunctionDef _ _ b _ _ _ _ _ _ _=>b
 | _=>[]
def ay (s:Stmt):Scope:=match s with
 | .FunctionDef _ _ _ _ _ _ sc _ _ _=>sc
 | _=>{ kind:= .function,names:=[],isGenerator:=false,isCoroutine:=false }
abbrev sW:wK:=fun _ _ _ _ _ _=>False
abbrev E0:XK:=fun _ _ _=>False
structure GI (K:Fg) (x qual:Str) (st:Stmt) (f:Addr) (fd:FuncData):Prop where
 ex:∃(oc:Value) (od:Option Addr) (kV doc pm:Value) (an:Option Addr) (cdv ct:Value) (osl:Array (Option Value)),
  fd=PySem.W.fnOf x qual (dR st) (cE st) (ay st) .none kV doc pm an cdv ct/\K.lookup f=some ⟨oc,od, .func fd,osl⟩/\PySem.W.codeIn K cdv qual=true
 kp:PySem.W.keepIn K (.ref f)=true
variable {qual:Str} {f:Addr} {N ps:List Str} {oc doc pm cdv ct:Value} {od an:Option Addr} {osl:Array (Option Value)}
section
variable {P:Program} {w:World} {K:Fg} {mg:SO} {base:Heap}
theorem GI.ok {st:Stmt} {k:Nat} (F:GI K x qual st f fd) (S:aI N ps (ay st)) (len:∀vs H Q E,sp vs H Q E->vs.length=ps.length)
  (hbody:∀(cdv:Value) (A:Around) (outer:List Env) (s:Shared) (H:Hp) (vs:List V) (Q:VK) (E:XK),dB k (A.deeper (envOfC qual (ay st) s.heap.objs.size f cdv))->sp vs H Q E->
    ∃t,qe (cL sW P w K mg base N qual (ay st) f cdv A outer s H E).Bf (cE st) t/\t { nx:=fun _ H'=>Q .bU H',rt:=Q } (start N vs) H):iZ P w K mg base sW (k+1) f fd ps sp:=by
 obtain ⟨oc,od,kV,doc,pm,an,cdv,ct,osl,rfl,lk,hcd⟩:=F.ex
 refine PY lk hcd S len fun A outer s H vs Q E hr oZ=>?_
 obtain ⟨t,h,q⟩:=hbody cdv A outer s H vs Q E hr oZ
 exact ⟨t,h.Bf,q⟩
theorem GI.binds {st:Stmt} (F:GI K x qual st f fd)
  (h:∀(kV doc pm:Value) (an:Option Addr) (cdv ct:Value) (us:List Value),us.length=ps.length->bindArgs (PySem.W.fnOf x qual (dR st) (cE st) (ay st) .none kV doc pm an cdv ct) ⟨us,[]⟩=pure (ps.zip us)):Binds K fd ps [] :=by
 obtain ⟨oc,od,kV,doc,pm,an,cdv,ct,osl,rfl,lk,hcd⟩:=F.ex
 exact .all (h kV doc pm an cdv ct)
theorem JJ {st:Stmt} {kV:Value} (l:K.lookup f=some ⟨oc,od, .func (PySem.W.fnOf x qual (dR st) (cE st) (ay st) .none kV doc pm an cdv ct),osl⟩)
  (c:PySem.W.codeIn K cdv qual=true) (k:PySem.W.keepIn K (.ref f)=true):GI K x qual st f (PySem.W.fnOf x qual (dR st) (cE st) (ay st) .none kV doc pm an cdv ct):=⟨⟨oc,od,kV,doc,pm,an,cdv,ct,osl,Z,l,c⟩,k⟩
end
variable {A:Around}
theorem bZ {k:Nat} (hr:dB k A):A.units+1<cLine:=Pk (Nat.add_le_add_left (by decide:1<=64) _) hr.units
theorem eY (h:n<=1000):n<sizeLine:=Pk h (by decide)
section
variable {X:Cx}
end
theorem cW {A B:Prop} (h:B):if false=true then A else B:=by
 rw [aA fJ]
 exact h
theorem rO {A B:Prop} (h:A):if true=true then A else B:=by
 rw [aC rfl]
 exact h
theorem eF {c A B:Prop} [Decidable c] (h1:c->A) (h2:¬ c->B):if c then A else B:=by
 by_cases h:c
 . rw [aC h]
   exact h1 h
 . rw [aA h]
   exact h2 h
def aF (H H':Hp):Prop:=∀b o,H b=some o->H' b=some o
theorem aF.refl (H:Hp):aF H H:=fun _ _ h=>h
variable {H H1 H2:Hp}
theorem aF.trans (a:aF H H1) (b:aF H1 H2):aF H H2:=fun c o h=>b c o (a c o h)
variable {H':Hp}
theorem aF.free (e:aF H H') {l:Addr} (h:H' l=Option.none):H l=Option.none:=by
 cases q:H l with
 | none=>rfl
 | some o=>
   rw [e l o q] at h
   cases h
variable {xs:List V}
theorem aF.seq (e:aF H H') (h:aB K H a xs):aB K H' a xs:=by
 rcases h with (h|⟨o,h⟩)|h
 . exact .inl (.inl (e _ _ h))
 . exact .inl (.inr ⟨o,e _ _ h⟩)
 . exact .inr h
section
variable {X:Cx}
theorem vj:gj X (.builtin "len") (fun xs H Q=>∃a kvs,xs=[V.ref a]/\H a=some (.dK kvs)/\Q (.int kvs.length) H):=by
 intro pins s σ H xs us Q I r h
 obtain ⟨a,kvs,rfl,ha,q⟩:=h
 obtain ⟨u,rfl,ru⟩:=vals1 r
 cases ru
 exact acJ I (.inl ha) fun t s' I'=>⟨.int kvs.length,H,I',⟨t,Z⟩,q⟩
end
section
variable {κ:Type} [DecidableEq κ]
theorem U3 {kvs:List (κ×V)} {k:κ} (h:dZ kvs k=none):¬ k∈kvs.map (·.1):=by
 intro m
 obtain ⟨p,hp,e⟩:=cD.mp m
 have q:(kvs.any fun kv=>decide (kv.1=k))=true:=List.any_eq_true.mpr ⟨p,hp,cG e⟩
 rw [qo,h] at q
 exact absurd q (by simp)
theorem ou:∀{l:List κ} {k:κ},l.Nodup->¬ k∈l->(l++[k]).Nodup
 | [],k,_,_=>by simp
 | a::r,k,h,hk=>by
   obtain ⟨h1,h2⟩:=iQ.mp h
   show (a::(r++[k])).Nodup
   refine iQ.mpr ⟨fun m=>?_,ou h2 fun m=>hk (c_.mpr (Or.inr m))⟩
   rcases gh.mp m with q|q
   . exact h1 q
   . exact hk (c_.mpr (Or.inl (fZ.mp q).symm))
theorem XG {kvs:List (κ×V)} {k:κ} (v:V) (hn:(kvs.map (·.1)).Nodup) (h:dZ kvs k=none):((putK kvs k v).map (·.1)).Nodup:=by
 rw [nP v h,bF]
 exact ou hn (U3 h)
end
end L2
set_option maxHeartbeats 4000000
namespace L2
open PySem PySem.Spec PyProof.Rows
variable {n:Nat} {K:Fg}
section
variable {X:Cx}
def AA (_ j:Int):Prop:=0<j/\j.natAbs.log2<9000
theorem gI:gT X (binaryOp .FloorDiv) (rI AA fun i j=> .int (i / j)):=Rt fun i j _ _ _ _ _ hc q=>by
 have h1:(0:Int)<j:=hc.1
 exact floordiv_int (by omega) (by rw [Int.fdiv_eq_ediv_of_nonneg i (by omega)];exact q) (.inl (PyProof.noPylong_of_log2 hc.2))
theorem yV {i j:Int} (h:(decide (0<j) && decide (j.natAbs.log2<9000))=true):AA i j:=by
 obtain ⟨a,b⟩:=kU.mp h
 exact ⟨eE a,eE b⟩
theorem U4 {i j:Int} (h0:0<j) (h:j<2 ^ n) (hn:n<=9000):AA i j:=by
 refine ⟨h0,?_⟩
 have e:(j.natAbs:Int)=j:=by omega
 have h2:j.natAbs<2 ^ n:=by
  have:(j.natAbs:Int)<((2 ^ n:Nat):Int):=by rw [e];simpa using h
  exact Int.ofNat_lt.mp this
 have:=(Nat.log2_lt (n:=j.natAbs) (k:=n) (by omega)).mpr h2
 omega
def Qe (i j:Int):Prop:=∃m n:Nat,i.natAbs<2 ^ m/\j.natAbs<2 ^ n/\m+n<=134217728
theorem jN:gT X (binaryOp .Mult) (rI Qe fun i j=> .int (i*j)):=Rt fun _ _ _ _ _ _ _ hc q=>by
 obtain ⟨m,n,h1,h2,h3⟩:=hc
 exact mul_int q (IntMulOk.of_le (Pd.mpr h1) (Pd.mpr h2) h3)
theorem Mw:gj X (.builtin "isinstance") (fun xs H Q=>∃x n t b,xs=[x, .ty n]/\gx X.K H x t/\PySem.W.kitOne X.K t (.type n)=some b/\Q (.bl b) H):=by
 intro pins s σ H xs us Q I r h
 obtain ⟨x,n,t,b,rfl,ty,e,q⟩:=h
 obtain ⟨u,w',rfl,ru,rw'⟩:=vals2 r
 have rw2:w'=Value.type n:=rw'
 subst rw2
 exact RE I ru ty e fun tk=>⟨.bl b,H,I.tok _,Z,q⟩
theorem ig {n:String}:PySem.W.kitOne K (.type n) (.type n)=some true:=by
 unfold PySem.W.kitOne
 rw [aC (CY _)]
theorem JK:PySem.W.kitOne K (.type "int") (.type "bool")=some false:=by rfl
mutual
inductive Dt (K:Fg) (H:Hp):V->PyData->Prop
 | bU:Dt K H .bU .none
 | bl (b:Bool):Dt K H (.bl b) (.bool b)
 | int (i:Int):Dt K H (.int i) (.int i)
 | str (x:Str):Dt K H (.str x) (.str x)
 | lst {a:Addr} {xs:List V} {ds:List PyData}:aB K H a xs->wO K H xs ds->Dt K H (.ref a) (.list ds)
 | tup {a:Addr} {xs:List V} {ds:List PyData}:cT K H a xs->wO K H xs ds->Dt K H (.ref a) (.tuple ds)
inductive wO (K:Fg) (H:Hp):List V->List PyData->Prop
 | nil:wO K H [] []
 | cons {x:V} {xs:List V} {d:PyData} {ds:List PyData}:Dt K H x d->wO K H xs ds->wO K H (x::xs) (d::ds)
end
section
variable {pins:AO} {σ:St} {H:Hp} {s:Shared}
mutual
theorem Dt.reads (I:Inv X pins σ H s):∀{x:V} {d:PyData} {u:Value},Dt X.K H x d->RelV x u->∃as,Reads s.heap u d as
 | _,_,u, .bU,r=>by cases (show u=Value.none from r);exact ⟨_, .none⟩
 | _,_,u, .bl b,r=>by cases (show u=Value.bool b from r);exact ⟨_, .bool b⟩
 | _,_,u, .int i,r=>by obtain ⟨t,rfl⟩:=(show ∃t,u=Value.int i t from r);exact ⟨_, .int i t⟩
 | _,_,u, .str x,r=>by obtain ⟨t,rfl⟩:=(show ∃t,u=Value.str x t from r);exact ⟨_, .str x t⟩
 | _,_,u,@Dt.lst _ _ a xs ds h hd,r=>by
   cases (show u=Value.ref a from r)
   obtain ⟨its,rv,⟨o,n,e,c,_,d⟩,hz⟩:=I.list h
   obtain ⟨as,ra⟩:=wO.reads I hd rv
   exact ⟨_, .list e c d (by simpa using ra)⟩
 | _,_,u,@Dt.tup _ _ a xs ds h hd,r=>by
   cases (show u=Value.ref a from r)
   obtain ⟨its,rv,⟨o,e,c,n,d⟩,hz⟩:=I.tuple h
   obtain ⟨as,ra⟩:=wO.reads I hd rv
   exact ⟨_, .tuple e c d (by simpa using ra)⟩
theorem wO.reads (I:Inv X pins σ H s):∀{xs:List V} {ds:List PyData} {us:List Value},wO X.K H xs ds->Vals xs us->∃as,ReadsAll s.heap us ds as
 | _,_,_, .nil, .nil=>⟨_, .nil⟩
 | _,_,_, .cons h t, .cons r rs=>by
   obtain ⟨as,ra⟩:=Dt.reads I h r
   obtain ⟨bs,rb⟩:=wO.reads I t rs
   exact ⟨_, .cons ra rb⟩
end
end
inductive U5 (K:Fg) (x:V) (y:V) (H:Hp) (Q:VK):Prop
 | mk  (d e:_) (_:Dt K H x d) (_:Dt K H y e) (_:SeqAt.shaped d=true) (_:SeqAt.shaped e=true) (_:Q (.bl (PyData.eqv d e)) H)
inductive ZW (K:Fg) (x:V) (y:V) (H:Hp) (Q:VK):Prop
 | mk  (d e:_) (_:Dt K H x d) (_:Dt K H y e) (_:SeqAt.shaped d=true) (_:SeqAt.shaped e=true) (_:Q (.bl (!PyData.eqv d e)) H)
theorem ZX (hu:X.A.units+64<cLine):gT X (compareOp .Eq) (U5 X.K):=by
 intro pins s σ H x y v u Q I rx ry h
 obtain ⟨d,e,hd,he,sd,se,q⟩:=h
 obtain ⟨as,ra⟩:=hd.reads I rx
 obtain ⟨bs,rb⟩:=he.reads I ry
 exact eq_dataH ra rb sd se hu ⟨.bl _,H,I,Z,q⟩
theorem ZY (hu:X.A.units+64<cLine):gT X (compareOp .NotEq) (ZW X.K):=by
 intro pins s σ H x y v u Q I rx ry h
 obtain ⟨d,e,hd,he,sd,se,q⟩:=h
 obtain ⟨as,ra⟩:=hd.reads I rx
 obtain ⟨bs,rb⟩:=he.reads I ry
 exact ne_dataH ra rb sd se hu ⟨.bl _,H,I,Z,q⟩
structure Bx (p:Prop):Prop where
 ex:p
def bx (f:Sp):Sp:=fun vs H Q E=>Bx (f vs H Q E)
structure Dn (P:Program) (w:World) (K:Fg) (mg:SO) (base:Heap) (k:Nat) (x:Str) (ps:List Str) (sp:Sp):Prop where
 ex:∃f fd,iZ P w K mg base sW k f fd ps sp/\Binds K fd ps []/\PySem.W.keepIn K (.ref f)=true/\mg x=some (.ref f)
end
structure At (K:Fg) (mg:SO) (x:Str) (st:Stmt) (f:Addr) (fd:FuncData):Prop where
 fn:GI K x x st f fd
 name:mg x=some (.ref f)
variable {P:Program} {mg:SO} {base:Heap} {x:Str} {f:Addr} {fd:FuncData} {N ps:List Str} {sp:Sp}
theorem At.ok {w:World} {st:Stmt} {k:Nat} (F:At K mg x st f fd) (S:aI N ps (ay st)) (len:∀vs H Q E,sp vs H Q E->vs.length=ps.length)
  (hbody:∀(cdv:Value) (A:Around) (outer:List Env) (s:Shared) (H:Hp) (vs:List V) (Q:VK) (E:XK),dB k (A.deeper (envOfC x (ay st) s.heap.objs.size f cdv))->sp vs H Q E->
    ∃t,qe (cL sW P w K mg base N x (ay st) f cdv A outer s H E).Bf (cE st) t/\t { nx:=fun _ H'=>Q .bU H',rt:=Q } (start N vs) H)
  (h:∀(kV doc pm:Value) (an:Option Addr) (cdv ct:Value) (us:List Value),us.length=ps.length->bindArgs (PySem.W.fnOf x x (dR st) (cE st) (ay st) .none kV doc pm an cdv ct) ⟨us,[]⟩=pure (ps.zip us)):
  Dn P w K mg base (k+1) x ps sp:=⟨f,fd,F.fn.ok S len hbody,F.fn.binds h,F.fn.kp,F.name⟩
variable {h:Heap} {oc doc pm cdv ct:Value} {od an:Option Addr} {osl:Array (Option Value)}
theorem Wm {st:Stmt} {kV:Value} (X:K.In h) (G:h.Ns mainGlobals mg)
  (a:PySem.W.nsIn K mainGlobals x=some (some (.ref f))) (l:K.lookup f=some ⟨oc,od, .func (PySem.W.fnOf x x (dR st) (cE st) (ay st) .none kV doc pm an cdv ct),osl⟩)
  (c:PySem.W.codeIn K cdv x=true) (k:PySem.W.keepIn K (.ref f)=true):At K mg x st f (PySem.W.fnOf x x (dR st) (cE st) (ay st) .none kV doc pm an cdv ct):=⟨JJ l c k,kh X G a⟩
theorem aF.tup {H H':Hp} {K:Fg} {a:Addr} {xs:List V} (e:aF H H') (h:cT K H a xs):cT K H' a xs:=by
 rcases h with (h|⟨o,h⟩)|h
 . exact .inl (.inl (e _ _ h))
 . exact .inl (.inr ⟨o,e _ _ h⟩)
 . exact .inr h
variable {H:Hp}
theorem az {p:Addr} (h:H p=none) (o:HO):aF H (upd H p o):=fun b u q=>by rw [av (aH q h)];exact q
theorem small (h:n<=1000):n<=sizeLine:=C5 (eY h)
end L2
namespace Jm
def cf (a b:Int):Int:=(Int.gcd a b:Int)
theorem N1 (a:Int) (h:0<=a):cf a 0=a:=by
 unfold cf;rw [Int.gcd_zero_right];omega
theorem E5 (a b:Int) (h:0<b):cf b (a % b)=cf a b:=by
 unfold cf
 rw [Int.emod_def,Int.gcd_sub_mul_left_right,Int.gcd_comm]
theorem Dv (a b:Int) (h:0<a\/0<b):0<cf a b:=by
 unfold cf
 have:0<Int.gcd a b:=by
  rcases h with h|h
  . exact Int.gcd_pos_of_ne_zero_left _ (by omega)
  . exact Int.gcd_pos_of_ne_zero_right _ (by omega)
 omega
theorem N3 (a b:Int):cf a b=cf b a:=by unfold cf;rw [Int.gcd_comm]
theorem ZZ (a b:Int):cf a (if b<0 then -b else b)=cf a b:=by
 unfold cf;split
 . rw [Int.gcd_neg]
 . rfl
abbrev fr (t b:Int):Rat:=Rat.divInt t b
theorem RW (t b:Int) (h:0<b):(fr t b).num=t / cf b t:=by
 unfold fr cf
 rw [Rat.num_divInt,Int.sign_eq_one_of_pos h,Int.one_mul]
theorem JL (t b:Int) (h:0<b):((fr t b).den:Int)=b / cf b t:=by
 unfold fr cf
 rw [Rat.den_divInt,aA (by omega)]
 rw [Int.natCast_ediv];congr 1;omega
theorem qS (a b:Int):cf a b∣a:=Int.gcd_dvd_left ..
theorem o6 (a b:Int):cf a b∣b:=Int.gcd_dvd_right ..
theorem den_pos (q:Rat):(0:Int)<q.den:=by have:=q.den_pos;omega
theorem XH (q:Rat):fr q.num q.den=q:=Rat.num_divInt_den q
theorem Wn {t b t' b':Int} (h:0<b) (h':0<b') (e:t*b'=t'*b):fr t b=fr t' b':=
 (Rat.divInt_eq_divInt_iff (by omega) (by omega)).mpr e
theorem RX {n d:Int} (h:0<d) (c:cf n d=1):(fr n d).num=n/\((fr n d).den:Int)=d:=by
 rw [RW n d h,JL n d h,N3,c,As,As];exact ⟨Z,Z⟩
theorem RY (t b:Int) (h:0<b):((fr t b).den:Int)<=b:=by
 rw [JL t b h]
 exact Int.ediv_le_self _ (xN h)
def Sz (n:Nat) (x:Int):Prop:=x.natAbs<2 ^ n
theorem Sz.mono {m n:Nat} {x:Int} (h:Sz m x) (hn:m<=n):Sz n x:=kW h (Nat.pow_le_pow_right (by decide) hn)
theorem Sz.of_le {n:Nat} {x y:Int} (h:Sz n y) (hx:x.natAbs<=y.natAbs):Sz n x:=Pk hx h
theorem Sz.mul {m n:Nat} {x y:Int} (hx:Sz m x) (hy:Sz n y):Sz (m+n) (x*y):=by
 unfold Sz at *
 rw [C0,Nat.pow_add]
 exact Nat.mul_lt_mul'' hx hy
theorem Sz.add {m n:Nat} {x y:Int} (hx:Sz m x) (hy:Sz n y):Sz (max m n+1) (x+y):=by
 have h1:=hx.mono (Nat.le_max_left m n)
 have h2:=hy.mono (Nat.le_max_right m n)
 unfold Sz at *
 rw [Nat.pow_succ]
 omega
theorem Sz.kZ {n:Nat} {x y:Int} (hx:Sz n x) (hy:Sz n y):Sz (n+1) (x+y):=by
 have:=hx.add hy
 rwa [Nat.max_self] at this
theorem Sz.m8 {n:Nat} {x B:Int} (h0:-B<=x) (h1:x<=B) (hB:Sz n B):Sz n x:=hB.of_le (by omega)
theorem Sz.ediv {n:Nat} {x y:Int} (h:Sz n x) (hy:0<y):Sz n (x / y):=by
 refine h.of_le ?_
 have e:=Int.emod_add_mul_ediv x y
 have m0:=nt x (b:=y) (by omega)
 have m1:=xF x hy
 rcases C6 x 0 with hx|hx
 . have q0:x / y<0:=Int.ediv_neg_of_neg_of_pos hx hy
   have z:y*(x / y)<=1*(x / y):=Int.mul_le_mul_of_nonpos_right (by omega) (by omega)
   rcases C6 (x / y) x with k|k
   . exfalso
     have z2:y*(x / y)<=y*(x-1):=Gq (by omega) (by omega)
     have z3:y*(x-1)<=1*(x-1)-(y-1):=by
      have z4:(y-1)*(x-1)<=(y-1)*(-2):=Gq (by omega) (by omega)
      have z5:y*(x-1)=(y-1)*(x-1)+(x-1):=by grind
      omega
     omega
   . omega
 . have q0:0<=x / y:=Int.ediv_nonneg hx (by omega)
   have:=Int.ediv_le_self y hx
   omega
theorem Sz.dvd {n:Nat} {x y:Int} (h:Sz n y) (hy:0<y) (hx:0<=x) (d:x∣y):Sz n x:=h.of_le (by have:=Int.le_of_dvd hy d;omega)
theorem RZ {n:Nat}:∀{ws:List Int},(∀m∈ws,Sz n m)->Sz (n+ws.length) ws.sum
 | [],_=>by unfold Sz;show 0<_;exact Nat.two_pow_pos _
 | x::r,h=>by
   have h1:=RZ (ws:=r) fun m hm=>h m (cI _ hm)
   have h2:=((h x cO).mono (Al n r.length)).kZ h1
   rw [cQ]
   exact h2.mono (by rw [kX];omega)
def Dw (c:Int):Nat->Int
 | 0=>c
 | i+1=>Dw c i / 10000000000
def cellOf (ns:List Int) (k:Int):Int:=if 0<(ns.length:Int) then ns.getD (k % ns.length).toNat 0 else 0
def yW (ns:List Int) (k:Int):Int:=if 0<(ns.length:Int) then k / ns.length else 1
def mixed (c k j many:Int):Int:=
 let one:=(c*7919+k*104729+j*1299709+31) % 1000000007
 let two:=(one*48271+c / 1009) % 998244353
 let three:=(two*(one % 9973+1)+j) % 1000000009
 (one*69621+three*40692+three / 1013) % 2147483647 % many
def draw (ns:List Int) (k j many:Int):Int:=
 if yW ns k=0/\1000000000000000000<=cellOf ns k/\0<Dw (cellOf ns k) j.toNat then Dw (cellOf ns k) j.toNat % 10000000000 % many
 else mixed (cellOf ns k) k j many
theorem XI (ns:List Int) (k j many:Int) (h:0<many):0<=draw ns k j many:=by
 unfold draw;split
 . exact nt _ (by omega)
 . exact nt _ (by omega)
theorem XJ (ns:List Int) (k j many:Int) (h:0<many):draw ns k j many<many:=by
 unfold draw;split
 . exact xF _ h
 . exact xF _ h
end Jm
namespace L2
open PySem PySem.Spec PyProof.Rows
inductive acP (K:Fg) (vs:List V) (H:Hp) (Q:VK) (E:XK):Prop
 | mk (a:Addr) (ns:List Int) (k j many:Int) (_:vs=[.ref a, .int k, .int j, .int many]) (_:aB K H a (ns.map V.int)) (_:ns.length<=63) (_:0<=k) (_:0<=j) (_:j<2 ^ 62) (_:0<many) (_:Q (.int (Jm.draw ns k j many)) H)
def lR (K:Fg):Sp:=bx (acP K)
variable {K:Fg} {H:Hp} {a:Addr} {ns:List Int}
theorem cM {Q:VK} {E:XK} {k j many:Int} (hS:aB K H a (ns.map V.int)) (h63:ns.length<=63) (h1:0<=k) (h2:0<=j) (h3:j<2 ^ 62) (h4:0<many)
  (h:∀d:Int,d=Jm.draw ns k j many->0<=d->d<many->Q (.int d) H):lR K [.ref a, .int k, .int j, .int many] H Q E:=
 ⟨a,ns,k,j,many,Z,hS,h63,h1,h2,h3,h4,h _ rfl (Jm.XI ns k j many h4) (Jm.XJ ns k j many h4)⟩
def U6:Sp:=fun vs H Q _=>∃a b:Int,vs=[.int a, .int b]/\0<=a/\0<=b/\Q (.int (Jm.cf a b)) H
abbrev o7 (q:Rat):HO:= .tup [.int q.num, .int (q.den:Int)]
def Dy:Sp:=fun vs H Q _=>∃i:Int,vs=[.int i]/\Q (.bl true) H
def Jd (K:Fg):Sp:=fun vs H Q _=>∃(a:Addr) (ns:List Int),vs=[.ref a]/\aB K H a (ns.map V.int)/\ns.length<=63/\∀H',Q (.bl true) H'
section
variable {X:Cx} {pos:Pos}
def Ends.too (D:Ends) (J:St->Hp->Prop):Ends:={ D with nx:=J }
def acQ (t u:TS) (D:Ends) (σ:St) (J:St->Hp->Prop):Bool->Hp->Prop:=fun b H1=>if b=true then t (D.too J) σ H1 else u (D.too J) σ H1
inductive Z0 (c:TT) (t u:TS) (D:Ends) (σ:St) (H:Hp):Prop
 | mk (J:St->Hp->Prop) (_:c σ H (acQ t u D σ J)) (_:∀σ' H',J σ' H'->D.nx σ' H')
end
theorem t9 {i j:Int} (h0:0<j) (h:Jm.Sz 9000 j):AA i j:=by
 refine ⟨h0,?_⟩
 exact (Nat.log2_lt (by omega)).mpr h
variable {m n:Nat}
theorem i8 {i j:Int} (hi:Jm.Sz m i) (hj:Jm.Sz n j) (h:m+n<=134217728:=by decide):Qe i j:=⟨m,n,hi,hj,h⟩
theorem o8 {x:Int} (h:decide (x.natAbs<2 ^ n)=true):Jm.Sz n x:=by
 unfold Jm.Sz
 exact eE h
theorem XM {k:Int} (h0:0<=k) (h:k<(ns.length:Int)):rG (ns.map V.int) k=some (.int (ns.getD k.toNat 0)):=by
 have hk:k.toNat<ns.length:=by omega
 have ek:k=((k.toNat:Nat):Int):=by omega
 have q:rG (ns.map V.int) ((k.toNat:Nat):Int)=some (.int (ns.getD k.toNat 0)):=bg (by rw [bK,gR,aX hk] <;> rfl)
 rw [<-ek] at q
 exact q
variable {elt iter:Expr} {scope:Scope} {pos:Pos} {env:Env}
section
variable {prog:Program} {w:World} {A:Around} {R:Result->Shared->Prop} {s:Shared}
theorem JM {target:Expr} {it acc:Value} (J:Nat->Shared->Prop)
  (turn:∀n s,J n s->wpAny (model prog w) A (pyNext it) (fun r s₁=>match r with
    | none=>R (.ok .next) s₁
    | some v=>wpAny (model prog w) A (letOwnedTupleGo target it v) (fun _ s₂=>wpAny (model prog w) A (assign target env v) (fun _ s₃=>wpAny (model prog w) A (eval elt env) (fun x s₄=>
            wpAny (model prog w) A (call (.builtin "list.append") [acc,x]) (fun _ s₅=>∃m,m<n/\J m s₅) (fun _ _=>False) s₄) (fun _ _=>False) s₃) (fun _ _=>False) s₂) (fun _ _=>False) s₁) (fun _ _=>False) s)
  (n:Nat) (h:J n s):codeAny (model prog w) A (.compLoop (.ListComp elt [⟨target,iter,[],0⟩] scope pos) 0 it acc env) R s:=by
 refine codeAny_loop rfl J (fun n s hI=>?_) n h
 show wpAny _ A ((compTurn (.ListComp elt [⟨target,iter,[],0⟩] scope pos) 0 it acc env).onRaise (fun x=>do noteFrame x env;theTreesLotGoes x)) _ _ s
 refine wpAny_noted ?_
 rw [compTurn_list1]
 refine aq (Ao (aq (gP (turn n s hI) (fun r s₁ h₁=>?_) fun _ _ h'=>h'.elim)))
 cases r with
 | none=>exact aJ h₁
 | some v=>
   refine aq (gP h₁ (fun _ s₂ h₂=>aq (gP h₂ (fun _ s₃ h₃=>?_) fun _ _ h'=>h'.elim)) fun _ _ h'=>h'.elim)
   exact aq (aq (gP h₃ (fun x s₄ h₄=>aq (gP h₄ (fun _ s₅ h₅=>aJ (aJ ⟨Z,h₅⟩)) fun _ _ h'=>h'.elim)) fun _ _ h'=>h'.elim))
end
theorem tK (h:∀y∈scope.names,y.2 = .free->∃c,env.cells.lookup y.1=some c):
  ∃cl,closureFor scope env=pure cl/\(∀y c,(y,c)∈cl->env.cells.lookup y=some c/\(y,NameKind.free)∈scope.names)/\∀y,(y,NameKind.free)∈scope.names->∃c,(y,c)∈cl:=by
 have gen:∀(names:List (Str×NameKind)) (acc:List (Str×Addr)),(∀y∈names,y.2 = .free->∃c,env.cells.lookup y.1=some c)->
   ∃cl,(forIn names acc fun (x:Str×NameKind) (cs:List (Str×Addr))=>(if (x.2==NameKind.free)=true then do let a <-cellOf env x.1;pure (ForInStep.yield ((x.1,a)::cs)) else pure (ForInStep.yield cs):Sem _))=pure cl/\
    (∀y c,(y,c)∈cl->(env.cells.lookup y=some c/\(y,NameKind.free)∈names)\/(y,c)∈acc)/\(∀p∈acc,p∈cl)/\∀y,(y,NameKind.free)∈names->∃c,(y,c)∈cl:=by
  intro names
  induction names with
  | nil=>intro acc _;exact ⟨acc,by rw [C3],fun y c m=> .inr m,fun p hp=>hp,fun y m=>nomatch m⟩
  | cons x r ih=>
    intro acc hc
    obtain ⟨n,k⟩:=x
    by_cases hk:k = .free
    . subst hk
      obtain ⟨c,ec⟩:=hc (n, .free) cO rfl
      obtain ⟨cl,e,h1,h2,h3⟩:=ih ((n,c)::acc) fun y hy=>hc y (cI _ hy)
      refine ⟨cl,?_,fun y d m=>?_,fun p hp=>h2 p (cI _ hp),fun y m=>?_⟩
      . rw [IT,<-e]
        have acR:cellOf env n=pure c:=by unfold cellOf;rw [ec]
        simp only [CY,qP,acR,pure_bind]
      . rcases h1 y d m with ⟨a,b⟩|b
        . exact .inl ⟨a,cI _ b⟩
        . rcases c_.mp b with z|z
          . cases z;exact .inl ⟨ec,cO⟩
          . exact .inr z
      . rcases c_.mp m with z|z
        . cases z;exact ⟨c,h2 _ cO⟩
        . exact h3 y z
    . obtain ⟨cl,e,h1,h2,h3⟩:=ih acc fun y hy=>hc y (cI _ hy)
      have hb:(k==NameKind.free)=false:=by simpa using hk
      refine ⟨cl,?_,fun y d m=>?_,h2,fun y m=>?_⟩
      . rw [IT,<-e]
        simp only [hb,EY,lE,pure_bind]
      . rcases h1 y d m with ⟨a,b⟩|b
        . exact .inl ⟨a,cI _ b⟩
        . exact .inr b
      . rcases c_.mp m with z|z
        . cases z;exact absurd rfl hk
        . exact h3 y z
 obtain ⟨cl,e,h1,_,h3⟩:=gen scope.names [] h
 refine ⟨cl,?_,fun y c m=>(h1 y c m).elim id (fun z=>nomatch z),h3⟩
 have e2:closureFor scope env=((forIn scope.names ([] :List (Str×Addr)) fun (x:Str×NameKind) (cs:List (Str×Addr))=>(if (x.2==NameKind.free)=true then do let a <-cellOf env x.1;pure (ForInStep.yield ((x.1,a)::cs)) else pure (ForInStep.yield cs):Sem _)) >>= fun r=>pure r):=rfl
 rw [e2,e]
 rfl
theorem lookup_mem {α:Type} {l:List (Str×α)} {y:Str} {c:α} (h:(y,c)∈l):∃d,l.lookup y=some d:=by
 induction l with
 | nil=>cases h
 | cons p r ih=>
   obtain ⟨k,v⟩:=p
   rw [lA]
   cases hb:y==k with
   | true=>exact ⟨v,Z⟩
   | false=>
     rcases c_.mp h with z|z
     . cases z;simp at hb
     . exact ih z
theorem mD:∀(names:List (Str×NameKind)) (n:Nat) (acc:List (Str×Addr)) {x:Str} {c:Addr},(cellsFrom n names acc).lookup x=some c->n<=c\/acc.lookup x=some c
 | [],_,_,_,_,h=> .inr h
 | (name,kind)::r,n,acc,x,c,h=>by
   unfold cellsFrom at h
   split at h
   . rcases mD r (n+1) _ h with z|z
     . exact .inl (by omega)
     . rw [lA] at z
       cases hb:x==name with
       | true=>rw [hb] at z;cases z;exact .inl (aO _)
       | false=>rw [hb] at z;exact .inr z
   . exact mD r n acc h
theorem Hx:∀(names:List (Str×NameKind)) (n n0:Nat) (acc:List (Str×Addr)) {x:Str} {c:Addr},n0<=n->(∀d,acc.lookup x=some d->n0<=d)->(cellsFrom n names acc).lookup x=some c->n0<=c:=by
 intro names n n0 acc x c hn ha h
 rcases mD names n acc h with z|z
 . omega
 . exact ha c z
theorem rP:∀(names:List (Str×NameKind)) (n:Nat) (acc:List (Str×Addr)) {x:Str} {c:Addr},(x,NameKind.cell)∈names->(cellsFrom n names acc).lookup x=some c->n<=c
 | [],_,_,_,_,m,_=>nomatch m
 | (name,kind)::r,n,acc,x,c,m,h=>by
   unfold cellsFrom at h
   rcases c_.mp m with z|z
   . cases z
     rw [aC (by rfl)] at h
     refine Hx r (n+1) n _ (by omega) (fun d hd=>?_) h
     rw [lA,CY] at hd
     cases hd
     exact aO _
   . split at h
     . exact fQ (Nat.le_succ _) (rP r (n+1) _ z h)
     . exact rP r n acc z h
theorem mE:∀(names:List (Str×NameKind)) (n:Nat) (acc:List (Str×Addr)) {x:Str},(∃c,acc.lookup x=some c)->∃c,(cellsFrom n names acc).lookup x=some c
 | [],_,_,_,h=>h
 | (name,kind)::r,n,acc,x,h=>by
   unfold cellsFrom
   split
   . refine mE r (n+1) _ ?_
     rw [lA]
     cases x==name with
     | true=>exact ⟨_,Z⟩
     | false=>exact h
   . exact mE r n acc h
theorem rQ:∀(names:List (Str×NameKind)) (n:Nat) (acc:List (Str×Addr)) {x:Str},(x,NameKind.cell)∈names->∃c,(cellsFrom n names acc).lookup x=some c
 | [],_,_,_,m=>nomatch m
 | (name,kind)::r,n,acc,x,m=>by
   unfold cellsFrom
   rcases c_.mp m with z|z
   . cases z
     rw [aC (by rfl)]
     refine mE r (n+1) _ ⟨n,?_⟩
     rw [lA,CY]
   . split
     . exact rQ r (n+1) _ z
     . exact rQ r n acc z
theorem rR:∀(names:List (Str×NameKind)) (n:Nat) (acc:List (Str×Addr)) {x:Str},(x,NameKind.cell)∉names->(cellsFrom n names acc).lookup x=acc.lookup x
 | [],_,_,_,_=>rfl
 | (name,kind)::r,n,acc,x,m=>by
   have m2:(x,NameKind.cell)∉r:=fun z=>m (cI _ z)
   unfold cellsFrom
   split
   . rename_i hk
     rw [rR r (n+1) _ m2,lA]
     cases hb:x==name with
     | true=>
       have e1:=nu.mp hb
       have e2:kind=NameKind.cell:=by simpa using hk
       subst e1 e2
       exact absurd cO m
     | false=>rfl
   . exact rR r n acc m2
theorem rS:∀(names:List (Str×NameKind)) (n:Nat) (acc:List (Str×Addr)),(∀x y c,acc.lookup x=some c->acc.lookup y=some c->x=y)->(∀x c,acc.lookup x=some c->c<n)->
  ∀x y c,(cellsFrom n names acc).lookup x=some c->(cellsFrom n names acc).lookup y=some c->x=y
 | [],_,_,h,_=>h
 | (name,kind)::r,n,acc,h,hlt=>by
   intro x y c hx hy
   unfold cellsFrom at hx hy
   split at hx
   . rename_i hk
     rw [aC hk] at hy
     refine rS r (n+1) _ (fun x y c hx hy=>?_) (fun x c hx=>?_) x y c hx hy
     . rw [lA] at hx hy
       cases hb:x==name with
       | true=>
         cases hb2:y==name with
         | true=>rw [nu.mp hb,nu.mp hb2]
         | false=>
           rw [hb] at hx;rw [hb2] at hy
           cases hx
           exact absurd (hlt _ _ hy) (je _)
       | false=>
         cases hb2:y==name with
         | true=>
           rw [hb] at hx;rw [hb2] at hy
           cases hy
           exact absurd (hlt _ _ hx) (je _)
         | false=>
           rw [hb] at hx;rw [hb2] at hy
           exact h x y c hx hy
     . rw [lA] at hx
       cases hb:x==name with
       | true=>rw [hb] at hx;cases hx;exact Nat.lt_succ_self _
       | false=>rw [hb] at hx;exact Pu (hlt _ _ hx)
   . rename_i hk
     rw [aA hk] at hy
     exact rS r n acc h hlt x y c hx hy
theorem vS:∀(names:List (Str×NameKind)) (h:Heap) (acc:List (Str×Addr)),(∀x c,acc.lookup x=some c->∃v,h.IsCell c v)->∀x c,(cellsFrom h.objs.size names acc).lookup x=some c->∃v,(pushCells h names).IsCell c v
 | [],_,_,ha=>ha
 | (name,kind)::r,h,acc,ha=>by
   intro x c hx
   unfold cellsFrom at hx
   unfold pushCells
   split at hx
   . rename_i hk
     rw [aC hk]
     have q:=vS r (h.push { cls:= .type "cell",data:= .cell none }) ((name,h.objs.size)::acc) (fun x c hx=>by
      rw [lA] at hx
      cases hb:x==name with
      | true=>rw [hb] at hx;cases hx;exact ⟨none,_,dW _ rfl,Z⟩
      | false=>
        rw [hb] at hx
        obtain ⟨v,z⟩:=ha x c hx
        exact ⟨v,z.keeps fun b o e=>cg _ e⟩) x c
     rw [mC] at q
     exact q hx
   . rename_i hk
     rw [aA hk]
     exact vS r h acc ha x c hx
def c5 (X:Cx) (N2:List Str) (scope:Scope) (cl:List (Str×Addr)) (s₂:Shared) (H₂:Hp) (fp:List Addr):Cx where
 prog:=X.prog
 w:=X.w
 K:=X.K
 mg:=X.mg
 base:=X.base
 A:=X.A
 N:=N2
 s₀:=s₂
 H₀:=H₂
 env:={ scope:=relabel scope X.env,locals:=s₂.heap.objs.size,globals:=X.env.globals,cells:=cellsFrom (s₂.heap.objs.size+1) scope.names cl,qual:=X.env.qual,func:=none,code:=X.env.code,frame:=X.env.frame,builtins:=X.env.builtins }
 outer:=X.stack
 stack:=X.stack
 ex:=fp
 fn:=fun x=>decide (scope.names.lookup x=some .cell)
 calm:=X.calm
 pn:=[]
 xe:=fun _ _=>False
def m9 (XN:List Str) (xn sn:List (Str×NameKind)) (N2:List Str) (ix:List (Option Nat)):Bool:=
 (ix.length==N2.length) &&
 ((ix.zip N2).all fun p=>match p.1 with
   | none=>true
   | some j=>XN[j]?==some p.2 && sn.lookup p.2==some .free && (xn.lookup p.2==some .cell || xn.lookup p.2==some .free)) &&
 (sn.all fun y=>y.2 != .free || (xn.lookup y.1==some .cell || xn.lookup y.1==some .free)) &&
 (sn.all fun y=>y.2 != .local || sn.lookup y.1==some .local) &&
 (sn.all fun y=>y.2 != .free || sn.all fun z=>z.2 != .cell || z.1 != y.1)
variable {x:Str}
theorem Bm {k:NameKind} (h:(relabel scope env).names.lookup x=some k) (hk:k = .cell\/k = .free):(x,NameKind.cell)∈scope.names\/(x,NameKind.free)∈scope.names:=by
 have m:=xD h
 obtain ⟨y,hy,e⟩:=cD.mp m
 obtain ⟨n,k0⟩:=y
 dsimp only at e
 split at e
 . rename_i hc
   cases e
   have h1:k0=NameKind.free:=by
    have:=(kU.mp (kU.mp hc).1).1
    simpa using this
   subst h1
   exact .inr hy
 . cases e
   rcases hk with rfl|rfl
   . exact .inl hy
   . exact .inr hy
theorem JN:∀{x:Str},scope.names.lookup x=some .free->(relabel scope env).names.lookup x=some .cell\/(relabel scope env).names.lookup x=some .free:=by
 intro x h
 have gen:∀(l:List (Str×NameKind)),l.lookup x=some .free->(l.map fun (n,k)=>if (k==NameKind.free && env.scope.kind == .function && env.kindOf n==some .cell) then (n,NameKind.cell) else (n,k)).lookup x=some .cell\/
   (l.map fun (n,k)=>if (k==NameKind.free && env.scope.kind == .function && env.kindOf n==some .cell) then (n,NameKind.cell) else (n,k)).lookup x=some .free:=by
  intro l
  induction l with
  | nil=>intro h;cases h
  | cons p r ih=>
    intro h
    obtain ⟨n,k⟩:=p
    rw [lA] at h
    rw [bJ]
    dsimp only
    cases hb:x==n with
    | true=>
      rw [hb] at h
      cases h
      split
      . rw [lA,hb];exact .inl rfl
      . rw [lA,hb];exact .inr rfl
    | false=>
      rw [hb] at h
      split
      . rw [lA,hb];exact ih h
      . rw [lA,hb];exact ih h
 exact gen scope.names h
variable {X:Cx} {pins:AO} {σ σ2:St} {s:Shared} {N2:List Str} {cl:List (Str×Addr)} {fp:List Addr}
theorem Dz (I:Inv X pins σ H s) (hk:scope.kind = .function)
  (JO:∀y c,(y,c)∈cl->X.env.cells.lookup y=some c) (E6:∀y,(y,NameKind.free)∈scope.names->∃c,(y,c)∈cl) (hfp:∀b∈fp,oW X pins H b) (hfo:∀b∈fp,b<s.heap.objs.size) (hl:σ2.length=N2.length)
  (hσ:∀(i:Nat) (x:Str) (v:V),N2[i]?=some x->σ2[i]?=some (some v)->scope.names.lookup x=some .free/\(X.env.kindOf x=some .cell\/X.env.kindOf x=some .free)/\∃j:Nat,X.N[j]?=some x/\σ[j]?=some (some v))
  (hd:∀x,(x,NameKind.free)∈scope.names->(x,NameKind.cell)∉scope.names):
  Inv (c5 X N2 scope cl s H fp) [] σ2 H { s with heap:=pushCells (s.heap.push { cls:= .type "dict",data:= .dict #[] }) scope.names }:=by
 have keeps:∀b o,s.heap.get? b=some o->(pushCells (s.heap.push { cls:= .type "dict",data:= .dict #[] }) scope.names).get? b=some o:=fun b o e=>IU _ _ b o (cg _ e)
 have hsz:(s.heap.push { cls:= .type "dict",data:= .dict #[] }).objs.size=s.heap.objs.size+1:=mC ..
 have AD:∀x c,cl.lookup x=some c->X.env.cells.lookup x=some c:=fun x c e=>JO x c (xD e)
 have clt:∀x c,cl.lookup x=some c->c<s.heap.objs.size:=fun x c e=>by
  obtain ⟨v,z⟩:=I.cell x c (AD x c e)
  exact z.lt
 have there:=vS scope.names (s.heap.push { cls:= .type "dict",data:= .dict #[] }) cl (fun x c e=>by
  obtain ⟨v,z⟩:=I.cell x c (AD x c e)
  exact ⟨v,z.keeps fun b o e=>cg _ e⟩)
 rw [hsz] at there
 have cells:∀x c,(cellsFrom (s.heap.objs.size+1) scope.names cl).lookup x=some c->s.heap.objs.size+1<=c\/X.env.cells.lookup x=some c:=fun x c e=>by
  rcases mD _ _ _ e with z|z
  . exact .inl z
  . exact .inr (AD x c z)
 have okY:(c5 X N2 scope cl s H fp).Ok:=by
  refine ⟨I.ok.mod,hk,I.ok.glob,I.ok.blt,aO _,?_,?_,?_,I.ok.hd,I.ok.frames, .inl rfl,?_,I.bs,fQ I.ok.C8 I.sz,?_,?_,I.stack,I.wF⟩
  . exact rS _ _ _ (fun x y c hx hy=>I.ok.inj x y c (AD x c hx) (AD y c hy)) fun x c e=>Pu (clt x c e)
  . intro x hx
    have m:(x,NameKind.cell)∈scope.names\/(x,NameKind.free)∈scope.names:=by
     rcases hx with z|z
     . exact Bm z (.inl rfl)
     . exact Bm z (.inr rfl)
    rcases m with m|m
    . exact rQ _ _ _ m
    . obtain ⟨c,mc⟩:=E6 x m
      exact mE _ _ _ (lookup_mem mc)
  . intro x c hf e
    have hf':scope.names.lookup x=some .cell:=eE hf
    exact fQ (Nat.le_succ _) (rP _ _ _ (xD hf') e)
  . intro b hb
    refine ⟨dM (hfo b hb),fun x c e z=>?_⟩
    have hlt:=hfo b hb
    rcases cells x c e with k|k
    . exact absurd (kW hlt (fQ (Nat.le_succ _) (z▸k))) (je _)
    . exact (hfp b hb).2.2.2.2.1 x c k z
  . intro b o e hb
    rcases (hfp b hb).2.2.2.1 with z|z
    . exact I.ok.E2 b o e z
    . exact absurd (kW (bL (I.ok.bs b o e).1) z) (je _)
  . intro b hb hbs
    rcases c_.mp (I.Jt b hbs) with z|z
    . exact (hfp b hb).2.1 z
    . exact (hfp b hb).2.2.1 z
 refine ⟨okY,Z,I.bare,Un.kept keeps,?_,there,I.hok.fresh (aO _),?_,(fun p hp=>nomatch hp),I.hok.kept keeps,hl⟩
 . refine ⟨fun _=>none,(Heap.Ns.new s.heap (.type "dict")).keeps (IU _ _),fun i x v e1 e2 _=>?_⟩
   obtain ⟨hf,hx,j,j1,j2⟩:=hσ i x v e1 e2
   obtain ⟨m,_,hloc⟩:=I.loc
   have hv:Ro X.env.scope x:=hx.elim (fun z=> .inr (.inl z)) fun z=> .inr (.inr z)
   obtain ⟨u,r,lk⟩:=hloc j x v j1 j2 hv
   refine ⟨u,r, .inr ⟨JN hf,?_⟩⟩
   rcases lk with ⟨k,_⟩|⟨_,c,ec,ic⟩
   . rcases hx with z|z <;> rw [z] at k <;> cases k
   . refine ⟨c,?_,ic.keeps keeps⟩
     have mf:=xD hf
     show (cellsFrom (s.heap.objs.size+1) scope.names cl).lookup x=some c
     rw [rR _ _ _ (hd x mf)]
     obtain ⟨c',mc⟩:=E6 x mf
     obtain ⟨d,ed⟩:=lookup_mem mc
     rw [ed]
     have:=AD x d ed
     rw [ec] at this
     exact this.symm
 . intro x c e
   rcases cells x c e with k|k
   . exact I.hok.fresh (by omega)
   . exact I.jD x c k
variable {tg:Expr} {g:TG} {te:TE} {E:VS}
section
variable {X:Cx}
def AE (J:It) (g:TG) (te:TE) (acc:Addr) (σ₀:St) (H:Hp) (Q:VK):Prop:=∃W:Nat->Nat->St->Hp->Prop,
 (∃m,W 0 m σ₀ (upd H acc (.lst [])))/\∀i m σ2 H2,W i m σ2 H2->
   (J.stop i H2/\Q (.ref acc) H2)\/(J.go i H2/\∃(S:St->Prop) (N:V->Hp->Prop),(∀σ3 v H4,S σ3->N v H4->∃xs,H4 acc=some (.lst xs)/\xs.length<sizeLine/\∃m',m'<m/\W (i+1) m' σ3 (upd H4 acc (.lst (xs++[v]))))/\∀x H',J.Dc i H2 x H'->g x σ2 H' fun σ3 H3=>S σ3/\te σ3 H3 N)
inductive t_ (Pv:Nat->List V->Hp->Prop) (i:Nat) (acc:Addr) (out:List V) (v:V) (H4:Hp):Prop
 | mk (_:H4 acc=some (.lst out)) (_:Pv (i+1) (out++[v]) (upd H4 acc (.lst (out++[v]))))
def Wo (te:TE) (σ:St) (Pv:Nat->List V->Hp->Prop) (i:Nat) (acc:Addr) (out:List V):Bool->Hp->Prop:=fun b H2=>if b=true then te σ H2 (t_ Pv i acc out) else H2 acc=some (.lst out)/\Pv (i+1) out H2
def pick (ix:List (Option Nat)) (σ:St):St:=ix.map fun o=>o.bind fun j=>(σ[j]?).join
def Z1 (ix:List (Option Nat)) (g:TG) (te:TE) (σ:St) (Q:VK):It->Hp->Prop:=fun J H1=>∀acc,H1 acc=none->AE J g te acc (pick ix σ) H1 Q
def Wq (wi:TI) (ix:List (Option Nat)) (g:TG) (te:TE):TE:=fun σ H Q=>wi σ H (Z1 ix g te σ Q)
theorem mF {XN:List Str} {xn sn:List (Str×NameKind)} {ix:List (Option Nat)} (h:m9 XN xn sn N2 ix=true):
  ix.length=N2.length/\(∀(i:Nat) (x:Str) (j:Nat),N2[i]?=some x->ix[i]?=some (some j)->XN[j]?=some x/\sn.lookup x=some .free/\(xn.lookup x=some .cell\/xn.lookup x=some .free))/\
  (∀y∈sn,y.2 = .free->xn.lookup y.1=some .cell\/xn.lookup y.1=some .free)/\(∀y∈sn,y.2 = .local->sn.lookup y.1=some .local)/\∀x,(x,NameKind.free)∈sn->(x,NameKind.cell)∉sn:=by
 unfold m9 at h
 obtain ⟨h,h5⟩:=kU.mp h
 obtain ⟨h,h4⟩:=kU.mp h
 obtain ⟨h,h3⟩:=kU.mp h
 obtain ⟨h1,h2⟩:=kU.mp h
 have e1:ix.length=N2.length:=by simpa using h1
 refine ⟨e1,fun i x j a b=>?_,fun y hy e=>?_,fun y hy e=>?_,fun x m1 m2=>?_⟩
 . have m:(some j,x)∈ix.zip N2:=by
    refine bV (i:=i) ?_
    rw [List.getElem?_zip_eq_some]
    exact ⟨b,a⟩
   have q:=oO.mp h2 _ m
   dsimp only at q
   obtain ⟨q,q3⟩:=kU.mp q
   obtain ⟨q1,q2⟩:=kU.mp q
   exact ⟨by simpa using q1,by simpa using q2,(EU.mp q3).imp (fun z=>by simpa using z) fun z=>by simpa using z⟩
 . have q:=oO.mp h3 y hy
   rcases EU.mp q with z|z
   . rw [e] at z;simp at z
   . exact (EU.mp z).imp (fun z=>by simpa using z) fun z=>by simpa using z
 . have q:=oO.mp h4 y hy
   rcases EU.mp q with z|z
   . rw [e] at z;simp at z
   . simpa using z
 . have q:=oO.mp h5 _ m1
   rcases EU.mp q with z|z
   . simp at z
   . have q2:=oO.mp z _ m2
     simp at q2
theorem DA {ix:List (Option Nat)} {Q:VK}
  {RR:Value->Addr->Result->Shared->Prop} (hc:X.calm=true) (hg:∀cl s₂ H₂ fp,PG (c5 X N2 scope cl s₂ H₂ fp) tg g) (he:∀cl s₂ H₂ fp,PE (c5 X N2 scope cl s₂ H₂ fp) elt te)
  (hk:scope.kind = .function) (hn:m9 X.N X.env.scope.names scope.names N2 ix=true)
  (JO:∀y c,(y,c)∈cl->X.env.cells.lookup y=some c) (E6:∀y,(y,NameKind.free)∈scope.names->∃c,(y,c)∈cl)
  {it:Addr} {fp:List Addr} {tn:Nat->Heap->Prop} {J:It} (I:Inv X pins σ H s) (T:Turn X.prog X.w X.K tg J fp it tn) (st:tn 0 s.heap) (f:∀b∈fp,oW X pins H b)
  (h:∀acc,H acc=none->AE J g te acc (ix.map fun o=>o.bind fun j=>(σ[j]?).join) H Q)
  (hR:∀acc C H' s' m,Inv X pins σ H' s'->s'.heap.Ns C m->H' C=none->C≠X.env.locals->X.s₀.heap.objs.size<=C->(∀x c,X.env.cells.lookup x=some c->c≠C)->(∀p∈X.pn++pins,p.1≠C)->Q (.ref acc) H'->RR (.ref acc) C (.ok .next) s'):
  wpAny (model X.prog X.w) X.A (newList []) (fun acc s₃=>wpAny (model X.prog X.w) X.A (newFunctionEnv scope X.env.globals cl [] X.env.qual none .none (some X.env)) (fun cenv s₄=>
   codeAny (model X.prog X.w) X.A (.compStart (.ListComp elt [⟨tg,iter,[],0⟩] scope pos) 0 (.ref it) acc { cenv with scope:=relabel scope X.env }) (RR acc cenv.locals) s₄) E s₃) E s:=by
 obtain ⟨k1,k2,k3,k4,k5⟩:=mF hn
 refine qi ?_
 have I3:Inv X pins σ (upd H s.heap.objs.size (.lst [])) { s with heap:=s.heap.push { cls:= .type "list",data:= .seq ([] :List Value).toArray } }:=
  I.laid (a:=s.heap.objs.size) (o:= .lst []) (t':=s.toks) (fun _ _ q=>cg _ q) (aO _) ⟨fC _,[],_, .nil,dW _ rfl⟩
 obtain ⟨W,⟨m0,w0⟩,turn⟩:=h s.heap.objs.size I.fresh
 have fo:∀b∈fp,b<s.heap.objs.size:=fun b hb=>by
  obtain ⟨o,e,_⟩:=T.obj 0 _ st b hb
  exact bL e
 have st3:tn 0 (s.heap.push { cls:= .type "list",data:= .seq ([] :List Value).toArray }):=T.keep _ _ _ st fun b _ o e=>cg _ e
 have f3:∀b∈fp,oW X pins (upd H s.heap.objs.size (.lst [])) b:=fun b hb=>⟨by rw [av (dM (fo b hb))];exact (f b hb).1,(f b hb).2⟩
 have R0:∀b∈fp,b<(s.heap.push { cls:= .type "list",data:= .seq ([] :List Value).toArray }).objs.size:=fun b hb=>by rw [mC];exact Pu (fo b hb)
 generalize Z2:({ s with heap:=s.heap.push { cls:= .type "list",data:= .seq ([] :List Value).toArray } }:Shared)=s3 at *
 have Z3:s3.heap=s.heap.push { cls:= .type "list",data:= .seq ([] :List Value).toArray }:=by rw [<-Z2]
 rw [<-Z3] at st3 R0
 generalize s.heap.objs.size=acc at *
 generalize eH3:upd H acc (.lst [])=H3 at *
 have IY:=Dz (N2:=N2) (scope:=scope) (cl:=cl) (fp:=fp) (σ2:=ix.map fun o=>o.bind fun j=>(σ[j]?).join) I3 hk JO E6 f3 R0 (by rw [aG];exact k1) (fun i x v e1 e2=>by
  rw [bK] at e2
  cases ei:ix[i]? with
  | none=>rw [ei] at e2;cases e2
  | some o=>
    rw [ei] at e2
    cases o with
    | none=>cases e2
    | some j=>
      obtain ⟨a1,a2,a3⟩:=k2 i x j e1 ei
      refine ⟨a2,a3,j,a1,?_⟩
      have e3:(σ[j]?).join=some v:=iy e2
      cases ej:σ[j]? with
      | none=>rw [ej] at e3;cases e3
      | some z=>rw [ej] at e3;exact h_ some e3) k5
 have ne:wpAny (model X.prog X.w) X.A (newFunctionEnv scope X.env.globals cl [] X.env.qual none .none (some X.env)) (fun cenv s₄=>
   cenv={ scope:=scope,locals:=s3.heap.objs.size,globals:=X.env.globals,cells:=cellsFrom (s3.heap.objs.size+1) scope.names cl,qual:=X.env.qual,func:=none,code:=X.env.code,frame:=X.env.frame,builtins:=X.env.builtins }/\
   s₄={ s3 with heap:=pushCells (s3.heap.push { cls:= .type "dict",data:= .dict #[] }) scope.names }) E s3:=by
  simp only [newFunctionEnv,Option.isSome_some,qP]
  refine aq (wpAny_alloc ?_)
  refine aq (wpAny_layCells _ (fun name kind cells=>by cases hkc:kind==NameKind.cell <;> simp [hkc]) _ _ _ _ ?_)
  rw [C3]
  refine aq (aJ (aJ ⟨?_,Z⟩))
  rw [show ({ s3 with heap:=s3.heap.push { cls:= .type "dict",data:= .dict #[] } }:Shared).heap.objs.size=s3.heap.objs.size+1 from mC ..]
 refine bq ne fun cenv s4 ⟨e1,e2⟩=>?_
 subst e1 e2
 have R1:tn 0 (pushCells (s3.heap.push { cls:= .type "dict",data:= .dict #[] }) scope.names):=T.keep _ _ _ st3 fun b _ o e=>IU _ _ b o (cg _ e)
 have yX:s3.heap.objs.size≠X.env.locals:=xM I3.lt
 have ua:∀{H':Hp},(∀b∈fp,H' b=none)->∀b∈fp,oW (c5 X N2 scope cl s3 H3 fp) [] H' b:=fun {H'} hn b hb=>
  ⟨hn b hb,(IY.ok.Js b hb).1,IY.ok.B0 b hb, .inl hb,(IY.ok.Js b hb).2,fun p hp=>nomatch hp⟩
 have loop:codeAny (model X.prog X.w) X.A (.compLoop (.ListComp elt [⟨tg,iter,[],0⟩] scope pos) 0 (.ref it) (.ref acc) (c5 X N2 scope cl s3 H3 fp).env) (RR (.ref acc) s3.heap.objs.size)
   { s3 with heap:=pushCells (s3.heap.push { cls:= .type "dict",data:= .dict #[] }) scope.names }:=by
  refine JM (fun n s'=>∃i σ' H',Inv (c5 X N2 scope cl s3 H3 fp) [] σ' H' s'/\tn i s'.heap/\(∀b∈fp,H' b=none)/\W i n σ' H') ?_ m0 ⟨0,_,H3,IY,R1,fun b hb=>(f3 b hb).1,w0⟩
  rintro n s5 ⟨i,σ5,H5,I5,wQ,JP,w5⟩
  rcases turn i n σ5 H5 w5 with ⟨stop,qn⟩|⟨go,S,N,Z4,step⟩
  . refine bq (T.done (c5 X N2 scope cl s3 H3 fp) rfl rfl rfl hc i [] s5 σ5 H5 (fun _ _=>False) I5 (ua JP) wQ stop) fun r s6 ⟨hr,I6⟩=>?_
    subst hr
    obtain ⟨m6,Z5,_⟩:=id I6.loc
    have IX:Inv X pins σ H5 s6:=I3.IZ (ch:=fp) I6.os I6.base I6.hok I6.bare fun b hb=>⟨(f3 b hb).2.2.2.1,(f3 b hb).2.1,(f3 b hb).2.2.2.2.1,(f3 b hb).2.2.2.2.2⟩
    refine hR acc s3.heap.objs.size H5 s6 m6 IX Z5 I6.free yX I3.sz (fun x c e z=>?_) (fun p hp z=>?_) qn
    . obtain ⟨v,q⟩:=I3.cell x c e
      exact absurd q.lt (by rw [z];exact je _)
    . exact absurd (bL (I3.pin p hp).1) (by rw [z];exact je _)
  . refine bq (T.item (c5 X N2 scope cl s3 H3 fp) rfl rfl rfl hc i [] s5 σ5 H5 (fun _ _=>False) I5 (ua JP) wQ go) fun r s6 ⟨u,hr,h6⟩=>?_
    subst hr
    refine bq h6 fun _ s7 ⟨x,H7,I7,r7,y7,DB,R3⟩=>?_
    have Z6:=I7.pinned (ua R3) (T.obj _ _ DB)
    refine bq (hg cl s3 H3 fp _ s7 σ5 H7 x u _ Z6 r7 (step x H7 y7)) fun _ s8 ⟨σ8,H8,I8,Wr,q8⟩=>?_
    refine bq (he cl s3 H3 fp _ s8 σ8 H8 _ I8 q8) fun y s9 ⟨v,H9,I9,r9,q9⟩=>?_
    obtain ⟨xs,hxs,Z7,m',hm,w9⟩:=Z4 σ8 v H9 Wr q9
    refine bq (gU _ s9 σ8 H9 (.ref acc) [v] (.ref acc) [y] (fun z JQ=>z = .bU/\JQ=upd H9 acc (.lst (xs++[v]))) I9 rfl (.cons r9 .nil) ⟨acc,xs,v,Z,Z,hxs,Z7,Z,Z⟩) fun z s10 ⟨zv,JQ,JR,r10,ez,eH⟩=>?_
    subst eH
    refine ⟨m',hm,i+1,σ8,_,JR.qm,T.keep _ _ _ DB fun b hb o e=>(JR.pin (b,o) (jy _ (jy _ (jf hb e)))).1,fun b hb=>?_,w9⟩
    obtain ⟨o,e,d⟩:=T.obj _ _ DB b hb
    exact (JR.pin (b,o) (jy _ (jy _ (jf hb e)))).2.1
 exact codeAny_compStart_list loop (T.self _ 0 _ _ _ R1 loop)
end
variable {acc:Addr}
theorem Qf {lo:Int} {k:Nat} {Q:VK} (Pv:Nat->List V->Hp->Prop) (hn:n<=100000) (h0:Pv 0 [] (upd H acc (.lst [])))
  (hs:∀(i:Nat) (out:List V) (H1:Hp),i<n->out.length=i->H1 acc=some (.lst out)->Pv i out H1->te (σ2.set k (some (.int (lo+i)))) H1 (t_ Pv i acc out))
  (hd:∀(out:List V) (H1:Hp),out.length=n->H1 acc=some (.lst out)->Pv n out H1->Q (.ref acc) H1):
  AE (Gw lo n) (gi k) te acc σ2 H Q:=by
 refine ⟨fun i m σ' H'=>m=n-i/\i<=n/\(∀v,σ'.set k (some v)=σ2.set k (some v))/\∃out,out.length=i/\H' acc=some (.lst out)/\Pv i out H',⟨n,by simp,fC _,fun _=>rfl,[],Z,ah,h0⟩,?_⟩
 rintro i m σ' H' ⟨rfl,hi,hσ,out,ho,ha,p⟩
 by_cases hlt:i<n
 . refine .inr ⟨hlt,fun σ3=>∀v,σ3.set k (some v)=σ2.set k (some v),(t_ Pv i acc out),fun σ3 v H4 hS ⟨a,b⟩=>?_,fun x H1 y=>?_⟩
   . refine ⟨out,a,?_,n-(i+1),by omega,Z,hlt,hS,out++[v],by rw [dg,ho];rfl,ah,b⟩
     have:sizeLine=16777216:=fm
     omega
   . obtain ⟨e,y⟩:=y
     subst e y
     refine ⟨fun v=>by rw [vf];exact hσ v,?_⟩
     have q:=hs i out _ hlt ho ha p
     rw [<-hσ] at q
     exact q
 . have e:i=n:=by omega
   subst e
   exact .inl ⟨aO _,hd out H' ho ha p⟩
variable {H':Hp}
theorem aF.cu {p:Addr} (e:aF H H') (h:H p=none) (o:HO):aF H (upd H' p o):=fun b u q=>by rw [av (aH q h)];exact e b u q
theorem Bo (n d:Int):SeqAt.shaped (.tuple [.int n, .int d])=true:=rfl
theorem U7 (n d:Int):PyData.eqv (.tuple [.int n, .int d]) (.tuple [.int n, .int d])=true:=by simp [PyData.eqv,PyData.eqvAll]
variable {q:Rat}
theorem R4 {p:Addr} (h:H p=some (o7 q)):Dt K H (.ref p) (.tuple [.int q.num, .int (q.den:Int)]):= .tup (cT.of h) (.cons (.int _) (.cons (.int _) .nil))
inductive Z8 (vs:List V) (H:Hp) (Q:VK) (E:XK):Prop
 | mk (t b:Int) (_:vs=[.int t, .int b]) (_:0<b) (_:Jm.Sz 9000 b) (_:∀(r:Addr) (H':Hp),aF H H'->H' r=some (o7 (Jm.fr t b))->Q (.ref r) H')
def AF:Sp:=bx (Z8)
theorem GJ {Q:VK} {E:XK} {t b:Int} (h0:0<b) (h1:Jm.Sz 9000 b) (h:∀(r:Addr) (H':Hp),aF H H'->H' r=some (o7 (Jm.fr t b))->Q (.ref r) H'):AF [.int t, .int b] H Q E:=⟨t,b,Z,h0,h1,h⟩
inductive xIs (vs:List V) (H:Hp) (Q:VK) (E:XK):Prop
 | mk (p:Addr) (q:Rat) (t b:Int) (_:vs=[.ref p, .int t, .int b]) (_:H p=some (o7 q)) (_:0<b) (_:Jm.Sz 9000 b) (_:q=Jm.fr t b) (_:∀H',aF H H'->Q (.bl true) H')
def U8:Sp:=bx (xIs)
theorem Z9 {Q:VK} {E:XK} {p:Addr} {t b:Int} (hp:H p=some (o7 q)) (h0:0<b) (h1:Jm.Sz 9000 b) (e:q=Jm.fr t b) (h:∀H',aF H H'->Q (.bl true) H'):U8 [.ref p, .int t, .int b] H Q E:=⟨p,q,t,b,Z,hp,h0,h1,e,h⟩
section
variable {X:Cx}
theorem U9 (hc:X.calm=true):gj X (.builtin "sum") (fun xs H Q=>∃(a:Addr) (ns:List Int),xs=[.ref a]/\aB X.K H a (ns.map V.int)/\Q (.int ns.sum) H):=by
 intro pins s σ H xs us Q I r h
 obtain ⟨a,ns,rfl,hS,q⟩:=h
 obtain ⟨u,rfl,ru⟩:=vals1 r
 cases ru
 obtain ⟨its,rv,p,hz⟩:=I.list hS
 have hi:=intsAre_of rv
 have hl:=p.isList
 obtain ⟨o,ho,_⟩:=id hl
 have hne:a≠s.heap.objs.size:=dM (bL ho)
 have W:=(Walks.list (prog:=X.prog) (w:=X.w) (A:=X.A.in1) (I.ok.hd hc) s.heap.objs.size a hne its.toArray).toS
 have DC:its.length=ns.length:=by rw [<-rv.length,aG]
 refine call_sum_walkAnyS (Pq hl ?_)
 refine ⟨s.heap.objs.size,_,_,_,_,_,_,fun i=>ns.getD i 0,Z,W,⟨⟨_,dW _ rfl,Z,Z⟩,hl.at fun o e=>cg _ e⟩,fun b hb=>?_,fun i v hP=>?_,fun s' t' hm=>?_⟩
 . rcases c_.mp hb with rfl|hb
   . exact bL (dW _ rfl)
   . obtain rfl:=fZ.mp hb
     exact bL (cg _ ho)
 . have R5:its[i]?=some v:=by simpa using hP
   have hil:i<ns.length:=by
    have:=(eU.mp R5).1
    omega
   obtain ⟨u,hu,ru⟩:=rv.get (i:=i) (x:=V.int ns[i]) (by rw [bK,aX hil];rfl)
   rw [R5] at hu
   cases hu
   obtain ⟨t,e⟩:=ru
   refine ⟨t,?_⟩
   rw [e]
   show Value.int ns[i] t=Value.int (ns.getD i 0) t
   rw [gR,aX hil]
   rfl
 . obtain ⟨h',g',d',tk',os'⟩:=s'
   have e1:g'=s.gens:=hm.gens
   have e2:d'=s.drawn:=hm.drawn
   have e3:os'=s.os:=hm.os
   subst e1 e2 e3
   have hsz:its.toArray.size=ns.length:=by rw [ie,DC]
   rw [hsz,preSum_getD,BX (aO _)]
   exact ⟨.int ns.sum,H,I.kept (h':=h') (t':=tk') fun b o e=>hm.heap b o (fun hb=>absurd (bL e) ((fZ.mp hb)▸je _)) (cg _ e),⟨t',Z⟩,q⟩
theorem U_ (hc:X.calm=true):gj X (.builtin "all") (fun xs H Q=>∃(a:Addr) (bs:List Bool),xs=[.ref a]/\aB X.K H a (bs.map V.bl)/\Q (.bl (bs.all id)) H):=by
 intro pins s σ H xs us Q I r h
 obtain ⟨a,bs,rfl,hS,q⟩:=h
 obtain ⟨u,rfl,ru⟩:=vals1 r
 cases ru
 obtain ⟨its,rv,p,hz⟩:=I.list hS
 have hl:=p.isList
 obtain ⟨o,ho,_⟩:=id hl
 have hne:a≠s.heap.objs.size:=dM (bL ho)
 have DC:its.length=bs.length:=by rw [<-rv.length,aG]
 refine call_all_walk (Pq hl ?_)
 refine ⟨s.heap.objs.size,_,_,_,_,_,fun i=>bs.getD i false,Z,Walks.list (prog:=X.prog) (w:=X.w) (A:=X.A.in1) (I.ok.hd hc) s.heap.objs.size a hne its.toArray,⟨⟨_,dW _ rfl,Z,Z⟩,hl.at fun o e=>cg _ e⟩,fun i v s' Q' E' hP hQ=>?_,fun h' tk hk=>?_⟩
 . have R5:its[i]?=some v:=by simpa using hP
   have hil:i<bs.length:=by
    have:=(eU.mp R5).1
    omega
   obtain ⟨u,hu,ru⟩:=rv.get (i:=i) (x:=V.bl bs[i]) (by rw [bK,aX hil];rfl)
   rw [R5] at hu
   cases hu
   have e:v=Value.bool bs[i] :=ru
   subst e
   refine yP ?_
   have hQ2:Q' (bs.getD i false) s':=hQ
   rw [gR,aX hil] at hQ2
   exact hQ2
 . have hsz:its.toArray.size=bs.length:=by rw [ie,DC]
   have e:(List.range its.toArray.size).all (fun i=>bs.getD i false)=bs.all id:=by
    rw [hsz,Am,oO,oO]
    refine ⟨fun z x hx=>?_,fun z i hi=>?_⟩
    . obtain ⟨i,hi,e⟩:=List.mem_iff_getElem.mp hx
      have:=z i (xJ.mpr hi)
      rw [gR,aX hi] at this
      rw [<-e]
      exact this
    . have hi':=xJ.mp hi
      rw [gR,aX hi']
      exact z _ (u_ hi')
   rw [e]
   exact ⟨.bl (bs.all id),H,I.kept (h':=h') (t':=tk) fun b o e=>hk b o (fun hb=>absurd (bL e) ((fZ.mp hb)▸je _)) (cg _ e),Z,q⟩
end
section
variable {X:Cx} (K:Fg)
theorem bQ (hK:X.K=K:=by rfl):yx X (P_ K):=hK▸RL
theorem aQ (hK:X.K=K:=by rfl):yx X (UP K):=hK▸NY
theorem E7 (hu:X.A.units+64<cLine) (hK:X.K=K:=by rfl):gT X (compareOp .Eq) (U5 K):=hK▸ZX hu
theorem N4 (hu:X.A.units+64<cLine) (hK:X.K=K:=by rfl):gT X (compareOp .NotEq) (ZW K):=hK▸ZY hu
theorem jg (hc:X.calm=true) (hK:X.K=K:=by rfl):gj X (.builtin "sum") (fun xs H Q=>∃(a:Addr) (ns:List Int),xs=[.ref a]/\aB K H a (ns.map V.int)/\Q (.int ns.sum) H):=hK▸U9 hc
theorem R6 (hc:X.calm=true) (hK:X.K=K:=by rfl):gj X (.builtin "all") (fun xs H Q=>∃(a:Addr) (bs:List Bool),xs=[.ref a]/\aB K H a (bs.map V.bl)/\Q (.bl (bs.all id)) H):=hK▸U_ hc
theorem bN (hK:X.K=K:=by rfl):gj X (.builtin "len") (fun xs H Q=>∃p ys,xs=[.ref p]/\(aB K H p ys\/cT K H p ys)/\Q (.int ys.length) H):=hK▸JC
theorem ny (hK:X.K=K:=by rfl):gj X (.type "list") (fun xs H Q=>∃p ys,xs=[.ref p]/\(aB K H p ys\/cT K H p ys)/\∀l,H l=none->Q (.ref l) (upd H l (.lst ys))):=hK▸JE
theorem c6 (hK:X.K=K:=by rfl):gj X (.builtin "isinstance") (fun xs H Q=>∃x n t b,xs=[x, .ty n]/\gx K H x t/\PySem.W.kitOne K t (.type n)=some b/\Q (.bl b) H):=hK▸Mw
end
theorem My {l1 l2:Nat} (h1:l1<n) (h2:l2<n):ZipApart (n+4) (n+2) (n+3) n (n+1) l1 l2:=by
 have nn:∀i j:Nat,i≠j->n+i≠n+j:=fun i j h e=>h (Nat.add_left_cancel e)
 have ne:∀(c k:Nat),c<n->c≠n+k:=fun c k h=>by omega
 exact ⟨nn 2 4 (by decide),nn 3 4 (by decide),nn 0 4 (by decide),nn 1 4 (by decide),nn 2 3 (by decide),nn 2 0 (by decide),nn 2 1 (by decide),nn 3 0 (by decide),nn 3 1 (by decide),nn 0 1 (by decide),ne _ 4 h1,ne _ 3 h1,ne _ 0 h1,ne _ 1 h1,ne _ 4 h2,ne _ 3 h2,ne _ 0 h2,ne _ 1 h2⟩
section
variable {X:Cx} {elts:List Expr} {kk:Nat} {tpos:Pos}
end
inductive acS (K:Fg) (vs:List V) (H:Hp) (Q:VK) (E:XK):Prop
 | mk (a:Addr) (ns:List Int) (k j:Int) (_:vs=[.ref a, .int k, .int j]) (_:aB K H a (ns.map V.int)) (_:ns.length<=63) (_:0<=k) (_:0<=j) (_:j<2 ^ 61) (_:∀(m:Int) (H':Hp),1<=m->m<=1000000000->aF H H'->Q (.int m) H')
def JS (K:Fg):Sp:=bx (acS K)
theorem Va {Q:VK} {E:XK} {k j:Int} (hS:aB K H a (ns.map V.int)) (h63:ns.length<=63) (h1:0<=k) (h2:0<=j) (h3:j<2 ^ 61)
  (h:∀(m:Int) (H':Hp),1<=m->m<=1000000000->aF H H'->Q (.int m) H'):JS K [.ref a, .int k, .int j] H Q E:=⟨a,ns,k,j,Z,hS,h63,h1,h2,h3,h⟩
variable {xs:List V} {i:Nat}
theorem i9 {v:V} (h:xs[i]?=some v):rG xs (i:Int)=some v:=bg h
section
variable {X:Cx}
inductive acT (Q:VK) (vs:List V) (H1:Hp):Prop
 | mk  (j:Int) (_:vs=[.int j]) (_:∀p,H1 p=none->Q (.ref p) (upd H1 p (.vh 0 j)))
def agi (ta:TA):TE:=fun σ H Q=>ta σ H (acT Q)
def upTo (n:Nat):List Int:=(List.range n).map fun i=>((i:Nat):Int)
theorem Hy (hc:X.calm=true):gj X (.type "list") (fun xs H Q=>∃(r:Addr) (n:Nat),xs=[.ref r]/\H r=some (.vh 0 (n:Int))/\n<=1000/\∀l,H l=none->Q (.ref l) (upd H l (.lst ((upTo n).map V.int)))):=by
 intro pins s σ H xs us Q I r h
 obtain ⟨a,n,rfl,hr,hn,q⟩:=h
 obtain ⟨u,rfl,ru⟩:=vals1 r
 cases ru
 obtain ⟨t,t2,t3,e⟩:=(show dJ X.prog X.w H s.heap a (.vh 0 (n:Int)) from I.hok a _ hr)
 refine call_list_range (n:=n) (I.ok.hd hc) e (small_one (by decide) (by decide) (by omega) (by omega)) (by rw [rangeSize_one];split <;> omega) (by omega) fun h' tk acc' c' hk hS hI=>?_
 obtain ⟨hsz,hit⟩:=hI
 have hv:Vals ((upTo n).map V.int) acc'.toList:=by
  have gen:∀(m:Nat) (us:List Value) (k:Nat),us.length=m->(∀(j:Nat) (v:Value),us[j]?=some v->∃t,v = .int ((0:Int)+((k+j:Nat):Int)*1) t)->Vals (((List.range' k m).map fun i=>((i:Nat):Int)).map V.int) us:=by
   intro m
   induction m with
   | zero=>intro us k hl _;rw [List.length_eq_zero_iff.mp hl];exact .nil
   | succ m ih=>
     intro us k hl hu
     cases us with
     | nil=>cases hl
     | cons v r=>
       obtain ⟨t,e⟩:=hu 0 v rfl
       refine .cons ⟨t,?_⟩ (ih r (k+1) (by simpa using hl) fun j v' hj=>?_)
       . rw [e]
         show Value.int _ t=Value.int ((k:Nat):Int) t
         congr 1
         omega
       . obtain ⟨t,e⟩:=hu (j+1) v' (by simpa using hj)
         exact ⟨t,by rw [e];congr 1;omega⟩
  have:=gen n acc'.toList 0 (by simpa using hsz) fun j v hj=>by
   obtain ⟨t,e⟩:=hit j v (by simpa using hj)
   exact ⟨t,by rw [e];congr 1;omega⟩
  unfold upTo
  rw [List.range_eq_range']
  exact this
 have hlen:((upTo n).map V.int).length<=sizeLine:=by unfold upTo;simp;exact small (by omega)
 exact ⟨.ref s.heap.objs.size,_,I.laid (a:=s.heap.objs.size) (o:= .lst ((upTo n).map V.int)) (h':=h') (t':=tk) hk (aO _) ⟨hlen,acc'.toList,c',hv,by simpa using hS⟩,Z,q _ I.fresh⟩
inductive XO (K:Fg) (Q:VK) (x:V) (y:V) (H2:Hp):Prop
 | mk  (_:y = .int (-1)) (a xs:_) (_:x = .ref a) (_:aB K H2 a xs) (_:∀p,H2 p=none->Q (.ref p) (upd H2 p (.lst xs.reverse)))
def acU (K:Fg) (ts:TE) (σ:St) (Q:VK):V->Hp->Prop:=fun x H1=>ts σ H1 (XO K Q x)
def agj (K:Fg) (te ts:TE):TE:=fun σ H Q=>te σ H (acU K ts σ Q)
end
theorem wR {k:Nat} (h:k<n):Bj n (k:Int)=some k:=by
 unfold Bj
 rw [aC (by omega),aC (by omega)]
 rfl
abbrev tx (cs:List Nat):Str:=⟨cs.toArray⟩
theorem wU (x:Str):tx x.cps.toList=x:=by cases x;rfl
theorem j9 (cs:List Nat):(tx cs).length=cs.length:=by show cs.toArray.size=_;rw [ie]
theorem R7 (a b:List Nat):(tx a++tx b:Str)=tx (a++b):=by
 show (⟨a.toArray++b.toArray⟩:Str)=_
 simp [tx]
def Ws (cs:List Nat):It:=⟨fun i _=>i<cs.length,fun i H v H'=>H'=H/\∃c,cs[i]?=some c/\v = .str (tx [c]),fun i _=>cs.length<=i⟩
theorem Qg {P:Program} {w:World} {K:Fg} {tg:Expr} (x:Str) (t:Tok) (it:Addr):Turn P w K tg (Ws x.cps.toList) [it] it (fun i h=>h.IsStrIter it "str_ascii_iterator" x t i) where
 mem:=by simp
 obj:=fun i h st b hb=>by
  have e:b=it:=by simpa using hb
  subst e
  obtain ⟨o,e,c,d⟩:=st
  exact ⟨o,e,fun v z=>by rw [d] at z;cases z⟩
 keep:=fun i h h' st k=>let ⟨o,ho,r⟩:=st;⟨o,k it (by simp) o ho,r⟩
 item:=by
  intro X hP hw hK hc i pins s σ H E I hf st hg
  subst hP hw hK
  have hi:i<x.cps.size:=by have hg':i<x.cps.toList.length:=hg;simpa using hg'
  obtain ⟨f0,f1,f2,f3,f4,f5⟩:=hf it (by simp)
  refine wpAny_pyNext_ascii_item st (c:=x.cps[i]) (by simp [hi]) fun h' st' sb=>?_
  have I1:Inv X pins σ H { s with heap:=h',toks:=s.toks+1 }:=I.turned (t':=s.toks+1) (fun b o hb e=>sb.extBut b o hb e) f0 f1 f3 f4 f5
  obtain ⟨o,e,c,d⟩:=id st'
  exact ⟨_,Z,De (s:={ s with heap:=h',toks:=s.toks+1 }) e c d (by decide) ⟨.str (tx [x.cps[i]]),H,I1,⟨_,Z⟩,⟨Z,x.cps[i],by simp [hi],Z⟩,st',fun b hb=>(hf b hb).1⟩⟩
 done:=by
  intro X hP hw hK hc i pins s σ H E I hf st hg
  subst hP hw hK
  have hi:x.cps.size<=i:=by have hg':x.cps.toList.length<=i:=hg;simpa using hg'
  obtain ⟨f0,f1,f2,f3,f4,f5⟩:=hf it (by simp)
  exact wpAny_pyNext_ascii_end (I.ok.hd hc) st (by simp;omega) fun h' eb=>⟨Z,I.turned (t':=s.toks) (fun b o hb e=>eb b o hb e) f0 f1 f3 f4 f5⟩
 self:=fun _ _ _ _ _ st h=>wpAny_pyIter_striter_ascii st h
theorem R8 {P:Program} {w:World} {K:Fg} {tg:Expr} (x:Str) (t:Tok) (it:Addr):Turn P w K tg (Ws x.cps.toList) [it] it (fun i h=>h.IsStrIter it "str_iterator" x t i) where
 mem:=by simp
 obj:=fun i h st b hb=>by
  have e:b=it:=by simpa using hb
  subst e
  obtain ⟨o,e,c,d⟩:=st
  exact ⟨o,e,fun v z=>by rw [d] at z;cases z⟩
 keep:=fun i h h' st k=>let ⟨o,ho,r⟩:=st;⟨o,k it (by simp) o ho,r⟩
 item:=by
  intro X hP hw hK hc i pins s σ H E I hf st hg
  subst hP hw hK
  have hi:i<x.cps.size:=by have hg':i<x.cps.toList.length:=hg;simpa using hg'
  obtain ⟨f0,f1,f2,f3,f4,f5⟩:=hf it (by simp)
  refine wpAny_pyNext_wide_item st (c:=x.cps[i]) (by simp [hi]) fun h' st' sb=>?_
  have I1:Inv X pins σ H { s with heap:=h',toks:=s.toks+1 }:=I.turned (t':=s.toks+1) (fun b o hb e=>sb.extBut b o hb e) f0 f1 f3 f4 f5
  obtain ⟨o,e,c,d⟩:=id st'
  exact ⟨_,Z,De (s:={ s with heap:=h',toks:=s.toks+1 }) e c d (by decide) ⟨.str (tx [x.cps[i]]),H,I1,⟨_,Z⟩,⟨Z,x.cps[i],by simp [hi],Z⟩,st',fun b hb=>(hf b hb).1⟩⟩
 done:=by
  intro X hP hw hK hc i pins s σ H E I hf st hg
  subst hP hw hK
  have hi:x.cps.size<=i:=by have hg':x.cps.toList.length<=i:=hg;simpa using hg'
  obtain ⟨f0,f1,f2,f3,f4,f5⟩:=hf it (by simp)
  exact wpAny_pyNext_wide_end (I.ok.hd hc) st (by simp;omega) fun h' eb=>⟨Z,I.turned (t':=s.toks) (fun b o hb e=>eb b o hb e) f0 f1 f3 f4 f5⟩
 self:=fun _ _ _ _ _ st h=>wpAny_pyIter_striter_wide st h
variable {cs:List Nat}
section
variable {X:Cx} {tg:Expr}
inductive acV (R:It->Hp->Prop) (x:V) (H1:Hp):Prop
 | mk  (cs:List Nat) (_:x = .str (tx cs)) (_:R (Ws cs:_) H1)
def Z_ (te:TE):TI:=fun σ H R=>te σ H (acV R)
theorem aaa {l:Expr} {tl:TE} (hl:PE X l tl):PI X tg l (Z_ tl):=by
 intro pins s σ H R I h
 refine bq (hl pins s σ H _ I h) fun v s1 ⟨x,H1,I1,r1,q1⟩=>?_
 obtain ⟨cs,e,q⟩:=q1
 subst e
 obtain ⟨t,rfl⟩:=r1
 have fp:∀b∈[s1.heap.objs.size],oW X pins H1 b:=fun b hb=>by
  have e:b=s1.heap.objs.size:=by simpa using hb
  subst e
  exact I1.E3 (aO _) (I1.hok.fresh (aO _))
 have tw:=@R8 X.prog X.w X.K tg (tx cs) t s1.heap.objs.size
 have ta:=@Qg X.prog X.w X.K tg (tx cs) t s1.heap.objs.size
 cases ha:(tx cs).cps.all (·<128)
 . exact wpAny_pyIter_wide ha ⟨s1.heap.objs.size,[s1.heap.objs.size],_,_,H1,Z,I1.kept (t':=s1.toks) fun b o e=>cg _ e,tw,⟨_,dW _ rfl,Z,Z⟩,fp,q⟩
 . exact wpAny_pyIter_ascii ha ⟨s1.heap.objs.size,[s1.heap.objs.size],_,_,H1,Z,I1.kept (t':=s1.toks) fun b o e=>cg _ e,ta,⟨_,dW _ rfl,Z,Z⟩,fp,q⟩
theorem Vb {k:Nat} {Q:VK} (Pv:Nat->List V->Hp->Prop) (hn:cs.length<=100000) (h0:Pv 0 [] (upd H acc (.lst [])))
  (hs:∀(i:Nat) (c:Nat) (out:List V) (H1:Hp),cs[i]?=some c->out.length=i->H1 acc=some (.lst out)->Pv i out H1->te (σ2.set k (some (.str (tx [c])))) H1 (t_ Pv i acc out))
  (hd:∀(out:List V) (H1:Hp),out.length=cs.length->H1 acc=some (.lst out)->Pv cs.length out H1->Q (.ref acc) H1):
  AE (Ws cs) (gi k) te acc σ2 H Q:=by
 refine ⟨fun i m σ' H'=>m=cs.length-i/\i<=cs.length/\(∀v,σ'.set k (some v)=σ2.set k (some v))/\∃out,out.length=i/\H' acc=some (.lst out)/\Pv i out H',⟨cs.length,by simp,fC _,fun _=>rfl,[],Z,ah,h0⟩,?_⟩
 rintro i m σ' H' ⟨rfl,hi,hσ,out,ho,ha,p⟩
 by_cases hlt:i<cs.length
 . refine .inr ⟨hlt,fun σ3=>∀v,σ3.set k (some v)=σ2.set k (some v),(t_ Pv i acc out),fun σ3 v H4 hS ⟨a,b⟩=>?_,fun x H1 y=>?_⟩
   . refine ⟨out,a,?_,cs.length-(i+1),by omega,Z,hlt,hS,out++[v],by rw [dg,ho];rfl,ah,b⟩
     have:sizeLine=16777216:=fm
     omega
   . obtain ⟨e,c,hc,ex⟩:=y
     subst e ex
     refine ⟨fun v=>by rw [vf];exact hσ v,?_⟩
     have q2:=hs i c out _ hc ho ha p
     rw [<-hσ] at q2
     exact q2
 . have e:i=cs.length:=by omega
   subst e
   exact .inl ⟨aO _,hd out H' ho ha p⟩
def vU (cs:List Nat) (lo hi:Option Int):List Nat:=(cs.drop (HT.dG cs.length 0 lo)).take (HT.dG cs.length cs.length hi-HT.dG cs.length 0 lo)
theorem Bp (cs:List Nat) (lo hi:Option Int):(vU cs lo hi).length<=cs.length:=by
 unfold vU
 rw [kY,Jq]
 omega
theorem Qh (cs:List Nat) (lo hi:Option Int):Builtin.Str.strSliceIndices lo hi 1 cs.length=(List.range (HT.dG cs.length cs.length hi-HT.dG cs.length 0 lo)).map (HT.dG cs.length 0 lo+·):=by
 rw [<-sliceRange_one]
 unfold Builtin.Str.strSliceIndices
 simp only [show ((1:Int)>0)=True from by simp,qP]
 congr 1
 . cases lo with
   | none=>rfl
   | some i=>
     simp only [HT.dG]
     by_cases h:i<0
     . simp only [h,qP] <;> omega
     . simp only [h,lE] <;> omega
 . cases hi with
   | none=>rfl
   | some i=>
     simp only [HT.dG]
     by_cases h:i<0
     . simp only [h,qP] <;> omega
     . simp only [h,lE] <;> omega
inductive agk (x:V) (lo:Option Int) (hi:Option Int) (H:Hp) (Q:VK):Prop
 | mk  (cs:_) (_:x = .str (tx cs)) (_:cs.length<=sizeLine) (_:Q (.str (tx (vU cs lo hi))) H)
theorem aab:RK X agk:=by
 intro pins s σ H x v vl vu lo hi sl Q I rx hs pl pu h
 obtain ⟨cs,rfl,hz,q⟩:=h
 obtain ⟨t,rfl⟩:=rx
 refine ⟨"str",_,F.slot_str_getitem.lookup,typeIs_str s _ t,?_⟩
 obtain ⟨l,rfl,el⟩:∃l:Option (Int×Tok),vl=partValue l/\l.map (·.1)=lo:=by
  cases pl with
  | none=>exact ⟨none,Z,Z⟩
  | int i t=>exact ⟨some (i,t),Z,Z⟩
 obtain ⟨u,rfl,eu⟩:∃u:Option (Int×Tok),vu=partValue u/\u.map (·.1)=hi:=by
  cases pu with
  | none=>exact ⟨none,Z,Z⟩
  | int i t=>exact ⟨some (i,t),Z,Z⟩
 refine wpAny_getItem_str_slice (l:=l) (u:=u) (st:=none) hs rfl ?_
 have e1:slicePicked (tx cs) l u none=(List.range (HT.dG cs.length cs.length hi-HT.dG cs.length 0 lo)).map (HT.dG cs.length 0 lo+·):=by
  unfold slicePicked
  rw [el,eu,j9]
  exact Qh cs lo hi
 have e2:(slicePicked (tx cs) l u none).filterMap ((tx cs).cps[·]?)=vU cs lo hi:=by
  rw [e1,pick_run]
  rfl
 unfold sliceMade
 split
 . rename_i hc
   have hl:(slicePicked (tx cs) l u none).length=cs.length:=by
    have:=(kU.mp hc).2
    rw [j9] at this
    simpa using this
   have agl:vU cs lo hi=cs:=by
    rw [e1,aG,BZ] at hl
    unfold vU
    have h1:=HT.RJ cs.length cs.length (aO _) hi
    have h0:HT.dG cs.length 0 lo=0\/cs.length=0:=by omega
    rcases h0 with h0|h0
    . rw [h0] at hl ⊢
      rw [List.drop_zero,hl,cA]
    . have:cs=[] :=List.length_eq_zero_iff.mp h0
      subst this
      simp
   rw [agl] at q
   exact ⟨.str (tx cs),H,I,⟨t,Z⟩,q⟩
 . show (Made.str ⟨_⟩).post _ _
   rw [e2]
   refine ⟨?_, .str (tx (vU cs lo hi)),H,I.tok _,⟨_,Z⟩,q⟩
   show (tx (vU cs lo hi)).length<=sizeLine
   rw [j9]
   exact fQ (Bp cs lo hi) hz
end
theorem XQ (cs:List Nat) (k:Nat):vU cs none (some (k:Int))=cs.take k:=by
 unfold vU
 rw [HT.Ca,HT.wL,List.drop_zero,Nat.sub_zero]
 rcases Nat.le_total k cs.length with h|h
 . rw [Nat.min_eq_left h]
 . rw [Nat.min_eq_right h,cA,BX h]
def DE (signs:Str) (c:Nat):Bool:=!(Builtin.Str.occurrences signs (tx [c]) 0 signs.length 1).isEmpty
def lF (c:Int) (n:Nat):List Nat:=(List.range n).map fun i=>97+((c / 26 ^ i) % 26).toNat
theorem xS (c:Int) (n:Nat):(lF c n).length=n:=by unfold lF;rw [aG,BZ]
theorem Vc (c:Int) (n:Nat):lF c (n+1)=lF c n++[97+((c / 26 ^ n) % 26).toNat] :=by
 unfold lF
 rw [List.range_succ,bF]
 rfl
theorem R9 {k:Int} (h0:0<=k) (h1:k<26):rG (("abcdefghijklmnopqrstuvwxyz":Str).cps.toList) k=some (97+k.toNat):=by
 have h:∀n:Nat,n<26->("abcdefghijklmnopqrstuvwxyz":Str).cps.toList[n]?=some (97+n):=by decide +kernel
 have e:k=((k.toNat:Nat):Int):=by omega
 have:=bg (h k.toNat (by omega))
 rw [<-e] at this
 exact this
structure E8 (vs:List V) (H:Hp) (Q:VK) (E:XK):Prop where
 ex:∃(c:Int) (n:Nat),vs=[.int c, .int (n:Int)]/\0<=c/\n<=1000/\Q (.str (tx (lF c n))) H
theorem JT {Q:VK} {E:XK} {c ni:Int} (e:ni=(n:Int)) (hc:0<=c) (hn:n<=1000) (q:Q (.str (tx (lF c n))) H):E8 [.int c, .int ni] H Q E:=by
 subst e
 exact ⟨c,n,Z,hc,hn,q⟩
inductive XR (vs:List V) (H:Hp) (Q:VK) (E:XK):Prop
 | mk (cs:List Nat) (signs:Str) (_:vs=[.str (tx cs), .str signs]) (_:cs.length<=100000) (_:∀H',aF H H'->Q (.bl (cs.all (DE signs))) H')
def Cc:Sp:=bx (XR)
theorem Qi {H:Hp} {Q:VK} {E:XK} {cs:List Nat} {signs:Str} (hl:cs.length<=100000) (q:∀H',aF H H'->Q (.bl (cs.all (DE signs))) H'):Cc [.str (tx cs), .str signs] H Q E:=⟨cs,signs,Z,hl,q⟩
def isName (cs:List Nat):Bool:=decide (1<=(cs.length:Int)) && decide ((cs.length:Int)<=8) && cs.all (DE "abcdefghijklmnopqrstuvwxyz")
inductive XS (vs:List V) (H:Hp) (Q:VK) (E:XK):Prop
 | mk (cs:List Nat) (_:vs=[.str (tx cs)]) (_:cs.length<=100000) (_:∀H',aF H H'->Q (.bl (isName cs)) H')
def xT:Sp:=bx (XS)
theorem DF {Q:VK} {E:XK} (hl:cs.length<=100000) (q:∀H',aF H H'->Q (.bl (isName cs)) H'):xT [.str (tx cs)] H Q E:=⟨cs,Z,hl,q⟩
theorem DG {p q:Prop} (h:if true=true then p else q):p:=by rwa [aC rfl] at h
theorem DH {p q:Prop} (h:if false=true then p else q):q:=by rwa [aA fJ] at h
variable {cond:Expr}
section
variable {prog:Program} {w:World} {A:Around} {R:Result->Shared->Prop} {s:Shared}
theorem Hz {target:Expr} {it acc:Value} (J:Nat->Shared->Prop)
  (turn:∀n s,J n s->wpAny (model prog w) A (pyNext it) (fun r s₁=>match r with
    | none=>R (.ok .next) s₁
    | some v=>wpAny (model prog w) A (letOwnedTupleGo target it v) (fun _ s₂=>wpAny (model prog w) A (assign target env v) (fun _ s₃=>wpAny (model prog w) A (isTrue cond env (eval cond env)) (fun ok s₃'=>if ok=true then
       wpAny (model prog w) A (eval elt env) (fun x s₄=>wpAny (model prog w) A (call (.builtin "list.append") [acc,x]) (fun _ s₅=>∃m,m<n/\J m s₅) (fun _ _=>False) s₄) (fun _ _=>False) s₃'
       else ∃m,m<n/\J m s₃') (fun _ _=>False) s₃) (fun _ _=>False) s₂) (fun _ _=>False) s₁) (fun _ _=>False) s)
  (n:Nat) (h:J n s):codeAny (model prog w) A (.compLoop (.ListComp elt [⟨target,iter,[cond],0⟩] scope pos) 0 it acc env) R s:=by
 refine codeAny_loop rfl J (fun n s hI=>?_) n h
 show wpAny _ A ((compTurn (.ListComp elt [⟨target,iter,[cond],0⟩] scope pos) 0 it acc env).onRaise (fun x=>do noteFrame x env;theTreesLotGoes x)) _ _ s
 refine wpAny_noted ?_
 rw [compTurn_list]
 refine aq (Ao (aq (gP (turn n s hI) (fun r s₁ h₁=>?_) fun _ _ h'=>h'.elim)))
 cases r with
 | none=>exact aJ h₁
 | some v=>
   refine aq (gP h₁ (fun _ s₂ h₂=>aq (gP h₂ (fun _ s₃ h₃=>?_) fun _ _ h'=>h'.elim)) fun _ _ h'=>h'.elim)
   refine aq (wpAny_tests_one (gP h₃ (fun ok s₃' h₃'=>?_) fun _ _ h'=>h'.elim))
   cases ok with
   | false=>exact aJ ⟨Z,DH h₃'⟩
   | true=>exact aq (aq (gP (DG h₃') (fun x s₄ h₄=>aq (gP h₄ (fun _ s₅ h₅=>aJ (aJ ⟨Z,h₅⟩)) fun _ _ h'=>h'.elim)) fun _ _ h'=>h'.elim))
end
variable {tc:TT} {wi:TI} {px pos':Pos}
section
variable {X:Cx}
def DI (J:It) (g:TG) (tc:TT) (te:TE) (acc:Addr) (σ₀:St) (H:Hp) (Q:VK):Prop:=∃W:Nat->Nat->St->Hp->Prop,
 (∃m,W 0 m σ₀ (upd H acc (.lst [])))/\∀i m σ2 H2,W i m σ2 H2->
   (J.stop i H2/\Q (.ref acc) H2)\/(J.go i H2/\∃(S:St->Prop) (N:V->Hp->Prop) (N0:Hp->Prop),(∀σ3 v H4,S σ3->N v H4->∃xs,H4 acc=some (.lst xs)/\xs.length<sizeLine/\∃m',m'<m/\W (i+1) m' σ3 (upd H4 acc (.lst (xs++[v]))))/\
     (∀σ3 H4,S σ3->N0 H4->∃m',m'<m/\W (i+1) m' σ3 H4)/\∀x H',J.Dc i H2 x H'->g x σ2 H' fun σ3 H3=>S σ3/\tc σ3 H3 fun b H4=>if b=true then te σ3 H4 N else N0 H4)
def XT (ix:List (Option Nat)) (g:TG) (tc:TT) (te:TE) (σ:St) (Q:VK):It->Hp->Prop:=fun J H1=>∀acc,H1 acc=none->DI J g tc te acc (pick ix σ) H1 Q
def DJ (wi:TI) (ix:List (Option Nat)) (g:TG) (tc:TT) (te:TE):TE:=fun σ H Q=>wi σ H (XT ix g tc te σ Q)
theorem Bq {ix:List (Option Nat)} {Q:VK}
  {RR:Value->Addr->Result->Shared->Prop} (hc:X.calm=true) (hg:∀cl s₂ H₂ fp,PG (c5 X N2 scope cl s₂ H₂ fp) tg g) (he:∀cl s₂ H₂ fp,PE (c5 X N2 scope cl s₂ H₂ fp) elt te)
  (ht:∀cl s₂ H₂ fp,PT (c5 X N2 scope cl s₂ H₂ fp) cond tc) (hk:scope.kind = .function) (hn:m9 X.N X.env.scope.names scope.names N2 ix=true)
  (JO:∀y c,(y,c)∈cl->X.env.cells.lookup y=some c) (E6:∀y,(y,NameKind.free)∈scope.names->∃c,(y,c)∈cl)
  {it:Addr} {fp:List Addr} {tn:Nat->Heap->Prop} {J:It} (I:Inv X pins σ H s) (T:Turn X.prog X.w X.K tg J fp it tn) (st:tn 0 s.heap) (f:∀b∈fp,oW X pins H b)
  (h:∀acc,H acc=none->DI J g tc te acc (ix.map fun o=>o.bind fun j=>(σ[j]?).join) H Q)
  (hR:∀acc C H' s' m,Inv X pins σ H' s'->s'.heap.Ns C m->H' C=none->C≠X.env.locals->X.s₀.heap.objs.size<=C->(∀x c,X.env.cells.lookup x=some c->c≠C)->(∀p∈X.pn++pins,p.1≠C)->Q (.ref acc) H'->RR (.ref acc) C (.ok .next) s'):
  wpAny (model X.prog X.w) X.A (newList []) (fun acc s₃=>wpAny (model X.prog X.w) X.A (newFunctionEnv scope X.env.globals cl [] X.env.qual none .none (some X.env)) (fun cenv s₄=>
   codeAny (model X.prog X.w) X.A (.compStart (.ListComp elt [⟨tg,iter,[cond],0⟩] scope pos) 0 (.ref it) acc { cenv with scope:=relabel scope X.env }) (RR acc cenv.locals) s₄) E s₃) E s:=by
 obtain ⟨k1,k2,k3,k4,k5⟩:=mF hn
 refine qi ?_
 have I3:Inv X pins σ (upd H s.heap.objs.size (.lst [])) { s with heap:=s.heap.push { cls:= .type "list",data:= .seq ([] :List Value).toArray } }:=
  I.laid (a:=s.heap.objs.size) (o:= .lst []) (t':=s.toks) (fun _ _ q=>cg _ q) (aO _) ⟨fC _,[],_, .nil,dW _ rfl⟩
 obtain ⟨W,⟨m0,w0⟩,turn⟩:=h s.heap.objs.size I.fresh
 have fo:∀b∈fp,b<s.heap.objs.size:=fun b hb=>by
  obtain ⟨o,e,_⟩:=T.obj 0 _ st b hb
  exact bL e
 have st3:tn 0 (s.heap.push { cls:= .type "list",data:= .seq ([] :List Value).toArray }):=T.keep _ _ _ st fun b _ o e=>cg _ e
 have f3:∀b∈fp,oW X pins (upd H s.heap.objs.size (.lst [])) b:=fun b hb=>⟨by rw [av (dM (fo b hb))];exact (f b hb).1,(f b hb).2⟩
 have R0:∀b∈fp,b<(s.heap.push { cls:= .type "list",data:= .seq ([] :List Value).toArray }).objs.size:=fun b hb=>by rw [mC];exact Pu (fo b hb)
 generalize Z2:({ s with heap:=s.heap.push { cls:= .type "list",data:= .seq ([] :List Value).toArray } }:Shared)=s3 at *
 have Z3:s3.heap=s.heap.push { cls:= .type "list",data:= .seq ([] :List Value).toArray }:=by rw [<-Z2]
 rw [<-Z3] at st3 R0
 generalize s.heap.objs.size=acc at *
 generalize eH3:upd H acc (.lst [])=H3 at *
 have IY:=Dz (N2:=N2) (scope:=scope) (cl:=cl) (fp:=fp) (σ2:=ix.map fun o=>o.bind fun j=>(σ[j]?).join) I3 hk JO E6 f3 R0 (by rw [aG];exact k1) (fun i x v e1 e2=>by
  rw [bK] at e2
  cases ei:ix[i]? with
  | none=>rw [ei] at e2;cases e2
  | some o=>
    rw [ei] at e2
    cases o with
    | none=>cases e2
    | some j=>
      obtain ⟨a1,a2,a3⟩:=k2 i x j e1 ei
      refine ⟨a2,a3,j,a1,?_⟩
      have e3:(σ[j]?).join=some v:=iy e2
      cases ej:σ[j]? with
      | none=>rw [ej] at e3;cases e3
      | some z=>rw [ej] at e3;exact h_ some e3) k5
 have ne:wpAny (model X.prog X.w) X.A (newFunctionEnv scope X.env.globals cl [] X.env.qual none .none (some X.env)) (fun cenv s₄=>
   cenv={ scope:=scope,locals:=s3.heap.objs.size,globals:=X.env.globals,cells:=cellsFrom (s3.heap.objs.size+1) scope.names cl,qual:=X.env.qual,func:=none,code:=X.env.code,frame:=X.env.frame,builtins:=X.env.builtins }/\
   s₄={ s3 with heap:=pushCells (s3.heap.push { cls:= .type "dict",data:= .dict #[] }) scope.names }) E s3:=by
  simp only [newFunctionEnv,Option.isSome_some,qP]
  refine aq (wpAny_alloc ?_)
  refine aq (wpAny_layCells _ (fun name kind cells=>by cases hkc:kind==NameKind.cell <;> simp [hkc]) _ _ _ _ ?_)
  rw [C3]
  refine aq (aJ (aJ ⟨?_,Z⟩))
  rw [show ({ s3 with heap:=s3.heap.push { cls:= .type "dict",data:= .dict #[] } }:Shared).heap.objs.size=s3.heap.objs.size+1 from mC ..]
 refine bq ne fun cenv s4 ⟨e1,e2⟩=>?_
 subst e1 e2
 have R1:tn 0 (pushCells (s3.heap.push { cls:= .type "dict",data:= .dict #[] }) scope.names):=T.keep _ _ _ st3 fun b _ o e=>IU _ _ b o (cg _ e)
 have yX:s3.heap.objs.size≠X.env.locals:=xM I3.lt
 have ua:∀{H':Hp},(∀b∈fp,H' b=none)->∀b∈fp,oW (c5 X N2 scope cl s3 H3 fp) [] H' b:=fun {H'} hn b hb=>
  ⟨hn b hb,(IY.ok.Js b hb).1,IY.ok.B0 b hb, .inl hb,(IY.ok.Js b hb).2,fun p hp=>nomatch hp⟩
 have loop:codeAny (model X.prog X.w) X.A (.compLoop (.ListComp elt [⟨tg,iter,[cond],0⟩] scope pos) 0 (.ref it) (.ref acc) (c5 X N2 scope cl s3 H3 fp).env) (RR (.ref acc) s3.heap.objs.size)
   { s3 with heap:=pushCells (s3.heap.push { cls:= .type "dict",data:= .dict #[] }) scope.names }:=by
  refine Hz (fun n s'=>∃i σ' H',Inv (c5 X N2 scope cl s3 H3 fp) [] σ' H' s'/\tn i s'.heap/\(∀b∈fp,H' b=none)/\W i n σ' H') ?_ m0 ⟨0,_,H3,IY,R1,fun b hb=>(f3 b hb).1,w0⟩
  rintro n s5 ⟨i,σ5,H5,I5,wQ,JP,w5⟩
  rcases turn i n σ5 H5 w5 with ⟨stop,qn⟩|⟨go,S,N,N0,Z4,hS0,step⟩
  . refine bq (T.done (c5 X N2 scope cl s3 H3 fp) rfl rfl rfl hc i [] s5 σ5 H5 (fun _ _=>False) I5 (ua JP) wQ stop) fun r s6 ⟨hr,I6⟩=>?_
    subst hr
    obtain ⟨m6,Z5,_⟩:=id I6.loc
    have IX:Inv X pins σ H5 s6:=I3.IZ (ch:=fp) I6.os I6.base I6.hok I6.bare fun b hb=>⟨(f3 b hb).2.2.2.1,(f3 b hb).2.1,(f3 b hb).2.2.2.2.1,(f3 b hb).2.2.2.2.2⟩
    refine hR acc s3.heap.objs.size H5 s6 m6 IX Z5 I6.free yX I3.sz (fun x c e z=>?_) (fun p hp z=>?_) qn
    . obtain ⟨v,q⟩:=I3.cell x c e
      exact absurd q.lt (by rw [z];exact je _)
    . exact absurd (bL (I3.pin p hp).1) (by rw [z];exact je _)
  . refine bq (T.item (c5 X N2 scope cl s3 H3 fp) rfl rfl rfl hc i [] s5 σ5 H5 (fun _ _=>False) I5 (ua JP) wQ go) fun r s6 ⟨u,hr,h6⟩=>?_
    subst hr
    refine bq h6 fun _ s7 ⟨x,H7,I7,r7,y7,DB,R3⟩=>?_
    have Z6:=I7.pinned (ua R3) (T.obj _ _ DB)
    refine bq (hg cl s3 H3 fp _ s7 σ5 H7 x u _ Z6 r7 (step x H7 y7)) fun _ s8 ⟨σ8,H8,I8,Wr,q8⟩=>?_
    refine bq (ht cl s3 H3 fp _ s8 σ8 H8 _ I8 q8) fun ok s9' ⟨H9',Wt,q9'⟩=>?_
    cases ok with
    | false=>
      obtain ⟨m',hm,w9⟩:=hS0 σ8 H9' Wr (DH q9')
      refine ite_ff ⟨m',hm,i+1,σ8,_,Wt.qm,T.keep _ _ _ DB fun b hb o e=>(Wt.pin (b,o) (jy _ (jy _ (jf hb e)))).1,fun b hb=>?_,w9⟩
      obtain ⟨o,e,d⟩:=T.obj _ _ DB b hb
      exact (Wt.pin (b,o) (jy _ (jy _ (jf hb e)))).2.1
    | true=>
      refine ite_tt ?_
      refine bq (he cl s3 H3 fp _ s9' σ8 H9' _ Wt (DG q9')) fun y s9 ⟨v,H9,I9,r9,q9⟩=>?_
      obtain ⟨xs,hxs,Z7,m',hm,w9⟩:=Z4 σ8 v H9 Wr q9
      refine bq (gU _ s9 σ8 H9 (.ref acc) [v] (.ref acc) [y] (fun z JQ=>z = .bU/\JQ=upd H9 acc (.lst (xs++[v]))) I9 rfl (.cons r9 .nil) ⟨acc,xs,v,Z,Z,hxs,Z7,Z,Z⟩) fun z s10 ⟨zv,JQ,JR,r10,ez,eH⟩=>?_
      subst eH
      refine ⟨m',hm,i+1,σ8,_,JR.qm,T.keep _ _ _ DB fun b hb o e=>(JR.pin (b,o) (jy _ (jy _ (jf hb e)))).1,fun b hb=>?_,w9⟩
      obtain ⟨o,e,d⟩:=T.obj _ _ DB b hb
      exact (JR.pin (b,o) (jy _ (jy _ (jf hb e)))).2.1
 exact codeAny_compStart_list loop (T.self _ 0 _ _ _ R1 loop)
theorem Vd (N2:List Str) (ix:List (Option Nat)) (hc:X.calm=true) (hi:PI X tg iter wi)
  (hg:∀cl s₂ H₂ fp,PG (c5 X N2 scope cl s₂ H₂ fp) tg g) (he:∀cl s₂ H₂ fp,PE (c5 X N2 scope cl s₂ H₂ fp) elt te)
  (ht:∀cl s₂ H₂ fp,PT (c5 X N2 scope cl s₂ H₂ fp) cond tc) (hk:scope.kind = .function) (hn:m9 X.N X.env.scope.names scope.names N2 ix=true) (hs:∀x,foldedSetIterable iter X.env x=pure x:=by intro _;rfl):
  PE X (.ListComp elt [⟨tg,iter,[cond],0⟩] scope pos) (DJ wi ix g tc te):=by
 intro pins s σ H Q I h
 obtain ⟨k1,k2,k3,k4,k5⟩:=mF hn
 obtain ⟨cl,JU,c1,c2⟩:=tK (scope:=scope) (env:=X.env) fun y hy e=>I.ok.has y.1 (k3 y hy e)
 rw [eval_ListComp]
 refine O6 (use:=none) rfl hs JU hk k4 (bq (hi pins s σ H _ I h) fun v s1 h1=>bq h1 fun itv s2 h2=>?_)
 obtain ⟨it,fp,tn,J,H2,e,I2,T,st2,f2,h2⟩:=h2
 subst e
 refine Bq (RR:=fun acc C=>compPost (model X.prog X.w) X.A X.xe none (EP X pins σ Q) acc C) (Q:=Q) hc hg he ht hk hn (fun y c m=>(c1 y c m).1) c2 I2 T st2 f2 h2 ?_
 intro acc C H' s' m I' ns yX hL hsz o9 xU q
 exact ⟨m,ns,fun h' hs'=>⟨.ref acc,H',I'.turned (it:=C) (t':=s'.toks) (fun b o hb e=>(hs'.2 b hb).trans e) yX hL (.inr hsz) o9 xU,Z,q⟩⟩
theorem Ve (N2:List Str) (ix:List (Option Nat)) (hN:X.N.Nodup) (hi:X.N[i]?=some x) (hx:X.env.scope.names.lookup x=some .local) (hc:X.calm=true) (hit:PI X tg iter wi)
  (hg:∀cl s₂ H₂ fp,PG (c5 X N2 scope cl s₂ H₂ fp) tg g) (he:∀cl s₂ H₂ fp,PE (c5 X N2 scope cl s₂ H₂ fp) elt te)
  (ht:∀cl s₂ H₂ fp,PT (c5 X N2 scope cl s₂ H₂ fp) cond tc) (hk:scope.kind = .function) (hn:m9 X.N X.env.scope.names scope.names N2 ix=true) (hw:swapsWith (.ListComp elt [⟨tg,iter,[cond],0⟩] scope pos) (some (.Name x px)) pos'.line X.env=pure true) (hs:∀x,foldedSetIterable iter X.env x=pure x:=by intro _;rfl):
  PS X (.Assign [.Name x px] (.ListComp elt [⟨tg,iter,[cond],0⟩] scope pos) pos') (yR (DJ wi ix g tc te) (gi i)):=by
 intro pins s σ H D I h
 obtain ⟨k1,k2,k3,k4,k5⟩:=mF hn
 obtain ⟨cl,JU,c1,c2⟩:=tK (scope:=scope) (env:=X.env) fun y hy e=>I.ok.has y.1 (k3 y hy e)
 rw [exec_Assign_Name_used _ _ _ _ hw]
 refine aq (Ao (aq ?_))
 show wpAny _ X.A (do let _ <-comprehension (.ListComp elt [⟨tg,iter,[cond],0⟩] scope pos) scope X.env _ (newList []) false (eval iter X.env) (some (assign (.Name x px) X.env))) _ _ s
 refine aq (bq (O6 (use:=some (assign (.Name x px) X.env)) (Q:=fun _ s'=>SP X pins D .next s') rfl hs JU hk k4 (bq (hit pins s σ H _ I h) fun v s1 h1=>bq h1 fun itv s2 h2=>?_)) fun _ s' hq=>aJ (aJ hq))
 obtain ⟨it,fp,tn,J,H2,e,I2,T,st2,f2,h2⟩:=h2
 subst e
 refine Bq (RR:=fun acc C=>compPost (model X.prog X.w) X.A X.xe (some (assign (.Name x px) X.env)) (fun _ s'=>SP X pins D .next s') acc C) (Q:=fun v H'=>D.nx (σ.set i (some v)) H') hc hg he ht hk hn (fun y c m=>(c1 y c m).1) c2 I2 T st2 f2 h2 ?_
 intro acc C H' s' m I' ns yX hL hsz o9 xU q
 show wpAny _ X.A (assign (.Name x px) X.env (.ref acc)) _ _ _
 refine wpAny_assign_Name (yQ I' hN hi (.inl hx) (v:= .ref acc) rfl (fun s3 I3 ⟨a,sb,ha⟩=>?_) (.inr hx))
 have ca:C≠a:=by
  rcases ha with z|z
  . rw [z];exact hL
  . exact fun e=>o9 x a z e.symm
 exact ⟨m,ns.sameBut sb ca,fun h' hs'=>⟨_,H',I3.turned (it:=C) (t':=s3.toks) (fun b o hb e=>(hs'.2 b hb).trans e) yX hL (.inr hsz) o9 xU,q⟩⟩
end
theorem JV {α:Type} [DecidableEq α] :∀{l m:List α},l.Nodup->(∀x∈l,x∈m)->l.length<=m.length
 | [],_,_,_=>fC _
 | x::r,m,h,hs=>by
   have hn:=iQ.mp h
   have hx:=hs x cO
   have:=JV (l:=r) (m:=m.erase x) hn.2 fun y hy=>by
    have hne:y≠x:=fun e=>hn.1 (e▸hy)
    exact (List.mem_erase_of_ne hne).mpr (hs y (cI _ hy))
   rw [List.length_erase_of_mem hx] at this
   have hp:0<m.length:=List.length_pos_of_mem hx
   rw [kX]
   omega
theorem R_ (c:Int) (h:i<n):(lF c n)[i]?=some (97+((c / 26 ^ i) % 26).toNat):=by
 unfold lF
 rw [bK,List.getElem?_range h]
 rfl
theorem XU {c c':Int} {d:Nat} (h:d<n) (e:lF c n=lF c' n):(c / 26 ^ d) % 26=(c' / 26 ^ d) % 26:=by
 have h1:=R_ c h
 rw [e,R_ c' h] at h1
 have h2:=iy h1
 have a0:0<=(c / 26 ^ d) % 26:=nt _ (by decide)
 have b0:0<=(c' / 26 ^ d) % 26:=nt _ (by decide)
 omega
structure o_ (x:List Nat):Prop where
 lo:1<=x.length
 hi:x.length<=8
 N5:∀c∈x,97<=c/\c<123
theorem aad (c:Int) (h1:1<=n) (h2:n<=8):o_ (lF c n):=by
 refine ⟨by rw [xS];exact h1,by rw [xS];exact h2,fun x hx=>?_⟩
 obtain ⟨i,_,rfl⟩:=cD.mp hx
 have a0:0<=(c / 26 ^ i) % 26:=nt _ (by decide)
 have a1:(c / 26 ^ i) % 26<26:=xF _ (by decide)
 omega
def rH (nss:List (List Nat)):List V:=nss.map fun x=>V.str (tx x)
theorem Vf (nss:List (List Nat)):(rH nss).all qQ=true:=by
 unfold rH
 rw [List.all_map,oO]
 exact fun _ _=>rfl
theorem Sa {a b:List Nat} (h:tx a=tx b):a=b:=by
 have:a.toArray=b.toArray:=by injection h
 simpa using this
theorem N6 (x:List Nat) (nss:List (List Nat)):JA (.str (tx x)) (rH nss)=decide (x∈nss):=by
 unfold JA rH
 rw [List.any_map,Am,List.any_eq_true,decide_eq_true_eq]
 constructor
 . rintro ⟨y,hy,e⟩
   have e2:yy (.str (tx y)) (.str (tx x))=true:=e
   have e3:tx y=tx x:=by
    unfold yy at e2
    simpa using e2
   rw [<-Sa e3]
   exact hy
 . intro h
   refine ⟨x,h,?_⟩
   show yy (.str (tx x)) (.str (tx x))=true
   unfold yy
   simp
theorem XW (x:Str):PyData.eqv (.str x) (.str x)=true:=by unfold PyData.eqv;exact CY x
open PySem.NumText
section
variable {X:Cx}
end
section
variable {X:Cx} {tg:Expr}
end
theorem XX (signs:Str) (c:Nat):DE signs c=decide (c∈signs.cps.toList):=PySem.StrLaws.found_one signs c
open Builtin Builtin.Str
section
variable {X:Cx}
end
theorem N7 (c:Int) (j d:Nat):(c+(j:Int)*26 ^ d) / 26 ^ d=c / 26 ^ d+(j:Int):=by
 have hp:(26:Int) ^ d≠0:=Int.ne_of_gt (Int.pow_pos (by decide))
 rw [Int.add_mul_ediv_right _ _ hp]
variable {nss:List (List Nat)} {t:Nat}
theorem Sb {c:Int} {d:Nat} (h2:d<n) (ht:t<=26) (h:∀j:Nat,j<t->lF (c+(j:Int)*26 ^ d) n∈nss):t<=nss.length:=by
 have hn:((List.range t).map fun j=>lF (c+((j:Nat):Int)*26 ^ d) n).Nodup:=by
  have:(List.range t).Pairwise (fun a b=>a<b):=List.pairwise_lt_range
  refine List.Pairwise.map _ ?_ (List.Pairwise.and_mem.mp this)
  rintro a b ⟨ha,hb,hab⟩ e
  have ha':=xJ.mp ha
  have hb':=xJ.mp hb
  have:=XU h2 e
  rw [N7,N7] at this
  omega
 have:=JV hn fun x hx=>by
  obtain ⟨j,hj,rfl⟩:=cD.mp hx
  exact h j (xJ.mp hj)
 rw [aG,BZ] at this
 exact this
inductive aae (K:Fg) (vs:List V) (H:Hp) (Q:VK) (E:XK):Prop
 | mk (a:Addr) (ms:List Int) (k:Int) (many:Nat) (_:vs=[.ref a, .int k, .int (many:Int)]) (_:aB K H a (ms.map V.int)) (_:ms.length<=63) (_:0<=k) (_:many<=25) (_:∀(z:Addr) (nss:List (List Nat)) (H':Hp),aF H H'->H' z=some (.lst (rH nss))->H z=none->nss.length=many->nss.Nodup->(∀x∈nss,o_ x)->Q (.ref z) H')
def E9 (K:Fg):Sp:=bx (aae K)
theorem GK {Q:VK} {E:XK} {ms:List Int} {k mi:Int} {many:Nat} (hmi:mi=(many:Int)) (hS:aB K H a (ms.map V.int)) (h63:ms.length<=63) (h1:0<=k) (h2:many<=25)
  (h:∀(z:Addr) (nss:List (List Nat)) (H':Hp),aF H H'->H' z=some (.lst (rH nss))->H z=none->nss.length=many->nss.Nodup->(∀x∈nss,o_ x)->Q (.ref z) H'):E9 K [.ref a, .int k, .int mi] H Q E:=by
 subst hmi
 exact ⟨a,ms,k,many,Z,hS,h63,h1,h2,h⟩
theorem wV {a:List (Key×V)} {b:List (Key×Value)} (r:KV a b):∀{j:Nat} {p:Key×V},a[j]?=some p->∃q,b[j]?=some q/\p.1=q.1/\RelV p.2 q.2:=by
 induction r with
 | nil=>intro j p z;simp at z
 | cons r1 _ ih=>
   intro j p z
   cases j with
   | zero=>simp at z;subst z;exact ⟨_,Z,r1⟩
   | succ j=>simp at z;obtain ⟨q,a1,a2⟩:=ih z;exact ⟨q,by simpa using a1,a2⟩
abbrev oz (H:Hp) (d:Addr) (o:Obj) (kvs:List (Key×V)):Prop:=H d=some (.fk o (.dK kvs))
section
variable {X:Cx} {pins:AO} {σ σ':St} {H H':Hp} {s s':Shared} {d:Addr} {kvs:List (Key×V)} {o:Obj}
theorem Inv.freeze (I:Inv X pins σ H s) (e:H d=some (.dK kvs)) (ho:s.heap.get? d=some o):Inv X pins σ (upd H d (.fk o (.dK kvs))) s:=by
 have nd:∀{b:Addr},H b=none->b≠d:=fun h z=>by rw [z,e] at h;cases h
 have dn:∀{b:Addr},H b=none->upd H d (.fk o (.dK kvs)) b=none:=fun h=>by rw [av (nd h)];exact h
 have un:∀{b:Addr} {u:HO},H b=some u->(∀k,u ≠ .dK k)->b≠d:=fun h k z=>by rw [z,e] at h;cases h;exact k _ rfl
 refine ⟨I.ok,I.os,I.bare,⟨I.base.keep,I.base.slot,fun b ob q n x=>dn (I.base.free b ob q n x),I.base.there,fun b xs q=>?_,fun b ob u q=>?_,fun b ps q=>?_⟩,I.loc,I.cell,dn I.free,fun x c q=>dn (I.jD x c q),fun p hp=>?_,fun b ob q=>?_,I.len⟩
 . have:=I.base.tups b xs q
   rw [av (un this fun k z=>by cases z)];exact this
 . have:=I.base.mS b ob u q
   rw [av (un this fun k z=>by cases z)];exact this
 . obtain ⟨more,this⟩:=I.base.oV b ps q
   exact ⟨more,by rw [av (un this fun k z=>by cases z)];exact this⟩
 . obtain ⟨h1,h2,h3⟩:=I.pin p hp
   exact ⟨h1,dn h2,h3⟩
 . by_cases hb:b=d
   . subst hb
     rw [ah] at q;cases q
     have:=I.hok b _ e
     exact ⟨ho,this⟩
   . rw [av hb] at q
     refine (I.hok b ob q).stay (fun c u _ z=>z) (fun c z=>?_) fun c xs z=>?_
     . rw [av (un z fun k z=>by cases z)];exact z
     . rw [av (un z fun k z=>by cases z)];exact z
theorem Inv.Cd (I:Inv X pins σ H s) (e:oz H d o kvs) (h0:∀o u,X.H₀ d≠some (.fk o u)):Inv X pins σ (upd H d (.dK kvs)) s:=by
 have nd:∀{b:Addr},H b=none->b≠d:=fun h z=>by rw [z] at h;exact absurd (h.symm.trans e) (by simp)
 have dn:∀{b:Addr},H b=none->upd H d (.dK kvs) b=none:=fun h=>by rw [av (nd h)];exact h
 have un:∀{b:Addr} {u:HO},H b=some u->(∀o k,u ≠ .fk o k)->b≠d:=fun h k z=>by rw [z] at h;have:=h.symm.trans e;cases this;exact k _ _ rfl
 refine ⟨I.ok,I.os,I.bare,⟨I.base.keep,I.base.slot,fun b ob q n x=>dn (I.base.free b ob q n x),I.base.there,fun b xs q=>?_,fun b ob u q=>?_,fun b ps q=>?_⟩,I.loc,I.cell,dn I.free,fun x c q=>dn (I.jD x c q),fun p hp=>?_,fun b ob q=>?_,I.len⟩
 . have:=I.base.tups b xs q
   rw [av (un this fun _ k z=>by cases z)];exact this
 . have:=I.base.mS b ob u q
   rw [av (fun (z:b=d)=>h0 ob u (by rw [<-z];exact q))];exact this
 . obtain ⟨more,this⟩:=I.base.oV b ps q
   exact ⟨more,by rw [av (un this fun _ k z=>by cases z)];exact this⟩
 . obtain ⟨h1,h2,h3⟩:=I.pin p hp
   exact ⟨h1,dn h2,h3⟩
 . by_cases hb:b=d
   . subst hb
     rw [ah] at q;cases q
     exact (I.hok b _ e).2
   . rw [av hb] at q
     refine (I.hok b ob q).stay (fun c u _ z=>z) (fun c z=>?_) fun c xs z=>?_
     . rw [av (un z fun _ k z=>by cases z)];exact z
     . rw [av (un z fun _ k z=>by cases z)];exact z
theorem Inv.Sd (I:Inv X pins σ H s) (e:H d=some (.dK kvs)):∀o u,X.H₀ d≠some (.fk o u):=fun o u z=>by
 have:=I.base.mS d o u z
 rw [e] at this;cases this
theorem Inv.qT (I:Inv X pins σ H s) (e:oz H d o kvs):s.heap.get? d=some o/\kvs.length<=sizeLine/\(d==sysModules)=false/\∃vs ep,KV kvs vs/\s.heap.DictAt (c7 X.prog X.w) d vs ep:=by
 obtain ⟨ho,hz,hs,vs,r,dd⟩:=(show dJ X.prog X.w H s.heap d (.fk o (.dK kvs)) from I.hok d _ e)
 obtain ⟨ep,da⟩:=dd.dictAt
 exact ⟨ho,hz,hs,vs,ep,r,da⟩
end
def Ends.Cd (D:Ends) (d:Addr) (o:Obj) (kvs:List (Key×V)):Ends where
 nx:=fun σ H=>oz H d o kvs/\D.nx σ (upd H d (.dK kvs))
 rt:=fun v H=>oz H d o kvs/\D.rt v (upd H d (.dK kvs))
 bk:=fun σ H=>oz H d o kvs/\D.bk σ (upd H d (.dK kvs))
 ct:=fun σ H=>oz H d o kvs/\D.ct σ (upd H d (.dK kvs))
inductive agm (t:TS) (D:Ends) (σ:St) (H:Hp):Prop
 | mk  (d kvs:_) (_:H d=some (.dK kvs)) (_:∀o,t (D.Cd d o kvs) σ (upd H d (.fk o (.dK kvs))))
def agn (t:TE):TE:=fun σ H Q=>∃d kvs,H d=some (.dK kvs)/\∀o,t σ (upd H d (.fk o (.dK kvs))) fun v H'=>oz H' d o kvs/\Q v (upd H' d (.dK kvs))
def Itv (d:Addr) (o:Obj) (kvs:List (Key×V)):It:=⟨fun i H=>oz H d o kvs/\i<kvs.length,fun i H x H'=>H'=H/\∃p,kvs[i]?=some p/\x=p.2,fun i H=>oz H d o kvs/\kvs.length<=i⟩
def Iti (d:Addr) (o:Obj) (kvs:List (Key×V)):It:=⟨fun i H=>oz H d o kvs/\i<kvs.length,fun i H x H'=>∃a p,H a=none/\kvs[i]?=some p/\x = .ref a/\H'=upd H a (.tup [kV p.1,p.2]),fun i H=>oz H d o kvs/\kvs.length<=i⟩
variable {h:Heap} {P:Program} {d:Addr}
theorem AG {w:World} {vs:List (Key×Value)} {e1 e2:Nat} {o:Obj} {es:Array DictEntry} (da:h.DictAt (c7 P w) d vs e1) (ho:h.get? d=some o) (hd:o.data = .dict es e2):e1=e2:=by
 obtain ⟨o',es',h1,_,h2,_⟩:=da
 rw [ho] at h1;cases h1
 rw [hd] at h2;cases h2;rfl
theorem JW {w:World} {k:Key} {v:Value} (h:(c7 P w).is k v=true):RelV (kV k) v:=by
 rw [Py] at h
 rcases gf h with ⟨i,t,rfl,rfl⟩|⟨x,t,rfl,rfl⟩
 . exact ⟨t,Z⟩
 . exact ⟨t,Z⟩
variable {it:Addr} {kvs:List (Key×V)} {ep:Nat}
theorem Se {w:World} {o:Obj} {es:Array DictEntry} (hd:o.data = .dict es ep):
  Turn P w K tg (Itv d o kvs) [it] it (fun i h=>h.IsValIter it d i kvs.length ep) where
 mem:=by simp
 obj:=fun i h st b hb=>by
  have e:b=it:=by simpa using hb
  subst e
  obtain ⟨o,e,c,d⟩:=st
  exact ⟨o,e,fun v z=>by rw [d] at z;cases z⟩
 keep:=fun i h h' st k=>st.at fun o e=>k it (by simp) o e
 item:=by
  intro X hP hw hK hc i pins s σ H E I hf st hg
  subst hP hw hK
  obtain ⟨hz,hlt⟩:=hg
  obtain ⟨ho,_,_,vs,C9,r,da⟩:=I.qT hz
  cases AG da ho hd
  have hl:kvs.length=vs.length:=r.length
  obtain ⟨q,hq,_,rq⟩:=wV r (aX hlt)
  obtain ⟨qk,qv⟩:=q
  rw [hl] at st
  obtain ⟨f0,f1,f2,f3,f4,f5⟩:=hf it (by simp)
  refine wpAny_pyNext_values_item st da hq fun h' st' sb=>?_
  have I1:Inv X pins σ H { s with heap:=h' }:=I.turned (t':=s.toks) (fun b o hb e=>(sb.2 b hb).trans e) f0 f1 f3 f4 f5
  obtain ⟨oi,e,c,dd⟩:=id st'
  exact ⟨_,Z,De (s:={ s with heap:=h' }) e c dd (by decide) ⟨kvs[i].2,H,I1,rq,⟨Z,kvs[i],aX hlt,Z⟩,by rw [hl];exact st',fun b hb=>(hf b hb).1⟩⟩
 done:=by
  intro X hP hw hK hc i pins s σ H E I hf st hg
  subst hP hw hK
  obtain ⟨hz,hle⟩:=hg
  obtain ⟨ho,_,_,vs,C9,r,da⟩:=I.qT hz
  cases AG da ho hd
  have hl:kvs.length=vs.length:=r.length
  rw [hl] at st
  obtain ⟨f0,f1,f2,f3,f4,f5⟩:=hf it (by simp)
  exact wpAny_pyNext_values_end (I.ok.hd hc) st da (by rw [tV];omega) fun h' eb=>⟨Z,I.turned (t':=s.toks) (fun b o hb e=>eb b o hb e) f0 f1 f3 f4 f5⟩
 self:=fun _ _ _ _ _ st h=>wpAny_pyIter_valiter st h
variable {elts:List Expr}
theorem Qj {w:World} {kk:Nat} {o:Obj} {es:Array DictEntry} (hd:o.data = .dict es ep):
  Turn P w K (.Tuple elts kk pos) (Iti d o kvs) [it] it (fun i h=>∃ok ov,IsItemIter h it d i kvs.length ep ok ov) where
 mem:=by simp
 obj:=fun i h st b hb=>by
  have e:b=it:=by simpa using hb
  subst e
  obtain ⟨ok,ov,e⟩:=st
  exact ⟨_,e,fun v z=>by cases z⟩
 keep:=fun i h h' ⟨ok,ov,st⟩ k=>⟨ok,ov,k it (by simp) _ st⟩
 item:=by
  intro X hP hw hK hc i pins s σ H E I hf st hg
  subst hP hw hK
  obtain ⟨hz,hlt⟩:=hg
  obtain ⟨ok,ov,st⟩:=st
  obtain ⟨ho,_,_,vs,C9,r,da⟩:=I.qT hz
  cases AG da ho hd
  have hl:kvs.length=vs.length:=r.length
  obtain ⟨q,hq,ek,rq⟩:=wV r (aX hlt)
  obtain ⟨qk,qv⟩:=q
  rw [hl] at st
  obtain ⟨f0,f1,f2,f3,f4,f5⟩:=hf it (by simp)
  refine wpAny_pyNext_items_item st da hq fun key h1 hk st1 ht hsz hkeep=>?_
  refine ⟨_,Z,wpAny_letOwnedTupleGo_items (s:={ s with heap:=h1 }) st1 fun h2 st2 sb=>?_⟩
  have rk:RelV (kV kvs[i].1) key:=by rw [ek];exact JW hk
  have hil:it≠s.heap.objs.size:=dM (bL st)
  have vm:∀b o,b≠it->s.heap.get? b=some o->h2.get? b=some o:=fun b o hb e=>sb.extBut b o hb (hkeep b o hb e)
  have I1:Inv X pins σ (upd H s.heap.objs.size (.tup [kV kvs[i].1,kvs[i].2])) { s with heap:=h2 }:=by
   have J:Inv X pins σ H { s with heap:=h2 }:=I.turned (t':=s.toks) vm f0 f1 f3 f4 f5
   have hn:=I.fresh
   have J2:Inv X pins σ (upd H s.heap.objs.size (.tup [kV kvs[i].1,kvs[i].2])) { s with heap:=h2,gens:=s.gens,drawn:=s.drawn,toks:=s.toks }:=by
    refine I.step (ch:=[it]) (fun b hb=>⟨(hf b hb).2.2.2.1,(hf b hb).2.1,(hf b hb).2.2.2.2.1,(hf b hb).2.2.2.2.2⟩) (fun b o _ _ hc' e _=>vm b o (by simpa using hc') e) (fun b o _ _ hc' e _=>⟨o.slots,vm b o (by simpa using hc') e⟩) (fun b o _ e n=>by rw [av (dM (bL e))];exact n) (fun b o hc' e=>⟨o,vm b o (by simpa using hc') e⟩)
     (fun b zs q=>by rw [av (aH q hn)];exact q) (fun b o zs q=>by rw [av (aH q hn)];exact q) (fun b ps q=>⟨#[],by rw [av (aH q hn),q];simp⟩) (fun m hm=>?_) (fun b ob e=>?_) I.bare
    . obtain ⟨o,es,ep,ho,r⟩:=hm
      exact ⟨o,es,ep,vm _ o (fun q=>f1 q.symm) ho,r⟩
    . by_cases hb:b=s.heap.objs.size
      . subst hb
        rw [ah] at e;cases e
        exact ⟨by show 2<=sizeLine;decide,[key,qv], .cons rk (.cons rq .nil),_,sb.extBut _ _ hil.symm ht,Z,0,Z⟩
      . rw [av hb] at e
        refine (I.hok b ob e).stay (fun c v Sf q=>?_) (fun c q=>by rw [av (aH q hn)];exact q) fun c zs q=>by rw [av (aH q hn)];exact q
        refine vm c v (fun z=>?_) q
        rcases Sf with r|r
        . rw [r] at z;rw [z,f0] at e;cases e
        . rw [z,f0] at r;cases r
   exact J2
  refine ⟨.ref s.heap.objs.size,_,I1,Z,⟨_,kvs[i],I.fresh,aX hlt,Z,Z⟩,⟨key,qv,by rw [hl];exact st2⟩,fun b hb=>?_⟩
  have eb:b=it:=by simpa using hb
  subst eb
  rw [av hil]
  exact f0
 done:=by
  intro X hP hw hK hc i pins s σ H E I hf st hg
  subst hP hw hK
  obtain ⟨hz,hle⟩:=hg
  obtain ⟨ok,ov,st⟩:=st
  obtain ⟨ho,_,_,vs,C9,r,da⟩:=I.qT hz
  cases AG da ho hd
  have hl:kvs.length=vs.length:=r.length
  rw [hl] at st
  obtain ⟨f0,f1,f2,f3,f4,f5⟩:=hf it (by simp)
  exact wpAny_pyNext_items_end (I.ok.hd hc) st da (by rw [tV];omega) fun h' eb=>⟨Z,I.turned (t':=s.toks) (fun b o hb e=>eb b o hb e) f0 f1 f3 f4 f5⟩
 self:=fun A i s Q E ⟨ok,ov,st⟩ h=>PySem.W.kcp_self st h
section
variable {X:Cx} {tg:Expr}
inductive aaf (R:It->Hp->Prop) (x:V) (H1:Hp):Prop
 | mk  (d o kvs:_) (_:x = .ref d) (_:oz H1 d o kvs) (_:R (Itv d o kvs:_) H1)
def acW (td:TE):TI:=fun σ H R=>td σ H (aaf R)
inductive XY (R:It->Hp->Prop) (x:V) (H1:Hp):Prop
 | mk  (d o kvs:_) (_:x = .ref d) (_:oz H1 d o kvs) (_:R (Iti d o kvs:_) H1)
def aag (td:TE):TI:=fun σ H R=>td σ H (XY R)
end
variable {J:It} {tb:TS} {D:Ends}
theorem uc (Pv:Nat->St->Hp->Prop) (h0:Pv 0 σ H) (hgo:∀i σ H,i<n->Pv i σ H->J.go i H) (hst:∀σ H,Pv n σ H->J.stop n H)
  (hs:∀i x σ H H',i<n->Pv i σ H->J.Dc i H x H'->g x σ H' (tb (D.lp (Pv (i+1))))) (hd:∀σ H,Pv n σ H->D.nx σ H):
  I0 g tb D σ (J) H:=by
 refine ⟨fun i m σ H=>m=n-i/\i<=n/\Pv i σ H,⟨n,by simp,fC _,h0⟩,?_⟩
 rintro i m σ H ⟨rfl,hi,p⟩
 by_cases hlt:i<n
 . exact .inr ⟨hgo i σ H hlt p,Pv (i+1),fun σ' H' p'=>⟨n-(i+1),by omega,Z,hlt,p'⟩,fun x H' y=>hs i x σ H H' hlt p y⟩
 . have e:i=n:=by omega
   subst e
   exact .inl ⟨hst σ H p,hd σ H p⟩
section
variable {prog:Program} {w:World} {K:Type} [DecidableEq K] {knd:KeyKind prog w K} {A:Around} {E:VS} {s:Shared}
theorem Mz {kvs:List (K×Value)} {k:K} {v:Value} {Q:VS} (hit:s.heap.IsKeyIter it d i kvs.length ep)
  (hm:s.heap.DictAt knd d kvs ep) (hx:kvs[i]?=some (k,v)) (hQ:∀key h',knd.is k key=true->h'.IsKeyIter it d (i+1) kvs.length ep->Heap.SameBut it s.heap h'->Q key { s with heap:=h' }):
  wpAny (model prog w) A (Builtin.SmallTypes.nextOf (.ref it)) Q E s:=by
 obtain ⟨o,ho,hc,hd⟩:=id hit;obtain ⟨od,es,hod,hcd,yY,hk,hp,hn⟩:=id hm
 unfold Builtin.SmallTypes.nextOf
 refine aq (xB (name:=Str.ofString "__next__") hit.typeIs V7 (tD V7 hit.typeIs F.entry_dict_keyiterator_next ?_ (F.args_dict_keyiterator_next_1 _)))
 refine aq (aJ ?_);refine aq (aq ?_)
 first|(refine aq (V5 hit.typeIs (aJ ?_));refine aq (vc ho hd ?_))|(refine aq (O7 hit.typeIs (aJ ?_));refine aq (vc ho hd ?_))
 have own:Builtin.Dict_items.ownsTuple "dict_keyiterator"=false:=by decide
 simp only [own,EY,lE]
 show wpAny _ _ (if (Value.ref d==Value.none)=true then _ else _) _ _ _
 rw [aA (fun z=>fJ z:¬ ((Value.ref d==Value.none)=true))];refine aq (aJ ?_)
 have sz:es.size=kvs.length:=by have:=hp.length;simpa using this
 refine aq (Pw hod yY ?_);rw [aA (by rw [sz];simp)]
 refine aq (aJ ?_);refine aq (IV hod yY ?_)
 rw [aA (by simp)];refine aJ ?_
 have lt:i<kvs.length:=(eU.mp hx).1
 have lt':i<es.size:=by omega
 have kv:=hp.get? (e:=es[i]) (by simp [lt']) hx
 simp only [show ¬ ((i:Int)<0) from by omega,lE,rN,Array.getElem?_eq_getElem lt'];refine aq ?_
 first|(refine aq (V5 hit.typeIs (aJ ?_));refine aq (wpAny_isOneOf_keyiter hit.typeIs ?_))|(refine aq (O7 hit.typeIs (aJ ?_));refine aq (wpAny_isOneOf_keyiter hit.typeIs ?_))
 show wpAny _ _ (setField (.ref it) 1 (rawInt ((i:Int)+1)) >>= _) _ _ _
 refine aq (An ho hd (by simp) ?_)
 have E_:(s.heap.update it (Obj.mapFields (·.setIfInBounds 1 (rawInt ((i:Int)+1))))).IsKeyIter it d (i+1) kvs.length ep:=⟨_,BY _ ho (Obj.isFreed_of_fields (EZ hd _)),(Obj.cls_mapFields ..).trans hc,by rw [EZ hd];simp [rawInt]⟩
 refine aq (xK (aq (wpAny_isOneOf_keyiter (s:={ s with heap:=s.heap.update it (Obj.mapFields (·.setIfInBounds 1 (rawInt ((i:Int)+1)))) }) E_.typeIs ?_)))
 exact aJ (aJ ⟨_,Z,aJ (hQ _ _ kv.1 E_ (EV ..))⟩)
theorem Qk {kvs:List (K×Value)} {Q:VS} (hh:A.handled=none) (hit:s.heap.IsKeyIter it d i kvs.length ep)
  (hm:s.heap.DictAt knd d kvs ep) (hx:kvs[i]?=none) (hE:∀h' e,Heap.ExtBut it s.heap h'->(∃o,h'.get? e=some o/\o.cls = .type "StopIteration")->E (.ref e) { s with heap:=h' }):
  wpAny (model prog w) A (Builtin.SmallTypes.nextOf (.ref it)) Q E s:=by
 obtain ⟨o,ho,hc,hd⟩:=id hit;obtain ⟨od,es,hod,hcd,yY,hk,hp,hn⟩:=id hm
 unfold Builtin.SmallTypes.nextOf
 refine aq (xB (name:=Str.ofString "__next__") hit.typeIs V7 (tD V7 hit.typeIs F.entry_dict_keyiterator_next ?_ (F.args_dict_keyiterator_next_1 _)))
 refine aq (aJ ?_);refine aq (aq ?_)
 first|(refine aq (V5 hit.typeIs (aJ ?_));refine aq (vc ho hd ?_))|(refine aq (O7 hit.typeIs (aJ ?_));refine aq (vc ho hd ?_))
 have own:Builtin.Dict_items.ownsTuple "dict_keyiterator"=false:=by decide
 simp only [own,EY,lE]
 show wpAny _ _ (if (Value.ref d==Value.none)=true then _ else _) _ _ _
 rw [aA (fun z=>fJ z:¬ ((Value.ref d==Value.none)=true))];refine aq (aJ ?_)
 have sz:es.size=kvs.length:=by have:=hp.length;simpa using this
 refine aq (Pw hod yY ?_);rw [aA (by rw [sz];simp)]
 refine aq (aJ ?_);refine aq (IV hod yY ?_)
 rw [aA (by simp)];refine aJ ?_
 have ge:es.size<=i:=by rw [sz];simpa using hx
 simp only [show ¬ ((i:Int)<0) from by omega,lE,rN,Array.getElem?_eq_none ge];refine aq ?_
 first|(refine aq (V5 hit.typeIs (aJ ?_));show wpAny _ _ (setField (.ref it) 0 .none >>= _) _ _ _)|(refine aq (O7 hit.typeIs (aJ ?_));show wpAny _ _ (setField (.ref it) 0 .none >>= _) _ _ _)
 refine aq (An ho hd (by simp) ?_);show wpAny _ _ (newExc (.type "StopIteration") [] >>= _) _ _ _
 refine aq ?_;simp only [newExc,newTuple]
 refine aq (qi ?_ (by size_fits));refine aq (m:=firstArgMember _ _) (wpAny_of_eq (a:=Value.none) (by first|rfl|(simp only [firstArgMember];rfl)) ?_)
 refine qi ?_ (by size_fits);simp only [raiseNew]
 refine aq (wpAny_handled ?_);rw [show A.in1.handled=none from hh]
 exact aq (aJ (wpAny_throw (hE _ _ (((EV ..).extBut.push _).push _) ⟨_,dW _ rfl,Z⟩)))
theorem MA {kvs:List (K×Value)} {k:K} {v:Value} {Q:VS} (hit:s.heap.IsValIter it d i kvs.length ep)
  (hm:s.heap.DictAt knd d kvs ep) (hx:kvs[i]?=some (k,v)) (hQ:∀h',h'.IsValIter it d (i+1) kvs.length ep->Heap.SameBut it s.heap h'->Q v { s with heap:=h' }):
  wpAny (model prog w) A (Builtin.SmallTypes.nextOf (.ref it)) Q E s:=by
 obtain ⟨o,ho,hc,hd⟩:=id hit;obtain ⟨od,es,hod,hcd,yY,hk,hp,hn⟩:=id hm
 unfold Builtin.SmallTypes.nextOf
 refine aq (xB (name:=Str.ofString "__next__") hit.typeIs V4 (tD V4 hit.typeIs F.entry_dict_valueiterator_next ?_ (F.args_dict_valueiterator_next_1 _)))
 refine aq (aJ ?_);refine aq (aq ?_)
 first|(refine aq (V6 hit.typeIs (aJ ?_));refine aq (vc ho hd ?_))|(refine aq (O8 hit.typeIs (aJ ?_));refine aq (vc ho hd ?_))
 have own:Builtin.Dict_items.ownsTuple "dict_valueiterator"=false:=by decide
 simp only [own,EY,lE]
 show wpAny _ _ (if (Value.ref d==Value.none)=true then _ else _) _ _ _
 rw [aA (fun z=>fJ z:¬ ((Value.ref d==Value.none)=true))];refine aq (aJ ?_)
 have sz:es.size=kvs.length:=by have:=hp.length;simpa using this
 refine aq (Pw hod yY ?_);rw [aA (by rw [sz];simp)]
 refine aq (aJ ?_);refine aq (IV hod yY ?_)
 rw [aA (by simp)];refine aJ ?_
 have lt:i<kvs.length:=(eU.mp hx).1
 have lt':i<es.size:=by omega
 have kv:=hp.get? (e:=es[i]) (by simp [lt']) hx
 simp only [show ¬ ((i:Int)<0) from by omega,lE,rN,Array.getElem?_eq_getElem lt'];refine aq ?_
 first|(refine aq (V6 hit.typeIs (aJ ?_));refine aq (Pb hit.typeIs ?_))|(refine aq (O8 hit.typeIs (aJ ?_));refine aq (Pb hit.typeIs ?_))
 show wpAny _ _ (setField (.ref it) 1 (rawInt ((i:Int)+1)) >>= _) _ _ _
 refine aq (An ho hd (by simp) ?_)
 have E_:(s.heap.update it (Obj.mapFields (·.setIfInBounds 1 (rawInt ((i:Int)+1))))).IsValIter it d (i+1) kvs.length ep:=⟨_,BY _ ho (Obj.isFreed_of_fields (EZ hd _)),(Obj.cls_mapFields ..).trans hc,by rw [EZ hd];simp [rawInt]⟩
 refine aq (xK (aq (Pb (s:={ s with heap:=s.heap.update it (Obj.mapFields (·.setIfInBounds 1 (rawInt ((i:Int)+1)))) }) E_.typeIs ?_)))
 refine aq (Pb (s:={ s with heap:=s.heap.update it (Obj.mapFields (·.setIfInBounds 1 (rawInt ((i:Int)+1)))) }) E_.typeIs ?_)
 exact aJ (aJ ⟨_,Z,aJ (kv.2▸hQ _ E_ (EV ..))⟩)
theorem Ql {kvs:List (K×Value)} {Q:VS} (hh:A.handled=none) (hit:s.heap.IsValIter it d i kvs.length ep)
  (hm:s.heap.DictAt knd d kvs ep) (hx:kvs[i]?=none) (hE:∀h' e,Heap.ExtBut it s.heap h'->(∃o,h'.get? e=some o/\o.cls = .type "StopIteration")->E (.ref e) { s with heap:=h' }):
  wpAny (model prog w) A (Builtin.SmallTypes.nextOf (.ref it)) Q E s:=by
 obtain ⟨o,ho,hc,hd⟩:=id hit;obtain ⟨od,es,hod,hcd,yY,hk,hp,hn⟩:=id hm
 unfold Builtin.SmallTypes.nextOf
 refine aq (xB (name:=Str.ofString "__next__") hit.typeIs V4 (tD V4 hit.typeIs F.entry_dict_valueiterator_next ?_ (F.args_dict_valueiterator_next_1 _)))
 refine aq (aJ ?_);refine aq (aq ?_)
 first|(refine aq (V6 hit.typeIs (aJ ?_));refine aq (vc ho hd ?_))|(refine aq (O8 hit.typeIs (aJ ?_));refine aq (vc ho hd ?_))
 have own:Builtin.Dict_items.ownsTuple "dict_valueiterator"=false:=by decide
 simp only [own,EY,lE]
 show wpAny _ _ (if (Value.ref d==Value.none)=true then _ else _) _ _ _
 rw [aA (fun z=>fJ z:¬ ((Value.ref d==Value.none)=true))];refine aq (aJ ?_)
 have sz:es.size=kvs.length:=by have:=hp.length;simpa using this
 refine aq (Pw hod yY ?_);rw [aA (by rw [sz];simp)]
 refine aq (aJ ?_);refine aq (IV hod yY ?_)
 rw [aA (by simp)];refine aJ ?_
 have ge:es.size<=i:=by rw [sz];simpa using hx
 simp only [show ¬ ((i:Int)<0) from by omega,lE,rN,Array.getElem?_eq_none ge];refine aq ?_
 first|(refine aq (V6 hit.typeIs (aJ ?_));show wpAny _ _ (setField (.ref it) 0 .none >>= _) _ _ _)|(refine aq (O8 hit.typeIs (aJ ?_));show wpAny _ _ (setField (.ref it) 0 .none >>= _) _ _ _)
 refine aq (An ho hd (by simp) ?_);show wpAny _ _ (newExc (.type "StopIteration") [] >>= _) _ _ _
 refine aq ?_;simp only [newExc,newTuple]
 refine aq (qi ?_ (by size_fits));refine aq (m:=firstArgMember _ _) (wpAny_of_eq (a:=Value.none) (by first|rfl|(simp only [firstArgMember];rfl)) ?_)
 refine qi ?_ (by size_fits);simp only [raiseNew]
 refine aq (wpAny_handled ?_);rw [show A.in1.handled=none from hh]
 exact aq (aJ (wpAny_throw (hE _ _ (((EV ..).extBut.push _).push _) ⟨_,dW _ rfl,Z⟩)))
end
structure yZ (P:Program) (w:World) (K:Fg) (S:Hp->Prop) (xs:List V) (it l:Addr) (tn:Nat->Heap->Prop) (src:Heap->Prop):Prop where
 obj:∀i h,tn i h->∃o,h.get? it=some o/\∀v,o.data ≠ .cell v
 keep:∀i h h',tn i h->(∀o,h.get? it=some o->h'.get? it=some o)->tn i h'
 vn:∀h h',src h->(∀o,h.get? l=some o->h'.get? l=some o)->src h'
 GL:∀(X:Cx),X.prog=P->X.w=w->X.K=K->∀(pins:AO) (σ:St) (H:Hp) (s:Shared),Inv X pins σ H s->S H->src s.heap
 item:∀(A:Around) (i:Nat) (x:V) (s:Shared) (Q:VS) (E:VS),tn i s.heap->src s.heap->xs[i]?=some x->(∀u h',RelV x u->tn (i+1) h'->Heap.SameBut it s.heap h'->Q u { s with heap:=h' })->wpAny (model P w) A (Builtin.SmallTypes.nextOf (.ref it)) Q E s
 done:∀(A:Around) (i:Nat) (s:Shared) (Q:VS) (E:VS),A.handled=none->tn i s.heap->src s.heap->xs.length<=i->(∀h' e,Heap.ExtBut it s.heap h'->(∃o,h'.get? e=some o/\o.cls = .type "StopIteration")->E (.ref e) { s with heap:=h' })->wpAny (model P w) A (Builtin.SmallTypes.nextOf (.ref it)) Q E s
theorem Vg {w:World} {l:Addr}:yZ P w K (fun H=>aB K H l xs) xs it l (fun i h=>h.IsListIter it l i) (fun h=>∃its:List Value,Vals xs its/\h.IsList l its.toArray) where
 obj:=fun i h ⟨o,e,c,d⟩=>⟨o,e,fun v z=>by rw [d] at z;cases z⟩
 keep:=fun i h h' st k=>st.at k
 vn:=fun h h' ⟨its,r,hl⟩ k=>⟨its,r,hl.at k⟩
 GL:=fun X hP hw hK pins σ H s I h=>by
  subst hP hw hK
  obtain ⟨its,rv,p,_⟩:=I.list h
  exact ⟨its,rv,p.isList⟩
 item:=fun A i x s Q E st ⟨its,r,hl⟩ hx hQ=>by
  obtain ⟨u,hu,ru⟩:=r.get hx
  exact wpAny_nextOf_list_item st hl (by simpa using hu) fun h' st' sb=>hQ u h' ru st' sb
 done:=fun A i s Q E hh st ⟨its,r,hl⟩ hx hE=>wpAny_nextOf_list_end hh st hl (by have:=r.length;simp;omega) hE
theorem Vh {w:World} {o:Obj} {es:Array DictEntry} (hd:o.data = .dict es ep):
  yZ P w K (fun H=>oz H d o kvs) (kvs.map fun p=>kV p.1) it d (fun i h=>h.IsKeyIter it d i kvs.length ep) (fun h=>∃vs,KV kvs vs/\h.DictAt (c7 P w) d vs ep) where
 obj:=fun i h ⟨o,e,c,d⟩=>⟨o,e,fun v z=>by rw [d] at z;cases z⟩
 keep:=fun i h h' st k=>st.at k
 vn:=fun h h' ⟨vs,r,hl⟩ k=>⟨vs,r,hl.at' k⟩
 GL:=fun X hP hw hK pins σ H s I h=>by
  subst hP hw hK
  obtain ⟨ho,_,_,vs,C9,r,da⟩:=I.qT h
  cases AG da ho hd
  exact ⟨vs,r,da⟩
 item:=fun A i x s Q E st ⟨vs,r,da⟩ hx hQ=>by
  rw [bK] at hx
  obtain ⟨p,hp,rfl⟩:=lP.mp hx
  obtain ⟨q,hq,ek,rq⟩:=wV r hp
  obtain ⟨qk,qv⟩:=q
  have hl:kvs.length=vs.length:=r.length
  rw [hl] at st
  exact Mz st da hq fun key h' hk st' sb=>hQ key h' (by rw [ek];exact JW hk) (by rw [hl];exact st') sb
 done:=fun A i s Q E hh st ⟨vs,r,da⟩ hx hE=>by
  have hl:kvs.length=vs.length:=r.length
  rw [aG] at hx
  rw [hl] at st
  exact Qk hh st da (by rw [tV];omega) hE
theorem Vi {w:World} {o:Obj} {es:Array DictEntry} (hd:o.data = .dict es ep):
  yZ P w K (fun H=>oz H d o kvs) (kvs.map fun p=>p.2) it d (fun i h=>h.IsValIter it d i kvs.length ep) (fun h=>∃vs,KV kvs vs/\h.DictAt (c7 P w) d vs ep) where
 obj:=fun i h ⟨o,e,c,d⟩=>⟨o,e,fun v z=>by rw [d] at z;cases z⟩
 keep:=fun i h h' st k=>st.at k
 vn:=fun h h' ⟨vs,r,hl⟩ k=>⟨vs,r,hl.at' k⟩
 GL:=fun X hP hw hK pins σ H s I h=>by
  subst hP hw hK
  obtain ⟨ho,_,_,vs,C9,r,da⟩:=I.qT h
  cases AG da ho hd
  exact ⟨vs,r,da⟩
 item:=fun A i x s Q E st ⟨vs,r,da⟩ hx hQ=>by
  rw [bK] at hx
  obtain ⟨p,hp,rfl⟩:=lP.mp hx
  obtain ⟨q,hq,ek,rq⟩:=wV r hp
  obtain ⟨qk,qv⟩:=q
  have hl:kvs.length=vs.length:=r.length
  rw [hl] at st
  exact MA st da hq fun h' st' sb=>hQ qv h' rq (by rw [hl];exact st') sb
 done:=fun A i s Q E hh st ⟨vs,r,da⟩ hx hE=>by
  have hl:kvs.length=vs.length:=r.length
  rw [aG] at hx
  rw [hl] at st
  exact Ql hh st da (by rw [tV];omega) hE
variable {y:V}
section
variable {P:Program} {w:World} {A:Around} {E:VS} {s:Shared} {K:Fg} {S1 S2:Hp->Prop} {xs ys:List V} {z TI TO i1 i2 l1 l2:Addr} {t1 t2:Nat->Heap->Prop} {c1 c2:Heap->Prop} {i:Nat}
theorem Sg {x:V} {a b:Value} {Q:VS} (D:ZipApart z TI TO i1 i2 l1 l2) (C1:yZ P w K S1 xs i1 l1 t1 c1) (C2:yZ P w K S2 ys i2 l2 t2 c2)
  (hz:IsZip s.heap z TI TO .none) (hTI:IsPair s.heap TI (.ref i1) (.ref i2)) (hTO:IsPair s.heap TO a b) (h1:t1 i s.heap) (h2:t2 i s.heap) (hc1:c1 s.heap) (hc2:c2 s.heap) (hx:xs[i]?=some x) (hy:ys[i]?=some y)
  (hQ:∀u v h',RelV x u->RelV y v->IsZip h' z TI TO (rawInt s.heap.objs.size)->IsPair h' TO u v->t1 (i+1) h'->t2 (i+1) h'->IsPair h' s.heap.objs.size u v->h'.objs.size=s.heap.objs.size+1->
    (∀c o,c≠z->c≠TO->c≠i1->c≠i2->s.heap.get? c=some o->h'.get? c=some o)->Q (.ref s.heap.objs.size) { s with heap:=h' }):
  wpAny (model P w) A (Builtin.«zip.__next__» ⟨[.ref z],[]⟩) (fun fin s'=>∃v,fin = .done (.ret v)/\Q v s') E s:=by
 show wpAny _ _ (field (.ref z) 2 >>= _) _ _ _
 refine aq (ki hz rfl (x:= .bool false) rfl ?_);show wpAny _ _ (field (.ref z) 3 >>= _) _ _ _
 refine aq (ki hz rfl (x:= .ref TI) rfl ?_);refine aq (tG hTI rfl ?_)
 show wpAny _ _ (Builtin.SmallTypes.ownedTupleIsFree (.ref z) >>= _) _ _ _
 refine aq ?_;unfold Builtin.SmallTypes.ownedTupleIsFree
 refine aq (ki hz rfl (x:= .none) rfl (aJ ?_));simp only [qP]
 refine aq (wpAny_rule ?_);refine aq (ki hz rfl (x:= .ref TO) rfl ?_)
 refine aq (E1 hz (by simp) fun hA oE sA=>?_)
 replace oE:IsZip hA z TI TO .ellipsis:=oE
 refine aq ?_;simp only [List.zipIdx_cons,List.zipIdx_nil,IT,C3]
 refine aq (aq (wpAny_onRaise ?_));show wpAny _ _ (Builtin.SmallTypes.nextOf (.ref i1) >>= _) _ _ _
 refine aq (C1.item _ i x { s with heap:=hA } _ _ (C1.keep _ _ _ h1 fun o e=>sA.extBut _ _ D.i1z e) (C1.vn _ _ hc1 fun o e=>sA.extBut _ _ D.l1z e) hx fun u hB ru h1B sB=>aJ ?_)
 have Sh:IsPair hB TO a b:=sB.extBut _ _ D.TOi1 (sA.extBut _ _ D.TOz hTO)
 refine aq (tG Sh rfl ?_);refine aq (wpAny_updateSeq_pair Sh fun hC Wu sC=>?_)
 replace Wu:IsPair hC TO u b:=Wu
 refine aq (wpAny_letGo (aJ ?_));refine aq (aq (wpAny_onRaise ?_))
 show wpAny _ _ (Builtin.SmallTypes.nextOf (.ref i2) >>= _) _ _ _
 refine aq (C2.item _ i y { s with heap:=hC } _ _ (C2.keep _ _ _ h2 fun o e=>sC.extBut _ _ D.TOi2.symm (sB.extBut _ _ D.i12.symm (sA.extBut _ _ D.i2z e))) (C2.vn _ _ hc2 fun o e=>sC.extBut _ _ D.l2TO (sB.extBut _ _ D.l2i1 (sA.extBut _ _ D.l2z e))) hy fun v hD rv h2D sD=>aJ ?_)
 have TOD:IsPair hD TO u b:=sD.extBut _ _ D.TOi2 Wu
 refine aq (tG TOD rfl ?_);refine aq (wpAny_updateSeq_pair TOD fun hE Wv sE=>?_)
 replace Wv:IsPair hE TO u v:=Wv
 refine aq (wpAny_letGo (aJ (aJ ?_)));refine aq (tG Wv rfl ?_)
 refine aq (wpAny_newTuple ?_)
 have sz:hE.objs.size=s.heap.objs.size:=by rw [sE.1,sD.1,sC.1,sB.1,sA.1]
 have zE:IsZip hE z TI TO .ellipsis:=sE.extBut _ _ D.TOz.symm (sD.extBut _ _ D.i2z.symm (sC.extBut _ _ D.TOz.symm (sB.extBut _ _ D.i1z.symm oE)))
 have kE:∀c o,c≠z->c≠TO->c≠i1->c≠i2->s.heap.get? c=some o->hE.get? c=some o:=fun c o c1 c2 c3 c4 e=>sE.extBut _ _ c2 (sD.extBut _ _ c4 (sC.extBut _ _ c2 (sB.extBut _ _ c3 (sA.extBut _ _ c1 e))))
 have t1E:t1 (i+1) hE:=C1.keep _ _ _ h1B fun o e=>sE.extBut _ _ D.TOi1.symm (sD.extBut _ _ D.i12 (sC.extBut _ _ D.TOi1.symm e))
 have t2E:t2 (i+1) hE:=C2.keep _ _ _ h2D fun o e=>sE.extBut _ _ D.TOi2.symm e
 have zlt:z<hE.objs.size:=bL zE
 show wpAny _ _ (Builtin.SmallTypes.ownedTupleHandOut (.ref z) (.ref hE.objs.size) >>= _) _ _ _
 refine aq ?_;unfold Builtin.SmallTypes.ownedTupleHandOut
 have zF:IsZip (hE.push { cls:= .type "tuple",data:= .seq #[u,v] }) z TI TO .ellipsis:=cg _ zE
 refine aq (E1 zF (by simp) fun hG zG sG=>?_)
 replace zG:IsZip hG z TI TO (rawInt hE.objs.size):=zG
 refine E1 zG (by simp) fun hI zI sI=>?_
 replace zI:IsZip hI z TI TO (rawInt hE.objs.size):=zI
 have up:∀c o,c≠z->hE.get? c=some o->hI.get? c=some o:=fun c o c1 e=>sI.extBut _ _ c1 (sG.extBut _ _ c1 (cg _ e))
 have TI':IsPair hI hE.objs.size u v:=sI.extBut _ _ (xM zlt) (sG.extBut _ _ (xM zlt) (dW _ rfl))
 have szI:hI.objs.size=hE.objs.size+1:=by rw [sI.1,sG.1,mC]
 rw [sz] at zI TI' szI
 refine aJ ⟨_,Z,?_⟩
 show Q (.ref hE.objs.size) _
 rw [sz]
 exact hQ u v hI ru rv zI (up _ _ D.TOz Wv) (C1.keep _ _ _ t1E fun o e=>up _ o D.i1z e) (C2.keep _ _ _ t2E fun o e=>up _ o D.i2z e) TI' szI fun c o c1 c2 c3 c4 e=>up c o c1 (kE c o c1 c2 c3 c4 e)
theorem Vj {a b:Value} {Q:Fin->Shared->Prop} (hh:A.handled=none) (D:ZipApart z TI TO i1 i2 l1 l2) (C1:yZ P w K S1 xs i1 l1 t1 c1) (C2:yZ P w K S2 ys i2 l2 t2 c2)
  (hz:IsZip s.heap z TI TO .none) (hTI:IsPair s.heap TI (.ref i1) (.ref i2)) (hTO:IsPair s.heap TO a b) (h1:t1 i s.heap) (h2:t2 i s.heap) (hc1:c1 s.heap) (hc2:c2 s.heap) (hend:xs.length<=i\/ys.length<=i)
  (hE:∀h' e,(∀c o,c≠z->c≠TO->c≠i1->c≠i2->s.heap.get? c=some o->h'.get? c=some o)->(∃o,h'.get? e=some o/\o.cls = .type "StopIteration")->E (.ref e) { s with heap:=h' }):
  wpAny (model P w) A (Builtin.«zip.__next__» ⟨[.ref z],[]⟩) Q E s:=by
 show wpAny _ _ (field (.ref z) 2 >>= _) _ _ _
 refine aq (ki hz rfl (x:= .bool false) rfl ?_);show wpAny _ _ (field (.ref z) 3 >>= _) _ _ _
 refine aq (ki hz rfl (x:= .ref TI) rfl ?_);refine aq (tG hTI rfl ?_)
 show wpAny _ _ (Builtin.SmallTypes.ownedTupleIsFree (.ref z) >>= _) _ _ _
 refine aq ?_;unfold Builtin.SmallTypes.ownedTupleIsFree
 refine aq (ki hz rfl (x:= .none) rfl (aJ ?_));simp only [qP]
 refine aq (wpAny_rule ?_);refine aq (ki hz rfl (x:= .ref TO) rfl ?_)
 refine aq (E1 hz (by simp) fun hA oE sA=>?_)
 replace oE:IsZip hA z TI TO .ellipsis:=oE
 refine aq ?_;simp only [List.zipIdx_cons,List.zipIdx_nil,IT,C3]
 refine aq (aq (wpAny_onRaise ?_));show wpAny _ _ (Builtin.SmallTypes.nextOf (.ref i1) >>= _) _ _ _
 have k1:=C1.keep _ _ _ h1 fun o e=>sA.extBut _ _ D.i1z e
 have k2:=C1.vn _ _ hc1 fun o e=>sA.extBut _ _ D.l1z e
 by_cases hx:xs.length<=i
 . refine aq (C1.done _ i { s with heap:=hA } _ _ hh k1 k2 hx fun hB e sB he=>?_)
   obtain ⟨oe,DK,hce⟩:=he
   have zB:IsZip hB z TI TO .ellipsis:=sB _ _ D.i1z.symm oE
   have ez:e≠z:=fun x=>by subst x;rw [zB] at DK;cases DK;simp at hce
   exact E1 zB (by simp) fun hC _ sC=>hE hC e (fun c o c1 _ c3 _ x=>sC.extBut _ _ c1 (sB _ _ c3 (sA.extBut _ _ c1 x))) ⟨oe,sC.extBut _ _ ez DK,hce⟩
 . have hy:ys.length<=i:=hend.resolve_left hx
   refine aq (C1.item _ i xs[i] { s with heap:=hA } _ _ k1 k2 (aX (by omega)) fun u hB ru h1B sB=>aJ ?_)
   have Sh:IsPair hB TO a b:=sB.extBut _ _ D.TOi1 (sA.extBut _ _ D.TOz hTO)
   refine aq (tG Sh rfl ?_);refine aq (wpAny_updateSeq_pair Sh fun hC Wu sC=>?_)
   refine aq (wpAny_letGo (aJ ?_));refine aq (aq (wpAny_onRaise ?_))
   show wpAny _ _ (Builtin.SmallTypes.nextOf (.ref i2) >>= _) _ _ _
   refine aq (C2.done _ i { s with heap:=hC } _ _ hh (C2.keep _ _ _ h2 fun o e=>sC.extBut _ _ D.TOi2.symm (sB.extBut _ _ D.i12.symm (sA.extBut _ _ D.i2z e))) (C2.vn _ _ hc2 fun o e=>sC.extBut _ _ D.l2TO (sB.extBut _ _ D.l2i1 (sA.extBut _ _ D.l2z e))) hy fun hD e sD he=>?_)
   obtain ⟨oe,DK,hce⟩:=he
   have zD:IsZip hD z TI TO .ellipsis:=sD _ _ D.i2z.symm (sC.extBut _ _ D.TOz.symm (sB.extBut _ _ D.i1z.symm oE))
   have ez:e≠z:=fun x=>by subst x;rw [zD] at DK;cases DK;simp at hce
   exact E1 zD (by simp) fun hF _ sF=>hE hF e (fun c o c1 c2 c3 c4 x=>sF.extBut _ _ c1 (sD _ _ c4 (sC.extBut _ _ c2 (sB.extBut _ _ c3 (sA.extBut _ _ c1 x))))) ⟨oe,sF.extBut _ _ ez DK,hce⟩
end
def aah (S1 S2:Hp->Prop) (xs ys:List V):It:=
 ⟨fun i H=>S1 H/\S2 H/\i<xs.length/\i<ys.length,fun i H v H'=>∃p x y,H p=none/\v = .ref p/\H'=upd H p (.tup [x,y])/\xs[i]?=some x/\ys[i]?=some y,fun i H=>S1 H/\S2 H/\(xs.length<=i\/ys.length<=i)⟩
variable {ys:List V} {z:Addr}
theorem Si {w:World} {kk:Nat} {S1 S2:Hp->Prop} {TI TO i1 i2 l1 l2:Addr} {t1 t2:Nat->Heap->Prop} {c1 c2:Heap->Prop} (D:ZipApart z TI TO i1 i2 l1 l2)
  (C1:yZ P w K S1 xs i1 l1 t1 c1) (C2:yZ P w K S2 ys i2 l2 t2 c2):
  Turn P w K (.Tuple elts kk pos) (aah S1 S2 xs ys) [z,TI,TO,i1,i2] z (fun i h=>IsZip h z TI TO .none/\IsPair h TI (.ref i1) (.ref i2)/\(∃a b,IsPair h TO a b)/\t1 i h/\t2 i h) where
 mem:=by simp
 obj:=fun i h st b hb=>by
  obtain ⟨hz,hTI,⟨a,b',hTO⟩,h1,h2⟩:=st
  have hb':b=z\/b=TI\/b=TO\/b=i1\/b=i2:=by simpa using hb
  rcases hb' with rfl|rfl|rfl|rfl|rfl
  . exact ⟨_,hz,fun v q=>by cases q⟩
  . exact ⟨_,hTI,fun v q=>by cases q⟩
  . exact ⟨_,hTO,fun v q=>by cases q⟩
  . exact C1.obj i h h1
  . exact C2.obj i h h2
 keep:=fun i h h' st k=>by
  obtain ⟨hz,hTI,⟨a,b',hTO⟩,h1,h2⟩:=st
  exact ⟨k z (by simp) _ hz,k TI (by simp) _ hTI,⟨a,b',k TO (by simp) _ hTO⟩,C1.keep _ _ _ h1 fun o e=>k i1 (by simp) o e,C2.keep _ _ _ h2 fun o e=>k i2 (by simp) o e⟩
 item:=by
  intro X hP hw hK hc i pins s σ H E I hf st hg
  subst hP hw hK
  obtain ⟨hz,hTI,⟨a,b,hTO⟩,h1,h2⟩:=st
  obtain ⟨g1,g2,lx,ly⟩:=hg
  have hT:s.TypeIs (.ref z) "zip":=⟨_,hz,Z⟩
  unfold pyNext
  refine aq (wpAny_attempt (xB (name:=Str.ofString "__next__") hT IW (tD IW hT F.entry_zip_next
   (Sg D C1 C2 hz hTI hTO h1 h2 (C1.GL X rfl rfl rfl pins σ H s I g1) (C2.GL X rfl rfl rfl pins σ H s I g2) (aX lx) (aX ly) fun u u2 h' ru ru2 a1 a2 a3 a4 a5 a6 hk=>aJ ?_) (F.args_zip_next_1 _))))
  refine ⟨_,Z,wpAny_letOwnedTupleGo_zip (s:={ s with heap:=h' }) a1 fun h'' b1 hs=>?_⟩
  have hTz:s.heap.objs.size≠z:=xM (bL hz)
  have vm:∀c o,c≠z->c≠TO->c≠i1->c≠i2->s.heap.get? c=some o->h''.get? c=some o:=fun c o c1 c2 c3 c4 e=>hs.extBut _ _ c1 (hk c o c1 c2 c3 c4 e)
  have hn:=I.fresh
  have nf:∀b u,H b=some u->b≠z/\b≠TO/\b≠i1/\b≠i2:=fun b u e=>by
   have g:∀c∈[z,TI,TO,i1,i2],b≠c:=fun c hc q=>by
    have:=(hf c hc).1
    rw [<-q,e] at this
    cases this
   exact ⟨g z (by simp),g TO (by simp),g i1 (by simp),g i2 (by simp)⟩
  have wG:∀c,c∉[z,TI,TO,i1,i2]->c≠z/\c≠TO/\c≠i1/\c≠i2:=fun c hc=>⟨fun q=>hc (by simp [q]),fun q=>hc (by simp [q]),fun q=>hc (by simp [q]),fun q=>hc (by simp [q])⟩
  have ago:IsPair h'' s.heap.objs.size u u2:=hs.extBut _ _ hTz a5
  have hok:gM X.prog X.w (upd H s.heap.objs.size (.tup [xs[i],ys[i]])) h'':=fun b ob e=>by
   by_cases hb:b=s.heap.objs.size
   . subst hb
     rw [ah] at e
     cases e
     exact ⟨by show 2<=sizeLine;decide,[u,u2], .cons ru (.cons ru2 .nil),_,ago,Z,0,Z⟩
   . rw [av hb] at e
     refine (I.hok b ob e).stay (fun c v Sf q=>?_) (fun c q=>by rw [av (aH q hn)];exact q) fun c zs q=>by rw [av (aH q hn)];exact q
     rcases Sf with r|r
     . obtain ⟨n1,n2,n3,n4⟩:=nf b ob e
       rw [r]
       rw [r] at q
       exact vm b v n1 n2 n3 n4 q
     . obtain ⟨n1,n2,n3,n4⟩:=nf c _ r
       exact vm c v n1 n2 n3 n4 q
  have I2:Inv X pins σ (upd H s.heap.objs.size (.tup [xs[i],ys[i]])) { s with heap:=h'',gens:=s.gens,drawn:=s.drawn,toks:=s.toks }:=by
   refine I.step (ch:=[z,TI,TO,i1,i2]) (fun b hb=>⟨(hf b hb).2.2.2.1,(hf b hb).2.1,(hf b hb).2.2.2.2.1,(hf b hb).2.2.2.2.2⟩) (fun b o _ _ hc' e _=>?_) (fun b o _ _ hc' e _=>?_) (fun b o _ e n=>?_) (fun b o hc' e=>?_)
    (fun b zs q=>by rw [av (aH q hn)];exact q) (fun b o zs q=>by rw [av (aH q hn)];exact q) (fun b ps q=>⟨#[],by rw [av (aH q hn),q];simp⟩) (fun m hm=>?_) hok I.bare
   . obtain ⟨n1,n2,n3,n4⟩:=wG b hc'
     exact vm b o n1 n2 n3 n4 e
   . obtain ⟨n1,n2,n3,n4⟩:=wG b hc'
     exact ⟨o.slots,vm b o n1 n2 n3 n4 e⟩
   . rw [av (dM (bL e))]
     exact n
   . obtain ⟨n1,n2,n3,n4⟩:=wG b hc'
     exact ⟨o,vm b o n1 n2 n3 n4 e⟩
   . obtain ⟨o,es,ep,ho,r⟩:=hm
     have nl:∀c∈[z,TI,TO,i1,i2],X.env.locals≠c:=fun c hc' q=>(hf c hc').2.1 q.symm
     exact ⟨o,es,ep,vm _ o (nl z (by simp)) (nl TO (by simp)) (nl i1 (by simp)) (nl i2 (by simp)) ho,r⟩
  refine ⟨.ref s.heap.objs.size,_,I2,Z,⟨s.heap.objs.size,xs[i],ys[i],hn,Z,Z,aX lx,aX ly⟩,⟨b1,?_,⟨u,u2,?_⟩,?_,?_⟩,fun b hb=>?_⟩
  . exact vm _ _ D.TIz D.TITO D.TIi1 D.TIi2 hTI
  . exact hs.extBut _ _ D.TOz a2
  . exact C1.keep _ _ _ a3 fun o e=>hs.extBut _ _ D.i1z e
  . exact C2.keep _ _ _ a4 fun o e=>hs.extBut _ _ D.i2z e
  . have hlt:b≠s.heap.objs.size:=by
     have hb':b=z\/b=TI\/b=TO\/b=i1\/b=i2:=by simpa using hb
     obtain ⟨_,e1,_⟩:=C1.obj _ _ h1
     obtain ⟨_,e2,_⟩:=C2.obj _ _ h2
     rcases hb' with rfl|rfl|rfl|rfl|rfl
     . exact dM (bL hz)
     . exact dM (bL hTI)
     . exact dM (bL hTO)
     . exact dM (bL e1)
     . exact dM (bL e2)
    rw [av hlt]
    exact (hf b hb).1
 done:=by
  intro X hP hw hK hc i pins s σ H E I hf st hg
  subst hP hw hK
  obtain ⟨hz,hTI,⟨a,b,hTO⟩,h1,h2⟩:=st
  obtain ⟨g1,g2,hend⟩:=hg
  have hT:s.TypeIs (.ref z) "zip":=⟨_,hz,Z⟩
  unfold pyNext
  refine aq (wpAny_attempt (xB (name:=Str.ofString "__next__") hT IW (tD IW hT F.entry_zip_next
   (Vj (I.ok.hd hc) D C1 C2 hz hTI hTO h1 h2 (C1.GL X rfl rfl rfl pins σ H s I g1) (C2.GL X rfl rfl rfl pins σ H s I g2) hend fun h' e hk he=>?_) (F.args_zip_next_1 _))))
  obtain ⟨oe,DK,hce⟩:=he
  refine aq (wpAny_isInstance (T:="StopIteration") (b:=true) ⟨oe,DK,hce⟩ isSubtype_stop (aJ ⟨Z,?_⟩))
  have wG:∀c,c∉[z,TI,TO,i1,i2]->c≠z/\c≠TO/\c≠i1/\c≠i2:=fun c hc=>⟨fun q=>hc (by simp [q]),fun q=>hc (by simp [q]),fun q=>hc (by simp [q]),fun q=>hc (by simp [q])⟩
  have nf:∀b u,H b=some u->b≠z/\b≠TO/\b≠i1/\b≠i2:=fun b u e=>by
   have g:∀c∈[z,TI,TO,i1,i2],b≠c:=fun c hc q=>by
    have:=(hf c hc).1
    rw [<-q,e] at this
    cases this
   exact ⟨g z (by simp),g TO (by simp),g i1 (by simp),g i2 (by simp)⟩
  have I2:Inv X pins σ H { s with heap:=h',gens:=s.gens,drawn:=s.drawn,toks:=s.toks }:=by
   refine I.step (ch:=[z,TI,TO,i1,i2]) (fun b hb=>⟨(hf b hb).2.2.2.1,(hf b hb).2.1,(hf b hb).2.2.2.2.1,(hf b hb).2.2.2.2.2⟩) (fun b o _ _ hc' e _=>?_) (fun b o _ _ hc' e _=>?_) (fun b o _ e n=>n) (fun b o hc' e=>?_)
    (fun b zs q=>q) (fun b o zs q=>q) (fun b ps q=>⟨#[],by rw [q];simp⟩) (fun m hm=>?_) (fun b ob e=>?_) I.bare
   . obtain ⟨n1,n2,n3,n4⟩:=wG b hc'
     exact hk b o n1 n2 n3 n4 e
   . obtain ⟨n1,n2,n3,n4⟩:=wG b hc'
     exact ⟨o.slots,hk b o n1 n2 n3 n4 e⟩
   . obtain ⟨n1,n2,n3,n4⟩:=wG b hc'
     exact ⟨o,hk b o n1 n2 n3 n4 e⟩
   . obtain ⟨o,es,ep,ho,r⟩:=hm
     have nl:∀c∈[z,TI,TO,i1,i2],X.env.locals≠c:=fun c hc' q=>(hf c hc').2.1 q.symm
     exact ⟨o,es,ep,hk _ o (nl z (by simp)) (nl TO (by simp)) (nl i1 (by simp)) (nl i2 (by simp)) ho,r⟩
   . refine (I.hok b ob e).stay (fun c v Sf q=>?_) (fun c q=>q) fun c zs q=>q
     rcases Sf with r|r
     . obtain ⟨n1,n2,n3,n4⟩:=nf b ob e
       rw [r]
       rw [r] at q
       exact hk b v n1 n2 n3 n4 q
     . obtain ⟨n1,n2,n3,n4⟩:=nf c _ r
       exact hk c v n1 n2 n3 n4 q
  exact I2
 self:=fun _ _ _ _ _ st h=>wpAny_pyIter_zip st.1 h
def JX (P:Program) (w:World) (u:Value) (o:Obj) (pre:Heap->Prop):Prop:=∀(A:Around) (E:VS) (s:Shared) (Q:VS),pre s.heap->Q (.ref s.heap.objs.size) { s with heap:=s.heap.push o }->wpAny (model P w) A (pyIter u) Q E s
theorem Qm {w:World} {p1 p2:Heap->Prop} (s1:JX P w u1 o1 p1) (s2:JX P w u2 o2 p2):
  MeetsIn P w (Builtin.«zip.__new__» ⟨[.type "zip",u1,u2],[]⟩) (fun _ R s=>p1 s.heap/\p2 (s.heap.push o1)/\
   R (.ok (.ret (.ref ((((s.heap.push o1).push o2).push { cls:= .type "tuple",data:= .seq #[.ref s.heap.objs.size, .ref (s.heap.push o1).objs.size] }).push { cls:= .type "tuple",data:= .seq #[.none, .none] }).objs.size)))
     { s with heap:=((((s.heap.push o1).push o2).push { cls:= .type "tuple",data:= .seq #[.ref s.heap.objs.size, .ref (s.heap.push o1).objs.size] }).push { cls:= .type "tuple",data:= .seq #[.none, .none] }).push { cls:= .type "zip",data:= .fields #[.none, .bool false, .bool false, .ref ((s.heap.push o1).push o2).objs.size, .ref (((s.heap.push o1).push o2).push { cls:= .type "tuple",data:= .seq #[.ref s.heap.objs.size, .ref (s.heap.push o1).objs.size] }).objs.size] } }):=
 .of_wp fun A R s h=>by
   obtain ⟨hp,g,d,tk,os⟩:=s;obtain ⟨q1,q2,h⟩:=h
   have hsub:=sub_zip
   have i1:=fun (A:Around) (E:VS) (Q:VS)=>s1 A E ⟨hp,g,d,tk,os⟩ Q q1
   have i2:=fun (A:Around) (E:VS) (Q:VS)=>s2 A E ⟨hp.push o1,g,d,tk,os⟩ Q q2
   wp_walk using i1 _ _ _,i2 _ _ _
   exact ⟨_,Z,h⟩
section
variable {prog:Program} {w:World} {A:Around} {E:VS} {s:Shared} {it t:Addr} {i:Nat} {items:Array Value} {Q:VS}
theorem MB {x:Value} (hit:s.heap.IsTupleIter it t i) (ht:s.heap.IsTuple t items) (hx:items[i]?=some x) (hQ:∀h',h'.IsTupleIter it t (i+1)->Heap.SameBut it s.heap h'->Q x { s with heap:=h' }):wpAny (model prog w) A (Builtin.SmallTypes.nextOf (.ref it)) Q E s:=by
 obtain ⟨o,ho,hc,hd⟩:=id hit;obtain ⟨ol,dX,_,nl,hdl⟩:=ht;unfold Builtin.SmallTypes.nextOf
 refine aq (xB (name:=Str.ofString "__next__") hit.typeIs O4 (tD O4 hit.typeIs F.entry_tuple_iterator_next ?_ (F.args_tuple_iterator_next_1 _)))
 show wpAny _ _ (field (.ref it) 0 >>= _) _ _ s;refine aq (ki ho hd (x:= .ref t) rfl ?_);show wpAny _ _ (if (Value.ref t==Value.none)=true then _ else _) _ _ s
 rw [aA (fun z=>fJ z:¬ ((Value.ref t==Value.none)=true))];show wpAny _ _ (field (.ref it) 1 >>= _) _ _ s
 refine aq (ki ho hd (x:= .int i 0) rfl ?_);show wpAny _ _ (seqItems? (.ref t) >>= _) _ _ s;refine aq (tG dX hdl ?_);simp only [rN,hx]
 refine aq (An ho hd (by simp) (aJ ⟨x,Z,aJ (hQ _ ?_ (EV ..))⟩));refine ⟨_,BY _ ho (Obj.isFreed_of_fields (EZ hd _)),(Obj.cls_mapFields ..).trans hc,?_⟩;rw [EZ hd];simp [rawInt]
theorem Qn (hh:A.handled=none) (hit:s.heap.IsTupleIter it t i) (ht:s.heap.IsTuple t items) (hx:items[i]?=none) (hE:∀h' e,Heap.ExtBut it s.heap h'->(∃o,h'.get? e=some o/\o.cls = .type "StopIteration")->E (.ref e) { s with heap:=h' }):wpAny (model prog w) A (Builtin.SmallTypes.nextOf (.ref it)) Q E s:=by
 obtain ⟨o,ho,hc,hd⟩:=id hit;obtain ⟨ol,dX,_,nl,hdl⟩:=ht;unfold Builtin.SmallTypes.nextOf
 refine aq (xB (name:=Str.ofString "__next__") hit.typeIs O4 (tD O4 hit.typeIs F.entry_tuple_iterator_next ?_ (F.args_tuple_iterator_next_1 _)))
 show wpAny _ _ (field (.ref it) 0 >>= _) _ _ s;refine aq (ki ho hd (x:= .ref t) rfl ?_);show wpAny _ _ (if (Value.ref t==Value.none)=true then _ else _) _ _ s
 rw [aA (fun z=>fJ z:¬ ((Value.ref t==Value.none)=true))];show wpAny _ _ (field (.ref it) 1 >>= _) _ _ s
 refine aq (ki ho hd (x:= .int i 0) rfl ?_);show wpAny _ _ (seqItems? (.ref t) >>= _) _ _ s;refine aq (tG dX hdl ?_);simp only [rN,hx]
 refine aq (wpAny_rule (aq (An ho hd (by simp) ?_)));show wpAny _ _ (newExc (.type "StopIteration") [] >>= _) _ _ _;refine aq ?_;simp only [newExc,newTuple]
 refine aq (qi ?_ (by size_fits));refine aq (m:=firstArgMember _ _) (wpAny_of_eq (a:=Value.none) (by first|rfl|(simp only [firstArgMember];rfl)) ?_);refine qi ?_ (by size_fits);simp only [raiseNew]
 refine aq (wpAny_handled ?_);first|rw [show A.in1.handled=none from hh]|rw [hh]
 refine aq (aJ (wpAny_throw ?_));exact hE _ _ (((EV ..).extBut.push _).push _) ⟨_,dW _ rfl,Z⟩
end
theorem XZ {w:World} {l:Addr}:yZ P w K (fun H=>cT K H l xs) xs it l (fun i h=>h.IsTupleIter it l i) (fun h=>∃its:List Value,Vals xs its/\h.IsTuple l its.toArray) where
 obj:=fun i h ⟨o,e,c,d⟩=>⟨o,e,fun v z=>by rw [d] at z;cases z⟩
 keep:=fun i h h' st k=>st.at k
 vn:=fun h h' ⟨its,r,o,e,q⟩ k=>⟨its,r,o,k o e,q⟩
 GL:=fun X hP hw hK pins σ H s I h=>by
  subst hP hw hK
  obtain ⟨its,rv,p,_⟩:=I.tuple h
  exact ⟨its,rv,p⟩
 item:=fun A i x s Q E st ⟨its,r,hl⟩ hx hQ=>by
  obtain ⟨u,hu,ru⟩:=r.get hx
  exact MB st hl (by simpa using hu) fun h' st' sb=>hQ u h' ru st' sb
 done:=fun A i s Q E hh st ⟨its,r,hl⟩ hx hE=>Qn hh st hl (by have:=r.length;simp;omega) hE
theorem Vk:typeLookup (.type "dict") "__len__"=pure (some (.builtin "dict.__len__")):=by rw [typeLookup_type,builtinLookup_eq_fast];kernel_rfl
variable {R:Result->Shared->Prop}
section
variable {prog:Program} {w:World} {A:Around} {E:VS} {s:Shared} {K:Type} [DecidableEq K] {knd:KeyKind prog w K}
theorem AU (hh:A.handled=none) {kvs:List (K×Value)} (hd:(d==sysModules)=false) (hm:s.heap.DictAt knd d kvs ep) (S:Addr) (hSd:S≠d) (res:Value) (c₀:Nat) (hS:s.heap.get? S=some { cls:= .type "list",data:= .seq #[] c₀ })
  (hR:∀h' tk acc' c',(∀b o,b≠S->s.heap.get? b=some o->h'.get? b=some o)->h'.get? S=some { cls:= .type "list",dict:=none,data:= .seq acc' c',slots:=#[] }->
    ItemsOf (fun i v=>∃k x,kvs[i]?=some (k,x)/\knd.is k v=true) acc' kvs.length->R (.ok (.ret res)) { s with heap:=h',toks:=tk }) (hn:kvs.length<=sizeLine):
  wpAny (model prog w) A.in1 (Builtin.List.listExtendWith (.ref S) (.ref d) res)
   (fun fin s'=>match fin with | .done f=>R (.ok f) s' | .again c'=>c'.quiet=true/\codeAny (model prog w) A c' R s') (fun e s'=>R (.error e) s') s:=by
 have hSI:S≠s.heap.objs.size:=dM (bL hS)
 have hT:s.TypeIs (.ref d) "dict":=hm.dictOf.typeIs
 unfold Builtin.List.listExtendWith
 refine aq (wpAny_typeOf (T:="dict") (v:= .ref d) hT ?_)
 have h1:Builtin.List.listSameRef (.ref S) (.ref d)=false:=by
  show (S==d)=false
  simpa using hSd
 have h2:(Value.type "dict"==Value.type "list")=false:=by decide
 have h3:(Value.type "dict"==Value.type "tuple")=false:=by decide
 simp only [h1,h2,h3,Bool.or_false,EY,lE]
 refine aq (wpAny_pyIter_dict hd hm ?_)
 refine aq (xK ?_)
 unfold Builtin.List.listLengthHint
 have hT2:({ s with heap:=s.heap.push { cls:= .type "dict_keyiterator",data:= .fields #[.ref d, .int 0 0, .int kvs.length 0, .int ep 0] } }:Shared).TypeIs (.ref d) "dict":=(hm.push _).dictOf.typeIs
 refine aq (wpAny_specialOf (T:="dict") (v:= .ref d) hT2 Vk ?_)
 wp_delta
 refine aq (wpAny_isInstance (T:="dict") (v:= .ref d) (b:=true) hT2 (by rw [isSubtype_type];kernel_rfl) ?_)
 show wpAny _ _ (typeOf (Value.ref d) >>= _) _ _ _
 refine aq (wpAny_typeOf (T:="dict") (v:= .ref d) hT2 ?_)
 refine aJ ?_
 have hne:d≠s.heap.objs.size:=dM hm.lt_size
 have hSf:S∉[s.heap.objs.size,d] :=fun hm'=>by
  rcases c_.mp hm' with z|z
  . exact hSI z
  . exact hSd (fZ.mp z)
 show wpAny _ A.in1 (rule "list.extend.makes-room" >>= fun _=>Builtin.List.listTouch (.ref S) >>= fun _=>
  again (.builtin "list.extend.loop" ⟨[.ref S, .ref s.heap.objs.size,res],[]⟩)) _ _ _
 refine aq (wpAny_rule ?_)
 refine aq ?_
 show wpAny _ A.in1 (updateSeq S (·.push .none) >>= fun _=>updateSeq S (·.pop)) _ _ _
 have hS₁:=cg { cls:= .type "dict_keyiterator",data:= .fields #[.ref d, .int 0 0, .int kvs.length 0, .int ep 0] } hS
 refine aq (wpAny_updateSeq hS₁ rfl ?_)
 have Ww:=BY (Obj.mapSeq (·.push Value.none)) hS₁ rfl
 refine wpAny_updateSeq (hz:=by seq_fits) Ww rfl ?_
 have hS₃:=BY (Obj.mapSeq (·.pop)) Ww rfl
 have N8:∀b o,b≠S->(s.heap.push { cls:= .type "dict_keyiterator",data:= .fields #[.ref d, .int 0 0, .int kvs.length 0, .int ep 0] }).get? b=some o->(((s.heap.push { cls:= .type "dict_keyiterator",data:= .fields #[.ref d, .int 0 0, .int kvs.length 0, .int ep 0] }).update S (Obj.mapSeq (·.push Value.none))).update S (Obj.mapSeq (·.pop))).get? b=some o:=
  fun b o hb e=>(Jk _ _ (bY hb)).trans ((Jk _ _ (bY hb)).trans e)
 refine aJ ⟨plainId_quiet F.plain_extend_loop _,codeAny_extend_loopS (Walks.dictKeys (prog:=prog) (w:=w) (A:=A.in1) (knd:=knd) hh s.heap.objs.size d hne kvs ep).toS hn _ hSf _ kvs.length 0 _ _ _ rfl (fC _) ⟨⟨_,N8 _ _ (bY hSI) (dW _ rfl),Z,Z⟩,(hm.push _).at' fun o e=>N8 d o (bY hSd) e⟩ hS₃ (ItemsOf.nil _) fun s' acc' c' hm2 hS' hacc=>?_⟩
 rw [Moved.eq_with hm2]
 refine hR s'.heap s'.toks acc' c' (fun b ob hb e=>hm2.heap b ob (fun hmem=>?_) (N8 b ob hb (cg _ e))) hS' hacc
 rcases c_.mp hmem with e'|hmem
 . exact hb e'
 . exact absurd (bL e) (by rw [fZ.mp hmem];exact je _)
theorem Fb {Q:VS} (hh:A.handled=none) {kvs:List (K×Value)} (hd:(d==sysModules)=false) (hm:s.heap.DictAt knd d kvs ep) (hn:kvs.length<=sizeLine)
  (hQ:∀h' tk acc' c',(∀b o,s.heap.get? b=some o->h'.get? b=some o)->
    h'.get? s.heap.objs.size=some { cls:= .type "list",dict:=none,data:= .seq acc' c',slots:=#[] }->ItemsOf (fun i v=>∃k x,kvs[i]?=some (k,x)/\knd.is k v=true) acc' kvs.length->Q (.ref s.heap.objs.size) { s with heap:=h',toks:=tk }):
  wpAny (model prog w) A (call (.type "list") [.ref d]) Q E s:=by
 refine callType_codes (Q₁:=fun obj s₁=>obj = .ref s.heap.objs.size/\s₁={ s with heap:=s.heap.push { cls:= .type "list",data:= .seq #[] } }) F.called_list (F.typeCall_list_1 _) F.entry_list_init
  (code_list_new _ ⟨Z,Z⟩) fun obj s₁ h₁=>?_
 obtain ⟨rfl,rfl⟩:=h₁
 have hS:(s.heap.push { cls:= .type "list",data:= .seq #[] }).get? s.heap.objs.size=some { cls:= .type "list",data:= .seq #[] }:=dW _ rfl
 have hne:s.heap.objs.size≠d:=xM hm.lt_size
 refine ⟨⟨_,hS,Z⟩,F.args_list_init_2 _ _,?_⟩
 show wpAny _ _ (do let old <-Builtin.List.listItems (.ref s.heap.objs.size);Builtin.List.listUpdate (.ref s.heap.objs.size) (fun _=>#[]);letGo old.toList.reverse;Builtin.List.listExtendWith (.ref s.heap.objs.size) (.ref d) .none) _ _ _
 refine aq ?_
 unfold Builtin.List.listItems
 refine aq (tG hS rfl (aJ ?_))
 show wpAny _ _ (updateSeq s.heap.objs.size (fun _=>#[]) >>= fun _=>letGo (#[] :Array Value).toList.reverse >>= fun _=>Builtin.List.listExtendWith (.ref s.heap.objs.size) (.ref d) .none) _ _ _
 refine aq (wpAny_updateSeq hS rfl ?_)
 have Ww:=BY (Obj.mapSeq (fun _=>(#[] :Array Value))) hS rfl
 have N8:∀b o,b≠s.heap.objs.size->(s.heap.push { cls:= .type "list",data:= .seq #[] }).get? b=some o->((s.heap.push { cls:= .type "list",data:= .seq #[] }).update s.heap.objs.size (Obj.mapSeq (fun _=>(#[] :Array Value)))).get? b=some o:=
  fun b o hb e=>(Jk _ _ (bY hb)).trans e
 refine aq (wpAny_letGo ?_)
 refine AU (A:=A.in1) hh hd (hm.push _ |>.at' fun o e=>N8 d o hne.symm e) s.heap.objs.size hne .none _ Ww (fun h' tk acc' c' hk hS' hacc=>?_) hn
 exact ⟨Z,hQ h' tk acc' c' (fun b o e=>hk b o (dM (bL e)) (N8 b o (dM (bL e)) (cg _ e))) hS' hacc⟩
end
theorem GN {α β:Type} {F:α->β->Prop}:∀{l₁:List α} {l₂:List β},l₁.length=l₂.length->(∀(i:Nat) (x:α) (y:β),l₁[i]?=some x->l₂[i]?=some y->F x y)->Paired F l₁ l₂
 | [],[],_,_=> .nil
 | x::xs,y::ys,h,f=> .cons (f 0 x y rfl rfl) (GN (by simpa using h) fun i a b ha hb=>f (i+1) a b (by simpa using ha) (by simpa using hb))
def lG (v d:Addr):HO:= .ext fun h=>h.IsValuesView v d
section
variable {X:Cx}
inductive aai (Q:VK) (x:V) (H1:Hp):Prop
 | mk  (d kvs:_) (_:x = .ref d) (_:Rd H1 d (.dK kvs)) (_:∀v,H1 v=none->Q (.ref v) (upd H1 v (lG v d)))
def acX (td:TE):TE:=fun σ H Q=>td σ H (aai Q)
inductive Wk (K:Fg) (H:Hp):V->(Hp->Prop)->List V->Prop
 | lst {l:Addr} {xs:List V}:aB K H l xs->Wk K H (.ref l) (fun H=>aB K H l xs) xs
 | tup {l:Addr} {xs:List V}:cT K H l xs->Wk K H (.ref l) (fun H=>cT K H l xs) xs
 | keys {d:Addr} {o:Obj} {kvs:List (Key×V)}:oz H d o kvs->Wk K H (.ref d) (fun H=>oz H d o kvs) (kvs.map fun p=>kV p.1)
 | vals {v d:Addr} {o:Obj} {kvs:List (Key×V)}:H v=some (lG v d)->oz H d o kvs->Wk K H (.ref v) (fun H=>oz H d o kvs) (kvs.map fun p=>p.2)
theorem Wk.ok {u:V} {S:Hp->Prop} (k:Wk X.K H u S xs) (I:Inv X pins σ H s) (r:RelV u uv):
  S H/\∃(l:Addr) (o:Obj) (p:Heap->Prop),l<s.heap.objs.size/\p s.heap/\(∀h (ob:Obj),p h->p (h.push ob))/\(∀h:Heap,(h.push o).get? h.objs.size=some o)/\JX X.prog X.w uv o p/\∀it:Addr,∃tn src,yZ X.prog X.w X.K S xs it l tn src/\∀h:Heap,h.get? it=some o->tn 0 h:=by
 cases k with
 | @lst l xs hS=>
   cases r
   obtain ⟨its,rv,p,_⟩:=I.list hS
   obtain ⟨ol,dX,_⟩:=id p.isList
   refine ⟨hS,l,_,fun h=>h.IsList l its.toArray,bL dX,p.isList,fun h ob q=>q.push ob,fun h=>dW _ rfl,fun A E s Q q h=>Pq q h,fun it=>⟨_,_,Vg,fun h e=>⟨_,e,Z,Z⟩⟩⟩
 | @tup l xs hS=>
   cases r
   obtain ⟨its,rv,p,_⟩:=I.tuple hS
   obtain ⟨ol,dX,q0⟩:=id p
   refine ⟨hS,l,_,fun h=>h.IsTuple l its.toArray,bL dX,p,fun h ob ⟨o1,a,b⟩=>⟨o1,cg _ a,b⟩,fun h=>dW _ rfl,fun A E s Q q h=>wpAny_pyIter_tuple q h,fun it=>⟨_,_,XZ,fun h e=>⟨_,e,Z,Z⟩⟩⟩
 | @keys d o kvs hz=>
   cases r
   obtain ⟨ho,hl,hsys,vs,ep,rel,da⟩:=I.qT hz
   obtain ⟨o',es,h1,_,h2,_⟩:=id da
   rw [ho] at h1;cases h1
   have el:kvs.length=vs.length:=rel.length
   refine ⟨hz,d,_,fun h=>h.DictAt (c7 X.prog X.w) d vs ep,bL ho,da,fun h ob q=>q.push ob,fun h=>dW _ rfl,fun A E s Q q h=>wpAny_pyIter_dict hsys q h,fun it=>⟨_,_,Vh h2,fun h e=>?_⟩⟩
   rw [el]
   exact ⟨_,e,Z,Z⟩
 | @vals v d o kvs hv hz=>
   cases r
   obtain ⟨ho,hl,hsys,vs,ep,rel,da⟩:=I.qT hz
   obtain ⟨o',es,h1,_,h2,_⟩:=id da
   rw [ho] at h1;cases h1
   have el:kvs.length=vs.length:=rel.length
   obtain ⟨hv',_⟩:=(show dJ X.prog X.w H s.heap v (lG v d) from I.hok v _ hv)
   refine ⟨hz,d,_,fun h=>h.IsValuesView v d/\h.DictAt (c7 X.prog X.w) d vs ep,bL ho,⟨hv',da⟩,fun h ob ⟨⟨o1,a,b⟩,q⟩=>⟨⟨o1,cg _ a,b⟩,q.push ob⟩,fun h=>dW _ rfl,fun A E s Q q h=>wpAny_pyIter_values q.1 q.2 h,fun it=>⟨_,_,Vi h2,fun h e=>?_⟩⟩
   rw [el]
   exact ⟨_,e,Z,Z⟩
variable {elts:List Expr} {kk:Nat} {tpos:Pos}
inductive aaj (K:Fg) (R:It->Hp->Prop) (vs:List V) (H1:Hp):Prop
 | mk  (u1 u2 S1 S2 xs ys:_) (_:vs=[u1,u2]) (_:Wk K H1 u1 S1 xs) (_:Wk K H1 u2 S2 ys) (_:R (aah S1 S2 xs ys:_) H1)
def acY (K:Fg) (ta:TA):TI:=fun σ H R=>ta σ H (aaj K R)
theorem GO (hc:X.calm=true):gj X (.builtin "sum") (fun xs H Q=>∃(v d:Addr) (kvs:List (Key×V)) (ns:List Int),xs=[.ref v]/\H v=some (lG v d)/\Rd H d (.dK kvs)/\kvs.map (·.2)=ns.map V.int/\Q (.int ns.sum) H):=by
 intro pins s σ H xs us Q I r h
 obtain ⟨v,d,kvs,ns,rfl,hv,hz,en,q⟩:=h
 obtain ⟨u,rfl,ru⟩:=vals1 r
 cases ru
 obtain ⟨_,hsys,vs,rel,dd⟩:=qR I.hok hz
 obtain ⟨ep,da⟩:=dd.dictAt
 obtain ⟨hv',_⟩:=(show dJ X.prog X.w H s.heap v (lG v d) from I.hok v _ hv)
 have hl:kvs.length=vs.length:=rel.length
 have hlt:=da.lt_size
 have hne:d≠s.heap.objs.size:=dM hlt
 have W:=(Walks.dictValues (prog:=X.prog) (w:=X.w) (A:=X.A.in1) (knd:=c7 X.prog X.w) (I.ok.hd hc) s.heap.objs.size d hne vs ep).toS
 have DC:kvs.length=ns.length:=by have:=h_ List.length en;simpa using this
 refine call_sum_walkAnyS (wpAny_pyIter_values hv' da ?_)
 refine ⟨s.heap.objs.size,_,_,_,_,_,_,fun i=>ns.getD i 0,Z,W,⟨⟨_,dW _ rfl,Z,Z⟩,da.push _⟩,fun b hb=>?_,fun i x hP=>?_,fun s' t' hm=>?_⟩
 . rcases c_.mp hb with rfl|hb
   . exact bL (dW _ rfl)
   . obtain rfl:=fZ.mp hb
     exact (da.push _).lt_size
 . obtain ⟨k,hk⟩:=hP
   have hil:i<ns.length:=by
    have:=(eU.mp hk).1
    omega
   have hik:i<kvs.length:=by omega
   obtain ⟨q',hq',_,rq⟩:=wV rel (aX hik)
   rw [hk] at hq'
   cases hq'
   have e1:kvs[i].2=V.int (ns.getD i 0):=by
    have:=h_ (fun l=>l[i]?) en
    simp only [bK,aX hik,aX hil] at this
    rw [gR,aX hil]
    exact iy this
   rw [e1] at rq
   exact rq
 . obtain ⟨h',g',d',tk',os'⟩:=s'
   have e1:g'=s.gens:=hm.gens
   have e2:d'=s.drawn:=hm.drawn
   have e3:os'=s.os:=hm.os
   subst e1 e2 e3
   have hsz:vs.length=ns.length:=by omega
   rw [hsz,preSum_getD,BX (aO _)]
   exact ⟨.int ns.sum,H,I.kept (h':=h') (t':=tk') fun b o e=>hm.heap b o (fun hb=>absurd (bL e) ((fZ.mp hb)▸je _)) (cg _ e),⟨t',Z⟩,q⟩
theorem Qo (hc:X.calm=true):gj X (.type "list") (fun xs H Q=>∃(d:Addr) (kvs:List (Key×V)),xs=[.ref d]/\Rd H d (.dK kvs)/\∀l,H l=none->Q (.ref l) (upd H l (.lst (kvs.map fun p=>kV p.1)))):=by
 intro pins s σ H xs us Q I r h
 obtain ⟨d,kvs,rfl,hz,q⟩:=h
 obtain ⟨u,rfl,ru⟩:=vals1 r
 cases ru
 obtain ⟨hsz,hsys,vs,rel,dd⟩:=qR I.hok hz
 obtain ⟨ep,da⟩:=dd.dictAt
 have hl:kvs.length=vs.length:=rel.length
 refine Fb (I.ok.hd hc) hsys da (by omega) fun h' tk acc' c' kp e it=>?_
 refine ⟨.ref s.heap.objs.size,_,I.laid (t':=tk) kp (aO _) (show dJ X.prog X.w _ h' _ (.lst (kvs.map fun p=>kV p.1)) from ⟨by rw [aG];exact hsz,acc'.toList,c',?_,by rw [e]⟩),Z,q _ I.fresh⟩
 obtain ⟨sz,hit⟩:=it
 have hA:acc'.toList.length=acc'.size:=by simp
 have hB:(kvs.map fun p=>kV p.1).length=acc'.toList.length:=by rw [aG];omega
 refine GN hB fun i x y hx hy=>?_
 rw [bK] at hx
 obtain ⟨p,hp,rfl⟩:=lP.mp hx
 obtain ⟨k,v,hk,hkk⟩:=hit i y (by simpa using hy)
 obtain ⟨q',hq',ek,_⟩:=wV rel hp
 rw [hk] at hq'
 cases hq'
 rw [ek]
 exact JW hkk
end
def dY:St->List Nat->List V->St
 | σ,k::ks,v::vs=>dY (σ.set k (some v)) ks vs
 | σ,_,_=>σ
theorem DL {k:Nat} {v:Option V}:∀{ks:List Nat} {vs:List V} {σ:St},k∉ks->(dY σ ks vs).set k v=dY (σ.set k v) ks vs
 | [],_,_,_=>by unfold dY;rfl
 | _::_,[],_,_=>by unfold dY;rfl
 | j::ks,w::vs,σ,h=>by
   have hj:k≠j:=fun e=>h (by rw [e];exact cO)
   show (dY (σ.set j (some w)) ks vs).set k v=dY ((σ.set k v).set j (some w)) ks vs
   rw [DL (fun m=>h (cI _ m)),List.set_comm _ _ hj]
theorem ud:∀{ks:List Nat} {vs ws:List V} {σ:St},ks.Nodup->vs.length=ks.length->ws.length=ks.length->dY (dY σ ks vs) ks ws=dY σ ks ws
 | [],[],[],_,_,_,_=>rfl
 | k::ks,v::vs,w::ws,σ,nd,h1,h2=>by
   have nk:=(iQ.mp nd).1
   show dY ((dY (σ.set k (some v)) ks vs).set k (some w)) ks ws=dY (σ.set k (some w)) ks ws
   rw [DL nk,vf,ud (iQ.mp nd).2 (by simpa using h1) (by simpa using h2)]
def Wx:List Nat->C_
 | []=>Zf
 | k::ks=>We (gi k) (Wx ks)
theorem JY {Q:St->Hp->Prop} {H:Hp}:∀{ks:List Nat} {vs:List V} {σ:St},vs.length=ks.length->Q (dY σ ks vs) H->Wx ks vs σ H Q
 | [],[],_,_,q=>⟨Z,q⟩
 | k::ks,v::vs,σ,h,q=>⟨v,vs,Z,JY (by simpa using h) q⟩
theorem y9 (ks:List Nat) {Q:VK} (Pv:Nat->List V->Hp->Prop) (nd:ks.Nodup) (hn:n<=100000) (h0:Pv 0 [] (upd H acc (.lst [])))
  (hgo:∀i out H1,i<n->H1 acc=some (.lst out)->Pv i out H1->J.go i H1) (hst:∀out H1,H1 acc=some (.lst out)->Pv n out H1->J.stop n H1)
  (hs:∀(i:Nat) (x:V) (out:List V) (H1 H2:Hp),i<n->out.length=i->H1 acc=some (.lst out)->Pv i out H1->J.Dc i H1 x H2->
    ∃t vs,x = .ref t/\cT K H2 t vs/\vs.length=ks.length/\te (dY σ2 ks vs) H2 (t_ Pv i acc out))
  (hd:∀(out:List V) (H1:Hp),out.length=n->H1 acc=some (.lst out)->Pv n out H1->Q (.ref acc) H1):
  AE J (B8 K ks.length (Wx ks)) te acc σ2 H Q:=by
 refine ⟨fun i m σ' H'=>m=n-i/\i<=n/\(∀ws,ws.length=ks.length->dY σ' ks ws=dY σ2 ks ws)/\∃out,out.length=i/\H' acc=some (.lst out)/\Pv i out H',⟨n,by simp,fC _,fun _ _=>rfl,[],Z,ah,h0⟩,?_⟩
 rintro i m σ' H' ⟨rfl,hi,hσ,out,ho,ha,p⟩
 by_cases hlt:i<n
 . refine .inr ⟨hgo i out H' hlt ha p,fun σ3=>∀ws,ws.length=ks.length->dY σ3 ks ws=dY σ2 ks ws,(t_ Pv i acc out),fun σ3 v H4 hS ⟨a,b⟩=>?_,fun x H1 y=>?_⟩
   . refine ⟨out,a,?_,n-(i+1),by omega,Z,hlt,hS,out++[v],by rw [dg,ho];rfl,ah,b⟩
     have:sizeLine=16777216:=fm
     omega
   . obtain ⟨t,vs,rfl,sq,hl,q⟩:=hs i x out H' H1 hlt ho ha p y
     refine ⟨t,vs,Z,sq,hl,JY hl ⟨fun ws hw=>?_,?_⟩⟩
     . rw [ud nd hl hw];exact hσ ws hw
     . rw [hσ vs hl];exact q
 . have e:i=n:=by omega
   subst e
   exact .inl ⟨hst out H' ha p,hd out H' ho ha p⟩
theorem X0 (ks:List Nat) {Q:VK} (Pv:Nat->List V->Hp->Prop) (nd:ks.Nodup) (hn:n<=100000) (h0:Pv 0 [] (upd H acc (.lst [])))
  (hgo:∀i out H1,i<n->H1 acc=some (.lst out)->Pv i out H1->J.go i H1) (hst:∀out H1,H1 acc=some (.lst out)->Pv n out H1->J.stop n H1)
  (hs:∀(i:Nat) (x:V) (out:List V) (H1 H2:Hp),i<n->out.length<=i->H1 acc=some (.lst out)->Pv i out H1->J.Dc i H1 x H2->
    ∃t vs,x = .ref t/\cT K H2 t vs/\vs.length=ks.length/\tc (dY σ2 ks vs) H2 (Wo te (dY σ2 ks vs) Pv i acc out))
  (hd:∀(out:List V) (H1:Hp),out.length<=n->H1 acc=some (.lst out)->Pv n out H1->Q (.ref acc) H1):
  DI J (B8 K ks.length (Wx ks)) tc te acc σ2 H Q:=by
 refine ⟨fun i m σ' H'=>m=n-i/\i<=n/\(∀ws,ws.length=ks.length->dY σ' ks ws=dY σ2 ks ws)/\∃out,out.length<=i/\H' acc=some (.lst out)/\Pv i out H',⟨n,by simp,fC _,fun _ _=>rfl,[],aO _,ah,h0⟩,?_⟩
 rintro i m σ' H' ⟨rfl,hi,hσ,out,ho,ha,p⟩
 by_cases hlt:i<n
 . refine .inr ⟨hgo i out H' hlt ha p,fun σ3=>∀ws,ws.length=ks.length->dY σ3 ks ws=dY σ2 ks ws,(t_ Pv i acc out),fun H3=>H3 acc=some (.lst out)/\Pv (i+1) out H3,fun σ3 v H4 hS ⟨a,b⟩=>?_,fun σ3 H4 hS ⟨a,b⟩=>?_,fun x H1 y=>?_⟩
   . refine ⟨out,a,?_,n-(i+1),by omega,Z,hlt,hS,out++[v],by rw [dg];exact Nat.succ_le_succ ho,ah,b⟩
     have:sizeLine=16777216:=fm
     omega
   . exact ⟨n-(i+1),by omega,Z,hlt,hS,out,by omega,a,b⟩
   . obtain ⟨t,vs,rfl,sq,hl,q⟩:=hs i x out H' H1 hlt ho ha p y
     refine ⟨t,vs,Z,sq,hl,JY hl ⟨fun ws hw=>?_,?_⟩⟩
     . rw [ud nd hl hw];exact hσ ws hw
     . rw [hσ vs hl];exact q
 . have e:i=n:=by omega
   subst e
   exact .inl ⟨hst out H' ha p,hd out H' ho ha p⟩
theorem gC (k:Nat) {Q:VK} (Pv:Nat->List V->Hp->Prop) (hn:n<=100000) (h0:Pv 0 [] (upd H acc (.lst [])))
  (hgo:∀i out H1,i<n->H1 acc=some (.lst out)->Pv i out H1->J.go i H1) (hst:∀out H1,H1 acc=some (.lst out)->Pv n out H1->J.stop n H1)
  (hs:∀(i:Nat) (x:V) (out:List V) (H1 H2:Hp),i<n->out.length=i->H1 acc=some (.lst out)->Pv i out H1->J.Dc i H1 x H2->
    te (σ2.set k (some x)) H2 (t_ Pv i acc out))
  (hd:∀(out:List V) (H1:Hp),out.length=n->H1 acc=some (.lst out)->Pv n out H1->Q (.ref acc) H1):
  AE J (gi k) te acc σ2 H Q:=by
 refine ⟨fun i m σ' H'=>m=n-i/\i<=n/\(∀w:Option V,σ'.set k w=σ2.set k w)/\∃out,out.length=i/\H' acc=some (.lst out)/\Pv i out H',⟨n,by simp,fC _,fun _=>rfl,[],Z,ah,h0⟩,?_⟩
 rintro i m σ' H' ⟨rfl,hi,hσ,out,ho,ha,p⟩
 by_cases hlt:i<n
 . refine .inr ⟨hgo i out H' hlt ha p,fun σ3=>∀w:Option V,σ3.set k w=σ2.set k w,(t_ Pv i acc out),fun σ3 v H4 hS ⟨a,b⟩=>?_,fun x H1 y=>?_⟩
   . refine ⟨out,a,?_,n-(i+1),by omega,Z,hlt,hS,out++[v],by rw [dg,ho];rfl,ah,b⟩
     have:sizeLine=16777216:=fm
     omega
   . refine ⟨fun w=>by rw [vf];exact hσ w,?_⟩
     rw [hσ]
     exact hs i x out H' H1 hlt ho ha p y
 . have e:i=n:=by omega
   subst e
   exact .inl ⟨hst out H' ha p,hd out H' ho ha p⟩
theorem N9 (k:Nat) {Q:VK} (Pv:Nat->List V->Hp->Prop) (hn:n<=100000) (h0:Pv 0 [] (upd H acc (.lst [])))
  (hgo:∀i out H1,i<n->H1 acc=some (.lst out)->Pv i out H1->J.go i H1) (hst:∀out H1,H1 acc=some (.lst out)->Pv n out H1->J.stop n H1)
  (hs:∀(i:Nat) (x:V) (out:List V) (H1 H2:Hp),i<n->out.length<=i->H1 acc=some (.lst out)->Pv i out H1->J.Dc i H1 x H2->
    tc (σ2.set k (some x)) H2 (Wo te (σ2.set k (some x)) Pv i acc out))
  (hd:∀(out:List V) (H1:Hp),out.length<=n->H1 acc=some (.lst out)->Pv n out H1->Q (.ref acc) H1):
  DI J (gi k) tc te acc σ2 H Q:=by
 refine ⟨fun i m σ' H'=>m=n-i/\i<=n/\(∀w:Option V,σ'.set k w=σ2.set k w)/\∃out,out.length<=i/\H' acc=some (.lst out)/\Pv i out H',⟨n,by simp,fC _,fun _=>rfl,[],aO _,ah,h0⟩,?_⟩
 rintro i m σ' H' ⟨rfl,hi,hσ,out,ho,ha,p⟩
 by_cases hlt:i<n
 . refine .inr ⟨hgo i out H' hlt ha p,fun σ3=>∀w:Option V,σ3.set k w=σ2.set k w,(t_ Pv i acc out),fun H3=>H3 acc=some (.lst out)/\Pv (i+1) out H3,fun σ3 v H4 hS ⟨a,b⟩=>?_,fun σ3 H4 hS ⟨a,b⟩=>?_,fun x H1 y=>?_⟩
   . refine ⟨out,a,?_,n-(i+1),by omega,Z,hlt,hS,out++[v],by rw [dg];exact Nat.succ_le_succ ho,ah,b⟩
     have:sizeLine=16777216:=fm
     omega
   . exact ⟨n-(i+1),by omega,Z,hlt,hS,out,by omega,a,b⟩
   . refine ⟨fun w=>by rw [vf];exact hσ w,?_⟩
     rw [hσ]
     exact hs i x out H' H1 hlt ho ha p y
 . have e:i=n:=by omega
   subst e
   exact .inl ⟨hst out H' ha p,hd out H' ho ha p⟩
structure Mn (P:Program) (w:World) (K:Fg) (mg:SO) (base:Heap) (k:Nat) (C:Addr) (m:Str) (ps:List Str) (sp:Sp):Prop where
 ex:∃f fd,iZ P w K mg base sW k f fd ps sp/\Binds K fd ps []/\Meth K C m f/\oj K C
structure Cn (P:Program) (w:World) (K:Fg) (mg:SO) (base:Heap) (k:Nat) (x:Str) (C:Addr) (ps:List Str) (sp:Sp):Prop where
 ex:∃f fd,iZ P w K mg base sW k f fd ps sp/\Binds K fd ps []/\Mk K C f/\mg x=some (.ref C)
section
variable {X:Cx}
inductive acZ (x:V) (y:V) (H:Hp) (Q:VK):Prop
 | mk  (i j:_) (_:x = .int i) (_:y = .int j) (_:Qe i j) (_:Q (.int (i*j)) H)
theorem X3:PK X .Mult acZ:=by
 rintro pins s σ H x y u v Q I rx ry ⟨i,j,rfl,rfl,⟨m,n,h1,h2,h3⟩,q⟩
 obtain ⟨t,rfl⟩:=(show ∃t,u=Value.int i t from rx)
 obtain ⟨t',rfl⟩:=(show ∃t',v=Value.int j t' from ry)
 exact PyProof.Rows.imul_int ⟨.int (i*j),H,I.tok _,⟨_,Z⟩,q⟩ (IntMulOk.of_le (Pd.mpr h1) (Pd.mpr h2) h3)
end
structure iY (K:Fg) (C:Addr) (m qual:Str) (st:Stmt) (f:Addr) (fd:FuncData):Prop where
 fn:GI K m qual st f fd
 me:Meth K C m f
 cl:oj K C
variable {mg:SO} {base:Heap} {C f:Addr} {qual:Str} {fd:FuncData} {N ps:List Str} {sp:Sp}
theorem iY.ok {w:World} {m:Str} {st:Stmt} {k:Nat} (F:iY K C m qual st f fd) (S:aI N ps (ay st)) (len:∀vs H Q E,sp vs H Q E->vs.length=ps.length)
  (hbody:∀(cdv:Value) (A:Around) (outer:List Env) (s:Shared) (H:Hp) (vs:List V) (Q:VK) (E:XK),dB k (A.deeper (envOfC qual (ay st) s.heap.objs.size f cdv))->sp vs H Q E->
    ∃t,qe (cL sW P w K mg base N qual (ay st) f cdv A outer s H E).Bf (cE st) t/\t { nx:=fun _ H'=>Q .bU H',rt:=Q } (start N vs) H)
  (h:∀(kV doc pm:Value) (an:Option Addr) (cdv ct:Value) (us:List Value),us.length=ps.length->bindArgs (PySem.W.fnOf m qual (dR st) (cE st) (ay st) .none kV doc pm an cdv ct) ⟨us,[]⟩=pure (ps.zip us)):
  Mn P w K mg base (k+1) C m ps sp:=⟨f,fd,F.fn.ok S len hbody,F.fn.binds h,F.me,F.cl⟩
structure GP (K:Fg) (mg:SO) (x:Str) (C:Addr) (qual:Str) (st:Stmt) (f:Addr) (fd:FuncData):Prop where
 fn:GI K "__init__" qual st f fd
 mks:Mk K C f
 name:mg x=some (.ref C)
theorem GP.ok {w:World} {st:Stmt} {k:Nat} (F:GP K mg x C qual st f fd) (S:aI N ps (ay st)) (len:∀vs H Q E,sp vs H Q E->vs.length=ps.length)
  (hbody:∀(cdv:Value) (A:Around) (outer:List Env) (s:Shared) (H:Hp) (vs:List V) (Q:VK) (E:XK),dB k (A.deeper (envOfC qual (ay st) s.heap.objs.size f cdv))->sp vs H Q E->
    ∃t,qe (cL sW P w K mg base N qual (ay st) f cdv A outer s H E).Bf (cE st) t/\t { nx:=fun _ H'=>Q .bU H',rt:=Q } (start N vs) H)
  (h:∀(kV doc pm:Value) (an:Option Addr) (cdv ct:Value) (us:List Value),us.length=ps.length->bindArgs (PySem.W.fnOf "__init__" qual (dR st) (cE st) (ay st) .none kV doc pm an cdv ct) ⟨us,[]⟩=pure (ps.zip us)):
  Cn P w K mg base (k+1) x C ps sp:=⟨f,fd,F.fn.ok S len hbody,F.fn.binds h,F.mks,F.name⟩
abbrev sX:=Nat×Nat×Str
abbrev fU:=Addr->Option sX
abbrev col (n t:Nat):Option sX:=some (n,t,(⟨#[]⟩:Str))
def isTup:HO->Bool
 | .tup _=>true
 | _=>false
def Gh (ρ:fU) (H:Hp):Prop:=∀b c,ρ b=some c->∃o,H b=some o/\isTup o=false
def Fr (n:Nat) (ρ:fU) (H:Hp) (ρ':fU) (H':Hp):Prop:=∀b o,H b=some o->(∀t x,ρ b≠some (n,t,x))->H' b=some o/\ρ' b=ρ b
def cN (ρ:fU) (a:Addr) (c:sX):fU:=fun b=>if b=a then some c else ρ b
variable {ρ:fU}
theorem dN {c:sX}:cN ρ a c a=some c:=aC rfl
theorem b_ {b:Addr} {c:sX} (h:b≠a):cN ρ a c b=ρ b:=aA h
def out (ρ:fU) (H:Hp):Hp:=fun b=>if ρ b=none then H b else none
variable {o:HO}
theorem DM {b:Addr} (h:H b=some o) (c:ρ b=none):out ρ H b=some o:=by
 unfold out;rw [aC c];exact h
theorem xV {b:Addr} (h:out ρ H b=some o):H b=some o/\ρ b=none:=by
 unfold out at h
 split at h
 . next c=>exact ⟨h,c⟩
 . cases h
theorem Gh.none (g:Gh ρ H) {b:Addr} (h:H b=Option.none):ρ b=Option.none:=by
 cases e:ρ b with
 | none=>rfl
 | some c=>obtain ⟨o,q,_⟩:=g b c e;rw [h] at q;cases q
theorem Gh.tup {ρ:fU} {H:Hp} (g:Gh ρ H) {b:Addr} {xs:List V} (h:H b=some (.tup xs)):ρ b=Option.none:=by
 cases e:ρ b with
 | none=>rfl
 | some c=>obtain ⟨o,q,t⟩:=g b c e;rw [h] at q;cases q;cases t
theorem Gh.same (g:Gh ρ H) (s:aF H H'):Gh ρ H':=fun b c e=>let ⟨o,h,t⟩:=g b c e;⟨o,s b o h,t⟩
theorem Gh.wr (g:Gh ρ H) (t:isTup o=false):Gh ρ (upd H a o):=fun b c e=>by
 by_cases h:b=a
 . rw [h,ah];exact ⟨o,Z,t⟩
 . rw [av h];exact g b c e
theorem Gh.alloc (g:Gh ρ H) (h:H a=Option.none):Gh ρ (upd H a o):=g.same (az h o)
theorem Gh.color (g:Gh ρ H) {c:sX} (h:H a=some o) (t:isTup o=false):Gh (cN ρ a c) H:=fun b d e=>by
 by_cases z:b=a
 . rw [z];exact ⟨o,h,t⟩
 . rw [b_ z] at e;exact g b d e
theorem Fr.refl:Fr n ρ H ρ H:=fun _ _ h _=>⟨h,Z⟩
variable {H1 H2:Hp}
theorem Fr.trans {ρ1 ρ2:fU} (a:Fr n ρ H ρ1 H1) (b:Fr n ρ1 H1 ρ2 H2):Fr n ρ H ρ2 H2:=fun c o h k=>by
 obtain ⟨h1,e1⟩:=a c o h k
 obtain ⟨h2,e2⟩:=b c o h1 (by rw [e1];exact k)
 exact ⟨h2,e2.trans e1⟩
theorem Fr.of_same (s:aF H H'):Fr n ρ H ρ H':=fun b o h _=>⟨s b o h,Z⟩
theorem Fr.write (c:ρ a=some (n,t,x)):Fr n ρ H ρ (upd H a o):=fun b u h k=>by
 have:b≠a:=fun e=>k t x (by rw [e];exact c)
 rw [av this];exact ⟨h,Z⟩
theorem Fr.color {c:sX} (h:H a=none) (s:aF H H'):Fr n ρ H (cN ρ a c) H':=fun b u e k=>by
 rw [b_ (aH e h)];exact ⟨s b u e,Z⟩
variable {ρ':fU}
theorem Fr.out (f:Fr n ρ H ρ' H'):aF (out ρ H) (out ρ' H'):=fun b o h=>by
 obtain ⟨h1,c⟩:=xV h
 obtain ⟨h2,e⟩:=f b o h1 (fun t x=>by rw [c];intro z;cases z)
 exact DM h2 (e.trans c)
theorem iM (s:aF H H'):aF (out ρ H) (out ρ H'):=fun b o h=>by
 obtain ⟨h1,c⟩:=xV h
 exact DM (s b o h1) c
structure Pt where
 nm:Str
 ow:Str
 wo:Int
 we:Int
 sc:Int
 row:List Int
structure qf where
 nm:Str
 ow:Str
 wo:Int
 sh:List (Str×Rat)
structure HS where
 own:List Str
 ao:List Pt
 kL:List qf
 nms:List Str
 stp:List Int
 prod:Int
 kn:Nat
 bM:List Int
 cX:List Int
structure HA where
 a:Addr
 dx:Addr
 pl:Addr
 ab:Addr
 as:Addr
 nm:Addr
 bt:Addr
 db:Addr
 cm:Addr
 pu:Addr
 sp:Addr
 kn:Addr
 qs:List (Addr×Addr×Addr)
structure TC where
 hold:Addr
 part:Addr
 bot:Addr
def fK:Nat->List Str->List (Key×V)
 | _,[]=>[]
 | i,o::r=>(Sum.inr o, .int i)::fK (i+1) r
def cY (ps:List Pt) (qs:List (Addr×Addr×Addr)):List (Key×V):=List.zipWith (fun p q=>((Sum.inr p.nm:Key),V.ref q.1)) ps qs
def wW (l:List Str):List (Key×V):=l.map fun x=>(Sum.inr x, .bl true)
def mT (A:HA):List (Str×V):=[("places", .ref A.pl),("aboard", .ref A.ab),("ashore", .ref A.as),("names", .ref A.nm),("bottom", .ref A.bt),("common", .ref A.cm),("purses", .ref A.pu)]
def lS (p:Pt) (r:Addr):List (Str×V):=[("name", .str p.nm),("owner", .str p.ow),("worth", .int p.wo),("weight", .int p.we),("scale", .int p.sc),("row", .ref r)]
def xW (sp:Addr) (prod:Int) (kn:Addr):List (Str×V):=[("steps", .ref sp),("product", .int prod),("known", .ref kn)]
def JZ (H:Hp) (kvs:List (Key×V)) (prod:Int):Prop:=∀p∈kvs,∃(t:Int) (r:Addr),p=(Sum.inl t,V.ref r)/\H r=some (o7 (Jm.fr t prod))
inductive i6 (H:Hp):List V->List (Str×Rat)->Prop
 | nil:i6 H [] []
 | cons {r f:Addr} {x:Str} {q:Rat} {vs:List V} {l:List (Str×Rat)}:H r=some (.tup [.str x, .ref f])->H f=some (o7 q)->i6 H vs l->i6 H (.ref r::vs) ((x,q)::l)
inductive pe (n:Nat) (ρ:fU) (H:Hp):List V->List qf->Prop
 | nil:pe n ρ H [] []
 | cons {r l:Addr} {x:qf} {ss:List V} {vs:List V} {as:List qf}:H r=some (.tup [.str x.nm, .str x.ow, .int x.wo, .ref l])->H l=some (.lst ss)->ρ l=some (n,30,x.nm)->i6 H ss x.sh->pe n ρ H vs as->pe n ρ H (.ref r::vs) (x::as)
structure aV (T:TC) (n:Nat) (ρ:fU) (A:HA) (H:Hp) (st:HS):Prop where
 oa:H A.a=some (.ins T.hold A.dx (mT A))
 ca:ρ A.a=col n 0
 iN:H A.pl=some (.dK (fK 0 st.own))
 jC:ρ A.pl=col n 1
 d9:H A.ab=some (.dK (cY st.ao A.qs))
 gO:ρ A.ab=col n 2
 vo:∃vs,H A.as=some (.lst vs)/\pe n ρ H vs st.kL
 j_:ρ A.as=col n 3
 ue:H A.nm=some (.dK (wW st.nms))
 jO:ρ A.nm=col n 4
 m_:H A.bt=some (.ins T.bot A.db (xW A.sp st.prod A.kn))
 jP:ρ A.bt=col n 5
 jQ:H A.cm=some (.lst (st.bM.map V.int))
 kM:ρ A.cm=col n 6
 qg:H A.pu=some (.lst (st.cX.map V.int))
 cpu:ρ A.pu=col n 7
 sY:H A.sp=some (.lst (st.stp.map V.int))
 jR:ρ A.sp=col n 8
 okn:∃kvs,H A.kn=some (.dK kvs)/\JZ H kvs st.prod/\kvs.length<=st.kn/\(kvs.map (·.1)).Nodup
 jS:ρ A.kn=col n 9
 ql:A.qs.length=st.ao.length
 opt:∀(i:Nat) (p:Pt) (q:Addr×Addr×Addr),st.ao[i]?=some p->A.qs[i]?=some q->H q.1=some (.ins T.part q.2.1 (lS p q.2.2))/\H q.2.2=some (.lst (p.row.map V.int))/\ρ q.1=some (n,20,p.nm)/\ρ q.2.2=some (n,21,p.nm)
theorem DN {b:Addr} {c d:sX} (ha:ρ a=some c) (hb:ρ b=some d) (h:c≠d):a≠b:=fun e=>by
 rw [e,hb] at ha;cases ha;exact h rfl
theorem Br {b:Addr} {c:sX} (ha:ρ a=none) (hb:ρ b=some c):a≠b:=fun e=>by rw [e,hb] at ha;cases ha
variable {vs:List V}
theorem i6.mono {l:List (Str×Rat)} (h:i6 H vs l) (g:∀b xs,H b=some (.tup xs)->H' b=some (.tup xs)):i6 H' vs l:=by
 induction h with
 | nil=>exact .nil
 | cons a b _ ih=>exact .cons (g _ _ a) (g _ _ b) ih
def Kp (n:Nat) (ρ ρ':fU) (H H':Hp) (ts:Nat->Bool):Prop:=(∀b xs,H b=some (.tup xs)->H' b=some (.tup xs))/\∀b t x o,ts t=true->ρ b=some (n,t,x)->H b=some o->H' b=some o/\ρ' b=some (n,t,x)
variable {ts:Nat->Bool}
theorem pe.keep {l:List qf} (h:pe n ρ H vs l) (k:Kp n ρ ρ' H H' ts) (e:ts 30=true):pe n ρ' H' vs l:=by
 induction h with
 | nil=>exact .nil
 | cons a b c d _ ih=>exact .cons (k.1 _ _ a) (k.2 _ _ _ _ e c b).1 (k.2 _ _ _ _ e c b).2 (d.mono k.1) ih
theorem fB (g:Gh ρ H) (c:ρ a=some (n,t,x)):Kp n ρ ρ H (upd H a o) (fun u=>decide (u≠t)):=by
 refine ⟨fun b xs h=>?_,fun b u y w hu hc h=>⟨?_,hc⟩⟩
 . rw [av (Br (g.tup h) c)];exact h
 . rw [av (DN hc c (fun e=>by cases e;exact absurd hu (by simp)))];exact h
theorem kz (k:Kp n ρ ρ' H H' ts) {b:Addr} (c:ρ b=some (n,t,x)) (e:H b=some o) (u:ts t=true:=by decide):H' b=some o:=(k.2 b t x o u c e).1
theorem N_ (s:aF H H'):Kp n ρ ρ H H' ts:=⟨fun b xs h=>s _ _ h,fun b u y w _ hc h=>⟨s _ _ h,hc⟩⟩
variable {T:TC} {st:HS}
theorem aV.same {A:HA} (h:aV T n ρ A H st) (k:Kp n ρ ρ' H H' fun _=>true):aV T n ρ' A H' st:=by
 have z:=fun {b:Addr} {t:Nat} {x:Str} {o:HO} (c:ρ b=some (n,t,x)) (e:H b=some o)=>k.2 b t x o rfl c e
 obtain ⟨vs,h1,h2⟩:=h.vo
 obtain ⟨kvs,k1,k2,k3⟩:=h.okn
 exact ⟨(z h.ca h.oa).1,(z h.ca h.oa).2,(z h.jC h.iN).1,(z h.jC h.iN).2,(z h.gO h.d9).1,(z h.gO h.d9).2,⟨vs,(z h.j_ h1).1,h2.keep k rfl⟩,(z h.j_ h1).2,(z h.jO h.ue).1,(z h.jO h.ue).2,(z h.jP h.m_).1,(z h.jP h.m_).2,
  (z h.kM h.jQ).1,(z h.kM h.jQ).2,(z h.cpu h.qg).1,(z h.cpu h.qg).2,(z h.jR h.sY).1,(z h.jR h.sY).2,⟨kvs,(z h.jS k1).1,fun p hp=>let ⟨t,r,e,q⟩:=k2 p hp;⟨t,r,e,k.1 _ _ q⟩,k3⟩,(z h.jS k1).2,h.ql,
  fun i p q e1 e2=>let ⟨a,b,c,d⟩:=h.opt i p q e1 e2;⟨(z c a).1,(z d b).1,(z c a).2,(z d b).2⟩⟩
theorem aV.mono {A:HA} (h:aV T n ρ A H st) (s:aF H H'):aV T n ρ A H' st:=h.same (N_ s)
theorem aV.other {A:HA} (h:aV T m ρ A H st) (f:Fr n ρ H ρ' H') (g:Gh ρ H) (e:m≠n):aV T m ρ' A H' st:=
 h.same ⟨fun b xs q=>(f b _ q fun t x=>by rw [g.tup q];intro z;cases z).1,fun b t x o _ c q=>by
   obtain ⟨a,b'⟩:=f b o q fun t' x'=>by rw [c];intro z;cases z;exact e rfl
   exact ⟨a,b'.trans c⟩⟩
theorem Fc {p0 p1:Pt}:∀{ps:List Pt} {qs:List (Addr×Addr×Addr)} {i:Nat},ps[i]?=some p0->p1.nm=p0.nm->cY (ps.set i p1) qs=cY ps qs
 | [],_,_,h,_=>by simp at h
 | _::_,[],_,_,_=>by simp [cY]
 | p::ps,q::qs,0,h,e=>by
   have:p=p0:=by simpa using h
   simp [cY,e,this]
 | p::ps,q::qs,i+1,h,e=>by
   have:=Fc (qs:=qs) (by simpa using h:ps[i]?=some p0) e
   simp only [cY,Pn,rM] at this ⊢
   rw [this]
variable {j:Nat} {p:Pt}
theorem Sj {ps:List Pt} (nd:(ps.map (·.nm)).Nodup) {q:Pt} (h1:ps[i]?=some p) (h2:ps[j]?=some q) (e:p.nm=q.nm):i=j:=by
 have a:(ps.map (·.nm))[i]?=some p.nm:=by rw [bK,h1];rfl
 have b:(ps.map (·.nm))[j]?=some p.nm:=by rw [bK,h2,e];rfl
 exact xQ nd a b
variable {p0:Pt} {q0:Addr×Addr×Addr}
theorem X4 {A:HA} (h:aV T n ρ A H st) (k:Kp n ρ ρ H H' ts) (nd:(st.ao.map (·.nm)).Nodup) {p1:Pt} (ep:st.ao[i]?=some p0) (eq:A.qs[i]?=some q0) (e1:p1.nm=p0.nm)
  (hw:H' q0.1=some (.ins T.part q0.2.1 (lS p1 q0.2.2))) (hs:∀{b:Addr} {t:Nat} {x:Str} {o:HO},ρ b=some (n,t,x)->t≠20\/x≠p0.nm->H b=some o->H' b=some o) (er:(.lst (p0.row.map V.int):HO) = .lst (p1.row.map V.int)):
  ∀(j:Nat) (p:Pt) (q:Addr×Addr×Addr),(st.ao.set i p1)[j]?=some p->A.qs[j]?=some q->H' q.1=some (.ins T.part q.2.1 (lS p q.2.2))/\H' q.2.2=some (.lst (p.row.map V.int))/\ρ q.1=some (n,20,p.nm)/\ρ q.2.2=some (n,21,p.nm):=by
 intro j p q ej eq'
 by_cases hj:i=j
 . subst hj
   rw [eq] at eq';cases eq'
   rw [tU (eU.mp ep).1] at ej
   cases ej
   obtain ⟨a,b,c,d⟩:=h.opt i p0 q0 ep eq
   exact ⟨hw,by rw [<-er];exact hs d (.inl (by decide)) b,by rw [e1];exact c,by rw [e1];exact d⟩
 . rw [yN hj] at ej
   obtain ⟨a,b,c,d⟩:=h.opt j p q ej eq'
   exact ⟨hs c (.inr fun e=>hj (Sj nd ep ej e.symm)) a,hs d (.inl (by decide)) b,c,d⟩
theorem Vl {A:HA} (h:aV T n ρ A H st) (nd:(st.ao.map (·.nm)).Nodup) {l:List Int} (ep:st.ao[i]?=some p0) (eq:A.qs[i]?=some q0)
  (hw:H' q0.2.2=some (.lst (l.map V.int))) (hs:∀{b:Addr} {t:Nat} {x:Str} {o:HO},ρ b=some (n,t,x)->t≠21\/x≠p0.nm->H b=some o->H' b=some o):
  ∀(j:Nat) (p:Pt) (q:Addr×Addr×Addr),(st.ao.set i { p0 with row:=l })[j]?=some p->A.qs[j]?=some q->H' q.1=some (.ins T.part q.2.1 (lS p q.2.2))/\H' q.2.2=some (.lst (p.row.map V.int))/\ρ q.1=some (n,20,p.nm)/\ρ q.2.2=some (n,21,p.nm):=by
 intro j p q ej eq'
 by_cases hj:i=j
 . subst hj
   rw [eq] at eq';cases eq'
   rw [tU (eU.mp ep).1] at ej
   cases ej
   obtain ⟨a,b,c,d⟩:=h.opt i p0 q0 ep eq
   exact ⟨hs c (.inl (by decide)) a,hw,c,d⟩
 . rw [yN hj] at ej
   obtain ⟨a,b,c,d⟩:=h.opt j p q ej eq'
   exact ⟨hs c (.inl (by decide)) a,hs d (.inr fun e=>hj (Sj nd ep ej e.symm)) b,c,d⟩
theorem GQ (c:ρ a=some (n,t,x)):∀{b:Addr} {u:Nat} {y:Str} {w:HO},ρ b=some (n,u,y)->u≠t\/y≠x->H b=some w->upd H a o b=some w:=fun {b u y w} hc hu h=>by
 rw [av (DN hc c (fun e=>by cases e;rcases hu with z|z <;> exact z rfl))];exact h
theorem aV.aak {A:HA} (h:aV T n ρ A H st) (g:Gh ρ H) (l:List Str):aV T n ρ A (upd H A.pl (.dK (fK 0 l))) { st with own:=l }:=by
 have k:=fB (o:= .dK (fK 0 l)) g h.jC
 obtain ⟨vs,h1,h2⟩:=h.vo
 obtain ⟨kvs,k1,k2,k3⟩:=h.okn
 exact ⟨kz k h.ca h.oa,h.ca,ah,h.jC,kz k h.gO h.d9,h.gO,⟨vs,kz k h.j_ h1,h2.keep k (by decide)⟩,h.j_,kz k h.jO h.ue,h.jO,kz k h.jP h.m_,h.jP,kz k h.kM h.jQ,h.kM,kz k h.cpu h.qg,h.cpu,kz k h.jR h.sY,h.jR,⟨kvs,kz k h.jS k1,fun p hp=>let ⟨t,r,e,q⟩:=k2 p hp;⟨t,r,e,k.1 _ _ q⟩,k3⟩,h.jS,h.ql,fun i p q e1 e2=>let ⟨a,b,c,d⟩:=h.opt i p q e1 e2;⟨kz k c a,kz k d b,c,d⟩⟩
theorem aV.Sk {A:HA} (h:aV T n ρ A H st) (g:Gh ρ H) (ps:List Pt) (qs:List (Addr×Addr×Addr)) (el:qs.length=ps.length) (hp:∀(i:Nat) (p:Pt) (q:Addr×Addr×Addr),ps[i]?=some p->qs[i]?=some q->H q.1=some (.ins T.part q.2.1 (lS p q.2.2))/\H q.2.2=some (.lst (p.row.map V.int))/\ρ q.1=some (n,20,p.nm)/\ρ q.2.2=some (n,21,p.nm)):aV T n ρ { A with qs:=qs } (upd H A.ab (.dK (cY ps qs))) { st with ao:=ps }:=by
 have k:=fB (o:= .dK (cY ps qs)) g h.gO
 obtain ⟨vs,h1,h2⟩:=h.vo
 obtain ⟨kvs,k1,k2,k3⟩:=h.okn
 exact ⟨kz k h.ca h.oa,h.ca,kz k h.jC h.iN,h.jC,ah,h.gO,⟨vs,kz k h.j_ h1,h2.keep k (by decide)⟩,h.j_,kz k h.jO h.ue,h.jO,kz k h.jP h.m_,h.jP,kz k h.kM h.jQ,h.kM,kz k h.cpu h.qg,h.cpu,kz k h.jR h.sY,h.jR,⟨kvs,kz k h.jS k1,fun p hp=>let ⟨t,r,e,q⟩:=k2 p hp;⟨t,r,e,k.1 _ _ q⟩,k3⟩,h.jS,el,fun i p q e1 e2=>let ⟨a,b,c,d⟩:=hp i p q e1 e2;⟨kz k c a,kz k d b,c,d⟩⟩
theorem aV.aal {A:HA} (h:aV T n ρ A H st) (g:Gh ρ H) (l:List Str):aV T n ρ A (upd H A.nm (.dK (wW l))) { st with nms:=l }:=by
 have k:=fB (o:= .dK (wW l)) g h.jO
 obtain ⟨vs,h1,h2⟩:=h.vo
 obtain ⟨kvs,k1,k2,k3⟩:=h.okn
 exact ⟨kz k h.ca h.oa,h.ca,kz k h.jC h.iN,h.jC,kz k h.gO h.d9,h.gO,⟨vs,kz k h.j_ h1,h2.keep k (by decide)⟩,h.j_,ah,h.jO,kz k h.jP h.m_,h.jP,kz k h.kM h.jQ,h.kM,kz k h.cpu h.qg,h.cpu,kz k h.jR h.sY,h.jR,⟨kvs,kz k h.jS k1,fun p hp=>let ⟨t,r,e,q⟩:=k2 p hp;⟨t,r,e,k.1 _ _ q⟩,k3⟩,h.jS,h.ql,fun i p q e1 e2=>let ⟨a,b,c,d⟩:=h.opt i p q e1 e2;⟨kz k c a,kz k d b,c,d⟩⟩
theorem aV.aam {A:HA} (h:aV T n ρ A H st) (g:Gh ρ H) (l:List Int):aV T n ρ A (upd H A.cm (.lst (l.map V.int))) { st with bM:=l }:=by
 have k:=fB (o:= .lst (l.map V.int)) g h.kM
 obtain ⟨vs,h1,h2⟩:=h.vo
 obtain ⟨kvs,k1,k2,k3⟩:=h.okn
 exact ⟨kz k h.ca h.oa,h.ca,kz k h.jC h.iN,h.jC,kz k h.gO h.d9,h.gO,⟨vs,kz k h.j_ h1,h2.keep k (by decide)⟩,h.j_,kz k h.jO h.ue,h.jO,kz k h.jP h.m_,h.jP,ah,h.kM,kz k h.cpu h.qg,h.cpu,kz k h.jR h.sY,h.jR,⟨kvs,kz k h.jS k1,fun p hp=>let ⟨t,r,e,q⟩:=k2 p hp;⟨t,r,e,k.1 _ _ q⟩,k3⟩,h.jS,h.ql,fun i p q e1 e2=>let ⟨a,b,c,d⟩:=h.opt i p q e1 e2;⟨kz k c a,kz k d b,c,d⟩⟩
theorem aV.aan {A:HA} (h:aV T n ρ A H st) (g:Gh ρ H) (l:List Int):aV T n ρ A (upd H A.pu (.lst (l.map V.int))) { st with cX:=l }:=by
 have k:=fB (o:= .lst (l.map V.int)) g h.cpu
 obtain ⟨vs,h1,h2⟩:=h.vo
 obtain ⟨kvs,k1,k2,k3⟩:=h.okn
 exact ⟨kz k h.ca h.oa,h.ca,kz k h.jC h.iN,h.jC,kz k h.gO h.d9,h.gO,⟨vs,kz k h.j_ h1,h2.keep k (by decide)⟩,h.j_,kz k h.jO h.ue,h.jO,kz k h.jP h.m_,h.jP,kz k h.kM h.jQ,h.kM,ah,h.cpu,kz k h.jR h.sY,h.jR,⟨kvs,kz k h.jS k1,fun p hp=>let ⟨t,r,e,q⟩:=k2 p hp;⟨t,r,e,k.1 _ _ q⟩,k3⟩,h.jS,h.ql,fun i p q e1 e2=>let ⟨a,b,c,d⟩:=h.opt i p q e1 e2;⟨kz k c a,kz k d b,c,d⟩⟩
theorem aV.aao {A:HA} (h:aV T n ρ A H st) (g:Gh ρ H) (l:List Int):aV T n ρ A (upd H A.sp (.lst (l.map V.int))) { st with stp:=l }:=by
 have k:=fB (o:= .lst (l.map V.int)) g h.jR
 obtain ⟨vs,h1,h2⟩:=h.vo
 obtain ⟨kvs,k1,k2,k3⟩:=h.okn
 exact ⟨kz k h.ca h.oa,h.ca,kz k h.jC h.iN,h.jC,kz k h.gO h.d9,h.gO,⟨vs,kz k h.j_ h1,h2.keep k (by decide)⟩,h.j_,kz k h.jO h.ue,h.jO,kz k h.jP h.m_,h.jP,kz k h.kM h.jQ,h.kM,kz k h.cpu h.qg,h.cpu,ah,h.jR,⟨kvs,kz k h.jS k1,fun p hp=>let ⟨t,r,e,q⟩:=k2 p hp;⟨t,r,e,k.1 _ _ q⟩,k3⟩,h.jS,h.ql,fun i p q e1 e2=>let ⟨a,b,c,d⟩:=h.opt i p q e1 e2;⟨kz k c a,kz k d b,c,d⟩⟩
theorem aV.aap {A:HA} (h:aV T n ρ A H st) (g:Gh ρ H) (q:Addr) (l:List Int) (e:H q=some (.lst (l.map V.int))) (c:ρ q=col n 6):aV T n ρ { A with cm:=q } (upd H A.a (.ins T.hold A.dx (mT { A with cm:=q }))) { st with bM:=l }:=by
 have k:=fB (o:= .ins T.hold A.dx (mT { A with cm:=q })) g h.ca
 obtain ⟨vs,h1,h2⟩:=h.vo
 obtain ⟨kvs,k1,k2,k3⟩:=h.okn
 exact ⟨ah,h.ca,kz k h.jC h.iN,h.jC,kz k h.gO h.d9,h.gO,⟨vs,kz k h.j_ h1,h2.keep k (by decide)⟩,h.j_,kz k h.jO h.ue,h.jO,kz k h.jP h.m_,h.jP,kz k c e,c,kz k h.cpu h.qg,h.cpu,kz k h.jR h.sY,h.jR,⟨kvs,kz k h.jS k1,fun p hp=>let ⟨t,r,e,q⟩:=k2 p hp;⟨t,r,e,k.1 _ _ q⟩,k3⟩,h.jS,h.ql,fun i p q e1 e2=>let ⟨a,b,c,d⟩:=h.opt i p q e1 e2;⟨kz k c a,kz k d b,c,d⟩⟩
theorem aV.aaq {A:HA} (h:aV T n ρ A H st) (g:Gh ρ H) (q:Addr) (l:List Int) (e:H q=some (.lst (l.map V.int))) (c:ρ q=col n 7):aV T n ρ { A with pu:=q } (upd H A.a (.ins T.hold A.dx (mT { A with pu:=q }))) { st with cX:=l }:=by
 have k:=fB (o:= .ins T.hold A.dx (mT { A with pu:=q })) g h.ca
 obtain ⟨vs,h1,h2⟩:=h.vo
 obtain ⟨kvs,k1,k2,k3⟩:=h.okn
 exact ⟨ah,h.ca,kz k h.jC h.iN,h.jC,kz k h.gO h.d9,h.gO,⟨vs,kz k h.j_ h1,h2.keep k (by decide)⟩,h.j_,kz k h.jO h.ue,h.jO,kz k h.jP h.m_,h.jP,kz k h.kM h.jQ,h.kM,kz k c e,c,kz k h.jR h.sY,h.jR,⟨kvs,kz k h.jS k1,fun p hp=>let ⟨t,r,e,q⟩:=k2 p hp;⟨t,r,e,k.1 _ _ q⟩,k3⟩,h.jS,h.ql,fun i p q e1 e2=>let ⟨a,b,c,d⟩:=h.opt i p q e1 e2;⟨kz k c a,kz k d b,c,d⟩⟩
theorem aV.aar {A:HA} (h:aV T n ρ A H st) (g:Gh ρ H) (m:Int) (q:Addr) (e:H q=some (.dK [])) (c:ρ q=col n 9):aV T n ρ { A with kn:=q } (upd H A.bt (.ins T.bot A.db (xW A.sp m q))) { st with prod:=m,kn:=0 }:=by
 have k:=fB (o:= .ins T.bot A.db (xW A.sp m q)) g h.jP
 obtain ⟨vs,h1,h2⟩:=h.vo
 obtain ⟨kvs,k1,k2,k3⟩:=h.okn
 exact ⟨kz k h.ca h.oa,h.ca,kz k h.jC h.iN,h.jC,kz k h.gO h.d9,h.gO,⟨vs,kz k h.j_ h1,h2.keep k (by decide)⟩,h.j_,kz k h.jO h.ue,h.jO,ah,h.jP,kz k h.kM h.jQ,h.kM,kz k h.cpu h.qg,h.cpu,kz k h.jR h.sY,h.jR,⟨[],kz k c e,(fun p hp=>absurd hp (by simp)),aO _,vd⟩,c,h.ql,fun i p q e1 e2=>let ⟨a,b,c,d⟩:=h.opt i p q e1 e2;⟨kz k c a,kz k d b,c,d⟩⟩
theorem aV.y_ {A:HA} (h:aV T n ρ A H st) (g:Gh ρ H) {p1:Pt} (ep:st.ao[i]?=some p0) (eq:A.qs[i]?=some q0) (e1:p1.nm=p0.nm) (e2:p1.row=p0.row) (nd:(st.ao.map (·.nm)).Nodup):aV T n ρ A (upd H q0.1 (.ins T.part q0.2.1 (lS p1 q0.2.2))) { st with ao:=st.ao.set i p1 }:=by
 have k:=fB (o:= .ins T.part q0.2.1 (lS p1 q0.2.2)) g (h.opt i p0 q0 ep eq).2.2.1
 obtain ⟨vs,h1,h2⟩:=h.vo
 obtain ⟨kvs,k1,k2,k3⟩:=h.okn
 exact ⟨kz k h.ca h.oa,h.ca,kz k h.jC h.iN,h.jC,by rw [Fc ep e1];exact kz k h.gO h.d9,h.gO,⟨vs,kz k h.j_ h1,h2.keep k (by decide)⟩,h.j_,kz k h.jO h.ue,h.jO,kz k h.jP h.m_,h.jP,kz k h.kM h.jQ,h.kM,kz k h.cpu h.qg,h.cpu,kz k h.jR h.sY,h.jR,⟨kvs,kz k h.jS k1,fun p hp=>let ⟨t,r,e,q⟩:=k2 p hp;⟨t,r,e,k.1 _ _ q⟩,k3⟩,h.jS,by rw [lB];exact h.ql,X4 h k nd ep eq e1 ah (GQ (h.opt i p0 q0 ep eq).2.2.1) (by rw [e2])⟩
theorem aV.X5 {A:HA} (h:aV T n ρ A H st) (g:Gh ρ H) (l:List Int) (ep:st.ao[i]?=some p0) (eq:A.qs[i]?=some q0) (nd:(st.ao.map (·.nm)).Nodup):aV T n ρ A (upd H q0.2.2 (.lst (l.map V.int))) { st with ao:=st.ao.set i { p0 with row:=l } }:=by
 have k:=fB (o:= .lst (l.map V.int)) g (h.opt i p0 q0 ep eq).2.2.2
 obtain ⟨vs,h1,h2⟩:=h.vo
 obtain ⟨kvs,k1,k2,k3⟩:=h.okn
 exact ⟨kz k h.ca h.oa,h.ca,kz k h.jC h.iN,h.jC,by show _=some (HO.dK (cY (st.ao.set i { p0 with row:=l }) A.qs));rw [Fc (p1:={ p0 with row:=l }) ep rfl];exact kz k h.gO h.d9,h.gO,⟨vs,kz k h.j_ h1,h2.keep k (by decide)⟩,h.j_,kz k h.jO h.ue,h.jO,kz k h.jP h.m_,h.jP,kz k h.kM h.jQ,h.kM,kz k h.cpu h.qg,h.cpu,kz k h.jR h.sY,h.jR,⟨kvs,kz k h.jS k1,fun p hp=>let ⟨t,r,e,q⟩:=k2 p hp;⟨t,r,e,k.1 _ _ q⟩,k3⟩,h.jS,by rw [lB];exact h.ql,Vl h nd ep eq ah (GQ (h.opt i p0 q0 ep eq).2.2.2)⟩
structure Txt (K:Fg) (T:TC):Prop where
 cH:oj K T.hold
 cP:oj K T.part
 cB:oj K T.bot
 hpl:eV K T.hold "places"
 hab:eV K T.hold "aboard"
 has:eV K T.hold "ashore"
 hnm:eV K T.hold "names"
 Bs:eV K T.hold "bottom"
 Bt:eV K T.hold "common"
 J0:eV K T.hold "purses"
 Wy:eV K T.part "name"
 pow:eV K T.part "owner"
 Oa:eV K T.part "worth"
 pwe:eV K T.part "weight"
 Sl:eV K T.part "scale"
 Wz:eV K T.part "row"
 bst:eV K T.bot "steps"
 Sm:eV K T.bot "product"
 Sn:eV K T.bot "known"
structure Wf (st:HS):Prop where
 ze:st.own.Nodup
 Fd:st.nms.Nodup
 pA:(st.ao.map (·.nm)).Nodup
 sub:∀p∈st.ao,p.nm∈st.nms
 rows:∀p∈st.ao,p.row.length=st.own.length
 ow:∀p∈st.ao,p.ow∈st.own
 i7:st.bM.length=st.own.length
 zf:st.cX.length=st.own.length
 iz:1<=st.prod
 xX:st.prod=st.stp.foldl (·*·) 1
 Ce:∀s∈st.stp,2<=s
 rT:st.own.length<=100
 Fe:st.nms.length<=1000
 vV:st.ao.length<=1000
 J1:st.stp.length<=100
 Cf:st.kL.length<=1000
 WA:st.kn<=1000000
 big:Jm.Sz 8000 st.prod
 uf:∀c∈st.bM,0<=c/\c<=st.prod
 yC:∀p∈st.ao,1<=p.sc/\p.sc<=st.prod
 vW:∀p∈st.ao,∀r∈p.row,-st.prod<=r/\r<=st.prod
 Ff:∀p∈st.ao,∀t∈List.zipWith (fun r c=>p.sc*r+c) p.row st.bM,0<=t/\t<=st.prod
 Bu:∀p∈st.ao,1<=p.wo/\0<=p.we
 Qp:∀u∈st.cX,Jm.Sz 9000 u
structure HH (T:TC) (n:Nat) (ρ:fU) (A:HA) (H:Hp) (st:HS):Prop where
 g:Gh ρ H
 h:aV T n ρ A H st
 wf:Wf st
def AH (T:TC) (n:Nat) (ρ:fU) (A:HA) (H:Hp) (st:HS) (Q:Hp->Prop):Prop:=∀ρ' A' H',HH T n ρ' A' H' st->A'.a=A.a->Fr n ρ H ρ' H'->Q H'
def hs0:HS:=⟨[],[],[],[],[],1,0,[],[]⟩
theorem wf0:Wf hs0:=by
 refine ⟨vd,vd,vd,?_,?_,?_,Z,Z,?_,Z,?_,?_,?_,?_,?_,?_,?_,?_,?_,?_,?_,?_,?_,?_⟩ <;> first|(intro _ h;exact absurd h (by simp [hs0]))|decide|(show Jm.Sz 8000 1;exact o8 (by decide +kernel))
theorem Ob:∀{l:List Str} {i:Nat} {o:Str},o∈l->dZ (fK i l) (Sum.inr o)=some (.int ((i+l.idxOf o:Nat):Int))
 | [],_,_,h=>by simp at h
 | x::l,i,o,h=>by
   by_cases e:x=o
   . subst e
     rw [show fK i (x::l)=(Sum.inr x, .int i)::fK (i+1) l from rfl,gH rfl]
     simp
   . rw [show fK i (x::l)=(Sum.inr x, .int i)::fK (i+1) l from rfl,eX (by intro z;exact e (tH z))]
     have hm:o∈l:=by
      rcases c_.mp h with z|z
      . exact absurd z.symm e
      . exact z
     rw [Ob hm]
     have eb:(x==o)=false:=by simpa using e
     have:(x::l).idxOf o=l.idxOf o+1:=by rw [List.idxOf_cons,eb];rfl
     rw [this]
     show some (V.int ((i+1+l.idxOf o:Nat):Int))=some (V.int ((i+(l.idxOf o+1):Nat):Int))
     rw [show i+1+l.idxOf o=i+(l.idxOf o+1) from by omega]
theorem pB:∀{l:List Str} {i:Nat} {o:Str},o∉l->dZ (fK i l) (Sum.inr o)=none
 | [],_,_,_=>rfl
 | x::l,i,o,h=>by
   rw [show fK i (x::l)=(Sum.inr x, .int i)::fK (i+1) l from rfl,eX (fun z=>h (by rw [<-tH z];exact cO))]
   exact pB fun m=>h (cI _ m)
theorem pC:∀(l:List Str) (i:Nat),(fK i l).length=l.length
 | [],_=>rfl
 | _::l,i=>by rw [show ∀x,fK i (x::l)=(Sum.inr x, .int i)::fK (i+1) l from fun _=>rfl,kX,kX,pC l]
theorem J3:∀(l:List Str) (i:Nat) (o:Str),fK i (l++[o])=fK i l++[(Sum.inr o, .int ((i+l.length:Nat):Int))]
 | [],i,o=>rfl
 | x::l,i,o=>by
   show (Sum.inr x,V.int i)::fK (i+1) (l++[o])=_
   rw [J3 l (i+1) o]
   show _=(Sum.inr x,V.int i)::(fK (i+1) l++_)
   rw [kX,show i+1+l.length=i+(l.length+1) from by omega]
theorem Cg:∀(l:List Str) (i:Nat),(fK i l).map (fun p=>kV p.1)=l.map V.str
 | [],_=>rfl
 | x::l,i=>by
   show kV (Sum.inr x)::(fK (i+1) l).map _=V.str x::l.map V.str
   rw [Cg l]
   rfl
variable {qs:List (Addr×Addr×Addr)}
theorem wX {ps:List Pt} {q:Addr×Addr×Addr} (h1:ps[i]?=some p) (h2:qs[i]?=some q):(cY ps qs)[i]?=some (Sum.inr p.nm, .ref q.1):=by
 unfold cY
 rw [Pc,h1,h2]
theorem wY {ps:List Pt} (h:qs.length=ps.length):(cY ps qs).length=ps.length:=by
 unfold cY
 rw [qh,h,Nat.min_self]
theorem wZ:∀{ps:List Pt} {qs:List (Addr×Addr×Addr)} {i:Nat} {p:Pt} {q:Addr×Addr×Addr},(ps.map (·.nm)).Nodup->ps[i]?=some p->qs[i]?=some q->dZ (cY ps qs) (Sum.inr p.nm)=some (.ref q.1)
 | [],_,_,_,_,_,h,_=>by simp at h
 | _::_,[],_,_,_,_,_,h=>by simp at h
 | a::ps,b::qs,0,p,q,_,h1,h2=>by
   have e1:a=p:=by simpa using h1
   have e2:b=q:=by simpa using h2
   subst e1 e2
   exact gH rfl
 | a::ps,b::qs,i+1,p,q,nd,h1,h2=>by
   have nd':=iQ.mp (show (a.nm::ps.map (·.nm)).Nodup from nd)
   have J4:ps[i]?=some p:=by simpa using h1
   rw [show cY (a::ps) (b::qs)=(Sum.inr a.nm, .ref b.1)::cY ps qs from rfl,eX (fun z=>nd'.1 (cD.mpr ⟨p,bV J4,(tH z).symm⟩))]
   exact wZ nd'.2 J4 (by simpa using h2)
theorem zg:∀{ps:List Pt} {qs:List (Addr×Addr×Addr)} {x:Str},(∀p∈ps,p.nm≠x)->dZ (cY ps qs) (Sum.inr x)=none
 | [],_,_,_=>rfl
 | _::_,[],_,_=>rfl
 | a::ps,b::qs,x,h=>by
   rw [show cY (a::ps) (b::qs)=(Sum.inr a.nm, .ref b.1)::cY ps qs from rfl,eX (fun z=>h a cO (tH z))]
   exact zg fun p hp=>h p (cI _ hp)
theorem Vm {ps:List Pt} (h:qs.length=ps.length) (p:Pt) (q:Addr×Addr×Addr):cY (ps++[p]) (qs++[q])=cY ps qs++[(Sum.inr p.nm, .ref q.1)] :=by
 unfold cY
 rw [List.zipWith_append h.symm]
 rfl
theorem zh {l:List Str} (h:x∉l):dZ (wW l) (Sum.inr x)=none:=by
 unfold wW
 induction l with
 | nil=>rfl
 | cons a l ih=>
   rw [bJ,eX (fun z=>h (by rw [<-tH z];exact cO))]
   exact ih fun m=>h (cI _ m)
theorem aV.find {A:HA} (h:aV T n ρ A H st) (e:st.ao[i]?=some p):∃q,A.qs[i]?=some q/\H q.1=some (.ins T.part q.2.1 (lS p q.2.2))/\H q.2.2=some (.lst (p.row.map V.int))/\ρ q.1=some (n,20,p.nm)/\ρ q.2.2=some (n,21,p.nm):=by
 have hi:i<A.qs.length:=by rw [h.ql];exact (eU.mp e).1
 exact ⟨A.qs[i],aX hi,h.opt i p _ e (aX hi)⟩
def gy (st:HS) (o:Str):HS:={ st with own:=st.own++[o],bM:=st.bM++[0],cX:=st.cX++[0],ao:=st.ao.map fun p=>{ p with row:=p.row++[0] } }
def cC (st:HS) (p:Pt):List Int:=List.zipWith (fun r c=>p.sc*r+c) p.row st.bM
def zj (st:HS) (tops:List Int):List Int:=List.zipWith (fun t c=>t-c) tops st.bM
def AI (st:HS) (p:Pt):HS:={ st with ao:=st.ao++[p],nms:=st.nms++[p.nm] }
def xY (st:HS) (x o:Str) (wo we:Int):HS:=AI st ⟨x,o,wo,we,1,zj st ((List.replicate st.own.length 0).set (st.own.idxOf o) st.prod)⟩
def aS (st:HS):Int:=(st.ao.map (·.wo)).sum
def zm (st:HS) (p:Pt):List (Str×Rat):=(List.zip st.own (cC st p)).filterMap fun x=>if 0<x.2 then some (x.1,Jm.fr x.2 st.prod) else none
def AJ (p:Pt):HO:= .tup [.str p.nm, .str p.ow, .int p.wo, .int p.we]
inductive jG (H:Hp):List V->List Pt->Prop
 | nil:jG H [] []
 | cons {r:Addr} {p:Pt} {vs:List V} {ps:List Pt}:H r=some (AJ p)->jG H vs ps->jG H (.ref r::vs) (p::ps)
def J5 (n:Nat) (q1 q2:Addr) (ρ:fU) (H:Hp) (ρ':fU) (H':Hp):Prop:=∀b o,H b=some o->(∀t x,ρ b≠some (n,t,x))->b≠q1->b≠q2->H' b=some o/\ρ' b=ρ b
theorem J5.trans {ρ1 ρ2:fU} (a:J5 n q1 q2 ρ H ρ1 H1) (b:Fr n ρ1 H1 ρ2 H2):J5 n q1 q2 ρ H ρ2 H2:=fun c o h k x y=>by
 obtain ⟨h1,e1⟩:=a c o h k x y
 obtain ⟨h2,e2⟩:=b c o h1 (by rw [e1];exact k)
 exact ⟨h2,e2.trans e1⟩
theorem J5.fr {ρ1 ρ2:fU} (b:J5 n q1 q2 ρ1 H1 ρ2 H2) (a:Fr n ρ H ρ1 H1) (h1:H q1=none) (h2:H q2=none):Fr n ρ H ρ2 H2:=fun c o h k=>by
 obtain ⟨e1,e2⟩:=a c o h k
 obtain ⟨e3,e4⟩:=b c o e1 (by rw [e2];exact k) (aH h h1) (aH h h2)
 exact ⟨e3,e4.trans e2⟩
def isNm (o:Str):Bool:=isName o.cps.toList
inductive aat (T:TC) (vs:List V) (H:Hp) (Q:VK) (E:XK):Prop
 | mk (p dx:_) (_:vs=[.ref p]) (_:H p=some (.ins T.bot dx [])) (_:∀sp kn H',H sp=none->H kn=none->sp≠kn->(∀b o,H b=some o->b≠p->H' b=some o)->H' p=some (.ins T.bot dx (xW sp 1 kn))->H' sp=some (.lst [])->H' kn=some (.dK [])->Q .bU H')
def Oc (T:TC):Sp:=bx (aat T)
inductive aau (T:TC) (K:Fg) (vs:List V) (H:Hp) (Q:VK) (E:XK):Prop
 | mk (p dx l:Addr) (pt:Pt) (_:vs=[.ref p, .str pt.nm, .str pt.ow, .int pt.wo, .int pt.we, .int pt.sc, .ref l]) (_:H p=some (.ins T.part dx [])) (_:aB K H l (pt.row.map V.int)) (_:∀r H',H r=none->(∀b o,H b=some o->b≠p->H' b=some o)->H' p=some (.ins T.part dx (lS pt r))->H' r=some (.lst (pt.row.map V.int))->Q .bU H')
def Od (T:TC) (K:Fg):Sp:=bx (aau T K)
inductive aav (T:TC) (vs:List V) (H:Hp) (Q:VK) (E:XK):Prop
 | mk (p dx ρ n:_) (_:vs=[.ref p]) (_:H p=some (.ins T.hold dx [])) (_:Gh ρ H) (_:ρ p=none) (_:∀ρ' A H',A.a=p->HH T n ρ' A H' hs0->(∀b o,H b=some o->b≠p->H' b=some o/\ρ' b=ρ b)->Q .bU H')
def Oe (T:TC):Sp:=bx (aav T)
inductive aaw (T:TC) (vs:List V) (H:Hp) (Q:VK) (E:XK):Prop
 | mk (n ρ A st o:_) (_:vs=[.ref A.a, .str o]) (_:aV T n ρ A H st) (_:o∈st.own) (_:Q (.int (st.own.idxOf o:Int)) H)
def Of (T:TC):Sp:=bx (aaw T)
inductive X6 (T:TC) (vs:List V) (H:Hp) (Q:VK) (E:XK):Prop
 | mk (n ρ A st:_) (i:Nat) (p:Pt) (q:Addr×Addr×Addr) (_:vs=[.ref A.a, .str p.nm]) (_:aV T n ρ A H st) (_:(st.ao.map (·.nm)).Nodup) (_:st.ao[i]?=some p) (_:A.qs[i]?=some q) (_:Q (.ref q.1) H)
def Ci (T:TC):Sp:=bx (X6 T)
inductive So (T:TC) (vs:List V) (H:Hp) (Q:VK) (E:XK):Prop
 | mk (n ρ A st x:_) (_:vs=[.ref A.a, .str x]) (_:aV T n ρ A H st) (_:isNm x=true) (_:x∉st.nms) (_:∀H',aF H H'->Q .bU H')
def DO (T:TC):Sp:=bx (So T)
inductive agp (T:TC) (K:Fg) (vs:List V) (H:Hp) (Q:VK) (E:XK):Prop
 | mk (n ρ A st l:_) (tops:List Int) (_:vs=[.ref A.a, .ref l]) (_:aV T n ρ A H st) (_:aB K H l (tops.map V.int)) (_:tops.length=st.bM.length) (_:tops.length<=1000) (_:∀r H',aF H H'->H r=none->H' r=some (.lst ((zj st tops).map V.int))->Q (.ref r) H')
def WB (T:TC) (K:Fg):Sp:=bx (agp T K)
inductive aax (T:TC) (vs:List V) (H:Hp) (Q:VK) (E:XK):Prop
 | mk (n ρ A st:_) (i:Nat) (p:Pt) (q:Addr×Addr×Addr) (_:vs=[.ref A.a, .ref q.1]) (_:aV T n ρ A H st) (_:Wf st) (_:st.ao[i]?=some p) (_:A.qs[i]?=some q) (_:∀r H',aF H H'->H r=none->H' r=some (.lst ((cC st p).map V.int))->Q (.ref r) H')
def Og (T:TC):Sp:=bx (aax T)
inductive ac0 (T:TC) (vs:List V) (H:Hp) (Q:VK) (E:XK):Prop
 | mk (n ρ A st:_) (q:Addr×Addr×Addr) (p:Pt) (_:vs=[.ref A.a, .ref q.1]) (_:HH T n ρ A H st) (_:H q.1=some (.ins T.part q.2.1 (lS p q.2.2))) (_:H q.2.2=some (.lst (p.row.map V.int))) (_:ρ q.1=none) (_:ρ q.2.2=none) (_:p.nm∉st.nms) (_:Wf (AI st p)) (_:∀ρ' A' H',HH T n ρ' A' H' (AI st p:_)->A'.a=A.a->J5 n q.1 q.2.2 ρ H ρ' H'->Q .bU H')
def Ss (T:TC):Sp:=bx (ac0 T)
inductive aay (T:TC) (vs:List V) (H:Hp) (Q:VK) (E:XK):Prop
 | mk (n ρ A st o:_) (_:vs=[.ref A.a, .str o]) (_:HH T n ρ A H st) (_:isNm o=true) (_:o∉st.own) (_:st.own.length<100) (_:AH T n ρ A H (gy st o:_) fun H'=>Q .bU H')
def Oh (T:TC):Sp:=bx (aay T)
inductive ac1 (T:TC) (vs:List V) (H:Hp) (Q:VK) (E:XK):Prop
 | mk (n ρ A st x o wo we:_) (_:vs=[.ref A.a, .str x, .str o, .int wo, .int we]) (_:HH T n ρ A H st) (_:isNm x=true) (_:x∉st.nms) (_:o∈st.own) (_:1<=wo) (_:0<=we) (_:st.nms.length<1000) (_:st.ao.length<1000) (_:AH T n ρ A H (xY st x o wo we:_) fun H'=>Q .bU H')
def Su (T:TC):Sp:=bx (ac1 T)
inductive aaz (T:TC) (vs:List V) (H:Hp) (Q:VK) (E:XK):Prop
 | mk (n ρ A st:_) (_:vs=[.ref A.a]) (_:aV T n ρ A H st) (_:st.ao.length<=1000) (_:∀r ws H',aF H H'->H r=none->H' r=some (.lst ws)->jG H' ws st.ao->Q (.ref r) H')
def Oi (T:TC):Sp:=bx (aaz T)
inductive aaA (T:TC) (vs:List V) (H:Hp) (Q:VK) (E:XK):Prop
 | mk (n ρ A st:_) (_:vs=[.ref A.a]) (_:aV T n ρ A H st) (_:st.ao.length<=1000) (_:∀H',aF H H'->Q (.int (aS st)) H')
def AK (T:TC):Sp:=bx (aaA T)
inductive X7 (T:TC) (vs:List V) (H:Hp) (Q:VK) (E:XK):Prop
 | mk (n ρ A st:_) (_:vs=[.ref A.a]) (_:aV T n ρ A H st) (_:∀r,H r=none->Q (.ref r) (upd H r (.lst (st.own.map V.str))))
def J6 (T:TC):Sp:=bx (X7 T)
inductive aaB (T:TC) (vs:List V) (H:Hp) (Q:VK) (E:XK):Prop
 | mk (bt db sp kn:Addr) (stp:List Int) (prod top:Int) (_:vs=[.ref bt, .int top]) (_:H bt=some (.ins T.bot db (xW sp prod kn))) (_:H sp=some (.lst (stp.map V.int))) (_:prod=stp.foldl (·*·) 1) (_:(∀s∈stp,2<=s)) (_:Jm.Sz 8000 prod) (_:∀r H',aF H H'->H' r=some (o7 (Jm.fr top prod))->Q (.ref r) H')
def Oj (T:TC):Sp:=bx (aaB T)
inductive X8 (T:TC) (vs:List V) (H:Hp) (Q:VK) (E:XK):Prop
 | mk (bt db sp kn:Addr) (stp:List Int) (prod top:Int) (kvs:List (Key×V)) (_:vs=[.ref bt, .int top]) (_:H bt=some (.ins T.bot db (xW sp prod kn))) (_:H sp=some (.lst (stp.map V.int))) (_:prod=stp.foldl (·*·) 1) (_:(∀s∈stp,2<=s)) (_:Jm.Sz 8000 prod) (_:H kn=some (.dK kvs)) (_:JZ H kvs prod) (_:kvs.length<10000000) (_:(kvs.map (·.1)).Nodup) (_:∀r H' kvs',(∀b o,H b=some o->b≠kn->H' b=some o)->H' kn=some (.dK kvs')->JZ H' kvs' prod->kvs'.length<=kvs.length+1->(kvs'.map (·.1)).Nodup->H' r=some (o7 (Jm.fr top prod))->Q (.ref r) H')
def J7 (T:TC):Sp:=bx (X8 T)
inductive Vn (T:TC) (vs:List V) (H:Hp) (Q:VK) (E:XK):Prop
 | mk (n ρ A st:_) (i:Nat) (p:Pt) (_:vs=[.ref A.a, .str p.nm]) (_:HH T n ρ A H st) (_:st.ao[i]?=some p) (_:st.kn+100<=1000000) (_:∀r ws ρ' A' H',HH T n ρ' A' H' { st with kn:=st.kn+100 }->A'.a=A.a->Fr n ρ H ρ' H'->H r=none->H' r=some (.lst ws)->ρ' r=none->i6 H' ws (zm st p:_)->Q (.ref r) H')
def GR (T:TC):Sp:=bx (Vn T)
inductive zu (ρ:fU) (H:Hp):List V->List qf->Prop
 | nil:zu ρ H [] []
 | cons {r l:Addr} {x:qf} {ss:List V} {vs:List V} {as:List qf}:H r=some (.tup [.str x.nm, .str x.ow, .int x.wo, .ref l])->H l=some (.lst ss)->ρ l=none->i6 H ss x.sh->zu ρ H vs as->zu ρ H (.ref r::vs) (x::as)
inductive X_ (T:TC) (vs:List V) (H:Hp) (Q:VK) (E:XK):Prop
 | mk (n ρ A st:_) (_:vs=[.ref A.a]) (_:HH T n ρ A H st) (_:∀r ws H',aF H H'->H r=none->H' r=some (.lst ws)->zu ρ H' ws st.kL->Q (.ref r) H')
def J8 (T:TC):Sp:=bx (X_ T)
theorem jG.mono {l:List Pt} (h:jG H vs l) (g:∀b xs,H b=some (.tup xs)->H' b=some (.tup xs)):jG H' vs l:=by
 induction h with
 | nil=>exact .nil
 | cons a _ ih=>exact .cons (g _ _ a) ih
variable {r:Addr}
theorem jG.snoc {l:List Pt} (h:jG H vs l) (e:H r=some (AJ p)):jG H (vs++[.ref r]) (l++[p]):=by
 induction h with
 | nil=>exact .cons e .nil
 | cons a _ ih=>exact .cons a ih
theorem i6.snoc {l:List (Str×Rat)} (h:i6 H vs l) (e:H r=some (.tup [.str x, .ref f])) (e2:H f=some (o7 q)):i6 H (vs++[.ref r]) (l++[(x,q)]):=by
 induction h with
 | nil=>exact .cons e e2 .nil
 | cons a b _ ih=>exact .cons a b ih
theorem kP {p:Addr} (h:H p=none\/∃u,H p=some u/\isTup u=false):∀b xs,H b=some (.tup xs)->upd H p o b=some (.tup xs):=fun b xs e=>by
 rw [av (fun z=>?_)]
 . exact e
 . rw [z] at e
   rcases h with h|⟨u,h,t⟩
   . rw [h] at e;cases e
   . rw [h] at e;cases e;cases t
theorem J9 (h:isNm x=true):x.cps.toList.length<=100000:=by
 unfold isNm isName at h
 have:=eE (kU.mp (kU.mp h).1).2
 omega
theorem ug {o:Obj} (e:H d=some (.dK kvs)) (s:aF (upd H d (.fk o (.dK kvs))) H1):aF H (upd H1 d (.dK kvs)):=fun b u q=>by
 by_cases h:b=d
 . rw [h,e] at q;cases q;rw [h];exact ah
 . rw [av h];exact s b u (by rw [av h];exact q)
theorem eZ {b:Addr} {o:Obj} {u:HO} (e:H d=some (.dK kvs)) (q:H b=some u) (h:∀k,u ≠ .dK k):upd H d (.fk o (.dK kvs)) b=some u:=by
 rw [av (fun z=>by rw [z,e] at q;cases q;exact h _ rfl)];exact q
theorem nQ {b:Addr} {o:Obj} (e:H d=some (.dK kvs)) (q:upd H d (.fk o (.dK kvs)) b=none):H b=none:=by
 by_cases h:b=d
 . rw [h,ah] at q;cases q
 . rw [av h] at q;exact q
theorem aF.tups (s:aF H H'):∀b xs,H b=some (.tup xs)->H' b=some (.tup xs):=fun b xs h=>s b _ h
theorem take_snoc {α:Type} {l:List α} {x:α} (h:l[i]?=some x):l.take (i+1)=l.take i++[x] :=by rw [List.take_add_one,h];rfl
theorem oF {α β γ:Type} (f:α->β->γ) {xs:List α} {ys:List β} {x:α} {y:β} (h1:xs[i]?=some x) (h2:ys[i]?=some y):List.zipWith f (xs.take (i+1)) (ys.take (i+1))=List.zipWith f (xs.take i) (ys.take i)++[f x y] :=by
 have l1:=(eU.mp h1).1
 have l2:=(eU.mp h2).1
 rw [take_snoc h1,take_snoc h2,List.zipWith_append (by rw [kY,kY];omega)]
 rfl
theorem gJ {l:List Int} {v:V} (h:(l.map V.int)[i]?=some v):∃z,v = .int z/\l[i]?=some z:=by
 rw [bK] at h
 obtain ⟨z,hz,rfl⟩:=lP.mp h
 exact ⟨z,Z,hz⟩
theorem HH.mono {A:HA} (h:HH T n ρ A H st) (s:aF H H'):HH T n ρ A H' st:=⟨h.g.same s,h.h.mono s,h.wf⟩
theorem Sv {u:HO} (c:ρ a=none) (h:H a=some u) (t:isTup u=false):Kp n ρ ρ H (upd H a o) ts:=
 ⟨kP (.inr ⟨u,h,t⟩),fun b x y w _ hc e=>⟨by rw [av (fun z=>by rw [z,c] at hc;cases hc)];exact e,hc⟩⟩
theorem HH.DP {A:HA} {u:HO} (h:HH T n ρ A H st) (c:ρ a=none) (e:H a=some u) (t:isTup u=false) (t2:isTup o=false):HH T n ρ A (upd H a o) st:=⟨h.g.wr t2,h.h.same (Sv c e t),h.wf⟩
theorem Fr.new (f:Fr n ρ H ρ' H') (h:H a=none):Fr n ρ H ρ' (upd H' a o):=fun b u e k=>by
 rw [av (aH e h)];exact f b u e k
theorem Sw {α β γ:Type} (f:α->β->γ) {xs:List α} {ys:List β} (h:xs.length=ys.length) (x:α) (y:β):List.zipWith f (xs++[x]) (ys++[y])=List.zipWith f xs ys++[f x y] :=by
 rw [List.zipWith_append h];rfl
theorem Yb (w:Wf st) {o:Str} (h:o∉st.own) (hl:st.own.length<100):Wf (gy st o):=by
 have P:∀p∈(gy st o).ao,∃p0∈st.ao,p={ p0 with row:=p0.row++[0] }:=fun p hp=>by
  obtain ⟨p0,h0,rfl⟩:=cD.mp (show p∈st.ao.map _ from hp)
  exact ⟨p0,h0,Z⟩
 have p1:=w.iz
 refine ⟨?_,w.Fd,?_,fun p hp=>?_,fun p hp=>?_,fun p hp=>?_,?_,?_,w.iz,w.xX,w.Ce,?_,w.Fe,?_,w.J1,w.Cf,w.WA,w.big,fun c hc=>?_,fun p hp=>?_,fun p hp r hr=>?_,fun p hp t ht=>?_,fun p hp=>?_,fun u hu=>?_⟩
 . exact ou w.ze h
 . show ((st.ao.map fun p=>{ p with row:=p.row++[0] }).map (·.nm)).Nodup
   rw [iS]
   exact w.pA
 . obtain ⟨p0,h0,rfl⟩:=P p hp
   exact w.sub p0 h0
 . obtain ⟨p0,h0,rfl⟩:=P p hp
   show (p0.row++[0]).length=(st.own++[o]).length
   rw [dg,dg,w.rows p0 h0]
   rfl
 . obtain ⟨p0,h0,rfl⟩:=P p hp
   exact ES _ (w.ow p0 h0)
 . show (st.bM++[0]).length=(st.own++[o]).length
   rw [dg,dg,w.i7]
   rfl
 . show (st.cX++[0]).length=(st.own++[o]).length
   rw [dg,dg,w.zf]
   rfl
 . show (st.own++[o]).length<=100
   rw [dg]
   exact hl
 . show (st.ao.map _).length<=1000
   rw [aG]
   exact w.vV
 . rcases gh.mp (show c∈st.bM++[0] from hc) with z|z
   . exact w.uf c z
   . rw [fZ.mp z];exact ⟨lD _,by show (0:Int)<=st.prod;omega⟩
 . obtain ⟨p0,h0,rfl⟩:=P p hp
   exact w.yC p0 h0
 . obtain ⟨p0,h0,rfl⟩:=P p hp
   rcases gh.mp (show r∈p0.row++[0] from hr) with z|z
   . exact w.vW p0 h0 r z
   . rw [fZ.mp z];show -st.prod<=0/\0<=st.prod;omega
 . obtain ⟨p0,h0,rfl⟩:=P p hp
   have el:p0.row.length=st.bM.length:=by rw [w.rows p0 h0,w.i7]
   have ht:t∈List.zipWith (fun r c=>p0.sc*r+c) (p0.row++[0]) (st.bM++[0]):=ht
   rw [Sw _ el _ _] at ht
   rcases gh.mp ht with z|z
   . exact w.Ff p0 h0 t z
   . rw [fZ.mp z];show 0<=p0.sc*0+0/\p0.sc*0+0<=st.prod;omega
 . obtain ⟨p0,h0,rfl⟩:=P p hp
   exact w.Bu p0 h0
 . rcases gh.mp (show u∈st.cX++[0] from hu) with z|z
   . exact w.Qp u z
   . rw [fZ.mp z];exact o8 (by decide +kernel)
theorem Yc (w:Wf st) (h1:p.nm∉st.nms) (h2:st.nms.length<1000) (h3:st.ao.length<1000) (h4:p.row.length=st.own.length) (h5:p.ow∈st.own) (h6:1<=p.sc/\p.sc<=st.prod) (h7:∀r∈p.row,-st.prod<=r/\r<=st.prod)
  (h8:∀t∈List.zipWith (fun r c=>p.sc*r+c) p.row st.bM,0<=t/\t<=st.prod) (h9:1<=p.wo/\0<=p.we):Wf (AI st p):=by
 have P:∀{M:Pt->Prop},(∀x∈st.ao,M x)->M p->∀x∈st.ao++[p],M x:=fun a b x hx=>by
  rcases gh.mp hx with z|z
  . exact a x z
  . rw [fZ.mp z];exact b
 refine ⟨w.ze,ou w.Fd h1,?_,P (fun x hx=>ES _ (w.sub x hx)) (jy _ (fZ.mpr rfl)),P w.rows h4,P w.ow h5,w.i7,w.zf,w.iz,w.xX,w.Ce,w.rT,?_,?_,w.J1,w.Cf,w.WA,w.big,w.uf,P w.yC h6,P w.vW h7,P w.Ff h8,P w.Bu h9,w.Qp⟩
 . show ((st.ao++[p]).map (·.nm)).Nodup
   rw [bF]
   refine ou w.pA fun m=>?_
   obtain ⟨x,hx,e⟩:=cD.mp m
   have e:x.nm=p.nm:=e
   exact h1 (by rw [<-e];exact w.sub x hx)
 . show (st.nms++[p.nm]).length<=1000
   rw [dg];exact h2
 . show (st.ao++[p]).length<=1000
   rw [dg];exact h3
theorem xZ {α β γ:Type} {f:α->β->γ} {t:γ}:∀{xs:List α} {ys:List β},t∈List.zipWith f xs ys->∃x∈xs,∃y∈ys,t=f x y
 | [],_,h=>by simp at h
 | _::_,[],h=>by simp at h
 | x::xs,y::ys,h=>by
   rcases c_.mp (show t∈f x y::List.zipWith f xs ys from h) with e|m
   . exact ⟨x,cO,y,cO,e⟩
   . obtain ⟨a,ha,b,hb,e⟩:=xZ m
     exact ⟨a,cI _ ha,b,cI _ hb,e⟩
theorem Cj:∀{ts cs:List Int},List.zipWith (fun r c=>1*r+c) (List.zipWith (fun t c=>t-c) ts cs) cs=ts.take cs.length
 | [],_=>by simp
 | _::_,[]=>by simp
 | t::ts,c::cs=>by
   show (1*(t-c)+c)::List.zipWith _ (List.zipWith _ ts cs) cs=t::ts.take cs.length
   rw [Cj]
   congr 1
   omega
theorem x6 {b t:Int} (h:t∈(List.replicate n 0).set i b):t=0\/t=b:=by
 rcases List.mem_or_eq_of_mem_set h with z|z
 . exact .inl (Ji z)
 . exact .inr z
variable {wo we:Int}
theorem Yd (w:Wf st) {o:Str} (h1:x∉st.nms) (h2:st.nms.length<1000) (h3:st.ao.length<1000) (ho:o∈st.own) (h4:1<=wo) (h5:0<=we):Wf (xY st x o wo we):=by
 have p1:=w.iz
 refine Yc w h1 h2 h3 ?_ ho ⟨lD 1,w.iz⟩ (fun r hr=>?_) (fun t ht=>?_) ⟨h4,h5⟩
 . show (List.zipWith _ ((List.replicate st.own.length 0).set _ _) st.bM).length=_
   rw [qh,lB,jz,w.i7,Nat.min_self]
 . obtain ⟨t,ht,c,hc,rfl⟩:=xZ (show r∈List.zipWith _ _ st.bM from hr)
   have:=w.uf c hc
   rcases x6 ht with rfl|rfl <;> omega
 . have e:List.zipWith (fun r c=>1*r+c) (zj st ((List.replicate st.own.length 0).set (st.own.idxOf o) st.prod)) st.bM=_:=Cj
   have ht:t∈List.zipWith (fun r c=>1*r+c) (zj st ((List.replicate st.own.length 0).set (st.own.idxOf o) st.prod)) st.bM:=ht
   rw [e] at ht
   rcases x6 (List.mem_of_mem_take ht) with rfl|rfl <;> omega
theorem kj {b:Addr} {u:HO} (h:a≠b):upd (upd H a o) b u=upd (upd H b u) a o:=by
 funext c
 unfold upd
 by_cases e1:c=b
 . rw [aC e1,aA (fun z=>h (z.symm.trans e1)),aC e1]
 . rw [aA e1]
   by_cases e2:c=a
   . rw [aC e2,aC e2]
   . rw [aA e2,aA e2,aA e1]
theorem x8 (h:H a=some o):upd H a o=H:=by
 funext c
 unfold upd
 by_cases e:c=a
 . rw [aC e,e,h]
 . rw [aA e]
theorem J_ {α:Type} (g:α->α) {l:List α} {p:α} (h:l[i]?=some p):((l.take i).map g++l.drop i)[i]?=some p:=by
 have hi:=(eU.mp h).1
 have e:((l.take i).map g).length=i:=by rw [aG,kY];omega
 rw [Jg (by omega),e,Au,List.getElem?_drop]
 exact h
theorem Ka {α:Type} (g:α->α) {l:List α} {p:α} (h:l[i]?=some p):((l.take i).map g++l.drop i).set i (g p)=(l.take (i+1)).map g++l.drop (i+1):=by
 have hi:=(eU.mp h).1
 have e:((l.take i).map g).length=i:=by rw [aG,kY];omega
 have ep:l[i]=p:=by rw [aX hi] at h;exact iy h
 rw [List.set_append_right _ _ (by omega),e,Au,O5 hi,Po,take_snoc h,bF,Jo]
 rfl
theorem qp {α β:Type} (g:α->α) (f:α->β) (hf:∀x,f (g x)=f x) (l:List α) (i:Nat):((l.take i).map g++l.drop i).map f=l.map f:=by
 rw [bF,iS,show f ∘ g=f from funext hf,<-bF,List.take_append_drop]
theorem oG {ps ps':List Pt} (h:ps.map (·.nm)=ps'.map (·.nm)):cY ps qs=cY ps' qs:=by
 have:∀{ps:List Pt},cY ps qs=List.zipWith (fun (x:Str) q=>((Sum.inr x:Key),V.ref q.1)) (ps.map (·.nm)) qs:=fun {ps}=>by unfold cY;rw [List.zipWith_map_left]
 rw [this,this,h]
structure jh (p:Addr) (H:Hp) (ρ:fU) (H':Hp) (ρ':fU) (l:List (Addr×HO×sX)):Prop where
 m:∀e∈l,H' e.1=some e.2.1/\ρ' e.1=some e.2.2/\e.1≠p
 k:∀b o,H b=some o->b≠p->H' b=some o/\ρ' b=ρ b
 g:Gh ρ' H'
 pp:∃u,H' p=some u
variable {l:List (Addr×HO×sX)}
theorem jh.new {p:Addr} {c:sX} (h:jh p H ρ H' ρ' l) (ha:H' a=none) (t:isTup o=false):jh p H ρ (upd H' a o) (cN ρ' a c) ((a,o,c)::l):=by
 obtain ⟨u,hu⟩:=h.pp
 refine ⟨fun e he=>?_,fun b w hb hp=>?_,(h.g.alloc ha).color ah t,u,by rw [av (aH hu ha)];exact hu⟩
 . rcases c_.mp he with rfl|he
   . exact ⟨ah,dN,fun z=>by rw [show a=p from z,hu] at ha;cases ha⟩
   . obtain ⟨x,y,z⟩:=h.m e he
     have:e.1≠a:=aH x ha
     rw [av this,b_ this]
     exact ⟨x,y,z⟩
 . obtain ⟨x,y⟩:=h.k b w hb hp
   have:b≠a:=aH x ha
   rw [av this,b_ this]
   exact ⟨x,y⟩
theorem jh.wr {p:Addr} {u:HO} (h:jh p H ρ H' ρ' l) (t:isTup u=false):jh p H ρ (upd H' p u) ρ' l:=by
 refine ⟨fun e he=>?_,fun b w hb hp=>?_,h.g.wr t,u,ah⟩
 . obtain ⟨x,y,z⟩:=h.m e he
   rw [av z];exact ⟨x,y,z⟩
 . obtain ⟨x,y⟩:=h.k b w hb hp
   rw [av hp];exact ⟨x,y⟩
theorem jh.same {p:Addr} {DQ:Hp} (h:jh p H ρ H' ρ' l) (s:aF H' DQ):jh p H ρ DQ ρ' l:=by
 obtain ⟨u,hu⟩:=h.pp
 exact ⟨fun e he=>let ⟨x,y,z⟩:=h.m e he;⟨s _ _ x,y,z⟩,fun b w hb hp=>let ⟨x,y⟩:=h.k b w hb hp;⟨s _ _ x,y⟩,h.g.same s,u,s _ _ hu⟩
theorem jh.add {p:Addr} {H0:Hp} {ρ0:fU} {l0:List (Addr×HO×sX)} {c:sX} (h:jh p H ρ H' ρ' l) (ha:H' a=some o) (t:isTup o=false) (h0:jh p H ρ H0 ρ0 l0) (hn:H0 a=none) (hl:∀e∈l,e.1≠a):jh p H ρ H' (cN ρ' a c) ((a,o,c)::l):=by
 refine ⟨fun e he=>?_,fun b w hb hp=>?_,h.g.color ha t,h.pp⟩
 . rcases c_.mp he with rfl|he
   . obtain ⟨u,hu⟩:=h0.pp
     exact ⟨ha,dN,fun z=>by rw [show a=p from z,hu] at hn;cases hn⟩
   . obtain ⟨x,y,z⟩:=h.m e he
     rw [b_ (hl e he)]
     exact ⟨x,y,z⟩
 . obtain ⟨x,y⟩:=h.k b w hb hp
   obtain ⟨x0,_⟩:=h0.k b w hb hp
   rw [b_ (aH x0 hn)]
   exact ⟨x,y⟩
theorem Kc:∀(l:List Int) (a:Int),l.foldl (·*·) a=a*l.foldl (·*·) 1
 | [],a=>by simp
 | s::l,a=>by
   rw [mz,Kc l (a*s),mz,Kc l (1*s),Int.one_mul,iR]
theorem Fi (s:Int) (l:List Int):(s::l).foldl (·*·) 1=s*l.foldl (·*·) 1:=by rw [mz,Kc,Int.one_mul]
theorem Ye (s:Int) (l:List Int):(l++[s]).foldl (·*·) 1=l.foldl (·*·) 1*s:=by rw [Jp];rfl
theorem Kd:∀{l:List Int},(∀s∈l,2<=s)->1<=l.foldl (·*·) 1
 | [],_=>by decide
 | s::l,h=>by
   rw [Fi]
   have h1:=h s cO
   have h2:=Kd (l:=l) fun x hx=>h x (cI _ hx)
   have:=Int.mul_le_mul (a:=1) (b:=1) (c:=s) (d:=l.foldl (·*·) 1) (by omega) h2 (by decide) (by omega)
   omega
theorem WC:∀{l:List Int} {s:Int},(∀s∈l,2<=s)->s∈l->s<=l.foldl (·*·) 1
 | [],_,_,h=>by simp at h
 | a::l,s,h,m=>by
   rw [Fi]
   have h1:=h a cO
   have h2:=Kd (l:=l) fun x hx=>h x (cI _ hx)
   rcases c_.mp m with rfl|m
   . have:=Gq h2 (by omega:0<=s)
     omega
   . have h3:=WC (fun x hx=>h x (cI _ hx)) m
     have:=Rj (by omega:1<=a) (by omega:0<=l.foldl (·*·) 1)
     omega
theorem Sx {t d s:Int} (hd:0<d) (hs:0<s) (c:Jm.cf t d=1):Jm.cf (t / Jm.cf t s) (d*(s / Jm.cf t s))=1/\0<d*(s / Jm.cf t s):=by
 have gp:0<Jm.cf t s:=Jm.Dv t s (.inr hs)
 obtain ⟨u,hu⟩:=Jm.qS t s
 obtain ⟨v,hv⟩:=Jm.o6 t s
 generalize eg:Jm.cf t s=g at *
 have e1:t / g=u:=by rw [hu,EO _ (by omega)]
 have e2:s / g=v:=by rw [hv,EO _ (by omega)]
 have vp:0<v:=by
  rcases C6 0 v with z|z
  . exact z
  . have:=Gq z (by omega:0<=g)
    omega
 rw [e1,e2]
 have c0:Nat.Coprime t.natAbs d.natAbs:=by unfold Jm.cf at c;exact_mod_cast c
 have c1:Nat.Coprime u.natAbs d.natAbs:=Nat.Coprime.coprime_dvd_left ⟨g.natAbs,by rw [hu,C0,Nat.mul_comm]⟩ c0
 have c2:Nat.Coprime u.natAbs v.natAbs:=by
  have hg:Int.gcd t s=g.natAbs:=by unfold Jm.cf at eg;omega
  have WD:Nat.gcd t.natAbs s.natAbs=g.natAbs:=hg
  have:=Nat.coprime_div_gcd_div_gcd (m:=t.natAbs) (n:=s.natAbs) (by rw [WD];omega)
  rw [WD] at this
  have gn:0<g.natAbs:=by omega
  rw [hu,hv,C0,C0,Nat.mul_div_cancel_left _ gn,Nat.mul_div_cancel_left _ gn] at this
  exact this
 refine ⟨?_,Int.mul_pos hd vp⟩
 have:=Nat.Coprime.mul_right c1 c2
 rw [<-C0] at this
 unfold Jm.cf
 exact_mod_cast this
theorem Vo {κ:Type} [DecidableEq κ] {kvs:List (κ×V)} {k:κ} {v:V} (h:dZ kvs k=some v):(k,v)∈kvs:=by
 unfold dZ at h
 obtain ⟨p,hp,rfl⟩:=lP.mp h
 have:=List.find?_some hp
 have e:p.1=k:=eE this
 rw [<-e]
 exact List.mem_of_find?_eq_some hp
theorem aV.Vp {A:HA} (h:aV T n ρ A H st) (k:∀b o,H b=some o->b≠A.kn->H' b=some o) (e1:H' A.kn=some (.dK kvs)) (e2:JZ H' kvs st.prod) (e3:kvs.length<=m) (e4:(kvs.map (·.1)).Nodup):aV T n ρ A H' { st with kn:=m }:=by
 obtain ⟨kv0,k0,_⟩:=h.okn
 have z:=fun {b:Addr} {t:Nat} {x:Str} {o:HO} (u:t≠9) (c:ρ b=some (n,t,x)) (e:H b=some o)=>k b o e (DN c h.jS (fun w=>by cases w;exact u rfl))
 have tp:∀b xs,H b=some (.tup xs)->H' b=some (.tup xs):=fun b xs e=>k b _ e (iT e k0 (by intro w;cases w))
 obtain ⟨vs,h1,h2⟩:=h.vo
 have kp:Kp n ρ ρ H H' fun t=>decide (t≠9):=⟨tp,fun b t x o u c e=>⟨z (eE u) c e,c⟩⟩
 exact ⟨z (by decide) h.ca h.oa,h.ca,z (by decide) h.jC h.iN,h.jC,z (by decide) h.gO h.d9,h.gO,⟨vs,z (by decide) h.j_ h1,h2.keep kp (by decide)⟩,h.j_,z (by decide) h.jO h.ue,h.jO,z (by decide) h.jP h.m_,h.jP,z (by decide) h.kM h.jQ,h.kM,z (by decide) h.cpu h.qg,h.cpu,z (by decide) h.jR h.sY,h.jR,⟨kvs,e1,e2,e3,e4⟩,h.jS,h.ql,
  fun i p q a b=>let ⟨x,y,c,d⟩:=h.opt i p q a b;⟨z (by decide) c x,z (by decide) d y,c,d⟩⟩
theorem ac2 (w:Wf st) (h:m<=1000000):Wf { st with kn:=m }:=⟨w.ze,w.Fd,w.pA,w.sub,w.rows,w.ow,w.i7,w.zf,w.iz,w.xX,w.Ce,w.rT,w.Fe,w.vV,w.J1,w.Cf,h,w.big,w.uf,w.yC,w.vW,w.Ff,w.Bu,w.Qp⟩
theorem pe.length {l:List qf} (h:pe n ρ H vs l):vs.length=l.length:=by
 induction h with
 | nil=>rfl
 | cons _ _ _ _ _ ih=>simp [ih]
theorem pe.get {l:List qf} (h:pe n ρ H vs l):∀{i:Nat} {x:V},vs[i]?=some x->∃r q y ss,x = .ref r/\l[i]?=some y/\H r=some (.tup [.str y.nm, .str y.ow, .int y.wo, .ref q])/\H q=some (.lst ss)/\ρ q=some (n,30,y.nm)/\i6 H ss y.sh:=by
 induction h with
 | nil=>intro i x e;simp at e
 | @cons r q y ss vs as a b c d _ ih=>
   intro i x e
   cases i with
   | zero=>simp at e;subst e;exact ⟨r,q,y,ss,Z,Z,a,b,c,d⟩
   | succ i=>simp at e;obtain ⟨r',q',y',ss',e1,e2,e3⟩:=ih e;exact ⟨r',q',y',ss',e1,by simpa using e2,e3⟩
inductive ko (a:Addr) (ρ:fU) (H:Hp):List V->List qf->Prop
 | nil:ko a ρ H [] []
 | cons {r l:Addr} {x:qf} {ss:List V} {vs:List V} {as:List qf}:H r=some (.tup [.str x.nm, .str x.ow, .int x.wo, .ref l])->H l=some (.lst ss)->ρ l=none->l≠a->i6 H ss x.sh->ko a ρ H vs as->ko a ρ H (.ref r::vs) (x::as)
theorem ko.to {l:List qf} (h:ko a ρ H vs l):zu ρ H vs l:=by
 induction h with
 | nil=>exact .nil
 | cons x y z _ w _ ih=>exact .cons x y z w ih
theorem ko.mono {l:List qf} (h:ko a ρ H vs l) (g:aF H H'):ko a ρ H' vs l:=by
 induction h with
 | nil=>exact .nil
 | cons x y z n w _ ih=>exact .cons (g _ _ x) (g _ _ y) z n (w.mono g.tups) ih
theorem ko.upd {l:List qf} (h:ko a ρ H vs l) (ha:H a=some (.lst xs)):ko a ρ (L2.upd H a (.lst ys)) vs l:=by
 induction h with
 | nil=>exact .nil
 | cons x y z n w _ ih=>exact .cons (kP (.inr ⟨_,ha,Z⟩) _ _ x) (by rw [av n];exact y) z n (w.mono (kP (.inr ⟨_,ha,Z⟩))) ih
theorem ko.snoc {as:List qf} {l:Addr} {x:qf} {ss:List V} (h:ko a ρ H vs as) (e1:H r=some (.tup [.str x.nm, .str x.ow, .int x.wo, .ref l])) (e2:H l=some (.lst ss)) (e3:ρ l=none) (e5:l≠a) (e4:i6 H ss x.sh):ko a ρ H (vs++[.ref r]) (as++[x]):=by
 induction h with
 | nil=>exact .cons e1 e2 e3 e5 e4 .nil
 | cons x y z n w _ ih=>exact .cons x y z n w ih
def Sq (K:Fg) (H:Hp) (r:Addr) (xs:List V):Prop:=aB K H r xs\/cT K H r xs
theorem aF.sq (g:aF H H') (h:Sq K H r xs):Sq K H' r xs:=h.elim (fun z=> .inl (g.seq z)) fun z=> .inr (g.tup z)
structure zx (K:Fg) (H:Hp) (us:List V) (ps:List Pt):Prop where
 len:us.length=ps.length
 at_:∀(i:Nat) (p:Pt),ps[i]?=some p->∃r xs,us[i]?=some (.ref r)/\Sq K H r xs/\xs[0]?=some (.str p.nm)/\xs[1]?=some (.str p.ow)/\xs[2]?=some (.int p.wo)/\xs[3]?=some (.int p.we)
theorem zx.mono {us:List V} {ps:List Pt} (h:zx K H us ps) (g:aF H H'):zx K H' us ps:=⟨h.len,fun i p e=>let ⟨r,xs,a,b,c⟩:=h.at_ i p e;⟨r,xs,a,g.sq b,c⟩⟩
def aaC (ps:List Pt):Prop:=∀p∈ps,PyData.strOk p.nm=true/\PyData.strOk p.ow=true
inductive Sy (K:Fg) (vs:List V) (H:Hp) (Q:VK) (E:XK):Prop
 | mk (r l:Addr) (ws us:List V) (ps:List Pt) (_:vs=[.ref r, .ref l]) (_:H r=some (.lst ws)) (_:jG H ws ps) (_:aB K H l us) (_:zx K H us ps) (_:aaC ps) (_:ps.length<=1000) (_:∀H',aF H H'->Q (.bl true) H')
def DR (K:Fg):Sp:=bx (Sy K)
def fD (own:List Str) (tops:List Int) (b:Int):List (Str×Rat):=(List.zip own tops).filterMap fun x=>if 0<x.2 then some (x.1,Jm.fr x.2 b) else none
inductive Qq (K:Fg) (vs:List V) (H:Hp) (Q:VK) (E:XK):Prop
 | mk (r lo lt:Addr) (ws:List V) (own:List Str) (tops:List Int) (b:Int) (_:vs=[.ref r, .ref lo, .ref lt, .int b]) (_:H r=some (.lst ws)) (_:i6 H ws (fD own tops b)) (_:aB K H lo (own.map V.str)) (_:aB K H lt (tops.map V.int)) (_:own.length=tops.length) (_:own.length<=1000) (_:0<b) (_:Jm.Sz 9000 b) (_:∀H',aF H H'->Q (.bl true) H')
def vX (K:Fg):Sp:=bx (Qq K)
theorem jG.length {l:List Pt} (h:jG H vs l):vs.length=l.length:=by
 induction h with
 | nil=>rfl
 | cons _ _ ih=>simp [ih]
theorem jG.get {l:List Pt} (h:jG H vs l):∀{i:Nat} {p:Pt},l[i]?=some p->∃r,vs[i]?=some (.ref r)/\H r=some (AJ p):=by
 induction h with
 | nil=>intro i p e;simp at e
 | @cons r q vs ps a _ ih=>
   intro i p e
   cases i with
   | zero=>simp at e;subst e;exact ⟨r,Z,a⟩
   | succ i=>simp at e;obtain ⟨r',e1,e2⟩:=ih e;exact ⟨r',by simpa using e1,e2⟩
theorem i6.length {l:List (Str×Rat)} (h:i6 H vs l):vs.length=l.length:=by
 induction h with
 | nil=>rfl
 | cons _ _ _ ih=>simp [ih]
theorem i6.get {l:List (Str×Rat)} (h:i6 H vs l):∀{i:Nat} {x:Str} {q:Rat},l[i]?=some (x,q)->∃r f,vs[i]?=some (.ref r)/\H r=some (.tup [.str x, .ref f])/\H f=some (o7 q):=by
 induction h with
 | nil=>intro i x q e;simp at e
 | @cons r f x q vs l a b _ ih=>
   intro i y p e
   cases i with
   | zero=>simp at e;obtain ⟨rfl,rfl⟩:=e;exact ⟨r,f,Z,a,b⟩
   | succ i=>simp at e;obtain ⟨r',f',e1,e2⟩:=ih e;exact ⟨r',f',by simpa using e1,e2⟩
def AL (p:Pt):PyData:= .tuple [.str p.nm, .str p.ow, .int p.wo, .int p.we]
theorem Ol (h:H r=some (AJ p)):Dt K H (.ref r) (AL p):= .tup (cT.of h) (.cons (.str _) (.cons (.str _) (.cons (.int _) (.cons (.int _) .nil))))
theorem Bv (h1:PyData.strOk p.nm=true) (h2:PyData.strOk p.ow=true):SeqAt.shaped (AL p)=true:=by
 unfold AL SeqAt.shaped
 refine kU.mpr ⟨?_,Z⟩
 simp [PyData.canLay0,PyData.canLayAll0,h1,h2]
theorem Vq (p:Pt):PyData.eqv (AL p) (AL p)=true:=by
 unfold AL
 simp [PyData.eqv,PyData.eqvAll]
def x9 (x:Str):Prop:=o_ x.cps.toList
theorem Qs:∀i:Fin 26,DE "abcdefghijklmnopqrstuvwxyz" (97+i.val)=true:=by decide +kernel
theorem x9.isNm (h:x9 x):L2.isNm x=true:=by
 unfold L2.isNm isName
 have h1:=h.lo
 have h2:=h.hi
 refine kU.mpr ⟨kU.mpr ⟨cG (by omega),cG (by omega)⟩,oO.mpr fun c hc=>?_⟩
 have h3:=h.N5 c hc
 have:=Qs ⟨c-97,by omega⟩
 rw [show 97+(c-97)=c from by omega] at this
 exact this
theorem x9.strOk (h:x9 x):PyData.strOk x=true:=by
 unfold PyData.strOk
 rw [Array.all_eq_true']
 intro c hc
 have:=h.N5 c (by simpa using hc)
 exact cG (by omega)
inductive aaD (T:TC) (K:Fg) (vs:List V) (H:Hp) (Q:VK) (E:XK):Prop
 | mk (l:Addr) (own:List Str) (n:Nat) (ρ:fU) (_:vs=[.ref l]) (_:aB K H l (own.map V.str)) (_:ρ l=none) (_:own.Nodup) (_:(∀o∈own,isNm o=true)) (_:own.length<=100) (_:Gh ρ H) (_:∀ρ' A H',HH T n ρ' A H' (own.foldl gy hs0)->Fr n ρ H ρ' H'->Q (.ref A.a) H')
def Om (T:TC) (K:Fg):Sp:=bx (aaD T K)
theorem zy:∀(l:List Str) (st:HS),(l.foldl gy st).own=st.own++l
 | [],st=>by simp
 | o::l,st=>by
   rw [mz,zy l]
   show (st.own++[o])++l=_
   rw [Jo]
   rfl
theorem oH (K:Fg) (hK:X.K=K:=by rfl):yx X (ZJ K):=hK▸ZK
theorem Sq.ix {v:V} {Q:VK} (h:Sq K H r xs) (e:xs[i]?=some v) (q:Q v H):ZJ K (.ref r) (.int (i:Int)) H Q:=by
 rcases h with h|h
 . exact .inl ⟨r,xs,i,v,Z,Z,h,bg e,q⟩
 . exact .inr (.inl ⟨r,xs,i,v,Z,Z,h,bg e,q⟩)
theorem HE {own:List Str} {tops:List Int} {b:Int} (hb:0<b) (hz:Jm.Sz m b) (h:(x,q)∈fD own tops b):Jm.Sz m (q.den:Int):=by
 unfold fD at h
 obtain ⟨y,_,e⟩:=EW.mp h
 by_cases c:0<y.2
 . rw [aC c] at e
   cases e
   refine hz.of_le ?_
   have:=Jm.RY y.2 b hb
   omega
 . rw [aA c] at e;cases e
theorem Fr.at (f:Fr n ρ H ρ' H') {b:Addr} (e:H b=some o) (c:ρ b=none):H' b=some o/\ρ' b=none:=by
 obtain ⟨a,d⟩:=f b o e (fun t x=>by rw [c];intro z;cases z)
 exact ⟨a,d.trans c⟩
theorem Fr.seq (f:Fr n ρ H ρ' H') {l:Addr} (h:aB K H l xs) (c:ρ l=none):aB K H' l xs:=by
 rcases h with (h|⟨o,h⟩)|h
 . exact .inl (.inl (f.at h c).1)
 . exact .inl (.inr ⟨o,(f.at h c).1⟩)
 . exact .inr h
theorem Fr.tup {n:Nat} {ρ ρ':fU} {H H':Hp} (f:Fr n ρ H ρ' H') (g:Gh ρ H):∀b xs,H b=some (.tup xs)->H' b=some (.tup xs):=fun b xs e=>(f.at e (g.tup e)).1
def DS (nss:List (List Nat)):List Str:=nss.map tx
theorem Yg (nss:List (List Nat)):rH nss=(DS nss).map V.str:=by unfold rH DS;rw [iS];rfl
theorem GS (h:nss.Nodup):(DS nss).Nodup:=by
 unfold DS
 exact List.Pairwise.map tx (fun a b hab e=>hab (Sa e)) h
theorem SA (h:∀x∈nss,o_ x):∀o∈DS nss,x9 o:=fun o ho=>by
 obtain ⟨x,hx,rfl⟩:=cD.mp ho
 show o_ (tx x).cps.toList
 rw [show (tx x).cps.toList=x from by simp]
 exact h x hx
theorem Oo (nss:List (List Nat)):(DS nss).length=nss.length:=by unfold DS;rw [aG]
theorem Vr (x:Str) (l:List Str):JA (.str x) (l.map V.str)=decide (x∈l):=by
 have:=N6 x.cps.toList (l.map fun y=>y.cps.toList)
 rw [wU] at this
 rw [show rH (l.map fun y=>y.cps.toList)=l.map V.str from by unfold rH;rw [iS];congr 1;] at this
 rw [this]
 congr 1
 refine propext ⟨fun m=>?_,fun m=>cD.mpr ⟨x,m,Z⟩⟩
 obtain ⟨y,hy,e⟩:=cD.mp m
 have:tx y.cps.toList=tx x.cps.toList:=by rw [e]
 rw [wU,wU] at this
 rw [<-this];exact hy
theorem SD (l:List Str):(l.map V.str).all qQ=true:=by
 rw [List.all_map]
 exact oO.mpr fun _ _=>rfl
theorem Ke {l:List Str} {d:Int} (h0:0<=d) (h1:d<(l.length:Int)):∃(j:Nat) (o:Str),d=(j:Int)/\l[j]?=some o/\rG (l.map V.str) d=some (.str o):=by
 obtain ⟨j,rfl⟩:∃j:Nat,d=(j:Int):=⟨d.toNat,by omega⟩
 have hj:j<l.length:=by omega
 exact ⟨j,l[j],Z,aX hj,bg (by rw [bK,aX hj];rfl)⟩
section
variable {T:TC} {n:Nat} {L H:Hp} {x lp:Addr} {st:HS} {ps:List Pt}
end
theorem jT {α:Type} {l:List α} (nd:l.Nodup) {x:α} (h:l[i]?=some x):x∉l.take i:=fun m=>by
 have h2:(l.take (i+1)).Nodup:=nd.sublist (List.take_sublist _ _)
 rw [take_snoc h] at h2
 exact (List.nodup_append.mp h2).2.2 x m x (fZ.mpr rfl) rfl
abbrev Row:=Str×Int
def zz (r:Row):HO:= .tup [.str r.1, .int r.2]
inductive gk (H:Hp):List V->List Row->Prop
 | nil:gk H [] []
 | cons {a:Addr} {r:Row} {vs:List V} {rs:List Row}:H a=some (zz r)->gk H vs rs->gk H (.ref a::vs) (r::rs)
theorem gk.mono {l:List Row} (h:gk H vs l) (g:∀b xs,H b=some (.tup xs)->H' b=some (.tup xs)):gk H' vs l:=by
 induction h with
 | nil=>exact .nil
 | cons a _ ih=>exact .cons (g _ _ a) ih
theorem gk.length {l:List Row} (h:gk H vs l):vs.length=l.length:=by
 induction h with
 | nil=>rfl
 | cons _ _ ih=>simp [ih]
theorem gk.get {l:List Row} (h:gk H vs l):∀{i:Nat} {x:V},vs[i]?=some x->∃a r,x = .ref a/\l[i]?=some r/\H a=some (zz r):=by
 induction h with
 | nil=>intro i x e;simp at e
 | @cons a r vs rs e0 _ ih=>
   intro i x e
   cases i with
   | zero=>simp at e;subst e;exact ⟨a,r,Z,Z,e0⟩
   | succ i=>simp at e;obtain ⟨a',r',e1,e2,e3⟩:=ih e;exact ⟨a',r',e1,by simpa using e2,e3⟩
theorem gk.snoc {l:List Row} {r:Row} (h:gk H vs l) (e:H a=some (zz r)):gk H (vs++[.ref a]) (l++[r]):=by
 induction h with
 | nil=>exact .cons e .nil
 | cons a _ ih=>exact .cons a ih
def gW (rs:List Row):List (Key×V):=rs.map fun r=>((Sum.inr r.1:Key),V.int r.2)
theorem x_ (rs:List Row):(gW rs).length=rs.length:=by unfold gW;rw [aG]
variable {rs:List Row}
theorem GU (h:x∉rs.map (·.1)):dZ (gW rs) (Sum.inr x)=none:=by
 unfold gW
 induction rs with
 | nil=>rfl
 | cons a l ih=>
   rw [bJ,eX (fun z=>h (by rw [bJ,<-tH z];exact cO))]
   exact ih fun m=>h (by rw [bJ];exact cI _ m)
def bD (rs:List Row):Int:=(rs.map (·.2)).sum
def dI (st:HS) (x:Str):Pt:=(st.ao.find? fun p=>decide (p.nm=x)).getD ⟨x,x,0,0,1,[]⟩
theorem Oq (nd:(st.ao.map (·.nm)).Nodup) (h:st.ao[i]?=some p):dI st p.nm=p:=by
 unfold dI
 have:st.ao.find? (fun q=>decide (q.nm=p.nm))=some p:=by
  generalize st.ao=ps at *
  induction ps generalizing i with
  | nil=>simp at h
  | cons a ps ih=>
    obtain ⟨h1,h2⟩:=iQ.mp (show (a.nm::ps.map (·.nm)).Nodup from nd)
    cases i with
    | zero=>
      have:a=p:=by simpa using h
      subst this
      rw [tF,cG rfl]
    | succ i=>
      have h':ps[i]?=some p:=by simpa using h
      rw [tF,d7 (fun e=>h1 (cD.mpr ⟨p,bV h',e.symm⟩))]
      exact ih h2 h'
 rw [this]
 rfl
def jA (st:HS) (sums:List Int) (r:Row):List Int:=List.zipWith (fun old own=>old+(r.2*(dI st r.1).sc)*own) sums (dI st r.1).row
def fV (st:HS) (rs:List Row):List Int:=rs.foldl (jA st) (st.bM.map fun c=>bD rs*c)
def pD (s:Int) (ts:List Int):Int:=ts.foldl (fun s t=>Jm.cf t s) s
def iG (st:HS) (kept:Int):List Int:=st.ao.map fun p=>p.sc*kept
def fR (st:HS) (kept:Int) (added:List Int):List Int:=List.zipWith (fun t m=>t*kept+m) st.bM added
def cS (st:HS) (kept whole:Int) (added:List Int):Int:=pD whole (iG st kept++fR st kept added)
def fE (st:HS) (s:Int):HS:=if 1<s then { st with stp:=st.stp++[s],prod:=st.prod*s,kn:=0 } else st
def cy (st:HS) (kept whole:Int) (added:List Int):HS:=
 fE { st with ao:=st.ao.map (fun p=>{ p with sc:=p.sc*kept / cS st kept whole added }),bM:=(fR st kept added).map (· / cS st kept whole added),cX:=st.cX.map (·*(whole / cS st kept whole added)) } (whole / cS st kept whole added)
def nC (ps:List Pt) (x:Str) (a:Int):List Pt:=(ps.map fun p=>if p.nm=x then { p with wo:=p.wo-a } else p).filter fun p=>decide (p.wo≠0)
def fY (st:HS) (r:Row):HS:={ st with ao:=nC st.ao r.1 r.2 }
def kq (st:HS) (rs:List Row):HS:=rs.foldl fY (cy st (aS st-bD rs) (aS st) (fV st rs))
inductive agq (vs:List V) (H:Hp) (Q:VK) (E:XK):Prop
 | mk (a:Int) (_:vs=[.int a]) (_:1<=a) (_:Q .bU H)
def ac3:Sp:=bx (agq)
inductive agr (vs:List V) (H:Hp) (Q:VK) (E:XK):Prop
 | mk (m a:Int) (_:vs=[.int m, .int a]) (_:1<=a) (_:a<=m) (_:Q .bU H)
def WE:Sp:=bx (agr)
inductive ac4 (K:Fg) (vs:List V) (H:Hp) (Q:VK) (E:XK):Prop
 | mk (l:Addr) (us:List V) (rs:List Row) (_:vs=[.ref l]) (_:aB K H l us) (_:gk H us rs) (_:(rs.map (·.1)).Nodup) (_:rs≠[]) (_:rs.length<=1000) (_:∀d H',aF H H'->H d=none->H' d=some (.dK (gW rs))->Q (.ref d) H')
def SE (K:Fg):Sp:=bx (ac4 K)
inductive ac5 (K:Fg) (vs:List V) (H:Hp) (Q:VK) (E:XK):Prop
 | mk (s:Int) (l:Addr) (ts:List Int) (_:vs=[.int s, .ref l]) (_:aB K H l (ts.map V.int)) (_:0<=s) (_:(∀t∈ts,0<=t)) (_:Q (.int (pD s ts)) H)
def SG (K:Fg):Sp:=bx (ac5 K)
inductive ac6 (T:TC) (vs:List V) (H:Hp) (Q:VK) (E:XK):Prop
 | mk (n ρ A st s:_) (_:vs=[.ref A.bt, .int s]) (_:Gh ρ H) (_:aV T n ρ A H st) (_:st.stp.length<=1000) (_:Jm.Sz 9000 st.prod) (_:Jm.Sz 9000 s) (_:∀ρ' A' H',Gh ρ' H'->aV T n ρ' A' H' (fE st s:_)->A'.a=A.a->Fr n ρ H ρ' H'->Q .bU H')
def SH (T:TC):Sp:=bx (ac6 T)
inductive aaE (T:TC) (vs:List V) (H:Hp) (Q:VK) (E:XK):Prop
 | mk (n ρ A st:_) (d:Addr) (rs:List Row) (_:vs=[.ref A.a, .ref d]) (_:aV T n ρ A H st) (_:Wf st) (_:H d=some (.dK (gW rs))) (_:ρ d=none) (_:rs.length<=1000) (_:(∀r∈rs,Jm.Sz 60 r.2/\∃p∈st.ao,p.nm=r.1)) (_:∀l H',aF H H'->H l=none->H' l=some (.lst ((fV st rs).map V.int))->Q (.ref l) H')
def Ot (T:TC):Sp:=bx (aaE T)
inductive aaF (T:TC) (K:Fg) (vs:List V) (H:Hp) (Q:VK) (E:XK):Prop
 | mk (n ρ A st:_) (kept whole:Int) (l:Addr) (added:List Int) (_:vs=[.ref A.a, .int kept, .int whole, .ref l]) (_:HH T n ρ A H st) (_:aB K H l (added.map V.int)) (_:added.length=st.bM.length) (_:0<kept) (_:0<whole) (_:Jm.Sz 60 kept) (_:Jm.Sz 60 whole) (_:(∀m∈added,0<=m/\Jm.Sz 8900 m)) (_:(∀u∈st.cX,Jm.Sz 8900 u)) (_:st.stp.length<100) (_:Wf (cy st kept whole added)) (_:AH T n ρ A H (cy st kept whole added:_) fun H'=>Q .bU H')
def Fj (T:TC) (K:Fg):Sp:=bx (aaF T K)
inductive ac7 (T:TC) (vs:List V) (H:Hp) (Q:VK) (E:XK):Prop
 | mk (n ρ A st:_) (r:Row) (_:vs=[.ref A.a, .str r.1, .int r.2]) (_:HH T n ρ A H st) (_:(∃p∈st.ao,p.nm=r.1/\r.2<=p.wo)) (_:Wf (fY st r)) (_:AH T n ρ A H (fY st r:_) fun H'=>Q .bU H')
def SI (T:TC):Sp:=bx (ac7 T)
structure pF (st:HS) (rs:List Row):Prop where
 nd:(rs.map (·.1)).Nodup
 ne:rs≠[]
 len:rs.length<=1000
 row:∀r∈rs,1<=r.2/\Jm.Sz 60 r.2/\∃p∈st.ao,p.nm=r.1/\r.2<=p.wo
 lost:bD rs<aS st
 big:Jm.Sz 60 (aS st)
 prod:Jm.Sz 7900 st.prod
 cX:∀u∈st.cX,Jm.Sz 8900 u
 stp:st.stp.length<100
inductive ac8 (T:TC) (K:Fg) (vs:List V) (H:Hp) (Q:VK) (E:XK):Prop
 | mk (n ρ A st:_) (l:Addr) (us:List V) (rs:List Row) (_:vs=[.ref A.a, .ref l]) (_:HH T n ρ A H st) (_:aB K H l us) (_:gk H us rs) (_:pF st rs) (_:AH T n ρ A H (kq st rs:_) fun H'=>Q .bU H')
def SJ (T:TC) (K:Fg):Sp:=bx (ac8 T K)
theorem Kf:∀{ps:List Pt} {qs:List (Addr×Addr×Addr)} {i:Nat} {p:Pt},(ps.map (·.nm)).Nodup->qs.length=ps.length->ps[i]?=some p->nv (cY ps qs) (Sum.inr p.nm)=cY (ps.eraseIdx i) (qs.eraseIdx i)
 | [],_,_,_,_,_,h=>by simp at h
 | _::_,[],_,_,_,hl,_=>by simp at hl
 | a::ps,b::qs,0,p,nd,hl,h=>by
   have e:a=p:=by simpa using h
   subst e
   obtain ⟨h1,h2⟩:=iQ.mp (show (a.nm::ps.map (·.nm)).Nodup from nd)
   show nv ((Sum.inr a.nm,V.ref b.1)::cY ps qs) (Sum.inr a.nm)=cY ps qs
   unfold nv
   rw [iw,aA (by simp)]
   refine List.filter_eq_self.mpr fun kv hkv=>?_
   unfold cY at hkv
   obtain ⟨x,hx,y,hy,rfl⟩:=xZ hkv
   exact cG fun z=>h1 (cD.mpr ⟨x,hx,tH z⟩)
 | a::ps,b::qs,i+1,p,nd,hl,h=>by
   obtain ⟨h1,h2⟩:=iQ.mp (show (a.nm::ps.map (·.nm)).Nodup from nd)
   have h':ps[i]?=some p:=by simpa using h
   have ih:=Kf h2 (by simpa using hl) h'
   show nv ((Sum.inr a.nm,V.ref b.1)::cY ps qs) (Sum.inr p.nm)=(Sum.inr a.nm,V.ref b.1)::cY (ps.eraseIdx i) (qs.eraseIdx i)
   rw [<-ih]
   unfold nv
   have hne:¬ (Sum.inr a.nm:Key)=Sum.inr p.nm:=fun z=>h1 (cD.mpr ⟨p,bV h',(tH z).symm⟩)
   rw [iw,aC (by simpa using fun e:a.nm=p.nm=>hne (by rw [e]))]
theorem Kg:∀{ps:List Pt} {i:Nat} {p:Pt} {a:Int},(ps.map (·.nm)).Nodup->(∀q∈ps,q.wo≠0)->ps[i]?=some p->nC ps p.nm a=if p.wo-a=0 then ps.eraseIdx i else ps.set i { p with wo:=p.wo-a }
 | [],_,_,_,_,_,h=>by simp at h
 | x::ps,0,p,a,nd,hw,h=>by
   have e:x=p:=by simpa using h
   subst e
   obtain ⟨h1,h2⟩:=iQ.mp (show (x.nm::ps.map (·.nm)).Nodup from nd)
   have rest:nC ps x.nm a=ps:=by
    unfold nC
    rw [show (ps.map fun p=>if p.nm=x.nm then { p with wo:=p.wo-a } else p)=ps from by
     conv=>rhs;rw [<-List.map_id ps]
     exact Pf fun y hy=>aA fun z=>h1 (cD.mpr ⟨y,hy,z⟩)]
    exact List.filter_eq_self.mpr fun y hy=>cG (hw y (cI _ hy))
   show ((x::ps).map fun p=>if p.nm=x.nm then { p with wo:=p.wo-a } else p).filter _=_
   rw [bJ,aC rfl,iw]
   by_cases c:x.wo-a=0
   . rw [aC c,aA (by simp [c])]
     exact rest
   . rw [aA c,aC (by simpa using c)]
     show _::nC ps x.nm a=_
     rw [rest]
     rfl
 | x::ps,i+1,p,a,nd,hw,h=>by
   obtain ⟨h1,h2⟩:=iQ.mp (show (x.nm::ps.map (·.nm)).Nodup from nd)
   have h':ps[i]?=some p:=by simpa using h
   have ih:=Kg (a:=a) h2 (fun q hq=>hw q (cI _ hq)) h'
   have xn:¬ x.nm=p.nm:=fun z=>h1 (cD.mpr ⟨p,bV h',z.symm⟩)
   show ((x::ps).map fun q=>if q.nm=p.nm then { q with wo:=q.wo-a } else q).filter _=_
   rw [bJ,aA xn,iw,aC (cG (hw x cO))]
   show x::nC ps p.nm a=_
   rw [ih]
   by_cases c:p.wo-a=0
   . rw [aC c,aC c];rfl
   . rw [aA c,aA c];rfl
theorem vq {α:Type}:∀{l:List α} {i:Nat} {x:α},l[i]?=some x->l.set i x=l
 | [],_,_,h=>by simp at h
 | a::l,0,x,h=>by
   have:a=x:=by simpa using h
   rw [this];rfl
 | a::l,i+1,x,h=>by rw [Pn,vq (by simpa using h)]
theorem Kh {α β:Type} {l:List α} {m:List β} {x:α} {y:β} (h1:(l.eraseIdx i)[j]?=some x) (h2:(m.eraseIdx i)[j]?=some y):∃k:Nat,l[k]?=some x/\m[k]?=some y:=by
 rw [List.getElem?_eraseIdx] at h1 h2
 by_cases c:j<i
 . rw [aC c] at h1 h2;exact ⟨j,h1,h2⟩
 . rw [aA c] at h1 h2;exact ⟨j+1,h1,h2⟩
theorem zA:∀(ts:List Int) (s:Int),pD s ts∣s/\∀t∈ts,pD s ts∣t
 | [],s=>⟨Int.dvd_refl _,fun _ h=>absurd h (by simp)⟩
 | t::ts,s=>by
   obtain ⟨h1,h2⟩:=zA ts (Jm.cf t s)
   refine ⟨Int.dvd_trans h1 (Jm.o6 t s),fun u hu=>?_⟩
   rcases c_.mp hu with rfl|hu
   . exact Int.dvd_trans h1 (Jm.qS u s)
   . exact h2 u hu
theorem zC:∀(ts:List Int) (s:Int),0<s->0<pD s ts
 | [],_,h=>h
 | t::ts,s,h=>zC ts _ (Jm.Dv t s (.inr h))
theorem GV {A:HA} (h:aV T n ρ A H st) (g:Gh ρ H) (c:ρ a=none) (e:H a=some o) (ht:isTup o=false):
  aV T n (cN ρ a (n,t,⟨#[]⟩)) A H st/\Gh (cN ρ a (n,t,⟨#[]⟩)) H:=
 ⟨h.same ⟨fun _ _ e=>e,fun b u x w _ hc he=>⟨he,by rw [b_ (fun z=>by rw [z,c] at hc;cases hc)];exact hc⟩⟩,g.color e ht⟩
theorem Fr.ya (f:Fr n ρ H ρ' H') (h:H a=none):Fr n ρ H (cN ρ' a (n,t,x)) H':=fun b o e k=>by
 obtain ⟨e1,e2⟩:=f b o e k
 exact ⟨e1,by rw [b_ (aH e h)];exact e2⟩
theorem GW {d a b:Int} (hd:0<d) (h:a<=d*b):a / d<=b:=by
 have:=Int.ediv_le_ediv hd h
 rwa [EO _ (by omega)] at this
theorem DT {s:Int} (h:1<=s):(fE st s).prod=st.prod*s:=by
 unfold fE
 by_cases c:1<s
 . rw [aC c]
 . rw [aA c,show s=1 by omega,Int.mul_one]
theorem vt (st:HS) (s:Int):(fE st s).ao=st.ao:=by unfold fE;split <;> rfl
theorem SK (st:HS) (s:Int):(fE st s).bM=st.bM:=by unfold fE;split <;> rfl
theorem SM (st:HS) (s:Int):(fE st s).cX=st.cX:=by unfold fE;split <;> rfl
theorem GX (st:HS) (s:Int):(fE st s).own=st.own:=by unfold fE;split <;> rfl
theorem SN (st:HS) (s:Int):(fE st s).nms=st.nms:=by unfold fE;split <;> rfl
theorem SQ (st:HS) (s:Int):(fE st s).kL=st.kL:=by unfold fE;split <;> rfl
theorem iD {α β γ:Type} {f:α->β->γ} {t:γ}:∀{xs:List α} {ys:List β},t∈List.zipWith f xs ys->∃(i:Nat) (x:α) (y:β),xs[i]?=some x/\ys[i]?=some y/\t=f x y:=fun {xs ys} h=>by
 obtain ⟨i,hi,e⟩:=tX h
 rw [qh] at hi
 have h1:i<xs.length:=by omega
 have h2:i<ys.length:=by omega
 exact ⟨i,xs[i],ys[i],aX h1,aX h2,by rw [<-e,List.getElem_zipWith]⟩
theorem Ou {α β γ:Type} {f:α->β->γ} {xs:List α} {ys:List β} {x:α} {y:β} (h1:xs[i]?=some x) (h2:ys[i]?=some y):(List.zipWith f xs ys)[i]?=some (f x y):=by
 rw [Pc,h1,h2]
theorem Ck {a b c:Int} (h:a<=b) (hc:0<=c):a*c<=b*c:=Rj h hc
structure qt (st:HS) (kept whole lost:Int) (added:List Int):Prop where
 k:0<kept
 l:0<=lost
 w:whole=kept+lost
 len:added.length=st.bM.length
 add:∀m∈added,0<=m/\m<=lost*st.prod
 prod:Jm.Sz 7900 st.prod
 big:Jm.Sz 60 whole
 cX:∀u∈st.cX,Jm.Sz 8900 u
 stp:st.stp.length<100
variable {lost:Int} {added:List Int}
theorem qt.dvds {kept whole:Int} (b:qt st kept whole lost added):
  0<cS st kept whole added/\cS st kept whole added∣whole/\(∀p∈st.ao,cS st kept whole added∣p.sc*kept)/\∀c∈fR st kept added,cS st kept whole added∣c:=by
 have hw:0<whole:=by have:=b.k;have:=b.l;have:=b.w;omega
 have d:=zA (iG st kept++fR st kept added) whole
 exact ⟨zC _ _ hw,d.1,fun p hp=>d.2 _ (ES _ (cD.mpr ⟨p,hp,Z⟩)),fun c hc=>d.2 _ (jy _ hc)⟩
theorem Kl {kept whole:Int} (wf:Wf st) (b:qt st kept whole lost added):Wf (cy st kept whole added):=by
 obtain ⟨hs,hsw,oZ,hsc⟩:=b.dvds
 have hk:=b.k
 have hl:=b.l
 have hw:=b.w
 have p1:=wf.iz
 have eB:cy st kept whole added=fE { st with ao:=st.ao.map (fun p=>{ p with sc:=p.sc*kept / cS st kept whole added }),bM:=(fR st kept added).map (· / cS st kept whole added),cX:=st.cX.map (·*(whole / cS st kept whole added)) } (whole / cS st kept whole added):=rfl
 rw [eB]
 generalize cS st kept whole added=d at *
 obtain ⟨s,es⟩:=hsw
 have hs1:1<=s:=by
  rcases Int.lt_trichotomy s 0 with z|z|z
  . have:=Int.mul_neg_of_pos_of_neg hs z;omega
  . rw [z,Int.mul_zero] at es;omega
  . omega
 have ed:whole / d=s:=by rw [es,EO _ (by omega)]
 rw [ed]
 have ajm:s<=whole:=by rw [es];have:=Rj (show 1<=d by omega) (show 0<=s by omega);omega
 have zs:Jm.Sz 60 s:=b.big.of_le (by omega)
 have zp:Jm.Sz 8000 (st.prod*s):=(b.prod.mul zs).mono (by decide)
 have pp:st.prod<=st.prod*s:=by have:=Gq hs1 (show 0<=st.prod by omega);omega
 have Vs:∀c∈(fR st kept added).map (· / d),0<=c/\c<=st.prod*s:=fun c hc=>by
  obtain ⟨x,hx,rfl⟩:=cD.mp hc
  obtain ⟨i,t,m,et,em,rfl⟩:=iD (show x∈List.zipWith (fun t m=>t*kept+m) st.bM added from hx)
  have ht:=wf.uf t (bV et)
  have hm:=b.add m (bV em)
  have a1:0<=t*kept:=lC ht.1 (by omega)
  have a2:t*kept<=st.prod*kept:=Ck ht.2 (by omega)
  have a3:st.prod*kept+lost*st.prod=d*(st.prod*s):=by
   rw [oS lost,<-oU,<-hw,es,<-iR,<-iR,oS st.prod d]
  exact ⟨Int.ediv_nonneg (by omega) (by omega),GW hs (by omega)⟩
 have sc':∀p∈st.ao,1<=p.sc*kept / d/\p.sc*kept / d<=st.prod*s/\d*(p.sc*kept / d)=p.sc*kept:=fun p hp=>by
  have h0:=wf.yC p hp
  obtain ⟨z,ez⟩:=oZ p hp
  have a1:0<p.sc*kept:=Int.mul_pos (by omega) hk
  have ez':p.sc*kept / d=z:=by rw [ez,EO _ (by omega)]
  have hz:1<=z:=by
   rcases Int.lt_trichotomy z 0 with y|y|y
   . have:=Int.mul_neg_of_pos_of_neg hs y;omega
   . rw [y,Int.mul_zero] at ez;omega
   . omega
  have a2:p.sc*kept<=st.prod*kept:=Ck h0.2 (by omega)
  have a3:st.prod*kept<=st.prod*whole:=Gq (by omega) (by omega)
  have a4:st.prod*whole=d*(st.prod*s):=by rw [es,<-iR,<-iR,oS st.prod d]
  refine ⟨by rw [ez'];exact hz,GW hs (by omega),by rw [ez',ez]⟩
 have P:∀{M:Pt->Prop},(∀p∈st.ao,M { p with sc:=p.sc*kept / d })->∀p∈st.ao.map (fun p=>{ p with sc:=p.sc*kept / d }),M p:=fun h p hp=>by
  obtain ⟨x,hx,rfl⟩:=cD.mp hp
  exact h x hx
 have top':∀p∈st.ao,∀t∈List.zipWith (fun r c=>(p.sc*kept / d)*r+c) p.row ((fR st kept added).map (· / d)),0<=t/\t<=st.prod*s:=fun p hp t ht=>by
  obtain ⟨i,r,c,er,ec,rfl⟩:=iD ht
  rw [bK] at ec
  obtain ⟨x,ex,rfl⟩:=lP.mp ec
  obtain ⟨y,ey⟩:=hsc x (bV ex)
  have eyd:x / d=y:=by rw [ey,EO _ (by omega)]
  have ex':(List.zipWith (fun t m=>t*kept+m) st.bM added)[i]?=some x:=ex
  rw [Pc] at ex'
  cases e1:st.bM[i]? with
  | none=>rw [e1] at ex';simp at ex'
  | some t0=>
    cases e2:added[i]? with
    | none=>rw [e1,e2] at ex';simp at ex'
    | some m=>
      rw [e1,e2] at ex'
      have ex2:t0*kept+m=x:=by simpa using ex'
      have hm:=b.add m (bV e2)
      have hT:=wf.Ff p hp (p.sc*r+t0) (bV (Ou (f:=fun r c=>p.sc*r+c) er e1))
      have hz:=(sc' p hp).2.2
      have key:d*((p.sc*kept / d)*r+x / d)=(p.sc*r+t0)*kept+m:=by
       rw [oU,<-iR,hz,eyd,<-ey,<-ex2]
       rw [Av,iR,iR,oS kept r]
       omega
      have k1:0<=(p.sc*r+t0)*kept:=lC hT.1 (by omega)
      have k2:(p.sc*r+t0)*kept<=st.prod*kept:=Ck hT.2 (by omega)
      have a3:st.prod*kept+lost*st.prod=d*(st.prod*s):=by
       rw [oS lost,<-oU,<-hw,es,<-iR,<-iR,oS st.prod d]
      generalize (p.sc*kept / d)*r+x / d=W at *
      constructor
      . rcases C6 W 0 with z|z
        . have:=Int.mul_neg_of_pos_of_neg hs z;omega
        . exact z
      . have:d*W<=d*(st.prod*s):=by omega
        exact Int.le_of_mul_le_mul_left this hs
 have nm':(st.ao.map (fun p:Pt=>{ p with sc:=p.sc*kept / d })).map (fun p:Pt=>p.nm)=st.ao.map (fun p:Pt=>p.nm):=by rw [iS];rfl
 have e0:(fR st kept added).length=st.bM.length:=by unfold fR;rw [qh,b.len];omega
 have pu':∀u∈st.cX.map (·*s),Jm.Sz 9000 u:=fun u hu=>by
  obtain ⟨x,hx,rfl⟩:=cD.mp hu
  exact ((b.cX x hx).mul zs).mono (by decide)
 have aaG:∀p∈st.ao,∀r∈p.row,-(st.prod*s)<=r/\r<=st.prod*s:=fun p hp r hr=>by have:=wf.vW p hp r hr;omega
 unfold fE
 by_cases c:1<s
 . rw [aC c]
   refine ⟨wf.ze,wf.Fd,by rw [nm'];exact wf.pA,P wf.sub,P wf.rows,P wf.ow,?_,?_,by show 1<=st.prod*s;omega,?_,fun x hx=>?_,wf.rT,wf.Fe,?_,?_,wf.Cf,fC _,zp,Vs,P fun p hp=>⟨(sc' p hp).1,(sc' p hp).2.1⟩,P aaG,P top',P wf.Bu,pu'⟩
   . show (List.map _ (fR st kept added)).length=_
     rw [aG,e0,wf.i7]
   . show (List.map _ st.cX).length=_
     rw [aG,wf.zf]
   . show st.prod*s=(st.stp++[s]).foldl (·*·) 1
     rw [Ye,<-wf.xX]
   . rcases gh.mp (show x∈st.stp++[s] from hx) with z|z
     . exact wf.Ce x z
     . rw [fZ.mp z];omega
   . show (List.map _ st.ao).length<=1000
     rw [aG];exact wf.vV
   . show (st.stp++[s]).length<=100
     rw [dg];exact b.stp
 . rw [aA c]
   have e1:s=1:=by omega
   subst e1
   rw [Int.mul_one] at Vs sc' aaG top'
   refine ⟨wf.ze,wf.Fd,by rw [nm'];exact wf.pA,P wf.sub,P wf.rows,P wf.ow,?_,?_,wf.iz,wf.xX,wf.Ce,wf.rT,wf.Fe,?_,wf.J1,wf.Cf,wf.WA,wf.big,Vs,P fun p hp=>⟨(sc' p hp).1,(sc' p hp).2.1⟩,P wf.vW,P fun p hp t ht=>?_,P wf.Bu,pu'⟩
   . show (List.map _ (fR st kept added)).length=_
     rw [aG,e0,wf.i7]
   . show (List.map _ st.cX).length=_
     rw [aG,wf.zf]
   . show (List.map _ st.ao).length<=1000
     rw [aG];exact wf.vV
   . exact top' p hp t ht
def yb (st:HS) (acc:List Int) (rs:List Row):List Int:=rs.foldl (fun s r=>List.zipWith (fun x t=>x+r.2*t) s (cC st (dI st r.1))) acc
theorem GY:∀(acc bM row:List Int) (a sc L:Int),List.zipWith (fun old own=>old+(a*sc)*own) (List.zipWith (fun s c=>s+(a+L)*c) acc bM) row=List.zipWith (fun s c=>s+L*c) (List.zipWith (fun x t=>x+a*t) acc (List.zipWith (fun r c=>sc*r+c) row bM)) bM
 | [],_,_,_,_,_=>by simp
 | _::_,[],_,_,_,_=>by simp
 | _::_,_::_,[],_,_,_=>by simp
 | x::acc,c::bM,r::row,a,sc,L=>by
   simp only [rM]
   rw [GY acc bM row a sc L]
   congr 1
   grind
theorem Km {st:HS}:∀(rs:List Row) (acc:List Int),rs.foldl (jA st) (List.zipWith (fun s c=>s+bD rs*c) acc st.bM)=List.zipWith (fun s c=>s+0*c) (yb st acc rs) st.bM
 | [],acc=>by show List.zipWith _ acc st.bM=_;rfl
 | r::rs,acc=>by
   rw [mz]
   have e:jA st (List.zipWith (fun s c=>s+bD (r::rs)*c) acc st.bM) r=List.zipWith (fun s c=>s+bD rs*c) (List.zipWith (fun x t=>x+r.2*t) acc (cC st (dI st r.1))) st.bM:=by
    unfold jA
    rw [show bD (r::rs)=r.2+bD rs from by unfold bD;rw [bJ,cQ]]
    exact GY acc st.bM (dI st r.1).row r.2 (dI st r.1).sc (bD rs)
   rw [e,Km rs]
   rfl
theorem GZ:∀(l:List Int) (L:Int),List.zipWith (fun s c=>s+L*c) (List.replicate l.length 0) l=l.map fun c=>L*c
 | [],_=>rfl
 | x::l,L=>by
   rw [kX,xE,rM,GZ l L,Int.zero_add]
   rfl
theorem Kn:∀(s l:List Int),s.length<=l.length->List.zipWith (fun s c=>s+0*c) s l=s
 | [],_,_=>by simp
 | _::_,[],h=>by simp at h
 | x::s,c::l,h=>by
   rw [rM,Kn s l (by simpa using h),Int.zero_mul,Int.add_zero]
theorem zH {st:HS}:∀(rs:List Row) (acc:List Int),(∀r∈rs,(cC st (dI st r.1)).length=acc.length)->(yb st acc rs).length=acc.length
 | [],_,_=>rfl
 | r::rs,acc,h=>by
   have e:(List.zipWith (fun x t=>x+r.2*t) acc (cC st (dI st r.1))).length=acc.length:=by rw [qh,h r cO];omega
   show (yb st (List.zipWith (fun x t=>x+r.2*t) acc (cC st (dI st r.1))) rs).length=_
   rw [zH rs _ (fun x hx=>by rw [e];exact h x (cI _ hx)),e]
theorem Bw {st:HS} (hP:0<=st.prod):∀(rs:List Row) (acc:List Int) (B:Int),(∀r∈rs,0<=r.2/\∀t∈cC st (dI st r.1),0<=t/\t<=st.prod)->(∀x∈acc,0<=x/\x<=B)->∀x∈yb st acc rs,0<=x/\x<=B+bD rs*st.prod
 | [],acc,B,_,ha,x,hx=>by
   have:=ha x hx
   show 0<=x/\x<=B+0*st.prod
   omega
 | r::rs,acc,B,h,ha,x,hx=>by
   have hr:=h r cO
   have:=Bw hP rs (List.zipWith (fun x t=>x+r.2*t) acc (cC st (dI st r.1))) (B+r.2*st.prod) (fun y hy=>h y (cI _ hy)) (fun y hy=>by
    obtain ⟨i,a,t,ea,et,rfl⟩:=iD hy
    have h1:=ha a (bV ea)
    have h2:=hr.2 t (bV et)
    have h3:0<=r.2*t:=lC hr.1 h2.1
    have h4:r.2*t<=r.2*st.prod:=Gq h2.2 hr.1
    omega) x hx
   rw [show bD (r::rs)=r.2+bD rs from by unfold bD;rw [bJ,cQ],Av]
   omega
theorem yc (wf:Wf st) (h:p∈st.ao):(cC st p).length=st.bM.length:=by
 unfold cC
 rw [qh,wf.rows p h,wf.i7]
 omega
theorem nR (wf:Wf st) (h:p∈st.ao) (e:p.nm=x):dI st x=p:=by
 obtain ⟨i,hi,ei⟩:=tX h
 rw [<-e]
 exact Oq wf.pA (i:=i) (by rw [aX hi,ei])
theorem G0 (wf:Wf st) (h:∀r∈rs,∃p∈st.ao,p.nm=r.1):fV st rs=yb st (List.replicate st.bM.length 0) rs:=by
 unfold fV
 rw [<-GZ st.bM (bD rs),Km]
 refine Kn _ _ ?_
 rw [zH rs _ (fun r hr=>by
  obtain ⟨p,hp,e⟩:=h r hr
  rw [nR wf hp e,jz,yc wf hp]),jz]
 exact aO _
theorem SR (wf:Wf st) (h:∀r∈rs,1<=r.2/\∃p∈st.ao,p.nm=r.1):(fV st rs).length=st.bM.length/\∀m∈fV st rs,0<=m/\m<=bD rs*st.prod:=by
 rw [G0 wf (fun r hr=>(h r hr).2)]
 have p1:=wf.iz
 constructor
 . rw [zH rs _ (fun r hr=>by
    obtain ⟨p,hp,e⟩:=(h r hr).2
    rw [nR wf hp e,jz,yc wf hp]),jz]
 . intro m hm
   have:=Bw (st:=st) (by omega) rs (List.replicate st.bM.length 0) 0 (fun r hr=>by
    obtain ⟨h1,p,hp,e⟩:=h r hr
    refine ⟨by omega,?_⟩
    rw [nR wf hp e]
    exact wf.Ff p hp) (fun x hx=>by rw [(List.mem_replicate.mp hx).2];omega) m hm
   omega
theorem Qt {ps:List Pt} {a:Int} (h:p∈ps) (hn:p.nm≠x) (hw:p.wo≠0):p∈nC ps x a:=
 oQ.mpr ⟨cD.mpr ⟨p,h,by rw [aA hn]⟩,cG hw⟩
theorem Cm {ps:List Pt} {a:Int} (h:p∈nC ps x a):p.wo≠0/\∃q∈ps,p=if q.nm=x then { q with wo:=q.wo-a } else q:=by
 obtain ⟨h1,h2⟩:=oQ.mp h
 obtain ⟨q,hq,e⟩:=cD.mp h1
 exact ⟨eE h2,q,hq,e.symm⟩
theorem DU {ps:List Pt} {a:Int}:((nC ps x a).map (fun p:Pt=>p.nm)).Sublist (ps.map (fun p:Pt=>p.nm)):=by
 unfold nC
 have e:(ps.map fun p=>if p.nm=x then { p with wo:=p.wo-a } else p).map (fun p:Pt=>p.nm)=ps.map (fun p:Pt=>p.nm):=by
  rw [iS]
  exact Pf fun p _=>by show (if p.nm=x then _ else p:Pt).nm=p.nm;split <;> rfl
 rw [<-e]
 exact List.filter_sublist.map _
theorem Yh (wf:Wf st) {r:Row} (h:∀p∈st.ao,p.nm=r.1->r.2<=p.wo):Wf (fY st r):=by
 have P:∀{M:Pt->Prop},(∀p∈st.ao,M p)->(∀(p:Pt) (w:Int),M p->M { p with wo:=w })->∀p∈nC st.ao r.1 r.2,M p:=fun h1 h2 p hp=>by
  obtain ⟨_,q,hq,e⟩:=Cm hp
  rw [e]
  split
  . exact h2 _ _ (h1 q hq)
  . exact h1 q hq
 refine ⟨wf.ze,wf.Fd,wf.pA.sublist DU,P wf.sub (fun _ _ z=>z),P wf.rows (fun _ _ z=>z),P wf.ow (fun _ _ z=>z),wf.i7,wf.zf,wf.iz,wf.xX,wf.Ce,wf.rT,wf.Fe,?_,wf.J1,wf.Cf,wf.WA,wf.big,wf.uf,P wf.yC (fun _ _ z=>z),P wf.vW (fun _ _ z=>z),P wf.Ff (fun _ _ z=>z),fun p hp=>?_,wf.Qp⟩
 . have:=DU (ps:=st.ao) (x:=r.1) (a:=r.2) |>.length_le
   rw [aG,aG] at this
   exact fQ this wf.vV
 . obtain ⟨h0,q,hq,e⟩:=Cm hp
   have:=wf.Bu q hq
   by_cases c:q.nm=r.1
   . rw [aC c] at e
     subst e
     have:=h q hq c
     have h0:q.wo-r.2≠0:=h0
     exact ⟨by show 1<=q.wo-r.2;omega,by show 0<=q.we;omega⟩
   . rw [aA c] at e
     rw [e];exact this
def Due (st:HS) (rs:List Row):Prop:=∀r∈rs,∃p∈st.ao,p.nm=r.1/\r.2<=p.wo
theorem Ov (wf:Wf st) {q:Pt} (hp:p∈st.ao) (hq:q∈st.ao) (e:p.nm=q.nm):p=q:=(nR wf hp rfl).symm.trans (by rw [e];exact nR wf hq rfl)
theorem aaH (wf:Wf st) {r:Row} (d:Due st (r::rs)):Wf (fY st r):=by
 obtain ⟨p,hp,e,hle⟩:=d r cO
 exact Yh wf fun q hq eq=>by rw [Ov wf hq hp (eq.trans e.symm)];exact hle
theorem Vt (wf:Wf st) {r:Row} (d:Due st (r::rs)) (nd:((r::rs).map (fun r:Row=>r.1)).Nodup):Due (fY st r) rs:=fun x hx=>by
 obtain ⟨p,hp,e,hle⟩:=d x (cI _ hx)
 have hn:p.nm≠r.1:=fun z=>(iQ.mp nd).1 (cD.mpr ⟨x,hx,e.symm.trans z⟩)
 have:=wf.Bu p hp
 exact ⟨p,Qt hp hn (by omega),e,hle⟩
theorem SS {kept whole:Int} (d:Due st rs):Due (cy st kept whole added) rs:=fun r hr=>by
 obtain ⟨p,hp,e,hle⟩:=d r hr
 refine ⟨{ p with sc:=p.sc*kept / cS st kept whole added },?_,e,hle⟩
 unfold cy
 rw [vt]
 exact cD.mpr ⟨p,hp,Z⟩
theorem pF.due (c:pF st rs):Due st rs:=fun r hr=>(c.row r hr).2.2
theorem Co:∀{rs:List Row},(∀r∈rs,1<=r.2)->0<=bD rs
 | [],_=>lD _
 | r::rs,h=>by
   have:=h r cO
   have:=Co (rs:=rs) fun x hx=>h x (cI _ hx)
   rw [show bD (r::rs)=r.2+bD rs from by unfold bD;rw [bJ,cQ]]
   omega
theorem pF.blend (wf:Wf st) (c:pF st rs):qt st (aS st-bD rs) (aS st) (bD rs) (fV st rs):=by
 have g:=SR wf (rs:=rs) (fun r hr=>⟨(c.row r hr).1,by obtain ⟨p,hp,e,_⟩:=(c.row r hr).2.2;exact ⟨p,hp,e⟩⟩)
 have l0:=Co (rs:=rs) fun r hr=>(c.row r hr).1
 have:=c.lost
 exact ⟨by omega,l0,by omega,g.1,g.2,c.prod,c.big,c.cX,c.stp⟩
structure BP where
 nm:Str
 ow:Str
 wo:Int
 we:Int
 tops:List Int
structure BE where
 nm:Str
 ow:Str
 wo:Int
 tops:List Int
 bot:Int
structure BS where
 own:List Str
 ao:List BP
 bot:Int
 kL:List BE
 eL:List Str
structure BA where
 m:Addr
 lo:Addr
 lp:Addr
 la:Addr
 lk:Addr
 qs:List (Addr×Addr)
def fF (B:BA) (bot:Int):List (Key×V):=[(Sum.inr "owners", .ref B.lo),(Sum.inr "parts", .ref B.lp),(Sum.inr "bottom", .int bot),(Sum.inr "ashore", .ref B.la),(Sum.inr "known", .ref B.lk)]
def oJ (p:BP) (t:Addr):HO:= .lst [.str p.nm, .str p.ow, .int p.wo, .int p.we, .ref t]
inductive Cp (n:Nat) (ρ:fU) (H:Hp):List V->List BE->Prop
 | nil:Cp n ρ H [] []
 | cons {r t:Addr} {e:BE} {vs:List V} {es:List BE}:H r=some (.lst [.str e.nm, .str e.ow, .int e.wo, .ref t, .int e.bot])->ρ r=some (n,27,e.nm)->H t=some (.lst (e.tops.map V.int))->ρ t=some (n,28,e.nm)->Cp n ρ H vs es->Cp n ρ H (.ref r::vs) (e::es)
structure a_ (n:Nat) (ρ:fU) (B:BA) (H:Hp) (b:BS):Prop where
 om:H B.m=some (.dK (fF B b.bot))
 cm:ρ B.m=some (n,20,⟨#[]⟩)
 oo:H B.lo=some (.lst (b.own.map V.str))
 co:ρ B.lo=some (n,21,⟨#[]⟩)
 op:H B.lp=some (.lst (B.qs.map fun q=>V.ref q.1))
 cp:ρ B.lp=some (n,22,⟨#[]⟩)
 oa:∃vs,H B.la=some (.lst vs)/\Cp n ρ H vs b.kL
 ca:ρ B.la=some (n,25,⟨#[]⟩)
 ok:H B.lk=some (.lst (b.eL.map V.str))
 ck:ρ B.lk=some (n,26,⟨#[]⟩)
 ql:B.qs.length=b.ao.length
 pt:∀(i:Nat) (p:BP) (q:Addr×Addr),b.ao[i]?=some p->B.qs[i]?=some q->H q.1=some (oJ p q.2)/\H q.2=some (.lst (p.tops.map V.int))/\ρ q.1=some (n,23,p.nm)/\ρ q.2=some (n,24,p.nm)
theorem Cp.keep {l:List BE} (h:Cp n ρ H vs l) (k:Kp n ρ ρ' H H' ts) (e1:ts 27=true) (e2:ts 28=true):Cp n ρ' H' vs l:=by
 induction h with
 | nil=>exact .nil
 | cons a b c d _ ih=>exact .cons (k.2 _ _ _ _ e1 b a).1 (k.2 _ _ _ _ e1 b a).2 (k.2 _ _ _ _ e2 d c).1 (k.2 _ _ _ _ e2 d c).2 ih
variable {B:BA} {b:BS}
theorem a_.same (h:a_ n ρ B H b) (k:Kp n ρ ρ' H H' fun _=>true):a_ n ρ' B H' b:=by
 have z:=fun {b:Addr} {t:Nat} {x:Str} {o:HO} (c:ρ b=some (n,t,x)) (e:H b=some o)=>k.2 b t x o rfl c e
 obtain ⟨vs,h1,h2⟩:=h.oa
 exact ⟨(z h.cm h.om).1,(z h.cm h.om).2,(z h.co h.oo).1,(z h.co h.oo).2,(z h.cp h.op).1,(z h.cp h.op).2,⟨vs,(z h.ca h1).1,h2.keep k rfl rfl⟩,(z h.ca h1).2,(z h.ck h.ok).1,(z h.ck h.ok).2,h.ql,
  fun i p q e1 e2=>let ⟨a,b,c,d⟩:=h.pt i p q e1 e2;⟨(z c a).1,(z d b).1,(z c a).2,(z d b).2⟩⟩
theorem a_.mono (h:a_ n ρ B H b) (s:aF H H'):a_ n ρ B H' b:=h.same (N_ s)
theorem a_.other (h:a_ m ρ B H b) (f:Fr n ρ H ρ' H') (g:Gh ρ H) (e:m≠n):a_ m ρ' B H' b:=
 h.same ⟨fun b xs q=>(f b _ q fun t x=>by rw [g.tup q];intro z;cases z).1,fun b t x o _ c q=>by
   obtain ⟨a,b'⟩:=f b o q fun t' x'=>by rw [c];intro z;cases z;exact e rfl
   exact ⟨a,b'.trans c⟩⟩
theorem a_.col (h:a_ n ρ B H b) (c:ρ a=none):a_ n (cN ρ a (n,t,x)) B H b:=
 h.same ⟨fun _ _ e=>e,fun b u y w _ hc he=>⟨he,by rw [b_ (fun z=>by rw [z,c] at hc;cases hc)];exact hc⟩⟩
theorem a_.find (h:a_ n ρ B H b) {p:BP} (e:b.ao[i]?=some p):∃q,B.qs[i]?=some q/\H q.1=some (oJ p q.2)/\H q.2=some (.lst (p.tops.map V.int))/\ρ q.1=some (n,23,p.nm)/\ρ q.2=some (n,24,p.nm):=by
 have hi:i<B.qs.length:=by rw [h.ql];exact (eU.mp e).1
 exact ⟨B.qs[i],aX hi,h.pt i p _ e (aX hi)⟩
theorem a_.Yi (h:a_ n ρ B H b) (g:Gh ρ H) (x:Int):a_ n ρ B (upd H B.m (.dK (fF B x))) { b with bot:=x }:=by
 have k:=fB (o:= .dK (fF B x)) g h.cm
 obtain ⟨vs,h1,h2⟩:=h.oa
 exact ⟨ah,h.cm,kz k h.co h.oo,h.co,kz k h.cp h.op,h.cp,⟨vs,kz k h.ca h1,h2.keep k (by decide) (by decide)⟩,h.ca,kz k h.ck h.ok,h.ck,h.ql,
  fun i p q e1 e2=>let ⟨a,b,c,d⟩:=h.pt i p q e1 e2;⟨kz k c a,kz k d b,c,d⟩⟩
theorem a_.y_ (h:a_ n ρ B H b) (g:Gh ρ H) {p0 p1:BP} {q0:Addr×Addr} {t1:Addr} (ep:b.ao[i]?=some p0) (eq:B.qs[i]?=some q0) (e1:p1.nm=p0.nm) (nd:(b.ao.map (fun p:BP=>p.nm)).Nodup)
  (ht:H t1=some (.lst (p1.tops.map V.int))) (ct:ρ t1=some (n,24,p1.nm)):a_ n ρ { B with qs:=B.qs.set i (q0.1,t1) } (upd H q0.1 (oJ p1 t1)) { b with ao:=b.ao.set i p1 }:=by
 obtain ⟨x1,x2,x3,x4⟩:=h.pt i p0 q0 ep eq
 have k:=fB (o:=oJ p1 t1) g x3
 obtain ⟨vs,h1,h2⟩:=h.oa
 have hi:i<B.qs.length:=(eU.mp eq).1
 have hi2:i<b.ao.length:=(eU.mp ep).1
 have em:(B.qs.set i (q0.1,t1)).map (fun q=>V.ref q.1)=B.qs.map fun q=>V.ref q.1:=by
  rw [vg]
  exact vq (by rw [bK,eq];rfl)
 refine ⟨kz k h.cm h.om,h.cm,kz k h.co h.oo,h.co,?_,h.cp,⟨vs,kz k h.ca h1,h2.keep k (by decide) (by decide)⟩,h.ca,kz k h.ck h.ok,h.ck,?_,fun j p q By Ow=>?_⟩
 . show upd H q0.1 _ B.lp=some (.lst ((B.qs.set i (q0.1,t1)).map _))
   rw [em];exact kz k h.cp h.op
 . show (B.qs.set i (q0.1,t1)).length=(b.ao.set i p1).length
   rw [lB,lB];exact h.ql
 . have By:(b.ao.set i p1)[j]?=some p:=By
   have Ow:(B.qs.set i (q0.1,t1))[j]?=some q:=Ow
   by_cases hj:i=j
   . subst hj
     rw [tU hi2] at By
     rw [tU hi] at Ow
     cases By;cases Ow
     exact ⟨ah,kz k ct ht,by rw [e1];exact x3,ct⟩
   . rw [yN hj] at By Ow
     obtain ⟨a1,a2,a3,a4⟩:=h.pt j p q By Ow
     have hnm:p.nm≠p0.nm:=fun e=>by
      have hj2:j<b.ao.length:=(eU.mp By).1
      have r1:(b.ao.map (fun p:BP=>p.nm))[j]?=some p.nm:=by rw [bK,By];rfl
      have r2:(b.ao.map (fun p:BP=>p.nm))[i]?=some p0.nm:=by rw [bK,ep];rfl
      have Ox:j<(b.ao.map (fun p:BP=>p.nm)).length:=by rw [aG];exact hj2
      exact hj ((Px Ox nd).mp (r1.trans (by rw [e];exact r2.symm))).symm
     have hq:q.1≠q0.1:=fun e=>by rw [e,x3] at a3;exact hnm (h_ (fun c:sX=>c.2.2) (iy a3)).symm
     exact ⟨by rw [av hq];exact a1,kz k a4 a2,a3,a4⟩
theorem a_.aaI (h:a_ n ρ B H b) (g:Gh ρ H) {lp:Addr} {qs:List (Addr×Addr)} {ps:List BP} (e:H lp=some (.lst (qs.map fun q=>V.ref q.1))) (c:ρ lp=some (n,22,⟨#[]⟩)) (hl:qs.length=ps.length)
  (hp:∀(i:Nat) (p:BP) (q:Addr×Addr),ps[i]?=some p->qs[i]?=some q->H q.1=some (oJ p q.2)/\H q.2=some (.lst (p.tops.map V.int))/\ρ q.1=some (n,23,p.nm)/\ρ q.2=some (n,24,p.nm)):
  a_ n ρ { { B with lp:=lp } with qs:=qs } (upd H B.m (.dK (fF { B with lp:=lp } b.bot))) { b with ao:=ps }:=by
 have k:=fB (o:= .dK (fF { B with lp:=lp } b.bot)) g h.cm
 obtain ⟨vs,h1,h2⟩:=h.oa
 exact ⟨ah,h.cm,kz k h.co h.oo,h.co,kz k c e,c,⟨vs,kz k h.ca h1,h2.keep k (by decide) (by decide)⟩,h.ca,kz k h.ck h.ok,h.ck,hl,
  fun i p q e1 e2=>let ⟨a,b,c,d⟩:=hp i p q e1 e2;⟨kz k c a,kz k d b,c,d⟩⟩
theorem a_.aaJ (h:a_ n ρ B H b) (g:Gh ρ H) {p:BP} {q:Addr×Addr} (e1:H q.1=some (oJ p q.2)) (e2:H q.2=some (.lst (p.tops.map V.int))) (c1:ρ q.1=some (n,23,p.nm)) (c2:ρ q.2=some (n,24,p.nm)):
  a_ n ρ { B with qs:=B.qs++[q] } (upd H B.lp (.lst ((B.qs++[q]).map fun q=>V.ref q.1))) { b with ao:=b.ao++[p] }:=by
 have k:=fB (o:= .lst ((B.qs++[q]).map fun q=>V.ref q.1)) g h.cp
 obtain ⟨vs,h1,h2⟩:=h.oa
 refine ⟨kz k h.cm h.om,h.cm,kz k h.co h.oo,h.co,ah,h.cp,⟨vs,kz k h.ca h1,h2.keep k (by decide) (by decide)⟩,h.ca,kz k h.ck h.ok,h.ck,?_,fun i x y ex ey=>?_⟩
 . show (B.qs++[q]).length=(b.ao++[p]).length
   rw [dg,dg,h.ql];rfl
 . have ex:(b.ao++[p])[i]?=some x:=ex
   have ey:(B.qs++[q])[i]?=some y:=ey
   by_cases c:i<b.ao.length
   . rw [Jh c] at ex
     rw [Jh (by rw [h.ql];exact c)] at ey
     obtain ⟨a1,a2,a3,a4⟩:=h.pt i x y ex ey
     exact ⟨kz k a3 a1,kz k a4 a2,a3,a4⟩
   . have hi:i=b.ao.length:=by
      have:=(eU.mp ex).1
      rw [dg] at this
      have:i<b.ao.length+1:=this
      omega
     subst hi
     rw [Jg (aO _),Au] at ex
     rw [Jg (by rw [h.ql];exact aO _),h.ql,Au] at ey
     cases ex;cases ey
     exact ⟨kz k c1 e1,kz k c2 e2,c1,c2⟩
theorem a_.Yj (h:a_ n ρ B H b) (g:Gh ρ H) (l:List Str):a_ n ρ B (upd H B.lk (.lst (l.map V.str))) { b with eL:=l }:=by
 have k:=fB (o:= .lst (l.map V.str)) g h.ck
 obtain ⟨vs,h1,h2⟩:=h.oa
 exact ⟨kz k h.cm h.om,h.cm,kz k h.co h.oo,h.co,kz k h.cp h.op,h.cp,⟨vs,kz k h.ca h1,h2.keep k (by decide) (by decide)⟩,h.ca,ah,h.ck,h.ql,
  fun i p q e1 e2=>let ⟨a,b,c,d⟩:=h.pt i p q e1 e2;⟨kz k c a,kz k d b,c,d⟩⟩
structure Vu (K:Fg) (H:Hp) (us:List V) (ws:List Row):Prop where
 len:us.length=ws.length
 at_:∀(i:Nat) (r:Row),ws[i]?=some r->∃a xs,us[i]?=some (.ref a)/\Sq K H a xs/\xs[0]?=some (.str r.1)/\xs[2]?=some (.int r.2)
def vv (b:BS):List Row:=b.ao.map fun p=>(p.nm,p.wo)
theorem a_.nw (h:a_ n ρ B H b):Vu K H (B.qs.map fun q=>V.ref q.1) (vv b):=by
 refine ⟨by unfold vv;rw [aG,aG];exact h.ql,fun i r e=>?_⟩
 unfold vv at e
 rw [bK] at e
 obtain ⟨p,ep,rfl⟩:=lP.mp e
 obtain ⟨q,eq,a1,_⟩:=h.find ep
 exact ⟨q.1,_,by rw [bK,eq];rfl, .inl (aB.of a1),Z,Z⟩
def bh (b:BS):Int:=(b.ao.map fun p=>p.wo).sum
theorem G1:∀{l:List Str} {o:Str},o∈l->l[l.idxOf o]?=some o
 | [],_,h=>by simp at h
 | x::l,o,h=>by
   by_cases e:x=o
   . subst e;simp
   . have ho:o∈l:=by
      rcases c_.mp h with z|z
      . exact absurd z.symm e
      . exact z
     rw [List.idxOf_cons,show (x==o)=false from ET.mpr e]
     simpa using G1 ho
inductive aaK (K:Fg) (vs:List V) (H:Hp) (Q:VK) (E:XK):Prop
 | mk (l:Addr) (own:List Str) (n:Nat) (ρ:fU) (_:vs=[.ref l]) (_:aB K H l (own.map V.str)) (_:Gh ρ H) (_:own.length<=1000) (_:∀ρ' B H',Gh ρ' H'->a_ n ρ' B H' ⟨own,[],1,[],[]⟩->(∀b o,H b=some o->H' b=some o/\ρ' b=ρ b)->Q (.ref B.m) H')
def Oz (K:Fg):Sp:=bx (aaK K)
inductive ac9 (K:Fg) (vs:List V) (H:Hp) (Q:VK) (E:XK):Prop
 | mk (l:Addr) (own:List Str) (o:Str) (_:vs=[.ref l, .str o]) (_:aB K H l (own.map V.str)) (_:o∈own) (_:own.length<=1000) (_:Q (.int (own.idxOf o:Int)) H)
def Ko (K:Fg):Sp:=bx (ac9 K)
def yd (b:BS) (x o:Str) (wo we:Int):BS:={ b with ao:=b.ao++[⟨x,o,wo,we,(List.replicate b.own.length 0).set (b.own.idxOf o) b.bot⟩],eL:=b.eL++[x] }
inductive Vv (vs:List V) (H:Hp) (Q:VK) (E:XK):Prop
 | mk (n ρ B b:_) (x o:Str) (wo we:Int) (_:vs=[.ref B.m, .str x, .str o, .int wo, .int we]) (_:Gh ρ H) (_:a_ n ρ B H b) (_:o∈b.own) (_:b.own.length<=1000) (_:b.ao.length<=1000) (_:b.eL.length<=1000) (_:∀ρ' B' H',Gh ρ' H'->a_ n ρ' B' H' (yd b x o wo we:_)->B'.m=B.m->Fr n ρ H ρ' H'->Q .bU H')
def G_:Sp:=bx (Vv)
inductive ags (K:Fg) (vs:List V) (H:Hp) (Q:VK) (E:XK):Prop
 | mk (l:Addr) (us:List V) (ws:List Row) (i:Nat) (r:Row) (_:vs=[.ref l, .str r.1]) (_:aB K H l us) (_:Vu K H us ws) (_:(ws.map (fun r:Row=>r.1)).Nodup) (_:ws.length<=1000) (_:ws[i]?=some r) (_:Q (.int (i:Int)) H)
def WG (K:Fg):Sp:=bx (ags K)
structure SV (ws rs:List Row):Prop where
 nd:(rs.map (fun r:Row=>r.1)).Nodup
 row:∀r∈rs,1<=r.2/\r.2<=1000000000/\∃w∈ws,w.1=r.1/\r.2<=w.2
 lost:bD rs<bD ws\/rs=[]
 len:rs.length<=ws.length
inductive aaL (K:Fg) (vs:List V) (H:Hp) (Q:VK) (E:XK):Prop
 | mk (a l:Addr) (ns:List Int) (k:Int) (us:List V) (ws:List Row) (_:vs=[.ref a, .int k, .ref l]) (_:aB K H a (ns.map V.int)) (_:ns.length<=63) (_:0<=k) (_:k<=1000000) (_:aB K H l us) (_:Vu K H us ws) (_:(ws.map (fun r:Row=>r.1)).Nodup) (_:ws.length<=1000) (_:(∀w∈ws,1<=w.2)) (_:∀z zs rs H',aF H H'->H z=none->H' z=some (.lst zs)->gk H' zs rs->SV ws rs->Q (.ref z) H')
def OA (K:Fg):Sp:=bx (aaL K)
section
variable {X:Cx}
def uh (i j k:Int):Int:=if j<i then (if k<j then k else j) else (if k<i then k else i)
theorem Yk (i j k:Int):uh i j k<=i/\uh i j k<=j/\uh i j k<=k:=by unfold uh;split <;> split <;> omega
theorem Yl {i j k m:Int} (h1:m<=i) (h2:m<=j) (h3:m<=k):m<=uh i j k:=by unfold uh;split <;> split <;> omega
theorem SW (hc:X.calm=true):gj X (.builtin "min") (fun xs H Q=>∃i j k,xs=[.int i, .int j, .int k]/\Q (.int (uh i j k)) H):=by
 intro pins s σ H xs us Q I r h
 obtain ⟨i,j,k,rfl,q⟩:=h
 obtain ⟨u,us,rfl,⟨t,rfl⟩,r2⟩:∃u us',us=u::us'/\RelV (.int i) u/\Vals [.int j, .int k] us':=by cases r with|cons a b=>exact ⟨_,_,rfl,a,b⟩
 obtain ⟨u2,u3,rfl,⟨t',rfl⟩,⟨t'',rfl⟩⟩:=vals2 r2
 refine min_three_ints (I.ok.hd hc) fun h' tk kk=>⟨_,H,I.kept kk,?_,q⟩
 unfold uh
 by_cases hj:j<i
 . rw [aC hj,aC hj]
   by_cases hk:k<j
   . rw [aC hk,aC hk];exact ⟨_,Z⟩
   . rw [aA hk,aA hk];exact ⟨_,Z⟩
 . rw [aA hj,aA hj]
   by_cases hk:k<i
   . rw [aC hk,aC hk];exact ⟨_,Z⟩
   . rw [aA hk,aA hk];exact ⟨_,Z⟩
end
def k_ (given:List Int) (kept:Int) (p:BP) (a:Int):BP:={ p with tops:=List.zipWith (fun t g=>t*kept+g) p.tops given,wo:=p.wo-a }
def gK (ps:List BP) (as:List Int) (i:Nat):Int:=(List.zipWith (fun (p:BP) (a:Int)=>p.tops.getD i 0*a) ps as).sum
def fL (b:BS) (as:List Int):List Int:=(List.range b.own.length).map (gK b.ao as)
def f_ (b:BS) (as:List Int) (seat:Nat) (aw:Int):List Int:=if 0<aw then (fL b as).set seat ((fL b as).getD seat 0+aw*b.bot) else fL b as
def cZ (b:BS) (as:List Int) (seat:Nat) (aw:Int):List BP:=List.zipWith (k_ (f_ b as seat aw) (bh b-aw-as.sum)) b.ao as
def gQ (b:BS) (as:List Int) (seat:Nat) (aw:Int):BS:={ b with bot:=b.bot*bh b,ao:=(cZ b as seat aw).filter fun p=>decide (0<p.wo) }
structure vz (b:BS):Prop where
 nd:(b.ao.map (fun p:BP=>p.nm)).Nodup
 tl:∀p∈b.ao,p.tops.length=b.own.length
 t0:∀p∈b.ao,∀t∈p.tops,0<=t/\t<=b.bot
 b1:1<=b.bot
 bz:Jm.Sz 7000 b.bot
 w1:∀p∈b.ao,1<=p.wo
 ol:b.own.length<=100
 pl:b.ao.length<=1000
 kl:b.eL.length<=1000
structure jU (b:BS) (as:List Int) (seat:Nat) (aw:Int):Prop where
 len:as.length=b.ao.length
 a0:∀a∈as,0<=a
 seat:seat<b.own.length
 BC:0<=aw
 kept:0<bh b-aw-as.sum
 big:Jm.Sz 60 (bh b)
inductive ac_ (K:Fg) (vs:List V) (H:Hp) (Q:VK) (E:XK):Prop
 | mk (n ρ B b:_) (l:Addr) (as:List Int) (seat:Nat) (aw:Int) (_:vs=[.ref B.m, .ref l, .int (seat:Int), .int aw]) (_:Gh ρ H) (_:a_ n ρ B H b) (_:vz b) (_:aB K H l (as.map V.int)) (_:ρ l=none) (_:jU b as seat aw) (_:∀ρ' B' H',Gh ρ' H'->a_ n ρ' B' H' (gQ b as seat aw:_)->B'.m=B.m->Fr n ρ H ρ' H'->Q .bU H')
def Kq (K:Fg):Sp:=bx (ac_ K)
variable {as:List Int} {seat:Nat}
theorem vA {aw:Int} (h:as.length=b.ao.length):(cZ b as seat aw).length=b.ao.length:=by
 unfold cZ;rw [qh,h];omega
theorem Kr {aw:Int} {p:BP} {a:Int} (h1:b.ao[i]?=some p) (h2:as[i]?=some a):(cZ b as seat aw)[i]?=some (k_ (f_ b as seat aw) (bh b-aw-as.sum) p a):=Ou h1 h2
theorem vB (h:∀a∈as,0<=a):∀{x:Int},x∈as->x<=as.sum:=by
 induction as with
 | nil=>intro x hx;simp at hx
 | cons a l ih=>
   intro x hx
   have h0:=h a cO
   have hl:0<=l.sum:=by
    clear ih hx
    have:∀(l:List Int),(∀a∈l,0<=a)->0<=l.sum:=fun l=>by
     induction l with
     | nil=>intro _;exact lD _
     | cons a l ih=>intro h;rw [cQ];have:=h a cO;have:=ih fun x hx=>h x (cI _ hx);omega
    exact this l fun x hx=>h x (cI _ hx)
   rw [cQ]
   rcases c_.mp hx with e|e
   . omega
   . have:=ih (fun y hy=>h y (cI _ hy)) e
     omega
theorem kr (b:BS) (as:List Int):(fL b as).length=b.own.length:=by unfold fL;rw [aG,BZ]
theorem um (b:BS) (as:List Int) (seat:Nat) (aw:Int):(f_ b as seat aw).length=b.own.length:=by
 unfold f_;split
 . rw [lB,kr]
 . exact kr b as
theorem Ks {ps:List BP} {p:BP} {a:Int} (h1:ps[j]?=some p) (h2:as[j]?=some a):(List.zipWith (fun (p:BP) (a:Int)=>p.tops.getD i 0*a) (ps.take (j+1)) (as.take (j+1)))=List.zipWith (fun (p:BP) (a:Int)=>p.tops.getD i 0*a) (ps.take j) (as.take j)++[p.tops.getD i 0*a] :=oF _ h1 h2
theorem Ym {α:Type} {xs ys:List α} {p:α} (hx:i<=xs.length) (h:ys[i]?=some p):(xs.take i++ys.drop i)[i]?=some p:=by
 have hl:(xs.take i).length=i:=by rw [kY];omega
 rw [Jg (by omega),hl,Au,List.getElem?_drop]
 exact h
theorem Yn {α:Type} {xs ys:List α} {x:α} (hx:xs[i]?=some x) (hy:i<ys.length):(xs.take i++ys.drop i).set i x=xs.take (i+1)++ys.drop (i+1):=by
 have hi:=(eU.mp hx).1
 have hl:(xs.take i).length=i:=by rw [kY];omega
 rw [List.set_append_right _ _ (by omega),hl,Au,O5 hy,Po,take_snoc hx,Jo]
 rfl
theorem SX {b:BS} {as:List Int} {aw:Int} (h:as.length=b.ao.length) (i:Nat):((cZ b as seat aw).take i++b.ao.drop i).map (fun p:BP=>p.nm)=b.ao.map (fun p:BP=>p.nm):=by
 have e:(cZ b as seat aw).map (fun p:BP=>p.nm)=b.ao.map (fun p:BP=>p.nm):=by
  unfold cZ
  generalize f_ b as seat aw=g
  generalize bh b-aw-as.sum=k
  generalize b.ao=ps at *
  clear b
  induction ps generalizing as with
  | nil=>rfl
  | cons p ps ih=>
    cases as with
    | nil=>simp at h
    | cons a as=>
      rw [rM,bJ,bJ,ih (by simpa using h)]
      rfl
 rw [bF,Aq,e,<-Aq,<-bF,List.take_append_drop]
theorem SY (B:BA) (x y:Int):putK (fF B x) (Sum.inr "bottom") (.int y)=fF B y:=rfl
theorem Vw (B:BA) (x:Int) (l:Addr):putK (fF B x) (Sum.inr "parts") (.ref l)=fF { B with lp:=l } x:=rfl
def ku:List BP->List (Addr×Addr)->List (Addr×Addr)
 | p::ps,q::qs=>if 0<p.wo then q::ku ps qs else ku ps qs
 | _,_=>[]
theorem Hf:∀{ps:List BP} {qs:List (Addr×Addr)},qs.length=ps.length->(ku ps qs).length=(ps.filter fun p=>decide (0<p.wo)).length
 | [],[],_=>rfl
 | [],_::_,h=>by simp at h
 | _::_,[],h=>by simp at h
 | p::ps,q::qs,h=>by
   have ih:=Hf (ps:=ps) (qs:=qs) (by simpa using h)
   unfold ku
   by_cases c:0<p.wo
   . rw [aC c,iw,aC (cG c),kX,kX,ih]
   . rw [aA c,iw,aA (by simpa using c),ih]
theorem Cq:∀{ps:List BP} {qs:List (Addr×Addr)} {i:Nat} {p:BP} {q:Addr×Addr},(ps.filter fun p=>decide (0<p.wo))[i]?=some p->(ku ps qs)[i]?=some q->qs.length=ps.length->∃j:Nat,ps[j]?=some p/\qs[j]?=some q
 | [],_,_,_,_,h,_,_=>by simp at h
 | _::_,[],_,_,_,_,_,h=>by simp at h
 | x::ps,y::qs,i,p,q,h1,h2,hl=>by
   unfold ku at h2
   by_cases c:0<x.wo
   . rw [aC c] at h2
     rw [iw,aC (cG c)] at h1
     cases i with
     | zero=>simp at h1 h2;exact ⟨0,by simpa using h1,by simpa using h2⟩
     | succ i=>
       obtain ⟨j,a,b⟩:=Cq (ps:=ps) (qs:=qs) (i:=i) (by simpa using h1) (by simpa using h2) (by simpa using hl)
       exact ⟨j+1,by simpa using a,by simpa using b⟩
   . rw [aA c] at h2
     rw [iw,aA (by simpa using c)] at h1
     obtain ⟨j,a,b⟩:=Cq (ps:=ps) (qs:=qs) (i:=i) h1 h2 (by simpa using hl)
     exact ⟨j+1,by simpa using a,by simpa using b⟩
theorem DV:∀{ps:List BP} {qs:List (Addr×Addr)} {j:Nat} {p:BP} {q:Addr×Addr},ps[j]?=some p->qs[j]?=some q->ku (ps.take (j+1)) (qs.take (j+1))=ku (ps.take j) (qs.take j)++(if 0<p.wo then [q] else [])
 | [],_,_,_,_,h,_=>by simp at h
 | _::_,[],_,_,_,_,h=>by simp at h
 | x::ps,y::qs,0,p,q,h1,h2=>by
   have e1:x=p:=by simpa using h1
   have e2:y=q:=by simpa using h2
   subst e1 e2
   show ku (x::ps.take 0) (y::qs.take 0)=[]++_
   unfold ku
   split <;> rfl
 | x::ps,y::qs,j+1,p,q,h1,h2=>by
   have ih:=DV (ps:=ps) (qs:=qs) (j:=j) (by simpa using h1) (by simpa using h2)
   show ku (x::ps.take (j+1)) (y::qs.take (j+1))=ku (x::ps.take j) (y::qs.take j)++_
   unfold ku
   rw [ih]
   split <;> rfl
def dz (rs:List Row) (x:Str):Int:=((rs.find? fun r=>decide (r.1=x)).map (fun r:Row=>r.2)).getD 0
theorem Hg (x:Str):dz [] x=0:=rfl
theorem mG (r:Row) (rs:List Row) (x:Str):dz (r::rs) x=if r.1=x then r.2 else dz rs x:=by
 unfold dz
 rw [tF]
 by_cases c:r.1=x
 . rw [cG c,aC c];rfl
 . rw [d7 c,aA c]
theorem tL:∀{rs:List Row} {x:Str},x∉rs.map (fun r:Row=>r.1)->dz rs x=0
 | [],_,_=>rfl
 | r::rs,x,h=>by
   rw [mG,aA (fun e=>h (by rw [bJ,e];exact cO))]
   exact tL fun m=>h (by rw [bJ];exact cI _ m)
theorem mH:∀{rs:List Row} {r:Row} {x:Str},r.1∉rs.map (fun r:Row=>r.1)->dz (rs++[r]) x=if r.1=x then r.2 else dz rs x
 | [],r,x,_=>by rw [IQ,mG]
 | y::rs,r,x,h=>by
   rw [bJ] at h
   have h1:r.1≠y.1:=fun e=>h (by rw [e];exact cO)
   rw [IP,mG,mH (fun m=>h (cI _ m)),mG]
   by_cases c:y.1=x
   . rw [aC c,aC c,aA (fun e=>h1 (e.trans c.symm))]
   . rw [aA c,aA c]
theorem Vx (h:∀r∈rs,1<=r.2) (x:Str):0<=dz rs x:=by
 induction rs with
 | nil=>exact lD _
 | cons r rs ih=>
   rw [mG]
   split
   . have:=h r cO;omega
   . exact ih fun y hy=>h y (cI _ hy)
def c9 (b:BS) (rs:List Row):List Int:=b.ao.map fun p=>dz rs p.nm
theorem zJ (b:BS) (rs:List Row):(c9 b rs).length=b.ao.length:=by unfold c9;rw [aG]
theorem DW (nd:(b.ao.map (fun p:BP=>p.nm)).Nodup) {r:Row} {p:BP} (hp:b.ao[j]?=some p) (e:p.nm=r.1) (h:r.1∉rs.map (fun r:Row=>r.1)):c9 b (rs++[r])=(c9 b rs).set j r.2/\(c9 b rs)[j]?=some 0:=by
 have hj:=(eU.mp hp).1
 constructor
 . refine List.ext_getElem? fun k=>?_
   by_cases c:j=k
   . subst c
     rw [tU (by rw [zJ];exact hj)]
     unfold c9
     rw [bK,hp]
     show some (dz (rs++[r]) p.nm)=_
     rw [mH h,aC e.symm]
   . rw [yN c]
     unfold c9
     rw [bK,bK]
     cases ek:b.ao[k]? with
     | none=>rfl
     | some x=>
       show some (dz (rs++[r]) x.nm)=some (dz rs x.nm)
       rw [mH h,aA]
       intro z
       have r1:(b.ao.map (fun p:BP=>p.nm))[k]?=some x.nm:=by rw [bK,ek];rfl
       have r2:(b.ao.map (fun p:BP=>p.nm))[j]?=some p.nm:=by rw [bK,hp];rfl
       exact c ((Px (by rw [aG];exact hj) nd).mp (r2.trans (by rw [e,z];exact r1.symm)))
 . unfold c9
   rw [bK,hp]
   show some (dz rs p.nm)=_
   rw [e,tL h]
theorem Ku:∀{l:List Int} {j:Nat} {x:Int},l[j]?=some 0->(l.set j x).sum=l.sum+x
 | [],_,_,h=>by simp at h
 | a::l,0,x,h=>by
   have:a=0:=by simpa using h
   rw [Po,cQ,cQ];omega
 | a::l,j+1,x,h=>by
   rw [Pn,cQ,cQ,Ku (by simpa using h)];omega
structure vC (b:BS) (rs:List Row):Prop where
 nd:(rs.map (fun r:Row=>r.1)).Nodup
 row:∀r∈rs,1<=r.2/\∃(j:Nat) (p:BP),b.ao[j]?=some p/\p.nm=r.1/\r.2<=p.wo
theorem Hh (nd:(b.ao.map (fun p:BP=>p.nm)).Nodup) (h:vC b rs):∀i≤rs.length,(c9 b (rs.take i)).sum=bD (rs.take i):=by
 intro i
 induction i with
 | zero=>
   intro _
   rw [List.take_zero]
   unfold c9
   show (b.ao.map fun p=>(0:Int)).sum=0
   clear nd h
   generalize b.ao=ps
   induction ps with
   | nil=>rfl
   | cons p ps ih=>rw [bJ,cQ,ih];rfl
 | succ i ih=>
   intro hi
   have ei:=aX (show i<rs.length by omega)
   rw [take_snoc ei]
   obtain ⟨_,j,p,hp,e,_⟩:=h.row _ (bV ei)
   have hn:(rs[i]).1∉(rs.take i).map (fun r:Row=>r.1):=by
    rw [Aq]
    exact jT h.nd (by rw [bK,ei];rfl)
   obtain ⟨s1,s2⟩:=DW nd hp e hn
   rw [s1,Ku s2,ih (by omega)]
   unfold bD
   rw [bF,List.sum_append]
   simp
abbrev Q4:=Str×Str×Int×Int
def ji (st:HS):List Q4:=st.ao.map fun p=>(p.nm,p.ow,p.wo,p.we)
def qU (b:BS):List Q4:=b.ao.map fun p=>(p.nm,p.ow,p.wo,p.we)
def qV (qs:List Q4) (r:Row):List Q4:=(qs.map fun q=>if q.1=r.1 then (q.1,q.2.1,q.2.2.1-r.2,q.2.2.2) else q).filter fun q=>decide (q.2.2.1≠0)
def nc (rs:List Row) (qs:List Q4):List Q4:=(qs.map fun q=>(q.1,q.2.1,q.2.2.1-dz rs q.1,q.2.2.2)).filter fun q=>decide (0<q.2.2.1)
theorem S0 (st:HS) (r:Row):ji (fY st r)=qV (ji st) r:=by
 unfold ji fY nC qV
 generalize st.ao=ps
 show List.map _ (List.filter _ (List.map _ ps))=_
 induction ps with
 | nil=>rfl
 | cons p ps ih=>
   rw [bJ,bJ,bJ]
   by_cases c:p.nm=r.1
   . rw [aC c,aC (show (p.nm,p.ow,p.wo,p.we).1=r.1 from c),iw,iw]
     by_cases d:p.wo-r.2=0
     . rw [aA (by simpa using d),aA (by simpa using d),ih]
     . rw [aC (by simpa using d),aC (by simpa using d),bJ,ih]
   . rw [aA c,aA (show ¬ (p.nm,p.ow,p.wo,p.we).1=r.1 from c),iw,iw]
     by_cases d:p.wo=0
     . rw [aA (by simpa using d),aA (by simpa using d),ih]
     . rw [aC (by simpa using d),aC (by simpa using d),bJ,ih]
theorem DX (st:HS) (kept whole:Int) (added:List Int):ji (cy st kept whole added)=ji st:=by
 unfold ji cy
 rw [vt,iS]
 rfl
theorem DY:∀(rs:List Row) (st:HS),ji (rs.foldl fY st)=rs.foldl qV (ji st)
 | [],_=>rfl
 | r::rs,st=>by rw [mz,mz,DY rs,S0]
theorem DZ:∀(qs:List Q4) (r:Row) (rs:List Row),r.1∉rs.map (fun r:Row=>r.1)->(∀q∈qs,1<=q.2.2.1)->(∀q∈qs,q.1=r.1->r.2<=q.2.2.1)->nc rs (qV qs r)=nc (r::rs) qs
 | [],_,_,_,_,_=>rfl
 | q::qs,r,rs,hn,h1,h2=>by
   have ih:=DZ qs r rs hn (fun x hx=>h1 x (cI _ hx)) (fun x hx=>h2 x (cI _ hx))
   have w1:=h1 q cO
   have e1:qV (q::qs) r=(if q.1=r.1 then (if q.2.2.1-r.2=0 then [] else [(q.1,q.2.1,q.2.2.1-r.2,q.2.2.2)]) else [q])++qV qs r:=by
    unfold qV
    rw [bJ,iw]
    by_cases c:q.1=r.1
    . rw [aC c,aC c]
      by_cases d:q.2.2.1-r.2=0
      . rw [aC d,aA (by simpa using d)];rfl
      . rw [aA d,aC (by simpa using d)];rfl
    . rw [aA c,aA c,aC (cG (show q.2.2.1≠0 by omega))];rfl
   have e2:∀(us:List Row) (x:Q4) (l:List Q4),nc us (x::l)=(if 0<x.2.2.1-dz us x.1 then [(x.1,x.2.1,x.2.2.1-dz us x.1,x.2.2.2)] else [])++nc us l:=fun us x l=>by
    unfold nc
    rw [bJ,iw]
    by_cases c:0<x.2.2.1-dz us x.1
    . rw [aC c,aC (cG c)];rfl
    . rw [aA c,aA (by simpa using c)];rfl
   rw [e1,e2 (r::rs),mG]
   by_cases c:q.1=r.1
   . have am:dz rs q.1=0:=by rw [c];exact tL hn
     have le:=h2 q cO c
     rw [aC c,aC c.symm]
     by_cases d:q.2.2.1-r.2=0
     . rw [aC d,aA (by omega),<-ih];rfl
     . rw [aA d,aC (by omega),<-ih,IP,IQ,e2 rs]
       show (if 0<q.2.2.1-r.2-dz rs q.1 then [(q.1,q.2.1,q.2.2.1-r.2-dz rs q.1,q.2.2.2)] else [])++_=_
       rw [am,C7,aC (by omega)]
   . rw [aA c,show (if r.1=q.1 then r.2 else dz rs q.1)=dz rs q.1 from aA (fun z=>c z.symm),<-ih,IP,IQ,e2 rs]
theorem Hi {qs:List Q4} {r:Row} {x:Q4} (h:x∈qV qs r):x.2.2.1≠0/\∃q∈qs,x=if q.1=r.1 then (q.1,q.2.1,q.2.2.1-r.2,q.2.2.2) else q:=by
 obtain ⟨h1,h2⟩:=oQ.mp h
 obtain ⟨q,hq,e⟩:=cD.mp h1
 exact ⟨eE h2,q,hq,e.symm⟩
theorem Hj:∀(rs:List Row) (qs:List Q4),(rs.map (fun r:Row=>r.1)).Nodup->(∀q∈qs,1<=q.2.2.1)->(∀r∈rs,∀q∈qs,q.1=r.1->r.2<=q.2.2.1)->rs.foldl qV qs=nc rs qs
 | [],qs,_,h1,_=>by
   show qs=nc [] qs
   unfold nc
   induction qs with
   | nil=>rfl
   | cons q qs ih=>
     have:=h1 q cO
     rw [bJ,iw,aC (cG (show 0<q.2.2.1-dz [] q.1 by rw [Hg];omega)),<-ih (fun x hx=>h1 x (cI _ hx)) (fun r hr=>absurd hr (by simp)),Hg,C7]
 | r::rs,qs,nd,h1,h2=>by
   obtain ⟨n1,n2⟩:=iQ.mp (show (r.1::rs.map (fun r:Row=>r.1)).Nodup from nd)
   rw [mz,Hj rs (qV qs r) n2 ?_ ?_]
   . exact DZ qs r rs n1 h1 (h2 r cO)
   . intro x hx
     obtain ⟨a,q,hq,e⟩:=Hi hx
     have:=h1 q hq
     by_cases c:q.1=r.1
     . rw [aC c] at e
       have:=h2 r cO q hq c
       rw [e] at a ⊢
       have a:q.2.2.1-r.2≠0:=a
       show 1<=q.2.2.1-r.2
       omega
     . rw [aA c] at e;rw [e];exact this
   . intro y hy x hx ex
     obtain ⟨_,q,hq,e⟩:=Hi hx
     by_cases c:q.1=r.1
     . rw [aC c] at e
       rw [e] at ex
       exact absurd (cD.mpr ⟨y,hy,ex.symm.trans c⟩) n1
     . rw [aA c] at e
       rw [e] at ex ⊢
       exact h2 y (cI _ hy) q hq ex
theorem S3 (b:BS) (rs:List Row) (seat:Nat) (aw:Int):qU (gQ b (c9 b rs) seat aw)=nc rs (qU b):=by
 unfold qU gQ cZ nc
 show List.map _ (List.filter _ (List.zipWith (k_ (f_ b (c9 b rs) seat aw) (bh b-aw-(c9 b rs).sum)) b.ao (c9 b rs)))=_
 generalize f_ b (c9 b rs) seat aw=g
 generalize bh b-aw-(c9 b rs).sum=k
 unfold c9
 generalize b.ao=ps
 induction ps with
 | nil=>rfl
 | cons p ps ih=>
   rw [bJ,rM,bJ,bJ,iw,iw]
   by_cases c:0<p.wo-dz rs p.nm
   . rw [aC (cG (show 0<(k_ g k p (dz rs p.nm)).wo from c)),aC (cG (show 0<p.wo-dz rs p.nm from c)),bJ,ih]
     rfl
   . rw [aA (by simpa using (show ¬ 0<(k_ g k p (dz rs p.nm)).wo from c)),aA (by simpa using c),ih]
structure jV (st:HS) (b:BS):Prop where
 own:st.own=b.own
 qd:ji st=qU b
theorem Vy (st:HS) (rs:List Row):(kq st rs).own=st.own:=by
 unfold kq
 have:∀(rs:List Row) (s:HS),(rs.foldl fY s).own=s.own:=fun rs=>by
  induction rs with
  | nil=>intro s;rfl
  | cons r rs ih=>intro s;rw [mz,ih];rfl
 rw [this]
 unfold cy
 rw [GX]
theorem S4 (r:jV st b) (wf:Wf st) (c:pF st rs):jV (kq st rs) (gQ b (c9 b rs) 0 0):=by
 refine ⟨by rw [Vy,r.own];rfl,?_⟩
 rw [S3,<-r.qd]
 unfold kq
 rw [DY,DX]
 refine Hj rs (ji st) c.nd (fun q hq=>?_) (fun x hx q hq e=>?_)
 . obtain ⟨p,hp,rfl⟩:=cD.mp hq
   exact (wf.Bu p hp).1
 . obtain ⟨p,hp,rfl⟩:=cD.mp hq
   obtain ⟨_,_,p',zK,e',le⟩:=c.row x hx
   have:p=p':=Ov wf hp zK (e.trans e'.symm)
   rw [this]
   exact le
theorem S7 (r:jV st b) (x o:Str) (wo we:Int):jV (xY st x o wo we) (yd b x o wo we):=by
 refine ⟨r.own,?_⟩
 unfold ji qU xY AI yd
 show List.map _ (st.ao++[_])=List.map _ (b.ao++[_])
 rw [bF,bF,show st.ao.map (fun p=>(p.nm,p.ow,p.wo,p.we))=b.ao.map (fun p=>(p.nm,p.ow,p.wo,p.we)) from r.qd]
 rfl
theorem jV.whole (r:jV st b):aS st=bh b:=by
 unfold aS bh
 have:=h_ (List.map fun q:Q4=>q.2.2.1) r.qd
 unfold ji qU at this
 rw [iS,iS] at this
 exact h_ List.sum this
theorem jV.len (r:jV st b):st.ao.length=b.ao.length:=by
 have:=h_ List.length r.qd
 unfold ji qU at this
 rw [aG,aG] at this
 exact this
theorem jV.at (r:jV st b) {q:BP} (h:b.ao[i]?=some q):∃p,st.ao[i]?=some p/\p.nm=q.nm/\p.ow=q.ow/\p.wo=q.wo/\p.we=q.we:=by
 have e:=h_ (fun l:List Q4=>l[i]?) r.qd
 unfold ji qU at e
 have e:(st.ao.map fun p=>(p.nm,p.ow,p.wo,p.we))[i]?=(b.ao.map fun p=>(p.nm,p.ow,p.wo,p.we))[i]?:=e
 rw [bK,bK,h] at e
 obtain ⟨p,ep,e2⟩:=lP.mp e
 have e2:(p.nm,p.ow,p.wo,p.we)=(q.nm,q.ow,q.wo,q.we):=e2
 simp only [Prod.mk.injEq] at e2
 exact ⟨p,ep,e2⟩
theorem jV.at' (r:jV st b) (h:st.ao[i]?=some p):∃q,b.ao[i]?=some q/\p.nm=q.nm/\p.ow=q.ow/\p.wo=q.wo/\p.we=q.we:=by
 have hi:i<b.ao.length:=by rw [<-r.len];exact (eU.mp h).1
 have eq:=aX hi
 obtain ⟨p',e',z⟩:=r.at eq
 rw [h] at e'
 cases e'
 exact ⟨_,eq,z⟩
theorem jV.rows (r:jV st b) (h:a_ n ρ B H b):zx K H (B.qs.map fun q=>V.ref q.1) st.ao:=by
 refine ⟨by rw [aG,h.ql,r.len],fun i p e=>?_⟩
 obtain ⟨q,eq,e1,e2,e3,e4⟩:=r.at' e
 obtain ⟨a,ea,k1,_⟩:=h.find eq
 refine ⟨a.1,_,by rw [bK,ea];rfl, .inl (aB.of k1),?_,?_,?_,?_⟩
 . rw [e1];rfl
 . rw [e2];rfl
 . rw [e3];rfl
 . rw [e4];rfl
theorem Hl {B:Int} (hB:0<=B):∀{ps:List BP} {as:List Int},(∀p∈ps,∀t∈p.tops,0<=t/\t<=B)->(∀a∈as,0<=a)->∀i,0<=gK ps as i/\gK ps as i<=B*as.sum
 | [],as,_,ha,i=>by
   have:0<=as.sum:=by
    cases as with
    | nil=>exact lD _
    | cons a l=>exact Int.le_trans (ha a cO) (vB ha cO)
   exact ⟨by show (0:Int)<=0;omega,lC hB this⟩
 | _::_,[],_,_,i=>by
   show 0<=(0:Int)/\(0:Int)<=B*0
   omega
 | p::ps,a::as,h,ha,i=>by
   have ih:=Hl hB (ps:=ps) (as:=as) (fun x hx=>h x (cI _ hx)) (fun x hx=>ha x (cI _ hx)) i
   have a0:=ha a cO
   have ht:0<=p.tops.getD i 0/\p.tops.getD i 0<=B:=by
    rw [gR]
    cases e:p.tops[i]? with
    | none=>exact ⟨lD _,hB⟩
    | some t=>exact h p cO t (bV e)
   have e:gK (p::ps) (a::as) i=p.tops.getD i 0*a+gK ps as i:=by unfold gK;rw [rM,cQ]
   have k1:0<=p.tops.getD i 0*a:=lC ht.1 a0
   have k2:p.tops.getD i 0*a<=B*a:=Rj ht.2 a0
   rw [e,cQ,oU]
   omega
theorem S9 (wf:vz b) {aw:Int} (ok:jU b as seat aw):∀g∈f_ b as seat aw,0<=g/\g<=b.bot*(as.sum+aw):=by
 have b1:=wf.b1
 have cb:=Hl (B:=b.bot) (by omega) wf.t0 ok.a0
 have BC:=ok.BC
 have m0:0<=b.bot*aw:=lC (by omega) BC
 have hg:∀g∈fL b as,0<=g/\g<=b.bot*as.sum:=fun g h=>by
  obtain ⟨i,_,rfl⟩:=cD.mp h
  exact cb i
 intro g h
 rw [oU]
 unfold f_ at h
 split at h
 . rcases List.mem_or_eq_of_mem_set h with z|z
   . have:=hg g z;omega
   . have hs:seat<(fL b as).length:=by rw [kr];exact ok.seat
     have e:(fL b as).getD seat 0=(fL b as)[seat] :=by rw [gR,aX hs];rfl
     have:=hg _ (u_ hs)
     rw [z,e,oS aw]
     omega
 . have:=hg g h;omega
theorem Vz (wf:vz b) {aw:Int} (ok:jU b as seat aw) (hz:Jm.Sz 7000 (b.bot*bh b)):vz (gQ b as seat aw):=by
 have b1:=wf.b1
 have gb:=S9 wf ok
 have kp:=ok.kept
 have as0:0<=as.sum:=by
  cases has:as with
  | nil=>exact lD _
  | cons a l=>exact Int.le_trans (ok.a0 a (by rw [has];exact cO)) (by rw [<-has];exact vB ok.a0 (by rw [has];exact cO))
 have BC:=ok.BC
 have Cr:∀p∈(cZ b as seat aw).filter (fun p=>decide (0<p.wo)),0<p.wo/\∃p0∈b.ao,∃a,p=k_ (f_ b as seat aw) (bh b-aw-as.sum) p0 a:=fun p hp=>by
  obtain ⟨h1,h2⟩:=oQ.mp hp
  obtain ⟨i,x,a,ex,_,e⟩:=iD (show p∈List.zipWith (k_ (f_ b as seat aw) (bh b-aw-as.sum)) b.ao as from h1)
  exact ⟨eE h2,x,bV ex,a,e⟩
 have nmE:(cZ b as seat aw).map (fun p:BP=>p.nm)=b.ao.map (fun p:BP=>p.nm):=by
  have:=SX (seat:=seat) (aw:=aw) ok.len b.ao.length
  rw [CZ,tE,show (cZ b as seat aw).take b.ao.length=cZ b as seat aw from by rw [<-vA ok.len];exact cA] at this
  exact this
 refine ⟨?_,fun p hp=>?_,fun p hp t ht=>?_,?_,hz,fun p hp=>?_,wf.ol,?_,wf.kl⟩
 . have:(((cZ b as seat aw).filter fun p=>decide (0<p.wo)).map (fun p:BP=>p.nm)).Sublist ((cZ b as seat aw).map (fun p:BP=>p.nm)):=List.filter_sublist.map _
   rw [nmE] at this
   exact wf.nd.sublist this
 . obtain ⟨_,p0,h0,a,rfl⟩:=Cr p hp
   show (List.zipWith _ p0.tops (f_ b as seat aw)).length=b.own.length
   rw [qh,wf.tl p0 h0,um]
   omega
 . obtain ⟨_,p0,h0,a,rfl⟩:=Cr p hp
   obtain ⟨i,x,g,ex,eg,rfl⟩:=iD (show t∈List.zipWith (fun t g=>t*(bh b-aw-as.sum)+g) p0.tops (f_ b as seat aw) from ht)
   have hx:=wf.t0 p0 h0 x (bV ex)
   have hg:=gb g (bV eg)
   have k1:0<=x*(bh b-aw-as.sum):=lC hx.1 (by omega)
   have k2:x*(bh b-aw-as.sum)<=b.bot*(bh b-aw-as.sum):=Rj hx.2 (by omega)
   have k3:b.bot*(bh b-aw-as.sum)+b.bot*(as.sum+aw)=b.bot*bh b:=by rw [<-oU];congr 1;omega
   exact ⟨by omega,by show _<=b.bot*bh b;omega⟩
 . show 1<=b.bot*bh b
   have:b.bot*1<=b.bot*bh b:=Gq (by omega) (by omega)
   omega
 . exact (Cr p hp).1
 . have:=List.length_filter_le (fun p:BP=>decide (0<p.wo)) (cZ b as seat aw)
   rw [vA ok.len] at this
   exact fQ this wf.pl
theorem Yo (wf:vz b) (h:vC b rs) (hl:bD rs<bh b) (ho:0<b.own.length) (hz:Jm.Sz 60 (bh b)):jU b (c9 b rs) 0 0:=by
 have hs:=Hh wf.nd h rs.length (aO _)
 rw [cA] at hs
 refine ⟨zJ b rs,fun a ha=>?_,ho,lD _,by rw [hs];omega,hz⟩
 obtain ⟨p,_,rfl⟩:=cD.mp ha
 exact Vx (fun r hr=>(h.row r hr).1) p.nm
inductive aaN (K:Fg) (vs:List V) (H:Hp) (Q:VK) (E:XK):Prop
 | mk (n ρ B b:_) (l:Addr) (us:List V) (rs:List Row) (_:vs=[.ref B.m, .ref l]) (_:Gh ρ H) (_:a_ n ρ B H b) (_:vz b) (_:aB K H l us) (_:gk H us rs) (_:ρ l=none) (_:vC b rs) (_:rs.length<=1000) (_:jU b (c9 b rs:_) 0 0) (_:∀ρ' B' H',Gh ρ' H'->a_ n ρ' B' H' (gQ b (c9 b rs:_) 0 0)->B'.m=B.m->Fr n ρ H ρ' H'->Q .bU H')
def OB (K:Fg):Sp:=bx (aaN K)
theorem Yp (wf:vz b) {o:Str} (h1:x∉b.ao.map (fun p:BP=>p.nm)) (h2:1<=wo) (h3:b.ao.length<1000) (h4:b.eL.length<1000):vz (yd b x o wo we):=by
 have P:∀{M:BP->Prop},(∀p∈b.ao,M p)->M ⟨x,o,wo,we,(List.replicate b.own.length 0).set (b.own.idxOf o) b.bot⟩->∀p∈(yd b x o wo we).ao,M p:=fun a c p hp=>by
  rcases gh.mp (show p∈b.ao++[_] from hp) with z|z
  . exact a p z
  . rw [fZ.mp z];exact c
 have b1:=wf.b1
 refine ⟨?_,P wf.tl (by show ((List.replicate b.own.length (0:Int)).set _ _).length=_;rw [lB,jz];rfl),P wf.t0 (fun t ht=>?_),wf.b1,wf.bz,P wf.w1 h2,wf.ol,?_,?_⟩
 . show ((b.ao++[_]).map (fun p:BP=>p.nm)).Nodup
   rw [bF]
   exact ou wf.nd h1
 . rcases x6 ht with z|z
   . rw [z];show 0<=0/\0<=b.bot;omega
   . rw [z];show 0<=b.bot/\b.bot<=b.bot;omega
 . show (b.ao++[_]).length<=1000
   rw [dg];show b.ao.length+1<=1000;omega
 . show (b.eL++[_]).length<=1000
   rw [dg];show b.eL.length+1<=1000;omega
theorem vD:∀(rs:List Row) (s:HS),rs.foldl fY s={ s with ao:=(rs.foldl fY s).ao }
 | [],_=>rfl
 | r::rs,s=>by
   rw [mz,vD rs (fY s r)]
   rfl
def Cs (st:HS) (b:BS):Prop:=∀p∈st.ao,∀q∈b.ao,p.nm=q.nm->∀j,q.tops.getD j 0*st.prod=(cC st p).getD j 0*b.bot
theorem qu {f:Int->Int->Int} (hf:f 0 0=0) {xs ys:List Int} (h:xs.length=ys.length) (j:Nat):(List.zipWith f xs ys).getD j 0=f (xs.getD j 0) (ys.getD j 0):=by
 rw [gR,gR,gR,Pc]
 by_cases c:j<xs.length
 . rw [aX c,aX (by omega)];rfl
 . rw [tV (by omega),tV (by omega)];exact hf.symm
def uo (rs:List Row) (f:Str->Int):Int:=(rs.map fun r=>r.2*f r.1).sum
theorem Kv {st:HS}:∀(rs:List Row) (acc:List Int),(∀r∈rs,(cC st (dI st r.1)).length=acc.length)->∀j,(yb st acc rs).getD j 0=acc.getD j 0+uo rs fun x=>(cC st (dI st x)).getD j 0
 | [],acc,_,j=>by show acc.getD j 0=_+0;omega
 | r::rs,acc,h,j=>by
   have hr:=h r cO
   have e:(List.zipWith (fun x t=>x+r.2*t) acc (cC st (dI st r.1))).length=acc.length:=by rw [qh,hr];omega
   show (yb st (List.zipWith (fun x t=>x+r.2*t) acc (cC st (dI st r.1))) rs).getD j 0=_
   rw [Kv rs _ (fun x hx=>by rw [e];exact h x (cI _ hx)),qu (f:=fun x t=>x+r.2*t) (by show (0:Int)+r.2*0=0;omega) hr.symm]
   unfold uo
   rw [bJ,cQ]
   show acc.getD j 0+r.2*(cC st (dI st r.1)).getD j 0+(rs.map fun r=>r.2*(cC st (dI st r.1)).getD j 0).sum=acc.getD j 0+(r.2*(cC st (dI st r.1)).getD j 0+(rs.map fun r=>r.2*(cC st (dI st r.1)).getD j 0).sum)
   omega
theorem Qu (nd:(b.ao.map (fun p:BP=>p.nm)).Nodup) (h:vC b rs) (f:Str->Int):∀i≤rs.length,(b.ao.map fun p=>f p.nm*dz (rs.take i) p.nm).sum=uo (rs.take i) f:=by
 intro i
 induction i with
 | zero=>
   intro _
   rw [List.take_zero]
   show (b.ao.map fun p=>f p.nm*0).sum=0
   clear nd h
   generalize b.ao=ps
   induction ps with
   | nil=>rfl
   | cons p ps ih=>rw [bJ,cQ,ih];omega
 | succ i ih=>
   intro hi
   have ei:=aX (show i<rs.length by omega)
   obtain ⟨_,j,p,hp,e,_⟩:=h.row _ (bV ei)
   have hn:(rs[i]).1∉(rs.take i).map (fun r:Row=>r.1):=by
    rw [Aq]
    exact jT h.nd (by rw [bK,ei];rfl)
   rw [take_snoc ei]
   generalize rs[i]=r at *
   replace ih:=ih (by omega)
   generalize rs.take i=us at *
   have:uo (us++[r]) f=uo us f+r.2*f r.1:=by unfold uo;rw [bF,List.sum_append];simp
   rw [this,<-ih]
   clear this ih hi ei
   have hm:=bV hp
   clear hp
   generalize b.ao=ps at *
   clear h
   induction ps with
   | nil=>simp at hm
   | cons x ps ihp=>
     obtain ⟨n1,n2⟩:=iQ.mp (show (x.nm::ps.map (fun p:BP=>p.nm)).Nodup from nd)
     rw [bJ,bJ,cQ,cQ]
     rcases c_.mp hm with z|z
     . subst z
       have rest:(ps.map fun p=>f p.nm*dz (us++[r]) p.nm)=ps.map fun p=>f p.nm*dz us p.nm:=Pf fun y hy=>by
        rw [mH hn,aA (fun z=>n1 (cD.mpr ⟨y,hy,z.symm.trans e.symm⟩))]
       rw [rest,mH hn,aC e.symm,e,tL hn,Int.mul_zero,oS r.2]
       omega
     . have ne:x.nm≠r.1:=fun z'=>n1 (cD.mpr ⟨p,z,e.trans z'.symm⟩)
       rw [ihp n2 z,mH hn,aA (fun z=>ne z.symm)]
       omega
theorem Kw:∀(rs:List Row) {s:HS} {p':Pt},p'∈(rs.foldl fY s).ao->∃p∈s.ao,p'.nm=p.nm/\p'.row=p.row/\p'.sc=p.sc
 | [],_,p',h=>⟨p',h,Z,Z,Z⟩
 | r::rs,s,p',h=>by
   obtain ⟨p,hp,e1,e2,e3⟩:=Kw rs (s:=fY s r) h
   obtain ⟨_,q,hq,e⟩:=Cm hp
   refine ⟨q,hq,?_⟩
   rw [e1,e2,e3,e]
   split <;> exact ⟨Z,Z,Z⟩
theorem Yq {ps:List BP} (j:Nat):gK ps (ps.map fun p=>dz rs p.nm) j=(ps.map fun p=>p.tops.getD j 0*dz rs p.nm).sum:=by
 unfold gK
 induction ps with
 | nil=>rfl
 | cons p ps ih=>rw [bJ,rM,cQ,bJ,cQ,ih]
theorem Ho (k:Int) {α:Type} (l:List α) (f g:α->Int) (h:∀x∈l,f x*k=g x):(l.map f).sum*k=(l.map g).sum:=by
 induction l with
 | nil=>show (0:Int)*k=0;omega
 | cons x l ih=>
   rw [bJ,bJ,cQ,cQ,Av,ih fun y hy=>h y (cI _ hy),h x cO]
theorem Hq {st st':HS} {kept whole:Int} {added:List Int} (wf:Wf st) (bl:qt st kept whole lost added) (ec:st'.bM=(cy st kept whole added).bM) (ep:st'.prod=(cy st kept whole added).prod) {p':Pt} (hp:p∈st.ao) (e2:p'.row=p.row) (e3:p'.sc=p.sc*kept / cS st kept whole added)
  {t0 gB B:Int} {j:Nat} (tj:t0*st.prod=(cC st p).getD j 0*B) (eB:gB*st.prod=added.getD j 0*B):(t0*kept+gB)*st'.prod=(cC st' p').getD j 0*(B*whole):=by
 obtain ⟨hd,hdw,hds,hdc⟩:=bl.dvds
 have agt:st'.bM=(fR st kept added).map (· / cS st kept whole added):=by
  rw [ec];unfold cy;rw [SK]
 have s1:1<=whole / cS st kept whole added:=by
  have w1:0<whole:=by have:=bl.l;have:=bl.w;have:=bl.k;omega
  have:=Int.le_of_dvd w1 hdw
  exact Int.le_ediv_of_mul_le hd (by omega)
 have WH:st'.prod=st.prod*(whole / cS st kept whole added):=by
  rw [ep];unfold cy;rw [DT s1]
 have hds:=hds p hp
 have hrl:=wf.rows p hp
 have hcl:=wf.i7
 have gl:=bl.len
 have ewd:cS st kept whole added*(whole / cS st kept whole added)=whole:=Int.mul_ediv_cancel' hdw
 have a5:cS st kept whole added*p'.sc=p.sc*kept:=by rw [e3];exact Int.mul_ediv_cancel' hds
 rw [WH]
 clear ec ep WH e3 bl hdw hds s1
 generalize cS st kept whole added=d at *
 have etop:d*(cC st' p').getD j 0=(cC st p).getD j 0*kept+added.getD j 0:=by
  have a1:(cC st' p').getD j 0=p'.sc*p.row.getD j 0+((fR st kept added).map (· / d)).getD j 0:=by
   unfold cC
   rw [agt,e2,qu (f:=fun r c=>p'.sc*r+c) (by show p'.sc*0+0=0;omega)]
   rw [aG]
   unfold fR
   rw [qh,gl,hrl,hcl]
   omega
  have a2:(cC st p).getD j 0=p.sc*p.row.getD j 0+st.bM.getD j 0:=by
   unfold cC
   exact qu (f:=fun r c=>p.sc*r+c) (by show p.sc*0+0=0;omega) (by rw [hrl,hcl]) j
  have a3:(fR st kept added).getD j 0=st.bM.getD j 0*kept+added.getD j 0:=by
   unfold fR
   exact qu (f:=fun t m=>t*kept+m) (by show (0:Int)*_+0=0;omega) gl.symm j
  have a4:d*((fR st kept added).map (· / d)).getD j 0=(fR st kept added).getD j 0:=by
   rw [gR,gR,bK]
   cases ec:(fR st kept added)[j]? with
   | none=>show _*0=(0:Int);omega
   | some x=>exact Int.mul_ediv_cancel' (hdc x (bV ec))
  rw [a1,oU,<-iR,a5,a4,a3,a2]
  grind
 generalize whole / d=S_ at *
 generalize (cC st' p').getD j 0=T' at *
 generalize (cC st p).getD j 0=T at *
 generalize added.getD j 0=gS at *
 refine Int.eq_of_mul_eq_mul_left (a:=d) (by omega) ?_
 have l1:d*((t0*kept+gB)*(st.prod*S_))=(t0*st.prod*kept+gB*st.prod)*(d*S_):=by grind
 have l2:d*(T'*(B*whole))=(d*T')*(B*whole):=by grind
 rw [l1,l2,ewd,tj,eB,etop]
 grind
theorem Tc (t:Cs st b) (rl:jV st b) (wf:Wf st) (wb:vz b) (c:pF st rs) (rb:vC b rs) (bo:jU b (c9 b rs) 0 0):Cs (kq st rs) (gQ b (c9 b rs) 0 0):=by
 intro p' zK q' hq' en j
 have bl:=c.blend wf
 have ew:=rl.whole
 have D0:∀r∈rs,∃p∈st.ao,p.nm=r.1:=fun r hr=>by obtain ⟨p,hp,e,_⟩:=(c.row r hr).2.2;exact ⟨p,hp,e⟩
 have eG:=G0 wf D0
 have gl:(fV st rs).length=st.bM.length:=bl.len
 obtain ⟨p1,hp1,e1,e2,e3⟩:=Kw rs (s:=cy st (aS st-bD rs) (aS st) (fV st rs)) zK
 have eK:=vD rs (cy st (aS st-bD rs) (aS st) (fV st rs))
 have agu:p1∈st.ao.map (fun p:Pt=>{ p with sc:=p.sc*(aS st-bD rs) / cS st (aS st-bD rs) (aS st) (fV st rs) }):=by
  have h:=hp1
  unfold cy at h
  rw [vt] at h
  exact h
 obtain ⟨p,hp,rfl⟩:=cD.mp agu
 have e1:p'.nm=p.nm:=e1
 have e2:p'.row=p.row:=e2
 have e3:p'.sc=p.sc*(aS st-bD rs) / cS st (aS st-bD rs) (aS st) (fV st rs):=e3
 have hcl:=wf.i7
 obtain ⟨h1,_⟩:=oQ.mp (show q'∈(cZ b (c9 b rs) 0 0).filter _ from hq')
 obtain ⟨k,q,a,eq,_,eqq⟩:=iD (show q'∈List.zipWith (k_ (f_ b (c9 b rs) 0 0) (bh b-0-(c9 b rs).sum)) b.ao (c9 b rs) from h1)
 have hq:=bV eq
 have enq:p.nm=q.nm:=by rw [<-e1,en,eqq];rfl
 have tj:=t p hp q hq enq j
 have hs:=Hh wb.nd rb rs.length (aO _)
 rw [cA] at hs
 have eqt:q'.tops.getD j 0=q.tops.getD j 0*(bh b-bD rs)+(fL b (c9 b rs)).getD j 0:=by
  rw [eqq]
  show (List.zipWith _ q.tops (f_ b (c9 b rs) 0 0)).getD j 0=_
  rw [qu (f:=fun t g=>t*(bh b-0-(c9 b rs).sum)+g) (by show (0:Int)*_+0=0;omega) (by rw [wb.tl q hq,um]),hs,C7]
  rfl
 have eGj:(fV st rs).getD j 0=uo rs fun x=>(cC st (dI st x)).getD j 0:=by
  rw [eG,Kv rs _ (fun r hr=>by
   obtain ⟨x,hx,e⟩:=D0 r hr
   rw [nR wf hx e,jz,yc wf hx])]
  have:(List.replicate st.bM.length (0:Int)).getD j 0=0:=by
   rw [gR,O9]
   split <;> rfl
  omega
 have eBj:(fL b (c9 b rs)).getD j 0*st.prod=(fV st rs).getD j 0*b.bot:=by
  have pr:=Qu wb.nd rb (fun x=>(cC st (dI st x)).getD j 0) rs.length (aO _)
  rw [cA] at pr
  rw [eGj,<-pr]
  by_cases cj:j<b.own.length
  . have e:(fL b (c9 b rs)).getD j 0=(b.ao.map fun p=>p.tops.getD j 0*dz rs p.nm).sum:=by
     unfold fL
     rw [gR,bK,List.getElem?_range cj]
     exact Yq j
    rw [e,Ho st.prod b.ao (fun p=>p.tops.getD j 0*dz rs p.nm) (fun p=>((cC st (dI st p.nm)).getD j 0*dz rs p.nm)*b.bot) (fun x hx=>?_)]
    . exact (Ho b.bot b.ao (fun p=>(cC st (dI st p.nm)).getD j 0*dz rs p.nm) _ fun x _=>rfl).symm
    . obtain ⟨i,hi,ei⟩:=tX hx
      obtain ⟨y,hy,ey,_⟩:=rl.at (i:=i) (q:=x) (by rw [aX hi,ei])
      have hy:=bV hy
      have:=t y hy x hx ey j
      rw [nR wf hy ey,Int.mul_right_comm,this,Int.mul_right_comm]
  . have z1:(fL b (c9 b rs)).getD j 0=0:=by
     rw [gR,tV (by rw [kr];omega)];rfl
    have z2:(fV st rs).getD j 0=0:=by
     rw [gR,tV (by rw [gl,hcl,rl.own];omega)];rfl
    rw [z1,pr,<-eGj,z2]
    omega
 rw [eqt,<-ew]
 show _=(cC (kq st rs) p').getD j 0*(b.bot*bh b)
 rw [<-ew]
 exact Hq wf bl (by unfold kq;rw [eK]) (by unfold kq;rw [eK]) hp e2 e3 tj eBj
theorem Td (t:Cs st b) (rl:jV st b) (wf:Wf st) (wb:vz b) {o:Str} (h1:x∉b.ao.map (fun p:BP=>p.nm)):Cs (xY st x o wo we) (yd b x o wo we):=by
 intro p hp q hq en j
 have nmE:∀y∈st.ao,y.nm∈b.ao.map (fun p:BP=>p.nm):=fun y hy=>by
  obtain ⟨i,hi,ei⟩:=tX hy
  obtain ⟨z,hz,ez,_⟩:=rl.at' (i:=i) (p:=y) (by rw [aX hi,ei])
  rw [ez]
  exact cD.mpr ⟨z,bV hz,Z⟩
 show q.tops.getD j 0*st.prod=(cC st p).getD j 0*b.bot
 rcases gh.mp (show p∈st.ao++[_] from hp) with zp|zp
 . rcases gh.mp (show q∈b.ao++[_] from hq) with zq|zq
   . exact t p zp q zq en j
   . rw [fZ.mp zq] at en
     have en:p.nm=x:=en
     exact absurd (by rw [<-en];exact nmE p zp) h1
 . rcases gh.mp (show q∈b.ao++[_] from hq) with zq|zq
   . rw [fZ.mp zp] at en
     have en:x=q.nm:=en
     exact absurd (by rw [en];exact cD.mpr ⟨q,zq,Z⟩) h1
   . rw [fZ.mp zp,fZ.mp zq]
     have e1:cC st ⟨x,o,wo,we,1,zj st ((List.replicate st.own.length 0).set (st.own.idxOf o) st.prod)⟩=(List.replicate st.own.length 0).set (st.own.idxOf o) st.prod:=by
      show List.zipWith (fun r c=>1*r+c) (List.zipWith (fun t c=>t-c) ((List.replicate st.own.length 0).set (st.own.idxOf o) st.prod) st.bM) st.bM=_
      rw [Cj,wf.i7]
      exact BX (by rw [lB,jz];exact aO _)
     rw [e1,rl.own]
     show ((List.replicate b.own.length 0).set (b.own.idxOf o) b.bot).getD j 0*st.prod=((List.replicate b.own.length 0).set (b.own.idxOf o) st.prod).getD j 0*b.bot
     have key:∀v:Int,((List.replicate b.own.length 0).set (b.own.idxOf o) v).getD j 0=if b.own.idxOf o=j/\j<b.own.length then v else 0:=fun v=>by
      rw [gR,List.getElem?_set]
      by_cases c:b.own.idxOf o=j
      . rw [aC c]
        by_cases d:b.own.idxOf o<(List.replicate b.own.length (0:Int)).length
        . rw [aC d,aC ⟨c,by rw [jz] at d;omega⟩];rfl
        . rw [aA d,aA (fun z=>d (by rw [jz];omega))];rfl
      . rw [aA c,aA (fun z=>c z.1),O9]
        split <;> rfl
     rw [key,key]
     split
     . exact oS _ _
     . omega
theorem Qv {st:HS} {b:BS} (t:Cs st b) (rl:jV st b) (wf:Wf st) (wb:vz b) {p:Pt} {q:BP} (hp:p∈st.ao) (hq:q∈b.ao) (e:p.nm=q.nm):zm st p=fD b.own q.tops b.bot:=by
 have p1:=wf.iz
 have b1:=wb.b1
 have l1:(cC st p).length=b.own.length:=by rw [yc wf hp,wf.i7,rl.own]
 have l2:q.tops.length=b.own.length:=wb.tl q hq
 have tj:=t p hp q hq e
 unfold zm fD
 rw [rl.own]
 generalize cC st p=xs at *
 generalize q.tops=ys at *
 generalize b.own=own at *
 have step:∀(own:List Str) (xs ys:List Int),xs.length=own.length->ys.length=own.length->(∀j,ys.getD j 0*st.prod=xs.getD j 0*b.bot)->(List.zip own xs).filterMap (fun x=>if 0<x.2 then some (x.1,Jm.fr x.2 st.prod) else none)=(List.zip own ys).filterMap fun x=>if 0<x.2 then some (x.1,Jm.fr x.2 b.bot) else none:=by
  intro own
  induction own with
  | nil=>intro xs ys _ _ _;simp
  | cons o own ih=>
    intro xs ys h1 h2 h3
    cases xs with
    | nil=>simp at h1
    | cons x xs=>
      cases ys with
      | nil=>simp at h2
      | cons y ys=>
        have h0:y*st.prod=x*b.bot:=by simpa using h3 0
        have ih:=ih xs ys (by simpa using h1) (by simpa using h2) (fun j=>by simpa using h3 (j+1))
        rw [List.zip_cons_cons,List.zip_cons_cons,yO,yO,ih]
        by_cases c:0<x
        . have c2:0<y:=by
           rcases C6 0 y with z|z
           . exact z
           . have k1:y*st.prod<=0:=Int.mul_nonpos_of_nonpos_of_nonneg z (by omega)
             have k2:0<x*b.bot:=Int.mul_pos c (by omega)
             omega
          simp only [aC c,aC c2]
          rw [Jm.Wn (t:=x) (b:=st.prod) (t':=y) (b':=b.bot) (by omega) (by omega) h0.symm]
        . have c2:¬ 0<y:=fun z=>by
           have k1:0<y*st.prod:=Int.mul_pos z (by omega)
           have k2:x*b.bot<=0:=Int.mul_nonpos_of_nonpos_of_nonneg (by omega) (by omega)
           omega
          simp only [aA c,aA c2]
 exact step own xs ys l1 l2 tj
theorem BF {α:Type} (f g:α->Int):∀l:List α,(l.map fun x=>f x+g x).sum=(l.map f).sum+(l.map g).sum
 | []=>rfl
 | a::l=>by rw [bJ,bJ,bJ,cQ,cQ,cQ,BF f g l];omega
theorem vY {α:Type} (f:α->Int) (k:Int):∀l:List α,(l.map fun x=>f x*k).sum=(l.map f).sum*k
 | []=>by simp
 | a::l=>by rw [bJ,bJ,cQ,cQ,vY f k l,Av]
theorem MC:∀(l:List Int) (n:Nat),l.length=n->(List.range n).map (fun i=>l.getD i 0)=l:=fun l n h=>by
 refine List.ext_getElem? fun i=>?_
 rw [bK]
 by_cases hi:i<n
 . rw [List.getElem?_range hi,aX (by omega)]
   show some (l.getD i 0)=_
   rw [gR,aX (by omega)];rfl
 . rw [tV (by rw [BZ];omega),tV (by omega)];rfl
theorem Hr {B:Int} {n:Nat}:∀(ps:List BP) (as:List Int),(∀p∈ps,p.tops.length=n/\p.tops.sum=B)->as.length=ps.length->((List.range n).map (gK ps as)).sum=B*as.sum
 | [],[],_,_=>by
   have:(List.range n).map (gK [] [])=(List.range n).map fun _=>(0:Int)*0:=by congr 1
   rw [this,vY];simp
 | [],_::_,_,h=>by simp at h
 | _::_,[],_,h=>by simp at h
 | p::ps,a::as,hp,hl=>by
   have e:(List.range n).map (gK (p::ps) (a::as))=(List.range n).map fun i=>p.tops.getD i 0*a+gK ps as i:=by
    congr 1
   obtain ⟨h1,h2⟩:=hp p cO
   have ih:=Hr ps as (fun x hx=>hp x (cI _ hx)) (by simpa using hl)
   rw [e,BF,vY,MC _ _ h1,ih,h2,cQ,oU]
theorem vZ:∀{l:List Int} {i:Nat} {x:Int},i<l.length->(l.set i (l.getD i 0+x)).sum=l.sum+x
 | a::l,0,x,_=>by rw [Po,cQ,cQ];show a+x+_=_;omega
 | a::l,i+1,x,h=>by
   rw [Pn,cQ,cQ]
   have:=vZ (l:=l) (i:=i) (x:=x) (by simpa using h)
   have e:(a::l).getD (i+1) 0=l.getD i 0:=rfl
   rw [e,this];omega
 | [],_,_,h=>by simp at h
theorem OC (k:Int):∀{ts gs:List Int},ts.length=gs.length->(List.zipWith (fun t g=>t*k+g) ts gs).sum=ts.sum*k+gs.sum
 | [],[],_=>by simp
 | t::ts,g::gs,h=>by
   have:=OC k (ts:=ts) (gs:=gs) (by simpa using h)
   rw [rM,cQ,cQ,cQ,this,Av];omega
 | [],_::_,h=>by simp at h
 | _::_,[],h=>by simp at h
theorem VA (wf:vz b) {aw:Int} (ok:jU b as seat aw) (hs:∀p∈b.ao,p.tops.sum=b.bot):∀p∈(gQ b as seat aw).ao,p.tops.sum=(gQ b as seat aw).bot:=fun p hp=>by
 obtain ⟨h1,_⟩:=oQ.mp (show p∈(cZ b as seat aw).filter _ from hp)
 obtain ⟨i,x,a,ex,ea,rfl⟩:=iD (show p∈List.zipWith (k_ (f_ b as seat aw) (bh b-aw-as.sum)) b.ao as from h1)
 have hx:=bV ex
 show (List.zipWith (fun t g=>t*(bh b-aw-as.sum)+g) x.tops (f_ b as seat aw)).sum=b.bot*bh b
 rw [OC _ (by rw [wf.tl x hx,um]),hs x hx]
 have eg:(fL b as).sum=b.bot*as.sum:=Hr b.ao as (fun p hp=>⟨wf.tl p hp,hs p hp⟩) ok.len
 have e2:(f_ b as seat aw).sum=b.bot*(as.sum+aw):=by
  unfold f_
  by_cases h:0<aw
  . rw [aC h,vZ (by rw [kr];exact ok.seat),eg,oU,oS aw]
  . have:aw=0:=by have:=ok.BC;omega
    rw [aA h,eg,this,Int.add_zero]
 rw [e2,<-oU]
 congr 1
 omega
structure gc (c:Nat) (st:HS) (b:BS):Prop where
 kg:vz b
 rel:jV st b
 Fl:Cs st b
 cX:∀u∈st.cX,Jm.Sz (60*c+60) u
 stp:st.stp.length<=c
 prod:Jm.Sz (60*c+1) st.prod
 bot:Jm.Sz (60*c+1) b.bot
 wo:∀p∈b.ao,p.wo<=1000000000*((c:Int)+1)
 we:∀p∈b.ao,p.we<=1000000000
 pl:b.ao.length<=50+c
 kl:b.eL.length<=900+c
 own:0<b.own.length
 nm:∀p∈b.ao,PyData.strOk p.nm=true/\PyData.strOk p.ow=true
 kL:st.kL=[]/\b.kL=[]
 eL:st.nms=b.eL
 nk:∀x∈b.eL,isNm x=true
 on:∀o∈b.own,isNm o=true
 sum:∀p∈b.ao,p.tops.sum=b.bot
variable {c:Nat}
theorem gc.mono (g:gc c st b):gc (c+1) st b:=⟨g.kg,g.rel,g.Fl,fun u hu=>(g.cX u hu).mono (by omega),by have:=g.stp;omega,g.prod.mono (by omega),g.bot.mono (by omega),fun p hp=>by have:=g.wo p hp;omega,g.we,by have:=g.pl;omega,by have:=g.kl;omega,g.own,g.nm,g.kL,g.eL,g.nk,g.on,g.sum⟩
theorem gc.nms (g:gc c st b):aaC st.ao:=fun p hp=>by
 obtain ⟨i,hi,e⟩:=tX hp
 obtain ⟨q,eq,e1,e2,_⟩:=g.rel.at' (i:=i) (p:=p) (by rw [aX hi,e])
 rw [e1,e2]
 exact g.nm q (bV eq)
theorem BG:∀{ps:List BP} {m:Int},(∀p∈ps,1<=p.wo/\p.wo<=m)->0<=(ps.map fun p=>p.wo).sum/\(ps.map fun p=>p.wo).sum<=m*(ps.length:Int)
 | [],m,_=>by show 0<=(0:Int)/\(0:Int)<=m*0;omega
 | p::ps,m,h=>by
   have h0:=h p cO
   have ih:=BG (ps:=ps) (m:=m) fun x hx=>h x (cI _ hx)
   rw [bJ,cQ,kX,show (((ps.length+1:Nat)):Int)=(ps.length:Int)+1 from by omega,oU,Int.mul_one]
   omega
theorem gc.whole (g:gc c st b) (hc:c<=100):0<=bh b/\Jm.Sz 60 (bh b):=by
 have h:=BG (ps:=b.ao) (m:=101000000000) fun p hp=>⟨g.kg.w1 p hp,by have:=g.wo p hp;omega⟩
 refine ⟨h.1,?_⟩
 have hl:=g.pl
 have h2:(101000000000:Int)*(b.ao.length:Int)<=15150000000000:=by omega
 have h3:bh b<=15150000000000:=Int.le_trans h.2 h2
 have h1:0<=bh b:=h.1
 have:Jm.Sz 60 (15150000000000:Int):=o8 (by decide +kernel)
 exact this.of_le (by omega)
theorem OD {st':HS} {aw kept:Int} (g:gc c st b) (bl:qt st kept (aS st) lost added) (bo:jU b as seat aw) (hc:c<=90) (eC:st'={ cy st kept (aS st) added with ao:=st'.ao }) (rw':jV st' (gQ b as seat aw)) (rt:Cs st' (gQ b as seat aw)):gc (c+1) st' (gQ b as seat aw):=by
 have zw:=g.whole (by omega)
 have ew:=g.rel.whole
 obtain ⟨hs,hsw,_,_⟩:=bl.dvds
 have w1:0<aS st:=by have:=bl.k;have:=bl.l;have:=bl.w;omega
 have s1:1<=aS st / cS st kept (aS st) added:=by
  have:=Int.le_of_dvd w1 hsw
  exact Int.le_ediv_of_mul_le hs (by omega)
 have s2:aS st / cS st kept (aS st) added<=aS st:=Int.ediv_le_self _ (by omega)
 have zs:Jm.Sz 60 (aS st / cS st kept (aS st) added):=by
  have:=zw.2
  rw [<-ew] at this
  exact this.of_le (by omega)
 have Cr:∀p∈(gQ b as seat aw).ao,∃p0∈b.ao,∃a,a∈as/\p=k_ (f_ b as seat aw) (bh b-aw-as.sum) p0 a:=fun p hp=>by
  obtain ⟨h1,_⟩:=oQ.mp (show p∈(cZ b as seat aw).filter _ from hp)
  obtain ⟨i,x,a,ex,ea,e⟩:=iD (show p∈List.zipWith (k_ (f_ b as seat aw) (bh b-aw-as.sum)) b.ao as from h1)
  exact ⟨x,bV ex,a,bV ea,e⟩
 have zb:Jm.Sz (60*(c+1)+1) (b.bot*bh b):=(g.bot.mul zw.2).mono (by omega)
 refine ⟨Vz g.kg bo (zb.mono (by omega)),rw',rt,fun u hu=>?_,?_,?_,zb,fun p hp=>?_,(fun p hp=>by obtain ⟨p0,h0,a,_,rfl⟩:=Cr p hp;exact g.we p0 h0),?_,(by show b.eL.length<=_;have:=g.kl;omega),g.own,fun p hp=>?_,⟨?_,g.kL.2⟩,?_,g.nk,g.on,VA g.kg bo g.sum⟩
 . rw [eC] at hu
   have hu:u∈(cy st kept (aS st) added).cX:=hu
   unfold cy at hu
   rw [SM] at hu
   obtain ⟨x,hx,rfl⟩:=cD.mp hu
   exact ((g.cX x hx).mul zs).mono (by omega)
 . rw [eC]
   show (cy st kept (aS st) added).stp.length<=c+1
   unfold cy fE
   split
   . show (st.stp++[_]).length<=c+1
     rw [dg];have:=g.stp;show st.stp.length+1<=c+1;omega
   . show st.stp.length<=c+1
     have:=g.stp;omega
 . rw [eC]
   show Jm.Sz _ (cy st kept (aS st) added).prod
   unfold cy
   rw [DT s1]
   exact (g.prod.mul zs).mono (by omega)
 . obtain ⟨p0,h0,a,ha,rfl⟩:=Cr p hp
   have:=g.wo p0 h0
   have:=bo.a0 a ha
   show p0.wo-a<=1000000000*(((c+1:Nat):Int)+1)
   omega
 . have:=List.length_filter_le (fun p:BP=>decide (0<p.wo)) (cZ b as seat aw)
   rw [vA bo.len] at this
   have:=g.pl
   show (List.filter _ _).length<=_
   omega
 . obtain ⟨p0,h0,a,_,rfl⟩:=Cr p hp
   exact g.nm p0 h0
 . rw [eC]
   show (cy st kept (aS st) added).kL=[]
   unfold cy
   rw [SQ]
   exact g.kL.1
 . rw [eC]
   show (cy st kept (aS st) added).nms=b.eL
   unfold cy
   rw [SN]
   exact g.eL
theorem Yr (g:gc c st b) (wf:Wf st) (ok:pF st rs) (rb:vC b rs) (bo:jU b (c9 b rs) 0 0) (hc:c<=90):gc (c+1) (kq st rs) (gQ b (c9 b rs) 0 0):=
 OD g (ok.blend wf) bo hc (vD rs (cy st (aS st-bD rs) (aS st) (fV st rs))) (S4 g.rel wf ok) (Tc g.Fl g.rel wf g.kg ok rb bo)
theorem Ys (st:HS) (rs:List Row):(kq st rs).kn<=st.kn:=by
 unfold kq
 rw [vD]
 show (cy st (aS st-bD rs) (aS st) (fV st rs)).kn<=st.kn
 unfold cy fE
 split
 . exact fC _
 . exact aO _
theorem OE (h:isNm x=true):PyData.strOk x=true:=by
 unfold PyData.strOk
 rw [Array.all_eq_true']
 intro c hc
 unfold isNm isName at h
 have h1:=oO.mp (kU.mp h).2 c (by simpa using hc)
 rw [XX] at h1
 have hm:=eE h1
 have:∀c∈("abcdefghijklmnopqrstuvwxyz":Str).cps.toList,c<1000:=by decide +kernel
 have:=this c hm
 exact cG (by omega)
theorem ye (n:Nat):(List.replicate n (0:Int)).sum=0:=by
 induction n with
 | zero=>rfl
 | succ n ih=>rw [xE,cQ,ih];rfl
theorem Yt (g:gc c st b) (wf:Wf st) {o:Str} (h1:x∉b.ao.map (fun p:BP=>p.nm)) (h2:1<=wo) (h2':wo<=1000000000) (h3:b.ao.length<50) (h4:b.eL.length<900) (hx:isNm x=true) (ho:o∈b.own) (h5:we<=1000000000):gc c (xY st x o wo we) (yd b x o wo we):=by
 have P:∀{M:BP->Prop},(∀p∈b.ao,M p)->M ⟨x,o,wo,we,(List.replicate b.own.length 0).set (b.own.idxOf o) b.bot⟩->∀p∈(yd b x o wo we).ao,M p:=fun a c p hp=>by
  rcases gh.mp (show p∈b.ao++[_] from hp) with z|z
  . exact a p z
  . rw [fZ.mp z];exact c
 refine ⟨Yp g.kg h1 h2 (by omega) (by omega),S7 g.rel x o wo we,Td g.Fl g.rel wf g.kg h1,g.cX,g.stp,g.prod,g.bot,P g.wo (by show wo<=_;omega),P g.we h5,by show (b.ao++[_]).length<=50+c;rw [dg];show b.ao.length+1<=50+c;omega,by show (b.eL++[_]).length<=900+c;rw [dg];show b.eL.length+1<=900+c;omega,g.own,P g.nm ⟨OE hx,OE (g.on o ho)⟩,g.kL,?_,?_,g.on,P g.sum ?_⟩
 . show st.nms++[x]=b.eL++[x];rw [g.eL]
 . intro y hy
   rcases gh.mp (show y∈b.eL++[x] from hy) with z|z
   . exact g.nk y z
   . rw [fZ.mp z];exact hx
 . show ((List.replicate b.own.length 0).set (b.own.idxOf o) b.bot).sum=b.bot
   have hi:b.own.idxOf o<(List.replicate b.own.length (0:Int)).length:=by rw [jz];exact Jj.mpr ho
   have:=vZ (x:=b.bot) hi
   rw [show (List.replicate b.own.length (0:Int)).getD (b.own.idxOf o) 0=0 from by rw [gR,aX hi,List.getElem_replicate];rfl,Int.zero_add,ye,Int.zero_add] at this
   exact this
theorem D3:∀(l:List Str) (st:HS),st.ao=[]->(∀u∈st.cX,u=0)->(l.foldl gy st).ao=[]/\(l.foldl gy st).nms=st.nms/\(l.foldl gy st).stp=st.stp/\(l.foldl gy st).prod=st.prod/\(l.foldl gy st).kL=st.kL/\∀u∈(l.foldl gy st).cX,u=0
 | [],_,h,hp=>⟨h,Z,Z,Z,Z,hp⟩
 | o::l,st,h,hp=>by
   rw [mz]
   exact D3 l (gy st o) (by show st.ao.map _=[];rw [h];rfl) (fun u hu=>by
    rcases gh.mp (show u∈st.cX++[0] from hu) with z|z
    . exact hp u z
    . exact fZ.mp z)
theorem gd0 {own:List Str} (h0:0<own.length) (h1:own.length<=100) (hon:∀o∈own,isNm o=true):gc 0 (own.foldl gy hs0) ⟨own,[],1,[],[]⟩/\(own.foldl gy hs0).nms=[] :=by
 obtain ⟨k1,k2,k3,k4,k5,k6⟩:=D3 own hs0 rfl (fun u hu=>absurd hu (by simp [hs0]))
 refine ⟨⟨⟨vd,fun p hp=>absurd hp (by simp),fun p hp=>absurd hp (by simp),lD _,(by show Jm.Sz 7000 1;exact o8 (by decide +kernel)),fun p hp=>absurd hp (by simp),h1,fC _,fC _⟩,⟨by rw [zy];rfl,by unfold ji qU;rw [k1];rfl⟩,(fun p hp=>by rw [k1] at hp;exact absurd hp (by simp)),(fun u hu=>by rw [k6 u hu];exact o8 (by decide +kernel)),by rw [k3];exact aO _,(by rw [k4];show Jm.Sz (60*0+1) 1;exact o8 (by decide +kernel)),(by show Jm.Sz (60*0+1) 1;exact o8 (by decide +kernel)),fun p hp=>absurd hp (by simp),fun p hp=>absurd hp (by simp),fC _,fC _,h0,fun p hp=>absurd hp (by simp),⟨k5,Z⟩,k2,(fun x hx=>nomatch hx),hon,fun p hp=>absurd hp (by simp)⟩,k2⟩
theorem MD (g:gc c st b) (wf:Wf st) (h:SV (vv b) rs) (hne:rs≠[]) (hc:c<=90):pF st rs/\vC b rs/\jU b (c9 b rs) 0 0:=by
 have eW:bD (vv b)=bh b:=by unfold bD vv bh;rw [iS];rfl
 have hl:bD rs<bh b:=by
  rcases h.lost with z|z
  . rw [<-eW];exact z
  . exact absurd z hne
 have rb:vC b rs:=⟨h.nd,fun r hr=>by
  obtain ⟨r1,_,w,hw,e,le⟩:=h.row r hr
  obtain ⟨p,hp,rfl⟩:=cD.mp hw
  obtain ⟨j,hj,ej⟩:=tX hp
  exact ⟨r1,j,p,by rw [aX hj,ej],e,le⟩⟩
 have zw:=g.whole (by omega)
 refine ⟨⟨h.nd,hne,?_,fun r hr=>?_,by rw [g.rel.whole];exact hl,by rw [g.rel.whole];exact zw.2,g.prod.mono (by omega),fun u hu=>(g.cX u hu).mono (by omega),by have:=g.stp;omega⟩,rb,Yo g.kg rb hl g.own zw.2⟩
 . have:=h.len
   unfold vv at this
   rw [aG] at this
   have:=g.pl
   omega
 . obtain ⟨r1,j,q,hq,e,le⟩:=rb.row r hr
   obtain ⟨p,hp,e1,_,e3,_⟩:=g.rel.at hq
   have r2:=(h.row r hr).2.1
   have:Jm.Sz 60 (1000000000:Int):=o8 (by decide +kernel)
   exact ⟨r1,this.of_le (by omega),p,bV hp,e1.trans e,by rw [e3];exact le⟩
def sZ (K:Fg) (ρ:fU) (H:Hp) (z:Addr) (xs:List V):Prop:=∀(ρ':fU) (H':Hp),aF (out ρ H) (out ρ' H')->aB K H' z xs
theorem sZ.of (h:aB K H z xs):sZ K (fun _=>none) H z xs:=fun ρ' H' s=>by
 rcases h with (h|⟨o,h⟩)|h
 . exact .inl (.inl (xV (s _ _ (DM h rfl))).1)
 . exact .inl (.inr ⟨o,(xV (s _ _ (DM h rfl))).1⟩)
 . exact .inr h
theorem sZ.go (h:sZ K ρ H z xs) (s:aF (out ρ H) (out ρ' H')):sZ K ρ' H' z xs:=fun _ _ s'=>h _ _ (s.trans s')
inductive aaP (T:TC) (K:Fg) (vs:List V) (H:Hp) (Q:VK) (E:XK):Prop
 | mk (n m ρ A B st b:_) (a ln:Addr) (ns:List Int) (k:Int) (nms:List Str) (many:Nat) (_:vs=[.ref a, .int k, .ref A.a, .ref B.m, .ref ln, .int (many:Int)]) (_:n≠m) (_:HH T n ρ A H st) (_:a_ m ρ B H b) (_:gc 0 st b) (_:sZ K ρ H a (ns.map V.int)) (_:ns.length<=63) (_:0<=k) (_:k<=1000000) (_:sZ K ρ H ln (nms.map V.str)) (_:nms.Nodup) (_:(∀x∈nms,x9 x)) (_:(∀o∈b.own,x9 o)) (_:many<=nms.length) (_:many<=50) (_:st.nms=[]) (_:b.ao=[]) (_:b.eL=[]) (_:∀ρ' A' B' H' st' b',HH T n ρ' A' H' st'->a_ m ρ' B' H' b'->gc 0 st' b'->A'.a=A.a->B'.m=B.m->b'.own=b.own->b'.ao.length=many->st'.kn=st.kn->aF (out ρ H:_) (out ρ' H':_)->Q .bU H')
def OF (T:TC) (K:Fg):Sp:=bx (aaP T K)
theorem HH.other {A:HA} (h:HH T n ρ A H st) (f:Fr m ρ H ρ' H') (g:Gh ρ' H') (e:n≠m):HH T n ρ' A H' st:=⟨g,h.h.other f h.g e,h.wf⟩
theorem WI (g:gc c st b) (k:Nat):gc c { st with kn:=k } b:=⟨g.kg,⟨g.rel.own,g.rel.qd⟩,g.Fl,g.cX,g.stp,g.prod,g.bot,g.wo,g.we,g.pl,g.kl,g.own,g.nm,g.kL,g.eL,g.nk,g.on,g.sum⟩
theorem Ky:∀(l:List Str) (st:HS),(l.foldl gy st).kn=st.kn
 | [],_=>rfl
 | o::l,st=>by rw [mz,Ky l];rfl
theorem VB (ps:List Str) (hk:∀r∈ps,PyData.strOk r=true):PyData.canLayAll0 (ps.map PyData.str)=true:=by
 induction ps with
 | nil=>rfl
 | cons q r ih=>
   rw [bJ]
   unfold PyData.canLayAll0
   rw [ih fun p hp=>hk p (cI _ hp),Bool.and_true]
   unfold PyData.canLay0
   exact hk q cO
theorem Qw (ps:List Str):PyData.depthAll (ps.map PyData.str)<=1:=by
 induction ps with
 | nil=>exact fC _
 | cons q r ih=>
   rw [bJ]
   unfold PyData.depthAll
   have:PyData.depth (.str q)<=1:=Nat.le_of_ble_eq_true rfl
   omega
theorem BH (ps:List Str) (hk:∀r∈ps,PyData.strOk r=true):SeqAt.shaped (.list (ps.map PyData.str))=true:=by
 unfold SeqAt.shaped PyData.canLay0 PyData.depth
 rw [VB ps hk]
 have:=Qw ps
 simp only [Bool.true_and,decide_eq_true_eq]
 omega
theorem VC (ps:List Str):PyData.eqv (.list (ps.map PyData.str)) (.list (ps.map PyData.str))=true:=by
 unfold PyData.eqv
 induction ps with
 | nil=>rfl
 | cons q r ih=>
   rw [bJ]
   unfold PyData.eqvAll
   rw [ih,Bool.and_true]
   exact XW q
theorem Fo {K:Fg} {H:Hp}:∀(l:List Str),wO K H (l.map V.str) (l.map PyData.str)
 | []=> .nil
 | x::l=> .cons (.str x) (Fo l)
inductive aaQ (d:Nat) (T:TC) (K:Fg) (vs:List V) (H:Hp) (Q:VK) (E:XK):Prop
 | mk (n m ρ A B st b:_) (c:Nat) (_:vs=[.ref A.a, .ref B.m]) (_:n≠m) (_:HH T n ρ A H st) (_:a_ m ρ B H b) (_:gc c st b) (_:c<=100) (_:(∀o∈b.own,PyData.strOk o=true)) (_:st.kn+15000*d<=1000000) (_:∀ρ' A' H' k,HH T n ρ' A' H' { st with kn:=k }->k<=st.kn+15000*d->a_ m ρ' B H' b->A'.a=A.a->aF (out ρ H:_) (out ρ' H':_)->Q (.bl true) H')
def tR (d:Nat) (T:TC) (K:Fg):Sp:=bx (aaQ d T K)
structure cR (K:Fg) (x:Str) (st:Stmt):Prop where
 ex:∃(f:Addr) (oc:Value) (od an:Option Addr) (sl:Array (Option Value)) (kV dc pm cd ct:Value),PySem.W.nsIn K mainGlobals x=some (some (.ref f))/\K.lookup f=some ⟨oc,od, .func (PySem.W.fnOf x x (dR st) (cE st) (ay st) .none kV dc pm an cd ct),sl⟩/\PySem.W.codeIn K cd x=true/\PySem.W.keepIn K (.ref f)=true
theorem cR.at {st:Stmt} (d:cR K x st) (X:K.In h) (G:h.Ns mainGlobals mg):∃f fd,At K mg x st f fd:=by
 obtain ⟨f,oc,od,an,sl,kV,dc,pm,cd,ct,a,l,c,k⟩:=d.ex
 exact ⟨f,_,Wm X G a l c k⟩
structure dS (K:Fg) (C:Addr) (n qual:Str) (st:Stmt):Prop where
 ex:∃(f:Addr) (oc:Value) (od an:Option Addr) (sl:Array (Option Value)) (kV dc pm cd ct:Value),PySem.W.findIn K (.ref C) n=some (some (.ref f))/\PySem.W.isFn K (.ref f)=true/\K.lookup f=some ⟨oc,od, .func (PySem.W.fnOf n qual (dR st) (cE st) (ay st) .none kV dc pm an cd ct),sl⟩/\PySem.W.codeIn K cd qual=true/\PySem.W.keepIn K (.ref f)=true
theorem dS.at {n:Str} {st:Stmt} (d:dS K C n qual st) (cl:oj K C):∃f fd,iY K C n qual st f fd:=by
 obtain ⟨f,oc,od,an,sl,kV,dc,pm,cd,ct,a,i,l,c,k⟩:=d.ex
 exact ⟨f,_,JJ l c k,⟨a,i,k⟩,cl⟩
theorem dS.made {st:Stmt} (d:dS K C "__init__" qual st) (X:K.In h) (G:h.Ns mainGlobals mg) (a0:PySem.W.nsIn K mainGlobals x=some (some (.ref C))) (m:PySem.W.makesIn K C=true) (kc:PySem.W.keepIn K (.ref C)=true):∃f fd,GP K mg x C qual st f fd:=by
 obtain ⟨f,oc,od,an,sl,kV,dc,pm,cd,ct,a,i,l,c,k⟩:=d.ex
 exact ⟨f,_,JJ l c k,⟨m,a,i,kc⟩,kh X G a0⟩
variable {oc pm ct:Value} {od an:Option Addr} {sl:Array (Option Value)}
theorem cR.of {st:Stmt} {kV dc cd:Value} (a:PySem.W.nsIn K mainGlobals x=some (some (.ref f))) (l:K.lookup f=some ⟨oc,od, .func (PySem.W.fnOf x x (dR st) (cE st) (ay st) .none kV dc pm an cd ct),sl⟩) (c:PySem.W.codeIn K cd x=true) (k:PySem.W.keepIn K (.ref f)=true):cR K x st:=⟨⟨_,_,_,_,_,_,_,_,_,_,a,l,c,k⟩⟩
theorem dS.of {n:Str} {st:Stmt} {kV dc cd:Value} (a:PySem.W.findIn K (.ref C) n=some (some (.ref f))) (i:PySem.W.isFn K (.ref f)=true) (l:K.lookup f=some ⟨oc,od, .func (PySem.W.fnOf n qual (dR st) (cE st) (ay st) .none kV dc pm an cd ct),sl⟩) (c:PySem.W.codeIn K cd qual=true) (k:PySem.W.keepIn K (.ref f)=true):dS K C n qual st:=⟨⟨_,_,_,_,_,_,_,_,_,_,a,i,l,c,k⟩⟩
section
variable {X:Cx}
inductive ada (K:Fg) (x:V) (y:V) (H:Hp) (Q:VK):Prop
 | mk  (a b xs ys:_) (_:x = .ref a) (_:y = .ref b) (_:cT K H a xs) (_:cT K H b ys) (_:xs.length+ys.length<=sizeLine) (_:(xs=[]->Q (.ref b) H)) (_:(xs≠[]->ys=[]->Q (.ref a) H)) (_:(xs≠[]->ys≠[]->∀p,H p=none->Q (.ref p) (upd H p (.tup (xs++ys)))))
theorem Fp (K:Fg) (hK:X.K=K:=by rfl):gT X (binaryOp .Add) (ada K):=by
 subst hK
 intro pins s σ H x y v u Q I rx ry h
 obtain ⟨a,b,xs,ys,rfl,rfl,ha,hb,hz,q0,q1,q2⟩:=h
 by_cases hx:xs=[]
 . cases rx
   cases ry
   obtain ⟨its,r1,ht,_⟩:=I.tuple ha
   obtain ⟨its2,r2,hb',_⟩:=I.tuple hb
   obtain ⟨⟨cls,dd,data,sl⟩,ho,hc,n,hd⟩:=id ht
   obtain ⟨⟨af_,dd2,data2,sl2⟩,ho2,hc2,n2,hd2⟩:=id hb'
   simp only at hc hd hc2 hd2
   subst hc hd hc2 hd2
   exact concat_meets ⟨_,ho,Z⟩ ⟨_,ho2,Z⟩ noFill_tuple_add seq_tuple_add PySem.F.slot_tuple_add PySem.F.entry_tuple_add (PySem.F.args_tuple_add_2 _ _)
    (tuple_addW0 a b its.toArray its2.toArray n n2 dd dd2 sl sl2 (by rw [r1.Ax.mpr hx];rfl)) ⟨ho,ho2,⟨.ref b,H,I,Z,q0 hx⟩⟩
 . exact Xx pins s σ H _ _ v u Q I rx ry ⟨a,b,xs,ys,Z,Z,ha,hb,hx,hz,q1 hx,q2 hx⟩
variable {o i:Expr} {pos:Pos} {td ty:TE}
end
theorem OG (K:Fg) (hK:X.K=K:=by rfl):RK X (ZG K):=hK▸ZH
theorem ME:PySem.W.kitOne K (.type "int") (.type "str")=some false:=by rfl
theorem Yu (xs:List V) (k:Nat):vQ xs none (some (k:Int))=xs.take k:=by
 unfold vQ
 rw [HT.Ca,HT.wL,List.drop_zero,Nat.sub_zero]
 rcases Nat.le_total k xs.length with h|h
 . rw [Nat.min_eq_left h]
 . rw [Nat.min_eq_right h,cA,BX h]
theorem Te (xs:List V) (k:Nat):vQ xs (some (k:Int)) none=xs.drop k:=by
 unfold vQ
 rw [HT.Ca,HT.wL]
 rcases Nat.le_total k xs.length with h|h
 . rw [Nat.min_eq_left h]
   exact BX (by rw [Jq];omega)
 . rw [Nat.min_eq_right h,CZ,List.drop_of_length_le h,List.take_nil]
section
variable {a b:List Nat} {m v:Int} (ha:o_ a) (hb:o_ b) (hm:1<=m) (hm2:m<=1000000000) (hv:0<=v) (hv2:v<=1000000000)
include ha hb hm hm2 hv hv2 in
end
section
variable {X:Cx}
end
section
variable {X:Cx}
end
inductive adb (x:V) (y:V) (H:Hp) (Q:VK):Prop
 | mk  (a b:List Nat) (_:x = .str (tx a)) (_:y = .str (tx b)) (_:a.length+b.length<=10000000) (_:Q (.str (tx (a++b))) H)
theorem Yv:gT X (binaryOp .Add) adb:=by
 intro pins s σ H x y v u Q I rx ry h
 obtain ⟨a,b,rfl,rfl,hz,q⟩:=h
 exact Di pins s σ H _ _ v u Q I rx ry ⟨tx a,tx b,Z,Z,by rw [j9,j9,fm];omega,by rw [R7];exact q⟩
def Trc (h:Heap) (x T C:Addr):Prop:=∃oe vs a0 oT ts,h.get? x=some oe/\oe.cls = .ref C/\vs[0]?=some a0/\oe.data = .fields vs/\vs[1]?=some (.ref T)/\T≠x/\h.get? T=some oT/\oT.data = .fields ts/\ts[3]?=some .none
def fW (P:Program) (w:World):wK:=fun outer H s E e s'=>∃(x T C:Addr) (H':Hp),e = .ref x/\s'.os=s.os/\AllBare s'.gens/\Un (frs outer) [] H H' s.heap s'.heap/\gM P w H' s'.heap/\Trc s'.heap x T C/\
 s.heap.get? x=none/\s.heap.get? T=none/\H' x=none/\H' T=none/\E e (some C) H'
variable {h':Heap}
theorem gM.Kz {w:World} (x:gM P w H h) (k:∀b o u,H b=some o->h.get? b=some u->h'.get? b=some u):gM P w H h':=fun a o e=>
 (x a o e).stay (fun b u hb q=>by
   rcases hb with rfl|hb
   . exact k _ _ _ e q
   . exact k _ _ _ hb q) (fun _ q=>q) fun _ _ q=>q
theorem dJ.isAt {w:World} (x:dJ P w H h a o):∃u,h.get? a=some u:=by
 cases o with
 | lst xs=>obtain ⟨_,_,_,_,e⟩:=x;exact ⟨_,e⟩
 | tup xs=>obtain ⟨_,_,_,p⟩:=x;obtain ⟨o,e,_⟩:=p;exact ⟨_,e⟩
 | dK kvs=>obtain ⟨_,_,_,_,o,_,_,e,_⟩:=x;exact ⟨_,e⟩
 | dT kvs=>obtain ⟨_,_,_,_,o,_,_,e,_⟩:=x;exact ⟨_,e⟩
 | set S n=>obtain ⟨o,_,_,_,e,_⟩:=x;exact ⟨_,e⟩
 | ins C dx fs=>obtain ⟨_,_,_,e,_⟩:=x;exact ⟨_,e⟩
 | own y=>obtain ⟨_,e⟩:=x;exact ⟨_,e⟩
 | xd fs=>obtain ⟨_,⟨_,_,_,e,_⟩,_⟩:=x;exact ⟨_,e⟩
 | vh lo hi=>obtain ⟨_,_,_,e⟩:=x;exact ⟨_,e⟩
 | fk ob u=>obtain ⟨e,_⟩:=x;exact ⟨_,e⟩
 | Gs ps=>exact ⟨_,(show h.get? a=some _ from x)⟩
 | met f y=>exact ⟨_,(show h.get? a=some _ from x)⟩
 | ext φ=>obtain ⟨_,⟨_,e⟩,_⟩:=x;exact ⟨_,e⟩
section
variable {P:Program} {w:World} {K:Fg} {mg:SO} {base:Heap} {N:List Str} {qual:Str} {scope:Scope} {f:Addr} {cd:Value} {A:Around} {outer:List Env} {s0:Shared} {H0:Hp} {E:XK} {CX:wK}
theorem OH {x:Addr} {a0:Value} {B:Heap} (I:Inv (cL CX P w K mg base N qual scope f cd A outer s0 H0 E) pins σ H s)
  (hB:∀b o,s.heap.get? b=some o->b∉frs (envOfC qual scope s0.heap.objs.size f cd::outer)->s0.heap.get? b≠none\/H b≠none->B.get? b=some o)
  (hfl:Heap.FlyingW B outer x (.ref C) a0 h') (hup:s.heap.UpToSlots h') (hx:s0.heap.get? x=none) (BI:H x=none)
  (q:E (.ref x) (some C) H):fW P w outer H0 s0 E (.ref x) { s with heap:=h' }:=by
 obtain ⟨st,bx,fr,oe,vs,T,oT,ts,h1,⟨h2,h3⟩,h4,h5,h6,h7,h8,h9,BJ⟩:=hfl
 have Je:T∉frs outer:=fun m=>by
  obtain ⟨_,o,ho,hd⟩:=fr.mem m
  rw [h8] at ho;cases ho
  exact hd _ h9
 have L0:s0.heap.get? s0.heap.objs.size=none:=Heap.get?_none_of_le (aO _)
 have big:∀b o,s0.heap.get? b=some o->b∉frs outer->b∉frs (envOfC qual scope s0.heap.objs.size f cd::outer):=fun b o e n m=>by
  have m':b∈s0.heap.objs.size::frs outer:=m
  rcases c_.mp m' with z|z
  . rw [z,L0] at e;cases e
  . exact n z
 have hT0:s0.heap.get? T=none:=by
  cases e:s0.heap.get? T with
  | none=>rfl
  | some o=>
    obtain ⟨o',ho'⟩:=I.base.there T o e (by simp [cL])
    have:=hB T o' ho' (big T o e Je) (.inl (by rw [e];exact fun z=>nomatch z))
    rw [h6] at this;cases this
 have zL:H T=none:=by
  cases e:H T with
  | none=>rfl
  | some o=>
    have lt:=I.hok.lt e
    have nst:T∉frs (envOfC qual scope s0.heap.objs.size f cd::outer):=fun m=>by
     have:=I.wF T m
     rw [e] at this;cases this
    have hob:∃u,s.heap.get? T=some u:=(I.hok T o e).isAt
    obtain ⟨u,hu⟩:=hob
    have:=hB T u hu nst (.inr (by rw [e];exact fun z=>nomatch z))
    rw [h6] at this;cases this
 refine ⟨x,T,C,H,Z,I.os,I.bare,⟨fun b o e n nf _=>?_,fun b o e n m _=>?_,fun b o e n _=>?_,fun b o e _=>?_,I.base.tups,I.base.mS,I.base.oV⟩,?_,⟨oe,vs,a0,oT,ts,h1,h2,h3,h4,h5,h7,h8,h9,BJ⟩,hx,hT0,BI,zL,q⟩
 . exact st b o (hB b o (I.base.keep b o e n nf (by simp [cL])) (big b o e nf) (.inl (by rw [e];exact fun z=>nomatch z)))
 . obtain ⟨sl,hs⟩:=I.base.slot b o e n m (by simp [cL])
   have fr0:=I.ok.nO
   obtain ⟨_,o',ho',hd'⟩:=fr0.mem m
   obtain ⟨Ju,hs'⟩:=hup b _ hs (fun vs z=>by
    have ho2:s0.heap.get? b=some o':=ho'
    rw [e] at ho2;cases ho2
    exact hd' vs z)
   exact ⟨Ju,hs'⟩
 . exact I.base.free b o e n (by simp [cL])
 . obtain ⟨o',ho'⟩:=I.base.there b o e (by simp [cL])
   by_cases m:b∈frs outer
   . have fr0:=I.ok.nO
     obtain ⟨_,o2,ho2,hd2⟩:=fr.mem m
     exact ⟨o2,ho2⟩
   . exact ⟨o',st b o' (hB b o' ho' (big b o e m) (.inl (by rw [e];exact fun z=>nomatch z)))⟩
 . exact I.hok.Kz fun b o u e hu=>st b u (hB b u hu (fun m=>by have:=I.wF b m;rw [e] at this;cases this) (.inr (by rw [e];exact fun z=>nomatch z)))
theorem VD {x T:Addr} (I:Inv (cL (fW P w) P w K mg base N qual scope f cd A outer s0 H0 E) pins σ H s) (t:Trc s.heap x T C) (hx:s0.heap.get? x=none) (hT:s0.heap.get? T=none) (BI:H x=none) (zL:H T=none)
  (q:E (.ref x) (some C) H):(cL (fW P w) P w K mg base N qual scope f cd A outer s0 H0 E).xe (.ref x) s:=by
 obtain ⟨oe,vs,a0,oT,ts,h1,h2,h3,h4,h5,h6,h7,h8,h9⟩:=t
 have hst:=I.stack
 have VE:s.heap.FunFrames base (envOfC qual scope s0.heap.objs.size f cd::outer):=hst
 have hin:∀env∈(envOfC qual scope s0.heap.objs.size f cd::outer),∀b,env.frame=some b->b∈x::T::frs (envOfC qual scope s0.heap.objs.size f cd::outer):=fun env he b hb=>cI _ (cI _ (EW.mpr ⟨env,he,hb⟩))
 refine wpAny_leaves_onW (base:=PySem.W.hideAll s.heap (x::T::frs (envOfC qual scope s0.heap.objs.size f cd::outer))) (L:=s0.heap.objs.size) (cls:= .ref C) (a0:=a0) (outer:=outer) I.ok.frames rfl ⟨fun b o e=>Pg _ e,Jl _ cO,PySem.W.funFrames_hide VE hin,oe,vs,T,oT,ts,h1,⟨h2,h3⟩,h4,h5,Jl _ (cI _ cO),h6,h7,h8,h9⟩ fun h' fl up=>?_
 refine OH I (fun b o e n hb=>Pe _ e fun m=>?_) fl up hx BI q
 rcases c_.mp m with z|m
 . rw [z] at hb
   rcases hb with hb|hb
   . exact hb hx
   . exact hb BI
 . rcases c_.mp m with z|m
   . rw [z] at hb
     rcases hb with hb|hb
     . exact hb hT
     . exact hb zL
   . exact n m
theorem WJ:Passes (fW P w) (cL (fW P w) P w K mg base N qual scope f cd A outer s0 H0 E) E:=fun pins σ H s e s' I h=>by
 obtain ⟨x,T,C,H',rfl,os,bare,un,hok,t,hx,hT,BI,zL,q⟩:=h
 have I':Inv (cL (fW P w) P w K mg base N qual scope f cd A outer s0 H0 E) pins σ H' s':=I.IZ (ch:=[]) os un hok bare (fun b z=>absurd z (by simp))
 have old:∀b,s.heap.get? b=none->s0.heap.get? b=none:=fun b e=>by
  cases q:s0.heap.get? b with
  | none=>rfl
  | some o=>
    obtain ⟨o',ho'⟩:=I.base.there b o q (by simp [cL])
    rw [e] at ho';cases ho'
 exact VD I' t (old x hx) (old T hT) BI zL q
theorem Qx {x:Addr} {args:List Value} (I:Inv (cL (fW P w) P w K mg base N qual scope f cd A outer s0 H0 E) pins σ H s) (hm:Heap.MadeExcOf s.heap h1 x (.ref C) args)
  (q:E (.ref x) (some C) H):(cL (fW P w) P w K mg base N qual scope f cd A outer s0 H0 E).xe (.ref x) { s with heap:=h1 }:=by
 have VE:s.heap.FunFrames base (envOfC qual scope s0.heap.objs.size f cd::outer):=I.stack
 have hin:∀env∈(envOfC qual scope s0.heap.objs.size f cd::outer),∀b,env.frame=some b->b∈frs (envOfC qual scope s0.heap.objs.size f cd::outer):=fun env he b hb=>EW.mpr ⟨env,he,hb⟩
 have I1:Inv (cL (fW P w) P w K mg base N qual scope f cd A outer s0 H0 E) pins σ H { s with heap:=h1 }:=I.kept (t':=s.toks) hm.keeps
 have BI:H x=none:=by
  cases e:H x with
  | none=>rfl
  | some o=>
    obtain ⟨u,hu⟩:=(I.hok x o e).isAt
    rw [hm.new] at hu;cases hu
 have Tf:s0.heap.get? x=none:=by
  cases e:s0.heap.get? x with
  | none=>rfl
  | some o=>
    obtain ⟨o',ho'⟩:=I.base.there x o e (by simp [cL])
    rw [hm.new] at ho';cases ho'
 refine wpAny_leaves_madeW (base:=PySem.W.hideAll s.heap (frs (envOfC qual scope s0.heap.objs.size f cd::outer))) (h:=s.heap) (L:=s0.heap.objs.size) (outer:=outer) I.ok.frames rfl (fun b o e=>Pg _ e) (PySem.W.funFrames_hide VE hin) hm fun h' t fl _ _ up=>?_
 refine OH I1 (fun b o e n hb=>Pe _ ?_ n) fl up Tf BI q
 rcases hb with hb|hb
 . cases e0:s0.heap.get? b with
   | none=>exact absurd e0 hb
   | some o0=>
     obtain ⟨o',ho'⟩:=I.base.there b o0 e0 (by simp [cL])
     have e':h1.get? b=some o:=e
     have:=hm.keeps b o' ho'
     rw [e'] at this;cases this
     exact ho'
 . cases e0:H b with
   | none=>exact absurd e0 hb
   | some o0=>
     obtain ⟨o',ho'⟩:=(I.hok b o0 e0).isAt
     have e':h1.get? b=some o:=e
     have:=hm.keeps b o' ho'
     rw [e'] at this;cases this
     exact ho'
end
def aaS:List Value:=[.type "ValueError", .type "Exception", .type "BaseException", .type "object"]
structure ng (K:Fg) (C:Addr):Prop where
 ex:∃(nm q:Str) (N:Addr) (bs bm:List Value) (hdct:Bool) (sn:List Str) (sub:List Value) (ab:Bool) (col:Option Bool) (dd:Option Addr) (k0 k1 k2 k3 k5:Option Value) (mN:SO),mN "__init__"=none/\bm.contains (.type "BaseException")=true/\∀h:Heap,K.In h->
  h.get? C=some (excClassObj nm q C N bs bm hdct sn sub ab col dd k0 k1 k2 k3 k5 "ValueError.__new__")/\h.Ns N mN/\OwnTail h aaS bm
section
variable {P:Program} {w:World} {K:Fg} {mg:SO} {base:Heap} {N:List Str} {qual:Str} {scope:Scope} {f:Addr} {cd:Value} {A:Around} {outer:List Env} {s0:Shared} {H0:Hp} {E:XK}
def aaT (C:Addr) (E:XK):TS:=fun _ _ H=>∀x,E (.ref x) (some C) H
structure Dx (P:Program) (w:World) (K:Fg) (mg:SO) (base:Heap) (k:Nat) (x:Str) (ps:List Str) (sp:Sp):Prop where
 ex:∃f fd,iZ P w K mg base (fW P w) k f fd ps sp/\Binds K fd ps []/\PySem.W.keepIn K (.ref f)=true/\mg x=some (.ref f)
theorem At.okX {st:Stmt} {f:Addr} {N:List Str} {k:Nat} (F:At K mg x st f fd) (S:aI N ps (ay st)) (len:∀vs H Q E,sp vs H Q E->vs.length=ps.length)
  (hbody:∀(cdv:Value) (A:Around) (outer:List Env) (s:Shared) (H:Hp) (vs:List V) (Q:VK) (E:XK),dB k (A.deeper (envOfC x (ay st) s.heap.objs.size f cdv))->sp vs H Q E->
    ∃t,qe (cL (fW P w) P w K mg base N x (ay st) f cdv A outer s H E) (cE st) t/\t { nx:=fun _ H'=>Q .bU H',rt:=Q } (start N vs) H)
  (h:∀(kV doc pm:Value) (an:Option Addr) (cdv ct:Value) (us:List Value),us.length=ps.length->bindArgs (PySem.W.fnOf x x (dR st) (cE st) (ay st) .none kV doc pm an cdv ct) ⟨us,[]⟩=pure (ps.zip us)):
  Dx P w K mg base (k+1) x ps sp:=by
 refine ⟨f,fd,?_,F.fn.binds h,F.fn.kp,F.name⟩
 obtain ⟨oc,od,kV,doc,pm,an,cdv,ct,osl,rfl,lk,hcd⟩:=F.fn.ex
 exact PY lk hcd S len fun A outer s H vs Q E hr oZ=>hbody cdv A outer s H vs Q E hr oZ
end
def agv (h:Heap) (x T C:Addr) (fl:Value):Prop:=∃oe vs a0 oT ts,h.get? x=some oe/\oe.cls = .ref C/\vs[0]?=some a0/\oe.data = .fields vs/\vs[1]?=some (.ref T)/\T≠x/\h.get? T=some oT/\oT.data = .fields ts/\ts[3]?=some fl
structure uq (X:Cx) (pins:AO) (σ:St) (Hc:Hp) (sc:Shared) (H:Hp) (x C:Addr) (fl:Value) (s:Shared):Prop where
 ic:Inv X pins σ Hc sc
 os:s.os=sc.os
 bare:AllBare s.gens
 un:Un (frs X.stack) [] Hc H sc.heap s.heap
 hok:gM X.prog X.w H s.heap
 nx:sc.heap.get? x=none
 hx:H x=none
 tr:∃T,agv s.heap x T C fl/\sc.heap.get? T=none/\H T=none
variable {M:Model} {A:Around} {Q:Unit->Shared->Prop}
section
variable {X:Cx} {pins:AO} {σ:St} {Hc H:Hp} {sc s:Shared} {x C:Addr} {fl:Value}
theorem uq.inv (F:uq X pins σ Hc sc H x C fl s):Inv X pins σ H s:=F.ic.IZ (ch:=[]) F.os F.un F.hok F.bare (fun b z=>absurd z (by simp))
theorem uq.step {B:Heap} {fl' a0:Value} (F:uq X pins σ Hc sc H x C fl s) (hB:∀b o,s.heap.get? b=some o->b∉frs X.stack->sc.heap.get? b≠none\/H b≠none->B.get? b=some o)
  (st:B.StaysIn h') (fr:h'.FunFrames B X.stack) (tr:h'.TracedAtW B x (.ref C) a0 fl') (up:s.heap.UpToSlots h'):uq X pins σ Hc sc H x C fl' { s with heap:=h' }:=by
 have I:=F.inv
 obtain ⟨oe,vs,T,oT,ts,h1,⟨h2,h3⟩,h4,h5,h6,h7,h8,h9,BJ⟩:=tr
 have Je:T∉frs X.stack:=fun m=>by
  obtain ⟨_,o,ho,hd⟩:=fr.mem m
  rw [h8] at ho;cases ho
  exact hd _ h9
 have hT0:sc.heap.get? T=none:=by
  cases e:sc.heap.get? T with
  | none=>rfl
  | some o=>
    obtain ⟨o',ho'⟩:=F.un.there T o e (by simp)
    have:=hB T o' ho' Je (.inl (by rw [e];exact fun z=>nomatch z))
    rw [h6] at this;cases this
 have zL:H T=none:=by
  cases e:H T with
  | none=>rfl
  | some o=>
    obtain ⟨u,hu⟩:=(F.hok T o e).isAt
    have:=hB T u hu Je (.inr (by rw [e];exact fun z=>nomatch z))
    rw [h6] at this;cases this
 refine ⟨F.ic,F.os,F.bare,⟨fun b o e n nf _=>?_,fun b o e n m _=>?_,F.un.free,fun b o e _=>?_,F.un.tups,F.un.mS,F.un.oV⟩,?_,F.nx,F.hx,T,⟨oe,vs,a0,oT,ts,h1,h2,h3,h4,h5,h7,h8,h9,BJ⟩,hT0,zL⟩
 . exact st b o (hB b o (F.un.keep b o e n nf (by simp)) nf (.inl (by rw [e];exact fun z=>nomatch z)))
 . obtain ⟨sl,hs⟩:=F.un.slot b o e n m (by simp)
   obtain ⟨_,o',ho',hd'⟩:=F.ic.stack.mem m
   obtain ⟨Ju,hs'⟩:=up b _ hs (fun vs z=>by
    rw [e] at ho';cases ho'
    exact hd' vs z)
   exact ⟨Ju,hs'⟩
 . obtain ⟨o',ho'⟩:=F.un.there b o e (by simp)
   by_cases m:b∈frs X.stack
   . obtain ⟨_,o2,ho2,hd2⟩:=fr.mem m
     exact ⟨o2,ho2⟩
   . exact ⟨o',st b o' (hB b o' ho' m (.inl (by rw [e];exact fun z=>nomatch z)))⟩
 . exact F.hok.Kz fun b o u e hu=>st b u (hB b u hu (fun m=>by have:=I.wF b m;rw [e] at this;cases this) (.inr (by rw [e];exact fun z=>nomatch z)))
theorem uq.hid (F:uq X pins σ Hc sc H x C fl s):∃(a0:Value) (B:Heap),(∀b o,s.heap.get? b=some o->b∉frs X.stack->sc.heap.get? b≠none\/H b≠none->B.get? b=some o)/\B.StaysIn s.heap/\B.get? x=none/\s.heap.FunFrames B X.stack/\s.heap.TracedAtW B x (.ref C) a0 fl:=by
 obtain ⟨T,⟨oe,vs,a0,oT,ts,h1,h2,h3,h4,h5,h6,h7,h8,h9⟩,hT,zL⟩:=F.tr
 have hin:∀env∈X.stack,∀b,env.frame=some b->b∈x::T::frs X.stack:=fun env he b hb=>cI _ (cI _ (EW.mpr ⟨env,he,hb⟩))
 refine ⟨a0,PySem.W.hideAll s.heap (x::T::frs X.stack),fun b o e n hb=>Pe _ e fun m=>?_,fun b o e=>Pg _ e,Jl _ cO,PySem.W.funFrames_hide F.inv.stack hin,oe,vs,T,oT,ts,h1,⟨h2,h3⟩,h4,h5,Jl _ (cI _ cO),h6,h7,h8,h9⟩
 rcases c_.mp m with z|m
 . rw [z] at hb
   rcases hb with hb|hb
   . exact hb F.nx
   . exact hb F.hx
 . rcases c_.mp m with z|m
   . rw [z] at hb
     rcases hb with hb|hb
     . exact hb hT
     . exact hb zL
   . exact n m
theorem VF (F:uq X pins σ Hc sc H x C .none s) (hA:A.frames=some X.stack) (hs:X.stack=X.env::X.outer) (hf:X.env.frame=some X.env.locals)
  (h:∀s',uq X pins σ Hc sc H x C (rawInt X.env.locals) s'->Q () s'):wpAny M A (noteFrame (.ref x) X.env) Q E s:=by
 obtain ⟨a0,B,hB,st,bx,fr,tr⟩:=F.hid
 rw [hs] at fr hA
 refine wpAny_looks_onW (base:=B) hA hf ⟨st,bx,fr,tr⟩ fun h' hh up=>?_
 obtain ⟨k1,k2,k3,k4⟩:=hh
 rw [<-hs] at k3
 exact h _ (F.step hB k1 k3 k4 up)
theorem KA (F:uq X pins σ Hc sc H x C fl s)
  (h:∀s',uq X pins σ Hc sc H x C .none s'->Q () s'):wpAny M A (setFlight (.ref x) none) Q E s:=by
 obtain ⟨a0,B,hB,st,bx,fr,tr⟩:=F.hid
 refine wpAny_setFlight_noneW (base:=B) st fr tr fun h' k1 k2 k3 k4=>h _ (F.step hB k1 k2 k3 fun b o hb hn=>⟨o.slots,k4 b o hb hn⟩)
end
def Ct (x C:Addr):HO:= .ext fun h=>∃o,h.get? x=some o/\o.cls = .ref C
variable {e:Expr} {es:List Expr} {t':Nat}
section
variable {X:Cx} {pins:AO} {σ:St} {Hc H:Hp} {sc s:Shared} {x C:Addr} {fl:Value}
theorem ade {k:Nat} {g:Str} {t:TA} {p:Pos} (D:Dx X.prog X.w X.K X.mg X.base j g ps sp) (hr:dB k X.A) (hno:∀e s,X.xe e s->False) (ha:PA X (e::es) t) (hj:j<=k) (hg:Gl X g)
  (hdb:(g==("__debug__":Str))=false) (he:starEach (e::es) X.env=(false,eval e X.env)::starEach es X.env) (hpl:(backTo pos (starEach es X.env)).any (·.1)=false)
  {Q:VK} {R:Addr->Hp->Prop} (I:Inv X pins σ H s) (h:t σ H fun vs H1=>sp (vs++[]) H1 Q fun _ c H'=>∃C,c=some C/\R C H'):
  wpAny (model X.prog X.w) X.A (eval (.Call (.Name g p) (e::es) [] pos) X.env) (EP X pins σ Q) (fun ev s'=>∃x C Hc sc H',ev = .ref x/\uq X pins σ Hc sc H' x C .none s'/\R C H') s:=by
 obtain ⟨f,fd,F,hb,kp,m⟩:=D.ex
 refine EX (qj I hg m ?_ hdb)
 refine Ph (h₀:=X.base) I.ok.mod.NL kp (gP (ha pos pins s σ H _ I h) (fun us s1 ⟨vs,H1,I1,r,q⟩=>⟨I1.iJ,?_⟩) fun _ _ z=>(hno _ _ z).elim) he hpl
 have r2:Vals (vs++[]) (us++[]):=r.append .nil
 have hl:(us++[]).length=ps.length:=by rw [<-r2.length];exact F.len _ _ _ _ q
 refine wpAny_call (Ar (F.run X.A X.stack s1 H1 ⟨us,[]⟩ (us++[]) (vs++[]) Q _ (hr.mono hj) I1.UK (hb s1 us I1.iJ hl) r2 q) fun r s' hq=>?_)
 cases r with
 | error e=>
   have hq':fW X.prog X.w X.stack H1 s1 (fun _ c H'=>∃C,c=some C/\R C H') e s':=hq
   obtain ⟨x,T,C,H',rfl,os,bare,un,hok,tr,hx,hT,BI,zL,C',ec,hR⟩:=hq'
   cases ec
   exact ⟨x,C,H1,s1,H',Z,⟨I1,os,bare,un,hok,hx,BI,T,tr,hT,zL⟩,hR⟩
 | ok fl=>
   cases fl with
   | ret u=>exact I1.after hq
   | next=>exact False.elim hq
   | brk=>exact False.elim hq
   | cont=>exact False.elim hq
abbrev Cx.held (X:Cx) (x:Addr):Cx:={ X with A:=X.A.mark (some (.ref x)),calm:=false }
theorem Inv.held (I:Inv X pins σ H s) (x:Addr):Inv (X.held x) pins σ H s:=
 ⟨⟨I.ok.mod,I.ok.kind,I.ok.glob,I.ok.blt,I.ok.above,I.ok.inj,I.ok.has,I.ok.gO,(fun z=>nomatch z),I.ok.frames,I.ok.stk,I.ok.Js,I.ok.bs,I.ok.C8,I.ok.E2,I.ok.B0,I.ok.nO,I.ok.Gu⟩,I.os,I.bare,I.base,I.loc,I.cell,I.free,I.jD,I.pin,I.hok,I.len⟩
theorem uq.known (F:uq X pins σ Hc sc H x C fl s):Inv X pins σ (upd H x (Ct x C)) s:=by
 have I:=F.inv
 have ne:∀{b o},sc.heap.get? b=some o->b≠x:=fun e z=>by rw [z,F.nx] at e;cases e
 have ne0:∀{b o},X.s₀.heap.get? b=some o->b∉X.ex->b≠x:=fun {b o} e n=>by
  obtain ⟨o',ho'⟩:=F.ic.base.there b o e n
  exact ne ho'
 have Tg:∀{b o},H b=some o->b≠x:=fun e z=>by rw [z,F.hx] at e;cases e
 obtain ⟨T,⟨oe,vs,a0,oT,ts,h1,h2,_⟩,_⟩:=F.tr
 refine ⟨I.ok,I.os,I.bare,⟨I.base.keep,I.base.slot,fun b o e n nx=>?_,I.base.there,fun b xs e=>?_,fun b o u e=>?_,fun b ps e=>?_⟩,I.loc,I.cell,?_,fun y c e=>?_,fun p hp=>?_,fun b o e=>?_,I.len⟩
 . rw [av (ne0 e nx)];exact I.base.free b o e n nx
 . have z:=I.base.tups b xs e
   rw [av (Tg z)];exact z
 . have z:=I.base.mS b o u e
   rw [av (Tg z)];exact z
 . obtain ⟨more,z⟩:=I.base.oV b ps e
   exact ⟨more,by rw [av (Tg z)];exact z⟩
 . obtain ⟨m,⟨o,_,_,ho,_⟩,_⟩:=F.ic.loc
   rw [av (ne ho)];exact I.free
 . obtain ⟨v,o,ho,_⟩:=F.ic.cell y c e
   rw [av (ne ho)];exact I.jD y c e
 . obtain ⟨a,b,c⟩:=I.pin p hp
   obtain ⟨a',_⟩:=F.ic.pin p hp
   exact ⟨a,by rw [av (ne a')];exact b,c⟩
 . by_cases z:b=x
   . subst z
     rw [ah] at e
     cases e
     exact ⟨⟨oe,h1,h2⟩,⟨oe,h1⟩,fun h1 h2 ⟨o,a,c⟩ k=>⟨o,k o a,c⟩⟩
   . rw [av z] at e
     exact (F.hok b o e).stay (fun _ _ _ q=>q) (fun c q=>by rw [av (Tg q)];exact q) fun c xs q=>by rw [av (Tg q)];exact q
theorem Inv.gone {n:Str} {v:Option Value} {m:SO} (I:Inv X pins σ H s) (hN:X.N.Nodup) (hj:X.N[j]?=some n) (hm:s.heap.Ns X.env.locals m) (hl:∀(i:Nat) (x:Str) (v:V),X.N[i]?=some x->σ[i]?=some (some v)->Ro X.env.scope x->∃u,RelV v u/\Look X.env s.heap m x u)
  (hn:h'.Ns X.env.locals (fun x=>if x=n then v else m x)) (hs:Heap.SameBut X.env.locals s.heap h'):Inv X pins (σ.set j none) H { s with heap:=h',toks:=t' }:=by
 have NN:∀b o,X.s₀.heap.get? b=some o->b≠X.env.locals:=fun b o e=>dM (kW (bL e) I.ok.above)
 have kp:∀b o,b≠X.env.locals->s.heap.get? b=some o->h'.get? b=some o:=fun b o ne e=>(hs.2 b ne).trans e
 have cellK:∀x c,X.env.cells.lookup x=some c->∀v,s.heap.IsCell c v->h'.IsCell c v:=fun x c e v ⟨o,ho,hd⟩=>⟨o,kp c o (I.Gv x c e) ho,hd⟩
 refine ⟨I.ok,I.os,I.bare,⟨fun b o e n hb hx=>kp b o (NN b o e) (I.base.keep b o e n hb hx),fun b o e n hb hx=>?_,I.base.free,fun b o e hx=>?_,I.base.tups,I.base.mS,I.base.oV⟩,?_,fun x c e=>?_,I.free,I.jD,fun p hp=>?_,?_,by rw [lB];exact I.len⟩
 . obtain ⟨sl,e1⟩:=I.base.slot b o e n hb hx
   exact ⟨sl,kp b _ (NN b o e) e1⟩
 . obtain ⟨o',e1⟩:=I.base.there b o e hx
   exact ⟨o',kp b o' (NN b o e) e1⟩
 . refine ⟨_,hn,fun i y w e1 e2 e3=>?_⟩
   by_cases z:i=j
   . subst z
     rw [List.getElem?_set_self'] at e2
     cases q:σ[i]? with
     | none=>rw [q] at e2;cases e2
     | some a=>rw [q] at e2;cases e2
   . rw [yN (bY z)] at e2
     obtain ⟨u,r,l⟩:=hl i y w e1 e2 e3
     refine ⟨u,r,?_⟩
     rcases l with ⟨k,l⟩|⟨k,c,e,zc⟩
     . have hne:y≠n:=fun q=>z (xQ hN e1 (q▸hj))
       exact .inl ⟨k,by show (if y=n then v else m y)=some u;rw [aA hne];exact l⟩
     . exact .inr ⟨k,c,e,cellK y c e _ zc⟩
 . obtain ⟨v,z⟩:=I.cell x c e
   exact ⟨v,cellK x c e v z⟩
 . obtain ⟨e,n,ne,nf,d⟩:=I.pin p hp
   exact ⟨kp p.1 p.2 ne e,n,ne,nf,d⟩
 . exact I.hok.Kz fun b o u e hu=>kp b u (fun z=>by rw [z,I.free] at e;cases e) hu
end
def FX (X:Cx) (pins:AO) (R:Addr->St->Hp->Prop) (ev:Value) (s:Shared):Prop:=
 ∃x C σ Hc sc H',ev = .ref x/\uq X pins σ Hc sc H' x C .none s/\R C σ H'
abbrev TX:=Ends->(Addr->St->Hp->Prop)->St->Hp->Prop
def PX (X:Cx) (st:List Stmt) (t:TX):Prop:=
 ∀(pins:AO) (s:Shared) (σ:St) (H:Hp) (D:Ends) (R:Addr->St->Hp->Prop),Inv X pins σ H s->t D R σ H->wpAny (model X.prog X.w) X.A (execs st X.env) (SP X pins D) (FX X pins R) s
def adf (sp:Sp) (t:TA):TX:=fun D R σ H=>t σ H fun vs H1=>sp (vs++[]) H1 (fun v H'=>v = .bU/\D.nx σ H') fun _ c H'=>∃C,c=some C/\R C σ H'
def agw (K:Fg) (J:Addr) (j:Nat) (t:TX) (u:TS):TS:=fun D σ H=>
 t D (fun C σ' H'=>PySem.W.exmOne K (.ref C) (.ref J)=some true/\∀x,H' x=none->u { nx:=fun σ2 H2=>D.nx (σ2.set j none) H2,rt:=D.rt,bk:=fun σ2 H2=>D.bk (σ2.set j none) H2,ct:=fun σ2 H2=>D.ct (σ2.set j none) H2 } (σ'.set j (some (.ref x))) (upd H' x (Ct x C))) σ H
section
variable {X:Cx} {pins:AO} {σ:St} {Hc H:Hp} {sc s:Shared} {x C:Addr} {fl:Value}
theorem Inv.aaV (I':Inv (X.held x) pins σ H s) (ok:X.Ok):Inv X pins σ H s:=
 ⟨ok,I'.os,I'.bare,I'.base,I'.loc,I'.cell,I'.free,I'.jD,I'.pin,I'.hok,I'.len⟩
end
open PySem.W PySem.Calls Builtin.ObjectAttr Builtin.Getset_descriptor
structure nh (K:Frag) (C:Addr):Prop where
 ga:findIn K (.ref C) "__getattribute__"=some (some (.builtin "BaseException.__getattribute__"))
 gn:findIn K (.ref C) "__getattr__"=some none
 ca:findIn K (.ref C) "__class__"=some (some (.builtin "object.__class__"))
 mo:mroIn K C (.type "object")=some true
 mb:mroIn K C (.type "BaseException")=some true
 is:(clsIn K C).isSome=true
section
variable {prog:Program} {w:World} {A:Around} {E:VS} {h:Heap} {g:Array GenState} {d:Drawn} {t:Nat} {os:OsState} {x C:Addr} {o:Obj} {K:Frag} {R:Result->Shared->Prop}
theorem D4 (hx:h.get? x=some o) (hc:o.cls = .ref C):Looks M h (typeOf (.ref x)) (.ref C):=hc▸(Looks.ld hx).andThen .now
theorem aaW {tp:Value} (X:K.In h) (ec:nh K C) (hx:h.get? x=some o) (hc:o.cls = .ref C) (hq:R (.ok (.ret (.ref C))) ⟨h,g,d,t,os⟩):
  codeAny (model prog w) A (.call (.builtin "getset_descriptor.__get__") ⟨[.builtin "object.__class__", .ref x,tp],[]⟩) R ⟨h,g,d,t,os⟩:=by
 have L0:=D4 (M:=model prog w) hx hc
 have L1:=looks_mroIn (M:=model prog w) X ec.mo
 refine codeAny_call_builtin KF.slot_gs.plain KF.entry_gs (KF.slot_gs.check _ _ _ _ _ _ _ _ KF.type_class (KF.args_gs _ _ _) ?_)
 unfold Builtin.«getset_descriptor.__get__» descrGet
 rw [dga_obj]
 refine aq (aJ ?_)
 unfold descrGetter descrCheckInstance descrNameAndClass isInstance
 simp only [KF.owner_class]
 repeat lk
 refine ⟨Code.quiet_builtin _ (by decide +kernel),codeAny_builtin KF.entry_class ?_⟩
 unfold Builtin.«object.__class__» shownTypeOf
 repeat lk
 exact hq
theorem VG {tk:Tok} {Q:Fin->Shared->Prop} (X:K.In h) (ec:nh K C) (hx:h.get? x=some o) (hc:o.cls = .ref C) (hq:Q (.done (.ret (.ref C))) ⟨h,g,d,t,os⟩):
  wpAny (model prog w) A (Builtin.«object.__getattribute__» ⟨[.ref x, .str "__class__" tk],[]⟩) Q E ⟨h,g,d,t,os⟩:=by
 have L0:=D4 (M:=model prog w) hx hc
 have L1:=looks_findIn (M:=model prog w) X ec.ca
 have hT5:(⟨h,g,d,t,os⟩:Shared).TypeIs (.builtin "object.__class__") "getset_descriptor":=F.typeOf_object_class
 have f5:=F.typeOf_object_class
 have f6:=F.slot_gs_get.lookup
 have f7:=F.slot_gs_set.lookup
 repeat (any_goals (first|assumption|with_reducible refine Looks.at L0 ?_|with_reducible refine Looks.at L1 ?_|wp_step))
 refine aaW X ec hx hc ?_
 repeat (any_goals (first|assumption|wp_step))
theorem VH {nameV:Value} (X:K.In h) (ec:nh K C) (hx:h.get? x=some o) (hc:o.cls = .ref C) (hq:Q () ⟨h,g,d,t,os⟩):
  wpAny M A (checkBuiltinCall "BaseException.__getattribute__" ⟨[.ref x,nameV],[]⟩) Q E ⟨h,g,d,t,os⟩:=by
 have hk:builtinKind "BaseException.__getattribute__"=some .slot:=by decide +kernel
 have hsplit:splitId "BaseException.__getattribute__"=some ("BaseException","__getattribute__"):=by decide +kernel
 have L0:=D4 (M:=M) hx hc
 have L1:=looks_mroIn (M:=M) X ec.mb
 have ha:=F.args_bexc_ga (.ref x) nameV
 simp only [checkBuiltinCall,hk,hsplit]
 refine aq ?_
 . unfold isInstance
   repeat (first|with_reducible refine Looks.at L0 ?_|with_reducible refine Looks.at L1 ?_|wp_step)
   exact hq
theorem Yw {tk:Tok} (X:K.In h) (ec:nh K C) (hx:h.get? x=some o) (hc:o.cls = .ref C) (hq:R (.ok (.ret (.ref C))) ⟨h,g,d,t,os⟩):
  codeAny (model prog w) A (.call (.builtin "BaseException.__getattribute__") ⟨[.ref x, .str "__class__" tk],[]⟩) R ⟨h,g,d,t,os⟩:=
 codeAny_call_builtin F.excAttr_ValueError.ga.plain F.entry_bexc_ga (VH X ec hx hc (VG X ec hx hc hq))
theorem adg {tk:Tok} {fill expr:Bool} {Q:VS} (X:K.In h) (ec:nh K C) (hx:h.get? x=some o) (hc:o.cls = .ref C) (hq:Q (.ref C) ⟨h,g,d,t,os⟩):
  wpAny (model prog w) A (getAttrBy (.ref x) (.str "__class__" tk) fill expr) Q E ⟨h,g,d,t,os⟩:=by
 have L0:=D4 (M:=model prog w) hx hc
 have L1:=looks_findIn (M:=model prog w) X ec.ga
 have L2:=looks_findIn (M:=model prog w) X ec.gn
 have f3:=F.excAttr_ValueError.ga.bind (.ref x)
 have Tf:(expr && onTheHeap (Value.builtin "BaseException.__getattribute__"))=false:=by cases expr <;> rfl
 have hx2:(Value.builtin "BaseException.__getattribute__"==Value.builtin "object.__getattribute__")=false:=by decide +kernel
 have Th:(onTheHeap (Value.ref C) && Value.builtin "BaseException.__getattribute__"==Value.builtin "object.__getattribute__")=false:=by rw [hx2];rfl
 repeat (any_goals (first|assumption|with_reducible refine Looks.at L0 ?_|with_reducible refine Looks.at L1 ?_|with_reducible refine Looks.at L2 ?_|wp_step))
 refine Yw X ec hx hc ?_
 repeat (any_goals (first|assumption|wp_step))
theorem Yx {Q:Option Value->Shared->Prop} (X:K.In h) (ec:nh K C) (hx:h.get? x=some o) (hc:o.cls = .ref C) (hq:Q (some (.ref C)) ⟨h,g,d,t+1,os⟩):
  wpAny (model prog w) A (getAttr? (.ref x) "__class__") Q E ⟨h,g,d,t,os⟩:=by
 unfold getAttr? getAttrBy?
 repeat (any_goals (first|assumption|with_reducible apply adg X ec hx hc|wp_step))
theorem VI (ec:nh K C):KitX K (.ref x) (.ref C) (fun h=>∃o,h.get? x=some o/\o.cls = .ref C) where
 ty:=fun _ _ _ ⟨o,hx,hc⟩=>D4 hx hc
 it:=fun _ _ X _=>by
  have:=ec.is
  unfold clsIn at this
  split at this
  . rename_i c' d' cd' Ju ho
    intro A' Q' E' s' k q
    unfold isType loadHead
    exact aq (wpAny_loadPart (k _ _ (X _ _ ho)) (aJ q))
  . cases this
 ne:=fun h tp dd its n sl X htp=>by
  have:=ec.is
  refine mQ.mpr fun q=>?_
  have e:C=tp:=Value.ref.inj (nu.mp q)
  subst e
  unfold clsIn at this
  split at this
  . rename_i c' d' cd' Ju ho
    have z:=(X _ _ ho).symm.trans htp
    cases z
  . cases this
 ca:=fun {_ _ _ _ _ s} X ⟨o,hx,hc⟩ k=>by
  obtain ⟨h,g,d,t,os⟩:=s
  exact Yx X ec hx hc k
end
theorem KC {K:Frag} {bmB:List Value} {x:Value} (hb:bmB.contains x=true):∀{l:List Value},tailIn K bmB l=true->l.contains x=true
 | [],e=>by rw [nu.mp (show (bmB==[])=true from e)] at hb;exact hb
 | v::r,e=>by
   unfold tailIn at e
   rcases EU.mp e with q|q
   . rw [nu.mp q];exact hb
   . split at q
     . split at q
       . simp only [Ak] at q
         rw [List.contains_cons,KC hb q.2,Bool.or_true]
       . cases q
     . cases q
def w6 (K:Frag) (N:Addr) (x:Str):Option Value:=match K.lookup N with
 | some o=>(match o.data with | .dict es _=>nsFind es x|_=>none)
 | none=>none
theorem Qy {K:Frag} {N:Addr} (X:K.In h) (e:nsOkIn K N=true):h.nsMap N=w6 K N:=by
 unfold nsOkIn at e
 split at e
 . rename_i ho
   funext x
   unfold w6 Heap.nsMap
   rw [X _ _ ho,ho]
 . cases e
theorem KD {K:Frag} {N:Addr} (q:nsIn K N x=some none):w6 K N x=none:=by
 unfold nsIn at q
 unfold w6
 split at q
 . rename_i c d es n sl ho
   rw [ho]
   show nsFind es x=none
   split at q
   . cases q
   . rename_i he
     unfold nsFind findBy
     rw [<-Array.find?_toList,he]
     rfl
 . cases q
theorem ng.of {K:Frag} (q:excIn K C aaS "ValueError.__new__"=true):ng K C:=by
 unfold excIn at q
 split at q
 . rename_i dd cd sl ho
   split at q
   . rename_i C' bm k0 k1 k2 k3 n k5 hm hs
     simp only [Ak,nu,Bool.not_eq_true'] at q
     obtain ⟨⟨⟨⟨⟨rfl,rfl⟩,aaX⟩,ht⟩,hok⟩,hni⟩:=q
     obtain ⟨nm,bs,mro,ns,qn,hd,sn,sub,ab,col,del⟩:=cd
     dsimp only at hm aaX hok hni
     subst hm aaX
     have hsl:sl=#[k0,k1,k2,k3,some (.builtin "ValueError.__new__"),k5] :=by
      obtain ⟨l⟩:=sl
      simp only at hs
      rw [hs]
     subst hsl
     refine ⟨nm,qn,ns,bs,bm,hd,sn,sub,ab,col,dd,k0,k1,k2,k3,k5,w6 K ns,KD hni,KC (by decide +kernel) ht,fun h X=>⟨X _ _ ho,?_,tail_of_in X ht⟩⟩
     have:=Heap.Ns.of_isNs (isNs_of_in X hok)
     rw [Qy X hok] at this
     exact this
   . cases q
 . cases q
def KG:V->Value
 | .ref a=> .ref a
 | .ty n=> .type n
 | _=> .none
section
variable {X:Cx}
theorem e_ (K:Frag) (hK:X.K=K):gj X (.builtin "isinstance") (fun xs H Q=>∃x C c b,xs=[.ref x,c]/\H x=some (Ct x C)/\nh K C/\RelV c (KG c)/\kitOne K (.ref C) (KG c)=some b/\Q (.bl b) H):=by
 subst hK
 intro pins s σ H xs us Q I r h
 obtain ⟨x,C,c,b,rfl,hx,ec,rc,e,q⟩:=h
 obtain ⟨u,w',rfl,ru,rw'⟩:=vals2 r
 have e1:u = .ref x:=ru
 subst e1
 have e2:w'=KG c:=by
  cases c with
  | ref a=>exact rw'
  | ty n=>exact rw'
  | bU=>exact rw'
  | bl b=>exact nomatch (show Value.none=Value.bool b from rc)
  | int i=>obtain ⟨t,z⟩:=(show ∃t,Value.none=Value.int i t from rc);cases z
  | str i=>obtain ⟨t,z⟩:=(show ∃t,Value.none=Value.str i t from rc);cases z
  | wD i=>obtain ⟨t,z⟩:=(show ∃t,Value.none=Value.bytes i t from rc);cases z
  | Gr i=>obtain ⟨t,z⟩:=(show ∃t,Value.none=Value.float i t from rc);cases z
 subst e2
 exact kia_one (VI ec) I.iJ (I.hok x _ hx).1 e (fun z=>nomatch z) fun tk=>⟨.bl b,H,I.tok _,Z,q⟩
end
structure Ec where
 (bad twice vE zM D5 rJ v5 rows KH D6 VJ:Addr)
structure Told (K:Frag) (e:Ec) (C:Addr) (i:Nat):Prop where
 ec:nh K C
 jt:exmOne K (.ref C) (.ref e.VJ)=some true
 ve:kitOne K (.ref C) (.type "ValueError")=some true
 k0:kitOne K (.ref C) (.ref e.bad)=some (decide (0=i))
 k1:kitOne K (.ref C) (.ref e.twice)=some (decide (1=i))
 k2:kitOne K (.ref C) (.ref e.vE)=some (decide (2=i))
 k3:kitOne K (.ref C) (.ref e.zM)=some (decide (3=i))
 k4:kitOne K (.ref C) (.ref e.D5)=some (decide (4=i))
 k5:kitOne K (.ref C) (.ref e.rJ)=some (decide (5=i))
 k6:kitOne K (.ref C) (.ref e.v5)=some (decide (6=i))
 k7:kitOne K (.ref C) (.ref e.rows)=some (decide (7=i))
 k8:kitOne K (.ref C) (.ref e.KH)=some (decide (8=i))
 k9:kitOne K (.ref C) (.ref e.D6)=some (decide (9=i))
def KI (i:Nat):List Bool:=true::(List.range 10).map fun k=>decide (k=i)
def Fq (i:Nat):List V:=(KI i).map V.bl
theorem Told.of {K:Frag} {e:Ec} {b0 b1 b2 b3 b4 b5 b6 b7 b8 b9:Bool} (ga:findIn K (.ref C) "__getattribute__"=some (some (.builtin "BaseException.__getattribute__"))) (gn:findIn K (.ref C) "__getattr__"=some none) (ca:findIn K (.ref C) "__class__"=some (some (.builtin "object.__class__")))
  (mo:mroIn K C (.type "object")=some true) (mb:mroIn K C (.type "BaseException")=some true) (jt:exmOne K (.ref C) (.ref e.VJ)=some true) (ve:kitOne K (.ref C) (.type "ValueError")=some true)
  (k0:kitOne K (.ref C) (.ref e.bad)=some b0) (k1:kitOne K (.ref C) (.ref e.twice)=some b1) (k2:kitOne K (.ref C) (.ref e.vE)=some b2) (k3:kitOne K (.ref C) (.ref e.zM)=some b3) (k4:kitOne K (.ref C) (.ref e.D5)=some b4)
  (k5:kitOne K (.ref C) (.ref e.rJ)=some b5) (k6:kitOne K (.ref C) (.ref e.v5)=some b6) (k7:kitOne K (.ref C) (.ref e.rows)=some b7) (k8:kitOne K (.ref C) (.ref e.KH)=some b8) (k9:kitOne K (.ref C) (.ref e.D6)=some b9)
  (h:[b0,b1,b2,b3,b4,b5,b6,b7,b8,b9]=(List.range 10).map fun k=>decide (k=i)):Told K e C i:=by
 have h':[b0,b1,b2,b3,b4,b5,b6,b7,b8,b9]=[decide (0=i),decide (1=i),decide (2=i),decide (3=i),decide (4=i),decide (5=i),decide (6=i),decide (7=i),decide (8=i),decide (9=i)] :=h
 simp only [List.cons.injEq,and_true] at h'
 obtain ⟨rfl,rfl,rfl,rfl,rfl,rfl,rfl,rfl,rfl,rfl⟩:=h'
 have is:(clsIn K C).isSome=true:=by
  unfold mroIn at mo
  obtain ⟨cd,a,b⟩:=Option.bind_eq_some_iff.mp mo
  rw [a];rfl
 exact ⟨⟨ga,gn,ca,mo,mb,is⟩,jt,ve,k0,k1,k2,k3,k4,k5,k6,k7,k8,k9⟩
def ur (K:Frag) (j:Nat) (c:V):TE:=Wi (fun xs H Q=>∃x C c b,xs=[.ref x,c]/\H x=some (Ct x C)/\nh K C/\RelV c (KG c)/\kitOne K (.ref C) (KG c)=some b/\Q (.bl b) H) (jF (B3 j) (jF (tC c) oY))
def adh (K:Frag) (e:Ec) (i j:Nat):TS:=
 B7 (yR (PU (jF (ur K j (.ty "ValueError")) (jF (ur K j (.ref e.bad)) (jF (ur K j (.ref e.twice)) (jF (ur K j (.ref e.vE)) oY))))) (gi i))
  (B7 (yR (Dg UR (B3 i) (PU (jF (ur K j (.ref e.zM)) (jF (ur K j (.ref e.D5)) (jF (ur K j (.ref e.rJ)) oY))))) (gi i))
    (yR (Dg UR (B3 i) (PU (jF (ur K j (.ref e.v5)) (jF (ur K j (.ref e.rows)) (jF (ur K j (.ref e.KH)) (jF (ur K j (.ref e.D6)) oY)))))) (gi i)))
section
theorem Qz {K:Frag} {e:Ec} {σ:St} {x:Addr} (to:Told K e C n) (hj:σ[j]?=some (some (.ref x))) (hi:i<σ.length) (hij:i≠j) (hx:H x=some (Ct x C))
  (q:∀l H',aF H H'->H' l=some (.lst (Fq n))->D.nx (σ.set i (some (.ref l))) H'):adh K e i j D σ H:=by
 have WK:∀(σ:St) (v:V),i<σ.length->(σ.set i (some v))[i]?=some (some v):=fun σ v h=>tU h
 have WL:∀(σ:St) (v:V),σ[j]?=some (some (.ref x))->(σ.set i (some v))[j]?=some (some (.ref x)):=fun σ v h=>by rw [yN hij];exact h
 refine ⟨_,hj,x,C,_,_,Z,hx,to.ec,Z,to.ve,?_⟩
 refine ⟨_,hj,x,C,_,_,Z,hx,to.ec,Z,to.k0,?_⟩
 refine ⟨_,hj,x,C,_,_,Z,hx,to.ec,Z,to.k1,?_⟩
 refine ⟨_,hj,x,C,_,_,Z,hx,to.ec,Z,to.k2,?_⟩
 refine ⟨(show 4<=sizeLine from by rw [fm];decide),fun p1 hp1=>?_⟩
 generalize hH1:upd H p1 (HO.lst _)=H1
 have VL:upd H p1 (.lst [V.bl true,V.bl (decide (0=n)),V.bl (decide (1=n)),V.bl (decide (2=n))])=H1:=hH1
 have g1:aF H H1:=VL▸az hp1 _
 have h1:H1 p1=some (.lst [V.bl true,V.bl (decide (0=n)),V.bl (decide (1=n)),V.bl (decide (2=n))]):=by rw [<-VL,ah]
 clear hH1 VL
 have hj1:=WL σ (.ref p1) hj
 have Th:=g1 _ _ hx
 refine ⟨_,WK _ _ hi,?_⟩
 refine ⟨_,hj1,x,C,_,_,Z,Th,to.ec,Z,to.k3,?_⟩
 refine ⟨_,hj1,x,C,_,_,Z,Th,to.ec,Z,to.k4,?_⟩
 refine ⟨_,hj1,x,C,_,_,Z,Th,to.ec,Z,to.k5,?_⟩
 refine ⟨(show 3<=sizeLine from by rw [fm];decide),fun p2 hp2=>?_⟩
 generalize hH2:upd H1 p2 (HO.lst _)=H2
 have VM:upd H1 p2 (.lst [V.bl (decide (3=n)),V.bl (decide (4=n)),V.bl (decide (5=n))])=H2:=hH2
 have g2:aF H1 H2:=VM▸az hp2 _
 have h2:H2 p2=some (.lst [V.bl (decide (3=n)),V.bl (decide (4=n)),V.bl (decide (5=n))]):=by rw [<-VM,ah]
 clear hH2 VM
 refine ⟨p1,p2,_,_,Z,Z,g2 _ _ h1,h2,(show 4+3<=sizeLine from by rw [fm];decide),fun p3 hp3=>?_⟩
 generalize Ti:upd H2 p3 (HO.lst _)=H3
 have zN:upd H2 p3 (.lst [V.bl true,V.bl (decide (0=n)),V.bl (decide (1=n)),V.bl (decide (2=n)),V.bl (decide (3=n)),V.bl (decide (4=n)),V.bl (decide (5=n))])=H3:=Ti
 have g3:aF H2 H3:=zN▸az hp3 _
 have h3:H3 p3=some (.lst [V.bl true,V.bl (decide (0=n)),V.bl (decide (1=n)),V.bl (decide (2=n)),V.bl (decide (3=n)),V.bl (decide (4=n)),V.bl (decide (5=n))]):=by rw [<-zN,ah]
 clear Ti zN
 have Ox:=WL _ (.ref p3) hj1
 have OI:=g3 _ _ (g2 _ _ Th)
 refine ⟨_,WK _ _ (by rw [lB];exact hi),?_⟩
 refine ⟨_,Ox,x,C,_,_,Z,OI,to.ec,Z,to.k6,?_⟩
 refine ⟨_,Ox,x,C,_,_,Z,OI,to.ec,Z,to.k7,?_⟩
 refine ⟨_,Ox,x,C,_,_,Z,OI,to.ec,Z,to.k8,?_⟩
 refine ⟨_,Ox,x,C,_,_,Z,OI,to.ec,Z,to.k9,?_⟩
 refine ⟨(show 4<=sizeLine from by rw [fm];decide),fun p4 KJ=>?_⟩
 generalize Tj:upd H3 p4 (HO.lst _)=H4
 have Cu:upd H3 p4 (.lst [V.bl (decide (6=n)),V.bl (decide (7=n)),V.bl (decide (8=n)),V.bl (decide (9=n))])=H4:=Tj
 have g4:aF H3 H4:=Cu▸az KJ _
 have h4:H4 p4=some (.lst [V.bl (decide (6=n)),V.bl (decide (7=n)),V.bl (decide (8=n)),V.bl (decide (9=n))]):=by rw [<-Cu,ah]
 clear Tj Cu
 refine ⟨p3,p4,_,_,Z,Z,g4 _ _ h3,h4,(show 7+4<=sizeLine from by rw [fm];decide),fun p5 hp5=>?_⟩
 have g5:=az hp5 (.lst (Fq n))
 have:=q p5 (upd H4 p5 (.lst (Fq n))) (g1.trans (g2.trans (g3.trans (g4.trans g5)))) ah
 show D.nx (((σ.set i _).set i _).set i _) _
 rw [vf,vf]
 exact this
end
structure Mx (P:Program) (w:World) (K:Fg) (mg:SO) (base:Heap) (k:Nat) (C:Addr) (m:Str) (ps:List Str) (sp:Sp):Prop where
 ex:∃f fd,iZ P w K mg base (fW P w) k f fd ps sp/\Binds K fd ps []/\Meth K C m f/\oj K C
theorem iY.okX {w:World} {m:Str} {st:Stmt} {k:Nat} (F:iY K C m qual st f fd) (S:aI N ps (ay st)) (len:∀vs H Q E,sp vs H Q E->vs.length=ps.length)
  (hbody:∀(cdv:Value) (A:Around) (outer:List Env) (s:Shared) (H:Hp) (vs:List V) (Q:VK) (E:XK),dB k (A.deeper (envOfC qual (ay st) s.heap.objs.size f cdv))->sp vs H Q E->
    ∃t,qe (cL (fW P w) P w K mg base N qual (ay st) f cdv A outer s H E) (cE st) t/\t { nx:=fun _ H'=>Q .bU H',rt:=Q } (start N vs) H)
  (h:∀(kV doc pm:Value) (an:Option Addr) (cdv ct:Value) (us:List Value),us.length=ps.length->bindArgs (PySem.W.fnOf m qual (dR st) (cE st) (ay st) .none kV doc pm an cdv ct) ⟨us,[]⟩=pure (ps.zip us)):
  Mx P w K mg base (k+1) C m ps sp:=by
 refine ⟨f,fd,?_,F.fn.binds h,F.me,F.cl⟩
 obtain ⟨oc,od,kV,doc,pm,an,cdv,ct,osl,rfl,lk,hcd⟩:=F.fn.ex
 exact PY lk hcd S len fun A outer s H vs Q E hr oZ=>hbody cdv A outer s H vs Q E hr oZ
theorem iZ.noX {w:World} {k:Nat} {Hs:Sp} (F:iZ P w K mg base (fW P w) k f fd ps sp) (h:∀vs H Q E,Hs vs H Q E->sp vs H Q E0):iZ P w K mg base sW k f fd ps Hs:=
 ⟨fun vs H Q E q=>F.len _ _ _ _ (h _ _ _ _ q),fun A outer s H args us vs Q E hr he hb hv hs=>Ar (F.run A outer s H args us vs Q E0 hr he hb hv (h _ _ _ _ hs)) fun r s' q=>by
   cases r with
   | error e=>
     obtain ⟨x,T,C,H',_,_,_,_,_,_,_,_,_,_,z⟩:=(show fW P w outer H s E0 e s' from q)
     exact z.elim
   | ok fl=>cases fl <;> exact q⟩
theorem Mx.mn {w:World} {k:Nat} {m:Str} {Hs:Sp} (D:Mx P w K mg base k C m ps sp) (h:∀vs H Q E,Hs vs H Q E->sp vs H Q E0):Mn P w K mg base k C m ps Hs:=by
 obtain ⟨f,fd,F,b,me,c⟩:=D.ex
 exact ⟨f,fd,F.noX h,b,me,c⟩
theorem Dx.dn {w:World} {k:Nat} {Hs:Sp} (D:Dx P w K mg base k x ps sp) (h:∀vs H Q E,Hs vs H Q E->sp vs H Q E0):Dn P w K mg base k x ps Hs:=by
 obtain ⟨f,fd,F,b,kp,m⟩:=D.ex
 exact ⟨f,fd,F.noX h,b,kp,m⟩
section
variable {P:Program} {w:World} {K:Fg} {mg:SO} {base:Heap} {N:List Str} {qual:Str} {scope:Scope} {f:Addr} {cd:Value} {A:Around} {outer:List Env} {s0:Shared} {H0:Hp} {E:XK}
end
section
variable {X:Cx}
end
def Ec.at (e:Ec):Nat->Addr
 | 0=>e.bad|1=>e.twice|2=>e.vE|3=>e.zM|4=>e.D5|5=>e.rJ|6=>e.v5|7=>e.rows|8=>e.KH|_=>e.D6
def Rf (e:Ec) (E:XK) (H:Hp) (i:Nat):Prop:=∀x H',aF H H'->E (.ref x) (some (e.at i)) H'
structure DoX (T:TC) (e:Ec) (n:Nat) (ρ:fU) (A:HA) (H:Hp) (r:Option Nat) (st':HS) (Q:VK) (E:XK):Prop where
 no:∀i,r=some i->Rf e E H i
 ok:r=none->AH T n ρ A H st' fun H'=>Q .bU H'
def newR (st:HS) (x:Str):Option Nat:=if isNm x=true then (if x∈st.nms then some 1 else none) else some 0
def adi (st:HS) (o:Str):Option Nat:=if isNm o=true then (if o∈st.own then some 1 else none) else some 0
def adj (st:HS) (x o:Str) (wo we:Int):Option Nat:=match newR st x with
 | some i=>some i
 | none=>if o∈st.own then (if wo<1\/we<0 then some 5 else none) else some 2
inductive Yy (T:TC) (e:Ec) (vs:List V) (H:Hp) (Q:VK) (E:XK):Prop
 | mk (n ρ A st o:_) (_:vs=[.ref A.a, .str o]) (_:aV T n ρ A H st) (_:(o∉st.own->Rf e E H 2)) (_:(o∈st.own->Q (.int (st.own.idxOf o:Int)) H))
def Cv (T:TC) (e:Ec):Sp:=bx (Yy T e)
inductive agx (vs:List V) (H:Hp) (Q:VK) (E:XK):Prop
 | mk (n:Nat) (_:vs=[.int (n:Int)]) (_:∀p H',aF H H'->H' p=some (.lst (Fq n))->Q (.ref p) H')
def QA:Sp:=bx (agx)
theorem Yz {Q:VK} {E:XK} {i:Int} (e:i=(n:Int)) (q:∀p H',aF H H'->H' p=some (.lst (Fq n))->Q (.ref p) H'):QA [.int i] H Q E:=⟨n,by rw [e],q⟩
theorem KL {K:Fg} {H:Hp}:∀bs:List Bool,wO K H (bs.map V.bl) (bs.map PyData.bool)
 | []=> .nil
 | b::bs=> .cons (.bl b) (KL bs)
inductive Dd where
 | sign (o:Str)|load (x o:Str) (wo we:Int)|cast (rs:List Row)|award (o:Str) (a:Int)|mishap (x:Str) (a:Int)|rise (x:Str) (a:Int)|hand (x o:Str)|land (x:Str)|sever (x y:Str) (a we:Int)|still
def WM:List Row->List V
 | []=>[]
 | r::rs=> .str r.1 :: .int r.2::WM rs
def Dd.v:Dd->List V
 | .sign o=>[.str "sign", .str o]
 | .load x o wo we=>[.str "load", .str x, .str o, .int wo, .int we]
 | .cast rs=> .str "cast"::WM rs
 | .award o a=>[.str "award", .str o, .int a]
 | .mishap x a=>[.str "mishap", .str x, .int a]
 | .rise x a=>[.str "rise", .str x, .int a]
 | .hand x o=>[.str "hand", .str x, .str o]
 | .land x=>[.str "land", .str x]
 | .sever x y a we=>[.str "sever", .str x, .str y, .int a, .int we]
 | .still=>[.str "still"]
def D7 (st:HS):List Str:=st.ao.map fun p=>p.nm
def aaZ (st:HS) (r:Row):Option Nat:=if r.1∈D7 st then (if r.2<1 then some 5 else if (dI st r.1).wo<r.2 then some 6 else none) else some 3
def adk (st:HS) (rs:List Row):Option Nat:=if rs≠[]/\(rs.map fun r:Row=>r.1).Nodup then (match rs.findSome? (aaZ st) with
 | some i=>some i
 | none=>if aS st<=bD rs then some 6 else none) else some 7
def jW (st:HS) (o:Str) (a:Int):Option Nat:=if o∈st.own then (if a<1 then some 5 else if aS st<=a then some 6 else none) else some 2
def adl (st:HS) (x:Str) (a:Int):Option Nat:=if x∈D7 st then (if a<1 then some 5 else none) else some 3
def adm (st:HS) (x o:Str):Option Nat:=if x∈D7 st then (if o∈st.own then none else some 2) else some 3
def adn (st:HS) (x:Str):Option Nat:=if x∈D7 st then none else some 3
def aa0 (st:HS) (x y:Str) (a we:Int):Option Nat:=if x∈D7 st then (match newR st y with
 | some i=>some i
 | none=>if a<1\/we<0 then some 5 else if (dI st x).wo<=a\/(dI st x).we<we then some 6 else none) else some 3
def lT (st:HS):Dd->Option Nat
 | .sign o=>adi st o
 | .load x o wo we=>adj st x o wo we
 | .cast rs=>adk st rs
 | .award o a=>jW st o a
 | .mishap x a=>aaZ st (x,a)
 | .rise x a=>adl st x a
 | .hand x o=>adm st x o
 | .land x=>adn st x
 | .sever x y a we=>aa0 st x y a we
 | .still=>none
def D8 (st:HS) (o:Str) (a:Int):HS:=cy st (aS st-a) (aS st) ((List.replicate st.own.length 0).set (st.own.idxOf o) (a*st.prod))
def onP (st:HS) (x:Str) (f:Pt->Pt):HS:={ st with ao:=st.ao.map fun p=>if p.nm=x then f p else p }
def ado (st:HS) (x:Str) (a:Int):HS:=onP st x fun p=>{ p with wo:=p.wo+a }
def adp (st:HS) (p:Pt) (o:Str):List Int:=((cC st p).set (st.own.idxOf o) ((cC st p).getD (st.own.idxOf o) 0+(cC st p).getD (st.own.idxOf p.ow) 0)).set (st.own.idxOf p.ow) 0
def adq (st:HS) (x o:Str):HS:=if st.own.idxOf o=st.own.idxOf (dI st x).ow then st else onP st x fun p=>{ p with ow:=o,sc:=1,row:=zj st (adp st p o) }
def WN (st:HS) (p:Pt):List Int:=List.zipWith (fun u t=>u+p.wo*t) st.cX (cC st p)
def ads (st:HS) (x:Str):HS:=
 { st with ao:=st.ao.filter (fun p=>decide (p.nm≠x))
           kL:=st.kL++[⟨x,(dI st x).ow,(dI st x).wo,zm st (dI st x)⟩]
           kn:=st.kn+100
           cX:=(WN st (dI st x)).set (st.own.idxOf (dI st x).ow) ((WN st (dI st x)).getD (st.own.idxOf (dI st x).ow) 0-(dI st x).wo*st.prod) }
def aa2 (st:HS) (x y:Str) (a we:Int):HS:=AI (onP st x fun p=>{ p with wo:=p.wo-a,we:=p.we-we }) ⟨y,(dI st x).ow,a,we,(dI st x).sc,(dI st x).row⟩
def vF (st:HS):Dd->HS
 | .sign o=>gy st o
 | .load x o wo we=>xY st x o wo we
 | .cast rs=>kq st rs
 | .award o a=>D8 st o a
 | .mishap x a=>fY st (x,a)
 | .rise x a=>ado st x a
 | .hand x o=>adq st x o
 | .land x=>ads st x
 | .sever x y a we=>aa2 st x y a we
 | .still=>st
inductive YA (T:TC) (e:Ec) (al:HS->Dd->Prop) (K:Fg) (vs:List V) (H:Hp) (Q:VK) (E:XK):Prop
 | mk (n ρ A st z d:_) (_:vs=[.ref A.a, .ref z]) (_:cT K H z (Dd.v d)) (_:HH T n ρ A H st) (_:al st d) (_:DoX T e n ρ A H (lT st d:_) (vF st d:_) Q E)
def KN (T:TC) (e:Ec) (al:HS->Dd->Prop) (K:Fg):Sp:=bx (YA T e al K)
inductive aa3 (T:TC) (al:HS->Dd->Prop) (K:Fg) (vs:List V) (H:Hp) (Q:VK) (E:XK):Prop
 | mk (n ρ A st z d:_) (_:vs=[.ref A.a, .ref z]) (_:cT K H z (Dd.v d)) (_:HH T n ρ A H st) (_:al st d) (_:(∀i,lT st d=some i->∀l H',aF H H'->H' l=some (.lst (Fq i))->Q (.ref l) H')) (_:(lT st d=none->∀l ρ' A' H',HH T n ρ' A' H' (vF st d:_)->A'.a=A.a->Fr n ρ H ρ' H'->H' l=some (.lst [])->ρ' l=none->H l=none->Q (.ref l) H'))
def Ft (T:TC) (al:HS->Dd->Prop) (K:Fg):Sp:=bx (aa3 T al K)
def wl (s:Str):Nat:=s.cps.toList.length
theorem QB (cs:List Nat):wl (tx cs)=cs.length:=by unfold wl;show cs.toArray.toList.length=_;simp
section
variable {X:Cx}
inductive adt (x:V) (y:V) (H:Hp) (Q:VK):Prop
 | mk  (i j:Str) (_:x = .str i) (_:y = .str j) (_:wl i+wl j<=10000) (_:∀r:Str,wl r=wl i+wl j->Q (.str r) H)
theorem qw:gT X (binaryOp .Add) adt:=by
 intro pins s σ H x y v u Q I rx ry h
 obtain ⟨i,j,rfl,rfl,hz,q⟩:=h
 rw [<-wU i] at rx
 rw [<-wU j] at ry
 exact Yv pins s σ H _ _ v u Q I rx ry ⟨_,_,Z,Z,fQ hz (by decide),q _ (by rw [QB,dg];rfl)⟩
inductive agy (x:V) (lo:Option Int) (hi:Option Int) (H:Hp) (Q:VK):Prop
 | mk  (i:Str) (_:x = .str i) (_:wl i<=10000) (_:∀r:Str,wl r<=wl i->(∀n:Nat,lo=none->hi=some (n:Int)->wl r<=n)->Q (.str r) H)
theorem w_:RK X agy:=by
 intro pins s σ H x v vl vu lo hi sl Q I rx hs pl pu h
 obtain ⟨i,rfl,hz,q⟩:=h
 rw [<-wU i] at rx
 refine aab pins s σ H _ v vl vu lo hi sl Q I rx hs pl pu ⟨_,Z,by rw [fm];exact fQ hz (by decide),q _ ?_ ?_⟩
 . rw [QB];exact Bp _ _ _
 . rintro n rfl rfl
   rw [QB,XQ,kY]
   omega
end
theorem Tn {α:Type} {xs:List α} {i:Int} (h1:-(xs.length:Int)<=i) (h2:i<(xs.length:Int)):∃v∈xs,rG xs i=some v:=by
 unfold rG Bj
 by_cases h0:0<=i
 . rw [aC h0,aC h2]
   have hj:i.toNat<xs.length:=by omega
   exact ⟨xs[i.toNat],u_ hj,aX hj⟩
 . rw [aA h0,aC h1]
   have hj:(i+xs.length).toNat<xs.length:=by omega
   exact ⟨xs[(i+xs.length).toNat],u_ hj,aX hj⟩
theorem aa4:∀i:Fin 10,SeqAt.shaped (.list ((KI i.val).map PyData.bool))=true/\PyData.eqv (.list ((KI i.val).map PyData.bool)) (.list ((KI i.val).map PyData.bool))=true:=by decide +kernel
def told (r:Option Nat):List Bool:=match r with
 | some i=>KI i
 | none=>[]
def Jf (r:Option Nat):List V:=(told r).map V.bl
theorem OJ (r:Option Nat):wO K H (Jf r) ((told r).map PyData.bool):=KL _
theorem Fv {r:Option Nat} (h:∀i,r=some i->i<10):SeqAt.shaped (.list ((told r).map PyData.bool))=true/\PyData.eqv (.list ((told r).map PyData.bool)) (.list ((told r).map PyData.bool))=true:=by
 cases r with
 | none=>exact ⟨Z,Z⟩
 | some i=>exact aa4 ⟨i,h i rfl⟩
def uu (st:HS) (d:Dd):HS:=match lT st d with
 | some _=>st
 | none=>vF st d
theorem YB {l l':Addr} {r:Option Nat} {Q:VK} (h1:H l=some (.lst (Jf r))) (h2:H l'=some (.lst (Jf r))) (h:∀i,r=some i->i<10) (q:Q (.bl true) H):U5 K (.ref l) (.ref l') H Q:=
 ⟨_,_, .lst (aB.of h1) (OJ r), .lst (aB.of h2) (OJ r),(Fv h).1,(Fv h).1,by rw [(Fv h).2];exact q⟩
section
variable {P:Program} {w:World} {K:Fg} {mg:SO} {base:Heap} {k:Nat} {T:TC} {e:Ec} {ps:List Str}
theorem VN (D:Mx P w K mg base k T.hold "place_of" ps (Cv T e)):Mn P w K mg base k T.hold "place_of" ps (Of T):=
 D.mn fun vs H Q E h=>by
   obtain ⟨⟨n,ρ,A,st,o,rfl,hx,ho,q⟩⟩:=h
   exact ⟨n,ρ,A,st,o,Z,hx,fun z=>absurd ho z,fun _=>q⟩
end
def nB (i:Int):Prop:=-1000000000<=i/\i<=1000000000
def OL:Dd->Prop
 | .sign o=>wl o<=20
 | .load x o wo we=>wl x<=20/\wl o<=20/\nB wo/\nB we
 | .cast rs=>rs.length<=60/\∀r∈rs,wl r.1<=20/\nB r.2
 | .award o a=>wl o<=20/\nB a
 | .mishap x a=>wl x<=20/\nB a
 | .rise x a=>wl x<=20/\nB a
 | .hand x o=>wl x<=20/\wl o<=20
 | .land x=>wl x<=20
 | .sever x y a we=>wl x<=20/\wl y<=20/\nB a/\nB we
 | .still=>True
def Dd.k:Dd->Nat
 | .sign _=>0 | .load .. =>1 | .cast _=>2 | .award .. =>3 | .mishap .. =>4 | .rise .. =>5 | .hand .. =>6 | .land _=>7 | .sever .. =>8 | .still=>9
def QC (n:Nat):Str:=(["sign","load","cast","award","mishap","rise","hand","land","sever","still"] :List Str).getD n "still"
def Dd.w (d:Dd):Str:=QC d.k
theorem Dd.v0 (d:Dd):d.v[0]?=some (.str d.w):=by cases d <;> rfl
theorem Dd.k_lt (d:Dd):d.k<10:=by cases d <;> simp [Dd.k]
theorem adu:∀m n:Fin 10,m≠n->QC m.val≠QC n.val:=by decide +kernel
theorem Dd.aa5 {d:Dd} (h:d.k≠n) (hn:n<10):d.w≠QC n:=adu ⟨d.k,d.k_lt⟩ ⟨n,hn⟩ fun e=>h (h_ Fin.val e)
theorem Dd.aa6 {d:Dd} (h:d.k≠2):d.w ≠ "cast":=d.aa5 h (by decide)
theorem Dd.YC {d:Dd} (h:d.k≠9):d.w ≠ "still":=d.aa5 h (by decide)
def alike (v w:V):Prop:=(∃s s',v = .str s/\w = .str s'/\wl s'<=20)\/∃i i',v = .int i/\w = .int i'/\nB i'
theorem To {s:Str} {w:V} (h:alike (.str s) w):∃s',w = .str s'/\wl s'<=20:=by
 rcases h with ⟨_,s',e,h1,h2⟩|⟨i,i',e,_⟩
 . exact ⟨s',h1,h2⟩
 . cases e
theorem Tp {i:Int} {w:V} (h:alike (.int i) w):∃i',w = .int i'/\nB i':=by
 rcases h with ⟨_,s',e,h1,h2⟩|⟨_,i',e,h1,h2⟩
 . cases e
 . exact ⟨i',h1,h2⟩
structure Bk (b:BS):Prop where
 own:∀x∈b.own,wl x<=20
 eL:∀x∈b.eL,wl x<=20
 ao:∀p∈b.ao,wl p.nm<=20
 wo:∀p∈b.ao,0<=p.wo/\0<=p.we
 ol:b.own.length<=100
 kl:b.eL.length<=1000
 pl:b.ao.length<=1000
inductive QD (K:Fg) (vs:List V) (H:Hp) (Q:VK) (E:XK):Prop
 | mk (a:Addr) (ms:List Int) (k:Int) (n:Nat) (ρ:fU) (B:BA) (b:BS) (x:Str) (_:vs=[.ref a, .int k, .ref B.m, .str x]) (_:aB K H a (ms.map V.int)) (_:ms.length<=63) (_:0<=k) (_:a_ n ρ B H b) (_:Bk b) (_:wl x<=20) (_:∀r H',aF H H'->wl r<=20->Q (.str r) H')
def BK (K:Fg):Sp:=bx (QD K)
inductive KO (K:Fg) (vs:List V) (H:Hp) (Q:VK) (E:XK):Prop
 | mk (a:Addr) (ms:List Int) (k:Int) (n:Nat) (ρ:fU) (B:BA) (b:BS) (i:Int) (_:vs=[.ref a, .int k, .ref B.m, .int i]) (_:aB K H a (ms.map V.int)) (_:ms.length<=63) (_:0<=k) (_:a_ n ρ B H b) (_:Bk b) (_:nB i) (_:∀r H',aF H H'->nB r->Q (.int r) H')
def yD (K:Fg):Sp:=bx (KO K)
def aa7:Option Nat->Int
 | none=>-1
 | some i=>i
inductive agz (al:HS->Dd->Prop) (K:Fg) (vs:List V) (H:Hp) (Q:VK) (E:XK):Prop
 | mk (n:Nat) (ρ:fU) (B:BA) (b:BS) (st:HS) (z:Addr) (d:Dd) (_:vs=[.ref B.m, .ref z]) (_:cT K H z d.v) (_:a_ n ρ B H b) (_:jV st b) (_:Wf st) (_:vz b) (_:st.nms=b.eL) (_:al st d) (_:OL d) (_:∀H',aF H H'->Q (.int (aa7 (lT st d))) H')
def WO (al:HS->Dd->Prop) (K:Fg):Sp:=bx (agz al K)
def jX (m:Nat) (vs:List V):Prop:=∀v∈vs,∃s:Str,v = .str s/\wl s<=m
theorem jX.nil:jX m [] :=fun _ h=>nomatch h
theorem jX.cons {m:Nat} {s:Str} {vs:List V} (h:wl s<=m) (hs:jX m vs):jX m (.str s::vs):=fun v hv=>by
 rcases c_.mp hv with rfl|hv
 . exact ⟨s,Z,h⟩
 . exact hs v hv
theorem jX.append {us:List V} (h:jX m vs) (hu:jX m us):jX m (vs++us):=fun v hv=>(gh.mp hv).elim (h v) (hu v)
theorem jX.map {xs:List Str} (h:∀x∈xs,wl x<=m):jX m (xs.map V.str):=fun v hv=>by
 obtain ⟨x,hx,rfl⟩:=cD.mp hv
 exact ⟨x,Z,h x hx⟩
def uw (vs:List V):Prop:=∀v∈vs,∃i:Int,v = .int i/\-1000000000<=i
theorem uw.nil:uw [] :=fun _ h=>nomatch h
theorem uw.cons {i:Int} {vs:List V} (h:-1000000000<=i) (hs:uw vs):uw (.int i::vs):=fun v hv=>by
 rcases c_.mp hv with rfl|hv
 . exact ⟨i,Z,h⟩
 . exact hs v hv
theorem uw.append {us:List V} (h:uw vs) (hu:uw us):uw (vs++us):=fun v hv=>(gh.mp hv).elim (h v) (hu v)
theorem Tq:∀{l:List Int},(∀x∈l,0<=x)->0<=l.sum
 | [],_=>lD _
 | a::l,h=>by
   rw [cQ]
   have:=h a cO
   have:=Tq (l:=l) fun x hx=>h x (cI _ hx)
   omega
theorem AM (h:isNm x=true):wl x<=20:=by
 unfold isNm isName at h
 have:=eE (kU.mp (kU.mp h).1).2
 unfold wl
 omega
theorem gc.sub (g:gc c st b) (wf:Wf st) {p:BP} (hp:p∈b.ao):p.nm∈b.eL/\p.ow∈b.own/\1<=p.wo/\0<=p.we:=by
 obtain ⟨j,hj,ej⟩:=tX hp
 obtain ⟨p',zK,e1,e2,e3,e4⟩:=g.rel.at (i:=j) (q:=p) (by rw [aX hj,ej])
 have hm:=bV zK
 have h1:=wf.sub p' hm
 have h2:=wf.ow p' hm
 have h3:=wf.Bu p' hm
 rw [e1,g.eL] at h1
 rw [e2,g.rel.own] at h2
 rw [e3,e4] at h3
 exact ⟨h1,h2,h3.1,h3.2⟩
theorem gc.bk (g:gc c st b) (wf:Wf st):Bk b:=
 ⟨fun x hx=>AM (g.on x hx),fun x hx=>AM (g.nk x hx),fun p hp=>AM (g.nk _ (g.sub wf hp).1),fun p hp=>⟨by have:=(g.sub wf hp).2.2.1;omega,(g.sub wf hp).2.2.2⟩,g.kg.ol,g.kg.kl,g.kg.pl⟩
end L2
set_option autoImplicit true
namespace L2
open PySem PySem.Spec PyProof.Rows
structure bE (X:Cx) (e:Expr) (t:TE):Prop where h:PE X e t
structure bT (X:Cx) (e:Expr) (t:TT):Prop where h:PT X e t
structure bW (X:Cx) (e:Expr) (t:TT):Prop where h:PW X e t
structure bA (X:Cx) (es:List Expr) (t:TA):Prop where h:PA X es t
structure bS (X:Cx) (s:Stmt) (t:TS):Prop where h:PS X s t
structure cJ (X:Cx) (s:List Stmt) (t:TS):Prop where h:qe X s t
structure bC (X:Cx) (op:CmpOp) (a b:Expr) (t:TE):Prop where h:PC X op a b t
structure bG (X:Cx) (e:Expr) (t:TG):Prop where h:PG X e t
structure WQ (X:Cx) (e:List Expr) (t:C_):Prop where h:PGs X e t
structure bI (X:Cx) (tg iter:Expr) (wi:TI):Prop where h:PI X tg iter wi
structure bO (X:Cx) (e:Option Expr) (t:TO):Prop where h:PO X e t
structure bX (X:Cx) (e:List Stmt) (t:TX):Prop where h:PX X e t
structure WR (X:Cx) (pos:Pos) (ks:List (Option Expr)) (vs:List Expr) (t:List (TE×TE)):Prop where h:PPs X pos ks vs t
theorem bW.pt {X:Cx} {e:Expr} {t:TT} (h:bW X e t):bT X e t:=⟨h.h.pt⟩
theorem KP {op} {t:TE} (h:bE X a t):bE X (.BoolOp op [a] pos) t:=by
 have h:=h.h;exact ⟨fun pins s σ H Q I hw=>BoolOp_one (h pins s σ H Q I hw)⟩
theorem dm {e:Expr} {t:TE} (h:bE X e t) (he:∀whole,isTrue e X.env whole=(do let v <-whole;standAt e.pos;holding [v] (truthy v)):=by intro _;rfl):bT X e (tB t):=by
 have h:=h.h;constructor
 intro pins s σ H Q I hw
 refine isTrue_plain (bq (h pins s σ H _ I hw) fun v s1 ⟨x,H1,I1,r1,q1⟩=>?_) (he _)
 obtain ⟨d,rfl,q⟩:=q1
 cases r1
 exact yP ⟨H1,I1,q⟩
theorem aK {r:R2} (hr:yx X r) (ha:bE X a ta) (hb:bE X b tb) (hs:Xy b:=by exact fun _ _=>rfl):bE X (.Subscript a b pos) (Dg r ta tb):=by
 have ha:=ha.h;have hb:=hb.h;constructor
 intro pins s σ H Q I h
 exact Subscript_ (UD ha hb I h fun v u s2 x y H2 I2 rx ry q=>hr a b pins s2 σ H2 x y v u Q I2 rx ry q (hs _ _))
theorem qx (h:bE X e te):bO X (some e) (acE te):=by
 have h:=h.h;constructor
 intro pins s σ H Q I hw
 rw [evalPart_some]
 refine bq (h pins s σ H _ I hw) fun u s1 ⟨x,H1,I1,r1,q1⟩=>?_
 obtain ⟨i,rfl,q⟩:=q1
 obtain ⟨t,rfl⟩:=r1
 exact ⟨some i,H1,I1, .int i t,q⟩
theorem i_:WQ X [] Zf:=by
 constructor
 intro pins s σ H vs us Q I r h
 obtain ⟨e,h⟩:=h
 subst e
 cases r
 exact assignInOrder_nil ⟨σ,H,I,h⟩
theorem qy:bO X none Xw:=by
 constructor
 intro pins s σ H Q I h
 rw [evalPart_none]
 exact aJ ⟨none,H,I, .none,h⟩
theorem jj {x:Str} {n:String} {pos:Pos} (hv:bootBuiltins x=some (.type n)) (hg:Gl X x) (hm:X.mg x=none) (hn:x ≠ "__name__":=by decide) (hd:(x==("__debug__":Str))=false:=by decide):bE X (.Name x pos) (tC (.ty n)):=by
 exact ⟨Xl hg hm hv rfl hn hd⟩
theorem aN {i:Nat} {x:Str} (hN:X.N.Nodup) (hi:X.N[i]?=some x:=by rfl) (hx:Loc X.env.scope x:=by first|exact Or.inl rfl|exact Or.inr rfl) (hf:X.fn x=true\/X.env.scope.names.lookup x=some .local:=by first|exact .inl rfl|exact .inr rfl|assumption):bG X (.Name x pos) (gi i):=by
 constructor
 intro pins s σ H v u Q I r h
 exact wpAny_assign_Name (tY I hN hi hx r (fun s' I'=>⟨_,H,I',h⟩) hf)
theorem Cw {c:Expr} {body:List Stmt} {tc:TT} {tb:TS} (hp:PassesOwn (model X.prog X.w) X.A X.env X.xe) (hc:bT X c tc) (hb:cJ X body tb):bS X (.While c body [] pos) (Zi tc tb):=by
 have hc:=hc.h;have hb:=hb.h;constructor
 intro pins s σ H D I h
 obtain ⟨W,⟨m0,w0⟩,turn⟩:=h
 refine wpAny_While (codeAny_whileLoop (fun n s'=>∃σ' H',Inv X pins σ' H' s'/\W n σ' H') ?_ m0 ⟨σ,H,I,w0⟩)
 rintro n s1 ⟨σ1,H1,I1,w1⟩
 refine xG hp (bq (hc pins s1 σ1 H1 _ I1 (turn n σ1 H1 w1)) fun b s2 ⟨H2,I2,q2⟩=>?_)
 cases b with
 | true=>
   obtain ⟨N,hN,q2⟩:=q2
   rw [aC rfl]
   refine xG hp (bq (hb pins s2 σ1 H2 _ I2 q2) fun f s3 q3=>?_)
   cases f with
   | next=>
     obtain ⟨σ3,H3,I3,n3⟩:=q3
     obtain ⟨m',hm,w3⟩:=hN σ3 H3 n3
     exact ⟨m',hm,σ3,H3,I3,w3⟩
   | cont=>
     obtain ⟨σ3,H3,I3,n3⟩:=q3
     obtain ⟨m',hm,w3⟩:=hN σ3 H3 n3
     exact ⟨m',hm,σ3,H3,I3,w3⟩
   | brk=>exact q3
   | ret v=>exact q3
 | false=>
   rw [aA fJ]
   exact xH ⟨σ1,H2,I2,q2⟩
theorem AN {tg:Expr} {ob:Expr} {td:TE} {apos cpos:Pos} (hob:bE X ob td) (hbase:attributeBase ob "values" X.env (eval ob X.env)=eval ob X.env:=by rfl) (hline:(apos.endLine==cpos.line)=true:=by rfl):bI X tg (.Call (.Attribute ob "values" apos) [] [] cpos) (acW td):=by
 have hob:=hob.h;constructor
 intro pins s σ H R I h
 refine wpAny_Call_method0_late hbase hline (bq (hob pins s σ H _ I h) fun v s1 ⟨x,H1,I1,r1,q1⟩=>?_)
 obtain ⟨d,o,kvs,rfl,e,fin⟩:=q1
 cases r1
 obtain ⟨ho,hz,hsys,vs,ep,rel,da⟩:=I1.qT e
 obtain ⟨t1,t2,_⟩:=JI I1 (.inl ⟨kvs, .inr ⟨o,e⟩⟩)
 have dd:=da.dictOf
 refine ⟨"dict",_,F.plainAttrs_dict,Pp,F.type_dict_values,t1,t2,Pa rfl (PySem.evalArgs_none ?_)⟩
 refine call_meetsIn Pp dd.typeIs F.entry_dict_values (F.args_dict_values_1 _) (meets_dict_values (c7 X.prog X.w) d hsys) ⟨⟨vs,dd⟩,?_⟩
 refine wpAny_pyIter_values (s:={ s1 with heap:=s1.heap.push { cls:= .type "dict_values",data:= .fields #[.ref d] } }) ⟨_,dW _ rfl,Z,Z⟩ (da.push _) ?_
 have Iv:Inv X pins σ H1 { s1 with heap:=s1.heap.push { cls:= .type "dict_values",data:= .fields #[.ref d] } }:=I1.kept (t':=s1.toks) fun b o e=>cg _ e
 generalize ({ s1 with heap:=s1.heap.push { cls:= .type "dict_values",data:= .fields #[.ref d] } }:Shared)=sv at *
 have I2:Inv X pins σ H1 { sv with heap:=sv.heap.push { cls:= .type "dict_valueiterator",data:= .fields #[.ref d, .int 0 0, .int vs.length 0, .int ep 0] } }:=Iv.kept (t':=sv.toks) fun b o e=>cg _ e
 have hl:kvs.length=vs.length:=rel.length
 obtain ⟨o',es,h1,_,h2,_⟩:=id da
 rw [ho] at h1;cases h1
 refine ⟨sv.heap.objs.size,[sv.heap.objs.size],_,_,H1,Z,I2,Se h2,?_,fun b hb=>?_,fin⟩
 . rw [hl];exact ⟨_,dW _ rfl,Z,Z⟩
 . have eb:b=sv.heap.objs.size:=by simpa using hb
   subst eb
   exact Iv.E3 (aO _) (Iv.hok.fresh (aO _))
theorem tM {id:String} (pa:PlainAttrs T) (slot:Slot T name id) (hty:typeOf (.builtin id)=pure (.type "method_descriptor")) (hm:MtR X id r) (ho:bE X o to) (ha:bA X (e::es) t) (hbase:attributeBase o name X.env (eval o X.env)=eval o X.env:=by rfl) (hfew:((backTo cpos (starEach (e::es) X.env)).all (fun x=>!x.1) && (backToKw cpos (keywordEach [] X.env)).all (fun x=>x.1.isSome)
   && decide ((e::es).length+([] :List Keyword).length+(if ([] :List Keyword).isEmpty then 0 else 1)<30))=true:=by rfl) (hline:(apos.endLine==cpos.line)=true:=by rfl) (hs:starEach (e::es) X.env=(false,eval e X.env)::starEach es X.env:=by rfl) (hplain:(backTo cpos (starEach es X.env)).any (·.1)=false:=by rfl):bE X (.Call (.Attribute o name apos) (e::es) [] cpos) (tBM X.K T r to t):=by
 have ho:=ho.h;have ha:=ha.h;constructor
 intro pins s σ H Q I h
 refine wpAny_Call_method_late hbase hfew hline rfl (bq (ho pins s σ H _ I h) fun v s1 ⟨x,H1,I1,r1,ty,q1⟩=>?_)
 obtain ⟨h1,h2⟩:=ZN I1 r1 ty
 refine ⟨T,id,pa,slot,hty,h1,h2,?_⟩
 have hA:=ha cpos pins s1 σ H1 _ I1 q1
 rw [hs] at hA ⊢
 refine Pa (by show (false || (backTo cpos (starEach es X.env)).any (·.1))=false;rw [hplain] <;> rfl) (Calls.evalArgs_plain ?_)
 exact bq hA fun us s2 ⟨vs,H2,I2,r2,q2⟩=>hm pins s2 σ H2 x vs v us Q I2 r1 r2 q2
theorem YD {X:Cx} {pos:Pos}:WR X pos [] [] [] :=by
 exact ⟨fun pins s σ H Q I h=>pairTrees_nil_walk ⟨[],H,I, .nil,h⟩⟩
theorem KQ {X:Cx} {e:Expr} {t:TE} (h:bE X e t):bE X e (agn t):=by
 have h:=h.h;constructor
 intro pins s σ H Q I hw
 obtain ⟨d,kvs,e,hw⟩:=hw
 obtain ⟨ho,es,ep,h1,_⟩:=(Dq I.hok e).2.2.choose_spec.2
 have h0:=I.Sd e
 exact bq (h pins s σ _ _ (I.freeze e h1) (hw ho)) fun u s' ⟨v,H',I',r,q1,q2⟩=>⟨v,_,I'.Cd q1 h0,r,q2⟩
theorem VO {op op':CmpOp} {r r':R2} (ho:gT X (compareOp op) r) (ho':gT X (compareOp op') r') (ha:bE X a ta) (hb:bE X b tb) (hc:bE X c tc) (hm:lastMarks [op,op'] [b,c]=false:=by with_unfolding_all rfl):bE X (.Compare a [op,op'] [b,c] pos) (Zq r r' ta tb tc):=by
 have ha:=ha.h;have hb:=hb.h;have hc:=hc.h;constructor
 intro pins s σ H Q I h
 refine Compare_chain (bq (ha pins s σ H _ I h) fun v s1 ⟨x,H1,I1,r1,q1⟩=>chain_link (bq (hb pins s1 σ H1 _ I1 q1) fun u s2 ⟨y,H2,I2,r2,q2⟩=>
  bq (ho pins s2 σ H2 x y v u _ I2 r1 r2 q2) fun d s3 ⟨z,H3,I3,r3,k,e,q3⟩=>?_)) hm
 subst e
 cases r3
 refine yP ?_
 cases k with
 | false=>exact ite_ff ⟨.bl false,H3,I3,Z,q3⟩
 | true=>exact ite_tt (chain_last (bq (hc pins s3 σ H3 _ I3 q3) fun w' s4 ⟨z',H4,I4,r4,q4⟩=>ho' pins s4 σ H4 y z' u w' Q I4 r2 r4 q4))
theorem jk {x1} (h:bA X es t):bE X (.Tuple es x1 pos) (af8 t):=by
 have h:=h.h;constructor
 intro pins s σ H Q I hq
 refine wpAny_Tuple_spliced (bq (h pos pins s σ H _ I hq) fun us s1 ⟨xs,H1,I1,r,z,q⟩=>⟨by rw [<-r.length];exact z,?_⟩)
 have hf:H1 s1.heap.objs.size=none:=I1.hok.fresh (aO _)
 refine ⟨.ref s1.heap.objs.size,upd H1 s1.heap.objs.size (.tup xs),I1.laid (t':=s1.toks) (fun b u e=>cg _ e) (aO _) ?_,Z,q _ hf⟩
 exact ⟨z,us,r,⟨_,dW _ rfl,Z,_,Z⟩⟩
theorem KR {tg iter elt cond:Expr} {scope:Scope} {pos:Pos} (N2:List Str) (ix:List (Option Nat)) {wi:TI} {g:TG} {tc:TT} {te:TE} (hc:X.calm=true) (hi:bI X tg iter wi) (hg:∀cl s₂ H₂ fp,bG (c5 X N2 scope cl s₂ H₂ fp) tg g) (he:∀cl s₂ H₂ fp,bE (c5 X N2 scope cl s₂ H₂ fp) elt te) (ht:∀cl s₂ H₂ fp,bT (c5 X N2 scope cl s₂ H₂ fp) cond tc) (hk:scope.kind = .function) (hn:m9 X.N X.env.scope.names scope.names N2 ix=true) (hs:∀x,foldedSetIterable iter X.env x=pure x:=by intro _;rfl):bE X (.ListComp elt [⟨tg,iter,[cond],0⟩] scope pos) (DJ wi ix g tc te):=⟨Vd N2 ix hc hi.h (fun cl s₂ H₂ fp=>(hg cl s₂ H₂ fp).h) (fun cl s₂ H₂ fp=>(he cl s₂ H₂ fp).h) (fun cl s₂ H₂ fp=>(ht cl s₂ H₂ fp).h) hk hn hs⟩
theorem aD {op:Operator} {r:R2} (ho:gT X (binaryOp op) r) (ha:bE X a ta) (hb:bE X b tb):bE X (.BinOp a op b pos) (Dg r ta tb):=by
 have ha:=ha.h;have hb:=hb.h;constructor
 intro pins s σ H Q I h
 exact wpAny_BinOp (UD ha hb I h fun v u s2 x y H2 I2 rx ry q=>ho pins s2 σ H2 x y v u Q I2 rx ry q)
theorem xg {op:CmpOp} {t:TE} (h:bC X op a b t) (h1:behindInMarks op b=false:=by first|exact Jv _ (by decide) (by decide)|rfl):bT X (.Compare a [op] [b] pos) (tB t):=by
 have h:=h.h;constructor
 intro pins s σ H Q I hw
 refine wpAny_isTrue_Compare1 (bq (h pins s σ H _ I hw) fun v s1 h1=>bq h1 fun u s2 h2=>bq h2 fun c s3 ⟨x,H1,I1,r1,q1⟩=>?_) h1
 obtain ⟨d,rfl,q⟩:=q1
 cases r1
 exact yP ⟨H1,I1,q⟩
theorem dO {tg:Expr} {iter:Expr} {body:List Stmt} {wi:TI} {g:TG} {tb:TS} {pos:Pos} (hp:PassesOwn (model X.prog X.w) X.A X.env X.xe) (hc:X.calm=true) (hi:bI X tg iter wi) (hg:bG X tg g) (hb:cJ X body tb) (hs:∀x,foldedSetIterable iter X.env x=pure x:=by intro _;rfl):bS X (.For tg iter body [] pos) (af4 wi g tb):=by
 have hi:=hi.h;have hg:=hg.h;have hb:=hb.h;constructor
 intro pins s σ H D I h
 refine wpAny_For (bq (hi pins s σ H _ I h) fun v s1 h1=>bq h1 fun itv s2 h2=>?_) hs
 obtain ⟨it,fp,tn,J,H2,e,I2,T,st2,f2,W,⟨m0,w0⟩,turn⟩:=h2
 subst e
 have ua:∀{H':Hp},(∀b∈fp,H' b=none)->∀b∈fp,oW X pins H' b:=fun hn b hb=>⟨hn b hb,(f2 b hb).2⟩
 refine codeAny_forLoop_any (fun n s'=>∃i σ' H',Inv X pins σ' H' s'/\tn i s'.heap/\(∀b∈fp,H' b=none)/\W i n σ' H') ?_ m0 ⟨0,σ,H2,I2,st2,fun b hb=>(f2 b hb).1,w0⟩
 rintro n s3 ⟨i,σ3,H3,I3,st3,fr3,w3⟩
 rcases turn i n σ3 H3 w3 with ⟨stop,qn⟩|⟨go,N,hN,step⟩
 . refine xG hp (bq (T.done X rfl rfl rfl hc i pins s3 σ3 H3 X.xe I3 (ua fr3) st3 stop) fun r s4 ⟨hr,I4⟩=>?_)
   subst hr
   exact xH ⟨σ3,H3,I4,qn⟩
 . refine xG hp (bq (T.item X rfl rfl rfl hc i pins s3 σ3 H3 X.xe I3 (ua fr3) st3 go) fun r s4 ⟨u,hr,h4⟩=>?_)
   subst hr
   refine xG hp (bq h4 fun _ s5 ⟨x,H5,I5,r5,y5,wQ,JP⟩=>?_)
   have I5':=I5.pinned (ua JP) (T.obj _ _ wQ)
   refine xG hp (bq (hg _ s5 σ3 H5 x u _ I5' r5 (step x H5 y5)) fun _ s6 ⟨σ6,H6,I6,q6⟩=>?_)
   refine xG hp (bq (hb _ s6 σ6 H6 _ I6 q6) fun f s7 q7=>?_)
   have again:∀{σ7:St} {H7:Hp},Inv X (pins++Df fp s5.heap) σ7 H7 s7->N σ7 H7->∃m,m<n/\∃i σ' H',Inv X pins σ' H' s7/\tn i s7.heap/\(∀b∈fp,H' b=none)/\W i m σ' H':=fun {σ7 H7} I7 n7=>by
    obtain ⟨m',hm,w7⟩:=hN σ7 H7 n7
    refine ⟨m',hm,i+1,σ7,H7,I7.qm,T.keep _ _ _ wQ fun b hb o e=>(I7.pin (b,o) (jy _ (jy _ (jf hb e)))).1,fun b hb=>?_,w7⟩
    obtain ⟨o,e,d⟩:=T.obj _ _ wQ b hb
    exact (I7.pin (b,o) (jy _ (jy _ (jf hb e)))).2.1
   cases f with
   | next=>obtain ⟨σ7,H7,I7,n7⟩:=q7;exact again I7 n7
   | cont=>obtain ⟨σ7,H7,I7,n7⟩:=q7;exact again I7 n7
   | brk=>obtain ⟨σ7,H7,I7,q7⟩:=q7;exact ⟨σ7,H7,I7.qm,q7⟩
   | ret v=>obtain ⟨x7,σ7,H7,I7,r7,q7⟩:=q7;exact ⟨x7,σ7,H7,I7.qm,r7,q7⟩
theorem nS {lo:Option Expr} {hi:Option Expr} {r:V->Option Int->Option Int->Hp->VK->Prop} (hr:RK X r) (he:bE X e te) (hl:bO X lo tl) (hu:bO X hi th):bE X (.Subscript e (.Slice lo hi none p2) pos) (tSl r te tl th):=by
 have he:=he.h;have hl:=hl.h;have hu:=hu.h;constructor
 intro pins s σ H Q I h
 refine Subscript_ (bq (he pins s σ H _ I h) fun v s1 ⟨x,H1,I1,r1,q1⟩=>?_)
 refine wpAny_Slice (bq (hl pins s1 σ H1 _ I1 q1) fun vl s2 ⟨l,H2,I2,pl,q2⟩=>bq (hu pins s2 σ H2 _ I2 q2) fun vu s3 ⟨u,H3,I3,pu,q3⟩=>?_)
 rw [evalPart_none]
 refine aJ ?_
 have I4:Inv X pins σ H3 { s3 with heap:=s3.heap.push { cls:= .type "slice",data:= .fields #[vl,vu, .none] } }:=I3.kept (t':=s3.toks) fun b ob q=>cg _ q
 obtain ⟨T,id,hT,ht,hg⟩:=hr pins { s3 with heap:=s3.heap.push { cls:= .type "slice",data:= .fields #[vl,vu, .none] } } σ H3 x v vl vu l u s3.heap.objs.size Q I4 r1 (Heap.IsSliceOf.new ..) pl pu q3
 show wpAny (model X.prog X.w) X.A (subscriptTail e (.Slice lo hi none p2) v (.ref s3.heap.objs.size)) (EP X pins σ Q) X.xe { s3 with heap:=s3.heap.push { cls:= .type "slice",data:= .fields #[vl,vu, .none] } }
 exact tail_any (ops:=[.ref s3.heap.objs.size,v]) ht hT hg (by with_unfolding_all rfl)
theorem fG {tg iter elt:Expr} {scope:Scope} {pos:Pos} (N2:List Str) (ix:List (Option Nat)) {wi:TI} {g:TG} {te:TE} (hc:X.calm=true) (hi:bI X tg iter wi) (hg:∀cl s₂ H₂ fp,bG (c5 X N2 scope cl s₂ H₂ fp) tg g) (he:∀cl s₂ H₂ fp,bE (c5 X N2 scope cl s₂ H₂ fp) elt te) (hk:scope.kind = .function) (hn:m9 X.N X.env.scope.names scope.names N2 ix=true) (hs:∀x,foldedSetIterable iter X.env x=pure x:=by intro _;rfl):bE X (.ListComp elt [⟨tg,iter,[],0⟩] scope pos) (Wq wi ix g te):=by
 have hi:=hi.h;have hg:=fun cl s₂ H₂ fp=>(hg cl s₂ H₂ fp).h;have he:=fun cl s₂ H₂ fp=>(he cl s₂ H₂ fp).h;constructor
 intro pins s σ H Q I h
 obtain ⟨k1,k2,k3,k4,k5⟩:=mF hn
 obtain ⟨cl,JU,c1,c2⟩:=tK (scope:=scope) (env:=X.env) fun y hy e=>I.ok.has y.1 (k3 y hy e)
 rw [eval_ListComp]
 refine O6 (use:=none) rfl hs JU hk k4 (bq (hi pins s σ H _ I h) fun v s1 h1=>bq h1 fun itv s2 h2=>?_)
 obtain ⟨it,fp,tn,J,H2,e,I2,T,st2,f2,h2⟩:=h2
 subst e
 refine DA (RR:=fun acc C=>compPost (model X.prog X.w) X.A X.xe none (EP X pins σ Q) acc C) (Q:=Q) hc hg he hk hn (fun y c m=>(c1 y c m).1) c2 I2 T st2 f2 h2 ?_
 intro acc C H' s' m I' ns yX hL hsz o9 xU q
 exact ⟨m,ns,fun h' hs'=>⟨.ref acc,H',I'.turned (it:=C) (t':=s'.toks) (fun b o hb e=>(hs'.2 b hb).trans e) yX hL (.inr hsz) o9 xU,Z,q⟩⟩
theorem KS (hu:X.A.units+1<cLine) (hi:bE X i ty) (ho:bE X o td):bC X .In i o (agf ty td):=by
 have hi:=hi.h;have ho:=ho.h;constructor
 intro pins s σ H Q I h
 refine bq (hi pins s σ H _ I h) fun iv s1 ⟨y,H1,I1,ry,q1⟩=>bq (ho pins s1 σ H1 _ I1 q1) fun u s2 ⟨x,H2,I2,rx,a,ov,ex,g,q2⟩=>?_
 subst ex
 obtain rfl:u=Value.ref a:=rx
 exact age hu I2 g ry fun s3 I3=>⟨.bl ov.isSome,H2,I3,Z,q2⟩
theorem aa8 (ha:bE X a ta):bE X (.UnaryOp .Not a pos) (acp ta):=by
 have ha:=ha.h;constructor
 intro pins s σ H Q I h
 refine UnaryOp_ (bq (ha pins s σ H _ I h) fun v s1 ⟨x,H1,I1,r1,q1⟩=>?_)
 obtain ⟨c,rfl,q1⟩:=q1
 cases r1
 exact not_of (yP ⟨.bl (!c),H1,I1,Z,q1⟩)
theorem bu {x j pos}:bE X (.Constant (.str x) j pos) (tC (.str x)):=⟨Rp⟩
theorem AQ {op:UnaryOp} {r:V->Hp->VK->Prop} (ho:Zl X (unaryOp op) r) (ha:bE X a ta):bE X (.UnaryOp op a pos) (tUn r ta):=by
 have ha:=ha.h;constructor
 intro pins s σ H Q I h
 exact UnaryOp_ (bq (ha pins s σ H _ I h) fun v s1 ⟨x,H1,I1,r1,q1⟩=>ho pins s1 σ H1 x v Q I1 r1 q1)
theorem tS (K:Fg) {a b:Expr} {ta:TA} {p pos:Pos} (hg:Gl X "zip") (hm:X.mg "zip"=none) (ha:bA X [a,b] ta) (hK:X.K=K:=by rfl) (hs:starEach [a,b] X.env=[(false,eval a X.env),(false,eval b X.env)] :=by rfl) (hs2:starEach [b] X.env=[(false,eval b X.env)] :=by rfl):bI X (.Tuple elts kk tpos) (.Call (.Name "zip" p) [a,b] [] pos) (acY K ta):=by
 have ha:=ha.h;constructor
 subst hK
 intro pins s σ H R I h
 refine Call_ (wH I hg hm boot_zip (V8 (bq (ha pos pins s σ H _ I h) fun us s1 ⟨vs,H1,I1,r1,q1⟩=>?_) (by rw [hs,hs2]) (by rw [hs2];rfl)))
 obtain ⟨u1,u2,S1,S2,xs,ys,e,k1,k2,q⟩:=q1
 subst e
 obtain ⟨u,w',rfl,ru,rw'⟩:=vals2 r1
 obtain ⟨g1,l1,o1,p1,lt1,b1,ajl,at1,st1,c1⟩:=k1.ok I1 ru
 obtain ⟨g2,l2,o2,p2,lt2,b2,adv,at2,st2,c2⟩:=k2.ok I1 rw'
 refine callType_newIn F.called_zip (by decide) (F.typeCall_zip_2 _ _) (F.newCall_zip_2 _ _) (fun obj=>F.args_object_init_3 obj _ _) F.entry_zip_new (Qm st1 st2) ⟨b1,adv _ _ b2,?_⟩
 have z1:(s1.heap.push o1).objs.size=s1.heap.objs.size+1:=mC ..
 have z2:((s1.heap.push o1).push o2).objs.size=s1.heap.objs.size+2:=by rw [mC,z1]
 generalize e3:({ cls:= .type "tuple",data:= .seq #[.ref s1.heap.objs.size, .ref (s1.heap.push o1).objs.size] }:Obj)=o3
 have z3:(((s1.heap.push o1).push o2).push o3).objs.size=s1.heap.objs.size+3:=by rw [mC,z2]
 generalize e4:({ cls:= .type "tuple",data:= .seq #[.none, .none] }:Obj)=o4
 have z4:((((s1.heap.push o1).push o2).push o3).push o4).objs.size=s1.heap.objs.size+4:=by rw [mC,z3]
 generalize e5:({ cls:= .type "zip",data:= .fields #[.none, .bool false, .bool false, .ref ((s1.heap.push o1).push o2).objs.size, .ref (((s1.heap.push o1).push o2).push o3).objs.size] }:Obj)=o5
 have g5:(((((s1.heap.push o1).push o2).push o3).push o4).push o5).get? ((((s1.heap.push o1).push o2).push o3).push o4).objs.size=some o5:=dW _ (by rw [<-e5];rfl)
 have g4:(((((s1.heap.push o1).push o2).push o3).push o4).push o5).get? (((s1.heap.push o1).push o2).push o3).objs.size=some o4:=cg _ (dW _ (by rw [<-e4];rfl))
 have g3:(((((s1.heap.push o1).push o2).push o3).push o4).push o5).get? ((s1.heap.push o1).push o2).objs.size=some o3:=cg _ (cg _ (dW _ (by rw [<-e3];rfl)))
 have g2':(((((s1.heap.push o1).push o2).push o3).push o4).push o5).get? (s1.heap.push o1).objs.size=some o2:=cg _ (cg _ (cg _ (at2 _)))
 have g1':(((((s1.heap.push o1).push o2).push o3).push o4).push o5).get? s1.heap.objs.size=some o1:=cg _ (cg _ (cg _ (cg _ (at1 _))))
 have kp:∀c o,s1.heap.get? c=some o->(((((s1.heap.push o1).push o2).push o3).push o4).push o5).get? c=some o:=fun c o x=>cg _ (cg _ (cg _ (cg _ (cg _ x))))
 rw [z4] at g5 ⊢
 rw [z3] at g4 e5
 rw [z2] at g3 e5
 rw [z1] at g2' e3
 generalize (((((s1.heap.push o1).push o2).push o3).push o4).push o5)=hN at *
 show _/\_
 subst e3 e4 e5
 refine ⟨⟨_,g5,Z⟩,wpAny_pyIter_zip (s:={ s1 with heap:=hN }) g5 ?_⟩
 have I2:Inv X pins σ H1 { s1 with heap:=hN }:=I1.kept (t':=s1.toks) kp
 obtain ⟨t1,ajn,C1,n1⟩:=c1 s1.heap.objs.size
 obtain ⟨t2,ajo,C2,n2⟩:=c2 (s1.heap.objs.size+1)
 refine ⟨s1.heap.objs.size+4,[s1.heap.objs.size+4,s1.heap.objs.size+2,s1.heap.objs.size+3,s1.heap.objs.size,s1.heap.objs.size+1],_,_,H1,Z,I2,Si (My lt1 lt2) C1 C2,⟨g5,g3,⟨_,_,g4⟩,n1 _ g1',n2 _ g2'⟩,fun b hb=>?_,q⟩
 have hb':b=s1.heap.objs.size+4\/b=s1.heap.objs.size+2\/b=s1.heap.objs.size+3\/b=s1.heap.objs.size\/b=s1.heap.objs.size+1:=by simpa using hb
 have le:s1.heap.objs.size<=b:=by
  rcases hb' with r|r|r|r|r
  . rw [r];exact Al _ _
  . rw [r];exact Al _ _
  . rw [r];exact Al _ _
  . rw [r];exact aO _
  . rw [r];exact Al _ _
 exact I1.E3 le (I1.hok.fresh le)
theorem aY {op:CmpOp} {r:R2} (ho:gT X (compareOp op) r) (ha:bE X a ta) (hb:bE X b tb) (hm:behindInMarks op b=false):bT X (.Compare a [op] [b] pos) (PJ (Dg r ta tb)):=by
 have ha:=ha.h;have hb:=hb.h;constructor
 intro pins s σ H Q I h
 refine wpAny_isTrue_Compare1 (bq (ha pins s σ H _ I h) fun v s1 ⟨x,H1,I1,r1,q1⟩=>bq (hb pins s1 σ H1 _ I1 q1) fun u s2 ⟨y,H2,I2,r2,q2⟩=>
  bq (ho pins s2 σ H2 x y v u _ I2 r1 r2 q2) fun c s3 ⟨z,H3,I3,r3,k,e,q3⟩=>?_) hm
 subst e
 cases r3
 exact yP ⟨H3,I3,q3⟩
theorem aP {i:Nat} {x:Str} {e:Expr} {te:TE} {pos':Pos} (hN:X.N.Nodup) (he:bE X e te) (hi:X.N[i]?=some x:=by rfl) (hx:Loc X.env.scope x:=by first|exact Or.inl rfl|exact Or.inr rfl) (hs:swapsWith e (some (.Name x pos')) pos.line X.env=pure false:=by rfl) (hf:X.fn x=true\/X.env.scope.names.lookup x=some .local:=by first|exact .inl rfl|exact .inr rfl|assumption):bS X (.Assign [.Name x pos'] e pos) (yR te (gi i)):=by
 have he:=he.h;constructor
 intro pins s σ H D I h
 refine wpAny_Assign_Name (bq (he pins s σ H _ I h) fun v s1 ⟨y,H1,I1,r1,q1⟩=>?_) hs
 exact tY I1 hN hi hx r1 (fun s2 I2=>⟨_,H1,I2,q1⟩) hf
theorem YE {X:Cx} {pos:Pos} {keys:List (Option Expr)} {values:List Expr} {Dr:List (TE×TE)} (h:WR X pos keys values Dr) (hall:keys.all (·.isSome)=true) (hl:keys.length=values.length) (h0:keys≠[]) (h15:keys.length<=15):bE X (.Dict keys values pos) (acO Dr):=by
 have h:=h.h;constructor
 intro pins s σ H Q I q
 have hn:=I.hok.fresh (aO s.heap.objs.size)
 have I1:=I.laid (a:=s.heap.objs.size) (o:= .dK []) (h':=s.heap.push { cls:= .type "dict",data:= .dict #[] }) (t':=s.toks) (fun _ _ q=>cg _ q) (aO _) (JH s.heap I.big)
 refine wpAny_Dict_walk (knd:=c7 X.prog X.w) hall hl h0 h15 (bq (h pins _ σ _ _ I1 (q _ hn)) fun ws s2 ⟨ps,H2,I2,rel,e,kvs,ep,lk,q2⟩=>?_)
 subst ep
 obtain ⟨rs,c,rk⟩:=Ds (P:=X.prog) (w:=X.w) rel
 obtain ⟨z,hd,vs0,r0,dd⟩:=Dq I2.hok e
 cases r0
 refine ⟨rs,c,dd,fun h' Bl hs=>⟨.ref s.heap.objs.size,_,?_,Z,q2⟩⟩
 have hz:(wN [] kvs).length<=sizeLine:=by
  have h1:=yz kvs []
  rw [List.length_nil] at h1
  rw [fm];omega
 have he:∃q,h'.get? s.heap.objs.size=some q:=let ⟨q,_,_,hq,_⟩:=Bl;⟨q,hq⟩
 exact Az I2 (by rw [e];exact True.intro) hs he (JG hz hd (rk.merge .nil) Bl)
theorem di (K:Fg) {tg l:Expr} {tl:TE} (hl:bE X l tl) (hK:X.K=K:=by rfl):bI X tg l (Wg K tl):=by
 have hl:=hl.h;exact ⟨hK▸Xo hl⟩
theorem fH {X:Cx} {e:Expr} {t:TT} (h:bT X e t):bT X e (fun σ H Q=>∃b:Bool,t σ H (fun b' H'=>b'=b/\H'=H)/\Q b H):=by
 have h:=h.h;constructor
 intro pins s σ H Q I hw
 obtain ⟨b,hb,q⟩:=hw
 refine bq (h pins s σ H _ I hb) fun b' s' ⟨H',I',e1,e2⟩=>?_
 subst e1 e2
 exact ⟨_,I',q⟩
theorem au {st:Stmt} (h1:bS X st t):cJ X [st] t:=by
 have h1:=h1.h;constructor
 intro pins s σ H D I h
 refine wpAny_execs_cons (bq (h1 pins s σ H D I h) fun f s1 q=>?_)
 cases f with
 | next=>exact xH q
 | ret v=>exact q
 | brk=>exact q
 | cont=>exact q
theorem YF (ho:bE X o td) (hi:bE X i ty):bS X (.Delete [.Subscript o i tpos] pos) (acN td ty):=by
 have ho:=ho.h;have hi:=hi.h;constructor
 intro pins s σ H D I h
 refine wpAny_Delete (wpAny_deleteEach_cons (wpAny_delete_Subscript (bq (ho pins s σ H _ I h) fun u s1 ⟨x,H1,I1,rx,q1⟩=>bq (hi pins s1 σ H1 _ I1 q1) fun iv s2 ⟨y,H2,I2,ry,a,kvs,k,ex,e,ey,l,q2⟩=>?_)))
 subst ex ey
 obtain rfl:u=Value.ref a:=rx
 exact RT I2 e ry l fun s3 I3=>wpAny_deleteEach_nil ⟨σ,_,I3,q2⟩
theorem dH (ha:bT X a tA):bT X (.UnaryOp .Not a pos) (afZ tA):=by
 have ha:=ha.h;constructor
 intro pins s σ H Q I h
 exact isTrue_not (ha pins s σ H (fun c H1=>Q (!c) H1) I h)
theorem c8 (he:bE X e te) (hs:swapsWith e none pos.line X.env=pure false:=by rfl):bS X (.Expr e pos) (acr te):=by
 have he:=he.h;constructor
 intro pins s σ H D I h
 exact wpAny_Expr_any (bq (he pins s σ H _ I h) fun v s1 ⟨x,H1,I1,r1,q1⟩=>⟨σ,H1,I1,q1⟩) I.quiet hs
theorem gF {pl:Sem Bool} {j k:Nat} {C:Addr} {m:Str} {ps:List Str} {sp:Sp} {o e:Expr} {es:List Expr} {ta:TE} {t:TA} {apos pos:Pos} (D:Mn X.prog X.w X.K X.mg X.base j C m ps sp) (hr:dB k X.A) (ho:bE X o ta) (ha:bA X (e::es) t) (hj:j<=k:=by decide) (hst:starEach (e::es) X.env=(false,eval e X.env)::starEach es X.env:=by rfl) (hpl:(backTo pos (starEach es X.env)).any (·.1)=false:=by rfl) (ht:eval (.Call (.Attribute o m apos) (e::es) [] pos) X.env=(do
   let ov <-eval o X.env
   standAt apos.atName
   let (f,first) <-holding [ov] (getMethod ov m pl)
   callWith pos f first (backTo pos (starEach (e::es) X.env)) (backToKw pos (keywordEach [] X.env))):=by rfl):bE X (.Call (.Attribute o m apos) (e::es) [] pos) (Dm C m sp [] E0 ta t):=by
 have ho:=ho.h;have ha:=ha.h;constructor
 obtain ⟨f,fd,F,b,hm,c⟩:=D.ex
 exact NV (pl:=pl) ho c hm F (hr.mono hj) b .nil (fun _ _ _ _ _ _ _ h=>h.elim) ha hst hpl ht
theorem cU {e:Expr} {es:List Expr} {t:TG} {u:C_} (h1:bG X e t) (h2:WQ X es u) (hs:(assignEach (e::es) X.env).map (·.2)=assign e X.env::(assignEach es X.env).map (·.2):=by rfl):WQ X (e::es) (We t u):=by
 have h1:=h1.h;have h2:=h2.h;constructor
 intro pins s σ H vs us Q I r h
 obtain ⟨v,vr,e1,h⟩:=h
 subst e1
 cases r with
 | cons r rr=>
   rw [hs]
   refine assignInOrder_cons (bq (h1 pins s σ H _ _ _ I r h) fun _ s1 ⟨σ1,H1,I1,q1⟩=>?_)
   exact h2 pins s1 σ1 H1 _ _ Q I1 rr q1
theorem qz {i:Nat} {x:Str} {px pos':Pos} {tg iter elt:Expr} {scope:Scope} {pos:Pos} (N2:List Str) (ix:List (Option Nat)) {wi:TI} {g:TG} {te:TE} (hN:X.N.Nodup) (hi:X.N[i]?=some x) (hx:X.env.scope.names.lookup x=some .local) (hc:X.calm=true) (hit:bI X tg iter wi) (hg:∀cl s₂ H₂ fp,bG (c5 X N2 scope cl s₂ H₂ fp) tg g) (he:∀cl s₂ H₂ fp,bE (c5 X N2 scope cl s₂ H₂ fp) elt te) (hk:scope.kind = .function) (hn:m9 X.N X.env.scope.names scope.names N2 ix=true) (hw:swapsWith (.ListComp elt [⟨tg,iter,[],0⟩] scope pos) (some (.Name x px)) pos'.line X.env=pure true) (hs:∀x,foldedSetIterable iter X.env x=pure x:=by intro _;rfl):bS X (.Assign [.Name x px] (.ListComp elt [⟨tg,iter,[],0⟩] scope pos) pos') (yR (Wq wi ix g te) (gi i)):=by
 have hit:=hit.h;have hg:=fun cl s₂ H₂ fp=>(hg cl s₂ H₂ fp).h;have he:=fun cl s₂ H₂ fp=>(he cl s₂ H₂ fp).h;constructor
 intro pins s σ H D I h
 obtain ⟨k1,k2,k3,k4,k5⟩:=mF hn
 obtain ⟨cl,JU,c1,c2⟩:=tK (scope:=scope) (env:=X.env) fun y hy e=>I.ok.has y.1 (k3 y hy e)
 rw [exec_Assign_Name_used _ _ _ _ hw]
 refine aq (Ao (aq ?_))
 show wpAny _ X.A (do let _ <-comprehension (.ListComp elt [⟨tg,iter,[],0⟩] scope pos) scope X.env _ (newList []) false (eval iter X.env) (some (assign (.Name x px) X.env))) _ _ s
 refine aq (bq (O6 (use:=some (assign (.Name x px) X.env)) (Q:=fun _ s'=>SP X pins D .next s') rfl hs JU hk k4 (bq (hit pins s σ H _ I h) fun v s1 h1=>bq h1 fun itv s2 h2=>?_)) fun _ s' hq=>aJ (aJ hq))
 obtain ⟨it,fp,tn,J,H2,e,I2,T,st2,f2,h2⟩:=h2
 subst e
 refine DA (RR:=fun acc C=>compPost (model X.prog X.w) X.A X.xe (some (assign (.Name x px) X.env)) (fun _ s'=>SP X pins D .next s') acc C) (Q:=fun v H'=>D.nx (σ.set i (some v)) H') hc hg he hk hn (fun y c m=>(c1 y c m).1) c2 I2 T st2 f2 h2 ?_
 intro acc C H' s' m I' ns yX hL hsz o9 xU q
 show wpAny _ X.A (assign (.Name x px) X.env (.ref acc)) _ _ _
 refine wpAny_assign_Name (yQ I' hN hi (.inl hx) (v:= .ref acc) rfl (fun s3 I3 ⟨a,sb,ha⟩=>?_) (.inr hx))
 have ca:C≠a:=by
  rcases ha with z|z
  . rw [z];exact hL
  . exact fun e=>o9 x a z e.symm
 exact ⟨m,ns.sameBut sb ca,fun h' hs'=>⟨_,H',I3.turned (it:=C) (t':=s3.toks) (fun b o hb e=>(hs'.2 b hb).trans e) yX hL (.inr hsz) o9 xU,q⟩⟩
theorem ux {X:Cx} {pos:Pos} {k v:Expr} {ks:List (Option Expr)} {vs:List Expr} {tk tv:TE} {Dr:List (TE×TE)} (hk:bE X k tk) (hv:bE X v tv) (hr:WR X pos ks vs Dr):WR X pos (some k::ks) (v::vs) ((tk,tv)::Dr):=by
 have hk:=hk.h;have hv:=hv.h;have hr:=hr.h;exact ⟨fun pins s σ H Q I h=>
 pairTrees_cons_walk (bq (hk pins s σ H _ I h) fun u s1 ⟨x,H1,I1,rx,q1⟩=>bq (hv pins s1 σ H1 _ I1 q1) fun w2 s2 ⟨y,H2,I2,ry,q2⟩=>
  bq (hr pins s2 σ H2 _ I2 q2) fun ws s3 ⟨ps,H3,I3,rel,q3⟩=>⟨(x,y)::ps,H3,I3, .cons ⟨rx,ry⟩ rel,q3⟩)⟩
theorem zO (hu:X.A.units+1<cLine) (hi:bE X i ty) (ho:bE X o td):bC X .NotIn i o (XE ty td):=by
 have hi:=hi.h;have ho:=ho.h;constructor
 intro pins s σ H Q I h
 refine bq (hi pins s σ H _ I h) fun iv s1 ⟨y,H1,I1,ry,q1⟩=>bq (ho pins s1 σ H1 _ I1 q1) fun u s2 ⟨x,H2,I2,rx,a,ov,ex,g,q2⟩=>?_
 subst ex
 obtain rfl:u=Value.ref a:=rx
 exact XA hu I2 g ry fun s3 I3=>⟨.bl (!ov.isSome),H2,I3,Z,q2⟩
theorem fq {b j pos}:bE X (.Constant (.bool b) j pos) (tC (.bl b)):=by
 exact ⟨fun _ _ _ H _ I h=>Constant_bool ⟨.bl b,H,I,Z,h⟩⟩
theorem tT {pl:Sem Bool} {j k:Nat} {C:Addr} {m:Str} {ps:List Str} {sp:Sp} {o:Expr} {ta:TE} {apos pos:Pos} (D:Mn X.prog X.w X.K X.mg X.base j C m ps sp) (hr:dB k X.A) (ho:bE X o ta) (hj:j<=k:=by decide) (ht:eval (.Call (.Attribute o m apos) [] [] pos) X.env=(do
   let ov <-eval o X.env
   standAt apos.atName
   let (f,first) <-holding [ov] (getMethod ov m pl)
   callWith pos f first (backTo pos (starEach [] X.env)) (backToKw pos (keywordEach [] X.env))):=by rfl):bE X (.Call (.Attribute o m apos) [] [] pos) (Dm C m sp [] E0 ta oY):=by
 have ho:=ho.h;constructor
 obtain ⟨f,fd,F,b,hm,c⟩:=D.ex
 exact UM (pl:=pl) ho c hm F (hr.mono hj) b .nil (fun _ _ _ _ _ _ _ h=>h.elim) ht
theorem aR (he:bE X e te):bS X (.Return (some e) pos) (af1 te):=by
 have he:=he.h;constructor
 intro pins s σ H D I h
 exact wpAny_Return_some (bq (he pins s σ H _ I h) fun v s1 ⟨x,H1,I1,r1,q1⟩=>⟨x,σ,H1,I1,r1,q1⟩)
theorem dP {tg:Expr} {a:Expr} {ta:TA} {p pos:Pos} (hg:Gl X "range") (hm:X.mg "range"=none) (ha:bA X [a] ta) (hs:starEach [a] X.env=[(false,eval a X.env)] :=by rfl):bI X tg (.Call (.Name "range" p) [a] [] pos) (acy ta):=by
 have ha:=ha.h;constructor
 intro pins s σ H R I h
 refine Call_ (wH I hg hm boot_range (V8 (bq (ha pos pins s σ H _ I h) fun us s1 ⟨vs,H1,I1,r1,q1⟩=>?_) hs rfl))
 obtain ⟨j,e,q1,q2,q⟩:=q1
 subst e
 cases r1 with
 | cons r rr=>
   cases rr
   obtain ⟨t,rfl⟩:=r
   exact call_range_1 (UC I1 (by omega) (by omega) q1 q2 (by simpa using q))
theorem aa9 {j:Nat} {n J:Str} {Ja:Addr} {t:TX} {u:TS} {body:List Stmt} {b0:Stmt} {suite:List Stmt} {p hp pos:Pos} (hN:X.N.Nodup) (hj:X.N[j]?=some n) (hl:X.env.scope.names.lookup n=some .local) (hno:∀e s,X.xe e s->False) (hst:X.stack=X.env::X.outer) (hfr:X.env.frame=some X.env.locals) (hb:bX X body t) (hg:Gl X J) (hm:X.mg J=some (.ref Ja)) (hs:∀x,cJ (X.held x) (b0::suite) u) (hd:(J==("__debug__":Str))=false:=by decide):bS X (.Try body [.ExceptHandler (some (.Name J p)) (some n) (b0::suite) hp] [] [] pos) (agw X.K Ja j t u):=by
 have hb:=hb.h;have hs:=fun x=>(hs x).h;constructor
 intro pins s σ H D I h
 refine wpAny_Try_except (gP (hb pins s σ H _ _ I h) (fun f s1 q=>?_) fun ev s1 q=>?_)
 . cases f with
   | next=>exact xH q
   | brk=>exact q
   | cont=>exact q
   | ret u=>exact q
 . obtain ⟨x,C,σ',Hc,sc,H',rfl,F,hk,hR⟩:=q
   refine VF F I.ok.frames hst hfr fun s2 F2=>KA F2 fun s3 F3=>?_
   have I3:Inv (X.held x) pins σ' H' s3:=F3.inv.held x
   refine wpAny_handleBy_cons (codeAny_handlers_test (qj (X:=X.held x) I3 hg hm ?_ hd)) (by intro z;cases z)
   obtain ⟨T,⟨oe,vs,a0,oT,ts,h1,h2,_⟩,_⟩:=F3.tr
   have LT:PySem.W.Looks (model X.prog X.w) s3.heap (typeOf (.ref x)) (.ref C):=by
    have:=(PySem.W.Looks.ld (M:=model X.prog X.w) (part:=none) h1).andThen (f:=fun o=>(pure o.cls:Sem Value)) (PySem.W.Looks.now)
    rw [h2] at this
    exact this
   refine (PySem.W.exm_one I3.iJ LT hk).here ?_
   refine codeAny_handlers_suite_as (KA F3 fun s4 F4=>?_)
   have I4:Inv (X.held x) pins σ' (upd H' x (Ct x C)) s4:=F4.known.held x
   refine tY (X:=X.held x) I4 hN hj (.inl hl) (v:= .ref x) rfl (fun s5 I5=>?_) (.inr hl)
   refine gP (hs x pins s5 _ _ _ I5 (hR x F4.hx)) (fun f s6 q=>?_) fun e s6 z=>(hno e s6 z).elim
   have goes:∀{σ2 H2} {Q:Prop} {G:Shared->Prop} {p:Pos},Inv (X.held x) pins σ2 H2 s6->(∀s',Inv X pins (σ2.set j none) H2 s'->G s')->wpAny (model X.prog X.w) X.A (do bindName X.env n .none;unbindBehindTheSuite X.env n p) (fun _ s'=>G s') X.xe s6:=by
    intro σ2 H2 _ G p I6 k
    have I7:=I6.aaV I.ok
    obtain ⟨m,hm,hlo⟩:=I7.loc
    refine wpAny_nameGoes_keeps (m:=m) (by unfold Env.kindOf;exact hl) hm (by rw [I.ok.kind];rfl) fun h' v hn hs=>k _ (I7.gone hN hj hm hlo hn hs)
   cases f with
   | next=>obtain ⟨σ2,H2,I6,q⟩:=q;exact goes (Q:=True) I6 fun s' I'=>⟨_,H2,I',q⟩
   | brk=>obtain ⟨σ2,H2,I6,q⟩:=q;exact goes (Q:=True) I6 fun s' I'=>⟨_,H2,I',q⟩
   | cont=>obtain ⟨σ2,H2,I6,q⟩:=q;exact goes (Q:=True) I6 fun s' I'=>⟨_,H2,I',q⟩
   | ret u=>obtain ⟨v,σ2,H2,I6,r,q⟩:=q;exact goes (Q:=True) I6 fun s' I'=>⟨v,_,H2,I',r,q⟩
theorem aT:cJ X [] acq:=by
 exact ⟨fun _ _ σ H _ I h=>xH ⟨σ,H,I,h⟩⟩
theorem eO (K:Fg) {o value:Expr} {f:Str} {ta tv:TE} {pos pos':Pos} (ha:bE X o ta) (hv:bE X value tv) (hs:swapsWith value (some (.Attribute o f pos')) pos.line X.env=pure false:=by rfl) (hK:X.K=K:=by rfl):bS X (.Assign [.Attribute o f pos'] value pos) (Zs K ta tv f):=by
 have ha:=ha.h;have hv:=hv.h;exact ⟨hK▸Zv ha hv hs⟩
theorem aa_ {j k:Nat} {g:Str} {ps:List Str} {sp:Sp} {e:Expr} {es:List Expr} {t:TA} {p pos p2 p3 p4:Pos} {kd:Nat} {body:List Stmt} (D:Dx X.prog X.w X.K X.mg X.base j g ps sp) (hr:dB k X.A) (hno:∀e s,X.xe e s->False) (ha:bA X (e::es) t) (hj:j<=k:=by decide) (hg:Gl X g:=by rfl) (hdb:(g==("__debug__":Str))=false:=by decide) (he:starEach (e::es) X.env=(false,eval e X.env)::starEach es X.env:=by rfl) (hpl:(backTo pos (starEach es X.env)).any (·.1)=false:=by rfl):bX X [.If (.Compare (.Call (.Name g p) (e::es) [] pos) [.IsNot] [.Constant .none kd p2] p3) body [] p4] (adf sp t):=by
 have ha:=ha.h;constructor
 intro pins s σ H Dn R I h
 refine wpAny_execs_cons (wpAny_If (wpAny_isTrue_Compare1 (gP (ade D hr hno ha hj hg hdb he hpl I h) (fun v s1 ⟨y,H1,I1,r1,ey,q1⟩=>?_) fun ev s1 ⟨x,C,Hc,sc,H',ev',F,hR⟩=>⟨x,C,σ,Hc,sc,H',ev',F,hR⟩) (Jv _ (by decide) (by decide))))
 subst ey
 cases r1
 exact Constant_none (isnot_none_gen (yP (xH (xH ⟨_,H1,I1,q1⟩))))
theorem Tr {a:Expr} {ta:TA} {p pos:Pos} (hg:Gl X "range") (hm:X.mg "range"=none) (ha:bA X [a] ta) (hs:starEach [a] X.env=[(false,eval a X.env)] :=by rfl):bE X (.Call (.Name "range" p) [a] [] pos) (agi ta):=by
 have ha:=ha.h;constructor
 intro pins s σ H Q I h
 refine Call_ (wH I hg hm boot_range (V8 (bq (ha pos pins s σ H _ I h) fun us s1 ⟨vs,H1,I1,r1,q1⟩=>?_) hs rfl))
 obtain ⟨j,e,q⟩:=q1
 subst e
 obtain ⟨u,rfl,ru⟩:=vals1 r1
 obtain ⟨t,rfl⟩:=ru
 exact call_range_1 ⟨.ref s1.heap.objs.size,_,I1.laid (a:=s1.heap.objs.size) (o:= .vh 0 j) (fun b o e=>cg _ e) (aO _) ⟨_,_,_,dW _ rfl⟩,Z,q _ I1.fresh⟩
theorem dQ (h:bA X es t):bE X (.List es pos) (PU t):=by
 have h:=h.h;constructor
 intro pins s σ H Q I hq
 refine wpAny_List_spliced (bq (h pos pins s σ H _ I hq) fun us s1 ⟨xs,H1,I1,r,z,q⟩=>⟨by rw [<-r.length];exact z,?_⟩)
 have hf:H1 s1.heap.objs.size=none:=I1.hok.fresh (aO _)
 refine ⟨.ref s1.heap.objs.size,upd H1 s1.heap.objs.size (.lst xs),I1.laid (t':=s1.toks) (fun b u e=>cg _ e) (aO _) ?_,Z,q _ hf⟩
 exact ⟨z,us,0,r,dW _ rfl⟩
theorem D9 (K:Fg) {o value:Expr} {f:Str} {ta tv:TE} {pos tpos:Pos} {op:Operator} {rd:V->V->Hp->VK->Prop} (ha:bE X o ta) (hv:bE X value tv) (hop:PK X op rd) (hK:X.K=K:=by rfl):bS X (.AugAssign (.Attribute o f tpos) op value pos) (NS K ta tv rd f):=by
 have ha:=ha.h;have hv:=hv.h;exact ⟨hK▸RD ha hv hop⟩
theorem aba {j pos}:bE X (.Constant .none j pos) (tC .bU):=by
 exact ⟨fun _ _ _ H _ I h=>Constant_none ⟨.bU,H,I,Z,h⟩⟩
theorem VP {i:Nat} {x:Str} {px pos':Pos} {tg iter elt cond:Expr} {scope:Scope} {pos:Pos} (N2:List Str) (ix:List (Option Nat)) {wi:TI} {g:TG} {tc:TT} {te:TE} (hN:X.N.Nodup) (hi:X.N[i]?=some x) (hx:X.env.scope.names.lookup x=some .local) (hc:X.calm=true) (hit:bI X tg iter wi) (hg:∀cl s₂ H₂ fp,bG (c5 X N2 scope cl s₂ H₂ fp) tg g) (he:∀cl s₂ H₂ fp,bE (c5 X N2 scope cl s₂ H₂ fp) elt te) (ht:∀cl s₂ H₂ fp,bT (c5 X N2 scope cl s₂ H₂ fp) cond tc) (hk:scope.kind = .function) (hn:m9 X.N X.env.scope.names scope.names N2 ix=true) (hw:swapsWith (.ListComp elt [⟨tg,iter,[cond],0⟩] scope pos) (some (.Name x px)) pos'.line X.env=pure true) (hs:∀x,foldedSetIterable iter X.env x=pure x:=by intro _;rfl):bS X (.Assign [.Name x px] (.ListComp elt [⟨tg,iter,[cond],0⟩] scope pos) pos') (yR (DJ wi ix g tc te) (gi i)):=⟨Ve N2 ix hN hi hx hc hit.h (fun cl s₂ H₂ fp=>(hg cl s₂ H₂ fp).h) (fun cl s₂ H₂ fp=>(he cl s₂ H₂ fp).h) (fun cl s₂ H₂ fp=>(ht cl s₂ H₂ fp).h) hk hn hw hs⟩
theorem Fw {ob:Expr} {td:TE} {apos cpos:Pos} (hob:bE X ob td) (hbase:attributeBase ob "values" X.env (eval ob X.env)=eval ob X.env:=by rfl) (hline:(apos.endLine==cpos.line)=true:=by rfl):bE X (.Call (.Attribute ob "values" apos) [] [] cpos) (acX td):=by
 have hob:=hob.h;constructor
 intro pins s σ H Q I h
 refine wpAny_Call_method0_late hbase hline (bq (hob pins s σ H _ I h) fun v s1 ⟨x,H1,I1,r1,q1⟩=>?_)
 obtain ⟨d,kvs,rfl,e,fin⟩:=q1
 cases r1
 obtain ⟨t1,t2,hsys⟩:=JI I1 (.inl ⟨kvs,e⟩)
 obtain ⟨hz,_,vs,rel,dd⟩:=qR I1.hok e
 refine ⟨"dict",_,F.plainAttrs_dict,Pp,F.type_dict_values,t1,t2,Pa rfl (PySem.evalArgs_none ?_)⟩
 refine call_meetsIn Pp dd.typeIs F.entry_dict_values (F.args_dict_values_1 _) (meets_dict_values (c7 X.prog X.w) d hsys) ⟨⟨vs,dd⟩,?_⟩
 refine ⟨.ref s1.heap.objs.size,_,I1.laid (t':=s1.toks) (o:=lG s1.heap.objs.size d) (fun b u e=>cg _ e) (aO _) ?_,Z,fin _ I1.fresh⟩
 refine ⟨⟨_,dW _ rfl,Z,Z⟩,⟨_,dW _ rfl⟩,fun h1 h2 ⟨o,a,b⟩ k=>⟨o,k o a,b⟩⟩
theorem adw {j k:Nat} {x:Str} {C:Addr} {ps:List Str} {sp:Sp} {e:Expr} {es:List Expr} {t:TA} {p pos:Pos} (D:Cn X.prog X.w X.K X.mg X.base j x C ps sp) (hr:dB k X.A) (ha:bA X (e::es) t) (hj:j+1<=k:=by decide) (hg:Gl X x:=by rfl) (hdb:(x==("__debug__":Str))=false:=by decide) (he:starEach (e::es) X.env=(false,eval e X.env)::starEach es X.env:=by rfl) (hpl:(backTo pos (starEach es X.env)).any (·.1)=false:=by rfl):bE X (.Call (.Name x p) (e::es) [] pos) (Jb C sp [] E0 t):=by
 have ha:=ha.h;constructor
 obtain ⟨f,fd,F,b,M,m⟩:=D.ex
 exact Xu M F (hr.mono hj) hg m b .nil (fun _ _ _ _ _ _ _ h=>h.elim) ha hdb he hpl
theorem jY {x:Str} {v:V} {u:Value} {pos:Pos} (hg:Gl X x) (hm:X.mg x=some u) (r:RelV v u) (hd:(x==("__debug__":Str))=false:=by decide):bE X (.Name x pos) (tC v):=by
 exact ⟨fun _ _ _ H _ I h=>qj I hg hm ⟨v,H,I,r,h⟩ hd⟩
theorem lU (hc:gj X (.type T) r) (hg:Gl X x) (hm:X.mg x=none) (hv:bootBuiltins x=some (.type T)) (ha:bA X (e::es) t) (hn:x ≠ "__name__":=by decide) (hdb:(x==("__debug__":Str))=false:=by decide) (he:starEach (e::es) X.env=(false,eval e X.env)::starEach es X.env:=by rfl) (hpl:(backTo pos (starEach es X.env)).any (·.1)=false:=by rfl):bE X (.Call (.Name x p) (e::es) [] pos) (Wi r t):=by
 have ha:=ha.h;constructor
 intro pins s σ H Q I h
 refine EX (wH I hg hm hv ?_ hn hdb)
 exact V8 (bq (ha pos pins s σ H _ I h) fun us s1 ⟨vs,H1,I1,r1,q1⟩=>hc pins s1 σ H1 vs us Q I1 r1 q1) he hpl
theorem iV {rest:List Expr} (ha:bT X a tA) (hb:bW X (.BoolOp .Or (b::rest) pos) Wc):bW X (.BoolOp .Or (a::b::rest) pos) (tOr tA Wc):=by
 have ha:=ha.h;have hb:=hb.h;constructor
 intro wh pins s σ H Q I h
 refine isTrue_or (bq (ha pins s σ H _ I h) fun c s1 ⟨H1,I1,q1⟩=>?_)
 cases c with
 | true=>exact ⟨H1,I1,q1⟩
 | false=>exact hb wh pins s1 σ H1 Q I1 q1
theorem xh (ha:bT X a tA):bW X (.BoolOp .And [a] pos) tA:=by
 have ha:=ha.h;constructor
 intro wh pins s σ H Q I h
 refine isTrue_and (bq (ha pins s σ H Q I h) fun c s1 e=>?_)
 cases c with
 | true=>exact isTrue_and_nil e
 | false=>exact e
theorem cK {c:Expr} {a b:List Stmt} {tc:TT} (hc:bT X c tc) (ha:cJ X a t) (hb:cJ X b u):bS X (.If c a b pos) (Zc tc t u):=⟨Wd hc.h ha.h hb.h⟩
theorem Tt {i j:Nat} {x y:Str} {a b:Expr} {ta:TA} {px py pt:Pos} {kt k2 pt2} (hc:X.calm=true) (hN:X.N.Nodup) (hi:X.N[i]?=some x) (hj:X.N[j]?=some y) (hij:i≠j) (hx:X.env.scope.names.lookup x=some .local) (hy:X.env.scope.names.lookup y=some .local) (ha:bA X [a,b] ta) (hw:swappedStores [.Tuple [.Name x px, .Name y py] kt pt] (.Tuple [a,b] k2 pt2) X.env=pure (some [x,y])) (hs:swapsWithSole [.Tuple [.Name x px, .Name y py] kt pt] (.Tuple [a,b] k2 pt2) pos.line X.env=pure false:=by rfl):bS X (.Assign [.Tuple [.Name x px, .Name y py] kt pt] (.Tuple [a,b] k2 pt2) pos) (af3 i j ta):=by
 have ha:=ha.h;constructor
 intro pins s σ H D I h
 rw [exec_Assign_arm]
 refine aq (Ao ?_)
 rw [hs]
 refine aq (aJ ?_)
 rw [aA (by decide)]
 refine aq (Tuple_ (bq (ha _ pins s σ H _ I h) fun us s1 ⟨vs,H1,I1,r1,q1⟩=>?_))
 obtain ⟨v,w,e1,q1⟩:=q1
 subst e1
 obtain ⟨u1,u2,rfl,rv,rw'⟩:∃u1 u2,us=[u1,u2]/\RelV v u1/\RelV w u2:=by
  cases r1 with
  | cons p q=>
    cases q with
    | cons p' q'=>
      cases q'
      exact ⟨_,_,Z,p,p'⟩
 refine qi ?_ (by show 2<=sizeLine;decide)
 have I2:Inv X pins σ H1 { s1 with heap:=s1.heap.push { cls:= .type "tuple",data:= .seq [u1,u2].toArray } }:=I1.kept (t':=s1.toks) fun b o e=>cg _ e
 rw [hw]
 refine aq (aJ ?_)
 show wpAny (model X.prog X.w) X.A (do rule "assign.swapped-stores";let items <-unpackItems (.ref s1.heap.objs.size) 2 none;assignInOrder [fun v=>bindName X.env y v,fun v=>bindName X.env x v] items.reverse;pure Flow.next) _ _ _
 refine aq (wpAny_rule (aq (unpackItems_tuple (items:=#[u1,u2]) (I.ok.hd hc) (IsTup.new s1.heap _) fun h' hx'=>?_)))
 have I3:=I2.kept (h':=h') (t':=s1.toks) fun b o e=>hx' b o (dM (bL e)) e
 show wpAny _ _ (assignInOrder [fun v=>bindName X.env y v,fun v=>bindName X.env x v] [u2,u1] >>= fun _=>pure Flow.next) _ _ _
 refine aq (assignInOrder_cons (wpAny_bindName (tY I3 hN hj (.inl hy) rw' (fun s2 I4=>?_) (.inr hy))))
 refine assignInOrder_cons (wpAny_bindName (tY I4 hN hi (.inl hx) rv (fun s3 I5=>assignInOrder_nil (aJ ?_)) (.inr hx)))
 rw [List.set_comm _ _ (bY hij)] at I5
 exact ⟨_,H1,I5,q1⟩
theorem gX {c:Expr} {a b:List Stmt} {tc:TT} {t u:TS} (hc:bT X c tc) (ha:cJ X a t) (hb:cJ X b u):bS X (.If c a b pos) (Z0 tc t u):=by
 have hc:=hc.h;have ha:=ha.h;have hb:=hb.h;constructor
 intro pins s σ H D I h
 obtain ⟨J,h,hJ⟩:=h
 refine bq (Wd hc ha hb pins s σ H { D with nx:=J } I h) fun f s' q=>?_
 cases f with
 | next=>obtain ⟨σ',H',I',q⟩:=q;exact ⟨σ',H',I',hJ _ _ q⟩
 | cont=>exact q
 | brk=>exact q
 | ret v=>exact q
theorem ak {st:Stmt} {rest:List Stmt} (h1:bS X st t) (h2:cJ X rest u):cJ X (st::rest) (B7 t u):=by
 have h1:=h1.h;have h2:=h2.h;constructor
 intro pins s σ H D I h
 refine wpAny_execs_cons (bq (h1 pins s σ H { D with nx:=u D } I h) fun f s1 q=>?_)
 cases f with
 | next=>
   obtain ⟨σ',H',I',q⟩:=q
   exact h2 pins s1 σ' H' D I' q
 | ret v=>exact q
 | brk=>exact q
 | cont=>exact q
theorem abc (K:Fg) {e st:Expr} {te ts:TE} {pos p2:Pos} (he:bE X e te) (hst:bE X st ts) (hK:X.K=K:=by rfl):bE X (.Subscript e (.Slice none none (some st) p2) pos) (agj K te ts):=by
 have he:=he.h;have hst:=hst.h;constructor
 subst hK
 intro pins s σ H Q I h
 refine Subscript_ (bq (he pins s σ H _ I h) fun v s1 ⟨x,H1,I1,r1,q1⟩=>?_)
 refine wpAny_Slice ?_
 rw [evalPart_none]
 refine aJ (aJ ?_)
 rw [evalPart_some]
 refine bq (hst pins s1 σ H1 _ I1 q1) fun w3 s3 ⟨y,H3,I3,r3,q3⟩=>?_
 obtain ⟨ey,a,xs,rfl,hx,q⟩:=q3
 subst ey
 obtain ⟨t,rfl⟩:=r3
 cases r1
 have I4:Inv X pins σ H3 { s3 with heap:=s3.heap.push { cls:= .type "slice",data:= .fields #[.none, .none, .int (-1) t] } }:=I3.kept (t':=s3.toks) fun b ob q=>cg _ q
 obtain ⟨its,r,ht,hz⟩:=I4.list hx
 have hlen:=r.length
 refine tail_any (ops:=[.ref a, .ref s3.heap.objs.size]) ht.isList.typeIs slot_list_getitem.lookup ?_ (by with_unfolding_all rfl)
 refine wpAny_getItem_list_slice ht.isList (Heap.IsSliceOf.new ..) .none .none (.int (-1) t) (by decide) ?_ (by rw [ie] <;> omega)
 rw [PySem.W.krv_pick]
 refine ⟨.ref _,_,I4.laid (t':=s3.toks) (o:= .lst xs.reverse) (fun b ob q=>cg _ q) (aO _) ?_,Z,q _ I4.fresh⟩
 exact ⟨by rw [List.length_reverse];exact hz,its.reverse,0,r.reverse,dW _ rfl⟩
theorem ja (K:Fg) {X:Cx} {es:List Expr} {k:Nat} {t:C_} {n:Nat} {pos:Pos} (hc:X.calm=true) (h:WQ X es t) (hK:X.K=K:=by rfl) (hn:(assignEach es X.env).length=n:=by rfl) (hst:(assignEach es X.env).findIdx? (·.1)=none:=by rfl):bG X (.Tuple es k pos) (B8 K n t):=by
 have h:=h.h;exact ⟨hK▸Zh hc h hn hst⟩
theorem Tu {K:Fg} {j k:Nat} {x:Str} {ps:List Str} {sp:Sp} {e:Expr} {es:List Expr} {t:TA} {p pos:Pos} (D:Dx P w K mg base j x ps sp) (hr:dB k (cL (fW P w) P w K mg base N qual scope f cd A outer s0 H0 E).A) (ha:bA (cL (fW P w) P w K mg base N qual scope f cd A outer s0 H0 E) (e::es) t) (hj:j<=k:=by decide) (hg:Gl (cL (fW P w) P w K mg base N qual scope f cd A outer s0 H0 E) x:=by rfl) (hdb:(x==("__debug__":Str))=false:=by decide) (he:starEach (e::es) (cL (fW P w) P w K mg base N qual scope f cd A outer s0 H0 E).env=(false,eval e (cL (fW P w) P w K mg base N qual scope f cd A outer s0 H0 E).env)::starEach es (cL (fW P w) P w K mg base N qual scope f cd A outer s0 H0 E).env:=by rfl) (hpl:(backTo pos (starEach es (cL (fW P w) P w K mg base N qual scope f cd A outer s0 H0 E).env)).any (·.1)=false:=by rfl):bE (cL (fW P w) P w K mg base N qual scope f cd A outer s0 H0 E) (.Call (.Name x p) (e::es) [] pos) (PV sp [] E t):=by
 have ha:=ha.h;constructor
 obtain ⟨f',fd,F,b,kp,m⟩:=D.ex
 exact NU F (hr.mono hj) hg m kp b .nil WJ ha hdb he hpl
theorem bR (hu:X.A.units+1<cLine) (ho:bE X o td) (hi:bE X i ty) (hs:ZQ i:=by exact fun _ _=>rfl):bE X (.Subscript o i pos) (acK td ty):=by
 have ho:=ho.h;have hi:=hi.h;constructor
 intro pins s σ H Q I h
 refine XC PySem.F.slot_dict_getitem.lookup hs (bq (ho pins s σ H _ I h) fun u s1 ⟨x,H1,I1,rx,q1⟩=>bq (hi pins s1 σ H1 _ I1 q1) fun iv s2 ⟨y,H2,I2,ry,a,v,ex,g,q2⟩=>?_)
 subst ex
 obtain rfl:u=Value.ref a:=rx
 exact ⟨Mu I2 g,RQ hu I2 g ry fun w' s3 I3 rw'=>⟨v,H2,I3,rw',q2⟩⟩
theorem aj:bA X [] oY:=⟨RG⟩
theorem OM {K:Fg} {pl:Sem Bool} {j k:Nat} {C:Addr} {m:Str} {ps:List Str} {sp:Sp} {o e:Expr} {es:List Expr} {ta:TE} {t:TA} {apos pos:Pos} (D:Mx P w K mg base j C m ps sp) (hr:dB k (cL (fW P w) P w K mg base N qual scope f cd A outer s0 H0 E).A) (ho:bE (cL (fW P w) P w K mg base N qual scope f cd A outer s0 H0 E) o ta) (ha:bA (cL (fW P w) P w K mg base N qual scope f cd A outer s0 H0 E) (e::es) t) (hj:j<=k:=by decide) (hst:starEach (e::es) (cL (fW P w) P w K mg base N qual scope f cd A outer s0 H0 E).env=(false,eval e (cL (fW P w) P w K mg base N qual scope f cd A outer s0 H0 E).env)::starEach es (cL (fW P w) P w K mg base N qual scope f cd A outer s0 H0 E).env:=by rfl) (hpl:(backTo pos (starEach es (cL (fW P w) P w K mg base N qual scope f cd A outer s0 H0 E).env)).any (·.1)=false:=by rfl) (ht:eval (.Call (.Attribute o m apos) (e::es) [] pos) (cL (fW P w) P w K mg base N qual scope f cd A outer s0 H0 E).env=(do
   let ov <-eval o (cL (fW P w) P w K mg base N qual scope f cd A outer s0 H0 E).env
   standAt apos.atName
   let (f2,first) <-holding [ov] (getMethod ov m pl)
   callWith pos f2 first (backTo pos (starEach (e::es) (cL (fW P w) P w K mg base N qual scope f cd A outer s0 H0 E).env)) (backToKw pos (keywordEach [] (cL (fW P w) P w K mg base N qual scope f cd A outer s0 H0 E).env))):=by rfl):bE (cL (fW P w) P w K mg base N qual scope f cd A outer s0 H0 E) (.Call (.Attribute o m apos) (e::es) [] pos) (Dm C m sp [] E ta t):=by
 have ho:=ho.h;have ha:=ha.h;constructor
 obtain ⟨f',fd,F,b,hm,c⟩:=D.ex
 exact NV (pl:=pl) ho c hm F (hr.mono hj) b .nil WJ ha hst hpl ht
theorem ai {i j pos}:bE X (.Constant (.int i) j pos) (tC (.int i)):=by
 exact ⟨fun _ _ _ H _ I h=>wpAny_Constant_int ⟨.int i,H,I.tok _,⟨_,Z⟩,h⟩⟩
theorem KU {rest:List Expr} (ha:bE X a ta) (hb:bE X (.BoolOp .And (b::rest) pos) tb):bE X (.BoolOp .And (a::b::rest) pos) (aco ta tb):=by
 have ha:=ha.h;have hb:=hb.h;constructor
 intro pins s σ H Q I h
 refine BoolOp_and (bq (ha pins s σ H _ I h) fun v s1 ⟨x,H1,I1,r1,q1⟩=>?_)
 obtain ⟨c,rfl,q1⟩:=q1
 cases r1
 refine yP ?_
 cases c with
 | true=>exact hb pins s1 σ H1 Q I1 q1
 | false=>exact ⟨.bl false,H1,I1,Z,q1⟩
theorem qA:bE X (.Dict [] [] pos) ZU:=by
 exact ⟨fun pins s σ H Q I h=>
 wpAny_Dict_empty ⟨.ref s.heap.objs.size,_,I.laid (a:=s.heap.objs.size) (o:= .dK []) (t':=s.toks) (fun _ _ q=>cg _ q) (aO _) (JH s.heap I.big),Z,h _ (I.hok.fresh (aO _))⟩⟩
theorem uy {tg e:Expr} {te:TE} {g:TG} (he:bE X e te) (hg:bG X tg g) (hs:swapsWithSole [tg] e pos.line X.env=pure false:=by rfl) (hw:swappedStores [tg] e X.env=pure none:=by rfl) (h1:(assignEach [tg] X.env).map (·.2)=[assign tg X.env] :=by rfl):bS X (.Assign [tg] e pos) (yR te g):=by
 have he:=he.h;have hg:=hg.h;constructor
 intro pins s σ H D I h
 refine wpAny_Assign_stores (bq (he pins s σ H _ I h) fun v s1 ⟨x,H1,I1,r1,q1⟩=>?_) hs hw
 rw [h1]
 exact bq (hg pins s1 σ H1 x v _ I1 r1 q1) fun _ s2 q=>q
theorem Cy {elts:List Expr} {kk:Nat} {tpos:Pos} {ob:Expr} {td:TE} {apos cpos:Pos} (hob:bE X ob td) (hbase:attributeBase ob "items" X.env (eval ob X.env)=eval ob X.env:=by rfl) (hline:(apos.endLine==cpos.line)=true:=by rfl):bI X (.Tuple elts kk tpos) (.Call (.Attribute ob "items" apos) [] [] cpos) (aag td):=by
 have hob:=hob.h;constructor
 intro pins s σ H R I h
 refine wpAny_Call_method0_late hbase hline (bq (hob pins s σ H _ I h) fun v s1 ⟨x,H1,I1,r1,q1⟩=>?_)
 obtain ⟨d,o,kvs,rfl,e,fin⟩:=q1
 cases r1
 obtain ⟨ho,hz,hsys,vs,ep,rel,da⟩:=I1.qT e
 obtain ⟨t1,t2,_⟩:=JI I1 (.inl ⟨kvs, .inr ⟨o,e⟩⟩)
 have dd:=da.dictOf
 refine ⟨"dict",_,F.plainAttrs_dict,F.slot_dict_items,F.type_dict_items,t1,t2,Pa rfl (PySem.evalArgs_none ?_)⟩
 refine call_meetsIn F.slot_dict_items dd.typeIs F.entry_dict_items (F.args_dict_items_1 _) (meets_dict_items (c7 X.prog X.w) d hsys) ⟨⟨vs,dd⟩,?_⟩
 refine wpAny_pyIter_items (s:={ s1 with heap:=s1.heap.push { cls:= .type "dict_items",data:= .fields #[.ref d] } }) ⟨_,dW _ rfl,Z,Z⟩ (da.push _) ?_
 have Iv:Inv X pins σ H1 { s1 with heap:=s1.heap.push { cls:= .type "dict_items",data:= .fields #[.ref d] } }:=I1.kept (t':=s1.toks) fun b o e=>cg _ e
 generalize ({ s1 with heap:=s1.heap.push { cls:= .type "dict_items",data:= .fields #[.ref d] } }:Shared)=sv at *
 have I2:Inv X pins σ H1 { sv with heap:=sv.heap.push { cls:= .type "dict_itemiterator",data:= .fields #[.none, .bool false, .ref d, .int 0 0, .int vs.length 0, .int ep 0, .none, .none] } }:=Iv.kept (t':=sv.toks) fun b o e=>cg _ e
 have hl:kvs.length=vs.length:=rel.length
 obtain ⟨o',es,h1,_,h2,_⟩:=id da
 rw [ho] at h1;cases h1
 refine ⟨sv.heap.objs.size,[sv.heap.objs.size],_,_,H1,Z,I2,Qj h2,?_,fun b hb=>?_,fin⟩
 . rw [hl];exact ⟨_,_,dW _ rfl⟩
 . have eb:b=sv.heap.objs.size:=by simpa using hb
   subst eb
   exact Iv.E3 (aO _) (Iv.hok.fresh (aO _))
theorem abd {tg:Expr} {l:Expr} {tl:TE} (hl:bE X l tl):bI X tg l (Z_ tl):=⟨aaa hl.h⟩
theorem ir (ha:bT X a tA):bW X (.BoolOp .Or [a] pos) tA:=by
 have ha:=ha.h;constructor
 intro wh pins s σ H Q I h
 refine isTrue_or (bq (ha pins s σ H Q I h) fun c s1 e=>?_)
 cases c with
 | false=>exact isTrue_or_nil e
 | true=>exact e
theorem xj {X:Cx} {st:Stmt} {t:TS} (h:bS X st t):bS X st (agm t):=by
 have h:=h.h;constructor
 intro pins s σ H D I hw
 obtain ⟨d,kvs,e,hw⟩:=hw
 obtain ⟨ho,es,ep,h1,_⟩:=(Dq I.hok e).2.2.choose_spec.2
 have h0:=I.Sd e
 refine bq (h pins s σ _ _ (I.freeze e h1) (hw ho)) fun f s' q=>?_
 cases f with
 | next=>obtain ⟨σ',H',I',q1,q2⟩:=q;exact ⟨σ',_,I'.Cd q1 h0,q2⟩
 | brk=>obtain ⟨σ',H',I',q1,q2⟩:=q;exact ⟨σ',_,I'.Cd q1 h0,q2⟩
 | cont=>obtain ⟨σ',H',I',q1,q2⟩:=q;exact ⟨σ',_,I'.Cd q1 h0,q2⟩
 | ret u=>obtain ⟨v,σ',H',I',r,q1,q2⟩:=q;exact ⟨v,σ',_,I'.Cd q1 h0,r,q2⟩
theorem qB (hu:X.A.units+1<cLine) (ho:bE X o td) (hi:bE X i ty) (hv:bE X value tv) (hs:swapsWith value (some (.Subscript o i pos')) pos.line X.env=pure false):bS X (.Assign [.Subscript o i pos'] value pos) (acM td ty tv):=by
 have ho:=ho.h;have hi:=hi.h;have hv:=hv.h;constructor
 intro pins s σ H D I h
 refine wpAny_Assign_Subscript (bq (hv pins s σ H _ I h) fun r s1 ⟨v,H1,I1,rv,q1⟩=>bq (ho pins s1 σ H1 _ I1 q1) fun u s2 ⟨x,H2,I2,rx,q2⟩=>bq (hi pins s2 σ H2 _ I2 q2) fun iv s3 ⟨y,H3,I3,ry,a,H4,ex,g,q3⟩=>?_) hs
 subst ex
 obtain rfl:u=Value.ref a:=rx
 exact RS hu I3 g ry rv fun s4 I4=>⟨σ,H4,I4,q3⟩
theorem qv (i:Nat) {x:Str} {pos:Pos} (hN:X.N[i]?=some x:=by rfl) (hv:Ro X.env.scope x:=by first|exact Or.inl rfl|exact Or.inr (Or.inl rfl)|exact Or.inr (Or.inr rfl)) (hd:(x==("__debug__":Str))=false:=by decide) (hcd:(x==("__classdict__":Str))=false:=by decide):bE X (.Name x pos) (B3 i):=by
 exact ⟨Y8 hN hv hd hcd⟩
theorem aE {id:String} (hc:gj X (.builtin id) r) (hg:Gl X x) (hm:X.mg x=none) (hv:bootBuiltins x=some (.builtin id)) (ha:bA X (e::es) t) (hn:x ≠ "__name__":=by decide) (hdb:(x==("__debug__":Str))=false:=by decide) (he:starEach (e::es) X.env=(false,eval e X.env)::starEach es X.env:=by rfl) (hpl:(backTo pos (starEach es X.env)).any (·.1)=false:=by rfl):bE X (.Call (.Name x p) (e::es) [] pos) (Wi r t):=by
 have ha:=ha.h;constructor
 intro pins s σ H Q I h
 refine EX (wH I hg hm hv ?_ hn hdb)
 exact PyProof.Rows.callWith_builtin1 (bq (ha pos pins s σ H _ I h) fun us s1 ⟨vs,H1,I1,r1,q1⟩=>hc pins s1 σ H1 vs us Q I1 r1 q1) he hpl
theorem yf {K:Fg} {x:Str} {C:Addr} {t:Str} {kd:Nat} {p0 p1 cpos pos:Pos} (oc:ng K C) (hg:Gl (cL (fW P w) P w K mg base N qual scope f cd A outer s0 H0 E) x) (hm:mg x=some (.ref C)) (hd:(x==("__debug__":Str))=false:=by decide):bS (cL (fW P w) P w K mg base N qual scope f cd A outer s0 H0 E) (.Raise (some (.Call (.Name x p0) [.Constant (.str t) kd p1] [] cpos)) none pos) (aaT C E):=by
 constructor
 intro pins s σ H D I h
 obtain ⟨nm,q,Nn,bs,bm,hdct,sn,sub,ab,col,dd,k0,k1,k2,k3,k5,mN,hni,hb,fx⟩:=oc.ex
 refine wpAny_Raise_call_subT (bm:=bm) (C:=C) (nm:=nm) (q:=q) (N:=Nn) (bs:=bs) (hdct:=hdct) (sn:=sn) (sub:=sub) (ab:=ab) (col:=col) (dd:=dd) (k0:=k0) (k1:=k1) (k2:=k2) (k3:=k3) (k5:=k5) F.excBase_ValueError hb (I.ok.hd rfl) rfl hni ?_
 refine qj I hg hm ⟨Z,?_⟩ hd
 have pa:PA (cL (fW P w) P w K mg base N qual scope f cd A outer s0 H0 E) [.Constant (.str t) kd p1] (jF (tC (.str t)) oY):=NT Rp RG
 refine PySem.Calls.evalArgs_plain (bq (pa cpos pins s σ H (fun vs H1=>vs.length=1/\H1=H) I ⟨Z,Z⟩) fun us s1 ⟨vs,H1,I1,r,hv,e⟩=>?_)
 subst e
 obtain ⟨hC,hN,T⟩:=fx s1.heap I1.iJ
 exact ⟨Z,by show us.length<=sizeLine;rw [<-r.length,hv,fm];decide,hC,hN,T,fun h' e hm=>Qx I1 hm (h e)⟩
theorem uz {o i:Expr} {to ti:TE} {t:Jw} (ho:bE X o to) (hi:bE X i ti) (hs:Ze X t) (ha:∀v,assign (.Subscript o i pos) X.env v=(do
   let ov <-holding [v] (eval o X.env)
   let iv <-holding [v,ov] (eval i X.env)
   standAt pos
   holding [v,ov,iv] (setItem ov iv v)
   release [v,ov,iv] []):=by intro _;rfl):bG X (.Subscript o i pos) (af2 to ti t):=by
 have ho:=ho.h;have hi:=hi.h;constructor
 intro pins s σ H v u Q I r h
 rw [ha]
 refine aq (xK (bq (ho pins s σ H _ I h) fun ov s1 ⟨x,H1,I1,r1,q1⟩=>?_))
 refine aq (xK (bq (hi pins s1 σ H1 _ I1 q1) fun iv s2 ⟨y,H2,I2,r2,q2⟩=>?_))
 refine aq (Ao (aq (xK (bq (hs pins s2 σ H2 x y v ov iv u _ I2 r1 r2 r q2) fun _ s3 ⟨H3,I3,q3⟩=>?_))))
 exact wpAny_release ⟨σ,H3,I3,q3⟩
theorem jB {st:Stmt}:bS X st Zd:=by
 exact ⟨fun _ _ _ _ _ _ h=>h.elim⟩
theorem Tv {j k:Nat} {x:Str} {C:Addr} {ps:List Str} {sp:Sp} {p pos:Pos} (D:Cn X.prog X.w X.K X.mg X.base j x C ps sp) (hr:dB k X.A) (hj:j+1<=k:=by decide) (hg:Gl X x:=by rfl) (hdb:(x==("__debug__":Str))=false:=by decide):bE X (.Call (.Name x p) [] [] pos) (Jb C sp [] E0 oY):=by
 constructor
 obtain ⟨f,fd,F,b,M,m⟩:=D.ex
 exact UN M F (hr.mono hj) hg m b .nil (fun _ _ _ _ _ _ _ h=>h.elim) hdb
theorem af (ha:bE X e te) (hr:bA X es t) (hs:starEach (e::es) X.env=(false,eval e X.env)::starEach es X.env:=by rfl):bA X (e::es) (jF te t):=⟨NT ha.h hr.h hs⟩
theorem aW (K:Fg) {e:Expr} {f:Str} {ta:TE} {pos:Pos} (he:bE X e ta) (hb:attributeBase e f X.env (eval e X.env)=eval e X.env:=by rfl) (hK:X.K=K:=by rfl):bE X (.Attribute e f pos) (Zr K ta f):=by
 have he:=he.h;exact ⟨hK▸Zu he hb⟩
theorem qC {op:CmpOp} {r:R2} (ho:gT X (compareOp op) r) (ha:bE X a ta) (hb:bE X b tb) (hm:behindInMarks op b=false):bE X (.Compare a [op] [b] pos) (Dg r ta tb):=by
 have ha:=ha.h;have hb:=hb.h;constructor
 intro pins s σ H Q I h
 exact wpAny_Compare1 (UD ha hb I h fun v u s2 x y H2 I2 rx ry q=>ho pins s2 σ H2 x y v u Q I2 rx ry q) hm
theorem aZ {j k:Nat} {x:Str} {ps:List Str} {sp:Sp} {e:Expr} {es:List Expr} {t:TA} {p pos:Pos} (D:Dn X.prog X.w X.K X.mg X.base j x ps sp) (hr:dB k X.A) (ha:bA X (e::es) t) (hj:j<=k:=by decide) (hg:Gl X x:=by rfl) (hdb:(x==("__debug__":Str))=false:=by decide) (he:starEach (e::es) X.env=(false,eval e X.env)::starEach es X.env:=by rfl) (hpl:(backTo pos (starEach es X.env)).any (·.1)=false:=by rfl):bE X (.Call (.Name x p) (e::es) [] pos) (PV sp [] E0 t):=by
 have ha:=ha.h;constructor
 obtain ⟨f,fd,F,b,kp,m⟩:=D.ex
 exact NU F (hr.mono hj) hg m kp b .nil (fun _ _ _ _ _ _ _ h=>h.elim) ha hdb he hpl
theorem xm {rest:List Expr} (ha:bT X a tA) (hb:bW X (.BoolOp .And (b::rest) pos) Wc):bW X (.BoolOp .And (a::b::rest) pos) (Y9 tA Wc):=by
 have ha:=ha.h;have hb:=hb.h;constructor
 intro wh pins s σ H Q I h
 refine isTrue_and (bq (ha pins s σ H _ I h) fun c s1 ⟨H1,I1,q1⟩=>?_)
 cases c with
 | true=>exact hb wh pins s1 σ H1 Q I1 q1
 | false=>exact ⟨H1,I1,q1⟩
section
variable {P:Program} {w:World} {K:Fg} {mg:SO} {base:Heap} {f C:Addr} {fd:FuncData} {N ps:List Str} {k:Nat} {sp:Sp} {x m qual:Str} {st:Stmt}
theorem dj {N P:List Str} {sc:Scope} (a:sc.kind = .function:=by rfl) (b:sc.isCoroutine=false:=by rfl) (c:sc.isGenerator=false:=by rfl) (d:N.Nodup:=by decide +kernel) (e:N.take P.length=P:=by rfl) (f:∀x∈P,sc.names.lookup x=some .local\/sc.names.lookup x=some .cell:=by decide +kernel) (g:∀y∈sc.names,y.2 ≠ .free:=by decide +kernel):aI N P sc:=⟨a,b,c,d,e,f,g⟩
theorem At.oA (F:At K mg x st f fd) (S:aI N ps (ay st))
  (hbody:∀(cdv:Value) (A:Around) (outer:List Env) (s:Shared) (H:Hp) (vs:List V) (Q:VK) (E:XK),dB k (A.deeper (envOfC x (ay st) s.heap.objs.size f cdv))->sp vs H Q E->
    ∃t,qe (cL sW P w K mg base N x (ay st) f cdv A outer s H E).Bf (cE st) t/\t { nx:=fun _ H'=>Q .bU H',rt:=Q } (start N vs) H)
  (len:∀vs H Q E,sp vs H Q E->vs.length=ps.length:=by intro vs H Q E h;first|(cases h.ex;subst_vars;rfl)|(have h:=h.ex;(repeat first|(obtain ⟨rfl,_⟩:=h;rfl)|(obtain ⟨_,h⟩:=h));done)|(repeat first|(obtain ⟨rfl,_⟩:=h;rfl)|(obtain ⟨_,h⟩:=h)))
  (h:∀(kV doc pm:Value) (an:Option Addr) (cdv ct:Value) (us:List Value),us.length=ps.length->bindArgs (PySem.W.fnOf x x (dR st) (cE st) (ay st) .none kV doc pm an cdv ct) ⟨us,[]⟩=pure (ps.zip us):=by intro _ _ _ _ _ _ us hl;repeat' (first|rfl|(simp at hl;done)|(rcases us with _|⟨_,us⟩))):Dn P w K mg base (k+1) x ps sp:=F.ok S len hbody h
theorem At.ON (F:At K mg x st f fd) (S:aI N ps (ay st))
  (hbody:∀(cdv:Value) (A:Around) (outer:List Env) (s:Shared) (H:Hp) (vs:List V) (Q:VK) (E:XK),dB k (A.deeper (envOfC x (ay st) s.heap.objs.size f cdv))->sp vs H Q E->
    ∃t,qe (cL (fW P w) P w K mg base N x (ay st) f cdv A outer s H E) (cE st) t/\t { nx:=fun _ H'=>Q .bU H',rt:=Q } (start N vs) H)
  (len:∀vs H Q E,sp vs H Q E->vs.length=ps.length:=by intro vs H Q E h;first|(cases h.ex;subst_vars;rfl)|(have h:=h.ex;(repeat first|(obtain ⟨rfl,_⟩:=h;rfl)|(obtain ⟨_,h⟩:=h));done)|(repeat first|(obtain ⟨rfl,_⟩:=h;rfl)|(obtain ⟨_,h⟩:=h)))
  (h:∀(kV doc pm:Value) (an:Option Addr) (cdv ct:Value) (us:List Value),us.length=ps.length->bindArgs (PySem.W.fnOf x x (dR st) (cE st) (ay st) .none kV doc pm an cdv ct) ⟨us,[]⟩=pure (ps.zip us):=by intro _ _ _ _ _ _ us hl;repeat' (first|rfl|(simp at hl;done)|(rcases us with _|⟨_,us⟩))):Dx P w K mg base (k+1) x ps sp:=F.okX S len hbody h
theorem iY.oA (F:iY K C m qual st f fd) (S:aI N ps (ay st))
  (hbody:∀(cdv:Value) (A:Around) (outer:List Env) (s:Shared) (H:Hp) (vs:List V) (Q:VK) (E:XK),dB k (A.deeper (envOfC qual (ay st) s.heap.objs.size f cdv))->sp vs H Q E->
    ∃t,qe (cL sW P w K mg base N qual (ay st) f cdv A outer s H E).Bf (cE st) t/\t { nx:=fun _ H'=>Q .bU H',rt:=Q } (start N vs) H)
  (len:∀vs H Q E,sp vs H Q E->vs.length=ps.length:=by intro vs H Q E h;first|(cases h.ex;subst_vars;rfl)|(have h:=h.ex;(repeat first|(obtain ⟨rfl,_⟩:=h;rfl)|(obtain ⟨_,h⟩:=h));done)|(repeat first|(obtain ⟨rfl,_⟩:=h;rfl)|(obtain ⟨_,h⟩:=h)))
  (h:∀(kV doc pm:Value) (an:Option Addr) (cdv ct:Value) (us:List Value),us.length=ps.length->bindArgs (PySem.W.fnOf m qual (dR st) (cE st) (ay st) .none kV doc pm an cdv ct) ⟨us,[]⟩=pure (ps.zip us):=by intro _ _ _ _ _ _ us hl;repeat' (first|rfl|(simp at hl;done)|(rcases us with _|⟨_,us⟩))):Mn P w K mg base (k+1) C m ps sp:=F.ok S len hbody h
theorem iY.ON (F:iY K C m qual st f fd) (S:aI N ps (ay st))
  (hbody:∀(cdv:Value) (A:Around) (outer:List Env) (s:Shared) (H:Hp) (vs:List V) (Q:VK) (E:XK),dB k (A.deeper (envOfC qual (ay st) s.heap.objs.size f cdv))->sp vs H Q E->
    ∃t,qe (cL (fW P w) P w K mg base N qual (ay st) f cdv A outer s H E) (cE st) t/\t { nx:=fun _ H'=>Q .bU H',rt:=Q } (start N vs) H)
  (len:∀vs H Q E,sp vs H Q E->vs.length=ps.length:=by intro vs H Q E h;first|(cases h.ex;subst_vars;rfl)|(have h:=h.ex;(repeat first|(obtain ⟨rfl,_⟩:=h;rfl)|(obtain ⟨_,h⟩:=h));done)|(repeat first|(obtain ⟨rfl,_⟩:=h;rfl)|(obtain ⟨_,h⟩:=h)))
  (h:∀(kV doc pm:Value) (an:Option Addr) (cdv ct:Value) (us:List Value),us.length=ps.length->bindArgs (PySem.W.fnOf m qual (dR st) (cE st) (ay st) .none kV doc pm an cdv ct) ⟨us,[]⟩=pure (ps.zip us):=by intro _ _ _ _ _ _ us hl;repeat' (first|rfl|(simp at hl;done)|(rcases us with _|⟨_,us⟩))):Mx P w K mg base (k+1) C m ps sp:=F.okX S len hbody h
theorem GP.oA (F:GP K mg x C qual st f fd) (S:aI N ps (ay st))
  (hbody:∀(cdv:Value) (A:Around) (outer:List Env) (s:Shared) (H:Hp) (vs:List V) (Q:VK) (E:XK),dB k (A.deeper (envOfC qual (ay st) s.heap.objs.size f cdv))->sp vs H Q E->
    ∃t,qe (cL sW P w K mg base N qual (ay st) f cdv A outer s H E).Bf (cE st) t/\t { nx:=fun _ H'=>Q .bU H',rt:=Q } (start N vs) H)
  (len:∀vs H Q E,sp vs H Q E->vs.length=ps.length:=by intro vs H Q E h;first|(cases h.ex;subst_vars;rfl)|(have h:=h.ex;(repeat first|(obtain ⟨rfl,_⟩:=h;rfl)|(obtain ⟨_,h⟩:=h));done)|(repeat first|(obtain ⟨rfl,_⟩:=h;rfl)|(obtain ⟨_,h⟩:=h)))
  (h:∀(kV doc pm:Value) (an:Option Addr) (cdv ct:Value) (us:List Value),us.length=ps.length->bindArgs (PySem.W.fnOf "__init__" qual (dR st) (cE st) (ay st) .none kV doc pm an cdv ct) ⟨us,[]⟩=pure (ps.zip us):=by intro _ _ _ _ _ _ us hl;repeat' (first|rfl|(simp at hl;done)|(rcases us with _|⟨_,us⟩))):Cn P w K mg base (k+1) x C ps sp:=F.ok S len hbody h
end
def WS (b:BS) (x:Str) (F:BP->BP):BS:={ b with ao:=(b.ao.map fun p=>if p.nm=x then F p else p).filter fun p=>decide (0<p.wo) }
def KW (b:BS) (x:Str):BP:=(b.ao.find? fun p=>decide (p.nm=x)).getD ⟨x,x,0,0,[]⟩
def adx (b:BS) (o:Str) (p:BP):BP:={ p with ow:=o,tops:=(p.tops.set (b.own.idxOf p.ow) 0).set (b.own.idxOf o) ((p.tops.set (b.own.idxOf p.ow) 0).getD (b.own.idxOf o) 0+p.tops.getD (b.own.idxOf p.ow) 0) }
def abe (b:BS) (x y:Str) (a we:Int):BS:={ b with
 ao:=((b.ao.map fun p:BP=>if p.nm=x then { p with wo:=p.wo-a,we:=p.we-we } else p)++[BP.mk y (KW b x).ow a we (KW b x).tops]).filter fun p=>decide (0<p.wo)
 eL:=b.eL++[y] }
def ady (b:BS) (x:Str):BS:={ WS b x fun p=>{ p with wo:=0 } with kL:=b.kL++[⟨x,(KW b x).ow,(KW b x).wo,(KW b x).tops,b.bot⟩] }
def D_ (b:BS):Dd->BS
 | .sign _=>b
 | .load x o wo we=>yd b x o wo we
 | .cast rs=>gQ b (c9 b rs) 0 0
 | .award o a=>gQ b (List.replicate b.ao.length 0) (b.own.idxOf o) a
 | .mishap x a=>WS b x fun p=>{ p with wo:=p.wo-a }
 | .rise x a=>WS b x fun p=>{ p with wo:=p.wo+a }
 | .hand x o=>WS b x (adx b o)
 | .land x=>ady b x
 | .sever x y a we=>abe b x y a we
 | .still=>b
theorem Tw (b:BS) (d:Dd):(D_ b d).own=b.own:=by cases d <;> rfl
inductive adz (e:Ec) (vs:List V) (H:Hp) (Q:VK) (E:XK):Prop
 | mk (a:Int) (_:vs=[.int a]) (_:(a<1->Rf e E H 5)) (_:(1<=a->Q .bU H))
def Ea (e:Ec):Sp:=bx (adz e)
inductive adA (e:Ec) (vs:List V) (H:Hp) (Q:VK) (E:XK):Prop
 | mk (m a:Int) (_:vs=[.int m, .int a]) (_:(a<1->Rf e E H 5)) (_:(1<=a->m<a->Rf e E H 6)) (_:(1<=a->a<=m->Q .bU H))
def Tz (e:Ec):Sp:=bx (adA e)
inductive VQ (al:HS->Dd->Prop) (K:Fg) (vs:List V) (H:Hp) (Q:VK) (E:XK):Prop
 | mk (n c:Nat) (ρ:fU) (B:BA) (b:BS) (st:HS) (z:Addr) (d:Dd) (_:vs=[.ref B.m, .ref z]) (_:H z=some (.tup d.v)) (_:Gh ρ H) (_:a_ n ρ B H b) (_:gc c st b) (_:c<=90) (_:Wf st) (_:al st d) (_:OL d) (_:lT st d=none) (_:∀ρ' B' H',Gh ρ' H'->a_ n ρ' B' H' (D_ b d:_)->B'.m=B.m->Fr n ρ H ρ' H'->Q .bU H')
def Ht (al:HS->Dd->Prop) (K:Fg):Sp:=bx (VQ al K)
inductive YG (T:TC) (al:HS->Dd->Prop) (K:Fg) (vs:List V) (H:Hp) (Q:VK) (E:XK):Prop
 | mk (n m c:Nat) (ρ:fU) (A:HA) (B:BA) (st:HS) (b:BS) (v0 v1:V) (z:Addr) (d:Dd) (_:vs=[v0,v1, .ref A.a, .ref B.m, .ref z]) (_:n≠m) (_:H z=some (.tup d.v)) (_:HH T n ρ A H st) (_:a_ m ρ B H b) (_:gc c st b) (_:c<=90) (_:al st d) (_:OL d) (_:∀ρ' A' B' H' st' b',HH T n ρ' A' H' st'->a_ m ρ' B' H' b'->gc (c+1) st' b'->A'.a=A.a->B'.m=B.m->b'.own=b.own->st'.kn<=st.kn+100->(b'=b\/(lT st d=none/\b'=D_ b d))->aF (out ρ H:_) (out ρ' H':_)->Q (.bl true) H')
def KY (T:TC) (al:HS->Dd->Prop) (K:Fg):Sp:=bx (YG T al K)
inductive adB (T:TC) (K:Fg) (vs:List V) (H:Hp) (Q:VK) (E:XK):Prop
 | mk (n m ρ A B st b:_) (a ln:Addr) (ns:List Int) (nms:List Str) (_:vs=[.ref a, .ref A.a, .ref B.m, .ref ln]) (_:n≠m) (_:HH T n ρ A H st) (_:a_ m ρ B H b) (_:gc 0 st b) (_:sZ K ρ H a (ns.map V.int)) (_:ns.length<=63) (_:sZ K ρ H ln (nms.map V.str)) (_:nms.Nodup) (_:(∀x∈nms,x9 x)) (_:(∀o∈b.own,x9 o)) (_:nms.length=6) (_:st.nms=[]) (_:b.ao=[]) (_:b.eL=[]) (_:∀ρ' A' B' H' st' b',HH T n ρ' A' H' st'->a_ m ρ' B' H' b'->gc 1 st' b'->A'.a=A.a->B'.m=B.m->b'.own=b.own->st'.kn<=st.kn->0<b'.ao.length->aF (out ρ H:_) (out ρ' H':_)->Q .bU H')
def TF (T:TC) (K:Fg):Sp:=bx (adB T K)
theorem abf {P:Program} {w:World} {K:Fg} {mg:SO} {base:Heap} {k:Nat} {e:Ec} {ps:List Str} (D:Dx P w K mg base k "check_amount" ps (Ea e)):Dn P w K mg base k "check_amount" ps ac3:=
 D.dn fun vs H Q E h=>by
   obtain ⟨⟨a,rfl,h1,q⟩⟩:=h
   exact ⟨a,Z,fun z=>absurd z (by omega),fun _=>q⟩
theorem abg {P:Program} {w:World} {K:Fg} {mg:SO} {base:Heap} {k:Nat} {e:Ec} {ps:List Str} (D:Dx P w K mg base k "check_loss" ps (Tz e)):Dn P w K mg base k "check_loss" ps WE:=
 D.dn fun vs H Q E h=>by
   obtain ⟨⟨m,a,rfl,h1,h2,q⟩⟩:=h
   exact ⟨m,a,Z,fun z=>absurd z (by omega),fun _ z=>absurd z (by omega),fun _ _=>q⟩
theorem QE {T:TC} {al:HS->Dd->Prop} {K:Fg} {H:Hp} {Q:VK} {E:XK} {n:Nat} {ρ:fU} {A:HA} {st:HS} {x z:Addr} {d:Dd} (ea:A.a=x) (hz:cT K H z (Dd.v d)) (hh:HH T n ρ A H st) (ha:al st d)
  (q:∀l ρ' A' H',HH T n ρ' A' H' (uu st d)->A'.a=x->Fr n ρ H ρ' H'->(lT st d=none->ρ' l=none)->H' l=some (.lst (Jf (lT st d)))->Q (.ref l) H'):Ft T al K [.ref x, .ref z] H Q E:=by
 subst ea
 refine ⟨n,ρ,A,st,z,d,Z,hz,hh,ha,fun i hi l H' g hl=>q l ρ A H' ?_ rfl (Fr.of_same g) (fun z=>by rw [hi] at z;cases z) ?_,fun hi l ρ' A' H' Eb ea' F hl cl _=>q l ρ' A' H' ?_ ea' F (fun _=>cl) ?_⟩
 . unfold uu;rw [hi];exact hh.mono g
 . rw [hi];exact hl
 . unfold uu;rw [hi];exact Eb
 . rw [hi];exact hl
theorem Ed:∀{l:List Int},0<l.sum->∃x∈l,0<x
 | [],h=>by simp at h
 | a::l,h=>by
   by_cases c:0<a
   . exact ⟨a,cO,c⟩
   . rw [cQ] at h
     obtain ⟨x,hx,h2⟩:=Ed (l:=l) (by omega)
     exact ⟨x,cI _ hx,h2⟩
theorem BL:∀{ps:List BP} {as:List Int},as.length=ps.length->(List.zipWith (fun (p:BP) (a:Int)=>p.wo-a) ps as).sum=(ps.map fun p=>p.wo).sum-as.sum
 | [],[],_=>rfl
 | p::ps,a::as,h=>by
   rw [rM,cQ,bJ,cQ,cQ,BL (by simpa using h)];omega
 | [],_::_,h=>by simp at h
 | _::_,[],h=>by simp at h
theorem TH {b:BS} {as:List Int} {seat:Nat} {aw:Int} (ok:jU b as seat aw):0<(gQ b as seat aw).ao.length:=by
 have h1:=BL ok.len
 have h2:0<(List.zipWith (fun (p:BP) (a:Int)=>p.wo-a) b.ao as).sum:=by
  rw [h1]
  have:=ok.kept
  have:=ok.BC
  unfold bh at this
  have k:bh b=(b.ao.map fun p=>p.wo).sum:=rfl
  omega
 obtain ⟨x,hx,h3⟩:=Ed h2
 obtain ⟨i,p,a,ep,ea,rfl⟩:=iD hx
 have hm:k_ (f_ b as seat aw) (bh b-aw-as.sum) p a∈(gQ b as seat aw).ao:=oQ.mpr ⟨bV (Kr ep ea),cG h3⟩
 exact List.length_pos_of_mem hm
structure TJ (ok:Dd->Prop):Prop where
 len:∀d,ok d->2<=d.v.length/\d.v.length<=115
 kind:∀d,ok d->d.k≠2/\d.k≠9
 at_:∀d n v,ok d->d.v[n+1]?=some v->(∃s,v = .str s/\wl s<=20)\/∃i,v = .int i/\nB i
 set:∀d n v w,ok d->d.v[n+1]?=some v->alike v w->∃d',d'.v=d.v.set (n+1) w/\ok d'
inductive abh (ok:Dd->Prop) (K:Fg) (vs:List V) (H:Hp) (Q:VK) (E:XK):Prop
 | mk (a:Addr) (ms:List Int) (k:Int) (n:Nat) (ρ:fU) (B:BA) (b:BS) (z:Addr) (d:Dd) (_:vs=[.ref a, .int k, .ref B.m, .ref z]) (_:aB K H a (ms.map V.int)) (_:ms.length<=63) (_:0<=k) (_:a_ n ρ B H b) (_:Bk b) (_:cT K H z d.v) (_:ok d) (_:∀z' d' H',aF H H'->H' z'=some (.tup (Dd.v d'))->ok d'->Q (.ref z') H')
def Fx (ok:Dd->Prop) (K:Fg):Sp:=bx (abh ok K)
theorem Hu {ok:Dd->Prop} {K:Fg} {H:Hp} {Q:VK} {E:XK} {a z mm:Addr} {ms:List Int} {k:Int} {n:Nat} {ρ:fU} {B:BA} {b:BS} {d:Dd} (em:B.m=mm) (hS:aB K H a (ms.map V.int)) (h63:ms.length<=63) (hk:0<=k) (hb:a_ n ρ B H b) (bk:Bk b) (hz:cT K H z d.v) (hd:ok d)
  (q:∀z' d' H',aF H H'->H' z'=some (.tup (Dd.v d'))->ok d'->Q (.ref z') H'):Fx ok K [.ref a, .int k, .ref mm, .ref z] H Q E:=⟨a,ms,k,n,ρ,B,b,z,d,by rw [em],hS,h63,hk,hb,bk,hz,hd,q⟩
structure Cz (st:HS):Prop where
 big:Jm.Sz 60 (aS st)
 prod:Jm.Sz 7900 st.prod
 cX:∀u∈st.cX,Jm.Sz 8900 u
 stp:st.stp.length<100
def kZ (st:HS) (o:Str) (a:Int):List Int:=(List.replicate st.own.length 0).set (st.own.idxOf o) (a*st.prod)
inductive YH (T:TC) (e:Ec) (vs:List V) (H:Hp) (Q:VK) (E:XK):Prop
 | mk (n ρ A st o a:_) (_:vs=[.ref A.a, .str o, .int a]) (_:HH T n ρ A H st) (_:Cz st) (_:DoX T e n ρ A H (jW st o a:_) (D8 st o a:_) Q E)
def KZ (T:TC) (e:Ec):Sp:=bx (YH T e)
def yg (st:HS):Dd->Prop
 | .award _ _=>Cz st
 | _=>False
theorem zP {st:HS} {o:Str} {a:Int} {i:Nat} (h:jW st o a=some i):i=2\/i=5\/i=6:=by
 unfold jW at h
 split at h
 . split at h
   . cases h;exact .inr (.inl rfl)
   . split at h <;> cases h;exact .inr (.inr rfl)
 . cases h;exact .inl rfl
theorem Ef {st:HS} {o:Str} {a:Int} (h:jW st o a=none):o∈st.own/\1<=a/\a<aS st:=by
 unfold jW at h
 split at h
 . split at h
   . cases h
   . split at h
     . cases h
     . exact ⟨by assumption,by omega,by omega⟩
 . cases h
theorem TL {K:Fg} {e:Ec} {st:HS} {d:Dd} {i:Nat} (t2:Told K e e.vE 2) (t5:Told K e e.rJ 5) (t6:Told K e e.v5 6) (ha:yg st d) (hr:lT st d=some i):Told K e (e.at i) i:=by
 cases d with
 | award o a=>rcases zP hr with rfl|rfl|rfl <;> assumption
 | _=>exact ha.elim
theorem YI (st:HS) (d:Dd) (i:Nat) (ha:yg st d) (h:lT st d=some i):i<10:=by
 cases d with
 | award o a=>rcases zP h with rfl|rfl|rfl <;> decide
 | _=>exact ha.elim
theorem VR {st:HS} {o:Str} {a m:Int} (h:m∈kZ st o a):m=0\/m=a*st.prod:=by
 rcases List.mem_or_eq_of_mem_set h with z|z
 . exact .inl (Ji z)
 . exact .inr z
theorem VT (st:HS) (o:Str) (a:Int):(kZ st o a).length=st.own.length:=by unfold kZ;rw [lB,jz]
theorem Cz.blend {st:HS} {o:Str} {a:Int} (w:Cz st) (wf:Wf st) (h1:1<=a) (h2:a<aS st):qt st (aS st-a) (aS st) a (kZ st o a):=by
 have p1:=wf.iz
 refine ⟨by omega,by omega,by omega,by rw [VT,wf.i7],fun m hm=>?_,w.prod,w.big,w.cX,w.stp⟩
 have:0<=a*st.prod:=lC (by omega) (by omega)
 rcases VR hm with z|z <;> omega
theorem K0 {l:List Int} {i j:Nat} {x:Int} (h:i<l.length):(l.set i x).getD j 0=if i=j then x else l.getD j 0:=by
 rw [gR,List.getElem?_set]
 by_cases e:i=j
 . subst e;rw [aC rfl,aC rfl,aC h];rfl
 . rw [aA e,aA e,gR]
theorem VU (n j:Nat):(List.replicate n (0:Int)).getD j 0=0:=by
 rw [gR,O9]
 split <;> rfl
theorem K1:∀(ps:List BP) (i:Nat),gK ps (List.replicate ps.length 0) i=0
 | [],_=>rfl
 | p::ps,i=>by
   have:=K1 ps i
   unfold gK at this ⊢
   rw [kX,xE,rM,cQ,this,Int.mul_zero];rfl
theorem Eg (b:BS) (j:Nat):(fL b (List.replicate b.ao.length 0)).getD j 0=0:=by
 unfold fL
 rw [gR,bK]
 cases (List.range b.own.length)[j]? with
 | none=>rfl
 | some i=>exact K1 b.ao i
theorem abi {b:BS} {seat:Nat} {a:Int} {p:BP} (h:p∈(gQ b (List.replicate b.ao.length 0) seat a).ao):∃q∈b.ao,p=k_ (f_ b (List.replicate b.ao.length 0) seat a) (bh b-a) q 0:=by
 obtain ⟨h1,_⟩:=oQ.mp (show p∈(cZ b (List.replicate b.ao.length 0) seat a).filter _ from h)
 obtain ⟨i,x,y,ex,ey,e⟩:=iD (show p∈List.zipWith (k_ (f_ b (List.replicate b.ao.length 0) seat a) (bh b-a-(List.replicate b.ao.length (0:Int)).sum)) b.ao (List.replicate b.ao.length 0) from h1)
 rw [ye,C7,Ji (bV ey)] at e
 exact ⟨x,bV ex,e⟩
theorem OO {k:BP->Int->BP}:∀(ps:List BP),List.zipWith k ps (List.replicate ps.length 0)=ps.map fun p=>k p 0
 | []=>rfl
 | p::ps=>by rw [kX,xE,rM,bJ,OO ps]
theorem VW {c:Nat} {st:HS} {b:BS} {o:Str} {a:Int} (g:gc c st b) (wf:Wf st) (w:Cz st) (hc:c<=90) (ho:o∈st.own) (h1:1<=a) (h2:a<aS st):gc (c+1) (D8 st o a) (gQ b (List.replicate b.ao.length 0) (b.own.idxOf o) a):=by
 have ew:=g.rel.whole
 have eo:=g.rel.own
 have bl:=w.blend (o:=o) wf h1 h2
 have hi:b.own.idxOf o<b.own.length:=Jj.mpr (by rw [<-eo];exact ho)
 have bo:jU b (List.replicate b.ao.length 0) (b.own.idxOf o) a:=⟨jz,fun x hx=>by rw [Ji hx];exact lD _,hi,by omega,by rw [ye];omega,by rw [<-ew];exact w.big⟩
 refine OD g bl bo hc rfl ⟨?_,?_⟩ ?_
 . show (cy st _ _ _).own=b.own
   unfold cy
   rw [GX]
   exact eo
 . rw [show ji (D8 st o a)=ji st from DX _ _ _ _,g.rel.qd]
   unfold qU gQ cZ
   rw [OO]
   show _=List.map _ (List.filter _ (List.map _ b.ao))
   rw [List.filter_eq_self.mpr (fun q hq=>by
    obtain ⟨p,hp,rfl⟩:=cD.mp hq
    exact cG (by show 0<p.wo-0;have:=g.kg.w1 p hp;omega)),iS]
   refine Pf fun p _=>?_
   show (p.nm,p.ow,p.wo,p.we)=(p.nm,p.ow,p.wo-0,p.we)
   rw [C7]
 . intro p' zK q' hq' en j
   obtain ⟨q,hq,rfl⟩:=abi hq'
   have hp1:p'∈st.ao.map (fun p:Pt=>{ p with sc:=p.sc*(aS st-a) / cS st (aS st-a) (aS st) (kZ st o a) }):=by
    have h:p'∈(cy st (aS st-a) (aS st) (kZ st o a)).ao:=zK
    unfold cy at h
    rw [vt] at h
    exact h
   obtain ⟨p,hp,rfl⟩:=cD.mp hp1
   have tj:=g.Fl p hp q hq en j
   show (List.zipWith _ q.tops (f_ b _ _ a)).getD j 0*_=_*(b.bot*bh b)
   rw [qu (f:=fun t g=>t*(bh b-a)+g) (by show (0:Int)*_+0=0;omega) (by rw [g.kg.tl q hq,um]),<-ew]
   refine Hq (p':={ p with sc:=p.sc*(aS st-a) / cS st (aS st-a) (aS st) (kZ st o a) }) wf bl rfl rfl hp rfl rfl tj ?_
   unfold f_ kZ
   rw [aC (by omega),K0 (by rw [kr];exact hi),K0 (by rw [jz,eo];exact hi),Eg,Eg,VU,eo]
   by_cases e:b.own.idxOf o=j
   . rw [aC e,aC e,Int.zero_add,iR,iR,oS b.bot]
   . rw [aA e,aA e,Int.zero_mul,Int.zero_mul]
theorem gc.aw {c:Nat} {st:HS} {b:BS} (g:gc c st b) (hc:c<=90):Cz st:=⟨by rw [g.rel.whole];exact (g.whole (by omega)).2,g.prod.mono (by omega),fun u hu=>(g.cX u hu).mono (by omega),by have:=g.stp;omega⟩
theorem TM (c:Nat) (st:HS) (b:BS) (d:Dd) (g:gc c st b) (hc:c<=90) (wf:Wf st) (ha:yg st d) (db:OL d) (hr:lT st d=none):gc (c+1) (vF st d) (D_ b d)/\(vF st d).kn<=st.kn+100:=by
 cases d with
 | award o a=>
   obtain ⟨ho,h1,h2⟩:=Ef hr
   refine ⟨VW g wf ha hc ho h1 h2,?_⟩
   show (cy st _ _ _).kn<=_
   unfold cy fE
   split
   . exact fC _
   . exact Al _ _
 | _=>exact ha.elim
def CA (d:Dd):Prop:=∃o a,d = .award o a/\wl o<=20/\nB a
theorem abj {d:Dd} (h:CA d):OL d:=by rcases h with ⟨x,a,rfl,h1,h2⟩;exact ⟨h1,h2⟩
theorem abk:TJ CA:=by
 refine ⟨fun d h=>?_,fun d h=>?_,fun d n v h e=>?_,fun d n v w h e al=>?_⟩ <;> obtain ⟨x,a,rfl,h1,h2⟩:=h
 . exact ⟨by show 2<=3;decide,by show 3<=115;decide⟩
 . exact ⟨by show 3≠2;decide,by show 3≠9;decide⟩
 . match n,e with
   | 0,e=>cases e;exact .inl ⟨_,Z,h1⟩
   | 1,e=>cases e;exact .inr ⟨_,Z,h2⟩
 . match n,e with
   | 0,e=>cases e;obtain ⟨s,rfl,h⟩:=To al;exact ⟨.award s a,Z,s,a,Z,h,h2⟩
   | 1,e=>cases e;obtain ⟨s,rfl,h⟩:=Tp al;exact ⟨.award x s,Z,x,s,Z,h1,h⟩
end L2
set_option autoImplicit false
namespace Law
open PySem L2
theorem iE (n:Nat) (h:n<=1000:=by decide):n<=sizeLine:=by rw [fm];omega
def top (i:Nat):Stmt:=PySem.Challenge.pw_jettison_k22_awards.main.body.getD i (.Pass ⟨0,0,0,0⟩)
section
variable {P:Program} {w:World} {K:Fg} {mg:SO} {base:Heap} {f:Addr} {fd:FuncData}
abbrev nT:Stmt:=top 2
abbrev jl:List Str:=["one","other"]
abbrev Eh:List Str:=jl
theorem uA:aI Eh jl (ay nT):=dj
theorem CB (F:At K mg "common_factor" nT f fd):Dn P w K mg base 1 "common_factor" jl U6:=by
 refine F.oA uA fun cdv A outer s H vs Q E hr h=>?_
 obtain ⟨a,b,rfl,ha,hb,q⟩:=h
 refine ⟨_,(@cJ.h _ _ _ (ak (Cw d8 (aY jE (qv 1) ai (br _)) (au (Tt (i:=0) (j:=1) rfl uA.nd rfl rfl (by decide) rfl rfl (af (qv 1) (af (aD jM (qv 0) (qv 1)) aj)) (by rfl))))
  (au (aR (qv 0))))),?_⟩
 refine ⟨fun m σ H'=>∃x y:Int,m=y.toNat/\σ=[some (.int x),some (.int y)]/\H'=H/\0<=x/\0<=y/\Jm.cf x y=Jm.cf a b,⟨_,a,b,Z,Z,Z,ha,hb,Z⟩,?_⟩
 rintro m σ H' ⟨x,y,rfl,rfl,rfl,hx,hy,e⟩
 refine ⟨_,Z,_,_,Z,Z,_,Z,?_⟩
 refine eF (fun c=>?_) (fun c=>?_)
 . have c':0<y:=eE c
   refine ⟨_,fun _ _ z=>z,?_⟩
   refine ⟨_,Z,_,Z,_,Z,_,_,Z,Z,c',_,_,Z,?_⟩
   have h1:0<=x % y:=nt _ (by omega)
   have h2:x % y<y:=xF _ c'
   exact ⟨_,(by omega:(x % y).toNat<y.toNat),y,x % y,Z,Z,Z,hy,h1,(Jm.E5 x y c').trans e⟩
 . have c':¬ 0<y:=oN (mQ.mpr c)
   have ey:y=0:=by omega
   subst ey
   rw [Jm.N1 x hx] at e
   refine ⟨_,Z,?_⟩
   rw [e]
   exact q
abbrev yh:Stmt:=top 21
abbrev vG:List Str:=["text","signs"]
abbrev TN:List Str:=vG
theorem QF:aI TN vG (ay yh):=dj
theorem QG (F:At K mg "made_of" yh f fd) (QH:mg "all"=none):Dn P w K mg base 1 "made_of" vG Cc:=by
 refine F.oA QF fun cdv A outer s H vs Q E hr h=>?_
 obtain ⟨⟨cs,signs,rfl,hl,q⟩⟩:=h
 refine ⟨_,(@cJ.h _ _ _ (au (aR (aE (R6 K rfl) (by rfl) QH PyProof.Rows.boot_all (af (fG ["sign","signs"] [none,some 1] rfl (abd (qv 0)) (fun _ _ _ _=>(aN (i:=0) (show List.Nodup (["sign","signs"] :List Str) from by decide +kernel))) (fun _ _ _ _=>(qC Rv (qv 0) (qv 1) (by with_unfolding_all rfl))) rfl (by rfl)) aj))))),?_⟩
 refine ⟨_,Z,cs,Z,fun acc hacc=>?_⟩
 refine Vb (fun i out H1=>aF H H1/\out=((cs.take i).map (DE signs)).map V.bl) hl ⟨az hacc _,Z⟩ ?_ ?_
 . rintro i c out H1 hx dX ha ⟨g,e⟩
   refine ⟨_,Z,_,Z,_,_,Z,Z,ha,g.cu hacc _,?_⟩
   rw [e,List.take_add_one,hx,bF,bF]
   rfl
 rintro out H1 dX ha ⟨g,e⟩
 rw [cA] at e
 refine ⟨acc,cs.map (DE signs),Z,aB.of (by rw [ha,e]),?_⟩
 have e2:(cs.map (DE signs)).all id=cs.all (DE signs):=by rw [List.all_map];rfl
 rw [e2]
 exact q H1 g
abbrev yi:Stmt:=top 20
abbrev rK:List Str:=["text"]
abbrev TQ:List Str:=rK
theorem QI:aI TQ rK (ay yi):=dj
theorem QJ {tk:Tok} (F:At K mg "is_name" yi f fd) (zQ:Dn P w K mg base 1 "made_of" vG Cc) (bf:mg "len"=none) (zR:mg "LETTERS"=some (.str "abcdefghijklmnopqrstuvwxyz" tk)):Dn P w K mg base 2 "is_name" rK xT:=by
 refine F.oA QI fun cdv A outer s H vs Q E hr h=>?_
 obtain ⟨⟨cs,rfl,hl,q⟩⟩:=h
 refine ⟨_,(@cJ.h _ _ _ (au (aR (KU (VO Wh Wh ai (aE JD (by rfl) bf dF (af (qv 0) aj)) ai) (KP (aZ zQ hr (af (qv 0) (af (jY (v:= .str "abcdefghijklmnopqrstuvwxyz") (by rfl) zR ⟨_,Z⟩) aj)))))))),?_⟩
 have hz:(tx cs).length<=sizeLine:=by rw [j9,fm];omega
 refine ⟨_,Z,_,Z,hz,_,_,Z,Z,_,Z,?_⟩
 rw [j9]
 refine eF (fun c=>?_) (fun c=>?_)
 . refine ⟨_,_,Z,Z,_,Z,eF (fun c2=>?_) (fun c2=>?_)⟩
   . refine ⟨_,Z,Qi hl fun H' g=>?_⟩
     have:=q H' g
     unfold isName at this
     rw [c,c2,Bool.true_and,Bool.true_and] at this
     exact this
   . have:=q H (aF.refl _)
     unfold isName at this
     rw [c,mQ.mpr c2,Bool.true_and,Bool.false_and] at this
     exact this
 . have:=q H (aF.refl _)
   unfold isName at this
   rw [mQ.mpr c,Bool.false_and,Bool.false_and] at this
   exact ⟨_,Z,cW this⟩
abbrev pG:Stmt:=top 26
abbrev jZ:List Str:=["amount"]
abbrev Fy:List Str:=jZ
theorem Ei:aI Fy jZ (ay pG):=dj
theorem CC {e:Ec} (F:At K mg "check_amount" pG f fd) (uB:ng K e.rJ) (kQ:mg "BadNumber"=some (.ref e.rJ)):Dx P w K mg base 1 "check_amount" jZ (Ea e):=by
 refine F.ON Ei fun cdv A outer s H vs Q E hr h=>?_
 obtain ⟨⟨a,rfl,h5,q⟩⟩:=h
 refine ⟨_,(@cJ.h _ _ _ (au (cK (aY I_ (qv 0) ai (br _)) (au (yf uB (by rfl) kQ)) aT))),?_⟩
 exact ⟨_,Z,_,_,Z,Z,_,Z,eF (fun c=>fun x=>h5 (eE c) x H (aF.refl _)) fun c=>q (by have:=oN (mQ.mpr c);omega)⟩
abbrev rV:Stmt:=top 27
abbrev pH:List Str:=["most","amount"]
abbrev K2:List Str:=pH
theorem HF:aI K2 pH (ay rV):=dj
theorem Fz {e:Ec} (F:At K mg "check_loss" rV f fd) (gm:Dx P w K mg base 1 "check_amount" jZ (Ea e)) (mJ:ng K e.v5) (jm:mg "TooMuch"=some (.ref e.v5)):Dx P w K mg base 2 "check_loss" pH (Tz e):=by
 refine F.ON HF fun cdv A outer s H vs Q E hr h=>?_
 obtain ⟨⟨m,a,rfl,h5,h6,q⟩⟩:=h
 refine ⟨_,(@cJ.h _ _ _ (ak (c8 (Tu gm hr (af (qv 1) aj)))
  (au (cK (aY jE (qv 1) (qv 0) (br _)) (au (yf mJ (by rfl) jm)) aT)))),?_⟩
 exact ⟨_,Z,⟨⟨a,Z,h5,fun h1=>⟨_,Z,_,Z,_,_,Z,Z,_,Z,eF (fun c=>fun x=>h6 h1 (eE c) x H (aF.refl _)) fun c=>q h1 (by have:=oN (mQ.mpr c);omega)⟩⟩⟩⟩
abbrev rW:Stmt:=top 25
abbrev pI:List Str:=["rows"]
abbrev K3:List Str:=pI.append ["amounts","name","amount"]
theorem nD:aI K3 pI (ay rW):=dj
theorem HG (F:At K mg "amounts_of" rW f fd) (bf:mg "len"=none):Dn P w K mg base 1 "amounts_of" pI (SE K):=by
 refine F.oA nD fun cdv A outer s H vs Q E hr h=>?_
 obtain ⟨⟨l,us,rs,rfl,hl,hR,nd,hne,hle,q⟩⟩:=h
 refine ⟨_,(@cJ.h _ _ _ (ak (aP (i:=1) nD.nd qA)
  (ak (dO d8 rfl (di K (qv 0)) (ja K (n:=2) rfl (cU (aN (i:=2) nD.nd) (cU (aN (i:=3) nD.nd) i_))) (ak (cK (xg (KS (bZ hr) (qv 2) (qv 1))) (au jB) aT)
  (au (qB (bZ hr) (qv 1) (qv 2) (qv 3) rfl))))
  (ak (cK (aY iU (aE vj (by rfl) bf dF (af (qv 1) aj)) ai (br _)) (au jB) aT)
  (au (aR (qv 1))))))),?_⟩
 intro d hd
 have g0:=az hd (.dK [])
 have hd0:upd H d (.dK []) d=some (.dK (gW (rs.take 0))):=ah
 generalize upd H d (.dK [])=H0 at *
 have TR:=hR.length
 refine ⟨_,Z,l,Z,⟨us,g0.seq hl⟩,?_⟩
 refine lQ (K:=K) (xs:=us) (fun i σ H'=>aF H H'/\H' d=some (.dK (gW (rs.take i)))/\∃s2 s3,σ=[some (.ref l),some (.ref d),s2,s3]) ⟨g0,hd0,_,_,Z⟩ (fun i σ H' _ hp=>hp.1.seq hl) ?_ ?_
 . rintro i x σ H' hx ⟨g,hd',s2,s3,rfl⟩
   obtain ⟨a,r,rfl,er,ha⟩:=hR.get hx
   have hnot:r.1∉(rs.take i).map (·.1):=by
    rw [Aq]
    exact jT nd (by rw [bK,er];rfl)
   have hlt:(gW (rs.take i)).length<sizeLine:=by rw [x_,kY];exact eY (by omega)
   refine ⟨a,_,Z,cT.of (g _ _ ha),Z,_,_,Z,_,_,Z,Z,?_⟩
   refine ⟨_,Z,_,Z,d,_,Z,cV.k (k:=Sum.inr r.1) hd',_,Z,?_⟩
   rw [GU hnot]
   refine cW ?_
   refine ⟨_,Z,_,Z,_,Z,d,_,Z,t8.k (k:=Sum.inr r.1) hd' hlt,g.cu hd _,?_,_,_,Z⟩
   rw [ah,nP _ (GU hnot),take_snoc er]
   unfold gW
   rw [bF]
   rfl
 rintro σ H' ⟨g,hd',s2,s3,rfl⟩
 rw [TR,cA] at hd'
 refine ⟨_,Z,d,_,Z,hd',Z,_,Z,?_⟩
 rw [x_]
 have hpos:0<rs.length:=List.length_pos_iff.mpr hne
 rw [d7 (fun e=>by have:=V.int.inj e;omega)]
 exact cW ⟨_,Z,q d H' g hd hd'⟩
abbrev nU:Stmt:=top 5
abbrev lH:List Str:=["step","tops"]
abbrev Ej:List Str:=lH.append ["top"]
theorem nV:aI Ej lH (ay nU):=dj
theorem CD (F:At K mg "factor_of_all" nU f fd) (ia:Dn P w K mg base 1 "common_factor" jl U6):Dn P w K mg base 2 "factor_of_all" lH (SG K):=by
 refine F.oA nV fun cdv A outer s H vs Q E hr h=>?_
 obtain ⟨⟨s,l,ts,rfl,hl,h0,h1,q⟩⟩:=h
 refine ⟨_,(@cJ.h _ _ _ (ak (dO d8 rfl (di K (qv 1)) (aN (i:=2) nV.nd) (au (aP (i:=0) nV.nd (aZ ia hr (af (qv 2) (af (qv 0) aj))))))
  (au (aR (qv 0))))),?_⟩
 refine ⟨_,Z,l,Z,⟨_,hl⟩,?_⟩
 refine lQ (K:=K) (xs:=ts.map V.int) (fun i σ H'=>H'=H/\0<=pD s (ts.take i)/\∃s2,σ=[some (.int (pD s (ts.take i))),some (.ref l),s2]) ⟨Z,h0,_,Z⟩ (fun i σ H' _ hp=>by rw [hp.1];exact hl) ?_ ?_
 . rintro i x σ H' hx ⟨rfl,hf,s2,rfl⟩
   obtain ⟨t,rfl,et⟩:=gJ hx
   have e1:pD s (ts.take (i+1))=Jm.cf t (pD s (ts.take i)):=by
    unfold pD
    rw [take_snoc et,Jp]
    rfl
   refine ⟨_,Z,_,Z,t,_,Z,h1 t (bV et),hf,Z,?_,some (.int t),?_⟩
   . rw [e1];unfold Jm.cf;omega
   . rw [e1];rfl
 rintro σ H' ⟨rfl,hf,s2,rfl⟩
 rw [aG,cA]
 exact ⟨_,Z,q⟩
abbrev qD:Stmt:=inClass (top 4) 0
abbrev rX:List Str:=["self"]
abbrev HJ:List Str:=rX
theorem FA:aI HJ rX (ay qD):=dj
theorem FE {T:TC} (F:GP K mg "Bottom" T.bot "Bottom.__init__" qD f fd) (X:Txt K T):Cn P w K mg base 1 "Bottom" T.bot rX (Oc T):=by
 refine F.oA FA fun cdv A outer s H vs Q E hr h=>?_
 obtain ⟨⟨p,dx,rfl,hp,q⟩⟩:=h
 refine ⟨_,(@cJ.h _ _ _ (ak (eO K (qv 0) (dQ aj))
  (ak (eO K (qv 0) ai)
  (au (eO K (qv 0) qA))))),?_⟩
 refine ⟨(iE 0),fun l hl=>?_⟩
 have n1:p≠l:=aH hp hl
 refine ⟨_,Z,p,T.bot,dx,_,Z,by rw [av n1];exact hp,X.cB,X.bst,by show 0<1000;decide,?_⟩
 refine ⟨_,Z,p,T.bot,dx,_,Z,ah,X.cB,X.Sm,by show 1<1000;decide,?_⟩
 intro d hd
 have n2:d≠p:=fun e=>by rw [e,ah] at hd;cases hd
 have n3:d≠l:=fun e=>by rw [e,av (bY n1),av (bY n1),ah] at hd;cases hd
 have hd0:H d=none:=by rw [av n2,av n2,av n3] at hd;exact hd
 refine ⟨_,Z,p,T.bot,dx,_,Z,by rw [av (bY n2)];exact ah,X.cB,X.Sn,by show 2<1000;decide,?_⟩
 refine q l d _ hl hd0 (bY n3) (fun b o e hb=>?_) ah ?_ ?_
 . rw [av hb,av (aH e hd0),av hb,av hb,av (aH e hl)];exact e
 . rw [av (bY n1),av (bY n3),av (bY n1),av (bY n1)];exact ah
 . rw [av n2];exact ah
abbrev uC:Stmt:=inClass (top 23) 0
abbrev v7:List Str:=["self","name","owner","worth","weight","scale","row"]
abbrev MF:List Str:=v7
theorem K4:aI MF v7 (ay uC):=dj
theorem K5 {T:TC} (F:GP K mg "Part" T.part "Part.__init__" uC f fd) (X:Txt K T) (dw:mg "list"=none):Cn P w K mg base 1 "Part" T.part v7 (Od T K):=by
 refine F.oA K4 fun cdv A outer s H vs Q E hr h=>?_
 obtain ⟨⟨p,dx,l,pt,rfl,hp,hl,q⟩⟩:=h
 refine ⟨_,(@cJ.h _ _ _ (ak (eO K (qv 0) (qv 1))
  (ak (eO K (qv 0) (qv 2))
  (ak (eO K (qv 0) (qv 3))
  (ak (eO K (qv 0) (qv 4))
  (ak (eO K (qv 0) (qv 5))
  (au (eO K (qv 0) (lU (ny K) (by rfl) dw vO (af (qv 6) aj)))))))))),?_⟩
 refine ⟨_,Z,_,Z,p,T.part,dx,_,Z,hp,X.cP,X.Wy,by show 0<1000;decide,?_⟩
 refine ⟨_,Z,_,Z,p,T.part,dx,_,Z,ah,X.cP,X.pow,by show 1<1000;decide,?_⟩
 refine ⟨_,Z,_,Z,p,T.part,dx,_,Z,ah,X.cP,X.Oa,by show 2<1000;decide,?_⟩
 refine ⟨_,Z,_,Z,p,T.part,dx,_,Z,ah,X.cP,X.pwe,by show 3<1000;decide,?_⟩
 refine ⟨_,Z,_,Z,p,T.part,dx,_,Z,ah,X.cP,X.Sl,by show 4<1000;decide,?_⟩
 simp only [tQ]
 have hl1:∀o,aB K (upd H p o) l (pt.row.map V.int):=fun o=>by
  rcases hl with (h|⟨ob,h⟩)|h
  . exact .inl (.inl (by rw [av (iT h hp (by intro z;cases z))];exact h))
  . exact .inl (.inr ⟨ob,by rw [av (iT h hp (by intro z;cases z))];exact h⟩)
  . exact .inr h
 refine ⟨_,Z,l,_,Z, .inl (hl1 _),fun r hr2=>?_⟩
 have n1:r≠p:=fun e=>by rw [e,ah] at hr2;cases hr2
 refine ⟨_,Z,p,T.part,dx,_,Z,by rw [av (bY n1)];exact ah,X.cP,X.Wz,by show 5<1000;decide,?_⟩
 have hr0:H r=none:=by rw [av n1] at hr2;exact hr2
 refine q r _ hr0 (fun b o e hb=>?_) ah ?_
 . rw [av hb,av (aH e hr0),av hb];exact e
 . rw [av n1];exact ah
abbrev qE:Stmt:=inClass (top 4) 1
abbrev nE:List Str:=["self","step"]
abbrev HK:List Str:=nE
theorem FF:aI HK nE (ay qE):=dj
theorem FG {T:TC} (F:iY K T.bot "grow" "Bottom.grow" qE f fd) (X:Txt K T):Mn P w K mg base 1 T.bot "grow" nE (SH T):=by
 refine F.oA FF fun cdv A outer s H vs Q E hr h=>?_
 obtain ⟨⟨n,ρ,A,st,s,rfl,g,h,hl,z1,z2,q⟩⟩:=h
 refine ⟨_,(@cJ.h _ _ _ (au (gX (aY jE (qv 1) ai (br _)) (ak (c8 (tM xC xy xA gU (aW K (qv 0)) (af (qv 1) aj)))
  (ak (D9 K (qv 0) (qv 1) X3)
  (au (eO K (qv 0) qA)))) aT))),?_⟩
 refine ⟨fun σ' H'=>Q .bU H',⟨_,Z,_,_,Z,Z,_,Z,eF (fun c=>?_) (fun c=>?_)⟩,fun _ _ z=>z⟩
 . have c':1<s:=eE c
   refine ⟨_,Z,A.bt,T.bot,A.db,_,_,Z,h.m_,X.cB,X.bst,Z, .inl ⟨Z,_,aB.of h.sY⟩,_,Z,A.sp,_,_,Z,Z,h.sY,by rw [aG];exact eY hl,?_⟩
   rw [show st.stp.map V.int++[V.int s]=(st.stp++[s]).map V.int from by rw [bF];rfl]
   have h1:=h.aao g (st.stp++[s])
   have g1:=g.wr (a:=A.sp) (o:= .lst ((st.stp++[s]).map V.int)) rfl
   have F1:Fr n ρ H ρ (upd H A.sp (.lst ((st.stp++[s]).map V.int))):=Fr.write h.jR
   generalize upd H A.sp (.lst ((st.stp++[s]).map V.int))=H1 at *
   refine ⟨_,Z,A.bt,T.bot,A.db,_,_,Z,h1.m_,X.cB,X.Sm,Z,_,Z,_,_,Z,Z,i8 z1 z2,A.db,_,h1.m_,by show 3<1000;decide,?_⟩
   intro kn hkn
   have nb:kn≠A.bt:=fun e=>by rw [e,ah] at hkn;cases hkn
   have CF:H1 kn=none:=by rw [av nb] at hkn;exact hkn
   have jS:ρ kn=none:=g1.none CF
   refine ⟨_,Z,A.bt,T.bot,A.db,_,Z,by rw [av (bY nb)];exact ah,X.cB,X.Sn,by show 3<1000;decide,?_⟩
   have eH:upd (upd (upd H1 A.bt (.ins T.bot A.db (aU "product" (.int (st.prod*s)) (xW A.sp st.prod A.kn)))) kn (.dK [])) A.bt (.ins T.bot A.db (aU "known" (.ref kn) (aU "product" (.int (st.prod*s)) (xW A.sp st.prod A.kn))))=upd (upd H1 kn (.dK [])) A.bt (.ins T.bot A.db (xW A.sp (st.prod*s) kn)):=by
    rw [kj (bY nb),tQ]
    rfl
   have k2:Kp n ρ (cN ρ kn (n,9,⟨#[]⟩)) H1 (upd H1 kn (.dK [])) (fun _=>true):=⟨(az CF _).tups,fun b t x o _ c e=>⟨az CF _ _ _ e,by rw [b_ (aH e CF)];exact c⟩⟩
   have h2:=h1.same k2
   have g2:Gh (cN ρ kn (n,9,⟨#[]⟩)) (upd H1 kn (.dK [])):=(g1.alloc CF).color ah rfl
   have F2:Fr n ρ H1 (cN ρ kn (n,9,⟨#[]⟩)) (upd H1 kn (.dK [])):=Fr.color CF (az CF _)
   have h3:=h2.aar g2 (st.prod*s) kn ah dN
   have es:fE st s={ { st with stp:=st.stp++[s] } with prod:=st.prod*s,kn:=0 }:=by
    unfold fE
    rw [aC c']
   rw [es] at q
   show Q .bU _
   refine (show _=_ from eH)▸?_
   exact q _ _ _ (g2.wr rfl) h3 rfl (F1.trans (F2.trans (Fr.write h2.jP)))
 . have c':¬ 1<s:=oN (mQ.mpr c)
   have es:fE st s=st:=by unfold fE;rw [aA c']
   rw [es] at q
   exact q ρ A H g h rfl Fr.refl
abbrev nW:Stmt:=inClass (top 24) 19
abbrev jn:List Str:=["self","owner"]
abbrev Ek:List Str:=jn
theorem CG:aI Ek jn (ay nW):=dj
theorem AV {T:TC} {e:Ec} (F:iY K T.hold "place_of" "Hold.place_of" nW f fd) (X:Txt K T) (yj:ng K e.vE) (oK:mg "NoOwner"=some (.ref e.vE)):Mx P w K mg base 1 T.hold "place_of" jn (Cv T e):=by
 refine F.ON CG fun cdv A outer s H vs Q E hr h=>?_
 obtain ⟨⟨n,ρ,A,st,o,rfl,h,q2,q⟩⟩:=h
 refine ⟨_,(@cJ.h _ _ _ (ak (cK (xg (zO (bZ hr) (qv 1) (aW K (qv 0)))) (au (yf yj (by rfl) oK)) aT)
  (au (aR (bR (bZ hr) (aW K (qv 0)) (qv 1)))))),?_⟩
 refine ⟨_,Z,_,Z,A.a,T.hold,A.dx,_,_,Z,h.oa,X.cH,X.hpl,Z,A.pl,_,Z,cV.k (k:=Sum.inr o) h.iN,_,Z,?_⟩
 by_cases ho:o∈st.own
 . have hv:=Ob (i:=0) ho
   rw [hv]
   refine cW ?_
   refine ⟨_,Z,A.a,T.hold,A.dx,_,_,Z,h.oa,X.cH,X.hpl,Z,_,Z,A.pl,_,Z,hv▸cV.k (k:=Sum.inr o) h.iN,?_⟩
   rw [Nat.zero_add]
   exact q ho
 . rw [pB ho]
   exact rO fun x=>q2 ho x H (aF.refl _)
abbrev pJ:Stmt:=inClass (top 24) 20
abbrev j0:List Str:=["self","name"]
abbrev FH:List Str:=j0
theorem El:aI FH j0 (ay pJ):=dj
theorem Em {T:TC} (F:iY K T.hold "part_of" "Hold.part_of" pJ f fd) (X:Txt K T):Mn P w K mg base 1 T.hold "part_of" j0 (Ci T):=by
 refine F.oA El fun cdv A outer s H vs Q E hr h=>?_
 obtain ⟨⟨n,ρ,A,st,i,p,q,rfl,h,nd,ep,eq,k⟩⟩:=h
 refine ⟨_,(@cJ.h _ _ _ (ak (cK (xg (zO (bZ hr) (qv 1) (aW K (qv 0)))) (au jB) aT)
  (au (aR (bR (bZ hr) (aW K (qv 0)) (qv 1)))))),?_⟩
 have hv:=wZ nd ep eq
 refine ⟨_,Z,_,Z,A.a,T.hold,A.dx,_,_,Z,h.oa,X.cH,X.hab,Z,A.ab,_,Z,cV.k (k:=Sum.inr p.nm) h.d9,_,Z,?_⟩
 rw [hv]
 refine cW ?_
 exact ⟨_,Z,A.a,T.hold,A.dx,_,_,Z,h.oa,X.cH,X.hab,Z,_,Z,A.ab,_,Z,hv▸cV.k (k:=Sum.inr p.nm) h.d9,k⟩
abbrev mU:Stmt:=inClass (top 24) 21
abbrev kB:List Str:=["self","name"]
abbrev CH:List Str:=kB
theorem AW:aI CH kB (ay mU):=dj
theorem AX {T:TC} (F:iY K T.hold "check_new" "Hold.check_new" mU f fd) (X:Txt K T) (oM:Dn P w K mg base 2 "is_name" rK xT):Mn P w K mg base 3 T.hold "check_new" kB (DO T):=by
 refine F.oA AW fun cdv A outer s H vs Q E hr h=>?_
 obtain ⟨⟨n,ρ,A,st,x,rfl,h,hx,hn,q⟩⟩:=h
 refine ⟨_,(@cJ.h _ _ _ (ak (cK (dH (dm (aZ oM hr (af (qv 1) aj)))) (au jB) aT)
  (au (cK (xg (KS (bZ hr) (qv 1) (aW K (qv 0)))) (au jB) aT)))),?_⟩
 refine ⟨_,Z,DF (cs:=x.cps.toList) (J9 hx) fun H1 g1=>⟨_,Z,?_⟩⟩
 rw [show isName x.cps.toList=true from hx]
 refine cW ?_
 have h1:=h.mono g1
 refine ⟨_,Z,_,Z,A.a,T.hold,A.dx,_,_,Z,h1.oa,X.cH,X.hnm,Z,A.nm,_,Z,cV.k (k:=Sum.inr x) h1.ue,_,Z,?_⟩
 rw [zh hn]
 exact cW (q H1 g1)
abbrev qF:Stmt:=inClass (top 24) 10
abbrev nF:List Str:=["self"]
abbrev HL:List Str:=nF
theorem FI:aI HL nF (ay qF):=dj
theorem FJ {T:TC} (F:iY K T.hold "roster" "Hold.roster" qF f fd) (X:Txt K T) (dw:mg "list"=none):Mn P w K mg base 1 T.hold "roster" nF (J6 T):=by
 refine F.oA FI fun cdv A outer s H vs Q E hr h=>?_
 obtain ⟨⟨n,ρ,A,st,rfl,h,q⟩⟩:=h
 refine ⟨_,(@cJ.h _ _ _ (au (aR (lU (Qo rfl) (by rfl) dw vO (af (aW K (qv 0)) aj))))),?_⟩
 refine ⟨_,Z,A.a,T.hold,A.dx,_,_,Z,h.oa,X.cH,X.hpl,Z,A.pl,_,Z, .inl h.iN,fun l hl=>?_⟩
 rw [Cg]
 exact q l hl
abbrev rY:Stmt:=inClass (top 24) 11
abbrev pK:List Str:=["self"]
abbrev K6:List Str:=pK
theorem HM:aI K6 pK (ay rY):=dj
theorem HN {T:TC} (F:iY K T.hold "parts" "Hold.parts" rY f fd) (X:Txt K T):Mn P w K mg base 1 T.hold "parts" pK (Oi T):=by
 refine F.oA HM fun cdv A outer s H vs Q E hr h=>?_
 obtain ⟨⟨n,ρ,A,st,rfl,h,hl,q⟩⟩:=h
 refine ⟨_,(@cJ.h _ _ _ (au (aR (KQ (fG ["part"] [none] rfl (AN (aW K (qv 0))) (fun _ _ _ _=>(aN (i:=0) (show List.Nodup (["part"] :List Str) from by decide +kernel))) (fun _ _ _ _=>(jk (af (aW K (qv 0)) (af (aW K (qv 0)) (af (aW K (qv 0)) (af (aW K (qv 0)) aj)))))) rfl (by rfl)))))),?_⟩
 refine ⟨A.ab,_,h.d9,fun o=>?_⟩
 refine ⟨_,Z,A.a,T.hold,A.dx,_,_,Z,eZ h.d9 h.oa (fun k z=>by cases z),X.cH,X.hab,Z,A.ab,o,_,Z,ah,fun acc hacc=>?_⟩
 have el:=wY h.ql
 refine gC (n:=st.ao.length) 0 (fun i out H1=>aF (upd H A.ab (.fk o (.dK (cY st.ao A.qs)))) H1/\jG H1 out (st.ao.take i)) (by omega) ⟨az hacc _, .nil⟩ (fun i out H1 hi _ hp=>⟨hp.1 _ _ ah,by rw [el];exact hi⟩) (fun out H1 _ hp=>⟨hp.1 _ _ ah,by rw [el];exact aO _⟩) ?_ ?_
 . rintro i x out H1 H2 hi dX ha ⟨g,hP⟩ ⟨rfl,kv,hkv,rfl⟩
   have ep:=aX hi
   obtain ⟨qq,eq,h1,h2,_⟩:=h.find ep
   rw [wX ep eq] at hkv
   cases hkv
   have hq:=g _ _ (eZ h.d9 h1 (fun k z=>by cases z))
   refine ⟨_,Z,qq.1,T.part,qq.2.1,_,_,Z,hq,X.cP,X.Wy,Z,_,Z,qq.1,T.part,qq.2.1,_,_,Z,hq,X.cP,X.pow,Z,_,Z,qq.1,T.part,qq.2.1,_,_,Z,hq,X.cP,X.Oa,Z,_,Z,qq.1,T.part,qq.2.1,_,_,Z,hq,X.cP,X.pwe,Z,(iE 4),fun t ht=>?_⟩
   have g1:=az ht (AJ st.ao[i])
   refine ⟨g1 _ _ ha,(g.trans g1).cu hacc _,?_⟩
   rw [take_snoc ep]
   exact ((hP.mono g1.tups).snoc ah).mono (kP (.inr ⟨_,g1 _ _ ha,Z⟩))
 rintro out H1 dX ha ⟨g,hP⟩
 rw [cA] at hP
 have hz:=g _ _ (ah (H:=H) (a:=A.ab) (o:= .fk o (.dK (cY st.ao A.qs))))
 have na:acc≠A.ab:=fun e=>by rw [e,hz] at ha;cases ha
 exact ⟨hz,q acc out _ (ug h.d9 g) (nQ h.d9 hacc) (by rw [av na];exact ha) (hP.mono (kP (.inr ⟨_,hz,Z⟩)))⟩
abbrev rZ:Stmt:=inClass (top 24) 13
abbrev j5:List Str:=["self"]
abbrev K7:List Str:=j5
theorem HP:aI K7 j5 (ay rZ):=dj
theorem HQ {T:TC} (F:iY K T.hold "whole" "Hold.whole" rZ f fd) (X:Txt K T) (d_:mg "sum"=none):Mn P w K mg base 1 T.hold "whole" j5 (AK T):=by
 refine F.oA HP fun cdv A outer s H vs Q E hr h=>?_
 obtain ⟨⟨n,ρ,A,st,rfl,h,hl,q⟩⟩:=h
 refine ⟨_,(@cJ.h _ _ _ (au (aR (aE (jg K rfl) (by rfl) d_ tW (af (KQ (fG ["part"] [none] rfl (AN (aW K (qv 0))) (fun _ _ _ _=>(aN (i:=0) (show List.Nodup (["part"] :List Str) from by decide +kernel))) (fun _ _ _ _=>(aW K (qv 0))) rfl (by rfl))) aj))))),?_⟩
 refine ⟨A.ab,_,h.d9,fun o=>?_⟩
 refine ⟨_,Z,A.a,T.hold,A.dx,_,_,Z,eZ h.d9 h.oa (fun k z=>by cases z),X.cH,X.hab,Z,A.ab,o,_,Z,ah,fun acc hacc=>?_⟩
 have el:=wY h.ql
 refine gC (n:=st.ao.length) 0 (fun i out H1=>aF (upd H A.ab (.fk o (.dK (cY st.ao A.qs)))) H1/\out=((st.ao.take i).map (·.wo)).map V.int) (by omega) ⟨az hacc _,Z⟩ (fun i out H1 hi _ hp=>⟨hp.1 _ _ ah,by rw [el];exact hi⟩) (fun out H1 _ hp=>⟨hp.1 _ _ ah,by rw [el];exact aO _⟩) ?_ ?_
 . rintro i x out H1 H2 hi dX ha ⟨g,e⟩ ⟨rfl,kv,hkv,rfl⟩
   have ep:=aX hi
   obtain ⟨qq,eq,h1,h2,_⟩:=h.find ep
   rw [wX ep eq] at hkv
   cases hkv
   have hq:=g _ _ (eZ h.d9 h1 (fun k z=>by cases z))
   refine ⟨_,Z,qq.1,T.part,qq.2.1,_,_,Z,hq,X.cP,X.Oa,Z,ha,g.cu hacc _,?_⟩
   rw [take_snoc ep,e,bF,bF]
   rfl
 rintro out H1 dX ha ⟨g,e⟩
 rw [cA] at e
 have hz:=g _ _ (ah (H:=H) (a:=A.ab) (o:= .fk o (.dK (cY st.ao A.qs))))
 have na:acc≠A.ab:=fun e=>by rw [e,hz] at ha;cases ha
 exact ⟨hz,acc,st.ao.map (fun p:Pt=>p.wo),Z,aB.of (by rw [av na,ha,e]),q _ (ug h.d9 g)⟩
abbrev j6:Stmt:=inClass (top 24) 25
abbrev iA:List Str:=["self","tops"]
abbrev yk:List Str:=iA
theorem xo:aI yk iA (ay j6):=dj
theorem xr {T:TC} (F:iY K T.hold "beyond_common" "Hold.beyond_common" j6 f fd) (X:Txt K T) (jH:mg "zip"=none):Mn P w K mg base 1 T.hold "beyond_common" iA (WB T K):=by
 refine F.oA xo fun cdv A outer s H vs Q E hr h=>?_
 obtain ⟨⟨n,ρ,A,st,l,tops,rfl,h,hS,WT,hle,q⟩⟩:=h
 refine ⟨_,(@cJ.h _ _ _ (au (aR (fG ["top","common"] [none,none] rfl (tS K (by rfl) jH (af (qv 1) (af (aW K (qv 0)) aj))) (fun _ _ _ _=>(ja K (n:=2) rfl (cU (aN (i:=0) (show List.Nodup (["top","common"] :List Str) from by decide +kernel)) (cU (aN (i:=1) (show List.Nodup (["top","common"] :List Str) from by decide +kernel)) i_)))) (fun _ _ _ _=>(aD jL (qv 0) (qv 1))) rfl (by rfl))))),?_⟩
 refine ⟨_,Z,_,Z,A.a,T.hold,A.dx,_,_,Z,h.oa,X.cH,X.Bt,Z,_,_,_,_,_,_,Z, .lst hS, .lst (aB.of h.jQ),fun acc hacc=>?_⟩
 refine y9 (K:=K) (n:=tops.length) [0,1] (fun i out H1=>aF H H1/\out=(List.zipWith (fun t c=>t-c) (tops.take i) (st.bM.take i)).map V.int) (by decide) (by omega) ⟨az hacc _,Z⟩ (fun i out H1 hi _ hp=>⟨hp.1.seq hS,hp.1.seq (aB.of h.jQ),by rw [aG];exact hi,by rw [aG];omega⟩)
  (fun out H1 _ hp=>⟨hp.1.seq hS,hp.1.seq (aB.of h.jQ), .inl (by rw [aG];exact aO _)⟩) ?_ ?_
 . rintro i x out H1 H2 hi dX ha ⟨g,e⟩ ⟨p,x1,y1,hp,rfl,rfl,e1,e2⟩
   obtain ⟨t,rfl,et⟩:=gJ e1
   obtain ⟨c,rfl,ec⟩:=gJ e2
   have g1:=az hp (.tup [.int t, .int c])
   refine ⟨p,_,Z,cT.of ah,Z,_,Z,_,Z,_,_,Z,Z,g1 _ _ ha,(g.trans g1).cu hacc _,?_⟩
   rw [oF _ et ec,e,bF]
   rfl
 rintro out H1 dX ha ⟨g,e⟩
 rw [cA,WT,cA] at e
 exact q acc H1 g hacc (by rw [ha,e];rfl)
abbrev pL:Stmt:=inClass (top 24) 24
abbrev mK:List Str:=["self","part"]
abbrev FL:List Str:=mK
theorem En:aI FL mK (ay pL):=dj
theorem Eo {T:TC} (F:iY K T.hold "tops_of" "Hold.tops_of" pL f fd) (X:Txt K T) (jH:mg "zip"=none):Mn P w K mg base 1 T.hold "tops_of" mK (Og T):=by
 refine F.oA En fun cdv A outer s H vs Q E hr h=>?_
 obtain ⟨⟨n,ρ,A,st,ip,pt,qq,rfl,h,wf,ep,eq,q⟩⟩:=h
 obtain ⟨h1,h2,_⟩:=h.opt ip pt qq ep eq
 have lV:=bV ep
 refine ⟨_,(@cJ.h _ _ _ (au (aR (fG ["own","common","part"] [none,none,some 1] rfl (tS K (by rfl) jH (af (aW K (qv 1)) (af (aW K (qv 0)) aj))) (fun _ _ _ _=>(ja K (n:=2) rfl (cU (aN (i:=0) (show List.Nodup (["own","common","part"] :List Str) from by decide +kernel)) (cU (aN (i:=1) (show List.Nodup (["own","common","part"] :List Str) from by decide +kernel)) i_)))) (fun _ _ _ _=>(aD bP (aD jN (aW K (qv 2)) (qv 0)) (qv 1))) rfl (by rfl))))),?_⟩
 have erl:pt.row.length=st.bM.length:=by rw [wf.rows pt lV,wf.i7]
 have hcl:st.bM.length<=100:=by rw [wf.i7];exact wf.rT
 refine ⟨_,Z,qq.1,T.part,qq.2.1,_,_,Z,h1,X.cP,X.Wz,Z,_,Z,A.a,T.hold,A.dx,_,_,Z,h.oa,X.cH,X.Bt,Z,_,_,_,_,_,_,Z, .lst (aB.of h2), .lst (aB.of h.jQ),fun acc hacc=>?_⟩
 refine y9 (K:=K) (n:=pt.row.length) [0,1] (fun i out H1=>aF H H1/\out=(List.zipWith (fun r c=>pt.sc*r+c) (pt.row.take i) (st.bM.take i)).map V.int) (by decide) (by omega) ⟨az hacc _,Z⟩ (fun i out H1 hi _ hp=>⟨hp.1.seq (aB.of h2),hp.1.seq (aB.of h.jQ),by rw [aG];exact hi,by rw [aG];omega⟩)
  (fun out H1 _ hp=>⟨hp.1.seq (aB.of h2),hp.1.seq (aB.of h.jQ), .inl (by rw [aG];exact aO _)⟩) ?_ ?_
 . rintro i x out H1 H2 hi dX ha ⟨g,e⟩ ⟨p,x1,y1,hp,rfl,rfl,e1,e2⟩
   obtain ⟨t,rfl,et⟩:=gJ e1
   obtain ⟨c,rfl,ec⟩:=gJ e2
   have g1:=az hp (.tup [.int t, .int c])
   have s1:Jm.Sz 8000 pt.sc:=Jm.Sz.m8 (by have:=wf.yC pt lV;have:=wf.iz;omega) (wf.yC pt lV).2 wf.big
   have s2:Jm.Sz 8000 t:=Jm.Sz.m8 (wf.vW pt lV t (bV et)).1 (wf.vW pt lV t (bV et)).2 wf.big
   refine ⟨p,_,Z,cT.of ah,Z,_,Z,qq.1,T.part,qq.2.1,_,_,Z,(g.trans g1) _ _ h1,X.cP,X.Sl,Z,_,Z,_,_,Z,Z,i8 s1 s2,_,Z,_,_,Z,Z,g1 _ _ ha,(g.trans g1).cu hacc _,?_⟩
   rw [oF _ et ec,e,bF]
   rfl
 rintro out H1 dX ha ⟨g,e⟩
 rw [cA,erl,cA] at e
 exact q acc H1 g hacc (by rw [ha,e];rfl)
abbrev uD:Stmt:=inClass (top 24) 22
abbrev qW:List Str:=["self","part"]
abbrev MG:List Str:=qW
theorem K8:aI MG qW (ay uD):=dj
theorem K9 {T:TC} (F:iY K T.hold "stow" "Hold.stow" uD f fd) (X:Txt K T):Mn P w K mg base 1 T.hold "stow" qW (Ss T):=by
 refine F.oA K8 fun cdv A outer s H vs Q E hr h=>?_
 obtain ⟨⟨n,ρ,A,st,qq,p,rfl,hh,h1,h2,c1,c2,hn,wf',q⟩⟩:=h
 have h:=hh.h
 refine ⟨_,(@cJ.h _ _ _ (ak (qB (bZ hr) (aW K (qv 0)) (aW K (qv 1)) (qv 1) rfl)
  (au (qB (bZ hr) (aW K (qv 0)) (aW K (qv 1)) fq rfl)))),?_⟩
 have zS:∀x∈st.ao,x.nm≠p.nm:=fun x hx e=>hn (by rw [<-e];exact hh.wf.sub x hx)
 have lab:(cY st.ao A.qs).length<sizeLine:=by rw [wY h.ql];exact eY hh.wf.vV
 refine ⟨_,Z,_,Z,A.a,T.hold,A.dx,_,_,Z,h.oa,X.cH,X.hab,Z,_,Z,qq.1,T.part,qq.2.1,_,_,Z,h1,X.cP,X.Wy,Z,A.ab,_,Z,t8.k (k:=Sum.inr p.nm) h.d9 lab,?_⟩
 rw [nP _ (zg zS),<-Vm h.ql p qq]
 have k1:qq.1≠qq.2.2:=iT h1 h2 (by intro z;cases z)
 have f1:Kp n ρ (cN (cN ρ qq.1 (n,20,p.nm)) qq.2.2 (n,21,p.nm)) H H (fun _=>true):=⟨fun _ _ e=>e,fun b t x o _ c e=>⟨e,by
  rw [b_ (fun z=>by rw [z,c2] at c;cases c),b_ (fun z=>by rw [z,c1] at c;cases c)];exact c⟩⟩
 have hc:=h.same f1
 have g1:Gh (cN (cN ρ qq.1 (n,20,p.nm)) qq.2.2 (n,21,p.nm)) H:=(hh.g.color h1 rfl).color h2 rfl
 have fr1:J5 n qq.1 qq.2.2 ρ H (cN (cN ρ qq.1 (n,20,p.nm)) qq.2.2 (n,21,p.nm)) H:=fun b o e k n1 n2=>⟨e,by rw [b_ n2,b_ n1]⟩
 have hs:=hc.Sk g1 (st.ao++[p]) (A.qs++[qq]) (by rw [dg,dg,h.ql];rfl) (fun i x y ex ey=>by
  by_cases hi:i<st.ao.length
  . rw [Jh hi] at ex
    rw [Jh (by rw [h.ql];exact hi)] at ey
    exact hc.opt i x y ex ey
  . rw [Jg (by omega)] at ex
    rw [Jg (by rw [h.ql];omega),h.ql] at ey
    have e0:i-st.ao.length=0:=by
     rcases Nat.eq_zero_or_pos (i-st.ao.length) with z|z
     . exact z
     . rw [tV (by show 1<=_;exact z)] at ex;cases ex
    rw [e0] at ex ey
    cases ex;cases ey
    exact ⟨h1,h2,by rw [b_ k1];exact dN,dN⟩)
 have g2:=g1.wr (a:=A.ab) (o:= .dK (cY (st.ao++[p]) (A.qs++[qq]))) rfl
 have fr2:Fr n _ H _ (upd H A.ab (.dK (cY (st.ao++[p]) (A.qs++[qq])))):=Fr.write hc.gO
 have J4:upd H A.ab (.dK (cY (st.ao++[p]) (A.qs++[qq]))) qq.1=some (.ins T.part qq.2.1 (lS p qq.2.2)):=by rw [av (iT h1 h.d9 (by intro z;cases z))];exact h1
 refine ⟨_,Z,A.a,T.hold,A.dx,_,_,Z,hs.oa,X.cH,X.hnm,Z,_,Z,qq.1,T.part,qq.2.1,_,_,Z,J4,X.cP,X.Wy,Z,A.nm,_,Z,t8.k (k:=Sum.inr p.nm) hs.ue (by unfold wW;rw [aG];exact eY hh.wf.Fe),?_⟩
 rw [nP _ (zh hn),show wW st.nms++[(Sum.inr p.nm,V.bl true)]=wW (st.nms++[p.nm]) from by unfold wW;rw [bF];rfl]
 have hs2:=hs.aal g2 (st.nms++[p.nm])
 exact q _ _ _ ⟨g2.wr rfl,hs2,wf'⟩ rfl (fr1.trans (fr2.trans (Fr.write hs.jO)))
abbrev uE:Stmt:=inClass (top 24) 1
abbrev qX:List Str:=["self","owner"]
abbrev MH:List Str:=qX.append ["part"]
theorem zT:aI MH qX (ay uE):=dj
theorem K_ {T:TC} (F:iY K T.hold "sign" "Hold.sign" uE f fd) (X:Txt K T) (oM:Dn P w K mg base 2 "is_name" rK xT) (bf:mg "len"=none):Mn P w K mg base 3 T.hold "sign" qX (Oh T):=by
 refine F.oA zT fun cdv A outer s H vs Q E hr h=>?_
 obtain ⟨⟨n,ρ,A,st,o,rfl,hh,hx,hn,hl,q⟩⟩:=h
 refine ⟨_,(@cJ.h _ _ _ (ak (cK (dH (dm (aZ oM hr (af (qv 1) aj)))) (au jB) aT)
  (ak (cK (xg (KS (bZ hr) (qv 1) (aW K (qv 0)))) (au jB) aT)
  (ak (qB (bZ hr) (aW K (qv 0)) (qv 1) (aE vj (by rfl) bf dF (af (aW K (qv 0)) aj)) rfl)
  (ak (c8 (tM xC xy xA gU (aW K (qv 0)) (af ai aj)))
  (ak (c8 (tM xC xy xA gU (aW K (qv 0)) (af ai aj)))
  (au (xj (dO d8 rfl (AN (aW K (qv 0))) (aN (i:=2) zT.nd) (au (c8 (tM xC xy xA gU (aW K (qv 2)) (af ai aj))))))))))))),?_⟩
 refine ⟨_,Z,DF (cs:=o.cps.toList) (J9 hx) fun H1 g1=>⟨_,Z,?_⟩⟩
 rw [show isName o.cps.toList=true from hx]
 refine cW ?_
 have fX:=hh.mono g1
 have h1:=fX.h
 have F1:Fr n ρ H ρ H1:=Fr.of_same g1
 refine ⟨_,Z,_,Z,A.a,T.hold,A.dx,_,_,Z,h1.oa,X.cH,X.hpl,Z,A.pl,_,Z,cV.k (k:=Sum.inr o) h1.iN,_,Z,?_⟩
 rw [pB hn]
 refine cW ?_
 have BN:=pC st.own 0
 refine ⟨_,Z,A.a,T.hold,A.dx,_,_,Z,h1.oa,X.cH,X.hpl,Z,A.pl,_,Z,h1.iN,_,Z,A.a,T.hold,A.dx,_,_,Z,h1.oa,X.cH,X.hpl,Z,_,Z,A.pl,_,Z,t8.k (k:=Sum.inr o) h1.iN (eY (by rw [BN];omega)),?_⟩
 rw [nP _ (pB hn),BN,show fK 0 st.own++[(Sum.inr o,V.int (st.own.length:Int))]=fK 0 (st.own++[o]) from by rw [J3,Nat.zero_add]]
 have h2:=h1.aak fX.g (st.own++[o])
 have G2:=fX.g.wr (a:=A.pl) (o:= .dK (fK 0 (st.own++[o]))) rfl
 have F2:=F1.trans (Fr.write (o:= .dK (fK 0 (st.own++[o]))) h1.jC)
 generalize upd H1 A.pl (.dK (fK 0 (st.own++[o])))=H2 at *
 have lcm:(st.bM.map V.int).length<sizeLine:=by rw [aG,hh.wf.i7];exact eY (by omega)
 refine ⟨_,Z,A.a,T.hold,A.dx,_,_,Z,h2.oa,X.cH,X.Bt,Z, .inl ⟨Z,_,aB.of h2.jQ⟩,A.cm,_,_,Z,Z,h2.jQ,lcm,?_⟩
 rw [show st.bM.map V.int++[V.int 0]=(st.bM++[0]).map V.int from by rw [bF];rfl]
 have h3:=h2.aam G2 (st.bM++[0])
 have G3:=G2.wr (a:=A.cm) (o:= .lst ((st.bM++[0]).map V.int)) rfl
 have F3:=F2.trans (Fr.write (o:= .lst ((st.bM++[0]).map V.int)) h2.kM)
 generalize upd H2 A.cm (.lst ((st.bM++[0]).map V.int))=H3 at *
 have lpu:(st.cX.map V.int).length<sizeLine:=by rw [aG,hh.wf.zf];exact eY (by omega)
 refine ⟨_,Z,A.a,T.hold,A.dx,_,_,Z,h3.oa,X.cH,X.J0,Z, .inl ⟨Z,_,aB.of h3.qg⟩,A.pu,_,_,Z,Z,h3.qg,lpu,?_⟩
 rw [show st.cX.map V.int++[V.int 0]=(st.cX++[0]).map V.int from by rw [bF];rfl]
 have h4:=h3.aan G3 (st.cX++[0])
 have G4:=G3.wr (a:=A.pu) (o:= .lst ((st.cX++[0]).map V.int)) rfl
 have F4:=F3.trans (Fr.write (o:= .lst ((st.cX++[0]).map V.int)) h3.cpu)
 generalize upd H3 A.pu (.lst ((st.cX++[0]).map V.int))=H4 at *
 clear h1 h2 h3 G2 G3 F2 F3 fX
 have hpl:=hh.wf.vV
 refine ⟨A.ab,_,h4.d9,fun ob=>?_⟩
 refine ⟨_,Z,A.a,T.hold,A.dx,_,_,Z,eZ h4.d9 h4.oa (fun k z=>by cases z),X.cH,X.hab,Z,A.ab,ob,_,Z,ah,?_⟩
 have el:=wY h4.ql
 have el0:(cY st.ao A.qs).length=st.ao.length:=el
 refine uc (n:=st.ao.length) (fun i σ H'=>(∃s2,σ=[some (.ref A.a),some (.str o),s2])/\oz H' A.ab ob (cY st.ao A.qs)/\∃H5,H'=upd H5 A.ab (.fk ob (.dK (cY st.ao A.qs)))/\Gh ρ H5/\Fr n ρ H ρ H5/\
   aV T n ρ A H5 { st with own:=st.own++[o],bM:=st.bM++[0],cX:=st.cX++[0],ao:=(st.ao.take i).map (fun p=>{ p with row:=p.row++[0] })++st.ao.drop i })
  ⟨⟨_,Z⟩,ah,H4,Z,G4,F4,h4⟩ (fun i σ H' hi hp=>⟨hp.2.1,by rw [el0];exact hi⟩) (fun σ H' hp=>⟨hp.2.1,by rw [el0];exact aO _⟩) ?_ ?_
 . rintro i x σ H' DQ hi ⟨⟨s2,rfl⟩,hz,H5,rfl,G5,F5,h5⟩ ⟨rfl,kv,hkv,rfl⟩
   have ep:=aX hi
   have BO:=J_ (fun p:Pt=>{ p with row:=p.row++[0] }) ep
   obtain ⟨qq,eq,k1,k2,k3,k4⟩:=h5.find BO
   rw [wX ep eq] at hkv
   cases hkv
   have WU:=qp (fun p:Pt=>{ p with row:=p.row++[0] }) (fun p:Pt=>p.nm) (fun _=>rfl) st.ao i
   have nd5:(((st.ao.take i).map (fun p:Pt=>{ p with row:=p.row++[0] })++st.ao.drop i).map (fun p:Pt=>p.nm)).Nodup:=by rw [WU];exact hh.wf.pA
   have z1:=eZ (o:=ob) h5.d9 k1 (fun k z=>by cases z)
   have z2:=eZ (o:=ob) h5.d9 k2 (fun k z=>by cases z)
   rw [show cY ({ st with own:=st.own++[o],bM:=st.bM++[0],cX:=st.cX++[0],ao:=(st.ao.take i).map (fun p:Pt=>{ p with row:=p.row++[0] })++st.ao.drop i }:HS).ao A.qs=cY st.ao A.qs from oG WU] at z1 z2
   have hrl:((st.ao[i]).row.map V.int).length<sizeLine:=by rw [aG,hh.wf.rows _ (u_ hi)];exact eY (by omega)
   refine ⟨_,Z,qq.1,T.part,qq.2.1,_,_,Z,z1,X.cP,X.Wz,Z, .inl ⟨Z,_,aB.of z2⟩,qq.2.2,_,_,Z,Z,z2,hrl,?_⟩
   have na:A.ab≠qq.2.2:=(iT k2 h5.d9 (by intro z;cases z)).symm
   rw [show (st.ao[i]).row.map V.int++[V.int 0]=((st.ao[i]).row++[0]).map V.int from by rw [bF];rfl]
   have h6:=h5.X5 G5 ((st.ao[i]).row++[0]) BO eq nd5
   rw [show ({ st with own:=st.own++[o],bM:=st.bM++[0],cX:=st.cX++[0],ao:=(st.ao.take i).map (fun p:Pt=>{ p with row:=p.row++[0] })++st.ao.drop i }:HS).ao.set i { st.ao[i] with row:=(st.ao[i]).row++[0] }=_ from Ka (fun p:Pt=>{ p with row:=p.row++[0] }) ep] at h6
   exact ⟨⟨_,Z⟩,(av na).trans hz,_,kj na,G5.wr rfl,F5.trans (Fr.write k4),h6⟩
 . rintro σ H' ⟨_,hz,H5,rfl,G5,F5,h5⟩
   have WU:=qp (fun p:Pt=>{ p with row:=p.row++[0] }) (fun p:Pt=>p.nm) (fun _=>rfl) st.ao st.ao.length
   have e5:cY ({ st with own:=st.own++[o],bM:=st.bM++[0],cX:=st.cX++[0],ao:=(st.ao.take st.ao.length).map (fun p:Pt=>{ p with row:=p.row++[0] })++st.ao.drop st.ao.length }:HS).ao A.qs=cY st.ao A.qs:=oG WU
   have h5':=h5.d9
   rw [e5] at h5'
   refine ⟨hz,?_⟩
   rw [tQ,x8 h5']
   have es:({ st with own:=st.own++[o],bM:=st.bM++[0],cX:=st.cX++[0],ao:=(st.ao.take st.ao.length).map (fun p:Pt=>{ p with row:=p.row++[0] })++st.ao.drop st.ao.length }:HS)=gy st o:=by
    unfold gy
    rw [cA,CZ,tE]
   rw [es] at h5
   exact q ρ A H5 ⟨G5,h5,Yb hh.wf hn hl⟩ rfl F5
abbrev uF:Stmt:=inClass (top 24) 2
abbrev qY:List Str:=["self","part","owner","worth","weight"]
abbrev MI:List Str:=qY.append ["place","tops"]
theorem uG:aI MI qY (ay uF):=dj
theorem La {T:TC} (F:iY K T.hold "load" "Hold.load" uF f fd) (X:Txt K T) (nX:Mn P w K mg base 3 T.hold "check_new" kB (DO T)) (pM:Mn P w K mg base 1 T.hold "place_of" jn (Of T))
  (kC:Mn P w K mg base 1 T.hold "beyond_common" iA (WB T K)) (v8:Mn P w K mg base 1 T.hold "stow" qW (Ss T)) (Lb:Cn P w K mg base 1 "Part" T.part ["self","name","owner","worth","weight","scale","row"] (Od T K)) (bf:mg "len"=none):Mn P w K mg base 4 T.hold "load" qY (Su T):=by
 refine F.oA uG fun cdv A outer s H vs Q E hr h=>?_
 obtain ⟨⟨n,ρ,A,st,x,o,wo,we,rfl,hh,hx,hn,ho,h4,h5,h6,h7,q⟩⟩:=h
 refine ⟨_,(@cJ.h _ _ _ (ak (c8 (gF nX hr (qv 0) (af (qv 1) aj)))
  (ak (aP (i:=5) uG.nd (gF pM hr (qv 0) (af (qv 2) aj)))
  (ak (cK (fH (bW.pt (iV (aY I_ (qv 3) ai (br _)) (ir (aY I_ (qv 4) ai (br _)))))) (au jB) aT)
  (ak (aP (i:=6) uG.nd (aD RP (dQ (af ai aj)) (aE vj (by rfl) bf dF (af (aW K (qv 0)) aj))))
  (ak (uy (aW K (aW K (qv 0))) (uz (qv 6) (qv 5) set_list))
  (au (c8 (gF v8 hr (qv 0) (af (adw Lb hr (af (qv 1) (af (qv 2) (af (qv 3) (af (qv 4) (af ai (af (gF kC hr (qv 0) (af (qv 6) aj)) aj))))))) aj)))))))))),?_⟩
 refine ⟨_,Z,A.a,A.dx,_,Z,hh.h.oa,Z,_,Z,⟨⟨n,ρ,A,st,x,Z,hh.h,hx,hn,fun H1 g1=>?_⟩⟩⟩
 have fX:=hh.mono g1
 have F1:Fr n ρ H ρ H1:=Fr.of_same g1
 clear hh
 refine ⟨_,Z,A.a,A.dx,_,Z,fX.h.oa,Z,_,Z,⟨⟨n,ρ,A,st,o,Z,fX.h,ho,?_⟩⟩⟩
 refine ⟨false,⟨_,Z,_,_,Z,Z,_,Z,eF (fun c=>absurd (eE c) (by omega)) fun _=>⟨_,Z,_,_,Z,Z,_,Z,d7 (by omega),Z⟩⟩,cW ?_⟩
 refine ⟨(iE 1),fun p0 hp0=>?_⟩
 have g2:=az hp0 (.lst [.int 0])
 have iO:=fX.mono g2
 have F2:=F1.trans (Fr.of_same (ρ:=ρ) g2)
 have VX:upd H1 p0 (.lst [.int 0]) p0=some (.lst [.int 0]):=ah
 generalize upd H1 p0 (.lst [.int 0])=H2 at *
 clear fX F1
 have BN:=pC st.own 0
 have dX:=iO.wf.rT
 refine ⟨_,Z,A.a,T.hold,A.dx,_,_,Z,iO.h.oa,X.cH,X.hpl,Z,A.pl,_,Z,iO.h.iN,p0,_,_,Z,Z,VX,by omega,by rw [BN];omega,by rw [BN];show 1*_<=_;rw [rN,Nat.one_mul];exact small (by omega),fun p1 hp1=>?_⟩
 rw [BN,rN,show (List.replicate st.own.length [V.int 0]).flatten=(List.replicate st.own.length (0:Int)).map V.int from by rw [List.map_replicate,List.flatten_replicate_singleton]]
 have g3:=az hp1 (.lst ((List.replicate st.own.length (0:Int)).map V.int))
 have lI:=iO.mono g3
 have F3:=F2.trans (Fr.of_same (ρ:=ρ) g3)
 have n1:H p1=none:=(g1.trans g2).free hp1
 have c1:ρ p1=none:=iO.g.none hp1
 have zU:upd H2 p1 (.lst ((List.replicate st.own.length (0:Int)).map V.int)) p1=_:=ah
 generalize upd H2 p1 (.lst ((List.replicate st.own.length (0:Int)).map V.int))=H3 at *
 have hi:=Jj.mpr ho
 refine ⟨_,Z,A.a,T.hold,A.dx,_,_,Z,lI.h.oa,X.cH,X.Bs,Z,A.bt,T.bot,A.db,_,_,Z,lI.h.m_,X.cB,X.Sm,Z,_,Z,_,Z,p1,_,_,st.own.idxOf o,Z,Z,zU,by rw [aG,jz];exact wR hi,?_⟩
 rw [show ((List.replicate st.own.length (0:Int)).map V.int).set (st.own.idxOf o) (V.int st.prod)=((List.replicate st.own.length (0:Int)).set (st.own.idxOf o) st.prod).map V.int from by rw [vg]]
 have kN:=lI.DP (o:= .lst (((List.replicate st.own.length (0:Int)).set (st.own.idxOf o) st.prod).map V.int)) c1 zU rfl rfl
 have F4:=F3.new (o:= .lst (((List.replicate st.own.length (0:Int)).set (st.own.idxOf o) st.prod).map V.int)) n1
 have VY:upd H3 p1 (.lst (((List.replicate st.own.length (0:Int)).set (st.own.idxOf o) st.prod).map V.int)) p1=_:=ah
 have s4:aF H (upd H3 p1 (.lst (((List.replicate st.own.length (0:Int)).set (st.own.idxOf o) st.prod).map V.int))):=((g1.trans g2).trans g3).cu n1 _
 generalize upd H3 p1 (.lst (((List.replicate st.own.length (0:Int)).set (st.own.idxOf o) st.prod).map V.int))=H4 at *
 clear iO lI F2 F3
 refine ⟨_,Z,A.a,A.dx,_,Z,kN.h.oa,Z,_,Z,_,Z,_,Z,_,Z,_,Z,A.a,A.dx,_,Z,kN.h.oa,Z,_,Z,⟨⟨n,ρ,A,st,p1,_,Z,kN.h,aB.of VY,by rw [lB,jz,kN.wf.i7],by rw [lB,jz];omega,fun r H5 g5 hr5 VZ=>?_⟩⟩⟩
 intro y dy hy hdy hyd
 have hr6:upd (upd H5 dy (.own y)) y (.ins T.part dy []) r=some (.lst ((zj st ((List.replicate st.own.length 0).set (st.own.idxOf o) st.prod)).map V.int)):=by rw [av (aH VZ hy),av (aH VZ hdy)];exact VZ
 refine ⟨⟨y,dy,r,⟨x,o,wo,we,1,zj st ((List.replicate st.own.length 0).set (st.own.idxOf o) st.prod)⟩,Z,ah,aB.of hr6,fun rr H6 hrr k6 hy6 agA=>⟨Z,?_⟩⟩⟩
 have abo:H5 rr=none:=by
  have e1:rr≠y:=fun e=>by rw [e,ah] at hrr;cases hrr
  have e2:rr≠dy:=fun e=>by rw [e,av hyd,ah] at hrr;cases hrr
  rw [av e1,av e2] at hrr;exact hrr
 have g6:aF H5 H6:=fun b u e=>k6 b u (by rw [av (aH e hy),av (aH e hdy)];exact e) (aH e hy)
 have s_:=kN.mono g5
 have BQ:=s_.mono g6
 have F6:=F4.trans (Fr.of_same (ρ:=ρ) (g5.trans g6))
 exact ⟨⟨n,ρ,A,st,(y,dy,rr),_,Z,BQ,hy6,agA,s_.g.none hy,s_.g.none abo,hn,Yd kN.wf hn h6 h7 ho h4 h5,fun ρ' A' H' a1 a2 a3=>q ρ' A' H' a1 a2 (a3.fr F6 ((s4.trans g5).free hy) ((s4.trans g5).free abo))⟩⟩
abbrev uH:Stmt:=inClass (top 24) 0
abbrev v9:List Str:=["self"]
abbrev MJ:List Str:=v9
theorem Lc:aI MJ v9 (ay uH):=dj
theorem Ld {T:TC} (F:GP K mg "Hold" T.hold "Hold.__init__" uH f fd) (X:Txt K T) (CI:Cn P w K mg base 1 "Bottom" T.bot ["self"] (Oc T)):Cn P w K mg base 3 "Hold" T.hold v9 (Oe T):=by
 refine F.oA Lc fun cdv A outer s H vs Q E hr h=>?_
 obtain ⟨⟨p,dx,ρ,n,rfl,hp,g,hρ,q⟩⟩:=h
 refine ⟨_,(@cJ.h _ _ _ (ak (eO K (qv 0) qA)
  (ak (eO K (qv 0) qA)
  (ak (eO K (qv 0) (dQ aj))
  (ak (eO K (qv 0) qA)
  (ak (eO K (qv 0) (Tv CI hr))
  (ak (eO K (qv 0) (dQ aj))
  (au (eO K (qv 0) (dQ aj)))))))))),?_⟩
 have M0:jh p H ρ H ρ [] :=⟨(fun _ m=>absurd m (by simp)),fun b o e _=>⟨e,Z⟩,g,_,hp⟩
 intro pl hpl
 have M1:=(M0.new (o:= .dK []) (c:=(n,1,⟨#[]⟩)) hpl rfl)
 refine ⟨_,Z,p,T.hold,dx,_,Z,by rw [av (aH hp hpl)];exact hp,X.cH,X.hpl,by show 0<1000;decide,?_⟩
 have M2:=M1.wr (u:= .ins T.hold dx (aU "places" (.ref pl) [])) rfl
 have hp2:upd (upd H pl (.dK [])) p (.ins T.hold dx (aU "places" (.ref pl) [])) p=_:=ah
 generalize upd (upd H pl (.dK [])) p (.ins T.hold dx (aU "places" (.ref pl) []))=H2 at *
 clear M0 M1
 intro ab hab
 have M3:=(M2.new (o:= .dK []) (c:=(n,2,⟨#[]⟩)) hab rfl)
 refine ⟨_,Z,p,T.hold,dx,_,Z,by rw [av (aH hp2 hab)];exact hp2,X.cH,X.hab,by show 1<1000;decide,?_⟩
 have M4:=M3.wr (u:= .ins T.hold dx (aU "aboard" (.ref ab) (aU "places" (.ref pl) []))) rfl
 have KJ:upd (upd H2 ab (.dK [])) p (.ins T.hold dx (aU "aboard" (.ref ab) (aU "places" (.ref pl) []))) p=_:=ah
 generalize upd (upd H2 ab (.dK [])) p (.ins T.hold dx (aU "aboard" (.ref ab) (aU "places" (.ref pl) [])))=H4 at *
 clear M2 M3
 refine ⟨(iE 0),fun as has=>?_⟩
 have M5:=(M4.new (o:= .lst []) (c:=(n,3,⟨#[]⟩)) has rfl)
 refine ⟨_,Z,p,T.hold,dx,_,Z,by rw [av (aH KJ has)];exact KJ,X.cH,X.has,by show 2<1000;decide,?_⟩
 have M6:=M5.wr (u:= .ins T.hold dx (aU "ashore" (.ref as) (aU "aboard" (.ref ab) (aU "places" (.ref pl) [])))) rfl
 have OP:upd (upd H4 as (.lst [])) p (.ins T.hold dx (aU "ashore" (.ref as) (aU "aboard" (.ref ab) (aU "places" (.ref pl) [])))) p=_:=ah
 generalize upd (upd H4 as (.lst [])) p (.ins T.hold dx (aU "ashore" (.ref as) (aU "aboard" (.ref ab) (aU "places" (.ref pl) []))))=H6 at *
 clear M4 M5
 intro nm hnm
 have M7:=(M6.new (o:= .dK []) (c:=(n,4,⟨#[]⟩)) hnm rfl)
 refine ⟨_,Z,p,T.hold,dx,_,Z,by rw [av (aH OP hnm)];exact OP,X.cH,X.hnm,by show 3<1000;decide,?_⟩
 have M8:=M7.wr (u:= .ins T.hold dx (aU "names" (.ref nm) (aU "ashore" (.ref as) (aU "aboard" (.ref ab) (aU "places" (.ref pl) []))))) rfl
 have TU:upd (upd H6 nm (.dK [])) p (.ins T.hold dx (aU "names" (.ref nm) (aU "ashore" (.ref as) (aU "aboard" (.ref ab) (aU "places" (.ref pl) []))))) p=_:=ah
 generalize upd (upd H6 nm (.dK [])) p (.ins T.hold dx (aU "names" (.ref nm) (aU "ashore" (.ref as) (aU "aboard" (.ref ab) (aU "places" (.ref pl) [])))))=H8 at *
 clear M6 M7
 intro bt db Bs hdb hne
 refine ⟨⟨bt,db,Z,ah,fun sp kn H9 oZ hkn hsk k9 hb9 hs9 hk9=>⟨Z,?_⟩⟩⟩
 have s9:aF H8 H9:=fun b o e=>k9 b o (by rw [av (aH e Bs),av (aH e hdb)];exact e) (aH e Bs)
 have fr:∀{c:Addr},upd (upd H8 db (.own bt)) bt (.ins T.bot db []) c=none->H8 c=none:=fun {c} e=>by
  have e1:c≠bt:=fun z=>by rw [z,ah] at e;cases e
  have e2:c≠db:=fun z=>by rw [z,av hne,ah] at e;cases e
  rw [av e1,av e2] at e;exact e
 have abt:=fr oZ
 have abu:=fr hkn
 have M9:=M8.same s9
 have M10:=M9.add (c:=(n,5,⟨#[]⟩)) hb9 rfl M8 Bs (fun e he=>aH (M8.m e he).1 Bs)
 have M11:=M10.add (c:=(n,8,⟨#[]⟩)) hs9 rfl M8 abt (fun e he=>by
  rcases c_.mp he with rfl|he
  . exact iT hb9 hs9 (by intro z;cases z)
  . exact aH (M8.m e he).1 abt)
 have M12:=M11.add (c:=(n,9,⟨#[]⟩)) hk9 rfl M8 abu (fun e he=>by
  rcases c_.mp he with rfl|he
  . exact iT hs9 hk9 (by intro z;cases z)
  rcases c_.mp he with rfl|he
  . exact iT hb9 hk9 (by intro z;cases z)
  . exact aH (M8.m e he).1 abu)
 have hp9:=s9 _ _ TU
 refine ⟨_,Z,p,T.hold,dx,_,Z,hp9,X.cH,X.Bs,by show 4<1000;decide,?_⟩
 have M13:=M12.wr (u:= .ins T.hold dx (aU "bottom" (.ref bt) (aU "names" (.ref nm) (aU "ashore" (.ref as) (aU "aboard" (.ref ab) (aU "places" (.ref pl) [])))))) rfl
 have zU:upd H9 p (.ins T.hold dx (aU "bottom" (.ref bt) (aU "names" (.ref nm) (aU "ashore" (.ref as) (aU "aboard" (.ref ab) (aU "places" (.ref pl) [])))))) p=_:=ah
 generalize upd H9 p (.ins T.hold dx (aU "bottom" (.ref bt) (aU "names" (.ref nm) (aU "ashore" (.ref as) (aU "aboard" (.ref ab) (aU "places" (.ref pl) []))))))=H13 at *
 clear M8 M9 M10 M11 M12
 refine ⟨(iE 0),fun cm Bt=>?_⟩
 have M14:=(M13.new (o:= .lst []) (c:=(n,6,⟨#[]⟩)) Bt rfl)
 refine ⟨_,Z,p,T.hold,dx,_,Z,by rw [av (aH zU Bt)];exact zU,X.cH,X.Bt,by show 5<1000;decide,?_⟩
 have M15:=M14.wr (u:= .ins T.hold dx (aU "common" (.ref cm) (aU "bottom" (.ref bt) (aU "names" (.ref nm) (aU "ashore" (.ref as) (aU "aboard" (.ref ab) (aU "places" (.ref pl) []))))))) rfl
 have abw:upd (upd H13 cm (.lst [])) p (.ins T.hold dx (aU "common" (.ref cm) (aU "bottom" (.ref bt) (aU "names" (.ref nm) (aU "ashore" (.ref as) (aU "aboard" (.ref ab) (aU "places" (.ref pl) []))))))) p=_:=ah
 generalize upd (upd H13 cm (.lst [])) p (.ins T.hold dx (aU "common" (.ref cm) (aU "bottom" (.ref bt) (aU "names" (.ref nm) (aU "ashore" (.ref as) (aU "aboard" (.ref ab) (aU "places" (.ref pl) [])))))))=H15 at *
 clear M13 M14
 refine ⟨(iE 0),fun pu J0=>?_⟩
 have M16:=(M15.new (o:= .lst []) (c:=(n,7,⟨#[]⟩)) J0 rfl)
 refine ⟨_,Z,p,T.hold,dx,_,Z,by rw [av (aH abw J0)];exact abw,X.cH,X.J0,by show 6<1000;decide,?_⟩
 have M17:=M16.wr (u:= .ins T.hold dx (aU "purses" (.ref pu) (aU "common" (.ref cm) (aU "bottom" (.ref bt) (aU "names" (.ref nm) (aU "ashore" (.ref as) (aU "aboard" (.ref ab) (aU "places" (.ref pl) [])))))))) rfl
 have aby:upd (upd H15 pu (.lst [])) p (.ins T.hold dx (aU "purses" (.ref pu) (aU "common" (.ref cm) (aU "bottom" (.ref bt) (aU "names" (.ref nm) (aU "ashore" (.ref as) (aU "aboard" (.ref ab) (aU "places" (.ref pl) [])))))))) p=_:=ah
 generalize upd (upd H15 pu (.lst [])) p (.ins T.hold dx (aU "purses" (.ref pu) (aU "common" (.ref cm) (aU "bottom" (.ref bt) (aU "names" (.ref nm) (aU "ashore" (.ref as) (aU "aboard" (.ref ab) (aU "places" (.ref pl) []))))))))=H17 at *
 clear M15 M16
 have m:=M17.m
 have zS:∀{a:Addr} {o:HO} {c:sX} {ρ2:fU},(H17 a=some o/\ρ2 a=some c/\a≠p)->H17 a=some o/\cN ρ2 p (n,0,⟨#[]⟩) a=some c:=fun h=>⟨h.1,by rw [b_ h.2.2];exact h.2.1⟩
 have a1:=zS (m _ (.head _))
 have a2:=zS (m _ (.tail _ (.head _)))
 have a3:=zS (m _ (.tail _ (.tail _ (.head _))))
 have a4:=zS (m _ (.tail _ (.tail _ (.tail _ (.head _)))))
 have a5:=zS (m _ (.tail _ (.tail _ (.tail _ (.tail _ (.head _))))))
 have a6:=zS (m _ (.tail _ (.tail _ (.tail _ (.tail _ (.tail _ (.head _)))))))
 have a7:=zS (m _ (.tail _ (.tail _ (.tail _ (.tail _ (.tail _ (.tail _ (.head _))))))))
 have a8:=zS (m _ (.tail _ (.tail _ (.tail _ (.tail _ (.tail _ (.tail _ (.tail _ (.head _)))))))))
 have a9:=zS (m _ (.tail _ (.tail _ (.tail _ (.tail _ (.tail _ (.tail _ (.tail _ (.tail _ (.head _))))))))))
 refine q (cN _ p (n,0,⟨#[]⟩)) ⟨p,dx,pl,ab,as,nm,bt,db,cm,pu,sp,kn,[]⟩ H17 rfl ⟨M17.g.color aby rfl,⟨aby,dN,a9.1,a9.2,a8.1,a8.2,⟨[],a7.1, .nil⟩,a7.2,a6.1,a6.2,a5.1,a5.2,a2.1,a2.2,a1.1,a1.2,a4.1,a4.2,⟨[],a3.1,(fun x hx=>absurd hx (by simp)),aO _,vd⟩,a3.2,Z,fun i x y ex=>by simp [hs0] at ex⟩,wf0⟩ (fun b o e hb=>?_)
 obtain ⟨x,y⟩:=M17.k b o e hb
 exact ⟨x,by rw [b_ hb];exact y⟩
abbrev nY:Stmt:=inClass (top 24) 27
abbrev lJ:List Str:=["self","amounts"]
abbrev Ep:List Str:=lJ.append ["lost","sums","name","amount","part","many"]
theorem ff:aI Ep lJ (ay nY):=dj
theorem CJ {T:TC} (F:iY K T.hold "given_up" "Hold.given_up" nY f fd) (X:Txt K T) (d_:mg "sum"=none) (jH:mg "zip"=none):Mn P w K mg base 1 T.hold "given_up" lJ (Ot T):=by
 refine F.oA ff fun cdv A outer s H vs Q E hr h=>?_
 obtain ⟨⟨n,ρ,A,st,d,rs,rfl,h,wf,hd,cd,hle,CK,q⟩⟩:=h
 refine ⟨_,(@cJ.h _ _ _ (ak (aP (i:=2) ff.nd (aE (GO rfl) (by rfl) d_ tW (af (Fw (qv 1)) aj)))
  (ak (qz (i:=3) ["common","lost"] [none,some 2] ff.nd rfl rfl rfl (di K (aW K (qv 0))) (fun _ _ _ _=>(aN (i:=0) (show List.Nodup (["common","lost"] :List Str) from by decide +kernel))) (fun _ _ _ _=>(aD jN (qv 1) (qv 0))) rfl (by rfl) (by rfl))
  (ak (xj (dO d8 rfl (Cy (qv 1)) (ja K (n:=2) rfl (cU (aN (i:=4) ff.nd) (cU (aN (i:=5) ff.nd) i_))) (ak (aP (i:=6) ff.nd (bR (bZ hr) (aW K (qv 0)) (qv 4)))
  (ak (aP (i:=7) ff.nd (aD jN (qv 5) (aW K (qv 6))))
  (au (qz (i:=3) ["old","own","many"] [none,none,some 7] ff.nd rfl rfl rfl (tS K (by rfl) jH (af (qv 3) (af (aW K (qv 6)) aj))) (fun _ _ _ _=>(ja K (n:=2) rfl (cU (aN (i:=0) (show List.Nodup (["old","own","many"] :List Str) from by decide +kernel)) (cU (aN (i:=1) (show List.Nodup (["old","own","many"] :List Str) from by decide +kernel)) i_)))) (fun _ _ _ _=>(aD bP (qv 0) (aD jN (qv 2) (qv 1)))) rfl (by rfl) (by rfl)))))))
  (au (aR (qv 3))))))),?_⟩
 have hcl:st.bM.length<=100:=by rw [wf.i7];exact wf.rT
 have zl:Jm.Sz 1100 (bD rs):=by
  have:=Jm.RZ (n:=60) (ws:=rs.map (·.2)) (fun m hm=>by obtain ⟨r,hr,rfl⟩:=cD.mp hm;exact (CK r hr).1)
  exact this.mono (by rw [aG];omega)
 have zc:∀c∈st.bM,Jm.Sz 8000 c:=fun c hc=>Jm.Sz.m8 (by have:=wf.uf c hc;have:=wf.iz;omega) (wf.uf c hc).2 wf.big
 refine ⟨_,Z,d,_,Z, .inl hd,fun v hv=>⟨v,d,_,rs.map (·.2),Z,ah, .inl (by rw [av (aH hd hv)];exact hd),by unfold gW;rw [iS,iS];rfl,?_⟩⟩
 have g1:=az hv (lG v d)
 have hd1:=g1 _ _ hd
 have h1:=h.mono g1
 generalize upd H v (lG v d)=H1 at *
 refine ⟨_,Z,A.a,T.hold,A.dx,_,_,Z,h1.oa,X.cH,X.Bt,Z,A.cm,Z,⟨_,aB.of h1.jQ⟩,fun l0 iF=>?_⟩
 refine gC (J:=rF K A.cm) (n:=(st.bM.map V.int).length) 0 (fun i o H'=>aF H1 H'/\o=((st.bM.take i).map fun c=>bD rs*c).map V.int) (by rw [aG];omega) ⟨az iF _,Z⟩ (fun i o H' hi _ hp=>⟨_,_,aB.of (hp.1 _ _ h1.jQ),aX hi⟩) (fun o H' _ hp=>⟨_,aB.of (hp.1 _ _ h1.jQ),aO _⟩) ?_ ?_
 . rintro i y o H2 H3 hi dX ha ⟨g,e⟩ ⟨rfl,hy⟩
   obtain ⟨c,rfl,ec⟩:=gJ (hy _ (aB.of (g _ _ h1.jQ)))
   refine ⟨_,Z,_,Z,_,_,Z,Z,i8 zl (zc c (bV ec)),ha,g.cu iF _,?_⟩
   subst e
   rw [take_snoc ec,bF,bF]
   rfl
 rintro o H2 dX ha ⟨g2,e⟩
 rw [aG,cA] at e
 subst e
 have TV:=g1.trans g2
 have hd2:=g2 _ _ hd1
 have h2:=h1.mono g2
 have hn0:H l0=none:=g1.free iF
 refine ⟨d,_,hd2,fun ob=>⟨_,Z,d,ob,_,Z,ah,?_⟩⟩
 have al:=x_ rs
 refine uc (n:=(gW rs).length) (fun i σ H'=>aF (upd H2 d (.fk ob (.dK (gW rs)))) H'/\∃l s4 s5 s6 s7,σ=[some (.ref A.a),some (.ref d),some (.int (bD rs)),some (.ref l),s4,s5,s6,s7]/\H l=none/\H' l=some (.lst (((rs.take i).foldl (jA st) (st.bM.map fun c=>bD rs*c)).map V.int))/\((rs.take i).foldl (jA st) (st.bM.map fun c=>bD rs*c)).length=st.bM.length)
  ⟨aF.refl _,l0,_,_,_,_,Z,hn0,eZ hd2 ha (fun k z=>by cases z),by rw [List.take_zero,List.foldl_nil,aG]⟩ (fun i σ H' hi hp=>⟨hp.1 _ _ ah,hi⟩) (fun σ H' hp=>⟨hp.1 _ _ ah,aO _⟩) ?_ ?_
 . rintro i x σ H3 H4 hi ⟨g,l,s4,s5,s6,s7,rfl,DC,hl,hsl⟩ ⟨pp,kv,hpp,hkv,rfl,rfl⟩
   unfold gW at hkv
   rw [bK] at hkv
   obtain ⟨r,er,rfl⟩:=lP.mp hkv
   have hrm:=bV er
   obtain ⟨zr,p,lV,Er⟩:=CK r hrm
   obtain ⟨ip,yE,TY⟩:=tX lV
   have ep:st.ao[ip]?=some p:=by rw [aX yE,TY]
   have epg:dI st r.1=p:=by rw [<-Er];exact Oq wf.pA ep
   have g4:=az hpp (.tup [.str r.1, .int r.2])
   have gg:=g.trans g4
   have h2z:∀{b:Addr} {u:HO},H2 b=some u->(∀k,u ≠ .dK k)->upd H3 pp (.tup [.str r.1, .int r.2]) b=some u:=fun e k=>gg _ _ (eZ hd2 e k)
   have nab:A.ab≠d:=(Br cd h.gO).symm
   obtain ⟨qq,eq,k1,k2,_,_⟩:=h2.find ep
   have hab:upd H3 pp (.tup [.str r.1, .int r.2]) A.ab=some (.dK (cY st.ao A.qs)):=gg _ _ (by rw [av nab];exact h2.d9)
   have hv:=wZ wf.pA ep eq
   have hq1:=h2z k1 (fun k z=>by cases z)
   have hq2:=h2z k2 (fun k z=>by cases z)
   have Le:upd H3 pp (.tup [.str r.1, .int r.2]) pp=some (.tup [.str r.1, .int r.2]):=ah
   have Hv:=g4 _ _ hl
   have hno:∀{b:Addr},upd H3 pp (.tup [.str r.1, .int r.2]) b=none->H b=none:=fun {b} e=>by
    have e1:=nQ hd2 (gg.free e)
    exact TV.free e1
   have TZ:upd H3 pp (.tup [.str r.1, .int r.2]) A.a=some (.ins T.hold A.dx (mT A)):=h2z h2.oa (fun k z=>by cases z)
   show B8 K 2 _ _ _ (upd H3 pp (.tup [.str r.1, .int r.2])) _
   generalize upd H3 pp (.tup [.str r.1, .int r.2])=H4 at *
   refine ⟨pp,_,Z,cT.of Le,Z,_,_,Z,_,_,Z,Z,?_⟩
   refine ⟨_,Z,A.a,T.hold,A.dx,_,_,Z,TZ,X.cH,X.hab,Z,_,Z,A.ab,_,Z,by rw [<-Er];exact hv▸cV.k (k:=Sum.inr p.nm) hab,?_⟩
   have zs:Jm.Sz 8000 p.sc:=Jm.Sz.m8 (by have:=wf.yC p lV;have:=wf.iz;omega) (wf.yC p lV).2 wf.big
   refine ⟨_,Z,_,Z,qq.1,T.part,qq.2.1,_,_,Z,hq1,X.cP,X.Sl,Z,_,_,Z,Z,i8 zr zs,?_⟩
   have erl:p.row.length=st.bM.length:=by rw [wf.rows p lV,wf.i7]
   generalize eS:(rs.take i).foldl (jA st) (st.bM.map fun c=>bD rs*c)=S at *
   refine ⟨_,Z,_,Z,qq.1,T.part,qq.2.1,_,_,Z,hq1,X.cP,X.Wz,Z,_,_,_,_,_,_,Z, .lst (aB.of Hv), .lst (aB.of hq2),fun acc hacc=>?_⟩
   refine y9 (K:=K) (n:=S.length) [0,1] (fun j out H5=>aF H4 H5/\out=(List.zipWith (fun old own=>old+(r.2*p.sc)*own) (S.take j) (p.row.take j)).map V.int) (by decide) (by omega) ⟨az hacc _,Z⟩ (fun j out H5 hj _ hp=>⟨aB.of (hp.1 _ _ Hv),aB.of (hp.1 _ _ hq2),by rw [aG];exact hj,by rw [aG];omega⟩)
    (fun out H5 _ hp=>⟨aB.of (hp.1 _ _ Hv),aB.of (hp.1 _ _ hq2), .inl (by rw [aG];exact aO _)⟩) ?_ ?_
   . rintro j x out H5 H6 hj FN ha2 ⟨g5,e5⟩ ⟨p2,x1,y1,hp2,rfl,rfl,e1,e2⟩
     obtain ⟨t,rfl,et⟩:=gJ e1
     obtain ⟨c,rfl,ec⟩:=gJ e2
     have g6:=az hp2 (.tup [.int t, .int c])
     have zw:Jm.Sz 8000 c:=Jm.Sz.m8 (wf.vW p lV c (bV ec)).1 (wf.vW p lV c (bV ec)).2 wf.big
     refine ⟨p2,_,Z,cT.of ah,Z,_,Z,_,Z,_,Z,_,_,Z,Z,i8 (zr.mul zs) zw,_,_,Z,Z,g6 _ _ ha2,(g5.trans g6).cu hacc _,?_⟩
     rw [oF _ et ec,e5,bF]
     rfl
   rintro out H5 FN ha2 ⟨g5,e5⟩
   rw [cA,hsl,<-erl,cA] at e5
   have eN:(rs.take (i+1)).foldl (jA st) (st.bM.map fun c=>bD rs*c)=List.zipWith (fun old own=>old+(r.2*p.sc)*own) S p.row:=by
    rw [take_snoc er,Jp,eS]
    show jA st S r=_
    unfold jA
    rw [epg]
   refine ⟨gg.trans g5,acc,_,_,_,_,Z,hno hacc,?_,?_⟩
   . rw [eN,ha2,e5]
   . rw [eN,qh];omega
 rintro σ H3 ⟨g,l,s4,s5,s6,s7,rfl,DC,hl,hsl⟩
 rw [al,cA] at hl
 refine ⟨g _ _ ah,_,Z,?_⟩
 have nl:l≠d:=fun e=>by rw [e,hd] at DC;cases DC
 exact q l _ (TV.trans (ug hd2 g)) DC (by rw [av nl];exact hl)
abbrev qG:Stmt:=inClass (top 24) 23
abbrev nG:List Str:=["self","name","amount"]
abbrev HR:List Str:=nG.append ["part"]
theorem xu:aI HR nG (ay qG):=dj
theorem FO {T:TC} (F:iY K T.hold "lessen" "Hold.lessen" qG f fd) (X:Txt K T):Mn P w K mg base 1 T.hold "lessen" nG (SI T):=by
 refine F.oA xu fun cdv A outer s H vs Q E hr h=>?_
 obtain ⟨⟨n,ρ,A,st,r,rfl,hh,⟨p,lV,Er,hle⟩,wf',q⟩⟩:=h
 have h:=hh.h
 have nd:=hh.wf.pA
 refine ⟨_,(@cJ.h _ _ _ (ak (aP (i:=3) xu.nd (bR (bZ hr) (aW K (qv 0)) (qv 1)))
  (ak (D9 K (qv 3) (qv 2) Zw)
  (au (gX (aY iU (aW K (qv 3)) ai (br _)) (au (YF (aW K (qv 0)) (qv 1))) aT))))),?_⟩
 obtain ⟨ip,yE,TY⟩:=tX lV
 have ep:st.ao[ip]?=some p:=by rw [aX yE,TY]
 obtain ⟨qq,eq,k1,k2,k3,k4⟩:=h.find ep
 have hv:=wZ nd ep eq
 refine ⟨_,Z,A.a,T.hold,A.dx,_,_,Z,h.oa,X.cH,X.hab,Z,_,Z,A.ab,_,Z,by rw [<-Er];exact hv▸cV.k (k:=Sum.inr p.nm) h.d9,?_⟩
 refine ⟨_,Z,qq.1,T.part,qq.2.1,_,_,Z,k1,X.cP,X.Oa,Z,_,Z,_,_,Z,Z,qq.2.1,_,k1,by show 6<1000;decide,?_⟩
 have h1:=h.y_ (p1:={ p with wo:=p.wo-r.2 }) hh.g ep eq rfl rfl nd
 have g1:=hh.g.wr (a:=qq.1) (o:= .ins T.part qq.2.1 (lS { p with wo:=p.wo-r.2 } qq.2.2)) rfl
 have F1:Fr n ρ H ρ (upd H qq.1 (.ins T.part qq.2.1 (lS { p with wo:=p.wo-r.2 } qq.2.2))):=Fr.write k3
 show Z0 _ _ _ _ _ (upd H qq.1 (.ins T.part qq.2.1 (lS { p with wo:=p.wo-r.2 } qq.2.2)))
 have OQ:upd H qq.1 (.ins T.part qq.2.1 (lS { p with wo:=p.wo-r.2 } qq.2.2)) qq.1=some (.ins T.part qq.2.1 (lS { p with wo:=p.wo-r.2 } qq.2.2)):=ah
 generalize upd H qq.1 (.ins T.part qq.2.1 (lS { p with wo:=p.wo-r.2 } qq.2.2))=H1 at *
 have el:fY st r={ st with ao:=if p.wo-r.2=0 then st.ao.eraseIdx ip else st.ao.set ip { p with wo:=p.wo-r.2 } }:=by
  unfold fY
  rw [<-Er,Kg nd (fun x hx=>by have:=hh.wf.Bu x hx;omega) ep]
 rw [el] at wf' q
 refine ⟨fun σ' H'=>Q .bU H',?_,fun _ _ z=>z⟩
 refine ⟨_,Z,qq.1,T.part,qq.2.1,_,_,Z,OQ,X.cP,X.Oa,Z,Z,_,Z,eF (fun c=>?_) (fun c=>?_)⟩
 . have c':p.wo-r.2=0:=V.int.inj (eE c)
   rw [aC c'] at wf' q
   have nd1:((st.ao.set ip { p with wo:=p.wo-r.2 }).map (fun x:Pt=>x.nm)).Nodup:=by
    rw [vg,show ({ p with wo:=p.wo-r.2 }:Pt).nm=p.nm from rfl,vq (by rw [bK,ep];rfl)]
    exact nd
   have ep1:(st.ao.set ip { p with wo:=p.wo-r.2 })[ip]?=some { p with wo:=p.wo-r.2 }:=tU yE
   have dk:=Kf nd1 h1.ql ep1
   rw [List.eraseIdx_set_eq] at dk
   have hv1:=wZ nd1 ep1 eq
   refine ⟨_,Z,A.a,T.hold,A.dx,_,_,Z,h1.oa,X.cH,X.hab,Z,_,Z,A.ab,_,Sum.inr r.1,Z,h1.d9,Z,?_,?_⟩
   . rw [<-Er]
     show (dZ (cY (st.ao.set ip { p with wo:=p.wo-r.2 }) A.qs) (Sum.inr p.nm)).isSome=true
     rw [show dZ (cY (st.ao.set ip { p with wo:=p.wo-r.2 }) A.qs) (Sum.inr p.nm)=_ from hv1]
     rfl
   . show Q .bU (upd H1 A.ab (.dK (nv (cY (st.ao.set ip { p with wo:=p.wo-r.2 }) A.qs) (Sum.inr r.1))))
     rw [<-Er,show nv (cY (st.ao.set ip { p with wo:=p.wo-r.2 }) A.qs) (Sum.inr p.nm)=_ from dk]
     have hi2:ip<A.qs.length:=by rw [h.ql];exact yE
     have h2:=h1.Sk g1 (st.ao.eraseIdx ip) (A.qs.eraseIdx ip) (by rw [List.length_eraseIdx_of_lt yE,List.length_eraseIdx_of_lt hi2,h.ql]) (fun j x y ex ey=>by
      rw [<-List.eraseIdx_set_eq (l:=st.ao) (i:=ip) (a:={ p with wo:=p.wo-r.2 })] at ex
      obtain ⟨k,a1,a2⟩:=Kh ex ey
      exact h1.opt k x y a1 a2)
     exact q ρ _ _ ⟨g1.wr rfl,h2,wf'⟩ rfl (F1.trans (Fr.write h1.gO))
 . have c':¬ p.wo-r.2=0:=fun e=>c (cG (by rw [e]))
   rw [aA c'] at wf' q
   exact q ρ A H1 ⟨g1,h1,wf'⟩ rfl F1
abbrev r_:Stmt:=inClass (top 24) 28
abbrev lW:List Str:=["self","kept","whole","added"]
abbrev Lf:List Str:=lW.append ["scales","common","shared","part","scale"]
theorem jb:aI Lf lW (ay r_):=dj
theorem HU {T:TC} (F:iY K T.hold "blend" "Hold.blend" r_ f fd) (X:Txt K T) (pN:Dn P w K mg base 2 "factor_of_all" lH (SG K)) (sf:Mn P w K mg base 1 T.bot "grow" nE (SH T)) (jH:mg "zip"=none):Mn P w K mg base 3 T.hold "blend" lW (Fj T K):=by
 refine F.oA jb fun cdv A outer s H vs Q E hr h=>?_
 obtain ⟨⟨n,ρ,A,st,kept,whole,la,added,rfl,hh,hla,hal,k0,w0,kz,wz,haz,hpz,hsl,wf',q⟩⟩:=h
 refine ⟨_,(@cJ.h _ _ _ (ak (xj (qz (i:=4) ["part","kept"] [none,some 1] jb.nd rfl rfl rfl (AN (aW K (qv 0))) (fun _ _ _ _=>(aN (i:=0) (show List.Nodup (["part","kept"] :List Str) from by decide +kernel))) (fun _ _ _ _=>(aD jN (aW K (qv 0)) (qv 1))) rfl (by rfl) (by rfl)))
  (ak (qz (i:=5) ["top","more","kept"] [none,none,some 1] jb.nd rfl rfl rfl (tS K (by rfl) jH (af (aW K (qv 0)) (af (qv 3) aj))) (fun _ _ _ _=>(ja K (n:=2) rfl (cU (aN (i:=0) (show List.Nodup (["top","more","kept"] :List Str) from by decide +kernel)) (cU (aN (i:=1) (show List.Nodup (["top","more","kept"] :List Str) from by decide +kernel)) i_)))) (fun _ _ _ _=>(aD bP (aD jN (qv 0) (qv 2)) (qv 1))) rfl (by rfl) (by rfl))
  (ak (aP (i:=6) jb.nd (aZ pN hr (af (qv 2) (af (aD m7 (qv 4) (qv 5)) aj))))
  (ak (xj (dO d8 rfl (tS K (by rfl) jH (af (Fw (aW K (qv 0))) (af (qv 4) aj))) (ja K (n:=2) rfl (cU (aN (i:=7) jb.nd) (cU (aN (i:=8) jb.nd) i_))) (au (eO K (qv 7) (aD gI (qv 8) (qv 6))))))
  (ak (eO K (qv 0) (fG ["top","shared"] [none,some 6] rfl (di K (qv 5)) (fun _ _ _ _=>(aN (i:=0) (show List.Nodup (["top","shared"] :List Str) from by decide +kernel))) (fun _ _ _ _=>(aD gI (qv 0) (qv 1))) rfl (by rfl)))
  (ak (eO K (qv 0) (fG ["purse","whole","shared"] [none,some 2,some 6] rfl (di K (aW K (qv 0))) (fun _ _ _ _=>(aN (i:=0) (show List.Nodup (["purse","whole","shared"] :List Str) from by decide +kernel))) (fun _ _ _ _=>(aD jN (qv 0) (aD gI (qv 1) (qv 2)))) rfl (by rfl)))
  (au (c8 (gF sf hr (aW K (qv 0)) (af (aD gI (qv 2) (qv 6)) aj))))))))))),?_⟩
 have hpl:=hh.wf.vV
 have nd:=hh.wf.pA
 have hcl:st.bM.length<=100:=by rw [hh.wf.i7];exact hh.wf.rT
 have zsc:∀p∈st.ao,Jm.Sz 8000 p.sc:=fun p hp=>Jm.Sz.m8 (by have:=hh.wf.yC p hp;have:=hh.wf.iz;omega) (hh.wf.yC p hp).2 hh.wf.big
 have zcm:∀c∈st.bM,Jm.Sz 8000 c:=fun c hc=>Jm.Sz.m8 (by have:=hh.wf.uf c hc;have:=hh.wf.iz;omega) (hh.wf.uf c hc).2 hh.wf.big
 have h:=hh.h
 refine ⟨A.ab,_,h.d9,fun ob=>?_⟩
 refine ⟨_,Z,A.a,T.hold,A.dx,_,_,Z,eZ h.d9 h.oa (fun k z=>by cases z),X.cH,X.hab,Z,A.ab,ob,_,Z,ah,fun l1 hl1=>?_⟩
 have el:=wY h.ql
 refine gC (n:=st.ao.length) 0 (fun i out H1=>aF (upd H A.ab (.fk ob (.dK (cY st.ao A.qs)))) H1/\out=((st.ao.take i).map fun p:Pt=>p.sc*kept).map V.int) (by omega) ⟨az hl1 _,Z⟩ (fun i out H1 hi _ hp=>⟨hp.1 _ _ ah,by rw [el];exact hi⟩) (fun out H1 _ hp=>⟨hp.1 _ _ ah,by rw [el];exact aO _⟩) ?_ ?_
 . rintro i x out H1 H2 hi dX ha ⟨g,e⟩ ⟨rfl,kv,hkv,rfl⟩
   have ep:=aX hi
   obtain ⟨qq,eq,k1,k2,_⟩:=h.find ep
   rw [wX ep eq] at hkv
   cases hkv
   have hq:=g _ _ (eZ h.d9 k1 (fun k z=>by cases z))
   refine ⟨_,Z,qq.1,T.part,qq.2.1,_,_,Z,hq,X.cP,X.Sl,Z,_,Z,_,_,Z,Z,i8 (zsc _ (u_ hi)) kz,ha,g.cu hl1 _,?_⟩
   subst e
   rw [take_snoc ep,bF,bF]
   rfl
 rintro o1 H1 ajp ha1 ⟨g1,e1⟩
 rw [cA] at e1
 have hz1:=g1 _ _ (ah (H:=H) (a:=A.ab) (o:= .fk ob (.dK (cY st.ao A.qs))))
 have na1:l1≠A.ab:=fun e=>by rw [e,hz1] at ha1;cases ha1
 refine ⟨hz1,?_⟩
 have s2:aF H (upd H1 A.ab (.dK (cY st.ao A.qs))):=ug h.d9 g1
 have ajq:H l1=none:=nQ h.d9 hl1
 have ha2:upd H1 A.ab (.dK (cY st.ao A.qs)) l1=some (.lst ((iG st kept).map V.int)):=by rw [av na1,ha1,e1];rfl
 generalize upd H1 A.ab (.dK (cY st.ao A.qs))=H2 at *
 clear g1 hz1 ha1 e1
 have h2:=h.mono s2
 have QK:=s2.seq hla
 refine ⟨_,Z,A.a,T.hold,A.dx,_,_,Z,h2.oa,X.cH,X.Bt,Z,_,Z,_,_,_,_,_,_,Z, .lst (aB.of h2.jQ), .lst QK,fun l2 hl2=>?_⟩
 refine y9 (K:=K) (n:=st.bM.length) [0,1] (fun i out H3=>aF H2 H3/\out=(List.zipWith (fun t m=>t*kept+m) (st.bM.take i) (added.take i)).map V.int) (by decide) (by omega) ⟨az hl2 _,Z⟩ (fun i out H3 hi _ hp=>⟨aB.of (hp.1 _ _ h2.jQ),hp.1.seq QK,by rw [aG];exact hi,by rw [aG];omega⟩)
  (fun out H3 _ hp=>⟨aB.of (hp.1 _ _ h2.jQ),hp.1.seq QK, .inl (by rw [aG];exact aO _)⟩) ?_ ?_
 . rintro i x out H3 H4 hi dX ha ⟨g,e⟩ ⟨p,x1,y1,hp,rfl,rfl,e1,e2⟩
   obtain ⟨t,rfl,et⟩:=gJ e1
   obtain ⟨c,rfl,ec⟩:=gJ e2
   have g1:=az hp (.tup [.int t, .int c])
   refine ⟨p,_,Z,cT.of ah,Z,_,Z,_,Z,_,_,Z,Z,i8 (zcm t (bV et)) kz,_,Z,_,_,Z,Z,g1 _ _ ha,(g.trans g1).cu hl2 _,?_⟩
   rw [oF _ et ec,e,bF]
   rfl
 rintro o2 H3 FN T3 ⟨g3,e3⟩
 rw [cA,<-hal,cA] at e3
 have ec3:o2=(fR st kept added).map V.int:=e3
 subst ec3
 have s3:=s2.trans g3
 have h3:=h.mono s3
 have V0:=g3 _ _ ha2
 have ajr:H l2=none:=s2.free hl2
 have n12:l1≠l2:=fun e=>by rw [e,hl2] at ha2;cases ha2
 clear e3 h2 QK g3 ha2 s2
 have lsc:(iG st kept).length=st.ao.length:=by unfold iG;rw [aG]
 have lcm:(fR st kept added).length=st.bM.length:=by unfold fR;rw [qh,hal,Nat.min_self]
 refine ⟨_,Z,_,Z,_,Z,l1,l2,_,_,Z,Z,V0,T3,by rw [aG,aG,lsc,lcm];exact fQ (Nat.add_le_add hpl hcl) (by rw [fm];decide),fun p3 hp3=>?_⟩
 rw [<-bF]
 have g4:=az hp3 (.lst ((iG st kept++fR st kept added).map V.int))
 refine ⟨⟨whole,p3,_,Z,aB.of ah,by omega,?_,?_⟩⟩
 . intro t ht
   rcases gh.mp ht with z|z
   . unfold iG at z
     obtain ⟨p,hp,rfl⟩:=cD.mp z
     exact lC (by have:=hh.wf.yC p hp;omega) (by omega)
   . obtain ⟨c,hc,m,hm,rfl⟩:=xZ (show t∈List.zipWith _ st.bM added from z)
     have a1:=lC (hh.wf.uf c hc).1 (by omega:0<=kept)
     have a2:=(haz m hm).1
     omega
 have s4:=s3.trans g4
 have h4:=h.mono s4
 have G4:=hh.g.same s4
 have F4:Fr n ρ H ρ (upd H3 p3 (.lst ((iG st kept++fR st kept added).map V.int))):=Fr.of_same s4
 have b1:=g4 _ _ V0
 have b2:=g4 _ _ T3
 generalize upd H3 p3 (.lst ((iG st kept++fR st kept added).map V.int))=H4 at *
 clear V0 T3 s3 h3 g4
 obtain ⟨sd,WV⟩:∃sd,sd=cS st kept whole added:=⟨_,rfl⟩
 rw [show pD whole (iG st kept++fR st kept added)=sd from WV.symm]
 have sp:0<sd:=by rw [WV];exact zC _ _ w0
 have S_:sd∣whole:=by rw [WV];exact (zA _ _).1
 have sz:Jm.Sz 60 sd:=wz.dvd w0 (by omega) S_
 have wq:0<whole / sd:=Int.ediv_pos_of_pos_of_dvd w0 (by omega) S_
 have wqz:Jm.Sz 60 (whole / sd):=wz.ediv sp
 have WW:∀{i:Int},AA i sd:=fun {i}=>t9 sp (sz.mono (by decide))
 refine ⟨A.ab,_,h4.d9,fun T4=>?_⟩
 refine ⟨_,Z,A.a,T.hold,A.dx,_,_,Z,eZ h4.d9 h4.oa (fun k z=>by cases z),X.cH,X.hab,Z,A.ab,_,Z, .inr ⟨T4,ah⟩,fun v hv=>?_⟩
 have nva:v≠A.ab:=fun e=>by rw [e,ah] at hv;cases hv
 have hv4:H4 v=none:=nQ h4.d9 hv
 have g5:=az hv4 (lG v A.ab)
 have hv5:upd H4 v (lG v A.ab) v=some (lG v A.ab):=ah
 rw [kj (bY nva)]
 have h5:=h4.mono g5
 have G5:=G4.same g5
 have F5:=F4.trans (Fr.of_same (ρ:=ρ) g5)
 have s5:=s4.trans g5
 have c1:=g5 _ _ b1
 have c2:=g5 _ _ b2
 generalize upd H4 v (lG v A.ab)=H5 at *
 clear h4 G4 F4 s4 b1 b2 g5
 refine ⟨_,Z,_,_,_,_,_,_,Z, .vals (eZ h5.d9 hv5 (fun k z=>by cases z)) ah, .lst (aB.of (eZ h5.d9 c1 (fun k z=>by cases z))),?_⟩
 have exl:((cY st.ao A.qs).map fun p=>p.2).length=st.ao.length:=by rw [aG];exact el
 have eyl:((iG st kept).map V.int).length=st.ao.length:=by rw [aG];exact lsc
 refine uc (n:=st.ao.length) (fun i σ H'=>(∃s7 s8,σ=[some (.ref A.a),some (.int kept),some (.int whole),some (.ref la),some (.ref l1),some (.ref l2),some (.int sd),s7,s8])/\∃H6,H'=upd H6 A.ab (.fk T4 (.dK (cY st.ao A.qs)))/\Gh ρ H6/\Fr n ρ H ρ H6/\aV T n ρ A H6 { st with ao:=(st.ao.take i).map (fun p=>{ p with sc:=p.sc*kept / sd })++st.ao.drop i }/\H6 l1=some (.lst ((iG st kept).map V.int))/\H6 l2=some (.lst ((fR st kept added).map V.int))/\(∀b,H6 b=none->H b=none))
  ⟨⟨_,_,Z⟩,H5,Z,G5,F5,h5,c1,c2,fun b e=>s5.free e⟩ ?_ ?_ ?_ ?_
 . rintro i σ H' hi ⟨_,H6,rfl,G6,F6,h6,d1,d2,fr⟩
   have e6:cY ({ st with ao:=(st.ao.take i).map (fun p:Pt=>{ p with sc:=p.sc*kept / sd })++st.ao.drop i }:HS).ao A.qs=cY st.ao A.qs:=oG (qp (fun p:Pt=>{ p with sc:=p.sc*kept / sd }) (fun p:Pt=>p.nm) (fun _=>rfl) st.ao i)
   have qH:=h6.d9
   rw [e6] at qH
   exact ⟨ah,aB.of (eZ qH d1 (fun k z=>by cases z)),by rw [exl];exact hi,by rw [eyl];exact hi⟩
 . rintro σ H' ⟨_,H6,rfl,G6,F6,h6,d1,d2,fr⟩
   have e6:cY ({ st with ao:=(st.ao.take st.ao.length).map (fun p:Pt=>{ p with sc:=p.sc*kept / sd })++st.ao.drop st.ao.length }:HS).ao A.qs=cY st.ao A.qs:=oG (qp (fun p:Pt=>{ p with sc:=p.sc*kept / sd }) (fun p:Pt=>p.nm) (fun _=>rfl) st.ao _)
   have qH:=h6.d9
   rw [e6] at qH
   exact ⟨ah,aB.of (eZ qH d1 (fun k z=>by cases z)), .inl (by rw [exl];exact aO _)⟩
 . rintro i x σ H' DQ hi ⟨⟨s7,s8,rfl⟩,H6,rfl,G6,F6,h6,d1,d2,fr⟩ ⟨pp,x1,y1,hpp,rfl,rfl,ex,ey⟩
   have ep:=aX hi
   have ep6:=J_ (fun p:Pt=>{ p with sc:=p.sc*kept / sd }) ep
   obtain ⟨qq,eq,k1,k2,k3,k4⟩:=h6.find ep6
   have nm6:=qp (fun p:Pt=>{ p with sc:=p.sc*kept / sd }) (fun p:Pt=>p.nm) (fun _=>rfl) st.ao i
   have e6:cY ({ st with ao:=(st.ao.take i).map (fun p:Pt=>{ p with sc:=p.sc*kept / sd })++st.ao.drop i }:HS).ao A.qs=cY st.ao A.qs:=oG nm6
   have qH:=h6.d9
   rw [e6] at qH
   rw [bK,wX ep eq] at ex
   cases ex
   obtain ⟨sc,rfl,esc⟩:=gJ ey
   have agB:sc=(st.ao[i]).sc*kept:=by
    unfold iG at esc
    rw [bK,ep] at esc
    exact (iy esc).symm
   subst agB
   have npa:pp≠A.ab:=fun e=>by rw [e,ah] at hpp;cases hpp
   have agC:H6 pp=none:=nQ qH hpp
   have g7:=az agC (.tup [.ref qq.1, .int ((st.ao[i]).sc*kept)])
   rw [kj (bY npa)]
   have Le:upd H6 pp (.tup [.ref qq.1, .int ((st.ao[i]).sc*kept)]) pp=some (.tup [.ref qq.1, .int ((st.ao[i]).sc*kept)]):=ah
   have h7:=h6.mono g7
   have G7:=G6.same g7
   have F7:=F6.trans (Fr.of_same (ρ:=ρ) g7)
   have V1:=g7 _ _ qH
   have f1:=g7 _ _ d1
   have f2:=g7 _ _ d2
   have R3:∀b,upd H6 pp (.tup [.ref qq.1, .int ((st.ao[i]).sc*kept)]) b=none->H b=none:=fun b e=>fr b (g7.free e)
   have OQ:=g7 _ _ k1
   generalize upd H6 pp (.tup [.ref qq.1, .int ((st.ao[i]).sc*kept)])=H7 at *
   refine ⟨pp,_,Z,cT.of (eZ V1 Le (fun k z=>by cases z)),Z,_,_,Z,_,_,Z,Z,?_⟩
   refine ⟨_,Z,_,Z,_,_,Z,Z,WW,_,Z,qq.1,T.part,qq.2.1,_,Z,eZ V1 OQ (fun k z=>by cases z),X.cP,X.Sl,by show 6<1000;decide,?_⟩
   have nd7:(((st.ao.take i).map (fun p:Pt=>{ p with sc:=p.sc*kept / sd })++st.ao.drop i).map (fun p:Pt=>p.nm)).Nodup:=by rw [nm6];exact nd
   have h8:=h7.y_ (p1:={ st.ao[i] with sc:=(st.ao[i]).sc*kept / sd }) G7 ep6 eq rfl rfl nd7
   rw [show ({ st with ao:=(st.ao.take i).map (fun p:Pt=>{ p with sc:=p.sc*kept / sd })++st.ao.drop i }:HS).ao.set i { st.ao[i] with sc:=(st.ao[i]).sc*kept / sd }=_ from Ka (fun p:Pt=>{ p with sc:=p.sc*kept / sd }) ep] at h8
   have nqa:A.ab≠qq.1:=(iT OQ V1 (by intro z;cases z)).symm
   have nq1:l1≠qq.1:=iT f1 OQ (by intro z;cases z)
   have nq2:l2≠qq.1:=iT f2 OQ (by intro z;cases z)
   refine ⟨⟨_,_,Z⟩,_,kj nqa,G7.wr rfl,F7.trans (Fr.write k3),h8,by rw [av nq1];exact f1,by rw [av nq2];exact f2,fun b e=>R3 b ?_⟩
   by_cases z:b=qq.1
   . rw [z,ah] at e;cases e
   . rw [av z] at e;exact e
 rintro σ H' ⟨⟨s7,s8,rfl⟩,H6,rfl,G6,F6,h6,d1,d2,fr⟩
 have e6:cY ({ st with ao:=(st.ao.take st.ao.length).map (fun p:Pt=>{ p with sc:=p.sc*kept / sd })++st.ao.drop st.ao.length }:HS).ao A.qs=cY st.ao A.qs:=oG (qp (fun p:Pt=>{ p with sc:=p.sc*kept / sd }) (fun p:Pt=>p.nm) (fun _=>rfl) st.ao _)
 have qH:=h6.d9
 rw [e6] at qH
 refine ⟨ah,?_⟩
 rw [tQ,x8 qH]
 rw [show ({ st with ao:=(st.ao.take st.ao.length).map (fun p:Pt=>{ p with sc:=p.sc*kept / sd })++st.ao.drop st.ao.length }:HS)={ st with ao:=st.ao.map fun p:Pt=>{ p with sc:=p.sc*kept / sd } } from by rw [cA,CZ,tE]] at h6
 clear e6 qH h5 G5 F5 s5 c1 c2 hv5
 refine ⟨_,Z,l2,Z,⟨_,aB.of d2⟩,fun l3 hl3=>?_⟩
 refine gC (J:=rF K l2) (n:=((fR st kept added).map V.int).length) 0 (fun i o H'=>aF H6 H'/\o=(((fR st kept added).take i).map (· / sd)).map V.int) (by rw [aG];omega) ⟨az hl3 _,Z⟩ (fun i o H' hi _ hp=>⟨_,_,aB.of (hp.1 _ _ d2),aX hi⟩) (fun o H' _ hp=>⟨_,aB.of (hp.1 _ _ d2),aO _⟩) ?_ ?_
 . rintro i y o Ha Hb hi dX ha ⟨g,e⟩ ⟨rfl,hy⟩
   obtain ⟨c,rfl,ec⟩:=gJ (hy _ (aB.of (g _ _ d2)))
   refine ⟨_,Z,_,Z,_,_,Z,Z,WW,ha,g.cu hl3 _,?_⟩
   subst e
   rw [take_snoc ec,bF,bF]
   rfl
 rintro o3 H8 ajs Lg ⟨g8,e8⟩
 rw [aG,cA] at e8
 subst e8
 have h8:=h6.mono g8
 have G8:=G6.same g8
 have F8:=F6.trans (Fr.of_same (ρ:=ρ) g8)
 have fr8:∀b,H8 b=none->H b=none:=fun b e=>fr b (g8.free e)
 have c3:ρ l3=none:=G6.none hl3
 have n3:H l3=none:=fr l3 hl3
 refine ⟨_,Z,A.a,T.hold,A.dx,_,Z,h8.oa,X.cH,X.Bt,by show 7<1000;decide,?_⟩
 obtain ⟨h9,G9⟩:=GV (t:=6) h8 G8 c3 Lg rfl
 have F9:Fr n ρ H (cN ρ l3 (n,6,⟨#[]⟩)) H8:=F8.ya n3
 have BJ:=h9.aap G9 l3 _ Lg dN
 have G10:=G9.wr (a:=A.a) (o:= .ins T.hold A.dx (mT { A with cm:=l3 })) rfl
 have F10:=F9.trans (Fr.write (o:= .ins T.hold A.dx (mT { A with cm:=l3 })) h9.ca)
 show B7 _ _ _ _ (upd H8 A.a (.ins T.hold A.dx (mT { A with cm:=l3 })))
 have agD:∀b,upd H8 A.a (.ins T.hold A.dx (mT { A with cm:=l3 })) b=none->H b=none:=fun b e=>fr8 b (by
  by_cases z:b=A.a
  . rw [z,ah] at e;cases e
  . rw [av z] at e;exact e)
 generalize upd H8 A.a (.ins T.hold A.dx (mT { A with cm:=l3 }))=JQ at *
 clear h6 G6 F6 h8 G8 F8 h9 G9 F9 Lg g8 fr8 fr d1 d2
 refine ⟨_,Z,A.a,T.hold,A.dx,_,_,Z,BJ.oa,X.cH,X.J0,Z,A.pu,Z,⟨_,aB.of BJ.qg⟩,fun l4 Hv=>?_⟩
 have ajt:st.cX.length<=100:=by rw [hh.wf.zf];exact hh.wf.rT
 refine gC (J:=rF K A.pu) (n:=(st.cX.map V.int).length) 0 (fun i o H'=>aF JQ H'/\o=((st.cX.take i).map (·*(whole / sd))).map V.int) (by rw [aG];omega) ⟨az Hv _,Z⟩ (fun i o H' hi _ hp=>⟨_,_,aB.of (hp.1 _ _ BJ.qg),aX hi⟩) (fun o H' _ hp=>⟨_,aB.of (hp.1 _ _ BJ.qg),aO _⟩) ?_ ?_
 . rintro i y o Ha Hb hi dX ha ⟨g,e⟩ ⟨rfl,hy⟩
   obtain ⟨c,rfl,ec⟩:=gJ (hy _ (aB.of (g _ _ BJ.qg)))
   refine ⟨_,Z,_,Z,_,Z,_,_,Z,Z,WW,_,_,Z,Z,i8 (hpz c (bV ec)) wqz,ha,g.cu Hv _,?_⟩
   subst e
   rw [take_snoc ec,bF,bF]
   rfl
 rintro o4 H11 aju abD ⟨g11,e11⟩
 rw [aG,cA] at e11
 subst e11
 have h11:=BJ.mono g11
 have G11:=G10.same g11
 have F11:=F10.trans (Fr.of_same (ρ:=cN ρ l3 (n,6,⟨#[]⟩)) g11)
 have c4:cN ρ l3 (n,6,⟨#[]⟩) l4=none:=G10.none Hv
 have n4:H l4=none:=agD l4 Hv
 refine ⟨_,Z,A.a,T.hold,A.dx,_,Z,h11.oa,X.cH,X.J0,by show 7<1000;decide,?_⟩
 obtain ⟨h12,G12⟩:=GV (t:=7) h11 G11 c4 abD rfl
 have F12:Fr n ρ H (cN (cN ρ l3 (n,6,⟨#[]⟩)) l4 (n,7,⟨#[]⟩)) H11:=F11.ya n4
 have Hw:=h12.aaq G12 l4 _ abD dN
 have G13:=G12.wr (a:=A.a) (o:= .ins T.hold A.dx (mT { { A with cm:=l3 } with pu:=l4 })) rfl
 have F13:=F12.trans (Fr.write (o:= .ins T.hold A.dx (mT { { A with cm:=l3 } with pu:=l4 })) h12.ca)
 rw [show aU "purses" (V.ref l4) (mT { A with cm:=l3 })=mT { { A with cm:=l3 } with pu:=l4 } from rfl]
 generalize upd H11 A.a (.ins T.hold A.dx (mT { { A with cm:=l3 } with pu:=l4 }))=H13 at *
 refine ⟨_,Z,A.a,T.hold,A.dx,_,_,Z,Hw.oa,X.cH,X.Bs,Z,A.bt,A.db,_,Z,Hw.m_,Z,_,Z,_,Z,_,_,Z,Z,WW,?_⟩
 refine ⟨⟨n,_,{ { A with cm:=l3 } with pu:=l4 },{ st with ao:=st.ao.map (fun p:Pt=>{ p with sc:=p.sc*kept / sd }),bM:=(fR st kept added).map (· / sd),cX:=st.cX.map (·*(whole / sd)) },whole / sd,Z,G13,Hw,by show st.stp.length<=1000;omega,hh.wf.big.mono (by decide),wqz.mono (by decide),fun ρ' A' H' a1 a2 a3 a4=>?_⟩⟩
 have eb:cy st kept whole added=fE { st with ao:=st.ao.map (fun p:Pt=>{ p with sc:=p.sc*kept / sd }),bM:=(fR st kept added).map (· / sd),cX:=st.cX.map (·*(whole / sd)) } (whole / sd):=by
  unfold cy
  rw [WV]
 rw [eb] at wf' q
 exact q ρ' A' H' ⟨a1,a2,wf'⟩ a3 (F13.trans a4)
abbrev uI:Stmt:=inClass (top 24) 3
abbrev qZ:List Str:=["self","rows"]
abbrev MK:List Str:=qZ.append ["amounts","name","amount","whole","lost"]
theorem gY:aI MK qZ (ay uI):=dj
theorem Lh {T:TC} (F:iY K T.hold "cast" "Hold.cast" uI f fd) (X:Txt K T) (uJ:Dn P w K mg base 1 "amounts_of" pI (SE K)) (uK:Dn P w K mg base 2 "check_loss" pH WE) (iH:Mn P w K mg base 1 T.hold "part_of" j0 (Ci T)) (gq:Mn P w K mg base 1 T.hold "whole" j5 (AK T)) (j7:Mn P w K mg base 3 T.hold "blend" lW (Fj T K)) (pO:Mn P w K mg base 1 T.hold "given_up" lJ (Ot T)) (sj:Mn P w K mg base 1 T.hold "lessen" nG (SI T)) (d_:mg "sum"=none):Mn P w K mg base 4 T.hold "cast" qZ (SJ T K):=by
 refine F.oA gY fun cdv A outer s H vs Q E hr h=>?_
 obtain ⟨⟨n,ρ,A,st,l,us,rs,rfl,hh,hl,hR,ok,q⟩⟩:=h
 have wf:=hh.wf
 have nd:=ok.nd
 refine ⟨_,(@cJ.h _ _ _ (ak (aP (i:=2) gY.nd (aZ uJ hr (af (qv 1) aj)))
  (ak (xj (dO d8 rfl (Cy (qv 2)) (ja K (n:=2) rfl (cU (aN (i:=3) gY.nd) (cU (aN (i:=4) gY.nd) i_))) (au (c8 (aZ uK hr (af (aW K (gF iH hr (qv 0) (af (qv 3) aj))) (af (qv 4) aj)))))))
  (ak (aP (i:=5) gY.nd (tT gq hr (qv 0)))
  (ak (aP (i:=6) gY.nd (aE (GO rfl) (by rfl) d_ tW (af (Fw (qv 2)) aj)))
  (ak (cK (aY Dh (qv 6) (qv 5) (br _)) (au jB) aT)
  (ak (c8 (gF j7 hr (qv 0) (af (aD jL (qv 5) (qv 6)) (af (qv 5) (af (gF pO hr (qv 0) (af (qv 2) aj)) aj)))))
  (au (xj (dO d8 rfl (Cy (qv 2)) (ja K (n:=2) rfl (cU (aN (i:=3) gY.nd) (cU (aN (i:=4) gY.nd) i_))) (au (c8 (gF sj hr (qv 0) (af (qv 3) (af (qv 4) aj))))))))))))))),?_⟩
 refine ⟨_,Z,⟨⟨l,us,rs,Z,hl,hR,nd,ok.ne,ok.len,fun d H1 g1 hdn hd1=>?_⟩⟩⟩
 have fX:=hh.mono g1
 have F1:Fr n ρ H ρ H1:=Fr.of_same g1
 have cd:ρ d=none:=hh.g.none hdn
 have al:=x_ rs
 refine ⟨d,_,hd1,fun ob=>⟨_,Z,d,ob,_,Z,ah,?_⟩⟩
 refine uc (n:=(gW rs).length) (fun i σ H'=>aF (upd H1 d (.fk ob (.dK (gW rs)))) H'/\∃s3 s4 s5 s6,σ=[some (.ref A.a),some (.ref l),some (.ref d),s3,s4,s5,s6])
  ⟨aF.refl _,_,_,_,_,Z⟩ (fun i σ H' hi hp=>⟨hp.1 _ _ ah,hi⟩) (fun σ H' hp=>⟨hp.1 _ _ ah,aO _⟩) ?_ ?_
 . rintro i x σ H3 H4 hi ⟨g,s3,s4,s5,s6,rfl⟩ ⟨pp,kv,hpp,hkv,rfl,rfl⟩
   unfold gW at hkv
   rw [bK] at hkv
   obtain ⟨r,er,rfl⟩:=lP.mp hkv
   have hrm:=bV er
   obtain ⟨r1,zr,p,lV,Er,hle⟩:=ok.row r hrm
   obtain ⟨ip,yE,TY⟩:=tX lV
   have ep:st.ao[ip]?=some p:=by rw [aX yE,TY]
   have g4:=az hpp (.tup [.str r.1, .int r.2])
   have gg:=g.trans g4
   have hf:HH T n ρ A (upd H1 d (.fk ob (.dK (gW rs)))) st:=fX.DP cd hd1 rfl rfl
   have h4:=hf.mono gg
   have Le:upd H3 pp (.tup [.str r.1, .int r.2]) pp=some (.tup [.str r.1, .int r.2]):=ah
   show B8 K 2 _ _ _ (upd H3 pp (.tup [.str r.1, .int r.2])) _
   generalize upd H3 pp (.tup [.str r.1, .int r.2])=H4 at *
   obtain ⟨qq,eq,k1,k2,_,_⟩:=h4.h.find ep
   refine ⟨pp,_,Z,cT.of Le,Z,_,_,Z,_,_,Z,Z,?_⟩
   refine ⟨_,Z,A.a,A.dx,_,Z,h4.h.oa,Z,_,Z,⟨⟨n,ρ,A,st,ip,p,qq,by rw [<-Er];rfl,h4.h,wf.pA,ep,eq,?_⟩⟩⟩
   refine ⟨qq.1,T.part,qq.2.1,_,_,Z,k1,X.cP,X.Oa,Z,_,Z,⟨⟨p.wo,r.2,Z,r1,hle,?_⟩⟩⟩
   exact ⟨gg,_,_,_,_,Z⟩
 rintro σ H2 ⟨g2,s3,s4,s5,s6,rfl⟩
 refine ⟨g2 _ _ ah,?_⟩
 have gB:=ug hd1 g2
 have iO:=fX.mono gB
 have F2:Fr n ρ H ρ (upd H2 d (.dK (gW rs))):=F1.trans (Fr.of_same gB)
 have hd2:upd H2 d (.dK (gW rs)) d=some (.dK (gW rs)):=ah
 generalize upd H2 d (.dK (gW rs))=H2' at *
 refine ⟨_,Z,A.a,A.dx,_,Z,iO.h.oa,Z,⟨⟨n,ρ,A,st,Z,iO.h,wf.vV,fun H3 g3=>?_⟩⟩⟩
 have lI:=iO.mono g3
 have OR:=g3 _ _ hd2
 have F3:=F2.trans (Fr.of_same (ρ:=ρ) g3)
 refine ⟨_,Z,d,_,Z, .inl OR,fun v hv=>⟨v,d,_,rs.map (·.2),Z,ah, .inl (by rw [av (aH OR hv)];exact OR),by unfold gW;rw [iS,iS];rfl,?_⟩⟩
 have g4:=az hv (lG v d)
 have kN:=lI.mono g4
 have hd4:=g4 _ _ OR
 have F4:=F3.trans (Fr.of_same (ρ:=ρ) g4)
 generalize upd H3 v (lG v d)=H4 at *
 have bo:=ok.blend wf
 refine ⟨_,Z,_,Z,_,_,Z,Z,_,Z,eF (fun c=>absurd (eE c) (by have:=ok.lost;show ¬ aS st<=bD rs;omega)) fun _=>?_⟩
 refine ⟨_,Z,A.a,A.dx,_,Z,kN.h.oa,Z,_,Z,_,Z,_,_,Z,Z,_,Z,_,Z,A.a,A.dx,_,Z,kN.h.oa,Z,_,Z,⟨⟨n,ρ,A,st,d,rs,Z,kN.h,wf,hd4,cd,ok.len,fun r hr=>⟨(ok.row r hr).2.1,by obtain ⟨p,hp,e,_⟩:=(ok.row r hr).2.2;exact ⟨p,hp,e⟩⟩,fun l5 H5 g5 hn5 hl5=>?_⟩⟩⟩
 have s_:=kN.mono g5
 have hd5:=g5 _ _ hd4
 have F5:=F4.trans (Fr.of_same (ρ:=ρ) g5)
 have zk:Jm.Sz 60 (aS st-bD rs):=bo.big.of_le (by have:=bo.k;have:=bo.l;omega)
 have zG:∀m∈fV st rs,0<=m/\Jm.Sz 8900 m:=fun m hm=>by
  have h1:=bo.add m hm
  have h2:=wf.iz
  have zl:Jm.Sz 60 (bD rs):=bo.big.of_le (by have:=bo.k;have:=bo.l;omega)
  exact ⟨h1.1,Jm.Sz.m8 (by have:=lC bo.l (show 0<=st.prod by omega);omega) h1.2 ((zl.mul bo.prod).mono (by decide))⟩
 refine ⟨⟨n,ρ,A,st,aS st-bD rs,aS st,l5,fV st rs,Z,s_,aB.of hl5,bo.len,bo.k,by have:=bo.k;have:=bo.l;omega,zk,bo.big,zG,ok.cX,ok.stp,Kl wf bo,fun ρ6 A6 H6 BQ e6 f6=>?_⟩⟩
 obtain ⟨hd6,cd6⟩:=f6 d _ hd5 (fun t x=>by rw [cd];intro z;cases z)
 rw [cd] at cd6
 have F6:=F5.trans f6
 refine ⟨d,_,hd6,fun T4=>⟨_,Z,d,T4,_,Z,ah,?_⟩⟩
 generalize eB:cy st (aS st-bD rs) (aS st) (fV st rs)=OS at *
 have agE:Due OS rs:=by rw [<-eB];exact SS ok.due
 have adC:kq st rs=rs.foldl fY OS:=by unfold kq;rw [eB]
 refine uc (n:=(gW rs).length) (fun i σ H'=>∃ρ' A',HH T n ρ' A' H' ((rs.take i).foldl fY OS)/\A'.a=A.a/\H' d=some (.fk T4 (.dK (gW rs)))/\ρ' d=none/\Fr n ρ H ρ' H'/\Due ((rs.take i).foldl fY OS) (rs.drop i)/\∃s3 s4 s5 s6,σ=[some (.ref A.a),some (.ref l),some (.ref d),s3,s4,s5,s6])
  ⟨ρ6,A6,BQ.DP cd6 hd6 rfl rfl,e6,ah,cd6,F6.new hdn,agE,_,_,_,_,Z⟩ (fun i σ H' hi hp=>by obtain ⟨_,_,_,_,e,_⟩:=hp;exact ⟨e,hi⟩) (fun σ H' hp=>by obtain ⟨_,_,_,_,e,_⟩:=hp;exact ⟨e,aO _⟩) ?_ ?_
 . rintro i x σ H7 H8 hi ⟨ρ7,A7,OT,e7,WX,WY,F7,due,s3,s4,s5,s6,rfl⟩ ⟨pp,kv,hpp,hkv,rfl,rfl⟩
   unfold gW at hkv
   rw [bK] at hkv
   obtain ⟨r,er,rfl⟩:=lP.mp hkv
   have hir:i<rs.length:=by rw [<-al];exact hi
   have edr:rs.drop i=r::rs.drop (i+1):=by
    rw [O5 hir]
    rw [aX hir] at er
    rw [iy er]
   rw [edr] at due
   have g4:=az hpp (.tup [.str r.1, .int r.2])
   have hh8:=OT.mono g4
   have hd8:=g4 _ _ WX
   have F8:=F7.trans (Fr.of_same (ρ:=ρ7) g4)
   have Le:upd H7 pp (.tup [.str r.1, .int r.2]) pp=some (.tup [.str r.1, .int r.2]):=ah
   show B8 K 2 _ _ _ (upd H7 pp (.tup [.str r.1, .int r.2])) _
   generalize upd H7 pp (.tup [.str r.1, .int r.2])=H8 at *
   refine ⟨pp,_,Z,cT.of Le,Z,_,_,Z,_,_,Z,Z,?_⟩
   have eN:(rs.take (i+1)).foldl fY OS=fY ((rs.take i).foldl fY OS) r:=by rw [take_snoc er,Jp];rfl
   have ndr:((r::rs.drop (i+1)).map (fun r:Row=>r.1)).Nodup:=by rw [<-edr,List.map_drop];exact nd.sublist (List.drop_sublist _ _)
   refine ⟨_,Z,A.a,A7.dx,_,Z,by rw [<-e7];exact hh8.h.oa,Z,_,Z,_,Z,⟨⟨n,ρ7,A7,_,r,by rw [e7];rfl,hh8,due r cO,aaH OT.wf due,fun ρ9 A9 H9 hh9 e9 f9=>?_⟩⟩⟩
   obtain ⟨hd9,cd9⟩:=f9 d _ hd8 (fun t x=>by rw [WY];intro z;cases z)
   rw [WY] at cd9
   rw [<-eN] at hh9
   exact ⟨ρ9,A9,hh9,e9.trans e7,hd9,cd9,F8.trans f9,by rw [eN];exact Vt OT.wf due ndr,_,_,_,_,Z⟩
 rintro σ H7 ⟨ρ7,A7,OT,e7,WX,WY,F7,due,s3,s4,s5,s6,rfl⟩
 rw [al,cA,<-adC] at OT
 exact ⟨WX,q ρ7 A7 _ (OT.DP WY WX rfl rfl) e7 (F7.new hdn)⟩
abbrev qI:Stmt:=inClass (top 4) 2
abbrev nH:List Str:=["self","top"]
abbrev HV:List Str:=nH.append ["rest","step","shared"]
theorem iI:aI HV nH (ay qI):=dj
theorem FP {T:TC} (F:iY K T.bot "over" "Bottom.over" qI f fd) (X:Txt K T) (ia:Dn P w K mg base 1 "common_factor" jl U6):Mn P w K mg base 2 T.bot "over" nH (Oj T):=by
 refine F.oA iI fun cdv A outer s H vs Q E hr h=>?_
 obtain ⟨⟨bt,db,sp,kn,stp,prod,top,rfl,hb,hs,ep,h2,hz,q⟩⟩:=h
 refine ⟨_,(@cJ.h _ _ _ (ak (aP (i:=2) iI.nd (aW K (qv 0)))
  (ak (dO d8 rfl (di K (aW K (qv 0))) (aN (i:=3) iI.nd) (ak (aP (i:=4) iI.nd (aZ ia hr (af (qv 3) (af (aD jM (qv 1) (qv 3)) aj))))
  (au (gX (aY jE (qv 4) ai (br _)) (ak (aP (i:=1) iI.nd (aD gI (qv 1) (qv 4)))
  (au (aP (i:=2) iI.nd (aD gI (qv 2) (qv 4))))) aT))))
  (au (aR (jk (af (qv 1) (af (qv 2) aj)))))))),?_⟩
 have p1:1<=prod:=by rw [ep];exact Kd h2
 refine ⟨_,Z,bt,T.bot,db,_,_,Z,hb,X.cB,X.Sm,Z,?_⟩
 refine ⟨_,Z,bt,T.bot,db,_,_,Z,hb,X.cB,X.bst,Z,sp,Z,⟨_,aB.of hs⟩,?_⟩
 refine lQ (K:=K) (xs:=stp.map V.int) (fun i σ H'=>H'=H/\∃(t r d:Int) (s3 s4:Option V),σ=[some (.ref bt),some (.int t),some (.int r),s3,s4]/\t*prod=top*r/\r=d*(stp.drop i).foldl (·*·) 1/\0<d/\Jm.cf t d=1)
  ⟨Z,top,prod,1,none,none,Z,Z,by rw [List.drop_zero,Int.one_mul];exact ep,by decide,by unfold Jm.cf;rw [Int.gcd_one];rfl⟩ (fun i σ H' _ hp=>by rw [hp.1];exact aB.of hs) ?_ ?_
 . rintro i x σ H' hx ⟨rfl,t,r,d,s3,s4,rfl,e1,e2,d0,c⟩
   obtain ⟨st,rfl,es⟩:=gJ hx
   have hm:=bV es
   have s2:=h2 st hm
   have hi:=(eU.mp es).1
   have hdr:stp.drop i=st::stp.drop (i+1):=by
    rw [O5 hi]
    congr 1
    rw [aX hi] at es
    exact iy es
   rw [hdr,Fi] at e2
   have r0:0<=t % st:=nt _ (by omega)
   refine ⟨_,Z,_,Z,_,Z,_,_,Z,Z,(by show 0<st;omega),st,t % st,Z,by omega,r0,?_⟩
   rw [Jm.E5 t st (by omega)]
   obtain ⟨o1,o2⟩:=Sx d0 (by omega:0<st) c
   have gp:0<Jm.cf t st:=Jm.Dv t st (.inr (by omega))
   have gz:Jm.Sz 9000 (Jm.cf t st):=((hz.of_le (by have:=WC h2 hm;rw [<-ep] at this;omega)).dvd (by omega:0<st) (by omega) (Jm.o6 t st)).mono (by decide)
   obtain ⟨u,hu⟩:=Jm.qS t st
   obtain ⟨v,hv⟩:=Jm.o6 t st
   have e3:t / Jm.cf t st*prod=top*(r / Jm.cf t st):=by
    have a1:t / Jm.cf t st=u:=by rw [V9 (by omega) hu]
    have a2:r=Jm.cf t st*(d*v*(stp.drop (i+1)).foldl (·*·) 1):=by
     rw [e2]
     conv=>lhs;rw [hv]
     rw [iR (Jm.cf t st),Int.mul_left_comm,iR d]
    have a3:r / Jm.cf t st=d*v*(stp.drop (i+1)).foldl (·*·) 1:=by rw [V9 (by omega) a2]
    rw [a1,a3]
    have By:Jm.cf t st*(u*prod)=Jm.cf t st*(top*(d*v*(stp.drop (i+1)).foldl (·*·) 1)):=by
     rw [<-iR,<-hu,e1]
     conv=>lhs;rw [a2]
     rw [Int.mul_left_comm]
    exact Int.eq_of_mul_eq_mul_left (by omega) By
   have e4:r / Jm.cf t st=d*(st / Jm.cf t st)*(stp.drop (i+1)).foldl (·*·) 1:=by
    have a4:st / Jm.cf t st=v:=by rw [V9 (by omega) hv]
    have a2:r=Jm.cf t st*(d*v*(stp.drop (i+1)).foldl (·*·) 1):=by
     rw [e2]
     conv=>lhs;rw [hv]
     rw [iR (Jm.cf t st),Int.mul_left_comm,iR d]
    rw [a4,V9 (by omega) a2]
   refine ⟨fun σ' H2=>H2=H'/\σ'=[some (.ref bt),some (.int (t / Jm.cf t st)),some (.int (r / Jm.cf t st)),some (.int st),some (.int (Jm.cf t st))],?_,?_⟩
   . refine ⟨_,Z,_,_,Z,Z,_,Z,eF (fun c=>?_) (fun c=>?_)⟩
     . exact ⟨_,Z,_,Z,_,_,Z,Z,t9 gp gz,_,Z,_,Z,_,_,Z,Z,t9 gp gz,Z,Z⟩
     . have c':¬ 1<Jm.cf t st:=oN (mQ.mpr c)
       have g1:Jm.cf t st=1:=by omega
       refine ⟨Z,?_⟩
       rw [g1,As,As]
       rfl
   rintro σ' H2 ⟨rfl,rfl⟩
   exact ⟨Z,_,_,_,_,_,Z,e3,e4,o2,o1⟩
 rintro σ H' ⟨rfl,t,r,d,s3,s4,rfl,e1,e2,d0,c⟩
 rw [List.drop_of_length_le (by rw [aG];exact aO _),List.foldl_nil,Int.mul_one] at e2
 subst e2
 refine ⟨_,Z,_,Z,(iE 2),fun p hp=>?_⟩
 refine q p _ (az hp _) ?_
 rw [ah]
 obtain ⟨a1,a2⟩:=Jm.RX d0 c
 have:Jm.fr top prod=Jm.fr t r:=Jm.Wn (by omega) d0 e1.symm
 unfold o7
 rw [this,a1,a2]
abbrev pP:Stmt:=inClass (top 4) 3
abbrev mL:List Str:=["self","top"]
abbrev FQ:List Str:=mL
theorem Es:aI FQ mL (ay pP):=dj
theorem Et {T:TC} (F:iY K T.bot "share" "Bottom.share" pP f fd) (X:Txt K T) (sr:Mn P w K mg base 2 T.bot "over" nH (Oj T)):Mn P w K mg base 3 T.bot "share" mL (J7 T):=by
 refine F.oA Es fun cdv A outer s H vs Q E hr h=>?_
 obtain ⟨⟨bt,db,sp,kn,stp,prod,top,kvs,rfl,hb,hs,ep,h2,hz,hk,kat,kl,knd,q⟩⟩:=h
 refine ⟨_,(@cJ.h _ _ _ (ak (gX (xg (zO (bZ hr) (qv 1) (aW K (qv 0)))) (au (qB (bZ hr) (aW K (qv 0)) (qv 1) (gF sr hr (qv 0) (af (qv 1) aj)) rfl)) aT)
  (au (aR (bR (bZ hr) (aW K (qv 0)) (qv 1)))))),?_⟩
 refine ⟨fun σ' H'=>σ'=[some (.ref bt),some (.int top)]/\(∀b o,H b=some o->b≠kn->H' b=some o)/\∃kvs' r,H' kn=some (.dK kvs')/\JZ H' kvs' prod/\kvs'.length<=kvs.length+1/\(kvs'.map (·.1)).Nodup/\dZ kvs' (Sum.inl top)=some (.ref r)/\H' r=some (o7 (Jm.fr top prod)),?_,?_⟩
 . refine ⟨_,Z,_,Z,bt,T.bot,db,_,_,Z,hb,X.cB,X.Sn,Z,kn,_,Z,cV.k (k:=Sum.inl top) hk,_,Z,?_⟩
   cases e:dZ kvs (Sum.inl top) with
   | some v=>
     refine cW ⟨Z,fun b o e _=>e,kvs,?_⟩
     obtain ⟨t,r,e2,hr2⟩:=kat _ (Vo e)
     cases e2
     exact ⟨r,hk,kat,Nat.le_succ _,knd,e,hr2⟩
   | none=>
     refine rO ?_
     refine ⟨_,Z,bt,db,_,Z,hb,Z,_,Z,⟨⟨bt,db,sp,kn,stp,prod,top,Z,hb,hs,ep,h2,hz,fun r H1 g1 hr1=>?_⟩⟩⟩
     have sl:kvs.length<sizeLine:=by rw [fm];omega
     refine ⟨_,Z,bt,T.bot,db,_,_,Z,g1 _ _ hb,X.cB,X.Sn,Z,_,Z,kn,_,Z,t8.k (k:=Sum.inl top) (g1 _ _ hk) sl,Z,fun b o e hb=>by rw [av hb];exact g1 _ _ e,_,r,ah,?_,?_,XG _ knd e,by rw [US,aC rfl],by rw [av (iT hr1 (g1 _ _ hk) (by intro z;cases z))];exact hr1⟩
     . rw [nP _ e]
       intro p hp
       rcases gh.mp hp with z|z
       . obtain ⟨t,r',e2,hr2⟩:=kat p z
         exact ⟨t,r',e2,by rw [av (iT (g1 _ _ hr2) (g1 _ _ hk) (by intro z;cases z))];exact g1 _ _ hr2⟩
       . rw [fZ.mp z]
         exact ⟨top,r,Z,by rw [av (iT hr1 (g1 _ _ hk) (by intro z;cases z))];exact hr1⟩
     . rw [nP _ e,dg]
       exact aO _
 rintro σ' H' ⟨rfl,k1,kvs',r,e1,e2,e3,e4,e5,e6⟩
 exact ⟨_,Z,bt,T.bot,db,_,_,Z,k1 _ _ hb (iT hb hk (by intro z;cases z)),X.cB,X.Sn,Z,_,Z,kn,_,Z,e5▸cV.k (k:=Sum.inl top) e1,q r H' kvs' k1 e1 e2 e3 e4 e6⟩
abbrev qJ:Stmt:=inClass (top 24) 12
abbrev nI:List Str:=["self","part"]
abbrev HW:List Str:=nI.append ["tops"]
theorem xw:aI HW nI (ay qJ):=dj
theorem FT {T:TC} (F:iY K T.hold "shares" "Hold.shares" qJ f fd) (X:Txt K T) (iH:Mn P w K mg base 1 T.hold "part_of" j0 (Ci T)) (qK:Mn P w K mg base 1 T.hold "tops_of" mK (Og T)) (qL:Mn P w K mg base 3 T.bot "share" mL (J7 T)) (jH:mg "zip"=none):Mn P w K mg base 4 T.hold "shares" nI (GR T):=by
 refine F.oA xw fun cdv A outer s H vs Q E hr h=>?_
 obtain ⟨⟨n,ρ,A,st,ip,pt,rfl,hh,ep,hkn,q⟩⟩:=h
 obtain ⟨qq,eq,k1,k2,k3,k4⟩:=hh.h.find ep
 have lV:=bV ep
 refine ⟨_,(@cJ.h _ _ _ (ak (aP (i:=2) xw.nd (gF qK hr (qv 0) (af (gF iH hr (qv 0) (af (qv 1) aj)) aj)))
  (au (aR (KQ (KR ["owner","top","self"] [none,none,some 0] rfl (tS K (by rfl) jH (af (aW K (qv 0)) (af (qv 2) aj))) (fun _ _ _ _=>(ja K (n:=2) rfl (cU (aN (i:=0) (show List.Nodup (["owner","top","self"] :List Str) from by decide +kernel)) (cU (aN (i:=1) (show List.Nodup (["owner","top","self"] :List Str) from by decide +kernel)) i_)))) (fun _ _ _ _=>(jk (af (qv 0) (af (gF qL hr (aW K (qv 2)) (af (qv 1) aj)) aj)))) (fun _ _ _ _=>(aY jE (qv 1) ai (br _))) rfl (by rfl))))))),?_⟩
 refine ⟨_,Z,A.a,A.dx,_,Z,hh.h.oa,Z,_,Z,A.a,A.dx,_,Z,hh.h.oa,Z,_,Z,⟨⟨n,ρ,A,st,ip,pt,qq,Z,hh.h,hh.wf.pA,ep,eq,?_⟩⟩⟩
 refine ⟨⟨n,ρ,A,st,ip,pt,qq,Z,hh.h,hh.wf,ep,eq,fun l H1 g1 hl hl1=>?_⟩⟩
 have fX:=hh.mono g1
 have cl:ρ l=none:=hh.g.none hl
 have tl:(cC st pt).length=st.own.length:=by
  unfold cC
  rw [qh,hh.wf.rows pt lV,hh.wf.i7,Nat.min_self]
 have dX:=hh.wf.rT
 refine ⟨A.pl,_,fX.h.iN,fun ob=>?_⟩
 have hl2:upd H1 A.pl (.fk ob (.dK (fK 0 st.own))) l=some (.lst ((cC st pt).map V.int)):=eZ fX.h.iN hl1 (fun k z=>by cases z)
 refine ⟨_,Z,A.a,T.hold,A.dx,_,_,Z,eZ fX.h.iN fX.h.oa (fun k z=>by cases z),X.cH,X.hpl,Z,_,Z,_,_,_,_,_,_,Z, .keys ah, .lst (aB.of hl2),fun acc hacc=>?_⟩
 have vH:H1 acc=none:=nQ fX.h.iN hacc
 have ca:ρ acc=none:=fX.g.none vH
 have OU:acc≠A.pl:=fun e=>by rw [e,ah] at hacc;cases hacc
 have nal:acc≠l:=fun e=>by rw [e,hl1] at vH;cases vH
 refine X0 (K:=K) (n:=st.own.length) [0,1] (fun i out Hc=>∃H5,Hc=upd H5 A.pl (.fk ob (.dK (fK 0 st.own)))/\Gh ρ H5/\Fr n ρ H ρ H5/\aV T n ρ A H5 { st with kn:=st.kn+i }/\H5 l=some (.lst ((cC st pt).map V.int))/\i6 H5 out (((List.zip st.own (cC st pt)).take i).filterMap fun x=>if 0<x.2 then some (x.1,Jm.fr x.2 st.prod) else none))
  (by decide) (by omega) ⟨upd H1 acc (.lst []),kj (bY OU),fX.g.alloc vH,(Fr.of_same (ρ:=ρ) g1).trans (Fr.of_same (az vH _)),fX.h.mono (az vH _),by rw [av (bY nal)];exact hl1, .nil⟩ ?_ ?_ ?_ ?_
 . rintro i out Hc hi ha ⟨H5,rfl,G5,F5,h5,l5,S5⟩
   exact ⟨ah,aB.of (eZ h5.iN l5 (fun k z=>by cases z)),by rw [aG,pC];exact hi,by rw [aG,tl];exact hi⟩
 . rintro out Hc ha ⟨H5,rfl,G5,F5,h5,l5,S5⟩
   exact ⟨ah,aB.of (eZ h5.iN l5 (fun k z=>by cases z)), .inr (by rw [aG,tl];exact aO _)⟩
 . rintro i x out Hc H2 hi FN ha ⟨H5,rfl,G5,F5,h5,l5,S5⟩ ⟨pp,x1,y1,hpp,rfl,rfl,e1,e2⟩
   obtain ⟨t,rfl,et⟩:=gJ e2
   rw [Cg,bK] at e1
   obtain ⟨o,eo,rfl⟩:=lP.mp e1
   have npl:pp≠A.pl:=fun e=>by rw [e,ah] at hpp;cases hpp
   have agF:H5 pp=none:=nQ h5.iN hpp
   have ez:(List.zip st.own (cC st pt))[i]?=some (o,t):=by rw [List.getElem?_zip_eq_some];exact ⟨eo,et⟩
   have g6:=az agF (.tup [.str o, .int t])
   have e6:upd (upd H5 A.pl (.fk ob (.dK (fK 0 st.own)))) pp (.tup [.str o, .int t])=upd (upd H5 pp (.tup [.str o, .int t])) A.pl (.fk ob (.dK (fK 0 st.own))):=kj (bY npl)
   rw [e6]
   have G6:=G5.same g6
   have F6:=F5.trans (Fr.of_same (ρ:=ρ) g6)
   have h6:=h5.mono g6
   have l6:=g6 _ _ l5
   have S6:=S5.mono g6.tups
   have t6:upd H5 pp (.tup [.str o, .int t]) pp=some (.tup [.str o, .int t]):=ah
   have BR:upd H5 pp (.tup [.str o, .int t]) acc=some (.lst out):=by
    rw [av OU] at ha
    exact g6 _ _ ha
   generalize upd H5 pp (.tup [.str o, .int t])=H6 at *
   have fz:∀{b:Addr} {u:HO},H6 b=some u->(∀k,u ≠ .dK k)->upd H6 A.pl (.fk ob (.dK (fK 0 st.own))) b=some u:=fun e k=>eZ h6.iN e k
   refine ⟨pp,_,Z,cT.of (fz t6 (fun k z=>by cases z)),Z,_,Z,_,_,Z,Z,_,Z,?_⟩
   refine eF (fun c=>?_) (fun c=>?_)
   . have c':0<t:=eE c
     obtain ⟨kvs,j1,j2,j3,j4⟩:=h6.okn
     have WZ:A.kn≠A.pl:=DN h6.jS h6.jC (by intro z;cases z)
     refine ⟨_,Z,_,Z,A.a,T.hold,A.dx,_,_,Z,fz h6.oa (fun k z=>by cases z),X.cH,X.Bs,Z,A.bt,A.db,_,Z,fz h6.m_ (fun k z=>by cases z),Z,_,Z,
      ⟨⟨A.bt,A.db,A.sp,A.kn,st.stp,st.prod,t,kvs,Z,fz h6.m_ (fun k z=>by cases z),fz h6.sY (fun k z=>by cases z),hh.wf.xX,hh.wf.Ce,hh.wf.big,by rw [av WZ];exact j1,(fun p hp=>let ⟨t,r,e,w⟩:=j2 p hp;⟨t,r,e,fz w (fun k z=>by cases z)⟩),Pk j3 (by show st.kn+i<_;omega),j4,fun r H7 kvs' b1 b2 b3 b4 b5 b6=>?_⟩⟩⟩
     have W0:H7 A.pl=some (.fk ob (.dK (fK 0 st.own))):=b1 _ _ ah (bY WZ)
     refine ⟨(iE 2),fun tt W6=>?_⟩
     have ntp:tt≠A.pl:=fun e=>by rw [e,W0] at W6;cases W6
     have k8:∀b u,H6 b=some u->b≠A.kn->upd H7 A.pl (.dK (fK 0 st.own)) b=some u:=fun b u e hb=>by
      by_cases z:b=A.pl
      . rw [z] at e ⊢
        rw [show H6 A.pl=some (.dK (fK 0 st.own)) from h6.iN] at e
        cases e;exact ah
      . rw [av z];exact b1 _ _ (by rw [av z];exact e) hb
     have h8:=h6.Vp (m:=st.kn+i+1) k8 (by rw [av WZ];exact b2) (fun p hp=>let ⟨t,r,e,w⟩:=b3 p hp;⟨t,r,e,kP (.inr ⟨_,W0,Z⟩) _ _ w⟩) (fQ b4 (Nat.succ_le_succ j3)) b5
     have G8:Gh ρ (upd H7 A.pl (.dK (fK 0 st.own))):=fun b cc e=>by
      by_cases z:b=A.pl
      . rw [z];exact ⟨_,ah,Z⟩
      by_cases z2:b=A.kn
      . rw [z2,av WZ];exact ⟨_,b2,Z⟩
      obtain ⟨u,a1,a2⟩:=G6 b cc e
      exact ⟨u,k8 b u a1 z2,a2⟩
     have F8:Fr n ρ H6 ρ (upd H7 A.pl (.dK (fK 0 st.own))):=fun b u e k=>⟨k8 b u e (fun z=>k 9 ⟨#[]⟩ (by rw [z];exact h6.jS)),Z⟩
     have tp8:∀b xs,H6 b=some (.tup xs)->upd H7 A.pl (.dK (fK 0 st.own)) b=some (.tup xs):=fun b xs e=>k8 b _ e (iT e j1 (by intro z;cases z))
     have agG:upd H7 A.pl (.dK (fK 0 st.own)) tt=none:=by rw [av ntp];exact W6
     have back:H7=upd (upd H7 A.pl (.dK (fK 0 st.own))) A.pl (.fk ob (.dK (fK 0 st.own))):=by rw [tQ,x8 W0]
     have hr8:upd H7 A.pl (.dK (fK 0 st.own)) r=some (o7 (Jm.fr t st.prod)):=kP (.inr ⟨_,W0,Z⟩) _ _ b6
     have l8:=k8 _ _ l6 (fun z=>by rw [z,j1] at l6;cases l6)
     have Lg:=k8 _ _ BR (fun z=>by rw [z,j1] at BR;cases BR)
     have S8:=S6.mono tp8
     have F08:=F6.trans F8
     rw [back] at W6 ⊢
     generalize upd H7 A.pl (.dK (fK 0 st.own))=H8 at *
     have g9:=az agG (.tup [.str o, .ref r])
     rw [kj (bY ntp)]
     refine ⟨by rw [av OU];exact g9 _ _ Lg,_,kj (bY OU),(G8.same g9).wr rfl,(F08.trans (Fr.of_same (ρ:=ρ) g9)).new (g1.free vH),?_,?_,?_⟩
     . exact (h8.mono g9).same (Sv ca (g9 _ _ Lg) rfl)
     . rw [av (bY nal)];exact g9 _ _ l8
     . rw [take_snoc ez,List.filterMap_append,yO]
       simp only [c',qP,List.filterMap_nil]
       exact ((S8.mono g9.tups).snoc ah (g9 _ _ hr8)).mono (kP (.inr ⟨_,g9 _ _ Lg,Z⟩))
   . have c':¬ 0<t:=oN (mQ.mpr c)
     refine ⟨by rw [av OU];exact BR,H6,Z,G6,F6,?_,l6,?_⟩
     . obtain ⟨kvs,j1,j2,j3,j4⟩:=h6.okn
       exact h6.Vp (m:=st.kn+i+1) (fun b u e _=>e) j1 j2 (Nat.le_succ_of_le j3) j4
     . rw [take_snoc ez,List.filterMap_append,yO]
       simp only [c',lE,List.filterMap_nil,tE]
       exact S6
 . rintro out Hc FN ha ⟨H5,rfl,G5,F5,h5,l5,S5⟩
   rw [BX (by rw [List.length_zip,tl];omega)] at S5
   refine ⟨ah,?_⟩
   rw [tQ,x8 (show H5 A.pl=some (.dK (fK 0 st.own)) from h5.iN)]
   rw [av OU] at ha
   obtain ⟨kvs,j1,j2,j3,j4⟩:=h5.okn
   have h9:=h5.Vp (m:=st.kn+100) (fun b u e _=>e) j1 j2 (fQ j3 (by show st.kn+st.own.length<=st.kn+100;omega)) j4
   exact q acc out ρ A H5 ⟨G5,h9,ac2 hh.wf hkn⟩ rfl F5 (g1.free vH) ha ca S5
abbrev qM:Stmt:=inClass (top 24) 17
abbrev nJ:List Str:=["self"]
abbrev HX:List Str:=nJ
theorem FU:aI HX nJ (ay qM):=dj
theorem FW {T:TC} (F:iY K T.hold "landed" "Hold.landed" qM f fd) (X:Txt K T) (dw:mg "list"=none):Mn P w K mg base 1 T.hold "landed" nJ (J8 T):=by
 refine F.oA FU fun cdv A outer s H vs Q E hr h=>?_
 obtain ⟨⟨n,ρ,A,st,rfl,hh,q⟩⟩:=h
 obtain ⟨ws,hw,hA⟩:=hh.h.vo
 have hl:=hA.length
 have hal:=hh.wf.Cf
 refine ⟨_,(@cJ.h _ _ _ (au (aR (fG ["name","owner","worth","shares"] [none,none,none,none] rfl (di K (aW K (qv 0))) (fun _ _ _ _=>(ja K (n:=4) rfl (cU (aN (i:=0) (show List.Nodup (["name","owner","worth","shares"] :List Str) from by decide +kernel)) (cU (aN (i:=1) (show List.Nodup (["name","owner","worth","shares"] :List Str) from by decide +kernel)) (cU (aN (i:=2) (show List.Nodup (["name","owner","worth","shares"] :List Str) from by decide +kernel)) (cU (aN (i:=3) (show List.Nodup (["name","owner","worth","shares"] :List Str) from by decide +kernel)) i_)))))) (fun _ _ _ _=>(jk (af (qv 0) (af (qv 1) (af (qv 2) (af (lU (ny K) (by rfl) dw vO (af (qv 3) aj)) aj)))))) rfl (by rfl))))),?_⟩
 refine ⟨_,Z,A.a,T.hold,A.dx,_,_,Z,hh.h.oa,X.cH,X.has,Z,A.as,Z,⟨_,aB.of hw⟩,fun acc hacc=>?_⟩
 refine y9 (K:=K) (n:=ws.length) [0,1,2,3] (fun i out H1=>aF H H1/\ko acc ρ H1 out (st.kL.take i)) (by decide) (by omega) ⟨az hacc _, .nil⟩ (fun i out H1 hi _ hp=>⟨ws,_,aB.of (hp.1 _ _ hw),aX hi⟩) (fun out H1 _ hp=>⟨ws,aB.of (hp.1 _ _ hw),aO _⟩) ?_ ?_
 . rintro i x out H1 H2 hi dX ha ⟨g,hL⟩ ⟨rfl,hy⟩
   have ex:=hy ws (aB.of (g _ _ hw))
   obtain ⟨r,l,y,ss,rfl,ey,a1,a2,a3,a4⟩:=hA.get ex
   refine ⟨r,_,Z,cT.of (g _ _ a1),Z,_,Z,_,Z,_,Z,_,Z,l,ss,Z, .inl (aB.of (g _ _ a2)),fun l2 hl2=>⟨(iE 4),fun t ht=>?_⟩⟩
   have g2:=az hl2 (.lst ss)
   have g3:=az ht (.tup [.str y.nm, .str y.ow, .int y.wo, .ref l2])
   have hl3:upd H2 l2 (.lst ss) l2=some (.lst ss):=ah
   have c2:ρ l2=none:=hh.g.none (g.free hl2)
   refine ⟨(g2.trans g3) _ _ ha,((g.trans g2).trans g3).cu hacc _,?_⟩
   rw [take_snoc ey]
   have n1:l2≠acc:=fun e=>by rw [e,ha] at hl2;cases hl2
   exact ((hL.mono (g2.trans g3)).snoc (x:=y) ah (g3 _ _ hl3) c2 n1 (a4.mono ((g.trans g2).trans g3).tups)).upd ((g2.trans g3) _ _ ha)
 rintro out H1 dX ha ⟨g,hL⟩
 rw [hl,cA] at hL
 exact q acc out H1 g hacc ha hL.to
abbrev su:Stmt:=inClass (top 24) 4
abbrev pQ:List Str:=["self","owner","amount"]
abbrev Li:List Str:=pQ.append ["place","whole","added"]
theorem nK:aI Li pQ (ay su):=dj
theorem FY {T:TC} {e:Ec} (F:iY K T.hold "award" "Hold.award" su f fd) (X:Txt K T) (kD:Mx P w K mg base 1 T.hold "place_of" jn (Cv T e)) (gm:Dx P w K mg base 1 "check_amount" jZ (Ea e)) (gq:Mn P w K mg base 1 T.hold "whole" j5 (AK T)) (j7:Mn P w K mg base 3 T.hold "blend" lW (Fj T K)) (bf:mg "len"=none) (mJ:ng K e.v5) (jm:mg "TooMuch"=some (.ref e.v5)):Mx P w K mg base 4 T.hold "award" pQ (KZ T e):=by
 refine F.ON nK fun cdv A outer s H vs Q E hr h=>?_
 obtain ⟨⟨n,ρ,A,st,o,a,rfl,hh,aw,dq⟩⟩:=h
 refine ⟨_,(@cJ.h _ _ _ (ak (aP (i:=3) nK.nd (OM kD hr (qv 0) (af (qv 1) aj)))
  (ak (c8 (Tu gm hr (af (qv 2) aj)))
  (ak (aP (i:=4) nK.nd (tT gq hr (qv 0)))
  (ak (cK (aY Dh (qv 2) (qv 4) (br _)) (au (yf mJ (by rfl) jm)) aT)
  (ak (aP (i:=5) nK.nd (aD RP (dQ (af ai aj)) (aE vj (by rfl) bf dF (af (aW K (qv 0)) aj))))
  (ak (uy (aD iK (qv 2) (aW K (aW K (qv 0)))) (uz (qv 5) (qv 3) set_list))
  (au (c8 (gF j7 hr (qv 0) (af (aD jL (qv 4) (qv 2)) (af (qv 4) (af (qv 5) aj))))))))))))),?_⟩
 have wf:=hh.wf
 refine ⟨_,Z,A.a,A.dx,_,Z,hh.h.oa,Z,_,Z,⟨⟨n,ρ,A,st,o,Z,hh.h,fun ho=>dq.no 2 (by unfold jW;exact aA ho),fun ho=>?_⟩⟩⟩
 refine ⟨_,Z,⟨⟨a,Z,fun h5=>dq.no 5 (by unfold jW;rw [aC ho,aC h5]),fun h1=>?_⟩⟩⟩
 refine ⟨_,Z,A.a,A.dx,_,Z,hh.h.oa,Z,⟨⟨n,ρ,A,st,Z,hh.h,wf.vV,fun H1 g1=>?_⟩⟩⟩
 refine ⟨_,Z,_,Z,_,_,Z,Z,_,Z,eF (fun c=>?_) (fun c=>?_)⟩
 . have c':aS st<=a:=eE c
   exact fun y=>dq.no 6 (by unfold jW;rw [aC ho,aA (show ¬ a<1 by omega),aC c']) y H1 g1
 have c':¬ aS st<=a:=oN (mQ.mpr c)
 have q:=dq.ok (by unfold jW;rw [aC ho,aA (show ¬ a<1 by omega),aA c'])
 have fX:=hh.mono g1
 have F1:Fr n ρ H ρ H1:=Fr.of_same g1
 clear hh
 refine ⟨(iE 1),fun p0 hp0=>?_⟩
 have g2:=az hp0 (.lst [.int 0])
 have iO:=fX.mono g2
 have F2:=F1.trans (Fr.of_same (ρ:=ρ) g2)
 have VX:upd H1 p0 (.lst [.int 0]) p0=some (.lst [.int 0]):=ah
 generalize upd H1 p0 (.lst [.int 0])=H2 at *
 clear fX F1
 have BN:=pC st.own 0
 have dX:=iO.wf.rT
 refine ⟨_,Z,A.a,T.hold,A.dx,_,_,Z,iO.h.oa,X.cH,X.hpl,Z,A.pl,_,Z,iO.h.iN,p0,_,_,Z,Z,VX,by omega,by rw [BN];omega,by rw [BN];show 1*_<=_;rw [rN,Nat.one_mul];exact small (by omega),fun p1 hp1=>?_⟩
 rw [BN,rN,show (List.replicate st.own.length [V.int 0]).flatten=(List.replicate st.own.length (0:Int)).map V.int from by rw [List.map_replicate,List.flatten_replicate_singleton]]
 have g3:=az hp1 (.lst ((List.replicate st.own.length (0:Int)).map V.int))
 have lI:=iO.mono g3
 have F3:=F2.trans (Fr.of_same (ρ:=ρ) g3)
 have n1:H p1=none:=(g1.trans g2).free hp1
 have c1:ρ p1=none:=iO.g.none hp1
 have zU:upd H2 p1 (.lst ((List.replicate st.own.length (0:Int)).map V.int)) p1=_:=ah
 generalize upd H2 p1 (.lst ((List.replicate st.own.length (0:Int)).map V.int))=H3 at *
 have hi:=Jj.mpr ho
 have bo:=aw.blend (o:=o) wf h1 (by omega)
 have za:PF a st.prod:= .inl (by have:(aS st).natAbs<2 ^ 60:=aw.big;omega)
 refine ⟨_,Z,_,Z,A.a,T.hold,A.dx,_,_,Z,lI.h.oa,X.cH,X.Bs,Z,A.bt,T.bot,A.db,_,_,Z,lI.h.m_,X.cB,X.Sm,Z,_,_,Z,Z,za,_,Z,_,Z,p1,_,_,st.own.idxOf o,Z,Z,zU,by rw [aG,jz];exact wR hi,?_⟩
 rw [show ((List.replicate st.own.length (0:Int)).map V.int).set (st.own.idxOf o) (V.int (a*st.prod))=(kZ st o a).map V.int from by unfold kZ;rw [vg]]
 have kN:=lI.DP (o:= .lst ((kZ st o a).map V.int)) c1 zU rfl rfl
 have F4:=F3.new (o:= .lst ((kZ st o a).map V.int)) n1
 have VY:upd H3 p1 (.lst ((kZ st o a).map V.int)) p1=_:=ah
 generalize upd H3 p1 (.lst ((kZ st o a).map V.int))=H4 at *
 have zk:Jm.Sz 60 (aS st-a):=bo.big.of_le (by omega)
 have zG:∀m∈kZ st o a,0<=m/\Jm.Sz 8900 m:=fun m hm=>by
  have J4:=bo.add m hm
  have h2:=wf.iz
  have zl:Jm.Sz 60 a:=bo.big.of_le (by omega)
  exact ⟨J4.1,Jm.Sz.m8 (by have:=lC bo.l (show 0<=st.prod by omega);omega) J4.2 ((zl.mul bo.prod).mono (by decide))⟩
 exact ⟨_,Z,A.a,A.dx,_,Z,kN.h.oa,Z,_,Z,_,Z,_,_,Z,Z,_,Z,_,Z,⟨⟨n,ρ,A,st,aS st-a,aS st,p1,kZ st o a,Z,kN,aB.of VY,bo.len,bo.k,by omega,zk,bo.big,zG,aw.cX,aw.stp,Kl wf bo,fun ρ6 A6 H6 BQ e6 f6=>q ρ6 A6 H6 BQ e6 (F4.trans f6)⟩⟩⟩
abbrev uL:Stmt:=top 29
abbrev fj:List Str:=["_law_script","_law_k","_law_j","_law_many"]
abbrev ML:List Str:=fj.append ["_law_cell","_law_turn","_law_rest","_law_step","_law_one","_law_two"]
theorem fh:aI ML fj (ay uL):=dj
theorem Lj (F:At K mg "_law_draw" uL f fd) (bf:mg "len"=none) (bH:mg "range"=none):Dn P w K mg base 1 "_law_draw" fj (lR K):=by
 refine F.oA fh fun cdv A outer s H vs Q E hr h=>?_
 obtain ⟨⟨a,ns,k,j,many,rfl,hS,h63,hk,hj,hj2,hm,q⟩⟩:=h
 refine ⟨_,(@cJ.h _ _ _ (ak (aP (i:=4) fh.nd ai)
  (ak (aP (i:=5) fh.nd ai)
  (ak (gX (aY jE (aE (bN K) (by rfl) bf dF (af (qv 0) aj)) ai (br _)) (ak (aP (i:=4) fh.nd (aK (aQ K) (qv 0) (aD jM (qv 1) (aE (bN K) (by rfl) bf dF (af (qv 0) aj)))))
  (au (aP (i:=5) fh.nd (aD gI (qv 1) (aE (bN K) (by rfl) bf dF (af (qv 0) aj)))))) aT)
  (ak (aP (i:=6) fh.nd (qv 4))
  (ak (dO d8 rfl (dP (by rfl) bH (af (qv 2) aj)) (aN (i:=7) fh.nd) (au (aP (i:=6) fh.nd (aD gI (qv 6) (aD mZ ai ai)))))
  (ak (cK (fH (bW.pt (xm (aY iU (qv 5) ai (br _)) (xm (aY Dh (qv 4) (aD mZ ai ai) (br _)) (xh (aY jE (qv 6) ai (br _))))))) (au (aR (aD jM (aD jM (qv 6) (aD mZ ai ai)) (qv 3)))) aT)
  (ak (aP (i:=8) fh.nd (aD jM (aD bP (aD bP (aD bP (aD iK (qv 4) ai) (aD iK (qv 1) ai)) (aD iK (qv 2) ai)) ai) ai))
  (ak (aP (i:=9) fh.nd (aD jM (aD bP (aD iK (qv 8) ai) (aD gI (qv 4) ai)) ai))
  (ak (aP (i:=9) fh.nd (aD jM (aD bP (aD iK (qv 9) (aD bP (aD jM (qv 8) ai) ai)) (qv 2)) ai))
  (au (aR (aD jM (aD jM (aD bP (aD bP (aD iK (qv 8) ai) (aD iK (qv 9) ai)) (aD gI (qv 9) ai)) ai) (qv 3)))))))))))))),?_⟩
 have hl:(ns.map V.int).length=ns.length:=aG _
 refine ⟨fun σ H'=>H'=H/\σ=[some (.ref a),some (.int k),some (.int j),some (.int many),some (.int (Jm.cellOf ns k)),some (.int (Jm.yW ns k)),none,none,none,none],?_,?_⟩
 . refine ⟨_,Z,a,_,Z, .inl hS,_,_,Z,Z,_,Z,?_⟩
   refine eF (fun c=>?_) (fun c=>?_)
   . have c':0<(((ns.map V.int).length:Nat):Int):=eE c
     rw [hl] at c'
     have i0:0<=k % (ns.length:Int):=nt _ (by omega)
     have i1:k % (ns.length:Int)<(ns.length:Int):=xF _ c'
     refine ⟨_,Z,_,Z,_,Z,a,_,Z, .inl hS,_,_,Z,Z,(by show (0:Int)<_;rw [hl];exact c'),a,_,_, .int (ns.getD (k % ns.length).toNat 0),Z,Z,hS,?_,?_⟩
     . rw [hl]
       exact XM i0 i1
     refine ⟨_,Z,_,Z,a,_,Z, .inl hS,_,_,Z,Z,U4 (n:=10) (by rw [hl];exact c') (by rw [hl];omega) (by decide),Z,?_⟩
     unfold Jm.cellOf Jm.yW
     rw [aC c',aC c',hl]
     rfl
   . have c':¬ 0<(((ns.map V.int).length:Nat):Int):=oN (mQ.mpr c)
     rw [hl] at c'
     refine ⟨Z,?_⟩
     unfold Jm.cellOf Jm.yW
     rw [aA c',aA c']
     rfl
 rintro σ H' ⟨rfl,rfl⟩
 generalize ec:Jm.cellOf ns k=cell at *
 generalize et:Jm.yW ns k=turn at *
 refine ⟨_,Z,_,Z,j,Z,by omega,hj2,?_⟩
 refine fT (lo:=0) (n:=j.toNat) (fun i σ DQ=>DQ=H'/\∃st:Option V,σ=[some (.ref a),some (.int k),some (.int j),some (.int many),some (.int cell),some (.int turn),some (.int (Jm.Dw cell i)),st,none,none]) ⟨Z,none,Z⟩ ?_ ?_
 . rintro i σ DQ hi ⟨rfl,st,rfl⟩
   refine ⟨_,Z,_,_,Z,Z,⟨by decide,by decide,by decide⟩,_,_,Z,Z,yV (by decide +kernel),Z,?_⟩
   exact ⟨_,Z⟩
 rintro σ DQ ⟨rfl,st,rfl⟩
 have full:Q (.int (Jm.draw ns k j many)) DQ:=q
 unfold Jm.draw at full
 rw [ec,et] at full
 generalize er:Jm.Dw cell j.toNat=rest at *
 refine ⟨decide (turn=0/\1000000000000000000<=cell/\0<rest),?_,?_⟩
 . refine ⟨_,Z,Z,_,Z,?_⟩
   by_cases h1:turn=0
   . rw [cG (by rw [h1] :V.int turn=V.int 0)]
     refine rO ⟨_,Z,_,_,Z,Z,⟨by decide,by decide,by decide⟩,_,_,Z,Z,_,Z,?_⟩
     by_cases h2:1000000000000000000<=cell
     . rw [cG (show (10:Int) ^ (18:Int).toNat<=cell from h2)]
       refine rO ⟨_,Z,_,_,Z,Z,_,Z,?_,Z⟩
       by_cases h3:0<rest
       . rw [cG h3,cG ⟨h1,h2,h3⟩]
       . rw [d7 h3,d7 fun z=>h3 z.2.2]
     . rw [d7 (show ¬ (10:Int) ^ (18:Int).toNat<=cell from h2)]
       exact cW ⟨(d7 fun z=>h2 z.2.1).symm,Z⟩
   . rw [d7 (fun z=>h1 (V.int.inj z))]
     exact cW ⟨(d7 fun z=>h1 z.1).symm,Z⟩
 by_cases h:turn=0/\1000000000000000000<=cell/\0<rest
 . rw [cG h]
   rw [aC h] at full
   refine rO ⟨_,Z,_,_,Z,Z,⟨by decide,by decide,by decide⟩,_,_,Z,Z,(by show (0:Int)<_;decide),_,Z,_,_,Z,Z,hm,?_⟩
   exact full
 . rw [d7 h]
   rw [aA h] at full
   refine cW ?_
   refine ⟨_,Z,_,_,Z,Z, .inr ⟨by decide,by decide⟩,_,Z,_,_,Z,Z, .inr ⟨by decide,by decide⟩,_,_,Z,Z,_,Z,_,_,Z,Z, .inr ⟨by decide,by decide⟩,_,_,Z,Z,_,_,Z,Z,_,_,Z,Z,(by show (0:Int)<_;decide),?_⟩
   refine ⟨_,Z,_,_,Z,Z, .inr ⟨by decide,by decide⟩,_,Z,_,_,Z,Z,yV (by decide +kernel),_,_,Z,Z,_,_,Z,Z,(by show (0:Int)<_;decide),?_⟩
   unfold Jm.mixed at full
   dsimp only at full ⊢
   generalize e1:(cell*7919+k*104729+j*1299709+31) % 1000000007=one at *
   generalize e2:(one*48271+cell / 1009) % 998244353=two at *
   have b1:0<=one % 9973:=nt _ (by decide)
   have b2:one % 9973<9973:=xF _ (by decide)
   refine ⟨_,Z,_,Z,_,_,Z,Z,(by show (0:Int)<_;decide),_,_,Z,Z,_,_,Z,Z, .inr ⟨by omega,by omega⟩,_,Z,_,_,Z,Z,_,_,Z,Z,(by show (0:Int)<_;decide),?_⟩
   refine ⟨_,Z,_,_,Z,Z, .inr ⟨by decide,by decide⟩,_,Z,_,_,Z,Z, .inr ⟨by decide,by decide⟩,_,_,Z,Z,_,Z,_,_,Z,Z,yV (by decide +kernel),_,_,Z,Z,_,_,Z,Z,(by show (0:Int)<_;decide),_,Z,_,_,Z,Z,hm,?_⟩
   exact full
abbrev uM:Stmt:=top 30
abbrev q_:List Str:=["_law_code","_law_size"]
abbrev MM:List Str:=q_.append ["_law_word","_law_at_here"]
theorem lX:aI MM q_ (ay uM):=dj
theorem Lk (F:At K mg "_law_name" uM f fd) (bH:mg "range"=none):Dn P w K mg base 1 "_law_name" q_ E8:=by
 refine F.oA lX fun cdv A outer s H vs Q E hr h=>?_
 obtain ⟨⟨c,n,rfl,hc,hn,q⟩⟩:=h
 refine ⟨_,(@cJ.h _ _ _ (ak (aP (i:=2) lX.nd bu)
  (ak (dO d8 rfl (dP (by rfl) bH (af (qv 1) aj)) (aN (i:=3) lX.nd) (ak (aP (i:=2) lX.nd (aD Di (qv 2) (aK RM bu (aD jM (qv 0) ai))))
  (au (aP (i:=0) lX.nd (aD gI (qv 0) ai)))))
  (au (aR (qv 2)))))),?_⟩
 refine ⟨_,Z,_,Z,by omega,by omega,?_⟩
 refine fT (lo:=0) (n:=(n:Int).toNat) (fun i σ H'=>H'=H/\∃(s1:Option V),σ=[some (.int (c / 26 ^ i)),some (.int n),some (.str (tx (lF c i))),s1]) ⟨Z,none,by rw [Int.pow_zero,As];rfl⟩ ?_ ?_
 . rintro i σ H' hi ⟨rfl,s1,rfl⟩
   have hp:(0:Int)<26 ^ i:=Int.pow_pos (by decide)
   have hd0:0<=c / 26 ^ i:=Int.ediv_nonneg hc (xN hp)
   have hm0:0<=c / 26 ^ i % 26:=nt _ (by decide)
   have hm1:c / 26 ^ i % 26<26:=xF _ (by decide)
   refine ⟨_,Z,_,Z,_,_,Z,Z,(by show (0:Int)<26;decide),_,_,_,Z,Z,(by decide +kernel),R9 hm0 hm1,?_⟩
   refine ⟨_,_,Z,Z,?_,?_⟩
   . rw [j9,xS]
     show i+1<=sizeLine
     exact C5 (eY (by omega))
   refine ⟨_,Z,_,_,Z,Z,t9 (by decide) (o8 (by decide +kernel)),Z,some (.int ((0:Int)+(i:Int))),?_⟩
   have e1:c / 26 ^ i / 26=c / 26 ^ (i+1):=by rw [Int.ediv_ediv_of_nonneg (xN hp),Int.pow_succ]
   have e2:(tx (lF c i)++tx [97+(c / 26 ^ i % 26).toNat] :Str)=tx (lF c (i+1)):=by rw [R7,Vc]
   rw [<-e1,<-e2]
   rfl
 rintro σ H' ⟨rfl,s1,rfl⟩
 refine ⟨_,Z,?_⟩
 rw [rN]
 exact q
abbrev sy:Stmt:=top 31
abbrev pR:List Str:=["_law_script","_law_k","_law_many"]
abbrev Ll:List Str:=pR.append ["_law_alike","_law_size","_law_first","_law_shift","_law_at_here","_law_names_here","_law_code"]
theorem dD:aI Ll pR (ay sy):=dj
theorem HY (F:At K mg "_law_names" sy f fd) (aM:Dn P w K mg base 1 "_law_draw" fj (lR K)) (rj:Dn P w K mg base 1 "_law_name" q_ E8) (bH:mg "range"=none):Dn P w K mg base 2 "_law_names" pR (E9 K):=by
 refine F.oA dD fun cdv A outer s H vs Q E hr h=>?_
 obtain ⟨⟨a,ms,k,many,rfl,hS,h63,hk,hm,q⟩⟩:=h
 refine ⟨_,(@cJ.h _ _ _ (ak (aP (i:=3) dD.nd (qC iU (aZ aM hr (af (qv 0) (af (qv 1) (af ai (af ai aj))))) ai (br _)))
  (ak (aP (i:=4) dD.nd (aD bP ai (aZ aM hr (af (qv 0) (af (qv 1) (af ai (af ai aj)))))))
  (ak (aP (i:=5) dD.nd (aZ aM hr (af (qv 0) (af (qv 1) (af ai (af (aD mZ ai ai) aj))))))
  (ak (aP (i:=6) dD.nd ai)
  (ak (gX (dm (qv 3)) (au (dO d8 rfl (dP (by rfl) bH (af (aZ aM hr (af (qv 0) (af (qv 1) (af ai (af (qv 4) aj))))) aj)) (aN (i:=7) dD.nd) (au (aP (i:=6) dD.nd (aD iK (qv 6) ai))))) aT)
  (ak (aP (i:=8) dD.nd (dQ aj))
  (ak (dO d8 rfl (dP (by rfl) bH (af (qv 2) aj)) (aN (i:=7) dD.nd) (ak (aP (i:=9) dD.nd (aD bP (qv 5) (aD iK (qv 6) (aZ aM hr (af (qv 0) (af (qv 1) (af (aD bP ai (aD iK ai (qv 7))) (af ai aj))))))))
  (ak (gX (dH (dm (qv 3))) (ak (aP (i:=4) dD.nd (aD bP ai (aZ aM hr (af (qv 0) (af (qv 1) (af (aD bP ai (aD iK ai (qv 7))) (af ai aj)))))))
  (au (aP (i:=9) dD.nd (aZ aM hr (af (qv 0) (af (qv 1) (af (aD bP ai (aD iK ai (qv 7))) (af (aD mZ ai ai) aj)))))))) aT)
  (ak (Cw d8 (aY RO (aZ rj hr (af (qv 9) (af (qv 4) aj))) (qv 8) (by with_unfolding_all rfl)) (au (aP (i:=9) dD.nd (aD bP (qv 9) (qv 6)))))
  (au (c8 (tM xC xy xA gU (qv 8) (af (aZ rj hr (af (qv 9) (af (qv 4) aj))) aj))))))))
  (au (aR (qv 8))))))))))),?_⟩
 have P10:PD 10 10:=⟨by decide,by decide,by decide +kernel⟩
 refine ⟨_,Z,_,Z,cM hS h63 hk (by decide) (by decide) (by decide) fun al _ _ _=>⟨Z,?_⟩⟩
 refine ⟨_,Z,_,Z,cM hS h63 hk (by decide) (by decide) (by decide) fun sd _ s0 s1=>⟨_,_,Z,Z,?_⟩⟩
 refine ⟨_,Z,_,Z,_,_,Z,Z,P10,cM hS h63 hk (by decide) (by decide) (by decide +kernel) fun fc _ f0 f1=>?_⟩
 generalize hal:decide (V.int al=V.int 0)=alike
 obtain ⟨n0,en0⟩:∃n:Nat,1+sd=(n:Int):=⟨(1+sd).toNat,by omega⟩
 refine ⟨fun σ H'=>H'=H/\∃(d:Nat) (s7:Option V),(alike=true->d<n0)/\(alike=false->d=0)/\d<8/\σ=[some (.ref a),some (.int k),some (.int many),some (.bl alike),some (.int (1+sd)),some (.int fc),some (.int ((26:Int) ^ d)),s7,none,none],?_,?_⟩
 . refine ⟨_,Z,_,Z,eF (fun c=>?_) (fun c=>?_)⟩
   . refine ⟨_,Z,_,Z,_,Z,cM hS h63 hk (by decide) (by decide) (by omega) fun dd _ d0 d1=>⟨dd,Z,by omega,by omega,?_⟩⟩
     refine fT (lo:=0) (n:=dd.toNat) (fun i σ H'=>H'=H/\∃s7:Option V,σ=[some (.ref a),some (.int k),some (.int many),some (.bl alike),some (.int (1+sd)),some (.int fc),some (.int ((26:Int) ^ i)),s7,none,none]) ⟨Z,none,Z⟩ ?_ ?_
     . rintro i σ H' hi ⟨rfl,s7,rfl⟩
       refine ⟨_,Z,_,_,Z,Z, .inr ⟨by decide,by decide⟩,Z,some (.int ((0:Int)+(i:Int))),?_⟩
       rw [Int.pow_succ]
       rfl
     . rintro σ H' ⟨rfl,s7,rfl⟩
       exact ⟨Z,dd.toNat,s7,fun _=>by omega,fun z=>absurd c (by rw [z];exact fJ),by omega,Z⟩
   . exact ⟨Z,0,none,fun z=>absurd z c,fun _=>rfl,by decide,Z⟩
 rintro σ H' ⟨rfl,d,s7,hd1,hd2,hd8,rfl⟩
 refine ⟨(iE 0),fun pn D0=>?_⟩
 have g0:=az D0 (.lst [])
 refine ⟨_,Z,(many:Int),Z,by omega,by omega,?_⟩
 refine fT (lo:=0) (n:=(many:Int).toNat) (fun i σ H2=>aF H' H2/\∃(nss:List (List Nat)) (n:Nat) (s1 s2:Option V),d<n/\n<=8/\σ=[some (.ref a),some (.int k),some (.int many),some (.bl alike),some (.int (n:Int)),some (.int fc),some (.int ((26:Int) ^ d)),s1,some (.ref pn),s2]/\H2 pn=some (.lst (rH nss))/\nss.length=i/\nss.Nodup/\∀x∈nss,o_ x)
  ⟨g0,[],n0,s7,none,?_,by omega,by rw [<-en0];rfl,ah,Z,vd,fun _ m=>nomatch m⟩ ?_ ?_
 . cases alike with
   | true=>exact hd1 rfl
   | false=>rw [hd2 rfl];omega
 . rintro i σ H2 hi ⟨g,nss,n,s1,s2,hdn,OV,rfl,hn,hnl,hnd,hok⟩
   have hsl:(rH nss).length=i:=by unfold rH;rw [aG];exact hnl
   have hSg:=g.seq hS
   have hp:(0:Int)<26 ^ d:=Int.pow_pos (by decide)
   have TU:(26:Int) ^ d<2 ^ 64:=by
    rcases (by omega:d=0\/d=1\/d=2\/d=3\/d=4\/d=5\/d=6\/d=7) with e|e|e|e|e|e|e|e <;> (rw [e];decide +kernel)
   refine ⟨_,Z,_,Z,_,Z,_,Z,_,Z,_,_,Z,Z, .inl ⟨by decide,by decide⟩,_,_,Z,Z,cM hSg h63 hk (by omega) (by omega) (by decide) fun cd _ c0 c1=>⟨_,_,Z,Z, .inl ⟨by omega,TU⟩,_,_,Z,Z,?_⟩⟩
   have hcode:0<=fc+26 ^ d*cd:=Int.add_nonneg f0 (lC (xN hp) c0)
   refine ⟨fun σ H3=>H3=H2/\∃(n:Nat) (c:Int),0<=c/\d<n/\n<=8/\σ=[some (.ref a),some (.int k),some (.int many),some (.bl alike),some (.int (n:Int)),some (.int fc),some (.int ((26:Int) ^ d)),some (.int ((0:Int)+(i:Int))),some (.ref pn),some (.int c)],?_,?_⟩
   . refine ⟨_,Z,_,Z,?_⟩
     cases hb:alike with
     | true=>exact cW ⟨Z,n,_,hcode,hdn,OV,Z⟩
     | false=>
       refine rO ?_
       have hd0:=hd2 hb
       refine ⟨_,Z,_,Z,_,Z,_,_,Z,Z, .inl ⟨by decide,by decide⟩,_,_,Z,Z,cM hSg h63 hk (by omega) (by omega) (by decide) fun zd _ z0 z1=>⟨_,_,Z,Z,?_⟩⟩
       refine ⟨_,Z,_,Z,_,Z,_,_,Z,Z, .inl ⟨by decide,by decide⟩,_,_,Z,Z,_,_,Z,Z,P10,cM hSg h63 hk (by omega) (by omega) (by decide +kernel) fun cd2 _ e0 _=>?_⟩
       refine ⟨Z,(1+zd).toNat,cd2,e0,by omega,by omega,?_⟩
       rw [show (((1+zd).toNat:Nat):Int)=1+zd from by omega]
       rfl
   clear hdn OV hcode
   rintro σ H3 ⟨rfl,n,vI,cc0,hdn,OV,rfl⟩
   refine ⟨fun m σ H4=>H4=H3/\∃t:Nat,m=nss.length+1-t/\t<=nss.length/\σ=[some (.ref a),some (.int k),some (.int many),some (.bl alike),some (.int (n:Int)),some (.int fc),some (.int ((26:Int) ^ d)),some (.int ((0:Int)+(i:Int))),some (.ref pn),some (.int (vI+(t:Int)*26 ^ d))]/\∀j:Nat,j<t->lF (vI+(j:Int)*26 ^ d) n∈nss,
    ⟨_,Z,0,Z,fC _,by rw [show vI+((0:Nat):Int)*26 ^ d=vI from by simp],fun j hj=>absurd hj (Nat.not_lt_zero _)⟩,?_⟩
   rintro m σ H4 ⟨rfl,t,rfl,ht,rfl,htr⟩
   have hct:0<=vI+(t:Int)*26 ^ d:=Int.add_nonneg cc0 (lC (by omega) (xN hp))
   refine ⟨_,Z,_,Z,JT rfl hct (by omega) ?_⟩
   refine ⟨_,Z,pn,_,Z, .inl (aB.of hn),Z,Vf nss,?_⟩
   show Rw _ (V.bl (if false=true then !JA (.str (tx (lF (vI+(t:Int)*26 ^ d) n))) (rH nss) else JA (.str (tx (lF (vI+(t:Int)*26 ^ d) n))) (rH nss))) _
   rw [aA fJ,N6]
   refine ⟨_,Z,eF (fun c=>?_) (fun c=>?_)⟩
   . have hmem:lF (vI+(t:Int)*26 ^ d) n∈nss:=eE c
     have abI:∀j:Nat,j<t+1->lF (vI+(j:Int)*26 ^ d) n∈nss:=fun j hj=>by
      rcases Nat.lt_succ_iff_lt_or_eq.mp hj with z|z
      . exact htr j z
      . rw [z];exact hmem
     have hle:=Sb (c:=vI) (n:=n) (t:=t+1) hdn (by omega) abI
     refine ⟨_,fun _ _ z=>z,?_⟩
     refine ⟨_,Z,_,Z,_,_,Z,Z,?_⟩
     refine ⟨_,(by omega:nss.length+1-(t+1)<nss.length+1-t),Z,t+1,Z,hle,?_,abI⟩
     rw [show vI+((t+1:Nat):Int)*26 ^ d=vI+(t:Int)*26 ^ d+26 ^ d from by rw [Int.natCast_add,Av];show _+(_+1*_)=_;rw [Int.one_mul,Int.add_assoc]]
     rfl
   . have hnm:lF (vI+(t:Int)*26 ^ d) n∉nss:=oN (mQ.mpr c)
     refine ⟨_,Z, .inl ⟨Z,_,aB.of hn⟩,?_⟩
     refine ⟨_,Z,_,Z,JT rfl hct (by omega) ?_⟩
     refine ⟨pn,rH nss,_,Z,Z,hn,eY (by omega),g.cu D0 _,nss++[lF (vI+(t:Int)*26 ^ d) n],n,_,_,hdn,OV,Z,?_,?_,ou hnd hnm,fun x hx=>?_⟩
     . rw [ah]
       unfold rH
       rw [bF]
       rfl
     . rw [dg,hnl]
       rfl
     . rcases gh.mp hx with z|z
       . exact hok x z
       . rw [fZ.mp z]
         exact aad _ (by omega) OV
 rintro σ H2 ⟨g,nss,n,s1,s2,hdn,OV,rfl,hn,hnl,hnd,hok⟩
 exact ⟨_,Z,q pn nss H2 g hn D0 (by omega) hnd hok⟩
abbrev uN:Stmt:=top 33
abbrev rm:List Str:=["_law_script","_law_k","_law_j"]
abbrev MN:List Str:=rm.append ["_law_size"]
theorem zV:aI MN rm (ay uN):=dj
theorem Lm (F:At K mg "_law_much" uN f fd) (aM:Dn P w K mg base 1 "_law_draw" fj (lR K)):Dn P w K mg base 2 "_law_much" rm (JS K):=by
 refine F.oA zV fun cdv A outer s H vs Q E hr h=>?_
 obtain ⟨⟨a,ns,k,j,rfl,hS,h63,hk,hj,hj2,q⟩⟩:=h
 refine ⟨_,(@cJ.h _ _ _ (ak (aP (i:=3) zV.nd (aK (aQ K) (dQ (af ai (af ai (af ai (af (aD mZ ai ai) aj))))) (aZ aM hr (af (qv 0) (af (qv 1) (af (qv 2) (af ai aj)))))))
  (au (aR (aD bP ai (aZ aM hr (af (qv 0) (af (qv 1) (af (aD bP (qv 2) ai) (af (qv 3) aj)))))))))),?_⟩
 refine ⟨_,_,Z,Z,⟨by decide,by decide,by decide⟩,(iE 4),fun p1 hp1=>?_⟩
 have g1:=az hp1 (.lst [V.int 9,V.int 40,V.int 1000,V.int (10 ^ (9:Int).toNat)])
 refine ⟨_,Z,_,Z,_,Z,cM (g1.seq hS) h63 hk hj (by omega) (by decide) fun d _ d0 d1=>?_⟩
 obtain ⟨B,hB,hB0,hB1⟩:∃B:Int,rG [V.int 9,V.int 40,V.int 1000,V.int (10 ^ (9:Int).toNat)] d=some (.int B)/\0<B/\B<=1000000000:=by
  rcases (by omega:d=0\/d=1\/d=2\/d=3) with e|e|e|e
  . exact ⟨9,by rw [e];rfl,by decide,by decide⟩
  . exact ⟨40,by rw [e];rfl,by decide,by decide⟩
  . exact ⟨1000,by rw [e];rfl,by decide,by decide⟩
  . exact ⟨10 ^ (9:Int).toNat,by rw [e];rfl,by decide,by decide⟩
 refine ⟨p1,_,_,_,Z,Z,aB.of ah,hB,?_⟩
 refine ⟨_,Z,_,Z,_,Z,_,_,Z,Z,_,Z,cM (g1.seq hS) h63 hk (by omega) (by omega) hB0 fun e _ e0 e1=>⟨_,_,Z,Z,?_⟩⟩
 exact q (1+e) _ (by omega) (by omega) g1
abbrev v_:Stmt:=top 51
abbrev kF:List Str:=["_law_found"]
abbrev QL:List Str:=kF
theorem MO:aI QL kF (ay v_):=dj
theorem MP (F:At K mg "_law_int" v_ f fd) (aL:mg "isinstance"=none) (AR:mg "int"=none) (Ln:mg "bool"=none):Dn P w K mg base 1 "_law_int" kF Dy:=by
 refine F.oA MO fun cdv A outer s H vs Q E hr h=>?_
 obtain ⟨i,rfl,q⟩:=h
 refine ⟨_,(@cJ.h _ _ _ (au (aR (KU (aE (c6 K) (by rfl) aL jK (af (qv 0) (af (jj PyProof.Rows.boot_int rfl AR) aj))) (KP (aa8 (aE (c6 K) (by rfl) aL jK (af (qv 0) (af (jj PyProof.Rows.boot_bool rfl Ln) aj))))))))),?_⟩
 refine ⟨_,Z,_,_,_,_,Z,gx.int i,ig,_,Z,rO ?_⟩
 refine ⟨_,Z,_,_,_,_,Z,gx.int i,JK,_,Z,?_⟩
 exact q
abbrev sH:Stmt:=top 53
abbrev lY:List Str:=["_law_top","_law_bottom"]
abbrev Lo:List Str:=lY.append ["_law_one","_law_other"]
theorem nL:aI Lo lY (ay sH):=dj
theorem HZ (F:At K mg "_law_least" sH f fd) (QM:mg "abs"=none):Dn P w K mg base 1 "_law_least" lY AF:=by
 refine F.oA nL fun cdv A outer s H vs Q E hr h=>?_
 obtain ⟨⟨t,b,rfl,hb,hb2,q⟩⟩:=h
 refine ⟨_,(@cJ.h _ _ _ (ak (aP (i:=2) nL.nd (aE UE (by rfl) QM PyProof.Rows.boot_abs (af (qv 0) aj)))
  (ak (aP (i:=3) nL.nd (qv 1))
  (ak (Cw d8 (aY oX (qv 3) ai (br _)) (au (Tt (i:=2) (j:=3) rfl nL.nd rfl rfl (by decide) rfl rfl (af (qv 3) (af (aD jM (qv 2) (qv 3)) aj)) (by rfl))))
  (au (aR (jk (af (aD gI (qv 0) (qv 2)) (af (aD gI (qv 1) (qv 2)) aj))))))))),?_⟩
 refine ⟨_,Z,_,Z,_,Z,?_⟩
 refine ⟨fun m σ H'=>∃x y:Int,m=y.toNat/\σ=[some (.int t),some (.int b),some (.int x),some (.int y)]/\H'=H/\0<=x/\0<=y/\Jm.cf x y=Jm.cf b t,
  ⟨_,(if t<0 then -t else t),b,Z,Z,Z,(by split <;> omega),xN hb,(by rw [Jm.N3,Jm.ZZ])⟩,?_⟩
 rintro m σ H' ⟨x,y,rfl,rfl,rfl,hx,hy,e⟩
 refine ⟨_,Z,Z,_,Z,eF (fun c=>?_) (fun c=>?_)⟩
 . have c1:¬ V.int y=V.int 0:=oN (by simpa using c)
   have c':0<y:=by
    have:y≠0:=fun z=>c1 (by rw [z])
    omega
   refine ⟨_,fun _ _ z=>z,?_⟩
   refine ⟨_,Z,_,Z,_,Z,_,_,Z,Z,c',_,_,Z,?_⟩
   have h1:0<=x % y:=nt _ (by omega)
   have h2:x % y<y:=xF _ c'
   exact ⟨_,(by omega:(x % y).toNat<y.toNat),y,x % y,Z,Z,Z,hy,h1,(Jm.E5 x y c').trans e⟩
 . have c1:V.int y=V.int 0:=by simpa using c
   have ey:y=0:=V.int.inj c1
   subst ey
   rw [Jm.N1 x hx] at e
   subst e
   have g0:0<Jm.cf b t:=Jm.Dv _ _ (.inl hb)
   have g1:Jm.Sz 9000 (Jm.cf b t):=hb2.dvd hb (xN g0) (Jm.qS b t)
   have gd:∀i,AA i (Jm.cf b t):=fun i=>t9 g0 g1
   refine ⟨_,Z,_,Z,_,_,Z,Z,gd _,_,Z,_,Z,_,_,Z,Z,gd _,(iE 2),fun p hp=>?_⟩
   refine q p _ (az hp _) ?_
   rw [ah]
   show some (HO.tup [V.int (t / Jm.cf b t),V.int (b / Jm.cf b t)])=some (HO.tup [V.int (Jm.fr t b).num,V.int ((Jm.fr t b).den:Int)])
   rw [Jm.RW t b hb,Jm.JL t b hb]
abbrev yl:Stmt:=top 54
abbrev vJ:List Str:=["_law_found","_law_top","_law_bottom"]
abbrev T5:List Str:=vJ
theorem QN:aI T5 vJ (ay yl):=dj
theorem QO (F:At K mg "_law_is" yl f fd) (ee:Dn P w K mg base 1 "_law_int" kF Dy) (j8:Dn P w K mg base 1 "_law_least" lY AF)
  (aL:mg "isinstance"=none) (jc:mg "tuple"=none) (bf:mg "len"=none):Dn P w K mg base 2 "_law_is" vJ U8:=by
 refine F.oA QN fun cdv A outer s H vs Q E hr h=>?_
 obtain ⟨⟨p,q,t,b,rfl,hp,h0,h1,e,hq⟩⟩:=h
 refine ⟨_,(@cJ.h _ _ _ (ak (cK (fH (bW.pt (iV (dH (dm (aE (c6 K) (by rfl) aL jK (af (qv 0) (af (jj O_ rfl jc) aj))))) (ir (aY oX (aE (bN K) (by rfl) bf dF (af (qv 0) aj)) ai (br _)))))) (au (aR fq)) aT)
  (ak (cK (fH (bW.pt (iV (dH (dm (aZ ee hr (af (aK (bQ K) (qv 0) ai) aj)))) (ir (dH (dm (aZ ee hr (af (aK (bQ K) (qv 0) ai) aj)))))))) (au (aR fq)) aT)
  (au (aR (qC (E7 K hr.units) (qv 0) (aZ j8 hr (af (qv 1) (af (qv 2) aj))) (br _))))))),?_⟩
 refine ⟨false,?_,cW ?_⟩
 . refine ⟨_,Z,_,_,_,_,Z,gx.tup hp,ig,_,Z,cW ?_⟩
   exact ⟨_,Z,_,_,Z, .inr (cT.of hp),Z,_,Z,Z,Z⟩
 refine ⟨false,?_,cW ?_⟩
 . refine ⟨_,Z,p,_,_,_,Z,Z,cT.of hp,Z,_,Z,_,Z,cW ?_⟩
   exact ⟨_,Z,p,_,_,_,Z,Z,cT.of hp,Z,_,Z,_,Z,Z,Z⟩
 refine ⟨_,Z,_,Z,_,Z,GJ h0 h1 fun r H1 g1 hr1=>?_⟩
 rw [<-e] at hr1
 refine ⟨_,_,R4 (g1 _ _ hp),R4 hr1,Bo _ _,Bo _ _,?_⟩
 rw [U7]
 exact hq H1 g1
abbrev mV:Stmt:=top 52
abbrev kG:List Str:=["_law_found","_law_parts"]
abbrev CL:List Str:=kG.append ["_law_at_here","_law_one"]
theorem mW:aI CL kG (ay mV):=dj
theorem AY (F:At K mg "_law_part_list" mV f fd) (ee:Dn P w K mg base 1 "_law_int" kF Dy) (aL:mg "isinstance"=none) (dw:mg "list"=none) (jc:mg "tuple"=none) (lK:mg "str"=none) (bH:mg "range"=none) (bf:mg "len"=none):Dn P w K mg base 2 "_law_part_list" kG (DR K):=by
 refine F.oA mW fun cdv A outer s H vs Q E hr h=>?_
 obtain ⟨⟨r,l,ws,us,ps,rfl,hr0,hP,hl,hR,hN,hle,q⟩⟩:=h
 refine ⟨_,(@cJ.h _ _ _ (ak (cK (fH (bW.pt (iV (dH (dm (aE (c6 K) (by rfl) aL jK (af (qv 0) (af (jj vO rfl dw) aj))))) (ir (aY oX (aE (bN K) (by rfl) bf dF (af (qv 0) aj)) (aE (bN K) (by rfl) bf dF (af (qv 1) aj)) (br _)))))) (au (aR fq)) aT)
  (ak (dO d8 rfl (dP (by rfl) bH (af (aE (bN K) (by rfl) bf dF (af (qv 1) aj)) aj)) (aN (i:=2) mW.nd) (ak (aP (i:=3) mW.nd (aK (aQ K) (qv 0) (qv 2)))
  (ak (cK (fH (bW.pt (iV (dH (dm (aE (c6 K) (by rfl) aL jK (af (qv 3) (af (jj O_ rfl jc) aj))))) (ir (aY oX (aE (bN K) (by rfl) bf dF (af (qv 3) aj)) ai (br _)))))) (au (aR fq)) aT)
  (ak (cK (fH (bW.pt (iV (dH (dm (aE (c6 K) (by rfl) aL jK (af (aK (bQ K) (qv 3) ai) (af (jj ER rfl lK) aj))))) (ir (dH (dm (aE (c6 K) (by rfl) aL jK (af (aK (bQ K) (qv 3) ai) (af (jj ER rfl lK) aj))))))))) (au (aR fq)) aT)
  (ak (cK (fH (bW.pt (iV (dH (dm (aZ ee hr (af (aK (bQ K) (qv 3) ai) aj)))) (ir (dH (dm (aZ ee hr (af (aK (bQ K) (qv 3) ai) aj)))))))) (au (aR fq)) aT)
  (au (cK (aY (N4 K hr.units) (qv 3) (jk (af (aK (oH K) (aK (aQ K) (qv 1) (qv 2)) ai) (af (aK (oH K) (aK (aQ K) (qv 1) (qv 2)) ai) (af (aK (oH K) (aK (aQ K) (qv 1) (qv 2)) ai) (af (aK (oH K) (aK (aQ K) (qv 1) (qv 2)) ai) aj))))) (br _)) (au (aR fq)) aT)))))))
  (au (aR fq))))),?_⟩
 have hwl:=hP.length
 have TR:=hR.len
 refine ⟨false,?_,cW ?_⟩
 . refine ⟨_,Z,_,_,_,_,Z,gx.lst hr0,ig,_,Z,cW ?_⟩
   refine ⟨_,Z,_,_,Z, .inl (aB.of hr0),_,Z,_,_,Z, .inl hl,Z,_,Z,?_,Z⟩
   show (!decide (V.int (ws.length:Int)=V.int (us.length:Int)))=false
   rw [cG (by rw [hwl,TR])]
   rfl
 refine ⟨_,Z,l,us,Z, .inl hl,_,Z,by omega,by omega,?_⟩
 refine fT (lo:=0) (n:=((us.length:Nat):Int).toNat) (fun i σ H'=>aF H H'/\∃(s1 s2:Option V),σ=[some (.ref r),some (.ref l),s1,s2]) ⟨aF.refl _,none,none,Z⟩ ?_ ?_
 . rintro i σ H' hi ⟨g,s1,s2,rfl⟩
   have e0:(0:Int)+(i:Int)=((i:Nat):Int):=by omega
   rw [e0]
   have hi':i<ps.length:=by omega
   have ep:=aX hi'
   obtain ⟨t,et,ht⟩:=hP.get ep
   obtain ⟨u,xs,eu,hu,x0,x1,x2,x3⟩:=(hR.mono g).at_ i _ ep
   have ht':=g _ _ ht
   obtain ⟨n1,n2⟩:=hN _ (u_ hi')
   have hr1:=g _ _ hr0
   have hl1:=g.seq hl
   refine ⟨_,Z,_,Z,r,ws,i, .ref t,Z,Z,aB.of hr1,i9 et,?_⟩
   refine ⟨false,⟨_,Z,_,_,_,_,Z,gx.tup ht',ig,_,Z,cW ⟨_,Z,_,_,Z, .inr (cT.of ht'),Z,_,Z,Z,Z⟩⟩,cW ?_⟩
   refine ⟨false,⟨_,Z,t,_,_,_,Z,Z,cT.of ht',Z,_,_,_,_,Z,gx.str _,ig,_,Z,cW ⟨_,Z,t,_,_,_,Z,Z,cT.of ht',Z,_,_,_,_,Z,gx.str _,ig,_,Z,Z,Z⟩⟩,cW ?_⟩
   refine ⟨false,⟨_,Z,t,_,_,_,Z,Z,cT.of ht',Z,_,Z,_,Z,cW ⟨_,Z,t,_,_,_,Z,Z,cT.of ht',Z,_,Z,_,Z,Z,Z⟩⟩,cW ?_⟩
   refine ⟨_,Z,_,Z,_,Z,l,us,i, .ref u,Z,Z,hl1,i9 eu,hu.ix (i:=0) x0 ?_⟩
   refine ⟨_,Z,_,Z,l,us,i, .ref u,Z,Z,hl1,i9 eu,hu.ix (i:=1) x1 ?_⟩
   refine ⟨_,Z,_,Z,l,us,i, .ref u,Z,Z,hl1,i9 eu,hu.ix (i:=2) x2 ?_⟩
   refine ⟨_,Z,_,Z,l,us,i, .ref u,Z,Z,hl1,i9 eu,hu.ix (i:=3) x3 ?_⟩
   refine ⟨(iE 4),fun p1 hp1=>?_⟩
   have g1:=az hp1 (AJ ps[i])
   refine ⟨_,_,Ol (g1 _ _ ht'),Ol (p:=ps[i]) ah,Bv n1 n2,Bv n1 n2,_,Z,?_⟩
   rw [Vq]
   exact cW ⟨g.trans g1,_,_,Z⟩
 rintro σ H' ⟨g,s1,s2,rfl⟩
 exact q H' g
abbrev lZ:Stmt:=top 55
abbrev iu:List Str:=["_law_found","_law_owners","_law_tops","_law_bottom"]
abbrev AZ:List Str:=iu.append ["_law_due_here","_law_at_here","_law_pair"]
theorem jq:aI AZ iu (ay lZ):=dj
theorem zW (F:At K mg "_law_share_list" lZ f fd) (j8:Dn P w K mg base 1 "_law_least" lY AF) (zX:Dn P w K mg base 2 "_law_is" vJ U8) (aL:mg "isinstance"=none) (dw:mg "list"=none) (jc:mg "tuple"=none) (lK:mg "str"=none) (bH:mg "range"=none) (bf:mg "len"=none):Dn P w K mg base 3 "_law_share_list" iu (vX K):=by
 refine F.oA jq fun cdv A outer s H vs Q E hr h=>?_
 obtain ⟨⟨r,lo,lt,ws,own,tops,b,rfl,hr0,hS,ho,ht,hlen,hle,b0,bz,q⟩⟩:=h
 refine ⟨_,(@cJ.h _ _ _ (ak (VP (i:=4) ["_law_at_here","_law_tops","_law_owners","_law_bottom"] [none,some 2,some 1,some 3] jq.nd rfl rfl rfl (dP (by rfl) bH (af (aE (bN K) (by rfl) bf dF (af (qv 2) aj)) aj)) (fun _ _ _ _=>(aN (i:=0) (show List.Nodup (["_law_at_here","_law_tops","_law_owners","_law_bottom"] :List Str) from by decide +kernel))) (fun _ _ _ _=>(jk (af (aK (aQ K) (qv 2) (qv 0)) (af (aZ j8 hr (af (aK (aQ K) (qv 1) (qv 0)) (af (qv 3) aj))) aj)))) (fun _ _ _ _=>(aY jE (aK (aQ K) (qv 1) (qv 0)) ai (br _))) rfl (by rfl) (by rfl))
  (ak (cK (fH (bW.pt (iV (dH (dm (aE (c6 K) (by rfl) aL jK (af (qv 0) (af (jj vO rfl dw) aj))))) (ir (aY oX (aE (bN K) (by rfl) bf dF (af (qv 0) aj)) (aE (bN K) (by rfl) bf dF (af (qv 4) aj)) (br _)))))) (au (aR fq)) aT)
  (ak (dO d8 rfl (dP (by rfl) bH (af (aE (bN K) (by rfl) bf dF (af (qv 4) aj)) aj)) (aN (i:=5) jq.nd) (ak (aP (i:=6) jq.nd (aK (aQ K) (qv 0) (qv 5)))
  (ak (cK (fH (bW.pt (iV (dH (dm (aE (c6 K) (by rfl) aL jK (af (qv 6) (af (jj O_ rfl jc) aj))))) (iV (aY oX (aE (bN K) (by rfl) bf dF (af (qv 6) aj)) ai (br _)) (ir (aY oX (aK (bQ K) (qv 6) ai) (aK (bQ K) (aK (aQ K) (qv 4) (qv 5)) ai) (br _))))))) (au (aR fq)) aT)
  (au (cK (bW.pt (iV (dH (dm (aE (c6 K) (by rfl) aL jK (af (aK (bQ K) (qv 6) ai) (af (jj ER rfl lK) aj))))) (ir (dH (dm (aZ zX hr (af (aK (bQ K) (qv 6) ai) (af (aK (bQ K) (aK (bQ K) (aK (aQ K) (qv 4) (qv 5)) ai) ai) (af (aK (bQ K) (aK (bQ K) (aK (aQ K) (qv 4) (qv 5)) ai) ai) aj))))))))) (au (aR fq)) aT)))))
  (au (aR fq)))))),?_⟩
 have tml:(tops.map V.int).length=tops.length:=aG ..
 have oml:(own.map V.str).length=own.length:=aG ..
 refine ⟨_,Z,lt,_,Z, .inl ht,_,Z,by omega,by omega,fun acc hacc=>?_⟩
 refine N9 (J:=Gw 0 _) (n:=tops.length) 0 (fun i out H1=>aF H H1/\i6 H1 out (fD (own.take i) (tops.take i) b)) (by omega) ⟨az hacc _, .nil⟩ (fun i out H1 hi _ _=>by show i<((tops.map V.int).length:Int).toNat;omega) (fun out H1 _ _=>by show ((tops.map V.int).length:Int).toNat<=tops.length;omega) ?_ ?_
 . rintro i x out H1 H2 hi dX ha ⟨g,S⟩ ⟨rfl,rfl⟩
   have e0:(0:Int)+(i:Int)=((i:Nat):Int):=by omega
   rw [e0]
   have et:=aX hi
   have eo:=aX (show i<own.length from by omega)
   have et':(tops.map V.int)[i]?=some (.int tops[i]):=by rw [bK,et];rfl
   have eo':(own.map V.str)[i]?=some (.str own[i]):=by rw [bK,eo];rfl
   have W7:fD (own.take (i+1)) (tops.take (i+1)) b=fD (own.take i) (tops.take i) b++(if 0<tops[i] then [(own[i],Jm.fr tops[i] b)] else []):=by
    unfold fD
    rw [take_snoc eo,take_snoc et,List.zip_append (by rw [kY,kY];omega),List.filterMap_append]
    congr 1
    show List.filterMap _ [(own[i],tops[i])]=_
    rw [yO]
    by_cases c:0<tops[i]
    . simp [c]
    . simp [c]
   refine ⟨_,Z,_,Z,lt,_,i,_,Z,Z,g.seq ht,i9 et',_,_,Z,Z,_,Z,eF (fun c=>?_) (fun c=>?_)⟩
   . have c':0<tops[i] :=eE c
     rw [aC c'] at W7
     refine ⟨_,Z,_,Z,lo,_,i,_,Z,Z,g.seq ho,i9 eo',_,Z,_,Z,lt,_,i,_,Z,Z,g.seq ht,i9 et',_,Z,GJ b0 bz fun p2 H3 g3 hp2=>⟨(iE 2),fun p3 hp3=>?_⟩⟩
     have g4:=az hp3 (.tup [.str own[i], .ref p2])
     have OW:=g3.trans g4
     refine ⟨OW _ _ ha,(g.trans OW).cu hacc _,?_⟩
     rw [W7]
     exact ((S.mono OW.tups).snoc ah (g4 _ _ hp2)).mono (kP (.inr ⟨_,OW _ _ ha,Z⟩))
   . have c':¬ 0<tops[i] :=oN (mQ.mpr c)
     rw [aA c',tE] at W7
     exact ⟨ha,g,by rw [W7];exact S⟩
 rintro du H1 dX ha ⟨g1,D1⟩
 rw [cA,<-hlen,cA] at D1
 have hr1:=g1 _ _ hr0
 have xx:=hS.mono g1.tups
 have l1:=xx.length
 have l2:=D1.length
 have l3:(fD own tops b).length<=1000:=by
  unfold fD
  refine fQ (List.length_filterMap_le _ _) ?_
  rw [List.length_zip]
  omega
 have agH:∀x q,(x,q)∈fD own tops b->Jm.Sz 9000 (q.den:Int):=fun x q m=>HE b0 bz m
 generalize fD own tops b=sh at *
 refine ⟨false,?_,cW ?_⟩
 . refine ⟨_,Z,_,_,_,_,Z,gx.lst hr1,ig,_,Z,cW ?_⟩
   refine ⟨_,Z,_,_,Z, .inl (aB.of hr1),_,Z,_,_,Z, .inl (aB.of ha),Z,_,Z,?_,Z⟩
   show (!decide (V.int (ws.length:Int)=V.int (du.length:Int)))=false
   rw [cG (by rw [l1,l2])]
   rfl
 refine ⟨_,Z,acc,du,Z, .inl (aB.of ha),_,Z,by omega,by omega,?_⟩
 refine fT (lo:=0) (n:=((du.length:Nat):Int).toNat) (fun i σ H'=>aF H1 H'/\∃(s1 s2:Option V),σ=[some (.ref r),some (.ref lo),some (.ref lt),some (.int b),some (.ref acc),s1,s2]) ⟨aF.refl _,none,none,Z⟩ ?_ ?_
 . rintro i σ H' hi ⟨g,s1,s2,rfl⟩
   have e0:(0:Int)+(i:Int)=((i:Nat):Int):=by omega
   rw [e0]
   have hi':i<sh.length:=by omega
   obtain ⟨xq,exq⟩:∃xq,sh[i]?=some xq:=⟨_,aX hi'⟩
   obtain ⟨x,qq⟩:=xq
   obtain ⟨r1,f1,a1,a2,a3⟩:=xx.get exq
   obtain ⟨r2,f2,b1,b2,b3⟩:=D1.get exq
   have a2':=g _ _ a2
   have a3':=g _ _ a3
   have b2':=g _ _ b2
   have b3':=g _ _ b3
   have QS:=g _ _ ha
   refine ⟨_,Z,_,Z,r,ws,i, .ref r1,Z,Z,aB.of (g _ _ hr1),i9 a1,?_⟩
   refine ⟨false,⟨_,Z,_,_,_,_,Z,gx.tup a2',ig,_,Z,cW ⟨_,Z,_,_,Z, .inr (cT.of a2'),Z,_,Z,cW ?_⟩⟩,cW ?_⟩
   . refine ⟨_,Z,r1,_,_,_,Z,Z,cT.of a2',Z,_,Z,_,Z,acc,du,i, .ref r2,Z,Z,aB.of QS,i9 b1,r2,_,_,_,Z,Z,cT.of b2',Z,Z,_,Z,?_,Z⟩
     show (!decide (V.str x=V.str x))=false
     rw [cG rfl];rfl
   refine ⟨_,Z,r1,_,_,_,Z,Z,cT.of a2',Z,_,_,_,_,Z,gx.str _,ig,_,Z,cW ?_⟩
   refine ⟨_,Z,r1,_,_,_,Z,Z,cT.of a2',Z,?_⟩
   refine ⟨_,Z,_,Z,acc,du,i, .ref r2,Z,Z,aB.of QS,i9 b1,r2,_,_,_,Z,Z,cT.of b2',Z,f2,_,_,_,Z,Z,cT.of b3',Z,?_⟩
   refine ⟨_,Z,_,Z,acc,du,i, .ref r2,Z,Z,aB.of QS,i9 b1,r2,_,_,_,Z,Z,cT.of b2',Z,f2,_,_,_,Z,Z,cT.of b3',Z,?_⟩
   exact Z9 a3' (Jm.den_pos _) (agH _ _ (bV exq)) (Jm.XH _).symm fun H3 g3=>⟨_,Z,cW ⟨g.trans g3,_,_,Z⟩⟩
 rintro σ H' ⟨g,s1,s2,rfl⟩
 exact q H' (g1.trans g)
abbrev sJ:Stmt:=top 32
abbrev pS:List Str:=["_law_owners"]
abbrev Lp:List Str:=pS
theorem H_:aI Lp pS (ay sJ):=dj
theorem Ia (F:At K mg "_law_model" sJ f fd) (dw:mg "list"=none):Dn P w K mg base 1 "_law_model" pS (Oz K):=by
 refine F.oA H_ fun cdv A outer s H vs Q E hr h=>?_
 obtain ⟨⟨l,own,n,ρ,rfl,hl,G,hle,q⟩⟩:=h
 refine ⟨_,(@cJ.h _ _ _ (au (aR (YE (ux bu (lU (ny K) (by rfl) dw vO (af (qv 0) aj)) (ux bu (dQ aj) (ux bu ai (ux bu (dQ aj) (ux bu (dQ aj) YD))))) (by rfl) (by rfl) (fun z=>nomatch z) (by with_unfolding_all decide))))),?_⟩
 intro m hm
 have g0:=az hm (.dK [])
 have em0:upd H m (.dK []) m=some (.dK []):=ah
 have iF:=g0.seq hl
 generalize upd H m (.dK [])=H0 at *
 refine ⟨_,Z,l,_,Z, .inl iF,fun lo hlo=>?_⟩
 have g1:=az hlo (.lst (own.map V.str))
 have BU:upd H0 lo (.lst (own.map V.str)) lo=some (.lst (own.map V.str)):=ah
 have vK:=g1 _ _ em0
 generalize upd H0 lo (.lst (own.map V.str))=H1 at *
 refine ⟨(iE 0),fun lp zY=>?_⟩
 have g2:=az zY (.lst [])
 have ep2:upd H1 lp (.lst []) lp=some (.lst []):=ah
 have eo2:=g2 _ _ BU
 have em2:=g2 _ _ vK
 show yU _ _ (upd H1 lp (.lst [])) _
 generalize upd H1 lp (.lst [])=H2 at *
 refine ⟨(iE 0),fun la hla=>?_⟩
 have g3:=az hla (.lst [])
 have W8:upd H2 la (.lst []) la=some (.lst []):=ah
 have ep3:=g3 _ _ ep2
 have eo3:=g3 _ _ eo2
 have em3:=g3 _ _ em2
 show yU _ _ (upd H2 la (.lst [])) _
 generalize upd H2 la (.lst [])=H3 at *
 refine ⟨(iE 0),fun lk hlk=>?_⟩
 have g4:=az hlk (.lst [])
 have ek4:upd H3 lk (.lst []) lk=some (.lst []):=ah
 have OX:=g4 _ _ W8
 have ep4:=g4 _ _ ep3
 have eo4:=g4 _ _ eo3
 have OY:=g4 _ _ em3
 show upd H3 lk (.lst []) m=_/\_
 generalize upd H3 lk (.lst [])=H4 at *
 have gA:=((g0.trans g1).trans g2).trans (g3.trans g4)
 have n1:lo≠m:=fun e=>by rw [e,em0] at hlo;cases hlo
 have n2:lp≠m:=fun e=>by rw [e,vK] at zY;cases zY
 have n3:lp≠lo:=fun e=>by rw [e,BU] at zY;cases zY
 have n4:la≠m:=fun e=>by rw [e,em2] at hla;cases hla
 have n5:la≠lo:=fun e=>by rw [e,eo2] at hla;cases hla
 have n6:la≠lp:=fun e=>by rw [e,ep2] at hla;cases hla
 have n7:lk≠m:=fun e=>by rw [e,em3] at hlk;cases hlk
 have n8:lk≠lo:=fun e=>by rw [e,eo3] at hlk;cases hlk
 have n9:lk≠lp:=fun e=>by rw [e,ep3] at hlk;cases hlk
 have nA:lk≠la:=fun e=>by rw [e,W8] at hlk;cases hlk
 refine ⟨OY,[(Sum.inr "owners", .ref lo),(Sum.inr "parts", .ref lp),(Sum.inr "bottom", .int 1),(Sum.inr "ashore", .ref la),(Sum.inr "known", .ref lk)],Z,by show 5<=15;decide,?_⟩
 have eK:wN [] [(Sum.inr "owners", .ref lo),(Sum.inr "parts", .ref lp),(Sum.inr "bottom", .int 1),(Sum.inr "ashore", .ref la),(Sum.inr "known", .ref lk)]=fF ⟨m,lo,lp,la,lk,[]⟩ 1:=rfl
 rw [eK]
 have u1:upd H4 m (.dK (fF ⟨m,lo,lp,la,lk,[]⟩ 1)) m=some (.dK (fF ⟨m,lo,lp,la,lk,[]⟩ 1)):=ah
 have u2:upd H4 m (.dK (fF ⟨m,lo,lp,la,lk,[]⟩ 1)) lo=some (.lst (own.map V.str)):=by rw [av n1];exact eo4
 have u3:upd H4 m (.dK (fF ⟨m,lo,lp,la,lk,[]⟩ 1)) lp=some (.lst []):=by rw [av n2];exact ep4
 have u4:upd H4 m (.dK (fF ⟨m,lo,lp,la,lk,[]⟩ 1)) la=some (.lst []):=by rw [av n4];exact OX
 have u5:upd H4 m (.dK (fF ⟨m,lo,lp,la,lk,[]⟩ 1)) lk=some (.lst []):=by rw [av n7];exact ek4
 have G4:=(G.same gA).wr (a:=m) (o:= .dK (fF ⟨m,lo,lp,la,lk,[]⟩ 1)) rfl
 have hz:∀b o,H b=some o->upd H4 m (.dK (fF ⟨m,lo,lp,la,lk,[]⟩ 1)) b=some o:=fun b o e=>by
  rw [av (fun z=>by rw [z,hm] at e;cases e)];exact gA _ _ e
 have y1:H lo=none:=g0.free hlo
 have y2:H lp=none:=(g0.trans g1).free zY
 have y3:H la=none:=((g0.trans g1).trans g2).free hla
 have y4:H lk=none:=(((g0.trans g1).trans g2).trans g3).free hlk
 generalize upd H4 m (.dK (fF ⟨m,lo,lp,la,lk,[]⟩ 1))=H5 at *
 refine q (cN (cN (cN (cN (cN ρ m (n,20,⟨#[]⟩)) lo (n,21,⟨#[]⟩)) lp (n,22,⟨#[]⟩)) la (n,25,⟨#[]⟩)) lk (n,26,⟨#[]⟩)) ⟨m,lo,lp,la,lk,[]⟩ H5 (((((G4.color u1 rfl).color u2 rfl).color u3 rfl).color u4 rfl).color u5 rfl) ⟨u1,?_,u2,?_,u3,?_,⟨[],u4, .nil⟩,?_,u5,dN,Z,fun i p q e=>by simp at e⟩ (fun b o e=>⟨hz b o e,?_⟩)
 . show cN _ lk _ m=_
   rw [b_ (bY n7),b_ (bY n4),b_ (bY n2),b_ (bY n1),dN]
 . show cN _ lk _ lo=_
   rw [b_ (bY n8),b_ (bY n5),b_ (bY n3),dN]
 . show cN _ lk _ lp=_
   rw [b_ (bY n9),b_ (bY n6),dN]
 . show cN _ lk _ la=_
   rw [b_ (bY nA),dN]
 . rw [b_ (aH e y4),b_ (aH e y3),b_ (aH e y2),b_ (aH e y1),b_ (aH e hm)]
abbrev uO:Stmt:=top 34
abbrev nj:List Str:=["_law_owners","_law_name_here"]
abbrev MQ:List Str:=nj.append ["_law_at_here"]
theorem zZ:aI MQ nj (ay uO):=dj
theorem Lq (F:At K mg "_law_seat" uO f fd) (bf:mg "len"=none) (bH:mg "range"=none):Dn P w K mg base 1 "_law_seat" nj (Ko K):=by
 refine F.oA zZ fun cdv A outer s H vs Q E hr h=>?_
 obtain ⟨⟨l,own,o,rfl,hl,ho,hle,q⟩⟩:=h
 refine ⟨_,(@cJ.h _ _ _ (ak (dO d8 rfl (dP (by rfl) bH (af (aE (bN K) (by rfl) bf dF (af (qv 0) aj)) aj)) (aN (i:=2) zZ.nd) (au (cK (aY iU (aK (aQ K) (qv 0) (qv 2)) (qv 1) (br _)) (au (aR (qv 2))) aT)))
  (au (aR (AQ wI ai))))),?_⟩
 have ll:(own.map V.str).length=own.length:=aG _
 refine ⟨_,Z,l,_,Z, .inl hl,_,Z,by omega,by omega,?_⟩
 refine fT (lo:=0) (n:=(((own.map V.str).length:Nat):Int).toNat) (fun i σ H'=>H'=H/\o∉own.take i/\∃s2,σ=[some (.ref l),some (.str o),s2]) ⟨Z,by simp,_,Z⟩ ?_ ?_
 . rintro i σ H' hi ⟨rfl,hn,s2,rfl⟩
   have e0:(0:Int)+(i:Int)=((i:Nat):Int):=by omega
   rw [e0]
   have hio:i<own.length:=by omega
   have ei:=aX hio
   refine ⟨_,Z,_,Z,l,_,_,_,Z,Z,hl,bg (by rw [bK,ei];rfl),_,Z,Z,_,Z,eF (fun c=>?_) (fun c=>?_)⟩
   . have c':own[i]=o:=V.str.inj (eE c)
     refine ⟨_,Z,?_⟩
     have:own.idxOf o=i:=by
      have h1:own.idxOf o<=i:=by
       rcases Nat.lt_or_ge i (own.idxOf o) with z|z
       . exact absurd c' (by simpa using List.not_of_lt_findIdx z)
       . exact z
      rcases Nat.lt_or_ge (own.idxOf o) i with z|z
      . exact absurd (bV (i:=own.idxOf o) (by rw [List.getElem?_take,aC z];exact G1 ho)) hn
      . omega
     rw [<-this];exact q
   . refine ⟨Z,fun m=>?_,_,Z⟩
     rw [take_snoc ei] at m
     rcases gh.mp m with z|z
     . exact hn z
     . exact c (cG (by rw [fZ.mp z]))
 rintro σ H' ⟨rfl,hn,s2,rfl⟩
 rw [show (((own.map V.str).length:Nat):Int).toNat=own.length from by omega,cA] at hn
 exact absurd ho hn
abbrev nZ:Stmt:=top 35
abbrev lM:List Str:=["_law_model_here","_law_name_here","_law_owner","_law_worth","_law_weight"]
abbrev Eu:List Str:=lM.append ["_law_tops"]
theorem uP:aI Eu lM (ay nZ):=dj
theorem CM (F:At K mg "_law_new_part" nZ f fd) (kR:Dn P w K mg base 1 "_law_seat" nj (Ko K)):Dn P w K mg base 2 "_law_new_part" lM G_:=by
 refine F.oA uP fun cdv A outer s H vs Q E hr h=>?_
 obtain ⟨⟨n,ρ,B,b,x,o,wo,we,rfl,G,h,ho,dX,hpl,hkl,q⟩⟩:=h
 refine ⟨_,(@cJ.h _ _ _ (ak (qz (i:=5) ["_law_one"] [none] uP.nd rfl rfl rfl (di K (bR (bZ hr) (qv 0) bu)) (fun _ _ _ _=>(aN (i:=0) (show List.Nodup (["_law_one"] :List Str) from by decide +kernel))) (fun _ _ _ _=>ai) rfl (by rfl) (by rfl))
  (ak (uy (bR (bZ hr) (qv 0) bu) (uz (qv 5) (aZ kR hr (af (bR (bZ hr) (qv 0) bu) (af (qv 2) aj))) set_list))
  (ak (c8 (tM xC xy xA gU (bR (bZ hr) (qv 0) bu) (af (dQ (af (qv 1) (af (qv 2) (af (qv 3) (af (qv 4) (af (qv 5) aj)))))) aj)))
  (au (c8 (tM xC xy xA gU (bR (bZ hr) (qv 0) bu) (af (qv 1) aj)))))))),?_⟩
 refine ⟨_,Z,B.m,_,Z,cV.k (k:=Sum.inr "owners") h.om,B.lo,Z,⟨_,aB.of h.oo⟩,fun l0 iF=>?_⟩
 have FN:(b.own.map V.str).length=b.own.length:=aG _
 refine gC (J:=rF K B.lo) (n:=(b.own.map V.str).length) 0 (fun i o H'=>aF H H'/\o=(List.replicate i (0:Int)).map V.int) (by omega) ⟨az iF _,Z⟩ (fun i o H' hi _ hp=>⟨_,_,aB.of (hp.1 _ _ h.oo),aX hi⟩) (fun o H' _ hp=>⟨_,aB.of (hp.1 _ _ h.oo),aO _⟩) ?_ ?_
 . rintro i y o H2 H3 hi dX ha ⟨g,e⟩ ⟨rfl,hy⟩
   refine ⟨ha,g.cu iF _,?_⟩
   subst e
   rw [List.replicate_succ',bF]
   rfl
 rintro o1 H1 _ ha ⟨g1,e⟩
 subst e
 rw [FN] at ha
 have h1:=h.mono g1
 have il:b.own.idxOf o<b.own.length:=List.idxOf_lt_length_of_mem ho
 have rl:((List.replicate b.own.length (0:Int)).map V.int).length=b.own.length:=by rw [aG,jz]
 refine ⟨_,Z,B.m,_,Z,cV.k (k:=Sum.inr "bottom") h1.om,_,Z,_,Z,B.m,_,Z,cV.k (k:=Sum.inr "owners") h1.om,_,Z,⟨⟨B.lo,b.own,o,Z,aB.of h1.oo,ho,dX,?_⟩⟩⟩
 refine ⟨l0,_,_,_,Z,Z,ha,by rw [rl];exact wR il,?_⟩
 rw [<-vg]
 have g2:=g1.cu iF (.lst (((List.replicate b.own.length (0:Int)).set (b.own.idxOf o) b.bot).map V.int))
 have ha2:upd H1 l0 (.lst (((List.replicate b.own.length (0:Int)).set (b.own.idxOf o) b.bot).map V.int)) l0=some (.lst (((List.replicate b.own.length (0:Int)).set (b.own.idxOf o) b.bot).map V.int)):=ah
 show B7 _ _ _ _ (upd H1 l0 (.lst (((List.replicate b.own.length (0:Int)).set (b.own.idxOf o) b.bot).map V.int)))
 generalize upd H1 l0 (.lst (((List.replicate b.own.length (0:Int)).set (b.own.idxOf o) b.bot).map V.int))=H2 at *
 have h2:=h.mono g2
 refine ⟨_,Z,B.m,_,Z,cV.k (k:=Sum.inr "parts") h2.om, .inl ⟨Z,_,aB.of h2.op⟩,_,Z,_,Z,_,Z,_,Z,_,Z,(iE 5),fun p hp=>?_⟩
 have g3:=az hp (oJ ⟨x,o,wo,we,(List.replicate b.own.length (0:Int)).set (b.own.idxOf o) b.bot⟩ l0)
 have hp3:upd H2 p (oJ ⟨x,o,wo,we,(List.replicate b.own.length (0:Int)).set (b.own.idxOf o) b.bot⟩ l0) p=some (oJ ⟨x,o,wo,we,(List.replicate b.own.length (0:Int)).set (b.own.idxOf o) b.bot⟩ l0):=ah
 show oY _ (upd H2 p (oJ ⟨x,o,wo,we,(List.replicate b.own.length (0:Int)).set (b.own.idxOf o) b.bot⟩ l0)) _
 generalize upd H2 p (oJ ⟨x,o,wo,we,(List.replicate b.own.length (0:Int)).set (b.own.idxOf o) b.bot⟩ l0)=H3 at *
 have D0:H p=none:=g2.free hp
 have g23:=g2.trans g3
 have cl0:ρ l0=none:=G.none iF
 have np:p≠l0:=fun e=>by rw [e,ha2] at hp;cases hp
 have cp:cN ρ l0 (n,24,x) p=none:=by rw [b_ np];exact G.none D0
 have h3:a_ n (cN (cN ρ l0 (n,24,x)) p (n,23,x)) B H3 b:=((h.mono g23).col cl0).col cp
 have G3:Gh (cN (cN ρ l0 (n,24,x)) p (n,23,x)) H3:=((G.same g23).color (g3 _ _ ha2) rfl).color hp3 rfl
 have F3:Fr n ρ H (cN (cN ρ l0 (n,24,x)) p (n,23,x)) H3:=((Fr.of_same g23).ya iF).ya D0
 have c1:cN (cN ρ l0 (n,24,x)) p (n,23,x) p=some (n,23,x):=dN
 have c2:cN (cN ρ l0 (n,24,x)) p (n,23,x) l0=some (n,24,x):=by rw [b_ (bY np),dN]
 have T3:=g3 _ _ ha2
 refine ⟨B.lp,_,_,Z,Z,h3.op,by rw [aG,h.ql];exact eY hpl,?_⟩
 rw [show B.qs.map (fun q=>V.ref q.1)++[V.ref p]=(B.qs++[(p,l0)]).map (fun q=>V.ref q.1) from by rw [bF];rfl]
 have h4:=h3.aaJ G3 (p:=⟨x,o,wo,we,(List.replicate b.own.length (0:Int)).set (b.own.idxOf o) b.bot⟩) (q:=(p,l0)) hp3 T3 c1 c2
 have G4:=G3.wr (a:=B.lp) (o:= .lst ((B.qs++[(p,l0)]).map fun q=>V.ref q.1)) rfl
 have F4:=F3.trans (Fr.write (o:= .lst ((B.qs++[(p,l0)]).map fun q=>V.ref q.1)) h3.cp)
 generalize upd H3 B.lp (.lst ((B.qs++[(p,l0)]).map fun q=>V.ref q.1))=H4 at *
 refine ⟨_,Z,B.m,_,Z,cV.k (k:=Sum.inr "known") h4.om, .inl ⟨Z,_,aB.of h4.ok⟩,_,Z,B.lk,_,_,Z,Z,h4.ok,by rw [aG];exact eY hkl,?_⟩
 rw [show b.eL.map V.str++[V.str x]=(b.eL++[x]).map V.str from by rw [bF];rfl]
 exact q _ _ _ (G4.wr rfl) (h4.Yj G4 (b.eL++[x])) rfl (F4.trans (Fr.write h4.ck))
abbrev lg:Stmt:=top 56
abbrev jr:List Str:=["_law_hold","_law_model_here"]
abbrev z6:List Str:=jr.append ["_law_whole","_law_part"]
theorem lq:aI z6 jr (ay lg):=dj
theorem yG {T:TC} (F:At K mg "_law_tells_parts" lg f fd) (ee:Dn P w K mg base 1 "_law_int" kF Dy) (n_:Dn P w K mg base 2 "_law_part_list" kG (DR K)) (gw:Dn P w K mg base 3 "_law_share_list" iu (vX K))
  (uQ:Mn P w K mg base 1 T.hold "parts" pK (Oi T)) (gq:Mn P w K mg base 1 T.hold "whole" j5 (AK T)) (sL:Mn P w K mg base 4 T.hold "shares" nI (GR T)) (d_:mg "sum"=none):Dn P w K mg base 5 "_law_tells_parts" jr (tR 1 T K):=by
 refine F.oA lq fun cdv A outer s H vs Q E hr h=>?_
 obtain ⟨⟨n,m,ρ,A,B,st,b,c,rfl,nm,hh,hb,gd,hc,Ew,hkn,q⟩⟩:=h
 refine ⟨_,(@cJ.h _ _ _ (ak (aP (i:=2) lq.nd (tT gq hr (qv 0)))
  (ak (cK (bW.pt (iV (dH (dm (aZ ee hr (af (qv 2) aj)))) (ir (aY oX (qv 2) (aE (jg K rfl) (by rfl) d_ tW (af (fG ["_law_part"] [none] rfl (di K (bR (bZ hr) (qv 1) bu)) (fun _ _ _ _=>(aN (i:=0) (show List.Nodup (["_law_part"] :List Str) from by decide +kernel))) (fun _ _ _ _=>(aK (aQ K) (qv 0) ai)) rfl (by rfl)) aj)) (br _))))) (au (aR fq)) aT)
  (ak (cK (dH (dm (aZ n_ hr (af (tT uQ hr (qv 0)) (af (bR (bZ hr) (qv 1) bu) aj))))) (au (aR fq)) aT)
  (ak (dO d8 rfl (di K (bR (bZ hr) (qv 1) bu)) (aN (i:=3) lq.nd) (au (cK (dH (dm (aZ gw hr (af (gF sL hr (qv 0) (af (aK (aQ K) (qv 3) ai) aj)) (af (bR (bZ hr) (qv 1) bu) (af (aK (aQ K) (qv 3) ai) (af (bR (bZ hr) (qv 1) bu) aj))))))) (au (aR fq)) aT)))
  (au (aR fq))))))),?_⟩
 have pl:=gd.pl
 have rl:=gd.rel.len
 have wl:=gd.rel.whole
 refine ⟨_,Z,A.a,A.dx,_,Z,hh.h.oa,Z,⟨⟨n,ρ,A,st,Z,hh.h,by omega,fun H1 g1=>?_⟩⟩⟩
 have fX:=hh.mono g1
 have hb1:=hb.mono g1
 have T6:=hb1.op
 have lN:(B.qs.map fun q=>V.ref q.1).length=b.ao.length:=by rw [aG];exact hb.ql
 refine ⟨_,Z,_,Z,_,Z,cW ?_⟩
 refine ⟨_,Z,_,Z,B.m,_,Z,cV.k (k:=Sum.inr "parts") hb1.om,B.lp,Z,⟨_,aB.of T6⟩,fun ac hac=>?_⟩
 refine gC (J:=rF K B.lp) (n:=b.ao.length) 0 (fun i o H'=>aF H1 H'/\o=((b.ao.take i).map (fun p:BP=>p.wo)).map V.int) (by omega) ⟨az hac _,Z⟩ (fun i o H' hi _ hp=>⟨_,_,aB.of (hp.1 _ _ T6),aX (by rw [lN];exact hi)⟩) (fun o H' _ hp=>⟨_,aB.of (hp.1 _ _ T6),by rw [lN];exact aO _⟩) ?_ ?_
 . rintro j y o H2 H3 hj dX ha ⟨g,e⟩ ⟨rfl,hy⟩
   have ej:=aX hj
   obtain ⟨qq,eq,k1,k2,_,_⟩:=hb1.find ej
   have ey:=hy _ (aB.of (g _ _ T6))
   rw [bK,eq] at ey
   cases ey
   refine ⟨_,Z,qq.1,_,_,_,Z,Z,aB.of (g _ _ k1),bg (j:=2) rfl,ha,g.cu hac _,?_⟩
   subst e
   rw [take_snoc ej,bF,bF]
   rfl
 rintro o H2 _ ha ⟨g2,e⟩
 rw [cA] at e
 subst e
 refine ⟨ac,b.ao.map (fun p:BP=>p.wo),Z,aB.of ha,Z,_,Z,?_⟩
 have ew:aS st=(b.ao.map (fun p:BP=>p.wo)).sum:=wl
 rw [show (!decide (V.int (aS st)=V.int (b.ao.map (fun p:BP=>p.wo)).sum))=false from by rw [cG (by rw [ew])];rfl]
 refine cW ?_
 have iO:=fX.mono g2
 have hb2:=hb1.mono g2
 refine ⟨_,Z,A.a,A.dx,_,Z,iO.h.oa,Z,⟨⟨n,ρ,A,st,Z,iO.h,by omega,fun r ws H3 g3 hr hw3 hP3=>?_⟩⟩⟩
 have z7:=hb2.mono g3
 refine ⟨_,Z,B.m,_,Z,cV.k (k:=Sum.inr "parts") z7.om,⟨⟨r,B.lp,ws,_,st.ao,Z,hw3,hP3,aB.of z7.op,gd.rel.rows z7,gd.nms,by omega,fun H4 g4=>⟨_,Z,cW ?_⟩⟩⟩⟩
 have kN:=(iO.mono g3).mono g4
 have z8:=z7.mono g4
 have o4:aF (out ρ H) (out ρ H4):=iM (((g1.trans g2).trans g3).trans g4)
 clear fX hb1 iO hb2 z7 hw3 hP3 ha hac hr g1 g2 g3 g4 T6
 refine ⟨_,Z,B.m,_,Z,cV.k (k:=Sum.inr "parts") z8.om,B.lp,Z,⟨_,aB.of z8.op⟩,?_⟩
 refine lQ (K:=K) (xs:=B.qs.map fun q=>V.ref q.1) (fun i σ H'=>∃ρ' A' s3,σ=[some (.ref A.a),some (.ref B.m),some (.int (aS st)),s3]/\HH T n ρ' A' H' { st with kn:=st.kn+100*i }/\a_ m ρ' B H' b/\A'.a=A.a/\aF (out ρ H) (out ρ' H'))
  ⟨ρ,A,_,Z,kN,z8,Z,o4⟩ (fun i σ H' _ hp=>by obtain ⟨_,_,_,_,_,h,_⟩:=hp;exact aB.of h.op) ?_ ?_
 . rintro i y σ H5 hy ⟨ρ5,A5,s3,rfl,s_,z9,BV,o5⟩
   rw [bK] at hy
   obtain ⟨qq,eq,rfl⟩:=lP.mp hy
   have hib:i<b.ao.length:=by rw [<-hb.ql];exact (eU.mp eq).1
   have ei:=aX hib
   obtain ⟨p,ep,e1,e2,_⟩:=gd.rel.at ei
   have lV:=bV ep
   have hqm:=bV ei
   obtain ⟨k1,k2,_,_⟩:=z9.pt i _ qq ei eq
   refine ⟨_,Z,A.a,A5.dx,_,Z,by rw [<-BV];exact s_.h.oa,Z,_,Z,qq.1,_,_,_,Z,Z,aB.of k1,bg (j:=0) rfl,⟨⟨n,ρ5,A5,_,i,p,by rw [BV,e1];rfl,s_,ep,by show st.kn+100*i+100<=1000000;omega,fun r ws ρ6 A6 H6 BQ T7 f6 hr hr6 cr hSh=>?_⟩⟩⟩
   have uR:=z9.other f6 s_.g (bY nm)
   obtain ⟨k16,k26,_,_⟩:=uR.pt i _ qq ei eq
   have esh:zm { st with kn:=st.kn+100*i } p=fD b.own (b.ao[i]).tops b.bot:=Qv gd.Fl gd.rel hh.wf gd.kg lV hqm e1
   rw [esh] at hSh
   have b1:=gd.kg.b1
   refine ⟨_,Z,B.m,_,Z,cV.k (k:=Sum.inr "owners") uR.om,_,Z,qq.1,_,_,_,Z,Z,aB.of k16,bg (j:=4) rfl,_,Z,B.m,_,Z,cV.k (k:=Sum.inr "bottom") uR.om,⟨⟨r,B.lo,qq.2,ws,b.own,(b.ao[i]).tops,b.bot,Z,hr6,hSh,aB.of uR.oo,aB.of k26,(gd.kg.tl _ hqm).symm,by have:=gd.kg.ol;omega,by omega,gd.kg.bz.mono (by decide),fun H7 g7=>⟨_,Z,cW ?_⟩⟩⟩⟩
   refine ⟨ρ6,A6,_,Z,?_,uR.mono g7,T7.trans BV,(o5.trans f6.out).trans (iM g7)⟩
   have:=BQ.mono g7
   rw [show st.kn+100*(i+1)=st.kn+100*i+100 by omega]
   exact this
 rintro σ H5 ⟨ρ5,A5,s3,rfl,s_,z9,BV,o5⟩
 refine q ρ5 A5 H5 _ s_ ?_ z9 BV o5
 rw [lN];omega
abbrev kH:Stmt:=top 57
abbrev iW:List Str:=["_law_hold","_law_model_here"]
abbrev yH:List Str:=iW.append ["_law_found","_law_at_here","_law_one","_law_due_here"]
theorem gr:aI yH iW (ay kH):=dj
theorem ym {T:TC} (F:At K mg "_law_tells_landed" kH f fd) (ee:Dn P w K mg base 1 "_law_int" kF Dy) (gw:Dn P w K mg base 3 "_law_share_list" iu (vX K)) (sM:Mn P w K mg base 1 T.hold "landed" nJ (J8 T)) (aL:mg "isinstance"=none) (dw:mg "list"=none) (jc:mg "tuple"=none) (lK:mg "str"=none) (bH:mg "range"=none) (bf:mg "len"=none):Dn P w K mg base 4 "_law_tells_landed" iW (tR 1 T K):=by
 refine F.oA gr fun cdv A outer s H vs Q E hr h=>?_
 obtain ⟨⟨n,m,ρ,A,B,st,b,c,rfl,nm,hh,hb,gd,hc,Ew,hkn,q⟩⟩:=h
 refine ⟨_,(@cJ.h _ _ _ (ak (aP (i:=2) gr.nd (tT sM hr (qv 0)))
  (ak (cK (fH (bW.pt (iV (dH (dm (aE (c6 K) (by rfl) aL jK (af (qv 2) (af (jj vO rfl dw) aj))))) (ir (aY oX (aE (bN K) (by rfl) bf dF (af (qv 2) aj)) (aE (bN K) (by rfl) bf dF (af (bR (bZ hr) (qv 1) bu) aj)) (br _)))))) (au (aR fq)) aT)
  (ak (dO d8 rfl (dP (by rfl) bH (af (aE (bN K) (by rfl) bf dF (af (qv 2) aj)) aj)) (aN (i:=3) gr.nd) (ak (aP (i:=4) gr.nd (aK (bQ K) (qv 2) (qv 3)))
  (ak (aP (i:=5) gr.nd (aK (aQ K) (bR (bZ hr) (qv 1) bu) (qv 3)))
  (ak (cK (fH (bW.pt (iV (dH (dm (aE (c6 K) (by rfl) aL jK (af (qv 4) (af (jj O_ rfl jc) aj))))) (iV (aY oX (aE (bN K) (by rfl) bf dF (af (qv 4) aj)) ai (br _)) (ir (dH (dm (aZ ee hr (af (aK (bQ K) (qv 4) ai) aj))))))))) (au (aR fq)) aT)
  (ak (cK (fH (bW.pt (iV (dH (dm (aE (c6 K) (by rfl) aL jK (af (aK (bQ K) (qv 4) ai) (af (jj ER rfl lK) aj))))) (ir (dH (dm (aE (c6 K) (by rfl) aL jK (af (aK (bQ K) (qv 4) ai) (af (jj ER rfl lK) aj))))))))) (au (aR fq)) aT)
  (ak (cK (aY oX (jk (af (aK (bQ K) (qv 4) ai) (af (aK (bQ K) (qv 4) ai) (af (aK (bQ K) (qv 4) ai) aj)))) (jk (af (aK (aQ K) (qv 5) ai) (af (aK (aQ K) (qv 5) ai) (af (aK (aQ K) (qv 5) ai) aj)))) (br _)) (au (aR fq)) aT)
  (au (cK (dH (dm (aZ gw hr (af (aK (bQ K) (qv 4) ai) (af (bR (bZ hr) (qv 1) bu) (af (aK (aQ K) (qv 5) ai) (af (aK (aQ K) (qv 5) ai) aj))))))) (au (aR fq)) aT))))))))
  (au (aR fq)))))),?_⟩
 refine ⟨_,Z,A.a,A.dx,_,Z,hh.h.oa,Z,⟨⟨n,ρ,A,st,Z,hh,fun r ws H1 g1 hr hr1 hL=>?_⟩⟩⟩
 rw [gd.kL.1] at hL
 cases hL
 have hb1:=hb.mono g1
 obtain ⟨vs,hv,hA⟩:=hb1.oa
 rw [gd.kL.2] at hA
 cases hA
 refine ⟨false,?_,cW ?_⟩
 . refine ⟨_,Z,_,_,_,_,Z,gx.lst hr1,ig,_,Z,cW ?_⟩
   exact ⟨_,Z,_,_,Z, .inl (aB.of hr1),_,Z,B.m,_,Z,cV.k (k:=Sum.inr "ashore") hb1.om,_,_,Z, .inl (aB.of hv),Z,_,Z,Z,Z⟩
 refine ⟨_,Z,r,_,Z, .inl (aB.of hr1),_,Z,by decide,by decide,?_⟩
 refine fT (lo:=0) (n:=0) (fun i σ H'=>H'=H1/\σ=[some (.ref A.a),some (.ref B.m),some (.ref r),none,none,none]) ⟨Z,Z⟩ ?_ ?_
 . intro i σ H' hi
   omega
 rintro σ H' ⟨rfl,rfl⟩
 exact q ρ A H' st.kn (hh.mono g1) (by omega) hb1 rfl (iM g1)
abbrev sN:Stmt:=top 58
abbrev pT:List Str:=["_law_hold","_law_model_here"]
abbrev Lr:List Str:=pT.append ["_law_roster"]
theorem yF:aI Lr pT (ay sN):=dj
theorem Ib {T:TC} (F:At K mg "_law_tells" sN f fd) (l_:Dn P w K mg base 5 "_law_tells_parts" jr (tR 1 T K)) (lu:Dn P w K mg base 4 "_law_tells_landed" iW (tR 1 T K)) (sO:Mn P w K mg base 1 T.hold "roster" nF (J6 T)) (aL:mg "isinstance"=none) (dw:mg "list"=none):Dn P w K mg base 6 "_law_tells" pT (tR 2 T K):=by
 refine F.oA yF fun cdv A outer s H vs Q E hr h=>?_
 obtain ⟨⟨n,m,ρ,A,B,st,b,c,rfl,nm,hh,hb,gd,hc,Ew,hkn,q⟩⟩:=h
 refine ⟨_,(@cJ.h _ _ _ (ak (aP (i:=2) yF.nd (tT sO hr (qv 0)))
  (ak (cK (fH (bW.pt (iV (dH (dm (aE (c6 K) (by rfl) aL jK (af (qv 2) (af (jj vO rfl dw) aj))))) (ir (aY (N4 K hr.units) (qv 2) (bR (bZ hr) (qv 1) bu) (br _)))))) (au (aR fq)) aT)
  (au (aR (KU (aZ l_ hr (af (qv 0) (af (qv 1) aj))) (KP (aZ lu hr (af (qv 0) (af (qv 1) aj)))))))))),?_⟩
 refine ⟨_,Z,A.a,A.dx,_,Z,hh.h.oa,Z,⟨⟨n,ρ,A,st,Z,hh.h,fun r hr=>?_⟩⟩⟩
 have g1:=az hr (.lst (st.own.map V.str))
 have hr1:upd H r (.lst (st.own.map V.str)) r=some (.lst (st.own.map V.str)):=ah
 have fX:=hh.mono g1
 have hb1:=hb.mono g1
 have eo:=gd.rel.own
 show gi 2 (.ref r) _ (upd H r (.lst (st.own.map V.str))) _
 generalize upd H r (.lst (st.own.map V.str))=H1 at *
 rw [eo] at hr1
 refine ⟨false,?_,cW ?_⟩
 . refine ⟨_,Z,_,_,_,_,Z,gx.lst hr1,ig,_,Z,cW ?_⟩
   refine ⟨_,Z,_,Z,B.m,_,Z,cV.k (k:=Sum.inr "owners") hb1.om,_,_, .lst (aB.of hr1) (Fo b.own), .lst (aB.of hb1.oo) (Fo b.own),BH b.own Ew,BH b.own Ew,_,Z,?_,Z⟩
   rw [VC]
   rfl
 refine ⟨_,Z,_,Z,⟨⟨n,m,ρ,A,B,st,b,c,Z,nm,fX,hb1,gd,hc,Ew,by omega,fun ρ2 A2 H2 k iO hk hb2 ea2 o2=>⟨true,Z,rO ?_⟩⟩⟩⟩
 refine ⟨_,Z,_,Z,⟨⟨n,m,ρ2,A2,B,_,b,c,by rw [ea2];rfl,nm,iO,hb2,WI gd k,hc,Ew,by show k+15000*1<=1000000;omega,fun ρ3 A3 H3 k3 lI hk3 z7 W8 o3=>?_⟩⟩⟩
 have hk3:k3<=k+15000*1:=hk3
 exact q ρ3 A3 H3 k3 lI (by omega) z7 (W8.trans ea2) (((iM g1).trans o2).trans o3)
abbrev sP:Stmt:=top 59
abbrev pU:List Str:=["_law_owners"]
abbrev Ls:List Str:=pU.append ["_law_hold","_law_owner"]
theorem sQ:aI Ls pU (ay sP):=dj
theorem Ic {T:TC} (F:At K mg "_law_begin" sP f fd) (Lu:Cn P w K mg base 3 "Hold" T.hold ["self"] (Oe T)) (wc:Mn P w K mg base 3 T.hold "sign" qX (Oh T)):Dn P w K mg base 5 "_law_begin" pU (Om T K):=by
 refine F.oA sQ fun cdv A outer s H vs Q E hr h=>?_
 obtain ⟨⟨l,own,n,ρ,rfl,hl,cl,nd,hnm,hle,g,q⟩⟩:=h
 refine ⟨_,(@cJ.h _ _ _ (ak (aP (i:=1) sQ.nd (Tv Lu hr))
  (ak (dO d8 rfl (di K (qv 0)) (aN (i:=2) sQ.nd) (au (c8 (gF wc hr (qv 1) (af (qv 2) aj)))))
  (au (aR (qv 1)))))),?_⟩
 intro x dx hx hdx hne
 refine ⟨⟨x,dx,ρ,n,Z,ah,(g.alloc hdx).alloc (by rw [av (bY hne)];exact hx),g.none hx,fun ρ1 A H1 ea hh k=>⟨Z,?_⟩⟩⟩
 have F1:Fr n ρ H ρ1 H1:=fun b o e _=>k b o (by rw [av (aH e hx),av (aH e hdx)];exact e) (aH e hx)
 refine ⟨_,Z,l,Z,⟨_,F1.seq hl cl⟩,?_⟩
 refine lQ (K:=K) (xs:=own.map V.str) (fun i σ H'=>∃ρ' A' s2,σ=[some (.ref l),some (.ref x),s2]/\A'.a=x/\HH T n ρ' A' H' ((own.take i).foldl gy hs0)/\Fr n ρ H ρ' H')
  ⟨ρ1,A,none,Z,ea,hh,F1⟩ (fun i σ H' _ hp=>by obtain ⟨_,_,_,_,_,_,f⟩:=hp;exact f.seq hl cl) ?_ ?_
 . rintro i y σ H' hy ⟨ρ',A',s2,rfl,ea',Eb,F'⟩
   rw [bK] at hy
   obtain ⟨o,eo,rfl⟩:=lP.mp hy
   have hi:=(eU.mp eo).1
   have hos:=zy (own.take i) hs0
   have abO:((own.take i).foldl gy hs0).own=own.take i:=by rw [hos];rfl
   refine ⟨_,Z,x,A'.dx,_,Z,ea'▸Eb.h.oa,Z,_,Z,⟨⟨n,ρ',A',_,o,by rw [ea'];rfl,Eb,hnm o (bV eo),?_,?_,fun ρ2 A2 H2 h2 e2 F2=>?_⟩⟩⟩
   . rw [abO]
     intro m
     have h2:(own.take (i+1)).Nodup:=nd.sublist (List.take_sublist _ _)
     rw [take_snoc eo] at h2
     exact (List.nodup_append.mp h2).2.2 o m o (fZ.mpr rfl) rfl
   . rw [abO,kY]
     omega
   . rw [take_snoc eo,Jp]
     exact ⟨ρ2,A2,_,Z,e2.trans ea',h2,F'.trans F2⟩
 rintro σ H' ⟨ρ',A',s2,rfl,ea',Eb,F'⟩
 rw [aG,cA] at Eb
 have:=q ρ' A' H' Eb F'
 rw [ea'] at this
 exact ⟨_,Z,this⟩
abbrev wg:Stmt:=top 45
abbrev tN:List Str:=["_law_at_here"]
abbrev QT:List Str:=tN
theorem MR:aI QT tN (ay wg):=dj
theorem MS (F:At K mg "_law_hot" wg f fd) (bH:mg "range"=none):Dn P w K mg base 1 "_law_hot" tN QA:=by
 refine F.oA MR fun cdv A outer s H vs Q E hr h=>?_
 obtain ⟨⟨n,rfl,q⟩⟩:=h
 refine ⟨_,(@cJ.h _ _ _ (au (aR (aD m7 (dQ (af fq aj)) (fG ["_law_k","_law_at_here"] [none,some 0] rfl (dP (by rfl) bH (af ai aj)) (fun _ _ _ _=>(aN (i:=0) (show List.Nodup (["_law_k","_law_at_here"] :List Str) from by decide +kernel))) (fun _ _ _ _=>(qC iU (qv 0) (qv 1) (br _))) rfl (by rfl)))))),?_⟩
 refine ⟨(iE 1),fun p1 hp1=>?_⟩
 have g1:aF H (upd H p1 (.lst [.bl true])):=az hp1 _
 have h1:upd H p1 (.lst [.bl true]) p1=some (.lst [.bl true]):=ah
 generalize upd H p1 (.lst [.bl true])=H1 at g1 h1
 refine ⟨10,Z,(by decide),(by decide),fun acc hacc=>?_⟩
 refine Qf (n:=(10:Int).toNat) (fun i out H'=>aF H1 H'/\out=((List.range i).map fun k=>V.bl (decide (k=n)))) (by decide) ⟨az hacc _,Z⟩ ?_ ?_
 . rintro i out H' hi dX ha ⟨g,e⟩
   refine ⟨_,Z,_,Z,Z,ha,g.cu hacc _,?_⟩
   rw [List.range_succ,bF,e]
   congr 1
   show [V.bl (decide (V.int (0+(i:Int))=V.int (n:Int)))]=[V.bl (decide (i=n))]
   congr 2
   exact decide_eq_decide.mpr ⟨fun z=>by have:=V.int.inj z;omega,fun z=>by rw [z];congr 1;omega⟩
 rintro out H' dX ha ⟨g,e⟩
 refine ⟨p1,acc,_,_,Z,Z,g _ _ h1,ha,(by rw [dX,fm];decide),fun p hp=>q p _ (g1.trans (g.trans (az hp _))) ?_⟩
 rw [ah,e]
 show some (HO.lst (V.bl true::_))=some (HO.lst ((true::(List.range 10).map fun k=>decide (k=n)).map V.bl))
 rw [bJ,iS]
 rfl
abbrev yo:Stmt:=top 38
abbrev vL:List Str:=["_law_parts","_law_name_here"]
abbrev T8:List Str:=vL.append ["_law_at_here"]
theorem Ex:aI T8 vL (ay yo):=dj
theorem QU (F:At K mg "_law_at" yo f fd) (bf:mg "len"=none) (bH:mg "range"=none):Dn P w K mg base 1 "_law_at" vL (WG K):=by
 refine F.oA Ex fun cdv A outer s H vs Q E hr h=>?_
 obtain ⟨⟨l,us,ws,j,r,rfl,hl,hW,nd,hle,ej,q⟩⟩:=h
 refine ⟨_,(@cJ.h _ _ _ (ak (dO d8 rfl (dP (by rfl) bH (af (aE (bN K) (by rfl) bf dF (af (qv 0) aj)) aj)) (aN (i:=2) Ex.nd) (au (cK (aY iU (aK (oH K) (aK (aQ K) (qv 0) (qv 2)) ai) (qv 1) (br _)) (au (aR (qv 2))) aT)))
  (au (aR (AQ wI ai))))),?_⟩
 have ll:=hW.len
 have hj:j<ws.length:=(eU.mp ej).1
 refine ⟨_,Z,l,_,Z, .inl hl,_,Z,by omega,by omega,?_⟩
 refine fT (lo:=0) (n:=((us.length:Nat):Int).toNat) (fun i σ H'=>H'=H/\i<=j/\∃s2,σ=[some (.ref l),some (.str r.1),s2]) ⟨Z,fC _,_,Z⟩ ?_ ?_
 . rintro i σ H' hi ⟨rfl,hn,s2,rfl⟩
   have e0:(0:Int)+(i:Int)=((i:Nat):Int):=by omega
   rw [e0]
   have hio:i<ws.length:=by omega
   have ei:=aX hio
   obtain ⟨a,xs,ea,OZ,x0,_⟩:=hW.at_ i _ ei
   refine ⟨_,Z,_,Z,l,_,_,_,Z,Z,hl,bg ea,OZ.ix (i:=0) x0 ?_⟩
   refine ⟨_,Z,Z,_,Z,eF (fun c=>?_) (fun c=>?_)⟩
   . have c':(ws[i]).1=r.1:=V.str.inj (eE c)
     have:i=j:=by
      have r1:(ws.map (fun r:Row=>r.1))[i]?=some (ws[i]).1:=by rw [bK,ei];rfl
      have r2:(ws.map (fun r:Row=>r.1))[j]?=some r.1:=by rw [bK,ej];rfl
      exact (Px (by rw [aG];exact hio) nd).mp (r1.trans (by rw [c'];exact r2.symm))
     subst this
     exact ⟨_,Z,q⟩
   . refine ⟨Z,?_,_,Z⟩
     rcases Nat.lt_or_ge i j with z|z
     . exact z
     . have:i=j:=by omega
       subst this
       rw [ei] at ej
       cases ej
       exact absurd (cG rfl) c
 rintro σ H' ⟨rfl,hn,s2,rfl⟩
 omega
abbrev uS:Stmt:=top 37
abbrev rA:List Str:=["_law_script","_law_k","_law_parts"]
abbrev MT:List Str:=rA.append ["_law_spare","_law_order","_law_rows_here","_law_at_here","_law_way","_law_amount"]
theorem fM:aI MT rA (ay uS):=dj
theorem Lv (F:At K mg "_law_rows" uS f fd) (aM:Dn P w K mg base 1 "_law_draw" fj (lR K)) (bf:mg "len"=none) (bH:mg "range"=none) (dw:mg "list"=none) (d_:mg "sum"=none) (tO:mg "min"=none):Dn P w K mg base 2 "_law_rows" rA (OA K):=by
 refine F.oA fM fun cdv A outer s H vs Q E hr h=>?_
 obtain ⟨⟨a,l,ns,k,us,ws,rfl,hS,h63,hk0,hk1,hl,hW,nd,hle,hw1,q⟩⟩:=h
 refine ⟨_,(@cJ.h _ _ _ (ak (aP (i:=3) fM.nd (aD jL (aE (jg K rfl) (by rfl) d_ tW (af (fG ["_law_part"] [none] rfl (di K (qv 2)) (fun _ _ _ _=>(aN (i:=0) (show List.Nodup (["_law_part"] :List Str) from by decide +kernel))) (fun _ _ _ _=>(aK (oH K) (qv 0) ai)) rfl (by rfl)) aj)) ai))
  (ak (aP (i:=4) fM.nd (lU (Hy rfl) (by rfl) dw vO (af (Tr (by rfl) bH (af (aE (bN K) (by rfl) bf dF (af (qv 2) aj)) aj)) aj)))
  (ak (gX (aY iU (aZ aM hr (af (qv 0) (af (qv 1) (af ai (af ai aj))))) ai (br _)) (au (aP (i:=4) fM.nd (abc K (qv 4) (AQ wI ai)))) aT)
  (ak (aP (i:=5) fM.nd (dQ aj))
  (ak (dO d8 rfl (di K (qv 4)) (aN (i:=6) fM.nd) (ak (aP (i:=7) fM.nd (aZ aM hr (af (qv 0) (af (qv 1) (af (aD bP ai (aD iK ai (qv 6))) (af ai aj))))))
  (ak (aP (i:=8) fM.nd (aE (SW rfl) (by rfl) tO PyProof.Rows.boot_min (af (aK (oH K) (aK (aQ K) (qv 2) (qv 6)) ai) (af (qv 3) (af (aD mZ ai ai) aj)))))
  (ak (gX (fH (bW.pt (xm (aY iU (qv 7) ai (br _)) (xh (aY jE (qv 8) ai (br _)))))) (au (aP (i:=8) fM.nd (aD bP ai (aZ aM hr (af (qv 0) (af (qv 1) (af (aD bP ai (aD iK ai (qv 6))) (af (qv 8) aj)))))))) aT)
  (au (gX (fH (bW.pt (xm (aY jE (qv 7) ai (br _)) (xh (aY jE (qv 8) ai (br _)))))) (ak (c8 (tM xC xy xA gU (qv 5) (af (jk (af (aK (oH K) (aK (aQ K) (qv 2) (qv 6)) ai) (af (qv 8) aj))) aj)))
  (au (aP (i:=3) fM.nd (aD jL (qv 3) (qv 8))))) aT))))))
  (au (aR (qv 5))))))))),?_⟩
 have ll:=hW.len
 refine ⟨_,Z,l,Z,⟨_,hl⟩,fun l0 iF=>?_⟩
 refine gC (J:=rF K l) (n:=us.length) 0 (fun i o H'=>aF H H'/\o=((ws.take i).map (fun r:Row=>r.2)).map V.int) (by omega) ⟨az iF _,Z⟩ (fun i o H' hi _ hp=>⟨_,_,hp.1.seq hl,aX hi⟩) (fun o H' _ hp=>⟨_,hp.1.seq hl,aO _⟩) ?_ ?_
 . rintro i y o H2 H3 hi dX ha ⟨g,e⟩ ⟨rfl,hy⟩
   have hiw:i<ws.length:=by omega
   have ei:=aX hiw
   obtain ⟨ar,xs,ea,OZ,x0,x2⟩:=hW.at_ i _ ei
   have ey:=hy _ (g.seq hl)
   rw [ea] at ey
   cases ey
   refine ⟨_,Z,(g.sq OZ).ix (i:=2) x2 ?_⟩
   refine ⟨ha,g.cu iF _,?_⟩
   subst e
   rw [take_snoc ei,bF,bF]
   rfl
 rintro o1 H1 _ ha ⟨g1,e⟩
 rw [ll,cA] at e
 subst e
 refine ⟨l0,ws.map (fun r:Row=>r.2),Z,aB.of ha,_,_,Z,Z,?_⟩
 show gi 3 (.int (bD ws-1)) _ _ _
 refine ⟨_,Z,l,_,Z, .inl (g1.seq hl),_,Z,fun pr hpr=>?_⟩
 refine ⟨pr,ws.length,Z,?_,by omega,fun po hpo=>?_⟩
 . rw [ah,ll]
 have gA:=(az hpr (.vh 0 ((us.length:Nat):Int))).trans (az hpo (.lst ((L2.upTo ws.length).map V.int)))
 have gB:=g1.trans gA
 have hord:upd (upd H1 pr (.vh 0 ((us.length:Nat):Int))) po (.lst ((L2.upTo ws.length).map V.int)) po=some (.lst ((L2.upTo ws.length).map V.int)):=ah
 generalize upd (upd H1 pr (.vh 0 ((us.length:Nat):Int))) po (.lst ((L2.upTo ws.length).map V.int))=H2 at *
 have ndo:(L2.upTo ws.length).Nodup:=by
  unfold L2.upTo
  refine List.Pairwise.map _ (fun x y h e=>h (by omega)) List.nodup_range
 have vh:∀x∈L2.upTo ws.length,0<=x/\x<(ws.length:Int):=fun x hx=>by
  unfold L2.upTo at hx
  obtain ⟨i,hi,rfl⟩:=cD.mp hx
  have:=xJ.mp hi
  omega
 have lup:(L2.upTo ws.length).length=ws.length:=by unfold L2.upTo;rw [aG,BZ]
 refine ⟨fun σ H3=>aF H H3/\∃(pq:Addr) (os:List Int),σ=[some (.ref a),some (.int k),some (.ref l),some (.int (bD ws-1)),some (.ref pq),none,none,none,none]/\H3 pq=some (.lst (os.map V.int))/\os.Nodup/\os.length=ws.length/\∀x∈os,0<=x/\x<(ws.length:Int),?_,?_⟩
 . refine ⟨_,Z,_,Z,cM (gB.seq hS) h63 hk0 (by decide) (by decide) (by decide) fun d _ d0 d1=>⟨Z,_,Z,eF (fun c=>?_) (fun c=>?_)⟩⟩
   . refine ⟨_,Z,_,Z,Z,po,_,Z,aB.of hord,fun pz hpz=>?_⟩
     have g3:=az hpz (.lst ((L2.upTo ws.length).map V.int).reverse)
     exact ⟨gB.trans g3,pz,(L2.upTo ws.length).reverse,Z,by rw [ah,List.map_reverse],List.pairwise_reverse.mpr (List.Pairwise.imp (fun h=>bY h) ndo),by rw [List.length_reverse,lup],fun x hx=>vh x (List.mem_reverse.mp hx)⟩
   . exact ⟨gB,po,L2.upTo ws.length,Z,hord,ndo,lup,vh⟩
 rintro σ H3 ⟨g3,pq,os,rfl,hos,hnd,dX,hrg⟩
 refine ⟨(iE 0),fun z hz=>?_⟩
 have g4:=az hz (.lst [])
 have hzz:upd H3 z (.lst []) z=some (.lst []):=ah
 have abP:=g4 _ _ hos
 have nz:pq≠z:=fun e=>by rw [e,hz] at hos;cases hos
 have hzH:H z=none:=g3.free hz
 have OW:=g3.trans g4
 show B7 _ _ _ _ (upd H3 z (.lst []))
 generalize upd H3 z (.lst [])=H4 at *
 have w1:ws≠[]->1<=bD ws:=fun hne=>by
  cases ws with
  | nil=>exact absurd rfl hne
  | cons r rs=>
    have h1:=hw1 r cO
    have h2:=Co (rs:=rs) fun x hx=>hw1 x (cI _ hx)
    rw [show bD (r::rs)=r.2+bD rs from by unfold bD;rw [bJ,cQ]]
    omega
 refine ⟨_,Z,pq,Z,⟨_,aB.of abP⟩,?_⟩
 refine lQ (K:=K) (xs:=os.map V.int) (fun i σ H'=>aF H H'/\H' pq=some (.lst (os.map V.int))/\∃(zs:List V) (rs:List Row) (sp:Int) (s6 s7 s8:Option V),σ=[some (.ref a),some (.int k),some (.ref l),some (.int sp),some (.ref pq),some (.ref z),s6,s7,s8]/\H' z=some (.lst zs)/\gk H' zs rs/\rs.length<=i/\(rs.map (fun r:Row=>r.1)).Nodup/\
   sp=bD ws-1-bD rs/\(ws≠[]->0<=sp)/\∀r∈rs,1<=r.2/\r.2<=1000000000/\∃j:Nat,((j:Nat):Int)∈os.take i/\∃w,ws[j]?=some w/\w.1=r.1/\r.2<=w.2)
  ⟨OW,abP,[],[],bD ws-1,none,none,none,Z,hzz, .nil,aO _,vd,by show _=bD ws-1-0;omega,fun hne=>by have:=w1 hne;omega,fun r hr=>absurd hr (by simp)⟩ ?_ ?_ ?_
 . rintro i σ H' _ ⟨_,h,_⟩
   exact aB.of h
 . rintro i x σ H5 hx ⟨g5,hq5,zs,rs,sp,s6,s7,s8,rfl,O0,hR,hrl,W9,oZ,QV,CK⟩
   rw [bK] at hx
   obtain ⟨at',hat,rfl⟩:=lP.mp hx
   have hio:=(eU.mp hat).1
   obtain ⟨t0,t1⟩:=hrg at' (bV hat)
   obtain ⟨jt,hjt⟩:∃jt:Nat,((jt:Nat):Int)=at':=⟨at'.toNat,by omega⟩
   subst hjt
   have hjl:jt<ws.length:=by omega
   have hne:ws≠[] :=fun e=>by rw [e] at hjl;simp at hjl
   have agI:=QV hne
   have hnot:((jt:Nat):Int)∉os.take i:=fun m=>by
    obtain ⟨j,hj,ej⟩:=List.mem_iff_getElem.mp m
    rw [List.getElem_take] at ej
    rw [kY] at hj
    have e2:=(eU.mp hat).2
    have:=(List.getElem_inj hnd).mp (ej.trans e2.symm)
    omega
   have ej:=aX hjl
   have hwj:=hw1 _ (bV ej)
   generalize ws[jt]=wj at *
   obtain ⟨ar,xs,ea,OZ,x0,x2⟩:=hW.at_ jt _ ej
   refine ⟨_,Z,_,Z,_,Z,_,_,Z,Z, .inl ⟨by decide,by decide⟩,_,_,Z,Z,cM (g5.seq hS) h63 hk0 (by omega) (by omega) (by decide) fun way _ v0 v1=>?_⟩
   refine ⟨_,Z,_,Z,l,_,_,_,Z,Z,g5.seq hl,bg ea,(g5.sq OZ).ix (i:=2) x2 ?_⟩
   refine ⟨_,Z,_,_,Z,Z,⟨by decide,by decide,by decide⟩,_,_,_,Z,?_⟩
   obtain ⟨m1,m2,m3⟩:=Yk wj.2 sp ((10:Int) ^ (9:Int).toNat)
   have m0:0<=uh wj.2 sp ((10:Int) ^ (9:Int).toNat):=Yl (by omega) agI (by decide)
   have m3:uh wj.2 sp ((10:Int) ^ (9:Int).toNat)<=1000000000:=m3
   generalize uh wj.2 sp ((10:Int) ^ (9:Int).toNat)=m at *
   refine ⟨fun σ H6=>H5=H6/\∃m:Int,0<=m/\m<=sp/\m<=wj.2/\m<=1000000000/\σ=[some (.ref a),some (.int k),some (.ref l),some (.int sp),some (.ref pq),some (.ref z),some (.int (jt:Int)),some (.int way),some (.int m)],?_,?_⟩
   . refine ⟨decide (way=2/\0<m),?_,?_⟩
     . refine ⟨_,Z,Z,_,Z,?_⟩
       by_cases h1:way=2
       . rw [cG (by rw [h1] :V.int way=V.int 2)]
         refine rO ⟨_,Z,_,_,Z,Z,_,Z,?_,Z⟩
         by_cases h2:0<m
         . rw [cG h2,cG ⟨h1,h2⟩]
         . rw [d7 h2,d7 fun z=>h2 z.2]
       . rw [d7 (fun z=>h1 (V.int.inj z))]
         exact cW ⟨(d7 fun z=>h1 z.1).symm,Z⟩
     refine eF (fun c=>?_) (fun c=>?_)
     . obtain ⟨_,c2⟩:=eE c
       refine ⟨_,Z,_,Z,_,Z,_,_,Z,Z, .inl ⟨by decide,by decide⟩,_,_,Z,Z,_,Z,cM (g5.seq hS) h63 hk0 (by omega) (by omega) c2 fun d _ d0 d1=>⟨_,_,Z,Z,Z,1+d,by omega,by omega,by omega,by omega,Z⟩⟩
     . exact ⟨Z,m,m0,m2,m1,m3,Z⟩
   rintro σ H6 ⟨rfl,o,o0,o1,o2,o3,rfl⟩
   have grow:∀r∈rs,1<=r.2/\r.2<=1000000000/\∃j:Nat,((j:Nat):Int)∈os.take (i+1)/\∃w,ws[j]?=some w/\w.1=r.1/\r.2<=w.2:=fun r hr=>by
    obtain ⟨a1,a2,j,a3,a4⟩:=CK r hr
    exact ⟨a1,a2,j,by rw [take_snoc hat];exact ES _ a3,a4⟩
   refine ⟨fun σ H6=>aF H H6/\H6 pq=some (.lst (os.map V.int))/\∃(zs:List V) (rs:List Row) (sp:Int) (s6 s7 s8:Option V),σ=[some (.ref a),some (.int k),some (.ref l),some (.int sp),some (.ref pq),some (.ref z),s6,s7,s8]/\H6 z=some (.lst zs)/\gk H6 zs rs/\rs.length<=i+1/\(rs.map (fun r:Row=>r.1)).Nodup/\
    sp=bD ws-1-bD rs/\(ws≠[]->0<=sp)/\∀r∈rs,1<=r.2/\r.2<=1000000000/\∃j:Nat,((j:Nat):Int)∈os.take (i+1)/\∃w,ws[j]?=some w/\w.1=r.1/\r.2<=w.2,?_,fun _ _ h=>h⟩
   refine ⟨decide (0<way/\0<o),?_,?_⟩
   . refine ⟨_,Z,_,_,Z,Z,_,Z,?_⟩
     by_cases h1:0<way
     . rw [cG h1]
       refine rO ⟨_,Z,_,_,Z,Z,_,Z,?_,Z⟩
       by_cases h2:0<o
       . rw [cG h2,cG ⟨h1,h2⟩]
       . rw [d7 h2,d7 fun z=>h2 z.2]
     . rw [d7 h1]
       exact cW ⟨(d7 fun z=>h1 z.1).symm,Z⟩
   refine eF (fun c=>?_) (fun c=>?_)
   . obtain ⟨_,c2⟩:=eE c
     refine ⟨_,Z, .inl ⟨Z,_,aB.of O0⟩,_,Z,_,Z,l,_,_,_,Z,Z,g5.seq hl,bg ea,(g5.sq OZ).ix (i:=0) x0 ?_⟩
     refine ⟨_,Z,(iE 2),fun p hp=>?_⟩
     have g6:=az hp (zz (wj.1,o))
     have hz6:=g6 _ _ O0
     have hq6:=g6 _ _ hq5
     have OP:upd H5 p (zz (wj.1,o)) p=some (zz (wj.1,o)):=ah
     have agJ:=hR.length
     show oY _ (upd H5 p (zz (wj.1,o))) _
     generalize upd H5 p (zz (wj.1,o))=H6 at *
     refine ⟨z,_,_,Z,Z,hz6,by rw [agJ];exact eY (by omega),?_⟩
     have np:p≠z:=fun e=>by rw [e,O0] at hp;cases hp
     have tu:∀b ys,H6 b=some (.tup ys)->upd H6 z (.lst (zs++[.ref p])) b=some (.tup ys):=kP (.inr ⟨_,hz6,Z⟩)
     refine ⟨_,Z,_,Z,_,_,Z,Z,(g5.trans g6).cu hzH _,by rw [av nz];exact hq6,zs++[.ref p],rs++[(wj.1,o)],sp-o,_,_,_,Z,ah,((hR.mono g6.tups).snoc OP).mono tu,by rw [dg];show rs.length+1<=i+1;omega,?_,?_,fun _=>by omega,?_⟩
     . rw [bF]
       refine ou W9 fun hm=>?_
       obtain ⟨r,hr,er⟩:=cD.mp hm
       obtain ⟨_,_,j,hj,w,abR,e1,_⟩:=CK r hr
       have hj2:j<ws.length:=(eU.mp abR).1
       have r1:(ws.map (fun r:Row=>r.1))[j]?=some w.1:=by rw [bK,abR];rfl
       have r2:(ws.map (fun r:Row=>r.1))[jt]?=some wj.1:=by rw [bK,ej];rfl
       have er:r.1=wj.1:=er
       have:j=jt:=(Px (by rw [aG];exact hj2) nd).mp (r1.trans (by rw [e1,er];exact r2.symm))
       rw [this] at hj
       exact hnot hj
     . rw [show bD (rs++[(wj.1,o)])=bD rs+o from by unfold bD;rw [bF,List.sum_append];simp]
       omega
     . intro r hr
       rcases gh.mp hr with h1|h1
       . exact grow r h1
       . rw [fZ.mp h1]
         exact ⟨by show 1<=o;omega,o3,jt,by rw [take_snoc hat];exact jy _ (fZ.mpr rfl),wj,ej,Z,o2⟩
   . exact ⟨g5,hq5,zs,rs,sp,_,_,_,Z,O0,hR,by omega,W9,oZ,QV,grow⟩
 rintro σ H5 ⟨g5,hq5,zs,rs,sp,s6,s7,s8,rfl,O0,hR,hrl,W9,oZ,QV,CK⟩
 rw [aG,dX] at hrl
 refine ⟨_,Z,q z zs rs H5 g5 hzH O0 hR ⟨W9,fun r hr=>?_,?_,hrl⟩⟩
 . obtain ⟨a1,a2,j,_,w,hw,e1,e2⟩:=CK r hr
   exact ⟨a1,a2,w,bV hw,e1,e2⟩
 . by_cases c:ws=[]
   . right
     rw [c] at hrl
     exact List.length_eq_zero_iff.mp (by simpa using hrl)
   . left
     have:=QV c
     omega
abbrev uT:Stmt:=top 39
abbrev nq:List Str:=["_law_model_here","_law_amounts","_law_seat_here","_law_award"]
abbrev MU:List Str:=nq.append ["_law_parts","_law_whole","_law_kept","_law_given","_law_at_here","_law_k"]
theorem iP:aI MU nq (ay uT):=dj
theorem Lw (F:At K mg "_law_bear" uT f fd) (bf:mg "len"=none) (bH:mg "range"=none) (d_:mg "sum"=none):Dn P w K mg base 1 "_law_bear" nq (Kq K):=by
 refine F.oA iP fun cdv A outer s H vs Q E hr h=>?_
 obtain ⟨⟨n,ρ,B,b,l,as,seat,aw,rfl,G,h,wf,hl,cl,ok,q⟩⟩:=h
 refine ⟨_,(@cJ.h _ _ _ (ak (aP (i:=4) iP.nd (bR (bZ hr) (qv 0) bu))
  (ak (aP (i:=5) iP.nd (aE (jg K rfl) (by rfl) d_ tW (af (fG ["_law_part"] [none] rfl (di K (qv 4)) (fun _ _ _ _=>(aN (i:=0) (show List.Nodup (["_law_part"] :List Str) from by decide +kernel))) (fun _ _ _ _=>(aK (aQ K) (qv 0) ai)) rfl (by rfl)) aj)))
  (ak (aP (i:=6) iP.nd (aD jL (aD jL (qv 5) (qv 3)) (aE (jg K rfl) (by rfl) d_ tW (af (qv 1) aj))))
  (ak (aP (i:=7) iP.nd (dQ aj))
  (ak (dO d8 rfl (dP (by rfl) bH (af (aE (bN K) (by rfl) bf dF (af (bR (bZ hr) (qv 0) bu) aj)) aj)) (aN (i:=8) iP.nd) (au (c8 (tM xC xy xA gU (qv 7) (af (aE (jg K rfl) (by rfl) d_ tW (af (fG ["_law_k","_law_parts","_law_at_here","_law_amounts"] [none,some 4,some 8,some 1] rfl (dP (by rfl) bH (af (aE (bN K) (by rfl) bf dF (af (qv 4) aj)) aj)) (fun _ _ _ _=>(aN (i:=0) (show List.Nodup (["_law_k","_law_parts","_law_at_here","_law_amounts"] :List Str) from by decide +kernel))) (fun _ _ _ _=>(aD jN (aK (aQ K) (aK (aQ K) (aK (aQ K) (qv 1) (qv 0)) ai) (qv 2)) (aK (aQ K) (qv 3) (qv 0)))) rfl (by rfl)) aj)) aj)))))
  (ak (gX (aY jE (qv 3) ai (br _)) (au (uy (aD bP (aK (aQ K) (qv 7) (qv 2)) (aD jN (qv 3) (bR (bZ hr) (qv 0) bu))) (uz (qv 7) (qv 2) set_list))) aT)
  (ak (dO d8 rfl (dP (by rfl) bH (af (aE (bN K) (by rfl) bf dF (af (qv 4) aj)) aj)) (aN (i:=9) iP.nd) (ak (uy (fG ["_law_at_here","_law_parts","_law_k","_law_kept","_law_given"] [none,some 4,some 9,some 6,some 7] rfl (dP (by rfl) bH (af (aE (bN K) (by rfl) bf dF (af (qv 7) aj)) aj)) (fun _ _ _ _=>(aN (i:=0) (show List.Nodup (["_law_at_here","_law_parts","_law_k","_law_kept","_law_given"] :List Str) from by decide +kernel))) (fun _ _ _ _=>(aD bP (aD jN (aK (aQ K) (aK (aQ K) (aK (aQ K) (qv 1) (qv 2)) ai) (qv 0)) (qv 3)) (aK (aQ K) (qv 4) (qv 0)))) rfl (by rfl)) (uz (aK (aQ K) (qv 4) (qv 9)) ai set_list))
  (au (uy (aD jL (aK (aQ K) (aK (aQ K) (qv 4) (qv 9)) ai) (aK (aQ K) (qv 1) (qv 9))) (uz (aK (aQ K) (qv 4) (qv 9)) ai set_list)))))
  (ak (qB (bZ hr) (qv 0) bu (aD jN (bR (bZ hr) (qv 0) bu) (qv 5)) rfl)
  (au (qB (bZ hr) (qv 0) bu (KR ["_law_part"] [none] rfl (di K (qv 4)) (fun _ _ _ _=>(aN (i:=0) (show List.Nodup (["_law_part"] :List Str) from by decide +kernel))) (fun _ _ _ _=>(qv 0)) (fun _ _ _ _=>(aY jE (aK (aQ K) (qv 0) ai) ai (br _))) rfl (by rfl)) rfl))))))))))),?_⟩
 have pl:=wf.pl
 have lN:(B.qs.map fun q=>V.ref q.1).length=b.ao.length:=by rw [aG];exact h.ql
 refine ⟨_,Z,B.m,_,Z,cV.k (k:=Sum.inr "parts") h.om,?_⟩
 refine ⟨_,Z,B.lp,Z,⟨_,aB.of h.op⟩,fun l0 iF=>?_⟩
 refine gC (J:=rF K B.lp) (n:=b.ao.length) 0 (fun i o H'=>aF H H'/\o=((b.ao.take i).map (fun p:BP=>p.wo)).map V.int) (by omega) ⟨az iF _,Z⟩ (fun i o H' hi _ hp=>⟨_,_,aB.of (hp.1 _ _ h.op),aX (by rw [lN];exact hi)⟩) (fun o H' _ hp=>⟨_,aB.of (hp.1 _ _ h.op),by rw [lN];exact aO _⟩) ?_ ?_
 . rintro i y o H2 H3 hi dX ha ⟨g,e⟩ ⟨rfl,hy⟩
   have ei:=aX hi
   obtain ⟨qq,eq,k1,k2,_,_⟩:=h.find ei
   have ey:=hy _ (aB.of (g _ _ h.op))
   rw [bK,eq] at ey
   cases ey
   refine ⟨_,Z,qq.1,_,_,_,Z,Z,aB.of (g _ _ k1),bg (j:=2) rfl,ha,g.cu iF _,?_⟩
   subst e
   rw [take_snoc ei,bF,bF]
   rfl
 rintro o1 H1 _ ha ⟨g1,e⟩
 rw [cA] at e
 subst e
 refine ⟨l0,b.ao.map (fun p:BP=>p.wo),Z,aB.of ha,?_⟩
 show gi 5 (.int (bh b)) _ _ _
 refine ⟨_,Z,_,Z,_,_,Z,Z,_,Z,l,as,Z,g1.seq hl,_,_,Z,Z,?_⟩
 show gi 6 (.int (bh b-aw-as.sum)) _ _ _
 generalize ekp:bh b-aw-as.sum=kept at *
 have hkp:0<kept:=by rw [<-ekp];exact ok.kept
 have zw:=ok.big
 have as0:0<=as.sum:=by
  cases has:as with
  | nil=>exact lD _
  | cons a l=>exact Int.le_trans (ok.a0 a (by rw [has];exact cO)) (by rw [<-has];exact vB ok.a0 (by rw [has];exact cO))
 have zk:Jm.Sz 60 kept:=zw.of_le (by have:=ok.BC;omega)
 have za:∀a∈as,Jm.Sz 60 a:=fun a hm=>zw.of_le (by have:=ok.a0 a hm;have:=vB ok.a0 hm;have:=ok.BC;omega)
 have zaw:Jm.Sz 60 aw:=zw.of_le (by have:=ok.BC;omega)
 have zt:∀p∈b.ao,∀t∈p.tops,Jm.Sz 7000 t:=fun p hp t ht=>Jm.Sz.m8 (by have:=wf.t0 p hp t ht;have:=wf.b1;omega) (wf.t0 p hp t ht).2 wf.bz
 have h1:=h.mono g1
 have hl1:=g1.seq hl
 refine ⟨(iE 0),fun gv hgv=>?_⟩
 have g2:=az hgv (.lst [])
 have WD:upd H1 gv (.lst []) gv=some (.lst []):=ah
 have V2:H gv=none:=g1.free hgv
 have TV:=g1.trans g2
 show B7 _ _ _ _ (upd H1 gv (.lst []))
 generalize upd H1 gv (.lst [])=H2 at *
 have h2:=h.mono TV
 have ol:=wf.ol
 have oml:(b.own.map V.str).length=b.own.length:=aG _
 refine ⟨_,Z,B.m,_,Z,cV.k (k:=Sum.inr "owners") h2.om,B.lo,_,Z, .inl (aB.of h2.oo),_,Z,by omega,by omega,?_⟩
 refine fT (lo:=0) (n:=(((b.own.map V.str).length:Nat):Int).toNat) (fun i σ H'=>aF H H'/\H' gv=some (.lst (((List.range i).map (gK b.ao as)).map V.int))/\∃s8,σ=[some (.ref B.m),some (.ref l),some (.int (seat:Int)),some (.int aw),some (.ref B.lp),some (.int (bh b)),some (.int kept),some (.ref gv),s8,none])
  ⟨TV,WD,_,Z⟩ ?_ ?_
 . rintro i σ H3 hi ⟨g3,Ey,s8,rfl⟩
   have e0:(0:Int)+(i:Int)=((i:Nat):Int):=by omega
   rw [e0]
   have hio:i<b.own.length:=by omega
   refine ⟨_,Z, .inl ⟨Z,_,aB.of Ey⟩,_,Z,B.lp,_,Z, .inl (aB.of (g3 _ _ h.op)),_,Z,by omega,by omega,fun c hc=>?_⟩
   refine gC (J:=Gw 0 _) (n:=b.ao.length) 0 (fun j o H'=>aF H3 H'/\o=(List.zipWith (fun (p:BP) (a:Int)=>p.tops.getD i 0*a) (b.ao.take j) (as.take j)).map V.int) (by omega) ⟨az hc _,Z⟩ (fun j o H' hj _ _=>by show j<(((B.qs.map fun q=>V.ref q.1).length:Nat):Int).toNat;omega) (fun o H' _ _=>by show (((B.qs.map fun q=>V.ref q.1).length:Nat):Int).toNat<=b.ao.length;omega) ?_ ?_
   . rintro j x o H4 H5 hj dX TZ ⟨g4,e4⟩ ⟨rfl,rfl⟩
     have e0:(0:Int)+(j:Int)=((j:Nat):Int):=by omega
     rw [e0]
     have ej:=aX hj
     have hja:j<as.length:=by rw [ok.len];exact hj
     have ea:=aX hja
     obtain ⟨qq,eq,k1,k2,_,_⟩:=h.find ej
     have gg:=g3.trans g4
     have hti:i<(b.ao[j]).tops.length:=by rw [wf.tl _ (bV ej)];exact hio
     have et:=aX hti
     have eD:(b.ao[j]).tops.getD i 0=(b.ao[j]).tops[i] :=by rw [gR,et];rfl
     refine ⟨_,Z,_,Z,B.lp,_,_,_,Z,Z,aB.of (gg _ _ h.op),bg (by rw [bK,eq];rfl),qq.1,_,_,_,Z,Z,aB.of (gg _ _ k1),bg (j:=4) rfl,_,Z,qq.2,_,_,_,Z,Z,aB.of (gg _ _ k2),bg (by rw [bK,et];rfl),?_⟩
     refine ⟨_,Z,_,Z,l,_,_,_,Z,Z,gg.seq hl,bg (by rw [bK,ea];rfl),_,_,Z,Z,i8 (zt _ (bV ej) _ (bV et)) (za _ (bV ea)),TZ,g4.cu hc _,?_⟩
     rw [Ks ej ea,e4,bF,eD]
     rfl
   rintro o H4 _ TZ ⟨g4,e4⟩
   have e5:List.zipWith (fun (p:BP) (a:Int)=>p.tops.getD i 0*a) (b.ao.take b.ao.length) (as.take b.ao.length)=List.zipWith (fun (p:BP) (a:Int)=>p.tops.getD i 0*a) b.ao as:=by rw [cA,<-ok.len,cA]
   rw [e5] at e4
   subst e4
   refine ⟨c,_,Z,aB.of TZ,gv,_,_,Z,Z,g4 _ _ Ey,by rw [aG,aG,BZ];exact eY (by omega),(g3.trans g4).cu V2 _,?_,_,Z⟩
   rw [ah,List.range_succ,bF,bF]
   rfl
 rintro σ H3 ⟨g3,Ey,s8,rfl⟩
 rw [show (((b.own.map V.str).length:Nat):Int).toNat=b.own.length from by omega] at Ey
 have Ey:H3 gv=some (.lst ((fL b as).map V.int)):=Ey
 have h3:=h.mono g3
 have gl:=kr b as
 refine ⟨fun σ H'=>aF H H'/\H' gv=some (.lst ((f_ b as seat aw).map V.int))/\σ=[some (.ref B.m),some (.ref l),some (.int (seat:Int)),some (.int aw),some (.ref B.lp),some (.int (bh b)),some (.int kept),some (.ref gv),s8,none],?_,?_⟩
 . refine ⟨_,Z,_,_,Z,Z,_,Z,eF (fun c=>?_) (fun c=>?_)⟩
   . have c':0<aw:=eE c
     have hsl:seat<(fL b as).length:=by rw [gl];exact ok.seat
     have es:=aX hsl
     have eD:(fL b as).getD seat 0=(fL b as)[seat] :=by rw [gR,es];rfl
     refine ⟨_,Z,_,Z,gv,_,_,_,Z,Z,aB.of Ey,bg (by rw [bK,es];rfl),_,Z,_,Z,B.m,_,Z,cV.k (k:=Sum.inr "bottom") h3.om,_,_,Z,Z,i8 zaw wf.bz,_,_,Z,Z,_,Z,_,Z,gv,_,_,_,Z,Z,Ey,by rw [aG];exact wR hsl,g3.cu V2 _,?_,Z⟩
     rw [ah]
     unfold f_
     rw [aC c',vg,eD]
   . have c':¬ 0<aw:=oN (mQ.mpr c)
     refine ⟨g3,?_,Z⟩
     unfold f_
     rw [aA c']
     exact Ey
 rintro σ H4 ⟨g4,hg4,rfl⟩
 have gvl:=um b as seat aw
 generalize egv:f_ b as seat aw=given at *
 have h4:=h.mono g4
 have gmn:(given.map V.int).length=b.own.length:=by rw [aG];exact gvl
 have cgv:ρ gv=none:=G.none V2
 have bl:(cZ b as seat aw).length=b.ao.length:=vA ok.len
 refine ⟨_,Z,B.lp,_,Z, .inl (aB.of h4.op),_,Z,by omega,by omega,?_⟩
 refine fT (lo:=0) (n:=(((B.qs.map fun q=>V.ref q.1).length:Nat):Int).toNat) (fun i σ H'=>∃ρ' B' s8 s9,σ=[some (.ref B.m),some (.ref l),some (.int (seat:Int)),some (.int aw),some (.ref B.lp),some (.int (bh b)),some (.int kept),some (.ref gv),s8,s9]/\Gh ρ' H'/\a_ n ρ' B' H' { b with ao:=(cZ b as seat aw).take i++b.ao.drop i }/\B'.m=B.m/\B'.lp=B.lp/\Fr n ρ H ρ' H'/\H' gv=some (.lst (given.map V.int))/\ρ' gv=none)
  ⟨ρ,B,_,_,Z,G.same g4,h4,Z,Z,Fr.of_same g4,hg4,cgv⟩ ?_ ?_
 . rintro i σ H5 hi ⟨ρ5,B5,s8,s9,rfl,G5,h5,BW,BO,F5,O1,cg5⟩
   have e0:(0:Int)+(i:Int)=((i:Nat):Int):=by omega
   rw [e0]
   have yE:i<b.ao.length:=by omega
   have ei:=aX yE
   have lV:=bV ei
   have hia:i<as.length:=by rw [ok.len];exact yE
   have ea:=aX hia
   have em:((cZ b as seat aw).take i++b.ao.drop i)[i]?=some b.ao[i] :=Ym (by omega) ei
   have ebp:=Kr (seat:=seat) (aw:=aw) ei ea
   rw [egv,ekp] at ebp
   have WT:=wf.tl _ lV
   have hzt:=zt _ lV
   generalize b.ao[i]=p at *
   have hza:=za _ (bV ea)
   generalize as[i]=a at *
   obtain ⟨qq,eq,k1,k2,c1,c2⟩:=h5.find em
   have op5:H5 B.lp=some (.lst (B5.qs.map fun q=>V.ref q.1)):=by rw [<-BO];exact h5.op
   have W_:(B5.qs.map fun q=>V.ref q.1)[i]?=some (.ref qq.1):=by rw [bK,eq];rfl
   refine ⟨_,Z,gv,_,Z, .inl (aB.of O1),_,Z,by omega,by omega,fun t1 ht1=>?_⟩
   refine gC (J:=Gw 0 _) (n:=b.own.length) 0 (fun j o H'=>aF H5 H'/\o=(List.zipWith (fun t g=>t*kept+g) (p.tops.take j) (given.take j)).map V.int) (by omega) ⟨az ht1 _,Z⟩ (fun j o H' hj _ _=>by show j<(((given.map V.int).length:Nat):Int).toNat;omega) (fun o H' _ _=>by show (((given.map V.int).length:Nat):Int).toNat<=b.own.length;omega) ?_ ?_
   . rintro j x o H6 H7 hj dX BR ⟨g6,e6⟩ ⟨rfl,rfl⟩
     have e0:(0:Int)+(j:Int)=((j:Nat):Int):=by omega
     rw [e0]
     have et:=aX (show j<p.tops.length by rw [WT];exact hj)
     have eg:=aX (show j<given.length by rw [gvl];exact hj)
     refine ⟨_,Z,_,Z,B.lp,_,_,_,Z,Z,aB.of (g6 _ _ op5),bg W_,qq.1,_,_,_,Z,Z,aB.of (g6 _ _ k1),bg (j:=4) rfl,_,Z,qq.2,_,_,_,Z,Z,aB.of (g6 _ _ k2),bg (by rw [bK,et];rfl),?_⟩
     refine ⟨_,Z,_,_,Z,Z,i8 (hzt _ (bV et)) zk,_,Z,_,Z,gv,_,_,_,Z,Z,aB.of (g6 _ _ O1),bg (by rw [bK,eg];rfl),_,_,Z,Z,BR,g6.cu ht1 _,?_⟩
     rw [oF _ et eg,e6,bF]
     rfl
   rintro o H6 _ BR ⟨g6,e6⟩
   rw [show p.tops.take b.own.length=p.tops from by rw [<-WT];exact cA,show given.take b.own.length=given from by rw [<-gvl];exact cA] at e6
   subst e6
   have h6:=h5.mono g6
   have G6:=G5.same g6
   have ct1:ρ5 t1=none:=G5.none ht1
   have h7:a_ n (cN ρ5 t1 (n,24,p.nm)) B5 H6 { b with ao:=(cZ b as seat aw).take i++b.ao.drop i }:=h6.col ct1
   have G7:Gh (cN ρ5 t1 (n,24,p.nm)) H6:=G6.color BR rfl
   have F7:Fr n ρ H (cN ρ5 t1 (n,24,p.nm)) H6:=F5.trans (Fr.color ht1 g6)
   have ct:cN ρ5 t1 (n,24,p.nm) t1=some (n,24,p.nm):=dN
   have cg7:cN ρ5 t1 (n,24,p.nm) gv=none:=by rw [b_ (fun z=>by rw [z] at O1;rw [O1] at ht1;cases ht1)];exact cg5
   have hg6:=g6 _ _ O1
   have Lx:=g6 _ _ op5
   have k16:=g6 _ _ k1
   have T9:cN ρ5 t1 (n,24,p.nm) qq.1=some (n,23,p.nm):=by rw [b_ (aH k1 ht1)];exact c1
   generalize cN ρ5 t1 (n,24,p.nm)=ρ7 at *
   have ndm:(((cZ b as seat aw).take i++b.ao.drop i).map (fun p:BP=>p.nm)).Nodup:=by rw [SX ok.len];exact wf.nd
   have nqg:gv≠qq.1:=fun z=>by rw [z,T9] at cg7;cases cg7
   generalize eT:List.zipWith (fun t g=>t*kept+g) p.tops given=T at *
   refine ⟨_,Z,_,Z,B.lp,_,_,_,Z,Z,aB.of Lx,bg W_,qq.1,_,_,4,Z,Z,k16,Z,?_⟩
   have h8:=h7.y_ G7 (p1:={ p with tops:=T }) (t1:=t1) em eq rfl ndm BR ct
   have G8:=G7.wr (a:=qq.1) (o:=oJ { p with tops:=T } t1) rfl
   have F8:=F7.trans (Fr.write (o:=oJ { p with tops:=T } t1) T9)
   have k18:upd H6 qq.1 (oJ { p with tops:=T } t1) qq.1=some (oJ { p with tops:=T } t1):=ah
   have hg8:upd H6 qq.1 (oJ { p with tops:=T } t1) gv=some (.lst (given.map V.int)):=by rw [av nqg];exact hg6
   have nlp:B.lp≠qq.1:=fun z=>by
    have:=h7.cp
    rw [BO,z,T9] at this
    cases this
   have op8:upd H6 qq.1 (oJ { p with tops:=T } t1) B.lp=some (.lst (B5.qs.map fun q=>V.ref q.1)):=by rw [av nlp];exact Lx
   have ntq:t1≠qq.1:=fun z=>by rw [z,T9] at ct;cases ct
   have ht8:upd H6 qq.1 (oJ { p with tops:=T } t1) t1=some (.lst (T.map V.int)):=by rw [av ntq];exact BR
   generalize hH8:upd H6 qq.1 (HO.lst _)=H8
   have abW:upd H6 qq.1 (oJ { p with tops:=T } t1)=H8:=hH8
   rw [abW] at h8 G8 F8 k18 hg8 op8 ht8
   clear hH8 abW
   refine ⟨_,Z,_,Z,B.lp,_,_,_,Z,Z,aB.of op8,bg W_,qq.1,_,_,_,Z,Z,aB.of k18,bg (j:=2) rfl,?_⟩
   refine ⟨_,Z,_,Z,l,_,_,_,Z,Z,F8.seq hl cl,bg (by rw [bK,ea];rfl),_,_,Z,Z,?_⟩
   refine ⟨_,Z,_,Z,B.lp,_,_,_,Z,Z,aB.of op8,bg W_,qq.1,_,_,2,Z,Z,k18,Z,?_⟩
   have hiq:i<B5.qs.length:=(eU.mp eq).1
   have him:i<((cZ b as seat aw).take i++b.ao.drop i).length:=(eU.mp em).1
   have h9:=h8.y_ G8 (i:=i) (p0:={ p with tops:=T }) (p1:=k_ given kept p a) (q0:=(qq.1,t1)) (t1:=t1) (tU him) (tU hiq) rfl (by
    show ((((cZ b as seat aw).take i++b.ao.drop i).set i { p with tops:=T }).map (fun p:BP=>p.nm)).Nodup
    rw [vg,vq (by rw [bK,em];rfl)]
    exact ndm) (by show H8 t1=some (.lst ((List.zipWith (fun t g=>t*kept+g) p.tops given).map V.int));rw [eT];exact ht8) ct
   have e9:(((cZ b as seat aw).take i++b.ao.drop i).set i { p with tops:=T }).set i (k_ given kept p a)=(cZ b as seat aw).take (i+1)++b.ao.drop (i+1):=by rw [vf];exact Yn ebp yE
   have h9':a_ n ρ7 { B5 with qs:=(B5.qs.set i (qq.1,t1)).set i (qq.1,t1) } (upd H8 qq.1 (oJ (k_ given kept p a) t1)) { b with ao:=(((cZ b as seat aw).take i++b.ao.drop i).set i { p with tops:=T }).set i (k_ given kept p a) }:=h9
   rw [e9] at h9'
   exact ⟨ρ7,{ B5 with qs:=(B5.qs.set i (qq.1,t1)).set i (qq.1,t1) },_,_,Z,G8.wr rfl,h9',BW,BO,F8.trans (Fr.write T9),by rw [av nqg];exact hg8,cg7⟩
 rintro σ H5 ⟨ρ5,B5,s8,s9,rfl,G5,h5,BW,BO,F5,O1,cg5⟩
 rw [show (((B.qs.map fun q=>V.ref q.1).length:Nat):Int).toNat=b.ao.length from by omega,show (cZ b as seat aw).take b.ao.length=cZ b as seat aw from by rw [<-bl];exact cA,CZ,tE] at h5
 obtain ⟨m5,T_,lp5,Ua,Ub,z_⟩:=B5
 have BW:m5=B.m:=BW
 have BO:lp5=B.lp:=BO
 subst BW BO
 refine ⟨_,Z,B.m,_,Z,cV.k (k:=Sum.inr "bottom") h5.om,_,Z,_,_,Z,Z,i8 wf.bz zw,_,Z,B.m,_,Z,t8.k (k:=Sum.inr "bottom") h5.om (by show 5<sizeLine;decide),?_⟩
 rw [SY]
 have h6:=h5.Yi G5 (b.bot*bh b)
 have G6:=G5.wr (a:=B.m) (o:= .dK (fF ⟨B.m,T_,B.lp,Ua,Ub,z_⟩ (b.bot*bh b))) rfl
 have F6:=F5.trans (Fr.write (o:= .dK (fF ⟨B.m,T_,B.lp,Ua,Ub,z_⟩ (b.bot*bh b))) h5.cm)
 generalize hH6:upd H5 B.m (HO.dK _)=H6
 have abX:upd H5 B.m (.dK (fF ⟨B.m,T_,B.lp,Ua,Ub,z_⟩ (b.bot*bh b)))=H6:=hH6
 have h6:a_ n ρ5 ⟨B.m,T_,B.lp,Ua,Ub,z_⟩ (upd H5 B.m (.dK (fF ⟨B.m,T_,B.lp,Ua,Ub,z_⟩ (b.bot*bh b)))) { b with ao:=cZ b as seat aw,bot:=b.bot*bh b }:=h6
 rw [abX] at h6 G6 F6
 clear hH6 abX
 have Xa:z_.length=(cZ b as seat aw).length:=h5.ql
 have qml:(z_.map fun q=>V.ref q.1).length=(cZ b as seat aw).length:=by rw [aG];exact Xa
 have Lx:H6 B.lp=some (.lst (z_.map fun q=>V.ref q.1)):=h6.op
 refine ⟨_,Z,B.lp,Z,⟨_,aB.of Lx⟩,fun lp zY=>?_⟩
 refine N9 (J:=rF K B.lp) (n:=(cZ b as seat aw).length) 0 (fun i o H'=>aF H6 H'/\o=(ku ((cZ b as seat aw).take i) (z_.take i)).map fun q=>V.ref q.1) (by omega) ⟨az zY _,Z⟩ (fun i o H' hi _ hp=>⟨_,_,aB.of (hp.1 _ _ Lx),aX (by rw [qml];exact hi)⟩) (fun o H' _ hp=>⟨_,aB.of (hp.1 _ _ Lx),by rw [qml];exact aO _⟩) ?_ ?_
 . rintro i y o H7 H8 hi dX ha ⟨g,e⟩ ⟨rfl,hy⟩
   have ei:=aX hi
   obtain ⟨qq,eq,k1,k2,_,_⟩:=h6.find ei
   have eq:z_[i]?=some qq:=eq
   have ey:=hy _ (aB.of (g _ _ Lx))
   rw [bK,eq] at ey
   cases ey
   have es:=DV ei eq
   refine ⟨_,Z,qq.1,_,_,_,Z,Z,aB.of (g _ _ k1),bg (j:=2) rfl,_,_,Z,Z,_,Z,eF (fun c=>?_) (fun c=>?_)⟩
   . rw [aC (eE c)] at es
     refine ⟨_,Z,ha,g.cu zY _,?_⟩
     rw [es,e,bF]
     rfl
   . rw [aA (oN (mQ.mpr c))] at es
     exact ⟨ha,g,by rw [es,e,tE]⟩
 rintro o H7 _ ha ⟨g7,e⟩
 rw [cA,<-Xa,cA] at e
 subst e
 have h7:=h6.mono g7
 have G7:=G6.same g7
 have clp:ρ5 lp=none:=G6.none zY
 have h8:=h7.col (t:=22) (x:=⟨#[]⟩) clp
 have G8:Gh (cN ρ5 lp (n,22,⟨#[]⟩)) H7:=G7.color ha rfl
 have F8:Fr n ρ H (cN ρ5 lp (n,22,⟨#[]⟩)) H7:=F6.trans (Fr.color zY g7)
 have h9:=h8.aaI G8 (lp:=lp) (qs:=ku (cZ b as seat aw) z_) (ps:=(cZ b as seat aw).filter fun p=>decide (0<p.wo)) ha dN (Hf Xa) (fun i x y ex ey=>by
  obtain ⟨j,a1,a2⟩:=Cq ex ey Xa
  exact h8.pt j x y a1 a2)
 refine ⟨_,Z,B.m,_,Z,t8.k (k:=Sum.inr "parts") h7.om (by show 5<sizeLine;decide),?_⟩
 rw [Vw]
 exact q _ _ _ (G8.wr rfl) h9 rfl (F8.trans (Fr.write h8.cm))
abbrev mh:Stmt:=top 40
abbrev jI:List Str:=["_law_model_here","_law_rows_here"]
abbrev A0:List Str:=jI.append ["_law_amounts","_law_name_here","_law_amount"]
theorem ju:aI A0 jI (ay mh):=dj
theorem Aa (F:At K mg "_law_model_cast" mh f fd) (Ab:Dn P w K mg base 1 "_law_at" vL (WG K)) (kT:Dn P w K mg base 1 "_law_bear" nq (Kq K)):Dn P w K mg base 2 "_law_model_cast" jI (OB K):=by
 refine F.oA ju fun cdv A outer s H vs Q E hr h=>?_
 obtain ⟨⟨n,ρ,B,b,l,us,rs,rfl,G,h,wf,hl,hR,cl,rb,hle,bo,q⟩⟩:=h
 refine ⟨_,(@cJ.h _ _ _ (ak (qz (i:=2) ["_law_part"] [none] ju.nd rfl rfl rfl (di K (bR (bZ hr) (qv 0) bu)) (fun _ _ _ _=>(aN (i:=0) (show List.Nodup (["_law_part"] :List Str) from by decide +kernel))) (fun _ _ _ _=>ai) rfl (by rfl) (by rfl))
  (ak (dO d8 rfl (di K (qv 1)) (ja K (n:=2) rfl (cU (aN (i:=3) ju.nd) (cU (aN (i:=4) ju.nd) i_))) (au (uy (qv 4) (uz (qv 2) (aZ Ab hr (af (bR (bZ hr) (qv 0) bu) (af (qv 3) aj))) set_list))))
  (au (c8 (aZ kT hr (af (qv 0) (af (qv 2) (af ai (af ai aj)))))))))),?_⟩
 have pl:=wf.pl
 have lN:(B.qs.map fun q=>V.ref q.1).length=b.ao.length:=by rw [aG];exact h.ql
 refine ⟨_,Z,B.m,_,Z,cV.k (k:=Sum.inr "parts") h.om,B.lp,Z,⟨_,aB.of h.op⟩,fun l0 iF=>?_⟩
 refine gC (J:=rF K B.lp) (n:=b.ao.length) 0 (fun i o H'=>aF H H'/\o=((b.ao.take i).map fun _=>(0:Int)).map V.int) (by omega) ⟨az iF _,Z⟩ (fun i o H' hi _ hp=>⟨_,_,aB.of (hp.1 _ _ h.op),aX (by rw [lN];exact hi)⟩) (fun o H' _ hp=>⟨_,aB.of (hp.1 _ _ h.op),by rw [lN];exact aO _⟩) ?_ ?_
 . rintro i y o H2 H3 hi dX ha ⟨g,e⟩ ⟨rfl,hy⟩
   refine ⟨ha,g.cu iF _,?_⟩
   subst e
   rw [take_snoc (aX hi),bF,bF]
   rfl
 rintro o1 H1 _ ha ⟨g1,e⟩
 rw [cA] at e
 subst e
 have TR:=hR.length
 refine ⟨_,Z,l,Z,⟨us,g1.seq hl⟩,?_⟩
 refine lQ (K:=K) (xs:=us) (fun i σ H'=>aF H H'/\H' l0=some (.lst ((c9 b (rs.take i)).map V.int))/\∃s3 s4,σ=[some (.ref B.m),some (.ref l),some (.ref l0),s3,s4]) ⟨g1,ha,_,_,Z⟩ (fun i σ H' _ hp=>hp.1.seq hl) ?_ ?_
 . rintro i x σ H2 hx ⟨g2,ha2,s3,s4,rfl⟩
   obtain ⟨a,r,rfl,er,har⟩:=hR.get hx
   obtain ⟨r1,j,p,hp,e,le⟩:=rb.row r (bV er)
   have hj:=(eU.mp hp).1
   have hn:r.1∉(rs.take i).map (fun r:Row=>r.1):=by
    rw [Aq]
    exact jT rb.nd (by rw [bK,er];rfl)
   obtain ⟨s1,s2⟩:=DW wf.nd hp e hn
   have h2:=h.mono g2
   refine ⟨a,_,Z,cT.of (g2 _ _ har),Z,_,_,Z,_,_,Z,Z,?_⟩
   refine ⟨_,Z,_,Z,_,Z,B.m,_,Z,cV.k (k:=Sum.inr "parts") h2.om,_,Z,⟨⟨B.lp,_,vv b,j,(p.nm,p.wo),by rw [<-e];rfl,aB.of h2.op,h2.nw,?_,by unfold vv;rw [aG];exact pl,by unfold vv;rw [bK,hp];rfl,?_⟩⟩⟩
   . unfold vv;rw [iS];exact wf.nd
   . refine ⟨l0,_,_,j,Z,Z,ha2,by rw [aG,zJ];exact wR hj,g2.cu iF _,?_,_,_,Z⟩
     rw [ah,take_snoc er,s1,vg]
 rintro σ H2 ⟨g2,ha2,s3,s4,rfl⟩
 rw [TR,cA] at ha2
 refine ⟨_,Z,_,Z,⟨⟨n,ρ,B,b,l0,c9 b rs,0,0,Z,G.same g2,h.mono g2,wf,aB.of ha2,G.none iF,bo,fun ρ' B' H' a1 a2 a3 a4=>q ρ' B' H' a1 a2 a3 ((Fr.of_same g2).trans a4)⟩⟩⟩
abbrev sR:Stmt:=top 36
abbrev pV:List Str:=["_law_script","_law_k","_law_hold","_law_model_here","_law_names_here","_law_many"]
abbrev Ly:List Str:=pV.append ["_law_at_here","_law_owner","_law_worth","_law_weight"]
theorem kO:aI Ly pV (ay sR):=dj
theorem Ie {T:TC} (F:At K mg "_law_loads" sR f fd) (aM:Dn P w K mg base 1 "_law_draw" fj (lR K)) (wk:Dn P w K mg base 2 "_law_much" rm (JS K)) (pW:Dn P w K mg base 2 "_law_new_part" lM G_)
  (wm:Mn P w K mg base 4 T.hold "load" qY (Su T)) (bf:mg "len"=none) (bH:mg "range"=none):Dn P w K mg base 5 "_law_loads" pV (OF T K):=by
 refine F.oA kO fun cdv A outer s H vs Q E hr h=>?_
 obtain ⟨⟨n,m,ρ,A,B,st,b,a,ln,ns,k,nms,many,rfl,nm,hh,hb,gd,hS,h63,hk0,hk1,hN,Uc,wW,Ew,hml,ajv,en,ep,ek,q⟩⟩:=h
 refine ⟨_,(@cJ.h _ _ _ (au (dO d8 rfl (dP (by rfl) bH (af (qv 5) aj)) (aN (i:=6) kO.nd) (ak (aP (i:=7) kO.nd (aK (aQ K) (bR (bZ hr) (qv 3) bu) (aZ aM hr (af (qv 0) (af (aD bP (qv 1) (qv 6)) (af ai (af (aE (bN K) (by rfl) bf dF (af (bR (bZ hr) (qv 3) bu) aj)) aj)))))))
  (ak (aP (i:=8) kO.nd (aZ wk hr (af (qv 0) (af (aD bP (qv 1) (qv 6)) (af ai aj)))))
  (ak (aP (i:=9) kO.nd (aZ aM hr (af (qv 0) (af (aD bP (qv 1) (qv 6)) (af ai (af ai aj))))))
  (ak (c8 (gF wm hr (qv 2) (af (aK (aQ K) (qv 4) (qv 6)) (af (qv 7) (af (qv 8) (af (qv 9) aj))))))
  (au (c8 (aZ pW hr (af (qv 3) (af (aK (aQ K) (qv 4) (qv 6)) (af (qv 7) (af (qv 8) (af (qv 9) aj))))))))))))))),?_⟩
 refine ⟨_,Z,_,Z,by omega,by omega,?_⟩
 refine fT (lo:=0) (n:=((many:Nat):Int).toNat) (fun i σ H'=>∃ρ' A' B' st' b' s6 s7 s8 s9,σ=[some (.ref a),some (.int k),some (.ref A.a),some (.ref B.m),some (.ref ln),some (.int (many:Int)),s6,s7,s8,s9]/\HH T n ρ' A' H' st'/\a_ m ρ' B' H' b'/\gc 0 st' b'/\A'.a=A.a/\B'.m=B.m/\b'.own=b.own/\b'.ao.length=i/\b'.eL.length=i/\st'.nms=nms.take i/\st'.kn=st.kn/\aF (out ρ H) (out ρ' H'))
  ⟨ρ,A,B,st,b,_,_,_,_,Z,hh,hb,gd,Z,Z,Z,by rw [ep];rfl,by rw [ek];rfl,by rw [en];rfl,Z,aF.refl _⟩ ?_ ?_
 . rintro i σ H1 hi ⟨ρ1,A1,B1,st1,b1,s6,s7,s8,s9,rfl,fX,hb1,rL,Ac,vK,BU,Xb,ekl,Xc,ekn,o1⟩
   have e0:(0:Int)+(i:Int)=((i:Nat):Int):=by omega
   rw [e0]
   have him:i<many:=by omega
   have hin:i<nms.length:=by omega
   have ex:=aX hin
   have exm:=bV ex
   have Tf:=wW _ exm
   have hxn:nms[i]∉nms.take i:=jT Uc ex
   generalize nms[i]=x at *
   have xx:=hS _ _ o1
   have hN1:=hN _ _ o1
   have omH:H1 B.m=some (.dK (fF B1 b1.bot)):=by rw [<-vK];exact hb1.om
   have ol1:(b1.own.map V.str).length=b1.own.length:=aG _
   have ow0:=rL.own
   refine ⟨_,Z,B.m,_,Z,cV.k (k:=Sum.inr "owners") omH,_,Z,_,Z,_,Z,_,_,Z,Z,_,Z,B.m,_,Z,cV.k (k:=Sum.inr "owners") omH,B1.lo,_,Z, .inl (aB.of hb1.oo),cM xx h63 (by omega) (by decide) (by decide) (by omega) fun d _ d0 d1=>?_⟩
   obtain ⟨jo,o,ejo,eo,eat⟩:=Ke (l:=b1.own) d0 (by omega)
   have hom:o∈b1.own:=bV eo
   refine ⟨B1.lo,_,_,_,Z,Z,aB.of hb1.oo,eat,?_⟩
   refine ⟨_,Z,_,Z,_,Z,_,_,Z,Z,Va xx h63 (by omega) (by decide) (by decide) fun wo H2 w1 w2 g2=>?_⟩
   refine ⟨_,Z,_,Z,_,Z,_,_,Z,Z,cM (g2.seq xx) h63 (by omega) (by decide) (by decide) (by decide) fun we _ v0 v1=>?_⟩
   have iO:=fX.mono g2
   have o2:=o1.trans (iM (ρ:=ρ1) g2)
   have hN2:=hN _ _ o2
   have exv:(nms.map V.str)[i]?=some (.str x):=by rw [bK,ex];rfl
   have hxs:x∉st1.nms:=by rw [Xc];exact hxn
   have eow:=rL.rel.own
   have hnl:st1.nms.length=i:=by rw [Xc,kY];omega
   refine ⟨_,Z,A.a,A1.dx,_,Z,by rw [<-Ac];exact iO.h.oa,Z,_,Z,_,Z,ln,_,_,_,Z,Z,hN2,bg exv,_,Z,_,Z,_,Z,⟨⟨n,ρ1,A1,st1,x,o,wo,we,by rw [Ac];rfl,iO,Tf.isNm,hxs,by rw [eow];exact hom,w1,v0,by omega,by rw [rL.rel.len];omega,fun ρ3 A3 H3 lI e3 f3=>?_⟩⟩⟩
   have z7:=(hb1.mono g2).other f3 iO.g (bY nm)
   have o3:=o2.trans f3.out
   have hN3:=hN _ _ o3
   refine ⟨_,Z,_,Z,_,Z,ln,_,_,_,Z,Z,hN3,bg exv,_,Z,_,Z,_,Z,⟨⟨m,ρ3,B1,b1,x,o,wo,we,by rw [vK];rfl,lI.g,z7,hom,by have:=rL.kg.ol;omega,by omega,by omega,fun ρ4 B4 H4 G4 z8 e4 f4=>?_⟩⟩⟩
   have kN:=lI.other f4 G4 nm
   refine ⟨ρ4,A3,B4,_,_,_,_,_,_,Z,kN,z8,Yt rL fX.wf ?_ w1 w2 (by omega) (by omega) Tf.isNm hom (by omega),e3.trans Ac,e4.trans vK,BU,?_,?_,?_,ekn,o3.trans f4.out⟩
   . intro hm
     obtain ⟨p,hp,e⟩:=cD.mp hm
     obtain ⟨j,hj,ej⟩:=tX hp
     obtain ⟨p',zK,e1,_⟩:=rL.rel.at (i:=j) (q:=p) (by rw [aX hj,ej])
     have:=fX.wf.sub p' (bV zK)
     rw [e1] at this
     have e:p.nm=x:=e
     rw [e] at this
     exact hxs this
   . show (b1.ao++[_]).length=i+1
     rw [dg,Xb];rfl
   . show (b1.eL++[_]).length=i+1
     rw [dg,ekl];rfl
   . show st1.nms++[x]=nms.take (i+1)
     rw [Xc,take_snoc ex]
 rintro σ H1 ⟨ρ1,A1,B1,st1,b1,s6,s7,s8,s9,rfl,fX,hb1,rL,Ac,vK,BU,Xb,ekl,Xc,ekn,o1⟩
 exact q ρ1 A1 B1 H1 st1 b1 fX hb1 rL Ac vK BU (by rw [Xb];omega) ekn o1
abbrev uU:Stmt:=top 41
abbrev rB:List Str:=["_law_script","_law_hold","_law_model_here","_law_names_here"]
abbrev MV:List Str:=rB.append ["_law_rows_here"]
theorem Ad:aI MV rB (ay uU):=dj
theorem Lz {T:TC} (F:At K mg "_law_prep" uU f fd) (aM:Dn P w K mg base 1 "_law_draw" fj (lR K)) (uV:Dn P w K mg base 5 "_law_loads" pV (OF T K)) (wu:Dn P w K mg base 2 "_law_rows" rA (OA K)) (mX:Dn P w K mg base 2 "_law_model_cast" jI (OB K)) (wA:Mn P w K mg base 4 T.hold "cast" qZ (SJ T K)) (bf:mg "len"=none) (dw:mg "list"=none):Dn P w K mg base 6 "_law_prep" rB (TF T K):=by
 refine F.oA Ad fun cdv A outer s H vs Q E hr h=>?_
 obtain ⟨⟨n,m,ρ,A,B,st,b,a,ln,ns,nms,rfl,nm,hh,hb,gd,hS,h63,hN,Uc,wW,Ew,h6,en,ep,ek,q⟩⟩:=h
 refine ⟨_,(@cJ.h _ _ _ (ak (c8 (aZ uV hr (af (qv 0) (af ai (af (qv 1) (af (qv 2) (af (qv 3) (af (aD bP ai (aZ aM hr (af (qv 0) (af ai (af ai (af ai aj)))))) aj))))))))
  (au (gX (aY jE (aZ aM hr (af (qv 0) (af ai (af ai (af ai aj))))) ai (br _)) (ak (aP (i:=4) Ad.nd (aZ wu hr (af (qv 0) (af ai (af (bR (bZ hr) (qv 2) bu) aj)))))
  (au (gX (aY jE (aE (bN K) (by rfl) bf dF (af (qv 4) aj)) ai (br _)) (ak (c8 (gF wA hr (qv 1) (af (lU (ny K) (by rfl) dw vO (af (qv 4) aj)) aj)))
  (au (c8 (aZ mX hr (af (qv 2) (af (qv 4) aj)))))) aT))) aT)))),?_⟩
 refine ⟨_,Z,_,Z,_,Z,_,Z,_,Z,cM (hS _ _ (aF.refl _)) h63 (by decide) (by decide) (by decide) (by decide) fun md _ m0 m1=>⟨_,_,Z,Z,?_⟩⟩
 obtain ⟨many,adD⟩:∃many:Nat,2+md=(many:Int):=⟨(2+md).toNat,by omega⟩
 refine ⟨⟨n,m,ρ,A,B,st,b,a,ln,ns,4,nms,many,by rw [<-adD];rfl,nm,hh,hb,gd,hS,h63,by decide,by decide,hN,Uc,wW,Ew,by omega,by omega,en,ep,ek,fun ρ1 A1 B1 H1 st1 b1 fX hb1 rL Ac vK BU Xb ek1 o1=>?_⟩⟩
 have xx:=hS _ _ o1
 have pl:=rL.pl
 refine ⟨fun σ' H'=>Q .bU H',?_,fun _ _ y=>y⟩
 refine ⟨_,Z,cM xx h63 (by decide) (by decide) (by decide) (by decide) fun cd _ _ _=>⟨_,_,Z,Z,_,Z,eF (fun _=>?_) (fun _=>?_)⟩⟩
 rotate_left
 . exact q ρ1 A1 B1 H1 st1 b1 fX hb1 rL.mono Ac vK BU (by omega) (by omega) o1
 have om1:H1 B.m=some (.dK (fF B1 b1.bot)):=by rw [<-vK];exact hb1.om
 refine ⟨_,Z,_,Z,B.m,_,Z,cV.k (k:=Sum.inr "parts") om1,⟨⟨a,B1.lp,ns,10,_,vv b1,Z,xx,h63,by decide,by decide,aB.of hb1.op,hb1.nw,by unfold vv;rw [iS];exact rL.kg.nd,by unfold vv;rw [aG];omega,fun w hw=>by obtain ⟨p,hp,rfl⟩:=cD.mp hw;exact rL.kg.w1 p hp,fun z zs rs H2 g2 hz hz2 hR rok=>?_⟩⟩⟩
 have zl:=hR.length
 have iO:=fX.mono g2
 have hb2:=hb1.mono g2
 have cz:ρ1 z=none:=fX.g.none hz
 refine ⟨fun σ' H'=>Q .bU H',?_,fun _ _ y=>y⟩
 refine ⟨_,Z,z,_,Z, .inl (aB.of hz2),_,_,Z,Z,_,Z,eF (fun c0=>?_) (fun c0=>?_)⟩
 rotate_left
 . exact q ρ1 A1 B1 H2 st1 b1 iO hb2 rL.mono Ac vK BU (by omega) (by omega) (o1.trans (iM g2))
 have c1:0<rs.length:=by have:(0:Int)<((zs.length:Nat):Int):=eE c0;omega
 have hne:rs≠[] :=fun e=>by rw [e] at c1;simp at c1
 obtain ⟨cok,rb,bo⟩:=MD rL fX.wf rok hne (by decide)
 refine ⟨_,Z,A.a,A1.dx,_,Z,by rw [<-Ac];exact iO.h.oa,Z,_,Z,z,_,Z, .inl (aB.of hz2),fun hd hhd=>?_⟩
 have g3:=az hhd (.lst zs)
 have OR:upd H2 hd (.lst zs) hd=some (.lst zs):=ah
 have hz3:=g3 _ _ hz2
 have hR3:=hR.mono g3.tups
 have lI:=iO.mono g3
 have z7:=hb2.mono g3
 have o3:aF (out ρ H) (out ρ1 (upd H2 hd (.lst zs))):=o1.trans (iM (g2.trans g3))
 show oY _ (upd H2 hd (.lst zs)) _
 generalize upd H2 hd (.lst zs)=H3 at *
 refine ⟨⟨n,ρ1,A1,st1,hd,zs,rs,by rw [Ac];rfl,lI,aB.of OR,hR3,cok,fun ρ4 A4 H4 kN e4 f4=>?_⟩⟩
 have z8:=z7.other f4 lI.g (bY nm)
 obtain ⟨ez,cz4⟩:=f4.at hz3 cz
 have hR4:=hR3.mono (f4.tup lI.g)
 refine ⟨_,Z,_,Z,⟨⟨m,ρ4,B1,b1,z,zs,rs,by rw [vK];rfl,kN.g,z8,rL.kg,aB.of ez,hR4,cz4,rb,cok.len,bo,fun ρ5 B5 H5 G5 z9 e5 f5=>?_⟩⟩⟩
 exact q ρ5 A4 B5 H5 _ _ (kN.other f5 G5 nm) z9 (Yr rL fX.wf cok rb bo (by decide)) (e4.trans Ac) (e5.trans vK) BU (by have:=Ys st1 rs;omega) (TH bo) ((o3.trans f4.out).trans f5.out)
abbrev wB:Stmt:=top 42
abbrev tP:List Str:=["_law_model_here","_law_deed"]
abbrev QW:List Str:=tP
theorem MW:aI QW tP (ay wB):=dj
theorem MX (F:At K mg "_law_due" wB f fd) (d_:mg "sum"=none) (AR:mg "int"=none):Dn P w K mg base 5 "_law_due" tP (WO yg K):=by
 refine F.oA MW fun cdv A outer s H vs Q E hr h=>?_
 obtain ⟨⟨n,ρ,B,b,st,z,d,rfl,hz,hb,rl,wf,wb,kn,ha,db,q⟩⟩:=h
 refine ⟨_,(@cJ.h _ _ _ (ak (cK (aY iU (aK (bQ K) (qv 1) ai) bu (br _)) (ak (cK (aY JB (aK (bQ K) (qv 1) ai) (bR (bZ hr) (qv 0) bu) (by with_unfolding_all rfl)) (au (aR ai)) aT)
  (ak (cK (aY I_ (aK (bQ K) (qv 1) ai) ai (br _)) (au (aR ai)) aT)
  (au (aR (aK (aQ K) (dQ (af (AQ wI ai) (af ai aj))) (lU RA (by rfl) AR PyProof.Rows.boot_int (af (qC Dh (aK (bQ K) (qv 1) ai) (aE (jg K rfl) (by rfl) d_ tW (af (fG ["_law_part"] [none] rfl (di K (bR (bZ hr) (qv 0) bu)) (fun _ _ _ _=>(aN (i:=0) (show List.Nodup (["_law_part"] :List Str) from by decide +kernel))) (fun _ _ _ _=>(aK (aQ K) (qv 0) ai)) rfl (by rfl)) aj)) (br _)) aj))))))) aT)
  (au (aR (AQ wI ai))))),?_⟩
 obtain ⟨o,a,rfl⟩:∃o a,d = .award o a:=by
  cases d with
  | award o a=>exact ⟨o,a,Z⟩
  | _=>exact ha.elim
 have q:∀H',aF H H'->Q (.int (aa7 (jW st o a))) H':=q
 refine ⟨_,Z,z,_,_,_,Z,Z,hz,bg (j:=0) rfl,Z,_,Z,eF (fun _=>?_) (fun c=>absurd (cG rfl) c)⟩
 refine ⟨_,Z,z,_,_,_,Z,Z,hz,bg (j:=1) rfl,_,Z,B.m,_,Z,cV.k (k:=Sum.inr "owners") hb.om,B.lo,_,Z, .inl (aB.of hb.oo),Z,SD _,_,Z,?_⟩
 rw [Vr]
 by_cases ho:o∈b.own
 rotate_left
 . rw [d7 ho]
   refine rO ?_
   have q:=q H (aF.refl _)
   unfold jW at q
   rw [aA (by rw [rl.own];exact ho)] at q
   exact q
 rw [cG ho]
 refine cW ?_
 unfold jW at q
 rw [aC (by rw [rl.own];exact ho)] at q
 refine ⟨_,Z,z,_,_,_,Z,Z,hz,bg (j:=2) rfl,_,_,Z,Z,_,Z,eF (fun c=>?_) (fun c=>?_)⟩
 . rw [aC (eE c)] at q
   exact q H (aF.refl _)
 rw [aA (oN (mQ.mpr c))] at q
 have lN:(B.qs.map fun q=>V.ref q.1).length=b.ao.length:=by rw [aG];exact hb.ql
 have pl:=wb.pl
 refine ⟨1,Z,(iE 2),fun l0 iF=>?_⟩
 have g0:=az iF (.lst [.int (-1), .int 6])
 have h0:upd H l0 (.lst [.int (-1), .int 6]) l0=some (.lst [.int (-1), .int 6]):=ah
 show Wi _ _ _ (upd H l0 (.lst [.int (-1), .int 6])) _
 generalize upd H l0 (.lst [.int (-1), .int 6])=H0 at *
 have hb:=hb.mono g0
 refine ⟨_,Z,z,_,_,_,Z,Z,g0.tup hz,bg (j:=2) rfl,_,Z,B.m,_,Z,cV.k (k:=Sum.inr "parts") hb.om,B.lp,Z,⟨_,aB.of hb.op⟩,fun ac hac=>?_⟩
 refine gC (J:=rF K B.lp) (n:=b.ao.length) 0 (fun i o H'=>aF H0 H'/\o=((b.ao.take i).map (fun p:BP=>p.wo)).map V.int) (by omega) ⟨az hac _,Z⟩ (fun i o H' hi _ hp=>⟨_,_,aB.of (hp.1 _ _ hb.op),aX (by rw [lN];exact hi)⟩) (fun o H' _ hp=>⟨_,aB.of (hp.1 _ _ hb.op),by rw [lN];exact aO _⟩) ?_ ?_
 . rintro j y o H2 H3 hj dX ha ⟨g,e⟩ ⟨rfl,hy⟩
   have ej:=aX hj
   obtain ⟨qq,eq,k1,k2,_,_⟩:=hb.find ej
   have ey:=hy _ (aB.of (g _ _ hb.op))
   rw [bK,eq] at ey
   cases ey
   refine ⟨_,Z,qq.1,_,_,_,Z,Z,aB.of (g _ _ k1),bg (j:=2) rfl,ha,g.cu hac _,?_⟩
   subst e
   rw [take_snoc ej,bF,bF]
   rfl
 rintro o1 H2 _ ha1 ⟨g2,e⟩
 rw [cA] at e
 subst e
 have ew:aS st=(b.ao.map (fun p:BP=>p.wo)).sum:=rl.whole
 have q:=q H2 (g0.trans g2)
 refine ⟨ac,b.ao.map (fun p:BP=>p.wo),Z,aB.of ha1,_,_,Z,Z, .inr ⟨_,Z,?_⟩⟩
 rw [ew] at q
 by_cases cw:(b.ao.map (fun p:BP=>p.wo)).sum<=a
 . rw [aC cw] at q
   rw [aC (cG cw)]
   exact ⟨l0,_,_,_,Z,Z,aB.of (g2 _ _ h0),bg (j:=1) rfl,q⟩
 . rw [aA cw] at q
   rw [aA (fun z=>cw (eE z))]
   exact ⟨l0,_,_,_,Z,Z,aB.of (g2 _ _ h0),bg (j:=0) rfl,q⟩
abbrev pX:Stmt:=top 43
abbrev mO:List Str:=["_law_hold","_law_deed"]
abbrev FZ:List Str:=mO
theorem Ez:aI FZ mO (ay pX):=dj
theorem EA {T:TC} {e:Ec} (F:At K mg "_law_hold_do" pX f fd) (sS:Mx P w K mg base 4 T.hold "award" pQ (KZ T e)):Dx P w K mg base 6 "_law_hold_do" mO (KN T e yg K):=by
 refine F.ON Ez fun cdv A outer s H vs Q E hr h=>?_
 obtain ⟨⟨n,ρ,A,st,z,d,rfl,hz,hh,ha,dq⟩⟩:=h
 refine ⟨_,(@cJ.h _ _ _ (ak (cK (aY iU (aK (bQ K) (qv 1) ai) bu (br _)) (au (aR (OM sS hr (qv 0) (af (aK (bQ K) (qv 1) ai) (af (aK (bQ K) (qv 1) ai) aj))))) aT)
  (au (aR aba)))),?_⟩
 cases d with
 | award o a=>
   refine ⟨_,Z,z,_,_,_,Z,Z,hz,bg (j:=0) rfl,Z,_,Z,eF (fun c=>?_) (fun c=>absurd (cG rfl) c)⟩
   exact ⟨_,Z,A.a,A.dx,_,Z,hh.h.oa,Z,_,Z,z,_,_,_,Z,Z,hz,bg (j:=1) rfl,_,Z,z,_,_,_,Z,Z,hz,bg (j:=2) rfl,⟨⟨n,ρ,A,st,o,a,Z,hh,ha,dq⟩⟩⟩
 | _=>exact ha.elim
abbrev sU:Stmt:=top 44
abbrev pY:List Str:=["_law_hold","_law_deed"]
abbrev LA:List Str:=pY.append ["_law_told","e"]
theorem jd:aI LA pY (ay sU):=dj
theorem Ig {T:TC} {e:Ec} {al:HS->Dd->Prop} (F:At K mg "_law_tried" sU f fd) (pZ:Dx P w K mg base 6 "_law_hold_do" mO (KN T e al K)) (to:∀st d i,al st d->lT st d=some i->Told K e (e.at i) i) (aL:mg "isinstance"=none) (uW:mg "ValueError"=none)
  (Ae:mg "BadName"=some (.ref e.bad)) (F0:mg "Twice"=some (.ref e.twice)) (oK:mg "NoOwner"=some (.ref e.vE)) (CN:mg "NoPart"=some (.ref e.zM)) (yp:mg "NoVoyage"=some (.ref e.D5)) (kQ:mg "BadNumber"=some (.ref e.rJ))
  (jm:mg "TooMuch"=some (.ref e.v5)) (Af:mg "BadRows"=some (.ref e.rows)) (CO:mg "NoDeed"=some (.ref e.KH)) (yq:mg "BadPaper"=some (.ref e.D6)) (p_:mg "JettisonError"=some (.ref e.VJ)):Dn P w K mg base 7 "_law_tried" pY (Ft T al K):=by
 refine F.oA jd fun cdv A outer s H vs Q E hr h=>?_
 obtain ⟨⟨n,ρ,A,st,z,d,rfl,hz,hh,ha,q2,q⟩⟩:=h
 refine ⟨_,(@cJ.h _ _ _ (ak (aP (i:=2) jd.nd (dQ aj))
  (ak (aa9 (j:=3) jd.nd rfl rfl (fun _ _ z=>z) rfl rfl (aa_ pZ hr (fun _ _ z=>z) (af (qv 0) (af (qv 1) aj))) (by rfl) p_ (fun _=>(ak (aP (i:=2) jd.nd (dQ (af (aE (e_ K rfl) (by rfl) aL jK (af (qv 3) (af (jj (n:="ValueError") (by rfl) rfl uW) aj))) (af (aE (e_ K rfl) (by rfl) aL jK (af (qv 3) (af (jY (v:= .ref _) (by rfl) Ae rfl) aj))) (af (aE (e_ K rfl) (by rfl) aL jK (af (qv 3) (af (jY (v:= .ref _) (by rfl) F0 rfl) aj))) (af (aE (e_ K rfl) (by rfl) aL jK (af (qv 3) (af (jY (v:= .ref _) (by rfl) oK rfl) aj))) aj))))))
  (ak (aP (i:=2) jd.nd (aD m7 (qv 2) (dQ (af (aE (e_ K rfl) (by rfl) aL jK (af (qv 3) (af (jY (v:= .ref _) (by rfl) CN rfl) aj))) (af (aE (e_ K rfl) (by rfl) aL jK (af (qv 3) (af (jY (v:= .ref _) (by rfl) yp rfl) aj))) (af (aE (e_ K rfl) (by rfl) aL jK (af (qv 3) (af (jY (v:= .ref _) (by rfl) kQ rfl) aj))) aj))))))
  (au (aP (i:=2) jd.nd (aD m7 (qv 2) (dQ (af (aE (e_ K rfl) (by rfl) aL jK (af (qv 3) (af (jY (v:= .ref _) (by rfl) jm rfl) aj))) (af (aE (e_ K rfl) (by rfl) aL jK (af (qv 3) (af (jY (v:= .ref _) (by rfl) Af rfl) aj))) (af (aE (e_ K rfl) (by rfl) aL jK (af (qv 3) (af (jY (v:= .ref _) (by rfl) CO rfl) aj))) (af (aE (e_ K rfl) (by rfl) aL jK (af (qv 3) (af (jY (v:= .ref _) (by rfl) yq rfl) aj))) aj))))))))))))
  (au (aR (qv 2)))))),?_⟩
 refine ⟨fC _,fun l0 iF=>?_⟩
 have g0:aF H (upd H l0 (.lst [])):=az iF _
 have h0:upd H l0 (.lst []) l0=some (.lst []):=ah
 generalize upd H l0 (.lst [])=H0 at g0 h0
 refine ⟨_,Z,_,Z,⟨⟨n,ρ,A,st,z,d,Z,g0.tup hz,hh.mono g0,ha,⟨fun i hi x H1 g1=>⟨_,Z,(to st d i ha hi).jt,fun y hy=>?_⟩,fun hn ρ' A' H' Eb ea F'=>⟨Z,?_⟩⟩⟩⟩⟩
 . have g2:=az hy (Ct y (e.at i))
   refine Qz (i:=2) (j:=3) (to st d i ha hi) rfl (show 2<4 from by decide) (by decide) ah fun l H2 g3 hl2=>?_
   exact ⟨_,Z,q2 i hi l _ (g0.trans (g1.trans (g2.trans g3))) hl2⟩
 . obtain ⟨a1,a2⟩:=F'.at h0 (hh.g.none iF)
   exact ⟨_,Z,q hn l0 ρ' A' H' Eb ea ((Fr.of_same g0).trans F') a1 a2 iF⟩
abbrev oh:Stmt:=top 46
abbrev lO:List Str:=["_law_model_here","_law_deed"]
abbrev EB:List Str:=lO.append ["_law_nought"]
theorem uX:aI EB lO (ay oh):=dj
theorem CP (F:At K mg "_law_model_do" oh f fd) (kT:Dn P w K mg base 1 "_law_bear" nq (Kq K)) (kR:Dn P w K mg base 1 "_law_seat" nj (Ko K)):Dn P w K mg base 5 "_law_model_do" lO (Ht yg K):=by
 refine F.oA uX fun cdv A outer s H vs Q E hr h=>?_
 obtain ⟨⟨n,c,ρ,B,b,st,z,d,rfl,hz,G,hb,gd,hc,wf,ha,db,hr0,q⟩⟩:=h
 refine ⟨_,(@cJ.h _ _ _ (ak (qz (i:=2) ["_law_part"] [none] uX.nd rfl rfl rfl (di K (bR (bZ hr) (qv 0) bu)) (fun _ _ _ _=>(aN (i:=0) (show List.Nodup (["_law_part"] :List Str) from by decide +kernel))) (fun _ _ _ _=>ai) rfl (by rfl) (by rfl))
  (au (c8 (aZ kT hr (af (qv 0) (af (qv 2) (af (aZ kR hr (af (bR (bZ hr) (qv 0) bu) (af (aK (bQ K) (qv 1) ai) aj))) (af (aK (bQ K) (qv 1) ai) aj))))))))),?_⟩
 obtain ⟨o,a,rfl⟩:∃o a,d = .award o a:=by
  cases d with
  | award o a=>exact ⟨o,a,Z⟩
  | _=>exact ha.elim
 obtain ⟨ho,h1,h2⟩:=Ef hr0
 have ha:Cz st:=ha
 have wb:=gd.kg
 have pl:=wb.pl
 have ew:=gd.rel.whole
 have eo:=gd.rel.own
 rw [eo] at ho
 have hi:b.own.idxOf o<b.own.length:=Jj.mpr ho
 have lN:(B.qs.map fun q=>V.ref q.1).length=b.ao.length:=by rw [aG];exact hb.ql
 refine ⟨_,Z,B.m,_,Z,cV.k (k:=Sum.inr "parts") hb.om,B.lp,Z,⟨_,aB.of hb.op⟩,fun l0 iF=>?_⟩
 refine gC (J:=rF K B.lp) (n:=b.ao.length) 0 (fun i o H'=>aF H H'/\o=(List.replicate i (0:Int)).map V.int) (by omega) ⟨az iF _,Z⟩ (fun i o H' hi _ hp=>⟨_,_,aB.of (hp.1 _ _ hb.op),aX (by rw [lN];exact hi)⟩) (fun o H' _ hp=>⟨_,aB.of (hp.1 _ _ hb.op),by rw [lN];exact aO _⟩) ?_ ?_
 . rintro i y o H2 H3 hi dX ha ⟨g,e⟩ ⟨rfl,hy⟩
   refine ⟨ha,g.cu iF _,?_⟩
   subst e
   rw [List.replicate_succ',bF]
   rfl
 rintro o1 H1 _ ha1 ⟨g1,e⟩
 subst e
 have hb1:=hb.mono g1
 have hz1:cT K H1 z (Dd.v (.award o a)):=cT.of (g1 _ _ hz)
 have bo:jU b (List.replicate b.ao.length 0) (b.own.idxOf o) a:=⟨jz,fun x hx=>by rw [Ji hx];exact lD _,hi,by omega,by rw [ye];omega,by rw [<-ew];exact ha.big⟩
 exact ⟨_,Z,_,Z,_,Z,B.m,_,Z,cV.k (k:=Sum.inr "owners") hb1.om,_,Z,z,_,_,_,Z,Z,hz1,bg (j:=1) rfl,⟨⟨B.lo,b.own,o,Z,aB.of hb1.oo,ho,by have:=wb.ol;omega,_,Z,z,_,_,_,Z,Z,hz1,bg (j:=2) rfl,⟨⟨n,ρ,B,b,l0,List.replicate b.ao.length 0,b.own.idxOf o,a,Z,G.same g1,hb1,wb,aB.of ha1,G.none iF,bo,fun ρ' B' H' a1 a2 a3 a4=>q ρ' B' H' a1 a2 a3 ((Fr.of_same g1).trans a4)⟩⟩⟩⟩⟩
abbrev qN:Stmt:=top 47
abbrev nM:List Str:=["_law_script","_law_k","_law_hold","_law_model_here","_law_deed"]
abbrev Ih:List Str:=nM.append ["_law_due_here","_law_found"]
theorem qO:aI Ih nM (ay qN):=dj
theorem F_ {T:TC} {al:HS->Dd->Prop} (hlt:∀st d i,al st d->lT st d=some i->i<10) (adE:∀c st b d,gc c st b->c<=90->Wf st->al st d->OL d->lT st d=none->gc (c+1) (vF st d) (D_ b d)/\(vF st d).kn<=st.kn+100) (F:At K mg "_law_single" qN f fd) (yr:Dn P w K mg base 5 "_law_due" tP (WO al K)) (uY:Dn P w K mg base 7 "_law_tried" pY (Ft T al K)) (yt:Dn P w K mg base 1 "_law_hot" tN QA) (qa:Dn P w K mg base 5 "_law_model_do" lO (Ht al K)):Dn P w K mg base 8 "_law_single" nM (KY T al K):=by
 refine F.oA qO fun cdv A outer s H vs Q E hr h=>?_
 obtain ⟨⟨n,m,c,ρ,A,B,st,b,v0,v1,z,d,rfl,nm,hz,hh,hb,gd,hc,ha,db,q⟩⟩:=h
 refine ⟨_,(@cJ.h _ _ _ (ak (aP (i:=5) qO.nd (aZ yr hr (af (qv 3) (af (qv 4) aj))))
  (ak (aP (i:=6) qO.nd (aZ uY hr (af (qv 2) (af (qv 4) aj))))
  (ak (cK (aY Dh (qv 5) ai (br _)) (au (aR (qC (E7 K hr.units) (qv 6) (aZ yt hr (af (qv 5) aj)) (br _)))) aT)
  (ak (c8 (aZ qa hr (af (qv 3) (af (qv 4) aj))))
  (au (aR (qC (E7 K hr.units) (qv 6) (dQ aj) (br _))))))))),?_⟩
 refine ⟨_,Z,_,Z,⟨⟨m,ρ,B,b,st,z,d,Z,cT.of hz,hb,gd.rel,hh.wf,gd.kg,gd.eL,ha,db,fun HB gB=>?_⟩⟩⟩
 have hzB:=gB _ _ hz
 have Ud:=hh.mono gB
 refine ⟨_,Z,_,Z,QE rfl (cT.of hzB) Ud ha fun l ρC AC HC LB Xd FC sC Xe=>?_⟩
 have oC:aF (out ρ H) (out ρC HC):=(iM gB).trans FC.out
 have Xf:=(hb.mono gB).other FC Ud.g (bY nm)
 have hzC:=FC.tup Ud.g _ _ hzB
 show gi 6 (.ref l) _ _ _
 cases hr:lT st d with
 | some j=>
   have eaf:uu st d=st:=by unfold uu;rw [hr]
   rw [eaf] at LB
   rw [hr] at Xe
   refine ⟨_,Z,_,_,Z,Z,_,Z,eF (fun _=>?_) (fun c=>absurd (cG (by show (0:Int)<=(j:Int);omega)) c)⟩
   refine ⟨_,Z,_,Z,Yz (n:=j) rfl fun p HD gD hpD=>YB (r:=some j) (gD _ _ Xe) hpD (fun i hi=>by cases hi;exact hlt st d _ ha hr) ?_⟩
   exact q ρC AC B HD st b (LB.mono gD) (Xf.mono gD) gd.mono Xd rfl rfl (by omega) (.inl rfl) (oC.trans (iM gD))
 | none=>
   have eaf:uu st d=vF st d:=by unfold uu;rw [hr]
   rw [eaf] at LB
   rw [hr] at Xe
   obtain ⟨gd',hk⟩:=adE c st b d gd hc hh.wf ha db hr
   refine ⟨_,Z,_,_,Z,Z,_,Z,eF (fun c=>absurd (eE c) (by show ¬ (0:Int)<=-1;decide)) (fun _=>?_)⟩
   have cl:ρC l=none:=sC hr
   refine ⟨_,Z,_,Z,⟨⟨m,c,ρC,B,b,st,z,d,Z,hzC,LB.g,Xf,gd,hc,hh.wf,ha,db,hr,fun ρD BD HD GD hbD emD FD=>?_⟩⟩⟩
   obtain ⟨hlD,_⟩:=FD.at Xe cl
   refine ⟨_,Z,(iE 0),fun p1 hp1=>?_⟩
   have gE:=az hp1 (.lst [])
   refine ⟨.list [], .list [], .lst (aB.of (gE _ _ hlD)) .nil, .lst (aB.of ah) .nil,Z,Z,?_⟩
   exact q ρD AC BD _ _ _ ((LB.other FD GD nm).mono gE) (hbD.mono gE) gd' Xd emD (Tw b d) hk (.inr ⟨hr,Z⟩) ((oC.trans FD.out).trans (iM gE))
abbrev mj:Stmt:=top 48
abbrev jJ:List Str:=["_law_script","_law_k","_law_model_here","_law_word"]
abbrev A8:List Str:=jJ.append ["_law_some"]
theorem jv:aI A8 jJ (ay mj):=dj
theorem Ag (F:At K mg "_law_other_word" mj f fd) (aM:Dn P w K mg base 1 "_law_draw" fj (lR K)) (bf:mg "len"=none):Dn P w K mg base 2 "_law_other_word" jJ (BK K):=by
 refine F.oA jv fun cdv A outer s H vs Q E hr h=>?_
 obtain ⟨⟨a,ms,k,n,ρ,B,b,x,rfl,hS,h63,hk,hb,bk,hx,q⟩⟩:=h
 refine ⟨_,(@cJ.h _ _ _ (ak (aP (i:=4) jv.nd (aD m7 (aD m7 (aD m7 (bR (bZ hr) (qv 2) bu) (fG ["_law_part"] [none] rfl (di K (bR (bZ hr) (qv 2) bu)) (fun _ _ _ _=>(aN (i:=0) (show List.Nodup (["_law_part"] :List Str) from by decide +kernel))) (fun _ _ _ _=>(aK (aQ K) (qv 0) ai)) rfl (by rfl))) (bR (bZ hr) (qv 2) bu)) (dQ (af bu aj))))
  (ak (aP (i:=4) jv.nd (aD m7 (qv 4) (dQ (af (aD qw (qv 3) bu) (af (nS w_ (qv 3) qy (qx ai)) (af (nS w_ (qv 3) (qx ai) qy) (af (aD qw (qv 3) bu) (af (aD qw bu (nS w_ (qv 3) (qx ai) qy)) (af (aD qw (aD qw (qv 3) (qv 3)) bu) aj)))))))))
  (ak (aP (i:=4) jv.nd (aD m7 (qv 4) (dQ (af (aD qw bu (qv 3)) (af bu (af (aD qw (nS w_ (qv 3) qy (qx ai)) bu) aj))))))
  (au (aR (nS w_ (aK (aQ K) (qv 4) (aZ aM hr (af (qv 0) (af (qv 1) (af ai (af (aE (bN K) (by rfl) bf dF (af (qv 4) aj)) aj)))))) qy (qx ai)))))))),?_⟩
 have lN:(B.qs.map fun q=>V.ref q.1).length=b.ao.length:=by rw [aG];exact hb.ql
 have pl:=bk.pl
 have kl:=bk.kl
 have ol:=bk.ol
 refine ⟨_,Z,B.m,_,Z,cV.k (k:=Sum.inr "known") hb.om,?_⟩
 refine ⟨_,Z,B.m,_,Z,cV.k (k:=Sum.inr "parts") hb.om,B.lp,Z,⟨_,aB.of hb.op⟩,fun ac hac=>?_⟩
 refine gC (J:=rF K B.lp) (n:=b.ao.length) 0 (fun i o H'=>aF H H'/\o=((b.ao.take i).map (fun p:BP=>p.nm)).map V.str) (by omega) ⟨az hac _,Z⟩ (fun i o H' hi _ hp=>⟨_,_,aB.of (hp.1 _ _ hb.op),aX (by rw [lN];exact hi)⟩) (fun o H' _ hp=>⟨_,aB.of (hp.1 _ _ hb.op),by rw [lN];exact aO _⟩) ?_ ?_
 . rintro j y o H2 H3 hj dX ha ⟨g,e⟩ ⟨rfl,hy⟩
   have ej:=aX hj
   obtain ⟨qq,eq,k1,k2,_,_⟩:=hb.find ej
   have ey:=hy _ (aB.of (g _ _ hb.op))
   rw [bK,eq] at ey
   cases ey
   refine ⟨_,Z,qq.1,_,_,_,Z,Z,aB.of (g _ _ k1),bg (j:=0) rfl,ha,g.cu hac _,?_⟩
   subst e
   rw [take_snoc ej,bF,bF]
   rfl
 rintro o H2 _ ha ⟨g2,e⟩
 rw [cA] at e
 subst e
 have sz:∀n:Nat,n<=5000->n<=sizeLine:=fun n h=>by rw [fm];omega
 refine ⟨B.lk,ac,_,_,Z,Z,g2 _ _ hb.ok,ha,sz _ (by rw [aG,aG,aG];omega),fun p1 hp1=>?_⟩
 have g3:=az hp1 (.lst (b.eL.map V.str++(b.ao.map (fun p:BP=>p.nm)).map V.str))
 have Hw:upd H2 p1 (.lst (b.eL.map V.str++(b.ao.map (fun p:BP=>p.nm)).map V.str)) p1=some (.lst (b.eL.map V.str++(b.ao.map (fun p:BP=>p.nm)).map V.str)):=ah
 generalize upd H2 p1 (.lst (b.eL.map V.str++(b.ao.map (fun p:BP=>p.nm)).map V.str))=H3 at g3 Hw
 have LC:=g2.trans g3
 refine ⟨_,Z,B.m,_,Z,cV.k (k:=Sum.inr "owners") (LC _ _ hb.om),?_⟩
 refine ⟨p1,B.lo,_,_,Z,Z,Hw,LC _ _ hb.oo,sz _ (by rw [dg,aG,aG,aG,aG];omega),fun p2 hp2=>?_⟩
 have W2:jX 100 (b.eL.map V.str++(b.ao.map (fun p:BP=>p.nm)).map V.str++b.own.map V.str):=((jX.map fun x hx=>fQ (bk.eL x hx) (by decide)).append (jX.map fun x hx=>by
   obtain ⟨p,hp,rfl⟩:=cD.mp hx
   exact fQ (bk.ao p hp) (by decide))).append (jX.map fun x hx=>fQ (bk.own x hx) (by decide))
 have l2:(b.eL.map V.str++(b.ao.map (fun p:BP=>p.nm)).map V.str++b.own.map V.str).length<=2100:=by
  rw [dg,dg,aG,aG,aG,aG];omega
 generalize b.eL.map V.str++(b.ao.map (fun p:BP=>p.nm)).map V.str++b.own.map V.str=vM at *
 have g4:=az hp2 (.lst vM)
 have Ue:upd H3 p2 (.lst vM) p2=some (.lst vM):=ah
 generalize upd H3 p2 (.lst vM)=H4 at g4 Ue
 refine ⟨(iE 1),fun p3 hp3=>?_⟩
 have g5:=az hp3 (.lst [.str ""])
 refine ⟨p2,p3,_,_,Z,Z,g5 _ _ Ue,ah,sz _ (by show vM.length+1<=_;omega),fun p4 KJ=>?_⟩
 have g6:=az KJ (.lst (vM++[.str ""]))
 have h46:upd (upd H4 p3 (.lst [.str ""])) p4 (.lst (vM++[.str ""])) p4=some (.lst (vM++[.str ""])):=ah
 have W3:jX 100 (vM++[.str ""]):=W2.append (jX.cons (by decide +kernel) jX.nil)
 have l3:(vM++[V.str ""]).length<=2101:=by rw [dg];show vM.length+1<=_;omega
 have g06:=LC.trans (g4.trans (g5.trans g6))
 show gi 4 (.ref p4) _ (upd (upd H4 p3 (.lst [.str ""])) p4 (.lst (vM++[.str ""]))) _
 generalize upd (upd H4 p3 (.lst [.str ""])) p4 (.lst (vM++[.str ""]))=H6 at g06 h46
 generalize vM++[V.str ""]=L3 at *
 clear g6 KJ hp3 g5 Ue g4 hp2 W2 l2
 have l1:wl "a"<=10:=by decide +kernel
 have l22:wl "-"<=10:=by decide +kernel
 have l33:wl "A"<=10:=by decide +kernel
 have l4:wl "abcdefgh"<=10:=by decide +kernel
 have l5:wl " "<=10:=by decide +kernel
 have l6:wl "zzzzzzz"<=10:=by decide +kernel
 have l7:wl "\n"<=10:=by decide +kernel
 refine ⟨_,Z,_,Z,_,_,Z,Z,by omega,fun r1 h1=>?_⟩
 refine ⟨_,Z,_,Z,_,Z,by omega,fun r2 h2 _=>?_⟩
 refine ⟨_,Z,_,Z,_,Z,by omega,fun r3 h3 _=>?_⟩
 refine ⟨_,Z,_,_,Z,Z,by omega,fun r4 h4=>?_⟩
 refine ⟨_,Z,_,Z,_,Z,by omega,fun r5 h5 _=>⟨_,_,Z,Z,by omega,fun r6 h6=>?_⟩⟩
 refine ⟨_,Z,_,Z,_,_,Z,Z,by omega,fun r7 h7=>⟨_,_,Z,Z,by omega,fun r8 h8=>?_⟩⟩
 refine ⟨(iE 6),fun p5 hp5=>?_⟩
 have g7:=az hp5 (.lst [.str r1, .str r2, .str r3, .str r4, .str r6, .str r8])
 refine ⟨p4,p5,_,_,Z,Z,g7 _ _ h46,ah,sz _ (by show L3.length+6<=_;omega),fun p6 OP=>?_⟩
 have g8:=az OP (.lst (L3++[.str r1, .str r2, .str r3, .str r4, .str r6, .str r8]))
 have h68:upd (upd H6 p5 (.lst [.str r1, .str r2, .str r3, .str r4, .str r6, .str r8])) p6 (.lst (L3++[.str r1, .str r2, .str r3, .str r4, .str r6, .str r8])) p6=some (.lst (L3++[.str r1, .str r2, .str r3, .str r4, .str r6, .str r8])):=ah
 have W4:jX 100 (L3++[.str r1, .str r2, .str r3, .str r4, .str r6, .str r8]):=W3.append (.cons (by omega) (.cons (by omega) (.cons (by omega) (.cons (by omega) (.cons (by omega) (.cons (by omega) .nil))))))
 have l8:(L3++[V.str r1, .str r2, .str r3, .str r4, .str r6, .str r8]).length<=2107:=by rw [dg];show L3.length+6<=_;omega
 have g08:=g06.trans (g7.trans g8)
 show gi 4 (.ref p6) _ (upd (upd H6 p5 (.lst [.str r1, .str r2, .str r3, .str r4, .str r6, .str r8])) p6 (.lst (L3++[.str r1, .str r2, .str r3, .str r4, .str r6, .str r8]))) _
 generalize upd (upd H6 p5 (.lst [.str r1, .str r2, .str r3, .str r4, .str r6, .str r8])) p6 (.lst (L3++[.str r1, .str r2, .str r3, .str r4, .str r6, .str r8]))=H8 at g08 h68
 generalize L3++[V.str r1, .str r2, .str r3, .str r4, .str r6, .str r8]=L4 at *
 refine ⟨_,Z,_,Z,_,_,Z,Z,by omega,fun t1 k1=>?_⟩
 refine ⟨_,Z,_,Z,_,Z,by omega,fun t2 k2 _=>⟨_,_,Z,Z,by omega,fun t3 k3=>?_⟩⟩
 refine ⟨(iE 3),fun p7 hp7=>?_⟩
 have g9:=az hp7 (.lst [.str t1, .str "zzzzzzz", .str t3])
 refine ⟨p6,p7,_,_,Z,Z,g9 _ _ h68,ah,sz _ (by show L4.length+3<=_;omega),fun p8 TU=>?_⟩
 have g10:=az TU (.lst (L4++[.str t1, .str "zzzzzzz", .str t3]))
 have hA:upd (upd H8 p7 (.lst [.str t1, .str "zzzzzzz", .str t3])) p8 (.lst (L4++[.str t1, .str "zzzzzzz", .str t3])) p8=some (.lst (L4++[.str t1, .str "zzzzzzz", .str t3])):=ah
 have W5:jX 100 (L4++[.str t1, .str "zzzzzzz", .str t3]):=W4.append (.cons (by omega) (.cons (by omega) (.cons (by omega) .nil)))
 have l9:(L4++[V.str t1, .str "zzzzzzz", .str t3]).length<=2110/\0<(L4++[V.str t1, .str "zzzzzzz", .str t3]).length:=by rw [dg];show L4.length+3<=_/\0<L4.length+3;omega
 have g0A:=g08.trans (g9.trans g10)
 show gi 4 (.ref p8) _ (upd (upd H8 p7 (.lst [.str t1, .str "zzzzzzz", .str t3])) p8 (.lst (L4++[.str t1, .str "zzzzzzz", .str t3]))) _
 generalize upd (upd H8 p7 (.lst [.str t1, .str "zzzzzzz", .str t3])) p8 (.lst (L4++[.str t1, .str "zzzzzzz", .str t3]))=HA at g0A hA
 generalize L4++[V.str t1, .str "zzzzzzz", .str t3]=L5 at *
 refine ⟨_,Z,_,Z,_,Z,_,Z,p8,_,Z, .inl (aB.of hA),cM (g0A.seq hS) h63 hk (by decide) (by decide) (by omega) fun d _ d0 d1=>?_⟩
 obtain ⟨v,hv,hat⟩:=Tn (xs:=L5) (i:=d) (by omega) d1
 obtain ⟨sv,rfl,hsv⟩:=W5 v hv
 exact ⟨p8,_,_,_,Z,Z,aB.of hA,hat,_,Z,sv,Z,by omega,fun r hr1 hr2=>q r _ g0A (hr2 20 rfl rfl)⟩
abbrev kI:Stmt:=top 49
abbrev iX:List Str:=["_law_script","_law_k","_law_model_here","_law_code"]
abbrev yI:List Str:=iX.append ["_law_whole","_law_some","_law_part"]
theorem gu:aI yI iX (ay kI):=dj
theorem yu (F:At K mg "_law_other_number" kI f fd) (aM:Dn P w K mg base 1 "_law_draw" fj (lR K)) (bf:mg "len"=none) (d_:mg "sum"=none) (tO:mg "min"=none):Dn P w K mg base 2 "_law_other_number" iX (yD K):=by
 refine F.oA gu fun cdv A outer s H vs Q E hr h=>?_
 obtain ⟨⟨a,ms,k,n,ρ,B,b,i0,rfl,hS,h63,hk,hb,bk,hi,q⟩⟩:=h
 refine ⟨_,(@cJ.h _ _ _ (ak (aP (i:=4) gu.nd (aE (jg K rfl) (by rfl) d_ tW (af (fG ["_law_part"] [none] rfl (di K (bR (bZ hr) (qv 2) bu)) (fun _ _ _ _=>(aN (i:=0) (show List.Nodup (["_law_part"] :List Str) from by decide +kernel))) (fun _ _ _ _=>(aK (aQ K) (qv 0) ai)) rfl (by rfl)) aj)))
  (ak (aP (i:=5) gu.nd (dQ (af ai (af (aD jL ai (qv 3)) (af (AQ wI ai) (af (aD bP (qv 3) ai) (af (aD mZ ai ai) (af (qv 4) (af (aD jL (qv 4) ai) (af (aD bP (qv 4) ai) (af ai aj)))))))))))
  (ak (dO d8 rfl (di K (bR (bZ hr) (qv 2) bu)) (aN (i:=6) gu.nd) (au (aP (i:=5) gu.nd (aD m7 (qv 5) (dQ (af (aK (aQ K) (qv 6) ai) (af (aD bP (aK (aQ K) (qv 6) ai) ai) (af (aD jL (aK (aQ K) (qv 6) ai) ai) (af (aD bP (aK (aQ K) (qv 6) ai) ai) aj)))))))))
  (au (aR (aE (Gy rfl) (by rfl) tO PyProof.Rows.boot_min (af (aK (aQ K) (qv 5) (aZ aM hr (af (qv 0) (af (qv 1) (af ai (af (aE (bN K) (by rfl) bf dF (af (qv 5) aj)) aj)))))) (af (aD mZ ai ai) aj))))))))),?_⟩
 have lN:(B.qs.map fun q=>V.ref q.1).length=b.ao.length:=by rw [aG];exact hb.ql
 have pl:=bk.pl
 have P9:PD 10 9:=⟨by decide,by decide,by decide +kernel⟩
 have p9:(10:Int) ^ (9:Int).toNat=1000000000:=by decide +kernel
 refine ⟨_,Z,B.m,_,Z,cV.k (k:=Sum.inr "parts") hb.om,B.lp,Z,⟨_,aB.of hb.op⟩,fun ac hac=>?_⟩
 refine gC (J:=rF K B.lp) (n:=b.ao.length) 0 (fun i o H'=>aF H H'/\o=((b.ao.take i).map (fun p:BP=>p.wo)).map V.int) (by omega) ⟨az hac _,Z⟩ (fun i o H' hi _ hp=>⟨_,_,aB.of (hp.1 _ _ hb.op),aX (by rw [lN];exact hi)⟩) (fun o H' _ hp=>⟨_,aB.of (hp.1 _ _ hb.op),by rw [lN];exact aO _⟩) ?_ ?_
 . rintro j y o H2 H3 hj dX ha ⟨g,e⟩ ⟨rfl,hy⟩
   have ej:=aX hj
   obtain ⟨qq,eq,k1,k2,_,_⟩:=hb.find ej
   have ey:=hy _ (aB.of (g _ _ hb.op))
   rw [bK,eq] at ey
   cases ey
   refine ⟨_,Z,qq.1,_,_,_,Z,Z,aB.of (g _ _ k1),bg (j:=2) rfl,ha,g.cu hac _,?_⟩
   subst e
   rw [take_snoc ej,bF,bF]
   rfl
 rintro o H2 _ ha ⟨g2,e⟩
 rw [cA] at e
 subst e
 refine ⟨ac,b.ao.map (fun p:BP=>p.wo),Z,aB.of ha,?_⟩
 have hW:0<=(b.ao.map (fun p:BP=>p.wo)).sum:=Tq fun x hx=>by
  obtain ⟨p,hp,rfl⟩:=cD.mp hx
  exact (bk.wo p hp).1
 generalize (b.ao.map (fun p:BP=>p.wo)).sum=W at *
 refine ⟨_,Z,_,_,Z,Z,_,Z,?_⟩
 refine ⟨_,Z,_,_,Z,Z,_,_,Z,Z,P9,_,Z,_,Z,_,_,Z,Z,_,Z,_,_,Z,Z,(iE 9),fun p1 hp1=>?_⟩
 obtain ⟨i1,i2⟩:=hi
 generalize Ti:upd H2 p1 (HO.lst _)=H3
 have zN:upd H2 p1 (.lst [.int 0, .int (0-i0), .int (-1), .int (i0+1), .int ((10:Int) ^ (9:Int).toNat), .int W, .int (W-1), .int (W+1), .int 1])=H3:=Ti
 rw [p9] at zN
 have g3:aF H2 H3:=zN▸az hp1 _
 have Hw:H3 p1=some (.lst [.int 0, .int (0-i0), .int (-1), .int (i0+1), .int 1000000000, .int W, .int (W-1), .int (W+1), .int 1]):=by rw [<-zN,ah]
 clear Ti zN
 have N0:uw [.int 0, .int (0-i0), .int (-1), .int (i0+1), .int 1000000000, .int W, .int (W-1), .int (W+1), .int 1] := .cons (by omega) (.cons (by omega) (.cons (by omega) (.cons (by omega) (.cons (by omega) (.cons (by omega) (.cons (by omega) (.cons (by omega) (.cons (by omega) .nil))))))))
 have LC:=g2.trans g3
 refine ⟨_,Z,B.m,_,Z,cV.k (k:=Sum.inr "parts") (LC _ _ hb.om),B.lp,Z,⟨_,aB.of (LC _ _ hb.op)⟩,?_⟩
 refine lQ (K:=K) (xs:=B.qs.map fun q=>V.ref q.1) (fun i σ H'=>∃(p:Addr) (vs:List V) (s6:Option V),σ=[some (.ref a),some (.int k),some (.ref B.m),some (.int i0),some (.int W),some (.ref p),s6]/\aF H H'/\H' p=some (.lst vs)/\uw vs/\vs.length=9+4*i)
  ⟨p1,_,_,Z,LC,Hw,N0,Z⟩ (fun i σ H' _ hp=>by obtain ⟨_,_,_,_,g,_⟩:=hp;exact aB.of (g _ _ hb.op)) ?_ ?_
 . rintro i y σ H' hy ⟨p,vs,s6,rfl,g,hp,hN,hl⟩
   rw [bK] at hy
   obtain ⟨qq,eq,rfl⟩:=lP.mp hy
   have hib:i<b.ao.length:=by rw [<-hb.ql];exact (eU.mp eq).1
   have ei:=aX hib
   obtain ⟨k1,k2,_,_⟩:=hb.pt i _ qq ei eq
   have kk:=aB.of (K:=K) (g _ _ k1)
   obtain ⟨w1,w2⟩:=bk.wo _ (u_ hib)
   refine ⟨_,Z,_,Z,qq.1,_,_,_,Z,Z,kk,bg (j:=2) rfl,_,Z,qq.1,_,_,_,Z,Z,kk,bg (j:=2) rfl,_,_,Z,Z,_,Z,qq.1,_,_,_,Z,Z,kk,bg (j:=2) rfl,_,_,Z,Z,_,Z,qq.1,_,_,_,Z,Z,kk,bg (j:=3) rfl,_,_,Z,Z,(iE 4),fun p2 hp2=>?_⟩
   generalize Tj:upd H' p2 (HO.lst _)=H4
   have Cu:upd H' p2 (.lst [.int (b.ao[i]).wo, .int ((b.ao[i]).wo+1), .int ((b.ao[i]).wo-1), .int ((b.ao[i]).we+1)])=H4:=Tj
   have g4:aF H' H4:=Cu▸az hp2 _
   have Ue:H4 p2=some (.lst [.int (b.ao[i]).wo, .int ((b.ao[i]).wo+1), .int ((b.ao[i]).wo-1), .int ((b.ao[i]).we+1)]):=by rw [<-Cu,ah]
   clear Tj Cu
   refine ⟨p,p2,_,_,Z,Z,g4 _ _ hp,Ue,by rw [fm,hl];show 9+4*i+4<=_;omega,fun p3 hp3=>?_⟩
   exact ⟨p3,_,_,Z,g.trans (g4.trans (az hp3 _)),ah,hN.append (.cons (by omega) (.cons (by omega) (.cons (by omega) (.cons (by omega) .nil)))),by rw [dg,hl];show 9+4*i+4=_;omega⟩
 rintro σ H' ⟨p,vs,s6,rfl,g,hp,hN,hl⟩
 refine ⟨_,Z,_,Z,_,Z,_,Z,p,_,Z, .inl (aB.of hp),cM (g.seq hS) h63 hk (by decide) (by decide) (by omega) fun d _ d0 d1=>?_⟩
 obtain ⟨v,hv,hat⟩:=Tn (xs:=vs) (i:=d) (by omega) d1
 obtain ⟨j,rfl,hj⟩:=hN v hv
 refine ⟨p,_,_,_,Z,Z,aB.of hp,hat,_,_,Z,Z,P9,_,_,Z,q _ _ g ?_⟩
 rw [p9]
 unfold nB
 split <;> omega
abbrev uZ:Stmt:=top 50
abbrev rC:List Str:=["_law_script","_law_k","_law_model_here","_law_deed"]
abbrev MY:List Str:=rC.append ["_law_way","_law_at_here","_law_thing"]
theorem mq:aI MY rC (ay uZ):=dj
theorem LD {ok:Dd->Prop} (bo:TJ ok) (F:At K mg "_law_bent" uZ f fd) (aM:Dn P w K mg base 1 "_law_draw" fj (lR K)) (mY:Dn P w K mg base 2 "_law_other_word" jJ (BK K)) (lz:Dn P w K mg base 2 "_law_other_number" iX (yD K)) (bf:mg "len"=none) (aL:mg "isinstance"=none) (lK:mg "str"=none):Dn P w K mg base 3 "_law_bent" rC (Fx ok K):=by
 refine F.oA mq fun cdv A outer s H vs Q E hr h=>?_
 obtain ⟨⟨a,ms,k,n,ρ,B,b,z,d,rfl,hS,h63,hk,hb,bk,hz,db,q⟩⟩:=h
 refine ⟨_,(@cJ.h _ _ _ (ak (cK (aY iU (aK (bQ K) (qv 3) ai) bu (br _)) (au jB) aT)
  (ak (aP (i:=4) mq.nd (aZ aM hr (af (qv 0) (af (qv 1) (af ai (af ai aj))))))
  (ak (cK (fH (bW.pt (xm (aY iU (aK (bQ K) (qv 3) ai) bu (br _)) (xh (aY iU (qv 4) ai (br _)))))) (au (aR (aD (Fp K) (qv 3) (jk (af (aK (bQ K) (qv 3) ai) (af ai aj)))))) aT)
  (ak (cK (fH (bW.pt (xm (aY iU (aK (bQ K) (qv 3) ai) bu (br _)) (xh (aY iU (qv 4) ai (br _)))))) (au (aR (jk (af bu aj)))) aT)
  (ak (aP (i:=5) mq.nd (aD bP ai (aZ aM hr (af (qv 0) (af (qv 1) (af ai (af (aD jL (aE (bN K) (by rfl) bf dF (af (qv 3) aj)) ai) aj)))))))
  (ak (gX (dm (aE (c6 K) (by rfl) aL jK (af (aK (bQ K) (qv 3) (qv 5)) (af (jj ER rfl lK) aj)))) (au (aP (i:=6) mq.nd (aZ mY hr (af (qv 0) (af (qv 1) (af (qv 2) (af (aK (bQ K) (qv 3) (qv 5)) aj))))))) (au (aP (i:=6) mq.nd (aZ lz hr (af (qv 0) (af (qv 1) (af (qv 2) (af (aK (bQ K) (qv 3) (qv 5)) aj))))))))
  (au (aR (aD (Fp K) (aD (Fp K) (nS (OG K) (qv 3) qy (qx (qv 5))) (jk (af (qv 6) aj))) (nS (OG K) (qv 3) (qx (aD bP (qv 5) ai)) qy))))))))))),?_⟩
 have e0:rG (Dd.v d) 0=some (.str d.w):=bg (j:=0) d.v0
 refine ⟨_,Z,z,_,_,_,Z,Z,hz,e0,Z,_,Z,eF (fun c=>absurd (V.str.inj (eE c)) (Dd.YC (bo.kind d db).2)) (fun _=>?_)⟩
 refine ⟨_,Z,_,Z,cM hS h63 hk (by decide) (by decide) (by decide) fun way _ w0 w1=>?_⟩
 have no2:∀u:Int,Y9 (PJ (Dg Zp (Dg (P_ K) (B3 3) (tC (.int 0))) (tC (.str "cast")))) (PJ (Dg Zp (B3 4) (tC (.int u)))) [some (.ref a),some (.int k),some (.ref B.m),some (.ref z),some (.int way),none,none] H (fun b' H'=>b'=false/\H'=H):=fun u=>
  ⟨_,Z,z,_,_,_,Z,Z,hz,e0,Z,_,Z,eF (fun c=>absurd (V.str.inj (eE c)) (Dd.aa6 (bo.kind d db).1)) fun _=>⟨Z,Z⟩⟩
 refine ⟨false,no2 1,cW ?_⟩
 refine ⟨false,no2 2,cW ?_⟩
 refine ⟨_,Z,_,Z,_,Z,z,_,Z, .inr hz,_,_,Z,Z,cM hS h63 hk (by decide) (by decide) (by have:=(bo.len d db).1;omega) fun at' _ a0 a1=>⟨_,_,Z,Z,?_⟩⟩
 obtain ⟨dl,dl2⟩:=bo.len d db
 obtain ⟨i,ei⟩:∃i:Nat,1+at'=(i:Int):=⟨(1+at').toNat,by omega⟩
 show gi 5 (.int (1+at')) _ _ _
 rw [ei]
 have hi1:1<=i:=by omega
 have hil:i<d.v.length:=by omega
 obtain ⟨i',ei'⟩:∃i',i=i'+1:=⟨i-1,by omega⟩
 obtain ⟨v,hv⟩:∃v,d.v[i]?=some v:=⟨_,aX hil⟩
 have hat:rG (Dd.v d) (i:Int)=some v:=bg hv
 refine ⟨fun σ H'=>aF H H'/\∃(t:V),σ=[some (.ref a),some (.int k),some (.ref B.m),some (.ref z),some (.int way),some (.int (i:Int)),some t]/\alike v t,?_,?_⟩
 . rcases bo.at_ d i' v db (by rw [<-ei'];exact hv) with ⟨s,rfl,hs⟩|⟨j,rfl,hj⟩
   . refine ⟨_,Z,_,Z,z,_,_,_,Z,Z,hz,hat,_,_,_,_,Z,gx.str _,ig,_,Z,rO ?_⟩
     exact ⟨_,Z,_,Z,_,Z,_,Z,_,Z,z,_,_,_,Z,Z,hz,hat,⟨⟨a,ms,k,n,ρ,B,b,s,Z,hS,h63,hk,hb,bk,hs,fun r H' g hr=>⟨g,_,Z, .inl ⟨s,r,Z,Z,hr⟩⟩⟩⟩⟩
   . refine ⟨_,Z,_,Z,z,_,_,_,Z,Z,hz,hat,_,_,_,_,Z,gx.int _,ME,_,Z,cW ?_⟩
     exact ⟨_,Z,_,Z,_,Z,_,Z,_,Z,z,_,_,_,Z,Z,hz,hat,⟨⟨a,ms,k,n,ρ,B,b,j,Z,hS,h63,hk,hb,bk,hj,fun r H' g hr=>⟨g,_,Z, .inr ⟨j,r,Z,Z,hr⟩⟩⟩⟩⟩
 rintro σ H4 ⟨g4,t,rfl,al⟩
 obtain ⟨d',ed,bd⟩:=bo.set d i' v t db (by rw [<-ei'];exact hv) al
 rw [<-ei'] at ed
 have hz4:=g4.tup hz
 have ed':(d.v.take i++[t])++d.v.drop (i+1)=d'.v:=by
  rw [ed,List.set_eq_take_append_cons_drop,aC hil,Jo];rfl
 have agK:vQ (Dd.v d) none (some (i:Int))=d.v.take i:=Yu _ _
 have agL:vQ (Dd.v d) (some ((i:Int)+1)) none=d.v.drop (i+1):=by rw [show (i:Int)+1=((i+1:Nat):Int) by omega,Te]
 have nwL:¬ (HT.dG (Dd.v d).length 0 none=0/\HT.dG (Dd.v d).length (Dd.v d).length (some (i:Int))=(Dd.v d).length):=by rw [HT.wL];omega
 have nwR:¬ (HT.dG (Dd.v d).length 0 (some ((i:Int)+1))=0/\HT.dG (Dd.v d).length (Dd.v d).length none=(Dd.v d).length):=by rw [show (i:Int)+1=((i+1:Nat):Int) by omega,HT.wL];omega
 have hlt:(d.v.take i).length=i:=by rw [kY];omega
 refine ⟨_,Z,_,Z,_,Z,z,_,Z,hz4,nwL,fun p hp=>?_⟩
 rw [agK]
 have g5:=az hp (.tup (d.v.take i))
 have h5:upd H4 p (.tup (d.v.take i)) p=some (.tup (d.v.take i)):=ah
 generalize upd H4 p (.tup (d.v.take i))=H5 at g5 h5
 refine ⟨_,Z,(iE 1),fun p' zK=>?_⟩
 have g6:=az zK (.tup [t])
 refine ⟨p,p',_,[t],Z,Z,cT.of (g6 _ _ h5),cT.of ah,(by rw [hlt,fm];show _+1<=_;omega),(fun e=>absurd (h_ List.length e) (by rw [hlt];show ¬ i=0;omega)),(fun _ e=>nomatch e),fun _ _ u hu=>?_⟩
 have g7:=az hu (.tup (d.v.take i++[t]))
 have Xg:=g4.trans (g5.trans (g6.trans g7))
 have h7:upd (upd H5 p' (.tup [t])) u (.tup (d.v.take i++[t])) u=some (.tup (d.v.take i++[t])):=ah
 generalize upd (upd H5 p' (.tup [t])) u (.tup (d.v.take i++[t]))=H7 at Xg h7
 refine ⟨_,Z,_,Z,_,_,Z,Z,_,Z,z,_,Z,Xg.tup hz,nwR,fun p3 hp3=>?_⟩
 rw [agL]
 have g8:=az hp3 (.tup (d.v.drop (i+1)))
 refine ⟨u,p3,_,_,Z,Z,cT.of (g8 _ _ h7),cT.of ah,(by rw [dg,hlt,Jq,fm];show i+1+_<=_;omega),(fun e=>absurd (h_ List.length e) (by rw [dg];show ¬ _+1=0;omega)),(fun _ e=>?_),fun _ _ z2 hz2=>?_⟩
 . rw [e,tE] at ed'
   exact q u d' _ (Xg.trans g8) (by rw [<-ed'];exact g8 _ _ h7) bd
 . exact q z2 d' _ (Xg.trans (g8.trans (az hz2 _))) (by rw [<-ed'];exact ah) bd
abbrev qb:Stmt:=top 60
abbrev QX:List Str:=["_law_script"]
abbrev adF:List Str:=QX.append ["_law_owners","_law_names_here","_law_hold","_law_model_here","_law_at_here","_law_whole","_law_owner","_law_deed"]
theorem mw:aI adF QX (ay qb):=dj
theorem ab6 {T:TC} (F:At K mg "law" qb f fd) (aM:Dn P w K mg base 1 "_law_draw" fj (lR K)) (qc:Dn P w K mg base 2 "_law_names" pR (E9 K))
  (u6:Dn P w K mg base 6 "_law_tells" pT (tR 2 T K)) (u7:Dn P w K mg base 5 "_law_begin" pU (Om T K)) (u9:Dn P w K mg base 1 "_law_model" pS (Oz K)) (wC:Dn P w K mg base 6 "_law_prep" rB (TF T K))
  (rD:Dn P w K mg base 3 "_law_bent" rC (Fx CA K)) (sV:Dn P w K mg base 8 "_law_single" nM (KY T yg K))
  (bf:mg "len"=none) (bH:mg "range"=none) (tO:mg "min"=none) (QY:mg "max"=none) (d_:mg "sum"=none):iZ P w K mg base sW 9 f fd QX (Jd K):=by
 refine F.fn.ok mw (fun vs H Q E h=>?_) (fun cdv A outer s H vs Q E hr h=>?_)
 . obtain ⟨a,ns,rfl,_⟩:=h
   rfl
 obtain ⟨a,ns,rfl,hS,h63,q⟩:=h
 refine ⟨_,(@cJ.h _ _ _ (ak (aP (i:=1) mw.nd (aZ qc hr (af (qv 0) (af ai (af (aD bP ai (aZ aM hr (af (qv 0) (af ai (af ai (af ai aj)))))) aj)))))
  (ak (aP (i:=2) mw.nd (aZ qc hr (af (qv 0) (af ai (af ai aj)))))
  (ak (aP (i:=3) mw.nd (aZ u7 hr (af (qv 1) aj)))
  (ak (aP (i:=4) mw.nd (aZ u9 hr (af (qv 1) aj)))
  (ak (gX (aY jE (aZ aM hr (af (qv 0) (af ai (af ai (af ai aj))))) ai (br _)) (au (c8 (aZ wC hr (af (qv 0) (af (qv 3) (af (qv 4) (af (qv 2) aj))))))) aT)
  (ak (dO d8 rfl (dP (by rfl) bH (af (aD bP ai (aZ aM hr (af (qv 0) (af ai (af ai (af ai aj)))))) aj)) (aN (i:=5) mw.nd) (ak (aP (i:=6) mw.nd (aE (jg K rfl) (by rfl) d_ tW (af (fG ["_law_part"] [none] rfl (di K (bR (bZ hr) (qv 4) bu)) (fun _ _ _ _=>(aN (i:=0) (show List.Nodup (["_law_part"] :List Str) from by decide +kernel))) (fun _ _ _ _=>(aK (aQ K) (qv 0) ai)) rfl (by rfl)) aj)))
  (ak (aP (i:=7) mw.nd (aK (aQ K) (qv 1) (aZ aM hr (af (qv 0) (af (aD bP ai (qv 5)) (af ai (af (aE (bN K) (by rfl) bf dF (af (qv 1) aj)) aj)))))))
  (ak (aP (i:=8) mw.nd (jk (af bu (af (qv 7) (af (aD bP ai (aZ aM hr (af (qv 0) (af (aD bP ai (qv 5)) (af ai (af (aE (Rz rfl) (by rfl) QY PyProof.Rows.boot_max (af (aE (Gy rfl) (by rfl) tO PyProof.Rows.boot_min (af (aD jL (qv 6) ai) (af (aD mZ ai ai) aj))) (af ai aj))) aj)))))) aj)))))
  (ak (gX (aY iU (aZ aM hr (af (qv 0) (af (aD bP ai (qv 5)) (af ai (af ai aj))))) ai (br _)) (au (aP (i:=8) mw.nd (aZ rD hr (af (qv 0) (af (aD bP ai (qv 5)) (af (qv 4) (af (qv 8) aj))))))) aT)
  (ak (gX (aY iU (aZ aM hr (af (qv 0) (af (aD bP ai (qv 5)) (af ai (af ai aj))))) ai (br _)) (au (aP (i:=8) mw.nd (aZ rD hr (af (qv 0) (af (aD bP ai (qv 5)) (af (qv 4) (af (qv 8) aj))))))) aT)
  (au (cK (bW.pt (iV (dH (dm (aZ sV hr (af (qv 0) (af (aD bP ai (qv 5)) (af (qv 3) (af (qv 4) (af (qv 8) aj)))))))) (ir (dH (dm (aZ u6 hr (af (qv 3) (af (qv 4) aj)))))))) (au (aR fq)) aT))))))))
  (au (aR fq))))))))),?_⟩
 refine ⟨_,Z,_,Z,cM hS h63 (by decide) (by decide) (by decide) (by decide) fun od _ o0 o1=>⟨_,_,Z,Z,?_⟩⟩
 obtain ⟨no,hno⟩:∃no:Nat,1+od=(no:Int):=⟨(1+od).toNat,by omega⟩
 refine GK hno hS h63 (by decide) (by omega) fun zo nso H1 g1 hzo _ ajw ab7 ab8=>?_
 have xx:=g1.seq hS
 refine ⟨_,Z,GK (show (6:Int)=((6:Nat):Int) from rfl) xx h63 (by decide) (by decide) fun zn nsn H2 g2 hzn _ ajx ab_ acd=>?_⟩
 have hS2:=g2.seq xx
 have LF:=g2 _ _ hzo
 rw [Yg] at LF hzn
 have dX:=Oo nso
 have hnl:=Oo nsn
 have ze:=GS ab7
 have LG:=SA ab8
 have Uc:=GS ab_
 have agM:=SA acd
 generalize DS nso=own at *
 generalize DS nsn=nms at *
 clear ab7 ab8 ab_ acd hzo
 refine ⟨_,Z,⟨⟨zo,own,0,fun _=>none,Z,aB.of LF,Z,ze,fun o ho=>(LG o ho).isNm,by omega,(fun b c e=>by cases e),fun ρ3 A3 H3 lI F3=>?_⟩⟩⟩
 have o3:aF (out (fun _=>none) H2) (out ρ3 H3):=F3.out
 have OI:=lI
 refine ⟨_,Z,⟨⟨zo,own,1,ρ3,Z,F3.seq (aB.of LF) rfl,lI.g,by omega,fun ρ4 B4 H4 G4 z8 k4=>?_⟩⟩⟩
 have F4:Fr 1 ρ3 H3 ρ4 H4:=fun b o e _=>k4 b o e
 have kN:=lI.other F4 G4 (by decide)
 have o4:=o3.trans F4.out
 have fS:=(sZ.of hS2).go o4
 have fN:=(sZ.of (aB.of (K:=K) hzn)).go o4
 have hS4:=fS _ _ (aF.refl _)
 have ajy:(own.foldl gy hs0).kn=0:=Ky own hs0
 obtain ⟨gd4,en4⟩:=gd0 (own:=own) (by omega) (by omega) (fun o ho=>(LG o ho).isNm)
 generalize own.foldl gy hs0=st4 at *
 generalize OX:A3.a=x
 generalize OY:B4.m=mm
 have fO:=(sZ.of (aB.of (K:=K) LF)).go o4
 have owS:∀o∈own,PyData.strOk o=true:=fun o ho=>(LG o ho).strOk
 clear OI lI o3 F4 k4 o4 F3 hS4 hS2 xx LF hzn
 refine ⟨fun σ' H'=>∃ρ' A' B' st' b',σ'=[some (.ref a),some (.ref zo),some (.ref zn),some (.ref x),some (.ref mm),none,none,none,none]/\HH T 0 ρ' A' H' st'/\a_ 1 ρ' B' H' b'/\gc 1 st' b'/\A'.a=x/\B'.m=mm/\b'.own=own/\st'.kn<=0/\sZ K ρ' H' a (ns.map V.int)/\sZ K ρ' H' zo (own.map V.str),?_,?_⟩
 . refine ⟨_,Z,cM (fS _ _ (aF.refl _)) h63 (by decide) (by decide) (by decide) (by decide) fun wd _ _ _=>⟨_,_,Z,Z,_,Z,eF (fun _=>?_) (fun _=>?_)⟩⟩
   . refine ⟨_,Z,_,Z,_,Z,_,Z,⟨⟨0,1,ρ4,A3,B4,st4,_,a,zn,ns,nms,by rw [OX,OY];rfl,by decide,kN,z8,gd4,fS,h63,fN,Uc,agM,LG,by omega,en4,Z,Z,fun ρ5 A5 B5 H5 wQ b5 s_ z9 Xh BV BW Xi ek5 ajz o5=>?_⟩⟩⟩
     exact ⟨ρ5,A5,B5,wQ,b5,Z,s_,z9,Xh,BV.trans OX,BW.trans OY,Xi,by omega,fS.go o5,fO.go o5⟩
   . exact ⟨ρ4,A3,B4,st4,_,Z,kN,z8,gd4.mono,OX,OY,Z,by omega,fS,fO⟩
 clear kN z8 gd4 fS fN fO OX OY
 rintro σ H5 ⟨ρ5,A5,B5,wQ,b5,rfl,s_,z9,Xh,BV,BW,Xi,ek5,fS5,fO5⟩
 refine ⟨_,Z,cM (fS5 _ _ (aF.refl _)) h63 (by decide) (by decide) (by decide) (by decide) fun cd _ c0 c1=>⟨_,_,Z,Z,?_⟩⟩
 refine ⟨_,Z,by omega,by omega,?_⟩
 refine fT (lo:=0) (n:=(1+cd).toNat) (fun i σ H'=>∃ρ' A' B' st' b' s5 s6 s7 s8,σ=[some (.ref a),some (.ref zo),some (.ref zn),some (.ref x),some (.ref mm),s5,s6,s7,s8]/\HH T 0 ρ' A' H' st'/\a_ 1 ρ' B' H' b'/\gc (1+i) st' b'/\A'.a=x/\B'.m=mm/\b'.own=own/\st'.kn<=40000*i/\sZ K ρ' H' a (ns.map V.int)/\sZ K ρ' H' zo (own.map V.str))
  ⟨ρ5,A5,B5,wQ,b5,_,_,_,_,Z,s_,z9,Xh,BV,BW,Xi,by omega,fS5,fO5⟩ ?_ ?_
 . clear s_ z9 Xh fS5 fO5 BV BW Xi
   rintro i σ H6 hi ⟨ρ6,A6,B6,st6,b6,s5,s6,s7,s8,rfl,BQ,uR,Xj,T7,O2,eo6,ek6,fS6,fO6⟩
   have e0:(0:Int)+(i:Int)=((i:Nat):Int):=by omega
   rw [e0]
   have hS6:=fS6 _ _ (aF.refl _)
   have hO6:=fO6 _ _ (aF.refl _)
   have P9:PD 10 9:=⟨by decide,by decide,by decide +kernel⟩
   have p9:(10:Int) ^ (9:Int).toNat=1000000000:=by decide +kernel
   have bk:=Xj.bk BQ.wf
   have pl:=Xj.kg.pl
   have om6:H6 mm=some (.dK (fF B6 b6.bot)):=by rw [<-O2];exact uR.om
   have lN:(B6.qs.map fun q=>V.ref q.1).length=b6.ao.length:=by rw [aG];exact uR.ql
   refine ⟨_,Z,mm,_,Z,cV.k (k:=Sum.inr "parts") om6,B6.lp,Z,⟨_,aB.of uR.op⟩,fun ac hac=>?_⟩
   refine gC (J:=rF K B6.lp) (n:=b6.ao.length) 0 (fun i o H'=>aF H6 H'/\o=((b6.ao.take i).map (fun p:BP=>p.wo)).map V.int) (by omega) ⟨az hac _,Z⟩ (fun i o H' hi _ hp=>⟨_,_,aB.of (hp.1 _ _ uR.op),aX (by rw [lN];exact hi)⟩) (fun o H' _ hp=>⟨_,aB.of (hp.1 _ _ uR.op),by rw [lN];exact aO _⟩) ?_ ?_
   . rintro j y o H2 H3 hj dX ha ⟨g,e⟩ ⟨rfl,hy⟩
     have ej:=aX hj
     obtain ⟨qq,eq,k1,k2,_,_⟩:=uR.find ej
     have ey:=hy _ (aB.of (g _ _ uR.op))
     rw [bK,eq] at ey
     cases ey
     refine ⟨_,Z,qq.1,_,_,_,Z,Z,aB.of (g _ _ k1),bg (j:=2) rfl,ha,g.cu hac _,?_⟩
     subst e
     rw [take_snoc ej,bF,bF]
     rfl
   rintro o H7 _ ha ⟨g7,e⟩
   rw [cA] at e
   subst e
   have O3:=g7.seq hS6
   have hb7:=uR.mono g7
   refine ⟨ac,b6.ao.map (fun p:BP=>p.wo),Z,aB.of ha,?_⟩
   generalize (b6.ao.map (fun p:BP=>p.wo)).sum=W at *
   refine ⟨_,Z,_,Z,_,Z,_,_,Z,Z,_,Z,zo,_,Z, .inl (g7.seq hO6),cM O3 h63 (by omega) (by decide) (by decide) (by rw [aG];omega) fun wd _ w0 w1=>?_⟩
   rw [aG] at w1
   obtain ⟨jo,o,ejo,eo,eat⟩:=Ke (l:=own) (d:=wd) w0 w1
   have agN:wl o<=20:=AM (LG o (bV eo)).isNm
   refine ⟨zo,_,_,_,Z,Z,g7.seq hO6,eat,?_⟩
   refine ⟨_,Z,_,Z,_,Z,_,_,Z,Z,_,Z,_,_,Z,Z,_,_,Z,Z,P9,_,_,Z,_,_,Z,?_⟩
   rw [p9]
   have mx:∀v:Int,0<(if 1>(if 1000000000<v then 1000000000 else v) then 1 else (if 1000000000<v then 1000000000 else v))/\(if 1>(if 1000000000<v then 1000000000 else v) then 1 else (if 1000000000<v then 1000000000 else v))<=1000000000:=fun v=>by split <;> split <;> omega
   obtain ⟨m1,m2⟩:=mx (W-1)
   refine cM O3 h63 (by omega) (by decide) (by decide) m1 fun mu _ u0 u1=>⟨_,_,Z,Z,(iE 3),fun z1 hz1=>?_⟩
   have gA:=az hz1 (.tup (Dd.v (.award o (1+mu))))
   have oE:upd H7 z1 (.tup (Dd.v (.award o (1+mu)))) z1=some (.tup (Dd.v (.award o (1+mu)))):=ah
   show gi 8 (.ref z1) _ (upd H7 z1 (.tup (Dd.v (.award o (1+mu))))) _
   generalize upd H7 z1 (.tup (Dd.v (.award o (1+mu))))=Ha at oE gA
   have Ah:CA (.award o (1+mu)):=⟨_,_,Z,agN,by unfold nB;omega⟩
   generalize Dd.award o (1+mu)=d1 at oE Ah
   have hal:∀d,CA d->yg st6 d:=fun d h=>by obtain ⟨_,_,rfl,_⟩:=h;exact Xj.aw (by omega)
   clear hz1
   refine ⟨fun σ' Ha=>∃(z:Addr) (d:Dd),σ'=[some (.ref a),some (.ref zo),some (.ref zn),some (.ref x),some (.ref mm),some (.int (i:Int)),some (.int W),some (.str o),some (.ref z)]/\aF H7 Ha/\Ha z=some (.tup d.v)/\CA d,?_,?_⟩
   . refine ⟨_,Z,_,Z,_,_,Z,Z,cM (gA.seq O3) h63 (by omega) (by decide) (by decide) (by decide) fun bw _ _ _=>⟨Z,_,Z,eF (fun _=>?_) (fun _=>?_)⟩⟩
     . exact ⟨_,Z,_,Z,_,_,Z,Z,_,Z,_,Z,Hu O2 (gA.seq O3) h63 (by omega) (hb7.mono gA) bk (cT.of oE) Ah fun z' d' H' g hz bd=>⟨z',d',Z,gA.trans g,hz,bd⟩⟩
     . exact ⟨z1,d1,Z,gA,oE,Ah⟩
   clear oE Ah gA
   clear z1 d1 Ha
   rintro σ Ha ⟨z1,d1,rfl,gA,oE,Ah⟩
   refine ⟨fun σ' Ha=>∃(z:Addr) (d:Dd),σ'=[some (.ref a),some (.ref zo),some (.ref zn),some (.ref x),some (.ref mm),some (.int (i:Int)),some (.int W),some (.str o),some (.ref z)]/\aF H7 Ha/\Ha z=some (.tup d.v)/\CA d,?_,?_⟩
   . refine ⟨_,Z,_,Z,_,_,Z,Z,cM (gA.seq O3) h63 (by omega) (by decide) (by decide) (by decide) fun bw _ _ _=>⟨Z,_,Z,eF (fun _=>?_) (fun _=>?_)⟩⟩
     . exact ⟨_,Z,_,Z,_,_,Z,Z,_,Z,_,Z,Hu O2 (gA.seq O3) h63 (by omega) (hb7.mono gA) bk (cT.of oE) Ah fun z' d' H' g hz bd=>⟨z',d',Z,gA.trans g,hz,bd⟩⟩
     . exact ⟨z1,d1,Z,gA,oE,Ah⟩
   clear oE Ah gA
   clear z1 d1 Ha
   rintro σ Ha ⟨z,d,rfl,gA,oE,Ah⟩
   have g6A:=g7.trans gA
   have hhA:=BQ.mono g6A
   have hbA:=uR.mono g6A
   have oA:aF (out ρ6 H6) (out ρ6 Ha):=iM g6A
   refine ⟨_,Z,_,Z,_,_,Z,Z,_,Z,_,Z,_,Z,⟨⟨0,1,1+i,ρ6,A6,B6,st6,b6,_,_,z,d,by rw [T7,O2];rfl,by decide,oE,hhA,hbA,Xj,by omega,hal d Ah,abj Ah,fun ρB AB BB HB stB bB Ud hbB gdB eaB emB eoB ekB dnB oB=>⟨_,Z,cW ?_⟩⟩⟩⟩
   have ach:bB.own=own:=eoB.trans eo6
   have agO:∀o∈bB.own,PyData.strOk o=true:=fun o ho=>owS o (by rw [<-ach];exact ho)
   refine ⟨_,Z,_,Z,⟨⟨0,1,ρB,AB,BB,stB,bB,1+i+1,by rw [eaB,T7,emB,O2];rfl,by decide,Ud,hbB,gdB,by omega,agO,by omega,fun ρC AC HC k LB hk Xf Xd oC=>⟨_,Z,cW ?_⟩⟩⟩⟩
   exact ⟨ρC,AC,BB,_,bB,_,_,_,_,Z,LB,Xf,by have:=WI gdB k;rw [show 1+(i+1)=1+i+1 by omega];exact this,Xd.trans (eaB.trans T7),emB.trans O2,ach,by show k<=_;omega,fS6.go (oA.trans (oB.trans oC)),fO6.go (oA.trans (oB.trans oC))⟩
 rintro σ H6 _
 exact q H6
end
theorem all_mk {l:PySem.W.OpenLaw} {w:World} {K:Fg} {h:Heap} {mg:SO} {fa:Addr} (X:K.In h) (G:h.Ns mainGlobals mg) (hfa:mg "law"=some (.ref fa))
  {f:Addr} {od an:Option Addr} {sl:Array (Option Value)} {oc kV dc pm cd ct:Value}
  (a:PySem.W.nsIn K mainGlobals "law"=some (some (.ref f))) (l1:K.lookup f=some ⟨oc,od, .func (PySem.W.fnOf "law" "law" (dR qb) (cE qb) (ay qb) .none kV dc pm an cd ct),sl⟩) (c:PySem.W.codeIn K cd "law"=true) (k:PySem.W.keepIn K (.ref f)=true)
  (EC:cR K "common_factor" nT) (Ug:cR K "made_of" yh) (Uh:cR K "is_name" yi) (Ga:cR K "check_amount" pG) (LH:cR K "check_loss" rV) (LI:cR K "amounts_of" rW) (ED:cR K "factor_of_all" nU) (MZ:cR K "_law_draw" uL) (M_:cR K "_law_name" uM) (LJ:cR K "_law_names" sy) (Na:cR K "_law_much" uN) (QZ:cR K "_law_int" v_) (LK:cR K "_law_least" sH) (Ui:cR K "_law_is" yl) (CQ:cR K "_law_part_list" mV) (A_:cR K "_law_share_list" lZ) (LL:cR K "_law_model" sJ) (Nb:cR K "_law_seat" uO) (EE:cR K "_law_new_part" nZ) (Ai:cR K "_law_tells_parts" lg) (yJ:cR K "_law_tells_landed" kH) (LM:cR K "_law_tells" sN) (LN:cR K "_law_begin" sP) (Q0:cR K "_law_hot" wg) (Uj:cR K "_law_at" yo) (Nc:cR K "_law_rows" uS) (Nd:cR K "_law_bear" uT) (Ba:cR K "_law_model_cast" mh) (LO:cR K "_law_loads" sR) (Nf:cR K "_law_prep" uU) (Q2:cR K "_law_due" wB) (Gb:cR K "_law_hold_do" pX) (LP:cR K "_law_tried" sU) (EF:cR K "_law_model_do" oh) (Ii:cR K "_law_single" qN) (Bb:cR K "_law_other_word" mj) (yK:cR K "_law_other_number" kI) (Ng:cR K "_law_bent" uZ)
  (adG:PySem.W.nsIn K mainGlobals "len"=some none)
  (YJ:PySem.W.nsIn K mainGlobals "range"=some none)
  (adH:PySem.W.nsIn K mainGlobals "sum"=some none)
  (aci:PySem.W.nsIn K mainGlobals "list"=some none)
  (adI:PySem.W.nsIn K mainGlobals "zip"=some none)
  (adJ:PySem.W.nsIn K mainGlobals "all"=some none)
  (adK:PySem.W.nsIn K mainGlobals "int"=some none)
  (acj:PySem.W.nsIn K mainGlobals "bool"=some none)
  (adL:PySem.W.nsIn K mainGlobals "str"=some none)
  (YK:PySem.W.nsIn K mainGlobals "tuple"=some none)
  (adM:PySem.W.nsIn K mainGlobals "abs"=some none)
  (LQ:PySem.W.nsIn K mainGlobals "isinstance"=some none)
  (adN:PySem.W.nsIn K mainGlobals "min"=some none)
  (adO:PySem.W.nsIn K mainGlobals "max"=some none)
  (LR:PySem.W.nsIn K mainGlobals "ValueError"=some none)
  {Q3:Tok} (Uk:PySem.W.nsIn K mainGlobals "LETTERS"=some (some (.str "abcdefghijklmnopqrstuvwxyz" Q3)))
  {cF:Addr} (YL:PySem.W.nsIn K mainGlobals "Hold"=some (some (.ref cF))) (YM:PySem.W.plainGet K cF Str.empty=true) (YN:PySem.W.hasDictIn K cF=true) (YO:PySem.W.plainOver K cF=true) (YQ:PySem.W.findIn K (.ref cF) "__setattr__"=some (some (.builtin "object.__setattr__"))) (YR:PySem.W.makesIn K cF=true) (YS:PySem.W.keepIn K (.ref cF)=true)
  (Nh:dS K cF "__init__" "Hold.__init__" uH) (EG:dS K cF "place_of" "Hold.place_of" nW) (Gd:dS K cF "part_of" "Hold.part_of" pJ) (CS:dS K cF "check_new" "Hold.check_new" mU) (Ij:dS K cF "roster" "Hold.roster" qF) (LS:dS K cF "parts" "Hold.parts" rY) (LU:dS K cF "whole" "Hold.whole" rZ) (yv:dS K cF "beyond_common" "Hold.beyond_common" j6) (Ge:dS K cF "tops_of" "Hold.tops_of" pL) (Ni:dS K cF "stow" "Hold.stow" uD) (Nj:dS K cF "sign" "Hold.sign" uE) (Nk:dS K cF "load" "Hold.load" uF) (Ik:dS K cF "shares" "Hold.shares" qJ) (Il:dS K cF "landed" "Hold.landed" qM) (EH:dS K cF "given_up" "Hold.given_up" nY) (Im:dS K cF "lessen" "Hold.lessen" qG) (LV:dS K cF "blend" "Hold.blend" r_) (Nl:dS K cF "cast" "Hold.cast" uI) (LW:dS K cF "award" "Hold.award" su)
  (Io:PySem.W.findIn K (.ref cF) "places"=some none)
  (Ip:PySem.W.findIn K (.ref cF) "aboard"=some none)
  (Iq:PySem.W.findIn K (.ref cF) "ashore"=some none)
  (LX:PySem.W.findIn K (.ref cF) "names"=some none)
  (Ir:PySem.W.findIn K (.ref cF) "bottom"=some none)
  (Iu:PySem.W.findIn K (.ref cF) "common"=some none)
  (Iw:PySem.W.findIn K (.ref cF) "purses"=some none)
  {gG:Addr} (YT:PySem.W.nsIn K mainGlobals "Part"=some (some (.ref gG))) (YU:PySem.W.plainGet K gG Str.empty=true) (YV:PySem.W.hasDictIn K gG=true) (YW:PySem.W.plainOver K gG=true) (YX:PySem.W.findIn K (.ref gG) "__setattr__"=some (some (.builtin "object.__setattr__"))) (YY:PySem.W.makesIn K gG=true) (YZ:PySem.W.keepIn K (.ref gG)=true)
  (Nm:dS K gG "__init__" "Part.__init__" uC)
  (Np:PySem.W.findIn K (.ref gG) "name"=some none)
  (LY:PySem.W.findIn K (.ref gG) "owner"=some none)
  (LZ:PySem.W.findIn K (.ref gG) "worth"=some none)
  (Iz:PySem.W.findIn K (.ref gG) "weight"=some none)
  (L6:PySem.W.findIn K (.ref gG) "scale"=some none)
  (Q5:PySem.W.findIn K (.ref gG) "row"=some none)
  {dU:Addr} (Ul:PySem.W.nsIn K mainGlobals "Bottom"=some (some (.ref dU))) (Um:PySem.W.plainGet K dU Str.empty=true) (Uo:PySem.W.hasDictIn K dU=true) (Up:PySem.W.plainOver K dU=true) (Uq:PySem.W.findIn K (.ref dU) "__setattr__"=some (some (.builtin "object.__setattr__"))) (Ur:PySem.W.makesIn K dU=true) (Us:PySem.W.keepIn K (.ref dU)=true)
  (IA:dS K dU "__init__" "Bottom.__init__" qD) (IB:dS K dU "over" "Bottom.over" qI) (Gf:dS K dU "share" "Bottom.share" pP) (IC:dS K dU "grow" "Bottom.grow" qE)
  (Gg:PySem.W.findIn K (.ref dU) "steps"=some none)
  (CT:PySem.W.findIn K (.ref dU) "product"=some none)
  (Gi:PySem.W.findIn K (.ref dU) "known"=some none)
  {jw mP gZ kJ iB fP g_ jx kK iC ef:Addr}
  (Q6:PySem.W.nsIn K mainGlobals "BadName"=some (some (.ref jw))) (V3:PySem.W.nsIn K mainGlobals "Twice"=some (some (.ref mP))) (Q7:PySem.W.nsIn K mainGlobals "NoOwner"=some (some (.ref gZ))) (Ut:PySem.W.nsIn K mainGlobals "NoPart"=some (some (.ref kJ))) (Nq:PySem.W.nsIn K mainGlobals "NoVoyage"=some (some (.ref iB))) (L7:PySem.W.nsIn K mainGlobals "BadNumber"=some (some (.ref fP))) (Q8:PySem.W.nsIn K mainGlobals "TooMuch"=some (some (.ref g_))) (Q9:PySem.W.nsIn K mainGlobals "BadRows"=some (some (.ref jx))) (Uu:PySem.W.nsIn K mainGlobals "NoDeed"=some (some (.ref kK))) (Nr:PySem.W.nsIn K mainGlobals "BadPaper"=some (some (.ref iC))) (CU:PySem.W.nsIn K mainGlobals "JettisonError"=some (some (.ref ef)))
  (Q_:Told K (Ec.mk jw mP gZ kJ iB fP g_ jx kK iC ef) gZ 2) (Ra:PySem.W.excIn K gZ [.type "ValueError", .type "Exception", .type "BaseException", .type "object"] "ValueError.__new__"=true)
  (L8:Told K (Ec.mk jw mP gZ kJ iB fP g_ jx kK iC ef) fP 5) (L_:PySem.W.excIn K fP [.type "ValueError", .type "Exception", .type "BaseException", .type "object"] "ValueError.__new__"=true)
  (Rb:Told K (Ec.mk jw mP gZ kJ iB fP g_ jx kK iC ef) g_ 6) (Rc:PySem.W.excIn K g_ [.type "ValueError", .type "Exception", .type "BaseException", .type "object"] "ValueError.__new__"=true)
  :∃fd:FuncData,(∀(s:Shared) (v:Value),BindsTo s fd ⟨[v],[]⟩ [("_law_script",v)])/\∀base:Heap,K.In base->base.Ns mainGlobals mg->iZ l.prog w K mg base sW 9 fa fd ["_law_script"] (Jd K):=by
 have e:=hfa.symm.trans (kh X G a)
 cases e
 have adP:=Wm (st:=qb) X G a l1 c k
 have vN:oj K dU:=⟨Um,Uo,Up,Uq⟩
 have fu:oj K cF:=⟨YM,YN,YO,YQ⟩
 obtain ⟨_,_,EI⟩:=EC.at X G
 obtain ⟨_,_,Uv⟩:=Ug.at X G
 obtain ⟨_,_,Uw⟩:=Uh.at X G
 obtain ⟨_,_,Gj⟩:=Ga.at X G
 obtain ⟨_,_,Ma⟩:=LH.at X G
 obtain ⟨_,_,Mb⟩:=LI.at X G
 obtain ⟨_,_,EJ⟩:=ED.at X G
 obtain ⟨_,_,Nt⟩:=MZ.at X G
 obtain ⟨_,_,Nu⟩:=M_.at X G
 obtain ⟨_,_,Mc⟩:=LJ.at X G
 obtain ⟨_,_,Nv⟩:=Na.at X G
 obtain ⟨_,_,Rg⟩:=QZ.at X G
 obtain ⟨_,_,Me⟩:=LK.at X G
 obtain ⟨_,_,Ux⟩:=Ui.at X G
 obtain ⟨_,_,CV⟩:=CQ.at X G
 obtain ⟨_,_,Bc⟩:=A_.at X G
 obtain ⟨_,_,Mf⟩:=LL.at X G
 obtain ⟨_,_,Nx⟩:=Nb.at X G
 obtain ⟨_,_,EK⟩:=EE.at X G
 obtain ⟨_,_,Aj⟩:=Ai.at X G
 obtain ⟨_,_,yL⟩:=yJ.at X G
 obtain ⟨_,_,Mg⟩:=LM.at X G
 obtain ⟨_,_,Mh⟩:=LN.at X G
 obtain ⟨_,_,Rh⟩:=Q0.at X G
 obtain ⟨_,_,Uy⟩:=Uj.at X G
 obtain ⟨_,_,Ny⟩:=Nc.at X G
 obtain ⟨_,_,Nz⟩:=Nd.at X G
 obtain ⟨_,_,Bd⟩:=Ba.at X G
 obtain ⟨_,_,Mi⟩:=LO.at X G
 obtain ⟨_,_,NB⟩:=Nf.at X G
 obtain ⟨_,_,Ri⟩:=Q2.at X G
 obtain ⟨_,_,Gk⟩:=Gb.at X G
 obtain ⟨_,_,Mj⟩:=LP.at X G
 obtain ⟨_,_,EL⟩:=EF.at X G
 obtain ⟨_,_,ID⟩:=Ii.at X G
 obtain ⟨_,_,Be⟩:=Bb.at X G
 obtain ⟨_,_,yM⟩:=yK.at X G
 obtain ⟨_,_,NC⟩:=Ng.at X G
 have bf:=nN X G adG
 have bH:=nN X G YJ
 have d_:=nN X G adH
 have dw:=nN X G aci
 have jH:=nN X G adI
 have QH:=nN X G adJ
 have AR:=nN X G adK
 have Ln:=nN X G acj
 have lK:=nN X G adL
 have jc:=nN X G YK
 have QM:=nN X G adM
 have aL:=nN X G LQ
 have tO:=nN X G adN
 have QY:=nN X G adO
 have uW:=nN X G LR
 have zR:=kh X G Uk
 obtain ⟨_,_,ND⟩:=Nh.made X G YL YR YS
 obtain ⟨_,_,EM⟩:=EG.at fu
 obtain ⟨_,_,Gm⟩:=Gd.at fu
 obtain ⟨_,_,CW⟩:=CS.at fu
 obtain ⟨_,_,IE⟩:=Ij.at fu
 obtain ⟨_,_,Ml⟩:=LS.at fu
 obtain ⟨_,_,Mm⟩:=LU.at fu
 obtain ⟨_,_,yw⟩:=yv.at fu
 obtain ⟨_,_,Gn⟩:=Ge.at fu
 obtain ⟨_,_,NF⟩:=Ni.at fu
 obtain ⟨_,_,NG⟩:=Nj.at fu
 obtain ⟨_,_,NH⟩:=Nk.at fu
 obtain ⟨_,_,IF⟩:=Ik.at fu
 obtain ⟨_,_,IG⟩:=Il.at fu
 obtain ⟨_,_,EN⟩:=EH.at fu
 obtain ⟨_,_,II⟩:=Im.at fu
 obtain ⟨_,_,Mp⟩:=LV.at fu
 obtain ⟨_,_,NI⟩:=Nl.at fu
 obtain ⟨_,_,Mq⟩:=LW.at fu
 obtain ⟨_,_,NJ⟩:=Nm.made X G YT YY YZ
 obtain ⟨_,_,IJ⟩:=IA.made X G Ul Ur Us
 obtain ⟨_,_,IK⟩:=IB.at vN
 obtain ⟨_,_,Gp⟩:=Gf.at vN
 obtain ⟨_,_,IL⟩:=IC.at vN
 have TX:Txt K ⟨cF,gG,dU⟩:=⟨fu,⟨YU,YV,YW,YX⟩,vN,Io,Ip,Iq,LX,Ir,Iu,Iw,Np,LY,LZ,Iz,L6,Q5,Gg,CT,Gi⟩
 have Ae:=kh X G Q6
 have F0:=kh X G V3
 have oK:=kh X G Q7
 have CN:=kh X G Ut
 have yp:=kh X G Nq
 have kQ:=kh X G L7
 have jm:=kh X G Q8
 have Af:=kh X G Q9
 have CO:=kh X G Uu
 have yq:=kh X G Nr
 have p_:=kh X G CU
 have yj:=ng.of Ra
 have uB:=ng.of L_
 have mJ:=ng.of Rc
 refine ⟨PySem.W.fnOf "law" "law" (dR qb) (cE qb) (ay qb) .none kV dc pm an cd ct,fun s v=> .of_eq rfl,fun base _ _=>?_⟩
 have ia:=CB (P:=l.prog) (w:=w) (base:=base) (mg:=mg) EI
 have zQ:=QG (P:=l.prog) (w:=w) (base:=base) (mg:=mg) Uv QH
 have oM:=QJ Uw zQ bf zR
 have gm:=CC (P:=l.prog) (w:=w) (base:=base) (mg:=mg) (e:=⟨jw,mP,gZ,kJ,iB,fP,g_,jx,kK,iC,ef⟩) Gj uB kQ
 have IM:=Fz Ma gm mJ jm
 have Y0:=abf gm
 have uK:=abg IM
 have uJ:=HG (P:=l.prog) (w:=w) (base:=base) (mg:=mg) Mb bf
 have pN:=CD EJ ia
 have CI:=FE (P:=l.prog) (w:=w) (base:=base) (mg:=mg) IJ TX
 have Lb:=K5 (P:=l.prog) (w:=w) (base:=base) (mg:=mg) NJ TX dw
 have Lu:=Ld ND TX CI
 have sf:=FG (P:=l.prog) (w:=w) (base:=base) (mg:=mg) IL TX
 have sr:=FP IK TX ia
 have qL:=Et Gp TX sr
 have kD:=AV (P:=l.prog) (w:=w) (base:=base) (mg:=mg) (e:=⟨jw,mP,gZ,kJ,iB,fP,g_,jx,kK,iC,ef⟩) EM TX yj oK
 have pM:=VN kD
 have iH:=Em (P:=l.prog) (w:=w) (base:=base) (mg:=mg) Gm TX
 have nX:=AX CW TX oM
 have sO:=FJ (P:=l.prog) (w:=w) (base:=base) (mg:=mg) IE TX dw
 have uQ:=HN (P:=l.prog) (w:=w) (base:=base) (mg:=mg) Ml TX
 have gq:=HQ (P:=l.prog) (w:=w) (base:=base) (mg:=mg) Mm TX d_
 have kC:=xr (P:=l.prog) (w:=w) (base:=base) (mg:=mg) yw TX jH
 have qK:=Eo (P:=l.prog) (w:=w) (base:=base) (mg:=mg) Gn TX jH
 have v8:=K9 (P:=l.prog) (w:=w) (base:=base) (mg:=mg) NF TX
 have wc:=K_ NG TX oM bf
 have wm:=La NH TX nX pM kC v8 Lb bf
 have pO:=CJ (P:=l.prog) (w:=w) (base:=base) (mg:=mg) EN TX d_ jH
 have sj:=FO (P:=l.prog) (w:=w) (base:=base) (mg:=mg) II TX
 have j7:=HU Mp TX pN sf jH
 have wA:=Lh NI TX uJ uK iH gq j7 pO sj d_
 have sL:=FT IF TX iH qK qL jH
 have sM:=FW (P:=l.prog) (w:=w) (base:=base) (mg:=mg) IG TX dw
 have sS:=FY (e:=⟨jw,mP,gZ,kJ,iB,fP,g_,jx,kK,iC,ef⟩) Mq TX kD gm gq j7 bf mJ jm
 have aM:=Lj (P:=l.prog) (w:=w) (base:=base) (mg:=mg) Nt bf bH
 have rj:=Lk (P:=l.prog) (w:=w) (base:=base) (mg:=mg) Nu bH
 have qc:=HY Mc aM rj bH
 have wk:=Lm Nv aM
 have ee:=MP (P:=l.prog) (w:=w) (base:=base) (mg:=mg) Rg aL AR Ln
 have j8:=HZ (P:=l.prog) (w:=w) (base:=base) (mg:=mg) Me QM
 have zX:=QO Ux ee j8 aL jc bf
 have n_:=AY CV ee aL dw jc lK bH bf
 have gw:=zW Bc j8 zX aL dw jc lK bH bf
 have u9:=Ia (P:=l.prog) (w:=w) (base:=base) (mg:=mg) Mf dw
 have kR:=Lq (P:=l.prog) (w:=w) (base:=base) (mg:=mg) Nx bf bH
 have pW:=CM EK kR
 have l_:=yG Aj ee n_ gw uQ gq sL d_
 have lu:=ym yL ee gw sM aL dw jc lK bH bf
 have u6:=Ib Mg l_ lu sO aL dw
 have u7:=Ic (T:=⟨cF,gG,dU⟩) Mh Lu wc
 have yt:=MS (P:=l.prog) (w:=w) (base:=base) (mg:=mg) Rh bH
 have Ab:=QU (P:=l.prog) (w:=w) (base:=base) (mg:=mg) Uy bf bH
 have wu:=Lv Ny aM bf bH dw d_ tO
 have kT:=Lw (P:=l.prog) (w:=w) (base:=base) (mg:=mg) Nz bf bH d_
 have mX:=Aa Bd Ab kT
 have uV:=Ie Mi aM wk pW wm bf bH
 have wC:=Lz (T:=⟨cF,gG,dU⟩) NB aM uV wu mX wA bf dw
 have yr:=MX (P:=l.prog) (w:=w) (base:=base) (mg:=mg) Ri d_ AR
 have pZ:=EA Gk sS
 have ack:∀st d i,yg st d->lT st d=some i->Told K (Ec.mk jw mP gZ kJ iB fP g_ jx kK iC ef) ((Ec.mk jw mP gZ kJ iB fP g_ jx kK iC ef).at i) i:=fun st d i ha hr=>TL Q_ L8 Rb ha hr
 have uY:=Ig Mj pZ ack aL uW Ae F0 oK CN yp kQ jm Af CO yq p_
 have qa:=CP EL kT kR
 have sV:=F_ YI TM ID yr uY yt qa
 have mY:=Ag Be aM bf
 have lz:=yu yM aM bf d_ tO
 have rD:=LD abk NC aM mY lz bf aL lK
 exact ab6 (T:=⟨cF,gG,dU⟩) adP aM qc u6 u7 u9 wC rD sV bf bH tO QY d_
theorem walk {l:PySem.W.OpenLaw} {q:Program} {loose:List Str} {XP:(Str->Option Value)->Heap->Prop} {YP:World->Heap->Prop} {d:DefRec} {K:Params->Fg} (hn:l.most=some 63) (hdf:d.params.defaults=[])
  (hY:∀(w:World) (h:Heap),YP w h->(K w.params).In h)
  (F:∀(w:World) (mg:SO) (fa:Addr) (h:Heap),(K w.params).In h->h.Ns mainGlobals mg->mg d.name=some (.ref fa)->
    ∃fd:FuncData,(∀(s:Shared) (u:Value),BindsTo s fd ⟨[u],[]⟩ [("_law_script",u)])/\∀base:Heap,(K w.params).In base->base.Ns mainGlobals mg->iZ l.prog w (K w.params) mg base sW 9 fa fd ["_law_script"] (Jd (K w.params))):
  PySem.W.WalkO q loose XP YP l.row.toRowW d [] (fun f vs=>PySem.call f vs):=
 L2.XF (n:=63) (k:=9) (x:="_law_script") (CX:=fun _=>sW) (sp:=fun w=>Jd (K w.params)) hn (by decide) hdf ⟨Z,by decide,by decide⟩ hY F (fun _ _ a ns hl _ hS=>⟨a,ns,Z,hS,hl,fun _=>rfl⟩) fun _ _ _ _ _ z=>z
end Law
namespace PySem.W.Fast
theorem tw18356404510202866918:True:=⟨⟩
theorem tw470520995469487081:True:=⟨⟩
theorem tw12735233885214588303:True:=⟨⟩
theorem tw4883972196246353449:True:=⟨⟩
theorem tw15857809994881485587:True:=⟨⟩
theorem tw4038887437670586692:True:=⟨⟩
theorem tw8385617406936662069:True:=⟨⟩
theorem tw1122136735289411452:True:=⟨⟩
theorem tw4364600434467676198:True:=⟨⟩
theorem tw1185730324724968797:True:=⟨⟩
theorem tw13358152836530514270:True:=⟨⟩
theorem tw7713048050034121042:True:=⟨⟩
theorem tw11297249054798863275:True:=⟨⟩
theorem tw12635982499275740864:True:=⟨⟩
theorem tw12718449641654676706:True:=⟨⟩
theorem tw6697859046314363154:True:=⟨⟩
theorem tw2772908602109549243:True:=⟨⟩
theorem tw17400965045977901468:True:=⟨⟩
theorem tw7821654847473934978:True:=⟨⟩
theorem tw7176424819515043135:True:=⟨⟩
theorem tw17863558271238801500:True:=⟨⟩
theorem tw5030767817801935123:True:=⟨⟩
theorem tw11506515857775830305:True:=⟨⟩
theorem tw12843628496013737331:True:=⟨⟩
theorem tw14258420442650576188:True:=⟨⟩
theorem tw1321817627073351981:True:=⟨⟩
theorem tw17170926721250560992:True:=⟨⟩
theorem tw3132871619538953165:True:=⟨⟩
theorem tw3715725022458403589:True:=⟨⟩
theorem tw7331789726029420919:True:=⟨⟩
theorem tw5209226042218711826:True:=⟨⟩
theorem tw5063440717590930995:True:=⟨⟩
theorem tw11827777119394848218:True:=⟨⟩
theorem tw3756144136497756756:True:=⟨⟩
theorem tw14617717443901736892:True:=⟨⟩
theorem tw1016566206751563988:True:=⟨⟩
theorem tw11329109654087705986:True:=⟨⟩
theorem tw18074676108950107313:True:=⟨⟩
theorem tw10530985106033065889:True:=⟨⟩
theorem tw16847076373291183164:True:=⟨⟩
theorem tw16712133335606196052:True:=⟨⟩
theorem tw13706571722840570944:True:=⟨⟩
theorem tw600354458799859020:True:=⟨⟩
theorem tw17287151162084931160:True:=⟨⟩
theorem tw2834066350647826206:True:=⟨⟩
theorem tw18108703085745535134:True:=⟨⟩
theorem tw12524216251899159616:True:=⟨⟩
theorem tw16167977063956216297:True:=⟨⟩
theorem tw11670750684060417707:True:=⟨⟩
theorem tw1953488482148657632:True:=⟨⟩
theorem tw17159577567298084306:True:=⟨⟩
theorem tw16319305169559431531:True:=⟨⟩
theorem tw12786624308696714435:True:=⟨⟩
theorem tw2450291513532381357:True:=⟨⟩
theorem tw1856328006735412469:True:=⟨⟩
theorem tw14195999239071900853:True:=⟨⟩
theorem tw12663080964429720338:True:=⟨⟩
theorem tw4703386889321201108:True:=⟨⟩
theorem tw6370331947077908114:True:=⟨⟩
theorem tw7905742039524514770:True:=⟨⟩
theorem tw17942126159059923920:True:=⟨⟩
theorem tw6470657299156301636:True:=⟨⟩
theorem tw502110889208109837:True:=⟨⟩
theorem tw7620474653081929818:True:=⟨⟩
theorem tw12085813440916338607:True:=⟨⟩
theorem tw2004870395222656515:True:=⟨⟩
theorem tw4009367806803729459:True:=⟨⟩
theorem tw3124356101589097254:True:=⟨⟩
theorem tw14966655988837272340:True:=⟨⟩
theorem tw13088965492728030549:True:=⟨⟩
theorem tw14283555936589559323:True:=⟨⟩
theorem tw3790456190271421643:True:=⟨⟩
theorem tw4881064704461693972:True:=⟨⟩
theorem tw1647407703102822053:True:=⟨⟩
theorem tw8900927692151588533:True:=⟨⟩
theorem tw16574063017275229379:True:=⟨⟩
theorem tw18082667064530563557:True:=⟨⟩
theorem tw11228701380252457431:True:=⟨⟩
theorem tw312448817279516226:True:=⟨⟩
theorem tw7036483337452207860:True:=⟨⟩
theorem tw9696130077957307072:True:=⟨⟩
theorem tw462432109135992092:True:=⟨⟩
theorem tw9010926695533998602:True:=⟨⟩
theorem tw17256575240544818347:True:=⟨⟩
theorem tw18283051168123960827:True:=⟨⟩
theorem tw6105306634041640991:True:=⟨⟩
theorem tw139523108757706095:True:=⟨⟩
theorem tw794740134778716211:True:=⟨⟩
theorem tw14562028187827407580:True:=⟨⟩
theorem tw16461902707317579747:True:=⟨⟩
theorem tw16310997897963145804:True:=⟨⟩
theorem tw640386830500356334:True:=⟨⟩
theorem tw14439910821826256110:True:=⟨⟩
theorem tw9236492069591537080:True:=⟨⟩
theorem tw11827462274667399331:True:=⟨⟩
theorem tw1542901575586165329:True:=⟨⟩
theorem tw14889917831185950064:True:=⟨⟩
theorem tw7479327181827327339:True:=⟨⟩
theorem tw8176549300799600771:True:=⟨⟩
theorem tw17634220687681297224:True:=⟨⟩
theorem tw15506608865250039390:True:=⟨⟩
theorem tw10660601167465761027:True:=⟨⟩
theorem tw8831676513510061010:True:=⟨⟩
theorem tw17016472756772843449:True:=⟨⟩
theorem tw5987371525655187158:True:=⟨⟩
theorem tw7436742985687998516:True:=⟨⟩
theorem tw2454819311794123874:True:=⟨⟩
theorem tw5079828497458423683:True:=⟨⟩
theorem tw16209696008663476688:True:=⟨⟩
theorem tw1919525368580889098:True:=⟨⟩
theorem tw4200792605333598844:True:=⟨⟩
theorem tw6520382959580511580:True:=⟨⟩
theorem tw16566380322392730845:True:=⟨⟩
theorem tw10416813637635697387:True:=⟨⟩
theorem tw6032698715408400079:True:=⟨⟩
theorem tw8000289568366300742:True:=⟨⟩
theorem tw6828230339196852684:True:=⟨⟩
theorem tw14523996550441490142:True:=⟨⟩
theorem tw11743035529223802964:True:=⟨⟩
theorem tw4483790914140425753:True:=⟨⟩
theorem tw16041295002985217522:True:=⟨⟩
theorem tw8344738344435065689:True:=⟨⟩
theorem tw5956486897275369371:True:=⟨⟩
theorem tw10696811923961845163:True:=⟨⟩
theorem tw11699098087994022431:True:=⟨⟩
theorem tw9696957023221063382:True:=⟨⟩
theorem tw17300266359198663927:True:=⟨⟩
theorem tw3464695988689584033:True:=⟨⟩
theorem tw12749949339573339576:True:=⟨⟩
theorem tw14344768898756717314:True:=⟨⟩
theorem tw9833249974919168023:True:=⟨⟩
theorem tw9027690202601788542:True:=⟨⟩
theorem tw2367218849130986820:True:=⟨⟩
theorem tw244160819501002005:True:=⟨⟩
theorem tw17137843632695369775:True:=⟨⟩
theorem tw17268285486674612320:True:=⟨⟩
theorem tw7099620630472883385:True:=⟨⟩
theorem tw6888434147294377748:True:=⟨⟩
theorem tw5554153624727186421:True:=⟨⟩
theorem tw10289121694126779356:True:=⟨⟩
theorem tw13596042994707803294:True:=⟨⟩
theorem tw8132112651181823652:True:=⟨⟩
theorem tw7386143809960893224:True:=⟨⟩
theorem tw6557914284683895339:True:=⟨⟩
theorem tw3190804697154568886:True:=⟨⟩
theorem tw2085558002222062942:True:=⟨⟩
theorem tw10946161118674025061:True:=⟨⟩
theorem tw7709819377590344812:True:=⟨⟩
theorem tw7161234007710382700:True:=⟨⟩
theorem tw11028734606103771947:True:=⟨⟩
theorem tw11802231943809368318:True:=⟨⟩
theorem tw12700415167951984225:True:=⟨⟩
theorem tw10722184407045504892:True:=⟨⟩
theorem tw16297052901927666639:True:=⟨⟩
theorem tw9064379110174326747:True:=⟨⟩
theorem tw6248471701801409266:True:=⟨⟩
theorem tw16248882329286838082:True:=⟨⟩
theorem tw17112804757814638870:True:=⟨⟩
theorem tw5125932346439833506:True:=⟨⟩
theorem tw15910550353120671248:True:=⟨⟩
theorem tw7978521332900625476:True:=⟨⟩
theorem tw13718963491113067863:True:=⟨⟩
theorem tw15610615049756400073:True:=⟨⟩
theorem tw8420223966551534541:True:=⟨⟩
theorem tw5050627566000700512:True:=⟨⟩
theorem tw12920509974962998584:True:=⟨⟩
theorem tw9056524354228460906:True:=⟨⟩
theorem tw8776341613433062567:True:=⟨⟩
theorem tw9562997799437681630:True:=⟨⟩
theorem tw12315905231943092852:True:=⟨⟩
theorem tw6580449672049632080:True:=⟨⟩
theorem tw17093279270136573547:True:=⟨⟩
theorem tw6177082208324727117:True:=⟨⟩
theorem tw3219732287014907787:True:=⟨⟩
theorem tw890754937386794249:True:=⟨⟩
theorem tw6198676617677506612:True:=⟨⟩
theorem tw10442947843600073888:True:=⟨⟩
theorem tw4102280689907832725:True:=⟨⟩
theorem tw7074016028717160842:True:=⟨⟩
theorem tw16074782095469892855:True:=⟨⟩
theorem tw12673258993373914850:True:=⟨⟩
theorem tw16674237214565769229:True:=⟨⟩
theorem tw10698586927648310177:True:=⟨⟩
theorem tw17483558415418910522:True:=⟨⟩
theorem tw4986743729653585108:True:=⟨⟩
theorem tw56498936063170424:True:=⟨⟩
theorem tw4160253426089142594:True:=⟨⟩
theorem tw1813174631296789944:True:=⟨⟩
theorem tw3638900080336817551:True:=⟨⟩
theorem tw5900677757349241366:True:=⟨⟩
theorem tw12667999396993706521:True:=⟨⟩
theorem tw15732477001632224172:True:=⟨⟩
theorem tw8918818803671639507:True:=⟨⟩
theorem tw3730783674079287272:True:=⟨⟩
theorem tw2101861629724525618:True:=⟨⟩
theorem tw16186097389436142849:True:=⟨⟩
theorem tw12163012683902632189:True:=⟨⟩
theorem tw11922702887416832598:True:=⟨⟩
theorem tw5523600578249775830:True:=⟨⟩
theorem tw13807831225044521445:True:=⟨⟩
theorem tw7427777963650788742:True:=⟨⟩
theorem tw8622929958145367489:True:=⟨⟩
theorem tw4469250975933209601:True:=⟨⟩
theorem tw1925105396999910691:True:=⟨⟩
theorem tw3222481814331291669:True:=⟨⟩
theorem tw357918188066923789:True:=⟨⟩
theorem tw350522350098298395:True:=⟨⟩
theorem tw9931248391414719678:True:=⟨⟩
theorem tw5109343892862235962:True:=⟨⟩
theorem tw9213088132437149324:True:=⟨⟩
theorem tw4916190487411663433:True:=⟨⟩
theorem tw14144068073009076595:True:=⟨⟩
theorem tw17891822571713405646:True:=⟨⟩
theorem tw5876113565096332797:True:=⟨⟩
theorem tw5005375195215065208:True:=⟨⟩
theorem tw10606495815366388398:True:=⟨⟩
theorem tw12193491109107970153:True:=⟨⟩
theorem tw6780218072031275163:True:=⟨⟩
theorem tw15578772273372514552:True:=⟨⟩
theorem tw7933874436007482816:True:=⟨⟩
theorem tw8689819861704145659:True:=⟨⟩
theorem tw1853810439451136878:True:=⟨⟩
theorem tw17066966034676330826:True:=⟨⟩
theorem tw5735742670349496232:True:=⟨⟩
theorem tw12339086597759570324:True:=⟨⟩
theorem tw12971673265198771299:True:=⟨⟩
theorem tw6180548598237147582:True:=⟨⟩
theorem tw17255784732910151217:True:=⟨⟩
theorem tw4096082518835701346:True:=⟨⟩
theorem tw10235030350743769353:True:=⟨⟩
theorem tw5336857728982129727:True:=⟨⟩
theorem tw7304804973413371654:True:=⟨⟩
theorem tw17161295147049699700:True:=⟨⟩
theorem tw13956150879785125677:True:=⟨⟩
theorem tw14375609657402455496:True:=⟨⟩
theorem tw17394104263212783638:True:=⟨⟩
theorem tw6381717769316251751:True:=⟨⟩
theorem tw12915527137089551676:True:=⟨⟩
theorem tw727805007947553632:True:=⟨⟩
theorem tw7935429730578264157:True:=⟨⟩
theorem tw7569402650928694923:True:=⟨⟩
theorem tw8194609710879827371:True:=⟨⟩
theorem tw16912539022546946649:True:=⟨⟩
theorem tw5586319211002345421:True:=⟨⟩
theorem tw12183714498447474733:True:=⟨⟩
theorem tw2807552782284469084:True:=⟨⟩
theorem tw4670689310985115647:True:=⟨⟩
theorem tw16432430750263887412:True:=⟨⟩
theorem tw9292402847569669823:True:=⟨⟩
theorem tw375268646216663103:True:=⟨⟩
theorem tw11148248128145636599:True:=⟨⟩
theorem tw12053682275739675619:True:=⟨⟩
theorem tw4500640621312352037:True:=⟨⟩
theorem tw17516330322900181915:True:=⟨⟩
theorem tw5942089900694555461:True:=⟨⟩
theorem tw12643938632018598866:True:=⟨⟩
theorem tw2111613170790339355:True:=⟨⟩
theorem tw17383900159691900745:True:=⟨⟩
theorem tw3077568879339038706:True:=⟨⟩
theorem tw13318902498391917331:True:=⟨⟩
theorem tw1299169347459367251:True:=⟨⟩
theorem tw16269962239364365728:True:=⟨⟩
theorem tw11194733508964910187:True:=⟨⟩
theorem tw1833751927866517302:True:=⟨⟩
theorem tw18003795280620955022:True:=⟨⟩
theorem tw3891397458311924713:True:=⟨⟩
theorem tw17058531285064102535:True:=⟨⟩
theorem tw7022130092298713916:True:=⟨⟩
theorem tw4816355324870778919:True:=⟨⟩
theorem tw781991965884944504:True:=⟨⟩
theorem tw10458986955023091455:True:=⟨⟩
theorem tw16724111031197929872:True:=⟨⟩
theorem tw1893444736727466115:True:=⟨⟩
theorem tw13408632482762357933:True:=⟨⟩
theorem tw1285822774115219367:True:=⟨⟩
theorem tw3262321668979473087:True:=⟨⟩
theorem tw10116492306175384505:True:=⟨⟩
theorem tw10863082953876798205:True:=⟨⟩
theorem tw11575080432521793329:True:=⟨⟩
theorem tw6960561271063693283:True:=⟨⟩
theorem tw69532581251920631:True:=⟨⟩
theorem tw214131092691050849:True:=⟨⟩
theorem tw3747838035478028363:True:=⟨⟩
theorem tw4828267557229125650:True:=⟨⟩
theorem tw10324425302635263078:True:=⟨⟩
theorem tw6849874832611257505:True:=⟨⟩
theorem tw7027103372795756156:True:=⟨⟩
theorem tw2171533029894484060:True:=⟨⟩
theorem tw14003237220169223872:True:=⟨⟩
theorem tw9484133028551617247:True:=⟨⟩
theorem tw8557805315731489881:True:=⟨⟩
theorem tw17478838702291289783:True:=⟨⟩
theorem tw8658692690868037889:True:=⟨⟩
theorem tw15351356675925703504:True:=⟨⟩
theorem tw11780765621784053375:True:=⟨⟩
theorem tw3814014220059276118:True:=⟨⟩
theorem tw14506121949790741706:True:=⟨⟩
theorem tw9646516695422988473:True:=⟨⟩
theorem tw18270045757579373354:True:=⟨⟩
theorem tw2429096376239247564:True:=⟨⟩
theorem tw7451886330129758308:True:=⟨⟩
theorem tw8202848694676844539:True:=⟨⟩
theorem tw18377281091654917033:True:=⟨⟩
theorem tw4041206226033249717:True:=⟨⟩
theorem tw17227233533251848532:True:=⟨⟩
theorem tw17371974078090149900:True:=⟨⟩
theorem tw12379955683463438856:True:=⟨⟩
theorem tw6799874117985434266:True:=⟨⟩
theorem tw3756315216845900235:True:=⟨⟩
theorem tw7181545444494200552:True:=⟨⟩
theorem tw7410121512899740751:True:=⟨⟩
theorem tw10538335577082336334:True:=⟨⟩
theorem tw9282927118742839525:True:=⟨⟩
theorem tw12333168385525715503:True:=⟨⟩
theorem tw9555434632393111904:True:=⟨⟩
theorem tw12887931110295205840:True:=⟨⟩
theorem tw18437028468956721857:True:=⟨⟩
theorem tw5690894564302447308:True:=⟨⟩
theorem tw7829212469511140015:True:=⟨⟩
theorem tw16653289546227887274:True:=⟨⟩
theorem tw17225919520422916026:True:=⟨⟩
theorem tw9058002068158627358:True:=⟨⟩
theorem tw1960532231988987711:True:=⟨⟩
theorem tw7987608274434042368:True:=⟨⟩
theorem tw3568974142074128685:True:=⟨⟩
theorem tw8093207188898700168:True:=⟨⟩
theorem tw9575339326314622775:True:=⟨⟩
theorem tw2402989687815906986:True:=⟨⟩
theorem tw16947563541360361979:True:=⟨⟩
theorem tw18101875017123389358:True:=⟨⟩
theorem tw6476090845500173063:True:=⟨⟩
theorem tw10674283777739024142:True:=⟨⟩
theorem tw14557549447253607094:True:=⟨⟩
theorem tw7068356499350036341:True:=⟨⟩
theorem tw1819404031551173999:True:=⟨⟩
theorem tw9154480864398631765:True:=⟨⟩
theorem tw5304493625781371065:True:=⟨⟩
theorem tw6150438382733191288:True:=⟨⟩
theorem tw8313030042012038299:True:=⟨⟩
theorem tw8212793165887814100:True:=⟨⟩
theorem tw6607603499145849675:True:=⟨⟩
theorem tw592857841113699663:True:=⟨⟩
theorem tw14323448037164034013:True:=⟨⟩
theorem tw13071016116743053012:True:=⟨⟩
theorem tw6092214945160368829:True:=⟨⟩
theorem tw16399264893575848621:True:=⟨⟩
theorem tw8060058734993964153:True:=⟨⟩
theorem tw9656362107766364569:True:=⟨⟩
theorem tw14988574824672282961:True:=⟨⟩
theorem tw5655475303594533192:True:=⟨⟩
theorem tw11960263029879939488:True:=⟨⟩
theorem tw7167818720532087042:True:=⟨⟩
theorem tw15049486945624703354:True:=⟨⟩
theorem tw1227039183263545951:True:=⟨⟩
theorem tw8157578028240764559:True:=⟨⟩
theorem tw2442674734259834545:True:=⟨⟩
theorem tw6272809074344051298:True:=⟨⟩
theorem tw1877559734245973420:True:=⟨⟩
theorem tw16843387974215155279:True:=⟨⟩
theorem tw9704903337152357143:True:=⟨⟩
theorem tw11002323210503822273:True:=⟨⟩
theorem tw1445715501807221205:True:=⟨⟩
theorem tw6830277072331523130:True:=⟨⟩
theorem tw1423323828242825817:True:=⟨⟩
theorem tw4036855084804070396:True:=⟨⟩
theorem tw17891587965023076140:True:=⟨⟩
theorem tw3239138854867621743:True:=⟨⟩
theorem tw11716319650055985966:True:=⟨⟩
theorem tw5795523864366487316:True:=⟨⟩
theorem tw3500427938974793321:True:=⟨⟩
theorem tw3817645459316458033:True:=⟨⟩
theorem tw1069959025255254797:True:=⟨⟩
theorem tw18179737885202864231:True:=⟨⟩
theorem tw12285623420199452618:True:=⟨⟩
theorem tw5223762804974506507:True:=⟨⟩
theorem tw8274572177960160821:True:=⟨⟩
theorem tw15672962370847141411:True:=⟨⟩
theorem tw5005210865067678194:True:=⟨⟩
theorem tw17998556692131787529:True:=⟨⟩
theorem tw8774110389674254740:True:=⟨⟩
theorem tw16616945910142651082:True:=⟨⟩
theorem tw9137312901674924105:True:=⟨⟩
theorem tw15252464249401187974:True:=⟨⟩
theorem tw9459401068051204762:True:=⟨⟩
theorem tw6272530239948971510:True:=⟨⟩
theorem tw14821331542851722996:True:=⟨⟩
theorem tw11271447148448448598:True:=⟨⟩
theorem tw4040910562221914174:True:=⟨⟩
theorem tw3129357760050523307:True:=⟨⟩
theorem tw15550679503787479635:True:=⟨⟩
theorem tw6688939567531739471:True:=⟨⟩
theorem tw2513456482422000997:True:=⟨⟩
theorem tw15225071309044229228:True:=⟨⟩
theorem tw9632263781860344766:True:=⟨⟩
theorem tw17016310936977745860:True:=⟨⟩
theorem tw17851228083660931252:True:=⟨⟩
theorem tw1617369626006592812:True:=⟨⟩
theorem tw5181395562507694407:True:=⟨⟩
theorem tw2845230370453439829:True:=⟨⟩
theorem tw14168279663581250350:True:=⟨⟩
theorem tw15619351857080841177:True:=⟨⟩
theorem tw7265718715753697839:True:=⟨⟩
theorem tw9047636869539240550:True:=⟨⟩
theorem tw14893679477265689723:True:=⟨⟩
theorem tw15352681583425476247:True:=⟨⟩
theorem tw17591913171835616510:True:=⟨⟩
theorem tw9282996131214610025:True:=⟨⟩
theorem tw17933463128234100916:True:=⟨⟩
theorem tw2297660735269434763:True:=⟨⟩
theorem tw4033900670846935869:True:=⟨⟩
theorem tw7082058758784017163:True:=⟨⟩
theorem tw12662754805525167958:True:=⟨⟩
theorem tw14746093099047782614:True:=⟨⟩
theorem tw13027712415537016649:True:=⟨⟩
theorem tw1994566804833669218:True:=⟨⟩
theorem tw11442416269000964246:True:=⟨⟩
theorem tw16577049593353709757:True:=⟨⟩
theorem tw12722600752698410756:True:=⟨⟩
theorem tw2229922146551109922:True:=⟨⟩
theorem tw12312772627098356564:True:=⟨⟩
theorem tw7747349755407426142:True:=⟨⟩
theorem tw10983667577279577238:True:=⟨⟩
theorem tw18050569942203897438:True:=⟨⟩
theorem tw6667905518503078195:True:=⟨⟩
theorem tw8385357764706649998:True:=⟨⟩
theorem tw18321671335720111667:True:=⟨⟩
theorem tw13878179829982171869:True:=⟨⟩
theorem tw12758246383531428142:True:=⟨⟩
theorem tw67587950412921743:True:=⟨⟩
theorem tw2075238935626566402:True:=⟨⟩
theorem tw4972231755373886380:True:=⟨⟩
theorem tw4703446596867916991:True:=⟨⟩
theorem tw9448458892301044358:True:=⟨⟩
theorem tw9472851077659559559:True:=⟨⟩
theorem tw6862463184770317722:True:=⟨⟩
theorem tw13681800628783522413:True:=⟨⟩
theorem tw6214939827244063684:True:=⟨⟩
theorem tw1006107767721307531:True:=⟨⟩
theorem tw14292960182520629215:True:=⟨⟩
theorem tw3859013487820877477:True:=⟨⟩
theorem tw12746491856878329786:True:=⟨⟩
theorem tw11975855819044186833:True:=⟨⟩
theorem tw12632649349015488118:True:=⟨⟩
theorem tw7974804309479199768:True:=⟨⟩
theorem tw3209281939113256498:True:=⟨⟩
theorem tw8339151731939031915:True:=⟨⟩
theorem tw13840222288184999900:True:=⟨⟩
theorem tw5074385939098661181:True:=⟨⟩
theorem tw826759764342503760:True:=⟨⟩
theorem tw5487874659730879343:True:=⟨⟩
theorem tw17251520403776122392:True:=⟨⟩
theorem tw4862354354645732561:True:=⟨⟩
theorem tw10523827885102342051:True:=⟨⟩
theorem tw10026493083767284370:True:=⟨⟩
theorem tw11149155497314339845:True:=⟨⟩
theorem tw14409528702944410858:True:=⟨⟩
theorem tw13478657715832368265:True:=⟨⟩
theorem tw15374848076876396854:True:=⟨⟩
theorem tw17639767570320696247:True:=⟨⟩
theorem tw4890030247938883067:True:=⟨⟩
theorem tw7652292258904745321:True:=⟨⟩
theorem tw246658308924448027:True:=⟨⟩
theorem tw9698226931467204452:True:=⟨⟩
theorem tw13782145255925728592:True:=⟨⟩
theorem tw6151134813653148337:True:=⟨⟩
theorem tw15211137345139164736:True:=⟨⟩
theorem tw8118414860124589775:True:=⟨⟩
theorem tw9548568600557235415:True:=⟨⟩
theorem tw12079188460669564818:True:=⟨⟩
theorem tw13969819850679412281:True:=⟨⟩
theorem tw6008568502506051395:True:=⟨⟩
theorem tw7539253132330002421:True:=⟨⟩
theorem tw3263525115285030983:True:=⟨⟩
theorem tw4956281048546016965:True:=⟨⟩
theorem tw16392771321356367758:True:=⟨⟩
theorem tw9150102367210203686:True:=⟨⟩
theorem tw11431058869694562566:True:=⟨⟩
theorem tw15059919050464600922:True:=⟨⟩
theorem tw16314369317687107658:True:=⟨⟩
theorem tw10249849725610183363:True:=⟨⟩
theorem tw5366180192712041814:True:=⟨⟩
theorem tw7640760716257915811:True:=⟨⟩
theorem tw4346291715395596458:True:=⟨⟩
theorem tw15024276219924634666:True:=⟨⟩
theorem tw3425189234989986709:True:=⟨⟩
theorem tw17589183857280244986:True:=⟨⟩
theorem tw11945997154187967705:True:=⟨⟩
theorem tw14553747323929580460:True:=⟨⟩
theorem tw12645585441062185432:True:=⟨⟩
theorem tw11295181129226949433:True:=⟨⟩
theorem tw7662655779547141102:True:=⟨⟩
theorem tw4905572956790073839:True:=⟨⟩
theorem tw6113646684729164756:True:=⟨⟩
theorem tw13248608174740105100:True:=⟨⟩
theorem tw17941751708019130218:True:=⟨⟩
theorem tw7436583430298592111:True:=⟨⟩
theorem tw13077620304729307625:True:=⟨⟩
theorem tw3886100257487446630:True:=⟨⟩
theorem tw11280666615175796660:True:=⟨⟩
theorem tw3056220228279723511:True:=⟨⟩
theorem tw12831795548590811177:True:=⟨⟩
theorem tw11327107607366995291:True:=⟨⟩
theorem tw2974703145363537763:True:=⟨⟩
theorem tw9763123551571772075:True:=⟨⟩
theorem tw10840187536526282832:True:=⟨⟩
theorem tw17523517185441949176:True:=⟨⟩
theorem tw1404009604185472908:True:=⟨⟩
theorem tw7278469685507951982:True:=⟨⟩
theorem tw13657924065129562249:True:=⟨⟩
theorem tw9144606151054408960:True:=⟨⟩
theorem tw17783739567165162261:True:=⟨⟩
theorem tw9666319452429983286:True:=⟨⟩
theorem tw13525821148054834171:True:=⟨⟩
theorem tw11248227510054487015:True:=⟨⟩
theorem tw1784790499406684025:True:=⟨⟩
theorem tw16427999773872978613:True:=⟨⟩
theorem tw13434924551346665593:True:=⟨⟩
theorem tw6240592242440452224:True:=⟨⟩
theorem tw10455053243199624410:True:=⟨⟩
theorem tw889123805991879098:True:=⟨⟩
theorem tw1969852822820598641:True:=⟨⟩
theorem tw10876575449300171766:True:=⟨⟩
theorem tw8300172366433738523:True:=⟨⟩
theorem tw3345301395819261194:True:=⟨⟩
theorem tw7014197703411966875:True:=⟨⟩
theorem tw12872717676556417987:True:=⟨⟩
theorem tw1747676017335488089:True:=⟨⟩
theorem tw5673927327069444000:True:=⟨⟩
theorem tw8715816127010748917:True:=⟨⟩
theorem tw744836421313916197:True:=⟨⟩
theorem tw8973931598243645893:True:=⟨⟩
theorem tw2860000875468484685:True:=⟨⟩
theorem tw14264443775947998513:True:=⟨⟩
theorem tw16132034675273475745:True:=⟨⟩
theorem tw16496238646783615845:True:=⟨⟩
theorem tw16998512174323663019:True:=⟨⟩
theorem tw5809980421667108233:True:=⟨⟩
theorem tw2808041028901528116:True:=⟨⟩
theorem tw13228516692286566911:True:=⟨⟩
theorem tw10243075122498758248:True:=⟨⟩
theorem tw11200152337132250113:True:=⟨⟩
theorem tw6925737585949992902:True:=⟨⟩
theorem tw7562340120621323421:True:=⟨⟩
theorem tw12882919018231810338:True:=⟨⟩
theorem tw11889827330013086804:True:=⟨⟩
theorem tw17857766908066051576:True:=⟨⟩
theorem tw17991974482347750896:True:=⟨⟩
theorem tw7293065751926106411:True:=⟨⟩
theorem tw13566970077440479670:True:=⟨⟩
theorem tw3966347062341128636:True:=⟨⟩
theorem tw14304617297664041382:True:=⟨⟩
theorem tw240679728268730434:True:=⟨⟩
theorem tw907455915835528978:True:=⟨⟩
theorem tw1320197727983567060:True:=⟨⟩
theorem tw14333716850392420229:True:=⟨⟩
theorem tw15548285668995503698:True:=⟨⟩
theorem tw12427738485857154445:True:=⟨⟩
theorem tw8466736018473481630:True:=⟨⟩
theorem tw1943892316852444466:True:=⟨⟩
theorem tw11350648311548737402:True:=⟨⟩
theorem tw5953905916814871779:True:=⟨⟩
theorem tw3992981175009278159:True:=⟨⟩
theorem tw12132176808177147491:True:=⟨⟩
theorem tw5079240966340641076:True:=⟨⟩
theorem tw13461718425886068351:True:=⟨⟩
theorem tw5191752681328856925:True:=⟨⟩
theorem tw5946607529909912606:True:=⟨⟩
theorem tw598249329060954377:True:=⟨⟩
theorem tw11355288050543573144:True:=⟨⟩
theorem tw7455982935442999281:True:=⟨⟩
theorem tw10220284025323623701:True:=⟨⟩
theorem tw11153229992400600707:True:=⟨⟩
theorem tw575160226856714998:True:=⟨⟩
theorem tw4302220205492883289:True:=⟨⟩
theorem tw12817844484391855912:True:=⟨⟩
theorem tw12136779575040676588:True:=⟨⟩
theorem tw13766785081963253241:True:=⟨⟩
theorem tw11266007180661833130:True:=⟨⟩
theorem tw779085224631947541:True:=⟨⟩
theorem tw18334767074285919225:True:=⟨⟩
theorem tw14393186583115772599:True:=⟨⟩
theorem tw1502238016699656603:True:=⟨⟩
theorem tw17970790853457743579:True:=⟨⟩
theorem tw13091951794639231305:True:=⟨⟩
theorem tw3652251026885545986:True:=⟨⟩
theorem tw3602040426274336613:True:=⟨⟩
theorem tw10196244331464863848:True:=⟨⟩
theorem tw4054249777430200298:True:=⟨⟩
theorem tw5311435115682518516:True:=⟨⟩
theorem tw9210250273402039246:True:=⟨⟩
theorem tw2792593394433043743:True:=⟨⟩
theorem tw18170570611713637610:True:=⟨⟩
theorem tw11203092112461546255:True:=⟨⟩
theorem tw12015813155288261540:True:=⟨⟩
theorem tw14785258795956814661:True:=⟨⟩
theorem tw1258915868699519013:True:=⟨⟩
theorem tw17906240215085270558:True:=⟨⟩
theorem tw7873944977651948755:True:=⟨⟩
theorem tw6764012769663555127:True:=⟨⟩
theorem tw15379762456880899027:True:=⟨⟩
theorem tw28886866125571171:True:=⟨⟩
theorem tw3594207307440012038:True:=⟨⟩
theorem tw15594699915896240635:True:=⟨⟩
theorem tw10141853950536987592:True:=⟨⟩
theorem tw12687402442010423172:True:=⟨⟩
theorem tw15137552590631906325:True:=⟨⟩
theorem tw6693839110981135291:True:=⟨⟩
theorem tw15794906594101224430:True:=⟨⟩
theorem tw4401894410331339280:True:=⟨⟩
theorem tw11084209129571455452:True:=⟨⟩
theorem tw5990609370848387452:True:=⟨⟩
theorem tw14698269764001909992:True:=⟨⟩
theorem tw4816727876638737563:True:=⟨⟩
theorem tw1130927279737854554:True:=⟨⟩
theorem tw3703779971931562684:True:=⟨⟩
theorem tw12035700351367406394:True:=⟨⟩
theorem tw17445498417390968868:True:=⟨⟩
theorem tw8754145617727931389:True:=⟨⟩
theorem tw7896387204518153394:True:=⟨⟩
theorem tw8757841563780810385:True:=⟨⟩
theorem tw14314904044930422906:True:=⟨⟩
theorem tw15394156323554047622:True:=⟨⟩
theorem tw1107133315566716861:True:=⟨⟩
theorem tw15870730410696657636:True:=⟨⟩
theorem tw12554075881258286679:True:=⟨⟩
theorem tw10367979874492660559:True:=⟨⟩
theorem tw8367934223872414307:True:=⟨⟩
theorem tw18028636101827456042:True:=⟨⟩
theorem tw14701855206272240320:True:=⟨⟩
theorem tw18055942336252073082:True:=⟨⟩
theorem tw16752317333873731089:True:=⟨⟩
theorem tw9259833648528053366:True:=⟨⟩
theorem tw10335221142465768617:True:=⟨⟩
theorem tw11990596588862917719:True:=⟨⟩
theorem tw1648478514170895179:True:=⟨⟩
theorem tw1100827904268108963:True:=⟨⟩
theorem tw1767008954209139356:True:=⟨⟩
theorem tw9468236063675727997:True:=⟨⟩
theorem tw16025193880946718139:True:=⟨⟩
theorem tw6925749751280170761:True:=⟨⟩
theorem tw938726882670686254:True:=⟨⟩
theorem tw2239343553980195446:True:=⟨⟩
theorem tw16294101503272985058:True:=⟨⟩
theorem tw13782308344675883426:True:=⟨⟩
theorem tw15724829527270071127:True:=⟨⟩
theorem tw15547299224334108286:True:=⟨⟩
theorem tw12810873819059545393:True:=⟨⟩
theorem tw222021183464148353:True:=⟨⟩
theorem tw618637146706396516:True:=⟨⟩
theorem tw3997806811278107062:True:=⟨⟩
theorem tw12753950386655649181:True:=⟨⟩
theorem tw12066002543159618290:True:=⟨⟩
theorem tw11505353607129841005:True:=⟨⟩
theorem tw3928842058895842067:True:=⟨⟩
theorem tw5341996746471164831:True:=⟨⟩
theorem tw15816774009291298588:True:=⟨⟩
theorem tw1880459978988928076:True:=⟨⟩
theorem tw16870632258204361716:True:=⟨⟩
theorem tw1660134791551522993:True:=⟨⟩
theorem tw1666223913718181281:True:=⟨⟩
theorem tw5132093309394817957:True:=⟨⟩
theorem tw14402535512211434009:True:=⟨⟩
theorem tw3901074018786092335:True:=⟨⟩
theorem tw122336401820020056:True:=⟨⟩
theorem tw5286470074833624009:True:=⟨⟩
theorem tw172880765315147625:True:=⟨⟩
theorem tw14882695393016546616:True:=⟨⟩
theorem tw8445993385431273378:True:=⟨⟩
theorem tw10292976655809713364:True:=⟨⟩
theorem tw8978715517396704296:True:=⟨⟩
theorem tw2335718761593799074:True:=⟨⟩
theorem tw5281845511680577905:True:=⟨⟩
theorem tw207959236776663720:True:=⟨⟩
theorem tw771181225730136037:True:=⟨⟩
theorem tw17771138427369745878:True:=⟨⟩
theorem tw13366966107485943444:True:=⟨⟩
theorem tw17591569157663576032:True:=⟨⟩
theorem tw1934300519101045196:True:=⟨⟩
theorem tw159165784849720074:True:=⟨⟩
theorem tw14198502076288398420:True:=⟨⟩
theorem tw6435404194501436984:True:=⟨⟩
theorem tw10859072987623001711:True:=⟨⟩
theorem tw8396318257938077387:True:=⟨⟩
theorem tw7716819444599319608:True:=⟨⟩
theorem tw17794635169939780539:True:=⟨⟩
theorem tw11058249607103019810:True:=⟨⟩
theorem tw14148135685095580436:True:=⟨⟩
theorem tw7439111274606962079:True:=⟨⟩
theorem tw12117601714129371437:True:=⟨⟩
theorem tw9123814629424484010:True:=⟨⟩
theorem tw5043657897757944900:True:=⟨⟩
theorem tw9324113812522441267:True:=⟨⟩
theorem tw1772549706111291411:True:=⟨⟩
theorem tw2330456826240853498:True:=⟨⟩
theorem tw4830103210577244291:True:=⟨⟩
theorem tw3048529936885098953:True:=⟨⟩
theorem tw3761793667812957105:True:=⟨⟩
theorem tw1645955194137353435:True:=⟨⟩
theorem tw14518591592361290190:True:=⟨⟩
theorem tw8475190960376375967:True:=⟨⟩
theorem tw16042088464326967202:True:=⟨⟩
theorem tw13872408611739525594:True:=⟨⟩
theorem tw2685018117851868579:True:=⟨⟩
theorem tw15565886346881564350:True:=⟨⟩
theorem tw11645748920265894969:True:=⟨⟩
theorem tw7205867463491323893:True:=⟨⟩
theorem tw13062214818164235646:True:=⟨⟩
theorem tw5772021304561422175:True:=⟨⟩
theorem tw3446355691173940713:True:=⟨⟩
theorem tw15905239740909075882:True:=⟨⟩
theorem tw8660809636113063513:True:=⟨⟩
theorem tw17256713920895575029:True:=⟨⟩
theorem tw11198612269879392062:True:=⟨⟩
theorem tw13095608489404411220:True:=⟨⟩
theorem tw11796688321154002511:True:=⟨⟩
theorem tw11092851913626639977:True:=⟨⟩
theorem tw3483436331708445048:True:=⟨⟩
theorem tw8138199092581117173:True:=⟨⟩
theorem tw1178528140018706421:True:=⟨⟩
theorem tw217181224489445151:True:=⟨⟩
theorem tw4347259370519538445:True:=⟨⟩
theorem tw6260072231910857922:True:=⟨⟩
theorem tw15575703540124951859:True:=⟨⟩
theorem tw16532382431253122179:True:=⟨⟩
theorem tw12478903812502810568:True:=⟨⟩
theorem tw12385908045952076988:True:=⟨⟩
theorem tw743714986180811206:True:=⟨⟩
theorem tw126909325573238907:True:=⟨⟩
theorem tw3300876946903521713:True:=⟨⟩
theorem tw7969705787811321973:True:=⟨⟩
theorem tw6371178627231663223:True:=⟨⟩
theorem tw7413794394095631632:True:=⟨⟩
theorem tw9949154493467971262:True:=⟨⟩
theorem tw4743743728088171014:True:=⟨⟩
theorem tw5789280436641385772:True:=⟨⟩
theorem tw17823358924723113766:True:=⟨⟩
theorem tw17277387597406098844:True:=⟨⟩
theorem tw4285456456102221037:True:=⟨⟩
theorem tw12489803762648603304:True:=⟨⟩
theorem tw1083386157056309218:True:=⟨⟩
theorem tw5254239576996105647:True:=⟨⟩
theorem tw17482942534392708027:True:=⟨⟩
theorem tw9212626854420821275:True:=⟨⟩
theorem tw10300394717732435281:True:=⟨⟩
theorem tw9941921483957169496:True:=⟨⟩
theorem tw7472052067155937239:True:=⟨⟩
theorem tw4808149400158682955:True:=⟨⟩
theorem tw12517187476852288482:True:=⟨⟩
theorem tw9711681777868765044:True:=⟨⟩
theorem tw8290684940669948504:True:=⟨⟩
theorem tw16859684391776214815:True:=⟨⟩
theorem tw5939565503782863062:True:=⟨⟩
theorem tw3861376684474583365:True:=⟨⟩
theorem tw12604365255518893111:True:=⟨⟩
theorem tw14730740296846407338:True:=⟨⟩
theorem tw8465512427370323998:True:=⟨⟩
theorem tw4931237019726822450:True:=⟨⟩
theorem tw4952746839021140202:True:=⟨⟩
theorem tw4800251597229913447:True:=⟨⟩
theorem tw2632309484719776361:True:=⟨⟩
theorem tw10074938323255011600:True:=⟨⟩
theorem tw10890170941083699612:True:=⟨⟩
theorem tw10969511093150058124:True:=⟨⟩
theorem tw7496502441152862693:True:=⟨⟩
theorem tw3090133756941313541:True:=⟨⟩
theorem tw419998392766893153:True:=⟨⟩
theorem tw810471508369528352:True:=⟨⟩
theorem tw17807085100394395801:True:=⟨⟩
theorem tw7191012009066026495:True:=⟨⟩
theorem tw10891254035261223613:True:=⟨⟩
theorem tw11194429907691733397:True:=⟨⟩
end PySem.W.Fast
open PySem PySem.W PyProof.Rows
set_option maxRecDepth 100000 in
set_option maxHeartbeats 0 in
theorem PySem.Challenge.cw_jettison_k22_awards_holds : PySem.Challenge.rw_jettison_k22_awards.Holds := by
 w_on;o_law;k_head;(case hw=>w_witness2)
 k_fill
 refine Law.walk (l:=PySem.Challenge.rw_jettison_k22_awards) rfl rfl (fun w h Y=>PySem.W.kIn_of Y) ?F
 case F=>
  intro w mg fa h KX G hmg
  refine' Law.all_mk KX G hmg ?_ ?_ ?_ ?_ ?_ ?_ ?_ ?_ ?_ ?_ ?_ ?_ ?_ ?_ ?_ ?_ ?_ ?_ ?_ ?_ ?_ ?_ ?_ ?_ ?_ ?_ ?_ ?_ ?_ ?_ ?_ ?_ ?_ ?_ ?_ ?_ ?_ ?_ ?_ ?_ ?_ ?_ ?_ ?_ ?_ ?_ ?_ ?_ ?_ ?_ ?_ ?_ ?_ ?_ ?_ ?_ ?_ ?_ ?_ ?_ ?_ ?_ ?_ ?_ ?_ ?_ ?_ ?_ ?_ ?_ ?_ ?_ ?_ ?_ ?_ ?_ ?_ ?_ ?_ ?_ ?_ ?_ ?_ ?_ ?_ ?_ ?_ ?_ ?_ ?_ ?_ ?_ ?_ ?_ ?_ ?_ ?_ ?_ ?_ ?_ ?_ ?_ ?_ ?_ ?_ ?_ ?_ ?_ ?_ ?_ ?_ ?_ ?_ ?_ ?_ ?_ ?_ ?_ ?_ ?_ ?_ ?_ ?_ ?_ ?_ ?_ ?_ ?_ ?_ ?_ ?_ ?_ ?_ ?_ ?_ ?_
  any_goals first|(refine' L2.cR.of ?a ?l ?c ?k;(case a=>k_is);(case l=>k_is);(case c=>k_is);(case k=>k_is))|(refine' L2.dS.of ?a ?i ?l ?c ?k;(case a=>k_is);(case i=>k_is);(case l=>k_is);(case c=>k_is);(case k=>k_is))|(refine' L2.Told.of ?ga ?gn ?ca ?mo ?mb ?jt ?ve ?k0 ?k1 ?k2 ?k3 ?k4 ?k5 ?k6 ?k7 ?k8 ?k9 ?h;(case ga=>k_is);(case gn=>k_is);(case ca=>k_is);(case mo=>k_is);(case mb=>k_is);(case jt=>kts_exm);(case ve=>kit_is);(case k0=>kit_is);(case k1=>kit_is);(case k2=>kit_is);(case k3=>kit_is);(case k4=>kit_is);(case k5=>kit_is);(case k6=>kit_is);(case k7=>kit_is);(case k8=>kit_is);(case k9=>kit_is);(case h=>rfl))|k_is|k_exc
