import PyProof.Rows.All
import Wide.All
import OpenK.AllK
import Wide.FinOn
import Lean
import PyProof.EqAt
import PyProof.EqKinds
import PyProof.TupleCall
import PySem.Challenge.RW_jettison_k66_whole_great_hold_by_a_plain
set_option Elab.async false
set_option bootstrap.genMatcherCode false
set_option genSizeOf false
set_option genSizeOfSpec false
set_option linter.all false
set_option maxRecDepth 100000
noncomputable section
local macro_rules|`(($a,$b,*))=>`(⟨$a,$b,*⟩)
local macro_rules|`(tactic|omega)=>`(tactic|lia)
abbrev Fg:=PySem.W.Frag
abbrev VS:=PySem.Value->PySem.Shared->Prop
abbrev AO:=List (PySem.Addr×PySem.Obj)
abbrev SO:=PySem.Str->Option PySem.Value
abbrev Da:=@List
set_option autoImplicit true
def Yc:=@PySem.F.slot_dict_valueiterator_next
def TJ:=@Int.mul_le_mul_of_nonneg_right
def IM:=@Int.mul_le_mul_of_nonneg_left
def Yd:=@PySem.wpAny_typeNameOfWhole_keyiter
def Ye:=@PySem.wpAny_typeNameOfWhole_valiter
def Yg:=@PySem.F.slot_dict_keyiterator_next
def v_:=@PyProof.Rows.boot_isinstance
def TL:=@PyProof.Rows.callWith_type1
def qQ:=@List.idxOf_lt_length_of_mem
def Yh:=@Int.ediv_eq_of_eq_mul_right
def zN:=@List.getElem?_append_right
def dQ:=@List.getD_eq_getElem?_getD
def RU:=@PySem.F.slot_tuple_iterator_next
def RV:=@List.length_eraseIdx_of_lt
def c_:=@List.getElem?_eq_some_iff
def GY:=@List.getElem?_append_left
def Lu:=@List.mem_or_eq_of_mem_set
def RW:=@List.drop_eq_getElem_cons
def a_:=@List.getElem?_eq_getElem
def RX:=@PySem.wpAny_comprehension_free
def RY:=@PySem.wpAny_typeNameOf_keyiter
def RZ:=@PySem.wpAny_typeNameOf_valiter
def Lv:=@List.eq_of_mem_replicate
def GZ:=@Int.mul_ediv_cancel_left
def Lw:=@List.idxOf_lt_length_iff
def p_:=@PySem.F.slot_list_append
def qa:=@PySem.F.type_list_append
def R0:=@List.getElem?_replicate
def Be:=@PySem.wpAny_callSpecial?_slot
def qb:=@PySem.F.plainAttrs_list
def Lx:=@PyProof.Rows.boot_tuple
def kJ:=@List.getElem?_set_self
def cN:=@PySem.Heap.get?_push_of_some
def Ly:=@PySem.Heap.get?_update_other
def nt:=@Option.map_eq_some_iff
def G0:=@List.take_of_length_le
def uS:=@List.zipWith_cons_cons
def R1:=@PySem.Calls.callWith_builtin
def wc:=@PyProof.Rows.boot_list
def kK:=@List.mem_append_right
def jr:=@List.length_replicate
def DP:=@PySem.Heap.get?_update_self
def G1:=@List.length_filter_le
def sW:=@List.getElem?_eq_none
def R3:=@PySem.wpAny_isOneOf_valiter
def R4:=@List.getElem?_zipWith
def R5:=@Int.le_ediv_of_mul_le
def wg:=@PyProof.Rows.boot_sum
def Lz:=@PyProof.Rows.boot_str
def LA:=@PyProof.Rows.boot_min
def cR:=@List.mem_cons_of_mem
def DQ:=@List.mem_append_left
def yC:=@List.getElem?_set_ne
def bg:=@List.mem_of_getElem?
def nu:=@Bool.and_eq_true_iff
def R6:=@PySem.intBits_le_iff
def G_:=@beq_eq_false_iff_ne
def Bf:=@List.filterMap_cons
def ff:=@PySem.Heap.get?_push_size
def zO:=@PySem.mem_of_lookup
def zP:=@List.replicate_succ
def LB:=@Bool.or_eq_true_iff
def Hf:=@PySem.Heap.SameBut.update
def kL:=@List.length_zipWith
def Bg:=@List.filter_eq_self
def uT:=@List.map_congr_left
def oQ:=@List.getElem_of_mem
def LC:=@List.filter_sublist
def mP:=@Nat.lt_of_lt_of_le
def cO:=@List.mem_cons_self
def gZ:=@Bool.false_ne_true
def LD:=@PySem.wpAny_Call_Name_kw
def c7:=@List.length_append
def R7:=@PySem.tupleKind_room_in1
def Hg:=@Nat.lt_of_le_of_lt
def dw:=@List.mem_singleton
def zQ:=@Int.emod_lt_of_pos
def Hh:=@Bool.false_eq_true
def Hi:=@PySem.Obj.data_mapFields
def Hj:=@PySem.wpAny_setField_rec
def LF:=@List.set_cons_succ
def LG:=@List.set_cons_zero
def R8:=@PySem.F.slot_dict_values
def qR:=@of_decide_eq_false
def sX:=@PySem.W.mg_none_of
def R9:=@PySem.wpAny_pyIter_list
def bP:=@List.getElem?_map
def qS:=@Int.toNat_natCast
def iW:=@List.size_toArray
def R_:=@List.flatten_cons
def LH:=@List.append_assoc
def eO:=@of_decide_eq_true
def Sa:=@Nat.lt_succ_of_lt
def zR:=@PySem.wpAny_newObj_type
def DR:=@PySem.wpAny_truthy_bool
def Sb:=@List.getElem?_set
def Hl:=@List.length_range
def Sd:=@PySem.wpAny_dictEntries
def Ho:=@List.foldl_append
def Hq:=@List.getElem?_inj
def lO:=@Bool.eq_false_iff
def ig:=@List.length_cons
def kR:=@List.length_take
def Lb:=@List.cons_append
def ir:=@List.filter_cons
def zS:=@beq_self_eq_true
def EN:=@Int.ediv_le_self
def t9:=@Nat.le_add_right
def mW:=@List.lookup_cons
def t_:=@List.all_eq_true
def xY:=@List.getElem_mem
def xZ:=@PySem.wpAny_call_entry
def Lc:=@List.drop_length
def cQ:=@List.take_length
def dM:=@decide_eq_false
def gU:=@Option.some.inj
def iU:=@List.mem_filter
def dN:=@List.mem_append
def Cz:=@Bool.eq_iff_iff
def aG:=@List.length_map
def qT:=@PySem.W.kia_one
def x6:=@List.append_nil
def iu:=@List.nodup_cons
def fF:=@List.length_set
def kT:=@List.foldl_cons
def Ld:=@List.nil_append
def qU:=@List.find?_cons
def Le:=@Option.map_some
def bQ:=@List.map_append
def pL:=@Int.emod_nonneg
def Lf:=@Int.ediv_nonneg
def Lg:=@List.forIn_cons
def Lh:=@PySem.pushCells_keeps
def Li:=@PySem.wpAny_dictEpoch
def Lj:=@PySem.F.slot_zip_next
def EO:=@List.sum_append
def zT:=@PySem.wpAny_passesOwn
def Lk:=@PySem.wpAny_execs_nil
def fQ:=@PySem.PassesOwn.never
def zU:=@List.mem_range
def nU:=@PySem.Heap.size_push
def bR:=@decide_eq_true
def ER:=@Int.natAbs_mul
def ES:=@List.forIn_nil
def x8:=@PySem.wpAny_fieldsOf
def CA:=@PySem.wpAny_setField
def vL:=@PySem.wpAny_seqItems
def x9:=@List.nodup_nil
def pM:=@Int.mul_nonneg
def cX:=@PySem.boot_len
def j7:=@Nat.lt_irrefl
def dW:=@List.mem_cons
def bK:=@List.map_cons
def ET:=@List.any_cons
def EU:=@Int.le_of_dvd
def cI:=@List.sum_cons
def CB:=@PySem.wpAny_standAt
def CC:=@PySem.wpAny_holding
def i7:=@Int.mul_assoc
def zV:=@List.map_take
def cA:=@PySem.Heap.lt_size
def fq:=@Nat.ne_of_lt
def fG:=@Nat.le_trans
def CD:=@Nat.le_of_lt
def zW:=@Nat.ne_of_gt
def bw:=@List.mem_map
def zX:=@Int.ediv_one
def EV:=@Int.le_of_lt
def EW:=@Int.lt_or_le
def qV:=@List.set_set
def zY:=@Nat.min_self
def fH:=@List.map_map
def x_:=@Nat.sub_self
def mX:=@Int.mul_comm
def ya:=@Int.zero_add
def pN:=@Int.zero_mul
def kU:=@List.map_set
def yb:=@Int.sub_zero
def CF:=@Int.le_trans
def ua:=@Sum.inr.inj
def pO:=@Int.mul_one
def aO:=@Nat.le_refl
def gE:=@Nat.zero_le
def mY:=@PySem.sizeLine_eq
def pP:=@PySem.wpAny_field
def eZ:=@Int.le_refl
def CG:=@Int.mul_pos
def lP:=@Int.mul_add
def pQ:=@Int.add_mul
def j8:=@PySem.wpAny_mono
def bh:=@PySem.wpAny_pure
def az:=@PySem.wpAny_bind
def vM:=@beq_iff_eq
def i8:=@congrArg
def nV:=@if_false
def cC:=@Ne.symm
def qW:=@if_true
def ay:=@if_pos
def av:=@if_neg
def Z{α:Sort _}{a:α}:a=a:=rfl
namespace L2
open PySem PySem.Spec PyProof.Rows
abbrev Key:=Sum Int Str
def zZ:Key->Value->Bool
 | .inl k,v=>Value.isInt k v
 | .inr x,v=>Value.isStrOf x v
def ahV(w:World):Key->Int
 | .inl k=>hashInt k
 | .inr x=>hashStr w x
theorem iy:∀{k:Key}{v:Value},zZ k v=true->(∃i t,k=Sum.inl i/\v=Value.int i t)\/(∃x t,k=Sum.inr x/\v=Value.str x t)
 | .inl i,v,h=>by obtain⟨t,e⟩:=Value.isInt_shape (k:=i) (v:=v) h;exact .inl (i,t,Z,e)
 | .inr x,v,h=>by obtain⟨t,e⟩:=Value.isStrOf_shape (x:=x) (v:=v) h;exact .inr (x,t,Z,e)
def TM(i:Int)(t:Tok):zZ (.inl i) (.int i t)=true:=by simp[zZ,Value.isInt]
def TN(x:Str)(t:Tok):zZ (.inr x) (.str x t)=true:=by simp[zZ,Value.isStrOf]
def aaZ(a b:Int):decide ((Sum.inl a:Key)=Sum.inl b)=(a==b):=by
 by_cases e:a=b
 .subst e;simp
 .have h:¬ (Sum.inl a:Key)=Sum.inl b:=λq=>e (Sum.inl.inj q);rw[dM h];exact(G_.mpr e).symm
def aa0(a b:Str):decide ((Sum.inr a:Key)=Sum.inr b)=decide (a=b):=by
 by_cases e:a=b
 .subst e;simp
 .have h:¬ (Sum.inr a:Key)=Sum.inr b:=λq=>e (ua q);rw[dM h,dM e]
def aa1(a:Int)(b:Str):decide ((Sum.inl a:Key)=Sum.inr b)=false:=dM (λq=>nomatch q)
def aa2(a:Str)(b:Int):decide ((Sum.inr a:Key)=Sum.inl b)=false:=dM (λq=>nomatch q)
def dh(prog:Program)(w:World):PySem.KeyKind prog w Key where
 is:=zZ
 hash:=ahV w
 inj:=λv a b ha hb=>by
  rcases iy ha with⟨i,t,rfl,rfl⟩|⟨x,t,rfl,rfl⟩
  .rcases iy hb with⟨j,u,rfl,e⟩|⟨y,u,rfl,e⟩
   .injection e with e1 _;rw[e1]
   .exact nomatch e
  .rcases iy hb with⟨j,u,rfl,e⟩|⟨y,u,rfl,e⟩
   .exact nomatch e
   .injection e with e1 _;rw[e1]
 byValue:=λk v h=>by rcases iy h with⟨i,t,rfl,rfl⟩|⟨x,t,rfl,rfl⟩ <;> rfl
 pyHash:=λhv h=>by
  rcases iy hv with⟨i,t,rfl,rfl⟩|⟨x,t,rfl,rfl⟩
  .exact wpAny_pyHash_int h
  .exact wpAny_pyHash_str h
 eqBool:=λhu hv h=>by
  rcases iy hu with⟨i,t,rfl,rfl⟩|⟨x,t,rfl,rfl⟩
  .rcases iy hv with⟨j,u,rfl,rfl⟩|⟨y,u,rfl,rfl⟩
   .rw [aaZ]at h;exact wpAny_eqBool_int h
   .rw [aa1]at h;exact SeqAt.EqAt.int_str i t y u _ _ _ _ h
  .rcases iy hv with⟨j,u,rfl,rfl⟩|⟨y,u,rfl,rfl⟩
   .rw [aa2]at h;exact SeqAt.EqAt.str_int x t j u _ _ _ _ h
   .rw [aa0]at h;exact wpAny_eqBool_str h
 «strs»:=λk x t v h=>by
  rcases iy h with⟨i,u,rfl,e⟩|⟨y,u,rfl,e⟩
  .exact nomatch e
  .injection e with e1 _;subst e1;cases v <;> rfl
def Se(prog:Program)(w:World)(k:Key)(v:Value):(dh prog w).is k v=zZ k v:=rfl
def OX(prog:Program)(w:World)(i:Int)(t:Tok):(dh prog w).is (.inl i) (.int i t)=true:=TM i t
def OY(prog:Program)(w:World)(x:Str)(t:Tok):(dh prog w).is (.inr x) (.str x t)=true:=TN x t
inductive V where
 | cK|bl (b:Bool)|int (i:Int)|str (x:Str)|AG (b:Array UInt8)|LI (b:UInt64)|ref (a:Addr)|ty (n:String)
 deriving DecidableEq
def RelV:V->Value->Prop
 | .cK,u=>u=Value.none
 | .bl b,u=>u=Value.bool b
 | .int i,u=>∃t,u=Value.int i t
 | .str x,u=>∃t,u=Value.str x t
 | .AG b,u=>∃t,u=Value.bytes b t
 | .LI b,u=>∃t,u=Value.float b t
 | .ref a,u=>u=Value.ref a
 | .ty n,u=>u=Value.type n
abbrev Vals:Da V->Da Value->Prop:=Paired RelV
variable {xs:Da V}{us:Da Value}
theorem Vals.length(r:Vals xs us):xs.length=us.length:=Paired.length r
theorem Vals.get:∀{xs:Da V}{us:Da Value}{i:Nat}{x:V},Vals xs us->xs[i]?=some x->∃u,us[i]?=some u/\RelV x u
 | _,_,_,_,.nil,e=>by simp at e
 | _,_,0,_,.cons r _,e=>by simp at e;subst e;exact(_,Z,r)
 | _,_,i+1,x,.cons _ t,e=>by obtain⟨u,h1,h2⟩:=Vals.get (i:=i) (x:=x) t (by simpa using e);exact(u,by simpa using h1,h2)
theorem Vals.set{x:V}{u:Value}(r:RelV x u):∀{xs:Da V}{us:Da Value}(i:Nat),Vals xs us->Vals (xs.set i x) (us.set i u)
 | _,_,_,.nil=> .nil
 | _,_,0,.cons _ t=> .cons r t
 | _,_,i+1,.cons q t=> .cons q (Vals.set r i t)
theorem Vals.append:∀{xs ys:Da V}{us ws:Da Value},Vals xs us->Vals ys ws->Vals (xs++ys) (us++ws)
 | _,_,_,_,.nil,s=>s
 | _,_,_,_,.cons r t,s=> .cons r (Vals.append t s)
theorem Vals.take:∀{xs:Da V}{us:Da Value}(n:Nat),Vals xs us->Vals (xs.take n) (us.take n)
 | _,_,0,_=> .nil
 | _,_,_+1,.nil=> .nil
 | _,_,n+1,.cons r t=> .cons r (Vals.take n t)
theorem Vals.drop:∀{xs:Da V}{us:Da Value}(n:Nat),Vals xs us->Vals (xs.drop n) (us.drop n)
 | _,_,0,r=>r
 | _,_,_+1,.nil=> .nil
 | _,_,n+1,.cons _ t=>Vals.drop n t
def oR:Option V->Option Value->Prop
 | some v,some u=>RelV v u
 | none,none=>True
 | _,_=>False
def KV{κ:Type}:Da (κ×V)->Da (κ×Value)->Prop:=Paired λ(p:κ×V)(q:κ×Value)=>p.1=q.1/\RelV p.2 q.2
def kV:Key->V
 | .inl i=> .int i
 | .inr x=> .str x
inductive HO where
 | lst (xs:Da V)
 | tup (xs:Da V)
 | dK (AT:Da (Key×V))|dT (AT:Da (Da Key×V))
 | set (S:Int->Bool) (n:Nat)
 | ins (C dx:Addr) (fs:Da (Str×V))
 | own (x:Addr)
 | xd (fs:Da (Str×V))
 | met (f x:Addr)
 | yV (lo hi:Int)
 | fX (o:Obj) (u:HO)
 | LJ (ps:Array Value)
 | ext (φ:Heap->Prop)
abbrev Hp:=Addr->Option HO
def upd(H:Hp)(a:Addr)(o:HO):Hp:=λb=>if b=a then some o else H b
variable {H:Hp}{a:Addr}{o:HO}
def aq:upd H a o a=some o:=by unfold upd;rw[ay rfl]
def aA{b:Addr}(h:b≠a):upd H a o b=H b:=by unfold upd;rw[av h]
def qG{u:HO}:upd (upd H a o) a u=upd H a u:=by funext b;unfold upd;split <;> rfl
def jR{b:Addr}{u:HO}(h:H a=some o)(h':H b=some u)(d:o≠u):a≠b:=by intro e;subst e;rw[h]at h';exact d (gU h')
def aJ{b:Addr}(h:H a=some o)(h':H b=none):a≠b:=by intro e;subst e;rw[h]at h';cases h'
section
variable (P:Program)(w:World)
def e_(H:Hp)(h:Heap)(a:Addr):HO->Prop
 | .lst xs=>xs.length<=sizeLine/\∃(BT:Da Value)(n:Nat),Vals xs BT/\h.get? a=some { cls:=.type "list",data:=.seq BT.toArray n }
 | .tup xs=>xs.length<=sizeLine/\∃BT:Da Value,Vals xs BT/\IsTup h a BT.toArray
 | .dK AT=>AT.length<=sizeLine/\(a==sysModules)=false/\∃vs,KV AT vs/\h.DictOf (dh P w) a vs
 | .dT AT=>AT.length<=sizeLine/\(a==sysModules)=false/\∃xs:Da (Da Key×Addr×Value),
     Paired (λ(p:Da Key×V)(q:Da Key×Addr×Value)=>p.1=q.1/\H q.2.1=some (.tup (p.1.map kV))/\RelV p.2 q.2.2) AT xs/\
     ∃o es ep,h.get? a=some o/\o.ExactDict/\o.data =.dict es ep/\es.toList=xs.map (entryOfKey (tupleKind (dh P w)))/\(xs.map (·.1)).Nodup
 | .set S n=>h.SetOf (intKind P w) a S n
 | .ins C dx fs=>H dx=some (.own a)/\fs.length<=1000/\dx≠a/\h.get? a=some (PySem.W.instObj C dx)/\
     ∃mA,h.Ns1 dx mA/\(∀f,oR (fs.lookup f) (mA f))/\PySem.Within mA (fs.map (·.1))
 | .own _=>∃o,h.get? a=some o
 | .xd fs=>∃mA,h.Ns1 a mA/\∀f,oR (fs.lookup f) (mA f)
 | .yV lo hi=>∃t u v,h.get? a=some { cls:=.type "range",data:=.fields #[.int lo t,.int hi u,.int 1 v] }
 | .fX o u=>h.get? a=some o/\e_ H h a u
 | .LJ ps=>h.get? a=some { cls:=.none,data:=.fields ps }
 | .met f x=>h.get? a=some (PySem.W.methodObj (.ref f) (.ref x))
 | .ext φ=>φ h/\(∃o,h.get? a=some o)/\∀h1 h2:Heap,φ h1->(∀o,h1.get? a=some o->h2.get? a=some o)->φ h2
def jF(H:Hp)(h:Heap):Prop:=∀a o,H a=some o->e_ P w H h a o
end
section
variable {P:Program}{w:World}{H H':Hp}{h h':Heap}{a:Addr}{o:HO}
theorem e_.lt(x:e_ P w H h a o):a<h.objs.size:=by
 cases o with
 | lst xs=>obtain⟨_,_,_,_,e⟩:=x;exact cA e
 | tup xs=>obtain⟨_,_,_,p⟩:=x;exact p.lt
 | dK AT=>obtain⟨_,_,_,_,o,_,_,e,_⟩:=x;exact cA e
 | dT AT=>obtain⟨_,_,_,_,o,_,_,e,_⟩:=x;exact cA e
 | set S n=>obtain⟨o,_,_,_,e,_⟩:=x;exact cA e
 | ins C dx fs=>obtain⟨_,_,_,e,_⟩:=x;exact cA e
 | own y=>obtain⟨_,e⟩:=x;exact cA e
 | xd fs=>obtain⟨_,⟨_,_,_,e,_⟩,_⟩:=x;exact cA e
 | yV lo hi=>obtain⟨_,_,_,e⟩:=x;exact cA e
 | fX ob u=>obtain⟨e,_⟩:=x;exact cA e
 | LJ ps=>exact cA (show h.get? a=some _ from x)
 | met f y=>exact cA (show h.get? a=some _ from x)
 | ext φ=>obtain⟨_,⟨_,e⟩,_⟩:=x;exact cA e
theorem Paired.Wm{α β:Type}{F G:α->β->Prop}:∀{l₁:Da α}{l₂:Da β},Paired F l₁ l₂->(∀a b,F a b->G a b)->Paired G l₁ l₂
 | _,_,.nil,_=> .nil
 | _,_,.cons r t,f=> .cons (f _ _ r) (Paired.Wm t f)
def e_.stay(x:e_ P w H h a o)(k:∀b u,(b=a\/H b=some (.own a))->h.get? b=some u->h'.get? b=some u)(ho:∀b,H b=some (.own a)->H' b=some (.own a))(ht:∀b xs,H b=some (.tup xs)->H' b=some (.tup xs)):e_ P w H' h' a o:=by
 induction o with
 | lst xs=>obtain⟨z,BT,n,r,e⟩:=x;exact(z,BT,n,r,k _ _ (.inl rfl) e)
 | tup xs=>obtain⟨z,BT,r,ob,e,c⟩:=x;exact(z,BT,r,ob,k _ _ (.inl rfl) e,c)
 | dK AT=>obtain⟨z,y,vs,r,ob,es,ep,e,c⟩:=x;exact(z,y,vs,r,ob,es,ep,k _ _ (.inl rfl) e,c)
 | dT AT=>
   obtain⟨z,y,xs,r,ob,es,ep,e,c⟩:=x
   exact(z,y,xs,Paired.Wm r λp q z=>(z.1,ht _ _ z.2.1,z.2.2),ob,es,ep,k _ _ (.inl rfl) e,c)
 | set S n=>obtain⟨ob,es,ep,t,e,c⟩:=x;exact(ob,es,ep,t,k _ _ (.inl rfl) e,c)
 | ins C dx fs=>
   obtain⟨d,z,ne,e,mA,⟨od,es,ep,e2,c⟩,r⟩:=x
   exact(ho _ d,z,ne,k _ _ (.inl rfl) e,mA,(od,es,ep,k _ _ (.inr d) e2,c),r)
 | own y=>obtain⟨ob,e⟩:=x;exact(ob,k _ _ (.inl rfl) e)
 | xd fs=>obtain⟨mA,⟨od,es,ep,e,c⟩,r⟩:=x;exact(mA,(od,es,ep,k _ _ (.inl rfl) e,c),r)
 | yV lo hi=>obtain⟨t,u,v,e⟩:=x;exact(t,u,v,k _ _ (.inl rfl) e)
 | fX ob u ih=>obtain⟨e,q⟩:=x;exact(k _ _ (.inl rfl) e,ih q)
 | LJ ps=>
   have e:h.get? a=some { cls:=.none,data:=.fields ps }:=x
   show h'.get? a=some { cls:=.none,data:=.fields ps }
   exact k a _ (.inl rfl) e
 | met f y=>
   have e:h.get? a=some (PySem.W.methodObj (.ref f) (.ref y)):=x
   show h'.get? a=some (PySem.W.methodObj (.ref f) (.ref y))
   exact k a _ (.inl rfl) e
 | ext φ=>obtain⟨p,⟨o,e⟩,st⟩:=x;exact(st _ _ p λo q=>k _ _ (.inl rfl) q,(o,k _ _ (.inl rfl) e),st)
theorem jF.lt(x:jF P w H h)(e:H a=some o):a<h.objs.size:=(x a o e).lt
def jF.fresh(x:jF P w H h)(e:h.objs.size<=a):H a=none:=by
 cases q:H a with
 | none=>rfl
 | some u=>exact absurd (mP (x.lt q) e) (j7 _)
def jF.kept(x:jF P w H h)(k:∀b u,h.get? b=some u->h'.get? b=some u):jF P w H h':=λa o e=>
 (x a o e).stay (λb u _ q=>k b u q) (λ_ q=>q) λ_ _ q=>q
def jF.laid(x:jF P w H h)(k:∀b u,h.get? b=some u->h'.get? b=some u)(hp:h.objs.size<=a)(new:e_ P w (upd H a o) h' a o):jF P w (upd H a o) h':=λb u e=>by
 have hn:=x.fresh hp;by_cases hb:b=a
 .subst hb;rw[aq]at e;cases e;exact new
 .rw [aA hb]at e;exact(x b u e).stay (λc v _ q=>k c v q) (λc q=>aA (aJ q hn)▸q) λc xs q=>aA (aJ q hn)▸q
end
def Rd(H:Hp)(a:Addr)(u:HO):Prop:=H a=some u\/∃o,H a=some (.fX o u)
variable {P:Program}{w:World}{h:Heap}
def Rd.ok{u:HO}(r:Rd H a u)(x:jF P w H h):e_ P w H h a u:=by
 rcases r with r|⟨o,r⟩
 .exact x a u r
 .obtain ⟨_,q⟩:=x a _ r;exact q
def TQ:Option HO->Prop
 | some (.lst _)=>True
 | some (.dK _)=>True
 | some (.dT _)=>True
 | some (.set _ _)=>True
 | some (.ins _ _ _)=>True
 | some (.ext _)=>True
 | _=>False
section
variable {P:Program}{w:World}{H:Hp}{h h':Heap}{x e:Addr}{o':HO}
def jF.write(ok:jF P w H h)(mu:TQ (H x))(he:e=x\/H e=some (.own x))(k:∀b u,b≠e->h.get? b=some u->h'.get? b=some u)(QB:∃u,h'.get? e=some u)(new:e_ P w (upd H x o') h' x o'):jF P w (upd H x o') h':=λb u q=>by
 have aa3:∀c y,H c=some (.own y)->c≠x:=λc y r z=>by subst z;rw[r]at mu;exact mu
 have ahW:∀c xs,H c=some (.tup xs)->c≠x:=λc xs r z=>by subst z;rw[r]at mu;exact mu
 by_cases hb:b=x
 . subst hb;rw[aq]at q;cases q;exact new
 . rw[aA hb]at q
   by_cases LK:b=e
   . have q':H b=some (.own x):=by
      rcases he with z|z
      . exact absurd (LK.trans z) hb
      . rw[LK];exact z
     rw[q]at q';cases q'
     obtain⟨v,hv⟩:=QB
     exact(v,LK▸hv)
   . refine(ok b u q).stay (λc v hc r=>k c v ?_ r) (λc r=>aA (aa3 c b r)▸r) λc xs r=>by rw[aA (ahW c xs r)];exact r
     rcases hc with rfl|hc
     . exact LK
     . rintro rfl
       rcases he with z|z
       . exact aa3 c b hc z
       . rw[hc]at z;cases z;exact hb rfl
end
structure Un(fs ex:Da Addr)(H H':Hp)(h h':Heap):Prop where
 keep:∀b o,h.get? b=some o->H b=none->b∉fs->b∉ex->h'.get? b=some o
 slot:∀b o,h.get? b=some o->H b=none->b∈fs->b∉ex->∃sl,h'.get? b=some { o with slots:=sl }
 free:∀b o,h.get? b=some o->H b=none->b∉ex->H' b=none
 there:∀b o,h.get? b=some o->b∉ex->∃o',h'.get? b=some o'
 tups:∀b xs,H b=some (.tup xs)->H' b=some (.tup xs)
 uU:∀b o u,H b=some (.fX o u)->H' b=some (.fX o u)
 yD:∀b ps,H b=some (.LJ ps)->∃more,H' b=some (.LJ (ps++more))
section
variable {fs fs' ex ex':Da Addr}{H H1 H2:Hp}{h h1 h2 h':Heap}{a x e:Addr}{o:HO}
def Un.any(u:Un fs ex H H1 h h1){b:Addr}(q:h.get? b=some ob)(n:H b=none)(hx:b∉ex):∃sl,h1.get? b=some { ob with slots:=sl }:=by
 by_cases hb:b∈fs
 .exact u.slot b ob q n hb hx
 .exact (ob.slots,u.keep b ob q n hb hx)
def Un.kept(k:∀b u,h.get? b=some u->h'.get? b=some u):Un fs ex H H h h':=(λb ob q _ _ _=>k b ob q,λb ob q _ _ _=>(ob.slots,k b ob q),λ_ _ _ n _=>n,λb ob q _=>(ob,k b ob q),λ_ _ q=>q,λ_ _ _ q=>q,λ_ ps q=>(#[],by rw[q];simp))
def Un.refl:Un fs ex H H h h:=Un.kept λ_ _ q=>q
def Un.laid(k:∀b u,h.get? b=some u->h'.get? b=some u)(hp:h.objs.size<=a)(hn:H a=none):Un fs ex H (upd H a o) h h' where
 keep:=λb u q _ _ _=>k b u q
 slot:=λb u q _ _ _=>(u.slots,k b u q)
 free:=λb u q n _=>aA (fq (mP (cA q) hp))▸n
 there:=λb u q _=>(u,k b u q)
 tups:=λb xs q=>aA (aJ q hn)▸q
 uU:=λb u xs q=>aA (aJ q hn)▸q
 yD:=λb ps q=>(#[],by rw[aA (aJ q hn),q];simp)
def Un.write(mu:TQ (H x))(he:e=x\/H e=some (.own x))(k:∀b u,b≠e->h.get? b=some u->h'.get? b=some u)(QB:∃u,h'.get? e=some u):Un fs ex H (upd H x o) h h':=by
 have hx:∀b,H b=none->b≠x:=λb n z=>by subst z;rw[n]at mu;exact mu
 have hb:∀b,H b=none->b≠e:=λb n z=>by
  subst z;rcases he with r|r
  .exact hx b n r
  .rw [n]at r;cases r
 have hm:∀b u,H b=some u->¬ TQ (some u)->b≠x:=λb u q nm z=>by subst z;rw[q]at mu;exact nm mu
 refine(λb u q n _ _=>k b u (hb b n) q,λb u q n _ _=>(u.slots,k b u (hb b n) q),λb u q n _=>aA (hx b n)▸n,λb u q _=>?_,
  λb xs q=>(aA (hm b _ q λz=>z))▸q,λb u xs q=>(aA (hm b _ q λz=>z))▸q,λb ps q=>(#[],by rw[aA (hm b _ q λz=>z),q];simp))
 by_cases LK:b=e
 .subst LK;exact QB
 .exact (u,k b u LK q)
end
def Yi(h:Heap)(H:Hp):Da Addr:=(List.range h.objs.size).filter λa=>(H a).isSome
def z6(h:Heap)(H:Hp):Heap:=PySem.W.hideAll h (Yi h H)
def TR(h:Heap)(H:Hp):(z6 h H).objs.size=h.objs.size:=PySem.W.hideAll_size _ _
def Wn{b:Addr}{o:Obj}(e:h.get? b=some o)(n:H b=none):(z6 h H).get? b=some o:=PySem.W.hideAll_get _ e λhm=>by have q:(H b).isSome=true:=(iU.mp hm).2;rw[n]at q;simp at q
def Zj{b:Addr}{o:Obj}(e:(z6 h H).get? b=some o):h.get? b=some o/\H b=none:=by
 have e':h.get? b=some o:=PySem.W.of_hideAll (Yi h H) e;refine(e',?_);cases q:H b with
 | none=>rfl
 | some x=>have hm:b∈Yi h H:=iU.mpr (zU.mpr (cA e'),by simp[q]);have z:(z6 h H).get? b=none:=PySem.W.hideAll_none (Yi h H) hm;rw[z]at e;cases e
structure Mod(K:Fg)(mg:SO)(base:Heap):Prop where
 TU:K.In base
 glob:base.Ns mainGlobals mg
 blt:∃mb,base.Ns builtinsNs mb/\∀x:Str,x ≠ "__name__"->mb x=bootBuiltins x
 nolimit:base.NoLimit
structure Cx where
 prog:Program
 w:World
 K:Fg
 mg:Str->Option Value
 base:Heap
 A:Around
 N:Da Str
 s₀:Shared
 H₀:Hp
 env:Env
 outer:Da Env
 stack:Da Env
 ex:Da Addr
 fn:Str->Bool
 calm:Bool
 pn:Da (Addr×Obj)
 xe:Value->Shared->Prop
def frs(l:Da Env):Da Addr:=l.filterMap (·.frame)
abbrev Cx.fs(X:Cx):Da Addr:=frs X.outer
def Yj(sc:Scope)(x:Str):Prop:=sc.names.lookup x=some .local\/sc.names.lookup x=some .cell\/sc.names.lookup x=some .free
def Loc(sc:Scope)(x:Str):Prop:=sc.names.lookup x=some .local\/sc.names.lookup x=some .cell
def Look(env:Env)(h:Heap)(m:SO)(x:Str)(u:Value):Prop:=(env.kindOf x=some .local/\m x=some u)\/((env.kindOf x=some .cell\/env.kindOf x=some .free)/\∃c,env.cells.lookup x=some c/\h.IsCell c (some u))
structure Cx.Ok(X:Cx):Prop where
 mod:Mod X.K X.mg X.base
 kind:X.env.scope.kind =.function
 glob:X.env.globals=mainGlobals
 blt:X.env.builtins=builtinsNs
 above:X.s₀.heap.objs.size<=X.env.locals
 inj:∀x y c,X.env.cells.lookup x=some c->X.env.cells.lookup y=some c->x=y
 has:∀x,(X.env.kindOf x=some .cell\/X.env.kindOf x=some .free)->∃c,X.env.cells.lookup x=some c
 iw:∀x c,X.fn x=true->X.env.cells.lookup x=some c->X.s₀.heap.objs.size<=c
 hd:X.calm=true->X.A.handled=none
 frames:X.A.frames=some X.stack
 stk:X.stack=X.outer\/(X.stack=X.env::X.outer/\X.env.frame=some X.env.locals)
 QC:∀b∈X.ex,b≠X.env.locals/\∀x c,X.env.cells.lookup x=some c->c≠b
 bs:∀b o,X.base.get? b=some o->X.s₀.heap.get? b=some o/\X.H₀ b=none
 IP:X.base.objs.size<=X.s₀.heap.objs.size
 LL:∀b o,X.base.get? b=some o->b∉X.ex
 Hr:∀b∈X.ex,b∉X.fs
 uV:X.s₀.heap.FunFrames X.base X.outer
 LM:∀b∈X.fs,X.H₀ b=none
structure Inv(X:Cx)(AC:AO)(σ:Da (Option V))(H:Hp)(s:Shared):Prop where
 ok:X.Ok
 os:s.os=X.s₀.os
 bare:AllBare s.gens
 base:Un X.fs X.ex X.H₀ H X.s₀.heap s.heap
 loc:∃m,s.heap.Ns X.env.locals m/\∀(i:Nat)(x:Str)(v:V),X.N[i]?=some x->σ[i]?=some (some v)->Yj X.env.scope x->∃u,RelV v u/\Look X.env s.heap m x u
 cell:∀x c,X.env.cells.lookup x=some c->∃v,s.heap.IsCell c v
 free:H X.env.locals=none
 pR:∀x c,X.env.cells.lookup x=some c->H c=none
 pin:∀p∈X.pn++AC,s.heap.get? p.1=some p.2/\H p.1=none/\p.1≠X.env.locals/\p.1∉X.fs/\∀v,p.2.data ≠ .cell v
 hok:jF X.prog X.w H s.heap
 len:σ.length=X.N.length
variable {g':Array GenState}{t' i j:Nat}{ch:Da Addr}{it:Addr}{N:Da Str}{x:Str}{M:Model}{E:VS}{u:Value}
section
variable {X:Cx}{AC:AO}{σ:Da (Option V)}{H H':Hp}{s:Shared}{h':Heap}
def Cx.Ok.ahX(ok:X.Ok){b:Addr}{o:Obj}(e:X.base.get? b=some o):b∉X.fs:=λhb=>by have:=(ok.uV.mem hb).1;rw[e]at this;cases this
theorem Inv.bs(I:Inv X AC σ H s):∀b o,X.base.get? b=some o->s.heap.get? b=some o/\H b=none:=λb o e=>
 (I.base.keep b o (I.ok.bs b o e).1 (I.ok.bs b o e).2 (I.ok.ahX e) (I.ok.LL b o e),I.base.free b o (I.ok.bs b o e).1 (I.ok.bs b o e).2 (I.ok.LL b o e))
def Inv.bk(I:Inv X AC σ H s):∀b o,X.base.get? b=some o->s.heap.get? b=some o:=λb o e=>(I.bs b o e).1
theorem Inv.mod(I:Inv X AC σ H s):Mod X.K X.mg X.base:=I.ok.mod
def Inv.lK(I:Inv X AC σ H s):X.K.In s.heap:=I.ok.mod.TU.keeps I.bk
theorem Inv.lt(I:Inv X AC σ H s):X.env.locals<s.heap.objs.size:=let(_,hn,_):=I.loc;hn.lt
def Inv.sz(I:Inv X AC σ H s):X.s₀.heap.objs.size<=s.heap.objs.size:=fG I.ok.above (CD I.lt)
def Inv.ahY(I:Inv X AC σ H s)(h:s.heap.objs.size<=a):a∉X.fs:=λhb=>by obtain⟨_,o,ho,_⟩:=I.ok.uV.mem hb;exact absurd (mP (cA ho) (fG I.sz h)) (j7 _)
def Inv.LN(I:Inv X AC σ H s):∀x c,X.env.cells.lookup x=some c->c≠X.env.locals:=λx c e z=>by obtain⟨v,o,ho,hd⟩:=I.cell x c e;obtain⟨m,⟨o',es,ep,ho',hd',_⟩,_⟩:=I.loc;rw[z,ho']at ho;cases ho;rw[hd']at hd;cases hd
theorem Inv.uV(I:Inv X AC σ H s):s.heap.FunFrames X.base X.outer:=by
 have all:∀(l:Da Env),(∀b∈frs l,b∈X.fs)->X.s₀.heap.FunFrames X.base l->s.heap.FunFrames X.base l:=by
  intro l
  induction l with
  | nil=>intro _ _;trivial
  | cons env r ih=>intro hs hl;obtain⟨hk,⟨L,o,hf,hn,ho,hd⟩,hr⟩:=hl;have hL:L∈X.fs:=hs L (by unfold frs;rw[Bf,hf];exact cO);obtain⟨sl,e⟩:=I.base.slot L o ho (I.ok.LM L hL) hL λz=>I.ok.Hr L z hL;exact(hk,(L,_,hf,hn,e,hd),ih (λb hb=>hs b (by unfold frs;rw[Bf,hf];exact cR _ hb)) hr)
 exact all X.outer (λ_ hb=>hb) I.ok.uV
theorem Inv.stack(I:Inv X AC σ H s):s.heap.FunFrames X.base X.stack:=by
 rcases I.ok.stk with e|⟨e,hf⟩
 .rw [e];exact I.uV
 .rw [e];obtain⟨m,hn,_⟩:=I.loc;refine .cons (by rw[I.ok.kind];decide) hf hn ?_ I.uV;exact Heap.get?_none_of_le (fG I.ok.IP I.ok.above)
def Inv.LO(I:Inv X AC σ H s):∀b∈frs X.stack,b∈X.env.locals::X.fs:=λb hb=>by
 rcases I.ok.stk with e|⟨e,hf⟩
 .rw [e]at hb;exact cR _ hb
 .rw [e]at hb;unfold frs at hb;rw[Bf,hf]at hb;exact hb
def Inv.QD(I:Inv X AC σ H s):∀b∈frs X.stack,H b=none:=λb hb=>by
 rcases dW.mp (I.LO b hb)with e|hb
 .rw [e];exact I.free
 .obtain ⟨_,o,ho,_⟩:=I.ok.uV.mem hb;exact I.base.free b o ho (I.ok.LM b hb) λz=>I.ok.Hr b z hb
def Inv.step{d':Drawn}(I:Inv X AC σ H s)(hch:∀b∈ch,(b∈X.ex\/X.s₀.heap.objs.size<=b)/\b≠X.env.locals/\(∀x c,X.env.cells.lookup x=some c->c≠b)/\∀p∈X.pn++AC,p.1≠b)(keep:∀b o,b≠X.env.locals->b∉X.fs->b∉ch->s.heap.get? b=some o->H b=none->h'.get? b=some o)(slot:∀b o,b≠X.env.locals->b∈X.fs->b∉ch->s.heap.get? b=some o->H b=none->∃sl,h'.get? b=some { o with slots:=sl })(free:∀b o,b∉ch->s.heap.get? b=some o->H b=none->H' b=none)(there:∀b o,b∉ch->s.heap.get? b=some o->∃o',h'.get? b=some o')(tups:∀b xs,H b=some (.tup xs)->H' b=some (.tup xs))(uU:∀b o u,H b=some (.fX o u)->H' b=some (.fX o u))(yD:∀b ps,H b=some (.LJ ps)->∃more,H' b=some (.LJ (ps++more)))(ns:∀m,s.heap.Ns X.env.locals m->h'.Ns X.env.locals m)(hok:jF X.prog X.w H' h')(hg:AllBare g'):
  Inv X AC σ H' { s with heap:=h',gens:=g',drawn:=d',toks:=t' }:=by
 have neL:∀b o,X.s₀.heap.get? b=some o->b≠X.env.locals:=λb o e=>fq (mP (cA e) I.ok.above)
 have Yk:∀b o,X.s₀.heap.get? b=some o->b∉X.ex->b∉ch:=λb o e hx hb=>by
  rcases(hch b hb).1 with z|z
  .exact hx z
  .exact absurd (mP (cA e) z) (j7 _)
 have cellK:∀x c,X.env.cells.lookup x=some c->∀v,s.heap.IsCell c v->h'.IsCell c v:=λx c e v (o,ho,hd)=>by
  have yW:c∉ch:=λz=>(hch c z).2.2.1 x c e rfl;by_cases hc:c∈X.fs
  .obtain ⟨sl,q⟩:=slot c o (I.LN x c e) hc yW ho (I.pR x c e);exact(_,q,hd)
  .exact (o,keep c o (I.LN x c e) hc yW ho (I.pR x c e),hd)
 refine(I.ok,I.os,hg,(λb o e n hb hx=>?_,λb o e n hb hx=>?_,λb o e n hx=>?_,λb o e hx=>?_,λb xs e=>tups b xs (I.base.tups b xs e),λb o xs e=>uU b o xs (I.base.uU b o xs e),λb ps e=>?_),?_,λx c e=>?_,?_,λx c e=>?_,λp hp=>?_,hok,I.len)
 . exact keep b o (neL b o e) hb (Yk b o e hx) (I.base.keep b o e n hb hx) (I.base.free b o e n hx)
 . obtain⟨sl,e1⟩:=I.base.slot b o e n hb hx
   obtain⟨sl',e2⟩:=slot b _ (neL b o e) hb (Yk b o e hx) e1 (I.base.free b o e n hx)
   exact(sl',e2)
 . obtain⟨o',e1⟩:=I.base.there b o e hx
   exact free b o' (Yk b o e hx) e1 (I.base.free b o e n hx)
 . obtain⟨o',e1⟩:=I.base.there b o e hx
   exact there b o' (Yk b o e hx) e1
 . obtain⟨m1,e1⟩:=I.base.yD b ps e
   obtain⟨m2,e2⟩:=yD b _ e1
   exact(m1++m2,by rw[e2,Array.append_assoc])
 . obtain⟨m,hn,hl⟩:=I.loc
   refine(m,ns m hn,λi x v e1 e2 e3=>?_)
   obtain⟨u,r,l⟩:=hl i x v e1 e2 e3
   refine(u,r,?_)
   rcases l with l|⟨k,c,e,z⟩
   . exact .inl l
   . exact .inr (k,c,e,cellK x c e _ z)
 . obtain⟨v,z⟩:=I.cell x c e
   exact(v,cellK x c e v z)
 . obtain⟨m,⟨o,_,_,ho,_⟩,_⟩:=I.loc
   exact free _ o (λz=>(hch _ z).2.1 rfl) ho I.free
 . obtain⟨v,o,ho,hd⟩:=I.cell x c e
   exact free c o (λz=>(hch c z).2.2.1 x c e rfl) ho (I.pR x c e)
 . obtain⟨e,n,ne,nf,d⟩:=I.pin p hp
   have yW:p.1∉ch:=λz=>(hch p.1 z).2.2.2 p hp rfl
   exact(keep p.1 p.2 ne nf yW e n,free p.1 p.2 yW e n,ne,nf,d)
def Inv.un(I:Inv X AC σ H s)(u:Un X.fs [] H H' s.heap h')(hok:jF X.prog X.w H' h'):Inv X AC σ H' { s with heap:=h',toks:=t' }:=by obtain⟨m,⟨o,es,ep,ho,r⟩,_⟩:=id I.loc;obtain⟨sl,hL⟩:=u.any ho I.free (by simp);exact I.step (g':=s.gens) (d':=s.drawn) (ch:=[]) (λ_ z=>nomatch z) (λb o _ hb _ e n=>u.keep b o e n hb (by simp)) (λb o _ hb _ e n=>u.slot b o e n hb (by simp)) (λb o _ e n=>u.free b o e n (by simp)) (λb o _ e=>u.there b o e (by simp)) u.tups u.uU u.yD (λm' hm=>by obtain⟨o',es',vH,ho',r'⟩:=hm;rw[ho]at ho';cases ho';exact(_,es',vH,hL,r')) hok I.bare
def Inv.call{d':Drawn}(I:Inv X AC σ H s)(u:Un (frs X.stack) ch H H' s.heap h')(hok:jF X.prog X.w H' h')(hg:AllBare g')(hch:∀b∈ch,(b∈X.ex\/X.s₀.heap.objs.size<=b)/\b≠X.env.locals/\(∀x c,X.env.cells.lookup x=some c->c≠b)/\∀p∈X.pn++AC,p.1≠b):
  Inv X AC σ H' { s with heap:=h',gens:=g',drawn:=d',toks:=t' }:=by
 obtain⟨m,⟨o,es,ep,ho,r⟩,_⟩:=id I.loc
 obtain⟨sl,hL⟩:=u.any ho I.free λz=>(hch _ z).2.1 rfl
 exact I.step (ch:=ch) hch (λb o hL hb hc e n=>u.keep b o e n (λz=>(dW.mp (I.LO b z)).elim hL hb) hc) (λb o _ _ hc e n=>u.any e n hc) (λb o hc e n=>u.free b o e n hc) (λb o hc e=>u.there b o e hc) u.tups u.uU u.yD (λm' hm=>by obtain⟨o',es',vH,ho',r'⟩:=hm;rw[ho]at ho';cases ho';exact(_,es',vH,hL,r')) hok hg
def Inv.turned(I:Inv X AC σ H s)(k:∀b o,b≠it->s.heap.get? b=some o->h'.get? b=some o)(hn:H it=none)(hL:it≠X.env.locals)(h1:it∈X.ex\/X.s₀.heap.objs.size<=it)(h2:∀x c,X.env.cells.lookup x=some c->c≠it)(h3:∀p∈X.pn++AC,p.1≠it):Inv X AC σ H { s with heap:=h',toks:=t' }:=by
 have nit:∀b u,H b=some u->b≠it:=λb u e z=>by rw[z,hn]at e;cases e
 refine I.step (g':=s.gens) (d':=s.drawn) (ch:=[it]) (λb hb=>?_) (λb o _ _ hc e _=>k b o (λz=>hc (by simp[z])) e) (λb o _ _ hc e _=>(o.slots,k b o (λz=>hc (by simp[z])) e)) (λ_ _ _ _ n=>n)
  (λb o hc e=>(o,k b o (λz=>hc (by simp[z])) e)) (λ_ _ e=>e) (λ_ _ _ e=>e) (λb ps e=>(#[],by rw[e];simp)) (λm hm=>?_) (λb u e=>?_) I.bare
 . have e:b=it:=by simpa using hb
   subst e
   exact(h1,hL,h2,h3)
 . obtain⟨o,es,ep,ho,r⟩:=hm
   exact(o,es,ep,k _ o (cC hL) ho,r)
 . refine(I.hok b u e).stay (λc v hc q=>k c v ?_ q) (λ_ q=>q) λ_ _ q=>q
   rcases hc with z|z
   . rw[z];exact nit b u e
   . exact nit c _ z
def Inv.tok(I:Inv X AC σ H s)(t:Nat):Inv X AC σ H { s with toks:=t }:=I.un (h':=s.heap) (t':=t) Un.refl I.hok
theorem Inv.kept(I:Inv X AC σ H s)(k:∀b u,s.heap.get? b=some u->h'.get? b=some u):Inv X AC σ H { s with heap:=h',toks:=t' }:=I.un (Un.kept k) (I.hok.kept k)
theorem Inv.laid(I:Inv X AC σ H s)(k:∀b u,s.heap.get? b=some u->h'.get? b=some u)(hp:s.heap.objs.size<=a)(new:e_ X.prog X.w (upd H a o) h' a o):Inv X AC σ (upd H a o) { s with heap:=h',toks:=t' }:=I.un (Un.laid k hp (I.hok.fresh hp)) (I.hok.laid k hp new)
theorem Inv.write{x e:Addr}(I:Inv X AC σ H s)(mu:TQ (H x))(he:e=x\/H e=some (.own x))(k:∀b u,b≠e->s.heap.get? b=some u->h'.get? b=some u)(QB:∃u,h'.get? e=some u)(new:e_ X.prog X.w (upd H x o) h' x o):Inv X AC σ (upd H x o) { s with heap:=h',toks:=t' }:=I.un (Un.write mu he k QB) (I.hok.write mu he k QB new)
def Inv.QE{Yl:AO}(I:Inv X AC σ H s)(h:∀p∈Yl,s.heap.get? p.1=some p.2/\H p.1=none/\p.1≠X.env.locals/\p.1∉X.fs/\∀v,p.2.data ≠ .cell v):Inv X Yl σ H s:=(I.ok,I.os,I.bare,I.base,I.loc,I.cell,I.free,I.pR,λp hp=>(dN.mp hp).elim (λz=>I.pin p (DQ _ z)) (h p),I.hok,I.len)
def DS(hN:N.Nodup)(a:N[i]?=some x)(b:N[j]?=some x):i=j:=by obtain⟨h1,e1⟩:=c_.mp a;obtain⟨h2,e2⟩:=c_.mp b;exact(List.getElem_inj hN).mp (e1.trans e2.symm)
def Bh{A:Around}{v:V}{Q:Unit->Shared->Prop}(I:Inv X AC σ H s)(hN:X.N.Nodup)(hi:X.N[i]?=some x)(hx:Loc X.env.scope x)(r:RelV v u)(h:∀s',Inv X AC (σ.set i (some v)) H s'->(∃a,Heap.SameBut a s.heap s'.heap/\(a=X.env.locals\/X.env.cells.lookup x=some a))->Q () s')(hf:X.fn x=true\/X.env.scope.names.lookup x=some .local:=by first|exact .inl rfl|exact .inr rfl|assumption):wpAny M A (storeName X.env x u) Q E s:=by
 obtain⟨m,hn,hl⟩:=id I.loc
 have hcls:(X.env.scope.kind ==.class || (X.env.scope.kind ==.module && X.env.locals != X.env.globals))=false:=by rw[I.ok.kind];rfl
 have hiσ:i<σ.length:=I.len▸(c_.mp hi).1
 have LN:=I.LN
 have tracked:∀{a:Addr}{h':Heap},(∃o,s.heap.get? a=some o/\H a=none)->Heap.SameBut a s.heap h'->jF X.prog X.w H h':=λ{a h'} ha hs b ob e=>by
  obtain⟨_,_,hfree⟩:=ha;refine(I.hok b ob e).stay (λc w' hc q=>(hs.2 c ?_).trans q) (λ_ q=>q) λ_ _ q=>q;rintro rfl;rcases hc with rfl|hc
  .rw [hfree]at e;cases e
  .rw [hfree]at hc;cases hc
 rcases hx with hk|hk
 . refine wpAny_storeName_local hk hn (λh' hn' hs=>?_) hcls
   obtain⟨oL,_,_,hoL,_⟩:=id hn
   refine h _ (I.ok,I.os,I.bare,(λb o e n hb hx=>?_,λb o e n hb hx=>?_,I.base.free,λb o e hx=>?_,I.base.tups,I.base.uU,I.base.yD),(_,hn',λj y v' e1 e2 e3=>?_),λy c e=>?_,I.free,I.pR,λp hp=>?_,tracked (oL,hoL,I.free) hs,by simpa using I.len) (_,hs,.inl rfl)
   . exact(hs.2 b (fq (mP (cA e) I.ok.above))).trans (I.base.keep b o e n hb hx)
   . obtain⟨sl,e1⟩:=I.base.slot b o e n hb hx
     exact(sl,(hs.2 b (fq (mP (cA e) I.ok.above))).trans e1)
   . obtain⟨o',e1⟩:=I.base.there b o e hx
     exact(o',(hs.2 b (fq (mP (cA e) I.ok.above))).trans e1)
   . by_cases hj:j=i
     . subst hj
       rw[hi]at e1;cases e1
       rw[kJ hiσ]at e2
       cases e2
       exact(u,r,.inl (hk,by simp))
     . rw[yC (cC hj)]at e2
       obtain⟨u',r',q⟩:=hl j y v' e1 e2 e3
       refine(u',r',?_)
       rcases q with⟨k,e⟩|⟨k,c,e,z⟩
       . refine .inl (k,?_)
         have:y≠x:=λe=>hj (DS hN e1 (e▸hi))
         simp[this,e]
       . exact .inr (k,c,e,z.sameBut hs (LN y c e))
   . obtain⟨w',z⟩:=I.cell y c e
     exact(w',z.sameBut hs (LN y c e))
   . obtain⟨e,n,ne,nf,d⟩:=I.pin p hp
     exact((hs.2 p.1 ne).trans e,n,ne,nf,d)
 . have hfn:X.fn x=true:=by
    rcases hf with z|z
    . exact z
    . rw[z]at hk;cases hk
   obtain⟨c,hc⟩:=I.ok.has x (.inl hk)
   obtain⟨w',z⟩:=I.cell x c hc
   refine wpAny_storeName_cell I.ok.kind hk hc z (λh' hc' hs=>?_)
   obtain⟨oc,hoc,ahZ⟩:=id z
   refine h { s with heap:=h' } (I.ok,I.os,I.bare,(λb o e n hb hx=>?_,λb o e n hb hx=>?_,I.base.free,λb o e hx=>?_,I.base.tups,I.base.uU,I.base.yD),(m,hn.sameBut hs (cC (LN x c hc)),λj y v' e1 e2 e3=>?_),λy c' e=>?_,I.free,I.pR,λp hp=>?_,tracked (oc,hoc,I.pR x c hc) hs,by simpa using I.len) (c,hs,.inr hc)
   . exact(hs.2 b (fq (mP (cA e) (I.ok.iw x c hfn hc)))).trans (I.base.keep b o e n hb hx)
   . obtain⟨sl,e1⟩:=I.base.slot b o e n hb hx
     exact(sl,(hs.2 b (fq (mP (cA e) (I.ok.iw x c hfn hc)))).trans e1)
   . obtain⟨o',e1⟩:=I.base.there b o e hx
     exact(o',(hs.2 b (fq (mP (cA e) (I.ok.iw x c hfn hc)))).trans e1)
   . by_cases hj:j=i
     . subst hj
       rw[hi]at e1;cases e1
       rw[kJ hiσ]at e2
       cases e2
       exact(u,r,.inr (.inl hk,c,hc,hc'))
     . rw[yC (cC hj)]at e2
       obtain⟨u',r',q⟩:=hl j y v' e1 e2 e3
       refine(u',r',?_)
       rcases q with q|⟨k,c',e,z'⟩
       . exact .inl q
       . refine .inr (k,c',e,z'.sameBut hs ?_)
         rintro rfl
         exact hj (DS hN e1 (I.ok.inj _ _ _ e hc▸hi))
   . by_cases hcc:c'=c
     . subst hcc;exact(_,hc')
     . obtain⟨w2,z2⟩:=I.cell y c' e
       exact(w2,z2.sameBut hs hcc)
   . obtain⟨e,n,ne,nf,d⟩:=I.pin p hp
     refine((hs.2 p.1 ?_).trans e,n,ne,nf,d)
     intro q
     rw[q,hoc]at e
     have q':oc=p.2:=gU e
     exact d w' (q'▸ahZ)
def z7{A:Around}{v:V}{Q:Unit->Shared->Prop}(I:Inv X AC σ H s)(hN:X.N.Nodup)(hi:X.N[i]?=some x)(hx:Loc X.env.scope x)(r:RelV v u)(h:∀s',Inv X AC (σ.set i (some v)) H s'->Q () s')(hf:X.fn x=true\/X.env.scope.names.lookup x=some .local:=by first|exact .inl rfl|exact .inr rfl|assumption):wpAny M A (storeName X.env x u) Q E s:=
 Bh I hN hi hx r (λs' I' _=>h s' I') hf
def Inv.Ym{s':Shared}(I:Inv X AC σ H s)(ho:s'.os=s.os)(u:Un (frs X.stack) ch H H' s.heap s'.heap)(hok:jF X.prog X.w H' s'.heap)(hg:AllBare s'.gens)(hch:∀b∈ch,(b∈X.ex\/X.s₀.heap.objs.size<=b)/\b≠X.env.locals/\(∀x c,X.env.cells.lookup x=some c->c≠b)/\∀p∈X.pn++AC,p.1≠b):Inv X AC σ H' s':=by
 obtain⟨h',g',d',t',o'⟩:=s'
 have e:o'=s.os:=ho
 subst e
 exact I.call (g':=g') (t':=t') (d':=d') u hok hg hch
end
abbrev XK:=Value->Option Addr->Hp->Prop
abbrev St:=Da (Option V)
abbrev VK:=V->Hp->Prop
abbrev TE:=St->Hp->VK->Prop
abbrev TT:=St->Hp->(Bool->Hp->Prop)->Prop
abbrev TA:=St->Hp->(Da V->Hp->Prop)->Prop
structure Ends where
 nx:St->Hp->Prop
 rt:VK
 bk:St->Hp->Prop:=λ_ _=>False
 ct:St->Hp->Prop:=λ_ _=>False
abbrev TS:=Ends->St->Hp->Prop
def EP(X:Cx)(AC:AO)(σ:St)(Q:VK)(u:Value)(s':Shared):Prop:=∃v H',Inv X AC σ H' s'/\RelV v u/\Q v H'
def TP(X:Cx)(AC:AO)(σ:St)(Q:Bool->Hp->Prop)(b:Bool)(s':Shared):Prop:=∃H',Inv X AC σ H' s'/\Q b H'
def AP(X:Cx)(AC:AO)(σ:St)(Q:Da V->Hp->Prop)(us:Da Value)(s':Shared):Prop:=∃vs H',Inv X AC σ H' s'/\Vals vs us/\Q vs H'
def SP(X:Cx)(AC:AO)(D:Ends)(f:Flow)(s':Shared):Prop:=match f with
 | .next=>∃σ' H',Inv X AC σ' H' s'/\D.nx σ' H'
 | .brk=>∃σ' H',Inv X AC σ' H' s'/\D.bk σ' H'
 | .cont=>∃σ' H',Inv X AC σ' H' s'/\D.ct σ' H'
 | .ret u=>∃v σ' H',Inv X AC σ' H' s'/\RelV v u/\D.rt v H'
def PE(X:Cx)(e:Expr)(t:TE):Prop:=∀(AC:AO)(s:Shared)(σ:St)(H:Hp)(Q:VK),Inv X AC σ H s->t σ H Q->wpAny (model X.prog X.w) X.A (eval e X.env) (EP X AC σ Q) X.xe s
def PT(X:Cx)(e:Expr)(t:TT):Prop:=∀(AC:AO)(s:Shared)(σ:St)(H:Hp)(Q:Bool->Hp->Prop),Inv X AC σ H s->t σ H Q->wpAny (model X.prog X.w) X.A (isTrue e X.env (eval e X.env)) (TP X AC σ Q) X.xe s
def PW(X:Cx)(e:Expr)(t:TT):Prop:=∀(whole:Sem Value)(AC:AO)(s:Shared)(σ:St)(H:Hp)(Q:Bool->Hp->Prop),Inv X AC σ H s->t σ H Q->wpAny (model X.prog X.w) X.A (isTrue e X.env whole) (TP X AC σ Q) X.xe s
variable {X:Cx}{e:Expr}
def PW.pt{t:TT}(h:PW X e t):PT X e t:=h _
def PA(X:Cx)(es:Da Expr)(t:TA):Prop:=∀(pos:Pos)(AC:AO)(s:Shared)(σ:St)(H:Hp)(Q:Da V->Hp->Prop),Inv X AC σ H s->t σ H Q->wpAny (model X.prog X.w) X.A (spliced (backTo pos (starEach es X.env))) (AP X AC σ Q) X.xe s
def PS(X:Cx)(st:Stmt)(t:TS):Prop:=∀(AC:AO)(s:Shared)(σ:St)(H:Hp)(D:Ends),Inv X AC σ H s->t D σ H->wpAny (model X.prog X.w) X.A (exec st X.env) (SP X AC D) X.xe s
def yc(X:Cx)(st:Da Stmt)(t:TS):Prop:=∀(AC:AO)(s:Shared)(σ:St)(H:Hp)(D:Ends),Inv X AC σ H s->t D σ H->wpAny (model X.prog X.w) X.A (execs st X.env) (SP X AC D) X.xe s
variable {s:Shared}
def bH{α:Type}{t:Sem α}{Q Q':α->Shared->Prop}{A:Around}(h:wpAny M A t Q E s)(hQ:∀a s,Q a s->Q' a s):wpAny M A t Q' E s:=j8 h hQ λ_ _ x=>x
variable {pos:Pos}{AC:AO}{σ:St}
section
variable {X:Cx}
inductive wk(i:Nat)(σ:St)(H:Hp)(Q:VK):Prop
 |mk(v:_)(_:σ[i]?=some (some v))(_:Q v H)
def tC(v:V):TE:=λ_ H Q=>Q v H
def aa4(hN:X.N[i]?=some x)(hv:Yj X.env.scope x)(hd:(x==("__debug__":Str))=false:=by decide)(hcd:(x==("__classdict__":Str))=false:=by decide):PE X (.Name x pos) (wk i):=by
 intro AC s σ H Q I h;obtain⟨v,e,h⟩:=h;obtain⟨m,hn,hl⟩:=I.loc;obtain⟨u,r,l⟩:=hl i x v hN e hv;have fin:EP X AC σ Q u s:=(v,H,I,r,h)
 rcases l with⟨hk,hm⟩|⟨hk,c,hc,hcell⟩
 .exact wpAny_Name (wpAny_loadName_local I.ok.kind hk hn hm fin) hd
 .rcases hk with hk|hk
  .exact wpAny_Name (wpAny_loadName_cell I.ok.kind hk hc hcell fin) hd
  .exact wpAny_Name (wpAny_loadName_free I.ok.kind hk hc hcell fin hcd) hd
def Gl(X:Cx)(x:Str):Prop:=X.env.kindOf x=some .globalImplicit
def CH{Q:VS}(I:Inv X AC σ H s)(hg:Gl X x)(hm:X.mg x=some u)(h:Q u s)(hd:(x==("__debug__":Str))=false:=by decide):wpAny (model X.prog X.w) X.A (eval (.Name x pos) X.env) Q E s:=
 Calls.Name_function_global I.ok.kind hg (Calls.loadGlobal_global (I.ok.glob▸I.mod.glob.keeps I.bk) hm h) hd
def wm{Q:VS}(I:Inv X AC σ H s)(hg:Gl X x)(hm:X.mg x=none)(hv:bootBuiltins x=some u)(h:Q u s)(hn:x ≠ "__name__":=by decide)(hd:(x==("__debug__":Str))=false:=by decide):wpAny (model X.prog X.w) X.A (eval (.Name x pos) X.env) Q E s:=by
 obtain⟨mb,h1,h2⟩:=I.mod.blt
 exact Calls.Name_function_global I.ok.kind hg (Calls.loadGlobal_builtin (I.ok.glob▸I.mod.glob.keeps I.bk) hm (I.ok.blt▸h1.keeps I.bk) ((h2 x hn).trans hv) h) hd
def Zk{v:V}(hg:Gl X x)(hm:X.mg x=none)(hv:bootBuiltins x=some u)(r:RelV v u)(hn:x ≠ "__name__":=by decide)(hd:(x==("__debug__":Str))=false:=by decide):PE X (.Name x pos) (tC v):=λ_ _ _ H _ I h=>wm I hg hm hv (v,H,I,r,h) hn hd
variable {a b:Expr}{ta tb:TE}{pos:Pos}
def PC(X:Cx)(op:CmpOp)(a b:Expr)(t:TE):Prop:=∀(AC:AO)(s:Shared)(σ:St)(H:Hp)(Q:VK),Inv X AC σ H s->t σ H Q->wpAny (model X.prog X.w) X.A (eval a X.env) (λv s₁=>wpAny (model X.prog X.w) X.A (eval b X.env) (λu s₂=>wpAny (model X.prog X.w) X.A (compareOp op v u) (EP X AC σ Q) X.xe s₂) X.xe s₁) X.xe s
inductive yTB(Q:Bool->Hp->Prop)(x:V)(H1:Hp):Prop
 |mk(c:_)(_:x =.bl c)(_:Q c H1)
def tB(t:TE):TT:=λσ H Q=>t σ H (yTB Q)
variable {tA Yn:TT}{Cl:Da Expr}
def aey(u:TT)(σ:St)(Q:Bool->Hp->Prop):Bool->Hp->Prop:=λc H1=>if c=true then u σ H1 Q else Q false H1
def ah0(t u:TT):TT:=λσ H Q=>t σ H (aey u σ Q)
def ah1(u:TT)(σ:St)(Q:Bool->Hp->Prop):Bool->Hp->Prop:=λc H1=>if c=true then Q true H1 else u σ H1 Q
def tOr(t u:TT):TT:=λσ H Q=>t σ H (ah1 u σ Q)
abbrev aez(Q:Bool->Hp->Prop):Bool->Hp->Prop:=λc H1=>Q (!c) H1
def ah2(t:TT):TT:=λσ H Q=>t σ H (aez Q)
inductive aa5(tb:TE)(σ:St)(Q:VK)(x:V)(H1:Hp):Prop
 |mk(c:_)(_:x =.bl c)(_:if c=true then tb σ H1 Q else Q (.bl false) H1)
def aeA(ta tb:TE):TE:=λσ H Q=>ta σ H (aa5 tb σ Q)
inductive aa6(Q:VK)(x:V)(H1:Hp):Prop
 |mk(c:_)(_:x =.bl c)(_:Q (.bl (!c)) H1)
def aeB(ta:TE):TE:=λσ H Q=>ta σ H (aa6 Q)
end
def aC(K:Fg)(H:Hp)(a:Addr)(xs:Da V):Prop:=Rd H a (.lst xs)\/
  ∃(o:Obj)(BT:Array Value)(n:Nat),K.lookup a=some o/\o.cls =.type "list"/\o.dict=none/\o.data =.seq BT n/\BT.size<=sizeLine/\Vals xs BT.toList
def cU(K:Fg)(H:Hp)(a:Addr)(xs:Da V):Prop:=Rd H a (.tup xs)\/
  ∃(o:Obj)(BT:Array Value)(n:Nat),K.lookup a=some o/\o.cls =.type "tuple"/\o.data =.seq BT n/\BT.size<=sizeLine/\Vals xs BT.toList
noncomputable def ah3:Value->Option V
 | .none=>some .cK
 | .bool b=>some (.bl b)
 | .int i _=>some (.int i)
 | .str x _=>some (.str x)
 | .bytes b _=>some (.AG b)
 | .float b _=>some (.LI b)
 | .ref a=>some (.ref a)
 | .type n=>some (.ty n)
 | _=>none
def RelV.abs{x:V}(r:RelV x u):ah3 u=some x:=by
 cases x with
 | cK=>cases r;rfl
 | bl _=>cases r;rfl
 | int _=>obtain⟨t,rfl⟩:=r;rfl
 | str _=>obtain⟨t,rfl⟩:=r;rfl
 | AG _=>obtain⟨t,rfl⟩:=r;rfl
 | LI _=>obtain⟨t,rfl⟩:=r;rfl
 | ref _=>cases r;rfl
 | ty _=>cases r;rfl
variable {y:V}
def RelV.inj{x:V}(r:RelV x u)(q:RelV y u):x=y:=gU (r.abs.symm.trans q.abs)
theorem Vals.inj:∀{xs ys:Da V}{us:Da Value},Vals xs us->Vals ys us->xs=ys
 | _,_,_,.nil,.nil=>rfl
 | _,_,_,.cons r t,.cons r' t'=>by rw[r.inj r',Vals.inj t t']
variable {K:Fg}
section
variable {X:Cx}{AC:AO}{σ:St}{H:Hp}{s:Shared}{a:Addr}{xs ys:Da V}
def aC.of(h:H a=some (.lst xs)):aC K H a xs:=.inl (.inl h)
def cU.of(h:H a=some (.tup xs)):cU K H a xs:=.inl (.inl h)
theorem Inv.list(I:Inv X AC σ H s)(h:aC X.K H a xs):∃BT:Da Value,Vals xs BT/\PlainL s.heap a BT.toArray/\xs.length<=sizeLine:=by
 rcases h with h|⟨o,BT,n,hk,hc,hd,hs,hz,r⟩
 .obtain ⟨z,BT,n,r,e⟩:=h.ok I.hok;exact(BT,r,(_,n,e,Z,Z,Z),z)
 .refine (BT.toList,r,(o,n,I.lK a o hk,hc,hd,by simpa using hs),?_);have e:=r.length;simp only[Array.length_toList]at e;omega
theorem Inv.tuple(I:Inv X AC σ H s)(h:cU X.K H a xs):∃BT:Da Value,Vals xs BT/\IsTup s.heap a BT.toArray/\xs.length<=sizeLine:=by
 rcases h with h|⟨o,BT,n,hk,hc,hs,hz,r⟩
 .obtain ⟨z,BT,r,p⟩:=h.ok I.hok;exact(BT,r,p,z)
 .refine (BT.toList,r,(o,I.lK a o hk,hc,n,by simpa using hs),?_);have e:=r.length;simp only[Array.length_toList]at e;omega
def Inv.Wo(I:Inv X AC σ H s)(h:aC X.K H a xs)(h':aC X.K H a ys):xs=ys:=by
 obtain⟨BT,r,⟨o,n,e,_,_,d⟩,_⟩:=I.list h;obtain⟨its',r',⟨o',n',e',_,_,d'⟩,_⟩:=I.list h';rw[e]at e';cases e';rw[d]at d';injection d' with d1 _;have:BT=its':=by simpa using i8 Array.toList d1
 subst this;exact r.inj r'
end
abbrev Cx.yE(X:Cx)(E:VS):Cx:={ X with xe:=E }
abbrev Cx.Ds(X:Cx):Cx:=X.yE λ_ _=>False
theorem Cx.Ok.yE(ok:X.Ok)(E:VS):(X.yE E).Ok:=(ok.mod,ok.kind,ok.glob,ok.blt,ok.above,ok.inj,ok.has,ok.iw,ok.hd,ok.frames,ok.stk,ok.QC,ok.bs,ok.IP,ok.LL,ok.Hr,ok.uV,ok.LM)
def Cx.Ok.uE(ok:(X.yE E).Ok):X.Ok:=(ok.mod,ok.kind,ok.glob,ok.blt,ok.above,ok.inj,ok.has,ok.iw,ok.hd,ok.frames,ok.stk,ok.QC,ok.bs,ok.IP,ok.LL,ok.Hr,ok.uV,ok.LM)
variable {D:Ends}
section
variable {X:Cx}{AC:AO}{σ:St}{H:Hp}{s:Shared}{E:VS}
theorem Inv.yE(I:Inv X AC σ H s)(E:VS):Inv (X.yE E) AC σ H s:=(I.ok.yE E,I.os,I.bare,I.base,I.loc,I.cell,I.free,I.pR,I.pin,I.hok,I.len)
theorem Inv.uE(I:Inv (X.yE E) AC σ H s):Inv X AC σ H s:=(I.ok.uE,I.os,I.bare,I.base,I.loc,I.cell,I.free,I.pR,I.pin,I.hok,I.len)
theorem SP.uE{f:Flow}(h:SP (X.yE E) AC D f s'):SP X AC D f s':=by
 cases f with
 | next=>obtain⟨σ',H',I,q⟩:=h;exact(σ',H',I.uE,q)
 | brk=>obtain⟨σ',H',I,q⟩:=h;exact(σ',H',I.uE,q)
 | cont=>obtain⟨σ',H',I,q⟩:=h;exact(σ',H',I.uE,q)
 | ret u=>obtain⟨v,σ',H',I,r,q⟩:=h;exact(v,σ',H',I.uE,r,q)
theorem yc.Ds{st:Da Stmt}{t:TS}(h:yc X.Ds st t):yc X st t:=λAC s σ H D I hw=>
 j8 (h AC s σ H D (I.yE _) hw) (λ_ _ q=>q.uE) λ_ _ z=>False.elim z
end
variable {tc:TT}
section
variable {X:Cx}{st:Stmt}{Cl:Da Stmt}{t u:TS}{e:Expr}{te:TE}{pos:Pos}
def aeC:TS:=λD σ H=>D.nx σ H
def Ends.sq(D:Ends)(u:TS):Ends:={ D with nx:=u D }
def Ends.lp(D:Ends)(N:St->Hp->Prop):Ends:={ D with nx:=N,ct:=N,bk:=D.nx }
def wu(t u:TS):TS:=λD σ H=>t (D.sq u) σ H
def Inv.quiet(I:Inv X AC σ H s):interactive X.env=false:=by simp[interactive,I.ok.kind]
def aa7(D:Ends)(σ:St):V->Hp->Prop:=λ_ H1=>D.nx σ H1
def aeD(te:TE):TS:=λD σ H=>te σ H (aa7 D σ)
def ah4(te:TE):TS:=λD σ H=>te σ H D.rt
def aeE:TS:=λD _ H=>D.rt .cK H
def aeF(t:TS)(u:TS)(D:Ends)(σ:St):Bool->Hp->Prop:=λb H1=>if b=true then t D σ H1 else u D σ H1
def aa8(c:TT)(t u:TS):TS:=λD σ H=>c σ H (aeF t u D σ)
def Yo{c:Expr}{a b:Da Stmt}(hc:PT X c tc)(ha:yc X a t)(hb:yc X b u):PS X (.If c a b pos) (aa8 tc t u):=by
 intro AC s σ H D I h;refine wpAny_If (bH (hc AC s σ H _ I h) λd s1 (H1,I1,q1)=>?_);cases d with
 | true=>exact ha AC s1 σ H1 D I1 q1
 | false=>exact hb AC s1 σ H1 D I1 q1
def aa9:TS:=λ_ _ _=>False
end
abbrev TG:=V->St->Hp->(St->Hp->Prop)->Prop
abbrev EX:=Da V->St->Hp->(St->Hp->Prop)->Prop
def PG(X:Cx)(target:Expr)(t:TG):Prop:=∀(AC:AO)(s:Shared)(σ:St)(H:Hp)(v:V)(u:Value)(Q:St->Hp->Prop),Inv X AC σ H s->RelV v u->t v σ H Q->wpAny (model X.prog X.w) X.A (assign target X.env u) (λ_ s'=>∃σ' H',Inv X AC σ' H' s'/\Q σ' H') X.xe s
def PGs(X:Cx)(ts:Da Expr)(t:EX):Prop:=∀(AC:AO)(s:Shared)(σ:St)(H:Hp)(vs:Da V)(us:Da Value)(Q:St->Hp->Prop),Inv X AC σ H s->Vals vs us->t vs σ H Q->wpAny (model X.prog X.w) X.A (assignInOrder ((assignEach ts X.env).map (·.2)) us) (λ_ s'=>∃σ' H',Inv X AC σ' H' s'/\Q σ' H') X.xe s
abbrev uW:=V->V->V->Hp->(Hp->Prop)->Prop
def Wq(X:Cx)(t:uW):Prop:=∀(AC:AO)(s:Shared)(σ:St)(H:Hp)(o i v:V)(ov iv u:Value)(Q:Hp->Prop),Inv X AC σ H s->RelV o ov->RelV i iv->RelV v u->t o i v H Q->wpAny (model X.prog X.w) X.A (setItem ov iv u) (λ_ s'=>∃H',Inv X AC σ H' s'/\Q H') X.xe s
abbrev LP:=V->V->Hp->VK->Prop
def PIp(X:Cx)(op:Operator)(t:LP):Prop:=∀(AC:AO)(s:Shared)(σ:St)(H:Hp)(x y:V)(v u:Value)(Q:VK),Inv X AC σ H s->RelV x v->RelV y u->t x y H Q->wpAny (model X.prog X.w) X.A (inplaceOp op v u) (EP X AC σ Q) X.xe s
variable {n:Nat}
section
variable {X:Cx}{pos:Pos}
def i9(i:Nat):TG:=λv σ H Q=>Q (σ.set i (some v)) H
inductive aba(vs:Da V)(σ:St)(H:Hp)(Q:St->Hp->Prop):Prop
 |mk(_:vs=[])(_:Q σ H)
def abb(u:EX)(Q:St->Hp->Prop)(r:Da V):St->Hp->Prop:=λσ' H'=>u r σ' H' Q
inductive Yp(t:TG)(u:EX)(vs:Da V)(σ:St)(H:Hp)(Q:St->Hp->Prop):Prop
 |mk(v r:_)(_:vs=v::r)(_:t v σ H (abb u Q r))
inductive DT(K:Fg)(n:Nat)(t:EX)(v:V)(σ:St)(H:Hp)(Q:St->Hp->Prop):Prop
 |mk(a xs:_)(_:v =.ref a)(_:cU K H a xs)(_:xs.length=n)(_:t xs σ H Q)
def abc{es:Da Expr}{k:Nat}{t:EX}(hc:X.calm=true)(h:PGs X es t)(hn:(assignEach es X.env).length=n:=by rfl)(hst:(assignEach es X.env).findIdx? (·.1)=none:=by rfl):PG X (.Tuple es k pos) (DT X.K n t):=by
 intro AC s σ H v u Q I r hw
 obtain⟨a,xs,e1,hq,hl,hw⟩:=hw
 subst e1
 cases r
 obtain⟨BT,rv,ht,hz⟩:=I.tuple hq
 refine assign_Tuple_tuple (I.ok.hd hc) ht (by simp[hn,<-hl,rv.length]) hst λh' hx=>?_
 have I1:Inv X AC σ H { s with heap:=h' }:=I.kept (t':=s.toks) λb o e=>hx b o (fq (cA e)) e
 exact h AC _ σ H xs _ Q I1 (by simpa using rv) hw
def Zl(σ:St)(Q:St->Hp->Prop):Hp->Prop:=λH3=>Q σ H3
def Zm(t:uW)(v:V)(σ:St)(Q:St->Hp->Prop)(o:V):V->Hp->Prop:=λi H2=>t o i v H2 (Zl σ Q)
def aeG(ti:TE)(t:uW)(v:V)(σ:St)(Q:St->Hp->Prop):V->Hp->Prop:=λo H1=>ti σ H1 (Zm t v σ Q o)
def ah5(to ti:TE)(t:uW):TG:=λv σ H Q=>to σ H (aeG ti t v σ Q)
def aeH(g:TG)(D:Ends)(σ:St):V->Hp->Prop:=λx H1=>g x σ H1 D.nx
def LQ(te:TE)(g:TG):TS:=λD σ H=>te σ H (aeH g D σ)
inductive aeI(i:Nat)(j:Nat)(D:Ends)(σ:St)(vs:Da V)(H1:Hp):Prop
 |mk(v w:_)(_:vs=[v,w])(_:D.nx ((σ.set i (some v)).set j (some w)) H1)
def ah6(i j:Nat)(ta:TA):TS:=λD σ H=>ta σ H (aeI i j D σ)
def Wr(D:Ends)(σ:St):Hp->Prop:=λH6=>D.nx σ H6
def Ws(qX:uW)(D:Ends)(σ:St)(o:V)(i:V):V->Hp->Prop:=λz H5=>qX o i z H5 (Wr D σ)
def Wt(AH:LP)(qX:uW)(D:Ends)(σ:St)(o:V)(i:V)(x:V):V->Hp->Prop:=λy H4=>AH x y H4 (Ws qX D σ o i)
def Wu(te:TE)(AH:LP)(qX:uW)(D:Ends)(σ:St)(o:V)(i:V):V->Hp->Prop:=λx H3=>te σ H3 (Wt AH qX D σ o i x)
def Wv(te:TE)(Bj:V->V->Hp->VK->Prop)(AH:LP)(qX:uW)(D:Ends)(σ:St)(o:V):V->Hp->Prop:=λi H2=>Bj o i H2 (Wu te AH qX D σ o i)
def abd(ti:TE)(te:TE)(Bj:V->V->Hp->VK->Prop)(AH:LP)(qX:uW)(D:Ends)(σ:St):V->Hp->Prop:=λo H1=>ti σ H1 (Wv te Bj AH qX D σ o)
def aeJ(to ti te:TE)(Bj:V->V->Hp->VK->Prop)(AH:LP)(qX:uW):TS:=λD σ H=>to σ H (abd ti te Bj AH qX D σ)
def abe(X:Cx)(t:V->V->Hp->VK->Prop):Prop:=∀(AC:AO)(s:Shared)(σ:St)(H:Hp)(o i:V)(ov iv:Value)(Q:VK),Inv X AC σ H s->RelV o ov->RelV i iv->t o i H Q->wpAny (model X.prog X.w) X.A (getItem ov iv) (EP X AC σ Q) X.xe s
inductive ipI(f:Int->Int->Int)(x:V)(y:V)(H:Hp)(Q:VK):Prop
 |mk(i j:_)(_:x =.int i)(_:y =.int j)(_:Q (.int (f i j)) H)
def abf:PIp X .Add (ipI λi j=>i+j):=by intro AC s σ H x y v u Q I r1 r2 h;obtain⟨i,j,e1,e2,q⟩:=h;subst e1;subst e2;obtain⟨t,rfl⟩:=r1;obtain⟨t',rfl⟩:=r2;exact iadd_int (.int _,H,I.tok _,(_,Z),q)
def abg:PIp X .Sub (ipI λi j=>i-j):=by intro AC s σ H x y v u Q I r1 r2 h;obtain⟨i,j,e1,e2,q⟩:=h;subst e1;subst e2;obtain⟨t,rfl⟩:=r1;obtain⟨t',rfl⟩:=r2;exact isub_int (.int _,H,I.tok _,(_,Z),q)
end
section
variable {X:Cx}{pos:Pos}
def abh(c:TT)(tb:TS):TS:=λD σ H=>∃W:Nat->St->Hp->Prop,(∃m,W m σ H)/\∀m σ H,W m σ H->c σ H λb H1=>if b=true then ∃N:St->Hp->Prop,(∀σ' H',N σ' H'->∃m',m'<m/\W m' σ' H')/\tb { D with nx:=N,ct:=N,bk:=D.nx } σ H1 else D.nx σ H1
end
structure It where
 go:Nat->Hp->Prop
 EY:Nat->Hp->V->Hp->Prop
 stop:Nat->Hp->Prop
def qY(X:Cx)(AC:AO)(H:Hp)(b:Addr):Prop:=H b=none/\b≠X.env.locals/\b∉X.fs/\(b∈X.ex\/X.s₀.heap.objs.size<=b)/\(∀x c,X.env.cells.lookup x=some c->c≠b)/\∀p∈X.pn++AC,p.1≠b
variable {H':Hp}
def Inv.DU{b:Addr}(I:Inv X AC σ H s)(hb:s.heap.objs.size<=b)(hn:H' b=none):qY X AC H' b:=by
 refine(hn,zW (mP I.lt hb),I.ahY hb,.inr (fG I.sz hb),λx c e z=>?_,λp hp z=>?_)
 .obtain ⟨v,q⟩:=I.cell x c e;exact absurd (mP q.lt (z▸hb)) (j7 _)
 .exact absurd (mP (cA (I.pin p hp).1) (z▸hb)) (j7 _)
structure Turn(P:Program)(w:World)(K:Fg)(tg:Expr)(J:It)(fp:Da Addr)(it:Addr)(tn:Nat->Heap->Prop):Prop where
 mem:it∈fp
 obj:∀i h,tn i h->∀b∈fp,∃o,h.get? b=some o/\∀v,o.data ≠ .cell v
 keep:∀i h h',tn i h->(∀b∈fp,∀o,h.get? b=some o->h'.get? b=some o)->tn i h'
 item:∀(X:Cx),X.prog=P->X.w=w->X.K=K->X.calm=true->∀(i:Nat)(AC:AO)(s:Shared)(σ:St)(H:Hp)(E:VS),Inv X AC σ H s->(∀b∈fp,qY X AC H b)->tn i s.heap->J.go i H->
  wpAny (model P w) X.A (pyNext (.ref it)) (λr s1=>∃u,r=some u/\
   wpAny (model P w) X.A (letOwnedTupleGo tg (.ref it) u) (λ_ s2=>∃x H',Inv X AC σ H' s2/\RelV x u/\J.EY i H x H'/\tn (i+1) s2.heap/\∀b∈fp,H' b=none) E s1) E s
 done:∀(X:Cx),X.prog=P->X.w=w->X.K=K->X.calm=true->∀(i:Nat)(AC:AO)(s:Shared)(σ:St)(H:Hp)(E:VS),Inv X AC σ H s->(∀b∈fp,qY X AC H b)->tn i s.heap->J.stop i H->
  wpAny (model P w) X.A (pyNext (.ref it)) (λr s1=>r=none/\Inv X AC σ H s1) E s
 self:∀(A:Around)(i:Nat)(s:Shared)(Q:VS)(E:VS),tn i s.heap->Q (.ref it) s->wpAny (model P w) A (pyIter (.ref it)) Q E s
abbrev TI:=St->Hp->(It->Hp->Prop)->Prop
def PIE(X:Cx)(AC:AO)(σ:St)(tg:Expr)(R:It->Hp->Prop)(itv:Value)(s2:Shared):Prop:=∃(it:Addr)(fp:Da Addr)(tn:Nat->Heap->Prop)(J:It)(H':Hp),itv =.ref it/\Inv X AC σ H' s2/\Turn X.prog X.w X.K tg J fp it tn/\tn 0 s2.heap/\(∀b∈fp,qY X AC H' b)/\R J H'
def PI(X:Cx)(tg Bn:Expr)(wi:TI):Prop:=∀(AC:AO)(s:Shared)(σ:St)(H:Hp)(R:It->Hp->Prop),Inv X AC σ H s->wi σ H R->wpAny (model X.prog X.w) X.A (eval Bn X.env) (λv s1=>wpAny (model X.prog X.w) X.A (pyIter v) (PIE X AC σ tg R) X.xe s1) X.xe s
variable {tg:Expr}
def CI{A:Around}{o:Obj}{n:String}{vs:Array Value}{Q:Unit->Shared->Prop}(ho:s.heap.get? it=some o)(hc:o.cls =.type n)(hd:o.data =.fields vs)(hn:["enumerate","zip","dict_itemiterator","dict_reverseitemiterator","odict_iterator","itertools.zip_longest","itertools.pairwise"].contains n=false)(hQ:Q () s):wpAny M A (letOwnedTupleGo tg (.ref it) u) Q E s:=by
 unfold letOwnedTupleGo
 cases tg <;> first
  | exact bh hQ
  | (cases u <;> first
      | exact bh hQ
      | (refine az (wpAny_load ho ?_)
         rw[hc,hd]
         show wpAny M A (if(["enumerate","zip","dict_itemiterator","dict_reverseitemiterator","odict_iterator","itertools.zip_longest","itertools.pairwise"].contains n && vs[0]?==some (rawInt _))=true then _ else _) Q E s
         rw[av (by intro h;rw[hn,Bool.false_and]at h;cases h)]
         exact bh hQ))
def wC(K:Fg)(a:Addr):It:=⟨λi H=>∃xs x,aC K H a xs/\xs[i]?=some x,λi H x H'=>H'=H/\∀xs,aC K H a xs->xs[i]?=some x,λi H=>∃xs,aC K H a xs/\xs.length<=i⟩
def LR(lo:Int)(n:Nat):It:=(λi _=>i<n,λi H x H'=>H'=H/\x =.int (lo+i),λi _=>n<=i)
theorem TV(a it:Addr):Turn P w K tg (wC K a) [it] it (λi h=>h.IsListIter it a i) where
 mem:=by simp
 obj:=λi h st b hb=>by
  have e:b=it:=by simpa using hb
  subst e;obtain⟨o,e,c,d⟩:=st;exact(o,e,λv z=>by rw[d]at z;cases z)
 keep:=λi h h' st k=>st.at λo e=>k it (by simp) o e
 item:=by intro X hP hw hK hc i AC s σ H E I hf st hg;subst hP hw hK;obtain⟨xs,x,hq,hx⟩:=hg;obtain⟨BT,rv,p,hz⟩:=I.list hq;obtain⟨u,hu,ru⟩:=rv.get hx;obtain⟨f0,f1,f2,f3,f4,f5⟩:=hf it (by simp);refine wpAny_pyNext_list_item st p.isList (x:=u) (by simpa using hu) λh' st' sb=>?_;have I1:Inv X AC σ H { s with heap:=h' }:=I.turned (t':=s.toks) (λb o hb e=>(sb.2 b hb).trans e) f0 f1 f3 f4 f5;obtain⟨o,e,c,d⟩:=id st';exact(u,Z,CI (s:={ s with heap:=h' }) e c d (by decide) (x,H,I1,ru,(Z,λys hy=>I.Wo hy hq▸hx),st',λb hb=>(hf b hb).1))
 done:=by intro X hP hw hK hc i AC s σ H E I hf st hg;subst hP hw hK;obtain⟨xs,hq,hx⟩:=hg;obtain⟨BT,rv,p,hz⟩:=I.list hq;obtain⟨f0,f1,f2,f3,f4,f5⟩:=hf it (by simp);have hl:=rv.length;exact wpAny_pyNext_list_end (I.ok.hd hc) st p.isList (by simp;omega) λh' eb=>(Z,I.turned (t':=s.toks) (λb o hb e=>eb b o hb e) f0 f1 f3 f4 f5)
 self:=λ_ _ _ _ _ st h=>wpAny_pyIter_listiter st h
theorem Sf(it:Addr)(lo:Int)(n:Nat):Turn P w K tg (LR lo n) [it] it (λi h=>IsRangeIter h it (lo+(i:Nat)*1) ((n:Int)-(i:Nat)) 1) where
 mem:=by simp
 obj:=λi h st b hb=>by
  have e:b=it:=by simpa using hb
  subst e;exact(_,st,λv z=>by have z':Data.fields _=Data.cell v:=z;cases z')
 keep:=λi h h' st k=>k it (by simp) _ st
 item:=by intro X hP hw hK hc i AC s σ H E I hf st hg;subst hP hw hK;obtain⟨f0,f1,f2,f3,f4,f5⟩:=hf it (by simp);have W:=Walks.range (prog:=X.prog) (w:=X.w) (I.ok.hd hc) it lo 1 n;refine W.item i s _ _ hg st λv h' tk hv st' kk=>?_;obtain⟨t,rfl⟩:=hv;have I1:Inv X AC σ H { s with heap:=h',toks:=tk }:=I.turned (λb o hb e=>kk b o (by simpa using hb) e) f0 f1 f3 f4 f5;refine(_,Z,CI (s:={ s with heap:=h',toks:=tk }) (n:="range_iterator") st' rfl rfl (by decide) (.int (lo+i),H,I1,(t,?_),(Z,Z),st',λb hb=>(hf b hb).1));rw[pO]
 done:=by intro X hP hw hK hc i AC s σ H E I hf st hg;subst hP hw hK;obtain⟨f0,f1,f2,f3,f4,f5⟩:=hf it (by simp);exact wpAny_pyNext_range_end (I.ok.hd hc) st (by have:n<=i:=hg;omega) λh' eb=>(Z,I.turned (t':=s.toks) (λb o hb e=>eb b o hb e) f0 f1 f3 f4 f5)
 self:=λ_ _ _ _ _ st h=>wpAny_pyIter_rangeiter st h
variable {tl:TE}{fp:Da Addr}
section
variable {X:Cx}{tg:Expr}
inductive abi(K:Fg)(R:It->Hp->Prop)(x:V)(H1:Hp):Prop
 |mk(a:_)(_:x =.ref a)(_:(∃xs,aC K H1 a xs))(_:R (wC K a:_) H1)
def Yq(K:Fg)(tl:TE):TI:=λσ H R=>tl σ H (abi K R)
def Zn{l:Expr}(hl:PE X l tl):PI X tg l (Yq X.K tl):=by
 intro AC s σ H R I h;refine bH (hl AC s σ H _ I h) λv s1 (x,H1,I1,r1,q1)=>?_;obtain⟨a,e,⟨xs,hq⟩,q⟩:=q1;subst e;cases r1;obtain⟨BT,rv,p,hz⟩:=I1.list hq;refine R9 p.isList ?_;refine(s1.heap.objs.size,[s1.heap.objs.size],_,_,H1,Z,I1.kept (t':=s1.toks) λb o e=>cN _ e,TV a _,(_,ff _ rfl,Z,Z),λb hb=>?_,q);have e:b=s1.heap.objs.size:=by simpa using hb
 subst e;exact I1.DU (aO _) (I1.hok.fresh (aO _))
theorem Ww{R:It->Hp->Prop}{lo hi:Int}{t u v:Tok}{tk:Nat}(I:Inv X AC σ H s)(h1:-(2 ^ 62)<=lo)(h2:lo<2 ^ 62)(h3:-(2 ^ 62)<=hi)(h4:hi<2 ^ 62)(q:R (LR lo (hi-lo).toNat) H):wpAny (model X.prog X.w) X.A (pyIter (.ref s.heap.objs.size)) (PIE X AC σ tg R) E { s with heap:=s.heap.push { cls:=.type "range",data:=.fields #[.int lo t,.int hi u,.int 1 v] },toks:=tk }:=by
 refine wpAny_pyIter_range (IsRange.new ..) (small_one h1 h2 h3 h4) ?_
 have I1:Inv X AC σ H { s with heap:=s.heap.push { cls:=.type "range",data:=.fields #[.int lo t,.int hi u,.int 1 v] },toks:=tk }:=I.kept λb o e=>cN _ e
 refine((s.heap.push { cls:=.type "range",data:=.fields #[.int lo t,.int hi u,.int 1 v] }).objs.size,[(s.heap.push { cls:=.type "range",data:=.fields #[.int lo t,.int hi u,.int 1 v] }).objs.size],_,_,H,Z,
  I1.kept (t':=tk) λb o e=>cN _ e,Sf _ lo (hi-lo).toNat,?_,λb hb=>?_,q)
 . have e1:lo+((0:Nat):Int)*1=lo:=by simp
   have e2:(((hi-lo).toNat:Nat):Int)-((0:Nat):Int)=Builtin.Range.rangeSize lo hi 1:=by rw[rangeSize_one];split <;> omega
   show IsRangeIter _ _ (lo+((0:Nat):Int)*1) ((((hi-lo).toNat:Nat):Int)-((0:Nat):Int)) 1
   rw[e1,e2]
   exact ff _ rfl
 . have e:b=(s.heap.push { cls:=.type "range",data:=.fields #[.int lo t,.int hi u,.int 1 v] }).objs.size:=by simpa using hb
   subst e
   exact I1.DU (aO _) (I1.hok.fresh (aO _))
inductive abj(R:It->Hp->Prop)(vs:Da V)(H1:Hp):Prop
 |mk(j:Int)(_:vs=[.int j])(_:-(2 ^ 62)<=j)(_:j<2 ^ 62)(_:R (LR 0 j.toNat) H1)
def aeK(ta:TA):TI:=λσ H R=>ta σ H (abj R)
def Ll(g:TG)(tb:TS)(D:Ends)(σ:St):It->Hp->Prop:=λJ H1=>∃W:Nat->Nat->St->Hp->Prop,(∃m,W 0 m σ H1)/\∀i m σ H,W i m σ H->(J.stop i H/\D.nx σ H)\/(J.go i H/\∃N:St->Hp->Prop,(∀σ' H',N σ' H'->∃m',m'<m/\W (i+1) m' σ' H')/\∀x H',J.EY i H x H'->g x σ H' (tb (D.lp N)))
def ah7(wi:TI)(g:TG)(tb:TS):TS:=λD σ H=>wi σ H (Ll g tb D σ)
def EZ(fp:Da Addr)(h:Heap):Da (Addr×Obj):=fp.filterMap λb=>(h.get? b).map λo=>(b,o)
def j9{b:Addr}{o:Obj}(hb:b∈fp)(e:h.get? b=some o):(b,o)∈EZ fp h:=List.mem_filterMap.mpr (b,hb,by rw[e];rfl)
def TY{p:Addr×Obj}(hp:p∈EZ fp h):p.1∈fp/\h.get? p.1=some p.2:=by
 obtain⟨b,hb,e⟩:=List.mem_filterMap.mp hp;cases q:h.get? b with
 | none=>rw[q]at e;cases e
 | some o=>rw[q]at e;have e':(b,o)=p:=gU e;subst e';exact(hb,q)
def Inv.pinned(I:Inv X AC σ H s)(hf:∀b∈fp,qY X AC H b)(ho:∀b∈fp,∃o,s.heap.get? b=some o/\∀v,o.data ≠ .cell v):Inv X (AC++EZ fp s.heap) σ H s:=I.QE λp hp=>(dN.mp hp).elim (λz=>I.pin p (kK _ z)) λz=>by obtain⟨hb,e⟩:=TY z;obtain⟨f0,f1,f2,_⟩:=hf p.1 hb;obtain⟨o,e',d⟩:=ho p.1 hb;rw[e]at e';cases e';exact(e,f0,f1,f2,d)
def Inv.sY{pl:AO}(I:Inv X (AC++pl) σ H s):Inv X AC σ H s:=I.QE λp hp=>I.pin p (kK _ (DQ _ hp))
end
variable {tb:TS}
theorem lQ{g:TG}(Pv:Nat->St->Hp->Prop)(h0:Pv 0 σ H)(hl:∀i σ H,i<=xs.length->Pv i σ H->aC K H a xs)(hs:∀i x σ H,xs[i]?=some x->Pv i σ H->g x σ H (tb (D.lp (Pv (i+1)))))(hd:∀σ H,Pv xs.length σ H->D.nx σ H):
  Ll g tb D σ (wC K a) H:=by
 refine(λi m σ H=>m=xs.length-i/\i<=xs.length/\Pv i σ H,(xs.length,by simp,gE _,h0),?_)
 rintro i m σ H ⟨rfl,hi,p⟩
 have q:=hl i σ H hi p
 by_cases va:i<xs.length
 . refine .inr ((xs,xs[i],q,by simp[va]),Pv (i+1),λσ' H' p'=>(xs.length-(i+1),by omega,Z,va,p'),λx H' y=>?_)
   obtain⟨e,y⟩:=y
   subst e
   exact hs i x σ _ (y xs q) p
 . have e:i=xs.length:=by omega
   subst e
   exact .inl ((xs,q,aO _),hd σ H p)
theorem iJ{lo:Int}{g:TG}(Pv:Nat->St->Hp->Prop)(h0:Pv 0 σ H)(hs:∀i σ H,i<n->Pv i σ H->g (.int (lo+i)) σ H (tb (D.lp (Pv (i+1)))))(hd:∀σ H,Pv n σ H->D.nx σ H):
  Ll g tb D σ (LR lo n) H:=by
 refine(λi m σ H=>m=n-i/\i<=n/\Pv i σ H,(n,by simp,gE _,h0),?_)
 rintro i m σ H ⟨rfl,hi,p⟩
 by_cases va:i<n
 . refine .inr (va,Pv (i+1),λσ' H' p'=>(n-(i+1),by omega,Z,va,p'),λx H' y=>?_)
   obtain⟨e,y⟩:=y
   subst e y
   exact hs i σ _ va p
 . have e:i=n:=by omega
   subst e
   exact .inl (aO _,hd σ H p)
abbrev R2:=V->V->Hp->VK->Prop
def jU(X:Cx)(f:Value->Value->Sem Value)(r:R2):Prop:=∀(AC:AO)(s:Shared)(σ:St)(H:Hp)(x y:V)(v u:Value)(Q:VK),Inv X AC σ H s->RelV x v->RelV y u->r x y H Q->wpAny (model X.prog X.w) X.A (f v u) (EP X AC σ Q) X.xe s
def UnR(X:Cx)(f:Value->Sem Value)(r:V->Hp->VK->Prop):Prop:=∀(AC:AO)(s:Shared)(σ:St)(H:Hp)(x:V)(v:Value)(Q:VK),Inv X AC σ H s->RelV x v->r x H Q->wpAny (model X.prog X.w) X.A (f v) (EP X AC σ Q) X.xe s
def iL(X:Cx)(f:Value)(r:Da V->Hp->VK->Prop):Prop:=∀(AC:AO)(s:Shared)(σ:St)(H:Hp)(xs:Da V)(us:Da Value)(Q:VK),Inv X AC σ H s->Vals xs us->r xs H Q->wpAny (model X.prog X.w) X.A (call f us) (EP X AC σ Q) X.xe s
def abl(r:R2)(Q:VK)(x:V):V->Hp->Prop:=λy H2=>r x y H2 Q
def ah8(r:R2)(tb:TE)(σ:St)(Q:VK):V->Hp->Prop:=λx H1=>tb σ H1 (abl r Q x)
def AI(r:R2)(ta tb:TE):TE:=λσ H Q=>ta σ H (ah8 r tb σ Q)
def ah9(r:V->Hp->VK->Prop)(Q:VK):V->Hp->Prop:=λx H1=>r x H1 Q
def tUn(r:V->Hp->VK->Prop)(ta:TE):TE:=λσ H Q=>ta σ H (ah9 r Q)
inductive rI(C:Int->Int->Prop)(g:Int->Int->V)(x:V)(y:V)(H:Hp)(Q:VK):Prop
 |mk(i j:_)(_:x =.int i)(_:y =.int j)(_:C i j)(_:Q (g i j:_) H)
inductive Bk(g:Int->Int->V)(x:V)(y:V)(H:Hp)(Q:VK):Prop
 |mk(i j:_)(_:x =.int i)(_:y =.int j)(_:Q (g i j:_) H)
inductive rU(g:Int->V)(x:V)(H:Hp)(Q:VK):Prop
 |mk(i:_)(_:x =.int i)(_:Q (g i:_) H)
section
variable {X:Cx}{a b c:Expr}{ta tb tc:TE}{pos:Pos}
def Wx(ha:PE X a ta)(hb:PE X b tb){R:V->V->Hp->Prop}(I:Inv X AC σ H s)(h:ta σ H λx H1=>tb σ H1 λy H2=>R x y H2){Q:VS}{f:Value->Value->Sem Value}(hf:∀v u s2 x y H2,Inv X AC σ H2 s2->RelV x v->RelV y u->R x y H2->wpAny (model X.prog X.w) X.A (f v u) Q X.xe s2):
  wpAny (model X.prog X.w) X.A (eval a X.env) (λv s₁=>wpAny (model X.prog X.w) X.A (eval b X.env) (λu s₂=>wpAny (model X.prog X.w) X.A (f v u) Q X.xe s₂) X.xe s₁) X.xe s:=by
 refine bH (ha AC s σ H _ I h) λv s1 (x,H1,I1,r1,q1)=>?_
 refine bH (hb AC s1 σ H1 _ I1 q1) λu s2 (y,H2,I2,r2,q2)=>?_
 exact hf v u s2 x y H2 I2 r1 r2 q2
def TZ{f:Value->Value->Sem Value}{C:Int->Int->Prop}{g:Int->Int->Int}(rule:∀(i j:Int) (t u:Tok) (s:Shared) (Q:VS) (E:VS),C i j->Q (.int (g i j) s.toks) { s with toks:=s.toks+1 }->wpAny (model X.prog X.w) X.A (f (.int i t) (.int j u)) Q E s):
  jU X f (rI C λi j=> .int (g i j)):=by
 intro AC s σ H x y v u Q I rx ry h
 obtain⟨i,j,rfl,rfl,hc,q⟩:=h
 obtain⟨t,rfl⟩:=rx
 obtain⟨t',rfl⟩:=ry
 exact rule i j t t' s _ _ hc (.int (g i j),H,I.tok _,(_,Z),q)
def abm{f:Value->Value->Sem Value}{g:Int->Int->Int}(rule:∀(i j:Int) (t u:Tok) (s:Shared) (Q:VS) (E:VS),Q (.int (g i j) s.toks) { s with toks:=s.toks+1 }->wpAny (model X.prog X.w) X.A (f (.int i t) (.int j u)) Q E s):
  jU X f (Bk λi j=> .int (g i j)):=by
 intro AC s σ H x y v u Q I rx ry h
 obtain⟨i,j,rfl,rfl,q⟩:=h
 obtain⟨t,rfl⟩:=rx
 obtain⟨t',rfl⟩:=ry
 exact rule i j t t' s _ _ (.int (g i j),H,I.tok _,(_,Z),q)
def Sg{f:Value->Value->Sem Value}{g:Int->Int->Bool}(rule:∀(i j:Int) (t u:Tok) (s:Shared) (Q:VS) (E:VS),Q (.bool (g i j)) s->wpAny (model X.prog X.w) X.A (f (.int i t) (.int j u)) Q E s):
  jU X f (Bk λi j=> .bl (g i j)):=by
 intro AC s σ H x y v u Q I rx ry h
 obtain⟨i,j,rfl,rfl,q⟩:=h
 obtain⟨t,rfl⟩:=rx
 obtain⟨t',rfl⟩:=ry
 exact rule i j t t' s _ _ (.bl (g i j),H,I,Z,q)
def Wy(i j:Int):Prop:=0<=j/\j<=1000000/\i.natAbs<2 ^ 64
def LS(i j:Int):Prop:=(-(2 ^ 64)<i/\i<2 ^ 64)\/(-(2 ^ 64)<j/\j<2 ^ 64)
def LS.ok{i j:Int}(h:LS i j):IntMulOk i j:=by
 rcases h with⟨h1,h2⟩|⟨h1,h2⟩
 .exact .of_left (intBits_le_64 h1 h2)
 .exact .of_right (intBits_le_64 h1 h2)
def cV:jU X (binaryOp .Add) (Bk λi j=> .int (i+j)):=abm λ_ _ _ _ _ _ _ q=>add_int q
def j_:jU X (binaryOp .Sub) (Bk λi j=> .int (i-j)):=abm λ_ _ _ _ _ _ _ q=>sub_int q
def kg:jU X (binaryOp .Mult) (rI LS λi j=> .int (i*j)):=TZ λ_ _ _ _ _ _ _ hc q=>mul_int q hc.ok
theorem lq:jU X (binaryOp .Mod) (rI (λ_ j=>0<j) λi j=> .int (i % j)):=TZ λi j _ _ _ _ _ hc q=>by have h1:(0:Int)<j:=hc;exact mod_int' (by omega) (by rw[Int.fmod_eq_emod_of_nonneg i (by omega)];exact q)
def qZ:jU X (binaryOp .Pow) (rI Wy λi j=> .int (i ^ j.toNat)):=TZ λ_ _ _ _ _ _ _ hc q=>pow_int_small hc.1 hc.2.1 hc.2.2 q
def unI{f:Value->Sem Value}{g:Int->Int}(rule:∀(i:Int) (t:Tok) (s:Shared) (Q:VS) (E:VS),Q (.int (g i) s.toks) { s with toks:=s.toks+1 }->wpAny (model X.prog X.w) X.A (f (.int i t)) Q E s):
  UnR X f (rU λi=> .int (g i)):=by
 intro AC s σ H x v Q I rx h
 obtain⟨i,rfl,q⟩:=h
 obtain⟨t,rfl⟩:=rx
 exact rule i t s _ _ (.int (g i),H,I.tok _,(_,Z),q)
def LU:UnR X (unaryOp .USub) (rU λi=> .int (-i)):=unI λ_ _ _ _ _ q=>neg_int q
end
noncomputable def abn:V->V->Bool
 | .cK,.cK=>true | .cK,.int _=>true | .int _,.cK=>true | .cK,.bl _=>true | .bl _,.cK=>true | .cK,.str _=>true | .str _,.cK=>true
 | .int _,.int _=>true | .bl _,.bl _=>true | .str _,.str _=>true | .AG _,.AG _=>true
 | .int _,.str _=>true | .str _,.int _=>true | .bl _,.str _=>true | .str _,.bl _=>true
 | _,_=>false
inductive rEq(x:V)(y:V)(H:Hp)(Q:VK):Prop
 |mk(_:abn x y=true)(_:Q (.bl (decide (x=y))) H)
inductive rNe(x:V)(y:V)(H:Hp)(Q:VK):Prop
 |mk(_:abn x y=true)(_:Q (.bl (!decide (x=y))) H)
def QF{i j:Int}:decide (V.int i=V.int j)=(i==j):=by rw[Cz];simp
def T3{i j:Bool}:decide (V.bl i=V.bl j)=(i==j):=by rw[Cz];simp
def QG{i j:Str}:decide (V.str i=V.str j)=(i==j):=by rw[Cz];simp
def QH{i j:Array UInt8}:decide (V.AG i=V.AG j)=(i.toList==j.toList):=by rw[Cz];cases i;cases j;simp
variable {Q:VK}{op:CmpOp}
section
variable {X:Cx}{a b c:Expr}{ta tb tc:TE}{pos:Pos}
def dF{k k':Bool}(I:Inv X AC σ H s)(q:Q (.bl k) H)(e:k=k'):EP X AC σ Q (.bool k') s:=by subst e;exact(.bl k,H,I,Z,q)
def dZ:jU X (compareOp .Eq) rEq:=by
 intro AC s σ H x y v u Q I rx ry h;obtain⟨hs,q⟩:=h;cases x with
 | cK=>
  cases rx;cases y with
  | cK=>cases ry;exact PySem.EqNone.eq_none_none (dF I q (by simp))
  | bl j=>cases ry;exact PySem.EqNone.eq_none_bool (dF I q (by simp))
  | int j=>obtain⟨t',rfl⟩:=ry;exact PySem.EqNone.eq_none_int (dF I q (by simp))
  | str j=>obtain⟨t',rfl⟩:=ry;exact PySem.EqNone.eq_none_str (dF I q (by simp))
  | _=>exact absurd (show false=true from hs) gZ
 | bl i=>
  cases rx;cases y with
  | cK=>cases ry;exact PySem.EqNone.eq_bool_none (dF I q (by simp))
  | bl j=>cases ry;exact eq_bool (dF I q T3)
  | str j=>obtain⟨t',rfl⟩:=ry;exact PySem.EqMixed.eq_bool_str (dF I q (by simp))
  | _=>exact absurd (show false=true from hs) gZ
 | int i=>
  obtain⟨t,rfl⟩:=rx;cases y with
  | cK=>cases ry;exact PySem.EqNone.eq_int_none (dF I q (by simp))
  | int j=>obtain⟨t',rfl⟩:=ry;exact eq_int (dF I q QF)
  | str j=>obtain⟨t',rfl⟩:=ry;exact PySem.EqMixed.eq_int_str (dF I q (by simp))
  | _=>exact absurd (show false=true from hs) gZ
 | str i=>
  obtain⟨t,rfl⟩:=rx;cases y with
  | cK=>cases ry;exact PySem.EqNone.eq_str_none (dF I q (by simp))
  | bl j=>cases ry;exact PySem.EqMixed.eq_str_bool (dF I q (by simp))
  | int j=>obtain⟨t',rfl⟩:=ry;exact PySem.EqMixed.eq_str_int (dF I q (by simp))
  | str j=>obtain⟨t',rfl⟩:=ry;exact eq_str (dF I q QG)
  | _=>exact absurd (show false=true from hs) gZ
 | AG i=>
  obtain⟨t,rfl⟩:=rx;cases y with
  | AG j=>obtain⟨t',rfl⟩:=ry;exact PySem.W.eq_bytes (dF I q QH)
  | _=>exact absurd (show false=true from hs) gZ
 | _=>cases y <;> exact absurd (show false=true from hs) gZ
def uc:jU X (compareOp .NotEq) rNe:=by
 intro AC s σ H x y v u Q I rx ry h;obtain⟨hs,q⟩:=h;cases x with
 | cK=>
  cases rx;cases y with
  | cK=>cases ry;exact PySem.EqNone.ne_none_none (dF I q (by simp))
  | bl j=>cases ry;exact PySem.EqNone.ne_none_bool (dF I q (by simp))
  | int j=>obtain⟨t',rfl⟩:=ry;exact PySem.EqNone.ne_none_int (dF I q (by simp))
  | str j=>obtain⟨t',rfl⟩:=ry;exact PySem.EqNone.ne_none_str (dF I q (by simp))
  | _=>exact absurd (show false=true from hs) gZ
 | bl i=>
  cases rx;cases y with
  | cK=>cases ry;exact PySem.EqNone.ne_bool_none (dF I q (by simp))
  | bl j=>cases ry;exact ne_bool (dF I q (i8 not T3))
  | str j=>obtain⟨t',rfl⟩:=ry;exact PySem.EqMixed.ne_bool_str (dF I q (by simp))
  | _=>exact absurd (show false=true from hs) gZ
 | int i=>
  obtain⟨t,rfl⟩:=rx;cases y with
  | cK=>cases ry;exact PySem.EqNone.ne_int_none (dF I q (by simp))
  | int j=>obtain⟨t',rfl⟩:=ry;exact ne_int (dF I q (i8 not QF))
  | str j=>obtain⟨t',rfl⟩:=ry;exact PySem.EqMixed.ne_int_str (dF I q (by simp))
  | _=>exact absurd (show false=true from hs) gZ
 | str i=>
  obtain⟨t,rfl⟩:=rx;cases y with
  | cK=>cases ry;exact PySem.EqNone.ne_str_none (dF I q (by simp))
  | bl j=>cases ry;exact PySem.EqMixed.ne_str_bool (dF I q (by simp))
  | int j=>obtain⟨t',rfl⟩:=ry;exact PySem.EqMixed.ne_str_int (dF I q (by simp))
  | str j=>obtain⟨t',rfl⟩:=ry;exact ne_str (dF I q (i8 not QG))
  | _=>exact absurd (show false=true from hs) gZ
 | AG i=>
  obtain⟨t,rfl⟩:=rx;cases y with
  | AG j=>obtain⟨t',rfl⟩:=ry;exact PySem.W.ne_bytes (dF I q (i8 not QH))
  | _=>exact absurd (show false=true from hs) gZ
 | _=>cases y <;> exact absurd (show false=true from hs) gZ
def ud:jU X (compareOp .Lt) (Bk λi j=> .bl (decide (i<j))):=Sg λ_ _ _ _ _ _ _ q=>lt_int q
def Yr:jU X (compareOp .LtE) (Bk λi j=> .bl (decide (i<=j))):=Sg λ_ _ _ _ _ _ _ q=>le_int q
def jS:jU X (compareOp .Gt) (Bk λi j=> .bl (decide (j<i))):=Sg λ_ _ _ _ _ _ _ q=>gt_int q
def Lm:jU X (compareOp .GtE) (Bk λi j=> .bl (decide (j<=i))):=Sg λ_ _ _ _ _ _ _ q=>ge_int q
def T4:jU X (compareOp .In) (λx y H Q=>∃i j,x =.str i/\y =.str j/\Q (.bl (!(Builtin.Str.occurrences j i 0 j.length 1).isEmpty)) H):=by intro AC s σ H x y v u Q I rx ry h;obtain⟨i,j,rfl,rfl,q⟩:=h;obtain⟨t,rfl⟩:=rx;obtain⟨t',rfl⟩:=ry;exact in_str (dF I q rfl)
def aZ(b:Expr)(h:op ≠ .In:=by decide)(h2:op ≠ .NotIn:=by decide):behindInMarks op b=false:=by
 have e1:(op==CmpOp.In)=false:=by cases op <;> first|rfl|exact absurd rfl h
 have e2:(op==CmpOp.NotIn)=false:=by cases op <;> first|rfl|exact absurd rfl h2
 cases b <;> simp[behindInMarks,e1,e2]
inductive T5(Q:Bool->Hp->Prop)(x:V)(H':Hp):Prop
 |mk(k:_)(_:x =.bl k)(_:Q k H')
def CJ(t:TE):TT:=λσ H Q=>t σ H (T5 Q)
inductive T6(r':R2)(tc:TE)(σ:St)(Q:VK)(y:V)(z:V)(H3:Hp):Prop
 |mk(k:_)(_:z =.bl k)(_:(if k=true then tc σ H3 λw' H4=>r' y w' H4 Q else Q (.bl false) H3))
def T7(r:R2)(r':R2)(tc:TE)(σ:St)(Q:VK)(x:V):V->Hp->Prop:=λy H2=>r x y H2 (T6 r' tc σ Q y)
def Zo(r:R2)(r':R2)(tb:TE)(tc:TE)(σ:St)(Q:VK):V->Hp->Prop:=λx H1=>tb σ H1 (T7 r r' tc σ Q x)
def abp(r r':R2)(ta tb tc:TE):TE:=λσ H Q=>ta σ H (Zo r r' tb tc σ Q)
def wD:(sizeLine:Nat)<2 ^ 63:=by rw[mY];decide
def Sh:jU X (binaryOp .Add) (λx y H Q=>∃i j,x =.str i/\y =.str j/\i.length+j.length<=sizeLine/\Q (.str (i++j)) H):=by intro AC s σ H x y v u Q I rx ry h;obtain⟨i,j,rfl,rfl,hz,q⟩:=h;obtain⟨t,rfl⟩:=rx;obtain⟨t',rfl⟩:=ry;exact add_str (λt' tk=>(.str (i++j),H,I.tok _,(_,Z),q)) hz
def vals1{x:V}(r:Vals [x] us):∃u,us=[u]/\RelV x u:=by
 cases r with
 | cons r1 r2=>cases r2;exact(_,Z,r1)
def vals2{x:V}(r:Vals [x,y] us):∃u w',us=[u,w']/\RelV x u/\RelV y w':=by
 cases r with
 | cons r1 r2=>
  cases r2 with
  | cons r3 r4=>cases r4;exact(_,_,Z,r1,r3)
def Wz:iL X (.builtin "abs") (λxs H Q=>∃i,xs=[.int i]/\Q (.int (if i<0 then -i else i)) H):=by intro AC s σ H xs us Q I r h;obtain⟨i,rfl,q⟩:=h;obtain⟨u,rfl,t,rfl⟩:=vals1 r;exact call_abs_int λu tk=>(.int (if i<0 then -i else i),H,I.tok _,(_,Z),q)
def yd(hc:X.calm=true):iL X (.builtin "min") (λxs H Q=>∃i j,xs=[.int i,.int j]/\Q (.int (if j<i then j else i)) H):=by
 intro AC s σ H xs us Q I r h;obtain⟨i,j,rfl,q⟩:=h;obtain⟨u,w',rfl,⟨t,rfl⟩,⟨t',rfl⟩⟩:=vals2 r;refine min_two_ints (I.ok.hd hc) λh' tk k=>(_,H,I.kept k,?_,q)
 by_cases hj:j<i
 .rw [ay hj,ay hj];exact(_,Z)
 .rw [av hj,av hj];exact(_,Z)
def T8:iL X (.type "int") (λxs H Q=>(∃i,xs=[.int i]/\Q (.int i) H)\/∃k,xs=[.bl k]/\Q (.int (if k then 1 else 0)) H):=by
 intro AC s σ H xs us Q I r h;rcases h with⟨i,rfl,q⟩|⟨k,rfl,q⟩
 .obtain ⟨u,rfl,t,rfl⟩:=vals1 r;exact call_int_int (.int i,H,I,(_,Z),q)
 .obtain ⟨u,rfl,r1⟩:=vals1 r;cases r1;exact call_int_bool (.int (if k then 1 else 0),H,I.tok _,(_,Z),q)
end
structure DV(h:Heap)(x dx C:Addr)(mA:SO):Prop where
 obj:h.get? x=some (PySem.W.instObj C dx)
 ns:h.Ns1 dx mA
 ne:dx≠x
def T9{mA:SO}(n:h.Ns1 dx mA):∃od,h.get? dx=some od/\∀name,PySem.W.lookIn name od=some (mA name):=by
 obtain⟨o,es,ep,ho,hd,hk,_,hm⟩:=n;refine(o,ho,λname=>?_);have e:=hm name;unfold nsFind findBy at e;rw[<-Array.find?_toList]at e;unfold PySem.W.lookIn;rw[hd];dsimp only;split
 .rename_i y q;rw[q]at e;exact i8 some e
 .rename_i q;rw[q]at e;have a:es.toList.any (·.refKey)=false:=by rw[List.any_eq_false];intro y hy;obtain⟨z,t,hkey⟩:=hk y (Array.mem_toList_iff.mp hy);simp[DictEntry.refKey,hkey]
  have a':¬ es.toList.any (·.refKey)=true:=a▸gZ;rw[av a'];exact i8 some e
variable {C:Addr}
def DV.look{x dx:Addr}{mA:SO}(I:DV h x dx C mA):∃od,PySem.W.InstAt h x (PySem.W.instObj C dx) C (some od)/\∀name,PySem.W.lookIn name od=some (mA name):=
 let(od,ho,hl):=T9 I.ns
 (od,(I.obj,Z,Z,ho),hl)
variable {R:Result->Shared->Prop}{kw:Da (Str×Value)}
section
variable {prog:Program}{w:World}{A:Around}{E:VS}{s:Shared}{K:Fg}{x dx C f:Addr}{mA:SO}{name:Str}{v:Value}
def get_map{expr:Bool}{Q:VS}(X:K.In s.heap)(I:DV s.heap x dx C mA)(hg:PySem.W.plainGet K C name=true)(hh:PySem.W.hasDictIn K C=true)(ha:PySem.W.findIn K (.ref C) name=some none)(hv:mA name=some v)(hv':PySem.W.handedIn v=true)(h:Q v { s with toks:=s.toks+1 }):
  wpAny (model prog w) A (getAttr (.ref x) name expr) Q E s:=by
 obtain⟨od,J,hl⟩:=I.look
 exact PySem.W.get_value X J (PySem.W.plainGet_of hg).1 (PySem.W.findObj_own hh ha rfl (by rw[hl,hv])) hv' h
def WA{pl:Sem Bool}{Q:Value×Da Value->Shared->Prop}(X:K.In s.heap)(I:DV s.heap x dx C mA)(hg:PySem.W.plainGet K C name=true)(hf:PySem.W.findIn K (.ref C) name=some (some (.ref f)))(ht:PySem.W.isFn K (.ref f)=true)(hv:mA name=none)(h:Q (.ref f,[.ref x]) s):
  wpAny (model prog w) A (getMethod (.ref x) name pl) Q E s:=by
 obtain⟨od,J,hl⟩:=I.look
 exact PySem.W.method_fn X J (PySem.W.plainGet_of hg).1 (PySem.W.plainGet_of hg).2 hf (vM.mp ht) (by show(PySem.W.lookIn name od).map (·.isSome)=some false;rw[hl,hv];rfl) h
theorem Zp{ns:Da Str}{Q:Unit->Shared->Prop}(X:K.In s.heap)(I:DV s.heap x dx C mA)(hs:PySem.W.findIn K (.ref C) "__setattr__"=some (some (.builtin "object.__setattr__")))(hp:PySem.W.plainOver K C=true)(ht:PySem.W.takerIn K C name=some none)(hh:PySem.W.hasDictIn K C=true)(hw:PySem.Within mA ns)(hsz:ns.length<=sizeLine)(h:∀h',DV h' x dx C (λy=>if y=name then some v else mA y)->Heap.SameBut dx s.heap h'->Q () { s with heap:=h',toks:=s.toks+2 }):
  wpAny (model prog w) A (setAttr (.ref x) name v) Q E s:=by
 obtain⟨od,J,hl⟩:=I.look
 refine PySem.W.set_plain X J hs (PySem.W.osa_open (s:={ s with toks:=s.toks+1 }) (r:=none) X J hp ht λb=>?_)
 obtain⟨cd,hc,hd'⟩:=PySem.W.any_some hh
 have hx:s.heap.get? x=some (.ref C,some dx,.plain,#[]):=I.obj
 refine az (bh (az (az (wpAny_loadPart hx (az (PySem.W.Looks.here (s:={ s with toks:=s.toks+1 }) (PySem.W.looks_clsIn X hc) ?_))))))
 rw[hd']
 refine bh (a:=some dx) (az (bh (az ?_)))
 refine wpAny_nsSet1 (s:={ s with toks:=s.toks+1 }) I.ns λh' hn2 hs2=>?_
 obtain⟨oD,esD,epD,hoD,hdD,hcD⟩:=hn2.count (PySem.Within.cons name v hw)
 refine az (wpAny_lookBehind hoD (by rw[hdD];exact pastItsLine_dict (fG hcD (by rw[ig];omega))) ?_)
 exact bh (h _ ((hs2.2 _ (cC I.ne)).trans I.obj,hn2,I.ne) hs2)
def WB{vs:Da Value}(X:K.In s.heap)(hm:PySem.W.makesIn K C=true)(hi:PySem.W.findIn K (.ref C) "__init__"=some (some (.ref f)))(hf:PySem.W.typeIn K (.ref f)=some (.type "function"))(h:codeAny (model prog w) (A.under (.builtin "type.__call__" (.ref C::vs,kw))) (.call (.ref f) (.ref (s.heap.objs.size+1)::vs,kw)) (PySem.W.InitBack (s.heap.objs.size+1) R)
    { s with heap:=(s.heap.push PySem.W.emptyDict).push (PySem.W.instObj C s.heap.objs.size) }):
  codeAny (model prog w) A (.call (.ref C) (vs,kw)) R s:=by
 obtain⟨hh,g,d,t,os⟩:=s
 exact PySem.W.make_core (PySem.W.makes_of X hm) (PySem.W.looks_findIn X hi) (λself=>PySem.W.bind_fn X self hf) (.inl rfl) h
end
noncomputable def iK(f:Str)(v:V):Da (Str×V)->Da (Str×V)
 | []=>[(f,v)]
 | (g,x)::r=>if g=f then(g,v)::r else(g,x)::iK f v r
theorem Du(f g:Str)(v:V):∀fs:Da (Str×V),(iK f v fs).lookup g=if g=f then some v else fs.lookup g
 | []=>by
  show List.lookup g [(f,v)]=_;by_cases h:g=f
  .have hb:(g==f)=true:=vM.mpr h;simp only[List.lookup,hb,ay h]
  .have hb:(g==f)=false:=G_.mpr h;simp only[List.lookup,hb,av h]
 | (k,x)::r=>by
  have ih:=Du f g v r;rw[show iK f v ((k,x)::r)=(if k=f then(k,v)::r else(k,x)::iK f v r)from rfl];by_cases hk:k=f
  .rw [ay hk];by_cases h:g=k
   .have hb:(g==k)=true:=vM.mpr h;simp only[List.lookup,hb,ay (h.trans hk)]
   .have hb:(g==k)=false:=G_.mpr h;simp only[List.lookup,hb,av (λe:g=f=>h (e.trans hk.symm))]
  .rw [av hk];by_cases h:g=k
   .have hb:(g==k)=true:=vM.mpr h;simp only[List.lookup,hb,av (λe:g=f=>hk (h.symm.trans e))]
   .have hb:(g==k)=false:=G_.mpr h;simp only[List.lookup,hb];exact ih
theorem Bl(f:Str)(v:V):∀fs:Da (Str×V),f∈(iK f v fs).map (·.1)/\∀g,g∈fs.map (·.1)->g∈(iK f v fs).map (·.1)
 | []=>(by simp[iK],λg h=>by simp at h)
 | (k,x)::r=>by
  obtain⟨i1,i2⟩:=Bl f v r;rw[show iK f v ((k,x)::r)=(if k=f then(k,v)::r else(k,x)::iK f v r)from rfl];by_cases hk:k=f
  .rw [ay hk];subst hk;exact(by simp,λg h=>by simpa using h)
  .rw [av hk];refine(?_,λg h=>?_)
   .rw [bK];exact cR _ i1
   .rw [bK]at h ⊢;rcases dW.mp h with e|e
    .exact dW.mpr (.inl e)
    .exact cR _ (i2 g e)
theorem Dv(f:Str)(v:V):∀fs:Da (Str×V),(iK f v fs).length<=fs.length+1
 | []=>by simp[iK]
 | (k,x)::r=>by
  have ih:=Dv f v r;rw[show iK f v ((k,x)::r)=(if k=f then(k,v)::r else(k,x)::iK f v r)from rfl];by_cases hk:k=f
  .rw [ay hk,ig,ig];omega
  .rw [av hk,ig,ig];omega
def oR.some_of{v:V}{o:Option Value}(r:oR (some v) o):∃u,o=some u/\RelV v u:=by
 cases o with
 | none=>exact(show False from r).elim
 | some u=>exact(u,Z,r)
def oR.none_of{o:Option Value}(r:oR none o):o=none:=by
 cases o with
 | none=>rfl
 | some u=>exact(show False from r).elim
def T_{v:V}(r:RelV v u):PySem.W.handedIn u=true:=by
 cases v with
 | cK=>cases(show u=Value.none from r);rfl
 | bl b=>cases(show u=Value.bool b from r);rfl
 | int i=>obtain⟨t,e⟩:=(show ∃t,u=Value.int i t from r);cases e;rfl
 | str x=>obtain⟨t,e⟩:=(show ∃t,u=Value.str x t from r);cases e;rfl
 | AG b=>obtain⟨t,e⟩:=(show ∃t,u=Value.bytes b t from r);cases e;rfl
 | LI b=>obtain⟨t,e⟩:=(show ∃t,u=Value.float b t from r);cases e;rfl
 | ref a=>cases(show u=Value.ref a from r);rfl
 | ty n=>cases(show u=Value.type n from r);rfl
section
variable {P:Program}{w:World}{H H':Hp}{h h':Heap}{a C dx:Addr}{fs fs':Da (Str×V)}
def CK(hok:jF P w H h)(e:H a=some (.ins C dx fs)):∃mA,DV h a dx C mA/\(∀f,oR (fs.lookup f) (mA f))/\PySem.Within mA (fs.map (·.1))/\fs.length<=1000/\H dx=some (.own a):=by
 obtain⟨d,z,ne,ob,mA,n,r,q⟩:=(show e_ P w H h a (.ins C dx fs)from hok a _ e)
 exact(mA,(ob,n,ne),r,q,z,d)
end
structure q_(K:Fg)(C:Addr):Prop where
 pg:PySem.W.plainGet K C Str.empty=true
 hd:PySem.W.hasDictIn K C=true
 po:PySem.W.plainOver K C=true
 sa:PySem.W.findIn K (.ref C) "__setattr__"=some (some (.builtin "object.__setattr__"))
def q_.get(c:q_ K C)(f:Str):PySem.W.plainGet K C f=true:=c.pg
def fY(K:Fg)(C:Addr)(f:Str):Prop:=PySem.W.findIn K (.ref C) f=some none
def fY.taker{f:Str}(n:fY K C f):PySem.W.takerIn K C f=some none:=by unfold PySem.W.takerIn;rw[show PySem.W.findIn K (.ref C) f=some none from n];rfl
structure Meth(K:Fg)(C:Addr)(m:Str)(f:Addr):Prop where
 at_:PySem.W.findIn K (.ref C) m=some (some (.ref f))
 fn:PySem.W.isFn K (.ref f)=true
 kp:PySem.W.keepIn K (.ref f)=true
variable {env:Env}
section
variable {X:Cx}{AC:AO}{σ:St}{H:Hp}{s:Shared}{a C dx:Addr}{fs:Da (Str×V)}{f:Str}{v:V}{A:Around}{E:VS}
def E1{b:Bool}{Q:VS}(I:Inv X AC σ H s)(e:H a=some (.ins C dx fs))(c:q_ X.K C)(n:fY X.K C f)(l:fs.lookup f=some v)(h:∀u s',Inv X AC σ H s'->RelV v u->Q u s'):wpAny (model X.prog X.w) A (getAttr (.ref a) f b) Q E s:=by
 obtain⟨mA,O,r,_,_,_⟩:=CK I.hok e
 obtain⟨u,hu,ru⟩:=oR.some_of (v:=v) (o:=mA f) (l▸r f)
 exact get_map I.lK O (c.get f) c.hd n hu (T_ ru) (h u _ (I.tok _) ru)
def E2{m:Str}{g:Addr}{pl:Sem Bool}{Q:Value×Da Value->Shared->Prop}(I:Inv X AC σ H s)(e:H a=some (.ins C dx fs))(c:q_ X.K C)(k:Meth X.K C m g)(l:fs.lookup m=none)(h:Q (.ref g,[.ref a]) s):wpAny (model X.prog X.w) A (getMethod (.ref a) m pl) Q E s:=by
 obtain⟨mA,O,r,_,_,_⟩:=CK I.hok e
 have hn:mA m=none:=oR.none_of (l▸r m)
 exact WA I.lK O (c.get m) k.at_ k.fn hn h
theorem E3{Q:Unit->Shared->Prop}(I:Inv X AC σ H s)(e:H a=some (.ins C dx fs))(c:q_ X.K C)(n:fY X.K C f)(hl:fs.length<1000)(ry:RelV y u)(h:∀s',Inv X AC σ (upd H a (.ins C dx (iK f y fs))) s'->Q () s'):wpAny (model X.prog X.w) A (setAttr (.ref a) f u) Q E s:=by
 obtain⟨mA,O,r,wi,_,ho⟩:=CK I.hok e
 have hz:(fs.map (·.1)).length<=sizeLine:=by rw[aG,mY];omega
 refine Zp I.lK O c.sa c.po n.taker c.hd wi hz λh' O' sb=>h _ ?_
 have hd:∃o,h'.get? dx=some o:=let(o,_,_,e',_):=O'.ns;(o,e')
 refine I.write (x:=a) (e:=dx) (e▸True.intro) (.inr ho) (λb q hb z=>(sb.2 b hb).trans z) hd ?_
 refine(aA O.ne▸ho,?_,O.ne,O'.obj,_,O'.ns,λg=>?_,λg hg=>?_)
 . have:=Dv f y fs;omega
 . show oR ((iK f y fs).lookup g) (if g=f then some u else mA g)
   rw[Du]
   by_cases q:g=f
   . rw[ay q,ay q];exact ry
   . rw[av q,av q];exact r g
 . by_cases q:g=f
   . rw[q];exact(Bl f y fs).1
   . refine(Bl f y fs).2 g (wi g λz=>hg ?_)
     show(if g=f then some u else mA g)=none
     rw[av q];exact z
def Inv.made(I:Inv X AC σ H s):Inv X AC σ (upd (upd H s.heap.objs.size (.own (s.heap.objs.size+1))) (s.heap.objs.size+1) (.ins C s.heap.objs.size []))
  { s with heap:=(s.heap.push PySem.W.emptyDict).push (PySem.W.instObj C s.heap.objs.size) }:=by
 have e1:(s.heap.push PySem.W.emptyDict).get? s.heap.objs.size=some PySem.W.emptyDict:=ff s.heap rfl
 have e2:((s.heap.push PySem.W.emptyDict).push (PySem.W.instObj C s.heap.objs.size)).get? (s.heap.objs.size+1)=some (PySem.W.instObj C s.heap.objs.size):=by
  have:=ff (s.heap.push PySem.W.emptyDict) (o:=PySem.W.instObj C s.heap.objs.size) rfl
  rwa [nU]at this
 have e3:(s.heap.push PySem.W.emptyDict).Ns s.heap.objs.size (λ_=>none):=(PySem.W.emptyDict,#[],_,e1,Z,(λe he=>absurd he (by simp)),λ_=>rfl)
 have I1:=I.laid (a:=s.heap.objs.size) (o:=.own (s.heap.objs.size+1)) (h':=s.heap.push PySem.W.emptyDict) (t':=s.toks) (λb u q=>cN _ q) (aO _) (_,e1)
 refine I1.laid (a:=s.heap.objs.size+1) (o:=.ins C s.heap.objs.size []) (t':=s.toks) (λb u q=>cN _ q) (Nat.le_of_eq (nU _ _)) ?_
 have ne:s.heap.objs.size≠s.heap.objs.size+1:=fq (Nat.lt_succ_self _)
 refine(by rw[aA ne,aq],gE _,ne,e2,λ_=>none,(Heap.Ns1.of_empty e3).at λo q=>cN _ q,λ_=>True.intro,λy hy=>absurd rfl hy)
def Zq{prog:Program}{f:Str}{s:Shared}{Q:VS}(hb:attributeBase e f env (eval e env)=eval e env)(h:wpAny (model prog w) A (eval e env) (λo s₁=>wpAny (model prog w) A (getAttr o f true) Q E s₁) E s):wpAny (model prog w) A (eval (.Attribute e f pos) env) Q E s:=
 Attribute_any_ h (by rw[arm_eval_Attribute,hb])
end
inductive aeL(K:Fg)(f:Str)(Q:VK)(x:V)(H1:Hp):Prop
 |mk(a C dx fs v:_)(_:x =.ref a)(_:H1 a=some (.ins C dx fs))(_:q_ K C)(_:fY K C f)(_:fs.lookup f=some v)(_:Q v H1)
def abq(K:Fg)(ta:TE)(f:Str):TE:=λσ H Q=>ta σ H (aeL K f Q)
inductive Zr(K:Fg)(f:Str)(D:Ends)(σ:St)(y:V)(x:V)(H2:Hp):Prop
 |mk(a C dx fs:_)(_:x =.ref a)(_:H2 a=some (.ins C dx fs))(_:q_ K C)(_:fY K C f)(_:fs.length<1000)(_:D.nx σ (upd H2 a (.ins C dx (iK f y fs))))
def aeM(K:Fg)(ta:TE)(f:Str)(D:Ends)(σ:St):V->Hp->Prop:=λy H1=>ta σ H1 (Zr K f D σ y)
def abr(K:Fg)(ta tv:TE)(f:Str):TS:=λD σ H=>tv σ H (aeM K ta f D σ)
def LV(X:Cx)(op:Operator)(rd:V->V->Hp->VK->Prop):Prop:=∀(AC:AO)(s:Shared)(σ:St)(H:Hp)(x y:V)(u v:Value)(Q:VK),Inv X AC σ H s->RelV x u->RelV y v->rd x y H Q->wpAny (model X.prog X.w) X.A (inplaceOp op u v) (EP X AC σ Q) X.xe s
inductive Si(f:Str)(D:Ends)(σ:St)(a:Addr)(C:Addr)(z:V)(H3:Hp):Prop
 |mk(dx' fs':_)(_:H3 a=some (.ins C dx' fs'))(_:fs'.length<1000)(_:D.nx σ (upd H3 a (.ins C dx' (iK f z fs'))))
def Sj(rd:V->V->Hp->VK->Prop)(f:Str)(D:Ends)(σ:St)(a:Addr)(C:Addr)(v:V):V->Hp->Prop:=λy H2=>rd v y H2 (Si f D σ a C)
inductive WC(K:Fg)(tv:TE)(rd:V->V->Hp->VK->Prop)(f:Str)(D:Ends)(σ:St)(x:V)(H1:Hp):Prop
 |mk(a C dx fs v:_)(_:x =.ref a)(_:H1 a=some (.ins C dx fs))(_:q_ K C)(_:fY K C f)(_:fs.lookup f=some v)(_:tv σ H1 (Sj rd f D σ a C v))
def QI(K:Fg)(ta tv:TE)(rd:V->V->Hp->VK->Prop)(f:Str):TS:=λD σ H=>ta σ H (WC K tv rd f D σ)
variable {rd:V->V->Hp->VK->Prop}
section
variable {X:Cx}{o e value:Expr}{f:Str}{pos pos' tpos:Pos}{ta tv:TE}
def abu(he:PE X e ta)(hb:attributeBase e f X.env (eval e X.env)=eval e X.env):PE X (.Attribute e f pos) (abq X.K ta f):=by intro AC s σ H Q I h;refine Zq hb (bH (he AC s σ H _ I h) λu s1 (x,H1,I1,rx,a,C,dx,fs,v,ex,ea,c,n,l,q)=>?_);subst ex;obtain rfl:u=Value.ref a:=rx;exact E1 I1 ea c n l λu' s2 I2 ru=>(v,H1,I2,ru,q)
def abv(ha:PE X o ta)(hv:PE X value tv)(hs:swapsWith value (some (.Attribute o f pos')) pos.line X.env=pure false):PS X (.Assign [.Attribute o f pos'] value pos) (abr X.K ta tv f):=by intro AC s σ H D I h;refine plainObj_wpAny_Assign_Attribute (bH (hv AC s σ H _ I h) λu s1 (y,H1,I1,ry,q)=>bH (ha AC s1 σ H1 _ I1 q) λov s2 (x,H2,I2,rx,a,C,dx,fs,ex,ea,c,n,l,q2)=>?_) hs;subst ex;obtain rfl:ov=Value.ref a:=rx;exact E3 I2 ea c n l ry λs3 I3=>(σ,_,I3,q2)
def Ua{op:Operator}(ha:PE X o ta)(hv:PE X value tv)(hop:LV X op rd):PS X (.AugAssign (.Attribute o f tpos) op value pos) (QI X.K ta tv rd f):=by intro AC s σ H D I h;refine wpAny_AugAssign_AttributeAny (bH (ha AC s σ H _ I h) λov s1 (x,H1,I1,rx,a,C,dx,fs,v,ex,ea,c,n,l,q)=>?_);subst ex;obtain rfl:ov=Value.ref a:=rx;refine E1 I1 ea c n l λu s2 I2 ru=>bH (hv AC s2 σ H1 _ I2 q) λw3 s3 (y,H2,I3,ry,q3)=>bH (hop AC s3 σ H2 v y u w3 _ I3 ru ry q3) λw4 s4 (z,H3,I4,rz,dx',fs',ea',l',q4)=>?_;exact E3 I4 ea' c n l' rz λs5 I5=>(σ,_,I5,q4)
inductive ah_(x:V)(y:V)(H:Hp)(Q:VK):Prop
 |mk(i j:_)(_:x =.int i)(_:y =.int j)(_:Q (.int (i+j)) H)
inductive aia(x:V)(y:V)(H:Hp)(Q:VK):Prop
 |mk(i j:_)(_:x =.int i)(_:y =.int j)(_:Q (.int (i-j)) H)
def abw:LV X .Add ah_:=by
 rintro AC s σ H x y u v Q I rx ry ⟨i,j,rfl,rfl,q⟩;obtain⟨t,rfl⟩:=(show ∃t,u=Value.int i t from rx)
 obtain⟨t',rfl⟩:=(show ∃t',v=Value.int j t' from ry)
 exact PyProof.Rows.iadd_int (.int (i+j),H,I.tok _,(_,Z),q)
def LW:LV X .Sub aia:=by
 rintro AC s σ H x y u v Q I rx ry ⟨i,j,rfl,rfl,q⟩;obtain⟨t,rfl⟩:=(show ∃t,u=Value.int i t from rx)
 obtain⟨t',rfl⟩:=(show ∃t',v=Value.int j t' from ry)
 exact PyProof.Rows.isub_int (.int (i-j),H,I.tok _,(_,Z),q)
end
section
variable {X:Cx}{AC:AO}{σ:St}{H:Hp}{s:Shared}{A:Around}{E:VS}{Q:VS}{c:Value}{b:Bool}
inductive iA(K:Fg)(H:Hp):V->Value->Prop where
 | cK:iA K H .cK (.type "NoneType")
 | bl (x:Bool):iA K H (.bl x) (.type "bool")
 | int (i:Int):iA K H (.int i) (.type "int")
 | str (x:Str):iA K H (.str x) (.type "str")
 | LI (x:UInt64):iA K H (.LI x) (.type "float")
 | lst {a:Addr} {xs:Da V} (e:H a=some (.lst xs)):iA K H (.ref a) (.type "list")
 | fX {a:Addr} {o:Obj} {xs:Da V} (e:H a=some (.fX o (.lst xs))):iA K H (.ref a) (.type "list")
 | tup {a:Addr} {xs:Da V} (e:H a=some (.tup xs)):iA K H (.ref a) (.type "tuple")
 | dK {a:Addr} {AT:Da (Key×V)} (e:H a=some (.dK AT)):iA K H (.ref a) (.type "dict")
 | dT {a:Addr} {AT:Da (Da Key×V)} (e:H a=some (.dT AT)):iA K H (.ref a) (.type "dict")
 | ins {a C dx:Addr} {fs:Da (Str×V)} (e:H a=some (.ins C dx fs)) (cl:q_ K C) (ha:PySem.W.findIn K (.ref C) "__class__"=some (some (.builtin "object.__class__")))
    (hn:PySem.W.specialIn K (.builtin "object.__class__") "__get__"=some (some (.builtin "getset_descriptor.__get__"))) (htk:PySem.W.takesIn K (.builtin "object.__class__")=some true)
    (hm:PySem.W.mroIn K C (.type "object")=some true):iA K H (.ref a) (.ref C)
def Ub{x:V}{t:Value}(I:Inv X AC σ H s)(rx:RelV x u)(ty:iA X.K H x t)(e:PySem.W.kitOne X.K t c=some b)(h:∀tk,Q (.bool b) { s with toks:=tk }):wpAny (model X.prog X.w) A (call (.builtin "isinstance") [u,c]) Q E s:=by
 cases ty with
 | cK=>cases(show u=Value.none from rx);exact qT PySem.W.kitx_none I.lK True.intro e (λz=>nomatch z) h
 | bl y=>cases(show u=Value.bool y from rx);exact qT PySem.W.kitx_bool I.lK True.intro e (λz=>nomatch z) h
 | int i=>obtain⟨t,q⟩:=(show ∃t,u=Value.int i t from rx);cases q;exact qT PySem.W.kitx_int I.lK True.intro e (λz=>nomatch z) h
 | str y=>obtain⟨t,q⟩:=(show ∃t,u=Value.str y t from rx);cases q;exact qT PySem.W.kitx_str I.lK True.intro e (λz=>nomatch z) h
 | LI y=>obtain⟨t,q⟩:=(show ∃t,u=Value.float y t from rx);cases q;exact qT PySem.W.kitx_float I.lK True.intro e (λz=>nomatch z) h
 | @lst a xs ea=>
  cases(show u=Value.ref a from rx);obtain⟨_,_,n,_,h1⟩:=(show e_ X.prog X.w H s.heap a (.lst xs)from I.hok a _ ea)
  exact qT PySem.W.kitx_list I.lK (_,h1,Z) e (λz=>nomatch z) h
 | @fX a ob xs ea=>
  cases(show u=Value.ref a from rx);obtain⟨_,_,_,n,_,h1⟩:=(show e_ X.prog X.w H s.heap a (.fX ob (.lst xs))from I.hok a _ ea)
  exact qT PySem.W.kitx_list I.lK (_,h1,Z) e (λz=>nomatch z) h
 | @tup a xs ea=>
  cases(show u=Value.ref a from rx);obtain⟨_,_,_,p⟩:=(show e_ X.prog X.w H s.heap a (.tup xs)from I.hok a _ ea)
  obtain⟨o,h1,h2,_⟩:=p;exact qT PySem.W.kitx_tuple I.lK (o,h1,h2) e (λz=>nomatch z) h
 | @dK a AT ea=>
  cases(show u=Value.ref a from rx);obtain⟨_,_,vs,_,p⟩:=(show e_ X.prog X.w H s.heap a (.dK AT)from I.hok a _ ea)
  obtain⟨o,es,ep,h1,h2,_⟩:=p;exact qT PySem.W.kitx_dict I.lK (o,h1,h2.1) e (λz=>nomatch z) h
 | @dT a AT ea=>
  cases(show u=Value.ref a from rx);obtain⟨_,_,xs,_,o,es,ep,h1,h2,_⟩:=(show e_ X.prog X.w H s.heap a (.dT AT)from I.hok a _ ea)
  exact qT PySem.W.kitx_dict I.lK (o,h1,h2.1) e (λz=>nomatch z) h
 | @ins a C dx fs ea cl ha hn htk hm=>cases(show u=Value.ref a from rx);obtain⟨mA,O,_⟩:=CK I.hok ea;obtain⟨od,J,_⟩:=O.look;exact qT (PySem.W.kitx_own (cl.get _) cl.hd ha hn htk hm) I.lK J e (λz=>nomatch z) h
end
structure fL(k:Nat)(A:Around):Prop where
 hd:A.handled=none
 dp:A.depth+3*k+5<recursionLimit
 un:A.units+16*k+200<cLine
theorem fL.mono{k:Nat}{A:Around}(r:fL k A)(h:j<=k):fL j A:=(r.hd,by have:=r.dp;omega,by have:=r.un;omega)
theorem fL.deeper{k:Nat}{A:Around}(r:fL (k+1) A)(env:Env):fL k (A.deeper env):=(r.hd,by have:=r.dp;show A.depth+1+3*k+5<_;omega,by have:=r.un;show A.units+3+16*k+200<_;omega)
def Sk{A:Around}:(A.under (.builtin "type.__call__" (.ref C::us,kw))).depth=A.depth+1:=by first|rfl|simp[Around.under,Code.weight,Code.isCreation,Code.isGuard,Code.isCaller,Code.frames,Code.isFrame,guardIds]
def Sl{A:Around}:(A.under (.builtin "type.__call__" (.ref C::us,kw))).units=A.units+1:=by first|rfl|simp[Around.under,Code.cUnits,Code.frames,Code.isFrame]
theorem fL.make{k:Nat}{A:Around}(r:fL (k+1) A)(C:Addr)(us:Da Value)(kw:Da (Str×Value)):fL k (A.under (.builtin "type.__call__" (.ref C::us,kw))):=(r.hd,by have:=r.dp;rw[Sk];omega,by have:=r.un;rw[Sl];omega)
theorem fL.depth{k:Nat}{A:Around}(r:fL k A):A.depth<recursionLimit:=by have:=r.dp;omega
theorem fL.units{k:Nat}{A:Around}(r:fL k A):A.units+64<cLine:=by have:=r.un;omega
def rj:TA:=λ_ H Q=>Q [] H
def WD(Q:Da V->Hp->Prop)(x:V):Da V->Hp->Prop:=λxs H2=>Q (x::xs) H2
def abx(tr:TA)(σ:St)(Q:Da V->Hp->Prop):V->Hp->Prop:=λx H1=>tr σ H1 (WD Q x)
def Sm(ta:TE)(tr:TA):TA:=λσ H Q=>ta σ H (abx tr σ Q)
section
variable {X:Cx}{e:Expr}{es:Da Expr}{te:TE}{t:TA}{pos:Pos}
inductive aeN(Q:VK)(xs:Da V)(H1:Hp):Prop
 |mk(_:xs.length<=sizeLine)(_:∀p,H1 p=none->Q (.ref p) (upd H1 p (.tup xs)))
def aby(t:TA):TE:=λσ H Q=>t σ H (aeN Q)
inductive aeO(Q:VK)(xs:Da V)(H1:Hp):Prop
 |mk(_:xs.length<=sizeLine)(_:∀p,H1 p=none->Q (.ref p) (upd H1 p (.lst xs)))
def aib(t:TA):TE:=λσ H Q=>t σ H (aeO Q)
end
abbrev Sp:=Da V->Hp->VK->XK->Prop
abbrev Bm:=Da Env->Hp->Shared->XK->Value->Shared->Prop
structure DW(P:Program)(w:World)(K:Fg)(mg:SO)(base:Heap)(A:Around)(outer:Da Env)(s:Shared)(H:Hp):Prop where
 frames:A.frames=some outer
 mod:Mod K mg base
 bs:∀b o,base.get? b=some o->s.heap.get? b=some o/\H b=none
 IP:base.objs.size<=s.heap.objs.size
 uV:s.heap.FunFrames base outer
 LM:∀b∈frs outer,H b=none
 hok:jF P w H s.heap
 bare:AllBare s.gens
def CE(outer:Da Env)(P:Program)(w:World)(H:Hp)(s:Shared)(Q:VK)(u:Value)(s':Shared):Prop:=∃v H',s'.os=s.os/\AllBare s'.gens/\Un (frs outer) [] H H' s.heap s'.heap/\jF P w H' s'.heap/\RelV v u/\Q v H'
def CR(CX:Bm)(outer:Da Env)(P:Program)(w:World)(H:Hp)(s:Shared)(Q:VK)(E:XK)(r:Result)(s':Shared):Prop:=match r with
 | .ok (.ret u)=>CE outer P w H s Q u s'
 | .ok _=>False
 | .error e=>CX outer H s E e s'
structure lu(P:Program)(w:World)(K:Fg)(mg:SO)(base:Heap)(CX:Bm)(k:Nat)(f:Addr)(fd:FuncData)(ps:Da Str)(sp:Sp):Prop where
 len:∀vs H Q E,sp vs H Q E->vs.length=ps.length
 run:∀(A:Around)(outer:Da Env)(s:Shared)(H:Hp)(args:Args)(us:Da Value)(vs:Da V)(Q:VK)(E:XK),fL k A->DW P w K mg base A outer s H->BindsTo s fd args (ps.zip us)->Vals vs us->sp vs H Q E->
  codeAny (model P w) A (.call (.ref f) args) (CR CX outer P w H s Q E) s
variable {mg:SO}{base:Heap}{CX:Bm}{f:Addr}{fd:FuncData}{ps:Da Str}{sp:Sp}
def lu.imp{k:Nat}{Uc:Sp}(F:lu P w K mg base CX k f fd ps sp)(h:∀vs H Q E,Uc vs H Q E->sp vs H Q E):lu P w K mg base CX k f fd ps Uc:=
 (λvs H Q E q=>F.len vs H Q E (h _ _ _ _ q),λA outer s H args us vs Q E hr he hb hv hs=>F.run A outer s H args us vs Q E hr he hb hv (h _ _ _ _ hs))
def DW.make{A:Around}{outer:Da Env}(e:DW P w K mg base A outer s H)(C:Addr)(us:Da Value)(kw:Da (Str×Value)):DW P w K mg base (A.under (.builtin "type.__call__" (.ref C::us,kw))) outer s H:=(by first|exact e.frames|(simpa[Around.under,Code.envs,Code.isFrame,pushEnvs]using e.frames),e.mod,e.bs,e.IP,e.uV,e.LM,e.hok,e.bare)
section
variable {X:Cx}{AC:AO}{σ:St}{H:Hp}{s s':Shared}
def Inv.abz(I:Inv X AC σ H s):DW X.prog X.w X.K X.mg X.base X.A X.stack s H:=(I.ok.frames,I.ok.mod,I.bs,fG I.ok.IP I.sz,I.stack,I.QD,I.hok,I.bare)
def Inv.after(I:Inv X AC σ H s)(h:CE X.stack X.prog X.w H s Q u s'):EP X AC σ Q u s':=by obtain⟨v,H',os,bare,un,hok,r,q⟩:=h;obtain⟨hh,g,d,t,os'⟩:=s';obtain rfl:os'=s.os:=os;exact(v,H',I.call (h':=hh) (g':=g) (d':=d) (t':=t) (ch:=[]) un hok bare (λb z=>absurd z (by simp)),r,q)
end
def abA(sp:Sp)(jG:Da V)(E:XK)(Q:VK):Da V->Hp->Prop:=λvs H1=>sp (vs++jG) H1 Q E
def Ys(sp:Sp)(jG:Da V)(E:XK)(t:TA):TE:=λσ H Q=>t σ H (abA sp jG E Q)
def WE(sp:Sp)(jG:Da V)(E:XK)(Q:VK)(x:V):Da V->Hp->Prop:=λvs H2=>sp (x::(vs++jG)) H2 Q E
inductive abB(C:Addr)(m:Str)(sp:Sp)(jG:Da V)(E:XK)(t:TA)(σ:St)(Q:VK)(x:V)(H1:Hp):Prop
 |mk(a dx fs:_)(_:x =.ref a)(_:H1 a=some (.ins C dx fs))(_:fs.lookup m=none)(_:t σ H1 (WE sp jG E Q x))
def Ln(C:Addr)(m:Str)(sp:Sp)(jG:Da V)(E:XK)(ta:TE)(t:TA):TE:=λσ H Q=>ta σ H (abB C m sp jG E t σ Q)
def abC(C:Addr)(sp:Sp)(jG:Da V)(E:XK)(Q:VK):Da V->Hp->Prop:=λvs H1=>∀x dx,H1 x=none->H1 dx=none->dx≠x->sp (.ref x::(vs++jG)) (upd (upd H1 dx (.own x)) x (.ins C dx [])) (λv H2=>v =.cK/\Q (.ref x) H2) E
def Lo(C:Addr)(sp:Sp)(jG:Da V)(E:XK)(t:TA):TE:=λσ H Q=>t σ H (abC C sp jG E Q)
def Binds(K:Fg)(fd:FuncData)(ps:Da Str)(ds:Da Value):Prop:=∀(s:Shared)(us:Da Value),K.In s.heap->(us++ds).length=ps.length->BindsTo s fd (us,[]) (ps.zip (us++ds))
def Binds.all(h:∀us:Da Value,us.length=ps.length->bindArgs fd (us,[])=pure (ps.zip us)):Binds K fd ps [] :=λs us _ hl=>by rw[x6]at hl ⊢;exact .of_eq (h us hl)
def Passes(CX:Bm)(X:Cx)(E:XK):Prop:=∀(AC:AO)(σ:St)(H:Hp)(s:Shared)(e:Value)(s':Shared),Inv X AC σ H s->CX X.stack H s E e s'->X.xe e s'
variable {vs:Da V}
section
variable {X:Cx}{CX:Bm}{k:Nat}{f C:Addr}{fd:FuncData}{ps:Da Str}{sp:Sp}{jG:Da V}{ds:Da Value}{E:XK}{x m:Str}{p pos Bz:Pos}{e o:Expr}{es:Da Expr}{ta:TE}{t:TA}
def LX(F:lu X.prog X.w X.K X.mg X.base CX k f fd ps sp)(hr:fL k X.A)(hb:Binds X.K fd ps ds)(hd:Vals jG ds)(hx:Passes CX X E)(I:Inv X AC σ H s)(r:Vals vs us)(h:sp (vs++jG) H Q E):wpAny (model X.prog X.w) X.A (call (.ref f) us) (EP X AC σ Q) X.xe s:=by
 have r2:Vals (vs++jG) (us++ds):=r.append hd
 have hl:(us++ds).length=ps.length:=r2.length▸F.len _ _ _ _ h
 refine wpAny_call (codeAny_mono (F.run X.A X.stack s H (us,[]) (us++ds) (vs++jG) Q E hr I.abz (hb s us I.lK hl) r2 h) λr s' hq=>?_)
 cases r with
 | error e=>exact hx AC σ H s e s' I hq
 | ok fl=>
   cases fl with
   | ret u=>exact I.after hq
   | next=>exact False.elim hq
   | brk=>exact False.elim hq
   | cont=>exact False.elim hq
def Zs(F:lu X.prog X.w X.K X.mg X.base CX k f fd ps sp)(hr:fL k X.A)(hg:Gl X x)(hm:X.mg x=some (.ref f))(hk:PySem.W.keepIn X.K (.ref f)=true)(hb:Binds X.K fd ps ds)(hd:Vals jG ds)(hx:Passes CX X E)(ha:PA X (e::es) t)(hdb:(x==("__debug__":Str))=false:=by decide)(he:starEach (e::es) X.env=(false,eval e X.env)::starEach es X.env:=by rfl)(hpl:(backTo pos (starEach es X.env)).any (·.1)=false:=by rfl):
  PE X (.Call (.Name x p) (e::es) [] pos) (Ys sp jG E t):=by
 intro AC s σ H Q I h
 refine LD (CH I hg hm ?_ hdb)
 refine PySem.W.callWith_K (h₀:=X.base) I.ok.mod.TU hk (bH (ha pos AC s σ H _ I h) λus s1 (vs,H1,I1,r,q)=>(I1.lK,?_)) he hpl
 exact LX F hr hb hd hx I1 r q
def Zt{pl:Sem Bool}(he:PE X o ta)(c:q_ X.K C)(hm:Meth X.K C m f)(F:lu X.prog X.w X.K X.mg X.base CX k f fd ps sp)(hr:fL k X.A)(hb:Binds X.K fd ps ds)(hd:Vals jG ds)(hx:Passes CX X E)(ha:PA X (e::es) t)(hst:starEach (e::es) X.env=(false,eval e X.env)::starEach es X.env:=by rfl)(hpl:(backTo pos (starEach es X.env)).any (·.1)=false:=by rfl)(ht:eval (.Call (.Attribute o m Bz) (e::es) [] pos) X.env=(do
    let ov <-eval o X.env
    standAt Bz.atName
    let(f,first) <-holding [ov] (getMethod ov m pl)
    callWith pos f first (backTo pos (starEach (e::es) X.env)) (backToKw pos (keywordEach [] X.env))):=by rfl):
  PE X (.Call (.Attribute o m Bz) (e::es) [] pos) (Ln C m sp jG E ta t):=by
 intro AC s σ H Q I h
 refine PySem.W.methodCall_KW (pl:=pl) (bH (he AC s σ H _ I h) λu s1 (x,H1,I1,rx,a,dx,fs,ex,ea,l,q)=>?_) ht
 subst ex
 obtain rfl:u=Value.ref a:=rx
 refine E2 I1 ea c hm l ?_
 refine PySem.W.callWith_K (first:=[.ref a]) (h₀:=X.base) I.ok.mod.TU hm.kp (bH (ha pos AC s1 σ H1 _ I1 q) λus s2 (vs,H2,I2,r,q2)=>(I2.lK,?_)) hst hpl
 exact LX (us:=.ref a::us) (vs:=.ref a::vs) F hr hb hd hx I2 (.cons rfl r) q2
def WG{pl:Sem Bool}(he:PE X o ta)(c:q_ X.K C)(hm:Meth X.K C m f)(F:lu X.prog X.w X.K X.mg X.base CX k f fd ps sp)(hr:fL k X.A)(hb:Binds X.K fd ps ds)(hd:Vals jG ds)(hx:Passes CX X E)(ht:eval (.Call (.Attribute o m Bz) [] [] pos) X.env=(do
    let ov <-eval o X.env
    standAt Bz.atName
    let(f,first) <-holding [ov] (getMethod ov m pl)
    callWith pos f first (backTo pos (starEach [] X.env)) (backToKw pos (keywordEach [] X.env))):=by rfl):
  PE X (.Call (.Attribute o m Bz) [] [] pos) (Ln C m sp jG E ta rj):=by
 intro AC s σ H Q I h
 refine PySem.W.methodCall_KW (pl:=pl) (bH (he AC s σ H _ I h) λu s1 (x,H1,I1,rx,a,dx,fs,ex,ea,l,q)=>?_) ht
 subst ex
 obtain rfl:u=Value.ref a:=rx
 refine E2 I1 ea c hm l ?_
 exact PySem.W.callWith_K0 (first:=[.ref a]) I1.lK hm.kp (LX (us:=[.ref a]) (vs:=[.ref a]) F hr hb hd hx I1 (.cons rfl .nil) q)
structure Mk(K:Fg)(C f:Addr):Prop where
 makes:PySem.W.makesIn K C=true
 init:PySem.W.findIn K (.ref C) "__init__"=some (some (.ref f))
 fn:PySem.W.isFn K (.ref f)=true
 kp:PySem.W.keepIn K (.ref C)=true
theorem LY(M:Mk X.K C f)(F:lu X.prog X.w X.K X.mg X.base CX k f fd ps sp)(hr:fL (k+1) X.A)(hb:Binds X.K fd ps ds)(hd:Vals jG ds)(hx:Passes CX X E)(I:Inv X AC σ H s)(r:Vals vs us)(h:∀x dx,H x=none->H dx=none->dx≠x->sp (.ref x::(vs++jG)) (upd (upd H dx (.own x)) x (.ins C dx [])) (λv H2=>v =.cK/\Q (.ref x) H2) E):
  wpAny (model X.prog X.w) X.A (call (.ref C) us) (EP X AC σ Q) X.xe s:=by
 have hq:=h (s.heap.objs.size+1) s.heap.objs.size (I.hok.fresh (Nat.le_succ _)) (I.hok.fresh (aO _)) (fq (Nat.lt_succ_self _))
 have I2:=Inv.made (C:=C) I
 have r2:Vals (V.ref (s.heap.objs.size+1)::(vs++jG)) (Value.ref (s.heap.objs.size+1)::(us++ds)):=.cons rfl (r.append hd)
 have hl:(Value.ref (s.heap.objs.size+1)::us++ds).length=ps.length:=by have e:=r2.length;rw[F.len _ _ _ _ hq]at e;exact e.symm
 refine wpAny_call (WB (f:=f) I.lK M.makes M.init (vM.mp M.fn) (codeAny_mono (F.run _ X.stack _ _ (Value.ref (s.heap.objs.size+1)::us,[]) (Value.ref (s.heap.objs.size+1)::(us++ds)) _ _ E (hr.make C us [])
  (I2.abz.make C us []) (hb _ (Value.ref (s.heap.objs.size+1)::us) I2.lK hl) r2 hq) λr s' hq'=>?_))
 cases r with
 | error e=>exact hx AC σ _ _ e s' I2 hq'
 | ok fl=>
   cases fl with
   | ret u=>
     obtain⟨v,H',I3,rv,ev,q3⟩:=I2.after hq'
     subst ev
     exact(rv,(V.ref (s.heap.objs.size+1),H',I3,Z,q3))
   | next=>exact False.elim hq'
   | brk=>exact False.elim hq'
   | cont=>exact False.elim hq'
def Zu(M:Mk X.K C f)(F:lu X.prog X.w X.K X.mg X.base CX k f fd ps sp)(hr:fL (k+1) X.A)(hg:Gl X x)(hm:X.mg x=some (.ref C))(hb:Binds X.K fd ps ds)(hd:Vals jG ds)(hx:Passes CX X E)(ha:PA X (e::es) t)(hdb:(x==("__debug__":Str))=false:=by decide)(he:starEach (e::es) X.env=(false,eval e X.env)::starEach es X.env:=by rfl)(hpl:(backTo pos (starEach es X.env)).any (·.1)=false:=by rfl):
  PE X (.Call (.Name x p) (e::es) [] pos) (Lo C sp jG E t):=by
 intro AC s σ H Q I h
 refine LD (CH I hg hm ?_ hdb)
 refine PySem.W.callWith_K (h₀:=X.base) I.ok.mod.TU M.kp (bH (ha pos AC s σ H _ I h) λus s1 (vs,H1,I1,r,q)=>(I1.lK,?_)) he hpl
 exact LY M F hr hb hd hx I1 r q
def WH(M:Mk X.K C f)(F:lu X.prog X.w X.K X.mg X.base CX k f fd ps sp)(hr:fL (k+1) X.A)(hg:Gl X x)(hm:X.mg x=some (.ref C))(hb:Binds X.K fd ps ds)(hd:Vals jG ds)(hx:Passes CX X E)(hdb:(x==("__debug__":Str))=false:=by decide):PE X (.Call (.Name x p) [] [] pos) (Lo C sp jG E rj):=by
 intro AC s σ H Q I h
 refine LD (CH I hg hm ?_ hdb)
 exact PySem.W.callWith_K0 I.lK M.kp (LY (us:=[]) M F hr hb hd hx I .nil h)
end
section
variable {X:Cx}{CX:Bm}{k:Nat}{f C:Addr}{fd:FuncData}{ps ks:Da Str}{sp:Sp}{E:XK}{x m:Str}{p pos Bz kpos:Pos}{e o:Expr}{es:Da Expr}{kws:Da Keyword}{te ta:TE}{t tk:TA}{nm:Option Str}
variable {g:Da Value->Da Value->Da Value}{gV:Da V->Da V->Da V}
end
structure aQ(N P:Da Str)(sc:Scope):Prop where
 kind:sc.kind =.function
 co:sc.isCoroutine=false
 gen:sc.isGenerator=false
 nd:N.Nodup
 pre:N.take P.length=P
 par:∀x∈P,sc.names.lookup x=some .local\/sc.names.lookup x=some .cell
 abD:∀y∈sc.names,y.2 ≠ .free
theorem IQ{kindOf:Str->Option NameKind}{x:Str}:∀{binds:Da (Str×Value)}{m:SO},(∀v,(x,v)∉binds)->bindL kindOf binds m x=m x
 | [],_,_=>rfl
 | (n,v)::r,m,h=>by
  unfold bindL;rw[IQ λw hw=>h w (cR _ hw)];split
  .have:x≠n:=by rintro rfl;exact h v cO
   simp[this]
  .rfl
theorem IS{kindOf:Str->Option NameKind}{x:Str}:∀{binds:Da (Str×Value)}{m:SO},(∀v,(x,v)∉binds)->bindC kindOf binds m x=m x
 | [],_,_=>rfl
 | (n,v)::r,m,h=>by
  unfold bindC;rw[IS λw hw=>h w (cR _ hw)];split
  .rfl
  .have:x≠n:=by rintro rfl;exact h v cO
   simp[this]
theorem IT{kindOf:Str->Option NameKind}{x:Str}{v:Value}:∀{P:Da Str}{vs:Da Value}{i:Nat}{m:SO},P.Nodup->P[i]?=some x->vs[i]?=some v->kindOf x=some .local->bindL kindOf (P.zip vs) m x=some v
 | [],_,_,_,_,h,_,_=>by simp at h
 | _::_,[],_,_,_,_,h,_=>by simp at h
 | p::P,w::vs,0,m,nd,h1,h2,hk=>by simp at h1 h2;subst h1;subst h2;show bindL kindOf ((p,w)::P.zip vs) m p=_;unfold bindL;rw[IQ λv hv=>(iu.mp nd).1 (List.of_mem_zip hv).1,ay hk];simp
 | p::P,w::vs,i+1,m,nd,h1,h2,hk=>by show bindL kindOf ((p,w)::P.zip vs) m x=_;unfold bindL;exact IT (i:=i) (iu.mp nd).2 (by simpa using h1) (by simpa using h2) hk
theorem IU{kindOf:Str->Option NameKind}{x:Str}{v:Value}:∀{P:Da Str}{vs:Da Value}{i:Nat}{m:SO},P.Nodup->P[i]?=some x->vs[i]?=some v->kindOf x≠some .local->bindC kindOf (P.zip vs) m x=some v
 | [],_,_,_,_,h,_,_=>by simp at h
 | _::_,[],_,_,_,_,h,_=>by simp at h
 | p::P,w::vs,0,m,nd,h1,h2,hk=>by simp at h1 h2;subst h1;subst h2;show bindC kindOf ((p,w)::P.zip vs) m p=_;unfold bindC;rw[IS λv hv=>(iu.mp nd).1 (List.of_mem_zip hv).1,av hk];simp
 | p::P,w::vs,i+1,m,nd,h1,h2,hk=>by show bindC kindOf ((p,w)::P.zip vs) m x=_;unfold bindC;exact IU (i:=i) (iu.mp nd).2 (by simpa using h1) (by simpa using h2) hk
def start(N:Da Str)(vs:Da V):St:=vs.map some++List.replicate (N.length-vs.length) none
def uX(CX:Bm)(P:Program)(w:World)(K:Fg)(mg:SO)(base:Heap)(N:Da Str)(qual:Str)(scope:Scope)(f:Addr)(cd:Value)(A:Around)(outer:Da Env)(s:Shared)(H:Hp)(E:XK):Cx where
 prog:=P
 w:=w
 K:=K
 mg:=mg
 base:=base
 A:=A.deeper (envOfC qual scope s.heap.objs.size f cd)
 N:=N
 s₀:=s
 H₀:=H
 env:=envOfC qual scope s.heap.objs.size f cd
 outer:=outer
 stack:=envOfC qual scope s.heap.objs.size f cd::outer
 ex:=[]
 calm:=true
 fn:=λ_=>true
 pn:=[]
 xe:=λe s'=>wpAny (model P w) (A.deeper (envOfC qual scope s.heap.objs.size f cd)) (leaving (envOfC qual scope s.heap.objs.size f cd) e) (λ_ s''=>CX outer H s E e s'') (λe' s''=>CX outer H s E e' s'') s'
def LZ{sc:Scope}(h:sc.names.lookup x=some .cell):∃c,(cellsFrom n sc.names []).lookup x=some c:=by have q:=PySem.W.cellsFrom_some sc.names n [] (.inl h);exact Option.isSome_iff_exists.mp q
variable {qual:Str}{scope:Scope}
theorem Ud{cd:Value}{A:Around}{outer:Da Env}{s1:Shared}{E:XK}(S:aQ N ps scope)(hd:A.handled=none)(e0:DW P w K mg base A outer s H)(hl:vs.length=ps.length)(r:Vals vs us)(x:InCallC s s.heap.objs.size (bindL (envOfC qual scope s.heap.objs.size f cd).kindOf (ps.zip us) λ_=>none) (cellsFrom (s.heap.objs.size+1) scope.names []) (bindC (envOfC qual scope s.heap.objs.size f cd).kindOf (ps.zip us) λ_=>none) s1):
  Inv (uX CX P w K mg base N qual scope f cd A outer s H E) [] (start N vs) H s1:=by
 have hpl:ps.length<=N.length:=by have:=i8 List.length S.pre;rw[kR]at this;omega
 obtain⟨h1,tk,rfl,hk⟩:=x.done
 have Ue:∀b:Addr,b∉(uX CX P w K mg base N qual scope f cd A outer s H E).ex:=λb z=>absurd (show b∈([] :Da Addr)from z) (by simp)
 refine((e0.mod,S.kind,Z,Z,aO _,λy z c h1 h2=>?_,λy hy=>?_,λy c _ h=>?_,λ_=>hd,Around.frames_deeper e0.frames,.inr (Z,Z),λb z=>absurd z (Ue b),e0.bs,e0.IP,λb _ _=>Ue b,λb z=>absurd z (Ue b),e0.uV,e0.LM),
  rfl,e0.bare,Un.kept hk,(_,x.toInCall.ns,λi y v h1 h2 h3=>?_),λy c h=>(_,x.cell y c h),e0.hok.fresh (aO _),λy c h=>?_,λp hp=>absurd (show p∈([] :AO)from hp) (by simp),e0.hok.kept hk,?_)
 . exact name_of_addr x.apart (zO h1) (zO h2)
 . have hy:scope.names.lookup y=some .cell\/scope.names.lookup y=some .free:=hy
   rcases hy with hy|hy
   . exact LZ hy
   . exact absurd rfl (S.abD _ (zO hy))
 . exact CD (x.above y c (zO h))
 . have hi:i<vs.length:=by
    unfold start at h2
    by_cases hi:i<vs.length
    . exact hi
    . rw[zN (by simpa using hi)]at h2
      rw[R0]at h2
      split at h2 <;> cases h2
   have ha:vs[i]?=some v:=by
    unfold start at h2;rw[GY (by simpa using hi),bP]at h2;cases e:vs[i]? with
    | none=>rw[e]at h2;cases h2
    | some a=>rw[e]at h2;cases h2;rfl
   obtain⟨u,hu,rv⟩:=r.get ha
   have hp:ps[i]?=some y:=by rw[<-S.pre,List.getElem?_take_of_lt (by omega)];exact h1
   have ndP:ps.Nodup:=S.pre▸S.nd.sublist (List.take_sublist _ _)
   refine(u,rv,?_)
   rcases S.par y (bg hp)with k|k
   . exact .inl (k,IT ndP hp hu k)
   . obtain⟨c,e⟩:=LZ (n:=s.heap.objs.size+1) k
     refine .inr (.inl k,c,e,?_)
     have q:=x.cell y c e
     rw[IU ndP hp hu (by show scope.names.lookup y≠_;rw[k];decide)]at q
     exact q
 . exact e0.hok.fresh (CD (x.above y c (zO h)))
 . unfold start
   show _=N.length
   rw[c7,aG,jr]
   omega
variable {body:Da Stmt}{doc pm yn ct oc:Value}{an od:Option Addr}
theorem aeP{k:Nat}{name:Str}{params:Arguments}{dV kV:Value}{osl:Array (Option Value)}{N ps:Da Str}{sp:Sp}(lk:K.lookup f=some (oc,od,.func (PySem.W.fnOf name qual params body scope dV kV doc pm an yn ct),osl))(hcd:PySem.W.codeIn K yn qual=true)(S:aQ N ps scope)(len:∀vs H Q E,sp vs H Q E->vs.length=ps.length)(Ch:∀(A:Around) (outer:Da Env) (s:Shared) (H:Hp) (vs:Da V) (Q:VK) (E:XK),fL k (A.deeper (envOfC qual scope s.heap.objs.size f yn))->sp vs H Q E->
    ∃t,yc (uX CX P w K mg base N qual scope f yn A outer s H E) body t/\t { nx:=λ_ H'=>Q .cK H',rt:=Q } (start N vs) H):
  lu P w K mg base CX (k+1) f (PySem.W.fnOf name qual params body scope dV kV doc pm an yn ct) ps sp:=by
 refine(len,λA outer s H args us vs Q E hr e0 hb r wF=>?_)
 have hl:=len _ _ _ _ wF
 have KX:K.In s.heap:=e0.mod.TU.keeps λb o e=>(e0.bs b o e).1
 have lim:s.heap.NoLimit:=e0.mod.nolimit.keeps λb o e=>(e0.bs b o e).1
 have hkind:∀y∈ps.zip us,scope.names.lookup y.1=some .local\/(scope.names.lookup y.1=some .cell/\((cellsFrom (s.heap.objs.size+1) scope.names []).lookup y.1).isSome=true):=λ⟨n,v⟩ hy=>by
  rcases S.par n (List.of_mem_zip hy).1 with q|q
  .exact .inl q
  .exact .inr (q,PySem.W.cellsFrom_some _ _ _ (.inl q))
 refine codeAny_call_function hr.depth (KX _ _ lk) rfl S.co S.gen rfl (PySem.W.codeRec_of KX hcd) (hb _ _ _ _ ?_)
 refine wpAny_newFunctionEnv_cells S.kind hkind λenv he s1 x=>?_
 subst he
 refine(lim.keeps x.toInCall.keep,codeAny_func ?_)
 obtain⟨t,ht,hq⟩:=Ch A outer s H vs Q E (hr.deeper _) wF
 have I:Inv (uX CX P w K mg base N qual scope f yn A outer s H E) [] (start N vs) H s1:=Ud S hr.hd e0 hl r x
 refine j8 (ht [] s1 (start N vs) H _ I hq) (λfl s' hs=>?_) λe s' hs=>hs
 have fin:∀{σ':St}{H':Hp}{v:V}{u:Value},Inv (uX CX P w K mg base N qual scope f yn A outer s H E) [] σ' H' s'->RelV v u->Q v H'->CE outer P w H s Q u s':=
  λ{σ' H' v u} J rv q=>(v,H',J.os,J.bare,J.base,J.hok,rv,q)
 cases fl with
 | ret u=>
   obtain⟨v,σ',H',J,rv,q⟩:=hs
   exact fin J rv q
 | next=>
   obtain⟨σ',H',J,q⟩:=hs
   exact fin (v:=V.cK) (u:=Value.none) J rfl q
 | brk=>
   obtain⟨_,_,_,q⟩:=hs
   exact False.elim q
 | cont=>
   obtain⟨_,_,_,q⟩:=hs
   exact False.elim q
section
variable {X:Cx}{x:Str}{p pos:Pos}{e:Expr}{es:Da Expr}{t:TA}{id T:String}{r:Da V->Hp->VK->Prop}
def aic(r:Da V->Hp->VK->Prop)(Q:VK):Da V->Hp->Prop:=λvs H1=>r vs H1 Q
def Yt(r:Da V->Hp->VK->Prop)(t:TA):TE:=λσ H Q=>t σ H (aic r Q)
end
end L2
namespace HT
open PySem PyProof.Rows
section
open PySem.SeqAt
open PySem.AutoSeq1 (wpAny_loadPart')
open PySem.MeetsSeq PySem.MeetsSeq2 PySem.MeetsSeq3
end
section
variable {prog:Program}{w:World}{A:Around}{E:VS}{s:Shared}
def uF(n d:Nat):Option Int->Nat
 | none=>d
 | some v=>if v<0 then(v+(n:Int)).toNat else min v.toNat n
def WI(n d:Nat):uF n d none=d:=rfl
theorem Zv(n d k:Nat):uF n d (some (k:Int))=min k n:=by show(if(k:Int)<0 then((k:Int)+(n:Int)).toNat else min (k:Int).toNat n)=min k n;rw[av (by omega),qS]
end
end HT
namespace L2
open PySem PySem.Spec PyProof.Rows
abbrev TO:=St->Hp->(Option Int->Hp->Prop)->Prop
def PO(X:Cx)(e:Option Expr)(t:TO):Prop:=∀(AC:AO)(s:Shared)(σ:St)(H:Hp)(Q:Option Int->Hp->Prop),Inv X AC σ H s->t σ H Q->wpAny (model X.prog X.w) X.A (evalPart e X.env) (λu s'=>∃o H',Inv X AC σ H' s'/\IsPart u o/\Q o H') X.xe s
def Zw:TO:=λ_ H Q=>Q none H
inductive abE(Q:Option Int->Hp->Prop)(x:V)(H1:Hp):Prop
 |mk(i:_)(_:x =.int i)(_:Q (some i:_) H1)
def aeQ(t:TE):TO:=λσ H Q=>t σ H (abE Q)
variable {ns:Da Int}
def intsAre_of:∀{us:Da Value},Vals (ns.map V.int) us->IntsAre us ns:=by
 induction ns with
 | nil=>intro us r;rw[List.map_nil]at r;cases r;exact .nil
 | cons n ns ih=>
  intro us r;rw[bK]at r;cases r with
  | cons r1 r2=>obtain⟨t,e⟩:=r1;subst e;exact .cons n t (ih r2)
section
variable {X:Cx}{e:Expr}{te:TE}{lo hi:Option Expr}{tl th:TO}{pos p2:Pos}
def SlR(X:Cx)(r:V->Option Int->Option Int->Hp->VK->Prop):Prop:=∀(AC:AO)(s:Shared)(σ:St)(H:Hp)(x:V)(v vl vu:Value)(lo hi:Option Int)(sl:Addr)(Q:VK),Inv X AC σ H s->RelV x v->s.heap.IsSliceOf sl vl vu .none->IsPart vl lo->IsPart vu hi->r x lo hi H Q->∃T id,typeLookup (.type T) "__getitem__"=pure (some (.builtin id))/\s.TypeIs v T/\wpAny (model X.prog X.w) X.A (getItem v (.ref sl)) (EP X AC σ Q) X.xe s
def abF(r:V->Option Int->Option Int->Hp->VK->Prop)(Q:VK)(x:V)(l:Option Int):Option Int->Hp->Prop:=λu H3=>r x l u H3 Q
def abG(r:V->Option Int->Option Int->Hp->VK->Prop)(th:TO)(σ:St)(Q:VK)(x:V):Option Int->Hp->Prop:=λl H2=>th σ H2 (abF r Q x l)
def aid(r:V->Option Int->Option Int->Hp->VK->Prop)(tl:TO)(th:TO)(σ:St)(Q:VK):V->Hp->Prop:=λx H1=>tl σ H1 (abG r th σ Q x)
def tSl(r:V->Option Int->Option Int->Hp->VK->Prop)(te:TE)(tl th:TO):TE:=λσ H Q=>te σ H (aid r tl th σ Q)
def Hs(xs:Da V)(lo hi:Option Int):Da V:=(xs.drop (HT.uF xs.length 0 lo)).take (HT.uF xs.length xs.length hi-HT.uF xs.length 0 lo)
theorem OZ(xs:Da V)(lo hi:Option Int):(Hs xs lo hi).length<=xs.length:=by unfold Hs;rw[kR,List.length_drop];omega
end
def E4(n:Nat)(i:Int):Option Nat:=if 0<=i then(if i<n then some i.toNat else none) else if -(n:Int)<=i then some (i+n).toNat else none
def lz{α:Type}(xs:Da α)(i:Int):Option α:=(E4 xs.length i).bind λj=>xs[j]?
variable {n j:Nat}
theorem QJ{i:Int}(h:E4 n i=some j):seqIndex? i n=some j/\j<n/\-(n:Int)<=i/\i<n:=by
 unfold E4 at h;by_cases h0:0<=i
 .rw [ay h0]at h;by_cases h1:i<n
  .rw [ay h1]at h;have e:i.toNat=j:=gU h;exact(by rw[seqIndex_of h0 h1,e],by omega,by omega,h1)
  .rw [av h1]at h;cases h
 .rw [av h0]at h;by_cases h1:-(n:Int)<=i
  .rw [ay h1]at h;have e:(i+n).toNat=j:=gU h;exact(by rw[seqIndex_neg (by omega) h1,e],by omega,h1,by omega)
  .rw [av h1]at h;cases h
def CL{α:Type}{xs:Da α}{i:Int}{v:α}(h:lz xs i=some v):∃j,seqIndex? i xs.length=some j/\xs[j]?=some v/\j<xs.length/\-(xs.length:Int)<=i/\i<xs.length:=by
 unfold lz at h;cases e:E4 xs.length i with
 | none=>rw[e]at h;cases h
 | some j=>rw[e]at h;obtain⟨h1,h2,h3,h4⟩:=QJ e;exact(j,h1,h,h2,h3,h4)
theorem aE{α:Type}{xs:Da α}{v:α}(h:xs[j]?=some v):lz xs (j:Int)=some v:=by
 have hj:j<xs.length:=(c_.mp h).1;have e:E4 xs.length (j:Int)=some j:=by unfold E4;rw[ay (by omega),ay (by omega)];simp
 unfold lz;rw[e];exact h
def Zx(b:Expr):Prop:=∀o i,subscripted b false o i=operate [o,i] (getItem o i)
def AJ(X:Cx)(r:R2):Prop:=∀(value slice:Expr)(AC:AO)(s:Shared)(σ:St)(H:Hp)(x y:V)(v u:Value)(Q:VK),Inv X AC σ H s->RelV x v->RelV y u->r x y H Q->subscripted slice false v u=operate [v,u] (getItem v u)->wpAny (model X.prog X.w) X.A (subscriptTail value slice v u) (EP X AC σ Q) X.xe s
def MtR(X:Cx)(id:String)(r:V->Da V->Hp->VK->Prop):Prop:=∀(AC:AO)(s:Shared)(σ:St)(H:Hp)(x:V)(xs:Da V)(v:Value)(us:Da Value)(Q:VK),Inv X AC σ H s->RelV x v->Vals xs us->r x xs H Q->wpAny (model X.prog X.w) X.A (call (.builtin id) (v::us)) (EP X AC σ Q) X.xe s
variable {AC:AO}{σ:St}{H:Hp}{s:Shared}{xs ys:Da V}{BT its':Da Value}{y:V}{u:Value}
section
variable {X:Cx}{a b:Expr}{ta tb:TE}{pos:Pos}
def AJ.or{r r':R2}(h:AJ X r)(h':AJ X r'):AJ X (λx y H Q=>r x y H Q\/r' x y H Q):=by
 intro value slice AC s σ H x y v u Q I rx ry q hs;rcases q with q|q
 .exact h value slice AC s σ H x y v u Q I rx ry q hs
 .exact h' value slice AC s σ H x y v u Q I rx ry q hs
inductive L0(K:Fg)(x:V)(y:V)(H:Hp)(Q:VK):Prop
 |mk(p xs i v:_)(_:x =.ref p)(_:y =.int i)(_:aC K H p xs)(_:lz xs i=some v)(_:Q v H)
inductive L1(K:Fg)(x:V)(y:V)(H:Hp)(Q:VK):Prop
 |mk(p xs i v:_)(_:x =.ref p)(_:y =.int i)(_:cU K H p xs)(_:lz xs i=some v)(_:Q v H)
inductive abH(x:V)(y:V)(H:Hp)(Q:VK):Prop
 |mk(z i c:_)(_:x =.str z)(_:y =.int i)(_:z.length<=sizeLine)(_:lz z.cps.toList i=some c)(_:Q (.str ⟨#[c]⟩) H)
theorem QK:AJ X (L0 X.K):=by
 intro value slice AC s σ H x y v u Q I rx ry h hs;obtain⟨p,xs,i,z,rfl,rfl,hq,he,q⟩:=h;cases rx;obtain⟨t,rfl⟩:=ry;obtain⟨BT,r,pl,hz⟩:=I.list hq;obtain⟨j,h1,h2,h3,h4,h5⟩:=CL he;obtain⟨w,ew,rw'⟩:=r.get h2;have hl:=r.length;have hn:=wD;have fin:EP X AC σ Q w s:=(z,H,I,rw',q)
 by_cases h0:0<=i
 .have hj:i.toNat=j:=by rw[seqIndex_of h0 h5]at h1;exact gU h1
  exact item_listR pl.isList h0 (by omega) (by rw[hj];simpa using ew) fin hs
 .have hj:(i+(BT.toArray.size:Int)).toNat=j:=by rw[seqIndex_neg (by omega) h4]at h1;rw[iW,<-hl];exact gU h1
  exact subscriptTail_builtinR (x:=w) pl.isList.typeIs slot_list_getitem.lookup
   (wpAny_getItem_list_neg (Q:=λr s'=>r=w/\EP X AC σ Q r s') pl.isList (by omega) (by rw[iW] <;> omega) (by omega) (by rw[hj];simpa using ew) (Z,fin)) hs
theorem Ug:AJ X (L1 X.K):=by
 intro value slice AC s σ H x y v u Q I rx ry h hs;obtain⟨p,xs,i,z,rfl,rfl,hq,he,q⟩:=h;cases rx;obtain⟨t,rfl⟩:=ry;obtain⟨BT,r,pl,hz⟩:=I.tuple hq;obtain⟨j,h1,h2,h3,h4,h5⟩:=CL he;obtain⟨w,ew,rw'⟩:=r.get h2;have hl:=r.length;have hn:=wD;have fin:EP X AC σ Q w s:=(z,H,I,rw',q)
 exact subscriptTail_builtinR (x:=w) pl.typeIs slot_tuple_getitem.lookup
  (getItem_tuple (j:=j) (Q:=λr s'=>r=w/\EP X AC σ Q r s') pl (by omega) (by omega) (by rw[iW,<-hl];exact h1) (by simpa using ew) (Z,fin)) hs
theorem Uh:AJ X abH:=by
 intro value slice AC s σ H x y v u Q I rx ry h hs;obtain⟨z,i,c,rfl,rfl,hz,he,q⟩:=h;obtain⟨t,rfl⟩:=rx;obtain⟨t',rfl⟩:=ry;obtain⟨j,h1,h2,h3,h4,h5⟩:=CL he;have hl:z.cps.toList.length=z.length:=by simp[Str.length]
 rw[hl]at h1 h4 h5;have hn:=wD;exact tail_any (typeIs_str s z t) slot_str_getitem.lookup (getItem_str (c:=c) (by have e1:decide (i < -(2 ^ 63:Int))=false:=dM (by omega);have e2:decide (i≥2 ^ 63)=false:=dM (by omega);rw[e1,e2,Bool.or_false]) (by rw[h1];simpa using h2) (.str ⟨#[c]⟩,H,I.tok _,(_,Z),q)) hs
def rIx(K:Fg):R2:=λx y H Q=>L0 K x y H Q\/L1 K x y H Q\/abH x y H Q
def abJ:AJ X (rIx X.K):=QK.or (Ug.or Uh)
def Sn(BT:Da Value)(n j:Nat)(u:Value):Obj.mapSeq (·.setIfInBounds j u) { cls:=.type "list",data:=.seq BT.toArray n }={ cls:=.type "list",data:=.seq (BT.set j u).toArray n }:=by simp[Obj.mapSeq]
theorem Inv.lst{AC:AO}{σ:St}{H:Hp}{s:Shared}{p:Addr}{xs:Da V}(I:Inv X AC σ H s)(h:H p=some (.lst xs)):∃(BT:Da Value)(n:Nat),Vals xs BT/\s.heap.get? p=some { cls:=.type "list",data:=.seq BT.toArray n }/\xs.length<=sizeLine:=by obtain⟨z,BT,n,r,e⟩:=I.hok p _ h;exact(BT,n,r,e,z)
def Inv.abL{p:Addr}{n':Nat}{f:Obj->Obj}(I:Inv X AC σ H s)(h:H p=some (.lst xs))(ho:s.heap.get? p=some { cls:=.type "list",data:=.seq BT.toArray n })(hf:f { cls:=.type "list",data:=.seq BT.toArray n }={ cls:=.type "list",data:=.seq its'.toArray n' })(r:Vals ys its')(hz:ys.length<=sizeLine)(t:Nat):
  Inv X AC σ (upd H p (.lst ys)) { s with heap:=s.heap.update p f,toks:=t }:=by
 have e:(s.heap.update p f).get? p=some { cls:=.type "list",data:=.seq its'.toArray n' }:=by rw[DP f ho (by rw[hf] <;> rfl),hf]
 refine I.write (x:=p) (e:=p) (by rw[h];trivial) (.inl rfl) (λb u hb q=>(Ly _ _ (cC hb)).trans q) (_,e) ?_
 exact(hz,its',n',r,e)
inductive aeR(o:V)(i:V)(v:V)(H:Hp)(Q:Hp->Prop):Prop
 |mk(p xs k j:_)(_:o =.ref p)(_:i =.int k)(_:H p=some (.lst xs))(_:E4 xs.length k=some j)(_:Q (upd H p (.lst (xs.set j v))))
theorem set_list:Wq X aeR:=by
 intro AC s σ H o i v ov iv u Q I ro ri rv h;obtain⟨p,xs,k,j,rfl,rfl,hp,hj,q⟩:=h;cases ro;obtain⟨t,rfl⟩:=ri;obtain⟨BT,n,r,ho,hz⟩:=I.lst hp;obtain⟨h1,h2,h3,h4⟩:=QJ hj;have hl:=r.length;have hn:=wD;have I':Inv X AC σ (upd H p (.lst (xs.set j v))) { s with heap:=s.heap.update p (Obj.mapSeq (·.setIfInBounds j u)) }:=
  I.abL hp ho (Sn BT n j u) (r.set rv j) (by rw[fF];exact hz) s.toks
 by_cases h0:0<=k
 .have hk:k.toNat=j:=by rw[seqIndex_of h0 h4]at h1;exact gU h1
  exact PySem.W.ki_setAt ho h0 (by omega) (by rw[iW,<-hl];exact h4) (hk▸(_,I',q))
 .have hk:(k+(BT.toArray.size:Int)).toNat=j:=by rw[seqIndex_neg (by omega) h3]at h1;rw[iW,<-hl];exact gU h1
  exact PySem.W.ki_setBack ho (by omega) (by rw[iW,<-hl];exact h3) (by omega) (hk▸(_,I',q))
theorem L3(lo hi:Option Int)(n:Nat):(sliceBounds lo hi none n).1=((HT.uF n 0 lo:Nat):Int)/\(sliceBounds lo hi none n).2.1=((HT.uF n n hi:Nat):Int)/\(sliceBounds lo hi none n).2.2=1:=by
 refine(?_,?_,Z)
 .cases lo with
  | none=>simp[sliceBounds,HT.uF]
  | some i=>
   simp only[sliceBounds,HT.uF,Option.getD_none,show(1:Int)>0 by decide,qW];by_cases h:i<0
   .simp only[h,qW] <;> omega
   .simp only[h,nV] <;> omega
 .cases hi with
  | none=>simp[sliceBounds,HT.uF]
  | some i=>
   simp only[sliceBounds,HT.uF,Option.getD_none,show(1:Int)>0 by decide,qW];by_cases h:i<0
   .simp only[h,qW] <;> omega
   .simp only[h,nV] <;> omega
def JX(BT:Da Value)(lo hi:Option Int):slicePick BT.toArray lo hi none=((BT.drop (HT.uF BT.length 0 lo)).take (HT.uF BT.length BT.length hi-HT.uF BT.length 0 lo)).toArray:=by obtain⟨h1,h2,h3⟩:=L3 lo hi BT.toArray.size;unfold slicePick;rw[h1,h2,h3];simp only[sliceRange_one,pick_run,iW] <;> rfl
inductive aie(K:Fg)(x:V)(lo:Option Int)(hi:Option Int)(H:Hp)(Q:VK):Prop
 |mk(a xs:_)(_:x =.ref a)(_:aC K H a xs)(_:∀p,H p=none->Q (.ref p) (upd H p (.lst (Hs xs lo hi))))
theorem Zy:SlR X (aie X.K):=by intro AC s σ H x v vl vu lo hi sl Q I rx hs pl pu h;obtain⟨a,xs,rfl,hx,q⟩:=h;cases rx;obtain⟨BT,r,ht,hz⟩:=I.list hx;have hlen:=r.length;refine("list",_,slot_list_getitem.lookup,ht.isList.typeIs,?_);refine wpAny_getItem_list_slice ht.isList hs pl pu .none (by simp) ?_ (by rw[iW] <;> omega);rw[JX,<-hlen];refine(.ref s.heap.objs.size,_,I.laid (t':=s.toks) (o:=.lst (Hs xs lo hi)) (λb ob q=>cN _ q) (aO _) ?_,Z,q _ (I.hok.fresh (aO _)));exact(fG (OZ xs lo hi) hz,_,0,(r.drop (HT.uF xs.length 0 lo)).take (HT.uF xs.length xs.length hi-HT.uF xs.length 0 lo),ff _ rfl)
def vN:V->Bool
 | .cK=>true
 | .bl _=>true
 | .int _=>true
 | .str _=>true
 | _=>false
noncomputable def AK:V->V->Bool
 | .cK,.cK=>true
 | .bl a,.bl b=>a==b
 | .bl a,.int b=>(if a then 1 else 0)==b
 | .int a,.bl b=>a==(if b then 1 else 0)
 | .int a,.int b=>a==b
 | .str a,.str b=>a==b
 | _,_=>false
def abM{A:Around}{x:V}{v:Value}(ry:RelV y u)(rx:RelV x v)(fy:vN y=true)(fx:vN x=true):SeqAt.EqAt A s u v (AK y x):=by
 cases y with
 | cK=>
  cases ry;cases x with
  | cK=>cases rx;exact SeqAt.EqAt.same _
  | bl b=>cases rx;exact SeqAt.EqAt.none_bool b
  | int b=>obtain⟨t,rfl⟩:=rx;exact SeqAt.EqAt.none_int b t
  | str b=>obtain⟨t,rfl⟩:=rx;exact SeqAt.EqAt.none_str b t
  | _=>exact absurd (show false=true from fx) gZ
 | bl a=>
  cases ry;cases x with
  | cK=>cases rx;exact SeqAt.EqAt.bool_none a
  | bl b=>cases rx;exact SeqAt.EqAt.bool_bool a b
  | int b=>obtain⟨t,rfl⟩:=rx;exact SeqAt.EqAt.bool_int a b t
  | str b=>obtain⟨t,rfl⟩:=rx;exact SeqAt.EqAt.bool_str a b t
  | _=>exact absurd (show false=true from fx) gZ
 | int a=>
  obtain⟨t',rfl⟩:=ry;cases x with
  | cK=>cases rx;exact SeqAt.EqAt.int_none a t'
  | bl b=>cases rx;exact SeqAt.EqAt.int_bool a t' b
  | int b=>obtain⟨t,rfl⟩:=rx;exact SeqAt.EqAt.int_int a t' b t
  | str b=>obtain⟨t,rfl⟩:=rx;exact SeqAt.EqAt.int_str a t' b t
  | _=>exact absurd (show false=true from fx) gZ
 | str a=>
  obtain⟨t',rfl⟩:=ry;cases x with
  | cK=>cases rx;exact SeqAt.EqAt.str_none a t'
  | bl b=>cases rx;exact SeqAt.EqAt.str_bool a t' b
  | int b=>obtain⟨t,rfl⟩:=rx;exact SeqAt.EqAt.str_int a t' b t
  | str b=>obtain⟨t,rfl⟩:=rx;exact SeqAt.EqAt.str_str a t' b t
  | _=>exact absurd (show false=true from fx) gZ
 | _=>exact absurd (show false=true from fy) gZ
noncomputable def E5(x:V)(u:Value):Bool:=match u with
 | .none=>AK .cK x
 | .bool b=>AK (.bl b) x
 | .int i _=>AK (.int i) x
 | .str z _=>AK (.str z) x
 | _=>false
def Ui{x:V}(r:RelV y u)(f:vN y=true):E5 x u=AK y x:=by
 cases y with
 | cK=>cases r;rfl
 | bl b=>cases r;rfl
 | int i=>obtain⟨t,rfl⟩:=r;rfl
 | str z=>obtain⟨t,rfl⟩:=r;rfl
 | _=>exact absurd (show false=true from f) gZ
theorem Ht{x:V}:∀{xs:Da V}{us:Da Value},Vals xs us->xs.all vN=true->us.any (E5 x)=xs.any λy=>AK y x
 | _,_,.nil,_=>rfl
 | y::xs,u::us,.cons r t,f=>by rw[List.all_cons,Bool.and_eq_true]at f;rw[ET,ET,Ui r f.1,Ht t f.2]
theorem DX{A:Around}{s:Shared}{x:V}{v:Value}(rx:RelV x v)(fx:vN x=true):∀{xs:Da V}{us:Da Value},Vals xs us->xs.all vN=true->∀u∈us,SeqAt.EqAt A s u v (E5 x u)
 | _,_,.nil,_=>λu hu=>by cases hu
 | y::xs,u::us,.cons r t,f=>λu' hu=>by
  rw[List.all_cons,Bool.and_eq_true]at f;rcases dW.mp hu with rfl|hu
  .rw [Ui r f.1];exact abM r rx f.1 fx
  .exact DX rx fx t f.2 u' hu
def QL(x:V)(xs:Da V):Bool:=xs.any λy=>AK y x
inductive rIn(K:Fg)(neg:Bool)(x:V)(y:V)(H:Hp)(Q:VK):Prop
 |mk(p xs:_)(_:y =.ref p)(_:(aC K H p xs\/cU K H p xs))(_:vN x=true)(_:xs.all vN=true)(_:Q (.bl (if neg then !QL x xs else QL x xs)) H)
def Uj:jU X (compareOp .In) (rIn X.K false):=by
 intro AC s σ H x y v u Q I rx ry h;obtain⟨p,xs,rfl,hq,fx,fs,q⟩:=h;cases ry;rcases hq with hq|hq
 .obtain ⟨BT,r,pl,hz⟩:=I.list hq;refine SeqAt.in_listAt (E5 x) pl.isList (λw hw=>DX rx fx r fs w (by simpa using hw)) (.bl _,H,I,Z,?_);rw[show BT.toArray.any (E5 x)=BT.any (E5 x) by simp,Ht r fs];exact q
 .obtain ⟨BT,r,pl,hz⟩:=I.tuple hq;refine SeqAt.in_tupleAt (E5 x) pl (λw hw=>DX rx fx r fs w (by simpa using hw)) (.bl _,H,I,Z,?_);rw[show BT.toArray.any (E5 x)=BT.any (E5 x) by simp,Ht r fs];exact q
theorem L4:iL X (.builtin "len") (λxs H Q=>∃p ys,xs=[.ref p]/\(aC X.K H p ys\/cU X.K H p ys)/\Q (.int ys.length) H):=by
 intro AC s σ H xs us Q I r h;obtain⟨p,ys,rfl,hq,q⟩:=h;obtain⟨u,rfl,rx⟩:=vals1 r;cases rx;have hn:=wD;rcases hq with hq|hq
 .obtain ⟨BT,r',pl,hz⟩:=I.list hq;have hlen:=r'.length;exact Calls.call_len_list pl.isList (by simp only[iW] <;> omega) (.int ys.length,H,I.tok _,(s.toks+1,by rw[iW,hlen]),q)
 .obtain ⟨BT,r',pl,hz⟩:=I.tuple hq;have hlen:=r'.length;exact len_tuple pl (by simp only[iW] <;> omega) (.int ys.length,H,I.tok _,(s.toks+1,by rw[iW,hlen]),q)
theorem L5:iL X (.builtin "len") (λxs H Q=>∃z,xs=[.str z]/\z.length<=sizeLine/\Q (.int z.length) H):=by intro AC s σ H xs us Q I r h;obtain⟨z,rfl,hz,q⟩:=h;obtain⟨u,rfl,t,rfl⟩:=vals1 r;have hn:=wD;exact len_str (by omega) (.int z.length,H,I.tok _,(_,Z),q)
theorem L6:iL X (.type "list") (λxs H Q=>∃p ys,xs=[.ref p]/\(aC X.K H p ys\/cU X.K H p ys)/\∀l,H l=none->Q (.ref l) (upd H l (.lst ys))):=by
 intro AC s σ H xs us Q I r h;obtain⟨p,ys,rfl,hq,q⟩:=h;obtain⟨u,rfl,rx⟩:=vals1 r;cases rx;have fin:∀(BT:Da Value),Vals ys BT->ys.length<=sizeLine->∀(h':Heap)(c':Nat),(∀b o',s.heap.get? b=some o'->h'.get? b=some o')->
   h'.get? s.heap.objs.size=some { cls:=.type "list",dict:=none,data:=.seq BT.toArray c',slots:=#[] }->EP X AC σ Q (.ref s.heap.objs.size) { s with heap:=h' }:=λBT r' hz h' c' kp e=>
  (.ref s.heap.objs.size,_,I.laid (t':=s.toks) kp (aO _) (show e_ X.prog X.w _ h' _ (.lst ys)from(hz,BT,c',r',e)),Z,q _ (I.hok.fresh (aO _)))
 rcases hq with hq|hq
 .obtain ⟨BT,r',pl,hz⟩:=I.list hq;have hlen:=r'.length;obtain⟨o,ho,hc,n,hd⟩:=pl.isList;exact call_list_seq p (.inl rfl) ho hc hd (λh' c' kp e=>fin BT r' hz h' c' kp e) (by simp only[iW] <;> omega)
 .obtain ⟨BT,r',pl,hz⟩:=I.tuple hq;have hlen:=r'.length;obtain⟨o,ho,hc,n,hd⟩:=pl;exact call_list_seq p (.inr rfl) ho hc hd (λh' c' kp e=>fin BT r' hz h' c' kp e) (by simp only[iW] <;> omega)
theorem JY:iL X (.type "tuple") (λxs H Q=>∃p ys,xs=[.ref p]/\((aC X.K H p ys/\∀l,H l=none->Q (.ref l) (upd H l (.tup ys)))\/(cU X.K H p ys/\Q (.ref p) H))):=by
 intro AC s σ H xs us Q I r h;obtain⟨p,ys,rfl,h⟩:=h;obtain⟨u,rfl,rx⟩:=vals1 r;cases rx;rcases h with⟨hq,q⟩|⟨hq,q⟩
 .obtain ⟨BT,r',pl,hz⟩:=I.list hq;have hlen:=r'.length;refine call_tuple_list pl.isList (λh' kp=>?_) (by simp only[iW] <;> omega);have I1:Inv X AC σ H { s with heap:=h' }:=I.kept (t':=s.toks) kp;have I2:Inv X AC σ (upd H h'.objs.size (.tup ys)) { s with heap:=h'.push { cls:=.type "tuple",data:=.seq BT.toArray } }:=
   I1.laid (t':=s.toks) (λb o e=>cN _ e) (aO _) (show e_ X.prog X.w _ _ _ (.tup ys)from(hz,BT,r',IsTup.new _ _))
  exact(.ref h'.objs.size,_,I2,Z,q _ (I1.hok.fresh (aO _)))
 .obtain ⟨BT,r',pl,hz⟩:=I.tuple hq;exact call_tuple_same pl (.ref p,H,I,Z,q)
def tyV(K:Fg)(T:String)(x:V)(H:Hp):Prop:=match x with
 | .str _=>T = "str"
 | .int _=>T = "int"
 | .ref p=>(T = "list"/\∃xs,aC K H p xs)\/(T = "tuple"/\∃o,K.lookup p=some o/\o.cls =.type "tuple"/\o.dict=none)\/
     (T = "dict"/\((∃AT,H p=some (.dK AT))\/∃AT,H p=some (.dT AT)))\/(T = "set"/\∃S n,H p=some (.set S n))
 | _=>False
def abN{T:String}{x:V}{v:Value}(I:Inv X AC σ H s)(r:RelV x v)(ty:tyV X.K T x H):s.TypeIs v T/\∀a,v =.ref a->∃ob,s.heap.get? a=some ob/\ob.dict=none:=by
 cases x with
 | str z=>obtain⟨t,rfl⟩:=r;cases(show T = "str" from ty);exact(typeIs_str s z t,λ_ e=>nomatch e)
 | int i=>obtain⟨t,rfl⟩:=r;cases(show T = "int" from ty);exact(typeIs_int s i t,λ_ e=>nomatch e)
 | ref p=>
  cases r;rcases ty with⟨rfl,xs,hq⟩|⟨rfl,o,hk,hc,hd⟩|⟨rfl,hk⟩|⟨rfl,S,n,hk⟩
  .obtain ⟨BT,_,pl,_⟩:=I.list hq;refine(pl.isList.typeIs,λa e=>?_);cases e;obtain⟨o,n,e,c,hd,_⟩:=pl;exact(o,e,hd)
  .refine ((o,I.lK p o hk,hc),λa e=>?_);cases e;exact(o,I.lK _ o hk,hd)
  .have z:∃o,s.heap.get? p=some o/\o.ExactDict:=by
    rcases hk with⟨AT,hk⟩|⟨AT,hk⟩
    .obtain ⟨_,_,_,_,o,_,_,e,ex,_⟩:=I.hok p _ hk;exact(o,e,ex)
    .obtain ⟨_,_,_,_,o,_,_,e,ex,_⟩:=I.hok p _ hk;exact(o,e,ex)
   obtain⟨o,e,ex⟩:=z;refine((o,e,ex.1),λa e2=>?_);cases e2;exact(o,e,ex.2.1)
  .obtain ⟨o,_,_,_,e,ex,_⟩:=I.hok p _ hk;refine((o,e,ex.1),λa e2=>?_);cases e2;exact(o,e,ex.2.1)
 | _=>exact False.elim ty
def abO(r:V->Da V->Hp->VK->Prop)(Q:VK)(x:V):Da V->Hp->Prop:=λxs H2=>r x xs H2 Q
inductive aif(K:Fg)(T:String)(r:V->Da V->Hp->VK->Prop)(t:TA)(σ:St)(Q:VK)(x:V)(H1:Hp):Prop
 |mk(_:tyV K T x H1)(_:t σ H1 (abO r Q x))
def tBM(K:Fg)(T:String)(r:V->Da V->Hp->VK->Prop)(to:TE)(t:TA):TE:=λσ H Q=>to σ H (aif K T r t σ Q)
variable {o e:Expr}{es:Da Expr}{to:TE}{t:TA}{name:Str}{Bz cpos:Pos}{T id:String}{r:V->Da V->Hp->VK->Prop}
end
def MtM(X:Cx)(id:String)(r:V->Da V->Hp->VK->Prop):Prop:=∀(AC:AO)(s:Shared)(σ:St)(H:Hp)(x:V)(xs:Da V)(v:Value)(us:Da Value)(Q:VK),Inv X AC σ H s->RelV x v->Vals xs us->r x xs H Q->wpAny (model X.prog X.w) X.A (call (.builtin id) (v::us)) (EP X AC σ Q) X.xe s
theorem Vals.one:∀{x:V}{us:Da Value},Vals [x] us->∃u,us=[u]/\RelV x u
 | _,_,.cons r .nil=>(_,Z,r)
variable {us:Da Value}
theorem Vals.reverse(h:Vals xs us):Vals xs.reverse us.reverse:=by
 induction h with
 | nil=>exact .nil
 | cons r t ih=>rw[List.reverse_cons,List.reverse_cons];exact Vals.append ih (.cons r .nil)
theorem Vals.rep{xs:Da V}{us:Da Value}(h:Vals xs us):∀k:Nat,Vals (List.replicate k xs).flatten (List.replicate k us).flatten
 | 0=> .nil
 | k+1=>by rw[zP,zP,R_,R_];exact Vals.append h (Vals.rep h k)
theorem foldl_rep(BT:Da Value):∀(k:Nat)(Ap:Da Value),List.foldl (λx1 x2=>x1++x2) Ap.toArray (List.replicate k BT.toArray)=(Ap++(List.replicate k BT).flatten).toArray
 | 0,Ap=>by simp
 | k+1,Ap=>by
  have e:Ap.toArray++BT.toArray=(Ap++BT).toArray:=by simp
  have e2:(Ap++BT)++(List.replicate k BT).flatten=Ap++(List.replicate (k+1) BT).flatten:=by rw[zP,R_,LH]
  rw[<-e2,<-foldl_rep BT k (Ap++BT),<-e,zP,kT]
variable {t':Nat}
section
variable {X:Cx}{AC:AO}{σ:St}{H:Hp}{s:Shared}{l b:Addr}{xs ys zs:Da V}
def Inv.aih{f:Array Value->Array Value}(I:Inv X AC σ H s)(hH:H l=some (.lst xs))(e:s.heap.get? l=some { cls:=.type "list",data:=.seq BT.toArray n })(hf:f BT.toArray=its'.toArray)(hv:Vals ys its')(hz:ys.length<=sizeLine):
  Inv X AC σ (upd H l (.lst ys)) { s with heap:=s.heap.update l (Obj.mapSeq f),toks:=t' }:=by
 have q:=PySem.IsL.update e f
 rw[hf]at q
 refine I.write (x:=l) (e:=l) (hH▸trivial) (.inl rfl) (λb' u hb hu=>(Ly s.heap (Obj.mapSeq f) (cC hb)).trans hu) (_,q) ?_
 exact(hz,its',_,hv,q)
def Inv.abP(I:Inv X AC σ H s)(hv:Vals ys BT)(hz:ys.length<=sizeLine):Inv X AC σ (upd H s.heap.objs.size (.lst ys)) { s with heap:=s.heap.push { cls:=.type "list",data:=.seq BT.toArray },toks:=t' }:=I.laid (λ_ _ q=>cN _ q) (aO _) (hz,BT,0,hv,ff _ rfl)
theorem Inv.fresh(I:Inv X AC σ H s):H s.heap.objs.size=none:=I.hok.fresh (aO _)
def Inv.So(I:Inv X AC σ H s)(hH:H l=some (.lst xs)):xs.length<=sizeLine/\∃(BT:Da Value)(n:Nat),Vals xs BT/\xs.length=BT.length/\s.heap.get? l=some { cls:=.type "list",data:=.seq BT.toArray n }:=by obtain⟨z,BT,n,r,e⟩:=I.hok l _ hH;exact(z,BT,n,r,r.length,e)
theorem WJ(h:n<=sizeLine):Builtin.List.listTooLong n=false:=by unfold Builtin.List.listTooLong;exact dM (by omega)
end
section
variable {X:Cx}
inductive Zz(x:V)(vs:Da V)(H:Hp)(Q:VK):Prop
 |mk(l xs y:_)(_:x =.ref l)(_:vs=[y])(_:H l=some (.lst xs))(_:xs.length<sizeLine)(_:Q .cK (upd H l (.lst (xs++[y]))))
theorem fh:MtM X "list.append" Zz:=by intro AC s σ H x vs v us Q I rx rv h;obtain⟨l,xs,y,rfl,rfl,hH,hz,q⟩:=h;cases rx;obtain⟨u,rfl,ru⟩:=rv.one;obtain⟨z,BT,n,r,hl,e⟩:=I.So hH;refine call_meets F.slot_list_append (_,e,Z) F.entry_list_append (F.args_list_append_2 _ _) (PySem.list_append l BT.toArray n u (by rw[iW];omega)) (e,?_);refine(.cK,_,I.aih (its':=BT++[u]) hH e (by simp) (r.append (.cons ru .nil)) ?_,Z,q);rw[c7,List.length_singleton];omega
inductive abQ(x:V)(y:V)(H:Hp)(Q:VK):Prop
 |mk(l b xs zs:_)(_:x =.ref l)(_:y =.ref b)(_:H l=some (.lst xs))(_:H b=some (.lst zs))(_:xs.length+zs.length<=sizeLine)(_:∀p,H p=none->Q (.ref p) (upd H p (.lst (xs++zs))))
theorem Uk:jU X (binaryOp .Add) abQ:=by
 intro AC s σ H x y v u Q I rx ry h;obtain⟨l,b,xs,zs,rfl,rfl,hH,hB,hz,q⟩:=h;cases rx;cases ry;obtain⟨z,BT,n,r,hl,e⟩:=I.So hH;obtain⟨z2,its2,n2,r2,hl2,e2⟩:=I.So hB;refine PySem.P.add_list e e2 ?_ (by rw[iW,iW];omega);have ea:BT.toArray++its2.toArray=(BT++its2).toArray:=by simp
 rw[ea];exact(.ref _,_,I.abP (t':=s.toks) (r.append r2) (by rw[c7];omega),Z,q _ I.fresh)
inductive aii(x:V)(y:V)(H:Hp)(Q:VK):Prop
 |mk(l k xs:_)(_:x =.ref l)(_:y =.int k)(_:H l=some (.lst xs))(_:-(2 ^ 63)<=k)(_:k<2 ^ 63)(_:xs.length*k.toNat<=sizeLine)(_:∀p,H p=none->Q (.ref p) (upd H p (.lst (List.replicate k.toNat xs).flatten)))
def len_rep{α:Type}(xs:Da α)(k:Nat):(List.replicate k xs).flatten.length=k*xs.length:=by
 induction k with
 | zero=>simp
 | succ k ih=>rw[zP,R_,c7,ih,Nat.succ_mul,Nat.add_comm]
theorem Ul:jU X (binaryOp .Mult) aii:=by
 intro AC s σ H x y v u Q I rx ry h;obtain⟨l,k,xs,rfl,rfl,hH,h1,h2,hz,q⟩:=h;cases rx;obtain⟨t,rfl⟩:=ry;obtain⟨z,BT,n,r,hl,e⟩:=I.So hH;have hlen:BT.toArray.size*k.toNat<=sizeLine:=by rw[iW,<-hl];exact hz
 have hcap:¬ BT.toArray.size*k.toNat>(2 ^ 63-1) / 8:=by
  have:(sizeLine:Nat)<=(2 ^ 63-1) / 8:=by decide
  omega
 have hfit:¬ (!Builtin.List.listFitsIndex k)=true:=by rw[fitsIndex_both h1 h2];exact gZ
 have aeS:¬ Builtin.List.listTooLong (BT.toArray.size*k.toNat)=true:=by rw[WJ hlen];exact gZ
 have hnew:List.foldl (λx1 x2=>x1++x2) #[] (List.replicate (if BT.toArray.isEmpty=true then 0 else k.toNat) BT.toArray)=(List.replicate k.toNat BT).flatten.toArray:=by
  have f0:∀m:Nat,List.foldl (λx1 x2=>x1++x2) #[] (List.replicate m BT.toArray)=(List.replicate m BT).flatten.toArray:=λm=>by have:=foldl_rep BT m [];rw[Ld]at this;exact this
  rw[f0];cases BT with
  | nil=>simp
  | cons a r'=>rw[av (by simp)]
 refine wpAny_binaryOp_repeat_ref (T:="list") (U:="int") (by decide) (_,e,Z) (λs'=>typeIs_int s' k t) noFill_list_mul F.fills_int_mul F.slot_int_rmul repeat_list F.slot_int_index.lookup
  (call_meets F.slot_int_rmul (typeIs_int s k t) F.entry_int_rmul (F.args_int_rmul_2 _ _) (int___rmul___int_list k t l BT.toArray n)
    (e,Z,(_,e,Z),call_meets F.slot_list_mul (_,e,Z) F.entry_list_mul (F.args_list_mul_2 _ _) (AutoListH.list___mul___list_int_3 l BT.toArray n k t hfit hcap aeS) (e,?_)))
 rw[hnew];exact(.ref _,_,I.abP (t':=s.toks) (r.rep k.toNat) (by rw[len_rep,Nat.mul_comm];exact hz),Z,q _ I.fresh)
end
section
variable {prog:Program}{w:World}{A:Around}{E:VS}{s:Shared}
set_option maxRecDepth 100000 in
end
section
variable {X:Cx}
end
section
variable {κ:Type}[DecidableEq κ]
def eE(AT:Da (κ×V))(k:κ):Option V:=(AT.find? λkv=>decide (kv.1=k)).map (·.2)
noncomputable def putK(AT:Da (κ×V))(k:κ)(v:V):Da (κ×V):=if(AT.any λkv=>decide (kv.1=k))=true then AT.map (λkv=>if kv.1=k then(kv.1,v) else kv) else AT++[(k,v)]
def nW(AT:Da (κ×V))(k:κ):Da (κ×V):=AT.filter λkv=>decide (kv.1≠k)
def iB{p:κ×V}{r:Da (κ×V)}{k:κ}(e:p.1=k):eE (p::r) k=some p.2:=by simp[eE,qU,e]
def fM{p:κ×V}{r:Da (κ×V)}{k:κ}(e:¬ p.1=k):eE (p::r) k=eE r k:=by simp[eE,qU,e]
theorem sZ(k:κ):∀AT:Da (κ×V),(AT.any λkv=>decide (kv.1=k))=(eE AT k).isSome
 | []=>rfl
 | p::r=>by
  rw[ET];by_cases e:p.1=k
  .simp only[iB e,bR e,Bool.true_or,Option.isSome_some]
  .rw [fM e,dM e,Bool.false_or];exact sZ k r
theorem L7(k j:κ)(y:V):∀AT:Da (κ×V),eE (AT.map λkv=>if kv.1=k then(kv.1,y) else kv) j=(eE AT j).map λx=>if j=k then y else x
 | []=>rfl
 | p::r=>by
  have ih:=L7 k j y r;rw[bK];by_cases h:p.1=k
  .rw [ay h];by_cases e:p.1=j
   .rw [iB (p:=(p.1,y)) e,iB e,Le,ay (e.symm.trans h)]
   .rw [fM (p:=(p.1,y)) e,fM e,ih]
  .rw [av h];by_cases e:p.1=j
   .rw [iB (p:=p) e,iB e,Le,av (λz=>h (e.trans z))]
   .rw [fM (p:=p) e,fM e,ih]
theorem IV(k j:κ)(y:V):∀AT:Da (κ×V),eE AT k=none->eE (AT++[(k,y)]) j=if j=k then some y else eE AT j
 | [],_=>by
  by_cases e:k=j
  .rw [ay e.symm];exact iB (p:=(k,y)) e
  .rw [av (λz=>e z.symm)];exact fM (p:=(k,y)) e
 | p::r,hn=>by
  rw[Lb];have hk:¬ p.1=k:=λz=>by rw[iB z]at hn;cases hn
  rw[fM hk]at hn;have ih:=IV k j y r hn;by_cases e:p.1=j
  .rw [iB e,iB e,av (λz=>hk (e.trans z))]
  .rw [fM e,fM e,ih]
def WK(AT:Da (κ×V))(k j:κ)(y:V):eE (putK AT k y) j=if j=k then some y else eE AT j:=by
 unfold putK;by_cases a:(AT.any λkv=>decide (kv.1=k))=true
 .rw [ay a,L7];rw[sZ]at a;by_cases e:j=k
  .obtain ⟨x,hx⟩:=Option.isSome_iff_exists.mp a;rw[ay e,e,hx,Le,ay rfl]
  .rw [av e];cases eE AT j with
   | none=>rfl
   | some x=>rw[Le,av e]
 .rw [av a];refine IV k j y AT ?_;rw[sZ]at a;cases q:eE AT k with
  | none=>rfl
  | some x=>rw[q]at a;exact(a rfl).elim
theorem yF(AT:Da (κ×V))(k:κ)(v:V):(putK AT k v).length<=AT.length+1:=by
 unfold putK;split
 .rw [aG];omega
 .rw [c7,ig,List.length_nil];omega
def qc{AT:Da (κ×V)}{k:κ}(v:V)(h:eE AT k=none):putK AT k v=AT++[(k,v)] :=by unfold putK;rw[sZ,h];exact av (by decide)
def oR.qH{o:Option V}{u:Option Value}(r:oR o u):o.isSome=u.isSome:=by
 cases o with
 | none=>cases u with
   | none=>rfl
   | some _=>exact(show False from r).elim
 | some _=>cases u with
   | none=>exact(show False from r).elim
   | some _=>rfl
def KV.val{AT:Da (κ×V)}{vs:Da (κ×Value)}(r:KV AT vs)(k:κ):oR (eE AT k) (valueAt vs k):=by
 unfold KV at r
 induction r with
 | nil=>exact True.intro
 | @cons p q ps qs h t ih=>
  obtain⟨h1,h2⟩:=h;by_cases e:p.1=k
  .have e':q.1=k:=h1.symm.trans e;have b:valueAt (q::qs) k=some q.2:=by simp[valueAt,qU,e']
   rw[iB e,b];exact h2
  .have e':¬ q.1=k:=λz=>e (h1.trans z);have b:valueAt (q::qs) k=valueAt qs k:=by simp[valueAt,qU,e']
   rw[fM e,b];exact ih
theorem KV.any{AT:Da (κ×V)}{vs:Da (κ×Value)}(r:KV AT vs)(k:κ):(AT.any λkv=>decide (kv.1=k))=vs.any λkv=>decide (kv.1=k):=by
 unfold KV at r
 induction r with
 | nil=>rfl
 | cons h t ih=>rw[ET,ET,ih,h.1]
def KV.repl{AT:Da (κ×V)}{vs:Da (κ×Value)}(r:KV AT vs)(k:κ)(ry:RelV y u):KV (AT.map λkv=>if kv.1=k then(kv.1,y) else kv) (vs.map λkv=>if kv.1=k then(kv.1,u) else kv):=by
 unfold KV at r ⊢
 induction r with
 | nil=>exact .nil
 | @cons p q ps qs h t ih=>
  rw[bK,bK];refine .cons ?_ ih;obtain⟨h1,h2⟩:=h;by_cases e:p.1=k
  .rw [ay e,ay (h1.symm.trans e)];exact(h1,ry)
  .rw [av e,av (λz=>e (h1.trans z))];exact(h1,h2)
def KV.put{AT:Da (κ×V)}{vs:Da (κ×Value)}(r:KV AT vs)(k:κ)(ry:RelV y u):KV (putK AT k y) (stored vs k u):=by
 unfold putK stored;rw[r.any k];by_cases e:(vs.any λkv=>decide (kv.1=k))=true
 .rw [ay e,ay e];exact r.repl k ry
 .rw [av e,av e];exact Paired.snoc r (Z,ry)
def KV.drop{AT:Da (κ×V)}{vs:Da (κ×Value)}(r:KV AT vs)(k:κ):KV (nW AT k) (without vs k):=by
 unfold KV at r ⊢;unfold nW without
 induction r with
 | nil=>exact .nil
 | @cons p q ps qs h t ih=>
  obtain⟨h1,h2⟩:=h;rw[ir,ir];by_cases e:p.1=k
  .have a:¬ decide (p.1≠k)=true:=by simp[e]
   have b:¬ decide (q.1≠k)=true:=by simp[h1.symm.trans e]
   rw[av a,av b];exact ih
  .have e':¬ q.1=k:=λz=>e (h1.trans z);have a:decide (p.1≠k)=true:=by simp[e]
   have b:decide (q.1≠k)=true:=by simp[e']
   rw[ay a,ay b];exact .cons (h1,h2) ih
theorem KV.length{AT:Da (κ×V)}{vs:Da (κ×Value)}(r:KV AT vs):AT.length=vs.length:=Paired.length r
def WL(AT:Da (κ×V))(k:κ):(nW AT k).length<=AT.length:=G1 _ _
end
variable {P:Program}{w:World}
def z8{k:Key}(r:RelV (kV k) u):(dh P w).is k u=true:=by
 cases k with
 | inl i=>obtain⟨t,e⟩:=(show ∃t,u=Value.int i t from r);subst e;exact OX P w i t
 | inr x=>obtain⟨t,e⟩:=(show ∃t,u=Value.str x t from r);subst e;exact OY P w x t
theorem IW{P:Program}{w:World}:∀{ks:Da Key}{us:Da Value},Vals (ks.map kV) us->ItemsAre (dh P w) ks us
 | [],_,r=>by rw[List.map_nil]at r;cases r;exact .nil
 | k::ks,_,r=>by
  rw[bK]at r;cases r with
  | cons h t=>exact .cons (z8 h) (IW t)
abbrev KT(H:Hp):Da (Da Key×V)->Da (Da Key×Addr×Value)->Prop:=Paired λp q=>p.1=q.1/\H q.2.1=some (.tup (p.1.map kV))/\RelV p.2 q.2.2
def KT.val{AT:Da (Da Key×V)}{xs:Da (Da Key×Addr×Value)}(r:KT H AT xs)(k:Da Key):oR (eE AT k) ((atKey xs k).map (·.2)):=by
 induction r with
 | nil=>exact True.intro
 | @cons p q ps qs h t ih=>
  obtain⟨h1,_,h2⟩:=h;by_cases e:p.1=k
  .have e':q.1=k:=h1.symm.trans e;have b:atKey (q::qs) k=some q.2:=by simp[atKey,qU,e']
   rw[iB e,b];exact h2
  .have e':¬ q.1=k:=λz=>e (h1.trans z);have b:atKey (q::qs) k=atKey qs k:=by simp[atKey,qU,e']
   rw[fM e,b];exact ih
def KT.repl{AT:Da (Da Key×V)}{xs:Da (Da Key×Addr×Value)}(r:KT H AT xs)(k:Da Key)(ry:RelV y u):KT H (AT.map λkv=>if kv.1=k then(kv.1,y) else kv) (xs.map (putAt k u)):=by
 induction r with
 | nil=>exact .nil
 | @cons p q ps qs h t ih=>
  rw[bK,bK];refine .cons ?_ ih;obtain⟨h1,h2,h3⟩:=h;unfold putAt;by_cases e:p.1=k
  .rw [ay e,ay (h1.symm.trans e)];exact(h1,h2,ry)
  .rw [av e,av (λz=>e (h1.trans z))];exact(h1,h2,h3)
def KT.put{AT:Da (Da Key×V)}{xs:Da (Da Key×Addr×Value)}(r:KT H AT xs)(k:Da Key){b:Addr}(hb:H b=some (.tup (k.map kV)))(ry:RelV y u):KT H (putK AT k y) (storedH xs k b u):=by
 have e:(AT.any λkv=>decide (kv.1=k))=(atKey xs k).isSome:=by rw[sZ,(r.val k).qH,Option.isSome_map]
 unfold putK storedH;rw[e];by_cases q:(atKey xs k).isSome=true
 .rw [ay q,ay q];exact r.repl k ry
 .rw [av q,av q];exact Paired.snoc r (Z,hb,ry)
variable {H':Hp}
def KT.keeps{AT:Da (Da Key×V)}{xs:Da (Da Key×Addr×Value)}(r:KT H AT xs)(ht:∀b ys,H b=some (.tup ys)->H' b=some (.tup ys)):KT H' AT xs:=Paired.Wm r λ_ _ z=>(z.1,ht _ _ z.2.1,z.2.2)
variable {AT:Da (Key×V)}
section
variable {P:Program}{w:World}{H:Hp}{h:Heap}{a:Addr}
def Yu{u:HO}(ok:jF P w H h)(e:Rd H a u):e_ P w H h a u:=e.ok ok
def ue(ok:jF P w H h)(e:Rd H a (.dK AT)):AT.length<=sizeLine/\(a==sysModules)=false/\∃vs,KV AT vs/\h.DictOf (dh P w) a vs:=
 show e_ P w H h a (.dK AT)from Yu ok e
def E6(ok:jF P w H h)(e:H a=some (.dK AT)):AT.length<=sizeLine/\(a==sysModules)=false/\∃vs,KV AT vs/\h.DictOf (dh P w) a vs:=ue ok (.inl e)
def Bo{ks:Da Key}(ok:jF P w H h)(e:H a=some (.tup (ks.map kV))):(tupleKind (dh P w)).is h ks a:=by
 obtain⟨_,BT,r,o,h1,h2,n,h3⟩:=(show e_ P w H h a (.tup (ks.map kV))from ok a _ e)
 exact(o,BT.toArray,n,h1,h2,h3,by simpa using IW r)
def CM{AT:Da (Da Key×V)}(ok:jF P w H h)(e:Rd H a (.dT AT)):AT.length<=sizeLine/\(a==sysModules)=false/\∃xs,KT H AT xs/\h.DictOfH (tupleKind (dh P w)) a xs:=by
 obtain⟨z,y,xs,r,o,es,ep,h1,h2,h3,h4,h5⟩:=(show e_ P w H h a (.dT AT)from Yu ok e)
 refine(z,y,xs,r,o,es,ep,h1,h2,h3,h4,λx hx=>?_,h5);have all:∀{l:Da (Da Key×V)}{m:Da (Da Key×Addr×Value)},KT H l m->∀x∈m,(tupleKind (dh P w)).is h x.1 x.2.1:=by
  intro l m q
  induction q with
  | nil=>intro x hx;exact nomatch hx
  | @cons p q ps qs hq t ih=>
   intro x hx;rcases dW.mp hx with e|hx
   .subst e;exact Bo ok (hq.1▸hq.2.1)
   .exact ih x hx
 exact all r x hx
def aeT{AT:Da (Da Key×V)}(ok:jF P w H h)(e:H a=some (.dT AT)):AT.length<=sizeLine/\(a==sysModules)=false/\∃xs,KT H AT xs/\h.DictOfH (tupleKind (dh P w)) a xs:=CM ok (.inl e)
end
def cD(H:Hp)(a:Addr)(y:V)(r:Option V):Prop:=(∃AT k,Rd H a (.dK AT)/\y=kV k/\r=eE AT k)\/∃AT k b,Rd H a (.dT AT)/\y =.ref b/\H b=some (.tup (k.map kV))/\r=eE AT k
def uY(H:Hp)(a:Addr)(y v:V)(H':Hp):Prop:=(∃AT k,H a=some (.dK AT)/\y=kV k/\AT.length<sizeLine/\H'=upd H a (.dK (putK AT k v)))\/
 ∃AT k b,H a=some (.dT AT)/\y =.ref b/\H b=some (.tup (k.map kV))/\AT.length<sizeLine/\H'=upd H a (.dT (putK AT k v))
variable {a:Addr}
theorem cD.k{k:Key}(e:H a=some (.dK AT)):cD H a (kV k) (eE AT k):=.inl (AT,k,.inl e,Z,Z)
theorem uY.k{k:Key}{v:V}(e:H a=some (.dK AT))(hl:AT.length<sizeLine):uY H a (kV k) v (upd H a (.dK (putK AT k v))):=.inl (AT,k,e,Z,hl,Z)
section
variable {X:Cx}{AC:AO}{σ:St}{H:Hp}{s:Shared}{a:Addr}{y v:V}{u r:Value}{o:Option V}{A:Around}{E:VS}
def Inv.big(I:Inv X AC σ H s):sysModules<s.heap.objs.size:=by have h:mainGlobals<s.heap.objs.size:=(I.mod.glob.keeps I.bk).lt;exact Nat.lt_trans (by decide) h
def Um{Q:VS}(hu:A.units+1<cLine)(I:Inv X AC σ H s)(g:cD H a y (some v))(ry:RelV y u)(h:∀w' s',Inv X AC σ H s'->RelV v w'->Q w' s'):wpAny (model X.prog X.w) A (getItem (.ref a) u) Q E s:=by
 rcases g with⟨AT,k,e,ey,l⟩|⟨AT,k,b,e,ey,eb,l⟩
 .subst ey;obtain⟨z,hd,vs,rel,dd⟩:=ue I.hok e;obtain⟨w',hw,rw'⟩:=oR.some_of (v:=v) (o:=valueAt vs k) (l▸rel.val k);exact wpAny_getItem_of (z8 ry) dd.mapOf hw (h w' _ (I.tok _) rw')
 .subst ey;cases(show u=Value.ref b from ry);obtain⟨z,hd,xs,rel,dd⟩:=CM I.hok e;obtain⟨w',hw,rw'⟩:=oR.some_of (v:=v) (o:=(atKey xs k).map (·.2)) (l▸rel.val k);obtain⟨p,hp,hp2⟩:=nt.mp hw;refine wpAny_getItem_heap (R7 hu) (Bo I.hok eb) dd hp ?_;rw[hp2];exact h w' _ (I.tok _) rw'
def aij{Q:VS}(hu:A.units+1<cLine)(I:Inv X AC σ H s)(g:cD H a y o)(ry:RelV y u)(h:∀s',Inv X AC σ H s'->Q (.bool o.isSome) s'):wpAny (model X.prog X.w) A (compareOp .In u (.ref a)) Q E s:=by
 rcases g with⟨AT,k,e,ey,l⟩|⟨AT,k,b,e,ey,eb,l⟩
 .subst ey;obtain⟨z,hd,vs,rel,dd⟩:=ue I.hok e;refine wpAny_in_of (z8 ry) hd dd.mapOf ?_;rw[<-(rel.val k).qH,<-l];exact h _ (I.tok _)
 .subst ey;cases(show u=Value.ref b from ry);obtain⟨z,hd,xs,rel,dd⟩:=CM I.hok e;refine wpAny_in_heap (R7 hu) (Bo I.hok eb) hd dd ?_;have q:=(rel.val k).qH;rw[Option.isSome_map]at q;rw[<-q,<-l];exact h _ (I.tok _)
def ZA{Q:VS}(hu:A.units+1<cLine)(I:Inv X AC σ H s)(g:cD H a y o)(ry:RelV y u)(h:∀s',Inv X AC σ H s'->Q (.bool (!o.isSome)) s'):wpAny (model X.prog X.w) A (compareOp .NotIn u (.ref a)) Q E s:=by
 rcases g with⟨AT,k,e,ey,l⟩|⟨AT,k,b,e,ey,eb,l⟩
 .subst ey;obtain⟨z,hd,vs,rel,dd⟩:=ue I.hok e;refine wpAny_notIn_of (z8 ry) hd dd.mapOf ?_;rw[<-(rel.val k).qH,<-l];exact h _ (I.tok _)
 .subst ey;cases(show u=Value.ref b from ry);obtain⟨z,hd,xs,rel,dd⟩:=CM I.hok e;refine wpAny_notIn_heap (R7 hu) (Bo I.hok eb) hd dd ?_;have q:=(rel.val k).qH;rw[Option.isSome_map]at q;rw[<-q,<-l];exact h _ (I.tok _)
def CN(I:Inv X AC σ H s)(mu:TQ (H a))(hs:Heap.SameBut a s.heap h')(he:∃q,h'.get? a=some q)(new:e_ X.prog X.w (upd H a ob) h' a ob):Inv X AC σ (upd H a ob) { s with heap:=h',toks:=t' }:=I.write (x:=a) (e:=a) mu (.inl rfl) (λb q hb z=>(hs.2 b hb).trans z) he new
def L8{h':Heap}{vs:Da (Key×Value)}(z:AT.length<=sizeLine)(hd:(a==sysModules)=false)(rel:KV AT vs)(dd:h'.DictOf (dh P w) a vs):e_ P w H' h' a (.dK AT):=(z,hd,vs,rel,dd)
theorem Uo{Q:Unit->Shared->Prop}(hu:A.units+1<cLine)(I:Inv X AC σ H s)(g:uY H a y v H')(ry:RelV y u)(rv:RelV v r)(h:∀s',Inv X AC σ H' s'->Q () s'):wpAny (model X.prog X.w) A (setItem (.ref a) u r) Q E s:=by
 rcases g with⟨AT,k,e,ey,l,eH⟩|⟨AT,k,b,e,ey,eb,l,eH⟩
 .subst ey eH;obtain⟨z,hd,vs,rel,dd⟩:=E6 I.hok e;have hz:vs.length<=sizeLine:=rel.length▸z;have hl:(putK AT k v).length<=sizeLine:=by have:=yF AT k v;omega
  refine wpAny_setItem_pairs (hsz:=hz) (z8 ry) dd λh' Dw hs=>h _ ?_;have he:∃q,h'.get? a=some q:=let(q,_,_,hq,_):=Dw;(q,hq);exact CN I (e▸True.intro) hs he (L8 hl hd (rel.put k rv) Dw)
 .subst ey eH;cases(show u=Value.ref b from ry);obtain⟨z,hd,xs,rel,dd⟩:=aeT I.hok e;have hz:xs.length<=sizeLine:=Paired.length rel▸z;have hl:(putK AT k v).length<=sizeLine:=by have:=yF AT k v;omega
  refine wpAny_setItem_heap (hsz:=hz) (R7 hu) (Bo I.hok eb) dd λh' Dw hs=>h _ ?_;obtain⟨q,es,ep,hq,h2,h3,h4,_,h5⟩:=Dw;refine CN I (e▸True.intro) hs (q,hq) (hl,hd,_,(rel.put k eb rv).keeps λc ys ec=>?_,q,es,ep,hq,h2,h3,h4,h5);rw[aA (jR ec e (λz=>nomatch z))];exact ec
end
section
variable {X:Cx}{AC:AO}{σ:St}{H:Hp}{s:Shared}{a:Addr}{AT:Da (Key×V)}{k:Key}{u:Value}{A:Around}{E:VS}
def Up{Q:Unit->Shared->Prop}(I:Inv X AC σ H s)(e:H a=some (.dK AT))(ry:RelV (kV k) u)(l:(eE AT k).isSome=true)(h:∀s',Inv X AC σ (upd H a (.dK (nW AT k))) s'->Q () s'):wpAny (model X.prog X.w) A (delItem (.ref a) u) Q E s:=by
 obtain⟨z,hd,vs,rel,dd⟩:=E6 I.hok e;refine wpAny_delItem_slot dd.typeIs (by decide) PySem.F.slot_dict_delitem
  (call_meetsIn PySem.F.slot_dict_delitem dd.typeIs PySem.F.entry_dict_delitem (PySem.F.args_dict_delitem_2 _ _) (meets_dict_delitem_pairs (dh X.prog X.w) a (z8 ry)) (vs,dd,rel.length▸z,(rel.val k).qH▸l,λh' Dw hs=>h _ ?_))
 have he:∃q,h'.get? a=some q:=let(q,_,_,hq,_):=Dw;(q,hq);exact CN I (e▸True.intro) hs he (L8 (fG (WL AT k) z) hd (rel.drop k) Dw)
theorem aeU{Q:VS}(I:Inv X AC σ H s)(e:Rd H a (.dK AT))(h:∀t s',Inv X AC σ H s'->Q (.int AT.length t) s'):wpAny (model X.prog X.w) A (call (.builtin "len") [.ref a]) Q E s:=by obtain⟨z,hd,vs,rel,dd⟩:=ue I.hok e;refine call_len_dict hd dd (by rw[<-rel.length];rw[mY]at z;omega) ?_;rw[<-rel.length];exact h _ _ (I.tok _)
end
def abR(i:Expr):Prop:=∀ov iv,subscripted i false ov iv=operate [ov,iv] (getItem ov iv)
variable {E:VS}{env:Env}{value:Expr}{pos:Pos}
theorem ZC{prog:Program}{A:Around}{slice:Expr}{T id:String}{Q:VS}(hl:typeLookup (.type T) "__getitem__"=pure (some (.builtin id)))(hs:abR slice)(h:wpAny (model prog w) A (eval value env) (λo s₁=>wpAny (model prog w) A (eval slice env) (λi s₂=>s₂.TypeIs o T/\wpAny (model prog w) A (getItem o i) Q E s₂) E s₁) E s):
  wpAny (model prog w) A (eval (.Subscript value slice pos) env) Q E s:=by
 refine Subscript_ (j8 h (λo s₁ h₁=>j8 h₁ (λi s₂ h₂=>?_) λ_ _ x=>x) λ_ _ x=>x)
 obtain⟨hT,h₂⟩:=h₂
 unfold subscriptTail
 refine az ?_
 rw[getitemInPython_of_ne hT.not_modules]
 refine az (wpAny_specialOf hT hl ?_)
 have fin:wpAny (model prog w) A (subscripted slice false o i) (λr s₃=>wpAny (model prog w) A (letTemporaryGo value o r >>= λ_=>pure r) Q E s₃) E s₂:=by rw[hs o i];exact wpAny_operating (j8 h₂ (λr s₃ h₃=>az (wpAny_letTemporaryGo (bh h₃))) λ_ _ x=>x)
 first
  | exact bh (az fin)
  | exact az (bh (az fin))
  | exact az fin
variable {X:Cx}
def O0{o:Option V}(I:Inv X AC σ H s)(g:cD H a y o):s.TypeIs (.ref a) "dict":=by
 rcases g with⟨AT,k,e,_,_⟩|⟨AT,k,b,e,_,_,_⟩
 .obtain ⟨_,_,vs,_,dd⟩:=ue I.hok e;exact dd.typeIs
 .obtain ⟨_,_,xs,_,dd⟩:=CM I.hok e;exact dd.typeIs
inductive WM(Q:VK)(x:V)(y:V)(H2:Hp):Prop
 |mk(a v:_)(_:x =.ref a)(_:cD H2 a y (some v))(_:Q v H2)
def abS(ty:TE)(σ:St)(Q:VK):V->Hp->Prop:=λx H1=>ty σ H1 (WM Q x)
def Ss(td ty:TE):TE:=λσ H Q=>td σ H (abS ty σ Q)
inductive ZD(Q:VK)(y:V)(x:V)(H2:Hp):Prop
 |mk(a o:_)(_:x =.ref a)(_:cD H2 a y o)(_:Q (.bl o.isSome) H2)
def aeV(td:TE)(σ:St)(Q:VK):V->Hp->Prop:=λy H1=>td σ H1 (ZD Q y)
def aik(ty td:TE):TE:=λσ H Q=>ty σ H (aeV td σ Q)
inductive Su(Q:VK)(y:V)(x:V)(H2:Hp):Prop
 |mk(a o:_)(_:x =.ref a)(_:cD H2 a y o)(_:Q (.bl (!o.isSome)) H2)
def WN(td:TE)(σ:St)(Q:VK):V->Hp->Prop:=λy H1=>td σ H1 (Su Q y)
def ZE(ty td:TE):TE:=λσ H Q=>ty σ H (WN td σ Q)
inductive WO(D:Ends)(σ:St)(v:V)(x:V)(y:V)(H3:Hp):Prop
 |mk(a H4:_)(_:x =.ref a)(_:uY H3 a y v H4)(_:D.nx σ H4)
def WQ(ty:TE)(D:Ends)(σ:St)(v:V):V->Hp->Prop:=λx H2=>ty σ H2 (WO D σ v x)
def abT(td:TE)(ty:TE)(D:Ends)(σ:St):V->Hp->Prop:=λv H1=>td σ H1 (WQ ty D σ v)
def aeW(td ty tv:TE):TS:=λD σ H=>tv σ H (abT td ty D σ)
inductive WR(D:Ends)(σ:St)(x:V)(y:V)(H2:Hp):Prop
 |mk(a AT k:_)(_:x =.ref a)(_:H2 a=some (.dK AT))(_:y=kV k)(_:(eE AT k).isSome=true)(_:D.nx σ (upd H2 a (.dK (nW AT k))))
def abU(ty:TE)(D:Ends)(σ:St):V->Hp->Prop:=λx H1=>ty σ H1 (WR D σ x)
def aeX(td ty:TE):TS:=λD σ H=>td σ H (abU ty D σ)
section
variable {X:Cx}{o i e value:Expr}{pos pos' tpos:Pos}{td ty tv:TE}
end
def L_(h:Heap)(hb:sysModules<h.objs.size):e_ P w H (h.push { cls:=.type "dict",data:=.dict #[] }) h.objs.size (.dK []):=(gE _,G_.mpr (cC (fq hb)),[],.nil,Heap.DictOf.new h)
def abV:TE:=λ_ H Q=>∀p,H p=none->Q (.ref p) (upd H p (.dK []))
section
variable {X:Cx}{pos:Pos}
end
def Bp:Da (TE×TE)->St->Hp->(Da (V×V)->Hp->Prop)->Prop
 | [],_,H,Q=>Q [] H
 | (tk,tv)::r,σ,H,Q=>tk σ H λx H1=>tv σ H1 λy H2=>Bp r σ H2 λps H3=>Q ((x,y)::ps) H3
abbrev VV:Da (V×V)->Da (Value×Value)->Prop:=Paired λp q=>RelV p.1 q.1/\RelV p.2 q.2
def PPs(X:Cx)(pos:Pos)(keys:Da (Option Expr))(values:Da Expr)(E7:Da (TE×TE)):Prop:=∀(AC:AO)(s:Shared)(σ:St)(H:Hp)(Q:Da (V×V)->Hp->Prop),Inv X AC σ H s->Bp E7 σ H Q->wpAny (model X.prog X.w) X.A (evalPairs (pairTrees keys values X.env pos)) (λvs s'=>∃ps H',Inv X AC σ H' s'/\VV ps vs/\Q ps H') X.xe s
def yX(AT more:Da (Key×V)):Da (Key×V):=more.foldl (λAp kv=>putK Ap kv.1 kv.2) AT
def KV.merge:∀{more:Da (Key×V)}{rs:Da (Key×Value)}{AT:Da (Key×V)}{vs:Da (Key×Value)},KV more rs->KV AT vs->KV (yX AT more) (merged vs rs):=by
 intro more rs AT vs r;unfold KV at r
 induction r generalizing AT vs with
 | nil=>intro q;exact q
 | @cons p q ps qs h t ih=>
  intro r0;have e:KV (putK AT p.1 p.2) (stored vs q.1 q.2):=by have:=r0.put p.1 h.2;rw[<-h.1];exact this
  exact ih e
theorem AL:∀(more AT:Da (Key×V)),(yX AT more).length<=AT.length+more.length
 | [],AT=>by show AT.length<=AT.length+0;omega
 | p::r,AT=>by have h1:=AL r (putK AT p.1 p.2);have h2:=yF AT p.1 p.2;show(yX (putK AT p.1 p.2) r).length<=_;rw[ig];omega
theorem E8{P:Program}{w:World}:∀{AT:Da (Key×V)}{ws:Da (Value×Value)},VV (AT.map λkv=>(kV kv.1,kv.2)) ws->∃rs,Carries (dh P w) ws rs/\KV AT rs
 | [],_,r=>by rw[List.map_nil]at r;cases r;exact([],True.intro,.nil)
 | p::AT,_,r=>by
  rw[bK]at r;cases r with
  | @cons a b as bs h t=>obtain⟨rs,c,q⟩:=E8 (P:=P) (w:=w) t;obtain⟨b1,b2⟩:=b;exact((p.1,b2)::rs,(z8 h.1,Z,c),.cons (Z,h.2) q)
def aeY(E7:Da (TE×TE)):TE:=λσ H Q=>∀p,H p=none->Bp E7 σ (upd H p (.dK [])) λps H2=>H2 p=some (.dK [])/\∃AT:Da (Key×V),ps=AT.map (λkv=>(kV kv.1,kv.2))/\AT.length<=15/\Q (.ref p) (upd H2 p (.dK (yX [] AT)))
def IsD(H:Hp)(a:Addr):Prop:=(∃AT,Rd H a (.dK AT))\/∃AT,Rd H a (.dT AT)
def Ma(I:Inv X AC σ H s)(d:IsD H a):s.TypeIs (.ref a) "dict"/\(∀b,Value.ref a =.ref b->∃ob,s.heap.get? b=some ob/\ob.dict=none)/\(a==sysModules)=false:=by
 rcases d with⟨AT,e⟩|⟨AT,e⟩
 .obtain ⟨_,hd,vs,_,dd⟩:=ue I.hok e;refine(dd.typeIs,λb q=>?_,hd);cases q;obtain⟨ob,_,_,h1,h2,_⟩:=dd;exact(ob,h1,h2.2.1)
 .obtain ⟨_,hd,xs,_,dd⟩:=CM I.hok e;refine(dd.typeIs,λb q=>?_,hd);cases q;obtain⟨ob,_,_,h1,h2,_⟩:=dd;exact(ob,h1,h2.2.1)
section
variable {X:Cx}{AC:AO}{σ:St}{H:Hp}{s:Shared}{a:Addr}{y d:V}{u r:Value}{o:Option V}{A:Around}{E:VS}
end
section
variable {X:Cx}{o e f:Expr}{Bz cpos:Pos}{td ty tx:TE}
end
section
variable {X:Cx}{AC:AO}{σ:St}{H:Hp}{s:Shared}{a:Addr}{AT:Da (Key×V)}{A:Around}{E:VS}
end
section
variable {X:Cx}{AC:AO}{σ:St}{H:Hp}{s:Shared}{a:Addr}{y:V}{u:Value}{A:Around}{E:VS}
end
end L2
namespace Att
open PySem PySem.W PySem.Calls PyProof.Rows
def E9{P:Params}{h:Heap}:∀(ns:Da Int)(vs:Da Value),WellAll P h vs (ns.map WData.int)->IntsAre vs ns:=by
 intro ns
 induction ns with
 | nil=>intro vs w;rw[List.map_nil]at w;cases w;exact .nil
 | cons n ns ih=>
  intro vs w;rw[bK]at w;cases w with
  | cons a b=>cases a;exact .cons _ _ (ih _ b)
theorem Uq{l:OpenLaw}{n:Nat}(hn:l.most=some n){P:Params}{h:Heap}{args:Da WData}{vals:Da Value}(hpre:l.row.toRowW.claim.pre args=true)(hwl:WellAll P h vals args):
  ∃a vs ns,vals=[Value.ref a]/\args=[WData.list (ns.map WData.int)]/\h.get? a=some { cls:=.type "list",data:=.seq vs.toArray }/\IntsAre vs ns/\ns.length<=n:=by
 have hsh:WShape.hasAll [] args [.list .int]=true:=(pre_splitW hpre).1
 have hc:l.pre.holds [] { args:=args }=true:=(pre_splitW hpre).2
 obtain⟨d,r,rfl,h1,h2⟩:=hasAllW_cons hsh
 obtain rfl:=hasAllW_nil h2
 obtain⟨xs,rfl,h3⟩:=hasW_list h1
 obtain⟨ns,rfl⟩:=items_int h3
 have hlen:ns.length<=n:=by
  unfold OpenLaw.pre at hc;have h4:(WTm.not (.lt (.lit (.int (n:Int))) (.len (.arg 0)))).holds [] { args:=[.list (ns.map .int)] }=true:=by have h4:=(holds_andW hc).1;rw[hn]at h4;exact h4
  have h5:=condW_of h4 (w_not (w_lt w_lit (w_len_list (w_arg rfl))));rw[aG]at h5;refine Nat.le_of_not_lt λq=>?_;have q':(n:Int)<((ns.length:Nat):Int):=by omega
  first
   | (rw[bR q']at h5;exact absurd h5 (by decide))
   | (simp at h5;omega)
 cases hwl with
 | cons w1 w2=>
   cases w2
   cases w1 with
   | list ho hall=>exact(_,_,ns,Z,Z,ho,E9 ns _ hall,hlen)
def Ur(l:OpenLaw)(args:Da WData):l.row.toRowW.claim.post args (.bool true) args=true:=postW_of (r:=l.row.toRowW) (X:=(true==true))
  (show WShape.has [] (.bool true) .bool=true by first|rfl|decide|simp[WShape.has,WShape.arms,WShape.armsAll])
  (show(WTm.eq .res (.lit (.bool true))).value [] { args:=args,res:=some (.bool true),after:=args }=some (.bool (true==true))from w_eq_bool (w_res rfl) w_lit) rfl
def O1{l:OpenLaw}{n:Nat}{q:Program}{loose:Da Str}{XP:(Str->Option Value)->Heap->Prop}{YP:World->Heap->Prop}{d:DefRec}(hn:l.most=some n)(hdf:d.params.defaults=[])(call:∀(w:World) (s₀ s₁:Shared) (mg mb:SO) (fa:Addr) (o:Obj) (pm cd doc:Value) (a:Addr) (vs:Da Value) (ns:Da Int),
    Ground q loose [] XP w s₀ mg mb s₁.heap->YP w s₁.heap->
    s₁.heap.get? fa=some o->o.data =.func (docDef d.name d.params d.body d.scope pm cd doc)->s₁.heap.CodeRec cd d.name->mg d.name=some (.ref fa)->
    s₁.heap.get? a=some { cls:=.type "list",data:=.seq vs.toArray }->IntsAre vs ns->ns.length<=n->s₁.gens=#[]->
    codeAny (model l.prog w) callerA (.call (.ref fa) ([.ref a],[])) (λr s'=>r =.ok (.ret (.bool true))/\OldK s₁.heap s'.heap/\s'.os=s₁.os/\AllBare s'.gens) s₁):
  WalkO q loose XP YP l.row.toRowW d [] (λf vs=>PySem.call f vs):=by
 intro w s₀ s₁ mg mb G Y fa o pm cd doc dV kV ho hd hcd hD hmg hg args vals as hpre hlay hrd hwl hlo
 obtain rfl:dV =.none:=Dflts.none hD hdf
 obtain rfl:kV =.none:=Dflts.noKw hD
 obtain⟨a,vs,ns,rfl,rfl,hobj,hints,hlen⟩:=Uq hn hpre hwl
 refine enter_call (codeAny_mono (call w s₀ s₁ mg mb fa o pm cd doc a vs ns G Y ho (fd_plain hd) hcd hmg hobj hints hlen hg) λr s' hq=>?_)
 obtain⟨rfl,h2,h3,h4⟩:=hq
 exact(.inl (.bool true,.bool true,[],Z,λ_=>rfl,.bool true,Ur l _,λ_=>(List.Pairwise.nil,λ_ hm=>(nomatch hm))),h2,h3,h4)
section
variable {prog:Program}{w:World}{A:Around}{E:VS}{s:Shared}{K:Frag}
end
end Att
namespace L2
open PySem PySem.Spec PyProof.Rows
theorem IZ:∀{vs:Da Value}{ns:Da Int},IntsAre vs ns->Vals (ns.map V.int) vs
 | _,_,.nil=> .nil
 | _,_,.cons n t h=> .cons (t,Z) (IZ h)
def WS(H:Hp):Prop:=∀b,H b=none\/∃o xs,H b=some (.fX o (.lst xs))
variable {P:Program}{w:World}{K:Fg}{mg:SO}{CX:Bm}{a:Addr}{fd:FuncData}{x:Str}{sp:Sp}{ns:Da Int}
def WT{mb:SO}{k:Nat}{fa:Addr}{s₁:Shared}{vs:Da Value}(KX:K.In s₁.heap)(hns:s₁.heap.Ns mainGlobals mg)(hb:s₁.heap.Ns builtinsNs mb)(hbb:∀x:Str,x ≠ "__name__"->mb x=bootBuiltins x)(hlim:s₁.heap.NoLimit)(hg:s₁.gens=#[])(ha:s₁.heap.get? a=some { cls:=.type "list",data:=.seq vs.toArray })(hi:IntsAre vs ns)(hl:ns.length<=sizeLine)(hr:fL k callerA)(F:∀base:Heap,K.In base->base.Ns mainGlobals mg->lu P w K mg base CX k fa fd [x] sp)(hbind:∀(s:Shared) (u:Value),BindsTo s fd ([u],[]) [(x,u)])(wF:∀H:Hp,WS H->aC K H a (ns.map V.int)->sp [.ref a] H (λv _=>v =.bl true) λ_ _ _=>False)(hCX:∀H e s',CX [] H s₁ (λ_ _ _=>False) e s'->False):
  codeAny (model P w) callerA (.call (.ref fa) ([.ref a],[])) (λr s'=>r =.ok (.ret (.bool true))/\OldK s₁.heap s'.heap/\s'.os=s₁.os/\AllBare s'.gens) s₁:=by
 have rv:=IZ hi
 have ail:=hi.length
 have core:∀H:Hp,WS H->aC K H a (ns.map V.int)->jF P w H s₁.heap->(∀b,H b≠none->b=a)->(H a≠none->K.lookup a=none)->
   codeAny (model P w) callerA (.call (.ref fa) ([.ref a],[])) (λr s'=>r =.ok (.ret (.bool true))/\OldK s₁.heap s'.heap/\s'.os=s₁.os/\AllBare s'.gens) s₁:=by
  intro H hO hS hok hA hK
  have QM:∀{b:Addr}{o:Obj},s₁.heap.get? b=some o->H b=none->(z6 s₁.heap H).get? b=some o:=λe n=>Wn e n
  have Ue:∀{b:Addr}{o:Obj}{es:Array DictEntry}{ep:Nat},s₁.heap.get? b=some o->o.data =.dict es ep->H b=none:=λ{b o es ep} e d=>by
   cases q:H b with
   | none=>rfl
   | some u=>have e':b=a:=hA b (by rw[q];simp);subst e';rw[ha]at e;cases e;have d':Data.seq vs.toArray _=Data.dict es ep:=d;cases d'
  have Yv:∀{b:Addr}{m:SO},s₁.heap.Ns b m->(z6 s₁.heap H).Ns b m:=λ{b m} ⟨o,es,ep,e,d,r⟩=>(o,es,ep,QM e (Ue e d),d,r)
  have hKb:K.In (z6 s₁.heap H):=λb o e=>QM (KX b o e) (by
   cases q:H b with
   | none=>rfl
   | some u=>have e':b=a:=hA b (by rw[q];simp);subst e';rw[hK (by rw[q];simp)]at e;cases e)
  have hM:Mod K mg (z6 s₁.heap H):=(hKb,Yv hns,(mb,Yv hb,hbb),let(mc,h1,h2):=hlim;(mc,Yv h1,h2))
  have e0:DW P w K mg (z6 s₁.heap H) callerA [] s₁ H:=(Z,hM,λb o e=>Zj e,Nat.le_of_eq (TR _ _),trivial,λb hb=>absurd (show b∈([] :Da Addr)from hb) (by simp),hok,.of_eq hg)
  refine codeAny_mono ((F _ hKb (Yv hns)).run callerA [] s₁ H ([.ref a],[]) [.ref a] [.ref a] _ _ hr e0 (hbind s₁ (.ref a)) (.cons rfl .nil) (wF H hO hS)) λr s' h=>?_
  cases r with
  | error e=>exact(hCX H e s' h).elim
  | ok fl=>
    cases fl with
    | next=>exact False.elim h
    | brk=>exact False.elim h
    | cont=>exact False.elim h
    | ret u=>
      obtain⟨v,H',os,bare,un,aim,r',q⟩:=h
      have q':v =.bl true:=q
      subst q'
      obtain rfl:u=Value.bool true:=r'
      refine(Z,OldK.of_keep λb o e=>?_,os,bare)
      cases q:H b with
      | none=>exact un.keep b o e q (by intro z;exact absurd (show b∈([] :Da Addr)from z) (by simp)) (by simp)
      | some u=>
        rcases hO b with z|⟨ob,xs,z⟩
        . rw[q]at z;cases z
        . have z2:=un.uU b ob _ z
          obtain⟨e1,_⟩:=hok b _ z
          obtain⟨e2,_⟩:=aim b _ z2
          rw[e]at e1;cases e1
          exact e2
 cases hk:K.lookup a with
 | some o=>
   have e:=KX a o hk
   rw[ha]at e
   cases e
   refine core (λ_=>none) (λ_=> .inl rfl) (.inr (_,vs.toArray,_,hk,Z,Z,Z,by rw[iW,ail];exact hl,by simpa using rv)) (λb u z=>by have z':(none:Option HO)=some u:=z;cases z') (λb z=>absurd rfl z) λz=>absurd rfl z
 | none=>
   refine core (λb=>if b=a then some (.fX { cls:=.type "list",data:=.seq vs.toArray } (.lst (ns.map V.int))) else none) (λb=>?_) (.inl (.inr ({ cls:=.type "list",data:=.seq vs.toArray },ay rfl))) (λb u z=>?_) (λb z=>?_) λ_=>hk
   . by_cases hb:b=a
     . exact .inr (_,_,ay hb)
     . exact .inl (av hb)
   . by_cases hb:b=a
     . have z':=(ay hb).symm.trans z
       cases z'
       subst hb
       exact(ha,by rw[aG];exact hl,vs,_,rv,ha)
     . have z':=(av hb).symm.trans z
       cases z'
   . by_cases hb:b=a
     . exact hb
     . exact absurd (av hb) z
variable {n:Nat}{XP:(Str->Option Value)->Heap->Prop}{YP:World->Heap->Prop}
def ZF{l:PySem.W.OpenLaw}{k:Nat}{q:Program}{loose:Da Str}{d:DefRec}{K:Params->Fg}{CX:World->Bm}{sp:World->Sp}(hn:l.most=some n)(hn2:n<=sizeLine)(hdf:d.params.defaults=[])(hr:fL k callerA)(hY:∀(w:World) (h:Heap),YP w h->(K w.params).In h)(F:∀(w:World) (mg:SO) (fa:Addr) (h:Heap),(K w.params).In h->h.Ns mainGlobals mg->mg d.name=some (.ref fa)->
    ∃fd:FuncData,(∀(s:Shared) (u:Value),BindsTo s fd ([u],[]) [(x,u)])/\
     ∀base:Heap,(K w.params).In base->base.Ns mainGlobals mg->lu l.prog w (K w.params) mg base (CX w) k fa fd [x] (sp w))(wF:∀(w:World) (H:Hp) (a:Addr) (ns:Da Int),ns.length<=n->WS H->aC (K w.params) H a (ns.map V.int)->sp w [.ref a] H (λv _=>v =.bl true) λ_ _ _=>False)(hCX:∀(w:World) (H:Hp) (s:Shared) (e:Value) (s':Shared),CX w [] H s (λ_ _ _=>False) e s'->False):
  PySem.W.WalkO q loose XP YP l.row.toRowW d [] (λf vs=>PySem.call f vs):=by
 refine Att.O1 hn hdf λw s₀ s₁ mg mb fa o pm cd doc a vs ns G Y ho hd hcd hmg hobj hints hlen hg=>?_
 have KX:=hY w _ Y
 obtain⟨fd,hb,hF⟩:=F w mg fa _ KX G.T.g hmg
 exact WT KX G.T.g G.T.b G.T.builtins G.T.nolimit hg hobj hints (fG hlen hn2) hr hF hb (λH hO hS=>wF w H a ns hlen hO hS) λH e s'=>hCX w H s₁ e s'
def inClass(s:Stmt)(j:Nat):Stmt:=match s with
 | .ClassDef _ _ _ body _ _ _ _ _ _ _=>body.getD j (.Pass (0,0,0,0))
 | _=> .Pass (0,0,0,0)
def gI(s:Stmt):Arguments:=match s with
 | .FunctionDef _ a _ _ _ _ _ _ _ _=>a
 | _=>{ posonlyargs:=[],args:=[],vararg:=none,kwonlyargs:=[],kw_defaults:=[],kwarg:=none,defaults:=[] }
def dU(s:Stmt):Da Stmt:=match s with
 | .FunctionDef _ _ b _ _ _ _ _ _ _=>b
 | _=>[]
def aD(s:Stmt):Scope:=match s with
 | .FunctionDef _ _ _ _ _ _ sc _ _ _=>sc
 | _=>{ kind:=.function,names:=[],isGenerator:=false,isCoroutine:=false }
abbrev wG:Bm:=λ_ _ _ _ _ _=>False
abbrev E0:XK:=λ_ _ _=>False
structure I0(K:Fg)(x qual:Str)(st:Stmt)(f:Addr)(fd:FuncData):Prop where
 ex:∃(oc:Value)(od:Option Addr)(kV doc pm:Value)(an:Option Addr)(yn ct:Value)(osl:Array (Option Value)),
  fd=PySem.W.fnOf x qual (gI st) (dU st) (aD st) .none kV doc pm an yn ct/\K.lookup f=some (oc,od,.func fd,osl)/\PySem.W.codeIn K yn qual=true
 kp:PySem.W.keepIn K (.ref f)=true
variable {qual:Str}{f:Addr}{N ps:Da Str}{oc doc pm yn ct:Value}{od an:Option Addr}{osl:Array (Option Value)}
section
variable {P:Program}{w:World}{K:Fg}{mg:SO}{base:Heap}
def I0.ok{st:Stmt}{k:Nat}(F:I0 K x qual st f fd)(S:aQ N ps (aD st))(len:∀vs H Q E,sp vs H Q E->vs.length=ps.length)(Ch:∀(yn:Value) (A:Around) (outer:Da Env) (s:Shared) (H:Hp) (vs:Da V) (Q:VK) (E:XK),fL k (A.deeper (envOfC qual (aD st) s.heap.objs.size f yn))->sp vs H Q E->
    ∃t,yc (uX wG P w K mg base N qual (aD st) f yn A outer s H E).Ds (dU st) t/\t { nx:=λ_ H'=>Q .cK H',rt:=Q } (start N vs) H):lu P w K mg base wG (k+1) f fd ps sp:=by
 obtain⟨oc,od,kV,doc,pm,an,yn,ct,osl,rfl,lk,hcd⟩:=F.ex
 refine aeP lk hcd S len λA outer s H vs Q E hr wF=>?_
 obtain⟨t,h,q⟩:=Ch yn A outer s H vs Q E hr wF
 exact(t,h.Ds,q)
def I0.binds{st:Stmt}(F:I0 K x qual st f fd)(h:∀(kV doc pm:Value) (an:Option Addr) (yn ct:Value) (us:Da Value),us.length=ps.length->bindArgs (PySem.W.fnOf x qual (gI st) (dU st) (aD st) .none kV doc pm an yn ct) (us,[])=pure (ps.zip us)):Binds K fd ps [] :=by
 obtain⟨oc,od,kV,doc,pm,an,yn,ct,osl,rfl,lk,hcd⟩:=F.ex
 exact .all (h kV doc pm an yn ct)
def Mb{st:Stmt}{kV:Value}(l:K.lookup f=some (oc,od,.func (PySem.W.fnOf x qual (gI st) (dU st) (aD st) .none kV doc pm an yn ct),osl))(c:PySem.W.codeIn K yn qual=true)(k:PySem.W.keepIn K (.ref f)=true):I0 K x qual st f (PySem.W.fnOf x qual (gI st) (dU st) (aD st) .none kV doc pm an yn ct):=((oc,od,kV,doc,pm,an,yn,ct,osl,Z,l,c),k)
end
def bX{A:Around}{k:Nat}(hr:fL k A):A.units+1<cLine:=Hg (Nat.add_le_add_left (by decide:1<=64) _) hr.units
def dO(h:n<=1000):n<sizeLine:=Hg h (by decide)
section
variable {X:Cx}
end
def aR{A B:Prop}(h:B):if false=true then A else B:=by rw[av gZ];exact h
def fZ{A B:Prop}(h:A):if true=true then A else B:=by rw[ay rfl];exact h
def dX{c A B:Prop}[Decidable c](h1:c->A)(h2:¬ c->B):if c then A else B:=by
 by_cases h:c
 .rw [ay h];exact h1 h
 .rw [av h];exact h2 h
def aM(H H':Hp):Prop:=∀b o,H b=some o->H' b=some o
def aM.refl(H:Hp):aM H H:=λ_ _ h=>h
variable {H H1 H2:Hp}
def aM.trans(a:aM H H1)(b:aM H1 H2):aM H H2:=λc o h=>b c o (a c o h)
variable {H':Hp}
def aM.free(e:aM H H'){l:Addr}(h:H' l=Option.none):H l=Option.none:=by
 cases q:H l with
 | none=>rfl
 | some o=>rw[e l o q]at h;cases h
variable {xs:Da V}
def aM.seq(e:aM H H')(h:aC K H a xs):aC K H' a xs:=by
 rcases h with(h|⟨o,h⟩)|h
 .exact .inl (.inl (e _ _ h))
 .exact .inl (.inr (o,e _ _ h))
 .exact .inr h
section
variable {X:Cx}
def ye:iL X (.builtin "len") (λxs H Q=>∃a AT,xs=[V.ref a]/\H a=some (.dK AT)/\Q (.int AT.length) H):=by intro AC s σ H xs us Q I r h;obtain⟨a,AT,rfl,ha,q⟩:=h;obtain⟨u,rfl,ru⟩:=vals1 r;cases ru;exact aeU I (.inl ha) λt s' I'=>(.int AT.length,H,I',(t,Z),q)
end
section
variable {κ:Type}[DecidableEq κ]
def WU{AT:Da (κ×V)}{k:κ}(h:eE AT k=none):¬ k∈AT.map (·.1):=by intro m;obtain⟨p,hp,e⟩:=bw.mp m;have q:(AT.any λkv=>decide (kv.1=k))=true:=List.any_eq_true.mpr (p,hp,bR e);rw[sZ,h]at q;exact absurd q (by simp)
theorem nX:∀{l:Da κ}{k:κ},l.Nodup->¬ k∈l->(l++[k]).Nodup
 | [],k,_,_=>by simp
 | a::r,k,h,hk=>by
  obtain⟨h1,h2⟩:=iu.mp h;show(a::(r++[k])).Nodup;refine iu.mpr (λm=>?_,nX h2 λm=>hk (dW.mpr (Or.inr m)));rcases dN.mp m with q|q
  .exact h1 q
  .exact hk (dW.mpr (Or.inl (dw.mp q).symm))
def ZG{AT:Da (κ×V)}{k:κ}(v:V)(hn:(AT.map (·.1)).Nodup)(h:eE AT k=none):((putK AT k v).map (·.1)).Nodup:=by rw[qc v h,bQ];exact nX hn (WU h)
end
end L2
set_option maxHeartbeats 4000000
namespace L2
open PySem PySem.Spec PyProof.Rows
variable {n:Nat}{K:Fg}
section
variable {X:Cx}
def CO(_ j:Int):Prop:=0<j/\j.natAbs.log2<9000
theorem iQ:jU X (binaryOp .FloorDiv) (rI CO λi j=> .int (i / j)):=TZ λi j _ _ _ _ _ hc q=>by have h1:(0:Int)<j:=hc.1;exact floordiv_int (by omega) (by rw[Int.fdiv_eq_ediv_of_nonneg i (by omega)];exact q) (.inl (PyProof.noPylong_of_log2 hc.2))
def Bq{i j:Int}(h:(decide (0<j) && decide (j.natAbs.log2<9000))=true):CO i j:=by obtain⟨a,b⟩:=nu.mp h;exact(eO a,eO b)
theorem WV{i j:Int}(h0:0<j)(h:j<2 ^ n)(hn:n<=9000):CO i j:=by
 refine(h0,?_);have e:(j.natAbs:Int)=j:=by omega
 have h2:j.natAbs<2 ^ n:=by
  have:(j.natAbs:Int)<((2 ^ n:Nat):Int):=by rw[e];simpa using h
  exact Int.ofNat_lt.mp this
 have:=(Nat.log2_lt (n:=j.natAbs) (k:=n) (by omega)).mpr h2;omega
def Sv(i j:Int):Prop:=∃m n:Nat,i.natAbs<2 ^ m/\j.natAbs<2 ^ n/\m+n<=134217728
def gJ:jU X (binaryOp .Mult) (rI Sv λi j=> .int (i*j)):=TZ λ_ _ _ _ _ _ _ hc q=>by obtain⟨m,n,h1,h2,h3⟩:=hc;exact mul_int q (IntMulOk.of_le (R6.mpr h1) (R6.mpr h2) h3)
def O2:iL X (.builtin "isinstance") (λxs H Q=>∃x n t b,xs=[x,.ty n]/\iA X.K H x t/\PySem.W.kitOne X.K t (.type n)=some b/\Q (.bl b) H):=by intro AC s σ H xs us Q I r h;obtain⟨x,n,t,b,rfl,ty,e,q⟩:=h;obtain⟨u,w',rfl,ru,rw'⟩:=vals2 r;have rw2:w'=Value.type n:=rw';subst rw2;exact Ub I ru ty e λtk=>(.bl b,H,I.tok _,Z,q)
def iC{n:String}:PySem.W.kitOne K (.type n) (.type n)=some true:=by unfold PySem.W.kitOne;rw[ay (zS _)]
def Mc:PySem.W.kitOne K (.type "int") (.type "bool")=some false:=by rfl
mutual
inductive Dt(K:Fg)(H:Hp):V->PyData->Prop
 | cK:Dt K H .cK .none
 | bl (b:Bool):Dt K H (.bl b) (.bool b)
 | int (i:Int):Dt K H (.int i) (.int i)
 | str (x:Str):Dt K H (.str x) (.str x)
 | lst {a:Addr} {xs:Da V} {ds:Da PyData}:aC K H a xs->Br K H xs ds->Dt K H (.ref a) (.list ds)
 | tup {a:Addr} {xs:Da V} {ds:Da PyData}:cU K H a xs->Br K H xs ds->Dt K H (.ref a) (.tuple ds)
inductive Br(K:Fg)(H:Hp):Da V->Da PyData->Prop
 | nil:Br K H [] []
 | cons {x:V} {xs:Da V} {d:PyData} {ds:Da PyData}:Dt K H x d->Br K H xs ds->Br K H (x::xs) (d::ds)
end
section
variable {AC:AO}{σ:St}{H:Hp}{s:Shared}
mutual
theorem Dt.reads(I:Inv X AC σ H s):∀{x:V}{d:PyData}{u:Value},Dt X.K H x d->RelV x u->∃as,Reads s.heap u d as
 | _,_,u,.cK,r=>by cases(show u=Value.none from r);exact(_,.none)
 | _,_,u,.bl b,r=>by cases(show u=Value.bool b from r);exact(_,.bool b)
 | _,_,u,.int i,r=>by obtain⟨t,rfl⟩:=(show ∃t,u=Value.int i t from r);exact(_,.int i t)
 | _,_,u,.str x,r=>by obtain⟨t,rfl⟩:=(show ∃t,u=Value.str x t from r);exact(_,.str x t)
 | _,_,u,@Dt.lst _ _ a xs ds h hd,r=>by cases(show u=Value.ref a from r);obtain⟨BT,rv,⟨o,n,e,c,_,d⟩,hz⟩:=I.list h;obtain⟨as,ra⟩:=Br.reads I hd rv;exact(_,.list e c d (by simpa using ra))
 | _,_,u,@Dt.tup _ _ a xs ds h hd,r=>by cases(show u=Value.ref a from r);obtain⟨BT,rv,⟨o,e,c,n,d⟩,hz⟩:=I.tuple h;obtain⟨as,ra⟩:=Br.reads I hd rv;exact(_,.tuple e c d (by simpa using ra))
theorem Br.reads(I:Inv X AC σ H s):∀{xs:Da V}{ds:Da PyData}{us:Da Value},Br X.K H xs ds->Vals xs us->∃as,ReadsAll s.heap us ds as
 | _,_,_,.nil,.nil=>(_,.nil)
 | _,_,_,.cons h t,.cons r rs=>by obtain⟨as,ra⟩:=Dt.reads I h r;obtain⟨bs,rb⟩:=Br.reads I t rs;exact(_,.cons ra rb)
end
end
inductive abX(K:Fg)(x:V)(y:V)(H:Hp)(Q:VK):Prop
 |mk(d e:_)(_:Dt K H x d)(_:Dt K H y e)(_:SeqAt.shaped d=true)(_:SeqAt.shaped e=true)(_:Q (.bl (PyData.eqv d e)) H)
inductive Sw(K:Fg)(x:V)(y:V)(H:Hp)(Q:VK):Prop
 |mk(d e:_)(_:Dt K H x d)(_:Dt K H y e)(_:SeqAt.shaped d=true)(_:SeqAt.shaped e=true)(_:Q (.bl (!PyData.eqv d e)) H)
def abY(hu:X.A.units+64<cLine):jU X (compareOp .Eq) (abX X.K):=by intro AC s σ H x y v u Q I rx ry h;obtain⟨d,e,hd,he,sd,se,q⟩:=h;obtain⟨as,ra⟩:=hd.reads I rx;obtain⟨bs,rb⟩:=he.reads I ry;exact eq_dataH ra rb sd se hu (.bl _,H,I,Z,q)
def abZ(hu:X.A.units+64<cLine):jU X (compareOp .NotEq) (Sw X.K):=by intro AC s σ H x y v u Q I rx ry h;obtain⟨d,e,hd,he,sd,se,q⟩:=h;obtain⟨as,ra⟩:=hd.reads I rx;obtain⟨bs,rb⟩:=he.reads I ry;exact ne_dataH ra rb sd se hu (.bl _,H,I,Z,q)
structure Bx(p:Prop):Prop where
 ex:p
def bx(f:Sp):Sp:=λvs H Q E=>Bx (f vs H Q E)
structure Dn(P:Program)(w:World)(K:Fg)(mg:SO)(base:Heap)(k:Nat)(x:Str)(ps:Da Str)(sp:Sp):Prop where
 ex:∃f fd,lu P w K mg base wG k f fd ps sp/\Binds K fd ps []/\PySem.W.keepIn K (.ref f)=true/\mg x=some (.ref f)
end
structure At(K:Fg)(mg:SO)(x:Str)(st:Stmt)(f:Addr)(fd:FuncData):Prop where
 fn:I0 K x x st f fd
 name:mg x=some (.ref f)
variable {P:Program}{w:World}{mg:SO}{base:Heap}{x:Str}{f:Addr}{fd:FuncData}{N ps:Da Str}{sp:Sp}
theorem At.ok{st:Stmt}{k:Nat}(F:At K mg x st f fd)(S:aQ N ps (aD st))(len:∀vs H Q E,sp vs H Q E->vs.length=ps.length)(Ch:∀(yn:Value) (A:Around) (outer:Da Env) (s:Shared) (H:Hp) (vs:Da V) (Q:VK) (E:XK),fL k (A.deeper (envOfC x (aD st) s.heap.objs.size f yn))->sp vs H Q E->
    ∃t,yc (uX wG P w K mg base N x (aD st) f yn A outer s H E).Ds (dU st) t/\t { nx:=λ_ H'=>Q .cK H',rt:=Q } (start N vs) H)(h:∀(kV doc pm:Value) (an:Option Addr) (yn ct:Value) (us:Da Value),us.length=ps.length->bindArgs (PySem.W.fnOf x x (gI st) (dU st) (aD st) .none kV doc pm an yn ct) (us,[])=pure (ps.zip us)):
  Dn P w K mg base (k+1) x ps sp:=(f,fd,F.fn.ok S len Ch,F.fn.binds h,F.fn.kp,F.name)
variable {h:Heap}{oc doc pm yn ct:Value}{od an:Option Addr}{osl:Array (Option Value)}
def Yw{st:Stmt}{kV:Value}(X:K.In h)(G:h.Ns mainGlobals mg)(a:PySem.W.nsIn K mainGlobals x=some (some (.ref f)))(l:K.lookup f=some (oc,od,.func (PySem.W.fnOf x x (gI st) (dU st) (aD st) .none kV doc pm an yn ct),osl))(c:PySem.W.codeIn K yn x=true)(k:PySem.W.keepIn K (.ref f)=true):At K mg x st f (PySem.W.fnOf x x (gI st) (dU st) (aD st) .none kV doc pm an yn ct):=(Mb l c k,PySem.W.mg_of X G a)
def aM.tup{H H':Hp}{K:Fg}{a:Addr}{xs:Da V}(e:aM H H')(h:cU K H a xs):cU K H' a xs:=by
 rcases h with(h|⟨o,h⟩)|h
 .exact .inl (.inl (e _ _ h))
 .exact .inl (.inr (o,e _ _ h))
 .exact .inr h
variable {H:Hp}
def aF{p:Addr}(h:H p=none)(o:HO):aM H (upd H p o):=λb u q=>aA (aJ q h)▸q
def small(h:n<=1000):n<=sizeLine:=CD (dO h)
end L2
namespace Jm
def cf(a b:Int):Int:=(Int.gcd a b:Int)
theorem QN(a:Int)(h:0<=a):cf a 0=a:=by unfold cf;rw[Int.gcd_zero_right];omega
def Hu(a b:Int)(h:0<b):cf b (a % b)=cf a b:=by unfold cf;rw[Int.emod_def,Int.gcd_sub_mul_left_right,Int.gcd_comm]
theorem E_(a b:Int)(h:0<a\/0<b):0<cf a b:=by
 unfold cf;have:0<Int.gcd a b:=by
  rcases h with h|h
  .exact Int.gcd_pos_of_ne_zero_left _ (by omega)
  .exact Int.gcd_pos_of_ne_zero_right _ (by omega)
 omega
def QO(a b:Int):cf a b=cf b a:=by unfold cf;rw[Int.gcd_comm]
def ab0(a b:Int):cf a (if b<0 then -b else b)=cf a b:=by
 unfold cf;split
 .rw [Int.gcd_neg]
 .rfl
abbrev fr(t b:Int):Rat:=Rat.divInt t b
def Us(t b:Int)(h:0<b):(fr t b).num=t / cf b t:=by unfold fr cf;rw[Rat.num_divInt,Int.sign_eq_one_of_pos h,Int.one_mul]
theorem Me(t b:Int)(h:0<b):((fr t b).den:Int)=b / cf b t:=by unfold fr cf;rw[Rat.den_divInt,av (by omega)];rw[Int.natCast_ediv];congr 1;omega
def uf(a b:Int):cf a b∣a:=Int.gcd_dvd_left ..
def rm(a b:Int):cf a b∣b:=Int.gcd_dvd_right ..
theorem den_pos(q:Rat):(0:Int)<q.den:=by have:=q.den_pos;omega
def ZH(q:Rat):fr q.num q.den=q:=Rat.num_divInt_den q
theorem Lp{t b t' b':Int}(h:0<b)(h':0<b')(e:t*b'=t'*b):fr t b=fr t' b':=(Rat.divInt_eq_divInt_iff (by omega) (by omega)).mpr e
def Ut{n d:Int}(h:0<d)(c:cf n d=1):(fr n d).num=n/\((fr n d).den:Int)=d:=by rw[Us n d h,Me n d h,QO,c,zX,zX];exact(Z,Z)
def Uu(t b:Int)(h:0<b):((fr t b).den:Int)<=b:=by rw[Me t b h];exact EN _ (EV h)
def Sz(n:Nat)(x:Int):Prop:=x.natAbs<2 ^ n
def Sz.mono{m n:Nat}{x:Int}(h:Sz m x)(hn:m<=n):Sz n x:=mP h (Nat.pow_le_pow_right (by decide) hn)
def Sz.of_le{n:Nat}{x y:Int}(h:Sz n y)(hx:x.natAbs<=y.natAbs):Sz n x:=Hg hx h
theorem Sz.neg{n:Nat}{x:Int}(h:Sz n x):Sz n (-x):=h.of_le (by omega)
def Sz.mul{m n:Nat}{x y:Int}(hx:Sz m x)(hy:Sz n y):Sz (m+n) (x*y):=by unfold Sz at *;rw[ER,Nat.pow_add];exact Nat.mul_lt_mul'' hx hy
theorem Sz.add{m n:Nat}{x y:Int}(hx:Sz m x)(hy:Sz n y):Sz (max m n+1) (x+y):=by have h1:=hx.mono (Nat.le_max_left m n);have h2:=hy.mono (Nat.le_max_right m n);unfold Sz at *;rw[Nat.pow_succ];omega
def Sz.lC{n:Nat}{x y:Int}(hx:Sz n x)(hy:Sz n y):Sz (n+1) (x+y):=by
 have:=hx.add hy
 rwa [Nat.max_self]at this
theorem Sz.mw{n:Nat}{x B:Int}(h0:-B<=x)(h1:x<=B)(hB:Sz n B):Sz n x:=hB.of_le (by omega)
theorem Sz.ediv{n:Nat}{x y:Int}(h:Sz n x)(hy:0<y):Sz n (x / y):=by
 refine h.of_le ?_;have e:=Int.emod_add_mul_ediv x y;have m0:=pL x (b:=y) (by omega);have m1:=zQ x hy;rcases EW x 0 with hx|hx
 .have q0:x / y<0:=Int.ediv_neg_of_neg_of_pos hx hy;have z:y*(x / y)<=1*(x / y):=Int.mul_le_mul_of_nonpos_right (by omega) (by omega);rcases EW (x / y) x with k|k
  .exfalso;have z2:y*(x / y)<=y*(x-1):=IM (by omega) (by omega);have z3:y*(x-1)<=1*(x-1)-(y-1):=by
    have z4:(y-1)*(x-1)<=(y-1)*(-2):=IM (by omega) (by omega);have z5:y*(x-1)=(y-1)*(x-1)+(x-1):=by grind
    omega
   omega
  .omega
 .have q0:0<=x / y:=Lf hx (by omega);have:=EN y hx;omega
theorem Sz.dvd{n:Nat}{x y:Int}(h:Sz n y)(hy:0<y)(hx:0<=x)(d:x∣y):Sz n x:=h.of_le (by have:=EU hy d;omega)
theorem Uv{n:Nat}:∀{ws:Da Int},(∀m∈ws,Sz n m)->Sz (n+ws.length) ws.sum
 | [],_=>by unfold Sz;show 0<_;exact Nat.two_pow_pos _
 | x::r,h=>by have h1:=Uv (ws:=r) λm hm=>h m (cR _ hm);have h2:=((h x cO).mono (t9 n r.length)).lC h1;rw[cI];exact h2.mono (by rw[ig];omega)
def Fb(c:Int):Nat->Int
 | 0=>c
 | i+1=>Fb c i / 10000000000
def cellOf(ns:Da Int)(k:Int):Int:=if 0<(ns.length:Int) then ns.getD (k % ns.length).toNat 0 else 0
def Bs(ns:Da Int)(k:Int):Int:=if 0<(ns.length:Int) then k / ns.length else 1
noncomputable def mixed(c k j BM:Int):Int:=
 let one:=(c*7919+k*104729+j*1299709+31) % 1000000007
 let two:=(one*48271+c / 1009) % 998244353
 let three:=(two*(one % 9973+1)+j) % 1000000009
 (one*69621+three*40692+three / 1013) % 2147483647 % BM
def draw(ns:Da Int)(k j BM:Int):Int:=if Bs ns k=0/\1000000000000000000<=cellOf ns k/\0<Fb (cellOf ns k) j.toNat then Fb (cellOf ns k) j.toNat % 10000000000 % BM
 else mixed (cellOf ns k) k j BM
theorem ZI(ns:Da Int)(k j BM:Int)(h:0<BM):0<=draw ns k j BM:=by
 unfold draw;split
 .exact pL _ (by omega)
 .exact pL _ (by omega)
def ZJ(ns:Da Int)(k j BM:Int)(h:0<BM):draw ns k j BM<BM:=by
 unfold draw;split
 .exact zQ _ h
 .exact zQ _ h
end Jm
namespace L2
open PySem PySem.Spec PyProof.Rows
inductive aeZ(K:Fg)(vs:Da V)(H:Hp)(Q:VK)(E:XK):Prop
 |mk(a:Addr)(ns:Da Int)(k j BM:Int)(_:vs=[.ref a,.int k,.int j,.int BM])(_:aC K H a (ns.map V.int))(_:ns.length<=63)(_:0<=k)(_:0<=j)(_:j<2 ^ 62)(_:0<BM)(_:Q (.int (Jm.draw ns k j BM)) H)
def rA(K:Fg):Sp:=bx (aeZ K)
variable {K:Fg}{H:Hp}{Q:VK}{a:Addr}{ns:Da Int}
def dG{E:XK}{k j BM:Int}(hS:aC K H a (ns.map V.int))(h63:ns.length<=63)(h1:0<=k)(h2:0<=j)(h3:j<2 ^ 62)(h4:0<BM)(h:∀d:Int,d=Jm.draw ns k j BM->0<=d->d<BM->Q (.int d) H):rA K [.ref a,.int k,.int j,.int BM] H Q E:=
 (a,ns,k,j,BM,Z,hS,h63,h1,h2,h3,h4,h _ rfl (Jm.ZI ns k j BM h4) (Jm.ZJ ns k j BM h4))
def WW:Sp:=λvs H Q _=>∃a b:Int,vs=[.int a,.int b]/\0<=a/\0<=b/\Q (.int (Jm.cf a b)) H
abbrev oS(q:Rat):HO:=.tup [.int q.num,.int (q.den:Int)]
def Fc:Sp:=λvs H Q _=>∃i:Int,vs=[.int i]/\Q (.bl true) H
def Lq(K:Fg):Sp:=λvs H Q _=>∃(a:Addr)(ns:Da Int),vs=[.ref a]/\aC K H a (ns.map V.int)/\ns.length<=63/\∀H',Q (.bl true) H'
section
variable {X:Cx}{pos:Pos}
def Ends.too(D:Ends)(J:St->Hp->Prop):Ends:={ D with nx:=J }
def ae0(t u:TS)(D:Ends)(σ:St)(J:St->Hp->Prop):Bool->Hp->Prop:=λb H1=>if b=true then t (D.too J) σ H1 else u (D.too J) σ H1
inductive ab1(c:TT)(t u:TS)(D:Ends)(σ:St)(H:Hp):Prop
 |mk(J:St->Hp->Prop)(_:c σ H (ae0 t u D σ J))(_:∀σ' H',J σ' H'->D.nx σ' H')
end
theorem wH{i j:Int}(h0:0<j)(h:Jm.Sz 9000 j):CO i j:=by refine(h0,?_);exact(Nat.log2_lt (by omega)).mpr h
variable {m n:Nat}
def gi{i j:Int}(hi:Jm.Sz m i)(hj:Jm.Sz n j)(h:m+n<=134217728:=by decide):Sv i j:=(m,n,hi,hj,h)
def iN{x:Int}(h:decide (x.natAbs<2 ^ n)=true):Jm.Sz n x:=by unfold Jm.Sz;exact eO h
theorem ZK{k:Int}(h0:0<=k)(h:k<(ns.length:Int)):lz (ns.map V.int) k=some (.int (ns.getD k.toNat 0)):=by
 have hk:k.toNat<ns.length:=by omega
 have ek:k=((k.toNat:Nat):Int):=by omega
 have q:lz (ns.map V.int) ((k.toNat:Nat):Int)=some (.int (ns.getD k.toNat 0)):=aE (by rw[bP,dQ,a_ hk] <;> rfl);rw[<-ek]at q;exact q
variable {elt Bn:Expr}{scope:Scope}{pos:Pos}{env:Env}
section
variable {prog:Program}{w:World}{A:Around}{R:Result->Shared->Prop}{s:Shared}
theorem Mf{target:Expr}{it Ap:Value}(J:Nat->Shared->Prop)(turn:∀n s,J n s->wpAny (model prog w) A (pyNext it) (λr s₁=>match r with
    | none=>R (.ok .next) s₁
    | some v=>wpAny (model prog w) A (letOwnedTupleGo target it v) (λ_ s₂=>wpAny (model prog w) A (assign target env v) (λ_ s₃=>wpAny (model prog w) A (eval elt env) (λx s₄=>
            wpAny (model prog w) A (call (.builtin "list.append") [Ap,x]) (λ_ s₅=>∃m,m<n/\J m s₅) (λ_ _=>False) s₄) (λ_ _=>False) s₃) (λ_ _=>False) s₂) (λ_ _=>False) s₁) (λ_ _=>False) s)(n:Nat)(h:J n s):codeAny (model prog w) A (.compLoop (.ListComp elt [(target,Bn,[],0)] scope pos) 0 it Ap env) R s:=by
 refine codeAny_loop rfl J (λn s hI=>?_) n h
 show wpAny _ A ((compTurn (.ListComp elt [(target,Bn,[],0)] scope pos) 0 it Ap env).onRaise (λx=>do noteFrame x env;theTreesLotGoes x)) _ _ s
 refine wpAny_noted ?_
 rw[compTurn_list1]
 refine az (CB (az (j8 (turn n s hI) (λr s₁ h₁=>?_) λ_ _ h'=>h'.elim)))
 cases r with
 | none=>exact bh h₁
 | some v=>
   refine az (j8 h₁ (λ_ s₂ h₂=>az (j8 h₂ (λ_ s₃ h₃=>?_) λ_ _ h'=>h'.elim)) λ_ _ h'=>h'.elim)
   exact az (az (j8 h₃ (λx s₄ h₄=>az (j8 h₄ (λ_ s₅ h₅=>bh (bh (Z,h₅))) λ_ _ h'=>h'.elim)) λ_ _ h'=>h'.elim))
end
def vO(h:∀y∈scope.names,y.2 =.free->∃c,env.cells.lookup y.1=some c):∃cl,closureFor scope env=pure cl/\(∀y c,(y,c)∈cl->env.cells.lookup y=some c/\(y,NameKind.free)∈scope.names)/\∀y,(y,NameKind.free)∈scope.names->∃c,(y,c)∈cl:=by
 have gen:∀(names:Da (Str×NameKind))(Ap:Da (Str×Addr)),(∀y∈names,y.2 =.free->∃c,env.cells.lookup y.1=some c)->
   ∃cl,(forIn names Ap λ(x:Str×NameKind)(cs:Da (Str×Addr))=>(if(x.2==NameKind.free)=true then do let a <-cellOf env x.1;pure (ForInStep.yield ((x.1,a)::cs)) else pure (ForInStep.yield cs):Sem _))=pure cl/\
    (∀y c,(y,c)∈cl->(env.cells.lookup y=some c/\(y,NameKind.free)∈names)\/(y,c)∈Ap)/\(∀p∈Ap,p∈cl)/\∀y,(y,NameKind.free)∈names->∃c,(y,c)∈cl:=by
  intro names
  induction names with
  | nil=>intro Ap _;exact(Ap,by rw[ES],λy c m=> .inr m,λp hp=>hp,λy m=>nomatch m)
  | cons x r ih=>
    intro Ap hc
    obtain⟨n,k⟩:=x
    by_cases hk:k =.free
    . subst hk
      obtain⟨c,ec⟩:=hc (n,.free) cO rfl
      obtain⟨cl,e,h1,h2,h3⟩:=ih ((n,c)::Ap) λy hy=>hc y (cR _ hy)
      refine(cl,?_,λy d m=>?_,λp hp=>h2 p (cR _ hp),λy m=>?_)
      . rw[Lg,<-e]
        have ae1:cellOf env n=pure c:=by unfold cellOf;rw[ec]
        simp only[zS,qW,ae1,pure_bind]
      . rcases h1 y d m with⟨a,b⟩|b
        . exact .inl (a,cR _ b)
        . rcases dW.mp b with z|z
          . cases z;exact .inl (ec,cO)
          . exact .inr z
      . rcases dW.mp m with z|z
        . cases z;exact(c,h2 _ cO)
        . exact h3 y z
    . obtain⟨cl,e,h1,h2,h3⟩:=ih Ap λy hy=>hc y (cR _ hy)
      have hb:(k==NameKind.free)=false:=by simpa using hk
      refine(cl,?_,λy d m=>?_,h2,λy m=>?_)
      . rw[Lg,<-e]
        simp only[hb,Hh,nV,pure_bind]
      . rcases h1 y d m with⟨a,b⟩|b
        . exact .inl (a,cR _ b)
        . exact .inr b
      . rcases dW.mp m with z|z
        . cases z;exact absurd rfl hk
        . exact h3 y z
 obtain⟨cl,e,h1,_,h3⟩:=gen scope.names [] h;refine(cl,?_,λy c m=>(h1 y c m).elim id (λz=>nomatch z),h3);have e2:closureFor scope env=((forIn scope.names ([] :Da (Str×Addr)) λ(x:Str×NameKind)(cs:Da (Str×Addr))=>(if(x.2==NameKind.free)=true then do let a <-cellOf env x.1;pure (ForInStep.yield ((x.1,a)::cs)) else pure (ForInStep.yield cs):Sem _)) >>= λr=>pure r):=rfl;rw[e2,e];rfl
def lookup_mem{α:Type}{l:Da (Str×α)}{y:Str}{c:α}(h:(y,c)∈l):∃d,l.lookup y=some d:=by
 induction l with
 | nil=>cases h
 | cons p r ih=>
  obtain⟨k,v⟩:=p;rw[mW];cases hb:y==k with
  | true=>exact(v,Z)
  | false=>
   rcases dW.mp h with z|z
   .cases z;simp at hb
   .exact ih z
theorem nY:∀(names:Da (Str×NameKind))(n:Nat)(Ap:Da (Str×Addr)){x:Str}{c:Addr},(cellsFrom n names Ap).lookup x=some c->n<=c\/Ap.lookup x=some c
 | [],_,_,_,_,h=> .inr h
 | (name,kind)::r,n,Ap,x,c,h=>by
  unfold cellsFrom at h;split at h
  .rcases nY r (n+1) _ h with z|z
   .exact .inl (by omega)
   .rw [mW]at z;cases hb:x==name with
    | true=>rw[hb]at z;cases z;exact .inl (aO _)
    | false=>rw[hb]at z;exact .inr z
  .exact nY r n Ap h
theorem JZ:∀(names:Da (Str×NameKind))(n n0:Nat)(Ap:Da (Str×Addr)){x:Str}{c:Addr},n0<=n->(∀d,Ap.lookup x=some d->n0<=d)->(cellsFrom n names Ap).lookup x=some c->n0<=c:=by
 intro names n n0 Ap x c hn ha h;rcases nY names n Ap h with z|z
 .omega
 .exact ha c z
theorem uZ:∀(names:Da (Str×NameKind))(n:Nat)(Ap:Da (Str×Addr)){x:Str}{c:Addr},(x,NameKind.cell)∈names->(cellsFrom n names Ap).lookup x=some c->n<=c
 | [],_,_,_,_,m,_=>nomatch m
 | (name,kind)::r,n,Ap,x,c,m,h=>by
  unfold cellsFrom at h;rcases dW.mp m with z|z
  .cases z;rw[ay (by rfl)]at h;refine JZ r (n+1) n _ (by omega) (λd hd=>?_) h;rw[mW,zS]at hd;cases hd;exact aO _
  .split at h
   .exact fG (Nat.le_succ _) (uZ r (n+1) _ z h)
   .exact uZ r n Ap z h
theorem nZ:∀(names:Da (Str×NameKind))(n:Nat)(Ap:Da (Str×Addr)){x:Str},(∃c,Ap.lookup x=some c)->∃c,(cellsFrom n names Ap).lookup x=some c
 | [],_,_,_,h=>h
 | (name,kind)::r,n,Ap,x,h=>by
  unfold cellsFrom;split
  .refine nZ r (n+1) _ ?_;rw[mW];cases x==name with
   | true=>exact(_,Z)
   | false=>exact h
  .exact nZ r n Ap h
theorem u0:∀(names:Da (Str×NameKind))(n:Nat)(Ap:Da (Str×Addr)){x:Str},(x,NameKind.cell)∈names->∃c,(cellsFrom n names Ap).lookup x=some c
 | [],_,_,_,m=>nomatch m
 | (name,kind)::r,n,Ap,x,m=>by
  unfold cellsFrom;rcases dW.mp m with z|z
  .cases z;rw[ay (by rfl)];refine nZ r (n+1) _ (n,?_);rw[mW,zS]
  .split
   .exact u0 r (n+1) _ z
   .exact u0 r n Ap z
theorem u6:∀(names:Da (Str×NameKind))(n:Nat)(Ap:Da (Str×Addr)){x:Str},(x,NameKind.cell)∉names->(cellsFrom n names Ap).lookup x=Ap.lookup x
 | [],_,_,_,_=>rfl
 | (name,kind)::r,n,Ap,x,m=>by
  have m2:(x,NameKind.cell)∉r:=λz=>m (cR _ z);unfold cellsFrom;split
  .rename_i hk;rw[u6 r (n+1) _ m2,mW];cases hb:x==name with
   | true=>
    have e1:=vM.mp hb;have e2:kind=NameKind.cell:=by simpa using hk
    subst e1 e2;exact absurd cO m
   | false=>rfl
  .exact u6 r n Ap m2
theorem u7:∀(names:Da (Str×NameKind))(n:Nat)(Ap:Da (Str×Addr)),(∀x y c,Ap.lookup x=some c->Ap.lookup y=some c->x=y)->(∀x c,Ap.lookup x=some c->c<n)->∀x y c,(cellsFrom n names Ap).lookup x=some c->(cellsFrom n names Ap).lookup y=some c->x=y
 | [],_,_,h,_=>h
 | (name,kind)::r,n,Ap,h,va=>by
  intro x y c hx hy;unfold cellsFrom at hx hy;split at hx
  .rename_i hk;rw[ay hk]at hy;refine u7 r (n+1) _ (λx y c hx hy=>?_) (λx c hx=>?_) x y c hx hy
   .rw [mW]at hx hy;cases hb:x==name with
    | true=>
     cases hb2:y==name with
     | true=>rw[vM.mp hb,vM.mp hb2]
     | false=>rw[hb]at hx;rw[hb2]at hy;cases hx;exact absurd (va _ _ hy) (j7 _)
    | false=>
     cases hb2:y==name with
     | true=>rw[hb]at hx;rw[hb2]at hy;cases hy;exact absurd (va _ _ hx) (j7 _)
     | false=>rw[hb]at hx;rw[hb2]at hy;exact h x y c hx hy
   .rw [mW]at hx;cases hb:x==name with
    | true=>rw[hb]at hx;cases hx;exact Nat.lt_succ_self _
    | false=>rw[hb]at hx;exact Sa (va _ _ hx)
  .rename_i hk;rw[av hk]at hy;exact u7 r n Ap h va x y c hx hy
theorem yG:∀(names:Da (Str×NameKind))(h:Heap)(Ap:Da (Str×Addr)),(∀x c,Ap.lookup x=some c->∃v,h.IsCell c v)->∀x c,(cellsFrom h.objs.size names Ap).lookup x=some c->∃v,(pushCells h names).IsCell c v
 | [],_,_,ha=>ha
 | (name,kind)::r,h,Ap,ha=>by
  intro x c hx;unfold cellsFrom at hx;unfold pushCells;split at hx
  .rename_i hk;rw[ay hk];have q:=yG r (h.push { cls:=.type "cell",data:=.cell none }) ((name,h.objs.size)::Ap) (λx c hx=>by
    rw[mW]at hx;cases hb:x==name with
    | true=>rw[hb]at hx;cases hx;exact(none,_,ff _ rfl,Z)
    | false=>rw[hb]at hx;obtain⟨v,z⟩:=ha x c hx;exact(v,z.keeps λb o e=>cN _ e)) x c
   rw[nU]at q;exact q hx
  .rename_i hk;rw[av hk];exact yG r h Ap ha x c hx
noncomputable def dg(X:Cx)(N2:Da Str)(scope:Scope)(cl:Da (Str×Addr))(s₂:Shared)(H₂:Hp)(fp:Da Addr):Cx where
 prog:=X.prog
 w:=X.w
 K:=X.K
 mg:=X.mg
 base:=X.base
 A:=X.A
 N:=N2
 s₀:=s₂
 H₀:=H₂
 env:={ scope:=relabel scope X.env,locals:=s₂.heap.objs.size,globals:=X.env.globals,cells:=cellsFrom (s₂.heap.objs.size+1) scope.names cl,qual:=X.env.qual,func:=none,code:=X.env.code,frame:=X.env.frame,builtins:=X.env.builtins }
 outer:=X.stack
 stack:=X.stack
 ex:=fp
 fn:=λx=>decide (scope.names.lookup x=some .cell)
 calm:=X.calm
 pn:=[]
 xe:=λ_ _=>False
noncomputable def pB(XN:Da Str)(xn sn:Da (Str×NameKind))(N2:Da Str)(ix:Da (Option Nat)):Bool:=(ix.length==N2.length) &&
 ((ix.zip N2).all λp=>match p.1 with
   | none=>true
   | some j=>XN[j]?==some p.2 && sn.lookup p.2==some .free && (xn.lookup p.2==some .cell || xn.lookup p.2==some .free)) &&
 (sn.all λy=>y.2 !=.free || (xn.lookup y.1==some .cell || xn.lookup y.1==some .free)) &&
 (sn.all λy=>y.2 !=.local || sn.lookup y.1==some .local) &&
 (sn.all λy=>y.2 !=.free || sn.all λz=>z.2 !=.cell || z.1 != y.1)
variable {x:Str}
def Dy{k:NameKind}(h:(relabel scope env).names.lookup x=some k)(hk:k =.cell\/k =.free):(x,NameKind.cell)∈scope.names\/(x,NameKind.free)∈scope.names:=by
 have m:=zO h;obtain⟨y,hy,e⟩:=bw.mp m;obtain⟨n,k0⟩:=y;dsimp only at e;split at e
 .rename_i hc;cases e;have h1:k0=NameKind.free:=by have:=(nu.mp (nu.mp hc).1).1;simpa using this
  subst h1;exact .inr hy
 .cases e;rcases hk with rfl|rfl
  .exact .inl hy
  .exact .inr hy
def Mg:∀{x:Str},scope.names.lookup x=some .free->(relabel scope env).names.lookup x=some .cell\/(relabel scope env).names.lookup x=some .free:=by
 intro x h;have gen:∀(l:Da (Str×NameKind)),l.lookup x=some .free->(l.map λ(n,k)=>if(k==NameKind.free && env.scope.kind ==.function && env.kindOf n==some .cell) then(n,NameKind.cell) else(n,k)).lookup x=some .cell\/
   (l.map λ(n,k)=>if(k==NameKind.free && env.scope.kind ==.function && env.kindOf n==some .cell) then(n,NameKind.cell) else(n,k)).lookup x=some .free:=by
  intro l
  induction l with
  | nil=>intro h;cases h
  | cons p r ih=>
    intro h
    obtain⟨n,k⟩:=p
    rw[mW]at h
    rw[bK]
    dsimp only
    cases hb:x==n with
    | true=>
      rw[hb]at h
      cases h
      split
      . rw[mW,hb];exact .inl rfl
      . rw[mW,hb];exact .inr rfl
    | false=>
      rw[hb]at h
      split
      . rw[mW,hb];exact ih h
      . rw[mW,hb];exact ih h
 exact gen scope.names h
variable {X:Cx}{AC:AO}{σ σ2:St}{s:Shared}{N2:Da Str}{cl:Da (Str×Addr)}{fp:Da Addr}
theorem Fd(I:Inv X AC σ H s)(hk:scope.kind =.function)(Mh:∀y c,(y,c)∈cl->X.env.cells.lookup y=some c)(Hv:∀y,(y,NameKind.free)∈scope.names->∃c,(y,c)∈cl)(hfp:∀b∈fp,qY X AC H b)(hfo:∀b∈fp,b<s.heap.objs.size)(hl:σ2.length=N2.length)(hσ:∀(i:Nat) (x:Str) (v:V),N2[i]?=some x->σ2[i]?=some (some v)->scope.names.lookup x=some .free/\(X.env.kindOf x=some .cell\/X.env.kindOf x=some .free)/\∃j:Nat,X.N[j]?=some x/\σ[j]?=some (some v))(hd:∀x,(x,NameKind.free)∈scope.names->(x,NameKind.cell)∉scope.names):
  Inv (dg X N2 scope cl s H fp) [] σ2 H { s with heap:=pushCells (s.heap.push { cls:=.type "dict",data:=.dict #[] }) scope.names }:=by
 have keeps:∀b o,s.heap.get? b=some o->(pushCells (s.heap.push { cls:=.type "dict",data:=.dict #[] }) scope.names).get? b=some o:=λb o e=>Lh _ _ b o (cN _ e)
 have hsz:(s.heap.push { cls:=.type "dict",data:=.dict #[] }).objs.size=s.heap.objs.size+1:=nU ..
 have CP:∀x c,cl.lookup x=some c->X.env.cells.lookup x=some c:=λx c e=>Mh x c (zO e)
 have clt:∀x c,cl.lookup x=some c->c<s.heap.objs.size:=λx c e=>by obtain⟨v,z⟩:=I.cell x c (CP x c e);exact z.lt
 have there:=yG scope.names (s.heap.push { cls:=.type "dict",data:=.dict #[] }) cl (λx c e=>by obtain⟨v,z⟩:=I.cell x c (CP x c e);exact(v,z.keeps λb o e=>cN _ e))
 rw[hsz]at there
 have cells:∀x c,(cellsFrom (s.heap.objs.size+1) scope.names cl).lookup x=some c->s.heap.objs.size+1<=c\/X.env.cells.lookup x=some c:=λx c e=>by
  rcases nY _ _ _ e with z|z
  .exact .inl z
  .exact .inr (CP x c z)
 have okY:(dg X N2 scope cl s H fp).Ok:=by
  refine(I.ok.mod,hk,I.ok.glob,I.ok.blt,aO _,?_,?_,?_,I.ok.hd,I.ok.frames,.inl rfl,?_,I.bs,fG I.ok.IP I.sz,?_,?_,I.stack,I.QD)
  .exact u7 _ _ _ (λx y c hx hy=>I.ok.inj x y c (CP x c hx) (CP y c hy)) λx c e=>Sa (clt x c e)
  .intro x hx;have m:(x,NameKind.cell)∈scope.names\/(x,NameKind.free)∈scope.names:=by
    rcases hx with z|z
    .exact Dy z (.inl rfl)
    .exact Dy z (.inr rfl)
   rcases m with m|m
   .exact u0 _ _ _ m
   .obtain ⟨c,mc⟩:=Hv x m;exact nZ _ _ _ (lookup_mem mc)
  .intro x c hf e;have hf':scope.names.lookup x=some .cell:=eO hf;exact fG (Nat.le_succ _) (uZ _ _ _ (zO hf') e)
  .intro b hb;refine(fq (hfo b hb),λx c e z=>?_);have va:=hfo b hb;rcases cells x c e with k|k
   .exact absurd (mP va (fG (Nat.le_succ _) (z▸k))) (j7 _)
   .exact (hfp b hb).2.2.2.2.1 x c k z
  .intro b o e hb;rcases(hfp b hb).2.2.2.1 with z|z
   .exact I.ok.LL b o e z
   .exact absurd (mP (cA (I.ok.bs b o e).1) z) (j7 _)
  .intro b hb hbs;rcases dW.mp (I.LO b hbs)with z|z
   .exact (hfp b hb).2.1 z
   .exact (hfp b hb).2.2.1 z
 refine(okY,Z,I.bare,Un.kept keeps,?_,there,I.hok.fresh (aO _),?_,(λp hp=>nomatch hp),I.hok.kept keeps,hl)
 . refine(λ_=>none,(Heap.Ns.new s.heap (.type "dict")).keeps (Lh _ _),λi x v e1 e2 _=>?_)
   obtain⟨hf,hx,j,j1,j2⟩:=hσ i x v e1 e2
   obtain⟨m,_,hloc⟩:=I.loc
   have hv:Yj X.env.scope x:=hx.elim (λz=> .inr (.inl z)) λz=> .inr (.inr z)
   obtain⟨u,r,lk⟩:=hloc j x v j1 j2 hv
   refine(u,r,.inr (Mg hf,?_))
   rcases lk with⟨k,_⟩|⟨_,c,ec,ic⟩
   . rcases hx with z|z <;> rw[z]at k <;> cases k
   . refine(c,?_,ic.keeps keeps)
     have mf:=zO hf
     show(cellsFrom (s.heap.objs.size+1) scope.names cl).lookup x=some c
     rw[u6 _ _ _ (hd x mf)]
     obtain⟨c',mc⟩:=Hv x mf
     obtain⟨d,ed⟩:=lookup_mem mc
     rw[ed]
     have:=CP x d ed
     rw[ec]at this
     exact this.symm
 . intro x c e
   rcases cells x c e with k|k
   . exact I.hok.fresh (by omega)
   . exact I.pR x c k
variable {tg:Expr}{te:TE}{E:VS}
section
variable {X:Cx}
def Fe(J:It)(g:TG)(te:TE)(Ap:Addr)(σ₀:St)(H:Hp)(Q:VK):Prop:=∃W:Nat->Nat->St->Hp->Prop,(∃m,W 0 m σ₀ (upd H Ap (.lst [])))/\∀i m σ2 H2,W i m σ2 H2->(J.stop i H2/\Q (.ref Ap) H2)\/(J.go i H2/\∃(S:St->Prop)(N:V->Hp->Prop),(∀σ3 v H4,S σ3->N v H4->∃xs,H4 Ap=some (.lst xs)/\xs.length<sizeLine/\∃m',m'<m/\W (i+1) m' σ3 (upd H4 Ap (.lst (xs++[v]))))/\∀x H',J.EY i H2 x H'->g x σ2 H' λσ3 H3=>S σ3/\te σ3 H3 N)
inductive z9(Pv:Nat->Da V->Hp->Prop)(i:Nat)(Ap:Addr)(out:Da V)(v:V)(H4:Hp):Prop
 |mk(_:H4 Ap=some (.lst out))(_:Pv (i+1) (out++[v]) (upd H4 Ap (.lst (out++[v]))))
def Yx(te:TE)(σ:St)(Pv:Nat->Da V->Hp->Prop)(i:Nat)(Ap:Addr)(out:Da V):Bool->Hp->Prop:=λb H2=>if b=true then te σ H2 (z9 Pv i Ap out) else H2 Ap=some (.lst out)/\Pv (i+1) out H2
noncomputable def pick(ix:Da (Option Nat))(σ:St):St:=ix.map λo=>o.bind λj=>(σ[j]?).join
def ab2(ix:Da (Option Nat))(g:TG)(te:TE)(σ:St)(Q:VK):It->Hp->Prop:=λJ H1=>∀Ap,H1 Ap=none->Fe J g te Ap (pick ix σ) H1 Q
def Yy(wi:TI)(ix:Da (Option Nat))(g:TG)(te:TE):TE:=λσ H Q=>wi σ H (ab2 ix g te σ Q)
def n_{XN:Da Str}{xn sn:Da (Str×NameKind)}{ix:Da (Option Nat)}(h:pB XN xn sn N2 ix=true):ix.length=N2.length/\(∀(i:Nat)(x:Str)(j:Nat),N2[i]?=some x->ix[i]?=some (some j)->XN[j]?=some x/\sn.lookup x=some .free/\(xn.lookup x=some .cell\/xn.lookup x=some .free))/\(∀y∈sn,y.2 =.free->xn.lookup y.1=some .cell\/xn.lookup y.1=some .free)/\(∀y∈sn,y.2 =.local->sn.lookup y.1=some .local)/\∀x,(x,NameKind.free)∈sn->(x,NameKind.cell)∉sn:=by
 unfold pB at h;obtain⟨h,h5⟩:=nu.mp h;obtain⟨h,h4⟩:=nu.mp h;obtain⟨h,h3⟩:=nu.mp h;obtain⟨h1,h2⟩:=nu.mp h;have e1:ix.length=N2.length:=by simpa using h1
 refine(e1,λi x j a b=>?_,λy hy e=>?_,λy hy e=>?_,λx m1 m2=>?_)
 .have m:(some j,x)∈ix.zip N2:=by refine bg (i:=i) ?_;rw[List.getElem?_zip_eq_some];exact(b,a)
  have q:=t_.mp h2 _ m;dsimp only at q;obtain⟨q,q3⟩:=nu.mp q;obtain⟨q1,q2⟩:=nu.mp q;exact(by simpa using q1,by simpa using q2,(LB.mp q3).imp (λz=>by simpa using z) λz=>by simpa using z)
 .have q:=t_.mp h3 y hy;rcases LB.mp q with z|z
  .rw [e]at z;simp at z
  .exact (LB.mp z).imp (λz=>by simpa using z) λz=>by simpa using z
 .have q:=t_.mp h4 y hy;rcases LB.mp q with z|z
  .rw [e]at z;simp at z
  .simpa using z
 .have q:=t_.mp h5 _ m1;rcases LB.mp q with z|z
  .simp at z
  .have q2:=t_.mp z _ m2;simp at q2
theorem Ff{ix:Da (Option Nat)}{g:TG}{RR:Value->Addr->Result->Shared->Prop}(hc:X.calm=true)(hg:∀cl s₂ H₂ fp,PG (dg X N2 scope cl s₂ H₂ fp) tg g)(he:∀cl s₂ H₂ fp,PE (dg X N2 scope cl s₂ H₂ fp) elt te)(hk:scope.kind =.function)(hn:pB X.N X.env.scope.names scope.names N2 ix=true)(Mh:∀y c,(y,c)∈cl->X.env.cells.lookup y=some c)(Hv:∀y,(y,NameKind.free)∈scope.names->∃c,(y,c)∈cl){it:Addr}{fp:Da Addr}{tn:Nat->Heap->Prop}{J:It}(I:Inv X AC σ H s)(T:Turn X.prog X.w X.K tg J fp it tn)(st:tn 0 s.heap)(f:∀b∈fp,qY X AC H b)(h:∀Ap,H Ap=none->Fe J g te Ap (ix.map λo=>o.bind λj=>(σ[j]?).join) H Q)(hR:∀Ap C H' s' m,Inv X AC σ H' s'->s'.heap.Ns C m->H' C=none->C≠X.env.locals->X.s₀.heap.objs.size<=C->(∀x c,X.env.cells.lookup x=some c->c≠C)->(∀p∈X.pn++AC,p.1≠C)->Q (.ref Ap) H'->RR (.ref Ap) C (.ok .next) s'):
  wpAny (model X.prog X.w) X.A (newList []) (λAp s₃=>wpAny (model X.prog X.w) X.A (newFunctionEnv scope X.env.globals cl [] X.env.qual none .none (some X.env)) (λcenv s₄=>
   codeAny (model X.prog X.w) X.A (.compStart (.ListComp elt [(tg,Bn,[],0)] scope pos) 0 (.ref it) Ap { cenv with scope:=relabel scope X.env }) (RR Ap cenv.locals) s₄) E s₃) E s:=by
 obtain⟨k1,k2,k3,k4,k5⟩:=n_ hn
 refine zR ?_
 have I3:Inv X AC σ (upd H s.heap.objs.size (.lst [])) { s with heap:=s.heap.push { cls:=.type "list",data:=.seq ([] :Da Value).toArray } }:=
  I.laid (a:=s.heap.objs.size) (o:=.lst []) (t':=s.toks) (λ_ _ q=>cN _ q) (aO _) (gE _,[],_,.nil,ff _ rfl)
 obtain⟨W,⟨m0,w0⟩,turn⟩:=h s.heap.objs.size I.fresh
 have fo:∀b∈fp,b<s.heap.objs.size:=λb hb=>by obtain⟨o,e,_⟩:=T.obj 0 _ st b hb;exact cA e
 have st3:tn 0 (s.heap.push { cls:=.type "list",data:=.seq ([] :Da Value).toArray }):=T.keep _ _ _ st λb _ o e=>cN _ e
 have f3:∀b∈fp,qY X AC (upd H s.heap.objs.size (.lst [])) b:=λb hb=>(aA (fq (fo b hb))▸(f b hb).1,(f b hb).2)
 have Uw:∀b∈fp,b<(s.heap.push { cls:=.type "list",data:=.seq ([] :Da Value).toArray }).objs.size:=λb hb=>by rw[nU];exact Sa (fo b hb)
 generalize es3:({ s with heap:=s.heap.push { cls:=.type "list",data:=.seq ([] :Da Value).toArray } }:Shared)=s3 at *
 have eh3:s3.heap=s.heap.push { cls:=.type "list",data:=.seq ([] :Da Value).toArray }:=by rw[<-es3]
 rw[<-eh3]at st3 Uw
 generalize s.heap.objs.size=Ap at *
 generalize eH3:upd H Ap (.lst [])=H3 at *
 have IY:=Fd (N2:=N2) (scope:=scope) (cl:=cl) (fp:=fp) (σ2:=ix.map λo=>o.bind λj=>(σ[j]?).join) I3 hk Mh Hv f3 Uw (by rw[aG];exact k1) (λi x v e1 e2=>by
  rw[bP]at e2;cases ei:ix[i]? with
  | none=>rw[ei]at e2;cases e2
  | some o=>
   rw[ei]at e2;cases o with
   | none=>cases e2
   | some j=>
    obtain⟨a1,a2,a3⟩:=k2 i x j e1 ei;refine(a2,a3,j,a1,?_);have e3:(σ[j]?).join=some v:=gU e2;cases ej:σ[j]? with
    | none=>rw[ej]at e3;cases e3
    | some z=>rw[ej]at e3;exact i8 some e3) k5
 have ne:wpAny (model X.prog X.w) X.A (newFunctionEnv scope X.env.globals cl [] X.env.qual none .none (some X.env)) (λcenv s₄=>
   cenv={ scope:=scope,locals:=s3.heap.objs.size,globals:=X.env.globals,cells:=cellsFrom (s3.heap.objs.size+1) scope.names cl,qual:=X.env.qual,func:=none,code:=X.env.code,frame:=X.env.frame,builtins:=X.env.builtins }/\
   s₄={ s3 with heap:=pushCells (s3.heap.push { cls:=.type "dict",data:=.dict #[] }) scope.names }) E s3:=by
  simp only[newFunctionEnv,Option.isSome_some,qW]
  refine az (wpAny_alloc ?_)
  refine az (wpAny_layCells _ (λname kind cells=>by cases hkc:kind==NameKind.cell <;> simp[hkc]) _ _ _ _ ?_)
  rw[ES]
  refine az (bh (bh (?_,Z)))
  rw[show({ s3 with heap:=s3.heap.push { cls:=.type "dict",data:=.dict #[] } }:Shared).heap.objs.size=s3.heap.objs.size+1 from nU ..]
 refine bH ne λcenv s4 (e1,e2)=>?_
 subst e1 e2
 have Ux:tn 0 (pushCells (s3.heap.push { cls:=.type "dict",data:=.dict #[] }) scope.names):=T.keep _ _ _ st3 λb _ o e=>Lh _ _ b o (cN _ e)
 have Bt:s3.heap.objs.size≠X.env.locals:=zW I3.lt
 have wI:∀{H':Hp},(∀b∈fp,H' b=none)->∀b∈fp,qY (dg X N2 scope cl s3 H3 fp) [] H' b:=λ{H'} hn b hb=>
  (hn b hb,(IY.ok.QC b hb).1,IY.ok.Hr b hb,.inl hb,(IY.ok.QC b hb).2,λp hp=>nomatch hp)
 have loop:codeAny (model X.prog X.w) X.A (.compLoop (.ListComp elt [(tg,Bn,[],0)] scope pos) 0 (.ref it) (.ref Ap) (dg X N2 scope cl s3 H3 fp).env) (RR (.ref Ap) s3.heap.objs.size)
   { s3 with heap:=pushCells (s3.heap.push { cls:=.type "dict",data:=.dict #[] }) scope.names }:=by
  refine Mf (λn s'=>∃i σ' H',Inv (dg X N2 scope cl s3 H3 fp) [] σ' H' s'/\tn i s'.heap/\(∀b∈fp,H' b=none)/\W i n σ' H') ?_ m0 (0,_,H3,IY,Ux,λb hb=>(f3 b hb).1,w0)
  rintro n s5 ⟨i,σ5,H5,I5,Fi,Mi,w5⟩
  rcases turn i n σ5 H5 w5 with⟨stop,qn⟩|⟨go,S,N,hSN,step⟩
  . refine bH (T.done (dg X N2 scope cl s3 H3 fp) rfl rfl rfl hc i [] s5 σ5 H5 (λ_ _=>False) I5 (wI Mi) Fi stop) λr s6 (hr,I6)=>?_
    subst hr
    obtain⟨m6,ns6,_⟩:=id I6.loc
    have IX:Inv X AC σ H5 s6:=I3.Ym (ch:=fp) I6.os I6.base I6.hok I6.bare λb hb=>((f3 b hb).2.2.2.1,(f3 b hb).2.1,(f3 b hb).2.2.2.2.1,(f3 b hb).2.2.2.2.2)
    refine hR Ap s3.heap.objs.size H5 s6 m6 IX ns6 I6.free Bt I3.sz (λx c e z=>?_) (λp hp z=>?_) qn
    . obtain⟨v,q⟩:=I3.cell x c e
      exact absurd q.lt (z▸j7 _)
    . exact absurd (cA (I3.pin p hp).1) (z▸j7 _)
  . refine bH (T.item (dg X N2 scope cl s3 H3 fp) rfl rfl rfl hc i [] s5 σ5 H5 (λ_ _=>False) I5 (wI Mi) Fi go) λr s6 (u,hr,h6)=>?_
    subst hr
    refine bH h6 λ_ s7 (x,H7,I7,r7,y7,Fj,Uy)=>?_
    have I7':=I7.pinned (wI Uy) (T.obj _ _ Fj)
    refine bH (hg cl s3 H3 fp _ s7 σ5 H7 x u _ I7' r7 (step x H7 y7)) λ_ s8 (σ8,H8,I8,Yz,q8)=>?_
    refine bH (he cl s3 H3 fp _ s8 σ8 H8 _ I8 q8) λy s9 (v,H9,I9,r9,q9)=>?_
    obtain⟨xs,hxs,hxl,m',hm,w9⟩:=hSN σ8 v H9 Yz q9
    refine bH (fh _ s9 σ8 H9 (.ref Ap) [v] (.ref Ap) [y] (λz Mj=>z =.cK/\Mj=upd H9 Ap (.lst (xs++[v]))) I9 rfl (.cons r9 .nil) (Ap,xs,v,Z,Z,hxs,hxl,Z,Z)) λz s10 (zv,Mj,Ml,r10,ez,eH)=>?_
    subst eH
    refine(m',hm,i+1,σ8,_,Ml.sY,T.keep _ _ _ Fj λb hb o e=>(Ml.pin (b,o) (kK _ (kK _ (j9 hb e)))).1,λb hb=>?_,w9)
    obtain⟨o,e,d⟩:=T.obj _ _ Fj b hb
    exact(Ml.pin (b,o) (kK _ (kK _ (j9 hb e)))).2.1
 exact codeAny_compStart_list loop (T.self _ 0 _ _ _ Ux loop)
end
variable {H':Hp}
def aM.cJ{p:Addr}(e:aM H H')(h:H p=none)(o:HO):aM H (upd H' p o):=λb u q=>aA (aJ q h)▸e b u q
def Dz(n d:Int):SeqAt.shaped (.tuple [.int n,.int d])=true:=rfl
def WX(n d:Int):PyData.eqv (.tuple [.int n,.int d]) (.tuple [.int n,.int d])=true:=by simp[PyData.eqv,PyData.eqvAll]
def Uz{p:Addr}{q:Rat}(h:H p=some (oS q)):Dt K H (.ref p) (.tuple [.int q.num,.int (q.den:Int)]):=.tup (cU.of h) (.cons (.int _) (.cons (.int _) .nil))
inductive ab9(vs:Da V)(H:Hp)(Q:VK)(E:XK):Prop
 |mk(t b:Int)(_:vs=[.int t,.int b])(_:0<b)(_:Jm.Sz 9000 b)(_:∀(r:Addr) (H':Hp),aM H H'->H' r=some (oS (Jm.fr t b))->Q (.ref r) H')
def CQ:Sp:=bx (ab9)
def I_{E:XK}{t b:Int}(h0:0<b)(h1:Jm.Sz 9000 b)(h:∀(r:Addr) (H':Hp),aM H H'->H' r=some (oS (Jm.fr t b))->Q (.ref r) H'):CQ [.int t,.int b] H Q E:=(t,b,Z,h0,h1,h)
inductive xIs(vs:Da V)(H:Hp)(Q:VK)(E:XK):Prop
 |mk(p:Addr)(q:Rat)(t b:Int)(_:vs=[.ref p,.int t,.int b])(_:H p=some (oS q))(_:0<b)(_:Jm.Sz 9000 b)(_:q=Jm.fr t b)(_:∀H',aM H H'->Q (.bl true) H')
def Sx:Sp:=bx (xIs)
def Mm{E:XK}{p:Addr}{q:Rat}{t b:Int}(hp:H p=some (oS q))(h0:0<b)(h1:Jm.Sz 9000 b)(e:q=Jm.fr t b)(h:∀H',aM H H'->Q (.bl true) H'):Sx [.ref p,.int t,.int b] H Q E:=(p,q,t,b,Z,hp,h0,h1,e,h)
section
variable {X:Cx}
theorem WY(hc:X.calm=true):iL X (.builtin "sum") (λxs H Q=>∃(a:Addr)(ns:Da Int),xs=[.ref a]/\aC X.K H a (ns.map V.int)/\Q (.int ns.sum) H):=by
 intro AC s σ H xs us Q I r h;obtain⟨a,ns,rfl,hS,q⟩:=h;obtain⟨u,rfl,ru⟩:=vals1 r;cases ru;obtain⟨BT,rv,p,hz⟩:=I.list hS;have hi:=intsAre_of rv;have hl:=p.isList;obtain⟨o,ho,_⟩:=id hl;have hne:a≠s.heap.objs.size:=fq (cA ho);have W:=(Walks.list (prog:=X.prog) (w:=X.w) (A:=X.A.in1) (I.ok.hd hc) s.heap.objs.size a hne BT.toArray).toS;have Fl:BT.length=ns.length:=by rw[<-rv.length,aG]
 refine call_sum_walkAnyS (R9 hl ?_);refine(s.heap.objs.size,_,_,_,_,_,_,λi=>ns.getD i 0,Z,W,((_,ff _ rfl,Z,Z),hl.at λo e=>cN _ e),λb hb=>?_,λi v hP=>?_,λs' t' hm=>?_)
 .rcases dW.mp hb with rfl|hb
  .exact cA (ff _ rfl)
  .obtain rfl:=dw.mp hb;exact cA (cN _ ho)
 .have UA:BT[i]?=some v:=by simpa using hP
  have hil:i<ns.length:=by have:=(c_.mp UA).1;omega
  obtain⟨u,hu,ru⟩:=rv.get (i:=i) (x:=V.int ns[i]) (by rw[bP,a_ hil];rfl);rw[UA]at hu;cases hu;obtain⟨t,e⟩:=ru;refine(t,?_);rw[e];show Value.int ns[i] t=Value.int (ns.getD i 0) t;rw[dQ,a_ hil];rfl
 .obtain ⟨h',g',d',tk',os'⟩:=s';have e1:g'=s.gens:=hm.gens;have e2:d'=s.drawn:=hm.drawn;have e3:os'=s.os:=hm.os;subst e1 e2 e3;have hsz:BT.toArray.size=ns.length:=by rw[iW,Fl]
  rw[hsz,preSum_getD,G0 (aO _)];exact(.int ns.sum,H,I.kept (h':=h') (t':=tk') λb o e=>hm.heap b o (λhb=>absurd (cA e) ((dw.mp hb)▸j7 _)) (cN _ e),(t',Z),q)
theorem WZ(hc:X.calm=true):iL X (.builtin "all") (λxs H Q=>∃(a:Addr)(bs:Da Bool),xs=[.ref a]/\aC X.K H a (bs.map V.bl)/\Q (.bl (bs.all id)) H):=by
 intro AC s σ H xs us Q I r h;obtain⟨a,bs,rfl,hS,q⟩:=h;obtain⟨u,rfl,ru⟩:=vals1 r;cases ru;obtain⟨BT,rv,p,hz⟩:=I.list hS;have hl:=p.isList;obtain⟨o,ho,_⟩:=id hl;have hne:a≠s.heap.objs.size:=fq (cA ho);have Fl:BT.length=bs.length:=by rw[<-rv.length,aG]
 refine call_all_walk (R9 hl ?_);refine(s.heap.objs.size,_,_,_,_,_,λi=>bs.getD i false,Z,Walks.list (prog:=X.prog) (w:=X.w) (A:=X.A.in1) (I.ok.hd hc) s.heap.objs.size a hne BT.toArray,((_,ff _ rfl,Z,Z),hl.at λo e=>cN _ e),λi v s' Q' E' hP hQ=>?_,λh' tk hk=>?_)
 .have UA:BT[i]?=some v:=by simpa using hP
  have hil:i<bs.length:=by have:=(c_.mp UA).1;omega
  obtain⟨u,hu,ru⟩:=rv.get (i:=i) (x:=V.bl bs[i]) (by rw[bP,a_ hil];rfl);rw[UA]at hu;cases hu;have e:v=Value.bool bs[i] :=ru;subst e;refine DR ?_;have hQ2:Q' (bs.getD i false) s':=hQ;rw[dQ,a_ hil]at hQ2;exact hQ2
 .have hsz:BT.toArray.size=bs.length:=by rw[iW,Fl]
  have e:(List.range BT.toArray.size).all (λi=>bs.getD i false)=bs.all id:=by
   rw[hsz,Cz,t_,t_];refine(λz x hx=>?_,λz i hi=>?_)
   .obtain ⟨i,hi,e⟩:=List.mem_iff_getElem.mp hx;have:=z i (zU.mpr hi);rw[dQ,a_ hi]at this;rw[<-e];exact this
   .have hi':=zU.mp hi;rw[dQ,a_ hi'];exact z _ (xY hi')
  rw[e];exact(.bl (bs.all id),H,I.kept (h':=h') (t':=tk) λb o e=>hk b o (λhb=>absurd (cA e) ((dw.mp hb)▸j7 _)) (cN _ e),Z,q)
end
section
variable {X:Cx}(K:Fg)
def aP(hK:X.K=K:=by rfl):AJ X (L1 K):=hK▸Ug
def aH(hK:X.K=K:=by rfl):AJ X (L0 K):=hK▸QK
def ZL(hu:X.A.units+64<cLine)(hK:X.K=K:=by rfl):jU X (compareOp .Eq) (abX K):=hK▸abY hu
def Hw(hu:X.A.units+64<cLine)(hK:X.K=K:=by rfl):jU X (compareOp .NotEq) (Sw K):=hK▸abZ hu
def kh(hc:X.calm=true)(hK:X.K=K:=by rfl):iL X (.builtin "sum") (λxs H Q=>∃(a:Addr)(ns:Da Int),xs=[.ref a]/\aC K H a (ns.map V.int)/\Q (.int ns.sum) H):=hK▸WY hc
def UB(hc:X.calm=true)(hK:X.K=K:=by rfl):iL X (.builtin "all") (λxs H Q=>∃(a:Addr)(bs:Da Bool),xs=[.ref a]/\aC K H a (bs.map V.bl)/\Q (.bl (bs.all id)) H):=hK▸WZ hc
def bF(hK:X.K=K:=by rfl):iL X (.builtin "len") (λxs H Q=>∃p ys,xs=[.ref p]/\(aC K H p ys\/cU K H p ys)/\Q (.int ys.length) H):=hK▸L4
def mz(hK:X.K=K:=by rfl):iL X (.type "list") (λxs H Q=>∃p ys,xs=[.ref p]/\(aC K H p ys\/cU K H p ys)/\∀l,H l=none->Q (.ref l) (upd H l (.lst ys))):=hK▸L6
def dH(hK:X.K=K:=by rfl):iL X (.builtin "isinstance") (λxs H Q=>∃x n t b,xs=[x,.ty n]/\iA K H x t/\PySem.W.kitOne K t (.type n)=some b/\Q (.bl b) H):=hK▸O2
end
theorem O3{l1 l2:Nat}(h1:l1<n)(h2:l2<n):ZipApart (n+4) (n+2) (n+3) n (n+1) l1 l2:=by
 have nn:∀i j:Nat,i≠j->n+i≠n+j:=λi j h e=>h (Nat.add_left_cancel e);have ne:∀(c k:Nat),c<n->c≠n+k:=λc k h=>by omega
 exact(nn 2 4 (by decide),nn 3 4 (by decide),nn 0 4 (by decide),nn 1 4 (by decide),nn 2 3 (by decide),nn 2 0 (by decide),nn 2 1 (by decide),nn 3 0 (by decide),nn 3 1 (by decide),nn 0 1 (by decide),ne _ 4 h1,ne _ 3 h1,ne _ 0 h1,ne _ 1 h1,ne _ 4 h2,ne _ 3 h2,ne _ 0 h2,ne _ 1 h2)
section
variable {X:Cx}{DD:Da Expr}{kk:Nat}{tpos:Pos}
end
inductive ae2(K:Fg)(vs:Da V)(H:Hp)(Q:VK)(E:XK):Prop
 |mk(a:Addr)(ns:Da Int)(k j:Int)(_:vs=[.ref a,.int k,.int j])(_:aC K H a (ns.map V.int))(_:ns.length<=63)(_:0<=k)(_:0<=j)(_:j<2 ^ 61)(_:∀(m:Int) (H':Hp),1<=m->m<=1000000000->aM H H'->Q (.int m) H')
def Bu(K:Fg):Sp:=bx (ae2 K)
def DY{E:XK}{k j:Int}(hS:aC K H a (ns.map V.int))(h63:ns.length<=63)(h1:0<=k)(h2:0<=j)(h3:j<2 ^ 61)(h:∀(m:Int) (H':Hp),1<=m->m<=1000000000->aM H H'->Q (.int m) H'):Bu K [.ref a,.int k,.int j] H Q E:=(a,ns,k,j,Z,hS,h63,h1,h2,h3,h)
variable {xs:Da V}{i:Nat}
def i_{v:V}(h:xs[i]?=some v):lz xs (i:Int)=some v:=aE h
section
variable {X:Cx}
inductive ae3(Q:VK)(vs:Da V)(H1:Hp):Prop
 |mk(j:Int)(_:vs=[.int j])(_:∀p,H1 p=none->Q (.ref p) (upd H1 p (.yV 0 j)))
def ain(ta:TA):TE:=λσ H Q=>ta σ H (ae3 Q)
def upTo(n:Nat):Da Int:=(List.range n).map λi=>((i:Nat):Int)
theorem J0(hc:X.calm=true):iL X (.type "list") (λxs H Q=>∃(r:Addr)(n:Nat),xs=[.ref r]/\H r=some (.yV 0 (n:Int))/\n<=1000/\∀l,H l=none->Q (.ref l) (upd H l (.lst ((upTo n).map V.int)))):=by
 intro AC s σ H xs us Q I r h;obtain⟨a,n,rfl,hr,hn,q⟩:=h;obtain⟨u,rfl,ru⟩:=vals1 r;cases ru;obtain⟨t,t2,t3,e⟩:=(show e_ X.prog X.w H s.heap a (.yV 0 (n:Int))from I.hok a _ hr)
 refine call_list_range (n:=n) (I.ok.hd hc) e (small_one (by decide) (by decide) (by omega) (by omega)) (by rw[rangeSize_one];split <;> omega) (by omega) λh' tk acc' c' hk hS hI=>?_;obtain⟨hsz,hit⟩:=hI;have hv:Vals ((upTo n).map V.int) acc'.toList:=by
  have gen:∀(m:Nat)(us:Da Value)(k:Nat),us.length=m->(∀(j:Nat)(v:Value),us[j]?=some v->∃t,v =.int ((0:Int)+((k+j:Nat):Int)*1) t)->Vals (((List.range' k m).map λi=>((i:Nat):Int)).map V.int) us:=by
   intro m
   induction m with
   | zero=>intro us k hl _;rw[List.length_eq_zero_iff.mp hl];exact .nil
   | succ m ih=>
    intro us k hl hu;cases us with
    | nil=>cases hl
    | cons v r=>
     obtain⟨t,e⟩:=hu 0 v rfl;refine .cons (t,?_) (ih r (k+1) (by simpa using hl) λj v' hj=>?_)
     .rw [e];show Value.int _ t=Value.int ((k:Nat):Int) t;congr 1;omega
     .obtain ⟨t,e⟩:=hu (j+1) v' (by simpa using hj);exact(t,by rw[e];congr 1;omega)
  have:=gen n acc'.toList 0 (by simpa using hsz) λj v hj=>by obtain⟨t,e⟩:=hit j v (by simpa using hj);exact(t,by rw[e];congr 1;omega)
  unfold upTo;rw[List.range_eq_range'];exact this
 have hlen:((upTo n).map V.int).length<=sizeLine:=by unfold upTo;simp;exact small (by omega)
 exact(.ref s.heap.objs.size,_,I.laid (a:=s.heap.objs.size) (o:=.lst ((upTo n).map V.int)) (h':=h') (t':=tk) hk (aO _) (hlen,acc'.toList,c',hv,by simpa using hS),Z,q _ I.fresh)
inductive ZM(K:Fg)(Q:VK)(x:V)(y:V)(H2:Hp):Prop
 |mk(_:y =.int (-1))(a xs:_)(_:x =.ref a)(_:aC K H2 a xs)(_:∀p,H2 p=none->Q (.ref p) (upd H2 p (.lst xs.reverse)))
def ae4(K:Fg)(ts:TE)(σ:St)(Q:VK):V->Hp->Prop:=λx H1=>ts σ H1 (ZM K Q x)
def aio(K:Fg)(te ts:TE):TE:=λσ H Q=>te σ H (ae4 K ts σ Q)
end
theorem sum_set:∀(as:Da Int)(j:Nat)(x:Int),j<as.length->(as.set j x).sum=as.sum-as.getD j 0+x
 | [],j,_,h=>absurd h (Nat.not_lt_zero _)
 | a::r,0,x,_=>by show(x::r).sum=(a::r).sum-a+x;rw[cI,cI];omega
 | a::r,j+1,x,h=>by show(a::r.set j x).sum=(a::r).sum-r.getD j 0+x;rw[cI,cI,sum_set r j x (by simpa using h)];omega
def qe(as:Da Int)(j k:Nat)(x:Int)(h:j<as.length):(as.set j x).getD k 0=if k=j then x else as.getD k 0:=by
 rw[dQ,Sb];by_cases e:j=k
 .subst e;rw[ay rfl,ay h,ay rfl];rfl
 .rw [av e,av (cC e),<-dQ]
theorem mH{k:Nat}(h:k<n):E4 n (k:Int)=some k:=by unfold E4;rw[ay (by omega),ay (by omega)];rfl
abbrev tx(cs:Da Nat):Str:=⟨cs.toArray⟩
def Bv(cs:Da Nat):(tx cs).length=cs.length:=by show cs.toArray.size=_;rw[iW]
def ab_(a b:Da Nat):(tx a++tx b:Str)=tx (a++b):=by show(⟨a.toArray++b.toArray⟩:Str)=_;simp[tx]
def YA(cs:Da Nat):It:=(λi _=>i<cs.length,λi H v H'=>H'=H/\∃c,cs[i]?=some c/\v =.str (tx [c]),λi _=>cs.length<=i)
theorem Sy{P:Program}{w:World}{K:Fg}{tg:Expr}(x:Str)(t:Tok)(it:Addr):Turn P w K tg (YA x.cps.toList) [it] it (λi h=>h.IsStrIter it "str_ascii_iterator" x t i) where
 mem:=by simp
 obj:=λi h st b hb=>by
  have e:b=it:=by simpa using hb
  subst e;obtain⟨o,e,c,d⟩:=st;exact(o,e,λv z=>by rw[d]at z;cases z)
 keep:=λi h h' st k=>let(o,ho,r):=st;(o,k it (by simp) o ho,r)
 item:=by
  intro X hP hw hK hc i AC s σ H E I hf st hg;subst hP hw hK;have hi:i<x.cps.size:=by have hg':i<x.cps.toList.length:=hg;simpa using hg'
  obtain⟨f0,f1,f2,f3,f4,f5⟩:=hf it (by simp);refine wpAny_pyNext_ascii_item st (c:=x.cps[i]) (by simp[hi]) λh' st' sb=>?_;have I1:Inv X AC σ H { s with heap:=h',toks:=s.toks+1 }:=I.turned (t':=s.toks+1) (λb o hb e=>sb.extBut b o hb e) f0 f1 f3 f4 f5;obtain⟨o,e,c,d⟩:=id st';exact(_,Z,CI (s:={ s with heap:=h',toks:=s.toks+1 }) e c d (by decide) (.str (tx [x.cps[i]]),H,I1,(_,Z),(Z,x.cps[i],by simp[hi],Z),st',λb hb=>(hf b hb).1))
 done:=by
  intro X hP hw hK hc i AC s σ H E I hf st hg;subst hP hw hK;have hi:x.cps.size<=i:=by have hg':x.cps.toList.length<=i:=hg;simpa using hg'
  obtain⟨f0,f1,f2,f3,f4,f5⟩:=hf it (by simp);exact wpAny_pyNext_ascii_end (I.ok.hd hc) st (by simp;omega) λh' eb=>(Z,I.turned (t':=s.toks) (λb o hb e=>eb b o hb e) f0 f1 f3 f4 f5)
 self:=λ_ _ _ _ _ st h=>wpAny_pyIter_striter_ascii st h
theorem UC{P:Program}{w:World}{K:Fg}{tg:Expr}(x:Str)(t:Tok)(it:Addr):Turn P w K tg (YA x.cps.toList) [it] it (λi h=>h.IsStrIter it "str_iterator" x t i) where
 mem:=by simp
 obj:=λi h st b hb=>by
  have e:b=it:=by simpa using hb
  subst e;obtain⟨o,e,c,d⟩:=st;exact(o,e,λv z=>by rw[d]at z;cases z)
 keep:=λi h h' st k=>let(o,ho,r):=st;(o,k it (by simp) o ho,r)
 item:=by
  intro X hP hw hK hc i AC s σ H E I hf st hg;subst hP hw hK;have hi:i<x.cps.size:=by have hg':i<x.cps.toList.length:=hg;simpa using hg'
  obtain⟨f0,f1,f2,f3,f4,f5⟩:=hf it (by simp);refine wpAny_pyNext_wide_item st (c:=x.cps[i]) (by simp[hi]) λh' st' sb=>?_;have I1:Inv X AC σ H { s with heap:=h',toks:=s.toks+1 }:=I.turned (t':=s.toks+1) (λb o hb e=>sb.extBut b o hb e) f0 f1 f3 f4 f5;obtain⟨o,e,c,d⟩:=id st';exact(_,Z,CI (s:={ s with heap:=h',toks:=s.toks+1 }) e c d (by decide) (.str (tx [x.cps[i]]),H,I1,(_,Z),(Z,x.cps[i],by simp[hi],Z),st',λb hb=>(hf b hb).1))
 done:=by
  intro X hP hw hK hc i AC s σ H E I hf st hg;subst hP hw hK;have hi:x.cps.size<=i:=by have hg':x.cps.toList.length<=i:=hg;simpa using hg'
  obtain⟨f0,f1,f2,f3,f4,f5⟩:=hf it (by simp);exact wpAny_pyNext_wide_end (I.ok.hd hc) st (by simp;omega) λh' eb=>(Z,I.turned (t':=s.toks) (λb o hb e=>eb b o hb e) f0 f1 f3 f4 f5)
 self:=λ_ _ _ _ _ st h=>wpAny_pyIter_striter_wide st h
variable {cs:Da Nat}{Ap:Addr}
section
variable {X:Cx}{tg:Expr}
inductive ae5(R:It->Hp->Prop)(x:V)(H1:Hp):Prop
 |mk(cs:Da Nat)(_:x =.str (tx cs))(_:R (YA cs:_) H1)
def acd(te:TE):TI:=λσ H R=>te σ H (ae5 R)
def ace{l:Expr}{tl:TE}(hl:PE X l tl):PI X tg l (acd tl):=by
 intro AC s σ H R I h;refine bH (hl AC s σ H _ I h) λv s1 (x,H1,I1,r1,q1)=>?_;obtain⟨cs,e,q⟩:=q1;subst e;obtain⟨t,rfl⟩:=r1;have fp:∀b∈[s1.heap.objs.size],qY X AC H1 b:=λb hb=>by
  have e:b=s1.heap.objs.size:=by simpa using hb
  subst e;exact I1.DU (aO _) (I1.hok.fresh (aO _))
 have tw:=@UC X.prog X.w X.K tg (tx cs) t s1.heap.objs.size;have ta:=@Sy X.prog X.w X.K tg (tx cs) t s1.heap.objs.size;cases ha:(tx cs).cps.all (·<128)
 .exact wpAny_pyIter_wide ha (s1.heap.objs.size,[s1.heap.objs.size],_,_,H1,Z,I1.kept (t':=s1.toks) λb o e=>cN _ e,tw,(_,ff _ rfl,Z,Z),fp,q)
 .exact wpAny_pyIter_ascii ha (s1.heap.objs.size,[s1.heap.objs.size],_,_,H1,Z,I1.kept (t':=s1.toks) λb o e=>cN _ e,ta,(_,ff _ rfl,Z,Z),fp,q)
theorem W0{k:Nat}(Pv:Nat->Da V->Hp->Prop)(hn:cs.length<=100000)(h0:Pv 0 [] (upd H Ap (.lst [])))(hs:∀(i:Nat) (c:Nat) (out:Da V) (H1:Hp),cs[i]?=some c->out.length=i->H1 Ap=some (.lst out)->Pv i out H1->te (σ2.set k (some (.str (tx [c])))) H1 (z9 Pv i Ap out))(hd:∀(out:Da V) (H1:Hp),out.length=cs.length->H1 Ap=some (.lst out)->Pv cs.length out H1->Q (.ref Ap) H1):
  Fe (YA cs) (i9 k) te Ap σ2 H Q:=by
 refine⟨λi m σ' H'=>m=cs.length-i/\i<=cs.length/\(∀v,σ'.set k (some v)=σ2.set k (some v))/\∃out,out.length=i/\H' Ap=some (.lst out)/\Pv i out H',(cs.length,by simp,gE _,λ_=>rfl,[],Z,aq,h0),?_⟩
 rintro i m σ' H' ⟨rfl,hi,hσ,out,ho,ha,p⟩
 by_cases va:i<cs.length
 . refine .inr (va,λσ3=>∀v,σ3.set k (some v)=σ2.set k (some v),(z9 Pv i Ap out),λσ3 v H4 hS (a,b)=>?_,λx H1 y=>?_)
   . refine(out,a,?_,cs.length-(i+1),by omega,Z,va,hS,out++[v],by rw[c7,ho];rfl,aq,b)
     have:sizeLine=16777216:=mY
     omega
   . obtain⟨e,c,hc,ex⟩:=y
     subst e ex
     refine(λv=>by rw[qV];exact hσ v,?_)
     have q2:=hs i c out _ hc ho ha p
     rw[<-hσ]at q2
     exact q2
 . have e:i=cs.length:=by omega
   subst e
   exact .inl (aO _,hd out H' ho ha p)
end
def Fo(signs:Str)(c:Nat):Bool:=!(Builtin.Str.occurrences signs (tx [c]) 0 signs.length 1).isEmpty
noncomputable def lM(c:Int)(n:Nat):Da Nat:=(List.range n).map λi=>97+((c / 26 ^ i) % 26).toNat
def vP(c:Int)(n:Nat):(lM c n).length=n:=by unfold lM;rw[aG,Hl]
def W4(c:Int)(n:Nat):lM c (n+1)=lM c n++[97+((c / 26 ^ n) % 26).toNat] :=by unfold lM;rw[List.range_succ,bQ];rfl
theorem UD{k:Int}(h0:0<=k)(h1:k<26):lz (("abcdefghijklmnopqrstuvwxyz":Str).cps.toList) k=some (97+k.toNat):=by
 have h:∀n:Nat,n<26->("abcdefghijklmnopqrstuvwxyz":Str).cps.toList[n]?=some (97+n):=by decide +kernel
 have e:k=((k.toNat:Nat):Int):=by omega
 have:=aE (h k.toNat (by omega));rw[<-e]at this;exact this
structure Hx(vs:Da V)(H:Hp)(Q:VK)(E:XK):Prop where
 ex:∃(c:Int)(n:Nat),vs=[.int c,.int (n:Int)]/\0<=c/\n<=1000/\Q (.str (tx (lM c n))) H
def Mp{E:XK}{c ni:Int}(e:ni=(n:Int))(hc:0<=c)(hn:n<=1000)(q:Q (.str (tx (lM c n))) H):Hx [.int c,.int ni] H Q E:=by subst e;exact(c,n,Z,hc,hn,q)
inductive ZN(vs:Da V)(H:Hp)(Q:VK)(E:XK):Prop
 |mk(cs:Da Nat)(signs:Str)(_:vs=[.str (tx cs),.str signs])(_:cs.length<=100000)(_:∀H',aM H H'->Q (.bl (cs.all (Fo signs))) H')
def DZ:Sp:=bx (ZN)
def SA{H:Hp}{Q:VK}{E:XK}{cs:Da Nat}{signs:Str}(hl:cs.length<=100000)(q:∀H',aM H H'->Q (.bl (cs.all (Fo signs))) H'):DZ [.str (tx cs),.str signs] H Q E:=(cs,signs,Z,hl,q)
def isName(cs:Da Nat):Bool:=decide (1<=(cs.length:Int)) && decide ((cs.length:Int)<=8) && cs.all (Fo "abcdefghijklmnopqrstuvwxyz")
inductive ZO(vs:Da V)(H:Hp)(Q:VK)(E:XK):Prop
 |mk(cs:Da Nat)(_:vs=[.str (tx cs)])(_:cs.length<=100000)(_:∀H',aM H H'->Q (.bl (isName cs)) H')
def z_:Sp:=bx (ZO)
def Fp{E:XK}(hl:cs.length<=100000)(q:∀H',aM H H'->Q (.bl (isName cs)) H'):z_ [.str (tx cs)] H Q E:=(cs,Z,hl,q)
def Fq{p q:Prop}(h:if true=true then p else q):p:=by rwa [ay rfl]at h
def Ft{p q:Prop}(h:if false=true then p else q):q:=by rwa [av gZ]at h
variable {cond:Expr}
section
variable {prog:Program}{w:World}{A:Around}{R:Result->Shared->Prop}{s:Shared}
theorem J1{target:Expr}{it Ap:Value}(J:Nat->Shared->Prop)(turn:∀n s,J n s->wpAny (model prog w) A (pyNext it) (λr s₁=>match r with
    | none=>R (.ok .next) s₁
    | some v=>wpAny (model prog w) A (letOwnedTupleGo target it v) (λ_ s₂=>wpAny (model prog w) A (assign target env v) (λ_ s₃=>wpAny (model prog w) A (isTrue cond env (eval cond env)) (λok s₃'=>if ok=true then
       wpAny (model prog w) A (eval elt env) (λx s₄=>wpAny (model prog w) A (call (.builtin "list.append") [Ap,x]) (λ_ s₅=>∃m,m<n/\J m s₅) (λ_ _=>False) s₄) (λ_ _=>False) s₃'
       else ∃m,m<n/\J m s₃') (λ_ _=>False) s₃) (λ_ _=>False) s₂) (λ_ _=>False) s₁) (λ_ _=>False) s)(n:Nat)(h:J n s):codeAny (model prog w) A (.compLoop (.ListComp elt [(target,Bn,[cond],0)] scope pos) 0 it Ap env) R s:=by
 refine codeAny_loop rfl J (λn s hI=>?_) n h
 show wpAny _ A ((compTurn (.ListComp elt [(target,Bn,[cond],0)] scope pos) 0 it Ap env).onRaise (λx=>do noteFrame x env;theTreesLotGoes x)) _ _ s
 refine wpAny_noted ?_
 rw[compTurn_list]
 refine az (CB (az (j8 (turn n s hI) (λr s₁ h₁=>?_) λ_ _ h'=>h'.elim)))
 cases r with
 | none=>exact bh h₁
 | some v=>
   refine az (j8 h₁ (λ_ s₂ h₂=>az (j8 h₂ (λ_ s₃ h₃=>?_) λ_ _ h'=>h'.elim)) λ_ _ h'=>h'.elim)
   refine az (wpAny_tests_one (j8 h₃ (λok s₃' h₃'=>?_) λ_ _ h'=>h'.elim))
   cases ok with
   | false=>exact bh (Z,Ft h₃')
   | true=>exact az (az (j8 (Fq h₃') (λx s₄ h₄=>az (j8 h₄ (λ_ s₅ h₅=>bh (bh (Z,h₅))) λ_ _ h'=>h'.elim)) λ_ _ h'=>h'.elim))
end
variable {tc:TT}{wi:TI}{px pos':Pos}
section
variable {X:Cx}
def Bw(J:It)(g:TG)(tc:TT)(te:TE)(Ap:Addr)(σ₀:St)(H:Hp)(Q:VK):Prop:=∃W:Nat->Nat->St->Hp->Prop,(∃m,W 0 m σ₀ (upd H Ap (.lst [])))/\∀i m σ2 H2,W i m σ2 H2->(J.stop i H2/\Q (.ref Ap) H2)\/(J.go i H2/\∃(S:St->Prop)(N:V->Hp->Prop)(N0:Hp->Prop),(∀σ3 v H4,S σ3->N v H4->∃xs,H4 Ap=some (.lst xs)/\xs.length<sizeLine/\∃m',m'<m/\W (i+1) m' σ3 (upd H4 Ap (.lst (xs++[v]))))/\(∀σ3 H4,S σ3->N0 H4->∃m',m'<m/\W (i+1) m' σ3 H4)/\∀x H',J.EY i H2 x H'->g x σ2 H' λσ3 H3=>S σ3/\tc σ3 H3 λb H4=>if b=true then te σ3 H4 N else N0 H4)
def ZP(ix:Da (Option Nat))(g:TG)(tc:TT)(te:TE)(σ:St)(Q:VK):It->Hp->Prop:=λJ H1=>∀Ap,H1 Ap=none->Bw J g tc te Ap (pick ix σ) H1 Q
def Fv(wi:TI)(ix:Da (Option Nat))(g:TG)(tc:TT)(te:TE):TE:=λσ H Q=>wi σ H (ZP ix g tc te σ Q)
theorem DA{ix:Da (Option Nat)}{g:TG}{RR:Value->Addr->Result->Shared->Prop}(hc:X.calm=true)(hg:∀cl s₂ H₂ fp,PG (dg X N2 scope cl s₂ H₂ fp) tg g)(he:∀cl s₂ H₂ fp,PE (dg X N2 scope cl s₂ H₂ fp) elt te)(ht:∀cl s₂ H₂ fp,PT (dg X N2 scope cl s₂ H₂ fp) cond tc)(hk:scope.kind =.function)(hn:pB X.N X.env.scope.names scope.names N2 ix=true)(Mh:∀y c,(y,c)∈cl->X.env.cells.lookup y=some c)(Hv:∀y,(y,NameKind.free)∈scope.names->∃c,(y,c)∈cl){it:Addr}{fp:Da Addr}{tn:Nat->Heap->Prop}{J:It}(I:Inv X AC σ H s)(T:Turn X.prog X.w X.K tg J fp it tn)(st:tn 0 s.heap)(f:∀b∈fp,qY X AC H b)(h:∀Ap,H Ap=none->Bw J g tc te Ap (ix.map λo=>o.bind λj=>(σ[j]?).join) H Q)(hR:∀Ap C H' s' m,Inv X AC σ H' s'->s'.heap.Ns C m->H' C=none->C≠X.env.locals->X.s₀.heap.objs.size<=C->(∀x c,X.env.cells.lookup x=some c->c≠C)->(∀p∈X.pn++AC,p.1≠C)->Q (.ref Ap) H'->RR (.ref Ap) C (.ok .next) s'):
  wpAny (model X.prog X.w) X.A (newList []) (λAp s₃=>wpAny (model X.prog X.w) X.A (newFunctionEnv scope X.env.globals cl [] X.env.qual none .none (some X.env)) (λcenv s₄=>
   codeAny (model X.prog X.w) X.A (.compStart (.ListComp elt [(tg,Bn,[cond],0)] scope pos) 0 (.ref it) Ap { cenv with scope:=relabel scope X.env }) (RR Ap cenv.locals) s₄) E s₃) E s:=by
 obtain⟨k1,k2,k3,k4,k5⟩:=n_ hn
 refine zR ?_
 have I3:Inv X AC σ (upd H s.heap.objs.size (.lst [])) { s with heap:=s.heap.push { cls:=.type "list",data:=.seq ([] :Da Value).toArray } }:=
  I.laid (a:=s.heap.objs.size) (o:=.lst []) (t':=s.toks) (λ_ _ q=>cN _ q) (aO _) (gE _,[],_,.nil,ff _ rfl)
 obtain⟨W,⟨m0,w0⟩,turn⟩:=h s.heap.objs.size I.fresh
 have fo:∀b∈fp,b<s.heap.objs.size:=λb hb=>by obtain⟨o,e,_⟩:=T.obj 0 _ st b hb;exact cA e
 have st3:tn 0 (s.heap.push { cls:=.type "list",data:=.seq ([] :Da Value).toArray }):=T.keep _ _ _ st λb _ o e=>cN _ e
 have f3:∀b∈fp,qY X AC (upd H s.heap.objs.size (.lst [])) b:=λb hb=>(aA (fq (fo b hb))▸(f b hb).1,(f b hb).2)
 have Uw:∀b∈fp,b<(s.heap.push { cls:=.type "list",data:=.seq ([] :Da Value).toArray }).objs.size:=λb hb=>by rw[nU];exact Sa (fo b hb)
 generalize es3:({ s with heap:=s.heap.push { cls:=.type "list",data:=.seq ([] :Da Value).toArray } }:Shared)=s3 at *
 have eh3:s3.heap=s.heap.push { cls:=.type "list",data:=.seq ([] :Da Value).toArray }:=by rw[<-es3]
 rw[<-eh3]at st3 Uw
 generalize s.heap.objs.size=Ap at *
 generalize eH3:upd H Ap (.lst [])=H3 at *
 have IY:=Fd (N2:=N2) (scope:=scope) (cl:=cl) (fp:=fp) (σ2:=ix.map λo=>o.bind λj=>(σ[j]?).join) I3 hk Mh Hv f3 Uw (by rw[aG];exact k1) (λi x v e1 e2=>by
  rw[bP]at e2;cases ei:ix[i]? with
  | none=>rw[ei]at e2;cases e2
  | some o=>
   rw[ei]at e2;cases o with
   | none=>cases e2
   | some j=>
    obtain⟨a1,a2,a3⟩:=k2 i x j e1 ei;refine(a2,a3,j,a1,?_);have e3:(σ[j]?).join=some v:=gU e2;cases ej:σ[j]? with
    | none=>rw[ej]at e3;cases e3
    | some z=>rw[ej]at e3;exact i8 some e3) k5
 have ne:wpAny (model X.prog X.w) X.A (newFunctionEnv scope X.env.globals cl [] X.env.qual none .none (some X.env)) (λcenv s₄=>
   cenv={ scope:=scope,locals:=s3.heap.objs.size,globals:=X.env.globals,cells:=cellsFrom (s3.heap.objs.size+1) scope.names cl,qual:=X.env.qual,func:=none,code:=X.env.code,frame:=X.env.frame,builtins:=X.env.builtins }/\
   s₄={ s3 with heap:=pushCells (s3.heap.push { cls:=.type "dict",data:=.dict #[] }) scope.names }) E s3:=by
  simp only[newFunctionEnv,Option.isSome_some,qW]
  refine az (wpAny_alloc ?_)
  refine az (wpAny_layCells _ (λname kind cells=>by cases hkc:kind==NameKind.cell <;> simp[hkc]) _ _ _ _ ?_)
  rw[ES]
  refine az (bh (bh (?_,Z)))
  rw[show({ s3 with heap:=s3.heap.push { cls:=.type "dict",data:=.dict #[] } }:Shared).heap.objs.size=s3.heap.objs.size+1 from nU ..]
 refine bH ne λcenv s4 (e1,e2)=>?_
 subst e1 e2
 have Ux:tn 0 (pushCells (s3.heap.push { cls:=.type "dict",data:=.dict #[] }) scope.names):=T.keep _ _ _ st3 λb _ o e=>Lh _ _ b o (cN _ e)
 have Bt:s3.heap.objs.size≠X.env.locals:=zW I3.lt
 have wI:∀{H':Hp},(∀b∈fp,H' b=none)->∀b∈fp,qY (dg X N2 scope cl s3 H3 fp) [] H' b:=λ{H'} hn b hb=>
  (hn b hb,(IY.ok.QC b hb).1,IY.ok.Hr b hb,.inl hb,(IY.ok.QC b hb).2,λp hp=>nomatch hp)
 have loop:codeAny (model X.prog X.w) X.A (.compLoop (.ListComp elt [(tg,Bn,[cond],0)] scope pos) 0 (.ref it) (.ref Ap) (dg X N2 scope cl s3 H3 fp).env) (RR (.ref Ap) s3.heap.objs.size)
   { s3 with heap:=pushCells (s3.heap.push { cls:=.type "dict",data:=.dict #[] }) scope.names }:=by
  refine J1 (λn s'=>∃i σ' H',Inv (dg X N2 scope cl s3 H3 fp) [] σ' H' s'/\tn i s'.heap/\(∀b∈fp,H' b=none)/\W i n σ' H') ?_ m0 (0,_,H3,IY,Ux,λb hb=>(f3 b hb).1,w0)
  rintro n s5 ⟨i,σ5,H5,I5,Fi,Mi,w5⟩
  rcases turn i n σ5 H5 w5 with⟨stop,qn⟩|⟨go,S,N,N0,hSN,hS0,step⟩
  . refine bH (T.done (dg X N2 scope cl s3 H3 fp) rfl rfl rfl hc i [] s5 σ5 H5 (λ_ _=>False) I5 (wI Mi) Fi stop) λr s6 (hr,I6)=>?_
    subst hr
    obtain⟨m6,ns6,_⟩:=id I6.loc
    have IX:Inv X AC σ H5 s6:=I3.Ym (ch:=fp) I6.os I6.base I6.hok I6.bare λb hb=>((f3 b hb).2.2.2.1,(f3 b hb).2.1,(f3 b hb).2.2.2.2.1,(f3 b hb).2.2.2.2.2)
    refine hR Ap s3.heap.objs.size H5 s6 m6 IX ns6 I6.free Bt I3.sz (λx c e z=>?_) (λp hp z=>?_) qn
    . obtain⟨v,q⟩:=I3.cell x c e
      exact absurd q.lt (z▸j7 _)
    . exact absurd (cA (I3.pin p hp).1) (z▸j7 _)
  . refine bH (T.item (dg X N2 scope cl s3 H3 fp) rfl rfl rfl hc i [] s5 σ5 H5 (λ_ _=>False) I5 (wI Mi) Fi go) λr s6 (u,hr,h6)=>?_
    subst hr
    refine bH h6 λ_ s7 (x,H7,I7,r7,y7,Fj,Uy)=>?_
    have I7':=I7.pinned (wI Uy) (T.obj _ _ Fj)
    refine bH (hg cl s3 H3 fp _ s7 σ5 H7 x u _ I7' r7 (step x H7 y7)) λ_ s8 (σ8,H8,I8,Yz,q8)=>?_
    refine bH (ht cl s3 H3 fp _ s8 σ8 H8 _ I8 q8) λok s9' (H9',YB,q9')=>?_
    cases ok with
    | false=>
      obtain⟨m',hm,w9⟩:=hS0 σ8 H9' Yz (Ft q9')
      refine ite_ff (m',hm,i+1,σ8,_,YB.sY,T.keep _ _ _ Fj λb hb o e=>(YB.pin (b,o) (kK _ (kK _ (j9 hb e)))).1,λb hb=>?_,w9)
      obtain⟨o,e,d⟩:=T.obj _ _ Fj b hb
      exact(YB.pin (b,o) (kK _ (kK _ (j9 hb e)))).2.1
    | true=>
      refine ite_tt ?_
      refine bH (he cl s3 H3 fp _ s9' σ8 H9' _ YB (Fq q9')) λy s9 (v,H9,I9,r9,q9)=>?_
      obtain⟨xs,hxs,hxl,m',hm,w9⟩:=hSN σ8 v H9 Yz q9
      refine bH (fh _ s9 σ8 H9 (.ref Ap) [v] (.ref Ap) [y] (λz Mj=>z =.cK/\Mj=upd H9 Ap (.lst (xs++[v]))) I9 rfl (.cons r9 .nil) (Ap,xs,v,Z,Z,hxs,hxl,Z,Z)) λz s10 (zv,Mj,Ml,r10,ez,eH)=>?_
      subst eH
      refine(m',hm,i+1,σ8,_,Ml.sY,T.keep _ _ _ Fj λb hb o e=>(Ml.pin (b,o) (kK _ (kK _ (j9 hb e)))).1,λb hb=>?_,w9)
      obtain⟨o,e,d⟩:=T.obj _ _ Fj b hb
      exact(Ml.pin (b,o) (kK _ (kK _ (j9 hb e)))).2.1
 exact codeAny_compStart_list loop (T.self _ 0 _ _ _ Ux loop)
def W5(N2:Da Str)(ix:Da (Option Nat)){g:TG}(hc:X.calm=true)(hi:PI X tg Bn wi)(hg:∀cl s₂ H₂ fp,PG (dg X N2 scope cl s₂ H₂ fp) tg g)(he:∀cl s₂ H₂ fp,PE (dg X N2 scope cl s₂ H₂ fp) elt te)(ht:∀cl s₂ H₂ fp,PT (dg X N2 scope cl s₂ H₂ fp) cond tc)(hk:scope.kind =.function)(hn:pB X.N X.env.scope.names scope.names N2 ix=true)(hs:∀x,foldedSetIterable Bn X.env x=pure x:=by intro _;rfl):
  PE X (.ListComp elt [(tg,Bn,[cond],0)] scope pos) (Fv wi ix g tc te):=by
 intro AC s σ H Q I h
 obtain⟨k1,k2,k3,k4,k5⟩:=n_ hn
 obtain⟨cl,Mq,c1,c2⟩:=vO (scope:=scope) (env:=X.env) λy hy e=>I.ok.has y.1 (k3 y hy e)
 rw[eval_ListComp]
 refine RX (use:=none) rfl hs Mq hk k4 (bH (hi AC s σ H _ I h) λv s1 h1=>bH h1 λitv s2 h2=>?_)
 obtain⟨it,fp,tn,J,H2,e,I2,T,st2,f2,h2⟩:=h2
 subst e
 refine DA (RR:=λAp C=>compPost (model X.prog X.w) X.A X.xe none (EP X AC σ Q) Ap C) (Q:=Q) hc hg he ht hk hn (λy c m=>(c1 y c m).1) c2 I2 T st2 f2 h2 ?_
 intro Ap C H' s' m I' ns Bt hL hsz rB Aa q
 exact(m,ns,λh' hs'=>(.ref Ap,H',I'.turned (it:=C) (t':=s'.toks) (λb o hb e=>(hs'.2 b hb).trans e) Bt hL (.inr hsz) rB Aa,Z,q))
def W6(N2:Da Str)(ix:Da (Option Nat)){g:TG}(hN:X.N.Nodup)(hi:X.N[i]?=some x)(hx:X.env.scope.names.lookup x=some .local)(hc:X.calm=true)(hit:PI X tg Bn wi)(hg:∀cl s₂ H₂ fp,PG (dg X N2 scope cl s₂ H₂ fp) tg g)(he:∀cl s₂ H₂ fp,PE (dg X N2 scope cl s₂ H₂ fp) elt te)(ht:∀cl s₂ H₂ fp,PT (dg X N2 scope cl s₂ H₂ fp) cond tc)(hk:scope.kind =.function)(hn:pB X.N X.env.scope.names scope.names N2 ix=true)(hw:swapsWith (.ListComp elt [(tg,Bn,[cond],0)] scope pos) (some (.Name x px)) pos'.line X.env=pure true)(hs:∀x,foldedSetIterable Bn X.env x=pure x:=by intro _;rfl):
  PS X (.Assign [.Name x px] (.ListComp elt [(tg,Bn,[cond],0)] scope pos) pos') (LQ (Fv wi ix g tc te) (i9 i)):=by
 intro AC s σ H D I h
 obtain⟨k1,k2,k3,k4,k5⟩:=n_ hn
 obtain⟨cl,Mq,c1,c2⟩:=vO (scope:=scope) (env:=X.env) λy hy e=>I.ok.has y.1 (k3 y hy e)
 rw[exec_Assign_Name_used _ _ _ _ hw]
 refine az (CB (az ?_))
 show wpAny _ X.A (do let _ <-comprehension (.ListComp elt [(tg,Bn,[cond],0)] scope pos) scope X.env _ (newList []) false (eval Bn X.env) (some (assign (.Name x px) X.env))) _ _ s
 refine az (bH (RX (use:=some (assign (.Name x px) X.env)) (Q:=λ_ s'=>SP X AC D .next s') rfl hs Mq hk k4 (bH (hit AC s σ H _ I h) λv s1 h1=>bH h1 λitv s2 h2=>?_)) λ_ s' hq=>bh (bh hq))
 obtain⟨it,fp,tn,J,H2,e,I2,T,st2,f2,h2⟩:=h2
 subst e
 refine DA (RR:=λAp C=>compPost (model X.prog X.w) X.A X.xe (some (assign (.Name x px) X.env)) (λ_ s'=>SP X AC D .next s') Ap C) (Q:=λv H'=>D.nx (σ.set i (some v)) H') hc hg he ht hk hn (λy c m=>(c1 y c m).1) c2 I2 T st2 f2 h2 ?_
 intro Ap C H' s' m I' ns Bt hL hsz rB Aa q
 show wpAny _ X.A (assign (.Name x px) X.env (.ref Ap)) _ _ _
 refine wpAny_assign_Name (Bh I' hN hi (.inl hx) (v:=.ref Ap) rfl (λs3 I3 (a,sb,ha)=>?_) (.inr hx))
 have ca:C≠a:=by
  rcases ha with z|z
  .rw [z];exact hL
  .exact λe=>rB x a z e.symm
 exact(m,ns.sameBut sb ca,λh' hs'=>(_,H',I3.turned (it:=C) (t':=s3.toks) (λb o hb e=>(hs'.2 b hb).trans e) Bt hL (.inr hsz) rB Aa,q))
end
theorem Ab{α:Type}[DecidableEq α] :∀{l m:Da α},l.Nodup->(∀x∈l,x∈m)->l.length<=m.length
 | [],_,_,_=>gE _
 | x::r,m,h,hs=>by
  have hn:=iu.mp h;have hx:=hs x cO;have:=Ab (l:=r) (m:=m.erase x) hn.2 λy hy=>by have hne:y≠x:=λe=>hn.1 (e▸hy);exact(List.mem_erase_of_ne hne).mpr (hs y (cR _ hy))
  rw[List.length_erase_of_mem hx]at this;have hp:0<m.length:=List.length_pos_of_mem hx;rw[ig];omega
def UE(c:Int)(h:i<n):(lM c n)[i]?=some (97+((c / 26 ^ i) % 26).toNat):=by unfold lM;rw[bP,List.getElem?_range h];rfl
theorem QS{c c':Int}{d:Nat}(h:d<n)(e:lM c n=lM c' n):(c / 26 ^ d) % 26=(c' / 26 ^ d) % 26:=by have h1:=UE c h;rw[e,UE c' h]at h1;have h2:=gU h1;have a0:0<=(c / 26 ^ d) % 26:=pL _ (by decide);have b0:0<=(c' / 26 ^ d) % 26:=pL _ (by decide);omega
theorem ZQ{c c':Int}(h:2<=n)(e:lM c n=lM c' n):c % 676=c' % 676:=by have h0:=QS (d:=0) (by omega) e;have h1:=QS (d:=1) (by omega) e;rw[Int.pow_zero,zX,zX]at h0;rw[show(26:Int) ^ 1=26 from rfl]at h1;omega
structure rC(x:Da Nat):Prop where
 lo:1<=x.length
 hi:x.length<=8
 ZR:∀c∈x,97<=c/\c<123
theorem acg(c:Int)(h1:1<=n)(h2:n<=8):rC (lM c n):=by refine(by rw[vP];exact h1,by rw[vP];exact h2,λx hx=>?_);obtain⟨i,_,rfl⟩:=bw.mp hx;have a0:0<=(c / 26 ^ i) % 26:=pL _ (by decide);have a1:(c / 26 ^ i) % 26<26:=zQ _ (by decide);omega
def wJ(qr:Da (Da Nat)):Da V:=qr.map λx=>V.str (tx x)
def W7(qr:Da (Da Nat)):(wJ qr).all vN=true:=by unfold wJ;rw[List.all_map,t_];exact λ_ _=>rfl
def UG{a b:Da Nat}(h:tx a=tx b):a=b:=by
 have:a.toArray=b.toArray:=by injection h
 simpa using this
def ZS(x:Da Nat)(qr:Da (Da Nat)):QL (.str (tx x)) (wJ qr)=decide (x∈qr):=by
 unfold QL wJ;rw[List.any_map,Cz,List.any_eq_true,decide_eq_true_eq];constructor
 .rintro ⟨y,hy,e⟩;have e2:AK (.str (tx y)) (.str (tx x))=true:=e;have e3:tx y=tx x:=by unfold AK at e2;simpa using e2
  rw[<-UG e3];exact hy
 .intro h;refine(x,h,?_);show AK (.str (tx x)) (.str (tx x))=true;unfold AK;simp
inductive SD(K:Fg)(vs:Da V)(H:Hp)(Q:VK)(E:XK):Prop
 |mk(a:Addr)(ms:Da Int)(k:Int)(BM:Nat)(_:vs=[.ref a,.int k,.int (BM:Int)])(_:aC K H a (ms.map V.int))(_:ms.length<=63)(_:0<=k)(_:BM<=100)(_:∀(z:Addr) (qr:Da (Da Nat)) (H':Hp),aM H H'->H' z=some (.lst (wJ qr))->H z=none->qr.length=BM->qr.Nodup->(∀x∈qr,rC x/\2<=x.length)->Q (.ref z) H')
def yH(K:Fg):Sp:=bx (SD K)
def AM{E:XK}{ms:Da Int}{k mi:Int}{BM:Nat}(hmi:mi=(BM:Int))(hS:aC K H a (ms.map V.int))(h63:ms.length<=63)(h1:0<=k)(h2:BM<=100)(h:∀(z:Addr) (qr:Da (Da Nat)) (H':Hp),aM H H'->H' z=some (.lst (wJ qr))->H z=none->qr.length=BM->qr.Nodup->(∀x∈qr,rC x/\2<=x.length)->Q (.ref z) H'):yH K [.ref a,.int k,.int mi] H Q E:=by
 subst hmi
 exact(a,ms,k,BM,Z,hS,h63,h1,h2,h)
variable {qr:Da (Da Nat)}{t:Nat}
theorem W8{c:Int}(h2:2<=n)(ht:t<=676)(h:∀j:Nat,j<t->lM (c+(j:Int)) n∈qr):t<=qr.length:=by
 have hn:((List.range t).map λj=>lM (c+((j:Nat):Int)) n).Nodup:=by have:(List.range t).Pairwise (λa b=>a<b):=List.pairwise_lt_range;refine List.Pairwise.map _ ?_ (List.Pairwise.and_mem.mp this);rintro a b ⟨ha,hb,hab⟩ e;have ha':=zU.mp ha;have hb':=zU.mp hb;have:=ZQ h2 e;omega
 have:=Ab hn λx hx=>by obtain⟨j,hj,rfl⟩:=bw.mp hx;exact h j (zU.mp hj)
 rw[aG,Hl]at this;exact this
def ZT(x:Str):PyData.eqv (.str x) (.str x)=true:=by unfold PyData.eqv;exact zS x
open PySem.NumText
section
variable {X:Cx}
end
def SE(lo st:Int)(n:Nat):It:=(λi _=>i<n,λi H x H'=>H'=H/\x =.int (lo+i*st),λi _=>n<=i)
variable {P:Program}{w:World}
theorem O4(it:Addr)(lo st:Int)(n:Nat):Turn P w K tg (SE lo st n) [it] it (λi h=>IsRangeIter h it (lo+(i:Nat)*st) ((n:Int)-(i:Nat)) st) where
 mem:=by simp
 obj:=λi h st b hb=>by
  have e:b=it:=by simpa using hb
  subst e;exact(_,st,λv z=>by have z':Data.fields _=Data.cell v:=z;cases z')
 keep:=λi h h' st k=>k it (by simp) _ st
 item:=by intro X hP hw hK hc i AC s σ H E I hf st' hg;subst hP hw hK;obtain⟨f0,f1,f2,f3,f4,f5⟩:=hf it (by simp);have W:=Walks.range (prog:=X.prog) (w:=X.w) (I.ok.hd hc) it lo st n;refine W.item i s _ _ hg st' λv h' tk hv st2 kk=>?_;obtain⟨t,rfl⟩:=hv;have I1:Inv X AC σ H { s with heap:=h',toks:=tk }:=I.turned (λb o hb e=>kk b o (by simpa using hb) e) f0 f1 f3 f4 f5;exact(_,Z,CI (s:={ s with heap:=h',toks:=tk }) (n:="range_iterator") st2 rfl rfl (by decide) (.int (lo+i*st),H,I1,(t,Z),(Z,Z),st2,λb hb=>(hf b hb).1))
 done:=by intro X hP hw hK hc i AC s σ H E I hf st' hg;subst hP hw hK;obtain⟨f0,f1,f2,f3,f4,f5⟩:=hf it (by simp);exact wpAny_pyNext_range_end (I.ok.hd hc) st' (by have:n<=i:=hg;omega) λh' eb=>(Z,I.turned (t':=s.toks) (λb o hb e=>eb b o hb e) f0 f1 f3 f4 f5)
 self:=λ_ _ _ _ _ st h=>wpAny_pyIter_rangeiter st h
section
variable {X:Cx}{tg:Expr}
def s_(lo hi st:Int):Nat:=(Builtin.Range.rangeSize lo hi st).toNat
inductive ach(R:It->Hp->Prop)(vs:Da V)(H1:Hp):Prop
 |mk(i j k:Int)(_:vs=[.int i,.int j,.int k])(_:(0<=i/\i<=1000000/\0<=j/\j<=1000000/\0<k/\k<=1000000))(_:R (SE i k (s_ i j k)) H1)
def ae6(ta:TA):TI:=λσ H R=>ta σ H (ach R)
theorem O5{a b c:Int}(h1:0<=a)(h2:a<=1000000)(h3:0<=b)(h4:b<=1000000)(h5:0<c)(h6:c<=1000000):Builtin.Range.small a b c=true/\0<=Builtin.Range.rangeSize a b c:=by
 have hr:0<=Builtin.Range.rangeSize a b c/\Builtin.Range.rangeSize a b c<=1000001:=by
  unfold Builtin.Range.rangeSize;rw[ay (by omega)];split
  .have e0:0<=(b-a-1) / c:=Lf (by omega) (by omega);have e1:(b-a-1) / c<=b-a-1:=EN _ (by omega);omega
  .omega
 refine(?_,hr.1);unfold Builtin.Range.small;simp only[Builtin.Range.rangeFitsLong,Bool.and_eq_true,Bool.or_eq_true,decide_eq_true_eq,vM,show c>0 from h5,qW];omega
end
def ZU(signs:Str)(c:Nat):Fo signs c=decide (c∈signs.cps.toList):=PySem.StrLaws.found_one signs c
open Builtin Builtin.Str
section
variable {X:Cx}
end
def yY{a:Da (Key×V)}{b:Da (Key×Value)}(r:KV a b):∀{j:Nat}{p:Key×V},a[j]?=some p->∃q,b[j]?=some q/\p.1=q.1/\RelV p.2 q.2:=by
 induction r with
 | nil=>intro j p z;simp at z
 | cons r1 _ ih=>
  intro j p z;cases j with
  | zero=>simp at z;subst z;exact(_,Z,r1)
  | succ j=>simp at z;obtain⟨q,a1,a2⟩:=ih z;exact(q,by simpa using a1,a2)
abbrev qI(H:Hp)(d:Addr)(o:Obj)(AT:Da (Key×V)):Prop:=H d=some (.fX o (.dK AT))
section
variable {X:Cx}{AC:AO}{σ σ':St}{H H':Hp}{s s':Shared}{d:Addr}{AT:Da (Key×V)}{o:Obj}
def Inv.freeze(I:Inv X AC σ H s)(e:H d=some (.dK AT))(ho:s.heap.get? d=some o):Inv X AC σ (upd H d (.fX o (.dK AT))) s:=by
 have nd:∀{b:Addr},H b=none->b≠d:=λh z=>by rw[z,e]at h;cases h
 have dn:∀{b:Addr},H b=none->upd H d (.fX o (.dK AT)) b=none:=λh=>aA (nd h)▸h;have un:∀{b:Addr}{u:HO},H b=some u->(∀k,u ≠ .dK k)->b≠d:=λh k z=>by rw[z,e]at h;cases h;exact k _ rfl
 refine(I.ok,I.os,I.bare,(I.base.keep,I.base.slot,λb ob q n x=>dn (I.base.free b ob q n x),I.base.there,λb xs q=>?_,λb ob u q=>?_,λb ps q=>?_),I.loc,I.cell,dn I.free,λx c q=>dn (I.pR x c q),λp hp=>?_,λb ob q=>?_,I.len)
 .have:=I.base.tups b xs q;rw[aA (un this λk z=>by cases z)];exact this
 .have:=I.base.uU b ob u q;rw[aA (un this λk z=>by cases z)];exact this
 .obtain ⟨more,this⟩:=I.base.yD b ps q;exact(more,(aA (un this λk z=>by cases z))▸this)
 .obtain ⟨h1,h2,h3⟩:=I.pin p hp;exact(h1,dn h2,h3)
 .by_cases hb:b=d
  .subst hb;rw[aq]at q;cases q;have:=I.hok b _ e;exact(ho,this)
  .rw [aA hb]at q;refine(I.hok b ob q).stay (λc u _ z=>z) (λc z=>?_) λc xs z=>?_
   .rw [aA (un z λk z=>by cases z)];exact z
   .rw [aA (un z λk z=>by cases z)];exact z
def Inv.D0(I:Inv X AC σ H s)(e:qI H d o AT)(h0:∀o u,X.H₀ d≠some (.fX o u)):Inv X AC σ (upd H d (.dK AT)) s:=by
 have nd:∀{b:Addr},H b=none->b≠d:=λh z=>by rw[z]at h;exact absurd (h.symm.trans e) (by simp)
 have dn:∀{b:Addr},H b=none->upd H d (.dK AT) b=none:=λh=>aA (nd h)▸h;have un:∀{b:Addr}{u:HO},H b=some u->(∀o k,u ≠ .fX o k)->b≠d:=λh k z=>by rw[z]at h;have:=h.symm.trans e;cases this;exact k _ _ rfl
 refine(I.ok,I.os,I.bare,(I.base.keep,I.base.slot,λb ob q n x=>dn (I.base.free b ob q n x),I.base.there,λb xs q=>?_,λb ob u q=>?_,λb ps q=>?_),I.loc,I.cell,dn I.free,λx c q=>dn (I.pR x c q),λp hp=>?_,λb ob q=>?_,I.len)
 .have:=I.base.tups b xs q;rw[aA (un this λ_ k z=>by cases z)];exact this
 .have:=I.base.uU b ob u q;rw[aA (λ(z:b=d)=>h0 ob u (z▸q))];exact this
 .obtain ⟨more,this⟩:=I.base.yD b ps q;exact(more,(aA (un this λ_ k z=>by cases z))▸this)
 .obtain ⟨h1,h2,h3⟩:=I.pin p hp;exact(h1,dn h2,h3)
 .by_cases hb:b=d
  .subst hb;rw[aq]at q;cases q;exact(I.hok b _ e).2
  .rw [aA hb]at q;refine(I.hok b ob q).stay (λc u _ z=>z) (λc z=>?_) λc xs z=>?_
   .rw [aA (un z λ_ k z=>by cases z)];exact z
   .rw [aA (un z λ_ k z=>by cases z)];exact z
def Inv.UH(I:Inv X AC σ H s)(e:H d=some (.dK AT)):∀o u,X.H₀ d≠some (.fX o u):=λo u z=>by have:=I.base.uU d o u z;rw[e]at this;cases this
def Inv.ug(I:Inv X AC σ H s)(e:qI H d o AT):s.heap.get? d=some o/\AT.length<=sizeLine/\(d==sysModules)=false/\∃vs ep,KV AT vs/\s.heap.DictAt (dh X.prog X.w) d vs ep:=by
 obtain⟨ho,hz,hs,vs,r,dd⟩:=(show e_ X.prog X.w H s.heap d (.fX o (.dK AT))from I.hok d _ e)
 obtain⟨ep,da⟩:=dd.dictAt;exact(ho,hz,hs,vs,ep,r,da)
end
def Ends.D0(D:Ends)(d:Addr)(o:Obj)(AT:Da (Key×V)):Ends where
 nx:=λσ H=>qI H d o AT/\D.nx σ (upd H d (.dK AT))
 rt:=λv H=>qI H d o AT/\D.rt v (upd H d (.dK AT))
 bk:=λσ H=>qI H d o AT/\D.bk σ (upd H d (.dK AT))
 ct:=λσ H=>qI H d o AT/\D.ct σ (upd H d (.dK AT))
inductive aip(t:TS)(D:Ends)(σ:St)(H:Hp):Prop
 |mk(d AT:_)(_:H d=some (.dK AT))(_:∀o,t (D.D0 d o AT) σ (upd H d (.fX o (.dK AT))))
def aiq(t:TE):TE:=λσ H Q=>∃d AT,H d=some (.dK AT)/\∀o,t σ (upd H d (.fX o (.dK AT))) λv H'=>qI H' d o AT/\Q v (upd H' d (.dK AT))
def Itv(d:Addr)(o:Obj)(AT:Da (Key×V)):It:=(λi H=>qI H d o AT/\i<AT.length,λi H x H'=>H'=H/\∃p,AT[i]?=some p/\x=p.2,λi H=>qI H d o AT/\AT.length<=i)
def Iti(d:Addr)(o:Obj)(AT:Da (Key×V)):It:=(λi H=>qI H d o AT/\i<AT.length,λi H x H'=>∃a p,H a=none/\AT[i]?=some p/\x =.ref a/\H'=upd H a (.tup [kV p.1,p.2]),λi H=>qI H d o AT/\AT.length<=i)
variable {h:Heap}{d:Addr}{es:Array DictEntry}
def CS{vs:Da (Key×Value)}{e1 e2:Nat}{o:Obj}(da:h.DictAt (dh P w) d vs e1)(ho:h.get? d=some o)(hd:o.data =.dict es e2):e1=e2:=by obtain⟨o',es',h1,_,h2,_⟩:=da;rw[ho]at h1;cases h1;rw[hd]at h2;cases h2;rfl
def Mr{k:Key}{v:Value}(h:(dh P w).is k v=true):RelV (kV k) v:=by
 rw[Se]at h;rcases iy h with⟨i,t,rfl,rfl⟩|⟨x,t,rfl,rfl⟩
 .exact (t,Z)
 .exact (t,Z)
variable {it:Addr}{AT:Da (Key×V)}{ep:Nat}
theorem UI{o:Obj}(hd:o.data =.dict es ep):Turn P w K tg (Itv d o AT) [it] it (λi h=>h.IsValIter it d i AT.length ep) where
 mem:=by simp
 obj:=λi h st b hb=>by
  have e:b=it:=by simpa using hb
  subst e;obtain⟨o,e,c,d⟩:=st;exact(o,e,λv z=>by rw[d]at z;cases z)
 keep:=λi h h' st k=>st.at λo e=>k it (by simp) o e
 item:=by intro X hP hw hK hc i AC s σ H E I hf st hg;subst hP hw hK;obtain⟨hz,va⟩:=hg;obtain⟨ho,_,_,vs,vH,r,da⟩:=I.ug hz;cases CS da ho hd;have hl:AT.length=vs.length:=r.length;obtain⟨q,hq,_,rq⟩:=yY r (a_ va);obtain⟨qk,qv⟩:=q;rw[hl]at st;obtain⟨f0,f1,f2,f3,f4,f5⟩:=hf it (by simp);refine wpAny_pyNext_values_item st da hq λh' st' sb=>?_;have I1:Inv X AC σ H { s with heap:=h' }:=I.turned (t':=s.toks) (λb o hb e=>(sb.2 b hb).trans e) f0 f1 f3 f4 f5;obtain⟨oi,e,c,dd⟩:=id st';exact(_,Z,CI (s:={ s with heap:=h' }) e c dd (by decide) (AT[i].2,H,I1,rq,(Z,AT[i],a_ va,Z),hl▸st',λb hb=>(hf b hb).1))
 done:=by intro X hP hw hK hc i AC s σ H E I hf st hg;subst hP hw hK;obtain⟨hz,hle⟩:=hg;obtain⟨ho,_,_,vs,vH,r,da⟩:=I.ug hz;cases CS da ho hd;have hl:AT.length=vs.length:=r.length;rw[hl]at st;obtain⟨f0,f1,f2,f3,f4,f5⟩:=hf it (by simp);exact wpAny_pyNext_values_end (I.ok.hd hc) st da (by rw[sW];omega) λh' eb=>(Z,I.turned (t':=s.toks) (λb o hb e=>eb b o hb e) f0 f1 f3 f4 f5)
 self:=λ_ _ _ _ _ st h=>wpAny_pyIter_valiter st h
variable {DD:Da Expr}
theorem SG{kk:Nat}{o:Obj}(hd:o.data =.dict es ep):Turn P w K (.Tuple DD kk pos) (Iti d o AT) [it] it (λi h=>∃ok ov,IsItemIter h it d i AT.length ep ok ov) where
 mem:=by simp
 obj:=λi h st b hb=>by
  have e:b=it:=by simpa using hb
  subst e;obtain⟨ok,ov,e⟩:=st;exact(_,e,λv z=>by cases z)
 keep:=λi h h' (ok,ov,st) k=>(ok,ov,k it (by simp) _ st)
 item:=by
  intro X hP hw hK hc i AC s σ H E I hf st hg;subst hP hw hK;obtain⟨hz,va⟩:=hg;obtain⟨ok,ov,st⟩:=st;obtain⟨ho,_,_,vs,vH,r,da⟩:=I.ug hz;cases CS da ho hd;have hl:AT.length=vs.length:=r.length;obtain⟨q,hq,ek,rq⟩:=yY r (a_ va);obtain⟨qk,qv⟩:=q;rw[hl]at st;obtain⟨f0,f1,f2,f3,f4,f5⟩:=hf it (by simp);refine wpAny_pyNext_items_item st da hq λkey h1 hk st1 ht hsz hkeep=>?_;refine(_,Z,wpAny_letOwnedTupleGo_items (s:={ s with heap:=h1 }) st1 λh2 st2 sb=>?_);have rk:RelV (kV AT[i].1) key:=ek▸Mr hk;have hil:it≠s.heap.objs.size:=fq (cA st);have yf:∀b o,b≠it->s.heap.get? b=some o->h2.get? b=some o:=λb o hb e=>sb.extBut b o hb (hkeep b o hb e);have I1:Inv X AC σ (upd H s.heap.objs.size (.tup [kV AT[i].1,AT[i].2])) { s with heap:=h2 }:=by
   have J:Inv X AC σ H { s with heap:=h2 }:=I.turned (t':=s.toks) yf f0 f1 f3 f4 f5;have hn:=I.fresh;have J2:Inv X AC σ (upd H s.heap.objs.size (.tup [kV AT[i].1,AT[i].2])) { s with heap:=h2,gens:=s.gens,drawn:=s.drawn,toks:=s.toks }:=by
    refine I.step (ch:=[it]) (λb hb=>((hf b hb).2.2.2.1,(hf b hb).2.1,(hf b hb).2.2.2.2.1,(hf b hb).2.2.2.2.2)) (λb o _ _ hc' e _=>yf b o (by simpa using hc') e) (λb o _ _ hc' e _=>(o.slots,yf b o (by simpa using hc') e)) (λb o _ e n=>aA (fq (cA e))▸n) (λb o hc' e=>(o,yf b o (by simpa using hc') e))
     (λb zs q=>aA (aJ q hn)▸q) (λb o zs q=>aA (aJ q hn)▸q) (λb ps q=>(#[],by rw[aA (aJ q hn),q];simp)) (λm hm=>?_) (λb ob e=>?_) I.bare
    .obtain ⟨o,es,ep,ho,r⟩:=hm;exact(o,es,ep,yf _ o (λq=>f1 q.symm) ho,r)
    .by_cases hb:b=s.heap.objs.size
     .subst hb;rw[aq]at e;cases e;exact(by show 2<=sizeLine;decide,[key,qv],.cons rk (.cons rq .nil),_,sb.extBut _ _ hil.symm ht,Z,0,Z)
     .rw [aA hb]at e;refine(I.hok b ob e).stay (λc v UJ q=>?_) (λc q=>aA (aJ q hn)▸q) λc zs q=>aA (aJ q hn)▸q;refine yf c v (λz=>?_) q;rcases UJ with r|r
      .rw [r]at z;rw[z,f0]at e;cases e
      .rw [z,f0]at r;cases r
   exact J2
  refine(.ref s.heap.objs.size,_,I1,Z,(_,AT[i],I.fresh,a_ va,Z,Z),(key,qv,hl▸st2),λb hb=>?_);have eb:b=it:=by simpa using hb
  subst eb;rw[aA hil];exact f0
 done:=by intro X hP hw hK hc i AC s σ H E I hf st hg;subst hP hw hK;obtain⟨hz,hle⟩:=hg;obtain⟨ok,ov,st⟩:=st;obtain⟨ho,_,_,vs,vH,r,da⟩:=I.ug hz;cases CS da ho hd;have hl:AT.length=vs.length:=r.length;rw[hl]at st;obtain⟨f0,f1,f2,f3,f4,f5⟩:=hf it (by simp);exact wpAny_pyNext_items_end (I.ok.hd hc) st da (by rw[sW];omega) λh' eb=>(Z,I.turned (t':=s.toks) (λb o hb e=>eb b o hb e) f0 f1 f3 f4 f5)
 self:=λA i s Q E (ok,ov,st) h=>PySem.W.kcp_self st h
section
variable {X:Cx}{tg:Expr}
inductive aci(R:It->Hp->Prop)(x:V)(H1:Hp):Prop
 |mk(d o AT:_)(_:x =.ref d)(_:qI H1 d o AT)(_:R (Itv d o AT:_) H1)
def ae7(td:TE):TI:=λσ H R=>td σ H (aci R)
inductive ZV(R:It->Hp->Prop)(x:V)(H1:Hp):Prop
 |mk(d o AT:_)(_:x =.ref d)(_:qI H1 d o AT)(_:R (Iti d o AT:_) H1)
def acj(td:TE):TI:=λσ H R=>td σ H (ZV R)
end
variable {J:It}{tb:TS}{D:Ends}
theorem wK{g:TG}(Pv:Nat->St->Hp->Prop)(h0:Pv 0 σ H)(hgo:∀i σ H,i<n->Pv i σ H->J.go i H)(hst:∀σ H,Pv n σ H->J.stop n H)(hs:∀i x σ H H',i<n->Pv i σ H->J.EY i H x H'->g x σ H' (tb (D.lp (Pv (i+1)))))(hd:∀σ H,Pv n σ H->D.nx σ H):
  Ll g tb D σ (J) H:=by
 refine(λi m σ H=>m=n-i/\i<=n/\Pv i σ H,(n,by simp,gE _,h0),?_)
 rintro i m σ H ⟨rfl,hi,p⟩
 by_cases va:i<n
 . exact .inr (hgo i σ H va p,Pv (i+1),λσ' H' p'=>(n-(i+1),by omega,Z,va,p'),λx H' y=>hs i x σ H H' va p y)
 . have e:i=n:=by omega
   subst e
   exact .inl (hst σ H p,hd σ H p)
section
variable {prog:Program}{w:World}{K:Type}[DecidableEq K]{knd:KeyKind prog w K}{A:Around}{E:VS}{s:Shared}
theorem O6{AT:Da (K×Value)}{k:K}{v:Value}{Q:VS}(hit:s.heap.IsKeyIter it d i AT.length ep)(hm:s.heap.DictAt knd d AT ep)(hx:AT[i]?=some (k,v))(hQ:∀key h',knd.is k key=true->h'.IsKeyIter it d (i+1) AT.length ep->Heap.SameBut it s.heap h'->Q key { s with heap:=h' }):
  wpAny (model prog w) A (Builtin.SmallTypes.nextOf (.ref it)) Q E s:=by
 obtain⟨o,ho,hc,hd⟩:=id hit;obtain⟨od,es,hod,hcd,By,hk,hp,hn⟩:=id hm
 unfold Builtin.SmallTypes.nextOf
 refine az (Be (name:=Str.ofString "__next__") hit.typeIs Yg (xZ Yg hit.typeIs F.entry_dict_keyiterator_next ?_ (F.args_dict_keyiterator_next_1 _)))
 refine az (bh ?_);refine az (az ?_)
 first|(refine az (Yd hit.typeIs (bh ?_));refine az (x8 ho hd ?_))|(refine az (RY hit.typeIs (bh ?_));refine az (x8 ho hd ?_))
 have own:Builtin.Dict_items.ownsTuple "dict_keyiterator"=false:=by decide
 simp only[own,Hh,nV]
 show wpAny _ _ (if(Value.ref d==Value.none)=true then _ else _) _ _ _
 rw[av (λz=>gZ z:¬ ((Value.ref d==Value.none)=true))];refine az (bh ?_)
 have sz:es.size=AT.length:=by have:=hp.length;simpa using this
 refine az (Sd hod By ?_);rw[av (by rw[sz];simp)]
 refine az (bh ?_);refine az (Li hod By ?_)
 rw[av (by simp)];refine bh ?_
 have lt:i<AT.length:=(c_.mp hx).1
 have lt':i<es.size:=by omega
 have kv:=hp.get? (e:=es[i]) (by simp[lt']) hx
 simp only[show ¬ ((i:Int)<0)from by omega,nV,qS,Array.getElem?_eq_getElem lt'];refine az ?_
 first|(refine az (Yd hit.typeIs (bh ?_));refine az (wpAny_isOneOf_keyiter hit.typeIs ?_))|(refine az (RY hit.typeIs (bh ?_));refine az (wpAny_isOneOf_keyiter hit.typeIs ?_))
 show wpAny _ _ (setField (.ref it) 1 (rawInt ((i:Int)+1)) >>= _) _ _ _
 refine az (CA ho hd (by simp) ?_)
 have Hy:(s.heap.update it (Obj.mapFields (·.setIfInBounds 1 (rawInt ((i:Int)+1))))).IsKeyIter it d (i+1) AT.length ep:=(_,DP _ ho (Obj.isFreed_of_fields (Hi hd _)),(Obj.cls_mapFields ..).trans hc,by rw[Hi hd];simp[rawInt])
 refine az (CC (az (wpAny_isOneOf_keyiter (s:={ s with heap:=s.heap.update it (Obj.mapFields (·.setIfInBounds 1 (rawInt ((i:Int)+1)))) }) Hy.typeIs ?_)))
 exact bh (bh (_,Z,bh (hQ _ _ kv.1 Hy (Hf ..))))
theorem SH{AT:Da (K×Value)}{Q:VS}(hh:A.handled=none)(hit:s.heap.IsKeyIter it d i AT.length ep)(hm:s.heap.DictAt knd d AT ep)(hx:AT[i]?=none)(hE:∀h' e,Heap.ExtBut it s.heap h'->(∃o,h'.get? e=some o/\o.cls =.type "StopIteration")->E (.ref e) { s with heap:=h' }):
  wpAny (model prog w) A (Builtin.SmallTypes.nextOf (.ref it)) Q E s:=by
 obtain⟨o,ho,hc,hd⟩:=id hit;obtain⟨od,es,hod,hcd,By,hk,hp,hn⟩:=id hm
 unfold Builtin.SmallTypes.nextOf
 refine az (Be (name:=Str.ofString "__next__") hit.typeIs Yg (xZ Yg hit.typeIs F.entry_dict_keyiterator_next ?_ (F.args_dict_keyiterator_next_1 _)))
 refine az (bh ?_);refine az (az ?_)
 first|(refine az (Yd hit.typeIs (bh ?_));refine az (x8 ho hd ?_))|(refine az (RY hit.typeIs (bh ?_));refine az (x8 ho hd ?_))
 have own:Builtin.Dict_items.ownsTuple "dict_keyiterator"=false:=by decide
 simp only[own,Hh,nV]
 show wpAny _ _ (if(Value.ref d==Value.none)=true then _ else _) _ _ _
 rw[av (λz=>gZ z:¬ ((Value.ref d==Value.none)=true))];refine az (bh ?_)
 have sz:es.size=AT.length:=by have:=hp.length;simpa using this
 refine az (Sd hod By ?_);rw[av (by rw[sz];simp)]
 refine az (bh ?_);refine az (Li hod By ?_)
 rw[av (by simp)];refine bh ?_
 have ge:es.size<=i:=by rw[sz];simpa using hx
 simp only[show ¬ ((i:Int)<0)from by omega,nV,qS,Array.getElem?_eq_none ge];refine az ?_
 first|(refine az (Yd hit.typeIs (bh ?_));show wpAny _ _ (setField (.ref it) 0 .none >>= _) _ _ _)|(refine az (RY hit.typeIs (bh ?_));show wpAny _ _ (setField (.ref it) 0 .none >>= _) _ _ _)
 refine az (CA ho hd (by simp) ?_);show wpAny _ _ (newExc (.type "StopIteration") [] >>= _) _ _ _
 refine az ?_;simp only[newExc,newTuple]
 refine az (zR ?_ (by size_fits));refine az (m:=firstArgMember _ _) (wpAny_of_eq (a:=Value.none) (by first|rfl|(simp only[firstArgMember];rfl)) ?_)
 refine zR ?_ (by size_fits);simp only[raiseNew]
 refine az (wpAny_handled ?_);rw[show A.in1.handled=none from hh]
 exact az (bh (wpAny_throw (hE _ _ (((Hf ..).extBut.push _).push _) (_,ff _ rfl,Z))))
theorem O7{AT:Da (K×Value)}{k:K}{v:Value}{Q:VS}(hit:s.heap.IsValIter it d i AT.length ep)(hm:s.heap.DictAt knd d AT ep)(hx:AT[i]?=some (k,v))(hQ:∀h',h'.IsValIter it d (i+1) AT.length ep->Heap.SameBut it s.heap h'->Q v { s with heap:=h' }):
  wpAny (model prog w) A (Builtin.SmallTypes.nextOf (.ref it)) Q E s:=by
 obtain⟨o,ho,hc,hd⟩:=id hit;obtain⟨od,es,hod,hcd,By,hk,hp,hn⟩:=id hm
 unfold Builtin.SmallTypes.nextOf
 refine az (Be (name:=Str.ofString "__next__") hit.typeIs Yc (xZ Yc hit.typeIs F.entry_dict_valueiterator_next ?_ (F.args_dict_valueiterator_next_1 _)))
 refine az (bh ?_);refine az (az ?_)
 first|(refine az (Ye hit.typeIs (bh ?_));refine az (x8 ho hd ?_))|(refine az (RZ hit.typeIs (bh ?_));refine az (x8 ho hd ?_))
 have own:Builtin.Dict_items.ownsTuple "dict_valueiterator"=false:=by decide
 simp only[own,Hh,nV]
 show wpAny _ _ (if(Value.ref d==Value.none)=true then _ else _) _ _ _
 rw[av (λz=>gZ z:¬ ((Value.ref d==Value.none)=true))];refine az (bh ?_)
 have sz:es.size=AT.length:=by have:=hp.length;simpa using this
 refine az (Sd hod By ?_);rw[av (by rw[sz];simp)]
 refine az (bh ?_);refine az (Li hod By ?_)
 rw[av (by simp)];refine bh ?_
 have lt:i<AT.length:=(c_.mp hx).1
 have lt':i<es.size:=by omega
 have kv:=hp.get? (e:=es[i]) (by simp[lt']) hx
 simp only[show ¬ ((i:Int)<0)from by omega,nV,qS,Array.getElem?_eq_getElem lt'];refine az ?_
 first|(refine az (Ye hit.typeIs (bh ?_));refine az (R3 hit.typeIs ?_))|(refine az (RZ hit.typeIs (bh ?_));refine az (R3 hit.typeIs ?_))
 show wpAny _ _ (setField (.ref it) 1 (rawInt ((i:Int)+1)) >>= _) _ _ _
 refine az (CA ho hd (by simp) ?_)
 have Hy:(s.heap.update it (Obj.mapFields (·.setIfInBounds 1 (rawInt ((i:Int)+1))))).IsValIter it d (i+1) AT.length ep:=(_,DP _ ho (Obj.isFreed_of_fields (Hi hd _)),(Obj.cls_mapFields ..).trans hc,by rw[Hi hd];simp[rawInt])
 refine az (CC (az (R3 (s:={ s with heap:=s.heap.update it (Obj.mapFields (·.setIfInBounds 1 (rawInt ((i:Int)+1)))) }) Hy.typeIs ?_)))
 refine az (R3 (s:={ s with heap:=s.heap.update it (Obj.mapFields (·.setIfInBounds 1 (rawInt ((i:Int)+1)))) }) Hy.typeIs ?_)
 exact bh (bh (_,Z,bh (kv.2▸hQ _ Hy (Hf ..))))
theorem SI{AT:Da (K×Value)}{Q:VS}(hh:A.handled=none)(hit:s.heap.IsValIter it d i AT.length ep)(hm:s.heap.DictAt knd d AT ep)(hx:AT[i]?=none)(hE:∀h' e,Heap.ExtBut it s.heap h'->(∃o,h'.get? e=some o/\o.cls =.type "StopIteration")->E (.ref e) { s with heap:=h' }):
  wpAny (model prog w) A (Builtin.SmallTypes.nextOf (.ref it)) Q E s:=by
 obtain⟨o,ho,hc,hd⟩:=id hit;obtain⟨od,es,hod,hcd,By,hk,hp,hn⟩:=id hm
 unfold Builtin.SmallTypes.nextOf
 refine az (Be (name:=Str.ofString "__next__") hit.typeIs Yc (xZ Yc hit.typeIs F.entry_dict_valueiterator_next ?_ (F.args_dict_valueiterator_next_1 _)))
 refine az (bh ?_);refine az (az ?_)
 first|(refine az (Ye hit.typeIs (bh ?_));refine az (x8 ho hd ?_))|(refine az (RZ hit.typeIs (bh ?_));refine az (x8 ho hd ?_))
 have own:Builtin.Dict_items.ownsTuple "dict_valueiterator"=false:=by decide
 simp only[own,Hh,nV]
 show wpAny _ _ (if(Value.ref d==Value.none)=true then _ else _) _ _ _
 rw[av (λz=>gZ z:¬ ((Value.ref d==Value.none)=true))];refine az (bh ?_)
 have sz:es.size=AT.length:=by have:=hp.length;simpa using this
 refine az (Sd hod By ?_);rw[av (by rw[sz];simp)]
 refine az (bh ?_);refine az (Li hod By ?_)
 rw[av (by simp)];refine bh ?_
 have ge:es.size<=i:=by rw[sz];simpa using hx
 simp only[show ¬ ((i:Int)<0)from by omega,nV,qS,Array.getElem?_eq_none ge];refine az ?_
 first|(refine az (Ye hit.typeIs (bh ?_));show wpAny _ _ (setField (.ref it) 0 .none >>= _) _ _ _)|(refine az (RZ hit.typeIs (bh ?_));show wpAny _ _ (setField (.ref it) 0 .none >>= _) _ _ _)
 refine az (CA ho hd (by simp) ?_);show wpAny _ _ (newExc (.type "StopIteration") [] >>= _) _ _ _
 refine az ?_;simp only[newExc,newTuple]
 refine az (zR ?_ (by size_fits));refine az (m:=firstArgMember _ _) (wpAny_of_eq (a:=Value.none) (by first|rfl|(simp only[firstArgMember];rfl)) ?_)
 refine zR ?_ (by size_fits);simp only[raiseNew]
 refine az (wpAny_handled ?_);rw[show A.in1.handled=none from hh]
 exact az (bh (wpAny_throw (hE _ _ (((Hf ..).extBut.push _).push _) (_,ff _ rfl,Z))))
end
structure BB(P:Program)(w:World)(K:Fg)(S:Hp->Prop)(xs:Da V)(it l:Addr)(tn:Nat->Heap->Prop)(src:Heap->Prop):Prop where
 obj:∀i h,tn i h->∃o,h.get? it=some o/\∀v,o.data ≠ .cell v
 keep:∀i h h',tn i h->(∀o,h.get? it=some o->h'.get? it=some o)->tn i h'
 yg:∀h h',src h->(∀o,h.get? l=some o->h'.get? l=some o)->src h'
 Ja:∀(X:Cx),X.prog=P->X.w=w->X.K=K->∀(AC:AO)(σ:St)(H:Hp)(s:Shared),Inv X AC σ H s->S H->src s.heap
 item:∀(A:Around)(i:Nat)(x:V)(s:Shared)(Q:VS)(E:VS),tn i s.heap->src s.heap->xs[i]?=some x->(∀u h',RelV x u->tn (i+1) h'->Heap.SameBut it s.heap h'->Q u { s with heap:=h' })->wpAny (model P w) A (Builtin.SmallTypes.nextOf (.ref it)) Q E s
 done:∀(A:Around)(i:Nat)(s:Shared)(Q:VS)(E:VS),A.handled=none->tn i s.heap->src s.heap->xs.length<=i->(∀h' e,Heap.ExtBut it s.heap h'->(∃o,h'.get? e=some o/\o.cls =.type "StopIteration")->E (.ref e) { s with heap:=h' })->wpAny (model P w) A (Builtin.SmallTypes.nextOf (.ref it)) Q E s
theorem W9{l:Addr}:BB P w K (λH=>aC K H l xs) xs it l (λi h=>h.IsListIter it l i) (λh=>∃BT:Da Value,Vals xs BT/\h.IsList l BT.toArray) where
 obj:=λi h (o,e,c,d)=>(o,e,λv z=>by rw[d]at z;cases z)
 keep:=λi h h' st k=>st.at k
 yg:=λh h' (BT,r,hl) k=>(BT,r,hl.at k)
 Ja:=λX hP hw hK AC σ H s I h=>by subst hP hw hK;obtain⟨BT,rv,p,_⟩:=I.list h;exact(BT,rv,p.isList)
 item:=λA i x s Q E st (BT,r,hl) hx hQ=>by obtain⟨u,hu,ru⟩:=r.get hx;exact wpAny_nextOf_list_item st hl (by simpa using hu) λh' st' sb=>hQ u h' ru st' sb
 done:=λA i s Q E hh st (BT,r,hl) hx hE=>wpAny_nextOf_list_end hh st hl (by have:=r.length;simp;omega) hE
theorem W_{o:Obj}(hd:o.data =.dict es ep):BB P w K (λH=>qI H d o AT) (AT.map λp=>kV p.1) it d (λi h=>h.IsKeyIter it d i AT.length ep) (λh=>∃vs,KV AT vs/\h.DictAt (dh P w) d vs ep) where
 obj:=λi h (o,e,c,d)=>(o,e,λv z=>by rw[d]at z;cases z)
 keep:=λi h h' st k=>st.at k
 yg:=λh h' (vs,r,hl) k=>(vs,r,hl.at' k)
 Ja:=λX hP hw hK AC σ H s I h=>by subst hP hw hK;obtain⟨ho,_,_,vs,vH,r,da⟩:=I.ug h;cases CS da ho hd;exact(vs,r,da)
 item:=λA i x s Q E st (vs,r,da) hx hQ=>by rw[bP]at hx;obtain⟨p,hp,rfl⟩:=nt.mp hx;obtain⟨q,hq,ek,rq⟩:=yY r hp;obtain⟨qk,qv⟩:=q;have hl:AT.length=vs.length:=r.length;rw[hl]at st;exact O6 st da hq λkey h' hk st' sb=>hQ key h' (ek▸Mr hk) (hl▸st') sb
 done:=λA i s Q E hh st (vs,r,da) hx hE=>by have hl:AT.length=vs.length:=r.length;rw[aG]at hx;rw[hl]at st;exact SH hh st da (by rw[sW];omega) hE
theorem Xa{o:Obj}(hd:o.data =.dict es ep):BB P w K (λH=>qI H d o AT) (AT.map λp=>p.2) it d (λi h=>h.IsValIter it d i AT.length ep) (λh=>∃vs,KV AT vs/\h.DictAt (dh P w) d vs ep) where
 obj:=λi h (o,e,c,d)=>(o,e,λv z=>by rw[d]at z;cases z)
 keep:=λi h h' st k=>st.at k
 yg:=λh h' (vs,r,hl) k=>(vs,r,hl.at' k)
 Ja:=λX hP hw hK AC σ H s I h=>by subst hP hw hK;obtain⟨ho,_,_,vs,vH,r,da⟩:=I.ug h;cases CS da ho hd;exact(vs,r,da)
 item:=λA i x s Q E st (vs,r,da) hx hQ=>by rw[bP]at hx;obtain⟨p,hp,rfl⟩:=nt.mp hx;obtain⟨q,hq,ek,rq⟩:=yY r hp;obtain⟨qk,qv⟩:=q;have hl:AT.length=vs.length:=r.length;rw[hl]at st;exact O7 st da hq λh' st' sb=>hQ qv h' rq (hl▸st') sb
 done:=λA i s Q E hh st (vs,r,da) hx hE=>by have hl:AT.length=vs.length:=r.length;rw[aG]at hx;rw[hl]at st;exact SI hh st da (by rw[sW];omega) hE
variable {y:V}
section
variable {P:Program}{w:World}{A:Around}{E:VS}{s:Shared}{K:Fg}{S1 S2:Hp->Prop}{xs ys:Da V}{z TI TO i1 i2 l1 l2:Addr}{t1 t2:Nat->Heap->Prop}{c1 c2:Heap->Prop}{i:Nat}
def UK{x:V}{a b:Value}{Q:VS}(D:ZipApart z TI TO i1 i2 l1 l2)(C1:BB P w K S1 xs i1 l1 t1 c1)(C2:BB P w K S2 ys i2 l2 t2 c2)(hz:IsZip s.heap z TI TO .none)(hTI:IsPair s.heap TI (.ref i1) (.ref i2))(hTO:IsPair s.heap TO a b)(h1:t1 i s.heap)(h2:t2 i s.heap)(hc1:c1 s.heap)(hc2:c2 s.heap)(hx:xs[i]?=some x)(hy:ys[i]?=some y)(hQ:∀u v h',RelV x u->RelV y v->IsZip h' z TI TO (rawInt s.heap.objs.size)->IsPair h' TO u v->t1 (i+1) h'->t2 (i+1) h'->IsPair h' s.heap.objs.size u v->h'.objs.size=s.heap.objs.size+1->
    (∀c o,c≠z->c≠TO->c≠i1->c≠i2->s.heap.get? c=some o->h'.get? c=some o)->Q (.ref s.heap.objs.size) { s with heap:=h' }):
  wpAny (model P w) A (Builtin.«zip.__next__» ([.ref z],[])) (λfin s'=>∃v,fin =.done (.ret v)/\Q v s') E s:=by
 show wpAny _ _ (field (.ref z) 2 >>= _) _ _ _
 refine az (pP hz rfl (x:=.bool false) rfl ?_);show wpAny _ _ (field (.ref z) 3 >>= _) _ _ _
 refine az (pP hz rfl (x:=.ref TI) rfl ?_);refine az (vL hTI rfl ?_)
 show wpAny _ _ (Builtin.SmallTypes.ownedTupleIsFree (.ref z) >>= _) _ _ _
 refine az ?_;unfold Builtin.SmallTypes.ownedTupleIsFree
 refine az (pP hz rfl (x:=.none) rfl (bh ?_));simp only[qW]
 refine az (wpAny_rule ?_);refine az (pP hz rfl (x:=.ref TO) rfl ?_)
 refine az (Hj hz (by simp) λhA Jb sA=>?_)
 replace Jb:IsZip hA z TI TO .ellipsis:=Jb
 refine az ?_;simp only[List.zipIdx_cons,List.zipIdx_nil,Lg,ES]
 refine az (az (wpAny_onRaise ?_));show wpAny _ _ (Builtin.SmallTypes.nextOf (.ref i1) >>= _) _ _ _
 refine az (C1.item _ i x { s with heap:=hA } _ _ (C1.keep _ _ _ h1 λo e=>sA.extBut _ _ D.i1z e) (C1.yg _ _ hc1 λo e=>sA.extBut _ _ D.l1z e) hx λu hB ru h1B sB=>bh ?_)
 have UL:IsPair hB TO a b:=sB.extBut _ _ D.TOi1 (sA.extBut _ _ D.TOz hTO)
 refine az (vL UL rfl ?_);refine az (wpAny_updateSeq_pair UL λhC YC sC=>?_)
 replace YC:IsPair hC TO u b:=YC
 refine az (wpAny_letGo (bh ?_));refine az (az (wpAny_onRaise ?_))
 show wpAny _ _ (Builtin.SmallTypes.nextOf (.ref i2) >>= _) _ _ _
 refine az (C2.item _ i y { s with heap:=hC } _ _ (C2.keep _ _ _ h2 λo e=>sC.extBut _ _ D.TOi2.symm (sB.extBut _ _ D.i12.symm (sA.extBut _ _ D.i2z e))) (C2.yg _ _ hc2 λo e=>sC.extBut _ _ D.l2TO (sB.extBut _ _ D.l2i1 (sA.extBut _ _ D.l2z e))) hy λv hD rv h2D sD=>bh ?_)
 have TOD:IsPair hD TO u b:=sD.extBut _ _ D.TOi2 YC
 refine az (vL TOD rfl ?_);refine az (wpAny_updateSeq_pair TOD λhE YD sE=>?_)
 replace YD:IsPair hE TO u v:=YD
 refine az (wpAny_letGo (bh (bh ?_)));refine az (vL YD rfl ?_)
 refine az (wpAny_newTuple ?_)
 have sz:hE.objs.size=s.heap.objs.size:=by rw[sE.1,sD.1,sC.1,sB.1,sA.1]
 have zE:IsZip hE z TI TO .ellipsis:=sE.extBut _ _ D.TOz.symm (sD.extBut _ _ D.i2z.symm (sC.extBut _ _ D.TOz.symm (sB.extBut _ _ D.i1z.symm Jb)))
 have kE:∀c o,c≠z->c≠TO->c≠i1->c≠i2->s.heap.get? c=some o->hE.get? c=some o:=λc o c1 c2 c3 c4 e=>sE.extBut _ _ c2 (sD.extBut _ _ c4 (sC.extBut _ _ c2 (sB.extBut _ _ c3 (sA.extBut _ _ c1 e))))
 have t1E:t1 (i+1) hE:=C1.keep _ _ _ h1B λo e=>sE.extBut _ _ D.TOi1.symm (sD.extBut _ _ D.i12 (sC.extBut _ _ D.TOi1.symm e))
 have t2E:t2 (i+1) hE:=C2.keep _ _ _ h2D λo e=>sE.extBut _ _ D.TOi2.symm e
 have zlt:z<hE.objs.size:=cA zE
 show wpAny _ _ (Builtin.SmallTypes.ownedTupleHandOut (.ref z) (.ref hE.objs.size) >>= _) _ _ _
 refine az ?_;unfold Builtin.SmallTypes.ownedTupleHandOut
 have zF:IsZip (hE.push { cls:=.type "tuple",data:=.seq #[u,v] }) z TI TO .ellipsis:=cN _ zE
 refine az (Hj zF (by simp) λhG zG sG=>?_)
 replace zG:IsZip hG z TI TO (rawInt hE.objs.size):=zG
 refine Hj zG (by simp) λhI zI sI=>?_
 replace zI:IsZip hI z TI TO (rawInt hE.objs.size):=zI
 have up:∀c o,c≠z->hE.get? c=some o->hI.get? c=some o:=λc o c1 e=>sI.extBut _ _ c1 (sG.extBut _ _ c1 (cN _ e))
 have TI':IsPair hI hE.objs.size u v:=sI.extBut _ _ (zW zlt) (sG.extBut _ _ (zW zlt) (ff _ rfl))
 have szI:hI.objs.size=hE.objs.size+1:=by rw[sI.1,sG.1,nU]
 rw[sz]at zI TI' szI
 refine bh (_,Z,?_)
 show Q (.ref hE.objs.size) _
 rw[sz]
 exact hQ u v hI ru rv zI (up _ _ D.TOz YD) (C1.keep _ _ _ t1E λo e=>up _ o D.i1z e) (C2.keep _ _ _ t2E λo e=>up _ o D.i2z e) TI' szI λc o c1 c2 c3 c4 e=>up c o c1 (kE c o c1 c2 c3 c4 e)
theorem Xb{a b:Value}{Q:Fin->Shared->Prop}(hh:A.handled=none)(D:ZipApart z TI TO i1 i2 l1 l2)(C1:BB P w K S1 xs i1 l1 t1 c1)(C2:BB P w K S2 ys i2 l2 t2 c2)(hz:IsZip s.heap z TI TO .none)(hTI:IsPair s.heap TI (.ref i1) (.ref i2))(hTO:IsPair s.heap TO a b)(h1:t1 i s.heap)(h2:t2 i s.heap)(hc1:c1 s.heap)(hc2:c2 s.heap)(hend:xs.length<=i\/ys.length<=i)(hE:∀h' e,(∀c o,c≠z->c≠TO->c≠i1->c≠i2->s.heap.get? c=some o->h'.get? c=some o)->(∃o,h'.get? e=some o/\o.cls =.type "StopIteration")->E (.ref e) { s with heap:=h' }):
  wpAny (model P w) A (Builtin.«zip.__next__» ([.ref z],[])) Q E s:=by
 show wpAny _ _ (field (.ref z) 2 >>= _) _ _ _
 refine az (pP hz rfl (x:=.bool false) rfl ?_);show wpAny _ _ (field (.ref z) 3 >>= _) _ _ _
 refine az (pP hz rfl (x:=.ref TI) rfl ?_);refine az (vL hTI rfl ?_)
 show wpAny _ _ (Builtin.SmallTypes.ownedTupleIsFree (.ref z) >>= _) _ _ _
 refine az ?_;unfold Builtin.SmallTypes.ownedTupleIsFree
 refine az (pP hz rfl (x:=.none) rfl (bh ?_));simp only[qW]
 refine az (wpAny_rule ?_);refine az (pP hz rfl (x:=.ref TO) rfl ?_)
 refine az (Hj hz (by simp) λhA Jb sA=>?_)
 replace Jb:IsZip hA z TI TO .ellipsis:=Jb
 refine az ?_;simp only[List.zipIdx_cons,List.zipIdx_nil,Lg,ES]
 refine az (az (wpAny_onRaise ?_));show wpAny _ _ (Builtin.SmallTypes.nextOf (.ref i1) >>= _) _ _ _
 have k1:=C1.keep _ _ _ h1 λo e=>sA.extBut _ _ D.i1z e
 have k2:=C1.yg _ _ hc1 λo e=>sA.extBut _ _ D.l1z e
 by_cases hx:xs.length<=i
 . refine az (C1.done _ i { s with heap:=hA } _ _ hh k1 k2 hx λhB e sB he=>?_)
   obtain⟨oe,Fw,hce⟩:=he
   have zB:IsZip hB z TI TO .ellipsis:=sB _ _ D.i1z.symm Jb
   have ez:e≠z:=λx=>by subst x;rw[zB]at Fw;cases Fw;simp at hce
   exact Hj zB (by simp) λhC _ sC=>hE hC e (λc o c1 _ c3 _ x=>sC.extBut _ _ c1 (sB _ _ c3 (sA.extBut _ _ c1 x))) (oe,sC.extBut _ _ ez Fw,hce)
 . have hy:ys.length<=i:=hend.resolve_left hx
   refine az (C1.item _ i xs[i] { s with heap:=hA } _ _ k1 k2 (a_ (by omega)) λu hB ru h1B sB=>bh ?_)
   have UL:IsPair hB TO a b:=sB.extBut _ _ D.TOi1 (sA.extBut _ _ D.TOz hTO)
   refine az (vL UL rfl ?_);refine az (wpAny_updateSeq_pair UL λhC YC sC=>?_)
   refine az (wpAny_letGo (bh ?_));refine az (az (wpAny_onRaise ?_))
   show wpAny _ _ (Builtin.SmallTypes.nextOf (.ref i2) >>= _) _ _ _
   refine az (C2.done _ i { s with heap:=hC } _ _ hh (C2.keep _ _ _ h2 λo e=>sC.extBut _ _ D.TOi2.symm (sB.extBut _ _ D.i12.symm (sA.extBut _ _ D.i2z e))) (C2.yg _ _ hc2 λo e=>sC.extBut _ _ D.l2TO (sB.extBut _ _ D.l2i1 (sA.extBut _ _ D.l2z e))) hy λhD e sD he=>?_)
   obtain⟨oe,Fw,hce⟩:=he
   have zD:IsZip hD z TI TO .ellipsis:=sD _ _ D.i2z.symm (sC.extBut _ _ D.TOz.symm (sB.extBut _ _ D.i1z.symm Jb))
   have ez:e≠z:=λx=>by subst x;rw[zD]at Fw;cases Fw;simp at hce
   exact Hj zD (by simp) λhF _ sF=>hE hF e (λc o c1 c2 c3 c4 x=>sF.extBut _ _ c1 (sD _ _ c4 (sC.extBut _ _ c2 (sB.extBut _ _ c3 (sA.extBut _ _ c1 x))))) (oe,sF.extBut _ _ ez Fw,hce)
end
def ack(S1 S2:Hp->Prop)(xs ys:Da V):It:=(λi H=>S1 H/\S2 H/\i<xs.length/\i<ys.length,λi H v H'=>∃p x y,H p=none/\v =.ref p/\H'=upd H p (.tup [x,y])/\xs[i]?=some x/\ys[i]?=some y,λi H=>S1 H/\S2 H/\(xs.length<=i\/ys.length<=i))
variable {ys:Da V}{z:Addr}
def UM{kk:Nat}{S1 S2:Hp->Prop}{TI TO i1 i2 l1 l2:Addr}{t1 t2:Nat->Heap->Prop}{c1 c2:Heap->Prop}(D:ZipApart z TI TO i1 i2 l1 l2)(C1:BB P w K S1 xs i1 l1 t1 c1)(C2:BB P w K S2 ys i2 l2 t2 c2):
  Turn P w K (.Tuple DD kk pos) (ack S1 S2 xs ys) [z,TI,TO,i1,i2] z (λi h=>IsZip h z TI TO .none/\IsPair h TI (.ref i1) (.ref i2)/\(∃a b,IsPair h TO a b)/\t1 i h/\t2 i h) where
 mem:=by simp
 obj:=λi h st b hb=>by
  obtain⟨hz,hTI,⟨a,b',hTO⟩,h1,h2⟩:=st;have hb':b=z\/b=TI\/b=TO\/b=i1\/b=i2:=by simpa using hb
  rcases hb' with rfl|rfl|rfl|rfl|rfl
  .exact (_,hz,λv q=>by cases q)
  .exact (_,hTI,λv q=>by cases q)
  .exact (_,hTO,λv q=>by cases q)
  .exact C1.obj i h h1
  .exact C2.obj i h h2
 keep:=λi h h' st k=>by obtain⟨hz,hTI,⟨a,b',hTO⟩,h1,h2⟩:=st;exact(k z (by simp) _ hz,k TI (by simp) _ hTI,(a,b',k TO (by simp) _ hTO),C1.keep _ _ _ h1 λo e=>k i1 (by simp) o e,C2.keep _ _ _ h2 λo e=>k i2 (by simp) o e)
 item:=by
  intro X hP hw hK hc i AC s σ H E I hf st hg;subst hP hw hK;obtain⟨hz,hTI,⟨a,b,hTO⟩,h1,h2⟩:=st;obtain⟨g1,g2,lx,ly⟩:=hg;have hT:s.TypeIs (.ref z) "zip":=(_,hz,Z)
  unfold pyNext;refine az (wpAny_attempt (Be (name:=Str.ofString "__next__") hT Lj (xZ Lj hT F.entry_zip_next
   (UK D C1 C2 hz hTI hTO h1 h2 (C1.Ja X rfl rfl rfl AC σ H s I g1) (C2.Ja X rfl rfl rfl AC σ H s I g2) (a_ lx) (a_ ly) λu u2 h' ru ru2 a1 a2 a3 a4 a5 a6 hk=>bh ?_) (F.args_zip_next_1 _))))
  refine(_,Z,wpAny_letOwnedTupleGo_zip (s:={ s with heap:=h' }) a1 λh'' b1 hs=>?_);have hTz:s.heap.objs.size≠z:=zW (cA hz);have yf:∀c o,c≠z->c≠TO->c≠i1->c≠i2->s.heap.get? c=some o->h''.get? c=some o:=λc o c1 c2 c3 c4 e=>hs.extBut _ _ c1 (hk c o c1 c2 c3 c4 e);have hn:=I.fresh;have nf:∀b u,H b=some u->b≠z/\b≠TO/\b≠i1/\b≠i2:=λb u e=>by
   have g:∀c∈[z,TI,TO,i1,i2],b≠c:=λc hc q=>by have:=(hf c hc).1;rw[<-q,e]at this;cases this
   exact(g z (by simp),g TO (by simp),g i1 (by simp),g i2 (by simp))
  have yW:∀c,c∉[z,TI,TO,i1,i2]->c≠z/\c≠TO/\c≠i1/\c≠i2:=λc hc=>(λq=>hc (by simp[q]),λq=>hc (by simp[q]),λq=>hc (by simp[q]),λq=>hc (by simp[q]))
  have air:IsPair h'' s.heap.objs.size u u2:=hs.extBut _ _ hTz a5;have hok:jF X.prog X.w (upd H s.heap.objs.size (.tup [xs[i],ys[i]])) h'':=λb ob e=>by
   by_cases hb:b=s.heap.objs.size
   .subst hb;rw[aq]at e;cases e;exact(by show 2<=sizeLine;decide,[u,u2],.cons ru (.cons ru2 .nil),_,air,Z,0,Z)
   .rw [aA hb]at e;refine(I.hok b ob e).stay (λc v UJ q=>?_) (λc q=>aA (aJ q hn)▸q) λc zs q=>aA (aJ q hn)▸q;rcases UJ with r|r
    .obtain ⟨n1,n2,n3,n4⟩:=nf b ob e;rw[r];rw[r]at q;exact yf b v n1 n2 n3 n4 q
    .obtain ⟨n1,n2,n3,n4⟩:=nf c _ r;exact yf c v n1 n2 n3 n4 q
  have I2:Inv X AC σ (upd H s.heap.objs.size (.tup [xs[i],ys[i]])) { s with heap:=h'',gens:=s.gens,drawn:=s.drawn,toks:=s.toks }:=by
   refine I.step (ch:=[z,TI,TO,i1,i2]) (λb hb=>((hf b hb).2.2.2.1,(hf b hb).2.1,(hf b hb).2.2.2.2.1,(hf b hb).2.2.2.2.2)) (λb o _ _ hc' e _=>?_) (λb o _ _ hc' e _=>?_) (λb o _ e n=>?_) (λb o hc' e=>?_)
    (λb zs q=>aA (aJ q hn)▸q) (λb o zs q=>aA (aJ q hn)▸q) (λb ps q=>(#[],by rw[aA (aJ q hn),q];simp)) (λm hm=>?_) hok I.bare
   .obtain ⟨n1,n2,n3,n4⟩:=yW b hc';exact yf b o n1 n2 n3 n4 e
   .obtain ⟨n1,n2,n3,n4⟩:=yW b hc';exact(o.slots,yf b o n1 n2 n3 n4 e)
   .rw [aA (fq (cA e))];exact n
   .obtain ⟨n1,n2,n3,n4⟩:=yW b hc';exact(o,yf b o n1 n2 n3 n4 e)
   .obtain ⟨o,es,ep,ho,r⟩:=hm;have nl:∀c∈[z,TI,TO,i1,i2],X.env.locals≠c:=λc hc' q=>(hf c hc').2.1 q.symm;exact(o,es,ep,yf _ o (nl z (by simp)) (nl TO (by simp)) (nl i1 (by simp)) (nl i2 (by simp)) ho,r)
  refine(.ref s.heap.objs.size,_,I2,Z,(s.heap.objs.size,xs[i],ys[i],hn,Z,Z,a_ lx,a_ ly),(b1,?_,(u,u2,?_),?_,?_),λb hb=>?_)
  .exact yf _ _ D.TIz D.TITO D.TIi1 D.TIi2 hTI
  .exact hs.extBut _ _ D.TOz a2
  .exact C1.keep _ _ _ a3 λo e=>hs.extBut _ _ D.i1z e
  .exact C2.keep _ _ _ a4 λo e=>hs.extBut _ _ D.i2z e
  .have va:b≠s.heap.objs.size:=by
    have hb':b=z\/b=TI\/b=TO\/b=i1\/b=i2:=by simpa using hb
    obtain⟨_,e1,_⟩:=C1.obj _ _ h1;obtain⟨_,e2,_⟩:=C2.obj _ _ h2;rcases hb' with rfl|rfl|rfl|rfl|rfl
    .exact fq (cA hz)
    .exact fq (cA hTI)
    .exact fq (cA hTO)
    .exact fq (cA e1)
    .exact fq (cA e2)
   rw[aA va];exact(hf b hb).1
 done:=by
  intro X hP hw hK hc i AC s σ H E I hf st hg;subst hP hw hK;obtain⟨hz,hTI,⟨a,b,hTO⟩,h1,h2⟩:=st;obtain⟨g1,g2,hend⟩:=hg;have hT:s.TypeIs (.ref z) "zip":=(_,hz,Z)
  unfold pyNext;refine az (wpAny_attempt (Be (name:=Str.ofString "__next__") hT Lj (xZ Lj hT F.entry_zip_next
   (Xb (I.ok.hd hc) D C1 C2 hz hTI hTO h1 h2 (C1.Ja X rfl rfl rfl AC σ H s I g1) (C2.Ja X rfl rfl rfl AC σ H s I g2) hend λh' e hk he=>?_) (F.args_zip_next_1 _))))
  obtain⟨oe,Fw,hce⟩:=he;refine az (wpAny_isInstance (T:="StopIteration") (b:=true) (oe,Fw,hce) isSubtype_stop (bh (Z,?_)));have yW:∀c,c∉[z,TI,TO,i1,i2]->c≠z/\c≠TO/\c≠i1/\c≠i2:=λc hc=>(λq=>hc (by simp[q]),λq=>hc (by simp[q]),λq=>hc (by simp[q]),λq=>hc (by simp[q]))
  have nf:∀b u,H b=some u->b≠z/\b≠TO/\b≠i1/\b≠i2:=λb u e=>by
   have g:∀c∈[z,TI,TO,i1,i2],b≠c:=λc hc q=>by have:=(hf c hc).1;rw[<-q,e]at this;cases this
   exact(g z (by simp),g TO (by simp),g i1 (by simp),g i2 (by simp))
  have I2:Inv X AC σ H { s with heap:=h',gens:=s.gens,drawn:=s.drawn,toks:=s.toks }:=by
   refine I.step (ch:=[z,TI,TO,i1,i2]) (λb hb=>((hf b hb).2.2.2.1,(hf b hb).2.1,(hf b hb).2.2.2.2.1,(hf b hb).2.2.2.2.2)) (λb o _ _ hc' e _=>?_) (λb o _ _ hc' e _=>?_) (λb o _ e n=>n) (λb o hc' e=>?_)
    (λb zs q=>q) (λb o zs q=>q) (λb ps q=>(#[],by rw[q];simp)) (λm hm=>?_) (λb ob e=>?_) I.bare
   .obtain ⟨n1,n2,n3,n4⟩:=yW b hc';exact hk b o n1 n2 n3 n4 e
   .obtain ⟨n1,n2,n3,n4⟩:=yW b hc';exact(o.slots,hk b o n1 n2 n3 n4 e)
   .obtain ⟨n1,n2,n3,n4⟩:=yW b hc';exact(o,hk b o n1 n2 n3 n4 e)
   .obtain ⟨o,es,ep,ho,r⟩:=hm;have nl:∀c∈[z,TI,TO,i1,i2],X.env.locals≠c:=λc hc' q=>(hf c hc').2.1 q.symm;exact(o,es,ep,hk _ o (nl z (by simp)) (nl TO (by simp)) (nl i1 (by simp)) (nl i2 (by simp)) ho,r)
   .refine (I.hok b ob e).stay (λc v UJ q=>?_) (λc q=>q) λc zs q=>q;rcases UJ with r|r
    .obtain ⟨n1,n2,n3,n4⟩:=nf b ob e;rw[r];rw[r]at q;exact hk b v n1 n2 n3 n4 q
    .obtain ⟨n1,n2,n3,n4⟩:=nf c _ r;exact hk c v n1 n2 n3 n4 q
  exact I2
 self:=λ_ _ _ _ _ st h=>wpAny_pyIter_zip st.1 h
def Ms(P:Program)(w:World)(u:Value)(o:Obj)(pre:Heap->Prop):Prop:=∀(A:Around)(E:VS)(s:Shared)(Q:VS),pre s.heap->Q (.ref s.heap.objs.size) { s with heap:=s.heap.push o }->wpAny (model P w) A (pyIter u) Q E s
def SJ{p1 p2:Heap->Prop}(s1:Ms P w u1 o1 p1)(s2:Ms P w u2 o2 p2):MeetsIn P w (Builtin.«zip.__new__» ([.type "zip",u1,u2],[])) (λ_ R s=>p1 s.heap/\p2 (s.heap.push o1)/\R (.ok (.ret (.ref ((((s.heap.push o1).push o2).push { cls:=.type "tuple",data:=.seq #[.ref s.heap.objs.size,.ref (s.heap.push o1).objs.size] }).push { cls:=.type "tuple",data:=.seq #[.none,.none] }).objs.size)))
     { s with heap:=((((s.heap.push o1).push o2).push { cls:=.type "tuple",data:=.seq #[.ref s.heap.objs.size,.ref (s.heap.push o1).objs.size] }).push { cls:=.type "tuple",data:=.seq #[.none,.none] }).push { cls:=.type "zip",data:=.fields #[.none,.bool false,.bool false,.ref ((s.heap.push o1).push o2).objs.size,.ref (((s.heap.push o1).push o2).push { cls:=.type "tuple",data:=.seq #[.ref s.heap.objs.size,.ref (s.heap.push o1).objs.size] }).objs.size] } }):=
 .of_wp λA R s h=>by
  obtain⟨hp,g,d,tk,os⟩:=s;obtain⟨q1,q2,h⟩:=h;have hsub:=sub_zip;have i1:=λ(A:Around)(E:VS)(Q:VS)=>s1 A E (hp,g,d,tk,os) Q q1;have i2:=λ(A:Around)(E:VS)(Q:VS)=>s2 A E (hp.push o1,g,d,tk,os) Q q2
  wp_walk using i1 _ _ _,i2 _ _ _
  exact(_,Z,h)
section
variable {prog:Program}{w:World}{A:Around}{E:VS}{s:Shared}{it t:Addr}{i:Nat}{items:Array Value}{Q:VS}
def O8{x:Value}(hit:s.heap.IsTupleIter it t i)(ht:s.heap.IsTuple t items)(hx:items[i]?=some x)(hQ:∀h',h'.IsTupleIter it t (i+1)->Heap.SameBut it s.heap h'->Q x { s with heap:=h' }):wpAny (model prog w) A (Builtin.SmallTypes.nextOf (.ref it)) Q E s:=by obtain⟨o,ho,hc,hd⟩:=id hit;obtain⟨ol,eU,_,nl,hdl⟩:=ht;unfold Builtin.SmallTypes.nextOf;refine az (Be (name:=Str.ofString "__next__") hit.typeIs RU (xZ RU hit.typeIs F.entry_tuple_iterator_next ?_ (F.args_tuple_iterator_next_1 _)));show wpAny _ _ (field (.ref it) 0 >>= _) _ _ s;refine az (pP ho hd (x:=.ref t) rfl ?_);show wpAny _ _ (if(Value.ref t==Value.none)=true then _ else _) _ _ s;rw[av (λz=>gZ z:¬ ((Value.ref t==Value.none)=true))];show wpAny _ _ (field (.ref it) 1 >>= _) _ _ s;refine az (pP ho hd (x:=.int i 0) rfl ?_);show wpAny _ _ (seqItems? (.ref t) >>= _) _ _ s;refine az (vL eU hdl ?_);simp only[qS,hx];refine az (CA ho hd (by simp) (bh (x,Z,bh (hQ _ ?_ (Hf ..)))));refine(_,DP _ ho (Obj.isFreed_of_fields (Hi hd _)),(Obj.cls_mapFields ..).trans hc,?_);rw[Hi hd];simp[rawInt]
def SK(hh:A.handled=none)(hit:s.heap.IsTupleIter it t i)(ht:s.heap.IsTuple t items)(hx:items[i]?=none)(hE:∀h' e,Heap.ExtBut it s.heap h'->(∃o,h'.get? e=some o/\o.cls =.type "StopIteration")->E (.ref e) { s with heap:=h' }):wpAny (model prog w) A (Builtin.SmallTypes.nextOf (.ref it)) Q E s:=by
 obtain⟨o,ho,hc,hd⟩:=id hit;obtain⟨ol,eU,_,nl,hdl⟩:=ht;unfold Builtin.SmallTypes.nextOf;refine az (Be (name:=Str.ofString "__next__") hit.typeIs RU (xZ RU hit.typeIs F.entry_tuple_iterator_next ?_ (F.args_tuple_iterator_next_1 _)));show wpAny _ _ (field (.ref it) 0 >>= _) _ _ s;refine az (pP ho hd (x:=.ref t) rfl ?_);show wpAny _ _ (if(Value.ref t==Value.none)=true then _ else _) _ _ s;rw[av (λz=>gZ z:¬ ((Value.ref t==Value.none)=true))];show wpAny _ _ (field (.ref it) 1 >>= _) _ _ s;refine az (pP ho hd (x:=.int i 0) rfl ?_);show wpAny _ _ (seqItems? (.ref t) >>= _) _ _ s;refine az (vL eU hdl ?_);simp only[qS,hx];refine az (wpAny_rule (az (CA ho hd (by simp) ?_)));show wpAny _ _ (newExc (.type "StopIteration") [] >>= _) _ _ _;refine az ?_;simp only[newExc,newTuple];refine az (zR ?_ (by size_fits));refine az (m:=firstArgMember _ _) (wpAny_of_eq (a:=Value.none) (by first|rfl|(simp only[firstArgMember];rfl)) ?_);refine zR ?_ (by size_fits);simp only[raiseNew];refine az (wpAny_handled ?_);first|rw[show A.in1.handled=none from hh]|rw[hh]
 refine az (bh (wpAny_throw ?_));exact hE _ _ (((Hf ..).extBut.push _).push _) (_,ff _ rfl,Z)
end
theorem ZW{l:Addr}:BB P w K (λH=>cU K H l xs) xs it l (λi h=>h.IsTupleIter it l i) (λh=>∃BT:Da Value,Vals xs BT/\h.IsTuple l BT.toArray) where
 obj:=λi h (o,e,c,d)=>(o,e,λv z=>by rw[d]at z;cases z)
 keep:=λi h h' st k=>st.at k
 yg:=λh h' (BT,r,o,e,q) k=>(BT,r,o,k o e,q)
 Ja:=λX hP hw hK AC σ H s I h=>by subst hP hw hK;obtain⟨BT,rv,p,_⟩:=I.tuple h;exact(BT,rv,p)
 item:=λA i x s Q E st (BT,r,hl) hx hQ=>by obtain⟨u,hu,ru⟩:=r.get hx;exact O8 st hl (by simpa using hu) λh' st' sb=>hQ u h' ru st' sb
 done:=λA i s Q E hh st (BT,r,hl) hx hE=>SK hh st hl (by have:=r.length;simp;omega) hE
def Xc:typeLookup (.type "dict") "__len__"=pure (some (.builtin "dict.__len__")):=by rw[typeLookup_type,builtinLookup_eq_fast];kernel_rfl
variable {R:Result->Shared->Prop}
section
variable {prog:Program}{w:World}{A:Around}{E:VS}{s:Shared}{K:Type}[DecidableEq K]{knd:KeyKind prog w K}
def C8(hh:A.handled=none){AT:Da (K×Value)}(hd:(d==sysModules)=false)(hm:s.heap.DictAt knd d AT ep)(S:Addr)(hSd:S≠d)(res:Value)(c₀:Nat)(hS:s.heap.get? S=some { cls:=.type "list",data:=.seq #[] c₀ })(hR:∀h' tk acc' c',(∀b o,b≠S->s.heap.get? b=some o->h'.get? b=some o)->h'.get? S=some { cls:=.type "list",dict:=none,data:=.seq acc' c',slots:=#[] }->
    ItemsOf (λi v=>∃k x,AT[i]?=some (k,x)/\knd.is k v=true) acc' AT.length->R (.ok (.ret res)) { s with heap:=h',toks:=tk })(hn:AT.length<=sizeLine):
  wpAny (model prog w) A.in1 (Builtin.List.listExtendWith (.ref S) (.ref d) res)
   (λfin s'=>match fin with | .done f=>R (.ok f) s' | .again c'=>c'.quiet=true/\codeAny (model prog w) A c' R s') (λe s'=>R (.error e) s') s:=by
 have hSI:S≠s.heap.objs.size:=fq (cA hS)
 have hT:s.TypeIs (.ref d) "dict":=hm.dictOf.typeIs
 unfold Builtin.List.listExtendWith
 refine az (wpAny_typeOf (T:="dict") (v:=.ref d) hT ?_)
 have h1:Builtin.List.listSameRef (.ref S) (.ref d)=false:=by show(S==d)=false;simpa using hSd
 have h2:(Value.type "dict"==Value.type "list")=false:=by decide
 have h3:(Value.type "dict"==Value.type "tuple")=false:=by decide
 simp only[h1,h2,h3,Bool.or_false,Hh,nV]
 refine az (wpAny_pyIter_dict hd hm ?_)
 refine az (CC ?_)
 unfold Builtin.List.listLengthHint
 have hT2:({ s with heap:=s.heap.push { cls:=.type "dict_keyiterator",data:=.fields #[.ref d,.int 0 0,.int AT.length 0,.int ep 0] } }:Shared).TypeIs (.ref d) "dict":=(hm.push _).dictOf.typeIs
 refine az (wpAny_specialOf (T:="dict") (v:=.ref d) hT2 Xc ?_)
 wp_delta
 refine az (wpAny_isInstance (T:="dict") (v:=.ref d) (b:=true) hT2 (by rw[isSubtype_type];kernel_rfl) ?_)
 show wpAny _ _ (typeOf (Value.ref d) >>= _) _ _ _
 refine az (wpAny_typeOf (T:="dict") (v:=.ref d) hT2 ?_)
 refine bh ?_
 have hne:d≠s.heap.objs.size:=fq hm.lt_size
 have hSf:S∉[s.heap.objs.size,d] :=λhm'=>by
  rcases dW.mp hm' with z|z
  .exact hSI z
  .exact hSd (dw.mp z)
 show wpAny _ A.in1 (rule "list.extend.makes-room" >>= λ_=>Builtin.List.listTouch (.ref S) >>= λ_=>
  again (.builtin "list.extend.loop" ([.ref S,.ref s.heap.objs.size,res],[]))) _ _ _
 refine az (wpAny_rule ?_)
 refine az ?_
 show wpAny _ A.in1 (updateSeq S (·.push .none) >>= λ_=>updateSeq S (·.pop)) _ _ _
 have hS₁:=cN { cls:=.type "dict_keyiterator",data:=.fields #[.ref d,.int 0 0,.int AT.length 0,.int ep 0] } hS
 refine az (wpAny_updateSeq hS₁ rfl ?_)
 have YE:=DP (Obj.mapSeq (·.push Value.none)) hS₁ rfl
 refine wpAny_updateSeq (hz:=by seq_fits) YE rfl ?_
 have hS₃:=DP (Obj.mapSeq (·.pop)) YE rfl
 have QT:∀b o,b≠S->(s.heap.push { cls:=.type "dict_keyiterator",data:=.fields #[.ref d,.int 0 0,.int AT.length 0,.int ep 0] }).get? b=some o->(((s.heap.push { cls:=.type "dict_keyiterator",data:=.fields #[.ref d,.int 0 0,.int AT.length 0,.int ep 0] }).update S (Obj.mapSeq (·.push Value.none))).update S (Obj.mapSeq (·.pop))).get? b=some o:=
  λb o hb e=>(Ly _ _ (cC hb)).trans ((Ly _ _ (cC hb)).trans e)
 refine bh (plainId_quiet F.plain_extend_loop _,codeAny_extend_loopS (Walks.dictKeys (prog:=prog) (w:=w) (A:=A.in1) (knd:=knd) hh s.heap.objs.size d hne AT ep).toS hn _ hSf _ AT.length 0 _ _ _ rfl (gE _) ((_,QT _ _ (cC hSI) (ff _ rfl),Z,Z),(hm.push _).at' λo e=>QT d o (cC hSd) e) hS₃ (ItemsOf.nil _) λs' acc' c' hm2 hS' Bi=>?_)
 rw[Moved.eq_with hm2]
 refine hR s'.heap s'.toks acc' c' (λb ob hb e=>hm2.heap b ob (λhmem=>?_) (QT b ob hb (cN _ e))) hS' Bi
 rcases dW.mp hmem with e'|hmem
 . exact hb e'
 . exact absurd (cA e) (dw.mp hmem▸j7 _)
def Hz{Q:VS}(hh:A.handled=none){AT:Da (K×Value)}(hd:(d==sysModules)=false)(hm:s.heap.DictAt knd d AT ep)(hn:AT.length<=sizeLine)(hQ:∀h' tk acc' c',(∀b o,s.heap.get? b=some o->h'.get? b=some o)->
    h'.get? s.heap.objs.size=some { cls:=.type "list",dict:=none,data:=.seq acc' c',slots:=#[] }->ItemsOf (λi v=>∃k x,AT[i]?=some (k,x)/\knd.is k v=true) acc' AT.length->Q (.ref s.heap.objs.size) { s with heap:=h',toks:=tk }):
  wpAny (model prog w) A (call (.type "list") [.ref d]) Q E s:=by
 refine callType_codes (Q₁:=λobj s₁=>obj =.ref s.heap.objs.size/\s₁={ s with heap:=s.heap.push { cls:=.type "list",data:=.seq #[] } }) F.called_list (F.typeCall_list_1 _) F.entry_list_init
  (code_list_new _ (Z,Z)) λobj s₁ h₁=>?_
 obtain⟨rfl,rfl⟩:=h₁
 have hS:(s.heap.push { cls:=.type "list",data:=.seq #[] }).get? s.heap.objs.size=some { cls:=.type "list",data:=.seq #[] }:=ff _ rfl
 have hne:s.heap.objs.size≠d:=zW hm.lt_size
 refine((_,hS,Z),F.args_list_init_2 _ _,?_)
 show wpAny _ _ (do let old <-Builtin.List.listItems (.ref s.heap.objs.size);Builtin.List.listUpdate (.ref s.heap.objs.size) (λ_=>#[]);letGo old.toList.reverse;Builtin.List.listExtendWith (.ref s.heap.objs.size) (.ref d) .none) _ _ _
 refine az ?_
 unfold Builtin.List.listItems
 refine az (vL hS rfl (bh ?_))
 show wpAny _ _ (updateSeq s.heap.objs.size (λ_=>#[]) >>= λ_=>letGo (#[] :Array Value).toList.reverse >>= λ_=>Builtin.List.listExtendWith (.ref s.heap.objs.size) (.ref d) .none) _ _ _
 refine az (wpAny_updateSeq hS rfl ?_)
 have YE:=DP (Obj.mapSeq (λ_=>(#[] :Array Value))) hS rfl
 have QT:∀b o,b≠s.heap.objs.size->(s.heap.push { cls:=.type "list",data:=.seq #[] }).get? b=some o->((s.heap.push { cls:=.type "list",data:=.seq #[] }).update s.heap.objs.size (Obj.mapSeq (λ_=>(#[] :Array Value)))).get? b=some o:=
  λb o hb e=>(Ly _ _ (cC hb)).trans e
 refine az (wpAny_letGo ?_)
 refine C8 (A:=A.in1) hh hd (hm.push _ |>.at' λo e=>QT d o hne.symm e) s.heap.objs.size hne .none _ YE (λh' tk acc' c' hk hS' Bi=>?_) hn
 exact(Z,hQ h' tk acc' c' (λb o e=>hk b o (fq (cA e)) (QT b o (fq (cA e)) (cN _ e))) hS' Bi)
end
theorem Jc{α β:Type}{F:α->β->Prop}:∀{l₁:Da α}{l₂:Da β},l₁.length=l₂.length->(∀(i:Nat)(x:α)(y:β),l₁[i]?=some x->l₂[i]?=some y->F x y)->Paired F l₁ l₂
 | [],[],_,_=> .nil
 | x::xs,y::ys,h,f=> .cons (f 0 x y rfl rfl) (Jc (by simpa using h) λi a b ha hb=>f (i+1) a b (by simpa using ha) (by simpa using hb))
def mZ(v d:Addr):HO:=.ext λh=>h.IsValuesView v d
section
variable {X:Cx}
inductive acm(Q:VK)(x:V)(H1:Hp):Prop
 |mk(d AT:_)(_:x =.ref d)(_:Rd H1 d (.dK AT))(_:∀v,H1 v=none->Q (.ref v) (upd H1 v (mZ v d)))
def ae8(td:TE):TE:=λσ H Q=>td σ H (acm Q)
inductive Wk(K:Fg)(H:Hp):V->(Hp->Prop)->Da V->Prop
 | lst {l:Addr} {xs:Da V}:aC K H l xs->Wk K H (.ref l) (λH=>aC K H l xs) xs
 | tup {l:Addr} {xs:Da V}:cU K H l xs->Wk K H (.ref l) (λH=>cU K H l xs) xs
 | keys {d:Addr} {o:Obj} {AT:Da (Key×V)}:qI H d o AT->Wk K H (.ref d) (λH=>qI H d o AT) (AT.map λp=>kV p.1)
 | vals {v d:Addr} {o:Obj} {AT:Da (Key×V)}:H v=some (mZ v d)->qI H d o AT->Wk K H (.ref v) (λH=>qI H d o AT) (AT.map λp=>p.2)
def Wk.ok{u:V}{S:Hp->Prop}(k:Wk X.K H u S xs)(I:Inv X AC σ H s)(r:RelV u uv):S H/\∃(l:Addr)(o:Obj)(p:Heap->Prop),l<s.heap.objs.size/\p s.heap/\(∀h (ob:Obj),p h->p (h.push ob))/\(∀h:Heap,(h.push o).get? h.objs.size=some o)/\Ms X.prog X.w uv o p/\∀it:Addr,∃tn src,BB X.prog X.w X.K S xs it l tn src/\∀h:Heap,h.get? it=some o->tn 0 h:=by
 cases k with
 | @lst l xs hS=>cases r;obtain⟨BT,rv,p,_⟩:=I.list hS;obtain⟨ol,eU,_⟩:=id p.isList;refine(hS,l,_,λh=>h.IsList l BT.toArray,cA eU,p.isList,λh ob q=>q.push ob,λh=>ff _ rfl,λA E s Q q h=>R9 q h,λit=>(_,_,W9,λh e=>(_,e,Z,Z)))
 | @tup l xs hS=>cases r;obtain⟨BT,rv,p,_⟩:=I.tuple hS;obtain⟨ol,eU,q0⟩:=id p;refine(hS,l,_,λh=>h.IsTuple l BT.toArray,cA eU,p,λh ob (o1,a,b)=>(o1,cN _ a,b),λh=>ff _ rfl,λA E s Q q h=>wpAny_pyIter_tuple q h,λit=>(_,_,ZW,λh e=>(_,e,Z,Z)))
 | @keys d o AT hz=>cases r;obtain⟨ho,hl,hsys,vs,ep,rel,da⟩:=I.ug hz;obtain⟨o',es,h1,_,h2,_⟩:=id da;rw[ho]at h1;cases h1;have el:AT.length=vs.length:=rel.length;refine(hz,d,_,λh=>h.DictAt (dh X.prog X.w) d vs ep,cA ho,da,λh ob q=>q.push ob,λh=>ff _ rfl,λA E s Q q h=>wpAny_pyIter_dict hsys q h,λit=>(_,_,W_ h2,λh e=>?_));rw[el];exact(_,e,Z,Z)
 | @vals v d o AT hv hz=>
  cases r;obtain⟨ho,hl,hsys,vs,ep,rel,da⟩:=I.ug hz;obtain⟨o',es,h1,_,h2,_⟩:=id da;rw[ho]at h1;cases h1;have el:AT.length=vs.length:=rel.length;obtain⟨hv',_⟩:=(show e_ X.prog X.w H s.heap v (mZ v d)from I.hok v _ hv)
  refine(hz,d,_,λh=>h.IsValuesView v d/\h.DictAt (dh X.prog X.w) d vs ep,cA ho,(hv',da),λh ob ((o1,a,b),q)=>((o1,cN _ a,b),q.push ob),λh=>ff _ rfl,λA E s Q q h=>wpAny_pyIter_values q.1 q.2 h,λit=>(_,_,Xa h2,λh e=>?_));rw[el];exact(_,e,Z,Z)
variable {DD:Da Expr}{kk:Nat}{tpos:Pos}
inductive acn(K:Fg)(R:It->Hp->Prop)(vs:Da V)(H1:Hp):Prop
 |mk(u1 u2 S1 S2 xs ys:_)(_:vs=[u1,u2])(_:Wk K H1 u1 S1 xs)(_:Wk K H1 u2 S2 ys)(_:R (ack S1 S2 xs ys:_) H1)
def ae9(K:Fg)(ta:TA):TI:=λσ H R=>ta σ H (acn K R)
theorem Jd(hc:X.calm=true):iL X (.builtin "sum") (λxs H Q=>∃(v d:Addr)(AT:Da (Key×V))(ns:Da Int),xs=[.ref v]/\H v=some (mZ v d)/\Rd H d (.dK AT)/\AT.map (·.2)=ns.map V.int/\Q (.int ns.sum) H):=by
 intro AC s σ H xs us Q I r h;obtain⟨v,d,AT,ns,rfl,hv,hz,en,q⟩:=h;obtain⟨u,rfl,ru⟩:=vals1 r;cases ru;obtain⟨_,hsys,vs,rel,dd⟩:=ue I.hok hz;obtain⟨ep,da⟩:=dd.dictAt;obtain⟨hv',_⟩:=(show e_ X.prog X.w H s.heap v (mZ v d)from I.hok v _ hv)
 have hl:AT.length=vs.length:=rel.length;have va:=da.lt_size;have hne:d≠s.heap.objs.size:=fq va;have W:=(Walks.dictValues (prog:=X.prog) (w:=X.w) (A:=X.A.in1) (knd:=dh X.prog X.w) (I.ok.hd hc) s.heap.objs.size d hne vs ep).toS;have Fl:AT.length=ns.length:=by have:=i8 List.length en;simpa using this
 refine call_sum_walkAnyS (wpAny_pyIter_values hv' da ?_);refine(s.heap.objs.size,_,_,_,_,_,_,λi=>ns.getD i 0,Z,W,((_,ff _ rfl,Z,Z),da.push _),λb hb=>?_,λi x hP=>?_,λs' t' hm=>?_)
 .rcases dW.mp hb with rfl|hb
  .exact cA (ff _ rfl)
  .obtain rfl:=dw.mp hb;exact(da.push _).lt_size
 .obtain ⟨k,hk⟩:=hP;have hil:i<ns.length:=by have:=(c_.mp hk).1;omega
  have hik:i<AT.length:=by omega
  obtain⟨q',hq',_,rq⟩:=yY rel (a_ hik);rw[hk]at hq';cases hq';have e1:AT[i].2=V.int (ns.getD i 0):=by have:=i8 (λl=>l[i]?) en;simp only[bP,a_ hik,a_ hil]at this;rw[dQ,a_ hil];exact gU this
  rw[e1]at rq;exact rq
 .obtain ⟨h',g',d',tk',os'⟩:=s';have e1:g'=s.gens:=hm.gens;have e2:d'=s.drawn:=hm.drawn;have e3:os'=s.os:=hm.os;subst e1 e2 e3;have hsz:vs.length=ns.length:=by omega
  rw[hsz,preSum_getD,G0 (aO _)];exact(.int ns.sum,H,I.kept (h':=h') (t':=tk') λb o e=>hm.heap b o (λhb=>absurd (cA e) ((dw.mp hb)▸j7 _)) (cN _ e),(t',Z),q)
theorem SM(hc:X.calm=true):iL X (.type "list") (λxs H Q=>∃(d:Addr)(AT:Da (Key×V)),xs=[.ref d]/\Rd H d (.dK AT)/\∀l,H l=none->Q (.ref l) (upd H l (.lst (AT.map λp=>kV p.1)))):=by
 intro AC s σ H xs us Q I r h;obtain⟨d,AT,rfl,hz,q⟩:=h;obtain⟨u,rfl,ru⟩:=vals1 r;cases ru;obtain⟨hsz,hsys,vs,rel,dd⟩:=ue I.hok hz;obtain⟨ep,da⟩:=dd.dictAt;have hl:AT.length=vs.length:=rel.length;refine Hz (I.ok.hd hc) hsys da (by omega) λh' tk acc' c' kp e it=>?_;refine(.ref s.heap.objs.size,_,I.laid (t':=tk) kp (aO _) (show e_ X.prog X.w _ h' _ (.lst (AT.map λp=>kV p.1))from(by rw[aG];exact hsz,acc'.toList,c',?_,by rw[e])),Z,q _ I.fresh);obtain⟨sz,hit⟩:=it;have hA:acc'.toList.length=acc'.size:=by simp
 have hB:(AT.map λp=>kV p.1).length=acc'.toList.length:=by rw[aG];omega
 refine Jc hB λi x y hx hy=>?_;rw[bP]at hx;obtain⟨p,hp,rfl⟩:=nt.mp hx;obtain⟨k,v,hk,hkk⟩:=hit i y (by simpa using hy);obtain⟨q',hq',ek,_⟩:=yY rel hp;rw[hk]at hq';cases hq';rw[ek];exact Mr hkk
end
def fC:St->Da Nat->Da V->St
 | σ,k::ks,v::vs=>fC (σ.set k (some v)) ks vs
 | σ,_,_=>σ
theorem Fx{k:Nat}{v:Option V}:∀{ks:Da Nat}{vs:Da V}{σ:St},k∉ks->(fC σ ks vs).set k v=fC (σ.set k v) ks vs
 | [],_,_,_=>by unfold fC;rfl
 | _::_,[],_,_=>by unfold fC;rfl
 | j::ks,w::vs,σ,h=>by have hj:k≠j:=λe=>h (e▸cO);show(fC (σ.set j (some w)) ks vs).set k v=fC ((σ.set k v).set j (some w)) ks vs;rw[Fx (λm=>h (cR _ m)),List.set_comm _ _ hj]
theorem wL:∀{ks:Da Nat}{vs ws:Da V}{σ:St},ks.Nodup->vs.length=ks.length->ws.length=ks.length->fC (fC σ ks vs) ks ws=fC σ ks ws
 | [],[],[],_,_,_,_=>rfl
 | k::ks,v::vs,w::ws,σ,nd,h1,h2=>by have nk:=(iu.mp nd).1;show fC ((fC (σ.set k (some v)) ks vs).set k (some w)) ks ws=fC (σ.set k (some w)) ks ws;rw[Fx nk,qV,wL (iu.mp nd).2 (by simpa using h1) (by simpa using h2)]
def YF:Da Nat->EX
 | []=>aba
 | k::ks=>Yp (i9 k) (YF ks)
theorem Mt{Q:St->Hp->Prop}{H:Hp}:∀{ks:Da Nat}{vs:Da V}{σ:St},vs.length=ks.length->Q (fC σ ks vs) H->YF ks vs σ H Q
 | [],[],_,_,q=>(Z,q)
 | k::ks,v::vs,σ,h,q=>(v,vs,Z,Mt (by simpa using h) q)
theorem yZ(ks:Da Nat)(Pv:Nat->Da V->Hp->Prop)(nd:ks.Nodup)(hn:n<=100000)(h0:Pv 0 [] (upd H Ap (.lst [])))(hgo:∀i out H1,i<n->H1 Ap=some (.lst out)->Pv i out H1->J.go i H1)(hst:∀out H1,H1 Ap=some (.lst out)->Pv n out H1->J.stop n H1)(hs:∀(i:Nat) (x:V) (out:Da V) (H1 H2:Hp),i<n->out.length=i->H1 Ap=some (.lst out)->Pv i out H1->J.EY i H1 x H2->
    ∃t vs,x =.ref t/\cU K H2 t vs/\vs.length=ks.length/\te (fC σ2 ks vs) H2 (z9 Pv i Ap out))(hd:∀(out:Da V) (H1:Hp),out.length=n->H1 Ap=some (.lst out)->Pv n out H1->Q (.ref Ap) H1):
  Fe J (DT K ks.length (YF ks)) te Ap σ2 H Q:=by
 refine⟨λi m σ' H'=>m=n-i/\i<=n/\(∀ws,ws.length=ks.length->fC σ' ks ws=fC σ2 ks ws)/\∃out,out.length=i/\H' Ap=some (.lst out)/\Pv i out H',(n,by simp,gE _,λ_ _=>rfl,[],Z,aq,h0),?_⟩
 rintro i m σ' H' ⟨rfl,hi,hσ,out,ho,ha,p⟩
 by_cases va:i<n
 . refine .inr (hgo i out H' va ha p,λσ3=>∀ws,ws.length=ks.length->fC σ3 ks ws=fC σ2 ks ws,(z9 Pv i Ap out),λσ3 v H4 hS (a,b)=>?_,λx H1 y=>?_)
   . refine(out,a,?_,n-(i+1),by omega,Z,va,hS,out++[v],by rw[c7,ho];rfl,aq,b)
     have:sizeLine=16777216:=mY
     omega
   . obtain⟨t,vs,rfl,sq,hl,q⟩:=hs i x out H' H1 va ho ha p y
     refine(t,vs,Z,sq,hl,Mt hl (λws hw=>?_,?_))
     . rw[wL nd hl hw];exact hσ ws hw
     . rw[hσ vs hl];exact q
 . have e:i=n:=by omega
   subst e
   exact .inl (hst out H' ha p,hd out H' ho ha p)
theorem ZX(ks:Da Nat)(Pv:Nat->Da V->Hp->Prop)(nd:ks.Nodup)(hn:n<=100000)(h0:Pv 0 [] (upd H Ap (.lst [])))(hgo:∀i out H1,i<n->H1 Ap=some (.lst out)->Pv i out H1->J.go i H1)(hst:∀out H1,H1 Ap=some (.lst out)->Pv n out H1->J.stop n H1)(hs:∀(i:Nat) (x:V) (out:Da V) (H1 H2:Hp),i<n->out.length<=i->H1 Ap=some (.lst out)->Pv i out H1->J.EY i H1 x H2->
    ∃t vs,x =.ref t/\cU K H2 t vs/\vs.length=ks.length/\tc (fC σ2 ks vs) H2 (Yx te (fC σ2 ks vs) Pv i Ap out))(hd:∀(out:Da V) (H1:Hp),out.length<=n->H1 Ap=some (.lst out)->Pv n out H1->Q (.ref Ap) H1):
  Bw J (DT K ks.length (YF ks)) tc te Ap σ2 H Q:=by
 refine⟨λi m σ' H'=>m=n-i/\i<=n/\(∀ws,ws.length=ks.length->fC σ' ks ws=fC σ2 ks ws)/\∃out,out.length<=i/\H' Ap=some (.lst out)/\Pv i out H',(n,by simp,gE _,λ_ _=>rfl,[],aO _,aq,h0),?_⟩
 rintro i m σ' H' ⟨rfl,hi,hσ,out,ho,ha,p⟩
 by_cases va:i<n
 . refine .inr (hgo i out H' va ha p,λσ3=>∀ws,ws.length=ks.length->fC σ3 ks ws=fC σ2 ks ws,(z9 Pv i Ap out),λH3=>H3 Ap=some (.lst out)/\Pv (i+1) out H3,λσ3 v H4 hS (a,b)=>?_,λσ3 H4 hS (a,b)=>?_,λx H1 y=>?_)
   . refine(out,a,?_,n-(i+1),by omega,Z,va,hS,out++[v],c7▸Nat.succ_le_succ ho,aq,b)
     have:sizeLine=16777216:=mY
     omega
   . exact(n-(i+1),by omega,Z,va,hS,out,by omega,a,b)
   . obtain⟨t,vs,rfl,sq,hl,q⟩:=hs i x out H' H1 va ho ha p y
     refine(t,vs,Z,sq,hl,Mt hl (λws hw=>?_,?_))
     . rw[wL nd hl hw];exact hσ ws hw
     . rw[hσ vs hl];exact q
 . have e:i=n:=by omega
   subst e
   exact .inl (hst out H' ha p,hd out H' ho ha p)
theorem iD(k:Nat)(Pv:Nat->Da V->Hp->Prop)(hn:n<=100000)(h0:Pv 0 [] (upd H Ap (.lst [])))(hgo:∀i out H1,i<n->H1 Ap=some (.lst out)->Pv i out H1->J.go i H1)(hst:∀out H1,H1 Ap=some (.lst out)->Pv n out H1->J.stop n H1)(hs:∀(i:Nat) (x:V) (out:Da V) (H1 H2:Hp),i<n->out.length=i->H1 Ap=some (.lst out)->Pv i out H1->J.EY i H1 x H2->
    te (σ2.set k (some x)) H2 (z9 Pv i Ap out))(hd:∀(out:Da V) (H1:Hp),out.length=n->H1 Ap=some (.lst out)->Pv n out H1->Q (.ref Ap) H1):
  Fe J (i9 k) te Ap σ2 H Q:=by
 refine⟨λi m σ' H'=>m=n-i/\i<=n/\(∀w:Option V,σ'.set k w=σ2.set k w)/\∃out,out.length=i/\H' Ap=some (.lst out)/\Pv i out H',(n,by simp,gE _,λ_=>rfl,[],Z,aq,h0),?_⟩
 rintro i m σ' H' ⟨rfl,hi,hσ,out,ho,ha,p⟩
 by_cases va:i<n
 . refine .inr (hgo i out H' va ha p,λσ3=>∀w:Option V,σ3.set k w=σ2.set k w,(z9 Pv i Ap out),λσ3 v H4 hS (a,b)=>?_,λx H1 y=>?_)
   . refine(out,a,?_,n-(i+1),by omega,Z,va,hS,out++[v],by rw[c7,ho];rfl,aq,b)
     have:sizeLine=16777216:=mY
     omega
   . refine(λw=>by rw[qV];exact hσ w,?_)
     rw[hσ]
     exact hs i x out H' H1 va ho ha p y
 . have e:i=n:=by omega
   subst e
   exact .inl (hst out H' ha p,hd out H' ho ha p)
theorem QU(k:Nat)(Pv:Nat->Da V->Hp->Prop)(hn:n<=100000)(h0:Pv 0 [] (upd H Ap (.lst [])))(hgo:∀i out H1,i<n->H1 Ap=some (.lst out)->Pv i out H1->J.go i H1)(hst:∀out H1,H1 Ap=some (.lst out)->Pv n out H1->J.stop n H1)(hs:∀(i:Nat) (x:V) (out:Da V) (H1 H2:Hp),i<n->out.length<=i->H1 Ap=some (.lst out)->Pv i out H1->J.EY i H1 x H2->
    tc (σ2.set k (some x)) H2 (Yx te (σ2.set k (some x)) Pv i Ap out))(hd:∀(out:Da V) (H1:Hp),out.length<=n->H1 Ap=some (.lst out)->Pv n out H1->Q (.ref Ap) H1):
  Bw J (i9 k) tc te Ap σ2 H Q:=by
 refine⟨λi m σ' H'=>m=n-i/\i<=n/\(∀w:Option V,σ'.set k w=σ2.set k w)/\∃out,out.length<=i/\H' Ap=some (.lst out)/\Pv i out H',(n,by simp,gE _,λ_=>rfl,[],aO _,aq,h0),?_⟩
 rintro i m σ' H' ⟨rfl,hi,hσ,out,ho,ha,p⟩
 by_cases va:i<n
 . refine .inr (hgo i out H' va ha p,λσ3=>∀w:Option V,σ3.set k w=σ2.set k w,(z9 Pv i Ap out),λH3=>H3 Ap=some (.lst out)/\Pv (i+1) out H3,λσ3 v H4 hS (a,b)=>?_,λσ3 H4 hS (a,b)=>?_,λx H1 y=>?_)
   . refine(out,a,?_,n-(i+1),by omega,Z,va,hS,out++[v],c7▸Nat.succ_le_succ ho,aq,b)
     have:sizeLine=16777216:=mY
     omega
   . exact(n-(i+1),by omega,Z,va,hS,out,by omega,a,b)
   . refine(λw=>by rw[qV];exact hσ w,?_)
     rw[hσ]
     exact hs i x out H' H1 va ho ha p y
 . have e:i=n:=by omega
   subst e
   exact .inl (hst out H' ha p,hd out H' ho ha p)
structure Mn(P:Program)(w:World)(K:Fg)(mg:SO)(base:Heap)(k:Nat)(C:Addr)(m:Str)(ps:Da Str)(sp:Sp):Prop where
 ex:∃f fd,lu P w K mg base wG k f fd ps sp/\Binds K fd ps []/\Meth K C m f/\q_ K C
structure Cn(P:Program)(w:World)(K:Fg)(mg:SO)(base:Heap)(k:Nat)(x:Str)(C:Addr)(ps:Da Str)(sp:Sp):Prop where
 ex:∃f fd,lu P w K mg base wG k f fd ps sp/\Binds K fd ps []/\Mk K C f/\mg x=some (.ref C)
section
variable {X:Cx}
inductive ae_(x:V)(y:V)(H:Hp)(Q:VK):Prop
 |mk(i j:_)(_:x =.int i)(_:y =.int j)(_:Sv i j)(_:Q (.int (i*j)) H)
def ZY:LV X .Mult ae_:=by
 rintro AC s σ H x y u v Q I rx ry ⟨i,j,rfl,rfl,⟨m,n,h1,h2,h3⟩,q⟩;obtain⟨t,rfl⟩:=(show ∃t,u=Value.int i t from rx)
 obtain⟨t',rfl⟩:=(show ∃t',v=Value.int j t' from ry)
 exact PyProof.Rows.imul_int (.int (i*j),H,I.tok _,(_,Z),q) (IntMulOk.of_le (R6.mpr h1) (R6.mpr h2) h3)
end
structure ja(K:Fg)(C:Addr)(m qual:Str)(st:Stmt)(f:Addr)(fd:FuncData):Prop where
 fn:I0 K m qual st f fd
 me:Meth K C m f
 cl:q_ K C
variable {mg:SO}{base:Heap}{C f:Addr}{qual:Str}{fd:FuncData}{N ps:Da Str}{sp:Sp}
theorem ja.ok{m:Str}{st:Stmt}{k:Nat}(F:ja K C m qual st f fd)(S:aQ N ps (aD st))(len:∀vs H Q E,sp vs H Q E->vs.length=ps.length)(Ch:∀(yn:Value) (A:Around) (outer:Da Env) (s:Shared) (H:Hp) (vs:Da V) (Q:VK) (E:XK),fL k (A.deeper (envOfC qual (aD st) s.heap.objs.size f yn))->sp vs H Q E->
    ∃t,yc (uX wG P w K mg base N qual (aD st) f yn A outer s H E).Ds (dU st) t/\t { nx:=λ_ H'=>Q .cK H',rt:=Q } (start N vs) H)(h:∀(kV doc pm:Value) (an:Option Addr) (yn ct:Value) (us:Da Value),us.length=ps.length->bindArgs (PySem.W.fnOf m qual (gI st) (dU st) (aD st) .none kV doc pm an yn ct) (us,[])=pure (ps.zip us)):
  Mn P w K mg base (k+1) C m ps sp:=(f,fd,F.fn.ok S len Ch,F.fn.binds h,F.me,F.cl)
structure Je(K:Fg)(mg:SO)(x:Str)(C:Addr)(qual:Str)(st:Stmt)(f:Addr)(fd:FuncData):Prop where
 fn:I0 K "__init__" qual st f fd
 mks:Mk K C f
 name:mg x=some (.ref C)
theorem Je.ok{st:Stmt}{k:Nat}(F:Je K mg x C qual st f fd)(S:aQ N ps (aD st))(len:∀vs H Q E,sp vs H Q E->vs.length=ps.length)(Ch:∀(yn:Value) (A:Around) (outer:Da Env) (s:Shared) (H:Hp) (vs:Da V) (Q:VK) (E:XK),fL k (A.deeper (envOfC qual (aD st) s.heap.objs.size f yn))->sp vs H Q E->
    ∃t,yc (uX wG P w K mg base N qual (aD st) f yn A outer s H E).Ds (dU st) t/\t { nx:=λ_ H'=>Q .cK H',rt:=Q } (start N vs) H)(h:∀(kV doc pm:Value) (an:Option Addr) (yn ct:Value) (us:Da Value),us.length=ps.length->bindArgs (PySem.W.fnOf "__init__" qual (gI st) (dU st) (aD st) .none kV doc pm an yn ct) (us,[])=pure (ps.zip us)):
  Cn P w K mg base (k+1) x C ps sp:=(f,fd,F.fn.ok S len Ch,F.fn.binds h,F.mks,F.name)
abbrev oN:=Nat×Nat×Str
abbrev d8:=Addr->Option oN
abbrev col(n t:Nat):Option oN:=some (n,t,(⟨#[]⟩:Str))
def isTup:HO->Bool
 | .tup _=>true
 | _=>false
def Gh(ρ:d8)(H:Hp):Prop:=∀b c,ρ b=some c->∃o,H b=some o/\isTup o=false
def Fr(n:Nat)(ρ:d8)(H:Hp)(ρ':d8)(H':Hp):Prop:=∀b o,H b=some o->(∀t x,ρ b≠some (n,t,x))->H' b=some o/\ρ' b=ρ b
def b7(ρ:d8)(a:Addr)(c:oN):d8:=λb=>if b=a then some c else ρ b
variable {ρ:d8}
def c6{c:oN}:b7 ρ a c a=some c:=ay rfl
def cg{b:Addr}{c:oN}(h:b≠a):b7 ρ a c b=ρ b:=av h
def out(ρ:d8)(H:Hp):Hp:=λb=>if ρ b=none then H b else none
variable {o:HO}
def y9{b:Addr}(h:H b=some o)(c:ρ b=none):out ρ H b=some o:=by unfold out;rw[ay c];exact h
def tD{b:Addr}(h:out ρ H b=some o):H b=some o/\ρ b=none:=by
 unfold out at h;split at h
 .next c=>exact(h,c)
 .cases h
theorem Gh.none(g:Gh ρ H){b:Addr}(h:H b=Option.none):ρ b=Option.none:=by
 cases e:ρ b with
 | none=>rfl
 | some c=>obtain⟨o,q,_⟩:=g b c e;rw[h]at q;cases q
theorem Gh.tup{ρ:d8}{H:Hp}(g:Gh ρ H){b:Addr}{xs:Da V}(h:H b=some (.tup xs)):ρ b=Option.none:=by
 cases e:ρ b with
 | none=>rfl
 | some c=>obtain⟨o,q,t⟩:=g b c e;rw[h]at q;cases q;cases t
def Gh.same(g:Gh ρ H)(s:aM H H'):Gh ρ H':=λb c e=>let(o,h,t):=g b c e;(o,s b o h,t)
def Gh.wr(g:Gh ρ H)(t:isTup o=false):Gh ρ (upd H a o):=λb c e=>by
 by_cases h:b=a
 .rw [h,aq];exact(o,Z,t)
 .rw [aA h];exact g b c e
def Gh.alloc(g:Gh ρ H)(h:H a=Option.none):Gh ρ (upd H a o):=g.same (aF h o)
def Gh.color(g:Gh ρ H){c:oN}(h:H a=some o)(t:isTup o=false):Gh (b7 ρ a c) H:=λb d e=>by
 by_cases z:b=a
 .rw [z];exact(o,h,t)
 .rw [cg z]at e;exact g b d e
def Fr.refl:Fr n ρ H ρ H:=λ_ _ h _=>(h,Z)
variable {H1 H2:Hp}
theorem Fr.trans{ρ1 ρ2:d8}(a:Fr n ρ H ρ1 H1)(b:Fr n ρ1 H1 ρ2 H2):Fr n ρ H ρ2 H2:=λc o h k=>by obtain⟨h1,e1⟩:=a c o h k;obtain⟨h2,e2⟩:=b c o h1 (e1▸k);exact(h2,e2.trans e1)
def Fr.of_same(s:aM H H'):Fr n ρ H ρ H':=λb o h _=>(s b o h,Z)
def Fr.write(c:ρ a=some (n,t,x)):Fr n ρ H ρ (upd H a o):=λb u h k=>by have:b≠a:=λe=>k t x (e▸c);rw[aA this];exact(h,Z)
def Fr.color{c:oN}(h:H a=none)(s:aM H H'):Fr n ρ H (b7 ρ a c) H':=λb u e k=>by rw[cg (aJ e h)];exact(s b u e,Z)
variable {ρ':d8}
theorem Fr.out(f:Fr n ρ H ρ' H'):aM (out ρ H) (out ρ' H'):=λb o h=>by obtain⟨h1,c⟩:=tD h;obtain⟨h2,e⟩:=f b o h1 (λt x=>by rw[c];intro z;cases z);exact y9 h2 (e.trans c)
def ji(s:aM H H'):aM (out ρ H) (out ρ H'):=λb o h=>by obtain⟨h1,c⟩:=tD h;exact y9 (s b o h1) c
structure Pt where
 nm:Str
 ow:Str
 wo:Int
 we:Int
 sc:Int
 row:Da Int
structure iX where
 nm:Str
 ow:Str
 wo:Int
 sh:Da (Str×Rat)
structure HS where
 own:Da Str
 ah:Da Pt
 bM:Da iX
 nms:Da Str
 stp:Da Int
 prod:Int
 kn:Nat
 bU:Da Int
 bN:Da Int
structure HA where
 a:Addr
 dx:Addr
 pl:Addr
 ab:Addr
 as:Addr
 nm:Addr
 bt:Addr
 db:Addr
 cm:Addr
 pu:Addr
 sp:Addr
 kn:Addr
 qs:Da (Addr×Addr×Addr)
structure TC where
 hold:Addr
 part:Addr
 bot:Addr
def gO:Nat->Da Str->Da (Key×V)
 | _,[]=>[]
 | i,o::r=>(Sum.inr o,.int i)::gO (i+1) r
def cY(ps:Da Pt)(qs:Da (Addr×Addr×Addr)):Da (Key×V):=List.zipWith (λp q=>((Sum.inr p.nm:Key),V.ref q.1)) ps qs
def BC(l:Da Str):Da (Key×V):=l.map λx=>(Sum.inr x,.bl true)
noncomputable def kM(A:HA):Da (Str×V):=[("places",.ref A.pl),("aboard",.ref A.ab),("ashore",.ref A.as),("names",.ref A.nm),("bottom",.ref A.bt),("common",.ref A.cm),("purses",.ref A.pu)]
noncomputable def dB(p:Pt)(r:Addr):Da (Str×V):=[("name",.str p.nm),("owner",.str p.ow),("worth",.int p.wo),("weight",.int p.we),("scale",.int p.sc),("row",.ref r)]
def Ac(sp:Addr)(prod:Int)(kn:Addr):Da (Str×V):=[("steps",.ref sp),("product",.int prod),("known",.ref kn)]
def Mu(H:Hp)(AT:Da (Key×V))(prod:Int):Prop:=∀p∈AT,∃(t:Int)(r:Addr),p=(Sum.inl t,V.ref r)/\H r=some (oS (Jm.fr t prod))
inductive iY(H:Hp):Da V->Da (Str×Rat)->Prop
 | nil:iY H [] []
 | cons {r f:Addr} {x:Str} {q:Rat} {vs:Da V} {l:Da (Str×Rat)}:H r=some (.tup [.str x,.ref f])->H f=some (oS q)->iY H vs l->iY H (.ref r::vs) ((x,q)::l)
inductive m7(n:Nat)(ρ:d8)(H:Hp):Da V->Da iX->Prop
 | nil:m7 n ρ H [] []
 | cons {r l:Addr} {x:iX} {ss:Da V} {vs:Da V} {as:Da iX}:H r=some (.tup [.str x.nm,.str x.ow,.int x.wo,.ref l])->H l=some (.lst ss)->ρ l=some (n,30,⟨#[]⟩)->iY H ss x.sh->m7 n ρ H vs as->m7 n ρ H (.ref r::vs) (x::as)
structure aY(T:TC)(n:Nat)(ρ:d8)(A:HA)(H:Hp)(st:HS):Prop where
 oa:H A.a=some (.ins T.hold A.dx (kM A))
 ca:ρ A.a=col n 0
 jj:H A.pl=some (.dK (gO 0 st.own))
 jw:ρ A.pl=col n 1
 d9:H A.ab=some (.dK (cY st.ah A.qs))
 iw:ρ A.ab=col n 2
 sS:∃vs,H A.as=some (.lst vs)/\m7 n ρ H vs st.bM
 jH:ρ A.as=col n 3
 uG:H A.nm=some (.dK (BC st.nms))
 jI:ρ A.nm=col n 4
 kP:H A.bt=some (.ins T.bot A.db (Ac A.sp st.prod A.kn))
 jJ:ρ A.bt=col n 5
 jV:H A.cm=some (.lst (st.bU.map V.int))
 ki:ρ A.cm=col n 6
 m8:H A.pu=some (.lst (st.bN.map V.int))
 cpu:ρ A.pu=col n 7
 qJ:H A.sp=some (.lst (st.stp.map V.int))
 jK:ρ A.sp=col n 8
 okn:∃AT,H A.kn=some (.dK AT)/\Mu H AT st.prod/\AT.length<=st.kn/\(AT.map (·.1)).Nodup
 jL:ρ A.kn=col n 9
 ql:A.qs.length=st.ah.length
 opt:∀(i:Nat)(p:Pt)(q:Addr×Addr×Addr),st.ah[i]?=some p->A.qs[i]?=some q->H q.1=some (.ins T.part q.2.1 (dB p q.2.2))/\H q.2.2=some (.lst (p.row.map V.int))/\ρ q.1=some (n,20,p.nm)/\ρ q.2.2=some (n,21,p.nm)
def Fy{b:Addr}{c d:oN}(ha:ρ a=some c)(hb:ρ b=some d)(h:c≠d):a≠b:=λe=>by rw[e,hb]at ha;cases ha;exact h rfl
def DB{b:Addr}{c:oN}(ha:ρ a=none)(hb:ρ b=some c):a≠b:=λe=>by rw[e,hb]at ha;cases ha
variable {vs:Da V}
def iY.mono{l:Da (Str×Rat)}(h:iY H vs l)(g:∀b xs,H b=some (.tup xs)->H' b=some (.tup xs)):iY H' vs l:=by
 induction h with
 | nil=>exact .nil
 | cons a b _ ih=>exact .cons (g _ _ a) (g _ _ b) ih
def Kp(n:Nat)(ρ ρ':d8)(H H':Hp)(ts:Nat->Bool):Prop:=(∀b xs,H b=some (.tup xs)->H' b=some (.tup xs))/\∀b t x o,ts t=true->ρ b=some (n,t,x)->H b=some o->H' b=some o/\ρ' b=some (n,t,x)
variable {ts:Nat->Bool}
def m7.keep{l:Da iX}(h:m7 n ρ H vs l)(k:Kp n ρ ρ' H H' ts)(e:ts 30=true):m7 n ρ' H' vs l:=by
 induction h with
 | nil=>exact .nil
 | cons a b c d _ ih=>exact .cons (k.1 _ _ a) (k.2 _ _ _ _ e c b).1 (k.2 _ _ _ _ e c b).2 (d.mono k.1) ih
def eV(g:Gh ρ H)(c:ρ a=some (n,t,x)):Kp n ρ ρ H (upd H a o) (λu=>decide (u≠t)):=by
 refine(λb xs h=>?_,λb u y w hu hc h=>(?_,hc))
 .rw [aA (DB (g.tup h) c)];exact h
 .rw [aA (Fy hc c (λe=>by cases e;exact absurd hu (by simp)))];exact h
def kz(k:Kp n ρ ρ' H H' ts){b:Addr}(c:ρ b=some (n,t,x))(e:H b=some o)(u:ts t=true:=by decide):H' b=some o:=(k.2 b t x o u c e).1
def QV(s:aM H H'):Kp n ρ ρ H H' ts:=(λb xs h=>s _ _ h,λb u y w _ hc h=>(s _ _ h,hc))
variable {T:TC}{A:HA}{st:HS}
def aY.same(h:aY T n ρ A H st)(k:Kp n ρ ρ' H H' λ_=>true):aY T n ρ' A H' st:=by
 have z:=λ{b:Addr}{t:Nat}{x:Str}{o:HO}(c:ρ b=some (n,t,x))(e:H b=some o)=>k.2 b t x o rfl c e;obtain⟨vs,h1,h2⟩:=h.sS;obtain⟨AT,k1,k2,k3⟩:=h.okn;exact((z h.ca h.oa).1,(z h.ca h.oa).2,(z h.jw h.jj).1,(z h.jw h.jj).2,(z h.iw h.d9).1,(z h.iw h.d9).2,(vs,(z h.jH h1).1,h2.keep k rfl),(z h.jH h1).2,(z h.jI h.uG).1,(z h.jI h.uG).2,(z h.jJ h.kP).1,(z h.jJ h.kP).2,
  (z h.ki h.jV).1,(z h.ki h.jV).2,(z h.cpu h.m8).1,(z h.cpu h.m8).2,(z h.jK h.qJ).1,(z h.jK h.qJ).2,(AT,(z h.jL k1).1,λp hp=>let(t,r,e,q):=k2 p hp;(t,r,e,k.1 _ _ q),k3),(z h.jL k1).2,h.ql,
  λi p q e1 e2=>let(a,b,c,d):=h.opt i p q e1 e2;((z c a).1,(z d b).1,(z c a).2,(z d b).2))
def aY.mono(h:aY T n ρ A H st)(s:aM H H'):aY T n ρ A H' st:=h.same (QV s)
def aY.other(h:aY T m ρ A H st)(f:Fr n ρ H ρ' H')(g:Gh ρ H)(e:m≠n):aY T m ρ' A H' st:=h.same (λb xs q=>(f b _ q λt x=>by rw[g.tup q];intro z;cases z).1,λb t x o _ c q=>by
 obtain⟨a,b'⟩:=f b o q λt' x'=>by rw[c];intro z;cases z;exact e rfl
 exact(a,b'.trans c))
variable {r:Addr}{ss:Da V}
def m7.snoc{as:Da iX}{l:Addr}{x:iX}(h:m7 n ρ H vs as)(e1:H r=some (.tup [.str x.nm,.str x.ow,.int x.wo,.ref l]))(e2:H l=some (.lst ss))(e3:ρ l=some (n,30,⟨#[]⟩))(e4:iY H ss x.sh):m7 n ρ H (vs++[.ref r]) (as++[x]):=by
 induction h with
 | nil=>exact .cons e1 e2 e3 e4 .nil
 | cons a b c d _ ih=>exact .cons a b c d ih
theorem CT{p0 p1:Pt}:∀{ps:Da Pt}{qs:Da (Addr×Addr×Addr)}{i:Nat},ps[i]?=some p0->p1.nm=p0.nm->cY (ps.set i p1) qs=cY ps qs
 | [],_,_,h,_=>by simp at h
 | _::_,[],_,_,_=>by simp[cY]
 | p::ps,q::qs,0,h,e=>by
  have:p=p0:=by simpa using h
  simp[cY,e,this]
 | p::ps,q::qs,i+1,h,e=>by have:=CT (qs:=qs) (by simpa using h:ps[i]?=some p0) e;simp only[cY,LF,uS]at this ⊢;rw[this]
variable {j:Nat}{p:Pt}
def Fz{ps:Da Pt}(nd:(ps.map (·.nm)).Nodup){q:Pt}(h1:ps[i]?=some p)(h2:ps[j]?=some q)(e:p.nm=q.nm):i=j:=by
 have a:(ps.map (·.nm))[i]?=some p.nm:=by rw[bP,h1];rfl
 have b:(ps.map (·.nm))[j]?=some p.nm:=by rw[bP,h2,e];rfl
 exact DS nd a b
variable {p0 p1:Pt}{q0:Addr×Addr×Addr}
def ZZ(h:aY T n ρ A H st)(k:Kp n ρ ρ H H' ts)(nd:(st.ah.map (·.nm)).Nodup)(ep:st.ah[i]?=some p0)(eq:A.qs[i]?=some q0)(e1:p1.nm=p0.nm)(hw:H' q0.1=some (.ins T.part q0.2.1 (dB p1 q0.2.2)))(hs:∀{b:Addr} {t:Nat} {x:Str} {o:HO},ρ b=some (n,t,x)->t≠20\/x≠p0.nm->H b=some o->H' b=some o)(er:(.lst (p0.row.map V.int):HO) =.lst (p1.row.map V.int)):
  ∀(j:Nat)(p:Pt)(q:Addr×Addr×Addr),(st.ah.set i p1)[j]?=some p->A.qs[j]?=some q->H' q.1=some (.ins T.part q.2.1 (dB p q.2.2))/\H' q.2.2=some (.lst (p.row.map V.int))/\ρ q.1=some (n,20,p.nm)/\ρ q.2.2=some (n,21,p.nm):=by
 intro j p q ej eq'
 by_cases hj:i=j
 . subst hj
   rw[eq]at eq';cases eq'
   rw[kJ (c_.mp ep).1]at ej
   cases ej
   obtain⟨a,b,c,d⟩:=h.opt i p0 q0 ep eq
   exact(hw,by rw[<-er];exact hs d (.inl (by decide)) b,e1▸c,e1▸d)
 . rw[yC hj]at ej
   obtain⟨a,b,c,d⟩:=h.opt j p q ej eq'
   exact(hs c (.inr λe=>hj (Fz nd ep ej e.symm)) a,hs d (.inl (by decide)) b,c,d)
variable {l:Da Int}
def Xd(h:aY T n ρ A H st)(nd:(st.ah.map (·.nm)).Nodup)(ep:st.ah[i]?=some p0)(eq:A.qs[i]?=some q0)(hw:H' q0.2.2=some (.lst (l.map V.int)))(hs:∀{b:Addr} {t:Nat} {x:Str} {o:HO},ρ b=some (n,t,x)->t≠21\/x≠p0.nm->H b=some o->H' b=some o):
  ∀(j:Nat)(p:Pt)(q:Addr×Addr×Addr),(st.ah.set i { p0 with row:=l })[j]?=some p->A.qs[j]?=some q->H' q.1=some (.ins T.part q.2.1 (dB p q.2.2))/\H' q.2.2=some (.lst (p.row.map V.int))/\ρ q.1=some (n,20,p.nm)/\ρ q.2.2=some (n,21,p.nm):=by
 intro j p q ej eq'
 by_cases hj:i=j
 . subst hj
   rw[eq]at eq';cases eq'
   rw[kJ (c_.mp ep).1]at ej
   cases ej
   obtain⟨a,b,c,d⟩:=h.opt i p0 q0 ep eq
   exact(hs c (.inl (by decide)) a,hw,c,d)
 . rw[yC hj]at ej
   obtain⟨a,b,c,d⟩:=h.opt j p q ej eq'
   exact(hs c (.inl (by decide)) a,hs d (.inr λe=>hj (Fz nd ep ej e.symm)) b,c,d)
def BD(c:ρ a=some (n,t,x)):∀{b:Addr}{u:Nat}{y:Str}{w:HO},ρ b=some (n,u,y)->u≠t\/y≠x->H b=some w->upd H a o b=some w:=λ{b u y w} hc hu h=>by rw[aA (Fy hc c (λe=>by cases e;rcases hu with z|z <;> exact z rfl))];exact h
def aY.aco(h:aY T n ρ A H st)(g:Gh ρ H)(l:Da Str):aY T n ρ A (upd H A.pl (.dK (gO 0 l))) { st with own:=l }:=by have k:=eV (o:=.dK (gO 0 l)) g h.jw;obtain⟨vs,h1,h2⟩:=h.sS;obtain⟨AT,k1,k2,k3⟩:=h.okn;exact(kz k h.ca h.oa,h.ca,aq,h.jw,kz k h.iw h.d9,h.iw,(vs,kz k h.jH h1,h2.keep k (by decide)),h.jH,kz k h.jI h.uG,h.jI,kz k h.jJ h.kP,h.jJ,kz k h.ki h.jV,h.ki,kz k h.cpu h.m8,h.cpu,kz k h.jK h.qJ,h.jK,(AT,kz k h.jL k1,λp hp=>let(t,r,e,q):=k2 p hp;(t,r,e,k.1 _ _ q),k3),h.jL,h.ql,λi p q e1 e2=>let(a,b,c,d):=h.opt i p q e1 e2;(kz k c a,kz k d b,c,d))
def aY.Mv(h:aY T n ρ A H st)(g:Gh ρ H)(ps:Da Pt)(qs:Da (Addr×Addr×Addr))(el:qs.length=ps.length)(hp:∀(i:Nat) (p:Pt) (q:Addr×Addr×Addr),ps[i]?=some p->qs[i]?=some q->H q.1=some (.ins T.part q.2.1 (dB p q.2.2))/\H q.2.2=some (.lst (p.row.map V.int))/\ρ q.1=some (n,20,p.nm)/\ρ q.2.2=some (n,21,p.nm)):aY T n ρ { A with qs:=qs } (upd H A.ab (.dK (cY ps qs))) { st with ah:=ps }:=by have k:=eV (o:=.dK (cY ps qs)) g h.iw;obtain⟨vs,h1,h2⟩:=h.sS;obtain⟨AT,k1,k2,k3⟩:=h.okn;exact(kz k h.ca h.oa,h.ca,kz k h.jw h.jj,h.jw,aq,h.iw,(vs,kz k h.jH h1,h2.keep k (by decide)),h.jH,kz k h.jI h.uG,h.jI,kz k h.jJ h.kP,h.jJ,kz k h.ki h.jV,h.ki,kz k h.cpu h.m8,h.cpu,kz k h.jK h.qJ,h.jK,(AT,kz k h.jL k1,λp hp=>let(t,r,e,q):=k2 p hp;(t,r,e,k.1 _ _ q),k3),h.jL,el,λi p q e1 e2=>let(a,b,c,d):=hp i p q e1 e2;(kz k c a,kz k d b,c,d))
def aY.acp(h:aY T n ρ A H st)(g:Gh ρ H){l:Addr}{x:iX}{UN:Da V}(hv:H A.as=some (.lst UN))(e1:H r=some (.tup [.str x.nm,.str x.ow,.int x.wo,.ref l]))(e2:H l=some (.lst ss))(e3:ρ l=some (n,30,⟨#[]⟩))(e4:iY H ss x.sh):aY T n ρ A (upd H A.as (.lst (UN++[.ref r]))) { st with bM:=st.bM++[x] }:=by have k:=eV (o:=.lst (UN++[.ref r])) g h.jH;obtain⟨vs,h1,h2⟩:=h.sS;obtain⟨AT,k1,k2,k3⟩:=h.okn;exact(kz k h.ca h.oa,h.ca,kz k h.jw h.jj,h.jw,kz k h.iw h.d9,h.iw,(_,aq,by rw[hv]at h1;cases h1;exact(h2.keep k (by decide)).snoc (k.1 _ _ e1) (kz k e3 e2) e3 (e4.mono k.1)),h.jH,kz k h.jI h.uG,h.jI,kz k h.jJ h.kP,h.jJ,kz k h.ki h.jV,h.ki,kz k h.cpu h.m8,h.cpu,kz k h.jK h.qJ,h.jK,(AT,kz k h.jL k1,λp hp=>let(t,r,e,q):=k2 p hp;(t,r,e,k.1 _ _ q),k3),h.jL,h.ql,λi p q e1 e2=>let(a,b,c,d):=h.opt i p q e1 e2;(kz k c a,kz k d b,c,d))
def aY.acq(h:aY T n ρ A H st)(g:Gh ρ H)(l:Da Str):aY T n ρ A (upd H A.nm (.dK (BC l))) { st with nms:=l }:=by have k:=eV (o:=.dK (BC l)) g h.jI;obtain⟨vs,h1,h2⟩:=h.sS;obtain⟨AT,k1,k2,k3⟩:=h.okn;exact(kz k h.ca h.oa,h.ca,kz k h.jw h.jj,h.jw,kz k h.iw h.d9,h.iw,(vs,kz k h.jH h1,h2.keep k (by decide)),h.jH,aq,h.jI,kz k h.jJ h.kP,h.jJ,kz k h.ki h.jV,h.ki,kz k h.cpu h.m8,h.cpu,kz k h.jK h.qJ,h.jK,(AT,kz k h.jL k1,λp hp=>let(t,r,e,q):=k2 p hp;(t,r,e,k.1 _ _ q),k3),h.jL,h.ql,λi p q e1 e2=>let(a,b,c,d):=h.opt i p q e1 e2;(kz k c a,kz k d b,c,d))
def aY.acr(h:aY T n ρ A H st)(g:Gh ρ H)(l:Da Int):aY T n ρ A (upd H A.cm (.lst (l.map V.int))) { st with bU:=l }:=by have k:=eV (o:=.lst (l.map V.int)) g h.ki;obtain⟨vs,h1,h2⟩:=h.sS;obtain⟨AT,k1,k2,k3⟩:=h.okn;exact(kz k h.ca h.oa,h.ca,kz k h.jw h.jj,h.jw,kz k h.iw h.d9,h.iw,(vs,kz k h.jH h1,h2.keep k (by decide)),h.jH,kz k h.jI h.uG,h.jI,kz k h.jJ h.kP,h.jJ,aq,h.ki,kz k h.cpu h.m8,h.cpu,kz k h.jK h.qJ,h.jK,(AT,kz k h.jL k1,λp hp=>let(t,r,e,q):=k2 p hp;(t,r,e,k.1 _ _ q),k3),h.jL,h.ql,λi p q e1 e2=>let(a,b,c,d):=h.opt i p q e1 e2;(kz k c a,kz k d b,c,d))
def aY.acs(h:aY T n ρ A H st)(g:Gh ρ H)(l:Da Int):aY T n ρ A (upd H A.pu (.lst (l.map V.int))) { st with bN:=l }:=by have k:=eV (o:=.lst (l.map V.int)) g h.cpu;obtain⟨vs,h1,h2⟩:=h.sS;obtain⟨AT,k1,k2,k3⟩:=h.okn;exact(kz k h.ca h.oa,h.ca,kz k h.jw h.jj,h.jw,kz k h.iw h.d9,h.iw,(vs,kz k h.jH h1,h2.keep k (by decide)),h.jH,kz k h.jI h.uG,h.jI,kz k h.jJ h.kP,h.jJ,kz k h.ki h.jV,h.ki,aq,h.cpu,kz k h.jK h.qJ,h.jK,(AT,kz k h.jL k1,λp hp=>let(t,r,e,q):=k2 p hp;(t,r,e,k.1 _ _ q),k3),h.jL,h.ql,λi p q e1 e2=>let(a,b,c,d):=h.opt i p q e1 e2;(kz k c a,kz k d b,c,d))
def aY.acu(h:aY T n ρ A H st)(g:Gh ρ H)(l:Da Int):aY T n ρ A (upd H A.sp (.lst (l.map V.int))) { st with stp:=l }:=by have k:=eV (o:=.lst (l.map V.int)) g h.jK;obtain⟨vs,h1,h2⟩:=h.sS;obtain⟨AT,k1,k2,k3⟩:=h.okn;exact(kz k h.ca h.oa,h.ca,kz k h.jw h.jj,h.jw,kz k h.iw h.d9,h.iw,(vs,kz k h.jH h1,h2.keep k (by decide)),h.jH,kz k h.jI h.uG,h.jI,kz k h.jJ h.kP,h.jJ,kz k h.ki h.jV,h.ki,kz k h.cpu h.m8,h.cpu,aq,h.jK,(AT,kz k h.jL k1,λp hp=>let(t,r,e,q):=k2 p hp;(t,r,e,k.1 _ _ q),k3),h.jL,h.ql,λi p q e1 e2=>let(a,b,c,d):=h.opt i p q e1 e2;(kz k c a,kz k d b,c,d))
def aY.acv(h:aY T n ρ A H st)(g:Gh ρ H)(q:Addr)(l:Da Int)(e:H q=some (.lst (l.map V.int)))(c:ρ q=col n 6):aY T n ρ { A with cm:=q } (upd H A.a (.ins T.hold A.dx (kM { A with cm:=q }))) { st with bU:=l }:=by have k:=eV (o:=.ins T.hold A.dx (kM { A with cm:=q })) g h.ca;obtain⟨vs,h1,h2⟩:=h.sS;obtain⟨AT,k1,k2,k3⟩:=h.okn;exact(aq,h.ca,kz k h.jw h.jj,h.jw,kz k h.iw h.d9,h.iw,(vs,kz k h.jH h1,h2.keep k (by decide)),h.jH,kz k h.jI h.uG,h.jI,kz k h.jJ h.kP,h.jJ,kz k c e,c,kz k h.cpu h.m8,h.cpu,kz k h.jK h.qJ,h.jK,(AT,kz k h.jL k1,λp hp=>let(t,r,e,q):=k2 p hp;(t,r,e,k.1 _ _ q),k3),h.jL,h.ql,λi p q e1 e2=>let(a,b,c,d):=h.opt i p q e1 e2;(kz k c a,kz k d b,c,d))
def aY.UO(h:aY T n ρ A H st)(g:Gh ρ H)(q:Addr)(l:Da Int)(e:H q=some (.lst (l.map V.int)))(c:ρ q=col n 7):aY T n ρ { A with pu:=q } (upd H A.a (.ins T.hold A.dx (kM { A with pu:=q }))) { st with bN:=l }:=by have k:=eV (o:=.ins T.hold A.dx (kM { A with pu:=q })) g h.ca;obtain⟨vs,h1,h2⟩:=h.sS;obtain⟨AT,k1,k2,k3⟩:=h.okn;exact(aq,h.ca,kz k h.jw h.jj,h.jw,kz k h.iw h.d9,h.iw,(vs,kz k h.jH h1,h2.keep k (by decide)),h.jH,kz k h.jI h.uG,h.jI,kz k h.jJ h.kP,h.jJ,kz k h.ki h.jV,h.ki,kz k c e,c,kz k h.jK h.qJ,h.jK,(AT,kz k h.jL k1,λp hp=>let(t,r,e,q):=k2 p hp;(t,r,e,k.1 _ _ q),k3),h.jL,h.ql,λi p q e1 e2=>let(a,b,c,d):=h.opt i p q e1 e2;(kz k c a,kz k d b,c,d))
def aY.acw(h:aY T n ρ A H st)(g:Gh ρ H)(m:Int)(q:Addr)(e:H q=some (.dK []))(c:ρ q=col n 9):aY T n ρ { A with kn:=q } (upd H A.bt (.ins T.bot A.db (Ac A.sp m q))) { st with prod:=m,kn:=0 }:=by have k:=eV (o:=.ins T.bot A.db (Ac A.sp m q)) g h.jJ;obtain⟨vs,h1,h2⟩:=h.sS;obtain⟨AT,k1,k2,k3⟩:=h.okn;exact(kz k h.ca h.oa,h.ca,kz k h.jw h.jj,h.jw,kz k h.iw h.d9,h.iw,(vs,kz k h.jH h1,h2.keep k (by decide)),h.jH,kz k h.jI h.uG,h.jI,aq,h.jJ,kz k h.ki h.jV,h.ki,kz k h.cpu h.m8,h.cpu,kz k h.jK h.qJ,h.jK,([],kz k c e,(λp hp=>absurd hp (by simp)),aO _,x9),c,h.ql,λi p q e1 e2=>let(a,b,c,d):=h.opt i p q e1 e2;(kz k c a,kz k d b,c,d))
def aY.mC(h:aY T n ρ A H st)(g:Gh ρ H)(ep:st.ah[i]?=some p0)(eq:A.qs[i]?=some q0)(e1:p1.nm=p0.nm)(e2:p1.row=p0.row)(nd:(st.ah.map (·.nm)).Nodup):aY T n ρ A (upd H q0.1 (.ins T.part q0.2.1 (dB p1 q0.2.2))) { st with ah:=st.ah.set i p1 }:=by have k:=eV (o:=.ins T.part q0.2.1 (dB p1 q0.2.2)) g (h.opt i p0 q0 ep eq).2.2.1;obtain⟨vs,h1,h2⟩:=h.sS;obtain⟨AT,k1,k2,k3⟩:=h.okn;exact(kz k h.ca h.oa,h.ca,kz k h.jw h.jj,h.jw,by rw[CT ep e1];exact kz k h.iw h.d9,h.iw,(vs,kz k h.jH h1,h2.keep k (by decide)),h.jH,kz k h.jI h.uG,h.jI,kz k h.jJ h.kP,h.jJ,kz k h.ki h.jV,h.ki,kz k h.cpu h.m8,h.cpu,kz k h.jK h.qJ,h.jK,(AT,kz k h.jL k1,λp hp=>let(t,r,e,q):=k2 p hp;(t,r,e,k.1 _ _ q),k3),h.jL,by rw[fF];exact h.ql,ZZ h k nd ep eq e1 aq (BD (h.opt i p0 q0 ep eq).2.2.1) (by rw[e2]))
def aY.Z0(h:aY T n ρ A H st)(g:Gh ρ H)(l:Da Int)(ep:st.ah[i]?=some p0)(eq:A.qs[i]?=some q0)(nd:(st.ah.map (·.nm)).Nodup):aY T n ρ A (upd H q0.2.2 (.lst (l.map V.int))) { st with ah:=st.ah.set i { p0 with row:=l } }:=by have k:=eV (o:=.lst (l.map V.int)) g (h.opt i p0 q0 ep eq).2.2.2;obtain⟨vs,h1,h2⟩:=h.sS;obtain⟨AT,k1,k2,k3⟩:=h.okn;exact(kz k h.ca h.oa,h.ca,kz k h.jw h.jj,h.jw,by show _=some (HO.dK (cY (st.ah.set i { p0 with row:=l }) A.qs));rw[CT (p1:={ p0 with row:=l }) ep rfl];exact kz k h.iw h.d9,h.iw,(vs,kz k h.jH h1,h2.keep k (by decide)),h.jH,kz k h.jI h.uG,h.jI,kz k h.jJ h.kP,h.jJ,kz k h.ki h.jV,h.ki,kz k h.cpu h.m8,h.cpu,kz k h.jK h.qJ,h.jK,(AT,kz k h.jL k1,λp hp=>let(t,r,e,q):=k2 p hp;(t,r,e,k.1 _ _ q),k3),h.jL,by rw[fF];exact h.ql,Xd h nd ep eq aq (BD (h.opt i p0 q0 ep eq).2.2.2))
structure Txt(K:Fg)(T:TC):Prop where
 cH:q_ K T.hold
 cP:q_ K T.part
 cB:q_ K T.bot
 hpl:fY K T.hold "places"
 hab:fY K T.hold "aboard"
 has:fY K T.hold "ashore"
 hnm:fY K T.hold "names"
 y_:fY K T.hold "bottom"
 BF:fY K T.hold "common"
 DC:fY K T.hold "purses"
 UP:fY K T.part "name"
 pow:fY K T.part "owner"
 wM:fY K T.part "worth"
 UQ:fY K T.part "weight"
 Jf:fY K T.part "scale"
 Mw:fY K T.part "row"
 bst:fY K T.bot "steps"
 QW:fY K T.bot "product"
 UR:fY K T.bot "known"
structure Wf(st:HS):Prop where
 tE:st.own.Nodup
 Ad:st.nms.Nodup
 fP:(st.ah.map (·.nm)).Nodup
 sub:∀p∈st.ah,p.nm∈st.nms
 rows:∀p∈st.ah,p.row.length=st.own.length
 ow:∀p∈st.ah,p.ow∈st.own
 gk:st.bU.length=st.own.length
 oU:st.bN.length=st.own.length
 gq:1<=st.prod
 pS:st.prod=st.stp.foldl (·*·) 1
 u9:∀s∈st.stp,2<=s
 lR:st.own.length<=100
 Ae:st.nms.length<=1000
 rD:st.ah.length<=1000
 BG:st.stp.length<=100
 u_:st.bM.length<=1000
 Jg:st.kn<=1000000
 big:Jm.Sz 8000 st.prod
 qf:∀c∈st.bU,0<=c/\c<=st.prod
 rE:∀p∈st.ah,1<=p.sc/\p.sc<=st.prod
 oV:∀p∈st.ah,∀r∈p.row,-st.prod<=r/\r<=st.prod
 rF:∀p∈st.ah,∀t∈List.zipWith (λr c=>p.sc*r+c) p.row st.bU,0<=t/\t<=st.prod
 kj:∀p∈st.ah,1<=p.wo/\0<=p.we
 HB:∀u∈st.bN,Jm.Sz 9000 u
structure HH(T:TC)(n:Nat)(ρ:d8)(A:HA)(H:Hp)(st:HS):Prop where
 g:Gh ρ H
 h:aY T n ρ A H st
 wf:Wf st
def yh(T:TC)(n:Nat)(ρ:d8)(A:HA)(H:Hp)(st:HS)(Q:Hp->Prop):Prop:=∀ρ' A' H',HH T n ρ' A' H' st->A'.a=A.a->Fr n ρ H ρ' H'->Q H'
def hs0:HS:=([],[],[],[],[],1,0,[],[])
def wf0:Wf hs0:=by refine(x9,x9,x9,?_,?_,?_,Z,Z,?_,Z,?_,?_,?_,?_,?_,?_,?_,?_,?_,?_,?_,?_,?_,?_) <;> first|(intro _ h;exact absurd h (by simp[hs0]))|decide|(show Jm.Sz 8000 1;exact iN (by decide +kernel))
theorem QX:∀{l:Da Str}{i:Nat}{o:Str},o∈l->eE (gO i l) (Sum.inr o)=some (.int ((i+l.idxOf o:Nat):Int))
 | [],_,_,h=>by simp at h
 | x::l,i,o,h=>by
  by_cases e:x=o
  .subst e;rw[show gO i (x::l)=(Sum.inr x,.int i)::gO (i+1) l from rfl,iB rfl];simp
  .rw [show gO i (x::l)=(Sum.inr x,.int i)::gO (i+1) l from rfl,fM (by intro z;exact e (ua z))];have hm:o∈l:=by
    rcases dW.mp h with z|z
    .exact absurd z.symm e
    .exact z
   rw[QX hm];have eb:(x==o)=false:=by simpa using e
   have:(x::l).idxOf o=l.idxOf o+1:=by rw[List.idxOf_cons,eb];rfl
   rw[this];show some (V.int ((i+1+l.idxOf o:Nat):Int))=some (V.int ((i+(l.idxOf o+1):Nat):Int));rw[show i+1+l.idxOf o=i+(l.idxOf o+1)from by omega]
theorem rG:∀{l:Da Str}{i:Nat}{o:Str},o∉l->eE (gO i l) (Sum.inr o)=none
 | [],_,_,_=>rfl
 | x::l,i,o,h=>by rw[show gO i (x::l)=(Sum.inr x,.int i)::gO (i+1) l from rfl,fM (λz=>h (by rw[<-ua z];exact cO))];exact rG λm=>h (cR _ m)
theorem rH:∀(l:Da Str)(i:Nat),(gO i l).length=l.length
 | [],_=>rfl
 | _::l,i=>by rw[show ∀x,gO i (x::l)=(Sum.inr x,.int i)::gO (i+1) l from λ_=>rfl,ig,ig,rH l]
theorem Mx:∀(l:Da Str)(i:Nat)(o:Str),gO i (l++[o])=gO i l++[(Sum.inr o,.int ((i+l.length:Nat):Int))]
 | [],i,o=>rfl
 | x::l,i,o=>by
  show(Sum.inr x,V.int i)::gO (i+1) (l++[o])=_;rw[Mx l (i+1) o];show _=(Sum.inr x,V.int i)::(gO (i+1) l++_)
  rw[ig,show i+1+l.length=i+(l.length+1)from by omega]
theorem D3:∀(l:Da Str)(i:Nat),(gO i l).map (λp=>kV p.1)=l.map V.str
 | [],_=>rfl
 | x::l,i=>by show kV (Sum.inr x)::(gO (i+1) l).map _=V.str x::l.map V.str;rw[D3 l];rfl
variable {qs:Da (Addr×Addr×Addr)}
def vZ{ps:Da Pt}{q:Addr×Addr×Addr}(h1:ps[i]?=some p)(h2:qs[i]?=some q):(cY ps qs)[i]?=some (Sum.inr p.nm,.ref q.1):=by unfold cY;rw[R4,h1,h2]
def v5{ps:Da Pt}(h:qs.length=ps.length):(cY ps qs).length=ps.length:=by unfold cY;rw[kL,h,zY]
theorem v7:∀{ps:Da Pt}{qs:Da (Addr×Addr×Addr)}{i:Nat}{p:Pt}{q:Addr×Addr×Addr},(ps.map (·.nm)).Nodup->ps[i]?=some p->qs[i]?=some q->eE (cY ps qs) (Sum.inr p.nm)=some (.ref q.1)
 | [],_,_,_,_,_,h,_=>by simp at h
 | _::_,[],_,_,_,_,_,h=>by simp at h
 | a::ps,b::qs,0,p,q,_,h1,h2=>by
  have e1:a=p:=by simpa using h1
  have e2:b=q:=by simpa using h2
  subst e1 e2;exact iB rfl
 | a::ps,b::qs,i+1,p,q,nd,h1,h2=>by
  have nd':=iu.mp (show(a.nm::ps.map (·.nm)).Nodup from nd);have FD:ps[i]?=some p:=by simpa using h1
  rw[show cY (a::ps) (b::qs)=(Sum.inr a.nm,.ref b.1)::cY ps qs from rfl,fM (λz=>nd'.1 (bw.mpr (p,bg FD,(ua z).symm)))];exact v7 nd'.2 FD (by simpa using h2)
theorem wN:∀{ps:Da Pt}{qs:Da (Addr×Addr×Addr)}{x:Str},(∀p∈ps,p.nm≠x)->eE (cY ps qs) (Sum.inr x)=none
 | [],_,_,_=>rfl
 | _::_,[],_,_=>rfl
 | a::ps,b::qs,x,h=>by rw[show cY (a::ps) (b::qs)=(Sum.inr a.nm,.ref b.1)::cY ps qs from rfl,fM (λz=>h a cO (ua z))];exact wN λp hp=>h p (cR _ hp)
def Xe{ps:Da Pt}(h:qs.length=ps.length)(p:Pt)(q:Addr×Addr×Addr):cY (ps++[p]) (qs++[q])=cY ps qs++[(Sum.inr p.nm,.ref q.1)] :=by unfold cY;rw[List.zipWith_append h.symm];rfl
def BH{l:Da Str}(h:x∉l):eE (BC l) (Sum.inr x)=none:=by
 unfold BC
 induction l with
 | nil=>rfl
 | cons a l ih=>rw[bK,fM (λz=>h (by rw[<-ua z];exact cO))];exact ih λm=>h (cR _ m)
def My{l:Da Str}(h:x∈l):eE (BC l) (Sum.inr x)=some (.bl true):=by
 unfold BC
 induction l with
 | nil=>simp at h
 | cons a l ih=>
  rw[bK];by_cases e:a=x
  .exact iB (by rw[e])
  .rw [fM (λz=>e (ua z))];exact ih ((dW.mp h).resolve_left λz=>e z.symm)
def aY.find(h:aY T n ρ A H st)(e:st.ah[i]?=some p):∃q,A.qs[i]?=some q/\H q.1=some (.ins T.part q.2.1 (dB p q.2.2))/\H q.2.2=some (.lst (p.row.map V.int))/\ρ q.1=some (n,20,p.nm)/\ρ q.2.2=some (n,21,p.nm):=by have hi:i<A.qs.length:=h.ql▸(c_.mp e).1;exact(A.qs[i],a_ hi,h.opt i p _ e (a_ hi))
noncomputable def gW(st:HS)(o:Str):HS:={ st with own:=st.own++[o],bU:=st.bU++[0],bN:=st.bN++[0],ah:=st.ah.map λp=>{ p with row:=p.row++[0] } }
def aT(st:HS)(p:Pt):Da Int:=List.zipWith (λr c=>p.sc*r+c) p.row st.bU
def mQ(st:HS)(tops:Da Int):Da Int:=List.zipWith (λt c=>t-c) tops st.bU
noncomputable def Af(st:HS)(p:Pt):HS:={ st with ah:=st.ah++[p],nms:=st.nms++[p.nm] }
def yi(st:HS)(x o:Str)(wo we:Int):HS:=Af st (x,o,wo,we,1,mQ st ((List.replicate st.own.length 0).set (st.own.idxOf o) st.prod))
def aI(st:HS):Int:=(st.ah.map (·.wo)).sum
noncomputable def lD(st:HS)(p:Pt):Da (Str×Rat):=(List.zip st.own (aT st p)).filterMap λx=>if 0<x.2 then some (x.1,Jm.fr x.2 st.prod) else none
def CU(p:Pt):HO:=.tup [.str p.nm,.str p.ow,.int p.wo,.int p.we]
inductive kW(H:Hp):Da V->Da Pt->Prop
 | nil:kW H [] []
 | cons {r:Addr} {p:Pt} {vs:Da V} {ps:Da Pt}:H r=some (CU p)->kW H vs ps->kW H (.ref r::vs) (p::ps)
def Mz(n:Nat)(q1 q2:Addr)(ρ:d8)(H:Hp)(ρ':d8)(H':Hp):Prop:=∀b o,H b=some o->(∀t x,ρ b≠some (n,t,x))->b≠q1->b≠q2->H' b=some o/\ρ' b=ρ b
theorem Mz.trans{ρ1 ρ2:d8}(a:Mz n q1 q2 ρ H ρ1 H1)(b:Fr n ρ1 H1 ρ2 H2):Mz n q1 q2 ρ H ρ2 H2:=λc o h k x y=>by obtain⟨h1,e1⟩:=a c o h k x y;obtain⟨h2,e2⟩:=b c o h1 (e1▸k);exact(h2,e2.trans e1)
def Mz.fr{ρ1 ρ2:d8}(b:Mz n q1 q2 ρ1 H1 ρ2 H2)(a:Fr n ρ H ρ1 H1)(h1:H q1=none)(h2:H q2=none):Fr n ρ H ρ2 H2:=λc o h k=>by obtain⟨e1,e2⟩:=a c o h k;obtain⟨e3,e4⟩:=b c o e1 (e2▸k) (aJ h h1) (aJ h h2);exact(e3,e4.trans e2)
def isNm(o:Str):Bool:=isName o.cps.toList
inductive acz(T:TC)(vs:Da V)(H:Hp)(Q:VK)(E:XK):Prop
 |mk(p dx:_)(_:vs=[.ref p])(_:H p=some (.ins T.bot dx []))(_:∀sp kn H',H sp=none->H kn=none->sp≠kn->(∀b o,H b=some o->b≠p->H' b=some o)->H' p=some (.ins T.bot dx (Ac sp 1 kn))->H' sp=some (.lst [])->H' kn=some (.dK [])->Q .cK H')
def QY(T:TC):Sp:=bx (acz T)
inductive acA(T:TC)(K:Fg)(vs:Da V)(H:Hp)(Q:VK)(E:XK):Prop
 |mk(p dx l:Addr)(pt:Pt)(_:vs=[.ref p,.str pt.nm,.str pt.ow,.int pt.wo,.int pt.we,.int pt.sc,.ref l])(_:H p=some (.ins T.part dx []))(_:aC K H l (pt.row.map V.int))(_:∀r H',H r=none->(∀b o,H b=some o->b≠p->H' b=some o)->H' p=some (.ins T.part dx (dB pt r))->H' r=some (.lst (pt.row.map V.int))->Q .cK H')
def HC(T:TC)(K:Fg):Sp:=bx (acA T K)
inductive acB(T:TC)(vs:Da V)(H:Hp)(Q:VK)(E:XK):Prop
 |mk(p dx ρ n:_)(_:vs=[.ref p])(_:H p=some (.ins T.hold dx []))(_:Gh ρ H)(_:ρ p=none)(_:∀ρ' A H',A.a=p->HH T n ρ' A H' hs0->(∀b o,H b=some o->b≠p->H' b=some o/\ρ' b=ρ b)->Q .cK H')
def QZ(T:TC):Sp:=bx (acB T)
inductive acC(T:TC)(vs:Da V)(H:Hp)(Q:VK)(E:XK):Prop
 |mk(n ρ A st o:_)(_:vs=[.ref A.a,.str o])(_:aY T n ρ A H st)(_:o∈st.own)(_:Q (.int (st.own.idxOf o:Int)) H)
def zd(T:TC):Sp:=bx (acC T)
inductive Z1(T:TC)(vs:Da V)(H:Hp)(Q:VK)(E:XK):Prop
 |mk(n ρ A st:_)(i:Nat)(p:Pt)(q:Addr×Addr×Addr)(_:vs=[.ref A.a,.str p.nm])(_:aY T n ρ A H st)(_:(st.ah.map (·.nm)).Nodup)(_:st.ah[i]?=some p)(_:A.qs[i]?=some q)(_:Q (.ref q.1) H)
def D4(T:TC):Sp:=bx (Z1 T)
inductive US(T:TC)(vs:Da V)(H:Hp)(Q:VK)(E:XK):Prop
 |mk(n ρ A st x:_)(_:vs=[.ref A.a,.str x])(_:aY T n ρ A H st)(_:isNm x=true)(_:x∉st.nms)(_:∀H',aM H H'->Q .cK H')
def FE(T:TC):Sp:=bx (US T)
inductive ais(T:TC)(K:Fg)(vs:Da V)(H:Hp)(Q:VK)(E:XK):Prop
 |mk(n ρ A st l:_)(tops:Da Int)(_:vs=[.ref A.a,.ref l])(_:aY T n ρ A H st)(_:aC K H l (tops.map V.int))(_:tops.length=st.bU.length)(_:tops.length<=1000)(_:∀r H',aM H H'->H r=none->H' r=some (.lst ((mQ st tops).map V.int))->Q (.ref r) H')
def SN(T:TC)(K:Fg):Sp:=bx (ais T K)
inductive acD(T:TC)(vs:Da V)(H:Hp)(Q:VK)(E:XK):Prop
 |mk(n ρ A st:_)(i:Nat)(p:Pt)(q:Addr×Addr×Addr)(_:vs=[.ref A.a,.ref q.1])(_:aY T n ρ A H st)(_:Wf st)(_:st.ah[i]?=some p)(_:A.qs[i]?=some q)(_:∀r H',aM H H'->H r=none->H' r=some (.lst ((aT st p).map V.int))->Q (.ref r) H')
def CV(T:TC):Sp:=bx (acD T)
inductive afa(T:TC)(vs:Da V)(H:Hp)(Q:VK)(E:XK):Prop
 |mk(n ρ A st:_)(q:Addr×Addr×Addr)(p:Pt)(_:vs=[.ref A.a,.ref q.1])(_:HH T n ρ A H st)(_:H q.1=some (.ins T.part q.2.1 (dB p q.2.2)))(_:H q.2.2=some (.lst (p.row.map V.int)))(_:ρ q.1=none)(_:ρ q.2.2=none)(_:p.nm∉st.nms)(_:Wf (Af st p))(_:∀ρ' A' H',HH T n ρ' A' H' (Af st p:_)->A'.a=A.a->Mz n q.1 q.2.2 ρ H ρ' H'->Q .cK H')
def MA(T:TC):Sp:=bx (afa T)
inductive acE(T:TC)(vs:Da V)(H:Hp)(Q:VK)(E:XK):Prop
 |mk(n ρ A st o:_)(_:vs=[.ref A.a,.str o])(_:HH T n ρ A H st)(_:isNm o=true)(_:o∉st.own)(_:st.own.length<100)(_:yh T n ρ A H (gW st o:_) λH'=>Q .cK H')
def HD(T:TC):Sp:=bx (acE T)
inductive afb(T:TC)(vs:Da V)(H:Hp)(Q:VK)(E:XK):Prop
 |mk(n ρ A st x o wo we:_)(_:vs=[.ref A.a,.str x,.str o,.int wo,.int we])(_:HH T n ρ A H st)(_:isNm x=true)(_:x∉st.nms)(_:o∈st.own)(_:1<=wo)(_:0<=we)(_:st.nms.length<1000)(_:st.ah.length<1000)(_:yh T n ρ A H (yi st x o wo we:_) λH'=>Q .cK H')
def UT(T:TC):Sp:=bx (afb T)
inductive acF(T:TC)(vs:Da V)(H:Hp)(Q:VK)(E:XK):Prop
 |mk(n ρ A st:_)(_:vs=[.ref A.a])(_:aY T n ρ A H st)(_:st.ah.length<=1000)(_:∀r ws H',aM H H'->H r=none->H' r=some (.lst ws)->kW H' ws st.ah->Q (.ref r) H')
def Q0(T:TC):Sp:=bx (acF T)
inductive acG(T:TC)(vs:Da V)(H:Hp)(Q:VK)(E:XK):Prop
 |mk(n ρ A st:_)(_:vs=[.ref A.a])(_:aY T n ρ A H st)(_:st.ah.length<=1000)(_:∀H',aM H H'->Q (.int (aI st)) H')
def ze(T:TC):Sp:=bx (acG T)
inductive Z2(T:TC)(vs:Da V)(H:Hp)(Q:VK)(E:XK):Prop
 |mk(n ρ A st:_)(_:vs=[.ref A.a])(_:aY T n ρ A H st)(_:∀r,H r=none->Q (.ref r) (upd H r (.lst (st.own.map V.str))))
def MB(T:TC):Sp:=bx (Z2 T)
inductive acH(T:TC)(vs:Da V)(H:Hp)(Q:VK)(E:XK):Prop
 |mk(bt db sp kn:Addr)(stp:Da Int)(prod top:Int)(_:vs=[.ref bt,.int top])(_:H bt=some (.ins T.bot db (Ac sp prod kn)))(_:H sp=some (.lst (stp.map V.int)))(_:prod=stp.foldl (·*·) 1)(_:(∀s∈stp,2<=s))(_:Jm.Sz 8000 prod)(_:∀r H',aM H H'->H' r=some (oS (Jm.fr top prod))->Q (.ref r) H')
def CW(T:TC):Sp:=bx (acH T)
inductive Z3(T:TC)(vs:Da V)(H:Hp)(Q:VK)(E:XK):Prop
 |mk(bt db sp kn:Addr)(stp:Da Int)(prod top:Int)(AT:Da (Key×V))(_:vs=[.ref bt,.int top])(_:H bt=some (.ins T.bot db (Ac sp prod kn)))(_:H sp=some (.lst (stp.map V.int)))(_:prod=stp.foldl (·*·) 1)(_:(∀s∈stp,2<=s))(_:Jm.Sz 8000 prod)(_:H kn=some (.dK AT))(_:Mu H AT prod)(_:AT.length<10000000)(_:(AT.map (·.1)).Nodup)(_:∀r H' kvs',(∀b o,H b=some o->b≠kn->H' b=some o)->H' kn=some (.dK kvs')->Mu H' kvs' prod->kvs'.length<=AT.length+1->(kvs'.map (·.1)).Nodup->H' r=some (oS (Jm.fr top prod))->Q (.ref r) H')
def MC(T:TC):Sp:=bx (Z3 T)
inductive Xf(T:TC)(vs:Da V)(H:Hp)(Q:VK)(E:XK):Prop
 |mk(n ρ A st:_)(i:Nat)(p:Pt)(_:vs=[.ref A.a,.str p.nm])(_:HH T n ρ A H st)(_:st.ah[i]?=some p)(_:st.kn+100<=1000000)(_:∀r ws ρ' A' H',HH T n ρ' A' H' { st with kn:=st.kn+100 }->A'.a=A.a->Fr n ρ H ρ' H'->H r=none->H' r=some (.lst ws)->ρ' r=none->iY H' ws (lD st p:_)->Q (.ref r) H')
def Jh(T:TC):Sp:=bx (Xf T)
inductive rJ(ρ:d8)(H:Hp):Da V->Da iX->Prop
 | nil:rJ ρ H [] []
 | cons {r l:Addr} {x:iX} {ss:Da V} {vs:Da V} {as:Da iX}:H r=some (.tup [.str x.nm,.str x.ow,.int x.wo,.ref l])->H l=some (.lst ss)->ρ l=none->iY H ss x.sh->rJ ρ H vs as->rJ ρ H (.ref r::vs) (x::as)
inductive Z4(T:TC)(vs:Da V)(H:Hp)(Q:VK)(E:XK):Prop
 |mk(n ρ A st:_)(_:vs=[.ref A.a])(_:HH T n ρ A H st)(_:∀r ws H',aM H H'->H r=none->H' r=some (.lst ws)->rJ ρ H' ws st.bM->Q (.ref r) H')
def MD(T:TC):Sp:=bx (Z4 T)
def kW.mono{l:Da Pt}(h:kW H vs l)(g:∀b xs,H b=some (.tup xs)->H' b=some (.tup xs)):kW H' vs l:=by
 induction h with
 | nil=>exact .nil
 | cons a _ ih=>exact .cons (g _ _ a) ih
def kW.snoc{l:Da Pt}(h:kW H vs l)(e:H r=some (CU p)):kW H (vs++[.ref r]) (l++[p]):=by
 induction h with
 | nil=>exact .cons e .nil
 | cons a _ ih=>exact .cons a ih
def iY.snoc{l:Da (Str×Rat)}{q:Rat}(h:iY H vs l)(e:H r=some (.tup [.str x,.ref f]))(e2:H f=some (oS q)):iY H (vs++[.ref r]) (l++[(x,q)]):=by
 induction h with
 | nil=>exact .cons e e2 .nil
 | cons a b _ ih=>exact .cons a b ih
def jY{p:Addr}(h:H p=none\/∃u,H p=some u/\isTup u=false):∀b xs,H b=some (.tup xs)->upd H p o b=some (.tup xs):=λb xs e=>by
 rw[aA (λz=>?_)]
 .exact e
 .rw [z]at e;rcases h with h|⟨u,h,t⟩
  .rw [h]at e;cases e
  .rw [h]at e;cases e;cases t
theorem ME(h:isNm x=true):x.cps.toList.length<=100000:=by unfold isNm isName at h;have:=eO (nu.mp (nu.mp h).1).2;omega
def tF{o:Obj}(e:H d=some (.dK AT))(s:aM (upd H d (.fX o (.dK AT))) H1):aM H (upd H1 d (.dK AT)):=λb u q=>by
 by_cases h:b=d
 .rw [h,e]at q;cases q;rw[h];exact aq
 .rw [aA h];exact s b u (aA h▸q)
def fj{b:Addr}{o:Obj}{u:HO}(e:H d=some (.dK AT))(q:H b=some u)(h:∀k,u ≠ .dK k):upd H d (.fX o (.dK AT)) b=some u:=by rw[aA (λz=>by rw[z,e]at q;cases q;exact h _ rfl)];exact q
def qg{b:Addr}{o:Obj}(e:H d=some (.dK AT))(q:upd H d (.fX o (.dK AT)) b=none):H b=none:=by
 by_cases h:b=d
 .rw [h,aq]at q;cases q
 .rw [aA h]at q;exact q
def aM.tups(s:aM H H'):∀b xs,H b=some (.tup xs)->H' b=some (.tup xs):=λb xs h=>s b _ h
def take_snoc{α:Type}{l:Da α}{x:α}(h:l[i]?=some x):l.take (i+1)=l.take i++[x] :=by rw[List.take_add_one,h];rfl
theorem nv{α β γ:Type}(f:α->β->γ){xs:Da α}{ys:Da β}{x:α}{y:β}(h1:xs[i]?=some x)(h2:ys[i]?=some y):List.zipWith f (xs.take (i+1)) (ys.take (i+1))=List.zipWith f (xs.take i) (ys.take i)++[f x y] :=by have l1:=(c_.mp h1).1;have l2:=(c_.mp h2).1;rw[take_snoc h1,take_snoc h2,List.zipWith_append (by rw[kR,kR];omega)];rfl
def h_{v:V}(h:(l.map V.int)[i]?=some v):∃z,v =.int z/\l[i]?=some z:=by rw[bP]at h;obtain⟨z,hz,rfl⟩:=nt.mp h;exact(z,Z,hz)
theorem HH.mono(h:HH T n ρ A H st)(s:aM H H'):HH T n ρ A H' st:=(h.g.same s,h.h.mono s,h.wf)
def MF{u:HO}(c:ρ a=none)(h:H a=some u)(t:isTup u=false):Kp n ρ ρ H (upd H a o) ts:=(jY (.inr (u,h,t)),λb x y w _ hc e=>(by rw[aA (λz=>by rw[z,c]at hc;cases hc)];exact e,hc))
def HH.FF{u:HO}(h:HH T n ρ A H st)(c:ρ a=none)(e:H a=some u)(t:isTup u=false)(t2:isTup o=false):HH T n ρ A (upd H a o) st:=(h.g.wr t2,h.h.same (MF c e t),h.wf)
def Fr.new(f:Fr n ρ H ρ' H')(h:H a=none):Fr n ρ H ρ' (upd H' a o):=λb u e k=>by rw[aA (aJ e h)];exact f b u e k
def Ji{α β γ:Type}(f:α->β->γ){xs:Da α}{ys:Da β}(h:xs.length=ys.length)(x:α)(y:β):List.zipWith f (xs++[x]) (ys++[y])=List.zipWith f xs ys++[f x y] :=by rw[List.zipWith_append h];rfl
theorem HE(w:Wf st){o:Str}(h:o∉st.own)(hl:st.own.length<100):Wf (gW st o):=by
 have P:∀p∈(gW st o).ah,∃p0∈st.ah,p={ p0 with row:=p0.row++[0] }:=λp hp=>by obtain⟨p0,h0,rfl⟩:=bw.mp (show p∈st.ah.map _ from hp);exact(p0,h0,Z)
 have p1:=w.gq;refine(?_,w.Ad,?_,λp hp=>?_,λp hp=>?_,λp hp=>?_,?_,?_,w.gq,w.pS,w.u9,?_,w.Ae,?_,w.BG,w.u_,w.Jg,w.big,λc hc=>?_,λp hp=>?_,λp hp r hr=>?_,λp hp t ht=>?_,λp hp=>?_,λu hu=>?_)
 .exact nX w.tE h
 .show ((st.ah.map λp=>{ p with row:=p.row++[0] }).map (·.nm)).Nodup;rw[fH];exact w.fP
 .obtain ⟨p0,h0,rfl⟩:=P p hp;exact w.sub p0 h0
 .obtain ⟨p0,h0,rfl⟩:=P p hp;show(p0.row++[0]).length=(st.own++[o]).length;rw[c7,c7,w.rows p0 h0];rfl
 .obtain ⟨p0,h0,rfl⟩:=P p hp;exact DQ _ (w.ow p0 h0)
 .show (st.bU++[0]).length=(st.own++[o]).length;rw[c7,c7,w.gk];rfl
 .show (st.bN++[0]).length=(st.own++[o]).length;rw[c7,c7,w.oU];rfl
 .show (st.own++[o]).length<=100;rw[c7];exact hl
 .show (st.ah.map _).length<=1000;rw[aG];exact w.rD
 .rcases dN.mp (show c∈st.bU++[0]from hc)with z|z
  .exact w.qf c z
  .rw [dw.mp z];exact(eZ _,by show(0:Int)<=st.prod;omega)
 .obtain ⟨p0,h0,rfl⟩:=P p hp;exact w.rE p0 h0
 .obtain ⟨p0,h0,rfl⟩:=P p hp;rcases dN.mp (show r∈p0.row++[0]from hr)with z|z
  .exact w.oV p0 h0 r z
  .rw [dw.mp z];show -st.prod<=0/\0<=st.prod;omega
 .obtain ⟨p0,h0,rfl⟩:=P p hp;have el:p0.row.length=st.bU.length:=by rw[w.rows p0 h0,w.gk]
  have ht:t∈List.zipWith (λr c=>p0.sc*r+c) (p0.row++[0]) (st.bU++[0]):=ht;rw[Ji _ el _ _]at ht;rcases dN.mp ht with z|z
  .exact w.rF p0 h0 t z
  .rw [dw.mp z];show 0<=p0.sc*0+0/\p0.sc*0+0<=st.prod;omega
 .obtain ⟨p0,h0,rfl⟩:=P p hp;exact w.kj p0 h0
 .rcases dN.mp (show u∈st.bN++[0]from hu)with z|z
  .exact w.HB u z
  .rw [dw.mp z];exact iN (by decide +kernel)
def Q2(w:Wf st)(h1:p.nm∉st.nms)(h2:st.nms.length<1000)(h3:st.ah.length<1000)(h4:p.row.length=st.own.length)(h5:p.ow∈st.own)(h6:1<=p.sc/\p.sc<=st.prod)(h7:∀r∈p.row,-st.prod<=r/\r<=st.prod)(h8:∀t∈List.zipWith (λr c=>p.sc*r+c) p.row st.bU,0<=t/\t<=st.prod)(h9:1<=p.wo/\0<=p.we):Wf (Af st p):=by
 have P:∀{M:Pt->Prop},(∀x∈st.ah,M x)->M p->∀x∈st.ah++[p],M x:=λa b x hx=>by
  rcases dN.mp hx with z|z
  .exact a x z
  .rw [dw.mp z];exact b
 refine(w.tE,nX w.Ad h1,?_,P (λx hx=>DQ _ (w.sub x hx)) (kK _ (dw.mpr rfl)),P w.rows h4,P w.ow h5,w.gk,w.oU,w.gq,w.pS,w.u9,w.lR,?_,?_,w.BG,w.u_,w.Jg,w.big,w.qf,P w.rE h6,P w.oV h7,P w.rF h8,P w.kj h9,w.HB)
 . show((st.ah++[p]).map (·.nm)).Nodup
   rw[bQ]
   refine nX w.fP λm=>?_
   obtain⟨x,hx,e⟩:=bw.mp m
   have e:x.nm=p.nm:=e
   exact h1 (e▸w.sub x hx)
 . show(st.nms++[p.nm]).length<=1000
   rw[c7];exact h2
 . show(st.ah++[p]).length<=1000
   rw[c7];exact h3
theorem wO{α β γ:Type}{f:α->β->γ}{t:γ}:∀{xs:Da α}{ys:Da β},t∈List.zipWith f xs ys->∃x∈xs,∃y∈ys,t=f x y
 | [],_,h=>by simp at h
 | _::_,[],h=>by simp at h
 | x::xs,y::ys,h=>by
  rcases dW.mp (show t∈f x y::List.zipWith f xs ys from h)with e|m
  .exact (x,cO,y,cO,e)
  .obtain ⟨a,ha,b,hb,e⟩:=wO m;exact(a,cR _ ha,b,cR _ hb,e)
theorem D5:∀{ts cs:Da Int},List.zipWith (λr c=>1*r+c) (List.zipWith (λt c=>t-c) ts cs) cs=ts.take cs.length
 | [],_=>by simp
 | _::_,[]=>by simp
 | t::ts,c::cs=>by show(1*(t-c)+c)::List.zipWith _ (List.zipWith _ ts cs) cs=t::ts.take cs.length;rw[D5];congr 1;omega
def Ag{b t:Int}(h:t∈(List.replicate n 0).set i b):t=0\/t=b:=by
 rcases Lu h with z|z
 .exact .inl (Lv z)
 .exact .inr z
variable {wo we:Int}
theorem Q3(w:Wf st){o:Str}(h1:x∉st.nms)(h2:st.nms.length<1000)(h3:st.ah.length<1000)(ho:o∈st.own)(h4:1<=wo)(h5:0<=we):Wf (yi st x o wo we):=by
 have p1:=w.gq;refine Q2 w h1 h2 h3 ?_ ho (eZ 1,w.gq) (λr hr=>?_) (λt ht=>?_) (h4,h5)
 .show (List.zipWith _ ((List.replicate st.own.length 0).set _ _) st.bU).length=_;rw[kL,fF,jr,w.gk,zY]
 .obtain ⟨t,ht,c,hc,rfl⟩:=wO (show r∈List.zipWith _ _ st.bU from hr);have:=w.qf c hc;rcases Ag ht with rfl|rfl <;> omega
 .have e:List.zipWith (λr c=>1*r+c) (mQ st ((List.replicate st.own.length 0).set (st.own.idxOf o) st.prod)) st.bU=_:=D5;have ht:t∈List.zipWith (λr c=>1*r+c) (mQ st ((List.replicate st.own.length 0).set (st.own.idxOf o) st.prod)) st.bU:=ht;rw[e]at ht;rcases Ag (List.mem_of_mem_take ht)with rfl|rfl <;> omega
def lS{b:Addr}{u:HO}(h:a≠b):upd (upd H a o) b u=upd (upd H b u) a o:=by
 funext c;unfold upd;by_cases e1:c=b
 .rw [ay e1,av (λz=>h (z.symm.trans e1)),ay e1]
 .rw [av e1];by_cases e2:c=a
  .rw [ay e2,ay e2]
  .rw [av e2,av e2,av e1]
def Ah(h:H a=some o):upd H a o=H:=by
 funext c;unfold upd;by_cases e:c=a
 .rw [ay e,e,h]
 .rw [av e]
theorem MG{α:Type}(g:α->α){l:Da α}{p:α}(h:l[i]?=some p):((l.take i).map g++l.drop i)[i]?=some p:=by
 have hi:=(c_.mp h).1;have e:((l.take i).map g).length=i:=by rw[aG,kR];omega
 rw[zN (by omega),e,x_,List.getElem?_drop];exact h
theorem MH{α:Type}(g:α->α){l:Da α}{p:α}(h:l[i]?=some p):((l.take i).map g++l.drop i).set i (g p)=(l.take (i+1)).map g++l.drop (i+1):=by
 have hi:=(c_.mp h).1;have e:((l.take i).map g).length=i:=by rw[aG,kR];omega
 have ep:l[i]=p:=by rw[a_ hi]at h;exact gU h
 rw[List.set_append_right _ _ (by omega),e,x_,RW hi,LG,take_snoc h,bQ,LH];rfl
def tG{α β:Type}(g:α->α)(f:α->β)(hf:∀x,f (g x)=f x)(l:Da α)(i:Nat):((l.take i).map g++l.drop i).map f=l.map f:=by rw[bQ,fH,show f ∘ g=f from funext hf,<-bQ,List.take_append_drop]
def qK{ps ps':Da Pt}(h:ps.map (·.nm)=ps'.map (·.nm)):cY ps qs=cY ps' qs:=by
 have:∀{ps:Da Pt},cY ps qs=List.zipWith (λ(x:Str) q=>((Sum.inr x:Key),V.ref q.1)) (ps.map (·.nm)) qs:=λ{ps}=>by unfold cY;rw[List.zipWith_map_left]
 rw[this,this,h]
structure iO(p:Addr)(H:Hp)(ρ:d8)(H':Hp)(ρ':d8)(l:Da (Addr×HO×oN)):Prop where
 m:∀e∈l,H' e.1=some e.2.1/\ρ' e.1=some e.2.2/\e.1≠p
 k:∀b o,H b=some o->b≠p->H' b=some o/\ρ' b=ρ b
 g:Gh ρ' H'
 pp:∃u,H' p=some u
def iO.new{p:Addr}{l:Da (Addr×HO×oN)}{c:oN}(h:iO p H ρ H' ρ' l)(ha:H' a=none)(t:isTup o=false):iO p H ρ (upd H' a o) (b7 ρ' a c) ((a,o,c)::l):=by
 obtain⟨u,hu⟩:=h.pp;refine(λe he=>?_,λb w hb hp=>?_,(h.g.alloc ha).color aq t,u,aA (aJ hu ha)▸hu)
 .rcases dW.mp he with rfl|he
  .exact (aq,c6,λz=>by rw[show a=p from z,hu]at ha;cases ha)
  .obtain ⟨x,y,z⟩:=h.m e he;have:e.1≠a:=aJ x ha;rw[aA this,cg this];exact(x,y,z)
 .obtain ⟨x,y⟩:=h.k b w hb hp;have:b≠a:=aJ x ha;rw[aA this,cg this];exact(x,y)
theorem iO.wr{p:Addr}{l:Da (Addr×HO×oN)}{u:HO}(h:iO p H ρ H' ρ' l)(t:isTup u=false):iO p H ρ (upd H' p u) ρ' l:=by
 refine(λe he=>?_,λb w hb hp=>?_,h.g.wr t,u,aq)
 .obtain ⟨x,y,z⟩:=h.m e he;rw[aA z];exact(x,y,z)
 .obtain ⟨x,y⟩:=h.k b w hb hp;rw[aA hp];exact(x,y)
theorem iO.same{p:Addr}{FG:Hp}{l:Da (Addr×HO×oN)}(h:iO p H ρ H' ρ' l)(s:aM H' FG):iO p H ρ FG ρ' l:=by obtain⟨u,hu⟩:=h.pp;exact(λe he=>let(x,y,z):=h.m e he;(s _ _ x,y,z),λb w hb hp=>let(x,y):=h.k b w hb hp;(s _ _ x,y),h.g.same s,u,s _ _ hu)
def iO.add{p:Addr}{H0:Hp}{ρ0:d8}{l l0:Da (Addr×HO×oN)}{c:oN}(h:iO p H ρ H' ρ' l)(ha:H' a=some o)(t:isTup o=false)(h0:iO p H ρ H0 ρ0 l0)(hn:H0 a=none)(hl:∀e∈l,e.1≠a):iO p H ρ H' (b7 ρ' a c) ((a,o,c)::l):=by
 refine(λe he=>?_,λb w hb hp=>?_,h.g.color ha t,h.pp)
 .rcases dW.mp he with rfl|he
  .obtain ⟨u,hu⟩:=h0.pp;exact(ha,c6,λz=>by rw[show a=p from z,hu]at hn;cases hn)
  .obtain ⟨x,y,z⟩:=h.m e he;rw[cg (hl e he)];exact(x,y,z)
 .obtain ⟨x,y⟩:=h.k b w hb hp;obtain⟨x0,_⟩:=h0.k b w hb hp;rw[cg (aJ x0 hn)];exact(x,y)
theorem MI:∀(l:Da Int)(a:Int),l.foldl (·*·) a=a*l.foldl (·*·) 1
 | [],a=>by simp
 | s::l,a=>by rw[kT,MI l (a*s),kT,MI l (1*s),Int.one_mul,i7]
def HF(s:Int)(l:Da Int):(s::l).foldl (·*·) 1=s*l.foldl (·*·) 1:=by rw[kT,MI,Int.one_mul]
def Z5(s:Int)(l:Da Int):(l++[s]).foldl (·*·) 1=l.foldl (·*·) 1*s:=by rw[Ho];rfl
theorem MJ:∀{l:Da Int},(∀s∈l,2<=s)->1<=l.foldl (·*·) 1
 | [],_=>by decide
 | s::l,h=>by rw[HF];have h1:=h s cO;have h2:=MJ (l:=l) λx hx=>h x (cR _ hx);have:=Int.mul_le_mul (a:=1) (b:=1) (c:=s) (d:=l.foldl (·*·) 1) (by omega) h2 (by decide) (by omega);omega
theorem YG:∀{l:Da Int}{s:Int},(∀s∈l,2<=s)->s∈l->s<=l.foldl (·*·) 1
 | [],_,_,h=>by simp at h
 | a::l,s,h,m=>by
  rw[HF];have h1:=h a cO;have h2:=MJ (l:=l) λx hx=>h x (cR _ hx);rcases dW.mp m with rfl|m
  .have:=IM h2 (by omega:0<=s);omega
  .have h3:=YG (λx hx=>h x (cR _ hx)) m;have:=TJ (by omega:1<=a) (by omega:0<=l.foldl (·*·) 1);omega
theorem UU{t d s:Int}(hd:0<d)(hs:0<s)(c:Jm.cf t d=1):Jm.cf (t / Jm.cf t s) (d*(s / Jm.cf t s))=1/\0<d*(s / Jm.cf t s):=by
 have gp:0<Jm.cf t s:=Jm.E_ t s (.inr hs);obtain⟨u,hu⟩:=Jm.uf t s;obtain⟨v,hv⟩:=Jm.rm t s;generalize eg:Jm.cf t s=g at *;have e1:t / g=u:=by rw[hu,GZ _ (by omega)]
 have e2:s / g=v:=by rw[hv,GZ _ (by omega)]
 have vp:0<v:=by
  rcases EW 0 v with z|z
  .exact z
  .have:=IM z (by omega:0<=g);omega
 rw[e1,e2];have c0:Nat.Coprime t.natAbs d.natAbs:=by unfold Jm.cf at c;exact_mod_cast c
 have c1:Nat.Coprime u.natAbs d.natAbs:=Nat.Coprime.coprime_dvd_left (g.natAbs,by rw[hu,ER,Nat.mul_comm]) c0;have c2:Nat.Coprime u.natAbs v.natAbs:=by
  have hg:Int.gcd t s=g.natAbs:=by unfold Jm.cf at eg;omega
  have YH:Nat.gcd t.natAbs s.natAbs=g.natAbs:=hg;have:=Nat.coprime_div_gcd_div_gcd (m:=t.natAbs) (n:=s.natAbs) (by rw[YH];omega);rw[YH]at this;have gn:0<g.natAbs:=by omega
  rw[hu,hv,ER,ER,Nat.mul_div_cancel_left _ gn,Nat.mul_div_cancel_left _ gn]at this;exact this
 refine(?_,CG hd vp);have:=Nat.Coprime.mul_right c1 c2;rw[<-ER]at this;unfold Jm.cf;exact_mod_cast this
def Xg{κ:Type}[DecidableEq κ]{AT:Da (κ×V)}{k:κ}{v:V}(h:eE AT k=some v):(k,v)∈AT:=by unfold eE at h;obtain⟨p,hp,rfl⟩:=nt.mp h;have:=List.find?_some hp;have e:p.1=k:=eO this;rw[<-e];exact List.mem_of_find?_eq_some hp
def aY.Xh(h:aY T n ρ A H st)(k:∀b o,H b=some o->b≠A.kn->H' b=some o)(e1:H' A.kn=some (.dK AT))(e2:Mu H' AT st.prod)(e3:AT.length<=m)(e4:(AT.map (·.1)).Nodup):aY T n ρ A H' { st with kn:=m }:=by
 obtain⟨kv0,k0,_⟩:=h.okn;have z:=λ{b:Addr}{t:Nat}{x:Str}{o:HO}(u:t≠9)(c:ρ b=some (n,t,x))(e:H b=some o)=>k b o e (Fy c h.jL (λw=>by cases w;exact u rfl));have tp:∀b xs,H b=some (.tup xs)->H' b=some (.tup xs):=λb xs e=>k b _ e (jR e k0 (by intro w;cases w));obtain⟨vs,h1,h2⟩:=h.sS;have kp:Kp n ρ ρ H H' λt=>decide (t≠9):=(tp,λb t x o u c e=>(z (eO u) c e,c))
 exact(z (by decide) h.ca h.oa,h.ca,z (by decide) h.jw h.jj,h.jw,z (by decide) h.iw h.d9,h.iw,(vs,z (by decide) h.jH h1,h2.keep kp (by decide)),h.jH,z (by decide) h.jI h.uG,h.jI,z (by decide) h.jJ h.kP,h.jJ,z (by decide) h.ki h.jV,h.ki,z (by decide) h.cpu h.m8,h.cpu,z (by decide) h.jK h.qJ,h.jK,(AT,e1,e2,e3,e4),h.jL,h.ql,
  λi p q a b=>let(x,y,c,d):=h.opt i p q a b;(z (by decide) c x,z (by decide) d y,c,d))
def afc(w:Wf st)(h:m<=1000000):Wf { st with kn:=m }:=(w.tE,w.Ad,w.fP,w.sub,w.rows,w.ow,w.gk,w.oU,w.gq,w.pS,w.u9,w.lR,w.Ae,w.rD,w.BG,w.u_,h,w.big,w.qf,w.rE,w.oV,w.rF,w.kj,w.HB)
theorem m7.length{l:Da iX}(h:m7 n ρ H vs l):vs.length=l.length:=by
 induction h with
 | nil=>rfl
 | cons _ _ _ _ _ ih=>simp[ih]
def m7.get{l:Da iX}(h:m7 n ρ H vs l):∀{i:Nat}{x:V},vs[i]?=some x->∃r q y ss,x =.ref r/\l[i]?=some y/\H r=some (.tup [.str y.nm,.str y.ow,.int y.wo,.ref q])/\H q=some (.lst ss)/\ρ q=some (n,30,⟨#[]⟩)/\iY H ss y.sh:=by
 induction h with
 | nil=>intro i x e;simp at e
 | @cons r q y ss vs as a b c d _ ih=>
  intro i x e;cases i with
  | zero=>simp at e;subst e;exact(r,q,y,ss,Z,Z,a,b,c,d)
  | succ i=>simp at e;obtain⟨r',q',y',ss',e1,e2,e3⟩:=ih e;exact(r',q',y',ss',e1,by simpa using e2,e3)
inductive lT(a:Addr)(ρ:d8)(H:Hp):Da V->Da iX->Prop
 | nil:lT a ρ H [] []
 | cons {r l:Addr} {x:iX} {ss:Da V} {vs:Da V} {as:Da iX}:H r=some (.tup [.str x.nm,.str x.ow,.int x.wo,.ref l])->H l=some (.lst ss)->ρ l=none->l≠a->iY H ss x.sh->lT a ρ H vs as->lT a ρ H (.ref r::vs) (x::as)
def lT.to{l:Da iX}(h:lT a ρ H vs l):rJ ρ H vs l:=by
 induction h with
 | nil=>exact .nil
 | cons x y z _ w _ ih=>exact .cons x y z w ih
theorem lT.mono{l:Da iX}(h:lT a ρ H vs l)(g:aM H H'):lT a ρ H' vs l:=by
 induction h with
 | nil=>exact .nil
 | cons x y z n w _ ih=>exact .cons (g _ _ x) (g _ _ y) z n (w.mono g.tups) ih
theorem lT.upd{l:Da iX}(h:lT a ρ H vs l)(ha:H a=some (.lst xs)):lT a ρ (L2.upd H a (.lst ys)) vs l:=by
 induction h with
 | nil=>exact .nil
 | cons x y z n w _ ih=>exact .cons (jY (.inr (_,ha,Z)) _ _ x) (aA n▸y) z n (w.mono (jY (.inr (_,ha,Z)))) ih
def lT.snoc{as:Da iX}{l:Addr}{x:iX}(h:lT a ρ H vs as)(e1:H r=some (.tup [.str x.nm,.str x.ow,.int x.wo,.ref l]))(e2:H l=some (.lst ss))(e3:ρ l=none)(e5:l≠a)(e4:iY H ss x.sh):lT a ρ H (vs++[.ref r]) (as++[x]):=by
 induction h with
 | nil=>exact .cons e1 e2 e3 e5 e4 .nil
 | cons x y z n w _ ih=>exact .cons x y z n w ih
theorem rJ.length{l:Da iX}(h:rJ ρ H vs l):vs.length=l.length:=by
 induction h with
 | nil=>rfl
 | cons _ _ _ _ _ ih=>simp[ih]
def Sq(K:Fg)(H:Hp)(r:Addr)(xs:Da V):Prop:=aC K H r xs\/cU K H r xs
def aM.sq(g:aM H H')(h:Sq K H r xs):Sq K H' r xs:=h.elim (λz=> .inl (g.seq z)) λz=> .inr (g.tup z)
structure uH(K:Fg)(H:Hp)(us:Da V)(ps:Da Pt):Prop where
 len:us.length=ps.length
 at_:∀(i:Nat)(p:Pt),ps[i]?=some p->∃r xs,us[i]?=some (.ref r)/\Sq K H r xs/\xs[0]?=some (.str p.nm)/\xs[1]?=some (.str p.ow)/\xs[2]?=some (.int p.wo)/\xs[3]?=some (.int p.we)
def uH.mono{us:Da V}{ps:Da Pt}(h:uH K H us ps)(g:aM H H'):uH K H' us ps:=(h.len,λi p e=>let(r,xs,a,b,c):=h.at_ i p e;(r,xs,a,g.sq b,c))
def acI(ps:Da Pt):Prop:=∀p∈ps,PyData.strOk p.nm=true/\PyData.strOk p.ow=true
inductive UW(K:Fg)(vs:Da V)(H:Hp)(Q:VK)(E:XK):Prop
 |mk(r l:Addr)(ws us:Da V)(ps:Da Pt)(_:vs=[.ref r,.ref l])(_:H r=some (.lst ws))(_:kW H ws ps)(_:aC K H l us)(_:uH K H us ps)(_:acI ps)(_:ps.length<=1000)(_:∀H',aM H H'->Q (.bl true) H')
def FH(K:Fg):Sp:=bx (UW K)
noncomputable def dm(own:Da Str)(tops:Da Int)(b:Int):Da (Str×Rat):=(List.zip own tops).filterMap λx=>if 0<x.2 then some (x.1,Jm.fr x.2 b) else none
theorem kW.length{l:Da Pt}(h:kW H vs l):vs.length=l.length:=by
 induction h with
 | nil=>rfl
 | cons _ _ ih=>simp[ih]
def kW.get{l:Da Pt}(h:kW H vs l):∀{i:Nat}{p:Pt},l[i]?=some p->∃r,vs[i]?=some (.ref r)/\H r=some (CU p):=by
 induction h with
 | nil=>intro i p e;simp at e
 | @cons r q vs ps a _ ih=>
  intro i p e;cases i with
  | zero=>simp at e;subst e;exact(r,Z,a)
  | succ i=>simp at e;obtain⟨r',e1,e2⟩:=ih e;exact(r',by simpa using e1,e2)
theorem iY.length{l:Da (Str×Rat)}(h:iY H vs l):vs.length=l.length:=by
 induction h with
 | nil=>rfl
 | cons _ _ _ ih=>simp[ih]
def iY.get{l:Da (Str×Rat)}(h:iY H vs l):∀{i:Nat}{x:Str}{q:Rat},l[i]?=some (x,q)->∃r f,vs[i]?=some (.ref r)/\H r=some (.tup [.str x,.ref f])/\H f=some (oS q):=by
 induction h with
 | nil=>intro i x q e;simp at e
 | @cons r f x q vs l a b _ ih=>
  intro i y p e;cases i with
  | zero=>simp at e;obtain⟨rfl,rfl⟩:=e;exact(r,f,Z,a,b)
  | succ i=>simp at e;obtain⟨r',f',e1,e2⟩:=ih e;exact(r',f',by simpa using e1,e2)
def CY(p:Pt):PyData:=.tuple [.str p.nm,.str p.ow,.int p.wo,.int p.we]
def Q5(h:H r=some (CU p)):Dt K H (.ref r) (CY p):=.tup (cU.of h) (.cons (.str _) (.cons (.str _) (.cons (.int _) (.cons (.int _) .nil))))
def DE(h1:PyData.strOk p.nm=true)(h2:PyData.strOk p.ow=true):SeqAt.shaped (CY p)=true:=by unfold CY SeqAt.shaped;refine nu.mpr (?_,Z);simp[PyData.canLay0,PyData.canLayAll0,h1,h2]
def Xi(p:Pt):PyData.eqv (CY p) (CY p)=true:=by unfold CY;simp[PyData.eqv,PyData.eqvAll]
def Xj(x:Str):Prop:=rC x.cps.toList
def SQ:∀i:Fin 26,Fo "abcdefghijklmnopqrstuvwxyz" (97+i.val)=true:=by decide +kernel
theorem Xj.isNm(h:Xj x):L2.isNm x=true:=by unfold L2.isNm isName;have h1:=h.lo;have h2:=h.hi;refine nu.mpr (nu.mpr (bR (by omega),bR (by omega)),t_.mpr λc hc=>?_);have h3:=h.ZR c hc;have:=SQ (c-97,by omega);rw[show 97+(c-97)=c from by omega]at this;exact this
inductive acJ(T:TC)(K:Fg)(vs:Da V)(H:Hp)(Q:VK)(E:XK):Prop
 |mk(l:Addr)(own:Da Str)(n:Nat)(ρ:d8)(_:vs=[.ref l])(_:aC K H l (own.map V.str))(_:ρ l=none)(_:own.Nodup)(_:(∀o∈own,isNm o=true))(_:own.length<=100)(_:Gh ρ H)(_:∀ρ' A H',HH T n ρ' A H' (own.foldl gW hs0)->Fr n ρ H ρ' H'->Q (.ref A.a) H')
def Q6(T:TC)(K:Fg):Sp:=bx (acJ T K)
theorem uI:∀(l:Da Str)(st:HS),(l.foldl gW st).own=st.own++l
 | [],st=>by simp
 | o::l,st=>by rw[kT,uI l];show(st.own++[o])++l=_;rw[LH];rfl
def gK(K:Fg)(hK:X.K=K:=by rfl):AJ X (rIx K):=hK▸abJ
def Sq.ix{v:V}(h:Sq K H r xs)(e:xs[i]?=some v)(q:Q v H):rIx K (.ref r) (.int (i:Int)) H Q:=by
 rcases h with h|h
 .exact .inl (r,xs,i,v,Z,Z,h,aE e,q)
 .exact .inr (.inl (r,xs,i,v,Z,Z,h,aE e,q))
variable {own:Da Str}{tops:Da Int}
theorem J3{b:Int}(hb:0<b)(hz:Jm.Sz m b){q:Rat}(h:(x,q)∈dm own tops b):Jm.Sz m (q.den:Int):=by
 unfold dm at h;obtain⟨y,_,e⟩:=List.mem_filterMap.mp h;by_cases c:0<y.2
 .rw [ay c]at e;cases e;refine hz.of_le ?_;have:=Jm.Uu y.2 b hb;omega
 .rw [av c]at e;cases e
def Fr.at(f:Fr n ρ H ρ' H'){b:Addr}(e:H b=some o)(c:ρ b=none):H' b=some o/\ρ' b=none:=by obtain⟨a,d⟩:=f b o e (λt x=>by rw[c];intro z;cases z);exact(a,d.trans c)
def Fr.seq(f:Fr n ρ H ρ' H'){l:Addr}(h:aC K H l xs)(c:ρ l=none):aC K H' l xs:=by
 rcases h with(h|⟨o,h⟩)|h
 .exact .inl (.inl (f.at h c).1)
 .exact .inl (.inr (o,(f.at h c).1))
 .exact .inr h
def FI(qr:Da (Da Nat)):Da Str:=qr.map tx
def Z6(qr:Da (Da Nat)):wJ qr=(FI qr).map V.str:=by unfold wJ FI;rw[fH];rfl
def Jj(h:qr.Nodup):(FI qr).Nodup:=by unfold FI;exact List.Pairwise.map tx (λa b hab e=>hab (UG e)) h
def UX(h:∀x∈qr,rC x):∀o∈FI qr,Xj o:=λo ho=>by obtain⟨x,hx,rfl⟩:=bw.mp ho;show rC (tx x).cps.toList;rw[show(tx x).cps.toList=x from by simp];exact h x hx
def Q7(qr:Da (Da Nat)):(FI qr).length=qr.length:=by unfold FI;rw[aG]
theorem Ai{l:Da Str}{d:Int}(h0:0<=d)(h1:d<(l.length:Int)):∃(j:Nat)(o:Str),d=(j:Int)/\l[j]?=some o/\lz (l.map V.str) d=some (.str o):=by
 obtain⟨j,rfl⟩:∃j:Nat,d=(j:Int):=(d.toNat,by omega)
 have hj:j<l.length:=by omega
 exact(j,l[j],Z,a_ hj,aE (by rw[bP,a_ hj];rfl))
section
variable {T:TC}{n:Nat}{L H:Hp}{x lp:Addr}{st:HS}{ps:Da Pt}
end
def lE{α:Type}{l:Da α}(nd:l.Nodup){x:α}(h:l[i]?=some x):x∉l.take i:=λm=>by have h2:(l.take (i+1)).Nodup:=nd.sublist (List.take_sublist _ _);rw[take_snoc h]at h2;exact(List.nodup_append.mp h2).2.2 x m x (dw.mpr rfl) rfl
abbrev Row:=Str×Int
def yI(r:Row):HO:=.tup [.str r.1,.int r.2]
inductive gy(H:Hp):Da V->Da Row->Prop
 | nil:gy H [] []
 | cons {a:Addr} {r:Row} {vs:Da V} {rs:Da Row}:H a=some (yI r)->gy H vs rs->gy H (.ref a::vs) (r::rs)
def gy.mono{l:Da Row}(h:gy H vs l)(g:∀b xs,H b=some (.tup xs)->H' b=some (.tup xs)):gy H' vs l:=by
 induction h with
 | nil=>exact .nil
 | cons a _ ih=>exact .cons (g _ _ a) ih
theorem gy.length{l:Da Row}(h:gy H vs l):vs.length=l.length:=by
 induction h with
 | nil=>rfl
 | cons _ _ ih=>simp[ih]
def gy.get{l:Da Row}(h:gy H vs l):∀{i:Nat}{x:V},vs[i]?=some x->∃a r,x =.ref a/\l[i]?=some r/\H a=some (yI r):=by
 induction h with
 | nil=>intro i x e;simp at e
 | @cons a r vs rs e0 _ ih=>
  intro i x e;cases i with
  | zero=>simp at e;subst e;exact(a,r,Z,Z,e0)
  | succ i=>simp at e;obtain⟨a',r',e1,e2,e3⟩:=ih e;exact(a',r',e1,by simpa using e2,e3)
def gy.snoc{l:Da Row}{r:Row}(h:gy H vs l)(e:H a=some (yI r)):gy H (vs++[.ref a]) (l++[r]):=by
 induction h with
 | nil=>exact .cons e .nil
 | cons a _ ih=>exact .cons a ih
noncomputable def iZ(rs:Da Row):Da (Key×V):=rs.map λr=>((Sum.inr r.1:Key),V.int r.2)
def Aj(rs:Da Row):(iZ rs).length=rs.length:=by unfold iZ;rw[aG]
variable {rs:Da Row}
def Jk(h:x∉rs.map (·.1)):eE (iZ rs) (Sum.inr x)=none:=by
 unfold iZ
 induction rs with
 | nil=>rfl
 | cons a l ih=>rw[bK,fM (λz=>h (by rw[bK,<-ua z];exact cO))];exact ih λm=>h (bK▸cR _ m)
def bL(rs:Da Row):Int:=(rs.map (·.2)).sum
def cS(st:HS)(x:Str):Pt:=(st.ah.find? λp=>decide (p.nm=x)).getD (x,x,0,0,1,[])
def Q8(nd:(st.ah.map (·.nm)).Nodup)(h:st.ah[i]?=some p):cS st p.nm=p:=by
 unfold cS;have:st.ah.find? (λq=>decide (q.nm=p.nm))=some p:=by
  generalize st.ah=ps at *
  induction ps generalizing i with
  | nil=>simp at h
  | cons a ps ih=>
   obtain⟨h1,h2⟩:=iu.mp (show(a.nm::ps.map (·.nm)).Nodup from nd);cases i with
   | zero=>
    have:a=p:=by simpa using h
    subst this;rw[qU,bR rfl]
   | succ i=>
    have h':ps[i]?=some p:=by simpa using h
    rw[qU,dM (λe=>h1 (bw.mpr (p,bg h',e.symm)))];exact ih h2 h'
 rw[this];rfl
def kN(st:HS)(sums:Da Int)(r:Row):Da Int:=List.zipWith (λold own=>old+(r.2*(cS st r.1).sc)*own) sums (cS st r.1).row
def gC(st:HS)(rs:Da Row):Da Int:=rs.foldl (kN st) (st.bU.map λc=>bL rs*c)
def rK(s:Int)(ts:Da Int):Int:=ts.foldl (λs t=>Jm.cf t s) s
def jz(st:HS)(kept:Int):Da Int:=st.ah.map λp=>p.sc*kept
def gP(st:HS)(kept:Int)(jp:Da Int):Da Int:=List.zipWith (λt m=>t*kept+m) st.bU jp
def cE(st:HS)(kept whole:Int)(jp:Da Int):Int:=rK whole (jz st kept++gP st kept jp)
noncomputable def fV(st:HS)(s:Int):HS:=if 1<s then{ st with stp:=st.stp++[s],prod:=st.prod*s,kn:=0 } else st
noncomputable def bu(st:HS)(kept whole:Int)(jp:Da Int):HS:=fV { st with ah:=st.ah.map (λp=>{ p with sc:=p.sc*kept / cE st kept whole jp }),bU:=(gP st kept jp).map (· / cE st kept whole jp),bN:=st.bN.map (·*(whole / cE st kept whole jp)) } (whole / cE st kept whole jp)
noncomputable def ko(ps:Da Pt)(x:Str)(a:Int):Da Pt:=(ps.map λp=>if p.nm=x then{ p with wo:=p.wo-a } else p).filter λp=>decide (p.wo≠0)
def eL(st:HS)(r:Row):HS:={ st with ah:=ko st.ah r.1 r.2 }
def gX(st:HS)(rs:Da Row):HS:=rs.foldl eL (bu st (aI st-bL rs) (aI st) (gC st rs))
inductive ait(vs:Da V)(H:Hp)(Q:VK)(E:XK):Prop
 |mk(a:Int)(_:vs=[.int a])(_:1<=a)(_:Q .cK H)
def afd:Sp:=bx (ait)
inductive aiu(vs:Da V)(H:Hp)(Q:VK)(E:XK):Prop
 |mk(m a:Int)(_:vs=[.int m,.int a])(_:1<=a)(_:a<=m)(_:Q .cK H)
def YI:Sp:=bx (aiu)
inductive afe(K:Fg)(vs:Da V)(H:Hp)(Q:VK)(E:XK):Prop
 |mk(l:Addr)(us:Da V)(rs:Da Row)(_:vs=[.ref l])(_:aC K H l us)(_:gy H us rs)(_:(rs.map (·.1)).Nodup)(_:rs≠[])(_:rs.length<=1000)(_:∀d H',aM H H'->H d=none->H' d=some (.dK (iZ rs))->Q (.ref d) H')
def UY(K:Fg):Sp:=bx (afe K)
inductive afg(K:Fg)(vs:Da V)(H:Hp)(Q:VK)(E:XK):Prop
 |mk(s:Int)(l:Addr)(ts:Da Int)(_:vs=[.int s,.ref l])(_:aC K H l (ts.map V.int))(_:0<=s)(_:(∀t∈ts,0<=t))(_:Q (.int (rK s ts)) H)
def UZ(K:Fg):Sp:=bx (afg K)
inductive afh(T:TC)(vs:Da V)(H:Hp)(Q:VK)(E:XK):Prop
 |mk(n ρ A st s:_)(_:vs=[.ref A.bt,.int s])(_:Gh ρ H)(_:aY T n ρ A H st)(_:st.stp.length<=1000)(_:Jm.Sz 9000 st.prod)(_:Jm.Sz 9000 s)(_:∀ρ' A' H',Gh ρ' H'->aY T n ρ' A' H' (fV st s:_)->A'.a=A.a->Fr n ρ H ρ' H'->Q .cK H')
def U0(T:TC):Sp:=bx (afh T)
inductive acK(T:TC)(vs:Da V)(H:Hp)(Q:VK)(E:XK):Prop
 |mk(n ρ A st:_)(d:Addr)(rs:Da Row)(_:vs=[.ref A.a,.ref d])(_:aY T n ρ A H st)(_:Wf st)(_:H d=some (.dK (iZ rs)))(_:ρ d=none)(_:rs.length<=1000)(_:(∀r∈rs,Jm.Sz 60 r.2/\∃p∈st.ah,p.nm=r.1))(_:∀l H',aM H H'->H l=none->H' l=some (.lst ((gC st rs).map V.int))->Q (.ref l) H')
def Q9(T:TC):Sp:=bx (acK T)
inductive acL(T:TC)(K:Fg)(vs:Da V)(H:Hp)(Q:VK)(E:XK):Prop
 |mk(n ρ A st:_)(kept whole:Int)(l:Addr)(jp:Da Int)(_:vs=[.ref A.a,.int kept,.int whole,.ref l])(_:HH T n ρ A H st)(_:aC K H l (jp.map V.int))(_:jp.length=st.bU.length)(_:0<kept)(_:0<whole)(_:Jm.Sz 60 kept)(_:Jm.Sz 60 whole)(_:(∀m∈jp,0<=m/\Jm.Sz 8900 m))(_:(∀u∈st.bN,Jm.Sz 8900 u))(_:st.stp.length<100)(_:Wf (bu st kept whole jp))(_:yh T n ρ A H (bu st kept whole jp:_) λH'=>Q .cK H')
def HG(T:TC)(K:Fg):Sp:=bx (acL T K)
inductive afi(T:TC)(vs:Da V)(H:Hp)(Q:VK)(E:XK):Prop
 |mk(n ρ A st:_)(r:Row)(_:vs=[.ref A.a,.str r.1,.int r.2])(_:HH T n ρ A H st)(_:(∃p∈st.ah,p.nm=r.1/\r.2<=p.wo))(_:Wf (eL st r))(_:yh T n ρ A H (eL st r:_) λH'=>Q .cK H')
def MK(T:TC):Sp:=bx (afi T)
structure pC(st:HS)(rs:Da Row):Prop where
 nd:(rs.map (·.1)).Nodup
 ne:rs≠[]
 len:rs.length<=1000
 row:∀r∈rs,1<=r.2/\Jm.Sz 60 r.2/\∃p∈st.ah,p.nm=r.1/\r.2<=p.wo
 lost:bL rs<aI st
 big:Jm.Sz 60 (aI st)
 prod:Jm.Sz 7900 st.prod
 bN:∀u∈st.bN,Jm.Sz 8900 u
 stp:st.stp.length<100
inductive afj(T:TC)(K:Fg)(vs:Da V)(H:Hp)(Q:VK)(E:XK):Prop
 |mk(n ρ A st:_)(l:Addr)(us:Da V)(rs:Da Row)(_:vs=[.ref A.a,.ref l])(_:HH T n ρ A H st)(_:aC K H l us)(_:gy H us rs)(_:pC st rs)(_:yh T n ρ A H (gX st rs:_) λH'=>Q .cK H')
def U1(T:TC)(K:Fg):Sp:=bx (afj T K)
theorem D6:∀{ps:Da Pt}{qs:Da (Addr×Addr×Addr)}{i:Nat}{p:Pt},(ps.map (·.nm)).Nodup->qs.length=ps.length->ps[i]?=some p->nW (cY ps qs) (Sum.inr p.nm)=cY (ps.eraseIdx i) (qs.eraseIdx i)
 | [],_,_,_,_,_,h=>by simp at h
 | _::_,[],_,_,_,hl,_=>by simp at hl
 | a::ps,b::qs,0,p,nd,hl,h=>by
  have e:a=p:=by simpa using h
  subst e;obtain⟨h1,h2⟩:=iu.mp (show(a.nm::ps.map (·.nm)).Nodup from nd);show nW ((Sum.inr a.nm,V.ref b.1)::cY ps qs) (Sum.inr a.nm)=cY ps qs;unfold nW;rw[ir,av (by simp)];refine Bg.mpr λkv hkv=>?_;unfold cY at hkv;obtain⟨x,hx,y,hy,rfl⟩:=wO hkv;exact bR λz=>h1 (bw.mpr (x,hx,ua z))
 | a::ps,b::qs,i+1,p,nd,hl,h=>by
  obtain⟨h1,h2⟩:=iu.mp (show(a.nm::ps.map (·.nm)).Nodup from nd);have h':ps[i]?=some p:=by simpa using h
  have ih:=D6 h2 (by simpa using hl) h';show nW ((Sum.inr a.nm,V.ref b.1)::cY ps qs) (Sum.inr p.nm)=(Sum.inr a.nm,V.ref b.1)::cY (ps.eraseIdx i) (qs.eraseIdx i);rw[<-ih];unfold nW;have hne:¬ (Sum.inr a.nm:Key)=Sum.inr p.nm:=λz=>h1 (bw.mpr (p,bg h',(ua z).symm));rw[ir,ay (by simpa using λe:a.nm=p.nm=>hne (by rw[e]))]
theorem ML:∀{ps:Da Pt}{i:Nat}{p:Pt}{a:Int},(ps.map (·.nm)).Nodup->(∀q∈ps,q.wo≠0)->ps[i]?=some p->ko ps p.nm a=if p.wo-a=0 then ps.eraseIdx i else ps.set i { p with wo:=p.wo-a }
 | [],_,_,_,_,_,h=>by simp at h
 | x::ps,0,p,a,nd,hw,h=>by
  have e:x=p:=by simpa using h
  subst e;obtain⟨h1,h2⟩:=iu.mp (show(x.nm::ps.map (·.nm)).Nodup from nd);have Cl:ko ps x.nm a=ps:=by
   unfold ko;rw[show(ps.map λp=>if p.nm=x.nm then{ p with wo:=p.wo-a } else p)=ps from by
    conv=>rhs;rw[<-List.map_id ps]
    exact uT λy hy=>av λz=>h1 (bw.mpr (y,hy,z))]
   exact Bg.mpr λy hy=>bR (hw y (cR _ hy))
  show((x::ps).map λp=>if p.nm=x.nm then{ p with wo:=p.wo-a } else p).filter _=_;rw[bK,ay rfl,ir];by_cases c:x.wo-a=0
  .rw [ay c,av (by simp[c])];exact Cl
  .rw [av c,ay (by simpa using c)];show _::ko ps x.nm a=_;rw[Cl];rfl
 | x::ps,i+1,p,a,nd,hw,h=>by
  obtain⟨h1,h2⟩:=iu.mp (show(x.nm::ps.map (·.nm)).Nodup from nd);have h':ps[i]?=some p:=by simpa using h
  have ih:=ML (a:=a) h2 (λq hq=>hw q (cR _ hq)) h';have xn:¬ x.nm=p.nm:=λz=>h1 (bw.mpr (p,bg h',z.symm));show((x::ps).map λq=>if q.nm=p.nm then{ q with wo:=q.wo-a } else q).filter _=_;rw[bK,av xn,ir,ay (bR (hw x cO))];show x::ko ps p.nm a=_;rw[ih];by_cases c:p.wo-a=0
  .rw [ay c,ay c];rfl
  .rw [av c,av c];rfl
theorem ny{α:Type}:∀{l:Da α}{i:Nat}{x:α},l[i]?=some x->l.set i x=l
 | [],_,_,h=>by simp at h
 | a::l,0,x,h=>by
  have:a=x:=by simpa using h
  rw[this];rfl
 | a::l,i+1,x,h=>by rw[LF,ny (by simpa using h)]
def BI{α β:Type}{l:Da α}{m:Da β}{x:α}{y:β}(h1:(l.eraseIdx i)[j]?=some x)(h2:(m.eraseIdx i)[j]?=some y):∃k:Nat,l[k]?=some x/\m[k]?=some y:=by
 rw[List.getElem?_eraseIdx]at h1 h2;by_cases c:j<i
 .rw [ay c]at h1 h2;exact(j,h1,h2)
 .rw [av c]at h1 h2;exact(j+1,h1,h2)
theorem BJ:∀(ts:Da Int)(s:Int),rK s ts∣s/\∀t∈ts,rK s ts∣t
 | [],s=>(Int.dvd_refl _,λ_ h=>absurd h (by simp))
 | t::ts,s=>by
  obtain⟨h1,h2⟩:=BJ ts (Jm.cf t s);refine(Int.dvd_trans h1 (Jm.rm t s),λu hu=>?_);rcases dW.mp hu with rfl|hu
  .exact Int.dvd_trans h1 (Jm.uf u s)
  .exact h2 u hu
theorem BK:∀(ts:Da Int)(s:Int),0<s->0<rK s ts
 | [],_,h=>h
 | t::ts,s,h=>BK ts _ (Jm.E_ t s (.inr h))
def BL(h:aY T n ρ A H st)(g:Gh ρ H)(c:ρ a=none)(e:H a=some o)(ht:isTup o=false):aY T n (b7 ρ a (n,t,⟨#[]⟩)) A H st/\Gh (b7 ρ a (n,t,⟨#[]⟩)) H:=(h.same (λ_ _ e=>e,λb u x w _ hc he=>(he,by rw[cg (λz=>by rw[z,c]at hc;cases hc)];exact hc)),g.color e ht)
def Fr.jM(f:Fr n ρ H ρ' H')(h:H a=none):Fr n ρ H (b7 ρ' a (n,t,x)) H':=λb o e k=>by obtain⟨e1,e2⟩:=f b o e k;exact(e1,cg (aJ e h)▸e2)
theorem Jl{d a b:Int}(hd:0<d)(h:a<=d*b):a / d<=b:=by
 have:=Int.ediv_le_ediv hd h
 rwa [GZ _ (by omega)]at this
theorem vQ{s:Int}(h:1<=s):(fV st s).prod=st.prod*s:=by
 unfold fV;by_cases c:1<s
 .rw [ay c]
 .rw [av c,show s=1 by omega,pO]
def lN(st:HS)(s:Int):(fV st s).ah=st.ah:=by unfold fV;split <;> rfl
def Jo(st:HS)(s:Int):(fV st s).bU=st.bU:=by unfold fV;split <;> rfl
def yj(st:HS)(s:Int):(fV st s).bN=st.bN:=by unfold fV;split <;> rfl
def uJ(st:HS)(s:Int):(fV st s).own=st.own:=by unfold fV;split <;> rfl
def yk(st:HS)(s:Int):(fV st s).nms=st.nms:=by unfold fV;split <;> rfl
def yl(st:HS)(s:Int):(fV st s).bM=st.bM:=by unfold fV;split <;> rfl
theorem jx{α β γ:Type}{f:α->β->γ}{t:γ}:∀{xs:Da α}{ys:Da β},t∈List.zipWith f xs ys->∃(i:Nat)(x:α)(y:β),xs[i]?=some x/\ys[i]?=some y/\t=f x y:=λ{xs ys} h=>by
 obtain⟨i,hi,e⟩:=oQ h;rw[kL]at hi;have h1:i<xs.length:=by omega
 have h2:i<ys.length:=by omega
 exact(i,xs[i],ys[i],a_ h1,a_ h2,by rw[<-e,List.getElem_zipWith])
def Q_{α β γ:Type}{f:α->β->γ}{xs:Da α}{ys:Da β}{x:α}{y:β}(h1:xs[i]?=some x)(h2:ys[i]?=some y):(List.zipWith f xs ys)[i]?=some (f x y):=by rw[R4,h1,h2]
def D7{a b c:Int}(h:a<=b)(hc:0<=c):a*c<=b*c:=TJ h hc
structure oh(st:HS)(kept whole lost:Int)(jp:Da Int):Prop where
 k:0<kept
 l:0<=lost
 w:whole=kept+lost
 len:jp.length=st.bU.length
 add:∀m∈jp,0<=m/\m<=lost*st.prod
 prod:Jm.Sz 7900 st.prod
 big:Jm.Sz 60 whole
 bN:∀u∈st.bN,Jm.Sz 8900 u
 stp:st.stp.length<100
variable {lost:Int}{jp:Da Int}
theorem oh.dvds{kept whole:Int}(b:oh st kept whole lost jp):0<cE st kept whole jp/\cE st kept whole jp∣whole/\(∀p∈st.ah,cE st kept whole jp∣p.sc*kept)/\∀c∈gP st kept jp,cE st kept whole jp∣c:=by
 have hw:0<whole:=by have:=b.k;have:=b.l;have:=b.w;omega
 have d:=BJ (jz st kept++gP st kept jp) whole;exact(BK _ _ hw,d.1,λp hp=>d.2 _ (DQ _ (bw.mpr (p,hp,Z))),λc hc=>d.2 _ (kK _ hc))
theorem Ak{kept whole:Int}(wf:Wf st)(b:oh st kept whole lost jp):Wf (bu st kept whole jp):=by
 obtain⟨hs,hsw,wF,hsc⟩:=b.dvds;have hk:=b.k;have hl:=b.l;have hw:=b.w;have p1:=wf.gq;have eB:bu st kept whole jp=fV { st with ah:=st.ah.map (λp=>{ p with sc:=p.sc*kept / cE st kept whole jp }),bU:=(gP st kept jp).map (· / cE st kept whole jp),bN:=st.bN.map (·*(whole / cE st kept whole jp)) } (whole / cE st kept whole jp):=rfl;rw[eB];generalize cE st kept whole jp=d at *;obtain⟨s,es⟩:=hsw;have hs1:1<=s:=by
  rcases Int.lt_trichotomy s 0 with z|z|z
  .have:=Int.mul_neg_of_pos_of_neg hs z;omega
  .rw [z,Int.mul_zero]at es;omega
  .omega
 have ed:whole / d=s:=by rw[es,GZ _ (by omega)]
 rw[ed];have aly:s<=whole:=by rw[es];have:=TJ (show 1<=d by omega) (show 0<=s by omega);omega
 have zs:Jm.Sz 60 s:=b.big.of_le (by omega);have zp:Jm.Sz 8000 (st.prod*s):=(b.prod.mul zs).mono (by decide);have pp:st.prod<=st.prod*s:=by have:=IM hs1 (show 0<=st.prod by omega);omega
 have Xk:∀c∈(gP st kept jp).map (· / d),0<=c/\c<=st.prod*s:=λc hc=>by
  obtain⟨x,hx,rfl⟩:=bw.mp hc;obtain⟨i,t,m,et,em,rfl⟩:=jx (show x∈List.zipWith (λt m=>t*kept+m) st.bU jp from hx);have ht:=wf.qf t (bg et);have hm:=b.add m (bg em);have a1:0<=t*kept:=pM ht.1 (by omega);have a2:t*kept<=st.prod*kept:=D7 ht.2 (by omega);have a3:st.prod*kept+lost*st.prod=d*(st.prod*s):=by rw[mX lost,<-lP,<-hw,es,<-i7,<-i7,mX st.prod d]
  exact(Lf (by omega) (by omega),Jl hs (by omega))
 have sc':∀p∈st.ah,1<=p.sc*kept / d/\p.sc*kept / d<=st.prod*s/\d*(p.sc*kept / d)=p.sc*kept:=λp hp=>by
  have h0:=wf.rE p hp;obtain⟨z,ez⟩:=wF p hp;have a1:0<p.sc*kept:=CG (by omega) hk;have ez':p.sc*kept / d=z:=by rw[ez,GZ _ (by omega)]
  have hz:1<=z:=by
   rcases Int.lt_trichotomy z 0 with y|y|y
   .have:=Int.mul_neg_of_pos_of_neg hs y;omega
   .rw [y,Int.mul_zero]at ez;omega
   .omega
  have a2:p.sc*kept<=st.prod*kept:=D7 h0.2 (by omega);have a3:st.prod*kept<=st.prod*whole:=IM (by omega) (by omega);have a4:st.prod*whole=d*(st.prod*s):=by rw[es,<-i7,<-i7,mX st.prod d]
  refine(ez'▸hz,Jl hs (by omega),by rw[ez',ez])
 have P:∀{M:Pt->Prop},(∀p∈st.ah,M { p with sc:=p.sc*kept / d })->∀p∈st.ah.map (λp=>{ p with sc:=p.sc*kept / d }),M p:=λh p hp=>by obtain⟨x,hx,rfl⟩:=bw.mp hp;exact h x hx
 have top':∀p∈st.ah,∀t∈List.zipWith (λr c=>(p.sc*kept / d)*r+c) p.row ((gP st kept jp).map (· / d)),0<=t/\t<=st.prod*s:=λp hp t ht=>by
  obtain⟨i,r,c,er,ec,rfl⟩:=jx ht;rw[bP]at ec;obtain⟨x,ex,rfl⟩:=nt.mp ec;obtain⟨y,ey⟩:=hsc x (bg ex);have eyd:x / d=y:=by rw[ey,GZ _ (by omega)]
  have ex':(List.zipWith (λt m=>t*kept+m) st.bU jp)[i]?=some x:=ex;rw[R4]at ex';cases e1:st.bU[i]? with
  | none=>rw[e1]at ex';simp at ex'
  | some t0=>
   cases e2:jp[i]? with
   | none=>rw[e1,e2]at ex';simp at ex'
   | some m=>
    rw[e1,e2]at ex';have ex2:t0*kept+m=x:=by simpa using ex'
    have hm:=b.add m (bg e2);have hT:=wf.rF p hp (p.sc*r+t0) (bg (Q_ (f:=λr c=>p.sc*r+c) er e1));have hz:=(sc' p hp).2.2;have key:d*((p.sc*kept / d)*r+x / d)=(p.sc*r+t0)*kept+m:=by rw[lP,<-i7,hz,eyd,<-ey,<-ex2];rw[pQ,i7,i7,mX kept r];omega
    have k1:0<=(p.sc*r+t0)*kept:=pM hT.1 (by omega);have k2:(p.sc*r+t0)*kept<=st.prod*kept:=D7 hT.2 (by omega);have a3:st.prod*kept+lost*st.prod=d*(st.prod*s):=by rw[mX lost,<-lP,<-hw,es,<-i7,<-i7,mX st.prod d]
    generalize (p.sc*kept / d)*r+x / d=W at *;constructor
    .rcases EW W 0 with z|z
     .have:=Int.mul_neg_of_pos_of_neg hs z;omega
     .exact z
    .have:d*W<=d*(st.prod*s):=by omega
     exact Int.le_of_mul_le_mul_left this hs
 have nm':(st.ah.map (λp:Pt=>{ p with sc:=p.sc*kept / d })).map (λp:Pt=>p.nm)=st.ah.map (λp:Pt=>p.nm):=by rw[fH];rfl
 have e0:(gP st kept jp).length=st.bU.length:=by unfold gP;rw[kL,b.len];omega
 have pu':∀u∈st.bN.map (·*s),Jm.Sz 9000 u:=λu hu=>by obtain⟨x,hx,rfl⟩:=bw.mp hu;exact((b.bN x hx).mul zs).mono (by decide)
 have acM:∀p∈st.ah,∀r∈p.row,-(st.prod*s)<=r/\r<=st.prod*s:=λp hp r hr=>by have:=wf.oV p hp r hr;omega
 unfold fV;by_cases c:1<s
 .rw [ay c];refine(wf.tE,wf.Ad,nm'▸wf.fP,P wf.sub,P wf.rows,P wf.ow,?_,?_,by show 1<=st.prod*s;omega,?_,λx hx=>?_,wf.lR,wf.Ae,?_,?_,wf.u_,gE _,zp,Xk,P λp hp=>((sc' p hp).1,(sc' p hp).2.1),P acM,P top',P wf.kj,pu')
  .show (List.map _ (gP st kept jp)).length=_;rw[aG,e0,wf.gk]
  .show (List.map _ st.bN).length=_;rw[aG,wf.oU]
  .show st.prod*s=(st.stp++[s]).foldl (·*·) 1;rw[Z5,<-wf.pS]
  .rcases dN.mp (show x∈st.stp++[s]from hx)with z|z
   .exact wf.u9 x z
   .rw [dw.mp z];omega
  .show (List.map _ st.ah).length<=1000;rw[aG];exact wf.rD
  .show (st.stp++[s]).length<=100;rw[c7];exact b.stp
 .rw [av c];have e1:s=1:=by omega
  subst e1;rw[pO]at Xk sc' acM top';refine(wf.tE,wf.Ad,nm'▸wf.fP,P wf.sub,P wf.rows,P wf.ow,?_,?_,wf.gq,wf.pS,wf.u9,wf.lR,wf.Ae,?_,wf.BG,wf.u_,wf.Jg,wf.big,Xk,P λp hp=>((sc' p hp).1,(sc' p hp).2.1),P wf.oV,P λp hp t ht=>?_,P wf.kj,pu')
  .show (List.map _ (gP st kept jp)).length=_;rw[aG,e0,wf.gk]
  .show (List.map _ st.bN).length=_;rw[aG,wf.oU]
  .show (List.map _ st.ah).length<=1000;rw[aG];exact wf.rD
  .exact top' p hp t ht
def vR(st:HS)(Ap:Da Int)(rs:Da Row):Da Int:=rs.foldl (λs r=>List.zipWith (λx t=>x+r.2*t) s (aT st (cS st r.1))) Ap
theorem Jp:∀(Ap bU row:Da Int)(a sc L:Int),List.zipWith (λold own=>old+(a*sc)*own) (List.zipWith (λs c=>s+(a+L)*c) Ap bU) row=List.zipWith (λs c=>s+L*c) (List.zipWith (λx t=>x+a*t) Ap (List.zipWith (λr c=>sc*r+c) row bU)) bU
 | [],_,_,_,_,_=>by simp
 | _::_,[],_,_,_,_=>by simp
 | _::_,_::_,[],_,_,_=>by simp
 | x::Ap,c::bU,r::row,a,sc,L=>by
  simp only[uS];rw[Jp Ap bU row a sc L];congr 1
  grind
theorem MM{st:HS}:∀(rs:Da Row)(Ap:Da Int),rs.foldl (kN st) (List.zipWith (λs c=>s+bL rs*c) Ap st.bU)=List.zipWith (λs c=>s+0*c) (vR st Ap rs) st.bU
 | [],Ap=>by show List.zipWith _ Ap st.bU=_;rfl
 | r::rs,Ap=>by
  rw[kT];have e:kN st (List.zipWith (λs c=>s+bL (r::rs)*c) Ap st.bU) r=List.zipWith (λs c=>s+bL rs*c) (List.zipWith (λx t=>x+r.2*t) Ap (aT st (cS st r.1))) st.bU:=by unfold kN;rw[show bL (r::rs)=r.2+bL rs from by unfold bL;rw[bK,cI]];exact Jp Ap st.bU (cS st r.1).row r.2 (cS st r.1).sc (bL rs)
  rw[e,MM rs];rfl
theorem Jq:∀(l:Da Int)(L:Int),List.zipWith (λs c=>s+L*c) (List.replicate l.length 0) l=l.map λc=>L*c
 | [],_=>rfl
 | x::l,L=>by rw[ig,zP,uS,Jq l L,ya];rfl
theorem MN:∀(s l:Da Int),s.length<=l.length->List.zipWith (λs c=>s+0*c) s l=s
 | [],_,_=>by simp
 | _::_,[],h=>by simp at h
 | x::s,c::l,h=>by rw[uS,MN s l (by simpa using h),pN,Int.add_zero]
theorem BN{st:HS}:∀(rs:Da Row)(Ap:Da Int),(∀r∈rs,(aT st (cS st r.1)).length=Ap.length)->(vR st Ap rs).length=Ap.length
 | [],_,_=>rfl
 | r::rs,Ap,h=>by
  have e:(List.zipWith (λx t=>x+r.2*t) Ap (aT st (cS st r.1))).length=Ap.length:=by rw[kL,h r cO];omega
  show(vR st (List.zipWith (λx t=>x+r.2*t) Ap (aT st (cS st r.1))) rs).length=_;rw[BN rs _ (λx hx=>e▸h x (cR _ hx)),e]
theorem DF{st:HS}(hP:0<=st.prod):∀(rs:Da Row)(Ap:Da Int)(B:Int),(∀r∈rs,0<=r.2/\∀t∈aT st (cS st r.1),0<=t/\t<=st.prod)->(∀x∈Ap,0<=x/\x<=B)->∀x∈vR st Ap rs,0<=x/\x<=B+bL rs*st.prod
 | [],Ap,B,_,ha,x,hx=>by have:=ha x hx;show 0<=x/\x<=B+0*st.prod;omega
 | r::rs,Ap,B,h,ha,x,hx=>by
  have hr:=h r cO;have:=DF hP rs (List.zipWith (λx t=>x+r.2*t) Ap (aT st (cS st r.1))) (B+r.2*st.prod) (λy hy=>h y (cR _ hy)) (λy hy=>by obtain⟨i,a,t,ea,et,rfl⟩:=jx hy;have h1:=ha a (bg ea);have h2:=hr.2 t (bg et);have h3:0<=r.2*t:=pM hr.1 h2.1;have h4:r.2*t<=r.2*st.prod:=IM h2.2 hr.1;omega) x hx
  rw[show bL (r::rs)=r.2+bL rs from by unfold bL;rw[bK,cI],pQ];omega
theorem tH(wf:Wf st)(h:p∈st.ah):(aT st p).length=st.bU.length:=by unfold aT;rw[kL,wf.rows p h,wf.gk];omega
def dR(wf:Wf st)(h:p∈st.ah)(e:p.nm=x):cS st x=p:=by obtain⟨i,hi,ei⟩:=oQ h;rw[<-e];exact Q8 wf.fP (i:=i) (by rw[a_ hi,ei])
def BO(wf:Wf st)(h:∀r∈rs,∃p∈st.ah,p.nm=r.1):gC st rs=vR st (List.replicate st.bU.length 0) rs:=by
 unfold gC;rw[<-Jq st.bU (bL rs),MM];refine MN _ _ ?_;rw[BN rs _ (λr hr=>by obtain⟨p,hp,e⟩:=h r hr;rw[dR wf hp e,jr,tH wf hp]),jr]
 exact aO _
theorem U3(wf:Wf st)(h:∀r∈rs,1<=r.2/\∃p∈st.ah,p.nm=r.1):(gC st rs).length=st.bU.length/\∀m∈gC st rs,0<=m/\m<=bL rs*st.prod:=by
 rw[BO wf (λr hr=>(h r hr).2)];have p1:=wf.gq;constructor
 .rw [BN rs _ (λr hr=>by obtain⟨p,hp,e⟩:=(h r hr).2;rw[dR wf hp e,jr,tH wf hp]),jr]
 .intro m hm;have:=DF (st:=st) (by omega) rs (List.replicate st.bU.length 0) 0 (λr hr=>by obtain⟨h1,p,hp,e⟩:=h r hr;refine(by omega,?_);rw[dR wf hp e];exact wf.rF p hp) (λx hx=>by rw[(List.mem_replicate.mp hx).2];omega) m hm
  omega
def SR{ps:Da Pt}{a:Int}(h:p∈ps)(hn:p.nm≠x)(hw:p.wo≠0):p∈ko ps x a:=iU.mpr (bw.mpr (p,h,by rw[av hn]),bR hw)
def tK{ps:Da Pt}{a:Int}(h:p∈ko ps x a):p.wo≠0/\∃q∈ps,p=if q.nm=x then{ q with wo:=q.wo-a } else q:=by obtain⟨h1,h2⟩:=iU.mp h;obtain⟨q,hq,e⟩:=bw.mp h1;exact(eO h2,q,hq,e.symm)
def vS{ps:Da Pt}{a:Int}:((ko ps x a).map (λp:Pt=>p.nm)).Sublist (ps.map (λp:Pt=>p.nm)):=by
 unfold ko;have e:(ps.map λp=>if p.nm=x then{ p with wo:=p.wo-a } else p).map (λp:Pt=>p.nm)=ps.map (λp:Pt=>p.nm):=by rw[fH];exact uT λp _=>by show(if p.nm=x then _ else p:Pt).nm=p.nm;split <;> rfl
 rw[<-e];exact LC.map _
theorem HJ(wf:Wf st){r:Row}(h:∀p∈st.ah,p.nm=r.1->r.2<=p.wo):Wf (eL st r):=by
 have P:∀{M:Pt->Prop},(∀p∈st.ah,M p)->(∀(p:Pt)(w:Int),M p->M { p with wo:=w })->∀p∈ko st.ah r.1 r.2,M p:=λh1 h2 p hp=>by
  obtain⟨_,q,hq,e⟩:=tK hp;rw[e];split
  .exact h2 _ _ (h1 q hq)
  .exact h1 q hq
 refine(wf.tE,wf.Ad,wf.fP.sublist vS,P wf.sub (λ_ _ z=>z),P wf.rows (λ_ _ z=>z),P wf.ow (λ_ _ z=>z),wf.gk,wf.oU,wf.gq,wf.pS,wf.u9,wf.lR,wf.Ae,?_,wf.BG,wf.u_,wf.Jg,wf.big,wf.qf,P wf.rE (λ_ _ z=>z),P wf.oV (λ_ _ z=>z),P wf.rF (λ_ _ z=>z),λp hp=>?_,wf.HB)
 .have:=vS (ps:=st.ah) (x:=r.1) (a:=r.2) |>.length_le;rw[aG,aG]at this;exact fG this wf.rD
 .obtain ⟨h0,q,hq,e⟩:=tK hp;have:=wf.kj q hq;by_cases c:q.nm=r.1
  .rw [ay c]at e;subst e;have:=h q hq c;have h0:q.wo-r.2≠0:=h0;exact(by show 1<=q.wo-r.2;omega,by show 0<=q.we;omega)
  .rw [av c]at e;rw[e];exact this
def Due(st:HS)(rs:Da Row):Prop:=∀r∈rs,∃p∈st.ah,p.nm=r.1/\r.2<=p.wo
def oj(wf:Wf st){q:Pt}(hp:p∈st.ah)(hq:q∈st.ah)(e:p.nm=q.nm):p=q:=(dR wf hp rfl).symm.trans (e▸dR wf hq rfl)
def U4(wf:Wf st){r:Row}(d:Due st (r::rs)):Wf (eL st r):=by obtain⟨p,hp,e,hle⟩:=d r cO;exact HJ wf λq hq eq=>oj wf hq hp (eq.trans e.symm)▸hle
theorem MO(wf:Wf st){r:Row}(d:Due st (r::rs))(nd:((r::rs).map (λr:Row=>r.1)).Nodup):Due (eL st r) rs:=λx hx=>by obtain⟨p,hp,e,hle⟩:=d x (cR _ hx);have hn:p.nm≠r.1:=λz=>(iu.mp nd).1 (bw.mpr (x,hx,e.symm.trans z));have:=wf.kj p hp;exact(p,SR hp hn (by omega),e,hle)
theorem MP:∀{rs:Da Row}{st:HS},Wf st->Due st rs->(rs.map (λr:Row=>r.1)).Nodup->Wf (rs.foldl eL st)
 | [],_,wf,_,_=>wf
 | r::rs,st,wf,d,nd=>show Wf (rs.foldl eL (eL st r))from MP (U4 wf d) (MO wf d nd) (iu.mp nd).2
def Jr{kept whole:Int}(d:Due st rs):Due (bu st kept whole jp) rs:=λr hr=>by obtain⟨p,hp,e,hle⟩:=d r hr;refine({ p with sc:=p.sc*kept / cE st kept whole jp },?_,e,hle);unfold bu;rw[lN];exact bw.mpr (p,hp,Z)
def pC.due(c:pC st rs):Due st rs:=λr hr=>(c.row r hr).2.2
theorem D8:∀{rs:Da Row},(∀r∈rs,1<=r.2)->0<=bL rs
 | [],_=>eZ _
 | r::rs,h=>by have:=h r cO;have:=D8 (rs:=rs) λx hx=>h x (cR _ hx);rw[show bL (r::rs)=r.2+bL rs from by unfold bL;rw[bK,cI]];omega
theorem pC.blend(wf:Wf st)(c:pC st rs):oh st (aI st-bL rs) (aI st) (bL rs) (gC st rs):=by have g:=U3 wf (rs:=rs) (λr hr=>((c.row r hr).1,by obtain⟨p,hp,e,_⟩:=(c.row r hr).2.2;exact(p,hp,e)));have l0:=D8 (rs:=rs) λr hr=>(c.row r hr).1;have:=c.lost;exact(by omega,l0,by omega,g.1,g.2,c.prod,c.big,c.bN,c.stp)
def Z7(wf:Wf st)(c:pC st rs):Wf (gX st rs):=MP (Ak wf (c.blend wf)) (Jr c.due) c.nd
structure BP where
 nm:Str
 ow:Str
 wo:Int
 we:Int
 tops:Da Int
structure BE where
 nm:Str
 ow:Str
 wo:Int
 tops:Da Int
 bot:Int
structure BS where
 own:Da Str
 ah:Da BP
 bot:Int
 bM:Da BE
 eF:Da Str
structure BA where
 m:Addr
 lo:Addr
 lp:Addr
 la:Addr
 lk:Addr
 qs:Da (Addr×Addr)
noncomputable def fu(B:BA)(bot:Int):Da (Key×V):=[(Sum.inr "owners",.ref B.lo),(Sum.inr "parts",.ref B.lp),(Sum.inr "bottom",.int bot),(Sum.inr "ashore",.ref B.la),(Sum.inr "known",.ref B.lk)]
def jy(p:BP)(t:Addr):HO:=.lst [.str p.nm,.str p.ow,.int p.wo,.int p.we,.ref t]
inductive qh(n:Nat)(ρ:d8)(H:Hp):Da V->Da BE->Prop
 | nil:qh n ρ H [] []
 | cons {r t:Addr} {e:BE} {vs:Da V} {es:Da BE}:H r=some (.lst [.str e.nm,.str e.ow,.int e.wo,.ref t,.int e.bot])->ρ r=some (n,27,e.nm)->H t=some (.lst (e.tops.map V.int))->ρ t=some (n,28,e.nm)->qh n ρ H vs es->qh n ρ H (.ref r::vs) (e::es)
structure bf(n:Nat)(ρ:d8)(B:BA)(H:Hp)(b:BS):Prop where
 om:H B.m=some (.dK (fu B b.bot))
 cm:ρ B.m=some (n,20,⟨#[]⟩)
 oo:H B.lo=some (.lst (b.own.map V.str))
 co:ρ B.lo=some (n,21,⟨#[]⟩)
 op:H B.lp=some (.lst (B.qs.map λq=>V.ref q.1))
 cp:ρ B.lp=some (n,22,⟨#[]⟩)
 oa:∃vs,H B.la=some (.lst vs)/\qh n ρ H vs b.bM
 ca:ρ B.la=some (n,25,⟨#[]⟩)
 ok:H B.lk=some (.lst (b.eF.map V.str))
 ck:ρ B.lk=some (n,26,⟨#[]⟩)
 ql:B.qs.length=b.ah.length
 pt:∀(i:Nat)(p:BP)(q:Addr×Addr),b.ah[i]?=some p->B.qs[i]?=some q->H q.1=some (jy p q.2)/\H q.2=some (.lst (p.tops.map V.int))/\ρ q.1=some (n,23,p.nm)/\ρ q.2=some (n,24,p.nm)
def qh.keep{l:Da BE}(h:qh n ρ H vs l)(k:Kp n ρ ρ' H H' ts)(e1:ts 27=true)(e2:ts 28=true):qh n ρ' H' vs l:=by
 induction h with
 | nil=>exact .nil
 | cons a b c d _ ih=>exact .cons (k.2 _ _ _ _ e1 b a).1 (k.2 _ _ _ _ e1 b a).2 (k.2 _ _ _ _ e2 d c).1 (k.2 _ _ _ _ e2 d c).2 ih
variable {B:BA}{b:BS}
def bf.same(h:bf n ρ B H b)(k:Kp n ρ ρ' H H' λ_=>true):bf n ρ' B H' b:=by
 have z:=λ{b:Addr}{t:Nat}{x:Str}{o:HO}(c:ρ b=some (n,t,x))(e:H b=some o)=>k.2 b t x o rfl c e;obtain⟨vs,h1,h2⟩:=h.oa;exact((z h.cm h.om).1,(z h.cm h.om).2,(z h.co h.oo).1,(z h.co h.oo).2,(z h.cp h.op).1,(z h.cp h.op).2,(vs,(z h.ca h1).1,h2.keep k rfl rfl),(z h.ca h1).2,(z h.ck h.ok).1,(z h.ck h.ok).2,h.ql,
  λi p q e1 e2=>let(a,b,c,d):=h.pt i p q e1 e2;((z c a).1,(z d b).1,(z c a).2,(z d b).2))
def bf.mono(h:bf n ρ B H b)(s:aM H H'):bf n ρ B H' b:=h.same (QV s)
def bf.other(h:bf m ρ B H b)(f:Fr n ρ H ρ' H')(g:Gh ρ H)(e:m≠n):bf m ρ' B H' b:=h.same (λb xs q=>(f b _ q λt x=>by rw[g.tup q];intro z;cases z).1,λb t x o _ c q=>by
 obtain⟨a,b'⟩:=f b o q λt' x'=>by rw[c];intro z;cases z;exact e rfl
 exact(a,b'.trans c))
def bf.col(h:bf n ρ B H b)(c:ρ a=none):bf n (b7 ρ a (n,t,x)) B H b:=h.same (λ_ _ e=>e,λb u y w _ hc he=>(he,by rw[cg (λz=>by rw[z,c]at hc;cases hc)];exact hc))
def bf.find(h:bf n ρ B H b){p:BP}(e:b.ah[i]?=some p):∃q,B.qs[i]?=some q/\H q.1=some (jy p q.2)/\H q.2=some (.lst (p.tops.map V.int))/\ρ q.1=some (n,23,p.nm)/\ρ q.2=some (n,24,p.nm):=by have hi:i<B.qs.length:=h.ql▸(c_.mp e).1;exact(B.qs[i],a_ hi,h.pt i p _ e (a_ hi))
def bf.Z8(h:bf n ρ B H b)(g:Gh ρ H)(x:Int):bf n ρ B (upd H B.m (.dK (fu B x))) { b with bot:=x }:=by
 have k:=eV (o:=.dK (fu B x)) g h.cm;obtain⟨vs,h1,h2⟩:=h.oa;exact(aq,h.cm,kz k h.co h.oo,h.co,kz k h.cp h.op,h.cp,(vs,kz k h.ca h1,h2.keep k (by decide) (by decide)),h.ca,kz k h.ck h.ok,h.ck,h.ql,
  λi p q e1 e2=>let(a,b,c,d):=h.pt i p q e1 e2;(kz k c a,kz k d b,c,d))
def bf.mC(h:bf n ρ B H b)(g:Gh ρ H){p0 p1:BP}{q0:Addr×Addr}{t1:Addr}(ep:b.ah[i]?=some p0)(eq:B.qs[i]?=some q0)(e1:p1.nm=p0.nm)(nd:(b.ah.map (λp:BP=>p.nm)).Nodup)(ht:H t1=some (.lst (p1.tops.map V.int)))(ct:ρ t1=some (n,24,p1.nm)):bf n ρ { B with qs:=B.qs.set i (q0.1,t1) } (upd H q0.1 (jy p1 t1)) { b with ah:=b.ah.set i p1 }:=by
 obtain⟨x1,x2,x3,x4⟩:=h.pt i p0 q0 ep eq
 have k:=eV (o:=jy p1 t1) g x3
 obtain⟨vs,h1,h2⟩:=h.oa
 have hi:i<B.qs.length:=(c_.mp eq).1
 have hi2:i<b.ah.length:=(c_.mp ep).1
 have em:(B.qs.set i (q0.1,t1)).map (λq=>V.ref q.1)=B.qs.map λq=>V.ref q.1:=by rw[kU];exact ny (by rw[bP,eq];rfl)
 refine(kz k h.cm h.om,h.cm,kz k h.co h.oo,h.co,?_,h.cp,(vs,kz k h.ca h1,h2.keep k (by decide) (by decide)),h.ca,kz k h.ck h.ok,h.ck,?_,λj p q rL DG=>?_)
 . show upd H q0.1 _ B.lp=some (.lst ((B.qs.set i (q0.1,t1)).map _))
   rw[em];exact kz k h.cp h.op
 . show(B.qs.set i (q0.1,t1)).length=(b.ah.set i p1).length
   rw[fF,fF];exact h.ql
 . have rL:(b.ah.set i p1)[j]?=some p:=rL
   have DG:(B.qs.set i (q0.1,t1))[j]?=some q:=DG
   by_cases hj:i=j
   . subst hj
     rw[kJ hi2]at rL
     rw[kJ hi]at DG
     cases rL;cases DG
     exact(aq,kz k ct ht,e1▸x3,ct)
   . rw[yC hj]at rL DG
     obtain⟨a1,a2,a3,a4⟩:=h.pt j p q rL DG
     have hnm:p.nm≠p0.nm:=λe=>by
      have hj2:j<b.ah.length:=(c_.mp rL).1;have r1:(b.ah.map (λp:BP=>p.nm))[j]?=some p.nm:=by rw[bP,rL];rfl
      have r2:(b.ah.map (λp:BP=>p.nm))[i]?=some p0.nm:=by rw[bP,ep];rfl
      have hj3:j<(b.ah.map (λp:BP=>p.nm)).length:=by rw[aG];exact hj2
      exact hj ((Hq hj3 nd).mp (r1.trans (e▸r2.symm))).symm
     have hq:q.1≠q0.1:=λe=>by rw[e,x3]at a3;exact hnm (i8 (λc:oN=>c.2.2) (gU a3)).symm
     exact(aA hq▸a1,kz k a4 a2,a3,a4)
def bf.acO(h:bf n ρ B H b)(g:Gh ρ H){lp:Addr}{qs:Da (Addr×Addr)}{ps:Da BP}(e:H lp=some (.lst (qs.map λq=>V.ref q.1)))(c:ρ lp=some (n,22,⟨#[]⟩))(hl:qs.length=ps.length)(hp:∀(i:Nat) (p:BP) (q:Addr×Addr),ps[i]?=some p->qs[i]?=some q->H q.1=some (jy p q.2)/\H q.2=some (.lst (p.tops.map V.int))/\ρ q.1=some (n,23,p.nm)/\ρ q.2=some (n,24,p.nm)):
  bf n ρ { { B with lp:=lp }with qs:=qs } (upd H B.m (.dK (fu { B with lp:=lp } b.bot))) { b with ah:=ps }:=by
 have k:=eV (o:=.dK (fu { B with lp:=lp } b.bot)) g h.cm
 obtain⟨vs,h1,h2⟩:=h.oa
 exact(aq,h.cm,kz k h.co h.oo,h.co,kz k c e,c,(vs,kz k h.ca h1,h2.keep k (by decide) (by decide)),h.ca,kz k h.ck h.ok,h.ck,hl,
  λi p q e1 e2=>let(a,b,c,d):=hp i p q e1 e2;(kz k c a,kz k d b,c,d))
theorem bf.U5(h:bf n ρ B H b)(g:Gh ρ H){p:BP}{q:Addr×Addr}(e1:H q.1=some (jy p q.2))(e2:H q.2=some (.lst (p.tops.map V.int)))(c1:ρ q.1=some (n,23,p.nm))(c2:ρ q.2=some (n,24,p.nm)):bf n ρ { B with qs:=B.qs++[q] } (upd H B.lp (.lst ((B.qs++[q]).map λq=>V.ref q.1))) { b with ah:=b.ah++[p] }:=by
 have k:=eV (o:=.lst ((B.qs++[q]).map λq=>V.ref q.1)) g h.cp;obtain⟨vs,h1,h2⟩:=h.oa;refine(kz k h.cm h.om,h.cm,kz k h.co h.oo,h.co,aq,h.cp,(vs,kz k h.ca h1,h2.keep k (by decide) (by decide)),h.ca,kz k h.ck h.ok,h.ck,?_,λi x y ex ey=>?_)
 .show (B.qs++[q]).length=(b.ah++[p]).length;rw[c7,c7,h.ql];rfl
 .have ex:(b.ah++[p])[i]?=some x:=ex;have ey:(B.qs++[q])[i]?=some y:=ey;by_cases c:i<b.ah.length
  .rw [GY c]at ex;rw[GY (h.ql▸c)]at ey;obtain⟨a1,a2,a3,a4⟩:=h.pt i x y ex ey;exact(kz k a3 a1,kz k a4 a2,a3,a4)
  .have hi:i=b.ah.length:=by have:=(c_.mp ex).1;rw[c7]at this;have:i<b.ah.length+1:=this;omega
   subst hi;rw[zN (aO _),x_]at ex;rw[zN (h.ql▸aO _),h.ql,x_]at ey;cases ex;cases ey;exact(kz k c1 e1,kz k c2 e2,c1,c2)
def bf.Ra(h:bf n ρ B H b)(g:Gh ρ H)(l:Da Str):bf n ρ B (upd H B.lk (.lst (l.map V.str))) { b with eF:=l }:=by
 have k:=eV (o:=.lst (l.map V.str)) g h.ck;obtain⟨vs,h1,h2⟩:=h.oa;exact(kz k h.cm h.om,h.cm,kz k h.co h.oo,h.co,kz k h.cp h.op,h.cp,(vs,kz k h.ca h1,h2.keep k (by decide) (by decide)),h.ca,aq,h.ck,h.ql,
  λi p q e1 e2=>let(a,b,c,d):=h.pt i p q e1 e2;(kz k c a,kz k d b,c,d))
structure MQ(K:Fg)(H:Hp)(us:Da V)(ws:Da Row):Prop where
 len:us.length=ws.length
 at_:∀(i:Nat)(r:Row),ws[i]?=some r->∃a xs,us[i]?=some (.ref a)/\Sq K H a xs/\xs[0]?=some (.str r.1)/\xs[2]?=some (.int r.2)
def vI(b:BS):Da Row:=b.ah.map λp=>(p.nm,p.wo)
def bf.nw(h:bf n ρ B H b):MQ K H (B.qs.map λq=>V.ref q.1) (vI b):=by refine(by unfold vI;rw[aG,aG];exact h.ql,λi r e=>?_);unfold vI at e;rw[bP]at e;obtain⟨p,ep,rfl⟩:=nt.mp e;obtain⟨q,eq,a1,_⟩:=h.find ep;exact(q.1,_,by rw[bP,eq];rfl,.inl (aC.of a1),Z,Z)
def bV(b:BS):Int:=(b.ah.map λp=>p.wo).sum
theorem ym:∀{l:Da Str}{o:Str},o∈l->l[l.idxOf o]?=some o
 | [],_,h=>by simp at h
 | x::l,o,h=>by
  by_cases e:x=o
  .subst e;simp
  .have ho:o∈l:=by
    rcases dW.mp h with z|z
    .exact absurd z.symm e
    .exact z
   rw[List.idxOf_cons,show(x==o)=false from G_.mpr e];simpa using ym ho
inductive acP(K:Fg)(vs:Da V)(H:Hp)(Q:VK)(E:XK):Prop
 |mk(l:Addr)(own:Da Str)(n:Nat)(ρ:d8)(_:vs=[.ref l])(_:aC K H l (own.map V.str))(_:Gh ρ H)(_:own.length<=1000)(_:∀ρ' B H',Gh ρ' H'->bf n ρ' B H' ⟨own,[],1,[],[]⟩->(∀b o,H b=some o->H' b=some o/\ρ' b=ρ b)->Q (.ref B.m) H')
def Rb(K:Fg):Sp:=bx (acP K)
inductive afk(K:Fg)(vs:Da V)(H:Hp)(Q:VK)(E:XK):Prop
 |mk(l:Addr)(own:Da Str)(o:Str)(_:vs=[.ref l,.str o])(_:aC K H l (own.map V.str))(_:o∈own)(_:own.length<=1000)(_:Q (.int (own.idxOf o:Int)) H)
def BQ(K:Fg):Sp:=bx (afk K)
noncomputable def Al(b:BS)(x o:Str)(wo we:Int):BS:={ b with ah:=b.ah++[⟨x,o,wo,we,(List.replicate b.own.length 0).set (b.own.idxOf o) b.bot⟩],eF:=b.eF++[x] }
inductive Xl(vs:Da V)(H:Hp)(Q:VK)(E:XK):Prop
 |mk(n ρ B b:_)(x o:Str)(wo we:Int)(_:vs=[.ref B.m,.str x,.str o,.int wo,.int we])(_:Gh ρ H)(_:bf n ρ B H b)(_:o∈b.own)(_:b.own.length<=1000)(_:b.ah.length<=1000)(_:b.eF.length<=1000)(_:∀ρ' B' H',Gh ρ' H'->bf n ρ' B' H' (Al b x o wo we:_)->B'.m=B.m->Fr n ρ H ρ' H'->Q .cK H')
def Js:Sp:=bx (Xl)
inductive aiv(K:Fg)(vs:Da V)(H:Hp)(Q:VK)(E:XK):Prop
 |mk(l:Addr)(us:Da V)(ws:Da Row)(i:Nat)(r:Row)(_:vs=[.ref l,.str r.1])(_:aC K H l us)(_:MQ K H us ws)(_:(ws.map (λr:Row=>r.1)).Nodup)(_:ws.length<=1000)(_:ws[i]?=some r)(_:Q (.int (i:Int)) H)
def YJ(K:Fg):Sp:=bx (aiv K)
structure U6(ws rs:Da Row):Prop where
 nd:(rs.map (λr:Row=>r.1)).Nodup
 row:∀r∈rs,1<=r.2/\r.2<=1000000000/\∃w∈ws,w.1=r.1/\r.2<=w.2
 lost:bL rs<bL ws\/rs=[]
 len:rs.length<=ws.length
inductive acQ(K:Fg)(vs:Da V)(H:Hp)(Q:VK)(E:XK):Prop
 |mk(a l:Addr)(ns:Da Int)(k:Int)(us:Da V)(ws:Da Row)(_:vs=[.ref a,.int k,.ref l])(_:aC K H a (ns.map V.int))(_:ns.length<=63)(_:0<=k)(_:k<=1000000)(_:aC K H l us)(_:MQ K H us ws)(_:(ws.map (λr:Row=>r.1)).Nodup)(_:ws.length<=1000)(_:(∀w∈ws,1<=w.2))(_:∀z zs rs H',aM H H'->H z=none->H' z=some (.lst zs)->gy H' zs rs->U6 ws rs->Q (.ref z) H')
def Rc(K:Fg):Sp:=bx (acQ K)
section
variable {X:Cx}
def wQ(i j k:Int):Int:=if j<i then(if k<j then k else j) else(if k<i then k else i)
theorem Z9(i j k:Int):wQ i j k<=i/\wQ i j k<=j/\wQ i j k<=k:=by unfold wQ;split <;> split <;> omega
theorem Z_{i j k m:Int}(h1:m<=i)(h2:m<=j)(h3:m<=k):m<=wQ i j k:=by unfold wQ;split <;> split <;> omega
def U7(hc:X.calm=true):iL X (.builtin "min") (λxs H Q=>∃i j k,xs=[.int i,.int j,.int k]/\Q (.int (wQ i j k)) H):=by
 intro AC s σ H xs us Q I r h;obtain⟨i,j,k,rfl,q⟩:=h;obtain⟨u,us,rfl,⟨t,rfl⟩,r2⟩:∃u us',us=u::us'/\RelV (.int i) u/\Vals [.int j,.int k] us':=by cases r with|cons a b=>exact⟨_,_,rfl,a,b⟩
 obtain⟨u2,u3,rfl,⟨t',rfl⟩,⟨t'',rfl⟩⟩:=vals2 r2;refine min_three_ints (I.ok.hd hc) λh' tk kk=>(_,H,I.kept kk,?_,q)
 unfold wQ;by_cases hj:j<i
 .rw [ay hj,ay hj];by_cases hk:k<j
  .rw [ay hk,ay hk];exact(_,Z)
  .rw [av hk,av hk];exact(_,Z)
 .rw [av hj,av hj];by_cases hk:k<i
  .rw [ay hk,ay hk];exact(_,Z)
  .rw [av hk,av hk];exact(_,Z)
end
def nC(given:Da Int)(kept:Int)(p:BP)(a:Int):BP:={ p with tops:=List.zipWith (λt g=>t*kept+g) p.tops given,wo:=p.wo-a }
def iR(ps:Da BP)(as:Da Int)(i:Nat):Int:=(List.zipWith (λ(p:BP)(a:Int)=>p.tops.getD i 0*a) ps as).sum
def gQ(b:BS)(as:Da Int):Da Int:=(List.range b.own.length).map (iR b.ah as)
def iE(b:BS)(as:Da Int)(seat:Nat)(aw:Int):Da Int:=if 0<aw then(gQ b as).set seat ((gQ b as).getD seat 0+aw*b.bot) else gQ b as
def dY(b:BS)(as:Da Int)(seat:Nat)(aw:Int):Da BP:=List.zipWith (nC (iE b as seat aw) (bV b-aw-as.sum)) b.ah as
def ju(b:BS)(as:Da Int)(seat:Nat)(aw:Int):BS:={ b with bot:=b.bot*bV b,ah:=(dY b as seat aw).filter λp=>decide (0<p.wo) }
structure yo(b:BS):Prop where
 nd:(b.ah.map (λp:BP=>p.nm)).Nodup
 tl:∀p∈b.ah,p.tops.length=b.own.length
 t0:∀p∈b.ah,∀t∈p.tops,0<=t/\t<=b.bot
 b1:1<=b.bot
 bz:Jm.Sz 7000 b.bot
 w1:∀p∈b.ah,1<=p.wo
 ol:b.own.length<=100
 pl:b.ah.length<=1000
 kl:b.eF.length<=1000
structure mD(b:BS)(as:Da Int)(seat:Nat)(aw:Int):Prop where
 len:as.length=b.ah.length
 a0:∀a∈as,0<=a
 seat:seat<b.own.length
 FJ:0<=aw
 kept:0<bV b-aw-as.sum
 big:Jm.Sz 60 (bV b)
inductive afl(K:Fg)(vs:Da V)(H:Hp)(Q:VK)(E:XK):Prop
 |mk(n ρ B b:_)(l:Addr)(as:Da Int)(seat:Nat)(aw:Int)(_:vs=[.ref B.m,.ref l,.int (seat:Int),.int aw])(_:Gh ρ H)(_:bf n ρ B H b)(_:yo b)(_:aC K H l (as.map V.int))(_:ρ l=none)(_:mD b as seat aw)(_:∀ρ' B' H',Gh ρ' H'->bf n ρ' B' H' (ju b as seat aw:_)->B'.m=B.m->Fr n ρ H ρ' H'->Q .cK H')
def MR(K:Fg):Sp:=bx (afl K)
variable {as:Da Int}{seat:Nat}
theorem yp{aw:Int}(h:as.length=b.ah.length):(dY b as seat aw).length=b.ah.length:=by unfold dY;rw[kL,h];omega
def Xm{aw:Int}{p:BP}{a:Int}(h1:b.ah[i]?=some p)(h2:as[i]?=some a):(dY b as seat aw)[i]?=some (nC (iE b as seat aw) (bV b-aw-as.sum) p a):=Q_ h1 h2
theorem yq(h:∀a∈as,0<=a):∀{x:Int},x∈as->x<=as.sum:=by
 induction as with
 | nil=>intro x hx;simp at hx
 | cons a l ih=>
  intro x hx;have h0:=h a cO;have hl:0<=l.sum:=by
   clear ih hx;have:∀(l:Da Int),(∀a∈l,0<=a)->0<=l.sum:=λl=>by
    induction l with
    | nil=>intro _;exact eZ _
    | cons a l ih=>intro h;rw[cI];have:=h a cO;have:=ih λx hx=>h x (cR _ hx);omega
   exact this l λx hx=>h x (cR _ hx)
  rw[cI];rcases dW.mp hx with e|e
  .omega
  .have:=ih (λy hy=>h y (cR _ hy)) e;omega
def lU(b:BS)(as:Da Int):(gQ b as).length=b.own.length:=by unfold gQ;rw[aG,Hl]
def wR(b:BS)(as:Da Int)(seat:Nat)(aw:Int):(iE b as seat aw).length=b.own.length:=by
 unfold iE;split
 .rw [fF,lU]
 .exact lU b as
def MS{ps:Da BP}{p:BP}{a:Int}(h1:ps[j]?=some p)(h2:as[j]?=some a):(List.zipWith (λ(p:BP)(a:Int)=>p.tops.getD i 0*a) (ps.take (j+1)) (as.take (j+1)))=List.zipWith (λ(p:BP)(a:Int)=>p.tops.getD i 0*a) (ps.take j) (as.take j)++[p.tops.getD i 0*a] :=nv _ h1 h2
theorem aaa{α:Type}{xs ys:Da α}{p:α}(hx:i<=xs.length)(h:ys[i]?=some p):(xs.take i++ys.drop i)[i]?=some p:=by
 have hl:(xs.take i).length=i:=by rw[kR];omega
 rw[zN (by omega),hl,x_,List.getElem?_drop];exact h
theorem aab{α:Type}{xs ys:Da α}{x:α}(hx:xs[i]?=some x)(hy:i<ys.length):(xs.take i++ys.drop i).set i x=xs.take (i+1)++ys.drop (i+1):=by
 have hi:=(c_.mp hx).1;have hl:(xs.take i).length=i:=by rw[kR];omega
 rw[List.set_append_right _ _ (by omega),hl,x_,RW hy,LG,take_snoc hx,LH];rfl
def U8{b:BS}{as:Da Int}{aw:Int}(h:as.length=b.ah.length)(i:Nat):((dY b as seat aw).take i++b.ah.drop i).map (λp:BP=>p.nm)=b.ah.map (λp:BP=>p.nm):=by
 have e:(dY b as seat aw).map (λp:BP=>p.nm)=b.ah.map (λp:BP=>p.nm):=by
  unfold dY;generalize iE b as seat aw=g;generalize bV b-aw-as.sum=k;generalize b.ah=ps at *;clear b
  induction ps generalizing as with
  | nil=>rfl
  | cons p ps ih=>
   cases as with
   | nil=>simp at h
   | cons a as=>rw[uS,bK,bK,ih (by simpa using h)];rfl
 rw[bQ,zV,e,<-zV,<-bQ,List.take_append_drop]
def U9(B:BA)(x y:Int):putK (fu B x) (Sum.inr "bottom") (.int y)=fu B y:=rfl
noncomputable def kX:Da BP->Da (Addr×Addr)->Da (Addr×Addr)
 | p::ps,q::qs=>if 0<p.wo then q::kX ps qs else kX ps qs
 | _,_=>[]
theorem Jt:∀{ps:Da BP}{qs:Da (Addr×Addr)},qs.length=ps.length->(kX ps qs).length=(ps.filter λp=>decide (0<p.wo)).length
 | [],[],_=>rfl
 | [],_::_,h=>by simp at h
 | _::_,[],h=>by simp at h
 | p::ps,q::qs,h=>by
  have ih:=Jt (ps:=ps) (qs:=qs) (by simpa using h);unfold kX;by_cases c:0<p.wo
  .rw [ay c,ir,ay (bR c),ig,ig,ih]
  .rw [av c,ir,av (by simpa using c),ih]
theorem D9:∀{ps:Da BP}{qs:Da (Addr×Addr)}{i:Nat}{p:BP}{q:Addr×Addr},(ps.filter λp=>decide (0<p.wo))[i]?=some p->(kX ps qs)[i]?=some q->qs.length=ps.length->∃j:Nat,ps[j]?=some p/\qs[j]?=some q
 | [],_,_,_,_,h,_,_=>by simp at h
 | _::_,[],_,_,_,_,_,h=>by simp at h
 | x::ps,y::qs,i,p,q,h1,h2,hl=>by
  unfold kX at h2;by_cases c:0<x.wo
  .rw [ay c]at h2;rw[ir,ay (bR c)]at h1;cases i with
   | zero=>simp at h1 h2;exact(0,by simpa using h1,by simpa using h2)
   | succ i=>obtain⟨j,a,b⟩:=D9 (ps:=ps) (qs:=qs) (i:=i) (by simpa using h1) (by simpa using h2) (by simpa using hl);exact(j+1,by simpa using a,by simpa using b)
  .rw [av c]at h2;rw[ir,av (by simpa using c)]at h1;obtain⟨j,a,b⟩:=D9 (ps:=ps) (qs:=qs) (i:=i) h1 h2 (by simpa using hl);exact(j+1,by simpa using a,by simpa using b)
theorem FL:∀{ps:Da BP}{qs:Da (Addr×Addr)}{j:Nat}{p:BP}{q:Addr×Addr},ps[j]?=some p->qs[j]?=some q->kX (ps.take (j+1)) (qs.take (j+1))=kX (ps.take j) (qs.take j)++(if 0<p.wo then[q] else[])
 | [],_,_,_,_,h,_=>by simp at h
 | _::_,[],_,_,_,_,h=>by simp at h
 | x::ps,y::qs,0,p,q,h1,h2=>by
  have e1:x=p:=by simpa using h1
  have e2:y=q:=by simpa using h2
  subst e1 e2;show kX (x::ps.take 0) (y::qs.take 0)=[]++_;unfold kX;split <;> rfl
 | x::ps,y::qs,j+1,p,q,h1,h2=>by have ih:=FL (ps:=ps) (qs:=qs) (j:=j) (by simpa using h1) (by simpa using h2);show kX (x::ps.take (j+1)) (y::qs.take (j+1))=kX (x::ps.take j) (y::qs.take j)++_;unfold kX;rw[ih];split <;> rfl
def dP(rs:Da Row)(x:Str):Int:=((rs.find? λr=>decide (r.1=x)).map (λr:Row=>r.2)).getD 0
def Ju(x:Str):dP [] x=0:=rfl
def oq(r:Row)(rs:Da Row)(x:Str):dP (r::rs) x=if r.1=x then r.2 else dP rs x:=by
 unfold dP;rw[qU];by_cases c:r.1=x
 .rw [bR c,ay c];rfl
 .rw [dM c,av c]
theorem vU:∀{rs:Da Row}{x:Str},x∉rs.map (λr:Row=>r.1)->dP rs x=0
 | [],_,_=>rfl
 | r::rs,x,h=>by rw[oq,av (λe=>h (by rw[bK,e];exact cO))];exact vU λm=>h (bK▸cR _ m)
theorem ou:∀{rs:Da Row}{r:Row}{x:Str},r.1∉rs.map (λr:Row=>r.1)->dP (rs++[r]) x=if r.1=x then r.2 else dP rs x
 | [],r,x,_=>by rw[Ld,oq]
 | y::rs,r,x,h=>by
  rw[bK]at h;have h1:r.1≠y.1:=λe=>h (e▸cO);rw[Lb,oq,ou (λm=>h (cR _ m)),oq];by_cases c:y.1=x
  .rw [ay c,ay c,av (λe=>h1 (e.trans c.symm))]
  .rw [av c,av c]
theorem Xn(h:∀r∈rs,1<=r.2)(x:Str):0<=dP rs x:=by
 induction rs with
 | nil=>exact eZ _
 | cons r rs ih=>
  rw[oq];split
  .have:=h r cO;omega
  .exact ih λy hy=>h y (cR _ hy)
def di(b:BS)(rs:Da Row):Da Int:=b.ah.map λp=>dP rs p.nm
def BR(b:BS)(rs:Da Row):(di b rs).length=b.ah.length:=by unfold di;rw[aG]
def FN(nd:(b.ah.map (λp:BP=>p.nm)).Nodup){r:Row}{p:BP}(hp:b.ah[j]?=some p)(e:p.nm=r.1)(h:r.1∉rs.map (λr:Row=>r.1)):di b (rs++[r])=(di b rs).set j r.2/\(di b rs)[j]?=some 0:=by
 have hj:=(c_.mp hp).1;constructor
 .refine List.ext_getElem? λk=>?_;by_cases c:j=k
  .subst c;rw[kJ (by rw[BR];exact hj)];unfold di;rw[bP,hp];show some (dP (rs++[r]) p.nm)=_;rw[ou h,ay e.symm]
  .rw [yC c];unfold di;rw[bP,bP];cases ek:b.ah[k]? with
   | none=>rfl
   | some x=>
    show some (dP (rs++[r]) x.nm)=some (dP rs x.nm);rw[ou h,av];intro z;have r1:(b.ah.map (λp:BP=>p.nm))[k]?=some x.nm:=by rw[bP,ek];rfl
    have r2:(b.ah.map (λp:BP=>p.nm))[j]?=some p.nm:=by rw[bP,hp];rfl
    exact c ((Hq (by rw[aG];exact hj) nd).mp (r2.trans (by rw[e,z];exact r1.symm)))
 .unfold di;rw[bP,hp];show some (dP rs p.nm)=_;rw[e,vU h]
theorem MT:∀{l:Da Int}{j:Nat}{x:Int},l[j]?=some 0->(l.set j x).sum=l.sum+x
 | [],_,_,h=>by simp at h
 | a::l,0,x,h=>by
  have:a=0:=by simpa using h
  rw[LG,cI,cI];omega
 | a::l,j+1,x,h=>by rw[LF,cI,cI,MT (by simpa using h)];omega
structure vV(b:BS)(rs:Da Row):Prop where
 nd:(rs.map (λr:Row=>r.1)).Nodup
 row:∀r∈rs,1<=r.2/\∃(j:Nat)(p:BP),b.ah[j]?=some p/\p.nm=r.1/\r.2<=p.wo
theorem Jv(nd:(b.ah.map (λp:BP=>p.nm)).Nodup)(h:vV b rs):∀i≤rs.length,(di b (rs.take i)).sum=bL (rs.take i):=by
 intro i
 induction i with
 | zero=>
  intro _;rw[List.take_zero];unfold di;show(b.ah.map λp=>(0:Int)).sum=0;clear nd h;generalize b.ah=ps
  induction ps with
  | nil=>rfl
  | cons p ps ih=>rw[bK,cI,ih];rfl
 | succ i ih=>
  intro hi;have ei:=a_ (show i<rs.length by omega);rw[take_snoc ei];obtain⟨_,j,p,hp,e,_⟩:=h.row _ (bg ei);have hn:(rs[i]).1∉(rs.take i).map (λr:Row=>r.1):=by rw[zV];exact lE h.nd (by rw[bP,ei];rfl)
  obtain⟨s1,s2⟩:=FN nd hp e hn;rw[s1,MT s2,ih (by omega)];unfold bL;rw[bQ,EO];simp
abbrev Q4:=Str×Str×Int×Int
noncomputable def iM(st:HS):Da Q4:=st.ah.map λp=>(p.nm,p.ow,p.wo,p.we)
noncomputable def oz(b:BS):Da Q4:=b.ah.map λp=>(p.nm,p.ow,p.wo,p.we)
noncomputable def pT(qs:Da Q4)(r:Row):Da Q4:=(qs.map λq=>if q.1=r.1 then(q.1,q.2.1,q.2.2.1-r.2,q.2.2.2) else q).filter λq=>decide (q.2.2.1≠0)
noncomputable def pD(rs:Da Row)(qs:Da Q4):Da Q4:=(qs.map λq=>(q.1,q.2.1,q.2.2.1-dP rs q.1,q.2.2.2)).filter λq=>decide (0<q.2.2.1)
def Jw(st:HS)(r:Row):iM (eL st r)=pT (iM st) r:=by
 unfold iM eL ko pT;generalize st.ah=ps;show List.map _ (List.filter _ (List.map _ ps))=_
 induction ps with
 | nil=>rfl
 | cons p ps ih=>
  rw[bK,bK,bK];by_cases c:p.nm=r.1
  .rw [ay c,ay (show(Prod.mk (p.nm) (Prod.mk (p.ow) (Prod.mk (p.wo) (p.we)))).1=r.1 from c),ir,ir];by_cases d:p.wo-r.2=0
   .rw [av (by simpa using d),av (by simpa using d),ih]
   .rw [ay (by simpa using d),ay (by simpa using d),bK,ih]
  .rw [av c,av (show ¬ (Prod.mk (p.nm) (Prod.mk (p.ow) (Prod.mk (p.wo) (p.we)))).1=r.1 from c),ir,ir];by_cases d:p.wo=0
   .rw [av (by simpa using d),av (by simpa using d),ih]
   .rw [ay (by simpa using d),ay (by simpa using d),bK,ih]
def FO(st:HS)(kept whole:Int)(jp:Da Int):iM (bu st kept whole jp)=iM st:=by unfold iM bu;rw[lN,fH];rfl
theorem FP:∀(rs:Da Row)(st:HS),iM (rs.foldl eL st)=rs.foldl pT (iM st)
 | [],_=>rfl
 | r::rs,st=>by rw[kT,kT,FP rs,Jw]
theorem FQ:∀(qs:Da Q4)(r:Row)(rs:Da Row),r.1∉rs.map (λr:Row=>r.1)->(∀q∈qs,1<=q.2.2.1)->(∀q∈qs,q.1=r.1->r.2<=q.2.2.1)->pD rs (pT qs r)=pD (r::rs) qs
 | [],_,_,_,_,_=>rfl
 | q::qs,r,rs,hn,h1,h2=>by
  have ih:=FQ qs r rs hn (λx hx=>h1 x (cR _ hx)) (λx hx=>h2 x (cR _ hx));have w1:=h1 q cO;have e1:pT (q::qs) r=(if q.1=r.1 then(if q.2.2.1-r.2=0 then[] else[(Prod.mk (q.1) (Prod.mk (q.2.1) (Prod.mk (q.2.2.1-r.2) (q.2.2.2))))]) else[q])++pT qs r:=by
   unfold pT;rw[bK,ir];by_cases c:q.1=r.1
   .rw [ay c,ay c];by_cases d:q.2.2.1-r.2=0
    .rw [ay d,av (by simpa using d)];rfl
    .rw [av d,ay (by simpa using d)];rfl
   .rw [av c,av c,ay (bR (show q.2.2.1≠0 by omega))];rfl
  have e2:∀(us:Da Row)(x:Q4)(l:Da Q4),pD us (x::l)=(if 0<x.2.2.1-dP us x.1 then[(Prod.mk (x.1) (Prod.mk (x.2.1) (Prod.mk (x.2.2.1-dP us x.1) (x.2.2.2))))] else[])++pD us l:=λus x l=>by
   unfold pD;rw[bK,ir];by_cases c:0<x.2.2.1-dP us x.1
   .rw [ay c,ay (bR c)];rfl
   .rw [av c,av (by simpa using c)];rfl
  rw[e1,e2 (r::rs),oq];by_cases c:q.1=r.1
  .have am:dP rs q.1=0:=by rw[c];exact vU hn
   have le:=h2 q cO c;rw[ay c,ay c.symm];by_cases d:q.2.2.1-r.2=0
   .rw [ay d,av (by omega),<-ih];rfl
   .rw [av d,ay (by omega),<-ih,Lb,Ld,e2 rs];show(if 0<q.2.2.1-r.2-dP rs q.1 then[(Prod.mk (q.1) (Prod.mk (q.2.1) (Prod.mk (q.2.2.1-r.2-dP rs q.1) (q.2.2.2))))] else[])++_=_;rw[am,yb,ay (by omega)]
  .rw [av c,show(if r.1=q.1 then r.2 else dP rs q.1)=dP rs q.1 from av (λz=>c z.symm),<-ih,Lb,Ld,e2 rs]
def Jx{qs:Da Q4}{r:Row}{x:Q4}(h:x∈pT qs r):x.2.2.1≠0/\∃q∈qs,x=if q.1=r.1 then(q.1,q.2.1,q.2.2.1-r.2,q.2.2.2) else q:=by obtain⟨h1,h2⟩:=iU.mp h;obtain⟨q,hq,e⟩:=bw.mp h1;exact(eO h2,q,hq,e.symm)
theorem Jy:∀(rs:Da Row)(qs:Da Q4),(rs.map (λr:Row=>r.1)).Nodup->(∀q∈qs,1<=q.2.2.1)->(∀r∈rs,∀q∈qs,q.1=r.1->r.2<=q.2.2.1)->rs.foldl pT qs=pD rs qs
 | [],qs,_,h1,_=>by
  show qs=pD [] qs;unfold pD
  induction qs with
  | nil=>rfl
  | cons q qs ih=>have:=h1 q cO;rw[bK,ir,ay (bR (show 0<q.2.2.1-dP [] q.1 by rw[Ju];omega)),<-ih (λx hx=>h1 x (cR _ hx)) (λr hr=>absurd hr (by simp)),Ju,yb]
 | r::rs,qs,nd,h1,h2=>by
  obtain⟨n1,n2⟩:=iu.mp (show(r.1::rs.map (λr:Row=>r.1)).Nodup from nd);rw[kT,Jy rs (pT qs r) n2 ?_ ?_]
  .exact FQ qs r rs n1 h1 (h2 r cO)
  .intro x hx;obtain⟨a,q,hq,e⟩:=Jx hx;have:=h1 q hq;by_cases c:q.1=r.1
   .rw [ay c]at e;have:=h2 r cO q hq c;rw[e]at a ⊢;have a:q.2.2.1-r.2≠0:=a;show 1<=q.2.2.1-r.2;omega
   .rw [av c]at e;rw[e];exact this
  .intro y hy x hx ex;obtain⟨_,q,hq,e⟩:=Jx hx;by_cases c:q.1=r.1
   .rw [ay c]at e;rw[e]at ex;exact absurd (bw.mpr (y,hy,ex.symm.trans c)) n1
   .rw [av c]at e;rw[e]at ex ⊢;exact h2 y (cR _ hy) q hq ex
def U_(b:BS)(rs:Da Row)(seat:Nat)(aw:Int):oz (ju b (di b rs) seat aw)=pD rs (oz b):=by
 unfold oz ju dY pD;show List.map _ (List.filter _ (List.zipWith (nC (iE b (di b rs) seat aw) (bV b-aw-(di b rs).sum)) b.ah (di b rs)))=_;generalize iE b (di b rs) seat aw=g;generalize bV b-aw-(di b rs).sum=k;unfold di;generalize b.ah=ps
 induction ps with
 | nil=>rfl
 | cons p ps ih=>
  rw[bK,uS,bK,bK,ir,ir];by_cases c:0<p.wo-dP rs p.nm
  .rw [ay (bR (show 0<(nC g k p (dP rs p.nm)).wo from c)),ay (bR (show 0<p.wo-dP rs p.nm from c)),bK,ih];rfl
  .rw [av (by simpa using(show ¬ 0<(nC g k p (dP rs p.nm)).wo from c)),av (by simpa using c),ih]
structure jX(st:HS)(b:BS):Prop where
 own:st.own=b.own
 qd:iM st=oz b
def MU(st:HS)(rs:Da Row):(gX st rs).own=st.own:=by
 unfold gX;have:∀(rs:Da Row)(s:HS),(rs.foldl eL s).own=s.own:=λrs=>by
  induction rs with
  | nil=>intro s;rfl
  | cons r rs ih=>intro s;rw[kT,ih];rfl
 rw[this];unfold bu;rw[uJ]
def Va(r:jX st b)(wf:Wf st)(c:pC st rs):jX (gX st rs) (ju b (di b rs) 0 0):=by
 refine(by rw[MU,r.own];rfl,?_);rw[U_,<-r.qd];unfold gX;rw[FP,FO];refine Jy rs (iM st) c.nd (λq hq=>?_) (λx hx q hq e=>?_)
 .obtain ⟨p,hp,rfl⟩:=bw.mp hq;exact(wf.kj p hp).1
 .obtain ⟨p,hp,rfl⟩:=bw.mp hq;obtain⟨_,_,p',eW,e',le⟩:=c.row x hx;have:p=p':=oj wf hp eW (e.trans e'.symm);rw[this];exact le
def Vb(r:jX st b)(x o:Str)(wo we:Int):jX (yi st x o wo we) (Al b x o wo we):=by refine(r.own,?_);unfold iM oz yi Af Al;show List.map _ (st.ah++[_])=List.map _ (b.ah++[_]);rw[bQ,bQ,show st.ah.map (λp=>(Prod.mk (p.nm) (Prod.mk (p.ow) (Prod.mk (p.wo) (p.we)))))=b.ah.map (λp=>(Prod.mk (p.nm) (Prod.mk (p.ow) (Prod.mk (p.wo) (p.we)))))from r.qd];rfl
def jX.whole(r:jX st b):aI st=bV b:=by unfold aI bV;have:=i8 (List.map λq:Q4=>q.2.2.1) r.qd;unfold iM oz at this;rw[fH,fH]at this;exact i8 List.sum this
def jX.len(r:jX st b):st.ah.length=b.ah.length:=by have:=i8 List.length r.qd;unfold iM oz at this;rw[aG,aG]at this;exact this
theorem jX.at(r:jX st b){q:BP}(h:b.ah[i]?=some q):∃p,st.ah[i]?=some p/\p.nm=q.nm/\p.ow=q.ow/\p.wo=q.wo/\p.we=q.we:=by have e:=i8 (λl:Da Q4=>l[i]?) r.qd;unfold iM oz at e;have e:(st.ah.map λp=>(Prod.mk (p.nm) (Prod.mk (p.ow) (Prod.mk (p.wo) (p.we)))))[i]?=(b.ah.map λp=>(Prod.mk (p.nm) (Prod.mk (p.ow) (Prod.mk (p.wo) (p.we)))))[i]?:=e;rw[bP,bP,h]at e;obtain⟨p,ep,e2⟩:=nt.mp e;have e2:(Prod.mk (p.nm) (Prod.mk (p.ow) (Prod.mk (p.wo) (p.we))))=(Prod.mk (q.nm) (Prod.mk (q.ow) (Prod.mk (q.wo) (q.we)))):=e2;simp only[Prod.mk.injEq]at e2;exact(p,ep,e2)
def jX.at'(r:jX st b)(h:st.ah[i]?=some p):∃q,b.ah[i]?=some q/\p.nm=q.nm/\p.ow=q.ow/\p.wo=q.wo/\p.we=q.we:=by have hi:i<b.ah.length:=r.len▸(c_.mp h).1;have eq:=a_ hi;obtain⟨p',e',z⟩:=r.at eq;rw[h]at e';cases e';exact(_,eq,z)
def jX.rows(r:jX st b)(h:bf n ρ B H b):uH K H (B.qs.map λq=>V.ref q.1) st.ah:=by
 refine(by rw[aG,h.ql,r.len],λi p e=>?_);obtain⟨q,eq,e1,e2,e3,e4⟩:=r.at' e;obtain⟨a,ea,k1,_⟩:=h.find eq;refine(a.1,_,by rw[bP,ea];rfl,.inl (aC.of k1),?_,?_,?_,?_)
 .rw [e1];rfl
 .rw [e2];rfl
 .rw [e3];rfl
 .rw [e4];rfl
theorem Jz{B:Int}(hB:0<=B):∀{ps:Da BP}{as:Da Int},(∀p∈ps,∀t∈p.tops,0<=t/\t<=B)->(∀a∈as,0<=a)->∀i,0<=iR ps as i/\iR ps as i<=B*as.sum
 | [],as,_,ha,i=>by
  have:0<=as.sum:=by
   cases as with
   | nil=>exact eZ _
   | cons a l=>exact CF (ha a cO) (yq ha cO)
  exact(by show(0:Int)<=0;omega,pM hB this)
 | _::_,[],_,_,i=>by show 0<=(0:Int)/\(0:Int)<=B*0;omega
 | p::ps,a::as,h,ha,i=>by
  have ih:=Jz hB (ps:=ps) (as:=as) (λx hx=>h x (cR _ hx)) (λx hx=>ha x (cR _ hx)) i;have a0:=ha a cO;have ht:0<=p.tops.getD i 0/\p.tops.getD i 0<=B:=by
   rw[dQ];cases e:p.tops[i]? with
   | none=>exact(eZ _,hB)
   | some t=>exact h p cO t (bg e)
  have e:iR (p::ps) (a::as) i=p.tops.getD i 0*a+iR ps as i:=by unfold iR;rw[uS,cI]
  have k1:0<=p.tops.getD i 0*a:=pM ht.1 a0;have k2:p.tops.getD i 0*a<=B*a:=TJ ht.2 a0;rw[e,cI,lP];omega
theorem Vc(wf:yo b){aw:Int}(ok:mD b as seat aw):∀g∈iE b as seat aw,0<=g/\g<=b.bot*(as.sum+aw):=by
 have b1:=wf.b1;have cb:=Jz (B:=b.bot) (by omega) wf.t0 ok.a0;have FJ:=ok.FJ;have m0:0<=b.bot*aw:=pM (by omega) FJ;have hg:∀g∈gQ b as,0<=g/\g<=b.bot*as.sum:=λg h=>by obtain⟨i,_,rfl⟩:=bw.mp h;exact cb i
 intro g h;rw[lP];unfold iE at h;split at h
 .rcases Lu h with z|z
  .have:=hg g z;omega
  .have hs:seat<(gQ b as).length:=by rw[lU];exact ok.seat
   have e:(gQ b as).getD seat 0=(gQ b as)[seat] :=by rw[dQ,a_ hs];rfl
   have:=hg _ (xY hs);rw[z,e,mX aw];omega
 .have:=hg g h;omega
theorem Xo(wf:yo b){aw:Int}(ok:mD b as seat aw)(hz:Jm.Sz 7000 (b.bot*bV b)):yo (ju b as seat aw):=by
 have b1:=wf.b1;have gb:=Vc wf ok;have kp:=ok.kept;have as0:0<=as.sum:=by
  cases has:as with
  | nil=>exact eZ _
  | cons a l=>exact CF (ok.a0 a (has▸cO)) (by rw[<-has];exact yq ok.a0 (has▸cO))
 have FJ:=ok.FJ;have D_:∀p∈(dY b as seat aw).filter (λp=>decide (0<p.wo)),0<p.wo/\∃p0∈b.ah,∃a,p=nC (iE b as seat aw) (bV b-aw-as.sum) p0 a:=λp hp=>by obtain⟨h1,h2⟩:=iU.mp hp;obtain⟨i,x,a,ex,_,e⟩:=jx (show p∈List.zipWith (nC (iE b as seat aw) (bV b-aw-as.sum)) b.ah as from h1);exact(eO h2,x,bg ex,a,e)
 have nmE:(dY b as seat aw).map (λp:BP=>p.nm)=b.ah.map (λp:BP=>p.nm):=by have:=U8 (seat:=seat) (aw:=aw) ok.len b.ah.length;rw[Lc,x6,show(dY b as seat aw).take b.ah.length=dY b as seat aw from yp ok.len▸cQ]at this;exact this
 refine(?_,λp hp=>?_,λp hp t ht=>?_,?_,hz,λp hp=>?_,wf.ol,?_,wf.kl)
 .have:(((dY b as seat aw).filter λp=>decide (0<p.wo)).map (λp:BP=>p.nm)).Sublist ((dY b as seat aw).map (λp:BP=>p.nm)):=LC.map _;rw[nmE]at this;exact wf.nd.sublist this
 .obtain ⟨_,p0,h0,a,rfl⟩:=D_ p hp;show(List.zipWith _ p0.tops (iE b as seat aw)).length=b.own.length;rw[kL,wf.tl p0 h0,wR];omega
 .obtain ⟨_,p0,h0,a,rfl⟩:=D_ p hp;obtain⟨i,x,g,ex,eg,rfl⟩:=jx (show t∈List.zipWith (λt g=>t*(bV b-aw-as.sum)+g) p0.tops (iE b as seat aw)from ht);have hx:=wf.t0 p0 h0 x (bg ex);have hg:=gb g (bg eg);have k1:0<=x*(bV b-aw-as.sum):=pM hx.1 (by omega);have k2:x*(bV b-aw-as.sum)<=b.bot*(bV b-aw-as.sum):=TJ hx.2 (by omega);have k3:b.bot*(bV b-aw-as.sum)+b.bot*(as.sum+aw)=b.bot*bV b:=by rw[<-lP];congr 1;omega
  exact(by omega,by show _<=b.bot*bV b;omega)
 .show 1<=b.bot*bV b;have:b.bot*1<=b.bot*bV b:=IM (by omega) (by omega);omega
 .exact (D_ p hp).1
 .have:=G1 (λp:BP=>decide (0<p.wo)) (dY b as seat aw);rw[yp ok.len]at this;exact fG this wf.pl
theorem Rg(wf:yo b)(h:vV b rs)(hl:bL rs<bV b)(ho:0<b.own.length)(hz:Jm.Sz 60 (bV b)):mD b (di b rs) 0 0:=by have hs:=Jv wf.nd h rs.length (aO _);rw[cQ]at hs;refine(BR b rs,λa ha=>?_,ho,eZ _,by rw[hs];omega,hz);obtain⟨p,_,rfl⟩:=bw.mp ha;exact Xn (λr hr=>(h.row r hr).1) p.nm
inductive acS(K:Fg)(vs:Da V)(H:Hp)(Q:VK)(E:XK):Prop
 |mk(n ρ B b:_)(l:Addr)(us:Da V)(rs:Da Row)(_:vs=[.ref B.m,.ref l])(_:Gh ρ H)(_:bf n ρ B H b)(_:yo b)(_:aC K H l us)(_:gy H us rs)(_:ρ l=none)(_:vV b rs)(_:rs.length<=1000)(_:mD b (di b rs:_) 0 0)(_:∀ρ' B' H',Gh ρ' H'->bf n ρ' B' H' (ju b (di b rs:_) 0 0)->B'.m=B.m->Fr n ρ H ρ' H'->Q .cK H')
def Rh(K:Fg):Sp:=bx (acS K)
theorem aac(wf:yo b){o:Str}(h1:x∉b.ah.map (λp:BP=>p.nm))(h2:1<=wo)(h3:b.ah.length<1000)(h4:b.eF.length<1000):yo (Al b x o wo we):=by
 have P:∀{M:BP->Prop},(∀p∈b.ah,M p)->M (x,o,wo,we,(List.replicate b.own.length 0).set (b.own.idxOf o) b.bot)->∀p∈(Al b x o wo we).ah,M p:=λa c p hp=>by
  rcases dN.mp (show p∈b.ah++[_]from hp)with z|z
  .exact a p z
  .rw [dw.mp z];exact c
 have b1:=wf.b1;refine(?_,P wf.tl (by show((List.replicate b.own.length (0:Int)).set _ _).length=_;rw[fF,jr];rfl),P wf.t0 (λt ht=>?_),wf.b1,wf.bz,P wf.w1 h2,wf.ol,?_,?_)
 .show ((b.ah++[_]).map (λp:BP=>p.nm)).Nodup;rw[bQ];exact nX wf.nd h1
 .rcases Ag ht with z|z
  .rw [z];show 0<=0/\0<=b.bot;omega
  .rw [z];show 0<=b.bot/\b.bot<=b.bot;omega
 .show (b.ah++[_]).length<=1000;rw[c7];show b.ah.length+1<=1000;omega
 .show (b.eF++[_]).length<=1000;rw[c7];show b.eF.length+1<=1000;omega
theorem kq:∀(rs:Da Row)(s:HS),rs.foldl eL s={ s with ah:=(rs.foldl eL s).ah }
 | [],_=>rfl
 | r::rs,s=>by rw[kT,kq rs (eL s r)];rfl
def Ea(st:HS)(b:BS):Prop:=∀p∈st.ah,∀q∈b.ah,p.nm=q.nm->∀j,q.tops.getD j 0*st.prod=(aT st p).getD j 0*b.bot
theorem lV{f:Int->Int->Int}(hf:f 0 0=0){xs ys:Da Int}(h:xs.length=ys.length)(j:Nat):(List.zipWith f xs ys).getD j 0=f (xs.getD j 0) (ys.getD j 0):=by
 rw[dQ,dQ,dQ,R4];by_cases c:j<xs.length
 .rw [a_ c,a_ (by omega)];rfl
 .rw [sW (by omega),sW (by omega)];exact hf.symm
def wU(rs:Da Row)(f:Str->Int):Int:=(rs.map λr=>r.2*f r.1).sum
theorem MV{st:HS}:∀(rs:Da Row)(Ap:Da Int),(∀r∈rs,(aT st (cS st r.1)).length=Ap.length)->∀j,(vR st Ap rs).getD j 0=Ap.getD j 0+wU rs λx=>(aT st (cS st x)).getD j 0
 | [],Ap,_,j=>by show Ap.getD j 0=_+0;omega
 | r::rs,Ap,h,j=>by
  have hr:=h r cO;have e:(List.zipWith (λx t=>x+r.2*t) Ap (aT st (cS st r.1))).length=Ap.length:=by rw[kL,hr];omega
  show(vR st (List.zipWith (λx t=>x+r.2*t) Ap (aT st (cS st r.1))) rs).getD j 0=_;rw[MV rs _ (λx hx=>e▸h x (cR _ hx)),lV (f:=λx t=>x+r.2*t) (by show(0:Int)+r.2*0=0;omega) hr.symm];unfold wU;rw[bK,cI];show Ap.getD j 0+r.2*(aT st (cS st r.1)).getD j 0+(rs.map λr=>r.2*(aT st (cS st r.1)).getD j 0).sum=Ap.getD j 0+(r.2*(aT st (cS st r.1)).getD j 0+(rs.map λr=>r.2*(aT st (cS st r.1)).getD j 0).sum)
  omega
theorem SS(nd:(b.ah.map (λp:BP=>p.nm)).Nodup)(h:vV b rs)(f:Str->Int):∀i≤rs.length,(b.ah.map λp=>f p.nm*dP (rs.take i) p.nm).sum=wU (rs.take i) f:=by
 intro i
 induction i with
 | zero=>
  intro _;rw[List.take_zero];show(b.ah.map λp=>f p.nm*0).sum=0;clear nd h;generalize b.ah=ps
  induction ps with
  | nil=>rfl
  | cons p ps ih=>rw[bK,cI,ih];omega
 | succ i ih=>
  intro hi;have ei:=a_ (show i<rs.length by omega);obtain⟨_,j,p,hp,e,_⟩:=h.row _ (bg ei);have hn:(rs[i]).1∉(rs.take i).map (λr:Row=>r.1):=by rw[zV];exact lE h.nd (by rw[bP,ei];rfl)
  rw[take_snoc ei];generalize rs[i]=r at *;replace ih:=ih (by omega);generalize rs.take i=us at *;have:wU (us++[r]) f=wU us f+r.2*f r.1:=by unfold wU;rw[bQ,EO];simp
  rw[this,<-ih];clear this ih hi ei;have hm:=bg hp;clear hp;generalize b.ah=ps at *;clear h
  induction ps with
  | nil=>simp at hm
  | cons x ps ihp=>
   obtain⟨n1,n2⟩:=iu.mp (show(x.nm::ps.map (λp:BP=>p.nm)).Nodup from nd);rw[bK,bK,cI,cI];rcases dW.mp hm with z|z
   .subst z;have Cl:(ps.map λp=>f p.nm*dP (us++[r]) p.nm)=ps.map λp=>f p.nm*dP us p.nm:=uT λy hy=>by rw[ou hn,av (λz=>n1 (bw.mpr (y,hy,z.symm.trans e.symm)))]
    rw[Cl,ou hn,ay e.symm,e,vU hn,Int.mul_zero,mX r.2];omega
   .have ne:x.nm≠r.1:=λz'=>n1 (bw.mpr (p,z,e.trans z'.symm));rw[ihp n2 z,ou hn,av (λz=>ne z.symm)];omega
theorem MW:∀(rs:Da Row){s:HS}{p':Pt},p'∈(rs.foldl eL s).ah->∃p∈s.ah,p'.nm=p.nm/\p'.row=p.row/\p'.sc=p.sc
 | [],_,p',h=>(p',h,Z,Z,Z)
 | r::rs,s,p',h=>by obtain⟨p,hp,e1,e2,e3⟩:=MW rs (s:=eL s r) h;obtain⟨_,q,hq,e⟩:=tK hp;refine(q,hq,?_);rw[e1,e2,e3,e];split <;> exact(Z,Z,Z)
def aad{ps:Da BP}(j:Nat):iR ps (ps.map λp=>dP rs p.nm) j=(ps.map λp=>p.tops.getD j 0*dP rs p.nm).sum:=by
 unfold iR
 induction ps with
 | nil=>rfl
 | cons p ps ih=>rw[bK,uS,cI,bK,cI,ih]
theorem JA(k:Int){α:Type}(l:Da α)(f g:α->Int)(h:∀x∈l,f x*k=g x):(l.map f).sum*k=(l.map g).sum:=by
 induction l with
 | nil=>show(0:Int)*k=0;omega
 | cons x l ih=>rw[bK,bK,cI,cI,pQ,ih λy hy=>h y (cR _ hy),h x cO]
theorem BU{st st':HS}{kept whole:Int}{jp:Da Int}(wf:Wf st)(bl:oh st kept whole lost jp)(ec:st'.bU=(bu st kept whole jp).bU)(ep:st'.prod=(bu st kept whole jp).prod){p':Pt}(hp:p∈st.ah)(e2:p'.row=p.row)(e3:p'.sc=p.sc*kept / cE st kept whole jp){t0 gB B:Int}{j:Nat}(tj:t0*st.prod=(aT st p).getD j 0*B)(eB:gB*st.prod=jp.getD j 0*B):(t0*kept+gB)*st'.prod=(aT st' p').getD j 0*(B*whole):=by
 obtain⟨hd,Vd,hds,hdc⟩:=bl.dvds
 have aiw:st'.bU=(gP st kept jp).map (· / cE st kept whole jp):=by rw[ec];unfold bu;rw[Jo]
 have s1:1<=whole / cE st kept whole jp:=by
  have w1:0<whole:=by have:=bl.l;have:=bl.w;have:=bl.k;omega
  have:=EU w1 Vd;exact R5 hd (by omega)
 have YK:st'.prod=st.prod*(whole / cE st kept whole jp):=by rw[ep];unfold bu;rw[vQ s1]
 have hds:=hds p hp
 have hrl:=wf.rows p hp
 have hcl:=wf.gk
 have gl:=bl.len
 have ewd:cE st kept whole jp*(whole / cE st kept whole jp)=whole:=Int.mul_ediv_cancel' Vd
 have a5:cE st kept whole jp*p'.sc=p.sc*kept:=e3▸Int.mul_ediv_cancel' hds
 rw[YK]
 clear ec ep YK e3 bl Vd hds s1
 generalize cE st kept whole jp=d at *
 have etop:d*(aT st' p').getD j 0=(aT st p).getD j 0*kept+jp.getD j 0:=by
  have a1:(aT st' p').getD j 0=p'.sc*p.row.getD j 0+((gP st kept jp).map (· / d)).getD j 0:=by unfold aT;rw[aiw,e2,lV (f:=λr c=>p'.sc*r+c) (by show p'.sc*0+0=0;omega)];rw[aG];unfold gP;rw[kL,gl,hrl,hcl];omega
  have a2:(aT st p).getD j 0=p.sc*p.row.getD j 0+st.bU.getD j 0:=by unfold aT;exact lV (f:=λr c=>p.sc*r+c) (by show p.sc*0+0=0;omega) (by rw[hrl,hcl]) j
  have a3:(gP st kept jp).getD j 0=st.bU.getD j 0*kept+jp.getD j 0:=by unfold gP;exact lV (f:=λt m=>t*kept+m) (by show(0:Int)*_+0=0;omega) gl.symm j
  have a4:d*((gP st kept jp).map (· / d)).getD j 0=(gP st kept jp).getD j 0:=by
   rw[dQ,dQ,bP];cases ec:(gP st kept jp)[j]? with
   | none=>show _*0=(0:Int);omega
   | some x=>exact Int.mul_ediv_cancel' (hdc x (bg ec))
  rw[a1,lP,<-i7,a5,a4,a3,a2]
  grind
 generalize whole / d=Ve at *
 generalize (aT st' p').getD j 0=T' at *
 generalize (aT st p).getD j 0=T at *
 generalize jp.getD j 0=gS at *
 refine Int.eq_of_mul_eq_mul_left (a:=d) (by omega) ?_
 have l1:d*((t0*kept+gB)*(st.prod*Ve))=(t0*st.prod*kept+gB*st.prod)*(d*Ve):=by grind
 have l2:d*(T'*(B*whole))=(d*T')*(B*whole):=by grind
 rw[l1,l2,ewd,tj,eB,etop]
 grind
theorem Vf(t:Ea st b)(rl:jX st b)(wf:Wf st)(wb:yo b)(c:pC st rs)(rb:vV b rs)(bo:mD b (di b rs) 0 0):Ea (gX st rs) (ju b (di b rs) 0 0):=by
 intro p' eW q' hq' en j;have bl:=c.blend wf;have ew:=rl.whole;have wV:∀r∈rs,∃p∈st.ah,p.nm=r.1:=λr hr=>by obtain⟨p,hp,e,_⟩:=(c.row r hr).2.2;exact(p,hp,e)
 have eG:=BO wf wV;have gl:(gC st rs).length=st.bU.length:=bl.len;obtain⟨p1,hp1,e1,e2,e3⟩:=MW rs (s:=bu st (aI st-bL rs) (aI st) (gC st rs)) eW;have eK:=kq rs (bu st (aI st-bL rs) (aI st) (gC st rs));have aix:p1∈st.ah.map (λp:Pt=>{ p with sc:=p.sc*(aI st-bL rs) / cE st (aI st-bL rs) (aI st) (gC st rs) }):=by have h:=hp1;unfold bu at h;rw[lN]at h;exact h
 obtain⟨p,hp,rfl⟩:=bw.mp aix;have e1:p'.nm=p.nm:=e1;have e2:p'.row=p.row:=e2;have e3:p'.sc=p.sc*(aI st-bL rs) / cE st (aI st-bL rs) (aI st) (gC st rs):=e3;have hcl:=wf.gk;obtain⟨h1,_⟩:=iU.mp (show q'∈(dY b (di b rs) 0 0).filter _ from hq');obtain⟨k,q,a,eq,_,nD⟩:=jx (show q'∈List.zipWith (nC (iE b (di b rs) 0 0) (bV b-0-(di b rs).sum)) b.ah (di b rs)from h1);have hq:=bg eq;have enq:p.nm=q.nm:=by rw[<-e1,en,nD];rfl
 have tj:=t p hp q hq enq j;have hs:=Jv wb.nd rb rs.length (aO _);rw[cQ]at hs;have eqt:q'.tops.getD j 0=q.tops.getD j 0*(bV b-bL rs)+(gQ b (di b rs)).getD j 0:=by rw[nD];show(List.zipWith _ q.tops (iE b (di b rs) 0 0)).getD j 0=_;rw[lV (f:=λt g=>t*(bV b-0-(di b rs).sum)+g) (by show(0:Int)*_+0=0;omega) (by rw[wb.tl q hq,wR]),hs,yb];rfl
 have eGj:(gC st rs).getD j 0=wU rs λx=>(aT st (cS st x)).getD j 0:=by
  rw[eG,MV rs _ (λr hr=>by obtain⟨x,hx,e⟩:=wV r hr;rw[dR wf hx e,jr,tH wf hx])]
  have:(List.replicate st.bU.length (0:Int)).getD j 0=0:=by rw[dQ,R0];split <;> rfl
  omega
 have eBj:(gQ b (di b rs)).getD j 0*st.prod=(gC st rs).getD j 0*b.bot:=by
  have pr:=SS wb.nd rb (λx=>(aT st (cS st x)).getD j 0) rs.length (aO _);rw[cQ]at pr;rw[eGj,<-pr];by_cases cj:j<b.own.length
  .have e:(gQ b (di b rs)).getD j 0=(b.ah.map λp=>p.tops.getD j 0*dP rs p.nm).sum:=by unfold gQ;rw[dQ,bP,List.getElem?_range cj];exact aad j
   rw[e,JA st.prod b.ah (λp=>p.tops.getD j 0*dP rs p.nm) (λp=>((aT st (cS st p.nm)).getD j 0*dP rs p.nm)*b.bot) (λx hx=>?_)]
   .exact (JA b.bot b.ah (λp=>(aT st (cS st p.nm)).getD j 0*dP rs p.nm) _ λx _=>rfl).symm
   .obtain ⟨i,hi,ei⟩:=oQ hx;obtain⟨y,hy,ey,_⟩:=rl.at (i:=i) (q:=x) (by rw[a_ hi,ei])
    have hy:=bg hy;have:=t y hy x hx ey j;rw[dR wf hy ey,Int.mul_right_comm,this,Int.mul_right_comm]
  .have z1:(gQ b (di b rs)).getD j 0=0:=by rw[dQ,sW (by rw[lU];omega)];rfl
   have z2:(gC st rs).getD j 0=0:=by rw[dQ,sW (by rw[gl,hcl,rl.own];omega)];rfl
   rw[z1,pr,<-eGj,z2];omega
 rw[eqt,<-ew];show _=(aT (gX st rs) p').getD j 0*(b.bot*bV b);rw[<-ew];exact BU wf bl (by unfold gX;rw[eK]) (by unfold gX;rw[eK]) hp e2 e3 tj eBj
theorem Vg(t:Ea st b)(rl:jX st b)(wf:Wf st)(wb:yo b){o:Str}(h1:x∉b.ah.map (λp:BP=>p.nm)):Ea (yi st x o wo we) (Al b x o wo we):=by
 intro p hp q hq en j;have nmE:∀y∈st.ah,y.nm∈b.ah.map (λp:BP=>p.nm):=λy hy=>by obtain⟨i,hi,ei⟩:=oQ hy;obtain⟨z,hz,ez,_⟩:=rl.at' (i:=i) (p:=y) (by rw[a_ hi,ei]);rw[ez];exact bw.mpr (z,bg hz,Z)
 show q.tops.getD j 0*st.prod=(aT st p).getD j 0*b.bot;rcases dN.mp (show p∈st.ah++[_]from hp)with zp|zp
 .rcases dN.mp (show q∈b.ah++[_]from hq)with zq|zq
  .exact t p zp q zq en j
  .rw [dw.mp zq]at en;have en:p.nm=x:=en;exact absurd (en▸nmE p zp) h1
 .rcases dN.mp (show q∈b.ah++[_]from hq)with zq|zq
  .rw [dw.mp zp]at en;have en:x=q.nm:=en;exact absurd (en▸bw.mpr (q,zq,Z)) h1
  .rw [dw.mp zp,dw.mp zq];have e1:aT st (x,o,wo,we,1,mQ st ((List.replicate st.own.length 0).set (st.own.idxOf o) st.prod))=(List.replicate st.own.length 0).set (st.own.idxOf o) st.prod:=by show List.zipWith (λr c=>1*r+c) (List.zipWith (λt c=>t-c) ((List.replicate st.own.length 0).set (st.own.idxOf o) st.prod) st.bU) st.bU=_;rw[D5,wf.gk];exact G0 (by rw[fF,jr];exact aO _)
   rw[e1,rl.own];show((List.replicate b.own.length 0).set (b.own.idxOf o) b.bot).getD j 0*st.prod=((List.replicate b.own.length 0).set (b.own.idxOf o) st.prod).getD j 0*b.bot;have key:∀v:Int,((List.replicate b.own.length 0).set (b.own.idxOf o) v).getD j 0=if b.own.idxOf o=j/\j<b.own.length then v else 0:=λv=>by
    rw[dQ,Sb];by_cases c:b.own.idxOf o=j
    .rw [ay c];by_cases d:b.own.idxOf o<(List.replicate b.own.length (0:Int)).length
     .rw [ay d,ay (c,by rw[jr]at d;omega)];rfl
     .rw [av d,av (λz=>d (by rw[jr];omega))];rfl
    .rw [av c,av (λz=>c z.1),R0];split <;> rfl
   rw[key,key];split
   .exact mX _ _
   .omega
theorem FT{st:HS}{b:BS}(t:Ea st b)(rl:jX st b)(wf:Wf st)(wb:yo b){p:Pt}{q:BP}(hp:p∈st.ah)(hq:q∈b.ah)(e:p.nm=q.nm):lD st p=dm b.own q.tops b.bot:=by
 have p1:=wf.gq;have b1:=wb.b1;have l1:(aT st p).length=b.own.length:=by rw[tH wf hp,wf.gk,rl.own]
 have l2:q.tops.length=b.own.length:=wb.tl q hq;have tj:=t p hp q hq e;unfold lD dm;rw[rl.own];generalize aT st p=xs at *;generalize q.tops=ys at *;generalize b.own=own at *;have step:∀(own:Da Str)(xs ys:Da Int),xs.length=own.length->ys.length=own.length->(∀j,ys.getD j 0*st.prod=xs.getD j 0*b.bot)->(List.zip own xs).filterMap (λx=>if 0<x.2 then some (Prod.mk (x.1) (Jm.fr x.2 st.prod)) else none)=(List.zip own ys).filterMap λx=>if 0<x.2 then some (Prod.mk (x.1) (Jm.fr x.2 b.bot)) else none:=by
  intro own
  induction own with
  | nil=>intro xs ys _ _ _;simp
  | cons o own ih=>
   intro xs ys h1 h2 h3;cases xs with
   | nil=>simp at h1
   | cons x xs=>
    cases ys with
    | nil=>simp at h2
    | cons y ys=>
     have h0:y*st.prod=x*b.bot:=by simpa using h3 0
     have ih:=ih xs ys (by simpa using h1) (by simpa using h2) (λj=>by simpa using h3 (j+1));rw[List.zip_cons_cons,List.zip_cons_cons,Bf,Bf,ih];by_cases c:0<x
     .have c2:0<y:=by
       rcases EW 0 y with z|z
       .exact z
       .have k1:y*st.prod<=0:=Int.mul_nonpos_of_nonpos_of_nonneg z (by omega);have k2:0<x*b.bot:=CG c (by omega);omega
      simp only[ay c,ay c2];rw[Jm.Lp (t:=x) (b:=st.prod) (t':=y) (b':=b.bot) (by omega) (by omega) h0.symm]
     .have c2:¬ 0<y:=λz=>by have k1:0<y*st.prod:=CG z (by omega);have k2:x*b.bot<=0:=Int.mul_nonpos_of_nonpos_of_nonneg (by omega) (by omega);omega
      simp only[av c,av c2]
 exact step own xs ys l1 l2 tj
theorem DH{α:Type}(f g:α->Int):∀l:Da α,(l.map λx=>f x+g x).sum=(l.map f).sum+(l.map g).sum
 | []=>rfl
 | a::l=>by rw[bK,bK,bK,cI,cI,cI,DH f g l];omega
theorem uh{α:Type}(f:α->Int)(k:Int):∀l:Da α,(l.map λx=>f x*k).sum=(l.map f).sum*k
 | []=>by simp
 | a::l=>by rw[bK,bK,cI,cI,uh f k l,pQ]
theorem O9:∀(l:Da Int)(n:Nat),l.length=n->(List.range n).map (λi=>l.getD i 0)=l:=λl n h=>by
 refine List.ext_getElem? λi=>?_;rw[bP];by_cases hi:i<n
 .rw [List.getElem?_range hi,a_ (by omega)];show some (l.getD i 0)=_;rw[dQ,a_ (by omega)];rfl
 .rw [sW (by rw[Hl];omega),sW (by omega)];rfl
theorem JB{B:Int}{n:Nat}:∀(ps:Da BP)(as:Da Int),(∀p∈ps,p.tops.length=n/\p.tops.sum=B)->as.length=ps.length->((List.range n).map (iR ps as)).sum=B*as.sum
 | [],[],_,_=>by
  have:(List.range n).map (iR [] [])=(List.range n).map λ_=>(0:Int)*0:=by congr 1
  rw[this,uh];simp
 | [],_::_,_,h=>by simp at h
 | _::_,[],_,h=>by simp at h
 | p::ps,a::as,hp,hl=>by
  have e:(List.range n).map (iR (p::ps) (a::as))=(List.range n).map λi=>p.tops.getD i 0*a+iR ps as i:=by congr 1
  obtain⟨h1,h2⟩:=hp p cO;have ih:=JB ps as (λx hx=>hp x (cR _ hx)) (by simpa using hl);rw[e,DH,uh,O9 _ _ h1,ih,h2,cI,lP]
theorem pF:∀{l:Da Int}{i:Nat}{x:Int},i<l.length->(l.set i (l.getD i 0+x)).sum=l.sum+x
 | a::l,0,x,_=>by rw[LG,cI,cI];show a+x+_=_;omega
 | a::l,i+1,x,h=>by rw[LF,cI,cI];have:=pF (l:=l) (i:=i) (x:=x) (by simpa using h);have e:(a::l).getD (i+1) 0=l.getD i 0:=rfl;rw[e,this];omega
 | [],_,_,h=>by simp at h
theorem HK(k:Int):∀{ts gs:Da Int},ts.length=gs.length->(List.zipWith (λt g=>t*k+g) ts gs).sum=ts.sum*k+gs.sum
 | [],[],_=>by simp
 | t::ts,g::gs,h=>by have:=HK k (ts:=ts) (gs:=gs) (by simpa using h);rw[uS,cI,cI,cI,this,pQ];omega
 | [],_::_,h=>by simp at h
 | _::_,[],h=>by simp at h
theorem Xp(wf:yo b){aw:Int}(ok:mD b as seat aw)(hs:∀p∈b.ah,p.tops.sum=b.bot):∀p∈(ju b as seat aw).ah,p.tops.sum=(ju b as seat aw).bot:=λp hp=>by
 obtain⟨h1,_⟩:=iU.mp (show p∈(dY b as seat aw).filter _ from hp);obtain⟨i,x,a,ex,ea,rfl⟩:=jx (show p∈List.zipWith (nC (iE b as seat aw) (bV b-aw-as.sum)) b.ah as from h1);have hx:=bg ex;show(List.zipWith (λt g=>t*(bV b-aw-as.sum)+g) x.tops (iE b as seat aw)).sum=b.bot*bV b;rw[HK _ (by rw[wf.tl x hx,wR]),hs x hx];have eg:(gQ b as).sum=b.bot*as.sum:=JB b.ah as (λp hp=>(wf.tl p hp,hs p hp)) ok.len;have e2:(iE b as seat aw).sum=b.bot*(as.sum+aw):=by
  unfold iE;by_cases h:0<aw
  .rw [ay h,pF (by rw[lU];exact ok.seat),eg,lP,mX aw]
  .have:aw=0:=by have:=ok.FJ;omega
   rw[av h,eg,this,Int.add_zero]
 rw[e2,<-lP];congr 1;omega
inductive vc(own:Da Str):Da iX->Da BE->Prop
 | nil:vc own [] []
 | cons {a:iX} {e:BE} {as:Da iX} {es:Da BE}:a.nm=e.nm->a.ow=e.ow->a.wo=e.wo->a.sh=dm own e.tops e.bot->e.tops.length<=own.length->0<e.bot->Jm.Sz 9000 e.bot->PyData.strOk e.nm=true->PyData.strOk e.ow=true->vc own as es->vc own (a::as) (e::es)
def vc.snoc{as:Da iX}{es:Da BE}(h:vc own as es){a:iX}{e:BE}(h1:a.nm=e.nm)(h2:a.ow=e.ow)(h3:a.wo=e.wo)(h4:a.sh=dm own e.tops e.bot)(h5:e.tops.length<=own.length)(h6:0<e.bot)(h7:Jm.Sz 9000 e.bot)(h8:PyData.strOk e.nm=true)(h9:PyData.strOk e.ow=true):vc own (as++[a]) (es++[e]):=by
 induction h with
 | nil=>exact .cons h1 h2 h3 h4 h5 h6 h7 h8 h9 .nil
 | cons a1 a2 a3 a4 a5 a6 a7 a8 a9 _ ih=>exact .cons a1 a2 a3 a4 a5 a6 a7 a8 a9 ih
structure eX(c:Nat)(st:HS)(b:BS):Prop where
 fD:yo b
 rel:jX st b
 oW:Ea st b
 bN:∀u∈st.bN,Jm.Sz (60*c+60) u
 stp:st.stp.length<=c
 prod:Jm.Sz (60*c+1) st.prod
 bot:Jm.Sz (60*c+1) b.bot
 wo:∀p∈b.ah,p.wo<=1000000000*((c:Int)+1)
 we:∀p∈b.ah,p.we<=1000000000
 pl:b.ah.length<=50+c
 kl:b.eF.length<=900+c
 own:0<b.own.length
 nm:∀p∈b.ah,PyData.strOk p.nm=true/\PyData.strOk p.ow=true
 bM:vc b.own st.bM b.bM
 eF:st.nms=b.eF
 nk:∀x∈b.eF,isNm x=true
 on:∀o∈b.own,isNm o=true
 sum:∀p∈b.ah,p.tops.sum=b.bot
variable {c:Nat}
theorem eX.mono(g:eX c st b):eX (c+1) st b:=(g.fD,g.rel,g.oW,λu hu=>(g.bN u hu).mono (by omega),by have:=g.stp;omega,g.prod.mono (by omega),g.bot.mono (by omega),λp hp=>by have:=g.wo p hp;omega,g.we,by have:=g.pl;omega,by have:=g.kl;omega,g.own,g.nm,g.bM,g.eF,g.nk,g.on,g.sum)
def eX.nms(g:eX c st b):acI st.ah:=λp hp=>by obtain⟨i,hi,e⟩:=oQ hp;obtain⟨q,eq,e1,e2,_⟩:=g.rel.at' (i:=i) (p:=p) (by rw[a_ hi,e]);rw[e1,e2];exact g.nm q (bg eq)
theorem DI:∀{ps:Da BP}{m:Int},(∀p∈ps,1<=p.wo/\p.wo<=m)->0<=(ps.map λp=>p.wo).sum/\(ps.map λp=>p.wo).sum<=m*(ps.length:Int)
 | [],m,_=>by show 0<=(0:Int)/\(0:Int)<=m*0;omega
 | p::ps,m,h=>by have h0:=h p cO;have ih:=DI (ps:=ps) (m:=m) λx hx=>h x (cR _ hx);rw[bK,cI,ig,show(((ps.length+1:Nat)):Int)=(ps.length:Int)+1 from by omega,lP,pO];omega
theorem eX.whole(g:eX c st b)(hc:c<=100):0<=bV b/\Jm.Sz 60 (bV b):=by
 have h:=DI (ps:=b.ah) (m:=101000000000) λp hp=>(g.fD.w1 p hp,by have:=g.wo p hp;omega)
 refine(h.1,?_);have hl:=g.pl;have h2:(101000000000:Int)*(b.ah.length:Int)<=15150000000000:=by omega
 have h3:bV b<=15150000000000:=CF h.2 h2;have h1:0<=bV b:=h.1;have:Jm.Sz 60 (15150000000000:Int):=iN (by decide +kernel);exact this.of_le (by omega)
variable {st':HS}
theorem Ri{aw kept:Int}(g:eX c st b)(bl:oh st kept (aI st) lost jp)(bo:mD b as seat aw)(hc:c<=90)(eC:st'={ bu st kept (aI st) jp with ah:=st'.ah })(rw':jX st' (ju b as seat aw))(rt:Ea st' (ju b as seat aw)):eX (c+1) st' (ju b as seat aw):=by
 have zw:=g.whole (by omega);have ew:=g.rel.whole;obtain⟨hs,hsw,_,_⟩:=bl.dvds;have w1:0<aI st:=by have:=bl.k;have:=bl.l;have:=bl.w;omega
 have s1:1<=aI st / cE st kept (aI st) jp:=by have:=EU w1 hsw;exact R5 hs (by omega)
 have s2:aI st / cE st kept (aI st) jp<=aI st:=EN _ (by omega);have zs:Jm.Sz 60 (aI st / cE st kept (aI st) jp):=by have:=zw.2;rw[<-ew]at this;exact this.of_le (by omega)
 have D_:∀p∈(ju b as seat aw).ah,∃p0∈b.ah,∃a,a∈as/\p=nC (iE b as seat aw) (bV b-aw-as.sum) p0 a:=λp hp=>by obtain⟨h1,_⟩:=iU.mp (show p∈(dY b as seat aw).filter _ from hp);obtain⟨i,x,a,ex,ea,e⟩:=jx (show p∈List.zipWith (nC (iE b as seat aw) (bV b-aw-as.sum)) b.ah as from h1);exact(x,bg ex,a,bg ea,e)
 have zb:Jm.Sz (60*(c+1)+1) (b.bot*bV b):=(g.bot.mul zw.2).mono (by omega);refine(Xo g.fD bo (zb.mono (by omega)),rw',rt,λu hu=>?_,?_,?_,zb,λp hp=>?_,(λp hp=>by obtain⟨p0,h0,a,_,rfl⟩:=D_ p hp;exact g.we p0 h0),?_,(by show b.eF.length<=_;have:=g.kl;omega),g.own,λp hp=>?_,?_,?_,g.nk,g.on,Xp g.fD bo g.sum)
 .rw [eC]at hu;have hu:u∈(bu st kept (aI st) jp).bN:=hu;unfold bu at hu;rw[yj]at hu;obtain⟨x,hx,rfl⟩:=bw.mp hu;exact((g.bN x hx).mul zs).mono (by omega)
 .rw [eC];show(bu st kept (aI st) jp).stp.length<=c+1;unfold bu fV;split
  .show (st.stp++[_]).length<=c+1;rw[c7];have:=g.stp;show st.stp.length+1<=c+1;omega
  .show st.stp.length<=c+1;have:=g.stp;omega
 .rw [eC];show Jm.Sz _ (bu st kept (aI st) jp).prod;unfold bu;rw[vQ s1];exact(g.prod.mul zs).mono (by omega)
 .obtain ⟨p0,h0,a,ha,rfl⟩:=D_ p hp;have:=g.wo p0 h0;have:=bo.a0 a ha;show p0.wo-a<=1000000000*(((c+1:Nat):Int)+1);omega
 .have:=G1 (λp:BP=>decide (0<p.wo)) (dY b as seat aw);rw[yp bo.len]at this;have:=g.pl;show(List.filter _ _).length<=_;omega
 .obtain ⟨p0,h0,a,_,rfl⟩:=D_ p hp;exact g.nm p0 h0
 .rw [eC];show vc b.own (bu st kept (aI st) jp).bM b.bM;unfold bu;rw[yl];exact g.bM
 .rw [eC];show(bu st kept (aI st) jp).nms=b.eF;unfold bu;rw[yk];exact g.eF
def aae(g:eX c st b)(wf:Wf st)(ok:pC st rs)(rb:vV b rs)(bo:mD b (di b rs) 0 0)(hc:c<=90):eX (c+1) (gX st rs) (ju b (di b rs) 0 0):=Ri g (ok.blend wf) bo hc (kq rs (bu st (aI st-bL rs) (aI st) (gC st rs))) (Va g.rel wf ok) (Vf g.oW g.rel wf g.fD ok rb bo)
def aaf(st:HS)(rs:Da Row):(gX st rs).kn<=st.kn:=by
 unfold gX;rw[kq];show(bu st (aI st-bL rs) (aI st) (gC st rs)).kn<=st.kn;unfold bu fV;split
 .exact gE _
 .exact aO _
theorem zf(h:isNm x=true):PyData.strOk x=true:=by
 unfold PyData.strOk;rw[Array.all_eq_true'];intro c hc;unfold isNm isName at h;have h1:=t_.mp (nu.mp h).2 c (by simpa using hc);rw[ZU]at h1;have hm:=eO h1;have:∀c∈("abcdefghijklmnopqrstuvwxyz":Str).cps.toList,c<1000:=by decide +kernel
 have:=this c hm;exact bR (by omega)
def tL(n:Nat):(List.replicate n (0:Int)).sum=0:=by
 induction n with
 | zero=>rfl
 | succ n ih=>rw[zP,cI,ih];rfl
theorem aag(g:eX c st b)(wf:Wf st){o:Str}(h1:x∉b.ah.map (λp:BP=>p.nm))(h2:1<=wo)(h2':wo<=1000000000)(h3:b.ah.length<50)(h4:b.eF.length<900)(hx:isNm x=true)(ho:o∈b.own)(h5:we<=1000000000):eX c (yi st x o wo we) (Al b x o wo we):=by
 have P:∀{M:BP->Prop},(∀p∈b.ah,M p)->M (x,o,wo,we,(List.replicate b.own.length 0).set (b.own.idxOf o) b.bot)->∀p∈(Al b x o wo we).ah,M p:=λa c p hp=>by
  rcases dN.mp (show p∈b.ah++[_]from hp)with z|z
  .exact a p z
  .rw [dw.mp z];exact c
 refine(aac g.fD h1 h2 (by omega) (by omega),Vb g.rel x o wo we,Vg g.oW g.rel wf g.fD h1,g.bN,g.stp,g.prod,g.bot,P g.wo (by show wo<=_;omega),P g.we h5,by show(b.ah++[_]).length<=50+c;rw[c7];show b.ah.length+1<=50+c;omega,by show(b.eF++[_]).length<=900+c;rw[c7];show b.eF.length+1<=900+c;omega,g.own,P g.nm (zf hx,zf (g.on o ho)),g.bM,?_,?_,g.on,P g.sum ?_)
 .show st.nms++[x]=b.eF++[x];rw[g.eF]
 .intro y hy;rcases dN.mp (show y∈b.eF++[x]from hy)with z|z
  .exact g.nk y z
  .rw [dw.mp z];exact hx
 .show ((List.replicate b.own.length 0).set (b.own.idxOf o) b.bot).sum=b.bot;have hi:b.own.idxOf o<(List.replicate b.own.length (0:Int)).length:=jr▸Lw.mpr ho;have:=pF (x:=b.bot) hi;rw[show(List.replicate b.own.length (0:Int)).getD (b.own.idxOf o) 0=0 from by rw[dQ,a_ hi,List.getElem_replicate];rfl,ya,tL,ya]at this;exact this
theorem oB:∀(l:Da Str)(st:HS),st.ah=[]->(∀u∈st.bN,u=0)->(l.foldl gW st).ah=[]/\(l.foldl gW st).nms=st.nms/\(l.foldl gW st).stp=st.stp/\(l.foldl gW st).prod=st.prod/\(l.foldl gW st).bM=st.bM/\∀u∈(l.foldl gW st).bN,u=0
 | [],_,h,hp=>(h,Z,Z,Z,Z,hp)
 | o::l,st,h,hp=>by
  rw[kT];exact oB l (gW st o) (by show st.ah.map _=[];rw[h];rfl) (λu hu=>by
   rcases dN.mp (show u∈st.bN++[0]from hu)with z|z
   .exact hp u z
   .exact dw.mp z)
def gd0(h0:0<own.length)(h1:own.length<=100)(hon:∀o∈own,isNm o=true):eX 0 (own.foldl gW hs0) (own,[],1,[],[])/\(own.foldl gW hs0).nms=[] :=by obtain⟨k1,k2,k3,k4,k5,k6⟩:=oB own hs0 rfl (λu hu=>absurd hu (by simp[hs0]));refine(((x9,λp hp=>absurd hp (by simp),λp hp=>absurd hp (by simp),eZ _,(by show Jm.Sz 7000 1;exact iN (by decide +kernel)),λp hp=>absurd hp (by simp),h1,gE _,gE _),(by rw[uI];rfl,by unfold iM oz;rw[k1];rfl),(λp hp=>by rw[k1]at hp;exact absurd hp (by simp)),(λu hu=>by rw[k6 u hu];exact iN (by decide +kernel)),k3▸aO _,(by rw[k4];show Jm.Sz (60*0+1) 1;exact iN (by decide +kernel)),(by show Jm.Sz (60*0+1) 1;exact iN (by decide +kernel)),λp hp=>absurd hp (by simp),λp hp=>absurd hp (by simp),gE _,gE _,h0,λp hp=>absurd hp (by simp),(k5 ▸ .nil),k2,(λx hx=>nomatch hx),hon,λp hp=>absurd hp (by simp)),k2)
def zg(K:Fg)(ρ:d8)(H:Hp)(z:Addr)(xs:Da V):Prop:=∀(ρ':d8)(H':Hp),aM (out ρ H) (out ρ' H')->aC K H' z xs
def zg.of(h:aC K H z xs):zg K (λ_=>none) H z xs:=λρ' H' s=>by
 rcases h with(h|⟨o,h⟩)|h
 .exact .inl (.inl (tD (s _ _ (y9 h rfl))).1)
 .exact .inl (.inr (o,(tD (s _ _ (y9 h rfl))).1))
 .exact .inr h
def zg.go(h:zg K ρ H z xs)(s:aM (out ρ H) (out ρ' H')):zg K ρ' H' z xs:=λ_ _ s'=>h _ _ (s.trans s')
def aC.outs(h:aC K H z xs)(c:ρ z=none)(s:aM (out ρ H) (out ρ' H')):aC K H' z xs:=by
 rcases h with(h|⟨o,h⟩)|h
 .exact .inl (.inl (tD (s _ _ (y9 h c))).1)
 .exact .inl (.inr (o,(tD (s _ _ (y9 h c))).1))
 .exact .inr h
theorem HH.other(h:HH T n ρ A H st)(f:Fr m ρ H ρ' H')(g:Gh ρ' H')(e:n≠m):HH T n ρ' A H' st:=(g,h.h.other f h.g e,h.wf)
def afm(g:eX c st b)(k:Nat):eX c { st with kn:=k } b:=(g.fD,(g.rel.own,g.rel.qd),g.oW,g.bN,g.stp,g.prod,g.bot,g.wo,g.we,g.pl,g.kl,g.own,g.nm,g.bM,g.eF,g.nk,g.on,g.sum)
theorem MX:∀(l:Da Str)(st:HS),(l.foldl gW st).kn=st.kn
 | [],_=>rfl
 | o::l,st=>by rw[kT,MX l];rfl
def Xq(ps:Da Str)(hk:∀r∈ps,PyData.strOk r=true):PyData.canLayAll0 (ps.map PyData.str)=true:=by
 induction ps with
 | nil=>rfl
 | cons q r ih=>rw[bK];unfold PyData.canLayAll0;rw[ih λp hp=>hk p (cR _ hp),Bool.and_true];unfold PyData.canLay0;exact hk q cO
theorem SV(ps:Da Str):PyData.depthAll (ps.map PyData.str)<=1:=by
 induction ps with
 | nil=>exact gE _
 | cons q r ih=>rw[bK];unfold PyData.depthAll;have:PyData.depth (.str q)<=1:=Nat.le_of_ble_eq_true rfl;omega
theorem DJ(ps:Da Str)(hk:∀r∈ps,PyData.strOk r=true):SeqAt.shaped (.list (ps.map PyData.str))=true:=by unfold SeqAt.shaped PyData.canLay0 PyData.depth;rw[Xq ps hk];have:=SV ps;simp only[Bool.true_and,decide_eq_true_eq];omega
def Xr(ps:Da Str):PyData.eqv (.list (ps.map PyData.str)) (.list (ps.map PyData.str))=true:=by
 unfold PyData.eqv
 induction ps with
 | nil=>rfl
 | cons q r ih=>rw[bK];unfold PyData.eqvAll;rw[ih,Bool.and_true];exact ZT q
theorem HL{K:Fg}{H:Hp}:∀(l:Da Str),Br K H (l.map V.str) (l.map PyData.str)
 | []=> .nil
 | x::l=> .cons (.str x) (HL l)
inductive acU(d:Nat)(T:TC)(K:Fg)(vs:Da V)(H:Hp)(Q:VK)(E:XK):Prop
 |mk(n m ρ A B st b:_)(c:Nat)(_:vs=[.ref A.a,.ref B.m])(_:n≠m)(_:HH T n ρ A H st)(_:bf m ρ B H b)(_:eX c st b)(_:c<=100)(_:(∀o∈b.own,PyData.strOk o=true))(_:st.kn+15000*d<=1000000)(_:∀ρ' A' H' k,HH T n ρ' A' H' { st with kn:=k }->k<=st.kn+15000*d->bf m ρ' B H' b->A'.a=A.a->aM (out ρ H:_) (out ρ' H':_)->Q (.bl true) H')
def v8(d:Nat)(T:TC)(K:Fg):Sp:=bx (acU d T K)
structure c8(K:Fg)(x:Str)(st:Stmt):Prop where
 ex:∃(f:Addr)(oc:Value)(od an:Option Addr)(sl:Array (Option Value))(kV dc pm cd ct:Value),PySem.W.nsIn K mainGlobals x=some (some (.ref f))/\K.lookup f=some (oc,od,.func (PySem.W.fnOf x x (gI st) (dU st) (aD st) .none kV dc pm an cd ct),sl)/\PySem.W.codeIn K cd x=true/\PySem.W.keepIn K (.ref f)=true
def c8.at{st:Stmt}(d:c8 K x st)(X:K.In h)(G:h.Ns mainGlobals mg):∃f fd,At K mg x st f fd:=by obtain⟨f,oc,od,an,sl,kV,dc,pm,cd,ct,a,l,c,k⟩:=d.ex;exact(f,_,Yw X G a l c k)
structure dj(K:Fg)(C:Addr)(n qual:Str)(st:Stmt):Prop where
 ex:∃(f:Addr)(oc:Value)(od an:Option Addr)(sl:Array (Option Value))(kV dc pm cd ct:Value),PySem.W.findIn K (.ref C) n=some (some (.ref f))/\PySem.W.isFn K (.ref f)=true/\K.lookup f=some (oc,od,.func (PySem.W.fnOf n qual (gI st) (dU st) (aD st) .none kV dc pm an cd ct),sl)/\PySem.W.codeIn K cd qual=true/\PySem.W.keepIn K (.ref f)=true
def dj.at{n:Str}{st:Stmt}(d:dj K C n qual st)(cl:q_ K C):∃f fd,ja K C n qual st f fd:=by obtain⟨f,oc,od,an,sl,kV,dc,pm,cd,ct,a,i,l,c,k⟩:=d.ex;exact(f,_,Mb l c k,(a,i,k),cl)
def dj.made{st:Stmt}(d:dj K C "__init__" qual st)(X:K.In h)(G:h.Ns mainGlobals mg)(a0:PySem.W.nsIn K mainGlobals x=some (some (.ref C)))(m:PySem.W.makesIn K C=true)(kc:PySem.W.keepIn K (.ref C)=true):∃f fd,Je K mg x C qual st f fd:=by obtain⟨f,oc,od,an,sl,kV,dc,pm,cd,ct,a,i,l,c,k⟩:=d.ex;exact(f,_,Mb l c k,(m,a,i,kc),PySem.W.mg_of X G a0)
variable {oc pm ct:Value}{od an:Option Addr}{sl:Array (Option Value)}
def c8.of{st:Stmt}{kV dc cd:Value}(a:PySem.W.nsIn K mainGlobals x=some (some (.ref f)))(l:K.lookup f=some (oc,od,.func (PySem.W.fnOf x x (gI st) (dU st) (aD st) .none kV dc pm an cd ct),sl))(c:PySem.W.codeIn K cd x=true)(k:PySem.W.keepIn K (.ref f)=true):c8 K x st:=⟨(_,_,_,_,_,_,_,_,_,_,a,l,c,k)⟩
def dj.of{n:Str}{st:Stmt}{kV dc cd:Value}(a:PySem.W.findIn K (.ref C) n=some (some (.ref f)))(i:PySem.W.isFn K (.ref f)=true)(l:K.lookup f=some (oc,od,.func (PySem.W.fnOf n qual (gI st) (dU st) (aD st) .none kV dc pm an cd ct),sl))(c:PySem.W.codeIn K cd qual=true)(k:PySem.W.keepIn K (.ref f)=true):dj K C n qual st:=⟨(_,_,_,_,_,_,_,_,_,_,a,i,l,c,k)⟩
section
variable {X:Cx}
variable {o i:Expr}{pos:Pos}{td ty:TE}
end
def aah(xs:Da V)(k:Nat):Hs xs none (some (k:Int))=xs.take k:=by
 unfold Hs;rw[HT.WI,HT.Zv,List.drop_zero,Nat.sub_zero];rcases Nat.le_total k xs.length with h|h
 .rw [Nat.min_eq_left h]
 .rw [Nat.min_eq_right h,cQ,G0 h]
section
variable {a b:Da Nat}{m v:Int}(ha:rC a)(hb:rC b)(hm:1<=m)(hm2:m<=1000000000)(hv:0<=v)(hv2:v<=1000000000)
include ha hb hm hm2 hv hv2 in
end
section
variable {X:Cx}
end
section
variable {X:Cx}
end
section
variable {P:Program}{w:World}{K:Fg}{mg:SO}{base:Heap}{N:Da Str}{qual:Str}{scope:Scope}{f:Addr}{cd:Value}{A:Around}{outer:Da Env}{s0:Shared}{H0:Hp}{E:XK}{CX:Bm}
end
section
variable {P:Program}{w:World}{K:Fg}{mg:SO}{base:Heap}{N:Da Str}{qual:Str}{scope:Scope}{f:Addr}{cd:Value}{A:Around}{outer:Da Env}{s0:Shared}{H0:Hp}{E:XK}
end
section
variable {X:Cx}{AC:AO}{σ:St}{Hc H:Hp}{sc s:Shared}{x C:Addr}{fl:Value}
end
section
variable {X:Cx}{AC:AO}{σ:St}{Hc H:Hp}{sc s:Shared}{x C:Addr}{fl:Value}
end
section
variable {X:Cx}{AC:AO}{σ:St}{Hc H:Hp}{sc s:Shared}{x C:Addr}{fl:Value}
end
open PySem.W PySem.Calls Builtin.ObjectAttr Builtin.Getset_descriptor
section
variable {prog:Program}{w:World}{A:Around}{E:VS}{h:Heap}{g:Array GenState}{d:Drawn}{t:Nat}{os:OsState}{x C:Addr}{o:Obj}{K:Frag}{R:Result->Shared->Prop}
end
section
variable {X:Cx}
end
structure Ec where
 (bad twice afn acV afo acW aiy rows aiz afp alz:Addr)
section
end
section
variable {P:Program}{w:World}{K:Fg}{mg:SO}{base:Heap}{N:Da Str}{qual:Str}{scope:Scope}{f:Addr}{cd:Value}{A:Around}{outer:Da Env}{s0:Shared}{H0:Hp}{E:XK}
end
section
variable {X:Cx}
end
noncomputable def Ec.at(e:Ec):Nat->Addr
 | 0=>e.bad|1=>e.twice|2=>e.afn|3=>e.acV|4=>e.afo|5=>e.acW|6=>e.aiy|7=>e.rows|8=>e.aiz|_=>e.afp
def Rf(e:Ec)(E:XK)(H:Hp)(i:Nat):Prop:=∀x H',aM H H'->E (.ref x) (some (e.at i)) H'
structure JC(T:TC)(e:Ec)(n:Nat)(ρ:d8)(A:HA)(H:Hp)(r:Option Nat)(st':HS)(Q:VK)(E:XK):Prop where
 no:∀i,r=some i->Rf e E H i
 ok:r=none->yh T n ρ A H st' λH'=>Q .cK H'
def newR(st:HS)(x:Str):Option Nat:=if isNm x=true then(if x∈st.nms then some 1 else none) else some 0
def Am(st:HS)(o:Str):Option Nat:=if isNm o=true then(if o∈st.own then some 1 else none) else some 0
def FU(st:HS)(x o:Str)(wo we:Int):Option Nat:=match newR st x with
 | some i=>some i
 | none=>if o∈st.own then(if wo<1\/we<0 then some 5 else none) else some 2
inductive aai(T:TC)(e:Ec)(vs:Da V)(H:Hp)(Q:VK)(E:XK):Prop
 |mk(n ρ A st o:_)(_:vs=[.ref A.a,.str o])(_:aY T n ρ A H st)(_:(o∉st.own->Rf e E H 2))(_:(o∈st.own->Q (.int (st.own.idxOf o:Int)) H))
def An(T:TC)(e:Ec):Sp:=bx (aai T e)
inductive Xs(T:TC)(e:Ec)(vs:Da V)(H:Hp)(Q:VK)(E:XK):Prop
 |mk(n ρ A st x:_)(_:vs=[.ref A.a,.str x])(_:aY T n ρ A H st)(_:(st.ah.map (·.nm)).Nodup)(_:((∀p∈st.ah,p.nm≠x)->Rf e E H 3))(_:∀(i:Nat) (p:Pt) (q:Addr×Addr×Addr),p.nm=x->st.ah[i]?=some p->A.qs[i]?=some q->Q (.ref q.1) H)
def nE(T:TC)(e:Ec):Sp:=bx (Xs T e)
inductive SW(T:TC)(e:Ec)(vs:Da V)(H:Hp)(Q:VK)(E:XK):Prop
 |mk(n ρ A st x:_)(_:vs=[.ref A.a,.str x])(_:aY T n ρ A H st)(_:x.cps.toList.length<=100000)(_:(∀i,newR st x=some i->Rf e E H i))(_:(newR st x=none->∀H',aM H H'->Q .cK H'))
def yJ(T:TC)(e:Ec):Sp:=bx (SW T e)
def BV(h1:isNm x=true)(h2:x∉st.nms):newR st x=none:=by unfold newR;rw[ay h1,av h2]
theorem FW{o:Str}(h1:isNm x=true)(h2:x∉st.nms)(h3:o∈st.own)(h4:1<=wo)(h5:0<=we):FU st x o wo we=none:=by unfold FU;rw[BV h1 h2];show(if o∈st.own then _ else _)=_;rw[ay h3,av (by omega)]
def JC.of{e:Ec}{r:Option Nat}(h:r=none)(q:yh T n ρ A H st' λH'=>Q .cK H'):JC T e n ρ A H r st' Q E0:=((λi z=>by rw[h]at z;cases z),λ_=>q)
inductive Dd where
 | sign (o:Str)|load (x o:Str) (wo we:Int)|cast (rs:Da Row)|award (o:Str) (a:Int)|mishap (x:Str) (a:Int)|rise (x:Str) (a:Int)|hand (x o:Str)|land (x:Str)|sever (x y:Str) (a we:Int)|still
noncomputable def kr:Da Row->Da V
 | []=>[]
 | r::rs=> .str r.1 :: .int r.2::kr rs
noncomputable def Dd.v:Dd->Da V
 | .sign o=>[.str "sign",.str o]
 | .load x o wo we=>[.str "load",.str x,.str o,.int wo,.int we]
 | .cast rs=> .str "cast"::kr rs
 | .award o a=>[.str "award",.str o,.int a]
 | .mishap x a=>[.str "mishap",.str x,.int a]
 | .rise x a=>[.str "rise",.str x,.int a]
 | .hand x o=>[.str "hand",.str x,.str o]
 | .land x=>[.str "land",.str x]
 | .sever x y a we=>[.str "sever",.str x,.str y,.int a,.int we]
 | .still=>[.str "still"]
def fW(st:HS):Da Str:=st.ah.map λp=>p.nm
def mR(st:HS)(r:Row):Option Nat:=if r.1∈fW st then(if r.2<1 then some 5 else if(cS st r.1).wo<r.2 then some 6 else none) else some 3
noncomputable def yr(st:HS)(rs:Da Row):Option Nat:=if rs≠[]/\(rs.map λr:Row=>r.1).Nodup then(match rs.findSome? (mR st)with
 | some i=>some i
 | none=>if aI st<=bL rs then some 6 else none) else some 7
def nF(st:HS)(o:Str)(a:Int):Option Nat:=if o∈st.own then(if a<1 then some 5 else if aI st<=a then some 6 else none) else some 2
def um(st:HS)(x:Str)(a:Int):Option Nat:=if x∈fW st then(if a<1 then some 5 else none) else some 3
def pU(st:HS)(x o:Str):Option Nat:=if x∈fW st then(if o∈st.own then none else some 2) else some 3
def vW(st:HS)(x:Str):Option Nat:=if x∈fW st then none else some 3
noncomputable def lF(st:HS)(x y:Str)(a we:Int):Option Nat:=if x∈fW st then(match newR st y with
 | some i=>some i
 | none=>if a<1\/we<0 then some 5 else if(cS st x).wo<=a\/(cS st x).we<we then some 6 else none) else some 3
noncomputable def tM(st:HS):Dd->Option Nat
 | .sign o=>Am st o
 | .load x o wo we=>FU st x o wo we
 | .cast rs=>yr st rs
 | .award o a=>nF st o a
 | .mishap x a=>mR st (x,a)
 | .rise x a=>um st x a
 | .hand x o=>pU st x o
 | .land x=>vW st x
 | .sever x y a we=>lF st x y a we
 | .still=>none
def BW(st:HS)(o:Str)(a:Int):HS:=bu st (aI st-a) (aI st) ((List.replicate st.own.length 0).set (st.own.idxOf o) (a*st.prod))
noncomputable def pG(st:HS)(x:Str)(f:Pt->Pt):HS:={ st with ah:=st.ah.map λp=>if p.nm=x then f p else p }
def FY(st:HS)(x:Str)(a:Int):HS:=pG st x λp=>{ p with wo:=p.wo+a }
def oE(st:HS)(p:Pt)(o:Str):Da Int:=((aT st p).set (st.own.idxOf o) ((aT st p).getD (st.own.idxOf o) 0+(aT st p).getD (st.own.idxOf p.ow) 0)).set (st.own.idxOf p.ow) 0
def jb(st:HS)(x o:Str):HS:=if st.own.idxOf o=st.own.idxOf (cS st x).ow then st else pG st x λp=>{ p with ow:=o,sc:=1,row:=mQ st (oE st p o) }
def gF(st:HS)(p:Pt):Da Int:=List.zipWith (λu t=>u+p.wo*t) st.bN (aT st p)
noncomputable def rM(st:HS)(x:Str):HS:={ st with ah:=st.ah.filter (λp=>decide (p.nm≠x)),bM:=st.bM++[⟨x,(cS st x).ow,(cS st x).wo,lD st (cS st x)⟩],kn:=st.kn+100,bN:=(gF st (cS st x)).set (st.own.idxOf (cS st x).ow) ((gF st (cS st x)).getD (st.own.idxOf (cS st x).ow) 0-(cS st x).wo*st.prod) }
def rN(st:HS)(x y:Str)(a we:Int):HS:=Af (pG st x λp=>{ p with wo:=p.wo-a,we:=p.we-we }) (y,(cS st x).ow,a,we,(cS st x).sc,(cS st x).row)
noncomputable def ku(st:HS):Dd->HS
 | .sign o=>gW st o
 | .load x o wo we=>yi st x o wo we
 | .cast rs=>gX st rs
 | .award o a=>BW st o a
 | .mishap x a=>eL st (x,a)
 | .rise x a=>FY st x a
 | .hand x o=>jb st x o
 | .land x=>rM st x
 | .sever x y a we=>rN st x y a we
 | .still=>st
def wl(s:Str):Nat:=s.cps.toList.length
section
variable {X:Cx}
end
section
variable {P:Program}{w:World}{K:Fg}{mg:SO}{base:Heap}{k:Nat}{T:TC}{e:Ec}{ps:Da Str}
end
def nB(i:Int):Prop:=-1000000000<=i/\i<=1000000000
def MY:Dd->Prop
 | .sign o=>wl o<=20
 | .load x o wo we=>wl x<=20/\wl o<=20/\nB wo/\nB we
 | .cast rs=>rs.length<=60/\∀r∈rs,wl r.1<=20/\nB r.2
 | .award o a=>wl o<=20/\nB a
 | .mishap x a=>wl x<=20/\nB a
 | .rise x a=>wl x<=20/\nB a
 | .hand x o=>wl x<=20/\wl o<=20
 | .land x=>wl x<=20
 | .sever x y a we=>wl x<=20/\wl y<=20/\nB a/\nB we
 | .still=>True
def Dd.k:Dd->Nat
 | .sign _=>0 | .load .. =>1 | .cast _=>2 | .award .. =>3 | .mishap .. =>4 | .rise .. =>5 | .hand .. =>6 | .land _=>7 | .sever .. =>8 | .still=>9
theorem BX:∀(l m:Da Row),kr (l++m)=kr l++kr m
 | [],_=>rfl
 | r::l,m=>by
  show V.str r.1::V.int r.2::kr (l++m)=V.str r.1::V.int r.2::(kr l++kr m)
  rw[BX l m]
theorem BY:∀l:Da Row,(kr l).length=2*l.length
 | []=>rfl
 | r::l=>by show(kr l).length+1+1=_;rw[BY l,ig];omega
theorem oF(h:isNm x=true):wl x<=20:=by unfold isNm isName at h;have:=eO (nu.mp (nu.mp h).1).2;unfold wl;omega
theorem uK{o:Str}(h:FU st x o wo we=none):isNm x=true/\x∉st.nms/\o∈st.own/\1<=wo/\0<=we:=by
 unfold FU at h;cases hn:newR st x with
 | some j=>rw[hn]at h;cases h
 | none=>
  rw[hn]at h;have h':(if o∈st.own then(if wo<1\/we<0 then some 5 else none) else some 2)=none:=h;have hx:isNm x=true/\x∉st.nms:=by
   unfold newR at hn;by_cases c:isNm x=true
   .rw [ay c]at hn;by_cases m:x∈st.nms
    .rw [ay m]at hn;cases hn
    .exact (c,m)
   .rw [av c]at hn;cases hn
  by_cases ho:o∈st.own
  .rw [ay ho]at h';by_cases hb:wo<1\/we<0
   .rw [ay hb]at h';cases h'
   .exact (hx.1,hx.2,ho,by omega,by omega)
  .rw [av ho]at h';cases h'
end L2
set_option autoImplicit true
namespace L2
open PySem PySem.Spec PyProof.Rows
structure bE(X:Cx)(e:Expr)(t:TE):Prop where h:PE X e t
structure bT(X:Cx)(e:Expr)(t:TT):Prop where h:PT X e t
structure bW(X:Cx)(e:Expr)(t:TT):Prop where h:PW X e t
structure bA(X:Cx)(es:Da Expr)(t:TA):Prop where h:PA X es t
structure bS(X:Cx)(s:Stmt)(t:TS):Prop where h:PS X s t
structure cZ(X:Cx)(s:Da Stmt)(t:TS):Prop where h:yc X s t
structure bC(X:Cx)(op:CmpOp)(a b:Expr)(t:TE):Prop where h:PC X op a b t
structure bG(X:Cx)(e:Expr)(t:TG):Prop where h:PG X e t
structure YL(X:Cx)(e:Da Expr)(t:EX):Prop where h:PGs X e t
structure bI(X:Cx)(tg Bn:Expr)(wi:TI):Prop where h:PI X tg Bn wi
structure bO(X:Cx)(e:Option Expr)(t:TO):Prop where h:PO X e t
structure YM(X:Cx)(pos:Pos)(ks:Da (Option Expr))(vs:Da Expr)(t:Da (TE×TE)):Prop where h:PPs X pos ks vs t
theorem bW.pt{X:Cx}{e:Expr}{t:TT}(h:bW X e t):bT X e t:=⟨h.h.pt⟩
def MZ{op}{t:TE}(h:bE X a t):bE X (.BoolOp op [a] pos) t:=by have h:=h.h;exact⟨λAC s σ H Q I hw=>BoolOp_one (h AC s σ H Q I hw)⟩
def d_{e:Expr}{t:TE}(h:bE X e t)(he:∀whole,isTrue e X.env whole=(do let v <-whole;standAt e.pos;holding [v] (truthy v)):=by intro _;rfl):bT X e (tB t):=by have h:=h.h;constructor;intro AC s σ H Q I hw;refine isTrue_plain (bH (h AC s σ H _ I hw) λv s1 (x,H1,I1,r1,q1)=>?_) (he _);obtain⟨d,rfl,q⟩:=q1;cases r1;exact DR (H1,I1,q)
def aB{r:R2}(hr:AJ X r)(ha:bE X a ta)(hb:bE X b tb)(hs:Zx b:=by exact λ_ _=>rfl):bE X (.Subscript a b pos) (AI r ta tb):=by have ha:=ha.h;have hb:=hb.h;constructor;intro AC s σ H Q I h;exact Subscript_ (Wx ha hb I h λv u s2 x y H2 I2 rx ry q=>hr a b AC s2 σ H2 x y v u Q I2 rx ry q (hs _ _))
def aaj(h:bE X e te):bO X (some e) (aeQ te):=by have h:=h.h;constructor;intro AC s σ H Q I hw;rw[evalPart_some];refine bH (h AC s σ H _ I hw) λu s1 (x,H1,I1,r1,q1)=>?_;obtain⟨i,rfl,q⟩:=q1;obtain⟨t,rfl⟩:=r1;exact(some i,H1,I1,.int i t,q)
def jc:YL X [] aba:=by constructor;intro AC s σ H vs us Q I r h;obtain⟨e,h⟩:=h;subst e;cases r;exact assignInOrder_nil (σ,H,I,h)
def aak:bO X none Zw:=by constructor;intro AC s σ H Q I h;rw[evalPart_none];exact bh (none,H,I,.none,h)
def lW{x:Str}{n:String}{pos:Pos}(hv:bootBuiltins x=some (.type n))(hg:Gl X x)(hm:X.mg x=none)(hn:x ≠ "__name__":=by decide)(hd:(x==("__debug__":Str))=false:=by decide):bE X (.Name x pos) (tC (.ty n)):=by exact⟨Zk hg hm hv rfl hn hd⟩
def aW{i:Nat}{x:Str}(hN:X.N.Nodup)(hi:X.N[i]?=some x:=by rfl)(hx:Loc X.env.scope x:=by first|exact Or.inl rfl|exact Or.inr rfl)(hf:X.fn x=true\/X.env.scope.names.lookup x=some .local:=by first|exact .inl rfl|exact .inr rfl|assumption):bG X (.Name x pos) (i9 i):=by constructor;intro AC s σ H v u Q I r h;exact wpAny_assign_Name (z7 I hN hi hx r (λs' I'=>(_,H,I',h)) hf)
def Eb{c:Expr}{body:Da Stmt}{tc:TT}{tb:TS}(hp:PassesOwn (model X.prog X.w) X.A X.env X.xe)(hc:bT X c tc)(hb:cZ X body tb):bS X (.While c body [] pos) (abh tc tb):=by
 have hc:=hc.h;have hb:=hb.h;constructor;intro AC s σ H D I h;obtain⟨W,⟨m0,w0⟩,turn⟩:=h;refine wpAny_While (codeAny_whileLoop (λn s'=>∃σ' H',Inv X AC σ' H' s'/\W n σ' H') ?_ m0 (σ,H,I,w0));rintro n s1 ⟨σ1,H1,I1,w1⟩;refine zT hp (bH (hc AC s1 σ1 H1 _ I1 (turn n σ1 H1 w1)) λb s2 (H2,I2,q2)=>?_);cases b with
 | true=>
  obtain⟨N,hN,q2⟩:=q2;rw[ay rfl];refine zT hp (bH (hb AC s2 σ1 H2 _ I2 q2) λf s3 q3=>?_);cases f with
  | next=>obtain⟨σ3,H3,I3,n3⟩:=q3;obtain⟨m',hm,w3⟩:=hN σ3 H3 n3;exact(m',hm,σ3,H3,I3,w3)
  | cont=>obtain⟨σ3,H3,I3,n3⟩:=q3;obtain⟨m',hm,w3⟩:=hN σ3 H3 n3;exact(m',hm,σ3,H3,I3,w3)
  | brk=>exact q3
  | ret v=>exact q3
 | false=>rw[av gZ];exact Lk (σ1,H2,I2,q2)
def zh{tg:Expr}{ob:Expr}{td:TE}{Bz cpos:Pos}(hob:bE X ob td)(hbase:attributeBase ob "values" X.env (eval ob X.env)=eval ob X.env:=by rfl)(hline:(Bz.endLine==cpos.line)=true:=by rfl):bI X tg (.Call (.Attribute ob "values" Bz) [] [] cpos) (ae7 td):=by
 have hob:=hob.h;constructor;intro AC s σ H R I h;refine wpAny_Call_method0_late hbase hline (bH (hob AC s σ H _ I h) λv s1 (x,H1,I1,r1,q1)=>?_);obtain⟨d,o,AT,rfl,e,fin⟩:=q1;cases r1;obtain⟨ho,hz,hsys,vs,ep,rel,da⟩:=I1.ug e;obtain⟨t1,t2,_⟩:=Ma I1 (.inl (AT,.inr (o,e)));have dd:=da.dictOf;refine("dict",_,F.plainAttrs_dict,R8,F.type_dict_values,t1,t2,R1 rfl (PySem.evalArgs_none ?_));refine call_meetsIn R8 dd.typeIs F.entry_dict_values (F.args_dict_values_1 _) (meets_dict_values (dh X.prog X.w) d hsys) ((vs,dd),?_);refine wpAny_pyIter_values (s:={ s1 with heap:=s1.heap.push { cls:=.type "dict_values",data:=.fields #[.ref d] } }) (_,ff _ rfl,Z,Z) (da.push _) ?_;have Iv:Inv X AC σ H1 { s1 with heap:=s1.heap.push { cls:=.type "dict_values",data:=.fields #[.ref d] } }:=I1.kept (t':=s1.toks) λb o e=>cN _ e;generalize ({ s1 with heap:=s1.heap.push { cls:=.type "dict_values",data:=.fields #[.ref d] } }:Shared)=sv at *;have I2:Inv X AC σ H1 { sv with heap:=sv.heap.push { cls:=.type "dict_valueiterator",data:=.fields #[.ref d,.int 0 0,.int vs.length 0,.int ep 0] } }:=Iv.kept (t':=sv.toks) λb o e=>cN _ e;have hl:AT.length=vs.length:=rel.length;obtain⟨o',es,h1,_,h2,_⟩:=id da;rw[ho]at h1;cases h1;refine(sv.heap.objs.size,[sv.heap.objs.size],_,_,H1,Z,I2,UI h2,?_,λb hb=>?_,fin)
 .rw [hl];exact(_,ff _ rfl,Z,Z)
 .have eb:b=sv.heap.objs.size:=by simpa using hb
  subst eb;exact Iv.DU (aO _) (Iv.hok.fresh (aO _))
def Rj{o i e:Expr}{to ti te:TE}{Bj:V->V->Hp->VK->Prop}{AH:LP}{qX:uW}{op:Operator}{tpos:Pos}(ho:bE X o to)(hi:bE X i ti)(hg:abe X Bj)(he:bE X e te)(hp:PIp X op AH)(hs:Wq X qX)(ha:∀ov iv new,augStore i ov iv new=(do holding [new,ov,iv] (setItem ov iv new);release [new,ov,iv] [];pure .next):=by intros;rfl):bS X (.AugAssign (.Subscript o i tpos) op e pos) (aeJ to ti te Bj AH qX):=by have ho:=ho.h;have hi:=hi.h;have he:=he.h;constructor;intro AC s σ H D I h;refine wpAny_AugAssign_SubscriptAny (bH (ho AC s σ H _ I h) λov s1 (x1,H1,I1,r1,q1)=>?_) ha;refine bH (hi AC s1 σ H1 _ I1 q1) λiv s2 (x2,H2,I2,r2,q2)=>?_;refine bH (hg AC s2 σ H2 x1 x2 ov iv _ I2 r1 r2 q2) λold s3 (x3,H3,I3,r3,q3)=>?_;refine bH (he AC s3 σ H3 _ I3 q3) λv s4 (x4,H4,I4,r4,q4)=>?_;refine bH (hp AC s4 σ H4 x3 x4 old v _ I4 r3 r4 q4) λnew s5 (x5,H5,I5,r5,q5)=>?_;exact bH (hs AC s5 σ H5 x1 x2 x5 ov iv new _ I5 r1 r2 r5 q5) λ_ s6 (H6,I6,q6)=>(σ,H6,I6,q6)
def lX{id:String}(pa:PlainAttrs T)(slot:Slot T name id)(hty:typeOf (.builtin id)=pure (.type "method_descriptor"))(hm:MtR X id r)(ho:bE X o to)(ha:bA X (e::es) t)(hbase:attributeBase o name X.env (eval o X.env)=eval o X.env:=by rfl)(hfew:((backTo cpos (starEach (e::es) X.env)).all (λx=>!x.1) && (backToKw cpos (keywordEach [] X.env)).all (λx=>x.1.isSome)
   && decide ((e::es).length+([] :Da Keyword).length+(if([] :Da Keyword).isEmpty then 0 else 1)<30))=true:=by rfl)(hline:(Bz.endLine==cpos.line)=true:=by rfl)(hs:starEach (e::es) X.env=(false,eval e X.env)::starEach es X.env:=by rfl)(hplain:(backTo cpos (starEach es X.env)).any (·.1)=false:=by rfl):bE X (.Call (.Attribute o name Bz) (e::es) [] cpos) (tBM X.K T r to t):=by
 have ho:=ho.h;have ha:=ha.h;constructor
 intro AC s σ H Q I h
 refine wpAny_Call_method_late hbase hfew hline rfl (bH (ho AC s σ H _ I h) λv s1 (x,H1,I1,r1,ty,q1)=>?_)
 obtain⟨h1,h2⟩:=abN I1 r1 ty
 refine(T,id,pa,slot,hty,h1,h2,?_)
 have hA:=ha cpos AC s1 σ H1 _ I1 q1
 rw[hs]at hA ⊢
 refine R1 (by show(false || (backTo cpos (starEach es X.env)).any (·.1))=false;rw[hplain] <;> rfl) (Calls.evalArgs_plain ?_)
 exact bH hA λus s2 (vs,H2,I2,r2,q2)=>hm AC s2 σ H2 x vs v us Q I2 r1 r2 q2
def aal{X:Cx}{pos:Pos}:YM X pos [] [] [] :=by exact⟨λAC s σ H Q I h=>pairTrees_nil_walk ([],H,I,.nil,h)⟩
def FZ{X:Cx}{e:Expr}{t:TE}(h:bE X e t):bE X e (aiq t):=by have h:=h.h;constructor;intro AC s σ H Q I hw;obtain⟨d,AT,e,hw⟩:=hw;obtain⟨ho,es,ep,h1,_⟩:=(E6 I.hok e).2.2.choose_spec.2;have h0:=I.UH e;exact bH (h AC s σ _ _ (I.freeze e h1) (hw ho)) λu s' (v,H',I',r,q1,q2)=>(v,_,I'.D0 q1 h0,r,q2)
def Xu{op op':CmpOp}{r r':R2}(ho:jU X (compareOp op) r)(ho':jU X (compareOp op') r')(ha:bE X a ta)(hb:bE X b tb)(hc:bE X c tc)(hm:lastMarks [op,op'] [b,c]=false:=by with_unfolding_all rfl):bE X (.Compare a [op,op'] [b,c] pos) (abp r r' ta tb tc):=by
 have ha:=ha.h;have hb:=hb.h;have hc:=hc.h;constructor;intro AC s σ H Q I h;refine Compare_chain (bH (ha AC s σ H _ I h) λv s1 (x,H1,I1,r1,q1)=>chain_link (bH (hb AC s1 σ H1 _ I1 q1) λu s2 (y,H2,I2,r2,q2)=>
  bH (ho AC s2 σ H2 x y v u _ I2 r1 r2 q2) λd s3 (z,H3,I3,r3,k,e,q3)=>?_)) hm
 subst e;cases r3;refine DR ?_;cases k with
 | false=>exact ite_ff (.bl false,H3,I3,Z,q3)
 | true=>exact ite_tt (chain_last (bH (hc AC s3 σ H3 _ I3 q3) λw' s4 (z',H4,I4,r4,q4)=>ho' AC s4 σ H4 y z' u w' Q I4 r2 r4 q4))
def f7{x1}(h:bA X es t):bE X (.Tuple es x1 pos) (aby t):=by have h:=h.h;constructor;intro AC s σ H Q I hq;refine wpAny_Tuple_spliced (bH (h pos AC s σ H _ I hq) λus s1 (xs,H1,I1,r,z,q)=>(r.length▸z,?_));have hf:H1 s1.heap.objs.size=none:=I1.hok.fresh (aO _);refine(.ref s1.heap.objs.size,upd H1 s1.heap.objs.size (.tup xs),I1.laid (t':=s1.toks) (λb u e=>cN _ e) (aO _) ?_,Z,q _ hf);exact(z,us,r,(_,ff _ rfl,Z,_,Z))
def Ed{tg Bn elt cond:Expr}{scope:Scope}{pos:Pos}(N2:Da Str)(ix:Da (Option Nat)){wi:TI}{g:TG}{tc:TT}{te:TE}(hc:X.calm=true)(hi:bI X tg Bn wi)(hg:∀cl s₂ H₂ fp,bG (dg X N2 scope cl s₂ H₂ fp) tg g)(he:∀cl s₂ H₂ fp,bE (dg X N2 scope cl s₂ H₂ fp) elt te)(ht:∀cl s₂ H₂ fp,bT (dg X N2 scope cl s₂ H₂ fp) cond tc)(hk:scope.kind =.function)(hn:pB X.N X.env.scope.names scope.names N2 ix=true)(hs:∀x,foldedSetIterable Bn X.env x=pure x:=by intro _;rfl):bE X (.ListComp elt [(tg,Bn,[cond],0)] scope pos) (Fv wi ix g tc te):=⟨W5 N2 ix hc hi.h (λcl s₂ H₂ fp=>(hg cl s₂ H₂ fp).h) (λcl s₂ H₂ fp=>(he cl s₂ H₂ fp).h) (λcl s₂ H₂ fp=>(ht cl s₂ H₂ fp).h) hk hn hs⟩
def aL{op:Operator}{r:R2}(ho:jU X (binaryOp op) r)(ha:bE X a ta)(hb:bE X b tb):bE X (.BinOp a op b pos) (AI r ta tb):=by have ha:=ha.h;have hb:=hb.h;constructor;intro AC s σ H Q I h;exact wpAny_BinOp (Wx ha hb I h λv u s2 x y H2 I2 rx ry q=>ho AC s2 σ H2 x y v u Q I2 rx ry q)
def zj{op:CmpOp}{t:TE}(h:bC X op a b t)(h1:behindInMarks op b=false:=by first|exact aiA _ (by decide) (by decide)|rfl):bT X (.Compare a [op] [b] pos) (tB t):=by have h:=h.h;constructor;intro AC s σ H Q I hw;refine wpAny_isTrue_Compare1 (bH (h AC s σ H _ I hw) λv s1 h1=>bH h1 λu s2 h2=>bH h2 λc s3 (x,H1,I1,r1,q1)=>?_) h1;obtain⟨d,rfl,q⟩:=q1;cases r1;exact DR (H1,I1,q)
def fk{tg:Expr}{Bn:Expr}{body:Da Stmt}{wi:TI}{g:TG}{tb:TS}{pos:Pos}(hp:PassesOwn (model X.prog X.w) X.A X.env X.xe)(hc:X.calm=true)(hi:bI X tg Bn wi)(hg:bG X tg g)(hb:cZ X body tb)(hs:∀x,foldedSetIterable Bn X.env x=pure x:=by intro _;rfl):bS X (.For tg Bn body [] pos) (ah7 wi g tb):=by
 have hi:=hi.h;have hg:=hg.h;have hb:=hb.h;constructor;intro AC s σ H D I h;refine wpAny_For (bH (hi AC s σ H _ I h) λv s1 h1=>bH h1 λitv s2 h2=>?_) hs;obtain⟨it,fp,tn,J,H2,e,I2,T,st2,f2,W,⟨m0,w0⟩,turn⟩:=h2;subst e;have wI:∀{H':Hp},(∀b∈fp,H' b=none)->∀b∈fp,qY X AC H' b:=λhn b hb=>(hn b hb,(f2 b hb).2)
 refine codeAny_forLoop_any (λn s'=>∃i σ' H',Inv X AC σ' H' s'/\tn i s'.heap/\(∀b∈fp,H' b=none)/\W i n σ' H') ?_ m0 (0,σ,H2,I2,st2,λb hb=>(f2 b hb).1,w0);rintro n s3 ⟨i,σ3,H3,I3,st3,YN,w3⟩;rcases turn i n σ3 H3 w3 with⟨stop,qn⟩|⟨go,N,hN,step⟩
 .refine zT hp (bH (T.done X rfl rfl rfl hc i AC s3 σ3 H3 X.xe I3 (wI YN) st3 stop) λr s4 (hr,I4)=>?_);subst hr;exact Lk (σ3,H3,I4,qn)
 .refine zT hp (bH (T.item X rfl rfl rfl hc i AC s3 σ3 H3 X.xe I3 (wI YN) st3 go) λr s4 (u,hr,h4)=>?_);subst hr;refine zT hp (bH h4 λ_ s5 (x,H5,I5,r5,y5,Fi,Mi)=>?_);have I5':=I5.pinned (wI Mi) (T.obj _ _ Fi);refine zT hp (bH (hg _ s5 σ3 H5 x u _ I5' r5 (step x H5 y5)) λ_ s6 (σ6,H6,I6,q6)=>?_);refine zT hp (bH (hb _ s6 σ6 H6 _ I6 q6) λf s7 q7=>?_);have again:∀{σ7:St}{H7:Hp},Inv X (AC++EZ fp s5.heap) σ7 H7 s7->N σ7 H7->∃m,m<n/\∃i σ' H',Inv X AC σ' H' s7/\tn i s7.heap/\(∀b∈fp,H' b=none)/\W i m σ' H':=λ{σ7 H7} I7 n7=>by obtain⟨m',hm,w7⟩:=hN σ7 H7 n7;refine(m',hm,i+1,σ7,H7,I7.sY,T.keep _ _ _ Fi λb hb o e=>(I7.pin (b,o) (kK _ (kK _ (j9 hb e)))).1,λb hb=>?_,w7);obtain⟨o,e,d⟩:=T.obj _ _ Fi b hb;exact(I7.pin (b,o) (kK _ (kK _ (j9 hb e)))).2.1
  cases f with
  | next=>obtain⟨σ7,H7,I7,n7⟩:=q7;exact again I7 n7
  | cont=>obtain⟨σ7,H7,I7,n7⟩:=q7;exact again I7 n7
  | brk=>obtain⟨σ7,H7,I7,q7⟩:=q7;exact(σ7,H7,I7.sY,q7)
  | ret v=>obtain⟨x7,σ7,H7,I7,r7,q7⟩:=q7;exact(x7,σ7,H7,I7.sY,r7,q7)
def Xv{lo:Option Expr}{hi:Option Expr}{r:V->Option Int->Option Int->Hp->VK->Prop}(hr:SlR X r)(he:bE X e te)(hl:bO X lo tl)(hu:bO X hi th):bE X (.Subscript e (.Slice lo hi none p2) pos) (tSl r te tl th):=by have he:=he.h;have hl:=hl.h;have hu:=hu.h;constructor;intro AC s σ H Q I h;refine Subscript_ (bH (he AC s σ H _ I h) λv s1 (x,H1,I1,r1,q1)=>?_);refine wpAny_Slice (bH (hl AC s1 σ H1 _ I1 q1) λvl s2 (l,H2,I2,pl,q2)=>bH (hu AC s2 σ H2 _ I2 q2) λvu s3 (u,H3,I3,pu,q3)=>?_);rw[evalPart_none];refine bh ?_;have I4:Inv X AC σ H3 { s3 with heap:=s3.heap.push { cls:=.type "slice",data:=.fields #[vl,vu,.none] } }:=I3.kept (t':=s3.toks) λb ob q=>cN _ q;obtain⟨T,id,hT,ht,hg⟩:=hr AC { s3 with heap:=s3.heap.push { cls:=.type "slice",data:=.fields #[vl,vu,.none] } } σ H3 x v vl vu l u s3.heap.objs.size Q I4 r1 (Heap.IsSliceOf.new ..) pl pu q3;show wpAny (model X.prog X.w) X.A (subscriptTail e (.Slice lo hi none p2) v (.ref s3.heap.objs.size)) (EP X AC σ Q) X.xe { s3 with heap:=s3.heap.push { cls:=.type "slice",data:=.fields #[vl,vu,.none] } };exact tail_any (ops:=[.ref s3.heap.objs.size,v]) ht hT hg (by with_unfolding_all rfl)
def Rk:bS X (.Return none pos) aeE:=by exact⟨λ_ _ σ H _ I h=>wpAny_Return_none (.cK,σ,H,I,Z,h)⟩
def gM{tg Bn elt:Expr}{scope:Scope}{pos:Pos}(N2:Da Str)(ix:Da (Option Nat)){wi:TI}{g:TG}{te:TE}(hc:X.calm=true)(hi:bI X tg Bn wi)(hg:∀cl s₂ H₂ fp,bG (dg X N2 scope cl s₂ H₂ fp) tg g)(he:∀cl s₂ H₂ fp,bE (dg X N2 scope cl s₂ H₂ fp) elt te)(hk:scope.kind =.function)(hn:pB X.N X.env.scope.names scope.names N2 ix=true)(hs:∀x,foldedSetIterable Bn X.env x=pure x:=by intro _;rfl):bE X (.ListComp elt [(tg,Bn,[],0)] scope pos) (Yy wi ix g te):=by have hi:=hi.h;have hg:=λcl s₂ H₂ fp=>(hg cl s₂ H₂ fp).h;have he:=λcl s₂ H₂ fp=>(he cl s₂ H₂ fp).h;constructor;intro AC s σ H Q I h;obtain⟨k1,k2,k3,k4,k5⟩:=n_ hn;obtain⟨cl,Mq,c1,c2⟩:=vO (scope:=scope) (env:=X.env) λy hy e=>I.ok.has y.1 (k3 y hy e);rw[eval_ListComp];refine RX (use:=none) rfl hs Mq hk k4 (bH (hi AC s σ H _ I h) λv s1 h1=>bH h1 λitv s2 h2=>?_);obtain⟨it,fp,tn,J,H2,e,I2,T,st2,f2,h2⟩:=h2;subst e;refine Ff (RR:=λAp C=>compPost (model X.prog X.w) X.A X.xe none (EP X AC σ Q) Ap C) (Q:=Q) hc hg he hk hn (λy c m=>(c1 y c m).1) c2 I2 T st2 f2 h2 ?_;intro Ap C H' s' m I' ns Bt hL hsz rB Aa q;exact(m,ns,λh' hs'=>(.ref Ap,H',I'.turned (it:=C) (t':=s'.toks) (λb o hb e=>(hs'.2 b hb).trans e) Bt hL (.inr hsz) rB Aa,Z,q))
def M1(hu:X.A.units+1<cLine)(hi:bE X i ty)(ho:bE X o td):bC X .In i o (aik ty td):=by have hi:=hi.h;have ho:=ho.h;constructor;intro AC s σ H Q I h;refine bH (hi AC s σ H _ I h) λiv s1 (y,H1,I1,ry,q1)=>bH (ho AC s1 σ H1 _ I1 q1) λu s2 (x,H2,I2,rx,a,ov,ex,g,q2)=>?_;subst ex;obtain rfl:u=Value.ref a:=rx;exact aij hu I2 g ry λs3 I3=>(.bl ov.isSome,H2,I3,Z,q2)
def acX(ha:bE X a ta):bE X (.UnaryOp .Not a pos) (aeB ta):=by have ha:=ha.h;constructor;intro AC s σ H Q I h;refine UnaryOp_ (bH (ha AC s σ H _ I h) λv s1 (x,H1,I1,r1,q1)=>?_);obtain⟨c,rfl,q1⟩:=q1;cases r1;exact not_of (DR (.bl (!c),H1,I1,Z,q1))
def aU{x j pos}:bE X (.Constant (.str x) j pos) (tC (.str x)):=by exact⟨λ_ _ _ H _ I h=>Calls.Constant_str (.str x,H,I.tok _,(_,Z),h)⟩
def SX{op:UnaryOp}{r:V->Hp->VK->Prop}(ho:UnR X (unaryOp op) r)(ha:bE X a ta):bE X (.UnaryOp op a pos) (tUn r ta):=by have ha:=ha.h;constructor;intro AC s σ H Q I h;exact UnaryOp_ (bH (ha AC s σ H _ I h) λv s1 (x,H1,I1,r1,q1)=>ho AC s1 σ H1 x v Q I1 r1 q1)
def tN(K:Fg){a b:Expr}{ta:TA}{p pos:Pos}(hg:Gl X "zip")(hm:X.mg "zip"=none)(ha:bA X [a,b] ta)(hK:X.K=K:=by rfl)(hs:starEach [a,b] X.env=[(false,eval a X.env),(false,eval b X.env)] :=by rfl)(hs2:starEach [b] X.env=[(false,eval b X.env)] :=by rfl):bI X (.Tuple DD kk tpos) (.Call (.Name "zip" p) [a,b] [] pos) (ae9 K ta):=by
 have ha:=ha.h;constructor;subst hK;intro AC s σ H R I h;refine Call_ (wm I hg hm boot_zip (TL (bH (ha pos AC s σ H _ I h) λus s1 (vs,H1,I1,r1,q1)=>?_) (by rw[hs,hs2]) (by rw[hs2];rfl)));obtain⟨u1,u2,S1,S2,xs,ys,e,k1,k2,q⟩:=q1;subst e;obtain⟨u,w',rfl,ru,rw'⟩:=vals2 r1;obtain⟨g1,l1,o1,p1,lt1,b1,alx,YO,st1,c1⟩:=k1.ok I1 ru;obtain⟨g2,l2,o2,p2,lt2,b2,afq,at2,st2,c2⟩:=k2.ok I1 rw';refine callType_newIn F.called_zip (by decide) (F.typeCall_zip_2 _ _) (F.newCall_zip_2 _ _) (λobj=>F.args_object_init_3 obj _ _) F.entry_zip_new (SJ st1 st2) (b1,afq _ _ b2,?_);have z1:(s1.heap.push o1).objs.size=s1.heap.objs.size+1:=nU ..;have z2:((s1.heap.push o1).push o2).objs.size=s1.heap.objs.size+2:=by rw[nU,z1]
 generalize e3:({ cls:=.type "tuple",data:=.seq #[.ref s1.heap.objs.size,.ref (s1.heap.push o1).objs.size] }:Obj)=o3;have z3:(((s1.heap.push o1).push o2).push o3).objs.size=s1.heap.objs.size+3:=by rw[nU,z2]
 generalize e4:({ cls:=.type "tuple",data:=.seq #[.none,.none] }:Obj)=o4;have z4:((((s1.heap.push o1).push o2).push o3).push o4).objs.size=s1.heap.objs.size+4:=by rw[nU,z3]
 generalize e5:({ cls:=.type "zip",data:=.fields #[.none,.bool false,.bool false,.ref ((s1.heap.push o1).push o2).objs.size,.ref (((s1.heap.push o1).push o2).push o3).objs.size] }:Obj)=o5;have g5:(((((s1.heap.push o1).push o2).push o3).push o4).push o5).get? ((((s1.heap.push o1).push o2).push o3).push o4).objs.size=some o5:=ff _ (by rw[<-e5];rfl);have g4:(((((s1.heap.push o1).push o2).push o3).push o4).push o5).get? (((s1.heap.push o1).push o2).push o3).objs.size=some o4:=cN _ (ff _ (by rw[<-e4];rfl));have g3:(((((s1.heap.push o1).push o2).push o3).push o4).push o5).get? ((s1.heap.push o1).push o2).objs.size=some o3:=cN _ (cN _ (ff _ (by rw[<-e3];rfl)));have g2':(((((s1.heap.push o1).push o2).push o3).push o4).push o5).get? (s1.heap.push o1).objs.size=some o2:=cN _ (cN _ (cN _ (at2 _)));have g1':(((((s1.heap.push o1).push o2).push o3).push o4).push o5).get? s1.heap.objs.size=some o1:=cN _ (cN _ (cN _ (cN _ (YO _))));have kp:∀c o,s1.heap.get? c=some o->(((((s1.heap.push o1).push o2).push o3).push o4).push o5).get? c=some o:=λc o x=>cN _ (cN _ (cN _ (cN _ (cN _ x))));rw[z4]at g5 ⊢;rw[z3]at g4 e5;rw[z2]at g3 e5;rw[z1]at g2' e3;generalize (((((s1.heap.push o1).push o2).push o3).push o4).push o5)=hN at *;show _/\_;subst e3 e4 e5;refine((_,g5,Z),wpAny_pyIter_zip (s:={ s1 with heap:=hN }) g5 ?_);have I2:Inv X AC σ H1 { s1 with heap:=hN }:=I1.kept (t':=s1.toks) kp;obtain⟨t1,alA,C1,n1⟩:=c1 s1.heap.objs.size;obtain⟨t2,alB,C2,n2⟩:=c2 (s1.heap.objs.size+1);refine(s1.heap.objs.size+4,[s1.heap.objs.size+4,s1.heap.objs.size+2,s1.heap.objs.size+3,s1.heap.objs.size,s1.heap.objs.size+1],_,_,H1,Z,I2,UM (O3 lt1 lt2) C1 C2,(g5,g3,(_,_,g4),n1 _ g1',n2 _ g2'),λb hb=>?_,q);have hb':b=s1.heap.objs.size+4\/b=s1.heap.objs.size+2\/b=s1.heap.objs.size+3\/b=s1.heap.objs.size\/b=s1.heap.objs.size+1:=by simpa using hb
 have le:s1.heap.objs.size<=b:=by
  rcases hb' with r|r|r|r|r
  .rw [r];exact t9 _ _
  .rw [r];exact t9 _ _
  .rw [r];exact t9 _ _
  .rw [r];exact aO _
  .rw [r];exact t9 _ _
 exact I1.DU le (I1.hok.fresh le)
def aS{op:CmpOp}{r:R2}(ho:jU X (compareOp op) r)(ha:bE X a ta)(hb:bE X b tb)(hm:behindInMarks op b=false):bT X (.Compare a [op] [b] pos) (CJ (AI r ta tb)):=by
 have ha:=ha.h;have hb:=hb.h;constructor;intro AC s σ H Q I h;refine wpAny_isTrue_Compare1 (bH (ha AC s σ H _ I h) λv s1 (x,H1,I1,r1,q1)=>bH (hb AC s1 σ H1 _ I1 q1) λu s2 (y,H2,I2,r2,q2)=>
  bH (ho AC s2 σ H2 x y v u _ I2 r1 r2 q2) λc s3 (z,H3,I3,r3,k,e,q3)=>?_) hm
 subst e;cases r3;exact DR (H3,I3,q3)
def aV{i:Nat}{x:Str}{e:Expr}{te:TE}{pos':Pos}(hN:X.N.Nodup)(he:bE X e te)(hi:X.N[i]?=some x:=by rfl)(hx:Loc X.env.scope x:=by first|exact Or.inl rfl|exact Or.inr rfl)(hs:swapsWith e (some (.Name x pos')) pos.line X.env=pure false:=by rfl)(hf:X.fn x=true\/X.env.scope.names.lookup x=some .local:=by first|exact .inl rfl|exact .inr rfl|assumption):bS X (.Assign [.Name x pos'] e pos) (LQ te (i9 i)):=by have he:=he.h;constructor;intro AC s σ H D I h;refine wpAny_Assign_Name (bH (he AC s σ H _ I h) λv s1 (y,H1,I1,r1,q1)=>?_) hs;exact z7 I1 hN hi hx r1 (λs2 I2=>(_,H1,I2,q1)) hf
theorem aam{X:Cx}{pos:Pos}{keys:Da (Option Expr)}{values:Da Expr}{E7:Da (TE×TE)}(h:YM X pos keys values E7)(hall:keys.all (·.isSome)=true)(hl:keys.length=values.length)(h0:keys≠[])(h15:keys.length<=15):bE X (.Dict keys values pos) (aeY E7):=by
 have h:=h.h;constructor;intro AC s σ H Q I q;have hn:=I.hok.fresh (aO s.heap.objs.size);have I1:=I.laid (a:=s.heap.objs.size) (o:=.dK []) (h':=s.heap.push { cls:=.type "dict",data:=.dict #[] }) (t':=s.toks) (λ_ _ q=>cN _ q) (aO _) (L_ s.heap I.big);refine wpAny_Dict_walk (knd:=dh X.prog X.w) hall hl h0 h15 (bH (h AC _ σ _ _ I1 (q _ hn)) λws s2 (ps,H2,I2,rel,e,AT,ep,lk,q2)=>?_);subst ep;obtain⟨rs,c,rk⟩:=E8 (P:=X.prog) (w:=X.w) rel;obtain⟨z,hd,UN,r0,dd⟩:=E6 I2.hok e;cases r0;refine(rs,c,dd,λh' Dw hs=>(.ref s.heap.objs.size,_,?_,Z,q2));have hz:(yX [] AT).length<=sizeLine:=by have h1:=AL AT [];rw[List.length_nil]at h1;rw[mY];omega
 have he:∃q,h'.get? s.heap.objs.size=some q:=let(q,_,_,hq,_):=Dw;(q,hq);exact CN I2 (e▸True.intro) hs he (L8 hz hd (rk.merge .nil) Dw)
def dI(K:Fg){tg l:Expr}{tl:TE}(hl:bE X l tl)(hK:X.K=K:=by rfl):bI X tg l (Yq K tl):=by have hl:=hl.h;exact⟨hK▸Zn hl⟩
def fm{X:Cx}{e:Expr}{t:TT}(h:bT X e t):bT X e (λσ H Q=>∃b:Bool,t σ H (λb' H'=>b'=b/\H'=H)/\Q b H):=by have h:=h.h;constructor;intro AC s σ H Q I hw;obtain⟨b,hb,q⟩:=hw;refine bH (h AC s σ H _ I hb) λb' s' (H',I',e1,e2)=>?_;subst e1 e2;exact(_,I',q)
def au{st:Stmt}(h1:bS X st t):cZ X [st] t:=by
 have h1:=h1.h;constructor;intro AC s σ H D I h;refine wpAny_execs_cons (bH (h1 AC s σ H D I h) λf s1 q=>?_);cases f with
 | next=>exact Lk q
 | ret v=>exact q
 | brk=>exact q
 | cont=>exact q
def Rl(ho:bE X o td)(hi:bE X i ty):bS X (.Delete [.Subscript o i tpos] pos) (aeX td ty):=by have ho:=ho.h;have hi:=hi.h;constructor;intro AC s σ H D I h;refine wpAny_Delete (wpAny_deleteEach_cons (wpAny_delete_Subscript (bH (ho AC s σ H _ I h) λu s1 (x,H1,I1,rx,q1)=>bH (hi AC s1 σ H1 _ I1 q1) λiv s2 (y,H2,I2,ry,a,AT,k,ex,e,ey,l,q2)=>?_)));subst ex ey;obtain rfl:u=Value.ref a:=rx;exact Up I2 e ry l λs3 I3=>wpAny_deleteEach_nil (σ,_,I3,q2)
def eY(ha:bT X a tA):bT X (.UnaryOp .Not a pos) (ah2 tA):=by have ha:=ha.h;constructor;intro AC s σ H Q I h;exact isTrue_not (ha AC s σ H (λc H1=>Q (!c) H1) I h)
def cu(he:bE X e te)(hs:swapsWith e none pos.line X.env=pure false:=by rfl):bS X (.Expr e pos) (aeD te):=by have he:=he.h;constructor;intro AC s σ H D I h;exact wpAny_Expr_any (bH (he AC s σ H _ I h) λv s1 (x,H1,I1,r1,q1)=>(σ,H1,I1,q1)) I.quiet hs
def cy{pl:Sem Bool}{j k:Nat}{C:Addr}{m:Str}{ps:Da Str}{sp:Sp}{o e:Expr}{es:Da Expr}{ta:TE}{t:TA}{Bz pos:Pos}(D:Mn X.prog X.w X.K X.mg X.base j C m ps sp)(hr:fL k X.A)(ho:bE X o ta)(ha:bA X (e::es) t)(hj:j<=k:=by decide)(hst:starEach (e::es) X.env=(false,eval e X.env)::starEach es X.env:=by rfl)(hpl:(backTo pos (starEach es X.env)).any (·.1)=false:=by rfl)(ht:eval (.Call (.Attribute o m Bz) (e::es) [] pos) X.env=(do
   let ov <-eval o X.env
   standAt Bz.atName
   let(f,first) <-holding [ov] (getMethod ov m pl)
   callWith pos f first (backTo pos (starEach (e::es) X.env)) (backToKw pos (keywordEach [] X.env))):=by rfl):bE X (.Call (.Attribute o m Bz) (e::es) [] pos) (Ln C m sp [] E0 ta t):=by
 have ho:=ho.h;have ha:=ha.h;constructor
 obtain⟨f,fd,F,b,hm,c⟩:=D.ex
 exact Zt (pl:=pl) ho c hm F (hr.mono hj) b .nil (λ_ _ _ _ _ _ _ h=>h.elim) ha hst hpl ht
def cT{e:Expr}{es:Da Expr}{t:TG}{u:EX}(h1:bG X e t)(h2:YL X es u)(hs:(assignEach (e::es) X.env).map (·.2)=assign e X.env::(assignEach es X.env).map (·.2):=by rfl):YL X (e::es) (Yp t u):=by
 have h1:=h1.h;have h2:=h2.h;constructor;intro AC s σ H vs us Q I r h;obtain⟨v,vr,e1,h⟩:=h;subst e1;cases r with
 | cons r rr=>rw[hs];refine assignInOrder_cons (bH (h1 AC s σ H _ _ _ I r h) λ_ s1 (σ1,H1,I1,q1)=>?_);exact h2 AC s1 σ1 H1 _ _ Q I1 rr q1
def qL{i:Nat}{x:Str}{px pos':Pos}{tg Bn elt:Expr}{scope:Scope}{pos:Pos}(N2:Da Str)(ix:Da (Option Nat)){wi:TI}{g:TG}{te:TE}(hN:X.N.Nodup)(hi:X.N[i]?=some x)(hx:X.env.scope.names.lookup x=some .local)(hc:X.calm=true)(hit:bI X tg Bn wi)(hg:∀cl s₂ H₂ fp,bG (dg X N2 scope cl s₂ H₂ fp) tg g)(he:∀cl s₂ H₂ fp,bE (dg X N2 scope cl s₂ H₂ fp) elt te)(hk:scope.kind =.function)(hn:pB X.N X.env.scope.names scope.names N2 ix=true)(hw:swapsWith (.ListComp elt [(tg,Bn,[],0)] scope pos) (some (.Name x px)) pos'.line X.env=pure true)(hs:∀x,foldedSetIterable Bn X.env x=pure x:=by intro _;rfl):bS X (.Assign [.Name x px] (.ListComp elt [(tg,Bn,[],0)] scope pos) pos') (LQ (Yy wi ix g te) (i9 i)):=by
 have hit:=hit.h;have hg:=λcl s₂ H₂ fp=>(hg cl s₂ H₂ fp).h;have he:=λcl s₂ H₂ fp=>(he cl s₂ H₂ fp).h;constructor;intro AC s σ H D I h;obtain⟨k1,k2,k3,k4,k5⟩:=n_ hn;obtain⟨cl,Mq,c1,c2⟩:=vO (scope:=scope) (env:=X.env) λy hy e=>I.ok.has y.1 (k3 y hy e);rw[exec_Assign_Name_used _ _ _ _ hw];refine az (CB (az ?_));show wpAny _ X.A (do let _ <-comprehension (.ListComp elt [(tg,Bn,[],0)] scope pos) scope X.env _ (newList []) false (eval Bn X.env) (some (assign (.Name x px) X.env))) _ _ s;refine az (bH (RX (use:=some (assign (.Name x px) X.env)) (Q:=λ_ s'=>SP X AC D .next s') rfl hs Mq hk k4 (bH (hit AC s σ H _ I h) λv s1 h1=>bH h1 λitv s2 h2=>?_)) λ_ s' hq=>bh (bh hq));obtain⟨it,fp,tn,J,H2,e,I2,T,st2,f2,h2⟩:=h2;subst e;refine Ff (RR:=λAp C=>compPost (model X.prog X.w) X.A X.xe (some (assign (.Name x px) X.env)) (λ_ s'=>SP X AC D .next s') Ap C) (Q:=λv H'=>D.nx (σ.set i (some v)) H') hc hg he hk hn (λy c m=>(c1 y c m).1) c2 I2 T st2 f2 h2 ?_;intro Ap C H' s' m I' ns Bt hL hsz rB Aa q;show wpAny _ X.A (assign (.Name x px) X.env (.ref Ap)) _ _ _;refine wpAny_assign_Name (Bh I' hN hi (.inl hx) (v:=.ref Ap) rfl (λs3 I3 (a,sb,ha)=>?_) (.inr hx));have ca:C≠a:=by
  rcases ha with z|z
  .rw [z];exact hL
  .exact λe=>rB x a z e.symm
 exact(m,ns.sameBut sb ca,λh' hs'=>(_,H',I3.turned (it:=C) (t':=s3.toks) (λb o hb e=>(hs'.2 b hb).trans e) Bt hL (.inr hsz) rB Aa,q))
def wW{X:Cx}{pos:Pos}{k v:Expr}{ks:Da (Option Expr)}{vs:Da Expr}{tk tv:TE}{E7:Da (TE×TE)}(hk:bE X k tk)(hv:bE X v tv)(hr:YM X pos ks vs E7):YM X pos (some k::ks) (v::vs) ((tk,tv)::E7):=by
 have hk:=hk.h;have hv:=hv.h;have hr:=hr.h;exact⟨λAC s σ H Q I h=>
 pairTrees_cons_walk (bH (hk AC s σ H _ I h) λu s1 (x,H1,I1,rx,q1)=>bH (hv AC s1 σ H1 _ I1 q1) λw2 s2 (y,H2,I2,ry,q2)=>
  bH (hr AC s2 σ H2 _ I2 q2) λws s3 (ps,H3,I3,rel,q3)=>((x,y)::ps,H3,I3,.cons (rx,ry) rel,q3))⟩
def BZ(hu:X.A.units+1<cLine)(hi:bE X i ty)(ho:bE X o td):bC X .NotIn i o (ZE ty td):=by have hi:=hi.h;have ho:=ho.h;constructor;intro AC s σ H Q I h;refine bH (hi AC s σ H _ I h) λiv s1 (y,H1,I1,ry,q1)=>bH (ho AC s1 σ H1 _ I1 q1) λu s2 (x,H2,I2,rx,a,ov,ex,g,q2)=>?_;subst ex;obtain rfl:u=Value.ref a:=rx;exact ZA hu I2 g ry λs3 I3=>(.bl (!ov.isSome),H2,I3,Z,q2)
def gG{b j pos}:bE X (.Constant (.bool b) j pos) (tC (.bl b)):=by exact⟨λ_ _ _ H _ I h=>Constant_bool (.bl b,H,I,Z,h)⟩
def tO{pl:Sem Bool}{j k:Nat}{C:Addr}{m:Str}{ps:Da Str}{sp:Sp}{o:Expr}{ta:TE}{Bz pos:Pos}(D:Mn X.prog X.w X.K X.mg X.base j C m ps sp)(hr:fL k X.A)(ho:bE X o ta)(hj:j<=k:=by decide)(ht:eval (.Call (.Attribute o m Bz) [] [] pos) X.env=(do
   let ov <-eval o X.env
   standAt Bz.atName
   let(f,first) <-holding [ov] (getMethod ov m pl)
   callWith pos f first (backTo pos (starEach [] X.env)) (backToKw pos (keywordEach [] X.env))):=by rfl):bE X (.Call (.Attribute o m Bz) [] [] pos) (Ln C m sp [] E0 ta rj):=by
 have ho:=ho.h;constructor
 obtain⟨f,fd,F,b,hm,c⟩:=D.ex
 exact WG (pl:=pl) ho c hm F (hr.mono hj) b .nil (λ_ _ _ _ _ _ _ h=>h.elim) ht
def aX(he:bE X e te):bS X (.Return (some e) pos) (ah4 te):=by have he:=he.h;constructor;intro AC s σ H D I h;exact wpAny_Return_some (bH (he AC s σ H _ I h) λv s1 (x,H1,I1,r1,q1)=>(x,σ,H1,I1,r1,q1))
theorem f_{tg:Expr}{a:Expr}{ta:TA}{p pos:Pos}(hg:Gl X "range")(hm:X.mg "range"=none)(ha:bA X [a] ta)(hs:starEach [a] X.env=[(false,eval a X.env)] :=by rfl):bI X tg (.Call (.Name "range" p) [a] [] pos) (aeK ta):=by
 have ha:=ha.h;constructor;intro AC s σ H R I h;refine Call_ (wm I hg hm boot_range (TL (bH (ha pos AC s σ H _ I h) λus s1 (vs,H1,I1,r1,q1)=>?_) hs rfl));obtain⟨j,e,q1,q2,q⟩:=q1;subst e;cases r1 with
 | cons r rr=>cases rr;obtain⟨t,rfl⟩:=r;exact call_range_1 (Ww I1 (by omega) (by omega) q1 q2 (by simpa using q))
def br:cZ X [] aeC:=by exact⟨λ_ _ σ H _ I h=>Lk (σ,H,I,h)⟩
def d7(K:Fg){o value:Expr}{f:Str}{ta tv:TE}{pos pos':Pos}(ha:bE X o ta)(hv:bE X value tv)(hs:swapsWith value (some (.Attribute o f pos')) pos.line X.env=pure false:=by rfl)(hK:X.K=K:=by rfl):bS X (.Assign [.Attribute o f pos'] value pos) (abr K ta tv f):=by have ha:=ha.h;have hv:=hv.h;exact⟨hK▸abv ha hv hs⟩
theorem JD{tg:Expr}{a b c:Expr}{ta:TA}{p pos:Pos}(hg:Gl X "range")(hm:X.mg "range"=none)(ha:bA X [a,b,c] ta)(hs:starEach [a,b,c] X.env=[(false,eval a X.env),(false,eval b X.env),(false,eval c X.env)] :=by rfl)(hs2:starEach [b,c] X.env=[(false,eval b X.env),(false,eval c X.env)] :=by rfl):bI X tg (.Call (.Name "range" p) [a,b,c] [] pos) (ae6 ta):=by
 have ha:=ha.h;constructor;intro AC s σ H R I h;refine Call_ (wm I hg hm boot_range (TL (bH (ha pos AC s σ H _ I h) λus s1 (vs,H1,I1,r1,q1)=>?_) (by rw[hs,hs2]) (by rw[hs2];rfl)));obtain⟨i,j,k,e,⟨q1,q2,q3,q4,q5,q6⟩,q⟩:=q1;subst e;cases r1 with
 | cons r rr=>
  cases rr with
  | cons r' rr=>
   cases rr with
   | cons r'' rr=>
    cases rr;obtain⟨t,rfl⟩:=r;obtain⟨t',rfl⟩:=r';obtain⟨t'',rfl⟩:=r'';obtain⟨sm,sz⟩:=O5 q1 q2 q3 q4 q5 q6;refine call_range_3 (by omega) ?_ (Or.inl (PyProof.noPylong_small (by omega)));refine wpAny_pyIter_range (IsRange.new ..) sm ?_;have I2:Inv X AC σ H1 { s1 with heap:=s1.heap.push { cls:=.type "range",data:=.fields #[.int i t,.int j t',.int k t''] },toks:=s1.toks }:=I1.kept λb o e=>cN _ e;refine((s1.heap.push { cls:=.type "range",data:=.fields #[.int i t,.int j t',.int k t''] }).objs.size,[(s1.heap.push { cls:=.type "range",data:=.fields #[.int i t,.int j t',.int k t''] }).objs.size],_,_,H1,Z,
     I2.kept (t':=s1.toks) λb o e=>cN _ e,O4 _ i k (s_ i j k),?_,λb hb=>?_,q)
    .have e1:i+((0:Nat):Int)*k=i:=by simp
     have e2:((s_ i j k:Nat):Int)-((0:Nat):Int)=Builtin.Range.rangeSize i j k:=by unfold s_;omega
     show IsRangeIter _ _ (i+((0:Nat):Int)*k) (((s_ i j k:Nat):Int)-((0:Nat):Int)) k;rw[e1,e2];exact ff _ rfl
    .have e:b=(s1.heap.push { cls:=.type "range",data:=.fields #[.int i t,.int j t',.int k t''] }).objs.size:=by simpa using hb
     subst e;exact I2.DU (aO _) (I2.hok.fresh (aO _))
def Vh{a:Expr}{ta:TA}{p pos:Pos}(hg:Gl X "range")(hm:X.mg "range"=none)(ha:bA X [a] ta)(hs:starEach [a] X.env=[(false,eval a X.env)] :=by rfl):bE X (.Call (.Name "range" p) [a] [] pos) (ain ta):=by have ha:=ha.h;constructor;intro AC s σ H Q I h;refine Call_ (wm I hg hm boot_range (TL (bH (ha pos AC s σ H _ I h) λus s1 (vs,H1,I1,r1,q1)=>?_) hs rfl));obtain⟨j,e,q⟩:=q1;subst e;obtain⟨u,rfl,ru⟩:=vals1 r1;obtain⟨t,rfl⟩:=ru;exact call_range_1 (.ref s1.heap.objs.size,_,I1.laid (a:=s1.heap.objs.size) (o:=.yV 0 j) (λb o e=>cN _ e) (aO _) (_,_,_,ff _ rfl),Z,q _ I1.fresh)
def ia(h:bA X es t):bE X (.List es pos) (aib t):=by have h:=h.h;constructor;intro AC s σ H Q I hq;refine wpAny_List_spliced (bH (h pos AC s σ H _ I hq) λus s1 (xs,H1,I1,r,z,q)=>(r.length▸z,?_));have hf:H1 s1.heap.objs.size=none:=I1.hok.fresh (aO _);refine(.ref s1.heap.objs.size,upd H1 s1.heap.objs.size (.lst xs),I1.laid (t':=s1.toks) (λb u e=>cN _ e) (aO _) ?_,Z,q _ hf);exact(z,us,0,r,ff _ rfl)
def rO(K:Fg){o value:Expr}{f:Str}{ta tv:TE}{pos tpos:Pos}{op:Operator}{rd:V->V->Hp->VK->Prop}(ha:bE X o ta)(hv:bE X value tv)(hop:LV X op rd)(hK:X.K=K:=by rfl):bS X (.AugAssign (.Attribute o f tpos) op value pos) (QI K ta tv rd f):=by have ha:=ha.h;have hv:=hv.h;exact⟨hK▸Ua ha hv hop⟩
def acY{j pos}:bE X (.Constant .none j pos) (tC .cK):=by exact⟨λ_ _ _ H _ I h=>Constant_none (.cK,H,I,Z,h)⟩
def Xw{i:Nat}{x:Str}{px pos':Pos}{tg Bn elt cond:Expr}{scope:Scope}{pos:Pos}(N2:Da Str)(ix:Da (Option Nat)){wi:TI}{g:TG}{tc:TT}{te:TE}(hN:X.N.Nodup)(hi:X.N[i]?=some x)(hx:X.env.scope.names.lookup x=some .local)(hc:X.calm=true)(hit:bI X tg Bn wi)(hg:∀cl s₂ H₂ fp,bG (dg X N2 scope cl s₂ H₂ fp) tg g)(he:∀cl s₂ H₂ fp,bE (dg X N2 scope cl s₂ H₂ fp) elt te)(ht:∀cl s₂ H₂ fp,bT (dg X N2 scope cl s₂ H₂ fp) cond tc)(hk:scope.kind =.function)(hn:pB X.N X.env.scope.names scope.names N2 ix=true)(hw:swapsWith (.ListComp elt [(tg,Bn,[cond],0)] scope pos) (some (.Name x px)) pos'.line X.env=pure true)(hs:∀x,foldedSetIterable Bn X.env x=pure x:=by intro _;rfl):bS X (.Assign [.Name x px] (.ListComp elt [(tg,Bn,[cond],0)] scope pos) pos') (LQ (Fv wi ix g tc te) (i9 i)):=⟨W6 N2 ix hN hi hx hc hit.h (λcl s₂ H₂ fp=>(hg cl s₂ H₂ fp).h) (λcl s₂ H₂ fp=>(he cl s₂ H₂ fp).h) (λcl s₂ H₂ fp=>(ht cl s₂ H₂ fp).h) hk hn hw hs⟩
def HM{ob:Expr}{td:TE}{Bz cpos:Pos}(hob:bE X ob td)(hbase:attributeBase ob "values" X.env (eval ob X.env)=eval ob X.env:=by rfl)(hline:(Bz.endLine==cpos.line)=true:=by rfl):bE X (.Call (.Attribute ob "values" Bz) [] [] cpos) (ae8 td):=by have hob:=hob.h;constructor;intro AC s σ H Q I h;refine wpAny_Call_method0_late hbase hline (bH (hob AC s σ H _ I h) λv s1 (x,H1,I1,r1,q1)=>?_);obtain⟨d,AT,rfl,e,fin⟩:=q1;cases r1;obtain⟨t1,t2,hsys⟩:=Ma I1 (.inl (AT,e));obtain⟨hz,_,vs,rel,dd⟩:=ue I1.hok e;refine("dict",_,F.plainAttrs_dict,R8,F.type_dict_values,t1,t2,R1 rfl (PySem.evalArgs_none ?_));refine call_meetsIn R8 dd.typeIs F.entry_dict_values (F.args_dict_values_1 _) (meets_dict_values (dh X.prog X.w) d hsys) ((vs,dd),?_);refine(.ref s1.heap.objs.size,_,I1.laid (t':=s1.toks) (o:=mZ s1.heap.objs.size d) (λb u e=>cN _ e) (aO _) ?_,Z,fin _ I1.fresh);refine((_,ff _ rfl,Z,Z),(_,ff _ rfl),λh1 h2 (o,a,b) k=>(o,k o a,b))
def YQ{j k:Nat}{x:Str}{C:Addr}{ps:Da Str}{sp:Sp}{e:Expr}{es:Da Expr}{t:TA}{p pos:Pos}(D:Cn X.prog X.w X.K X.mg X.base j x C ps sp)(hr:fL k X.A)(ha:bA X (e::es) t)(hj:j+1<=k:=by decide)(hg:Gl X x:=by rfl)(hdb:(x==("__debug__":Str))=false:=by decide)(he:starEach (e::es) X.env=(false,eval e X.env)::starEach es X.env:=by rfl)(hpl:(backTo pos (starEach es X.env)).any (·.1)=false:=by rfl):bE X (.Call (.Name x p) (e::es) [] pos) (Lo C sp [] E0 t):=by have ha:=ha.h;constructor;obtain⟨f,fd,F,b,M,m⟩:=D.ex;exact Zu M F (hr.mono hj) hg m b .nil (λ_ _ _ _ _ _ _ h=>h.elim) ha hdb he hpl
def aan{x:Str}{v:V}{u:Value}{pos:Pos}(hg:Gl X x)(hm:X.mg x=some u)(r:RelV v u)(hd:(x==("__debug__":Str))=false:=by decide):bE X (.Name x pos) (tC v):=by exact⟨λ_ _ _ H _ I h=>CH I hg hm (v,H,I,r,h) hd⟩
def kC(hc:iL X (.type T) r)(hg:Gl X x)(hm:X.mg x=none)(hv:bootBuiltins x=some (.type T))(ha:bA X (e::es) t)(hn:x ≠ "__name__":=by decide)(hdb:(x==("__debug__":Str))=false:=by decide)(he:starEach (e::es) X.env=(false,eval e X.env)::starEach es X.env:=by rfl)(hpl:(backTo pos (starEach es X.env)).any (·.1)=false:=by rfl):bE X (.Call (.Name x p) (e::es) [] pos) (Yt r t):=by have ha:=ha.h;constructor;intro AC s σ H Q I h;refine LD (wm I hg hm hv ?_ hn hdb);exact TL (bH (ha pos AC s σ H _ I h) λus s1 (vs,H1,I1,r1,q1)=>hc AC s1 σ H1 vs us Q I1 r1 q1) he hpl
def jd{Cl:Da Expr}(ha:bT X a tA)(hb:bW X (.BoolOp .Or (b::Cl) pos) Yn):bW X (.BoolOp .Or (a::b::Cl) pos) (tOr tA Yn):=by
 have ha:=ha.h;have hb:=hb.h;constructor;intro wh AC s σ H Q I h;refine isTrue_or (bH (ha AC s σ H _ I h) λc s1 (H1,I1,q1)=>?_);cases c with
 | true=>exact(H1,I1,q1)
 | false=>exact hb wh AC s1 σ H1 Q I1 q1
def v9(ha:bT X a tA):bW X (.BoolOp .And [a] pos) tA:=by
 have ha:=ha.h;constructor;intro wh AC s σ H Q I h;refine isTrue_and (bH (ha AC s σ H Q I h) λc s1 e=>?_);cases c with
 | true=>exact isTrue_and_nil e
 | false=>exact e
def b_{c:Expr}{a b:Da Stmt}{tc:TT}(hc:bT X c tc)(ha:cZ X a t)(hb:cZ X b u):bS X (.If c a b pos) (aa8 tc t u):=⟨Yo hc.h ha.h hb.h⟩
def Vi{i j:Nat}{x y:Str}{a b:Expr}{ta:TA}{px py pt:Pos}{kt k2 pt2}(hc:X.calm=true)(hN:X.N.Nodup)(hi:X.N[i]?=some x)(hj:X.N[j]?=some y)(hij:i≠j)(hx:X.env.scope.names.lookup x=some .local)(hy:X.env.scope.names.lookup y=some .local)(ha:bA X [a,b] ta)(hw:swappedStores [.Tuple [.Name x px,.Name y py] kt pt] (.Tuple [a,b] k2 pt2) X.env=pure (some [x,y]))(hs:swapsWithSole [.Tuple [.Name x px,.Name y py] kt pt] (.Tuple [a,b] k2 pt2) pos.line X.env=pure false:=by rfl):bS X (.Assign [.Tuple [.Name x px,.Name y py] kt pt] (.Tuple [a,b] k2 pt2) pos) (ah6 i j ta):=by
 have ha:=ha.h;constructor;intro AC s σ H D I h;rw[exec_Assign_arm];refine az (CB ?_);rw[hs];refine az (bh ?_);rw[av (by decide)];refine az (Tuple_ (bH (ha _ AC s σ H _ I h) λus s1 (vs,H1,I1,r1,q1)=>?_));obtain⟨v,w,e1,q1⟩:=q1;subst e1;obtain⟨u1,u2,rfl,rv,rw'⟩:∃u1 u2,us=[u1,u2]/\RelV v u1/\RelV w u2:=by
  cases r1 with
  | cons p q=>
   cases q with
   | cons p' q'=>cases q';exact(_,_,Z,p,p')
 refine zR ?_ (by show 2<=sizeLine;decide);have I2:Inv X AC σ H1 { s1 with heap:=s1.heap.push { cls:=.type "tuple",data:=.seq [u1,u2].toArray } }:=I1.kept (t':=s1.toks) λb o e=>cN _ e;rw[hw];refine az (bh ?_);show wpAny (model X.prog X.w) X.A (do rule "assign.swapped-stores";let items <-unpackItems (.ref s1.heap.objs.size) 2 none;assignInOrder [λv=>bindName X.env y v,λv=>bindName X.env x v] items.reverse;pure Flow.next) _ _ _;refine az (wpAny_rule (az (unpackItems_tuple (items:=#[u1,u2]) (I.ok.hd hc) (IsTup.new s1.heap _) λh' hx'=>?_)));have I3:=I2.kept (h':=h') (t':=s1.toks) λb o e=>hx' b o (fq (cA e)) e;show wpAny _ _ (assignInOrder [λv=>bindName X.env y v,λv=>bindName X.env x v] [u2,u1] >>= λ_=>pure Flow.next) _ _ _;refine az (assignInOrder_cons (wpAny_bindName (z7 I3 hN hj (.inl hy) rw' (λs2 I4=>?_) (.inr hy))));refine assignInOrder_cons (wpAny_bindName (z7 I4 hN hi (.inl hx) rv (λs3 I5=>assignInOrder_nil (bh ?_)) (.inr hx)));rw[List.set_comm _ _ (cC hij)]at I5;exact(_,H1,I5,q1)
def jk{c:Expr}{a b:Da Stmt}{tc:TT}{t u:TS}(hc:bT X c tc)(ha:cZ X a t)(hb:cZ X b u):bS X (.If c a b pos) (ab1 tc t u):=by
 have hc:=hc.h;have ha:=ha.h;have hb:=hb.h;constructor;intro AC s σ H D I h;obtain⟨J,h,hJ⟩:=h;refine bH (Yo hc ha hb AC s σ H { D with nx:=J } I h) λf s' q=>?_;cases f with
 | next=>obtain⟨σ',H',I',q⟩:=q;exact(σ',H',I',hJ _ _ q)
 | cont=>exact q
 | brk=>exact q
 | ret v=>exact q
def ak{st:Stmt}{Cl:Da Stmt}(h1:bS X st t)(h2:cZ X Cl u):cZ X (st::Cl) (wu t u):=by
 have h1:=h1.h;have h2:=h2.h;constructor;intro AC s σ H D I h;refine wpAny_execs_cons (bH (h1 AC s σ H { D with nx:=u D } I h) λf s1 q=>?_);cases f with
 | next=>obtain⟨σ',H',I',q⟩:=q;exact h2 AC s1 σ' H' D I' q
 | ret v=>exact q
 | brk=>exact q
 | cont=>exact q
theorem ac0(K:Fg){e st:Expr}{te ts:TE}{pos p2:Pos}(he:bE X e te)(hst:bE X st ts)(hK:X.K=K:=by rfl):bE X (.Subscript e (.Slice none none (some st) p2) pos) (aio K te ts):=by have he:=he.h;have hst:=hst.h;constructor;subst hK;intro AC s σ H Q I h;refine Subscript_ (bH (he AC s σ H _ I h) λv s1 (x,H1,I1,r1,q1)=>?_);refine wpAny_Slice ?_;rw[evalPart_none];refine bh (bh ?_);rw[evalPart_some];refine bH (hst AC s1 σ H1 _ I1 q1) λw3 s3 (y,H3,I3,r3,q3)=>?_;obtain⟨ey,a,xs,rfl,hx,q⟩:=q3;subst ey;obtain⟨t,rfl⟩:=r3;cases r1;have I4:Inv X AC σ H3 { s3 with heap:=s3.heap.push { cls:=.type "slice",data:=.fields #[.none,.none,.int (-1) t] } }:=I3.kept (t':=s3.toks) λb ob q=>cN _ q;obtain⟨BT,r,ht,hz⟩:=I4.list hx;have hlen:=r.length;refine tail_any (ops:=[.ref a,.ref s3.heap.objs.size]) ht.isList.typeIs slot_list_getitem.lookup ?_ (by with_unfolding_all rfl);refine wpAny_getItem_list_slice ht.isList (Heap.IsSliceOf.new ..) .none .none (.int (-1) t) (by decide) ?_ (by rw[iW] <;> omega);rw[PySem.W.krv_pick];refine(.ref _,_,I4.laid (t':=s3.toks) (o:=.lst xs.reverse) (λb ob q=>cN _ q) (aO _) ?_,Z,q _ I4.fresh);exact(by rw[List.length_reverse];exact hz,BT.reverse,0,r.reverse,ff _ rfl)
def je(K:Fg){X:Cx}{es:Da Expr}{k:Nat}{t:EX}{n:Nat}{pos:Pos}(hc:X.calm=true)(h:YL X es t)(hK:X.K=K:=by rfl)(hn:(assignEach es X.env).length=n:=by rfl)(hst:(assignEach es X.env).findIdx? (·.1)=none:=by rfl):bG X (.Tuple es k pos) (DT K n t):=by have h:=h.h;exact⟨hK▸abc hc h hn hst⟩
def bJ(hu:X.A.units+1<cLine)(ho:bE X o td)(hi:bE X i ty)(hs:abR i:=by exact λ_ _=>rfl):bE X (.Subscript o i pos) (Ss td ty):=by have ho:=ho.h;have hi:=hi.h;constructor;intro AC s σ H Q I h;refine ZC PySem.F.slot_dict_getitem.lookup hs (bH (ho AC s σ H _ I h) λu s1 (x,H1,I1,rx,q1)=>bH (hi AC s1 σ H1 _ I1 q1) λiv s2 (y,H2,I2,ry,a,v,ex,g,q2)=>?_);subst ex;obtain rfl:u=Value.ref a:=rx;exact(O0 I2 g,Um hu I2 g ry λw' s3 I3 rw'=>(v,H2,I3,rw',q2))
def aj:bA X [] rj:=by exact⟨λ_ _ _ _ H Q I h=>Calls.spliced_nil ([],H,I,.nil,h)⟩
def ai{i j pos}:bE X (.Constant (.int i) j pos) (tC (.int i)):=by exact⟨λ_ _ _ H _ I h=>wpAny_Constant_int (.int i,H,I.tok _,(_,Z),h)⟩
def M3{Cl:Da Expr}(ha:bE X a ta)(hb:bE X (.BoolOp .And (b::Cl) pos) tb):bE X (.BoolOp .And (a::b::Cl) pos) (aeA ta tb):=by
 have ha:=ha.h;have hb:=hb.h;constructor;intro AC s σ H Q I h;refine BoolOp_and (bH (ha AC s σ H _ I h) λv s1 (x,H1,I1,r1,q1)=>?_);obtain⟨c,rfl,q1⟩:=q1;cases r1;refine DR ?_;cases c with
 | true=>exact hb AC s1 σ H1 Q I1 q1
 | false=>exact(.bl false,H1,I1,Z,q1)
def tP:bE X (.Dict [] [] pos) abV:=by
 exact⟨λAC s σ H Q I h=>
 wpAny_Dict_empty (.ref s.heap.objs.size,_,I.laid (a:=s.heap.objs.size) (o:=.dK []) (t':=s.toks) (λ_ _ q=>cN _ q) (aO _) (L_ s.heap I.big),Z,h _ (I.hok.fresh (aO _)))⟩
def jl{tg e:Expr}{te:TE}{g:TG}(he:bE X e te)(hg:bG X tg g)(hs:swapsWithSole [tg] e pos.line X.env=pure false:=by rfl)(hw:swappedStores [tg] e X.env=pure none:=by rfl)(h1:(assignEach [tg] X.env).map (·.2)=[assign tg X.env] :=by rfl):bS X (.Assign [tg] e pos) (LQ te g):=by have he:=he.h;have hg:=hg.h;constructor;intro AC s σ H D I h;refine wpAny_Assign_stores (bH (he AC s σ H _ I h) λv s1 (x,H1,I1,r1,q1)=>?_) hs hw;rw[h1];exact bH (hg AC s1 σ H1 x v _ I1 r1 q1) λ_ s2 q=>q
def Ef{DD:Da Expr}{kk:Nat}{tpos:Pos}{ob:Expr}{td:TE}{Bz cpos:Pos}(hob:bE X ob td)(hbase:attributeBase ob "items" X.env (eval ob X.env)=eval ob X.env:=by rfl)(hline:(Bz.endLine==cpos.line)=true:=by rfl):bI X (.Tuple DD kk tpos) (.Call (.Attribute ob "items" Bz) [] [] cpos) (acj td):=by
 have hob:=hob.h;constructor;intro AC s σ H R I h;refine wpAny_Call_method0_late hbase hline (bH (hob AC s σ H _ I h) λv s1 (x,H1,I1,r1,q1)=>?_);obtain⟨d,o,AT,rfl,e,fin⟩:=q1;cases r1;obtain⟨ho,hz,hsys,vs,ep,rel,da⟩:=I1.ug e;obtain⟨t1,t2,_⟩:=Ma I1 (.inl (AT,.inr (o,e)));have dd:=da.dictOf;refine("dict",_,F.plainAttrs_dict,F.slot_dict_items,F.type_dict_items,t1,t2,R1 rfl (PySem.evalArgs_none ?_));refine call_meetsIn F.slot_dict_items dd.typeIs F.entry_dict_items (F.args_dict_items_1 _) (meets_dict_items (dh X.prog X.w) d hsys) ((vs,dd),?_);refine wpAny_pyIter_items (s:={ s1 with heap:=s1.heap.push { cls:=.type "dict_items",data:=.fields #[.ref d] } }) (_,ff _ rfl,Z,Z) (da.push _) ?_;have Iv:Inv X AC σ H1 { s1 with heap:=s1.heap.push { cls:=.type "dict_items",data:=.fields #[.ref d] } }:=I1.kept (t':=s1.toks) λb o e=>cN _ e;generalize ({ s1 with heap:=s1.heap.push { cls:=.type "dict_items",data:=.fields #[.ref d] } }:Shared)=sv at *;have I2:Inv X AC σ H1 { sv with heap:=sv.heap.push { cls:=.type "dict_itemiterator",data:=.fields #[.none,.bool false,.ref d,.int 0 0,.int vs.length 0,.int ep 0,.none,.none] } }:=Iv.kept (t':=sv.toks) λb o e=>cN _ e;have hl:AT.length=vs.length:=rel.length;obtain⟨o',es,h1,_,h2,_⟩:=id da;rw[ho]at h1;cases h1;refine(sv.heap.objs.size,[sv.heap.objs.size],_,_,H1,Z,I2,SG h2,?_,λb hb=>?_,fin)
 .rw [hl];exact(_,_,ff _ rfl)
 .have eb:b=sv.heap.objs.size:=by simpa using hb
  subst eb;exact Iv.DU (aO _) (Iv.hok.fresh (aO _))
def ac1{tg:Expr}{l:Expr}{tl:TE}(hl:bE X l tl):bI X tg l (acd tl):=⟨ace hl.h⟩
def iP(ha:bT X a tA):bW X (.BoolOp .Or [a] pos) tA:=by
 have ha:=ha.h;constructor;intro wh AC s σ H Q I h;refine isTrue_or (bH (ha AC s σ H Q I h) λc s1 e=>?_);cases c with
 | false=>exact isTrue_or_nil e
 | true=>exact e
def zm{X:Cx}{st:Stmt}{t:TS}(h:bS X st t):bS X st (aip t):=by
 have h:=h.h;constructor;intro AC s σ H D I hw;obtain⟨d,AT,e,hw⟩:=hw;obtain⟨ho,es,ep,h1,_⟩:=(E6 I.hok e).2.2.choose_spec.2;have h0:=I.UH e;refine bH (h AC s σ _ _ (I.freeze e h1) (hw ho)) λf s' q=>?_;cases f with
 | next=>obtain⟨σ',H',I',q1,q2⟩:=q;exact(σ',_,I'.D0 q1 h0,q2)
 | brk=>obtain⟨σ',H',I',q1,q2⟩:=q;exact(σ',_,I'.D0 q1 h0,q2)
 | cont=>obtain⟨σ',H',I',q1,q2⟩:=q;exact(σ',_,I'.D0 q1 h0,q2)
 | ret u=>obtain⟨v,σ',H',I',r,q1,q2⟩:=q;exact(v,σ',_,I'.D0 q1 h0,r,q2)
def qM(hu:X.A.units+1<cLine)(ho:bE X o td)(hi:bE X i ty)(hv:bE X value tv)(hs:swapsWith value (some (.Subscript o i pos')) pos.line X.env=pure false):bS X (.Assign [.Subscript o i pos'] value pos) (aeW td ty tv):=by have ho:=ho.h;have hi:=hi.h;have hv:=hv.h;constructor;intro AC s σ H D I h;refine wpAny_Assign_Subscript (bH (hv AC s σ H _ I h) λr s1 (v,H1,I1,rv,q1)=>bH (ho AC s1 σ H1 _ I1 q1) λu s2 (x,H2,I2,rx,q2)=>bH (hi AC s2 σ H2 _ I2 q2) λiv s3 (y,H3,I3,ry,a,H4,ex,g,q3)=>?_) hs;subst ex;obtain rfl:u=Value.ref a:=rx;exact Uo hu I3 g ry rv λs4 I4=>(σ,H4,I4,q3)
def qv(i:Nat){x:Str}{pos:Pos}(hN:X.N[i]?=some x:=by rfl)(hv:Yj X.env.scope x:=by first|exact Or.inl rfl|exact Or.inr (Or.inl rfl)|exact Or.inr (Or.inr rfl))(hd:(x==("__debug__":Str))=false:=by decide)(hcd:(x==("__classdict__":Str))=false:=by decide):bE X (.Name x pos) (wk i):=by exact⟨aa4 hN hv hd hcd⟩
def aK{id:String}(hc:iL X (.builtin id) r)(hg:Gl X x)(hm:X.mg x=none)(hv:bootBuiltins x=some (.builtin id))(ha:bA X (e::es) t)(hn:x ≠ "__name__":=by decide)(hdb:(x==("__debug__":Str))=false:=by decide)(he:starEach (e::es) X.env=(false,eval e X.env)::starEach es X.env:=by rfl)(hpl:(backTo pos (starEach es X.env)).any (·.1)=false:=by rfl):bE X (.Call (.Name x p) (e::es) [] pos) (Yt r t):=by have ha:=ha.h;constructor;intro AC s σ H Q I h;refine LD (wm I hg hm hv ?_ hn hdb);exact PyProof.Rows.callWith_builtin1 (bH (ha pos AC s σ H _ I h) λus s1 (vs,H1,I1,r1,q1)=>hc AC s1 σ H1 vs us Q I1 r1 q1) he hpl
def jm{o i:Expr}{to ti:TE}{t:uW}(ho:bE X o to)(hi:bE X i ti)(hs:Wq X t)(ha:∀v,assign (.Subscript o i pos) X.env v=(do
   let ov <-holding [v] (eval o X.env)
   let iv <-holding [v,ov] (eval i X.env)
   standAt pos
   holding [v,ov,iv] (setItem ov iv v)
   release [v,ov,iv] []):=by intro _;rfl):bG X (.Subscript o i pos) (ah5 to ti t):=by
 have ho:=ho.h;have hi:=hi.h;constructor
 intro AC s σ H v u Q I r h
 rw[ha]
 refine az (CC (bH (ho AC s σ H _ I h) λov s1 (x,H1,I1,r1,q1)=>?_))
 refine az (CC (bH (hi AC s1 σ H1 _ I1 q1) λiv s2 (y,H2,I2,r2,q2)=>?_))
 refine az (CB (az (CC (bH (hs AC s2 σ H2 x y v ov iv u _ I2 r1 r2 r q2) λ_ s3 (H3,I3,q3)=>?_))))
 exact wpAny_release (σ,H3,I3,q3)
def g_{st:Stmt}:bS X st aa9:=by exact⟨λ_ _ _ _ _ _ h=>h.elim⟩
def Vj{j k:Nat}{x:Str}{C:Addr}{ps:Da Str}{sp:Sp}{p pos:Pos}(D:Cn X.prog X.w X.K X.mg X.base j x C ps sp)(hr:fL k X.A)(hj:j+1<=k:=by decide)(hg:Gl X x:=by rfl)(hdb:(x==("__debug__":Str))=false:=by decide):bE X (.Call (.Name x p) [] [] pos) (Lo C sp [] E0 rj):=by constructor;obtain⟨f,fd,F,b,M,m⟩:=D.ex;exact WH M F (hr.mono hj) hg m b .nil (λ_ _ _ _ _ _ _ h=>h.elim) hdb
def af(ha:bE X e te)(hr:bA X es t)(hs:starEach (e::es) X.env=(false,eval e X.env)::starEach es X.env:=by rfl):bA X (e::es) (Sm te t):=by have ha:=ha.h;have hr:=hr.h;constructor;intro pos AC s σ H Q I h;rw[hs];show wpAny _ _ (spliced ((false,eval e X.env)::backTo pos (starEach es X.env))) _ _ s;refine Calls.spliced_cons (bH (ha AC s σ H _ I h) λu s1 (x,H1,I1,r1,q1)=>?_);exact bH (hr pos AC s1 σ H1 _ I1 q1) λus s2 (xs,H2,I2,r2,q2)=>(x::xs,H2,I2,.cons r1 r2,q2)
def aN(K:Fg){e:Expr}{f:Str}{ta:TE}{pos:Pos}(he:bE X e ta)(hb:attributeBase e f X.env (eval e X.env)=eval e X.env:=by rfl)(hK:X.K=K:=by rfl):bE X (.Attribute e f pos) (abq K ta f):=by have he:=he.h;exact⟨hK▸abu he hb⟩
def CZ{op:CmpOp}{r:R2}(ho:jU X (compareOp op) r)(ha:bE X a ta)(hb:bE X b tb)(hm:behindInMarks op b=false):bE X (.Compare a [op] [b] pos) (AI r ta tb):=by have ha:=ha.h;have hb:=hb.h;constructor;intro AC s σ H Q I h;exact wpAny_Compare1 (Wx ha hb I h λv u s2 x y H2 I2 rx ry q=>ho AC s2 σ H2 x y v u Q I2 rx ry q) hm
def bB{j k:Nat}{x:Str}{ps:Da Str}{sp:Sp}{e:Expr}{es:Da Expr}{t:TA}{p pos:Pos}(D:Dn X.prog X.w X.K X.mg X.base j x ps sp)(hr:fL k X.A)(ha:bA X (e::es) t)(hj:j<=k:=by decide)(hg:Gl X x:=by rfl)(hdb:(x==("__debug__":Str))=false:=by decide)(he:starEach (e::es) X.env=(false,eval e X.env)::starEach es X.env:=by rfl)(hpl:(backTo pos (starEach es X.env)).any (·.1)=false:=by rfl):bE X (.Call (.Name x p) (e::es) [] pos) (Ys sp [] E0 t):=by have ha:=ha.h;constructor;obtain⟨f,fd,F,b,kp,m⟩:=D.ex;exact Zs F (hr.mono hj) hg m kp b .nil (λ_ _ _ _ _ _ _ h=>h.elim) ha hdb he hpl
def uL{Cl:Da Expr}(ha:bT X a tA)(hb:bW X (.BoolOp .And (b::Cl) pos) Yn):bW X (.BoolOp .And (a::b::Cl) pos) (ah0 tA Yn):=by
 have ha:=ha.h;have hb:=hb.h;constructor;intro wh AC s σ H Q I h;refine isTrue_and (bH (ha AC s σ H _ I h) λc s1 (H1,I1,q1)=>?_);cases c with
 | true=>exact hb wh AC s1 σ H1 Q I1 q1
 | false=>exact(H1,I1,q1)
section
variable {P:Program}{w:World}{K:Fg}{mg:SO}{base:Heap}{f C:Addr}{fd:FuncData}{N ps:Da Str}{k:Nat}{sp:Sp}{x m qual:Str}{st:Stmt}
def c9{N P:Da Str}{sc:Scope}(a:sc.kind =.function:=by rfl)(b:sc.isCoroutine=false:=by rfl)(c:sc.isGenerator=false:=by rfl)(d:N.Nodup:=by decide +kernel)(e:N.take P.length=P:=by rfl)(f:∀x∈P,sc.names.lookup x=some .local\/sc.names.lookup x=some .cell:=by decide +kernel)(g:∀y∈sc.names,y.2 ≠ .free:=by decide +kernel):aQ N P sc:=(a,b,c,d,e,f,g)
def At.oA(F:At K mg x st f fd)(S:aQ N ps (aD st))(Ch:∀(yn:Value) (A:Around) (outer:Da Env) (s:Shared) (H:Hp) (vs:Da V) (Q:VK) (E:XK),fL k (A.deeper (envOfC x (aD st) s.heap.objs.size f yn))->sp vs H Q E->
    ∃t,yc (uX wG P w K mg base N x (aD st) f yn A outer s H E).Ds (dU st) t/\t { nx:=λ_ H'=>Q .cK H',rt:=Q } (start N vs) H)(len:∀vs H Q E,sp vs H Q E->vs.length=ps.length:=by intro vs H Q E h;first|(cases h.ex;subst_vars;rfl)|(have h:=h.ex;(repeat first|(obtain⟨rfl,_⟩:=h;rfl)|(obtain⟨_,h⟩:=h));done)|(repeat first|(obtain⟨rfl,_⟩:=h;rfl)|(obtain⟨_,h⟩:=h)))(h:∀(kV doc pm:Value) (an:Option Addr) (yn ct:Value) (us:Da Value),us.length=ps.length->bindArgs (PySem.W.fnOf x x (gI st) (dU st) (aD st) .none kV doc pm an yn ct) (us,[])=pure (ps.zip us):=by intro _ _ _ _ _ _ us hl;repeat' (first|rfl|(simp at hl;done)|(rcases us with _|⟨_,us⟩))):Dn P w K mg base (k+1) x ps sp:=F.ok S len Ch h
def ja.oA(F:ja K C m qual st f fd)(S:aQ N ps (aD st))(Ch:∀(yn:Value) (A:Around) (outer:Da Env) (s:Shared) (H:Hp) (vs:Da V) (Q:VK) (E:XK),fL k (A.deeper (envOfC qual (aD st) s.heap.objs.size f yn))->sp vs H Q E->
    ∃t,yc (uX wG P w K mg base N qual (aD st) f yn A outer s H E).Ds (dU st) t/\t { nx:=λ_ H'=>Q .cK H',rt:=Q } (start N vs) H)(len:∀vs H Q E,sp vs H Q E->vs.length=ps.length:=by intro vs H Q E h;first|(cases h.ex;subst_vars;rfl)|(have h:=h.ex;(repeat first|(obtain⟨rfl,_⟩:=h;rfl)|(obtain⟨_,h⟩:=h));done)|(repeat first|(obtain⟨rfl,_⟩:=h;rfl)|(obtain⟨_,h⟩:=h)))(h:∀(kV doc pm:Value) (an:Option Addr) (yn ct:Value) (us:Da Value),us.length=ps.length->bindArgs (PySem.W.fnOf m qual (gI st) (dU st) (aD st) .none kV doc pm an yn ct) (us,[])=pure (ps.zip us):=by intro _ _ _ _ _ _ us hl;repeat' (first|rfl|(simp at hl;done)|(rcases us with _|⟨_,us⟩))):Mn P w K mg base (k+1) C m ps sp:=F.ok S len Ch h
def Je.oA(F:Je K mg x C qual st f fd)(S:aQ N ps (aD st))(Ch:∀(yn:Value) (A:Around) (outer:Da Env) (s:Shared) (H:Hp) (vs:Da V) (Q:VK) (E:XK),fL k (A.deeper (envOfC qual (aD st) s.heap.objs.size f yn))->sp vs H Q E->
    ∃t,yc (uX wG P w K mg base N qual (aD st) f yn A outer s H E).Ds (dU st) t/\t { nx:=λ_ H'=>Q .cK H',rt:=Q } (start N vs) H)(len:∀vs H Q E,sp vs H Q E->vs.length=ps.length:=by intro vs H Q E h;first|(cases h.ex;subst_vars;rfl)|(have h:=h.ex;(repeat first|(obtain⟨rfl,_⟩:=h;rfl)|(obtain⟨_,h⟩:=h));done)|(repeat first|(obtain⟨rfl,_⟩:=h;rfl)|(obtain⟨_,h⟩:=h)))(h:∀(kV doc pm:Value) (an:Option Addr) (yn ct:Value) (us:Da Value),us.length=ps.length->bindArgs (PySem.W.fnOf "__init__" qual (gI st) (dU st) (aD st) .none kV doc pm an yn ct) (us,[])=pure (ps.zip us):=by intro _ _ _ _ _ _ us hl;repeat' (first|rfl|(simp at hl;done)|(rcases us with _|⟨_,us⟩))):Cn P w K mg base (k+1) x C ps sp:=F.ok S len Ch h
end
noncomputable def rP(b:BS)(x:Str)(F:BP->BP):BS:={ b with ah:=(b.ah.map λp=>if p.nm=x then F p else p).filter λp=>decide (0<p.wo) }
noncomputable def qi(b:BS)(x:Str):BP:=(b.ah.find? λp=>decide (p.nm=x)).getD (x,x,0,0,[])
noncomputable def oG(b:BS)(o:Str)(p:BP):BP:={ p with ow:=o,tops:=(p.tops.set (b.own.idxOf p.ow) 0).set (b.own.idxOf o) ((p.tops.set (b.own.idxOf p.ow) 0).getD (b.own.idxOf o) 0+p.tops.getD (b.own.idxOf p.ow) 0) }
noncomputable def B0(b:BS)(x y:Str)(a we:Int):BS:={ b with
 ah:=((b.ah.map λp:BP=>if p.nm=x then{ p with wo:=p.wo-a,we:=p.we-we } else p)++[BP.mk y (qi b x).ow a we (qi b x).tops]).filter λp=>decide (0<p.wo)
 eF:=b.eF++[y] }
noncomputable def yt(b:BS)(x:Str):BS:={ rP b x λp=>{ p with wo:=0 }with bM:=b.bM++[⟨x,(qi b x).ow,(qi b x).wo,(qi b x).tops,b.bot⟩] }
noncomputable def uo(b:BS):Dd->BS
 | .sign _=>b
 | .load x o wo we=>Al b x o wo we
 | .cast rs=>ju b (di b rs) 0 0
 | .award o a=>ju b (List.replicate b.ah.length 0) (b.own.idxOf o) a
 | .mishap x a=>rP b x λp=>{ p with wo:=p.wo-a }
 | .rise x a=>rP b x λp=>{ p with wo:=p.wo+a }
 | .hand x o=>rP b x (oG b o)
 | .land x=>yt b x
 | .sever x y a we=>B0 b x y a we
 | .still=>b
def JE(b:BS)(d:Dd):(uo b d).own=b.own:=by cases d <;> rfl
inductive afr(e:Ec)(vs:Da V)(H:Hp)(Q:VK)(E:XK):Prop
 |mk(a:Int)(_:vs=[.int a])(_:(a<1->Rf e E H 5))(_:(1<=a->Q .cK H))
def B3(e:Ec):Sp:=bx (afr e)
inductive afs(e:Ec)(vs:Da V)(H:Hp)(Q:VK)(E:XK):Prop
 |mk(m a:Int)(_:vs=[.int m,.int a])(_:(a<1->Rf e E H 5))(_:(1<=a->m<a->Rf e E H 6))(_:(1<=a->a<=m->Q .cK H))
def M5(e:Ec):Sp:=bx (afs e)
inductive Xx(T:TC)(e:Ec)(vs:Da V)(H:Hp)(Q:VK)(E:XK):Prop
 |mk(n ρ A st x a:_)(_:vs=[.ref A.a,.str x,.int a])(_:HH T n ρ A H st)(_:JC T e n ρ A H (mR st (x,a)) (eL st (x,a)) Q E)
def JF(T:TC)(e:Ec):Sp:=bx (Xx T e)
inductive ac2(T:TC)(e:Ec)(vs:Da V)(H:Hp)(Q:VK)(E:XK):Prop
 |mk(n ρ A st x a:_)(_:vs=[.ref A.a,.str x,.int a])(_:HH T n ρ A H st)(_:JC T e n ρ A H (um st x a:_) (FY st x a:_) Q E)
def Rm(T:TC)(e:Ec):Sp:=bx (ac2 T e)
inductive aft(K:Fg)(vs:Da V)(H:Hp)(Q:VK)(E:XK):Prop
 |mk(l:Addr)(us:Da V)(ws:Da Row)(x:Str)(_:vs=[.ref l,.str x])(_:aC K H l us)(_:MQ K H us ws)(_:(ws.map (λr:Row=>r.1)).Nodup)(_:ws.length<=1000)(_:(∀(i:Nat) (r:Row),ws[i]?=some r->r.1=x->Q (.int (i:Int)) H))(_:((∀r∈ws,r.1≠x)->Q (.int (-1)) H))
def F0(K:Fg):Sp:=bx (aft K)
inductive M7(al:HS->Dd->Prop)(K:Fg)(vs:Da V)(H:Hp)(Q:VK)(E:XK):Prop
 |mk(n c:Nat)(ρ:d8)(B:BA)(b:BS)(st:HS)(z:Addr)(d:Dd)(_:vs=[.ref B.m,.ref z])(_:H z=some (.tup d.v))(_:Gh ρ H)(_:bf n ρ B H b)(_:eX c st b)(_:c<=90)(_:Wf st)(_:al st d)(_:MY d)(_:tM st d=none)(_:∀ρ' B' H',Gh ρ' H'->bf n ρ' B' H' (uo b d:_)->B'.m=B.m->Fr n ρ H ρ' H'->Q .cK H')
def uM(al:HS->Dd->Prop)(K:Fg):Sp:=bx (M7 al K)
theorem Dn.imp{P:Program}{w:World}{K:Fg}{mg:SO}{base:Heap}{k:Nat}{x:Str}{ps:Da Str}{sp Uc:Sp}(D:Dn P w K mg base k x ps sp)(h:∀vs H Q E,Uc vs H Q E->sp vs H Q E):Dn P w K mg base k x ps Uc:=by obtain⟨f,fd,F,b,kp,m⟩:=D.ex;exact(f,fd,F.imp h,b,kp,m)
def ac3{P:Program}{w:World}{K:Fg}{mg:SO}{base:Heap}{k:Nat}{ps:Da Str}(D:Dn P w K mg base k "_law_at" ps (F0 K)):Dn P w K mg base k "_law_at" ps (YJ K):=D.imp λvs H Q E h=>by
 obtain⟨⟨l,us,ws,j,r,rfl,hl,hW,nd,hle,ej,q⟩⟩:=h;refine(l,us,ws,r.1,Z,hl,hW,nd,hle,λi r' e1 e2=>?_,λz=>absurd rfl (z r (bg ej)));have hi:i<ws.length:=(c_.mp e1).1;have r1:(ws.map (λr:Row=>r.1))[i]?=some r'.1:=by rw[bP,e1];rfl
 have r2:(ws.map (λr:Row=>r.1))[j]?=some r.1:=by rw[bP,ej];rfl
 have:i=j:=(Hq (by rw[aG];exact hi) nd).mp (r1.trans (by rw[e2];exact r2.symm));rw[this];exact q
def oH{st:HS}{x:Str}(h:x∈fW st):∃(i:Nat)(p:Pt),st.ah[i]?=some p/\p.nm=x:=by obtain⟨p,hp,e⟩:=bw.mp h;obtain⟨i,hi,ei⟩:=oQ hp;exact(i,p,by rw[a_ hi,ei],e)
def C0{st:HS}{i:Nat}{p:Pt}(h:st.ah[i]?=some p):p.nm∈fW st:=bw.mpr (p,bg h,Z)
theorem vX{α:Type}{nm:α->Str}{f:α->α}:∀{l:Da α}{i:Nat}{p:α},(l.map nm).Nodup->l[i]?=some p->(l.map λq=>if nm q=nm p then f q else q)=l.set i (f p)
 | [],_,_,_,h=>by simp at h
 | a::l,0,p,nd,h=>by
  have e:a=p:=by simpa using h
  subst e;obtain⟨h1,_⟩:=iu.mp (show(nm a::l.map nm).Nodup from nd);rw[bK,ay rfl,LG];congr 1;refine(uT (g:=id) (λq hq=>av λz=>h1 (bw.mpr (q,hq,z)))).trans (List.map_id l)
 | a::l,i+1,p,nd,h=>by
  obtain⟨h1,h2⟩:=iu.mp (show(nm a::l.map nm).Nodup from nd);have h':l[i]?=some p:=by simpa using h
  rw[bK,av (λz=>h1 (bw.mpr (p,bg h',z.symm))),LF,vX h2 h']
def C3{st:HS}(nd:(st.ah.map (·.nm)).Nodup){i:Nat}{p:Pt}(h:st.ah[i]?=some p)(f:Pt->Pt):pG st p.nm f={ st with ah:=st.ah.set i (f p) }:=by unfold pG;rw[vX (nm:=λp:Pt=>p.nm) nd h]
def zu{st:HS}(wf:Wf st){x:Str}{f:Pt->Pt}(h:∀p∈st.ah,p.nm=x->(f p).nm=p.nm/\(f p).ow=p.ow/\(f p).sc=p.sc/\(f p).row=p.row/\1<=(f p).wo/\0<=(f p).we):Wf (pG st x f):=by
 have P:∀{M:Pt->Prop},(∀p∈st.ah,p.nm=x->M (f p))->(∀p∈st.ah,M p)->∀p∈(pG st x f).ah,M p:=λa c p hp=>by
  obtain⟨q,hq,rfl⟩:=bw.mp (show p∈st.ah.map _ from hp);by_cases e:q.nm=x
  .rw [ay e];exact a q hq e
  .rw [av e];exact c q hq
 have en:(pG st x f).ah.map (λp:Pt=>p.nm)=st.ah.map (λp:Pt=>p.nm):=by
  show(st.ah.map _).map _=_;rw[fH];refine uT λp hp=>?_;show(if p.nm=x then f p else p).nm=p.nm;by_cases e:p.nm=x
  .rw [ay e];exact(h p hp e).1
  .rw [av e]
 refine(wf.tE,wf.Ad,?_,P (λp hp e=>?_) wf.sub,P (λp hp e=>?_) wf.rows,P (λp hp e=>?_) wf.ow,wf.gk,wf.oU,wf.gq,wf.pS,wf.u9,wf.lR,wf.Ae,?_,wf.BG,wf.u_,wf.Jg,wf.big,wf.qf,P (λp hp e=>?_) wf.rE,P (λp hp e=>?_) wf.oV,P (λp hp e=>?_) wf.rF,P (λp hp e=>?_) wf.kj,wf.HB)
 .show ((pG st x f).ah.map (λp:Pt=>p.nm)).Nodup;rw[en];exact wf.fP
 .show (f p).nm∈st.nms;rw[(h p hp e).1];exact wf.sub p hp
 .rw [(h p hp e).2.2.2.1];exact wf.rows p hp
 .show (f p).ow∈st.own;rw[(h p hp e).2.1];exact wf.ow p hp
 .show (st.ah.map _).length<=1000;rw[aG];exact wf.rD
 .rw [(h p hp e).2.2.1];exact wf.rE p hp
 .rw [(h p hp e).2.2.2.1];exact wf.oV p hp
 .rw [(h p hp e).2.2.2.1,(h p hp e).2.2.1];exact wf.rF p hp
 .exact (h p hp e).2.2.2.2
def qj(p:BP):Q4:=(p.nm,p.ow,p.wo,p.we)
def C4{l:Da BP}{F:BP->BP}{f:Q4->Q4}(h:∀p∈l,qj (F p)=f (qj p)):((l.map F).filter λp=>decide (0<p.wo)).map qj=((l.map qj).map f).filter λq=>decide (0<q.2.2.1):=by
 induction l with
 | nil=>rfl
 | cons p l ih=>
  have ih:=ih λq hq=>h q (cR _ hq);have e:=h p cO;rw[bK,bK,bK,<-e];by_cases c:0<(F p).wo
  .rw [List.filter_cons_of_pos (p:=λp:BP=>decide (0<p.wo)) (bR c),List.filter_cons_of_pos (p:=λq:Q4=>decide (0<q.2.2.1)) (bR (show 0<(qj (F p)).2.2.1 from c)),bK,ih]
  .rw [List.filter_cons_of_neg (p:=λp:BP=>decide (0<p.wo)) (by simpa using c),List.filter_cons_of_neg (p:=λq:Q4=>decide (0<q.2.2.1)) (by simpa using(show ¬ 0<(qj (F p)).2.2.1 from c)),ih]
theorem Lr{c:Nat}{st:HS}{b:BS}(g:eX c st b){ps:Da Pt}{bs:Da BP}(qd:iM { st with ah:=ps }=oz { b with ah:=bs })(hp:∀p'∈ps,∃p∈st.ah,p'.nm=p.nm/\p'.sc=p.sc/\p'.row=p.row)(hb:∀q'∈bs,∃q∈b.ah,q'.nm=q.nm/\q'.ow=q.ow/\q'.tops=q.tops/\1<=q'.wo/\q'.wo<=q.wo+1000000000/\q'.we<=q.we)(sb:(bs.map λp:BP=>p.nm).Sublist (b.ah.map λp:BP=>p.nm)):eX (c+1) { st with ah:=ps } { b with ah:=bs }:=by
 have hl:bs.length<=b.ah.length:=by have:=sb.length_le;rwa [aG,aG]at this
 have wb:=g.fD
 refine((wb.nd.sublist sb,λq hq=>?_,λq hq=>?_,wb.b1,wb.bz,λq hq=>?_,wb.ol,fG hl wb.pl,wb.kl),(g.rel.own,qd),λp eW q hq e j=>?_,λu hu=>(g.bN u hu).mono (by omega),fG g.stp (by omega),g.prod.mono (by omega),g.bot.mono (by omega),λq hq=>?_,(λq hq=>by obtain⟨q0,h0,e1,e2,e3,e4,e5,e6⟩:=hb q hq;have:=g.we q0 h0;omega),(by have:=g.pl;show bs.length<=_;omega),(by have:=g.kl;show b.eF.length<=_;omega),g.own,λq hq=>?_,g.bM,g.eF,g.nk,g.on,λq hq=>?_)
 . obtain⟨q0,h0,e1,e2,e3,e4,e5⟩:=hb q hq;rw[e3];exact wb.tl q0 h0
 . obtain⟨q0,h0,e1,e2,e3,e4,e5⟩:=hb q hq;rw[e3];exact wb.t0 q0 h0
 . obtain⟨q0,h0,e1,e2,e3,e4,e5⟩:=hb q hq;exact e4
 . obtain⟨q0,h0,e1,e2,e3,e4,e5⟩:=hb q hq
   obtain⟨p0,k0,k1,k2,k3⟩:=hp p eW
   have:=g.oW p0 k0 q0 h0 (by rw[<-k1,<-e1];exact e) j
   rw[e3]
   show _=(aT { st with ah:=ps } p).getD j 0*b.bot
   have et:aT { st with ah:=ps } p=aT st p0:=by unfold aT;rw[k2,k3]
   rw[et];exact this
 . obtain⟨q0,h0,e1,e2,e3,e4,e5⟩:=hb q hq
   have:=g.wo q0 h0
   omega
 . obtain⟨q0,h0,e1,e2,e3,e4,e5⟩:=hb q hq;rw[e1,e2];exact g.nm q0 h0
 . obtain⟨q0,h0,e1,e2,e3,e4,e5⟩:=hb q hq;rw[e3];exact g.sum q0 h0
def C5(b:BS)(x:Str)(F:BP->BP)(h:∀p∈b.ah,(F p).nm=p.nm):(((b.ah.map λp=>if p.nm=x then F p else p).filter λp=>decide (0<p.wo)).map λp:BP=>p.nm).Sublist (b.ah.map λp:BP=>p.nm):=by
 have e:(b.ah.map λp=>if p.nm=x then F p else p).map (λp:BP=>p.nm)=b.ah.map λp:BP=>p.nm:=by
  rw[fH];refine uT λp hp=>?_;show(if p.nm=x then F p else p).nm=p.nm;by_cases c:p.nm=x
  .rw [ay c];exact h p hp
  .rw [av c]
 rw[<-e];exact(LC).map _
def wX{c:Nat}{st:HS}{b:BS}(g:eX c st b):st.ah.map (λp=>((p.nm,p.ow,p.wo,p.we):Q4))=b.ah.map qj:=g.rel.qd
theorem Vk{c:Nat}{st:HS}{b:BS}{x:Str}{a:Int}(g:eX c st b)(wf:Wf st)(h:mR st (x,a)=none):eX (c+1) (eL st (x,a)) (rP b x λp=>{ p with wo:=p.wo-a }):=by
 have hr:x∈fW st/\1<=a/\a<=(cS st x).wo:=by
  unfold mR at h;by_cases c1:x∈fW st
  .rw [ay c1]at h;by_cases c2:a<1
   .rw [ay c2]at h;cases h
   .rw [av c2]at h;by_cases c3:(cS st x).wo<a
    .rw [ay c3]at h;cases h
    .exact (c1,by omega,by omega)
  .rw [av c1]at h;cases h
 obtain⟨hm,h1,h2⟩:=hr;have le:∀p∈st.ah,p.nm=x->a<=p.wo:=λp hp e=>by rw[dR wf hp e]at h2;exact h2
 have leB:∀q∈b.ah,q.nm=x->a<=q.wo:=λq hq e=>by
  obtain⟨j,hj,ej⟩:=oQ hq;obtain⟨p,hp,k1,_,k3,_⟩:=g.rel.at (i:=j) (q:=q) (by rw[a_ hj,ej])
  rw[<-k3];exact le p (bg hp) (k1.trans e)
 refine Lr g ?_ (λp hp=>?_) (λq hq=>?_) (C5 b x _ λ_ _=>rfl)
 .show (ko st.ah x a).map _=List.map qj ((b.ah.map _).filter _);rw[C4 (f:=λq:Q4=>if q.1=x then(q.1,q.2.1,q.2.2.1-a,q.2.2.2) else q) (λp hp=>by
   show qj (if p.nm=x then _ else _)=if p.nm=x then _ else _;by_cases e:p.nm=x
   .rw [ay e,ay e];rfl
   .rw [av e,av e]),<-wX g]
  show(ko st.ah x a).map _=_;have:=Jw st (x,a);rw[show(ko st.ah x a).map (λp:Pt=>((p.nm,p.ow,p.wo,p.we):Q4))=pT (iM st) (x,a)from this];unfold pT iM;refine List.filter_congr λq hq=>decide_eq_decide.mpr ?_;obtain⟨q0,nG,rfl⟩:=bw.mp hq;obtain⟨p,hp,rfl⟩:=bw.mp nG;have w1:=(wf.kj p hp).1;show(if p.nm=x then _ else _:Q4).2.2.1≠0↔0<(if p.nm=x then _ else _:Q4).2.2.1;by_cases e:p.nm=x
  .have:=le p hp e;rw[ay e];show p.wo-a≠0↔0<p.wo-a;omega
  .rw [av e];show p.wo≠0↔0<p.wo;omega
 .obtain ⟨_,q,hq,rfl⟩:=tK (show p∈ko st.ah x a from hp);refine(q,hq,?_);by_cases e:q.nm=x
  .rw [ay e];exact(Z,Z,Z)
  .rw [av e];exact(Z,Z,Z)
 .obtain ⟨h3,h4⟩:=iU.mp hq;obtain⟨q0,nG,rfl⟩:=bw.mp h3;have w1:=g.fD.w1 q0 nG;have h4:=eO h4;refine(q0,nG,?_);by_cases e:q0.nm=x
  .rw [ay e]at h4 ⊢;have h4:0<q0.wo-a:=h4;exact(Z,Z,Z,by show 1<=q0.wo-a;omega,by show q0.wo-a<=_;omega,eZ _)
  .rw [av e];exact(Z,Z,Z,w1,by omega,eZ _)
theorem aao{c:Nat}{st:HS}{b:BS}{x:Str}{a:Int}(g:eX c st b)(wf:Wf st)(h1:1<=a)(h2:a<=1000000000):eX (c+1) (FY st x a) (rP b x λp=>{ p with wo:=p.wo+a }):=by
 refine Lr g ?_ (λp hp=>?_) (λq hq=>?_) (C5 b x _ λ_ _=>rfl)
 .show (st.ah.map _).map _=List.map qj ((b.ah.map _).filter _);rw[C4 (f:=λq:Q4=>if q.1=x then(q.1,q.2.1,q.2.2.1+a,q.2.2.2) else q) (λp hp=>by
   show qj (if p.nm=x then _ else _)=if p.nm=x then _ else _;by_cases e:p.nm=x
   .rw [ay e,ay e];rfl
   .rw [av e,av e]),<-wX g,Bg.mpr (λq hq=>by
    obtain⟨q0,nG,rfl⟩:=bw.mp hq;obtain⟨p,hp,rfl⟩:=bw.mp nG;have w1:=(wf.kj p hp).1;refine bR ?_;show 0<(if p.nm=x then _ else _:Q4).2.2.1;by_cases e:p.nm=x
    .rw [ay e];show 0<p.wo+a;omega
    .rw [av e];show 0<p.wo;omega),fH,fH]
  refine uT λp hp=>?_;show(λp:Pt=>((p.nm,p.ow,p.wo,p.we):Q4)) (if p.nm=x then _ else _)=if p.nm=x then _ else _;by_cases e:p.nm=x
  .rw [ay e,ay e]
  .rw [av e,av e]
 .obtain ⟨q,hq,rfl⟩:=bw.mp hp;refine(q,hq,?_);by_cases e:q.nm=x
  .rw [ay e];exact(Z,Z,Z)
  .rw [av e];exact(Z,Z,Z)
 .obtain ⟨h3,h4⟩:=iU.mp hq;obtain⟨q0,nG,rfl⟩:=bw.mp h3;have w1:=g.fD.w1 q0 nG;refine(q0,nG,?_);by_cases e:q0.nm=x
  .rw [ay e];exact(Z,Z,Z,by show 1<=q0.wo+a;omega,by show q0.wo+a<=_;omega,eZ _)
  .rw [av e];exact(Z,Z,Z,w1,by omega,eZ _)
def qm{st:HS}{b:BS}(r:jX st b)(wf:Wf st){x:Str}(h:x∈fW st):∃(i:Nat)(p:Pt)(q:BP),st.ah[i]?=some p/\b.ah[i]?=some q/\p.nm=x/\q.nm=x/\q.ow=p.ow/\q.wo=p.wo/\q.we=p.we/\cS st x=p:=by obtain⟨i,p,h1,h2⟩:=oH h;obtain⟨q,k1,k2,k3,k4,k5⟩:=r.at' h1;exact(i,p,q,h1,k1,h2,k2.symm.trans h2,k3.symm,k4.symm,k5.symm,dR wf (bg h1) h2)
def M_{st:HS}{b:BS}(r:jX st b):(vI b).map (λr:Row=>r.1)=fW st:=by
 have:(iM st).map (λq:Q4=>q.1)=(oz b).map (λq:Q4=>q.1):=by rw[r.qd]
 unfold iM oz at this;rw[fH,fH]at this;unfold vI fW;rw[fH];exact this.symm
def aap{K:Fg}{H:Hp}{Q:VK}{E:XK}{n:Nat}{ρ:d8}{B:BA}{b:BS}{st:HS}{x:Str}(hb:bf n ρ B H b)(r:jX st b)(wf:Wf st)(wb:yo b)(q:∀(i:Nat) (p:Pt) (q:BP),st.ah[i]?=some p->b.ah[i]?=some q->p.nm=x->q.nm=x->q.ow=p.ow->q.wo=p.wo->q.we=p.we->cS st x=p->x∈fW st->Q (.int (i:Int)) H)(q2:x∉fW st->Q (.int (-1)) H):F0 K [.ref B.lp,.str x] H Q E:=by
 have nd:((vI b).map (λr:Row=>r.1)).Nodup:=by unfold vI;rw[fH];exact wb.nd
 refine(B.lp,_,vI b,x,Z,aC.of hb.op,hb.nw,nd,by unfold vI;rw[aG];exact wb.pl,λi r' e1 e2=>?_,λh=>q2 λz=>?_)
 . have hm:x∈fW st:=by rw[<-M_ r];exact bw.mpr (r',bg e1,e2)
   obtain⟨j,p,q',k1,k2,k3,k4,k5,k6,k7,k8⟩:=qm r wf hm
   have r1:((vI b).map (λr:Row=>r.1))[i]?=some x:=by rw[bP,e1];show some r'.1=_;rw[e2]
   have r2:((vI b).map (λr:Row=>r.1))[j]?=some x:=by unfold vI;rw[fH,bP,k2];show some q'.nm=_;rw[k4]
   have:i=j:=(Hq (c_.mp r1).1 nd).mp (r1.trans r2.symm)
   subst this
   exact q i p q' k1 k2 k3 k4 k5 k6 k7 k8 hm
 . rw[<-M_ r]at z
   obtain⟨r',hr',e⟩:=bw.mp z
   exact h r' hr' e
theorem B7{st:HS}{x:Str}{a:Int}(h:um st x a=none):x∈fW st/\1<=a:=by
 unfold um at h;by_cases hm:x∈fW st
 .rw [ay hm]at h;by_cases c:a<1
  .rw [ay c]at h;cases h
  .exact (hm,by omega)
 .rw [av hm]at h;cases h
structure HN(st:HS):Prop where
 big:Jm.Sz 60 (aI st)
 prod:Jm.Sz 7900 st.prod
 bN:∀u∈st.bN,Jm.Sz 8900 u
 stp:st.stp.length<100
def lC(st:HS)(o:Str)(a:Int):Da Int:=(List.replicate st.own.length 0).set (st.own.idxOf o) (a*st.prod)
inductive aaq(T:TC)(e:Ec)(vs:Da V)(H:Hp)(Q:VK)(E:XK):Prop
 |mk(n ρ A st o a:_)(_:vs=[.ref A.a,.str o,.int a])(_:HH T n ρ A H st)(_:HN st)(_:JC T e n ρ A H (nF st o a:_) (BW st o a:_) Q E)
def Na(T:TC)(e:Ec):Sp:=bx (aaq T e)
theorem rQ{st:HS}{o:Str}{a:Int}(h:nF st o a=none):o∈st.own/\1<=a/\a<aI st:=by
 unfold nF at h;split at h
 .split at h
  .cases h
  .split at h
   .cases h
   .exact (by assumption,by omega,by omega)
 .cases h
def Xy{st:HS}{o:Str}{a m:Int}(h:m∈lC st o a):m=0\/m=a*st.prod:=by
 rcases Lu h with z|z
 .exact .inl (Lv z)
 .exact .inr z
def Xz(st:HS)(o:Str)(a:Int):(lC st o a).length=st.own.length:=by unfold lC;rw[fF,jr]
theorem HN.blend{st:HS}{o:Str}{a:Int}(w:HN st)(wf:Wf st)(h1:1<=a)(h2:a<aI st):oh st (aI st-a) (aI st) a (lC st o a):=by have p1:=wf.gq;refine(by omega,by omega,by omega,by rw[Xz,wf.gk],λm hm=>?_,w.prod,w.big,w.bN,w.stp);have:0<=a*st.prod:=pM (by omega) (by omega);rcases Xy hm with z|z <;> omega
def Nb{l:Da Int}{i j:Nat}{x:Int}(h:i<l.length):(l.set i x).getD j 0=if i=j then x else l.getD j 0:=by
 rw[dQ,Sb];by_cases e:i=j
 .subst e;rw[ay rfl,ay rfl,ay h];rfl
 .rw [av e,av e,dQ]
def Nc(n j:Nat):(List.replicate n (0:Int)).getD j 0=0:=by rw[dQ,R0];split <;> rfl
theorem Nd:∀(ps:Da BP)(i:Nat),iR ps (List.replicate ps.length 0) i=0
 | [],_=>rfl
 | p::ps,i=>by have:=Nd ps i;unfold iR at this ⊢;rw[ig,zP,uS,cI,this,Int.mul_zero];rfl
def F_(b:BS)(j:Nat):(gQ b (List.replicate b.ah.length 0)).getD j 0=0:=by
 unfold gQ;rw[dQ,bP];cases(List.range b.own.length)[j]? with
 | none=>rfl
 | some i=>exact Nd b.ah i
def ac4{b:BS}{seat:Nat}{a:Int}{p:BP}(h:p∈(ju b (List.replicate b.ah.length 0) seat a).ah):∃q∈b.ah,p=nC (iE b (List.replicate b.ah.length 0) seat a) (bV b-a) q 0:=by obtain⟨h1,_⟩:=iU.mp (show p∈(dY b (List.replicate b.ah.length 0) seat a).filter _ from h);obtain⟨i,x,y,ex,ey,e⟩:=jx (show p∈List.zipWith (nC (iE b (List.replicate b.ah.length 0) seat a) (bV b-a-(List.replicate b.ah.length (0:Int)).sum)) b.ah (List.replicate b.ah.length 0)from h1);rw[tL,yb,Lv (bg ey)]at e;exact(x,bg ex,e)
theorem Rn{k:BP->Int->BP}:∀(ps:Da BP),List.zipWith k ps (List.replicate ps.length 0)=ps.map λp=>k p 0
 | []=>rfl
 | p::ps=>by rw[ig,zP,uS,bK,Rn ps]
theorem XA{c:Nat}{st:HS}{b:BS}{o:Str}{a:Int}(g:eX c st b)(wf:Wf st)(w:HN st)(hc:c<=90)(ho:o∈st.own)(h1:1<=a)(h2:a<aI st):eX (c+1) (BW st o a) (ju b (List.replicate b.ah.length 0) (b.own.idxOf o) a):=by
 have ew:=g.rel.whole;have eo:=g.rel.own;have bl:=w.blend (o:=o) wf h1 h2;have hi:b.own.idxOf o<b.own.length:=Lw.mpr (eo▸ho);have bo:mD b (List.replicate b.ah.length 0) (b.own.idxOf o) a:=(jr,λx hx=>Lv hx▸eZ _,hi,by omega,by rw[tL];omega,ew▸w.big)
 refine Ri g bl bo hc rfl (?_,?_) ?_
 .show (bu st _ _ _).own=b.own;unfold bu;rw[uJ];exact eo
 .rw [show iM (BW st o a)=iM st from FO _ _ _ _,g.rel.qd];unfold oz ju dY;rw[Rn];show _=List.map _ (List.filter _ (List.map _ b.ah));rw[Bg.mpr (λq hq=>by obtain⟨p,hp,rfl⟩:=bw.mp hq;exact bR (by show 0<p.wo-0;have:=g.fD.w1 p hp;omega)),fH]
  refine uT λp _=>?_;show(Prod.mk (p.nm) (Prod.mk (p.ow) (Prod.mk (p.wo) (p.we))))=(Prod.mk (p.nm) (Prod.mk (p.ow) (Prod.mk (p.wo-0) (p.we))))
  rw[yb]
 .intro p' eW q' hq' en j;obtain⟨q,hq,rfl⟩:=ac4 hq';have hp1:p'∈st.ah.map (λp:Pt=>{ p with sc:=p.sc*(aI st-a) / cE st (aI st-a) (aI st) (lC st o a) }):=by have h:p'∈(bu st (aI st-a) (aI st) (lC st o a)).ah:=eW;unfold bu at h;rw[lN]at h;exact h
  obtain⟨p,hp,rfl⟩:=bw.mp hp1;have tj:=g.oW p hp q hq en j;show(List.zipWith _ q.tops (iE b _ _ a)).getD j 0*_=_*(b.bot*bV b);rw[lV (f:=λt g=>t*(bV b-a)+g) (by show(0:Int)*_+0=0;omega) (by rw[g.fD.tl q hq,wR]),<-ew];refine BU (p':={ p with sc:=p.sc*(aI st-a) / cE st (aI st-a) (aI st) (lC st o a) }) wf bl rfl rfl hp rfl rfl tj ?_;unfold iE lC;rw[ay (by omega),Nb (by rw[lU];exact hi),Nb (by rw[jr,eo];exact hi),F_,F_,Nc,eo];by_cases e:b.own.idxOf o=j
  .rw [ay e,ay e,ya,i7,i7,mX b.bot]
  .rw [av e,av e,pN,pN]
inductive aar(T:TC)(e:Ec)(vs:Da V)(H:Hp)(Q:VK)(E:XK):Prop
 |mk(n ρ A st x y a we:_)(_:vs=[.ref A.a,.str x,.str y,.int a,.int we])(_:HH T n ρ A H st)(_:y.cps.toList.length<=100000)(_:st.nms.length<1000)(_:st.ah.length<1000)(_:JC T e n ρ A H (lF st x y a we:_) (rN st x y a we:_) Q E)
def Nf(T:TC)(e:Ec):Sp:=bx (aar T e)
def lY{H:Hp}{a b:Addr}{o:HO}(h:upd H a o b=none):H b=none:=by
 by_cases z:b=a
 .rw [z,aq]at h;cases h
 .rw [aA z]at h;exact h
def XC{st:HS}{y:Str}(h:newR st y=none):isNm y=true/\y∉st.nms:=by
 unfold newR at h;split at h
 .split at h
  .cases h
  .exact (by assumption,by assumption)
 .cases h
theorem lZ{st:HS}{x y:Str}{a we:Int}(h:lF st x y a we=none):x∈fW st/\(isNm y=true/\y∉st.nms)/\1<=a/\0<=we/\a<(cS st x).wo/\we<=(cS st x).we:=by
 unfold lF at h;split at h
 .cases hf:newR st y with
  | some j=>rw[hf]at h;cases h
  | none=>
   rw[hf]at h;have h':(if a<1\/we<0 then some 5 else if(cS st x).wo<=a\/(cS st x).we<we then some 6 else none)=none:=h;split at h'
   .cases h'
   .split at h'
    .cases h'
    .exact (by assumption,XC hf,by omega,by omega,by omega,by omega)
 .cases h
theorem Ng{st:HS}{x y:Str}{a we:Int}(wf:Wf st)(h:lF st x y a we=none)(h2:st.nms.length<1000)(h3:st.ah.length<1000):Wf (rN st x y a we):=by
 obtain⟨hx,⟨_,hy⟩,h4,h5,h6,h7⟩:=lZ h;obtain⟨i,p0,ei,e0⟩:=oH hx;have hp:=bg ei;have eg:=dR wf hp e0;have w1:Wf (pG st x λp=>{ p with wo:=p.wo-a,we:=p.we-we }):=zu wf λp eW e=>by rw[oj wf eW hp (e.trans e0.symm)];rw[eg]at h6 h7;exact(Z,Z,Z,Z,by show 1<=p0.wo-a;omega,by show 0<=p0.we-we;omega)
 unfold rN;rw[eg];exact Q2 w1 hy h2 (by show(st.ah.map _).length<1000;rw[aG];exact h3) (wf.rows p0 hp) (wf.ow p0 hp) (wf.rE p0 hp) (wf.oV p0 hp) (wf.rF p0 hp) (h4,h5)
theorem ac5{c:Nat}{st:HS}{b:BS}(g:eX c st b)(wf:Wf st){p0:Pt}{q0:BP}(hp0:p0∈st.ah)(nG:q0∈b.ah)(en:p0.nm=q0.nm)(eo:p0.ow=q0.ow){y:Str}{a we:Int}(hy:y∉st.nms)(hn:isNm y=true)(h1:1<=a)(h2:a<=1000000000)(h2w:we<=1000000000)(h3:b.ah.length<50+c)(h4:b.eF.length<900+c)(hc:c<=91):eX c (Af st (y,p0.ow,a,we,p0.sc,p0.row)) { b with ah:=b.ah++[⟨y,q0.ow,a,we,q0.tops⟩],eF:=b.eF++[y] }:=by
 have wb:=g.fD;have P:∀{M:BP->Prop},(∀p∈b.ah,M p)->M (y,q0.ow,a,we,q0.tops)->∀p∈b.ah++[BP.mk y q0.ow a we q0.tops],M p:=λa c p hp=>by
  rcases dN.mp hp with z|z
  .exact a p z
  .rw [dw.mp z];exact c
 have nB:∀q∈b.ah,q.nm≠y:=λq hq e=>by
  obtain⟨i,hi,ei⟩:=oQ hq;obtain⟨p,hp,k1,_⟩:=g.rel.at (i:=i) (q:=q) (by rw[a_ hi,ei])
  exact hy (by rw[<-e,<-k1];exact wf.sub p (bg hp))
 have nS:∀p∈st.ah,p.nm≠y:=λp hp e=>hy (e▸wf.sub p hp);refine((?_,P wb.tl (wb.tl q0 nG),P wb.t0 (wb.t0 q0 nG),wb.b1,wb.bz,P wb.w1 h1,wb.ol,?_,?_),(g.rel.own,?_),?_,g.bN,g.stp,g.prod,g.bot,P g.wo (by show a<=_;omega),P g.we h2w,?_,?_,g.own,P g.nm (zf hn,(g.nm q0 nG).2),g.bM,?_,?_,g.on,P g.sum (g.sum q0 nG))
 .show ((b.ah++[_]).map (λp:BP=>p.nm)).Nodup;rw[bQ];refine nX wb.nd λm=>?_;obtain⟨q,hq,e⟩:=bw.mp m;exact nB q hq e
 .show (b.ah++[_]).length<=1000;rw[c7];show b.ah.length+1<=1000;omega
 .show (b.eF++[_]).length<=1000;rw[c7];show b.eF.length+1<=1000;omega
 .show (st.ah++[_]).map _=(b.ah++[_]).map _;rw[bQ,bQ,show st.ah.map (λp=>((p.nm,p.ow,p.wo,p.we):Q4))=b.ah.map (λp=>((p.nm,p.ow,p.wo,p.we):Q4))from g.rel.qd];show _++[((y,p0.ow,a,we):Q4)]=_++[((y,q0.ow,a,we):Q4)]
  rw[eo]
 .intro p hp q hq e j;show q.tops.getD j 0*st.prod=(aT st p).getD j 0*b.bot;rcases dN.mp (show p∈st.ah++[_]from hp)with zp|zp
  .rcases dN.mp (show q∈b.ah++[_]from hq)with zq|zq
   .exact g.oW p zp q zq e j
   .rw [dw.mp zq]at e;exact absurd e (nS p zp)
  .rcases dN.mp (show q∈b.ah++[_]from hq)with zq|zq
   .rw [dw.mp zp]at e;exact absurd e.symm (nB q zq)
   .rw [dw.mp zp,dw.mp zq];exact g.oW p0 hp0 q0 nG en j
 .show (b.ah++[_]).length<=50+c;rw[c7];show b.ah.length+1<=50+c;omega
 .show (b.eF++[_]).length<=900+c;rw[c7];show b.eF.length+1<=900+c;omega
 .show st.nms++[y]=b.eF++[y];rw[g.eF]
 .intro z hz;rcases dN.mp (show z∈b.eF++[y]from hz)with k|k
  .exact g.nk z k
  .rw [dw.mp k];exact hn
theorem ac6{c:Nat}{st:HS}{b:BS}{x:Str}{a we:Int}(g:eX c st b)(wf:Wf st)(h0:1<=a)(h00:0<=we)(le:∀p∈st.ah,p.nm=x->a<p.wo):eX (c+1) (pG st x λp=>{ p with wo:=p.wo-a,we:=p.we-we }) (rP b x λp=>{ p with wo:=p.wo-a,we:=p.we-we }):=by
 have leB:∀q∈b.ah,q.nm=x->a<q.wo:=λq hq e=>by
  obtain⟨j,hj,ej⟩:=oQ hq;obtain⟨p,hp,k1,_,k3,_⟩:=g.rel.at (i:=j) (q:=q) (by rw[a_ hj,ej])
  rw[<-k3];exact le p (bg hp) (k1.trans e)
 refine Lr g ?_ (λp hp=>?_) (λq hq=>?_) (C5 b x _ λ_ _=>rfl)
 .show (st.ah.map _).map _=List.map qj ((b.ah.map _).filter _);rw[C4 (f:=λq:Q4=>if q.1=x then(q.1,q.2.1,q.2.2.1-a,q.2.2.2-we) else q) (λp hp=>by
   show qj (if p.nm=x then _ else _)=if p.nm=x then _ else _;by_cases e:p.nm=x
   .rw [ay e,ay e];rfl
   .rw [av e,av e]),<-wX g,Bg.mpr (λq hq=>by
    obtain⟨q0,nG,rfl⟩:=bw.mp hq;obtain⟨p,hp,rfl⟩:=bw.mp nG;have w1:=(wf.kj p hp).1;refine bR ?_;show 0<(if p.nm=x then _ else _:Q4).2.2.1;by_cases e:p.nm=x
    .have:=le p hp e;rw[ay e];show 0<p.wo-a;omega
    .rw [av e];show 0<p.wo;omega),fH,fH]
  refine uT λp hp=>?_;show(λp:Pt=>((p.nm,p.ow,p.wo,p.we):Q4)) (if p.nm=x then _ else _)=if p.nm=x then _ else _;by_cases e:p.nm=x
  .rw [ay e,ay e]
  .rw [av e,av e]
 .obtain ⟨q,hq,rfl⟩:=bw.mp hp;refine(q,hq,?_);by_cases e:q.nm=x
  .rw [ay e];exact(Z,Z,Z)
  .rw [av e];exact(Z,Z,Z)
 .obtain ⟨h3,h4⟩:=iU.mp hq;obtain⟨q0,nG,rfl⟩:=bw.mp h3;have w1:=g.fD.w1 q0 nG;refine(q0,nG,?_);by_cases e:q0.nm=x
  .have:=leB q0 nG e;rw[ay e];exact(Z,Z,Z,by show 1<=q0.wo-a;omega,by show q0.wo-a<=_;omega,by show q0.we-we<=_;omega)
  .rw [av e];exact(Z,Z,Z,w1,by omega,eZ _)
theorem qN:∀{l:Da BP}{i:Nat}{q:BP},(l.map λp:BP=>p.nm).Nodup->l[i]?=some q->(l.find? λp=>decide (p.nm=q.nm))=some q
 | [],_,_,_,h=>by simp at h
 | p::l,0,q,_,h=>by
  have e:p=q:=by simpa using h
  subst e;rw[qU,bR rfl]
 | p::l,i+1,q,nd,h=>by
  obtain⟨h1,h2⟩:=iu.mp (show(p.nm::l.map λp:BP=>p.nm).Nodup from nd);have h':l[i]?=some q:=by simpa using h
  rw[qU,dM (λe=>h1 (bw.mpr (q,bg h',e.symm)))];exact qN h2 h'
theorem XD{c:Nat}{st:HS}{b:BS}{x y:Str}{a we:Int}(g:eX c st b)(wf:Wf st)(hc:c<=90)(h:lF st x y a we=none)(h9:a<=1000000000)(AN:we<=1000000000)(h3:st.ah.length<1000):eX (c+1) (rN st x y a we) (B0 b x y a we):=by
 obtain⟨hx,⟨hn,hy⟩,h4,h5,h6,h7⟩:=lZ h;obtain⟨i,p0,q0,e1,e2,k1,k2,k3,k4,k5,k6⟩:=qm g.rel wf hx;have hp:=bg e1;have hq:=bg e2;rw[k6]at h6 h7;have uq:∀p∈st.ah,p.nm=x->p=p0:=λp eW e=>oj wf eW hp (e.trans k1.symm);have g1:=ac6 (we:=we) g wf h4 h5 λp eW e=>uq p eW e▸h6;have w1:Wf (pG st x λp=>{ p with wo:=p.wo-a,we:=p.we-we }):=zu wf λp eW e=>by rw[uq p eW e];exact(Z,Z,Z,Z,by show 1<=p0.wo-a;omega,by show 0<=p0.we-we;omega)
 have hp1:({ p0 with wo:=p0.wo-a,we:=p0.we-we }:Pt)∈(pG st x λp=>{ p with wo:=p.wo-a,we:=p.we-we }).ah:=bw.mpr (p0,hp,ay k1);have hq1:({ q0 with wo:=q0.wo-a,we:=q0.we-we }:BP)∈(rP b x λp=>{ p with wo:=p.wo-a,we:=p.we-we }).ah:=iU.mpr (bw.mpr (q0,hq,ay k2),bR (by show 0<q0.wo-a;omega));have pl:=g.pl;have kl:=g.kl;have l1:=(G1 (λp:BP=>decide (0<p.wo)) (b.ah.map λp=>if p.nm=x then{ p with wo:=p.wo-a,we:=p.we-we } else p))
 rw[aG]at l1;have g2:=ac5 g1 w1 (y:=y) (a:=a) (we:=we) hp1 hq1 (k1.trans k2.symm) k3.symm hy hn h4 h9 AN (Hg l1 (by omega)) (by show b.eF.length<_;omega) (by omega);have eb:qi b x=q0:=by unfold qi;rw[<-k2,qN g.fD.nd e2];rfl
 unfold rN B0;rw[k6,eb,List.filter_append,List.filter_cons_of_pos (p:=λp:BP=>decide (0<p.wo)) (bR (by show 0<a;omega)),List.filter_nil];exact g2
def Nh{α β:Type}{f:α->β}{l:Da α}{i:Nat}{x:α}(h:l[i]?=some x):(l.map f).set i (f x)=l.map f:=ny (by rw[bP,h];rfl)
inductive ac7(T:TC)(e:Ec)(vs:Da V)(H:Hp)(Q:VK)(E:XK):Prop
 |mk(n ρ A st x o:_)(_:vs=[.ref A.a,.str x,.str o])(_:HH T n ρ A H st)(_:∀p∈st.ah,(aT st p).sum=st.prod)(_:JC T e n ρ A H (pU st x o:_) (jb st x o:_) Q E)
def Ro(T:TC)(e:Ec):Sp:=bx (ac7 T e)
def uN{st:HS}{x o:Str}(h:pU st x o=none):x∈fW st/\o∈st.own:=by
 unfold pU at h;split at h
 .split at h
  .exact (by assumption,by assumption)
  .cases h
 .cases h
theorem B_:∀{l:Da Int},(∀t∈l,0<=t)->0<=l.sum/\∀t∈l,t<=l.sum
 | [],_=>(eZ _,λt h=>by cases h)
 | a::l,h=>by
  obtain⟨h1,h2⟩:=B_ (l:=l) λt ht=>h t (cR _ ht);have h0:=h a cO;refine(by show 0<=a+l.sum;omega,λt ht=>?_);show t<=a+l.sum;rcases dW.mp ht with rfl|ht
  .omega
  .have:=h2 t ht;omega
def Ga{l:Da Int}{i:Nat}{v:Int}(h:∀t∈l,0<=t)(hv:0<=v):∀t∈l.set i v,0<=t:=λt ht=>by
 rcases Lu ht with z|z
 .exact h t z
 .rw [z];exact hv
def Ao{l:Da Int}(h:∀t∈l,0<=t)(i:Nat):0<=l.getD i 0:=by
 rw[dQ];cases e:l[i]? with
 | none=>exact eZ _
 | some v=>exact h v (bg e)
def JG(l:Da Int)(i j:Nat):Da Int:=(l.set j (l.getD j 0+l.getD i 0)).set i 0
def yu(l:Da Int)(i j:Nat):Da Int:=(l.set i 0).set j ((l.set i 0).getD j 0+l.getD i 0)
def aas(l:Da Int)(i j:Nat):(yu l i j).length=l.length:=by unfold yu;rw[fF,fF]
def HP(l:Da Int)(i j:Nat):(JG l i j).length=l.length:=by unfold JG;rw[fF,fF]
def ac8{l:Da Int}{i j:Nat}(hi:i<l.length)(hj:j<l.length)(k:Nat):(JG l i j).getD k 0=if k=i then 0 else if k=j then l.getD j 0+l.getD i 0 else l.getD k 0:=by unfold JG;rw[qe _ _ _ _ (by rw[fF];exact hi),qe _ _ _ _ hj]
def ac9{l:Da Int}{i j:Nat}(hi:i<l.length)(hj:j<l.length)(ne:i≠j)(k:Nat):(yu l i j).getD k 0=if k=i then 0 else if k=j then l.getD j 0+l.getD i 0 else l.getD k 0:=by
 unfold yu;rw[qe _ _ _ _ (by rw[fF];exact hj),qe _ _ _ _ hi,qe _ _ _ _ hi,av (cC ne)];by_cases e:k=j
 .rw [ay e,ay e,av (e▸cC ne)]
 .rw [av e,av e]
theorem aat{l:Da Int}{i j:Nat}(hi:i<l.length)(hj:j<l.length):(yu l i j).sum=l.sum:=by unfold yu;rw[sum_set _ _ _ (by rw[fF];exact hj),sum_set _ _ _ hi];omega
theorem aau{l:Da Int}{i j:Nat}(hi:i<l.length)(hj:j<l.length)(ne:i≠j):(JG l i j).sum=l.sum:=by unfold JG;rw[sum_set _ _ _ (by rw[fF];exact hi),sum_set _ _ _ hj,qe _ _ _ _ hj,av ne];omega
def aav{l:Da Int}{i j:Nat}(h:∀t∈l,0<=t):∀t∈yu l i j,0<=t:=Ga (Ga h (eZ _)) (Int.add_nonneg (Ao (Ga h (eZ _)) _) (Ao h _))
def aaw{l:Da Int}{i j:Nat}(h:∀t∈l,0<=t):∀t∈JG l i j,0<=t:=Ga (Ga h (Int.add_nonneg (Ao h _) (Ao h _))) (eZ _)
def XE{l:Da Int}{i:Nat}(hi:i<l.length):yu l i i=l:=by
 unfold yu;rw[qe _ _ _ _ hi,ay rfl,ya,qV];apply List.ext_getElem?;intro k;rw[Sb];by_cases e:i=k
 .subst e;rw[ay rfl,ay hi,dQ,a_ hi];rfl
 .rw [av e]
theorem Ni{st:HS}{tops:Da Int}(h:tops.length=st.bU.length):List.zipWith (λr c=>(1:Int)*r+c) (mQ st tops) st.bU=tops:=by
 unfold mQ;generalize st.bU=cs at h
 induction tops generalizing cs with
 | nil=>rfl
 | cons t ts ih=>
  cases cs with
  | nil=>cases h
  | cons c cs=>have:=ih cs (Nat.succ.inj h);show(1*(t-c)+c)::_=t::ts;rw[this];congr 1;omega
def Ca{st:HS}(wf:Wf st){p:Pt}(hp:p∈st.ah):(aT st p).length=st.own.length:=by unfold aT;rw[kL,wf.rows p hp,wf.gk,zY]
def Aq(st:HS)(o:Str)(p:Pt):Pt:={ p with ow:=o,sc:=1,row:=mQ st (oE st p o) }
def wY(st:HS)(p:Pt)(o:Str):oE st p o=JG (aT st p) (st.own.idxOf p.ow) (st.own.idxOf o):=rfl
def Cb{st:HS}(wf:Wf st){p:Pt}(hp:p∈st.ah)(o:Str):aT st (Aq st o p)=oE st p o:=by
 have:(oE st p o).length=st.bU.length:=by rw[wY,HP,Ca wf hp,wf.gk]
 exact Ni this
def Nj{st:HS}(wf:Wf st){p:Pt}(hp:p∈st.ah){o:Str}(ho:o∈st.own)(ne:st.own.idxOf o≠st.own.idxOf p.ow)(hs:(aT st p).sum=st.prod):(∀t∈oE st p o,0<=t/\t<=st.prod)/\(oE st p o).sum=st.prod:=by have hl:=Ca wf hp;have h1:st.own.idxOf p.ow<(aT st p).length:=hl▸qQ (wf.ow p hp);have h2:st.own.idxOf o<(aT st p).length:=hl▸qQ ho;have hp0:=aaw (i:=st.own.idxOf p.ow) (j:=st.own.idxOf o) λt ht=>(wf.rF p hp t ht).1;have hsum:=(aau h1 h2 (cC ne)).trans hs;rw[wY];exact(λt ht=>(hp0 t ht,hsum▸(B_ hp0).2 t ht),hsum)
theorem Rp{st:HS}{x o:Str}(wf:Wf st)(h:pU st x o=none)(hs:∀p∈st.ah,(aT st p).sum=st.prod):Wf (jb st x o):=by
 obtain⟨hx,ho⟩:=uN h;obtain⟨i,p0,ei,e0⟩:=oH hx;have hp:=bg ei;have eg:=dR wf hp e0;unfold jb;by_cases ne:st.own.idxOf o=st.own.idxOf (cS st x).ow
 .rw [ay ne];exact wf
 rw[av ne];rw[eg]at ne;obtain⟨ft,_⟩:=Nj wf hp ho ne (hs p0 hp);have uq:∀p∈st.ah,p.nm=x->p=p0:=λp eW e=>oj wf eW hp (e.trans e0.symm);have P:∀{M:Pt->Prop},M (Aq st o p0)->(∀p∈st.ah,M p)->∀p∈(pG st x (Aq st o)).ah,M p:=λa c p eW=>by
  obtain⟨q,hq,rfl⟩:=bw.mp (show p∈st.ah.map _ from eW);by_cases e:q.nm=x
  .rw [ay e,uq q hq e];exact a
  .rw [av e];exact c q hq
 have hl:(oE st p0 o).length=st.own.length:=by rw[wY,HP,Ca wf hp]
 have en:(pG st x (Aq st o)).ah.map (λp:Pt=>p.nm)=st.ah.map λp:Pt=>p.nm:=by
  show(st.ah.map _).map _=_;rw[fH];refine uT λp _=>?_;show(if p.nm=x then Aq st o p else p).nm=p.nm;by_cases e:p.nm=x
  .rw [ay e];rfl
  .rw [av e]
 have p1:=wf.gq;refine(wf.tE,wf.Ad,?_,P (wf.sub p0 hp) wf.sub,P ?_ wf.rows,P ho wf.ow,wf.gk,wf.oU,wf.gq,wf.pS,wf.u9,wf.lR,wf.Ae,?_,wf.BG,wf.u_,wf.Jg,wf.big,wf.qf,P (eZ _,p1) wf.rE,P ?_ wf.oV,P ?_ wf.rF,P (wf.kj p0 hp) wf.kj,wf.HB)
 .show ((pG st x (Aq st o)).ah.map (λp:Pt=>p.nm)).Nodup;rw[en];exact wf.fP
 .show (mQ st (oE st p0 o)).length=st.own.length;unfold mQ;rw[kL,hl,wf.gk,zY]
 .show (st.ah.map _).length<=1000;rw[aG];exact wf.rD
 .intro r hr;obtain⟨t,ht,c,hc,rfl⟩:=wO (show r∈List.zipWith (λt c=>t-c) (oE st p0 o) st.bU from hr);have a1:=ft t ht;have a2:=wf.qf c hc;exact(by show -st.prod<=t-c;omega,by show t-c<=st.prod;omega)
 .intro t ht;have:t∈oE st p0 o:=by rw[<-Cb wf hp];exact ht
  exact ft t this
theorem HQ:∀{l m:Da Int}{a b:Int},l.length=m.length->(∀j,l.getD j 0*a=m.getD j 0*b)->l.sum*a=m.sum*b
 | [],[],_,_,_,_=>by show(0:Int)*_=0*_;rw[pN,pN]
 | x::l,y::m,a,b,e,h=>by have h0:x*a=y*b:=h 0;have:=HQ (l:=l) (m:=m) (Nat.succ.inj e) λj=>h (j+1);show(x+l.sum)*a=(y+m.sum)*b;rw[pQ,pQ,h0,this]
theorem ac_{c:Nat}{st:HS}{b:BS}(g:eX c st b)(wf:Wf st):∀p∈st.ah,(aT st p).sum=st.prod:=λp hp=>by obtain⟨i,hi,e⟩:=oQ hp;obtain⟨q,eq,e1,_⟩:=g.rel.at' (i:=i) (p:=p) (by rw[a_ hi,e]);have hq:=bg eq;have h:=HQ (l:=q.tops) (m:=aT st p) (by rw[g.fD.tl q hq,Ca wf hp,g.rel.own]) (g.oW p hp q hq e1);rw[g.sum q hq,mX]at h;exact(Int.eq_of_mul_eq_mul_right (by have:=g.fD.b1;omega) h).symm
theorem aax{c:Nat}{st:HS}{b:BS}{x o:Str}(g:eX c st b)(wf:Wf st)(h:pU st x o=none)(hs:∀p∈st.ah,(aT st p).sum=st.prod):eX (c+1) (jb st x o) (rP b x (oG b o)):=by
 obtain⟨hx,ho⟩:=uN h;obtain⟨i,p0,q0,e1,e2,k1,k2,k3,k4,k5,k6⟩:=qm g.rel wf hx;have hp:=bg e1;have hq:=bg e2;have eo:=g.rel.own;have wb:=g.fD;have uq:∀q∈b.ah,q.nm=x->q=q0:=λq hq' e=>by
  obtain⟨j,hj,ej⟩:=oQ hq';have hj':b.ah[j]?=some q:=by rw[a_ hj,ej]
  have:=qN wb.nd hj';rw[e,<-k2,qN wb.nd e2]at this;exact(gU this).symm
 have up:∀p∈st.ah,p.nm=x->p=p0:=λp eW e=>oj wf eW hp (e.trans k1.symm);have hl:=wb.tl q0 hq;have hiB:b.own.idxOf q0.ow<q0.tops.length:=by rw[hl,k3,<-eo];exact qQ (wf.ow p0 hp)
 have hjB:b.own.idxOf o<q0.tops.length:=by rw[hl,<-eo];exact qQ ho
 have PB:∀{M:BP->Prop},M (oG b o q0)->(∀q∈b.ah,M q)->∀q∈(rP b x (oG b o)).ah,M q:=λa c q hq'=>by
  obtain⟨h3,_⟩:=iU.mp (show q∈List.filter _ _ from hq');obtain⟨q1,hq1,rfl⟩:=bw.mp h3;by_cases e:q1.nm=x
  .rw [ay e,uq q1 hq1 e];exact a
  .rw [av e];exact c q1 hq1
 unfold jb;rw[k6];by_cases ne:st.own.idxOf o=st.own.idxOf p0.ow
 .rw [ay ne];have oo:o=p0.ow:=by have a1:=ym ho;rw[ne,ym (wf.ow p0 hp)]at a1;exact(gU a1).symm
  have hb:oG b o q0=q0:=by
   have:yu q0.tops (b.own.idxOf q0.ow) (b.own.idxOf o)=q0.tops:=by rw[oo,<-k3];exact XE hiB
   show BP.mk q0.nm o q0.wo q0.we (yu q0.tops (b.own.idxOf q0.ow) (b.own.idxOf o))=q0;rw[this,oo,<-k3]
  have:rP b x (oG b o)=b:=by
   have e3:(b.ah.map λp=>if p.nm=x then oG b o p else p)=b.ah:=by
    refine(uT λq hq'=>?_).trans (List.map_id' _);by_cases e:q.nm=x
    .rw [ay e,uq q hq' e];exact hb
    .rw [av e]
   unfold rP;rw[e3,Bg.mpr λq hq'=>bR (by have:=wb.w1 q hq';omega)]
  rw[this];exact g.mono
 rw[av ne];have nb:b.own.idxOf q0.ow≠b.own.idxOf o:=by rw[<-eo,k3];exact cC ne
 have t0:=aav (i:=b.own.idxOf q0.ow) (j:=b.own.idxOf o) λt ht=>(wb.t0 q0 hq t ht).1;have sm:(yu q0.tops (b.own.idxOf q0.ow) (b.own.idxOf o)).sum=b.bot:=(aat hiB hjB).trans (g.sum q0 hq);have sb:=C5 b x (oG b o) λ_ _=>rfl;have hlB:(rP b x (oG b o)).ah.length<=b.ah.length:=by have:=sb.length_le;rwa [aG,aG]at this
 refine((wb.nd.sublist sb,PB ?_ wb.tl,PB ?_ wb.t0,wb.b1,wb.bz,PB (wb.w1 q0 hq) wb.w1,wb.ol,fG hlB wb.pl,wb.kl),(eo,?_),?_,λu hu=>(g.bN u hu).mono (by omega),fG g.stp (by omega),g.prod.mono (by omega),g.bot.mono (by omega),PB ?_ ?_,PB (g.we q0 hq) g.we,?_,?_,g.own,PB ((g.nm q0 hq).1,zf (g.on o (eo▸ho))) g.nm,g.bM,g.eF,g.nk,g.on,PB sm g.sum)
 .show (yu _ _ _).length=_;rw[aas];exact hl
 .intro t ht;exact(t0 t ht,by rw[show(rP b x (oG b o)).bot=b.bot from rfl,<-sm];exact(B_ t0).2 t ht)
 .show (st.ah.map _).map _=List.map qj ((b.ah.map _).filter _);rw[C4 (f:=λq:Q4=>if q.1=x then(q.1,o,q.2.2.1,q.2.2.2) else q) (λp hp=>by
   show qj (if p.nm=x then _ else _)=if p.nm=x then _ else _;by_cases e:p.nm=x
   .rw [ay e,ay e];rfl
   .rw [av e,av e]),<-wX g,Bg.mpr (λq hq=>by
    obtain⟨q0,nG,rfl⟩:=bw.mp hq;obtain⟨p,hp,rfl⟩:=bw.mp nG;have w1:=(wf.kj p hp).1;refine bR ?_;show 0<(if p.nm=x then _ else _:Q4).2.2.1;by_cases e:p.nm=x
    .rw [ay e];show 0<p.wo;omega
    .rw [av e];show 0<p.wo;omega),fH,fH]
  refine uT λp hp=>?_;show(λp:Pt=>((p.nm,p.ow,p.wo,p.we):Q4)) (if p.nm=x then _ else _)=if p.nm=x then _ else _;by_cases e:p.nm=x
  .rw [ay e,ay e]
  .rw [av e,av e]
 .intro p eW q hq' e j;obtain⟨p1,hp1,rfl⟩:=bw.mp (show p∈st.ah.map _ from eW);obtain⟨h3,_⟩:=iU.mp (show q∈List.filter _ _ from hq');obtain⟨q1,hq1,rfl⟩:=bw.mp h3;by_cases ep:p1.nm=x
  .have eq:q1.nm=x:=by
    rw[ay ep]at e;by_cases z:q1.nm=x
    .exact z
    .rw [av z]at e;exact e.symm.trans ep
   rw[ay ep,ay eq,uq q1 hq1 eq,up p1 hp1 ep];have et:=Cb wf hp o;show(yu q0.tops (b.own.idxOf q0.ow) (b.own.idxOf o)).getD j 0*st.prod=(aT st (Aq st o p0)).getD j 0*b.bot;have hl2:=Ca wf hp;rw[et,wY,ac9 hiB hjB nb,ac8 (hl2▸qQ (wf.ow p0 hp)) (hl2▸qQ ho),<-eo,k3];have r:=g.oW p0 hp q0 hq (k1.trans k2.symm);by_cases z1:j=st.own.idxOf p0.ow
   .rw [ay z1,ay z1,pN,pN]
   rw[av z1,av z1];by_cases z2:j=st.own.idxOf o
   .rw [ay z2,ay z2,pQ,pQ,r,r]
   rw[av z2,av z2];exact r j
  .have eq:q1.nm≠x:=λz=>by rw[av ep,ay z]at e;exact ep (e.trans z)
   rw[av ep,av eq]at e;rw[av ep,av eq];exact g.oW p1 hp1 q1 hq1 e j
 .have:=g.wo q0 hq;show q0.wo<=_;omega
 .intro q hq';have:=g.wo q hq';omega
 .have:=g.pl;omega
 .have:=g.kl;show b.eF.length<=_;omega
theorem Nk{q0 q1:Addr×Addr×Addr}:∀{ps:Da Pt}{qs:Da (Addr×Addr×Addr)}{i:Nat},qs[i]?=some q0->q1.1=q0.1->cY ps (qs.set i q1)=cY ps qs
 | [],_,_,_,_=>by simp[cY]
 | _::_,[],_,h,_=>by simp at h
 | p::ps,q::qs,0,h,e=>by
  have:q=q0:=by simpa using h
  subst this;show(Prod.mk (_) (V.ref q1.1))::_=(Prod.mk (_) (V.ref q.1))::_;rw[e]
 | p::ps,q::qs,i+1,h,e=>by have:=Nk (ps:=ps) (qs:=qs) (i:=i) (q1:=q1) (by simpa using h) e;show _::cY ps (qs.set i q1)=_::cY ps qs;rw[this]
def aY.XF{T:TC}{n:Nat}{ρ:d8}{A:HA}{H:Hp}{st:HS}(h:aY T n ρ A H st)(g:Gh ρ H){i:Nat}{p0 p1:Pt}{q0:Addr×Addr×Addr}{r:Addr}(ep:st.ah[i]?=some p0)(eq:A.qs[i]?=some q0)(e1:p1.nm=p0.nm)(cr:ρ r=some (n,21,p0.nm))(hr:H r=some (.lst (p1.row.map V.int)))(nd:(st.ah.map (·.nm)).Nodup):aY T n ρ { A with qs:=A.qs.set i (q0.1,q0.2.1,r) } (upd H q0.1 (.ins T.part q0.2.1 (dB p1 r))) { st with ah:=st.ah.set i p1 }:=by
 have c0:=(h.opt i p0 q0 ep eq).2.2.1;have k:=eV (o:=.ins T.part q0.2.1 (dB p1 r)) g c0;have k2':=λ{b:Addr}{u:Nat}{y:Str}{w:HO}=>BD (H:=H) (o:=.ins T.part q0.2.1 (dB p1 r)) c0 (b:=b) (u:=u) (y:=y) (w:=w);obtain⟨vs,h1,h2⟩:=h.sS;obtain⟨AT,k1,k2,k3⟩:=h.okn;refine(kz k h.ca h.oa,h.ca,kz k h.jw h.jj,h.jw,?_,h.iw,(vs,kz k h.jH h1,h2.keep k (by decide)),h.jH,kz k h.jI h.uG,h.jI,kz k h.jJ h.kP,h.jJ,kz k h.ki h.jV,h.ki,kz k h.cpu h.m8,h.cpu,kz k h.jK h.qJ,h.jK,(AT,kz k h.jL k1,λp hp=>let(t,r,e,q):=k2 p hp;(t,r,e,k.1 _ _ q),k3),h.jL,?_,?_)
 .show _=some (HO.dK (cY (st.ah.set i p1) (A.qs.set i (q0.1,q0.2.1,r))));rw[Nk (q1:=(q0.1,q0.2.1,r)) eq rfl,CT ep e1];exact kz k h.iw h.d9
 .show (A.qs.set i _).length=(st.ah.set i _).length;rw[fF,fF];exact h.ql
 .intro j p q hp hq;have hi:=(c_.mp ep).1;have hi':=(c_.mp eq).1;by_cases e:i=j
  .subst e;rw[show({ st with ah:=st.ah.set i p1 }:HS).ah=st.ah.set i p1 from rfl,kJ hi]at hp;rw[show({ A with qs:=A.qs.set i (q0.1,q0.2.1,r) }:HA).qs=A.qs.set i (q0.1,q0.2.1,r)from rfl,kJ hi']at hq;cases hp;cases hq;exact(aq,k2' cr (.inl (by decide)) hr,e1▸c0,e1▸cr)
  .rw [show({ st with ah:=st.ah.set i p1 }:HS).ah=st.ah.set i p1 from rfl,yC e]at hp;rw[show({ A with qs:=A.qs.set i (q0.1,q0.2.1,r) }:HA).qs=A.qs.set i (q0.1,q0.2.1,r)from rfl,yC e]at hq;obtain⟨a1,a2,a3,a4⟩:=h.opt j p q hp hq;exact(k2' a3 (.inr λz=>e (Fz nd ep hp z.symm)) a1,k2' a4 (.inl (by decide)) a2,a3,a4)
theorem Nl{X:Cx}:abe X (L0 X.K):=by
 intro AC s σ H x y v u Q I rx ry h;obtain⟨p,xs,i,z,rfl,rfl,hq,he,q⟩:=h;cases rx;obtain⟨t,rfl⟩:=ry;obtain⟨BT,r,pl,hz⟩:=I.list hq;obtain⟨j,h1,h2,h3,h4,h5⟩:=CL he;obtain⟨w,ew,rw'⟩:=r.get h2;have hl:=r.length;have hn:=wD;have fin:EP X AC σ Q w s:=(z,H,I,rw',q)
 by_cases h0:0<=i
 .have hj:i.toNat=j:=by rw[seqIndex_of h0 h5]at h1;exact gU h1
  exact wpAny_getItem_list pl.isList h0 (by omega) (by rw[hj];simpa using ew) fin
 .have hj:(i+(BT.toArray.size:Int)).toNat=j:=by rw[seqIndex_neg (by omega) h4]at h1;rw[iW,<-hl];exact gU h1
  exact wpAny_getItem_list_neg pl.isList (by omega) (by rw[iW] <;> omega) (by omega) (by rw[hj];simpa using ew) fin
def bf.XG{n:Nat}{ρ:d8}{B:BA}{H:Hp}{b:BS}(h:bf n ρ B H b)(g:Gh ρ H){i:Nat}{p0:BP}{q0:Addr×Addr}(l:Da Int)(ep:b.ah[i]?=some p0)(eq:B.qs[i]?=some q0)(nd:(b.ah.map (λp:BP=>p.nm)).Nodup):bf n ρ B (upd H q0.2 (.lst (l.map V.int))) { b with ah:=b.ah.set i { p0 with tops:=l } }:=by
 obtain⟨x1,x2,x3,x4⟩:=h.pt i p0 q0 ep eq;have k:=eV (o:=.lst (l.map V.int)) g x4;obtain⟨vs,h1,h2⟩:=h.oa;have hi2:i<b.ah.length:=(c_.mp ep).1;refine(kz k h.cm h.om,h.cm,kz k h.co h.oo,h.co,kz k h.cp h.op,h.cp,(vs,kz k h.ca h1,h2.keep k (by decide) (by decide)),h.ca,kz k h.ck h.ok,h.ck,?_,λj p q rL DG=>?_)
 .show B.qs.length=(b.ah.set i _).length;rw[fF];exact h.ql
 .have rL:(b.ah.set i { p0 with tops:=l })[j]?=some p:=rL;by_cases hj:i=j
  .subst hj;rw[kJ hi2]at rL;rw[eq]at DG;cases rL;cases DG;exact(kz k x3 x1,aq,x3,x4)
  .rw [yC hj]at rL;obtain⟨a1,a2,a3,a4⟩:=h.pt j p q rL DG;have hnm:p.nm≠p0.nm:=λe=>by
    have hj2:j<b.ah.length:=(c_.mp rL).1;have r1:(b.ah.map (λp:BP=>p.nm))[j]?=some p.nm:=by rw[bP,rL];rfl
    have r2:(b.ah.map (λp:BP=>p.nm))[i]?=some p0.nm:=by rw[bP,ep];rfl
    have hj3:j<(b.ah.map (λp:BP=>p.nm)).length:=by rw[aG];exact hj2
    exact hj ((Hq hj3 nd).mp (r1.trans (e▸r2.symm))).symm
   have hq:q.2≠q0.2:=λe=>by rw[e,x4]at a4;exact hnm (i8 (λc:oN=>c.2.2) (gU a4)).symm
   exact(kz k a3 a1,aA hq▸a2,a3,a4)
inductive Vl(T:TC)(vs:Da V)(H:Hp)(Q:VK)(E:XK):Prop
 |mk(n ρ A st:_)(i:Nat)(p:Pt)(_:vs=[.ref A.a,.str p.nm])(_:HH T n ρ A H st)(_:st.ah[i]?=some p)(_:st.kn+100<=1000000)(_:∀r ws H',HH T n ρ A H' { st with kn:=st.kn+100 }->Fr n ρ H ρ H'->H r=none->H' r=some (.lst ws)->ρ r=none->iY H' ws (lD st p:_)->Q (.ref r) H')
def Ar(T:TC):Sp:=bx (Vl T)
theorem Mn.imp{P:Program}{w:World}{K:Fg}{mg:SO}{base:Heap}{k:Nat}{C:Addr}{m:Str}{ps:Da Str}{sp sp0:Sp}(D:Mn P w K mg base k C m ps sp)(h:∀vs H Q E,sp0 vs H Q E->sp vs H Q E):Mn P w K mg base k C m ps sp0:=by obtain⟨f,fd,F,r⟩:=D.ex;exact(f,fd,F.imp h,r)
def Vm{P:Program}{w:World}{K:Fg}{mg:SO}{base:Heap}{k:Nat}{T:TC}{ps:Da Str}(D:Mn P w K mg base k T.hold "shares" ps (Ar T)):Mn P w K mg base k T.hold "shares" ps (Jh T):=D.imp λvs H Q E h=>by obtain⟨⟨n,ρ,A,st,i,p,rfl,hh,ep,hk,q⟩⟩:=h;exact(n,ρ,A,st,i,p,Z,hh,ep,hk,λr ws H' a b c d e f=>q r ws ρ A H' a rfl b c d e f)
structure XH(st:HS):Prop where
 kn:st.kn+100<=1000000
 bM:st.bM.length<1000
 wo:∀p∈st.ah,Jm.Sz 60 p.wo
 prod:Jm.Sz 7900 st.prod
 bN:∀u∈st.bN,Jm.Sz 8900 u
inductive ade(T:TC)(e:Ec)(vs:Da V)(H:Hp)(Q:VK)(E:XK):Prop
 |mk(n ρ A st x:_)(_:vs=[.ref A.a,.str x])(_:HH T n ρ A H st)(_:XH st)(_:JC T e n ρ A H (vW st x:_) (rM st x:_) Q E)
def Rq(T:TC)(e:Ec):Sp:=bx (ade T e)
def qO{st:HS}{x:Str}(h:vW st x=none):x∈fW st:=by
 unfold vW at h;split at h
 .assumption
 .cases h
def Fr.afu{n:Nat}{ρ:d8}{H H':Hp}(f:Fr n ρ H ρ H')(g:Gh ρ H'){b:Addr}(h:H' b=none):H b=none:=by
 cases e:H b with
 | none=>rfl
 | some o=>have:=(f b o e λt x z=>by rw[g.none h]at z;cases z).1;rw[h]at this;cases this
theorem Cc:∀{l:Da Pt}{i:Nat}{p:Pt},(l.map (·.nm)).Nodup->l[i]?=some p->l.filter (λq=>decide (q.nm≠p.nm))=l.eraseIdx i
 | [],_,_,_,h=>by simp at h
 | x::l,0,p,nd,h=>by
  obtain⟨h1,h2⟩:=iu.mp (show(x.nm::l.map (·.nm)).Nodup from nd);have e:x=p:=by simpa using h
  subst e;rw[ir,av (by simp)];exact Bg.mpr λy hy=>bR λz=>h1 (bw.mpr (y,hy,z))
 | x::l,i+1,p,nd,h=>by
  obtain⟨h1,h2⟩:=iu.mp (show(x.nm::l.map (·.nm)).Nodup from nd);have h':l[i]?=some p:=by simpa using h
  rw[ir,ay (by simpa using λz:x.nm=p.nm=>h1 (bw.mpr (p,bg h',z.symm))),Cc h2 h'];rfl
def mS(st:HS)(p:Pt):Da Int:=(gF st p).set (st.own.idxOf p.ow) ((gF st p).getD (st.own.idxOf p.ow) 0-p.wo*st.prod)
theorem XI{st:HS}(wf:Wf st){p:Pt}(hp:p∈st.ah){m:Nat}(h1:Jm.Sz 60 p.wo)(h2:Jm.Sz m st.prod)(h3:∀u∈st.bN,Jm.Sz (m+60) u):∀u∈gF st p,Jm.Sz (m+61) u:=λu hu=>by obtain⟨i,a,t,ea,et,rfl⟩:=jx (show u∈List.zipWith (λu t=>u+p.wo*t) st.bN (aT st p)from hu);have ht:=wf.rF p hp t (bg et);have zt:Jm.Sz m t:=h2.of_le (by omega);exact(h3 a (bg ea)).lC ((h1.mul zt).mono (by omega))
theorem HR{st:HS}(wf:Wf st){p:Pt}(hp:p∈st.ah){m:Nat}(h1:Jm.Sz 60 p.wo)(h2:Jm.Sz m st.prod)(h3:∀u∈st.bN,Jm.Sz (m+60) u):∀u∈mS st p,Jm.Sz (m+62) u:=λu hu=>by
 have g:=XI wf hp h1 h2 h3;rcases Lu (show u∈(gF st p).set _ _ from hu)with z|z
 .exact (g u z).mono (by omega)
 .rw [z];have z0:Jm.Sz (m+61) ((gF st p).getD (st.own.idxOf p.ow) 0):=by
   rw[dQ];cases e:(gF st p)[st.own.idxOf p.ow]? with
   | none=>exact(by show Jm.Sz (m+61) 0;unfold Jm.Sz;exact Nat.pow_pos (by decide))
   | some y=>exact g y (bg e)
  have:=z0.lC (((h1.mul h2).mono (by omega:60+m<=m+61)).neg);rw[Int.sub_eq_add_neg];exact this
def Cd{st:HS}(wf:Wf st){p:Pt}(hp:p∈st.ah):(gF st p).length=st.own.length:=by unfold gF;rw[kL,Ca wf hp,wf.oU,zY]
def tQ{st:HS}(wf:Wf st){p:Pt}(hp:p∈st.ah):rM st p.nm={ st with ah:=st.ah.filter (λq=>decide (q.nm≠p.nm)),bM:=st.bM++[⟨p.nm,p.ow,p.wo,lD st p⟩],kn:=st.kn+100,bN:=mS st p }:=by unfold rM mS;rw[dR wf hp rfl]
theorem Rr{st:HS}{x:Str}(wf:Wf st)(h:vW st x=none)(l:XH st):Wf (rM st x):=by
 obtain⟨i,p,e1,rfl⟩:=oH (qO h);have hp:=bg e1;rw[tQ wf hp];have S:∀{M:Pt->Prop},(∀x∈st.ah,M x)->∀x∈st.ah.filter (λq=>decide (q.nm≠p.nm)),M x:=λh x hx=>h x (iU.mp hx).1;have hf:=G1 (λq:Pt=>decide (q.nm≠p.nm)) st.ah;refine(wf.tE,wf.Ad,List.Nodup.sublist (List.Sublist.map _ LC) wf.fP,S wf.sub,S wf.rows,S wf.ow,wf.gk,?_,wf.gq,wf.pS,wf.u9,wf.lR,wf.Ae,?_,wf.BG,?_,l.kn,wf.big,wf.qf,S wf.rE,S wf.oV,S wf.rF,S wf.kj,?_)
 .show (mS st p).length=_;unfold mS;rw[fF,Cd wf hp]
 .have:=wf.rD;show(List.filter _ _).length<=1000;omega
 .show (st.bM++[_]).length<=1000;rw[c7];exact l.bM
 .exact λu hu=>(HR wf hp (m:=8840) (l.wo p hp) (l.prod.mono (by decide)) (λu hu=>(l.bN u hu).mono (by decide)) u hu).mono (by decide)
inductive Vn(c:Nat)(own:Da Str)(sh:Da (Str×Rat)):Prop
 |mk(XJ:Da Str)(tops:Da Int)(b:Int)(_:XJ <+:own)(_:XJ.length=tops.length)(_:sh=dm XJ tops b)(_:∀t∈tops,0<=t)(_:tops.sum=b)(_:1<=b)(_:Jm.Sz (64*c+1) b)
theorem Vn.mono{c c':Nat}{own own':Da Str}{sh:Da (Str×Rat)}(h:Vn c own sh)(hc:c<=c')(ho:own <+:own'):Vn c' own' sh:=by obtain⟨o0,ts,b,h1,h2,h3,h4,h5,h6,h7⟩:=h;exact(o0,ts,b,h1.trans ho,h2,h3,h4,h5,h6,h7.mono (by omega))
structure Go(c:Nat)(st:HS):Prop where
 bN:∀u∈st.bN,Jm.Sz (64*c+61) u
 stp:st.stp.length<=c
 prod:Jm.Sz (64*c+1) st.prod
 wo:∀p∈st.ah,p.wo<=1000000000000*((c:Int)+1)
 we:∀p∈st.ah,p.we<=1000000000
 pl:st.ah.length<=c
 kl:st.nms.length<=c
 ol:0<st.own.length
 nk:∀x∈st.nms,isNm x=true
 on:∀o∈st.own,isNm o=true
 sum:∀p∈st.ah,(aT st p).sum=st.prod
 al:st.bM.length<=c
 bM:∀a∈st.bM,Vn c st.own a.sh
theorem Go.mono{c:Nat}{st:HS}(g:Go c st):Go (c+1) st:=(λu hu=>(g.bN u hu).mono (by omega),by have:=g.stp;omega,g.prod.mono (by omega),λp hp=>by have:=g.wo p hp;omega,g.we,by have:=g.pl;omega,by have:=g.kl;omega,g.ol,g.nk,g.on,g.sum,by have:=g.al;omega,λa ha=>(g.bM a ha).mono (by omega) (List.prefix_refl _))
theorem Rt:∀{ps:Da Pt}{m:Int},(∀p∈ps,1<=p.wo/\p.wo<=m)->0<=(ps.map (·.wo)).sum/\(ps.map (·.wo)).sum<=m*(ps.length:Int)
 | [],m,_=>by show 0<=(0:Int)/\(0:Int)<=m*0;omega
 | p::ps,m,h=>by have h0:=h p cO;have ih:=Rt (ps:=ps) (m:=m) λx hx=>h x (cR _ hx);rw[bK,cI,ig,show(((ps.length+1:Nat)):Int)=(ps.length:Int)+1 from by omega,lP,pO];omega
theorem Go.whole{c:Nat}{st:HS}(g:Go c st)(wf:Wf st)(hc:c<=91):0<=aI st/\Jm.Sz 60 (aI st):=by
 have h:=Rt (ps:=st.ah) (m:=92000000000000) λp hp=>((wf.kj p hp).1,by have:=g.wo p hp;omega)
 have hl:=g.pl;have h2:(92000000000000:Int)*(st.ah.length:Int)<=92000000000000*91:=by omega
 have h3:aI st<=92000000000000*91:=CF h.2 h2;have h1:0<=aI st:=h.1;exact(h1,(show Jm.Sz 60 (92000000000000*91:Int)from iN (by decide +kernel)).of_le (by omega))
theorem Go.aw{c:Nat}{st:HS}(g:Go c st)(wf:Wf st)(hc:c<=91):HN st:=((g.whole wf hc).2,g.prod.mono (by omega),λu hu=>(g.bN u hu).mono (by omega),by have:=g.stp;omega)
theorem Go.sz{c:Nat}{st:HS}(g:Go c st)(wf:Wf st)(hc:c<=91):∀p∈st.ah,Jm.Sz 60 p.wo:=λp hp=>by have h:=g.wo p hp;have h1:=(wf.kj p hp).1;exact(show Jm.Sz 60 (92000000000000:Int)from iN (by decide +kernel)).of_le (by omega)
theorem Go.ld{c:Nat}{st:HS}(g:Go c st)(wf:Wf st)(hc:c<=91)(hk:st.kn+100<=1000000):XH st:=(hk,by have:=g.al;omega,g.sz wf hc,g.prod.mono (by omega),λu hu=>(g.bN u hu).mono (by omega))
theorem Gb{c:Nat}{st:HS}(g:Go c st){ps:Da Pt}{ns:Da Str}(h:∀p∈ps,(aT st p).sum=st.prod/\p.wo<=1000000000000*((c:Int)+2)/\p.we<=1000000000)(hl:ps.length<=c+1)(hn:ns.length<=c+1)(hk:∀x∈ns,isNm x=true):Go (c+1) { st with ah:=ps,nms:=ns }:=(g.mono.bN,g.mono.stp,g.mono.prod,λp hp=>by have:=(h p hp).2.1;omega,λp hp=>(h p hp).2.2,hl,hn,g.ol,hk,g.on,λp hp=>(h p hp).1,g.mono.al,g.mono.bM)
theorem Go.same{c:Nat}{st:HS}(g:Go c st){ps:Da Pt}(h:∀p'∈ps,∃p∈st.ah,p'.row=p.row/\p'.sc=p.sc/\p'.wo<=p.wo+1000000000000/\p'.we<=p.we)(hl:ps.length<=c+1):Go (c+1) { st with ah:=ps }:=Gb g (ns:=st.nms) (λp' eW=>by obtain⟨p,hp,e1,e2,e3,e4⟩:=h p' eW;have w:=g.wo p hp;have v:=g.we p hp;exact(by have:=g.sum p hp;unfold aT at this ⊢;rw[e1,e2];exact this,by omega,by omega)) hl g.mono.kl g.nk
theorem Nm{c:Nat}{st st':HS}{kept lost:Int}{jp:Da Int}(g:Go c st)(wf:Wf st)(bl:oh st kept (aI st) lost jp)(hs:jp.sum=lost*st.prod)(hc:c<=90)(eC:st'={ bu st kept (aI st) jp with ah:=st'.ah })(hp:∀p'∈st'.ah,∃p∈st.ah,p'.row=p.row/\p'.sc=p.sc*kept / cE st kept (aI st) jp/\p'.wo<=p.wo/\p'.we=p.we)(hl:st'.ah.length<=st.ah.length):Go (c+1) st':=by
 have zw:=g.whole wf (by omega)
 obtain⟨hd,hsw,_,_⟩:=bl.dvds
 have w1:0<aI st:=by have:=bl.k;have:=bl.l;have:=bl.w;omega
 have s1:1<=aI st / cE st kept (aI st) jp:=by have:=EU w1 hsw;exact R5 hd (by omega)
 have s2:aI st / cE st kept (aI st) jp<=aI st:=EN _ (by omega)
 have zs:Jm.Sz 60 (aI st / cE st kept (aI st) jp):=zw.2.of_le (by omega)
 have ep:st'.prod=(bu st kept (aI st) jp).prod:=by rw[eC]
 have ec:st'.bU=(bu st kept (aI st) jp).bU:=by rw[eC]
 have epr:st'.prod=st.prod*(aI st / cE st kept (aI st) jp):=by rw[ep];unfold bu;rw[vQ s1]
 have en:st'.nms=st.nms:=by rw[eC];show(bu st kept (aI st) jp).nms=_;unfold bu;rw[yk]
 have eo:st'.own=st.own:=by rw[eC];show(bu st kept (aI st) jp).own=_;unfold bu;rw[uJ]
 have ea:st'.bM=st.bM:=by rw[eC];show(bu st kept (aI st) jp).bM=_;unfold bu;rw[yl]
 have p1:=wf.gq
 have gm:=g.mono
 refine(λu hu=>?_,?_,?_,λp' eW=>?_,λp' eW=>?_,by have:=g.pl;omega,en▸gm.kl,eo▸g.ol,en▸g.nk,eo▸g.on,λp' eW=>?_,ea▸gm.al,by rw[ea,eo];exact gm.bM)
 . rw[eC]at hu
   have hu:u∈(bu st kept (aI st) jp).bN:=hu
   unfold bu at hu
   rw[yj]at hu
   obtain⟨x,hx,rfl⟩:=bw.mp hu
   exact((g.bN x hx).mul zs).mono (by omega)
 . rw[eC]
   show(bu st kept (aI st) jp).stp.length<=c+1
   unfold bu fV
   split
   . show(st.stp++[_]).length<=c+1
     rw[c7];have:=g.stp;show st.stp.length+1<=c+1;omega
   . exact gm.stp
 . rw[epr];exact(g.prod.mul zs).mono (by omega)
 . obtain⟨p,h0,_,_,e3,_⟩:=hp p' eW
   have:=gm.wo p h0
   omega
 . obtain⟨p,h0,_,_,_,e4⟩:=hp p' eW
   rw[e4];exact g.we p h0
 . obtain⟨p,h0,e1,e2,_,_⟩:=hp p' eW
   have tl:=tH wf h0
   have tl':(aT st' p').length=st.bU.length:=by unfold aT;rw[kL,e1,wf.rows p h0,<-wf.gk,ec];unfold bu gP;rw[Jo,aG,kL,bl.len];omega
   have r:=HQ (l:=List.zipWith (λt m=>t*kept+m) (aT st p) jp) (m:=aT st' p') (a:=st'.prod) (b:=st.prod*aI st) (by rw[kL,tl,tl',bl.len];omega) λj=>by rw[lV (f:=λt m=>t*kept+m) (by show(0:Int)*_+0=0;omega) (by rw[tl,bl.len])];exact BU wf bl ec ep h0 e1 e2 (B:=st.prod) rfl rfl
   rw[HK _ (by rw[tl,bl.len]),g.sum p h0,hs,mX lost,<-lP,<-bl.w,mX _ st'.prod]at r
   exact(Int.eq_of_mul_eq_mul_right (Int.ne_of_gt (CG (by omega) w1)) r).symm
theorem JH:∀(rs:Da Row)(s:HS),(∀r∈rs,1<=r.2)->∀p'∈(rs.foldl eL s).ah,∃p∈s.ah,∃w,p'={ p with wo:=w }/\w<=p.wo
 | [],s,_,p',h=>(p',h,p'.wo,Z,eZ _)
 | r::rs,s,h1,p',h=>by
  obtain⟨p,hp,w,e,le⟩:=JH rs (eL s r) (λx hx=>h1 x (cR _ hx)) p' h;obtain⟨_,q,hq,e2⟩:=tK hp;have:=h1 r cO;split at e2
  .subst e2;have le:w<=q.wo-r.2:=le;exact(q,hq,w,e,by omega)
  .subst e2;exact(p,hq,w,e,le)
theorem JI:∀(rs:Da Row)(s:HS),(rs.foldl eL s).ah.length<=s.ah.length
 | [],s=>aO _
 | r::rs,s=>by have:=JI rs (eL s r);have h:=vS (ps:=s.ah) (x:=r.1) (a:=r.2) |>.length_le;rw[aG,aG]at h;exact fG this h
theorem Eg(k:Int):∀{xs ts:Da Int},xs.length=ts.length->(List.zipWith (λx t=>x+k*t) xs ts).sum=xs.sum+k*ts.sum
 | [],[],_=>by simp
 | x::xs,t::ts,h=>by rw[uS,cI,cI,cI,Eg k (by simpa using h),lP];omega
 | [],_::_,h=>by simp at h
 | _::_,[],h=>by simp at h
theorem JJ{st:HS}:∀(rs:Da Row)(Ap:Da Int),(∀r∈rs,(aT st (cS st r.1)).length=Ap.length/\(aT st (cS st r.1)).sum=st.prod)->(vR st Ap rs).sum=Ap.sum+bL rs*st.prod
 | [],Ap,_=>by show Ap.sum=Ap.sum+0*_;omega
 | r::rs,Ap,h=>by
  obtain⟨h1,h2⟩:=h r cO;have e:(List.zipWith (λx t=>x+r.2*t) Ap (aT st (cS st r.1))).length=Ap.length:=by rw[kL,h1];omega
  show(vR st (List.zipWith (λx t=>x+r.2*t) Ap (aT st (cS st r.1))) rs).sum=_;rw[JJ rs _ (λx hx=>e▸h x (cR _ hx)),Eg _ h1.symm,h2,show bL (r::rs)=r.2+bL rs from by unfold bL;rw[bK,cI],pQ];omega
theorem qo{st:HS}{r:Row}(h:mR st r=none):r.1∈fW st/\1<=r.2/\r.2<=(cS st r.1).wo:=by
 unfold mR at h;split at h
 .split at h
  .cases h
  .split at h
   .cases h
   .exact (by assumption,by omega,by omega)
 .cases h
theorem Ce{st:HS}{rs:Da Row}(h:yr st rs=none):rs≠[]/\(rs.map λr:Row=>r.1).Nodup/\(∀r∈rs,mR st r=none)/\bL rs<aI st:=by
 unfold yr at h;split at h
 .next c=>
  split at h
  .cases h
  .next e=>
   split at h
   .cases h
   .exact (c.1,c.2,λr hr=>List.findSome?_eq_none_iff.mp e r hr,by omega)
 .cases h
theorem Go.zx{c:Nat}{st:HS}(g:Go c st)(wf:Wf st)(hc:c<=91){rs:Da Row}(h:yr st rs=none):pC st rs:=by
 obtain⟨h1,h2,h3,h4⟩:=Ce h;have aw:=g.aw wf hc;refine(h2,h1,?_,λr hr=>?_,h4,aw.big,aw.prod,aw.bN,aw.stp)
 .have:=Ab h2 (m:=fW st) (λx hx=>by obtain⟨r,hr,rfl⟩:=bw.mp hx;exact(qo (h3 r hr)).1);rw[aG]at this;unfold fW at this;rw[aG]at this;have:=g.pl;omega
 .obtain ⟨a1,a2,a3⟩:=qo (h3 r hr);obtain⟨i,p,e1,e2⟩:=oH a1;have hp:=bg e1;rw[dR wf hp e2]at a3;have:=g.sz wf hc p hp;exact(a2,this.of_le (by omega),p,hp,e2,a3)
def DdG:Dd->Prop
 | .load _ _ wo we=>wo<=1000000000000/\we<=1000000000
 | .rise _ a=>a<=1000000000000
 | _=>True
def Ru{n i:Nat}{b:Int}(h:i<n):((List.replicate n (0:Int)).set i b).sum=b:=by
 have:=pF (l:=List.replicate n (0:Int)) (x:=b) (by rw[jr];exact h)
 rwa [Nc,ya,tL,ya]at this
theorem aay{c:Nat}{st:HS}(g:Go c st)(wf:Wf st){x o:Str}{wo we:Int}(hx:isNm x=true)(ho:o∈st.own)(h1:wo<=1000000000000)(h2:we<=1000000000):Go (c+1) (yi st x o wo we):=by
 refine Gb g (λp hp=>?_) (by rw[c7];have:=g.pl;show st.ah.length+1<=_;omega) (by rw[c7];have:=g.kl;show st.nms.length+1<=_;omega) (λy hy=>?_)
 .rcases dN.mp hp with z|z
  .have:=g.wo p z;exact(g.sum p z,by omega,g.we p z)
  .rw [dw.mp z];refine(?_,by show wo<=_;omega,h2);unfold aT;show(List.zipWith (λr c=>(1:Int)*r+c) (mQ st _) st.bU).sum=_;rw[Ni (by rw[fF,jr,wf.gk])];exact Ru (qQ ho)
 .rcases dN.mp hy with z|z
  .exact g.nk y z
  .rw [dw.mp z];exact hx
theorem aaz{c:Nat}{st:HS}(g:Go c st)(wf:Wf st)(hc:c<=90){rs:Da Row}(h:yr st rs=none):Go (c+1) (gX st rs):=by
 have ok:=g.zx wf (by omega) h;have h1:∀r∈rs,1<=r.2:=λr hr=>(ok.row r hr).1;refine Nm g wf (ok.blend wf) ?_ hc (kq rs _) (λp' eW=>?_) ?_
 .have ex:∀r∈rs,∃p∈st.ah,p.nm=r.1:=λr hr=>by obtain⟨p,hp,e,_⟩:=(ok.row r hr).2.2;exact(p,hp,e)
  rw[BO wf ex,JJ,tL,ya];intro r hr;obtain⟨p,hp,e⟩:=ex r hr;rw[dR wf hp e,jr];exact(tH wf hp,g.sum p hp)
 .obtain ⟨p1,hp1,w,rfl,le⟩:=JH rs _ h1 p' eW;unfold bu at hp1;rw[lN]at hp1;obtain⟨p,hp,rfl⟩:=bw.mp hp1;exact(p,hp,Z,Z,le,Z)
 .refine fG (JI rs _) ?_;unfold bu;rw[lN,aG];exact aO _
theorem XM{c:Nat}{st:HS}(g:Go c st)(wf:Wf st)(hc:c<=90){o:Str}{a:Int}(h:nF st o a=none):Go (c+1) (BW st o a):=by
 obtain⟨ho,h1,h2⟩:=rQ h;refine Nm g wf ((g.aw wf (by omega)).blend (o:=o) wf h1 h2) (Ru (qQ ho)) hc rfl (λp' eW=>?_) ?_
 .have eW:p'∈(bu st _ _ _).ah:=eW;unfold bu at eW;rw[lN]at eW;obtain⟨p,hp,rfl⟩:=bw.mp eW;exact(p,hp,Z,Z,eZ _,Z)
 .show (bu st _ _ _).ah.length<=_;unfold bu;rw[lN,aG];exact aO _
def Vo{st:HS}(wf:Wf st){c:Nat}(g:Go c st){p:Pt}(hp:p∈st.ah):Vn c st.own (lD st p):=(st.own,aT st p,st.prod,List.prefix_refl _,(Ca wf hp).symm,Z,λt ht=>(wf.rF p hp t ht).1,g.sum p hp,wf.gq,g.prod)
theorem aaA{c:Nat}{st:HS}(g:Go c st)(wf:Wf st)(hc:c<=91){x:Str}(h:vW st x=none):Go (c+1) (rM st x):=by
 obtain⟨i,p,e1,rfl⟩:=oH (qO h);have hp:=bg e1;rw[tQ wf hp];have S:∀{M:Pt->Prop},(∀x∈st.ah,M x)->∀x∈st.ah.filter (λq=>decide (q.nm≠p.nm)),M x:=λh x hx=>h x (iU.mp hx).1;have hf:=G1 (λq:Pt=>decide (q.nm≠p.nm)) st.ah;have gm:=g.mono;refine(λu hu=>?_,gm.stp,gm.prod,S gm.wo,S g.we,fG hf gm.pl,gm.kl,g.ol,g.nk,g.on,S g.sum,?_,λa ha=>?_)
 .exact (HR wf hp (m:=64*c+1) (g.sz wf hc p hp) g.prod (λu hu=>(g.bN u hu).mono (by omega)) u hu).mono (by omega)
 .show (st.bM++[_]).length<=_;rw[c7];have:=g.al;show st.bM.length+1<=_;omega
 .rcases dN.mp (show a∈st.bM++[_]from ha)with z|z
  .exact gm.bM a z
  .rw [dw.mp z];exact(Vo wf g hp).mono (by omega) (List.prefix_refl _)
theorem aaB{c:Nat}{st:HS}(g:Go c st)(wf:Wf st){o:Str}(h:isNm o=true):Go (c+1) (gW st o):=by
 have gm:=g.mono;have P:∀p∈(gW st o).ah,∃p0∈st.ah,p={ p0 with row:=p0.row++[0] }:=λp hp=>by obtain⟨p0,h0,rfl⟩:=bw.mp (show p∈st.ah.map _ from hp);exact(p0,h0,Z)
 refine(λu hu=>?_,gm.stp,gm.prod,λp hp=>?_,λp hp=>?_,?_,gm.kl,?_,g.nk,λx hx=>?_,λp hp=>?_,gm.al,λa ha=>(gm.bM a ha).mono (aO _) (List.prefix_append _ _))
 .rcases dN.mp (show u∈st.bN++[0]from hu)with z|z
  .exact gm.bN u z
  .rw [dw.mp z];exact(show Jm.Sz 1 (0:Int)from iN (by decide +kernel)).mono (by omega)
 .obtain ⟨p0,h0,rfl⟩:=P p hp;exact gm.wo p0 h0
 .obtain ⟨p0,h0,rfl⟩:=P p hp;exact g.we p0 h0
 .show (st.ah.map _).length<=_;rw[aG];exact gm.pl
 .show 0<(st.own++[o]).length;rw[c7];exact mP g.ol (t9 _ _)
 .rcases dN.mp (show x∈st.own++[o]from hx)with z|z
  .exact g.on x z
  .rw [dw.mp z];exact h
 .obtain ⟨p0,h0,rfl⟩:=P p hp;show(List.zipWith (λr c=>p0.sc*r+c) (p0.row++[0]) (st.bU++[0])).sum=st.prod;rw[Ji _ (by rw[wf.rows p0 h0,wf.gk]),EO,show(List.zipWith (λr c=>p0.sc*r+c) p0.row st.bU).sum=st.prod from g.sum p0 h0];simp
def As{l:Da Pt}{x:Str}{f:Pt->Pt}{p':Pt}(h:p'∈l.map λp=>if p.nm=x then f p else p):∃p∈l,(p.nm=x/\p'=f p)\/p'=p:=by
 obtain⟨p,hp,e⟩:=bw.mp h;by_cases c:p.nm=x
 .exact (p,hp,.inl (c,by rw[ay c]at e;exact e.symm))
 .exact (p,hp,.inr (by rw[av c]at e;exact e.symm))
theorem afv{c:Nat}{st:HS}(g:Go c st)(wf:Wf st)(hc:c<=90){d:Dd}(hr:tM st d=none)(db:DdG d):Go (c+1) (ku st d):=by
 have hl:=g.pl;cases d with
 | sign o=>
  have:Am st o=none:=hr;unfold Am at this;split at this
  .exact aaB g wf (by assumption)
  .cases this
 | load x o wo we=>obtain⟨h1,_,h3,_,_⟩:=uK hr;exact aay g wf h1 h3 db.1 db.2
 | cast rs=>exact aaz g wf hc hr
 | award o a=>exact XM g wf hc hr
 | mishap x a=>
  obtain⟨_,h1,_⟩:=qo (show mR st (x,a)=none from hr);have h1:1<=a:=h1;refine g.same (ps:=ko st.ah x a) (λp' eW=>?_) ?_
  .obtain ⟨_,p,hp,e⟩:=tK eW;split at e
   .exact (p,hp,by rw[e],by rw[e],by rw[e];show p.wo-a<=_;omega,e▸eZ _)
   .exact (p,hp,by rw[e],by rw[e],by rw[e];omega,e▸eZ _)
  .have h:=vS (ps:=st.ah) (x:=x) (a:=a) |>.length_le;rw[aG,aG]at h;omega
 | rise x a=>
  have ha:a<=1000000000000:=db;refine g.same (λp' eW=>?_) (by rw[aG];omega);obtain⟨p,hp,⟨_,e⟩|e⟩:=As eW
  .exact (p,hp,by rw[e],by rw[e],by rw[e];show p.wo+a<=_;omega,e▸eZ _)
  .exact (p,hp,by rw[e],by rw[e],by rw[e];omega,e▸eZ _)
 | hand x o=>
  obtain⟨hx,ho⟩:=uN hr;show Go (c+1) (jb st x o);unfold jb;split
  .exact g.mono
  .next ne=>
   refine Gb g (ns:=st.nms) (λp' eW=>?_) (by rw[aG];omega) g.mono.kl g.nk;obtain⟨p,hp,⟨en,e⟩|e⟩:=As eW
   .rw [dR wf hp en]at ne;have:=g.wo p hp;refine(?_,by rw[e];show p.wo<=_;omega,e▸g.we p hp);rw[e,show aT st { p with ow:=o,sc:=1,row:=mQ st (oE st p o) }=_ from Cb wf hp o];exact(Nj wf hp ho ne (g.sum p hp)).2
   .rw [e];have:=g.wo p hp;exact(g.sum p hp,by omega,g.we p hp)
 | land x=>exact aaA g wf (by omega) hr
 | sever x y a we=>
  obtain⟨hx,hy,h1,h2,h3,h4⟩:=lZ hr;obtain⟨i,p0,e1,en⟩:=oH hx;have hp0:=bg e1;have w0:=g.wo p0 hp0;have v0:=g.we p0 hp0;show Go (c+1) (rN st x y a we);unfold rN;rw[dR wf hp0 en]at h3 h4 ⊢;refine Gb g (λp' eW=>?_) (by rw[c7];show(List.map _ st.ah).length+1<=_;rw[aG];omega) (by rw[c7];have:=g.kl;show st.nms.length+1<=_;omega) (λz hz=>?_)
  .rcases dN.mp eW with z|z
   .obtain ⟨p,hp,⟨_,e⟩|e⟩:=As z
    .rw [e];have:=g.wo p hp;have:=g.we p hp;exact(g.sum p hp,by show p.wo-a<=_;omega,by show p.we-we<=_;omega)
    .rw [e];have:=g.wo p hp;exact(g.sum p hp,by omega,g.we p hp)
   .rw [dw.mp z];exact(g.sum p0 hp0,by show a<=_;omega,by show we<=_;omega)
  .rcases dN.mp hz with w|w
   .exact g.nk z w
   .rw [dw.mp w];exact hy.1
 | still=>exact g.mono
theorem afw{c:Nat}{st:HS}(g:Go c st)(wf:Wf st)(hc:c<=90)(hk:st.kn+100<=1000000)(ho:st.own.length<100){d:Dd}(hr:tM st d=none):Wf (ku st d):=by
 have hl:=g.pl;have hn:=g.kl;cases d with
 | sign o=>
  have:Am st o=none:=hr;unfold Am at this;split at this
  .split at this
   .cases this
   .exact HE wf (by assumption) ho
  .cases this
 | load x o wo we=>obtain⟨_,h2,h3,h4,h5⟩:=uK hr;exact Q3 wf h2 (by omega) (by omega) h3 h4 h5
 | cast rs=>exact Z7 wf (g.zx wf (by omega) hr)
 | award o a=>obtain⟨h0,h1,h2⟩:=rQ hr;exact Ak wf ((g.aw wf (by omega)).blend (o:=o) wf h1 h2)
 | mishap x a=>obtain⟨_,_,h1⟩:=qo (show mR st (x,a)=none from hr);exact HJ wf λp hp e=>by rw[dR wf hp e]at h1;exact h1
 | rise x a=>have h1:=(B7 (show um st x a=none from hr)).2;exact zu wf λq hq _=>(Z,Z,Z,Z,by have:=(wf.kj q hq).1;show 1<=q.wo+a;omega,(wf.kj q hq).2)
 | hand x o=>exact Rp wf hr g.sum
 | land x=>exact Rr wf hr (g.ld wf (by omega) hk)
 | sever x y a we=>exact Ng wf hr (by omega) (by omega)
 | still=>exact wf
def aaC(st:HS)(s:Int):(fV st s).kn<=st.kn:=by
 unfold fV;split
 .exact gE _
 .exact aO _
def afx(st:HS)(d:Dd):(ku st d).kn<=st.kn+100:=by
 cases d with
 | cast rs=>exact fG (aaf st rs) (t9 _ _)
 | award o a=>exact fG (aaC _ _) (t9 _ _)
 | hand x o=>show(jb st x o).kn<=_;unfold jb;split <;> exact t9 _ _
 | land x=>exact aO _
 | _=>exact t9 _ _
inductive QAt(K:Fg)(H:Hp)(m:Addr)(st:HS):Prop
 |mk(AT:Da (Key×V))(lo lp lk:Addr)(us:Da V)(_:H m=some (.dK AT))(_:eE AT (Sum.inr "owners")=some (.ref lo))(_:eE AT (Sum.inr "parts")=some (.ref lp))(_:eE AT (Sum.inr "known")=some (.ref lk))(_:aC K H lo (st.own.map V.str))(_:aC K H lp us)(_:uH K H us st.ah)(_:aC K H lk (st.nms.map V.str))
def AQ(st:HS):Da Row:=st.ah.map λp=>(p.nm,p.wo)
def uH.nw{K:Fg}{H:Hp}{us:Da V}{st:HS}(h:uH K H us st.ah):MQ K H us (AQ st):=by refine(by unfold AQ;rw[aG];exact h.len,λi r e=>?_);unfold AQ at e;rw[bP]at e;obtain⟨p,ep,rfl⟩:=nt.mp e;obtain⟨a,xs,e1,e2,e3,_,e5,_⟩:=h.at_ i p ep;exact(a,xs,e1,e2,e3,e5)
structure Nx(nms:Da Str)(st:HS):Prop where
 t:st.nms=nms.take st.nms.length
 nd:nms.Nodup
 ok:∀x∈nms,isNm x=true
def Nx.next{nms:Da Str}{st:HS}(h:Nx nms st){x:Str}(e:nms[st.nms.length]?=some x):isNm x=true/\x∉st.nms/\∀st':HS,st'.nms=st.nms++[x]->Nx nms st':=by
 refine(h.ok x (bg e),?_,λst' e'=>(?_,h.nd,h.ok))
 .rw [h.t];exact lE h.nd e
 .rw [e',c7,show st.nms.length+[x].length=st.nms.length+1 from rfl,take_snoc e,<-h.t]
def Nx.keep{nms:Da Str}{st st':HS}(h:Nx nms st)(e:st'.nms=st.nms):Nx nms st':=(e▸h.t,h.nd,h.ok)
def adh{st:HS}{d:Dd}(h:d.k≠1)(h':d.k≠8):(ku st d).nms=st.nms:=by
 cases d with
 | load=>exact absurd rfl h
 | sever=>exact absurd rfl h'
 | cast rs=>show(gX st rs).nms=_;unfold gX;rw[kq];show(bu st _ _ _).nms=_;unfold bu;rw[yk]
 | award o a=>show(bu st _ _ _).nms=_;unfold bu;rw[yk]
 | hand x o=>show(jb st x o).nms=_;unfold jb;split <;> rfl
 | _=>rfl
def Dd.pl:Dd->Bool
 | .sign _=>false | .load .. =>false | .sever .. =>false|_=>true
def Dd.XO{d:Dd}(h:d.pl=true):d.k≠1/\d.k≠8/\d.k≠0:=by cases d <;> first|(exact Bool.noConfusion h)|(refine⟨?_,?_,?_⟩ <;> simp[Dd.k])
theorem SY{st:HS}(wf:Wf st){rs:Da Row}(h:U6 (AQ st) rs)(hne:rs≠[]):yr st rs=none:=by
 have hl:bL rs<aI st:=by
  rcases h.lost with z|z
  .have e:bL (AQ st)=aI st:=by unfold bL AQ aI;rw[fH];rfl
   rw[<-e];exact z
  .exact absurd z hne
 have hr:∀r∈rs,mR st r=none:=λr hr=>by obtain⟨r1,_,w,hw,e,le⟩:=h.row r hr;obtain⟨p,hp,rfl⟩:=bw.mp hw;have e:p.nm=r.1:=e;have le:r.2<=p.wo:=le;unfold mR;rw[ay (show r.1∈fW st from bw.mpr (p,hp,e)),av (by omega),dR wf hp e,av (by omega)]
 unfold yr;rw[ay (hne,h.nd),List.findSome?_eq_none_iff.mpr hr];exact av (by omega)
def Nx.pl{nms:Da Str}{st:HS}(h:Nx nms st)(wf:Wf st):st.ah.length<=nms.length:=by
 have a:=Ab (l:=st.ah.map (·.nm)) (m:=nms) wf.fP (λx hx=>by obtain⟨p,hp,rfl⟩:=bw.mp hx;have:=wf.sub p hp;rw[h.t]at this;exact List.mem_of_mem_take this)
 rwa [aG]at a
inductive afy(K:Fg)(vs:Da V)(H:Hp)(Q:VK)(E:XK):Prop
 |mk(l:Addr)(us:Da V)(rs:Da Row)(_:vs=[.ref l])(_:aC K H l us)(_:gy H us rs)(_:rs.length<=1000)(_:∀z H',aM H H'->H' z=some (.tup (Dd.v (.cast rs)))->Q (.ref z) H')
def Vp(K:Fg):Sp:=bx (afy K)
inductive C6(nms:Da Str)(st:HS)(d:Dd):Prop
 |mk(_:tM st d=none)(_:MY d)(_:Nx nms (ku st d))(_:d.k≠0)
inductive afz(K:Fg)(vs:Da V)(H:Hp)(Q:VK)(E:XK):Prop
 |mk(a m ln:Addr)(ns:Da Int)(k:Int)(nms:Da Str)(c:Nat)(st:HS)(_:vs=[.ref a,.int k,.ref m,.ref ln])(_:aC K H a (ns.map V.int))(_:ns.length<=63)(_:0<=k)(_:k<=1000000)(_:QAt K H m st)(_:aC K H ln (nms.map V.str))(_:Nx nms st)(_:nms.length<=50)(_:Wf st)(_:Go c st)(_:c<=90)(_:∀z d H',aM H H'->H' z=some (.tup (Dd.v d))->C6 nms st d->Q (.ref z) H')
def Vq(K:Fg):Sp:=bx (afz K)
inductive Vr(K:Fg)(vs:Da V)(H:Hp)(Q:VK)(E:XK):Prop
 |mk(a m ln:Addr)(ns:Da Int)(k way:Int)(nms:Da Str)(c:Nat)(st:HS)(_:vs=[.ref a,.int k,.ref m,.ref ln,.int way])(_:aC K H a (ns.map V.int))(_:ns.length<=63)(_:0<=k)(_:k<=1000000)(_:QAt K H m st)(_:aC K H ln (nms.map V.str))(_:Nx nms st)(_:nms.length<=50)(_:Wf st)(_:Go c st)(_:c<=90)(_:0<st.ah.length)(_:∀z d H',aM H H'->H' z=some (.tup (Dd.v d))->C6 nms st d->Q (.ref z) H')
def Gd(K:Fg):Sp:=bx (Vr K)
inductive aaD(T:TC)(K:Fg)(vs:Da V)(H:Hp)(Q:VK)(E:XK):Prop
 |mk(n c:Nat)(ρ:d8)(A:HA)(st:HS)(z:Addr)(d:Dd)(_:vs=[.ref A.a,.ref z])(_:cU K H z d.v)(_:HH T n ρ A H st)(_:Go c st)(_:c<=90)(_:st.kn+100<=1000000)(_:st.own.length<100)(_:tM st d=none)(_:yh T n ρ A H (ku st d:_) λH'=>Q .cK H')
def Eh(T:TC)(K:Fg):Sp:=bx (aaD T K)
theorem Rv:∀{rs:Da Row}{i:Nat}{r:Row},rs[i]?=some r->(kr rs)[2*i]?=some (.str r.1)/\(kr rs)[2*i+1]?=some (.int r.2)
 | [],_,_,h=>by simp at h
 | x::rs,0,r,h=>by
  have e:x=r:=by simpa using h
  subst e;exact(Z,Z)
 | x::rs,i+1,r,h=>by obtain⟨a,b⟩:=Rv (rs:=rs) (i:=i) (by simpa using h);rw[show 2*(i+1)=2*i+1+1 by omega];exact(a,b)
theorem Rw{rs:Da Row}{i:Nat}{r:Row}(h:rs[i]?=some r):(Dd.v (.cast rs))[1+2*i]?=some (.str r.1)/\(Dd.v (.cast rs))[2+2*i]?=some (.int r.2):=by obtain⟨a,b⟩:=Rv h;rw[show 1+2*i=2*i+1 by omega,show 2+2*i=2*i+1+1 by omega];exact(a,b)
def Au(rs:Da Row):(Dd.v (.cast rs)).length=2*rs.length+1:=by show(kr rs).length+1=_;rw[BY]
theorem Vs(m:Nat):s_ 1 ((2*m+1:Nat):Int) 2=m:=by unfold s_ Builtin.Range.rangeSize;rw[ay (by decide)];split <;> omega
theorem MY.g{d:Dd}(h:MY d):DdG d:=by
 cases d with
 | load x o wo we=>obtain⟨_,_,⟨_,h1⟩,⟨_,h2⟩⟩:=h;exact(by omega,h2)
 | rise x a=>obtain⟨_,⟨_,h1⟩⟩:=h;show a<=_;omega
 | _=>exact True.intro
structure GW(c m:Nat)(st:HS):Prop where
 g:Go c st
 wf:Wf st
 kn:st.kn<=m
theorem GW.do{c m:Nat}{st:HS}(h:GW c m st)(hc:c<=90)(hm:m+100<=1000000)(ho:st.own.length<100){d:Dd}(hr:tM st d=none)(hb:DdG d):GW (c+1) (m+100) (ku st d):=(afv h.g h.wf hc hr hb,afw h.g h.wf hc (by have:=h.kn;omega) ho hr,by have:=h.kn;have:=afx st d;omega)
def sN(sp:Sp):Sp:=λvs H Q _=>sp vs H Q E0
def Vt{st:HS}{o:Str}(h:Am st o=none):isNm o=true/\o∉st.own:=by
 unfold Am at h;split at h
 .split at h
  .cases h
  .exact (by assumption,by assumption)
 .cases h
def kQ(own:Da Str):HS:=own.foldl gW hs0
theorem JK:∀(l:Da Str)(st:HS),Wf st->(st.own++l).Nodup->st.own.length+l.length<=100->Wf (l.foldl gW st)
 | [],_,w,_,_=>w
 | o::l,st,w,nd,hl=>by
  rw[kT];rw[ig]at hl;have h1:o∉st.own:=λm=>(List.nodup_append.mp nd).2.2 o m o cO rfl;refine JK l (gW st o) (HE w h1 (by omega)) ?_ ?_
  .show ((st.own++[o])++l).Nodup;rw[LH];exact nd
  .show (st.own++[o]).length+l.length<=100;rw[c7];show st.own.length+1+l.length<=100;omega
theorem gw0{own:Da Str}(nd:own.Nodup)(h0:0<own.length)(h1:own.length<=100)(hon:∀o∈own,isNm o=true):GW 0 0 (kQ own):=by
 obtain⟨k1,k2,k3,k4,k5,k6⟩:=oB own hs0 rfl (λu hu=>absurd hu (by simp[hs0]));have eo:(kQ own).own=own:=by unfold kQ;rw[uI];rfl
 have k1:(kQ own).ah=[] :=k1;have k2:(kQ own).nms=[] :=k2;have k3:(kQ own).stp=[] :=k3;have k4:(kQ own).prod=1:=k4;have k5:(kQ own).bM=[] :=k5;have k6:∀u∈(kQ own).bN,u=0:=k6;refine((λu hu=>?_,by rw[k3];exact aO _,?_,λp hp=>?_,λp hp=>?_,by rw[k1];exact aO _,by rw[k2];exact aO _,by rw[eo];exact h0,λx hx=>?_,by rw[eo];exact hon,λp hp=>?_,by rw[k5];exact aO _,λa ha=>?_),JK own hs0 wf0 nd (by show 0+_<=_;omega),?_)
 .rw [k6 u hu];exact iN (by decide +kernel)
 .rw [k4];exact iN (by decide +kernel)
 .rw [k1]at hp;cases hp
 .rw [k1]at hp;cases hp
 .rw [k2]at hx;cases hx
 .rw [k1]at hp;cases hp
 .rw [k5]at ha;cases ha
 .rw [show(kQ own).kn=0 from MX own hs0];exact aO _
def aaE(own:Da Str):(kQ own).own=own:=by unfold kQ;rw[uI];rfl
def adi{own nms:Da Str}(nd:nms.Nodup)(h:∀x∈nms,isNm x=true):Nx nms (kQ own):=by obtain⟨_,k2,_⟩:=oB own hs0 rfl (λu hu=>absurd hu (by simp[hs0]));have k2:(kQ own).nms=[] :=k2;exact(by rw[k2];rfl,nd,h)
noncomputable def zy(st:HS)(i:Nat):Int:=(st.ah.map λp=>p.wo*p.sc*p.row.getD i 0).sum+aI st*st.bU.getD i 0
def HU(st:HS)(o:Str):Int:=((st.bM.filter λa=>decide (a.ow=o)).map λa=>a.wo).sum
def adj(st:HS)(o:Str):Rat:=Jm.fr (zy st (st.own.idxOf o)) st.prod
def Vu(st:HS)(o:Str):Rat:=Jm.fr (st.bN.getD (st.own.idxOf o) 0) st.prod
structure S0(st:HS):Prop where
 wf:Wf st
 wo:∀p∈st.ah,Jm.Sz 60 p.wo
 wh:Jm.Sz 60 (aI st)
 la:∀o,Jm.Sz 60 (HU st o)
inductive Vv(T:TC)(vs:Da V)(H:Hp)(Q:VK)(E:XK):Prop
 |mk(n ρ A st:_)(i:Nat)(_:vs=[.ref A.a,.int (i:Int)])(_:aY T n ρ A H st)(_:S0 st)(_:i<st.own.length)(_:∀H',aM H H'->Q (.int (zy st i)) H')
def Ge(T:TC):Sp:=bx (Vv T)
inductive aaF(T:TC)(vs:Da V)(H:Hp)(Q:VK)(E:XK):Prop
 |mk(n ρ A st o:_)(_:vs=[.ref A.a,.str o])(_:aY T n ρ A H st)(_:S0 st)(_:o∈st.own)(_:∀r H',aM H H'->H' r=some (oS (adj st o))->Q (.ref r) H')
def Nn(T:TC):Sp:=bx (aaF T)
inductive adk(T:TC)(vs:Da V)(H:Hp)(Q:VK)(E:XK):Prop
 |mk(n ρ A st o:_)(_:vs=[.ref A.a,.str o])(_:aY T n ρ A H st)(_:Wf st)(_:o∈st.own)(_:∀r H',aM H H'->H' r=some (oS (Vu st o))->Q (.ref r) H')
def Rx(T:TC):Sp:=bx (adk T)
def getD_at{l:Da Int}{i:Nat}(h:i<l.length):lz (l.map V.int) (i:Int)=some (.int (l.getD i 0)):=aE (by rw[bP,dQ,a_ h];rfl)
def JL{l:Da Int}{i:Nat}(h:i<l.length):l.getD i 0∈l:=by rw[dQ,a_ h];exact xY h
section
variable {X:Cx}
end
theorem Vw{st:HS}(wf:Wf st){i:Nat}(hi:i<st.own.length):zy st i=(st.ah.map λp=>p.wo*(aT st p).getD i 0).sum:=by
 unfold zy aI;have hc:=wf.gk;have h:∀p∈st.ah,(aT st p).getD i 0=p.sc*p.row.getD i 0+st.bU.getD i 0:=λp hp=>by unfold aT;exact lV (f:=λr c=>p.sc*r+c) (by show p.sc*0+0=0;omega) (by rw[wf.rows p hp,hc]) i
 generalize st.bU.getD i 0=k at *;revert h;generalize st.ah=ps;intro h
 induction ps with
 | nil=>show(0:Int)+0*k=0;omega
 | cons p ps ih=>
  have e:=h p cO;have:=ih λx hx=>h x (cR _ hx);rw[bK,bK,bK,cI,cI,cI,e,<-this]
  grind
structure Mo(c:Nat)(st:HS):Prop where
 pz:st.bN.sum=0
 ao:∀a∈st.bM,a.ow∈st.own
 aw:∀a∈st.bM,1<=a.wo/\a.wo<=1000000000000*((c:Int)+1)
theorem Mo.mono{c:Nat}{st:HS}(m:Mo c st):Mo (c+1) st:=(m.pz,m.ao,λa ha=>by have:=m.aw a ha;omega)
def Np{c:Nat}{st:HS}(m:Mo c st)(kept whole:Int)(jp:Da Int):Mo (c+1) (bu st kept whole jp):=by
 unfold bu;refine(?_,?_,?_)
 .rw [yj];show(st.bN.map λx=>x*_).sum=0;rw[uh (λx=>x),List.map_id',m.pz,pN]
 .rw [yl,uJ];exact m.ao
 .rw [yl];exact m.mono.aw
theorem XQ{st:HS}(wf:Wf st){p:Pt}(hp:p∈st.ah)(hs:(aT st p).sum=st.prod):(mS st p).sum=st.bN.sum:=by
 have e:=pF (l:=gF st p) (i:=st.own.idxOf p.ow) (x:=-(p.wo*st.prod)) (Cd wf hp▸qQ (wf.ow p hp));have e2:(gF st p).sum=st.bN.sum+p.wo*st.prod:=by unfold gF;rw[Eg _ (by rw[Ca wf hp,wf.oU]),hs]
 unfold mS;rw[Int.sub_eq_add_neg,e,e2];omega
theorem afA{c:Nat}{st:HS}(m:Mo c st)(g:Go c st)(wf:Wf st){d:Dd}(hr:tM st d=none):Mo (c+1) (ku st d):=by
 cases d with
 | sign o=>refine(?_,λa ha=>DQ _ (m.ao a ha),m.mono.aw);show(st.bN++[0]).sum=0;rw[EO,m.pz];rfl
 | cast rs=>show Mo (c+1) (gX st rs);unfold gX;rw[kq];have:=Np m (aI st-bL rs) (aI st) (gC st rs);exact(this.pz,this.ao,this.aw)
 | award o a=>exact Np m _ _ _
 | hand x o=>show Mo (c+1) (jb st x o);unfold jb;split <;> exact(m.pz,m.ao,m.mono.aw)
 | land x=>
  obtain⟨i,p,e1,rfl⟩:=oH (qO hr);have hp:=bg e1;show Mo (c+1) (rM st p.nm);rw[tQ wf hp];have S:∀{M:iX->Prop},(∀a∈st.bM,M a)->M (p.nm,p.ow,p.wo,lD st p)->∀a∈st.bM++[(p.nm,p.ow,p.wo,lD st p)],M a:=λh1 h2 a ha=>by
   rcases dN.mp ha with z|z
   .exact h1 a z
   .rw [dw.mp z];exact h2
  have w:=g.wo p hp;exact(by show(mS st p).sum=0;rw[XQ wf hp (g.sum p hp),m.pz],S m.ao (wf.ow p hp),S m.mono.aw ((wf.kj p hp).1,by show p.wo<=_;omega))
 | _=>exact(m.pz,m.ao,m.mono.aw)
theorem AR:∀{l:Da iX}{m:Int}(f:iX->Bool),(∀a∈l,1<=a.wo/\a.wo<=m)->0<=((l.filter f).map λa=>a.wo).sum/\((l.filter f).map λa=>a.wo).sum<=m*(l.length:Int)
 | [],m,_,_=>by show 0<=(0:Int)/\(0:Int)<=m*0;omega
 | a::l,m,f,h=>by
  have h0:=h a cO;have ih:=AR (l:=l) (m:=m) f λx hx=>h x (cR _ hx);rw[ir,ig,show(((l.length+1:Nat)):Int)=(l.length:Int)+1 from by omega,lP,pO];by_cases c:f a=true
  .rw [ay c,bK,cI];omega
  .rw [av c];omega
theorem Go.st{c:Nat}{st:HS}(g:Go c st)(m:Mo c st)(wf:Wf st)(hc:c<=91):S0 st:=by
 refine(wf,g.sz wf hc,(g.whole wf hc).2,λo=>?_);have h:=AR (m:=92000000000000) (λa:iX=>decide (a.ow=o)) λa ha=>by have:=m.aw a ha;omega
 have hl:=g.al;have h2:(92000000000000:Int)*(st.bM.length:Int)<=92000000000000*91:=by omega
 have h3:HU st o<=92000000000000*91:=CF h.2 h2;have h1:0<=HU st o:=h.1;exact(show Jm.Sz 60 (92000000000000*91:Int)from iN (by decide +kernel)).of_le (by omega)
def mo0{own:Da Str}:Mo 0 (kQ own):=by
 obtain⟨_,_,_,_,k5,k6⟩:=oB own hs0 rfl (λu hu=>absurd hu (by simp[hs0]));have k5:(kQ own).bM=[] :=k5;have k6:∀u∈(kQ own).bN,u=0:=k6;refine(?_,(λa ha=>by rw[k5]at ha;cases ha),λa ha=>by rw[k5]at ha;cases ha);generalize (kQ own).bN=l at *
 induction l with
 | nil=>rfl
 | cons a l ih=>rw[cI,k6 a cO,ih λu hu=>k6 u (cR _ hu)];rfl
section
variable {prog:Program}{w:World}{A:Around}{R:Result->Shared->Prop}{s:Shared}
end
section
variable {X:Cx}
end
section
variable {X:Cx}
end
section
variable {T:TC}{n m:Nat}{ρ ρ1:d8}{H H1:Hp}{A B:HA}{st s1:HS}{x:Addr}
end
section
variable {T:TC}{n m:Nat}{ρ ρ1:d8}{H H1:Hp}{A B:HA}{st s1:HS}{x:Addr}
end
inductive Pd:PyData->Nat->Prop
 | str {x:Str} {n:Nat}:PyData.strOk x=true->Pd (.str x) n
 | int {i:Int} {n:Nat}:Pd (.int i) n
 | list {ds:Da PyData} {n:Nat}:(∀d∈ds,Pd d n)->Pd (.list ds) (n+1)
 | tuple {ds:Da PyData} {n:Nat}:(∀d∈ds,Pd d n)->Pd (.tuple ds) (n+1)
theorem Nq:∀{ds:Da PyData},(∀d∈ds,PyData.canLay0 d=true)->PyData.canLayAll0 ds=true
 | [],_=>rfl
 | d::r,h=>by unfold PyData.canLayAll0;rw[h d cO,Nq λd hd=>h d (cR _ hd)];rfl
theorem Ei{n:Nat}:∀{ds:Da PyData},(∀d∈ds,PyData.depth d<=n)->PyData.depthAll ds<=n
 | [],_=>gE _
 | d::r,h=>by unfold PyData.depthAll;have h1:=h d cO;have h2:=Ei λd hd=>h d (cR _ hd);omega
theorem Nr:∀{ds:Da PyData},(∀d∈ds,PyData.eqv d d=true)->PyData.eqvAll ds ds=true
 | [],_=>rfl
 | d::r,h=>by unfold PyData.eqvAll;rw[h d cO,Nr λd hd=>h d (cR _ hd)];rfl
theorem Pd.facts{d:PyData}{n:Nat}(h:Pd d n):PyData.canLay0 d=true/\PyData.depth d<=n/\PyData.eqv d d=true:=by
 induction h with
 | str e=>exact(by unfold PyData.canLay0;exact e,gE _,by unfold PyData.eqv;exact zS _)
 | int=>exact(Z,gE _,by unfold PyData.eqv;exact zS _)
 | list _ ih=>
  refine(?_,?_,?_)
  .unfold PyData.canLay0;exact Nq λd hd=>(ih d hd).1
  .unfold PyData.depth;have:=Ei λd hd=>(ih d hd).2.1;omega
  .unfold PyData.eqv;exact Nr λd hd=>(ih d hd).2.2
 | tuple _ ih=>
  refine(?_,?_,?_)
  .unfold PyData.canLay0;exact Nq λd hd=>(ih d hd).1
  .unfold PyData.depth;have:=Ei λd hd=>(ih d hd).2.1;omega
  .unfold PyData.eqv;exact Nr λd hd=>(ih d hd).2.2
theorem Pd.shaped{d:PyData}{n:Nat}(h:Pd d n)(hn:n<=64):SeqAt.shaped d=true:=by unfold SeqAt.shaped;rw[h.facts.1];exact bR (fG h.facts.2.1 hn)
theorem Pd.eqv{d:PyData}{n:Nat}(h:Pd d n):PyData.eqv d d=true:=h.facts.2.2
def ne_data{K:Fg}{H:Hp}{x y:V}{d:PyData}{n:Nat}{Q:VK}(h1:Dt K H x d)(h2:Dt K H y d)(p:Pd d n)(hn:n<=64)(q:Q (.bl false) H):Sw K x y H Q:=(d,d,h1,h2,p.shaped hn,p.shaped hn,p.eqv▸q)
section
variable {K:Fg}{H:Hp}
end
theorem Nt{a:HS}{kept whole lost:Int}{ga:Da Int}(ba:oh a kept whole lost ga):(bu a kept whole ga).bN=a.bN.map (·*(whole / cE a kept whole ga))/\(bu a kept whole ga).prod=a.prod*(whole / cE a kept whole ga):=by
 obtain⟨hd,Vd,_⟩:=ba.dvds;have w1:0<whole:=by have:=ba.l;have:=ba.w;have:=ba.k;omega
 have s1:1<=whole / cE a kept whole ga:=R5 hd (by have:=EU w1 Vd;omega);unfold bu;rw[yj,vQ s1];exact(Z,Z)
section
variable {a:Addr}{ρ:d8}{H:Hp}
end
section
variable {P:Program}{w:World}{K:Fg}{mg:SO}{base:Heap}{k:Nat}{T:TC}{e:Ec}{ps:Da Str}
def XR(D:Mn P w K mg base k T.hold "place_of" ps (sN (An T e))):Mn P w K mg base k T.hold "place_of" ps (zd T):=D.imp λvs H Q E h=>by obtain⟨⟨n,ρ,A,st,o,rfl,hx,ho,q⟩⟩:=h;exact(n,ρ,A,st,o,Z,hx,λz=>absurd ho z,λ_=>q)
def Vx(D:Mn P w K mg base k T.hold "part_of" ps (sN (nE T e))):Mn P w K mg base k T.hold "part_of" ps (D4 T):=D.imp λvs H Q E h=>by obtain⟨⟨n,ρ,A,st,i,p,qq,rfl,hx,nd,ep,eq,q⟩⟩:=h;refine(n,ρ,A,st,p.nm,Z,hx,nd,λz=>absurd rfl (z p (bg ep)),λj p' q' e1 e2 e3=>?_);have:j=i:=Fz nd e2 ep e1;subst this;rw[eq]at e3;cases e3;exact q
def adl(D:Mn P w K mg base k T.hold "check_new" ps (sN (yJ T e))):Mn P w K mg base k T.hold "check_new" ps (FE T):=D.imp λvs H Q E h=>by
 obtain⟨⟨n,ρ,A,st,x,rfl,h,h1,h2,q⟩⟩:=h;have hn:newR st x=none:=by unfold newR;rw[ay h1,av h2]
 refine(n,ρ,A,st,x,Z,h,fG (oF h1) (by decide),λi hi=>?_,λ_=>q);rw[hn]at hi;cases hi
theorem adm(D:Dn P w K mg base k "check_amount" ps (sN (B3 e))):Dn P w K mg base k "check_amount" ps afd:=D.imp λvs H Q E h=>by obtain⟨⟨a,rfl,h1,q⟩⟩:=h;exact(a,Z,λz=>absurd z (by omega),λ_=>q)
theorem adn(D:Dn P w K mg base k "check_loss" ps (sN (M5 e))):Dn P w K mg base k "check_loss" ps YI:=D.imp λvs H Q E h=>by obtain⟨⟨m,a,rfl,h1,h2,q⟩⟩:=h;exact(m,a,Z,λz=>absurd z (by omega),λ_ z=>absurd z (by omega),λ_ _=>q)
end
def cW{K:Fg}{σ:St}{H:Hp}{j:Nat}{z:Addr}{xs:Da V}{w x:Str}{Q:Bool->Hp->Prop}(hz:cU K H z xs)(e:xs[0]?=some (.str w))(hx:w≠x)(hj:σ[j]?=some (some (.ref z)))(q:Q false H):CJ (AI rEq (AI (L1 K) (wk j) (tC (.int 0))) (tC (.str x))) σ H Q:=by have f:decide (V.str w=V.str x)=false:=dM λz=>hx (V.str.inj z);refine(_,hj,z,_,_,_,Z,Z,hz,aE (j:=0) e,Z,_,Z,?_);rw[f];exact q
def sU{K:Fg}{σ:St}{H:Hp}{j:Nat}{z:Addr}{xs:Da V}{x:Str}{Q:Bool->Hp->Prop}(hz:cU K H z xs)(e:xs[0]?=some (.str x))(hj:σ[j]?=some (some (.ref z)))(q:Q true H):CJ (AI rEq (AI (L1 K) (wk j) (tC (.int 0))) (tC (.str x))) σ H Q:=by have f:decide (V.str x=V.str x)=true:=bR rfl;refine(_,hj,z,_,_,_,Z,Z,hz,aE (j:=0) e,Z,_,Z,?_);rw[f];exact q
structure WrP(n:Nat)(ρ:d8)(B:BA)(H:Hp)(b:BS)(i:Nat)(q:Addr×Addr)(z:Addr)(v:Da V)(p:BP)(H':Hp):Prop where
 hb:bf n ρ { B with qs:=B.qs.set i q } H' { b with ah:=b.ah.set i p }
 g:Gh ρ H'
 f:Fr n ρ H ρ H'
 r1:H' q.1=some (jy p q.2)
 r2:H' q.2=some (.lst (p.tops.map V.int))
 hz:H' z=some (.tup v)
 nn:∀c,H' c=none->H c=none
 nd:((b.ah.set i p).map λp:BP=>p.nm).Nodup
 ep:(b.ah.set i p)[i]?=some p
 eq:(B.qs.set i q)[i]?=some q
def Vy{ps:Da BP}{i:Nat}{p0 p:BP}(h:ps[i]?=some p0)(e:p.nm=p0.nm)(nd:(ps.map λp:BP=>p.nm).Nodup):((ps.set i p).map λp:BP=>p.nm).Nodup:=by rw[kU,e,Nh (f:=λp:BP=>p.nm) h];exact nd
def bf.Vz{n:Nat}{ρ:d8}{B:BA}{H:Hp}{b:BS}{i:Nat}{q:Addr×Addr}{z:Addr}{v:Da V}{p0:BP}(hb:bf n ρ B H b)(G:Gh ρ H)(k2:b.ah[i]?=some p0)(nD:B.qs[i]?=some q)(nd:(b.ah.map λp:BP=>p.nm).Nodup)(hz:H z=some (.tup v))(p:BP)(en:p.nm=p0.nm)(et:p.tops=p0.tops):WrP n ρ B H b i q z v p (upd H q.1 (jy p q.2)):=by
 obtain⟨r1,r2,c1,c2⟩:=hb.pt i p0 q k2 nD;have ne:q.2≠q.1:=λe=>by rw[e,c1]at c2;cases c2
 refine(hb.mC G k2 nD en nd (et▸r2) (en▸c2),G.wr rfl,Fr.write c1,aq,?_,?_,λc=>lY,Vy k2 en nd,kJ (c_.mp k2).1,kJ (c_.mp nD).1)
 .rw [aA ne,et];exact r2
 .rw [aA (λe=>by rw[e,r1]at hz;cases hz)];exact hz
structure WrT(n:Nat)(ρ:d8)(B:BA)(H:Hp)(b:BS)(i:Nat)(q:Addr×Addr)(z:Addr)(v:Da V)(p:BP)(H':Hp):Prop where
 hb:bf n ρ B H' { b with ah:=b.ah.set i p }
 g:Gh ρ H'
 f:Fr n ρ H ρ H'
 r1:H' q.1=some (jy p q.2)
 r2:H' q.2=some (.lst (p.tops.map V.int))
 hz:H' z=some (.tup v)
 nd:((b.ah.set i p).map λp:BP=>p.nm).Nodup
 ep:(b.ah.set i p)[i]?=some p
def bf.wrT{n:Nat}{ρ:d8}{B:BA}{H:Hp}{b:BS}{i:Nat}{q:Addr×Addr}{z:Addr}{v:Da V}{p0:BP}(hb:bf n ρ B H b)(G:Gh ρ H)(k2:b.ah[i]?=some p0)(nD:B.qs[i]?=some q)(nd:(b.ah.map λp:BP=>p.nm).Nodup)(hz:H z=some (.tup v))(l:Da Int):WrT n ρ B H b i q z v { p0 with tops:=l } (upd H q.2 (.lst (l.map V.int))):=by obtain⟨r1,r2,c1,c2⟩:=hb.pt i p0 q k2 nD;have s:=hb.XG G l k2 nD nd;have ep:=kJ (a:={ p0 with tops:=l }) (c_.mp k2).1;obtain⟨a1,a2,_,_⟩:=s.pt i _ q ep nD;exact(s,G.wr rfl,Fr.write c2,a1,a2,by rw[aA (λe=>by rw[e,r2]at hz;cases hz)];exact hz,Vy k2 rfl nd,ep)
def Ls{b:BS}{i:Nat}{q:BP}{x:Str}{F:BP->BP}(k2:b.ah[i]?=some q)(k4:q.nm=x)(nd:(b.ah.map λp:BP=>p.nm).Nodup):rP b x F={ ({ b with ah:=b.ah.set i (F q) }:BS)with ah:=(b.ah.set i (F q)).filter λp=>decide (0<p.wo) }:=by unfold rP;rw[<-k4,vX (nm:=λp:BP=>p.nm) (f:=F) nd k2]
theorem VA{K:Fg}{n:Nat}{ρ:d8}{B:BA}{H:Hp}{b:BS}{lp:Addr}{Q:VK}(h:bf n ρ B H b)(G:Gh ρ H)(pl:b.ah.length<=1000)(wZ:H lp=none)(q:∀ρ' H7,H7 B.m=some (.dK (fu B b.bot))->Gh ρ' (upd H7 B.m (.dK (fu { B with lp:=lp } b.bot)))->bf n ρ' { { B with lp:=lp }with qs:=kX b.ah B.qs } (upd H7 B.m (.dK (fu { B with lp:=lp } b.bot))) { b with ah:=b.ah.filter λp=>decide (0<p.wo) }->Fr n ρ H ρ' (upd H7 B.m (.dK (fu { B with lp:=lp } b.bot)))->Q (.ref lp) H7):Bw (wC K B.lp) (i9 0) (CJ (AI (Bk λi j=>V.bl (decide (j<i))) (AI (L0 K) (wk 0) (tC (.int 2))) (tC (.int 0)))) (wk 0) lp [none] H Q:=by
 have ql:=h.ql;have qml:(B.qs.map λq=>V.ref q.1).length=b.ah.length:=by rw[aG];exact ql
 have op:=h.op;refine QU (n:=b.ah.length) 0 (λi o H'=>aM H H'/\o=(kX (b.ah.take i) (B.qs.take i)).map λq=>V.ref q.1) (by omega) (aF wZ _,Z) (λi o H' hi _ hp=>(_,_,aC.of (hp.1 _ _ op),a_ (qml▸hi))) (λo H' _ hp=>(_,aC.of (hp.1 _ _ op),qml▸aO _)) ?_ ?_
 .rintro i y o H7 H8 hi eU ha ⟨g,e⟩ ⟨rfl,hy⟩;have ei:=a_ hi;obtain⟨qq,eq,k1,k2,_,_⟩:=h.find ei;have ey:=hy _ (aC.of (g _ _ op));rw[bP,eq]at ey;cases ey;have es:=FL ei eq;refine(_,Z,qq.1,_,_,_,Z,Z,aC.of (g _ _ k1),aE (j:=2) rfl,_,_,Z,Z,_,Z,dX (λc=>?_) (λc=>?_))
  .rw [ay (eO c)]at es;refine(_,Z,ha,g.cJ wZ _,?_);rw[es,e,bQ];rfl
  .rw [av (qR (lO.mpr c))]at es;exact(ha,g,by rw[es,e,x6])
 rintro o H7 _ ha ⟨g7,e⟩;rw[cQ,<-ql,cQ]at e;subst e;have h8:=(h.mono g7).col (t:=22) (x:=⟨#[]⟩) (G.none wZ);have G8:Gh (b7 ρ lp (n,22,⟨#[]⟩)) H7:=(G.same g7).color ha rfl;have h9:=h8.acO G8 (lp:=lp) (qs:=kX b.ah B.qs) (ps:=b.ah.filter λp=>decide (0<p.wo)) ha c6 (Jt ql) (λi x y ex ey=>by obtain⟨j,a1,a2⟩:=D9 ex ey ql;exact h8.pt j x y a1 a2)
 exact q _ _ h8.om (G8.wr rfl) h9 ((Fr.color wZ g7).trans (Fr.write h8.cm))
theorem VB{c:Nat}{st:HS}{b:BS}(g:eX c st b)(x:Str):(rP b x λp=>{ p with wo:=0 }).ah=b.ah.filter λp=>decide (p.nm≠x):=by
 unfold rP;show List.filter _ (b.ah.map _)=_;have w:=g.fD.w1;generalize b.ah=ps at w
 induction ps with
 | nil=>rfl
 | cons p ps ih=>
  have w1:=w p cO;have ih:=ih λq hq=>w q (cR _ hq);rw[bK,ir,ir,ih];by_cases e:p.nm=x
  .rw [ay e];simp[e]
  .rw [av e];simp[e];omega
theorem aaG{c:Nat}{st:HS}{b:BS}{x:Str}(g:eX c st b)(wf:Wf st)(hc:c<=90)(h:vW st x=none):eX (c+1) (rM st x) (yt b x):=by
 obtain⟨i,p0,q0,e1,e2,k1,k2,k3,k4,k5,k6⟩:=qm g.rel wf (qO h);have hp:=bg e1;have hq:=bg e2;have z0:Jm.Sz 60 p0.wo:=by
  have:=(g.whole (by omega)).2;have w0:=(wf.kj p0 hp).1;have le:p0.wo<=bV b:=by rw[<-g.rel.whole];unfold aI;exact(B_ λx hx=>by obtain⟨q,hq,rfl⟩:=bw.mp hx;have:=(wf.kj q hq).1;omega).2 _ (bw.mpr (p0,hp,Z))
  exact this.of_le (by omega)
 have eb:qi b x=q0:=by unfold qi;rw[<-k2,qN g.fD.nd e2];rfl
 have eB:yt b x={ b with ah:=b.ah.filter (λp=>decide (p.nm≠x)),bM:=b.bM++[⟨x,q0.ow,q0.wo,q0.tops,b.bot⟩] }:=by unfold yt;rw[eb,<-VB g x];rfl
 have eS:=tQ wf hp;rw[k1]at eS;rw[eB,eS];have g1:eX (c+1) { st with ah:=st.ah.filter λq=>decide (q.nm≠x) } { b with ah:=b.ah.filter λp=>decide (p.nm≠x) }:=by refine Lr g ?_ (λp hp=>(p,(iU.mp hp).1,Z,Z,Z)) (λq hq=>(q,(iU.mp hq).1,Z,Z,Z,g.fD.w1 q (iU.mp hq).1,by omega,eZ _)) ((LC).map _);have e:=i8 (List.filter λq:Q4=>decide (q.1≠x)) (wX g);rw[List.filter_map,List.filter_map]at e;exact e
 have hs:=FT g.oW g.rel wf g.fD hp hq (k1.trans k2.symm);have nm0:=g.nm q0 hq;rw[k2]at nm0;refine((g1.fD.nd,g1.fD.tl,g1.fD.t0,g1.fD.b1,g1.fD.bz,g1.fD.w1,g1.fD.ol,g1.fD.pl,g1.fD.kl),(g1.rel.own,g1.rel.qd),g1.oW,λu hu=>?_,g1.stp,g1.prod,g1.bot,g1.wo,g1.we,g1.pl,g1.kl,g1.own,g1.nm,?_,g1.eF,g1.nk,g1.on,g1.sum)
 .exact (HR wf hp (m:=60*c+1) z0 g.prod (λu hu=>(g.bN u hu).mono (by omega)) u hu).mono (by omega)
 .exact g.bM.snoc rfl k3.symm k4.symm (by rw[<-hs]) (by show q0.tops.length<=b.own.length;rw[g.fD.tl q0 hq];exact aO _) (by have:=g.fD.b1;show 0<b.bot;omega) (g.fD.bz.mono (by omega)) nm0.1 nm0.2
theorem YR{c c':Nat}{st:HS}{b:BS}{d:Dd}(g:eX c st b)(gg:Go c' st)(wf:Wf st)(hc:c<=90)(hc':c'<=90)(hr:tM st d=none)(hb:MY d)(hk:d.k≠0)(h3:b.ah.length<50)(h4:b.eF.length<900):eX (c+1) (ku st d) (uo b d):=by
 have eo:=g.rel.own;cases d with
 | sign o=>exact absurd rfl hk
 | load x o wo we=>
  obtain⟨l1,l2,l3,l4,l5⟩:=uK hr;refine(aag g wf (λm=>l2 ?_) l4 hb.2.2.1.2 h3 h4 l1 (eo▸l3) hb.2.2.2.2).mono;obtain⟨q,hq,e⟩:=bw.mp m;obtain⟨j,hj,ej⟩:=oQ hq;obtain⟨p,hp,k1,_⟩:=g.rel.at (i:=j) (q:=q) (by rw[a_ hj,ej])
  have e:q.nm=x:=e;rw[<-e,<-k1];exact wf.sub p (bg hp)
 | cast rs=>
  have ok:=gg.zx wf (by omega) hr;obtain⟨_,nd,w6,hl⟩:=Ce hr;have rb:vV b rs:=(nd,λr hr=>by obtain⟨m,r1,r2⟩:=qo (w6 r hr);obtain⟨i,p0,q0,e1,e2,k1,k2,k3,k4,k5,k6⟩:=qm g.rel wf m;exact(r1,i,q0,e2,k2,by rw[k4,<-k6];exact r2))
  exact aae g wf ok rb (Rg g.fD rb (g.rel.whole▸hl) g.own (g.whole (by omega)).2) hc
 | award o a=>obtain⟨ho,h1,h2⟩:=rQ hr;exact XA g wf (gg.aw wf (by omega)) hc ho h1 h2
 | mishap x a=>exact Vk g wf hr
 | rise x a=>exact aao g wf (B7 hr).2 hb.2.2
 | hand x o=>exact aax g wf hr (ac_ g wf)
 | land x=>exact aaG g wf hc hr
 | sever x y a we=>exact XD g wf hc hr hb.2.2.1.2 hb.2.2.2.2 (by rw[show st.ah.length=b.ah.length from g.rel.len];omega)
 | still=>exact g.mono
def qh.snoc{n:Nat}{ρ:d8}{H:Hp}{vs:Da V}{l:Da BE}(h:qh n ρ H vs l){r t:Addr}{e:BE}(a:H r=some (.lst [.str e.nm,.str e.ow,.int e.wo,.ref t,.int e.bot]))(b:ρ r=some (n,27,e.nm))(c:H t=some (.lst (e.tops.map V.int)))(d:ρ t=some (n,28,e.nm)):qh n ρ H (vs++[.ref r]) (l++[e]):=by
 induction h with
 | nil=>exact .cons a b c d .nil
 | cons a1 a2 a3 a4 _ ih=>exact .cons a1 a2 a3 a4 ih
theorem qh.length{n:Nat}{ρ:d8}{H:Hp}{vs:Da V}{l:Da BE}(h:qh n ρ H vs l):vs.length=l.length:=by
 induction h with
 | nil=>rfl
 | cons _ _ _ _ _ ih=>simp[ih]
def qh.get{n:Nat}{ρ:d8}{H:Hp}{vs:Da V}{l:Da BE}(h:qh n ρ H vs l):∀{i:Nat}{v:V},vs[i]?=some v->∃r t e,v =.ref r/\l[i]?=some e/\H r=some (.lst [.str e.nm,.str e.ow,.int e.wo,.ref t,.int e.bot])/\H t=some (.lst (e.tops.map V.int)):=by
 induction h with
 | nil=>intro i v e;simp at e
 | @cons r t e vs es a1 a2 a3 a4 _ ih=>
  intro i v h;cases i with
  | zero=>simp at h;subst h;exact(r,t,e,Z,Z,a1,a3)
  | succ i=>simp at h;obtain⟨r',t',e',f1,f2,f3⟩:=ih h;exact(r',t',e',f1,by simpa using f2,f3)
def bf.aaH{n:Nat}{ρ:d8}{B:BA}{H:Hp}{b:BS}{vs:Da V}(h:bf n ρ B H b)(g:Gh ρ H)(h1:H B.la=some (.lst vs))(h2:qh n ρ H vs b.bM){r t:Addr}{e:BE}(a:H r=some (.lst [.str e.nm,.str e.ow,.int e.wo,.ref t,.int e.bot]))(b':ρ r=some (n,27,e.nm))(c:H t=some (.lst (e.tops.map V.int)))(d:ρ t=some (n,28,e.nm)):bf n ρ B (upd H B.la (.lst (vs++[.ref r]))) { b with bM:=b.bM++[e] }:=by
 have k:=eV (o:=.lst (vs++[.ref r])) g h.ca;exact(kz k h.cm h.om,h.cm,kz k h.co h.oo,h.co,kz k h.cp h.op,h.cp,(_,aq,(h2.snoc a b' c d).keep k (by decide) (by decide)),h.ca,kz k h.ck h.ok,h.ck,h.ql,
  λi p q e1 e2=>let(a,b,c,d):=h.pt i p q e1 e2;(kz k c a,kz k d b,c,d))
theorem bf.q{K:Fg}{n:Nat}{ρ:d8}{B:BA}{H:Hp}{b:BS}{c:Nat}{st:HS}(h:bf n ρ B H b)(g:eX c st b):QAt K H B.m st:=by
 refine(_,B.lo,B.lp,B.lk,_,h.om,Z,Z,Z,g.rel.own▸aC.of h.oo,aC.of h.op,(?_,λi p e=>?_),g.eF▸aC.of h.ok)
 .rw [aG,h.ql];exact g.rel.len.symm
 .obtain ⟨q,eq,e1,e2,e3,e4⟩:=g.rel.at' e;obtain⟨qq,nD,r1,_,_,_⟩:=h.find eq;exact(qq.1,_,by rw[bP,nD];rfl,.inl (aC.of r1),by rw[e1];rfl,by rw[e2];rfl,by rw[e3];rfl,by rw[e4];rfl)
def adp:Dd->Prop
 | .mishap .. =>True
 | .rise .. =>True
 | .hand .. =>True
 | .land _=>True
 | .sever .. =>True
 | _=>False
structure AlO(st:HS)(d:Dd):Prop where
 one:adp d
 pl:st.ah.length<50
 kl:st.nms.length<900
 al:st.bM.length<900
theorem vc.length{own:Da Str}{as:Da iX}{es:Da BE}(h:vc own as es):as.length=es.length:=by
 induction h with
 | nil=>rfl
 | cons _ _ _ _ _ _ _ _ _ _ ih=>simp[ih]
structure AlL(st:HS)(d:Dd):Prop where
 nk:d.k≠0
 go:∃c',Go c' st/\c'<=90
 pl:st.ah.length<50
 kl:st.nms.length<900
 al:st.bM.length<900
theorem XS{c:Nat}{st:HS}{b:BS}{rs:Da Row}(g:eX c st b)(wf:Wf st)(hc:c<=90)(hr:yr st rs=none):vV b rs/\mD b (di b rs) 0 0:=by
 obtain⟨_,nd,w6,hl⟩:=Ce hr;have rb:vV b rs:=(nd,λr hr=>by obtain⟨m,r1,r2⟩:=qo (w6 r hr);obtain⟨i,p0,q0,e1,e2,k1,k2,k3,k4,k5,k6⟩:=qm g.rel wf m;exact(r1,i,q0,e2,k2,by rw[k4,<-k6];exact r2))
 exact(rb,Rg g.fD rb (g.rel.whole▸hl) g.own (g.whole (by omega)).2)
inductive aaI(K:Fg)(vs:Da V)(H:Hp)(Q:VK)(E:XK):Prop
 |mk(r lo lt:Addr)(ws:Da V)(own:Da Str)(tops:Da Int)(b:Int)(_:vs=[.ref r,.ref lo,.ref lt,.int b])(_:H r=some (.lst ws))(_:iY H ws (dm own tops b))(_:aC K H lo (own.map V.str))(_:aC K H lt (tops.map V.int))(_:tops.length<=own.length)(_:own.length<=1000)(_:0<b)(_:Jm.Sz 9000 b)(_:∀H',aM H H'->Q (.bl true) H')
def Ej(K:Fg):Sp:=bx (aaI K)
def XT{own:Da Str}{tops:Da Int}{b:Int}:dm (own.take tops.length) tops b=dm own tops b:=by
 unfold dm;congr 1
 induction own generalizing tops with
 | nil=>rw[List.take_nil]
 | cons x own ih=>cases tops with
   | nil=>rfl
   | cons t ts=>exact i8 _ ih
def vc.get{own:Da Str}{as:Da iX}{es:Da BE}(h:vc own as es):∀{i:Nat}{a:iX}{e:BE},as[i]?=some a->es[i]?=some e->a.nm=e.nm/\a.ow=e.ow/\a.wo=e.wo/\a.sh=dm own e.tops e.bot/\e.tops.length<=own.length/\0<e.bot/\Jm.Sz 9000 e.bot/\PyData.strOk e.nm=true/\PyData.strOk e.ow=true:=by
 induction h with
 | nil=>intro i a e h1;simp at h1
 | cons a1 a2 a3 a4 a5 a6 a7 a8 a9 _ ih=>
  intro i a e h1 h2;cases i with
  | zero=>simp at h1 h2;subst h1;subst h2;exact(a1,a2,a3,a4,a5,a6,a7,a8,a9)
  | succ i=>simp at h1 h2;exact ih h1 h2
def rJ.got{ρ:d8}{H:Hp}{vs:Da V}{l:Da iX}(h:rJ ρ H vs l):∀{i:Nat}{v:V},vs[i]?=some v->∃r s x ss,v =.ref r/\l[i]?=some x/\H r=some (.tup [.str x.nm,.str x.ow,.int x.wo,.ref s])/\H s=some (.lst ss)/\ρ s=none/\iY H ss x.sh:=by
 induction h with
 | nil=>intro i v e;simp at e
 | @cons r s x ss vs as a1 a2 a3 a4 _ ih=>
  intro i v e;cases i with
  | zero=>simp at e;subst e;exact(r,s,x,ss,Z,Z,a1,a2,a3,a4)
  | succ i=>simp at e;obtain⟨r',s',x',ss',f1,f2,f3⟩:=ih e;exact(r',s',x',ss',f1,by simpa using f2,f3)
def yv(o:Str)(j:Nat)(e:BE):Int:=e.wo*e.tops.getD j 0-(if e.ow=o then e.wo*e.bot else 0)
def oJ(o:Str)(j:Nat)(t:Int×Int)(e:BE):Int×Int:=(t.1*e.bot+yv o j e*t.2,t.2*e.bot)
def iS(es:Da BE)(o:Str)(j:Nat):Int×Int:=es.foldl (oJ o j) (0,1)
def JM(es:Da BE)(e:BE)(o:Str)(j:Nat):iS (es++[e]) o j=oJ o j (iS es o j) e:=by unfold iS;rw[Ho];rfl
structure YS(c:Nat)(st:HS)(b:BS):Prop where
 rel:∀o∈st.own,st.bN.getD (st.own.idxOf o) 0*(iS b.bM o (st.own.idxOf o)).2=(iS b.bM o (st.own.idxOf o)).1*st.prod
 bz:∀e∈b.bM,Jm.Sz (60*c+1) e.bot/\0<e.bot
 tz:∀e∈b.bM,(∀t∈e.tops,0<=t/\t<=e.bot)/\0<=e.wo/\Jm.Sz 60 e.wo
 al:b.bM.length<=c
 oo:∀e∈b.bM,e.ow∈st.own
 mo:Mo c st
theorem afB{c:Nat}{st:HS}(g:Go c st)(wf:Wf st)(hc:c<=90){d:Dd}(hr:tM st d=none)(h0:d.k≠0)(h7:d.k≠7):∃f:Int,(ku st d).bN=st.bN.map (·*f)/\(ku st d).prod=st.prod*f/\(ku st d).own=st.own:=by
 have one:∀{l:Da Int},l=l.map (·*(1:Int)):=λ{l}=>by have:(λx:Int=>x*1)=id:=funext pO;rw[this,List.map_id]
 cases d with
 | sign o=>exact absurd rfl h0
 | land x=>exact absurd rfl h7
 | cast rs=>
  have:=Nt ((g.zx wf (by omega) hr).blend wf);obtain⟨f,hf⟩:∃f,f=aI st / cE st (aI st-bL rs) (aI st) (gC st rs):=(_,rfl)
  rw[<-hf]at this;refine(f,?_,?_,MU _ _)
  .show (gX st rs).bN=_;unfold gX;rw[kq];exact this.1
  .show (gX st rs).prod=_;unfold gX;rw[kq];exact this.2
 | award o a=>obtain⟨ho,h1,h2⟩:=rQ hr;have:=Nt ((g.aw wf (by omega)).blend (o:=o) wf h1 h2);exact(_,this.1,this.2,by show(bu _ _ _ _).own=_;unfold bu;rw[uJ])
 | hand x o=>
  show ∃f:Int,(jb st x o).bN=st.bN.map (·*f)/\(jb st x o).prod=st.prod*f/\(jb st x o).own=st.own;unfold jb;split
  .exact (1,one,(pO _).symm,Z)
  .exact (1,one,(pO _).symm,Z)
 | _=>exact(1,one,(pO _).symm,Z)
def O_(l:Da Int)(f:Int)(j:Nat):(l.map (·*f)).getD j 0=l.getD j 0*f:=by
 rw[dQ,dQ,bP];cases l[j]? with
 | none=>show(0:Int)=0*f;rw[pN]
 | some x=>rfl
def adt(b:BS){d:Dd}(h7:d.k≠7):(uo b d).bM=b.bM:=by
 cases d with
 | land x=>exact absurd rfl h7
 | _=>rfl
theorem afC{c:Nat}{st:HS}{b:BS}{d:Dd}(p:YS c st b)(gd:eX c st b)(g:Go c st)(wf:Wf st)(hc:c<=90)(hr:tM st d=none)(h0:d.k≠0):YS (c+1) (ku st d) (uo b d):=by
 have mo:=afA p.mo g wf hr;by_cases h7:d.k=7
 .obtain ⟨x,rfl⟩:∃x,d =.land x:=by
   cases d with
   | land x=>exact(x,Z)
   | _=>exact absurd h7 (by first|(show ¬ (0:Nat)=7;decide)|(show ¬ (1:Nat)=7;decide)|(show ¬ (2:Nat)=7;decide)|(show ¬ (3:Nat)=7;decide)|(show ¬ (4:Nat)=7;decide)|(show ¬ (5:Nat)=7;decide)|(show ¬ (6:Nat)=7;decide)|(show ¬ (8:Nat)=7;decide)|(show ¬ (9:Nat)=7;decide))
  obtain⟨i,p0,q0,e1,e2,k1,k2,k3,k4,k5,k6⟩:=qm gd.rel wf (qO hr);have hp:=bg e1;have hq:=bg e2;have eb:qi b x=q0:=by unfold qi;rw[<-k2,qN gd.fD.nd e2];rfl
  have eA:(uo b (.land x)).bM=b.bM++[(x,q0.ow,q0.wo,q0.tops,b.bot)] :=by show(yt b x).bM=_;unfold yt;rw[eb]
  have eS:=tQ wf hp;rw[k1]at eS;have S:∀{M:BE->Prop},(∀e∈b.bM,M e)->M (x,q0.ow,q0.wo,q0.tops,b.bot)->∀e∈(uo b (.land x)).bM,M e:=λh1 h2 e he=>by
   rw[eA]at he;rcases dN.mp he with z|z
   .exact h1 e z
   .rw [dw.mp z];exact h2
  have b1:=gd.fD.b1;have eo:(ku st (.land x)).own=st.own:=by show(rM st x).own=_;rw[eS]
  refine(λo ho=>?_,S (λe he=>((p.bz e he).1.mono (by omega),(p.bz e he).2)) (gd.bot.mono (by omega),by show 0<b.bot;omega),S p.tz (gd.fD.t0 q0 hq,by have:=gd.fD.w1 q0 hq;show 0<=q0.wo;omega,by show Jm.Sz 60 q0.wo;rw[k4];exact g.sz wf (by omega) p0 hp),by rw[eA,c7];have:=p.al;show _+1<=_;omega,S (λe he=>eo▸p.oo e he) (by rw[eo];show q0.ow∈_;rw[k3];exact wf.ow p0 hp),mo);rw[eo]at ho ⊢;have ep:(ku st (.land x)).prod=st.prod:=by show(rM st x).prod=_;rw[eS]
  have eu:(ku st (.land x)).bN=mS st p0:=by show(rM st x).bN=_;rw[eS]
  rw[eA,JM,ep,eu];have R:=p.rel o ho;have T:=gd.oW p0 hp q0 hq (k1.trans k2.symm) (st.own.idxOf o);have hj:=qQ ho;have pl:st.bN.length=st.own.length:=wf.oU;have tl:(aT st p0).length=st.own.length:=Ca wf hp;have lg:(gF st p0).length=st.own.length:=by unfold gF;rw[kL,pl,tl];omega
  have gj:(gF st p0).getD (st.own.idxOf o) 0=st.bN.getD (st.own.idxOf o) 0+p0.wo*(aT st p0).getD (st.own.idxOf o) 0:=by unfold gF;exact lV (f:=λu t=>u+p0.wo*t) (by show(0:Int)+p0.wo*0=0;omega) (by rw[pl,tl]) _
  have pj:(mS st p0).getD (st.own.idxOf o) 0=st.bN.getD (st.own.idxOf o) 0+p0.wo*(aT st p0).getD (st.own.idxOf o) 0-(if p0.ow=o then p0.wo*st.prod else 0):=by
   unfold mS;by_cases JN:p0.ow=o
   .rw [JN,ay rfl,dQ,kJ (lg▸hj)];show(gF st p0).getD _ 0-_=_;rw[gj]
   .have ne:st.own.idxOf p0.ow≠st.own.idxOf o:=λe=>JN (by
     have a:st.own[st.own.idxOf o]?=some o:=by rw[a_ hj,List.getElem_idxOf]
     have b:st.own[st.own.idxOf p0.ow]?=some p0.ow:=by rw[a_ (qQ (wf.ow p0 hp)),List.getElem_idxOf]
     rw[e,a]at b;exact(gU b).symm)
    rw[av JN,yb,dQ,yC ne,<-dQ,gj]
  rw[pj];unfold oJ yv;show _*((iS b.bM o (st.own.idxOf o)).2*b.bot)=((iS b.bM o (st.own.idxOf o)).1*b.bot+(q0.wo*q0.tops.getD (st.own.idxOf o) 0-(if q0.ow=o then q0.wo*b.bot else 0))*(iS b.bM o (st.own.idxOf o)).2)*st.prod;rw[k4,k3];generalize st.bN.getD (st.own.idxOf o) 0=u at *;generalize (aT st p0).getD (st.own.idxOf o) 0=t at *;generalize q0.tops.getD (st.own.idxOf o) 0=s at *;generalize (iS b.bM o (st.own.idxOf o)).2=B2 at *;generalize (iS b.bM o (st.own.idxOf o)).1=B1 at *;generalize p0.wo=w at *;split
  .have a1:(u+w*t-w*st.prod)*(B2*b.bot)=(u*B2)*b.bot+w*B2*(t*b.bot)-w*st.prod*(B2*b.bot):=by grind
   rw[a1,R,<-T];grind
  .have a1:(u+w*t-0)*(B2*b.bot)=(u*B2)*b.bot+w*B2*(t*b.bot):=by grind
   rw[a1,R,<-T];grind
 .obtain ⟨f,f1,f2,f3⟩:=afB g wf hc hr h0 h7;have eA:=adt b h7;refine(λo ho=>?_,λe he=>?_,λe he=>by rw[eA]at he;exact p.tz e he,by rw[eA];have:=p.al;omega,λe he=>by rw[eA]at he;rw[f3];exact p.oo e he,mo)
  .rw [f3]at ho ⊢;have R:=p.rel o ho;rw[eA,f1,f2,O_];generalize st.bN.getD (st.own.idxOf o) 0=u at *;generalize iS b.bM o (st.own.idxOf o)=B at *;have:u*f*B.2=(u*B.2)*f:=by grind
   rw[this,R];grind
  .rw [eA]at he;exact((p.bz e he).1.mono (by omega),(p.bz e he).2)
theorem Nu{es:Da BE}{o:Str}{j m:Nat}(h:∀e∈es,Jm.Sz m e.bot/\0<e.bot):Jm.Sz (es.length*m+1) (iS es o j).2/\0<(iS es o j).2:=by
 unfold iS;have:∀(es:Da BE)(t:Int×Int)(k:Nat),(∀e∈es,Jm.Sz m e.bot/\0<e.bot)->Jm.Sz k t.2->0<t.2->Jm.Sz (k+es.length*m) (es.foldl (oJ o j) t).2/\0<(es.foldl (oJ o j) t).2:=λes=>by
  induction es with
  | nil=>intro t k _ h1 h2;exact(h1.mono (by omega),h2)
  | cons e es ih=>intro t k h h1 h2;obtain⟨z,p⟩:=h e cO;have:=ih (oJ o j t e) (k+m) (λx hx=>h x (cR _ hx)) (h1.mul z) (CG h2 p);rw[kT,ig];exact(this.1.mono (by rw[Nat.add_mul];omega),this.2)
 have:=this es (0,1) 1 h (iN (by decide +kernel)) (by decide);exact(this.1.mono (by omega),this.2)
noncomputable def VC(b:BS)(j:Nat):Int:=(b.ah.map λp:BP=>p.wo*p.tops.getD j 0).sum
theorem Nv{α β:Type}{f:α->Int}{g:β->Int}{x y:Int}:∀(ps:Da α)(qs:Da β),ps.length=qs.length->(∀(i:Nat)(p:α)(q:β),ps[i]?=some p->qs[i]?=some q->f p*x=g q*y)->(ps.map f).sum*x=(qs.map g).sum*y
 | [],[],_,_=>by show(0:Int)*x=0*y;rw[pN,pN]
 | p::ps,q::qs,h,r=>by rw[bK,bK,cI,cI,pQ,pQ,r 0 p q rfl rfl,Nv ps qs (by simpa using h) λi a b ha hb=>r (i+1) a b (by simpa using ha) (by simpa using hb)]
 | [],q::qs,h,_=>by simp at h
 | p::ps,[],h,_=>by simp at h
def VD{c:Nat}{st:HS}{b:BS}(g:eX c st b)(wf:Wf st){j:Nat}(hj:j<st.own.length):zy st j*b.bot=VC b j*st.prod:=by rw[Vw wf hj];refine Nv _ _ g.rel.len λi p q ep eq=>?_;obtain⟨p',vH,e1,e2,e3,e4⟩:=g.rel.at eq;rw[ep]at vH;cases vH;have:=g.oW p (bg ep) q (bg eq) e1 j;rw[e3,i7,i7,this]
theorem Ry{e:BE}{o:Str}{j m:Nat}(h1:Jm.Sz m e.bot)(h0:0<e.bot)(h2:∀t∈e.tops,0<=t/\t<=e.bot)(h3:0<=e.wo/\Jm.Sz 60 e.wo):Jm.Sz m (e.tops.getD j 0)/\Jm.Sz (m+61) (yv o j e):=by
 have t:0<=e.tops.getD j 0/\e.tops.getD j 0<=e.bot:=by
  rw[dQ];cases hj:e.tops[j]? with
  | none=>exact(eZ 0,by show 0<=e.bot;omega)
  | some x=>exact h2 x (bg hj)
 have tz:Jm.Sz m (e.tops.getD j 0):=h1.of_le (by omega);refine(tz,?_);unfold yv;split
 .rw [Int.sub_eq_add_neg];exact((h3.2.mul tz).add ((h3.2.mul h1).of_le (y:=e.wo*e.bot) (x:=-(e.wo*e.bot)) (by rw[Int.natAbs_neg];exact aO _))).mono (by omega)
 .rw [yb];exact(h3.2.mul tz).mono (by omega)
theorem XU{es:Da BE}{o:Str}{j m:Nat}(h:∀e∈es,Jm.Sz m e.bot/\0<e.bot)(h2:∀e∈es,(∀t∈e.tops,0<=t/\t<=e.bot)/\0<=e.wo/\Jm.Sz 60 e.wo):Jm.Sz (1+es.length*(m+63)) (iS es o j).1:=by
 unfold iS;have:∀(es:Da BE)(t:Int×Int)(k:Nat),(∀e∈es,Jm.Sz m e.bot/\0<e.bot)->(∀e∈es,(∀t∈e.tops,0<=t/\t<=e.bot)/\0<=e.wo/\Jm.Sz 60 e.wo)->Jm.Sz k t.2->Jm.Sz k t.1->Jm.Sz (k+es.length*(m+63)) (es.foldl (oJ o j) t).1:=λes=>by
  induction es with
  | nil=>intro t k _ _ _ h1;exact h1.mono (by omega)
  | cons e es ih=>intro t k h h2 h3 h4;obtain⟨z,p⟩:=h e cO;obtain⟨y1,y2⟩:=h2 e cO;have gz:=(Ry (o:=o) (j:=j) z p y1 y2).2;have:=ih (oJ o j t e) (k+(m+63)) (λx hx=>h x (cR _ hx)) (λx hx=>h2 x (cR _ hx)) ((h3.mul z).mono (by omega)) (((h4.mul z).mono (show _<=m+61+k by omega)).add (gz.mul h3) |>.mono (by omega));rw[kT,ig];exact this.mono (by rw[Nat.add_mul];omega)
 exact this es (0,1) 1 h h2 (iN (by decide +kernel)) (iN (by decide +kernel))
theorem adu{l:Da Int}{j:Nat}:lz ((l++[0]).map V.int) (if((l.length:Nat):Int)<(j:Int) then((l.length:Nat):Int) else(j:Int))=some (.int (l.getD j 0)):=by
 split
 .rename_i c;rw[dQ,sW (by omega)];refine aE (j:=l.length) ?_;rw[bP,zN (aO _),x_];rfl
 .rename_i c;refine aE (j:=j) ?_;rw[bP];rcases Nat.lt_or_ge j l.length with h|h
  .rw [GY h,dQ,a_ h];rfl
  .have:j=l.length:=by omega
   subst this;rw[zN (aO _),x_,dQ,sW (aO _)];rfl
inductive XW(K:Fg)(vs:Da V)(H:Hp)(Q:VK)(E:XK):Prop
 |mk(n m:Nat)(ρ:d8)(B:BA)(b:BS)(o:Str)(_:vs=[.ref B.m,.str o])(_:bf n ρ B H b)(_:o∈b.own)(_:b.own.length<=100)(_:b.bM.length<=100)(_:m<=10000)(_:∀e∈b.bM,Jm.Sz m e.bot/\0<e.bot)(_:∀e∈b.bM,(∀t∈e.tops,0<=t/\t<=e.bot)/\0<=e.wo/\Jm.Sz 60 e.wo)(_:∀e∈b.bM,e.tops.length<=b.own.length)(_:∀r H',aM H H'->H' r=some (.tup [.int (iS b.bM o (b.own.idxOf o)).1,.int (iS b.bM o (b.own.idxOf o)).2])->Q (.ref r) H')
def JO(K:Fg):Sp:=bx (XW K)
def pu0(own:Da Str):YS 0 (kQ own) (own,[],1,[],[]):=by
 obtain⟨k1,k2,k3,k4,k5,k6⟩:=oB own hs0 rfl (λu hu=>absurd hu (by simp[hs0]));refine(λo ho=>?_,λe he=>absurd he (by simp),λe he=>absurd he (by simp),aO _,λe he=>absurd he (by simp),mo0);show(kQ own).bN.getD _ 0*1=0*_;rw[pN,pO,dQ];cases h:(kQ own).bN[(kQ own).own.idxOf o]? with
 | none=>rfl
 | some u=>exact k6 u (bg h)
inductive XY(c:Nat)(b:BS):Prop
 |mk(x y:Nat)(_:x+y<=c)(_:b.bM.length<=y)(_:Jm.Sz (60*x+1) b.bot)(_:∀e∈b.bM,Jm.Sz (60*x+1) e.bot)
structure AS(k c:Nat)(st:HS)(b:BS):Prop where
 pu:YS k st b
 xy:XY c b
theorem XY.mono{c c':Nat}{b:BS}(h:XY c b)(e:c<=c'):XY c' b:=by obtain⟨x,y,h1,h2,h3,h4⟩:=h;exact(x,y,by omega,h2,h3,h4)
theorem AS.mono{k c c':Nat}{st:HS}{b:BS}(h:AS k c st b)(e:c<=c'):AS k c' st b:=(h.pu,h.xy.mono e)
def cst(d:Dd):Nat:=if d.k=1 then 0 else 1
theorem afD{k c:Nat}{st:HS}{b:BS}{d:Dd}(p:XY c b)(gd:eX k st b)(hk:k<=90):XY (c+cst d) (uo b d):=by
 obtain⟨x,y,h1,h2,h3,h4⟩:=p;have w:=(gd.whole (c:=k) (by omega)).2;have up:∀e∈b.bM,Jm.Sz (60*(x+1)+1) e.bot:=λe he=>(h4 e he).mono (by omega);cases d with
 | sign o=>exact(x,y,by omega,h2,h3,h4)
 | load x' o wo we=>exact(x,y,by omega,h2,h3,h4)
 | cast rs=>exact(x+1,y,by show x+1+y<=c+1;omega,h2,(h3.mul w).mono (by omega),up)
 | award o a=>exact(x+1,y,by show x+1+y<=c+1;omega,h2,(h3.mul w).mono (by omega),up)
 | land z=>
  refine(x,y+1,by show x+(y+1)<=c+1;omega,?_,h3,λe he=>?_)
  .show (b.bM++[_]).length<=_;rw[c7];show b.bM.length+1<=y+1;omega
  .rcases dN.mp (show e∈b.bM++[_]from he)with z|z
   .exact h4 e z
   .rw [dw.mp z];exact h3
 | mishap z a=>exact(x,y,by omega,h2,h3,h4)
 | rise z a=>exact(x,y,by omega,h2,h3,h4)
 | hand z o=>exact(x,y,by omega,h2,h3,h4)
 | sever z z' a we=>exact(x,y,by omega,h2,h3,h4)
 | still=>exact(x,y,by omega,h2,h3,h4)
def VE{k c:Nat}{st:HS}{b:BS}{d:Dd}(p:AS k c st b)(gd:eX k st b)(g:Go k st)(wf:Wf st)(hc:k<=90)(hr:tM st d=none)(h0:d.k≠0):AS (k+1) (c+cst d) (ku st d) (uo b d):=(afC p.pu gd g wf hc hr h0,afD p.xy gd hc)
theorem adv(d:Dd):cst d<=1:=by unfold cst;split <;> omega
def aiB(own:Da Str):AS 0 0 (kQ own) (own,[],1,[],[]):=(pu0 own,(0,0,aO _,aO _,(by show Jm.Sz 1 1;exact iN (by decide +kernel)),λe he=>absurd he (by simp)))
inductive afE(T:TC)(K:Fg)(vs:Da V)(H:Hp)(Q:VK)(E:XK):Prop
 |mk(n m c e kn:Nat)(ρ:d8)(A:HA)(B:BA)(st:HS)(b:BS)(a ln:Addr)(ns:Da Int)(k:Int)(nms:Da Str)(BM:Nat)(_:vs=[.ref a,.int k,.ref A.a,.ref B.m,.ref ln,.int (BM:Int)])(_:n≠m)(_:HH T n ρ A H st)(_:bf m ρ B H b)(_:eX c st b)(_:GW c kn st)(_:AS c e st b)(_:c+BM<=90)(_:kn+100*BM<=900000)(_:st.own.length<100)(_:zg K ρ H a (ns.map V.int))(_:ns.length<=63)(_:0<=k)(_:k<=100000)(_:zg K ρ H ln (nms.map V.str))(_:Nx nms st)(_:nms.length<50)(_:∀ρ' A' B' st' b' H',HH T n ρ' A' H' st'->bf m ρ' B' H' b'->eX (c+BM) st' b'->GW (c+BM) (kn+100*BM) st'->AS (c+BM) (e+BM) st' b'->A'.a=A.a->B'.m=B.m->b'.own=b.own->Nx nms st'->aM (out ρ H) (out ρ' H')->Q .cK H')
def VF(T:TC)(K:Fg):Sp:=bx (afE T K)
inductive XX(T:TC)(K:Fg)(vs:Da V)(H:Hp)(Q:VK)(E:XK):Prop
 |mk(n m:Nat)(ρ:d8)(A:HA)(B:BA)(st:HS)(b:BS)(a ln:Addr)(ns:Da Int)(nms:Da Str)(BM:Nat)(_:vs=[.ref a,.ref A.a,.ref B.m,.ref ln])(_:n≠m)(_:HH T n ρ A H st)(_:bf m ρ B H b)(_:eX 0 st b)(_:GW 0 0 st)(_:AS 0 0 st b)(_:st.own.length<100)(_:zg K ρ H a (ns.map V.int))(_:ns.length<=63)(_:zg K ρ H ln ((nms.take BM).map V.str))(_:Nx nms st)(_:BM<=nms.length)(_:nms.length<50)(_:st.nms=[])(_:∀ρ' A' B' st' b' H',HH T n ρ' A' H' st'->bf m ρ' B' H' b'->eX BM st' b'->GW BM (100*BM) st'->AS BM 0 st' b'->A'.a=A.a->B'.m=B.m->b'.own=b.own->Nx nms st'->aM (out ρ H) (out ρ' H')->Q .cK H')
def JP(T:TC)(K:Fg):Sp:=bx (XX T K)
end L2
set_option autoImplicit false
namespace Law
open PySem L2
theorem gR(n:Nat)(h:n<=1000:=by decide):n<=sizeLine:=by rw[mY];omega
def top(i:Nat):Stmt:=PySem.Challenge.pw_jettison_k66_whole_great_hold_by_a_plain.main.body.getD i (.Pass (0,0,0,0))
section
variable {P:Program}{w:World}{K:Fg}{mg:SO}{base:Heap}{f:Addr}{fd:FuncData}
abbrev qp:Stmt:=top 2
abbrev kD:Da Str:=["one","other"]
abbrev Gf:Da Str:=kD
def w_:aQ Gf kD (aD qp):=c9
theorem Ek(F:At K mg "common_factor" qp f fd):Dn P w K mg base 1 "common_factor" kD WW:=by
 refine F.oA w_ λ_ _ _ _ H _ Q E hr h=>?_;obtain⟨a,b,rfl,ha,hb,q⟩:=h;refine(_,(@cZ.h _ _ _ (ak (Eb fQ (aS jS (qv 1) ai (aZ _)) (au (Vi (i:=0) (j:=1) rfl w_.nd rfl rfl (by decide) rfl rfl (af (qv 1) (af (aL lq (qv 0) (qv 1)) aj)) (by rfl))))
  (au (aX (qv 0))))),?_)
 refine⟨λm σ H'=>∃x y:Int,m=y.toNat/\σ=[some (.int x),some (.int y)]/\H'=H/\0<=x/\0<=y/\Jm.cf x y=Jm.cf a b,(_,a,b,Z,Z,Z,ha,hb,Z),?_⟩;rintro m σ H' ⟨x,y,rfl,rfl,rfl,hx,hy,e⟩;refine(_,Z,_,_,Z,Z,_,Z,?_);refine dX (λc=>?_) (λc=>?_)
 .have c':0<y:=eO c;refine(_,λ_ _ z=>z,?_);refine(_,Z,_,Z,_,Z,_,_,Z,Z,c',_,_,Z,?_);have h1:0<=x % y:=pL _ (by omega);have h2:x % y<y:=zQ _ c';exact(_,(by omega:(x % y).toNat<y.toNat),y,x % y,Z,Z,Z,hy,h1,(Jm.Hu x y c').trans e)
 .have c':¬ 0<y:=qR (lO.mpr c);have ey:y=0:=by omega
  subst ey;rw[Jm.QN x hx]at e;refine(_,Z,?_);rw[e];exact q
abbrev Av:Stmt:=top 18
abbrev yw:Da Str:=["text","signs"]
abbrev VG:Da Str:=yw
def S3:aQ VG yw (aD Av):=c9
def S4(F:At K mg "made_of" Av f fd)(S7:mg "all"=none):Dn P w K mg base 1 "made_of" yw DZ:=by
 refine F.oA S3 λ_ _ _ _ H _ Q E hr h=>?_;obtain⟨⟨cs,signs,rfl,hl,q⟩⟩:=h;refine(_,(@cZ.h _ _ _ (au (aX (aK (UB K rfl) (by rfl) S7 PyProof.Rows.boot_all (af (gM ["sign","signs"] [none,some 1] rfl (ac1 (qv 0)) (λ_ _ _ _=>(aW (i:=0) (show List.Nodup (["sign","signs"] :Da Str)from by decide +kernel))) (λ_ _ _ _=>(CZ T4 (qv 0) (qv 1) (by with_unfolding_all rfl))) rfl (by rfl)) aj))))),?_);refine(_,Z,cs,Z,λAp Bi=>?_);refine W0 (λi out H1=>aM H H1/\out=((cs.take i).map (Fo signs)).map V.bl) hl (aF Bi _,Z) ?_ ?_
 .rintro i c out H1 hx eU ha ⟨g,e⟩;refine(_,Z,_,Z,_,_,Z,Z,ha,g.cJ Bi _,?_);rw[e,List.take_add_one,hx,bQ,bQ];rfl
 rintro out H1 eU ha ⟨g,e⟩;rw[cQ]at e;refine(Ap,cs.map (Fo signs),Z,aC.of (by rw[ha,e]),?_);have e2:(cs.map (Fo signs)).all id=cs.all (Fo signs):=by rw[List.all_map];rfl
 rw[e2];exact q H1 g
abbrev Aw:Stmt:=top 17
abbrev uO:Da Str:=["text"]
abbrev VH:Da Str:=uO
def S9:aQ VH uO (aD Aw):=c9
theorem S_{tk:Tok}(F:At K mg "is_name" Aw f fd)(Cf:Dn P w K mg base 1 "made_of" yw DZ)(bq:mg "len"=none)(Cg:mg "LETTERS"=some (.str "abcdefghijklmnopqrstuvwxyz" tk)):Dn P w K mg base 2 "is_name" uO z_:=by
 refine F.oA S9 λ_ _ _ _ H _ Q E hr h=>?_;obtain⟨⟨cs,rfl,hl,q⟩⟩:=h;refine(_,(@cZ.h _ _ _ (au (aX (M3 (Xu Yr Yr ai (aK L5 (by rfl) bq cX (af (qv 0) aj)) ai) (MZ (bB Cf hr (af (qv 0) (af (aan (v:=.str "abcdefghijklmnopqrstuvwxyz") (by rfl) Cg (_,Z)) aj)))))))),?_);have hz:(tx cs).length<=sizeLine:=by rw[Bv,mY];omega
 refine(_,Z,_,Z,hz,_,_,Z,Z,_,Z,?_);rw[Bv];refine dX (λc=>?_) (λc=>?_)
 .refine (_,_,Z,Z,_,Z,dX (λc2=>?_) (λc2=>?_))
  .refine (_,Z,SA hl λH' g=>?_);have:=q H' g;unfold isName at this;rw[c,c2,Bool.true_and,Bool.true_and]at this;exact this
  .have:=q H (aM.refl _);unfold isName at this;rw[c,lO.mpr c2,Bool.true_and,Bool.false_and]at this;exact this
 .have:=q H (aM.refl _);unfold isName at this;rw[lO.mpr c,Bool.false_and,Bool.false_and]at this;exact(_,Z,aR this)
abbrev rR:Stmt:=top 23
abbrev jA:Da Str:=["amount"]
abbrev HV:Da Str:=jA
def Gg:aQ HV jA (aD rR):=c9
theorem El{e:Ec}(F:At K mg "check_amount" rR f fd):Dn P w K mg base 1 "check_amount" jA (sN (B3 e)):=by refine F.oA Gg λ_ _ _ _ H _ Q E hr h=>?_;obtain⟨⟨a,rfl,h5,q⟩⟩:=h;refine(_,(@cZ.h _ _ _ (au (b_ (aS ud (qv 0) ai (aZ _)) (au g_) br))),?_);exact(_,Z,_,_,Z,Z,_,Z,dX (λc=>h5 (eO c) 0 H (aM.refl _)) λc=>q (by have:=qR (lO.mpr c);omega))
abbrev vd:Stmt:=top 24
abbrev nH:Da Str:=["most","amount"]
abbrev Ny:Da Str:=nH
def J4:aQ Ny nH (aD vd):=c9
theorem HW{e:Ec}(F:At K mg "check_loss" vd f fd)(jB:Dn P w K mg base 1 "check_amount" jA (sN (B3 e))):Dn P w K mg base 2 "check_loss" nH (sN (M5 e)):=by
 refine F.oA J4 λ_ _ _ _ H _ Q E hr h=>?_;obtain⟨⟨m,a,rfl,h5,h6,q⟩⟩:=h;refine(_,(@cZ.h _ _ _ (ak (cu (bB jB hr (af (qv 1) aj)))
  (au (b_ (aS jS (qv 1) (qv 0) (aZ _)) (au g_) br)))),?_)
 exact(_,Z,⟨(a,Z,h5,λh1=>(_,Z,_,Z,_,_,Z,Z,_,Z,dX (λc=>h6 h1 (eO c) 0 H (aM.refl _)) λc=>q h1 (by have:=qR (lO.mpr c);omega)))⟩)
abbrev ve:Stmt:=top 22
abbrev rS:Da Str:=["rows"]
abbrev Nz:Da Str:=rS.append ["amounts","name","amount"]
def pV:aQ Nz rS (aD ve):=c9
theorem J5(F:At K mg "amounts_of" ve f fd)(bq:mg "len"=none):Dn P w K mg base 1 "amounts_of" rS (UY K):=by
 refine F.oA pV λ_ _ _ _ H _ Q E hr h=>?_;obtain⟨⟨l,us,rs,rfl,hl,hR,nd,hne,hle,q⟩⟩:=h;refine(_,(@cZ.h _ _ _ (ak (aV (i:=1) pV.nd tP)
  (ak (fk fQ rfl (dI K (qv 0)) (je K (n:=2) rfl (cT (aW (i:=2) pV.nd) (cT (aW (i:=3) pV.nd) jc))) (ak (b_ (zj (M1 (bX hr) (qv 2) (qv 1))) (au g_) br)
  (au (qM (bX hr) (qv 1) (qv 2) (qv 3) rfl))))
  (ak (b_ (aS dZ (aK ye (by rfl) bq cX (af (qv 1) aj)) ai (aZ _)) (au g_) br)
  (au (aX (qv 1))))))),?_)
 intro d hd;have g0:=aF hd (.dK []);have hd0:upd H d (.dK []) d=some (.dK (iZ (rs.take 0))):=aq;generalize upd H d (.dK [])=H0 at *;have NB:=hR.length;refine(_,Z,l,Z,(us,g0.seq hl),?_);refine lQ (K:=K) (xs:=us) (λi σ H'=>aM H H'/\H' d=some (.dK (iZ (rs.take i)))/\∃s2 s3,σ=[some (.ref l),some (.ref d),s2,s3]) (g0,hd0,_,_,Z) (λi σ H' _ hp=>hp.1.seq hl) ?_ ?_
 .rintro i x σ H' hx ⟨g,hd',s2,s3,rfl⟩;obtain⟨a,r,rfl,er,ha⟩:=hR.get hx;have hnot:r.1∉(rs.take i).map (·.1):=by rw[zV];exact lE nd (by rw[bP,er];rfl)
  have va:(iZ (rs.take i)).length<sizeLine:=by rw[Aj,kR];exact dO (by omega)
  refine(a,_,Z,cU.of (g _ _ ha),Z,_,_,Z,_,_,Z,Z,?_);refine(_,Z,_,Z,d,_,Z,cD.k (k:=Sum.inr r.1) hd',_,Z,?_);rw[Jk hnot];refine aR ?_;refine(_,Z,_,Z,_,Z,d,_,Z,uY.k (k:=Sum.inr r.1) hd' va,g.cJ hd _,?_,_,_,Z);rw[aq,qc _ (Jk hnot),take_snoc er];unfold iZ;rw[bQ];rfl
 rintro σ H' ⟨g,hd',s2,s3,rfl⟩;rw[NB,cQ]at hd';refine(_,Z,d,_,Z,hd',Z,_,Z,?_);rw[Aj];have hpos:0<rs.length:=List.length_pos_iff.mpr hne;rw[dM (λe=>by have:=V.int.inj e;omega)];exact aR (_,Z,q d H' g hd hd')
abbrev qt:Stmt:=top 5
abbrev m9:Da Str:=["step","tops"]
abbrev Gi:Da Str:=m9.append ["top"]
def qu:aQ Gi m9 (aD qt):=c9
theorem Em(F:At K mg "factor_of_all" qt f fd)(jf:Dn P w K mg base 1 "common_factor" kD WW):Dn P w K mg base 2 "factor_of_all" m9 (UZ K):=by
 refine F.oA qu λ_ _ _ _ H _ Q E hr h=>?_;obtain⟨⟨s,l,ts,rfl,hl,h0,h1,q⟩⟩:=h;refine(_,(@cZ.h _ _ _ (ak (fk fQ rfl (dI K (qv 1)) (aW (i:=2) qu.nd) (au (aV (i:=0) qu.nd (bB jf hr (af (qv 2) (af (qv 0) aj))))))
  (au (aX (qv 0))))),?_)
 refine(_,Z,l,Z,(_,hl),?_);refine lQ (K:=K) (xs:=ts.map V.int) (λi σ H'=>H'=H/\0<=rK s (ts.take i)/\∃s2,σ=[some (.int (rK s (ts.take i))),some (.ref l),s2]) (Z,h0,_,Z) (λi σ H' _ hp=>hp.1▸hl) ?_ ?_
 .rintro i x σ H' hx ⟨rfl,hf,s2,rfl⟩;obtain⟨t,rfl,et⟩:=h_ hx;have e1:rK s (ts.take (i+1))=Jm.cf t (rK s (ts.take i)):=by unfold rK;rw[take_snoc et,Ho];rfl
  refine(_,Z,_,Z,t,_,Z,h1 t (bg et),hf,Z,?_,some (.int t),?_)
  .rw [e1];unfold Jm.cf;omega
  .rw [e1];rfl
 rintro σ H' ⟨rfl,hf,s2,rfl⟩;rw[aG,cQ];exact(_,Z,q)
abbrev tR:Stmt:=inClass (top 4) 0
abbrev vf:Da Str:=["self"]
abbrev J6:Da Str:=vf
def HX:aQ J6 vf (aD tR):=c9
def HY{T:TC}(F:Je K mg "Bottom" T.bot "Bottom.__init__" tR f fd)(X:Txt K T):Cn P w K mg base 1 "Bottom" T.bot vf (QY T):=by
 refine F.oA HX λ_ _ _ _ H _ Q E hr h=>?_;obtain⟨⟨p,dx,rfl,hp,q⟩⟩:=h;refine(_,(@cZ.h _ _ _ (ak (d7 K (qv 0) (ia aj))
  (ak (d7 K (qv 0) ai)
  (au (d7 K (qv 0) tP))))),?_)
 refine((gR 0),λl hl=>?_);have n1:p≠l:=aJ hp hl;refine(_,Z,p,T.bot,dx,_,Z,by rw[aA n1];exact hp,X.cB,X.bst,by show 0<1000;decide,?_);refine(_,Z,p,T.bot,dx,_,Z,aq,X.cB,X.QW,by show 1<1000;decide,?_);intro d hd;have n2:d≠p:=λe=>by rw[e,aq]at hd;cases hd
 have n3:d≠l:=λe=>by rw[e,aA (cC n1),aA (cC n1),aq]at hd;cases hd
 have hd0:H d=none:=by rw[aA n2,aA n2,aA n3]at hd;exact hd
 refine(_,Z,p,T.bot,dx,_,Z,by rw[aA (cC n2)];exact aq,X.cB,X.UR,by show 2<1000;decide,?_);refine q l d _ hl hd0 (cC n3) (λb o e hb=>?_) aq ?_ ?_
 .rw [aA hb,aA (aJ e hd0),aA hb,aA hb,aA (aJ e hl)];exact e
 .rw [aA (cC n1),aA (cC n3),aA (cC n1),aA (cC n1)];exact aq
 .rw [aA n2];exact aq
abbrev xg:Stmt:=inClass (top 20) 0
abbrev yK:Da Str:=["self","name","owner","worth","weight","scale","row"]
abbrev Pa:Da Str:=yK
def NC:aQ Pa yK (aD xg):=c9
def ND{T:TC}(F:Je K mg "Part" T.part "Part.__init__" xg f fd)(X:Txt K T)(dJ:mg "list"=none):Cn P w K mg base 1 "Part" T.part yK (HC T K):=by
 refine F.oA NC λ_ _ _ _ H _ Q E hr h=>?_;obtain⟨⟨p,dx,l,pt,rfl,hp,hl,q⟩⟩:=h;refine(_,(@cZ.h _ _ _ (ak (d7 K (qv 0) (qv 1))
  (ak (d7 K (qv 0) (qv 2))
  (ak (d7 K (qv 0) (qv 3))
  (ak (d7 K (qv 0) (qv 4))
  (ak (d7 K (qv 0) (qv 5))
  (au (d7 K (qv 0) (kC (mz K) (by rfl) dJ wc (af (qv 6) aj)))))))))),?_)
 refine(_,Z,_,Z,p,T.part,dx,_,Z,hp,X.cP,X.UP,by show 0<1000;decide,?_);refine(_,Z,_,Z,p,T.part,dx,_,Z,aq,X.cP,X.pow,by show 1<1000;decide,?_);refine(_,Z,_,Z,p,T.part,dx,_,Z,aq,X.cP,X.wM,by show 2<1000;decide,?_);refine(_,Z,_,Z,p,T.part,dx,_,Z,aq,X.cP,X.UQ,by show 3<1000;decide,?_);refine(_,Z,_,Z,p,T.part,dx,_,Z,aq,X.cP,X.Jf,by show 4<1000;decide,?_);simp only[qG];have hl1:∀o,aC K (upd H p o) l (pt.row.map V.int):=λo=>by
  rcases hl with(h|⟨ob,h⟩)|h
  .exact .inl (.inl (aA (jR h hp (by intro z;cases z))▸h))
  .exact .inl (.inr (ob,aA (jR h hp (by intro z;cases z))▸h))
  .exact .inr h
 refine(_,Z,l,_,Z,.inl (hl1 _),λr hr2=>?_);have n1:r≠p:=λe=>by rw[e,aq]at hr2;cases hr2
 refine(_,Z,p,T.part,dx,_,Z,by rw[aA (cC n1)];exact aq,X.cP,X.Mw,by show 5<1000;decide,?_);have hr0:H r=none:=by rw[aA n1]at hr2;exact hr2
 refine q r _ hr0 (λb o e hb=>?_) aq ?_
 .rw [aA hb,aA (aJ e hr0),aA hb];exact e
 .rw [aA n1];exact aq
abbrev tS:Stmt:=inClass (top 4) 1
abbrev pW:Da Str:=["self","step"]
abbrev J7:Da Str:=pW
def HZ:aQ J7 pW (aD tS):=c9
def H_{T:TC}(F:ja K T.bot "grow" "Bottom.grow" tS f fd)(X:Txt K T):Mn P w K mg base 1 T.bot "grow" pW (U0 T):=by
 refine F.oA HZ λ_ _ _ _ H _ Q E hr h=>?_;obtain⟨⟨n,ρ,A,st,s,rfl,g,h,hl,z1,z2,q⟩⟩:=h;refine(_,(@cZ.h _ _ _ (au (jk (aS jS (qv 1) ai (aZ _)) (ak (cu (lX qb p_ qa fh (aN K (qv 0)) (af (qv 1) aj)))
  (ak (rO K (qv 0) (qv 1) ZY)
  (au (d7 K (qv 0) tP)))) br))),?_)
 refine(λσ' H'=>Q .cK H',(_,Z,_,_,Z,Z,_,Z,dX (λc=>?_) (λc=>?_)),λ_ _ z=>z)
 .have c':1<s:=eO c;refine(_,Z,A.bt,T.bot,A.db,_,_,Z,h.kP,X.cB,X.bst,Z,.inl (Z,_,aC.of h.qJ),_,Z,A.sp,_,_,Z,Z,h.qJ,by rw[aG];exact dO hl,?_);rw[show st.stp.map V.int++[V.int s]=(st.stp++[s]).map V.int from by rw[bQ];rfl];have h1:=h.acu g (st.stp++[s]);have g1:=g.wr (a:=A.sp) (o:=.lst ((st.stp++[s]).map V.int)) rfl;have F1:Fr n ρ H ρ (upd H A.sp (.lst ((st.stp++[s]).map V.int))):=Fr.write h.jK;generalize upd H A.sp (.lst ((st.stp++[s]).map V.int))=H1 at *;refine(_,Z,A.bt,T.bot,A.db,_,_,Z,h1.kP,X.cB,X.QW,Z,_,Z,_,_,Z,Z,gi z1 z2,A.db,_,h1.kP,by show 3<1000;decide,?_);intro kn hkn;have nb:kn≠A.bt:=λe=>by rw[e,aq]at hkn;cases hkn
  have En:H1 kn=none:=by rw[aA nb]at hkn;exact hkn
  have jL:ρ kn=none:=g1.none En;refine(_,Z,A.bt,T.bot,A.db,_,Z,by rw[aA (cC nb)];exact aq,X.cB,X.UR,by show 3<1000;decide,?_);have eH:upd (upd (upd H1 A.bt (.ins T.bot A.db (iK "product" (.int (st.prod*s)) (Ac A.sp st.prod A.kn)))) kn (.dK [])) A.bt (.ins T.bot A.db (iK "known" (.ref kn) (iK "product" (.int (st.prod*s)) (Ac A.sp st.prod A.kn))))=upd (upd H1 kn (.dK [])) A.bt (.ins T.bot A.db (Ac A.sp (st.prod*s) kn)):=by rw[lS (cC nb),qG];rfl
  have k2:Kp n ρ (b7 ρ kn (n,9,⟨#[]⟩)) H1 (upd H1 kn (.dK [])) (λ_=>true):=((aF En _).tups,λb t x o _ c e=>(aF En _ _ _ e,cg (aJ e En)▸c))
  have h2:=h1.same k2;have g2:Gh (b7 ρ kn (n,9,⟨#[]⟩)) (upd H1 kn (.dK [])):=(g1.alloc En).color aq rfl;have F2:Fr n ρ H1 (b7 ρ kn (n,9,⟨#[]⟩)) (upd H1 kn (.dK [])):=Fr.color En (aF En _);have h3:=h2.acw g2 (st.prod*s) kn aq c6;have es:fV st s={ { st with stp:=st.stp++[s] }with prod:=st.prod*s,kn:=0 }:=by unfold fV;rw[ay c']
  rw[es]at q;show Q .cK _;refine(show _=_ from eH)▸?_;exact q _ _ _ (g2.wr rfl) h3 rfl (F1.trans (F2.trans (Fr.write h2.jJ)))
 .have c':¬ 1<s:=qR (lO.mpr c);have es:fV st s=st:=by unfold fV;rw[av c']
  rw[es]at q;exact q ρ A H g h rfl Fr.refl
abbrev qw:Stmt:=inClass (top 21) 19
abbrev fR:Da Str:=["self","owner"]
abbrev Gj:Da Str:=fR
def Eo:aQ Gj fR (aD qw):=c9
def C9{T:TC}{e:Ec}(F:ja K T.hold "place_of" "Hold.place_of" qw f fd)(X:Txt K T):Mn P w K mg base 1 T.hold "place_of" fR (sN (An T e)):=by
 refine F.oA Eo λ_ _ _ _ H _ Q E hr h=>?_;obtain⟨⟨n,ρ,A,st,o,rfl,h,q2,q⟩⟩:=h;refine(_,(@cZ.h _ _ _ (ak (b_ (zj (BZ (bX hr) (qv 1) (aN K (qv 0)))) (au g_) br)
  (au (aX (bJ (bX hr) (aN K (qv 0)) (qv 1)))))),?_)
 refine(_,Z,_,Z,A.a,T.hold,A.dx,_,_,Z,h.oa,X.cH,X.hpl,Z,A.pl,_,Z,cD.k (k:=Sum.inr o) h.jj,_,Z,?_);by_cases ho:o∈st.own
 .have hv:=QX (i:=0) ho;rw[hv];refine aR ?_;refine(_,Z,A.a,T.hold,A.dx,_,_,Z,h.oa,X.cH,X.hpl,Z,_,Z,A.pl,_,Z,hv▸cD.k (k:=Sum.inr o) h.jj,?_);rw[Nat.zero_add];exact q ho
 .rw [rG ho];exact fZ <| q2 ho 0 H (aM.refl _)
abbrev rT:Stmt:=inClass (top 21) 20
abbrev fJ:Da Str:=["self","name"]
abbrev Ia:Da Str:=fJ
def Gk:aQ Ia fJ (aD rT):=c9
def Ep{T:TC}{e:Ec}(F:ja K T.hold "part_of" "Hold.part_of" rT f fd)(X:Txt K T):Mn P w K mg base 1 T.hold "part_of" fJ (sN (nE T e)):=by
 refine F.oA Gk λ_ _ _ _ H _ Q E hr h=>?_;obtain⟨⟨n,ρ,A,st,x,rfl,hA,nd,q2,k⟩⟩:=h;refine(_,(@cZ.h _ _ _ (ak (b_ (zj (BZ (bX hr) (qv 1) (aN K (qv 0)))) (au g_) br)
  (au (aX (bJ (bX hr) (aN K (qv 0)) (qv 1)))))),?_)
 refine(_,Z,_,Z,A.a,T.hold,A.dx,_,_,Z,hA.oa,X.cH,X.hab,Z,A.ab,_,Z,cD.k (k:=Sum.inr x) hA.d9,_,Z,?_);by_cases hx:∃p∈st.ah,p.nm=x
 .obtain ⟨p,hp,rfl⟩:=hx;obtain⟨i,hi,ep⟩:=List.mem_iff_getElem.mp hp;have vH:st.ah[i]?=some p:=by rw[a_ hi,ep]
  obtain⟨qq,eq,_⟩:=hA.find vH;have hv:=v7 nd vH eq;rw[hv];refine aR ?_;exact(_,Z,A.a,T.hold,A.dx,_,_,Z,hA.oa,X.cH,X.hab,Z,_,Z,A.ab,_,Z,hv▸cD.k (k:=Sum.inr p.nm) hA.d9,k i p qq rfl vH eq)
 .have hn:∀p∈st.ah,p.nm≠x:=λp hp z=>hx (p,hp,z);rw[wN hn];exact fZ <| q2 hn 0 H (aM.refl _)
abbrev oX:Stmt:=inClass (top 21) 21
abbrev jN:Da Str:=["self","name"]
abbrev Er:Da Str:=jN
def C_:aQ Er jN (aD oX):=c9
def Ci{T:TC}{e:Ec}(F:ja K T.hold "check_new" "Hold.check_new" oX f fd)(X:Txt K T)(qP:Dn P w K mg base 2 "is_name" uO z_):Mn P w K mg base 3 T.hold "check_new" jN (sN (yJ T e)):=by
 refine F.oA C_ λ_ _ _ _ H _ Q E hr h=>?_;obtain⟨⟨n,ρ,A,st,x,rfl,h,hx,q2,q⟩⟩:=h;refine(_,(@cZ.h _ _ _ (ak (b_ (eY (d_ (bB qP hr (af (qv 1) aj)))) (au g_) br)
  (au (b_ (zj (M1 (bX hr) (qv 1) (aN K (qv 0)))) (au g_) br)))),?_)
 refine(_,Z,Fp (cs:=x.cps.toList) hx λH1 g1=>(_,Z,?_));cases hn:isName x.cps.toList with
 | false=>exact fZ <| q2 0 (by unfold newR isNm;rw[hn];rfl) 0 H1 g1
 | true=>
  refine aR ?_;have h1:=h.mono g1;refine(_,Z,_,Z,A.a,T.hold,A.dx,_,_,Z,h1.oa,X.cH,X.hnm,Z,A.nm,_,Z,cD.k (k:=Sum.inr x) h1.uG,_,Z,?_);by_cases hm:x∈st.nms
  .rw [My hm];exact fZ <| q2 1 (by unfold newR isNm;rw[hn,ay rfl,ay hm]) 0 H1 g1
  .rw [BH hm];exact aR (q (BV hn hm) H1 g1)
abbrev vg:Stmt:=inClass (top 21) 11
abbrev rV:Da Str:=["self"]
abbrev NF:Da Str:=rV
def J8:aQ NF rV (aD vg):=c9
theorem J9{T:TC}(F:ja K T.hold "parts" "Hold.parts" vg f fd)(X:Txt K T):Mn P w K mg base 1 T.hold "parts" rV (Q0 T):=by
 refine F.oA J8 λ_ _ _ _ H _ Q E hr h=>?_;obtain⟨⟨n,ρ,A,st,rfl,h,hl,q⟩⟩:=h;refine(_,(@cZ.h _ _ _ (au (aX (FZ (gM ["part"] [none] rfl (zh (aN K (qv 0))) (λ_ _ _ _=>(aW (i:=0) (show List.Nodup (["part"] :Da Str)from by decide +kernel))) (λ_ _ _ _=>(f7 (af (aN K (qv 0)) (af (aN K (qv 0)) (af (aN K (qv 0)) (af (aN K (qv 0)) aj)))))) rfl (by rfl)))))),?_);refine(A.ab,_,h.d9,λo=>?_);refine(_,Z,A.a,T.hold,A.dx,_,_,Z,fj h.d9 h.oa (λk z=>by cases z),X.cH,X.hab,Z,A.ab,o,_,Z,aq,λAp Bi=>?_);have el:=v5 h.ql;refine iD (n:=st.ah.length) 0 (λi out H1=>aM (upd H A.ab (.fX o (.dK (cY st.ah A.qs)))) H1/\kW H1 out (st.ah.take i)) (by omega) (aF Bi _,.nil) (λi out H1 hi _ hp=>(hp.1 _ _ aq,el▸hi)) (λout H1 _ hp=>(hp.1 _ _ aq,el▸aO _)) ?_ ?_
 .rintro i x out H1 H2 hi eU ha ⟨g,hP⟩ ⟨rfl,kv,hkv,rfl⟩;have ep:=a_ hi;obtain⟨qq,eq,h1,h2,_⟩:=h.find ep;rw[vZ ep eq]at hkv;cases hkv;have hq:=g _ _ (fj h.d9 h1 (λk z=>by cases z));refine(_,Z,qq.1,T.part,qq.2.1,_,_,Z,hq,X.cP,X.UP,Z,_,Z,qq.1,T.part,qq.2.1,_,_,Z,hq,X.cP,X.pow,Z,_,Z,qq.1,T.part,qq.2.1,_,_,Z,hq,X.cP,X.wM,Z,_,Z,qq.1,T.part,qq.2.1,_,_,Z,hq,X.cP,X.UQ,Z,(gR 4),λt ht=>?_);have g1:=aF ht (CU st.ah[i]);refine(g1 _ _ ha,(g.trans g1).cJ Bi _,?_);rw[take_snoc ep];exact((hP.mono g1.tups).snoc aq).mono (jY (.inr (_,g1 _ _ ha,Z)))
 rintro out H1 eU ha ⟨g,hP⟩;rw[cQ]at hP;have hz:=g _ _ (aq (H:=H) (a:=A.ab) (o:=.fX o (.dK (cY st.ah A.qs))));have na:Ap≠A.ab:=λe=>by rw[e,hz]at ha;cases ha
 exact(hz,q Ap out _ (tF h.d9 g) (qg h.d9 Bi) (aA na▸ha) (hP.mono (jY (.inr (_,hz,Z)))))
abbrev vh:Stmt:=inClass (top 21) 13
abbrev jO:Da Str:=["self"]
abbrev NG:Da Str:=jO
def J_:aQ NG jO (aD vh):=c9
theorem Ka{T:TC}(F:ja K T.hold "whole" "Hold.whole" vh f fd)(X:Txt K T)(fT:mg "sum"=none):Mn P w K mg base 1 T.hold "whole" jO (ze T):=by
 refine F.oA J_ λ_ _ _ _ H _ Q E hr h=>?_;obtain⟨⟨n,ρ,A,st,rfl,h,hl,q⟩⟩:=h;refine(_,(@cZ.h _ _ _ (au (aX (aK (kh K rfl) (by rfl) fT wg (af (FZ (gM ["part"] [none] rfl (zh (aN K (qv 0))) (λ_ _ _ _=>(aW (i:=0) (show List.Nodup (["part"] :Da Str)from by decide +kernel))) (λ_ _ _ _=>(aN K (qv 0))) rfl (by rfl))) aj))))),?_);refine(A.ab,_,h.d9,λo=>?_);refine(_,Z,A.a,T.hold,A.dx,_,_,Z,fj h.d9 h.oa (λk z=>by cases z),X.cH,X.hab,Z,A.ab,o,_,Z,aq,λAp Bi=>?_);have el:=v5 h.ql;refine iD (n:=st.ah.length) 0 (λi out H1=>aM (upd H A.ab (.fX o (.dK (cY st.ah A.qs)))) H1/\out=((st.ah.take i).map (·.wo)).map V.int) (by omega) (aF Bi _,Z) (λi out H1 hi _ hp=>(hp.1 _ _ aq,el▸hi)) (λout H1 _ hp=>(hp.1 _ _ aq,el▸aO _)) ?_ ?_
 .rintro i x out H1 H2 hi eU ha ⟨g,e⟩ ⟨rfl,kv,hkv,rfl⟩;have ep:=a_ hi;obtain⟨qq,eq,h1,h2,_⟩:=h.find ep;rw[vZ ep eq]at hkv;cases hkv;have hq:=g _ _ (fj h.d9 h1 (λk z=>by cases z));refine(_,Z,qq.1,T.part,qq.2.1,_,_,Z,hq,X.cP,X.wM,Z,ha,g.cJ Bi _,?_);rw[take_snoc ep,e,bQ,bQ];rfl
 rintro out H1 eU ha ⟨g,e⟩;rw[cQ]at e;have hz:=g _ _ (aq (H:=H) (a:=A.ab) (o:=.fX o (.dK (cY st.ah A.qs))));have na:Ap≠A.ab:=λe=>by rw[e,hz]at ha;cases ha
 exact(hz,Ap,st.ah.map (λp:Pt=>p.wo),Z,aC.of (by rw[aA na,ha,e]),q _ (tF h.d9 g))
abbrev lG:Stmt:=inClass (top 21) 25
abbrev iF:Da Str:=["self","tops"]
abbrev Ax:Da Str:=iF
def zz:aQ Ax iF (aD lG):=c9
theorem zA{T:TC}(F:ja K T.hold "beyond_common" "Hold.beyond_common" lG f fd)(X:Txt K T)(jv:mg "zip"=none):Mn P w K mg base 1 T.hold "beyond_common" iF (SN T K):=by
 refine F.oA zz λ_ _ _ _ H _ Q E hr h=>?_;obtain⟨⟨n,ρ,A,st,l,tops,rfl,h,hS,YT,hle,q⟩⟩:=h;refine(_,(@cZ.h _ _ _ (au (aX (gM ["top","common"] [none,none] rfl (tN K (by rfl) jv (af (qv 1) (af (aN K (qv 0)) aj))) (λ_ _ _ _=>(je K (n:=2) rfl (cT (aW (i:=0) (show List.Nodup (["top","common"] :Da Str)from by decide +kernel)) (cT (aW (i:=1) (show List.Nodup (["top","common"] :Da Str)from by decide +kernel)) jc)))) (λ_ _ _ _=>(aL j_ (qv 0) (qv 1))) rfl (by rfl))))),?_);refine(_,Z,_,Z,A.a,T.hold,A.dx,_,_,Z,h.oa,X.cH,X.BF,Z,_,_,_,_,_,_,Z,.lst hS,.lst (aC.of h.jV),λAp Bi=>?_);refine yZ (K:=K) (n:=tops.length) [0,1] (λi out H1=>aM H H1/\out=(List.zipWith (λt c=>t-c) (tops.take i) (st.bU.take i)).map V.int) (by decide) (by omega) (aF Bi _,Z) (λi out H1 hi _ hp=>(hp.1.seq hS,hp.1.seq (aC.of h.jV),by rw[aG];exact hi,by rw[aG];omega))
  (λout H1 _ hp=>(hp.1.seq hS,hp.1.seq (aC.of h.jV),.inl (by rw[aG];exact aO _))) ?_ ?_
 .rintro i x out H1 H2 hi eU ha ⟨g,e⟩ ⟨p,x1,y1,hp,rfl,rfl,e1,e2⟩;obtain⟨t,rfl,et⟩:=h_ e1;obtain⟨c,rfl,ec⟩:=h_ e2;have g1:=aF hp (.tup [.int t,.int c]);refine(p,_,Z,cU.of aq,Z,_,Z,_,Z,_,_,Z,Z,g1 _ _ ha,(g.trans g1).cJ Bi _,?_);rw[nv _ et ec,e,bQ];rfl
 rintro out H1 eU ha ⟨g,e⟩;rw[cQ,YT,cQ]at e;exact q Ap H1 g Bi (by rw[ha,e];rfl)
abbrev rW:Stmt:=inClass (top 21) 24
abbrev jC:Da Str:=["self","part"]
abbrev Ib:Da Str:=jC
def Gm:aQ Ib jC (aD rW):=c9
theorem Gn{T:TC}(F:ja K T.hold "tops_of" "Hold.tops_of" rW f fd)(X:Txt K T)(jv:mg "zip"=none):Mn P w K mg base 1 T.hold "tops_of" jC (CV T):=by
 refine F.oA Gm λ_ _ _ _ H _ Q E hr h=>?_;obtain⟨⟨n,ρ,A,st,ip,pt,qq,rfl,h,wf,ep,eq,q⟩⟩:=h;obtain⟨h1,h2,_⟩:=h.opt ip pt qq ep eq;have fc:=bg ep;refine(_,(@cZ.h _ _ _ (au (aX (gM ["own","common","part"] [none,none,some 1] rfl (tN K (by rfl) jv (af (aN K (qv 1)) (af (aN K (qv 0)) aj))) (λ_ _ _ _=>(je K (n:=2) rfl (cT (aW (i:=0) (show List.Nodup (["own","common","part"] :Da Str)from by decide +kernel)) (cT (aW (i:=1) (show List.Nodup (["own","common","part"] :Da Str)from by decide +kernel)) jc)))) (λ_ _ _ _=>(aL cV (aL gJ (aN K (qv 2)) (qv 0)) (qv 1))) rfl (by rfl))))),?_);have erl:pt.row.length=st.bU.length:=by rw[wf.rows pt fc,wf.gk]
 have hcl:st.bU.length<=100:=wf.gk▸wf.lR;refine(_,Z,qq.1,T.part,qq.2.1,_,_,Z,h1,X.cP,X.Mw,Z,_,Z,A.a,T.hold,A.dx,_,_,Z,h.oa,X.cH,X.BF,Z,_,_,_,_,_,_,Z,.lst (aC.of h2),.lst (aC.of h.jV),λAp Bi=>?_);refine yZ (K:=K) (n:=pt.row.length) [0,1] (λi out H1=>aM H H1/\out=(List.zipWith (λr c=>pt.sc*r+c) (pt.row.take i) (st.bU.take i)).map V.int) (by decide) (by omega) (aF Bi _,Z) (λi out H1 hi _ hp=>(hp.1.seq (aC.of h2),hp.1.seq (aC.of h.jV),by rw[aG];exact hi,by rw[aG];omega))
  (λout H1 _ hp=>(hp.1.seq (aC.of h2),hp.1.seq (aC.of h.jV),.inl (by rw[aG];exact aO _))) ?_ ?_
 .rintro i x out H1 H2 hi eU ha ⟨g,e⟩ ⟨p,x1,y1,hp,rfl,rfl,e1,e2⟩;obtain⟨t,rfl,et⟩:=h_ e1;obtain⟨c,rfl,ec⟩:=h_ e2;have g1:=aF hp (.tup [.int t,.int c]);have s1:Jm.Sz 8000 pt.sc:=Jm.Sz.mw (by have:=wf.rE pt fc;have:=wf.gq;omega) (wf.rE pt fc).2 wf.big;have s2:Jm.Sz 8000 t:=Jm.Sz.mw (wf.oV pt fc t (bg et)).1 (wf.oV pt fc t (bg et)).2 wf.big;refine(p,_,Z,cU.of aq,Z,_,Z,qq.1,T.part,qq.2.1,_,_,Z,(g.trans g1) _ _ h1,X.cP,X.Jf,Z,_,Z,_,_,Z,Z,gi s1 s2,_,Z,_,_,Z,Z,g1 _ _ ha,(g.trans g1).cJ Bi _,?_);rw[nv _ et ec,e,bQ];rfl
 rintro out H1 eU ha ⟨g,e⟩;rw[cQ,erl,cQ]at e;exact q Ap H1 g Bi (by rw[ha,e];rfl)
abbrev xh:Stmt:=inClass (top 21) 22
abbrev pH:Da Str:=["self","part"]
abbrev Pb:Da Str:=pH
def NH:aQ Pb pH (aD xh):=c9
theorem NI{T:TC}(F:ja K T.hold "stow" "Hold.stow" xh f fd)(X:Txt K T):Mn P w K mg base 1 T.hold "stow" pH (MA T):=by
 refine F.oA NH λ_ _ _ _ H _ Q E hr h=>?_;obtain⟨⟨n,ρ,A,st,qq,p,rfl,hh,h1,h2,c1,c2,hn,wf',q⟩⟩:=h;have h:=hh.h;refine(_,(@cZ.h _ _ _ (ak (qM (bX hr) (aN K (qv 0)) (aN K (qv 1)) (qv 1) rfl)
  (au (qM (bX hr) (aN K (qv 0)) (aN K (qv 1)) gG rfl)))),?_)
 have Cj:∀x∈st.ah,x.nm≠p.nm:=λx hx e=>hn (e▸hh.wf.sub x hx);have lab:(cY st.ah A.qs).length<sizeLine:=v5 h.ql▸dO hh.wf.rD;refine(_,Z,_,Z,A.a,T.hold,A.dx,_,_,Z,h.oa,X.cH,X.hab,Z,_,Z,qq.1,T.part,qq.2.1,_,_,Z,h1,X.cP,X.UP,Z,A.ab,_,Z,uY.k (k:=Sum.inr p.nm) h.d9 lab,?_);rw[qc _ (wN Cj),<-Xe h.ql p qq];have k1:qq.1≠qq.2.2:=jR h1 h2 (by intro z;cases z);have f1:Kp n ρ (b7 (b7 ρ qq.1 (n,20,p.nm)) qq.2.2 (n,21,p.nm)) H H (λ_=>true):=(λ_ _ e=>e,λb t x o _ c e=>(e,by rw[cg (λz=>by rw[z,c2]at c;cases c),cg (λz=>by rw[z,c1]at c;cases c)];exact c))
 have hc:=h.same f1;have g1:Gh (b7 (b7 ρ qq.1 (n,20,p.nm)) qq.2.2 (n,21,p.nm)) H:=(hh.g.color h1 rfl).color h2 rfl;have fr1:Mz n qq.1 qq.2.2 ρ H (b7 (b7 ρ qq.1 (n,20,p.nm)) qq.2.2 (n,21,p.nm)) H:=λb o e k n1 n2=>(e,by rw[cg n2,cg n1])
 have hs:=hc.Mv g1 (st.ah++[p]) (A.qs++[qq]) (by rw[c7,c7,h.ql];rfl) (λi x y ex ey=>by
  by_cases hi:i<st.ah.length
  .rw [GY hi]at ex;rw[GY (h.ql▸hi)]at ey;exact hc.opt i x y ex ey
  .rw [zN (by omega)]at ex;rw[zN (by rw[h.ql];omega),h.ql]at ey;have e0:i-st.ah.length=0:=by
    rcases Nat.eq_zero_or_pos (i-st.ah.length)with z|z
    .exact z
    .rw [sW (by show 1<=_;exact z)]at ex;cases ex
   rw[e0]at ex ey;cases ex;cases ey;exact(h1,h2,cg k1▸c6,c6))
 have g2:=g1.wr (a:=A.ab) (o:=.dK (cY (st.ah++[p]) (A.qs++[qq]))) rfl;have fr2:Fr n _ H _ (upd H A.ab (.dK (cY (st.ah++[p]) (A.qs++[qq])))):=Fr.write hc.iw;have FD:upd H A.ab (.dK (cY (st.ah++[p]) (A.qs++[qq]))) qq.1=some (.ins T.part qq.2.1 (dB p qq.2.2)):=aA (jR h1 h.d9 (by intro z;cases z))▸h1;refine(_,Z,A.a,T.hold,A.dx,_,_,Z,hs.oa,X.cH,X.hnm,Z,_,Z,qq.1,T.part,qq.2.1,_,_,Z,FD,X.cP,X.UP,Z,A.nm,_,Z,uY.k (k:=Sum.inr p.nm) hs.uG (by unfold BC;rw[aG];exact dO hh.wf.Ae),?_);rw[qc _ (BH hn),show BC st.nms++[(Sum.inr p.nm,V.bl true)]=BC (st.nms++[p.nm])from by unfold BC;rw[bQ];rfl];have hs2:=hs.acq g2 (st.nms++[p.nm]);exact q _ _ _ (g2.wr rfl,hs2,wf') rfl (fr1.trans (fr2.trans (Fr.write hs.jI)))
abbrev xj:Stmt:=inClass (top 21) 1
abbrev pI:Da Str:=["self","owner"]
abbrev Pc:Da Str:=pI.append ["part"]
def Ck:aQ Pc pI (aD xj):=c9
theorem NJ{T:TC}(F:ja K T.hold "sign" "Hold.sign" xj f fd)(X:Txt K T)(qP:Dn P w K mg base 2 "is_name" uO z_)(bq:mg "len"=none):Mn P w K mg base 3 T.hold "sign" pI (HD T):=by
 refine F.oA Ck λ_ _ _ _ H _ Q E hr h=>?_;obtain⟨⟨n,ρ,A,st,o,rfl,hh,hx,hn,hl,q⟩⟩:=h;refine(_,(@cZ.h _ _ _ (ak (b_ (eY (d_ (bB qP hr (af (qv 1) aj)))) (au g_) br)
  (ak (b_ (zj (M1 (bX hr) (qv 1) (aN K (qv 0)))) (au g_) br)
  (ak (qM (bX hr) (aN K (qv 0)) (qv 1) (aK ye (by rfl) bq cX (af (aN K (qv 0)) aj)) rfl)
  (ak (cu (lX qb p_ qa fh (aN K (qv 0)) (af ai aj)))
  (ak (cu (lX qb p_ qa fh (aN K (qv 0)) (af ai aj)))
  (au (zm (fk fQ rfl (zh (aN K (qv 0))) (aW (i:=2) Ck.nd) (au (cu (lX qb p_ qa fh (aN K (qv 2)) (af ai aj))))))))))))),?_)
 refine(_,Z,Fp (cs:=o.cps.toList) (ME hx) λH1 g1=>(_,Z,?_));rw[show isName o.cps.toList=true from hx];refine aR ?_;have ef:=hh.mono g1;have h1:=ef.h;have F1:Fr n ρ H ρ H1:=Fr.of_same g1;refine(_,Z,_,Z,A.a,T.hold,A.dx,_,_,Z,h1.oa,X.cH,X.hpl,Z,A.pl,_,Z,cD.k (k:=Sum.inr o) h1.jj,_,Z,?_);rw[rG hn];refine aR ?_;have DK:=rH st.own 0;refine(_,Z,A.a,T.hold,A.dx,_,_,Z,h1.oa,X.cH,X.hpl,Z,A.pl,_,Z,h1.jj,_,Z,A.a,T.hold,A.dx,_,_,Z,h1.oa,X.cH,X.hpl,Z,_,Z,A.pl,_,Z,uY.k (k:=Sum.inr o) h1.jj (dO (by rw[DK];omega)),?_);rw[qc _ (rG hn),DK,show gO 0 st.own++[(Sum.inr o,V.int (st.own.length:Int))]=gO 0 (st.own++[o])from by rw[Mx,Nat.zero_add]];have h2:=h1.aco ef.g (st.own++[o]);have G2:=ef.g.wr (a:=A.pl) (o:=.dK (gO 0 (st.own++[o]))) rfl;have F2:=F1.trans (Fr.write (o:=.dK (gO 0 (st.own++[o]))) h1.jw);generalize upd H1 A.pl (.dK (gO 0 (st.own++[o])))=H2 at *;have lcm:(st.bU.map V.int).length<sizeLine:=by rw[aG,hh.wf.gk];exact dO (by omega)
 refine(_,Z,A.a,T.hold,A.dx,_,_,Z,h2.oa,X.cH,X.BF,Z,.inl (Z,_,aC.of h2.jV),A.cm,_,_,Z,Z,h2.jV,lcm,?_);rw[show st.bU.map V.int++[V.int 0]=(st.bU++[0]).map V.int from by rw[bQ];rfl];have h3:=h2.acr G2 (st.bU++[0]);have G3:=G2.wr (a:=A.cm) (o:=.lst ((st.bU++[0]).map V.int)) rfl;have F3:=F2.trans (Fr.write (o:=.lst ((st.bU++[0]).map V.int)) h2.ki);generalize upd H2 A.cm (.lst ((st.bU++[0]).map V.int))=H3 at *;have lpu:(st.bN.map V.int).length<sizeLine:=by rw[aG,hh.wf.oU];exact dO (by omega)
 refine(_,Z,A.a,T.hold,A.dx,_,_,Z,h3.oa,X.cH,X.DC,Z,.inl (Z,_,aC.of h3.m8),A.pu,_,_,Z,Z,h3.m8,lpu,?_);rw[show st.bN.map V.int++[V.int 0]=(st.bN++[0]).map V.int from by rw[bQ];rfl];have h4:=h3.acs G3 (st.bN++[0]);have G4:=G3.wr (a:=A.pu) (o:=.lst ((st.bN++[0]).map V.int)) rfl;have F4:=F3.trans (Fr.write (o:=.lst ((st.bN++[0]).map V.int)) h3.cpu);generalize upd H3 A.pu (.lst ((st.bN++[0]).map V.int))=H4 at *;clear h1 h2 h3 G2 G3 F2 F3 ef;have hpl:=hh.wf.rD;refine(A.ab,_,h4.d9,λob=>?_);refine(_,Z,A.a,T.hold,A.dx,_,_,Z,fj h4.d9 h4.oa (λk z=>by cases z),X.cH,X.hab,Z,A.ab,ob,_,Z,aq,?_);have el:=v5 h4.ql;have el0:(cY st.ah A.qs).length=st.ah.length:=el;refine wK (n:=st.ah.length) (λi σ H'=>(∃s2,σ=[some (.ref A.a),some (.str o),s2])/\qI H' A.ab ob (cY st.ah A.qs)/\∃H5,H'=upd H5 A.ab (.fX ob (.dK (cY st.ah A.qs)))/\Gh ρ H5/\Fr n ρ H ρ H5/\
   aY T n ρ A H5 { st with own:=st.own++[o],bU:=st.bU++[0],bN:=st.bN++[0],ah:=(st.ah.take i).map (λp=>{ p with row:=p.row++[0] })++st.ah.drop i })
  ((_,Z),aq,H4,Z,G4,F4,h4) (λi σ H' hi hp=>(hp.2.1,el0▸hi)) (λσ H' hp=>(hp.2.1,el0▸aO _)) ?_ ?_
 .rintro i x σ H' FG hi ⟨⟨s2,rfl⟩,hz,H5,rfl,G5,F5,h5⟩ ⟨rfl,kv,hkv,rfl⟩;have ep:=a_ hi;have DL:=MG (λp:Pt=>{ p with row:=p.row++[0] }) ep;obtain⟨qq,eq,k1,k2,k3,k4⟩:=h5.find DL;rw[vZ ep eq]at hkv;cases hkv;have YU:=tG (λp:Pt=>{ p with row:=p.row++[0] }) (λp:Pt=>p.nm) (λ_=>rfl) st.ah i;have nd5:(((st.ah.take i).map (λp:Pt=>{ p with row:=p.row++[0] })++st.ah.drop i).map (λp:Pt=>p.nm)).Nodup:=YU▸hh.wf.fP;have z1:=fj (o:=ob) h5.d9 k1 (λk z=>by cases z);have z2:=fj (o:=ob) h5.d9 k2 (λk z=>by cases z);rw[show cY ({ st with own:=st.own++[o],bU:=st.bU++[0],bN:=st.bN++[0],ah:=(st.ah.take i).map (λp:Pt=>{ p with row:=p.row++[0] })++st.ah.drop i }:HS).ah A.qs=cY st.ah A.qs from qK YU]at z1 z2;have hrl:((st.ah[i]).row.map V.int).length<sizeLine:=by rw[aG,hh.wf.rows _ (xY hi)];exact dO (by omega)
  refine(_,Z,qq.1,T.part,qq.2.1,_,_,Z,z1,X.cP,X.Mw,Z,.inl (Z,_,aC.of z2),qq.2.2,_,_,Z,Z,z2,hrl,?_);have na:A.ab≠qq.2.2:=(jR k2 h5.d9 (by intro z;cases z)).symm;rw[show(st.ah[i]).row.map V.int++[V.int 0]=((st.ah[i]).row++[0]).map V.int from by rw[bQ];rfl];have h6:=h5.Z0 G5 ((st.ah[i]).row++[0]) DL eq nd5;rw[show({ st with own:=st.own++[o],bU:=st.bU++[0],bN:=st.bN++[0],ah:=(st.ah.take i).map (λp:Pt=>{ p with row:=p.row++[0] })++st.ah.drop i }:HS).ah.set i { st.ah[i]with row:=(st.ah[i]).row++[0] }=_ from MH (λp:Pt=>{ p with row:=p.row++[0] }) ep]at h6;exact((_,Z),(aA na).trans hz,_,lS na,G5.wr rfl,F5.trans (Fr.write k4),h6)
 .rintro σ H' ⟨_,hz,H5,rfl,G5,F5,h5⟩;have YU:=tG (λp:Pt=>{ p with row:=p.row++[0] }) (λp:Pt=>p.nm) (λ_=>rfl) st.ah st.ah.length;have e5:cY ({ st with own:=st.own++[o],bU:=st.bU++[0],bN:=st.bN++[0],ah:=(st.ah.take st.ah.length).map (λp:Pt=>{ p with row:=p.row++[0] })++st.ah.drop st.ah.length }:HS).ah A.qs=cY st.ah A.qs:=qK YU;have h5':=h5.d9;rw[e5]at h5';refine(hz,?_);rw[qG,Ah h5'];have es:({ st with own:=st.own++[o],bU:=st.bU++[0],bN:=st.bN++[0],ah:=(st.ah.take st.ah.length).map (λp:Pt=>{ p with row:=p.row++[0] })++st.ah.drop st.ah.length }:HS)=gW st o:=by unfold gW;rw[cQ,Lc,x6]
  rw[es]at h5;exact q ρ A H5 (G5,h5,HE hh.wf hn hl) rfl F5
abbrev xm:Stmt:=inClass (top 21) 2
abbrev ur:Da Str:=["self","part","owner","worth","weight"]
abbrev Pe:Da Str:=ur.append ["place","tops"]
def xo:aQ Pe ur (aD xm):=c9
theorem NK{T:TC}(F:ja K T.hold "load" "Hold.load" xm f fd)(X:Txt K T)(jP:Mn P w K mg base 3 T.hold "check_new" jN (FE T))(cL:Mn P w K mg base 1 T.hold "place_of" fR (zd T))(gu:Mn P w K mg base 1 T.hold "beyond_common" iF (SN T K))(mJ:Mn P w K mg base 1 T.hold "stow" pH (MA T))(zC:Cn P w K mg base 1 "Part" T.part ["self","name","owner","worth","weight","scale","row"] (HC T K))(bq:mg "len"=none):Mn P w K mg base 4 T.hold "load" ur (UT T):=by
 refine F.oA xo λ_ _ _ _ H _ Q E hr h=>?_
 obtain⟨⟨n,ρ,A,st,x,o,wo,we,rfl,hh,hx,hn,ho,h4,h5,h6,h7,q⟩⟩:=h
 refine(_,(@cZ.h _ _ _ (ak (cu (cy jP hr (qv 0) (af (qv 1) aj)))
  (ak (aV (i:=5) xo.nd (cy cL hr (qv 0) (af (qv 2) aj)))
  (ak (b_ (fm (bW.pt (jd (aS ud (qv 3) ai (aZ _)) (iP (aS ud (qv 4) ai (aZ _)))))) (au g_) br)
  (ak (aV (i:=6) xo.nd (aL Ul (ia (af ai aj)) (aK ye (by rfl) bq cX (af (aN K (qv 0)) aj))))
  (ak (jl (aN K (aN K (qv 0))) (jm (qv 6) (qv 5) set_list))
  (au (cu (cy mJ hr (qv 0) (af (YQ zC hr (af (qv 1) (af (qv 2) (af (qv 3) (af (qv 4) (af ai (af (cy gu hr (qv 0) (af (qv 6) aj)) aj))))))) aj)))))))))),?_)
 refine(_,Z,A.a,A.dx,_,Z,hh.h.oa,Z,_,Z,⟨(n,ρ,A,st,x,Z,hh.h,hx,hn,λH1 g1=>?_)⟩)
 have ef:=hh.mono g1
 have F1:Fr n ρ H ρ H1:=Fr.of_same g1
 clear hh
 refine(_,Z,A.a,A.dx,_,Z,ef.h.oa,Z,_,Z,⟨(n,ρ,A,st,o,Z,ef.h,ho,?_)⟩)
 refine(false,(_,Z,_,_,Z,Z,_,Z,dX (λc=>absurd (eO c) (by omega)) λ_=>(_,Z,_,_,Z,Z,_,Z,dM (by omega),Z)),aR ?_)
 refine((gR 1),λp0 hp0=>?_)
 have g2:=aF hp0 (.lst [.int 0])
 have jW:=ef.mono g2
 have F2:=F1.trans (Fr.of_same (ρ:=ρ) g2)
 have XZ:upd H1 p0 (.lst [.int 0]) p0=some (.lst [.int 0]):=aq
 generalize upd H1 p0 (.lst [.int 0])=H2 at *
 clear ef F1
 have DK:=rH st.own 0
 have eU:=jW.wf.lR
 refine(_,Z,A.a,T.hold,A.dx,_,_,Z,jW.h.oa,X.cH,X.hpl,Z,A.pl,_,Z,jW.h.jj,p0,_,_,Z,Z,XZ,by omega,by rw[DK];omega,by rw[DK];show 1*_<=_;rw[qS,Nat.one_mul];exact small (by omega),λp1 hp1=>?_)
 rw[DK,qS,show(List.replicate st.own.length [V.int 0]).flatten=(List.replicate st.own.length (0:Int)).map V.int from by rw[List.map_replicate,List.flatten_replicate_singleton]]
 have g3:=aF hp1 (.lst ((List.replicate st.own.length (0:Int)).map V.int))
 have m_:=jW.mono g3
 have F3:=F2.trans (Fr.of_same (ρ:=ρ) g3)
 have n1:H p1=none:=(g1.trans g2).free hp1
 have c1:ρ p1=none:=jW.g.none hp1
 have Ay:upd H2 p1 (.lst ((List.replicate st.own.length (0:Int)).map V.int)) p1=_:=aq
 generalize upd H2 p1 (.lst ((List.replicate st.own.length (0:Int)).map V.int))=H3 at *
 have hi:=Lw.mpr ho
 refine(_,Z,A.a,T.hold,A.dx,_,_,Z,m_.h.oa,X.cH,X.y_,Z,A.bt,T.bot,A.db,_,_,Z,m_.h.kP,X.cB,X.QW,Z,_,Z,_,Z,p1,_,_,st.own.idxOf o,Z,Z,Ay,by rw[aG,jr];exact mH hi,?_)
 rw[show((List.replicate st.own.length (0:Int)).map V.int).set (st.own.idxOf o) (V.int st.prod)=((List.replicate st.own.length (0:Int)).set (st.own.idxOf o) st.prod).map V.int from by rw[kU]]
 have rX:=m_.FF (o:=.lst (((List.replicate st.own.length (0:Int)).set (st.own.idxOf o) st.prod).map V.int)) c1 Ay rfl rfl
 have F4:=F3.new (o:=.lst (((List.replicate st.own.length (0:Int)).set (st.own.idxOf o) st.prod).map V.int)) n1
 have X0:upd H3 p1 (.lst (((List.replicate st.own.length (0:Int)).set (st.own.idxOf o) st.prod).map V.int)) p1=_:=aq
 have s4:aM H (upd H3 p1 (.lst (((List.replicate st.own.length (0:Int)).set (st.own.idxOf o) st.prod).map V.int))):=((g1.trans g2).trans g3).cJ n1 _
 generalize upd H3 p1 (.lst (((List.replicate st.own.length (0:Int)).set (st.own.idxOf o) st.prod).map V.int))=H4 at *
 clear jW m_ F2 F3
 refine(_,Z,A.a,A.dx,_,Z,rX.h.oa,Z,_,Z,_,Z,_,Z,_,Z,_,Z,A.a,A.dx,_,Z,rX.h.oa,Z,_,Z,⟨(n,ρ,A,st,p1,_,Z,rX.h,aC.of X0,by rw[fF,jr,rX.wf.gk],by rw[fF,jr];omega,λr H5 g5 hr5 X3=>?_)⟩)
 intro y dy hy hdy hyd
 have NL:upd (upd H5 dy (.own y)) y (.ins T.part dy []) r=some (.lst ((mQ st ((List.replicate st.own.length 0).set (st.own.idxOf o) st.prod)).map V.int)):=by rw[aA (aJ X3 hy),aA (aJ X3 hdy)];exact X3
 refine⟨(y,dy,r,(x,o,wo,we,1,mQ st ((List.replicate st.own.length 0).set (st.own.idxOf o) st.prod)),Z,aq,aC.of NL,λrr H6 hrr k6 hy6 X4=>(Z,?_))⟩
 have NN:H5 rr=none:=by
  have e1:rr≠y:=λe=>by rw[e,aq]at hrr;cases hrr
  have e2:rr≠dy:=λe=>by rw[e,aA hyd,aq]at hrr;cases hrr
  rw[aA e1,aA e2]at hrr;exact hrr
 have g6:aM H5 H6:=λb u e=>k6 b u (by rw[aA (aJ e hy),aA (aJ e hdy)];exact e) (aJ e hy)
 have sV:=rX.mono g5
 have AU:=sV.mono g6
 have F6:=F4.trans (Fr.of_same (ρ:=ρ) (g5.trans g6))
 exact⟨(n,ρ,A,st,(y,dy,rr),_,Z,AU,hy6,X4,sV.g.none hy,sV.g.none NN,hn,Q3 rX.wf hn h6 h7 ho h4 h5,λρ' A' H' a1 a2 a3=>q ρ' A' H' a1 a2 (a3.fr F6 ((s4.trans g5).free hy) ((s4.trans g5).free NN)))⟩
abbrev xr:Stmt:=inClass (top 21) 0
abbrev yL:Da Str:=["self"]
abbrev Pf:Da Str:=yL
def NO:aQ Pf yL (aD xr):=c9
def adB{p:Addr}{H0 H:Hp}{ρ0 ρ:d8}{l:Da (Addr×HO×oN)}{C dx:Addr}{fs:Da (Str×V)}(s:Str)(v:V)(M:iO p H0 ρ0 H ρ l)(_hp:H p=some (.ins C dx fs)):∃H',upd H p (.ins C dx (iK s v fs))=H'/\iO p H0 ρ0 H' ρ l/\H' p=some (.ins C dx (iK s v fs)):=(_,Z,M.wr rfl,aq)
def Rz{p x:Addr}{H0 H:Hp}{ρ0 ρ:d8}{l:Da (Addr×HO×oN)}{C dx:Addr}{fs:Da (Str×V)}(s:Str)(o:HO)(c:oN)(M:iO p H0 ρ0 H ρ l)(hp:H p=some (.ins C dx fs))(hx:H x=none)(t:isTup o=false):∃H',upd (upd H x o) p (.ins C dx (iK s (.ref x) fs))=H'/\iO p H0 ρ0 H' (b7 ρ x c) ((x,o,c)::l)/\H' p=some (.ins C dx (iK s (.ref x) fs)):=adB s _ (M.new hx t) (by rw[aA (aJ hp hx)];exact hp)
def NP{T:TC}(F:Je K mg "Hold" T.hold "Hold.__init__" xr f fd)(X:Txt K T)(Es:Cn P w K mg base 1 "Bottom" T.bot ["self"] (QY T)):Cn P w K mg base 3 "Hold" T.hold yL (QZ T):=by
 refine F.oA NO λ_ _ _ _ H _ Q E hr h=>?_;obtain⟨⟨p,dx,ρ,n,rfl,hp,g,hρ,q⟩⟩:=h;refine(_,(@cZ.h _ _ _ (ak (d7 K (qv 0) tP)
  (ak (d7 K (qv 0) tP)
  (ak (d7 K (qv 0) (ia aj))
  (ak (d7 K (qv 0) tP)
  (ak (d7 K (qv 0) (Vj Es hr))
  (ak (d7 K (qv 0) (ia aj))
  (au (d7 K (qv 0) (ia aj)))))))))),?_)
 have M0:iO p H ρ H ρ [] :=((λ_ m=>absurd m (by simp)),λb o e _=>(e,Z),g,_,hp)
 intro pl hpl;refine(_,Z,p,T.hold,dx,_,Z,by rw[aA (aJ hp hpl)];exact hp,X.cH,X.hpl,by show 0<1000;decide,?_);obtain⟨H2,e,M2,hp2⟩:=Rz "places" (.dK []) (n,1,⟨#[]⟩) M0 hp hpl rfl;rw[e];intro ab hab;refine(_,Z,p,T.hold,dx,_,Z,by rw[aA (aJ hp2 hab)];exact hp2,X.cH,X.hab,by show 1<1000;decide,?_);obtain⟨H4,e,M4,hp4⟩:=Rz "aboard" (.dK []) (n,2,⟨#[]⟩) M2 hp2 hab rfl;rw[e];refine((gR 0),λas has=>?_);refine(_,Z,p,T.hold,dx,_,Z,by rw[aA (aJ hp4 has)];exact hp4,X.cH,X.has,by show 2<1000;decide,?_);obtain⟨H6,e,M6,VI⟩:=Rz "ashore" (.lst []) (n,3,⟨#[]⟩) M4 hp4 has rfl;rw[e];intro nm hnm;refine(_,Z,p,T.hold,dx,_,Z,by rw[aA (aJ VI hnm)];exact VI,X.cH,X.hnm,by show 3<1000;decide,?_);obtain⟨H8,e,M8,hp8⟩:=Rz "names" (.dK []) (n,4,⟨#[]⟩) M6 VI hnm rfl;rw[e];intro bt db y_ hdb hne;refine⟨(bt,db,Z,aq,λsp kn H9 wF hkn hsk k9 VJ hs9 hk9=>(Z,?_))⟩;have s9:aM H8 H9:=λb o e=>k9 b o (by rw[aA (aJ e y_),aA (aJ e hdb)];exact e) (aJ e y_);have fr:∀{c:Addr},upd (upd H8 db (.own bt)) bt (.ins T.bot db []) c=none->H8 c=none:=λ{c} e=>by
  have e1:c≠bt:=λz=>by rw[z,aq]at e;cases e
  have e2:c≠db:=λz=>by rw[z,aA hne,aq]at e;cases e
  rw[aA e1,aA e2]at e;exact e
 have adF:=fr wF;have adG:=fr hkn;have M9:=M8.same s9;have M10:=M9.add (c:=(n,5,⟨#[]⟩)) VJ rfl M8 y_ (λe he=>aJ (M8.m e he).1 y_);have M11:=M10.add (c:=(n,8,⟨#[]⟩)) hs9 rfl M8 adF (λe he=>by
  rcases dW.mp he with rfl|he
  .exact jR VJ hs9 (by intro z;cases z)
  .exact aJ (M8.m e he).1 adF)
 have M12:=M11.add (c:=(n,9,⟨#[]⟩)) hk9 rfl M8 adG (λe he=>by
  rcases dW.mp he with rfl|he
  .exact jR hs9 hk9 (by intro z;cases z)
  rcases dW.mp he with rfl|he
  .exact jR VJ hk9 (by intro z;cases z)
  .exact aJ (M8.m e he).1 adG)
 have hp9:=s9 _ _ hp8;refine(_,Z,p,T.hold,dx,_,Z,hp9,X.cH,X.y_,by show 4<1000;decide,?_);obtain⟨H13,e,M13,Ay⟩:=adB "bottom" (.ref bt) M12 hp9;rw[e];refine((gR 0),λcm BF=>?_);refine(_,Z,p,T.hold,dx,_,Z,by rw[aA (aJ Ay BF)];exact Ay,X.cH,X.BF,by show 5<1000;decide,?_);obtain⟨H15,e,M15,X5⟩:=Rz "common" (.lst []) (n,6,⟨#[]⟩) M13 Ay BF rfl;rw[e];refine((gR 0),λpu DC=>?_);refine(_,Z,p,T.hold,dx,_,Z,by rw[aA (aJ X5 DC)];exact X5,X.cH,X.DC,by show 6<1000;decide,?_);obtain⟨H17,e,M17,adJ⟩:=Rz "purses" (.lst []) (n,7,⟨#[]⟩) M15 X5 DC rfl;rw[e];have m:=M17.m;have Cj:∀{a:Addr}{o:HO}{c:oN}{ρ2:d8},(H17 a=some o/\ρ2 a=some c/\a≠p)->H17 a=some o/\b7 ρ2 p (n,0,⟨#[]⟩) a=some c:=λh=>(h.1,cg h.2.2▸h.2.1)
 have a1:=Cj (m _ (.head _));have a2:=Cj (m _ (.tail _ (.head _)));have a3:=Cj (m _ (.tail _ (.tail _ (.head _))));have a4:=Cj (m _ (.tail _ (.tail _ (.tail _ (.head _)))));have a5:=Cj (m _ (.tail _ (.tail _ (.tail _ (.tail _ (.head _))))));have a6:=Cj (m _ (.tail _ (.tail _ (.tail _ (.tail _ (.tail _ (.head _)))))));have a7:=Cj (m _ (.tail _ (.tail _ (.tail _ (.tail _ (.tail _ (.tail _ (.head _))))))));have a8:=Cj (m _ (.tail _ (.tail _ (.tail _ (.tail _ (.tail _ (.tail _ (.tail _ (.head _)))))))));have a9:=Cj (m _ (.tail _ (.tail _ (.tail _ (.tail _ (.tail _ (.tail _ (.tail _ (.tail _ (.head _))))))))));refine q (b7 _ p (n,0,⟨#[]⟩)) (p,dx,pl,ab,as,nm,bt,db,cm,pu,sp,kn,[]) H17 rfl (M17.g.color adJ rfl,(adJ,c6,a9.1,a9.2,a8.1,a8.2,([],a7.1,.nil),a7.2,a6.1,a6.2,a5.1,a5.2,a2.1,a2.2,a1.1,a1.2,a4.1,a4.2,([],a3.1,(λx hx=>absurd hx (by simp)),aO _,x9),a3.2,Z,λi x y ex=>by simp[hs0]at ex),wf0) (λb o e hb=>?_);obtain⟨x,y⟩:=M17.k b o e hb;exact(x,cg hb▸y)
abbrev qx:Stmt:=inClass (top 21) 27
abbrev nc:Da Str:=["self","amounts"]
abbrev Gp:Da Str:=nc.append ["lost","sums","name","amount","part","many"]
def gc:aQ Gp nc (aD qx):=c9
theorem Et{T:TC}(F:ja K T.hold "given_up" "Hold.given_up" qx f fd)(X:Txt K T)(fT:mg "sum"=none)(jv:mg "zip"=none):Mn P w K mg base 1 T.hold "given_up" nc (Q9 T):=by
 refine F.oA gc λ_ _ _ _ H _ Q E hr h=>?_;obtain⟨⟨n,ρ,A,st,d,rs,rfl,h,wf,hd,cd,hle,w6,q⟩⟩:=h;refine(_,(@cZ.h _ _ _ (ak (aV (i:=2) gc.nd (aK (Jd rfl) (by rfl) fT wg (af (HM (qv 1)) aj)))
  (ak (qL (i:=3) ["common","lost"] [none,some 2] gc.nd rfl rfl rfl (dI K (aN K (qv 0))) (λ_ _ _ _=>(aW (i:=0) (show List.Nodup (["common","lost"] :Da Str)from by decide +kernel))) (λ_ _ _ _=>(aL gJ (qv 1) (qv 0))) rfl (by rfl) (by rfl))
  (ak (zm (fk fQ rfl (Ef (qv 1)) (je K (n:=2) rfl (cT (aW (i:=4) gc.nd) (cT (aW (i:=5) gc.nd) jc))) (ak (aV (i:=6) gc.nd (bJ (bX hr) (aN K (qv 0)) (qv 4)))
  (ak (aV (i:=7) gc.nd (aL gJ (qv 5) (aN K (qv 6))))
  (au (qL (i:=3) ["old","own","many"] [none,none,some 7] gc.nd rfl rfl rfl (tN K (by rfl) jv (af (qv 3) (af (aN K (qv 6)) aj))) (λ_ _ _ _=>(je K (n:=2) rfl (cT (aW (i:=0) (show List.Nodup (["old","own","many"] :Da Str)from by decide +kernel)) (cT (aW (i:=1) (show List.Nodup (["old","own","many"] :Da Str)from by decide +kernel)) jc)))) (λ_ _ _ _=>(aL cV (qv 0) (aL gJ (qv 2) (qv 1)))) rfl (by rfl) (by rfl)))))))
  (au (aX (qv 3))))))),?_)
 have hcl:st.bU.length<=100:=wf.gk▸wf.lR;have zl:Jm.Sz 1100 (bL rs):=by have:=Jm.Uv (n:=60) (ws:=rs.map (·.2)) (λm hm=>by obtain⟨r,hr,rfl⟩:=bw.mp hm;exact(w6 r hr).1);exact this.mono (by rw[aG];omega)
 have zc:∀c∈st.bU,Jm.Sz 8000 c:=λc hc=>Jm.Sz.mw (by have:=wf.qf c hc;have:=wf.gq;omega) (wf.qf c hc).2 wf.big;refine(_,Z,d,_,Z,.inl hd,λv hv=>(v,d,_,rs.map (·.2),Z,aq,.inl (by rw[aA (aJ hd hv)];exact hd),by unfold iZ;rw[fH,fH];rfl,?_));have g1:=aF hv (mZ v d);have hd1:=g1 _ _ hd;have h1:=h.mono g1;generalize upd H v (mZ v d)=H1 at *;refine(_,Z,A.a,T.hold,A.dx,_,_,Z,h1.oa,X.cH,X.BF,Z,A.cm,Z,(_,aC.of h1.jV),λl0 gH=>?_);refine iD (J:=wC K A.cm) (n:=(st.bU.map V.int).length) 0 (λi o H'=>aM H1 H'/\o=((st.bU.take i).map λc=>bL rs*c).map V.int) (by rw[aG];omega) (aF gH _,Z) (λi o H' hi _ hp=>(_,_,aC.of (hp.1 _ _ h1.jV),a_ hi)) (λo H' _ hp=>(_,aC.of (hp.1 _ _ h1.jV),aO _)) ?_ ?_
 .rintro i y o H2 H3 hi eU ha ⟨g,e⟩ ⟨rfl,hy⟩;obtain⟨c,rfl,ec⟩:=h_ (hy _ (aC.of (g _ _ h1.jV)));refine(_,Z,_,Z,_,_,Z,Z,gi zl (zc c (bg ec)),ha,g.cJ gH _,?_);subst e;rw[take_snoc ec,bQ,bQ];rfl
 rintro o H2 eU ha ⟨g2,e⟩;rw[aG,cQ]at e;subst e;have VL:=g1.trans g2;have hd2:=g2 _ _ hd1;have h2:=h1.mono g2;have hn0:H l0=none:=g1.free gH;refine(d,_,hd2,λob=>(_,Z,d,ob,_,Z,aq,?_));have al:=Aj rs;refine wK (n:=(iZ rs).length) (λi σ H'=>aM (upd H2 d (.fX ob (.dK (iZ rs)))) H'/\∃l s4 s5 s6 s7,σ=[some (.ref A.a),some (.ref d),some (.int (bL rs)),some (.ref l),s4,s5,s6,s7]/\H l=none/\H' l=some (.lst (((rs.take i).foldl (kN st) (st.bU.map λc=>bL rs*c)).map V.int))/\((rs.take i).foldl (kN st) (st.bU.map λc=>bL rs*c)).length=st.bU.length)
  (aM.refl _,l0,_,_,_,_,Z,hn0,fj hd2 ha (λk z=>by cases z),by rw[List.take_zero,List.foldl_nil,aG]) (λi σ H' hi hp=>(hp.1 _ _ aq,hi)) (λσ H' hp=>(hp.1 _ _ aq,aO _)) ?_ ?_
 .rintro i x σ H3 H4 hi ⟨g,l,s4,s5,s6,s7,rfl,Fl,hl,hsl⟩ ⟨pp,kv,hpp,hkv,rfl,rfl⟩;unfold iZ at hkv;rw[bP]at hkv;obtain⟨r,er,rfl⟩:=nt.mp hkv;have hrm:=bg er;obtain⟨zr,p,fc,Gq⟩:=w6 r hrm;obtain⟨ip,AV,VM⟩:=oQ fc;have ep:st.ah[ip]?=some p:=by rw[a_ AV,VM]
  have epg:cS st r.1=p:=Gq▸Q8 wf.fP ep;have g4:=aF hpp (.tup [.str r.1,.int r.2]);have gg:=g.trans g4;have h2z:∀{b:Addr}{u:HO},H2 b=some u->(∀k,u ≠ .dK k)->upd H3 pp (.tup [.str r.1,.int r.2]) b=some u:=λe k=>gg _ _ (fj hd2 e k);have nab:A.ab≠d:=(DB cd h.iw).symm;obtain⟨qq,eq,k1,k2,_,_⟩:=h2.find ep;have hab:upd H3 pp (.tup [.str r.1,.int r.2]) A.ab=some (.dK (cY st.ah A.qs)):=gg _ _ (aA nab▸h2.d9);have hv:=v7 wf.fP ep eq;have hq1:=h2z k1 (λk z=>by cases z);have hq2:=h2z k2 (λk z=>by cases z);have NQ:upd H3 pp (.tup [.str r.1,.int r.2]) pp=some (.tup [.str r.1,.int r.2]):=aq;have JQ:=g4 _ _ hl;have hno:∀{b:Addr},upd H3 pp (.tup [.str r.1,.int r.2]) b=none->H b=none:=λ{b} e=>by have e1:=qg hd2 (gg.free e);exact VL.free e1
  have VN:upd H3 pp (.tup [.str r.1,.int r.2]) A.a=some (.ins T.hold A.dx (kM A)):=h2z h2.oa (λk z=>by cases z);show DT K 2 _ _ _ (upd H3 pp (.tup [.str r.1,.int r.2])) _;generalize upd H3 pp (.tup [.str r.1,.int r.2])=H4 at *;refine(pp,_,Z,cU.of NQ,Z,_,_,Z,_,_,Z,Z,?_);refine(_,Z,A.a,T.hold,A.dx,_,_,Z,VN,X.cH,X.hab,Z,_,Z,A.ab,_,Z,Gq▸hv▸cD.k (k:=Sum.inr p.nm) hab,?_);have zs:Jm.Sz 8000 p.sc:=Jm.Sz.mw (by have:=wf.rE p fc;have:=wf.gq;omega) (wf.rE p fc).2 wf.big;refine(_,Z,_,Z,qq.1,T.part,qq.2.1,_,_,Z,hq1,X.cP,X.Jf,Z,_,_,Z,Z,gi zr zs,?_);have erl:p.row.length=st.bU.length:=by rw[wf.rows p fc,wf.gk]
  generalize eS:(rs.take i).foldl (kN st) (st.bU.map λc=>bL rs*c)=S at *;refine(_,Z,_,Z,qq.1,T.part,qq.2.1,_,_,Z,hq1,X.cP,X.Mw,Z,_,_,_,_,_,_,Z,.lst (aC.of JQ),.lst (aC.of hq2),λAp Bi=>?_);refine yZ (K:=K) (n:=S.length) [0,1] (λj out H5=>aM H4 H5/\out=(List.zipWith (λold own=>old+(r.2*p.sc)*own) (S.take j) (p.row.take j)).map V.int) (by decide) (by omega) (aF Bi _,Z) (λj out H5 hj _ hp=>(aC.of (hp.1 _ _ JQ),aC.of (hp.1 _ _ hq2),by rw[aG];exact hj,by rw[aG];omega))
   (λout H5 _ hp=>(aC.of (hp.1 _ _ JQ),aC.of (hp.1 _ _ hq2),.inl (by rw[aG];exact aO _))) ?_ ?_
  .rintro j x out H5 H6 hj Ic ha2 ⟨g5,e5⟩ ⟨p2,x1,y1,hp2,rfl,rfl,e1,e2⟩;obtain⟨t,rfl,et⟩:=h_ e1;obtain⟨c,rfl,ec⟩:=h_ e2;have g6:=aF hp2 (.tup [.int t,.int c]);have zw:Jm.Sz 8000 c:=Jm.Sz.mw (wf.oV p fc c (bg ec)).1 (wf.oV p fc c (bg ec)).2 wf.big;refine(p2,_,Z,cU.of aq,Z,_,Z,_,Z,_,Z,_,_,Z,Z,gi (zr.mul zs) zw,_,_,Z,Z,g6 _ _ ha2,(g5.trans g6).cJ Bi _,?_);rw[nv _ et ec,e5,bQ];rfl
  rintro out H5 Ic ha2 ⟨g5,e5⟩;rw[cQ,hsl,<-erl,cQ]at e5;have eN:(rs.take (i+1)).foldl (kN st) (st.bU.map λc=>bL rs*c)=List.zipWith (λold own=>old+(r.2*p.sc)*own) S p.row:=by rw[take_snoc er,Ho,eS];show kN st S r=_;unfold kN;rw[epg]
  refine(gg.trans g5,Ap,_,_,_,_,Z,hno Bi,?_,?_)
  .rw [eN,ha2,e5]
  .rw [eN,kL];omega
 rintro σ H3 ⟨g,l,s4,s5,s6,s7,rfl,Fl,hl,hsl⟩;rw[al,cQ]at hl;refine(g _ _ aq,_,Z,?_);have nl:l≠d:=λe=>by rw[e,hd]at Fl;cases Fl
 exact q l _ (VL.trans (tF hd2 g)) Fl (aA nl▸hl)
abbrev tT:Stmt:=inClass (top 21) 23
abbrev mE:Da Str:=["self","name","amount"]
abbrev Kc:Da Str:=mE.append ["part"]
def zH:aQ Kc mE (aD tT):=c9
theorem Ie{T:TC}(F:ja K T.hold "lessen" "Hold.lessen" tT f fd)(X:Txt K T):Mn P w K mg base 1 T.hold "lessen" mE (MK T):=by
 refine F.oA zH λ_ _ _ _ H _ Q E hr h=>?_;obtain⟨⟨n,ρ,A,st,r,rfl,hh,⟨p,fc,Gq,hle⟩,wf',q⟩⟩:=h;have h:=hh.h;have nd:=hh.wf.fP;refine(_,(@cZ.h _ _ _ (ak (aV (i:=3) zH.nd (bJ (bX hr) (aN K (qv 0)) (qv 1)))
  (ak (rO K (qv 3) (qv 2) LW)
  (au (jk (aS dZ (aN K (qv 3)) ai (aZ _)) (au (Rl (aN K (qv 0)) (qv 1))) br))))),?_)
 obtain⟨ip,AV,VM⟩:=oQ fc;have ep:st.ah[ip]?=some p:=by rw[a_ AV,VM]
 obtain⟨qq,eq,k1,k2,k3,k4⟩:=h.find ep;have hv:=v7 nd ep eq;refine(_,Z,A.a,T.hold,A.dx,_,_,Z,h.oa,X.cH,X.hab,Z,_,Z,A.ab,_,Z,Gq▸hv▸cD.k (k:=Sum.inr p.nm) h.d9,?_);refine(_,Z,qq.1,T.part,qq.2.1,_,_,Z,k1,X.cP,X.wM,Z,_,Z,_,_,Z,Z,qq.2.1,_,k1,by show 6<1000;decide,?_);have h1:=h.mC (p1:={ p with wo:=p.wo-r.2 }) hh.g ep eq rfl rfl nd;have g1:=hh.g.wr (a:=qq.1) (o:=.ins T.part qq.2.1 (dB { p with wo:=p.wo-r.2 } qq.2.2)) rfl;have F1:Fr n ρ H ρ (upd H qq.1 (.ins T.part qq.2.1 (dB { p with wo:=p.wo-r.2 } qq.2.2))):=Fr.write k3;show ab1 _ _ _ _ _ (upd H qq.1 (.ins T.part qq.2.1 (dB { p with wo:=p.wo-r.2 } qq.2.2)));have RA:upd H qq.1 (.ins T.part qq.2.1 (dB { p with wo:=p.wo-r.2 } qq.2.2)) qq.1=some (.ins T.part qq.2.1 (dB { p with wo:=p.wo-r.2 } qq.2.2)):=aq;generalize upd H qq.1 (.ins T.part qq.2.1 (dB { p with wo:=p.wo-r.2 } qq.2.2))=H1 at *;have el:eL st r={ st with ah:=if p.wo-r.2=0 then st.ah.eraseIdx ip else st.ah.set ip { p with wo:=p.wo-r.2 } }:=by unfold eL;rw[<-Gq,ML nd (λx hx=>by have:=hh.wf.kj x hx;omega) ep]
 rw[el]at wf' q;refine(λσ' H'=>Q .cK H',?_,λ_ _ z=>z);refine(_,Z,qq.1,T.part,qq.2.1,_,_,Z,RA,X.cP,X.wM,Z,Z,_,Z,dX (λc=>?_) (λc=>?_))
 .have c':p.wo-r.2=0:=V.int.inj (eO c);rw[ay c']at wf' q;have nd1:((st.ah.set ip { p with wo:=p.wo-r.2 }).map (λx:Pt=>x.nm)).Nodup:=by rw[kU,show({ p with wo:=p.wo-r.2 }:Pt).nm=p.nm from rfl,ny (by rw[bP,ep];rfl)];exact nd
  have ep1:(st.ah.set ip { p with wo:=p.wo-r.2 })[ip]?=some { p with wo:=p.wo-r.2 }:=kJ AV;have dk:=D6 nd1 h1.ql ep1;rw[List.eraseIdx_set_eq]at dk;have hv1:=v7 nd1 ep1 eq;refine(_,Z,A.a,T.hold,A.dx,_,_,Z,h1.oa,X.cH,X.hab,Z,_,Z,A.ab,_,Sum.inr r.1,Z,h1.d9,Z,?_,?_)
  .rw [<-Gq];show(eE (cY (st.ah.set ip { p with wo:=p.wo-r.2 }) A.qs) (Sum.inr p.nm)).isSome=true;rw[show eE (cY (st.ah.set ip { p with wo:=p.wo-r.2 }) A.qs) (Sum.inr p.nm)=_ from hv1];rfl
  .show Q .cK (upd H1 A.ab (.dK (nW (cY (st.ah.set ip { p with wo:=p.wo-r.2 }) A.qs) (Sum.inr r.1))));rw[<-Gq,show nW (cY (st.ah.set ip { p with wo:=p.wo-r.2 }) A.qs) (Sum.inr p.nm)=_ from dk];have hi2:ip<A.qs.length:=h.ql▸AV;have h2:=h1.Mv g1 (st.ah.eraseIdx ip) (A.qs.eraseIdx ip) (by rw[RV AV,RV hi2,h.ql]) (λj x y ex ey=>by rw[<-List.eraseIdx_set_eq (l:=st.ah) (i:=ip) (a:={ p with wo:=p.wo-r.2 })]at ex;obtain⟨k,a1,a2⟩:=BI ex ey;exact h1.opt k x y a1 a2)
   exact q ρ _ _ (g1.wr rfl,h2,wf') rfl (F1.trans (Fr.write h1.iw))
 .have c':¬ p.wo-r.2=0:=λe=>c (bR (by rw[e]));rw[av c']at wf' q;exact q ρ A H1 (g1,h1,wf') rfl F1
abbrev vj:Stmt:=inClass (top 21) 28
abbrev nI:Da Str:=["self","kept","whole","added"]
abbrev NR:Da Str:=nI.append ["scales","common","shared","part","scale"]
def jZ:aQ NR nI (aD vj):=c9
theorem Kd{T:TC}(F:ja K T.hold "blend" "Hold.blend" vj f fd)(X:Txt K T)(rY:Dn P w K mg base 2 "factor_of_all" m9 (UZ K))(vm:Mn P w K mg base 1 T.bot "grow" pW (U0 T))(jv:mg "zip"=none):Mn P w K mg base 3 T.hold "blend" nI (HG T K):=by
 refine F.oA jZ λ_ _ _ _ H _ Q E hr h=>?_;obtain⟨⟨n,ρ,A,st,kept,whole,la,jp,rfl,hh,hla,hal,k0,w0,kz,wz,haz,hpz,hsl,wf',q⟩⟩:=h;refine(_,(@cZ.h _ _ _ (ak (zm (qL (i:=4) ["part","kept"] [none,some 1] jZ.nd rfl rfl rfl (zh (aN K (qv 0))) (λ_ _ _ _=>(aW (i:=0) (show List.Nodup (["part","kept"] :Da Str)from by decide +kernel))) (λ_ _ _ _=>(aL gJ (aN K (qv 0)) (qv 1))) rfl (by rfl) (by rfl)))
  (ak (qL (i:=5) ["top","more","kept"] [none,none,some 1] jZ.nd rfl rfl rfl (tN K (by rfl) jv (af (aN K (qv 0)) (af (qv 3) aj))) (λ_ _ _ _=>(je K (n:=2) rfl (cT (aW (i:=0) (show List.Nodup (["top","more","kept"] :Da Str)from by decide +kernel)) (cT (aW (i:=1) (show List.Nodup (["top","more","kept"] :Da Str)from by decide +kernel)) jc)))) (λ_ _ _ _=>(aL cV (aL gJ (qv 0) (qv 2)) (qv 1))) rfl (by rfl) (by rfl))
  (ak (aV (i:=6) jZ.nd (bB rY hr (af (qv 2) (af (aL Uk (qv 4) (qv 5)) aj))))
  (ak (zm (fk fQ rfl (tN K (by rfl) jv (af (HM (aN K (qv 0))) (af (qv 4) aj))) (je K (n:=2) rfl (cT (aW (i:=7) jZ.nd) (cT (aW (i:=8) jZ.nd) jc))) (au (d7 K (qv 7) (aL iQ (qv 8) (qv 6))))))
  (ak (d7 K (qv 0) (gM ["top","shared"] [none,some 6] rfl (dI K (qv 5)) (λ_ _ _ _=>(aW (i:=0) (show List.Nodup (["top","shared"] :Da Str)from by decide +kernel))) (λ_ _ _ _=>(aL iQ (qv 0) (qv 1))) rfl (by rfl)))
  (ak (d7 K (qv 0) (gM ["purse","whole","shared"] [none,some 2,some 6] rfl (dI K (aN K (qv 0))) (λ_ _ _ _=>(aW (i:=0) (show List.Nodup (["purse","whole","shared"] :Da Str)from by decide +kernel))) (λ_ _ _ _=>(aL gJ (qv 0) (aL iQ (qv 1) (qv 2)))) rfl (by rfl)))
  (au (cu (cy vm hr (aN K (qv 0)) (af (aL iQ (qv 2) (qv 6)) aj))))))))))),?_)
 have hpl:=hh.wf.rD;have nd:=hh.wf.fP;have hcl:st.bU.length<=100:=hh.wf.gk▸hh.wf.lR;have zsc:∀p∈st.ah,Jm.Sz 8000 p.sc:=λp hp=>Jm.Sz.mw (by have:=hh.wf.rE p hp;have:=hh.wf.gq;omega) (hh.wf.rE p hp).2 hh.wf.big;have zcm:∀c∈st.bU,Jm.Sz 8000 c:=λc hc=>Jm.Sz.mw (by have:=hh.wf.qf c hc;have:=hh.wf.gq;omega) (hh.wf.qf c hc).2 hh.wf.big;have h:=hh.h;refine(A.ab,_,h.d9,λob=>?_);refine(_,Z,A.a,T.hold,A.dx,_,_,Z,fj h.d9 h.oa (λk z=>by cases z),X.cH,X.hab,Z,A.ab,ob,_,Z,aq,λl1 hl1=>?_);have el:=v5 h.ql;refine iD (n:=st.ah.length) 0 (λi out H1=>aM (upd H A.ab (.fX ob (.dK (cY st.ah A.qs)))) H1/\out=((st.ah.take i).map λp:Pt=>p.sc*kept).map V.int) (by omega) (aF hl1 _,Z) (λi out H1 hi _ hp=>(hp.1 _ _ aq,el▸hi)) (λout H1 _ hp=>(hp.1 _ _ aq,el▸aO _)) ?_ ?_
 .rintro i x out H1 H2 hi eU ha ⟨g,e⟩ ⟨rfl,kv,hkv,rfl⟩;have ep:=a_ hi;obtain⟨qq,eq,k1,k2,_⟩:=h.find ep;rw[vZ ep eq]at hkv;cases hkv;have hq:=g _ _ (fj h.d9 k1 (λk z=>by cases z));refine(_,Z,qq.1,T.part,qq.2.1,_,_,Z,hq,X.cP,X.Jf,Z,_,Z,_,_,Z,Z,gi (zsc _ (xY hi)) kz,ha,g.cJ hl1 _,?_);subst e;rw[take_snoc ep,bQ,bQ];rfl
 rintro o1 H1 alC ha1 ⟨g1,e1⟩;rw[cQ]at e1;have hz1:=g1 _ _ (aq (H:=H) (a:=A.ab) (o:=.fX ob (.dK (cY st.ah A.qs))));have na1:l1≠A.ab:=λe=>by rw[e,hz1]at ha1;cases ha1
 refine(hz1,?_);have s2:aM H (upd H1 A.ab (.dK (cY st.ah A.qs))):=tF h.d9 g1;have alD:H l1=none:=qg h.d9 hl1;have ha2:upd H1 A.ab (.dK (cY st.ah A.qs)) l1=some (.lst ((jz st kept).map V.int)):=by rw[aA na1,ha1,e1];rfl
 generalize upd H1 A.ab (.dK (cY st.ah A.qs))=H2 at *;clear g1 hz1 ha1 e1;have h2:=h.mono s2;have Tc:=s2.seq hla;refine(_,Z,A.a,T.hold,A.dx,_,_,Z,h2.oa,X.cH,X.BF,Z,_,Z,_,_,_,_,_,_,Z,.lst (aC.of h2.jV),.lst Tc,λl2 hl2=>?_);refine yZ (K:=K) (n:=st.bU.length) [0,1] (λi out H3=>aM H2 H3/\out=(List.zipWith (λt m=>t*kept+m) (st.bU.take i) (jp.take i)).map V.int) (by decide) (by omega) (aF hl2 _,Z) (λi out H3 hi _ hp=>(aC.of (hp.1 _ _ h2.jV),hp.1.seq Tc,by rw[aG];exact hi,by rw[aG];omega))
  (λout H3 _ hp=>(aC.of (hp.1 _ _ h2.jV),hp.1.seq Tc,.inl (by rw[aG];exact aO _))) ?_ ?_
 .rintro i x out H3 H4 hi eU ha ⟨g,e⟩ ⟨p,x1,y1,hp,rfl,rfl,e1,e2⟩;obtain⟨t,rfl,et⟩:=h_ e1;obtain⟨c,rfl,ec⟩:=h_ e2;have g1:=aF hp (.tup [.int t,.int c]);refine(p,_,Z,cU.of aq,Z,_,Z,_,Z,_,_,Z,Z,gi (zcm t (bg et)) kz,_,Z,_,_,Z,Z,g1 _ _ ha,(g.trans g1).cJ hl2 _,?_);rw[nv _ et ec,e,bQ];rfl
 rintro o2 H3 Ic VO ⟨g3,e3⟩;rw[cQ,<-hal,cQ]at e3;have ec3:o2=(gP st kept jp).map V.int:=e3;subst ec3;have s3:=s2.trans g3;have h3:=h.mono s3;have X6:=g3 _ _ ha2;have alE:H l2=none:=s2.free hl2;have n12:l1≠l2:=λe=>by rw[e,hl2]at ha2;cases ha2
 clear e3 h2 Tc g3 ha2 s2;have lsc:(jz st kept).length=st.ah.length:=by unfold jz;rw[aG]
 have lcm:(gP st kept jp).length=st.bU.length:=by unfold gP;rw[kL,hal,zY]
 refine(_,Z,_,Z,_,Z,l1,l2,_,_,Z,Z,X6,VO,by rw[aG,aG,lsc,lcm];exact fG (Nat.add_le_add hpl hcl) (by rw[mY];decide),λp3 hp3=>?_);rw[<-bQ];have g4:=aF hp3 (.lst ((jz st kept++gP st kept jp).map V.int));refine⟨(whole,p3,_,Z,aC.of aq,by omega,?_,?_)⟩
 .intro t ht;rcases dN.mp ht with z|z
  .unfold jz at z;obtain⟨p,hp,rfl⟩:=bw.mp z;exact pM (by have:=hh.wf.rE p hp;omega) (by omega)
  .obtain ⟨c,hc,m,hm,rfl⟩:=wO (show t∈List.zipWith _ st.bU jp from z);have a1:=pM (hh.wf.qf c hc).1 (by omega:0<=kept);have a2:=(haz m hm).1;omega
 have s4:=s3.trans g4;have h4:=h.mono s4;have G4:=hh.g.same s4;have F4:Fr n ρ H ρ (upd H3 p3 (.lst ((jz st kept++gP st kept jp).map V.int))):=Fr.of_same s4;have b1:=g4 _ _ X6;have b2:=g4 _ _ VO;generalize upd H3 p3 (.lst ((jz st kept++gP st kept jp).map V.int))=H4 at *;clear X6 VO s3 h3 g4;obtain⟨sd,YV⟩:∃sd,sd=cE st kept whole jp:=(_,rfl)
 rw[show rK whole (jz st kept++gP st kept jp)=sd from YV.symm];have sp:0<sd:=YV▸BK _ _ w0;have Ve:sd∣whole:=YV▸(BJ _ _).1;have sz:Jm.Sz 60 sd:=wz.dvd w0 (by omega) Ve;have wq:0<whole / sd:=Int.ediv_pos_of_pos_of_dvd w0 (by omega) Ve;have wqz:Jm.Sz 60 (whole / sd):=wz.ediv sp;have YW:∀{i:Int},CO i sd:=λ{i}=>wH sp (sz.mono (by decide));refine(A.ab,_,h4.d9,λVP=>?_);refine(_,Z,A.a,T.hold,A.dx,_,_,Z,fj h4.d9 h4.oa (λk z=>by cases z),X.cH,X.hab,Z,A.ab,_,Z,.inr (VP,aq),λv hv=>?_);have nva:v≠A.ab:=λe=>by rw[e,aq]at hv;cases hv
 have YX:H4 v=none:=qg h4.d9 hv;have g5:=aF YX (mZ v A.ab);have hv5:upd H4 v (mZ v A.ab) v=some (mZ v A.ab):=aq;rw[lS (cC nva)];have h5:=h4.mono g5;have G5:=G4.same g5;have F5:=F4.trans (Fr.of_same (ρ:=ρ) g5);have s5:=s4.trans g5;have c1:=g5 _ _ b1;have c2:=g5 _ _ b2;generalize upd H4 v (mZ v A.ab)=H5 at *;clear h4 G4 F4 s4 b1 b2 g5;refine(_,Z,_,_,_,_,_,_,Z,.vals (fj h5.d9 hv5 (λk z=>by cases z)) aq,.lst (aC.of (fj h5.d9 c1 (λk z=>by cases z))),?_);have exl:((cY st.ah A.qs).map λp=>p.2).length=st.ah.length:=by rw[aG];exact el
 have eyl:((jz st kept).map V.int).length=st.ah.length:=by rw[aG];exact lsc
 refine wK (n:=st.ah.length) (λi σ H'=>(∃s7 s8,σ=[some (.ref A.a),some (.int kept),some (.int whole),some (.ref la),some (.ref l1),some (.ref l2),some (.int sd),s7,s8])/\∃H6,H'=upd H6 A.ab (.fX VP (.dK (cY st.ah A.qs)))/\Gh ρ H6/\Fr n ρ H ρ H6/\aY T n ρ A H6 { st with ah:=(st.ah.take i).map (λp=>{ p with sc:=p.sc*kept / sd })++st.ah.drop i }/\H6 l1=some (.lst ((jz st kept).map V.int))/\H6 l2=some (.lst ((gP st kept jp).map V.int))/\(∀b,H6 b=none->H b=none))
  ((_,_,Z),H5,Z,G5,F5,h5,c1,c2,λb e=>s5.free e) ?_ ?_ ?_ ?_
 .rintro i σ H' hi ⟨_,H6,rfl,G6,F6,h6,d1,d2,fr⟩;have e6:cY ({ st with ah:=(st.ah.take i).map (λp:Pt=>{ p with sc:=p.sc*kept / sd })++st.ah.drop i }:HS).ah A.qs=cY st.ah A.qs:=qK (tG (λp:Pt=>{ p with sc:=p.sc*kept / sd }) (λp:Pt=>p.nm) (λ_=>rfl) st.ah i);have tU:=h6.d9;rw[e6]at tU;exact(aq,aC.of (fj tU d1 (λk z=>by cases z)),exl▸hi,eyl▸hi)
 .rintro σ H' ⟨_,H6,rfl,G6,F6,h6,d1,d2,fr⟩;have e6:cY ({ st with ah:=(st.ah.take st.ah.length).map (λp:Pt=>{ p with sc:=p.sc*kept / sd })++st.ah.drop st.ah.length }:HS).ah A.qs=cY st.ah A.qs:=qK (tG (λp:Pt=>{ p with sc:=p.sc*kept / sd }) (λp:Pt=>p.nm) (λ_=>rfl) st.ah _);have tU:=h6.d9;rw[e6]at tU;exact(aq,aC.of (fj tU d1 (λk z=>by cases z)),.inl (exl▸aO _))
 .rintro i x σ H' FG hi ⟨⟨s7,s8,rfl⟩,H6,rfl,G6,F6,h6,d1,d2,fr⟩ ⟨pp,x1,y1,hpp,rfl,rfl,ex,ey⟩;have ep:=a_ hi;have ep6:=MG (λp:Pt=>{ p with sc:=p.sc*kept / sd }) ep;obtain⟨qq,eq,k1,k2,k3,k4⟩:=h6.find ep6;have nm6:=tG (λp:Pt=>{ p with sc:=p.sc*kept / sd }) (λp:Pt=>p.nm) (λ_=>rfl) st.ah i;have e6:cY ({ st with ah:=(st.ah.take i).map (λp:Pt=>{ p with sc:=p.sc*kept / sd })++st.ah.drop i }:HS).ah A.qs=cY st.ah A.qs:=qK nm6;have tU:=h6.d9;rw[e6]at tU;rw[bP,vZ ep eq]at ex;cases ex;obtain⟨sc,rfl,esc⟩:=h_ ey;have aiC:sc=(st.ah[i]).sc*kept:=by unfold jz at esc;rw[bP,ep]at esc;exact(gU esc).symm
  subst aiC;have npa:pp≠A.ab:=λe=>by rw[e,aq]at hpp;cases hpp
  have aiD:H6 pp=none:=qg tU hpp;have g7:=aF aiD (.tup [.ref qq.1,.int ((st.ah[i]).sc*kept)]);rw[lS (cC npa)];have NQ:upd H6 pp (.tup [.ref qq.1,.int ((st.ah[i]).sc*kept)]) pp=some (.tup [.ref qq.1,.int ((st.ah[i]).sc*kept)]):=aq;have h7:=h6.mono g7;have G7:=G6.same g7;have F7:=F6.trans (Fr.of_same (ρ:=ρ) g7);have X7:=g7 _ _ tU;have f1:=g7 _ _ d1;have f2:=g7 _ _ d2;have Uy:∀b,upd H6 pp (.tup [.ref qq.1,.int ((st.ah[i]).sc*kept)]) b=none->H b=none:=λb e=>fr b (g7.free e);have RA:=g7 _ _ k1;generalize upd H6 pp (.tup [.ref qq.1,.int ((st.ah[i]).sc*kept)])=H7 at *;refine(pp,_,Z,cU.of (fj X7 NQ (λk z=>by cases z)),Z,_,_,Z,_,_,Z,Z,?_);refine(_,Z,_,Z,_,_,Z,Z,YW,_,Z,qq.1,T.part,qq.2.1,_,Z,fj X7 RA (λk z=>by cases z),X.cP,X.Jf,by show 6<1000;decide,?_);have nd7:(((st.ah.take i).map (λp:Pt=>{ p with sc:=p.sc*kept / sd })++st.ah.drop i).map (λp:Pt=>p.nm)).Nodup:=nm6▸nd;have h8:=h7.mC (p1:={ st.ah[i]with sc:=(st.ah[i]).sc*kept / sd }) G7 ep6 eq rfl rfl nd7;rw[show({ st with ah:=(st.ah.take i).map (λp:Pt=>{ p with sc:=p.sc*kept / sd })++st.ah.drop i }:HS).ah.set i { st.ah[i]with sc:=(st.ah[i]).sc*kept / sd }=_ from MH (λp:Pt=>{ p with sc:=p.sc*kept / sd }) ep]at h8;have nqa:A.ab≠qq.1:=(jR RA X7 (by intro z;cases z)).symm;have nq1:l1≠qq.1:=jR f1 RA (by intro z;cases z);have nq2:l2≠qq.1:=jR f2 RA (by intro z;cases z);refine((_,_,Z),_,lS nqa,G7.wr rfl,F7.trans (Fr.write k3),h8,aA nq1▸f1,aA nq2▸f2,λb e=>Uy b ?_);by_cases z:b=qq.1
  .rw [z,aq]at e;cases e
  .rw [aA z]at e;exact e
 rintro σ H' ⟨⟨s7,s8,rfl⟩,H6,rfl,G6,F6,h6,d1,d2,fr⟩;have e6:cY ({ st with ah:=(st.ah.take st.ah.length).map (λp:Pt=>{ p with sc:=p.sc*kept / sd })++st.ah.drop st.ah.length }:HS).ah A.qs=cY st.ah A.qs:=qK (tG (λp:Pt=>{ p with sc:=p.sc*kept / sd }) (λp:Pt=>p.nm) (λ_=>rfl) st.ah _);have tU:=h6.d9;rw[e6]at tU;refine(aq,?_);rw[qG,Ah tU];rw[show({ st with ah:=(st.ah.take st.ah.length).map (λp:Pt=>{ p with sc:=p.sc*kept / sd })++st.ah.drop st.ah.length }:HS)={ st with ah:=st.ah.map λp:Pt=>{ p with sc:=p.sc*kept / sd } }from by rw[cQ,Lc,x6]]at h6;clear e6 tU h5 G5 F5 s5 c1 c2 hv5;refine(_,Z,l2,Z,(_,aC.of d2),λl3 hl3=>?_);refine iD (J:=wC K l2) (n:=((gP st kept jp).map V.int).length) 0 (λi o H'=>aM H6 H'/\o=(((gP st kept jp).take i).map (· / sd)).map V.int) (by rw[aG];omega) (aF hl3 _,Z) (λi o H' hi _ hp=>(_,_,aC.of (hp.1 _ _ d2),a_ hi)) (λo H' _ hp=>(_,aC.of (hp.1 _ _ d2),aO _)) ?_ ?_
 .rintro i y o Ha Hb hi eU ha ⟨g,e⟩ ⟨rfl,hy⟩;obtain⟨c,rfl,ec⟩:=h_ (hy _ (aC.of (g _ _ d2)));refine(_,Z,_,Z,_,_,Z,Z,YW,ha,g.cJ hl3 _,?_);subst e;rw[take_snoc ec,bQ,bQ];rfl
 rintro o3 H8 alF NS ⟨g8,e8⟩;rw[aG,cQ]at e8;subst e8;have h8:=h6.mono g8;have G8:=G6.same g8;have F8:=F6.trans (Fr.of_same (ρ:=ρ) g8);have fr8:∀b,H8 b=none->H b=none:=λb e=>fr b (g8.free e);have c3:ρ l3=none:=G6.none hl3;have n3:H l3=none:=fr l3 hl3;refine(_,Z,A.a,T.hold,A.dx,_,Z,h8.oa,X.cH,X.BF,by show 7<1000;decide,?_);obtain⟨h9,G9⟩:=BL (t:=6) h8 G8 c3 NS rfl;have F9:Fr n ρ H (b7 ρ l3 (n,6,⟨#[]⟩)) H8:=F8.jM n3;have AN:=h9.acv G9 l3 _ NS c6;have G10:=G9.wr (a:=A.a) (o:=.ins T.hold A.dx (kM { A with cm:=l3 })) rfl;have F10:=F9.trans (Fr.write (o:=.ins T.hold A.dx (kM { A with cm:=l3 })) h9.ca);show wu _ _ _ _ (upd H8 A.a (.ins T.hold A.dx (kM { A with cm:=l3 })));have aiE:∀b,upd H8 A.a (.ins T.hold A.dx (kM { A with cm:=l3 })) b=none->H b=none:=λb e=>fr8 b (by
  by_cases z:b=A.a
  .rw [z,aq]at e;cases e
  .rw [aA z]at e;exact e)
 generalize upd H8 A.a (.ins T.hold A.dx (kM { A with cm:=l3 }))=Mj at *;clear h6 G6 F6 h8 G8 F8 h9 G9 F9 NS g8 fr8 fr d1 d2;refine(_,Z,A.a,T.hold,A.dx,_,_,Z,AN.oa,X.cH,X.DC,Z,A.pu,Z,(_,aC.of AN.m8),λl4 JQ=>?_);have alG:st.bN.length<=100:=hh.wf.oU▸hh.wf.lR;refine iD (J:=wC K A.pu) (n:=(st.bN.map V.int).length) 0 (λi o H'=>aM Mj H'/\o=((st.bN.take i).map (·*(whole / sd))).map V.int) (by rw[aG];omega) (aF JQ _,Z) (λi o H' hi _ hp=>(_,_,aC.of (hp.1 _ _ AN.m8),a_ hi)) (λo H' _ hp=>(_,aC.of (hp.1 _ _ AN.m8),aO _)) ?_ ?_
 .rintro i y o Ha Hb hi eU ha ⟨g,e⟩ ⟨rfl,hy⟩;obtain⟨c,rfl,ec⟩:=h_ (hy _ (aC.of (g _ _ AN.m8)));refine(_,Z,_,Z,_,Z,_,_,Z,Z,YW,_,_,Z,Z,gi (hpz c (bg ec)) wqz,ha,g.cJ JQ _,?_);subst e;rw[take_snoc ec,bQ,bQ];rfl
 rintro o4 H11 alH adN ⟨g11,e11⟩;rw[aG,cQ]at e11;subst e11;have h11:=AN.mono g11;have G11:=G10.same g11;have F11:=F10.trans (Fr.of_same (ρ:=b7 ρ l3 (n,6,⟨#[]⟩)) g11);have c4:b7 ρ l3 (n,6,⟨#[]⟩) l4=none:=G10.none JQ;have n4:H l4=none:=aiE l4 JQ;refine(_,Z,A.a,T.hold,A.dx,_,Z,h11.oa,X.cH,X.DC,by show 7<1000;decide,?_);obtain⟨h12,G12⟩:=BL (t:=7) h11 G11 c4 adN rfl;have F12:Fr n ρ H (b7 (b7 ρ l3 (n,6,⟨#[]⟩)) l4 (n,7,⟨#[]⟩)) H11:=F11.jM n4;have h13:=h12.UO G12 l4 _ adN c6;have G13:=G12.wr (a:=A.a) (o:=.ins T.hold A.dx (kM { { A with cm:=l3 }with pu:=l4 })) rfl;have F13:=F12.trans (Fr.write (o:=.ins T.hold A.dx (kM { { A with cm:=l3 }with pu:=l4 })) h12.ca);rw[show iK "purses" (V.ref l4) (kM { A with cm:=l3 })=kM { { A with cm:=l3 }with pu:=l4 }from rfl];generalize upd H11 A.a (.ins T.hold A.dx (kM { { A with cm:=l3 }with pu:=l4 }))=H13 at *;refine(_,Z,A.a,T.hold,A.dx,_,_,Z,h13.oa,X.cH,X.y_,Z,A.bt,A.db,_,Z,h13.kP,Z,_,Z,_,Z,_,_,Z,Z,YW,?_);refine⟨(n,_,{ { A with cm:=l3 }with pu:=l4 },{ st with ah:=st.ah.map (λp:Pt=>{ p with sc:=p.sc*kept / sd }),bU:=(gP st kept jp).map (· / sd),bN:=st.bN.map (·*(whole / sd)) },whole / sd,Z,G13,h13,by show st.stp.length<=1000;omega,hh.wf.big.mono (by decide),wqz.mono (by decide),λρ' A' H' a1 a2 a3 a4=>?_)⟩;have eb:bu st kept whole jp=fV { st with ah:=st.ah.map (λp:Pt=>{ p with sc:=p.sc*kept / sd }),bU:=(gP st kept jp).map (· / sd),bN:=st.bN.map (·*(whole / sd)) } (whole / sd):=by unfold bu;rw[YV]
 rw[eb]at wf' q;exact q ρ' A' H' (a1,a2,wf') a3 (F13.trans a4)
abbrev xu:Stmt:=inClass (top 21) 3
abbrev uu:Da Str:=["self","rows"]
abbrev Pg:Da Str:=uu.append ["amounts","name","amount","whole","lost"]
def i6:aQ Pg uu (aD xu):=c9
theorem NT{T:TC}(F:ja K T.hold "cast" "Hold.cast" xu f fd)(X:Txt K T)(xw:Dn P w K mg base 1 "amounts_of" rS (UY K))(nJ:Dn P w K mg base 2 "check_loss" nH YI)(c5:Mn P w K mg base 1 T.hold "part_of" fJ (D4 T))(fE:Mn P w K mg base 1 T.hold "whole" jO (ze T))(lH:Mn P w K mg base 3 T.hold "blend" nI (HG T K))(rZ:Mn P w K mg base 1 T.hold "given_up" nc (Q9 T))(j0:Mn P w K mg base 1 T.hold "lessen" mE (MK T))(fT:mg "sum"=none):Mn P w K mg base 4 T.hold "cast" uu (U1 T K):=by
 refine F.oA i6 λ_ _ _ _ H _ Q E hr h=>?_;obtain⟨⟨n,ρ,A,st,l,us,rs,rfl,hh,hl,hR,ok,q⟩⟩:=h;have wf:=hh.wf;have nd:=ok.nd;refine(_,(@cZ.h _ _ _ (ak (aV (i:=2) i6.nd (bB xw hr (af (qv 1) aj)))
  (ak (zm (fk fQ rfl (Ef (qv 2)) (je K (n:=2) rfl (cT (aW (i:=3) i6.nd) (cT (aW (i:=4) i6.nd) jc))) (au (cu (bB nJ hr (af (aN K (cy c5 hr (qv 0) (af (qv 3) aj))) (af (qv 4) aj)))))))
  (ak (aV (i:=5) i6.nd (tO fE hr (qv 0)))
  (ak (aV (i:=6) i6.nd (aK (Jd rfl) (by rfl) fT wg (af (HM (qv 2)) aj)))
  (ak (b_ (aS Lm (qv 6) (qv 5) (aZ _)) (au g_) br)
  (ak (cu (cy lH hr (qv 0) (af (aL j_ (qv 5) (qv 6)) (af (qv 5) (af (cy rZ hr (qv 0) (af (qv 2) aj)) aj)))))
  (au (zm (fk fQ rfl (Ef (qv 2)) (je K (n:=2) rfl (cT (aW (i:=3) i6.nd) (cT (aW (i:=4) i6.nd) jc))) (au (cu (cy j0 hr (qv 0) (af (qv 3) (af (qv 4) aj))))))))))))))),?_)
 refine(_,Z,⟨(l,us,rs,Z,hl,hR,nd,ok.ne,ok.len,λd H1 g1 hdn hd1=>?_)⟩);have ef:=hh.mono g1;have F1:Fr n ρ H ρ H1:=Fr.of_same g1;have cd:ρ d=none:=hh.g.none hdn;have al:=Aj rs;refine(d,_,hd1,λob=>(_,Z,d,ob,_,Z,aq,?_));refine wK (n:=(iZ rs).length) (λi σ H'=>aM (upd H1 d (.fX ob (.dK (iZ rs)))) H'/\∃s3 s4 s5 s6,σ=[some (.ref A.a),some (.ref l),some (.ref d),s3,s4,s5,s6])
  (aM.refl _,_,_,_,_,Z) (λi σ H' hi hp=>(hp.1 _ _ aq,hi)) (λσ H' hp=>(hp.1 _ _ aq,aO _)) ?_ ?_
 .rintro i x σ H3 H4 hi ⟨g,s3,s4,s5,s6,rfl⟩ ⟨pp,kv,hpp,hkv,rfl,rfl⟩;unfold iZ at hkv;rw[bP]at hkv;obtain⟨r,er,rfl⟩:=nt.mp hkv;have hrm:=bg er;obtain⟨r1,zr,p,fc,Gq,hle⟩:=ok.row r hrm;obtain⟨ip,AV,VM⟩:=oQ fc;have ep:st.ah[ip]?=some p:=by rw[a_ AV,VM]
  have g4:=aF hpp (.tup [.str r.1,.int r.2]);have gg:=g.trans g4;have hf:HH T n ρ A (upd H1 d (.fX ob (.dK (iZ rs)))) st:=ef.FF cd hd1 rfl rfl;have h4:=hf.mono gg;have NQ:upd H3 pp (.tup [.str r.1,.int r.2]) pp=some (.tup [.str r.1,.int r.2]):=aq;show DT K 2 _ _ _ (upd H3 pp (.tup [.str r.1,.int r.2])) _;generalize upd H3 pp (.tup [.str r.1,.int r.2])=H4 at *;obtain⟨qq,eq,k1,k2,_,_⟩:=h4.h.find ep;refine(pp,_,Z,cU.of NQ,Z,_,_,Z,_,_,Z,Z,?_);refine(_,Z,A.a,A.dx,_,Z,h4.h.oa,Z,_,Z,⟨(n,ρ,A,st,ip,p,qq,by rw[<-Gq];rfl,h4.h,wf.fP,ep,eq,?_)⟩);refine(qq.1,T.part,qq.2.1,_,_,Z,k1,X.cP,X.wM,Z,_,Z,⟨(p.wo,r.2,Z,r1,hle,?_)⟩);exact(gg,_,_,_,_,Z)
 rintro σ H2 ⟨g2,s3,s4,s5,s6,rfl⟩;refine(g2 _ _ aq,?_);have gB:=tF hd1 g2;have jW:=ef.mono gB;have F2:Fr n ρ H ρ (upd H2 d (.dK (iZ rs))):=F1.trans (Fr.of_same gB);have hd2:upd H2 d (.dK (iZ rs)) d=some (.dK (iZ rs)):=aq;generalize upd H2 d (.dK (iZ rs))=H2' at *;refine(_,Z,A.a,A.dx,_,Z,jW.h.oa,Z,⟨(n,ρ,A,st,Z,jW.h,wf.rD,λH3 g3=>?_)⟩);have m_:=jW.mono g3;have YY:=g3 _ _ hd2;have F3:=F2.trans (Fr.of_same (ρ:=ρ) g3);refine(_,Z,d,_,Z,.inl YY,λv hv=>(v,d,_,rs.map (·.2),Z,aq,.inl (by rw[aA (aJ YY hv)];exact YY),by unfold iZ;rw[fH,fH];rfl,?_));have g4:=aF hv (mZ v d);have rX:=m_.mono g4;have hd4:=g4 _ _ YY;have F4:=F3.trans (Fr.of_same (ρ:=ρ) g4);generalize upd H3 v (mZ v d)=H4 at *;have bo:=ok.blend wf;refine(_,Z,_,Z,_,_,Z,Z,_,Z,dX (λc=>absurd (eO c) (by have:=ok.lost;show ¬ aI st<=bL rs;omega)) λ_=>?_);refine(_,Z,A.a,A.dx,_,Z,rX.h.oa,Z,_,Z,_,Z,_,_,Z,Z,_,Z,_,Z,A.a,A.dx,_,Z,rX.h.oa,Z,_,Z,⟨(n,ρ,A,st,d,rs,Z,rX.h,wf,hd4,cd,ok.len,λr hr=>((ok.row r hr).2.1,by obtain⟨p,hp,e,_⟩:=(ok.row r hr).2.2;exact(p,hp,e)),λl5 H5 g5 hn5 hl5=>?_)⟩);have sV:=rX.mono g5;have hd5:=g5 _ _ hd4;have F5:=F4.trans (Fr.of_same (ρ:=ρ) g5);have zk:Jm.Sz 60 (aI st-bL rs):=bo.big.of_le (by have:=bo.k;have:=bo.l;omega);have zG:∀m∈gC st rs,0<=m/\Jm.Sz 8900 m:=λm hm=>by have h1:=bo.add m hm;have h2:=wf.gq;have zl:Jm.Sz 60 (bL rs):=bo.big.of_le (by have:=bo.k;have:=bo.l;omega);exact(h1.1,Jm.Sz.mw (by have:=pM bo.l (show 0<=st.prod by omega);omega) h1.2 ((zl.mul bo.prod).mono (by decide)))
 refine⟨(n,ρ,A,st,aI st-bL rs,aI st,l5,gC st rs,Z,sV,aC.of hl5,bo.len,bo.k,by have:=bo.k;have:=bo.l;omega,zk,bo.big,zG,ok.bN,ok.stp,Ak wf bo,λρ6 A6 H6 AU e6 f6=>?_)⟩;obtain⟨hd6,cd6⟩:=f6 d _ hd5 (λt x=>by rw[cd];intro z;cases z);rw[cd]at cd6;have F6:=F5.trans f6;refine(d,_,hd6,λVP=>(_,Z,d,VP,_,Z,aq,?_));generalize eB:bu st (aI st-bL rs) (aI st) (gC st rs)=RB at *;have aiF:Due RB rs:=eB▸Jr ok.due;have afF:gX st rs=rs.foldl eL RB:=by unfold gX;rw[eB]
 refine wK (n:=(iZ rs).length) (λi σ H'=>∃ρ' A',HH T n ρ' A' H' ((rs.take i).foldl eL RB)/\A'.a=A.a/\H' d=some (.fX VP (.dK (iZ rs)))/\ρ' d=none/\Fr n ρ H ρ' H'/\Due ((rs.take i).foldl eL RB) (rs.drop i)/\∃s3 s4 s5 s6,σ=[some (.ref A.a),some (.ref l),some (.ref d),s3,s4,s5,s6])
  (ρ6,A6,AU.FF cd6 hd6 rfl rfl,e6,aq,cd6,F6.new hdn,aiF,_,_,_,_,Z) (λi σ H' hi hp=>by obtain⟨_,_,_,_,e,_⟩:=hp;exact(e,hi)) (λσ H' hp=>by obtain⟨_,_,_,_,e,_⟩:=hp;exact(e,aO _)) ?_ ?_
 .rintro i x σ H7 H8 hi ⟨ρ7,A7,RC,e7,YZ,Y0,F7,due,s3,s4,s5,s6,rfl⟩ ⟨pp,kv,hpp,hkv,rfl,rfl⟩;unfold iZ at hkv;rw[bP]at hkv;obtain⟨r,er,rfl⟩:=nt.mp hkv;have hir:i<rs.length:=al▸hi;have edr:rs.drop i=r::rs.drop (i+1):=by rw[RW hir];rw[a_ hir]at er;rw[gU er]
  rw[edr]at due;have g4:=aF hpp (.tup [.str r.1,.int r.2]);have VQ:=RC.mono g4;have hd8:=g4 _ _ YZ;have F8:=F7.trans (Fr.of_same (ρ:=ρ7) g4);have NQ:upd H7 pp (.tup [.str r.1,.int r.2]) pp=some (.tup [.str r.1,.int r.2]):=aq;show DT K 2 _ _ _ (upd H7 pp (.tup [.str r.1,.int r.2])) _;generalize upd H7 pp (.tup [.str r.1,.int r.2])=H8 at *;refine(pp,_,Z,cU.of NQ,Z,_,_,Z,_,_,Z,Z,?_);have eN:(rs.take (i+1)).foldl eL RB=eL ((rs.take i).foldl eL RB) r:=by rw[take_snoc er,Ho];rfl
  have ndr:((r::rs.drop (i+1)).map (λr:Row=>r.1)).Nodup:=by rw[<-edr,List.map_drop];exact nd.sublist (List.drop_sublist _ _)
  refine(_,Z,A.a,A7.dx,_,Z,e7▸VQ.h.oa,Z,_,Z,_,Z,⟨(n,ρ7,A7,_,r,by rw[e7];rfl,VQ,due r cO,U4 RC.wf due,λρ9 A9 H9 Y3 e9 f9=>?_)⟩);obtain⟨hd9,cd9⟩:=f9 d _ hd8 (λt x=>by rw[Y0];intro z;cases z);rw[Y0]at cd9;rw[<-eN]at Y3;exact(ρ9,A9,Y3,e9.trans e7,hd9,cd9,F8.trans f9,eN▸MO RC.wf due ndr,_,_,_,_,Z)
 rintro σ H7 ⟨ρ7,A7,RC,e7,YZ,Y0,F7,due,s3,s4,s5,s6,rfl⟩;rw[al,cQ,<-afF]at RC;exact(YZ,q ρ7 A7 _ (RC.FF Y0 YZ rfl rfl) e7 (F7.new hdn))
abbrev tV:Stmt:=inClass (top 4) 2
abbrev j6:Da Str:=["self","top"]
abbrev Ke:Da Str:=j6.append ["rest","step","shared"]
def jD:aQ Ke j6 (aD tV):=c9
theorem Ig{T:TC}(F:ja K T.bot "over" "Bottom.over" tV f fd)(X:Txt K T)(jf:Dn P w K mg base 1 "common_factor" kD WW):Mn P w K mg base 2 T.bot "over" j6 (CW T):=by
 refine F.oA jD λ_ _ _ _ H _ Q E hr h=>?_;obtain⟨⟨bt,db,sp,kn,stp,prod,top,rfl,hb,hs,ep,h2,hz,q⟩⟩:=h;refine(_,(@cZ.h _ _ _ (ak (aV (i:=2) jD.nd (aN K (qv 0)))
  (ak (fk fQ rfl (dI K (aN K (qv 0))) (aW (i:=3) jD.nd) (ak (aV (i:=4) jD.nd (bB jf hr (af (qv 3) (af (aL lq (qv 1) (qv 3)) aj))))
  (au (jk (aS jS (qv 4) ai (aZ _)) (ak (aV (i:=1) jD.nd (aL iQ (qv 1) (qv 4)))
  (au (aV (i:=2) jD.nd (aL iQ (qv 2) (qv 4))))) br))))
  (au (aX (f7 (af (qv 1) (af (qv 2) aj)))))))),?_)
 have p1:1<=prod:=ep▸MJ h2;refine(_,Z,bt,T.bot,db,_,_,Z,hb,X.cB,X.QW,Z,?_);refine(_,Z,bt,T.bot,db,_,_,Z,hb,X.cB,X.bst,Z,sp,Z,(_,aC.of hs),?_);refine lQ (K:=K) (xs:=stp.map V.int) (λi σ H'=>H'=H/\∃(t r d:Int)(s3 s4:Option V),σ=[some (.ref bt),some (.int t),some (.int r),s3,s4]/\t*prod=top*r/\r=d*(stp.drop i).foldl (·*·) 1/\0<d/\Jm.cf t d=1)
  (Z,top,prod,1,none,none,Z,Z,by rw[List.drop_zero,Int.one_mul];exact ep,by decide,by unfold Jm.cf;rw[Int.gcd_one];rfl) (λi σ H' _ hp=>hp.1▸aC.of hs) ?_ ?_
 .rintro i x σ H' hx ⟨rfl,t,r,d,s3,s4,rfl,e1,e2,d0,c⟩;obtain⟨st,rfl,es⟩:=h_ hx;have hm:=bg es;have s2:=h2 st hm;have hi:=(c_.mp es).1;have hdr:stp.drop i=st::stp.drop (i+1):=by rw[RW hi];congr 1;rw[a_ hi]at es;exact gU es
  rw[hdr,HF]at e2;have r0:0<=t % st:=pL _ (by omega);refine(_,Z,_,Z,_,Z,_,_,Z,Z,(by show 0<st;omega),st,t % st,Z,by omega,r0,?_);rw[Jm.Hu t st (by omega)];obtain⟨o1,o2⟩:=UU d0 (by omega:0<st) c;have gp:0<Jm.cf t st:=Jm.E_ t st (.inr (by omega));have gz:Jm.Sz 9000 (Jm.cf t st):=((hz.of_le (by have:=YG h2 hm;rw[<-ep]at this;omega)).dvd (by omega:0<st) (by omega) (Jm.rm t st)).mono (by decide);obtain⟨u,hu⟩:=Jm.uf t st;obtain⟨v,hv⟩:=Jm.rm t st;have e3:t / Jm.cf t st*prod=top*(r / Jm.cf t st):=by
   have a1:t / Jm.cf t st=u:=by rw[Yh (by omega) hu]
   have a2:r=Jm.cf t st*(d*v*(stp.drop (i+1)).foldl (·*·) 1):=by
    rw[e2]
    conv=>lhs;rw[hv]
    rw[i7 (Jm.cf t st),Int.mul_left_comm,i7 d]
   have a3:r / Jm.cf t st=d*v*(stp.drop (i+1)).foldl (·*·) 1:=by rw[Yh (by omega) a2]
   rw[a1,a3];have rL:Jm.cf t st*(u*prod)=Jm.cf t st*(top*(d*v*(stp.drop (i+1)).foldl (·*·) 1)):=by
    rw[<-i7,<-hu,e1]
    conv=>lhs;rw[a2]
    rw[Int.mul_left_comm]
   exact Int.eq_of_mul_eq_mul_left (by omega) rL
  have e4:r / Jm.cf t st=d*(st / Jm.cf t st)*(stp.drop (i+1)).foldl (·*·) 1:=by
   have a4:st / Jm.cf t st=v:=by rw[Yh (by omega) hv]
   have a2:r=Jm.cf t st*(d*v*(stp.drop (i+1)).foldl (·*·) 1):=by
    rw[e2]
    conv=>lhs;rw[hv]
    rw[i7 (Jm.cf t st),Int.mul_left_comm,i7 d]
   rw[a4,Yh (by omega) a2]
  refine(λσ' H2=>H2=H'/\σ'=[some (.ref bt),some (.int (t / Jm.cf t st)),some (.int (r / Jm.cf t st)),some (.int st),some (.int (Jm.cf t st))],?_,?_)
  .refine (_,Z,_,_,Z,Z,_,Z,dX (λc=>?_) (λc=>?_))
   .exact (_,Z,_,Z,_,_,Z,Z,wH gp gz,_,Z,_,Z,_,_,Z,Z,wH gp gz,Z,Z)
   .have c':¬ 1<Jm.cf t st:=qR (lO.mpr c);have g1:Jm.cf t st=1:=by omega
    refine(Z,?_);rw[g1,zX,zX];rfl
  rintro σ' H2 ⟨rfl,rfl⟩;exact(Z,_,_,_,_,_,Z,e3,e4,o2,o1)
 rintro σ H' ⟨rfl,t,r,d,s3,s4,rfl,e1,e2,d0,c⟩;rw[List.drop_of_length_le (by rw[aG];exact aO _),List.foldl_nil,pO]at e2;subst e2;refine(_,Z,_,Z,(gR 2),λp hp=>?_);refine q p _ (aF hp _) ?_;rw[aq];obtain⟨a1,a2⟩:=Jm.Ut d0 c;have:Jm.fr top prod=Jm.fr t r:=Jm.Lp (by omega) d0 e1.symm;unfold oS;rw[this,a1,a2]
abbrev r8:Stmt:=inClass (top 4) 3
abbrev oK:Da Str:=["self","top"]
abbrev Ih:Da Str:=oK
def Gr:aQ Ih oK (aD r8):=c9
theorem Gs{T:TC}(F:ja K T.bot "share" "Bottom.share" r8 f fd)(X:Txt K T)(gY:Mn P w K mg base 2 T.bot "over" j6 (CW T)):Mn P w K mg base 3 T.bot "share" oK (MC T):=by
 refine F.oA Gr λ_ _ _ _ H _ Q E hr h=>?_;obtain⟨⟨bt,db,sp,kn,stp,prod,top,AT,rfl,hb,hs,ep,h2,hz,hk,kat,kl,knd,q⟩⟩:=h;refine(_,(@cZ.h _ _ _ (ak (jk (zj (BZ (bX hr) (qv 1) (aN K (qv 0)))) (au (qM (bX hr) (aN K (qv 0)) (qv 1) (cy gY hr (qv 0) (af (qv 1) aj)) rfl)) br)
  (au (aX (bJ (bX hr) (aN K (qv 0)) (qv 1)))))),?_)
 refine⟨λσ' H'=>σ'=[some (.ref bt),some (.int top)]/\(∀b o,H b=some o->b≠kn->H' b=some o)/\∃kvs' r,H' kn=some (.dK kvs')/\Mu H' kvs' prod/\kvs'.length<=AT.length+1/\(kvs'.map (·.1)).Nodup/\eE kvs' (Sum.inl top)=some (.ref r)/\H' r=some (oS (Jm.fr top prod)),?_,?_⟩
 .refine (_,Z,_,Z,bt,T.bot,db,_,_,Z,hb,X.cB,X.UR,Z,kn,_,Z,cD.k (k:=Sum.inl top) hk,_,Z,?_);cases e:eE AT (Sum.inl top)with
  | some v=>refine aR (Z,λb o e _=>e,AT,?_);obtain⟨t,r,e2,hr2⟩:=kat _ (Xg e);cases e2;exact(r,hk,kat,Nat.le_succ _,knd,e,hr2)
  | none=>
   refine fZ ?_;refine(_,Z,bt,db,_,Z,hb,Z,_,Z,⟨(bt,db,sp,kn,stp,prod,top,Z,hb,hs,ep,h2,hz,λr H1 g1 hr1=>?_)⟩);have sl:AT.length<sizeLine:=by rw[mY];omega
   refine(_,Z,bt,T.bot,db,_,_,Z,g1 _ _ hb,X.cB,X.UR,Z,_,Z,kn,_,Z,uY.k (k:=Sum.inl top) (g1 _ _ hk) sl,Z,λb o e hb=>aA hb▸g1 _ _ e,_,r,aq,?_,?_,ZG _ knd e,by rw[WK,ay rfl],aA (jR hr1 (g1 _ _ hk) (by intro z;cases z))▸hr1)
   .rw [qc _ e];intro p hp;rcases dN.mp hp with z|z
    .obtain ⟨t,r',e2,hr2⟩:=kat p z;exact(t,r',e2,aA (jR (g1 _ _ hr2) (g1 _ _ hk) (by intro z;cases z))▸g1 _ _ hr2)
    .rw [dw.mp z];exact(top,r,Z,aA (jR hr1 (g1 _ _ hk) (by intro z;cases z))▸hr1)
   .rw [qc _ e,c7];exact aO _
 rintro σ' H' ⟨rfl,k1,kvs',r,e1,e2,e3,e4,e5,e6⟩;exact(_,Z,bt,T.bot,db,_,_,Z,k1 _ _ hb (jR hb hk (by intro z;cases z)),X.cB,X.UR,Z,_,Z,kn,_,Z,e5▸cD.k (k:=Sum.inl top) e1,q r H' kvs' k1 e1 e2 e3 e4 e6)
abbrev tW:Stmt:=inClass (top 21) 12
abbrev mF:Da Str:=["self","part"]
abbrev Kf:Da Str:=mF.append ["tops"]
def zJ:aQ Kf mF (aD tW):=c9
theorem Ii{T:TC}(F:ja K T.hold "shares" "Hold.shares" tW f fd)(X:Txt K T)(c5:Mn P w K mg base 1 T.hold "part_of" fJ (D4 T))(gx:Mn P w K mg base 1 T.hold "tops_of" jC (CV T))(tX:Mn P w K mg base 3 T.bot "share" oK (MC T))(jv:mg "zip"=none):Mn P w K mg base 4 T.hold "shares" mF (Ar T):=by
 refine F.oA zJ λ_ _ _ _ H _ Q E hr h=>?_;obtain⟨⟨n,ρ,A,st,ip,pt,rfl,hh,ep,hkn,q⟩⟩:=h;obtain⟨qq,eq,k1,k2,k3,k4⟩:=hh.h.find ep;have fc:=bg ep;refine(_,(@cZ.h _ _ _ (ak (aV (i:=2) zJ.nd (cy gx hr (qv 0) (af (cy c5 hr (qv 0) (af (qv 1) aj)) aj)))
  (au (aX (FZ (Ed ["owner","top","self"] [none,none,some 0] rfl (tN K (by rfl) jv (af (aN K (qv 0)) (af (qv 2) aj))) (λ_ _ _ _=>(je K (n:=2) rfl (cT (aW (i:=0) (show List.Nodup (["owner","top","self"] :Da Str)from by decide +kernel)) (cT (aW (i:=1) (show List.Nodup (["owner","top","self"] :Da Str)from by decide +kernel)) jc)))) (λ_ _ _ _=>(f7 (af (qv 0) (af (cy tX hr (aN K (qv 2)) (af (qv 1) aj)) aj)))) (λ_ _ _ _=>(aS jS (qv 1) ai (aZ _))) rfl (by rfl))))))),?_)
 refine(_,Z,A.a,A.dx,_,Z,hh.h.oa,Z,_,Z,A.a,A.dx,_,Z,hh.h.oa,Z,_,Z,⟨(n,ρ,A,st,ip,pt,qq,Z,hh.h,hh.wf.fP,ep,eq,?_)⟩);refine⟨(n,ρ,A,st,ip,pt,qq,Z,hh.h,hh.wf,ep,eq,λl H1 g1 hl hl1=>?_)⟩;have ef:=hh.mono g1;have cl:ρ l=none:=hh.g.none hl;have tl:(aT st pt).length=st.own.length:=by unfold aT;rw[kL,hh.wf.rows pt fc,hh.wf.gk,zY]
 have eU:=hh.wf.lR;refine(A.pl,_,ef.h.jj,λob=>?_);have hl2:upd H1 A.pl (.fX ob (.dK (gO 0 st.own))) l=some (.lst ((aT st pt).map V.int)):=fj ef.h.jj hl1 (λk z=>by cases z);refine(_,Z,A.a,T.hold,A.dx,_,_,Z,fj ef.h.jj ef.h.oa (λk z=>by cases z),X.cH,X.hpl,Z,_,Z,_,_,_,_,_,_,Z,.keys aq,.lst (aC.of hl2),λAp Bi=>?_);have yx:H1 Ap=none:=qg ef.h.jj Bi;have ca:ρ Ap=none:=ef.g.none yx;have RD:Ap≠A.pl:=λe=>by rw[e,aq]at Bi;cases Bi
 have nal:Ap≠l:=λe=>by rw[e,hl1]at yx;cases yx
 refine ZX (K:=K) (n:=st.own.length) [0,1] (λi out Hc=>∃H5,Hc=upd H5 A.pl (.fX ob (.dK (gO 0 st.own)))/\Gh ρ H5/\Fr n ρ H ρ H5/\aY T n ρ A H5 { st with kn:=st.kn+i }/\H5 l=some (.lst ((aT st pt).map V.int))/\iY H5 out (((List.zip st.own (aT st pt)).take i).filterMap λx=>if 0<x.2 then some (x.1,Jm.fr x.2 st.prod) else none))
  (by decide) (by omega) (upd H1 Ap (.lst []),lS (cC RD),ef.g.alloc yx,(Fr.of_same (ρ:=ρ) g1).trans (Fr.of_same (aF yx _)),ef.h.mono (aF yx _),aA (cC nal)▸hl1,.nil) ?_ ?_ ?_ ?_
 .rintro i out Hc hi ha ⟨H5,rfl,G5,F5,h5,l5,S5⟩;exact(aq,aC.of (fj h5.jj l5 (λk z=>by cases z)),by rw[aG,rH];exact hi,by rw[aG,tl];exact hi)
 .rintro out Hc ha ⟨H5,rfl,G5,F5,h5,l5,S5⟩;exact(aq,aC.of (fj h5.jj l5 (λk z=>by cases z)),.inr (by rw[aG,tl];exact aO _))
 .rintro i x out Hc H2 hi Ic ha ⟨H5,rfl,G5,F5,h5,l5,S5⟩ ⟨pp,x1,y1,hpp,rfl,rfl,e1,e2⟩;obtain⟨t,rfl,et⟩:=h_ e2;rw[D3,bP]at e1;obtain⟨o,eo,rfl⟩:=nt.mp e1;have npl:pp≠A.pl:=λe=>by rw[e,aq]at hpp;cases hpp
  have aiG:H5 pp=none:=qg h5.jj hpp;have ez:(List.zip st.own (aT st pt))[i]?=some (o,t):=by rw[List.getElem?_zip_eq_some];exact(eo,et)
  have g6:=aF aiG (.tup [.str o,.int t]);have e6:upd (upd H5 A.pl (.fX ob (.dK (gO 0 st.own)))) pp (.tup [.str o,.int t])=upd (upd H5 pp (.tup [.str o,.int t])) A.pl (.fX ob (.dK (gO 0 st.own))):=lS (cC npl);rw[e6];have G6:=G5.same g6;have F6:=F5.trans (Fr.of_same (ρ:=ρ) g6);have h6:=h5.mono g6;have l6:=g6 _ _ l5;have S6:=S5.mono g6.tups;have t6:upd H5 pp (.tup [.str o,.int t]) pp=some (.tup [.str o,.int t]):=aq;have zK:upd H5 pp (.tup [.str o,.int t]) Ap=some (.lst out):=by rw[aA RD]at ha;exact g6 _ _ ha
  generalize upd H5 pp (.tup [.str o,.int t])=H6 at *;have fz:∀{b:Addr}{u:HO},H6 b=some u->(∀k,u ≠ .dK k)->upd H6 A.pl (.fX ob (.dK (gO 0 st.own))) b=some u:=λe k=>fj h6.jj e k;refine(pp,_,Z,cU.of (fz t6 (λk z=>by cases z)),Z,_,Z,_,_,Z,Z,_,Z,?_);refine dX (λc=>?_) (λc=>?_)
  .have c':0<t:=eO c;obtain⟨AT,j1,j2,j3,j4⟩:=h6.okn;have Y4:A.kn≠A.pl:=Fy h6.jL h6.jw (by intro z;cases z);refine(_,Z,_,Z,A.a,T.hold,A.dx,_,_,Z,fz h6.oa (λk z=>by cases z),X.cH,X.y_,Z,A.bt,A.db,_,Z,fz h6.kP (λk z=>by cases z),Z,_,Z,
    ⟨(A.bt,A.db,A.sp,A.kn,st.stp,st.prod,t,AT,Z,fz h6.kP (λk z=>by cases z),fz h6.qJ (λk z=>by cases z),hh.wf.pS,hh.wf.u9,hh.wf.big,aA Y4▸j1,(λp hp=>let(t,r,e,w):=j2 p hp;(t,r,e,fz w (λk z=>by cases z))),Hg j3 (by show st.kn+i<_;omega),j4,λr H7 kvs' b1 b2 b3 b4 b5 b6=>?_)⟩)
   have Y5:H7 A.pl=some (.fX ob (.dK (gO 0 st.own))):=b1 _ _ aq (cC Y4);refine((gR 2),λtt Y6=>?_);have ntp:tt≠A.pl:=λe=>by rw[e,Y5]at Y6;cases Y6
   have k8:∀b u,H6 b=some u->b≠A.kn->upd H7 A.pl (.dK (gO 0 st.own)) b=some u:=λb u e hb=>by
    by_cases z:b=A.pl
    .rw [z]at e ⊢;rw[show H6 A.pl=some (.dK (gO 0 st.own))from h6.jj]at e;cases e;exact aq
    .rw [aA z];exact b1 _ _ (aA z▸e) hb
   have h8:=h6.Xh (m:=st.kn+i+1) k8 (aA Y4▸b2) (λp hp=>let(t,r,e,w):=b3 p hp;(t,r,e,jY (.inr (_,Y5,Z)) _ _ w)) (fG b4 (Nat.succ_le_succ j3)) b5;have G8:Gh ρ (upd H7 A.pl (.dK (gO 0 st.own))):=λb cc e=>by
    by_cases z:b=A.pl
    .rw [z];exact(_,aq,Z)
    by_cases z2:b=A.kn
    .rw [z2,aA Y4];exact(_,b2,Z)
    obtain⟨u,a1,a2⟩:=G6 b cc e;exact(u,k8 b u a1 z2,a2)
   have F8:Fr n ρ H6 ρ (upd H7 A.pl (.dK (gO 0 st.own))):=λb u e k=>(k8 b u e (λz=>k 9 ⟨#[]⟩ (z▸h6.jL)),Z)
   have tp8:∀b xs,H6 b=some (.tup xs)->upd H7 A.pl (.dK (gO 0 st.own)) b=some (.tup xs):=λb xs e=>k8 b _ e (jR e j1 (by intro z;cases z));have aiH:upd H7 A.pl (.dK (gO 0 st.own)) tt=none:=aA ntp▸Y6;have back:H7=upd (upd H7 A.pl (.dK (gO 0 st.own))) A.pl (.fX ob (.dK (gO 0 st.own))):=by rw[qG,Ah Y5]
   have hr8:upd H7 A.pl (.dK (gO 0 st.own)) r=some (oS (Jm.fr t st.prod)):=jY (.inr (_,Y5,Z)) _ _ b6;have l8:=k8 _ _ l6 (λz=>by rw[z,j1]at l6;cases l6);have NS:=k8 _ _ zK (λz=>by rw[z,j1]at zK;cases zK);have S8:=S6.mono tp8;have F08:=F6.trans F8;rw[back]at Y6 ⊢;generalize upd H7 A.pl (.dK (gO 0 st.own))=H8 at *;have g9:=aF aiH (.tup [.str o,.ref r]);rw[lS (cC ntp)];refine(aA RD▸g9 _ _ NS,_,lS (cC RD),(G8.same g9).wr rfl,(F08.trans (Fr.of_same (ρ:=ρ) g9)).new (g1.free yx),?_,?_,?_)
   .exact (h8.mono g9).same (MF ca (g9 _ _ NS) rfl)
   .rw [aA (cC nal)];exact g9 _ _ l8
   .rw [take_snoc ez,List.filterMap_append,Bf];simp only[c',qW,List.filterMap_nil];exact((S8.mono g9.tups).snoc aq (g9 _ _ hr8)).mono (jY (.inr (_,g9 _ _ NS,Z)))
  .have c':¬ 0<t:=qR (lO.mpr c);refine(aA RD▸zK,H6,Z,G6,F6,?_,l6,?_)
   .obtain ⟨AT,j1,j2,j3,j4⟩:=h6.okn;exact h6.Xh (m:=st.kn+i+1) (λb u e _=>e) j1 j2 (Nat.le_succ_of_le j3) j4
   .rw [take_snoc ez,List.filterMap_append,Bf];simp only[c',nV,List.filterMap_nil,x6];exact S6
 .rintro out Hc Ic ha ⟨H5,rfl,G5,F5,h5,l5,S5⟩;rw[G0 (by rw[List.length_zip,tl];omega)]at S5;refine(aq,?_);rw[qG,Ah (show H5 A.pl=some (.dK (gO 0 st.own))from h5.jj)];rw[aA RD]at ha;obtain⟨AT,j1,j2,j3,j4⟩:=h5.okn;have h9:=h5.Xh (m:=st.kn+100) (λb u e _=>e) j1 j2 (fG j3 (by show st.kn+st.own.length<=st.kn+100;omega)) j4;exact q Ap out H5 (G5,h9,afc hh.wf hkn) F5 (g1.free yx) ha ca S5
abbrev tY:Stmt:=inClass (top 21) 17
abbrev pX:Da Str:=["self"]
abbrev Kg:Da Str:=pX
def Ij:aQ Kg pX (aD tY):=c9
theorem Ik{T:TC}(F:ja K T.hold "landed" "Hold.landed" tY f fd)(X:Txt K T)(dJ:mg "list"=none):Mn P w K mg base 1 T.hold "landed" pX (MD T):=by
 refine F.oA Ij λ_ _ _ _ H _ Q E hr h=>?_;obtain⟨⟨n,ρ,A,st,rfl,hh,q⟩⟩:=h;obtain⟨ws,hw,hA⟩:=hh.h.sS;have hl:=hA.length;have hal:=hh.wf.u_;refine(_,(@cZ.h _ _ _ (au (aX (gM ["name","owner","worth","shares"] [none,none,none,none] rfl (dI K (aN K (qv 0))) (λ_ _ _ _=>(je K (n:=4) rfl (cT (aW (i:=0) (show List.Nodup (["name","owner","worth","shares"] :Da Str)from by decide +kernel)) (cT (aW (i:=1) (show List.Nodup (["name","owner","worth","shares"] :Da Str)from by decide +kernel)) (cT (aW (i:=2) (show List.Nodup (["name","owner","worth","shares"] :Da Str)from by decide +kernel)) (cT (aW (i:=3) (show List.Nodup (["name","owner","worth","shares"] :Da Str)from by decide +kernel)) jc)))))) (λ_ _ _ _=>(f7 (af (qv 0) (af (qv 1) (af (qv 2) (af (kC (mz K) (by rfl) dJ wc (af (qv 3) aj)) aj)))))) rfl (by rfl))))),?_);refine(_,Z,A.a,T.hold,A.dx,_,_,Z,hh.h.oa,X.cH,X.has,Z,A.as,Z,(_,aC.of hw),λAp Bi=>?_);refine yZ (K:=K) (n:=ws.length) [0,1,2,3] (λi out H1=>aM H H1/\lT Ap ρ H1 out (st.bM.take i)) (by decide) (by omega) (aF Bi _,.nil) (λi out H1 hi _ hp=>(ws,_,aC.of (hp.1 _ _ hw),a_ hi)) (λout H1 _ hp=>(ws,aC.of (hp.1 _ _ hw),aO _)) ?_ ?_
 .rintro i x out H1 H2 hi eU ha ⟨g,hL⟩ ⟨rfl,hy⟩;have ex:=hy ws (aC.of (g _ _ hw));obtain⟨r,l,y,ss,rfl,ey,a1,a2,a3,a4⟩:=hA.get ex;refine(r,_,Z,cU.of (g _ _ a1),Z,_,Z,_,Z,_,Z,_,Z,l,ss,Z,.inl (aC.of (g _ _ a2)),λl2 hl2=>((gR 4),λt ht=>?_));have g2:=aF hl2 (.lst ss);have g3:=aF ht (.tup [.str y.nm,.str y.ow,.int y.wo,.ref l2]);have hl3:upd H2 l2 (.lst ss) l2=some (.lst ss):=aq;have c2:ρ l2=none:=hh.g.none (g.free hl2);refine((g2.trans g3) _ _ ha,((g.trans g2).trans g3).cJ Bi _,?_);rw[take_snoc ey];have n1:l2≠Ap:=λe=>by rw[e,ha]at hl2;cases hl2
  exact((hL.mono (g2.trans g3)).snoc (x:=y) aq (g3 _ _ hl3) c2 n1 (a4.mono ((g.trans g2).trans g3).tups)).upd ((g2.trans g3) _ _ ha)
 rintro out H1 eU ha ⟨g,hL⟩;rw[hl,cQ]at hL;exact q Ap out H1 g Bi ha hL.to
abbrev vn:Stmt:=inClass (top 21) 4
abbrev r_:Da Str:=["self","owner","amount"]
abbrev NU:Da Str:=r_.append ["place","whole","added"]
def pY:aQ NU r_ (aD vn):=c9
theorem Il{T:TC}{e:Ec}(F:ja K T.hold "award" "Hold.award" vn f fd)(X:Txt K T)(cL:Mn P w K mg base 1 T.hold "place_of" fR (sN (An T e)))(jB:Dn P w K mg base 1 "check_amount" jA (sN (B3 e)))(fE:Mn P w K mg base 1 T.hold "whole" jO (ze T))(lH:Mn P w K mg base 3 T.hold "blend" nI (HG T K))(bq:mg "len"=none):Mn P w K mg base 4 T.hold "award" r_ (sN (Na T e)):=by
 refine F.oA pY λ_ _ _ _ H _ Q E hr h=>?_;obtain⟨⟨n,ρ,A,st,o,a,rfl,hh,aw,dq⟩⟩:=h;refine(_,(@cZ.h _ _ _ (ak (aV (i:=3) pY.nd (cy cL hr (qv 0) (af (qv 1) aj)))
  (ak (cu (bB jB hr (af (qv 2) aj)))
  (ak (aV (i:=4) pY.nd (tO fE hr (qv 0)))
  (ak (b_ (aS Lm (qv 2) (qv 4) (aZ _)) (au g_) br)
  (ak (aV (i:=5) pY.nd (aL Ul (ia (af ai aj)) (aK ye (by rfl) bq cX (af (aN K (qv 0)) aj))))
  (ak (jl (aL kg (qv 2) (aN K (aN K (qv 0)))) (jm (qv 5) (qv 3) set_list))
  (au (cu (cy lH hr (qv 0) (af (aL j_ (qv 4) (qv 2)) (af (qv 4) (af (qv 5) aj))))))))))))),?_)
 have wf:=hh.wf;refine(_,Z,A.a,A.dx,_,Z,hh.h.oa,Z,_,Z,⟨(n,ρ,A,st,o,Z,hh.h,λho=>dq.no 2 (by unfold nF;exact av ho),λho=>?_)⟩);refine(_,Z,⟨(a,Z,λh5=>dq.no 5 (by unfold nF;rw[ay ho,ay h5]),λh1=>?_)⟩);refine(_,Z,A.a,A.dx,_,Z,hh.h.oa,Z,⟨(n,ρ,A,st,Z,hh.h,wf.rD,λH1 g1=>?_)⟩);refine(_,Z,_,Z,_,_,Z,Z,_,Z,dX (λc=>?_) (λc=>?_))
 .have c':aI st<=a:=eO c;exact dq.no 6 (by unfold nF;rw[ay ho,av (show ¬ a<1 by omega),ay c']) 0 H1 g1
 have c':¬ aI st<=a:=qR (lO.mpr c);have q:=dq.ok (by unfold nF;rw[ay ho,av (show ¬ a<1 by omega),av c']);have ef:=hh.mono g1;have F1:Fr n ρ H ρ H1:=Fr.of_same g1;clear hh;refine((gR 1),λp0 hp0=>?_);have g2:=aF hp0 (.lst [.int 0]);have jW:=ef.mono g2;have F2:=F1.trans (Fr.of_same (ρ:=ρ) g2);have XZ:upd H1 p0 (.lst [.int 0]) p0=some (.lst [.int 0]):=aq;generalize upd H1 p0 (.lst [.int 0])=H2 at *;clear ef F1;have DK:=rH st.own 0;have eU:=jW.wf.lR;refine(_,Z,A.a,T.hold,A.dx,_,_,Z,jW.h.oa,X.cH,X.hpl,Z,A.pl,_,Z,jW.h.jj,p0,_,_,Z,Z,XZ,by omega,by rw[DK];omega,by rw[DK];show 1*_<=_;rw[qS,Nat.one_mul];exact small (by omega),λp1 hp1=>?_);rw[DK,qS,show(List.replicate st.own.length [V.int 0]).flatten=(List.replicate st.own.length (0:Int)).map V.int from by rw[List.map_replicate,List.flatten_replicate_singleton]];have g3:=aF hp1 (.lst ((List.replicate st.own.length (0:Int)).map V.int));have m_:=jW.mono g3;have F3:=F2.trans (Fr.of_same (ρ:=ρ) g3);have n1:H p1=none:=(g1.trans g2).free hp1;have c1:ρ p1=none:=jW.g.none hp1;have Ay:upd H2 p1 (.lst ((List.replicate st.own.length (0:Int)).map V.int)) p1=_:=aq;generalize upd H2 p1 (.lst ((List.replicate st.own.length (0:Int)).map V.int))=H3 at *;have hi:=Lw.mpr ho;have bo:=aw.blend (o:=o) wf h1 (by omega);have za:LS a st.prod:=.inl (by have:(aI st).natAbs<2 ^ 60:=aw.big;omega);refine(_,Z,_,Z,A.a,T.hold,A.dx,_,_,Z,m_.h.oa,X.cH,X.y_,Z,A.bt,T.bot,A.db,_,_,Z,m_.h.kP,X.cB,X.QW,Z,_,_,Z,Z,za,_,Z,_,Z,p1,_,_,st.own.idxOf o,Z,Z,Ay,by rw[aG,jr];exact mH hi,?_);rw[show((List.replicate st.own.length (0:Int)).map V.int).set (st.own.idxOf o) (V.int (a*st.prod))=(lC st o a).map V.int from by unfold lC;rw[kU]];have rX:=m_.FF (o:=.lst ((lC st o a).map V.int)) c1 Ay rfl rfl;have F4:=F3.new (o:=.lst ((lC st o a).map V.int)) n1;have X0:upd H3 p1 (.lst ((lC st o a).map V.int)) p1=_:=aq;generalize upd H3 p1 (.lst ((lC st o a).map V.int))=H4 at *;have zk:Jm.Sz 60 (aI st-a):=bo.big.of_le (by omega);have zG:∀m∈lC st o a,0<=m/\Jm.Sz 8900 m:=λm hm=>by have FD:=bo.add m hm;have h2:=wf.gq;have zl:Jm.Sz 60 a:=bo.big.of_le (by omega);exact(FD.1,Jm.Sz.mw (by have:=pM bo.l (show 0<=st.prod by omega);omega) FD.2 ((zl.mul bo.prod).mono (by decide)))
 exact(_,Z,A.a,A.dx,_,Z,rX.h.oa,Z,_,Z,_,Z,_,_,Z,Z,_,Z,_,Z,⟨(n,ρ,A,st,aI st-a,aI st,p1,lC st o a,Z,rX,aC.of X0,bo.len,bo.k,by omega,zk,bo.big,zG,aw.bN,aw.stp,Ak wf bo,λρ6 A6 H6 AU e6 f6=>q ρ6 A6 H6 AU e6 (F4.trans f6))⟩)
abbrev tZ:Stmt:=inClass (top 21) 5
abbrev pZ:Da Str:=["self","part","amount"]
abbrev Kh:Da Str:=pZ
def Im:aQ Kh pZ (aD tZ):=c9
theorem Gu{T:TC}{e:Ec}(F:ja K T.hold "mishap" "Hold.mishap" tZ f fd)(X:Txt K T)(c5:Mn P w K mg base 1 T.hold "part_of" fJ (sN (nE T e)))(nJ:Dn P w K mg base 2 "check_loss" nH (sN (M5 e)))(j0:Mn P w K mg base 1 T.hold "lessen" mE (MK T)):Mn P w K mg base 3 T.hold "mishap" pZ (sN (JF T e)):=by
 refine F.oA Im λ_ _ _ _ H _ Q E hr h=>?_;obtain⟨⟨n,ρ,A,st,x,a,rfl,hh,dq⟩⟩:=h;refine(_,(@cZ.h _ _ _ (ak (cu (bB nJ hr (af (aN K (cy c5 hr (qv 0) (af (qv 1) aj))) (af (qv 2) aj))))
  (au (cu (cy j0 hr (qv 0) (af (qv 1) (af (qv 2) aj))))))),?_)
 refine(_,Z,A.a,A.dx,_,Z,hh.h.oa,Z,_,Z,⟨(n,ρ,A,st,x,Z,hh.h,hh.wf.fP,λhn=>dq.no 3 ?_,λi p qq e1 e2 e3=>?_)⟩)
 .unfold mR;rw[av (λz=>?_)];obtain⟨j,p,h1,h2⟩:=oH z;exact hn p (bg h1) h2
 obtain⟨k1,_⟩:=hh.h.opt i p qq e2 e3;have hm:x∈fW st:=e1▸C0 e2;have fc:=bg e2;have ew:(cS st x).wo=p.wo:=by rw[dR hh.wf fc e1]
 refine(qq.1,T.part,qq.2.1,_,_,Z,k1,X.cP,X.wM,Z,_,Z,⟨(p.wo,a,Z,λh5=>dq.no 5 ?_,λh1 h6=>dq.no 6 ?_,λh1 h2=>?_)⟩)
 .unfold mR;rw[ay hm,ay h5]
 .unfold mR;rw[ay hm,av (show ¬ a<1 by omega)];show(if(cS st x).wo<a then _ else _)=_;rw[ew,ay h6]
 have ho:=dq.ok (by unfold mR;rw[ay hm,av (show ¬ a<1 by omega)];show(if(cS st x).wo<a then _ else _)=_;rw[ew,av (by omega)]);exact(_,Z,A.a,A.dx,_,Z,hh.h.oa,Z,_,Z,_,Z,⟨(n,ρ,A,st,(x,a),Z,hh,(p,fc,e1,h2),HJ hh.wf (λp' eW e'=>oj hh.wf eW fc (e'.trans e1.symm)▸h2),ho)⟩)
abbrev xA:Stmt:=inClass (top 21) 6
abbrev uw:Da Str:=["self","part","amount"]
abbrev Ph:Da Str:=uw.append ["risen"]
def Cm:aQ Ph uw (aD xA):=c9
theorem Kl{T:TC}{e:Ec}(F:ja K T.hold "rise" "Hold.rise" xA f fd)(X:Txt K T)(c5:Mn P w K mg base 1 T.hold "part_of" fJ (sN (nE T e)))(jB:Dn P w K mg base 1 "check_amount" jA (sN (B3 e))):Mn P w K mg base 2 T.hold "rise" uw (sN (Rm T e)):=by
 refine F.oA Cm λ_ _ _ _ H _ Q E hr h=>?_;obtain⟨⟨n,ρ,A,st,x,a,rfl,hh,dq⟩⟩:=h;refine(_,(@cZ.h _ _ _ (ak (aV (i:=3) Cm.nd (cy c5 hr (qv 0) (af (qv 1) aj)))
  (ak (cu (bB jB hr (af (qv 2) aj)))
  (au (rO K (qv 3) (qv 2) abw))))),?_)
 refine(_,Z,A.a,A.dx,_,Z,hh.h.oa,Z,_,Z,⟨(n,ρ,A,st,x,Z,hh.h,hh.wf.fP,λhn=>dq.no 3 ?_,λi p qq e1 e2 e3=>?_)⟩)
 .unfold um;rw[av (λz=>?_)];obtain⟨j,p,h1,h2⟩:=oH z;exact hn p (bg h1) h2
 subst e1;obtain⟨k1,k2,k3,k4⟩:=hh.h.opt i p qq e2 e3;have hm:=C0 e2;refine(_,Z,⟨(a,Z,λh5=>dq.no 5 ?_,λh1=>?_)⟩)
 .unfold um;rw[ay hm,ay h5]
 have ho:=dq.ok (by unfold um;rw[ay hm,av (show ¬ a<1 by omega)]);refine(_,Z,qq.1,T.part,qq.2.1,_,_,Z,k1,X.cP,X.wM,Z,_,Z,_,_,Z,Z,qq.2.1,_,k1,by show 6<1000;decide,?_);have FD:=hh.h.mC (p1:={ p with wo:=p.wo+a }) hh.g e2 e3 rfl rfl hh.wf.fP;have hw:Wf (FY st p.nm a):=zu hh.wf λq hq _=>(Z,Z,Z,Z,by have:=(hh.wf.kj q hq).1;show 1<=q.wo+a;omega,(hh.wf.kj q hq).2)
 have es:FY st p.nm a={ st with ah:=st.ah.set i { p with wo:=p.wo+a } }:=C3 hh.wf.fP e2 _;rw[es]at ho hw;exact ho ρ A _ (hh.g.wr rfl,FD,hw) rfl (Fr.write k3)
abbrev xB:Stmt:=inClass (top 21) 7
abbrev ux:Da Str:=["self","part","taker"]
abbrev Pj:Da Str:=ux.append ["handed","to","at","tops"]
def nK:aQ Pj ux (aD xB):=c9
theorem Km{T:TC}{e:Ec}(F:ja K T.hold "hand" "Hold.hand" xB f fd)(X:Txt K T)(c5:Mn P w K mg base 1 T.hold "part_of" fJ (sN (nE T e)))(cL:Mn P w K mg base 1 T.hold "place_of" fR (sN (An T e)))(gx:Mn P w K mg base 1 T.hold "tops_of" jC (CV T))(gu:Mn P w K mg base 1 T.hold "beyond_common" iF (SN T K)):Mn P w K mg base 2 T.hold "hand" ux (sN (Ro T e)):=by
 refine F.oA nK λ_ _ _ _ H _ Q E hr h=>?_;obtain⟨⟨n,ρ,A,st,x,o,rfl,hh,hs,dq⟩⟩:=h;refine(_,(@cZ.h _ _ _ (ak (aV (i:=3) nK.nd (cy c5 hr (qv 0) (af (qv 1) aj)))
  (ak (aV (i:=4) nK.nd (cy cL hr (qv 0) (af (qv 2) aj)))
  (ak (aV (i:=5) nK.nd (cy cL hr (qv 0) (af (aN K (qv 3)) aj)))
  (ak (b_ (aS dZ (qv 4) (qv 5) (aZ _)) (au Rk) br)
  (ak (aV (i:=6) nK.nd (cy gx hr (qv 0) (af (qv 3) aj)))
  (ak (Rj (qv 6) (qv 4) Nl (aB (aH K) (qv 6) (qv 5)) abf set_list)
  (ak (jl ai (jm (qv 6) (qv 5) set_list))
  (ak (d7 K (qv 3) (qv 2))
  (ak (d7 K (qv 3) ai)
  (au (d7 K (qv 3) (cy gu hr (qv 0) (af (qv 6) aj)))))))))))))),?_)
 have wf:=hh.wf;refine(_,Z,A.a,A.dx,_,Z,hh.h.oa,Z,_,Z,⟨(n,ρ,A,st,x,Z,hh.h,wf.fP,λhn=>dq.no 3 ?_,λi p qq e1 e2 e3=>?_)⟩)
 .unfold pU;rw[av (λz=>?_)];obtain⟨j,p,h1,h2⟩:=oH z;exact hn p (bg h1) h2
 have fc:=bg e2;have eg:cS st x=p:=dR wf fc e1;subst e1;have hm:=C0 e2;refine(_,Z,A.a,A.dx,_,Z,hh.h.oa,Z,_,Z,⟨(n,ρ,A,st,o,Z,hh.h,λho=>dq.no 2 (by unfold pU;rw[ay hm,av ho]),λho=>?_)⟩);have eR:pU st p.nm o=none:=by unfold pU;rw[ay hm,ay ho]
 have q:=dq.ok eR;have wS:=Rp wf eR hs;obtain⟨k1,k2,k3,k4⟩:=hh.h.opt i p qq e2 e3;have Y7:=wf.ow p fc;refine(_,Z,A.a,A.dx,_,Z,hh.h.oa,Z,_,Z,qq.1,T.part,qq.2.1,_,_,Z,k1,X.cP,X.pow,Z,⟨(n,ρ,A,st,p.ow,Z,hh.h,λz=>absurd Y7 z,λ_=>?_)⟩);refine(_,Z,_,Z,Z,_,Z,dX (λc=>?_) (λc=>?_))
 .have c':st.own.idxOf o=st.own.idxOf p.ow:=by have:=V.int.inj (eO c);omega
  unfold jb at q;rw[eg,ay c']at q;exact q ρ A H hh rfl Fr.refl
 have ne:st.own.idxOf o≠st.own.idxOf p.ow:=λz=>c (bR (by rw[z]));have hl:=Ca wf fc;have ha:st.own.idxOf p.ow<(aT st p).length:=hl▸qQ Y7;have hb:st.own.idxOf o<(aT st p).length:=hl▸qQ ho;have at':∀{l:Da Int}{j:Nat},j<l.length->lz (l.map V.int) (j:Int)=some (.int (l.getD j 0)):=λ{l j} h=>aE (by rw[bP,dQ,a_ h];rfl);unfold jb at q wS;rw[eg,av ne,C3 wf.fP e2]at q wS;generalize hTT:oE st p o=TT at *;rw[wY]at hTT;refine(_,Z,A.a,A.dx,_,Z,hh.h.oa,Z,_,Z,⟨(n,ρ,A,st,i,p,qq,Z,hh.h,wf,e2,e3,λl H1 g1 gH hl1=>?_)⟩);have cl:ρ l=none:=hh.g.none gH;refine(_,Z,_,Z,l,_,_,_,Z,Z,aC.of hl1,at' hb,_,Z,_,Z,l,_,_,_,Z,Z,aC.of hl1,at' ha,_,_,Z,Z,l,_,_,st.own.idxOf o,Z,Z,hl1,by rw[aG];exact mH hb,?_);have m1:(List.map V.int (aT st p)).set (st.own.idxOf o) (.int ((aT st p).getD (st.own.idxOf o) 0+(aT st p).getD (st.own.idxOf p.ow) 0))=((aT st p).set (st.own.idxOf o) ((aT st p).getD (st.own.idxOf o) 0+(aT st p).getD (st.own.idxOf p.ow) 0)).map V.int:=kU.symm;rw[m1];refine(_,Z,_,Z,l,_,_,st.own.idxOf p.ow,Z,Z,aq,by rw[aG,fF];exact mH ha,?_);have m2:(((aT st p).set (st.own.idxOf o) ((aT st p).getD (st.own.idxOf o) 0+(aT st p).getD (st.own.idxOf p.ow) 0)).map V.int).set (st.own.idxOf p.ow) (.int 0)=TT.map V.int:=hTT▸kU.symm;rw[m2,qG];have g3:aM H (upd H1 l (.lst (TT.map V.int))):=g1.cJ gH _;have hl3:upd H1 l (.lst (TT.map V.int)) l=some (.lst (TT.map V.int)):=aq;generalize upd H1 l (.lst (TT.map V.int))=H3 at *;have m_:=hh.mono g3;have c3:=g3 _ _ k1;have hi:i<st.ah.length:=(c_.mp e2).1;have tl:TT.length=st.own.length:=by rw[<-hTT,HP,hl]
 clear hl1 g1 m1 m2;refine(_,Z,_,Z,qq.1,T.part,qq.2.1,_,Z,c3,X.cP,X.pow,by show 6<1000;decide,?_);have hA:=m_.h.mC (p1:={ p with ow:=o }) m_.g e2 e3 rfl rfl wf.fP;have gA:Gh ρ (upd H3 qq.1 (.ins T.part qq.2.1 (dB { p with ow:=o } qq.2.2))):=m_.g.wr rfl;have FA:Fr n ρ H ρ (upd H3 qq.1 (.ins T.part qq.2.1 (dB { p with ow:=o } qq.2.2))):=(Fr.of_same g3).trans (Fr.write k3);have kA:upd H3 qq.1 (.ins T.part qq.2.1 (dB { p with ow:=o } qq.2.2)) qq.1=some (.ins T.part qq.2.1 (dB { p with ow:=o } qq.2.2)):=aq;have nA:∀b,upd H3 qq.1 (.ins T.part qq.2.1 (dB { p with ow:=o } qq.2.2)) b=none->H b=none:=λb h=>g3.free (lY h);have lA:upd H3 qq.1 (.ins T.part qq.2.1 (dB { p with ow:=o } qq.2.2)) l=some (.lst (TT.map V.int)):=by rw[aA (λz=>by rw[z,k3]at cl;cases cl)];exact hl3
 show wu _ _ _ _ (upd H3 qq.1 (.ins T.part qq.2.1 (dB { p with ow:=o } qq.2.2)));generalize upd H3 qq.1 (.ins T.part qq.2.1 (dB { p with ow:=o } qq.2.2))=H4 at *;refine(_,Z,qq.1,T.part,qq.2.1,_,Z,kA,X.cP,X.Jf,by show 6<1000;decide,?_);have ndA:((st.ah.set i { p with ow:=o }).map (·.nm)).Nodup:=by rw[kU,ny (by rw[bP,e2];rfl)];exact wf.fP
 have hB:=hA.mC (i:=i) (p1:={ p with ow:=o,sc:=1 }) gA (kJ hi) e3 rfl rfl ndA;have gB:Gh ρ (upd H4 qq.1 (.ins T.part qq.2.1 (dB { p with ow:=o,sc:=1 } qq.2.2))):=gA.wr rfl;have FB:Fr n ρ H ρ (upd H4 qq.1 (.ins T.part qq.2.1 (dB { p with ow:=o,sc:=1 } qq.2.2))):=FA.trans (Fr.write k3);have kB:upd H4 qq.1 (.ins T.part qq.2.1 (dB { p with ow:=o,sc:=1 } qq.2.2)) qq.1=some (.ins T.part qq.2.1 (dB { p with ow:=o,sc:=1 } qq.2.2)):=aq;have lB:upd H4 qq.1 (.ins T.part qq.2.1 (dB { p with ow:=o,sc:=1 } qq.2.2)) l=some (.lst (TT.map V.int)):=by rw[aA (λz=>by rw[z,k3]at cl;cases cl)];exact lA
 have nB:∀b,upd H4 qq.1 (.ins T.part qq.2.1 (dB { p with ow:=o,sc:=1 } qq.2.2)) b=none->H b=none:=λb h=>nA b (lY h);have Y8:(st.ah.set i { p with ow:=o }).set i { p with ow:=o,sc:=1 }=st.ah.set i { p with ow:=o,sc:=1 }:=qV ..;have hB:aY T n ρ A (upd H4 qq.1 (.ins T.part qq.2.1 (dB { p with ow:=o,sc:=1 } qq.2.2))) { st with ah:=st.ah.set i { p with ow:=o,sc:=1 } }:=Y8▸hB;generalize hH5:upd H4 qq.1 (HO.ins T.part qq.2.1 (iK _ _ _))=H5;have aiI:upd H4 qq.1 (.ins T.part qq.2.1 (dB { p with ow:=o,sc:=1 } qq.2.2))=H5:=hH5;rw[aiI]at hB gB FB kB lB nB;clear hA gA FA kA nA lA;have ol:=wf.lR;refine(_,Z,A.a,A.dx,_,Z,hB.oa,Z,_,Z,⟨(n,ρ,A,_,l,TT,Z,hB,aC.of lB,by show _=st.bU.length;rw[tl,wf.gk],by omega,λr H6 g6 hr0 hr1=>?_)⟩);have cr:ρ r=none:=gB.none hr0;have h6:=hB.mono g6;have G6:=gB.same g6;have F6:Fr n ρ H (b7 ρ r (n,21,p.nm)) H6:=(FB.trans (Fr.of_same (ρ:=ρ) g6)).jM (nB _ hr0);have hC:aY T n (b7 ρ r (n,21,p.nm)) A H6 _:=h6.same (λ_ _ e=>e,λb u x w _ hc he=>(he,by rw[cg (λz=>by rw[z,cr]at hc;cases hc)];exact hc));have GC:Gh (b7 ρ r (n,21,p.nm)) H6:=G6.color hr1 rfl;have ndB:((st.ah.set i { p with ow:=o,sc:=1 }).map (·.nm)).Nodup:=by rw[kU,ny (by rw[bP,e2];rfl)];exact wf.fP
 have hD:=hC.XF (p1:={ p with ow:=o,sc:=1,row:=mQ st TT }) GC (kJ hi) e3 rfl c6 hr1 ndB;refine(_,Z,qq.1,T.part,qq.2.1,_,Z,g6 _ _ kB,X.cP,X.Mw,by show 6<1000;decide,?_);refine q _ { A with qs:=A.qs.set i (qq.1,qq.2.1,r) } _ (GC.wr rfl,?_,wS) rfl (F6.trans (Fr.write (t:=20) (x:=p.nm) (by rw[cg (λz=>by rw[<-z,k3]at cr;cases cr)];exact k3)));have eS2:(st.ah.set i { p with ow:=o,sc:=1 }).set i { p with ow:=o,sc:=1,row:=mQ st TT }=st.ah.set i { p with ow:=o,sc:=1,row:=mQ st TT }:=qV ..;rw[<-eS2];exact hD
abbrev xC:Stmt:=inClass (top 21) 8
abbrev uy:Da Str:=["self","part"]
abbrev Pk:Da Str:=uy.append ["leaving","gains"]
def xD:aQ Pk uy (aD xC):=c9
theorem Kn{T:TC}{e:Ec}(F:ja K T.hold "land" "Hold.land" xC f fd)(X:Txt K T)(c5:Mn P w K mg base 1 T.hold "part_of" fJ (sN (nE T e)))(cL:Mn P w K mg base 1 T.hold "place_of" fR (zd T))(gx:Mn P w K mg base 1 T.hold "tops_of" jC (CV T))(mG:Mn P w K mg base 4 T.hold "shares" mF (Ar T))(jv:mg "zip"=none):Mn P w K mg base 5 T.hold "land" uy (sN (Rq T e)):=by
 refine F.oA xD λ_ _ _ _ H _ Q E hr h=>?_;obtain⟨⟨n,ρ,A,st,x,rfl,hh,ld,dq⟩⟩:=h;refine(_,(@cZ.h _ _ _ (ak (aV (i:=2) xD.nd (cy c5 hr (qv 0) (af (qv 1) aj)))
  (ak (cu (lX qb p_ qa fh (aN K (qv 0)) (af (f7 (af (aN K (qv 2)) (af (aN K (qv 2)) (af (aN K (qv 2)) (af (cy mG hr (qv 0) (af (qv 1) aj)) aj))))) aj)))
  (ak (qL (i:=3) ["purse","top","leaving"] [none,none,some 2] xD.nd rfl rfl rfl (tN K (by rfl) jv (af (aN K (qv 0)) (af (cy gx hr (qv 0) (af (qv 2) aj)) aj))) (λ_ _ _ _=>(je K (n:=2) rfl (cT (aW (i:=0) (show List.Nodup (["purse","top","leaving"] :Da Str)from by decide +kernel)) (cT (aW (i:=1) (show List.Nodup (["purse","top","leaving"] :Da Str)from by decide +kernel)) jc)))) (λ_ _ _ _=>(aL cV (qv 0) (aL kg (aN K (qv 2)) (qv 1)))) rfl (by rfl) (by rfl))
  (ak (Rj (qv 3) (cy cL hr (qv 0) (af (aN K (qv 2)) aj)) Nl (aL kg (aN K (qv 2)) (aN K (aN K (qv 0)))) abg set_list)
  (ak (d7 K (qv 0) (qv 3))
  (au (Rl (aN K (qv 0)) (qv 1))))))))),?_)
 refine(_,Z,A.a,A.dx,_,Z,hh.h.oa,Z,_,Z,⟨(n,ρ,A,st,x,Z,hh.h,hh.wf.fP,λhn=>dq.no 3 ?_,λi p qq e1 e2 e3=>?_)⟩)
 .unfold vW;rw[av (λz=>?_)];obtain⟨j,p,h1,h2⟩:=oH z;exact hn p (bg h1) h2
 subst e1;have wf:=hh.wf;have fc:=bg e2;have eR:vW st p.nm=none:=ay (C0 e2);have q:=dq.ok eR;have wS:=Rr wf eR ld;rw[tQ wf fc]at q wS;obtain⟨k1,k2,k3,k4⟩:=hh.h.opt i p qq e2 e3;obtain⟨UN,hv0,hA0⟩:=hh.h.sS;refine(_,Z,A.a,T.hold,A.dx,_,_,Z,hh.h.oa,X.cH,X.has,Z,.inl (Z,_,aC.of hv0),_,Z,qq.1,T.part,qq.2.1,_,_,Z,k1,X.cP,X.UP,Z,_,Z,qq.1,T.part,qq.2.1,_,_,Z,k1,X.cP,X.pow,Z,_,Z,qq.1,T.part,qq.2.1,_,_,Z,k1,X.cP,X.wM,Z,_,Z,A.a,A.dx,_,Z,hh.h.oa,Z,_,Z,⟨(n,ρ,A,st,i,p,Z,hh,e2,ld.kn,λr ws H1 ef F1 hr0 hr1 cr1 sh1=>?_)⟩);have hi:i<st.ah.length:=(c_.mp e2).1;refine((gR 4),λt ht=>?_);have g2:=aF ht (.tup [.str p.nm,.str p.ow,.int p.wo,.ref r]);have fr1:∀b,H1 b=none->H b=none:=λb hb=>F1.afu ef.g hb;have fr2:∀b,upd H1 t (.tup [.str p.nm,.str p.ow,.int p.wo,.ref r]) b=none->H b=none:=λb hb=>fr1 b (lY hb);have jW:=ef.mono g2;have F2:=F1.trans (Fr.of_same (ρ:=ρ) g2);have hr2:=g2 _ _ hr1;have sh2:=sh1.mono g2.tups;have ht2:upd H1 t (.tup [.str p.nm,.str p.ow,.int p.wo,.ref r]) t=some (.tup [.str p.nm,.str p.ow,.int p.wo,.ref r]):=aq;show rj _ (upd H1 t (.tup [.str p.nm,.str p.ow,.int p.wo,.ref r])) _;generalize upd H1 t (.tup [.str p.nm,.str p.ow,.int p.wo,.ref r])=H2 at *;clear g2 sh1 hr1 F1;have cH:aY T n (b7 ρ r (n,30,⟨#[]⟩)) A H2 { st with kn:=st.kn+100 }:=jW.h.same (λ_ _ e=>e,λb u x w _ hc he=>(he,by rw[cg (λz=>by rw[z,cr1]at hc;cases hc)];exact hc));have cG:Gh (b7 ρ r (n,30,⟨#[]⟩)) H2:=jW.g.color hr2 rfl;have cF:Fr n ρ H (b7 ρ r (n,30,⟨#[]⟩)) H2:=F2.jM hr0;have cr2:b7 ρ r (n,30,⟨#[]⟩) r=some (n,30,⟨#[]⟩):=c6;generalize b7 ρ r (n,30,⟨#[]⟩)=ρ2 at *;clear jW F2;obtain⟨JR,hv2,hA2⟩:=cH.sS;have hal:JR.length<1000:=(show JR.length=st.bM.length from hA2.length)▸ld.bM;refine(A.as,JR,_,Z,Z,hv2,dO (by omega),?_);have h3:aY T n ρ2 A (upd H2 A.as (.lst (JR++[.ref t]))) { st with bM:=st.bM++[⟨p.nm,p.ow,p.wo,lD st p⟩],kn:=st.kn+100 }:=cH.acp (x:=(p.nm,p.ow,p.wo,lD st p)) cG hv2 ht2 hr2 cr2 sh2;have G3:=cG.wr (a:=A.as) (o:=.lst (JR++[.ref t])) rfl;have F3:=cF.trans (Fr.write (o:=.lst (JR++[.ref t])) cH.jH);have YN:∀b,upd H2 A.as (.lst (JR++[.ref t])) b=none->H b=none:=λb hb=>fr2 b (lY hb);have wf3:Wf { st with bM:=st.bM++[⟨p.nm,p.ow,p.wo,lD st p⟩],kn:=st.kn+100 }:={ wf with u_:=wS.u_,Jg:=wS.Jg }
 generalize upd H2 A.as (.lst (JR++[.ref t]))=H3 at *;clear cH cG cF hv2 hA2 ht2 hr2 sh2;obtain⟨j1,j2,_,_⟩:=h3.opt i p qq e2 e3;refine(_,Z,A.a,T.hold,A.dx,_,_,Z,h3.oa,X.cH,X.DC,Z,_,Z,A.a,A.dx,_,Z,h3.oa,Z,_,Z,⟨(n,ρ2,A,_,i,p,qq,Z,h3,wf3,e2,e3,λl H4 g4 gH hl1=>?_)⟩);have hl1:H4 l=some (.lst ((aT st p).map V.int)):=hl1;have tl:=Ca wf fc;have eU:=wf.lR;have oU:=wf.oU;have j4:=g4 _ _ j1;have zw:=ld.wo p fc;refine(_,_,_,_,_,_,Z,.lst (aC.of (g4 _ _ h3.m8)),.lst (aC.of hl1),λAp Bi=>?_);refine yZ (K:=K) (n:=st.bN.length) [0,1] (λi out H5=>aM H4 H5/\out=(List.zipWith (λu t=>u+p.wo*t) (st.bN.take i) ((aT st p).take i)).map V.int) (by decide) (by omega) (aF Bi _,Z) (λi out H5 hi _ hp=>(aC.of (hp.1 _ _ (g4 _ _ h3.m8)),aC.of (hp.1 _ _ hl1),by rw[aG];exact hi,by rw[aG,tl];omega))
  (λout H5 _ hp=>(aC.of (hp.1 _ _ (g4 _ _ h3.m8)),aC.of (hp.1 _ _ hl1),.inl (by rw[aG];exact aO _))) ?_ ?_
 .rintro k x out H5 H6 hk aiJ ha ⟨g5,e5⟩ ⟨pp,x1,y1,hpp,rfl,rfl,e6,e7⟩;obtain⟨u,rfl,eu⟩:=h_ e6;obtain⟨c,rfl,ec⟩:=h_ e7;have g6:=aF hpp (.tup [.int u,.int c]);refine(pp,_,Z,cU.of aq,Z,_,Z,_,Z,qq.1,T.part,qq.2.1,_,_,Z,(g5.trans g6) _ _ j4,X.cP,X.wM,Z,_,Z,_,_,Z,Z,.inl (by have:p.wo.natAbs<2 ^ 60:=zw;omega),_,_,Z,Z,g6 _ _ ha,(g5.trans g6).cJ Bi _,?_);rw[nv _ eu ec,e5,bQ];rfl
 rintro out H5 aiJ ha5 ⟨g5,e5⟩;rw[cQ,show st.bN.length=(aT st p).length by omega,cQ]at e5;have e5:out=(gF st p).map V.int:=e5;subst e5;have adT:H3 Ap=none:=g4.free Bi;have g35:=g4.trans g5;have h5:=h3.mono g35;have G5:=G3.same g35;have F5:=F3.trans (Fr.of_same (ρ:=ρ2) g35);have ca:ρ2 Ap=none:=G3.none adT;have j5:=g5 _ _ j4;have hown:=wf.ow p fc;have gl:=Cd wf fc;have hix:st.own.idxOf p.ow<(gF st p).length:=gl▸qQ hown;refine(_,Z,_,Z,A.a,A.dx,_,Z,h5.oa,Z,_,Z,qq.1,T.part,qq.2.1,_,_,Z,j5,X.cP,X.pow,Z,⟨(n,ρ2,A,_,p.ow,Z,h5,hown,?_)⟩);have at':lz ((gF st p).map V.int) ((st.own.idxOf p.ow:Nat):Int)=some (.int ((gF st p).getD (st.own.idxOf p.ow) 0)):=aE (by rw[bP,dQ,a_ hix];rfl);refine(Ap,_,_,_,Z,Z,aC.of ha5,at',_,Z,qq.1,T.part,qq.2.1,_,_,Z,j5,X.cP,X.wM,Z,_,Z,A.a,T.hold,A.dx,_,_,Z,h5.oa,X.cH,X.y_,Z,A.bt,T.bot,A.db,_,_,Z,h5.kP,X.cB,X.QW,Z,_,_,Z,Z,.inl (by have:p.wo.natAbs<2 ^ 60:=zw;omega),_,_,Z,Z,Ap,_,_,st.own.idxOf p.ow,Z,Z,ha5,by rw[aG];exact mH hix,?_);have m1:((gF st p).map V.int).set (st.own.idxOf p.ow) (.int ((gF st p).getD (st.own.idxOf p.ow) 0-p.wo*st.prod))=(mS st p).map V.int:=kU.symm;have G6:=G5.wr (a:=Ap) (o:=.lst ((mS st p).map V.int)) rfl;have h6:=h5.same (MF (o:=.lst ((mS st p).map V.int)) ca ha5 rfl);have n6:H Ap=none:=YN Ap adT;have F6:=F5.new (o:=.lst ((mS st p).map V.int)) n6;show wu _ _ _ _ (upd H5 Ap (.lst (((gF st p).map V.int).set (st.own.idxOf p.ow) (.int ((gF st p).getD (st.own.idxOf p.ow) 0-p.wo*st.prod)))));rw[m1];have zK:upd H5 Ap (.lst ((mS st p).map V.int)) Ap=some (.lst ((mS st p).map V.int)):=aq;generalize upd H5 Ap (.lst ((mS st p).map V.int))=H6 at *;refine(_,Z,_,Z,A.a,T.hold,A.dx,_,Z,h6.oa,X.cH,X.DC,by show 7<1000;decide,?_);obtain⟨h7,G7⟩:=BL (t:=7) h6 G6 ca zK rfl;have F7:Fr n ρ H (b7 ρ2 Ap (n,7,⟨#[]⟩)) H6:=F6.jM n6;have h8:=h7.UO G7 Ap _ zK c6;have G8:=G7.wr (a:=A.a) (o:=.ins T.hold A.dx (kM { A with pu:=Ap })) rfl;have F8:=F7.trans (Fr.write (o:=.ins T.hold A.dx (kM { A with pu:=Ap })) h7.ca);rw[show iK "purses" (V.ref Ap) (kM A)=kM { A with pu:=Ap }from rfl];generalize upd H6 A.a (.ins T.hold A.dx (kM { A with pu:=Ap }))=H8 at *;have hv8:=v7 wf.fP e2 e3;have dk:=D6 wf.fP hh.h.ql e2;refine(_,Z,A.a,T.hold,A.dx,_,_,Z,h8.oa,X.cH,X.hab,Z,_,Z,A.ab,_,Sum.inr p.nm,Z,h8.d9,Z,?_,?_)
 .show (eE (cY st.ah A.qs) (Sum.inr p.nm)).isSome=true;rw[hv8];rfl
 show Q .cK (upd H8 A.ab (.dK (nW (cY st.ah A.qs) (Sum.inr p.nm))));rw[dk];have hi2:i<A.qs.length:=hh.h.ql▸hi;have h9:=h8.Mv G8 (st.ah.eraseIdx i) (A.qs.eraseIdx i) (by rw[RV hi,RV hi2,hh.h.ql]) (λj x y ex ey=>by obtain⟨k,a1,a2⟩:=BI ex ey;exact h8.opt k x y a1 a2)
 rw[Cc wf.fP e2]at q wS;exact q _ { { A with pu:=Ap }with qs:=A.qs.eraseIdx i } _ (G8.wr rfl,h9,wS) rfl (F8.trans (Fr.write h8.iw))
abbrev vq:Stmt:=inClass (top 21) 9
abbrev sf:Da Str:=["self","part","name","amount","weight"]
abbrev NV:Da Str:=sf.append ["source"]
def AW:aQ NV sf (aD vq):=c9
theorem Io{T:TC}{e:Ec}(F:ja K T.hold "sever" "Hold.sever" vq f fd)(X:Txt K T)(c5:Mn P w K mg base 1 T.hold "part_of" fJ (sN (nE T e)))(jP:Mn P w K mg base 3 T.hold "check_new" jN (sN (yJ T e)))(mJ:Mn P w K mg base 1 T.hold "stow" pH (MA T))(zC:Cn P w K mg base 1 "Part" T.part ["self","name","owner","worth","weight","scale","row"] (HC T K)):Mn P w K mg base 4 T.hold "sever" sf (sN (Nf T e)):=by
 refine F.oA AW λ_ _ _ _ H _ Q E hr h=>?_;obtain⟨⟨n,ρ,A,st,x,y,a,we,rfl,NW,hy0,hl1,hl2,dq⟩⟩:=h;refine(_,(@cZ.h _ _ _ (ak (aV (i:=5) AW.nd (cy c5 hr (qv 0) (af (qv 1) aj)))
  (ak (cu (cy jP hr (qv 0) (af (qv 2) aj)))
  (ak (b_ (fm (bW.pt (jd (aS ud (qv 3) ai (aZ _)) (iP (aS ud (qv 4) ai (aZ _)))))) (au g_) br)
  (ak (b_ (fm (bW.pt (jd (aS Lm (qv 3) (aN K (qv 5)) (aZ _)) (iP (aS jS (qv 4) (aN K (qv 5)) (aZ _)))))) (au g_) br)
  (ak (rO K (qv 5) (qv 3) LW)
  (ak (rO K (qv 5) (qv 4) LW)
  (au (cu (cy mJ hr (qv 0) (af (YQ zC hr (af (qv 2) (af (aN K (qv 5)) (af (qv 3) (af (qv 4) (af (aN K (qv 5)) (af (aN K (qv 5)) aj))))))) aj))))))))))),?_)
 refine(_,Z,A.a,A.dx,_,Z,NW.h.oa,Z,_,Z,⟨(n,ρ,A,st,x,Z,NW.h,NW.wf.fP,λhn=>dq.no 3 ?_,λi p qq e1 e2 e3=>?_)⟩)
 .unfold lF;rw[av (λz=>?_)];obtain⟨j,p,h1,h2⟩:=oH z;exact hn p (bg h1) h2
 have fc:=bg e2;have eg:cS st x=p:=dR NW.wf fc e1;subst e1;have hm:=C0 e2;have eR:lF st p.nm y a we=match newR st y with
  | some i=>some i
  | none=>if a<1\/we<0 then some 5 else if p.wo<=a\/p.we<we then some 6 else none:=by unfold lF;rw[ay hm,eg];first|done|(cases newR st y <;> rfl)
 refine(_,Z,A.a,A.dx,_,Z,NW.h.oa,Z,_,Z,⟨(n,ρ,A,st,y,Z,NW.h,hy0,λi hi=>dq.no i (by rw[eR,hi]),λhnew H1 g1=>?_)⟩);rw[hnew]at eR;have eR:lF st p.nm y a we=if a<1\/we<0 then some 5 else if p.wo<=a\/p.we<we then some 6 else none:=eR;have hh:=NW.mono g1;obtain⟨k1,k2,k3,k4⟩:=hh.h.opt i p qq e2 e3;by_cases hb:a<1\/we<0
 .have rq:=dq.no 5 (by rw[eR,ay hb]);refine(true,(_,Z,_,_,Z,Z,_,Z,dX (λc=>(Z,Z)) λc=>(_,Z,_,_,Z,Z,_,Z,bR (hb.resolve_left λz=>c (bR z)),Z)),fZ (rq 0 H1 g1))
 rw[av hb]at eR;refine(false,(_,Z,_,_,Z,Z,_,Z,dX (λc=>absurd (eO c) (by omega)) λ_=>(_,Z,_,_,Z,Z,_,Z,dM (by omega),Z)),aR ?_);by_cases hb2:p.wo<=a\/p.we<we
 .have rq:=dq.no 6 (by rw[eR,ay hb2]);refine(true,(_,Z,_,Z,qq.1,T.part,qq.2.1,_,_,Z,k1,X.cP,X.wM,Z,_,_,Z,Z,_,Z,dX (λc=>(Z,Z)) λc=>(_,Z,_,Z,qq.1,T.part,qq.2.1,_,_,Z,k1,X.cP,X.UQ,Z,_,_,Z,Z,_,Z,bR (hb2.resolve_left λz=>c (bR z)),Z)),fZ (rq 0 H1 g1))
 rw[av hb2]at eR;have q:=dq.ok eR;refine(false,(_,Z,_,Z,qq.1,T.part,qq.2.1,_,_,Z,k1,X.cP,X.wM,Z,_,_,Z,Z,_,Z,dX (λc=>absurd (eO c) (by show ¬ p.wo<=a;omega)) λ_=>(_,Z,_,Z,qq.1,T.part,qq.2.1,_,_,Z,k1,X.cP,X.UQ,Z,_,_,Z,Z,_,Z,dM (by show ¬ p.we<we;omega),Z)),aR ?_);refine(_,Z,qq.1,T.part,qq.2.1,_,_,Z,k1,X.cP,X.wM,Z,_,Z,_,_,Z,Z,qq.2.1,_,k1,by show 6<1000;decide,?_);have wA:Wf (pG st p.nm λp=>{ p with wo:=p.wo-a }):=zu hh.wf λp' eW e=>by rw[oj hh.wf eW fc e];exact(Z,Z,Z,Z,by show 1<=p.wo-a;omega,(hh.wf.kj p fc).2)
 have wB:Wf (pG st p.nm λp=>{ p with wo:=p.wo-a,we:=p.we-we }):=zu hh.wf λp' eW e=>by rw[oj hh.wf eW fc e];exact(Z,Z,Z,Z,by show 1<=p.wo-a;omega,by show 0<=p.we-we;omega)
 have wS:=Ng hh.wf eR hl1 hl2;have esA:pG st p.nm (λp=>{ p with wo:=p.wo-a })={ st with ah:=st.ah.set i { p with wo:=p.wo-a } }:=C3 hh.wf.fP e2 _;have esB:pG st p.nm (λp=>{ p with wo:=p.wo-a,we:=p.we-we })={ st with ah:=st.ah.set i { p with wo:=p.wo-a,we:=p.we-we } }:=C3 hh.wf.fP e2 _;have hi:i<st.ah.length:=(c_.mp e2).1;have hA:=hh.h.mC (p1:={ p with wo:=p.wo-a }) hh.g e2 e3 rfl rfl hh.wf.fP;have gA:Gh ρ (upd H1 qq.1 (.ins T.part qq.2.1 (dB { p with wo:=p.wo-a } qq.2.2))):=hh.g.wr rfl;have FA:Fr n ρ H ρ (upd H1 qq.1 (.ins T.part qq.2.1 (dB { p with wo:=p.wo-a } qq.2.2))):=(Fr.of_same g1).trans (Fr.write k3);have kA:upd H1 qq.1 (.ins T.part qq.2.1 (dB { p with wo:=p.wo-a } qq.2.2)) qq.1=some (.ins T.part qq.2.1 (dB { p with wo:=p.wo-a } qq.2.2)):=aq;have nA:∀b,upd H1 qq.1 (.ins T.part qq.2.1 (dB { p with wo:=p.wo-a } qq.2.2)) b=none->H b=none:=λb h=>g1.free (lY h);show wu _ _ _ _ (upd H1 qq.1 (.ins T.part qq.2.1 (dB { p with wo:=p.wo-a } qq.2.2)));generalize upd H1 qq.1 (.ins T.part qq.2.1 (dB { p with wo:=p.wo-a } qq.2.2))=H2 at *;refine(_,Z,qq.1,T.part,qq.2.1,_,_,Z,kA,X.cP,X.UQ,Z,_,Z,_,_,Z,Z,qq.2.1,_,kA,by show 6<1000;decide,?_);have hB:=hA.mC (i:=i) (p1:={ p with wo:=p.wo-a,we:=p.we-we }) gA (kJ hi) e3 rfl rfl (by have:=wA.fP;rw[esA]at this;exact this);have Y8:(st.ah.set i { p with wo:=p.wo-a }).set i { p with wo:=p.wo-a,we:=p.we-we }=st.ah.set i { p with wo:=p.wo-a,we:=p.we-we }:=qV ..;have gB:Gh ρ (upd H2 qq.1 (.ins T.part qq.2.1 (dB { p with wo:=p.wo-a,we:=p.we-we } qq.2.2))):=gA.wr rfl;have FB:Fr n ρ H ρ (upd H2 qq.1 (.ins T.part qq.2.1 (dB { p with wo:=p.wo-a,we:=p.we-we } qq.2.2))):=FA.trans (Fr.write k3);have kB:upd H2 qq.1 (.ins T.part qq.2.1 (dB { p with wo:=p.wo-a,we:=p.we-we } qq.2.2)) qq.1=some (.ins T.part qq.2.1 (dB { p with wo:=p.wo-a,we:=p.we-we } qq.2.2)):=aq;generalize hH3:upd H2 qq.1 (HO.ins T.part qq.2.1 (iK _ _ _))=H3;have X8:upd H2 qq.1 (.ins T.part qq.2.1 (dB { p with wo:=p.wo-a,we:=p.we-we } qq.2.2))=H3:=hH3;have nB:∀b,H3 b=none->H b=none:=λb h=>nA b (lY (X8▸h));rw[X8]at hB gB FB kB;have m_:HH T n ρ A H3 (pG st p.nm λp=>{ p with wo:=p.wo-a,we:=p.we-we }):=(gB,by rw[esB,<-Y8];exact hB,wB)
 obtain⟨_,r3,_,_⟩:=hB.opt i { p with wo:=p.wo-a,we:=p.we-we } qq (by show((st.ah.set i _).set i _)[i]?=_;rw[Y8];exact kJ hi) e3;clear hA hB gA FA kA hH3 X8;refine(_,Z,A.a,A.dx,_,Z,m_.h.oa,Z,_,Z,_,Z,qq.1,T.part,qq.2.1,_,_,Z,kB,X.cP,X.pow,Z,_,Z,_,Z,_,Z,qq.1,T.part,qq.2.1,_,_,Z,kB,X.cP,X.Jf,Z,_,Z,qq.1,T.part,qq.2.1,_,_,Z,kB,X.cP,X.Mw,Z,?_);intro v dv hv hdv hvd;have NL:upd (upd H3 dv (.own v)) v (.ins T.part dv []) qq.2.2=some (.lst (p.row.map V.int)):=by rw[aA (aJ r3 hv),aA (aJ r3 hdv)];exact r3
 refine⟨(v,dv,qq.2.2,(y,p.ow,a,we,p.sc,p.row),Z,aq,aC.of NL,λrr H6 hrr k6 hy6 X4=>(Z,?_))⟩;have NN:H3 rr=none:=lY (lY hrr);have g6:aM H3 H6:=λb u e=>k6 b u (by rw[aA (aJ e hv),aA (aJ e hdv)];exact e) (aJ e hv);have AU:=m_.mono g6;have F6:=FB.trans (Fr.of_same (ρ:=ρ) g6);unfold rN at wS q;rw[eg]at wS q;exact⟨(n,ρ,A,_,(v,dv,rr),_,Z,AU,hy6,X4,m_.g.none hv,m_.g.none NN,(lZ eR).2.1.2,wS,λρ' A' H' a1 a2 a3=>q ρ' A' H' a1 a2 (a3.fr F6 (nB _ hv) (nB _ NN)))⟩
abbrev t7:Stmt:=inClass (top 21) 10
abbrev p5:Da Str:=["self"]
abbrev Ko:Da Str:=p5
def Ip:aQ Ko p5 (aD t7):=c9
def Iq{T:TC}(F:ja K T.hold "roster" "Hold.roster" t7 f fd)(X:Txt K T)(dJ:mg "list"=none):Mn P w K mg base 1 T.hold "roster" p5 (MB T):=by refine F.oA Ip λ_ _ _ _ H _ Q E hr h=>?_;obtain⟨⟨n,ρ,A,st,rfl,h,q⟩⟩:=h;refine(_,(@cZ.h _ _ _ (au (aX (kC (SM rfl) (by rfl) dJ wc (af (aN K (qv 0)) aj))))),?_);refine(_,Z,A.a,T.hold,A.dx,_,_,Z,h.oa,X.cH,X.hpl,Z,A.pl,_,Z,.inl h.jj,λl hl=>?_);rw[D3];exact q l hl
abbrev oY:Stmt:=inClass (top 21) 26
abbrev l7:Da Str:=["self","place"]
abbrev Eu:Da Str:=l7.append ["own"]
def vJ:aQ Eu l7 (aD oY):=c9
theorem Dc{T:TC}(F:ja K T.hold "stake_top" "Hold.stake_top" oY f fd)(X:Txt K T)(fE:Mn P w K mg base 1 T.hold "whole" jO (ze T))(fT:mg "sum"=none):Mn P w K mg base 2 T.hold "stake_top" l7 (Ge T):=by
 refine F.oA vJ λ_ _ _ _ H _ Q E hr h=>?_;obtain⟨⟨n,ρ,A,st,k,rfl,h,ok,hk,q⟩⟩:=h;refine(_,(@cZ.h _ _ _ (ak (aV (i:=2) vJ.nd (aK (kh K rfl) (by rfl) fT wg (af (FZ (gM ["part","place"] [none,some 1] rfl (zh (aN K (qv 0))) (λ_ _ _ _=>(aW (i:=0) (show List.Nodup (["part","place"] :Da Str)from by decide +kernel))) (λ_ _ _ _=>(aL gJ (aL kg (aN K (qv 0)) (aN K (qv 0))) (aB (aH K) (aN K (qv 0)) (qv 1)))) rfl (by rfl))) aj)))
  (au (aX (aL cV (qv 2) (aL kg (tO fE hr (qv 0)) (aB (aH K) (aN K (qv 0)) (qv 1)))))))),?_)
 have wf:=ok.wf;have hl:=wf.rD;refine(A.ab,_,h.d9,λo=>?_);refine(_,Z,A.a,T.hold,A.dx,_,_,Z,fj h.d9 h.oa (λk z=>by cases z),X.cH,X.hab,Z,A.ab,o,_,Z,aq,λAp Bi=>?_);have el:=v5 h.ql;refine iD (n:=st.ah.length) 0 (λi out H1=>aM (upd H A.ab (.fX o (.dK (cY st.ah A.qs)))) H1/\out=((st.ah.take i).map λp:Pt=>p.wo*p.sc*p.row.getD k 0).map V.int) (by omega) (aF Bi _,Z) (λi out H1 hi _ hp=>(hp.1 _ _ aq,el▸hi)) (λout H1 _ hp=>(hp.1 _ _ aq,el▸aO _)) ?_ ?_
 .rintro i x out H1 H2 hi eU ha ⟨g,e⟩ ⟨rfl,kv,hkv,rfl⟩;have ep:=a_ hi;have fc:=xY hi;obtain⟨qq,eq,h1,h2,_⟩:=h.find ep;rw[vZ ep eq]at hkv;cases hkv;generalize st.ah[i]=p at *;have hq:=g _ _ (fj h.d9 h1 (λk z=>by cases z));have hrw:=g _ _ (fj h.d9 h2 (λk z=>by cases z));have hkr:k<p.row.length:=wf.rows p fc▸hk;have s1:Jm.Sz 8000 p.sc:=Jm.Sz.mw (by have:=wf.rE p fc;have:=wf.gq;omega) (wf.rE p fc).2 wf.big;have hr0:=wf.oV p fc _ (JL hkr);have s2:Jm.Sz 8000 (p.row.getD k 0):=Jm.Sz.mw hr0.1 hr0.2 wf.big;have s3:=(ok.wo p fc).mul s1;have cm:LS p.wo p.sc:=.inl (by have:p.wo.natAbs<2 ^ 60:=ok.wo p fc;omega);refine(_,Z,qq.1,T.part,qq.2.1,_,_,Z,hq,X.cP,X.wM,Z,_,Z,qq.1,T.part,qq.2.1,_,_,Z,hq,X.cP,X.Jf,Z,_,_,Z,Z,cm,_,Z,qq.1,T.part,qq.2.1,_,_,Z,hq,X.cP,X.Mw,Z,_,Z,qq.2.2,_,_,_,Z,Z,aC.of hrw,getD_at hkr,_,_,Z,Z,gi s3 s2,ha,g.cJ Bi _,?_);rw[take_snoc ep,e,bQ,bQ];rfl
 rintro out H1 eU ha ⟨g,e⟩;rw[cQ]at e;have hz:=g _ _ (aq (H:=H) (a:=A.ab) (o:=.fX o (.dK (cY st.ah A.qs))));have na:Ap≠A.ab:=λe=>by rw[e,hz]at ha;cases ha
 refine(hz,Ap,st.ah.map (λp:Pt=>p.wo*p.sc*p.row.getD k 0),Z,aC.of (by rw[aA na,ha,e]),?_);have g2:=tF h.d9 g;generalize upd H1 A.ab (.dK (cY st.ah A.qs))=H2 at *;have h2:=h.mono g2;have hkc:k<st.bU.length:=wf.gk▸hk;refine(_,Z,_,Z,A.a,A.dx,_,Z,h2.oa,Z,⟨(n,ρ,A,st,Z,h2,hl,λH3 g3=>?_)⟩);have h3:=h2.mono g3;exact(_,Z,A.a,T.hold,A.dx,_,_,Z,h3.oa,X.cH,X.BF,Z,_,Z,A.cm,_,_,_,Z,Z,aC.of h3.jV,getD_at hkc,_,_,Z,Z,.inl (by have:(aI st).natAbs<2 ^ 60:=ok.wh;omega),_,_,Z,Z,q H3 (g2.trans g3))
abbrev vt:Stmt:=inClass (top 21) 14
abbrev sj:Da Str:=["self","owner"]
abbrev NX:Da Str:=sj
def Kq:aQ NX sj (aD vt):=c9
def Kr{T:TC}(F:ja K T.hold "stake" "Hold.stake" vt f fd)(X:Txt K T)(gY:Mn P w K mg base 2 T.bot "over" j6 (CW T))(qy:Mn P w K mg base 2 T.hold "stake_top" l7 (Ge T))(cL:Mn P w K mg base 1 T.hold "place_of" fR (zd T)):Mn P w K mg base 3 T.hold "stake" sj (Nn T):=by refine F.oA Kq λ_ _ _ _ H _ Q E hr h=>?_;obtain⟨⟨n,ρ,A,st,o,rfl,h,ok,ho,q⟩⟩:=h;refine(_,(@cZ.h _ _ _ (au (aX (cy gY hr (aN K (qv 0)) (af (cy qy hr (qv 0) (af (cy cL hr (qv 0) (af (qv 1) aj)) aj)) aj))))),?_);have wf:=ok.wf;refine(_,Z,A.a,T.hold,A.dx,_,_,Z,h.oa,X.cH,X.y_,Z,A.bt,A.db,_,Z,h.kP,Z,_,Z,A.a,A.dx,_,Z,h.oa,Z,_,Z,A.a,A.dx,_,Z,h.oa,Z,_,Z,⟨(n,ρ,A,st,o,Z,h,ho,?_)⟩);refine⟨(n,ρ,A,st,st.own.idxOf o,Z,h,ok,qQ ho,λH1 g1=>?_)⟩;have h1:=h.mono g1;exact⟨(A.bt,A.db,A.sp,A.kn,st.stp,st.prod,_,Z,h1.kP,h1.qJ,wf.pS,wf.u9,wf.big,λr H2 g2 hr2=>q r H2 (g1.trans g2) hr2)⟩
abbrev vv:Stmt:=inClass (top 21) 15
abbrev sr:Da Str:=["self","owner"]
abbrev NY:Da Str:=sr
def Ks:aQ NY sr (aD vv):=c9
def Ku{T:TC}(F:ja K T.hold "purse" "Hold.purse" vv f fd)(X:Txt K T)(gY:Mn P w K mg base 2 T.bot "over" j6 (CW T))(cL:Mn P w K mg base 1 T.hold "place_of" fR (zd T)):Mn P w K mg base 3 T.hold "purse" sr (Rx T):=by refine F.oA Ks λ_ _ _ _ H _ Q E hr h=>?_;obtain⟨⟨n,ρ,A,st,o,rfl,h,wf,ho,q⟩⟩:=h;refine(_,(@cZ.h _ _ _ (au (aX (cy gY hr (aN K (qv 0)) (af (aB (aH K) (aN K (qv 0)) (cy cL hr (qv 0) (af (qv 1) aj))) aj))))),?_);have hk:st.own.idxOf o<st.bN.length:=wf.oU▸qQ ho;refine(_,Z,A.a,T.hold,A.dx,_,_,Z,h.oa,X.cH,X.y_,Z,A.bt,A.db,_,Z,h.kP,Z,_,Z,A.a,T.hold,A.dx,_,_,Z,h.oa,X.cH,X.DC,Z,_,Z,A.a,A.dx,_,Z,h.oa,Z,_,Z,⟨(n,ρ,A,st,o,Z,h,ho,?_)⟩);refine(A.pu,_,_,_,Z,Z,aC.of h.m8,getD_at hk,?_);exact⟨(A.bt,A.db,A.sp,A.kn,st.stp,st.prod,_,Z,h.kP,h.qJ,wf.pS,wf.u9,wf.big,λr H2 g2 hr2=>q r H2 g2 hr2)⟩
abbrev xE:Stmt:=top 26
abbrev iz:Da Str:=["_law_script","_law_k","_law_j","_law_many"]
abbrev Pn:Da Str:=iz.append ["_law_cell","_law_turn","_law_rest","_law_step","_law_one","_law_two"]
def gf:aQ Pn iz (aD xE):=c9
theorem NZ(F:At K mg "_law_draw" xE f fd)(bq:mg "len"=none)(bZ:mg "range"=none):Dn P w K mg base 1 "_law_draw" iz (rA K):=by
 refine F.oA gf λ_ _ _ _ H _ Q E hr h=>?_;obtain⟨⟨a,ns,k,j,BM,rfl,hS,h63,hk,hj,hj2,hm,q⟩⟩:=h;refine(_,(@cZ.h _ _ _ (ak (aV (i:=4) gf.nd ai)
  (ak (aV (i:=5) gf.nd ai)
  (ak (jk (aS jS (aK (bF K) (by rfl) bq cX (af (qv 0) aj)) ai (aZ _)) (ak (aV (i:=4) gf.nd (aB (aH K) (qv 0) (aL lq (qv 1) (aK (bF K) (by rfl) bq cX (af (qv 0) aj)))))
  (au (aV (i:=5) gf.nd (aL iQ (qv 1) (aK (bF K) (by rfl) bq cX (af (qv 0) aj)))))) br)
  (ak (aV (i:=6) gf.nd (qv 4))
  (ak (fk fQ rfl (f_ (by rfl) bZ (af (qv 2) aj)) (aW (i:=7) gf.nd) (au (aV (i:=6) gf.nd (aL iQ (qv 6) (aL qZ ai ai)))))
  (ak (b_ (fm (bW.pt (uL (aS dZ (qv 5) ai (aZ _)) (uL (aS Lm (qv 4) (aL qZ ai ai) (aZ _)) (v9 (aS jS (qv 6) ai (aZ _))))))) (au (aX (aL lq (aL lq (qv 6) (aL qZ ai ai)) (qv 3)))) br)
  (ak (aV (i:=8) gf.nd (aL lq (aL cV (aL cV (aL cV (aL kg (qv 4) ai) (aL kg (qv 1) ai)) (aL kg (qv 2) ai)) ai) ai))
  (ak (aV (i:=9) gf.nd (aL lq (aL cV (aL kg (qv 8) ai) (aL iQ (qv 4) ai)) ai))
  (ak (aV (i:=9) gf.nd (aL lq (aL cV (aL kg (qv 9) (aL cV (aL lq (qv 8) ai) ai)) (qv 2)) ai))
  (au (aX (aL lq (aL lq (aL cV (aL cV (aL kg (qv 8) ai) (aL kg (qv 9) ai)) (aL iQ (qv 9) ai)) ai) (qv 3)))))))))))))),?_)
 have hl:(ns.map V.int).length=ns.length:=aG _;refine(λσ H'=>H'=H/\σ=[some (.ref a),some (.int k),some (.int j),some (.int BM),some (.int (Jm.cellOf ns k)),some (.int (Jm.Bs ns k)),none,none,none,none],?_,?_)
 .refine (_,Z,a,_,Z,.inl hS,_,_,Z,Z,_,Z,?_);refine dX (λc=>?_) (λc=>?_)
  .have c':0<(((ns.map V.int).length:Nat):Int):=eO c;rw[hl]at c';have i0:0<=k % (ns.length:Int):=pL _ (by omega);have i1:k % (ns.length:Int)<(ns.length:Int):=zQ _ c';refine(_,Z,_,Z,_,Z,a,_,Z,.inl hS,_,_,Z,Z,(by show(0:Int)<_;rw[hl];exact c'),a,_,_,.int (ns.getD (k % ns.length).toNat 0),Z,Z,hS,?_,?_)
   .rw [hl];exact ZK i0 i1
   refine(_,Z,_,Z,a,_,Z,.inl hS,_,_,Z,Z,WV (n:=10) (hl▸c') (by rw[hl];omega) (by decide),Z,?_);unfold Jm.cellOf Jm.Bs;rw[ay c',ay c',hl];rfl
  .have c':¬ 0<(((ns.map V.int).length:Nat):Int):=qR (lO.mpr c);rw[hl]at c';refine(Z,?_);unfold Jm.cellOf Jm.Bs;rw[av c',av c'];rfl
 rintro σ H' ⟨rfl,rfl⟩;generalize ec:Jm.cellOf ns k=cell at *;generalize et:Jm.Bs ns k=turn at *;refine(_,Z,_,Z,j,Z,by omega,hj2,?_);refine iJ (lo:=0) (n:=j.toNat) (λi σ FG=>FG=H'/\∃st:Option V,σ=[some (.ref a),some (.int k),some (.int j),some (.int BM),some (.int cell),some (.int turn),some (.int (Jm.Fb cell i)),st,none,none]) (Z,none,Z) ?_ ?_
 .rintro i σ FG hi ⟨rfl,st,rfl⟩;refine(_,Z,_,_,Z,Z,(by decide,by decide,by decide),_,_,Z,Z,Bq (by decide +kernel),Z,?_);exact(_,Z)
 rintro σ FG ⟨rfl,st,rfl⟩;have full:Q (.int (Jm.draw ns k j BM)) FG:=q;unfold Jm.draw at full;rw[ec,et]at full;generalize er:Jm.Fb cell j.toNat=Cl at *;refine(decide (turn=0/\1000000000000000000<=cell/\0<Cl),?_,?_)
 .refine (_,Z,Z,_,Z,?_);by_cases h1:turn=0
  .rw [bR (by rw[h1] :V.int turn=V.int 0)];refine fZ (_,Z,_,_,Z,Z,(by decide,by decide,by decide),_,_,Z,Z,_,Z,?_);by_cases h2:1000000000000000000<=cell
   .rw [bR (show(10:Int) ^ (18:Int).toNat<=cell from h2)];refine fZ (_,Z,_,_,Z,Z,_,Z,?_,Z);by_cases h3:0<Cl
    .rw [bR h3,bR (h1,h2,h3)]
    .rw [dM h3,dM λz=>h3 z.2.2]
   .rw [dM (show ¬ (10:Int) ^ (18:Int).toNat<=cell from h2)];exact aR ((dM λz=>h2 z.2.1).symm,Z)
  .rw [dM (λz=>h1 (V.int.inj z))];exact aR ((dM λz=>h1 z.1).symm,Z)
 by_cases h:turn=0/\1000000000000000000<=cell/\0<Cl
 .rw [bR h];rw[ay h]at full;refine fZ (_,Z,_,_,Z,Z,(by decide,by decide,by decide),_,_,Z,Z,(by show(0:Int)<_;decide),_,Z,_,_,Z,Z,hm,?_);exact full
 .rw [dM h];rw[av h]at full;refine aR ?_;refine(_,Z,_,_,Z,Z,.inr (by decide,by decide),_,Z,_,_,Z,Z,.inr (by decide,by decide),_,_,Z,Z,_,Z,_,_,Z,Z,.inr (by decide,by decide),_,_,Z,Z,_,_,Z,Z,_,_,Z,Z,(by show(0:Int)<_;decide),?_);refine(_,Z,_,_,Z,Z,.inr (by decide,by decide),_,Z,_,_,Z,Z,Bq (by decide +kernel),_,_,Z,Z,_,_,Z,Z,(by show(0:Int)<_;decide),?_);unfold Jm.mixed at full;dsimp only at full ⊢;generalize e1:(cell*7919+k*104729+j*1299709+31) % 1000000007=one at *;generalize e2:(one*48271+cell / 1009) % 998244353=two at *;have b1:0<=one % 9973:=pL _ (by decide);have b2:one % 9973<9973:=zQ _ (by decide);refine(_,Z,_,Z,_,_,Z,Z,(by show(0:Int)<_;decide),_,_,Z,Z,_,_,Z,Z,.inr (by omega,by omega),_,Z,_,_,Z,Z,_,_,Z,Z,(by show(0:Int)<_;decide),?_);refine(_,Z,_,_,Z,Z,.inr (by decide,by decide),_,Z,_,_,Z,Z,.inr (by decide,by decide),_,_,Z,Z,_,Z,_,_,Z,Z,Bq (by decide +kernel),_,_,Z,Z,_,_,Z,Z,(by show(0:Int)<_;decide),_,Z,_,_,Z,Z,hm,?_);exact full
abbrev xF:Stmt:=top 28
abbrev uz:Da Str:=["_law_code","_law_size"]
abbrev Po:Da Str:=uz.append ["_law_word","_law_at_here"]
def nL:aQ Po uz (aD xF):=c9
theorem N1(F:At K mg "_law_name" xF f fd)(bZ:mg "range"=none):Dn P w K mg base 1 "_law_name" uz Hx:=by
 refine F.oA nL λ_ _ _ _ H _ Q E hr h=>?_;obtain⟨⟨c,n,rfl,hc,hn,q⟩⟩:=h;refine(_,(@cZ.h _ _ _ (ak (aV (i:=2) nL.nd aU)
  (ak (fk fQ rfl (f_ (by rfl) bZ (af (qv 1) aj)) (aW (i:=3) nL.nd) (ak (aV (i:=2) nL.nd (aL Sh (qv 2) (aB Uh aU (aL lq (qv 0) ai))))
  (au (aV (i:=0) nL.nd (aL iQ (qv 0) ai)))))
  (au (aX (qv 2)))))),?_)
 refine(_,Z,_,Z,by omega,by omega,?_);refine iJ (lo:=0) (n:=(n:Int).toNat) (λi σ H'=>H'=H/\∃(s1:Option V),σ=[some (.int (c / 26 ^ i)),some (.int n),some (.str (tx (lM c i))),s1]) (Z,none,by rw[Int.pow_zero,zX];rfl) ?_ ?_
 .rintro i σ H' hi ⟨rfl,s1,rfl⟩;have hp:(0:Int)<26 ^ i:=Int.pow_pos (by decide);have hd0:0<=c / 26 ^ i:=Lf hc (EV hp);have hm0:0<=c / 26 ^ i % 26:=pL _ (by decide);have hm1:c / 26 ^ i % 26<26:=zQ _ (by decide);refine(_,Z,_,Z,_,_,Z,Z,(by show(0:Int)<26;decide),_,_,_,Z,Z,(by decide +kernel),UD hm0 hm1,?_);refine(_,_,Z,Z,?_,?_)
  .rw [Bv,vP];show i+1<=sizeLine;exact CD (dO (by omega))
  refine(_,Z,_,_,Z,Z,wH (by decide) (iN (by decide +kernel)),Z,some (.int ((0:Int)+(i:Int))),?_);have e1:c / 26 ^ i / 26=c / 26 ^ (i+1):=by rw[Int.ediv_ediv_of_nonneg (EV hp),Int.pow_succ]
  have e2:(tx (lM c i)++tx [97+(c / 26 ^ i % 26).toNat] :Str)=tx (lM c (i+1)):=by rw[ab_,W4]
  rw[<-e1,<-e2];rfl
 rintro σ H' ⟨rfl,s1,rfl⟩;refine(_,Z,?_);rw[qS];exact q
abbrev nM:Stmt:=top 29
abbrev kY:Da Str:=["_law_script","_law_k","_law_many"]
abbrev De:Da Str:=kY.append ["_law_size","_law_names","_law_at_here","_law_code"]
def ie:aQ De kY (aD nM):=c9
theorem Co(F:At K mg "_law_many_names" nM f fd)(bD:Dn P w K mg base 1 "_law_draw" iz (rA K))(uA:Dn P w K mg base 1 "_law_name" uz Hx)(bZ:mg "range"=none):Dn P w K mg base 2 "_law_many_names" kY (yH K):=by
 refine F.oA ie λ_ _ _ _ H _ Q E hr h=>?_;obtain⟨⟨a,ms,k,BM,rfl,hS,h63,hk,hm,q⟩⟩:=h;refine(_,(@cZ.h _ _ _ (ak (aV (i:=3) ie.nd (aL cV ai (bB bD hr (af (qv 0) (af (qv 1) (af ai (af ai aj)))))))
  (ak (aV (i:=4) ie.nd (ia aj))
  (ak (fk fQ rfl (f_ (by rfl) bZ (af (qv 2) aj)) (aW (i:=5) ie.nd) (ak (aV (i:=6) ie.nd (bB bD hr (af (qv 0) (af (aL cV (qv 1) (qv 5)) (af ai (af (aL qZ ai ai) aj))))))
  (ak (Eb fQ (aS Uj (bB uA hr (af (qv 6) (af (qv 3) aj))) (qv 4) (by with_unfolding_all rfl)) (au (aV (i:=6) ie.nd (aL cV (qv 6) ai))))
  (au (cu (lX qb p_ qa fh (qv 4) (af (bB uA hr (af (qv 6) (af (qv 3) aj))) aj)))))))
  (au (aX (qv 4))))))),?_)
 have P10:Wy 10 10:=(by decide,by decide,by decide +kernel)
 refine(_,Z,_,Z,dG hS h63 hk (by decide) (by decide) (by decide) λsd _ s0 s1=>(_,_,Z,Z,?_));obtain⟨n,en⟩:∃n:Nat,2+sd=(n:Int):=((2+sd).toNat,by omega)
 refine((gR 0),λpn wV=>?_);have g0:=aF wV (.lst []);refine(_,Z,(BM:Int),Z,by omega,by omega,?_);refine iJ (lo:=0) (n:=(BM:Int).toNat) (λi σ H'=>aM H H'/\∃(qr:Da (Da Nat))(s1 s2:Option V),σ=[some (.ref a),some (.int k),some (.int BM),some (.int (2+sd)),some (.ref pn),s1,s2]/\H' pn=some (.lst (wJ qr))/\qr.length=i/\qr.Nodup/\∀x∈qr,rC x/\2<=x.length)
  (g0,[],none,none,Z,aq,Z,x9,λ_ m=>nomatch m) ?_ ?_
 .rintro i σ H' hi ⟨g,qr,s1,s2,rfl,hn,hnl,hnd,hok⟩;have hsl:(wJ qr).length=i:=by unfold wJ;rw[aG];exact hnl
  refine(_,Z,_,Z,_,Z,_,_,Z,Z,_,_,Z,Z,P10,dG (g.seq hS) h63 (by omega) (by decide) (by decide) (by decide +kernel) λc0 _ c00 c01=>?_);refine⟨λm σ H2=>H2=H'/\∃t:Nat,m=qr.length+1-t/\t<=qr.length/\σ=[some (.ref a),some (.int k),some (.int BM),some (.int (2+sd)),some (.ref pn),some (.int ((0:Int)+(i:Int))),some (.int (c0+(t:Int)))]/\∀j:Nat,j<t->lM (c0+(j:Int)) n∈qr,
   (_,Z,0,Z,gE _,by rw[show c0+((0:Nat):Int)=c0 from by omega];rfl,λj hj=>absurd hj (Nat.not_lt_zero _)),?_⟩
  rintro m σ H2 ⟨rfl,t,rfl,ht,rfl,htr⟩;refine(_,Z,_,Z,Mp en (by omega) (by omega) ?_);refine(_,Z,pn,_,Z,.inl (aC.of hn),Z,W7 qr,?_);show T5 _ (V.bl (if false=true then !QL (.str (tx (lM (c0+(t:Int)) n))) (wJ qr) else QL (.str (tx (lM (c0+(t:Int)) n))) (wJ qr))) _;rw[av gZ,ZS];refine(_,Z,dX (λc=>?_) (λc=>?_))
  .have hmem:lM (c0+(t:Int)) n∈qr:=eO c;have adV:∀j:Nat,j<t+1->lM (c0+(j:Int)) n∈qr:=λj hj=>by
    rcases Nat.lt_succ_iff_lt_or_eq.mp hj with z|z
    .exact htr j z
    .rw [z];exact hmem
   have hle:=W8 (c:=c0) (n:=n) (t:=t+1) (by omega) (by omega) adV;refine(_,λ_ _ z=>z,?_);refine(_,Z,_,_,Z,Z,?_);exact(_,(by omega:qr.length+1-(t+1)<qr.length+1-t),Z,t+1,Z,hle,by rw[show c0+((t+1:Nat):Int)=c0+(t:Int)+1 from by omega];rfl,adV)
  .have hnm:lM (c0+(t:Int)) n∉qr:=qR (lO.mpr c);refine(_,Z,.inl (Z,_,aC.of hn),?_);refine(_,Z,_,Z,Mp en (by omega) (by omega) ?_);refine(pn,wJ qr,_,Z,Z,hn,dO (by omega),g.cJ wV _,qr++[lM (c0+(t:Int)) n],_,_,Z,?_,?_,nX hnd hnm,λx hx=>?_)
   .rw [aq];unfold wJ;rw[bQ];rfl
   .rw [c7,hnl];rfl
   .rcases dN.mp hx with z|z
    .exact hok x z
    .rw [dw.mp z];exact(acg _ (by omega) (by omega),by rw[vP];omega)
 rintro σ H' ⟨g,qr,s1,s2,rfl,hn,hnl,hnd,hok⟩;exact(_,Z,q pn qr H' g hn wV (by omega) hnd hok)
abbrev xG:Stmt:=top 27
abbrev mK:Da Str:=["_law_script","_law_k","_law_j"]
abbrev Pp:Da Str:=mK.append ["_law_size"]
def Cp:aQ Pp mK (aD xG):=c9
theorem N3(F:At K mg "_law_much" xG f fd)(bD:Dn P w K mg base 1 "_law_draw" iz (rA K)):Dn P w K mg base 2 "_law_much" mK (Bu K):=by
 refine F.oA Cp λ_ _ _ _ H _ Q E hr h=>?_;obtain⟨⟨a,ns,k,j,rfl,hS,h63,hk,hj,hj2,q⟩⟩:=h;refine(_,(@cZ.h _ _ _ (ak (aV (i:=3) Cp.nd (aB (aH K) (ia (af ai (af ai (af ai (af (aL qZ ai ai) aj))))) (bB bD hr (af (qv 0) (af (qv 1) (af (qv 2) (af ai aj)))))))
  (au (aX (aL cV ai (bB bD hr (af (qv 0) (af (qv 1) (af (aL cV (qv 2) ai) (af (qv 3) aj)))))))))),?_)
 refine(_,_,Z,Z,(by decide,by decide,by decide),(gR 4),λp1 hp1=>?_);have g1:=aF hp1 (.lst [V.int 9,V.int 40,V.int 1000,V.int (10 ^ (9:Int).toNat)]);refine(_,Z,_,Z,_,Z,dG (g1.seq hS) h63 hk hj (by omega) (by decide) λd _ d0 d1=>?_);obtain⟨B,hB,hB0,hB1⟩:∃B:Int,lz [V.int 9,V.int 40,V.int 1000,V.int (10 ^ (9:Int).toNat)] d=some (.int B)/\0<B/\B<=1000000000:=by
  rcases(by omega:d=0\/d=1\/d=2\/d=3)with e|e|e|e
  .exact (9,by rw[e];rfl,by decide,by decide)
  .exact (40,by rw[e];rfl,by decide,by decide)
  .exact (1000,by rw[e];rfl,by decide,by decide)
  .exact (10 ^ (9:Int).toNat,by rw[e];rfl,by decide,by decide)
 refine(p1,_,_,_,Z,Z,aC.of aq,hB,?_);refine(_,Z,_,Z,_,Z,_,_,Z,Z,_,Z,dG (g1.seq hS) h63 hk (by omega) (by omega) hB0 λe _ e0 e1=>(_,_,Z,Z,?_));exact q (1+e) _ (by omega) (by omega) g1
abbrev yM:Stmt:=top 45
abbrev l9:Da Str:=["_law_found"]
abbrev Td:Da Str:=l9
def Pq:aQ Td l9 (aD yM):=c9
def Pr(F:At K mg "_law_int" yM f fd)(bY:mg "isinstance"=none)(C7:mg "int"=none)(N4:mg "bool"=none):Dn P w K mg base 1 "_law_int" l9 Fc:=by refine F.oA Pq λ_ _ _ _ H _ Q E hr h=>?_;obtain⟨i,rfl,q⟩:=h;refine(_,(@cZ.h _ _ _ (au (aX (M3 (aK (dH K) (by rfl) bY v_ (af (qv 0) (af (lW PyProof.Rows.boot_int rfl C7) aj))) (MZ (acX (aK (dH K) (by rfl) bY v_ (af (qv 0) (af (lW PyProof.Rows.boot_bool rfl N4) aj))))))))),?_);refine(_,Z,_,_,_,_,Z,iA.int i,iC,_,Z,fZ ?_);refine(_,Z,_,_,_,_,Z,iA.int i,Mc,_,Z,?_);exact q
abbrev vz:Stmt:=top 46
abbrev nN:Da Str:=["_law_top","_law_bottom"]
abbrev N5:Da Str:=nN.append ["_law_one","_law_other"]
def p6:aQ N5 nN (aD vz):=c9
theorem Kv(F:At K mg "_law_least" vz f fd)(Te:mg "abs"=none):Dn P w K mg base 1 "_law_least" nN CQ:=by
 refine F.oA p6 λ_ _ _ _ H _ Q E hr h=>?_;obtain⟨⟨t,b,rfl,hb,hb2,q⟩⟩:=h;refine(_,(@cZ.h _ _ _ (ak (aV (i:=2) p6.nd (aK Wz (by rfl) Te PyProof.Rows.boot_abs (af (qv 0) aj)))
  (ak (aV (i:=3) p6.nd (qv 1))
  (ak (Eb fQ (aS uc (qv 3) ai (aZ _)) (au (Vi (i:=2) (j:=3) rfl p6.nd rfl rfl (by decide) rfl rfl (af (qv 3) (af (aL lq (qv 2) (qv 3)) aj)) (by rfl))))
  (au (aX (f7 (af (aL iQ (qv 0) (qv 2)) (af (aL iQ (qv 1) (qv 2)) aj))))))))),?_)
 refine(_,Z,_,Z,_,Z,?_);refine⟨λm σ H'=>∃x y:Int,m=y.toNat/\σ=[some (.int t),some (.int b),some (.int x),some (.int y)]/\H'=H/\0<=x/\0<=y/\Jm.cf x y=Jm.cf b t,
  (_,(if t<0 then -t else t),b,Z,Z,Z,(by split <;> omega),EV hb,(by rw[Jm.QO,Jm.ab0])),?_⟩
 rintro m σ H' ⟨x,y,rfl,rfl,rfl,hx,hy,e⟩;refine(_,Z,Z,_,Z,dX (λc=>?_) (λc=>?_))
 .have c1:¬ V.int y=V.int 0:=qR (by simpa using c);have c':0<y:=by have:y≠0:=λz=>c1 (by rw[z]);omega
  refine(_,λ_ _ z=>z,?_);refine(_,Z,_,Z,_,Z,_,_,Z,Z,c',_,_,Z,?_);have h1:0<=x % y:=pL _ (by omega);have h2:x % y<y:=zQ _ c';exact(_,(by omega:(x % y).toNat<y.toNat),y,x % y,Z,Z,Z,hy,h1,(Jm.Hu x y c').trans e)
 .have c1:V.int y=V.int 0:=by simpa using c
  have ey:y=0:=V.int.inj c1;subst ey;rw[Jm.QN x hx]at e;subst e;have g0:0<Jm.cf b t:=Jm.E_ _ _ (.inl hb);have g1:Jm.Sz 9000 (Jm.cf b t):=hb2.dvd hb (EV g0) (Jm.uf b t);have gd:∀i,CO i (Jm.cf b t):=λi=>wH g0 g1;refine(_,Z,_,Z,_,_,Z,Z,gd _,_,Z,_,Z,_,_,Z,Z,gd _,(gR 2),λp hp=>?_);refine q p _ (aF hp _) ?_;rw[aq];show some (HO.tup [V.int (t / Jm.cf b t),V.int (b / Jm.cf b t)])=some (HO.tup [V.int (Jm.fr t b).num,V.int ((Jm.fr t b).den:Int)]);rw[Jm.Us t b hb,Jm.Me t b hb]
abbrev Az:Stmt:=top 47
abbrev uP:Da Str:=["_law_found","_law_top","_law_bottom"]
abbrev VR:Da Str:=uP
def Tf:aQ VR uP (aD Az):=c9
def Tg(F:At K mg "_law_is" Az f fd)(fU:Dn P w K mg base 1 "_law_int" l9 Fc)(lI:Dn P w K mg base 1 "_law_least" nN CQ)(bY:mg "isinstance"=none)(iT:mg "tuple"=none)(bq:mg "len"=none):Dn P w K mg base 2 "_law_is" uP Sx:=by
 refine F.oA Tf λ_ _ _ _ H _ Q E hr h=>?_
 obtain⟨⟨p,q,t,b,rfl,hp,h0,h1,e,hq⟩⟩:=h
 refine(_,(@cZ.h _ _ _ (ak (b_ (fm (bW.pt (jd (eY (d_ (aK (dH K) (by rfl) bY v_ (af (qv 0) (af (lW Lx rfl iT) aj))))) (iP (aS uc (aK (bF K) (by rfl) bq cX (af (qv 0) aj)) ai (aZ _)))))) (au (aX gG)) br)
  (ak (b_ (fm (bW.pt (jd (eY (d_ (bB fU hr (af (aB (aP K) (qv 0) ai) aj)))) (iP (eY (d_ (bB fU hr (af (aB (aP K) (qv 0) ai) aj)))))))) (au (aX gG)) br)
  (au (aX (CZ (ZL K hr.units) (qv 0) (bB lI hr (af (qv 1) (af (qv 2) aj))) (aZ _))))))),?_)
 refine(false,?_,aR ?_)
 . refine(_,Z,_,_,_,_,Z,iA.tup hp,iC,_,Z,aR ?_)
   exact(_,Z,_,_,Z,.inr (cU.of hp),Z,_,Z,Z,Z)
 refine(false,?_,aR ?_)
 . refine(_,Z,p,_,_,_,Z,Z,cU.of hp,Z,_,Z,_,Z,aR ?_)
   exact(_,Z,p,_,_,_,Z,Z,cU.of hp,Z,_,Z,_,Z,Z,Z)
 refine(_,Z,_,Z,_,Z,I_ h0 h1 λr H1 g1 hr1=>?_)
 rw[<-e]at hr1
 refine(_,_,Uz (g1 _ _ hp),Uz hr1,Dz _ _,Dz _ _,?_)
 rw[WX]
 exact hq H1 g1
abbrev oZ:Stmt:=top 48
abbrev l_:Da Str:=["_law_found","_law_parts"]
abbrev Ew:Da Str:=l_.append ["_law_at_here","_law_one"]
def o7:aQ Ew l_ (aD oZ):=c9
theorem Df(F:At K mg "_law_part_list" oZ f fd)(fU:Dn P w K mg base 1 "_law_int" l9 Fc)(bY:mg "isinstance"=none)(dJ:mg "list"=none)(iT:mg "tuple"=none)(su:mg "str"=none)(bZ:mg "range"=none)(bq:mg "len"=none):Dn P w K mg base 2 "_law_part_list" l_ (FH K):=by
 refine F.oA o7 λ_ _ _ _ H _ Q E hr h=>?_;obtain⟨⟨r,l,ws,us,ps,rfl,hr0,hP,hl,hR,hN,hle,q⟩⟩:=h;refine(_,(@cZ.h _ _ _ (ak (b_ (fm (bW.pt (jd (eY (d_ (aK (dH K) (by rfl) bY v_ (af (qv 0) (af (lW wc rfl dJ) aj))))) (iP (aS uc (aK (bF K) (by rfl) bq cX (af (qv 0) aj)) (aK (bF K) (by rfl) bq cX (af (qv 1) aj)) (aZ _)))))) (au (aX gG)) br)
  (ak (fk fQ rfl (f_ (by rfl) bZ (af (aK (bF K) (by rfl) bq cX (af (qv 1) aj)) aj)) (aW (i:=2) o7.nd) (ak (aV (i:=3) o7.nd (aB (aH K) (qv 0) (qv 2)))
  (ak (b_ (fm (bW.pt (jd (eY (d_ (aK (dH K) (by rfl) bY v_ (af (qv 3) (af (lW Lx rfl iT) aj))))) (iP (aS uc (aK (bF K) (by rfl) bq cX (af (qv 3) aj)) ai (aZ _)))))) (au (aX gG)) br)
  (ak (b_ (fm (bW.pt (jd (eY (d_ (aK (dH K) (by rfl) bY v_ (af (aB (aP K) (qv 3) ai) (af (lW Lz rfl su) aj))))) (iP (eY (d_ (aK (dH K) (by rfl) bY v_ (af (aB (aP K) (qv 3) ai) (af (lW Lz rfl su) aj))))))))) (au (aX gG)) br)
  (ak (b_ (fm (bW.pt (jd (eY (d_ (bB fU hr (af (aB (aP K) (qv 3) ai) aj)))) (iP (eY (d_ (bB fU hr (af (aB (aP K) (qv 3) ai) aj)))))))) (au (aX gG)) br)
  (au (b_ (aS (Hw K hr.units) (qv 3) (f7 (af (aB (gK K) (aB (aH K) (qv 1) (qv 2)) ai) (af (aB (gK K) (aB (aH K) (qv 1) (qv 2)) ai) (af (aB (gK K) (aB (aH K) (qv 1) (qv 2)) ai) (af (aB (gK K) (aB (aH K) (qv 1) (qv 2)) ai) aj))))) (aZ _)) (au (aX gG)) br)))))))
  (au (aX gG))))),?_)
 have hwl:=hP.length;have NB:=hR.len;refine(false,?_,aR ?_)
 .refine (_,Z,_,_,_,_,Z,iA.lst hr0,iC,_,Z,aR ?_);refine(_,Z,_,_,Z,.inl (aC.of hr0),_,Z,_,_,Z,.inl hl,Z,_,Z,?_,Z);show(!decide (V.int (ws.length:Int)=V.int (us.length:Int)))=false;rw[bR (by rw[hwl,NB])];rfl
 refine(_,Z,l,us,Z,.inl hl,_,Z,by omega,by omega,?_);refine iJ (lo:=0) (n:=((us.length:Nat):Int).toNat) (λi σ H'=>aM H H'/\∃(s1 s2:Option V),σ=[some (.ref r),some (.ref l),s1,s2]) (aM.refl _,none,none,Z) ?_ ?_
 .rintro i σ H' hi ⟨g,s1,s2,rfl⟩;have e0:(0:Int)+(i:Int)=((i:Nat):Int):=by omega
  rw[e0];have hi':i<ps.length:=by omega
  have ep:=a_ hi';obtain⟨t,et,ht⟩:=hP.get ep;obtain⟨u,xs,eu,hu,x0,x1,x2,x3⟩:=(hR.mono g).at_ i _ ep;have ht':=g _ _ ht;obtain⟨n1,n2⟩:=hN _ (xY hi');have hr1:=g _ _ hr0;have hl1:=g.seq hl;refine(_,Z,_,Z,r,ws,i,.ref t,Z,Z,aC.of hr1,i_ et,?_);refine(false,(_,Z,_,_,_,_,Z,iA.tup ht',iC,_,Z,aR (_,Z,_,_,Z,.inr (cU.of ht'),Z,_,Z,Z,Z)),aR ?_);refine(false,(_,Z,t,_,_,_,Z,Z,cU.of ht',Z,_,_,_,_,Z,iA.str _,iC,_,Z,aR (_,Z,t,_,_,_,Z,Z,cU.of ht',Z,_,_,_,_,Z,iA.str _,iC,_,Z,Z,Z)),aR ?_);refine(false,(_,Z,t,_,_,_,Z,Z,cU.of ht',Z,_,Z,_,Z,aR (_,Z,t,_,_,_,Z,Z,cU.of ht',Z,_,Z,_,Z,Z,Z)),aR ?_);refine(_,Z,_,Z,_,Z,l,us,i,.ref u,Z,Z,hl1,i_ eu,hu.ix (i:=0) x0 ?_);refine(_,Z,_,Z,l,us,i,.ref u,Z,Z,hl1,i_ eu,hu.ix (i:=1) x1 ?_);refine(_,Z,_,Z,l,us,i,.ref u,Z,Z,hl1,i_ eu,hu.ix (i:=2) x2 ?_);refine(_,Z,_,Z,l,us,i,.ref u,Z,Z,hl1,i_ eu,hu.ix (i:=3) x3 ?_);refine((gR 4),λp1 hp1=>?_);have g1:=aF hp1 (CU ps[i]);refine(_,_,Q5 (g1 _ _ ht'),Q5 (p:=ps[i]) aq,DE n1 n2,DE n1 n2,_,Z,?_);rw[Xi];exact aR (g.trans g1,_,_,Z)
 rintro σ H' ⟨g,s1,s2,rfl⟩;exact q H' g
abbrev nO:Stmt:=top 49
abbrev jn:Da Str:=["_law_found","_law_owners","_law_tops","_law_bottom"]
abbrev Dg:Da Str:=jn.append ["_law_due","_law_at_here","_law_pair"]
def kF:aQ Dg jn (aD nO):=c9
theorem Cq(F:At K mg "_law_share_list" nO f fd)(lI:Dn P w K mg base 1 "_law_least" nN CQ)(nP:Dn P w K mg base 2 "_law_is" uP Sx)(bY:mg "isinstance"=none)(dJ:mg "list"=none)(iT:mg "tuple"=none)(su:mg "str"=none)(bZ:mg "range"=none)(bq:mg "len"=none):Dn P w K mg base 3 "_law_share_list" jn (Ej K):=by
 refine F.oA kF λ_ _ _ _ H _ Q E hr h=>?_;obtain⟨⟨r,lo,lt,ws,own,tops,b,rfl,hr0,hS,ho,ht,hlen,hle,b0,bz,q⟩⟩:=h;refine(_,(@cZ.h _ _ _ (ak (Xw (i:=4) ["_law_at_here","_law_tops","_law_owners","_law_bottom"] [none,some 2,some 1,some 3] kF.nd rfl rfl rfl (f_ (by rfl) bZ (af (aK (bF K) (by rfl) bq cX (af (qv 2) aj)) aj)) (λ_ _ _ _=>(aW (i:=0) (show List.Nodup (["_law_at_here","_law_tops","_law_owners","_law_bottom"] :Da Str)from by decide +kernel))) (λ_ _ _ _=>(f7 (af (aB (aH K) (qv 2) (qv 0)) (af (bB lI hr (af (aB (aH K) (qv 1) (qv 0)) (af (qv 3) aj))) aj)))) (λ_ _ _ _=>(aS jS (aB (aH K) (qv 1) (qv 0)) ai (aZ _))) rfl (by rfl) (by rfl))
  (ak (b_ (fm (bW.pt (jd (eY (d_ (aK (dH K) (by rfl) bY v_ (af (qv 0) (af (lW wc rfl dJ) aj))))) (iP (aS uc (aK (bF K) (by rfl) bq cX (af (qv 0) aj)) (aK (bF K) (by rfl) bq cX (af (qv 4) aj)) (aZ _)))))) (au (aX gG)) br)
  (ak (fk fQ rfl (f_ (by rfl) bZ (af (aK (bF K) (by rfl) bq cX (af (qv 4) aj)) aj)) (aW (i:=5) kF.nd) (ak (aV (i:=6) kF.nd (aB (aH K) (qv 0) (qv 5)))
  (ak (b_ (fm (bW.pt (jd (eY (d_ (aK (dH K) (by rfl) bY v_ (af (qv 6) (af (lW Lx rfl iT) aj))))) (jd (aS uc (aK (bF K) (by rfl) bq cX (af (qv 6) aj)) ai (aZ _)) (iP (aS uc (aB (aP K) (qv 6) ai) (aB (aP K) (aB (aH K) (qv 4) (qv 5)) ai) (aZ _))))))) (au (aX gG)) br)
  (au (b_ (bW.pt (jd (eY (d_ (aK (dH K) (by rfl) bY v_ (af (aB (aP K) (qv 6) ai) (af (lW Lz rfl su) aj))))) (iP (eY (d_ (bB nP hr (af (aB (aP K) (qv 6) ai) (af (aB (aP K) (aB (aP K) (aB (aH K) (qv 4) (qv 5)) ai) ai) (af (aB (aP K) (aB (aP K) (aB (aH K) (qv 4) (qv 5)) ai) ai) aj))))))))) (au (aX gG)) br)))))
  (au (aX gG)))))),?_)
 have tml:(tops.map V.int).length=tops.length:=aG ..;have oml:(own.map V.str).length=own.length:=aG ..;refine(_,Z,lt,_,Z,.inl ht,_,Z,by omega,by omega,λAp Bi=>?_);refine QU (J:=LR 0 _) (n:=tops.length) 0 (λi out H1=>aM H H1/\iY H1 out (dm (own.take i) (tops.take i) b)) (by omega) (aF Bi _,.nil) (λi out H1 hi _ _=>by show i<((tops.map V.int).length:Int).toNat;omega) (λout H1 _ _=>by show((tops.map V.int).length:Int).toNat<=tops.length;omega) ?_ ?_
 .rintro i x out H1 H2 hi eU ha ⟨g,S⟩ ⟨rfl,rfl⟩;have e0:(0:Int)+(i:Int)=((i:Nat):Int):=by omega
  rw[e0];have et:=a_ hi;have eo:=a_ (show i<own.length from by omega);have et':(tops.map V.int)[i]?=some (.int tops[i]):=by rw[bP,et];rfl
  have JN:(own.map V.str)[i]?=some (.str own[i]):=by rw[bP,eo];rfl
  have Y9:dm (own.take (i+1)) (tops.take (i+1)) b=dm (own.take i) (tops.take i) b++(if 0<tops[i] then[(Prod.mk (own[i]) (Jm.fr tops[i] b))] else[]):=by
   unfold dm;rw[take_snoc eo,take_snoc et,List.zip_append (by rw[kR,kR];omega),List.filterMap_append];congr 1;show List.filterMap _ [(Prod.mk (own[i]) (tops[i]))]=_;rw[Bf];by_cases c:0<tops[i]
   .simp [c]
   .simp [c]
  refine(_,Z,_,Z,lt,_,i,_,Z,Z,g.seq ht,i_ et',_,_,Z,Z,_,Z,dX (λc=>?_) (λc=>?_))
  .have c':0<tops[i] :=eO c;rw[ay c']at Y9;refine(_,Z,_,Z,lo,_,i,_,Z,Z,g.seq ho,i_ JN,_,Z,_,Z,lt,_,i,_,Z,Z,g.seq ht,i_ et',_,Z,I_ b0 bz λp2 H3 g3 hp2=>((gR 2),λp3 hp3=>?_));have g4:=aF hp3 (.tup [.str own[i],.ref p2]);have xH:=g3.trans g4;refine(xH _ _ ha,(g.trans xH).cJ Bi _,?_);rw[Y9];exact((S.mono xH.tups).snoc aq (g4 _ _ hp2)).mono (jY (.inr (_,xH _ _ ha,Z)))
  .have c':¬ 0<tops[i] :=qR (lO.mpr c);rw[av c',x6]at Y9;exact(ha,g,Y9▸S)
 rintro du H1 eU ha ⟨g1,D1⟩;rw[cQ,XT]at D1;have hr1:=g1 _ _ hr0;have Cr:=hS.mono g1.tups;have l1:=Cr.length;have l2:=D1.length;have l3:(dm own tops b).length<=1000:=by unfold dm;refine fG (List.length_filterMap_le _ _) ?_;rw[List.length_zip];omega
 have aiK:∀x q,(Prod.mk (x) (q))∈dm own tops b->Jm.Sz 9000 (q.den:Int):=λx q m=>J3 b0 bz m;generalize dm own tops b=sh at *;refine(false,?_,aR ?_)
 .refine (_,Z,_,_,_,_,Z,iA.lst hr1,iC,_,Z,aR ?_);refine(_,Z,_,_,Z,.inl (aC.of hr1),_,Z,_,_,Z,.inl (aC.of ha),Z,_,Z,?_,Z);show(!decide (V.int (ws.length:Int)=V.int (du.length:Int)))=false;rw[bR (by rw[l1,l2])];rfl
 refine(_,Z,Ap,du,Z,.inl (aC.of ha),_,Z,by omega,by omega,?_);refine iJ (lo:=0) (n:=((du.length:Nat):Int).toNat) (λi σ H'=>aM H1 H'/\∃(s1 s2:Option V),σ=[some (.ref r),some (.ref lo),some (.ref lt),some (.int b),some (.ref Ap),s1,s2]) (aM.refl _,none,none,Z) ?_ ?_
 .rintro i σ H' hi ⟨g,s1,s2,rfl⟩;have e0:(0:Int)+(i:Int)=((i:Nat):Int):=by omega
  rw[e0];have hi':i<sh.length:=by omega
  obtain⟨xq,exq⟩:∃xq,sh[i]?=some xq:=(_,a_ hi')
  obtain⟨x,qq⟩:=xq;obtain⟨r1,f1,a1,a2,a3⟩:=Cr.get exq;obtain⟨r2,f2,b1,b2,b3⟩:=D1.get exq;have a2':=g _ _ a2;have a3':=g _ _ a3;have b2':=g _ _ b2;have b3':=g _ _ b3;have Th:=g _ _ ha;refine(_,Z,_,Z,r,ws,i,.ref r1,Z,Z,aC.of (g _ _ hr1),i_ a1,?_);refine(false,(_,Z,_,_,_,_,Z,iA.tup a2',iC,_,Z,aR (_,Z,_,_,Z,.inr (cU.of a2'),Z,_,Z,aR ?_)),aR ?_)
  .refine (_,Z,r1,_,_,_,Z,Z,cU.of a2',Z,_,Z,_,Z,Ap,du,i,.ref r2,Z,Z,aC.of Th,i_ b1,r2,_,_,_,Z,Z,cU.of b2',Z,Z,_,Z,?_,Z);show(!decide (V.str x=V.str x))=false;rw[bR rfl];rfl
  refine(_,Z,r1,_,_,_,Z,Z,cU.of a2',Z,_,_,_,_,Z,iA.str _,iC,_,Z,aR ?_);refine(_,Z,r1,_,_,_,Z,Z,cU.of a2',Z,?_);refine(_,Z,_,Z,Ap,du,i,.ref r2,Z,Z,aC.of Th,i_ b1,r2,_,_,_,Z,Z,cU.of b2',Z,f2,_,_,_,Z,Z,cU.of b3',Z,?_);refine(_,Z,_,Z,Ap,du,i,.ref r2,Z,Z,aC.of Th,i_ b1,r2,_,_,_,Z,Z,cU.of b2',Z,f2,_,_,_,Z,Z,cU.of b3',Z,?_);exact Mm a3' (Jm.den_pos _) (aiK _ _ (bg exq)) (Jm.ZH _).symm λH3 g3=>(_,Z,aR (g.trans g3,_,_,Z))
 rintro σ H' ⟨g,s1,s2,rfl⟩;exact q H' (g1.trans g)
abbrev mT:Stmt:=top 50
abbrev kG:Da Str:=["_law_hold","_law_model_here"]
abbrev Cs:Da Str:=kG.append ["_law_whole","_law_part"]
def mU:aQ Cs kG (aD mT):=c9
theorem Ba{T:TC}(F:At K mg "_law_tells_parts" mT f fd)(fU:Dn P w K mg base 1 "_law_int" l9 Fc)(qz:Dn P w K mg base 2 "_law_part_list" l_ (FH K))(iH:Dn P w K mg base 3 "_law_share_list" jn (Ej K))(xJ:Mn P w K mg base 1 T.hold "parts" rV (Q0 T))(fE:Mn P w K mg base 1 T.hold "whole" jO (ze T))(mG:Mn P w K mg base 4 T.hold "shares" mF (Jh T))(fT:mg "sum"=none):Dn P w K mg base 5 "_law_tells_parts" kG (v8 1 T K):=by
 refine F.oA mU λ_ _ _ _ H _ Q E hr h=>?_
 obtain⟨⟨n,m,ρ,A,B,st,b,c,rfl,nm,hh,hb,gd,hc,RE,hkn,q⟩⟩:=h
 refine(_,(@cZ.h _ _ _ (ak (aV (i:=2) mU.nd (tO fE hr (qv 0)))
  (ak (b_ (bW.pt (jd (eY (d_ (bB fU hr (af (qv 2) aj)))) (iP (aS uc (qv 2) (aK (kh K rfl) (by rfl) fT wg (af (gM ["_law_part"] [none] rfl (dI K (bJ (bX hr) (qv 1) aU)) (λ_ _ _ _=>(aW (i:=0) (show List.Nodup (["_law_part"] :Da Str)from by decide +kernel))) (λ_ _ _ _=>(aB (aH K) (qv 0) ai)) rfl (by rfl)) aj)) (aZ _))))) (au (aX gG)) br)
  (ak (b_ (eY (d_ (bB qz hr (af (tO xJ hr (qv 0)) (af (bJ (bX hr) (qv 1) aU) aj))))) (au (aX gG)) br)
  (ak (fk fQ rfl (dI K (bJ (bX hr) (qv 1) aU)) (aW (i:=3) mU.nd) (au (b_ (eY (d_ (bB iH hr (af (cy mG hr (qv 0) (af (aB (aH K) (qv 3) ai) aj)) (af (bJ (bX hr) (qv 1) aU) (af (aB (aH K) (qv 3) ai) (af (bJ (bX hr) (qv 1) aU) aj))))))) (au (aX gG)) br)))
  (au (aX gG))))))),?_)
 have pl:=gd.pl
 have rl:=gd.rel.len
 have wl:=gd.rel.whole
 refine(_,Z,A.a,A.dx,_,Z,hh.h.oa,Z,⟨(n,ρ,A,st,Z,hh.h,by omega,λH1 g1=>?_)⟩)
 have ef:=hh.mono g1
 have hb1:=hb.mono g1
 have VT:=hb1.op
 have xK:(B.qs.map λq=>V.ref q.1).length=b.ah.length:=by rw[aG];exact hb.ql
 refine(_,Z,_,Z,_,Z,aR ?_)
 refine(_,Z,_,Z,B.m,_,Z,cD.k (k:=Sum.inr "parts") hb1.om,B.lp,Z,(_,aC.of VT),λac hac=>?_)
 refine iD (J:=wC K B.lp) (n:=b.ah.length) 0 (λi o H'=>aM H1 H'/\o=((b.ah.take i).map (λp:BP=>p.wo)).map V.int) (by omega) (aF hac _,Z) (λi o H' hi _ hp=>(_,_,aC.of (hp.1 _ _ VT),a_ (xK▸hi))) (λo H' _ hp=>(_,aC.of (hp.1 _ _ VT),xK▸aO _)) ?_ ?_
 . rintro j y o H2 H3 hj eU ha ⟨g,e⟩ ⟨rfl,hy⟩
   have ej:=a_ hj
   obtain⟨qq,eq,k1,k2,_,_⟩:=hb1.find ej
   have ey:=hy _ (aC.of (g _ _ VT))
   rw[bP,eq]at ey
   cases ey
   refine(_,Z,qq.1,_,_,_,Z,Z,aC.of (g _ _ k1),aE (j:=2) rfl,ha,g.cJ hac _,?_)
   subst e
   rw[take_snoc ej,bQ,bQ]
   rfl
 rintro o H2 _ ha ⟨g2,e⟩
 rw[cQ]at e
 subst e
 refine(ac,b.ah.map (λp:BP=>p.wo),Z,aC.of ha,Z,_,Z,?_)
 have ew:aI st=(b.ah.map (λp:BP=>p.wo)).sum:=wl
 rw[show(!decide (V.int (aI st)=V.int (b.ah.map (λp:BP=>p.wo)).sum))=false from by rw[bR (by rw[ew])];rfl]
 refine aR ?_
 have jW:=ef.mono g2
 have hb2:=hb1.mono g2
 refine(_,Z,A.a,A.dx,_,Z,jW.h.oa,Z,⟨(n,ρ,A,st,Z,jW.h,by omega,λr ws H3 g3 hr hw3 hP3=>?_)⟩)
 have AX:=hb2.mono g3
 refine(_,Z,B.m,_,Z,cD.k (k:=Sum.inr "parts") AX.om,⟨(r,B.lp,ws,_,st.ah,Z,hw3,hP3,aC.of AX.op,gd.rel.rows AX,gd.nms,by omega,λH4 g4=>(_,Z,aR ?_))⟩)
 have rX:=(jW.mono g3).mono g4
 have AY:=AX.mono g4
 have o4:aM (out ρ H) (out ρ H4):=ji (((g1.trans g2).trans g3).trans g4)
 clear ef hb1 jW hb2 AX hw3 hP3 ha hac hr g1 g2 g3 g4 VT
 refine(_,Z,B.m,_,Z,cD.k (k:=Sum.inr "parts") AY.om,B.lp,Z,(_,aC.of AY.op),?_)
 refine lQ (K:=K) (xs:=B.qs.map λq=>V.ref q.1) (λi σ H'=>∃ρ' A' s3,σ=[some (.ref A.a),some (.ref B.m),some (.int (aI st)),s3]/\HH T n ρ' A' H' { st with kn:=st.kn+100*i }/\bf m ρ' B H' b/\A'.a=A.a/\aM (out ρ H) (out ρ' H'))
  (ρ,A,_,Z,rX,AY,Z,o4) (λi σ H' _ hp=>by obtain⟨_,_,_,_,_,h,_⟩:=hp;exact aC.of h.op) ?_ ?_
 . rintro i y σ H5 hy ⟨ρ5,A5,s3,rfl,sV,RG,VU,o5⟩
   rw[bP]at hy
   obtain⟨qq,eq,rfl⟩:=nt.mp hy
   have hib:i<b.ah.length:=hb.ql▸(c_.mp eq).1
   have ei:=a_ hib
   obtain⟨p,ep,e1,e2,_⟩:=gd.rel.at ei
   have fc:=bg ep
   have hqm:=bg ei
   obtain⟨k1,k2,_,_⟩:=RG.pt i _ qq ei eq
   refine(_,Z,A.a,A5.dx,_,Z,VU▸sV.h.oa,Z,_,Z,qq.1,_,_,_,Z,Z,aC.of k1,aE (j:=0) rfl,⟨(n,ρ5,A5,_,i,p,by rw[VU,e1];rfl,sV,ep,by show st.kn+100*i+100<=1000000;omega,λr ws ρ6 A6 H6 AU ea6 f6 hr NL cr hSh=>?_)⟩)
   have JS:=RG.other f6 sV.g (cC nm)
   obtain⟨k16,k26,_,_⟩:=JS.pt i _ qq ei eq
   have esh:lD { st with kn:=st.kn+100*i } p=dm b.own (b.ah[i]).tops b.bot:=FT gd.oW gd.rel hh.wf gd.fD fc hqm e1
   rw[esh]at hSh
   have b1:=gd.fD.b1
   refine(_,Z,B.m,_,Z,cD.k (k:=Sum.inr "owners") JS.om,_,Z,qq.1,_,_,_,Z,Z,aC.of k16,aE (j:=4) rfl,_,Z,B.m,_,Z,cD.k (k:=Sum.inr "bottom") JS.om,⟨(r,B.lo,qq.2,ws,b.own,(b.ah[i]).tops,b.bot,Z,NL,hSh,aC.of JS.oo,aC.of k26,Nat.le_of_eq (gd.fD.tl _ hqm),by have:=gd.fD.ol;omega,by omega,gd.fD.bz.mono (by decide),λH7 g7=>(_,Z,aR ?_))⟩)
   refine(ρ6,A6,_,Z,?_,JS.mono g7,ea6.trans VU,(o5.trans f6.out).trans (ji g7))
   have:=AU.mono g7
   rw[show st.kn+100*(i+1)=st.kn+100*i+100 by omega]
   exact this
 rintro σ H5 ⟨ρ5,A5,s3,rfl,sV,RG,VU,o5⟩
 refine q ρ5 A5 H5 _ sV ?_ RG VU o5
 rw[xK];omega
abbrev mh:Stmt:=top 51
abbrev jT:Da Str:=["_law_hold","_law_model_here"]
abbrev Bb:Da Str:=jT.append ["_law_found","_law_at_here","_law_one","_law_due"]
def iG:aQ Bb jT (aD mh):=c9
theorem AA{T:TC}(F:At K mg "_law_tells_landed" mh f fd)(fU:Dn P w K mg base 1 "_law_int" l9 Fc)(iH:Dn P w K mg base 3 "_law_share_list" jn (Ej K))(vA:Mn P w K mg base 1 T.hold "landed" pX (MD T))(bY:mg "isinstance"=none)(dJ:mg "list"=none)(iT:mg "tuple"=none)(su:mg "str"=none)(bZ:mg "range"=none)(bq:mg "len"=none):Dn P w K mg base 4 "_law_tells_landed" jT (v8 1 T K):=by
 refine F.oA iG λ_ _ _ _ H _ Q E hr h=>?_;obtain⟨⟨n,m,ρ,A,B,st,b,c,rfl,nm,hh,hb,gd,hc,RE,hkn,q⟩⟩:=h;refine(_,(@cZ.h _ _ _ (ak (aV (i:=2) iG.nd (tO vA hr (qv 0)))
  (ak (b_ (fm (bW.pt (jd (eY (d_ (aK (dH K) (by rfl) bY v_ (af (qv 2) (af (lW wc rfl dJ) aj))))) (iP (aS uc (aK (bF K) (by rfl) bq cX (af (qv 2) aj)) (aK (bF K) (by rfl) bq cX (af (bJ (bX hr) (qv 1) aU) aj)) (aZ _)))))) (au (aX gG)) br)
  (ak (fk fQ rfl (f_ (by rfl) bZ (af (aK (bF K) (by rfl) bq cX (af (qv 2) aj)) aj)) (aW (i:=3) iG.nd) (ak (aV (i:=4) iG.nd (aB (aH K) (qv 2) (qv 3)))
  (ak (aV (i:=5) iG.nd (aB (aH K) (bJ (bX hr) (qv 1) aU) (qv 3)))
  (ak (b_ (fm (bW.pt (jd (eY (d_ (aK (dH K) (by rfl) bY v_ (af (qv 4) (af (lW Lx rfl iT) aj))))) (jd (aS uc (aK (bF K) (by rfl) bq cX (af (qv 4) aj)) ai (aZ _)) (iP (eY (d_ (bB fU hr (af (aB (aP K) (qv 4) ai) aj))))))))) (au (aX gG)) br)
  (ak (b_ (fm (bW.pt (jd (eY (d_ (aK (dH K) (by rfl) bY v_ (af (aB (aP K) (qv 4) ai) (af (lW Lz rfl su) aj))))) (iP (eY (d_ (aK (dH K) (by rfl) bY v_ (af (aB (aP K) (qv 4) ai) (af (lW Lz rfl su) aj))))))))) (au (aX gG)) br)
  (ak (b_ (aS (Hw K hr.units) (f7 (af (aB (aP K) (qv 4) ai) (af (aB (aP K) (qv 4) ai) (af (aB (aP K) (qv 4) ai) aj)))) (f7 (af (aB (aH K) (qv 5) ai) (af (aB (aH K) (qv 5) ai) (af (aB (aH K) (qv 5) ai) aj)))) (aZ _)) (au (aX gG)) br)
  (au (b_ (eY (d_ (bB iH hr (af (aB (aP K) (qv 4) ai) (af (bJ (bX hr) (qv 1) aU) (af (aB (aH K) (qv 5) ai) (af (aB (aH K) (qv 5) ai) aj))))))) (au (aX gG)) br))))))))
  (au (aX gG)))))),?_)
 refine(_,Z,A.a,A.dx,_,Z,hh.h.oa,Z,⟨(n,ρ,A,st,Z,hh,λr ws H1 g1 hr hr1 hL=>?_)⟩);have hb1:=hb.mono g1;obtain⟨vs,hv,hA⟩:=hb1.oa;have l1:=hL.length;have l2:=hA.length;have l3:=gd.bM.length;have l4:=hh.wf.u_;refine(false,?_,aR ?_)
 .refine (_,Z,_,_,_,_,Z,iA.lst hr1,iC,_,Z,aR ?_);refine(_,Z,_,_,Z,.inl (aC.of hr1),_,Z,B.m,_,Z,cD.k (k:=Sum.inr "ashore") hb1.om,_,_,Z,.inl (aC.of hv),Z,_,Z,?_,Z);show(!decide (V.int (ws.length:Int)=V.int (vs.length:Int)))=false;rw[bR (by rw[l1,l2,l3])];rfl
 refine(_,Z,r,_,Z,.inl (aC.of hr1),_,Z,by omega,by omega,?_);refine iJ (lo:=0) (n:=((ws.length:Nat):Int).toNat) (λi σ H'=>aM H1 H'/\∃s3 s4 s5,σ=[some (.ref A.a),some (.ref B.m),some (.ref r),s3,s4,s5]) (aM.refl _,_,_,_,Z) ?_ ?_
 .rintro i σ H2 hi ⟨g2,s3,s4,s5,rfl⟩;have e0:(0:Int)+(i:Int)=((i:Nat):Int):=by omega
  rw[e0];have hi:i<ws.length:=by omega
  have ew:=a_ hi;obtain⟨t,s,x,ss,e1,ex,t1,t2,_,t4⟩:=hL.got ew;rw[e1]at ew;have ev:=a_ (show i<vs.length by omega);obtain⟨u,lt,e,e2,ee,u1,u2⟩:=hA.get ev;rw[e2]at ev;obtain⟨a1,a2,a3,a4,a5,a6,a7,a8,a9⟩:=gd.bM.get ex ee;have hb2:=hb1.mono g2;have t1:=g2 _ _ t1;have t2:=g2 _ _ t2;have t4:=t4.mono g2.tups;have u1:=g2 _ _ u1;have u2:=g2 _ _ u2;rw[a4]at t4;rw[a1,a2,a3]at t1;refine(_,Z,_,Z,r,ws,i,.ref t,Z,Z,aC.of (g2 _ _ hr1),i_ ew,?_);refine(_,Z,B.m,_,Z,cD.k (k:=Sum.inr "ashore") hb2.om,_,Z,B.la,vs,i,.ref u,Z,Z,aC.of (g2 _ _ hv),i_ ev,?_);refine(false,(_,Z,_,_,_,_,Z,iA.tup t1,iC,_,Z,aR (_,Z,_,_,Z,.inr (cU.of t1),Z,_,Z,aR (_,Z,t,_,_,_,Z,Z,cU.of t1,Z,_,Z,_,Z,Z,Z))),aR ?_);refine(false,(_,Z,t,_,_,_,Z,Z,cU.of t1,Z,_,_,_,_,Z,iA.str _,iC,_,Z,aR (_,Z,t,_,_,_,Z,Z,cU.of t1,Z,_,_,_,_,Z,iA.str _,iC,_,Z,Z,Z)),aR ?_);refine(_,Z,t,_,_,_,Z,Z,cU.of t1,Z,_,Z,t,_,_,_,Z,Z,cU.of t1,Z,_,Z,t,_,_,_,Z,Z,cU.of t1,Z,(gR 3),λp1 hp1=>?_);have g3:=aF hp1 (.tup [.str e.nm,.str e.ow,.int e.wo]);have h3:upd H2 p1 (.tup [.str e.nm,.str e.ow,.int e.wo]) p1=some (.tup [.str e.nm,.str e.ow,.int e.wo]):=aq;show aby _ _ (upd H2 p1 (.tup [.str e.nm,.str e.ow,.int e.wo])) _;generalize upd H2 p1 (.tup [.str e.nm,.str e.ow,.int e.wo])=H3 at *;have u13:=g3 _ _ u1;refine(_,Z,u,_,_,_,Z,Z,aC.of u13,Z,_,Z,u,_,_,_,Z,Z,aC.of u13,Z,_,Z,u,_,_,_,Z,Z,aC.of u13,Z,(gR 3),λp2 hp2=>?_);have g4:=aF hp2 (.tup [.str e.nm,.str e.ow,.int e.wo]);have h4:upd H3 p2 (.tup [.str e.nm,.str e.ow,.int e.wo]) p2=some (.tup [.str e.nm,.str e.ow,.int e.wo]):=aq;show Sw K _ _ (upd H3 p2 (.tup [.str e.nm,.str e.ow,.int e.wo])) _;generalize upd H3 p2 (.tup [.str e.nm,.str e.ow,.int e.wo])=H4 at *;have D:∀{p:Addr},H4 p=some (.tup [.str e.nm,.str e.ow,.int e.wo])->Dt K H4 (.ref p) (.tuple [.str e.nm,.str e.ow,.int e.wo]):=λh=> .tup (cU.of h) (.cons (.str _) (.cons (.str _) (.cons (.int _) .nil)));have pd:Pd (.tuple [.str e.nm,.str e.ow,.int e.wo]) 2:=.tuple λd hd=>by
   rcases dW.mp hd with rfl|hd
   .exact .str a8
   rcases dW.mp hd with rfl|hd
   .exact .str a9
   rw[dw.mp hd];exact .int
  refine ne_data (D (g4 _ _ h3)) (D h4) pd (by decide) (_,Z,aR ?_);have xH:=g3.trans g4;have AY:=hb2.mono xH;exact(_,Z,t,_,_,_,Z,Z,cU.of (xH _ _ t1),Z,_,Z,B.m,_,Z,cD.k (k:=Sum.inr "owners") AY.om,_,Z,u,_,_,_,Z,Z,aC.of (xH _ _ u1),Z,_,Z,u,_,_,_,Z,Z,aC.of (xH _ _ u1),Z,⟨(s,B.lo,lt,ss,b.own,e.tops,e.bot,Z,xH _ _ t2,t4.mono xH.tups,aC.of AY.oo,aC.of (xH _ _ u2),a5,by have:=gd.fD.ol;omega,a6,a7,λH5 g5=>(_,Z,aR ((g2.trans xH).trans g5,_,_,_,Z)))⟩)
 rintro σ H2 ⟨g2,s3,s4,s5,rfl⟩;exact q ρ A H2 st.kn (hh.mono (g1.trans g2)) (by omega) (hb1.mono g2) rfl (ji (g1.trans g2))
abbrev vB:Stmt:=top 52
abbrev sy:Da Str:=["_law_hold","_law_model_here"]
abbrev N6:Da Str:=sy.append ["_law_roster"]
def AZ:aQ N6 sy (aD vB):=c9
theorem Kw{T:TC}(F:At K mg "_law_tells" vB f fd)(nQ:Dn P w K mg base 5 "_law_tells_parts" kG (v8 1 T K))(mV:Dn P w K mg base 4 "_law_tells_landed" jT (v8 1 T K))(vC:Mn P w K mg base 1 T.hold "roster" p5 (MB T))(bY:mg "isinstance"=none)(dJ:mg "list"=none):Dn P w K mg base 6 "_law_tells" sy (v8 2 T K):=by
 refine F.oA AZ λ_ _ _ _ H _ Q E hr h=>?_;obtain⟨⟨n,m,ρ,A,B,st,b,c,rfl,nm,hh,hb,gd,hc,RE,hkn,q⟩⟩:=h;refine(_,(@cZ.h _ _ _ (ak (aV (i:=2) AZ.nd (tO vC hr (qv 0)))
  (ak (b_ (fm (bW.pt (jd (eY (d_ (aK (dH K) (by rfl) bY v_ (af (qv 2) (af (lW wc rfl dJ) aj))))) (iP (aS (Hw K hr.units) (qv 2) (bJ (bX hr) (qv 1) aU) (aZ _)))))) (au (aX gG)) br)
  (au (aX (M3 (bB nQ hr (af (qv 0) (af (qv 1) aj))) (MZ (bB mV hr (af (qv 0) (af (qv 1) aj)))))))))),?_)
 refine(_,Z,A.a,A.dx,_,Z,hh.h.oa,Z,⟨(n,ρ,A,st,Z,hh.h,λr hr=>?_)⟩);have g1:=aF hr (.lst (st.own.map V.str));have hr1:upd H r (.lst (st.own.map V.str)) r=some (.lst (st.own.map V.str)):=aq;have ef:=hh.mono g1;have hb1:=hb.mono g1;have eo:=gd.rel.own;show i9 2 (.ref r) _ (upd H r (.lst (st.own.map V.str))) _;generalize upd H r (.lst (st.own.map V.str))=H1 at *;rw[eo]at hr1;refine(false,?_,aR ?_)
 .refine (_,Z,_,_,_,_,Z,iA.lst hr1,iC,_,Z,aR ?_);refine(_,Z,_,Z,B.m,_,Z,cD.k (k:=Sum.inr "owners") hb1.om,_,_,.lst (aC.of hr1) (HL b.own),.lst (aC.of hb1.oo) (HL b.own),DJ b.own RE,DJ b.own RE,_,Z,?_,Z);rw[Xr];rfl
 refine(_,Z,_,Z,⟨(n,m,ρ,A,B,st,b,c,Z,nm,ef,hb1,gd,hc,RE,by omega,λρ2 A2 H2 k jW hk hb2 ea2 o2=>(true,Z,fZ ?_))⟩);refine(_,Z,_,Z,⟨(n,m,ρ2,A2,B,_,b,c,by rw[ea2];rfl,nm,jW,hb2,afm gd k,hc,RE,by show k+15000*1<=1000000;omega,λρ3 A3 H3 k3 m_ hk3 AX RH o3=>?_)⟩);have hk3:k3<=k+15000*1:=hk3;exact q ρ3 A3 H3 k3 m_ (by omega) AX (RH.trans ea2) (((ji g1).trans o2).trans o3)
abbrev vD:Stmt:=top 31
abbrev sH:Da Str:=["_law_owners"]
abbrev N7:Da Str:=sH
def Ky:aQ N7 sH (aD vD):=c9
def Kz(F:At K mg "_law_model" vD f fd)(dJ:mg "list"=none):Dn P w K mg base 1 "_law_model" sH (Rb K):=by
 refine F.oA Ky λ_ _ _ _ H _ Q E hr h=>?_;obtain⟨⟨l,own,n,ρ,rfl,hl,G,hle,q⟩⟩:=h;refine(_,(@cZ.h _ _ _ (au (aX (aam (wW aU (kC (mz K) (by rfl) dJ wc (af (qv 0) aj)) (wW aU (ia aj) (wW aU ai (wW aU (ia aj) (wW aU (ia aj) aal))))) (by rfl) (by rfl) (λz=>nomatch z) (by with_unfolding_all decide))))),?_);intro m hm;have g0:=aF hm (.dK []);have em0:upd H m (.dK []) m=some (.dK []):=aq;have gH:=g0.seq hl;generalize upd H m (.dK [])=H0 at *;refine(_,Z,l,_,Z,.inl gH,λlo hlo=>?_);have g1:=aF hlo (.lst (own.map V.str));have DM:upd H0 lo (.lst (own.map V.str)) lo=some (.lst (own.map V.str)):=aq;have JT:=g1 _ _ em0;generalize upd H0 lo (.lst (own.map V.str))=H1 at *;refine((gR 0),λlp wZ=>?_);have g2:=aF wZ (.lst []);have ep2:upd H1 lp (.lst []) lp=some (.lst []):=aq;have eo2:=g2 _ _ DM;have RI:=g2 _ _ JT;show Bp _ _ (upd H1 lp (.lst [])) _;generalize upd H1 lp (.lst [])=H2 at *;refine((gR 0),λla hla=>?_);have g3:=aF hla (.lst []);have RH:upd H2 la (.lst []) la=some (.lst []):=aq;have ep3:=g3 _ _ ep2;have eo3:=g3 _ _ eo2;have em3:=g3 _ _ RI;show Bp _ _ (upd H2 la (.lst [])) _;generalize upd H2 la (.lst [])=H3 at *;refine((gR 0),λlk hlk=>?_);have g4:=aF hlk (.lst []);have ek4:upd H3 lk (.lst []) lk=some (.lst []):=aq;have ea4:=g4 _ _ RH;have ep4:=g4 _ _ ep3;have eo4:=g4 _ _ eo3;have em4:=g4 _ _ em3;show upd H3 lk (.lst []) m=_/\_;generalize upd H3 lk (.lst [])=H4 at *;have gA:=((g0.trans g1).trans g2).trans (g3.trans g4);have n1:lo≠m:=λe=>by rw[e,em0]at hlo;cases hlo
 have n2:lp≠m:=λe=>by rw[e,JT]at wZ;cases wZ
 have n3:lp≠lo:=λe=>by rw[e,DM]at wZ;cases wZ
 have n4:la≠m:=λe=>by rw[e,RI]at hla;cases hla
 have n5:la≠lo:=λe=>by rw[e,eo2]at hla;cases hla
 have n6:la≠lp:=λe=>by rw[e,ep2]at hla;cases hla
 have n7:lk≠m:=λe=>by rw[e,em3]at hlk;cases hlk
 have n8:lk≠lo:=λe=>by rw[e,eo3]at hlk;cases hlk
 have n9:lk≠lp:=λe=>by rw[e,ep3]at hlk;cases hlk
 have nA:lk≠la:=λe=>by rw[e,RH]at hlk;cases hlk
 refine(em4,[(Sum.inr "owners",.ref lo),(Sum.inr "parts",.ref lp),(Sum.inr "bottom",.int 1),(Sum.inr "ashore",.ref la),(Sum.inr "known",.ref lk)],Z,by show 5<=15;decide,?_);have eK:yX [] [(Sum.inr "owners",.ref lo),(Sum.inr "parts",.ref lp),(Sum.inr "bottom",.int 1),(Sum.inr "ashore",.ref la),(Sum.inr "known",.ref lk)]=fu (m,lo,lp,la,lk,[]) 1:=rfl;rw[eK];have u1:upd H4 m (.dK (fu (m,lo,lp,la,lk,[]) 1)) m=some (.dK (fu (m,lo,lp,la,lk,[]) 1)):=aq;have u2:upd H4 m (.dK (fu (m,lo,lp,la,lk,[]) 1)) lo=some (.lst (own.map V.str)):=aA n1▸eo4;have u3:upd H4 m (.dK (fu (m,lo,lp,la,lk,[]) 1)) lp=some (.lst []):=aA n2▸ep4;have u4:upd H4 m (.dK (fu (m,lo,lp,la,lk,[]) 1)) la=some (.lst []):=aA n4▸ea4;have u5:upd H4 m (.dK (fu (m,lo,lp,la,lk,[]) 1)) lk=some (.lst []):=aA n7▸ek4;have G4:=(G.same gA).wr (a:=m) (o:=.dK (fu (m,lo,lp,la,lk,[]) 1)) rfl;have hz:∀b o,H b=some o->upd H4 m (.dK (fu (m,lo,lp,la,lk,[]) 1)) b=some o:=λb o e=>by rw[aA (λz=>by rw[z,hm]at e;cases e)];exact gA _ _ e
 have y1:H lo=none:=g0.free hlo;have y2:H lp=none:=(g0.trans g1).free wZ;have y3:H la=none:=((g0.trans g1).trans g2).free hla;have y4:H lk=none:=(((g0.trans g1).trans g2).trans g3).free hlk;generalize upd H4 m (.dK (fu (m,lo,lp,la,lk,[]) 1))=H5 at *;refine q (b7 (b7 (b7 (b7 (b7 ρ m (n,20,⟨#[]⟩)) lo (n,21,⟨#[]⟩)) lp (n,22,⟨#[]⟩)) la (n,25,⟨#[]⟩)) lk (n,26,⟨#[]⟩)) (m,lo,lp,la,lk,[]) H5 (((((G4.color u1 rfl).color u2 rfl).color u3 rfl).color u4 rfl).color u5 rfl) (u1,?_,u2,?_,u3,?_,([],u4,.nil),?_,u5,c6,Z,λi p q e=>by simp at e) (λb o e=>(hz b o e,?_))
 .show b7 _ lk _ m=_;rw[cg (cC n7),cg (cC n4),cg (cC n2),cg (cC n1),c6]
 .show b7 _ lk _ lo=_;rw[cg (cC n8),cg (cC n5),cg (cC n3),c6]
 .show b7 _ lk _ lp=_;rw[cg (cC n9),cg (cC n6),c6]
 .show b7 _ lk _ la=_;rw[cg (cC nA),c6]
 .rw [cg (aJ e y4),cg (aJ e y3),cg (aJ e y2),cg (aJ e y1),cg (aJ e hm)]
abbrev xM:Stmt:=top 30
abbrev kO:Da Str:=["_law_owners","_law_name_here"]
abbrev Pu:Da Str:=kO.append ["_law_at_here"]
def Ct:aQ Pu kO (aD xM):=c9
theorem N8(F:At K mg "_law_seat" xM f fd)(bq:mg "len"=none)(bZ:mg "range"=none):Dn P w K mg base 1 "_law_seat" kO (BQ K):=by
 refine F.oA Ct λ_ _ _ _ H _ Q E hr h=>?_;obtain⟨⟨l,own,o,rfl,hl,ho,hle,q⟩⟩:=h;refine(_,(@cZ.h _ _ _ (ak (fk fQ rfl (f_ (by rfl) bZ (af (aK (bF K) (by rfl) bq cX (af (qv 0) aj)) aj)) (aW (i:=2) Ct.nd) (au (b_ (aS dZ (aB (aH K) (qv 0) (qv 2)) (qv 1) (aZ _)) (au (aX (qv 2))) br)))
  (au (aX (SX LU ai))))),?_)
 have ll:(own.map V.str).length=own.length:=aG _;refine(_,Z,l,_,Z,.inl hl,_,Z,by omega,by omega,?_);refine iJ (lo:=0) (n:=(((own.map V.str).length:Nat):Int).toNat) (λi σ H'=>H'=H/\o∉own.take i/\∃s2,σ=[some (.ref l),some (.str o),s2]) (Z,by simp,_,Z) ?_ ?_
 .rintro i σ H' hi ⟨rfl,hn,s2,rfl⟩;have e0:(0:Int)+(i:Int)=((i:Nat):Int):=by omega
  rw[e0];have hio:i<own.length:=by omega
  have ei:=a_ hio;refine(_,Z,_,Z,l,_,_,_,Z,Z,hl,aE (by rw[bP,ei];rfl),_,Z,Z,_,Z,dX (λc=>?_) (λc=>?_))
  .have c':own[i]=o:=V.str.inj (eO c);refine(_,Z,?_);have:own.idxOf o=i:=by
    have h1:own.idxOf o<=i:=by
     rcases Nat.lt_or_ge i (own.idxOf o)with z|z
     .exact absurd c' (by simpa using List.not_of_lt_findIdx z)
     .exact z
    rcases Nat.lt_or_ge (own.idxOf o) i with z|z
    .exact absurd (bg (i:=own.idxOf o) (by rw[List.getElem?_take,ay z];exact ym ho)) hn
    .omega
   rw[<-this];exact q
  .refine (Z,λm=>?_,_,Z);rw[take_snoc ei]at m;rcases dN.mp m with z|z
   .exact hn z
   .exact c (bR (by rw[dw.mp z]))
 rintro σ H' ⟨rfl,hn,s2,rfl⟩;rw[show(((own.map V.str).length:Nat):Int).toNat=own.length from by omega,cQ]at hn;exact absurd ho hn
abbrev qA:Stmt:=top 32
abbrev ng:Da Str:=["_law_model_here","_law_name_here","_law_owner","_law_worth","_law_weight"]
abbrev Gv:Da Str:=ng.append ["_law_tops"]
def xN:aQ Gv ng (aD qA):=c9
theorem Ex(F:At K mg "_law_new_part" qA f fd)(fK:Dn P w K mg base 1 "_law_seat" kO (BQ K)):Dn P w K mg base 2 "_law_new_part" ng Js:=by
 refine F.oA xN λ_ _ _ _ H _ Q E hr h=>?_;obtain⟨⟨n,ρ,B,b,x,o,wo,we,rfl,G,h,ho,eU,hpl,hkl,q⟩⟩:=h;refine(_,(@cZ.h _ _ _ (ak (qL (i:=5) ["_law_one"] [none] xN.nd rfl rfl rfl (dI K (bJ (bX hr) (qv 0) aU)) (λ_ _ _ _=>(aW (i:=0) (show List.Nodup (["_law_one"] :Da Str)from by decide +kernel))) (λ_ _ _ _=>ai) rfl (by rfl) (by rfl))
  (ak (jl (bJ (bX hr) (qv 0) aU) (jm (qv 5) (bB fK hr (af (bJ (bX hr) (qv 0) aU) (af (qv 2) aj))) set_list))
  (ak (cu (lX qb p_ qa fh (bJ (bX hr) (qv 0) aU) (af (ia (af (qv 1) (af (qv 2) (af (qv 3) (af (qv 4) (af (qv 5) aj)))))) aj)))
  (au (cu (lX qb p_ qa fh (bJ (bX hr) (qv 0) aU) (af (qv 1) aj)))))))),?_)
 refine(_,Z,B.m,_,Z,cD.k (k:=Sum.inr "owners") h.om,B.lo,Z,(_,aC.of h.oo),λl0 gH=>?_);have Ic:(b.own.map V.str).length=b.own.length:=aG _;refine iD (J:=wC K B.lo) (n:=(b.own.map V.str).length) 0 (λi o H'=>aM H H'/\o=(List.replicate i (0:Int)).map V.int) (by omega) (aF gH _,Z) (λi o H' hi _ hp=>(_,_,aC.of (hp.1 _ _ h.oo),a_ hi)) (λo H' _ hp=>(_,aC.of (hp.1 _ _ h.oo),aO _)) ?_ ?_
 .rintro i y o H2 H3 hi eU ha ⟨g,e⟩ ⟨rfl,hy⟩;refine(ha,g.cJ gH _,?_);subst e;rw[List.replicate_succ',bQ];rfl
 rintro o1 H1 _ ha ⟨g1,e⟩;subst e;rw[Ic]at ha;have h1:=h.mono g1;have il:b.own.idxOf o<b.own.length:=qQ ho;have rl:((List.replicate b.own.length (0:Int)).map V.int).length=b.own.length:=by rw[aG,jr]
 refine(_,Z,B.m,_,Z,cD.k (k:=Sum.inr "bottom") h1.om,_,Z,_,Z,B.m,_,Z,cD.k (k:=Sum.inr "owners") h1.om,_,Z,⟨(B.lo,b.own,o,Z,aC.of h1.oo,ho,eU,?_)⟩);refine(l0,_,_,_,Z,Z,ha,rl▸mH il,?_);rw[<-kU];have g2:=g1.cJ gH (.lst (((List.replicate b.own.length (0:Int)).set (b.own.idxOf o) b.bot).map V.int));have ha2:upd H1 l0 (.lst (((List.replicate b.own.length (0:Int)).set (b.own.idxOf o) b.bot).map V.int)) l0=some (.lst (((List.replicate b.own.length (0:Int)).set (b.own.idxOf o) b.bot).map V.int)):=aq;show wu _ _ _ _ (upd H1 l0 (.lst (((List.replicate b.own.length (0:Int)).set (b.own.idxOf o) b.bot).map V.int)));generalize upd H1 l0 (.lst (((List.replicate b.own.length (0:Int)).set (b.own.idxOf o) b.bot).map V.int))=H2 at *;have h2:=h.mono g2;refine(_,Z,B.m,_,Z,cD.k (k:=Sum.inr "parts") h2.om,.inl (Z,_,aC.of h2.op),_,Z,_,Z,_,Z,_,Z,_,Z,(gR 5),λp hp=>?_);have g3:=aF hp (jy (x,o,wo,we,(List.replicate b.own.length (0:Int)).set (b.own.idxOf o) b.bot) l0);have hp3:upd H2 p (jy (x,o,wo,we,(List.replicate b.own.length (0:Int)).set (b.own.idxOf o) b.bot) l0) p=some (jy (x,o,wo,we,(List.replicate b.own.length (0:Int)).set (b.own.idxOf o) b.bot) l0):=aq;show rj _ (upd H2 p (jy (x,o,wo,we,(List.replicate b.own.length (0:Int)).set (b.own.idxOf o) b.bot) l0)) _;generalize upd H2 p (jy (x,o,wo,we,(List.replicate b.own.length (0:Int)).set (b.own.idxOf o) b.bot) l0)=H3 at *;have wV:H p=none:=g2.free hp;have A0:=g2.trans g3;have cl0:ρ l0=none:=G.none gH;have np:p≠l0:=λe=>by rw[e,ha2]at hp;cases hp
 have cp:b7 ρ l0 (Prod.mk (n) (Prod.mk (24) (x))) p=none:=cg np▸G.none wV;have h3:bf n (b7 (b7 ρ l0 (Prod.mk (n) (Prod.mk (24) (x)))) p (Prod.mk (n) (Prod.mk (23) (x)))) B H3 b:=((h.mono A0).col cl0).col cp;have G3:Gh (b7 (b7 ρ l0 (Prod.mk (n) (Prod.mk (24) (x)))) p (Prod.mk (n) (Prod.mk (23) (x)))) H3:=((G.same A0).color (g3 _ _ ha2) rfl).color hp3 rfl;have F3:Fr n ρ H (b7 (b7 ρ l0 (Prod.mk (n) (Prod.mk (24) (x)))) p (Prod.mk (n) (Prod.mk (23) (x)))) H3:=((Fr.of_same A0).jM gH).jM wV;have c1:b7 (b7 ρ l0 (Prod.mk (n) (Prod.mk (24) (x)))) p (Prod.mk (n) (Prod.mk (23) (x))) p=some (Prod.mk (n) (Prod.mk (23) (x))):=c6;have c2:b7 (b7 ρ l0 (Prod.mk (n) (Prod.mk (24) (x)))) p (Prod.mk (n) (Prod.mk (23) (x))) l0=some (Prod.mk (n) (Prod.mk (24) (x))):=by rw[cg (cC np),c6]
 have VO:=g3 _ _ ha2;refine(B.lp,_,_,Z,Z,h3.op,by rw[aG,h.ql];exact dO hpl,?_);rw[show B.qs.map (λq=>V.ref q.1)++[V.ref p]=(B.qs++[(Prod.mk (p) (l0))]).map (λq=>V.ref q.1)from by rw[bQ];rfl];have h4:=h3.U5 G3 (p:=(x,o,wo,we,(List.replicate b.own.length (0:Int)).set (b.own.idxOf o) b.bot)) (q:=(Prod.mk (p) (l0))) hp3 VO c1 c2;have G4:=G3.wr (a:=B.lp) (o:=.lst ((B.qs++[(Prod.mk (p) (l0))]).map λq=>V.ref q.1)) rfl;have F4:=F3.trans (Fr.write (o:=.lst ((B.qs++[(Prod.mk (p) (l0))]).map λq=>V.ref q.1)) h3.cp);generalize upd H3 B.lp (.lst ((B.qs++[(Prod.mk (p) (l0))]).map λq=>V.ref q.1))=H4 at *;refine(_,Z,B.m,_,Z,cD.k (k:=Sum.inr "known") h4.om,.inl (Z,_,aC.of h4.ok),_,Z,B.lk,_,_,Z,Z,h4.ok,by rw[aG];exact dO hkl,?_);rw[show b.eF.map V.str++[V.str x]=(b.eF++[x]).map V.str from by rw[bQ];rfl];exact q _ _ _ (G4.wr rfl) (h4.Ra G4 (b.eF++[x])) rfl (F4.trans (Fr.write h4.ck))
abbrev vE:Stmt:=top 44
abbrev sJ:Da Str:=["_law_owners"]
abbrev N9:Da Str:=sJ.append ["_law_hold","_law_owner"]
def vF:aQ N9 sJ (aD vE):=c9
theorem KA{T:TC}(F:At K mg "_law_begin" vE f fd)(N_:Cn P w K mg base 3 "Hold" T.hold ["self"] (QZ T))(mL:Mn P w K mg base 3 T.hold "sign" pI (HD T)):Dn P w K mg base 5 "_law_begin" sJ (Q6 T K):=by
 refine F.oA vF λ_ _ _ _ H _ Q E hr h=>?_;obtain⟨⟨l,own,n,ρ,rfl,hl,cl,nd,hnm,hle,g,q⟩⟩:=h;refine(_,(@cZ.h _ _ _ (ak (aV (i:=1) vF.nd (Vj N_ hr))
  (ak (fk fQ rfl (dI K (qv 0)) (aW (i:=2) vF.nd) (au (cu (cy mL hr (qv 1) (af (qv 2) aj)))))
  (au (aX (qv 1)))))),?_)
 intro x dx hx hdx hne;refine⟨(x,dx,ρ,n,Z,aq,(g.alloc hdx).alloc (aA (cC hne)▸hx),g.none hx,λρ1 A H1 ea hh k=>(Z,?_))⟩;have F1:Fr n ρ H ρ1 H1:=λb o e _=>k b o (by rw[aA (aJ e hx),aA (aJ e hdx)];exact e) (aJ e hx);refine(_,Z,l,Z,(_,F1.seq hl cl),?_);refine lQ (K:=K) (xs:=own.map V.str) (λi σ H'=>∃ρ' A' s2,σ=[some (.ref l),some (.ref x),s2]/\A'.a=x/\HH T n ρ' A' H' ((own.take i).foldl gW hs0)/\Fr n ρ H ρ' H')
  (ρ1,A,none,Z,ea,hh,F1) (λi σ H' _ hp=>by obtain⟨_,_,_,_,_,_,f⟩:=hp;exact f.seq hl cl) ?_ ?_
 .rintro i y σ H' hy ⟨ρ',A',s2,rfl,ea',VW,F'⟩;rw[bP]at hy;obtain⟨o,eo,rfl⟩:=nt.mp hy;have hi:=(c_.mp eo).1;have hos:=uI (own.take i) hs0;have ad4:((own.take i).foldl gW hs0).own=own.take i:=by rw[hos];rfl
  refine(_,Z,x,A'.dx,_,Z,ea'▸VW.h.oa,Z,_,Z,⟨(n,ρ',A',_,o,by rw[ea'];rfl,VW,hnm o (bg eo),?_,?_,λρ2 A2 H2 h2 e2 F2=>?_)⟩)
  .rw [ad4];intro m;have h2:(own.take (i+1)).Nodup:=nd.sublist (List.take_sublist _ _);rw[take_snoc eo]at h2;exact(List.nodup_append.mp h2).2.2 o m o (dw.mpr rfl) rfl
  .rw [ad4,kR];omega
  .rw [take_snoc eo,Ho];exact(ρ2,A2,_,Z,e2.trans ea',h2,F'.trans F2)
 rintro σ H' ⟨ρ',A',s2,rfl,ea',VW,F'⟩;rw[aG,cQ]at VW;have:=q ρ' A' H' VW F';rw[ea']at this;exact(_,Z,this)
abbrev AB:Stmt:=top 33
abbrev uQ:Da Str:=["_law_parts","_law_name_here"]
abbrev VX:Da Str:=uQ.append ["_law_at_here"]
def Gw:aQ VX uQ (aD AB):=c9
theorem Ti(F:At K mg "_law_at" AB f fd)(bq:mg "len"=none)(bZ:mg "range"=none):Dn P w K mg base 1 "_law_at" uQ (F0 K):=by
 refine F.oA Gw λ_ _ _ _ H _ Q E hr h=>?_;obtain⟨⟨l,us,ws,x,rfl,hl,hW,nd,hle,q,q2⟩⟩:=h;refine(_,(@cZ.h _ _ _ (ak (fk fQ rfl (f_ (by rfl) bZ (af (aK (bF K) (by rfl) bq cX (af (qv 0) aj)) aj)) (aW (i:=2) Gw.nd) (au (b_ (aS dZ (aB (gK K) (aB (aH K) (qv 0) (qv 2)) ai) (qv 1) (aZ _)) (au (aX (qv 2))) br)))
  (au (aX (SX LU ai))))),?_)
 have ll:=hW.len;refine(_,Z,l,_,Z,.inl hl,_,Z,by omega,by omega,?_);refine iJ (lo:=0) (n:=((us.length:Nat):Int).toNat) (λi σ H'=>H'=H/\(∀r∈ws.take i,r.1≠x)/\∃s2,σ=[some (.ref l),some (.str x),s2]) (Z,(λ_ m=>nomatch m),_,Z) ?_ ?_
 .rintro i σ H' hi ⟨rfl,hn,s2,rfl⟩;have e0:(0:Int)+(i:Int)=((i:Nat):Int):=by omega
  rw[e0];have hio:i<ws.length:=by omega
  have ei:=a_ hio;obtain⟨a,xs,ea,DN,x0,_⟩:=hW.at_ i _ ei;refine(_,Z,_,Z,l,_,_,_,Z,Z,hl,aE ea,DN.ix (i:=0) x0 ?_);refine(_,Z,Z,_,Z,dX (λc=>?_) (λc=>?_))
  .exact (_,Z,q i _ ei (V.str.inj (eO c)))
  .refine (Z,λr hr=>?_,_,Z);rw[take_snoc ei]at hr;rcases dN.mp hr with z|z
   .exact hn r z
   .rw [dw.mp z];intro e;exact c (bR (by rw[e]))
 rintro σ H' ⟨rfl,hn,s2,rfl⟩;refine(1,Z,q2 λr hr=>hn r ?_);rw[G0 (by omega)];exact hr
abbrev xO:Stmt:=top 38
abbrev uB:Da Str:=["_law_script","_law_k","_law_parts"]
abbrev Pw:Da Str:=uB.append ["_law_spare","_law_order","_law_rows_here","_law_at_here","_law_way","_law_amount"]
def gT:aQ Pw uB (aD xO):=c9
theorem Oa(F:At K mg "_law_rows" xO f fd)(bD:Dn P w K mg base 1 "_law_draw" iz (rA K))(bq:mg "len"=none)(bZ:mg "range"=none)(dJ:mg "list"=none)(fT:mg "sum"=none)(sL:mg "min"=none):Dn P w K mg base 2 "_law_rows" uB (Rc K):=by
 refine F.oA gT λ_ _ _ _ H _ Q E hr h=>?_;obtain⟨⟨a,l,ns,k,us,ws,rfl,hS,h63,hk0,hk1,hl,hW,nd,hle,hw1,q⟩⟩:=h;refine(_,(@cZ.h _ _ _ (ak (aV (i:=3) gT.nd (aL j_ (aK (kh K rfl) (by rfl) fT wg (af (gM ["_law_part"] [none] rfl (dI K (qv 2)) (λ_ _ _ _=>(aW (i:=0) (show List.Nodup (["_law_part"] :Da Str)from by decide +kernel))) (λ_ _ _ _=>(aB (gK K) (qv 0) ai)) rfl (by rfl)) aj)) ai))
  (ak (aV (i:=4) gT.nd (kC (J0 rfl) (by rfl) dJ wc (af (Vh (by rfl) bZ (af (aK (bF K) (by rfl) bq cX (af (qv 2) aj)) aj)) aj)))
  (ak (jk (aS dZ (bB bD hr (af (qv 0) (af (qv 1) (af ai (af ai aj))))) ai (aZ _)) (au (aV (i:=4) gT.nd (ac0 K (qv 4) (SX LU ai)))) br)
  (ak (aV (i:=5) gT.nd (ia aj))
  (ak (fk fQ rfl (dI K (qv 4)) (aW (i:=6) gT.nd) (ak (aV (i:=7) gT.nd (bB bD hr (af (qv 0) (af (qv 1) (af (aL cV ai (aL kg ai (qv 6))) (af ai aj))))))
  (ak (aV (i:=8) gT.nd (aK (U7 rfl) (by rfl) sL LA (af (aB (gK K) (aB (aH K) (qv 2) (qv 6)) ai) (af (qv 3) (af (aL qZ ai ai) aj)))))
  (ak (jk (fm (bW.pt (uL (aS dZ (qv 7) ai (aZ _)) (v9 (aS jS (qv 8) ai (aZ _)))))) (au (aV (i:=8) gT.nd (aL cV ai (bB bD hr (af (qv 0) (af (qv 1) (af (aL cV ai (aL kg ai (qv 6))) (af (qv 8) aj)))))))) br)
  (au (jk (fm (bW.pt (uL (aS jS (qv 7) ai (aZ _)) (v9 (aS jS (qv 8) ai (aZ _)))))) (ak (cu (lX qb p_ qa fh (qv 5) (af (f7 (af (aB (gK K) (aB (aH K) (qv 2) (qv 6)) ai) (af (qv 8) aj))) aj)))
  (au (aV (i:=3) gT.nd (aL j_ (qv 3) (qv 8))))) br))))))
  (au (aX (qv 5))))))))),?_)
 have ll:=hW.len;refine(_,Z,l,Z,(_,hl),λl0 gH=>?_);refine iD (J:=wC K l) (n:=us.length) 0 (λi o H'=>aM H H'/\o=((ws.take i).map (λr:Row=>r.2)).map V.int) (by omega) (aF gH _,Z) (λi o H' hi _ hp=>(_,_,hp.1.seq hl,a_ hi)) (λo H' _ hp=>(_,hp.1.seq hl,aO _)) ?_ ?_
 .rintro i y o H2 H3 hi eU ha ⟨g,e⟩ ⟨rfl,hy⟩;have hiw:i<ws.length:=by omega
  have ei:=a_ hiw;obtain⟨ar,xs,ea,DN,x0,x2⟩:=hW.at_ i _ ei;have ey:=hy _ (g.seq hl);rw[ea]at ey;cases ey;refine(_,Z,(g.sq DN).ix (i:=2) x2 ?_);refine(ha,g.cJ gH _,?_);subst e;rw[take_snoc ei,bQ,bQ];rfl
 rintro o1 H1 _ ha ⟨g1,e⟩;rw[ll,cQ]at e;subst e;refine(l0,ws.map (λr:Row=>r.2),Z,aC.of ha,_,_,Z,Z,?_);show i9 3 (.int (bL ws-1)) _ _ _;refine(_,Z,l,_,Z,.inl (g1.seq hl),_,Z,λpr hpr=>?_);refine(pr,ws.length,Z,?_,by omega,λpo Y7=>?_)
 .rw [aq,ll]
 have gA:=(aF hpr (.yV 0 ((us.length:Nat):Int))).trans (aF Y7 (.lst ((L2.upTo ws.length).map V.int)));have gB:=g1.trans gA;have hord:upd (upd H1 pr (.yV 0 ((us.length:Nat):Int))) po (.lst ((L2.upTo ws.length).map V.int)) po=some (.lst ((L2.upTo ws.length).map V.int)):=aq;generalize upd (upd H1 pr (.yV 0 ((us.length:Nat):Int))) po (.lst ((L2.upTo ws.length).map V.int))=H2 at *;have ndo:(L2.upTo ws.length).Nodup:=by unfold L2.upTo;refine List.Pairwise.map _ (λx y h e=>h (by omega)) List.nodup_range
 have yV:∀x∈L2.upTo ws.length,0<=x/\x<(ws.length:Int):=λx hx=>by unfold L2.upTo at hx;obtain⟨i,hi,rfl⟩:=bw.mp hx;have:=zU.mp hi;omega
 have lup:(L2.upTo ws.length).length=ws.length:=by unfold L2.upTo;rw[aG,Hl]
 refine⟨λσ H3=>aM H H3/\∃(pq:Addr)(os:Da Int),σ=[some (.ref a),some (.int k),some (.ref l),some (.int (bL ws-1)),some (.ref pq),none,none,none,none]/\H3 pq=some (.lst (os.map V.int))/\os.Nodup/\os.length=ws.length/\∀x∈os,0<=x/\x<(ws.length:Int),?_,?_⟩
 .refine (_,Z,_,Z,dG (gB.seq hS) h63 hk0 (by decide) (by decide) (by decide) λd _ d0 d1=>(Z,_,Z,dX (λc=>?_) (λc=>?_)))
  .refine (_,Z,_,Z,Z,po,_,Z,aC.of hord,λpz hpz=>?_);have g3:=aF hpz (.lst ((L2.upTo ws.length).map V.int).reverse);exact(gB.trans g3,pz,(L2.upTo ws.length).reverse,Z,by rw[aq,List.map_reverse],List.pairwise_reverse.mpr (List.Pairwise.imp (λh=>cC h) ndo),by rw[List.length_reverse,lup],λx hx=>yV x (List.mem_reverse.mp hx))
  .exact (gB,po,L2.upTo ws.length,Z,hord,ndo,lup,yV)
 rintro σ H3 ⟨g3,pq,os,rfl,hos,hnd,eU,hrg⟩;refine((gR 0),λz hz=>?_);have g4:=aF hz (.lst []);have hzz:upd H3 z (.lst []) z=some (.lst []):=aq;have ad6:=g4 _ _ hos;have nz:pq≠z:=λe=>by rw[e,hz]at hos;cases hos
 have hzH:H z=none:=g3.free hz;have xH:=g3.trans g4;show wu _ _ _ _ (upd H3 z (.lst []));generalize upd H3 z (.lst [])=H4 at *;have w1:ws≠[]->1<=bL ws:=λhne=>by
  cases ws with
  | nil=>exact absurd rfl hne
  | cons r rs=>have h1:=hw1 r cO;have h2:=D8 (rs:=rs) λx hx=>hw1 x (cR _ hx);rw[show bL (r::rs)=r.2+bL rs from by unfold bL;rw[bK,cI]];omega
 refine(_,Z,pq,Z,(_,aC.of ad6),?_);refine lQ (K:=K) (xs:=os.map V.int) (λi σ H'=>aM H H'/\H' pq=some (.lst (os.map V.int))/\∃(zs:Da V)(rs:Da Row)(sp:Int)(s6 s7 s8:Option V),σ=[some (.ref a),some (.int k),some (.ref l),some (.int sp),some (.ref pq),some (.ref z),s6,s7,s8]/\H' z=some (.lst zs)/\gy H' zs rs/\rs.length<=i/\(rs.map (λr:Row=>r.1)).Nodup/\
   sp=bL ws-1-bL rs/\(ws≠[]->0<=sp)/\∀r∈rs,1<=r.2/\r.2<=1000000000/\∃j:Nat,((j:Nat):Int)∈os.take i/\∃w,ws[j]?=some w/\w.1=r.1/\r.2<=w.2)
  (xH,ad6,[],[],bL ws-1,none,none,none,Z,hzz,.nil,aO _,x9,by show _=bL ws-1-0;omega,λhne=>by have:=w1 hne;omega,λr hr=>absurd hr (by simp)) ?_ ?_ ?_
 .rintro i σ H' _ ⟨_,h,_⟩;exact aC.of h
 .rintro i x σ H5 hx ⟨g5,hq5,zs,rs,sp,s6,s7,s8,rfl,JU,hR,hrl,RJ,wF,Tj,w6⟩;rw[bP]at hx;obtain⟨at',hat,rfl⟩:=nt.mp hx;have hio:=(c_.mp hat).1;obtain⟨t0,t1⟩:=hrg at' (bg hat);obtain⟨jt,hjt⟩:∃jt:Nat,((jt:Nat):Int)=at':=(at'.toNat,by omega)
  subst hjt;have hjl:jt<ws.length:=by omega
  have hne:ws≠[] :=λe=>by rw[e]at hjl;simp at hjl
  have aiL:=Tj hne;have hnot:((jt:Nat):Int)∉os.take i:=λm=>by obtain⟨j,hj,ej⟩:=List.mem_iff_getElem.mp m;rw[List.getElem_take]at ej;rw[kR]at hj;have e2:=(c_.mp hat).2;have:=(List.getElem_inj hnd).mp (ej.trans e2.symm);omega
  have ej:=a_ hjl;have hwj:=hw1 _ (bg ej);generalize ws[jt]=wj at *;obtain⟨ar,xs,ea,DN,x0,x2⟩:=hW.at_ jt _ ej;refine(_,Z,_,Z,_,Z,_,_,Z,Z,.inl (by decide,by decide),_,_,Z,Z,dG (g5.seq hS) h63 hk0 (by omega) (by omega) (by decide) λway _ v0 v1=>?_);refine(_,Z,_,Z,l,_,_,_,Z,Z,g5.seq hl,aE ea,(g5.sq DN).ix (i:=2) x2 ?_);refine(_,Z,_,_,Z,Z,(by decide,by decide,by decide),_,_,_,Z,?_);obtain⟨m1,m2,m3⟩:=Z9 wj.2 sp ((10:Int) ^ (9:Int).toNat);have m0:0<=wQ wj.2 sp ((10:Int) ^ (9:Int).toNat):=Z_ (by omega) aiL (by decide);have m3:wQ wj.2 sp ((10:Int) ^ (9:Int).toNat)<=1000000000:=m3;generalize wQ wj.2 sp ((10:Int) ^ (9:Int).toNat)=m at *;refine⟨λσ H6=>H5=H6/\∃m:Int,0<=m/\m<=sp/\m<=wj.2/\m<=1000000000/\σ=[some (.ref a),some (.int k),some (.ref l),some (.int sp),some (.ref pq),some (.ref z),some (.int (jt:Int)),some (.int way),some (.int m)],?_,?_⟩
  .refine (decide (way=2/\0<m),?_,?_)
   .refine (_,Z,Z,_,Z,?_);by_cases h1:way=2
    .rw [bR (by rw[h1] :V.int way=V.int 2)];refine fZ (_,Z,_,_,Z,Z,_,Z,?_,Z);by_cases h2:0<m
     .rw [bR h2,bR (h1,h2)]
     .rw [dM h2,dM λz=>h2 z.2]
    .rw [dM (λz=>h1 (V.int.inj z))];exact aR ((dM λz=>h1 z.1).symm,Z)
   refine dX (λc=>?_) (λc=>?_)
   .obtain ⟨_,c2⟩:=eO c;refine(_,Z,_,Z,_,Z,_,_,Z,Z,.inl (by decide,by decide),_,_,Z,Z,_,Z,dG (g5.seq hS) h63 hk0 (by omega) (by omega) c2 λd _ d0 d1=>(_,_,Z,Z,Z,1+d,by omega,by omega,by omega,by omega,Z))
   .exact (Z,m,m0,m2,m1,m3,Z)
  rintro σ H6 ⟨rfl,o,o0,o1,o2,o3,rfl⟩;have grow:∀r∈rs,1<=r.2/\r.2<=1000000000/\∃j:Nat,((j:Nat):Int)∈os.take (i+1)/\∃w,ws[j]?=some w/\w.1=r.1/\r.2<=w.2:=λr hr=>by obtain⟨a1,a2,j,a3,a4⟩:=w6 r hr;exact(a1,a2,j,take_snoc hat▸DQ _ a3,a4)
  refine⟨λσ H6=>aM H H6/\H6 pq=some (.lst (os.map V.int))/\∃(zs:Da V)(rs:Da Row)(sp:Int)(s6 s7 s8:Option V),σ=[some (.ref a),some (.int k),some (.ref l),some (.int sp),some (.ref pq),some (.ref z),s6,s7,s8]/\H6 z=some (.lst zs)/\gy H6 zs rs/\rs.length<=i+1/\(rs.map (λr:Row=>r.1)).Nodup/\
   sp=bL ws-1-bL rs/\(ws≠[]->0<=sp)/\∀r∈rs,1<=r.2/\r.2<=1000000000/\∃j:Nat,((j:Nat):Int)∈os.take (i+1)/\∃w,ws[j]?=some w/\w.1=r.1/\r.2<=w.2,?_,λ_ _ h=>h⟩
  refine(decide (0<way/\0<o),?_,?_)
  .refine (_,Z,_,_,Z,Z,_,Z,?_);by_cases h1:0<way
   .rw [bR h1];refine fZ (_,Z,_,_,Z,Z,_,Z,?_,Z);by_cases h2:0<o
    .rw [bR h2,bR (h1,h2)]
    .rw [dM h2,dM λz=>h2 z.2]
   .rw [dM h1];exact aR ((dM λz=>h1 z.1).symm,Z)
  refine dX (λc=>?_) (λc=>?_)
  .obtain ⟨_,c2⟩:=eO c;refine(_,Z,.inl (Z,_,aC.of JU),_,Z,_,Z,l,_,_,_,Z,Z,g5.seq hl,aE ea,(g5.sq DN).ix (i:=0) x0 ?_);refine(_,Z,(gR 2),λp hp=>?_);have g6:=aF hp (yI (wj.1,o));have hz6:=g6 _ _ JU;have hq6:=g6 _ _ hq5;have VI:upd H5 p (yI (wj.1,o)) p=some (yI (wj.1,o)):=aq;have aiM:=hR.length;show rj _ (upd H5 p (yI (wj.1,o))) _;generalize upd H5 p (yI (wj.1,o))=H6 at *;refine(z,_,_,Z,Z,hz6,by rw[aiM];exact dO (by omega),?_);have np:p≠z:=λe=>by rw[e,JU]at hp;cases hp
   have tu:∀b ys,H6 b=some (.tup ys)->upd H6 z (.lst (zs++[.ref p])) b=some (.tup ys):=jY (.inr (_,hz6,Z));refine(_,Z,_,Z,_,_,Z,Z,(g5.trans g6).cJ hzH _,aA nz▸hq6,zs++[.ref p],rs++[(wj.1,o)],sp-o,_,_,_,Z,aq,((hR.mono g6.tups).snoc VI).mono tu,by rw[c7];show rs.length+1<=i+1;omega,?_,?_,λ_=>by omega,?_)
   .rw [bQ];refine nX RJ λhm=>?_;obtain⟨r,hr,er⟩:=bw.mp hm;obtain⟨_,_,j,hj,w,ad8,e1,_⟩:=w6 r hr;have hj2:j<ws.length:=(c_.mp ad8).1;have r1:(ws.map (λr:Row=>r.1))[j]?=some w.1:=by rw[bP,ad8];rfl
    have r2:(ws.map (λr:Row=>r.1))[jt]?=some wj.1:=by rw[bP,ej];rfl
    have er:r.1=wj.1:=er;have:j=jt:=(Hq (by rw[aG];exact hj2) nd).mp (r1.trans (by rw[e1,er];exact r2.symm));rw[this]at hj;exact hnot hj
   .rw [show bL (rs++[(wj.1,o)])=bL rs+o from by unfold bL;rw[bQ,EO];simp];omega
   .intro r hr;rcases dN.mp hr with h1|h1
    .exact grow r h1
    .rw [dw.mp h1];exact(by show 1<=o;omega,o3,jt,take_snoc hat▸kK _ (dw.mpr rfl),wj,ej,Z,o2)
  .exact (g5,hq5,zs,rs,sp,_,_,_,Z,JU,hR,by omega,RJ,wF,Tj,grow)
 rintro σ H5 ⟨g5,hq5,zs,rs,sp,s6,s7,s8,rfl,JU,hR,hrl,RJ,wF,Tj,w6⟩;rw[aG,eU]at hrl;refine(_,Z,q z zs rs H5 g5 hzH JU hR (RJ,λr hr=>?_,?_,hrl))
 .obtain ⟨a1,a2,j,_,w,hw,e1,e2⟩:=w6 r hr;exact(a1,a2,w,bg hw,e1,e2)
 .by_cases c:ws=[]
  .right;rw[c]at hrl;exact List.length_eq_zero_iff.mp (by simpa using hrl)
  .left;have:=Tj c;omega
abbrev xP:Stmt:=top 39
abbrev uC:Da Str:=["_law_rows_here"]
abbrev Px:Da Str:=uC.append ["_law_things","_law_name_here","_law_amount"]
def sM:aQ Px uC (aD xP):=c9
theorem Ob(F:At K mg "_law_flat" xP f fd)(iT:mg "tuple"=none):Dn P w K mg base 1 "_law_flat" uC (Vp K):=by
 refine F.oA sM λ_ _ _ _ H _ Q E hr h=>?_;obtain⟨⟨l,us,rs,rfl,hl,hR,hle,q⟩⟩:=h;refine(_,(@cZ.h _ _ _ (ak (aV (i:=1) sM.nd (ia (af aU aj)))
  (ak (fk fQ rfl (dI K (qv 0)) (je K (n:=2) rfl (cT (aW (i:=2) sM.nd) (cT (aW (i:=3) sM.nd) jc))) (ak (cu (lX qb p_ qa fh (qv 1) (af (qv 2) aj)))
  (au (cu (lX qb p_ qa fh (qv 1) (af (qv 3) aj))))))
  (au (aX (kC JY (by rfl) iT Lx (af (qv 1) aj))))))),?_)
 have NB:=hR.length;refine((gR 1),λt ht=>?_);have g0:=aF ht (.lst [.str "cast"]);have h0:upd H t (.lst [.str "cast"]) t=some (.lst (Dd.v (.cast (rs.take 0)))):=aq;show wu _ _ _ _ (upd H t (.lst [.str "cast"]));generalize upd H t (.lst [.str "cast"])=H0 at *;refine(_,Z,l,Z,(us,g0.seq hl),?_);refine lQ (K:=K) (xs:=us) (λi σ H'=>aM H H'/\H' t=some (.lst (Dd.v (.cast (rs.take i))))/\∃s2 s3,σ=[some (.ref l),some (.ref t),s2,s3]) (g0,h0,_,_,Z) (λi σ H' _ hp=>hp.1.seq hl) ?_ ?_
 .rintro i x σ H' hx ⟨g,hd',s2,s3,rfl⟩;obtain⟨a,r,rfl,er,ha⟩:=hR.get hx;have va:(Dd.v (.cast (rs.take i))).length+1<sizeLine:=by show(kr (rs.take i)).length+1+1<_;rw[BY,kR,mY];exact Hg (show _<=3000 by omega) (by decide)
  refine(a,_,Z,cU.of (g _ _ ha),Z,_,_,Z,_,_,Z,Z,?_);refine(_,Z,.inl (Z,_,aC.of hd'),_,Z,t,_,_,Z,Z,hd',by omega,?_);refine(_,Z,.inl (Z,_,aC.of aq),_,Z,t,_,_,Z,Z,aq,c7▸va,?_);refine(?_,?_,_,_,Z)
  .rw [qG];exact g.cJ ht _
  .rw [aq,take_snoc er];show some (HO.lst ((V.str "cast"::kr (rs.take i)++[V.str r.1])++[V.int r.2]))=some (HO.lst (V.str "cast"::kr (rs.take i++[r])));rw[BX];simp[kr]
 rintro σ H' ⟨g,hd',s2,s3,rfl⟩;rw[NB,cQ]at hd';refine(_,Z,t,_,Z,.inl (aC.of hd',λz hz=>q z _ (g.trans (aF hz _)) aq))
abbrev o_:Stmt:=top 40
abbrev mj:Da Str:=["_law_script","_law_k","_law_model_here","_law_names","_law_way"]
abbrev Ey:Da Str:=mj.append ["_law_parts","_law_part","_law_owner","_law_whole","_law_rows_here","_law_amount"]
def gD:aQ Ey mj (aD o_):=c9
theorem Dh(F:At K mg "_law_part_deed" o_ f fd)(bD:Dn P w K mg base 1 "_law_draw" iz (rA K))(iV:Dn P w K mg base 2 "_law_much" mK (Bu K))(yN:Dn P w K mg base 2 "_law_rows" uB (Rc K))(yO:Dn P w K mg base 1 "_law_flat" uC (Vp K))(bq:mg "len"=none)(fT:mg "sum"=none)(sL:mg "min"=none):Dn P w K mg base 3 "_law_part_deed" mj (Gd K):=by
 refine F.oA gD λ_ _ _ _ H _ Q E hr h=>?_;obtain⟨⟨a,m,ln,ns,k,way,nms,c,st,rfl,hS,h63,hk0,hk1,hq,hN,nx,hnl,wf,g,hc,hp0,q⟩⟩:=h;refine(_,(@cZ.h _ _ _ (ak (aV (i:=5) gD.nd (bJ (bX hr) (qv 2) aU))
  (ak (aV (i:=6) gD.nd (aB (aH K) (qv 5) (bB bD hr (af (qv 0) (af (qv 1) (af ai (af (aK (bF K) (by rfl) bq cX (af (qv 5) aj)) aj)))))))
  (ak (aV (i:=7) gD.nd (aB (aH K) (bJ (bX hr) (qv 2) aU) (bB bD hr (af (qv 0) (af (qv 1) (af ai (af (aK (bF K) (by rfl) bq cX (af (bJ (bX hr) (qv 2) aU) aj)) aj)))))))
  (ak (aV (i:=8) gD.nd (aK (kh K rfl) (by rfl) fT wg (af (gM ["_law_one"] [none] rfl (dI K (qv 5)) (λ_ _ _ _=>(aW (i:=0) (show List.Nodup (["_law_one"] :Da Str)from by decide +kernel))) (λ_ _ _ _=>(aB (gK K) (qv 0) ai)) rfl (by rfl)) aj)))
  (ak (jk (aS ud (qv 4) ai (aZ _)) (ak (aV (i:=9) gD.nd (bB yN hr (af (qv 0) (af (qv 1) (af (qv 5) aj)))))
  (au (b_ (aS jS (aK (bF K) (by rfl) bq cX (af (qv 9) aj)) ai (aZ _)) (au (aX (bB yO hr (af (qv 9) aj)))) br))) br)
  (ak (b_ (aS dZ (qv 4) ai (aZ _)) (au (aX (f7 (af aU (af (aB (gK K) (qv 6) ai) (af (qv 7) aj)))))) br)
  (ak (b_ (aS dZ (qv 4) ai (aZ _)) (au (aX (f7 (af aU (af (aB (gK K) (qv 6) ai) aj))))) br)
  (ak (b_ (fm (bW.pt (uL (aS dZ (qv 4) ai (aZ _)) (v9 (aS jS (qv 8) ai (aZ _)))))) (au (aX (f7 (af aU (af (qv 7) (af (aL cV ai (bB bD hr (af (qv 0) (af (qv 1) (af ai (af (aK (yd rfl) (by rfl) sL LA (af (aL j_ (qv 8) ai) (af (aL qZ ai ai) aj))) aj)))))) aj)))))) br)
  (ak (b_ (fm (bW.pt (uL (aS dZ (qv 4) ai (aZ _)) (uL (aS jS (aB (gK K) (qv 6) ai) ai (aZ _)) (v9 (aS ud (aK (bF K) (by rfl) bq cX (af (bJ (bX hr) (qv 2) aU) aj)) (aK (bF K) (by rfl) bq cX (af (qv 3) aj)) (aZ _))))))) (ak (aV (i:=10) gD.nd (aL cV ai (bB bD hr (af (qv 0) (af (qv 1) (af ai (af (aK (yd rfl) (by rfl) sL LA (af (aL j_ (aB (gK K) (qv 6) ai) ai) (af (aL qZ ai ai) aj))) aj)))))))
  (au (aX (f7 (af aU (af (aB (gK K) (qv 6) ai) (af (aB (aH K) (qv 3) (aK (bF K) (by rfl) bq cX (af (bJ (bX hr) (qv 2) aU) aj))) (af (qv 10) (af (bB bD hr (af (qv 0) (af (qv 1) (af ai (af (aL cV (aB (gK K) (qv 6) ai) ai) aj))))) aj))))))))) br)
  (ak (b_ (aS dZ (qv 4) ai (aZ _)) (au (aX (f7 (af aU (af (aB (gK K) (qv 6) ai) (af (aL cV ai (bB bD hr (af (qv 0) (af (qv 1) (af ai (af (aK (yd rfl) (by rfl) sL LA (af (aB (gK K) (qv 6) ai) (af (aL qZ ai ai) aj))) aj)))))) aj)))))) br)
  (au (aX (f7 (af aU (af (aB (gK K) (qv 6) ai) (af (bB iV hr (af (qv 0) (af (qv 1) (af ai aj)))) aj))))))))))))))))),?_)
 obtain⟨AT,lo,lp,lk,us,om,vo,vp,vk,oo,op,rw',ok⟩:=hq;have ll:=rw'.len;have hpl:=g.pl;have eU:=wf.lR;have aiN:=g.ol;refine(_,Z,m,_,Z,vp▸cD.k (k:=Sum.inr "parts") om,?_);refine(_,Z,_,Z,_,Z,_,Z,_,us,Z,.inl op,dG hS h63 hk0 (by decide) (by decide) (by omega) λd _ d0 d1=>?_);obtain⟨j,rfl⟩:∃j:Nat,d=(j:Int):=(d.toNat,by omega)
 have hj:j<st.ah.length:=by omega
 have ep:=a_ hj;have fc:=xY hj;generalize st.ah[j]=p at *;obtain⟨ap,xs,ea,DN,x0,x1,x2,x3⟩:=rw'.at_ j p ep;refine(lp,_,_,_,Z,Z,op,aE ea,?_);refine(_,Z,m,_,Z,vo▸cD.k (k:=Sum.inr "owners") om,_,Z,_,Z,_,Z,m,_,Z,vo▸cD.k (k:=Sum.inr "owners") om,lo,_,Z,.inl oo,dG hS h63 hk0 (by decide) (by decide) (by rw[aG];omega) λwd _ w0 w1=>?_);rw[aG]at w1;obtain⟨jo,o,ejo,eo,Gx⟩:=Ai (l:=st.own) (d:=wd) w0 w1;refine(lo,_,_,_,Z,Z,oo,Gx,?_);have how:=bg eo;have wol:wl o<=20:=oF (g.on o how);have VY:wl p.nm<=20:=oF (g.nk _ (wf.sub p fc));have hw0:=wf.kj p fc;have eg:cS st p.nm=p:=dR wf fc rfl;have hin:p.nm∈fW st:=C0 ep;refine(_,Z,lp,Z,(_,op),λl0 gH=>?_);refine iD (J:=wC K lp) (n:=us.length) 0 (λi o H'=>aM H H'/\o=((st.ah.take i).map (λp:Pt=>p.wo)).map V.int) (by omega) (aF gH _,Z) (λi o H' hi _ hp=>(_,_,hp.1.seq op,a_ hi)) (λo H' _ hp=>(_,hp.1.seq op,aO _)) ?_ ?_
 .rintro i y o H2 H3 hi eU ha ⟨g,e⟩ ⟨rfl,hy⟩;have hiw:i<st.ah.length:=by omega
  have ei:=a_ hiw;obtain⟨ar,xs,ea,DN,_,_,x2,_⟩:=rw'.at_ i _ ei;have ey:=hy _ (g.seq op);rw[ea]at ey;cases ey;refine(_,Z,(g.sq DN).ix (i:=2) x2 ?_);refine(ha,g.cJ gH _,?_);subst e;rw[take_snoc ei,bQ,bQ];rfl
 rintro o1 H1 _ ha ⟨g1,e⟩;rw[ll,cQ]at e;subst e;refine(l0,st.ah.map (λp:Pt=>p.wo),Z,aC.of ha,?_);show i9 8 (.int (aI st)) _ _ _;have ret:∀(t:Addr)(d:Dd)(H2:Hp),aM H H2->H2 t=none->C6 nms st d->Q (.ref t) (upd H2 t (.tup (Dd.v d))):=λt d H2 g2 ht hd=>q t d _ (g2.trans (aF ht _)) aq hd;have keep:∀d:Dd,tM st d=none->MY d->d.pl=true->C6 nms st d:=λd h1 h2 h3=>(h1,h2,nx.keep (adh (Dd.XO h3).1 (Dd.XO h3).2.1),(Dd.XO h3).2.2)
 refine⟨λσ' H'=>aM H H'/\∃s9,σ'=[some (.ref a),some (.int k),some (.ref m),some (.ref ln),some (.int way),some (.ref lp),some (.ref ap),some (.str o),some (.int (aI st)),s9,none],?_,?_⟩
 .refine (_,Z,_,_,Z,Z,_,Z,dX (λ_=>?_) (λ_=>(g1,_,Z)));have hw1:∀w∈AQ st,1<=w.2:=λw hw=>by obtain⟨p,hp,rfl⟩:=bw.mp hw;exact(wf.kj p hp).1
  have nwN:((AQ st).map (λr:Row=>r.1)).Nodup:=by unfold AQ;rw[fH];exact wf.fP
  have nwL:(AQ st).length=st.ah.length:=by unfold AQ;rw[aG]
  refine(_,Z,_,Z,_,Z,⟨(a,lp,ns,k,us,AQ st,Z,g1.seq hS,h63,hk0,hk1,g1.seq op,(rw'.mono g1).nw,nwN,by omega,hw1,λz zs rs H2 g2 hz0 hz1 hR hro=>?_)⟩);have zl:=hR.length;refine(_,Z,z,zs,Z,.inl (aC.of hz1),_,_,Z,Z,_,Z,dX (λc=>?_) (λc=>(g1.trans g2,_,Z)));have c':(0:Int)<(zs.length:Int):=eO c;have hne:rs≠[] :=λe=>by rw[zl,e]at c';simp at c'
  have rl:=hro.len;have:=nx.pl wf;refine(_,Z,⟨(z,zs,rs,Z,aC.of hz1,hR,by omega,λt H3 g3 ht=>q t (.cast rs) H3 ((g1.trans g2).trans g3) ht (keep _ (SY wf hro hne) (by omega,λr hr=>?_) rfl))⟩);obtain⟨r1,r2,w,hw,e,_⟩:=hro.row r hr;obtain⟨p',eW,rfl⟩:=bw.mp hw;have e:p'.nm=r.1:=e;exact(e▸oF (g.nk _ (wf.sub p' eW)),by omega,r2)
 rintro σ H2 ⟨g2,s9,rfl⟩;have yP:=g2.sq DN;have JV:=g2.seq hS;have P9:Wy 10 9:=(by decide,by decide,by decide +kernel)
 have p9:(10:Int) ^ (9:Int).toNat=1000000000:=by decide +kernel
 have mn:∀w:Int,0<w->0<(if(10:Int) ^ (9:Int).toNat<w then(10:Int) ^ (9:Int).toNat else w)/\(if(10:Int) ^ (9:Int).toNat<w then(10:Int) ^ (9:Int).toNat else w)<=w/\(if(10:Int) ^ (9:Int).toNat<w then(10:Int) ^ (9:Int).toNat else w)<=1000000000:=λw h=>by rw[p9];split <;> omega
 refine(_,Z,Z,_,Z,dX (λ_=>?_) (λ_=>?_))
 .exact (_,Z,yP.ix (i:=0) x0 (_,Z,(gR 3),λt ht=>ret t (.hand p.nm o) H2 g2 ht (keep _ (by show pU st p.nm o=none;unfold pU;rw[ay hin,ay how]) (VY,wol) rfl)))
 refine(_,Z,Z,_,Z,dX (λ_=>?_) (λ_=>?_))
 .exact (_,Z,yP.ix (i:=0) x0 ((gR 2),λt ht=>ret t (.land p.nm) H2 g2 ht (keep _ (ay hin) VY rfl)))
 by_cases AN:way=10/\1<aI st
 .refine (true,(_,Z,Z,_,Z,dX (λ_=>(_,Z,_,_,Z,Z,_,Z,bR AN.2,Z)) (λc=>absurd (bR (by rw[AN.1])) c)),fZ ?_);obtain⟨m0,m1,m2⟩:=mn (aI st-1) (by omega);refine(_,Z,_,Z,_,Z,_,Z,_,_,Z,Z,_,_,Z,Z,P9,_,_,Z,dG JV h63 hk0 (by decide) (by decide) m0 λd _ d0 d1=>(_,_,Z,Z,(gR 3),λt ht=>ret t (.award o (1+d)) H2 g2 ht (keep _ ?_ (wol,by omega,by omega) rfl)));show nF st o (1+d)=none;unfold nF;rw[ay how,av (by omega),av (by omega)]
 refine(false,(_,Z,Z,_,Z,dX (λc=>(_,Z,_,_,Z,Z,_,Z,dM (λz=>AN (V.int.inj (eO c),z)),Z)) (λc=>(Z,Z))),aR ?_);have Tn:((nms.map V.str).length:Int)=(nms.length:Int):=by rw[aG]
 have To:((st.nms.map V.str).length:Int)=(st.nms.length:Int):=by rw[aG]
 by_cases h11:way=11/\1<p.wo/\st.nms.length<nms.length
 .refine (true,(_,Z,Z,_,Z,dX (λ_=>(_,Z,yP.ix (i:=2) x2 (_,_,Z,Z,_,Z,dX (λ_=>(_,Z,m,_,Z,vk▸cD.k (k:=Sum.inr "known") (g2 _ _ om),lk,_,Z,.inl (g2.seq ok),_,Z,ln,_,Z,.inl (g2.seq hN),_,_,Z,Z,_,Z,bR (by rw[Tn,To];omega),Z)) (λc=>absurd (bR h11.2.1) c)))) (λc=>absurd (bR (by rw[h11.1])) c)),fZ ?_);obtain⟨m0,m1,m2⟩:=mn (p.wo-1) (by omega);have ey:=a_ h11.2.2;obtain⟨y1,y2,y3⟩:=nx.next ey;generalize nms[st.nms.length]=y at *;have eyv:lz (nms.map V.str) ((st.nms.length:Nat):Int)=some (.str y):=aE (by rw[bP,ey];rfl);refine(_,Z,_,Z,_,Z,yP.ix (i:=2) x2 (_,_,Z,Z,_,_,Z,Z,P9,_,_,Z,dG JV h63 hk0 (by decide) (by decide) m0 λd _ d0 d1=>(_,_,Z,Z,?_)));refine(_,Z,yP.ix (i:=0) x0 (_,Z,_,Z,m,_,Z,vk▸cD.k (k:=Sum.inr "known") (g2 _ _ om),lk,_,Z,.inl (g2.seq ok),ln,_,_,_,Z,Z,g2.seq hN,by rw[aG];exact eyv,_,Z,_,Z,_,Z,_,Z,yP.ix (i:=3) x3 (_,_,Z,Z,dG JV h63 hk0 (by decide) (by decide) (by omega) λv _ v0 v1=>((gR 5),λt ht=>ret t (.sever p.nm y (1+d) v) H2 g2 ht (?_,(VY,oF y1,(by omega,by omega),(by omega,?_)),y3 _ rfl,by show(8:Nat)≠0;decide)))))
  .show lF st p.nm y (1+d) v=none;unfold lF;rw[ay hin,BV y1 y2,eg];show(if _ then _ else _)=none;rw[av (by omega),av (by omega)]
  .have:=g.we p fc;omega
 refine(false,(_,Z,Z,_,Z,dX (λc=>(_,Z,yP.ix (i:=2) x2 (_,_,Z,Z,_,Z,dX (λc2=>(_,Z,m,_,Z,vk▸cD.k (k:=Sum.inr "known") (g2 _ _ om),lk,_,Z,.inl (g2.seq ok),_,Z,ln,_,Z,.inl (g2.seq hN),_,_,Z,Z,_,Z,dM (λz=>h11 (V.int.inj (eO c),eO c2,by rw[Tn,To]at z;omega)),Z)) (λc=>(Z,Z))))) (λc=>(Z,Z))),aR ?_);refine(_,Z,Z,_,Z,dX (λ_=>?_) (λ_=>?_))
 .obtain ⟨m0,m1,m2⟩:=mn p.wo (by omega);refine(_,Z,yP.ix (i:=0) x0 (_,Z,_,Z,_,Z,yP.ix (i:=2) x2 (_,_,Z,Z,P9,_,_,Z,dG JV h63 hk0 (by decide) (by decide) m0 λd _ d0 d1=>(_,_,Z,Z,(gR 3),λt ht=>ret t (.mishap p.nm (1+d)) H2 g2 ht (keep _ ?_ (VY,by omega,by omega) rfl)))));show mR st (p.nm,1+d)=none;unfold mR;show(if p.nm∈fW st then(if 1+d<1 then _ else if(cS st p.nm).wo<1+d then _ else _) else _)=none;rw[ay hin,av (by omega),eg,av (by omega)]
 refine(_,Z,yP.ix (i:=0) x0 (_,Z,_,Z,DY JV h63 hk0 (by decide) (by decide) λw H3 w1 w2 g3=>((gR 3),λt ht=>ret t (.rise p.nm w) H3 (g2.trans g3) ht (keep _ ?_ (VY,by omega,by omega) rfl))));show um st p.nm w=none;unfold um;rw[ay hin,av (by omega)]
abbrev xQ:Stmt:=top 41
abbrev uD:Da Str:=["_law_script","_law_k","_law_model_here","_law_names"]
abbrev Py:Da Str:=uD.append ["_law_way","_law_more","_law_owner","_law_worth"]
def nR:aQ Py uD (aD xQ):=c9
theorem Oc(F:At K mg "_law_deed" xQ f fd)(bD:Dn P w K mg base 1 "_law_draw" iz (rA K))(iV:Dn P w K mg base 2 "_law_much" mK (Bu K))(qB:Dn P w K mg base 3 "_law_part_deed" mj (Gd K))(bq:mg "len"=none):Dn P w K mg base 4 "_law_deed" uD (Vq K):=by
 refine F.oA nR λ_ _ _ _ H _ Q E hr h=>?_;obtain⟨⟨a,m,ln,ns,k,nms,c,st,rfl,hS,h63,hk0,hk1,hq,hN,nx,hnl,wf,g,hc,q⟩⟩:=h;refine(_,(@cZ.h _ _ _ (ak (aV (i:=4) nR.nd (bB bD hr (af (qv 0) (af (qv 1) (af ai (af ai aj))))))
  (ak (aV (i:=5) nR.nd (CZ ud (aK (bF K) (by rfl) bq cX (af (bJ (bX hr) (qv 2) aU) aj)) (aK (bF K) (by rfl) bq cX (af (qv 3) aj)) (aZ _)))
  (ak (b_ (fm (bW.pt (uL (d_ (qv 5)) (v9 (fm (bW.pt (jd (aS ud (qv 4) ai (aZ _)) (iP (aS ud (aK (bF K) (by rfl) bq cX (af (bJ (bX hr) (qv 2) aU) aj)) ai (aZ _)))))))))) (ak (aV (i:=6) nR.nd (aB (aH K) (bJ (bX hr) (qv 2) aU) (bB bD hr (af (qv 0) (af (qv 1) (af ai (af (aK (bF K) (by rfl) bq cX (af (bJ (bX hr) (qv 2) aU) aj)) aj)))))))
  (ak (aV (i:=7) nR.nd (bB iV hr (af (qv 0) (af (qv 1) (af ai aj)))))
  (au (aX (f7 (af aU (af (aB (aH K) (qv 3) (aK (bF K) (by rfl) bq cX (af (bJ (bX hr) (qv 2) aU) aj))) (af (qv 6) (af (qv 7) (af (bB bD hr (af (qv 0) (af (qv 1) (af ai (af ai aj))))) aj)))))))))) br)
  (ak (b_ (aS dZ (aK (bF K) (by rfl) bq cX (af (bJ (bX hr) (qv 2) aU) aj)) ai (aZ _)) (au (aX (f7 (af aU aj)))) br)
  (au (aX (bB qB hr (af (qv 0) (af (qv 1) (af (qv 2) (af (qv 3) (af (qv 4) aj))))))))))))),?_)
 obtain⟨AT,lo,lp,lk,us,om,vo,vp,vk,oo,op,rw',ok⟩:=id hq;have ll:=rw'.len;have hpl:=g.pl;have eU:=wf.lR;have aiN:=g.ol;have Tn:((nms.map V.str).length:Int)=(nms.length:Int):=by rw[aG]
 have To:((st.nms.map V.str).length:Int)=(st.nms.length:Int):=by rw[aG]
 refine(_,Z,_,Z,dG hS h63 hk0 (by decide) (by decide) (by decide) λway _ v0 v1=>?_);refine(_,Z,m,_,Z,vk▸cD.k (k:=Sum.inr "known") om,lk,_,Z,.inl ok,_,Z,ln,_,Z,.inl hN,_,_,Z,Z,?_);rw[Tn,To];have orR:∀b:Bool,b=decide (way<3\/st.ah.length<2)->(tOr (CJ (AI (Bk λi j=>V.bl (decide (i<j))) (wk 4) (tC (V.int 3)))) (CJ (AI (Bk λi j=>V.bl (decide (i<j))) (Yt (λxs H Q=>∃p ys,xs=[V.ref p]/\(aC K H p ys\/cU K H p ys)/\Q (V.int ↑ys.length) H) (Sm (Ss (wk 2) (tC (V.str "parts"))) rj)) (tC (V.int 2))))) [some (.ref a),some (.int k),some (.ref m),some (.ref ln),some (.int way),some (.bl (decide ((st.nms.length:Int)<(nms.length:Int)))),none,none] H (λb' H'=>b'=b/\H'=H):=λb eb=>by
  refine(_,Z,_,_,Z,Z,_,Z,dX (λc=>(?_,Z)) (λc=>(_,Z,m,_,Z,vp▸cD.k (k:=Sum.inr "parts") om,lp,_,Z,.inl op,_,_,Z,Z,_,Z,?_,Z)))
  .rw [eb];exact(bR (.inl (eO c))).symm
  .have c':¬ way<3:=qR (lO.mpr c);rw[eb];by_cases h2:st.ah.length<2
   .rw [bR (.inr h2:way<3\/st.ah.length<2)];exact bR (by omega)
   .rw [dM (λz=>z.elim c' h2:¬ (way<3\/st.ah.length<2))];exact dM (by omega)
 by_cases hL:st.nms.length<nms.length/\(way<3\/st.ah.length<2)
 .refine (true,(_,Z,_,Z,dX (λ_=>(true,orR true (bR hL.2).symm,Z,Z)) (λc=>absurd (bR (by omega)) c)),fZ ?_);have ey:=a_ hL.1;obtain⟨y1,y2,y3⟩:=nx.next ey;generalize nms[st.nms.length]=y at *;have eyv:lz (nms.map V.str) ((st.nms.length:Nat):Int)=some (.str y):=aE (by rw[bP,ey];rfl);refine(_,Z,m,_,Z,vo▸cD.k (k:=Sum.inr "owners") om,_,Z,_,Z,_,Z,m,_,Z,vo▸cD.k (k:=Sum.inr "owners") om,lo,_,Z,.inl oo,dG hS h63 hk0 (by decide) (by decide) (by rw[aG];omega) λwd _ w0 w1=>?_);rw[aG]at w1;obtain⟨jo,o,ejo,eo,Gx⟩:=Ai (l:=st.own) (d:=wd) w0 w1;have how:=bg eo;refine(lo,_,_,_,Z,Z,oo,Gx,?_);refine(_,Z,_,Z,DY hS h63 hk0 (by decide) (by decide) λw H1 w1 w2 g1=>?_);refine(_,Z,_,Z,m,_,Z,vk▸cD.k (k:=Sum.inr "known") (g1 _ _ om),lk,_,Z,.inl (g1.seq ok),ln,_,_,_,Z,Z,g1.seq hN,by rw[aG];exact eyv,_,Z,_,Z,_,Z,_,Z,dG (g1.seq hS) h63 hk0 (by decide) (by decide) (by decide) λv _ v0 v1=>((gR 5),λt ht=>q t (.load y o w v) _ (g1.trans (aF ht _)) aq (FW y1 y2 how w1 v0,(oF y1,oF (g.on o how),(by omega,by omega),(by omega,by omega)),y3 _ rfl,by show(1:Nat)≠0;decide)))
 refine(false,(_,Z,_,Z,dX (λc=>(false,orR false (dM (λz=>hL (by have:=eO c;omega,z))).symm,Z,Z)) (λc=>(Z,Z))),aR ?_);refine(_,Z,m,_,Z,vp▸cD.k (k:=Sum.inr "parts") om,lp,_,Z,.inl op,Z,_,Z,dX (λc=>?_) (λcz=>?_))
 .exact ((gR 1),λt ht=>q t .still _ (aF ht _) aq (Z,True.intro,nx,by show(9:Nat)≠0;decide))
 have c':0<st.ah.length:=Nat.pos_of_ne_zero λz=>cz (bR (by rw[ll,z];rfl));exact(_,Z,_,Z,_,Z,_,Z,_,Z,⟨(a,m,ln,ns,k,way,nms,c,st,Z,hS,h63,hk0,hk1,hq,hN,nx,hnl,wf,g,hc,c',q)⟩)
abbrev xR:Stmt:=top 34
abbrev pJ:Da Str:=["_law_model_here","_law_amounts","_law_seat_here","_law_award"]
abbrev Pz:Da Str:=pJ.append ["_law_parts","_law_whole","_law_kept","_law_given","_law_at_here","_law_k"]
def jQ:aQ Pz pJ (aD xR):=c9
theorem Od(F:At K mg "_law_bear" xR f fd)(bq:mg "len"=none)(bZ:mg "range"=none)(fT:mg "sum"=none):Dn P w K mg base 1 "_law_bear" pJ (MR K):=by
 refine F.oA jQ λ_ _ _ _ H _ Q E hr h=>?_;obtain⟨⟨n,ρ,B,b,l,as,seat,aw,rfl,G,h,wf,hl,cl,ok,q⟩⟩:=h;refine(_,(@cZ.h _ _ _ (ak (aV (i:=4) jQ.nd (bJ (bX hr) (qv 0) aU))
  (ak (aV (i:=5) jQ.nd (aK (kh K rfl) (by rfl) fT wg (af (gM ["_law_part"] [none] rfl (dI K (qv 4)) (λ_ _ _ _=>(aW (i:=0) (show List.Nodup (["_law_part"] :Da Str)from by decide +kernel))) (λ_ _ _ _=>(aB (aH K) (qv 0) ai)) rfl (by rfl)) aj)))
  (ak (aV (i:=6) jQ.nd (aL j_ (aL j_ (qv 5) (qv 3)) (aK (kh K rfl) (by rfl) fT wg (af (qv 1) aj))))
  (ak (aV (i:=7) jQ.nd (ia aj))
  (ak (fk fQ rfl (f_ (by rfl) bZ (af (aK (bF K) (by rfl) bq cX (af (bJ (bX hr) (qv 0) aU) aj)) aj)) (aW (i:=8) jQ.nd) (au (cu (lX qb p_ qa fh (qv 7) (af (aK (kh K rfl) (by rfl) fT wg (af (gM ["_law_k","_law_parts","_law_at_here","_law_amounts"] [none,some 4,some 8,some 1] rfl (f_ (by rfl) bZ (af (aK (bF K) (by rfl) bq cX (af (qv 4) aj)) aj)) (λ_ _ _ _=>(aW (i:=0) (show List.Nodup (["_law_k","_law_parts","_law_at_here","_law_amounts"] :Da Str)from by decide +kernel))) (λ_ _ _ _=>(aL gJ (aB (aH K) (aB (aH K) (aB (aH K) (qv 1) (qv 0)) ai) (qv 2)) (aB (aH K) (qv 3) (qv 0)))) rfl (by rfl)) aj)) aj)))))
  (ak (jk (aS jS (qv 3) ai (aZ _)) (au (jl (aL cV (aB (aH K) (qv 7) (qv 2)) (aL gJ (qv 3) (bJ (bX hr) (qv 0) aU))) (jm (qv 7) (qv 2) set_list))) br)
  (ak (fk fQ rfl (f_ (by rfl) bZ (af (aK (bF K) (by rfl) bq cX (af (qv 4) aj)) aj)) (aW (i:=9) jQ.nd) (ak (jl (gM ["_law_at_here","_law_parts","_law_k","_law_kept","_law_given"] [none,some 4,some 9,some 6,some 7] rfl (f_ (by rfl) bZ (af (aK (bF K) (by rfl) bq cX (af (qv 7) aj)) aj)) (λ_ _ _ _=>(aW (i:=0) (show List.Nodup (["_law_at_here","_law_parts","_law_k","_law_kept","_law_given"] :Da Str)from by decide +kernel))) (λ_ _ _ _=>(aL cV (aL gJ (aB (aH K) (aB (aH K) (aB (aH K) (qv 1) (qv 2)) ai) (qv 0)) (qv 3)) (aB (aH K) (qv 4) (qv 0)))) rfl (by rfl)) (jm (aB (aH K) (qv 4) (qv 9)) ai set_list))
  (au (jl (aL j_ (aB (aH K) (aB (aH K) (qv 4) (qv 9)) ai) (aB (aH K) (qv 1) (qv 9))) (jm (aB (aH K) (qv 4) (qv 9)) ai set_list)))))
  (ak (qM (bX hr) (qv 0) aU (aL gJ (bJ (bX hr) (qv 0) aU) (qv 5)) rfl)
  (au (qM (bX hr) (qv 0) aU (Ed ["_law_part"] [none] rfl (dI K (qv 4)) (λ_ _ _ _=>(aW (i:=0) (show List.Nodup (["_law_part"] :Da Str)from by decide +kernel))) (λ_ _ _ _=>(qv 0)) (λ_ _ _ _=>(aS jS (aB (aH K) (qv 0) ai) ai (aZ _))) rfl (by rfl)) rfl))))))))))),?_)
 have pl:=wf.pl;have xK:(B.qs.map λq=>V.ref q.1).length=b.ah.length:=by rw[aG];exact h.ql
 refine(_,Z,B.m,_,Z,cD.k (k:=Sum.inr "parts") h.om,?_);refine(_,Z,B.lp,Z,(_,aC.of h.op),λl0 gH=>?_);refine iD (J:=wC K B.lp) (n:=b.ah.length) 0 (λi o H'=>aM H H'/\o=((b.ah.take i).map (λp:BP=>p.wo)).map V.int) (by omega) (aF gH _,Z) (λi o H' hi _ hp=>(_,_,aC.of (hp.1 _ _ h.op),a_ (xK▸hi))) (λo H' _ hp=>(_,aC.of (hp.1 _ _ h.op),xK▸aO _)) ?_ ?_
 .rintro i y o H2 H3 hi eU ha ⟨g,e⟩ ⟨rfl,hy⟩;have ei:=a_ hi;obtain⟨qq,eq,k1,k2,_,_⟩:=h.find ei;have ey:=hy _ (aC.of (g _ _ h.op));rw[bP,eq]at ey;cases ey;refine(_,Z,qq.1,_,_,_,Z,Z,aC.of (g _ _ k1),aE (j:=2) rfl,ha,g.cJ gH _,?_);subst e;rw[take_snoc ei,bQ,bQ];rfl
 rintro o1 H1 _ ha ⟨g1,e⟩;rw[cQ]at e;subst e;refine(l0,b.ah.map (λp:BP=>p.wo),Z,aC.of ha,?_);show i9 5 (.int (bV b)) _ _ _;refine(_,Z,_,Z,_,_,Z,Z,_,Z,l,as,Z,g1.seq hl,_,_,Z,Z,?_);show i9 6 (.int (bV b-aw-as.sum)) _ _ _;generalize ekp:bV b-aw-as.sum=kept at *;have hkp:0<kept:=ekp▸ok.kept;have zw:=ok.big;have as0:0<=as.sum:=by
  cases has:as with
  | nil=>exact eZ _
  | cons a l=>exact CF (ok.a0 a (has▸cO)) (by rw[<-has];exact yq ok.a0 (has▸cO))
 have zk:Jm.Sz 60 kept:=zw.of_le (by have:=ok.FJ;omega);have za:∀a∈as,Jm.Sz 60 a:=λa hm=>zw.of_le (by have:=ok.a0 a hm;have:=yq ok.a0 hm;have:=ok.FJ;omega);have zaw:Jm.Sz 60 aw:=zw.of_le (by have:=ok.FJ;omega);have zt:∀p∈b.ah,∀t∈p.tops,Jm.Sz 7000 t:=λp hp t ht=>Jm.Sz.mw (by have:=wf.t0 p hp t ht;have:=wf.b1;omega) (wf.t0 p hp t ht).2 wf.bz;have h1:=h.mono g1;have hl1:=g1.seq hl;refine((gR 0),λgv hgv=>?_);have g2:=aF hgv (.lst []);have YH:upd H1 gv (.lst []) gv=some (.lst []):=aq;have X_:H gv=none:=g1.free hgv;have VL:=g1.trans g2;show wu _ _ _ _ (upd H1 gv (.lst []));generalize upd H1 gv (.lst [])=H2 at *;have h2:=h.mono VL;have ol:=wf.ol;have oml:(b.own.map V.str).length=b.own.length:=aG _;refine(_,Z,B.m,_,Z,cD.k (k:=Sum.inr "owners") h2.om,B.lo,_,Z,.inl (aC.of h2.oo),_,Z,by omega,by omega,?_);refine iJ (lo:=0) (n:=(((b.own.map V.str).length:Nat):Int).toNat) (λi σ H'=>aM H H'/\H' gv=some (.lst (((List.range i).map (iR b.ah as)).map V.int))/\∃s8,σ=[some (.ref B.m),some (.ref l),some (.int (seat:Int)),some (.int aw),some (.ref B.lp),some (.int (bV b)),some (.int kept),some (.ref gv),s8,none])
  (VL,YH,_,Z) ?_ ?_
 .rintro i σ H3 hi ⟨g3,Gy,s8,rfl⟩;have e0:(0:Int)+(i:Int)=((i:Nat):Int):=by omega
  rw[e0];have hio:i<b.own.length:=by omega
  refine(_,Z,.inl (Z,_,aC.of Gy),_,Z,B.lp,_,Z,.inl (aC.of (g3 _ _ h.op)),_,Z,by omega,by omega,λc hc=>?_);refine iD (J:=LR 0 _) (n:=b.ah.length) 0 (λj o H'=>aM H3 H'/\o=(List.zipWith (λ(p:BP)(a:Int)=>p.tops.getD i 0*a) (b.ah.take j) (as.take j)).map V.int) (by omega) (aF hc _,Z) (λj o H' hj _ _=>by show j<(((B.qs.map λq=>V.ref q.1).length:Nat):Int).toNat;omega) (λo H' _ _=>by show(((B.qs.map λq=>V.ref q.1).length:Nat):Int).toNat<=b.ah.length;omega) ?_ ?_
  .rintro j x o H4 H5 hj eU VN ⟨g4,e4⟩ ⟨rfl,rfl⟩;have e0:(0:Int)+(j:Int)=((j:Nat):Int):=by omega
   rw[e0];have ej:=a_ hj;have hja:j<as.length:=ok.len▸hj;have ea:=a_ hja;obtain⟨qq,eq,k1,k2,_,_⟩:=h.find ej;have gg:=g3.trans g4;have hti:i<(b.ah[j]).tops.length:=wf.tl _ (bg ej)▸hio;have et:=a_ hti;have eD:(b.ah[j]).tops.getD i 0=(b.ah[j]).tops[i] :=by rw[dQ,et];rfl
   refine(_,Z,_,Z,B.lp,_,_,_,Z,Z,aC.of (gg _ _ h.op),aE (by rw[bP,eq];rfl),qq.1,_,_,_,Z,Z,aC.of (gg _ _ k1),aE (j:=4) rfl,_,Z,qq.2,_,_,_,Z,Z,aC.of (gg _ _ k2),aE (by rw[bP,et];rfl),?_);refine(_,Z,_,Z,l,_,_,_,Z,Z,gg.seq hl,aE (by rw[bP,ea];rfl),_,_,Z,Z,gi (zt _ (bg ej) _ (bg et)) (za _ (bg ea)),VN,g4.cJ hc _,?_);rw[MS ej ea,e4,bQ,eD];rfl
  rintro o H4 _ VN ⟨g4,e4⟩;have e5:List.zipWith (λ(p:BP)(a:Int)=>p.tops.getD i 0*a) (b.ah.take b.ah.length) (as.take b.ah.length)=List.zipWith (λ(p:BP)(a:Int)=>p.tops.getD i 0*a) b.ah as:=by rw[cQ,<-ok.len,cQ]
  rw[e5]at e4;subst e4;refine(c,_,Z,aC.of VN,gv,_,_,Z,Z,g4 _ _ Gy,by rw[aG,aG,Hl];exact dO (by omega),(g3.trans g4).cJ X_ _,?_,_,Z);rw[aq,List.range_succ,bQ,bQ];rfl
 rintro σ H3 ⟨g3,Gy,s8,rfl⟩;rw[show(((b.own.map V.str).length:Nat):Int).toNat=b.own.length from by omega]at Gy;have Gy:H3 gv=some (.lst ((gQ b as).map V.int)):=Gy;have h3:=h.mono g3;have gl:=lU b as;refine(λσ H'=>aM H H'/\H' gv=some (.lst ((iE b as seat aw).map V.int))/\σ=[some (.ref B.m),some (.ref l),some (.int (seat:Int)),some (.int aw),some (.ref B.lp),some (.int (bV b)),some (.int kept),some (.ref gv),s8,none],?_,?_)
 .refine (_,Z,_,_,Z,Z,_,Z,dX (λc=>?_) (λc=>?_))
  .have c':0<aw:=eO c;have hsl:seat<(gQ b as).length:=gl▸ok.seat
   have es:=a_ hsl;have eD:(gQ b as).getD seat 0=(gQ b as)[seat] :=by rw[dQ,es];rfl
   refine(_,Z,_,Z,gv,_,_,_,Z,Z,aC.of Gy,aE (by rw[bP,es];rfl),_,Z,_,Z,B.m,_,Z,cD.k (k:=Sum.inr "bottom") h3.om,_,_,Z,Z,gi zaw wf.bz,_,_,Z,Z,_,Z,_,Z,gv,_,_,_,Z,Z,Gy,by rw[aG];exact mH hsl,g3.cJ X_ _,?_,Z);rw[aq];unfold iE;rw[ay c',kU,eD]
  .have c':¬ 0<aw:=qR (lO.mpr c);refine(g3,?_,Z);unfold iE;rw[av c'];exact Gy
 rintro σ H4 ⟨g4,hg4,rfl⟩;have gvl:=wR b as seat aw;generalize egv:iE b as seat aw=given at *;have h4:=h.mono g4;have gmn:(given.map V.int).length=b.own.length:=by rw[aG];exact gvl
 have cgv:ρ gv=none:=G.none X_;have bl:(dY b as seat aw).length=b.ah.length:=yp ok.len;refine(_,Z,B.lp,_,Z,.inl (aC.of h4.op),_,Z,by omega,by omega,?_);refine iJ (lo:=0) (n:=(((B.qs.map λq=>V.ref q.1).length:Nat):Int).toNat) (λi σ H'=>∃ρ' B' s8 s9,σ=[some (.ref B.m),some (.ref l),some (.int (seat:Int)),some (.int aw),some (.ref B.lp),some (.int (bV b)),some (.int kept),some (.ref gv),s8,s9]/\Gh ρ' H'/\bf n ρ' B' H' { b with ah:=(dY b as seat aw).take i++b.ah.drop i }/\B'.m=B.m/\B'.lp=B.lp/\Fr n ρ H ρ' H'/\H' gv=some (.lst (given.map V.int))/\ρ' gv=none)
  (ρ,B,_,_,Z,G.same g4,h4,Z,Z,Fr.of_same g4,hg4,cgv) ?_ ?_
 .rintro i σ H5 hi ⟨ρ5,B5,s8,s9,rfl,G5,h5,DO,DL,F5,RK,cg5⟩;have e0:(0:Int)+(i:Int)=((i:Nat):Int):=by omega
  rw[e0];have AV:i<b.ah.length:=by omega
  have ei:=a_ AV;have fc:=bg ei;have hia:i<as.length:=ok.len▸AV;have ea:=a_ hia;have em:((dY b as seat aw).take i++b.ah.drop i)[i]?=some b.ah[i] :=aaa (by omega) ei;have ebp:=Xm (seat:=seat) (aw:=aw) ei ea;rw[egv,ekp]at ebp;have YT:=wf.tl _ fc;have dS:=zt _ fc;generalize b.ah[i]=p at *;have hza:=za _ (bg ea);generalize as[i]=a at *;obtain⟨qq,eq,k1,k2,c1,c2⟩:=h5.find em;have op5:H5 B.lp=some (.lst (B5.qs.map λq=>V.ref q.1)):=DL▸h5.op;have RL:(B5.qs.map λq=>V.ref q.1)[i]?=some (.ref qq.1):=by rw[bP,eq];rfl
  refine(_,Z,gv,_,Z,.inl (aC.of RK),_,Z,by omega,by omega,λt1 ht1=>?_);refine iD (J:=LR 0 _) (n:=b.own.length) 0 (λj o H'=>aM H5 H'/\o=(List.zipWith (λt g=>t*kept+g) (p.tops.take j) (given.take j)).map V.int) (by omega) (aF ht1 _,Z) (λj o H' hj _ _=>by show j<(((given.map V.int).length:Nat):Int).toNat;omega) (λo H' _ _=>by show(((given.map V.int).length:Nat):Int).toNat<=b.own.length;omega) ?_ ?_
  .rintro j x o H6 H7 hj eU zK ⟨g6,e6⟩ ⟨rfl,rfl⟩;have e0:(0:Int)+(j:Int)=((j:Nat):Int):=by omega
   rw[e0];have et:=a_ (show j<p.tops.length by rw[YT];exact hj);have eg:=a_ (show j<given.length by rw[gvl];exact hj);refine(_,Z,_,Z,B.lp,_,_,_,Z,Z,aC.of (g6 _ _ op5),aE RL,qq.1,_,_,_,Z,Z,aC.of (g6 _ _ k1),aE (j:=4) rfl,_,Z,qq.2,_,_,_,Z,Z,aC.of (g6 _ _ k2),aE (by rw[bP,et];rfl),?_);refine(_,Z,_,_,Z,Z,gi (dS _ (bg et)) zk,_,Z,_,Z,gv,_,_,_,Z,Z,aC.of (g6 _ _ RK),aE (by rw[bP,eg];rfl),_,_,Z,Z,zK,g6.cJ ht1 _,?_);rw[nv _ et eg,e6,bQ];rfl
  rintro o H6 _ zK ⟨g6,e6⟩;rw[show p.tops.take b.own.length=p.tops from YT▸cQ,show given.take b.own.length=given from gvl▸cQ]at e6;subst e6;have h6:=h5.mono g6;have G6:=G5.same g6;have ct1:ρ5 t1=none:=G5.none ht1;have h7:bf n (b7 ρ5 t1 (n,24,p.nm)) B5 H6 { b with ah:=(dY b as seat aw).take i++b.ah.drop i }:=h6.col ct1;have G7:Gh (b7 ρ5 t1 (n,24,p.nm)) H6:=G6.color zK rfl;have F7:Fr n ρ H (b7 ρ5 t1 (n,24,p.nm)) H6:=F5.trans (Fr.color ht1 g6);have ct:b7 ρ5 t1 (n,24,p.nm) t1=some (n,24,p.nm):=c6;have cg7:b7 ρ5 t1 (n,24,p.nm) gv=none:=by rw[cg (λz=>by rw[z]at RK;rw[RK]at ht1;cases ht1)];exact cg5
  have hg6:=g6 _ _ RK;have op6:=g6 _ _ op5;have k16:=g6 _ _ k1;have VZ:b7 ρ5 t1 (n,24,p.nm) qq.1=some (n,23,p.nm):=cg (aJ k1 ht1)▸c1;generalize b7 ρ5 t1 (n,24,p.nm)=ρ7 at *;have ndm:(((dY b as seat aw).take i++b.ah.drop i).map (λp:BP=>p.nm)).Nodup:=by rw[U8 ok.len];exact wf.nd
  have nqg:gv≠qq.1:=λz=>by rw[z,VZ]at cg7;cases cg7
  generalize eT:List.zipWith (λt g=>t*kept+g) p.tops given=T at *;refine(_,Z,_,Z,B.lp,_,_,_,Z,Z,aC.of op6,aE RL,qq.1,_,_,4,Z,Z,k16,Z,?_);have h8:=h7.mC G7 (p1:={ p with tops:=T }) (t1:=t1) em eq rfl ndm zK ct;have G8:=G7.wr (a:=qq.1) (o:=jy { p with tops:=T } t1) rfl;have F8:=F7.trans (Fr.write (o:=jy { p with tops:=T } t1) VZ);have k18:upd H6 qq.1 (jy { p with tops:=T } t1) qq.1=some (jy { p with tops:=T } t1):=aq;have hg8:upd H6 qq.1 (jy { p with tops:=T } t1) gv=some (.lst (given.map V.int)):=aA nqg▸hg6;have nlp:B.lp≠qq.1:=λz=>by have:=h7.cp;rw[DL,z,VZ]at this;cases this
  have op8:upd H6 qq.1 (jy { p with tops:=T } t1) B.lp=some (.lst (B5.qs.map λq=>V.ref q.1)):=aA nlp▸op6;have ntq:t1≠qq.1:=λz=>by rw[z,VZ]at ct;cases ct
  have ht8:upd H6 qq.1 (jy { p with tops:=T } t1) t1=some (.lst (T.map V.int)):=aA ntq▸zK;generalize hH8:upd H6 qq.1 (HO.lst _)=H8;have aee:upd H6 qq.1 (jy { p with tops:=T } t1)=H8:=hH8;rw[aee]at h8 G8 F8 k18 hg8 op8 ht8;clear hH8 aee;refine(_,Z,_,Z,B.lp,_,_,_,Z,Z,aC.of op8,aE RL,qq.1,_,_,_,Z,Z,aC.of k18,aE (j:=2) rfl,?_);refine(_,Z,_,Z,l,_,_,_,Z,Z,F8.seq hl cl,aE (by rw[bP,ea];rfl),_,_,Z,Z,?_);refine(_,Z,_,Z,B.lp,_,_,_,Z,Z,aC.of op8,aE RL,qq.1,_,_,2,Z,Z,k18,Z,?_);have hiq:i<B5.qs.length:=(c_.mp eq).1;have him:i<((dY b as seat aw).take i++b.ah.drop i).length:=(c_.mp em).1;have h9:=h8.mC G8 (i:=i) (p0:={ p with tops:=T }) (p1:=nC given kept p a) (q0:=(qq.1,t1)) (t1:=t1) (kJ him) (kJ hiq) rfl (by show((((dY b as seat aw).take i++b.ah.drop i).set i { p with tops:=T }).map (λp:BP=>p.nm)).Nodup;rw[kU,ny (by rw[bP,em];rfl)];exact ndm) (by show H8 t1=some (.lst ((List.zipWith (λt g=>t*kept+g) p.tops given).map V.int));rw[eT];exact ht8) ct
  have e9:(((dY b as seat aw).take i++b.ah.drop i).set i { p with tops:=T }).set i (nC given kept p a)=(dY b as seat aw).take (i+1)++b.ah.drop (i+1):=by rw[qV];exact aab ebp AV
  have h9':bf n ρ7 { B5 with qs:=(B5.qs.set i (qq.1,t1)).set i (qq.1,t1) } (upd H8 qq.1 (jy (nC given kept p a) t1)) { b with ah:=(((dY b as seat aw).take i++b.ah.drop i).set i { p with tops:=T }).set i (nC given kept p a) }:=h9;rw[e9]at h9';exact(ρ7,{ B5 with qs:=(B5.qs.set i (qq.1,t1)).set i (qq.1,t1) },_,_,Z,G8.wr rfl,h9',DO,DL,F8.trans (Fr.write VZ),aA nqg▸hg8,cg7)
 rintro σ H5 ⟨ρ5,B5,s8,s9,rfl,G5,h5,DO,DL,F5,RK,cg5⟩;rw[show(((B.qs.map λq=>V.ref q.1).length:Nat):Int).toNat=b.ah.length from by omega,show(dY b as seat aw).take b.ah.length=dY b as seat aw from bl▸cQ,Lc,x6]at h5;obtain⟨m5,RM,lp5,RN,RO,RP⟩:=B5;have DO:m5=B.m:=DO;have DL:lp5=B.lp:=DL;subst DO DL;refine(_,Z,B.m,_,Z,cD.k (k:=Sum.inr "bottom") h5.om,_,Z,_,_,Z,Z,gi wf.bz zw,_,Z,B.m,_,Z,uY.k (k:=Sum.inr "bottom") h5.om (by show 5<sizeLine;decide),?_);rw[U9];have h6:=h5.Z8 G5 (b.bot*bV b);have G6:=G5.wr (a:=B.m) (o:=.dK (fu (B.m,RM,B.lp,RN,RO,RP) (b.bot*bV b))) rfl;have F6:=F5.trans (Fr.write (o:=.dK (fu (B.m,RM,B.lp,RN,RO,RP) (b.bot*bV b))) h5.cm);generalize hH6:upd H5 B.m (HO.dK _)=H6;have aeg:upd H5 B.m (.dK (fu (B.m,RM,B.lp,RN,RO,RP) (b.bot*bV b)))=H6:=hH6;have h6:bf n ρ5 (B.m,RM,B.lp,RN,RO,RP) (upd H5 B.m (.dK (fu (B.m,RM,B.lp,RN,RO,RP) (b.bot*bV b)))) { b with ah:=dY b as seat aw,bot:=b.bot*bV b }:=h6;rw[aeg]at h6 G6 F6;clear hH6 aeg;refine(_,Z,B.lp,Z,(_,aC.of h6.op),λlp wZ=>VA (B:=(B.m,RM,B.lp,RN,RO,RP)) h6 G6 (by show(dY b as seat aw).length<=1000;omega) wZ λρ8 H7 Y_ G9 h9 F9=>?_);exact(_,Z,B.m,_,Z,uY.k (k:=Sum.inr "parts") Y_ (by show 5<sizeLine;decide),q _ _ _ G9 h9 rfl (F6.trans F9))
abbrev nT:Stmt:=top 35
abbrev kZ:Da Str:=["_law_model_here","_law_rows_here"]
abbrev Di:Da Str:=kZ.append ["_law_amounts","_law_name_here","_law_amount"]
def kH:aQ Di kZ (aD nT):=c9
theorem Cu(F:At K mg "_law_model_cast" nT f fd)(uR:Dn P w K mg base 1 "_law_at" uQ (YJ K))(mO:Dn P w K mg base 1 "_law_bear" pJ (MR K)):Dn P w K mg base 2 "_law_model_cast" kZ (Rh K):=by
 refine F.oA kH λ_ _ _ _ H _ Q E hr h=>?_;obtain⟨⟨n,ρ,B,b,l,us,rs,rfl,G,h,wf,hl,hR,cl,rb,hle,bo,q⟩⟩:=h;refine(_,(@cZ.h _ _ _ (ak (qL (i:=2) ["_law_part"] [none] kH.nd rfl rfl rfl (dI K (bJ (bX hr) (qv 0) aU)) (λ_ _ _ _=>(aW (i:=0) (show List.Nodup (["_law_part"] :Da Str)from by decide +kernel))) (λ_ _ _ _=>ai) rfl (by rfl) (by rfl))
  (ak (fk fQ rfl (dI K (qv 1)) (je K (n:=2) rfl (cT (aW (i:=3) kH.nd) (cT (aW (i:=4) kH.nd) jc))) (au (jl (qv 4) (jm (qv 2) (bB uR hr (af (bJ (bX hr) (qv 0) aU) (af (qv 3) aj))) set_list))))
  (au (cu (bB mO hr (af (qv 0) (af (qv 2) (af ai (af ai aj)))))))))),?_)
 have pl:=wf.pl;have xK:(B.qs.map λq=>V.ref q.1).length=b.ah.length:=by rw[aG];exact h.ql
 refine(_,Z,B.m,_,Z,cD.k (k:=Sum.inr "parts") h.om,B.lp,Z,(_,aC.of h.op),λl0 gH=>?_);refine iD (J:=wC K B.lp) (n:=b.ah.length) 0 (λi o H'=>aM H H'/\o=((b.ah.take i).map λ_=>(0:Int)).map V.int) (by omega) (aF gH _,Z) (λi o H' hi _ hp=>(_,_,aC.of (hp.1 _ _ h.op),a_ (xK▸hi))) (λo H' _ hp=>(_,aC.of (hp.1 _ _ h.op),xK▸aO _)) ?_ ?_
 .rintro i y o H2 H3 hi eU ha ⟨g,e⟩ ⟨rfl,hy⟩;refine(ha,g.cJ gH _,?_);subst e;rw[take_snoc (a_ hi),bQ,bQ];rfl
 rintro o1 H1 _ ha ⟨g1,e⟩;rw[cQ]at e;subst e;have NB:=hR.length;refine(_,Z,l,Z,(us,g1.seq hl),?_);refine lQ (K:=K) (xs:=us) (λi σ H'=>aM H H'/\H' l0=some (.lst ((di b (rs.take i)).map V.int))/\∃s3 s4,σ=[some (.ref B.m),some (.ref l),some (.ref l0),s3,s4]) (g1,ha,_,_,Z) (λi σ H' _ hp=>hp.1.seq hl) ?_ ?_
 .rintro i x σ H2 hx ⟨g2,ha2,s3,s4,rfl⟩;obtain⟨a,r,rfl,er,har⟩:=hR.get hx;obtain⟨r1,j,p,hp,e,le⟩:=rb.row r (bg er);have hj:=(c_.mp hp).1;have hn:r.1∉(rs.take i).map (λr:Row=>r.1):=by rw[zV];exact lE rb.nd (by rw[bP,er];rfl)
  obtain⟨s1,s2⟩:=FN wf.nd hp e hn;have h2:=h.mono g2;refine(a,_,Z,cU.of (g2 _ _ har),Z,_,_,Z,_,_,Z,Z,?_);refine(_,Z,_,Z,_,Z,B.m,_,Z,cD.k (k:=Sum.inr "parts") h2.om,_,Z,⟨(B.lp,_,vI b,j,(p.nm,p.wo),by rw[<-e];rfl,aC.of h2.op,h2.nw,?_,by unfold vI;rw[aG];exact pl,by unfold vI;rw[bP,hp];rfl,?_)⟩)
  .unfold vI;rw[fH];exact wf.nd
  .refine (l0,_,_,j,Z,Z,ha2,by rw[aG,BR];exact mH hj,g2.cJ gH _,?_,_,_,Z);rw[aq,take_snoc er,s1,kU]
 rintro σ H2 ⟨g2,ha2,s3,s4,rfl⟩;rw[NB,cQ]at ha2;refine(_,Z,_,Z,⟨(n,ρ,B,b,l0,di b rs,0,0,Z,G.same g2,h.mono g2,wf,aC.of ha2,G.none gH,bo,λρ' B' H' a1 a2 a3 a4=>q ρ' B' H' a1 a2 a3 ((Fr.of_same g2).trans a4))⟩)
abbrev pe:Stmt:=top 36
abbrev mq:Da Str:=["_law_model_here","_law_deed_here"]
abbrev Ez:Da Str:=mq.append ["_law_at_here","_law_part","_law_old","_law_new","_law_moved"]
def iI:aQ Ez mq (aD pe):=c9
theorem Dj(F:At K mg "_law_model_one" pe f fd)(uR:Dn P w K mg base 1 "_law_at" uQ (F0 K))(fK:Dn P w K mg base 1 "_law_seat" kO (BQ K))(dJ:mg "list"=none):Dn P w K mg base 4 "_law_model_one" mq (uM AlO K):=by
 refine F.oA iI λ_ _ _ _ H _ Q E hr h=>?_;obtain⟨⟨n,c,ρ,B,b,st,z,d,rfl,hz,G,hb,gd,hc,wf,al,db,hr0,q⟩⟩:=h;refine(_,(@cZ.h _ _ _ (ak (aV (i:=2) iI.nd (bB uR hr (af (bJ (bX hr) (qv 0) aU) (af (aB (aP K) (qv 1) ai) aj))))
  (ak (aV (i:=3) iI.nd (aB (aH K) (bJ (bX hr) (qv 0) aU) (qv 2)))
  (ak (jk (aS dZ (aB (aP K) (qv 1) ai) aU (aZ _)) (au (jl (aL j_ (aB (aH K) (qv 3) ai) (aB (aP K) (qv 1) ai)) (jm (qv 3) ai set_list))) (au (jk (aS dZ (aB (aP K) (qv 1) ai) aU (aZ _)) (au (jl (aL cV (aB (aH K) (qv 3) ai) (aB (aP K) (qv 1) ai)) (jm (qv 3) ai set_list))) (au (jk (aS dZ (aB (aP K) (qv 1) ai) aU (aZ _)) (ak (aV (i:=4) iI.nd (bB fK hr (af (bJ (bX hr) (qv 0) aU) (af (aB (aH K) (qv 3) ai) aj))))
  (ak (aV (i:=5) iI.nd (bB fK hr (af (bJ (bX hr) (qv 0) aU) (af (aB (aP K) (qv 1) ai) aj))))
  (ak (aV (i:=6) iI.nd (aB (aH K) (aB (aH K) (qv 3) ai) (qv 4)))
  (ak (jl ai (jm (aB (aH K) (qv 3) ai) (qv 4) set_list))
  (ak (jl (aL cV (aB (aH K) (aB (aH K) (qv 3) ai) (qv 5)) (qv 6)) (jm (aB (aH K) (qv 3) ai) (qv 5) set_list))
  (au (jl (aB (aP K) (qv 1) ai) (jm (qv 3) ai set_list)))))))) (au (jk (aS dZ (aB (aP K) (qv 1) ai) aU (aZ _)) (ak (jl (aL j_ (aB (aH K) (qv 3) ai) (aB (aP K) (qv 1) ai)) (jm (qv 3) ai set_list))
  (ak (jl (aL j_ (aB (aH K) (qv 3) ai) (aB (aP K) (qv 1) ai)) (jm (qv 3) ai set_list))
  (ak (cu (lX qb p_ qa fh (bJ (bX hr) (qv 0) aU) (af (ia (af (aB (aP K) (qv 1) ai) (af (aB (aH K) (qv 3) ai) (af (aB (aP K) (qv 1) ai) (af (aB (aP K) (qv 1) ai) (af (kC (mz K) (by rfl) dJ wc (af (aB (aH K) (qv 3) ai) aj)) aj)))))) aj)))
  (au (cu (lX qb p_ qa fh (bJ (bX hr) (qv 0) aU) (af (aB (aP K) (qv 1) ai) aj))))))) (au (jk (aS dZ (aB (aP K) (qv 1) ai) aU (aZ _)) (ak (cu (lX qb p_ qa fh (bJ (bX hr) (qv 0) aU) (af (ia (af (aB (aH K) (qv 3) ai) (af (aB (aH K) (qv 3) ai) (af (aB (aH K) (qv 3) ai) (af (kC (mz K) (by rfl) dJ wc (af (aB (aH K) (qv 3) ai) aj)) (af (bJ (bX hr) (qv 0) aU) aj)))))) aj)))
  (au (jl ai (jm (qv 3) ai set_list)))) br)))))))))
  (au (qM (bX hr) (qv 0) aU (Ed ["_law_one"] [none] rfl (dI K (bJ (bX hr) (qv 0) aU)) (λ_ _ _ _=>(aW (i:=0) (show List.Nodup (["_law_one"] :Da Str)from by decide +kernel))) (λ_ _ _ _=>(qv 0)) (λ_ _ _ _=>(aS jS (aB (aH K) (qv 0) ai) ai (aZ _))) rfl (by rfl)) rfl)))))),?_)
 have rl:=gd.rel;have wb:=gd.fD;have dS:cU K H z (Dd.v d):=cU.of hz;obtain⟨x,e1,hm⟩:∃x,lz (Dd.v d) 1=some (.str x)/\x∈fW st:=by
  have a1:=al.one;cases d with
  | mishap x a=>exact(x,aE (j:=1) rfl,(qo (r:=(Prod.mk (x) (a))) hr0).1)
  | rise x a=>exact(x,aE (j:=1) rfl,(B7 hr0).1)
  | hand x o=>exact(x,aE (j:=1) rfl,(uN hr0).1)
  | land x=>exact(x,aE (j:=1) rfl,qO hr0)
  | sever x y a we=>exact(x,aE (j:=1) rfl,(lZ hr0).1)
  | _=>exact a1.elim
 refine(_,Z,B.m,_,Z,cD.k (k:=Sum.inr "parts") hb.om,_,Z,z,_,_,_,Z,Z,dS,e1,aap hb rl wf wb (λi p q' k1 k2 k3 k4 k5 k6 k7 k8 _=>?_) λhn=>absurd hm hn);obtain⟨qq,nD,r1,r2,c1,c2⟩:=hb.find k2;have RL:lz (B.qs.map λq=>V.ref q.1) (i:Int)=some (.ref qq.1):=aE (by rw[bP,nD];rfl);refine(_,Z,B.m,_,Z,cD.k (k:=Sum.inr "parts") hb.om,_,Z,B.lp,_,_,_,Z,Z,aC.of hb.op,RL,?_);have bl:b.ah.length<50:=gd.rel.len▸al.pl;have kl:b.eF.length<900:=gd.eF▸al.kl;have V0:∀y:BP,(b.ah.set i y).length<=1000:=λy=>by rw[fF];omega
 have hi:i<b.ah.length:=(c_.mp k2).1;have hiq:i<B.qs.length:=(c_.mp nD).1;refine⟨λσ' H'=>∃ρ5 B5 bb s4 s5 s6,σ'=[some (.ref B.m),some (.ref z),some (.int (i:Int)),some (.ref qq.1),s4,s5,s6]/\uo b d={ bb with ah:=bb.ah.filter λp=>decide (0<p.wo) }/\bb.ah.length<=1000/\Gh ρ5 H'/\bf n ρ5 B5 H' bb/\B5.m=B.m/\Fr n ρ H ρ5 H',?_,?_⟩
 .cases d with
  | mishap x' a=>cases e1.symm.trans (show lz (Dd.v (.mishap x' a)) 1=some (.str x')from aE (j:=1) rfl);refine sU dS rfl rfl (fZ ?_);have W:=hb.Vz G k2 nD wb.nd hz { q' with wo:=q'.wo-a } rfl rfl;exact(_,Z,qq.1,_,_,_,Z,Z,aC.of r1,aE (j:=2) rfl,_,Z,z,_,_,_,Z,Z,dS,aE (j:=2) rfl,_,_,Z,Z,_,Z,qq.1,_,_,2,Z,Z,r1,Z,ρ,_,_,_,_,_,Z,Ls (F:=λp=>{ p with wo:=p.wo-a }) k2 k4 wb.nd,V0 _,W.g,W.hb,Z,W.f)
  | rise x' a=>cases e1.symm.trans (show lz (Dd.v (.rise x' a)) 1=some (.str x')from aE (j:=1) rfl);refine cW dS rfl (by decide) rfl (aR ?_);refine(_,?_,λ_ _ y=>y);refine sU dS rfl rfl (fZ ?_);have W:=hb.Vz G k2 nD wb.nd hz { q' with wo:=q'.wo+a } rfl rfl;exact(_,Z,qq.1,_,_,_,Z,Z,aC.of r1,aE (j:=2) rfl,_,Z,z,_,_,_,Z,Z,dS,aE (j:=2) rfl,_,_,Z,Z,_,Z,qq.1,_,_,2,Z,Z,r1,Z,ρ,_,_,_,_,_,Z,Ls (F:=λp=>{ p with wo:=p.wo+a }) k2 k4 wb.nd,V0 _,W.g,W.hb,Z,W.f)
  | hand x' o=>
   cases e1.symm.trans (show lz (Dd.v (.hand x' o)) 1=some (.str x')from aE (j:=1) rfl);refine cW dS rfl (by decide) rfl (aR ?_);refine(_,?_,λ_ _ y=>y);refine cW dS rfl (by decide) rfl (aR ?_);refine(_,?_,λ_ _ y=>y);obtain⟨_,ho⟩:=uN hr0;have how:q'.ow∈b.own:=by rw[<-rl.own,k5];exact wf.ow p (bg k1)
   have hoo:o∈b.own:=rl.own▸ho;have hto:=wb.tl q' (bg k2);have ol:=wb.ol;have h1:b.own.idxOf q'.ow<q'.tops.length:=hto▸qQ how;have h2:b.own.idxOf o<q'.tops.length:=hto▸qQ hoo;obtain⟨l2,el⟩:∃l2,l2=(q'.tops.set (b.own.idxOf q'.ow) 0).set (b.own.idxOf o) ((q'.tops.set (b.own.idxOf q'.ow) 0).getD (b.own.idxOf o) 0+q'.tops.getD (b.own.idxOf q'.ow) 0):=(_,rfl)
   have eh:oG b o q'={ q' with ow:=o,tops:=l2 }:=by unfold oG;rw[el]
   refine sU dS rfl rfl (fZ ?_);refine(_,Z,B.m,_,Z,cD.k (k:=Sum.inr "owners") hb.om,_,Z,qq.1,_,_,_,Z,Z,aC.of r1,aE (j:=1) rfl,⟨(B.lo,b.own,q'.ow,Z,aC.of hb.oo,how,by omega,?_)⟩);refine(_,Z,B.m,_,Z,cD.k (k:=Sum.inr "owners") hb.om,_,Z,z,_,_,_,Z,Z,dS,aE (j:=2) rfl,⟨(B.lo,b.own,o,Z,aC.of hb.oo,hoo,by omega,?_)⟩);generalize b.own.idxOf q'.ow=j1 at *;generalize b.own.idxOf o=j2 at *;refine(_,Z,qq.1,_,_,_,Z,Z,aC.of r1,aE (j:=4) rfl,_,Z,qq.2,_,_,_,Z,Z,aC.of r2,getD_at h1,_,Z,qq.1,_,_,_,Z,Z,aC.of r1,aE (j:=4) rfl,_,Z,qq.2,_,_,j1,Z,Z,r2,by rw[aG];exact mH h1,?_);rw[show(q'.tops.map V.int).set j1 (.int 0)=(q'.tops.set j1 0).map V.int from kU.symm];have W1:=hb.wrT G k2 nD wb.nd hz (q'.tops.set j1 0);generalize upd H qq.2 (.lst ((q'.tops.set j1 0).map V.int))=H1 at *;have h2':j2<(q'.tops.set j1 0).length:=by rw[fF];exact h2
   refine(_,Z,qq.1,_,_,_,Z,Z,aC.of W1.r1,aE (j:=4) rfl,_,Z,qq.2,_,_,_,Z,Z,aC.of W1.r2,getD_at h2',_,Z,_,_,Z,Z,_,Z,qq.1,_,_,_,Z,Z,aC.of W1.r1,aE (j:=4) rfl,_,Z,qq.2,_,_,j2,Z,Z,W1.r2,by rw[aG];exact mH h2',?_);rw[show((q'.tops.set j1 0).map V.int).set j2 (.int ((q'.tops.set j1 0).getD j2 0+q'.tops.getD j1 0))=l2.map V.int from el▸kU.symm];have W2:=W1.hb.wrT W1.g W1.ep nD W1.nd W1.hz l2;generalize upd H1 qq.2 (.lst (l2.map V.int))=H2 at *;have W3:=W2.hb.Vz W2.g W2.ep nD W2.nd W2.hz { q' with ow:=o,tops:=l2 } rfl rfl;refine(_,Z,z,_,_,_,Z,Z,cU.of W2.hz,aE (j:=2) rfl,_,Z,qq.1,_,_,1,Z,Z,W2.r1,Z,ρ,_,_,_,_,_,Z,?_,?_,W3.g,W3.hb,Z,(W1.f.trans W2.f).trans W3.f)
   .show rP b x (oG b o)=_;rw[Ls k2 k4 wb.nd,eh];simp only[qV]
   .simp only[fF];omega
  | sever x' y a we=>
   cases e1.symm.trans (show lz (Dd.v (.sever x' y a we)) 1=some (.str x')from aE (j:=1) rfl);refine cW dS rfl (by decide) rfl (aR ?_);refine(_,?_,λ_ _ y=>y);refine cW dS rfl (by decide) rfl (aR ?_);refine(_,?_,λ_ _ y=>y);refine cW dS rfl (by decide) rfl (aR ?_);refine(_,?_,λ_ _ y=>y);obtain⟨_,⟨_,hy⟩,s4,s5,s6,s7⟩:=lZ hr0;have eb:qi b x=q':=by unfold qi;rw[<-k4,qN wb.nd k2];rfl
   refine sU dS rfl rfl (fZ ?_);have W1:=hb.Vz G k2 nD wb.nd hz { q' with wo:=q'.wo-a } rfl rfl;refine(_,Z,qq.1,_,_,_,Z,Z,aC.of r1,aE (j:=2) rfl,_,Z,z,_,_,_,Z,Z,dS,aE (j:=3) rfl,_,_,Z,Z,_,Z,qq.1,_,_,2,Z,Z,r1,Z,?_);show wu _ _ _ _ (upd H qq.1 (jy { q' with wo:=q'.wo-a } qq.2));generalize upd H qq.1 (jy { q' with wo:=q'.wo-a } qq.2)=H1 at *;have W2:=W1.hb.Vz W1.g W1.ep W1.eq W1.nd W1.hz { q' with wo:=q'.wo-a,we:=q'.we-we } rfl rfl;refine(_,Z,qq.1,_,_,_,Z,Z,aC.of W1.r1,aE (j:=3) rfl,_,Z,z,_,_,_,Z,Z,cU.of W1.hz,aE (j:=4) rfl,_,_,Z,Z,_,Z,qq.1,_,_,3,Z,Z,W1.r1,Z,?_);show wu _ _ _ _ (upd H1 qq.1 (jy { q' with wo:=q'.wo-a,we:=q'.we-we } qq.2));generalize upd H1 qq.1 (jy { q' with wo:=q'.wo-a,we:=q'.we-we } qq.2)=H2 at *;obtain⟨B2,bs,h2,RI,ebs⟩:∃B2 bs,bf n ρ B2 H2 { b with ah:=bs }/\B2.m=B.m/\bs=b.ah.set i { q' with wo:=q'.wo-a,we:=q'.we-we }:=(_,_,W2.hb,rfl,by simp only[qV])
   have l2:bs.length=b.ah.length:=by rw[ebs,fF]
   have G2:=W2.g;have F2:=W1.f.trans W2.f;have hn2:=λc h=>W1.nn c (W2.nn c h);have r21:=W2.r1;have r22:H2 qq.2=some (.lst (q'.tops.map V.int)):=W2.r2;have Yb:cU K H2 z (Dd.v (.sever x y a we)):=cU.of W2.hz;have hz2:=W2.hz;clear W1 W2;have om2:H2 B.m=some (.dK (fu B2 b.bot)):=RI▸h2.om;refine(_,Z,B.m,_,Z,cD.k (k:=Sum.inr "parts") om2,.inl (Z,_,aC.of h2.op),_,Z,z,_,_,_,Z,Z,Yb,aE (j:=2) rfl,_,Z,qq.1,_,_,_,Z,Z,aC.of r21,aE (j:=1) rfl,_,Z,z,_,_,_,Z,Z,Yb,aE (j:=3) rfl,_,Z,z,_,_,_,Z,Z,Yb,aE (j:=4) rfl,_,Z,qq.1,_,_,_,Z,Z,aC.of r21,aE (j:=4) rfl,qq.2,_,Z,.inl (aC.of r22),λl0 gH=>?_);have g3:=aF gH (.lst (q'.tops.map V.int));have ha2:upd H2 l0 (.lst (q'.tops.map V.int)) l0=some (.lst (q'.tops.map V.int)):=aq;show rj _ (upd H2 l0 (.lst (q'.tops.map V.int))) _;generalize upd H2 l0 (.lst (q'.tops.map V.int))=H3 at *;refine((gR 5),λp hp=>?_);have g4:=aF hp (jy (y,q'.ow,a,we,q'.tops) l0);have hp3:upd H3 p (jy (y,q'.ow,a,we,q'.tops) l0) p=some (jy (y,q'.ow,a,we,q'.tops) l0):=aq;show rj _ (upd H3 p (jy (y,q'.ow,a,we,q'.tops) l0)) _;generalize upd H3 p (jy (y,q'.ow,a,we,q'.tops) l0)=H4 at *;have wV:H2 p=none:=g3.free hp;have A0:=g3.trans g4;have np:p≠l0:=λe=>by rw[e,ha2]at hp;cases hp
   have cp:b7 ρ l0 (Prod.mk (n) (Prod.mk (24) (y))) p=none:=cg np▸G2.none wV;have h3:=((h2.mono A0).col (t:=24) (x:=y) (G2.none gH)).col (t:=23) (x:=y) cp;have G3:Gh (b7 (b7 ρ l0 (Prod.mk (n) (Prod.mk (24) (y)))) p (Prod.mk (n) (Prod.mk (23) (y)))) H4:=((G2.same A0).color (g4 _ _ ha2) rfl).color hp3 rfl;have F3:=((F2.trans (Fr.of_same A0)).jM (t:=24) (x:=y) (hn2 _ gH)).jM (t:=23) (x:=y) (hn2 _ wV);have cc2:b7 (b7 ρ l0 (Prod.mk (n) (Prod.mk (24) (y)))) p (Prod.mk (n) (Prod.mk (23) (y))) l0=some (Prod.mk (n) (Prod.mk (24) (y))):=by rw[cg (cC np),c6]
   refine(B2.lp,_,_,Z,Z,h3.op,by rw[aG,h3.ql];exact dO (by show bs.length<=_;omega),?_);rw[show B2.qs.map (λq=>V.ref q.1)++[V.ref p]=(B2.qs++[(Prod.mk (p) (l0))]).map (λq=>V.ref q.1)from by rw[bQ];rfl];have h4:=h3.U5 G3 (p:=(y,q'.ow,a,we,q'.tops)) (q:=(Prod.mk (p) (l0))) hp3 (g4 _ _ ha2) c6 cc2;have G4:=G3.wr (a:=B2.lp) (o:=.lst ((B2.qs++[(Prod.mk (p) (l0))]).map λq=>V.ref q.1)) rfl;have F4:=F3.trans (Fr.write (o:=.lst ((B2.qs++[(Prod.mk (p) (l0))]).map λq=>V.ref q.1)) h3.cp);have V1:H4 z=some (.tup (Dd.v (.sever x y a we))):=A0 _ _ hz2;have JU:upd H4 B2.lp (.lst ((B2.qs++[(Prod.mk (p) (l0))]).map λq=>V.ref q.1)) z=some (.tup (Dd.v (.sever x y a we))):=by rw[aA (λe=>by rw[e,h3.op]at V1;cases V1)];exact V1
   generalize upd H4 B2.lp (.lst ((B2.qs++[(Prod.mk (p) (l0))]).map λq=>V.ref q.1))=H5 at *;have om5:H5 B.m=some (.dK (fu { B2 with qs:=B2.qs++[(p,l0)] } b.bot)):=RI▸h4.om;refine(_,Z,B.m,_,Z,cD.k (k:=Sum.inr "known") om5,.inl (Z,_,aC.of h4.ok),_,Z,z,_,_,_,Z,Z,cU.of JU,aE (j:=2) rfl,B2.lk,_,_,Z,Z,h4.ok,by rw[aG];exact dO (by show b.eF.length<=_;omega),?_);rw[show b.eF.map V.str++[V.str y]=(b.eF++[y]).map V.str from by rw[bQ];rfl];refine(_,_,_,_,_,_,Z,?_,?_,G4.wr rfl,h4.Ra G4 (b.eF++[y]),RI,F4.trans (Fr.write h4.ck))
   .show B0 b x y a we=_;unfold B0;rw[eb,ebs,<-k4,vX (nm:=λp:BP=>p.nm) (f:=λp:BP=>{ p with wo:=p.wo-a,we:=p.we-we }) wb.nd k2]
   .show (bs++[_]).length<=1000;rw[c7];show bs.length+1<=1000;omega
  | land x'=>
   cases e1.symm.trans (show lz (Dd.v (.land x')) 1=some (.str x')from aE (j:=1) rfl);refine cW dS rfl (by decide) rfl (aR ?_);refine(_,?_,λ_ _ y=>y);refine cW dS rfl (by decide) rfl (aR ?_);refine(_,?_,λ_ _ y=>y);refine cW dS rfl (by decide) rfl (aR ?_);refine(_,?_,λ_ _ y=>y);refine cW dS rfl (by decide) rfl (aR ?_);refine(_,?_,λ_ _ y=>y);refine sU dS rfl rfl (fZ ?_);have eb:qi b x=q':=by unfold qi;rw[<-k4,qN wb.nd k2];rfl
   obtain⟨vs,hv,hA⟩:=hb.oa;refine(_,Z,B.m,_,Z,cD.k (k:=Sum.inr "ashore") hb.om,.inl (Z,_,aC.of hv),_,Z,qq.1,_,_,_,Z,Z,aC.of r1,aE (j:=0) rfl,_,Z,qq.1,_,_,_,Z,Z,aC.of r1,aE (j:=1) rfl,_,Z,qq.1,_,_,_,Z,Z,aC.of r1,aE (j:=2) rfl,_,Z,qq.1,_,_,_,Z,Z,aC.of r1,aE (j:=4) rfl,qq.2,_,Z,.inl (aC.of r2),λl0 gH=>?_);have g3:=aF gH (.lst (q'.tops.map V.int));have ha2:upd H l0 (.lst (q'.tops.map V.int)) l0=some (.lst (q'.tops.map V.int)):=aq;show Sm (Ss (wk 0) (tC (.str "bottom"))) rj _ (upd H l0 (.lst (q'.tops.map V.int))) _;generalize upd H l0 (.lst (q'.tops.map V.int))=H3 at *;refine(_,Z,B.m,_,Z,cD.k (k:=Sum.inr "bottom") (g3 _ _ hb.om),(gR 5),λp hp=>?_);have g4:=aF hp (.lst [.str q'.nm,.str q'.ow,.int q'.wo,.ref l0,.int b.bot]);have hp3:upd H3 p (.lst [.str q'.nm,.str q'.ow,.int q'.wo,.ref l0,.int b.bot]) p=some (.lst [.str q'.nm,.str q'.ow,.int q'.wo,.ref l0,.int b.bot]):=aq;show rj _ (upd H3 p (.lst [.str q'.nm,.str q'.ow,.int q'.wo,.ref l0,.int b.bot])) _;generalize upd H3 p (.lst [.str q'.nm,.str q'.ow,.int q'.wo,.ref l0,.int b.bot])=H4 at *;have wV:H p=none:=g3.free hp;have A0:=g3.trans g4;have cl0:ρ l0=none:=G.none gH;have np:p≠l0:=λe=>by rw[e,ha2]at hp;cases hp
   have cp:b7 ρ l0 (Prod.mk (n) (Prod.mk (28) (q'.nm))) p=none:=cg np▸G.none wV;have h3:bf n (b7 (b7 ρ l0 (Prod.mk (n) (Prod.mk (28) (q'.nm)))) p (Prod.mk (n) (Prod.mk (27) (q'.nm)))) B H4 b:=((hb.mono A0).col cl0).col cp;have G3:Gh (b7 (b7 ρ l0 (Prod.mk (n) (Prod.mk (28) (q'.nm)))) p (Prod.mk (n) (Prod.mk (27) (q'.nm)))) H4:=((G.same A0).color (g4 _ _ ha2) rfl).color hp3 rfl;have F3:Fr n ρ H (b7 (b7 ρ l0 (Prod.mk (n) (Prod.mk (28) (q'.nm)))) p (Prod.mk (n) (Prod.mk (27) (q'.nm)))) H4:=((Fr.of_same A0).jM gH).jM wV;have cc1:b7 (b7 ρ l0 (Prod.mk (n) (Prod.mk (28) (q'.nm)))) p (Prod.mk (n) (Prod.mk (27) (q'.nm))) p=some (Prod.mk (n) (Prod.mk (27) (q'.nm))):=c6;have cc2:b7 (b7 ρ l0 (Prod.mk (n) (Prod.mk (28) (q'.nm)))) p (Prod.mk (n) (Prod.mk (27) (q'.nm))) l0=some (Prod.mk (n) (Prod.mk (28) (q'.nm))):=by rw[cg (cC np),c6]
   obtain⟨Za,YX,hA4⟩:=h3.oa;have al9:Za.length<900:=by rw[hA4.length,<-gd.bM.length];exact al.al
   refine(B.la,_,_,Z,Z,YX,dO (by omega),?_);have h4:=h3.aaH G3 YX hA4 (e:=(q'.nm,q'.ow,q'.wo,q'.tops,b.bot)) hp3 cc1 (g4 _ _ ha2) cc2;have G4:=G3.wr (a:=B.la) (o:=.lst (Za++[.ref p])) rfl;have F4:=F3.trans (Fr.write (o:=.lst (Za++[.ref p])) h3.ca);obtain⟨r41,r42,c41,c42⟩:=h4.pt i q' qq k2 nD;generalize upd H4 B.la (.lst (Za++[.ref p]))=H5 at *;refine(_,Z,qq.1,_,_,2,Z,Z,r41,Z,?_);have h5:=h4.mC (i:=i) (p1:={ q' with wo:=0 }) (t1:=qq.2) G4 k2 nD rfl wb.nd r42 c42;exact(_,_,_,_,_,_,Z,(by show yt b x=_;unfold yt;rw[eb,Ls (F:=λp=>{ p with wo:=0 }) k2 k4 wb.nd,k4]),V0 _,G4.wr rfl,h5,Z,F4.trans (Fr.write c41))
  | _=>exact al.one.elim
 rintro σ H5 ⟨ρ5,B5,bb,s4,s5,s6,rfl,ebq,V0,G5,h5,DO,F5⟩;rw[ebq]at q;have om6:H5 B.m=some (.dK (fu B5 bb.bot)):=DO▸h5.om;refine(_,Z,B.m,_,Z,cD.k (k:=Sum.inr "parts") om6,B5.lp,Z,(_,aC.of h5.op),λlp wZ=>VA h5 G5 V0 wZ λρ8 H7 Y_ G9 h9 F9=>?_);rw[DO]at Y_ G9 h9 F9;exact(_,Z,B.m,_,Z,uY.k (k:=Sum.inr "parts") Y_ (by show 5<sizeLine;decide),q _ _ _ G9 h9 rfl (F5.trans F9))
abbrev qC:Stmt:=top 37
abbrev kI:Da Str:=["_law_model_here","_law_deed_here"]
abbrev Gz:Da Str:=kI.append ["_law_nought"]
def xS:aQ Gz kI (aD qC):=c9
theorem EA(F:At K mg "_law_model_do" qC f fd)(qD:Dn P w K mg base 4 "_law_model_one" mq (uM AlO K))(sO:Dn P w K mg base 2 "_law_new_part" ng Js)(pA:Dn P w K mg base 2 "_law_model_cast" kZ (Rh K))(mO:Dn P w K mg base 1 "_law_bear" pJ (MR K))(fK:Dn P w K mg base 1 "_law_seat" kO (BQ K))(bq:mg "len"=none)(bZ:mg "range"=none):Dn P w K mg base 5 "_law_model_do" kI (uM AlL K):=by
 refine F.oA xS λ_ _ _ _ H _ Q E hr h=>?_;obtain⟨⟨n,c,ρ,B,b,st,z,d,rfl,hz,G,hb,gd,hc,wf,al,db,hr0,q⟩⟩:=h;refine(_,(@cZ.h _ _ _ (ak (b_ (aS dZ (aB (aP K) (qv 1) ai) aU (aZ _)) (au Rk) br)
  (au (b_ (aS dZ (aB (aP K) (qv 1) ai) aU (aZ _)) (au (cu (bB sO hr (af (qv 0) (af (aB (aP K) (qv 1) ai) (af (aB (aP K) (qv 1) ai) (af (aB (aP K) (qv 1) ai) (af (aB (aP K) (qv 1) ai) aj)))))))) (au (b_ (aS dZ (aB (aP K) (qv 1) ai) aU (aZ _)) (au (cu (bB pA hr (af (qv 0) (af (gM ["_law_k","_law_deed_here"] [none,some 1] rfl (JD (by rfl) bZ (af ai (af (aK (bF K) (by rfl) bq cX (af (qv 1) aj)) (af ai aj)))) (λ_ _ _ _=>(aW (i:=0) (show List.Nodup (["_law_k","_law_deed_here"] :Da Str)from by decide +kernel))) (λ_ _ _ _=>(f7 (af (aB (aP K) (qv 1) (qv 0)) (af (aB (aP K) (qv 1) (aL cV (qv 0) ai)) aj)))) rfl (by rfl)) aj))))) (au (b_ (aS dZ (aB (aP K) (qv 1) ai) aU (aZ _)) (ak (qL (i:=2) ["_law_part"] [none] xS.nd rfl rfl rfl (dI K (bJ (bX hr) (qv 0) aU)) (λ_ _ _ _=>(aW (i:=0) (show List.Nodup (["_law_part"] :Da Str)from by decide +kernel))) (λ_ _ _ _=>ai) rfl (by rfl) (by rfl))
  (au (cu (bB mO hr (af (qv 0) (af (qv 2) (af (bB fK hr (af (bJ (bX hr) (qv 0) aU) (af (aB (aP K) (qv 1) ai) aj))) (af (aB (aP K) (qv 1) ai) aj)))))))) (au (cu (bB qD hr (af (qv 0) (af (qv 1) aj))))))))))))),?_)
 have wb:=gd.fD;have dS:cU K H z (Dd.v d):=cU.of hz;have one:adp d->∀{Q':VK}{E':XK},(∀H',Q .cK H'->Q' .cK H')->M7 AlO K [.ref B.m,.ref z] H Q' E':=λh1 Q' E' kk=>(n,c,ρ,B,b,st,z,d,Z,hz,G,hb,gd,hc,wf,(h1,al.pl,al.kl,al.al),db,hr0,λρ' B' H' a1 a2 a3 a4=>kk H' (q ρ' B' H' a1 a2 a3 a4))
 cases d with
 | sign o=>exact absurd rfl al.nk
 | still=>refine sU dS rfl rfl (fZ ?_);exact q ρ B H G hb rfl (Fr.refl)
 | load x o wo we=>refine cW dS rfl (by decide) rfl (aR ?_);refine sU dS rfl rfl (fZ ?_);obtain⟨l1,l2,l3,l4,l5⟩:=uK hr0;rw[gd.rel.own]at l3;exact(_,Z,_,Z,z,_,_,_,Z,Z,dS,aE (j:=1) rfl,_,Z,z,_,_,_,Z,Z,dS,aE (j:=2) rfl,_,Z,z,_,_,_,Z,Z,dS,aE (j:=3) rfl,_,Z,z,_,_,_,Z,Z,dS,aE (j:=4) rfl,⟨(n,ρ,B,b,x,o,wo,we,Z,G,hb,l3,by have:=wb.ol;omega,wb.pl,wb.kl,q)⟩)
 | cast rs=>
  refine cW dS rfl (by decide) rfl (aR ?_);refine cW dS rfl (by decide) rfl (aR ?_);refine sU dS rfl rfl (fZ ?_);obtain⟨c',gg,hc'⟩:=al.go;have ok:=gg.zx wf (by omega) hr0;have hrl:rs.length<=1000:=ok.len;obtain⟨rb,bo⟩:=XS gd wf hc hr0;refine(_,Z,_,Z,z,_,Z,.inr dS,_,_,_,Z,(by decide,by decide,by omega,by rw[Au];omega,by decide,by decide),?_);rw[Au,Vs];intro Ap Bi;refine iD (J:=SE 1 2 rs.length) (n:=rs.length) 0 (λi out H1=>aM H H1/\gy H1 out (rs.take i)) (by omega) (aF Bi _,.nil) (λi o H' hi _ _=>hi) (λo H' _ _=>aO _) ?_ ?_
  .rintro i x out H1 H2 hi eU ha ⟨g,R⟩ ⟨rfl,rfl⟩;have ei:=a_ hi;generalize rs[i]=r at *;obtain⟨c1,c2⟩:=Rw ei;have e1:(1:Int)+(i:Int)*2=((1+2*i:Nat):Int):=by omega
   have e2:((1+2*i:Nat):Int)+1=((2+2*i:Nat):Int):=by omega
   rw[e1];refine(_,Z,_,Z,z,_,_,_,Z,Z,g.tup dS,aE c1,_,Z,_,Z,_,_,Z,Z,z,_,_,_,Z,Z,g.tup dS,e2▸aE c2,(gR 2),λp hp=>?_);have g6:=aF hp (yI r);refine(g6 _ _ ha,(g.trans g6).cJ Bi _,?_);rw[take_snoc ei];exact((R.mono g6.tups).snoc aq).mono (jY (.inr (_,g6 _ _ ha,Z)))
  rintro out H1 eU ha ⟨g,R⟩;rw[cQ]at R;exact⟨(n,ρ,B,b,Ap,out,rs,Z,G.same g,hb.mono g,wb,aC.of ha,R,G.none Bi,rb,hrl,bo,λρ' B' H' a1 a2 a3 a4=>q ρ' B' H' a1 a2 a3 ((Fr.of_same g).trans a4))⟩
 | award o a=>
  refine cW dS rfl (by decide) rfl (aR ?_);refine cW dS rfl (by decide) rfl (aR ?_);refine cW dS rfl (by decide) rfl (aR ?_);refine sU dS rfl rfl (fZ ?_);obtain⟨ho,h1,h2⟩:=rQ hr0;obtain⟨c',gg,hc'⟩:=al.go;have ha:HN st:=gg.aw wf (by omega);have pl:=wb.pl;have ew:=gd.rel.whole;have eo:=gd.rel.own;rw[eo]at ho;have hi:b.own.idxOf o<b.own.length:=Lw.mpr ho;have xK:(B.qs.map λq=>V.ref q.1).length=b.ah.length:=by rw[aG];exact hb.ql
  refine(_,Z,B.m,_,Z,cD.k (k:=Sum.inr "parts") hb.om,B.lp,Z,(_,aC.of hb.op),λl0 gH=>?_);refine iD (J:=wC K B.lp) (n:=b.ah.length) 0 (λi o H'=>aM H H'/\o=(List.replicate i (0:Int)).map V.int) (by omega) (aF gH _,Z) (λi o H' hi _ hp=>(_,_,aC.of (hp.1 _ _ hb.op),a_ (xK▸hi))) (λo H' _ hp=>(_,aC.of (hp.1 _ _ hb.op),xK▸aO _)) ?_ ?_
  .rintro i y o H2 H3 hi eU ha ⟨g,e⟩ ⟨rfl,hy⟩;refine(ha,g.cJ gH _,?_);subst e;rw[List.replicate_succ',bQ];rfl
  rintro o1 H1 _ ha1 ⟨g1,e⟩;subst e;have hb1:=hb.mono g1;have hz1:cU K H1 z (Dd.v (.award o a)):=cU.of (g1 _ _ hz);have bo:mD b (List.replicate b.ah.length 0) (b.own.idxOf o) a:=(jr,λx hx=>Lv hx▸eZ _,hi,by omega,by rw[tL];omega,ew▸ha.big)
  exact(_,Z,_,Z,_,Z,B.m,_,Z,cD.k (k:=Sum.inr "owners") hb1.om,_,Z,z,_,_,_,Z,Z,hz1,aE (j:=1) rfl,⟨(B.lo,b.own,o,Z,aC.of hb1.oo,ho,by have:=wb.ol;omega,_,Z,z,_,_,_,Z,Z,hz1,aE (j:=2) rfl,⟨(n,ρ,B,b,l0,List.replicate b.ah.length 0,b.own.idxOf o,a,Z,G.same g1,hb1,wb,aC.of ha1,G.none gH,bo,λρ' B' H' a1 a2 a3 a4=>q ρ' B' H' a1 a2 a3 ((Fr.of_same g1).trans a4))⟩)⟩)
 | mishap x a=>refine cW dS rfl (by decide) rfl (aR ?_);refine cW dS rfl (by decide) rfl (aR ?_);refine cW dS rfl (by decide) rfl (aR ?_);refine cW dS rfl (by decide) rfl (aR ?_);exact(_,Z,_,Z,⟨one True.intro λ_ y=>y⟩)
 | rise x a=>refine cW dS rfl (by decide) rfl (aR ?_);refine cW dS rfl (by decide) rfl (aR ?_);refine cW dS rfl (by decide) rfl (aR ?_);refine cW dS rfl (by decide) rfl (aR ?_);exact(_,Z,_,Z,⟨one True.intro λ_ y=>y⟩)
 | hand x o=>refine cW dS rfl (by decide) rfl (aR ?_);refine cW dS rfl (by decide) rfl (aR ?_);refine cW dS rfl (by decide) rfl (aR ?_);refine cW dS rfl (by decide) rfl (aR ?_);exact(_,Z,_,Z,⟨one True.intro λ_ y=>y⟩)
 | land x=>refine cW dS rfl (by decide) rfl (aR ?_);refine cW dS rfl (by decide) rfl (aR ?_);refine cW dS rfl (by decide) rfl (aR ?_);refine cW dS rfl (by decide) rfl (aR ?_);exact(_,Z,_,Z,⟨one True.intro λ_ y=>y⟩)
 | sever x y a we=>refine cW dS rfl (by decide) rfl (aR ?_);refine cW dS rfl (by decide) rfl (aR ?_);refine cW dS rfl (by decide) rfl (aR ?_);refine cW dS rfl (by decide) rfl (aR ?_);exact(_,Z,_,Z,⟨one True.intro λ_ y=>y⟩)
abbrev sP:Stmt:=top 42
abbrev lJ:Da Str:=["_law_hold","_law_deed_here"]
abbrev Ir:Da Str:=lJ
def GA:aQ Ir lJ (aD sP):=c9
theorem GB{T:TC}{e:Ec}(F:At K mg "_law_hold_do" sP f fd)(mL:Mn P w K mg base 3 T.hold "sign" pI (HD T))(yQ:Mn P w K mg base 4 T.hold "load" ur (UT T))(yR:Mn P w K mg base 4 T.hold "cast" uu (U1 T K))(Oe:Mn P w K mg base 4 T.hold "award" r_ (sN (Na T e)))(KC:Mn P w K mg base 3 T.hold "mishap" pZ (sN (JF T e)))(PD:Mn P w K mg base 2 T.hold "rise" uw (sN (Rm T e)))(PF:Mn P w K mg base 2 T.hold "hand" ux (sN (Ro T e)))(PJ:Mn P w K mg base 5 T.hold "land" uy (sN (Rq T e)))(Of:Mn P w K mg base 4 T.hold "sever" sf (sN (Nf T e)))(bq:mg "len"=none)(bZ:mg "range"=none):Dn P w K mg base 6 "_law_hold_do" lJ (Eh T K):=by
 refine F.oA GA λ_ _ _ _ H _ Q E hr h=>?_;obtain⟨⟨n,c,ρ,A,st,z,d,rfl,hz,hh,gg,hc,hk,ho,hr0,q⟩⟩:=h;refine(_,(@cZ.h _ _ _ (ak (b_ (aS dZ (aB (aP K) (qv 1) ai) aU (aZ _)) (au (aX (cy mL hr (qv 0) (af (aB (aP K) (qv 1) ai) aj)))) (au (b_ (aS dZ (aB (aP K) (qv 1) ai) aU (aZ _)) (au (aX (cy yQ hr (qv 0) (af (aB (aP K) (qv 1) ai) (af (aB (aP K) (qv 1) ai) (af (aB (aP K) (qv 1) ai) (af (aB (aP K) (qv 1) ai) aj))))))) (au (b_ (aS dZ (aB (aP K) (qv 1) ai) aU (aZ _)) (au (aX (cy yR hr (qv 0) (af (gM ["_law_k","_law_deed_here"] [none,some 1] rfl (JD (by rfl) bZ (af ai (af (aK (bF K) (by rfl) bq cX (af (qv 1) aj)) (af ai aj)))) (λ_ _ _ _=>(aW (i:=0) (show List.Nodup (["_law_k","_law_deed_here"] :Da Str)from by decide +kernel))) (λ_ _ _ _=>(f7 (af (aB (aP K) (qv 1) (qv 0)) (af (aB (aP K) (qv 1) (aL cV (qv 0) ai)) aj)))) rfl (by rfl)) aj)))) (au (b_ (aS dZ (aB (aP K) (qv 1) ai) aU (aZ _)) (au (aX (cy Oe hr (qv 0) (af (aB (aP K) (qv 1) ai) (af (aB (aP K) (qv 1) ai) aj))))) (au (b_ (aS dZ (aB (aP K) (qv 1) ai) aU (aZ _)) (au (aX (cy KC hr (qv 0) (af (aB (aP K) (qv 1) ai) (af (aB (aP K) (qv 1) ai) aj))))) (au (b_ (aS dZ (aB (aP K) (qv 1) ai) aU (aZ _)) (au (aX (cy PD hr (qv 0) (af (aB (aP K) (qv 1) ai) (af (aB (aP K) (qv 1) ai) aj))))) (au (b_ (aS dZ (aB (aP K) (qv 1) ai) aU (aZ _)) (au (aX (cy PF hr (qv 0) (af (aB (aP K) (qv 1) ai) (af (aB (aP K) (qv 1) ai) aj))))) (au (b_ (aS dZ (aB (aP K) (qv 1) ai) aU (aZ _)) (au (aX (cy PJ hr (qv 0) (af (aB (aP K) (qv 1) ai) aj)))) (au (b_ (aS dZ (aB (aP K) (qv 1) ai) aU (aZ _)) (au (aX (cy Of hr (qv 0) (af (aB (aP K) (qv 1) ai) (af (aB (aP K) (qv 1) ai) (af (aB (aP K) (qv 1) ai) (af (aB (aP K) (qv 1) ai) aj))))))) br)))))))))))))))))
  (au (aX acY)))),?_)
 have wf:=hh.wf;have hpl:=gg.pl;have hkl:=gg.kl;cases d with
 | sign o=>obtain⟨s1,s2⟩:=Vt hr0;refine sU hz rfl rfl (fZ ?_);refine(_,Z,A.a,A.dx,_,Z,hh.h.oa,Z,_,Z,z,_,_,_,Z,Z,hz,aE (j:=1) rfl,⟨(n,ρ,A,st,o,Z,hh,s1,s2,ho,q)⟩)
 | load x o wo we=>obtain⟨l1,l2,l3,l4,l5⟩:=uK hr0;refine cW hz rfl (by decide) rfl (aR ?_);refine sU hz rfl rfl (fZ ?_);refine(_,Z,A.a,A.dx,_,Z,hh.h.oa,Z,_,Z,z,_,_,_,Z,Z,hz,aE (j:=1) rfl,_,Z,z,_,_,_,Z,Z,hz,aE (j:=2) rfl,_,Z,z,_,_,_,Z,Z,hz,aE (j:=3) rfl,_,Z,z,_,_,_,Z,Z,hz,aE (j:=4) rfl,⟨(n,ρ,A,st,x,o,wo,we,Z,hh,l1,l2,l3,l4,l5,by omega,by omega,q)⟩)
 | cast rs=>
  refine cW hz rfl (by decide) rfl (aR ?_);refine cW hz rfl (by decide) rfl (aR ?_);refine sU hz rfl rfl (fZ ?_);have ok:=gg.zx wf (by omega) hr0;have hrl:rs.length<=1000:=ok.len;refine(_,Z,A.a,A.dx,_,Z,hh.h.oa,Z,_,Z,z,_,Z,.inr hz,_,_,_,Z,(by decide,by decide,by omega,by rw[Au];omega,by decide,by decide),?_);rw[Au,Vs];intro Ap Bi;refine iD (J:=SE 1 2 rs.length) (n:=rs.length) 0 (λi out H1=>aM H H1/\gy H1 out (rs.take i)) (by omega) (aF Bi _,.nil) (λi o H' hi _ _=>hi) (λo H' _ _=>aO _) ?_ ?_
  .rintro i x out H1 H2 hi eU ha ⟨g,R⟩ ⟨rfl,rfl⟩;have ei:=a_ hi;generalize rs[i]=r at *;obtain⟨c1,c2⟩:=Rw ei;have e1:(1:Int)+(i:Int)*2=((1+2*i:Nat):Int):=by omega
   have e2:((1+2*i:Nat):Int)+1=((2+2*i:Nat):Int):=by omega
   rw[e1];refine(_,Z,_,Z,z,_,_,_,Z,Z,g.tup hz,aE c1,_,Z,_,Z,_,_,Z,Z,z,_,_,_,Z,Z,g.tup hz,e2▸aE c2,(gR 2),λp hp=>?_);have g6:=aF hp (yI r);refine(g6 _ _ ha,(g.trans g6).cJ Bi _,?_);rw[take_snoc ei];exact((R.mono g6.tups).snoc aq).mono (jY (.inr (_,g6 _ _ ha,Z)))
  rintro out H1 eU ha ⟨g,R⟩;rw[cQ]at R;exact⟨(n,ρ,A,st,Ap,out,rs,Z,hh.mono g,aC.of ha,R,ok,λρ' A' H' a1 a2 a3=>q ρ' A' H' a1 a2 ((Fr.of_same g).trans a3))⟩
 | award o a=>refine cW hz rfl (by decide) rfl (aR ?_);refine cW hz rfl (by decide) rfl (aR ?_);refine cW hz rfl (by decide) rfl (aR ?_);refine sU hz rfl rfl (fZ ?_);refine(_,Z,A.a,A.dx,_,Z,hh.h.oa,Z,_,Z,z,_,_,_,Z,Z,hz,aE (j:=1) rfl,_,Z,z,_,_,_,Z,Z,hz,aE (j:=2) rfl,⟨(n,ρ,A,st,o,a,Z,hh,gg.aw wf (by omega),.of hr0 q)⟩)
 | mishap x a=>refine cW hz rfl (by decide) rfl (aR ?_);refine cW hz rfl (by decide) rfl (aR ?_);refine cW hz rfl (by decide) rfl (aR ?_);refine cW hz rfl (by decide) rfl (aR ?_);refine sU hz rfl rfl (fZ ?_);refine(_,Z,A.a,A.dx,_,Z,hh.h.oa,Z,_,Z,z,_,_,_,Z,Z,hz,aE (j:=1) rfl,_,Z,z,_,_,_,Z,Z,hz,aE (j:=2) rfl,⟨(n,ρ,A,st,x,a,Z,hh,.of hr0 q)⟩)
 | rise x a=>refine cW hz rfl (by decide) rfl (aR ?_);refine cW hz rfl (by decide) rfl (aR ?_);refine cW hz rfl (by decide) rfl (aR ?_);refine cW hz rfl (by decide) rfl (aR ?_);refine cW hz rfl (by decide) rfl (aR ?_);refine sU hz rfl rfl (fZ ?_);refine(_,Z,A.a,A.dx,_,Z,hh.h.oa,Z,_,Z,z,_,_,_,Z,Z,hz,aE (j:=1) rfl,_,Z,z,_,_,_,Z,Z,hz,aE (j:=2) rfl,⟨(n,ρ,A,st,x,a,Z,hh,.of hr0 q)⟩)
 | hand x o=>refine cW hz rfl (by decide) rfl (aR ?_);refine cW hz rfl (by decide) rfl (aR ?_);refine cW hz rfl (by decide) rfl (aR ?_);refine cW hz rfl (by decide) rfl (aR ?_);refine cW hz rfl (by decide) rfl (aR ?_);refine cW hz rfl (by decide) rfl (aR ?_);refine sU hz rfl rfl (fZ ?_);refine(_,Z,A.a,A.dx,_,Z,hh.h.oa,Z,_,Z,z,_,_,_,Z,Z,hz,aE (j:=1) rfl,_,Z,z,_,_,_,Z,Z,hz,aE (j:=2) rfl,⟨(n,ρ,A,st,x,o,Z,hh,gg.sum,.of hr0 q)⟩)
 | land x=>refine cW hz rfl (by decide) rfl (aR ?_);refine cW hz rfl (by decide) rfl (aR ?_);refine cW hz rfl (by decide) rfl (aR ?_);refine cW hz rfl (by decide) rfl (aR ?_);refine cW hz rfl (by decide) rfl (aR ?_);refine cW hz rfl (by decide) rfl (aR ?_);refine cW hz rfl (by decide) rfl (aR ?_);refine sU hz rfl rfl (fZ ?_);refine(_,Z,A.a,A.dx,_,Z,hh.h.oa,Z,_,Z,z,_,_,_,Z,Z,hz,aE (j:=1) rfl,⟨(n,ρ,A,st,x,Z,hh,gg.ld wf (by omega) hk,.of hr0 q)⟩)
 | sever x y a we=>refine cW hz rfl (by decide) rfl (aR ?_);refine cW hz rfl (by decide) rfl (aR ?_);refine cW hz rfl (by decide) rfl (aR ?_);refine cW hz rfl (by decide) rfl (aR ?_);refine cW hz rfl (by decide) rfl (aR ?_);refine cW hz rfl (by decide) rfl (aR ?_);refine cW hz rfl (by decide) rfl (aR ?_);refine cW hz rfl (by decide) rfl (aR ?_);refine sU hz rfl rfl (fZ ?_);refine(_,Z,A.a,A.dx,_,Z,hh.h.oa,Z,_,Z,z,_,_,_,Z,Z,hz,aE (j:=1) rfl,_,Z,z,_,_,_,Z,Z,hz,aE (j:=2) rfl,_,Z,z,_,_,_,Z,Z,hz,aE (j:=3) rfl,_,Z,z,_,_,_,Z,Z,hz,aE (j:=4) rfl,⟨(n,ρ,A,st,x,y,a,we,Z,hh,ME (lZ (show lF st x y a we=none from hr0)).2.1.1,by omega,by omega,.of hr0 q)⟩)
 | still=>refine cW hz rfl (by decide) rfl (aR ?_);refine cW hz rfl (by decide) rfl (aR ?_);refine cW hz rfl (by decide) rfl (aR ?_);refine cW hz rfl (by decide) rfl (aR ?_);refine cW hz rfl (by decide) rfl (aR ?_);refine cW hz rfl (by decide) rfl (aR ?_);refine cW hz rfl (by decide) rfl (aR ?_);refine cW hz rfl (by decide) rfl (aR ?_);refine cW hz rfl (by decide) rfl (aR ?_);exact q ρ A H hh rfl Fr.refl
abbrev yS:Stmt:=top 43
abbrev vY:Da Str:=["_law_script","_law_k","_law_hold","_law_model_here","_law_names","_law_many"]
abbrev Tp:Da Str:=vY.append ["_law_at_here","_law_deed_here"]
def yT:aQ Tp vY (aD yS):=c9
theorem PK{T:TC}(F:At K mg "_law_run" yS f fd)(yU:Dn P w K mg base 4 "_law_deed" uD (Vq K))(jE:Dn P w K mg base 6 "_law_hold_do" lJ (Eh T K))(jg:Dn P w K mg base 5 "_law_model_do" kI (uM AlL K))(bZ:mg "range"=none):Dn P w K mg base 7 "_law_run" vY (VF T K):=by
 refine F.oA yT λ_ _ _ _ H _ Q E hr h=>?_;obtain⟨⟨n,m,c,e,kn,ρ,A,B,st,b,a,ln,ns,k,nms,BM,rfl,nm,hh,hb,gd,gw,pu,hc,hm,ho,fS,h63,hk0,hk1,fN,nx,hnl,q⟩⟩:=h;refine(_,(@cZ.h _ _ _ (au (fk fQ rfl (f_ (by rfl) bZ (af (qv 5) aj)) (aW (i:=6) yT.nd) (ak (aV (i:=7) yT.nd (bB yU hr (af (qv 0) (af (aL cV (qv 1) (qv 6)) (af (qv 3) (af (qv 4) aj))))))
  (ak (cu (bB jE hr (af (qv 2) (af (qv 7) aj))))
  (au (cu (bB jg hr (af (qv 3) (af (qv 7) aj)))))))))),?_)
 refine(_,Z,_,Z,by omega,by omega,?_);refine iJ (lo:=0) (n:=((BM:Nat):Int).toNat) (λi σ H'=>∃ρ' A' B' st' b' s6 s7,σ=[some (.ref a),some (.int k),some (.ref A.a),some (.ref B.m),some (.ref ln),some (.int (BM:Int)),s6,s7]/\HH T n ρ' A' H' st'/\bf m ρ' B' H' b'/\eX (c+i) st' b'/\GW (c+i) (kn+100*i) st'/\AS (c+i) (e+i) st' b'/\A'.a=A.a/\B'.m=B.m/\b'.own=b.own/\Nx nms st'/\aM (out ρ H) (out ρ' H'))
  (ρ,A,B,st,b,_,_,Z,hh,hb,gd,gw,pu,Z,Z,Z,nx,aM.refl _) ?_ ?_
 .rintro i σ H1 hi ⟨ρ1,A1,B1,st1,b1,s6,s7,rfl,ef,hb1,oO,nh,pu1,ea,em,eo,JW,o1⟩;have hi:i<BM:=by omega
  have e0:(0:Int)+(i:Int)=((i:Nat):Int):=by omega
  rw[e0];have DM:st1.own.length<100:=by rw[oO.rel.own,eo,<-gd.rel.own];exact ho
  have kn1:=nh.kn;have pl1:=JW.pl ef.wf;have kl1:=nh.g.kl;have al1:=nh.g.al;refine(_,Z,_,Z,_,Z,_,_,Z,Z,_,Z,_,Z,⟨(a,B.m,ln,ns,k+i,nms,c+i,st1,Z,fS _ _ o1,h63,by omega,by omega,em▸hb1.q oO,fN _ _ o1,JW,by omega,ef.wf,nh.g,by omega,λz d H2 g2 hz hd=>?_)⟩);obtain⟨d1,d2,d3,d4⟩:=hd;refine(_,Z,_,Z,⟨(n,c+i,ρ1,A1,st1,z,d,by rw[ea];rfl,cU.of hz,ef.mono g2,nh.g,by omega,by omega,DM,d1,λρ3 A3 H3 m_ RH F3=>?_)⟩);have AX:=(hb1.mono g2).other F3 (ef.g.same g2) (cC nm);have V2:H3 z=some (.tup d.v):=(F3 z _ hz (λt w e=>by rw[(ef.g.same g2).tup hz]at e;cases e)).1;have gd2:=YR oO nh.g ef.wf (by omega) (by omega) d1 d2 d4 (by rw[<-oO.rel.len];omega) (by rw[<-oO.eF];omega);refine(_,Z,_,Z,⟨(m,c+i,ρ3,B1,b1,st1,z,d,by rw[em];rfl,V2,m_.g,AX,oO,by omega,ef.wf,(d4,(c+i,nh.g,by omega),by omega,by omega,by omega),d2,d1,λρ4 B4 H4 G4 AY em4 F4=>?_)⟩);exact(ρ4,A3,B4,_,_,_,_,Z,m_.other F4 G4 nm,AY,gd2,nh.do (by omega) (by omega) DM d1 d2.g,(VE (k:=c+i) pu1 oO nh.g ef.wf (by omega) d1 d4).mono (by have:=adv d;omega),RH.trans ea,em4.trans em,(JE _ _).trans eo,d3,((o1.trans (ji g2)).trans F3.out).trans F4.out)
 rintro σ H1 ⟨ρ1,A1,B1,st1,b1,s6,s7,rfl,ef,hb1,oO,nh,pu1,ea,em,eo,JW,o1⟩;rw[qS]at oO nh pu1;exact q ρ1 A1 B1 st1 b1 H1 ef hb1 oO nh pu1 ea em eo JW o1
abbrev qE:Stmt:=top 53
abbrev nj:Da Str:=["_law_model_here","_law_owner"]
abbrev GD:Da Str:=nj.append ["_law_seat_here","_law_top","_law_bottom","_law_part","_law_gets"]
def fB:aQ GD nj (aD qE):=c9
theorem EB(F:At K mg "_law_purse_of" qE f fd)(fK:Dn P w K mg base 1 "_law_seat" kO (BQ K))(bq:mg "len"=none)(sL:mg "min"=none):Dn P w K mg base 2 "_law_purse_of" nj (JO K):=by
 refine F.oA fB λ_ _ _ _ H _ Q E hr h=>?_;obtain⟨⟨n,m,ρ,B,b,o,rfl,h,ho,ol,al,hm,bz,tz,tl,q⟩⟩:=h;refine(_,(@cZ.h _ _ _ (ak (aV (i:=2) fB.nd (bB fK hr (af (bJ (bX hr) (qv 0) aU) (af (qv 1) aj))))
  (ak (aV (i:=3) fB.nd ai)
  (ak (aV (i:=4) fB.nd ai)
  (ak (fk fQ rfl (dI K (bJ (bX hr) (qv 0) aU)) (aW (i:=5) fB.nd) (ak (aV (i:=6) fB.nd (aL gJ (aB (aH K) (qv 5) ai) (aB (aH K) (aL Uk (aB (aH K) (qv 5) ai) (ia (af ai aj))) (aK (yd rfl) (by rfl) sL LA (af (qv 2) (af (aK (bF K) (by rfl) bq cX (af (aB (aH K) (qv 5) ai) aj)) aj))))))
  (ak (jk (aS dZ (aB (aH K) (qv 5) ai) (qv 1) (aZ _)) (au (aV (i:=6) fB.nd (aL j_ (qv 6) (aL gJ (aB (aH K) (qv 5) ai) (aB (aH K) (qv 5) ai))))) br)
  (ak (aV (i:=3) fB.nd (aL cV (aL gJ (qv 3) (aB (aH K) (qv 5) ai)) (aL gJ (qv 6) (qv 4))))
  (au (aV (i:=4) fB.nd (aL gJ (qv 4) (aB (aH K) (qv 5) ai))))))))
  (au (aX (f7 (af (qv 3) (af (qv 4) aj)))))))))),?_)
 obtain⟨vs,hv,hA⟩:=h.oa;have vl:=hA.length;refine(_,Z,B.m,_,Z,cD.k (k:=Sum.inr "owners") h.om,_,Z,⟨(B.lo,b.own,o,Z,aC.of h.oo,ho,by omega,?_)⟩);generalize b.own.idxOf o=j at *;refine(_,Z,B.m,_,Z,cD.k (k:=Sum.inr "ashore") h.om,B.la,Z,(_,aC.of hv),?_);refine lQ (K:=K) (xs:=vs) (λi σ H'=>aM H H'/\∃s5 s6,σ=[some (.ref B.m),some (.str o),some (.int (j:Int)),some (.int (iS (b.bM.take i) o j).1),some (.int (iS (b.bM.take i) o j).2),s5,s6]) (aM.refl _,_,_,Z) (λi σ H' _ hp=>aC.of (hp.1 _ _ hv)) ?_ ?_
 .rintro i y σ H1 hy ⟨g1,s5,s6,rfl⟩;obtain⟨r,t,e,rfl,ee,r1,r2⟩:=hA.get hy;have em:=bg ee;obtain⟨z1,z2⟩:=bz e em;obtain⟨y1,y2⟩:=tz e em;have lt:=tl e em;have r1:=g1 _ _ r1;have r2:=g1 _ _ r2;have sub:∀x∈b.bM.take i,x∈b.bM:=λx hx=>List.mem_of_mem_take hx;have nz:=XU (o:=o) (j:=j) (λx hx=>bz x (sub x hx)) (λx hx=>tz x (sub x hx));have dz:=(Nu (o:=o) (j:=j) (λx hx=>bz x (sub x hx))).1;have il:(b.bM.take i).length<=100:=by rw[kR];omega
  have nz:Jm.Sz 1100000 (iS (b.bM.take i) o j).1:=nz.mono (by have:=Nat.mul_le_mul il (show m+63<=10063 by omega);omega);have dz:Jm.Sz 1100000 (iS (b.bM.take i) o j).2:=dz.mono (by have:=Nat.mul_le_mul il hm;omega);have es:iS (b.bM.take (i+1)) o j=oJ o j (iS (b.bM.take i) o j) e:=take_snoc ee▸JM _ _ _ _;rw[es];generalize iS (b.bM.take i) o j=tb at *;obtain⟨tz1,gz⟩:=Ry (o:=o) (j:=j) z1 z2 y1 y2;refine(_,Z,r,_,_,_,Z,Z,aC.of r1,aE (j:=2) rfl,_,Z,r,_,_,_,Z,Z,aC.of r1,aE (j:=3) rfl,(gR 1),λp1 hp1=>?_);have g2:=aF hp1 (.lst [.int 0]);have h2:upd H1 p1 (.lst [.int 0]) p1=some (.lst [.int 0]):=aq;show abQ _ _ (upd H1 p1 (.lst [.int 0])) _;generalize upd H1 p1 (.lst [.int 0])=H2 at *;refine(t,p1,_,_,Z,Z,g2 _ _ r2,h2,(by rw[aG];exact CD (dO (by show e.tops.length+1<=1000;omega))),λp3 hp3=>?_);have ec:e.tops.map V.int++[V.int 0]=(e.tops++[0]).map V.int:=by rw[bQ];rfl
  rw[ec];have g3:=aF hp3 (.lst ((e.tops++[0]).map V.int));have h3:upd H2 p3 (.lst ((e.tops++[0]).map V.int)) p3=some (.lst ((e.tops++[0]).map V.int)):=aq;have Og:=(g1.trans g2).trans g3;have RQ:=g3 _ _ (g2 _ _ r1);have r23:=g3 _ _ (g2 _ _ r2);show Yt _ _ _ (upd H2 p3 (.lst ((e.tops++[0]).map V.int))) _;generalize upd H2 p3 (.lst ((e.tops++[0]).map V.int))=H3 at *;refine(_,Z,_,Z,r,_,_,_,Z,Z,aC.of RQ,aE (j:=3) rfl,t,_,Z,.inl (aC.of r23),_,_,Z,p3,_,_,_,Z,Z,aC.of h3,(by rw[aG];exact adu),_,_,Z,Z,gi (y2.2.mono (show 60<=100 by omega)) (tz1.mono hm),?_);show i9 6 (.int (e.wo*e.tops.getD j 0)) _ _ _;refine(λσ H'=>H'=H3/\σ=[some (.ref B.m),some (.str o),some (.int (j:Int)),some (.int tb.1),some (.int tb.2),some (.ref r),some (.int (yv o j e))],?_,?_)
  .refine (_,Z,r,_,_,_,Z,Z,aC.of RQ,aE (j:=1) rfl,_,Z,Z,_,Z,dX (λc=>?_) (λc=>?_))
   .have c':e.ow=o:=V.str.inj (eO c);refine(_,Z,_,Z,r,_,_,_,Z,Z,aC.of RQ,aE (j:=2) rfl,_,Z,r,_,_,_,Z,Z,aC.of RQ,aE (j:=4) rfl,_,_,Z,Z,gi (y2.2.mono (show 60<=100 by omega)) (z1.mono hm),_,_,Z,Z,Z,?_);unfold yv;rw[ay c'];rfl
   .have c':e.ow≠o:=λz=>c (bR (by rw[z]));refine(Z,?_);unfold yv;rw[av c',yb];rfl
  rintro σ H4 ⟨rfl,rfl⟩;refine(_,Z,_,Z,r,_,_,_,Z,Z,aC.of RQ,aE (j:=4) rfl,_,_,Z,Z,gi nz (z1.mono hm),_,Z,_,Z,_,_,Z,Z,gi (gz.mono (show m+61<=10061 by omega)) dz,_,_,Z,Z,?_);show i9 3 (.int (tb.1*e.bot+yv o j e*tb.2)) _ _ _;exact(_,Z,_,Z,r,_,_,_,Z,Z,aC.of RQ,aE (j:=4) rfl,_,_,Z,Z,gi dz (z1.mono hm),Og,_,_,Z)
 rintro σ H1 ⟨g1,s5,s6,rfl⟩;rw[vl,cQ];refine(_,Z,_,Z,(gR 2),λp hp=>q p _ (g1.trans (aF hp _)) aq)
abbrev t8:Stmt:=top 54
abbrev p8:Da Str:=["_law_script","_law_hold","_law_model_here","_law_names"]
abbrev KD:Da Str:=p8.append ["_law_at_here","_law_owner","_law_deed_here"]
def oM:aQ KD p8 (aD t8):=c9
theorem Iu{T:TC}(F:At K mg "_law_loaded" t8 f fd)(bD:Dn P w K mg base 1 "_law_draw" iz (rA K))(iV:Dn P w K mg base 2 "_law_much" mK (Bu K))(jE:Dn P w K mg base 6 "_law_hold_do" lJ (Eh T K))(jg:Dn P w K mg base 5 "_law_model_do" kI (uM AlL K))(bq:mg "len"=none)(bZ:mg "range"=none):Dn P w K mg base 7 "_law_loaded" p8 (JP T K):=by
 refine F.oA oM λ_ _ _ _ H _ Q E hr h=>?_;obtain⟨⟨n,m,ρ,A,B,st,b,a,ln,ns,nms,BM,rfl,nm,hh,hb,gd,gw,ps,ho,hS,h63,hN,nx,hml,alI,en,q⟩⟩:=h;refine(_,(@cZ.h _ _ _ (au (fk fQ rfl (f_ (by rfl) bZ (af (aK (bF K) (by rfl) bq cX (af (qv 3) aj)) aj)) (aW (i:=4) oM.nd) (ak (aV (i:=5) oM.nd (aB (aH K) (bJ (bX hr) (qv 2) aU) (bB bD hr (af (qv 0) (af (aL cV ai (qv 4)) (af ai (af (aK (bF K) (by rfl) bq cX (af (bJ (bX hr) (qv 2) aU) aj)) aj)))))))
  (ak (aV (i:=6) oM.nd (f7 (af aU (af (aB (aH K) (qv 3) (qv 4)) (af (qv 5) (af (bB iV hr (af (qv 0) (af (aL cV ai (qv 4)) (af ai aj)))) (af (bB bD hr (af (qv 0) (af (aL cV ai (qv 4)) (af ai (af ai aj))))) aj)))))))
  (ak (cu (bB jE hr (af (qv 1) (af (qv 6) aj))))
  (au (cu (bB jg hr (af (qv 2) (af (qv 6) aj))))))))))),?_)
 have ll:((nms.take BM).map V.str).length=BM:=by rw[aG,kR];omega
 refine(_,Z,ln,_,Z,.inl (hN _ _ (aM.refl _)),_,Z,by omega,by omega,?_);rw[ll];refine iJ (lo:=0) (n:=((BM:Nat):Int).toNat) (λi σ H'=>∃ρ' A' B' st' b' s4 s5 s6,σ=[some (.ref a),some (.ref A.a),some (.ref B.m),some (.ref ln),s4,s5,s6]/\HH T n ρ' A' H' st'/\bf m ρ' B' H' b'/\eX i st' b'/\GW i (100*i) st'/\AS i 0 st' b'/\A'.a=A.a/\B'.m=B.m/\b'.own=b.own/\st'.nms.length=i/\Nx nms st'/\aM (out ρ H) (out ρ' H'))
  (ρ,A,B,st,b,_,_,_,Z,hh,hb,gd,gw,ps,Z,Z,Z,by rw[en];rfl,nx,aM.refl _) ?_ ?_
 .rintro i σ H1 hi ⟨ρ1,A1,B1,st1,b1,s4,s5,s6,rfl,ef,hb1,oO,nh,ps1,Cv,JT,DM,Zb,JW,o1⟩;have e0:(0:Int)+(i:Int)=((i:Nat):Int):=by omega
  rw[e0];have him:i<BM:=by omega
  have hin:i<nms.length:=by omega
  have ex:=a_ hin;generalize nms[i]=x at ex;obtain⟨hx0,hxs,nxn⟩:=JW.next (x:=x) (Zb▸ex);have Cr:=hS _ _ o1;have omH:H1 B.m=some (.dK (fu B1 b1.bot)):=JT▸hb1.om;have ol1:(b1.own.map V.str).length=b1.own.length:=aG _;have ow0:=oO.own;refine(_,Z,B.m,_,Z,cD.k (k:=Sum.inr "owners") omH,_,Z,_,Z,_,_,Z,Z,_,Z,B.m,_,Z,cD.k (k:=Sum.inr "owners") omH,B1.lo,_,Z,.inl (aC.of hb1.oo),dG Cr h63 (by omega) (by decide) (by decide) (by omega) λd _ d0 d1=>?_);obtain⟨jo,o,ejo,eo,Gx⟩:=Ai (l:=b1.own) d0 (by omega);have hom:o∈b1.own:=bg eo;refine(B1.lo,_,_,_,Z,Z,aC.of hb1.oo,Gx,?_);have exv:((nms.take BM).map V.str)[i]?=some (.str x):=by rw[bP,List.getElem?_take,ay him,ex];rfl
  refine(_,Z,_,Z,ln,_,_,_,Z,Z,hN _ _ o1,aE exv,_,Z,_,Z,_,Z,_,_,Z,Z,DY Cr h63 (by omega) (by decide) (by decide) λwo H2 w1 w2 g2=>?_);refine(_,Z,_,Z,_,_,Z,Z,dG (g2.seq Cr) h63 (by omega) (by decide) (by decide) (by decide) λwe _ v0 v1=>((gR 5),λz hz=>?_));have g3:=aF hz (.tup (Dd.v (.load x o wo we)));have V2:upd H2 z (.tup (Dd.v (.load x o wo we))) z=some (.tup (Dd.v (.load x o wo we))):=aq;show i9 6 (.ref z) _ (upd H2 z (.tup (Dd.v (.load x o wo we)))) _;generalize upd H2 z (.tup (Dd.v (.load x o wo we)))=H3 at *;have Og:=g2.trans g3;have eow:=oO.rel.own;have pl1:=nh.g.pl;have al1:=nh.g.al;have kn1:=nh.kn;have kl1:b1.eF.length=i:=oO.eF▸Zb;have bl1:b1.ah.length<=i:=oO.rel.len▸pl1;have JN:st1.own.length<100:=by rw[eow,DM,<-gd.rel.own];exact ho
  have hr:tM st1 (.load x o wo we)=none:=FW hx0 hxs (eow▸hom) w1 v0;have db:MY (.load x o wo we):=(oF hx0,oF (oO.on o hom),(by omega,w2),(by omega,by omega))
  have d4:(Dd.load x o wo we).k≠0:=λz=>nomatch z
  refine(_,Z,_,Z,⟨(n,i,ρ1,A1,st1,z,.load x o wo we,by rw[Cv];rfl,cU.of V2,ef.mono Og,nh.g,by omega,by omega,JN,hr,λρ4 A4 H4 rX ea4 F4=>?_)⟩);have AY:=(hb1.mono Og).other F4 (ef.g.same Og) (cC nm);have V1:H4 z=some (.tup (Dd.v (.load x o wo we))):=(F4 z _ V2 (λt w e=>by rw[(ef.g.same Og).tup V2]at e;cases e)).1;refine(_,Z,_,Z,⟨(m,i,ρ4,B1,b1,st1,z,.load x o wo we,by rw[JT];rfl,V1,rX.g,AY,oO,by omega,ef.wf,(d4,(i,nh.g,by omega),by omega,by omega,by omega),db,hr,λρ5 B5 H5 G5 RG DO F5=>?_)⟩);exact(ρ5,A4,B5,_,_,_,_,_,Z,rX.other F5 G5 nm,RG,YR (d:=.load x o wo we) oO nh.g ef.wf (by omega) (by omega) hr db d4 (by omega) (by omega),nh.do (d:=.load x o wo we) (by omega) (by omega) JN hr db.g,VE (d:=.load x o wo we) ps1 oO nh.g ef.wf (by omega) hr d4,ea4.trans Cv,DO.trans JT,(JE _ _).trans DM,(by show(st1.nms++[x]).length=i+1;rw[c7,Zb];rfl),nxn _ rfl,((o1.trans (ji Og)).trans F4.out).trans F5.out)
 rintro σ H1 ⟨ρ1,A1,B1,st1,b1,s4,s5,s6,rfl,ef,hb1,oO,nh,ps1,Cv,JT,DM,Zb,JW,o1⟩;rw[qS]at oO nh ps1;exact q ρ1 A1 B1 st1 b1 H1 ef hb1 oO nh ps1 Cv JT DM JW o1
abbrev sQ:Stmt:=top 55
abbrev Tq:Da Str:=["_law_script"]
abbrev afG:Da Str:=Tq.append ["_law_great","_law_owners","_law_many","_law_names","_law_hold","_law_model_here","_law_seat_here","_law_top","_law_due"]
def pK:aQ afG Tq (aD sQ):=c9
theorem aei{T:TC}(F:At K mg "law" sQ f fd)(bD:Dn P w K mg base 1 "_law_draw" iz (rA K))(k_:Dn P w K mg base 2 "_law_many_names" kY (yH K))(xT:Dn P w K mg base 5 "_law_begin" sJ (Q6 T K))(xU:Dn P w K mg base 1 "_law_model" sH (Rb K))(vG:Dn P w K mg base 7 "_law_loaded" p8 (JP T K))(AD:Dn P w K mg base 7 "_law_run" vY (VF T K))(xV:Dn P w K mg base 6 "_law_tells" sy (v8 2 T K))(nP:Dn P w K mg base 2 "_law_is" uP Sx)(sR:Dn P w K mg base 2 "_law_purse_of" nj (JO K))(xW:Mn P w K mg base 3 T.hold "stake" sj (Nn T))(xX:Mn P w K mg base 3 T.hold "purse" sr (Rx T))(bq:mg "len"=none)(C7:mg "int"=none)(fT:mg "sum"=none):lu P w K mg base wG 8 f fd Tq (Lq K):=by
 refine F.fn.ok pK (λvs H Q E h=>?_) (λ_ _ _ _ H _ Q E hr h=>?_)
 .obtain ⟨a,ns,rfl,_⟩:=h;rfl
 obtain⟨a,ns,rfl,hS,h63,q⟩:=h;refine(_,(@cZ.h _ _ _ (ak (aV (i:=1) pK.nd (kC T8 (by rfl) C7 PyProof.Rows.boot_int (af (CZ dZ (bB bD hr (af (qv 0) (af ai (af ai (af ai aj))))) ai (aZ _)) aj)))
  (ak (aV (i:=2) pK.nd (bB k_ hr (af (qv 0) (af ai (af (aL cV ai (bB bD hr (af (qv 0) (af ai (af ai (af (aB (aH K) (ia (af ai (af ai aj))) (qv 1)) aj)))))) aj)))))
  (ak (aV (i:=3) pK.nd (aL cV ai (bB bD hr (af (qv 0) (af ai (af ai (af (aB (aH K) (ia (af ai (af ai aj))) (qv 1)) aj)))))))
  (ak (aV (i:=4) pK.nd (bB k_ hr (af (qv 0) (af ai (af (aL cV (qv 3) ai) aj)))))
  (ak (aV (i:=5) pK.nd (bB xT hr (af (qv 2) aj)))
  (ak (aV (i:=6) pK.nd (bB xU hr (af (qv 2) aj)))
  (ak (cu (bB vG hr (af (qv 0) (af (qv 5) (af (qv 6) (af (Xv Zy (qv 4) aak (aaj (qv 3))) aj))))))
  (ak (cu (bB AD hr (af (qv 0) (af ai (af (qv 5) (af (qv 6) (af (qv 4) (af (aL cV ai (bB bD hr (af (qv 0) (af ai (af ai (af ai aj)))))) aj))))))))
  (ak (b_ (eY (d_ (bB xV hr (af (qv 5) (af (qv 6) aj))))) (au (aX gG)) br)
  (ak (aV (i:=7) pK.nd (bB bD hr (af (qv 0) (af ai (af ai (af (aK (bF K) (by rfl) bq cX (af (qv 2) aj)) aj))))))
  (ak (aV (i:=8) pK.nd (aK (kh K rfl) (by rfl) fT wg (af (gM ["_law_part","_law_seat_here"] [none,some 7] rfl (dI K (bJ (bX hr) (qv 6) aU)) (λ_ _ _ _=>(aW (i:=0) (show List.Nodup (["_law_part","_law_seat_here"] :Da Str)from by decide +kernel))) (λ_ _ _ _=>(aL gJ (aB (aH K) (qv 0) ai) (aB (aH K) (aB (aH K) (qv 0) ai) (qv 1)))) rfl (by rfl)) aj)))
  (ak (b_ (eY (d_ (bB nP hr (af (cy xW hr (qv 5) (af (aB (aH K) (qv 2) (qv 7)) aj)) (af (qv 8) (af (bJ (bX hr) (qv 6) aU) aj)))))) (au (aX gG)) br)
  (ak (aV (i:=9) pK.nd (bB sR hr (af (qv 6) (af (aB (aH K) (qv 2) (qv 7)) aj))))
  (au (aX (bB nP hr (af (cy xX hr (qv 5) (af (aB (aH K) (qv 2) (qv 7)) aj)) (af (aB (aP K) (qv 9) ai) (af (aB (aP K) (qv 9) ai) aj)))))))))))))))))))),?_)
 refine(_,Z,dG hS h63 (by decide) (by decide) (by decide) (by decide) λgr _ _ _=>(Z,.inr (_,Z,?_)));obtain⟨gt,eg,hgt⟩:∃gt:Nat,(if decide (V.int gr=V.int 1)=true then(1:Int) else 0)=(gt:Int)/\gt<2:=by
  split
  .exact (1,Z,by decide)
  .exact (0,Z,by decide)
 show i9 1 (.int (if decide (V.int gr=V.int 1)=true then 1 else 0)) _ _ _;rw[eg];have Tr:∀x y:Int,1<=x->x<=40->1<=y->y<=40->∃n1:Int,lz [V.int x,V.int y] (gt:Int)=some (.int n1)/\1<=n1/\n1<=40/\(x<=16->y<=16->n1<=16):=λx y a1 a2 a3 a4=>by
  rcases(by omega:gt=0\/gt=1)with e|e
  .exact (x,e▸aE (j:=0) rfl,a1,a2,λz _=>z)
  .exact (y,e▸aE (j:=1) rfl,a3,a4,λ_ z=>z)
 refine(_,Z,_,Z,(gR 2),λp1 hp1=>?_);have g1:=aF hp1 (.lst [.int 6,.int 40]);have h1:upd H p1 (.lst [.int 6,.int 40]) p1=some (.lst [.int 6,.int 40]):=aq;show wk 1 _ (upd H p1 (.lst [.int 6,.int 40])) _;generalize upd H p1 (.lst [.int 6,.int 40])=H1 at *;have Cr:=g1.seq hS;obtain⟨n1,YO,n11,n12,_⟩:=Tr 6 40 (by decide) (by decide) (by decide) (by decide);refine(_,Z,p1,_,_,_,Z,Z,aC.of h1,YO,dG Cr h63 (by decide) (by decide) (by omega) (by omega) λod _ o0 o1=>(_,_,Z,Z,?_));obtain⟨no,hno⟩:∃no:Nat,1+od=(no:Int):=((1+od).toNat,by omega)
 refine AM hno Cr h63 (by decide) (by omega) λzo nso H2 g2 hzo _ alJ aej aek=>?_;have JV:=g2.seq Cr;refine(_,Z,(gR 2),λp3 hp3=>?_);have g3:=aF hp3 (.lst [.int 6,.int 16]);have h3:upd H2 p3 (.lst [.int 6,.int 16]) p3=some (.lst [.int 6,.int 16]):=aq;show wk 1 _ (upd H2 p3 (.lst [.int 6,.int 16])) _;generalize upd H2 p3 (.lst [.int 6,.int 16])=H3 at *;have Zc:=g3.seq JV;have ael:=g3 _ _ hzo;obtain⟨n2,at2,n21,_,n22⟩:=Tr 6 16 (by decide) (by decide) (by decide) (by decide);have n22:=n22 (by decide) (by decide);refine(_,Z,p3,_,_,_,Z,Z,aC.of h3,at2,dG Zc h63 (by decide) (by decide) (by omega) (by omega) λmd _ m0 m1=>(_,_,Z,Z,?_));obtain⟨BM,afH⟩:∃BM:Nat,1+md=(BM:Int):=((1+md).toNat,by omega)
 rw[afH];refine(_,Z,_,Z,_,_,Z,Z,AM (show(BM:Int)+4=((BM+4:Nat):Int) by omega) Zc h63 (by decide) (by omega) λzn nsn H4 g4 hzn _ alK aen aeo=>?_);have hS4:=g4.seq Zc;have Oh:=g4 _ _ ael;rw[Z6]at Oh hzn;have eU:=Q7 nso;have hnl:=Q7 nsn;have tE:=Jj aej;have Tt:=UX λx hx=>(aek x hx).1;have nmN:=Jj aen;have aiO:=UX λx hx=>(aeo x hx).1;generalize FI nso=own at *;generalize FI nsn=nms at *;clear aej aek aen aeo hzo ael h1 h3 Cr JV Zc hS hp1 hp3 Tr YO at2 g1 g2 g3 g4;refine(_,Z,⟨(zo,own,0,λ_=>none,Z,aC.of Oh,Z,tE,λo ho=>(Tt o ho).isNm,by omega,(λb c e=>by cases e),λρ5 A5 H5 sV F5=>?_)⟩);have o5:aM (out (λ_=>none) H4) (out ρ5 H5):=F5.out;refine(_,Z,⟨(zo,own,1,ρ5,Z,F5.seq (aC.of Oh) rfl,sV.g,by omega,λρ6 B6 H6 G6 JS k6=>?_)⟩);have F6:Fr 1 ρ5 H5 ρ6 H6:=λb o e _=>k6 b o e;have AU:HH T 0 ρ6 A5 H6 (kQ own):=sV.other F6 G6 (by decide);have o6:=o5.trans F6.out;have fS:=(zg.of hS4).go o6;have fN:=(zg.of (aC.of (K:=K) hzn)).go o6;have fO:=(zg.of (aC.of (K:=K) Oh)).go o6;obtain⟨Zd,en6⟩:=gd0 (own:=own) (by omega) (by omega) (λo ho=>(Tt o ho).isNm);have Zd:eX 0 (kQ own) (own,[],1,[],[]):=Zd;have en6:(kQ own).nms=[] :=en6;have gw6:=gw0 tE (by omega) (by omega) (λo ho=>(Tt o ho).isNm);have nx6:Nx nms (kQ own):=adi nmN (λx hx=>(aiO x hx).isNm);have ps6:=aiB own;have eo6:=aaE own;have owS:∀o∈own,PyData.strOk o=true:=λo ho=>zf (Tt o ho).isNm;generalize kQ own=st6 at *;obtain⟨x,eA⟩:∃x,A5.a=x:=(_,rfl)
 rw[eA];clear sV F5 o5 k6 F6 o6 Oh hzn hS4;refine(_,Z,_,Z,_,Z,_,Z,_,Z,_,Z,zn,_,Z,fN _ _ (aM.refl _),λp7 hp7=>?_);rw[aah];rw[show(nms.map V.str).take BM=(nms.take BM).map V.str from zV.symm];have g7:=aF hp7 (.lst ((nms.take BM).map V.str));have h7:upd H6 p7 (.lst ((nms.take BM).map V.str)) p7=some (.lst ((nms.take BM).map V.str)):=aq;show rj _ (upd H6 p7 (.lst ((nms.take BM).map V.str))) _;generalize upd H6 p7 (.lst ((nms.take BM).map V.str))=H7 at *;have cp7:ρ6 p7=none:=G6.none hp7;have fS7:=fS.go (ji (ρ:=ρ6) g7);have fN7:=fN.go (ji (ρ:=ρ6) g7);have fO7:=fO.go (ji (ρ:=ρ6) g7);have fP7:zg K ρ6 H7 p7 ((nms.take BM).map V.str):=λρ' H' s=>(aC.of (K:=K) h7).outs cp7 s;refine⟨(0,1,ρ6,A5,B6,st6,_,a,p7,ns,nms,BM,by rw[eA];rfl,by decide,AU.mono g7,JS.mono g7,Zd,gw6,ps6,by rw[eo6];omega,fS7,h63,fP7,nx6,by omega,by omega,en6,λρ8 A8 B8 st8 b8 H8 VQ hb8 gd8 gw8 ps8 Ze em8 V3 nx8 o8=>?_)⟩;have Zf:=fS7.go o8;have fN8:=fN7.go o8;have fO8:=fO7.go o8;have V3:b8.own=own:=V3;have es8:=gd8.rel.own.trans V3;rw[eA]at Ze;generalize B6.m=mm at *;clear AU JS Zd gw6 ps6 nx6 fS fN fO fS7 fN7 fO7 fP7 h7 o8 G6 eA hp7 g7;refine(_,Z,_,Z,_,Z,_,Z,_,Z,dG (Zf _ _ (aM.refl _)) h63 (by decide) (by decide) (by decide) (by decide) λrd _ r0 r1=>(_,_,Z,Z,?_));obtain⟨rn,RJ⟩:∃rn:Nat,1+rd=(rn:Int):=((1+rd).toNat,by omega)
 refine⟨(0,1,BM,0,100*BM,ρ8,A8,B8,st8,b8,a,zn,ns,24,nms,rn,by rw[Ze,em8,<-RJ];rfl,by decide,VQ,hb8,gd8,gw8,ps8,by omega,by omega,by rw[es8];omega,Zf,h63,by decide,by decide,fN8,nx8,by omega,λρ9 A9 B9 zL b9 H9 Y3 VJ GF Zg V4 Zh RS RT nx9 o9=>?_)⟩;have fS9:=Zf.go o9;have fO9:=fO8.go o9;have Zh:=Zh.trans Ze;have RS:=RS.trans em8;have RT:=RT.trans V3;have es9:=GF.rel.own.trans RT;have kn9:=Zg.kn;clear VQ hb8 gd8 gw8 ps8 nx8 Zf fN8 fO8 o9 Ze em8 V3 es8;refine(_,Z,_,Z,⟨(0,1,ρ9,A9,B9,zL,b9,_,by rw[Zh,RS];rfl,by decide,Y3,VJ,GF,by omega,(RT▸owS),by omega,λρ1 A1 H1 k1 ef hk1 hb1 Cv o1=>(_,Z,aR ?_))⟩);have Cv:=Cv.trans Zh;have fS1:=fS9.go o1;have Zi:=fO9.go o1;have ok:=Zg.g.st V4.pu.mo Zg.wf (by omega);have wf:=Zg.wf;have ok1:S0 { zL with kn:=k1 }:=(ef.wf,ok.wo,ok.wh,ok.la)
 have P0:0<zL.prod:=by have:=wf.gq;omega
 have b0:0<b9.bot:=by have:=GF.fD.b1;omega
 have wb:=GF.fD;have om1:H1 mm=some (.dK (fu B9 b9.bot)):=RS▸hb1.om;have oml:(own.map V.str).length=own.length:=aG ..;refine(_,Z,_,Z,zo,_,Z,.inl (Zi _ _ (aM.refl _)),dG (fS1 _ _ (aM.refl _)) h63 (by decide) (by decide) (by omega) (by omega) λsd _ s0 s1=>?_);rw[oml]at s1;obtain⟨js,o,ejs,eo,Gx⟩:=Ai (l:=own) s0 s1;have ho:=bg eo;have hoS:o∈zL.own:=es9▸ho;have hoB:o∈b9.own:=RT▸ho;have ej:own.idxOf o=js:=by have hjl:js<own.length:=(c_.mp eo).1;have e1:own[js]=o:=(c_.mp eo).2;rw[<-e1];exact tE.idxOf_getElem js hjl
 subst ejs;have pl:=wb.pl;have xK:(B9.qs.map λq=>V.ref q.1).length=b9.ah.length:=by rw[aG];exact hb1.ql
 have hj:js<b9.own.length:=RT▸(c_.mp eo).1;refine(_,Z,mm,_,Z,cD.k (k:=Sum.inr "parts") om1,B9.lp,Z,(_,aC.of hb1.op),λl0 gH=>?_);refine iD (J:=wC K B9.lp) (n:=b9.ah.length) 0 (λi o H'=>aM H1 H'/\o=((b9.ah.take i).map (λp:BP=>p.wo*p.tops.getD js 0)).map V.int) (by omega) (aF gH _,Z) (λi o H' hi _ hp=>(_,_,aC.of (hp.1 _ _ hb1.op),a_ (xK▸hi))) (λo H' _ hp=>(_,aC.of (hp.1 _ _ hb1.op),xK▸aO _)) ?_ ?_
 .rintro i y o H2 H3 hi eU ha ⟨g,e⟩ ⟨rfl,hy⟩;have ei:=a_ hi;generalize b9.ah[i]=p at ei;have pm:=bg ei;obtain⟨qq,eq,k1,k2,_,_⟩:=hb1.find ei;have ey:=hy _ (aC.of (g _ _ hb1.op));rw[bP,eq]at ey;cases ey;have tj:js<p.tops.length:=wb.tl p pm▸hj;have t0:=wb.t0 p pm _ (JL tj);have zw:Jm.Sz 60 p.wo:=by have w1:=wb.w1 p pm;exact((GF.whole (by omega)).2).of_le (by have:p.wo<=bV b9:=(B_ λx hx=>by obtain⟨q,hq,rfl⟩:=bw.mp hx;have:=wb.w1 q hq;omega).2 _ (bw.mpr (p,pm,Z));omega)
  refine(_,Z,qq.1,_,_,_,Z,Z,aC.of (g _ _ k1),aE (j:=2) rfl,_,Z,qq.1,_,_,_,Z,Z,aC.of (g _ _ k1),aE (j:=4) rfl,_,Z,qq.2,_,_,_,Z,Z,aC.of (g _ _ k2),getD_at tj,_,_,Z,Z,gi zw (wb.bz.of_le (by omega)),ha,g.cJ gH _,?_);subst e;rw[take_snoc ei,bQ,bQ];rfl
 rintro o1' H2 _ ha ⟨g2,e⟩;rw[cQ]at e;subst e;refine(l0,_,Z,aC.of ha,?_);show i9 8 (.int (VC b9 js)) _ _ _;have jW:=ef.mono g2;have hb2:=hb1.mono g2;have fO2:=Zi.go (ji g2);refine(_,Z,x,A1.dx,_,Z,Cv▸jW.h.oa,Z,_,Z,_,Z,zo,_,_,_,Z,Z,fO2 _ _ (aM.refl _),Gx,⟨(0,ρ1,A1,_,o,by rw[Cv];rfl,jW.h,ok1,hoS,λr H3 g3 hr3=>?_)⟩);have AX:=hb2.mono g3;have om3:H3 mm=some (.dK (fu B9 b9.bot)):=RS▸AX.om;refine(_,Z,_,Z,mm,_,Z,cD.k (k:=Sum.inr "bottom") om3,?_);have ej9:zL.own.idxOf o=js:=es9▸ej;refine Mm hr3 b0 (wb.bz.mono (by omega)) ?_ λH4 g4=>(_,Z,aR ?_)
 .show Jm.fr (zy { zL with kn:=k1 } (zL.own.idxOf o)) zL.prod=_;rw[ej9];exact Jm.Lp P0 b0 (VD GF wf (es9▸(c_.mp eo).1))
 have AY:=AX.mono g4;have g24:=(g2.trans g3).trans g4;have fO4:=Zi.go (ji g24);obtain⟨xx,yy,y1,y2,y3,y4⟩:=V4.xy;have bz:∀e∈b9.bM,Jm.Sz (60*xx+1) e.bot/\0<e.bot:=λe he=>(y4 e he,(V4.pu.bz e he).2)
 have tl:∀e∈b9.bM,e.tops.length<=b9.own.length:=λe he=>by obtain⟨i,hi,ei⟩:=oQ he;have l:=GF.bM.length;exact(GF.bM.get (a_ (show i<zL.bM.length by omega)) (by rw[a_ hi,ei])).2.2.2.2.1
 refine(_,Z,_,Z,_,Z,zo,_,_,_,Z,Z,fO4 _ _ (aM.refl _),Gx,⟨(1,60*xx+1,ρ1,B9,b9,o,by rw[RS];rfl,AY,hoB,wb.ol,by omega,by omega,bz,V4.pu.tz,tl,λr5 H5 g5 hr5=>?_)⟩);obtain⟨dz,d0⟩:=Nu (o:=o) (j:=b9.own.idxOf o) bz;have R:=V4.pu.rel o hoS;have e1:Vu { zL with kn:=k1 } o=Jm.fr (iS b9.bM o (b9.own.idxOf o)).1 (iS b9.bM o (b9.own.idxOf o)).2:=by show Jm.fr (zL.bN.getD (zL.own.idxOf o) 0) zL.prod=_;rw[GF.rel.own]at R ⊢;exact Jm.Lp P0 d0 R
 have c1:=Nat.mul_le_mul y2 (show 60*xx+1<=241 by omega);have g15:=g24.trans g5;have sV:=ef.mono g15;have fO5:=Zi.go (ji g15);refine(_,Z,x,A1.dx,_,Z,Cv▸sV.h.oa,Z,_,Z,_,Z,zo,_,_,_,Z,Z,fO5 _ _ (aM.refl _),Gx,⟨(0,ρ1,A1,_,o,by rw[Cv];rfl,sV.h,ef.wf,hoS,λr6 H6 g6 NL=>?_)⟩);have aev:=g6 _ _ hr5;exact(_,Z,r5,_,_,_,Z,Z,cU.of aev,aE (j:=0) rfl,_,Z,r5,_,_,_,Z,Z,cU.of aev,aE (j:=1) rfl,Mm NL d0 (dz.mono (by omega)) e1 λH7 _=>q H7)
end
def all_mk{l:PySem.W.OpenLaw}{w:World}{K:Fg}{h:Heap}{mg:SO}{fa:Addr}(X:K.In h)(G:h.Ns mainGlobals mg)(hfa:mg "law"=some (.ref fa)){f:Addr}{od an:Option Addr}{sl:Array (Option Value)}{oc kV dc pm cd ct:Value}(a:PySem.W.nsIn K mainGlobals "law"=some (some (.ref f)))(l1:K.lookup f=some (oc,od,.func (PySem.W.fnOf "law" "law" (gI sQ) (dU sQ) (aD sQ) .none kV dc pm an cd ct),sl))(c:PySem.W.codeIn K cd "law"=true)(k:PySem.W.keepIn K (.ref f)=true)(GG:c8 K "common_factor" qp)(V5:c8 K "made_of" Av)(V6:c8 K "is_name" Aw)(Iw:c8 K "check_amount" rR)(Oi:c8 K "check_loss" vd)(Oj:c8 K "amounts_of" ve)(GH:c8 K "factor_of_all" qt)(PL:c8 K "_law_draw" xE)(PM:c8 K "_law_name" xF)(Dk:c8 K "_law_many_names" nM)(PN:c8 K "_law_much" xG)(Tu:c8 K "_law_int" yM)(Ol:c8 K "_law_least" vz)(V7:c8 K "_law_is" Az)(EC:c8 K "_law_part_list" oZ)(Dl:c8 K "_law_share_list" nO)(Cw:c8 K "_law_tells_parts" mT)(Bc:c8 K "_law_tells_landed" mh)(Om:c8 K "_law_tells" vB)(Oo:c8 K "_law_model" vD)(PR:c8 K "_law_seat" xM)(GI:c8 K "_law_new_part" qA)(Oq:c8 K "_law_begin" vE)(V8:c8 K "_law_at" AB)(PU:c8 K "_law_rows" xO)(PV:c8 K "_law_flat" xP)(ED:c8 K "_law_part_deed" o_)(PX:c8 K "_law_deed" xQ)(PY:c8 K "_law_bear" xR)(Dm:c8 K "_law_model_cast" nT)(EE:c8 K "_law_model_one" pe)(GJ:c8 K "_law_model_do" qC)(Iz:c8 K "_law_hold_do" sP)(Tv:c8 K "_law_run" yS)(GK:c8 K "_law_purse_of" qE)(KG:c8 K "_law_loaded" t8)(afI:PySem.W.nsIn K mainGlobals "len"=some none)(aaJ:PySem.W.nsIn K mainGlobals "range"=some none)(afJ:PySem.W.nsIn K mainGlobals "sum"=some none)(aew:PySem.W.nsIn K mainGlobals "list"=some none)(afK:PySem.W.nsIn K mainGlobals "zip"=some none)(afL:PySem.W.nsIn K mainGlobals "all"=some none)(afM:PySem.W.nsIn K mainGlobals "int"=some none)(aex:PySem.W.nsIn K mainGlobals "bool"=some none)(afN:PySem.W.nsIn K mainGlobals "str"=some none)(aaK:PySem.W.nsIn K mainGlobals "tuple"=some none)(afO:PySem.W.nsIn K mainGlobals "abs"=some none)(Ot:PySem.W.nsIn K mainGlobals "isinstance"=some none)(afP:PySem.W.nsIn K mainGlobals "min"=some none){Tw:Tok}(V9:PySem.W.nsIn K mainGlobals "LETTERS"=some (some (.str "abcdefghijklmnopqrstuvwxyz" Tw))){cM:Addr}(aaL:PySem.W.nsIn K mainGlobals "Hold"=some (some (.ref cM)))(aaM:PySem.W.plainGet K cM Str.empty=true)(aaN:PySem.W.hasDictIn K cM=true)(aaO:PySem.W.plainOver K cM=true)(aaP:PySem.W.findIn K (.ref cM) "__setattr__"=some (some (.builtin "object.__setattr__")))(aaQ:PySem.W.makesIn K cM=true)(aaR:PySem.W.keepIn K (.ref cM)=true)(PZ:dj K cM "__init__" "Hold.__init__" xr)(GL:dj K cM "place_of" "Hold.place_of" qw)(IA:dj K cM "part_of" "Hold.part_of" rT)(EF:dj K cM "check_new" "Hold.check_new" oX)(Ou:dj K cM "parts" "Hold.parts" vg)(Ov:dj K cM "whole" "Hold.whole" vh)(AE:dj K cM "beyond_common" "Hold.beyond_common" lG)(IB:dj K cM "tops_of" "Hold.tops_of" rW)(P_:dj K cM "stow" "Hold.stow" xh)(Qa:dj K cM "sign" "Hold.sign" xj)(Qc:dj K cM "load" "Hold.load" xm)(KH:dj K cM "shares" "Hold.shares" tW)(KI:dj K cM "landed" "Hold.landed" tY)(GN:dj K cM "given_up" "Hold.given_up" qx)(KJ:dj K cM "lessen" "Hold.lessen" tT)(Ow:dj K cM "blend" "Hold.blend" vj)(Qd:dj K cM "cast" "Hold.cast" xu)(Ox:dj K cM "award" "Hold.award" vn)(KL:dj K cM "mishap" "Hold.mishap" tZ)(Qe:dj K cM "rise" "Hold.rise" xA)(Qf:dj K cM "hand" "Hold.hand" xB)(Qg:dj K cM "land" "Hold.land" xC)(Oz:dj K cM "sever" "Hold.sever" vq)(KN:dj K cM "roster" "Hold.roster" t7)(EG:dj K cM "stake_top" "Hold.stake_top" oY)(OA:dj K cM "stake" "Hold.stake" vt)(OB:dj K cM "purse" "Hold.purse" vv)(KO:PySem.W.findIn K (.ref cM) "places"=some none)(KP:PySem.W.findIn K (.ref cM) "aboard"=some none)(KQ:PySem.W.findIn K (.ref cM) "ashore"=some none)(OC:PySem.W.findIn K (.ref cM) "names"=some none)(KR:PySem.W.findIn K (.ref cM) "bottom"=some none)(KS:PySem.W.findIn K (.ref cM) "common"=some none)(KU:PySem.W.findIn K (.ref cM) "purses"=some none){jq:Addr}(aaS:PySem.W.nsIn K mainGlobals "Part"=some (some (.ref jq)))(aaT:PySem.W.plainGet K jq Str.empty=true)(aaU:PySem.W.hasDictIn K jq=true)(aaV:PySem.W.plainOver K jq=true)(aaW:PySem.W.findIn K (.ref jq) "__setattr__"=some (some (.builtin "object.__setattr__")))(aaX:PySem.W.makesIn K jq=true)(aaY:PySem.W.keepIn K (.ref jq)=true)(Qh:dj K jq "__init__" "Part.__init__" xg)(Qi:PySem.W.findIn K (.ref jq) "name"=some none)(OD:PySem.W.findIn K (.ref jq) "owner"=some none)(OE:PySem.W.findIn K (.ref jq) "worth"=some none)(KW:PySem.W.findIn K (.ref jq) "weight"=some none)(OF:PySem.W.findIn K (.ref jq) "scale"=some none)(Tz:PySem.W.findIn K (.ref jq) "row"=some none){gh:Addr}(V_:PySem.W.nsIn K mainGlobals "Bottom"=some (some (.ref gh)))(Wa:PySem.W.plainGet K gh Str.empty=true)(Wb:PySem.W.hasDictIn K gh=true)(Wc:PySem.W.plainOver K gh=true)(Wd:PySem.W.findIn K (.ref gh) "__setattr__"=some (some (.builtin "object.__setattr__")))(We:PySem.W.makesIn K gh=true)(Wg:PySem.W.keepIn K (.ref gh)=true)(KY:dj K gh "__init__" "Bottom.__init__" tR)(KZ:dj K gh "over" "Bottom.over" tV)(IC:dj K gh "share" "Bottom.share" r8)(K0:dj K gh "grow" "Bottom.grow" tS)(ID:PySem.W.findIn K (.ref gh) "steps"=some none)(EH:PySem.W.findIn K (.ref gh) "product"=some none)(IE:PySem.W.findIn K (.ref gh) "known"=some none)
  :∃fd:FuncData,(∀(s:Shared)(v:Value),BindsTo s fd ([v],[]) [("_law_script",v)])/\∀base:Heap,K.In base->base.Ns mainGlobals mg->lu l.prog w K mg base wG 8 fa fd ["_law_script"] (Lq K):=by
 have e:=hfa.symm.trans (PySem.W.mg_of X G a)
 cases e
 have afQ:=Yw (st:=sQ) X G a l1 c k
 have yz:q_ K gh:=(Wa,Wb,Wc,Wd)
 have dD:q_ K cM:=(aaM,aaN,aaO,aaP)
 obtain⟨_,_,GO⟩:=GG.at X G
 obtain⟨_,_,Wh⟩:=V5.at X G
 obtain⟨_,_,Wi⟩:=V6.at X G
 obtain⟨_,_,IF⟩:=Iw.at X G
 obtain⟨_,_,OG⟩:=Oi.at X G
 obtain⟨_,_,OH⟩:=Oj.at X G
 obtain⟨_,_,GP⟩:=GH.at X G
 obtain⟨_,_,Qj⟩:=PL.at X G
 obtain⟨_,_,Qk⟩:=PM.at X G
 obtain⟨_,_,Dp⟩:=Dk.at X G
 obtain⟨_,_,Ql⟩:=PN.at X G
 obtain⟨_,_,TF⟩:=Tu.at X G
 obtain⟨_,_,OI⟩:=Ol.at X G
 obtain⟨_,_,Wj⟩:=V7.at X G
 obtain⟨_,_,EI⟩:=EC.at X G
 obtain⟨_,_,Dq⟩:=Dl.at X G
 obtain⟨_,_,Cy⟩:=Cw.at X G
 obtain⟨_,_,Bd⟩:=Bc.at X G
 obtain⟨_,_,OJ⟩:=Om.at X G
 obtain⟨_,_,OL⟩:=Oo.at X G
 obtain⟨_,_,Qm⟩:=PR.at X G
 obtain⟨_,_,GQ⟩:=GI.at X G
 obtain⟨_,_,OM⟩:=Oq.at X G
 obtain⟨_,_,Wl⟩:=V8.at X G
 obtain⟨_,_,Qn⟩:=PU.at X G
 obtain⟨_,_,Qo⟩:=PV.at X G
 obtain⟨_,_,EJ⟩:=ED.at X G
 obtain⟨_,_,Qp⟩:=PX.at X G
 obtain⟨_,_,Qq⟩:=PY.at X G
 obtain⟨_,_,Dr⟩:=Dm.at X G
 obtain⟨_,_,EK⟩:=EE.at X G
 obtain⟨_,_,GR⟩:=GJ.at X G
 obtain⟨_,_,IG⟩:=Iz.at X G
 obtain⟨_,_,TH⟩:=Tv.at X G
 obtain⟨_,_,GS⟩:=GK.at X G
 obtain⟨_,_,K1⟩:=KG.at X G
 have bq:=sX X G afI
 have bZ:=sX X G aaJ
 have fT:=sX X G afJ
 have dJ:=sX X G aew
 have jv:=sX X G afK
 have S7:=sX X G afL
 have C7:=sX X G afM
 have N4:=sX X G aex
 have su:=sX X G afN
 have iT:=sX X G aaK
 have Te:=sX X G afO
 have bY:=sX X G Ot
 have sL:=sX X G afP
 have Cg:=PySem.W.mg_of X G V9
 obtain⟨_,_,Qs⟩:=PZ.made X G aaL aaQ aaR
 obtain⟨_,_,GU⟩:=GL.at dD
 obtain⟨_,_,II⟩:=IA.at dD
 obtain⟨_,_,EL⟩:=EF.at dD
 obtain⟨_,_,ON⟩:=Ou.at dD
 obtain⟨_,_,OO⟩:=Ov.at dD
 obtain⟨_,_,AF⟩:=AE.at dD
 obtain⟨_,_,IJ⟩:=IB.at dD
 obtain⟨_,_,Qt⟩:=P_.at dD
 obtain⟨_,_,Qu⟩:=Qa.at dD
 obtain⟨_,_,Qv⟩:=Qc.at dD
 obtain⟨_,_,K2⟩:=KH.at dD
 obtain⟨_,_,K3⟩:=KI.at dD
 obtain⟨_,_,GV⟩:=GN.at dD
 obtain⟨_,_,K4⟩:=KJ.at dD
 obtain⟨_,_,OP⟩:=Ow.at dD
 obtain⟨_,_,Qw⟩:=Qd.at dD
 obtain⟨_,_,OQ⟩:=Ox.at dD
 obtain⟨_,_,K5⟩:=KL.at dD
 obtain⟨_,_,Qx⟩:=Qe.at dD
 obtain⟨_,_,Qy⟩:=Qf.at dD
 obtain⟨_,_,Qz⟩:=Qg.at dD
 obtain⟨_,_,OR⟩:=Oz.at dD
 obtain⟨_,_,K6⟩:=KN.at dD
 obtain⟨_,_,EM⟩:=EG.at dD
 obtain⟨_,_,OS⟩:=OA.at dD
 obtain⟨_,_,OT⟩:=OB.at dD
 obtain⟨_,_,QA⟩:=Qh.made X G aaS aaX aaY
 obtain⟨_,_,K7⟩:=KY.made X G V_ We Wg
 obtain⟨_,_,K8⟩:=KZ.at yz
 obtain⟨_,_,IK⟩:=IC.at yz
 obtain⟨_,_,K9⟩:=K0.at yz
 have TX:Txt K (cM,jq,gh):=(dD,(aaT,aaU,aaV,aaW),yz,KO,KP,KQ,OC,KR,KS,KU,Qi,OD,OE,KW,OF,Tz,ID,EH,IE)
 refine(PySem.W.fnOf "law" "law" (gI sQ) (dU sQ) (aD sQ) .none kV dc pm an cd ct,λs v=> .of_eq rfl,λbase _ _=>?_)
 have jf:=Ek (P:=l.prog) (w:=w) (base:=base) (mg:=mg) GO
 have Cf:=S4 (P:=l.prog) (w:=w) (base:=base) (mg:=mg) Wh S7
 have qP:=S_ Wi Cf bq Cg
 have nq:=El (P:=l.prog) (w:=w) (base:=base) (mg:=mg) (e:=(0,0,0,0,0,0,0,0,0,0,0)) IF
 have A_:=HW OG nq
 have jB:=adm nq
 have nJ:=adn A_
 have xw:=J5 (P:=l.prog) (w:=w) (base:=base) (mg:=mg) OH bq
 have rY:=Em GP jf
 have Es:=HY (P:=l.prog) (w:=w) (base:=base) (mg:=mg) K7 TX
 have zC:=ND (P:=l.prog) (w:=w) (base:=base) (mg:=mg) QA TX dJ
 have N_:=NP Qs TX Es
 have vm:=H_ (P:=l.prog) (w:=w) (base:=base) (mg:=mg) K9 TX
 have gY:=Ig K8 TX jf
 have tX:=Gs IK TX gY
 have qF:=C9 (P:=l.prog) (w:=w) (base:=base) (mg:=mg) (e:=(0,0,0,0,0,0,0,0,0,0,0)) GU TX
 have cL:=XR qF
 have jh:=Ep (P:=l.prog) (w:=w) (base:=base) (mg:=mg) (e:=(0,0,0,0,0,0,0,0,0,0,0)) II TX
 have c5:=Vx jh
 have vK:=Ci (e:=(0,0,0,0,0,0,0,0,0,0,0)) EL TX qP
 have jP:=adl vK
 have xJ:=J9 (P:=l.prog) (w:=w) (base:=base) (mg:=mg) ON TX
 have fE:=Ka (P:=l.prog) (w:=w) (base:=base) (mg:=mg) OO TX fT
 have gu:=zA (P:=l.prog) (w:=w) (base:=base) (mg:=mg) AF TX jv
 have gx:=Gn (P:=l.prog) (w:=w) (base:=base) (mg:=mg) IJ TX jv
 have mJ:=NI (P:=l.prog) (w:=w) (base:=base) (mg:=mg) Qt TX
 have mL:=NJ Qu TX qP bq
 have yQ:=NK Qv TX jP cL gu mJ zC bq
 have rZ:=Et (P:=l.prog) (w:=w) (base:=base) (mg:=mg) GV TX fT jv
 have j0:=Ie (P:=l.prog) (w:=w) (base:=base) (mg:=mg) K4 TX
 have lH:=Kd OP TX rY vm jv
 have yR:=NT Qw TX xw nJ c5 fE lH rZ j0 fT
 have zM:=Ii K2 TX c5 gx tX jv
 have vA:=Ik (P:=l.prog) (w:=w) (base:=base) (mg:=mg) K3 TX dJ
 have K_:=Il (e:=(0,0,0,0,0,0,0,0,0,0,0)) OQ TX qF nq fE lH bq
 have IL:=Gu (e:=(0,0,0,0,0,0,0,0,0,0,0)) K5 TX jh A_ j0
 have OU:=Kl (e:=(0,0,0,0,0,0,0,0,0,0,0)) Qx TX jh nq
 have OV:=Km (e:=(0,0,0,0,0,0,0,0,0,0,0)) Qy TX jh qF gx gu
 have OW:=Kn (e:=(0,0,0,0,0,0,0,0,0,0,0)) Qz TX jh cL gx zM jv
 have La:=Io (e:=(0,0,0,0,0,0,0,0,0,0,0)) OR TX jh vK mJ zC
 have mG:=Vm zM
 have vC:=Iq (P:=l.prog) (w:=w) (base:=base) (mg:=mg) K6 TX dJ
 have qy:=Dc EM TX fE fT
 have xW:=Kr OS TX gY qy cL
 have xX:=Ku OT TX gY cL
 have bD:=NZ (P:=l.prog) (w:=w) (base:=base) (mg:=mg) Qj bq bZ
 have uA:=N1 (P:=l.prog) (w:=w) (base:=base) (mg:=mg) Qk bZ
 have k_:=Co Dp bD uA bZ
 have iV:=N3 Ql bD
 have fU:=Pr (P:=l.prog) (w:=w) (base:=base) (mg:=mg) TF bY C7 N4
 have lI:=Kv (P:=l.prog) (w:=w) (base:=base) (mg:=mg) OI Te
 have nP:=Tg Wj fU lI bY iT bq
 have qz:=Df EI fU bY dJ iT su bZ bq
 have iH:=Cq Dq lI nP bY dJ iT su bZ bq
 have nQ:=Ba Cy fU qz iH xJ fE mG fT
 have mV:=AA Bd fU iH vA bY dJ iT su bZ bq
 have xV:=Kw OJ nQ mV vC bY dJ
 have xU:=Kz (P:=l.prog) (w:=w) (base:=base) (mg:=mg) OL dJ
 have fK:=N8 (P:=l.prog) (w:=w) (base:=base) (mg:=mg) Qm bq bZ
 have sO:=Ex GQ fK
 have xT:=KA (T:=(cM,jq,gh)) OM N_ mL
 have GX:=Ti (P:=l.prog) (w:=w) (base:=base) (mg:=mg) Wl bq bZ
 have uR:=ac3 GX
 have yN:=Oa Qn bD bq bZ dJ fT sL
 have yO:=Ob (P:=l.prog) (w:=w) (base:=base) (mg:=mg) Qo iT
 have qB:=Dh EJ bD iV yN yO bq fT sL
 have yU:=Oc Qp bD iV qB bq
 have mO:=Od (P:=l.prog) (w:=w) (base:=base) (mg:=mg) Qq bq bZ fT
 have pA:=Cu Dr uR mO
 have qD:=Dj EK GX fK dJ
 have jg:=EA GR qD sO pA mO fK bq bZ
 have jE:=GB IG mL yQ yR K_ IL OU OV OW La bq bZ
 have AD:=PK TH yU jE jg bZ
 have sR:=EB GS fK bq sL
 have vG:=Iu K1 bD iV jE jg bq bZ
 exact aei afQ bD k_ xT xU vG AD xV nP sR xW xX bq C7 fT
def walk{l:PySem.W.OpenLaw}{q:Program}{loose:Da Str}{XP:(Str->Option Value)->Heap->Prop}{YP:World->Heap->Prop}{d:DefRec}{K:Params->Fg}(hn:l.most=some 63)(hdf:d.params.defaults=[])(hY:∀(w:World) (h:Heap),YP w h->(K w.params).In h)(F:∀(w:World) (mg:SO) (fa:Addr) (h:Heap),(K w.params).In h->h.Ns mainGlobals mg->mg d.name=some (.ref fa)->
    ∃fd:FuncData,(∀(s:Shared) (u:Value),BindsTo s fd ([u],[]) [("_law_script",u)])/\∀base:Heap,(K w.params).In base->base.Ns mainGlobals mg->lu l.prog w (K w.params) mg base wG 8 fa fd ["_law_script"] (Lq (K w.params))):
  PySem.W.WalkO q loose XP YP l.row.toRowW d [] (λf vs=>PySem.call f vs):=
 L2.ZF (n:=63) (k:=8) (x:="_law_script") (CX:=λ_=>wG) (sp:=λw=>Lq (K w.params)) hn (by decide) hdf (Z,by decide,by decide) hY F (λ_ _ a ns hl _ hS=>(a,ns,Z,hS,hl,λ_=>rfl)) λ_ _ _ _ _ z=>z
end Law
end
namespace PySem.W
set_option genInjectivity false
structure Fast:Prop where(tw5944352413484111052 tw8405245014359952617 tw15561000326425693433 tw6408197549868667473 tw3017560218836803613 tw15238576401593415748 tw8840545283349232618 tw17761901218308353538 tw4312239695523654207 tw7338494059066827499 tw6670974607008803222 tw7336875232249466338 tw9317961631158479378 tw4460334561386467771 tw10221226856094157468 tw12785208957474488706 tw9516088901261807167 tw16218316938485907292 tw3209043423523342867 tw280629256620453409 tw4466035196988360307 tw7962997676651708989 tw8104818903418938843 tw5594610178313927239 tw17162149747715679614 tw1209223010401662086 tw731206710696320076 tw12253772644317626782 tw14645975637997344539 tw13973473767478320340 tw9011083704125993806 tw14652525568464103956 tw1123702146064154910 tw10330789810574266817 tw13397039628214736728 tw10023220700423665494 tw18362135840215090777 tw14789023548235373395 tw6224372577817862189 tw13892035720966766950 tw12362653383852058582 tw12845361769287864535 tw1088520882071475410 tw5966817330873569478 tw13851182568654866982 tw17870364813533706742 tw17708012519042954268 tw15970793819015886650 tw17074602457165352413 tw9458965928009311829 tw10251022964822808638 tw11784780007211972517 tw938643085172605520 tw9498741413598120874 tw300208434267533663 tw17604150212611901044 tw9057017273920650547 tw5651073293580716551 tw4887167873839647850 tw16016460170514330357 tw9942547908643466162 tw14718975007733328117 tw6934451922095359502 tw16120966797085109696 tw2505903810087775465 tw9330966511574439492 tw1815354271571908834 tw4838203425789763650 tw7571295974199179496 tw13650792808824842167 tw12266852769285213268 tw14664411971609641932 tw8470709158573544720 tw18062694546187340083 tw16585342304389799440 tw6479511388018196772 tw6578384920190044498 tw4855352315336059854 tw5814007613691848797 tw99804720401183261 tw9118052356466495367 tw14172043938703347682 tw15111044444925737835 tw14550822686403171486 tw17444118569658757413 tw8667852364231762935 tw6395070485033293721 tw12710864852790265436 tw16247313905176782220 tw12694310974662538575 tw12931905150040501509 tw17276363219926106857 tw7758620813587548637 tw6728994944063745146 tw16822215053424348574 tw14643787098631159908 tw11080277367492227117 tw5020719349303595996 tw6570995984894904114 tw12497502884298765667 tw94929446963231784 tw9013912265357020030 tw16029136410322917358 tw18010071139071124194 tw9960721280799432412 tw17271085378637997947 tw7261431140698212438 tw919829266118921835 tw11164509278130168758 tw11379283515562152451 tw4167891868573079427 tw18089560914388524728 tw2138198985204263220 tw934077708022682710 tw5325978655106578698 tw9964908160654776544 tw3546294622610684847 tw17976640964741730684 tw1089388654264502403 tw15507678109388399719 tw13113249105920307240 tw7289458691164124411 tw3636444041301280578 tw3854423457336538462 tw17131038204018210260 tw5699321115324292091 tw5814870652099073051 tw16920026862341194700 tw18036439611297753756 tw18277484237171949723 tw9160142687417684255 tw2727734622305307243 tw2457745522388435755 tw4356443628989614800 tw13922624045300598527 tw12900328584974978744 tw9047498090065379103 tw16343088079130335692 tw17862323620953806943 tw14270069800586613092 tw290580406207508324 tw13770908724930412628 tw6372624700248685480 tw17716010181594696219 tw4117968502396308248 tw2674716908862134762 tw3025088579022161446 tw12183709224412676522 tw3089079426261126723 tw5800594283476509385 tw11444205813093659646 tw6619498964808179611 tw8131332567099059049 tw15850750164379566646 tw7067836115894445419 tw3818056116968726921 tw16583666718632606283 tw17009772496696826213 tw10780119456746295826 tw666678672633860972 tw5856428069608754462 tw10806979229014129305 tw11227521393075441539 tw3621847432519104407 tw12349195070247409273 tw11956707865104217938 tw9065562453778951449 tw9937422254083884196 tw6231037547855324440 tw10532279336946081641 tw1799976438767407953 tw13145706924668487085 tw3142597319590693109 tw2920023783988796603 tw5166120210221690388 tw8213794334421033481 tw7733963978713328709 tw189444193601711114 tw8804646912381230976 tw18079826751456219288 tw186270698599877325 tw16457197512507212184 tw11294597497999549863 tw554752421539831592 tw9775985582482205776 tw568125649944555369 tw15384019500986996758 tw17432796354687293873 tw7036682189373776721 tw7771620199279471555 tw11436121608099597534 tw3930728472737507912 tw372925438794888516 tw17958017546490917403 tw15507598414525086921 tw1424924338902503784 tw14905947189346530295 tw13050027567622765252 tw9136980384061151787 tw11609107646641441355 tw16493667567308963016 tw4048912977062555861 tw4919757992474131613 tw16482630422623527193 tw5376731708043178668 tw5501977919124698843 tw12086917857289778644 tw11439271350284755471 tw6288532709777242109 tw2197541101175262395 tw14447947996268665350 tw2199245242167492877 tw17261515558364818490 tw9004251109526698828 tw12671176360445909941 tw669171426171652987 tw12471148137123845885 tw14788318719062073818 tw16318777052683043019 tw11638654455957207714 tw6132367699564401001 tw2462117252183698199 tw16037997687352416685 tw17805822951868476491 tw15443521666259224247 tw16983378977510340886 tw10991115877725563508 tw14443642916710432054 tw14325351809352599098 tw8838336718516957851 tw8568887203746977639 tw1080703763837066300 tw7154852903001534123 tw5842096490118566496 tw9588765992499903883 tw4476996270497557337 tw11245744467004331100 tw11642566867907879213 tw14525501439710197567 tw7671164988453023171 tw15043618340116272815 tw7863891854664117847 tw12779380253369922549 tw8115917649208982738 tw1859616708106765467 tw10873058517508540930 tw17642532254788789317 tw2667515850802890052 tw7779729391344786574 tw8779686757150161837 tw6271039312532059204 tw3081242617185099827 tw6512665792607787384 tw15411622184299879359 tw9133054441427336999 tw7220335473551910399 tw3658868960770957187 tw17813732066724415632 tw3770475894542146045 tw12501186394717493297 tw15137120120383438132 tw9222288443508210040 tw12741018249568409697 tw1789583453722264667 tw16882158019549003222 tw9858688283132406091 tw13246212532157519634 tw11998395663843382009 tw7269799154258054049 tw11466140582867694972 tw15511186114906071519 tw6144389339824317785 tw8908306139428308048 tw1598377010941889025 tw1737781769357567836 tw1882073364903661439 tw8179542636440617930 tw10519087884731649977 tw12852177123116691505 tw3844407602421758502 tw6633942016240398449 tw10801995841043093781 tw8158356064937381951 tw4859875605112701827 tw15331889050551334995 tw7063567196994604893 tw6677728493028172044 tw4400604571990434043 tw15030919811192655951 tw13862251306482659988 tw1547264368280415259 tw14661478678281432105 tw5940086347257673495 tw18270082381769125213 tw7150730016593839127 tw7804015522051758176 tw8567102760944522979 tw2947185874512515895 tw14395315068808126333 tw8249732340056481721 tw5454596780906012559 tw11697889657488789690 tw11974852778732862450 tw14320193960405859906 tw7677056788105559793 tw3230396849517632688 tw13338523187025325091 tw3379610305440973763 tw4324593565849742177 tw16096771609803754630 tw8119381845317545639 tw7778994984839328457 tw16252724235935187061 tw10559996163885351488 tw11882743933988410812 tw8813169425783155797 tw760406226004853221 tw12392643270382408664 tw12624938629531174485 tw14589588495015770760 tw5154806291618162996 tw4330058582738381696 tw14404865243166831726 tw13364100344706954517 tw17733535360202824637 tw12767201995037524909 tw2988692012548699759 tw10629624123870207915 tw12456331136009624236 tw4951532400889487145 tw15319523814796286784 tw12430686951102428573 tw10926703217503173801 tw7597548148266159122 tw10917992961045759795 tw3574213715378241018 tw6659828556956522838 tw1052042808907687073 tw6194000109991367949 tw85764033839756032 tw6310136874313181245 tw2261119717032140741 tw6649603531833687146 tw14964937804506782036 tw9511008397210594447 tw6166643991334176234 tw10633350363230752312 tw8415703465099672748 tw14940959381813293276 tw3654270192476846181 tw7495146242984824321 tw11826824180343114164 tw4946938185536536986 tw4343712922309083145 tw12763142260898918752 tw9884213600918987470 tw7101164107379537699 tw4838687646754997327 tw9442160231967762890 tw7366370114592411040 tw4220837794245614244 tw13734094782900260660 tw13723254651718784958 tw13467844765161586676 tw6374129182303589420 tw11379814763227423198 tw6577719654043327875 tw5854133803891592280 tw15936802162473354999 tw4004079741499123619 tw17983564680170489826 tw15189427196173678834 tw6631579156325772220 tw2091590404760719564 tw12817812522915440067 tw14431735424537332824 tw15773648840938222013 tw2188135062707453444 tw3208113550440125842 tw11494450916113317082 tw3926850008007929549 tw6492975090093483029 tw602108606002100343 tw12613307291774344900 tw6940447421854868280 tw2917289517900550580 tw13450838640829566627 tw5202901284205032791 tw14704636939081981950 tw1941654464009081910 tw10480775616281722176 tw4371756524911993564 tw3825223682639252439 tw13150635831519328311 tw2975815421706918294 tw6946886075564278361 tw16264160302343070242 tw12234670725469369694 tw6597514434968561294 tw6829819483704886678 tw10209235618051646524 tw16189842123769865732 tw8514054730161826350 tw3324022055775329245 tw15645804342339875471 tw16631982230959388607 tw10776188419853885007 tw16459747599377945478 tw6222601175485459273 tw3324993189999574555 tw7591809719985398127 tw4945870372074120238 tw9634525404494929107 tw13208515268336344088 tw11437308375319767263 tw14126944552817053054 tw9231763160897815284 tw13845006852327760337 tw1515188785554482550 tw1480627333334370796 tw8679669803196039331 tw8714653207292911275 tw18033530828727573187 tw1024722585168872401 tw10748351343871334802 tw8278093619155090132 tw3024745985782372702 tw804443618829363281 tw4830772290445998335 tw5232422171413586609 tw9144110625963248954 tw18285618608933266227 tw14285535714100329037 tw2290435011288183087 tw4775456387380174970 tw4100270157793228027 tw9022581776909455134 tw10658674331626481738 tw9427040999087984148 tw16765909935757057450 tw13445446307875104336 tw15704823478045641510 tw3579578489169701194 tw6737614701270464518 tw17768528599386068622 tw10327909777071351722 tw9331567868642362966 tw5864730279665067847 tw10187918185591240853 tw16349887957531361882 tw2032180433217352364 tw4491629692372350492 tw5052283039330038745 tw6614880537400081557 tw1111731436217703529 tw10439152992333053121 tw5858548421985736028 tw18334898218211991196 tw3503933181009201292 tw14525384787511434858 tw8076577724770359919 tw17920445943409427177 tw12816012684112819179 tw16957852252238465065 tw17811864309820466939 tw4694207709417151398 tw8128228108114710089 tw13441483619195249067 tw13146092528086804797 tw6913775660283002064 tw11325379445429207572 tw8096283566069499317 tw17172552614254214883 tw13017609581716025168 tw9694193013553459254 tw10526487141282636309 tw15684025174369340647 tw7291361310326814218 tw4377172457753963259 tw7085226693950079353 tw17747705962237445366 tw9747581981231159680 tw7907756873659778203 tw16382371690974735065 tw4014133997226511034 tw12115591826400501748 tw5224133683473005402 tw8629771472328708721 tw6287329497161808639 tw178333733974895753 tw2606635481379447993 tw8693095019166930777 tw14965738207146236168 tw978902742112633652 tw13039712015107824373 tw67262154368200552 tw15275406412387071648 tw18337434898452546661 tw697220781129719201 tw525197105459960577 tw14551808631485054704 tw16514791142785966123 tw9117116025507131580 tw16116368420317054662 tw11924105546072469686 tw14166582045966991096 tw6748441374981591586 tw7569409246490727474 tw16950339348453765071 tw3898805583979143186 tw12165901833604487301 tw17716786368888285506 tw16294208239554738228 tw5276672769277564557 tw9912832829095771951 tw16186053214940620643 tw18162014021429569213 tw6608473058715945428 tw5156797387638665488 tw3208533743945905825 tw12348056158489380153 tw5577123677478110726 tw9169186661931530618 tw363634280217238987 tw8492278406212145767 tw2093270133699412128 tw14665311141157816565 tw7116795027564758050 tw17188604044886143007 tw17989495534074439711 tw8007861415878611977 tw122982826881542725 tw8397776692455033893 tw7882082539786886144 tw4754239055385924394 tw899076402842477069 tw10791274581258272724 tw15184770295952142548 tw12474800900203955450 tw1289371965961547178 tw15616192905730207465 tw14702137137509377585 tw9674412503541728938 tw3198784651439448889 tw2970631262455372188 tw2600284057146638857 tw12891625287150827052 tw10292578679459981102 tw1216973352119368611 tw17424938500733805467 tw13207748905660987233 tw6580226255719762771 tw4707288094962456251 tw7715831696269452074 tw12684361153159337587 tw9107809605773612386 tw12563668521465927643 tw8941081004795851273 tw7837026378938053109 tw3418820132845136069 tw8429419802345754853 tw15709516351501355747 tw5559759400446529736 tw15492744637630350662 tw11357916730989461131 tw3854506073799717806 tw1977222917983835966 tw8920017167957078902 tw7400090853423627427 tw5416846814842102348 tw15532663578321087737 tw568055256260664052 tw10743081265737132535 tw13330459424540395504 tw5144106295304175798 tw8680607707313101523 tw7464071644857699309 tw13491257450566698447 tw1781690919227146810 tw5203305057471021888 tw8526580499202870291 tw11831678559557536683 tw3274714705544571952 tw13577641195198086231 tw8825438105866987353 tw7767363642610378195 tw10096426963870894831 tw2210767257122954617 tw1382475311092385605 tw2243984390053946575 tw8237361994309700896 tw2617804400689156203 tw12768870645492971593 tw4438692365438357812 tw14204637571585293861 tw3180490476691927416 tw12942458742545442349 tw8159322763507381228 tw4656850795482410565 tw14140829932542210999 tw7973019566859990627 tw17057864750549119929 tw12963607581314062544 tw9549780528854725792 tw13645103438658987617 tw8323655912330029911 tw893022042716943203 tw10397209606437387481 tw12432220550045250108 tw1585615594385329065 tw17439430015544216280 tw9282826302054732545 tw15419649388819604322 tw1271227805919244388 tw6301835067134143417 tw391543785297295281 tw2032455907891720213 tw18371328742832623820 tw6131583615385532096 tw12588072343532011102 tw10713040814369533009 tw12784868154988216768 tw531945970706345393 tw10369084179009063839 tw536449411760033079 tw1570785629707576497 tw2679657187845643642 tw2750533655875274461 tw5181203177337863854 tw6056480496749352047 tw14517564265535427161 tw6168888933805235161 tw8888070948324552163 tw9838024136027267030 tw743661819235496672 tw13637525816282026907 tw13334898420025641161 tw12589465823146011766 tw17557216213444015989 tw8499775614517252999 tw15887464314449836194 tw7749926019130537002 tw13626074348996258260 tw6767639100872806666 tw1448770865640226694 tw9606718185893108727 tw3730330911921307346 tw11296768303002543804 tw14310003182086146209 tw12413766997034047842 tw6524483706590300094 tw15650978673679172584 tw16149313749411981219 tw18012494210164027802 tw15297265674277668145 tw12353379534714699390 tw14499506362220720576 tw17023794870988369775 tw1768468076896262260 tw18152810225518761862 tw14501884408434886249 tw9642749097281852354 tw14958827789764873591 tw2686715347392023538 tw17866195536518217914 tw5517729072395629806 tw14985729414069380776 tw1369230939121904885 tw16489147045293717809 tw17515264724028206840 tw14604836818294228458 tw3566606897391611009 tw3771341234107051412 tw10406075601209859231 tw16924784690655118380 tw12384221426229743398 tw15706922808120470175 tw15476657474191259320 tw8242878504163788108 tw1836519688976346754 tw5289951567506398520 tw18204286248478524977 tw11152537594019207386 tw8544749709816731246 tw12209040664115932178 tw1187623982258451876 tw9117509924931574125 tw2729283327017761704 tw11773762596045497333 tw7083015112834218941 tw2302760536798941948 tw11170812688687353187 tw10126640524823879070 tw13884256095365669721 tw2974842236044116604 tw12227541995284202942 tw2487790869781928631 tw11752273551674595494 tw11842687294721000560 tw11737959113081211086 tw8896819451152033103 tw50467725115866985 tw9345279264864085245:True)
end PySem.W
open PySem PySem.W PyProof.Rows
set_option maxRecDepth 100000 in
set_option maxHeartbeats 0 in
theorem PySem.Challenge.cw_jettison_k66_whole_great_hold_by_a_plain_holds : PySem.Challenge.rw_jettison_k66_whole_great_hold_by_a_plain.Holds := by
 w_on;o_law;k_head;(case hw=>w_witness2)
 k_fill
 refine Law.walk (l:=PySem.Challenge.rw_jettison_k66_whole_great_hold_by_a_plain) rfl rfl (fun w h Y=>PySem.W.kIn_of Y) ?F
 case F=>
  intro w mg fa h KX G hmg
  refine' Law.all_mk KX G hmg ?_ ?_ ?_ ?_ ?_ ?_ ?_ ?_ ?_ ?_ ?_ ?_ ?_ ?_ ?_ ?_ ?_ ?_ ?_ ?_ ?_ ?_ ?_ ?_ ?_ ?_ ?_ ?_ ?_ ?_ ?_ ?_ ?_ ?_ ?_ ?_ ?_ ?_ ?_ ?_ ?_ ?_ ?_ ?_ ?_ ?_ ?_ ?_ ?_ ?_ ?_ ?_ ?_ ?_ ?_ ?_ ?_ ?_ ?_ ?_ ?_ ?_ ?_ ?_ ?_ ?_ ?_ ?_ ?_ ?_ ?_ ?_ ?_ ?_ ?_ ?_ ?_ ?_ ?_ ?_ ?_ ?_ ?_ ?_ ?_ ?_ ?_ ?_ ?_ ?_ ?_ ?_ ?_ ?_ ?_ ?_ ?_ ?_ ?_ ?_ ?_ ?_ ?_ ?_ ?_ ?_ ?_ ?_ ?_ ?_ ?_ ?_ ?_ ?_ ?_ ?_ ?_ ?_ ?_ ?_ ?_ ?_ ?_
  any_goals first|(refine' L2.c8.of ?a ?l ?c ?k;(case a=>k_is);(case l=>k_is);(case c=>k_is);(case k=>k_is))|(refine' L2.dj.of ?a ?i ?l ?c ?k;(case a=>k_is);(case i=>k_is);(case l=>k_is);(case c=>k_is);(case k=>k_is))|k_is
