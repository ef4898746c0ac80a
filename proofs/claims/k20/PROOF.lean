import PyProof.Rows.All
import Wide.All
import OpenK.AllK
import Wide.FinOn
import Lean
import PyProof.EqAt
import PyProof.EqKinds
import PyProof.TupleCall
import PySem.Challenge.RW_jettison_k20_casts_refused
set_option Elab.async false
set_option bootstrap.genMatcherCode false
set_option genSizeOf false
set_option genSizeOfSpec false
set_option linter.all false
set_option maxRecDepth 100000
local macro_rules|`(tactic|omega)=>`(tactic|lia)
abbrev Fg:=PySem.W.Frag
abbrev VS:=PySem.Value->PySem.Shared->Prop
abbrev AO:=List (PySem.Addr×PySem.Obj)
abbrev SO:=PySem.Str->Option PySem.Value
abbrev Da:=@List
set_option autoImplicit true
def VT:=@PySem.F.slot_dict_valueiterator_next
def Q9:=@Int.mul_le_mul_of_nonneg_right
def Gd:=@Int.mul_le_mul_of_nonneg_left
def VU:=@PySem.wpAny_typeNameOfWhole_keyiter
def VW:=@PySem.wpAny_typeNameOfWhole_valiter
def VX:=@PySem.F.slot_dict_keyiterator_next
def jO:=@PyProof.Rows.boot_isinstance
def Q_:=@PyProof.Rows.callWith_type1
def VY:=@Int.ediv_eq_of_eq_mul_right
def I0:=@List.getElem?_append_right
def ja:=@List.getD_eq_getElem?_getD
def OX:=@PySem.F.slot_tuple_iterator_next
def d8:=@List.getElem?_eq_some_iff
def I_:=@List.getElem?_append_left
def Jb:=@List.drop_eq_getElem_cons
def aS:=@List.getElem?_eq_getElem
def OY:=@PySem.wpAny_comprehension_free
def OZ:=@PySem.wpAny_typeNameOf_keyiter
def O0:=@PySem.wpAny_typeNameOf_valiter
def EE:=@Int.mul_ediv_cancel_left
def tW:=@PySem.F.slot_list_append
def tX:=@PySem.F.type_list_append
def xx:=@PySem.wpAny_callSpecial?_slot
def rR:=@PySem.F.plainAttrs_list
def Jc:=@PyProof.Rows.boot_tuple
def tY:=@List.getElem?_set_self
def bU:=@PySem.Heap.get?_push_of_some
def Jd:=@PySem.Heap.get?_update_other
def kT:=@Option.map_eq_some_iff
def yQ:=@List.take_of_length_le
def xy:=@List.zipWith_cons_cons
def O1:=@PySem.Calls.callWith_builtin
def xA:=@PyProof.Rows.boot_list
def jA:=@List.mem_append_right
def mK:=@List.length_replicate
def BQ:=@PySem.Heap.get?_update_self
def tZ:=@List.getElem?_eq_none
def O2:=@PySem.wpAny_isOneOf_valiter
def O3:=@List.getElem?_zipWith
def t8:=@PyProof.Rows.boot_sum
def EF:=@PyProof.Rows.boot_str
def Je:=@PySem.W.hideAll_none
def b_:=@List.mem_cons_of_mem
def EG:=@List.mem_append_left
def yR:=@List.getElem?_set_ne
def bP:=@List.mem_of_getElem?
def jP:=@Bool.and_eq_true_iff
def O4:=@PySem.intBits_le_iff
def EH:=@beq_eq_false_iff_ne
def O5:=@PySem.W.hideAll_get
def yS:=@List.filterMap_cons
def dZ:=@PySem.Heap.get?_push_size
def xB:=@PySem.mem_of_lookup
def BR:=@List.replicate_succ
def EI:=@Bool.or_eq_true_iff
def EJ:=@PySem.Heap.SameBut.update
def qi:=@List.length_zipWith
def t9:=@List.getElem_of_mem
def kU:=@Nat.lt_of_lt_of_le
def O6:=@PySem.W.of_hideAll
def cg:=@List.mem_cons_self
def EK:=@List.mem_filterMap
def fQ:=@Bool.false_ne_true
def EL:=@PySem.wpAny_Call_Name_kw
def O7:=@PySem.W.callWith_K
def cV:=@List.length_append
def O8:=@PySem.tupleKind_room_in1
def Jf:=@Nat.lt_of_le_of_lt
def eL:=@List.mem_singleton
def xC:=@Int.emod_lt_of_pos
def EM:=@Bool.false_eq_true
def EN:=@PySem.Obj.data_mapFields
def EO:=@PySem.wpAny_setField_rec
def O9:=@List.set_cons_succ
def O_:=@List.set_cons_zero
def Pa:=@PySem.F.slot_dict_values
def ko:=@of_decide_eq_false
def Jg:=@decide_eq_true_iff
def oO:=@PySem.W.mg_none_of
def Pb:=@PySem.wpAny_pyIter_list
def bF:=@List.getElem?_map
def gY:=@List.size_toArray
def vR:=@Int.toNat_natCast
def qj:=@PySem.wpAny_newObj_type
def Pc:=@List.flatten_cons
def Jh:=@List.append_assoc
def Pe:=@Option.isSome_map
def dI:=@of_decide_eq_true
def Pf:=@Nat.lt_succ_of_lt
def yT:=@PySem.wpAny_truthy_bool
def BU:=@List.length_range
def Pg:=@PySem.wpAny_dictEntries
def Ji:=@List.foldl_append
def Jj:=@List.getElem?_inj
def jB:=@Bool.eq_false_iff
def kq:=@List.length_cons
def kr:=@List.length_take
def Jk:=@List.length_drop
def xD:=@PySem.wpAny_call_entry
def BV:=@Bool.and_eq_true
def IA:=@List.cons_append
def iF:=@List.filter_cons
def xE:=@beq_self_eq_true
def IB:=@Int.ediv_le_self
def CQ:=@Nat.le_add_right
def k_:=@List.lookup_cons
def qP:=@List.all_eq_true
def vo:=@List.getElem_mem
def bN:=@List.take_length
def CS:=@List.drop_length
def dz:=@decide_eq_false
def ie:=@Option.some.inj
def tE:=@List.mem_filter
def fj:=@List.mem_append
def tF:=@Bool.eq_iff_iff
def aF:=@List.length_map
def oQ:=@PySem.W.kia_one
def tG:=@List.append_nil
def iG:=@List.nodup_cons
def lg:=@List.length_set
def lX:=@List.foldl_cons
def IC:=@List.nil_append
def tH:=@List.find?_cons
def ID:=@Option.map_some
def br:=@List.map_append
def nj:=@Int.emod_nonneg
def IE:=@Int.ediv_nonneg
def IF:=@List.forIn_cons
def IG:=@PySem.pushCells_keeps
def II:=@PySem.wpAny_dictEpoch
def IJ:=@PySem.F.slot_zip_next
def xF:=@PySem.wpAny_passesOwn
def xG:=@PySem.wpAny_execs_nil
def eU:=@PySem.PassesOwn.never
def xH:=@List.mem_range
def Am:=@Bool.false_and
def lY:=@PySem.Heap.size_push
def cu:=@decide_eq_true
def CT:=@Int.natAbs_mul
def CU:=@List.forIn_nil
def vq:=@PySem.wpAny_fieldsOf
def An:=@PySem.wpAny_setField
def tK:=@PySem.wpAny_seqItems
def qQ:=@List.nodup_nil
def nq:=@Int.mul_nonneg
def cU:=@PySem.boot_len
def je:=@Nat.lt_irrefl
def cJ:=@List.mem_cons
def bJ:=@List.map_cons
def xJ:=@PySem.wpAny_holding
def CV:=@List.any_cons
def ku:=@PySem.W.mg_of
def c9:=@List.sum_cons
def Ao:=@PySem.wpAny_standAt
def jH:=@Int.mul_assoc
def Aq:=@List.map_take
def Ar:=@Bool.true_and
def bK:=@PySem.Heap.lt_size
def dW:=@Nat.ne_of_lt
def fL:=@Nat.le_trans
def CW:=@Nat.le_of_lt
def xK:=@Nat.ne_of_gt
def As:=@PySem.codeAny_mono
def Au:=@Int.ediv_one
def bR:=@List.mem_map
def xM:=@Int.le_of_lt
def CY:=@Int.lt_or_le
def vt:=@List.set_set
def ig:=@List.map_map
def Av:=@Nat.sub_self
def qR:=@Int.mul_comm
def xN:=@List.map_set
def tL:=@Sum.inr.inj
def aN:=@Nat.le_refl
def eV:=@Nat.zero_le
def eW:=@PySem.sizeLine_eq
def kB:=@PySem.wpAny_field
def lZ:=@Int.le_refl
def oR:=@Int.mul_add
def Aw:=@Int.add_mul
def gX:=@PySem.wpAny_mono
def aJ:=@PySem.wpAny_pure
def aq:=@PySem.wpAny_bind
def lq:=@beq_iff_eq
def gF:=@congrArg
def lu:=@if_false
def cy:=@Ne.symm
def oS:=@if_true
def aC:=@if_pos
def aB:=@if_neg
def Z{α:Sort _}{a:α}:a=a:=rfl
namespace L2
open PySem PySem.Spec PyProof.Rows
abbrev Key:=Sum Int Str
def xO:Key->Value->Bool
 | .inl k,v=>Value.isInt k v
 | .inr x,v=>Value.isStrOf x v
def afD(w:World):Key->Int
 | .inl k=>hashInt k
 | .inr x=>hashStr w x
theorem gm:∀{k:Key}{v:Value},xO k v=true->(∃i t,k=Sum.inl i/\v=Value.int i t)\/(∃x t,k=Sum.inr x/\v=Value.str x t)
 | .inl i,v,h=>by obtain⟨t,e⟩:=Value.isInt_shape (k:=i) (v:=v) h;exact .inl ⟨i,t,Z,e⟩
 | .inr x,v,h=>by obtain⟨t,e⟩:=Value.isStrOf_shape (x:=x) (v:=v) h;exact .inr ⟨x,t,Z,e⟩
def Ra(i:Int)(t:Tok):xO (.inl i) (.int i t)=true:=by simp[xO,Value.isInt]
def Rb(x:Str)(t:Tok):xO (.inr x) (.str x t)=true:=by simp[xO,Value.isStrOf]
def YM(a b:Int):decide ((Sum.inl a:Key)=Sum.inl b)=(a==b):=by
 by_cases e:a=b
 .subst e;simp
 .have h:¬ (Sum.inl a:Key)=Sum.inl b:=λq=>e (Sum.inl.inj q);rw[dz h];exact(EH.mpr e).symm
def YN(a b:Str):decide ((Sum.inr a:Key)=Sum.inr b)=decide (a=b):=by
 by_cases e:a=b
 .subst e;simp
 .have h:¬ (Sum.inr a:Key)=Sum.inr b:=λq=>e (tL q);rw[dz h,dz e]
def YO(a:Int)(b:Str):decide ((Sum.inl a:Key)=Sum.inr b)=false:=dz (λq=>nomatch q)
def YQ(a:Str)(b:Int):decide ((Sum.inr a:Key)=Sum.inl b)=false:=dz (λq=>nomatch q)
def cY(prog:Program)(w:World):PySem.KeyKind prog w Key where
 is:=xO
 hash:=afD w
 inj:=λv a b ha hb=>by
  rcases gm ha with⟨i,t,rfl,rfl⟩|⟨x,t,rfl,rfl⟩
  .rcases gm hb with⟨j,u,rfl,e⟩|⟨y,u,rfl,e⟩
   .injection e with e1 _;rw[e1]
   .exact nomatch e
  .rcases gm hb with⟨j,u,rfl,e⟩|⟨y,u,rfl,e⟩
   .exact nomatch e
   .injection e with e1 _;rw[e1]
 byValue:=λk v h=>by rcases gm h with⟨i,t,rfl,rfl⟩|⟨x,t,rfl,rfl⟩ <;> rfl
 pyHash:=λhv h=>by
  rcases gm hv with⟨i,t,rfl,rfl⟩|⟨x,t,rfl,rfl⟩
  .exact wpAny_pyHash_int h
  .exact wpAny_pyHash_str h
 eqBool:=λhu hv h=>by
  rcases gm hu with⟨i,t,rfl,rfl⟩|⟨x,t,rfl,rfl⟩
  .rcases gm hv with⟨j,u,rfl,rfl⟩|⟨y,u,rfl,rfl⟩
   .rw [YM]at h;exact wpAny_eqBool_int h
   .rw [YO]at h;exact SeqAt.EqAt.int_str i t y u _ _ _ _ h
  .rcases gm hv with⟨j,u,rfl,rfl⟩|⟨y,u,rfl,rfl⟩
   .rw [YQ]at h;exact SeqAt.EqAt.str_int x t j u _ _ _ _ h
   .rw [YN]at h;exact wpAny_eqBool_str h
 «strs»:=λk x t v h=>by
  rcases gm h with⟨i,u,rfl,e⟩|⟨y,u,rfl,e⟩
  .exact nomatch e
  .injection e with e1 _;subst e1;cases v <;> rfl
def Ph(prog:Program)(w:World)(k:Key)(v:Value):(cY prog w).is k v=xO k v:=rfl
def Mi(prog:Program)(w:World)(i:Int)(t:Tok):(cY prog w).is (.inl i) (.int i t)=true:=Ra i t
def Mj(prog:Program)(w:World)(x:Str)(t:Tok):(cY prog w).is (.inr x) (.str x t)=true:=Rb x t
inductive V where
 | cD|bl (b:Bool)|int (i:Int)|str (x:Str)|wH (b:Array UInt8)|Ge (b:UInt64)|ref (a:Addr)|ty (n:String)
 deriving DecidableEq
def RelV:V->Value->Prop
 | .cD,u=>u=Value.none
 | .bl b,u=>u=Value.bool b
 | .int i,u=>∃t,u=Value.int i t
 | .str x,u=>∃t,u=Value.str x t
 | .wH b,u=>∃t,u=Value.bytes b t
 | .Ge b,u=>∃t,u=Value.float b t
 | .ref a,u=>u=Value.ref a
 | .ty n,u=>u=Value.type n
abbrev Vals:Da V->Da Value->Prop:=Paired RelV
variable {xs:Da V}{us:Da Value}
theorem Vals.length(r:Vals xs us):xs.length=us.length:=Paired.length r
theorem Vals.get:∀{xs:Da V}{us:Da Value}{i:Nat}{x:V},Vals xs us->xs[i]?=some x->∃u,us[i]?=some u/\RelV x u
 | _,_,_,_,.nil,e=>by simp at e
 | _,_,0,_,.cons r _,e=>by simp at e;subst e;exact⟨_,Z,r⟩
 | _,_,i+1,x,.cons _ t,e=>by obtain⟨u,h1,h2⟩:=Vals.get (i:=i) (x:=x) t (by simpa using e);exact⟨u,by simpa using h1,h2⟩
theorem Vals.set{x:V}{u:Value}(r:RelV x u):∀{xs:Da V}{us:Da Value}(i:Nat),Vals xs us->Vals (xs.set i x) (us.set i u)
 | _,_,_,.nil=> .nil
 | _,_,0,.cons _ t=> .cons r t
 | _,_,i+1,.cons q t=> .cons q (Vals.set r i t)
theorem Vals.append:∀{xs ys:Da V}{us ws:Da Value},Vals xs us->Vals ys ws->Vals (xs++ys) (us++ws)
 | _,_,_,_,.nil,s=>s
 | _,_,_,_,.cons r t,s=> .cons r (Vals.append t s)
theorem Vals.take:∀{xs:Da V}{us:Da Value}(n:Nat),Vals xs us->Vals (xs.take n) (us.take n)
 | _,_,0,_=> .nil
 | _,_,_+1,.nil=> .nil
 | _,_,n+1,.cons r t=> .cons r (Vals.take n t)
theorem Vals.drop:∀{xs:Da V}{us:Da Value}(n:Nat),Vals xs us->Vals (xs.drop n) (us.drop n)
 | _,_,0,r=>r
 | _,_,_+1,.nil=> .nil
 | _,_,n+1,.cons _ t=>Vals.drop n t
def mL:Option V->Option Value->Prop
 | some v,some u=>RelV v u
 | none,none=>True
 | _,_=>False
def KV{κ:Type}:Da (κ×V)->Da (κ×Value)->Prop:=Paired λ(p:κ×V)(q:κ×Value)=>p.1=q.1/\RelV p.2 q.2
def kV:Key->V
 | .inl i=> .int i
 | .inr x=> .str x
inductive HO where
 | lst (xs:Da V)
 | tup (xs:Da V)
 | dK (Ap:Da (Key×V))|dT (Ap:Da (Da Key×V))
 | set (S:Int->Bool) (n:Nat)
 | ins (C dx:Addr) (fs:Da (Str×V))
 | own (x:Addr)
 | xd (fs:Da (Str×V))
 | met (f x:Addr)
 | vv (lo hi:Int)
 | fF (o:Obj) (u:HO)
 | Gf (ps:Array Value)
 | ext (φ:Heap->Prop)
abbrev Hp:=Addr->Option HO
def upd(H:Hp)(a:Addr)(o:HO):Hp:=λb=>if b=a then some o else H b
variable {H:Hp}{a:Addr}{o:HO}
def ah:upd H a o a=some o:=by unfold upd;rw[aC rfl]
def av{b:Addr}(h:b≠a):upd H a o b=H b:=by unfold upd;rw[aB h]
def qm{u:HO}:upd (upd H a o) a u=upd H a u:=by funext b;unfold upd;split <;> rfl
def iZ{b:Addr}{u:HO}(h:H a=some o)(h':H b=some u)(d:o≠u):a≠b:=by intro e;subst e;rw[h]at h';exact d (ie h')
def aH{b:Addr}(h:H a=some o)(h':H b=none):a≠b:=by intro e;subst e;rw[h]at h';cases h'
section
variable (P:Program)(w:World)
def dM(H:Hp)(h:Heap)(a:Addr):HO->Prop
 | .lst xs=>xs.length<=sizeLine/\∃(Bi:Da Value)(n:Nat),Vals xs Bi/\h.get? a=some { cls:=.type "list",data:=.seq Bi.toArray n }
 | .tup xs=>xs.length<=sizeLine/\∃Bi:Da Value,Vals xs Bi/\IsTup h a Bi.toArray
 | .dK Ap=>Ap.length<=sizeLine/\(a==sysModules)=false/\∃vs,KV Ap vs/\h.DictOf (cY P w) a vs
 | .dT Ap=>Ap.length<=sizeLine/\(a==sysModules)=false/\∃xs:Da (Da Key×Addr×Value),
     Paired (λ(p:Da Key×V)(q:Da Key×Addr×Value)=>p.1=q.1/\H q.2.1=some (.tup (p.1.map kV))/\RelV p.2 q.2.2) Ap xs/\
     ∃o es ep,h.get? a=some o/\o.ExactDict/\o.data =.dict es ep/\es.toList=xs.map (entryOfKey (tupleKind (cY P w)))/\(xs.map (·.1)).Nodup
 | .set S n=>h.SetOf (intKind P w) a S n
 | .ins C dx fs=>H dx=some (.own a)/\fs.length<=1000/\dx≠a/\h.get? a=some (PySem.W.instObj C dx)/\
     ∃mA,h.Ns1 dx mA/\(∀f,mL (fs.lookup f) (mA f))/\PySem.Within mA (fs.map (·.1))
 | .own _=>∃o,h.get? a=some o
 | .xd fs=>∃mA,h.Ns1 a mA/\∀f,mL (fs.lookup f) (mA f)
 | .vv lo hi=>∃t u v,h.get? a=some { cls:=.type "range",data:=.fields #[.int lo t,.int hi u,.int 1 v] }
 | .fF o u=>h.get? a=some o/\dM H h a u
 | .Gf ps=>h.get? a=some { cls:=.none,data:=.fields ps }
 | .met f x=>h.get? a=some (PySem.W.methodObj (.ref f) (.ref x))
 | .ext φ=>φ h/\(∃o,h.get? a=some o)/\∀h1 h2:Heap,φ h1->(∀o,h1.get? a=some o->h2.get? a=some o)->φ h2
def gU(H:Hp)(h:Heap):Prop:=∀a o,H a=some o->dM P w H h a o
end
section
variable {P:Program}{w:World}{H H':Hp}{h h':Heap}{a:Addr}{o:HO}
theorem dM.lt(x:dM P w H h a o):a<h.objs.size:=by
 cases o with
 | lst xs=>obtain⟨_,_,_,_,e⟩:=x;exact bK e
 | tup xs=>obtain⟨_,_,_,p⟩:=x;exact p.lt
 | dK Ap=>obtain⟨_,_,_,_,o,_,_,e,_⟩:=x;exact bK e
 | dT Ap=>obtain⟨_,_,_,_,o,_,_,e,_⟩:=x;exact bK e
 | set S n=>obtain⟨o,_,_,_,e,_⟩:=x;exact bK e
 | ins C dx fs=>obtain⟨_,_,_,e,_⟩:=x;exact bK e
 | own y=>obtain⟨_,e⟩:=x;exact bK e
 | xd fs=>obtain⟨_,⟨_,_,_,e,_⟩,_⟩:=x;exact bK e
 | vv lo hi=>obtain⟨_,_,_,e⟩:=x;exact bK e
 | fF ob u=>obtain⟨e,_⟩:=x;exact bK e
 | Gf ps=>exact bK (show h.get? a=some _ from x)
 | met f y=>exact bK (show h.get? a=some _ from x)
 | ext φ=>obtain⟨_,⟨_,e⟩,_⟩:=x;exact bK e
theorem Paired.Ur{α β:Type}{F G:α->β->Prop}:∀{l₁:Da α}{l₂:Da β},Paired F l₁ l₂->(∀a b,F a b->G a b)->Paired G l₁ l₂
 | _,_,.nil,_=> .nil
 | _,_,.cons r t,f=> .cons (f _ _ r) (Paired.Ur t f)
def dM.stay(x:dM P w H h a o)(k:∀b u,(b=a\/H b=some (.own a))->h.get? b=some u->h'.get? b=some u)(ho:∀b,H b=some (.own a)->H' b=some (.own a))(ht:∀b xs,H b=some (.tup xs)->H' b=some (.tup xs)):dM P w H' h' a o:=by
 induction o with
 | lst xs=>obtain⟨z,Bi,n,r,e⟩:=x;exact⟨z,Bi,n,r,k _ _ (.inl rfl) e⟩
 | tup xs=>obtain⟨z,Bi,r,ob,e,c⟩:=x;exact⟨z,Bi,r,ob,k _ _ (.inl rfl) e,c⟩
 | dK Ap=>obtain⟨z,y,vs,r,ob,es,ep,e,c⟩:=x;exact⟨z,y,vs,r,ob,es,ep,k _ _ (.inl rfl) e,c⟩
 | dT Ap=>
   obtain⟨z,y,xs,r,ob,es,ep,e,c⟩:=x
   exact⟨z,y,xs,Paired.Ur r λp q z=>⟨z.1,ht _ _ z.2.1,z.2.2⟩,ob,es,ep,k _ _ (.inl rfl) e,c⟩
 | set S n=>obtain⟨ob,es,ep,t,e,c⟩:=x;exact⟨ob,es,ep,t,k _ _ (.inl rfl) e,c⟩
 | ins C dx fs=>
   obtain⟨d,z,ne,e,mA,⟨od,es,ep,e2,c⟩,r⟩:=x
   exact⟨ho _ d,z,ne,k _ _ (.inl rfl) e,mA,⟨od,es,ep,k _ _ (.inr d) e2,c⟩,r⟩
 | own y=>obtain⟨ob,e⟩:=x;exact⟨ob,k _ _ (.inl rfl) e⟩
 | xd fs=>obtain⟨mA,⟨od,es,ep,e,c⟩,r⟩:=x;exact⟨mA,⟨od,es,ep,k _ _ (.inl rfl) e,c⟩,r⟩
 | vv lo hi=>obtain⟨t,u,v,e⟩:=x;exact⟨t,u,v,k _ _ (.inl rfl) e⟩
 | fF ob u ih=>obtain⟨e,q⟩:=x;exact⟨k _ _ (.inl rfl) e,ih q⟩
 | Gf ps=>
   have e:h.get? a=some { cls:=.none,data:=.fields ps }:=x
   show h'.get? a=some { cls:=.none,data:=.fields ps }
   exact k a _ (.inl rfl) e
 | met f y=>
   have e:h.get? a=some (PySem.W.methodObj (.ref f) (.ref y)):=x
   show h'.get? a=some (PySem.W.methodObj (.ref f) (.ref y))
   exact k a _ (.inl rfl) e
 | ext φ=>obtain⟨p,⟨o,e⟩,st⟩:=x;exact⟨st _ _ p λo q=>k _ _ (.inl rfl) q,⟨o,k _ _ (.inl rfl) e⟩,st⟩
theorem gU.lt(x:gU P w H h)(e:H a=some o):a<h.objs.size:=(x a o e).lt
def gU.fresh(x:gU P w H h)(e:h.objs.size<=a):H a=none:=by
 cases q:H a with
 | none=>rfl
 | some u=>exact absurd (kU (x.lt q) e) (je _)
def gU.kept(x:gU P w H h)(k:∀b u,h.get? b=some u->h'.get? b=some u):gU P w H h':=λa o e=>
 (x a o e).stay (λb u _ q=>k b u q) (λ_ q=>q) λ_ _ q=>q
def gU.laid(x:gU P w H h)(k:∀b u,h.get? b=some u->h'.get? b=some u)(hp:h.objs.size<=a)(new:dM P w (upd H a o) h' a o):gU P w (upd H a o) h':=λb u e=>by
 have hn:=x.fresh hp;by_cases hb:b=a
 .subst hb;rw[ah]at e;cases e;exact new
 .rw [av hb]at e;exact(x b u e).stay (λc v _ q=>k c v q) (λc q=>by rw[av (aH q hn)];exact q) λc xs q=>by rw[av (aH q hn)];exact q
end
def Rd(H:Hp)(a:Addr)(u:HO):Prop:=H a=some u\/∃o,H a=some (.fF o u)
variable {P:Program}{h:Heap}
def Rd.ok{w:World}{u:HO}(r:Rd H a u)(x:gU P w H h):dM P w H h a u:=by
 rcases r with r|⟨o,r⟩
 .exact x a u r
 .obtain ⟨_,q⟩:=x a _ r;exact q
def Rc:Option HO->Prop
 | some (.lst _)=>True
 | some (.dK _)=>True
 | some (.dT _)=>True
 | some (.set _ _)=>True
 | some (.ins _ _ _)=>True
 | some (.ext _)=>True
 | _=>False
section
variable {P:Program}{w:World}{H:Hp}{h h':Heap}{x e:Addr}{o':HO}
def gU.write(ok:gU P w H h)(mu:Rc (H x))(he:e=x\/H e=some (.own x))(k:∀b u,b≠e->h.get? b=some u->h'.get? b=some u)(Nz:∃u,h'.get? e=some u)(new:dM P w (upd H x o') h' x o'):gU P w (upd H x o') h':=λb u q=>by
 have YR:∀c y,H c=some (.own y)->c≠x:=λc y r z=>by subst z;rw[r]at mu;exact mu
 have afE:∀c xs,H c=some (.tup xs)->c≠x:=λc xs r z=>by subst z;rw[r]at mu;exact mu
 by_cases hb:b=x
 . subst hb;rw[ah]at q;cases q;exact new
 . rw[av hb]at q
   by_cases Jl:b=e
   . have q':H b=some (.own x):=by
      rcases he with z|z
      . exact absurd (Jl.trans z) hb
      . rw[Jl];exact z
     rw[q]at q';cases q'
     obtain⟨v,hv⟩:=Nz
     exact⟨v,by rw[Jl];exact hv⟩
   . refine(ok b u q).stay (λc v hc r=>k c v ?_ r) (λc r=>by rw[av (YR c b r)];exact r) λc xs r=>by rw[av (afE c xs r)];exact r
     rcases hc with rfl|hc
     . exact Jl
     . rintro rfl
       rcases he with z|z
       . exact YR c b hc z
       . rw[hc]at z;cases z;exact hb rfl
end
structure Un(fs ex:Da Addr)(H H':Hp)(h h':Heap):Prop where
 keep:∀b o,h.get? b=some o->H b=none->b∉fs->b∉ex->h'.get? b=some o
 slot:∀b o,h.get? b=some o->H b=none->b∈fs->b∉ex->∃sl,h'.get? b=some { o with slots:=sl }
 free:∀b o,h.get? b=some o->H b=none->b∉ex->H' b=none
 there:∀b o,h.get? b=some o->b∉ex->∃o',h'.get? b=some o'
 tups:∀b xs,H b=some (.tup xs)->H' b=some (.tup xs)
 mO:∀b o u,H b=some (.fF o u)->H' b=some (.fF o u)
 oU:∀b ps,H b=some (.Gf ps)->∃more,H' b=some (.Gf (ps++more))
section
variable {fs fs' ex ex':Da Addr}{H H1 H2:Hp}{h h1 h2 h':Heap}{a x e:Addr}{o:HO}
def Un.any(u:Un fs ex H H1 h h1){b:Addr}(q:h.get? b=some ob)(n:H b=none)(hx:b∉ex):∃sl,h1.get? b=some { ob with slots:=sl }:=by
 by_cases hb:b∈fs
 .exact u.slot b ob q n hb hx
 .exact ⟨ob.slots,u.keep b ob q n hb hx⟩
def Un.kept(k:∀b u,h.get? b=some u->h'.get? b=some u):Un fs ex H H h h':=⟨λb ob q _ _ _=>k b ob q,λb ob q _ _ _=>⟨ob.slots,k b ob q⟩,λ_ _ _ n _=>n,λb ob q _=>⟨ob,k b ob q⟩,λ_ _ q=>q,λ_ _ _ q=>q,λ_ ps q=>⟨#[],by rw[q];simp⟩⟩
def Un.refl:Un fs ex H H h h:=Un.kept λ_ _ q=>q
def Un.laid(k:∀b u,h.get? b=some u->h'.get? b=some u)(hp:h.objs.size<=a)(hn:H a=none):Un fs ex H (upd H a o) h h' where
 keep:=λb u q _ _ _=>k b u q
 slot:=λb u q _ _ _=>⟨u.slots,k b u q⟩
 free:=λb u q n _=>by rw[av (dW (kU (bK q) hp))];exact n
 there:=λb u q _=>⟨u,k b u q⟩
 tups:=λb xs q=>by rw[av (aH q hn)];exact q
 mO:=λb u xs q=>by rw[av (aH q hn)];exact q
 oU:=λb ps q=>⟨#[],by rw[av (aH q hn),q];simp⟩
def Un.write(mu:Rc (H x))(he:e=x\/H e=some (.own x))(k:∀b u,b≠e->h.get? b=some u->h'.get? b=some u)(Nz:∃u,h'.get? e=some u):Un fs ex H (upd H x o) h h':=by
 have hx:∀b,H b=none->b≠x:=λb n z=>by subst z;rw[n]at mu;exact mu
 have hb:∀b,H b=none->b≠e:=λb n z=>by
  subst z;rcases he with r|r
  .exact hx b n r
  .rw [n]at r;cases r
 have hm:∀b u,H b=some u->¬ Rc (some u)->b≠x:=λb u q nm z=>by subst z;rw[q]at mu;exact nm mu
 refine⟨λb u q n _ _=>k b u (hb b n) q,λb u q n _ _=>⟨u.slots,k b u (hb b n) q⟩,λb u q n _=>by rw[av (hx b n)];exact n,λb u q _=>?_,
  λb xs q=>by rw[av (hm b _ q λz=>z)];exact q,λb u xs q=>by rw[av (hm b _ q λz=>z)];exact q,λb ps q=>⟨#[],by rw[av (hm b _ q λz=>z),q];simp⟩⟩
 by_cases Jl:b=e
 .subst Jl;exact Nz
 .exact ⟨u,k b u Jl q⟩
end
def VZ(h:Heap)(H:Hp):Da Addr:=(List.range h.objs.size).filter λa=>(H a).isSome
def xP(h:Heap)(H:Hp):Heap:=PySem.W.hideAll h (VZ h H)
def Rg(h:Heap)(H:Hp):(xP h H).objs.size=h.objs.size:=PySem.W.hideAll_size _ _
def Us{b:Addr}{o:Obj}(e:h.get? b=some o)(n:H b=none):(xP h H).get? b=some o:=O5 _ e λhm=>by have q:(H b).isSome=true:=(tE.mp hm).2;rw[n]at q;simp at q
def W7{b:Addr}{o:Obj}(e:(xP h H).get? b=some o):h.get? b=some o/\H b=none:=by
 have e':h.get? b=some o:=O6 (VZ h H) e;refine⟨e',?_⟩;cases q:H b with
 | none=>rfl
 | some x=>have hm:b∈VZ h H:=tE.mpr ⟨xH.mpr (bK e'),by simp[q]⟩;have z:(xP h H).get? b=none:=Je (VZ h H) hm;rw[z]at e;cases e
structure Mod(K:Fg)(mg:SO)(base:Heap):Prop where
 NB:K.In base
 glob:base.Ns mainGlobals mg
 blt:∃mb,base.Ns builtinsNs mb/\∀x:Str,x ≠ "__name__"->mb x=bootBuiltins x
 nolimit:base.NoLimit
structure Cx where
 prog:Program
 w:World
 K:Fg
 mg:Str->Option Value
 base:Heap
 A:Around
 N:Da Str
 s₀:Shared
 H₀:Hp
 env:Env
 outer:Da Env
 stack:Da Env
 ex:Da Addr
 fn:Str->Bool
 calm:Bool
 pn:Da (Addr×Obj)
 xe:Value->Shared->Prop
def frs(l:Da Env):Da Addr:=l.filterMap (·.frame)
abbrev Cx.fs(X:Cx):Da Addr:=frs X.outer
def Rh(sc:Scope)(x:Str):Prop:=sc.names.lookup x=some .local\/sc.names.lookup x=some .cell\/sc.names.lookup x=some .free
def Loc(sc:Scope)(x:Str):Prop:=sc.names.lookup x=some .local\/sc.names.lookup x=some .cell
def Look(env:Env)(h:Heap)(m:SO)(x:Str)(u:Value):Prop:=(env.kindOf x=some .local/\m x=some u)\/((env.kindOf x=some .cell\/env.kindOf x=some .free)/\∃c,env.cells.lookup x=some c/\h.IsCell c (some u))
structure Cx.Ok(X:Cx):Prop where
 mod:Mod X.K X.mg X.base
 kind:X.env.scope.kind =.function
 glob:X.env.globals=mainGlobals
 blt:X.env.builtins=builtinsNs
 above:X.s₀.heap.objs.size<=X.env.locals
 inj:∀x y c,X.env.cells.lookup x=some c->X.env.cells.lookup y=some c->x=y
 has:∀x,(X.env.kindOf x=some .cell\/X.env.kindOf x=some .free)->∃c,X.env.cells.lookup x=some c
 gW:∀x c,X.fn x=true->X.env.cells.lookup x=some c->X.s₀.heap.objs.size<=c
 hd:X.calm=true->X.A.handled=none
 frames:X.A.frames=some X.stack
 stk:X.stack=X.outer\/(X.stack=X.env::X.outer/\X.env.frame=some X.env.locals)
 Jo:∀b∈X.ex,b≠X.env.locals/\∀x c,X.env.cells.lookup x=some c->c≠b
 bs:∀b o,X.base.get? b=some o->X.s₀.heap.get? b=some o/\X.H₀ b=none
 CZ:X.base.objs.size<=X.s₀.heap.objs.size
 ER:∀b o,X.base.get? b=some o->b∉X.ex
 BW:∀b∈X.ex,b∉X.fs
 nJ:X.s₀.heap.FunFrames X.base X.outer
 Gg:∀b∈X.fs,X.H₀ b=none
structure Inv(X:Cx)(AT:AO)(σ:Da (Option V))(H:Hp)(s:Shared):Prop where
 ok:X.Ok
 os:s.os=X.s₀.os
 bare:AllBare s.gens
 base:Un X.fs X.ex X.H₀ H X.s₀.heap s.heap
 loc:∃m,s.heap.Ns X.env.locals m/\∀(i:Nat)(x:Str)(v:V),X.N[i]?=some x->σ[i]?=some (some v)->Rh X.env.scope x->∃u,RelV v u/\Look X.env s.heap m x u
 cell:∀x c,X.env.cells.lookup x=some c->∃v,s.heap.IsCell c v
 free:H X.env.locals=none
 jI:∀x c,X.env.cells.lookup x=some c->H c=none
 pin:∀p∈X.pn++AT,s.heap.get? p.1=some p.2/\H p.1=none/\p.1≠X.env.locals/\p.1∉X.fs/\∀v,p.2.data ≠ .cell v
 hok:gU X.prog X.w H s.heap
 len:σ.length=X.N.length
variable {g':Array GenState}{t' i j:Nat}{ch:Da Addr}{it:Addr}{N:Da Str}{x:Str}{M:Model}{A:Around}{E:VS}{u:Value}{Q:Unit->Shared->Prop}
section
variable {X:Cx}{AT:AO}{σ:Da (Option V)}{H H':Hp}{s:Shared}{h':Heap}
def Cx.Ok.afF(ok:X.Ok){b:Addr}{o:Obj}(e:X.base.get? b=some o):b∉X.fs:=λhb=>by have:=(ok.nJ.mem hb).1;rw[e]at this;cases this
theorem Inv.bs(I:Inv X AT σ H s):∀b o,X.base.get? b=some o->s.heap.get? b=some o/\H b=none:=λb o e=>
 ⟨I.base.keep b o (I.ok.bs b o e).1 (I.ok.bs b o e).2 (I.ok.afF e) (I.ok.ER b o e),I.base.free b o (I.ok.bs b o e).1 (I.ok.bs b o e).2 (I.ok.ER b o e)⟩
def Inv.bk(I:Inv X AT σ H s):∀b o,X.base.get? b=some o->s.heap.get? b=some o:=λb o e=>(I.bs b o e).1
theorem Inv.mod(I:Inv X AT σ H s):Mod X.K X.mg X.base:=I.ok.mod
def Inv.iQ(I:Inv X AT σ H s):X.K.In s.heap:=I.ok.mod.NB.keeps I.bk
theorem Inv.lt(I:Inv X AT σ H s):X.env.locals<s.heap.objs.size:=let⟨_,hn,_⟩:=I.loc;hn.lt
def Inv.sz(I:Inv X AT σ H s):X.s₀.heap.objs.size<=s.heap.objs.size:=fL I.ok.above (CW I.lt)
def Inv.afG(I:Inv X AT σ H s)(h:s.heap.objs.size<=a):a∉X.fs:=λhb=>by obtain⟨_,o,ho,_⟩:=I.ok.nJ.mem hb;exact absurd (kU (bK ho) (fL I.sz h)) (je _)
def Inv.Gi(I:Inv X AT σ H s):∀x c,X.env.cells.lookup x=some c->c≠X.env.locals:=λx c e z=>by obtain⟨v,o,ho,hd⟩:=I.cell x c e;obtain⟨m,⟨o',es,ep,ho',hd',_⟩,_⟩:=I.loc;rw[z,ho']at ho;cases ho;rw[hd']at hd;cases hd
theorem Inv.nJ(I:Inv X AT σ H s):s.heap.FunFrames X.base X.outer:=by
 have all:∀(l:Da Env),(∀b∈frs l,b∈X.fs)->X.s₀.heap.FunFrames X.base l->s.heap.FunFrames X.base l:=by
  intro l
  induction l with
  | nil=>intro _ _;trivial
  | cons env r ih=>intro hs hl;obtain⟨hk,⟨L,o,hf,hn,ho,hd⟩,hr⟩:=hl;have hL:L∈X.fs:=hs L (by unfold frs;rw[yS,hf];exact cg);obtain⟨sl,e⟩:=I.base.slot L o ho (I.ok.Gg L hL) hL λz=>I.ok.BW L z hL;exact⟨hk,⟨L,_,hf,hn,e,hd⟩,ih (λb hb=>hs b (by unfold frs;rw[yS,hf];exact b_ _ hb)) hr⟩
 exact all X.outer (λ_ hb=>hb) I.ok.nJ
theorem Inv.stack(I:Inv X AT σ H s):s.heap.FunFrames X.base X.stack:=by
 rcases I.ok.stk with e|⟨e,hf⟩
 .rw [e];exact I.nJ
 .rw [e];obtain⟨m,hn,_⟩:=I.loc;refine .cons (by rw[I.ok.kind];decide) hf hn ?_ I.nJ;exact Heap.get?_none_of_le (fL I.ok.CZ I.ok.above)
def Inv.Jp(I:Inv X AT σ H s):∀b∈frs X.stack,b∈X.env.locals::X.fs:=λb hb=>by
 rcases I.ok.stk with e|⟨e,hf⟩
 .rw [e]at hb;exact b_ _ hb
 .rw [e]at hb;unfold frs at hb;rw[yS,hf]at hb;exact hb
def Inv.wI(I:Inv X AT σ H s):∀b∈frs X.stack,H b=none:=λb hb=>by
 rcases cJ.mp (I.Jp b hb)with e|hb
 .rw [e];exact I.free
 .obtain ⟨_,o,ho,_⟩:=I.ok.nJ.mem hb;exact I.base.free b o ho (I.ok.Gg b hb) λz=>I.ok.BW b z hb
def Inv.step{d':Drawn}(I:Inv X AT σ H s)(hch:∀b∈ch,(b∈X.ex\/X.s₀.heap.objs.size<=b)/\b≠X.env.locals/\(∀x c,X.env.cells.lookup x=some c->c≠b)/\∀p∈X.pn++AT,p.1≠b)(keep:∀b o,b≠X.env.locals->b∉X.fs->b∉ch->s.heap.get? b=some o->H b=none->h'.get? b=some o)(slot:∀b o,b≠X.env.locals->b∈X.fs->b∉ch->s.heap.get? b=some o->H b=none->∃sl,h'.get? b=some { o with slots:=sl })(free:∀b o,b∉ch->s.heap.get? b=some o->H b=none->H' b=none)(there:∀b o,b∉ch->s.heap.get? b=some o->∃o',h'.get? b=some o')(tups:∀b xs,H b=some (.tup xs)->H' b=some (.tup xs))(mO:∀b o u,H b=some (.fF o u)->H' b=some (.fF o u))(oU:∀b ps,H b=some (.Gf ps)->∃more,H' b=some (.Gf (ps++more)))(ns:∀m,s.heap.Ns X.env.locals m->h'.Ns X.env.locals m)(hok:gU X.prog X.w H' h')(hg:AllBare g'):
  Inv X AT σ H' { s with heap:=h',gens:=g',drawn:=d',toks:=t' }:=by
 have NC:∀b o,X.s₀.heap.get? b=some o->b≠X.env.locals:=λb o e=>dW (kU (bK e) I.ok.above)
 have V0:∀b o,X.s₀.heap.get? b=some o->b∉X.ex->b∉ch:=λb o e hx hb=>by
  rcases(hch b hb).1 with z|z
  .exact hx z
  .exact absurd (kU (bK e) z) (je _)
 have cellK:∀x c,X.env.cells.lookup x=some c->∀v,s.heap.IsCell c v->h'.IsCell c v:=λx c e v ⟨o,ho,hd⟩=>by
  have wJ:c∉ch:=λz=>(hch c z).2.2.1 x c e rfl;by_cases hc:c∈X.fs
  .obtain ⟨sl,q⟩:=slot c o (I.Gi x c e) hc wJ ho (I.jI x c e);exact⟨_,q,hd⟩
  .exact ⟨o,keep c o (I.Gi x c e) hc wJ ho (I.jI x c e),hd⟩
 refine⟨I.ok,I.os,hg,⟨λb o e n hb hx=>?_,λb o e n hb hx=>?_,λb o e n hx=>?_,λb o e hx=>?_,λb xs e=>tups b xs (I.base.tups b xs e),λb o xs e=>mO b o xs (I.base.mO b o xs e),λb ps e=>?_⟩,?_,λx c e=>?_,?_,λx c e=>?_,λp hp=>?_,hok,I.len⟩
 . exact keep b o (NC b o e) hb (V0 b o e hx) (I.base.keep b o e n hb hx) (I.base.free b o e n hx)
 . obtain⟨sl,e1⟩:=I.base.slot b o e n hb hx
   obtain⟨Jq,e2⟩:=slot b _ (NC b o e) hb (V0 b o e hx) e1 (I.base.free b o e n hx)
   exact⟨Jq,e2⟩
 . obtain⟨o',e1⟩:=I.base.there b o e hx
   exact free b o' (V0 b o e hx) e1 (I.base.free b o e n hx)
 . obtain⟨o',e1⟩:=I.base.there b o e hx
   exact there b o' (V0 b o e hx) e1
 . obtain⟨m1,e1⟩:=I.base.oU b ps e
   obtain⟨m2,e2⟩:=oU b _ e1
   exact⟨m1++m2,by rw[e2,Array.append_assoc]⟩
 . obtain⟨m,hn,hl⟩:=I.loc
   refine⟨m,ns m hn,λi x v e1 e2 e3=>?_⟩
   obtain⟨u,r,l⟩:=hl i x v e1 e2 e3
   refine⟨u,r,?_⟩
   rcases l with l|⟨k,c,e,z⟩
   . exact .inl l
   . exact .inr ⟨k,c,e,cellK x c e _ z⟩
 . obtain⟨v,z⟩:=I.cell x c e
   exact⟨v,cellK x c e v z⟩
 . obtain⟨m,⟨o,_,_,ho,_⟩,_⟩:=I.loc
   exact free _ o (λz=>(hch _ z).2.1 rfl) ho I.free
 . obtain⟨v,o,ho,hd⟩:=I.cell x c e
   exact free c o (λz=>(hch c z).2.2.1 x c e rfl) ho (I.jI x c e)
 . obtain⟨e,n,ne,nf,d⟩:=I.pin p hp
   have wJ:p.1∉ch:=λz=>(hch p.1 z).2.2.2 p hp rfl
   exact⟨keep p.1 p.2 ne nf wJ e n,free p.1 p.2 wJ e n,ne,nf,d⟩
def Inv.un(I:Inv X AT σ H s)(u:Un X.fs [] H H' s.heap h')(hok:gU X.prog X.w H' h'):Inv X AT σ H' { s with heap:=h',toks:=t' }:=by obtain⟨m,⟨o,es,ep,ho,r⟩,_⟩:=id I.loc;obtain⟨sl,hL⟩:=u.any ho I.free (by simp);exact I.step (g':=s.gens) (d':=s.drawn) (ch:=[]) (λ_ z=>nomatch z) (λb o _ hb _ e n=>u.keep b o e n hb (by simp)) (λb o _ hb _ e n=>u.slot b o e n hb (by simp)) (λb o _ e n=>u.free b o e n (by simp)) (λb o _ e=>u.there b o e (by simp)) u.tups u.mO u.oU (λm' hm=>by obtain⟨o',es',wK,ho',r'⟩:=hm;rw[ho]at ho';cases ho';exact⟨_,es',wK,hL,r'⟩) hok I.bare
def Inv.call{d':Drawn}(I:Inv X AT σ H s)(u:Un (frs X.stack) ch H H' s.heap h')(hok:gU X.prog X.w H' h')(hg:AllBare g')(hch:∀b∈ch,(b∈X.ex\/X.s₀.heap.objs.size<=b)/\b≠X.env.locals/\(∀x c,X.env.cells.lookup x=some c->c≠b)/\∀p∈X.pn++AT,p.1≠b):
  Inv X AT σ H' { s with heap:=h',gens:=g',drawn:=d',toks:=t' }:=by
 obtain⟨m,⟨o,es,ep,ho,r⟩,_⟩:=id I.loc
 obtain⟨sl,hL⟩:=u.any ho I.free λz=>(hch _ z).2.1 rfl
 exact I.step (ch:=ch) hch (λb o hL hb hc e n=>u.keep b o e n (λz=>(cJ.mp (I.Jp b z)).elim hL hb) hc) (λb o _ _ hc e n=>u.any e n hc) (λb o hc e n=>u.free b o e n hc) (λb o hc e=>u.there b o e hc) u.tups u.mO u.oU (λm' hm=>by obtain⟨o',es',wK,ho',r'⟩:=hm;rw[ho]at ho';cases ho';exact⟨_,es',wK,hL,r'⟩) hok hg
def Inv.turned(I:Inv X AT σ H s)(k:∀b o,b≠it->s.heap.get? b=some o->h'.get? b=some o)(hn:H it=none)(hL:it≠X.env.locals)(h1:it∈X.ex\/X.s₀.heap.objs.size<=it)(h2:∀x c,X.env.cells.lookup x=some c->c≠it)(h3:∀p∈X.pn++AT,p.1≠it):Inv X AT σ H { s with heap:=h',toks:=t' }:=by
 have nit:∀b u,H b=some u->b≠it:=λb u e z=>by rw[z,hn]at e;cases e
 refine I.step (g':=s.gens) (d':=s.drawn) (ch:=[it]) (λb hb=>?_) (λb o _ _ hc e _=>k b o (λz=>hc (by simp[z])) e) (λb o _ _ hc e _=>⟨o.slots,k b o (λz=>hc (by simp[z])) e⟩) (λ_ _ _ _ n=>n)
  (λb o hc e=>⟨o,k b o (λz=>hc (by simp[z])) e⟩) (λ_ _ e=>e) (λ_ _ _ e=>e) (λb ps e=>⟨#[],by rw[e];simp⟩) (λm hm=>?_) (λb u e=>?_) I.bare
 . have e:b=it:=by simpa using hb
   subst e
   exact⟨h1,hL,h2,h3⟩
 . obtain⟨o,es,ep,ho,r⟩:=hm
   exact⟨o,es,ep,k _ o (cy hL) ho,r⟩
 . refine(I.hok b u e).stay (λc v hc q=>k c v ?_ q) (λ_ q=>q) λ_ _ q=>q
   rcases hc with z|z
   . rw[z];exact nit b u e
   . exact nit c _ z
def Inv.tok(I:Inv X AT σ H s)(t:Nat):Inv X AT σ H { s with toks:=t }:=I.un (h':=s.heap) (t':=t) Un.refl I.hok
theorem Inv.kept(I:Inv X AT σ H s)(k:∀b u,s.heap.get? b=some u->h'.get? b=some u):Inv X AT σ H { s with heap:=h',toks:=t' }:=I.un (Un.kept k) (I.hok.kept k)
theorem Inv.laid(I:Inv X AT σ H s)(k:∀b u,s.heap.get? b=some u->h'.get? b=some u)(hp:s.heap.objs.size<=a)(new:dM X.prog X.w (upd H a o) h' a o):Inv X AT σ (upd H a o) { s with heap:=h',toks:=t' }:=I.un (Un.laid k hp (I.hok.fresh hp)) (I.hok.laid k hp new)
theorem Inv.write{x e:Addr}(I:Inv X AT σ H s)(mu:Rc (H x))(he:e=x\/H e=some (.own x))(k:∀b u,b≠e->s.heap.get? b=some u->h'.get? b=some u)(Nz:∃u,h'.get? e=some u)(new:dM X.prog X.w (upd H x o) h' x o):Inv X AT σ (upd H x o) { s with heap:=h',toks:=t' }:=I.un (Un.write mu he k Nz) (I.hok.write mu he k Nz new)
def Inv.ND{V1:AO}(I:Inv X AT σ H s)(h:∀p∈V1,s.heap.get? p.1=some p.2/\H p.1=none/\p.1≠X.env.locals/\p.1∉X.fs/\∀v,p.2.data ≠ .cell v):Inv X V1 σ H s:=⟨I.ok,I.os,I.bare,I.base,I.loc,I.cell,I.free,I.jI,λp hp=>(fj.mp hp).elim (λz=>I.pin p (EG _ z)) (h p),I.hok,I.len⟩
def xQ(hN:N.Nodup)(a:N[i]?=some x)(b:N[j]?=some x):i=j:=by obtain⟨h1,e1⟩:=d8.mp a;obtain⟨h2,e2⟩:=d8.mp b;exact(List.getElem_inj hN).mp (e1.trans e2.symm)
def yU{v:V}(I:Inv X AT σ H s)(hN:X.N.Nodup)(hi:X.N[i]?=some x)(hx:Loc X.env.scope x)(r:RelV v u)(h:∀s',Inv X AT (σ.set i (some v)) H s'->(∃a,Heap.SameBut a s.heap s'.heap/\(a=X.env.locals\/X.env.cells.lookup x=some a))->Q () s')(hf:X.fn x=true\/X.env.scope.names.lookup x=some .local:=by first|exact .inl rfl|exact .inr rfl|assumption):wpAny M A (storeName X.env x u) Q E s:=by
 obtain⟨m,hn,hl⟩:=id I.loc
 have hcls:(X.env.scope.kind ==.class || (X.env.scope.kind ==.module && X.env.locals != X.env.globals))=false:=by rw[I.ok.kind];rfl
 have hiσ:i<σ.length:=by rw[I.len];exact(d8.mp hi).1
 have Gi:=I.Gi
 have tracked:∀{a:Addr}{h':Heap},(∃o,s.heap.get? a=some o/\H a=none)->Heap.SameBut a s.heap h'->gU X.prog X.w H h':=λ{a h'} ha hs b ob e=>by
  obtain⟨_,_,hfree⟩:=ha;refine(I.hok b ob e).stay (λc w' hc q=>(hs.2 c ?_).trans q) (λ_ q=>q) λ_ _ q=>q;rintro rfl;rcases hc with rfl|hc
  .rw [hfree]at e;cases e
  .rw [hfree]at hc;cases hc
 rcases hx with hk|hk
 . refine wpAny_storeName_local hk hn (λh' hn' hs=>?_) hcls
   obtain⟨oL,_,_,hoL,_⟩:=id hn
   refine h _ ⟨I.ok,I.os,I.bare,⟨λb o e n hb hx=>?_,λb o e n hb hx=>?_,I.base.free,λb o e hx=>?_,I.base.tups,I.base.mO,I.base.oU⟩,⟨_,hn',λj y v' e1 e2 e3=>?_⟩,λy c e=>?_,I.free,I.jI,λp hp=>?_,tracked ⟨oL,hoL,I.free⟩ hs,by simpa using I.len⟩ ⟨_,hs,.inl rfl⟩
   . exact(hs.2 b (dW (kU (bK e) I.ok.above))).trans (I.base.keep b o e n hb hx)
   . obtain⟨sl,e1⟩:=I.base.slot b o e n hb hx
     exact⟨sl,(hs.2 b (dW (kU (bK e) I.ok.above))).trans e1⟩
   . obtain⟨o',e1⟩:=I.base.there b o e hx
     exact⟨o',(hs.2 b (dW (kU (bK e) I.ok.above))).trans e1⟩
   . by_cases hj:j=i
     . subst hj
       rw[hi]at e1;cases e1
       rw[tY hiσ]at e2
       cases e2
       exact⟨u,r,.inl ⟨hk,by simp⟩⟩
     . rw[yR (cy hj)]at e2
       obtain⟨u',r',q⟩:=hl j y v' e1 e2 e3
       refine⟨u',r',?_⟩
       rcases q with⟨k,e⟩|⟨k,c,e,z⟩
       . refine .inl ⟨k,?_⟩
         have:y≠x:=λe=>hj (xQ hN e1 (e▸hi))
         simp[this,e]
       . exact .inr ⟨k,c,e,z.sameBut hs (Gi y c e)⟩
   . obtain⟨w',z⟩:=I.cell y c e
     exact⟨w',z.sameBut hs (Gi y c e)⟩
   . obtain⟨e,n,ne,nf,d⟩:=I.pin p hp
     exact⟨(hs.2 p.1 ne).trans e,n,ne,nf,d⟩
 . have hfn:X.fn x=true:=by
    rcases hf with z|z
    . exact z
    . rw[z]at hk;cases hk
   obtain⟨c,hc⟩:=I.ok.has x (.inl hk)
   obtain⟨w',z⟩:=I.cell x c hc
   refine wpAny_storeName_cell I.ok.kind hk hc z (λh' hc' hs=>?_)
   obtain⟨oc,hoc,afH⟩:=id z
   refine h { s with heap:=h' } ⟨I.ok,I.os,I.bare,⟨λb o e n hb hx=>?_,λb o e n hb hx=>?_,I.base.free,λb o e hx=>?_,I.base.tups,I.base.mO,I.base.oU⟩,⟨m,hn.sameBut hs (cy (Gi x c hc)),λj y v' e1 e2 e3=>?_⟩,λy c' e=>?_,I.free,I.jI,λp hp=>?_,tracked ⟨oc,hoc,I.jI x c hc⟩ hs,by simpa using I.len⟩ ⟨c,hs,.inr hc⟩
   . exact(hs.2 b (dW (kU (bK e) (I.ok.gW x c hfn hc)))).trans (I.base.keep b o e n hb hx)
   . obtain⟨sl,e1⟩:=I.base.slot b o e n hb hx
     exact⟨sl,(hs.2 b (dW (kU (bK e) (I.ok.gW x c hfn hc)))).trans e1⟩
   . obtain⟨o',e1⟩:=I.base.there b o e hx
     exact⟨o',(hs.2 b (dW (kU (bK e) (I.ok.gW x c hfn hc)))).trans e1⟩
   . by_cases hj:j=i
     . subst hj
       rw[hi]at e1;cases e1
       rw[tY hiσ]at e2
       cases e2
       exact⟨u,r,.inr ⟨.inl hk,c,hc,hc'⟩⟩
     . rw[yR (cy hj)]at e2
       obtain⟨u',r',q⟩:=hl j y v' e1 e2 e3
       refine⟨u',r',?_⟩
       rcases q with q|⟨k,c',e,z'⟩
       . exact .inl q
       . refine .inr ⟨k,c',e,z'.sameBut hs ?_⟩
         rintro rfl
         exact hj (xQ hN e1 (I.ok.inj _ _ _ e hc▸hi))
   . by_cases hcc:c'=c
     . subst hcc;exact⟨_,hc'⟩
     . obtain⟨w2,z2⟩:=I.cell y c' e
       exact⟨w2,z2.sameBut hs hcc⟩
   . obtain⟨e,n,ne,nf,d⟩:=I.pin p hp
     refine⟨(hs.2 p.1 ?_).trans e,n,ne,nf,d⟩
     intro q
     rw[q,hoc]at e
     have q':oc=p.2:=ie e
     exact d w' (by rw[<-q'];exact afH)
def t_{v:V}(I:Inv X AT σ H s)(hN:X.N.Nodup)(hi:X.N[i]?=some x)(hx:Loc X.env.scope x)(r:RelV v u)(h:∀s',Inv X AT (σ.set i (some v)) H s'->Q () s')(hf:X.fn x=true\/X.env.scope.names.lookup x=some .local:=by first|exact .inl rfl|exact .inr rfl|assumption):wpAny M A (storeName X.env x u) Q E s:=
 yU I hN hi hx r (λs' I' _=>h s' I') hf
def Inv.IK{s':Shared}(I:Inv X AT σ H s)(ho:s'.os=s.os)(u:Un (frs X.stack) ch H H' s.heap s'.heap)(hok:gU X.prog X.w H' s'.heap)(hg:AllBare s'.gens)(hch:∀b∈ch,(b∈X.ex\/X.s₀.heap.objs.size<=b)/\b≠X.env.locals/\(∀x c,X.env.cells.lookup x=some c->c≠b)/\∀p∈X.pn++AT,p.1≠b):Inv X AT σ H' s':=by
 obtain⟨h',g',d',t',o'⟩:=s'
 have e:o'=s.os:=ho
 subst e
 exact I.call (g':=g') (t':=t') (d':=d') u hok hg hch
end
abbrev XK:=Value->Option Addr->Hp->Prop
abbrev St:=Da (Option V)
abbrev VK:=V->Hp->Prop
abbrev TE:=St->Hp->VK->Prop
abbrev TT:=St->Hp->(Bool->Hp->Prop)->Prop
abbrev TA:=St->Hp->(Da V->Hp->Prop)->Prop
structure Ends where
 nx:St->Hp->Prop
 rt:VK
 bk:St->Hp->Prop:=λ_ _=>False
 ct:St->Hp->Prop:=λ_ _=>False
abbrev TS:=Ends->St->Hp->Prop
def EP(X:Cx)(AT:AO)(σ:St)(Q:VK)(u:Value)(s':Shared):Prop:=∃v H',Inv X AT σ H' s'/\RelV v u/\Q v H'
def TP(X:Cx)(AT:AO)(σ:St)(Q:Bool->Hp->Prop)(b:Bool)(s':Shared):Prop:=∃H',Inv X AT σ H' s'/\Q b H'
def AP(X:Cx)(AT:AO)(σ:St)(Q:Da V->Hp->Prop)(us:Da Value)(s':Shared):Prop:=∃vs H',Inv X AT σ H' s'/\Vals vs us/\Q vs H'
def SP(X:Cx)(AT:AO)(D:Ends)(f:Flow)(s':Shared):Prop:=match f with
 | .next=>∃σ' H',Inv X AT σ' H' s'/\D.nx σ' H'
 | .brk=>∃σ' H',Inv X AT σ' H' s'/\D.bk σ' H'
 | .cont=>∃σ' H',Inv X AT σ' H' s'/\D.ct σ' H'
 | .ret u=>∃v σ' H',Inv X AT σ' H' s'/\RelV v u/\D.rt v H'
def PE(X:Cx)(e:Expr)(t:TE):Prop:=∀(AT:AO)(s:Shared)(σ:St)(H:Hp)(Q:VK),Inv X AT σ H s->t σ H Q->wpAny (model X.prog X.w) X.A (eval e X.env) (EP X AT σ Q) X.xe s
def PT(X:Cx)(e:Expr)(t:TT):Prop:=∀(AT:AO)(s:Shared)(σ:St)(H:Hp)(Q:Bool->Hp->Prop),Inv X AT σ H s->t σ H Q->wpAny (model X.prog X.w) X.A (isTrue e X.env (eval e X.env)) (TP X AT σ Q) X.xe s
def PW(X:Cx)(e:Expr)(t:TT):Prop:=∀(whole:Sem Value)(AT:AO)(s:Shared)(σ:St)(H:Hp)(Q:Bool->Hp->Prop),Inv X AT σ H s->t σ H Q->wpAny (model X.prog X.w) X.A (isTrue e X.env whole) (TP X AT σ Q) X.xe s
variable {X:Cx}{e:Expr}
def PW.pt{t:TT}(h:PW X e t):PT X e t:=h _
def PA(X:Cx)(es:Da Expr)(t:TA):Prop:=∀(pos:Pos)(AT:AO)(s:Shared)(σ:St)(H:Hp)(Q:Da V->Hp->Prop),Inv X AT σ H s->t σ H Q->wpAny (model X.prog X.w) X.A (spliced (backTo pos (starEach es X.env))) (AP X AT σ Q) X.xe s
def PS(X:Cx)(st:Stmt)(t:TS):Prop:=∀(AT:AO)(s:Shared)(σ:St)(H:Hp)(D:Ends),Inv X AT σ H s->t D σ H->wpAny (model X.prog X.w) X.A (exec st X.env) (SP X AT D) X.xe s
def qf(X:Cx)(st:Da Stmt)(t:TS):Prop:=∀(AT:AO)(s:Shared)(σ:St)(H:Hp)(D:Ends),Inv X AT σ H s->t D σ H->wpAny (model X.prog X.w) X.A (execs st X.env) (SP X AT D) X.xe s
variable {s:Shared}
def bg{α:Type}{t:Sem α}{Q Q':α->Shared->Prop}(h:wpAny M A t Q E s)(hQ:∀a s,Q a s->Q' a s):wpAny M A t Q' E s:=gX h hQ λ_ _ x=>x
variable {pos:Pos}{AT:AO}{σ:St}{op:CmpOp}
section
variable {X:Cx}
inductive xR(i:Nat)(σ:St)(H:Hp)(Q:VK):Prop
 |mk(v:_)(_:σ[i]?=some (some v))(_:Q v H)
def tC(v:V):TE:=λ_ H Q=>Q v H
def YS(hN:X.N[i]?=some x)(hv:Rh X.env.scope x)(hd:(x==("__debug__":Str))=false:=by decide)(hcd:(x==("__classdict__":Str))=false:=by decide):PE X (.Name x pos) (xR i):=by
 intro AT s σ H Q I h;obtain⟨v,e,h⟩:=h;obtain⟨m,hn,hl⟩:=I.loc;obtain⟨u,r,l⟩:=hl i x v hN e hv;have fin:EP X AT σ Q u s:=⟨v,H,I,r,h⟩
 rcases l with⟨hk,hm⟩|⟨hk,c,hc,hcell⟩
 .exact wpAny_Name (wpAny_loadName_local I.ok.kind hk hn hm fin) hd
 .rcases hk with hk|hk
  .exact wpAny_Name (wpAny_loadName_cell I.ok.kind hk hc hcell fin) hd
  .exact wpAny_Name (wpAny_loadName_free I.ok.kind hk hc hcell fin hcd) hd
def Ri{x j pos}:PE X (.Constant (.str x) j pos) (tC (.str x)):=λ_ _ _ H _ I h=>Calls.Constant_str ⟨.str x,H,I.tok _,⟨_,Z⟩,h⟩
def Gl(X:Cx)(x:Str):Prop:=X.env.kindOf x=some .globalImplicit
def qo{Q:VS}(I:Inv X AT σ H s)(hg:Gl X x)(hm:X.mg x=some u)(h:Q u s)(hd:(x==("__debug__":Str))=false:=by decide):wpAny (model X.prog X.w) X.A (eval (.Name x pos) X.env) Q E s:=
 Calls.Name_function_global I.ok.kind hg (Calls.loadGlobal_global (by rw[I.ok.glob];exact I.mod.glob.keeps I.bk) hm h) hd
def ua{Q:VS}(I:Inv X AT σ H s)(hg:Gl X x)(hm:X.mg x=none)(hv:bootBuiltins x=some u)(h:Q u s)(hn:x ≠ "__name__":=by decide)(hd:(x==("__debug__":Str))=false:=by decide):wpAny (model X.prog X.w) X.A (eval (.Name x pos) X.env) Q E s:=by
 obtain⟨mb,h1,h2⟩:=I.mod.blt
 exact Calls.Name_function_global I.ok.kind hg (Calls.loadGlobal_builtin (by rw[I.ok.glob];exact I.mod.glob.keeps I.bk) hm (by rw[I.ok.blt];exact h1.keeps I.bk) ((h2 x hn).trans hv) h) hd
def W8{v:V}(hg:Gl X x)(hm:X.mg x=none)(hv:bootBuiltins x=some u)(r:RelV v u)(hn:x ≠ "__name__":=by decide)(hd:(x==("__debug__":Str))=false:=by decide):PE X (.Name x pos) (tC v):=λ_ _ _ H _ I h=>ua I hg hm hv ⟨v,H,I,r,h⟩ hn hd
variable {a b:Expr}{ta tb:TE}{pos:Pos}
def PC(X:Cx)(op:CmpOp)(a b:Expr)(t:TE):Prop:=∀(AT:AO)(s:Shared)(σ:St)(H:Hp)(Q:VK),Inv X AT σ H s->t σ H Q->wpAny (model X.prog X.w) X.A (eval a X.env) (λv s₁=>wpAny (model X.prog X.w) X.A (eval b X.env) (λu s₂=>wpAny (model X.prog X.w) X.A (compareOp op v u) (EP X AT σ Q) X.xe s₂) X.xe s₁) X.xe s
def Jr(b:Expr)(h:op ≠ .In)(h2:op ≠ .NotIn):behindInMarks op b=false:=by
 have e1:(op==CmpOp.In)=false:=by cases op <;> first|rfl|exact absurd rfl h
 have e2:(op==CmpOp.NotIn)=false:=by cases op <;> first|rfl|exact absurd rfl h2
 cases b <;> simp[behindInMarks,e1,e2]
inductive yTB(Q:Bool->Hp->Prop)(x:V)(H1:Hp):Prop
 |mk(c:_)(_:x =.bl c)(_:Q c H1)
def tB(t:TE):TT:=λσ H Q=>t σ H (yTB Q)
variable {tA V2:TT}{Cl:Da Expr}
def acg(u:TT)(σ:St)(Q:Bool->Hp->Prop):Bool->Hp->Prop:=λc H1=>if c=true then u σ H1 Q else Q false H1
def afI(t u:TT):TT:=λσ H Q=>t σ H (acg u σ Q)
def afJ(u:TT)(σ:St)(Q:Bool->Hp->Prop):Bool->Hp->Prop:=λc H1=>if c=true then Q true H1 else u σ H1 Q
def tOr(t u:TT):TT:=λσ H Q=>t σ H (afJ u σ Q)
abbrev ach(Q:Bool->Hp->Prop):Bool->Hp->Prop:=λc H1=>Q (!c) H1
def YT(t:TT):TT:=λσ H Q=>t σ H (ach Q)
inductive YU(tb:TE)(σ:St)(Q:VK)(x:V)(H1:Hp):Prop
 |mk(c:_)(_:x =.bl c)(_:if c=true then tb σ H1 Q else Q (.bl false) H1)
def aci(ta tb:TE):TE:=λσ H Q=>ta σ H (YU tb σ Q)
inductive YV(Q:VK)(x:V)(H1:Hp):Prop
 |mk(c:_)(_:x =.bl c)(_:Q (.bl (!c)) H1)
def acj(ta:TE):TE:=λσ H Q=>ta σ H (YV Q)
end
def aA(K:Fg)(H:Hp)(a:Addr)(xs:Da V):Prop:=Rd H a (.lst xs)\/
  ∃(o:Obj)(Bi:Array Value)(n:Nat),K.lookup a=some o/\o.cls =.type "list"/\o.dict=none/\o.data =.seq Bi n/\Bi.size<=sizeLine/\Vals xs Bi.toList
def cz(K:Fg)(H:Hp)(a:Addr)(xs:Da V):Prop:=Rd H a (.tup xs)\/
  ∃(o:Obj)(Bi:Array Value)(n:Nat),K.lookup a=some o/\o.cls =.type "tuple"/\o.data =.seq Bi n/\Bi.size<=sizeLine/\Vals xs Bi.toList
def afK:Value->Option V
 | .none=>some .cD
 | .bool b=>some (.bl b)
 | .int i _=>some (.int i)
 | .str x _=>some (.str x)
 | .bytes b _=>some (.wH b)
 | .float b _=>some (.Ge b)
 | .ref a=>some (.ref a)
 | .type n=>some (.ty n)
 | _=>none
def RelV.abs{x:V}(r:RelV x u):afK u=some x:=by
 cases x with
 | cD=>cases r;rfl
 | bl _=>cases r;rfl
 | int _=>obtain⟨t,rfl⟩:=r;rfl
 | str _=>obtain⟨t,rfl⟩:=r;rfl
 | wH _=>obtain⟨t,rfl⟩:=r;rfl
 | Ge _=>obtain⟨t,rfl⟩:=r;rfl
 | ref _=>cases r;rfl
 | ty _=>cases r;rfl
variable {y:V}
def RelV.inj{x:V}(r:RelV x u)(q:RelV y u):x=y:=ie (r.abs.symm.trans q.abs)
theorem Vals.inj:∀{xs ys:Da V}{us:Da Value},Vals xs us->Vals ys us->xs=ys
 | _,_,_,.nil,.nil=>rfl
 | _,_,_,.cons r t,.cons r' t'=>by rw[r.inj r',Vals.inj t t']
variable {K:Fg}
section
variable {X:Cx}{AT:AO}{σ:St}{H:Hp}{s:Shared}{a:Addr}{xs ys:Da V}
def aA.of(h:H a=some (.lst xs)):aA K H a xs:=.inl (.inl h)
def cz.of(h:H a=some (.tup xs)):cz K H a xs:=.inl (.inl h)
theorem Inv.list(I:Inv X AT σ H s)(h:aA X.K H a xs):∃Bi:Da Value,Vals xs Bi/\PlainL s.heap a Bi.toArray/\xs.length<=sizeLine:=by
 rcases h with h|⟨o,Bi,n,hk,hc,hd,hs,hz,r⟩
 .obtain ⟨z,Bi,n,r,e⟩:=h.ok I.hok;exact⟨Bi,r,⟨_,n,e,Z,Z,Z⟩,z⟩
 .refine ⟨Bi.toList,r,⟨o,n,I.iQ a o hk,hc,hd,by simpa using hs⟩,?_⟩;have e:=r.length;simp only[Array.length_toList]at e;omega
theorem Inv.tuple(I:Inv X AT σ H s)(h:cz X.K H a xs):∃Bi:Da Value,Vals xs Bi/\IsTup s.heap a Bi.toArray/\xs.length<=sizeLine:=by
 rcases h with h|⟨o,Bi,n,hk,hc,hs,hz,r⟩
 .obtain ⟨z,Bi,r,p⟩:=h.ok I.hok;exact⟨Bi,r,p,z⟩
 .refine ⟨Bi.toList,r,⟨o,I.iQ a o hk,hc,n,by simpa using hs⟩,?_⟩;have e:=r.length;simp only[Array.length_toList]at e;omega
def Inv.Ut(I:Inv X AT σ H s)(h:aA X.K H a xs)(h':aA X.K H a ys):xs=ys:=by
 obtain⟨Bi,r,⟨o,n,e,_,_,d⟩,_⟩:=I.list h;obtain⟨its',r',⟨o',n',e',_,_,d'⟩,_⟩:=I.list h';rw[e]at e';cases e';rw[d]at d';injection d' with d1 _;have:Bi=its':=by simpa using gF Array.toList d1
 subst this;exact r.inj r'
end
abbrev Cx.vS(X:Cx)(E:VS):Cx:={ X with xe:=E }
abbrev Cx.Bg(X:Cx):Cx:=X.vS λ_ _=>False
theorem Cx.Ok.vS(ok:X.Ok)(E:VS):(X.vS E).Ok:=⟨ok.mod,ok.kind,ok.glob,ok.blt,ok.above,ok.inj,ok.has,ok.gW,ok.hd,ok.frames,ok.stk,ok.Jo,ok.bs,ok.CZ,ok.ER,ok.BW,ok.nJ,ok.Gg⟩
def Cx.Ok.rK(ok:(X.vS E).Ok):X.Ok:=⟨ok.mod,ok.kind,ok.glob,ok.blt,ok.above,ok.inj,ok.has,ok.gW,ok.hd,ok.frames,ok.stk,ok.Jo,ok.bs,ok.CZ,ok.ER,ok.BW,ok.nJ,ok.Gg⟩
variable {D:Ends}
section
variable {X:Cx}{AT:AO}{σ:St}{H:Hp}{s:Shared}{E:VS}
theorem Inv.vS(I:Inv X AT σ H s)(E:VS):Inv (X.vS E) AT σ H s:=⟨I.ok.vS E,I.os,I.bare,I.base,I.loc,I.cell,I.free,I.jI,I.pin,I.hok,I.len⟩
theorem Inv.rK(I:Inv (X.vS E) AT σ H s):Inv X AT σ H s:=⟨I.ok.rK,I.os,I.bare,I.base,I.loc,I.cell,I.free,I.jI,I.pin,I.hok,I.len⟩
theorem SP.rK{f:Flow}(h:SP (X.vS E) AT D f s'):SP X AT D f s':=by
 cases f with
 | next=>obtain⟨σ',H',I,q⟩:=h;exact⟨σ',H',I.rK,q⟩
 | brk=>obtain⟨σ',H',I,q⟩:=h;exact⟨σ',H',I.rK,q⟩
 | cont=>obtain⟨σ',H',I,q⟩:=h;exact⟨σ',H',I.rK,q⟩
 | ret u=>obtain⟨v,σ',H',I,r,q⟩:=h;exact⟨v,σ',H',I.rK,r,q⟩
theorem qf.Bg{st:Da Stmt}{t:TS}(h:qf X.Bg st t):qf X st t:=λAT s σ H D I hw=>
 gX (h AT s σ H D (I.vS _) hw) (λ_ _ q=>q.rK) λ_ _ z=>False.elim z
end
variable {tc:TT}
section
variable {X:Cx}{st:Stmt}{Cl:Da Stmt}{t u:TS}{e:Expr}{te:TE}{pos:Pos}
def V3:TS:=λD σ H=>D.nx σ H
def Ends.sq(D:Ends)(u:TS):Ends:={ D with nx:=u D }
def Ends.lp(D:Ends)(N:St->Hp->Prop):Ends:={ D with nx:=N,ct:=N,bk:=D.nx }
def yV(t u:TS):TS:=λD σ H=>t (D.sq u) σ H
def Inv.quiet(I:Inv X AT σ H s):interactive X.env=false:=by simp[interactive,I.ok.kind]
def YW(D:Ends)(σ:St):V->Hp->Prop:=λ_ H1=>D.nx σ H1
def ack(te:TE):TS:=λD σ H=>te σ H (YW D σ)
def YX(te:TE):TS:=λD σ H=>te σ H D.rt
def acm(t:TS)(u:TS)(D:Ends)(σ:St):Bool->Hp->Prop:=λb H1=>if b=true then t D σ H1 else u D σ H1
def Uu(c:TT)(t u:TS):TS:=λD σ H=>c σ H (acm t u D σ)
def V4{c:Expr}{a b:Da Stmt}(hc:PT X c tc)(ha:qf X a t)(hb:qf X b u):PS X (.If c a b pos) (Uu tc t u):=by
 intro AT s σ H D I h;refine wpAny_If (bg (hc AT s σ H _ I h) λd s1 ⟨H1,I1,q1⟩=>?_);cases d with
 | true=>exact ha AT s1 σ H1 D I1 q1
 | false=>exact hb AT s1 σ H1 D I1 q1
def YY:TS:=λ_ _ _=>False
end
abbrev TG:=V->St->Hp->(St->Hp->Prop)->Prop
abbrev C0:=Da V->St->Hp->(St->Hp->Prop)->Prop
def PG(X:Cx)(target:Expr)(t:TG):Prop:=∀(AT:AO)(s:Shared)(σ:St)(H:Hp)(v:V)(u:Value)(Q:St->Hp->Prop),Inv X AT σ H s->RelV v u->t v σ H Q->wpAny (model X.prog X.w) X.A (assign target X.env u) (λ_ s'=>∃σ' H',Inv X AT σ' H' s'/\Q σ' H') X.xe s
def PGs(X:Cx)(ts:Da Expr)(t:C0):Prop:=∀(AT:AO)(s:Shared)(σ:St)(H:Hp)(vs:Da V)(us:Da Value)(Q:St->Hp->Prop),Inv X AT σ H s->Vals vs us->t vs σ H Q->wpAny (model X.prog X.w) X.A (assignInOrder ((assignEach ts X.env).map (·.2)) us) (λ_ s'=>∃σ' H',Inv X AT σ' H' s'/\Q σ' H') X.xe s
abbrev Js:=V->V->V->Hp->(Hp->Prop)->Prop
def YZ(X:Cx)(t:Js):Prop:=∀(AT:AO)(s:Shared)(σ:St)(H:Hp)(o i v:V)(ov iv u:Value)(Q:Hp->Prop),Inv X AT σ H s->RelV o ov->RelV i iv->RelV v u->t o i v H Q->wpAny (model X.prog X.w) X.A (setItem ov iv u) (λ_ s'=>∃H',Inv X AT σ H' s'/\Q H') X.xe s
variable {es:Da Expr}{n:Nat}
section
variable {X:Cx}{pos:Pos}
def gj(i:Nat):TG:=λv σ H Q=>Q (σ.set i (some v)) H
inductive Y0(vs:Da V)(σ:St)(H:Hp)(Q:St->Hp->Prop):Prop
 |mk(_:vs=[])(_:Q σ H)
def Y3(u:C0)(Q:St->Hp->Prop)(r:Da V):St->Hp->Prop:=λσ' H'=>u r σ' H' Q
inductive V5(t:TG)(u:C0)(vs:Da V)(σ:St)(H:Hp)(Q:St->Hp->Prop):Prop
 |mk(v r:_)(_:vs=v::r)(_:t v σ H (Y3 u Q r))
inductive BX(K:Fg)(n:Nat)(t:C0)(v:V)(σ:St)(H:Hp)(Q:St->Hp->Prop):Prop
 |mk(a xs:_)(_:v =.ref a)(_:cz K H a xs)(_:xs.length=n)(_:t xs σ H Q)
def Y4{k:Nat}{t:C0}(hc:X.calm=true)(h:PGs X es t)(hn:(assignEach es X.env).length=n:=by rfl)(hst:(assignEach es X.env).findIdx? (·.1)=none:=by rfl):PG X (.Tuple es k pos) (BX X.K n t):=by
 intro AT s σ H v u Q I r hw
 obtain⟨a,xs,e1,hq,hl,hw⟩:=hw
 subst e1
 cases r
 obtain⟨Bi,rv,ht,hz⟩:=I.tuple hq
 refine assign_Tuple_tuple (I.ok.hd hc) ht (by simp[hn,<-hl,rv.length]) hst λh' hx=>?_
 have I1:Inv X AT σ H { s with heap:=h' }:=I.kept (t':=s.toks) λb o e=>hx b o (dW (bK e)) e
 exact h AT _ σ H xs _ Q I1 (by simpa using rv) hw
def W9(σ:St)(Q:St->Hp->Prop):Hp->Prop:=λH3=>Q σ H3
def W_(t:Js)(v:V)(σ:St)(Q:St->Hp->Prop)(o:V):V->Hp->Prop:=λi H2=>t o i v H2 (W9 σ Q)
def acn(ti:TE)(t:Js)(v:V)(σ:St)(Q:St->Hp->Prop):V->Hp->Prop:=λo H1=>ti σ H1 (W_ t v σ Q o)
def afL(to ti:TE)(t:Js):TG:=λv σ H Q=>to σ H (acn ti t v σ Q)
def aco(g:TG)(D:Ends)(σ:St):V->Hp->Prop:=λx H1=>g x σ H1 D.nx
def yW(te:TE)(g:TG):TS:=λD σ H=>te σ H (aco g D σ)
inductive acp(i:Nat)(j:Nat)(D:Ends)(σ:St)(vs:Da V)(H1:Hp):Prop
 |mk(v w:_)(_:vs=[v,w])(_:D.nx ((σ.set i (some v)).set j (some w)) H1)
def afM(i j:Nat)(ta:TA):TS:=λD σ H=>ta σ H (acp i j D σ)
end
section
variable {X:Cx}{pos:Pos}
def Y5(c:TT)(tb:TS):TS:=λD σ H=>∃W:Nat->St->Hp->Prop,(∃m,W m σ H)/\∀m σ H,W m σ H->c σ H λb H1=>if b=true then ∃N:St->Hp->Prop,(∀σ' H',N σ' H'->∃m',m'<m/\W m' σ' H')/\tb { D with nx:=N,ct:=N,bk:=D.nx } σ H1 else D.nx σ H1
end
structure It where
 go:Nat->Hp->Prop
 C3:Nat->Hp->V->Hp->Prop
 stop:Nat->Hp->Prop
def oV(X:Cx)(AT:AO)(H:Hp)(b:Addr):Prop:=H b=none/\b≠X.env.locals/\b∉X.fs/\(b∈X.ex\/X.s₀.heap.objs.size<=b)/\(∀x c,X.env.cells.lookup x=some c->c≠b)/\∀p∈X.pn++AT,p.1≠b
variable {H':Hp}
def Inv.BY{b:Addr}(I:Inv X AT σ H s)(hb:s.heap.objs.size<=b)(hn:H' b=none):oV X AT H' b:=by
 refine⟨hn,xK (kU I.lt hb),I.afG hb,.inr (fL I.sz hb),λx c e z=>?_,λp hp z=>?_⟩
 .obtain ⟨v,q⟩:=I.cell x c e;exact absurd (kU q.lt (by rw[z];exact hb)) (je _)
 .exact absurd (kU (bK (I.pin p hp).1) (by rw[z];exact hb)) (je _)
structure Turn(P:Program)(w:World)(K:Fg)(tg:Expr)(J:It)(fp:Da Addr)(it:Addr)(tn:Nat->Heap->Prop):Prop where
 mem:it∈fp
 obj:∀i h,tn i h->∀b∈fp,∃o,h.get? b=some o/\∀v,o.data ≠ .cell v
 keep:∀i h h',tn i h->(∀b∈fp,∀o,h.get? b=some o->h'.get? b=some o)->tn i h'
 item:∀(X:Cx),X.prog=P->X.w=w->X.K=K->X.calm=true->∀(i:Nat)(AT:AO)(s:Shared)(σ:St)(H:Hp)(E:VS),Inv X AT σ H s->(∀b∈fp,oV X AT H b)->tn i s.heap->J.go i H->
  wpAny (model P w) X.A (pyNext (.ref it)) (λr s1=>∃u,r=some u/\
   wpAny (model P w) X.A (letOwnedTupleGo tg (.ref it) u) (λ_ s2=>∃x H',Inv X AT σ H' s2/\RelV x u/\J.C3 i H x H'/\tn (i+1) s2.heap/\∀b∈fp,H' b=none) E s1) E s
 done:∀(X:Cx),X.prog=P->X.w=w->X.K=K->X.calm=true->∀(i:Nat)(AT:AO)(s:Shared)(σ:St)(H:Hp)(E:VS),Inv X AT σ H s->(∀b∈fp,oV X AT H b)->tn i s.heap->J.stop i H->
  wpAny (model P w) X.A (pyNext (.ref it)) (λr s1=>r=none/\Inv X AT σ H s1) E s
 self:∀(A:Around)(i:Nat)(s:Shared)(Q:VS)(E:VS),tn i s.heap->Q (.ref it) s->wpAny (model P w) A (pyIter (.ref it)) Q E s
abbrev TI:=St->Hp->(It->Hp->Prop)->Prop
def PIE(X:Cx)(AT:AO)(σ:St)(tg:Expr)(R:It->Hp->Prop)(itv:Value)(s2:Shared):Prop:=∃(it:Addr)(fp:Da Addr)(tn:Nat->Heap->Prop)(J:It)(H':Hp),itv =.ref it/\Inv X AT σ H' s2/\Turn X.prog X.w X.K tg J fp it tn/\tn 0 s2.heap/\(∀b∈fp,oV X AT H' b)/\R J H'
def PI(X:Cx)(tg Bz:Expr)(wi:TI):Prop:=∀(AT:AO)(s:Shared)(σ:St)(H:Hp)(R:It->Hp->Prop),Inv X AT σ H s->wi σ H R->wpAny (model X.prog X.w) X.A (eval Bz X.env) (λv s1=>wpAny (model X.prog X.w) X.A (pyIter v) (PIE X AT σ tg R) X.xe s1) X.xe s
variable {tg:Expr}
def Ax{o:Obj}{n:String}{vs:Array Value}(ho:s.heap.get? it=some o)(hc:o.cls =.type n)(hd:o.data =.fields vs)(hn:["enumerate","zip","dict_itemiterator","dict_reverseitemiterator","odict_iterator","itertools.zip_longest","itertools.pairwise"].contains n=false)(hQ:Q () s):wpAny M A (letOwnedTupleGo tg (.ref it) u) Q E s:=by
 unfold letOwnedTupleGo
 cases tg <;> first
  | exact aJ hQ
  | (cases u <;> first
      | exact aJ hQ
      | (refine aq (wpAny_load ho ?_)
         rw[hc,hd]
         show wpAny M A (if(["enumerate","zip","dict_itemiterator","dict_reverseitemiterator","odict_iterator","itertools.zip_longest","itertools.pairwise"].contains n && vs[0]?==some (rawInt _))=true then _ else _) Q E s
         rw[aB (by intro h;rw[hn,Am]at h;cases h)]
         exact aJ hQ))
def sY(K:Fg)(a:Addr):It:=⟨λi H=>∃xs x,aA K H a xs/\xs[i]?=some x,λi H x H'=>H'=H/\∀xs,aA K H a xs->xs[i]?=some x,λi H=>∃xs,aA K H a xs/\xs.length<=i⟩
def Gj(lo:Int)(n:Nat):It:=⟨λi _=>i<n,λi H x H'=>H'=H/\x =.int (lo+i),λi _=>n<=i⟩
theorem Rj{w:World}(a it:Addr):Turn P w K tg (sY K a) [it] it (λi h=>h.IsListIter it a i) where
 mem:=by simp
 obj:=λi h st b hb=>by
  have e:b=it:=by simpa using hb
  subst e;obtain⟨o,e,c,d⟩:=st;exact⟨o,e,λv z=>by rw[d]at z;cases z⟩
 keep:=λi h h' st k=>st.at λo e=>k it (by simp) o e
 item:=by intro X hP hw hK hc i AT s σ H E I hf st hg;subst hP hw hK;obtain⟨xs,x,hq,hx⟩:=hg;obtain⟨Bi,rv,p,hz⟩:=I.list hq;obtain⟨u,hu,ru⟩:=rv.get hx;obtain⟨f0,f1,f2,f3,f4,f5⟩:=hf it (by simp);refine wpAny_pyNext_list_item st p.isList (x:=u) (by simpa using hu) λh' st' sb=>?_;have I1:Inv X AT σ H { s with heap:=h' }:=I.turned (t':=s.toks) (λb o hb e=>(sb.2 b hb).trans e) f0 f1 f3 f4 f5;obtain⟨o,e,c,d⟩:=id st';exact⟨u,Z,Ax (s:={ s with heap:=h' }) e c d (by decide) ⟨x,H,I1,ru,⟨Z,λys hy=>by rw[I.Ut hy hq];exact hx⟩,st',λb hb=>(hf b hb).1⟩⟩
 done:=by intro X hP hw hK hc i AT s σ H E I hf st hg;subst hP hw hK;obtain⟨xs,hq,hx⟩:=hg;obtain⟨Bi,rv,p,hz⟩:=I.list hq;obtain⟨f0,f1,f2,f3,f4,f5⟩:=hf it (by simp);have hl:=rv.length;exact wpAny_pyNext_list_end (I.ok.hd hc) st p.isList (by simp;omega) λh' eb=>⟨Z,I.turned (t':=s.toks) (λb o hb e=>eb b o hb e) f0 f1 f3 f4 f5⟩
 self:=λ_ _ _ _ _ st h=>wpAny_pyIter_listiter st h
theorem Pj{w:World}(it:Addr)(lo:Int)(n:Nat):Turn P w K tg (Gj lo n) [it] it (λi h=>IsRangeIter h it (lo+(i:Nat)*1) ((n:Int)-(i:Nat)) 1) where
 mem:=by simp
 obj:=λi h st b hb=>by
  have e:b=it:=by simpa using hb
  subst e;exact⟨_,st,λv z=>by have z':Data.fields _=Data.cell v:=z;cases z'⟩
 keep:=λi h h' st k=>k it (by simp) _ st
 item:=by intro X hP hw hK hc i AT s σ H E I hf st hg;subst hP hw hK;obtain⟨f0,f1,f2,f3,f4,f5⟩:=hf it (by simp);have W:=Walks.range (prog:=X.prog) (w:=X.w) (I.ok.hd hc) it lo 1 n;refine W.item i s _ _ hg st λv h' tk hv st' kk=>?_;obtain⟨t,rfl⟩:=hv;have I1:Inv X AT σ H { s with heap:=h',toks:=tk }:=I.turned (λb o hb e=>kk b o (by simpa using hb) e) f0 f1 f3 f4 f5;refine⟨_,Z,Ax (s:={ s with heap:=h',toks:=tk }) (n:="range_iterator") st' rfl rfl (by decide) ⟨.int (lo+i),H,I1,⟨t,?_⟩,⟨Z,Z⟩,st',λb hb=>(hf b hb).1⟩⟩;rw[Int.mul_one]
 done:=by intro X hP hw hK hc i AT s σ H E I hf st hg;subst hP hw hK;obtain⟨f0,f1,f2,f3,f4,f5⟩:=hf it (by simp);exact wpAny_pyNext_range_end (I.ok.hd hc) st (by have:n<=i:=hg;omega) λh' eb=>⟨Z,I.turned (t':=s.toks) (λb o hb e=>eb b o hb e) f0 f1 f3 f4 f5⟩
 self:=λ_ _ _ _ _ st h=>wpAny_pyIter_rangeiter st h
variable {tl:TE}{fp:Da Addr}
section
variable {X:Cx}{tg:Expr}
inductive Y6(K:Fg)(R:It->Hp->Prop)(x:V)(H1:Hp):Prop
 |mk(a:_)(_:x =.ref a)(_:(∃xs,aA K H1 a xs))(_:R (sY K a:_) H1)
def V6(K:Fg)(tl:TE):TI:=λσ H R=>tl σ H (Y6 K R)
def Xa{l:Expr}(hl:PE X l tl):PI X tg l (V6 X.K tl):=by
 intro AT s σ H R I h;refine bg (hl AT s σ H _ I h) λv s1 ⟨x,H1,I1,r1,q1⟩=>?_;obtain⟨a,e,⟨xs,hq⟩,q⟩:=q1;subst e;cases r1;obtain⟨Bi,rv,p,hz⟩:=I1.list hq;refine Pb p.isList ?_;refine⟨s1.heap.objs.size,[s1.heap.objs.size],_,_,H1,Z,I1.kept (t':=s1.toks) λb o e=>bU _ e,Rj a _,⟨_,dZ _ rfl,Z,Z⟩,λb hb=>?_,q⟩;have e:b=s1.heap.objs.size:=by simpa using hb
 subst e;exact I1.BY (aN _) (I1.hok.fresh (aN _))
theorem Uv{R:It->Hp->Prop}{lo hi:Int}{t u v:Tok}{tk:Nat}(I:Inv X AT σ H s)(h1:-(2 ^ 62)<=lo)(h2:lo<2 ^ 62)(h3:-(2 ^ 62)<=hi)(h4:hi<2 ^ 62)(q:R (Gj lo (hi-lo).toNat) H):wpAny (model X.prog X.w) X.A (pyIter (.ref s.heap.objs.size)) (PIE X AT σ tg R) E { s with heap:=s.heap.push { cls:=.type "range",data:=.fields #[.int lo t,.int hi u,.int 1 v] },toks:=tk }:=by
 refine wpAny_pyIter_range (IsRange.new ..) (small_one h1 h2 h3 h4) ?_
 have I1:Inv X AT σ H { s with heap:=s.heap.push { cls:=.type "range",data:=.fields #[.int lo t,.int hi u,.int 1 v] },toks:=tk }:=I.kept λb o e=>bU _ e
 refine⟨(s.heap.push { cls:=.type "range",data:=.fields #[.int lo t,.int hi u,.int 1 v] }).objs.size,[(s.heap.push { cls:=.type "range",data:=.fields #[.int lo t,.int hi u,.int 1 v] }).objs.size],_,_,H,Z,
  I1.kept (t':=tk) λb o e=>bU _ e,Pj _ lo (hi-lo).toNat,?_,λb hb=>?_,q⟩
 . have e1:lo+((0:Nat):Int)*1=lo:=by simp
   have e2:(((hi-lo).toNat:Nat):Int)-((0:Nat):Int)=Builtin.Range.rangeSize lo hi 1:=by rw[rangeSize_one];split <;> omega
   show IsRangeIter _ _ (lo+((0:Nat):Int)*1) ((((hi-lo).toNat:Nat):Int)-((0:Nat):Int)) 1
   rw[e1,e2]
   exact dZ _ rfl
 . have e:b=(s.heap.push { cls:=.type "range",data:=.fields #[.int lo t,.int hi u,.int 1 v] }).objs.size:=by simpa using hb
   subst e
   exact I1.BY (aN _) (I1.hok.fresh (aN _))
inductive Y7(R:It->Hp->Prop)(vs:Da V)(H1:Hp):Prop
 |mk(j:Int)(_:vs=[.int j])(_:-(2 ^ 62)<=j)(_:j<2 ^ 62)(_:R (Gj 0 j.toNat) H1)
def acq(ta:TA):TI:=λσ H R=>ta σ H (Y7 R)
def IL(g:TG)(tb:TS)(D:Ends)(σ:St):It->Hp->Prop:=λJ H1=>∃W:Nat->Nat->St->Hp->Prop,(∃m,W 0 m σ H1)/\∀i m σ H,W i m σ H->(J.stop i H/\D.nx σ H)\/(J.go i H/\∃N:St->Hp->Prop,(∀σ' H',N σ' H'->∃m',m'<m/\W (i+1) m' σ' H')/\∀x H',J.C3 i H x H'->g x σ H' (tb (D.lp N)))
def afN(wi:TI)(g:TG)(tb:TS):TS:=λD σ H=>wi σ H (IL g tb D σ)
def C4(fp:Da Addr)(h:Heap):Da (Addr×Obj):=fp.filterMap λb=>(h.get? b).map λo=>(b,o)
def jf{b:Addr}{o:Obj}(hb:b∈fp)(e:h.get? b=some o):(b,o)∈C4 fp h:=EK.mpr ⟨b,hb,by rw[e];rfl⟩
def Rk{p:Addr×Obj}(hp:p∈C4 fp h):p.1∈fp/\h.get? p.1=some p.2:=by
 obtain⟨b,hb,e⟩:=EK.mp hp;cases q:h.get? b with
 | none=>rw[q]at e;cases e
 | some o=>rw[q]at e;have e':(b,o)=p:=ie e;subst e';exact⟨hb,q⟩
def Inv.pinned(I:Inv X AT σ H s)(hf:∀b∈fp,oV X AT H b)(ho:∀b∈fp,∃o,s.heap.get? b=some o/\∀v,o.data ≠ .cell v):Inv X (AT++C4 fp s.heap) σ H s:=I.ND λp hp=>(fj.mp hp).elim (λz=>I.pin p (jA _ z)) λz=>by obtain⟨hb,e⟩:=Rk z;obtain⟨f0,f1,f2,_⟩:=hf p.1 hb;obtain⟨o,e',d⟩:=ho p.1 hb;rw[e]at e';cases e';exact⟨e,f0,f1,f2,d⟩
def Inv.qp{pl:AO}(I:Inv X (AT++pl) σ H s):Inv X AT σ H s:=I.ND λp hp=>I.pin p (jA _ (EG _ hp))
end
variable {g:TG}{tb:TS}
theorem jC(Pv:Nat->St->Hp->Prop)(h0:Pv 0 σ H)(hl:∀i σ H,i<=xs.length->Pv i σ H->aA K H a xs)(hs:∀i x σ H,xs[i]?=some x->Pv i σ H->g x σ H (tb (D.lp (Pv (i+1)))))(hd:∀σ H,Pv xs.length σ H->D.nx σ H):
  IL g tb D σ (sY K a) H:=by
 refine⟨λi m σ H=>m=xs.length-i/\i<=xs.length/\Pv i σ H,⟨xs.length,by simp,eV _,h0⟩,?_⟩
 rintro i m σ H ⟨rfl,hi,p⟩
 have q:=hl i σ H hi p
 by_cases hlt:i<xs.length
 . refine .inr ⟨⟨xs,xs[i],q,by simp[hlt]⟩,Pv (i+1),λσ' H' p'=>⟨xs.length-(i+1),by omega,Z,hlt,p'⟩,λx H' y=>?_⟩
   obtain⟨e,y⟩:=y
   subst e
   exact hs i x σ _ (y xs q) p
 . have e:i=xs.length:=by omega
   subst e
   exact .inl ⟨⟨xs,q,aN _⟩,hd σ H p⟩
theorem fM{lo:Int}(Pv:Nat->St->Hp->Prop)(h0:Pv 0 σ H)(hs:∀i σ H,i<n->Pv i σ H->g (.int (lo+i)) σ H (tb (D.lp (Pv (i+1)))))(hd:∀σ H,Pv n σ H->D.nx σ H):
  IL g tb D σ (Gj lo n) H:=by
 refine⟨λi m σ H=>m=n-i/\i<=n/\Pv i σ H,⟨n,by simp,eV _,h0⟩,?_⟩
 rintro i m σ H ⟨rfl,hi,p⟩
 by_cases hlt:i<n
 . refine .inr ⟨hlt,Pv (i+1),λσ' H' p'=>⟨n-(i+1),by omega,Z,hlt,p'⟩,λx H' y=>?_⟩
   obtain⟨e,y⟩:=y
   subst e y
   exact hs i σ _ hlt p
 . have e:i=n:=by omega
   subst e
   exact .inl ⟨aN _,hd σ H p⟩
abbrev R2:=V->V->Hp->VK->Prop
def ir(X:Cx)(f:Value->Value->Sem Value)(r:R2):Prop:=∀(AT:AO)(s:Shared)(σ:St)(H:Hp)(x y:V)(v u:Value)(Q:VK),Inv X AT σ H s->RelV x v->RelV y u->r x y H Q->wpAny (model X.prog X.w) X.A (f v u) (EP X AT σ Q) X.xe s
def Y8(X:Cx)(f:Value->Sem Value)(r:V->Hp->VK->Prop):Prop:=∀(AT:AO)(s:Shared)(σ:St)(H:Hp)(x:V)(v:Value)(Q:VK),Inv X AT σ H s->RelV x v->r x H Q->wpAny (model X.prog X.w) X.A (f v) (EP X AT σ Q) X.xe s
def gG(X:Cx)(f:Value)(r:Da V->Hp->VK->Prop):Prop:=∀(AT:AO)(s:Shared)(σ:St)(H:Hp)(xs:Da V)(us:Da Value)(Q:VK),Inv X AT σ H s->Vals xs us->r xs H Q->wpAny (model X.prog X.w) X.A (call f us) (EP X AT σ Q) X.xe s
def Y9(r:R2)(Q:VK)(x:V):V->Hp->Prop:=λy H2=>r x y H2 Q
def afO(r:R2)(tb:TE)(σ:St)(Q:VK):V->Hp->Prop:=λx H1=>tb σ H1 (Y9 r Q x)
def Gk(r:R2)(ta tb:TE):TE:=λσ H Q=>ta σ H (afO r tb σ Q)
def afP(r:V->Hp->VK->Prop)(Q:VK):V->Hp->Prop:=λx H1=>r x H1 Q
def tUn(r:V->Hp->VK->Prop)(ta:TE):TE:=λσ H Q=>ta σ H (afP r Q)
inductive rI(C:Int->Int->Prop)(g:Int->Int->V)(x:V)(y:V)(H:Hp)(Q:VK):Prop
 |mk(i j:_)(_:x =.int i)(_:y =.int j)(_:C i j)(_:Q (g i j:_) H)
inductive C5(g:Int->Int->V)(x:V)(y:V)(H:Hp)(Q:VK):Prop
 |mk(i j:_)(_:x =.int i)(_:y =.int j)(_:Q (g i j:_) H)
inductive rU(g:Int->V)(x:V)(H:Hp)(Q:VK):Prop
 |mk(i:_)(_:x =.int i)(_:Q (g i:_) H)
section
variable {X:Cx}{a b c:Expr}{ta tb tc:TE}{pos:Pos}
def Uw(ha:PE X a ta)(hb:PE X b tb){R:V->V->Hp->Prop}(I:Inv X AT σ H s)(h:ta σ H λx H1=>tb σ H1 λy H2=>R x y H2){Q:VS}{f:Value->Value->Sem Value}(hf:∀v u s2 x y H2,Inv X AT σ H2 s2->RelV x v->RelV y u->R x y H2->wpAny (model X.prog X.w) X.A (f v u) Q X.xe s2):
  wpAny (model X.prog X.w) X.A (eval a X.env) (λv s₁=>wpAny (model X.prog X.w) X.A (eval b X.env) (λu s₂=>wpAny (model X.prog X.w) X.A (f v u) Q X.xe s₂) X.xe s₁) X.xe s:=by
 refine bg (ha AT s σ H _ I h) λv s1 ⟨x,H1,I1,r1,q1⟩=>?_
 refine bg (hb AT s1 σ H1 _ I1 q1) λu s2 ⟨y,H2,I2,r2,q2⟩=>?_
 exact hf v u s2 x y H2 I2 r1 r2 q2
def Rl{f:Value->Value->Sem Value}{C:Int->Int->Prop}{g:Int->Int->Int}(rule:∀(i j:Int) (t u:Tok) (s:Shared) (Q:VS) (E:VS),C i j->Q (.int (g i j) s.toks) { s with toks:=s.toks+1 }->wpAny (model X.prog X.w) X.A (f (.int i t) (.int j u)) Q E s):
  ir X f (rI C λi j=> .int (g i j)):=by
 intro AT s σ H x y v u Q I rx ry h
 obtain⟨i,j,rfl,rfl,hc,q⟩:=h
 obtain⟨t,rfl⟩:=rx
 obtain⟨t',rfl⟩:=ry
 exact rule i j t t' s _ _ hc ⟨.int (g i j),H,I.tok _,⟨_,Z⟩,q⟩
def Y_{f:Value->Value->Sem Value}{g:Int->Int->Int}(rule:∀(i j:Int) (t u:Tok) (s:Shared) (Q:VS) (E:VS),Q (.int (g i j) s.toks) { s with toks:=s.toks+1 }->wpAny (model X.prog X.w) X.A (f (.int i t) (.int j u)) Q E s):
  ir X f (C5 λi j=> .int (g i j)):=by
 intro AT s σ H x y v u Q I rx ry h
 obtain⟨i,j,rfl,rfl,q⟩:=h
 obtain⟨t,rfl⟩:=rx
 obtain⟨t',rfl⟩:=ry
 exact rule i j t t' s _ _ ⟨.int (g i j),H,I.tok _,⟨_,Z⟩,q⟩
def Pk{f:Value->Value->Sem Value}{g:Int->Int->Bool}(rule:∀(i j:Int) (t u:Tok) (s:Shared) (Q:VS) (E:VS),Q (.bool (g i j)) s->wpAny (model X.prog X.w) X.A (f (.int i t) (.int j u)) Q E s):
  ir X f (C5 λi j=> .bl (g i j)):=by
 intro AT s σ H x y v u Q I rx ry h
 obtain⟨i,j,rfl,rfl,q⟩:=h
 obtain⟨t,rfl⟩:=rx
 obtain⟨t',rfl⟩:=ry
 exact rule i j t t' s _ _ ⟨.bl (g i j),H,I,Z,q⟩
def Pn(i j:Int):Prop:=0<=j/\j<=1000000/\i.natAbs<2 ^ 64
def Ux(i j:Int):Prop:=(-(2 ^ 64)<i/\i<2 ^ 64)\/(-(2 ^ 64)<j/\j<2 ^ 64)
def Ux.ok{i j:Int}(h:Ux i j):IntMulOk i j:=by
 rcases h with⟨h1,h2⟩|⟨h1,h2⟩
 .exact .of_left (intBits_le_64 h1 h2)
 .exact .of_right (intBits_le_64 h1 h2)
def bV:ir X (binaryOp .Add) (C5 λi j=> .int (i+j)):=Y_ λ_ _ _ _ _ _ _ q=>add_int q
def lI:ir X (binaryOp .Sub) (C5 λi j=> .int (i-j)):=Y_ λ_ _ _ _ _ _ _ q=>sub_int q
def jg:ir X (binaryOp .Mult) (rI Ux λi j=> .int (i*j)):=Rl λ_ _ _ _ _ _ _ hc q=>mul_int q hc.ok
theorem jQ:ir X (binaryOp .Mod) (rI (λ_ j=>0<j) λi j=> .int (i % j)):=Rl λi j _ _ _ _ _ hc q=>by have h1:(0:Int)<j:=hc;exact mod_int' (by omega) (by rw[Int.fmod_eq_emod_of_nonneg i (by omega)];exact q)
def mW:ir X (binaryOp .Pow) (rI Pn λi j=> .int (i ^ j.toNat)):=Rl λ_ _ _ _ _ _ _ hc q=>pow_int_small hc.1 hc.2.1 hc.2.2 q
def unI{f:Value->Sem Value}{g:Int->Int}(rule:∀(i:Int) (t:Tok) (s:Shared) (Q:VS) (E:VS),Q (.int (g i) s.toks) { s with toks:=s.toks+1 }->wpAny (model X.prog X.w) X.A (f (.int i t)) Q E s):
  Y8 X f (rU λi=> .int (g i)):=by
 intro AT s σ H x v Q I rx h
 obtain⟨i,rfl,q⟩:=h
 obtain⟨t,rfl⟩:=rx
 exact rule i t s _ _ ⟨.int (g i),H,I.tok _,⟨_,Z⟩,q⟩
def wL:Y8 X (unaryOp .USub) (rU λi=> .int (-i)):=unI λ_ _ _ _ _ q=>neg_int q
end
def Za:V->V->Bool
 | .cD,.cD=>true | .cD,.int _=>true | .int _,.cD=>true | .cD,.bl _=>true | .bl _,.cD=>true | .cD,.str _=>true | .str _,.cD=>true
 | .int _,.int _=>true | .bl _,.bl _=>true | .str _,.str _=>true | .wH _,.wH _=>true
 | .int _,.str _=>true | .str _,.int _=>true | .bl _,.str _=>true | .str _,.bl _=>true
 | _,_=>false
inductive rEq(x:V)(y:V)(H:Hp)(Q:VK):Prop
 |mk(_:Za x y=true)(_:Q (.bl (decide (x=y))) H)
inductive rNe(x:V)(y:V)(H:Hp)(Q:VK):Prop
 |mk(_:Za x y=true)(_:Q (.bl (!decide (x=y))) H)
def NF{i j:Int}:decide (V.int i=V.int j)=(i==j):=by rw[tF];simp
def Rm{i j:Bool}:decide (V.bl i=V.bl j)=(i==j):=by rw[tF];simp
def NG{i j:Str}:decide (V.str i=V.str j)=(i==j):=by rw[tF];simp
def NH{i j:Array UInt8}:decide (V.wH i=V.wH j)=(i.toList==j.toList):=by rw[tF];cases i;cases j;simp
section
variable {X:Cx}{a b c:Expr}{ta tb tc:TE}{pos:Pos}
def c_{Q:VK}{k k':Bool}(I:Inv X AT σ H s)(q:Q (.bl k) H)(e:k=k'):EP X AT σ Q (.bool k') s:=by subst e;exact⟨.bl k,H,I,Z,q⟩
def i6:ir X (compareOp .Eq) rEq:=by
 intro AT s σ H x y v u Q I rx ry h;obtain⟨hs,q⟩:=h;cases x with
 | cD=>
  cases rx;cases y with
  | cD=>cases ry;exact PySem.EqNone.eq_none_none (c_ I q (by simp))
  | bl j=>cases ry;exact PySem.EqNone.eq_none_bool (c_ I q (by simp))
  | int j=>obtain⟨t',rfl⟩:=ry;exact PySem.EqNone.eq_none_int (c_ I q (by simp))
  | str j=>obtain⟨t',rfl⟩:=ry;exact PySem.EqNone.eq_none_str (c_ I q (by simp))
  | _=>exact absurd (show false=true from hs) fQ
 | bl i=>
  cases rx;cases y with
  | cD=>cases ry;exact PySem.EqNone.eq_bool_none (c_ I q (by simp))
  | bl j=>cases ry;exact eq_bool (c_ I q Rm)
  | str j=>obtain⟨t',rfl⟩:=ry;exact PySem.EqMixed.eq_bool_str (c_ I q (by simp))
  | _=>exact absurd (show false=true from hs) fQ
 | int i=>
  obtain⟨t,rfl⟩:=rx;cases y with
  | cD=>cases ry;exact PySem.EqNone.eq_int_none (c_ I q (by simp))
  | int j=>obtain⟨t',rfl⟩:=ry;exact eq_int (c_ I q NF)
  | str j=>obtain⟨t',rfl⟩:=ry;exact PySem.EqMixed.eq_int_str (c_ I q (by simp))
  | _=>exact absurd (show false=true from hs) fQ
 | str i=>
  obtain⟨t,rfl⟩:=rx;cases y with
  | cD=>cases ry;exact PySem.EqNone.eq_str_none (c_ I q (by simp))
  | bl j=>cases ry;exact PySem.EqMixed.eq_str_bool (c_ I q (by simp))
  | int j=>obtain⟨t',rfl⟩:=ry;exact PySem.EqMixed.eq_str_int (c_ I q (by simp))
  | str j=>obtain⟨t',rfl⟩:=ry;exact eq_str (c_ I q NG)
  | _=>exact absurd (show false=true from hs) fQ
 | wH i=>
  obtain⟨t,rfl⟩:=rx;cases y with
  | wH j=>obtain⟨t',rfl⟩:=ry;exact PySem.W.eq_bytes (c_ I q NH)
  | _=>exact absurd (show false=true from hs) fQ
 | _=>cases y <;> exact absurd (show false=true from hs) fQ
def qS:ir X (compareOp .NotEq) rNe:=by
 intro AT s σ H x y v u Q I rx ry h;obtain⟨hs,q⟩:=h;cases x with
 | cD=>
  cases rx;cases y with
  | cD=>cases ry;exact PySem.EqNone.ne_none_none (c_ I q (by simp))
  | bl j=>cases ry;exact PySem.EqNone.ne_none_bool (c_ I q (by simp))
  | int j=>obtain⟨t',rfl⟩:=ry;exact PySem.EqNone.ne_none_int (c_ I q (by simp))
  | str j=>obtain⟨t',rfl⟩:=ry;exact PySem.EqNone.ne_none_str (c_ I q (by simp))
  | _=>exact absurd (show false=true from hs) fQ
 | bl i=>
  cases rx;cases y with
  | cD=>cases ry;exact PySem.EqNone.ne_bool_none (c_ I q (by simp))
  | bl j=>cases ry;exact ne_bool (c_ I q (gF not Rm))
  | str j=>obtain⟨t',rfl⟩:=ry;exact PySem.EqMixed.ne_bool_str (c_ I q (by simp))
  | _=>exact absurd (show false=true from hs) fQ
 | int i=>
  obtain⟨t,rfl⟩:=rx;cases y with
  | cD=>cases ry;exact PySem.EqNone.ne_int_none (c_ I q (by simp))
  | int j=>obtain⟨t',rfl⟩:=ry;exact ne_int (c_ I q (gF not NF))
  | str j=>obtain⟨t',rfl⟩:=ry;exact PySem.EqMixed.ne_int_str (c_ I q (by simp))
  | _=>exact absurd (show false=true from hs) fQ
 | str i=>
  obtain⟨t,rfl⟩:=rx;cases y with
  | cD=>cases ry;exact PySem.EqNone.ne_str_none (c_ I q (by simp))
  | bl j=>cases ry;exact PySem.EqMixed.ne_str_bool (c_ I q (by simp))
  | int j=>obtain⟨t',rfl⟩:=ry;exact PySem.EqMixed.ne_str_int (c_ I q (by simp))
  | str j=>obtain⟨t',rfl⟩:=ry;exact ne_str (c_ I q (gF not NG))
  | _=>exact absurd (show false=true from hs) fQ
 | wH i=>
  obtain⟨t,rfl⟩:=rx;cases y with
  | wH j=>obtain⟨t',rfl⟩:=ry;exact PySem.W.ne_bytes (c_ I q (gF not NH))
  | _=>exact absurd (show false=true from hs) fQ
 | _=>cases y <;> exact absurd (show false=true from hs) fQ
def Ay:ir X (compareOp .Lt) (C5 λi j=> .bl (decide (i<j))):=Pk λ_ _ _ _ _ _ _ q=>lt_int q
def V7:ir X (compareOp .LtE) (C5 λi j=> .bl (decide (i<=j))):=Pk λ_ _ _ _ _ _ _ q=>le_int q
def iH:ir X (compareOp .Gt) (C5 λi j=> .bl (decide (j<i))):=Pk λ_ _ _ _ _ _ _ q=>gt_int q
def IM:ir X (compareOp .GtE) (C5 λi j=> .bl (decide (j<=i))):=Pk λ_ _ _ _ _ _ _ q=>ge_int q
def Rn:ir X (compareOp .In) (λx y H Q=>∃i j,x =.str i/\y =.str j/\Q (.bl (!(Builtin.Str.occurrences j i 0 j.length 1).isEmpty)) H):=by intro AT s σ H x y v u Q I rx ry h;obtain⟨i,j,rfl,rfl,q⟩:=h;obtain⟨t,rfl⟩:=rx;obtain⟨t',rfl⟩:=ry;exact in_str (c_ I q rfl)
def aZ(b:Expr)(h:op ≠ .In:=by decide)(h2:op ≠ .NotIn:=by decide):behindInMarks op b=false:=by
 have e1:(op==CmpOp.In)=false:=by cases op <;> first|rfl|exact absurd rfl h
 have e2:(op==CmpOp.NotIn)=false:=by cases op <;> first|rfl|exact absurd rfl h2
 cases b <;> simp[behindInMarks,e1,e2]
inductive Ro(Q:Bool->Hp->Prop)(x:V)(H':Hp):Prop
 |mk(k:_)(_:x =.bl k)(_:Q k H')
def V8(t:TE):TT:=λσ H Q=>t σ H (Ro Q)
inductive Rp(r':R2)(tc:TE)(σ:St)(Q:VK)(y:V)(z:V)(H3:Hp):Prop
 |mk(k:_)(_:z =.bl k)(_:(if k=true then tc σ H3 λw' H4=>r' y w' H4 Q else Q (.bl false) H3))
def Rq(r:R2)(r':R2)(tc:TE)(σ:St)(Q:VK)(x:V):V->Hp->Prop:=λy H2=>r x y H2 (Rp r' tc σ Q y)
def Xb(r:R2)(r':R2)(tb:TE)(tc:TE)(σ:St)(Q:VK):V->Hp->Prop:=λx H1=>tb σ H1 (Rq r r' tc σ Q x)
def Zb(r r':R2)(ta tb tc:TE):TE:=λσ H Q=>ta σ H (Xb r r' tb tc σ Q)
def wM:(sizeLine:Nat)<2 ^ 63:=by rw[eW];decide
def C6:ir X (binaryOp .Add) (λx y H Q=>∃i j,x =.str i/\y =.str j/\i.length+j.length<=sizeLine/\Q (.str (i++j)) H):=by intro AT s σ H x y v u Q I rx ry h;obtain⟨i,j,rfl,rfl,hz,q⟩:=h;obtain⟨t,rfl⟩:=rx;obtain⟨t',rfl⟩:=ry;exact add_str (λt' tk=>⟨.str (i++j),H,I.tok _,⟨_,Z⟩,q⟩) hz
def vals1{x:V}(r:Vals [x] us):∃u,us=[u]/\RelV x u:=by
 cases r with
 | cons r1 r2=>cases r2;exact⟨_,Z,r1⟩
def vals2{x:V}(r:Vals [x,y] us):∃u w',us=[u,w']/\RelV x u/\RelV y w':=by
 cases r with
 | cons r1 r2=>
  cases r2 with
  | cons r3 r4=>cases r4;exact⟨_,_,Z,r1,r3⟩
def Uy:gG X (.builtin "abs") (λxs H Q=>∃i,xs=[.int i]/\Q (.int (if i<0 then -i else i)) H):=by intro AT s σ H xs us Q I r h;obtain⟨i,rfl,q⟩:=h;obtain⟨u,rfl,t,rfl⟩:=vals1 r;exact call_abs_int λu tk=>⟨.int (if i<0 then -i else i),H,I.tok _,⟨_,Z⟩,q⟩
def Gm(hc:X.calm=true):gG X (.builtin "min") (λxs H Q=>∃i j,xs=[.int i,.int j]/\Q (.int (if j<i then j else i)) H):=by
 intro AT s σ H xs us Q I r h;obtain⟨i,j,rfl,q⟩:=h;obtain⟨u,w',rfl,⟨t,rfl⟩,⟨t',rfl⟩⟩:=vals2 r;refine min_two_ints (I.ok.hd hc) λh' tk k=>⟨_,H,I.kept k,?_,q⟩
 by_cases hj:j<i
 .rw [aC hj,aC hj];exact⟨_,Z⟩
 .rw [aB hj,aB hj];exact⟨_,Z⟩
end
structure BZ(h:Heap)(x dx C:Addr)(mA:SO):Prop where
 obj:h.get? x=some (PySem.W.instObj C dx)
 ns:h.Ns1 dx mA
 ne:dx≠x
def Rr{mA:SO}(n:h.Ns1 dx mA):∃od,h.get? dx=some od/\∀name,PySem.W.lookIn name od=some (mA name):=by
 obtain⟨o,es,ep,ho,hd,hk,_,hm⟩:=n;refine⟨o,ho,λname=>?_⟩;have e:=hm name;unfold nsFind findBy at e;rw[<-Array.find?_toList]at e;unfold PySem.W.lookIn;rw[hd];dsimp only;split
 .rename_i y q;rw[q]at e;exact gF some e
 .rename_i q;rw[q]at e;have a:es.toList.any (·.refKey)=false:=by rw[List.any_eq_false];intro y hy;obtain⟨z,t,hkey⟩:=hk y (Array.mem_toList_iff.mp hy);simp[DictEntry.refKey,hkey]
  have a':¬ es.toList.any (·.refKey)=true:=by rw[a];exact fQ
  rw[aB a'];exact gF some e
variable {C:Addr}
def BZ.look{x dx:Addr}{mA:SO}(I:BZ h x dx C mA):∃od,PySem.W.InstAt h x (PySem.W.instObj C dx) C (some od)/\∀name,PySem.W.lookIn name od=some (mA name):=
 let⟨od,ho,hl⟩:=Rr I.ns
 ⟨od,⟨I.obj,Z,Z,ho⟩,hl⟩
variable {pl:Sem Bool}{R:Result->Shared->Prop}{kw:Da (Str×Value)}
section
variable {prog:Program}{w:World}{A:Around}{E:VS}{s:Shared}{K:Fg}{x dx C f:Addr}{mA:SO}{name:Str}{v:Value}
def get_map{expr:Bool}{Q:VS}(X:K.In s.heap)(I:BZ s.heap x dx C mA)(hg:PySem.W.plainGet K C name=true)(hh:PySem.W.hasDictIn K C=true)(ha:PySem.W.findIn K (.ref C) name=some none)(hv:mA name=some v)(hv':PySem.W.handedIn v=true)(h:Q v { s with toks:=s.toks+1 }):
  wpAny (model prog w) A (getAttr (.ref x) name expr) Q E s:=by
 obtain⟨od,J,hl⟩:=I.look
 exact PySem.W.get_value X J (PySem.W.plainGet_of hg).1 (PySem.W.findObj_own hh ha rfl (by rw[hl,hv])) hv' h
def Uz{Q:Value×Da Value->Shared->Prop}(X:K.In s.heap)(I:BZ s.heap x dx C mA)(hg:PySem.W.plainGet K C name=true)(hf:PySem.W.findIn K (.ref C) name=some (some (.ref f)))(ht:PySem.W.isFn K (.ref f)=true)(hv:mA name=none)(h:Q (.ref f,[.ref x]) s):
  wpAny (model prog w) A (getMethod (.ref x) name pl) Q E s:=by
 obtain⟨od,J,hl⟩:=I.look
 exact PySem.W.method_fn X J (PySem.W.plainGet_of hg).1 (PySem.W.plainGet_of hg).2 hf (lq.mp ht) (by show(PySem.W.lookIn name od).map (·.isSome)=some false;rw[hl,hv];rfl) h
theorem Xc{ns:Da Str}(X:K.In s.heap)(I:BZ s.heap x dx C mA)(hs:PySem.W.findIn K (.ref C) "__setattr__"=some (some (.builtin "object.__setattr__")))(hp:PySem.W.plainOver K C=true)(ht:PySem.W.takerIn K C name=some none)(hh:PySem.W.hasDictIn K C=true)(hw:PySem.Within mA ns)(hsz:ns.length<=sizeLine)(h:∀h',BZ h' x dx C (λy=>if y=name then some v else mA y)->Heap.SameBut dx s.heap h'->Q () { s with heap:=h',toks:=s.toks+2 }):
  wpAny (model prog w) A (setAttr (.ref x) name v) Q E s:=by
 obtain⟨od,J,hl⟩:=I.look
 refine PySem.W.set_plain X J hs (PySem.W.osa_open (s:={ s with toks:=s.toks+1 }) (r:=none) X J hp ht λb=>?_)
 obtain⟨cd,hc,hd'⟩:=PySem.W.any_some hh
 have hx:s.heap.get? x=some ⟨.ref C,some dx,.plain,#[]⟩:=I.obj
 refine aq (aJ (aq (aq (wpAny_loadPart hx (aq (PySem.W.Looks.here (s:={ s with toks:=s.toks+1 }) (PySem.W.looks_clsIn X hc) ?_))))))
 rw[hd']
 refine aJ (a:=some dx) (aq (aJ (aq ?_)))
 refine wpAny_nsSet1 (s:={ s with toks:=s.toks+1 }) I.ns λh' hn2 hs2=>?_
 obtain⟨oD,esD,epD,hoD,hdD,hcD⟩:=hn2.count (PySem.Within.cons name v hw)
 refine aq (wpAny_lookBehind hoD (by rw[hdD];exact pastItsLine_dict (fL hcD (by rw[kq];omega))) ?_)
 exact aJ (h _ ⟨(hs2.2 _ (cy I.ne)).trans I.obj,hn2,I.ne⟩ hs2)
def UA{vs:Da Value}(X:K.In s.heap)(hm:PySem.W.makesIn K C=true)(hi:PySem.W.findIn K (.ref C) "__init__"=some (some (.ref f)))(hf:PySem.W.typeIn K (.ref f)=some (.type "function"))(h:codeAny (model prog w) (A.under (.builtin "type.__call__" ⟨.ref C::vs,kw⟩)) (.call (.ref f) ⟨.ref (s.heap.objs.size+1)::vs,kw⟩) (PySem.W.InitBack (s.heap.objs.size+1) R)
    { s with heap:=(s.heap.push PySem.W.emptyDict).push (PySem.W.instObj C s.heap.objs.size) }):
  codeAny (model prog w) A (.call (.ref C) ⟨vs,kw⟩) R s:=by
 obtain⟨hh,g,d,t,os⟩:=s
 exact PySem.W.make_core (PySem.W.makes_of X hm) (PySem.W.looks_findIn X hi) (λself=>PySem.W.bind_fn X self hf) (.inl rfl) h
end
def iy(f:Str)(v:V):Da (Str×V)->Da (Str×V)
 | []=>[(f,v)]
 | (g,x)::r=>if g=f then(g,v)::r else(g,x)::iy f v r
theorem Bh(f g:Str)(v:V):∀fs:Da (Str×V),(iy f v fs).lookup g=if g=f then some v else fs.lookup g
 | []=>by
  show List.lookup g [(f,v)]=_;by_cases h:g=f
  .have hb:(g==f)=true:=lq.mpr h;simp only[List.lookup,hb,aC h]
  .have hb:(g==f)=false:=EH.mpr h;simp only[List.lookup,hb,aB h]
 | (k,x)::r=>by
  have ih:=Bh f g v r;rw[show iy f v ((k,x)::r)=(if k=f then(k,v)::r else(k,x)::iy f v r)from rfl];by_cases hk:k=f
  .rw [aC hk];by_cases h:g=k
   .have hb:(g==k)=true:=lq.mpr h;simp only[List.lookup,hb,aC (h.trans hk)]
   .have hb:(g==k)=false:=EH.mpr h;simp only[List.lookup,hb,aB (λe:g=f=>h (e.trans hk.symm))]
  .rw [aB hk];by_cases h:g=k
   .have hb:(g==k)=true:=lq.mpr h;simp only[List.lookup,hb,aB (λe:g=f=>hk (h.symm.trans e))]
   .have hb:(g==k)=false:=EH.mpr h;simp only[List.lookup,hb];exact ih
theorem yX(f:Str)(v:V):∀fs:Da (Str×V),f∈(iy f v fs).map (·.1)/\∀g,g∈fs.map (·.1)->g∈(iy f v fs).map (·.1)
 | []=>⟨by simp[iy],λg h=>by simp at h⟩
 | (k,x)::r=>by
  obtain⟨i1,i2⟩:=yX f v r;rw[show iy f v ((k,x)::r)=(if k=f then(k,v)::r else(k,x)::iy f v r)from rfl];by_cases hk:k=f
  .rw [aC hk];subst hk;exact⟨by simp,λg h=>by simpa using h⟩
  .rw [aB hk];refine⟨?_,λg h=>?_⟩
   .rw [bJ];exact b_ _ i1
   .rw [bJ]at h ⊢;rcases cJ.mp h with e|e
    .exact cJ.mpr (.inl e)
    .exact b_ _ (i2 g e)
theorem Bj(f:Str)(v:V):∀fs:Da (Str×V),(iy f v fs).length<=fs.length+1
 | []=>by simp[iy]
 | (k,x)::r=>by
  have ih:=Bj f v r;rw[show iy f v ((k,x)::r)=(if k=f then(k,v)::r else(k,x)::iy f v r)from rfl];by_cases hk:k=f
  .rw [aC hk,kq,kq];omega
  .rw [aB hk,kq,kq];omega
def mL.some_of{v:V}{o:Option Value}(r:mL (some v) o):∃u,o=some u/\RelV v u:=by
 cases o with
 | none=>exact(show False from r).elim
 | some u=>exact⟨u,Z,r⟩
def mL.none_of{o:Option Value}(r:mL none o):o=none:=by
 cases o with
 | none=>rfl
 | some u=>exact(show False from r).elim
def Rt{v:V}(r:RelV v u):PySem.W.handedIn u=true:=by
 cases v with
 | cD=>cases(show u=Value.none from r);rfl
 | bl b=>cases(show u=Value.bool b from r);rfl
 | int i=>obtain⟨t,e⟩:=(show ∃t,u=Value.int i t from r);cases e;rfl
 | str x=>obtain⟨t,e⟩:=(show ∃t,u=Value.str x t from r);cases e;rfl
 | wH b=>obtain⟨t,e⟩:=(show ∃t,u=Value.bytes b t from r);cases e;rfl
 | Ge b=>obtain⟨t,e⟩:=(show ∃t,u=Value.float b t from r);cases e;rfl
 | ref a=>cases(show u=Value.ref a from r);rfl
 | ty n=>cases(show u=Value.type n from r);rfl
section
variable {P:Program}{w:World}{H H':Hp}{h h':Heap}{a C dx:Addr}{fs fs':Da (Str×V)}
def Az(hok:gU P w H h)(e:H a=some (.ins C dx fs)):∃mA,BZ h a dx C mA/\(∀f,mL (fs.lookup f) (mA f))/\PySem.Within mA (fs.map (·.1))/\fs.length<=1000/\H dx=some (.own a):=by
 obtain⟨d,z,ne,ob,mA,n,r,q⟩:=(show dM P w H h a (.ins C dx fs)from hok a _ e)
 exact⟨mA,⟨ob,n,ne⟩,r,q,z,d⟩
end
structure nY(K:Fg)(C:Addr):Prop where
 pg:PySem.W.plainGet K C Str.empty=true
 hd:PySem.W.hasDictIn K C=true
 po:PySem.W.plainOver K C=true
 sa:PySem.W.findIn K (.ref C) "__setattr__"=some (some (.builtin "object.__setattr__"))
def nY.get(c:nY K C)(f:Str):PySem.W.plainGet K C f=true:=c.pg
def fk(K:Fg)(C:Addr)(f:Str):Prop:=PySem.W.findIn K (.ref C) f=some none
def fk.acr{f:Str}(n:fk K C f):PySem.W.takerIn K C f=some none:=by unfold PySem.W.takerIn;rw[show PySem.W.findIn K (.ref C) f=some none from n];rfl
structure Meth(K:Fg)(C:Addr)(m:Str)(f:Addr):Prop where
 at_:PySem.W.findIn K (.ref C) m=some (some (.ref f))
 fn:PySem.W.isFn K (.ref f)=true
 kp:PySem.W.keepIn K (.ref f)=true
variable {env:Env}
section
variable {X:Cx}{AT:AO}{σ:St}{H:Hp}{s:Shared}{a C dx:Addr}{fs:Da (Str×V)}{f:Str}{v:V}{A:Around}{E:VS}
def C7{b:Bool}{Q:VS}(I:Inv X AT σ H s)(e:H a=some (.ins C dx fs))(c:nY X.K C)(n:fk X.K C f)(l:fs.lookup f=some v)(h:∀u s',Inv X AT σ H s'->RelV v u->Q u s'):wpAny (model X.prog X.w) A (getAttr (.ref a) f b) Q E s:=by
 obtain⟨mA,O,r,_,_,_⟩:=Az I.hok e
 obtain⟨u,hu,ru⟩:=mL.some_of (v:=v) (o:=mA f) (by rw[<-l];exact r f)
 exact get_map I.iQ O (c.get f) c.hd n hu (Rt ru) (h u _ (I.tok _) ru)
def C8{m:Str}{g:Addr}{Q:Value×Da Value->Shared->Prop}(I:Inv X AT σ H s)(e:H a=some (.ins C dx fs))(c:nY X.K C)(k:Meth X.K C m g)(l:fs.lookup m=none)(h:Q (.ref g,[.ref a]) s):wpAny (model X.prog X.w) A (getMethod (.ref a) m pl) Q E s:=by
 obtain⟨mA,O,r,_,_,_⟩:=Az I.hok e
 have hn:mA m=none:=mL.none_of (by rw[<-l];exact r m)
 exact Uz I.iQ O (c.get m) k.at_ k.fn hn h
theorem C9(I:Inv X AT σ H s)(e:H a=some (.ins C dx fs))(c:nY X.K C)(n:fk X.K C f)(hl:fs.length<1000)(ry:RelV y u)(h:∀s',Inv X AT σ (upd H a (.ins C dx (iy f y fs))) s'->Q () s'):wpAny (model X.prog X.w) A (setAttr (.ref a) f u) Q E s:=by
 obtain⟨mA,O,r,wi,_,ho⟩:=Az I.hok e
 have hz:(fs.map (·.1)).length<=sizeLine:=by rw[aF,eW];omega
 refine Xc I.iQ O c.sa c.po n.acr c.hd wi hz λh' O' sb=>h _ ?_
 have hd:∃o,h'.get? dx=some o:=let⟨o,_,_,e',_⟩:=O'.ns;⟨o,e'⟩
 refine I.write (x:=a) (e:=dx) (by rw[e];exact True.intro) (.inr ho) (λb q hb z=>(sb.2 b hb).trans z) hd ?_
 refine⟨by rw[av O.ne];exact ho,?_,O.ne,O'.obj,_,O'.ns,λg=>?_,λg hg=>?_⟩
 . have:=Bj f y fs;omega
 . show mL ((iy f y fs).lookup g) (if g=f then some u else mA g)
   rw[Bh]
   by_cases q:g=f
   . rw[aC q,aC q];exact ry
   . rw[aB q,aB q];exact r g
 . by_cases q:g=f
   . rw[q];exact(yX f y fs).1
   . refine(yX f y fs).2 g (wi g λz=>hg ?_)
     show(if g=f then some u else mA g)=none
     rw[aB q];exact z
def Inv.made(I:Inv X AT σ H s):Inv X AT σ (upd (upd H s.heap.objs.size (.own (s.heap.objs.size+1))) (s.heap.objs.size+1) (.ins C s.heap.objs.size []))
  { s with heap:=(s.heap.push PySem.W.emptyDict).push (PySem.W.instObj C s.heap.objs.size) }:=by
 have e1:(s.heap.push PySem.W.emptyDict).get? s.heap.objs.size=some PySem.W.emptyDict:=dZ s.heap rfl
 have e2:((s.heap.push PySem.W.emptyDict).push (PySem.W.instObj C s.heap.objs.size)).get? (s.heap.objs.size+1)=some (PySem.W.instObj C s.heap.objs.size):=by
  have:=dZ (s.heap.push PySem.W.emptyDict) (o:=PySem.W.instObj C s.heap.objs.size) rfl
  rwa [lY]at this
 have e3:(s.heap.push PySem.W.emptyDict).Ns s.heap.objs.size (λ_=>none):=⟨PySem.W.emptyDict,#[],_,e1,Z,(λe he=>absurd he (by simp)),λ_=>rfl⟩
 have I1:=I.laid (a:=s.heap.objs.size) (o:=.own (s.heap.objs.size+1)) (h':=s.heap.push PySem.W.emptyDict) (t':=s.toks) (λb u q=>bU _ q) (aN _) ⟨_,e1⟩
 refine I1.laid (a:=s.heap.objs.size+1) (o:=.ins C s.heap.objs.size []) (t':=s.toks) (λb u q=>bU _ q) (Nat.le_of_eq (lY _ _)) ?_
 have ne:s.heap.objs.size≠s.heap.objs.size+1:=dW (Nat.lt_succ_self _)
 refine⟨by rw[av ne,ah],eV _,ne,e2,λ_=>none,(Heap.Ns1.of_empty e3).at λo q=>bU _ q,λ_=>True.intro,λy hy=>absurd rfl hy⟩
def Xd{prog:Program}{w:World}{f:Str}{s:Shared}{Q:VS}(hb:attributeBase e f env (eval e env)=eval e env)(h:wpAny (model prog w) A (eval e env) (λo s₁=>wpAny (model prog w) A (getAttr o f true) Q E s₁) E s):wpAny (model prog w) A (eval (.Attribute e f pos) env) Q E s:=
 Attribute_any_ h (by rw[arm_eval_Attribute,hb])
end
inductive acs(K:Fg)(f:Str)(Q:VK)(x:V)(H1:Hp):Prop
 |mk(a C dx fs v:_)(_:x =.ref a)(_:H1 a=some (.ins C dx fs))(_:nY K C)(_:fk K C f)(_:fs.lookup f=some v)(_:Q v H1)
def Zc(K:Fg)(ta:TE)(f:Str):TE:=λσ H Q=>ta σ H (acs K f Q)
inductive Xe(K:Fg)(f:Str)(D:Ends)(σ:St)(y:V)(x:V)(H2:Hp):Prop
 |mk(a C dx fs:_)(_:x =.ref a)(_:H2 a=some (.ins C dx fs))(_:nY K C)(_:fk K C f)(_:fs.length<1000)(_:D.nx σ (upd H2 a (.ins C dx (iy f y fs))))
def acu(K:Fg)(ta:TE)(f:Str)(D:Ends)(σ:St):V->Hp->Prop:=λy H1=>ta σ H1 (Xe K f D σ y)
def Zd(K:Fg)(ta tv:TE)(f:Str):TS:=λD σ H=>tv σ H (acu K ta f D σ)
def Po(X:Cx)(op:Operator)(rd:V->V->Hp->VK->Prop):Prop:=∀(AT:AO)(s:Shared)(σ:St)(H:Hp)(x y:V)(u v:Value)(Q:VK),Inv X AT σ H s->RelV x u->RelV y v->rd x y H Q->wpAny (model X.prog X.w) X.A (inplaceOp op u v) (EP X AT σ Q) X.xe s
inductive Pp(f:Str)(D:Ends)(σ:St)(a:Addr)(C:Addr)(z:V)(H3:Hp):Prop
 |mk(Ze fs':_)(_:H3 a=some (.ins C Ze fs'))(_:fs'.length<1000)(_:D.nx σ (upd H3 a (.ins C Ze (iy f z fs'))))
def Pq(rd:V->V->Hp->VK->Prop)(f:Str)(D:Ends)(σ:St)(a:Addr)(C:Addr)(v:V):V->Hp->Prop:=λy H2=>rd v y H2 (Pp f D σ a C)
inductive UB(K:Fg)(tv:TE)(rd:V->V->Hp->VK->Prop)(f:Str)(D:Ends)(σ:St)(x:V)(H1:Hp):Prop
 |mk(a C dx fs v:_)(_:x =.ref a)(_:H1 a=some (.ins C dx fs))(_:nY K C)(_:fk K C f)(_:fs.lookup f=some v)(_:tv σ H1 (Pq rd f D σ a C v))
def NI(K:Fg)(ta tv:TE)(rd:V->V->Hp->VK->Prop)(f:Str):TS:=λD σ H=>ta σ H (UB K tv rd f D σ)
variable {rd:V->V->Hp->VK->Prop}
section
variable {X:Cx}{o e value:Expr}{f:Str}{pos pos' tpos:Pos}{ta tv:TE}
def Zf(he:PE X e ta)(hb:attributeBase e f X.env (eval e X.env)=eval e X.env):PE X (.Attribute e f pos) (Zc X.K ta f):=by intro AT s σ H Q I h;refine Xd hb (bg (he AT s σ H _ I h) λu s1 ⟨x,H1,I1,rx,a,C,dx,fs,v,ex,ea,c,n,l,q⟩=>?_);subst ex;obtain rfl:u=Value.ref a:=rx;exact C7 I1 ea c n l λu' s2 I2 ru=>⟨v,H1,I2,ru,q⟩
def Zg(ha:PE X o ta)(hv:PE X value tv)(hs:swapsWith value (some (.Attribute o f pos')) pos.line X.env=pure false):PS X (.Assign [.Attribute o f pos'] value pos) (Zd X.K ta tv f):=by intro AT s σ H D I h;refine plainObj_wpAny_Assign_Attribute (bg (hv AT s σ H _ I h) λu s1 ⟨y,H1,I1,ry,q⟩=>bg (ha AT s1 σ H1 _ I1 q) λov s2 ⟨x,H2,I2,rx,a,C,dx,fs,ex,ea,c,n,l,q2⟩=>?_) hs;subst ex;obtain rfl:ov=Value.ref a:=rx;exact C9 I2 ea c n l ry λs3 I3=>⟨σ,_,I3,q2⟩
def Ru{op:Operator}(ha:PE X o ta)(hv:PE X value tv)(hop:Po X op rd):PS X (.AugAssign (.Attribute o f tpos) op value pos) (NI X.K ta tv rd f):=by intro AT s σ H D I h;refine wpAny_AugAssign_AttributeAny (bg (ha AT s σ H _ I h) λov s1 ⟨x,H1,I1,rx,a,C,dx,fs,v,ex,ea,c,n,l,q⟩=>?_);subst ex;obtain rfl:ov=Value.ref a:=rx;refine C7 I1 ea c n l λu s2 I2 ru=>bg (hv AT s2 σ H1 _ I2 q) λw3 s3 ⟨y,H2,I3,ry,q3⟩=>bg (hop AT s3 σ H2 v y u w3 _ I3 ru ry q3) λw4 s4 ⟨z,H3,I4,rz,Ze,fs',ea',l',q4⟩=>?_;exact C9 I4 ea' c n l' rz λs5 I5=>⟨σ,_,I5,q4⟩
inductive afQ(x:V)(y:V)(H:Hp)(Q:VK):Prop
 |mk(i j:_)(_:x =.int i)(_:y =.int j)(_:Q (.int (i-j)) H)
def Zh:Po X .Sub afQ:=by
 rintro AT s σ H x y u v Q I rx ry ⟨i,j,rfl,rfl,q⟩;obtain⟨t,rfl⟩:=(show ∃t,u=Value.int i t from rx)
 obtain⟨t',rfl⟩:=(show ∃t',v=Value.int j t' from ry)
 exact PyProof.Rows.isub_int ⟨.int (i-j),H,I.tok _,⟨_,Z⟩,q⟩
end
section
variable {X:Cx}{AT:AO}{σ:St}{H:Hp}{s:Shared}{A:Around}{E:VS}{Q:VS}{c:Value}{b:Bool}
inductive fX(K:Fg)(H:Hp):V->Value->Prop where
 | cD:fX K H .cD (.type "NoneType")
 | bl (x:Bool):fX K H (.bl x) (.type "bool")
 | int (i:Int):fX K H (.int i) (.type "int")
 | str (x:Str):fX K H (.str x) (.type "str")
 | Ge (x:UInt64):fX K H (.Ge x) (.type "float")
 | lst {a:Addr} {xs:Da V} (e:H a=some (.lst xs)):fX K H (.ref a) (.type "list")
 | fF {a:Addr} {o:Obj} {xs:Da V} (e:H a=some (.fF o (.lst xs))):fX K H (.ref a) (.type "list")
 | tup {a:Addr} {xs:Da V} (e:H a=some (.tup xs)):fX K H (.ref a) (.type "tuple")
 | dK {a:Addr} {Ap:Da (Key×V)} (e:H a=some (.dK Ap)):fX K H (.ref a) (.type "dict")
 | dT {a:Addr} {Ap:Da (Da Key×V)} (e:H a=some (.dT Ap)):fX K H (.ref a) (.type "dict")
 | ins {a C dx:Addr} {fs:Da (Str×V)} (e:H a=some (.ins C dx fs)) (cl:nY K C) (ha:PySem.W.findIn K (.ref C) "__class__"=some (some (.builtin "object.__class__")))
    (hn:PySem.W.specialIn K (.builtin "object.__class__") "__get__"=some (some (.builtin "getset_descriptor.__get__"))) (htk:PySem.W.takesIn K (.builtin "object.__class__")=some true)
    (hm:PySem.W.mroIn K C (.type "object")=some true):fX K H (.ref a) (.ref C)
def Rv{x:V}{t:Value}(I:Inv X AT σ H s)(rx:RelV x u)(ty:fX X.K H x t)(e:PySem.W.kitOne X.K t c=some b)(h:∀tk,Q (.bool b) { s with toks:=tk }):wpAny (model X.prog X.w) A (call (.builtin "isinstance") [u,c]) Q E s:=by
 cases ty with
 | cD=>cases(show u=Value.none from rx);exact oQ PySem.W.kitx_none I.iQ True.intro e (λz=>nomatch z) h
 | bl y=>cases(show u=Value.bool y from rx);exact oQ PySem.W.kitx_bool I.iQ True.intro e (λz=>nomatch z) h
 | int i=>obtain⟨t,q⟩:=(show ∃t,u=Value.int i t from rx);cases q;exact oQ PySem.W.kitx_int I.iQ True.intro e (λz=>nomatch z) h
 | str y=>obtain⟨t,q⟩:=(show ∃t,u=Value.str y t from rx);cases q;exact oQ PySem.W.kitx_str I.iQ True.intro e (λz=>nomatch z) h
 | Ge y=>obtain⟨t,q⟩:=(show ∃t,u=Value.float y t from rx);cases q;exact oQ PySem.W.kitx_float I.iQ True.intro e (λz=>nomatch z) h
 | @lst a xs ea=>
  cases(show u=Value.ref a from rx);obtain⟨_,_,n,_,h1⟩:=(show dM X.prog X.w H s.heap a (.lst xs)from I.hok a _ ea)
  exact oQ PySem.W.kitx_list I.iQ ⟨_,h1,Z⟩ e (λz=>nomatch z) h
 | @fF a ob xs ea=>
  cases(show u=Value.ref a from rx);obtain⟨_,_,_,n,_,h1⟩:=(show dM X.prog X.w H s.heap a (.fF ob (.lst xs))from I.hok a _ ea)
  exact oQ PySem.W.kitx_list I.iQ ⟨_,h1,Z⟩ e (λz=>nomatch z) h
 | @tup a xs ea=>
  cases(show u=Value.ref a from rx);obtain⟨_,_,_,p⟩:=(show dM X.prog X.w H s.heap a (.tup xs)from I.hok a _ ea)
  obtain⟨o,h1,h2,_⟩:=p;exact oQ PySem.W.kitx_tuple I.iQ ⟨o,h1,h2⟩ e (λz=>nomatch z) h
 | @dK a Ap ea=>
  cases(show u=Value.ref a from rx);obtain⟨_,_,vs,_,p⟩:=(show dM X.prog X.w H s.heap a (.dK Ap)from I.hok a _ ea)
  obtain⟨o,es,ep,h1,h2,_⟩:=p;exact oQ PySem.W.kitx_dict I.iQ ⟨o,h1,h2.1⟩ e (λz=>nomatch z) h
 | @dT a Ap ea=>
  cases(show u=Value.ref a from rx);obtain⟨_,_,xs,_,o,es,ep,h1,h2,_⟩:=(show dM X.prog X.w H s.heap a (.dT Ap)from I.hok a _ ea)
  exact oQ PySem.W.kitx_dict I.iQ ⟨o,h1,h2.1⟩ e (λz=>nomatch z) h
 | @ins a C dx fs ea cl ha hn htk hm=>cases(show u=Value.ref a from rx);obtain⟨mA,O,_⟩:=Az I.hok ea;obtain⟨od,J,_⟩:=O.look;exact oQ (PySem.W.kitx_own (cl.get _) cl.hd ha hn htk hm) I.iQ J e (λz=>nomatch z) h
end
structure dj(k:Nat)(A:Around):Prop where
 hd:A.handled=none
 dp:A.depth+3*k+5<recursionLimit
 un:A.units+16*k+200<cLine
theorem dj.mono{k:Nat}(r:dj k A)(h:j<=k):dj j A:=⟨r.hd,by have:=r.dp;omega,by have:=r.un;omega⟩
theorem dj.deeper{k:Nat}(r:dj (k+1) A)(env:Env):dj k (A.deeper env):=⟨r.hd,by have:=r.dp;show A.depth+1+3*k+5<_;omega,by have:=r.un;show A.units+3+16*k+200<_;omega⟩
def Pr:(A.under (.builtin "type.__call__" ⟨.ref C::us,kw⟩)).depth=A.depth+1:=by first|rfl|simp[Around.under,Code.weight,Code.isCreation,Code.isGuard,Code.isCaller,Code.frames,Code.isFrame,guardIds]
def Pu:(A.under (.builtin "type.__call__" ⟨.ref C::us,kw⟩)).units=A.units+1:=by first|rfl|simp[Around.under,Code.cUnits,Code.frames,Code.isFrame]
theorem dj.make{k:Nat}(r:dj (k+1) A)(C:Addr)(us:Da Value)(kw:Da (Str×Value)):dj k (A.under (.builtin "type.__call__" ⟨.ref C::us,kw⟩)):=⟨r.hd,by have:=r.dp;rw[Pr];omega,by have:=r.un;rw[Pu];omega⟩
theorem dj.depth{k:Nat}(r:dj k A):A.depth<recursionLimit:=by have:=r.dp;omega
theorem dj.units{k:Nat}(r:dj k A):A.units+64<cLine:=by have:=r.un;omega
def oW:TA:=λ_ H Q=>Q [] H
def UC(Q:Da V->Hp->Prop)(x:V):Da V->Hp->Prop:=λxs H2=>Q (x::xs) H2
def Zi(tr:TA)(σ:St)(Q:Da V->Hp->Prop):V->Hp->Prop:=λx H1=>tr σ H1 (UC Q x)
def i7(ta:TE)(tr:TA):TA:=λσ H Q=>ta σ H (Zi tr σ Q)
section
variable {X:Cx}{e:Expr}{es:Da Expr}{te:TE}{t:TA}{pos:Pos}
def Rw:PA X [] oW:=λ_ _ _ _ H Q I h=>Calls.spliced_nil ⟨[],H,I,.nil,h⟩
def NJ(ha:PE X e te)(hr:PA X es t)(hs:starEach (e::es) X.env=(false,eval e X.env)::starEach es X.env:=by rfl):PA X (e::es) (i7 te t):=by intro pos AT s σ H Q I h;rw[hs];show wpAny _ _ (spliced ((false,eval e X.env)::backTo pos (starEach es X.env))) _ _ s;refine Calls.spliced_cons (bg (ha AT s σ H _ I h) λu s1 ⟨x,H1,I1,r1,q1⟩=>?_);exact bg (hr pos AT s1 σ H1 _ I1 q1) λus s2 ⟨xs,H2,I2,r2,q2⟩=>⟨x::xs,H2,I2,.cons r1 r2,q2⟩
inductive acv(Q:VK)(xs:Da V)(H1:Hp):Prop
 |mk(_:xs.length<=sizeLine)(_:∀p,H1 p=none->Q (.ref p) (upd H1 p (.tup xs)))
def Zj(t:TA):TE:=λσ H Q=>t σ H (acv Q)
inductive acw(Q:VK)(xs:Da V)(H1:Hp):Prop
 |mk(_:xs.length<=sizeLine)(_:∀p,H1 p=none->Q (.ref p) (upd H1 p (.lst xs)))
def Pw(t:TA):TE:=λσ H Q=>t σ H (acw Q)
end
abbrev Sp:=Da V->Hp->VK->XK->Prop
abbrev yx:=Da Env->Hp->Shared->XK->Value->Shared->Prop
structure B0(P:Program)(w:World)(K:Fg)(mg:SO)(base:Heap)(A:Around)(outer:Da Env)(s:Shared)(H:Hp):Prop where
 frames:A.frames=some outer
 mod:Mod K mg base
 bs:∀b o,base.get? b=some o->s.heap.get? b=some o/\H b=none
 CZ:base.objs.size<=s.heap.objs.size
 nJ:s.heap.FunFrames base outer
 Gg:∀b∈frs outer,H b=none
 hok:gU P w H s.heap
 bare:AllBare s.gens
def CE(outer:Da Env)(P:Program)(w:World)(H:Hp)(s:Shared)(Q:VK)(u:Value)(s':Shared):Prop:=∃v H',s'.os=s.os/\AllBare s'.gens/\Un (frs outer) [] H H' s.heap s'.heap/\gU P w H' s'.heap/\RelV v u/\Q v H'
def CR(CX:yx)(outer:Da Env)(P:Program)(w:World)(H:Hp)(s:Shared)(Q:VK)(E:XK)(r:Result)(s':Shared):Prop:=match r with
 | .ok (.ret u)=>CE outer P w H s Q u s'
 | .ok _=>False
 | .error e=>CX outer H s E e s'
structure iz(P:Program)(w:World)(K:Fg)(mg:SO)(base:Heap)(CX:yx)(k:Nat)(f:Addr)(fd:FuncData)(ps:Da Str)(sp:Sp):Prop where
 len:∀vs H Q E,sp vs H Q E->vs.length=ps.length
 run:∀(A:Around)(outer:Da Env)(s:Shared)(H:Hp)(args:Args)(us:Da Value)(vs:Da V)(Q:VK)(E:XK),dj k A->B0 P w K mg base A outer s H->BindsTo s fd args (ps.zip us)->Vals vs us->sp vs H Q E->
  codeAny (model P w) A (.call (.ref f) args) (CR CX outer P w H s Q E) s
variable {mg:SO}{base:Heap}{CX:yx}{f:Addr}{fd:FuncData}{ps:Da Str}{sp:Sp}
def iz.imp{w:World}{k:Nat}{Rx:Sp}(F:iz P w K mg base CX k f fd ps sp)(h:∀vs H Q E,Rx vs H Q E->sp vs H Q E):iz P w K mg base CX k f fd ps Rx:=
 ⟨λvs H Q E q=>F.len vs H Q E (h _ _ _ _ q),λA outer s H args us vs Q E hr he hb hv hs=>F.run A outer s H args us vs Q E hr he hb hv (h _ _ _ _ hs)⟩
def B0.make{w:World}{outer:Da Env}(e:B0 P w K mg base A outer s H)(C:Addr)(us:Da Value)(kw:Da (Str×Value)):B0 P w K mg base (A.under (.builtin "type.__call__" ⟨.ref C::us,kw⟩)) outer s H:=⟨by first|exact e.frames|(simpa[Around.under,Code.envs,Code.isFrame,pushEnvs]using e.frames),e.mod,e.bs,e.CZ,e.nJ,e.Gg,e.hok,e.bare⟩
section
variable {X:Cx}{AT:AO}{σ:St}{H:Hp}{s s':Shared}
def Inv.UD(I:Inv X AT σ H s):B0 X.prog X.w X.K X.mg X.base X.A X.stack s H:=⟨I.ok.frames,I.ok.mod,I.bs,fL I.ok.CZ I.sz,I.stack,I.wI,I.hok,I.bare⟩
def Inv.after{Q:VK}(I:Inv X AT σ H s)(h:CE X.stack X.prog X.w H s Q u s'):EP X AT σ Q u s':=by obtain⟨v,H',os,bare,un,hok,r,q⟩:=h;obtain⟨hh,g,d,t,os'⟩:=s';obtain rfl:os'=s.os:=os;exact⟨v,H',I.call (h':=hh) (g':=g) (d':=d) (t':=t) (ch:=[]) un hok bare (λb z=>absurd z (by simp)),r,q⟩
end
def Zk(sp:Sp)(iR:Da V)(E:XK)(Q:VK):Da V->Hp->Prop:=λvs H1=>sp (vs++iR) H1 Q E
def IP(sp:Sp)(iR:Da V)(E:XK)(t:TA):TE:=λσ H Q=>t σ H (Zk sp iR E Q)
def UE(sp:Sp)(iR:Da V)(E:XK)(Q:VK)(x:V):Da V->Hp->Prop:=λvs H2=>sp (x::(vs++iR)) H2 Q E
inductive Zl(C:Addr)(m:Str)(sp:Sp)(iR:Da V)(E:XK)(t:TA)(σ:St)(Q:VK)(x:V)(H1:Hp):Prop
 |mk(a dx fs:_)(_:x =.ref a)(_:H1 a=some (.ins C dx fs))(_:fs.lookup m=none)(_:t σ H1 (UE sp iR E Q x))
def C_(C:Addr)(m:Str)(sp:Sp)(iR:Da V)(E:XK)(ta:TE)(t:TA):TE:=λσ H Q=>ta σ H (Zl C m sp iR E t σ Q)
def Zm(C:Addr)(sp:Sp)(iR:Da V)(E:XK)(Q:VK):Da V->Hp->Prop:=λvs H1=>∀x dx,H1 x=none->H1 dx=none->dx≠x->sp (.ref x::(vs++iR)) (upd (upd H1 dx (.own x)) x (.ins C dx [])) (λv H2=>v =.cD/\Q (.ref x) H2) E
def IQ(C:Addr)(sp:Sp)(iR:Da V)(E:XK)(t:TA):TE:=λσ H Q=>t σ H (Zm C sp iR E Q)
def Binds(K:Fg)(fd:FuncData)(ps:Da Str)(ds:Da Value):Prop:=∀(s:Shared)(us:Da Value),K.In s.heap->(us++ds).length=ps.length->BindsTo s fd ⟨us,[]⟩ (ps.zip (us++ds))
def Binds.all(h:∀us:Da Value,us.length=ps.length->bindArgs fd ⟨us,[]⟩=pure (ps.zip us)):Binds K fd ps [] :=λs us _ hl=>by rw[tG]at hl ⊢;exact .of_eq (h us hl)
def Passes(CX:yx)(X:Cx)(E:XK):Prop:=∀(AT:AO)(σ:St)(H:Hp)(s:Shared)(e:Value)(s':Shared),Inv X AT σ H s->CX X.stack H s E e s'->X.xe e s'
variable {vs:Da V}
section
variable {X:Cx}{CX:yx}{k:Nat}{f C:Addr}{fd:FuncData}{ps:Da Str}{sp:Sp}{iR:Da V}{ds:Da Value}{E:XK}{x m:Str}{p pos B2:Pos}{e o:Expr}{es:Da Expr}{ta:TE}{t:TA}
def Jt{Q:VK}(F:iz X.prog X.w X.K X.mg X.base CX k f fd ps sp)(hr:dj k X.A)(hb:Binds X.K fd ps ds)(hd:Vals iR ds)(hx:Passes CX X E)(I:Inv X AT σ H s)(r:Vals vs us)(h:sp (vs++iR) H Q E):wpAny (model X.prog X.w) X.A (call (.ref f) us) (EP X AT σ Q) X.xe s:=by
 have r2:Vals (vs++iR) (us++ds):=r.append hd
 have hl:(us++ds).length=ps.length:=by rw[<-r2.length];exact F.len _ _ _ _ h
 refine wpAny_call (As (F.run X.A X.stack s H ⟨us,[]⟩ (us++ds) (vs++iR) Q E hr I.UD (hb s us I.iQ hl) r2 h) λr s' hq=>?_)
 cases r with
 | error e=>exact hx AT σ H s e s' I hq
 | ok fl=>
   cases fl with
   | ret u=>exact I.after hq
   | next=>exact False.elim hq
   | brk=>exact False.elim hq
   | cont=>exact False.elim hq
def NK(F:iz X.prog X.w X.K X.mg X.base CX k f fd ps sp)(hr:dj k X.A)(hg:Gl X x)(hm:X.mg x=some (.ref f))(hk:PySem.W.keepIn X.K (.ref f)=true)(hb:Binds X.K fd ps ds)(hd:Vals iR ds)(hx:Passes CX X E)(ha:PA X (e::es) t)(hdb:(x==("__debug__":Str))=false:=by decide)(he:starEach (e::es) X.env=(false,eval e X.env)::starEach es X.env:=by rfl)(hpl:(backTo pos (starEach es X.env)).any (·.1)=false:=by rfl):
  PE X (.Call (.Name x p) (e::es) [] pos) (IP sp iR E t):=by
 intro AT s σ H Q I h
 refine EL (qo I hg hm ?_ hdb)
 refine O7 (h₀:=X.base) I.ok.mod.NB hk (bg (ha pos AT s σ H _ I h) λus s1 ⟨vs,H1,I1,r,q⟩=>⟨I1.iQ,?_⟩) he hpl
 exact Jt F hr hb hd hx I1 r q
def NL(he:PE X o ta)(c:nY X.K C)(hm:Meth X.K C m f)(F:iz X.prog X.w X.K X.mg X.base CX k f fd ps sp)(hr:dj k X.A)(hb:Binds X.K fd ps ds)(hd:Vals iR ds)(hx:Passes CX X E)(ha:PA X (e::es) t)(hst:starEach (e::es) X.env=(false,eval e X.env)::starEach es X.env:=by rfl)(hpl:(backTo pos (starEach es X.env)).any (·.1)=false:=by rfl)(ht:eval (.Call (.Attribute o m B2) (e::es) [] pos) X.env=(do
    let ov <-eval o X.env
    standAt B2.atName
    let(f,first) <-holding [ov] (getMethod ov m pl)
    callWith pos f first (backTo pos (starEach (e::es) X.env)) (backToKw pos (keywordEach [] X.env))):=by rfl):
  PE X (.Call (.Attribute o m B2) (e::es) [] pos) (C_ C m sp iR E ta t):=by
 intro AT s σ H Q I h
 refine PySem.W.methodCall_KW (pl:=pl) (bg (he AT s σ H _ I h) λu s1 ⟨x,H1,I1,rx,a,dx,fs,ex,ea,l,q⟩=>?_) ht
 subst ex
 obtain rfl:u=Value.ref a:=rx
 refine C8 I1 ea c hm l ?_
 refine O7 (first:=[.ref a]) (h₀:=X.base) I.ok.mod.NB hm.kp (bg (ha pos AT s1 σ H1 _ I1 q) λus s2 ⟨vs,H2,I2,r,q2⟩=>⟨I2.iQ,?_⟩) hst hpl
 exact Jt (us:=.ref a::us) (vs:=.ref a::vs) F hr hb hd hx I2 (.cons rfl r) q2
def UG(he:PE X o ta)(c:nY X.K C)(hm:Meth X.K C m f)(F:iz X.prog X.w X.K X.mg X.base CX k f fd ps sp)(hr:dj k X.A)(hb:Binds X.K fd ps ds)(hd:Vals iR ds)(hx:Passes CX X E)(ht:eval (.Call (.Attribute o m B2) [] [] pos) X.env=(do
    let ov <-eval o X.env
    standAt B2.atName
    let(f,first) <-holding [ov] (getMethod ov m pl)
    callWith pos f first (backTo pos (starEach [] X.env)) (backToKw pos (keywordEach [] X.env))):=by rfl):
  PE X (.Call (.Attribute o m B2) [] [] pos) (C_ C m sp iR E ta oW):=by
 intro AT s σ H Q I h
 refine PySem.W.methodCall_KW (pl:=pl) (bg (he AT s σ H _ I h) λu s1 ⟨x,H1,I1,rx,a,dx,fs,ex,ea,l,q⟩=>?_) ht
 subst ex
 obtain rfl:u=Value.ref a:=rx
 refine C8 I1 ea c hm l ?_
 exact PySem.W.callWith_K0 (first:=[.ref a]) I1.iQ hm.kp (Jt (us:=[.ref a]) (vs:=[.ref a]) F hr hb hd hx I1 (.cons rfl .nil) q)
structure Mk(K:Fg)(C f:Addr):Prop where
 makes:PySem.W.makesIn K C=true
 init:PySem.W.findIn K (.ref C) "__init__"=some (some (.ref f))
 fn:PySem.W.isFn K (.ref f)=true
 kp:PySem.W.keepIn K (.ref C)=true
theorem Ju{Q:VK}(M:Mk X.K C f)(F:iz X.prog X.w X.K X.mg X.base CX k f fd ps sp)(hr:dj (k+1) X.A)(hb:Binds X.K fd ps ds)(hd:Vals iR ds)(hx:Passes CX X E)(I:Inv X AT σ H s)(r:Vals vs us)(h:∀x dx,H x=none->H dx=none->dx≠x->sp (.ref x::(vs++iR)) (upd (upd H dx (.own x)) x (.ins C dx [])) (λv H2=>v =.cD/\Q (.ref x) H2) E):
  wpAny (model X.prog X.w) X.A (call (.ref C) us) (EP X AT σ Q) X.xe s:=by
 have hq:=h (s.heap.objs.size+1) s.heap.objs.size (I.hok.fresh (Nat.le_succ _)) (I.hok.fresh (aN _)) (dW (Nat.lt_succ_self _))
 have I2:=Inv.made (C:=C) I
 have r2:Vals (V.ref (s.heap.objs.size+1)::(vs++iR)) (Value.ref (s.heap.objs.size+1)::(us++ds)):=.cons rfl (r.append hd)
 have hl:(Value.ref (s.heap.objs.size+1)::us++ds).length=ps.length:=by have e:=r2.length;rw[F.len _ _ _ _ hq]at e;exact e.symm
 refine wpAny_call (UA (f:=f) I.iQ M.makes M.init (lq.mp M.fn) (As (F.run _ X.stack _ _ ⟨Value.ref (s.heap.objs.size+1)::us,[]⟩ (Value.ref (s.heap.objs.size+1)::(us++ds)) _ _ E (hr.make C us [])
  (I2.UD.make C us []) (hb _ (Value.ref (s.heap.objs.size+1)::us) I2.iQ hl) r2 hq) λr s' hq'=>?_))
 cases r with
 | error e=>exact hx AT σ _ _ e s' I2 hq'
 | ok fl=>
   cases fl with
   | ret u=>
     obtain⟨v,H',I3,rv,ev,q3⟩:=I2.after hq'
     subst ev
     exact⟨rv,⟨V.ref (s.heap.objs.size+1),H',I3,Z,q3⟩⟩
   | next=>exact False.elim hq'
   | brk=>exact False.elim hq'
   | cont=>exact False.elim hq'
def Xf(M:Mk X.K C f)(F:iz X.prog X.w X.K X.mg X.base CX k f fd ps sp)(hr:dj (k+1) X.A)(hg:Gl X x)(hm:X.mg x=some (.ref C))(hb:Binds X.K fd ps ds)(hd:Vals iR ds)(hx:Passes CX X E)(ha:PA X (e::es) t)(hdb:(x==("__debug__":Str))=false:=by decide)(he:starEach (e::es) X.env=(false,eval e X.env)::starEach es X.env:=by rfl)(hpl:(backTo pos (starEach es X.env)).any (·.1)=false:=by rfl):
  PE X (.Call (.Name x p) (e::es) [] pos) (IQ C sp iR E t):=by
 intro AT s σ H Q I h
 refine EL (qo I hg hm ?_ hdb)
 refine O7 (h₀:=X.base) I.ok.mod.NB M.kp (bg (ha pos AT s σ H _ I h) λus s1 ⟨vs,H1,I1,r,q⟩=>⟨I1.iQ,?_⟩) he hpl
 exact Ju M F hr hb hd hx I1 r q
def UH(M:Mk X.K C f)(F:iz X.prog X.w X.K X.mg X.base CX k f fd ps sp)(hr:dj (k+1) X.A)(hg:Gl X x)(hm:X.mg x=some (.ref C))(hb:Binds X.K fd ps ds)(hd:Vals iR ds)(hx:Passes CX X E)(hdb:(x==("__debug__":Str))=false:=by decide):PE X (.Call (.Name x p) [] [] pos) (IQ C sp iR E oW):=by
 intro AT s σ H Q I h
 refine EL (qo I hg hm ?_ hdb)
 exact PySem.W.callWith_K0 I.iQ M.kp (Ju (us:=[]) M F hr hb hd hx I .nil h)
end
section
variable {X:Cx}{CX:yx}{k:Nat}{f C:Addr}{fd:FuncData}{ps ks:Da Str}{sp:Sp}{E:XK}{x m:Str}{p pos B2 kpos:Pos}{e o:Expr}{es:Da Expr}{kws:Da Keyword}{te ta:TE}{t tk:TA}{nm:Option Str}
variable {g:Da Value->Da Value->Da Value}{gV:Da V->Da V->Da V}
end
structure aK(N P:Da Str)(sc:Scope):Prop where
 kind:sc.kind =.function
 co:sc.isCoroutine=false
 gen:sc.isGenerator=false
 nd:N.Nodup
 pre:N.take P.length=P
 par:∀x∈P,sc.names.lookup x=some .local\/sc.names.lookup x=some .cell
 Zn:∀y∈sc.names,y.2 ≠ .free
theorem Gn{kindOf:Str->Option NameKind}{x:Str}:∀{binds:Da (Str×Value)}{m:SO},(∀v,(x,v)∉binds)->bindL kindOf binds m x=m x
 | [],_,_=>rfl
 | (n,v)::r,m,h=>by
  unfold bindL;rw[Gn λw hw=>h w (b_ _ hw)];split
  .have:x≠n:=by rintro rfl;exact h v cg
   simp[this]
  .rfl
theorem Gp{kindOf:Str->Option NameKind}{x:Str}:∀{binds:Da (Str×Value)}{m:SO},(∀v,(x,v)∉binds)->bindC kindOf binds m x=m x
 | [],_,_=>rfl
 | (n,v)::r,m,h=>by
  unfold bindC;rw[Gp λw hw=>h w (b_ _ hw)];split
  .rfl
  .have:x≠n:=by rintro rfl;exact h v cg
   simp[this]
theorem Gq{kindOf:Str->Option NameKind}{x:Str}{v:Value}:∀{P:Da Str}{vs:Da Value}{i:Nat}{m:SO},P.Nodup->P[i]?=some x->vs[i]?=some v->kindOf x=some .local->bindL kindOf (P.zip vs) m x=some v
 | [],_,_,_,_,h,_,_=>by simp at h
 | _::_,[],_,_,_,_,h,_=>by simp at h
 | p::P,w::vs,0,m,nd,h1,h2,hk=>by simp at h1 h2;subst h1;subst h2;show bindL kindOf ((p,w)::P.zip vs) m p=_;unfold bindL;rw[Gn λv hv=>(iG.mp nd).1 (List.of_mem_zip hv).1,aC hk];simp
 | p::P,w::vs,i+1,m,nd,h1,h2,hk=>by show bindL kindOf ((p,w)::P.zip vs) m x=_;unfold bindL;exact Gq (i:=i) (iG.mp nd).2 (by simpa using h1) (by simpa using h2) hk
theorem Gr{kindOf:Str->Option NameKind}{x:Str}{v:Value}:∀{P:Da Str}{vs:Da Value}{i:Nat}{m:SO},P.Nodup->P[i]?=some x->vs[i]?=some v->kindOf x≠some .local->bindC kindOf (P.zip vs) m x=some v
 | [],_,_,_,_,h,_,_=>by simp at h
 | _::_,[],_,_,_,_,h,_=>by simp at h
 | p::P,w::vs,0,m,nd,h1,h2,hk=>by simp at h1 h2;subst h1;subst h2;show bindC kindOf ((p,w)::P.zip vs) m p=_;unfold bindC;rw[Gp λv hv=>(iG.mp nd).1 (List.of_mem_zip hv).1,aB hk];simp
 | p::P,w::vs,i+1,m,nd,h1,h2,hk=>by show bindC kindOf ((p,w)::P.zip vs) m x=_;unfold bindC;exact Gr (i:=i) (iG.mp nd).2 (by simpa using h1) (by simpa using h2) hk
def start(N:Da Str)(vs:Da V):St:=vs.map some++List.replicate (N.length-vs.length) none
def cK(CX:yx)(P:Program)(w:World)(K:Fg)(mg:SO)(base:Heap)(N:Da Str)(qual:Str)(scope:Scope)(f:Addr)(cd:Value)(A:Around)(outer:Da Env)(s:Shared)(H:Hp)(E:XK):Cx where
 prog:=P
 w:=w
 K:=K
 mg:=mg
 base:=base
 A:=A.deeper (envOfC qual scope s.heap.objs.size f cd)
 N:=N
 s₀:=s
 H₀:=H
 env:=envOfC qual scope s.heap.objs.size f cd
 outer:=outer
 stack:=envOfC qual scope s.heap.objs.size f cd::outer
 ex:=[]
 calm:=true
 fn:=λ_=>true
 pn:=[]
 xe:=λe s'=>wpAny (model P w) (A.deeper (envOfC qual scope s.heap.objs.size f cd)) (leaving (envOfC qual scope s.heap.objs.size f cd) e) (λ_ s''=>CX outer H s E e s'') (λe' s''=>CX outer H s E e' s'') s'
def Jv{sc:Scope}(h:sc.names.lookup x=some .cell):∃c,(cellsFrom n sc.names []).lookup x=some c:=by have q:=PySem.W.cellsFrom_some sc.names n [] (.inl h);exact Option.isSome_iff_exists.mp q
variable {qual:Str}{scope:Scope}
theorem Ry{w:World}{cd:Value}{outer:Da Env}{s1:Shared}{E:XK}(S:aK N ps scope)(hd:A.handled=none)(e0:B0 P w K mg base A outer s H)(hl:vs.length=ps.length)(r:Vals vs us)(x:InCallC s s.heap.objs.size (bindL (envOfC qual scope s.heap.objs.size f cd).kindOf (ps.zip us) λ_=>none) (cellsFrom (s.heap.objs.size+1) scope.names []) (bindC (envOfC qual scope s.heap.objs.size f cd).kindOf (ps.zip us) λ_=>none) s1):
  Inv (cK CX P w K mg base N qual scope f cd A outer s H E) [] (start N vs) H s1:=by
 have hpl:ps.length<=N.length:=by have:=gF List.length S.pre;rw[kr]at this;omega
 obtain⟨h1,tk,rfl,hk⟩:=x.done
 have Rz:∀b:Addr,b∉(cK CX P w K mg base N qual scope f cd A outer s H E).ex:=λb z=>absurd (show b∈([] :Da Addr)from z) (by simp)
 refine⟨⟨e0.mod,S.kind,Z,Z,aN _,λy z c h1 h2=>?_,λy hy=>?_,λy c _ h=>?_,λ_=>hd,Around.frames_deeper e0.frames,.inr ⟨Z,Z⟩,λb z=>absurd z (Rz b),e0.bs,e0.CZ,λb _ _=>Rz b,λb z=>absurd z (Rz b),e0.nJ,e0.Gg⟩,
  rfl,e0.bare,Un.kept hk,⟨_,x.toInCall.ns,λi y v h1 h2 h3=>?_⟩,λy c h=>⟨_,x.cell y c h⟩,e0.hok.fresh (aN _),λy c h=>?_,λp hp=>absurd (show p∈([] :AO)from hp) (by simp),e0.hok.kept hk,?_⟩
 . exact name_of_addr x.apart (xB h1) (xB h2)
 . have hy:scope.names.lookup y=some .cell\/scope.names.lookup y=some .free:=hy
   rcases hy with hy|hy
   . exact Jv hy
   . exact absurd rfl (S.Zn _ (xB hy))
 . exact CW (x.above y c (xB h))
 . have hi:i<vs.length:=by
    unfold start at h2
    by_cases hi:i<vs.length
    . exact hi
    . rw[I0 (by simpa using hi)]at h2
      rw[List.getElem?_replicate]at h2
      split at h2 <;> cases h2
   have ha:vs[i]?=some v:=by
    unfold start at h2;rw[I_ (by simpa using hi),bF]at h2;cases e:vs[i]? with
    | none=>rw[e]at h2;cases h2
    | some a=>rw[e]at h2;cases h2;rfl
   obtain⟨u,hu,rv⟩:=r.get ha
   have hp:ps[i]?=some y:=by rw[<-S.pre,List.getElem?_take_of_lt (by omega)];exact h1
   have ndP:ps.Nodup:=by rw[<-S.pre];exact S.nd.sublist (List.take_sublist _ _)
   refine⟨u,rv,?_⟩
   rcases S.par y (bP hp)with k|k
   . exact .inl ⟨k,Gq ndP hp hu k⟩
   . obtain⟨c,e⟩:=Jv (n:=s.heap.objs.size+1) k
     refine .inr ⟨.inl k,c,e,?_⟩
     have q:=x.cell y c e
     rw[Gr ndP hp hu (by show scope.names.lookup y≠_;rw[k];decide)]at q
     exact q
 . exact e0.hok.fresh (CW (x.above y c (xB h)))
 . unfold start
   show _=N.length
   rw[cV,aF,mK]
   omega
variable {body:Da Stmt}{doc pm cdv ct oc:Value}{an od:Option Addr}
theorem Px{w:World}{k:Nat}{name:Str}{params:Arguments}{dV kV:Value}{osl:Array (Option Value)}{N ps:Da Str}{sp:Sp}(lk:K.lookup f=some ⟨oc,od,.func (PySem.W.fnOf name qual params body scope dV kV doc pm an cdv ct),osl⟩)(hcd:PySem.W.codeIn K cdv qual=true)(S:aK N ps scope)(len:∀vs H Q E,sp vs H Q E->vs.length=ps.length)(Ch:∀(A:Around) (outer:Da Env) (s:Shared) (H:Hp) (vs:Da V) (Q:VK) (E:XK),dj k (A.deeper (envOfC qual scope s.heap.objs.size f cdv))->sp vs H Q E->
    ∃t,qf (cK CX P w K mg base N qual scope f cdv A outer s H E) body t/\t { nx:=λ_ H'=>Q .cD H',rt:=Q } (start N vs) H):
  iz P w K mg base CX (k+1) f (PySem.W.fnOf name qual params body scope dV kV doc pm an cdv ct) ps sp:=by
 refine⟨len,λA outer s H args us vs Q E hr e0 hb r oX=>?_⟩
 have hl:=len _ _ _ _ oX
 have KX:K.In s.heap:=e0.mod.NB.keeps λb o e=>(e0.bs b o e).1
 have lim:s.heap.NoLimit:=e0.mod.nolimit.keeps λb o e=>(e0.bs b o e).1
 have hkind:∀y∈ps.zip us,scope.names.lookup y.1=some .local\/(scope.names.lookup y.1=some .cell/\((cellsFrom (s.heap.objs.size+1) scope.names []).lookup y.1).isSome=true):=λ⟨n,v⟩ hy=>by
  rcases S.par n (List.of_mem_zip hy).1 with q|q
  .exact .inl q
  .exact .inr ⟨q,PySem.W.cellsFrom_some _ _ _ (.inl q)⟩
 refine codeAny_call_function hr.depth (KX _ _ lk) rfl S.co S.gen rfl (PySem.W.codeRec_of KX hcd) (hb _ _ _ _ ?_)
 refine wpAny_newFunctionEnv_cells S.kind hkind λenv he s1 x=>?_
 subst he
 refine⟨lim.keeps x.toInCall.keep,codeAny_func ?_⟩
 obtain⟨t,ht,hq⟩:=Ch A outer s H vs Q E (hr.deeper _) oX
 have I:Inv (cK CX P w K mg base N qual scope f cdv A outer s H E) [] (start N vs) H s1:=Ry S hr.hd e0 hl r x
 refine gX (ht [] s1 (start N vs) H _ I hq) (λfl s' hs=>?_) λe s' hs=>hs
 have fin:∀{σ':St}{H':Hp}{v:V}{u:Value},Inv (cK CX P w K mg base N qual scope f cdv A outer s H E) [] σ' H' s'->RelV v u->Q v H'->CE outer P w H s Q u s':=
  λ{σ' H' v u} J rv q=>⟨v,H',J.os,J.bare,J.base,J.hok,rv,q⟩
 cases fl with
 | ret u=>
   obtain⟨v,σ',H',J,rv,q⟩:=hs
   exact fin J rv q
 | next=>
   obtain⟨σ',H',J,q⟩:=hs
   exact fin (v:=V.cD) (u:=Value.none) J rfl q
 | brk=>
   obtain⟨_,_,_,q⟩:=hs
   exact False.elim q
 | cont=>
   obtain⟨_,_,_,q⟩:=hs
   exact False.elim q
section
variable {X:Cx}{x:Str}{p pos:Pos}{e:Expr}{es:Da Expr}{t:TA}{id T:String}{r:Da V->Hp->VK->Prop}
def afR(r:Da V->Hp->VK->Prop)(Q:VK):Da V->Hp->Prop:=λvs H1=>r vs H1 Q
def Zo(r:Da V->Hp->VK->Prop)(t:TA):TE:=λσ H Q=>t σ H (afR r Q)
end
end L2
namespace HT
open PySem PyProof.Rows
section
open PySem.SeqAt
open PySem.AutoSeq1 (wpAny_loadPart')
open PySem.MeetsSeq PySem.MeetsSeq2 PySem.MeetsSeq3
end
section
variable {prog:Program}{w:World}{A:Around}{E:VS}{s:Shared}
def Xg{t b:Addr}{vs ws:Da Value}{Q:VS}(ht:IsTup s.heap t vs.toArray)(hb:IsTup s.heap b ws.toArray)(hv:vs≠[])(h1:ws=[]->Q (.ref t) s)(h2:ws≠[]->Q (.ref s.heap.objs.size) { s with heap:=s.heap.push { cls:=.type "tuple",data:=.seq (vs++ws).toArray } })(hsz:vs.length+ws.length<=sizeLine):wpAny (model prog w) A (binaryOp .Add (.ref t) (.ref b)) Q E s:=by
 obtain⟨⟨cls,dd,data,sl⟩,ho,hc,n,hd⟩:=id ht
 obtain⟨⟨afS,dd2,data2,sl2⟩,ho2,hc2,n2,hd2⟩:=id hb
 simp only at hc hd hc2 hd2
 subst hc hd hc2 hd2
 have e:vs.toArray++ws.toArray=(vs++ws).toArray:=by simp
 by_cases hw:ws=[]
 . exact concat_meets ⟨_,ho,Z⟩ ⟨_,ho2,Z⟩ noFill_tuple_add seq_tuple_add PySem.F.slot_tuple_add PySem.F.entry_tuple_add (PySem.F.args_tuple_add_2 _ _)
    (tuple_addW1 t b vs.toArray ws.toArray n n2 dd dd2 sl sl2 (by simpa using hv) (by simp[hw])) ⟨ho,ho2,h1 hw⟩
 . refine concat_meets ⟨_,ho,Z⟩ ⟨_,ho2,Z⟩ noFill_tuple_add seq_tuple_add PySem.F.slot_tuple_add PySem.F.entry_tuple_add (PySem.F.args_tuple_add_2 _ _)
    (tuple_addW2 t b vs.toArray ws.toArray n n2 dd dd2 sl sl2 (by simpa using hv) (by simpa using hw) (by rw[gY,gY];exact hsz)) ⟨ho,ho2,?_⟩
   rw[e]
   exact h2 hw
def dO(n d:Nat):Option Int->Nat
 | none=>d
 | some v=>if v<0 then(v+(n:Int)).toNat else min v.toNat n
def B3(n d:Nat):dO n d none=d:=rfl
theorem wN(n d k:Nat):dO n d (some (k:Int))=min k n:=by show(if(k:Int)<0 then((k:Int)+(n:Int)).toNat else min (k:Int).toNat n)=min k n;rw[aB (by omega),vR]
theorem RA(n d:Nat)(hd:d<=n)(o:Option Int):dO n d o<=n:=by
 cases o with
 | none=>exact hd
 | some v=>
  show(if v<0 then(v+(n:Int)).toNat else min v.toNat n)<=n;by_cases hv:v<0
  .rw [aC hv];omega
  .rw [aB hv];exact Nat.min_le_right _ _
theorem NN(v:Int)(n d:Nat):(if v<0 then max (v+(n:Int)) 0 else min v (n:Int))=((dO n d (some v):Nat):Int):=by
 show(if v<0 then max (v+(n:Int)) 0 else min v (n:Int))=(((if v<0 then(v+(n:Int)).toNat else min v.toNat n):Nat):Int)
 by_cases hv:v<0
 .simp only[aC hv];omega
 .simp only[aB hv];omega
theorem Py(lo hi:Option Int)(n:Nat):Builtin.Slice.sliceAdjust lo hi 1 (n:Int)=(((dO n 0 lo:Nat):Int),((dO n n hi:Nat):Int)):=by
 have h1:¬ ((1:Int)<0):=by omega
 unfold Builtin.Slice.sliceAdjust;simp only[h1,lu];refine Prod.ext ?_ ?_
 .cases lo with
  | none=>rfl
  | some v=>exact NN v n 0
 .cases hi with
  | none=>rfl
  | some v=>exact NN v n n
theorem Pz(i j:Nat):Builtin.Slice.slicePlaces (i:Int) (j:Int) 1=j-i:=by
 unfold Builtin.Slice.slicePlaces;have h1:(1:Int)>0:=by omega
 simp only[h1,oS,Au];split <;> omega
def Dc{v:Value}{o:Option Int}{Q:Option Int->Shared->Prop}(p:IsPart v o)(h:Q o s):wpAny (model prog w) A (Builtin.Slice.slicePartIndex v) Q E s:=by
 cases p with
 | none=>exact slicePart_none h
 | int i t=>exact slicePart_int h
def B7{sl:Addr}{vl vu:Value}{lo hi:Option Int}{n:Nat}{Q:Int×Int×Nat->Shared->Prop}(hs:s.heap.IsSliceOf sl vl vu .none)(pl:IsPart vl lo)(pu:IsPart vu hi)(h:Q (((dO n 0 lo:Nat):Int),1,dO n n hi-dO n 0 lo) s):wpAny (model prog w) A (Builtin.Slice.sliceApplied (.ref sl) (pure (n:Int))) Q E s:=by
 obtain⟨os,hos,hcs,hds⟩:=id hs
 unfold Builtin.Slice.sliceApplied Builtin.Slice.sliceFields
 refine aq (aq (kB hos hds (x:=vl) rfl (aq (kB hos hds (x:=vu) rfl (aq (kB hos hds (x:=.none) rfl (aJ ?_)))))))
 refine aq (slicePart_none ?_)
 show wpAny _ _ (if((1:Int)==0)=true then _ else _) _ _ s
 rw[aB (by decide)]
 refine aq (Dc pl (aq (Dc pu (aq (aJ ?_)))))
 show wpAny _ _ (match Builtin.Slice.sliceAdjust lo hi 1 (n:Int)with|(lo,hi)=>pure (lo,(1:Int),Builtin.Slice.slicePlaces lo hi 1)) _ _ s
 rw[Py lo hi n]
 show wpAny _ _ (pure (((dO n 0 lo:Nat):Int),(1:Int),Builtin.Slice.slicePlaces ((dO n 0 lo:Nat):Int) ((dO n n hi:Nat):Int) 1)) _ _ s
 rw[Pz]
 exact aJ h
theorem UI(xs:Array Value)(i k:Nat):((List.range k).filterMap λ(m:Nat)=>xs[((i:Int)+(m:Int)*1).toNat]?).toArray=((xs.toList.drop i).take k).toArray:=by
 have e:(λ(m:Nat)=>xs[((i:Int)+(m:Int)*1).toNat]?)=λm=>xs[i+m]?:=by
  funext m;have:((i:Int)+(m:Int)*1).toNat=i+m:=by omega
  rw[this]
 rw[e];have:=pick_run xs i k;rw[List.filterMap_map]at this;have e2:((λx=>xs[x]?) ∘ λx=>i+x)=λm=>xs[i+m]?:=rfl;rw[e2]at this;rw[this]
theorem AW{t sl:Addr}{items:Array Value}{vl vu:Value}{lo hi:Option Int}{Q:VS}(ht:IsTup s.heap t items)(hs:s.heap.IsSliceOf sl vl vu .none)(pl:IsPart vl lo)(pu:IsPart vu hi)(hw:¬ (dO items.size 0 lo=0/\dO items.size items.size hi=items.size))(h:Q (.ref s.heap.objs.size) { s with heap:=s.heap.push { cls:=.type "tuple",data:=.seq ((items.toList.drop (dO items.size 0 lo)).take (dO items.size items.size hi-dO items.size 0 lo)).toArray } })(hsz:items.size<=sizeLine):wpAny (model prog w) A (getItem (.ref t) (.ref sl)) Q E s:=by
 have IS:sizeOk (.seq ((items.toList.drop (dO items.size 0 lo)).take (dO items.size items.size hi-dO items.size 0 lo)).toArray):=by show((items.toList.drop (dO items.size 0 lo)).take (dO items.size items.size hi-dO items.size 0 lo)).toArray.size<=sizeLine;rw[gY,kr,Jk,Array.length_toList];omega
 have hj:dO items.size items.size hi<=items.size:=RA _ _ (aN _) hi
 obtain⟨os,hos,hcs,hds⟩:=id hs
 have hTs:s.TypeIs (.ref sl) "slice":=⟨os,hos,hcs⟩
 unfold getItem
 try with_reducible refine xJ ?_
 first|refine aq (aJ ?_)|skip
 refine aq (wpAny_sequenceKey ht.typeIs (by decide) ?_)
 refine aq (xx (name:=Str.ofString "__getitem__") ht.typeIs PyProof.Rows.slot_tuple_getitem
  (xD PyProof.Rows.slot_tuple_getitem ht.typeIs entry_tuple_getitem ?_ (args_tuple_getitem _ _)))
 show wpAny _ _ (Builtin.Tuple.tupleItemsOf (.ref t) >>= _) _ _ s
 refine aq (tupleItemsOf_ ht ?_)
 refine aq (wpAny_typeOf hTs ?_)
 rw[aC (by decide)]
 refine aq (B7 hs pl pu ?_)
 have hno:¬ ((((dO items.size 0 lo:Nat):Int)==0 && (1:Int)==1 && (dO items.size items.size hi-dO items.size 0 lo)==items.size)=true):=by intro q;rw[BV,BV]at q;have q1:((dO items.size 0 lo:Nat):Int)=0:=eq_of_beq q.1.1;have q2:dO items.size items.size hi-dO items.size 0 lo=items.size:=eq_of_beq q.2;exact hw ⟨by omega,by omega⟩
 show wpAny _ _ (if(((dO items.size 0 lo:Nat):Int)==0 && (1:Int)==1 && (dO items.size items.size hi-dO items.size 0 lo)==items.size)=true then _ else _) _ _ s
 rw[aB hno,UI]
 first
  | exact aq (m:=Builtin.Tuple.tupleExact _) (qj (aJ ⟨_,Z,aJ h⟩) IS)
  | exact aq (m:=Builtin.Tuple.tupleExact _) (qj (aq (aJ (aJ ⟨_,Z,aJ h⟩))) IS)
  | exact aq (aq (m:=Builtin.Tuple.tupleExact _) (qj (aJ (aJ ⟨_,Z,aJ h⟩)) IS))
  | exact aq (aq (m:=Builtin.Tuple.tupleExact _) (qj (aJ ⟨_,Z,aJ h⟩) IS))
end
end HT
namespace L2
open PySem PySem.Spec PyProof.Rows
abbrev TO:=St->Hp->(Option Int->Hp->Prop)->Prop
def PO(X:Cx)(e:Option Expr)(t:TO):Prop:=∀(AT:AO)(s:Shared)(σ:St)(H:Hp)(Q:Option Int->Hp->Prop),Inv X AT σ H s->t σ H Q->wpAny (model X.prog X.w) X.A (evalPart e X.env) (λu s'=>∃o H',Inv X AT σ H' s'/\IsPart u o/\Q o H') X.xe s
def Xh:TO:=λ_ H Q=>Q none H
inductive Zp(Q:Option Int->Hp->Prop)(x:V)(H1:Hp):Prop
 |mk(i:_)(_:x =.int i)(_:Q (some i:_) H1)
def acy(t:TE):TO:=λσ H Q=>t σ H (Zp Q)
variable {ns:Da Int}
def intsAre_of:∀{us:Da Value},Vals (ns.map V.int) us->IntsAre us ns:=by
 induction ns with
 | nil=>intro us r;rw[List.map_nil]at r;cases r;exact .nil
 | cons n ns ih=>
  intro us r;rw[bJ]at r;cases r with
  | cons r1 r2=>obtain⟨t,e⟩:=r1;subst e;exact .cons n t (ih r2)
variable {xs:Da V}{us:Da Value}
section
variable {X:Cx}{e:Expr}{te:TE}{lo hi:Option Expr}{tl th:TO}{pos p2:Pos}
def RB(X:Cx)(r:V->Option Int->Option Int->Hp->VK->Prop):Prop:=∀(AT:AO)(s:Shared)(σ:St)(H:Hp)(x:V)(v vl vu:Value)(lo hi:Option Int)(sl:Addr)(Q:VK),Inv X AT σ H s->RelV x v->s.heap.IsSliceOf sl vl vu .none->IsPart vl lo->IsPart vu hi->r x lo hi H Q->∃T id,typeLookup (.type T) "__getitem__"=pure (some (.builtin id))/\s.TypeIs v T/\wpAny (model X.prog X.w) X.A (getItem v (.ref sl)) (EP X AT σ Q) X.xe s
def Zq(r:V->Option Int->Option Int->Hp->VK->Prop)(Q:VK)(x:V)(l:Option Int):Option Int->Hp->Prop:=λu H3=>r x l u H3 Q
def Zr(r:V->Option Int->Option Int->Hp->VK->Prop)(th:TO)(σ:St)(Q:VK)(x:V):Option Int->Hp->Prop:=λl H2=>th σ H2 (Zq r Q x l)
def afT(r:V->Option Int->Option Int->Hp->VK->Prop)(tl:TO)(th:TO)(σ:St)(Q:VK):V->Hp->Prop:=λx H1=>tl σ H1 (Zr r th σ Q x)
def tSl(r:V->Option Int->Option Int->Hp->VK->Prop)(te:TE)(tl th:TO):TE:=λσ H Q=>te σ H (afT r tl th σ Q)
def vU(xs:Da V)(lo hi:Option Int):Da V:=(xs.drop (HT.dO xs.length 0 lo)).take (HT.dO xs.length xs.length hi-HT.dO xs.length 0 lo)
theorem Ml(xs:Da V)(lo hi:Option Int):(vU xs lo hi).length<=xs.length:=by unfold vU;rw[kr,Jk];omega
inductive Zs(K:Fg)(x:V)(lo:Option Int)(hi:Option Int)(H:Hp)(Q:VK):Prop
 |mk(a xs:_)(_:x =.ref a)(_:cz K H a xs)(_:¬ (HT.dO xs.length 0 lo=0/\HT.dO xs.length xs.length hi=xs.length))(_:∀p,H p=none->Q (.ref p) (upd H p (.tup (vU xs lo hi))))
def Zt:RB X (Zs X.K):=by
 intro AT s σ H x v vl vu lo hi sl Q I rx hs pl pu h;obtain⟨a,xs,rfl,hx,hw,q⟩:=h;cases rx;obtain⟨Bi,r,ht,hz⟩:=I.tuple hx;have hlen:Bi.toArray.size=xs.length:=by rw[gY];exact r.length.symm
 refine⟨"tuple",_,PyProof.Rows.slot_tuple_getitem.lookup,ht.typeIs,?_⟩;refine HT.AW ht hs pl pu (by rw[hlen];exact hw) ?_ (by rw[hlen];exact hz);rw[hlen];refine⟨.ref s.heap.objs.size,_,I.laid (t':=s.toks) (o:=.tup (vU xs lo hi)) (λb ob q=>bU _ q) (aN _) ?_,Z,q _ (I.hok.fresh (aN _))⟩;exact⟨fL (Ml xs lo hi) hz,_,(r.drop (HT.dO xs.length 0 lo)).take (HT.dO xs.length xs.length hi-HT.dO xs.length 0 lo),IsTup.new _ _⟩
inductive acz(K:Fg)(x:V)(y:V)(H:Hp)(Q:VK):Prop
 |mk(a b xs ys:_)(_:x =.ref a)(_:y =.ref b)(_:cz K H a xs)(_:cz K H b ys)(_:xs≠[])(_:xs.length+ys.length<=sizeLine)(_:(ys=[]->Q (.ref a) H))(_:(ys≠[]->∀p,H p=none->Q (.ref p) (upd H p (.tup (xs++ys)))))
def Vals.AA(r:Vals xs us):us=[]↔xs=[] :=by
 cases r with
 | nil=>simp
 | cons _ _=>simp
def Xi:ir X (binaryOp .Add) (acz X.K):=by intro AT s σ H x y v u Q I rx ry h;obtain⟨a,b,xs,ys,rfl,rfl,ha,hb,hx,hz,q1,q2⟩:=h;cases rx;cases ry;obtain⟨Bi,r1,p1,_⟩:=I.tuple ha;obtain⟨its2,r2,p2,_⟩:=I.tuple hb;refine HT.Xg p1 p2 (λz=>hx (r1.AA.mp z)) (λz=>⟨.ref a,H,I,Z,q1 (r2.AA.mp z)⟩) (λz=>?_) (by rw[<-r1.length,<-r2.length];exact hz);refine⟨.ref s.heap.objs.size,_,I.laid (t':=s.toks) (o:=.tup (xs++ys)) (λb ob q=>bU _ q) (aN _) ?_,Z,q2 (λw=>z (r2.AA.mpr w)) _ (I.hok.fresh (aN _))⟩;exact⟨by rw[cV];exact hz,_,r1.append r2,IsTup.new _ _⟩
end
def Bl(n:Nat)(i:Int):Option Nat:=if 0<=i then(if i<n then some i.toNat else none) else if -(n:Int)<=i then some (i+n).toNat else none
def nZ{α:Type}(xs:Da α)(i:Int):Option α:=(Bl xs.length i).bind λj=>xs[j]?
variable {n j:Nat}
theorem NO{i:Int}(h:Bl n i=some j):seqIndex? i n=some j/\j<n/\-(n:Int)<=i/\i<n:=by
 unfold Bl at h;by_cases h0:0<=i
 .rw [aC h0]at h;by_cases h1:i<n
  .rw [aC h1]at h;have e:i.toNat=j:=ie h;exact⟨by rw[seqIndex_of h0 h1,e],by omega,by omega,h1⟩
  .rw [aB h1]at h;cases h
 .rw [aB h0]at h;by_cases h1:-(n:Int)<=i
  .rw [aC h1]at h;have e:(i+n).toNat=j:=ie h;exact⟨by rw[seqIndex_neg (by omega) h1,e],by omega,h1,by omega⟩
  .rw [aB h1]at h;cases h
def ES{α:Type}{xs:Da α}{i:Int}{v:α}(h:nZ xs i=some v):∃j,seqIndex? i xs.length=some j/\xs[j]?=some v/\j<xs.length/\-(xs.length:Int)<=i/\i<xs.length:=by
 unfold nZ at h;cases e:Bl xs.length i with
 | none=>rw[e]at h;cases h
 | some j=>rw[e]at h;obtain⟨h1,h2,h3,h4⟩:=NO e;exact⟨j,h1,h,h2,h3,h4⟩
theorem aX{α:Type}{xs:Da α}{v:α}(h:xs[j]?=some v):nZ xs (j:Int)=some v:=by
 have hj:j<xs.length:=(d8.mp h).1;have e:Bl xs.length (j:Int)=some j:=by unfold Bl;rw[aC (by omega),aC (by omega)];simp
 unfold nZ;rw[e];exact h
def Xj(b:Expr):Prop:=∀o i,subscripted b false o i=operate [o,i] (getItem o i)
def yy(X:Cx)(r:R2):Prop:=∀(value slice:Expr)(AT:AO)(s:Shared)(σ:St)(H:Hp)(x y:V)(v u:Value)(Q:VK),Inv X AT σ H s->RelV x v->RelV y u->r x y H Q->subscripted slice false v u=operate [v,u] (getItem v u)->wpAny (model X.prog X.w) X.A (subscriptTail value slice v u) (EP X AT σ Q) X.xe s
def MtR(X:Cx)(id:String)(r:V->Da V->Hp->VK->Prop):Prop:=∀(AT:AO)(s:Shared)(σ:St)(H:Hp)(x:V)(xs:Da V)(v:Value)(us:Da Value)(Q:VK),Inv X AT σ H s->RelV x v->Vals xs us->r x xs H Q->wpAny (model X.prog X.w) X.A (call (.builtin id) (v::us)) (EP X AT σ Q) X.xe s
variable {AT:AO}{σ:St}{H:Hp}{s:Shared}{ys:Da V}{Bi its':Da Value}{A:Around}{y:V}{u:Value}
section
variable {X:Cx}{a b:Expr}{ta tb:TE}{pos:Pos}
def yy.or{r r':R2}(h:yy X r)(h':yy X r'):yy X (λx y H Q=>r x y H Q\/r' x y H Q):=by
 intro value slice AT s σ H x y v u Q I rx ry q hs;rcases q with q|q
 .exact h value slice AT s σ H x y v u Q I rx ry q hs
 .exact h' value slice AT s σ H x y v u Q I rx ry q hs
inductive PB(K:Fg)(x:V)(y:V)(H:Hp)(Q:VK):Prop
 |mk(p xs i v:_)(_:x =.ref p)(_:y =.int i)(_:aA K H p xs)(_:nZ xs i=some v)(_:Q v H)
inductive UJ(K:Fg)(x:V)(y:V)(H:Hp)(Q:VK):Prop
 |mk(p xs i v:_)(_:x =.ref p)(_:y =.int i)(_:cz K H p xs)(_:nZ xs i=some v)(_:Q v H)
inductive Zu(x:V)(y:V)(H:Hp)(Q:VK):Prop
 |mk(z i c:_)(_:x =.str z)(_:y =.int i)(_:z.length<=sizeLine)(_:nZ z.cps.toList i=some c)(_:Q (.str ⟨#[c]⟩) H)
theorem NP:yy X (PB X.K):=by
 intro value slice AT s σ H x y v u Q I rx ry h hs;obtain⟨p,xs,i,z,rfl,rfl,hq,he,q⟩:=h;cases rx;obtain⟨t,rfl⟩:=ry;obtain⟨Bi,r,pl,hz⟩:=I.list hq;obtain⟨j,h1,h2,h3,h4,h5⟩:=ES he;obtain⟨w,ew,rw'⟩:=r.get h2;have hl:=r.length;have hn:=wM;have fin:EP X AT σ Q w s:=⟨z,H,I,rw',q⟩
 by_cases h0:0<=i
 .have hj:i.toNat=j:=by rw[seqIndex_of h0 h5]at h1;exact ie h1
  exact item_listR pl.isList h0 (by omega) (by rw[hj];simpa using ew) fin hs
 .have hj:(i+(Bi.toArray.size:Int)).toNat=j:=by rw[seqIndex_neg (by omega) h4]at h1;rw[gY,<-hl];exact ie h1
  exact subscriptTail_builtinR (x:=w) pl.isList.typeIs slot_list_getitem.lookup
   (wpAny_getItem_list_neg (Q:=λr s'=>r=w/\EP X AT σ Q r s') pl.isList (by omega) (by rw[gY] <;> omega) (by omega) (by rw[hj];simpa using ew) ⟨Z,fin⟩) hs
theorem RC:yy X (UJ X.K):=by
 intro value slice AT s σ H x y v u Q I rx ry h hs;obtain⟨p,xs,i,z,rfl,rfl,hq,he,q⟩:=h;cases rx;obtain⟨t,rfl⟩:=ry;obtain⟨Bi,r,pl,hz⟩:=I.tuple hq;obtain⟨j,h1,h2,h3,h4,h5⟩:=ES he;obtain⟨w,ew,rw'⟩:=r.get h2;have hl:=r.length;have hn:=wM;have fin:EP X AT σ Q w s:=⟨z,H,I,rw',q⟩
 exact subscriptTail_builtinR (x:=w) pl.typeIs slot_tuple_getitem.lookup
  (getItem_tuple (j:=j) (Q:=λr s'=>r=w/\EP X AT σ Q r s') pl (by omega) (by omega) (by rw[gY,<-hl];exact h1) (by simpa using ew) ⟨Z,fin⟩) hs
theorem RD:yy X Zu:=by
 intro value slice AT s σ H x y v u Q I rx ry h hs;obtain⟨z,i,c,rfl,rfl,hz,he,q⟩:=h;obtain⟨t,rfl⟩:=rx;obtain⟨t',rfl⟩:=ry;obtain⟨j,h1,h2,h3,h4,h5⟩:=ES he;have hl:z.cps.toList.length=z.length:=by simp[Str.length]
 rw[hl]at h1 h4 h5;have hn:=wM;exact tail_any (typeIs_str s z t) slot_str_getitem.lookup (getItem_str (c:=c) (by have e1:decide (i < -(2 ^ 63:Int))=false:=dz (by omega);have e2:decide (i≥2 ^ 63)=false:=dz (by omega);rw[e1,e2,Bool.or_false]) (by rw[h1];simpa using h2) ⟨.str ⟨#[c]⟩,H,I.tok _,⟨_,Z⟩,q⟩) hs
def Zv(K:Fg):R2:=λx y H Q=>PB K x y H Q\/UJ K x y H Q\/Zu x y H Q
def Zw:yy X (Zv X.K):=NP.or (RC.or RD)
def PD(Bi:Da Value)(n j:Nat)(u:Value):Obj.mapSeq (·.setIfInBounds j u) { cls:=.type "list",data:=.seq Bi.toArray n }={ cls:=.type "list",data:=.seq (Bi.set j u).toArray n }:=by simp[Obj.mapSeq]
theorem Inv.lst{AT:AO}{σ:St}{H:Hp}{s:Shared}{p:Addr}{xs:Da V}(I:Inv X AT σ H s)(h:H p=some (.lst xs)):∃(Bi:Da Value)(n:Nat),Vals xs Bi/\s.heap.get? p=some { cls:=.type "list",data:=.seq Bi.toArray n }/\xs.length<=sizeLine:=by obtain⟨z,Bi,n,r,e⟩:=I.hok p _ h;exact⟨Bi,n,r,e,z⟩
def Inv.Zx{p:Addr}{n':Nat}{f:Obj->Obj}(I:Inv X AT σ H s)(h:H p=some (.lst xs))(ho:s.heap.get? p=some { cls:=.type "list",data:=.seq Bi.toArray n })(hf:f { cls:=.type "list",data:=.seq Bi.toArray n }={ cls:=.type "list",data:=.seq its'.toArray n' })(r:Vals ys its')(hz:ys.length<=sizeLine)(t:Nat):
  Inv X AT σ (upd H p (.lst ys)) { s with heap:=s.heap.update p f,toks:=t }:=by
 have e:(s.heap.update p f).get? p=some { cls:=.type "list",data:=.seq its'.toArray n' }:=by rw[BQ f ho (by rw[hf] <;> rfl),hf]
 refine I.write (x:=p) (e:=p) (by rw[h];trivial) (.inl rfl) (λb u hb q=>(Jd _ _ (cy hb)).trans q) ⟨_,e⟩ ?_
 exact⟨hz,its',n',r,e⟩
inductive acA(o:V)(i:V)(v:V)(H:Hp)(Q:Hp->Prop):Prop
 |mk(p xs k j:_)(_:o =.ref p)(_:i =.int k)(_:H p=some (.lst xs))(_:Bl xs.length k=some j)(_:Q (upd H p (.lst (xs.set j v))))
theorem set_list:YZ X acA:=by
 intro AT s σ H o i v ov iv u Q I ro ri rv h;obtain⟨p,xs,k,j,rfl,rfl,hp,hj,q⟩:=h;cases ro;obtain⟨t,rfl⟩:=ri;obtain⟨Bi,n,r,ho,hz⟩:=I.lst hp;obtain⟨h1,h2,h3,h4⟩:=NO hj;have hl:=r.length;have hn:=wM;have I':Inv X AT σ (upd H p (.lst (xs.set j v))) { s with heap:=s.heap.update p (Obj.mapSeq (·.setIfInBounds j u)) }:=
  I.Zx hp ho (PD Bi n j u) (r.set rv j) (by rw[lg];exact hz) s.toks
 by_cases h0:0<=k
 .have hk:k.toNat=j:=by rw[seqIndex_of h0 h4]at h1;exact ie h1
  exact PySem.W.ki_setAt ho h0 (by omega) (by rw[gY,<-hl];exact h4) (by rw[hk];exact⟨_,I',q⟩)
 .have hk:(k+(Bi.toArray.size:Int)).toNat=j:=by rw[seqIndex_neg (by omega) h3]at h1;rw[gY,<-hl];exact ie h1
  exact PySem.W.ki_setBack ho (by omega) (by rw[gY,<-hl];exact h3) (by omega) (by rw[hk];exact⟨_,I',q⟩)
def tM:V->Bool
 | .cD=>true
 | .bl _=>true
 | .int _=>true
 | .str _=>true
 | _=>false
def yz:V->V->Bool
 | .cD,.cD=>true
 | .bl a,.bl b=>a==b
 | .bl a,.int b=>(if a then 1 else 0)==b
 | .int a,.bl b=>a==(if b then 1 else 0)
 | .int a,.int b=>a==b
 | .str a,.str b=>a==b
 | _,_=>false
def Zy{x:V}{v:Value}(ry:RelV y u)(rx:RelV x v)(fy:tM y=true)(fx:tM x=true):SeqAt.EqAt A s u v (yz y x):=by
 cases y with
 | cD=>
  cases ry;cases x with
  | cD=>cases rx;exact SeqAt.EqAt.same _
  | bl b=>cases rx;exact SeqAt.EqAt.none_bool b
  | int b=>obtain⟨t,rfl⟩:=rx;exact SeqAt.EqAt.none_int b t
  | str b=>obtain⟨t,rfl⟩:=rx;exact SeqAt.EqAt.none_str b t
  | _=>exact absurd (show false=true from fx) fQ
 | bl a=>
  cases ry;cases x with
  | cD=>cases rx;exact SeqAt.EqAt.bool_none a
  | bl b=>cases rx;exact SeqAt.EqAt.bool_bool a b
  | int b=>obtain⟨t,rfl⟩:=rx;exact SeqAt.EqAt.bool_int a b t
  | str b=>obtain⟨t,rfl⟩:=rx;exact SeqAt.EqAt.bool_str a b t
  | _=>exact absurd (show false=true from fx) fQ
 | int a=>
  obtain⟨t',rfl⟩:=ry;cases x with
  | cD=>cases rx;exact SeqAt.EqAt.int_none a t'
  | bl b=>cases rx;exact SeqAt.EqAt.int_bool a t' b
  | int b=>obtain⟨t,rfl⟩:=rx;exact SeqAt.EqAt.int_int a t' b t
  | str b=>obtain⟨t,rfl⟩:=rx;exact SeqAt.EqAt.int_str a t' b t
  | _=>exact absurd (show false=true from fx) fQ
 | str a=>
  obtain⟨t',rfl⟩:=ry;cases x with
  | cD=>cases rx;exact SeqAt.EqAt.str_none a t'
  | bl b=>cases rx;exact SeqAt.EqAt.str_bool a t' b
  | int b=>obtain⟨t,rfl⟩:=rx;exact SeqAt.EqAt.str_int a t' b t
  | str b=>obtain⟨t,rfl⟩:=rx;exact SeqAt.EqAt.str_str a t' b t
  | _=>exact absurd (show false=true from fx) fQ
 | _=>exact absurd (show false=true from fy) fQ
def De(x:V)(u:Value):Bool:=match u with
 | .none=>yz .cD x
 | .bool b=>yz (.bl b) x
 | .int i _=>yz (.int i) x
 | .str z _=>yz (.str z) x
 | _=>false
def RE{x:V}(r:RelV y u)(f:tM y=true):De x u=yz y x:=by
 cases y with
 | cD=>cases r;rfl
 | bl b=>cases r;rfl
 | int i=>obtain⟨t,rfl⟩:=r;rfl
 | str z=>obtain⟨t,rfl⟩:=r;rfl
 | _=>exact absurd (show false=true from f) fQ
theorem ET{x:V}:∀{xs:Da V}{us:Da Value},Vals xs us->xs.all tM=true->us.any (De x)=xs.any λy=>yz y x
 | _,_,.nil,_=>rfl
 | y::xs,u::us,.cons r t,f=>by rw[List.all_cons,BV]at f;rw[CV,CV,RE r f.1,ET t f.2]
theorem B8{A:Around}{s:Shared}{x:V}{v:Value}(rx:RelV x v)(fx:tM x=true):∀{xs:Da V}{us:Da Value},Vals xs us->xs.all tM=true->∀u∈us,SeqAt.EqAt A s u v (De x u)
 | _,_,.nil,_=>λu hu=>by cases hu
 | y::xs,u::us,.cons r t,f=>λu' hu=>by
  rw[List.all_cons,BV]at f;rcases cJ.mp hu with rfl|hu
  .rw [RE r f.1];exact Zy r rx f.1 fx
  .exact B8 rx fx t f.2 u' hu
def NQ(x:V)(xs:Da V):Bool:=xs.any λy=>yz y x
inductive rIn(K:Fg)(neg:Bool)(x:V)(y:V)(H:Hp)(Q:VK):Prop
 |mk(p xs:_)(_:y =.ref p)(_:(aA K H p xs\/cz K H p xs))(_:tM x=true)(_:xs.all tM=true)(_:Q (.bl (if neg then !NQ x xs else NQ x xs)) H)
def RG:ir X (compareOp .In) (rIn X.K false):=by
 intro AT s σ H x y v u Q I rx ry h;obtain⟨p,xs,rfl,hq,fx,fs,q⟩:=h;cases ry;rcases hq with hq|hq
 .obtain ⟨Bi,r,pl,hz⟩:=I.list hq;refine SeqAt.in_listAt (De x) pl.isList (λw hw=>B8 rx fx r fs w (by simpa using hw)) ⟨.bl _,H,I,Z,?_⟩;rw[show Bi.toArray.any (De x)=Bi.any (De x) by simp,ET r fs];exact q
 .obtain ⟨Bi,r,pl,hz⟩:=I.tuple hq;refine SeqAt.in_tupleAt (De x) pl (λw hw=>B8 rx fx r fs w (by simpa using hw)) ⟨.bl _,H,I,Z,?_⟩;rw[show Bi.toArray.any (De x)=Bi.any (De x) by simp,ET r fs];exact q
theorem Jw:gG X (.builtin "len") (λxs H Q=>∃p ys,xs=[.ref p]/\(aA X.K H p ys\/cz X.K H p ys)/\Q (.int ys.length) H):=by
 intro AT s σ H xs us Q I r h;obtain⟨p,ys,rfl,hq,q⟩:=h;obtain⟨u,rfl,rx⟩:=vals1 r;cases rx;have hn:=wM;rcases hq with hq|hq
 .obtain ⟨Bi,r',pl,hz⟩:=I.list hq;have hlen:=r'.length;exact Calls.call_len_list pl.isList (by simp only[gY] <;> omega) ⟨.int ys.length,H,I.tok _,⟨s.toks+1,by rw[gY,hlen]⟩,q⟩
 .obtain ⟨Bi,r',pl,hz⟩:=I.tuple hq;have hlen:=r'.length;exact len_tuple pl (by simp only[gY] <;> omega) ⟨.int ys.length,H,I.tok _,⟨s.toks+1,by rw[gY,hlen]⟩,q⟩
theorem Jx:gG X (.builtin "len") (λxs H Q=>∃z,xs=[.str z]/\z.length<=sizeLine/\Q (.int z.length) H):=by intro AT s σ H xs us Q I r h;obtain⟨z,rfl,hz,q⟩:=h;obtain⟨u,rfl,t,rfl⟩:=vals1 r;have hn:=wM;exact len_str (by omega) ⟨.int z.length,H,I.tok _,⟨_,Z⟩,q⟩
theorem Jy:gG X (.type "list") (λxs H Q=>∃p ys,xs=[.ref p]/\(aA X.K H p ys\/cz X.K H p ys)/\∀l,H l=none->Q (.ref l) (upd H l (.lst ys))):=by
 intro AT s σ H xs us Q I r h;obtain⟨p,ys,rfl,hq,q⟩:=h;obtain⟨u,rfl,rx⟩:=vals1 r;cases rx;have fin:∀(Bi:Da Value),Vals ys Bi->ys.length<=sizeLine->∀(h':Heap)(c':Nat),(∀b o',s.heap.get? b=some o'->h'.get? b=some o')->
   h'.get? s.heap.objs.size=some { cls:=.type "list",dict:=none,data:=.seq Bi.toArray c',slots:=#[] }->EP X AT σ Q (.ref s.heap.objs.size) { s with heap:=h' }:=λBi r' hz h' c' kp e=>
  ⟨.ref s.heap.objs.size,_,I.laid (t':=s.toks) kp (aN _) (show dM X.prog X.w _ h' _ (.lst ys)from⟨hz,Bi,c',r',e⟩),Z,q _ (I.hok.fresh (aN _))⟩
 rcases hq with hq|hq
 .obtain ⟨Bi,r',pl,hz⟩:=I.list hq;have hlen:=r'.length;obtain⟨o,ho,hc,n,hd⟩:=pl.isList;exact call_list_seq p (.inl rfl) ho hc hd (λh' c' kp e=>fin Bi r' hz h' c' kp e) (by simp only[gY] <;> omega)
 .obtain ⟨Bi,r',pl,hz⟩:=I.tuple hq;have hlen:=r'.length;obtain⟨o,ho,hc,n,hd⟩:=pl;exact call_list_seq p (.inr rfl) ho hc hd (λh' c' kp e=>fin Bi r' hz h' c' kp e) (by simp only[gY] <;> omega)
theorem Hi:gG X (.type "tuple") (λxs H Q=>∃p ys,xs=[.ref p]/\((aA X.K H p ys/\∀l,H l=none->Q (.ref l) (upd H l (.tup ys)))\/(cz X.K H p ys/\Q (.ref p) H))):=by
 intro AT s σ H xs us Q I r h;obtain⟨p,ys,rfl,h⟩:=h;obtain⟨u,rfl,rx⟩:=vals1 r;cases rx;rcases h with⟨hq,q⟩|⟨hq,q⟩
 .obtain ⟨Bi,r',pl,hz⟩:=I.list hq;have hlen:=r'.length;refine call_tuple_list pl.isList (λh' kp=>?_) (by simp only[gY] <;> omega);have I1:Inv X AT σ H { s with heap:=h' }:=I.kept (t':=s.toks) kp;have I2:Inv X AT σ (upd H h'.objs.size (.tup ys)) { s with heap:=h'.push { cls:=.type "tuple",data:=.seq Bi.toArray } }:=
   I1.laid (t':=s.toks) (λb o e=>bU _ e) (aN _) (show dM X.prog X.w _ _ _ (.tup ys)from⟨hz,Bi,r',IsTup.new _ _⟩)
  exact⟨.ref h'.objs.size,_,I2,Z,q _ (I1.hok.fresh (aN _))⟩
 .obtain ⟨Bi,r',pl,hz⟩:=I.tuple hq;exact call_tuple_same pl ⟨.ref p,H,I,Z,q⟩
def tyV(K:Fg)(T:String)(x:V)(H:Hp):Prop:=match x with
 | .str _=>T = "str"
 | .int _=>T = "int"
 | .ref p=>(T = "list"/\∃xs,aA K H p xs)\/(T = "tuple"/\∃o,K.lookup p=some o/\o.cls =.type "tuple"/\o.dict=none)\/
     (T = "dict"/\((∃Ap,H p=some (.dK Ap))\/∃Ap,H p=some (.dT Ap)))\/(T = "set"/\∃S n,H p=some (.set S n))
 | _=>False
def Zz{T:String}{x:V}{v:Value}(I:Inv X AT σ H s)(r:RelV x v)(ty:tyV X.K T x H):s.TypeIs v T/\∀a,v =.ref a->∃ob,s.heap.get? a=some ob/\ob.dict=none:=by
 cases x with
 | str z=>obtain⟨t,rfl⟩:=r;cases(show T = "str" from ty);exact⟨typeIs_str s z t,λ_ e=>nomatch e⟩
 | int i=>obtain⟨t,rfl⟩:=r;cases(show T = "int" from ty);exact⟨typeIs_int s i t,λ_ e=>nomatch e⟩
 | ref p=>
  cases r;rcases ty with⟨rfl,xs,hq⟩|⟨rfl,o,hk,hc,hd⟩|⟨rfl,hk⟩|⟨rfl,S,n,hk⟩
  .obtain ⟨Bi,_,pl,_⟩:=I.list hq;refine⟨pl.isList.typeIs,λa e=>?_⟩;cases e;obtain⟨o,n,e,c,hd,_⟩:=pl;exact⟨o,e,hd⟩
  .refine ⟨⟨o,I.iQ p o hk,hc⟩,λa e=>?_⟩;cases e;exact⟨o,I.iQ _ o hk,hd⟩
  .have z:∃o,s.heap.get? p=some o/\o.ExactDict:=by
    rcases hk with⟨Ap,hk⟩|⟨Ap,hk⟩
    .obtain ⟨_,_,_,_,o,_,_,e,ex,_⟩:=I.hok p _ hk;exact⟨o,e,ex⟩
    .obtain ⟨_,_,_,_,o,_,_,e,ex,_⟩:=I.hok p _ hk;exact⟨o,e,ex⟩
   obtain⟨o,e,ex⟩:=z;refine⟨⟨o,e,ex.1⟩,λa e2=>?_⟩;cases e2;exact⟨o,e,ex.2.1⟩
  .obtain ⟨o,_,_,_,e,ex,_⟩:=I.hok p _ hk;refine⟨⟨o,e,ex.1⟩,λa e2=>?_⟩;cases e2;exact⟨o,e,ex.2.1⟩
 | _=>exact False.elim ty
def ZA(r:V->Da V->Hp->VK->Prop)(Q:VK)(x:V):Da V->Hp->Prop:=λxs H2=>r x xs H2 Q
inductive afU(K:Fg)(T:String)(r:V->Da V->Hp->VK->Prop)(t:TA)(σ:St)(Q:VK)(x:V)(H1:Hp):Prop
 |mk(_:tyV K T x H1)(_:t σ H1 (ZA r Q x))
def tBM(K:Fg)(T:String)(r:V->Da V->Hp->VK->Prop)(to:TE)(t:TA):TE:=λσ H Q=>to σ H (afU K T r t σ Q)
variable {o e:Expr}{es:Da Expr}{to:TE}{t:TA}{name:Str}{B2 cpos:Pos}{T id:String}{r:V->Da V->Hp->VK->Prop}
end
def MtM(X:Cx)(id:String)(r:V->Da V->Hp->VK->Prop):Prop:=∀(AT:AO)(s:Shared)(σ:St)(H:Hp)(x:V)(xs:Da V)(v:Value)(us:Da Value)(Q:VK),Inv X AT σ H s->RelV x v->Vals xs us->r x xs H Q->wpAny (model X.prog X.w) X.A (call (.builtin id) (v::us)) (EP X AT σ Q) X.xe s
theorem Vals.one:∀{x:V}{us:Da Value},Vals [x] us->∃u,us=[u]/\RelV x u
 | _,_,.cons r .nil=>⟨_,Z,r⟩
theorem Vals.reverse(h:Vals xs us):Vals xs.reverse us.reverse:=by
 induction h with
 | nil=>exact .nil
 | cons r t ih=>rw[List.reverse_cons,List.reverse_cons];exact Vals.append ih (.cons r .nil)
theorem Vals.rep{xs:Da V}{us:Da Value}(h:Vals xs us):∀k:Nat,Vals (List.replicate k xs).flatten (List.replicate k us).flatten
 | 0=> .nil
 | k+1=>by rw[BR,BR,Pc,Pc];exact Vals.append h (Vals.rep h k)
theorem foldl_rep(Bi:Da Value):∀(k:Nat)(BM:Da Value),List.foldl (λx1 x2=>x1++x2) BM.toArray (List.replicate k Bi.toArray)=(BM++(List.replicate k Bi).flatten).toArray
 | 0,BM=>by simp
 | k+1,BM=>by
  have e:BM.toArray++Bi.toArray=(BM++Bi).toArray:=by simp
  have e2:(BM++Bi)++(List.replicate k Bi).flatten=BM++(List.replicate (k+1) Bi).flatten:=by rw[BR,Pc,Jh]
  rw[<-e2,<-foldl_rep Bi k (BM++Bi),<-e,BR,lX]
variable {t':Nat}
section
variable {X:Cx}{AT:AO}{σ:St}{H:Hp}{s:Shared}{l b:Addr}{xs ys zs:Da V}
def Inv.afV{f:Array Value->Array Value}(I:Inv X AT σ H s)(hH:H l=some (.lst xs))(e:s.heap.get? l=some { cls:=.type "list",data:=.seq Bi.toArray n })(hf:f Bi.toArray=its'.toArray)(hv:Vals ys its')(hz:ys.length<=sizeLine):
  Inv X AT σ (upd H l (.lst ys)) { s with heap:=s.heap.update l (Obj.mapSeq f),toks:=t' }:=by
 have q:=PySem.IsL.update e f
 rw[hf]at q
 refine I.write (x:=l) (e:=l) (by rw[hH];exact trivial) (.inl rfl) (λb' u hb hu=>(Jd s.heap (Obj.mapSeq f) (cy hb)).trans hu) ⟨_,q⟩ ?_
 exact⟨hz,its',_,hv,q⟩
def Inv.ZC(I:Inv X AT σ H s)(hv:Vals ys Bi)(hz:ys.length<=sizeLine):Inv X AT σ (upd H s.heap.objs.size (.lst ys)) { s with heap:=s.heap.push { cls:=.type "list",data:=.seq Bi.toArray },toks:=t' }:=I.laid (λ_ _ q=>bU _ q) (aN _) ⟨hz,Bi,0,hv,dZ _ rfl⟩
theorem Inv.fresh(I:Inv X AT σ H s):H s.heap.objs.size=none:=I.hok.fresh (aN _)
def Inv.PF(I:Inv X AT σ H s)(hH:H l=some (.lst xs)):xs.length<=sizeLine/\∃(Bi:Da Value)(n:Nat),Vals xs Bi/\xs.length=Bi.length/\s.heap.get? l=some { cls:=.type "list",data:=.seq Bi.toArray n }:=by obtain⟨z,Bi,n,r,e⟩:=I.hok l _ hH;exact⟨z,Bi,n,r,r.length,e⟩
theorem UK(h:n<=sizeLine):Builtin.List.listTooLong n=false:=by unfold Builtin.List.listTooLong;exact dz (by omega)
end
section
variable {X:Cx}
inductive Xk(x:V)(vs:Da V)(H:Hp)(Q:VK):Prop
 |mk(l xs y:_)(_:x =.ref l)(_:vs=[y])(_:H l=some (.lst xs))(_:xs.length<sizeLine)(_:Q .cD (upd H l (.lst (xs++[y]))))
theorem f_:MtM X "list.append" Xk:=by intro AT s σ H x vs v us Q I rx rv h;obtain⟨l,xs,y,rfl,rfl,hH,hz,q⟩:=h;cases rx;obtain⟨u,rfl,ru⟩:=rv.one;obtain⟨z,Bi,n,r,hl,e⟩:=I.PF hH;refine call_meets F.slot_list_append ⟨_,e,Z⟩ F.entry_list_append (F.args_list_append_2 _ _) (PySem.list_append l Bi.toArray n u (by rw[gY];omega)) ⟨e,?_⟩;refine⟨.cD,_,I.afV (its':=Bi++[u]) hH e (by simp) (r.append (.cons ru .nil)) ?_,Z,q⟩;rw[cV,List.length_singleton];omega
inductive UL(x:V)(y:V)(H:Hp)(Q:VK):Prop
 |mk(l b xs zs:_)(_:x =.ref l)(_:y =.ref b)(_:H l=some (.lst xs))(_:H b=some (.lst zs))(_:xs.length+zs.length<=sizeLine)(_:∀p,H p=none->Q (.ref p) (upd H p (.lst (xs++zs))))
theorem mX:ir X (binaryOp .Add) UL:=by
 intro AT s σ H x y v u Q I rx ry h;obtain⟨l,b,xs,zs,rfl,rfl,hH,hB,hz,q⟩:=h;cases rx;cases ry;obtain⟨z,Bi,n,r,hl,e⟩:=I.PF hH;obtain⟨z2,its2,n2,r2,hl2,e2⟩:=I.PF hB;refine PySem.P.add_list e e2 ?_ (by rw[gY,gY];omega);have ea:Bi.toArray++its2.toArray=(Bi++its2).toArray:=by simp
 rw[ea];exact⟨.ref _,_,I.ZC (t':=s.toks) (r.append r2) (by rw[cV];omega),Z,q _ I.fresh⟩
inductive afW(x:V)(y:V)(H:Hp)(Q:VK):Prop
 |mk(l k xs:_)(_:x =.ref l)(_:y =.int k)(_:H l=some (.lst xs))(_:-(2 ^ 63)<=k)(_:k<2 ^ 63)(_:xs.length*k.toNat<=sizeLine)(_:∀p,H p=none->Q (.ref p) (upd H p (.lst (List.replicate k.toNat xs).flatten)))
def len_rep{α:Type}(xs:Da α)(k:Nat):(List.replicate k xs).flatten.length=k*xs.length:=by
 induction k with
 | zero=>simp
 | succ k ih=>rw[BR,Pc,cV,ih,Nat.succ_mul,Nat.add_comm]
theorem ZD:ir X (binaryOp .Mult) afW:=by
 intro AT s σ H x y v u Q I rx ry h;obtain⟨l,k,xs,rfl,rfl,hH,h1,h2,hz,q⟩:=h;cases rx;obtain⟨t,rfl⟩:=ry;obtain⟨z,Bi,n,r,hl,e⟩:=I.PF hH;have hlen:Bi.toArray.size*k.toNat<=sizeLine:=by rw[gY,<-hl];exact hz
 have hcap:¬ Bi.toArray.size*k.toNat>(2 ^ 63-1) / 8:=by
  have:(sizeLine:Nat)<=(2 ^ 63-1) / 8:=by decide
  omega
 have hfit:¬ (!Builtin.List.listFitsIndex k)=true:=by rw[fitsIndex_both h1 h2];exact fQ
 have acB:¬ Builtin.List.listTooLong (Bi.toArray.size*k.toNat)=true:=by rw[UK hlen];exact fQ
 have hnew:List.foldl (λx1 x2=>x1++x2) #[] (List.replicate (if Bi.toArray.isEmpty=true then 0 else k.toNat) Bi.toArray)=(List.replicate k.toNat Bi).flatten.toArray:=by
  have f0:∀m:Nat,List.foldl (λx1 x2=>x1++x2) #[] (List.replicate m Bi.toArray)=(List.replicate m Bi).flatten.toArray:=λm=>by have:=foldl_rep Bi m [];rw[IC]at this;exact this
  rw[f0];cases Bi with
  | nil=>simp
  | cons a r'=>rw[aB (by simp)]
 refine wpAny_binaryOp_repeat_ref (T:="list") (U:="int") (by decide) ⟨_,e,Z⟩ (λs'=>typeIs_int s' k t) noFill_list_mul F.fills_int_mul F.slot_int_rmul repeat_list F.slot_int_index.lookup
  (call_meets F.slot_int_rmul (typeIs_int s k t) F.entry_int_rmul (F.args_int_rmul_2 _ _) (int___rmul___int_list k t l Bi.toArray n)
    ⟨e,Z,⟨_,e,Z⟩,call_meets F.slot_list_mul ⟨_,e,Z⟩ F.entry_list_mul (F.args_list_mul_2 _ _) (AutoListH.list___mul___list_int_3 l Bi.toArray n k t hfit hcap acB) ⟨e,?_⟩⟩)
 rw[hnew];exact⟨.ref _,_,I.ZC (t':=s.toks) (r.rep k.toNat) (by rw[len_rep,Nat.mul_comm];exact hz),Z,q _ I.fresh⟩
end
section
variable {prog:Program}{w:World}{A:Around}{E:VS}{s:Shared}
set_option maxRecDepth 100000 in
end
section
variable {X:Cx}
end
section
variable {κ:Type}[DecidableEq κ]
def d7(Ap:Da (κ×V))(k:κ):Option V:=(Ap.find? λkv=>decide (kv.1=k)).map (·.2)
def putK(Ap:Da (κ×V))(k:κ)(v:V):Da (κ×V):=if(Ap.any λkv=>decide (kv.1=k))=true then Ap.map (λkv=>if kv.1=k then(kv.1,v) else kv) else Ap++[(k,v)]
def nt(Ap:Da (κ×V))(k:κ):Da (κ×V):=Ap.filter λkv=>decide (kv.1≠k)
def gK{p:κ×V}{r:Da (κ×V)}{k:κ}(e:p.1=k):d7 (p::r) k=some p.2:=by simp[d7,tH,e]
def fm{p:κ×V}{r:Da (κ×V)}{k:κ}(e:¬ p.1=k):d7 (p::r) k=d7 r k:=by simp[d7,tH,e]
theorem qt(k:κ):∀Ap:Da (κ×V),(Ap.any λkv=>decide (kv.1=k))=(d7 Ap k).isSome
 | []=>rfl
 | p::r=>by
  rw[CV];by_cases e:p.1=k
  .simp only[gK e,cu e,Bool.true_or,Option.isSome_some]
  .rw [fm e,dz e,Bool.false_or];exact qt k r
theorem Jz(k j:κ)(y:V):∀Ap:Da (κ×V),d7 (Ap.map λkv=>if kv.1=k then(kv.1,y) else kv) j=(d7 Ap j).map λx=>if j=k then y else x
 | []=>rfl
 | p::r=>by
  have ih:=Jz k j y r;rw[bJ];by_cases h:p.1=k
  .rw [aC h];by_cases e:p.1=j
   .rw [gK (p:=(p.1,y)) e,gK e,ID,aC (e.symm.trans h)]
   .rw [fm (p:=(p.1,y)) e,fm e,ih]
  .rw [aB h];by_cases e:p.1=j
   .rw [gK (p:=p) e,gK e,ID,aB (λz=>h (e.trans z))]
   .rw [fm (p:=p) e,fm e,ih]
theorem Gs(k j:κ)(y:V):∀Ap:Da (κ×V),d7 Ap k=none->d7 (Ap++[(k,y)]) j=if j=k then some y else d7 Ap j
 | [],_=>by
  by_cases e:k=j
  .rw [aC e.symm];exact gK (p:=(k,y)) e
  .rw [aB (λz=>e z.symm)];exact fm (p:=(k,y)) e
 | p::r,hn=>by
  rw[IA];have hk:¬ p.1=k:=λz=>by rw[gK z]at hn;cases hn
  rw[fm hk]at hn;have ih:=Gs k j y r hn;by_cases e:p.1=j
  .rw [gK e,gK e,aB (λz=>hk (e.trans z))]
  .rw [fm e,fm e,ih]
def UM(Ap:Da (κ×V))(k j:κ)(y:V):d7 (putK Ap k y) j=if j=k then some y else d7 Ap j:=by
 unfold putK;by_cases a:(Ap.any λkv=>decide (kv.1=k))=true
 .rw [aC a,Jz];rw[qt]at a;by_cases e:j=k
  .obtain ⟨x,hx⟩:=Option.isSome_iff_exists.mp a;rw[aC e,e,hx,ID,aC rfl]
  .rw [aB e];cases d7 Ap j with
   | none=>rfl
   | some x=>rw[ID,aB e]
 .rw [aB a];refine Gs k j y Ap ?_;rw[qt]at a;cases q:d7 Ap k with
  | none=>rfl
  | some x=>rw[q]at a;exact(a rfl).elim
theorem vV(Ap:Da (κ×V))(k:κ)(v:V):(putK Ap k v).length<=Ap.length+1:=by
 unfold putK;split
 .rw [aF];omega
 .rw [cV,kq,List.length_nil];omega
def nK{Ap:Da (κ×V)}{k:κ}(v:V)(h:d7 Ap k=none):putK Ap k v=Ap++[(k,v)] :=by unfold putK;rw[qt,h];exact aB (by decide)
def mL.n_{o:Option V}{u:Option Value}(r:mL o u):o.isSome=u.isSome:=by
 cases o with
 | none=>cases u with
   | none=>rfl
   | some _=>exact(show False from r).elim
 | some _=>cases u with
   | none=>exact(show False from r).elim
   | some _=>rfl
def KV.val{Ap:Da (κ×V)}{vs:Da (κ×Value)}(r:KV Ap vs)(k:κ):mL (d7 Ap k) (valueAt vs k):=by
 unfold KV at r
 induction r with
 | nil=>exact True.intro
 | @cons p q ps qs h t ih=>
  obtain⟨h1,h2⟩:=h;by_cases e:p.1=k
  .have e':q.1=k:=h1.symm.trans e;have b:valueAt (q::qs) k=some q.2:=by simp[valueAt,tH,e']
   rw[gK e,b];exact h2
  .have e':¬ q.1=k:=λz=>e (h1.trans z);have b:valueAt (q::qs) k=valueAt qs k:=by simp[valueAt,tH,e']
   rw[fm e,b];exact ih
theorem KV.any{Ap:Da (κ×V)}{vs:Da (κ×Value)}(r:KV Ap vs)(k:κ):(Ap.any λkv=>decide (kv.1=k))=vs.any λkv=>decide (kv.1=k):=by
 unfold KV at r
 induction r with
 | nil=>rfl
 | cons h t ih=>rw[CV,CV,ih,h.1]
def KV.repl{Ap:Da (κ×V)}{vs:Da (κ×Value)}(r:KV Ap vs)(k:κ)(ry:RelV y u):KV (Ap.map λkv=>if kv.1=k then(kv.1,y) else kv) (vs.map λkv=>if kv.1=k then(kv.1,u) else kv):=by
 unfold KV at r ⊢
 induction r with
 | nil=>exact .nil
 | @cons p q ps qs h t ih=>
  rw[bJ,bJ];refine .cons ?_ ih;obtain⟨h1,h2⟩:=h;by_cases e:p.1=k
  .rw [aC e,aC (h1.symm.trans e)];exact⟨h1,ry⟩
  .rw [aB e,aB (λz=>e (h1.trans z))];exact⟨h1,h2⟩
def KV.put{Ap:Da (κ×V)}{vs:Da (κ×Value)}(r:KV Ap vs)(k:κ)(ry:RelV y u):KV (putK Ap k y) (stored vs k u):=by
 unfold putK stored;rw[r.any k];by_cases e:(vs.any λkv=>decide (kv.1=k))=true
 .rw [aC e,aC e];exact r.repl k ry
 .rw [aB e,aB e];exact Paired.snoc r ⟨Z,ry⟩
def KV.drop{Ap:Da (κ×V)}{vs:Da (κ×Value)}(r:KV Ap vs)(k:κ):KV (nt Ap k) (without vs k):=by
 unfold KV at r ⊢;unfold nt without
 induction r with
 | nil=>exact .nil
 | @cons p q ps qs h t ih=>
  obtain⟨h1,h2⟩:=h;rw[iF,iF];by_cases e:p.1=k
  .have a:¬ decide (p.1≠k)=true:=by simp[e]
   have b:¬ decide (q.1≠k)=true:=by simp[h1.symm.trans e]
   rw[aB a,aB b];exact ih
  .have e':¬ q.1=k:=λz=>e (h1.trans z);have a:decide (p.1≠k)=true:=by simp[e]
   have b:decide (q.1≠k)=true:=by simp[e']
   rw[aC a,aC b];exact .cons ⟨h1,h2⟩ ih
theorem KV.length{Ap:Da (κ×V)}{vs:Da (κ×Value)}(r:KV Ap vs):Ap.length=vs.length:=Paired.length r
def UN(Ap:Da (κ×V))(k:κ):(nt Ap k).length<=Ap.length:=List.length_filter_le _ _
end
variable {P:Program}
def xS{w:World}{k:Key}(r:RelV (kV k) u):(cY P w).is k u=true:=by
 cases k with
 | inl i=>obtain⟨t,e⟩:=(show ∃t,u=Value.int i t from r);subst e;exact Mi P w i t
 | inr x=>obtain⟨t,e⟩:=(show ∃t,u=Value.str x t from r);subst e;exact Mj P w x t
theorem Gu{P:Program}{w:World}:∀{ks:Da Key}{us:Da Value},Vals (ks.map kV) us->ItemsAre (cY P w) ks us
 | [],_,r=>by rw[List.map_nil]at r;cases r;exact .nil
 | k::ks,_,r=>by
  rw[bJ]at r;cases r with
  | cons h t=>exact .cons (xS h) (Gu t)
abbrev KT(H:Hp):Da (Da Key×V)->Da (Da Key×Addr×Value)->Prop:=Paired λp q=>p.1=q.1/\H q.2.1=some (.tup (p.1.map kV))/\RelV p.2 q.2.2
def KT.val{Ap:Da (Da Key×V)}{xs:Da (Da Key×Addr×Value)}(r:KT H Ap xs)(k:Da Key):mL (d7 Ap k) ((atKey xs k).map (·.2)):=by
 induction r with
 | nil=>exact True.intro
 | @cons p q ps qs h t ih=>
  obtain⟨h1,_,h2⟩:=h;by_cases e:p.1=k
  .have e':q.1=k:=h1.symm.trans e;have b:atKey (q::qs) k=some q.2:=by simp[atKey,tH,e']
   rw[gK e,b];exact h2
  .have e':¬ q.1=k:=λz=>e (h1.trans z);have b:atKey (q::qs) k=atKey qs k:=by simp[atKey,tH,e']
   rw[fm e,b];exact ih
def KT.repl{Ap:Da (Da Key×V)}{xs:Da (Da Key×Addr×Value)}(r:KT H Ap xs)(k:Da Key)(ry:RelV y u):KT H (Ap.map λkv=>if kv.1=k then(kv.1,y) else kv) (xs.map (putAt k u)):=by
 induction r with
 | nil=>exact .nil
 | @cons p q ps qs h t ih=>
  rw[bJ,bJ];refine .cons ?_ ih;obtain⟨h1,h2,h3⟩:=h;unfold putAt;by_cases e:p.1=k
  .rw [aC e,aC (h1.symm.trans e)];exact⟨h1,h2,ry⟩
  .rw [aB e,aB (λz=>e (h1.trans z))];exact⟨h1,h2,h3⟩
def KT.put{Ap:Da (Da Key×V)}{xs:Da (Da Key×Addr×Value)}(r:KT H Ap xs)(k:Da Key){b:Addr}(hb:H b=some (.tup (k.map kV)))(ry:RelV y u):KT H (putK Ap k y) (storedH xs k b u):=by
 have e:(Ap.any λkv=>decide (kv.1=k))=(atKey xs k).isSome:=by rw[qt,(r.val k).n_,Pe]
 unfold putK storedH;rw[e];by_cases q:(atKey xs k).isSome=true
 .rw [aC q,aC q];exact r.repl k ry
 .rw [aB q,aB q];exact Paired.snoc r ⟨Z,hb,ry⟩
variable {H':Hp}
def KT.keeps{Ap:Da (Da Key×V)}{xs:Da (Da Key×Addr×Value)}(r:KT H Ap xs)(ht:∀b ys,H b=some (.tup ys)->H' b=some (.tup ys)):KT H' Ap xs:=Paired.Ur r λ_ _ z=>⟨z.1,ht _ _ z.2.1,z.2.2⟩
variable {Ap:Da (Key×V)}
section
variable {P:Program}{w:World}{H:Hp}{h:Heap}{a:Addr}
def V9{u:HO}(ok:gU P w H h)(e:Rd H a u):dM P w H h a u:=e.ok ok
def qT(ok:gU P w H h)(e:Rd H a (.dK Ap)):Ap.length<=sizeLine/\(a==sysModules)=false/\∃vs,KV Ap vs/\h.DictOf (cY P w) a vs:=
 show dM P w H h a (.dK Ap)from V9 ok e
def Df(ok:gU P w H h)(e:H a=some (.dK Ap)):Ap.length<=sizeLine/\(a==sysModules)=false/\∃vs,KV Ap vs/\h.DictOf (cY P w) a vs:=qT ok (.inl e)
def yY{ks:Da Key}(ok:gU P w H h)(e:H a=some (.tup (ks.map kV))):(tupleKind (cY P w)).is h ks a:=by
 obtain⟨_,Bi,r,o,h1,h2,n,h3⟩:=(show dM P w H h a (.tup (ks.map kV))from ok a _ e)
 exact⟨o,Bi.toArray,n,h1,h2,h3,by simpa using Gu r⟩
def AB{Ap:Da (Da Key×V)}(ok:gU P w H h)(e:Rd H a (.dT Ap)):Ap.length<=sizeLine/\(a==sysModules)=false/\∃xs,KT H Ap xs/\h.DictOfH (tupleKind (cY P w)) a xs:=by
 obtain⟨z,y,xs,r,o,es,ep,h1,h2,h3,h4,h5⟩:=(show dM P w H h a (.dT Ap)from V9 ok e)
 refine⟨z,y,xs,r,o,es,ep,h1,h2,h3,h4,λx hx=>?_,h5⟩;have all:∀{l:Da (Da Key×V)}{m:Da (Da Key×Addr×Value)},KT H l m->∀x∈m,(tupleKind (cY P w)).is h x.1 x.2.1:=by
  intro l m q
  induction q with
  | nil=>intro x hx;exact nomatch hx
  | @cons p q ps qs hq t ih=>
   intro x hx;rcases cJ.mp hx with e|hx
   .subst e;exact yY ok (by rw[<-hq.1];exact hq.2.1)
   .exact ih x hx
 exact all r x hx
def acC{Ap:Da (Da Key×V)}(ok:gU P w H h)(e:H a=some (.dT Ap)):Ap.length<=sizeLine/\(a==sysModules)=false/\∃xs,KT H Ap xs/\h.DictOfH (tupleKind (cY P w)) a xs:=AB ok (.inl e)
end
def cS(H:Hp)(a:Addr)(y:V)(r:Option V):Prop:=(∃Ap k,Rd H a (.dK Ap)/\y=kV k/\r=d7 Ap k)\/∃Ap k b,Rd H a (.dT Ap)/\y =.ref b/\H b=some (.tup (k.map kV))/\r=d7 Ap k
def uc(H:Hp)(a:Addr)(y v:V)(H':Hp):Prop:=(∃Ap k,H a=some (.dK Ap)/\y=kV k/\Ap.length<sizeLine/\H'=upd H a (.dK (putK Ap k v)))\/
 ∃Ap k b,H a=some (.dT Ap)/\y =.ref b/\H b=some (.tup (k.map kV))/\Ap.length<sizeLine/\H'=upd H a (.dT (putK Ap k v))
variable {a:Addr}
theorem cS.k{k:Key}(e:H a=some (.dK Ap)):cS H a (kV k) (d7 Ap k):=.inl ⟨Ap,k,.inl e,Z,Z⟩
theorem uc.k{k:Key}{v:V}(e:H a=some (.dK Ap))(hl:Ap.length<sizeLine):uc H a (kV k) v (upd H a (.dK (putK Ap k v))):=.inl ⟨Ap,k,e,Z,hl,Z⟩
variable {h':Heap}{Q:Unit->Shared->Prop}
section
variable {X:Cx}{AT:AO}{σ:St}{H:Hp}{s:Shared}{a:Addr}{y v:V}{u r:Value}{o:Option V}{A:Around}{E:VS}
def Inv.big(I:Inv X AT σ H s):sysModules<s.heap.objs.size:=by have h:mainGlobals<s.heap.objs.size:=(I.mod.glob.keeps I.bk).lt;exact Nat.lt_trans (by decide) h
def RH{Q:VS}(hu:A.units+1<cLine)(I:Inv X AT σ H s)(g:cS H a y (some v))(ry:RelV y u)(h:∀w' s',Inv X AT σ H s'->RelV v w'->Q w' s'):wpAny (model X.prog X.w) A (getItem (.ref a) u) Q E s:=by
 rcases g with⟨Ap,k,e,ey,l⟩|⟨Ap,k,b,e,ey,eb,l⟩
 .subst ey;obtain⟨z,hd,vs,rel,dd⟩:=qT I.hok e;obtain⟨w',hw,rw'⟩:=mL.some_of (v:=v) (o:=valueAt vs k) (by rw[l];exact rel.val k);exact wpAny_getItem_of (xS ry) dd.mapOf hw (h w' _ (I.tok _) rw')
 .subst ey;cases(show u=Value.ref b from ry);obtain⟨z,hd,xs,rel,dd⟩:=AB I.hok e;obtain⟨w',hw,rw'⟩:=mL.some_of (v:=v) (o:=(atKey xs k).map (·.2)) (by rw[l];exact rel.val k);obtain⟨p,hp,hp2⟩:=kT.mp hw;refine wpAny_getItem_heap (O8 hu) (yY I.hok eb) dd hp ?_;rw[hp2];exact h w' _ (I.tok _) rw'
def afX{Q:VS}(hu:A.units+1<cLine)(I:Inv X AT σ H s)(g:cS H a y o)(ry:RelV y u)(h:∀s',Inv X AT σ H s'->Q (.bool o.isSome) s'):wpAny (model X.prog X.w) A (compareOp .In u (.ref a)) Q E s:=by
 rcases g with⟨Ap,k,e,ey,l⟩|⟨Ap,k,b,e,ey,eb,l⟩
 .subst ey;obtain⟨z,hd,vs,rel,dd⟩:=qT I.hok e;refine wpAny_in_of (xS ry) hd dd.mapOf ?_;rw[<-(rel.val k).n_,<-l];exact h _ (I.tok _)
 .subst ey;cases(show u=Value.ref b from ry);obtain⟨z,hd,xs,rel,dd⟩:=AB I.hok e;refine wpAny_in_heap (O8 hu) (yY I.hok eb) hd dd ?_;have q:=(rel.val k).n_;rw[Pe]at q;rw[<-q,<-l];exact h _ (I.tok _)
def Xl{Q:VS}(hu:A.units+1<cLine)(I:Inv X AT σ H s)(g:cS H a y o)(ry:RelV y u)(h:∀s',Inv X AT σ H s'->Q (.bool (!o.isSome)) s'):wpAny (model X.prog X.w) A (compareOp .NotIn u (.ref a)) Q E s:=by
 rcases g with⟨Ap,k,e,ey,l⟩|⟨Ap,k,b,e,ey,eb,l⟩
 .subst ey;obtain⟨z,hd,vs,rel,dd⟩:=qT I.hok e;refine wpAny_notIn_of (xS ry) hd dd.mapOf ?_;rw[<-(rel.val k).n_,<-l];exact h _ (I.tok _)
 .subst ey;cases(show u=Value.ref b from ry);obtain⟨z,hd,xs,rel,dd⟩:=AB I.hok e;refine wpAny_notIn_heap (O8 hu) (yY I.hok eb) hd dd ?_;have q:=(rel.val k).n_;rw[Pe]at q;rw[<-q,<-l];exact h _ (I.tok _)
def AF(I:Inv X AT σ H s)(mu:Rc (H a))(hs:Heap.SameBut a s.heap h')(he:∃q,h'.get? a=some q)(new:dM X.prog X.w (upd H a ob) h' a ob):Inv X AT σ (upd H a ob) { s with heap:=h',toks:=t' }:=I.write (x:=a) (e:=a) mu (.inl rfl) (λb q hb z=>(hs.2 b hb).trans z) he new
def JA{w:World}{vs:Da (Key×Value)}(z:Ap.length<=sizeLine)(hd:(a==sysModules)=false)(rel:KV Ap vs)(dd:h'.DictOf (cY P w) a vs):dM P w H' h' a (.dK Ap):=⟨z,hd,vs,rel,dd⟩
theorem RI(hu:A.units+1<cLine)(I:Inv X AT σ H s)(g:uc H a y v H')(ry:RelV y u)(rv:RelV v r)(h:∀s',Inv X AT σ H' s'->Q () s'):wpAny (model X.prog X.w) A (setItem (.ref a) u r) Q E s:=by
 rcases g with⟨Ap,k,e,ey,l,eH⟩|⟨Ap,k,b,e,ey,eb,l,eH⟩
 .subst ey eH;obtain⟨z,hd,vs,rel,dd⟩:=Df I.hok e;have hz:vs.length<=sizeLine:=by rw[<-rel.length];exact z
  have hl:(putK Ap k v).length<=sizeLine:=by have:=vV Ap k v;omega
  refine wpAny_setItem_pairs (hsz:=hz) (xS ry) dd λh' Bm hs=>h _ ?_;have he:∃q,h'.get? a=some q:=let⟨q,_,_,hq,_⟩:=Bm;⟨q,hq⟩;exact AF I (by rw[e];exact True.intro) hs he (JA hl hd (rel.put k rv) Bm)
 .subst ey eH;cases(show u=Value.ref b from ry);obtain⟨z,hd,xs,rel,dd⟩:=acC I.hok e;have hz:xs.length<=sizeLine:=by rw[<-Paired.length rel];exact z
  have hl:(putK Ap k v).length<=sizeLine:=by have:=vV Ap k v;omega
  refine wpAny_setItem_heap (hsz:=hz) (O8 hu) (yY I.hok eb) dd λh' Bm hs=>h _ ?_;obtain⟨q,es,ep,hq,h2,h3,h4,_,h5⟩:=Bm;refine AF I (by rw[e];exact True.intro) hs ⟨q,hq⟩ ⟨hl,hd,_,(rel.put k eb rv).keeps λc ys ec=>?_,q,es,ep,hq,h2,h3,h4,h5⟩;rw[av (iZ ec e (λz=>nomatch z))];exact ec
end
section
variable {X:Cx}{AT:AO}{σ:St}{H:Hp}{s:Shared}{a:Addr}{Ap:Da (Key×V)}{k:Key}{u:Value}{A:Around}{E:VS}
def RJ(I:Inv X AT σ H s)(e:H a=some (.dK Ap))(ry:RelV (kV k) u)(l:(d7 Ap k).isSome=true)(h:∀s',Inv X AT σ (upd H a (.dK (nt Ap k))) s'->Q () s'):wpAny (model X.prog X.w) A (delItem (.ref a) u) Q E s:=by
 obtain⟨z,hd,vs,rel,dd⟩:=Df I.hok e;refine wpAny_delItem_slot dd.typeIs (by decide) PySem.F.slot_dict_delitem
  (call_meetsIn PySem.F.slot_dict_delitem dd.typeIs PySem.F.entry_dict_delitem (PySem.F.args_dict_delitem_2 _ _) (meets_dict_delitem_pairs (cY X.prog X.w) a (xS ry)) ⟨vs,dd,by rw[<-rel.length];exact z,by rw[<-(rel.val k).n_];exact l,λh' Bm hs=>h _ ?_⟩)
 have he:∃q,h'.get? a=some q:=let⟨q,_,_,hq,_⟩:=Bm;⟨q,hq⟩;exact AF I (by rw[e];exact True.intro) hs he (JA (fL (UN Ap k) z) hd (rel.drop k) Bm)
theorem acD{Q:VS}(I:Inv X AT σ H s)(e:Rd H a (.dK Ap))(h:∀t s',Inv X AT σ H s'->Q (.int Ap.length t) s'):wpAny (model X.prog X.w) A (call (.builtin "len") [.ref a]) Q E s:=by obtain⟨z,hd,vs,rel,dd⟩:=qT I.hok e;refine call_len_dict hd dd (by rw[<-rel.length];rw[eW]at z;omega) ?_;rw[<-rel.length];exact h _ _ (I.tok _)
end
def ZE(i:Expr):Prop:=∀ov iv,subscripted i false ov iv=operate [ov,iv] (getItem ov iv)
variable {E:VS}{env:Env}{value:Expr}{pos:Pos}
theorem Xm{prog:Program}{w:World}{slice:Expr}{T id:String}{Q:VS}(hl:typeLookup (.type T) "__getitem__"=pure (some (.builtin id)))(hs:ZE slice)(h:wpAny (model prog w) A (eval value env) (λo s₁=>wpAny (model prog w) A (eval slice env) (λi s₂=>s₂.TypeIs o T/\wpAny (model prog w) A (getItem o i) Q E s₂) E s₁) E s):
  wpAny (model prog w) A (eval (.Subscript value slice pos) env) Q E s:=by
 refine Subscript_ (gX h (λo s₁ h₁=>gX h₁ (λi s₂ h₂=>?_) λ_ _ x=>x) λ_ _ x=>x)
 obtain⟨hT,h₂⟩:=h₂
 unfold subscriptTail
 refine aq ?_
 rw[getitemInPython_of_ne hT.not_modules]
 refine aq (wpAny_specialOf hT hl ?_)
 have fin:wpAny (model prog w) A (subscripted slice false o i) (λr s₃=>wpAny (model prog w) A (letTemporaryGo value o r >>= λ_=>pure r) Q E s₃) E s₂:=by rw[hs o i];exact wpAny_operating (gX h₂ (λr s₃ h₃=>aq (wpAny_letTemporaryGo (aJ h₃))) λ_ _ x=>x)
 first
  | exact aJ (aq fin)
  | exact aq (aJ (aq fin))
  | exact aq fin
variable {X:Cx}
def Mm{o:Option V}(I:Inv X AT σ H s)(g:cS H a y o):s.TypeIs (.ref a) "dict":=by
 rcases g with⟨Ap,k,e,_,_⟩|⟨Ap,k,b,e,_,_,_⟩
 .obtain ⟨_,_,vs,_,dd⟩:=qT I.hok e;exact dd.typeIs
 .obtain ⟨_,_,xs,_,dd⟩:=AB I.hok e;exact dd.typeIs
inductive UO(Q:VK)(x:V)(y:V)(H2:Hp):Prop
 |mk(a v:_)(_:x =.ref a)(_:cS H2 a y (some v))(_:Q v H2)
def ZF(ty:TE)(σ:St)(Q:VK):V->Hp->Prop:=λx H1=>ty σ H1 (UO Q x)
def acE(td ty:TE):TE:=λσ H Q=>td σ H (ZF ty σ Q)
inductive Xn(Q:VK)(y:V)(x:V)(H2:Hp):Prop
 |mk(a o:_)(_:x =.ref a)(_:cS H2 a y o)(_:Q (.bl o.isSome) H2)
def acF(td:TE)(σ:St)(Q:VK):V->Hp->Prop:=λy H1=>td σ H1 (Xn Q y)
def afY(ty td:TE):TE:=λσ H Q=>ty σ H (acF td σ Q)
inductive PJ(Q:VK)(y:V)(x:V)(H2:Hp):Prop
 |mk(a o:_)(_:x =.ref a)(_:cS H2 a y o)(_:Q (.bl (!o.isSome)) H2)
def UP(td:TE)(σ:St)(Q:VK):V->Hp->Prop:=λy H1=>td σ H1 (PJ Q y)
def Xo(ty td:TE):TE:=λσ H Q=>ty σ H (UP td σ Q)
inductive UQ(D:Ends)(σ:St)(v:V)(x:V)(y:V)(H3:Hp):Prop
 |mk(a H4:_)(_:x =.ref a)(_:uc H3 a y v H4)(_:D.nx σ H4)
def UR(ty:TE)(D:Ends)(σ:St)(v:V):V->Hp->Prop:=λx H2=>ty σ H2 (UQ D σ v x)
def ZG(td:TE)(ty:TE)(D:Ends)(σ:St):V->Hp->Prop:=λv H1=>td σ H1 (UR ty D σ v)
def acG(td ty tv:TE):TS:=λD σ H=>tv σ H (ZG td ty D σ)
inductive US(D:Ends)(σ:St)(x:V)(y:V)(H2:Hp):Prop
 |mk(a Ap k:_)(_:x =.ref a)(_:H2 a=some (.dK Ap))(_:y=kV k)(_:(d7 Ap k).isSome=true)(_:D.nx σ (upd H2 a (.dK (nt Ap k))))
def ZH(ty:TE)(D:Ends)(σ:St):V->Hp->Prop:=λx H1=>ty σ H1 (US D σ x)
def acH(td ty:TE):TS:=λD σ H=>td σ H (ZH ty D σ)
section
variable {X:Cx}{o i e value:Expr}{pos pos' tpos:Pos}{td ty tv:TE}
end
def JB{w:World}(h:Heap)(hb:sysModules<h.objs.size):dM P w H (h.push { cls:=.type "dict",data:=.dict #[] }) h.objs.size (.dK []):=⟨eV _,EH.mpr (cy (dW hb)),[],.nil,Heap.DictOf.new h⟩
def ZI:TE:=λ_ H Q=>∀p,H p=none->Q (.ref p) (upd H p (.dK []))
section
variable {X:Cx}{pos:Pos}
end
def yZ:Da (TE×TE)->St->Hp->(Da (V×V)->Hp->Prop)->Prop
 | [],_,H,Q=>Q [] H
 | (tk,tv)::r,σ,H,Q=>tk σ H λx H1=>tv σ H1 λy H2=>yZ r σ H2 λps H3=>Q ((x,y)::ps) H3
abbrev VV:Da (V×V)->Da (Value×Value)->Prop:=Paired λp q=>RelV p.1 q.1/\RelV p.2 q.2
def PPs(X:Cx)(pos:Pos)(keys:Da (Option Expr))(values:Da Expr)(Dg:Da (TE×TE)):Prop:=∀(AT:AO)(s:Shared)(σ:St)(H:Hp)(Q:Da (V×V)->Hp->Prop),Inv X AT σ H s->yZ Dg σ H Q->wpAny (model X.prog X.w) X.A (evalPairs (pairTrees keys values X.env pos)) (λvs s'=>∃ps H',Inv X AT σ H' s'/\VV ps vs/\Q ps H') X.xe s
def wO(Ap more:Da (Key×V)):Da (Key×V):=more.foldl (λBM kv=>putK BM kv.1 kv.2) Ap
def KV.merge:∀{more:Da (Key×V)}{rs:Da (Key×Value)}{Ap:Da (Key×V)}{vs:Da (Key×Value)},KV more rs->KV Ap vs->KV (wO Ap more) (merged vs rs):=by
 intro more rs Ap vs r;unfold KV at r
 induction r generalizing Ap vs with
 | nil=>intro q;exact q
 | @cons p q ps qs h t ih=>
  intro r0;have e:KV (putK Ap p.1 p.2) (stored vs q.1 q.2):=by have:=r0.put p.1 h.2;rw[<-h.1];exact this
  exact ih e
theorem yC:∀(more Ap:Da (Key×V)),(wO Ap more).length<=Ap.length+more.length
 | [],Ap=>by show Ap.length<=Ap.length+0;omega
 | p::r,Ap=>by have h1:=yC r (putK Ap p.1 p.2);have h2:=vV Ap p.1 p.2;show(wO (putK Ap p.1 p.2) r).length<=_;rw[kq];omega
theorem Dh{P:Program}{w:World}:∀{Ap:Da (Key×V)}{ws:Da (Value×Value)},VV (Ap.map λkv=>(kV kv.1,kv.2)) ws->∃rs,Carries (cY P w) ws rs/\KV Ap rs
 | [],_,r=>by rw[List.map_nil]at r;cases r;exact⟨[],True.intro,.nil⟩
 | p::Ap,_,r=>by
  rw[bJ]at r;cases r with
  | @cons a b as bs h t=>obtain⟨rs,c,q⟩:=Dh (P:=P) (w:=w) t;obtain⟨b1,b2⟩:=b;exact⟨(p.1,b2)::rs,⟨xS h.1,Z,c⟩,.cons ⟨Z,h.2⟩ q⟩
def acI(Dg:Da (TE×TE)):TE:=λσ H Q=>∀p,H p=none->yZ Dg σ (upd H p (.dK [])) λps H2=>H2 p=some (.dK [])/\∃Ap:Da (Key×V),ps=Ap.map (λkv=>(kV kv.1,kv.2))/\Ap.length<=15/\Q (.ref p) (upd H2 p (.dK (wO [] Ap)))
def IsD(H:Hp)(a:Addr):Prop:=(∃Ap,Rd H a (.dK Ap))\/∃Ap,Rd H a (.dT Ap)
def JC(I:Inv X AT σ H s)(d:IsD H a):s.TypeIs (.ref a) "dict"/\(∀b,Value.ref a =.ref b->∃ob,s.heap.get? b=some ob/\ob.dict=none)/\(a==sysModules)=false:=by
 rcases d with⟨Ap,e⟩|⟨Ap,e⟩
 .obtain ⟨_,hd,vs,_,dd⟩:=qT I.hok e;refine⟨dd.typeIs,λb q=>?_,hd⟩;cases q;obtain⟨ob,_,_,h1,h2,_⟩:=dd;exact⟨ob,h1,h2.2.1⟩
 .obtain ⟨_,hd,xs,_,dd⟩:=AB I.hok e;refine⟨dd.typeIs,λb q=>?_,hd⟩;cases q;obtain⟨ob,_,_,h1,h2,_⟩:=dd;exact⟨ob,h1,h2.2.1⟩
section
variable {X:Cx}{AT:AO}{σ:St}{H:Hp}{s:Shared}{a:Addr}{y d:V}{u r:Value}{o:Option V}{A:Around}{E:VS}
end
section
variable {X:Cx}{o e f:Expr}{B2 cpos:Pos}{td ty tx:TE}
end
section
variable {X:Cx}{AT:AO}{σ:St}{H:Hp}{s:Shared}{a:Addr}{Ap:Da (Key×V)}{A:Around}{E:VS}
end
section
variable {X:Cx}{AT:AO}{σ:St}{H:Hp}{s:Shared}{a:Addr}{y:V}{u:Value}{A:Around}{E:VS}
end
end L2
namespace Att
open PySem PySem.W PySem.Calls PyProof.Rows
def Di{P:Params}{h:Heap}:∀(ns:Da Int)(vs:Da Value),WellAll P h vs (ns.map WData.int)->IntsAre vs ns:=by
 intro ns
 induction ns with
 | nil=>intro vs w;rw[List.map_nil]at w;cases w;exact .nil
 | cons n ns ih=>
  intro vs w;rw[bJ]at w;cases w with
  | cons a b=>cases a;exact .cons _ _ (ih _ b)
theorem RK{l:OpenLaw}{n:Nat}(hn:l.most=some n){P:Params}{h:Heap}{args:Da WData}{vals:Da Value}(hpre:l.row.toRowW.claim.pre args=true)(hwl:WellAll P h vals args):
  ∃a vs ns,vals=[Value.ref a]/\args=[WData.list (ns.map WData.int)]/\h.get? a=some { cls:=.type "list",data:=.seq vs.toArray }/\IntsAre vs ns/\ns.length<=n:=by
 have hsh:WShape.hasAll [] args [.list .int]=true:=(pre_splitW hpre).1
 have hc:l.pre.holds [] { args:=args }=true:=(pre_splitW hpre).2
 obtain⟨d,r,rfl,h1,h2⟩:=hasAllW_cons hsh
 obtain rfl:=hasAllW_nil h2
 obtain⟨xs,rfl,h3⟩:=hasW_list h1
 obtain⟨ns,rfl⟩:=items_int h3
 have hlen:ns.length<=n:=by
  unfold OpenLaw.pre at hc;have h4:(WTm.not (.lt (.lit (.int (n:Int))) (.len (.arg 0)))).holds [] { args:=[.list (ns.map .int)] }=true:=by have h4:=(holds_andW hc).1;rw[hn]at h4;exact h4
  have h5:=condW_of h4 (w_not (w_lt w_lit (w_len_list (w_arg rfl))));rw[aF]at h5;refine Nat.le_of_not_lt λq=>?_;have q':(n:Int)<((ns.length:Nat):Int):=by omega
  first
   | (rw[cu q']at h5;exact absurd h5 (by decide))
   | (simp at h5;omega)
 cases hwl with
 | cons w1 w2=>
   cases w2
   cases w1 with
   | list ho hall=>exact⟨_,_,ns,Z,Z,ho,Di ns _ hall,hlen⟩
def RL(l:OpenLaw)(args:Da WData):l.row.toRowW.claim.post args (.bool true) args=true:=postW_of (r:=l.row.toRowW) (X:=(true==true))
  (show WShape.has [] (.bool true) .bool=true by first|rfl|decide|simp[WShape.has,WShape.arms,WShape.armsAll])
  (show(WTm.eq .res (.lit (.bool true))).value [] { args:=args,res:=some (.bool true),after:=args }=some (.bool (true==true))from w_eq_bool (w_res rfl) w_lit) rfl
def Mp{l:OpenLaw}{n:Nat}{q:Program}{loose:Da Str}{XP:(Str->Option Value)->Heap->Prop}{YP:World->Heap->Prop}{d:DefRec}(hn:l.most=some n)(hdf:d.params.defaults=[])(call:∀(w:World) (s₀ s₁:Shared) (mg mb:SO) (fa:Addr) (o:Obj) (pm cd doc:Value) (a:Addr) (vs:Da Value) (ns:Da Int),
    Ground q loose [] XP w s₀ mg mb s₁.heap->YP w s₁.heap->
    s₁.heap.get? fa=some o->o.data =.func (docDef d.name d.params d.body d.scope pm cd doc)->s₁.heap.CodeRec cd d.name->mg d.name=some (.ref fa)->
    s₁.heap.get? a=some { cls:=.type "list",data:=.seq vs.toArray }->IntsAre vs ns->ns.length<=n->s₁.gens=#[]->
    codeAny (model l.prog w) callerA (.call (.ref fa) ⟨[.ref a],[]⟩) (λr s'=>r =.ok (.ret (.bool true))/\OldK s₁.heap s'.heap/\s'.os=s₁.os/\AllBare s'.gens) s₁):
  WalkO q loose XP YP l.row.toRowW d [] (λf vs=>PySem.call f vs):=by
 intro w s₀ s₁ mg mb G Y fa o pm cd doc dV kV ho hd hcd hD hmg hg args vals as hpre hlay hrd hwl hlo
 obtain rfl:dV =.none:=Dflts.none hD hdf
 obtain rfl:kV =.none:=Dflts.noKw hD
 obtain⟨a,vs,ns,rfl,rfl,hobj,hints,hlen⟩:=RK hn hpre hwl
 refine enter_call (As (call w s₀ s₁ mg mb fa o pm cd doc a vs ns G Y ho (fd_plain hd) hcd hmg hobj hints hlen hg) λr s' hq=>?_)
 obtain⟨rfl,h2,h3,h4⟩:=hq
 exact⟨.inl ⟨.bool true,.bool true,[],Z,λ_=>rfl,.bool true,RL l _,λ_=>⟨List.Pairwise.nil,λ_ hm=>(nomatch hm)⟩⟩,h2,h3,h4⟩
section
variable {prog:Program}{w:World}{A:Around}{E:VS}{s:Shared}{K:Frag}
end
end Att
namespace L2
open PySem PySem.Spec PyProof.Rows
theorem Gv:∀{vs:Da Value}{ns:Da Int},IntsAre vs ns->Vals (ns.map V.int) vs
 | _,_,.nil=> .nil
 | _,_,.cons n t h=> .cons ⟨t,Z⟩ (Gv h)
def UT(H:Hp):Prop:=∀b,H b=none\/∃o xs,H b=some (.fF o (.lst xs))
variable {P:Program}{K:Fg}{mg:SO}{CX:yx}{a:Addr}{fd:FuncData}{x:Str}{sp:Sp}{ns:Da Int}
def UU{w:World}{mb:SO}{k:Nat}{fa:Addr}{s₁:Shared}{vs:Da Value}(KX:K.In s₁.heap)(hns:s₁.heap.Ns mainGlobals mg)(hb:s₁.heap.Ns builtinsNs mb)(hbb:∀x:Str,x ≠ "__name__"->mb x=bootBuiltins x)(hlim:s₁.heap.NoLimit)(hg:s₁.gens=#[])(ha:s₁.heap.get? a=some { cls:=.type "list",data:=.seq vs.toArray })(hi:IntsAre vs ns)(hl:ns.length<=sizeLine)(hr:dj k callerA)(F:∀base:Heap,K.In base->base.Ns mainGlobals mg->iz P w K mg base CX k fa fd [x] sp)(hbind:∀(s:Shared) (u:Value),BindsTo s fd ⟨[u],[]⟩ [(x,u)])(oX:∀H:Hp,UT H->aA K H a (ns.map V.int)->sp [.ref a] H (λv _=>v =.bl true) λ_ _ _=>False)(ZJ:∀H e s',CX [] H s₁ (λ_ _ _=>False) e s'->False):
  codeAny (model P w) callerA (.call (.ref fa) ⟨[.ref a],[]⟩) (λr s'=>r =.ok (.ret (.bool true))/\OldK s₁.heap s'.heap/\s'.os=s₁.os/\AllBare s'.gens) s₁:=by
 have rv:=Gv hi
 have afZ:=hi.length
 have core:∀H:Hp,UT H->aA K H a (ns.map V.int)->gU P w H s₁.heap->(∀b,H b≠none->b=a)->(H a≠none->K.lookup a=none)->
   codeAny (model P w) callerA (.call (.ref fa) ⟨[.ref a],[]⟩) (λr s'=>r =.ok (.ret (.bool true))/\OldK s₁.heap s'.heap/\s'.os=s₁.os/\AllBare s'.gens) s₁:=by
  intro H hO hS hok hA hK
  have NR:∀{b:Addr}{o:Obj},s₁.heap.get? b=some o->H b=none->(xP s₁.heap H).get? b=some o:=λe n=>Us e n
  have Rz:∀{b:Addr}{o:Obj}{es:Array DictEntry}{ep:Nat},s₁.heap.get? b=some o->o.data =.dict es ep->H b=none:=λ{b o es ep} e d=>by
   cases q:H b with
   | none=>rfl
   | some u=>have e':b=a:=hA b (by rw[q];simp);subst e';rw[ha]at e;cases e;have d':Data.seq vs.toArray _=Data.dict es ep:=d;cases d'
  have V_:∀{b:Addr}{m:SO},s₁.heap.Ns b m->(xP s₁.heap H).Ns b m:=λ{b m} ⟨o,es,ep,e,d,r⟩=>⟨o,es,ep,NR e (Rz e d),d,r⟩
  have hKb:K.In (xP s₁.heap H):=λb o e=>NR (KX b o e) (by
   cases q:H b with
   | none=>rfl
   | some u=>have e':b=a:=hA b (by rw[q];simp);subst e';rw[hK (by rw[q];simp)]at e;cases e)
  have hM:Mod K mg (xP s₁.heap H):=⟨hKb,V_ hns,⟨mb,V_ hb,hbb⟩,let⟨mc,h1,h2⟩:=hlim;⟨mc,V_ h1,h2⟩⟩
  have e0:B0 P w K mg (xP s₁.heap H) callerA [] s₁ H:=⟨Z,hM,λb o e=>W7 e,Nat.le_of_eq (Rg _ _),trivial,λb hb=>absurd (show b∈([] :Da Addr)from hb) (by simp),hok,.of_eq hg⟩
  refine As ((F _ hKb (V_ hns)).run callerA [] s₁ H ⟨[.ref a],[]⟩ [.ref a] [.ref a] _ _ hr e0 (hbind s₁ (.ref a)) (.cons rfl .nil) (oX H hO hS)) λr s' h=>?_
  cases r with
  | error e=>exact(ZJ H e s' h).elim
  | ok fl=>
    cases fl with
    | next=>exact False.elim h
    | brk=>exact False.elim h
    | cont=>exact False.elim h
    | ret u=>
      obtain⟨v,H',os,bare,un,af0,r',q⟩:=h
      have q':v =.bl true:=q
      subst q'
      obtain rfl:u=Value.bool true:=r'
      refine⟨Z,OldK.of_keep λb o e=>?_,os,bare⟩
      cases q:H b with
      | none=>exact un.keep b o e q (by intro z;exact absurd (show b∈([] :Da Addr)from z) (by simp)) (by simp)
      | some u=>
        rcases hO b with z|⟨ob,xs,z⟩
        . rw[q]at z;cases z
        . have z2:=un.mO b ob _ z
          obtain⟨e1,_⟩:=hok b _ z
          obtain⟨e2,_⟩:=af0 b _ z2
          rw[e]at e1;cases e1
          exact e2
 cases hk:K.lookup a with
 | some o=>
   have e:=KX a o hk
   rw[ha]at e
   cases e
   refine core (λ_=>none) (λ_=> .inl rfl) (.inr ⟨_,vs.toArray,_,hk,Z,Z,Z,by rw[gY,afZ];exact hl,by simpa using rv⟩) (λb u z=>by have z':(none:Option HO)=some u:=z;cases z') (λb z=>absurd rfl z) λz=>absurd rfl z
 | none=>
   refine core (λb=>if b=a then some (.fF { cls:=.type "list",data:=.seq vs.toArray } (.lst (ns.map V.int))) else none) (λb=>?_) (.inl (.inr ⟨{ cls:=.type "list",data:=.seq vs.toArray },aC rfl⟩)) (λb u z=>?_) (λb z=>?_) λ_=>hk
   . by_cases hb:b=a
     . exact .inr ⟨_,_,aC hb⟩
     . exact .inl (aB hb)
   . by_cases hb:b=a
     . have z':=(aC hb).symm.trans z
       cases z'
       subst hb
       exact⟨ha,by rw[aF];exact hl,vs,_,rv,ha⟩
     . have z':=(aB hb).symm.trans z
       cases z'
   . by_cases hb:b=a
     . exact hb
     . exact absurd (aB hb) z
variable {n:Nat}{XP:(Str->Option Value)->Heap->Prop}{YP:World->Heap->Prop}
def Xp{l:PySem.W.OpenLaw}{k:Nat}{q:Program}{loose:Da Str}{d:DefRec}{K:Params->Fg}{CX:World->yx}{sp:World->Sp}(hn:l.most=some n)(hn2:n<=sizeLine)(hdf:d.params.defaults=[])(hr:dj k callerA)(hY:∀(w:World) (h:Heap),YP w h->(K w.params).In h)(F:∀(w:World) (mg:SO) (fa:Addr) (h:Heap),(K w.params).In h->h.Ns mainGlobals mg->mg d.name=some (.ref fa)->
    ∃fd:FuncData,(∀(s:Shared) (u:Value),BindsTo s fd ⟨[u],[]⟩ [(x,u)])/\
     ∀base:Heap,(K w.params).In base->base.Ns mainGlobals mg->iz l.prog w (K w.params) mg base (CX w) k fa fd [x] (sp w))(oX:∀(w:World) (H:Hp) (a:Addr) (ns:Da Int),ns.length<=n->UT H->aA (K w.params) H a (ns.map V.int)->sp w [.ref a] H (λv _=>v =.bl true) λ_ _ _=>False)(ZJ:∀(w:World) (H:Hp) (s:Shared) (e:Value) (s':Shared),CX w [] H s (λ_ _ _=>False) e s'->False):
  PySem.W.WalkO q loose XP YP l.row.toRowW d [] (λf vs=>PySem.call f vs):=by
 refine Att.Mp hn hdf λw s₀ s₁ mg mb fa o pm cd doc a vs ns G Y ho hd hcd hmg hobj hints hlen hg=>?_
 have KX:=hY w _ Y
 obtain⟨fd,hb,hF⟩:=F w mg fa _ KX G.T.g hmg
 exact UU KX G.T.g G.T.b G.T.builtins G.T.nolimit hg hobj hints (fL hlen hn2) hr hF hb (λH hO hS=>oX w H a ns hlen hO hS) λH e s'=>ZJ w H s₁ e s'
def inClass(s:Stmt)(j:Nat):Stmt:=match s with
 | .ClassDef _ _ _ body _ _ _ _ _ _ _=>body.getD j (.Pass ⟨0,0,0,0⟩)
 | _=> .Pass ⟨0,0,0,0⟩
def dY(s:Stmt):Arguments:=match s with
 | .FunctionDef _ a _ _ _ _ _ _ _ _=>a
 | _=>{ posonlyargs:=[],args:=[],vararg:=none,kwonlyargs:=[],kw_defaults:=[],kwarg:=none,defaults:=[] }
def cG(s:Stmt):Da Stmt:=match s with
 | .FunctionDef _ _ b _ _ _ _ _ _ _=>b
 | _=>[]
def ay(s:Stmt):Scope:=match s with
 | .FunctionDef _ _ _ _ _ _ sc _ _ _=>sc
 | _=>{ kind:=.function,names:=[],isGenerator:=false,isCoroutine:=false }
abbrev sZ:yx:=λ_ _ _ _ _ _=>False
abbrev E0:XK:=λ_ _ _=>False
structure Gw(K:Fg)(x qual:Str)(st:Stmt)(f:Addr)(fd:FuncData):Prop where
 ex:∃(oc:Value)(od:Option Addr)(kV doc pm:Value)(an:Option Addr)(cdv ct:Value)(osl:Array (Option Value)),
  fd=PySem.W.fnOf x qual (dY st) (cG st) (ay st) .none kV doc pm an cdv ct/\K.lookup f=some ⟨oc,od,.func fd,osl⟩/\PySem.W.codeIn K cdv qual=true
 kp:PySem.W.keepIn K (.ref f)=true
variable {qual:Str}{f:Addr}{N ps:Da Str}{oc doc pm cdv ct:Value}{od an:Option Addr}{osl:Array (Option Value)}
section
variable {P:Program}{w:World}{K:Fg}{mg:SO}{base:Heap}
def Gw.ok{st:Stmt}{k:Nat}(F:Gw K x qual st f fd)(S:aK N ps (ay st))(len:∀vs H Q E,sp vs H Q E->vs.length=ps.length)(Ch:∀(cdv:Value) (A:Around) (outer:Da Env) (s:Shared) (H:Hp) (vs:Da V) (Q:VK) (E:XK),dj k (A.deeper (envOfC qual (ay st) s.heap.objs.size f cdv))->sp vs H Q E->
    ∃t,qf (cK sZ P w K mg base N qual (ay st) f cdv A outer s H E).Bg (cG st) t/\t { nx:=λ_ H'=>Q .cD H',rt:=Q } (start N vs) H):iz P w K mg base sZ (k+1) f fd ps sp:=by
 obtain⟨oc,od,kV,doc,pm,an,cdv,ct,osl,rfl,lk,hcd⟩:=F.ex
 refine Px lk hcd S len λA outer s H vs Q E hr oX=>?_
 obtain⟨t,h,q⟩:=Ch cdv A outer s H vs Q E hr oX
 exact⟨t,h.Bg,q⟩
def Gw.binds{st:Stmt}(F:Gw K x qual st f fd)(h:∀(kV doc pm:Value) (an:Option Addr) (cdv ct:Value) (us:Da Value),us.length=ps.length->bindArgs (PySem.W.fnOf x qual (dY st) (cG st) (ay st) .none kV doc pm an cdv ct) ⟨us,[]⟩=pure (ps.zip us)):Binds K fd ps [] :=by
 obtain⟨oc,od,kV,doc,pm,an,cdv,ct,osl,rfl,lk,hcd⟩:=F.ex
 exact .all (h kV doc pm an cdv ct)
def JD{st:Stmt}{kV:Value}(l:K.lookup f=some ⟨oc,od,.func (PySem.W.fnOf x qual (dY st) (cG st) (ay st) .none kV doc pm an cdv ct),osl⟩)(c:PySem.W.codeIn K cdv qual=true)(k:PySem.W.keepIn K (.ref f)=true):Gw K x qual st f (PySem.W.fnOf x qual (dY st) (cG st) (ay st) .none kV doc pm an cdv ct):=⟨⟨oc,od,kV,doc,pm,an,cdv,ct,osl,Z,l,c⟩,k⟩
end
variable {A:Around}
def cA{k:Nat}(hr:dj k A):A.units+1<cLine:=Jf (Nat.add_le_add_left (by decide:1<=64) _) hr.units
def fq(h:n<=1000):n<sizeLine:=Jf h (by decide)
section
variable {X:Cx}
end
def cF{A B:Prop}(h:B):if false=true then A else B:=by rw[aB fQ];exact h
def mP{A B:Prop}(h:A):if true=true then A else B:=by rw[aC rfl];exact h
def dJ{c A B:Prop}[Decidable c](h1:c->A)(h2:¬ c->B):if c then A else B:=by
 by_cases h:c
 .rw [aC h];exact h1 h
 .rw [aB h];exact h2 h
def aG(H H':Hp):Prop:=∀b o,H b=some o->H' b=some o
def aG.refl(H:Hp):aG H H:=λ_ _ h=>h
variable {H H1 H2:Hp}
def aG.trans(a:aG H H1)(b:aG H1 H2):aG H H2:=λc o h=>b c o (a c o h)
variable {H':Hp}
def aG.free(e:aG H H'){l:Addr}(h:H' l=Option.none):H l=Option.none:=by
 cases q:H l with
 | none=>rfl
 | some o=>rw[e l o q]at h;cases h
variable {xs:Da V}
def aG.seq(e:aG H H')(h:aA K H a xs):aA K H' a xs:=by
 rcases h with(h|⟨o,h⟩)|h
 .exact .inl (.inl (e _ _ h))
 .exact .inl (.inr ⟨o,e _ _ h⟩)
 .exact .inr h
section
variable {X:Cx}
def y9:gG X (.builtin "len") (λxs H Q=>∃a Ap,xs=[V.ref a]/\H a=some (.dK Ap)/\Q (.int Ap.length) H):=by intro AT s σ H xs us Q I r h;obtain⟨a,Ap,rfl,ha,q⟩:=h;obtain⟨u,rfl,ru⟩:=vals1 r;cases ru;exact acD I (.inl ha) λt s' I'=>⟨.int Ap.length,H,I',⟨t,Z⟩,q⟩
end
section
variable {κ:Type}[DecidableEq κ]
def UW{Ap:Da (κ×V)}{k:κ}(h:d7 Ap k=none):¬ k∈Ap.map (·.1):=by intro m;obtain⟨p,hp,e⟩:=bR.mp m;have q:(Ap.any λkv=>decide (kv.1=k))=true:=List.any_eq_true.mpr ⟨p,hp,cu e⟩;rw[qt,h]at q;exact absurd q (by simp)
theorem oh:∀{l:Da κ}{k:κ},l.Nodup->¬ k∈l->(l++[k]).Nodup
 | [],k,_,_=>by simp
 | a::r,k,h,hk=>by
  obtain⟨h1,h2⟩:=iG.mp h;show(a::(r++[k])).Nodup;refine iG.mpr ⟨λm=>?_,oh h2 λm=>hk (cJ.mpr (Or.inr m))⟩;rcases fj.mp m with q|q
  .exact h1 q
  .exact hk (cJ.mpr (Or.inl (eL.mp q).symm))
def Xq{Ap:Da (κ×V)}{k:κ}(v:V)(hn:(Ap.map (·.1)).Nodup)(h:d7 Ap k=none):((putK Ap k v).map (·.1)).Nodup:=by rw[nK v h,br];exact oh hn (UW h)
end
end L2
set_option maxHeartbeats 4000000
namespace L2
open PySem PySem.Spec PyProof.Rows
variable {n:Nat}{K:Fg}
section
variable {X:Cx}
def AG(_ j:Int):Prop:=0<j/\j.natAbs.log2<9000
theorem gM:ir X (binaryOp .FloorDiv) (rI AG λi j=> .int (i / j)):=Rl λi j _ _ _ _ _ hc q=>by have h1:(0:Int)<j:=hc.1;exact floordiv_int (by omega) (by rw[Int.fdiv_eq_ediv_of_nonneg i (by omega)];exact q) (.inl (PyProof.noPylong_of_log2 hc.2))
def y_{i j:Int}(h:(decide (0<j) && decide (j.natAbs.log2<9000))=true):AG i j:=by obtain⟨a,b⟩:=jP.mp h;exact⟨dI a,dI b⟩
theorem UX{i j:Int}(h0:0<j)(h:j<2 ^ n)(hn:n<=9000):AG i j:=by
 refine⟨h0,?_⟩;have e:(j.natAbs:Int)=j:=by omega
 have h2:j.natAbs<2 ^ n:=by
  have:(j.natAbs:Int)<((2 ^ n:Nat):Int):=by rw[e];simpa using h
  exact Int.ofNat_lt.mp this
 have:=(Nat.log2_lt (n:=j.natAbs) (k:=n) (by omega)).mpr h2;omega
def PK(i j:Int):Prop:=∃m n:Nat,i.natAbs<2 ^ m/\j.natAbs<2 ^ n/\m+n<=134217728
def jR:ir X (binaryOp .Mult) (rI PK λi j=> .int (i*j)):=Rl λ_ _ _ _ _ _ _ hc q=>by obtain⟨m,n,h1,h2,h3⟩:=hc;exact mul_int q (IntMulOk.of_le (O4.mpr h1) (O4.mpr h2) h3)
def Mq:gG X (.builtin "isinstance") (λxs H Q=>∃x n t b,xs=[x,.ty n]/\fX X.K H x t/\PySem.W.kitOne X.K t (.type n)=some b/\Q (.bl b) H):=by intro AT s σ H xs us Q I r h;obtain⟨x,n,t,b,rfl,ty,e,q⟩:=h;obtain⟨u,w',rfl,ru,rw'⟩:=vals2 r;have rw2:w'=Value.type n:=rw';subst rw2;exact Rv I ru ty e λtk=>⟨.bl b,H,I.tok _,Z,q⟩
def fY{n:String}:PySem.W.kitOne K (.type n) (.type n)=some true:=by unfold PySem.W.kitOne;rw[aC (xE _)]
def JE:PySem.W.kitOne K (.type "int") (.type "bool")=some false:=by rfl
mutual
inductive Dt(K:Fg)(H:Hp):V->PyData->Prop
 | cD:Dt K H .cD .none
 | bl (b:Bool):Dt K H (.bl b) (.bool b)
 | int (i:Int):Dt K H (.int i) (.int i)
 | str (x:Str):Dt K H (.str x) (.str x)
 | lst {a:Addr} {xs:Da V} {ds:Da PyData}:aA K H a xs->wQ K H xs ds->Dt K H (.ref a) (.list ds)
 | tup {a:Addr} {xs:Da V} {ds:Da PyData}:cz K H a xs->wQ K H xs ds->Dt K H (.ref a) (.tuple ds)
inductive wQ(K:Fg)(H:Hp):Da V->Da PyData->Prop
 | nil:wQ K H [] []
 | cons {x:V} {xs:Da V} {d:PyData} {ds:Da PyData}:Dt K H x d->wQ K H xs ds->wQ K H (x::xs) (d::ds)
end
section
variable {AT:AO}{σ:St}{H:Hp}{s:Shared}
mutual
theorem Dt.reads(I:Inv X AT σ H s):∀{x:V}{d:PyData}{u:Value},Dt X.K H x d->RelV x u->∃as,Reads s.heap u d as
 | _,_,u,.cD,r=>by cases(show u=Value.none from r);exact⟨_,.none⟩
 | _,_,u,.bl b,r=>by cases(show u=Value.bool b from r);exact⟨_,.bool b⟩
 | _,_,u,.int i,r=>by obtain⟨t,rfl⟩:=(show ∃t,u=Value.int i t from r);exact⟨_,.int i t⟩
 | _,_,u,.str x,r=>by obtain⟨t,rfl⟩:=(show ∃t,u=Value.str x t from r);exact⟨_,.str x t⟩
 | _,_,u,@Dt.lst _ _ a xs ds h hd,r=>by cases(show u=Value.ref a from r);obtain⟨Bi,rv,⟨o,n,e,c,_,d⟩,hz⟩:=I.list h;obtain⟨as,ra⟩:=wQ.reads I hd rv;exact⟨_,.list e c d (by simpa using ra)⟩
 | _,_,u,@Dt.tup _ _ a xs ds h hd,r=>by cases(show u=Value.ref a from r);obtain⟨Bi,rv,⟨o,e,c,n,d⟩,hz⟩:=I.tuple h;obtain⟨as,ra⟩:=wQ.reads I hd rv;exact⟨_,.tuple e c d (by simpa using ra)⟩
theorem wQ.reads(I:Inv X AT σ H s):∀{xs:Da V}{ds:Da PyData}{us:Da Value},wQ X.K H xs ds->Vals xs us->∃as,ReadsAll s.heap us ds as
 | _,_,_,.nil,.nil=>⟨_,.nil⟩
 | _,_,_,.cons h t,.cons r rs=>by obtain⟨as,ra⟩:=Dt.reads I h r;obtain⟨bs,rb⟩:=wQ.reads I t rs;exact⟨_,.cons ra rb⟩
end
end
inductive ZK(K:Fg)(x:V)(y:V)(H:Hp)(Q:VK):Prop
 |mk(d e:_)(_:Dt K H x d)(_:Dt K H y e)(_:SeqAt.shaped d=true)(_:SeqAt.shaped e=true)(_:Q (.bl (PyData.eqv d e)) H)
inductive EU(K:Fg)(x:V)(y:V)(H:Hp)(Q:VK):Prop
 |mk(d e:_)(_:Dt K H x d)(_:Dt K H y e)(_:SeqAt.shaped d=true)(_:SeqAt.shaped e=true)(_:Q (.bl (!PyData.eqv d e)) H)
def ZL(hu:X.A.units+64<cLine):ir X (compareOp .Eq) (ZK X.K):=by intro AT s σ H x y v u Q I rx ry h;obtain⟨d,e,hd,he,sd,se,q⟩:=h;obtain⟨as,ra⟩:=hd.reads I rx;obtain⟨bs,rb⟩:=he.reads I ry;exact eq_dataH ra rb sd se hu ⟨.bl _,H,I,Z,q⟩
def ZM(hu:X.A.units+64<cLine):ir X (compareOp .NotEq) (EU X.K):=by intro AT s σ H x y v u Q I rx ry h;obtain⟨d,e,hd,he,sd,se,q⟩:=h;obtain⟨as,ra⟩:=hd.reads I rx;obtain⟨bs,rb⟩:=he.reads I ry;exact ne_dataH ra rb sd se hu ⟨.bl _,H,I,Z,q⟩
structure Bx(p:Prop):Prop where
 ex:p
def bx(f:Sp):Sp:=λvs H Q E=>Bx (f vs H Q E)
structure Dn(P:Program)(w:World)(K:Fg)(mg:SO)(base:Heap)(k:Nat)(x:Str)(ps:Da Str)(sp:Sp):Prop where
 ex:∃f fd,iz P w K mg base sZ k f fd ps sp/\Binds K fd ps []/\PySem.W.keepIn K (.ref f)=true/\mg x=some (.ref f)
end
structure At(K:Fg)(mg:SO)(x:Str)(st:Stmt)(f:Addr)(fd:FuncData):Prop where
 fn:Gw K x x st f fd
 name:mg x=some (.ref f)
variable {P:Program}{mg:SO}{base:Heap}{x:Str}{f:Addr}{fd:FuncData}{N ps:Da Str}{sp:Sp}
theorem At.ok{w:World}{st:Stmt}{k:Nat}(F:At K mg x st f fd)(S:aK N ps (ay st))(len:∀vs H Q E,sp vs H Q E->vs.length=ps.length)(Ch:∀(cdv:Value) (A:Around) (outer:Da Env) (s:Shared) (H:Hp) (vs:Da V) (Q:VK) (E:XK),dj k (A.deeper (envOfC x (ay st) s.heap.objs.size f cdv))->sp vs H Q E->
    ∃t,qf (cK sZ P w K mg base N x (ay st) f cdv A outer s H E).Bg (cG st) t/\t { nx:=λ_ H'=>Q .cD H',rt:=Q } (start N vs) H)(h:∀(kV doc pm:Value) (an:Option Addr) (cdv ct:Value) (us:Da Value),us.length=ps.length->bindArgs (PySem.W.fnOf x x (dY st) (cG st) (ay st) .none kV doc pm an cdv ct) ⟨us,[]⟩=pure (ps.zip us)):
  Dn P w K mg base (k+1) x ps sp:=⟨f,fd,F.fn.ok S len Ch,F.fn.binds h,F.fn.kp,F.name⟩
variable {h:Heap}{oc doc pm cdv ct:Value}{od an:Option Addr}{osl:Array (Option Value)}
def Wa{st:Stmt}{kV:Value}(X:K.In h)(G:h.Ns mainGlobals mg)(a:PySem.W.nsIn K mainGlobals x=some (some (.ref f)))(l:K.lookup f=some ⟨oc,od,.func (PySem.W.fnOf x x (dY st) (cG st) (ay st) .none kV doc pm an cdv ct),osl⟩)(c:PySem.W.codeIn K cdv x=true)(k:PySem.W.keepIn K (.ref f)=true):At K mg x st f (PySem.W.fnOf x x (dY st) (cG st) (ay st) .none kV doc pm an cdv ct):=⟨JD l c k,ku X G a⟩
def aG.tup{H H':Hp}{K:Fg}{a:Addr}{xs:Da V}(e:aG H H')(h:cz K H a xs):cz K H' a xs:=by
 rcases h with(h|⟨o,h⟩)|h
 .exact .inl (.inl (e _ _ h))
 .exact .inl (.inr ⟨o,e _ _ h⟩)
 .exact .inr h
variable {H:Hp}
def az{p:Addr}(h:H p=none)(o:HO):aG H (upd H p o):=λb u q=>by rw[av (aH q h)];exact q
def small(h:n<=1000):n<=sizeLine:=CW (fq h)
end L2
namespace Jm
def cf(a b:Int):Int:=(Int.gcd a b:Int)
theorem NS(a:Int)(h:0<=a):cf a 0=a:=by unfold cf;rw[Int.gcd_zero_right];omega
def EV(a b:Int)(h:0<b):cf b (a % b)=cf a b:=by unfold cf;rw[Int.emod_def,Int.gcd_sub_mul_left_right,Int.gcd_comm]
theorem Dj(a b:Int)(h:0<a\/0<b):0<cf a b:=by
 unfold cf;have:0<Int.gcd a b:=by
  rcases h with h|h
  .exact Int.gcd_pos_of_ne_zero_left _ (by omega)
  .exact Int.gcd_pos_of_ne_zero_right _ (by omega)
 omega
def NT(a b:Int):cf a b=cf b a:=by unfold cf;rw[Int.gcd_comm]
def ZN(a b:Int):cf a (if b<0 then -b else b)=cf a b:=by
 unfold cf;split
 .rw [Int.gcd_neg]
 .rfl
abbrev fr(t b:Int):Rat:=Rat.divInt t b
def RM(t b:Int)(h:0<b):(fr t b).num=t / cf b t:=by unfold fr cf;rw[Rat.num_divInt,Int.sign_eq_one_of_pos h,Int.one_mul]
theorem JF(t b:Int)(h:0<b):((fr t b).den:Int)=b / cf b t:=by unfold fr cf;rw[Rat.den_divInt,aB (by omega)];rw[Int.natCast_ediv];congr 1;omega
def qU(a b:Int):cf a b∣a:=Int.gcd_dvd_left ..
def oY(a b:Int):cf a b∣b:=Int.gcd_dvd_right ..
theorem den_pos(q:Rat):(0:Int)<q.den:=by have:=q.den_pos;omega
def Xr(q:Rat):fr q.num q.den=q:=Rat.num_divInt_den q
theorem Wb{t b t' b':Int}(h:0<b)(h':0<b')(e:t*b'=t'*b):fr t b=fr t' b':=(Rat.divInt_eq_divInt_iff (by omega) (by omega)).mpr e
def RN{n d:Int}(h:0<d)(c:cf n d=1):(fr n d).num=n/\((fr n d).den:Int)=d:=by rw[RM n d h,JF n d h,NT,c,Au,Au];exact⟨Z,Z⟩
def RO(t b:Int)(h:0<b):((fr t b).den:Int)<=b:=by rw[JF t b h];exact IB _ (xM h)
def Sz(n:Nat)(x:Int):Prop:=x.natAbs<2 ^ n
def Sz.mono{m n:Nat}{x:Int}(h:Sz m x)(hn:m<=n):Sz n x:=kU h (Nat.pow_le_pow_right (by decide) hn)
def Sz.of_le{n:Nat}{x y:Int}(h:Sz n y)(hx:x.natAbs<=y.natAbs):Sz n x:=Jf hx h
def Sz.mul{m n:Nat}{x y:Int}(hx:Sz m x)(hy:Sz n y):Sz (m+n) (x*y):=by unfold Sz at *;rw[CT,Nat.pow_add];exact Nat.mul_lt_mul'' hx hy
theorem Sz.add{m n:Nat}{x y:Int}(hx:Sz m x)(hy:Sz n y):Sz (max m n+1) (x+y):=by have h1:=hx.mono (Nat.le_max_left m n);have h2:=hy.mono (Nat.le_max_right m n);unfold Sz at *;rw[Nat.pow_succ];omega
def Sz.af1{n:Nat}{x y:Int}(hx:Sz n x)(hy:Sz n y):Sz (n+1) (x+y):=by
 have:=hx.add hy
 rwa [Nat.max_self]at this
theorem Sz.oZ{n:Nat}{x B:Int}(h0:-B<=x)(h1:x<=B)(hB:Sz n B):Sz n x:=hB.of_le (by omega)
theorem Sz.ediv{n:Nat}{x y:Int}(h:Sz n x)(hy:0<y):Sz n (x / y):=by
 refine h.of_le ?_;have e:=Int.emod_add_mul_ediv x y;have m0:=nj x (b:=y) (by omega);have m1:=xC x hy;rcases CY x 0 with hx|hx
 .have q0:x / y<0:=Int.ediv_neg_of_neg_of_pos hx hy;have z:y*(x / y)<=1*(x / y):=Int.mul_le_mul_of_nonpos_right (by omega) (by omega);rcases CY (x / y) x with k|k
  .exfalso;have z2:y*(x / y)<=y*(x-1):=Gd (by omega) (by omega);have z3:y*(x-1)<=1*(x-1)-(y-1):=by
    have z4:(y-1)*(x-1)<=(y-1)*(-2):=Gd (by omega) (by omega);have z5:y*(x-1)=(y-1)*(x-1)+(x-1):=by grind
    omega
   omega
  .omega
 .have q0:0<=x / y:=IE hx (by omega);have:=IB y hx;omega
theorem Sz.dvd{n:Nat}{x y:Int}(h:Sz n y)(hy:0<y)(hx:0<=x)(d:x∣y):Sz n x:=h.of_le (by have:=Int.le_of_dvd hy d;omega)
theorem RP{n:Nat}:∀{ws:Da Int},(∀m∈ws,Sz n m)->Sz (n+ws.length) ws.sum
 | [],_=>by unfold Sz;show 0<_;exact Nat.two_pow_pos _
 | x::r,h=>by have h1:=RP (ws:=r) λm hm=>h m (b_ _ hm);have h2:=((h x cg).mono (CQ n r.length)).af1 h1;rw[c9];exact h2.mono (by rw[kq];omega)
def Dk(c:Int):Nat->Int
 | 0=>c
 | i+1=>Dk c i / 10000000000
def cellOf(ns:Da Int)(k:Int):Int:=if 0<(ns.length:Int) then ns.getD (k % ns.length).toNat 0 else 0
def ze(ns:Da Int)(k:Int):Int:=if 0<(ns.length:Int) then k / ns.length else 1
def mixed(c k j BT:Int):Int:=
 let one:=(c*7919+k*104729+j*1299709+31) % 1000000007
 let two:=(one*48271+c / 1009) % 998244353
 let three:=(two*(one % 9973+1)+j) % 1000000009
 (one*69621+three*40692+three / 1013) % 2147483647 % BT
def draw(ns:Da Int)(k j BT:Int):Int:=if ze ns k=0/\1000000000000000000<=cellOf ns k/\0<Dk (cellOf ns k) j.toNat then Dk (cellOf ns k) j.toNat % 10000000000 % BT
 else mixed (cellOf ns k) k j BT
theorem Xs(ns:Da Int)(k j BT:Int)(h:0<BT):0<=draw ns k j BT:=by
 unfold draw;split
 .exact nj _ (by omega)
 .exact nj _ (by omega)
def Xu(ns:Da Int)(k j BT:Int)(h:0<BT):draw ns k j BT<BT:=by
 unfold draw;split
 .exact xC _ h
 .exact xC _ h
end Jm
namespace L2
open PySem PySem.Spec PyProof.Rows
inductive acJ(K:Fg)(vs:Da V)(H:Hp)(Q:VK)(E:XK):Prop
 |mk(a:Addr)(ns:Da Int)(k j BT:Int)(_:vs=[.ref a,.int k,.int j,.int BT])(_:aA K H a (ns.map V.int))(_:ns.length<=63)(_:0<=k)(_:0<=j)(_:j<2 ^ 62)(_:0<BT)(_:Q (.int (Jm.draw ns k j BT)) H)
def mY(K:Fg):Sp:=bx (acJ K)
variable {K:Fg}{H:Hp}{a:Addr}{ns:Da Int}
def dm{Q:VK}{E:XK}{k j BT:Int}(hS:aA K H a (ns.map V.int))(h63:ns.length<=63)(h1:0<=k)(h2:0<=j)(h3:j<2 ^ 62)(h4:0<BT)(h:∀d:Int,d=Jm.draw ns k j BT->0<=d->d<BT->Q (.int d) H):mY K [.ref a,.int k,.int j,.int BT] H Q E:=
 ⟨a,ns,k,j,BT,Z,hS,h63,h1,h2,h3,h4,h _ rfl (Jm.Xs ns k j BT h4) (Jm.Xu ns k j BT h4)⟩
def UY:Sp:=λvs H Q _=>∃a b:Int,vs=[.int a,.int b]/\0<=a/\0<=b/\Q (.int (Jm.cf a b)) H
abbrev o6(q:Rat):HO:=.tup [.int q.num,.int (q.den:Int)]
def Dl:Sp:=λvs H Q _=>∃i:Int,vs=[.int i]/\Q (.bl true) H
def IT(K:Fg):Sp:=λvs H Q _=>∃(a:Addr)(ns:Da Int),vs=[.ref a]/\aA K H a (ns.map V.int)/\ns.length<=63/\∀H',Q (.bl true) H'
section
variable {X:Cx}{pos:Pos}
def Ends.too(D:Ends)(J:St->Hp->Prop):Ends:={ D with nx:=J }
def acK(t u:TS)(D:Ends)(σ:St)(J:St->Hp->Prop):Bool->Hp->Prop:=λb H1=>if b=true then t (D.too J) σ H1 else u (D.too J) σ H1
inductive ZO(c:TT)(t u:TS)(D:Ends)(σ:St)(H:Hp):Prop
 |mk(J:St->Hp->Prop)(_:c σ H (acK t u D σ J))(_:∀σ' H',J σ' H'->D.nx σ' H')
end
theorem ud{i j:Int}(h0:0<j)(h:Jm.Sz 9000 j):AG i j:=by refine⟨h0,?_⟩;exact(Nat.log2_lt (by omega)).mpr h
variable {m n:Nat}
def jb{i j:Int}(hi:Jm.Sz m i)(hj:Jm.Sz n j)(h:m+n<=134217728:=by decide):PK i j:=⟨m,n,hi,hj,h⟩
def rL{x:Int}(h:decide (x.natAbs<2 ^ n)=true):Jm.Sz n x:=by unfold Jm.Sz;exact dI h
theorem Xv{k:Int}(h0:0<=k)(h:k<(ns.length:Int)):nZ (ns.map V.int) k=some (.int (ns.getD k.toNat 0)):=by
 have hk:k.toNat<ns.length:=by omega
 have ek:k=((k.toNat:Nat):Int):=by omega
 have q:nZ (ns.map V.int) ((k.toNat:Nat):Int)=some (.int (ns.getD k.toNat 0)):=aX (by rw[bF,ja,aS hk] <;> rfl);rw[<-ek]at q;exact q
variable {elt Bz:Expr}{scope:Scope}{pos:Pos}{env:Env}
section
variable {prog:Program}{w:World}{A:Around}{R:Result->Shared->Prop}{s:Shared}
theorem JG{target:Expr}{it BM:Value}(J:Nat->Shared->Prop)(turn:∀n s,J n s->wpAny (model prog w) A (pyNext it) (λr s₁=>match r with
    | none=>R (.ok .next) s₁
    | some v=>wpAny (model prog w) A (letOwnedTupleGo target it v) (λ_ s₂=>wpAny (model prog w) A (assign target env v) (λ_ s₃=>wpAny (model prog w) A (eval elt env) (λx s₄=>
            wpAny (model prog w) A (call (.builtin "list.append") [BM,x]) (λ_ s₅=>∃m,m<n/\J m s₅) (λ_ _=>False) s₄) (λ_ _=>False) s₃) (λ_ _=>False) s₂) (λ_ _=>False) s₁) (λ_ _=>False) s)(n:Nat)(h:J n s):codeAny (model prog w) A (.compLoop (.ListComp elt [⟨target,Bz,[],0⟩] scope pos) 0 it BM env) R s:=by
 refine codeAny_loop rfl J (λn s hI=>?_) n h
 show wpAny _ A ((compTurn (.ListComp elt [⟨target,Bz,[],0⟩] scope pos) 0 it BM env).onRaise (λx=>do noteFrame x env;theTreesLotGoes x)) _ _ s
 refine wpAny_noted ?_
 rw[compTurn_list1]
 refine aq (Ao (aq (gX (turn n s hI) (λr s₁ h₁=>?_) λ_ _ h'=>h'.elim)))
 cases r with
 | none=>exact aJ h₁
 | some v=>
   refine aq (gX h₁ (λ_ s₂ h₂=>aq (gX h₂ (λ_ s₃ h₃=>?_) λ_ _ h'=>h'.elim)) λ_ _ h'=>h'.elim)
   exact aq (aq (gX h₃ (λx s₄ h₄=>aq (gX h₄ (λ_ s₅ h₅=>aJ (aJ ⟨Z,h₅⟩)) λ_ _ h'=>h'.elim)) λ_ _ h'=>h'.elim))
end
def tN(h:∀y∈scope.names,y.2 =.free->∃c,env.cells.lookup y.1=some c):∃cl,closureFor scope env=pure cl/\(∀y c,(y,c)∈cl->env.cells.lookup y=some c/\(y,NameKind.free)∈scope.names)/\∀y,(y,NameKind.free)∈scope.names->∃c,(y,c)∈cl:=by
 have gen:∀(names:Da (Str×NameKind))(BM:Da (Str×Addr)),(∀y∈names,y.2 =.free->∃c,env.cells.lookup y.1=some c)->
   ∃cl,(forIn names BM λ(x:Str×NameKind)(cs:Da (Str×Addr))=>(if(x.2==NameKind.free)=true then do let a <-cellOf env x.1;pure (ForInStep.yield ((x.1,a)::cs)) else pure (ForInStep.yield cs):Sem _))=pure cl/\
    (∀y c,(y,c)∈cl->(env.cells.lookup y=some c/\(y,NameKind.free)∈names)\/(y,c)∈BM)/\(∀p∈BM,p∈cl)/\∀y,(y,NameKind.free)∈names->∃c,(y,c)∈cl:=by
  intro names
  induction names with
  | nil=>intro BM _;exact⟨BM,by rw[CU],λy c m=> .inr m,λp hp=>hp,λy m=>nomatch m⟩
  | cons x r ih=>
    intro BM hc
    obtain⟨n,k⟩:=x
    by_cases hk:k =.free
    . subst hk
      obtain⟨c,ec⟩:=hc (n,.free) cg rfl
      obtain⟨cl,e,h1,h2,h3⟩:=ih ((n,c)::BM) λy hy=>hc y (b_ _ hy)
      refine⟨cl,?_,λy d m=>?_,λp hp=>h2 p (b_ _ hp),λy m=>?_⟩
      . rw[IF,<-e]
        have acL:cellOf env n=pure c:=by unfold cellOf;rw[ec]
        simp only[xE,oS,acL,pure_bind]
      . rcases h1 y d m with⟨a,b⟩|b
        . exact .inl ⟨a,b_ _ b⟩
        . rcases cJ.mp b with z|z
          . cases z;exact .inl ⟨ec,cg⟩
          . exact .inr z
      . rcases cJ.mp m with z|z
        . cases z;exact⟨c,h2 _ cg⟩
        . exact h3 y z
    . obtain⟨cl,e,h1,h2,h3⟩:=ih BM λy hy=>hc y (b_ _ hy)
      have hb:(k==NameKind.free)=false:=by simpa using hk
      refine⟨cl,?_,λy d m=>?_,h2,λy m=>?_⟩
      . rw[IF,<-e]
        simp only[hb,EM,lu,pure_bind]
      . rcases h1 y d m with⟨a,b⟩|b
        . exact .inl ⟨a,b_ _ b⟩
        . exact .inr b
      . rcases cJ.mp m with z|z
        . cases z;exact absurd rfl hk
        . exact h3 y z
 obtain⟨cl,e,h1,_,h3⟩:=gen scope.names [] h;refine⟨cl,?_,λy c m=>(h1 y c m).elim id (λz=>nomatch z),h3⟩;have e2:closureFor scope env=((forIn scope.names ([] :Da (Str×Addr)) λ(x:Str×NameKind)(cs:Da (Str×Addr))=>(if(x.2==NameKind.free)=true then do let a <-cellOf env x.1;pure (ForInStep.yield ((x.1,a)::cs)) else pure (ForInStep.yield cs):Sem _)) >>= λr=>pure r):=rfl;rw[e2,e];rfl
def lookup_mem{α:Type}{l:Da (Str×α)}{y:Str}{c:α}(h:(y,c)∈l):∃d,l.lookup y=some d:=by
 induction l with
 | nil=>cases h
 | cons p r ih=>
  obtain⟨k,v⟩:=p;rw[k_];cases hb:y==k with
  | true=>exact⟨v,Z⟩
  | false=>
   rcases cJ.mp h with z|z
   .cases z;simp at hb
   .exact ih z
theorem l_:∀(names:Da (Str×NameKind))(n:Nat)(BM:Da (Str×Addr)){x:Str}{c:Addr},(cellsFrom n names BM).lookup x=some c->n<=c\/BM.lookup x=some c
 | [],_,_,_,_,h=> .inr h
 | (name,kind)::r,n,BM,x,c,h=>by
  unfold cellsFrom at h;split at h
  .rcases l_ r (n+1) _ h with z|z
   .exact .inl (by omega)
   .rw [k_]at z;cases hb:x==name with
    | true=>rw[hb]at z;cases z;exact .inl (aN _)
    | false=>rw[hb]at z;exact .inr z
  .exact l_ r n BM h
theorem Hj:∀(names:Da (Str×NameKind))(n n0:Nat)(BM:Da (Str×Addr)){x:Str}{c:Addr},n0<=n->(∀d,BM.lookup x=some d->n0<=d)->(cellsFrom n names BM).lookup x=some c->n0<=c:=by
 intro names n n0 BM x c hn ha h;rcases l_ names n BM h with z|z
 .omega
 .exact ha c z
theorem rS:∀(names:Da (Str×NameKind))(n:Nat)(BM:Da (Str×Addr)){x:Str}{c:Addr},(x,NameKind.cell)∈names->(cellsFrom n names BM).lookup x=some c->n<=c
 | [],_,_,_,_,m,_=>nomatch m
 | (name,kind)::r,n,BM,x,c,m,h=>by
  unfold cellsFrom at h;rcases cJ.mp m with z|z
  .cases z;rw[aC (by rfl)]at h;refine Hj r (n+1) n _ (by omega) (λd hd=>?_) h;rw[k_,xE]at hd;cases hd;exact aN _
  .split at h
   .exact fL (Nat.le_succ _) (rS r (n+1) _ z h)
   .exact rS r n BM z h
theorem mh:∀(names:Da (Str×NameKind))(n:Nat)(BM:Da (Str×Addr)){x:Str},(∃c,BM.lookup x=some c)->∃c,(cellsFrom n names BM).lookup x=some c
 | [],_,_,_,h=>h
 | (name,kind)::r,n,BM,x,h=>by
  unfold cellsFrom;split
  .refine mh r (n+1) _ ?_;rw[k_];cases x==name with
   | true=>exact⟨_,Z⟩
   | false=>exact h
  .exact mh r n BM h
theorem rT:∀(names:Da (Str×NameKind))(n:Nat)(BM:Da (Str×Addr)){x:Str},(x,NameKind.cell)∈names->∃c,(cellsFrom n names BM).lookup x=some c
 | [],_,_,_,m=>nomatch m
 | (name,kind)::r,n,BM,x,m=>by
  unfold cellsFrom;rcases cJ.mp m with z|z
  .cases z;rw[aC (by rfl)];refine mh r (n+1) _ ⟨n,?_⟩;rw[k_,xE]
  .split
   .exact rT r (n+1) _ z
   .exact rT r n BM z
theorem rV:∀(names:Da (Str×NameKind))(n:Nat)(BM:Da (Str×Addr)){x:Str},(x,NameKind.cell)∉names->(cellsFrom n names BM).lookup x=BM.lookup x
 | [],_,_,_,_=>rfl
 | (name,kind)::r,n,BM,x,m=>by
  have m2:(x,NameKind.cell)∉r:=λz=>m (b_ _ z);unfold cellsFrom;split
  .rename_i hk;rw[rV r (n+1) _ m2,k_];cases hb:x==name with
   | true=>
    have e1:=lq.mp hb;have e2:kind=NameKind.cell:=by simpa using hk
    subst e1 e2;exact absurd cg m
   | false=>rfl
  .exact rV r n BM m2
theorem rW:∀(names:Da (Str×NameKind))(n:Nat)(BM:Da (Str×Addr)),(∀x y c,BM.lookup x=some c->BM.lookup y=some c->x=y)->(∀x c,BM.lookup x=some c->c<n)->∀x y c,(cellsFrom n names BM).lookup x=some c->(cellsFrom n names BM).lookup y=some c->x=y
 | [],_,_,h,_=>h
 | (name,kind)::r,n,BM,h,hlt=>by
  intro x y c hx hy;unfold cellsFrom at hx hy;split at hx
  .rename_i hk;rw[aC hk]at hy;refine rW r (n+1) _ (λx y c hx hy=>?_) (λx c hx=>?_) x y c hx hy
   .rw [k_]at hx hy;cases hb:x==name with
    | true=>
     cases hb2:y==name with
     | true=>rw[lq.mp hb,lq.mp hb2]
     | false=>rw[hb]at hx;rw[hb2]at hy;cases hx;exact absurd (hlt _ _ hy) (je _)
    | false=>
     cases hb2:y==name with
     | true=>rw[hb]at hx;rw[hb2]at hy;cases hy;exact absurd (hlt _ _ hx) (je _)
     | false=>rw[hb]at hx;rw[hb2]at hy;exact h x y c hx hy
   .rw [k_]at hx;cases hb:x==name with
    | true=>rw[hb]at hx;cases hx;exact Nat.lt_succ_self _
    | false=>rw[hb]at hx;exact Pf (hlt _ _ hx)
  .rename_i hk;rw[aB hk]at hy;exact rW r n BM h hlt x y c hx hy
theorem vW:∀(names:Da (Str×NameKind))(h:Heap)(BM:Da (Str×Addr)),(∀x c,BM.lookup x=some c->∃v,h.IsCell c v)->∀x c,(cellsFrom h.objs.size names BM).lookup x=some c->∃v,(pushCells h names).IsCell c v
 | [],_,_,ha=>ha
 | (name,kind)::r,h,BM,ha=>by
  intro x c hx;unfold cellsFrom at hx;unfold pushCells;split at hx
  .rename_i hk;rw[aC hk];have q:=vW r (h.push { cls:=.type "cell",data:=.cell none }) ((name,h.objs.size)::BM) (λx c hx=>by
    rw[k_]at hx;cases hb:x==name with
    | true=>rw[hb]at hx;cases hx;exact⟨none,_,dZ _ rfl,Z⟩
    | false=>rw[hb]at hx;obtain⟨v,z⟩:=ha x c hx;exact⟨v,z.keeps λb o e=>bU _ e⟩) x c
   rw[lY]at q;exact q hx
  .rename_i hk;rw[aB hk];exact vW r h BM ha x c hx
def cW(X:Cx)(N2:Da Str)(scope:Scope)(cl:Da (Str×Addr))(s₂:Shared)(H₂:Hp)(fp:Da Addr):Cx where
 prog:=X.prog
 w:=X.w
 K:=X.K
 mg:=X.mg
 base:=X.base
 A:=X.A
 N:=N2
 s₀:=s₂
 H₀:=H₂
 env:={ scope:=relabel scope X.env,locals:=s₂.heap.objs.size,globals:=X.env.globals,cells:=cellsFrom (s₂.heap.objs.size+1) scope.names cl,qual:=X.env.qual,func:=none,code:=X.env.code,frame:=X.env.frame,builtins:=X.env.builtins }
 outer:=X.stack
 stack:=X.stack
 ex:=fp
 fn:=λx=>decide (scope.names.lookup x=some .cell)
 calm:=X.calm
 pn:=[]
 xe:=λ_ _=>False
def mZ(XN:Da Str)(xn sn:Da (Str×NameKind))(N2:Da Str)(ix:Da (Option Nat)):Bool:=(ix.length==N2.length) &&
 ((ix.zip N2).all λp=>match p.1 with
   | none=>true
   | some j=>XN[j]?==some p.2 && sn.lookup p.2==some .free && (xn.lookup p.2==some .cell || xn.lookup p.2==some .free)) &&
 (sn.all λy=>y.2 !=.free || (xn.lookup y.1==some .cell || xn.lookup y.1==some .free)) &&
 (sn.all λy=>y.2 !=.local || sn.lookup y.1==some .local) &&
 (sn.all λy=>y.2 !=.free || sn.all λz=>z.2 !=.cell || z.1 != y.1)
variable {x:Str}
def Bo{k:NameKind}(h:(relabel scope env).names.lookup x=some k)(hk:k =.cell\/k =.free):(x,NameKind.cell)∈scope.names\/(x,NameKind.free)∈scope.names:=by
 have m:=xB h;obtain⟨y,hy,e⟩:=bR.mp m;obtain⟨n,k0⟩:=y;dsimp only at e;split at e
 .rename_i hc;cases e;have h1:k0=NameKind.free:=by have:=(jP.mp (jP.mp hc).1).1;simpa using this
  subst h1;exact .inr hy
 .cases e;rcases hk with rfl|rfl
  .exact .inl hy
  .exact .inr hy
def JH:∀{x:Str},scope.names.lookup x=some .free->(relabel scope env).names.lookup x=some .cell\/(relabel scope env).names.lookup x=some .free:=by
 intro x h;have gen:∀(l:Da (Str×NameKind)),l.lookup x=some .free->(l.map λ(n,k)=>if(k==NameKind.free && env.scope.kind ==.function && env.kindOf n==some .cell) then(n,NameKind.cell) else(n,k)).lookup x=some .cell\/
   (l.map λ(n,k)=>if(k==NameKind.free && env.scope.kind ==.function && env.kindOf n==some .cell) then(n,NameKind.cell) else(n,k)).lookup x=some .free:=by
  intro l
  induction l with
  | nil=>intro h;cases h
  | cons p r ih=>
    intro h
    obtain⟨n,k⟩:=p
    rw[k_]at h
    rw[bJ]
    dsimp only
    cases hb:x==n with
    | true=>
      rw[hb]at h
      cases h
      split
      . rw[k_,hb];exact .inl rfl
      . rw[k_,hb];exact .inr rfl
    | false=>
      rw[hb]at h
      split
      . rw[k_,hb];exact ih h
      . rw[k_,hb];exact ih h
 exact gen scope.names h
variable {X:Cx}{AT:AO}{σ σ2:St}{s:Shared}{N2:Da Str}{cl:Da (Str×Addr)}{fp:Da Addr}
theorem Dm(I:Inv X AT σ H s)(hk:scope.kind =.function)(JI:∀y c,(y,c)∈cl->X.env.cells.lookup y=some c)(EW:∀y,(y,NameKind.free)∈scope.names->∃c,(y,c)∈cl)(hfp:∀b∈fp,oV X AT H b)(hfo:∀b∈fp,b<s.heap.objs.size)(hl:σ2.length=N2.length)(hσ:∀(i:Nat) (x:Str) (v:V),N2[i]?=some x->σ2[i]?=some (some v)->scope.names.lookup x=some .free/\(X.env.kindOf x=some .cell\/X.env.kindOf x=some .free)/\∃j:Nat,X.N[j]?=some x/\σ[j]?=some (some v))(hd:∀x,(x,NameKind.free)∈scope.names->(x,NameKind.cell)∉scope.names):
  Inv (cW X N2 scope cl s H fp) [] σ2 H { s with heap:=pushCells (s.heap.push { cls:=.type "dict",data:=.dict #[] }) scope.names }:=by
 have keeps:∀b o,s.heap.get? b=some o->(pushCells (s.heap.push { cls:=.type "dict",data:=.dict #[] }) scope.names).get? b=some o:=λb o e=>IG _ _ b o (bU _ e)
 have hsz:(s.heap.push { cls:=.type "dict",data:=.dict #[] }).objs.size=s.heap.objs.size+1:=lY ..
 have AH:∀x c,cl.lookup x=some c->X.env.cells.lookup x=some c:=λx c e=>JI x c (xB e)
 have clt:∀x c,cl.lookup x=some c->c<s.heap.objs.size:=λx c e=>by obtain⟨v,z⟩:=I.cell x c (AH x c e);exact z.lt
 have there:=vW scope.names (s.heap.push { cls:=.type "dict",data:=.dict #[] }) cl (λx c e=>by obtain⟨v,z⟩:=I.cell x c (AH x c e);exact⟨v,z.keeps λb o e=>bU _ e⟩)
 rw[hsz]at there
 have cells:∀x c,(cellsFrom (s.heap.objs.size+1) scope.names cl).lookup x=some c->s.heap.objs.size+1<=c\/X.env.cells.lookup x=some c:=λx c e=>by
  rcases l_ _ _ _ e with z|z
  .exact .inl z
  .exact .inr (AH x c z)
 have okY:(cW X N2 scope cl s H fp).Ok:=by
  refine⟨I.ok.mod,hk,I.ok.glob,I.ok.blt,aN _,?_,?_,?_,I.ok.hd,I.ok.frames,.inl rfl,?_,I.bs,fL I.ok.CZ I.sz,?_,?_,I.stack,I.wI⟩
  .exact rW _ _ _ (λx y c hx hy=>I.ok.inj x y c (AH x c hx) (AH y c hy)) λx c e=>Pf (clt x c e)
  .intro x hx;have m:(x,NameKind.cell)∈scope.names\/(x,NameKind.free)∈scope.names:=by
    rcases hx with z|z
    .exact Bo z (.inl rfl)
    .exact Bo z (.inr rfl)
   rcases m with m|m
   .exact rT _ _ _ m
   .obtain ⟨c,mc⟩:=EW x m;exact mh _ _ _ (lookup_mem mc)
  .intro x c hf e;have hf':scope.names.lookup x=some .cell:=dI hf;exact fL (Nat.le_succ _) (rS _ _ _ (xB hf') e)
  .intro b hb;refine⟨dW (hfo b hb),λx c e z=>?_⟩;have hlt:=hfo b hb;rcases cells x c e with k|k
   .exact absurd (kU hlt (fL (Nat.le_succ _) (z▸k))) (je _)
   .exact (hfp b hb).2.2.2.2.1 x c k z
  .intro b o e hb;rcases(hfp b hb).2.2.2.1 with z|z
   .exact I.ok.ER b o e z
   .exact absurd (kU (bK (I.ok.bs b o e).1) z) (je _)
  .intro b hb hbs;rcases cJ.mp (I.Jp b hbs)with z|z
   .exact (hfp b hb).2.1 z
   .exact (hfp b hb).2.2.1 z
 refine⟨okY,Z,I.bare,Un.kept keeps,?_,there,I.hok.fresh (aN _),?_,(λp hp=>nomatch hp),I.hok.kept keeps,hl⟩
 . refine⟨λ_=>none,(Heap.Ns.new s.heap (.type "dict")).keeps (IG _ _),λi x v e1 e2 _=>?_⟩
   obtain⟨hf,hx,j,j1,j2⟩:=hσ i x v e1 e2
   obtain⟨m,_,hloc⟩:=I.loc
   have hv:Rh X.env.scope x:=hx.elim (λz=> .inr (.inl z)) λz=> .inr (.inr z)
   obtain⟨u,r,lk⟩:=hloc j x v j1 j2 hv
   refine⟨u,r,.inr ⟨JH hf,?_⟩⟩
   rcases lk with⟨k,_⟩|⟨_,c,ec,ic⟩
   . rcases hx with z|z <;> rw[z]at k <;> cases k
   . refine⟨c,?_,ic.keeps keeps⟩
     have mf:=xB hf
     show(cellsFrom (s.heap.objs.size+1) scope.names cl).lookup x=some c
     rw[rV _ _ _ (hd x mf)]
     obtain⟨c',mc⟩:=EW x mf
     obtain⟨d,ed⟩:=lookup_mem mc
     rw[ed]
     have:=AH x d ed
     rw[ec]at this
     exact this.symm
 . intro x c e
   rcases cells x c e with k|k
   . exact I.hok.fresh (by omega)
   . exact I.jI x c k
variable {tg:Expr}{g:TG}{te:TE}{E:VS}
section
variable {X:Cx}
def AI(J:It)(g:TG)(te:TE)(BM:Addr)(σ₀:St)(H:Hp)(Q:VK):Prop:=∃W:Nat->Nat->St->Hp->Prop,(∃m,W 0 m σ₀ (upd H BM (.lst [])))/\∀i m σ2 H2,W i m σ2 H2->(J.stop i H2/\Q (.ref BM) H2)\/(J.go i H2/\∃(S:St->Prop)(N:V->Hp->Prop),(∀σ3 v H4,S σ3->N v H4->∃xs,H4 BM=some (.lst xs)/\xs.length<sizeLine/\∃m',m'<m/\W (i+1) m' σ3 (upd H4 BM (.lst (xs++[v]))))/\∀x H',J.C3 i H2 x H'->g x σ2 H' λσ3 H3=>S σ3/\te σ3 H3 N)
inductive ue(Pv:Nat->Da V->Hp->Prop)(i:Nat)(BM:Addr)(out:Da V)(v:V)(H4:Hp):Prop
 |mk(_:H4 BM=some (.lst out))(_:Pv (i+1) (out++[v]) (upd H4 BM (.lst (out++[v]))))
def Wc(te:TE)(σ:St)(Pv:Nat->Da V->Hp->Prop)(i:Nat)(BM:Addr)(out:Da V):Bool->Hp->Prop:=λb H2=>if b=true then te σ H2 (ue Pv i BM out) else H2 BM=some (.lst out)/\Pv (i+1) out H2
def pick(ix:Da (Option Nat))(σ:St):St:=ix.map λo=>o.bind λj=>(σ[j]?).join
def ZP(ix:Da (Option Nat))(g:TG)(te:TE)(σ:St)(Q:VK):It->Hp->Prop:=λJ H1=>∀BM,H1 BM=none->AI J g te BM (pick ix σ) H1 Q
def Wd(wi:TI)(ix:Da (Option Nat))(g:TG)(te:TE):TE:=λσ H Q=>wi σ H (ZP ix g te σ Q)
def mj{XN:Da Str}{xn sn:Da (Str×NameKind)}{ix:Da (Option Nat)}(h:mZ XN xn sn N2 ix=true):ix.length=N2.length/\(∀(i:Nat)(x:Str)(j:Nat),N2[i]?=some x->ix[i]?=some (some j)->XN[j]?=some x/\sn.lookup x=some .free/\(xn.lookup x=some .cell\/xn.lookup x=some .free))/\(∀y∈sn,y.2 =.free->xn.lookup y.1=some .cell\/xn.lookup y.1=some .free)/\(∀y∈sn,y.2 =.local->sn.lookup y.1=some .local)/\∀x,(x,NameKind.free)∈sn->(x,NameKind.cell)∉sn:=by
 unfold mZ at h;obtain⟨h,h5⟩:=jP.mp h;obtain⟨h,h4⟩:=jP.mp h;obtain⟨h,h3⟩:=jP.mp h;obtain⟨h1,h2⟩:=jP.mp h;have e1:ix.length=N2.length:=by simpa using h1
 refine⟨e1,λi x j a b=>?_,λy hy e=>?_,λy hy e=>?_,λx m1 m2=>?_⟩
 .have m:(some j,x)∈ix.zip N2:=by refine bP (i:=i) ?_;rw[List.getElem?_zip_eq_some];exact⟨b,a⟩
  have q:=qP.mp h2 _ m;dsimp only at q;obtain⟨q,q3⟩:=jP.mp q;obtain⟨q1,q2⟩:=jP.mp q;exact⟨by simpa using q1,by simpa using q2,(EI.mp q3).imp (λz=>by simpa using z) λz=>by simpa using z⟩
 .have q:=qP.mp h3 y hy;rcases EI.mp q with z|z
  .rw [e]at z;simp at z
  .exact (EI.mp z).imp (λz=>by simpa using z) λz=>by simpa using z
 .have q:=qP.mp h4 y hy;rcases EI.mp q with z|z
  .rw [e]at z;simp at z
  .simpa using z
 .have q:=qP.mp h5 _ m1;rcases EI.mp q with z|z
  .simp at z
  .have q2:=qP.mp z _ m2;simp at q2
theorem Dp{ix:Da (Option Nat)}{Q:VK}{RR:Value->Addr->Result->Shared->Prop}(hc:X.calm=true)(hg:∀cl s₂ H₂ fp,PG (cW X N2 scope cl s₂ H₂ fp) tg g)(he:∀cl s₂ H₂ fp,PE (cW X N2 scope cl s₂ H₂ fp) elt te)(hk:scope.kind =.function)(hn:mZ X.N X.env.scope.names scope.names N2 ix=true)(JI:∀y c,(y,c)∈cl->X.env.cells.lookup y=some c)(EW:∀y,(y,NameKind.free)∈scope.names->∃c,(y,c)∈cl){it:Addr}{fp:Da Addr}{tn:Nat->Heap->Prop}{J:It}(I:Inv X AT σ H s)(T:Turn X.prog X.w X.K tg J fp it tn)(st:tn 0 s.heap)(f:∀b∈fp,oV X AT H b)(h:∀BM,H BM=none->AI J g te BM (ix.map λo=>o.bind λj=>(σ[j]?).join) H Q)(hR:∀BM C H' s' m,Inv X AT σ H' s'->s'.heap.Ns C m->H' C=none->C≠X.env.locals->X.s₀.heap.objs.size<=C->(∀x c,X.env.cells.lookup x=some c->c≠C)->(∀p∈X.pn++AT,p.1≠C)->Q (.ref BM) H'->RR (.ref BM) C (.ok .next) s'):
  wpAny (model X.prog X.w) X.A (newList []) (λBM s₃=>wpAny (model X.prog X.w) X.A (newFunctionEnv scope X.env.globals cl [] X.env.qual none .none (some X.env)) (λcenv s₄=>
   codeAny (model X.prog X.w) X.A (.compStart (.ListComp elt [⟨tg,Bz,[],0⟩] scope pos) 0 (.ref it) BM { cenv with scope:=relabel scope X.env }) (RR BM cenv.locals) s₄) E s₃) E s:=by
 obtain⟨k1,k2,k3,k4,k5⟩:=mj hn
 refine qj ?_
 have I3:Inv X AT σ (upd H s.heap.objs.size (.lst [])) { s with heap:=s.heap.push { cls:=.type "list",data:=.seq ([] :Da Value).toArray } }:=
  I.laid (a:=s.heap.objs.size) (o:=.lst []) (t':=s.toks) (λ_ _ q=>bU _ q) (aN _) ⟨eV _,[],_,.nil,dZ _ rfl⟩
 obtain⟨W,⟨m0,w0⟩,turn⟩:=h s.heap.objs.size I.fresh
 have fo:∀b∈fp,b<s.heap.objs.size:=λb hb=>by obtain⟨o,e,_⟩:=T.obj 0 _ st b hb;exact bK e
 have st3:tn 0 (s.heap.push { cls:=.type "list",data:=.seq ([] :Da Value).toArray }):=T.keep _ _ _ st λb _ o e=>bU _ e
 have f3:∀b∈fp,oV X AT (upd H s.heap.objs.size (.lst [])) b:=λb hb=>⟨by rw[av (dW (fo b hb))];exact(f b hb).1,(f b hb).2⟩
 have RQ:∀b∈fp,b<(s.heap.push { cls:=.type "list",data:=.seq ([] :Da Value).toArray }).objs.size:=λb hb=>by rw[lY];exact Pf (fo b hb)
 generalize ZQ:({ s with heap:=s.heap.push { cls:=.type "list",data:=.seq ([] :Da Value).toArray } }:Shared)=s3 at *
 have ZR:s3.heap=s.heap.push { cls:=.type "list",data:=.seq ([] :Da Value).toArray }:=by rw[<-ZQ]
 rw[<-ZR]at st3 RQ
 generalize s.heap.objs.size=BM at *
 generalize eH3:upd H BM (.lst [])=H3 at *
 have IY:=Dm (N2:=N2) (scope:=scope) (cl:=cl) (fp:=fp) (σ2:=ix.map λo=>o.bind λj=>(σ[j]?).join) I3 hk JI EW f3 RQ (by rw[aF];exact k1) (λi x v e1 e2=>by
  rw[bF]at e2;cases ei:ix[i]? with
  | none=>rw[ei]at e2;cases e2
  | some o=>
   rw[ei]at e2;cases o with
   | none=>cases e2
   | some j=>
    obtain⟨a1,a2,a3⟩:=k2 i x j e1 ei;refine⟨a2,a3,j,a1,?_⟩;have e3:(σ[j]?).join=some v:=ie e2;cases ej:σ[j]? with
    | none=>rw[ej]at e3;cases e3
    | some z=>rw[ej]at e3;exact gF some e3) k5
 have ne:wpAny (model X.prog X.w) X.A (newFunctionEnv scope X.env.globals cl [] X.env.qual none .none (some X.env)) (λcenv s₄=>
   cenv={ scope:=scope,locals:=s3.heap.objs.size,globals:=X.env.globals,cells:=cellsFrom (s3.heap.objs.size+1) scope.names cl,qual:=X.env.qual,func:=none,code:=X.env.code,frame:=X.env.frame,builtins:=X.env.builtins }/\
   s₄={ s3 with heap:=pushCells (s3.heap.push { cls:=.type "dict",data:=.dict #[] }) scope.names }) E s3:=by
  simp only[newFunctionEnv,Option.isSome_some,oS]
  refine aq (wpAny_alloc ?_)
  refine aq (wpAny_layCells _ (λname kind cells=>by cases hkc:kind==NameKind.cell <;> simp[hkc]) _ _ _ _ ?_)
  rw[CU]
  refine aq (aJ (aJ ⟨?_,Z⟩))
  rw[show({ s3 with heap:=s3.heap.push { cls:=.type "dict",data:=.dict #[] } }:Shared).heap.objs.size=s3.heap.objs.size+1 from lY ..]
 refine bg ne λcenv s4 ⟨e1,e2⟩=>?_
 subst e1 e2
 have RS:tn 0 (pushCells (s3.heap.push { cls:=.type "dict",data:=.dict #[] }) scope.names):=T.keep _ _ _ st3 λb _ o e=>IG _ _ b o (bU _ e)
 have zf:s3.heap.objs.size≠X.env.locals:=xK I3.lt
 have uf:∀{H':Hp},(∀b∈fp,H' b=none)->∀b∈fp,oV (cW X N2 scope cl s3 H3 fp) [] H' b:=λ{H'} hn b hb=>
  ⟨hn b hb,(IY.ok.Jo b hb).1,IY.ok.BW b hb,.inl hb,(IY.ok.Jo b hb).2,λp hp=>nomatch hp⟩
 have loop:codeAny (model X.prog X.w) X.A (.compLoop (.ListComp elt [⟨tg,Bz,[],0⟩] scope pos) 0 (.ref it) (.ref BM) (cW X N2 scope cl s3 H3 fp).env) (RR (.ref BM) s3.heap.objs.size)
   { s3 with heap:=pushCells (s3.heap.push { cls:=.type "dict",data:=.dict #[] }) scope.names }:=by
  refine JG (λn s'=>∃i σ' H',Inv (cW X N2 scope cl s3 H3 fp) [] σ' H' s'/\tn i s'.heap/\(∀b∈fp,H' b=none)/\W i n σ' H') ?_ m0 ⟨0,_,H3,IY,RS,λb hb=>(f3 b hb).1,w0⟩
  rintro n s5 ⟨i,σ5,H5,I5,zg,JJ,w5⟩
  rcases turn i n σ5 H5 w5 with⟨stop,qn⟩|⟨go,S,N,ZS,step⟩
  . refine bg (T.done (cW X N2 scope cl s3 H3 fp) rfl rfl rfl hc i [] s5 σ5 H5 (λ_ _=>False) I5 (uf JJ) zg stop) λr s6 ⟨hr,I6⟩=>?_
    subst hr
    obtain⟨m6,ZT,_⟩:=id I6.loc
    have IX:Inv X AT σ H5 s6:=I3.IK (ch:=fp) I6.os I6.base I6.hok I6.bare λb hb=>⟨(f3 b hb).2.2.2.1,(f3 b hb).2.1,(f3 b hb).2.2.2.2.1,(f3 b hb).2.2.2.2.2⟩
    refine hR BM s3.heap.objs.size H5 s6 m6 IX ZT I6.free zf I3.sz (λx c e z=>?_) (λp hp z=>?_) qn
    . obtain⟨v,q⟩:=I3.cell x c e
      exact absurd q.lt (by rw[z];exact je _)
    . exact absurd (bK (I3.pin p hp).1) (by rw[z];exact je _)
  . refine bg (T.item (cW X N2 scope cl s3 H3 fp) rfl rfl rfl hc i [] s5 σ5 H5 (λ_ _=>False) I5 (uf JJ) zg go) λr s6 ⟨u,hr,h6⟩=>?_
    subst hr
    refine bg h6 λ_ s7 ⟨x,H7,I7,r7,y7,Dq,RT⟩=>?_
    have ZU:=I7.pinned (uf RT) (T.obj _ _ Dq)
    refine bg (hg cl s3 H3 fp _ s7 σ5 H7 x u _ ZU r7 (step x H7 y7)) λ_ s8 ⟨σ8,H8,I8,We,q8⟩=>?_
    refine bg (he cl s3 H3 fp _ s8 σ8 H8 _ I8 q8) λy s9 ⟨v,H9,I9,r9,q9⟩=>?_
    obtain⟨xs,hxs,ZV,m',hm,w9⟩:=ZS σ8 v H9 We q9
    refine bg (f_ _ s9 σ8 H9 (.ref BM) [v] (.ref BM) [y] (λz Dr=>z =.cD/\Dr=upd H9 BM (.lst (xs++[v]))) I9 rfl (.cons r9 .nil) ⟨BM,xs,v,Z,Z,hxs,ZV,Z,Z⟩) λz s10 ⟨zv,Dr,JK,r10,ez,eH⟩=>?_
    subst eH
    refine⟨m',hm,i+1,σ8,_,JK.qp,T.keep _ _ _ Dq λb hb o e=>(JK.pin (b,o) (jA _ (jA _ (jf hb e)))).1,λb hb=>?_,w9⟩
    obtain⟨o,e,d⟩:=T.obj _ _ Dq b hb
    exact(JK.pin (b,o) (jA _ (jA _ (jf hb e)))).2.1
 exact codeAny_compStart_list loop (T.self _ 0 _ _ _ RS loop)
end
variable {BM:Addr}
theorem PL{lo:Int}{k:Nat}{Q:VK}(Pv:Nat->Da V->Hp->Prop)(hn:n<=100000)(h0:Pv 0 [] (upd H BM (.lst [])))(hs:∀(i:Nat) (out:Da V) (H1:Hp),i<n->out.length=i->H1 BM=some (.lst out)->Pv i out H1->te (σ2.set k (some (.int (lo+i)))) H1 (ue Pv i BM out))(hd:∀(out:Da V) (H1:Hp),out.length=n->H1 BM=some (.lst out)->Pv n out H1->Q (.ref BM) H1):
  AI (Gj lo n) (gj k) te BM σ2 H Q:=by
 refine⟨λi m σ' H'=>m=n-i/\i<=n/\(∀v,σ'.set k (some v)=σ2.set k (some v))/\∃out,out.length=i/\H' BM=some (.lst out)/\Pv i out H',⟨n,by simp,eV _,λ_=>rfl,[],Z,ah,h0⟩,?_⟩
 rintro i m σ' H' ⟨rfl,hi,hσ,out,ho,ha,p⟩
 by_cases hlt:i<n
 . refine .inr ⟨hlt,λσ3=>∀v,σ3.set k (some v)=σ2.set k (some v),(ue Pv i BM out),λσ3 v H4 hS ⟨a,b⟩=>?_,λx H1 y=>?_⟩
   . refine⟨out,a,?_,n-(i+1),by omega,Z,hlt,hS,out++[v],by rw[cV,ho];rfl,ah,b⟩
     have:sizeLine=16777216:=eW
     omega
   . obtain⟨e,y⟩:=y
     subst e y
     refine⟨λv=>by rw[vt];exact hσ v,?_⟩
     have q:=hs i out _ hlt ho ha p
     rw[<-hσ]at q
     exact q
 . have e:i=n:=by omega
   subst e
   exact .inl ⟨aN _,hd out H' ho ha p⟩
variable {H':Hp}
def aG.bM{p:Addr}(e:aG H H')(h:H p=none)(o:HO):aG H (upd H' p o):=λb u q=>by rw[av (aH q h)];exact e b u q
def Bp(n d:Int):SeqAt.shaped (.tuple [.int n,.int d])=true:=rfl
def UZ(n d:Int):PyData.eqv (.tuple [.int n,.int d]) (.tuple [.int n,.int d])=true:=by simp[PyData.eqv,PyData.eqvAll]
variable {q:Rat}
def RU{p:Addr}(h:H p=some (o6 q)):Dt K H (.ref p) (.tuple [.int q.num,.int (q.den:Int)]):=.tup (cz.of h) (.cons (.int _) (.cons (.int _) .nil))
inductive ZW(vs:Da V)(H:Hp)(Q:VK)(E:XK):Prop
 |mk(t b:Int)(_:vs=[.int t,.int b])(_:0<b)(_:Jm.Sz 9000 b)(_:∀(r:Addr) (H':Hp),aG H H'->H' r=some (o6 (Jm.fr t b))->Q (.ref r) H')
def AJ:Sp:=bx (ZW)
def Gx{Q:VK}{E:XK}{t b:Int}(h0:0<b)(h1:Jm.Sz 9000 b)(h:∀(r:Addr) (H':Hp),aG H H'->H' r=some (o6 (Jm.fr t b))->Q (.ref r) H'):AJ [.int t,.int b] H Q E:=⟨t,b,Z,h0,h1,h⟩
inductive xIs(vs:Da V)(H:Hp)(Q:VK)(E:XK):Prop
 |mk(p:Addr)(q:Rat)(t b:Int)(_:vs=[.ref p,.int t,.int b])(_:H p=some (o6 q))(_:0<b)(_:Jm.Sz 9000 b)(_:q=Jm.fr t b)(_:∀H',aG H H'->Q (.bl true) H')
def U0:Sp:=bx (xIs)
def ZX{Q:VK}{E:XK}{p:Addr}{t b:Int}(hp:H p=some (o6 q))(h0:0<b)(h1:Jm.Sz 9000 b)(e:q=Jm.fr t b)(h:∀H',aG H H'->Q (.bl true) H'):U0 [.ref p,.int t,.int b] H Q E:=⟨p,q,t,b,Z,hp,h0,h1,e,h⟩
section
variable {X:Cx}
theorem U1(hc:X.calm=true):gG X (.builtin "sum") (λxs H Q=>∃(a:Addr)(ns:Da Int),xs=[.ref a]/\aA X.K H a (ns.map V.int)/\Q (.int ns.sum) H):=by
 intro AT s σ H xs us Q I r h;obtain⟨a,ns,rfl,hS,q⟩:=h;obtain⟨u,rfl,ru⟩:=vals1 r;cases ru;obtain⟨Bi,rv,p,hz⟩:=I.list hS;have hi:=intsAre_of rv;have hl:=p.isList;obtain⟨o,ho,_⟩:=id hl;have hne:a≠s.heap.objs.size:=dW (bK ho);have W:=(Walks.list (prog:=X.prog) (w:=X.w) (A:=X.A.in1) (I.ok.hd hc) s.heap.objs.size a hne Bi.toArray).toS;have Ds:Bi.length=ns.length:=by rw[<-rv.length,aF]
 refine call_sum_walkAnyS (Pb hl ?_);refine⟨s.heap.objs.size,_,_,_,_,_,_,λi=>ns.getD i 0,Z,W,⟨⟨_,dZ _ rfl,Z,Z⟩,hl.at λo e=>bU _ e⟩,λb hb=>?_,λi v hP=>?_,λs' t' hm=>?_⟩
 .rcases cJ.mp hb with rfl|hb
  .exact bK (dZ _ rfl)
  .obtain rfl:=eL.mp hb;exact bK (bU _ ho)
 .have RV:Bi[i]?=some v:=by simpa using hP
  have hil:i<ns.length:=by have:=(d8.mp RV).1;omega
  obtain⟨u,hu,ru⟩:=rv.get (i:=i) (x:=V.int ns[i]) (by rw[bF,aS hil];rfl);rw[RV]at hu;cases hu;obtain⟨t,e⟩:=ru;refine⟨t,?_⟩;rw[e];show Value.int ns[i] t=Value.int (ns.getD i 0) t;rw[ja,aS hil];rfl
 .obtain ⟨h',g',d',tk',os'⟩:=s';have e1:g'=s.gens:=hm.gens;have e2:d'=s.drawn:=hm.drawn;have e3:os'=s.os:=hm.os;subst e1 e2 e3;have hsz:Bi.toArray.size=ns.length:=by rw[gY,Ds]
  rw[hsz,preSum_getD,yQ (aN _)];exact⟨.int ns.sum,H,I.kept (h':=h') (t':=tk') λb o e=>hm.heap b o (λhb=>absurd (bK e) ((eL.mp hb)▸je _)) (bU _ e),⟨t',Z⟩,q⟩
theorem U3(hc:X.calm=true):gG X (.builtin "all") (λxs H Q=>∃(a:Addr)(bs:Da Bool),xs=[.ref a]/\aA X.K H a (bs.map V.bl)/\Q (.bl (bs.all id)) H):=by
 intro AT s σ H xs us Q I r h;obtain⟨a,bs,rfl,hS,q⟩:=h;obtain⟨u,rfl,ru⟩:=vals1 r;cases ru;obtain⟨Bi,rv,p,hz⟩:=I.list hS;have hl:=p.isList;obtain⟨o,ho,_⟩:=id hl;have hne:a≠s.heap.objs.size:=dW (bK ho);have Ds:Bi.length=bs.length:=by rw[<-rv.length,aF]
 refine call_all_walk (Pb hl ?_);refine⟨s.heap.objs.size,_,_,_,_,_,λi=>bs.getD i false,Z,Walks.list (prog:=X.prog) (w:=X.w) (A:=X.A.in1) (I.ok.hd hc) s.heap.objs.size a hne Bi.toArray,⟨⟨_,dZ _ rfl,Z,Z⟩,hl.at λo e=>bU _ e⟩,λi v s' Q' E' hP hQ=>?_,λh' tk hk=>?_⟩
 .have RV:Bi[i]?=some v:=by simpa using hP
  have hil:i<bs.length:=by have:=(d8.mp RV).1;omega
  obtain⟨u,hu,ru⟩:=rv.get (i:=i) (x:=V.bl bs[i]) (by rw[bF,aS hil];rfl);rw[RV]at hu;cases hu;have e:v=Value.bool bs[i] :=ru;subst e;refine yT ?_;have hQ2:Q' (bs.getD i false) s':=hQ;rw[ja,aS hil]at hQ2;exact hQ2
 .have hsz:Bi.toArray.size=bs.length:=by rw[gY,Ds]
  have e:(List.range Bi.toArray.size).all (λi=>bs.getD i false)=bs.all id:=by
   rw[hsz,tF,qP,qP];refine⟨λz x hx=>?_,λz i hi=>?_⟩
   .obtain ⟨i,hi,e⟩:=List.mem_iff_getElem.mp hx;have:=z i (xH.mpr hi);rw[ja,aS hi]at this;rw[<-e];exact this
   .have hi':=xH.mp hi;rw[ja,aS hi'];exact z _ (vo hi')
  rw[e];exact⟨.bl (bs.all id),H,I.kept (h':=h') (t':=tk) λb o e=>hk b o (λhb=>absurd (bK e) ((eL.mp hb)▸je _)) (bU _ e),Z,q⟩
end
section
variable {X:Cx}(K:Fg)
def bY(hK:X.K=K:=by rfl):yy X (UJ K):=hK▸RC
def aO(hK:X.K=K:=by rfl):yy X (PB K):=hK▸NP
def Xw(hu:X.A.units+64<cLine)(hK:X.K=K:=by rfl):ir X (compareOp .Eq) (ZK K):=hK▸ZL hu
def wR(hu:X.A.units+64<cLine)(hK:X.K=K:=by rfl):ir X (compareOp .NotEq) (EU K):=hK▸ZM hu
def jh(hc:X.calm=true)(hK:X.K=K:=by rfl):gG X (.builtin "sum") (λxs H Q=>∃(a:Addr)(ns:Da Int),xs=[.ref a]/\aA K H a (ns.map V.int)/\Q (.int ns.sum) H):=hK▸U1 hc
def RW(hc:X.calm=true)(hK:X.K=K:=by rfl):gG X (.builtin "all") (λxs H Q=>∃(a:Addr)(bs:Da Bool),xs=[.ref a]/\aA K H a (bs.map V.bl)/\Q (.bl (bs.all id)) H):=hK▸U3 hc
def bB(hK:X.K=K:=by rfl):gG X (.builtin "len") (λxs H Q=>∃p ys,xs=[.ref p]/\(aA K H p ys\/cz K H p ys)/\Q (.int ys.length) H):=hK▸Jw
def rX(hK:X.K=K:=by rfl):gG X (.type "list") (λxs H Q=>∃p ys,xs=[.ref p]/\(aA K H p ys\/cz K H p ys)/\∀l,H l=none->Q (.ref l) (upd H l (.lst ys))):=hK▸Jy
def cX(hK:X.K=K:=by rfl):gG X (.builtin "isinstance") (λxs H Q=>∃x n t b,xs=[x,.ty n]/\fX K H x t/\PySem.W.kitOne K t (.type n)=some b/\Q (.bl b) H):=hK▸Mq
end
theorem Mr{l1 l2:Nat}(h1:l1<n)(h2:l2<n):ZipApart (n+4) (n+2) (n+3) n (n+1) l1 l2:=by
 have nn:∀i j:Nat,i≠j->n+i≠n+j:=λi j h e=>h (Nat.add_left_cancel e);have ne:∀(c k:Nat),c<n->c≠n+k:=λc k h=>by omega
 exact⟨nn 2 4 (by decide),nn 3 4 (by decide),nn 0 4 (by decide),nn 1 4 (by decide),nn 2 3 (by decide),nn 2 0 (by decide),nn 2 1 (by decide),nn 3 0 (by decide),nn 3 1 (by decide),nn 0 1 (by decide),ne _ 4 h1,ne _ 3 h1,ne _ 0 h1,ne _ 1 h1,ne _ 4 h2,ne _ 3 h2,ne _ 0 h2,ne _ 1 h2⟩
section
variable {X:Cx}{DD:Da Expr}{kk:Nat}{tpos:Pos}
end
inductive acM(K:Fg)(vs:Da V)(H:Hp)(Q:VK)(E:XK):Prop
 |mk(a:Addr)(ns:Da Int)(k j:Int)(_:vs=[.ref a,.int k,.int j])(_:aA K H a (ns.map V.int))(_:ns.length<=63)(_:0<=k)(_:0<=j)(_:j<2 ^ 61)(_:∀(m:Int) (H':Hp),1<=m->m<=1000000000->aG H H'->Q (.int m) H')
def JL(K:Fg):Sp:=bx (acM K)
def U4{Q:VK}{E:XK}{k j:Int}(hS:aA K H a (ns.map V.int))(h63:ns.length<=63)(h1:0<=k)(h2:0<=j)(h3:j<2 ^ 61)(h:∀(m:Int) (H':Hp),1<=m->m<=1000000000->aG H H'->Q (.int m) H'):JL K [.ref a,.int k,.int j] H Q E:=⟨a,ns,k,j,Z,hS,h63,h1,h2,h3,h⟩
variable {xs:Da V}{i:Nat}
def iu{v:V}(h:xs[i]?=some v):nZ xs (i:Int)=some v:=aX h
section
variable {X:Cx}
inductive acN(Q:VK)(vs:Da V)(H1:Hp):Prop
 |mk(j:Int)(_:vs=[.int j])(_:∀p,H1 p=none->Q (.ref p) (upd H1 p (.vv 0 j)))
def af2(ta:TA):TE:=λσ H Q=>ta σ H (acN Q)
def upTo(n:Nat):Da Int:=(List.range n).map λi=>((i:Nat):Int)
theorem Hl(hc:X.calm=true):gG X (.type "list") (λxs H Q=>∃(r:Addr)(n:Nat),xs=[.ref r]/\H r=some (.vv 0 (n:Int))/\n<=1000/\∀l,H l=none->Q (.ref l) (upd H l (.lst ((upTo n).map V.int)))):=by
 intro AT s σ H xs us Q I r h;obtain⟨a,n,rfl,hr,hn,q⟩:=h;obtain⟨u,rfl,ru⟩:=vals1 r;cases ru;obtain⟨t,t2,t3,e⟩:=(show dM X.prog X.w H s.heap a (.vv 0 (n:Int))from I.hok a _ hr)
 refine call_list_range (n:=n) (I.ok.hd hc) e (small_one (by decide) (by decide) (by omega) (by omega)) (by rw[rangeSize_one];split <;> omega) (by omega) λh' tk acc' c' hk hS hI=>?_;obtain⟨hsz,hit⟩:=hI;have hv:Vals ((upTo n).map V.int) acc'.toList:=by
  have gen:∀(m:Nat)(us:Da Value)(k:Nat),us.length=m->(∀(j:Nat)(v:Value),us[j]?=some v->∃t,v =.int ((0:Int)+((k+j:Nat):Int)*1) t)->Vals (((List.range' k m).map λi=>((i:Nat):Int)).map V.int) us:=by
   intro m
   induction m with
   | zero=>intro us k hl _;rw[List.length_eq_zero_iff.mp hl];exact .nil
   | succ m ih=>
    intro us k hl hu;cases us with
    | nil=>cases hl
    | cons v r=>
     obtain⟨t,e⟩:=hu 0 v rfl;refine .cons ⟨t,?_⟩ (ih r (k+1) (by simpa using hl) λj v' hj=>?_)
     .rw [e];show Value.int _ t=Value.int ((k:Nat):Int) t;congr 1;omega
     .obtain ⟨t,e⟩:=hu (j+1) v' (by simpa using hj);exact⟨t,by rw[e];congr 1;omega⟩
  have:=gen n acc'.toList 0 (by simpa using hsz) λj v hj=>by obtain⟨t,e⟩:=hit j v (by simpa using hj);exact⟨t,by rw[e];congr 1;omega⟩
  unfold upTo;rw[List.range_eq_range'];exact this
 have hlen:((upTo n).map V.int).length<=sizeLine:=by unfold upTo;simp;exact small (by omega)
 exact⟨.ref s.heap.objs.size,_,I.laid (a:=s.heap.objs.size) (o:=.lst ((upTo n).map V.int)) (h':=h') (t':=tk) hk (aN _) ⟨hlen,acc'.toList,c',hv,by simpa using hS⟩,Z,q _ I.fresh⟩
inductive Xx(K:Fg)(Q:VK)(x:V)(y:V)(H2:Hp):Prop
 |mk(_:y =.int (-1))(a xs:_)(_:x =.ref a)(_:aA K H2 a xs)(_:∀p,H2 p=none->Q (.ref p) (upd H2 p (.lst xs.reverse)))
def acO(K:Fg)(ts:TE)(σ:St)(Q:VK):V->Hp->Prop:=λx H1=>ts σ H1 (Xx K Q x)
def af3(K:Fg)(te ts:TE):TE:=λσ H Q=>te σ H (acO K ts σ Q)
end
theorem AK{k:Nat}(h:k<n):Bl n (k:Int)=some k:=by unfold Bl;rw[aC (by omega),aC (by omega)];rfl
abbrev tx(cs:Da Nat):Str:=⟨cs.toArray⟩
def JM(x:Str):tx x.cps.toList=x:=by cases x;rfl
def j_(cs:Da Nat):(tx cs).length=cs.length:=by show cs.toArray.size=_;rw[gY]
def RX(a b:Da Nat):(tx a++tx b:Str)=tx (a++b):=by show(⟨a.toArray++b.toArray⟩:Str)=_;simp[tx]
def Wg(cs:Da Nat):It:=⟨λi _=>i<cs.length,λi H v H'=>H'=H/\∃c,cs[i]?=some c/\v =.str (tx [c]),λi _=>cs.length<=i⟩
theorem PM{P:Program}{w:World}{K:Fg}{tg:Expr}(x:Str)(t:Tok)(it:Addr):Turn P w K tg (Wg x.cps.toList) [it] it (λi h=>h.IsStrIter it "str_ascii_iterator" x t i) where
 mem:=by simp
 obj:=λi h st b hb=>by
  have e:b=it:=by simpa using hb
  subst e;obtain⟨o,e,c,d⟩:=st;exact⟨o,e,λv z=>by rw[d]at z;cases z⟩
 keep:=λi h h' st k=>let⟨o,ho,r⟩:=st;⟨o,k it (by simp) o ho,r⟩
 item:=by
  intro X hP hw hK hc i AT s σ H E I hf st hg;subst hP hw hK;have hi:i<x.cps.size:=by have hg':i<x.cps.toList.length:=hg;simpa using hg'
  obtain⟨f0,f1,f2,f3,f4,f5⟩:=hf it (by simp);refine wpAny_pyNext_ascii_item st (c:=x.cps[i]) (by simp[hi]) λh' st' sb=>?_;have I1:Inv X AT σ H { s with heap:=h',toks:=s.toks+1 }:=I.turned (t':=s.toks+1) (λb o hb e=>sb.extBut b o hb e) f0 f1 f3 f4 f5;obtain⟨o,e,c,d⟩:=id st';exact⟨_,Z,Ax (s:={ s with heap:=h',toks:=s.toks+1 }) e c d (by decide) ⟨.str (tx [x.cps[i]]),H,I1,⟨_,Z⟩,⟨Z,x.cps[i],by simp[hi],Z⟩,st',λb hb=>(hf b hb).1⟩⟩
 done:=by
  intro X hP hw hK hc i AT s σ H E I hf st hg;subst hP hw hK;have hi:x.cps.size<=i:=by have hg':x.cps.toList.length<=i:=hg;simpa using hg'
  obtain⟨f0,f1,f2,f3,f4,f5⟩:=hf it (by simp);exact wpAny_pyNext_ascii_end (I.ok.hd hc) st (by simp;omega) λh' eb=>⟨Z,I.turned (t':=s.toks) (λb o hb e=>eb b o hb e) f0 f1 f3 f4 f5⟩
 self:=λ_ _ _ _ _ st h=>wpAny_pyIter_striter_ascii st h
theorem RY{P:Program}{w:World}{K:Fg}{tg:Expr}(x:Str)(t:Tok)(it:Addr):Turn P w K tg (Wg x.cps.toList) [it] it (λi h=>h.IsStrIter it "str_iterator" x t i) where
 mem:=by simp
 obj:=λi h st b hb=>by
  have e:b=it:=by simpa using hb
  subst e;obtain⟨o,e,c,d⟩:=st;exact⟨o,e,λv z=>by rw[d]at z;cases z⟩
 keep:=λi h h' st k=>let⟨o,ho,r⟩:=st;⟨o,k it (by simp) o ho,r⟩
 item:=by
  intro X hP hw hK hc i AT s σ H E I hf st hg;subst hP hw hK;have hi:i<x.cps.size:=by have hg':i<x.cps.toList.length:=hg;simpa using hg'
  obtain⟨f0,f1,f2,f3,f4,f5⟩:=hf it (by simp);refine wpAny_pyNext_wide_item st (c:=x.cps[i]) (by simp[hi]) λh' st' sb=>?_;have I1:Inv X AT σ H { s with heap:=h',toks:=s.toks+1 }:=I.turned (t':=s.toks+1) (λb o hb e=>sb.extBut b o hb e) f0 f1 f3 f4 f5;obtain⟨o,e,c,d⟩:=id st';exact⟨_,Z,Ax (s:={ s with heap:=h',toks:=s.toks+1 }) e c d (by decide) ⟨.str (tx [x.cps[i]]),H,I1,⟨_,Z⟩,⟨Z,x.cps[i],by simp[hi],Z⟩,st',λb hb=>(hf b hb).1⟩⟩
 done:=by
  intro X hP hw hK hc i AT s σ H E I hf st hg;subst hP hw hK;have hi:x.cps.size<=i:=by have hg':x.cps.toList.length<=i:=hg;simpa using hg'
  obtain⟨f0,f1,f2,f3,f4,f5⟩:=hf it (by simp);exact wpAny_pyNext_wide_end (I.ok.hd hc) st (by simp;omega) λh' eb=>⟨Z,I.turned (t':=s.toks) (λb o hb e=>eb b o hb e) f0 f1 f3 f4 f5⟩
 self:=λ_ _ _ _ _ st h=>wpAny_pyIter_striter_wide st h
variable {cs:Da Nat}
section
variable {X:Cx}{tg:Expr}
inductive acP(R:It->Hp->Prop)(x:V)(H1:Hp):Prop
 |mk(cs:Da Nat)(_:x =.str (tx cs))(_:R (Wg cs:_) H1)
def ZY(te:TE):TI:=λσ H R=>te σ H (acP R)
def ZZ{l:Expr}{tl:TE}(hl:PE X l tl):PI X tg l (ZY tl):=by
 intro AT s σ H R I h;refine bg (hl AT s σ H _ I h) λv s1 ⟨x,H1,I1,r1,q1⟩=>?_;obtain⟨cs,e,q⟩:=q1;subst e;obtain⟨t,rfl⟩:=r1;have fp:∀b∈[s1.heap.objs.size],oV X AT H1 b:=λb hb=>by
  have e:b=s1.heap.objs.size:=by simpa using hb
  subst e;exact I1.BY (aN _) (I1.hok.fresh (aN _))
 have tw:=@RY X.prog X.w X.K tg (tx cs) t s1.heap.objs.size;have ta:=@PM X.prog X.w X.K tg (tx cs) t s1.heap.objs.size;cases ha:(tx cs).cps.all (·<128)
 .exact wpAny_pyIter_wide ha ⟨s1.heap.objs.size,[s1.heap.objs.size],_,_,H1,Z,I1.kept (t':=s1.toks) λb o e=>bU _ e,tw,⟨_,dZ _ rfl,Z,Z⟩,fp,q⟩
 .exact wpAny_pyIter_ascii ha ⟨s1.heap.objs.size,[s1.heap.objs.size],_,_,H1,Z,I1.kept (t':=s1.toks) λb o e=>bU _ e,ta,⟨_,dZ _ rfl,Z,Z⟩,fp,q⟩
theorem U5{k:Nat}{Q:VK}(Pv:Nat->Da V->Hp->Prop)(hn:cs.length<=100000)(h0:Pv 0 [] (upd H BM (.lst [])))(hs:∀(i:Nat) (c:Nat) (out:Da V) (H1:Hp),cs[i]?=some c->out.length=i->H1 BM=some (.lst out)->Pv i out H1->te (σ2.set k (some (.str (tx [c])))) H1 (ue Pv i BM out))(hd:∀(out:Da V) (H1:Hp),out.length=cs.length->H1 BM=some (.lst out)->Pv cs.length out H1->Q (.ref BM) H1):
  AI (Wg cs) (gj k) te BM σ2 H Q:=by
 refine⟨λi m σ' H'=>m=cs.length-i/\i<=cs.length/\(∀v,σ'.set k (some v)=σ2.set k (some v))/\∃out,out.length=i/\H' BM=some (.lst out)/\Pv i out H',⟨cs.length,by simp,eV _,λ_=>rfl,[],Z,ah,h0⟩,?_⟩
 rintro i m σ' H' ⟨rfl,hi,hσ,out,ho,ha,p⟩
 by_cases hlt:i<cs.length
 . refine .inr ⟨hlt,λσ3=>∀v,σ3.set k (some v)=σ2.set k (some v),(ue Pv i BM out),λσ3 v H4 hS ⟨a,b⟩=>?_,λx H1 y=>?_⟩
   . refine⟨out,a,?_,cs.length-(i+1),by omega,Z,hlt,hS,out++[v],by rw[cV,ho];rfl,ah,b⟩
     have:sizeLine=16777216:=eW
     omega
   . obtain⟨e,c,hc,ex⟩:=y
     subst e ex
     refine⟨λv=>by rw[vt];exact hσ v,?_⟩
     have q2:=hs i c out _ hc ho ha p
     rw[<-hσ]at q2
     exact q2
 . have e:i=cs.length:=by omega
   subst e
   exact .inl ⟨aN _,hd out H' ho ha p⟩
def vX(cs:Da Nat)(lo hi:Option Int):Da Nat:=(cs.drop (HT.dO cs.length 0 lo)).take (HT.dO cs.length cs.length hi-HT.dO cs.length 0 lo)
theorem Bq(cs:Da Nat)(lo hi:Option Int):(vX cs lo hi).length<=cs.length:=by unfold vX;rw[kr,Jk];omega
theorem PN(cs:Da Nat)(lo hi:Option Int):Builtin.Str.strSliceIndices lo hi 1 cs.length=(List.range (HT.dO cs.length cs.length hi-HT.dO cs.length 0 lo)).map (HT.dO cs.length 0 lo+·):=by
 rw[<-sliceRange_one];unfold Builtin.Str.strSliceIndices;simp only[show((1:Int)>0)=True from by simp,oS];congr 1
 .cases lo with
  | none=>rfl
  | some i=>
   simp only[HT.dO];by_cases h:i<0
   .simp only[h,oS] <;> omega
   .simp only[h,lu] <;> omega
 .cases hi with
  | none=>rfl
  | some i=>
   simp only[HT.dO];by_cases h:i<0
   .simp only[h,oS] <;> omega
   .simp only[h,lu] <;> omega
inductive af4(x:V)(lo:Option Int)(hi:Option Int)(H:Hp)(Q:VK):Prop
 |mk(cs:_)(_:x =.str (tx cs))(_:cs.length<=sizeLine)(_:Q (.str (tx (vX cs lo hi))) H)
theorem Z0:RB X af4:=by
 intro AT s σ H x v vl vu lo hi sl Q I rx hs pl pu h;obtain⟨cs,rfl,hz,q⟩:=h;obtain⟨t,rfl⟩:=rx;refine⟨"str",_,F.slot_str_getitem.lookup,typeIs_str s _ t,?_⟩;obtain⟨l,rfl,el⟩:∃l:Option (Int×Tok),vl=partValue l/\l.map (·.1)=lo:=by
  cases pl with
  | none=>exact⟨none,Z,Z⟩
  | int i t=>exact⟨some (i,t),Z,Z⟩
 obtain⟨u,rfl,eu⟩:∃u:Option (Int×Tok),vu=partValue u/\u.map (·.1)=hi:=by
  cases pu with
  | none=>exact⟨none,Z,Z⟩
  | int i t=>exact⟨some (i,t),Z,Z⟩
 refine wpAny_getItem_str_slice (l:=l) (u:=u) (st:=none) hs rfl ?_;have e1:slicePicked (tx cs) l u none=(List.range (HT.dO cs.length cs.length hi-HT.dO cs.length 0 lo)).map (HT.dO cs.length 0 lo+·):=by unfold slicePicked;rw[el,eu,j_];exact PN cs lo hi
 have e2:(slicePicked (tx cs) l u none).filterMap ((tx cs).cps[·]?)=vX cs lo hi:=by rw[e1,pick_run];rfl
 unfold sliceMade;split
 .rename_i hc;have hl:(slicePicked (tx cs) l u none).length=cs.length:=by have:=(jP.mp hc).2;rw[j_]at this;simpa using this
  have af5:vX cs lo hi=cs:=by
   rw[e1,aF,BU]at hl;unfold vX;have h1:=HT.RA cs.length cs.length (aN _) hi;have h0:HT.dO cs.length 0 lo=0\/cs.length=0:=by omega
   rcases h0 with h0|h0
   .rw [h0]at hl ⊢;rw[List.drop_zero,hl,bN]
   .have:cs=[] :=List.length_eq_zero_iff.mp h0;subst this;simp
  rw[af5]at q;exact⟨.str (tx cs),H,I,⟨t,Z⟩,q⟩
 .show (Made.str ⟨_⟩).post _ _;rw[e2];refine⟨?_,.str (tx (vX cs lo hi)),H,I.tok _,⟨_,Z⟩,q⟩;show(tx (vX cs lo hi)).length<=sizeLine;rw[j_];exact fL (Bq cs lo hi) hz
end
def Xy(cs:Da Nat)(k:Nat):vX cs none (some (k:Int))=cs.take k:=by
 unfold vX;rw[HT.B3,HT.wN,List.drop_zero,Nat.sub_zero];rcases Nat.le_total k cs.length with h|h
 .rw [Nat.min_eq_left h]
 .rw [Nat.min_eq_right h,bN,yQ h]
def Du(signs:Str)(c:Nat):Bool:=!(Builtin.Str.occurrences signs (tx [c]) 0 signs.length 1).isEmpty
def lz(c:Int)(n:Nat):Da Nat:=(List.range n).map λi=>97+((c / 26 ^ i) % 26).toNat
def xT(c:Int)(n:Nat):(lz c n).length=n:=by unfold lz;rw[aF,BU]
def U6(c:Int)(n:Nat):lz c (n+1)=lz c n++[97+((c / 26 ^ n) % 26).toNat] :=by unfold lz;rw[List.range_succ,br];rfl
theorem RZ{k:Int}(h0:0<=k)(h1:k<26):nZ (("abcdefghijklmnopqrstuvwxyz":Str).cps.toList) k=some (97+k.toNat):=by
 have h:∀n:Nat,n<26->("abcdefghijklmnopqrstuvwxyz":Str).cps.toList[n]?=some (97+n):=by decide +kernel
 have e:k=((k.toNat:Nat):Int):=by omega
 have:=aX (h k.toNat (by omega));rw[<-e]at this;exact this
structure EX(vs:Da V)(H:Hp)(Q:VK)(E:XK):Prop where
 ex:∃(c:Int)(n:Nat),vs=[.int c,.int (n:Int)]/\0<=c/\n<=1000/\Q (.str (tx (lz c n))) H
def JN{Q:VK}{E:XK}{c ni:Int}(e:ni=(n:Int))(hc:0<=c)(hn:n<=1000)(q:Q (.str (tx (lz c n))) H):EX [.int c,.int ni] H Q E:=by subst e;exact⟨c,n,Z,hc,hn,q⟩
inductive Xz(vs:Da V)(H:Hp)(Q:VK)(E:XK):Prop
 |mk(cs:Da Nat)(signs:Str)(_:vs=[.str (tx cs),.str signs])(_:cs.length<=100000)(_:∀H',aG H H'->Q (.bl (cs.all (Du signs))) H')
def B9:Sp:=bx (Xz)
def PR{H:Hp}{Q:VK}{E:XK}{cs:Da Nat}{signs:Str}(hl:cs.length<=100000)(q:∀H',aG H H'->Q (.bl (cs.all (Du signs))) H'):B9 [.str (tx cs),.str signs] H Q E:=⟨cs,signs,Z,hl,q⟩
def isName(cs:Da Nat):Bool:=decide (1<=(cs.length:Int)) && decide ((cs.length:Int)<=8) && cs.all (Du "abcdefghijklmnopqrstuvwxyz")
inductive XA(vs:Da V)(H:Hp)(Q:VK)(E:XK):Prop
 |mk(cs:Da Nat)(_:vs=[.str (tx cs)])(_:cs.length<=100000)(_:∀H',aG H H'->Q (.bl (isName cs)) H')
def xU:Sp:=bx (XA)
def Dv{Q:VK}{E:XK}(hl:cs.length<=100000)(q:∀H',aG H H'->Q (.bl (isName cs)) H'):xU [.str (tx cs)] H Q E:=⟨cs,Z,hl,q⟩
def Dw{p q:Prop}(h:if true=true then p else q):p:=by rwa [aC rfl]at h
def Dy{p q:Prop}(h:if false=true then p else q):q:=by rwa [aB fQ]at h
variable {cond:Expr}
section
variable {prog:Program}{w:World}{A:Around}{R:Result->Shared->Prop}{s:Shared}
theorem Ho{target:Expr}{it BM:Value}(J:Nat->Shared->Prop)(turn:∀n s,J n s->wpAny (model prog w) A (pyNext it) (λr s₁=>match r with
    | none=>R (.ok .next) s₁
    | some v=>wpAny (model prog w) A (letOwnedTupleGo target it v) (λ_ s₂=>wpAny (model prog w) A (assign target env v) (λ_ s₃=>wpAny (model prog w) A (isTrue cond env (eval cond env)) (λok Z1=>if ok=true then
       wpAny (model prog w) A (eval elt env) (λx s₄=>wpAny (model prog w) A (call (.builtin "list.append") [BM,x]) (λ_ s₅=>∃m,m<n/\J m s₅) (λ_ _=>False) s₄) (λ_ _=>False) Z1
       else ∃m,m<n/\J m Z1) (λ_ _=>False) s₃) (λ_ _=>False) s₂) (λ_ _=>False) s₁) (λ_ _=>False) s)(n:Nat)(h:J n s):codeAny (model prog w) A (.compLoop (.ListComp elt [⟨target,Bz,[cond],0⟩] scope pos) 0 it BM env) R s:=by
 refine codeAny_loop rfl J (λn s hI=>?_) n h
 show wpAny _ A ((compTurn (.ListComp elt [⟨target,Bz,[cond],0⟩] scope pos) 0 it BM env).onRaise (λx=>do noteFrame x env;theTreesLotGoes x)) _ _ s
 refine wpAny_noted ?_
 rw[compTurn_list]
 refine aq (Ao (aq (gX (turn n s hI) (λr s₁ h₁=>?_) λ_ _ h'=>h'.elim)))
 cases r with
 | none=>exact aJ h₁
 | some v=>
   refine aq (gX h₁ (λ_ s₂ h₂=>aq (gX h₂ (λ_ s₃ h₃=>?_) λ_ _ h'=>h'.elim)) λ_ _ h'=>h'.elim)
   refine aq (wpAny_tests_one (gX h₃ (λok Z1 h₃'=>?_) λ_ _ h'=>h'.elim))
   cases ok with
   | false=>exact aJ ⟨Z,Dy h₃'⟩
   | true=>exact aq (aq (gX (Dw h₃') (λx s₄ h₄=>aq (gX h₄ (λ_ s₅ h₅=>aJ (aJ ⟨Z,h₅⟩)) λ_ _ h'=>h'.elim)) λ_ _ h'=>h'.elim))
end
variable {tc:TT}{wi:TI}{px pos':Pos}
section
variable {X:Cx}
def zh(J:It)(g:TG)(tc:TT)(te:TE)(BM:Addr)(σ₀:St)(H:Hp)(Q:VK):Prop:=∃W:Nat->Nat->St->Hp->Prop,(∃m,W 0 m σ₀ (upd H BM (.lst [])))/\∀i m σ2 H2,W i m σ2 H2->(J.stop i H2/\Q (.ref BM) H2)\/(J.go i H2/\∃(S:St->Prop)(N:V->Hp->Prop)(N0:Hp->Prop),(∀σ3 v H4,S σ3->N v H4->∃xs,H4 BM=some (.lst xs)/\xs.length<sizeLine/\∃m',m'<m/\W (i+1) m' σ3 (upd H4 BM (.lst (xs++[v]))))/\(∀σ3 H4,S σ3->N0 H4->∃m',m'<m/\W (i+1) m' σ3 H4)/\∀x H',J.C3 i H2 x H'->g x σ2 H' λσ3 H3=>S σ3/\tc σ3 H3 λb H4=>if b=true then te σ3 H4 N else N0 H4)
def XC(ix:Da (Option Nat))(g:TG)(tc:TT)(te:TE)(σ:St)(Q:VK):It->Hp->Prop:=λJ H1=>∀BM,H1 BM=none->zh J g tc te BM (pick ix σ) H1 Q
def Dz(wi:TI)(ix:Da (Option Nat))(g:TG)(tc:TT)(te:TE):TE:=λσ H Q=>wi σ H (XC ix g tc te σ Q)
theorem Br{ix:Da (Option Nat)}{Q:VK}{RR:Value->Addr->Result->Shared->Prop}(hc:X.calm=true)(hg:∀cl s₂ H₂ fp,PG (cW X N2 scope cl s₂ H₂ fp) tg g)(he:∀cl s₂ H₂ fp,PE (cW X N2 scope cl s₂ H₂ fp) elt te)(ht:∀cl s₂ H₂ fp,PT (cW X N2 scope cl s₂ H₂ fp) cond tc)(hk:scope.kind =.function)(hn:mZ X.N X.env.scope.names scope.names N2 ix=true)(JI:∀y c,(y,c)∈cl->X.env.cells.lookup y=some c)(EW:∀y,(y,NameKind.free)∈scope.names->∃c,(y,c)∈cl){it:Addr}{fp:Da Addr}{tn:Nat->Heap->Prop}{J:It}(I:Inv X AT σ H s)(T:Turn X.prog X.w X.K tg J fp it tn)(st:tn 0 s.heap)(f:∀b∈fp,oV X AT H b)(h:∀BM,H BM=none->zh J g tc te BM (ix.map λo=>o.bind λj=>(σ[j]?).join) H Q)(hR:∀BM C H' s' m,Inv X AT σ H' s'->s'.heap.Ns C m->H' C=none->C≠X.env.locals->X.s₀.heap.objs.size<=C->(∀x c,X.env.cells.lookup x=some c->c≠C)->(∀p∈X.pn++AT,p.1≠C)->Q (.ref BM) H'->RR (.ref BM) C (.ok .next) s'):
  wpAny (model X.prog X.w) X.A (newList []) (λBM s₃=>wpAny (model X.prog X.w) X.A (newFunctionEnv scope X.env.globals cl [] X.env.qual none .none (some X.env)) (λcenv s₄=>
   codeAny (model X.prog X.w) X.A (.compStart (.ListComp elt [⟨tg,Bz,[cond],0⟩] scope pos) 0 (.ref it) BM { cenv with scope:=relabel scope X.env }) (RR BM cenv.locals) s₄) E s₃) E s:=by
 obtain⟨k1,k2,k3,k4,k5⟩:=mj hn
 refine qj ?_
 have I3:Inv X AT σ (upd H s.heap.objs.size (.lst [])) { s with heap:=s.heap.push { cls:=.type "list",data:=.seq ([] :Da Value).toArray } }:=
  I.laid (a:=s.heap.objs.size) (o:=.lst []) (t':=s.toks) (λ_ _ q=>bU _ q) (aN _) ⟨eV _,[],_,.nil,dZ _ rfl⟩
 obtain⟨W,⟨m0,w0⟩,turn⟩:=h s.heap.objs.size I.fresh
 have fo:∀b∈fp,b<s.heap.objs.size:=λb hb=>by obtain⟨o,e,_⟩:=T.obj 0 _ st b hb;exact bK e
 have st3:tn 0 (s.heap.push { cls:=.type "list",data:=.seq ([] :Da Value).toArray }):=T.keep _ _ _ st λb _ o e=>bU _ e
 have f3:∀b∈fp,oV X AT (upd H s.heap.objs.size (.lst [])) b:=λb hb=>⟨by rw[av (dW (fo b hb))];exact(f b hb).1,(f b hb).2⟩
 have RQ:∀b∈fp,b<(s.heap.push { cls:=.type "list",data:=.seq ([] :Da Value).toArray }).objs.size:=λb hb=>by rw[lY];exact Pf (fo b hb)
 generalize ZQ:({ s with heap:=s.heap.push { cls:=.type "list",data:=.seq ([] :Da Value).toArray } }:Shared)=s3 at *
 have ZR:s3.heap=s.heap.push { cls:=.type "list",data:=.seq ([] :Da Value).toArray }:=by rw[<-ZQ]
 rw[<-ZR]at st3 RQ
 generalize s.heap.objs.size=BM at *
 generalize eH3:upd H BM (.lst [])=H3 at *
 have IY:=Dm (N2:=N2) (scope:=scope) (cl:=cl) (fp:=fp) (σ2:=ix.map λo=>o.bind λj=>(σ[j]?).join) I3 hk JI EW f3 RQ (by rw[aF];exact k1) (λi x v e1 e2=>by
  rw[bF]at e2;cases ei:ix[i]? with
  | none=>rw[ei]at e2;cases e2
  | some o=>
   rw[ei]at e2;cases o with
   | none=>cases e2
   | some j=>
    obtain⟨a1,a2,a3⟩:=k2 i x j e1 ei;refine⟨a2,a3,j,a1,?_⟩;have e3:(σ[j]?).join=some v:=ie e2;cases ej:σ[j]? with
    | none=>rw[ej]at e3;cases e3
    | some z=>rw[ej]at e3;exact gF some e3) k5
 have ne:wpAny (model X.prog X.w) X.A (newFunctionEnv scope X.env.globals cl [] X.env.qual none .none (some X.env)) (λcenv s₄=>
   cenv={ scope:=scope,locals:=s3.heap.objs.size,globals:=X.env.globals,cells:=cellsFrom (s3.heap.objs.size+1) scope.names cl,qual:=X.env.qual,func:=none,code:=X.env.code,frame:=X.env.frame,builtins:=X.env.builtins }/\
   s₄={ s3 with heap:=pushCells (s3.heap.push { cls:=.type "dict",data:=.dict #[] }) scope.names }) E s3:=by
  simp only[newFunctionEnv,Option.isSome_some,oS]
  refine aq (wpAny_alloc ?_)
  refine aq (wpAny_layCells _ (λname kind cells=>by cases hkc:kind==NameKind.cell <;> simp[hkc]) _ _ _ _ ?_)
  rw[CU]
  refine aq (aJ (aJ ⟨?_,Z⟩))
  rw[show({ s3 with heap:=s3.heap.push { cls:=.type "dict",data:=.dict #[] } }:Shared).heap.objs.size=s3.heap.objs.size+1 from lY ..]
 refine bg ne λcenv s4 ⟨e1,e2⟩=>?_
 subst e1 e2
 have RS:tn 0 (pushCells (s3.heap.push { cls:=.type "dict",data:=.dict #[] }) scope.names):=T.keep _ _ _ st3 λb _ o e=>IG _ _ b o (bU _ e)
 have zf:s3.heap.objs.size≠X.env.locals:=xK I3.lt
 have uf:∀{H':Hp},(∀b∈fp,H' b=none)->∀b∈fp,oV (cW X N2 scope cl s3 H3 fp) [] H' b:=λ{H'} hn b hb=>
  ⟨hn b hb,(IY.ok.Jo b hb).1,IY.ok.BW b hb,.inl hb,(IY.ok.Jo b hb).2,λp hp=>nomatch hp⟩
 have loop:codeAny (model X.prog X.w) X.A (.compLoop (.ListComp elt [⟨tg,Bz,[cond],0⟩] scope pos) 0 (.ref it) (.ref BM) (cW X N2 scope cl s3 H3 fp).env) (RR (.ref BM) s3.heap.objs.size)
   { s3 with heap:=pushCells (s3.heap.push { cls:=.type "dict",data:=.dict #[] }) scope.names }:=by
  refine Ho (λn s'=>∃i σ' H',Inv (cW X N2 scope cl s3 H3 fp) [] σ' H' s'/\tn i s'.heap/\(∀b∈fp,H' b=none)/\W i n σ' H') ?_ m0 ⟨0,_,H3,IY,RS,λb hb=>(f3 b hb).1,w0⟩
  rintro n s5 ⟨i,σ5,H5,I5,zg,JJ,w5⟩
  rcases turn i n σ5 H5 w5 with⟨stop,qn⟩|⟨go,S,N,N0,ZS,hS0,step⟩
  . refine bg (T.done (cW X N2 scope cl s3 H3 fp) rfl rfl rfl hc i [] s5 σ5 H5 (λ_ _=>False) I5 (uf JJ) zg stop) λr s6 ⟨hr,I6⟩=>?_
    subst hr
    obtain⟨m6,ZT,_⟩:=id I6.loc
    have IX:Inv X AT σ H5 s6:=I3.IK (ch:=fp) I6.os I6.base I6.hok I6.bare λb hb=>⟨(f3 b hb).2.2.2.1,(f3 b hb).2.1,(f3 b hb).2.2.2.2.1,(f3 b hb).2.2.2.2.2⟩
    refine hR BM s3.heap.objs.size H5 s6 m6 IX ZT I6.free zf I3.sz (λx c e z=>?_) (λp hp z=>?_) qn
    . obtain⟨v,q⟩:=I3.cell x c e
      exact absurd q.lt (by rw[z];exact je _)
    . exact absurd (bK (I3.pin p hp).1) (by rw[z];exact je _)
  . refine bg (T.item (cW X N2 scope cl s3 H3 fp) rfl rfl rfl hc i [] s5 σ5 H5 (λ_ _=>False) I5 (uf JJ) zg go) λr s6 ⟨u,hr,h6⟩=>?_
    subst hr
    refine bg h6 λ_ s7 ⟨x,H7,I7,r7,y7,Dq,RT⟩=>?_
    have ZU:=I7.pinned (uf RT) (T.obj _ _ Dq)
    refine bg (hg cl s3 H3 fp _ s7 σ5 H7 x u _ ZU r7 (step x H7 y7)) λ_ s8 ⟨σ8,H8,I8,We,q8⟩=>?_
    refine bg (ht cl s3 H3 fp _ s8 σ8 H8 _ I8 q8) λok s9' ⟨H9',Wh,q9'⟩=>?_
    cases ok with
    | false=>
      obtain⟨m',hm,w9⟩:=hS0 σ8 H9' We (Dy q9')
      refine ite_ff ⟨m',hm,i+1,σ8,_,Wh.qp,T.keep _ _ _ Dq λb hb o e=>(Wh.pin (b,o) (jA _ (jA _ (jf hb e)))).1,λb hb=>?_,w9⟩
      obtain⟨o,e,d⟩:=T.obj _ _ Dq b hb
      exact(Wh.pin (b,o) (jA _ (jA _ (jf hb e)))).2.1
    | true=>
      refine ite_tt ?_
      refine bg (he cl s3 H3 fp _ s9' σ8 H9' _ Wh (Dw q9')) λy s9 ⟨v,H9,I9,r9,q9⟩=>?_
      obtain⟨xs,hxs,ZV,m',hm,w9⟩:=ZS σ8 v H9 We q9
      refine bg (f_ _ s9 σ8 H9 (.ref BM) [v] (.ref BM) [y] (λz Dr=>z =.cD/\Dr=upd H9 BM (.lst (xs++[v]))) I9 rfl (.cons r9 .nil) ⟨BM,xs,v,Z,Z,hxs,ZV,Z,Z⟩) λz s10 ⟨zv,Dr,JK,r10,ez,eH⟩=>?_
      subst eH
      refine⟨m',hm,i+1,σ8,_,JK.qp,T.keep _ _ _ Dq λb hb o e=>(JK.pin (b,o) (jA _ (jA _ (jf hb e)))).1,λb hb=>?_,w9⟩
      obtain⟨o,e,d⟩:=T.obj _ _ Dq b hb
      exact(JK.pin (b,o) (jA _ (jA _ (jf hb e)))).2.1
 exact codeAny_compStart_list loop (T.self _ 0 _ _ _ RS loop)
def U7(N2:Da Str)(ix:Da (Option Nat))(hc:X.calm=true)(hi:PI X tg Bz wi)(hg:∀cl s₂ H₂ fp,PG (cW X N2 scope cl s₂ H₂ fp) tg g)(he:∀cl s₂ H₂ fp,PE (cW X N2 scope cl s₂ H₂ fp) elt te)(ht:∀cl s₂ H₂ fp,PT (cW X N2 scope cl s₂ H₂ fp) cond tc)(hk:scope.kind =.function)(hn:mZ X.N X.env.scope.names scope.names N2 ix=true)(hs:∀x,foldedSetIterable Bz X.env x=pure x:=by intro _;rfl):
  PE X (.ListComp elt [⟨tg,Bz,[cond],0⟩] scope pos) (Dz wi ix g tc te):=by
 intro AT s σ H Q I h
 obtain⟨k1,k2,k3,k4,k5⟩:=mj hn
 obtain⟨cl,JO,c1,c2⟩:=tN (scope:=scope) (env:=X.env) λy hy e=>I.ok.has y.1 (k3 y hy e)
 rw[eval_ListComp]
 refine OY (use:=none) rfl hs JO hk k4 (bg (hi AT s σ H _ I h) λv s1 h1=>bg h1 λitv s2 h2=>?_)
 obtain⟨it,fp,tn,J,H2,e,I2,T,st2,f2,h2⟩:=h2
 subst e
 refine Br (RR:=λBM C=>compPost (model X.prog X.w) X.A X.xe none (EP X AT σ Q) BM C) (Q:=Q) hc hg he ht hk hn (λy c m=>(c1 y c m).1) c2 I2 T st2 f2 h2 ?_
 intro BM C H' s' m I' ns zf hL hsz o7 xV q
 exact⟨m,ns,λh' hs'=>⟨.ref BM,H',I'.turned (it:=C) (t':=s'.toks) (λb o hb e=>(hs'.2 b hb).trans e) zf hL (.inr hsz) o7 xV,Z,q⟩⟩
def U8(N2:Da Str)(ix:Da (Option Nat))(hN:X.N.Nodup)(hi:X.N[i]?=some x)(hx:X.env.scope.names.lookup x=some .local)(hc:X.calm=true)(hit:PI X tg Bz wi)(hg:∀cl s₂ H₂ fp,PG (cW X N2 scope cl s₂ H₂ fp) tg g)(he:∀cl s₂ H₂ fp,PE (cW X N2 scope cl s₂ H₂ fp) elt te)(ht:∀cl s₂ H₂ fp,PT (cW X N2 scope cl s₂ H₂ fp) cond tc)(hk:scope.kind =.function)(hn:mZ X.N X.env.scope.names scope.names N2 ix=true)(hw:swapsWith (.ListComp elt [⟨tg,Bz,[cond],0⟩] scope pos) (some (.Name x px)) pos'.line X.env=pure true)(hs:∀x,foldedSetIterable Bz X.env x=pure x:=by intro _;rfl):
  PS X (.Assign [.Name x px] (.ListComp elt [⟨tg,Bz,[cond],0⟩] scope pos) pos') (yW (Dz wi ix g tc te) (gj i)):=by
 intro AT s σ H D I h
 obtain⟨k1,k2,k3,k4,k5⟩:=mj hn
 obtain⟨cl,JO,c1,c2⟩:=tN (scope:=scope) (env:=X.env) λy hy e=>I.ok.has y.1 (k3 y hy e)
 rw[exec_Assign_Name_used _ _ _ _ hw]
 refine aq (Ao (aq ?_))
 show wpAny _ X.A (do let _ <-comprehension (.ListComp elt [⟨tg,Bz,[cond],0⟩] scope pos) scope X.env _ (newList []) false (eval Bz X.env) (some (assign (.Name x px) X.env))) _ _ s
 refine aq (bg (OY (use:=some (assign (.Name x px) X.env)) (Q:=λ_ s'=>SP X AT D .next s') rfl hs JO hk k4 (bg (hit AT s σ H _ I h) λv s1 h1=>bg h1 λitv s2 h2=>?_)) λ_ s' hq=>aJ (aJ hq))
 obtain⟨it,fp,tn,J,H2,e,I2,T,st2,f2,h2⟩:=h2
 subst e
 refine Br (RR:=λBM C=>compPost (model X.prog X.w) X.A X.xe (some (assign (.Name x px) X.env)) (λ_ s'=>SP X AT D .next s') BM C) (Q:=λv H'=>D.nx (σ.set i (some v)) H') hc hg he ht hk hn (λy c m=>(c1 y c m).1) c2 I2 T st2 f2 h2 ?_
 intro BM C H' s' m I' ns zf hL hsz o7 xV q
 show wpAny _ X.A (assign (.Name x px) X.env (.ref BM)) _ _ _
 refine wpAny_assign_Name (yU I' hN hi (.inl hx) (v:=.ref BM) rfl (λs3 I3 ⟨a,sb,ha⟩=>?_) (.inr hx))
 have ca:C≠a:=by
  rcases ha with z|z
  .rw [z];exact hL
  .exact λe=>o7 x a z e.symm
 exact⟨m,ns.sameBut sb ca,λh' hs'=>⟨_,H',I3.turned (it:=C) (t':=s3.toks) (λb o hb e=>(hs'.2 b hb).trans e) zf hL (.inr hsz) o7 xV,q⟩⟩
end
theorem JP{α:Type}[DecidableEq α] :∀{l m:Da α},l.Nodup->(∀x∈l,x∈m)->l.length<=m.length
 | [],_,_,_=>eV _
 | x::r,m,h,hs=>by
  have hn:=iG.mp h;have hx:=hs x cg;have:=JP (l:=r) (m:=m.erase x) hn.2 λy hy=>by have hne:y≠x:=λe=>hn.1 (e▸hy);exact(List.mem_erase_of_ne hne).mpr (hs y (b_ _ hy))
  rw[List.length_erase_of_mem hx]at this;have hp:0<m.length:=List.length_pos_of_mem hx;rw[kq];omega
def R0(c:Int)(h:i<n):(lz c n)[i]?=some (97+((c / 26 ^ i) % 26).toNat):=by unfold lz;rw[bF,List.getElem?_range h];rfl
theorem XD{c c':Int}{d:Nat}(h:d<n)(e:lz c n=lz c' n):(c / 26 ^ d) % 26=(c' / 26 ^ d) % 26:=by have h1:=R0 c h;rw[e,R0 c' h]at h1;have h2:=ie h1;have a0:0<=(c / 26 ^ d) % 26:=nj _ (by decide);have b0:0<=(c' / 26 ^ d) % 26:=nj _ (by decide);omega
structure o8(x:Da Nat):Prop where
 lo:1<=x.length
 hi:x.length<=8
 NU:∀c∈x,97<=c/\c<123
theorem Z2(c:Int)(h1:1<=n)(h2:n<=8):o8 (lz c n):=by refine⟨by rw[xT];exact h1,by rw[xT];exact h2,λx hx=>?_⟩;obtain⟨i,_,rfl⟩:=bR.mp hx;have a0:0<=(c / 26 ^ i) % 26:=nj _ (by decide);have a1:(c / 26 ^ i) % 26<26:=xC _ (by decide);omega
def ug(nss:Da (Da Nat)):Da V:=nss.map λx=>V.str (tx x)
def U9(nss:Da (Da Nat)):(ug nss).all tM=true:=by unfold ug;rw[List.all_map,qP];exact λ_ _=>rfl
def R1{a b:Da Nat}(h:tx a=tx b):a=b:=by
 have:a.toArray=b.toArray:=by injection h
 simpa using this
def XE(x:Da Nat)(nss:Da (Da Nat)):NQ (.str (tx x)) (ug nss)=decide (x∈nss):=by
 unfold NQ ug;rw[List.any_map,tF,List.any_eq_true,decide_eq_true_eq];constructor
 .rintro ⟨y,hy,e⟩;have e2:yz (.str (tx y)) (.str (tx x))=true:=e;have e3:tx y=tx x:=by unfold yz at e2;simpa using e2
  rw[<-R1 e3];exact hy
 .intro h;refine⟨x,h,?_⟩;show yz (.str (tx x)) (.str (tx x))=true;unfold yz;simp
def XF(x:Str):PyData.eqv (.str x) (.str x)=true:=by unfold PyData.eqv;exact xE x
open PySem.NumText
section
variable {X:Cx}
end
def EY(lo st:Int)(n:Nat):It:=⟨λi _=>i<n,λi H x H'=>H'=H/\x =.int (lo+i*st),λi _=>n<=i⟩
variable {P:Program}
theorem Ms{w:World}(it:Addr)(lo st:Int)(n:Nat):Turn P w K tg (EY lo st n) [it] it (λi h=>IsRangeIter h it (lo+(i:Nat)*st) ((n:Int)-(i:Nat)) st) where
 mem:=by simp
 obj:=λi h st b hb=>by
  have e:b=it:=by simpa using hb
  subst e;exact⟨_,st,λv z=>by have z':Data.fields _=Data.cell v:=z;cases z'⟩
 keep:=λi h h' st k=>k it (by simp) _ st
 item:=by intro X hP hw hK hc i AT s σ H E I hf st' hg;subst hP hw hK;obtain⟨f0,f1,f2,f3,f4,f5⟩:=hf it (by simp);have W:=Walks.range (prog:=X.prog) (w:=X.w) (I.ok.hd hc) it lo st n;refine W.item i s _ _ hg st' λv h' tk hv st2 kk=>?_;obtain⟨t,rfl⟩:=hv;have I1:Inv X AT σ H { s with heap:=h',toks:=tk }:=I.turned (λb o hb e=>kk b o (by simpa using hb) e) f0 f1 f3 f4 f5;exact⟨_,Z,Ax (s:={ s with heap:=h',toks:=tk }) (n:="range_iterator") st2 rfl rfl (by decide) ⟨.int (lo+i*st),H,I1,⟨t,Z⟩,⟨Z,Z⟩,st2,λb hb=>(hf b hb).1⟩⟩
 done:=by intro X hP hw hK hc i AT s σ H E I hf st' hg;subst hP hw hK;obtain⟨f0,f1,f2,f3,f4,f5⟩:=hf it (by simp);exact wpAny_pyNext_range_end (I.ok.hd hc) st' (by have:n<=i:=hg;omega) λh' eb=>⟨Z,I.turned (t':=s.toks) (λb o hb e=>eb b o hb e) f0 f1 f3 f4 f5⟩
 self:=λ_ _ _ _ _ st h=>wpAny_pyIter_rangeiter st h
section
variable {X:Cx}{tg:Expr}
def mq(lo hi st:Int):Nat:=(Builtin.Range.rangeSize lo hi st).toNat
inductive Z3(R:It->Hp->Prop)(vs:Da V)(H1:Hp):Prop
 |mk(i j k:Int)(_:vs=[.int i,.int j,.int k])(_:(0<=i/\i<=1000000/\0<=j/\j<=1000000/\0<k/\k<=1000000))(_:R (EY i k (mq i j k)) H1)
def acQ(ta:TA):TI:=λσ H R=>ta σ H (Z3 R)
theorem Mt{a b c:Int}(h1:0<=a)(h2:a<=1000000)(h3:0<=b)(h4:b<=1000000)(h5:0<c)(h6:c<=1000000):Builtin.Range.small a b c=true/\0<=Builtin.Range.rangeSize a b c:=by
 have hr:0<=Builtin.Range.rangeSize a b c/\Builtin.Range.rangeSize a b c<=1000001:=by
  unfold Builtin.Range.rangeSize;rw[aC (by omega)];split
  .have e0:0<=(b-a-1) / c:=IE (by omega) (by omega);have e1:(b-a-1) / c<=b-a-1:=IB _ (by omega);omega
  .omega
 refine⟨?_,hr.1⟩;unfold Builtin.Range.small;simp only[Builtin.Range.rangeFitsLong,BV,Bool.or_eq_true,decide_eq_true_eq,lq,show c>0 from h5,oS];omega
end
def XG(signs:Str)(c:Nat):Du signs c=decide (c∈signs.cps.toList):=PySem.StrLaws.found_one signs c
open Builtin Builtin.Str
section
variable {X:Cx}
end
def NV(c:Int)(j d:Nat):(c+(j:Int)*26 ^ d) / 26 ^ d=c / 26 ^ d+(j:Int):=by have hp:(26:Int) ^ d≠0:=Int.ne_of_gt (Int.pow_pos (by decide));rw[Int.add_mul_ediv_right _ _ hp]
variable {nss:Da (Da Nat)}{t:Nat}
theorem R3{c:Int}{d:Nat}(h2:d<n)(ht:t<=26)(h:∀j:Nat,j<t->lz (c+(j:Int)*26 ^ d) n∈nss):t<=nss.length:=by
 have hn:((List.range t).map λj=>lz (c+((j:Nat):Int)*26 ^ d) n).Nodup:=by have:(List.range t).Pairwise (λa b=>a<b):=List.pairwise_lt_range;refine List.Pairwise.map _ ?_ (List.Pairwise.and_mem.mp this);rintro a b ⟨ha,hb,hab⟩ e;have ha':=xH.mp ha;have hb':=xH.mp hb;have:=XD h2 e;rw[NV,NV]at this;omega
 have:=JP hn λx hx=>by obtain⟨j,hj,rfl⟩:=bR.mp hx;exact h j (xH.mp hj)
 rw[aF,BU]at this;exact this
inductive Z4(K:Fg)(vs:Da V)(H:Hp)(Q:VK)(E:XK):Prop
 |mk(a:Addr)(ms:Da Int)(k:Int)(BT:Nat)(_:vs=[.ref a,.int k,.int (BT:Int)])(_:aA K H a (ms.map V.int))(_:ms.length<=63)(_:0<=k)(_:BT<=25)(_:∀(z:Addr) (nss:Da (Da Nat)) (H':Hp),aG H H'->H' z=some (.lst (ug nss))->H z=none->nss.length=BT->nss.Nodup->(∀x∈nss,o8 x)->Q (.ref z) H')
def EZ(K:Fg):Sp:=bx (Z4 K)
def Gy{Q:VK}{E:XK}{ms:Da Int}{k mi:Int}{BT:Nat}(hmi:mi=(BT:Int))(hS:aA K H a (ms.map V.int))(h63:ms.length<=63)(h1:0<=k)(h2:BT<=25)(h:∀(z:Addr) (nss:Da (Da Nat)) (H':Hp),aG H H'->H' z=some (.lst (ug nss))->H z=none->nss.length=BT->nss.Nodup->(∀x∈nss,o8 x)->Q (.ref z) H'):EZ K [.ref a,.int k,.int mi] H Q E:=by
 subst hmi
 exact⟨a,ms,k,BT,Z,hS,h63,h1,h2,h⟩
def wU{a:Da (Key×V)}{b:Da (Key×Value)}(r:KV a b):∀{j:Nat}{p:Key×V},a[j]?=some p->∃q,b[j]?=some q/\p.1=q.1/\RelV p.2 q.2:=by
 induction r with
 | nil=>intro j p z;simp at z
 | cons r1 _ ih=>
  intro j p z;cases j with
  | zero=>simp at z;subst z;exact⟨_,Z,r1⟩
  | succ j=>simp at z;obtain⟨q,a1,a2⟩:=ih z;exact⟨q,by simpa using a1,a2⟩
abbrev oj(H:Hp)(d:Addr)(o:Obj)(Ap:Da (Key×V)):Prop:=H d=some (.fF o (.dK Ap))
section
variable {X:Cx}{AT:AO}{σ σ':St}{H H':Hp}{s s':Shared}{d:Addr}{Ap:Da (Key×V)}{o:Obj}
def Inv.freeze(I:Inv X AT σ H s)(e:H d=some (.dK Ap))(ho:s.heap.get? d=some o):Inv X AT σ (upd H d (.fF o (.dK Ap))) s:=by
 have nd:∀{b:Addr},H b=none->b≠d:=λh z=>by rw[z,e]at h;cases h
 have dn:∀{b:Addr},H b=none->upd H d (.fF o (.dK Ap)) b=none:=λh=>by rw[av (nd h)];exact h
 have un:∀{b:Addr}{u:HO},H b=some u->(∀k,u ≠ .dK k)->b≠d:=λh k z=>by rw[z,e]at h;cases h;exact k _ rfl
 refine⟨I.ok,I.os,I.bare,⟨I.base.keep,I.base.slot,λb ob q n x=>dn (I.base.free b ob q n x),I.base.there,λb xs q=>?_,λb ob u q=>?_,λb ps q=>?_⟩,I.loc,I.cell,dn I.free,λx c q=>dn (I.jI x c q),λp hp=>?_,λb ob q=>?_,I.len⟩
 .have:=I.base.tups b xs q;rw[av (un this λk z=>by cases z)];exact this
 .have:=I.base.mO b ob u q;rw[av (un this λk z=>by cases z)];exact this
 .obtain ⟨more,this⟩:=I.base.oU b ps q;exact⟨more,by rw[av (un this λk z=>by cases z)];exact this⟩
 .obtain ⟨h1,h2,h3⟩:=I.pin p hp;exact⟨h1,dn h2,h3⟩
 .by_cases hb:b=d
  .subst hb;rw[ah]at q;cases q;have:=I.hok b _ e;exact⟨ho,this⟩
  .rw [av hb]at q;refine(I.hok b ob q).stay (λc u _ z=>z) (λc z=>?_) λc xs z=>?_
   .rw [av (un z λk z=>by cases z)];exact z
   .rw [av (un z λk z=>by cases z)];exact z
def Inv.B_(I:Inv X AT σ H s)(e:oj H d o Ap)(h0:∀o u,X.H₀ d≠some (.fF o u)):Inv X AT σ (upd H d (.dK Ap)) s:=by
 have nd:∀{b:Addr},H b=none->b≠d:=λh z=>by rw[z]at h;exact absurd (h.symm.trans e) (by simp)
 have dn:∀{b:Addr},H b=none->upd H d (.dK Ap) b=none:=λh=>by rw[av (nd h)];exact h
 have un:∀{b:Addr}{u:HO},H b=some u->(∀o k,u ≠ .fF o k)->b≠d:=λh k z=>by rw[z]at h;have:=h.symm.trans e;cases this;exact k _ _ rfl
 refine⟨I.ok,I.os,I.bare,⟨I.base.keep,I.base.slot,λb ob q n x=>dn (I.base.free b ob q n x),I.base.there,λb xs q=>?_,λb ob u q=>?_,λb ps q=>?_⟩,I.loc,I.cell,dn I.free,λx c q=>dn (I.jI x c q),λp hp=>?_,λb ob q=>?_,I.len⟩
 .have:=I.base.tups b xs q;rw[av (un this λ_ k z=>by cases z)];exact this
 .have:=I.base.mO b ob u q;rw[av (λ(z:b=d)=>h0 ob u (by rw[<-z];exact q))];exact this
 .obtain ⟨more,this⟩:=I.base.oU b ps q;exact⟨more,by rw[av (un this λ_ k z=>by cases z)];exact this⟩
 .obtain ⟨h1,h2,h3⟩:=I.pin p hp;exact⟨h1,dn h2,h3⟩
 .by_cases hb:b=d
  .subst hb;rw[ah]at q;cases q;exact(I.hok b _ e).2
  .rw [av hb]at q;refine(I.hok b ob q).stay (λc u _ z=>z) (λc z=>?_) λc xs z=>?_
   .rw [av (un z λ_ k z=>by cases z)];exact z
   .rw [av (un z λ_ k z=>by cases z)];exact z
def Inv.R4(I:Inv X AT σ H s)(e:H d=some (.dK Ap)):∀o u,X.H₀ d≠some (.fF o u):=λo u z=>by have:=I.base.mO d o u z;rw[e]at this;cases this
def Inv.qV(I:Inv X AT σ H s)(e:oj H d o Ap):s.heap.get? d=some o/\Ap.length<=sizeLine/\(d==sysModules)=false/\∃vs ep,KV Ap vs/\s.heap.DictAt (cY X.prog X.w) d vs ep:=by
 obtain⟨ho,hz,hs,vs,r,dd⟩:=(show dM X.prog X.w H s.heap d (.fF o (.dK Ap))from I.hok d _ e)
 obtain⟨ep,da⟩:=dd.dictAt;exact⟨ho,hz,hs,vs,ep,r,da⟩
end
def Ends.B_(D:Ends)(d:Addr)(o:Obj)(Ap:Da (Key×V)):Ends where
 nx:=λσ H=>oj H d o Ap/\D.nx σ (upd H d (.dK Ap))
 rt:=λv H=>oj H d o Ap/\D.rt v (upd H d (.dK Ap))
 bk:=λσ H=>oj H d o Ap/\D.bk σ (upd H d (.dK Ap))
 ct:=λσ H=>oj H d o Ap/\D.ct σ (upd H d (.dK Ap))
inductive af6(t:TS)(D:Ends)(σ:St)(H:Hp):Prop
 |mk(d Ap:_)(_:H d=some (.dK Ap))(_:∀o,t (D.B_ d o Ap) σ (upd H d (.fF o (.dK Ap))))
def af7(t:TE):TE:=λσ H Q=>∃d Ap,H d=some (.dK Ap)/\∀o,t σ (upd H d (.fF o (.dK Ap))) λv H'=>oj H' d o Ap/\Q v (upd H' d (.dK Ap))
def Itv(d:Addr)(o:Obj)(Ap:Da (Key×V)):It:=⟨λi H=>oj H d o Ap/\i<Ap.length,λi H x H'=>H'=H/\∃p,Ap[i]?=some p/\x=p.2,λi H=>oj H d o Ap/\Ap.length<=i⟩
def Iti(d:Addr)(o:Obj)(Ap:Da (Key×V)):It:=⟨λi H=>oj H d o Ap/\i<Ap.length,λi H x H'=>∃a p,H a=none/\Ap[i]?=some p/\x =.ref a/\H'=upd H a (.tup [kV p.1,p.2]),λi H=>oj H d o Ap/\Ap.length<=i⟩
variable {h:Heap}{d:Addr}
def AL{w:World}{vs:Da (Key×Value)}{e1 e2:Nat}{o:Obj}{es:Array DictEntry}(da:h.DictAt (cY P w) d vs e1)(ho:h.get? d=some o)(hd:o.data =.dict es e2):e1=e2:=by obtain⟨o',es',h1,_,h2,_⟩:=da;rw[ho]at h1;cases h1;rw[hd]at h2;cases h2;rfl
def JQ{w:World}{k:Key}{v:Value}(h:(cY P w).is k v=true):RelV (kV k) v:=by
 rw[Ph]at h;rcases gm h with⟨i,t,rfl,rfl⟩|⟨x,t,rfl,rfl⟩
 .exact ⟨t,Z⟩
 .exact ⟨t,Z⟩
variable {it:Addr}{Ap:Da (Key×V)}{ep:Nat}
theorem R5{w:World}{o:Obj}{es:Array DictEntry}(hd:o.data =.dict es ep):Turn P w K tg (Itv d o Ap) [it] it (λi h=>h.IsValIter it d i Ap.length ep) where
 mem:=by simp
 obj:=λi h st b hb=>by
  have e:b=it:=by simpa using hb
  subst e;obtain⟨o,e,c,d⟩:=st;exact⟨o,e,λv z=>by rw[d]at z;cases z⟩
 keep:=λi h h' st k=>st.at λo e=>k it (by simp) o e
 item:=by intro X hP hw hK hc i AT s σ H E I hf st hg;subst hP hw hK;obtain⟨hz,hlt⟩:=hg;obtain⟨ho,_,_,vs,wK,r,da⟩:=I.qV hz;cases AL da ho hd;have hl:Ap.length=vs.length:=r.length;obtain⟨q,hq,_,rq⟩:=wU r (aS hlt);obtain⟨qk,qv⟩:=q;rw[hl]at st;obtain⟨f0,f1,f2,f3,f4,f5⟩:=hf it (by simp);refine wpAny_pyNext_values_item st da hq λh' st' sb=>?_;have I1:Inv X AT σ H { s with heap:=h' }:=I.turned (t':=s.toks) (λb o hb e=>(sb.2 b hb).trans e) f0 f1 f3 f4 f5;obtain⟨oi,e,c,dd⟩:=id st';exact⟨_,Z,Ax (s:={ s with heap:=h' }) e c dd (by decide) ⟨Ap[i].2,H,I1,rq,⟨Z,Ap[i],aS hlt,Z⟩,by rw[hl];exact st',λb hb=>(hf b hb).1⟩⟩
 done:=by intro X hP hw hK hc i AT s σ H E I hf st hg;subst hP hw hK;obtain⟨hz,hle⟩:=hg;obtain⟨ho,_,_,vs,wK,r,da⟩:=I.qV hz;cases AL da ho hd;have hl:Ap.length=vs.length:=r.length;rw[hl]at st;obtain⟨f0,f1,f2,f3,f4,f5⟩:=hf it (by simp);exact wpAny_pyNext_values_end (I.ok.hd hc) st da (by rw[tZ];omega) λh' eb=>⟨Z,I.turned (t':=s.toks) (λb o hb e=>eb b o hb e) f0 f1 f3 f4 f5⟩
 self:=λ_ _ _ _ _ st h=>wpAny_pyIter_valiter st h
variable {DD:Da Expr}
theorem PU{w:World}{kk:Nat}{o:Obj}{es:Array DictEntry}(hd:o.data =.dict es ep):Turn P w K (.Tuple DD kk pos) (Iti d o Ap) [it] it (λi h=>∃ok ov,IsItemIter h it d i Ap.length ep ok ov) where
 mem:=by simp
 obj:=λi h st b hb=>by
  have e:b=it:=by simpa using hb
  subst e;obtain⟨ok,ov,e⟩:=st;exact⟨_,e,λv z=>by cases z⟩
 keep:=λi h h' ⟨ok,ov,st⟩ k=>⟨ok,ov,k it (by simp) _ st⟩
 item:=by
  intro X hP hw hK hc i AT s σ H E I hf st hg;subst hP hw hK;obtain⟨hz,hlt⟩:=hg;obtain⟨ok,ov,st⟩:=st;obtain⟨ho,_,_,vs,wK,r,da⟩:=I.qV hz;cases AL da ho hd;have hl:Ap.length=vs.length:=r.length;obtain⟨q,hq,ek,rq⟩:=wU r (aS hlt);obtain⟨qk,qv⟩:=q;rw[hl]at st;obtain⟨f0,f1,f2,f3,f4,f5⟩:=hf it (by simp);refine wpAny_pyNext_items_item st da hq λkey h1 hk st1 ht hsz hkeep=>?_;refine⟨_,Z,wpAny_letOwnedTupleGo_items (s:={ s with heap:=h1 }) st1 λh2 st2 sb=>?_⟩;have rk:RelV (kV Ap[i].1) key:=by rw[ek];exact JQ hk
  have hil:it≠s.heap.objs.size:=dW (bK st);have vz:∀b o,b≠it->s.heap.get? b=some o->h2.get? b=some o:=λb o hb e=>sb.extBut b o hb (hkeep b o hb e);have I1:Inv X AT σ (upd H s.heap.objs.size (.tup [kV Ap[i].1,Ap[i].2])) { s with heap:=h2 }:=by
   have J:Inv X AT σ H { s with heap:=h2 }:=I.turned (t':=s.toks) vz f0 f1 f3 f4 f5;have hn:=I.fresh;have J2:Inv X AT σ (upd H s.heap.objs.size (.tup [kV Ap[i].1,Ap[i].2])) { s with heap:=h2,gens:=s.gens,drawn:=s.drawn,toks:=s.toks }:=by
    refine I.step (ch:=[it]) (λb hb=>⟨(hf b hb).2.2.2.1,(hf b hb).2.1,(hf b hb).2.2.2.2.1,(hf b hb).2.2.2.2.2⟩) (λb o _ _ hc' e _=>vz b o (by simpa using hc') e) (λb o _ _ hc' e _=>⟨o.slots,vz b o (by simpa using hc') e⟩) (λb o _ e n=>by rw[av (dW (bK e))];exact n) (λb o hc' e=>⟨o,vz b o (by simpa using hc') e⟩)
     (λb zs q=>by rw[av (aH q hn)];exact q) (λb o zs q=>by rw[av (aH q hn)];exact q) (λb ps q=>⟨#[],by rw[av (aH q hn),q];simp⟩) (λm hm=>?_) (λb ob e=>?_) I.bare
    .obtain ⟨o,es,ep,ho,r⟩:=hm;exact⟨o,es,ep,vz _ o (λq=>f1 q.symm) ho,r⟩
    .by_cases hb:b=s.heap.objs.size
     .subst hb;rw[ah]at e;cases e;exact⟨by show 2<=sizeLine;decide,[key,qv],.cons rk (.cons rq .nil),_,sb.extBut _ _ hil.symm ht,Z,0,Z⟩
     .rw [av hb]at e;refine(I.hok b ob e).stay (λc v R6 q=>?_) (λc q=>by rw[av (aH q hn)];exact q) λc zs q=>by rw[av (aH q hn)];exact q
      refine vz c v (λz=>?_) q;rcases R6 with r|r
      .rw [r]at z;rw[z,f0]at e;cases e
      .rw [z,f0]at r;cases r
   exact J2
  refine⟨.ref s.heap.objs.size,_,I1,Z,⟨_,Ap[i],I.fresh,aS hlt,Z,Z⟩,⟨key,qv,by rw[hl];exact st2⟩,λb hb=>?_⟩;have eb:b=it:=by simpa using hb
  subst eb;rw[av hil];exact f0
 done:=by intro X hP hw hK hc i AT s σ H E I hf st hg;subst hP hw hK;obtain⟨hz,hle⟩:=hg;obtain⟨ok,ov,st⟩:=st;obtain⟨ho,_,_,vs,wK,r,da⟩:=I.qV hz;cases AL da ho hd;have hl:Ap.length=vs.length:=r.length;rw[hl]at st;obtain⟨f0,f1,f2,f3,f4,f5⟩:=hf it (by simp);exact wpAny_pyNext_items_end (I.ok.hd hc) st da (by rw[tZ];omega) λh' eb=>⟨Z,I.turned (t':=s.toks) (λb o hb e=>eb b o hb e) f0 f1 f3 f4 f5⟩
 self:=λA i s Q E ⟨ok,ov,st⟩ h=>PySem.W.kcp_self st h
section
variable {X:Cx}{tg:Expr}
inductive Z5(R:It->Hp->Prop)(x:V)(H1:Hp):Prop
 |mk(d o Ap:_)(_:x =.ref d)(_:oj H1 d o Ap)(_:R (Itv d o Ap:_) H1)
def acR(td:TE):TI:=λσ H R=>td σ H (Z5 R)
inductive XH(R:It->Hp->Prop)(x:V)(H1:Hp):Prop
 |mk(d o Ap:_)(_:x =.ref d)(_:oj H1 d o Ap)(_:R (Iti d o Ap:_) H1)
def Z6(td:TE):TI:=λσ H R=>td σ H (XH R)
end
variable {J:It}{tb:TS}{D:Ends}
theorem uh(Pv:Nat->St->Hp->Prop)(h0:Pv 0 σ H)(hgo:∀i σ H,i<n->Pv i σ H->J.go i H)(hst:∀σ H,Pv n σ H->J.stop n H)(hs:∀i x σ H H',i<n->Pv i σ H->J.C3 i H x H'->g x σ H' (tb (D.lp (Pv (i+1)))))(hd:∀σ H,Pv n σ H->D.nx σ H):
  IL g tb D σ (J) H:=by
 refine⟨λi m σ H=>m=n-i/\i<=n/\Pv i σ H,⟨n,by simp,eV _,h0⟩,?_⟩
 rintro i m σ H ⟨rfl,hi,p⟩
 by_cases hlt:i<n
 . exact .inr ⟨hgo i σ H hlt p,Pv (i+1),λσ' H' p'=>⟨n-(i+1),by omega,Z,hlt,p'⟩,λx H' y=>hs i x σ H H' hlt p y⟩
 . have e:i=n:=by omega
   subst e
   exact .inl ⟨hst σ H p,hd σ H p⟩
section
variable {prog:Program}{w:World}{K:Type}[DecidableEq K]{knd:KeyKind prog w K}{A:Around}{E:VS}{s:Shared}
theorem Mu{Ap:Da (K×Value)}{k:K}{v:Value}{Q:VS}(hit:s.heap.IsKeyIter it d i Ap.length ep)(hm:s.heap.DictAt knd d Ap ep)(hx:Ap[i]?=some (k,v))(hQ:∀key h',knd.is k key=true->h'.IsKeyIter it d (i+1) Ap.length ep->Heap.SameBut it s.heap h'->Q key { s with heap:=h' }):
  wpAny (model prog w) A (Builtin.SmallTypes.nextOf (.ref it)) Q E s:=by
 obtain⟨o,ho,hc,hd⟩:=id hit;obtain⟨od,es,hod,hcd,zj,hk,hp,hn⟩:=id hm
 unfold Builtin.SmallTypes.nextOf
 refine aq (xx (name:=Str.ofString "__next__") hit.typeIs VX (xD VX hit.typeIs F.entry_dict_keyiterator_next ?_ (F.args_dict_keyiterator_next_1 _)))
 refine aq (aJ ?_);refine aq (aq ?_)
 first|(refine aq (VU hit.typeIs (aJ ?_));refine aq (vq ho hd ?_))|(refine aq (OZ hit.typeIs (aJ ?_));refine aq (vq ho hd ?_))
 have own:Builtin.Dict_items.ownsTuple "dict_keyiterator"=false:=by decide
 simp only[own,EM,lu]
 show wpAny _ _ (if(Value.ref d==Value.none)=true then _ else _) _ _ _
 rw[aB (λz=>fQ z:¬ ((Value.ref d==Value.none)=true))];refine aq (aJ ?_)
 have sz:es.size=Ap.length:=by have:=hp.length;simpa using this
 refine aq (Pg hod zj ?_);rw[aB (by rw[sz];simp)]
 refine aq (aJ ?_);refine aq (II hod zj ?_)
 rw[aB (by simp)];refine aJ ?_
 have lt:i<Ap.length:=(d8.mp hx).1
 have lt':i<es.size:=by omega
 have kv:=hp.get? (e:=es[i]) (by simp[lt']) hx
 simp only[show ¬ ((i:Int)<0)from by omega,lu,vR,Array.getElem?_eq_getElem lt'];refine aq ?_
 first|(refine aq (VU hit.typeIs (aJ ?_));refine aq (wpAny_isOneOf_keyiter hit.typeIs ?_))|(refine aq (OZ hit.typeIs (aJ ?_));refine aq (wpAny_isOneOf_keyiter hit.typeIs ?_))
 show wpAny _ _ (setField (.ref it) 1 (rawInt ((i:Int)+1)) >>= _) _ _ _
 refine aq (An ho hd (by simp) ?_)
 have E1:(s.heap.update it (Obj.mapFields (·.setIfInBounds 1 (rawInt ((i:Int)+1))))).IsKeyIter it d (i+1) Ap.length ep:=⟨_,BQ _ ho (Obj.isFreed_of_fields (EN hd _)),(Obj.cls_mapFields ..).trans hc,by rw[EN hd];simp[rawInt]⟩
 refine aq (xJ (aq (wpAny_isOneOf_keyiter (s:={ s with heap:=s.heap.update it (Obj.mapFields (·.setIfInBounds 1 (rawInt ((i:Int)+1)))) }) E1.typeIs ?_)))
 exact aJ (aJ ⟨_,Z,aJ (hQ _ _ kv.1 E1 (EJ ..))⟩)
theorem PV{Ap:Da (K×Value)}{Q:VS}(hh:A.handled=none)(hit:s.heap.IsKeyIter it d i Ap.length ep)(hm:s.heap.DictAt knd d Ap ep)(hx:Ap[i]?=none)(hE:∀h' e,Heap.ExtBut it s.heap h'->(∃o,h'.get? e=some o/\o.cls =.type "StopIteration")->E (.ref e) { s with heap:=h' }):
  wpAny (model prog w) A (Builtin.SmallTypes.nextOf (.ref it)) Q E s:=by
 obtain⟨o,ho,hc,hd⟩:=id hit;obtain⟨od,es,hod,hcd,zj,hk,hp,hn⟩:=id hm
 unfold Builtin.SmallTypes.nextOf
 refine aq (xx (name:=Str.ofString "__next__") hit.typeIs VX (xD VX hit.typeIs F.entry_dict_keyiterator_next ?_ (F.args_dict_keyiterator_next_1 _)))
 refine aq (aJ ?_);refine aq (aq ?_)
 first|(refine aq (VU hit.typeIs (aJ ?_));refine aq (vq ho hd ?_))|(refine aq (OZ hit.typeIs (aJ ?_));refine aq (vq ho hd ?_))
 have own:Builtin.Dict_items.ownsTuple "dict_keyiterator"=false:=by decide
 simp only[own,EM,lu]
 show wpAny _ _ (if(Value.ref d==Value.none)=true then _ else _) _ _ _
 rw[aB (λz=>fQ z:¬ ((Value.ref d==Value.none)=true))];refine aq (aJ ?_)
 have sz:es.size=Ap.length:=by have:=hp.length;simpa using this
 refine aq (Pg hod zj ?_);rw[aB (by rw[sz];simp)]
 refine aq (aJ ?_);refine aq (II hod zj ?_)
 rw[aB (by simp)];refine aJ ?_
 have ge:es.size<=i:=by rw[sz];simpa using hx
 simp only[show ¬ ((i:Int)<0)from by omega,lu,vR,Array.getElem?_eq_none ge];refine aq ?_
 first|(refine aq (VU hit.typeIs (aJ ?_));show wpAny _ _ (setField (.ref it) 0 .none >>= _) _ _ _)|(refine aq (OZ hit.typeIs (aJ ?_));show wpAny _ _ (setField (.ref it) 0 .none >>= _) _ _ _)
 refine aq (An ho hd (by simp) ?_);show wpAny _ _ (newExc (.type "StopIteration") [] >>= _) _ _ _
 refine aq ?_;simp only[newExc,newTuple]
 refine aq (qj ?_ (by size_fits));refine aq (m:=firstArgMember _ _) (wpAny_of_eq (a:=Value.none) (by first|rfl|(simp only[firstArgMember];rfl)) ?_)
 refine qj ?_ (by size_fits);simp only[raiseNew]
 refine aq (wpAny_handled ?_);rw[show A.in1.handled=none from hh]
 exact aq (aJ (wpAny_throw (hE _ _ (((EJ ..).extBut.push _).push _) ⟨_,dZ _ rfl,Z⟩)))
theorem Mv{Ap:Da (K×Value)}{k:K}{v:Value}{Q:VS}(hit:s.heap.IsValIter it d i Ap.length ep)(hm:s.heap.DictAt knd d Ap ep)(hx:Ap[i]?=some (k,v))(hQ:∀h',h'.IsValIter it d (i+1) Ap.length ep->Heap.SameBut it s.heap h'->Q v { s with heap:=h' }):
  wpAny (model prog w) A (Builtin.SmallTypes.nextOf (.ref it)) Q E s:=by
 obtain⟨o,ho,hc,hd⟩:=id hit;obtain⟨od,es,hod,hcd,zj,hk,hp,hn⟩:=id hm
 unfold Builtin.SmallTypes.nextOf
 refine aq (xx (name:=Str.ofString "__next__") hit.typeIs VT (xD VT hit.typeIs F.entry_dict_valueiterator_next ?_ (F.args_dict_valueiterator_next_1 _)))
 refine aq (aJ ?_);refine aq (aq ?_)
 first|(refine aq (VW hit.typeIs (aJ ?_));refine aq (vq ho hd ?_))|(refine aq (O0 hit.typeIs (aJ ?_));refine aq (vq ho hd ?_))
 have own:Builtin.Dict_items.ownsTuple "dict_valueiterator"=false:=by decide
 simp only[own,EM,lu]
 show wpAny _ _ (if(Value.ref d==Value.none)=true then _ else _) _ _ _
 rw[aB (λz=>fQ z:¬ ((Value.ref d==Value.none)=true))];refine aq (aJ ?_)
 have sz:es.size=Ap.length:=by have:=hp.length;simpa using this
 refine aq (Pg hod zj ?_);rw[aB (by rw[sz];simp)]
 refine aq (aJ ?_);refine aq (II hod zj ?_)
 rw[aB (by simp)];refine aJ ?_
 have lt:i<Ap.length:=(d8.mp hx).1
 have lt':i<es.size:=by omega
 have kv:=hp.get? (e:=es[i]) (by simp[lt']) hx
 simp only[show ¬ ((i:Int)<0)from by omega,lu,vR,Array.getElem?_eq_getElem lt'];refine aq ?_
 first|(refine aq (VW hit.typeIs (aJ ?_));refine aq (O2 hit.typeIs ?_))|(refine aq (O0 hit.typeIs (aJ ?_));refine aq (O2 hit.typeIs ?_))
 show wpAny _ _ (setField (.ref it) 1 (rawInt ((i:Int)+1)) >>= _) _ _ _
 refine aq (An ho hd (by simp) ?_)
 have E1:(s.heap.update it (Obj.mapFields (·.setIfInBounds 1 (rawInt ((i:Int)+1))))).IsValIter it d (i+1) Ap.length ep:=⟨_,BQ _ ho (Obj.isFreed_of_fields (EN hd _)),(Obj.cls_mapFields ..).trans hc,by rw[EN hd];simp[rawInt]⟩
 refine aq (xJ (aq (O2 (s:={ s with heap:=s.heap.update it (Obj.mapFields (·.setIfInBounds 1 (rawInt ((i:Int)+1)))) }) E1.typeIs ?_)))
 refine aq (O2 (s:={ s with heap:=s.heap.update it (Obj.mapFields (·.setIfInBounds 1 (rawInt ((i:Int)+1)))) }) E1.typeIs ?_)
 exact aJ (aJ ⟨_,Z,aJ (kv.2▸hQ _ E1 (EJ ..))⟩)
theorem PY{Ap:Da (K×Value)}{Q:VS}(hh:A.handled=none)(hit:s.heap.IsValIter it d i Ap.length ep)(hm:s.heap.DictAt knd d Ap ep)(hx:Ap[i]?=none)(hE:∀h' e,Heap.ExtBut it s.heap h'->(∃o,h'.get? e=some o/\o.cls =.type "StopIteration")->E (.ref e) { s with heap:=h' }):
  wpAny (model prog w) A (Builtin.SmallTypes.nextOf (.ref it)) Q E s:=by
 obtain⟨o,ho,hc,hd⟩:=id hit;obtain⟨od,es,hod,hcd,zj,hk,hp,hn⟩:=id hm
 unfold Builtin.SmallTypes.nextOf
 refine aq (xx (name:=Str.ofString "__next__") hit.typeIs VT (xD VT hit.typeIs F.entry_dict_valueiterator_next ?_ (F.args_dict_valueiterator_next_1 _)))
 refine aq (aJ ?_);refine aq (aq ?_)
 first|(refine aq (VW hit.typeIs (aJ ?_));refine aq (vq ho hd ?_))|(refine aq (O0 hit.typeIs (aJ ?_));refine aq (vq ho hd ?_))
 have own:Builtin.Dict_items.ownsTuple "dict_valueiterator"=false:=by decide
 simp only[own,EM,lu]
 show wpAny _ _ (if(Value.ref d==Value.none)=true then _ else _) _ _ _
 rw[aB (λz=>fQ z:¬ ((Value.ref d==Value.none)=true))];refine aq (aJ ?_)
 have sz:es.size=Ap.length:=by have:=hp.length;simpa using this
 refine aq (Pg hod zj ?_);rw[aB (by rw[sz];simp)]
 refine aq (aJ ?_);refine aq (II hod zj ?_)
 rw[aB (by simp)];refine aJ ?_
 have ge:es.size<=i:=by rw[sz];simpa using hx
 simp only[show ¬ ((i:Int)<0)from by omega,lu,vR,Array.getElem?_eq_none ge];refine aq ?_
 first|(refine aq (VW hit.typeIs (aJ ?_));show wpAny _ _ (setField (.ref it) 0 .none >>= _) _ _ _)|(refine aq (O0 hit.typeIs (aJ ?_));show wpAny _ _ (setField (.ref it) 0 .none >>= _) _ _ _)
 refine aq (An ho hd (by simp) ?_);show wpAny _ _ (newExc (.type "StopIteration") [] >>= _) _ _ _
 refine aq ?_;simp only[newExc,newTuple]
 refine aq (qj ?_ (by size_fits));refine aq (m:=firstArgMember _ _) (wpAny_of_eq (a:=Value.none) (by first|rfl|(simp only[firstArgMember];rfl)) ?_)
 refine qj ?_ (by size_fits);simp only[raiseNew]
 refine aq (wpAny_handled ?_);rw[show A.in1.handled=none from hh]
 exact aq (aJ (wpAny_throw (hE _ _ (((EJ ..).extBut.push _).push _) ⟨_,dZ _ rfl,Z⟩)))
end
structure zm(P:Program)(w:World)(K:Fg)(S:Hp->Prop)(xs:Da V)(it l:Addr)(tn:Nat->Heap->Prop)(src:Heap->Prop):Prop where
 obj:∀i h,tn i h->∃o,h.get? it=some o/\∀v,o.data ≠ .cell v
 keep:∀i h h',tn i h->(∀o,h.get? it=some o->h'.get? it=some o)->tn i h'
 vA:∀h h',src h->(∀o,h.get? l=some o->h'.get? l=some o)->src h'
 Gz:∀(X:Cx),X.prog=P->X.w=w->X.K=K->∀(AT:AO)(σ:St)(H:Hp)(s:Shared),Inv X AT σ H s->S H->src s.heap
 item:∀(A:Around)(i:Nat)(x:V)(s:Shared)(Q:VS)(E:VS),tn i s.heap->src s.heap->xs[i]?=some x->(∀u h',RelV x u->tn (i+1) h'->Heap.SameBut it s.heap h'->Q u { s with heap:=h' })->wpAny (model P w) A (Builtin.SmallTypes.nextOf (.ref it)) Q E s
 done:∀(A:Around)(i:Nat)(s:Shared)(Q:VS)(E:VS),A.handled=none->tn i s.heap->src s.heap->xs.length<=i->(∀h' e,Heap.ExtBut it s.heap h'->(∃o,h'.get? e=some o/\o.cls =.type "StopIteration")->E (.ref e) { s with heap:=h' })->wpAny (model P w) A (Builtin.SmallTypes.nextOf (.ref it)) Q E s
theorem U_{w:World}{l:Addr}:zm P w K (λH=>aA K H l xs) xs it l (λi h=>h.IsListIter it l i) (λh=>∃Bi:Da Value,Vals xs Bi/\h.IsList l Bi.toArray) where
 obj:=λi h ⟨o,e,c,d⟩=>⟨o,e,λv z=>by rw[d]at z;cases z⟩
 keep:=λi h h' st k=>st.at k
 vA:=λh h' ⟨Bi,r,hl⟩ k=>⟨Bi,r,hl.at k⟩
 Gz:=λX hP hw hK AT σ H s I h=>by subst hP hw hK;obtain⟨Bi,rv,p,_⟩:=I.list h;exact⟨Bi,rv,p.isList⟩
 item:=λA i x s Q E st ⟨Bi,r,hl⟩ hx hQ=>by obtain⟨u,hu,ru⟩:=r.get hx;exact wpAny_nextOf_list_item st hl (by simpa using hu) λh' st' sb=>hQ u h' ru st' sb
 done:=λA i s Q E hh st ⟨Bi,r,hl⟩ hx hE=>wpAny_nextOf_list_end hh st hl (by have:=r.length;simp;omega) hE
theorem Va{w:World}{o:Obj}{es:Array DictEntry}(hd:o.data =.dict es ep):zm P w K (λH=>oj H d o Ap) (Ap.map λp=>kV p.1) it d (λi h=>h.IsKeyIter it d i Ap.length ep) (λh=>∃vs,KV Ap vs/\h.DictAt (cY P w) d vs ep) where
 obj:=λi h ⟨o,e,c,d⟩=>⟨o,e,λv z=>by rw[d]at z;cases z⟩
 keep:=λi h h' st k=>st.at k
 vA:=λh h' ⟨vs,r,hl⟩ k=>⟨vs,r,hl.at' k⟩
 Gz:=λX hP hw hK AT σ H s I h=>by subst hP hw hK;obtain⟨ho,_,_,vs,wK,r,da⟩:=I.qV h;cases AL da ho hd;exact⟨vs,r,da⟩
 item:=λA i x s Q E st ⟨vs,r,da⟩ hx hQ=>by rw[bF]at hx;obtain⟨p,hp,rfl⟩:=kT.mp hx;obtain⟨q,hq,ek,rq⟩:=wU r hp;obtain⟨qk,qv⟩:=q;have hl:Ap.length=vs.length:=r.length;rw[hl]at st;exact Mu st da hq λkey h' hk st' sb=>hQ key h' (by rw[ek];exact JQ hk) (by rw[hl];exact st') sb
 done:=λA i s Q E hh st ⟨vs,r,da⟩ hx hE=>by have hl:Ap.length=vs.length:=r.length;rw[aF]at hx;rw[hl]at st;exact PV hh st da (by rw[tZ];omega) hE
theorem Vb{w:World}{o:Obj}{es:Array DictEntry}(hd:o.data =.dict es ep):zm P w K (λH=>oj H d o Ap) (Ap.map λp=>p.2) it d (λi h=>h.IsValIter it d i Ap.length ep) (λh=>∃vs,KV Ap vs/\h.DictAt (cY P w) d vs ep) where
 obj:=λi h ⟨o,e,c,d⟩=>⟨o,e,λv z=>by rw[d]at z;cases z⟩
 keep:=λi h h' st k=>st.at k
 vA:=λh h' ⟨vs,r,hl⟩ k=>⟨vs,r,hl.at' k⟩
 Gz:=λX hP hw hK AT σ H s I h=>by subst hP hw hK;obtain⟨ho,_,_,vs,wK,r,da⟩:=I.qV h;cases AL da ho hd;exact⟨vs,r,da⟩
 item:=λA i x s Q E st ⟨vs,r,da⟩ hx hQ=>by rw[bF]at hx;obtain⟨p,hp,rfl⟩:=kT.mp hx;obtain⟨q,hq,ek,rq⟩:=wU r hp;obtain⟨qk,qv⟩:=q;have hl:Ap.length=vs.length:=r.length;rw[hl]at st;exact Mv st da hq λh' st' sb=>hQ qv h' rq (by rw[hl];exact st') sb
 done:=λA i s Q E hh st ⟨vs,r,da⟩ hx hE=>by have hl:Ap.length=vs.length:=r.length;rw[aF]at hx;rw[hl]at st;exact PY hh st da (by rw[tZ];omega) hE
variable {y:V}
section
variable {P:Program}{w:World}{A:Around}{E:VS}{s:Shared}{K:Fg}{S1 S2:Hp->Prop}{xs ys:Da V}{z TI TO i1 i2 l1 l2:Addr}{t1 t2:Nat->Heap->Prop}{c1 c2:Heap->Prop}{i:Nat}
def R7{x:V}{a b:Value}{Q:VS}(D:ZipApart z TI TO i1 i2 l1 l2)(C1:zm P w K S1 xs i1 l1 t1 c1)(C2:zm P w K S2 ys i2 l2 t2 c2)(hz:IsZip s.heap z TI TO .none)(hTI:IsPair s.heap TI (.ref i1) (.ref i2))(hTO:IsPair s.heap TO a b)(h1:t1 i s.heap)(h2:t2 i s.heap)(hc1:c1 s.heap)(hc2:c2 s.heap)(hx:xs[i]?=some x)(hy:ys[i]?=some y)(hQ:∀u v h',RelV x u->RelV y v->IsZip h' z TI TO (rawInt s.heap.objs.size)->IsPair h' TO u v->t1 (i+1) h'->t2 (i+1) h'->IsPair h' s.heap.objs.size u v->h'.objs.size=s.heap.objs.size+1->
    (∀c o,c≠z->c≠TO->c≠i1->c≠i2->s.heap.get? c=some o->h'.get? c=some o)->Q (.ref s.heap.objs.size) { s with heap:=h' }):
  wpAny (model P w) A (Builtin.«zip.__next__» ⟨[.ref z],[]⟩) (λfin s'=>∃v,fin =.done (.ret v)/\Q v s') E s:=by
 show wpAny _ _ (field (.ref z) 2 >>= _) _ _ _
 refine aq (kB hz rfl (x:=.bool false) rfl ?_);show wpAny _ _ (field (.ref z) 3 >>= _) _ _ _
 refine aq (kB hz rfl (x:=.ref TI) rfl ?_);refine aq (tK hTI rfl ?_)
 show wpAny _ _ (Builtin.SmallTypes.ownedTupleIsFree (.ref z) >>= _) _ _ _
 refine aq ?_;unfold Builtin.SmallTypes.ownedTupleIsFree
 refine aq (kB hz rfl (x:=.none) rfl (aJ ?_));simp only[oS]
 refine aq (wpAny_rule ?_);refine aq (kB hz rfl (x:=.ref TO) rfl ?_)
 refine aq (EO hz (by simp) λhA mJ sA=>?_)
 replace mJ:IsZip hA z TI TO .ellipsis:=mJ
 refine aq ?_;simp only[List.zipIdx_cons,List.zipIdx_nil,IF,CU]
 refine aq (aq (wpAny_onRaise ?_));show wpAny _ _ (Builtin.SmallTypes.nextOf (.ref i1) >>= _) _ _ _
 refine aq (C1.item _ i x { s with heap:=hA } _ _ (C1.keep _ _ _ h1 λo e=>sA.extBut _ _ D.i1z e) (C1.vA _ _ hc1 λo e=>sA.extBut _ _ D.l1z e) hx λu hB ru h1B sB=>aJ ?_)
 have R8:IsPair hB TO a b:=sB.extBut _ _ D.TOi1 (sA.extBut _ _ D.TOz hTO)
 refine aq (tK R8 rfl ?_);refine aq (wpAny_updateSeq_pair R8 λhC Wi sC=>?_)
 replace Wi:IsPair hC TO u b:=Wi
 refine aq (wpAny_letGo (aJ ?_));refine aq (aq (wpAny_onRaise ?_))
 show wpAny _ _ (Builtin.SmallTypes.nextOf (.ref i2) >>= _) _ _ _
 refine aq (C2.item _ i y { s with heap:=hC } _ _ (C2.keep _ _ _ h2 λo e=>sC.extBut _ _ D.TOi2.symm (sB.extBut _ _ D.i12.symm (sA.extBut _ _ D.i2z e))) (C2.vA _ _ hc2 λo e=>sC.extBut _ _ D.l2TO (sB.extBut _ _ D.l2i1 (sA.extBut _ _ D.l2z e))) hy λv hD rv h2D sD=>aJ ?_)
 have TOD:IsPair hD TO u b:=sD.extBut _ _ D.TOi2 Wi
 refine aq (tK TOD rfl ?_);refine aq (wpAny_updateSeq_pair TOD λhE Wj sE=>?_)
 replace Wj:IsPair hE TO u v:=Wj
 refine aq (wpAny_letGo (aJ (aJ ?_)));refine aq (tK Wj rfl ?_)
 refine aq (wpAny_newTuple ?_)
 have sz:hE.objs.size=s.heap.objs.size:=by rw[sE.1,sD.1,sC.1,sB.1,sA.1]
 have zE:IsZip hE z TI TO .ellipsis:=sE.extBut _ _ D.TOz.symm (sD.extBut _ _ D.i2z.symm (sC.extBut _ _ D.TOz.symm (sB.extBut _ _ D.i1z.symm mJ)))
 have kE:∀c o,c≠z->c≠TO->c≠i1->c≠i2->s.heap.get? c=some o->hE.get? c=some o:=λc o c1 c2 c3 c4 e=>sE.extBut _ _ c2 (sD.extBut _ _ c4 (sC.extBut _ _ c2 (sB.extBut _ _ c3 (sA.extBut _ _ c1 e))))
 have t1E:t1 (i+1) hE:=C1.keep _ _ _ h1B λo e=>sE.extBut _ _ D.TOi1.symm (sD.extBut _ _ D.i12 (sC.extBut _ _ D.TOi1.symm e))
 have t2E:t2 (i+1) hE:=C2.keep _ _ _ h2D λo e=>sE.extBut _ _ D.TOi2.symm e
 have zlt:z<hE.objs.size:=bK zE
 show wpAny _ _ (Builtin.SmallTypes.ownedTupleHandOut (.ref z) (.ref hE.objs.size) >>= _) _ _ _
 refine aq ?_;unfold Builtin.SmallTypes.ownedTupleHandOut
 have zF:IsZip (hE.push { cls:=.type "tuple",data:=.seq #[u,v] }) z TI TO .ellipsis:=bU _ zE
 refine aq (EO zF (by simp) λhG zG sG=>?_)
 replace zG:IsZip hG z TI TO (rawInt hE.objs.size):=zG
 refine EO zG (by simp) λhI zI sI=>?_
 replace zI:IsZip hI z TI TO (rawInt hE.objs.size):=zI
 have up:∀c o,c≠z->hE.get? c=some o->hI.get? c=some o:=λc o c1 e=>sI.extBut _ _ c1 (sG.extBut _ _ c1 (bU _ e))
 have TI':IsPair hI hE.objs.size u v:=sI.extBut _ _ (xK zlt) (sG.extBut _ _ (xK zlt) (dZ _ rfl))
 have szI:hI.objs.size=hE.objs.size+1:=by rw[sI.1,sG.1,lY]
 rw[sz]at zI TI' szI
 refine aJ ⟨_,Z,?_⟩
 show Q (.ref hE.objs.size) _
 rw[sz]
 exact hQ u v hI ru rv zI (up _ _ D.TOz Wj) (C1.keep _ _ _ t1E λo e=>up _ o D.i1z e) (C2.keep _ _ _ t2E λo e=>up _ o D.i2z e) TI' szI λc o c1 c2 c3 c4 e=>up c o c1 (kE c o c1 c2 c3 c4 e)
theorem Vc{a b:Value}{Q:Fin->Shared->Prop}(hh:A.handled=none)(D:ZipApart z TI TO i1 i2 l1 l2)(C1:zm P w K S1 xs i1 l1 t1 c1)(C2:zm P w K S2 ys i2 l2 t2 c2)(hz:IsZip s.heap z TI TO .none)(hTI:IsPair s.heap TI (.ref i1) (.ref i2))(hTO:IsPair s.heap TO a b)(h1:t1 i s.heap)(h2:t2 i s.heap)(hc1:c1 s.heap)(hc2:c2 s.heap)(hend:xs.length<=i\/ys.length<=i)(hE:∀h' e,(∀c o,c≠z->c≠TO->c≠i1->c≠i2->s.heap.get? c=some o->h'.get? c=some o)->(∃o,h'.get? e=some o/\o.cls =.type "StopIteration")->E (.ref e) { s with heap:=h' }):
  wpAny (model P w) A (Builtin.«zip.__next__» ⟨[.ref z],[]⟩) Q E s:=by
 show wpAny _ _ (field (.ref z) 2 >>= _) _ _ _
 refine aq (kB hz rfl (x:=.bool false) rfl ?_);show wpAny _ _ (field (.ref z) 3 >>= _) _ _ _
 refine aq (kB hz rfl (x:=.ref TI) rfl ?_);refine aq (tK hTI rfl ?_)
 show wpAny _ _ (Builtin.SmallTypes.ownedTupleIsFree (.ref z) >>= _) _ _ _
 refine aq ?_;unfold Builtin.SmallTypes.ownedTupleIsFree
 refine aq (kB hz rfl (x:=.none) rfl (aJ ?_));simp only[oS]
 refine aq (wpAny_rule ?_);refine aq (kB hz rfl (x:=.ref TO) rfl ?_)
 refine aq (EO hz (by simp) λhA mJ sA=>?_)
 replace mJ:IsZip hA z TI TO .ellipsis:=mJ
 refine aq ?_;simp only[List.zipIdx_cons,List.zipIdx_nil,IF,CU]
 refine aq (aq (wpAny_onRaise ?_));show wpAny _ _ (Builtin.SmallTypes.nextOf (.ref i1) >>= _) _ _ _
 have k1:=C1.keep _ _ _ h1 λo e=>sA.extBut _ _ D.i1z e
 have k2:=C1.vA _ _ hc1 λo e=>sA.extBut _ _ D.l1z e
 by_cases hx:xs.length<=i
 . refine aq (C1.done _ i { s with heap:=hA } _ _ hh k1 k2 hx λhB e sB he=>?_)
   obtain⟨oe,DA,hce⟩:=he
   have zB:IsZip hB z TI TO .ellipsis:=sB _ _ D.i1z.symm mJ
   have ez:e≠z:=λx=>by subst x;rw[zB]at DA;cases DA;simp at hce
   exact EO zB (by simp) λhC _ sC=>hE hC e (λc o c1 _ c3 _ x=>sC.extBut _ _ c1 (sB _ _ c3 (sA.extBut _ _ c1 x))) ⟨oe,sC.extBut _ _ ez DA,hce⟩
 . have hy:ys.length<=i:=hend.resolve_left hx
   refine aq (C1.item _ i xs[i] { s with heap:=hA } _ _ k1 k2 (aS (by omega)) λu hB ru h1B sB=>aJ ?_)
   have R8:IsPair hB TO a b:=sB.extBut _ _ D.TOi1 (sA.extBut _ _ D.TOz hTO)
   refine aq (tK R8 rfl ?_);refine aq (wpAny_updateSeq_pair R8 λhC Wi sC=>?_)
   refine aq (wpAny_letGo (aJ ?_));refine aq (aq (wpAny_onRaise ?_))
   show wpAny _ _ (Builtin.SmallTypes.nextOf (.ref i2) >>= _) _ _ _
   refine aq (C2.done _ i { s with heap:=hC } _ _ hh (C2.keep _ _ _ h2 λo e=>sC.extBut _ _ D.TOi2.symm (sB.extBut _ _ D.i12.symm (sA.extBut _ _ D.i2z e))) (C2.vA _ _ hc2 λo e=>sC.extBut _ _ D.l2TO (sB.extBut _ _ D.l2i1 (sA.extBut _ _ D.l2z e))) hy λhD e sD he=>?_)
   obtain⟨oe,DA,hce⟩:=he
   have zD:IsZip hD z TI TO .ellipsis:=sD _ _ D.i2z.symm (sC.extBut _ _ D.TOz.symm (sB.extBut _ _ D.i1z.symm mJ))
   have ez:e≠z:=λx=>by subst x;rw[zD]at DA;cases DA;simp at hce
   exact EO zD (by simp) λhF _ sF=>hE hF e (λc o c1 c2 c3 c4 x=>sF.extBut _ _ c1 (sD _ _ c4 (sC.extBut _ _ c2 (sB.extBut _ _ c3 (sA.extBut _ _ c1 x))))) ⟨oe,sF.extBut _ _ ez DA,hce⟩
end
def Z7(S1 S2:Hp->Prop)(xs ys:Da V):It:=⟨λi H=>S1 H/\S2 H/\i<xs.length/\i<ys.length,λi H v H'=>∃p x y,H p=none/\v =.ref p/\H'=upd H p (.tup [x,y])/\xs[i]?=some x/\ys[i]?=some y,λi H=>S1 H/\S2 H/\(xs.length<=i\/ys.length<=i)⟩
variable {ys:Da V}{z:Addr}
def R9{w:World}{kk:Nat}{S1 S2:Hp->Prop}{TI TO i1 i2 l1 l2:Addr}{t1 t2:Nat->Heap->Prop}{c1 c2:Heap->Prop}(D:ZipApart z TI TO i1 i2 l1 l2)(C1:zm P w K S1 xs i1 l1 t1 c1)(C2:zm P w K S2 ys i2 l2 t2 c2):
  Turn P w K (.Tuple DD kk pos) (Z7 S1 S2 xs ys) [z,TI,TO,i1,i2] z (λi h=>IsZip h z TI TO .none/\IsPair h TI (.ref i1) (.ref i2)/\(∃a b,IsPair h TO a b)/\t1 i h/\t2 i h) where
 mem:=by simp
 obj:=λi h st b hb=>by
  obtain⟨hz,hTI,⟨a,b',hTO⟩,h1,h2⟩:=st;have hb':b=z\/b=TI\/b=TO\/b=i1\/b=i2:=by simpa using hb
  rcases hb' with rfl|rfl|rfl|rfl|rfl
  .exact ⟨_,hz,λv q=>by cases q⟩
  .exact ⟨_,hTI,λv q=>by cases q⟩
  .exact ⟨_,hTO,λv q=>by cases q⟩
  .exact C1.obj i h h1
  .exact C2.obj i h h2
 keep:=λi h h' st k=>by obtain⟨hz,hTI,⟨a,b',hTO⟩,h1,h2⟩:=st;exact⟨k z (by simp) _ hz,k TI (by simp) _ hTI,⟨a,b',k TO (by simp) _ hTO⟩,C1.keep _ _ _ h1 λo e=>k i1 (by simp) o e,C2.keep _ _ _ h2 λo e=>k i2 (by simp) o e⟩
 item:=by
  intro X hP hw hK hc i AT s σ H E I hf st hg;subst hP hw hK;obtain⟨hz,hTI,⟨a,b,hTO⟩,h1,h2⟩:=st;obtain⟨g1,g2,lx,ly⟩:=hg;have hT:s.TypeIs (.ref z) "zip":=⟨_,hz,Z⟩
  unfold pyNext;refine aq (wpAny_attempt (xx (name:=Str.ofString "__next__") hT IJ (xD IJ hT F.entry_zip_next
   (R7 D C1 C2 hz hTI hTO h1 h2 (C1.Gz X rfl rfl rfl AT σ H s I g1) (C2.Gz X rfl rfl rfl AT σ H s I g2) (aS lx) (aS ly) λu u2 h' ru ru2 a1 a2 a3 a4 a5 a6 hk=>aJ ?_) (F.args_zip_next_1 _))))
  refine⟨_,Z,wpAny_letOwnedTupleGo_zip (s:={ s with heap:=h' }) a1 λh'' b1 hs=>?_⟩;have hTz:s.heap.objs.size≠z:=xK (bK hz);have vz:∀c o,c≠z->c≠TO->c≠i1->c≠i2->s.heap.get? c=some o->h''.get? c=some o:=λc o c1 c2 c3 c4 e=>hs.extBut _ _ c1 (hk c o c1 c2 c3 c4 e);have hn:=I.fresh;have nf:∀b u,H b=some u->b≠z/\b≠TO/\b≠i1/\b≠i2:=λb u e=>by
   have g:∀c∈[z,TI,TO,i1,i2],b≠c:=λc hc q=>by have:=(hf c hc).1;rw[<-q,e]at this;cases this
   exact⟨g z (by simp),g TO (by simp),g i1 (by simp),g i2 (by simp)⟩
  have wJ:∀c,c∉[z,TI,TO,i1,i2]->c≠z/\c≠TO/\c≠i1/\c≠i2:=λc hc=>⟨λq=>hc (by simp[q]),λq=>hc (by simp[q]),λq=>hc (by simp[q]),λq=>hc (by simp[q])⟩
  have af8:IsPair h'' s.heap.objs.size u u2:=hs.extBut _ _ hTz a5;have hok:gU X.prog X.w (upd H s.heap.objs.size (.tup [xs[i],ys[i]])) h'':=λb ob e=>by
   by_cases hb:b=s.heap.objs.size
   .subst hb;rw[ah]at e;cases e;exact⟨by show 2<=sizeLine;decide,[u,u2],.cons ru (.cons ru2 .nil),_,af8,Z,0,Z⟩
   .rw [av hb]at e;refine(I.hok b ob e).stay (λc v R6 q=>?_) (λc q=>by rw[av (aH q hn)];exact q) λc zs q=>by rw[av (aH q hn)];exact q
    rcases R6 with r|r
    .obtain ⟨n1,n2,n3,n4⟩:=nf b ob e;rw[r];rw[r]at q;exact vz b v n1 n2 n3 n4 q
    .obtain ⟨n1,n2,n3,n4⟩:=nf c _ r;exact vz c v n1 n2 n3 n4 q
  have I2:Inv X AT σ (upd H s.heap.objs.size (.tup [xs[i],ys[i]])) { s with heap:=h'',gens:=s.gens,drawn:=s.drawn,toks:=s.toks }:=by
   refine I.step (ch:=[z,TI,TO,i1,i2]) (λb hb=>⟨(hf b hb).2.2.2.1,(hf b hb).2.1,(hf b hb).2.2.2.2.1,(hf b hb).2.2.2.2.2⟩) (λb o _ _ hc' e _=>?_) (λb o _ _ hc' e _=>?_) (λb o _ e n=>?_) (λb o hc' e=>?_)
    (λb zs q=>by rw[av (aH q hn)];exact q) (λb o zs q=>by rw[av (aH q hn)];exact q) (λb ps q=>⟨#[],by rw[av (aH q hn),q];simp⟩) (λm hm=>?_) hok I.bare
   .obtain ⟨n1,n2,n3,n4⟩:=wJ b hc';exact vz b o n1 n2 n3 n4 e
   .obtain ⟨n1,n2,n3,n4⟩:=wJ b hc';exact⟨o.slots,vz b o n1 n2 n3 n4 e⟩
   .rw [av (dW (bK e))];exact n
   .obtain ⟨n1,n2,n3,n4⟩:=wJ b hc';exact⟨o,vz b o n1 n2 n3 n4 e⟩
   .obtain ⟨o,es,ep,ho,r⟩:=hm;have nl:∀c∈[z,TI,TO,i1,i2],X.env.locals≠c:=λc hc' q=>(hf c hc').2.1 q.symm;exact⟨o,es,ep,vz _ o (nl z (by simp)) (nl TO (by simp)) (nl i1 (by simp)) (nl i2 (by simp)) ho,r⟩
  refine⟨.ref s.heap.objs.size,_,I2,Z,⟨s.heap.objs.size,xs[i],ys[i],hn,Z,Z,aS lx,aS ly⟩,⟨b1,?_,⟨u,u2,?_⟩,?_,?_⟩,λb hb=>?_⟩
  .exact vz _ _ D.TIz D.TITO D.TIi1 D.TIi2 hTI
  .exact hs.extBut _ _ D.TOz a2
  .exact C1.keep _ _ _ a3 λo e=>hs.extBut _ _ D.i1z e
  .exact C2.keep _ _ _ a4 λo e=>hs.extBut _ _ D.i2z e
  .have hlt:b≠s.heap.objs.size:=by
    have hb':b=z\/b=TI\/b=TO\/b=i1\/b=i2:=by simpa using hb
    obtain⟨_,e1,_⟩:=C1.obj _ _ h1;obtain⟨_,e2,_⟩:=C2.obj _ _ h2;rcases hb' with rfl|rfl|rfl|rfl|rfl
    .exact dW (bK hz)
    .exact dW (bK hTI)
    .exact dW (bK hTO)
    .exact dW (bK e1)
    .exact dW (bK e2)
   rw[av hlt];exact(hf b hb).1
 done:=by
  intro X hP hw hK hc i AT s σ H E I hf st hg;subst hP hw hK;obtain⟨hz,hTI,⟨a,b,hTO⟩,h1,h2⟩:=st;obtain⟨g1,g2,hend⟩:=hg;have hT:s.TypeIs (.ref z) "zip":=⟨_,hz,Z⟩
  unfold pyNext;refine aq (wpAny_attempt (xx (name:=Str.ofString "__next__") hT IJ (xD IJ hT F.entry_zip_next
   (Vc (I.ok.hd hc) D C1 C2 hz hTI hTO h1 h2 (C1.Gz X rfl rfl rfl AT σ H s I g1) (C2.Gz X rfl rfl rfl AT σ H s I g2) hend λh' e hk he=>?_) (F.args_zip_next_1 _))))
  obtain⟨oe,DA,hce⟩:=he;refine aq (wpAny_isInstance (T:="StopIteration") (b:=true) ⟨oe,DA,hce⟩ isSubtype_stop (aJ ⟨Z,?_⟩));have wJ:∀c,c∉[z,TI,TO,i1,i2]->c≠z/\c≠TO/\c≠i1/\c≠i2:=λc hc=>⟨λq=>hc (by simp[q]),λq=>hc (by simp[q]),λq=>hc (by simp[q]),λq=>hc (by simp[q])⟩
  have nf:∀b u,H b=some u->b≠z/\b≠TO/\b≠i1/\b≠i2:=λb u e=>by
   have g:∀c∈[z,TI,TO,i1,i2],b≠c:=λc hc q=>by have:=(hf c hc).1;rw[<-q,e]at this;cases this
   exact⟨g z (by simp),g TO (by simp),g i1 (by simp),g i2 (by simp)⟩
  have I2:Inv X AT σ H { s with heap:=h',gens:=s.gens,drawn:=s.drawn,toks:=s.toks }:=by
   refine I.step (ch:=[z,TI,TO,i1,i2]) (λb hb=>⟨(hf b hb).2.2.2.1,(hf b hb).2.1,(hf b hb).2.2.2.2.1,(hf b hb).2.2.2.2.2⟩) (λb o _ _ hc' e _=>?_) (λb o _ _ hc' e _=>?_) (λb o _ e n=>n) (λb o hc' e=>?_)
    (λb zs q=>q) (λb o zs q=>q) (λb ps q=>⟨#[],by rw[q];simp⟩) (λm hm=>?_) (λb ob e=>?_) I.bare
   .obtain ⟨n1,n2,n3,n4⟩:=wJ b hc';exact hk b o n1 n2 n3 n4 e
   .obtain ⟨n1,n2,n3,n4⟩:=wJ b hc';exact⟨o.slots,hk b o n1 n2 n3 n4 e⟩
   .obtain ⟨n1,n2,n3,n4⟩:=wJ b hc';exact⟨o,hk b o n1 n2 n3 n4 e⟩
   .obtain ⟨o,es,ep,ho,r⟩:=hm;have nl:∀c∈[z,TI,TO,i1,i2],X.env.locals≠c:=λc hc' q=>(hf c hc').2.1 q.symm;exact⟨o,es,ep,hk _ o (nl z (by simp)) (nl TO (by simp)) (nl i1 (by simp)) (nl i2 (by simp)) ho,r⟩
   .refine (I.hok b ob e).stay (λc v R6 q=>?_) (λc q=>q) λc zs q=>q;rcases R6 with r|r
    .obtain ⟨n1,n2,n3,n4⟩:=nf b ob e;rw[r];rw[r]at q;exact hk b v n1 n2 n3 n4 q
    .obtain ⟨n1,n2,n3,n4⟩:=nf c _ r;exact hk c v n1 n2 n3 n4 q
  exact I2
 self:=λ_ _ _ _ _ st h=>wpAny_pyIter_zip st.1 h
def JR(P:Program)(w:World)(u:Value)(o:Obj)(pre:Heap->Prop):Prop:=∀(A:Around)(E:VS)(s:Shared)(Q:VS),pre s.heap->Q (.ref s.heap.objs.size) { s with heap:=s.heap.push o }->wpAny (model P w) A (pyIter u) Q E s
def PZ{w:World}{p1 p2:Heap->Prop}(s1:JR P w u1 o1 p1)(s2:JR P w u2 o2 p2):MeetsIn P w (Builtin.«zip.__new__» ⟨[.type "zip",u1,u2],[]⟩) (λ_ R s=>p1 s.heap/\p2 (s.heap.push o1)/\R (.ok (.ret (.ref ((((s.heap.push o1).push o2).push { cls:=.type "tuple",data:=.seq #[.ref s.heap.objs.size,.ref (s.heap.push o1).objs.size] }).push { cls:=.type "tuple",data:=.seq #[.none,.none] }).objs.size)))
     { s with heap:=((((s.heap.push o1).push o2).push { cls:=.type "tuple",data:=.seq #[.ref s.heap.objs.size,.ref (s.heap.push o1).objs.size] }).push { cls:=.type "tuple",data:=.seq #[.none,.none] }).push { cls:=.type "zip",data:=.fields #[.none,.bool false,.bool false,.ref ((s.heap.push o1).push o2).objs.size,.ref (((s.heap.push o1).push o2).push { cls:=.type "tuple",data:=.seq #[.ref s.heap.objs.size,.ref (s.heap.push o1).objs.size] }).objs.size] } }):=
 .of_wp λA R s h=>by
  obtain⟨hp,g,d,tk,os⟩:=s;obtain⟨q1,q2,h⟩:=h;have hsub:=sub_zip;have i1:=λ(A:Around)(E:VS)(Q:VS)=>s1 A E ⟨hp,g,d,tk,os⟩ Q q1;have i2:=λ(A:Around)(E:VS)(Q:VS)=>s2 A E ⟨hp.push o1,g,d,tk,os⟩ Q q2
  wp_walk using i1 _ _ _,i2 _ _ _
  exact⟨_,Z,h⟩
section
variable {prog:Program}{w:World}{A:Around}{E:VS}{s:Shared}{it t:Addr}{i:Nat}{items:Array Value}{Q:VS}
def Mw{x:Value}(hit:s.heap.IsTupleIter it t i)(ht:s.heap.IsTuple t items)(hx:items[i]?=some x)(hQ:∀h',h'.IsTupleIter it t (i+1)->Heap.SameBut it s.heap h'->Q x { s with heap:=h' }):wpAny (model prog w) A (Builtin.SmallTypes.nextOf (.ref it)) Q E s:=by obtain⟨o,ho,hc,hd⟩:=id hit;obtain⟨ol,dR,_,nl,hdl⟩:=ht;unfold Builtin.SmallTypes.nextOf;refine aq (xx (name:=Str.ofString "__next__") hit.typeIs OX (xD OX hit.typeIs F.entry_tuple_iterator_next ?_ (F.args_tuple_iterator_next_1 _)));show wpAny _ _ (field (.ref it) 0 >>= _) _ _ s;refine aq (kB ho hd (x:=.ref t) rfl ?_);show wpAny _ _ (if(Value.ref t==Value.none)=true then _ else _) _ _ s;rw[aB (λz=>fQ z:¬ ((Value.ref t==Value.none)=true))];show wpAny _ _ (field (.ref it) 1 >>= _) _ _ s;refine aq (kB ho hd (x:=.int i 0) rfl ?_);show wpAny _ _ (seqItems? (.ref t) >>= _) _ _ s;refine aq (tK dR hdl ?_);simp only[vR,hx];refine aq (An ho hd (by simp) (aJ ⟨x,Z,aJ (hQ _ ?_ (EJ ..))⟩));refine⟨_,BQ _ ho (Obj.isFreed_of_fields (EN hd _)),(Obj.cls_mapFields ..).trans hc,?_⟩;rw[EN hd];simp[rawInt]
def P0(hh:A.handled=none)(hit:s.heap.IsTupleIter it t i)(ht:s.heap.IsTuple t items)(hx:items[i]?=none)(hE:∀h' e,Heap.ExtBut it s.heap h'->(∃o,h'.get? e=some o/\o.cls =.type "StopIteration")->E (.ref e) { s with heap:=h' }):wpAny (model prog w) A (Builtin.SmallTypes.nextOf (.ref it)) Q E s:=by
 obtain⟨o,ho,hc,hd⟩:=id hit;obtain⟨ol,dR,_,nl,hdl⟩:=ht;unfold Builtin.SmallTypes.nextOf;refine aq (xx (name:=Str.ofString "__next__") hit.typeIs OX (xD OX hit.typeIs F.entry_tuple_iterator_next ?_ (F.args_tuple_iterator_next_1 _)));show wpAny _ _ (field (.ref it) 0 >>= _) _ _ s;refine aq (kB ho hd (x:=.ref t) rfl ?_);show wpAny _ _ (if(Value.ref t==Value.none)=true then _ else _) _ _ s;rw[aB (λz=>fQ z:¬ ((Value.ref t==Value.none)=true))];show wpAny _ _ (field (.ref it) 1 >>= _) _ _ s;refine aq (kB ho hd (x:=.int i 0) rfl ?_);show wpAny _ _ (seqItems? (.ref t) >>= _) _ _ s;refine aq (tK dR hdl ?_);simp only[vR,hx];refine aq (wpAny_rule (aq (An ho hd (by simp) ?_)));show wpAny _ _ (newExc (.type "StopIteration") [] >>= _) _ _ _;refine aq ?_;simp only[newExc,newTuple];refine aq (qj ?_ (by size_fits));refine aq (m:=firstArgMember _ _) (wpAny_of_eq (a:=Value.none) (by first|rfl|(simp only[firstArgMember];rfl)) ?_);refine qj ?_ (by size_fits);simp only[raiseNew];refine aq (wpAny_handled ?_);first|rw[show A.in1.handled=none from hh]|rw[hh]
 refine aq (aJ (wpAny_throw ?_));exact hE _ _ (((EJ ..).extBut.push _).push _) ⟨_,dZ _ rfl,Z⟩
end
theorem XI{w:World}{l:Addr}:zm P w K (λH=>cz K H l xs) xs it l (λi h=>h.IsTupleIter it l i) (λh=>∃Bi:Da Value,Vals xs Bi/\h.IsTuple l Bi.toArray) where
 obj:=λi h ⟨o,e,c,d⟩=>⟨o,e,λv z=>by rw[d]at z;cases z⟩
 keep:=λi h h' st k=>st.at k
 vA:=λh h' ⟨Bi,r,o,e,q⟩ k=>⟨Bi,r,o,k o e,q⟩
 Gz:=λX hP hw hK AT σ H s I h=>by subst hP hw hK;obtain⟨Bi,rv,p,_⟩:=I.tuple h;exact⟨Bi,rv,p⟩
 item:=λA i x s Q E st ⟨Bi,r,hl⟩ hx hQ=>by obtain⟨u,hu,ru⟩:=r.get hx;exact Mw st hl (by simpa using hu) λh' st' sb=>hQ u h' ru st' sb
 done:=λA i s Q E hh st ⟨Bi,r,hl⟩ hx hE=>P0 hh st hl (by have:=r.length;simp;omega) hE
def Vd:typeLookup (.type "dict") "__len__"=pure (some (.builtin "dict.__len__")):=by rw[typeLookup_type,builtinLookup_eq_fast];kernel_rfl
variable {R:Result->Shared->Prop}
section
variable {prog:Program}{w:World}{A:Around}{E:VS}{s:Shared}{K:Type}[DecidableEq K]{knd:KeyKind prog w K}
def AX(hh:A.handled=none){Ap:Da (K×Value)}(hd:(d==sysModules)=false)(hm:s.heap.DictAt knd d Ap ep)(S:Addr)(hSd:S≠d)(res:Value)(c₀:Nat)(hS:s.heap.get? S=some { cls:=.type "list",data:=.seq #[] c₀ })(hR:∀h' tk acc' c',(∀b o,b≠S->s.heap.get? b=some o->h'.get? b=some o)->h'.get? S=some { cls:=.type "list",dict:=none,data:=.seq acc' c',slots:=#[] }->
    ItemsOf (λi v=>∃k x,Ap[i]?=some (k,x)/\knd.is k v=true) acc' Ap.length->R (.ok (.ret res)) { s with heap:=h',toks:=tk })(hn:Ap.length<=sizeLine):
  wpAny (model prog w) A.in1 (Builtin.List.listExtendWith (.ref S) (.ref d) res)
   (λfin s'=>match fin with | .done f=>R (.ok f) s' | .again c'=>c'.quiet=true/\codeAny (model prog w) A c' R s') (λe s'=>R (.error e) s') s:=by
 have hSI:S≠s.heap.objs.size:=dW (bK hS)
 have hT:s.TypeIs (.ref d) "dict":=hm.dictOf.typeIs
 unfold Builtin.List.listExtendWith
 refine aq (wpAny_typeOf (T:="dict") (v:=.ref d) hT ?_)
 have h1:Builtin.List.listSameRef (.ref S) (.ref d)=false:=by show(S==d)=false;simpa using hSd
 have h2:(Value.type "dict"==Value.type "list")=false:=by decide
 have h3:(Value.type "dict"==Value.type "tuple")=false:=by decide
 simp only[h1,h2,h3,Bool.or_false,EM,lu]
 refine aq (wpAny_pyIter_dict hd hm ?_)
 refine aq (xJ ?_)
 unfold Builtin.List.listLengthHint
 have hT2:({ s with heap:=s.heap.push { cls:=.type "dict_keyiterator",data:=.fields #[.ref d,.int 0 0,.int Ap.length 0,.int ep 0] } }:Shared).TypeIs (.ref d) "dict":=(hm.push _).dictOf.typeIs
 refine aq (wpAny_specialOf (T:="dict") (v:=.ref d) hT2 Vd ?_)
 wp_delta
 refine aq (wpAny_isInstance (T:="dict") (v:=.ref d) (b:=true) hT2 (by rw[isSubtype_type];kernel_rfl) ?_)
 show wpAny _ _ (typeOf (Value.ref d) >>= _) _ _ _
 refine aq (wpAny_typeOf (T:="dict") (v:=.ref d) hT2 ?_)
 refine aJ ?_
 have hne:d≠s.heap.objs.size:=dW hm.lt_size
 have hSf:S∉[s.heap.objs.size,d] :=λhm'=>by
  rcases cJ.mp hm' with z|z
  .exact hSI z
  .exact hSd (eL.mp z)
 show wpAny _ A.in1 (rule "list.extend.makes-room" >>= λ_=>Builtin.List.listTouch (.ref S) >>= λ_=>
  again (.builtin "list.extend.loop" ⟨[.ref S,.ref s.heap.objs.size,res],[]⟩)) _ _ _
 refine aq (wpAny_rule ?_)
 refine aq ?_
 show wpAny _ A.in1 (updateSeq S (·.push .none) >>= λ_=>updateSeq S (·.pop)) _ _ _
 have hS₁:=bU { cls:=.type "dict_keyiterator",data:=.fields #[.ref d,.int 0 0,.int Ap.length 0,.int ep 0] } hS
 refine aq (wpAny_updateSeq hS₁ rfl ?_)
 have Wl:=BQ (Obj.mapSeq (·.push Value.none)) hS₁ rfl
 refine wpAny_updateSeq (hz:=by seq_fits) Wl rfl ?_
 have hS₃:=BQ (Obj.mapSeq (·.pop)) Wl rfl
 have NW:∀b o,b≠S->(s.heap.push { cls:=.type "dict_keyiterator",data:=.fields #[.ref d,.int 0 0,.int Ap.length 0,.int ep 0] }).get? b=some o->(((s.heap.push { cls:=.type "dict_keyiterator",data:=.fields #[.ref d,.int 0 0,.int Ap.length 0,.int ep 0] }).update S (Obj.mapSeq (·.push Value.none))).update S (Obj.mapSeq (·.pop))).get? b=some o:=
  λb o hb e=>(Jd _ _ (cy hb)).trans ((Jd _ _ (cy hb)).trans e)
 refine aJ ⟨plainId_quiet F.plain_extend_loop _,codeAny_extend_loopS (Walks.dictKeys (prog:=prog) (w:=w) (A:=A.in1) (knd:=knd) hh s.heap.objs.size d hne Ap ep).toS hn _ hSf _ Ap.length 0 _ _ _ rfl (eV _) ⟨⟨_,NW _ _ (cy hSI) (dZ _ rfl),Z,Z⟩,(hm.push _).at' λo e=>NW d o (cy hSd) e⟩ hS₃ (ItemsOf.nil _) λs' acc' c' hm2 hS' Bn=>?_⟩
 rw[Moved.eq_with hm2]
 refine hR s'.heap s'.toks acc' c' (λb ob hb e=>hm2.heap b ob (λhmem=>?_) (NW b ob hb (bU _ e))) hS' Bn
 rcases cJ.mp hmem with e'|hmem
 . exact hb e'
 . exact absurd (bK e) (by rw[eL.mp hmem];exact je _)
def E2{Q:VS}(hh:A.handled=none){Ap:Da (K×Value)}(hd:(d==sysModules)=false)(hm:s.heap.DictAt knd d Ap ep)(hn:Ap.length<=sizeLine)(hQ:∀h' tk acc' c',(∀b o,s.heap.get? b=some o->h'.get? b=some o)->
    h'.get? s.heap.objs.size=some { cls:=.type "list",dict:=none,data:=.seq acc' c',slots:=#[] }->ItemsOf (λi v=>∃k x,Ap[i]?=some (k,x)/\knd.is k v=true) acc' Ap.length->Q (.ref s.heap.objs.size) { s with heap:=h',toks:=tk }):
  wpAny (model prog w) A (call (.type "list") [.ref d]) Q E s:=by
 refine callType_codes (Q₁:=λobj s₁=>obj =.ref s.heap.objs.size/\s₁={ s with heap:=s.heap.push { cls:=.type "list",data:=.seq #[] } }) F.called_list (F.typeCall_list_1 _) F.entry_list_init
  (code_list_new _ ⟨Z,Z⟩) λobj s₁ h₁=>?_
 obtain⟨rfl,rfl⟩:=h₁
 have hS:(s.heap.push { cls:=.type "list",data:=.seq #[] }).get? s.heap.objs.size=some { cls:=.type "list",data:=.seq #[] }:=dZ _ rfl
 have hne:s.heap.objs.size≠d:=xK hm.lt_size
 refine⟨⟨_,hS,Z⟩,F.args_list_init_2 _ _,?_⟩
 show wpAny _ _ (do let old <-Builtin.List.listItems (.ref s.heap.objs.size);Builtin.List.listUpdate (.ref s.heap.objs.size) (λ_=>#[]);letGo old.toList.reverse;Builtin.List.listExtendWith (.ref s.heap.objs.size) (.ref d) .none) _ _ _
 refine aq ?_
 unfold Builtin.List.listItems
 refine aq (tK hS rfl (aJ ?_))
 show wpAny _ _ (updateSeq s.heap.objs.size (λ_=>#[]) >>= λ_=>letGo (#[] :Array Value).toList.reverse >>= λ_=>Builtin.List.listExtendWith (.ref s.heap.objs.size) (.ref d) .none) _ _ _
 refine aq (wpAny_updateSeq hS rfl ?_)
 have Wl:=BQ (Obj.mapSeq (λ_=>(#[] :Array Value))) hS rfl
 have NW:∀b o,b≠s.heap.objs.size->(s.heap.push { cls:=.type "list",data:=.seq #[] }).get? b=some o->((s.heap.push { cls:=.type "list",data:=.seq #[] }).update s.heap.objs.size (Obj.mapSeq (λ_=>(#[] :Array Value)))).get? b=some o:=
  λb o hb e=>(Jd _ _ (cy hb)).trans e
 refine aq (wpAny_letGo ?_)
 refine AX (A:=A.in1) hh hd (hm.push _ |>.at' λo e=>NW d o hne.symm e) s.heap.objs.size hne .none _ Wl (λh' tk acc' c' hk hS' Bn=>?_) hn
 exact⟨Z,hQ h' tk acc' c' (λb o e=>hk b o (dW (bK e)) (NW b o (dW (bK e)) (bU _ e))) hS' Bn⟩
end
theorem GA{α β:Type}{F:α->β->Prop}:∀{l₁:Da α}{l₂:Da β},l₁.length=l₂.length->(∀(i:Nat)(x:α)(y:β),l₁[i]?=some x->l₂[i]?=some y->F x y)->Paired F l₁ l₂
 | [],[],_,_=> .nil
 | x::xs,y::ys,h,f=> .cons (f 0 x y rfl rfl) (GA (by simpa using h) λi a b ha hb=>f (i+1) a b (by simpa using ha) (by simpa using hb))
def lA(v d:Addr):HO:=.ext λh=>h.IsValuesView v d
section
variable {X:Cx}
inductive Z8(Q:VK)(x:V)(H1:Hp):Prop
 |mk(d Ap:_)(_:x =.ref d)(_:Rd H1 d (.dK Ap))(_:∀v,H1 v=none->Q (.ref v) (upd H1 v (lA v d)))
def acS(td:TE):TE:=λσ H Q=>td σ H (Z8 Q)
inductive Wk(K:Fg)(H:Hp):V->(Hp->Prop)->Da V->Prop
 | lst {l:Addr} {xs:Da V}:aA K H l xs->Wk K H (.ref l) (λH=>aA K H l xs) xs
 | tup {l:Addr} {xs:Da V}:cz K H l xs->Wk K H (.ref l) (λH=>cz K H l xs) xs
 | keys {d:Addr} {o:Obj} {Ap:Da (Key×V)}:oj H d o Ap->Wk K H (.ref d) (λH=>oj H d o Ap) (Ap.map λp=>kV p.1)
 | vals {v d:Addr} {o:Obj} {Ap:Da (Key×V)}:H v=some (lA v d)->oj H d o Ap->Wk K H (.ref v) (λH=>oj H d o Ap) (Ap.map λp=>p.2)
def Wk.ok{u:V}{S:Hp->Prop}(k:Wk X.K H u S xs)(I:Inv X AT σ H s)(r:RelV u uv):S H/\∃(l:Addr)(o:Obj)(p:Heap->Prop),l<s.heap.objs.size/\p s.heap/\(∀h (ob:Obj),p h->p (h.push ob))/\(∀h:Heap,(h.push o).get? h.objs.size=some o)/\JR X.prog X.w uv o p/\∀it:Addr,∃tn src,zm X.prog X.w X.K S xs it l tn src/\∀h:Heap,h.get? it=some o->tn 0 h:=by
 cases k with
 | @lst l xs hS=>cases r;obtain⟨Bi,rv,p,_⟩:=I.list hS;obtain⟨ol,dR,_⟩:=id p.isList;refine⟨hS,l,_,λh=>h.IsList l Bi.toArray,bK dR,p.isList,λh ob q=>q.push ob,λh=>dZ _ rfl,λA E s Q q h=>Pb q h,λit=>⟨_,_,U_,λh e=>⟨_,e,Z,Z⟩⟩⟩
 | @tup l xs hS=>cases r;obtain⟨Bi,rv,p,_⟩:=I.tuple hS;obtain⟨ol,dR,q0⟩:=id p;refine⟨hS,l,_,λh=>h.IsTuple l Bi.toArray,bK dR,p,λh ob ⟨o1,a,b⟩=>⟨o1,bU _ a,b⟩,λh=>dZ _ rfl,λA E s Q q h=>wpAny_pyIter_tuple q h,λit=>⟨_,_,XI,λh e=>⟨_,e,Z,Z⟩⟩⟩
 | @keys d o Ap hz=>cases r;obtain⟨ho,hl,hsys,vs,ep,rel,da⟩:=I.qV hz;obtain⟨o',es,h1,_,h2,_⟩:=id da;rw[ho]at h1;cases h1;have el:Ap.length=vs.length:=rel.length;refine⟨hz,d,_,λh=>h.DictAt (cY X.prog X.w) d vs ep,bK ho,da,λh ob q=>q.push ob,λh=>dZ _ rfl,λA E s Q q h=>wpAny_pyIter_dict hsys q h,λit=>⟨_,_,Va h2,λh e=>?_⟩⟩;rw[el];exact⟨_,e,Z,Z⟩
 | @vals v d o Ap hv hz=>
  cases r;obtain⟨ho,hl,hsys,vs,ep,rel,da⟩:=I.qV hz;obtain⟨o',es,h1,_,h2,_⟩:=id da;rw[ho]at h1;cases h1;have el:Ap.length=vs.length:=rel.length;obtain⟨hv',_⟩:=(show dM X.prog X.w H s.heap v (lA v d)from I.hok v _ hv)
  refine⟨hz,d,_,λh=>h.IsValuesView v d/\h.DictAt (cY X.prog X.w) d vs ep,bK ho,⟨hv',da⟩,λh ob ⟨⟨o1,a,b⟩,q⟩=>⟨⟨o1,bU _ a,b⟩,q.push ob⟩,λh=>dZ _ rfl,λA E s Q q h=>wpAny_pyIter_values q.1 q.2 h,λit=>⟨_,_,Vb h2,λh e=>?_⟩⟩;rw[el];exact⟨_,e,Z,Z⟩
variable {DD:Da Expr}{kk:Nat}{tpos:Pos}
inductive Z9(K:Fg)(R:It->Hp->Prop)(vs:Da V)(H1:Hp):Prop
 |mk(u1 u2 S1 S2 xs ys:_)(_:vs=[u1,u2])(_:Wk K H1 u1 S1 xs)(_:Wk K H1 u2 S2 ys)(_:R (Z7 S1 S2 xs ys:_) H1)
def acT(K:Fg)(ta:TA):TI:=λσ H R=>ta σ H (Z9 K R)
theorem GB(hc:X.calm=true):gG X (.builtin "sum") (λxs H Q=>∃(v d:Addr)(Ap:Da (Key×V))(ns:Da Int),xs=[.ref v]/\H v=some (lA v d)/\Rd H d (.dK Ap)/\Ap.map (·.2)=ns.map V.int/\Q (.int ns.sum) H):=by
 intro AT s σ H xs us Q I r h;obtain⟨v,d,Ap,ns,rfl,hv,hz,en,q⟩:=h;obtain⟨u,rfl,ru⟩:=vals1 r;cases ru;obtain⟨_,hsys,vs,rel,dd⟩:=qT I.hok hz;obtain⟨ep,da⟩:=dd.dictAt;obtain⟨hv',_⟩:=(show dM X.prog X.w H s.heap v (lA v d)from I.hok v _ hv)
 have hl:Ap.length=vs.length:=rel.length;have hlt:=da.lt_size;have hne:d≠s.heap.objs.size:=dW hlt;have W:=(Walks.dictValues (prog:=X.prog) (w:=X.w) (A:=X.A.in1) (knd:=cY X.prog X.w) (I.ok.hd hc) s.heap.objs.size d hne vs ep).toS;have Ds:Ap.length=ns.length:=by have:=gF List.length en;simpa using this
 refine call_sum_walkAnyS (wpAny_pyIter_values hv' da ?_);refine⟨s.heap.objs.size,_,_,_,_,_,_,λi=>ns.getD i 0,Z,W,⟨⟨_,dZ _ rfl,Z,Z⟩,da.push _⟩,λb hb=>?_,λi x hP=>?_,λs' t' hm=>?_⟩
 .rcases cJ.mp hb with rfl|hb
  .exact bK (dZ _ rfl)
  .obtain rfl:=eL.mp hb;exact(da.push _).lt_size
 .obtain ⟨k,hk⟩:=hP;have hil:i<ns.length:=by have:=(d8.mp hk).1;omega
  have hik:i<Ap.length:=by omega
  obtain⟨q',hq',_,rq⟩:=wU rel (aS hik);rw[hk]at hq';cases hq';have e1:Ap[i].2=V.int (ns.getD i 0):=by have:=gF (λl=>l[i]?) en;simp only[bF,aS hik,aS hil]at this;rw[ja,aS hil];exact ie this
  rw[e1]at rq;exact rq
 .obtain ⟨h',g',d',tk',os'⟩:=s';have e1:g'=s.gens:=hm.gens;have e2:d'=s.drawn:=hm.drawn;have e3:os'=s.os:=hm.os;subst e1 e2 e3;have hsz:vs.length=ns.length:=by omega
  rw[hsz,preSum_getD,yQ (aN _)];exact⟨.int ns.sum,H,I.kept (h':=h') (t':=tk') λb o e=>hm.heap b o (λhb=>absurd (bK e) ((eL.mp hb)▸je _)) (bU _ e),⟨t',Z⟩,q⟩
theorem P_(hc:X.calm=true):gG X (.type "list") (λxs H Q=>∃(d:Addr)(Ap:Da (Key×V)),xs=[.ref d]/\Rd H d (.dK Ap)/\∀l,H l=none->Q (.ref l) (upd H l (.lst (Ap.map λp=>kV p.1)))):=by
 intro AT s σ H xs us Q I r h;obtain⟨d,Ap,rfl,hz,q⟩:=h;obtain⟨u,rfl,ru⟩:=vals1 r;cases ru;obtain⟨hsz,hsys,vs,rel,dd⟩:=qT I.hok hz;obtain⟨ep,da⟩:=dd.dictAt;have hl:Ap.length=vs.length:=rel.length;refine E2 (I.ok.hd hc) hsys da (by omega) λh' tk acc' c' kp e it=>?_;refine⟨.ref s.heap.objs.size,_,I.laid (t':=tk) kp (aN _) (show dM X.prog X.w _ h' _ (.lst (Ap.map λp=>kV p.1))from⟨by rw[aF];exact hsz,acc'.toList,c',?_,by rw[e]⟩),Z,q _ I.fresh⟩;obtain⟨sz,hit⟩:=it;have hA:acc'.toList.length=acc'.size:=by simp
 have hB:(Ap.map λp=>kV p.1).length=acc'.toList.length:=by rw[aF];omega
 refine GA hB λi x y hx hy=>?_;rw[bF]at hx;obtain⟨p,hp,rfl⟩:=kT.mp hx;obtain⟨k,v,hk,hkk⟩:=hit i y (by simpa using hy);obtain⟨q',hq',ek,_⟩:=wU rel hp;rw[hk]at hq';cases hq';rw[ek];exact JQ hkk
end
def d9:St->Da Nat->Da V->St
 | σ,k::ks,v::vs=>d9 (σ.set k (some v)) ks vs
 | σ,_,_=>σ
theorem DB{k:Nat}{v:Option V}:∀{ks:Da Nat}{vs:Da V}{σ:St},k∉ks->(d9 σ ks vs).set k v=d9 (σ.set k v) ks vs
 | [],_,_,_=>by unfold d9;rfl
 | _::_,[],_,_=>by unfold d9;rfl
 | j::ks,w::vs,σ,h=>by have hj:k≠j:=λe=>h (by rw[e];exact cg);show(d9 (σ.set j (some w)) ks vs).set k v=d9 ((σ.set k v).set j (some w)) ks vs;rw[DB (λm=>h (b_ _ m)),List.set_comm _ _ hj]
theorem um:∀{ks:Da Nat}{vs ws:Da V}{σ:St},ks.Nodup->vs.length=ks.length->ws.length=ks.length->d9 (d9 σ ks vs) ks ws=d9 σ ks ws
 | [],[],[],_,_,_,_=>rfl
 | k::ks,v::vs,w::ws,σ,nd,h1,h2=>by have nk:=(iG.mp nd).1;show d9 ((d9 (σ.set k (some v)) ks vs).set k (some w)) ks ws=d9 (σ.set k (some w)) ks ws;rw[DB nk,vt,um (iG.mp nd).2 (by simpa using h1) (by simpa using h2)]
def Wm:Da Nat->C0
 | []=>Y0
 | k::ks=>V5 (gj k) (Wm ks)
theorem JS{Q:St->Hp->Prop}{H:Hp}:∀{ks:Da Nat}{vs:Da V}{σ:St},vs.length=ks.length->Q (d9 σ ks vs) H->Wm ks vs σ H Q
 | [],[],_,_,q=>⟨Z,q⟩
 | k::ks,v::vs,σ,h,q=>⟨v,vs,Z,JS (by simpa using h) q⟩
theorem zu(ks:Da Nat){Q:VK}(Pv:Nat->Da V->Hp->Prop)(nd:ks.Nodup)(hn:n<=100000)(h0:Pv 0 [] (upd H BM (.lst [])))(hgo:∀i out H1,i<n->H1 BM=some (.lst out)->Pv i out H1->J.go i H1)(hst:∀out H1,H1 BM=some (.lst out)->Pv n out H1->J.stop n H1)(hs:∀(i:Nat) (x:V) (out:Da V) (H1 H2:Hp),i<n->out.length=i->H1 BM=some (.lst out)->Pv i out H1->J.C3 i H1 x H2->
    ∃t vs,x =.ref t/\cz K H2 t vs/\vs.length=ks.length/\te (d9 σ2 ks vs) H2 (ue Pv i BM out))(hd:∀(out:Da V) (H1:Hp),out.length=n->H1 BM=some (.lst out)->Pv n out H1->Q (.ref BM) H1):
  AI J (BX K ks.length (Wm ks)) te BM σ2 H Q:=by
 refine⟨λi m σ' H'=>m=n-i/\i<=n/\(∀ws,ws.length=ks.length->d9 σ' ks ws=d9 σ2 ks ws)/\∃out,out.length=i/\H' BM=some (.lst out)/\Pv i out H',⟨n,by simp,eV _,λ_ _=>rfl,[],Z,ah,h0⟩,?_⟩
 rintro i m σ' H' ⟨rfl,hi,hσ,out,ho,ha,p⟩
 by_cases hlt:i<n
 . refine .inr ⟨hgo i out H' hlt ha p,λσ3=>∀ws,ws.length=ks.length->d9 σ3 ks ws=d9 σ2 ks ws,(ue Pv i BM out),λσ3 v H4 hS ⟨a,b⟩=>?_,λx H1 y=>?_⟩
   . refine⟨out,a,?_,n-(i+1),by omega,Z,hlt,hS,out++[v],by rw[cV,ho];rfl,ah,b⟩
     have:sizeLine=16777216:=eW
     omega
   . obtain⟨t,vs,rfl,sq,hl,q⟩:=hs i x out H' H1 hlt ho ha p y
     refine⟨t,vs,Z,sq,hl,JS hl ⟨λws hw=>?_,?_⟩⟩
     . rw[um nd hl hw];exact hσ ws hw
     . rw[hσ vs hl];exact q
 . have e:i=n:=by omega
   subst e
   exact .inl ⟨hst out H' ha p,hd out H' ho ha p⟩
theorem XJ(ks:Da Nat){Q:VK}(Pv:Nat->Da V->Hp->Prop)(nd:ks.Nodup)(hn:n<=100000)(h0:Pv 0 [] (upd H BM (.lst [])))(hgo:∀i out H1,i<n->H1 BM=some (.lst out)->Pv i out H1->J.go i H1)(hst:∀out H1,H1 BM=some (.lst out)->Pv n out H1->J.stop n H1)(hs:∀(i:Nat) (x:V) (out:Da V) (H1 H2:Hp),i<n->out.length<=i->H1 BM=some (.lst out)->Pv i out H1->J.C3 i H1 x H2->
    ∃t vs,x =.ref t/\cz K H2 t vs/\vs.length=ks.length/\tc (d9 σ2 ks vs) H2 (Wc te (d9 σ2 ks vs) Pv i BM out))(hd:∀(out:Da V) (H1:Hp),out.length<=n->H1 BM=some (.lst out)->Pv n out H1->Q (.ref BM) H1):
  zh J (BX K ks.length (Wm ks)) tc te BM σ2 H Q:=by
 refine⟨λi m σ' H'=>m=n-i/\i<=n/\(∀ws,ws.length=ks.length->d9 σ' ks ws=d9 σ2 ks ws)/\∃out,out.length<=i/\H' BM=some (.lst out)/\Pv i out H',⟨n,by simp,eV _,λ_ _=>rfl,[],aN _,ah,h0⟩,?_⟩
 rintro i m σ' H' ⟨rfl,hi,hσ,out,ho,ha,p⟩
 by_cases hlt:i<n
 . refine .inr ⟨hgo i out H' hlt ha p,λσ3=>∀ws,ws.length=ks.length->d9 σ3 ks ws=d9 σ2 ks ws,(ue Pv i BM out),λH3=>H3 BM=some (.lst out)/\Pv (i+1) out H3,λσ3 v H4 hS ⟨a,b⟩=>?_,λσ3 H4 hS ⟨a,b⟩=>?_,λx H1 y=>?_⟩
   . refine⟨out,a,?_,n-(i+1),by omega,Z,hlt,hS,out++[v],by rw[cV];exact Nat.succ_le_succ ho,ah,b⟩
     have:sizeLine=16777216:=eW
     omega
   . exact⟨n-(i+1),by omega,Z,hlt,hS,out,by omega,a,b⟩
   . obtain⟨t,vs,rfl,sq,hl,q⟩:=hs i x out H' H1 hlt ho ha p y
     refine⟨t,vs,Z,sq,hl,JS hl ⟨λws hw=>?_,?_⟩⟩
     . rw[um nd hl hw];exact hσ ws hw
     . rw[hσ vs hl];exact q
 . have e:i=n:=by omega
   subst e
   exact .inl ⟨hst out H' ha p,hd out H' ho ha p⟩
theorem fR(k:Nat){Q:VK}(Pv:Nat->Da V->Hp->Prop)(hn:n<=100000)(h0:Pv 0 [] (upd H BM (.lst [])))(hgo:∀i out H1,i<n->H1 BM=some (.lst out)->Pv i out H1->J.go i H1)(hst:∀out H1,H1 BM=some (.lst out)->Pv n out H1->J.stop n H1)(hs:∀(i:Nat) (x:V) (out:Da V) (H1 H2:Hp),i<n->out.length=i->H1 BM=some (.lst out)->Pv i out H1->J.C3 i H1 x H2->
    te (σ2.set k (some x)) H2 (ue Pv i BM out))(hd:∀(out:Da V) (H1:Hp),out.length=n->H1 BM=some (.lst out)->Pv n out H1->Q (.ref BM) H1):
  AI J (gj k) te BM σ2 H Q:=by
 refine⟨λi m σ' H'=>m=n-i/\i<=n/\(∀w:Option V,σ'.set k w=σ2.set k w)/\∃out,out.length=i/\H' BM=some (.lst out)/\Pv i out H',⟨n,by simp,eV _,λ_=>rfl,[],Z,ah,h0⟩,?_⟩
 rintro i m σ' H' ⟨rfl,hi,hσ,out,ho,ha,p⟩
 by_cases hlt:i<n
 . refine .inr ⟨hgo i out H' hlt ha p,λσ3=>∀w:Option V,σ3.set k w=σ2.set k w,(ue Pv i BM out),λσ3 v H4 hS ⟨a,b⟩=>?_,λx H1 y=>?_⟩
   . refine⟨out,a,?_,n-(i+1),by omega,Z,hlt,hS,out++[v],by rw[cV,ho];rfl,ah,b⟩
     have:sizeLine=16777216:=eW
     omega
   . refine⟨λw=>by rw[vt];exact hσ w,?_⟩
     rw[hσ]
     exact hs i x out H' H1 hlt ho ha p y
 . have e:i=n:=by omega
   subst e
   exact .inl ⟨hst out H' ha p,hd out H' ho ha p⟩
theorem NX(k:Nat){Q:VK}(Pv:Nat->Da V->Hp->Prop)(hn:n<=100000)(h0:Pv 0 [] (upd H BM (.lst [])))(hgo:∀i out H1,i<n->H1 BM=some (.lst out)->Pv i out H1->J.go i H1)(hst:∀out H1,H1 BM=some (.lst out)->Pv n out H1->J.stop n H1)(hs:∀(i:Nat) (x:V) (out:Da V) (H1 H2:Hp),i<n->out.length<=i->H1 BM=some (.lst out)->Pv i out H1->J.C3 i H1 x H2->
    tc (σ2.set k (some x)) H2 (Wc te (σ2.set k (some x)) Pv i BM out))(hd:∀(out:Da V) (H1:Hp),out.length<=n->H1 BM=some (.lst out)->Pv n out H1->Q (.ref BM) H1):
  zh J (gj k) tc te BM σ2 H Q:=by
 refine⟨λi m σ' H'=>m=n-i/\i<=n/\(∀w:Option V,σ'.set k w=σ2.set k w)/\∃out,out.length<=i/\H' BM=some (.lst out)/\Pv i out H',⟨n,by simp,eV _,λ_=>rfl,[],aN _,ah,h0⟩,?_⟩
 rintro i m σ' H' ⟨rfl,hi,hσ,out,ho,ha,p⟩
 by_cases hlt:i<n
 . refine .inr ⟨hgo i out H' hlt ha p,λσ3=>∀w:Option V,σ3.set k w=σ2.set k w,(ue Pv i BM out),λH3=>H3 BM=some (.lst out)/\Pv (i+1) out H3,λσ3 v H4 hS ⟨a,b⟩=>?_,λσ3 H4 hS ⟨a,b⟩=>?_,λx H1 y=>?_⟩
   . refine⟨out,a,?_,n-(i+1),by omega,Z,hlt,hS,out++[v],by rw[cV];exact Nat.succ_le_succ ho,ah,b⟩
     have:sizeLine=16777216:=eW
     omega
   . exact⟨n-(i+1),by omega,Z,hlt,hS,out,by omega,a,b⟩
   . refine⟨λw=>by rw[vt];exact hσ w,?_⟩
     rw[hσ]
     exact hs i x out H' H1 hlt ho ha p y
 . have e:i=n:=by omega
   subst e
   exact .inl ⟨hst out H' ha p,hd out H' ho ha p⟩
structure Mn(P:Program)(w:World)(K:Fg)(mg:SO)(base:Heap)(k:Nat)(C:Addr)(m:Str)(ps:Da Str)(sp:Sp):Prop where
 ex:∃f fd,iz P w K mg base sZ k f fd ps sp/\Binds K fd ps []/\Meth K C m f/\nY K C
structure Cn(P:Program)(w:World)(K:Fg)(mg:SO)(base:Heap)(k:Nat)(x:Str)(C:Addr)(ps:Da Str)(sp:Sp):Prop where
 ex:∃f fd,iz P w K mg base sZ k f fd ps sp/\Binds K fd ps []/\Mk K C f/\mg x=some (.ref C)
section
variable {X:Cx}
inductive acU(x:V)(y:V)(H:Hp)(Q:VK):Prop
 |mk(i j:_)(_:x =.int i)(_:y =.int j)(_:PK i j)(_:Q (.int (i*j)) H)
def XM:Po X .Mult acU:=by
 rintro AT s σ H x y u v Q I rx ry ⟨i,j,rfl,rfl,⟨m,n,h1,h2,h3⟩,q⟩;obtain⟨t,rfl⟩:=(show ∃t,u=Value.int i t from rx)
 obtain⟨t',rfl⟩:=(show ∃t',v=Value.int j t' from ry)
 exact PyProof.Rows.imul_int ⟨.int (i*j),H,I.tok _,⟨_,Z⟩,q⟩ (IntMulOk.of_le (O4.mpr h1) (O4.mpr h2) h3)
end
structure ji(K:Fg)(C:Addr)(m qual:Str)(st:Stmt)(f:Addr)(fd:FuncData):Prop where
 fn:Gw K m qual st f fd
 me:Meth K C m f
 cl:nY K C
variable {mg:SO}{base:Heap}{C f:Addr}{qual:Str}{fd:FuncData}{N ps:Da Str}{sp:Sp}
theorem ji.ok{w:World}{m:Str}{st:Stmt}{k:Nat}(F:ji K C m qual st f fd)(S:aK N ps (ay st))(len:∀vs H Q E,sp vs H Q E->vs.length=ps.length)(Ch:∀(cdv:Value) (A:Around) (outer:Da Env) (s:Shared) (H:Hp) (vs:Da V) (Q:VK) (E:XK),dj k (A.deeper (envOfC qual (ay st) s.heap.objs.size f cdv))->sp vs H Q E->
    ∃t,qf (cK sZ P w K mg base N qual (ay st) f cdv A outer s H E).Bg (cG st) t/\t { nx:=λ_ H'=>Q .cD H',rt:=Q } (start N vs) H)(h:∀(kV doc pm:Value) (an:Option Addr) (cdv ct:Value) (us:Da Value),us.length=ps.length->bindArgs (PySem.W.fnOf m qual (dY st) (cG st) (ay st) .none kV doc pm an cdv ct) ⟨us,[]⟩=pure (ps.zip us)):
  Mn P w K mg base (k+1) C m ps sp:=⟨f,fd,F.fn.ok S len Ch,F.fn.binds h,F.me,F.cl⟩
structure GC(K:Fg)(mg:SO)(x:Str)(C:Addr)(qual:Str)(st:Stmt)(f:Addr)(fd:FuncData):Prop where
 fn:Gw K "__init__" qual st f fd
 mks:Mk K C f
 name:mg x=some (.ref C)
theorem GC.ok{w:World}{st:Stmt}{k:Nat}(F:GC K mg x C qual st f fd)(S:aK N ps (ay st))(len:∀vs H Q E,sp vs H Q E->vs.length=ps.length)(Ch:∀(cdv:Value) (A:Around) (outer:Da Env) (s:Shared) (H:Hp) (vs:Da V) (Q:VK) (E:XK),dj k (A.deeper (envOfC qual (ay st) s.heap.objs.size f cdv))->sp vs H Q E->
    ∃t,qf (cK sZ P w K mg base N qual (ay st) f cdv A outer s H E).Bg (cG st) t/\t { nx:=λ_ H'=>Q .cD H',rt:=Q } (start N vs) H)(h:∀(kV doc pm:Value) (an:Option Addr) (cdv ct:Value) (us:Da Value),us.length=ps.length->bindArgs (PySem.W.fnOf "__init__" qual (dY st) (cG st) (ay st) .none kV doc pm an cdv ct) ⟨us,[]⟩=pure (ps.zip us)):
  Cn P w K mg base (k+1) x C ps sp:=⟨f,fd,F.fn.ok S len Ch,F.fn.binds h,F.mks,F.name⟩
abbrev m7:=Nat×Nat×Str
abbrev eF:=Addr->Option m7
abbrev col(n t:Nat):Option m7:=some (n,t,(⟨#[]⟩:Str))
def isTup:HO->Bool
 | .tup _=>true
 | _=>false
def Gh(ρ:eF)(H:Hp):Prop:=∀b c,ρ b=some c->∃o,H b=some o/\isTup o=false
def Fr(n:Nat)(ρ:eF)(H:Hp)(ρ':eF)(H':Hp):Prop:=∀b o,H b=some o->(∀t x,ρ b≠some (n,t,x))->H' b=some o/\ρ' b=ρ b
def cL(ρ:eF)(a:Addr)(c:m7):eF:=λb=>if b=a then some c else ρ b
variable {ρ:eF}
def dX{c:m7}:cL ρ a c a=some c:=aC rfl
def bZ{b:Addr}{c:m7}(h:b≠a):cL ρ a c b=ρ b:=aB h
def out(ρ:eF)(H:Hp):Hp:=λb=>if ρ b=none then H b else none
variable {o:HO}
def DC{b:Addr}(h:H b=some o)(c:ρ b=none):out ρ H b=some o:=by unfold out;rw[aC c];exact h
def xW{b:Addr}(h:out ρ H b=some o):H b=some o/\ρ b=none:=by
 unfold out at h;split at h
 .next c=>exact⟨h,c⟩
 .cases h
theorem Gh.none(g:Gh ρ H){b:Addr}(h:H b=Option.none):ρ b=Option.none:=by
 cases e:ρ b with
 | none=>rfl
 | some c=>obtain⟨o,q,_⟩:=g b c e;rw[h]at q;cases q
theorem Gh.tup{ρ:eF}{H:Hp}(g:Gh ρ H){b:Addr}{xs:Da V}(h:H b=some (.tup xs)):ρ b=Option.none:=by
 cases e:ρ b with
 | none=>rfl
 | some c=>obtain⟨o,q,t⟩:=g b c e;rw[h]at q;cases q;cases t
def Gh.same(g:Gh ρ H)(s:aG H H'):Gh ρ H':=λb c e=>let⟨o,h,t⟩:=g b c e;⟨o,s b o h,t⟩
def Gh.wr(g:Gh ρ H)(t:isTup o=false):Gh ρ (upd H a o):=λb c e=>by
 by_cases h:b=a
 .rw [h,ah];exact⟨o,Z,t⟩
 .rw [av h];exact g b c e
def Gh.alloc(g:Gh ρ H)(h:H a=Option.none):Gh ρ (upd H a o):=g.same (az h o)
def Gh.color(g:Gh ρ H){c:m7}(h:H a=some o)(t:isTup o=false):Gh (cL ρ a c) H:=λb d e=>by
 by_cases z:b=a
 .rw [z];exact⟨o,h,t⟩
 .rw [bZ z]at e;exact g b d e
def Fr.refl:Fr n ρ H ρ H:=λ_ _ h _=>⟨h,Z⟩
variable {H1 H2:Hp}
theorem Fr.trans{ρ1 ρ2:eF}(a:Fr n ρ H ρ1 H1)(b:Fr n ρ1 H1 ρ2 H2):Fr n ρ H ρ2 H2:=λc o h k=>by obtain⟨h1,e1⟩:=a c o h k;obtain⟨h2,e2⟩:=b c o h1 (by rw[e1];exact k);exact⟨h2,e2.trans e1⟩
def Fr.of_same(s:aG H H'):Fr n ρ H ρ H':=λb o h _=>⟨s b o h,Z⟩
def Fr.write(c:ρ a=some (n,t,x)):Fr n ρ H ρ (upd H a o):=λb u h k=>by have:b≠a:=λe=>k t x (by rw[e];exact c);rw[av this];exact⟨h,Z⟩
def Fr.color{c:m7}(h:H a=none)(s:aG H H'):Fr n ρ H (cL ρ a c) H':=λb u e k=>by rw[bZ (aH e h)];exact⟨s b u e,Z⟩
variable {ρ':eF}
theorem Fr.out(f:Fr n ρ H ρ' H'):aG (out ρ H) (out ρ' H'):=λb o h=>by obtain⟨h1,c⟩:=xW h;obtain⟨h2,e⟩:=f b o h1 (λt x=>by rw[c];intro z;cases z);exact DC h2 (e.trans c)
def kC(s:aG H H'):aG (out ρ H) (out ρ H'):=λb o h=>by obtain⟨h1,c⟩:=xW h;exact DC (s b o h1) c
structure Pt where
 nm:Str
 ow:Str
 wo:Int
 we:Int
 sc:Int
 row:Da Int
structure oq where
 nm:Str
 ow:Str
 wo:Int
 sh:Da (Str×Rat)
structure HS where
 own:Da Str
 ao:Da Pt
 lJ:Da oq
 nms:Da Str
 stp:Da Int
 prod:Int
 kn:Nat
 bL:Da Int
 c6:Da Int
structure HA where
 a:Addr
 dx:Addr
 pl:Addr
 ab:Addr
 as:Addr
 nm:Addr
 bt:Addr
 db:Addr
 cm:Addr
 pu:Addr
 sp:Addr
 kn:Addr
 qs:Da (Addr×Addr×Addr)
structure TC where
 hold:Addr
 part:Addr
 bot:Addr
def fT:Nat->Da Str->Da (Key×V)
 | _,[]=>[]
 | i,o::r=>(Sum.inr o,.int i)::fT (i+1) r
def cT(ps:Da Pt)(qs:Da (Addr×Addr×Addr)):Da (Key×V):=List.zipWith (λp q=>((Sum.inr p.nm:Key),V.ref q.1)) ps qs
def zx(l:Da Str):Da (Key×V):=l.map λx=>(Sum.inr x,.bl true)
def mQ(A:HA):Da (Str×V):=[("places",.ref A.pl),("aboard",.ref A.ab),("ashore",.ref A.as),("names",.ref A.nm),("bottom",.ref A.bt),("common",.ref A.cm),("purses",.ref A.pu)]
def lK(p:Pt)(r:Addr):Da (Str×V):=[("name",.str p.nm),("owner",.str p.ow),("worth",.int p.wo),("weight",.int p.we),("scale",.int p.sc),("row",.ref r)]
def xX(sp:Addr)(prod:Int)(kn:Addr):Da (Str×V):=[("steps",.ref sp),("product",.int prod),("known",.ref kn)]
def JT(H:Hp)(Ap:Da (Key×V))(prod:Int):Prop:=∀p∈Ap,∃(t:Int)(r:Addr),p=(Sum.inl t,V.ref r)/\H r=some (o6 (Jm.fr t prod))
inductive iS(H:Hp):Da V->Da (Str×Rat)->Prop
 | nil:iS H [] []
 | cons {r f:Addr} {x:Str} {q:Rat} {vs:Da V} {l:Da (Str×Rat)}:H r=some (.tup [.str x,.ref f])->H f=some (o6 q)->iS H vs l->iS H (.ref r::vs) ((x,q)::l)
inductive o9(n:Nat)(ρ:eF)(H:Hp):Da V->Da oq->Prop
 | nil:o9 n ρ H [] []
 | cons {r l:Addr} {x:oq} {ss:Da V} {vs:Da V} {as:Da oq}:H r=some (.tup [.str x.nm,.str x.ow,.int x.wo,.ref l])->H l=some (.lst ss)->ρ l=some (n,30,⟨#[]⟩)->iS H ss x.sh->o9 n ρ H vs as->o9 n ρ H (.ref r::vs) (x::as)
structure aV(T:TC)(n:Nat)(ρ:eF)(A:HA)(H:Hp)(st:HS):Prop where
 oa:H A.a=some (.ins T.hold A.dx (mQ A))
 ca:ρ A.a=col n 0
 i_:H A.pl=some (.dK (fT 0 st.own))
 jG:ρ A.pl=col n 1
 eX:H A.ab=some (.dK (cT st.ao A.qs))
 gW:ρ A.ab=col n 2
 vB:∃vs,H A.as=some (.lst vs)/\o9 n ρ H vs st.lJ
 kg:ρ A.as=col n 3
 uo:H A.nm=some (.dK (zx st.nms))
 jS:ρ A.nm=col n 4
 ou:H A.bt=some (.ins T.bot A.db (xX A.sp st.prod A.kn))
 jT:ρ A.bt=col n 5
 jU:H A.cm=some (.lst (st.bL.map V.int))
 kO:ρ A.cm=col n 6
 qg:H A.pu=some (.lst (st.c6.map V.int))
 cpu:ρ A.pu=col n 7
 s_:H A.sp=some (.lst (st.stp.map V.int))
 jV:ρ A.sp=col n 8
 okn:∃Ap,H A.kn=some (.dK Ap)/\JT H Ap st.prod/\Ap.length<=st.kn/\(Ap.map (·.1)).Nodup
 jW:ρ A.kn=col n 9
 ql:A.qs.length=st.ao.length
 opt:∀(i:Nat)(p:Pt)(q:Addr×Addr×Addr),st.ao[i]?=some p->A.qs[i]?=some q->H q.1=some (.ins T.part q.2.1 (lK p q.2.2))/\H q.2.2=some (.lst (p.row.map V.int))/\ρ q.1=some (n,20,p.nm)/\ρ q.2.2=some (n,21,p.nm)
def DE{b:Addr}{c d:m7}(ha:ρ a=some c)(hb:ρ b=some d)(h:c≠d):a≠b:=λe=>by rw[e,hb]at ha;cases ha;exact h rfl
def Bs{b:Addr}{c:m7}(ha:ρ a=none)(hb:ρ b=some c):a≠b:=λe=>by rw[e,hb]at ha;cases ha
variable {vs:Da V}
def iS.mono{l:Da (Str×Rat)}(h:iS H vs l)(g:∀b xs,H b=some (.tup xs)->H' b=some (.tup xs)):iS H' vs l:=by
 induction h with
 | nil=>exact .nil
 | cons a b _ ih=>exact .cons (g _ _ a) (g _ _ b) ih
def Kp(n:Nat)(ρ ρ':eF)(H H':Hp)(ts:Nat->Bool):Prop:=(∀b xs,H b=some (.tup xs)->H' b=some (.tup xs))/\∀b t x o,ts t=true->ρ b=some (n,t,x)->H b=some o->H' b=some o/\ρ' b=some (n,t,x)
variable {l:Da oq}{ts:Nat->Bool}
def o9.keep(h:o9 n ρ H vs l)(k:Kp n ρ ρ' H H' ts)(e:ts 30=true):o9 n ρ' H' vs l:=by
 induction h with
 | nil=>exact .nil
 | cons a b c d _ ih=>exact .cons (k.1 _ _ a) (k.2 _ _ _ _ e c b).1 (k.2 _ _ _ _ e c b).2 (d.mono k.1) ih
def fK(g:Gh ρ H)(c:ρ a=some (n,t,x)):Kp n ρ ρ H (upd H a o) (λu=>decide (u≠t)):=by
 refine⟨λb xs h=>?_,λb u y w hu hc h=>⟨?_,hc⟩⟩
 .rw [av (Bs (g.tup h) c)];exact h
 .rw [av (DE hc c (λe=>by cases e;exact absurd hu (by simp)))];exact h
def kz(k:Kp n ρ ρ' H H' ts){b:Addr}(c:ρ b=some (n,t,x))(e:H b=some o)(u:ts t=true:=by decide):H' b=some o:=(k.2 b t x o u c e).1
def NY(s:aG H H'):Kp n ρ ρ H H' ts:=⟨λb xs h=>s _ _ h,λb u y w _ hc h=>⟨s _ _ h,hc⟩⟩
variable {T:TC}{st:HS}
def aV.same{A:HA}(h:aV T n ρ A H st)(k:Kp n ρ ρ' H H' λ_=>true):aV T n ρ' A H' st:=by
 have z:=λ{b:Addr}{t:Nat}{x:Str}{o:HO}(c:ρ b=some (n,t,x))(e:H b=some o)=>k.2 b t x o rfl c e;obtain⟨vs,h1,h2⟩:=h.vB;obtain⟨Ap,k1,k2,k3⟩:=h.okn;exact⟨(z h.ca h.oa).1,(z h.ca h.oa).2,(z h.jG h.i_).1,(z h.jG h.i_).2,(z h.gW h.eX).1,(z h.gW h.eX).2,⟨vs,(z h.kg h1).1,h2.keep k rfl⟩,(z h.kg h1).2,(z h.jS h.uo).1,(z h.jS h.uo).2,(z h.jT h.ou).1,(z h.jT h.ou).2,
  (z h.kO h.jU).1,(z h.kO h.jU).2,(z h.cpu h.qg).1,(z h.cpu h.qg).2,(z h.jV h.s_).1,(z h.jV h.s_).2,⟨Ap,(z h.jW k1).1,λp hp=>let⟨t,r,e,q⟩:=k2 p hp;⟨t,r,e,k.1 _ _ q⟩,k3⟩,(z h.jW k1).2,h.ql,
  λi p q e1 e2=>let⟨a,b,c,d⟩:=h.opt i p q e1 e2;⟨(z c a).1,(z d b).1,(z c a).2,(z d b).2⟩⟩
def aV.mono{A:HA}(h:aV T n ρ A H st)(s:aG H H'):aV T n ρ A H' st:=h.same (NY s)
def aV.other{A:HA}(h:aV T m ρ A H st)(f:Fr n ρ H ρ' H')(g:Gh ρ H)(e:m≠n):aV T m ρ' A H' st:=h.same ⟨λb xs q=>(f b _ q λt x=>by rw[g.tup q];intro z;cases z).1,λb t x o _ c q=>by
 obtain⟨a,b'⟩:=f b o q λt' x'=>by rw[c];intro z;cases z;exact e rfl
 exact⟨a,b'.trans c⟩⟩
theorem E3{p0 p1:Pt}:∀{ps:Da Pt}{qs:Da (Addr×Addr×Addr)}{i:Nat},ps[i]?=some p0->p1.nm=p0.nm->cT (ps.set i p1) qs=cT ps qs
 | [],_,_,h,_=>by simp at h
 | _::_,[],_,_,_=>by simp[cT]
 | p::ps,q::qs,0,h,e=>by
  have:p=p0:=by simpa using h
  simp[cT,e,this]
 | p::ps,q::qs,i+1,h,e=>by have:=E3 (qs:=qs) (by simpa using h:ps[i]?=some p0) e;simp only[cT,O9,xy]at this ⊢;rw[this]
variable {j:Nat}{p:Pt}
def JU{ps:Da Pt}(nd:(ps.map (·.nm)).Nodup){q:Pt}(h1:ps[i]?=some p)(h2:ps[j]?=some q)(e:p.nm=q.nm):i=j:=by
 have a:(ps.map (·.nm))[i]?=some p.nm:=by rw[bF,h1];rfl
 have b:(ps.map (·.nm))[j]?=some p.nm:=by rw[bF,h2,e];rfl
 exact xQ nd a b
variable {p0:Pt}{q0:Addr×Addr×Addr}
def XO{A:HA}(h:aV T n ρ A H st)(k:Kp n ρ ρ H H' ts)(nd:(st.ao.map (·.nm)).Nodup){p1:Pt}(ep:st.ao[i]?=some p0)(eq:A.qs[i]?=some q0)(e1:p1.nm=p0.nm)(hw:H' q0.1=some (.ins T.part q0.2.1 (lK p1 q0.2.2)))(hs:∀{b:Addr} {t:Nat} {x:Str} {o:HO},ρ b=some (n,t,x)->t≠20\/x≠p0.nm->H b=some o->H' b=some o)(er:(.lst (p0.row.map V.int):HO) =.lst (p1.row.map V.int)):
  ∀(j:Nat)(p:Pt)(q:Addr×Addr×Addr),(st.ao.set i p1)[j]?=some p->A.qs[j]?=some q->H' q.1=some (.ins T.part q.2.1 (lK p q.2.2))/\H' q.2.2=some (.lst (p.row.map V.int))/\ρ q.1=some (n,20,p.nm)/\ρ q.2.2=some (n,21,p.nm):=by
 intro j p q ej eq'
 by_cases hj:i=j
 . subst hj
   rw[eq]at eq';cases eq'
   rw[tY (d8.mp ep).1]at ej
   cases ej
   obtain⟨a,b,c,d⟩:=h.opt i p0 q0 ep eq
   exact⟨hw,by rw[<-er];exact hs d (.inl (by decide)) b,by rw[e1];exact c,by rw[e1];exact d⟩
 . rw[yR hj]at ej
   obtain⟨a,b,c,d⟩:=h.opt j p q ej eq'
   exact⟨hs c (.inr λe=>hj (JU nd ep ej e.symm)) a,hs d (.inl (by decide)) b,c,d⟩
def Ve{A:HA}(h:aV T n ρ A H st)(nd:(st.ao.map (·.nm)).Nodup){l:Da Int}(ep:st.ao[i]?=some p0)(eq:A.qs[i]?=some q0)(hw:H' q0.2.2=some (.lst (l.map V.int)))(hs:∀{b:Addr} {t:Nat} {x:Str} {o:HO},ρ b=some (n,t,x)->t≠21\/x≠p0.nm->H b=some o->H' b=some o):
  ∀(j:Nat)(p:Pt)(q:Addr×Addr×Addr),(st.ao.set i { p0 with row:=l })[j]?=some p->A.qs[j]?=some q->H' q.1=some (.ins T.part q.2.1 (lK p q.2.2))/\H' q.2.2=some (.lst (p.row.map V.int))/\ρ q.1=some (n,20,p.nm)/\ρ q.2.2=some (n,21,p.nm):=by
 intro j p q ej eq'
 by_cases hj:i=j
 . subst hj
   rw[eq]at eq';cases eq'
   rw[tY (d8.mp ep).1]at ej
   cases ej
   obtain⟨a,b,c,d⟩:=h.opt i p0 q0 ep eq
   exact⟨hs c (.inl (by decide)) a,hw,c,d⟩
 . rw[yR hj]at ej
   obtain⟨a,b,c,d⟩:=h.opt j p q ej eq'
   exact⟨hs c (.inl (by decide)) a,hs d (.inr λe=>hj (JU nd ep ej e.symm)) b,c,d⟩
def GD(c:ρ a=some (n,t,x)):∀{b:Addr}{u:Nat}{y:Str}{w:HO},ρ b=some (n,u,y)->u≠t\/y≠x->H b=some w->upd H a o b=some w:=λ{b u y w} hc hu h=>by rw[av (DE hc c (λe=>by cases e;rcases hu with z|z <;> exact z rfl))];exact h
def aV.Z_{A:HA}(h:aV T n ρ A H st)(g:Gh ρ H)(l:Da Str):aV T n ρ A (upd H A.pl (.dK (fT 0 l))) { st with own:=l }:=by have k:=fK (o:=.dK (fT 0 l)) g h.jG;obtain⟨vs,h1,h2⟩:=h.vB;obtain⟨Ap,k1,k2,k3⟩:=h.okn;exact⟨kz k h.ca h.oa,h.ca,ah,h.jG,kz k h.gW h.eX,h.gW,⟨vs,kz k h.kg h1,h2.keep k (by decide)⟩,h.kg,kz k h.jS h.uo,h.jS,kz k h.jT h.ou,h.jT,kz k h.kO h.jU,h.kO,kz k h.cpu h.qg,h.cpu,kz k h.jV h.s_,h.jV,⟨Ap,kz k h.jW k1,λp hp=>let⟨t,r,e,q⟩:=k2 p hp;⟨t,r,e,k.1 _ _ q⟩,k3⟩,h.jW,h.ql,λi p q e1 e2=>let⟨a,b,c,d⟩:=h.opt i p q e1 e2;⟨kz k c a,kz k d b,c,d⟩⟩
def aV.R_{A:HA}(h:aV T n ρ A H st)(g:Gh ρ H)(ps:Da Pt)(qs:Da (Addr×Addr×Addr))(el:qs.length=ps.length)(hp:∀(i:Nat) (p:Pt) (q:Addr×Addr×Addr),ps[i]?=some p->qs[i]?=some q->H q.1=some (.ins T.part q.2.1 (lK p q.2.2))/\H q.2.2=some (.lst (p.row.map V.int))/\ρ q.1=some (n,20,p.nm)/\ρ q.2.2=some (n,21,p.nm)):aV T n ρ { A with qs:=qs } (upd H A.ab (.dK (cT ps qs))) { st with ao:=ps }:=by have k:=fK (o:=.dK (cT ps qs)) g h.gW;obtain⟨vs,h1,h2⟩:=h.vB;obtain⟨Ap,k1,k2,k3⟩:=h.okn;exact⟨kz k h.ca h.oa,h.ca,kz k h.jG h.i_,h.jG,ah,h.gW,⟨vs,kz k h.kg h1,h2.keep k (by decide)⟩,h.kg,kz k h.jS h.uo,h.jS,kz k h.jT h.ou,h.jT,kz k h.kO h.jU,h.kO,kz k h.cpu h.qg,h.cpu,kz k h.jV h.s_,h.jV,⟨Ap,kz k h.jW k1,λp hp=>let⟨t,r,e,q⟩:=k2 p hp;⟨t,r,e,k.1 _ _ q⟩,k3⟩,h.jW,el,λi p q e1 e2=>let⟨a,b,c,d⟩:=hp i p q e1 e2;⟨kz k c a,kz k d b,c,d⟩⟩
def aV.aaa{A:HA}(h:aV T n ρ A H st)(g:Gh ρ H)(l:Da Str):aV T n ρ A (upd H A.nm (.dK (zx l))) { st with nms:=l }:=by have k:=fK (o:=.dK (zx l)) g h.jS;obtain⟨vs,h1,h2⟩:=h.vB;obtain⟨Ap,k1,k2,k3⟩:=h.okn;exact⟨kz k h.ca h.oa,h.ca,kz k h.jG h.i_,h.jG,kz k h.gW h.eX,h.gW,⟨vs,kz k h.kg h1,h2.keep k (by decide)⟩,h.kg,ah,h.jS,kz k h.jT h.ou,h.jT,kz k h.kO h.jU,h.kO,kz k h.cpu h.qg,h.cpu,kz k h.jV h.s_,h.jV,⟨Ap,kz k h.jW k1,λp hp=>let⟨t,r,e,q⟩:=k2 p hp;⟨t,r,e,k.1 _ _ q⟩,k3⟩,h.jW,h.ql,λi p q e1 e2=>let⟨a,b,c,d⟩:=h.opt i p q e1 e2;⟨kz k c a,kz k d b,c,d⟩⟩
def aV.aab{A:HA}(h:aV T n ρ A H st)(g:Gh ρ H)(l:Da Int):aV T n ρ A (upd H A.cm (.lst (l.map V.int))) { st with bL:=l }:=by have k:=fK (o:=.lst (l.map V.int)) g h.kO;obtain⟨vs,h1,h2⟩:=h.vB;obtain⟨Ap,k1,k2,k3⟩:=h.okn;exact⟨kz k h.ca h.oa,h.ca,kz k h.jG h.i_,h.jG,kz k h.gW h.eX,h.gW,⟨vs,kz k h.kg h1,h2.keep k (by decide)⟩,h.kg,kz k h.jS h.uo,h.jS,kz k h.jT h.ou,h.jT,ah,h.kO,kz k h.cpu h.qg,h.cpu,kz k h.jV h.s_,h.jV,⟨Ap,kz k h.jW k1,λp hp=>let⟨t,r,e,q⟩:=k2 p hp;⟨t,r,e,k.1 _ _ q⟩,k3⟩,h.jW,h.ql,λi p q e1 e2=>let⟨a,b,c,d⟩:=h.opt i p q e1 e2;⟨kz k c a,kz k d b,c,d⟩⟩
def aV.aac{A:HA}(h:aV T n ρ A H st)(g:Gh ρ H)(l:Da Int):aV T n ρ A (upd H A.pu (.lst (l.map V.int))) { st with c6:=l }:=by have k:=fK (o:=.lst (l.map V.int)) g h.cpu;obtain⟨vs,h1,h2⟩:=h.vB;obtain⟨Ap,k1,k2,k3⟩:=h.okn;exact⟨kz k h.ca h.oa,h.ca,kz k h.jG h.i_,h.jG,kz k h.gW h.eX,h.gW,⟨vs,kz k h.kg h1,h2.keep k (by decide)⟩,h.kg,kz k h.jS h.uo,h.jS,kz k h.jT h.ou,h.jT,kz k h.kO h.jU,h.kO,ah,h.cpu,kz k h.jV h.s_,h.jV,⟨Ap,kz k h.jW k1,λp hp=>let⟨t,r,e,q⟩:=k2 p hp;⟨t,r,e,k.1 _ _ q⟩,k3⟩,h.jW,h.ql,λi p q e1 e2=>let⟨a,b,c,d⟩:=h.opt i p q e1 e2;⟨kz k c a,kz k d b,c,d⟩⟩
def aV.aad{A:HA}(h:aV T n ρ A H st)(g:Gh ρ H)(l:Da Int):aV T n ρ A (upd H A.sp (.lst (l.map V.int))) { st with stp:=l }:=by have k:=fK (o:=.lst (l.map V.int)) g h.jV;obtain⟨vs,h1,h2⟩:=h.vB;obtain⟨Ap,k1,k2,k3⟩:=h.okn;exact⟨kz k h.ca h.oa,h.ca,kz k h.jG h.i_,h.jG,kz k h.gW h.eX,h.gW,⟨vs,kz k h.kg h1,h2.keep k (by decide)⟩,h.kg,kz k h.jS h.uo,h.jS,kz k h.jT h.ou,h.jT,kz k h.kO h.jU,h.kO,kz k h.cpu h.qg,h.cpu,ah,h.jV,⟨Ap,kz k h.jW k1,λp hp=>let⟨t,r,e,q⟩:=k2 p hp;⟨t,r,e,k.1 _ _ q⟩,k3⟩,h.jW,h.ql,λi p q e1 e2=>let⟨a,b,c,d⟩:=h.opt i p q e1 e2;⟨kz k c a,kz k d b,c,d⟩⟩
def aV.aae{A:HA}(h:aV T n ρ A H st)(g:Gh ρ H)(q:Addr)(l:Da Int)(e:H q=some (.lst (l.map V.int)))(c:ρ q=col n 6):aV T n ρ { A with cm:=q } (upd H A.a (.ins T.hold A.dx (mQ { A with cm:=q }))) { st with bL:=l }:=by have k:=fK (o:=.ins T.hold A.dx (mQ { A with cm:=q })) g h.ca;obtain⟨vs,h1,h2⟩:=h.vB;obtain⟨Ap,k1,k2,k3⟩:=h.okn;exact⟨ah,h.ca,kz k h.jG h.i_,h.jG,kz k h.gW h.eX,h.gW,⟨vs,kz k h.kg h1,h2.keep k (by decide)⟩,h.kg,kz k h.jS h.uo,h.jS,kz k h.jT h.ou,h.jT,kz k c e,c,kz k h.cpu h.qg,h.cpu,kz k h.jV h.s_,h.jV,⟨Ap,kz k h.jW k1,λp hp=>let⟨t,r,e,q⟩:=k2 p hp;⟨t,r,e,k.1 _ _ q⟩,k3⟩,h.jW,h.ql,λi p q e1 e2=>let⟨a,b,c,d⟩:=h.opt i p q e1 e2;⟨kz k c a,kz k d b,c,d⟩⟩
def aV.aaf{A:HA}(h:aV T n ρ A H st)(g:Gh ρ H)(q:Addr)(l:Da Int)(e:H q=some (.lst (l.map V.int)))(c:ρ q=col n 7):aV T n ρ { A with pu:=q } (upd H A.a (.ins T.hold A.dx (mQ { A with pu:=q }))) { st with c6:=l }:=by have k:=fK (o:=.ins T.hold A.dx (mQ { A with pu:=q })) g h.ca;obtain⟨vs,h1,h2⟩:=h.vB;obtain⟨Ap,k1,k2,k3⟩:=h.okn;exact⟨ah,h.ca,kz k h.jG h.i_,h.jG,kz k h.gW h.eX,h.gW,⟨vs,kz k h.kg h1,h2.keep k (by decide)⟩,h.kg,kz k h.jS h.uo,h.jS,kz k h.jT h.ou,h.jT,kz k h.kO h.jU,h.kO,kz k c e,c,kz k h.jV h.s_,h.jV,⟨Ap,kz k h.jW k1,λp hp=>let⟨t,r,e,q⟩:=k2 p hp;⟨t,r,e,k.1 _ _ q⟩,k3⟩,h.jW,h.ql,λi p q e1 e2=>let⟨a,b,c,d⟩:=h.opt i p q e1 e2;⟨kz k c a,kz k d b,c,d⟩⟩
def aV.aag{A:HA}(h:aV T n ρ A H st)(g:Gh ρ H)(m:Int)(q:Addr)(e:H q=some (.dK []))(c:ρ q=col n 9):aV T n ρ { A with kn:=q } (upd H A.bt (.ins T.bot A.db (xX A.sp m q))) { st with prod:=m,kn:=0 }:=by have k:=fK (o:=.ins T.bot A.db (xX A.sp m q)) g h.jT;obtain⟨vs,h1,h2⟩:=h.vB;obtain⟨Ap,k1,k2,k3⟩:=h.okn;exact⟨kz k h.ca h.oa,h.ca,kz k h.jG h.i_,h.jG,kz k h.gW h.eX,h.gW,⟨vs,kz k h.kg h1,h2.keep k (by decide)⟩,h.kg,kz k h.jS h.uo,h.jS,ah,h.jT,kz k h.kO h.jU,h.kO,kz k h.cpu h.qg,h.cpu,kz k h.jV h.s_,h.jV,⟨[],kz k c e,(λp hp=>absurd hp (by simp)),aN _,qQ⟩,c,h.ql,λi p q e1 e2=>let⟨a,b,c,d⟩:=h.opt i p q e1 e2;⟨kz k c a,kz k d b,c,d⟩⟩
def aV.zy{A:HA}(h:aV T n ρ A H st)(g:Gh ρ H){p1:Pt}(ep:st.ao[i]?=some p0)(eq:A.qs[i]?=some q0)(e1:p1.nm=p0.nm)(e2:p1.row=p0.row)(nd:(st.ao.map (·.nm)).Nodup):aV T n ρ A (upd H q0.1 (.ins T.part q0.2.1 (lK p1 q0.2.2))) { st with ao:=st.ao.set i p1 }:=by have k:=fK (o:=.ins T.part q0.2.1 (lK p1 q0.2.2)) g (h.opt i p0 q0 ep eq).2.2.1;obtain⟨vs,h1,h2⟩:=h.vB;obtain⟨Ap,k1,k2,k3⟩:=h.okn;exact⟨kz k h.ca h.oa,h.ca,kz k h.jG h.i_,h.jG,by rw[E3 ep e1];exact kz k h.gW h.eX,h.gW,⟨vs,kz k h.kg h1,h2.keep k (by decide)⟩,h.kg,kz k h.jS h.uo,h.jS,kz k h.jT h.ou,h.jT,kz k h.kO h.jU,h.kO,kz k h.cpu h.qg,h.cpu,kz k h.jV h.s_,h.jV,⟨Ap,kz k h.jW k1,λp hp=>let⟨t,r,e,q⟩:=k2 p hp;⟨t,r,e,k.1 _ _ q⟩,k3⟩,h.jW,by rw[lg];exact h.ql,XO h k nd ep eq e1 ah (GD (h.opt i p0 q0 ep eq).2.2.1) (by rw[e2])⟩
def aV.XQ{A:HA}(h:aV T n ρ A H st)(g:Gh ρ H)(l:Da Int)(ep:st.ao[i]?=some p0)(eq:A.qs[i]?=some q0)(nd:(st.ao.map (·.nm)).Nodup):aV T n ρ A (upd H q0.2.2 (.lst (l.map V.int))) { st with ao:=st.ao.set i { p0 with row:=l } }:=by have k:=fK (o:=.lst (l.map V.int)) g (h.opt i p0 q0 ep eq).2.2.2;obtain⟨vs,h1,h2⟩:=h.vB;obtain⟨Ap,k1,k2,k3⟩:=h.okn;exact⟨kz k h.ca h.oa,h.ca,kz k h.jG h.i_,h.jG,by show _=some (HO.dK (cT (st.ao.set i { p0 with row:=l }) A.qs));rw[E3 (p1:={ p0 with row:=l }) ep rfl];exact kz k h.gW h.eX,h.gW,⟨vs,kz k h.kg h1,h2.keep k (by decide)⟩,h.kg,kz k h.jS h.uo,h.jS,kz k h.jT h.ou,h.jT,kz k h.kO h.jU,h.kO,kz k h.cpu h.qg,h.cpu,kz k h.jV h.s_,h.jV,⟨Ap,kz k h.jW k1,λp hp=>let⟨t,r,e,q⟩:=k2 p hp;⟨t,r,e,k.1 _ _ q⟩,k3⟩,h.jW,by rw[lg];exact h.ql,Ve h nd ep eq ah (GD (h.opt i p0 q0 ep eq).2.2.2)⟩
structure Txt(K:Fg)(T:TC):Prop where
 cH:nY K T.hold
 cP:nY K T.part
 cB:nY K T.bot
 hpl:fk K T.hold "places"
 hab:fk K T.hold "aboard"
 has:fk K T.hold "ashore"
 hnm:fk K T.hold "names"
 DF:fk K T.hold "bottom"
 Bt:fk K T.hold "common"
 JV:fk K T.hold "purses"
 Wn:fk K T.part "name"
 pow:fk K T.part "owner"
 NZ:fk K T.part "worth"
 pwe:fk K T.part "weight"
 Sa:fk K T.part "scale"
 Wo:fk K T.part "row"
 bst:fk K T.bot "steps"
 Wq:fk K T.bot "product"
 Sb:fk K T.bot "known"
structure Wf(st:HS):Prop where
 zz:st.own.Nodup
 E4:st.nms.Nodup
 o_:(st.ao.map (·.nm)).Nodup
 sub:∀p∈st.ao,p.nm∈st.nms
 rows:∀p∈st.ao,p.row.length=st.own.length
 ow:∀p∈st.ao,p.ow∈st.own
 jD:st.bL.length=st.own.length
 zA:st.c6.length=st.own.length
 jj:1<=st.prod
 xY:st.prod=st.stp.foldl (·*·) 1
 Ca:∀s∈st.stp,2<=s
 uq:st.own.length<=100
 E5:st.nms.length<=1000
 xZ:st.ao.length<=1000
 JW:st.stp.length<=100
 zC:st.lJ.length<=1000
 Wr:st.kn<=1000000
 big:Jm.Sz 8000 st.prod
 ur:∀c∈st.bL,0<=c/\c<=st.prod
 yD:∀p∈st.ao,1<=p.sc/\p.sc<=st.prod
 vY:∀p∈st.ao,∀r∈p.row,-st.prod<=r/\r<=st.prod
 E6:∀p∈st.ao,∀t∈List.zipWith (λr c=>p.sc*r+c) p.row st.bL,0<=t/\t<=st.prod
 zH:∀p∈st.ao,1<=p.wo/\0<=p.we
 Qa:∀u∈st.c6,Jm.Sz 9000 u
structure HH(T:TC)(n:Nat)(ρ:eF)(A:HA)(H:Hp)(st:HS):Prop where
 g:Gh ρ H
 h:aV T n ρ A H st
 wf:Wf st
def DG(T:TC)(n:Nat)(ρ:eF)(A:HA)(H:Hp)(st:HS)(Q:Hp->Prop):Prop:=∀ρ' A' H',HH T n ρ' A' H' st->A'.a=A.a->Fr n ρ H ρ' H'->Q H'
def hs0:HS:=⟨[],[],[],[],[],1,0,[],[]⟩
def wf0:Wf hs0:=by refine⟨qQ,qQ,qQ,?_,?_,?_,Z,Z,?_,Z,?_,?_,?_,?_,?_,?_,?_,?_,?_,?_,?_,?_,?_,?_⟩ <;> first|(intro _ h;exact absurd h (by simp[hs0]))|decide|(show Jm.Sz 8000 1;exact rL (by decide +kernel))
theorem N1:∀{l:Da Str}{i:Nat}{o:Str},o∈l->d7 (fT i l) (Sum.inr o)=some (.int ((i+l.idxOf o:Nat):Int))
 | [],_,_,h=>by simp at h
 | x::l,i,o,h=>by
  by_cases e:x=o
  .subst e;rw[show fT i (x::l)=(Sum.inr x,.int i)::fT (i+1) l from rfl,gK rfl];simp
  .rw [show fT i (x::l)=(Sum.inr x,.int i)::fT (i+1) l from rfl,fm (by intro z;exact e (tL z))];have hm:o∈l:=by
    rcases cJ.mp h with z|z
    .exact absurd z.symm e
    .exact z
   rw[N1 hm];have eb:(x==o)=false:=by simpa using e
   have:(x::l).idxOf o=l.idxOf o+1:=by rw[List.idxOf_cons,eb];rfl
   rw[this];show some (V.int ((i+1+l.idxOf o:Nat):Int))=some (V.int ((i+(l.idxOf o+1):Nat):Int));rw[show i+1+l.idxOf o=i+(l.idxOf o+1)from by omega]
theorem uu:∀{l:Da Str}{i:Nat}{o:Str},o∉l->d7 (fT i l) (Sum.inr o)=none
 | [],_,_,_=>rfl
 | x::l,i,o,h=>by rw[show fT i (x::l)=(Sum.inr x,.int i)::fT (i+1) l from rfl,fm (λz=>h (by rw[<-tL z];exact cg))];exact uu λm=>h (b_ _ m)
theorem tO:∀(l:Da Str)(i:Nat),(fT i l).length=l.length
 | [],_=>rfl
 | _::l,i=>by rw[show ∀x,fT i (x::l)=(Sum.inr x,.int i)::fT (i+1) l from λ_=>rfl,kq,kq,tO l]
theorem JX:∀(l:Da Str)(i:Nat)(o:Str),fT i (l++[o])=fT i l++[(Sum.inr o,.int ((i+l.length:Nat):Int))]
 | [],i,o=>rfl
 | x::l,i,o=>by
  show(Sum.inr x,V.int i)::fT (i+1) (l++[o])=_;rw[JX l (i+1) o];show _=(Sum.inr x,V.int i)::(fT (i+1) l++_)
  rw[kq,show i+1+l.length=i+(l.length+1)from by omega]
theorem Cb:∀(l:Da Str)(i:Nat),(fT i l).map (λp=>kV p.1)=l.map V.str
 | [],_=>rfl
 | x::l,i=>by show kV (Sum.inr x)::(fT (i+1) l).map _=V.str x::l.map V.str;rw[Cb l];rfl
variable {qs:Da (Addr×Addr×Addr)}
def wV{ps:Da Pt}{q:Addr×Addr×Addr}(h1:ps[i]?=some p)(h2:qs[i]?=some q):(cT ps qs)[i]?=some (Sum.inr p.nm,.ref q.1):=by unfold cT;rw[O3,h1,h2]
def wW{ps:Da Pt}(h:qs.length=ps.length):(cT ps qs).length=ps.length:=by unfold cT;rw[qi,h,Nat.min_self]
theorem wX:∀{ps:Da Pt}{qs:Da (Addr×Addr×Addr)}{i:Nat}{p:Pt}{q:Addr×Addr×Addr},(ps.map (·.nm)).Nodup->ps[i]?=some p->qs[i]?=some q->d7 (cT ps qs) (Sum.inr p.nm)=some (.ref q.1)
 | [],_,_,_,_,_,h,_=>by simp at h
 | _::_,[],_,_,_,_,_,h=>by simp at h
 | a::ps,b::qs,0,p,q,_,h1,h2=>by
  have e1:a=p:=by simpa using h1
  have e2:b=q:=by simpa using h2
  subst e1 e2;exact gK rfl
 | a::ps,b::qs,i+1,p,q,nd,h1,h2=>by
  have nd':=iG.mp (show(a.nm::ps.map (·.nm)).Nodup from nd);have Ws:ps[i]?=some p:=by simpa using h1
  rw[show cT (a::ps) (b::qs)=(Sum.inr a.nm,.ref b.1)::cT ps qs from rfl,fm (λz=>nd'.1 (bR.mpr ⟨p,bP Ws,(tL z).symm⟩))];exact wX nd'.2 Ws (by simpa using h2)
theorem uw:∀{ps:Da Pt}{qs:Da (Addr×Addr×Addr)}{x:Str},(∀p∈ps,p.nm≠x)->d7 (cT ps qs) (Sum.inr x)=none
 | [],_,_,_=>rfl
 | _::_,[],_,_=>rfl
 | a::ps,b::qs,x,h=>by rw[show cT (a::ps) (b::qs)=(Sum.inr a.nm,.ref b.1)::cT ps qs from rfl,fm (λz=>h a cg (tL z))];exact uw λp hp=>h p (b_ _ hp)
def Vf{ps:Da Pt}(h:qs.length=ps.length)(p:Pt)(q:Addr×Addr×Addr):cT (ps++[p]) (qs++[q])=cT ps qs++[(Sum.inr p.nm,.ref q.1)] :=by unfold cT;rw[List.zipWith_append h.symm];rfl
def zJ{l:Da Str}(h:x∉l):d7 (zx l) (Sum.inr x)=none:=by
 unfold zx
 induction l with
 | nil=>rfl
 | cons a l ih=>rw[bJ,fm (λz=>h (by rw[<-tL z];exact cg))];exact ih λm=>h (b_ _ m)
def aV.find{A:HA}(h:aV T n ρ A H st)(e:st.ao[i]?=some p):∃q,A.qs[i]?=some q/\H q.1=some (.ins T.part q.2.1 (lK p q.2.2))/\H q.2.2=some (.lst (p.row.map V.int))/\ρ q.1=some (n,20,p.nm)/\ρ q.2.2=some (n,21,p.nm):=by
 have hi:i<A.qs.length:=by rw[h.ql];exact(d8.mp e).1
 exact⟨A.qs[i],aS hi,h.opt i p _ e (aS hi)⟩
def gH(st:HS)(o:Str):HS:={ st with own:=st.own++[o],bL:=st.bL++[0],c6:=st.c6++[0],ao:=st.ao.map λp=>{ p with row:=p.row++[0] } }
def cC(st:HS)(p:Pt):Da Int:=List.zipWith (λr c=>p.sc*r+c) p.row st.bL
def zK(st:HS)(tops:Da Int):Da Int:=List.zipWith (λt c=>t-c) tops st.bL
def AM(st:HS)(p:Pt):HS:={ st with ao:=st.ao++[p],nms:=st.nms++[p.nm] }
def x6(st:HS)(x o:Str)(wo we:Int):HS:=AM st ⟨x,o,wo,we,1,zK st ((List.replicate st.own.length 0).set (st.own.idxOf o) st.prod)⟩
def bh(st:HS):Int:=(st.ao.map (·.wo)).sum
def zL(st:HS)(p:Pt):Da (Str×Rat):=(List.zip st.own (cC st p)).filterMap λx=>if 0<x.2 then some (x.1,Jm.fr x.2 st.prod) else none
def AN(p:Pt):HO:=.tup [.str p.nm,.str p.ow,.int p.wo,.int p.we]
inductive jJ(H:Hp):Da V->Da Pt->Prop
 | nil:jJ H [] []
 | cons {r:Addr} {p:Pt} {vs:Da V} {ps:Da Pt}:H r=some (AN p)->jJ H vs ps->jJ H (.ref r::vs) (p::ps)
def JY(n:Nat)(q1 q2:Addr)(ρ:eF)(H:Hp)(ρ':eF)(H':Hp):Prop:=∀b o,H b=some o->(∀t x,ρ b≠some (n,t,x))->b≠q1->b≠q2->H' b=some o/\ρ' b=ρ b
theorem JY.trans{ρ1 ρ2:eF}(a:JY n q1 q2 ρ H ρ1 H1)(b:Fr n ρ1 H1 ρ2 H2):JY n q1 q2 ρ H ρ2 H2:=λc o h k x y=>by obtain⟨h1,e1⟩:=a c o h k x y;obtain⟨h2,e2⟩:=b c o h1 (by rw[e1];exact k);exact⟨h2,e2.trans e1⟩
def JY.fr{ρ1 ρ2:eF}(b:JY n q1 q2 ρ1 H1 ρ2 H2)(a:Fr n ρ H ρ1 H1)(h1:H q1=none)(h2:H q2=none):Fr n ρ H ρ2 H2:=λc o h k=>by obtain⟨e1,e2⟩:=a c o h k;obtain⟨e3,e4⟩:=b c o e1 (by rw[e2];exact k) (aH h h1) (aH h h2);exact⟨e3,e4.trans e2⟩
def isNm(o:Str):Bool:=isName o.cps.toList
inductive aai(T:TC)(vs:Da V)(H:Hp)(Q:VK)(E:XK):Prop
 |mk(p dx:_)(_:vs=[.ref p])(_:H p=some (.ins T.bot dx []))(_:∀sp kn H',H sp=none->H kn=none->sp≠kn->(∀b o,H b=some o->b≠p->H' b=some o)->H' p=some (.ins T.bot dx (xX sp 1 kn))->H' sp=some (.lst [])->H' kn=some (.dK [])->Q .cD H')
def N3(T:TC):Sp:=bx (aai T)
inductive aaj(T:TC)(K:Fg)(vs:Da V)(H:Hp)(Q:VK)(E:XK):Prop
 |mk(p dx l:Addr)(pt:Pt)(_:vs=[.ref p,.str pt.nm,.str pt.ow,.int pt.wo,.int pt.we,.int pt.sc,.ref l])(_:H p=some (.ins T.part dx []))(_:aA K H l (pt.row.map V.int))(_:∀r H',H r=none->(∀b o,H b=some o->b≠p->H' b=some o)->H' p=some (.ins T.part dx (lK pt r))->H' r=some (.lst (pt.row.map V.int))->Q .cD H')
def N4(T:TC)(K:Fg):Sp:=bx (aaj T K)
inductive aak(T:TC)(vs:Da V)(H:Hp)(Q:VK)(E:XK):Prop
 |mk(p dx ρ n:_)(_:vs=[.ref p])(_:H p=some (.ins T.hold dx []))(_:Gh ρ H)(_:ρ p=none)(_:∀ρ' A H',A.a=p->HH T n ρ' A H' hs0->(∀b o,H b=some o->b≠p->H' b=some o/\ρ' b=ρ b)->Q .cD H')
def N5(T:TC):Sp:=bx (aak T)
inductive aal(T:TC)(vs:Da V)(H:Hp)(Q:VK)(E:XK):Prop
 |mk(n ρ A st o:_)(_:vs=[.ref A.a,.str o])(_:aV T n ρ A H st)(_:o∈st.own)(_:Q (.int (st.own.idxOf o:Int)) H)
def N6(T:TC):Sp:=bx (aal T)
inductive XR(T:TC)(vs:Da V)(H:Hp)(Q:VK)(E:XK):Prop
 |mk(n ρ A st:_)(i:Nat)(p:Pt)(q:Addr×Addr×Addr)(_:vs=[.ref A.a,.str p.nm])(_:aV T n ρ A H st)(_:(st.ao.map (·.nm)).Nodup)(_:st.ao[i]?=some p)(_:A.qs[i]?=some q)(_:Q (.ref q.1) H)
def JZ(T:TC):Sp:=bx (XR T)
inductive Sd(T:TC)(vs:Da V)(H:Hp)(Q:VK)(E:XK):Prop
 |mk(n ρ A st x:_)(_:vs=[.ref A.a,.str x])(_:aV T n ρ A H st)(_:isNm x=true)(_:x∉st.nms)(_:∀H',aG H H'->Q .cD H')
def DH(T:TC):Sp:=bx (Sd T)
inductive af9(T:TC)(K:Fg)(vs:Da V)(H:Hp)(Q:VK)(E:XK):Prop
 |mk(n ρ A st l:_)(tops:Da Int)(_:vs=[.ref A.a,.ref l])(_:aV T n ρ A H st)(_:aA K H l (tops.map V.int))(_:tops.length=st.bL.length)(_:tops.length<=1000)(_:∀r H',aG H H'->H r=none->H' r=some (.lst ((zK st tops).map V.int))->Q (.ref r) H')
def Wt(T:TC)(K:Fg):Sp:=bx (af9 T K)
inductive aam(T:TC)(vs:Da V)(H:Hp)(Q:VK)(E:XK):Prop
 |mk(n ρ A st:_)(i:Nat)(p:Pt)(q:Addr×Addr×Addr)(_:vs=[.ref A.a,.ref q.1])(_:aV T n ρ A H st)(_:Wf st)(_:st.ao[i]?=some p)(_:A.qs[i]?=some q)(_:∀r H',aG H H'->H r=none->H' r=some (.lst ((cC st p).map V.int))->Q (.ref r) H')
def N7(T:TC):Sp:=bx (aam T)
inductive acV(T:TC)(vs:Da V)(H:Hp)(Q:VK)(E:XK):Prop
 |mk(n ρ A st:_)(q:Addr×Addr×Addr)(p:Pt)(_:vs=[.ref A.a,.ref q.1])(_:HH T n ρ A H st)(_:H q.1=some (.ins T.part q.2.1 (lK p q.2.2)))(_:H q.2.2=some (.lst (p.row.map V.int)))(_:ρ q.1=none)(_:ρ q.2.2=none)(_:p.nm∉st.nms)(_:Wf (AM st p))(_:∀ρ' A' H',HH T n ρ' A' H' (AM st p:_)->A'.a=A.a->JY n q.1 q.2.2 ρ H ρ' H'->Q .cD H')
def Se(T:TC):Sp:=bx (acV T)
inductive aan(T:TC)(vs:Da V)(H:Hp)(Q:VK)(E:XK):Prop
 |mk(n ρ A st o:_)(_:vs=[.ref A.a,.str o])(_:HH T n ρ A H st)(_:isNm o=true)(_:o∉st.own)(_:st.own.length<100)(_:DG T n ρ A H (gH st o:_) λH'=>Q .cD H')
def N8(T:TC):Sp:=bx (aan T)
inductive acW(T:TC)(vs:Da V)(H:Hp)(Q:VK)(E:XK):Prop
 |mk(n ρ A st x o wo we:_)(_:vs=[.ref A.a,.str x,.str o,.int wo,.int we])(_:HH T n ρ A H st)(_:isNm x=true)(_:x∉st.nms)(_:o∈st.own)(_:1<=wo)(_:0<=we)(_:st.nms.length<1000)(_:st.ao.length<1000)(_:DG T n ρ A H (x6 st x o wo we:_) λH'=>Q .cD H')
def Sf(T:TC):Sp:=bx (acW T)
inductive aao(T:TC)(vs:Da V)(H:Hp)(Q:VK)(E:XK):Prop
 |mk(n ρ A st:_)(_:vs=[.ref A.a])(_:aV T n ρ A H st)(_:st.ao.length<=1000)(_:∀r ws H',aG H H'->H r=none->H' r=some (.lst ws)->jJ H' ws st.ao->Q (.ref r) H')
def N9(T:TC):Sp:=bx (aao T)
inductive aap(T:TC)(vs:Da V)(H:Hp)(Q:VK)(E:XK):Prop
 |mk(n ρ A st:_)(_:vs=[.ref A.a])(_:aV T n ρ A H st)(_:st.ao.length<=1000)(_:∀H',aG H H'->Q (.int (bh st)) H')
def E7(T:TC):Sp:=bx (aap T)
inductive XS(T:TC)(vs:Da V)(H:Hp)(Q:VK)(E:XK):Prop
 |mk(n ρ A st:_)(_:vs=[.ref A.a])(_:aV T n ρ A H st)(_:∀r,H r=none->Q (.ref r) (upd H r (.lst (st.own.map V.str))))
def J0(T:TC):Sp:=bx (XS T)
inductive aaq(T:TC)(vs:Da V)(H:Hp)(Q:VK)(E:XK):Prop
 |mk(bt db sp kn:Addr)(stp:Da Int)(prod top:Int)(_:vs=[.ref bt,.int top])(_:H bt=some (.ins T.bot db (xX sp prod kn)))(_:H sp=some (.lst (stp.map V.int)))(_:prod=stp.foldl (·*·) 1)(_:(∀s∈stp,2<=s))(_:Jm.Sz 8000 prod)(_:∀r H',aG H H'->H' r=some (o6 (Jm.fr top prod))->Q (.ref r) H')
def N_(T:TC):Sp:=bx (aaq T)
inductive XT(T:TC)(vs:Da V)(H:Hp)(Q:VK)(E:XK):Prop
 |mk(bt db sp kn:Addr)(stp:Da Int)(prod top:Int)(Ap:Da (Key×V))(_:vs=[.ref bt,.int top])(_:H bt=some (.ins T.bot db (xX sp prod kn)))(_:H sp=some (.lst (stp.map V.int)))(_:prod=stp.foldl (·*·) 1)(_:(∀s∈stp,2<=s))(_:Jm.Sz 8000 prod)(_:H kn=some (.dK Ap))(_:JT H Ap prod)(_:Ap.length<10000000)(_:(Ap.map (·.1)).Nodup)(_:∀r H' kvs',(∀b o,H b=some o->b≠kn->H' b=some o)->H' kn=some (.dK kvs')->JT H' kvs' prod->kvs'.length<=Ap.length+1->(kvs'.map (·.1)).Nodup->H' r=some (o6 (Jm.fr top prod))->Q (.ref r) H')
def J1(T:TC):Sp:=bx (XT T)
inductive Vg(T:TC)(vs:Da V)(H:Hp)(Q:VK)(E:XK):Prop
 |mk(n ρ A st:_)(i:Nat)(p:Pt)(_:vs=[.ref A.a,.str p.nm])(_:HH T n ρ A H st)(_:st.ao[i]?=some p)(_:st.kn+100<=1000000)(_:∀r ws ρ' A' H',HH T n ρ' A' H' { st with kn:=st.kn+100 }->A'.a=A.a->Fr n ρ H ρ' H'->H r=none->H' r=some (.lst ws)->ρ' r=none->iS H' ws (zL st p:_)->Q (.ref r) H')
def GF(T:TC):Sp:=bx (Vg T)
inductive pe(ρ:eF)(H:Hp):Da V->Da oq->Prop
 | nil:pe ρ H [] []
 | cons {r l:Addr} {x:oq} {ss:Da V} {vs:Da V} {as:Da oq}:H r=some (.tup [.str x.nm,.str x.ow,.int x.wo,.ref l])->H l=some (.lst ss)->ρ l=none->iS H ss x.sh->pe ρ H vs as->pe ρ H (.ref r::vs) (x::as)
inductive XU(T:TC)(vs:Da V)(H:Hp)(Q:VK)(E:XK):Prop
 |mk(n ρ A st:_)(_:vs=[.ref A.a])(_:HH T n ρ A H st)(_:∀r ws H',aG H H'->H r=none->H' r=some (.lst ws)->pe ρ H' ws st.lJ->Q (.ref r) H')
def J3(T:TC):Sp:=bx (XU T)
def jJ.mono{l:Da Pt}(h:jJ H vs l)(g:∀b xs,H b=some (.tup xs)->H' b=some (.tup xs)):jJ H' vs l:=by
 induction h with
 | nil=>exact .nil
 | cons a _ ih=>exact .cons (g _ _ a) ih
def jJ.snoc{l:Da Pt}{r:Addr}(h:jJ H vs l)(e:H r=some (AN p)):jJ H (vs++[.ref r]) (l++[p]):=by
 induction h with
 | nil=>exact .cons e .nil
 | cons a _ ih=>exact .cons a ih
def iS.snoc{l:Da (Str×Rat)}{r:Addr}(h:iS H vs l)(e:H r=some (.tup [.str x,.ref f]))(e2:H f=some (o6 q)):iS H (vs++[.ref r]) (l++[(x,q)]):=by
 induction h with
 | nil=>exact .cons e e2 .nil
 | cons a b _ ih=>exact .cons a b ih
def iK{p:Addr}(h:H p=none\/∃u,H p=some u/\isTup u=false):∀b xs,H b=some (.tup xs)->upd H p o b=some (.tup xs):=λb xs e=>by
 rw[av (λz=>?_)]
 .exact e
 .rw [z]at e;rcases h with h|⟨u,h,t⟩
  .rw [h]at e;cases e
  .rw [h]at e;cases e;cases t
theorem J4(h:isNm x=true):x.cps.toList.length<=100000:=by unfold isNm isName at h;have:=dI (jP.mp (jP.mp h).1).2;omega
def ux{o:Obj}(e:H d=some (.dK Ap))(s:aG (upd H d (.fF o (.dK Ap))) H1):aG H (upd H1 d (.dK Ap)):=λb u q=>by
 by_cases h:b=d
 .rw [h,e]at q;cases q;rw[h];exact ah
 .rw [av h];exact s b u (by rw[av h];exact q)
def fu{b:Addr}{o:Obj}{u:HO}(e:H d=some (.dK Ap))(q:H b=some u)(h:∀k,u ≠ .dK k):upd H d (.fF o (.dK Ap)) b=some u:=by rw[av (λz=>by rw[z,e]at q;cases q;exact h _ rfl)];exact q
def nL{b:Addr}{o:Obj}(e:H d=some (.dK Ap))(q:upd H d (.fF o (.dK Ap)) b=none):H b=none:=by
 by_cases h:b=d
 .rw [h,ah]at q;cases q
 .rw [av h]at q;exact q
def aG.tups(s:aG H H'):∀b xs,H b=some (.tup xs)->H' b=some (.tup xs):=λb xs h=>s b _ h
def take_snoc{α:Type}{l:Da α}{x:α}(h:l[i]?=some x):l.take (i+1)=l.take i++[x] :=by rw[List.take_add_one,h];rfl
theorem oz{α β γ:Type}(f:α->β->γ){xs:Da α}{ys:Da β}{x:α}{y:β}(h1:xs[i]?=some x)(h2:ys[i]?=some y):List.zipWith f (xs.take (i+1)) (ys.take (i+1))=List.zipWith f (xs.take i) (ys.take i)++[f x y] :=by have l1:=(d8.mp h1).1;have l2:=(d8.mp h2).1;rw[take_snoc h1,take_snoc h2,List.zipWith_append (by rw[kr,kr];omega)];rfl
def gO{l:Da Int}{v:V}(h:(l.map V.int)[i]?=some v):∃z,v =.int z/\l[i]?=some z:=by rw[bF]at h;obtain⟨z,hz,rfl⟩:=kT.mp h;exact⟨z,Z,hz⟩
theorem HH.mono{A:HA}(h:HH T n ρ A H st)(s:aG H H'):HH T n ρ A H' st:=⟨h.g.same s,h.h.mono s,h.wf⟩
def Sg{u:HO}(c:ρ a=none)(h:H a=some u)(t:isTup u=false):Kp n ρ ρ H (upd H a o) ts:=⟨iK (.inr ⟨u,h,t⟩),λb x y w _ hc e=>⟨by rw[av (λz=>by rw[z,c]at hc;cases hc)];exact e,hc⟩⟩
def HH.IU{A:HA}{u:HO}(h:HH T n ρ A H st)(c:ρ a=none)(e:H a=some u)(t:isTup u=false)(t2:isTup o=false):HH T n ρ A (upd H a o) st:=⟨h.g.wr t2,h.h.same (Sg c e t),h.wf⟩
def Fr.new(f:Fr n ρ H ρ' H')(h:H a=none):Fr n ρ H ρ' (upd H' a o):=λb u e k=>by rw[av (aH e h)];exact f b u e k
def Sh{α β γ:Type}(f:α->β->γ){xs:Da α}{ys:Da β}(h:xs.length=ys.length)(x:α)(y:β):List.zipWith f (xs++[x]) (ys++[y])=List.zipWith f xs ys++[f x y] :=by rw[List.zipWith_append h];rfl
theorem XW(w:Wf st){o:Str}(h:o∉st.own)(hl:st.own.length<100):Wf (gH st o):=by
 have P:∀p∈(gH st o).ao,∃p0∈st.ao,p={ p0 with row:=p0.row++[0] }:=λp hp=>by obtain⟨p0,h0,rfl⟩:=bR.mp (show p∈st.ao.map _ from hp);exact⟨p0,h0,Z⟩
 have p1:=w.jj;refine⟨?_,w.E4,?_,λp hp=>?_,λp hp=>?_,λp hp=>?_,?_,?_,w.jj,w.xY,w.Ca,?_,w.E5,?_,w.JW,w.zC,w.Wr,w.big,λc hc=>?_,λp hp=>?_,λp hp r hr=>?_,λp hp t ht=>?_,λp hp=>?_,λu hu=>?_⟩
 .exact oh w.zz h
 .show ((st.ao.map λp=>{ p with row:=p.row++[0] }).map (·.nm)).Nodup;rw[ig];exact w.o_
 .obtain ⟨p0,h0,rfl⟩:=P p hp;exact w.sub p0 h0
 .obtain ⟨p0,h0,rfl⟩:=P p hp;show(p0.row++[0]).length=(st.own++[o]).length;rw[cV,cV,w.rows p0 h0];rfl
 .obtain ⟨p0,h0,rfl⟩:=P p hp;exact EG _ (w.ow p0 h0)
 .show (st.bL++[0]).length=(st.own++[o]).length;rw[cV,cV,w.jD];rfl
 .show (st.c6++[0]).length=(st.own++[o]).length;rw[cV,cV,w.zA];rfl
 .show (st.own++[o]).length<=100;rw[cV];exact hl
 .show (st.ao.map _).length<=1000;rw[aF];exact w.xZ
 .rcases fj.mp (show c∈st.bL++[0]from hc)with z|z
  .exact w.ur c z
  .rw [eL.mp z];exact⟨lZ _,by show(0:Int)<=st.prod;omega⟩
 .obtain ⟨p0,h0,rfl⟩:=P p hp;exact w.yD p0 h0
 .obtain ⟨p0,h0,rfl⟩:=P p hp;rcases fj.mp (show r∈p0.row++[0]from hr)with z|z
  .exact w.vY p0 h0 r z
  .rw [eL.mp z];show -st.prod<=0/\0<=st.prod;omega
 .obtain ⟨p0,h0,rfl⟩:=P p hp;have el:p0.row.length=st.bL.length:=by rw[w.rows p0 h0,w.jD]
  have ht:t∈List.zipWith (λr c=>p0.sc*r+c) (p0.row++[0]) (st.bL++[0]):=ht;rw[Sh _ el _ _]at ht;rcases fj.mp ht with z|z
  .exact w.E6 p0 h0 t z
  .rw [eL.mp z];show 0<=p0.sc*0+0/\p0.sc*0+0<=st.prod;omega
 .obtain ⟨p0,h0,rfl⟩:=P p hp;exact w.zH p0 h0
 .rcases fj.mp (show u∈st.c6++[0]from hu)with z|z
  .exact w.Qa u z
  .rw [eL.mp z];exact rL (by decide +kernel)
def XX(w:Wf st)(h1:p.nm∉st.nms)(h2:st.nms.length<1000)(h3:st.ao.length<1000)(h4:p.row.length=st.own.length)(h5:p.ow∈st.own)(h6:1<=p.sc/\p.sc<=st.prod)(h7:∀r∈p.row,-st.prod<=r/\r<=st.prod)(h8:∀t∈List.zipWith (λr c=>p.sc*r+c) p.row st.bL,0<=t/\t<=st.prod)(h9:1<=p.wo/\0<=p.we):Wf (AM st p):=by
 have P:∀{M:Pt->Prop},(∀x∈st.ao,M x)->M p->∀x∈st.ao++[p],M x:=λa b x hx=>by
  rcases fj.mp hx with z|z
  .exact a x z
  .rw [eL.mp z];exact b
 refine⟨w.zz,oh w.E4 h1,?_,P (λx hx=>EG _ (w.sub x hx)) (jA _ (eL.mpr rfl)),P w.rows h4,P w.ow h5,w.jD,w.zA,w.jj,w.xY,w.Ca,w.uq,?_,?_,w.JW,w.zC,w.Wr,w.big,w.ur,P w.yD h6,P w.vY h7,P w.E6 h8,P w.zH h9,w.Qa⟩
 . show((st.ao++[p]).map (·.nm)).Nodup
   rw[br]
   refine oh w.o_ λm=>?_
   obtain⟨x,hx,e⟩:=bR.mp m
   have e:x.nm=p.nm:=e
   exact h1 (by rw[<-e];exact w.sub x hx)
 . show(st.nms++[p.nm]).length<=1000
   rw[cV];exact h2
 . show(st.ao++[p]).length<=1000
   rw[cV];exact h3
theorem x8{α β γ:Type}{f:α->β->γ}{t:γ}:∀{xs:Da α}{ys:Da β},t∈List.zipWith f xs ys->∃x∈xs,∃y∈ys,t=f x y
 | [],_,h=>by simp at h
 | _::_,[],h=>by simp at h
 | x::xs,y::ys,h=>by
  rcases cJ.mp (show t∈f x y::List.zipWith f xs ys from h)with e|m
  .exact ⟨x,cg,y,cg,e⟩
  .obtain ⟨a,ha,b,hb,e⟩:=x8 m;exact⟨a,b_ _ ha,b,b_ _ hb,e⟩
theorem Cc:∀{ts cs:Da Int},List.zipWith (λr c=>1*r+c) (List.zipWith (λt c=>t-c) ts cs) cs=ts.take cs.length
 | [],_=>by simp
 | _::_,[]=>by simp
 | t::ts,c::cs=>by show(1*(t-c)+c)::List.zipWith _ (List.zipWith _ ts cs) cs=t::ts.take cs.length;rw[Cc];congr 1;omega
def x9{b t:Int}(h:t∈(List.replicate n 0).set i b):t=0\/t=b:=by
 rcases List.mem_or_eq_of_mem_set h with z|z
 .exact .inl (List.eq_of_mem_replicate z)
 .exact .inr z
variable {wo we:Int}
theorem XY(w:Wf st){o:Str}(h1:x∉st.nms)(h2:st.nms.length<1000)(h3:st.ao.length<1000)(ho:o∈st.own)(h4:1<=wo)(h5:0<=we):Wf (x6 st x o wo we):=by
 have p1:=w.jj;refine XX w h1 h2 h3 ?_ ho ⟨lZ 1,w.jj⟩ (λr hr=>?_) (λt ht=>?_) ⟨h4,h5⟩
 .show (List.zipWith _ ((List.replicate st.own.length 0).set _ _) st.bL).length=_;rw[qi,lg,mK,w.jD,Nat.min_self]
 .obtain ⟨t,ht,c,hc,rfl⟩:=x8 (show r∈List.zipWith _ _ st.bL from hr);have:=w.ur c hc;rcases x9 ht with rfl|rfl <;> omega
 .have e:List.zipWith (λr c=>1*r+c) (zK st ((List.replicate st.own.length 0).set (st.own.idxOf o) st.prod)) st.bL=_:=Cc;have ht:t∈List.zipWith (λr c=>1*r+c) (zK st ((List.replicate st.own.length 0).set (st.own.idxOf o) st.prod)) st.bL:=ht;rw[e]at ht;rcases x9 (List.mem_of_mem_take ht)with rfl|rfl <;> omega
def kD{b:Addr}{u:HO}(h:a≠b):upd (upd H a o) b u=upd (upd H b u) a o:=by
 funext c;unfold upd;by_cases e1:c=b
 .rw [aC e1,aB (λz=>h (z.symm.trans e1)),aC e1]
 .rw [aB e1];by_cases e2:c=a
  .rw [aC e2,aC e2]
  .rw [aB e2,aB e2,aB e1]
def x_(h:H a=some o):upd H a o=H:=by
 funext c;unfold upd;by_cases e:c=a
 .rw [aC e,e,h]
 .rw [aB e]
theorem J5{α:Type}(g:α->α){l:Da α}{p:α}(h:l[i]?=some p):((l.take i).map g++l.drop i)[i]?=some p:=by
 have hi:=(d8.mp h).1;have e:((l.take i).map g).length=i:=by rw[aF,kr];omega
 rw[I0 (by omega),e,Av,List.getElem?_drop];exact h
theorem J6{α:Type}(g:α->α){l:Da α}{p:α}(h:l[i]?=some p):((l.take i).map g++l.drop i).set i (g p)=(l.take (i+1)).map g++l.drop (i+1):=by
 have hi:=(d8.mp h).1;have e:((l.take i).map g).length=i:=by rw[aF,kr];omega
 have ep:l[i]=p:=by rw[aS hi]at h;exact ie h
 rw[List.set_append_right _ _ (by omega),e,Av,Jb hi,O_,take_snoc h,br,Jh];rfl
def qu{α β:Type}(g:α->α)(f:α->β)(hf:∀x,f (g x)=f x)(l:Da α)(i:Nat):((l.take i).map g++l.drop i).map f=l.map f:=by rw[br,ig,show f ∘ g=f from funext hf,<-br,List.take_append_drop]
def oB{ps ps':Da Pt}(h:ps.map (·.nm)=ps'.map (·.nm)):cT ps qs=cT ps' qs:=by
 have:∀{ps:Da Pt},cT ps qs=List.zipWith (λ(x:Str) q=>((Sum.inr x:Key),V.ref q.1)) (ps.map (·.nm)) qs:=λ{ps}=>by unfold cT;rw[List.zipWith_map_left]
 rw[this,this,h]
structure gI(p:Addr)(H:Hp)(ρ:eF)(H':Hp)(ρ':eF)(l:Da (Addr×HO×m7)):Prop where
 m:∀e∈l,H' e.1=some e.2.1/\ρ' e.1=some e.2.2/\e.1≠p
 k:∀b o,H b=some o->b≠p->H' b=some o/\ρ' b=ρ b
 g:Gh ρ' H'
 pp:∃u,H' p=some u
def gI.new{p:Addr}{l:Da (Addr×HO×m7)}{c:m7}(h:gI p H ρ H' ρ' l)(ha:H' a=none)(t:isTup o=false):gI p H ρ (upd H' a o) (cL ρ' a c) ((a,o,c)::l):=by
 obtain⟨u,hu⟩:=h.pp;refine⟨λe he=>?_,λb w hb hp=>?_,(h.g.alloc ha).color ah t,u,by rw[av (aH hu ha)];exact hu⟩
 .rcases cJ.mp he with rfl|he
  .exact ⟨ah,dX,λz=>by rw[show a=p from z,hu]at ha;cases ha⟩
  .obtain ⟨x,y,z⟩:=h.m e he;have:e.1≠a:=aH x ha;rw[av this,bZ this];exact⟨x,y,z⟩
 .obtain ⟨x,y⟩:=h.k b w hb hp;have:b≠a:=aH x ha;rw[av this,bZ this];exact⟨x,y⟩
theorem gI.wr{p:Addr}{l:Da (Addr×HO×m7)}{u:HO}(h:gI p H ρ H' ρ' l)(t:isTup u=false):gI p H ρ (upd H' p u) ρ' l:=by
 refine⟨λe he=>?_,λb w hb hp=>?_,h.g.wr t,u,ah⟩
 .obtain ⟨x,y,z⟩:=h.m e he;rw[av z];exact⟨x,y,z⟩
 .obtain ⟨x,y⟩:=h.k b w hb hp;rw[av hp];exact⟨x,y⟩
theorem gI.same{p:Addr}{uy:Hp}{l:Da (Addr×HO×m7)}(h:gI p H ρ H' ρ' l)(s:aG H' uy):gI p H ρ uy ρ' l:=by obtain⟨u,hu⟩:=h.pp;exact⟨λe he=>let⟨x,y,z⟩:=h.m e he;⟨s _ _ x,y,z⟩,λb w hb hp=>let⟨x,y⟩:=h.k b w hb hp;⟨s _ _ x,y⟩,h.g.same s,u,s _ _ hu⟩
def gI.add{p:Addr}{H0:Hp}{ρ0:eF}{l l0:Da (Addr×HO×m7)}{c:m7}(h:gI p H ρ H' ρ' l)(ha:H' a=some o)(t:isTup o=false)(h0:gI p H ρ H0 ρ0 l0)(hn:H0 a=none)(hl:∀e∈l,e.1≠a):gI p H ρ H' (cL ρ' a c) ((a,o,c)::l):=by
 refine⟨λe he=>?_,λb w hb hp=>?_,h.g.color ha t,h.pp⟩
 .rcases cJ.mp he with rfl|he
  .obtain ⟨u,hu⟩:=h0.pp;exact⟨ha,dX,λz=>by rw[show a=p from z,hu]at hn;cases hn⟩
  .obtain ⟨x,y,z⟩:=h.m e he;rw[bZ (hl e he)];exact⟨x,y,z⟩
 .obtain ⟨x,y⟩:=h.k b w hb hp;obtain⟨x0,_⟩:=h0.k b w hb hp;rw[bZ (aH x0 hn)];exact⟨x,y⟩
theorem J7:∀(l:Da Int)(a:Int),l.foldl (·*·) a=a*l.foldl (·*·) 1
 | [],a=>by simp
 | s::l,a=>by rw[lX,J7 l (a*s),lX,J7 l (1*s),Int.one_mul,jH]
def E8(s:Int)(l:Da Int):(s::l).foldl (·*·) 1=s*l.foldl (·*·) 1:=by rw[lX,J7,Int.one_mul]
def XZ(s:Int)(l:Da Int):(l++[s]).foldl (·*·) 1=l.foldl (·*·) 1*s:=by rw[Ji];rfl
theorem J8:∀{l:Da Int},(∀s∈l,2<=s)->1<=l.foldl (·*·) 1
 | [],_=>by decide
 | s::l,h=>by rw[E8];have h1:=h s cg;have h2:=J8 (l:=l) λx hx=>h x (b_ _ hx);have:=Int.mul_le_mul (a:=1) (b:=1) (c:=s) (d:=l.foldl (·*·) 1) (by omega) h2 (by decide) (by omega);omega
theorem Wu:∀{l:Da Int}{s:Int},(∀s∈l,2<=s)->s∈l->s<=l.foldl (·*·) 1
 | [],_,_,h=>by simp at h
 | a::l,s,h,m=>by
  rw[E8];have h1:=h a cg;have h2:=J8 (l:=l) λx hx=>h x (b_ _ hx);rcases cJ.mp m with rfl|m
  .have:=Gd h2 (by omega:0<=s);omega
  .have h3:=Wu (λx hx=>h x (b_ _ hx)) m;have:=Q9 (by omega:1<=a) (by omega:0<=l.foldl (·*·) 1);omega
theorem Si{t d s:Int}(hd:0<d)(hs:0<s)(c:Jm.cf t d=1):Jm.cf (t / Jm.cf t s) (d*(s / Jm.cf t s))=1/\0<d*(s / Jm.cf t s):=by
 have gp:0<Jm.cf t s:=Jm.Dj t s (.inr hs);obtain⟨u,hu⟩:=Jm.qU t s;obtain⟨v,hv⟩:=Jm.oY t s;generalize eg:Jm.cf t s=g at *;have e1:t / g=u:=by rw[hu,EE _ (by omega)]
 have e2:s / g=v:=by rw[hv,EE _ (by omega)]
 have vp:0<v:=by
  rcases CY 0 v with z|z
  .exact z
  .have:=Gd z (by omega:0<=g);omega
 rw[e1,e2];have c0:Nat.Coprime t.natAbs d.natAbs:=by unfold Jm.cf at c;exact_mod_cast c
 have c1:Nat.Coprime u.natAbs d.natAbs:=Nat.Coprime.coprime_dvd_left ⟨g.natAbs,by rw[hu,CT,Nat.mul_comm]⟩ c0;have c2:Nat.Coprime u.natAbs v.natAbs:=by
  have hg:Int.gcd t s=g.natAbs:=by unfold Jm.cf at eg;omega
  have Wv:Nat.gcd t.natAbs s.natAbs=g.natAbs:=hg;have:=Nat.coprime_div_gcd_div_gcd (m:=t.natAbs) (n:=s.natAbs) (by rw[Wv];omega);rw[Wv]at this;have gn:0<g.natAbs:=by omega
  rw[hu,hv,CT,CT,Nat.mul_div_cancel_left _ gn,Nat.mul_div_cancel_left _ gn]at this;exact this
 refine⟨?_,Int.mul_pos hd vp⟩;have:=Nat.Coprime.mul_right c1 c2;rw[<-CT]at this;unfold Jm.cf;exact_mod_cast this
def Vh{κ:Type}[DecidableEq κ]{Ap:Da (κ×V)}{k:κ}{v:V}(h:d7 Ap k=some v):(k,v)∈Ap:=by unfold d7 at h;obtain⟨p,hp,rfl⟩:=kT.mp h;have:=List.find?_some hp;have e:p.1=k:=dI this;rw[<-e];exact List.mem_of_find?_eq_some hp
def aV.Vi{A:HA}(h:aV T n ρ A H st)(k:∀b o,H b=some o->b≠A.kn->H' b=some o)(e1:H' A.kn=some (.dK Ap))(e2:JT H' Ap st.prod)(e3:Ap.length<=m)(e4:(Ap.map (·.1)).Nodup):aV T n ρ A H' { st with kn:=m }:=by
 obtain⟨kv0,k0,_⟩:=h.okn;have z:=λ{b:Addr}{t:Nat}{x:Str}{o:HO}(u:t≠9)(c:ρ b=some (n,t,x))(e:H b=some o)=>k b o e (DE c h.jW (λw=>by cases w;exact u rfl));have tp:∀b xs,H b=some (.tup xs)->H' b=some (.tup xs):=λb xs e=>k b _ e (iZ e k0 (by intro w;cases w));obtain⟨vs,h1,h2⟩:=h.vB;have kp:Kp n ρ ρ H H' λt=>decide (t≠9):=⟨tp,λb t x o u c e=>⟨z (dI u) c e,c⟩⟩
 exact⟨z (by decide) h.ca h.oa,h.ca,z (by decide) h.jG h.i_,h.jG,z (by decide) h.gW h.eX,h.gW,⟨vs,z (by decide) h.kg h1,h2.keep kp (by decide)⟩,h.kg,z (by decide) h.jS h.uo,h.jS,z (by decide) h.jT h.ou,h.jT,z (by decide) h.kO h.jU,h.kO,z (by decide) h.cpu h.qg,h.cpu,z (by decide) h.jV h.s_,h.jV,⟨Ap,e1,e2,e3,e4⟩,h.jW,h.ql,
  λi p q a b=>let⟨x,y,c,d⟩:=h.opt i p q a b;⟨z (by decide) c x,z (by decide) d y,c,d⟩⟩
def acX(w:Wf st)(h:m<=1000000):Wf { st with kn:=m }:=⟨w.zz,w.E4,w.o_,w.sub,w.rows,w.ow,w.jD,w.zA,w.jj,w.xY,w.Ca,w.uq,w.E5,w.xZ,w.JW,w.zC,h,w.big,w.ur,w.yD,w.vY,w.E6,w.zH,w.Qa⟩
theorem o9.length(h:o9 n ρ H vs l):vs.length=l.length:=by
 induction h with
 | nil=>rfl
 | cons _ _ _ _ _ ih=>simp[ih]
def o9.get(h:o9 n ρ H vs l):∀{i:Nat}{x:V},vs[i]?=some x->∃r q y ss,x =.ref r/\l[i]?=some y/\H r=some (.tup [.str y.nm,.str y.ow,.int y.wo,.ref q])/\H q=some (.lst ss)/\ρ q=some (n,30,⟨#[]⟩)/\iS H ss y.sh:=by
 induction h with
 | nil=>intro i x e;simp at e
 | @cons r q y ss vs as a b c d _ ih=>
  intro i x e;cases i with
  | zero=>simp at e;subst e;exact⟨r,q,y,ss,Z,Z,a,b,c,d⟩
  | succ i=>simp at e;obtain⟨r',q',y',ss',e1,e2,e3⟩:=ih e;exact⟨r',q',y',ss',e1,by simpa using e2,e3⟩
inductive kF(a:Addr)(ρ:eF)(H:Hp):Da V->Da oq->Prop
 | nil:kF a ρ H [] []
 | cons {r l:Addr} {x:oq} {ss:Da V} {vs:Da V} {as:Da oq}:H r=some (.tup [.str x.nm,.str x.ow,.int x.wo,.ref l])->H l=some (.lst ss)->ρ l=none->l≠a->iS H ss x.sh->kF a ρ H vs as->kF a ρ H (.ref r::vs) (x::as)
def kF.to(h:kF a ρ H vs l):pe ρ H vs l:=by
 induction h with
 | nil=>exact .nil
 | cons x y z _ w _ ih=>exact .cons x y z w ih
theorem kF.mono(h:kF a ρ H vs l)(g:aG H H'):kF a ρ H' vs l:=by
 induction h with
 | nil=>exact .nil
 | cons x y z n w _ ih=>exact .cons (g _ _ x) (g _ _ y) z n (w.mono g.tups) ih
theorem kF.upd(h:kF a ρ H vs l)(ha:H a=some (.lst xs)):kF a ρ (L2.upd H a (.lst ys)) vs l:=by
 induction h with
 | nil=>exact .nil
 | cons x y z n w _ ih=>exact .cons (iK (.inr ⟨_,ha,Z⟩) _ _ x) (by rw[av n];exact y) z n (w.mono (iK (.inr ⟨_,ha,Z⟩))) ih
def kF.snoc{as:Da oq}{r l:Addr}{x:oq}{ss:Da V}(h:kF a ρ H vs as)(e1:H r=some (.tup [.str x.nm,.str x.ow,.int x.wo,.ref l]))(e2:H l=some (.lst ss))(e3:ρ l=none)(e5:l≠a)(e4:iS H ss x.sh):kF a ρ H (vs++[.ref r]) (as++[x]):=by
 induction h with
 | nil=>exact .cons e1 e2 e3 e5 e4 .nil
 | cons x y z n w _ ih=>exact .cons x y z n w ih
theorem pe.length(h:pe ρ H vs l):vs.length=l.length:=by
 induction h with
 | nil=>rfl
 | cons _ _ _ _ _ ih=>simp[ih]
def Sq(K:Fg)(H:Hp)(r:Addr)(xs:Da V):Prop:=aA K H r xs\/cz K H r xs
def aG.sq{r:Addr}(g:aG H H')(h:Sq K H r xs):Sq K H' r xs:=h.elim (λz=> .inl (g.seq z)) λz=> .inr (g.tup z)
structure zM(K:Fg)(H:Hp)(us:Da V)(ps:Da Pt):Prop where
 len:us.length=ps.length
 at_:∀(i:Nat)(p:Pt),ps[i]?=some p->∃r xs,us[i]?=some (.ref r)/\Sq K H r xs/\xs[0]?=some (.str p.nm)/\xs[1]?=some (.str p.ow)/\xs[2]?=some (.int p.wo)/\xs[3]?=some (.int p.we)
def zM.mono{us:Da V}{ps:Da Pt}(h:zM K H us ps)(g:aG H H'):zM K H' us ps:=⟨h.len,λi p e=>let⟨r,xs,a,b,c⟩:=h.at_ i p e;⟨r,xs,a,g.sq b,c⟩⟩
def aar(ps:Da Pt):Prop:=∀p∈ps,PyData.strOk p.nm=true/\PyData.strOk p.ow=true
inductive Sj(K:Fg)(vs:Da V)(H:Hp)(Q:VK)(E:XK):Prop
 |mk(r l:Addr)(ws us:Da V)(ps:Da Pt)(_:vs=[.ref r,.ref l])(_:H r=some (.lst ws))(_:jJ H ws ps)(_:aA K H l us)(_:zM K H us ps)(_:aar ps)(_:ps.length<=1000)(_:∀H',aG H H'->Q (.bl true) H')
def DI(K:Fg):Sp:=bx (Sj K)
def dB(own:Da Str)(tops:Da Int)(b:Int):Da (Str×Rat):=(List.zip own tops).filterMap λx=>if 0<x.2 then some (x.1,Jm.fr x.2 b) else none
theorem jJ.length{l:Da Pt}(h:jJ H vs l):vs.length=l.length:=by
 induction h with
 | nil=>rfl
 | cons _ _ ih=>simp[ih]
def jJ.get{l:Da Pt}(h:jJ H vs l):∀{i:Nat}{p:Pt},l[i]?=some p->∃r,vs[i]?=some (.ref r)/\H r=some (AN p):=by
 induction h with
 | nil=>intro i p e;simp at e
 | @cons r q vs ps a _ ih=>
  intro i p e;cases i with
  | zero=>simp at e;subst e;exact⟨r,Z,a⟩
  | succ i=>simp at e;obtain⟨r',e1,e2⟩:=ih e;exact⟨r',by simpa using e1,e2⟩
theorem iS.length{l:Da (Str×Rat)}(h:iS H vs l):vs.length=l.length:=by
 induction h with
 | nil=>rfl
 | cons _ _ _ ih=>simp[ih]
def iS.get{l:Da (Str×Rat)}(h:iS H vs l):∀{i:Nat}{x:Str}{q:Rat},l[i]?=some (x,q)->∃r f,vs[i]?=some (.ref r)/\H r=some (.tup [.str x,.ref f])/\H f=some (o6 q):=by
 induction h with
 | nil=>intro i x q e;simp at e
 | @cons r f x q vs l a b _ ih=>
  intro i y p e;cases i with
  | zero=>simp at e;obtain⟨rfl,rfl⟩:=e;exact⟨r,f,Z,a,b⟩
  | succ i=>simp at e;obtain⟨r',f',e1,e2⟩:=ih e;exact⟨r',f',by simpa using e1,e2⟩
def AQ(p:Pt):PyData:=.tuple [.str p.nm,.str p.ow,.int p.wo,.int p.we]
def Oa{r:Addr}(h:H r=some (AN p)):Dt K H (.ref r) (AQ p):=.tup (cz.of h) (.cons (.str _) (.cons (.str _) (.cons (.int _) (.cons (.int _) .nil))))
def Bu(h1:PyData.strOk p.nm=true)(h2:PyData.strOk p.ow=true):SeqAt.shaped (AQ p)=true:=by unfold AQ SeqAt.shaped;refine jP.mpr ⟨?_,Z⟩;simp[PyData.canLay0,PyData.canLayAll0,h1,h2]
def Vj(p:Pt):PyData.eqv (AQ p) (AQ p)=true:=by unfold AQ;simp[PyData.eqv,PyData.eqvAll]
def Cd(x:Str):Prop:=o8 x.cps.toList
def Qc:∀i:Fin 26,Du "abcdefghijklmnopqrstuvwxyz" (97+i.val)=true:=by decide +kernel
theorem Cd.isNm(h:Cd x):L2.isNm x=true:=by unfold L2.isNm isName;have h1:=h.lo;have h2:=h.hi;refine jP.mpr ⟨jP.mpr ⟨cu (by omega),cu (by omega)⟩,qP.mpr λc hc=>?_⟩;have h3:=h.NU c hc;have:=Qc ⟨c-97,by omega⟩;rw[show 97+(c-97)=c from by omega]at this;exact this
theorem Cd.strOk(h:Cd x):PyData.strOk x=true:=by unfold PyData.strOk;rw[Array.all_eq_true'];intro c hc;have:=h.NU c (by simpa using hc);exact cu (by omega)
inductive aas(T:TC)(K:Fg)(vs:Da V)(H:Hp)(Q:VK)(E:XK):Prop
 |mk(l:Addr)(own:Da Str)(n:Nat)(ρ:eF)(_:vs=[.ref l])(_:aA K H l (own.map V.str))(_:ρ l=none)(_:own.Nodup)(_:(∀o∈own,isNm o=true))(_:own.length<=100)(_:Gh ρ H)(_:∀ρ' A H',HH T n ρ' A H' (own.foldl gH hs0)->Fr n ρ H ρ' H'->Q (.ref A.a) H')
def Ob(T:TC)(K:Fg):Sp:=bx (aas T K)
theorem zN:∀(l:Da Str)(st:HS),(l.foldl gH st).own=st.own++l
 | [],st=>by simp
 | o::l,st=>by rw[lX,zN l];show(st.own++[o])++l=_;rw[Jh];rfl
def oF(K:Fg)(hK:X.K=K:=by rfl):yy X (Zv K):=hK▸Zw
def Sq.ix{r:Addr}{v:V}{Q:VK}(h:Sq K H r xs)(e:xs[i]?=some v)(q:Q v H):Zv K (.ref r) (.int (i:Int)) H Q:=by
 rcases h with h|h
 .exact .inl ⟨r,xs,i,v,Z,Z,h,aX e,q⟩
 .exact .inr (.inl ⟨r,xs,i,v,Z,Z,h,aX e,q⟩)
variable {own:Da Str}
theorem Hr{tops:Da Int}{b:Int}(hb:0<b)(hz:Jm.Sz m b)(h:(x,q)∈dB own tops b):Jm.Sz m (q.den:Int):=by
 unfold dB at h;obtain⟨y,_,e⟩:=EK.mp h;by_cases c:0<y.2
 .rw [aC c]at e;cases e;refine hz.of_le ?_;have:=Jm.RO y.2 b hb;omega
 .rw [aB c]at e;cases e
def Fr.at(f:Fr n ρ H ρ' H'){b:Addr}(e:H b=some o)(c:ρ b=none):H' b=some o/\ρ' b=none:=by obtain⟨a,d⟩:=f b o e (λt x=>by rw[c];intro z;cases z);exact⟨a,d.trans c⟩
def Fr.seq(f:Fr n ρ H ρ' H'){l:Addr}(h:aA K H l xs)(c:ρ l=none):aA K H' l xs:=by
 rcases h with(h|⟨o,h⟩)|h
 .exact .inl (.inl (f.at h c).1)
 .exact .inl (.inr ⟨o,(f.at h c).1⟩)
 .exact .inr h
theorem Fr.tup{n:Nat}{ρ ρ':eF}{H H':Hp}(f:Fr n ρ H ρ' H')(g:Gh ρ H):∀b xs,H b=some (.tup xs)->H' b=some (.tup xs):=λb xs e=>(f.at e (g.tup e)).1
def DJ(nss:Da (Da Nat)):Da Str:=nss.map tx
def X0(nss:Da (Da Nat)):ug nss=(DJ nss).map V.str:=by unfold ug DJ;rw[ig];rfl
def GG(h:nss.Nodup):(DJ nss).Nodup:=by unfold DJ;exact List.Pairwise.map tx (λa b hab e=>hab (R1 e)) h
def Sk(h:∀x∈nss,o8 x):∀o∈DJ nss,Cd o:=λo ho=>by obtain⟨x,hx,rfl⟩:=bR.mp ho;show o8 (tx x).cps.toList;rw[show(tx x).cps.toList=x from by simp];exact h x hx
def Oc(nss:Da (Da Nat)):(DJ nss).length=nss.length:=by unfold DJ;rw[aF]
theorem Vk{l:Da Str}{d:Int}(h0:0<=d)(h1:d<(l.length:Int)):∃(j:Nat)(o:Str),d=(j:Int)/\l[j]?=some o/\nZ (l.map V.str) d=some (.str o):=by
 obtain⟨j,rfl⟩:∃j:Nat,d=(j:Int):=⟨d.toNat,by omega⟩
 have hj:j<l.length:=by omega
 exact⟨j,l[j],Z,aS hj,aX (by rw[bF,aS hj];rfl)⟩
section
variable {T:TC}{n:Nat}{L H:Hp}{x lp:Addr}{st:HS}{ps:Da Pt}
end
def jX{α:Type}{l:Da α}(nd:l.Nodup){x:α}(h:l[i]?=some x):x∉l.take i:=λm=>by have h2:(l.take (i+1)).Nodup:=nd.sublist (List.take_sublist _ _);rw[take_snoc h]at h2;exact(List.nodup_append.mp h2).2.2 x m x (eL.mpr rfl) rfl
abbrev Row:=Str×Int
def uz(r:Row):HO:=.tup [.str r.1,.int r.2]
inductive fB(H:Hp):Da V->Da Row->Prop
 | nil:fB H [] []
 | cons {a:Addr} {r:Row} {vs:Da V} {rs:Da Row}:H a=some (uz r)->fB H vs rs->fB H (.ref a::vs) (r::rs)
def fB.mono{l:Da Row}(h:fB H vs l)(g:∀b xs,H b=some (.tup xs)->H' b=some (.tup xs)):fB H' vs l:=by
 induction h with
 | nil=>exact .nil
 | cons a _ ih=>exact .cons (g _ _ a) ih
theorem fB.length{l:Da Row}(h:fB H vs l):vs.length=l.length:=by
 induction h with
 | nil=>rfl
 | cons _ _ ih=>simp[ih]
def fB.get{l:Da Row}(h:fB H vs l):∀{i:Nat}{x:V},vs[i]?=some x->∃a r,x =.ref a/\l[i]?=some r/\H a=some (uz r):=by
 induction h with
 | nil=>intro i x e;simp at e
 | @cons a r vs rs e0 _ ih=>
  intro i x e;cases i with
  | zero=>simp at e;subst e;exact⟨a,r,Z,Z,e0⟩
  | succ i=>simp at e;obtain⟨a',r',e1,e2,e3⟩:=ih e;exact⟨a',r',e1,by simpa using e2,e3⟩
variable {r:Row}
def fB.snoc{l:Da Row}(h:fB H vs l)(e:H a=some (uz r)):fB H (vs++[.ref a]) (l++[r]):=by
 induction h with
 | nil=>exact .cons e .nil
 | cons a _ ih=>exact .cons a ih
def gP(rs:Da Row):Da (Key×V):=rs.map λr=>((Sum.inr r.1:Key),V.int r.2)
def ya(rs:Da Row):(gP rs).length=rs.length:=by unfold gP;rw[aF]
variable {rs:Da Row}
def GH(h:x∉rs.map (·.1)):d7 (gP rs) (Sum.inr x)=none:=by
 unfold gP
 induction rs with
 | nil=>rfl
 | cons a l ih=>rw[bJ,fm (λz=>h (by rw[bJ,<-tL z];exact cg))];exact ih λm=>h (by rw[bJ];exact b_ _ m)
def bq(rs:Da Row):Int:=(rs.map (·.2)).sum
def dg(st:HS)(x:Str):Pt:=(st.ao.find? λp=>decide (p.nm=x)).getD ⟨x,x,0,0,1,[]⟩
def Od(nd:(st.ao.map (·.nm)).Nodup)(h:st.ao[i]?=some p):dg st p.nm=p:=by
 unfold dg;have:st.ao.find? (λq=>decide (q.nm=p.nm))=some p:=by
  generalize st.ao=ps at *
  induction ps generalizing i with
  | nil=>simp at h
  | cons a ps ih=>
   obtain⟨h1,h2⟩:=iG.mp (show(a.nm::ps.map (·.nm)).Nodup from nd);cases i with
   | zero=>
    have:a=p:=by simpa using h
    subst this;rw[tH,cu rfl]
   | succ i=>
    have h':ps[i]?=some p:=by simpa using h
    rw[tH,dz (λe=>h1 (bR.mpr ⟨p,bP h',e.symm⟩))];exact ih h2 h'
 rw[this];rfl
def jE(st:HS)(sums:Da Int)(r:Row):Da Int:=List.zipWith (λold own=>old+(r.2*(dg st r.1).sc)*own) sums (dg st r.1).row
def gc(st:HS)(rs:Da Row):Da Int:=rs.foldl (jE st) (st.bL.map λc=>bq rs*c)
def pA(s:Int)(ts:Da Int):Int:=ts.foldl (λs t=>Jm.cf t s) s
def iL(st:HS)(kept:Int):Da Int:=st.ao.map λp=>p.sc*kept
def fZ(st:HS)(kept:Int)(added:Da Int):Da Int:=List.zipWith (λt m=>t*kept+m) st.bL added
def cZ(st:HS)(kept whole:Int)(added:Da Int):Int:=pA whole (iL st kept++fZ st kept added)
def fW(st:HS)(s:Int):HS:=if 1<s then{ st with stp:=st.stp++[s],prod:=st.prod*s,kn:=0 } else st
def cQ(st:HS)(kept whole:Int)(added:Da Int):HS:=fW { st with ao:=st.ao.map (λp=>{ p with sc:=p.sc*kept / cZ st kept whole added }),bL:=(fZ st kept added).map (· / cZ st kept whole added),c6:=st.c6.map (·*(whole / cZ st kept whole added)) } (whole / cZ st kept whole added)
def nu(ps:Da Pt)(x:Str)(a:Int):Da Pt:=(ps.map λp=>if p.nm=x then{ p with wo:=p.wo-a } else p).filter λp=>decide (p.wo≠0)
def gk(st:HS)(r:Row):HS:={ st with ao:=nu st.ao r.1 r.2 }
def jk(st:HS)(rs:Da Row):HS:=rs.foldl gk (cQ st (bh st-bq rs) (bh st) (gc st rs))
inductive acY(K:Fg)(vs:Da V)(H:Hp)(Q:VK)(E:XK):Prop
 |mk(s:Int)(l:Addr)(ts:Da Int)(_:vs=[.int s,.ref l])(_:aA K H l (ts.map V.int))(_:0<=s)(_:(∀t∈ts,0<=t))(_:Q (.int (pA s ts)) H)
def Sl(K:Fg):Sp:=bx (acY K)
inductive acZ(T:TC)(vs:Da V)(H:Hp)(Q:VK)(E:XK):Prop
 |mk(n ρ A st s:_)(_:vs=[.ref A.bt,.int s])(_:Gh ρ H)(_:aV T n ρ A H st)(_:st.stp.length<=1000)(_:Jm.Sz 9000 st.prod)(_:Jm.Sz 9000 s)(_:∀ρ' A' H',Gh ρ' H'->aV T n ρ' A' H' (fW st s:_)->A'.a=A.a->Fr n ρ H ρ' H'->Q .cD H')
def Sm(T:TC):Sp:=bx (acZ T)
inductive aat(T:TC)(vs:Da V)(H:Hp)(Q:VK)(E:XK):Prop
 |mk(n ρ A st:_)(d:Addr)(rs:Da Row)(_:vs=[.ref A.a,.ref d])(_:aV T n ρ A H st)(_:Wf st)(_:H d=some (.dK (gP rs)))(_:ρ d=none)(_:rs.length<=1000)(_:(∀r∈rs,Jm.Sz 60 r.2/\∃p∈st.ao,p.nm=r.1))(_:∀l H',aG H H'->H l=none->H' l=some (.lst ((gc st rs).map V.int))->Q (.ref l) H')
def Oe(T:TC):Sp:=bx (aat T)
inductive aau(T:TC)(K:Fg)(vs:Da V)(H:Hp)(Q:VK)(E:XK):Prop
 |mk(n ρ A st:_)(kept whole:Int)(l:Addr)(added:Da Int)(_:vs=[.ref A.a,.int kept,.int whole,.ref l])(_:HH T n ρ A H st)(_:aA K H l (added.map V.int))(_:added.length=st.bL.length)(_:0<kept)(_:0<whole)(_:Jm.Sz 60 kept)(_:Jm.Sz 60 whole)(_:(∀m∈added,0<=m/\Jm.Sz 8900 m))(_:(∀u∈st.c6,Jm.Sz 8900 u))(_:st.stp.length<100)(_:Wf (cQ st kept whole added))(_:DG T n ρ A H (cQ st kept whole added:_) λH'=>Q .cD H')
def Of(T:TC)(K:Fg):Sp:=bx (aau T K)
inductive ac0(T:TC)(vs:Da V)(H:Hp)(Q:VK)(E:XK):Prop
 |mk(n ρ A st:_)(r:Row)(_:vs=[.ref A.a,.str r.1,.int r.2])(_:HH T n ρ A H st)(_:(∃p∈st.ao,p.nm=r.1/\r.2<=p.wo))(_:Wf (gk st r))(_:DG T n ρ A H (gk st r:_) λH'=>Q .cD H')
def Sn(T:TC):Sp:=bx (ac0 T)
structure m8(st:HS)(rs:Da Row):Prop where
 nd:(rs.map (·.1)).Nodup
 ne:rs≠[]
 len:rs.length<=1000
 row:∀r∈rs,1<=r.2/\Jm.Sz 60 r.2/\∃p∈st.ao,p.nm=r.1/\r.2<=p.wo
 lost:bq rs<bh st
 big:Jm.Sz 60 (bh st)
 prod:Jm.Sz 7900 st.prod
 c6:∀u∈st.c6,Jm.Sz 8900 u
 stp:st.stp.length<100
theorem J9:∀{ps:Da Pt}{qs:Da (Addr×Addr×Addr)}{i:Nat}{p:Pt},(ps.map (·.nm)).Nodup->qs.length=ps.length->ps[i]?=some p->nt (cT ps qs) (Sum.inr p.nm)=cT (ps.eraseIdx i) (qs.eraseIdx i)
 | [],_,_,_,_,_,h=>by simp at h
 | _::_,[],_,_,_,hl,_=>by simp at hl
 | a::ps,b::qs,0,p,nd,hl,h=>by
  have e:a=p:=by simpa using h
  subst e;obtain⟨h1,h2⟩:=iG.mp (show(a.nm::ps.map (·.nm)).Nodup from nd);show nt ((Sum.inr a.nm,V.ref b.1)::cT ps qs) (Sum.inr a.nm)=cT ps qs;unfold nt;rw[iF,aB (by simp)];refine List.filter_eq_self.mpr λkv hkv=>?_;unfold cT at hkv;obtain⟨x,hx,y,hy,rfl⟩:=x8 hkv;exact cu λz=>h1 (bR.mpr ⟨x,hx,tL z⟩)
 | a::ps,b::qs,i+1,p,nd,hl,h=>by
  obtain⟨h1,h2⟩:=iG.mp (show(a.nm::ps.map (·.nm)).Nodup from nd);have h':ps[i]?=some p:=by simpa using h
  have ih:=J9 h2 (by simpa using hl) h';show nt ((Sum.inr a.nm,V.ref b.1)::cT ps qs) (Sum.inr p.nm)=(Sum.inr a.nm,V.ref b.1)::cT (ps.eraseIdx i) (qs.eraseIdx i);rw[<-ih];unfold nt;have hne:¬ (Sum.inr a.nm:Key)=Sum.inr p.nm:=λz=>h1 (bR.mpr ⟨p,bP h',(tL z).symm⟩);rw[iF,aC (by simpa using λe:a.nm=p.nm=>hne (by rw[e]))]
theorem J_:∀{ps:Da Pt}{i:Nat}{p:Pt}{a:Int},(ps.map (·.nm)).Nodup->(∀q∈ps,q.wo≠0)->ps[i]?=some p->nu ps p.nm a=if p.wo-a=0 then ps.eraseIdx i else ps.set i { p with wo:=p.wo-a }
 | [],_,_,_,_,_,h=>by simp at h
 | x::ps,0,p,a,nd,hw,h=>by
  have e:x=p:=by simpa using h
  subst e;obtain⟨h1,h2⟩:=iG.mp (show(x.nm::ps.map (·.nm)).Nodup from nd);have Cl:nu ps x.nm a=ps:=by
   unfold nu;rw[show(ps.map λp=>if p.nm=x.nm then{ p with wo:=p.wo-a } else p)=ps from by
    conv=>rhs;rw[<-List.map_id ps]
    exact List.map_congr_left λy hy=>aB λz=>h1 (bR.mpr ⟨y,hy,z⟩)]
   exact List.filter_eq_self.mpr λy hy=>cu (hw y (b_ _ hy))
  show((x::ps).map λp=>if p.nm=x.nm then{ p with wo:=p.wo-a } else p).filter _=_;rw[bJ,aC rfl,iF];by_cases c:x.wo-a=0
  .rw [aC c,aB (by simp[c])];exact Cl
  .rw [aB c,aC (by simpa using c)];show _::nu ps x.nm a=_;rw[Cl];rfl
 | x::ps,i+1,p,a,nd,hw,h=>by
  obtain⟨h1,h2⟩:=iG.mp (show(x.nm::ps.map (·.nm)).Nodup from nd);have h':ps[i]?=some p:=by simpa using h
  have ih:=J_ (a:=a) h2 (λq hq=>hw q (b_ _ hq)) h';have xn:¬ x.nm=p.nm:=λz=>h1 (bR.mpr ⟨p,bP h',z.symm⟩);show((x::ps).map λq=>if q.nm=p.nm then{ q with wo:=q.wo-a } else q).filter _=_;rw[bJ,aB xn,iF,aC (cu (hw x cg))];show x::nu ps p.nm a=_;rw[ih];by_cases c:p.wo-a=0
  .rw [aC c,aC c];rfl
  .rw [aB c,aB c];rfl
theorem vC{α:Type}:∀{l:Da α}{i:Nat}{x:α},l[i]?=some x->l.set i x=l
 | [],_,_,h=>by simp at h
 | a::l,0,x,h=>by
  have:a=x:=by simpa using h
  rw[this];rfl
 | a::l,i+1,x,h=>by rw[O9,vC (by simpa using h)]
def Ka{α β:Type}{l:Da α}{m:Da β}{x:α}{y:β}(h1:(l.eraseIdx i)[j]?=some x)(h2:(m.eraseIdx i)[j]?=some y):∃k:Nat,l[k]?=some x/\m[k]?=some y:=by
 rw[List.getElem?_eraseIdx]at h1 h2;by_cases c:j<i
 .rw [aC c]at h1 h2;exact⟨j,h1,h2⟩
 .rw [aB c]at h1 h2;exact⟨j+1,h1,h2⟩
theorem zO:∀(ts:Da Int)(s:Int),pA s ts∣s/\∀t∈ts,pA s ts∣t
 | [],s=>⟨Int.dvd_refl _,λ_ h=>absurd h (by simp)⟩
 | t::ts,s=>by
  obtain⟨h1,h2⟩:=zO ts (Jm.cf t s);refine⟨Int.dvd_trans h1 (Jm.oY t s),λu hu=>?_⟩;rcases cJ.mp hu with rfl|hu
  .exact Int.dvd_trans h1 (Jm.qU u s)
  .exact h2 u hu
theorem zP:∀(ts:Da Int)(s:Int),0<s->0<pA s ts
 | [],_,h=>h
 | t::ts,s,h=>zP ts _ (Jm.Dj t s (.inr h))
def GI{A:HA}(h:aV T n ρ A H st)(g:Gh ρ H)(c:ρ a=none)(e:H a=some o)(ht:isTup o=false):aV T n (cL ρ a (n,t,⟨#[]⟩)) A H st/\Gh (cL ρ a (n,t,⟨#[]⟩)) H:=⟨h.same ⟨λ_ _ e=>e,λb u x w _ hc he=>⟨he,by rw[bZ (λz=>by rw[z,c]at hc;cases hc)];exact hc⟩⟩,g.color e ht⟩
def Fr.yb(f:Fr n ρ H ρ' H')(h:H a=none):Fr n ρ H (cL ρ' a (n,t,x)) H':=λb o e k=>by obtain⟨e1,e2⟩:=f b o e k;exact⟨e1,by rw[bZ (aH e h)];exact e2⟩
theorem GJ{d a b:Int}(hd:0<d)(h:a<=d*b):a / d<=b:=by
 have:=Int.ediv_le_ediv hd h
 rwa [EE _ (by omega)]at this
theorem DK{s:Int}(h:1<=s):(fW st s).prod=st.prod*s:=by
 unfold fW;by_cases c:1<s
 .rw [aC c]
 .rw [aB c,show s=1 by omega,Int.mul_one]
def zQ(st:HS)(s:Int):(fW st s).ao=st.ao:=by unfold fW;split <;> rfl
def So(st:HS)(s:Int):(fW st s).bL=st.bL:=by unfold fW;split <;> rfl
def Ss(st:HS)(s:Int):(fW st s).c6=st.c6:=by unfold fW;split <;> rfl
def Su(st:HS)(s:Int):(fW st s).own=st.own:=by unfold fW;split <;> rfl
def Sv(st:HS)(s:Int):(fW st s).nms=st.nms:=by unfold fW;split <;> rfl
def Sw(st:HS)(s:Int):(fW st s).lJ=st.lJ:=by unfold fW;split <;> rfl
theorem kh{α β γ:Type}{f:α->β->γ}{t:γ}:∀{xs:Da α}{ys:Da β},t∈List.zipWith f xs ys->∃(i:Nat)(x:α)(y:β),xs[i]?=some x/\ys[i]?=some y/\t=f x y:=λ{xs ys} h=>by
 obtain⟨i,hi,e⟩:=t9 h;rw[qi]at hi;have h1:i<xs.length:=by omega
 have h2:i<ys.length:=by omega
 exact⟨i,xs[i],ys[i],aS h1,aS h2,by rw[<-e,List.getElem_zipWith]⟩
def Og{α β γ:Type}{f:α->β->γ}{xs:Da α}{ys:Da β}{x:α}{y:β}(h1:xs[i]?=some x)(h2:ys[i]?=some y):(List.zipWith f xs ys)[i]?=some (f x y):=by rw[O3,h1,h2]
def Ce{a b c:Int}(h:a<=b)(hc:0<=c):a*c<=b*c:=Q9 h hc
structure tU(st:HS)(kept whole lost:Int)(added:Da Int):Prop where
 k:0<kept
 l:0<=lost
 w:whole=kept+lost
 len:added.length=st.bL.length
 add:∀m∈added,0<=m/\m<=lost*st.prod
 prod:Jm.Sz 7900 st.prod
 big:Jm.Sz 60 whole
 c6:∀u∈st.c6,Jm.Sz 8900 u
 stp:st.stp.length<100
variable {lost:Int}{added:Da Int}
theorem tU.dvds{kept whole:Int}(b:tU st kept whole lost added):0<cZ st kept whole added/\cZ st kept whole added∣whole/\(∀p∈st.ao,cZ st kept whole added∣p.sc*kept)/\∀c∈fZ st kept added,cZ st kept whole added∣c:=by
 have hw:0<whole:=by have:=b.k;have:=b.l;have:=b.w;omega
 have d:=zO (iL st kept++fZ st kept added) whole;exact⟨zP _ _ hw,d.1,λp hp=>d.2 _ (EG _ (bR.mpr ⟨p,hp,Z⟩)),λc hc=>d.2 _ (jA _ hc)⟩
theorem Vl{kept whole:Int}(wf:Wf st)(b:tU st kept whole lost added):Wf (cQ st kept whole added):=by
 obtain⟨hs,hsw,oX,hsc⟩:=b.dvds;have hk:=b.k;have hl:=b.l;have hw:=b.w;have p1:=wf.jj;have eB:cQ st kept whole added=fW { st with ao:=st.ao.map (λp=>{ p with sc:=p.sc*kept / cZ st kept whole added }),bL:=(fZ st kept added).map (· / cZ st kept whole added),c6:=st.c6.map (·*(whole / cZ st kept whole added)) } (whole / cZ st kept whole added):=rfl;rw[eB];generalize cZ st kept whole added=d at *;obtain⟨s,es⟩:=hsw;have hs1:1<=s:=by
  rcases Int.lt_trichotomy s 0 with z|z|z
  .have:=Int.mul_neg_of_pos_of_neg hs z;omega
  .rw [z,Int.mul_zero]at es;omega
  .omega
 have ed:whole / d=s:=by rw[es,EE _ (by omega)]
 rw[ed];have ai2:s<=whole:=by rw[es];have:=Q9 (show 1<=d by omega) (show 0<=s by omega);omega
 have zs:Jm.Sz 60 s:=b.big.of_le (by omega);have zp:Jm.Sz 8000 (st.prod*s):=(b.prod.mul zs).mono (by decide);have pp:st.prod<=st.prod*s:=by have:=Gd hs1 (show 0<=st.prod by omega);omega
 have Vm:∀c∈(fZ st kept added).map (· / d),0<=c/\c<=st.prod*s:=λc hc=>by
  obtain⟨x,hx,rfl⟩:=bR.mp hc;obtain⟨i,t,m,et,em,rfl⟩:=kh (show x∈List.zipWith (λt m=>t*kept+m) st.bL added from hx);have ht:=wf.ur t (bP et);have hm:=b.add m (bP em);have a1:0<=t*kept:=nq ht.1 (by omega);have a2:t*kept<=st.prod*kept:=Ce ht.2 (by omega);have a3:st.prod*kept+lost*st.prod=d*(st.prod*s):=by rw[qR lost,<-oR,<-hw,es,<-jH,<-jH,qR st.prod d]
  exact⟨IE (by omega) (by omega),GJ hs (by omega)⟩
 have sc':∀p∈st.ao,1<=p.sc*kept / d/\p.sc*kept / d<=st.prod*s/\d*(p.sc*kept / d)=p.sc*kept:=λp hp=>by
  have h0:=wf.yD p hp;obtain⟨z,ez⟩:=oX p hp;have a1:0<p.sc*kept:=Int.mul_pos (by omega) hk;have ez':p.sc*kept / d=z:=by rw[ez,EE _ (by omega)]
  have hz:1<=z:=by
   rcases Int.lt_trichotomy z 0 with y|y|y
   .have:=Int.mul_neg_of_pos_of_neg hs y;omega
   .rw [y,Int.mul_zero]at ez;omega
   .omega
  have a2:p.sc*kept<=st.prod*kept:=Ce h0.2 (by omega);have a3:st.prod*kept<=st.prod*whole:=Gd (by omega) (by omega);have a4:st.prod*whole=d*(st.prod*s):=by rw[es,<-jH,<-jH,qR st.prod d]
  refine⟨by rw[ez'];exact hz,GJ hs (by omega),by rw[ez',ez]⟩
 have P:∀{M:Pt->Prop},(∀p∈st.ao,M { p with sc:=p.sc*kept / d })->∀p∈st.ao.map (λp=>{ p with sc:=p.sc*kept / d }),M p:=λh p hp=>by obtain⟨x,hx,rfl⟩:=bR.mp hp;exact h x hx
 have top':∀p∈st.ao,∀t∈List.zipWith (λr c=>(p.sc*kept / d)*r+c) p.row ((fZ st kept added).map (· / d)),0<=t/\t<=st.prod*s:=λp hp t ht=>by
  obtain⟨i,r,c,er,ec,rfl⟩:=kh ht;rw[bF]at ec;obtain⟨x,ex,rfl⟩:=kT.mp ec;obtain⟨y,ey⟩:=hsc x (bP ex);have eyd:x / d=y:=by rw[ey,EE _ (by omega)]
  have ex':(List.zipWith (λt m=>t*kept+m) st.bL added)[i]?=some x:=ex;rw[O3]at ex';cases e1:st.bL[i]? with
  | none=>rw[e1]at ex';simp at ex'
  | some t0=>
   cases e2:added[i]? with
   | none=>rw[e1,e2]at ex';simp at ex'
   | some m=>
    rw[e1,e2]at ex';have ex2:t0*kept+m=x:=by simpa using ex'
    have hm:=b.add m (bP e2);have hT:=wf.E6 p hp (p.sc*r+t0) (bP (Og (f:=λr c=>p.sc*r+c) er e1));have hz:=(sc' p hp).2.2;have key:d*((p.sc*kept / d)*r+x / d)=(p.sc*r+t0)*kept+m:=by rw[oR,<-jH,hz,eyd,<-ey,<-ex2];rw[Aw,jH,jH,qR kept r];omega
    have k1:0<=(p.sc*r+t0)*kept:=nq hT.1 (by omega);have k2:(p.sc*r+t0)*kept<=st.prod*kept:=Ce hT.2 (by omega);have a3:st.prod*kept+lost*st.prod=d*(st.prod*s):=by rw[qR lost,<-oR,<-hw,es,<-jH,<-jH,qR st.prod d]
    generalize (p.sc*kept / d)*r+x / d=W at *;constructor
    .rcases CY W 0 with z|z
     .have:=Int.mul_neg_of_pos_of_neg hs z;omega
     .exact z
    .have:d*W<=d*(st.prod*s):=by omega
     exact Int.le_of_mul_le_mul_left this hs
 have nm':(st.ao.map (λp:Pt=>{ p with sc:=p.sc*kept / d })).map (λp:Pt=>p.nm)=st.ao.map (λp:Pt=>p.nm):=by rw[ig];rfl
 have e0:(fZ st kept added).length=st.bL.length:=by unfold fZ;rw[qi,b.len];omega
 have pu':∀u∈st.c6.map (·*s),Jm.Sz 9000 u:=λu hu=>by obtain⟨x,hx,rfl⟩:=bR.mp hu;exact((b.c6 x hx).mul zs).mono (by decide)
 have aav:∀p∈st.ao,∀r∈p.row,-(st.prod*s)<=r/\r<=st.prod*s:=λp hp r hr=>by have:=wf.vY p hp r hr;omega
 unfold fW;by_cases c:1<s
 .rw [aC c];refine⟨wf.zz,wf.E4,by rw[nm'];exact wf.o_,P wf.sub,P wf.rows,P wf.ow,?_,?_,by show 1<=st.prod*s;omega,?_,λx hx=>?_,wf.uq,wf.E5,?_,?_,wf.zC,eV _,zp,Vm,P λp hp=>⟨(sc' p hp).1,(sc' p hp).2.1⟩,P aav,P top',P wf.zH,pu'⟩
  .show (List.map _ (fZ st kept added)).length=_;rw[aF,e0,wf.jD]
  .show (List.map _ st.c6).length=_;rw[aF,wf.zA]
  .show st.prod*s=(st.stp++[s]).foldl (·*·) 1;rw[XZ,<-wf.xY]
  .rcases fj.mp (show x∈st.stp++[s]from hx)with z|z
   .exact wf.Ca x z
   .rw [eL.mp z];omega
  .show (List.map _ st.ao).length<=1000;rw[aF];exact wf.xZ
  .show (st.stp++[s]).length<=100;rw[cV];exact b.stp
 .rw [aB c];have e1:s=1:=by omega
  subst e1;rw[Int.mul_one]at Vm sc' aav top';refine⟨wf.zz,wf.E4,by rw[nm'];exact wf.o_,P wf.sub,P wf.rows,P wf.ow,?_,?_,wf.jj,wf.xY,wf.Ca,wf.uq,wf.E5,?_,wf.JW,wf.zC,wf.Wr,wf.big,Vm,P λp hp=>⟨(sc' p hp).1,(sc' p hp).2.1⟩,P wf.vY,P λp hp t ht=>?_,P wf.zH,pu'⟩
  .show (List.map _ (fZ st kept added)).length=_;rw[aF,e0,wf.jD]
  .show (List.map _ st.c6).length=_;rw[aF,wf.zA]
  .show (List.map _ st.ao).length<=1000;rw[aF];exact wf.xZ
  .exact top' p hp t ht
def yc(st:HS)(BM:Da Int)(rs:Da Row):Da Int:=rs.foldl (λs r=>List.zipWith (λx t=>x+r.2*t) s (cC st (dg st r.1))) BM
theorem GK:∀(BM bL row:Da Int)(a sc L:Int),List.zipWith (λold own=>old+(a*sc)*own) (List.zipWith (λs c=>s+(a+L)*c) BM bL) row=List.zipWith (λs c=>s+L*c) (List.zipWith (λx t=>x+a*t) BM (List.zipWith (λr c=>sc*r+c) row bL)) bL
 | [],_,_,_,_,_=>by simp
 | _::_,[],_,_,_,_=>by simp
 | _::_,_::_,[],_,_,_=>by simp
 | x::BM,c::bL,r::row,a,sc,L=>by
  simp only[xy];rw[GK BM bL row a sc L];congr 1
  grind
theorem Kc{st:HS}:∀(rs:Da Row)(BM:Da Int),rs.foldl (jE st) (List.zipWith (λs c=>s+bq rs*c) BM st.bL)=List.zipWith (λs c=>s+0*c) (yc st BM rs) st.bL
 | [],BM=>by show List.zipWith _ BM st.bL=_;rfl
 | r::rs,BM=>by
  rw[lX];have e:jE st (List.zipWith (λs c=>s+bq (r::rs)*c) BM st.bL) r=List.zipWith (λs c=>s+bq rs*c) (List.zipWith (λx t=>x+r.2*t) BM (cC st (dg st r.1))) st.bL:=by unfold jE;rw[show bq (r::rs)=r.2+bq rs from by unfold bq;rw[bJ,c9]];exact GK BM st.bL (dg st r.1).row r.2 (dg st r.1).sc (bq rs)
  rw[e,Kc rs];rfl
theorem GL:∀(l:Da Int)(L:Int),List.zipWith (λs c=>s+L*c) (List.replicate l.length 0) l=l.map λc=>L*c
 | [],_=>rfl
 | x::l,L=>by rw[kq,BR,xy,GL l L,Int.zero_add];rfl
theorem Kd:∀(s l:Da Int),s.length<=l.length->List.zipWith (λs c=>s+0*c) s l=s
 | [],_,_=>by simp
 | _::_,[],h=>by simp at h
 | x::s,c::l,h=>by rw[xy,Kd s l (by simpa using h),Int.zero_mul,Int.add_zero]
theorem zR{st:HS}:∀(rs:Da Row)(BM:Da Int),(∀r∈rs,(cC st (dg st r.1)).length=BM.length)->(yc st BM rs).length=BM.length
 | [],_,_=>rfl
 | r::rs,BM,h=>by
  have e:(List.zipWith (λx t=>x+r.2*t) BM (cC st (dg st r.1))).length=BM.length:=by rw[qi,h r cg];omega
  show(yc st (List.zipWith (λx t=>x+r.2*t) BM (cC st (dg st r.1))) rs).length=_;rw[zR rs _ (λx hx=>by rw[e];exact h x (b_ _ hx)),e]
theorem Bv{st:HS}(hP:0<=st.prod):∀(rs:Da Row)(BM:Da Int)(B:Int),(∀r∈rs,0<=r.2/\∀t∈cC st (dg st r.1),0<=t/\t<=st.prod)->(∀x∈BM,0<=x/\x<=B)->∀x∈yc st BM rs,0<=x/\x<=B+bq rs*st.prod
 | [],BM,B,_,ha,x,hx=>by have:=ha x hx;show 0<=x/\x<=B+0*st.prod;omega
 | r::rs,BM,B,h,ha,x,hx=>by
  have hr:=h r cg;have:=Bv hP rs (List.zipWith (λx t=>x+r.2*t) BM (cC st (dg st r.1))) (B+r.2*st.prod) (λy hy=>h y (b_ _ hy)) (λy hy=>by obtain⟨i,a,t,ea,et,rfl⟩:=kh hy;have h1:=ha a (bP ea);have h2:=hr.2 t (bP et);have h3:0<=r.2*t:=nq hr.1 h2.1;have h4:r.2*t<=r.2*st.prod:=Gd h2.2 hr.1;omega) x hx
  rw[show bq (r::rs)=r.2+bq rs from by unfold bq;rw[bJ,c9],Aw];omega
theorem yd(wf:Wf st)(h:p∈st.ao):(cC st p).length=st.bL.length:=by unfold cC;rw[qi,wf.rows p h,wf.jD];omega
def jF(wf:Wf st)(h:p∈st.ao)(e:p.nm=x):dg st x=p:=by obtain⟨i,hi,ei⟩:=t9 h;rw[<-e];exact Od wf.o_ (i:=i) (by rw[aS hi,ei])
def GN(wf:Wf st)(h:∀r∈rs,∃p∈st.ao,p.nm=r.1):gc st rs=yc st (List.replicate st.bL.length 0) rs:=by
 unfold gc;rw[<-GL st.bL (bq rs),Kc];refine Kd _ _ ?_;rw[zR rs _ (λr hr=>by obtain⟨p,hp,e⟩:=h r hr;rw[jF wf hp e,mK,yd wf hp]),mK]
 exact aN _
theorem Sx(wf:Wf st)(h:∀r∈rs,1<=r.2/\∃p∈st.ao,p.nm=r.1):(gc st rs).length=st.bL.length/\∀m∈gc st rs,0<=m/\m<=bq rs*st.prod:=by
 rw[GN wf (λr hr=>(h r hr).2)];have p1:=wf.jj;constructor
 .rw [zR rs _ (λr hr=>by obtain⟨p,hp,e⟩:=(h r hr).2;rw[jF wf hp e,mK,yd wf hp]),mK]
 .intro m hm;have:=Bv (st:=st) (by omega) rs (List.replicate st.bL.length 0) 0 (λr hr=>by obtain⟨h1,p,hp,e⟩:=h r hr;refine⟨by omega,?_⟩;rw[jF wf hp e];exact wf.E6 p hp) (λx hx=>by rw[(List.mem_replicate.mp hx).2];omega) m hm
  omega
def Qd{ps:Da Pt}{a:Int}(h:p∈ps)(hn:p.nm≠x)(hw:p.wo≠0):p∈nu ps x a:=tE.mpr ⟨bR.mpr ⟨p,h,by rw[aB hn]⟩,cu hw⟩
def Cf{ps:Da Pt}{a:Int}(h:p∈nu ps x a):p.wo≠0/\∃q∈ps,p=if q.nm=x then{ q with wo:=q.wo-a } else q:=by obtain⟨h1,h2⟩:=tE.mp h;obtain⟨q,hq,e⟩:=bR.mp h1;exact⟨dI h2,q,hq,e.symm⟩
def DL{ps:Da Pt}{a:Int}:((nu ps x a).map (λp:Pt=>p.nm)).Sublist (ps.map (λp:Pt=>p.nm)):=by
 unfold nu;have e:(ps.map λp=>if p.nm=x then{ p with wo:=p.wo-a } else p).map (λp:Pt=>p.nm)=ps.map (λp:Pt=>p.nm):=by rw[ig];exact List.map_congr_left λp _=>by show(if p.nm=x then _ else p:Pt).nm=p.nm;split <;> rfl
 rw[<-e];exact List.filter_sublist.map _
theorem X3(wf:Wf st)(h:∀p∈st.ao,p.nm=r.1->r.2<=p.wo):Wf (gk st r):=by
 have P:∀{M:Pt->Prop},(∀p∈st.ao,M p)->(∀(p:Pt)(w:Int),M p->M { p with wo:=w })->∀p∈nu st.ao r.1 r.2,M p:=λh1 h2 p hp=>by
  obtain⟨_,q,hq,e⟩:=Cf hp;rw[e];split
  .exact h2 _ _ (h1 q hq)
  .exact h1 q hq
 refine⟨wf.zz,wf.E4,wf.o_.sublist DL,P wf.sub (λ_ _ z=>z),P wf.rows (λ_ _ z=>z),P wf.ow (λ_ _ z=>z),wf.jD,wf.zA,wf.jj,wf.xY,wf.Ca,wf.uq,wf.E5,?_,wf.JW,wf.zC,wf.Wr,wf.big,wf.ur,P wf.yD (λ_ _ z=>z),P wf.vY (λ_ _ z=>z),P wf.E6 (λ_ _ z=>z),λp hp=>?_,wf.Qa⟩
 .have:=DL (ps:=st.ao) (x:=r.1) (a:=r.2) |>.length_le;rw[aF,aF]at this;exact fL this wf.xZ
 .obtain ⟨h0,q,hq,e⟩:=Cf hp;have:=wf.zH q hq;by_cases c:q.nm=r.1
  .rw [aC c]at e;subst e;have:=h q hq c;have h0:q.wo-r.2≠0:=h0;exact⟨by show 1<=q.wo-r.2;omega,by show 0<=q.we;omega⟩
  .rw [aB c]at e;rw[e];exact this
def Due(st:HS)(rs:Da Row):Prop:=∀r∈rs,∃p∈st.ao,p.nm=r.1/\r.2<=p.wo
def Oh(wf:Wf st){q:Pt}(hp:p∈st.ao)(hq:q∈st.ao)(e:p.nm=q.nm):p=q:=(jF wf hp rfl).symm.trans (by rw[e];exact jF wf hq rfl)
def aaw(wf:Wf st)(d:Due st (r::rs)):Wf (gk st r):=by obtain⟨p,hp,e,hle⟩:=d r cg;exact X3 wf λq hq eq=>by rw[Oh wf hq hp (eq.trans e.symm)];exact hle
theorem Vn(wf:Wf st)(d:Due st (r::rs))(nd:((r::rs).map (λr:Row=>r.1)).Nodup):Due (gk st r) rs:=λx hx=>by obtain⟨p,hp,e,hle⟩:=d x (b_ _ hx);have hn:p.nm≠r.1:=λz=>(iG.mp nd).1 (bR.mpr ⟨x,hx,e.symm.trans z⟩);have:=wf.zH p hp;exact⟨p,Qd hp hn (by omega),e,hle⟩
def Sy{kept whole:Int}(d:Due st rs):Due (cQ st kept whole added) rs:=λr hr=>by obtain⟨p,hp,e,hle⟩:=d r hr;refine⟨{ p with sc:=p.sc*kept / cZ st kept whole added },?_,e,hle⟩;unfold cQ;rw[zQ];exact bR.mpr ⟨p,hp,Z⟩
def m8.due(c:m8 st rs):Due st rs:=λr hr=>(c.row r hr).2.2
theorem Cg:∀{rs:Da Row},(∀r∈rs,1<=r.2)->0<=bq rs
 | [],_=>lZ _
 | r::rs,h=>by have:=h r cg;have:=Cg (rs:=rs) λx hx=>h x (b_ _ hx);rw[show bq (r::rs)=r.2+bq rs from by unfold bq;rw[bJ,c9]];omega
theorem m8.blend(wf:Wf st)(c:m8 st rs):tU st (bh st-bq rs) (bh st) (bq rs) (gc st rs):=by have g:=Sx wf (rs:=rs) (λr hr=>⟨(c.row r hr).1,by obtain⟨p,hp,e,_⟩:=(c.row r hr).2.2;exact⟨p,hp,e⟩⟩);have l0:=Cg (rs:=rs) λr hr=>(c.row r hr).1;have:=c.lost;exact⟨by omega,l0,by omega,g.1,g.2,c.prod,c.big,c.c6,c.stp⟩
structure BP where
 nm:Str
 ow:Str
 wo:Int
 we:Int
 tops:Da Int
structure BE where
 nm:Str
 ow:Str
 wo:Int
 tops:Da Int
 bot:Int
structure BS where
 own:Da Str
 ao:Da BP
 bot:Int
 lJ:Da BE
 fJ:Da Str
structure BA where
 m:Addr
 lo:Addr
 lp:Addr
 la:Addr
 lk:Addr
 qs:Da (Addr×Addr)
def fG(B:BA)(bot:Int):Da (Key×V):=[(Sum.inr "owners",.ref B.lo),(Sum.inr "parts",.ref B.lp),(Sum.inr "bottom",.int bot),(Sum.inr "ashore",.ref B.la),(Sum.inr "known",.ref B.lk)]
def oG(p:BP)(t:Addr):HO:=.lst [.str p.nm,.str p.ow,.int p.wo,.int p.we,.ref t]
inductive uA(n:Nat)(ρ:eF)(H:Hp):Da V->Da BE->Prop
 | nil:uA n ρ H [] []
 | cons {r t:Addr} {e:BE} {vs:Da V} {es:Da BE}:H r=some (.lst [.str e.nm,.str e.ow,.int e.wo,.ref t,.int e.bot])->ρ r=some (n,27,e.nm)->H t=some (.lst (e.tops.map V.int))->ρ t=some (n,28,e.nm)->uA n ρ H vs es->uA n ρ H (.ref r::vs) (e::es)
structure bf(n:Nat)(ρ:eF)(B:BA)(H:Hp)(b:BS):Prop where
 om:H B.m=some (.dK (fG B b.bot))
 cm:ρ B.m=some (n,20,⟨#[]⟩)
 oo:H B.lo=some (.lst (b.own.map V.str))
 co:ρ B.lo=some (n,21,⟨#[]⟩)
 op:H B.lp=some (.lst (B.qs.map λq=>V.ref q.1))
 cp:ρ B.lp=some (n,22,⟨#[]⟩)
 oa:∃vs,H B.la=some (.lst vs)/\uA n ρ H vs b.lJ
 ca:ρ B.la=some (n,25,⟨#[]⟩)
 ok:H B.lk=some (.lst (b.fJ.map V.str))
 ck:ρ B.lk=some (n,26,⟨#[]⟩)
 ql:B.qs.length=b.ao.length
 pt:∀(i:Nat)(p:BP)(q:Addr×Addr),b.ao[i]?=some p->B.qs[i]?=some q->H q.1=some (oG p q.2)/\H q.2=some (.lst (p.tops.map V.int))/\ρ q.1=some (n,23,p.nm)/\ρ q.2=some (n,24,p.nm)
def uA.keep{l:Da BE}(h:uA n ρ H vs l)(k:Kp n ρ ρ' H H' ts)(e1:ts 27=true)(e2:ts 28=true):uA n ρ' H' vs l:=by
 induction h with
 | nil=>exact .nil
 | cons a b c d _ ih=>exact .cons (k.2 _ _ _ _ e1 b a).1 (k.2 _ _ _ _ e1 b a).2 (k.2 _ _ _ _ e2 d c).1 (k.2 _ _ _ _ e2 d c).2 ih
variable {B:BA}{b:BS}
def bf.same(h:bf n ρ B H b)(k:Kp n ρ ρ' H H' λ_=>true):bf n ρ' B H' b:=by
 have z:=λ{b:Addr}{t:Nat}{x:Str}{o:HO}(c:ρ b=some (n,t,x))(e:H b=some o)=>k.2 b t x o rfl c e;obtain⟨vs,h1,h2⟩:=h.oa;exact⟨(z h.cm h.om).1,(z h.cm h.om).2,(z h.co h.oo).1,(z h.co h.oo).2,(z h.cp h.op).1,(z h.cp h.op).2,⟨vs,(z h.ca h1).1,h2.keep k rfl rfl⟩,(z h.ca h1).2,(z h.ck h.ok).1,(z h.ck h.ok).2,h.ql,
  λi p q e1 e2=>let⟨a,b,c,d⟩:=h.pt i p q e1 e2;⟨(z c a).1,(z d b).1,(z c a).2,(z d b).2⟩⟩
def bf.mono(h:bf n ρ B H b)(s:aG H H'):bf n ρ B H' b:=h.same (NY s)
def bf.other(h:bf m ρ B H b)(f:Fr n ρ H ρ' H')(g:Gh ρ H)(e:m≠n):bf m ρ' B H' b:=h.same ⟨λb xs q=>(f b _ q λt x=>by rw[g.tup q];intro z;cases z).1,λb t x o _ c q=>by
 obtain⟨a,b'⟩:=f b o q λt' x'=>by rw[c];intro z;cases z;exact e rfl
 exact⟨a,b'.trans c⟩⟩
def bf.col(h:bf n ρ B H b)(c:ρ a=none):bf n (cL ρ a (n,t,x)) B H b:=h.same ⟨λ_ _ e=>e,λb u y w _ hc he=>⟨he,by rw[bZ (λz=>by rw[z,c]at hc;cases hc)];exact hc⟩⟩
def bf.find(h:bf n ρ B H b){p:BP}(e:b.ao[i]?=some p):∃q,B.qs[i]?=some q/\H q.1=some (oG p q.2)/\H q.2=some (.lst (p.tops.map V.int))/\ρ q.1=some (n,23,p.nm)/\ρ q.2=some (n,24,p.nm):=by
 have hi:i<B.qs.length:=by rw[h.ql];exact(d8.mp e).1
 exact⟨B.qs[i],aS hi,h.pt i p _ e (aS hi)⟩
def bf.X4(h:bf n ρ B H b)(g:Gh ρ H)(x:Int):bf n ρ B (upd H B.m (.dK (fG B x))) { b with bot:=x }:=by
 have k:=fK (o:=.dK (fG B x)) g h.cm;obtain⟨vs,h1,h2⟩:=h.oa;exact⟨ah,h.cm,kz k h.co h.oo,h.co,kz k h.cp h.op,h.cp,⟨vs,kz k h.ca h1,h2.keep k (by decide) (by decide)⟩,h.ca,kz k h.ck h.ok,h.ck,h.ql,
  λi p q e1 e2=>let⟨a,b,c,d⟩:=h.pt i p q e1 e2;⟨kz k c a,kz k d b,c,d⟩⟩
def bf.zy(h:bf n ρ B H b)(g:Gh ρ H){p0 p1:BP}{q0:Addr×Addr}{t1:Addr}(ep:b.ao[i]?=some p0)(eq:B.qs[i]?=some q0)(e1:p1.nm=p0.nm)(nd:(b.ao.map (λp:BP=>p.nm)).Nodup)(ht:H t1=some (.lst (p1.tops.map V.int)))(ct:ρ t1=some (n,24,p1.nm)):bf n ρ { B with qs:=B.qs.set i (q0.1,t1) } (upd H q0.1 (oG p1 t1)) { b with ao:=b.ao.set i p1 }:=by
 obtain⟨x1,x2,x3,x4⟩:=h.pt i p0 q0 ep eq
 have k:=fK (o:=oG p1 t1) g x3
 obtain⟨vs,h1,h2⟩:=h.oa
 have hi:i<B.qs.length:=(d8.mp eq).1
 have hi2:i<b.ao.length:=(d8.mp ep).1
 have em:(B.qs.set i (q0.1,t1)).map (λq=>V.ref q.1)=B.qs.map λq=>V.ref q.1:=by rw[xN];exact vC (by rw[bF,eq];rfl)
 refine⟨kz k h.cm h.om,h.cm,kz k h.co h.oo,h.co,?_,h.cp,⟨vs,kz k h.ca h1,h2.keep k (by decide) (by decide)⟩,h.ca,kz k h.ck h.ok,h.ck,?_,λj p q Bw Oi=>?_⟩
 . show upd H q0.1 _ B.lp=some (.lst ((B.qs.set i (q0.1,t1)).map _))
   rw[em];exact kz k h.cp h.op
 . show(B.qs.set i (q0.1,t1)).length=(b.ao.set i p1).length
   rw[lg,lg];exact h.ql
 . have Bw:(b.ao.set i p1)[j]?=some p:=Bw
   have Oi:(B.qs.set i (q0.1,t1))[j]?=some q:=Oi
   by_cases hj:i=j
   . subst hj
     rw[tY hi2]at Bw
     rw[tY hi]at Oi
     cases Bw;cases Oi
     exact⟨ah,kz k ct ht,by rw[e1];exact x3,ct⟩
   . rw[yR hj]at Bw Oi
     obtain⟨a1,a2,a3,a4⟩:=h.pt j p q Bw Oi
     have hnm:p.nm≠p0.nm:=λe=>by
      have hj2:j<b.ao.length:=(d8.mp Bw).1;have r1:(b.ao.map (λp:BP=>p.nm))[j]?=some p.nm:=by rw[bF,Bw];rfl
      have r2:(b.ao.map (λp:BP=>p.nm))[i]?=some p0.nm:=by rw[bF,ep];rfl
      have Oj:j<(b.ao.map (λp:BP=>p.nm)).length:=by rw[aF];exact hj2
      exact hj ((Jj Oj nd).mp (r1.trans (by rw[e];exact r2.symm))).symm
     have hq:q.1≠q0.1:=λe=>by rw[e,x3]at a3;exact hnm (gF (λc:m7=>c.2.2) (ie a3)).symm
     exact⟨by rw[av hq];exact a1,kz k a4 a2,a3,a4⟩
def bf.aax(h:bf n ρ B H b)(g:Gh ρ H){lp:Addr}{qs:Da (Addr×Addr)}{ps:Da BP}(e:H lp=some (.lst (qs.map λq=>V.ref q.1)))(c:ρ lp=some (n,22,⟨#[]⟩))(hl:qs.length=ps.length)(hp:∀(i:Nat) (p:BP) (q:Addr×Addr),ps[i]?=some p->qs[i]?=some q->H q.1=some (oG p q.2)/\H q.2=some (.lst (p.tops.map V.int))/\ρ q.1=some (n,23,p.nm)/\ρ q.2=some (n,24,p.nm)):
  bf n ρ { { B with lp:=lp }with qs:=qs } (upd H B.m (.dK (fG { B with lp:=lp } b.bot))) { b with ao:=ps }:=by
 have k:=fK (o:=.dK (fG { B with lp:=lp } b.bot)) g h.cm
 obtain⟨vs,h1,h2⟩:=h.oa
 exact⟨ah,h.cm,kz k h.co h.oo,h.co,kz k c e,c,⟨vs,kz k h.ca h1,h2.keep k (by decide) (by decide)⟩,h.ca,kz k h.ck h.ok,h.ck,hl,
  λi p q e1 e2=>let⟨a,b,c,d⟩:=hp i p q e1 e2;⟨kz k c a,kz k d b,c,d⟩⟩
theorem bf.aay(h:bf n ρ B H b)(g:Gh ρ H){p:BP}{q:Addr×Addr}(e1:H q.1=some (oG p q.2))(e2:H q.2=some (.lst (p.tops.map V.int)))(c1:ρ q.1=some (n,23,p.nm))(c2:ρ q.2=some (n,24,p.nm)):bf n ρ { B with qs:=B.qs++[q] } (upd H B.lp (.lst ((B.qs++[q]).map λq=>V.ref q.1))) { b with ao:=b.ao++[p] }:=by
 have k:=fK (o:=.lst ((B.qs++[q]).map λq=>V.ref q.1)) g h.cp;obtain⟨vs,h1,h2⟩:=h.oa;refine⟨kz k h.cm h.om,h.cm,kz k h.co h.oo,h.co,ah,h.cp,⟨vs,kz k h.ca h1,h2.keep k (by decide) (by decide)⟩,h.ca,kz k h.ck h.ok,h.ck,?_,λi x y ex ey=>?_⟩
 .show (B.qs++[q]).length=(b.ao++[p]).length;rw[cV,cV,h.ql];rfl
 .have ex:(b.ao++[p])[i]?=some x:=ex;have ey:(B.qs++[q])[i]?=some y:=ey;by_cases c:i<b.ao.length
  .rw [I_ c]at ex;rw[I_ (by rw[h.ql];exact c)]at ey;obtain⟨a1,a2,a3,a4⟩:=h.pt i x y ex ey;exact⟨kz k a3 a1,kz k a4 a2,a3,a4⟩
  .have hi:i=b.ao.length:=by have:=(d8.mp ex).1;rw[cV]at this;have:i<b.ao.length+1:=this;omega
   subst hi;rw[I0 (aN _),Av]at ex;rw[I0 (by rw[h.ql];exact aN _),h.ql,Av]at ey;cases ex;cases ey;exact⟨kz k c1 e1,kz k c2 e2,c1,c2⟩
def bf.X5(h:bf n ρ B H b)(g:Gh ρ H)(l:Da Str):bf n ρ B (upd H B.lk (.lst (l.map V.str))) { b with fJ:=l }:=by
 have k:=fK (o:=.lst (l.map V.str)) g h.ck;obtain⟨vs,h1,h2⟩:=h.oa;exact⟨kz k h.cm h.om,h.cm,kz k h.co h.oo,h.co,kz k h.cp h.op,h.cp,⟨vs,kz k h.ca h1,h2.keep k (by decide) (by decide)⟩,h.ca,ah,h.ck,h.ql,
  λi p q e1 e2=>let⟨a,b,c,d⟩:=h.pt i p q e1 e2;⟨kz k c a,kz k d b,c,d⟩⟩
structure Qe(K:Fg)(H:Hp)(us:Da V)(ws:Da Row):Prop where
 len:us.length=ws.length
 at_:∀(i:Nat)(r:Row),ws[i]?=some r->∃a xs,us[i]?=some (.ref a)/\Sq K H a xs/\xs[0]?=some (.str r.1)/\xs[2]?=some (.int r.2)
def oH(b:BS):Da Row:=b.ao.map λp=>(p.nm,p.wo)
def bf.nw(h:bf n ρ B H b):Qe K H (B.qs.map λq=>V.ref q.1) (oH b):=by refine⟨by unfold oH;rw[aF,aF];exact h.ql,λi r e=>?_⟩;unfold oH at e;rw[bF]at e;obtain⟨p,ep,rfl⟩:=kT.mp e;obtain⟨q,eq,a1,_⟩:=h.find ep;exact⟨q.1,_,by rw[bF,eq];rfl,.inl (aA.of a1),Z,Z⟩
def bH(b:BS):Int:=(b.ao.map λp=>p.wo).sum
theorem GO:∀{l:Da Str}{o:Str},o∈l->l[l.idxOf o]?=some o
 | [],_,h=>by simp at h
 | x::l,o,h=>by
  by_cases e:x=o
  .subst e;simp
  .have ho:o∈l:=by
    rcases cJ.mp h with z|z
    .exact absurd z.symm e
    .exact z
   rw[List.idxOf_cons,show(x==o)=false from EH.mpr e];simpa using GO ho
inductive aaz(K:Fg)(vs:Da V)(H:Hp)(Q:VK)(E:XK):Prop
 |mk(l:Addr)(own:Da Str)(n:Nat)(ρ:eF)(_:vs=[.ref l])(_:aA K H l (own.map V.str))(_:Gh ρ H)(_:own.length<=1000)(_:∀ρ' B H',Gh ρ' H'->bf n ρ' B H' ⟨own,[],1,[],[]⟩->(∀b o,H b=some o->H' b=some o/\ρ' b=ρ b)->Q (.ref B.m) H')
def Ol(K:Fg):Sp:=bx (aaz K)
inductive ac1(K:Fg)(vs:Da V)(H:Hp)(Q:VK)(E:XK):Prop
 |mk(l:Addr)(own:Da Str)(o:Str)(_:vs=[.ref l,.str o])(_:aA K H l (own.map V.str))(_:o∈own)(_:own.length<=1000)(_:Q (.int (own.idxOf o:Int)) H)
def SA(K:Fg):Sp:=bx (ac1 K)
def zS(b:BS)(x o:Str)(wo we:Int):BS:={ b with ao:=b.ao++[⟨x,o,wo,we,(List.replicate b.own.length 0).set (b.own.idxOf o) b.bot⟩],fJ:=b.fJ++[x] }
inductive Vo(vs:Da V)(H:Hp)(Q:VK)(E:XK):Prop
 |mk(n ρ B b:_)(x o:Str)(wo we:Int)(_:vs=[.ref B.m,.str x,.str o,.int wo,.int we])(_:Gh ρ H)(_:bf n ρ B H b)(_:o∈b.own)(_:b.own.length<=1000)(_:b.ao.length<=1000)(_:b.fJ.length<=1000)(_:∀ρ' B' H',Gh ρ' H'->bf n ρ' B' H' (zS b x o wo we:_)->B'.m=B.m->Fr n ρ H ρ' H'->Q .cD H')
def GP:Sp:=bx (Vo)
inductive af_(K:Fg)(vs:Da V)(H:Hp)(Q:VK)(E:XK):Prop
 |mk(l:Addr)(us:Da V)(ws:Da Row)(i:Nat)(r:Row)(_:vs=[.ref l,.str r.1])(_:aA K H l us)(_:Qe K H us ws)(_:(ws.map (λr:Row=>r.1)).Nodup)(_:ws.length<=1000)(_:ws[i]?=some r)(_:Q (.int (i:Int)) H)
def Ww(K:Fg):Sp:=bx (af_ K)
structure aaA(ws rs:Da Row):Prop where
 nd:(rs.map (λr:Row=>r.1)).Nodup
 row:∀r∈rs,1<=r.2/\r.2<=1000000000/\∃w∈ws,w.1=r.1/\r.2<=w.2
 lost:bq rs<bq ws\/rs=[]
 len:rs.length<=ws.length
inductive aaB(K:Fg)(vs:Da V)(H:Hp)(Q:VK)(E:XK):Prop
 |mk(a l:Addr)(ns:Da Int)(k:Int)(us:Da V)(ws:Da Row)(_:vs=[.ref a,.int k,.ref l])(_:aA K H a (ns.map V.int))(_:ns.length<=63)(_:0<=k)(_:k<=1000000)(_:aA K H l us)(_:Qe K H us ws)(_:(ws.map (λr:Row=>r.1)).Nodup)(_:ws.length<=1000)(_:(∀w∈ws,1<=w.2))(_:∀z zs rs H',aG H H'->H z=none->H' z=some (.lst zs)->fB H' zs rs->aaA ws rs->Q (.ref z) H')
def Om(K:Fg):Sp:=bx (aaB K)
section
variable {X:Cx}
def uB(i j k:Int):Int:=if j<i then(if k<j then k else j) else(if k<i then k else i)
theorem X6(i j k:Int):uB i j k<=i/\uB i j k<=j/\uB i j k<=k:=by unfold uB;split <;> split <;> omega
theorem X7{i j k m:Int}(h1:m<=i)(h2:m<=j)(h3:m<=k):m<=uB i j k:=by unfold uB;split <;> split <;> omega
def SD(hc:X.calm=true):gG X (.builtin "min") (λxs H Q=>∃i j k,xs=[.int i,.int j,.int k]/\Q (.int (uB i j k)) H):=by
 intro AT s σ H xs us Q I r h;obtain⟨i,j,k,rfl,q⟩:=h;obtain⟨u,us,rfl,⟨t,rfl⟩,r2⟩:∃u us',us=u::us'/\RelV (.int i) u/\Vals [.int j,.int k] us':=by cases r with|cons a b=>exact⟨_,_,rfl,a,b⟩
 obtain⟨u2,u3,rfl,⟨t',rfl⟩,⟨t'',rfl⟩⟩:=vals2 r2;refine min_three_ints (I.ok.hd hc) λh' tk kk=>⟨_,H,I.kept kk,?_,q⟩
 unfold uB;by_cases hj:j<i
 .rw [aC hj,aC hj];by_cases hk:k<j
  .rw [aC hk,aC hk];exact⟨_,Z⟩
  .rw [aB hk,aB hk];exact⟨_,Z⟩
 .rw [aB hj,aB hj];by_cases hk:k<i
  .rw [aC hk,aC hk];exact⟨_,Z⟩
  .rw [aB hk,aB hk];exact⟨_,Z⟩
end
def nM(given:Da Int)(kept:Int)(p:BP)(a:Int):BP:={ p with tops:=List.zipWith (λt g=>t*kept+g) p.tops given,wo:=p.wo-a }
def iM(ps:Da BP)(as:Da Int)(i:Nat):Int:=(List.zipWith (λ(p:BP)(a:Int)=>p.tops.getD i 0*a) ps as).sum
def gq(b:BS)(as:Da Int):Da Int:=(List.range b.own.length).map (iM b.ao as)
def iA(b:BS)(as:Da Int)(seat:Nat)(aw:Int):Da Int:=if 0<aw then(gq b as).set seat ((gq b as).getD seat 0+aw*b.bot) else gq b as
def dQ(b:BS)(as:Da Int)(seat:Nat)(aw:Int):Da BP:=List.zipWith (nM (iA b as seat aw) (bH b-aw-as.sum)) b.ao as
def kG(b:BS)(as:Da Int)(seat:Nat)(aw:Int):BS:={ b with bot:=b.bot*bH b,ao:=(dQ b as seat aw).filter λp=>decide (0<p.wo) }
structure uC(b:BS):Prop where
 nd:(b.ao.map (λp:BP=>p.nm)).Nodup
 tl:∀p∈b.ao,p.tops.length=b.own.length
 t0:∀p∈b.ao,∀t∈p.tops,0<=t/\t<=b.bot
 b1:1<=b.bot
 bz:Jm.Sz 7000 b.bot
 w1:∀p∈b.ao,1<=p.wo
 ol:b.own.length<=100
 pl:b.ao.length<=1000
 kl:b.fJ.length<=1000
structure m9(b:BS)(as:Da Int)(seat:Nat)(aw:Int):Prop where
 len:as.length=b.ao.length
 a0:∀a∈as,0<=a
 seat:seat<b.own.length
 DM:0<=aw
 kept:0<bH b-aw-as.sum
 big:Jm.Sz 60 (bH b)
inductive ac2(K:Fg)(vs:Da V)(H:Hp)(Q:VK)(E:XK):Prop
 |mk(n ρ B b:_)(l:Addr)(as:Da Int)(seat:Nat)(aw:Int)(_:vs=[.ref B.m,.ref l,.int (seat:Int),.int aw])(_:Gh ρ H)(_:bf n ρ B H b)(_:uC b)(_:aA K H l (as.map V.int))(_:ρ l=none)(_:m9 b as seat aw)(_:∀ρ' B' H',Gh ρ' H'->bf n ρ' B' H' (kG b as seat aw:_)->B'.m=B.m->Fr n ρ H ρ' H'->Q .cD H')
def SE(K:Fg):Sp:=bx (ac2 K)
variable {as:Da Int}{seat:Nat}
theorem vD{aw:Int}(h:as.length=b.ao.length):(dQ b as seat aw).length=b.ao.length:=by unfold dQ;rw[qi,h];omega
def Vp{aw:Int}{p:BP}{a:Int}(h1:b.ao[i]?=some p)(h2:as[i]?=some a):(dQ b as seat aw)[i]?=some (nM (iA b as seat aw) (bH b-aw-as.sum) p a):=Og h1 h2
theorem vE(h:∀a∈as,0<=a):∀{x:Int},x∈as->x<=as.sum:=by
 induction as with
 | nil=>intro x hx;simp at hx
 | cons a l ih=>
  intro x hx;have h0:=h a cg;have hl:0<=l.sum:=by
   clear ih hx;have:∀(l:Da Int),(∀a∈l,0<=a)->0<=l.sum:=λl=>by
    induction l with
    | nil=>intro _;exact lZ _
    | cons a l ih=>intro h;rw[c9];have:=h a cg;have:=ih λx hx=>h x (b_ _ hx);omega
   exact this l λx hx=>h x (b_ _ hx)
  rw[c9];rcases cJ.mp hx with e|e
  .omega
  .have:=ih (λy hy=>h y (b_ _ hy)) e;omega
def mw(b:BS)(as:Da Int):(gq b as).length=b.own.length:=by unfold gq;rw[aF,BU]
def ye(b:BS)(as:Da Int)(seat:Nat)(aw:Int):(iA b as seat aw).length=b.own.length:=by
 unfold iA;split
 .rw [lg,mw]
 .exact mw b as
def Ke{ps:Da BP}{p:BP}{a:Int}(h1:ps[j]?=some p)(h2:as[j]?=some a):(List.zipWith (λ(p:BP)(a:Int)=>p.tops.getD i 0*a) (ps.take (j+1)) (as.take (j+1)))=List.zipWith (λ(p:BP)(a:Int)=>p.tops.getD i 0*a) (ps.take j) (as.take j)++[p.tops.getD i 0*a] :=oz _ h1 h2
theorem X8{α:Type}{xs ys:Da α}{p:α}(hx:i<=xs.length)(h:ys[i]?=some p):(xs.take i++ys.drop i)[i]?=some p:=by
 have hl:(xs.take i).length=i:=by rw[kr];omega
 rw[I0 (by omega),hl,Av,List.getElem?_drop];exact h
theorem X_{α:Type}{xs ys:Da α}{x:α}(hx:xs[i]?=some x)(hy:i<ys.length):(xs.take i++ys.drop i).set i x=xs.take (i+1)++ys.drop (i+1):=by
 have hi:=(d8.mp hx).1;have hl:(xs.take i).length=i:=by rw[kr];omega
 rw[List.set_append_right _ _ (by omega),hl,Av,Jb hy,O_,take_snoc hx,Jh];rfl
def SG{b:BS}{as:Da Int}{aw:Int}(h:as.length=b.ao.length)(i:Nat):((dQ b as seat aw).take i++b.ao.drop i).map (λp:BP=>p.nm)=b.ao.map (λp:BP=>p.nm):=by
 have e:(dQ b as seat aw).map (λp:BP=>p.nm)=b.ao.map (λp:BP=>p.nm):=by
  unfold dQ;generalize iA b as seat aw=g;generalize bH b-aw-as.sum=k;generalize b.ao=ps at *;clear b
  induction ps generalizing as with
  | nil=>rfl
  | cons p ps ih=>
   cases as with
   | nil=>simp at h
   | cons a as=>rw[xy,bJ,bJ,ih (by simpa using h)];rfl
 rw[br,Aq,e,<-Aq,<-br,List.take_append_drop]
def SH(B:BA)(x y:Int):putK (fG B x) (Sum.inr "bottom") (.int y)=fG B y:=rfl
def jK:Da BP->Da (Addr×Addr)->Da (Addr×Addr)
 | p::ps,q::qs=>if 0<p.wo then q::jK ps qs else jK ps qs
 | _,_=>[]
theorem GQ:∀{ps:Da BP}{qs:Da (Addr×Addr)},qs.length=ps.length->(jK ps qs).length=(ps.filter λp=>decide (0<p.wo)).length
 | [],[],_=>rfl
 | [],_::_,h=>by simp at h
 | _::_,[],h=>by simp at h
 | p::ps,q::qs,h=>by
  have ih:=GQ (ps:=ps) (qs:=qs) (by simpa using h);unfold jK;by_cases c:0<p.wo
  .rw [aC c,iF,aC (cu c),kq,kq,ih]
  .rw [aB c,iF,aB (by simpa using c),ih]
theorem Ci:∀{ps:Da BP}{qs:Da (Addr×Addr)}{i:Nat}{p:BP}{q:Addr×Addr},(ps.filter λp=>decide (0<p.wo))[i]?=some p->(jK ps qs)[i]?=some q->qs.length=ps.length->∃j:Nat,ps[j]?=some p/\qs[j]?=some q
 | [],_,_,_,_,h,_,_=>by simp at h
 | _::_,[],_,_,_,_,_,h=>by simp at h
 | x::ps,y::qs,i,p,q,h1,h2,hl=>by
  unfold jK at h2;by_cases c:0<x.wo
  .rw [aC c]at h2;rw[iF,aC (cu c)]at h1;cases i with
   | zero=>simp at h1 h2;exact⟨0,by simpa using h1,by simpa using h2⟩
   | succ i=>obtain⟨j,a,b⟩:=Ci (ps:=ps) (qs:=qs) (i:=i) (by simpa using h1) (by simpa using h2) (by simpa using hl);exact⟨j+1,by simpa using a,by simpa using b⟩
  .rw [aB c]at h2;rw[iF,aB (by simpa using c)]at h1;obtain⟨j,a,b⟩:=Ci (ps:=ps) (qs:=qs) (i:=i) h1 h2 (by simpa using hl);exact⟨j+1,by simpa using a,by simpa using b⟩
theorem DN:∀{ps:Da BP}{qs:Da (Addr×Addr)}{j:Nat}{p:BP}{q:Addr×Addr},ps[j]?=some p->qs[j]?=some q->jK (ps.take (j+1)) (qs.take (j+1))=jK (ps.take j) (qs.take j)++(if 0<p.wo then[q] else[])
 | [],_,_,_,_,h,_=>by simp at h
 | _::_,[],_,_,_,_,h=>by simp at h
 | x::ps,y::qs,0,p,q,h1,h2=>by
  have e1:x=p:=by simpa using h1
  have e2:y=q:=by simpa using h2
  subst e1 e2;show jK (x::ps.take 0) (y::qs.take 0)=[]++_;unfold jK;split <;> rfl
 | x::ps,y::qs,j+1,p,q,h1,h2=>by have ih:=DN (ps:=ps) (qs:=qs) (j:=j) (by simpa using h1) (by simpa using h2);show jK (x::ps.take (j+1)) (y::qs.take (j+1))=jK (x::ps.take j) (y::qs.take j)++_;unfold jK;rw[ih];split <;> rfl
def di(rs:Da Row)(x:Str):Int:=((rs.find? λr=>decide (r.1=x)).map (λr:Row=>r.2)).getD 0
def GR(x:Str):di [] x=0:=rfl
def mz(r:Row)(rs:Da Row)(x:Str):di (r::rs) x=if r.1=x then r.2 else di rs x:=by
 unfold di;rw[tH];by_cases c:r.1=x
 .rw [cu c,aC c];rfl
 .rw [dz c,aB c]
theorem tP:∀{rs:Da Row}{x:Str},x∉rs.map (λr:Row=>r.1)->di rs x=0
 | [],_,_=>rfl
 | r::rs,x,h=>by rw[mz,aB (λe=>h (by rw[bJ,e];exact cg))];exact tP λm=>h (by rw[bJ];exact b_ _ m)
theorem mC:∀{rs:Da Row}{r:Row}{x:Str},r.1∉rs.map (λr:Row=>r.1)->di (rs++[r]) x=if r.1=x then r.2 else di rs x
 | [],r,x,_=>by rw[IC,mz]
 | y::rs,r,x,h=>by
  rw[bJ]at h;have h1:r.1≠y.1:=λe=>h (by rw[e];exact cg);rw[IA,mz,mC (λm=>h (b_ _ m)),mz];by_cases c:y.1=x
  .rw [aC c,aC c,aB (λe=>h1 (e.trans c.symm))]
  .rw [aB c,aB c]
theorem Vq(h:∀r∈rs,1<=r.2)(x:Str):0<=di rs x:=by
 induction rs with
 | nil=>exact lZ _
 | cons r rs ih=>
  rw[mz];split
  .have:=h r cg;omega
  .exact ih λy hy=>h y (b_ _ hy)
def c7(b:BS)(rs:Da Row):Da Int:=b.ao.map λp=>di rs p.nm
def zT(b:BS)(rs:Da Row):(c7 b rs).length=b.ao.length:=by unfold c7;rw[aF]
def DO(nd:(b.ao.map (λp:BP=>p.nm)).Nodup){p:BP}(hp:b.ao[j]?=some p)(e:p.nm=r.1)(h:r.1∉rs.map (λr:Row=>r.1)):c7 b (rs++[r])=(c7 b rs).set j r.2/\(c7 b rs)[j]?=some 0:=by
 have hj:=(d8.mp hp).1;constructor
 .refine List.ext_getElem? λk=>?_;by_cases c:j=k
  .subst c;rw[tY (by rw[zT];exact hj)];unfold c7;rw[bF,hp];show some (di (rs++[r]) p.nm)=_;rw[mC h,aC e.symm]
  .rw [yR c];unfold c7;rw[bF,bF];cases ek:b.ao[k]? with
   | none=>rfl
   | some x=>
    show some (di (rs++[r]) x.nm)=some (di rs x.nm);rw[mC h,aB];intro z;have r1:(b.ao.map (λp:BP=>p.nm))[k]?=some x.nm:=by rw[bF,ek];rfl
    have r2:(b.ao.map (λp:BP=>p.nm))[j]?=some p.nm:=by rw[bF,hp];rfl
    exact c ((Jj (by rw[aF];exact hj) nd).mp (r2.trans (by rw[e,z];exact r1.symm)))
 .unfold c7;rw[bF,hp];show some (di rs p.nm)=_;rw[e,tP h]
theorem Kf:∀{l:Da Int}{j:Nat}{x:Int},l[j]?=some 0->(l.set j x).sum=l.sum+x
 | [],_,_,h=>by simp at h
 | a::l,0,x,h=>by
  have:a=0:=by simpa using h
  rw[O_,c9,c9];omega
 | a::l,j+1,x,h=>by rw[O9,c9,c9,Kf (by simpa using h)];omega
structure vF(b:BS)(rs:Da Row):Prop where
 nd:(rs.map (λr:Row=>r.1)).Nodup
 row:∀r∈rs,1<=r.2/\∃(j:Nat)(p:BP),b.ao[j]?=some p/\p.nm=r.1/\r.2<=p.wo
theorem GS(nd:(b.ao.map (λp:BP=>p.nm)).Nodup)(h:vF b rs):∀i≤rs.length,(c7 b (rs.take i)).sum=bq (rs.take i):=by
 intro i
 induction i with
 | zero=>
  intro _;rw[List.take_zero];unfold c7;show(b.ao.map λp=>(0:Int)).sum=0;clear nd h;generalize b.ao=ps
  induction ps with
  | nil=>rfl
  | cons p ps ih=>rw[bJ,c9,ih];rfl
 | succ i ih=>
  intro hi;have ei:=aS (show i<rs.length by omega);rw[take_snoc ei];obtain⟨_,j,p,hp,e,_⟩:=h.row _ (bP ei);have hn:(rs[i]).1∉(rs.take i).map (λr:Row=>r.1):=by rw[Aq];exact jX h.nd (by rw[bF,ei];rfl)
  obtain⟨s1,s2⟩:=DO nd hp e hn;rw[s1,Kf s2,ih (by omega)];unfold bq;rw[br,List.sum_append];simp
abbrev Q4:=Str×Str×Int×Int
def jl(st:HS):Da Q4:=st.ao.map λp=>(p.nm,p.ow,p.wo,p.we)
def pB(b:BS):Da Q4:=b.ao.map λp=>(p.nm,p.ow,p.wo,p.we)
def qW(qs:Da Q4)(r:Row):Da Q4:=(qs.map λq=>if q.1=r.1 then(q.1,q.2.1,q.2.2.1-r.2,q.2.2.2) else q).filter λq=>decide (q.2.2.1≠0)
def m_(rs:Da Row)(qs:Da Q4):Da Q4:=(qs.map λq=>(q.1,q.2.1,q.2.2.1-di rs q.1,q.2.2.2)).filter λq=>decide (0<q.2.2.1)
def SI(st:HS)(r:Row):jl (gk st r)=qW (jl st) r:=by
 unfold jl gk nu qW;generalize st.ao=ps;show List.map _ (List.filter _ (List.map _ ps))=_
 induction ps with
 | nil=>rfl
 | cons p ps ih=>
  rw[bJ,bJ,bJ];by_cases c:p.nm=r.1
  .rw [aC c,aC (show(p.nm,p.ow,p.wo,p.we).1=r.1 from c),iF,iF];by_cases d:p.wo-r.2=0
   .rw [aB (by simpa using d),aB (by simpa using d),ih]
   .rw [aC (by simpa using d),aC (by simpa using d),bJ,ih]
  .rw [aB c,aB (show ¬ (p.nm,p.ow,p.wo,p.we).1=r.1 from c),iF,iF];by_cases d:p.wo=0
   .rw [aB (by simpa using d),aB (by simpa using d),ih]
   .rw [aC (by simpa using d),aC (by simpa using d),bJ,ih]
def Qf(st:HS)(kept whole:Int)(added:Da Int):jl (cQ st kept whole added)=jl st:=by unfold jl cQ;rw[zQ,ig];rfl
theorem DP:∀(rs:Da Row)(st:HS),jl (rs.foldl gk st)=rs.foldl qW (jl st)
 | [],_=>rfl
 | r::rs,st=>by rw[lX,lX,DP rs,SI]
theorem DQ:∀(qs:Da Q4)(r:Row)(rs:Da Row),r.1∉rs.map (λr:Row=>r.1)->(∀q∈qs,1<=q.2.2.1)->(∀q∈qs,q.1=r.1->r.2<=q.2.2.1)->m_ rs (qW qs r)=m_ (r::rs) qs
 | [],_,_,_,_,_=>rfl
 | q::qs,r,rs,hn,h1,h2=>by
  have ih:=DQ qs r rs hn (λx hx=>h1 x (b_ _ hx)) (λx hx=>h2 x (b_ _ hx));have w1:=h1 q cg;have e1:qW (q::qs) r=(if q.1=r.1 then(if q.2.2.1-r.2=0 then[] else[(q.1,q.2.1,q.2.2.1-r.2,q.2.2.2)]) else[q])++qW qs r:=by
   unfold qW;rw[bJ,iF];by_cases c:q.1=r.1
   .rw [aC c,aC c];by_cases d:q.2.2.1-r.2=0
    .rw [aC d,aB (by simpa using d)];rfl
    .rw [aB d,aC (by simpa using d)];rfl
   .rw [aB c,aB c,aC (cu (show q.2.2.1≠0 by omega))];rfl
  have e2:∀(us:Da Row)(x:Q4)(l:Da Q4),m_ us (x::l)=(if 0<x.2.2.1-di us x.1 then[(x.1,x.2.1,x.2.2.1-di us x.1,x.2.2.2)] else[])++m_ us l:=λus x l=>by
   unfold m_;rw[bJ,iF];by_cases c:0<x.2.2.1-di us x.1
   .rw [aC c,aC (cu c)];rfl
   .rw [aB c,aB (by simpa using c)];rfl
  rw[e1,e2 (r::rs),mz];by_cases c:q.1=r.1
  .have am:di rs q.1=0:=by rw[c];exact tP hn
   have le:=h2 q cg c;rw[aC c,aC c.symm];by_cases d:q.2.2.1-r.2=0
   .rw [aC d,aB (by omega),<-ih];rfl
   .rw [aB d,aC (by omega),<-ih,IA,IC,e2 rs];show(if 0<q.2.2.1-r.2-di rs q.1 then[(q.1,q.2.1,q.2.2.1-r.2-di rs q.1,q.2.2.2)] else[])++_=_;rw[am,Int.sub_zero,aC (by omega)]
  .rw [aB c,show(if r.1=q.1 then r.2 else di rs q.1)=di rs q.1 from aB (λz=>c z.symm),<-ih,IA,IC,e2 rs]
def GU{qs:Da Q4}{x:Q4}(h:x∈qW qs r):x.2.2.1≠0/\∃q∈qs,x=if q.1=r.1 then(q.1,q.2.1,q.2.2.1-r.2,q.2.2.2) else q:=by obtain⟨h1,h2⟩:=tE.mp h;obtain⟨q,hq,e⟩:=bR.mp h1;exact⟨dI h2,q,hq,e.symm⟩
theorem GV:∀(rs:Da Row)(qs:Da Q4),(rs.map (λr:Row=>r.1)).Nodup->(∀q∈qs,1<=q.2.2.1)->(∀r∈rs,∀q∈qs,q.1=r.1->r.2<=q.2.2.1)->rs.foldl qW qs=m_ rs qs
 | [],qs,_,h1,_=>by
  show qs=m_ [] qs;unfold m_
  induction qs with
  | nil=>rfl
  | cons q qs ih=>have:=h1 q cg;rw[bJ,iF,aC (cu (show 0<q.2.2.1-di [] q.1 by rw[GR];omega)),<-ih (λx hx=>h1 x (b_ _ hx)) (λr hr=>absurd hr (by simp)),GR,Int.sub_zero]
 | r::rs,qs,nd,h1,h2=>by
  obtain⟨n1,n2⟩:=iG.mp (show(r.1::rs.map (λr:Row=>r.1)).Nodup from nd);rw[lX,GV rs (qW qs r) n2 ?_ ?_]
  .exact DQ qs r rs n1 h1 (h2 r cg)
  .intro x hx;obtain⟨a,q,hq,e⟩:=GU hx;have:=h1 q hq;by_cases c:q.1=r.1
   .rw [aC c]at e;have:=h2 r cg q hq c;rw[e]at a ⊢;have a:q.2.2.1-r.2≠0:=a;show 1<=q.2.2.1-r.2;omega
   .rw [aB c]at e;rw[e];exact this
  .intro y hy x hx ex;obtain⟨_,q,hq,e⟩:=GU hx;by_cases c:q.1=r.1
   .rw [aC c]at e;rw[e]at ex;exact absurd (bR.mpr ⟨y,hy,ex.symm.trans c⟩) n1
   .rw [aB c]at e;rw[e]at ex ⊢;exact h2 y (b_ _ hy) q hq ex
def SJ(b:BS)(rs:Da Row)(seat:Nat)(aw:Int):pB (kG b (c7 b rs) seat aw)=m_ rs (pB b):=by
 unfold pB kG dQ m_;show List.map _ (List.filter _ (List.zipWith (nM (iA b (c7 b rs) seat aw) (bH b-aw-(c7 b rs).sum)) b.ao (c7 b rs)))=_;generalize iA b (c7 b rs) seat aw=g;generalize bH b-aw-(c7 b rs).sum=k;unfold c7;generalize b.ao=ps
 induction ps with
 | nil=>rfl
 | cons p ps ih=>
  rw[bJ,xy,bJ,bJ,iF,iF];by_cases c:0<p.wo-di rs p.nm
  .rw [aC (cu (show 0<(nM g k p (di rs p.nm)).wo from c)),aC (cu (show 0<p.wo-di rs p.nm from c)),bJ,ih];rfl
  .rw [aB (by simpa using(show ¬ 0<(nM g k p (di rs p.nm)).wo from c)),aB (by simpa using c),ih]
structure iT(st:HS)(b:BS):Prop where
 own:st.own=b.own
 qd:jl st=pB b
def Vr(st:HS)(rs:Da Row):(jk st rs).own=st.own:=by
 unfold jk;have:∀(rs:Da Row)(s:HS),(rs.foldl gk s).own=s.own:=λrs=>by
  induction rs with
  | nil=>intro s;rfl
  | cons r rs ih=>intro s;rw[lX,ih];rfl
 rw[this];unfold cQ;rw[Su]
def SK(r:iT st b)(wf:Wf st)(c:m8 st rs):iT (jk st rs) (kG b (c7 b rs) 0 0):=by
 refine⟨by rw[Vr,r.own];rfl,?_⟩;rw[SJ,<-r.qd];unfold jk;rw[DP,Qf];refine GV rs (jl st) c.nd (λq hq=>?_) (λx hx q hq e=>?_)
 .obtain ⟨p,hp,rfl⟩:=bR.mp hq;exact(wf.zH p hp).1
 .obtain ⟨p,hp,rfl⟩:=bR.mp hq;obtain⟨_,_,p',DR,e',le⟩:=c.row x hx;have:p=p':=Oh wf hp DR (e.trans e'.symm);rw[this];exact le
def SM(r:iT st b)(x o:Str)(wo we:Int):iT (x6 st x o wo we) (zS b x o wo we):=by refine⟨r.own,?_⟩;unfold jl pB x6 AM zS;show List.map _ (st.ao++[_])=List.map _ (b.ao++[_]);rw[br,br,show st.ao.map (λp=>(p.nm,p.ow,p.wo,p.we))=b.ao.map (λp=>(p.nm,p.ow,p.wo,p.we))from r.qd];rfl
def iT.whole(r:iT st b):bh st=bH b:=by unfold bh bH;have:=gF (List.map λq:Q4=>q.2.2.1) r.qd;unfold jl pB at this;rw[ig,ig]at this;exact gF List.sum this
def iT.len(r:iT st b):st.ao.length=b.ao.length:=by have:=gF List.length r.qd;unfold jl pB at this;rw[aF,aF]at this;exact this
theorem iT.at(r:iT st b){q:BP}(h:b.ao[i]?=some q):∃p,st.ao[i]?=some p/\p.nm=q.nm/\p.ow=q.ow/\p.wo=q.wo/\p.we=q.we:=by have e:=gF (λl:Da Q4=>l[i]?) r.qd;unfold jl pB at e;have e:(st.ao.map λp=>(p.nm,p.ow,p.wo,p.we))[i]?=(b.ao.map λp=>(p.nm,p.ow,p.wo,p.we))[i]?:=e;rw[bF,bF,h]at e;obtain⟨p,ep,e2⟩:=kT.mp e;have e2:(p.nm,p.ow,p.wo,p.we)=(q.nm,q.ow,q.wo,q.we):=e2;simp only[Prod.mk.injEq]at e2;exact⟨p,ep,e2⟩
def iT.at'(r:iT st b)(h:st.ao[i]?=some p):∃q,b.ao[i]?=some q/\p.nm=q.nm/\p.ow=q.ow/\p.wo=q.wo/\p.we=q.we:=by
 have hi:i<b.ao.length:=by rw[<-r.len];exact(d8.mp h).1
 have eq:=aS hi;obtain⟨p',e',z⟩:=r.at eq;rw[h]at e';cases e';exact⟨_,eq,z⟩
def iT.rows(r:iT st b)(h:bf n ρ B H b):zM K H (B.qs.map λq=>V.ref q.1) st.ao:=by
 refine⟨by rw[aF,h.ql,r.len],λi p e=>?_⟩;obtain⟨q,eq,e1,e2,e3,e4⟩:=r.at' e;obtain⟨a,ea,k1,_⟩:=h.find eq;refine⟨a.1,_,by rw[bF,ea];rfl,.inl (aA.of k1),?_,?_,?_,?_⟩
 .rw [e1];rfl
 .rw [e2];rfl
 .rw [e3];rfl
 .rw [e4];rfl
theorem GW{B:Int}(hB:0<=B):∀{ps:Da BP}{as:Da Int},(∀p∈ps,∀t∈p.tops,0<=t/\t<=B)->(∀a∈as,0<=a)->∀i,0<=iM ps as i/\iM ps as i<=B*as.sum
 | [],as,_,ha,i=>by
  have:0<=as.sum:=by
   cases as with
   | nil=>exact lZ _
   | cons a l=>exact Int.le_trans (ha a cg) (vE ha cg)
  exact⟨by show(0:Int)<=0;omega,nq hB this⟩
 | _::_,[],_,_,i=>by show 0<=(0:Int)/\(0:Int)<=B*0;omega
 | p::ps,a::as,h,ha,i=>by
  have ih:=GW hB (ps:=ps) (as:=as) (λx hx=>h x (b_ _ hx)) (λx hx=>ha x (b_ _ hx)) i;have a0:=ha a cg;have ht:0<=p.tops.getD i 0/\p.tops.getD i 0<=B:=by
   rw[ja];cases e:p.tops[i]? with
   | none=>exact⟨lZ _,hB⟩
   | some t=>exact h p cg t (bP e)
  have e:iM (p::ps) (a::as) i=p.tops.getD i 0*a+iM ps as i:=by unfold iM;rw[xy,c9]
  have k1:0<=p.tops.getD i 0*a:=nq ht.1 a0;have k2:p.tops.getD i 0*a<=B*a:=Q9 ht.2 a0;rw[e,c9,oR];omega
theorem SN(wf:uC b){aw:Int}(ok:m9 b as seat aw):∀g∈iA b as seat aw,0<=g/\g<=b.bot*(as.sum+aw):=by
 have b1:=wf.b1;have cb:=GW (B:=b.bot) (by omega) wf.t0 ok.a0;have DM:=ok.DM;have m0:0<=b.bot*aw:=nq (by omega) DM;have hg:∀g∈gq b as,0<=g/\g<=b.bot*as.sum:=λg h=>by obtain⟨i,_,rfl⟩:=bR.mp h;exact cb i
 intro g h;rw[oR];unfold iA at h;split at h
 .rcases List.mem_or_eq_of_mem_set h with z|z
  .have:=hg g z;omega
  .have hs:seat<(gq b as).length:=by rw[mw];exact ok.seat
   have e:(gq b as).getD seat 0=(gq b as)[seat] :=by rw[ja,aS hs];rfl
   have:=hg _ (vo hs);rw[z,e,qR aw];omega
 .have:=hg g h;omega
theorem Vs(wf:uC b){aw:Int}(ok:m9 b as seat aw)(hz:Jm.Sz 7000 (b.bot*bH b)):uC (kG b as seat aw):=by
 have b1:=wf.b1;have gb:=SN wf ok;have kp:=ok.kept;have as0:0<=as.sum:=by
  cases has:as with
  | nil=>exact lZ _
  | cons a l=>exact Int.le_trans (ok.a0 a (by rw[has];exact cg)) (by rw[<-has];exact vE ok.a0 (by rw[has];exact cg))
 have DM:=ok.DM;have Cj:∀p∈(dQ b as seat aw).filter (λp=>decide (0<p.wo)),0<p.wo/\∃p0∈b.ao,∃a,p=nM (iA b as seat aw) (bH b-aw-as.sum) p0 a:=λp hp=>by obtain⟨h1,h2⟩:=tE.mp hp;obtain⟨i,x,a,ex,_,e⟩:=kh (show p∈List.zipWith (nM (iA b as seat aw) (bH b-aw-as.sum)) b.ao as from h1);exact⟨dI h2,x,bP ex,a,e⟩
 have nmE:(dQ b as seat aw).map (λp:BP=>p.nm)=b.ao.map (λp:BP=>p.nm):=by have:=SG (seat:=seat) (aw:=aw) ok.len b.ao.length;rw[CS,tG,show(dQ b as seat aw).take b.ao.length=dQ b as seat aw from by rw[<-vD ok.len];exact bN]at this;exact this
 refine⟨?_,λp hp=>?_,λp hp t ht=>?_,?_,hz,λp hp=>?_,wf.ol,?_,wf.kl⟩
 .have:(((dQ b as seat aw).filter λp=>decide (0<p.wo)).map (λp:BP=>p.nm)).Sublist ((dQ b as seat aw).map (λp:BP=>p.nm)):=List.filter_sublist.map _;rw[nmE]at this;exact wf.nd.sublist this
 .obtain ⟨_,p0,h0,a,rfl⟩:=Cj p hp;show(List.zipWith _ p0.tops (iA b as seat aw)).length=b.own.length;rw[qi,wf.tl p0 h0,ye];omega
 .obtain ⟨_,p0,h0,a,rfl⟩:=Cj p hp;obtain⟨i,x,g,ex,eg,rfl⟩:=kh (show t∈List.zipWith (λt g=>t*(bH b-aw-as.sum)+g) p0.tops (iA b as seat aw)from ht);have hx:=wf.t0 p0 h0 x (bP ex);have hg:=gb g (bP eg);have k1:0<=x*(bH b-aw-as.sum):=nq hx.1 (by omega);have k2:x*(bH b-aw-as.sum)<=b.bot*(bH b-aw-as.sum):=Q9 hx.2 (by omega);have k3:b.bot*(bH b-aw-as.sum)+b.bot*(as.sum+aw)=b.bot*bH b:=by rw[<-oR];congr 1;omega
  exact⟨by omega,by show _<=b.bot*bH b;omega⟩
 .show 1<=b.bot*bH b;have:b.bot*1<=b.bot*bH b:=Gd (by omega) (by omega);omega
 .exact (Cj p hp).1
 .have:=List.length_filter_le (λp:BP=>decide (0<p.wo)) (dQ b as seat aw);rw[vD ok.len]at this;exact fL this wf.pl
theorem Yb(wf:uC b)(h:vF b rs)(hl:bq rs<bH b)(ho:0<b.own.length)(hz:Jm.Sz 60 (bH b)):m9 b (c7 b rs) 0 0:=by have hs:=GS wf.nd h rs.length (aN _);rw[bN]at hs;refine⟨zT b rs,λa ha=>?_,ho,lZ _,by rw[hs];omega,hz⟩;obtain⟨p,_,rfl⟩:=bR.mp ha;exact Vq (λr hr=>(h.row r hr).1) p.nm
inductive aaD(K:Fg)(vs:Da V)(H:Hp)(Q:VK)(E:XK):Prop
 |mk(n ρ B b:_)(l:Addr)(us:Da V)(rs:Da Row)(_:vs=[.ref B.m,.ref l])(_:Gh ρ H)(_:bf n ρ B H b)(_:uC b)(_:aA K H l us)(_:fB H us rs)(_:ρ l=none)(_:vF b rs)(_:rs.length<=1000)(_:m9 b (c7 b rs:_) 0 0)(_:∀ρ' B' H',Gh ρ' H'->bf n ρ' B' H' (kG b (c7 b rs:_) 0 0)->B'.m=B.m->Fr n ρ H ρ' H'->Q .cD H')
def Oo(K:Fg):Sp:=bx (aaD K)
theorem Yc(wf:uC b){o:Str}(h1:x∉b.ao.map (λp:BP=>p.nm))(h2:1<=wo)(h3:b.ao.length<1000)(h4:b.fJ.length<1000):uC (zS b x o wo we):=by
 have P:∀{M:BP->Prop},(∀p∈b.ao,M p)->M ⟨x,o,wo,we,(List.replicate b.own.length 0).set (b.own.idxOf o) b.bot⟩->∀p∈(zS b x o wo we).ao,M p:=λa c p hp=>by
  rcases fj.mp (show p∈b.ao++[_]from hp)with z|z
  .exact a p z
  .rw [eL.mp z];exact c
 have b1:=wf.b1;refine⟨?_,P wf.tl (by show((List.replicate b.own.length (0:Int)).set _ _).length=_;rw[lg,mK];rfl),P wf.t0 (λt ht=>?_),wf.b1,wf.bz,P wf.w1 h2,wf.ol,?_,?_⟩
 .show ((b.ao++[_]).map (λp:BP=>p.nm)).Nodup;rw[br];exact oh wf.nd h1
 .rcases x9 ht with z|z
  .rw [z];show 0<=0/\0<=b.bot;omega
  .rw [z];show 0<=b.bot/\b.bot<=b.bot;omega
 .show (b.ao++[_]).length<=1000;rw[cV];show b.ao.length+1<=1000;omega
 .show (b.fJ++[_]).length<=1000;rw[cV];show b.fJ.length+1<=1000;omega
theorem vG:∀(rs:Da Row)(s:HS),rs.foldl gk s={ s with ao:=(rs.foldl gk s).ao }
 | [],_=>rfl
 | r::rs,s=>by rw[lX,vG rs (gk s r)];rfl
def Ck(st:HS)(b:BS):Prop:=∀p∈st.ao,∀q∈b.ao,p.nm=q.nm->∀j,q.tops.getD j 0*st.prod=(cC st p).getD j 0*b.bot
theorem uD{f:Int->Int->Int}(hf:f 0 0=0){xs ys:Da Int}(h:xs.length=ys.length)(j:Nat):(List.zipWith f xs ys).getD j 0=f (xs.getD j 0) (ys.getD j 0):=by
 rw[ja,ja,ja,O3];by_cases c:j<xs.length
 .rw [aS c,aS (by omega)];rfl
 .rw [tZ (by omega),tZ (by omega)];exact hf.symm
def uE(rs:Da Row)(f:Str->Int):Int:=(rs.map λr=>r.2*f r.1).sum
theorem Kg{st:HS}:∀(rs:Da Row)(BM:Da Int),(∀r∈rs,(cC st (dg st r.1)).length=BM.length)->∀j,(yc st BM rs).getD j 0=BM.getD j 0+uE rs λx=>(cC st (dg st x)).getD j 0
 | [],BM,_,j=>by show BM.getD j 0=_+0;omega
 | r::rs,BM,h,j=>by
  have hr:=h r cg;have e:(List.zipWith (λx t=>x+r.2*t) BM (cC st (dg st r.1))).length=BM.length:=by rw[qi,hr];omega
  show(yc st (List.zipWith (λx t=>x+r.2*t) BM (cC st (dg st r.1))) rs).getD j 0=_;rw[Kg rs _ (λx hx=>by rw[e];exact h x (b_ _ hx)),uD (f:=λx t=>x+r.2*t) (by show(0:Int)+r.2*0=0;omega) hr.symm];unfold uE;rw[bJ,c9];show BM.getD j 0+r.2*(cC st (dg st r.1)).getD j 0+(rs.map λr=>r.2*(cC st (dg st r.1)).getD j 0).sum=BM.getD j 0+(r.2*(cC st (dg st r.1)).getD j 0+(rs.map λr=>r.2*(cC st (dg st r.1)).getD j 0).sum)
  omega
theorem Qg(nd:(b.ao.map (λp:BP=>p.nm)).Nodup)(h:vF b rs)(f:Str->Int):∀i≤rs.length,(b.ao.map λp=>f p.nm*di (rs.take i) p.nm).sum=uE (rs.take i) f:=by
 intro i
 induction i with
 | zero=>
  intro _;rw[List.take_zero];show(b.ao.map λp=>f p.nm*0).sum=0;clear nd h;generalize b.ao=ps
  induction ps with
  | nil=>rfl
  | cons p ps ih=>rw[bJ,c9,ih];omega
 | succ i ih=>
  intro hi;have ei:=aS (show i<rs.length by omega);obtain⟨_,j,p,hp,e,_⟩:=h.row _ (bP ei);have hn:(rs[i]).1∉(rs.take i).map (λr:Row=>r.1):=by rw[Aq];exact jX h.nd (by rw[bF,ei];rfl)
  rw[take_snoc ei];generalize rs[i]=r at *;replace ih:=ih (by omega);generalize rs.take i=us at *;have:uE (us++[r]) f=uE us f+r.2*f r.1:=by unfold uE;rw[br,List.sum_append];simp
  rw[this,<-ih];clear this ih hi ei;have hm:=bP hp;clear hp;generalize b.ao=ps at *;clear h
  induction ps with
  | nil=>simp at hm
  | cons x ps ihp=>
   obtain⟨n1,n2⟩:=iG.mp (show(x.nm::ps.map (λp:BP=>p.nm)).Nodup from nd);rw[bJ,bJ,c9,c9];rcases cJ.mp hm with z|z
   .subst z;have Cl:(ps.map λp=>f p.nm*di (us++[r]) p.nm)=ps.map λp=>f p.nm*di us p.nm:=List.map_congr_left λy hy=>by rw[mC hn,aB (λz=>n1 (bR.mpr ⟨y,hy,z.symm.trans e.symm⟩))]
    rw[Cl,mC hn,aC e.symm,e,tP hn,Int.mul_zero,qR r.2];omega
   .have ne:x.nm≠r.1:=λz'=>n1 (bR.mpr ⟨p,z,e.trans z'.symm⟩);rw[ihp n2 z,mC hn,aB (λz=>ne z.symm)];omega
theorem Kh:∀(rs:Da Row){s:HS}{p':Pt},p'∈(rs.foldl gk s).ao->∃p∈s.ao,p'.nm=p.nm/\p'.row=p.row/\p'.sc=p.sc
 | [],_,p',h=>⟨p',h,Z,Z,Z⟩
 | r::rs,s,p',h=>by obtain⟨p,hp,e1,e2,e3⟩:=Kh rs (s:=gk s r) h;obtain⟨_,q,hq,e⟩:=Cf hp;refine⟨q,hq,?_⟩;rw[e1,e2,e3,e];split <;> exact⟨Z,Z,Z⟩
def Yd{ps:Da BP}(j:Nat):iM ps (ps.map λp=>di rs p.nm) j=(ps.map λp=>p.tops.getD j 0*di rs p.nm).sum:=by
 unfold iM
 induction ps with
 | nil=>rfl
 | cons p ps ih=>rw[bJ,xy,c9,bJ,c9,ih]
theorem GX(k:Int){α:Type}(l:Da α)(f g:α->Int)(h:∀x∈l,f x*k=g x):(l.map f).sum*k=(l.map g).sum:=by
 induction l with
 | nil=>show(0:Int)*k=0;omega
 | cons x l ih=>rw[bJ,bJ,c9,c9,Aw,ih λy hy=>h y (b_ _ hy),h x cg]
theorem SQ{st st':HS}{kept whole:Int}{added:Da Int}(wf:Wf st)(bl:tU st kept whole lost added)(ec:st'.bL=(cQ st kept whole added).bL)(ep:st'.prod=(cQ st kept whole added).prod){p':Pt}(hp:p∈st.ao)(e2:p'.row=p.row)(e3:p'.sc=p.sc*kept / cZ st kept whole added){t0 gB B:Int}{j:Nat}(tj:t0*st.prod=(cC st p).getD j 0*B)(eB:gB*st.prod=added.getD j 0*B):(t0*kept+gB)*st'.prod=(cC st' p').getD j 0*(B*whole):=by
 obtain⟨hd,hdw,hds,hdc⟩:=bl.dvds
 have aga:st'.bL=(fZ st kept added).map (· / cZ st kept whole added):=by rw[ec];unfold cQ;rw[So]
 have s1:1<=whole / cZ st kept whole added:=by
  have w1:0<whole:=by have:=bl.l;have:=bl.w;have:=bl.k;omega
  have:=Int.le_of_dvd w1 hdw;exact Int.le_ediv_of_mul_le hd (by omega)
 have Wx:st'.prod=st.prod*(whole / cZ st kept whole added):=by rw[ep];unfold cQ;rw[DK s1]
 have hds:=hds p hp
 have hrl:=wf.rows p hp
 have hcl:=wf.jD
 have gl:=bl.len
 have ewd:cZ st kept whole added*(whole / cZ st kept whole added)=whole:=Int.mul_ediv_cancel' hdw
 have a5:cZ st kept whole added*p'.sc=p.sc*kept:=by rw[e3];exact Int.mul_ediv_cancel' hds
 rw[Wx]
 clear ec ep Wx e3 bl hdw hds s1
 generalize cZ st kept whole added=d at *
 have etop:d*(cC st' p').getD j 0=(cC st p).getD j 0*kept+added.getD j 0:=by
  have a1:(cC st' p').getD j 0=p'.sc*p.row.getD j 0+((fZ st kept added).map (· / d)).getD j 0:=by unfold cC;rw[aga,e2,uD (f:=λr c=>p'.sc*r+c) (by show p'.sc*0+0=0;omega)];rw[aF];unfold fZ;rw[qi,gl,hrl,hcl];omega
  have a2:(cC st p).getD j 0=p.sc*p.row.getD j 0+st.bL.getD j 0:=by unfold cC;exact uD (f:=λr c=>p.sc*r+c) (by show p.sc*0+0=0;omega) (by rw[hrl,hcl]) j
  have a3:(fZ st kept added).getD j 0=st.bL.getD j 0*kept+added.getD j 0:=by unfold fZ;exact uD (f:=λt m=>t*kept+m) (by show(0:Int)*_+0=0;omega) gl.symm j
  have a4:d*((fZ st kept added).map (· / d)).getD j 0=(fZ st kept added).getD j 0:=by
   rw[ja,ja,bF];cases ec:(fZ st kept added)[j]? with
   | none=>show _*0=(0:Int);omega
   | some x=>exact Int.mul_ediv_cancel' (hdc x (bP ec))
  rw[a1,oR,<-jH,a5,a4,a3,a2]
  grind
 generalize whole / d=SR at *
 generalize (cC st' p').getD j 0=T' at *
 generalize (cC st p).getD j 0=T at *
 generalize added.getD j 0=gS at *
 refine Int.eq_of_mul_eq_mul_left (a:=d) (by omega) ?_
 have l1:d*((t0*kept+gB)*(st.prod*SR))=(t0*st.prod*kept+gB*st.prod)*(d*SR):=by grind
 have l2:d*(T'*(B*whole))=(d*T')*(B*whole):=by grind
 rw[l1,l2,ewd,tj,eB,etop]
 grind
theorem SS(t:Ck st b)(rl:iT st b)(wf:Wf st)(wb:uC b)(c:m8 st rs)(rb:vF b rs)(bo:m9 b (c7 b rs) 0 0):Ck (jk st rs) (kG b (c7 b rs) 0 0):=by
 intro p' DR q' hq' en j;have bl:=c.blend wf;have ew:=rl.whole;have DS:∀r∈rs,∃p∈st.ao,p.nm=r.1:=λr hr=>by obtain⟨p,hp,e,_⟩:=(c.row r hr).2.2;exact⟨p,hp,e⟩
 have eG:=GN wf DS;have gl:(gc st rs).length=st.bL.length:=bl.len;obtain⟨p1,hp1,e1,e2,e3⟩:=Kh rs (s:=cQ st (bh st-bq rs) (bh st) (gc st rs)) DR;have eK:=vG rs (cQ st (bh st-bq rs) (bh st) (gc st rs));have agb:p1∈st.ao.map (λp:Pt=>{ p with sc:=p.sc*(bh st-bq rs) / cZ st (bh st-bq rs) (bh st) (gc st rs) }):=by have h:=hp1;unfold cQ at h;rw[zQ]at h;exact h
 obtain⟨p,hp,rfl⟩:=bR.mp agb;have e1:p'.nm=p.nm:=e1;have e2:p'.row=p.row:=e2;have e3:p'.sc=p.sc*(bh st-bq rs) / cZ st (bh st-bq rs) (bh st) (gc st rs):=e3;have hcl:=wf.jD;obtain⟨h1,_⟩:=tE.mp (show q'∈(dQ b (c7 b rs) 0 0).filter _ from hq');obtain⟨k,q,a,eq,_,Wy⟩:=kh (show q'∈List.zipWith (nM (iA b (c7 b rs) 0 0) (bH b-0-(c7 b rs).sum)) b.ao (c7 b rs)from h1);have hq:=bP eq;have enq:p.nm=q.nm:=by rw[<-e1,en,Wy];rfl
 have tj:=t p hp q hq enq j;have hs:=GS wb.nd rb rs.length (aN _);rw[bN]at hs;have eqt:q'.tops.getD j 0=q.tops.getD j 0*(bH b-bq rs)+(gq b (c7 b rs)).getD j 0:=by rw[Wy];show(List.zipWith _ q.tops (iA b (c7 b rs) 0 0)).getD j 0=_;rw[uD (f:=λt g=>t*(bH b-0-(c7 b rs).sum)+g) (by show(0:Int)*_+0=0;omega) (by rw[wb.tl q hq,ye]),hs,Int.sub_zero];rfl
 have eGj:(gc st rs).getD j 0=uE rs λx=>(cC st (dg st x)).getD j 0:=by
  rw[eG,Kg rs _ (λr hr=>by obtain⟨x,hx,e⟩:=DS r hr;rw[jF wf hx e,mK,yd wf hx])]
  have:(List.replicate st.bL.length (0:Int)).getD j 0=0:=by rw[ja,List.getElem?_replicate];split <;> rfl
  omega
 have eBj:(gq b (c7 b rs)).getD j 0*st.prod=(gc st rs).getD j 0*b.bot:=by
  have pr:=Qg wb.nd rb (λx=>(cC st (dg st x)).getD j 0) rs.length (aN _);rw[bN]at pr;rw[eGj,<-pr];by_cases cj:j<b.own.length
  .have e:(gq b (c7 b rs)).getD j 0=(b.ao.map λp=>p.tops.getD j 0*di rs p.nm).sum:=by unfold gq;rw[ja,bF,List.getElem?_range cj];exact Yd j
   rw[e,GX st.prod b.ao (λp=>p.tops.getD j 0*di rs p.nm) (λp=>((cC st (dg st p.nm)).getD j 0*di rs p.nm)*b.bot) (λx hx=>?_)]
   .exact (GX b.bot b.ao (λp=>(cC st (dg st p.nm)).getD j 0*di rs p.nm) _ λx _=>rfl).symm
   .obtain ⟨i,hi,ei⟩:=t9 hx;obtain⟨y,hy,ey,_⟩:=rl.at (i:=i) (q:=x) (by rw[aS hi,ei])
    have hy:=bP hy;have:=t y hy x hx ey j;rw[jF wf hy ey,Int.mul_right_comm,this,Int.mul_right_comm]
  .have z1:(gq b (c7 b rs)).getD j 0=0:=by rw[ja,tZ (by rw[mw];omega)];rfl
   have z2:(gc st rs).getD j 0=0:=by rw[ja,tZ (by rw[gl,hcl,rl.own];omega)];rfl
   rw[z1,pr,<-eGj,z2];omega
 rw[eqt,<-ew];show _=(cC (jk st rs) p').getD j 0*(b.bot*bH b);rw[<-ew];exact SQ wf bl (by unfold jk;rw[eK]) (by unfold jk;rw[eK]) hp e2 e3 tj eBj
theorem SV(t:Ck st b)(rl:iT st b)(wf:Wf st)(wb:uC b){o:Str}(h1:x∉b.ao.map (λp:BP=>p.nm)):Ck (x6 st x o wo we) (zS b x o wo we):=by
 intro p hp q hq en j;have nmE:∀y∈st.ao,y.nm∈b.ao.map (λp:BP=>p.nm):=λy hy=>by obtain⟨i,hi,ei⟩:=t9 hy;obtain⟨z,hz,ez,_⟩:=rl.at' (i:=i) (p:=y) (by rw[aS hi,ei]);rw[ez];exact bR.mpr ⟨z,bP hz,Z⟩
 show q.tops.getD j 0*st.prod=(cC st p).getD j 0*b.bot;rcases fj.mp (show p∈st.ao++[_]from hp)with zp|zp
 .rcases fj.mp (show q∈b.ao++[_]from hq)with zq|zq
  .exact t p zp q zq en j
  .rw [eL.mp zq]at en;have en:p.nm=x:=en;exact absurd (by rw[<-en];exact nmE p zp) h1
 .rcases fj.mp (show q∈b.ao++[_]from hq)with zq|zq
  .rw [eL.mp zp]at en;have en:x=q.nm:=en;exact absurd (by rw[en];exact bR.mpr ⟨q,zq,Z⟩) h1
  .rw [eL.mp zp,eL.mp zq];have e1:cC st ⟨x,o,wo,we,1,zK st ((List.replicate st.own.length 0).set (st.own.idxOf o) st.prod)⟩=(List.replicate st.own.length 0).set (st.own.idxOf o) st.prod:=by show List.zipWith (λr c=>1*r+c) (List.zipWith (λt c=>t-c) ((List.replicate st.own.length 0).set (st.own.idxOf o) st.prod) st.bL) st.bL=_;rw[Cc,wf.jD];exact yQ (by rw[lg,mK];exact aN _)
   rw[e1,rl.own];show((List.replicate b.own.length 0).set (b.own.idxOf o) b.bot).getD j 0*st.prod=((List.replicate b.own.length 0).set (b.own.idxOf o) st.prod).getD j 0*b.bot;have key:∀v:Int,((List.replicate b.own.length 0).set (b.own.idxOf o) v).getD j 0=if b.own.idxOf o=j/\j<b.own.length then v else 0:=λv=>by
    rw[ja,List.getElem?_set];by_cases c:b.own.idxOf o=j
    .rw [aC c];by_cases d:b.own.idxOf o<(List.replicate b.own.length (0:Int)).length
     .rw [aC d,aC ⟨c,by rw[mK]at d;omega⟩];rfl
     .rw [aB d,aB (λz=>d (by rw[mK];omega))];rfl
    .rw [aB c,aB (λz=>c z.1),List.getElem?_replicate];split <;> rfl
   rw[key,key];split
   .exact qR _ _
   .omega
theorem Qh{st:HS}{b:BS}(t:Ck st b)(rl:iT st b)(wf:Wf st)(wb:uC b){p:Pt}{q:BP}(hp:p∈st.ao)(hq:q∈b.ao)(e:p.nm=q.nm):zL st p=dB b.own q.tops b.bot:=by
 have p1:=wf.jj;have b1:=wb.b1;have l1:(cC st p).length=b.own.length:=by rw[yd wf hp,wf.jD,rl.own]
 have l2:q.tops.length=b.own.length:=wb.tl q hq;have tj:=t p hp q hq e;unfold zL dB;rw[rl.own];generalize cC st p=xs at *;generalize q.tops=ys at *;generalize b.own=own at *;have step:∀(own:Da Str)(xs ys:Da Int),xs.length=own.length->ys.length=own.length->(∀j,ys.getD j 0*st.prod=xs.getD j 0*b.bot)->(List.zip own xs).filterMap (λx=>if 0<x.2 then some (x.1,Jm.fr x.2 st.prod) else none)=(List.zip own ys).filterMap λx=>if 0<x.2 then some (x.1,Jm.fr x.2 b.bot) else none:=by
  intro own
  induction own with
  | nil=>intro xs ys _ _ _;simp
  | cons o own ih=>
   intro xs ys h1 h2 h3;cases xs with
   | nil=>simp at h1
   | cons x xs=>
    cases ys with
    | nil=>simp at h2
    | cons y ys=>
     have h0:y*st.prod=x*b.bot:=by simpa using h3 0
     have ih:=ih xs ys (by simpa using h1) (by simpa using h2) (λj=>by simpa using h3 (j+1));rw[List.zip_cons_cons,List.zip_cons_cons,yS,yS,ih];by_cases c:0<x
     .have c2:0<y:=by
       rcases CY 0 y with z|z
       .exact z
       .have k1:y*st.prod<=0:=Int.mul_nonpos_of_nonpos_of_nonneg z (by omega);have k2:0<x*b.bot:=Int.mul_pos c (by omega);omega
      simp only[aC c,aC c2];rw[Jm.Wb (t:=x) (b:=st.prod) (t':=y) (b':=b.bot) (by omega) (by omega) h0.symm]
     .have c2:¬ 0<y:=λz=>by have k1:0<y*st.prod:=Int.mul_pos z (by omega);have k2:x*b.bot<=0:=Int.mul_nonpos_of_nonpos_of_nonneg (by omega) (by omega);omega
      simp only[aB c,aB c2]
 exact step own xs ys l1 l2 tj
theorem By{α:Type}(f g:α->Int):∀l:Da α,(l.map λx=>f x+g x).sum=(l.map f).sum+(l.map g).sum
 | []=>rfl
 | a::l=>by rw[bJ,bJ,bJ,c9,c9,c9,By f g l];omega
theorem vZ{α:Type}(f:α->Int)(k:Int):∀l:Da α,(l.map λx=>f x*k).sum=(l.map f).sum*k
 | []=>by simp
 | a::l=>by rw[bJ,bJ,c9,c9,vZ f k l,Aw]
theorem My:∀(l:Da Int)(n:Nat),l.length=n->(List.range n).map (λi=>l.getD i 0)=l:=λl n h=>by
 refine List.ext_getElem? λi=>?_;rw[bF];by_cases hi:i<n
 .rw [List.getElem?_range hi,aS (by omega)];show some (l.getD i 0)=_;rw[ja,aS (by omega)];rfl
 .rw [tZ (by rw[BU];omega),tZ (by omega)];rfl
theorem GY{B:Int}{n:Nat}:∀(ps:Da BP)(as:Da Int),(∀p∈ps,p.tops.length=n/\p.tops.sum=B)->as.length=ps.length->((List.range n).map (iM ps as)).sum=B*as.sum
 | [],[],_,_=>by
  have:(List.range n).map (iM [] [])=(List.range n).map λ_=>(0:Int)*0:=by congr 1
  rw[this,vZ];simp
 | [],_::_,_,h=>by simp at h
 | _::_,[],_,h=>by simp at h
 | p::ps,a::as,hp,hl=>by
  have e:(List.range n).map (iM (p::ps) (a::as))=(List.range n).map λi=>p.tops.getD i 0*a+iM ps as i:=by congr 1
  obtain⟨h1,h2⟩:=hp p cg;have ih:=GY ps as (λx hx=>hp x (b_ _ hx)) (by simpa using hl);rw[e,By,vZ,My _ _ h1,ih,h2,c9,oR]
theorem v5:∀{l:Da Int}{i:Nat}{x:Int},i<l.length->(l.set i (l.getD i 0+x)).sum=l.sum+x
 | a::l,0,x,_=>by rw[O_,c9,c9];show a+x+_=_;omega
 | a::l,i+1,x,h=>by rw[O9,c9,c9];have:=v5 (l:=l) (i:=i) (x:=x) (by simpa using h);have e:(a::l).getD (i+1) 0=l.getD i 0:=rfl;rw[e,this];omega
 | [],_,_,h=>by simp at h
theorem Oq(k:Int):∀{ts gs:Da Int},ts.length=gs.length->(List.zipWith (λt g=>t*k+g) ts gs).sum=ts.sum*k+gs.sum
 | [],[],_=>by simp
 | t::ts,g::gs,h=>by have:=Oq k (ts:=ts) (gs:=gs) (by simpa using h);rw[xy,c9,c9,c9,this,Aw];omega
 | [],_::_,h=>by simp at h
 | _::_,[],h=>by simp at h
theorem Vt(wf:uC b){aw:Int}(ok:m9 b as seat aw)(hs:∀p∈b.ao,p.tops.sum=b.bot):∀p∈(kG b as seat aw).ao,p.tops.sum=(kG b as seat aw).bot:=λp hp=>by
 obtain⟨h1,_⟩:=tE.mp (show p∈(dQ b as seat aw).filter _ from hp);obtain⟨i,x,a,ex,ea,rfl⟩:=kh (show p∈List.zipWith (nM (iA b as seat aw) (bH b-aw-as.sum)) b.ao as from h1);have hx:=bP ex;show(List.zipWith (λt g=>t*(bH b-aw-as.sum)+g) x.tops (iA b as seat aw)).sum=b.bot*bH b;rw[Oq _ (by rw[wf.tl x hx,ye]),hs x hx];have eg:(gq b as).sum=b.bot*as.sum:=GY b.ao as (λp hp=>⟨wf.tl p hp,hs p hp⟩) ok.len;have e2:(iA b as seat aw).sum=b.bot*(as.sum+aw):=by
  unfold iA;by_cases h:0<aw
  .rw [aC h,v5 (by rw[mw];exact ok.seat),eg,oR,qR aw]
  .have:aw=0:=by have:=ok.DM;omega
   rw[aB h,eg,this,Int.add_zero]
 rw[e2,<-oR];congr 1;omega
inductive yf(own:Da Str):Da oq->Da BE->Prop
 | nil:yf own [] []
 | cons {a:oq} {e:BE} {as:Da oq} {es:Da BE}:a.nm=e.nm->a.ow=e.ow->a.wo=e.wo->a.sh=dB own e.tops e.bot->e.tops.length<=own.length->0<e.bot->Jm.Sz 9000 e.bot->PyData.strOk e.nm=true->PyData.strOk e.ow=true->yf own as es->yf own (a::as) (e::es)
structure iU(c:Nat)(st:HS)(b:BS):Prop where
 lM:uC b
 rel:iT st b
 Kl:Ck st b
 c6:∀u∈st.c6,Jm.Sz (60*c+60) u
 stp:st.stp.length<=c
 prod:Jm.Sz (60*c+1) st.prod
 bot:Jm.Sz (60*c+1) b.bot
 wo:∀p∈b.ao,p.wo<=1000000000*((c:Int)+1)
 we:∀p∈b.ao,p.we<=1000000000
 pl:b.ao.length<=50+c
 kl:b.fJ.length<=900+c
 own:0<b.own.length
 nm:∀p∈b.ao,PyData.strOk p.nm=true/\PyData.strOk p.ow=true
 lJ:yf b.own st.lJ b.lJ
 fJ:st.nms=b.fJ
 nk:∀x∈b.fJ,isNm x=true
 on:∀o∈b.own,isNm o=true
 sum:∀p∈b.ao,p.tops.sum=b.bot
variable {c:Nat}
theorem iU.mono(g:iU c st b):iU (c+1) st b:=⟨g.lM,g.rel,g.Kl,λu hu=>(g.c6 u hu).mono (by omega),by have:=g.stp;omega,g.prod.mono (by omega),g.bot.mono (by omega),λp hp=>by have:=g.wo p hp;omega,g.we,by have:=g.pl;omega,by have:=g.kl;omega,g.own,g.nm,g.lJ,g.fJ,g.nk,g.on,g.sum⟩
def iU.nms(g:iU c st b):aar st.ao:=λp hp=>by obtain⟨i,hi,e⟩:=t9 hp;obtain⟨q,eq,e1,e2,_⟩:=g.rel.at' (i:=i) (p:=p) (by rw[aS hi,e]);rw[e1,e2];exact g.nm q (bP eq)
theorem BB:∀{ps:Da BP}{m:Int},(∀p∈ps,1<=p.wo/\p.wo<=m)->0<=(ps.map λp=>p.wo).sum/\(ps.map λp=>p.wo).sum<=m*(ps.length:Int)
 | [],m,_=>by show 0<=(0:Int)/\(0:Int)<=m*0;omega
 | p::ps,m,h=>by have h0:=h p cg;have ih:=BB (ps:=ps) (m:=m) λx hx=>h x (b_ _ hx);rw[bJ,c9,kq,show(((ps.length+1:Nat)):Int)=(ps.length:Int)+1 from by omega,oR,Int.mul_one];omega
theorem iU.whole(g:iU c st b)(hc:c<=100):0<=bH b/\Jm.Sz 60 (bH b):=by
 have h:=BB (ps:=b.ao) (m:=101000000000) λp hp=>⟨g.lM.w1 p hp,by have:=g.wo p hp;omega⟩
 refine⟨h.1,?_⟩;have hl:=g.pl;have h2:(101000000000:Int)*(b.ao.length:Int)<=15150000000000:=by omega
 have h3:bH b<=15150000000000:=Int.le_trans h.2 h2;have h1:0<=bH b:=h.1;have:Jm.Sz 60 (15150000000000:Int):=rL (by decide +kernel);exact this.of_le (by omega)
theorem Ye{st':HS}{aw kept:Int}(g:iU c st b)(bl:tU st kept (bh st) lost added)(bo:m9 b as seat aw)(hc:c<=90)(eC:st'={ cQ st kept (bh st) added with ao:=st'.ao })(rw':iT st' (kG b as seat aw))(rt:Ck st' (kG b as seat aw)):iU (c+1) st' (kG b as seat aw):=by
 have zw:=g.whole (by omega);have ew:=g.rel.whole;obtain⟨hs,hsw,_,_⟩:=bl.dvds;have w1:0<bh st:=by have:=bl.k;have:=bl.l;have:=bl.w;omega
 have s1:1<=bh st / cZ st kept (bh st) added:=by have:=Int.le_of_dvd w1 hsw;exact Int.le_ediv_of_mul_le hs (by omega)
 have s2:bh st / cZ st kept (bh st) added<=bh st:=IB _ (by omega);have zs:Jm.Sz 60 (bh st / cZ st kept (bh st) added):=by have:=zw.2;rw[<-ew]at this;exact this.of_le (by omega)
 have Cj:∀p∈(kG b as seat aw).ao,∃p0∈b.ao,∃a,a∈as/\p=nM (iA b as seat aw) (bH b-aw-as.sum) p0 a:=λp hp=>by obtain⟨h1,_⟩:=tE.mp (show p∈(dQ b as seat aw).filter _ from hp);obtain⟨i,x,a,ex,ea,e⟩:=kh (show p∈List.zipWith (nM (iA b as seat aw) (bH b-aw-as.sum)) b.ao as from h1);exact⟨x,bP ex,a,bP ea,e⟩
 have zb:Jm.Sz (60*(c+1)+1) (b.bot*bH b):=(g.bot.mul zw.2).mono (by omega);refine⟨Vs g.lM bo (zb.mono (by omega)),rw',rt,λu hu=>?_,?_,?_,zb,λp hp=>?_,(λp hp=>by obtain⟨p0,h0,a,_,rfl⟩:=Cj p hp;exact g.we p0 h0),?_,(by show b.fJ.length<=_;have:=g.kl;omega),g.own,λp hp=>?_,?_,?_,g.nk,g.on,Vt g.lM bo g.sum⟩
 .rw [eC]at hu;have hu:u∈(cQ st kept (bh st) added).c6:=hu;unfold cQ at hu;rw[Ss]at hu;obtain⟨x,hx,rfl⟩:=bR.mp hu;exact((g.c6 x hx).mul zs).mono (by omega)
 .rw [eC];show(cQ st kept (bh st) added).stp.length<=c+1;unfold cQ fW;split
  .show (st.stp++[_]).length<=c+1;rw[cV];have:=g.stp;show st.stp.length+1<=c+1;omega
  .show st.stp.length<=c+1;have:=g.stp;omega
 .rw [eC];show Jm.Sz _ (cQ st kept (bh st) added).prod;unfold cQ;rw[DK s1];exact(g.prod.mul zs).mono (by omega)
 .obtain ⟨p0,h0,a,ha,rfl⟩:=Cj p hp;have:=g.wo p0 h0;have:=bo.a0 a ha;show p0.wo-a<=1000000000*(((c+1:Nat):Int)+1);omega
 .have:=List.length_filter_le (λp:BP=>decide (0<p.wo)) (dQ b as seat aw);rw[vD bo.len]at this;have:=g.pl;show(List.filter _ _).length<=_;omega
 .obtain ⟨p0,h0,a,_,rfl⟩:=Cj p hp;exact g.nm p0 h0
 .rw [eC];show yf b.own (cQ st kept (bh st) added).lJ b.lJ;unfold cQ;rw[Sw];exact g.lJ
 .rw [eC];show(cQ st kept (bh st) added).nms=b.fJ;unfold cQ;rw[Sv];exact g.fJ
def Yg(g:iU c st b)(wf:Wf st)(ok:m8 st rs)(rb:vF b rs)(bo:m9 b (c7 b rs) 0 0)(hc:c<=90):iU (c+1) (jk st rs) (kG b (c7 b rs) 0 0):=Ye g (ok.blend wf) bo hc (vG rs (cQ st (bh st-bq rs) (bh st) (gc st rs))) (SK g.rel wf ok) (SS g.Kl g.rel wf g.lM ok rb bo)
def Yh(st:HS)(rs:Da Row):(jk st rs).kn<=st.kn:=by
 unfold jk;rw[vG];show(cQ st (bh st-bq rs) (bh st) (gc st rs)).kn<=st.kn;unfold cQ fW;split
 .exact eV _
 .exact aN _
theorem Ot(h:isNm x=true):PyData.strOk x=true:=by
 unfold PyData.strOk;rw[Array.all_eq_true'];intro c hc;unfold isNm isName at h;have h1:=qP.mp (jP.mp h).2 c (by simpa using hc);rw[XG]at h1;have hm:=dI h1;have:∀c∈("abcdefghijklmnopqrstuvwxyz":Str).cps.toList,c<1000:=by decide +kernel
 have:=this c hm;exact cu (by omega)
def Vu(n:Nat):(List.replicate n (0:Int)).sum=0:=by
 induction n with
 | zero=>rfl
 | succ n ih=>rw[BR,c9,ih];rfl
theorem Yi(g:iU c st b)(wf:Wf st){o:Str}(h1:x∉b.ao.map (λp:BP=>p.nm))(h2:1<=wo)(h2':wo<=1000000000)(h3:b.ao.length<50)(h4:b.fJ.length<900)(hx:isNm x=true)(ho:o∈b.own)(h5:we<=1000000000):iU c (x6 st x o wo we) (zS b x o wo we):=by
 have P:∀{M:BP->Prop},(∀p∈b.ao,M p)->M ⟨x,o,wo,we,(List.replicate b.own.length 0).set (b.own.idxOf o) b.bot⟩->∀p∈(zS b x o wo we).ao,M p:=λa c p hp=>by
  rcases fj.mp (show p∈b.ao++[_]from hp)with z|z
  .exact a p z
  .rw [eL.mp z];exact c
 refine⟨Yc g.lM h1 h2 (by omega) (by omega),SM g.rel x o wo we,SV g.Kl g.rel wf g.lM h1,g.c6,g.stp,g.prod,g.bot,P g.wo (by show wo<=_;omega),P g.we h5,by show(b.ao++[_]).length<=50+c;rw[cV];show b.ao.length+1<=50+c;omega,by show(b.fJ++[_]).length<=900+c;rw[cV];show b.fJ.length+1<=900+c;omega,g.own,P g.nm ⟨Ot hx,Ot (g.on o ho)⟩,g.lJ,?_,?_,g.on,P g.sum ?_⟩
 .show st.nms++[x]=b.fJ++[x];rw[g.fJ]
 .intro y hy;rcases fj.mp (show y∈b.fJ++[x]from hy)with z|z
  .exact g.nk y z
  .rw [eL.mp z];exact hx
 .show ((List.replicate b.own.length 0).set (b.own.idxOf o) b.bot).sum=b.bot;have hi:b.own.idxOf o<(List.replicate b.own.length (0:Int)).length:=by rw[mK];exact List.idxOf_lt_length_iff.mpr ho
  have:=v5 (x:=b.bot) hi;rw[show(List.replicate b.own.length (0:Int)).getD (b.own.idxOf o) 0=0 from by rw[ja,aS hi,List.getElem_replicate];rfl,Int.zero_add,Vu,Int.zero_add]at this;exact this
theorem DT:∀(l:Da Str)(st:HS),st.ao=[]->(∀u∈st.c6,u=0)->(l.foldl gH st).ao=[]/\(l.foldl gH st).nms=st.nms/\(l.foldl gH st).stp=st.stp/\(l.foldl gH st).prod=st.prod/\(l.foldl gH st).lJ=st.lJ/\∀u∈(l.foldl gH st).c6,u=0
 | [],_,h,hp=>⟨h,Z,Z,Z,Z,hp⟩
 | o::l,st,h,hp=>by
  rw[lX];exact DT l (gH st o) (by show st.ao.map _=[];rw[h];rfl) (λu hu=>by
   rcases fj.mp (show u∈st.c6++[0]from hu)with z|z
   .exact hp u z
   .exact eL.mp z)
def gd0(h0:0<own.length)(h1:own.length<=100)(hon:∀o∈own,isNm o=true):iU 0 (own.foldl gH hs0) ⟨own,[],1,[],[]⟩/\(own.foldl gH hs0).nms=[] :=by obtain⟨k1,k2,k3,k4,k5,k6⟩:=DT own hs0 rfl (λu hu=>absurd hu (by simp[hs0]));refine⟨⟨⟨qQ,λp hp=>absurd hp (by simp),λp hp=>absurd hp (by simp),lZ _,(by show Jm.Sz 7000 1;exact rL (by decide +kernel)),λp hp=>absurd hp (by simp),h1,eV _,eV _⟩,⟨by rw[zN];rfl,by unfold jl pB;rw[k1];rfl⟩,(λp hp=>by rw[k1]at hp;exact absurd hp (by simp)),(λu hu=>by rw[k6 u hu];exact rL (by decide +kernel)),by rw[k3];exact aN _,(by rw[k4];show Jm.Sz (60*0+1) 1;exact rL (by decide +kernel)),(by show Jm.Sz (60*0+1) 1;exact rL (by decide +kernel)),λp hp=>absurd hp (by simp),λp hp=>absurd hp (by simp),eV _,eV _,h0,λp hp=>absurd hp (by simp),(by rw[k5];exact .nil),k2,(λx hx=>nomatch hx),hon,λp hp=>absurd hp (by simp)⟩,k2⟩
def yE(K:Fg)(ρ:eF)(H:Hp)(z:Addr)(xs:Da V):Prop:=∀(ρ':eF)(H':Hp),aG (out ρ H) (out ρ' H')->aA K H' z xs
def yE.of(h:aA K H z xs):yE K (λ_=>none) H z xs:=λρ' H' s=>by
 rcases h with(h|⟨o,h⟩)|h
 .exact .inl (.inl (xW (s _ _ (DC h rfl))).1)
 .exact .inl (.inr ⟨o,(xW (s _ _ (DC h rfl))).1⟩)
 .exact .inr h
def yE.go(h:yE K ρ H z xs)(s:aG (out ρ H) (out ρ' H')):yE K ρ' H' z xs:=λ_ _ s'=>h _ _ (s.trans s')
inductive aaF(T:TC)(K:Fg)(vs:Da V)(H:Hp)(Q:VK)(E:XK):Prop
 |mk(n m ρ A B st b:_)(a ln:Addr)(ns:Da Int)(k:Int)(nms:Da Str)(BT:Nat)(_:vs=[.ref a,.int k,.ref A.a,.ref B.m,.ref ln,.int (BT:Int)])(_:n≠m)(_:HH T n ρ A H st)(_:bf m ρ B H b)(_:iU 0 st b)(_:yE K ρ H a (ns.map V.int))(_:ns.length<=63)(_:0<=k)(_:k<=1000000)(_:yE K ρ H ln (nms.map V.str))(_:nms.Nodup)(_:(∀x∈nms,Cd x))(_:(∀o∈b.own,Cd o))(_:BT<=nms.length)(_:BT<=50)(_:st.nms=[])(_:b.ao=[])(_:b.fJ=[])(_:∀ρ' A' B' H' st' b',HH T n ρ' A' H' st'->bf m ρ' B' H' b'->iU 0 st' b'->A'.a=A.a->B'.m=B.m->b'.own=b.own->b'.ao.length=BT->st'.kn=st.kn->aG (out ρ H:_) (out ρ' H':_)->Q .cD H')
def Ou(T:TC)(K:Fg):Sp:=bx (aaF T K)
theorem HH.other{A:HA}(h:HH T n ρ A H st)(f:Fr m ρ H ρ' H')(g:Gh ρ' H')(e:n≠m):HH T n ρ' A H' st:=⟨g,h.h.other f h.g e,h.wf⟩
def Wz(g:iU c st b)(k:Nat):iU c { st with kn:=k } b:=⟨g.lM,⟨g.rel.own,g.rel.qd⟩,g.Kl,g.c6,g.stp,g.prod,g.bot,g.wo,g.we,g.pl,g.kl,g.own,g.nm,g.lJ,g.fJ,g.nk,g.on,g.sum⟩
theorem Km:∀(l:Da Str)(st:HS),(l.foldl gH st).kn=st.kn
 | [],_=>rfl
 | o::l,st=>by rw[lX,Km l];rfl
def Vv(ps:Da Str)(hk:∀r∈ps,PyData.strOk r=true):PyData.canLayAll0 (ps.map PyData.str)=true:=by
 induction ps with
 | nil=>rfl
 | cons q r ih=>rw[bJ];unfold PyData.canLayAll0;rw[ih λp hp=>hk p (b_ _ hp),Bool.and_true];unfold PyData.canLay0;exact hk q cg
theorem Qi(ps:Da Str):PyData.depthAll (ps.map PyData.str)<=1:=by
 induction ps with
 | nil=>exact eV _
 | cons q r ih=>rw[bJ];unfold PyData.depthAll;have:PyData.depth (.str q)<=1:=Nat.le_of_ble_eq_true rfl;omega
theorem BC(ps:Da Str)(hk:∀r∈ps,PyData.strOk r=true):SeqAt.shaped (.list (ps.map PyData.str))=true:=by unfold SeqAt.shaped PyData.canLay0 PyData.depth;rw[Vv ps hk];have:=Qi ps;simp only[Ar,decide_eq_true_eq];omega
def Vw(ps:Da Str):PyData.eqv (.list (ps.map PyData.str)) (.list (ps.map PyData.str))=true:=by
 unfold PyData.eqv
 induction ps with
 | nil=>rfl
 | cons q r ih=>rw[bJ];unfold PyData.eqvAll;rw[ih,Bool.and_true];exact XF q
theorem E9{K:Fg}{H:Hp}:∀(l:Da Str),wQ K H (l.map V.str) (l.map PyData.str)
 | []=> .nil
 | x::l=> .cons (.str x) (E9 l)
inductive aaG(d:Nat)(T:TC)(K:Fg)(vs:Da V)(H:Hp)(Q:VK)(E:XK):Prop
 |mk(n m ρ A B st b:_)(c:Nat)(_:vs=[.ref A.a,.ref B.m])(_:n≠m)(_:HH T n ρ A H st)(_:bf m ρ B H b)(_:iU c st b)(_:c<=100)(_:(∀o∈b.own,PyData.strOk o=true))(_:st.kn+15000*d<=1000000)(_:∀ρ' A' H' k,HH T n ρ' A' H' { st with kn:=k }->k<=st.kn+15000*d->bf m ρ' B H' b->A'.a=A.a->aG (out ρ H:_) (out ρ' H':_)->Q (.bl true) H')
def qw(d:Nat)(T:TC)(K:Fg):Sp:=bx (aaG d T K)
structure cR(K:Fg)(x:Str)(st:Stmt):Prop where
 ex:∃(f:Addr)(oc:Value)(od an:Option Addr)(sl:Array (Option Value))(kV dc pm cd ct:Value),PySem.W.nsIn K mainGlobals x=some (some (.ref f))/\K.lookup f=some ⟨oc,od,.func (PySem.W.fnOf x x (dY st) (cG st) (ay st) .none kV dc pm an cd ct),sl⟩/\PySem.W.codeIn K cd x=true/\PySem.W.keepIn K (.ref f)=true
def cR.at{st:Stmt}(d:cR K x st)(X:K.In h)(G:h.Ns mainGlobals mg):∃f fd,At K mg x st f fd:=by obtain⟨f,oc,od,an,sl,kV,dc,pm,cd,ct,a,l,c,k⟩:=d.ex;exact⟨f,_,Wa X G a l c k⟩
structure ef(K:Fg)(C:Addr)(n qual:Str)(st:Stmt):Prop where
 ex:∃(f:Addr)(oc:Value)(od an:Option Addr)(sl:Array (Option Value))(kV dc pm cd ct:Value),PySem.W.findIn K (.ref C) n=some (some (.ref f))/\PySem.W.isFn K (.ref f)=true/\K.lookup f=some ⟨oc,od,.func (PySem.W.fnOf n qual (dY st) (cG st) (ay st) .none kV dc pm an cd ct),sl⟩/\PySem.W.codeIn K cd qual=true/\PySem.W.keepIn K (.ref f)=true
def ef.at{n:Str}{st:Stmt}(d:ef K C n qual st)(cl:nY K C):∃f fd,ji K C n qual st f fd:=by obtain⟨f,oc,od,an,sl,kV,dc,pm,cd,ct,a,i,l,c,k⟩:=d.ex;exact⟨f,_,JD l c k,⟨a,i,k⟩,cl⟩
def ef.made{st:Stmt}(d:ef K C "__init__" qual st)(X:K.In h)(G:h.Ns mainGlobals mg)(a0:PySem.W.nsIn K mainGlobals x=some (some (.ref C)))(m:PySem.W.makesIn K C=true)(kc:PySem.W.keepIn K (.ref C)=true):∃f fd,GC K mg x C qual st f fd:=by obtain⟨f,oc,od,an,sl,kV,dc,pm,cd,ct,a,i,l,c,k⟩:=d.ex;exact⟨f,_,JD l c k,⟨m,a,i,kc⟩,ku X G a0⟩
variable {oc pm ct:Value}{od an:Option Addr}{sl:Array (Option Value)}
def cR.of{st:Stmt}{kV dc cd:Value}(a:PySem.W.nsIn K mainGlobals x=some (some (.ref f)))(l:K.lookup f=some ⟨oc,od,.func (PySem.W.fnOf x x (dY st) (cG st) (ay st) .none kV dc pm an cd ct),sl⟩)(c:PySem.W.codeIn K cd x=true)(k:PySem.W.keepIn K (.ref f)=true):cR K x st:=⟨⟨_,_,_,_,_,_,_,_,_,_,a,l,c,k⟩⟩
def ef.of{n:Str}{st:Stmt}{kV dc cd:Value}(a:PySem.W.findIn K (.ref C) n=some (some (.ref f)))(i:PySem.W.isFn K (.ref f)=true)(l:K.lookup f=some ⟨oc,od,.func (PySem.W.fnOf n qual (dY st) (cG st) (ay st) .none kV dc pm an cd ct),sl⟩)(c:PySem.W.codeIn K cd qual=true)(k:PySem.W.keepIn K (.ref f)=true):ef K C n qual st:=⟨⟨_,_,_,_,_,_,_,_,_,_,a,i,l,c,k⟩⟩
section
variable {X:Cx}
inductive ac3(K:Fg)(x:V)(y:V)(H:Hp)(Q:VK):Prop
 |mk(a b xs ys:_)(_:x =.ref a)(_:y =.ref b)(_:cz K H a xs)(_:cz K H b ys)(_:xs.length+ys.length<=sizeLine)(_:(xs=[]->Q (.ref b) H))(_:(xs≠[]->ys=[]->Q (.ref a) H))(_:(xs≠[]->ys≠[]->∀p,H p=none->Q (.ref p) (upd H p (.tup (xs++ys)))))
def E_(K:Fg)(hK:X.K=K:=by rfl):ir X (binaryOp .Add) (ac3 K):=by
 subst hK;intro AT s σ H x y v u Q I rx ry h;obtain⟨a,b,xs,ys,rfl,rfl,ha,hb,hz,q0,q1,q2⟩:=h;by_cases hx:xs=[]
 .cases rx;cases ry;obtain⟨Bi,r1,ht,_⟩:=I.tuple ha;obtain⟨its2,r2,hb',_⟩:=I.tuple hb;obtain⟨⟨cls,dd,data,sl⟩,ho,hc,n,hd⟩:=id ht;obtain⟨⟨afS,dd2,data2,sl2⟩,ho2,hc2,n2,hd2⟩:=id hb';simp only at hc hd hc2 hd2;subst hc hd hc2 hd2;exact concat_meets ⟨_,ho,Z⟩ ⟨_,ho2,Z⟩ noFill_tuple_add seq_tuple_add PySem.F.slot_tuple_add PySem.F.entry_tuple_add (PySem.F.args_tuple_add_2 _ _)
   (tuple_addW0 a b Bi.toArray its2.toArray n n2 dd dd2 sl sl2 (by rw[r1.AA.mpr hx];rfl)) ⟨ho,ho2,⟨.ref b,H,I,Z,q0 hx⟩⟩
 .exact Xi AT s σ H _ _ v u Q I rx ry ⟨a,b,xs,ys,Z,Z,ha,hb,hx,hz,q1 hx,q2 hx⟩
variable {o i:Expr}{pos:Pos}{td ty:TE}
end
def Ov(K:Fg)(hK:X.K=K:=by rfl):RB X (Zs K):=hK▸Zt
def Mz:PySem.W.kitOne K (.type "int") (.type "str")=some false:=by rfl
def Yj(xs:Da V)(k:Nat):vU xs none (some (k:Int))=xs.take k:=by
 unfold vU;rw[HT.B3,HT.wN,List.drop_zero,Nat.sub_zero];rcases Nat.le_total k xs.length with h|h
 .rw [Nat.min_eq_left h]
 .rw [Nat.min_eq_right h,bN,yQ h]
theorem SW(xs:Da V)(k:Nat):vU xs (some (k:Int)) none=xs.drop k:=by
 unfold vU;rw[HT.B3,HT.wN];rcases Nat.le_total k xs.length with h|h
 .rw [Nat.min_eq_left h];exact yQ (by rw[Jk];omega)
 .rw [Nat.min_eq_right h,CS,List.drop_of_length_le h,List.take_nil]
section
variable {a b:Da Nat}{m v:Int}(ha:o8 a)(hb:o8 b)(hm:1<=m)(hm2:m<=1000000000)(hv:0<=v)(hv2:v<=1000000000)
include ha hb hm hm2 hv hv2 in
end
section
variable {X:Cx}
end
section
variable {X:Cx}
end
inductive ac4(x:V)(y:V)(H:Hp)(Q:VK):Prop
 |mk(a b:Da Nat)(_:x =.str (tx a))(_:y =.str (tx b))(_:a.length+b.length<=10000000)(_:Q (.str (tx (a++b))) H)
theorem Yk:ir X (binaryOp .Add) ac4:=by intro AT s σ H x y v u Q I rx ry h;obtain⟨a,b,rfl,rfl,hz,q⟩:=h;exact C6 AT s σ H _ _ v u Q I rx ry ⟨tx a,tx b,Z,Z,by rw[j_,j_,eW];omega,by rw[RX];exact q⟩
def Trc(h:Heap)(x T C:Addr):Prop:=∃oe vs a0 oT ts,h.get? x=some oe/\oe.cls =.ref C/\vs[0]?=some a0/\oe.data =.fields vs/\vs[1]?=some (.ref T)/\T≠x/\h.get? T=some oT/\oT.data =.fields ts/\ts[3]?=some .none
def gf(P:Program)(w:World):yx:=λouter H s E e s'=>∃(x T C:Addr)(H':Hp),e =.ref x/\s'.os=s.os/\AllBare s'.gens/\Un (frs outer) [] H H' s.heap s'.heap/\gU P w H' s'.heap/\Trc s'.heap x T C/\s.heap.get? x=none/\s.heap.get? T=none/\H' x=none/\H' T=none/\E e (some C) H'
variable {h':Heap}
def gU.Kn{w:World}(x:gU P w H h)(k:∀b o u,H b=some o->h.get? b=some u->h'.get? b=some u):gU P w H h':=λa o e=>
 (x a o e).stay (λb u hb q=>by
  rcases hb with rfl|hb
  .exact k _ _ _ e q
  .exact k _ _ _ hb q) (λ_ q=>q) λ_ _ q=>q
def dM.isAt{w:World}(x:dM P w H h a o):∃u,h.get? a=some u:=by
 cases o with
 | lst xs=>obtain⟨_,_,_,_,e⟩:=x;exact⟨_,e⟩
 | tup xs=>obtain⟨_,_,_,p⟩:=x;obtain⟨o,e,_⟩:=p;exact⟨_,e⟩
 | dK Ap=>obtain⟨_,_,_,_,o,_,_,e,_⟩:=x;exact⟨_,e⟩
 | dT Ap=>obtain⟨_,_,_,_,o,_,_,e,_⟩:=x;exact⟨_,e⟩
 | set S n=>obtain⟨o,_,_,_,e,_⟩:=x;exact⟨_,e⟩
 | ins C dx fs=>obtain⟨_,_,_,e,_⟩:=x;exact⟨_,e⟩
 | own y=>obtain⟨_,e⟩:=x;exact⟨_,e⟩
 | xd fs=>obtain⟨_,⟨_,_,_,e,_⟩,_⟩:=x;exact⟨_,e⟩
 | vv lo hi=>obtain⟨_,_,_,e⟩:=x;exact⟨_,e⟩
 | fF ob u=>obtain⟨e,_⟩:=x;exact⟨_,e⟩
 | Gf ps=>exact⟨_,(show h.get? a=some _ from x)⟩
 | met f y=>exact⟨_,(show h.get? a=some _ from x)⟩
 | ext φ=>obtain⟨_,⟨_,e⟩,_⟩:=x;exact⟨_,e⟩
section
variable {P:Program}{w:World}{K:Fg}{mg:SO}{base:Heap}{N:Da Str}{qual:Str}{scope:Scope}{f:Addr}{cd:Value}{A:Around}{outer:Da Env}{s0:Shared}{H0:Hp}{E:XK}{CX:yx}
def Ow{x:Addr}{a0:Value}{B:Heap}(I:Inv (cK CX P w K mg base N qual scope f cd A outer s0 H0 E) AT σ H s)(hB:∀b o,s.heap.get? b=some o->b∉frs (envOfC qual scope s0.heap.objs.size f cd::outer)->s0.heap.get? b≠none\/H b≠none->B.get? b=some o)(hfl:Heap.FlyingW B outer x (.ref C) a0 h')(hup:s.heap.UpToSlots h')(hx:s0.heap.get? x=none)(BF:H x=none)(q:E (.ref x) (some C) H):gf P w outer H0 s0 E (.ref x) { s with heap:=h' }:=by
 obtain⟨st,bx,fr,oe,vs,T,oT,ts,h1,⟨h2,h3⟩,h4,h5,h6,h7,h8,h9,yF⟩:=hfl
 have IV:T∉frs outer:=λm=>by obtain⟨_,o,ho,hd⟩:=fr.mem m;rw[h8]at ho;cases ho;exact hd _ h9
 have L0:s0.heap.get? s0.heap.objs.size=none:=Heap.get?_none_of_le (aN _)
 have big:∀b o,s0.heap.get? b=some o->b∉frs outer->b∉frs (envOfC qual scope s0.heap.objs.size f cd::outer):=λb o e n m=>by
  have m':b∈s0.heap.objs.size::frs outer:=m;rcases cJ.mp m' with z|z
  .rw [z,L0]at e;cases e
  .exact n z
 have hT0:s0.heap.get? T=none:=by
  cases e:s0.heap.get? T with
  | none=>rfl
  | some o=>obtain⟨o',ho'⟩:=I.base.there T o e (by simp[cK]);have:=hB T o' ho' (big T o e IV) (.inl (by rw[e];exact λz=>nomatch z));rw[h6]at this;cases this
 have zU:H T=none:=by
  cases e:H T with
  | none=>rfl
  | some o=>
   have lt:=I.hok.lt e;have nst:T∉frs (envOfC qual scope s0.heap.objs.size f cd::outer):=λm=>by have:=I.wI T m;rw[e]at this;cases this
   have hob:∃u,s.heap.get? T=some u:=(I.hok T o e).isAt;obtain⟨u,hu⟩:=hob;have:=hB T u hu nst (.inr (by rw[e];exact λz=>nomatch z));rw[h6]at this;cases this
 refine⟨x,T,C,H,Z,I.os,I.bare,⟨λb o e n nf _=>?_,λb o e n m _=>?_,λb o e n _=>?_,λb o e _=>?_,I.base.tups,I.base.mO,I.base.oU⟩,?_,⟨oe,vs,a0,oT,ts,h1,h2,h3,h4,h5,h7,h8,h9,yF⟩,hx,hT0,BF,zU,q⟩
 . exact st b o (hB b o (I.base.keep b o e n nf (by simp[cK])) (big b o e nf) (.inl (by rw[e];exact λz=>nomatch z)))
 . obtain⟨sl,hs⟩:=I.base.slot b o e n m (by simp[cK])
   have fr0:=I.ok.nJ
   obtain⟨_,o',ho',hd'⟩:=fr0.mem m
   obtain⟨Jq,hs'⟩:=hup b _ hs (λvs z=>by have ho2:s0.heap.get? b=some o':=ho';rw[e]at ho2;cases ho2;exact hd' vs z)
   exact⟨Jq,hs'⟩
 . exact I.base.free b o e n (by simp[cK])
 . obtain⟨o',ho'⟩:=I.base.there b o e (by simp[cK])
   by_cases m:b∈frs outer
   . have fr0:=I.ok.nJ
     obtain⟨_,o2,ho2,hd2⟩:=fr.mem m
     exact⟨o2,ho2⟩
   . exact⟨o',st b o' (hB b o' ho' (big b o e m) (.inl (by rw[e];exact λz=>nomatch z)))⟩
 . exact I.hok.Kn λb o u e hu=>st b u (hB b u hu (λm=>by have:=I.wI b m;rw[e]at this;cases this) (.inr (by rw[e];exact λz=>nomatch z)))
def Vx{x T:Addr}(I:Inv (cK (gf P w) P w K mg base N qual scope f cd A outer s0 H0 E) AT σ H s)(t:Trc s.heap x T C)(hx:s0.heap.get? x=none)(hT:s0.heap.get? T=none)(BF:H x=none)(zU:H T=none)(q:E (.ref x) (some C) H):(cK (gf P w) P w K mg base N qual scope f cd A outer s0 H0 E).xe (.ref x) s:=by
 obtain⟨oe,vs,a0,oT,ts,h1,h2,h3,h4,h5,h6,h7,h8,h9⟩:=t
 have hst:=I.stack
 have Vy:s.heap.FunFrames base (envOfC qual scope s0.heap.objs.size f cd::outer):=hst
 have hin:∀env∈(envOfC qual scope s0.heap.objs.size f cd::outer),∀b,env.frame=some b->b∈x::T::frs (envOfC qual scope s0.heap.objs.size f cd::outer):=λenv he b hb=>b_ _ (b_ _ (EK.mpr ⟨env,he,hb⟩))
 refine wpAny_leaves_onW (base:=PySem.W.hideAll s.heap (x::T::frs (envOfC qual scope s0.heap.objs.size f cd::outer))) (L:=s0.heap.objs.size) (cls:=.ref C) (a0:=a0) (outer:=outer) I.ok.frames rfl ⟨λb o e=>O6 _ e,Je _ cg,PySem.W.funFrames_hide Vy hin,oe,vs,T,oT,ts,h1,⟨h2,h3⟩,h4,h5,Je _ (b_ _ cg),h6,h7,h8,h9⟩ λh' fl up=>?_
 refine Ow I (λb o e n hb=>O5 _ e λm=>?_) fl up hx BF q
 rcases cJ.mp m with z|m
 . rw[z]at hb
   rcases hb with hb|hb
   . exact hb hx
   . exact hb BF
 . rcases cJ.mp m with z|m
   . rw[z]at hb
     rcases hb with hb|hb
     . exact hb hT
     . exact hb zU
   . exact n m
def WA:Passes (gf P w) (cK (gf P w) P w K mg base N qual scope f cd A outer s0 H0 E) E:=λAT σ H s e s' I h=>by
 obtain⟨x,T,C,H',rfl,os,bare,un,hok,t,hx,hT,BF,zU,q⟩:=h;have I':Inv (cK (gf P w) P w K mg base N qual scope f cd A outer s0 H0 E) AT σ H' s':=I.IK (ch:=[]) os un hok bare (λb z=>absurd z (by simp));have old:∀b,s.heap.get? b=none->s0.heap.get? b=none:=λb e=>by
  cases q:s0.heap.get? b with
  | none=>rfl
  | some o=>obtain⟨o',ho'⟩:=I.base.there b o q (by simp[cK]);rw[e]at ho';cases ho'
 exact Vx I' t (old x hx) (old T hT) BF zU q
def Qj{x:Addr}{args:Da Value}(I:Inv (cK (gf P w) P w K mg base N qual scope f cd A outer s0 H0 E) AT σ H s)(hm:Heap.MadeExcOf s.heap h1 x (.ref C) args)(q:E (.ref x) (some C) H):(cK (gf P w) P w K mg base N qual scope f cd A outer s0 H0 E).xe (.ref x) { s with heap:=h1 }:=by
 have Vy:s.heap.FunFrames base (envOfC qual scope s0.heap.objs.size f cd::outer):=I.stack
 have hin:∀env∈(envOfC qual scope s0.heap.objs.size f cd::outer),∀b,env.frame=some b->b∈frs (envOfC qual scope s0.heap.objs.size f cd::outer):=λenv he b hb=>EK.mpr ⟨env,he,hb⟩
 have I1:Inv (cK (gf P w) P w K mg base N qual scope f cd A outer s0 H0 E) AT σ H { s with heap:=h1 }:=I.kept (t':=s.toks) hm.keeps
 have BF:H x=none:=by
  cases e:H x with
  | none=>rfl
  | some o=>obtain⟨u,hu⟩:=(I.hok x o e).isAt;rw[hm.new]at hu;cases hu
 have SX:s0.heap.get? x=none:=by
  cases e:s0.heap.get? x with
  | none=>rfl
  | some o=>obtain⟨o',ho'⟩:=I.base.there x o e (by simp[cK]);rw[hm.new]at ho';cases ho'
 refine wpAny_leaves_madeW (base:=PySem.W.hideAll s.heap (frs (envOfC qual scope s0.heap.objs.size f cd::outer))) (h:=s.heap) (L:=s0.heap.objs.size) (outer:=outer) I.ok.frames rfl (λb o e=>O6 _ e) (PySem.W.funFrames_hide Vy hin) hm λh' t fl _ _ up=>?_
 refine Ow I1 (λb o e n hb=>O5 _ ?_ n) fl up SX BF q
 rcases hb with hb|hb
 . cases e0:s0.heap.get? b with
   | none=>exact absurd e0 hb
   | some o0=>
     obtain⟨o',ho'⟩:=I.base.there b o0 e0 (by simp[cK])
     have e':h1.get? b=some o:=e
     have:=hm.keeps b o' ho'
     rw[e']at this;cases this
     exact ho'
 . cases e0:H b with
   | none=>exact absurd e0 hb
   | some o0=>
     obtain⟨o',ho'⟩:=(I.hok b o0 e0).isAt
     have e':h1.get? b=some o:=e
     have:=hm.keeps b o' ho'
     rw[e']at this;cases this
     exact ho'
end
def aaI:Da Value:=[.type "ValueError",.type "Exception",.type "BaseException",.type "object"]
structure kP(K:Fg)(C:Addr):Prop where
 ex:∃(nm q:Str)(N:Addr)(bs bm:Da Value)(hdct:Bool)(sn:Da Str)(sub:Da Value)(ab:Bool)(col:Option Bool)(dd:Option Addr)(k0 k1 k2 k3 k5:Option Value)(mN:SO),mN "__init__"=none/\bm.contains (.type "BaseException")=true/\∀h:Heap,K.In h->
  h.get? C=some (excClassObj nm q C N bs bm hdct sn sub ab col dd k0 k1 k2 k3 k5 "ValueError.__new__")/\h.Ns N mN/\OwnTail h aaI bm
section
variable {P:Program}{w:World}{K:Fg}{mg:SO}{base:Heap}{N:Da Str}{qual:Str}{scope:Scope}{f:Addr}{cd:Value}{A:Around}{outer:Da Env}{s0:Shared}{H0:Hp}{E:XK}
def aaJ(C:Addr)(E:XK):TS:=λ_ _ H=>∀x,E (.ref x) (some C) H
structure Dx(P:Program)(w:World)(K:Fg)(mg:SO)(base:Heap)(k:Nat)(x:Str)(ps:Da Str)(sp:Sp):Prop where
 ex:∃f fd,iz P w K mg base (gf P w) k f fd ps sp/\Binds K fd ps []/\PySem.W.keepIn K (.ref f)=true/\mg x=some (.ref f)
def At.okX{st:Stmt}{f:Addr}{N:Da Str}{k:Nat}(F:At K mg x st f fd)(S:aK N ps (ay st))(len:∀vs H Q E,sp vs H Q E->vs.length=ps.length)(Ch:∀(cdv:Value) (A:Around) (outer:Da Env) (s:Shared) (H:Hp) (vs:Da V) (Q:VK) (E:XK),dj k (A.deeper (envOfC x (ay st) s.heap.objs.size f cdv))->sp vs H Q E->
    ∃t,qf (cK (gf P w) P w K mg base N x (ay st) f cdv A outer s H E) (cG st) t/\t { nx:=λ_ H'=>Q .cD H',rt:=Q } (start N vs) H)(h:∀(kV doc pm:Value) (an:Option Addr) (cdv ct:Value) (us:Da Value),us.length=ps.length->bindArgs (PySem.W.fnOf x x (dY st) (cG st) (ay st) .none kV doc pm an cdv ct) ⟨us,[]⟩=pure (ps.zip us)):
  Dx P w K mg base (k+1) x ps sp:=by
 refine⟨f,fd,?_,F.fn.binds h,F.fn.kp,F.name⟩
 obtain⟨oc,od,kV,doc,pm,an,cdv,ct,osl,rfl,lk,hcd⟩:=F.fn.ex
 exact Px lk hcd S len λA outer s H vs Q E hr oX=>Ch cdv A outer s H vs Q E hr oX
end
def agc(h:Heap)(x T C:Addr)(fl:Value):Prop:=∃oe vs a0 oT ts,h.get? x=some oe/\oe.cls =.ref C/\vs[0]?=some a0/\oe.data =.fields vs/\vs[1]?=some (.ref T)/\T≠x/\h.get? T=some oT/\oT.data =.fields ts/\ts[3]?=some fl
structure uF(X:Cx)(AT:AO)(σ:St)(Hc:Hp)(sc:Shared)(H:Hp)(x C:Addr)(fl:Value)(s:Shared):Prop where
 ic:Inv X AT σ Hc sc
 os:s.os=sc.os
 bare:AllBare s.gens
 un:Un (frs X.stack) [] Hc H sc.heap s.heap
 hok:gU X.prog X.w H s.heap
 nx:sc.heap.get? x=none
 hx:H x=none
 tr:∃T,agc s.heap x T C fl/\sc.heap.get? T=none/\H T=none
variable {M:Model}{A:Around}{Q:Unit->Shared->Prop}
section
variable {X:Cx}{AT:AO}{σ:St}{Hc H:Hp}{sc s:Shared}{x C:Addr}{fl:Value}
def uF.inv(F:uF X AT σ Hc sc H x C fl s):Inv X AT σ H s:=F.ic.IK (ch:=[]) F.os F.un F.hok F.bare (λb z=>absurd z (by simp))
def uF.step{B:Heap}{fl' a0:Value}(F:uF X AT σ Hc sc H x C fl s)(hB:∀b o,s.heap.get? b=some o->b∉frs X.stack->sc.heap.get? b≠none\/H b≠none->B.get? b=some o)(st:B.StaysIn h')(fr:h'.FunFrames B X.stack)(tr:h'.TracedAtW B x (.ref C) a0 fl')(up:s.heap.UpToSlots h'):uF X AT σ Hc sc H x C fl' { s with heap:=h' }:=by
 have I:=F.inv
 obtain⟨oe,vs,T,oT,ts,h1,⟨h2,h3⟩,h4,h5,h6,h7,h8,h9,yF⟩:=tr
 have IV:T∉frs X.stack:=λm=>by obtain⟨_,o,ho,hd⟩:=fr.mem m;rw[h8]at ho;cases ho;exact hd _ h9
 have hT0:sc.heap.get? T=none:=by
  cases e:sc.heap.get? T with
  | none=>rfl
  | some o=>obtain⟨o',ho'⟩:=F.un.there T o e (by simp);have:=hB T o' ho' IV (.inl (by rw[e];exact λz=>nomatch z));rw[h6]at this;cases this
 have zU:H T=none:=by
  cases e:H T with
  | none=>rfl
  | some o=>obtain⟨u,hu⟩:=(F.hok T o e).isAt;have:=hB T u hu IV (.inr (by rw[e];exact λz=>nomatch z));rw[h6]at this;cases this
 refine⟨F.ic,F.os,F.bare,⟨λb o e n nf _=>?_,λb o e n m _=>?_,F.un.free,λb o e _=>?_,F.un.tups,F.un.mO,F.un.oU⟩,?_,F.nx,F.hx,T,⟨oe,vs,a0,oT,ts,h1,h2,h3,h4,h5,h7,h8,h9,yF⟩,hT0,zU⟩
 . exact st b o (hB b o (F.un.keep b o e n nf (by simp)) nf (.inl (by rw[e];exact λz=>nomatch z)))
 . obtain⟨sl,hs⟩:=F.un.slot b o e n m (by simp)
   obtain⟨_,o',ho',hd'⟩:=F.ic.stack.mem m
   obtain⟨Jq,hs'⟩:=up b _ hs (λvs z=>by rw[e]at ho';cases ho';exact hd' vs z)
   exact⟨Jq,hs'⟩
 . obtain⟨o',ho'⟩:=F.un.there b o e (by simp)
   by_cases m:b∈frs X.stack
   . obtain⟨_,o2,ho2,hd2⟩:=fr.mem m
     exact⟨o2,ho2⟩
   . exact⟨o',st b o' (hB b o' ho' m (.inl (by rw[e];exact λz=>nomatch z)))⟩
 . exact F.hok.Kn λb o u e hu=>st b u (hB b u hu (λm=>by have:=I.wI b m;rw[e]at this;cases this) (.inr (by rw[e];exact λz=>nomatch z)))
def uF.hid(F:uF X AT σ Hc sc H x C fl s):∃(a0:Value)(B:Heap),(∀b o,s.heap.get? b=some o->b∉frs X.stack->sc.heap.get? b≠none\/H b≠none->B.get? b=some o)/\B.StaysIn s.heap/\B.get? x=none/\s.heap.FunFrames B X.stack/\s.heap.TracedAtW B x (.ref C) a0 fl:=by
 obtain⟨T,⟨oe,vs,a0,oT,ts,h1,h2,h3,h4,h5,h6,h7,h8,h9⟩,hT,zU⟩:=F.tr;have hin:∀env∈X.stack,∀b,env.frame=some b->b∈x::T::frs X.stack:=λenv he b hb=>b_ _ (b_ _ (EK.mpr ⟨env,he,hb⟩));refine⟨a0,PySem.W.hideAll s.heap (x::T::frs X.stack),λb o e n hb=>O5 _ e λm=>?_,λb o e=>O6 _ e,Je _ cg,PySem.W.funFrames_hide F.inv.stack hin,oe,vs,T,oT,ts,h1,⟨h2,h3⟩,h4,h5,Je _ (b_ _ cg),h6,h7,h8,h9⟩;rcases cJ.mp m with z|m
 .rw [z]at hb;rcases hb with hb|hb
  .exact hb F.nx
  .exact hb F.hx
 .rcases cJ.mp m with z|m
  .rw [z]at hb;rcases hb with hb|hb
   .exact hb hT
   .exact hb zU
  .exact n m
def Vz(F:uF X AT σ Hc sc H x C .none s)(hA:A.frames=some X.stack)(hs:X.stack=X.env::X.outer)(hf:X.env.frame=some X.env.locals)(h:∀s',uF X AT σ Hc sc H x C (rawInt X.env.locals) s'->Q () s'):wpAny M A (noteFrame (.ref x) X.env) Q E s:=by
 obtain⟨a0,B,hB,st,bx,fr,tr⟩:=F.hid
 rw[hs]at fr hA
 refine wpAny_looks_onW (base:=B) hA hf ⟨st,bx,fr,tr⟩ λh' hh up=>?_
 obtain⟨k1,k2,k3,k4⟩:=hh
 rw[<-hs]at k3
 exact h _ (F.step hB k1 k3 k4 up)
def Ko(F:uF X AT σ Hc sc H x C fl s)(h:∀s',uF X AT σ Hc sc H x C .none s'->Q () s'):wpAny M A (setFlight (.ref x) none) Q E s:=by
 obtain⟨a0,B,hB,st,bx,fr,tr⟩:=F.hid
 refine wpAny_setFlight_noneW (base:=B) st fr tr λh' k1 k2 k3 k4=>h _ (F.step hB k1 k2 k3 λb o hb hn=>⟨o.slots,k4 b o hb hn⟩)
end
def Cm(x C:Addr):HO:=.ext λh=>∃o,h.get? x=some o/\o.cls =.ref C
variable {e:Expr}{es:Da Expr}{t':Nat}
section
variable {X:Cx}{AT:AO}{σ:St}{Hc H:Hp}{sc s:Shared}{x C:Addr}{fl:Value}
theorem ac5{k:Nat}{g:Str}{t:TA}{p:Pos}(D:Dx X.prog X.w X.K X.mg X.base j g ps sp)(hr:dj k X.A)(hno:∀e s,X.xe e s->False)(ha:PA X (e::es) t)(hj:j<=k)(hg:Gl X g)(hdb:(g==("__debug__":Str))=false)(he:starEach (e::es) X.env=(false,eval e X.env)::starEach es X.env)(hpl:(backTo pos (starEach es X.env)).any (·.1)=false){Q:VK}{R:Addr->Hp->Prop}(I:Inv X AT σ H s)(h:t σ H λvs H1=>sp (vs++[]) H1 Q λ_ c H'=>∃C,c=some C/\R C H'):
  wpAny (model X.prog X.w) X.A (eval (.Call (.Name g p) (e::es) [] pos) X.env) (EP X AT σ Q) (λev s'=>∃x C Hc sc H',ev =.ref x/\uF X AT σ Hc sc H' x C .none s'/\R C H') s:=by
 obtain⟨f,fd,F,hb,kp,m⟩:=D.ex
 refine EL (qo I hg m ?_ hdb)
 refine O7 (h₀:=X.base) I.ok.mod.NB kp (gX (ha pos AT s σ H _ I h) (λus s1 ⟨vs,H1,I1,r,q⟩=>⟨I1.iQ,?_⟩) λ_ _ z=>(hno _ _ z).elim) he hpl
 have r2:Vals (vs++[]) (us++[]):=r.append .nil
 have hl:(us++[]).length=ps.length:=by rw[<-r2.length];exact F.len _ _ _ _ q
 refine wpAny_call (As (F.run X.A X.stack s1 H1 ⟨us,[]⟩ (us++[]) (vs++[]) Q _ (hr.mono hj) I1.UD (hb s1 us I1.iQ hl) r2 q) λr s' hq=>?_)
 cases r with
 | error e=>
   have hq':gf X.prog X.w X.stack H1 s1 (λ_ c H'=>∃C,c=some C/\R C H') e s':=hq
   obtain⟨x,T,C,H',rfl,os,bare,un,hok,tr,hx,hT,BF,zU,C',ec,hR⟩:=hq'
   cases ec
   exact⟨x,C,H1,s1,H',Z,⟨I1,os,bare,un,hok,hx,BF,T,tr,hT,zU⟩,hR⟩
 | ok fl=>
   cases fl with
   | ret u=>exact I1.after hq
   | next=>exact False.elim hq
   | brk=>exact False.elim hq
   | cont=>exact False.elim hq
abbrev Cx.held(X:Cx)(x:Addr):Cx:={ X with A:=X.A.mark (some (.ref x)),calm:=false }
theorem Inv.held(I:Inv X AT σ H s)(x:Addr):Inv (X.held x) AT σ H s:=⟨⟨I.ok.mod,I.ok.kind,I.ok.glob,I.ok.blt,I.ok.above,I.ok.inj,I.ok.has,I.ok.gW,(λz=>nomatch z),I.ok.frames,I.ok.stk,I.ok.Jo,I.ok.bs,I.ok.CZ,I.ok.ER,I.ok.BW,I.ok.nJ,I.ok.Gg⟩,I.os,I.bare,I.base,I.loc,I.cell,I.free,I.jI,I.pin,I.hok,I.len⟩
def uF.known(F:uF X AT σ Hc sc H x C fl s):Inv X AT σ (upd H x (Cm x C)) s:=by
 have I:=F.inv;have ne:∀{b o},sc.heap.get? b=some o->b≠x:=λe z=>by rw[z,F.nx]at e;cases e
 have ne0:∀{b o},X.s₀.heap.get? b=some o->b∉X.ex->b≠x:=λ{b o} e n=>by obtain⟨o',ho'⟩:=F.ic.base.there b o e n;exact ne ho'
 have SY:∀{b o},H b=some o->b≠x:=λe z=>by rw[z,F.hx]at e;cases e
 obtain⟨T,⟨oe,vs,a0,oT,ts,h1,h2,_⟩,_⟩:=F.tr;refine⟨I.ok,I.os,I.bare,⟨I.base.keep,I.base.slot,λb o e n nx=>?_,I.base.there,λb xs e=>?_,λb o u e=>?_,λb ps e=>?_⟩,I.loc,I.cell,?_,λy c e=>?_,λp hp=>?_,λb o e=>?_,I.len⟩
 .rw [av (ne0 e nx)];exact I.base.free b o e n nx
 .have z:=I.base.tups b xs e;rw[av (SY z)];exact z
 .have z:=I.base.mO b o u e;rw[av (SY z)];exact z
 .obtain ⟨more,z⟩:=I.base.oU b ps e;exact⟨more,by rw[av (SY z)];exact z⟩
 .obtain ⟨m,⟨o,_,_,ho,_⟩,_⟩:=F.ic.loc;rw[av (ne ho)];exact I.free
 .obtain ⟨v,o,ho,_⟩:=F.ic.cell y c e;rw[av (ne ho)];exact I.jI y c e
 .obtain ⟨a,b,c⟩:=I.pin p hp;obtain⟨a',_⟩:=F.ic.pin p hp;exact⟨a,by rw[av (ne a')];exact b,c⟩
 .by_cases z:b=x
  .subst z;rw[ah]at e;cases e;exact⟨⟨oe,h1,h2⟩,⟨oe,h1⟩,λh1 h2 ⟨o,a,c⟩ k=>⟨o,k o a,c⟩⟩
  .rw [av z]at e;exact(F.hok b o e).stay (λ_ _ _ q=>q) (λc q=>by rw[av (SY q)];exact q) λc xs q=>by rw[av (SY q)];exact q
def Inv.gone{n:Str}{v:Option Value}{m:SO}(I:Inv X AT σ H s)(hN:X.N.Nodup)(hj:X.N[j]?=some n)(hm:s.heap.Ns X.env.locals m)(hl:∀(i:Nat) (x:Str) (v:V),X.N[i]?=some x->σ[i]?=some (some v)->Rh X.env.scope x->∃u,RelV v u/\Look X.env s.heap m x u)(hn:h'.Ns X.env.locals (λx=>if x=n then v else m x))(hs:Heap.SameBut X.env.locals s.heap h'):Inv X AT (σ.set j none) H { s with heap:=h',toks:=t' }:=by
 have NC:∀b o,X.s₀.heap.get? b=some o->b≠X.env.locals:=λb o e=>dW (kU (bK e) I.ok.above)
 have kp:∀b o,b≠X.env.locals->s.heap.get? b=some o->h'.get? b=some o:=λb o ne e=>(hs.2 b ne).trans e
 have cellK:∀x c,X.env.cells.lookup x=some c->∀v,s.heap.IsCell c v->h'.IsCell c v:=λx c e v ⟨o,ho,hd⟩=>⟨o,kp c o (I.Gi x c e) ho,hd⟩
 refine⟨I.ok,I.os,I.bare,⟨λb o e n hb hx=>kp b o (NC b o e) (I.base.keep b o e n hb hx),λb o e n hb hx=>?_,I.base.free,λb o e hx=>?_,I.base.tups,I.base.mO,I.base.oU⟩,?_,λx c e=>?_,I.free,I.jI,λp hp=>?_,?_,by rw[lg];exact I.len⟩
 . obtain⟨sl,e1⟩:=I.base.slot b o e n hb hx
   exact⟨sl,kp b _ (NC b o e) e1⟩
 . obtain⟨o',e1⟩:=I.base.there b o e hx
   exact⟨o',kp b o' (NC b o e) e1⟩
 . refine⟨_,hn,λi y w e1 e2 e3=>?_⟩
   by_cases z:i=j
   . subst z
     rw[List.getElem?_set_self']at e2
     cases q:σ[i]? with
     | none=>rw[q]at e2;cases e2
     | some a=>rw[q]at e2;cases e2
   . rw[yR (cy z)]at e2
     obtain⟨u,r,l⟩:=hl i y w e1 e2 e3
     refine⟨u,r,?_⟩
     rcases l with⟨k,l⟩|⟨k,c,e,zc⟩
     . have hne:y≠n:=λq=>z (xQ hN e1 (q▸hj))
       exact .inl ⟨k,by show(if y=n then v else m y)=some u;rw[aB hne];exact l⟩
     . exact .inr ⟨k,c,e,cellK y c e _ zc⟩
 . obtain⟨v,z⟩:=I.cell x c e
   exact⟨v,cellK x c e v z⟩
 . obtain⟨e,n,ne,nf,d⟩:=I.pin p hp
   exact⟨kp p.1 p.2 ne e,n,ne,nf,d⟩
 . exact I.hok.Kn λb o u e hu=>kp b u (λz=>by rw[z,I.free]at e;cases e) hu
end
def FX(X:Cx)(AT:AO)(R:Addr->St->Hp->Prop)(ev:Value)(s:Shared):Prop:=∃x C σ Hc sc H',ev =.ref x/\uF X AT σ Hc sc H' x C .none s/\R C σ H'
abbrev TX:=Ends->(Addr->St->Hp->Prop)->St->Hp->Prop
def PX(X:Cx)(st:Da Stmt)(t:TX):Prop:=∀(AT:AO)(s:Shared)(σ:St)(H:Hp)(D:Ends)(R:Addr->St->Hp->Prop),Inv X AT σ H s->t D R σ H->wpAny (model X.prog X.w) X.A (execs st X.env) (SP X AT D) (FX X AT R) s
def ac6(sp:Sp)(t:TA):TX:=λD R σ H=>t σ H λvs H1=>sp (vs++[]) H1 (λv H'=>v =.cD/\D.nx σ H') λ_ c H'=>∃C,c=some C/\R C σ H'
def agd(K:Fg)(J:Addr)(j:Nat)(t:TX)(u:TS):TS:=λD σ H=>
 t D (λC σ' H'=>PySem.W.exmOne K (.ref C) (.ref J)=some true/\∀x,H' x=none->u { nx:=λσ2 H2=>D.nx (σ2.set j none) H2,rt:=D.rt,bk:=λσ2 H2=>D.bk (σ2.set j none) H2,ct:=λσ2 H2=>D.ct (σ2.set j none) H2 } (σ'.set j (some (.ref x))) (upd H' x (Cm x C))) σ H
section
variable {X:Cx}{AT:AO}{σ:St}{Hc H:Hp}{sc s:Shared}{x C:Addr}{fl:Value}
def Inv.aaL(I':Inv (X.held x) AT σ H s)(ok:X.Ok):Inv X AT σ H s:=⟨ok,I'.os,I'.bare,I'.base,I'.loc,I'.cell,I'.free,I'.jI,I'.pin,I'.hok,I'.len⟩
end
open PySem.W PySem.Calls Builtin.ObjectAttr Builtin.Getset_descriptor
structure nc(K:Frag)(C:Addr):Prop where
 ga:findIn K (.ref C) "__getattribute__"=some (some (.builtin "BaseException.__getattribute__"))
 gn:findIn K (.ref C) "__getattr__"=some none
 ca:findIn K (.ref C) "__class__"=some (some (.builtin "object.__class__"))
 mo:mroIn K C (.type "object")=some true
 mb:mroIn K C (.type "BaseException")=some true
 is:(clsIn K C).isSome=true
section
variable {prog:Program}{w:World}{A:Around}{E:VS}{h:Heap}{g:Array GenState}{d:Drawn}{t:Nat}{os:OsState}{x C:Addr}{o:Obj}{K:Frag}{R:Result->Shared->Prop}
def DU(hx:h.get? x=some o)(hc:o.cls =.ref C):Looks M h (typeOf (.ref x)) (.ref C):=hc▸(Looks.ld hx).andThen .now
def aaM{tp:Value}(X:K.In h)(ec:nc K C)(hx:h.get? x=some o)(hc:o.cls =.ref C)(hq:R (.ok (.ret (.ref C))) ⟨h,g,d,t,os⟩):codeAny (model prog w) A (.call (.builtin "getset_descriptor.__get__") ⟨[.builtin "object.__class__",.ref x,tp],[]⟩) R ⟨h,g,d,t,os⟩:=by
 have L0:=DU (M:=model prog w) hx hc;have L1:=looks_mroIn (M:=model prog w) X ec.mo;refine codeAny_call_builtin KF.slot_gs.plain KF.entry_gs (KF.slot_gs.check _ _ _ _ _ _ _ _ KF.type_class (KF.args_gs _ _ _) ?_);unfold Builtin.«getset_descriptor.__get__» descrGet;rw[dga_obj];refine aq (aJ ?_);unfold descrGetter descrCheckInstance descrNameAndClass isInstance;simp only[KF.owner_class];repeat lk
 refine⟨Code.quiet_builtin _ (by decide +kernel),codeAny_builtin KF.entry_class ?_⟩;unfold Builtin.«object.__class__» shownTypeOf;repeat lk
 exact hq
def VA{tk:Tok}{Q:Fin->Shared->Prop}(X:K.In h)(ec:nc K C)(hx:h.get? x=some o)(hc:o.cls =.ref C)(hq:Q (.done (.ret (.ref C))) ⟨h,g,d,t,os⟩):wpAny (model prog w) A (Builtin.«object.__getattribute__» ⟨[.ref x,.str "__class__" tk],[]⟩) Q E ⟨h,g,d,t,os⟩:=by
 have L0:=DU (M:=model prog w) hx hc;have L1:=looks_findIn (M:=model prog w) X ec.ca;have hT5:(⟨h,g,d,t,os⟩:Shared).TypeIs (.builtin "object.__class__") "getset_descriptor":=F.typeOf_object_class;have f5:=F.typeOf_object_class;have f6:=F.slot_gs_get.lookup;have f7:=F.slot_gs_set.lookup;repeat (any_goals (first|assumption|with_reducible refine Looks.at L0 ?_|with_reducible refine Looks.at L1 ?_|wp_step))
 refine aaM X ec hx hc ?_;repeat (any_goals (first|assumption|wp_step))
def VB{nameV:Value}(X:K.In h)(ec:nc K C)(hx:h.get? x=some o)(hc:o.cls =.ref C)(hq:Q () ⟨h,g,d,t,os⟩):wpAny M A (checkBuiltinCall "BaseException.__getattribute__" ⟨[.ref x,nameV],[]⟩) Q E ⟨h,g,d,t,os⟩:=by
 have hk:builtinKind "BaseException.__getattribute__"=some .slot:=by decide +kernel
 have hsplit:splitId "BaseException.__getattribute__"=some ("BaseException","__getattribute__"):=by decide +kernel
 have L0:=DU (M:=M) hx hc;have L1:=looks_mroIn (M:=M) X ec.mb;have ha:=F.args_bexc_ga (.ref x) nameV;simp only[checkBuiltinCall,hk,hsplit];refine aq ?_
 .unfold isInstance;repeat (first|with_reducible refine Looks.at L0 ?_|with_reducible refine Looks.at L1 ?_|wp_step)
  exact hq
def Yl{tk:Tok}(X:K.In h)(ec:nc K C)(hx:h.get? x=some o)(hc:o.cls =.ref C)(hq:R (.ok (.ret (.ref C))) ⟨h,g,d,t,os⟩):codeAny (model prog w) A (.call (.builtin "BaseException.__getattribute__") ⟨[.ref x,.str "__class__" tk],[]⟩) R ⟨h,g,d,t,os⟩:=codeAny_call_builtin F.excAttr_ValueError.ga.plain F.entry_bexc_ga (VB X ec hx hc (VA X ec hx hc hq))
def ac7{tk:Tok}{fill expr:Bool}{Q:VS}(X:K.In h)(ec:nc K C)(hx:h.get? x=some o)(hc:o.cls =.ref C)(hq:Q (.ref C) ⟨h,g,d,t,os⟩):wpAny (model prog w) A (getAttrBy (.ref x) (.str "__class__" tk) fill expr) Q E ⟨h,g,d,t,os⟩:=by
 have L0:=DU (M:=model prog w) hx hc;have L1:=looks_findIn (M:=model prog w) X ec.ga;have L2:=looks_findIn (M:=model prog w) X ec.gn;have f3:=F.excAttr_ValueError.ga.bind (.ref x);have SX:(expr && onTheHeap (Value.builtin "BaseException.__getattribute__"))=false:=by cases expr <;> rfl
 have hx2:(Value.builtin "BaseException.__getattribute__"==Value.builtin "object.__getattribute__")=false:=by decide +kernel
 have S0:(onTheHeap (Value.ref C) && Value.builtin "BaseException.__getattribute__"==Value.builtin "object.__getattribute__")=false:=by rw[hx2];rfl
 repeat (any_goals (first|assumption|with_reducible refine Looks.at L0 ?_|with_reducible refine Looks.at L1 ?_|with_reducible refine Looks.at L2 ?_|wp_step))
 refine Yl X ec hx hc ?_;repeat (any_goals (first|assumption|wp_step))
def Ym{Q:Option Value->Shared->Prop}(X:K.In h)(ec:nc K C)(hx:h.get? x=some o)(hc:o.cls =.ref C)(hq:Q (some (.ref C)) ⟨h,g,d,t+1,os⟩):wpAny (model prog w) A (getAttr? (.ref x) "__class__") Q E ⟨h,g,d,t,os⟩:=by unfold getAttr? getAttrBy?;repeat (any_goals (first|assumption|with_reducible apply ac7 X ec hx hc|wp_step))
def VC(ec:nc K C):KitX K (.ref x) (.ref C) (λh=>∃o,h.get? x=some o/\o.cls =.ref C) where
 ty:=λ_ _ _ ⟨o,hx,hc⟩=>DU hx hc
 it:=λ_ _ X _=>by
  have:=ec.is;unfold clsIn at this;split at this
  .rename_i c' d' cd' Jq ho;intro A' Q' E' s' k q;unfold isType loadHead;exact aq (wpAny_loadPart (k _ _ (X _ _ ho)) (aJ q))
  .cases this
 ne:=λh tp dd Bi n sl X htp=>by
  have:=ec.is;refine jB.mpr λq=>?_;have e:C=tp:=Value.ref.inj (lq.mp q);subst e;unfold clsIn at this;split at this
  .rename_i c' d' cd' Jq ho;have z:=(X _ _ ho).symm.trans htp;cases z
  .cases this
 ca:=λ{_ _ _ _ _ s} X ⟨o,hx,hc⟩ k=>by obtain⟨h,g,d,t,os⟩:=s;exact Ym X ec hx hc k
end
theorem Kq{K:Frag}{bmB:Da Value}{x:Value}(hb:bmB.contains x=true):∀{l:Da Value},tailIn K bmB l=true->l.contains x=true
 | [],e=>by rw[lq.mp (show(bmB==[])=true from e)]at hb;exact hb
 | v::r,e=>by
  unfold tailIn at e;rcases EI.mp e with q|q
  .rw [lq.mp q];exact hb
  .split at q
   .split at q
    .simp only[BV]at q;rw[List.contains_cons,Kq hb q.2,Bool.or_true]
    .cases q
   .cases q
def wY(K:Frag)(N:Addr)(x:Str):Option Value:=match K.lookup N with
 | some o=>(match o.data with | .dict es _=>nsFind es x|_=>none)
 | none=>none
def Qk{K:Frag}{N:Addr}(X:K.In h)(e:nsOkIn K N=true):h.nsMap N=wY K N:=by
 unfold nsOkIn at e;split at e
 .rename_i ho;funext x;unfold wY Heap.nsMap;rw[X _ _ ho,ho]
 .cases e
def Kr{K:Frag}{N:Addr}(q:nsIn K N x=some none):wY K N x=none:=by
 unfold nsIn at q;unfold wY;split at q
 .rename_i c d es n sl ho;rw[ho];show nsFind es x=none;split at q
  .cases q
  .rename_i he;unfold nsFind findBy;rw[<-Array.find?_toList,he];rfl
 .cases q
def kP.of{K:Frag}(q:excIn K C aaI "ValueError.__new__"=true):kP K C:=by
 unfold excIn at q;split at q
 .rename_i dd cd sl ho;split at q
  .rename_i C' bm k0 k1 k2 k3 n k5 hm hs;simp only[BV,lq,Bool.not_eq_true']at q;obtain⟨⟨⟨⟨⟨rfl,rfl⟩,aaN⟩,ht⟩,hok⟩,hni⟩:=q;obtain⟨nm,bs,mro,ns,qn,hd,sn,sub,ab,col,del⟩:=cd;dsimp only at hm aaN hok hni;subst hm aaN;have hsl:sl=#[k0,k1,k2,k3,some (.builtin "ValueError.__new__"),k5] :=by obtain⟨l⟩:=sl;simp only at hs;rw[hs]
   subst hsl;refine⟨nm,qn,ns,bs,bm,hd,sn,sub,ab,col,dd,k0,k1,k2,k3,k5,wY K ns,Kr hni,Kq (by decide +kernel) ht,λh X=>⟨X _ _ ho,?_,tail_of_in X ht⟩⟩;have:=Heap.Ns.of_isNs (isNs_of_in X hok);rw[Qk X hok]at this;exact this
  .cases q
 .cases q
def Ks:V->Value
 | .ref a=> .ref a
 | .ty n=> .type n
 | _=> .none
section
variable {X:Cx}
def fC(K:Frag)(hK:X.K=K):gG X (.builtin "isinstance") (λxs H Q=>∃x C c b,xs=[.ref x,c]/\H x=some (Cm x C)/\nc K C/\RelV c (Ks c)/\kitOne K (.ref C) (Ks c)=some b/\Q (.bl b) H):=by
 subst hK;intro AT s σ H xs us Q I r h;obtain⟨x,C,c,b,rfl,hx,ec,rc,e,q⟩:=h;obtain⟨u,w',rfl,ru,rw'⟩:=vals2 r;have e1:u =.ref x:=ru;subst e1;have e2:w'=Ks c:=by
  cases c with
  | ref a=>exact rw'
  | ty n=>exact rw'
  | cD=>exact rw'
  | bl b=>exact nomatch (show Value.none=Value.bool b from rc)
  | int i=>obtain⟨t,z⟩:=(show ∃t,Value.none=Value.int i t from rc);cases z
  | str i=>obtain⟨t,z⟩:=(show ∃t,Value.none=Value.str i t from rc);cases z
  | wH i=>obtain⟨t,z⟩:=(show ∃t,Value.none=Value.bytes i t from rc);cases z
  | Ge i=>obtain⟨t,z⟩:=(show ∃t,Value.none=Value.float i t from rc);cases z
 subst e2;exact kia_one (VC ec) I.iQ (I.hok x _ hx).1 e (λz=>nomatch z) λtk=>⟨.bl b,H,I.tok _,Z,q⟩
end
structure Ec where
 (bad twice DV rM DW rN v7 rows Ku DX VD:Addr)
structure Told(K:Frag)(e:Ec)(C:Addr)(i:Nat):Prop where
 ec:nc K C
 jt:exmOne K (.ref C) (.ref e.VD)=some true
 ve:kitOne K (.ref C) (.type "ValueError")=some true
 k0:kitOne K (.ref C) (.ref e.bad)=some (decide (0=i))
 k1:kitOne K (.ref C) (.ref e.twice)=some (decide (1=i))
 k2:kitOne K (.ref C) (.ref e.DV)=some (decide (2=i))
 k3:kitOne K (.ref C) (.ref e.rM)=some (decide (3=i))
 k4:kitOne K (.ref C) (.ref e.DW)=some (decide (4=i))
 k5:kitOne K (.ref C) (.ref e.rN)=some (decide (5=i))
 k6:kitOne K (.ref C) (.ref e.v7)=some (decide (6=i))
 k7:kitOne K (.ref C) (.ref e.rows)=some (decide (7=i))
 k8:kitOne K (.ref C) (.ref e.Ku)=some (decide (8=i))
 k9:kitOne K (.ref C) (.ref e.DX)=some (decide (9=i))
def Kv(i:Nat):Da Bool:=true::(List.range 10).map λk=>decide (k=i)
def Fb(i:Nat):Da V:=(Kv i).map V.bl
def Told.of{K:Frag}{e:Ec}{b0 b1 b2 b3 b4 b5 b6 b7 b8 b9:Bool}(ga:findIn K (.ref C) "__getattribute__"=some (some (.builtin "BaseException.__getattribute__")))(gn:findIn K (.ref C) "__getattr__"=some none)(ca:findIn K (.ref C) "__class__"=some (some (.builtin "object.__class__")))(mo:mroIn K C (.type "object")=some true)(mb:mroIn K C (.type "BaseException")=some true)(jt:exmOne K (.ref C) (.ref e.VD)=some true)(ve:kitOne K (.ref C) (.type "ValueError")=some true)(k0:kitOne K (.ref C) (.ref e.bad)=some b0)(k1:kitOne K (.ref C) (.ref e.twice)=some b1)(k2:kitOne K (.ref C) (.ref e.DV)=some b2)(k3:kitOne K (.ref C) (.ref e.rM)=some b3)(k4:kitOne K (.ref C) (.ref e.DW)=some b4)(k5:kitOne K (.ref C) (.ref e.rN)=some b5)(k6:kitOne K (.ref C) (.ref e.v7)=some b6)(k7:kitOne K (.ref C) (.ref e.rows)=some b7)(k8:kitOne K (.ref C) (.ref e.Ku)=some b8)(k9:kitOne K (.ref C) (.ref e.DX)=some b9)(h:[b0,b1,b2,b3,b4,b5,b6,b7,b8,b9]=(List.range 10).map λk=>decide (k=i)):Told K e C i:=by
 have h':[b0,b1,b2,b3,b4,b5,b6,b7,b8,b9]=[decide (0=i),decide (1=i),decide (2=i),decide (3=i),decide (4=i),decide (5=i),decide (6=i),decide (7=i),decide (8=i),decide (9=i)] :=h
 simp only[List.cons.injEq,and_true]at h'
 obtain⟨rfl,rfl,rfl,rfl,rfl,rfl,rfl,rfl,rfl,rfl⟩:=h'
 have is:(clsIn K C).isSome=true:=by unfold mroIn at mo;obtain⟨cd,a,b⟩:=Option.bind_eq_some_iff.mp mo;rw[a];rfl
 exact⟨⟨ga,gn,ca,mo,mb,is⟩,jt,ve,k0,k1,k2,k3,k4,k5,k6,k7,k8,k9⟩
def uG(K:Frag)(j:Nat)(c:V):TE:=Zo (λxs H Q=>∃x C c b,xs=[.ref x,c]/\H x=some (Cm x C)/\nc K C/\RelV c (Ks c)/\kitOne K (.ref C) (Ks c)=some b/\Q (.bl b) H) (i7 (xR j) (i7 (tC c) oW))
def ac8(K:Frag)(e:Ec)(i j:Nat):TS:=yV (yW (Pw (i7 (uG K j (.ty "ValueError")) (i7 (uG K j (.ref e.bad)) (i7 (uG K j (.ref e.twice)) (i7 (uG K j (.ref e.DV)) oW))))) (gj i))
  (yV (yW (Gk UL (xR i) (Pw (i7 (uG K j (.ref e.rM)) (i7 (uG K j (.ref e.DW)) (i7 (uG K j (.ref e.rN)) oW))))) (gj i))
    (yW (Gk UL (xR i) (Pw (i7 (uG K j (.ref e.v7)) (i7 (uG K j (.ref e.rows)) (i7 (uG K j (.ref e.Ku)) (i7 (uG K j (.ref e.DX)) oW)))))) (gj i)))
section
def Ql{K:Frag}{e:Ec}{σ:St}{x:Addr}(to:Told K e C n)(hj:σ[j]?=some (some (.ref x)))(hi:i<σ.length)(hij:i≠j)(hx:H x=some (Cm x C))(q:∀l H',aG H H'->H' l=some (.lst (Fb n))->D.nx (σ.set i (some (.ref l))) H'):ac8 K e i j D σ H:=by
 have WB:∀(σ:St)(v:V),i<σ.length->(σ.set i (some v))[i]?=some (some v):=λσ v h=>tY h
 have WC:∀(σ:St)(v:V),σ[j]?=some (some (.ref x))->(σ.set i (some v))[j]?=some (some (.ref x)):=λσ v h=>by rw[yR hij];exact h
 refine⟨_,hj,x,C,_,_,Z,hx,to.ec,Z,to.ve,?_⟩
 refine⟨_,hj,x,C,_,_,Z,hx,to.ec,Z,to.k0,?_⟩
 refine⟨_,hj,x,C,_,_,Z,hx,to.ec,Z,to.k1,?_⟩
 refine⟨_,hj,x,C,_,_,Z,hx,to.ec,Z,to.k2,?_⟩
 refine⟨(show 4<=sizeLine from by rw[eW];decide),λp1 hp1=>?_⟩
 generalize hH1:upd H p1 (HO.lst _)=H1
 have VE:upd H p1 (.lst [V.bl true,V.bl (decide (0=n)),V.bl (decide (1=n)),V.bl (decide (2=n))])=H1:=hH1
 have g1:aG H H1:=VE▸az hp1 _
 have h1:H1 p1=some (.lst [V.bl true,V.bl (decide (0=n)),V.bl (decide (1=n)),V.bl (decide (2=n))]):=by rw[<-VE,ah]
 clear hH1 VE
 have hj1:=WC σ (.ref p1) hj
 have S0:=g1 _ _ hx
 refine⟨_,WB _ _ hi,?_⟩
 refine⟨_,hj1,x,C,_,_,Z,S0,to.ec,Z,to.k3,?_⟩
 refine⟨_,hj1,x,C,_,_,Z,S0,to.ec,Z,to.k4,?_⟩
 refine⟨_,hj1,x,C,_,_,Z,S0,to.ec,Z,to.k5,?_⟩
 refine⟨(show 3<=sizeLine from by rw[eW];decide),λp2 hp2=>?_⟩
 generalize hH2:upd H1 p2 (HO.lst _)=H2
 have VF:upd H1 p2 (.lst [V.bl (decide (3=n)),V.bl (decide (4=n)),V.bl (decide (5=n))])=H2:=hH2
 have g2:aG H1 H2:=VF▸az hp2 _
 have h2:H2 p2=some (.lst [V.bl (decide (3=n)),V.bl (decide (4=n)),V.bl (decide (5=n))]):=by rw[<-VF,ah]
 clear hH2 VF
 refine⟨p1,p2,_,_,Z,Z,g2 _ _ h1,h2,(show 4+3<=sizeLine from by rw[eW];decide),λp3 hp3=>?_⟩
 generalize S3:upd H2 p3 (HO.lst _)=H3
 have zV:upd H2 p3 (.lst [V.bl true,V.bl (decide (0=n)),V.bl (decide (1=n)),V.bl (decide (2=n)),V.bl (decide (3=n)),V.bl (decide (4=n)),V.bl (decide (5=n))])=H3:=S3
 have g3:aG H2 H3:=zV▸az hp3 _
 have h3:H3 p3=some (.lst [V.bl true,V.bl (decide (0=n)),V.bl (decide (1=n)),V.bl (decide (2=n)),V.bl (decide (3=n)),V.bl (decide (4=n)),V.bl (decide (5=n))]):=by rw[<-zV,ah]
 clear S3 zV
 have Oj:=WC _ (.ref p3) hj1
 have Ox:=g3 _ _ (g2 _ _ S0)
 refine⟨_,WB _ _ (by rw[lg];exact hi),?_⟩
 refine⟨_,Oj,x,C,_,_,Z,Ox,to.ec,Z,to.k6,?_⟩
 refine⟨_,Oj,x,C,_,_,Z,Ox,to.ec,Z,to.k7,?_⟩
 refine⟨_,Oj,x,C,_,_,Z,Ox,to.ec,Z,to.k8,?_⟩
 refine⟨_,Oj,x,C,_,_,Z,Ox,to.ec,Z,to.k9,?_⟩
 refine⟨(show 4<=sizeLine from by rw[eW];decide),λp4 GZ=>?_⟩
 generalize S4:upd H3 p4 (HO.lst _)=H4
 have Co:upd H3 p4 (.lst [V.bl (decide (6=n)),V.bl (decide (7=n)),V.bl (decide (8=n)),V.bl (decide (9=n))])=H4:=S4
 have g4:aG H3 H4:=Co▸az GZ _
 have h4:H4 p4=some (.lst [V.bl (decide (6=n)),V.bl (decide (7=n)),V.bl (decide (8=n)),V.bl (decide (9=n))]):=by rw[<-Co,ah]
 clear S4 Co
 refine⟨p3,p4,_,_,Z,Z,g4 _ _ h3,h4,(show 7+4<=sizeLine from by rw[eW];decide),λp5 hp5=>?_⟩
 have g5:=az hp5 (.lst (Fb n))
 have:=q p5 (upd H4 p5 (.lst (Fb n))) (g1.trans (g2.trans (g3.trans (g4.trans g5)))) ah
 show D.nx (((σ.set i _).set i _).set i _) _
 rw[vt,vt]
 exact this
end
structure Mx(P:Program)(w:World)(K:Fg)(mg:SO)(base:Heap)(k:Nat)(C:Addr)(m:Str)(ps:Da Str)(sp:Sp):Prop where
 ex:∃f fd,iz P w K mg base (gf P w) k f fd ps sp/\Binds K fd ps []/\Meth K C m f/\nY K C
def ji.okX{w:World}{m:Str}{st:Stmt}{k:Nat}(F:ji K C m qual st f fd)(S:aK N ps (ay st))(len:∀vs H Q E,sp vs H Q E->vs.length=ps.length)(Ch:∀(cdv:Value) (A:Around) (outer:Da Env) (s:Shared) (H:Hp) (vs:Da V) (Q:VK) (E:XK),dj k (A.deeper (envOfC qual (ay st) s.heap.objs.size f cdv))->sp vs H Q E->
    ∃t,qf (cK (gf P w) P w K mg base N qual (ay st) f cdv A outer s H E) (cG st) t/\t { nx:=λ_ H'=>Q .cD H',rt:=Q } (start N vs) H)(h:∀(kV doc pm:Value) (an:Option Addr) (cdv ct:Value) (us:Da Value),us.length=ps.length->bindArgs (PySem.W.fnOf m qual (dY st) (cG st) (ay st) .none kV doc pm an cdv ct) ⟨us,[]⟩=pure (ps.zip us)):
  Mx P w K mg base (k+1) C m ps sp:=by
 refine⟨f,fd,?_,F.fn.binds h,F.me,F.cl⟩
 obtain⟨oc,od,kV,doc,pm,an,cdv,ct,osl,rfl,lk,hcd⟩:=F.fn.ex
 exact Px lk hcd S len λA outer s H vs Q E hr oX=>Ch cdv A outer s H vs Q E hr oX
def iz.noX{w:World}{k:Nat}{S7:Sp}(F:iz P w K mg base (gf P w) k f fd ps sp)(h:∀vs H Q E,S7 vs H Q E->sp vs H Q E0):iz P w K mg base sZ k f fd ps S7:=⟨λvs H Q E q=>F.len _ _ _ _ (h _ _ _ _ q),λA outer s H args us vs Q E hr he hb hv hs=>As (F.run A outer s H args us vs Q E0 hr he hb hv (h _ _ _ _ hs)) λr s' q=>by
 cases r with
 | error e=>
  obtain⟨x,T,C,H',_,_,_,_,_,_,_,_,_,_,z⟩:=(show gf P w outer H s E0 e s' from q)
  exact z.elim
 | ok fl=>cases fl <;> exact q⟩
def Mx.mn{w:World}{k:Nat}{m:Str}{S7:Sp}(D:Mx P w K mg base k C m ps sp)(h:∀vs H Q E,S7 vs H Q E->sp vs H Q E0):Mn P w K mg base k C m ps S7:=by obtain⟨f,fd,F,b,me,c⟩:=D.ex;exact⟨f,fd,F.noX h,b,me,c⟩
section
variable {P:Program}{w:World}{K:Fg}{mg:SO}{base:Heap}{N:Da Str}{qual:Str}{scope:Scope}{f:Addr}{cd:Value}{A:Around}{outer:Da Env}{s0:Shared}{H0:Hp}{E:XK}
end
section
variable {X:Cx}
end
def Ec.at(e:Ec):Nat->Addr
 | 0=>e.bad|1=>e.twice|2=>e.DV|3=>e.rM|4=>e.DW|5=>e.rN|6=>e.v7|7=>e.rows|8=>e.Ku|_=>e.DX
def Rf(e:Ec)(E:XK)(H:Hp)(i:Nat):Prop:=∀x H',aG H H'->E (.ref x) (some (e.at i)) H'
def Rf.mono{e:Ec}{E:XK}(r:Rf e E H i)(s:aG H H'):Rf e E H' i:=λx H2 s2=>r x H2 (s.trans s2)
structure DoX(T:TC)(e:Ec)(n:Nat)(ρ:eF)(A:HA)(H:Hp)(r:Option Nat)(st':HS)(Q:VK)(E:XK):Prop where
 no:∀i,r=some i->Rf e E H i
 ok:r=none->DG T n ρ A H st' λH'=>Q .cD H'
def newR(st:HS)(x:Str):Option Nat:=if isNm x=true then(if x∈st.nms then some 1 else none) else some 0
def ac9(st:HS)(o:Str):Option Nat:=if isNm o=true then(if o∈st.own then some 1 else none) else some 0
def ac_(st:HS)(x o:Str)(wo we:Int):Option Nat:=match newR st x with
 | some i=>some i
 | none=>if o∈st.own then(if wo<1\/we<0 then some 5 else none) else some 2
inductive VG(T:TC)(e:Ec)(vs:Da V)(H:Hp)(Q:VK)(E:XK):Prop
 |mk(n ρ A st x:_)(_:vs=[.ref A.a,.str x])(_:aV T n ρ A H st)(_:(st.ao.map (·.nm)).Nodup)(_:((∀p∈st.ao,p.nm≠x)->Rf e E H 3))(_:∀(i:Nat) (p:Pt) (q:Addr×Addr×Addr),p.nm=x->st.ao[i]?=some p->A.qs[i]?=some q->Q (.ref q.1) H)
def zW(T:TC)(e:Ec):Sp:=bx (VG T e)
inductive age(vs:Da V)(H:Hp)(Q:VK)(E:XK):Prop
 |mk(n:Nat)(_:vs=[.int (n:Int)])(_:∀p H',aG H H'->H' p=some (.lst (Fb n))->Q (.ref p) H')
def Qm:Sp:=bx (age)
def Yn{Q:VK}{E:XK}{i:Int}(e:i=(n:Int))(q:∀p H',aG H H'->H' p=some (.lst (Fb n))->Q (.ref p) H'):Qm [.int i] H Q E:=⟨n,by rw[e],q⟩
theorem Kw{K:Fg}{H:Hp}:∀bs:Da Bool,wQ K H (bs.map V.bl) (bs.map PyData.bool)
 | []=> .nil
 | b::bs=> .cons (.bl b) (Kw bs)
inductive Dd where
 | sign (o:Str)|load (x o:Str) (wo we:Int)|cast (rs:Da Row)|award (o:Str) (a:Int)|mishap (x:Str) (a:Int)|rise (x:Str) (a:Int)|hand (x o:Str)|land (x:Str)|sever (x y:Str) (a we:Int)|still
def dD:Da Row->Da V
 | []=>[]
 | r::rs=> .str r.1 :: .int r.2::dD rs
def Dd.v:Dd->Da V
 | .sign o=>[.str "sign",.str o]
 | .load x o wo we=>[.str "load",.str x,.str o,.int wo,.int we]
 | .cast rs=> .str "cast"::dD rs
 | .award o a=>[.str "award",.str o,.int a]
 | .mishap x a=>[.str "mishap",.str x,.int a]
 | .rise x a=>[.str "rise",.str x,.int a]
 | .hand x o=>[.str "hand",.str x,.str o]
 | .land x=>[.str "land",.str x]
 | .sever x y a we=>[.str "sever",.str x,.str y,.int a,.int we]
 | .still=>[.str "still"]
def kH(st:HS):Da Str:=st.ao.map λp=>p.nm
def iB(st:HS)(r:Row):Option Nat:=if r.1∈kH st then(if r.2<1 then some 5 else if(dg st r.1).wo<r.2 then some 6 else none) else some 3
def jm(st:HS)(rs:Da Row):Option Nat:=if rs≠[]/\(rs.map λr:Row=>r.1).Nodup then(match rs.findSome? (iB st)with
 | some i=>some i
 | none=>if bh st<=bq rs then some 6 else none) else some 7
def aaP(st:HS)(o:Str)(a:Int):Option Nat:=if o∈st.own then(if a<1 then some 5 else if bh st<=a then some 6 else none) else some 2
def ada(st:HS)(x:Str)(a:Int):Option Nat:=if x∈kH st then(if a<1 then some 5 else none) else some 3
def adb(st:HS)(x o:Str):Option Nat:=if x∈kH st then(if o∈st.own then none else some 2) else some 3
def ade(st:HS)(x:Str):Option Nat:=if x∈kH st then none else some 3
def aaQ(st:HS)(x y:Str)(a we:Int):Option Nat:=if x∈kH st then(match newR st y with
 | some i=>some i
 | none=>if a<1\/we<0 then some 5 else if(dg st x).wo<=a\/(dg st x).we<we then some 6 else none) else some 3
def uH(st:HS):Dd->Option Nat
 | .sign o=>ac9 st o
 | .load x o wo we=>ac_ st x o wo we
 | .cast rs=>jm st rs
 | .award o a=>aaP st o a
 | .mishap x a=>iB st (x,a)
 | .rise x a=>ada st x a
 | .hand x o=>adb st x o
 | .land x=>ade st x
 | .sever x y a we=>aaQ st x y a we
 | .still=>none
def aaR(st:HS)(o:Str)(a:Int):HS:=cQ st (bh st-a) (bh st) ((List.replicate st.own.length 0).set (st.own.idxOf o) (a*st.prod))
def onP(st:HS)(x:Str)(f:Pt->Pt):HS:={ st with ao:=st.ao.map λp=>if p.nm=x then f p else p }
def adf(st:HS)(x:Str)(a:Int):HS:=onP st x λp=>{ p with wo:=p.wo+a }
def adg(st:HS)(p:Pt)(o:Str):Da Int:=((cC st p).set (st.own.idxOf o) ((cC st p).getD (st.own.idxOf o) 0+(cC st p).getD (st.own.idxOf p.ow) 0)).set (st.own.idxOf p.ow) 0
def adh(st:HS)(x o:Str):HS:=if st.own.idxOf o=st.own.idxOf (dg st x).ow then st else onP st x λp=>{ p with ow:=o,sc:=1,row:=zK st (adg st p o) }
def WD(st:HS)(p:Pt):Da Int:=List.zipWith (λu t=>u+p.wo*t) st.c6 (cC st p)
def adi(st:HS)(x:Str):HS:={ st with ao:=st.ao.filter (λp=>decide (p.nm≠x)),lJ:=st.lJ++[⟨x,(dg st x).ow,(dg st x).wo,zL st (dg st x)⟩],kn:=st.kn+100,c6:=(WD st (dg st x)).set (st.own.idxOf (dg st x).ow) ((WD st (dg st x)).getD (st.own.idxOf (dg st x).ow) 0-(dg st x).wo*st.prod) }
def aaT(st:HS)(x y:Str)(a we:Int):HS:=AM (onP st x λp=>{ p with wo:=p.wo-a,we:=p.we-we }) ⟨y,(dg st x).ow,a,we,(dg st x).sc,(dg st x).row⟩
def Qn(st:HS):Dd->HS
 | .sign o=>gH st o
 | .load x o wo we=>x6 st x o wo we
 | .cast rs=>jk st rs
 | .award o a=>aaR st o a
 | .mishap x a=>gk st (x,a)
 | .rise x a=>adf st x a
 | .hand x o=>adh st x o
 | .land x=>adi st x
 | .sever x y a we=>aaT st x y a we
 | .still=>st
inductive Yo(T:TC)(e:Ec)(al:HS->Dd->Prop)(K:Fg)(vs:Da V)(H:Hp)(Q:VK)(E:XK):Prop
 |mk(n ρ A st z d:_)(_:vs=[.ref A.a,.ref z])(_:cz K H z (Dd.v d))(_:HH T n ρ A H st)(_:al st d)(_:DoX T e n ρ A H (uH st d:_) (Qn st d:_) Q E)
def Ky(T:TC)(e:Ec)(al:HS->Dd->Prop)(K:Fg):Sp:=bx (Yo T e al K)
inductive aaU(T:TC)(al:HS->Dd->Prop)(K:Fg)(vs:Da V)(H:Hp)(Q:VK)(E:XK):Prop
 |mk(n ρ A st z d:_)(_:vs=[.ref A.a,.ref z])(_:cz K H z (Dd.v d))(_:HH T n ρ A H st)(_:al st d)(_:(∀i,uH st d=some i->∀l H',aG H H'->H' l=some (.lst (Fb i))->Q (.ref l) H'))(_:(uH st d=none->∀l ρ' A' H',HH T n ρ' A' H' (Qn st d:_)->A'.a=A.a->Fr n ρ H ρ' H'->H' l=some (.lst [])->ρ' l=none->H l=none->Q (.ref l) H'))
def Fc(T:TC)(al:HS->Dd->Prop)(K:Fg):Sp:=bx (aaU T al K)
def wl(s:Str):Nat:=s.cps.toList.length
def Qo(cs:Da Nat):wl (tx cs)=cs.length:=by unfold wl;show cs.toArray.toList.length=_;simp
section
variable {X:Cx}
inductive adj(x:V)(y:V)(H:Hp)(Q:VK):Prop
 |mk(i j:Str)(_:x =.str i)(_:y =.str j)(_:wl i+wl j<=10000)(_:∀r:Str,wl r=wl i+wl j->Q (.str r) H)
def qx:ir X (binaryOp .Add) adj:=by intro AT s σ H x y v u Q I rx ry h;obtain⟨i,j,rfl,rfl,hz,q⟩:=h;rw[<-JM i]at rx;rw[<-JM j]at ry;exact Yk AT s σ H _ _ v u Q I rx ry ⟨_,_,Z,Z,fL hz (by decide),q _ (by rw[Qo,cV];rfl)⟩
inductive agf(x:V)(lo:Option Int)(hi:Option Int)(H:Hp)(Q:VK):Prop
 |mk(i:Str)(_:x =.str i)(_:wl i<=10000)(_:∀r:Str,wl r<=wl i->(∀n:Nat,lo=none->hi=some (n:Int)->wl r<=n)->Q (.str r) H)
theorem wZ:RB X agf:=by
 intro AT s σ H x v vl vu lo hi sl Q I rx hs pl pu h;obtain⟨i,rfl,hz,q⟩:=h;rw[<-JM i]at rx;refine Z0 AT s σ H _ v vl vu lo hi sl Q I rx hs pl pu ⟨_,Z,by rw[eW];exact fL hz (by decide),q _ ?_ ?_⟩
 .rw [Qo];exact Bq _ _ _
 .rintro n rfl rfl;rw[Qo,Xy,kr];omega
end
theorem S9{α:Type}{xs:Da α}{i:Int}(h1:-(xs.length:Int)<=i)(h2:i<(xs.length:Int)):∃v∈xs,nZ xs i=some v:=by
 unfold nZ Bl;by_cases h0:0<=i
 .rw [aC h0,aC h2];have hj:i.toNat<xs.length:=by omega
  exact⟨xs[i.toNat],vo hj,aS hj⟩
 .rw [aB h0,aC h1];have hj:(i+xs.length).toNat<xs.length:=by omega
  exact⟨xs[(i+xs.length).toNat],vo hj,aS hj⟩
def aaV:∀i:Fin 10,SeqAt.shaped (.list ((Kv i.val).map PyData.bool))=true/\PyData.eqv (.list ((Kv i.val).map PyData.bool)) (.list ((Kv i.val).map PyData.bool))=true:=by decide +kernel
def told(r:Option Nat):Da Bool:=match r with
 | some i=>Kv i
 | none=>[]
def IW(r:Option Nat):Da V:=(told r).map V.bl
def Oz(r:Option Nat):wQ K H (IW r) ((told r).map PyData.bool):=Kw _
def Fd{r:Option Nat}(h:∀i,r=some i->i<10):SeqAt.shaped (.list ((told r).map PyData.bool))=true/\PyData.eqv (.list ((told r).map PyData.bool)) (.list ((told r).map PyData.bool))=true:=by
 cases r with
 | none=>exact⟨Z,Z⟩
 | some i=>exact aaV ⟨i,h i rfl⟩
def uI(st:HS)(d:Dd):HS:=match uH st d with
 | some _=>st
 | none=>Qn st d
def Yp{l l':Addr}{r:Option Nat}{Q:VK}(h1:H l=some (.lst (IW r)))(h2:H l'=some (.lst (IW r)))(h:∀i,r=some i->i<10)(q:Q (.bl false) H):EU K (.ref l) (.ref l') H Q:=⟨_,_,.lst (aA.of h1) (Oz r),.lst (aA.of h2) (Oz r),(Fd h).1,(Fd h).1,by rw[(Fd h).2];exact q⟩
section
variable {P:Program}{w:World}{K:Fg}{mg:SO}{base:Heap}{k:Nat}{T:TC}{e:Ec}{ps:Da Str}
def S_(D:Mx P w K mg base k T.hold "part_of" ps (zW T e)):Mn P w K mg base k T.hold "part_of" ps (JZ T):=D.mn λvs H Q E h=>by obtain⟨⟨n,ρ,A,st,i,p,qq,rfl,hx,nd,ep,eq,q⟩⟩:=h;refine⟨n,ρ,A,st,p.nm,Z,hx,nd,λz=>absurd rfl (z p (bP ep)),λj p' q' e1 e2 e3=>?_⟩;have:j=i:=JU nd e2 ep e1;subst this;rw[eq]at e3;cases e3;exact q
end
def nB(i:Int):Prop:=-1000000000<=i/\i<=1000000000
def BG:Dd->Prop
 | .sign o=>wl o<=20
 | .load x o wo we=>wl x<=20/\wl o<=20/\nB wo/\nB we
 | .cast rs=>rs.length<=60/\∀r∈rs,wl r.1<=20/\nB r.2
 | .award o a=>wl o<=20/\nB a
 | .mishap x a=>wl x<=20/\nB a
 | .rise x a=>wl x<=20/\nB a
 | .hand x o=>wl x<=20/\wl o<=20
 | .land x=>wl x<=20
 | .sever x y a we=>wl x<=20/\wl y<=20/\nB a/\nB we
 | .still=>True
def Dd.k:Dd->Nat
 | .sign _=>0 | .load .. =>1 | .cast _=>2 | .award .. =>3 | .mishap .. =>4 | .rise .. =>5 | .hand .. =>6 | .land _=>7 | .sever .. =>8 | .still=>9
def Qp(n:Nat):Str:=(["sign","load","cast","award","mishap","rise","hand","land","sever","still"] :Da Str).getD n "still"
def Dd.w(d:Dd):Str:=Qp d.k
def Dd.v0(d:Dd):d.v[0]?=some (.str d.w):=by cases d <;> rfl
def Dd.k_lt(d:Dd):d.k<10:=by cases d <;> simp[Dd.k]
def adk:∀m n:Fin 10,m≠n->Qp m.val≠Qp n.val:=by decide +kernel
def Dd.aaW{d:Dd}(h:d.k≠n)(hn:n<10):d.w≠Qp n:=adk ⟨d.k,d.k_lt⟩ ⟨n,hn⟩ λe=>h (gF Fin.val e)
def Dd.Tc{d:Dd}(h:d.k≠2):d.w ≠ "cast":=d.aaW h (by decide)
def Dd.Yq{d:Dd}(h:d.k≠9):d.w ≠ "still":=d.aaW h (by decide)
def alike(v w:V):Prop:=(∃s s',v =.str s/\w =.str s'/\wl s'<=20)\/∃i i',v =.int i/\w =.int i'/\nB i'
def gE{s:Str}{w:V}(h:alike (.str s) w):∃s',w =.str s'/\wl s'<=20:=by
 rcases h with⟨_,s',e,h1,h2⟩|⟨i,i',e,_⟩
 .exact ⟨s',h1,h2⟩
 .cases e
def ki{i:Int}{w:V}(h:alike (.int i) w):∃i',w =.int i'/\nB i':=by
 rcases h with⟨_,s',e,h1,h2⟩|⟨_,i',e,h1,h2⟩
 .cases e
 .exact ⟨i',h1,h2⟩
theorem Kz:∀(rs:Da Row)(at':Nat)(v w:V),(∀r∈rs,wl r.1<=20/\nB r.2)->(dD rs)[at']?=some v->alike v w->∃rs':Da Row,dD rs'=(dD rs).set at' w/\rs'.length=rs.length/\∀r∈rs',wl r.1<=20/\nB r.2
 | [],_,_,_,_,h,_=>by simp[dD]at h
 | r::rs,0,v,w,hb,h,ha=>by
  have e:V.str r.1=v:=by simpa[dD]using h
  subst e;obtain⟨s',rfl,h1⟩:=gE ha;exact⟨(s',r.2)::rs,Z,Z,λx hx=>by
   rcases cJ.mp hx with rfl|hx
   .exact ⟨h1,(hb r cg).2⟩
   .exact hb x (b_ _ hx)⟩
 | r::rs,1,v,w,hb,h,ha=>by
  have e:V.int r.2=v:=by simpa[dD]using h
  subst e;obtain⟨i',rfl,h1⟩:=ki ha;exact⟨(r.1,i')::rs,Z,Z,λx hx=>by
   rcases cJ.mp hx with rfl|hx
   .exact ⟨(hb r cg).1,h1⟩
   .exact hb x (b_ _ hx)⟩
 | r::rs,n+2,v,w,hb,h,ha=>by
  obtain⟨rs',h1,h2,h3⟩:=Kz rs n v w (λx hx=>hb x (b_ _ hx)) (by simpa[dD]using h) ha;refine⟨r::rs',?_,by rw[kq,kq,h2],λx hx=>?_⟩
  .show V.str r.1::V.int r.2::dD rs'=V.str r.1::V.int r.2::(dD rs).set n w;rw[h1]
  .rcases cJ.mp hx with rfl|hx
   .exact hb _ cg
   .exact h3 x hx
theorem aaX{d:Dd}(hb:BG d){at':Nat}{v w:V}(h1:1<=at')(hv:d.v[at']?=some v)(ha:alike v w):∃d':Dd,d'.v=d.v.set at' w/\d'.k=d.k/\BG d':=by
 obtain⟨n,rfl⟩:∃n,at'=n+1:=⟨at'-1,by omega⟩
 clear h1;cases d with
 | sign o=>
   match n,hv with
   | 0,hv=>cases(show some (V.str o)=some v from hv);obtain⟨s',rfl,h⟩:=gE ha;exact⟨.sign s',Z,Z,h⟩
 | load x o wo we=>
  obtain⟨b1,b2,b3,b4⟩:=hb
  match n,hv with
  | 0,hv=>cases(show some (V.str x)=some v from hv);obtain⟨s',rfl,h⟩:=gE ha;exact⟨.load s' o wo we,Z,Z,h,b2,b3,b4⟩
  | 1,hv=>cases(show some (V.str o)=some v from hv);obtain⟨s',rfl,h⟩:=gE ha;exact⟨.load x s' wo we,Z,Z,b1,h,b3,b4⟩
  | 2,hv=>cases(show some (V.int wo)=some v from hv);obtain⟨i',rfl,h⟩:=ki ha;exact⟨.load x o i' we,Z,Z,b1,b2,h,b4⟩
  | 3,hv=>cases(show some (V.int we)=some v from hv);obtain⟨i',rfl,h⟩:=ki ha;exact⟨.load x o wo i',Z,Z,b1,b2,b3,h⟩
 | cast rs=>obtain⟨rs',e,l,b⟩:=Kz rs n v w hb.2 (by simpa[Dd.v]using hv) ha;exact⟨.cast rs',by show V.str "cast"::dD rs'=V.str "cast"::(dD rs).set n w;rw[e],Z,by rw[l];exact hb.1,b⟩
 | award o a=>
  obtain⟨b1,b2⟩:=hb
  match n,hv with
  | 0,hv=>cases(show some (V.str o)=some v from hv);obtain⟨s',rfl,h⟩:=gE ha;exact⟨.award s' a,Z,Z,h,b2⟩
  | 1,hv=>cases(show some (V.int a)=some v from hv);obtain⟨i',rfl,h⟩:=ki ha;exact⟨.award o i',Z,Z,b1,h⟩
 | mishap x a=>
  obtain⟨b1,b2⟩:=hb
  match n,hv with
  | 0,hv=>cases(show some (V.str x)=some v from hv);obtain⟨s',rfl,h⟩:=gE ha;exact⟨.mishap s' a,Z,Z,h,b2⟩
  | 1,hv=>cases(show some (V.int a)=some v from hv);obtain⟨i',rfl,h⟩:=ki ha;exact⟨.mishap x i',Z,Z,b1,h⟩
 | rise x a=>
  obtain⟨b1,b2⟩:=hb
  match n,hv with
  | 0,hv=>cases(show some (V.str x)=some v from hv);obtain⟨s',rfl,h⟩:=gE ha;exact⟨.rise s' a,Z,Z,h,b2⟩
  | 1,hv=>cases(show some (V.int a)=some v from hv);obtain⟨i',rfl,h⟩:=ki ha;exact⟨.rise x i',Z,Z,b1,h⟩
 | hand x o=>
  obtain⟨b1,b2⟩:=hb
  match n,hv with
  | 0,hv=>cases(show some (V.str x)=some v from hv);obtain⟨s',rfl,h⟩:=gE ha;exact⟨.hand s' o,Z,Z,h,b2⟩
  | 1,hv=>cases(show some (V.str o)=some v from hv);obtain⟨s',rfl,h⟩:=gE ha;exact⟨.hand x s',Z,Z,b1,h⟩
 | land x=>
   match n,hv with
   | 0,hv=>cases(show some (V.str x)=some v from hv);obtain⟨s',rfl,h⟩:=gE ha;exact⟨.land s',Z,Z,h⟩
 | sever x y a we=>
  obtain⟨b1,b2,b3,b4⟩:=hb
  match n,hv with
  | 0,hv=>cases(show some (V.str x)=some v from hv);obtain⟨s',rfl,h⟩:=gE ha;exact⟨.sever s' y a we,Z,Z,h,b2,b3,b4⟩
  | 1,hv=>cases(show some (V.str y)=some v from hv);obtain⟨s',rfl,h⟩:=gE ha;exact⟨.sever x s' a we,Z,Z,b1,h,b3,b4⟩
  | 2,hv=>cases(show some (V.int a)=some v from hv);obtain⟨i',rfl,h⟩:=ki ha;exact⟨.sever x y i' we,Z,Z,b1,b2,h,b4⟩
  | 3,hv=>cases(show some (V.int we)=some v from hv);obtain⟨i',rfl,h⟩:=ki ha;exact⟨.sever x y a i',Z,Z,b1,b2,b3,h⟩
 | still=>exact absurd hv (by simp[Dd.v])
theorem adl{d:Dd}(hb:BG d){at':Nat}{v:V}(h1:1<=at')(hv:d.v[at']?=some v):(∃s,v =.str s/\wl s<=20)\/∃i,v =.int i/\nB i:=by
 obtain⟨n,rfl⟩:∃n,at'=n+1:=⟨at'-1,by omega⟩
 clear h1;have fl:∀(rs:Da Row)(n:Nat),(∀r∈rs,wl r.1<=20/\nB r.2)->(dD rs)[n]?=some v->(∃s,v =.str s/\wl s<=20)\/∃i,v =.int i/\nB i:=λrs=>by
  induction rs with
  | nil=>intro n _ h;simp[dD]at h
  | cons r rs ih=>
   intro n hb h
   match n,h with
   | 0,h=>cases(show some (V.str r.1)=some v from h);exact .inl ⟨_,Z,(hb r cg).1⟩
   | 1,h=>cases(show some (V.int r.2)=some v from h);exact .inr ⟨_,Z,(hb r cg).2⟩
   | n+2,h=>exact ih n (λx hx=>hb x (b_ _ hx)) h
 cases d with
 | cast rs=>exact fl rs n hb.2 hv
 | sign o=>match n,hv with|0,hv=>cases hv;exact .inl ⟨_,Z,hb⟩
 | land x=>match n,hv with|0,hv=>cases hv;exact .inl ⟨_,Z,hb⟩
 | still=>exact absurd hv (by simp[Dd.v])
 | load x o wo we=>match n,hv with|0,hv=>cases hv;exact .inl ⟨_,Z,hb.1⟩|1,hv=>cases hv;exact .inl ⟨_,Z,hb.2.1⟩|2,hv=>cases hv;exact .inr ⟨_,Z,hb.2.2.1⟩|3,hv=>cases hv;exact .inr ⟨_,Z,hb.2.2.2⟩
 | sever x o wo we=>match n,hv with|0,hv=>cases hv;exact .inl ⟨_,Z,hb.1⟩|1,hv=>cases hv;exact .inl ⟨_,Z,hb.2.1⟩|2,hv=>cases hv;exact .inr ⟨_,Z,hb.2.2.1⟩|3,hv=>cases hv;exact .inr ⟨_,Z,hb.2.2.2⟩
 | award x a=>match n,hv with|0,hv=>cases hv;exact .inl ⟨_,Z,hb.1⟩|1,hv=>cases hv;exact .inr ⟨_,Z,hb.2⟩
 | mishap x a=>match n,hv with|0,hv=>cases hv;exact .inl ⟨_,Z,hb.1⟩|1,hv=>cases hv;exact .inr ⟨_,Z,hb.2⟩
 | rise x a=>match n,hv with|0,hv=>cases hv;exact .inl ⟨_,Z,hb.1⟩|1,hv=>cases hv;exact .inr ⟨_,Z,hb.2⟩
 | hand x o=>match n,hv with|0,hv=>cases hv;exact .inl ⟨_,Z,hb.1⟩|1,hv=>cases hv;exact .inl ⟨_,Z,hb.2⟩
structure Bk(b:BS):Prop where
 own:∀x∈b.own,wl x<=20
 fJ:∀x∈b.fJ,wl x<=20
 ao:∀p∈b.ao,wl p.nm<=20
 wo:∀p∈b.ao,0<=p.wo/\0<=p.we
 ol:b.own.length<=100
 kl:b.fJ.length<=1000
 pl:b.ao.length<=1000
inductive Qq(K:Fg)(vs:Da V)(H:Hp)(Q:VK)(E:XK):Prop
 |mk(a:Addr)(ms:Da Int)(k:Int)(n:Nat)(ρ:eF)(B:BA)(b:BS)(x:Str)(_:vs=[.ref a,.int k,.ref B.m,.str x])(_:aA K H a (ms.map V.int))(_:ms.length<=63)(_:0<=k)(_:bf n ρ B H b)(_:Bk b)(_:wl x<=20)(_:∀r H',aG H H'->wl r<=20->Q (.str r) H')
def BH(K:Fg):Sp:=bx (Qq K)
inductive KA(K:Fg)(vs:Da V)(H:Hp)(Q:VK)(E:XK):Prop
 |mk(a:Addr)(ms:Da Int)(k:Int)(n:Nat)(ρ:eF)(B:BA)(b:BS)(i:Int)(_:vs=[.ref a,.int k,.ref B.m,.int i])(_:aA K H a (ms.map V.int))(_:ms.length<=63)(_:0<=k)(_:bf n ρ B H b)(_:Bk b)(_:nB i)(_:∀r H',aG H H'->nB r->Q (.int r) H')
def yG(K:Fg):Sp:=bx (KA K)
inductive adm(K:Fg)(vs:Da V)(H:Hp)(Q:VK)(E:XK):Prop
 |mk(a:Addr)(ms:Da Int)(k:Int)(n:Nat)(ρ:eF)(B:BA)(b:BS)(z:Addr)(d:Dd)(_:vs=[.ref a,.int k,.ref B.m,.ref z])(_:aA K H a (ms.map V.int))(_:ms.length<=63)(_:0<=k)(_:bf n ρ B H b)(_:Bk b)(_:cz K H z d.v)(_:BG d)(_:2<=d.v.length)(_:d.v.length<=115)(_:d.k≠9)(_:∀z' d' H',aG H H'->H' z'=some (.tup (Dd.v d'))->BG d'->d'.k=d.k->(d'.v.length<=d.v.length+2)->Q (.ref z') H')
def Td(K:Fg):Sp:=bx (adm K)
def aaY:Option Nat->Int
 | none=>-1
 | some i=>i
inductive agg(al:HS->Dd->Prop)(K:Fg)(vs:Da V)(H:Hp)(Q:VK)(E:XK):Prop
 |mk(n:Nat)(ρ:eF)(B:BA)(b:BS)(st:HS)(z:Addr)(d:Dd)(_:vs=[.ref B.m,.ref z])(_:cz K H z d.v)(_:bf n ρ B H b)(_:iT st b)(_:Wf st)(_:uC b)(_:st.nms=b.fJ)(_:al st d)(_:BG d)(_:∀H',aG H H'->Q (.int (aaY (uH st d))) H')
def IZ(al:HS->Dd->Prop)(K:Fg):Sp:=bx (agg al K)
def jY(m:Nat)(vs:Da V):Prop:=∀v∈vs,∃s:Str,v =.str s/\wl s<=m
def jY.nil:jY m [] :=λ_ h=>nomatch h
def jY.cons{m:Nat}{s:Str}{vs:Da V}(h:wl s<=m)(hs:jY m vs):jY m (.str s::vs):=λv hv=>by
 rcases cJ.mp hv with rfl|hv
 .exact ⟨s,Z,h⟩
 .exact hs v hv
def jY.append{us:Da V}(h:jY m vs)(hu:jY m us):jY m (vs++us):=λv hv=>(fj.mp hv).elim (h v) (hu v)
theorem jY.map{xs:Da Str}(h:∀x∈xs,wl x<=m):jY m (xs.map V.str):=λv hv=>by obtain⟨x,hx,rfl⟩:=bR.mp hv;exact⟨x,Z,h x hx⟩
def uJ(vs:Da V):Prop:=∀v∈vs,∃i:Int,v =.int i/\-1000000000<=i
def uJ.nil:uJ [] :=λ_ h=>nomatch h
def uJ.cons{i:Int}{vs:Da V}(h:-1000000000<=i)(hs:uJ vs):uJ (.int i::vs):=λv hv=>by
 rcases cJ.mp hv with rfl|hv
 .exact ⟨i,Z,h⟩
 .exact hs v hv
def uJ.append{us:Da V}(h:uJ vs)(hu:uJ us):uJ (vs++us):=λv hv=>(fj.mp hv).elim (h v) (hu v)
theorem Te:∀{l:Da Int},(∀x∈l,0<=x)->0<=l.sum
 | [],_=>lZ _
 | a::l,h=>by rw[c9];have:=h a cg;have:=Te (l:=l) λx hx=>h x (b_ _ hx);omega
theorem pC:∀(l m:Da Row),dD (l++m)=dD l++dD m
 | [],_=>rfl
 | r::l,m=>by
  show V.str r.1::V.int r.2::dD (l++m)=V.str r.1::V.int r.2::(dD l++dD m)
  rw[pC l m]
theorem vH:∀l:Da Row,(dD l).length=2*l.length
 | []=>rfl
 | r::l=>by show(dD l).length+1+1=_;rw[vH l,kq];omega
theorem Fe(h:isNm x=true):wl x<=20:=by unfold isNm isName at h;have:=dI (jP.mp (jP.mp h).1).2;unfold wl;omega
theorem iU.sub(g:iU c st b)(wf:Wf st){p:BP}(hp:p∈b.ao):p.nm∈b.fJ/\p.ow∈b.own/\1<=p.wo/\0<=p.we:=by
 obtain⟨j,hj,ej⟩:=t9 hp;obtain⟨p',DR,e1,e2,e3,e4⟩:=g.rel.at (i:=j) (q:=p) (by rw[aS hj,ej])
 have hm:=bP DR;have h1:=wf.sub p' hm;have h2:=wf.ow p' hm;have h3:=wf.zH p' hm;rw[e1,g.fJ]at h1;rw[e2,g.rel.own]at h2;rw[e3,e4]at h3;exact⟨h1,h2,h3.1,h3.2⟩
theorem iU.bk(g:iU c st b)(wf:Wf st):Bk b:=⟨λx hx=>Fe (g.on x hx),λx hx=>Fe (g.nk x hx),λp hp=>Fe (g.nk _ (g.sub wf hp).1),λp hp=>⟨by have:=(g.sub wf hp).2.2.1;omega,(g.sub wf hp).2.2.2⟩,g.lM.ol,g.lM.kl,g.lM.pl⟩
end L2
set_option autoImplicit true
namespace L2
open PySem PySem.Spec PyProof.Rows
structure bE(X:Cx)(e:Expr)(t:TE):Prop where h:PE X e t
structure bT(X:Cx)(e:Expr)(t:TT):Prop where h:PT X e t
structure bW(X:Cx)(e:Expr)(t:TT):Prop where h:PW X e t
structure bA(X:Cx)(es:Da Expr)(t:TA):Prop where h:PA X es t
structure bS(X:Cx)(s:Stmt)(t:TS):Prop where h:PS X s t
structure cO(X:Cx)(s:Da Stmt)(t:TS):Prop where h:qf X s t
structure bC(X:Cx)(op:CmpOp)(a b:Expr)(t:TE):Prop where h:PC X op a b t
structure bG(X:Cx)(e:Expr)(t:TG):Prop where h:PG X e t
structure WE(X:Cx)(e:Da Expr)(t:C0):Prop where h:PGs X e t
structure bI(X:Cx)(tg Bz:Expr)(wi:TI):Prop where h:PI X tg Bz wi
structure bO(X:Cx)(e:Option Expr)(t:TO):Prop where h:PO X e t
structure bX(X:Cx)(e:Da Stmt)(t:TX):Prop where h:PX X e t
structure WG(X:Cx)(pos:Pos)(ks:Da (Option Expr))(vs:Da Expr)(t:Da (TE×TE)):Prop where h:PPs X pos ks vs t
theorem bW.pt{X:Cx}{e:Expr}{t:TT}(h:bW X e t):bT X e t:=⟨h.h.pt⟩
def KC{op}{t:TE}(h:bE X a t):bE X (.BoolOp op [a] pos) t:=by have h:=h.h;exact⟨λAT s σ H Q I hw=>BoolOp_one (h AT s σ H Q I hw)⟩
def dF{e:Expr}{t:TE}(h:bE X e t)(he:∀whole,isTrue e X.env whole=(do let v <-whole;standAt e.pos;holding [v] (truthy v)):=by intro _;rfl):bT X e (tB t):=by have h:=h.h;constructor;intro AT s σ H Q I hw;refine isTrue_plain (bg (h AT s σ H _ I hw) λv s1 ⟨x,H1,I1,r1,q1⟩=>?_) (he _);obtain⟨d,rfl,q⟩:=q1;cases r1;exact yT ⟨H1,I1,q⟩
def aI{r:R2}(hr:yy X r)(ha:bE X a ta)(hb:bE X b tb)(hs:Xj b:=by exact λ_ _=>rfl):bE X (.Subscript a b pos) (Gk r ta tb):=by have ha:=ha.h;have hb:=hb.h;constructor;intro AT s σ H Q I h;exact Subscript_ (Uw ha hb I h λv u s2 x y H2 I2 rx ry q=>hr a b AT s2 σ H2 x y v u Q I2 rx ry q (hs _ _))
def qy(h:bE X e te):bO X (some e) (acy te):=by have h:=h.h;constructor;intro AT s σ H Q I hw;rw[evalPart_some];refine bg (h AT s σ H _ I hw) λu s1 ⟨x,H1,I1,r1,q1⟩=>?_;obtain⟨i,rfl,q⟩:=q1;obtain⟨t,rfl⟩:=r1;exact⟨some i,H1,I1,.int i t,q⟩
def iN:WE X [] Y0:=by constructor;intro AT s σ H vs us Q I r h;obtain⟨e,h⟩:=h;subst e;cases r;exact assignInOrder_nil ⟨σ,H,I,h⟩
def qz:bO X none Xh:=by constructor;intro AT s σ H Q I h;rw[evalPart_none];exact aJ ⟨none,H,I,.none,h⟩
def jq{x:Str}{n:String}{pos:Pos}(hv:bootBuiltins x=some (.type n))(hg:Gl X x)(hm:X.mg x=none)(hn:x ≠ "__name__":=by decide)(hd:(x==("__debug__":Str))=false:=by decide):bE X (.Name x pos) (tC (.ty n)):=by exact⟨W8 hg hm hv rfl hn hd⟩
def aL{i:Nat}{x:Str}(hN:X.N.Nodup)(hi:X.N[i]?=some x:=by rfl)(hx:Loc X.env.scope x:=by first|exact Or.inl rfl|exact Or.inr rfl)(hf:X.fn x=true\/X.env.scope.names.lookup x=some .local:=by first|exact .inl rfl|exact .inr rfl|assumption):bG X (.Name x pos) (gj i):=by constructor;intro AT s σ H v u Q I r h;exact wpAny_assign_Name (t_ I hN hi hx r (λs' I'=>⟨_,H,I',h⟩) hf)
def Cp{c:Expr}{body:Da Stmt}{tc:TT}{tb:TS}(hp:PassesOwn (model X.prog X.w) X.A X.env X.xe)(hc:bT X c tc)(hb:cO X body tb):bS X (.While c body [] pos) (Y5 tc tb):=by
 have hc:=hc.h;have hb:=hb.h;constructor;intro AT s σ H D I h;obtain⟨W,⟨m0,w0⟩,turn⟩:=h;refine wpAny_While (codeAny_whileLoop (λn s'=>∃σ' H',Inv X AT σ' H' s'/\W n σ' H') ?_ m0 ⟨σ,H,I,w0⟩);rintro n s1 ⟨σ1,H1,I1,w1⟩;refine xF hp (bg (hc AT s1 σ1 H1 _ I1 (turn n σ1 H1 w1)) λb s2 ⟨H2,I2,q2⟩=>?_);cases b with
 | true=>
  obtain⟨N,hN,q2⟩:=q2;rw[aC rfl];refine xF hp (bg (hb AT s2 σ1 H2 _ I2 q2) λf s3 q3=>?_);cases f with
  | next=>obtain⟨σ3,H3,I3,n3⟩:=q3;obtain⟨m',hm,w3⟩:=hN σ3 H3 n3;exact⟨m',hm,σ3,H3,I3,w3⟩
  | cont=>obtain⟨σ3,H3,I3,n3⟩:=q3;obtain⟨m',hm,w3⟩:=hN σ3 H3 n3;exact⟨m',hm,σ3,H3,I3,w3⟩
  | brk=>exact q3
  | ret v=>exact q3
 | false=>rw[aB fQ];exact xG ⟨σ1,H2,I2,q2⟩
def AR{tg:Expr}{ob:Expr}{td:TE}{B2 cpos:Pos}(hob:bE X ob td)(hbase:attributeBase ob "values" X.env (eval ob X.env)=eval ob X.env:=by rfl)(hline:(B2.endLine==cpos.line)=true:=by rfl):bI X tg (.Call (.Attribute ob "values" B2) [] [] cpos) (acR td):=by
 have hob:=hob.h;constructor;intro AT s σ H R I h;refine wpAny_Call_method0_late hbase hline (bg (hob AT s σ H _ I h) λv s1 ⟨x,H1,I1,r1,q1⟩=>?_);obtain⟨d,o,Ap,rfl,e,fin⟩:=q1;cases r1;obtain⟨ho,hz,hsys,vs,ep,rel,da⟩:=I1.qV e;obtain⟨t1,t2,_⟩:=JC I1 (.inl ⟨Ap,.inr ⟨o,e⟩⟩);have dd:=da.dictOf;refine⟨"dict",_,F.plainAttrs_dict,Pa,F.type_dict_values,t1,t2,O1 rfl (PySem.evalArgs_none ?_)⟩;refine call_meetsIn Pa dd.typeIs F.entry_dict_values (F.args_dict_values_1 _) (meets_dict_values (cY X.prog X.w) d hsys) ⟨⟨vs,dd⟩,?_⟩;refine wpAny_pyIter_values (s:={ s1 with heap:=s1.heap.push { cls:=.type "dict_values",data:=.fields #[.ref d] } }) ⟨_,dZ _ rfl,Z,Z⟩ (da.push _) ?_;have Iv:Inv X AT σ H1 { s1 with heap:=s1.heap.push { cls:=.type "dict_values",data:=.fields #[.ref d] } }:=I1.kept (t':=s1.toks) λb o e=>bU _ e;generalize ({ s1 with heap:=s1.heap.push { cls:=.type "dict_values",data:=.fields #[.ref d] } }:Shared)=sv at *;have I2:Inv X AT σ H1 { sv with heap:=sv.heap.push { cls:=.type "dict_valueiterator",data:=.fields #[.ref d,.int 0 0,.int vs.length 0,.int ep 0] } }:=Iv.kept (t':=sv.toks) λb o e=>bU _ e;have hl:Ap.length=vs.length:=rel.length;obtain⟨o',es,h1,_,h2,_⟩:=id da;rw[ho]at h1;cases h1;refine⟨sv.heap.objs.size,[sv.heap.objs.size],_,_,H1,Z,I2,R5 h2,?_,λb hb=>?_,fin⟩
 .rw [hl];exact⟨_,dZ _ rfl,Z,Z⟩
 .have eb:b=sv.heap.objs.size:=by simpa using hb
  subst eb;exact Iv.BY (aN _) (Iv.hok.fresh (aN _))
def nv{id:String}(pa:PlainAttrs T)(slot:Slot T name id)(hty:typeOf (.builtin id)=pure (.type "method_descriptor"))(hm:MtR X id r)(ho:bE X o to)(ha:bA X (e::es) t)(hbase:attributeBase o name X.env (eval o X.env)=eval o X.env:=by rfl)(hfew:((backTo cpos (starEach (e::es) X.env)).all (λx=>!x.1) && (backToKw cpos (keywordEach [] X.env)).all (λx=>x.1.isSome)
   && decide ((e::es).length+([] :Da Keyword).length+(if([] :Da Keyword).isEmpty then 0 else 1)<30))=true:=by rfl)(hline:(B2.endLine==cpos.line)=true:=by rfl)(hs:starEach (e::es) X.env=(false,eval e X.env)::starEach es X.env:=by rfl)(hplain:(backTo cpos (starEach es X.env)).any (·.1)=false:=by rfl):bE X (.Call (.Attribute o name B2) (e::es) [] cpos) (tBM X.K T r to t):=by
 have ho:=ho.h;have ha:=ha.h;constructor
 intro AT s σ H Q I h
 refine wpAny_Call_method_late hbase hfew hline rfl (bg (ho AT s σ H _ I h) λv s1 ⟨x,H1,I1,r1,ty,q1⟩=>?_)
 obtain⟨h1,h2⟩:=Zz I1 r1 ty
 refine⟨T,id,pa,slot,hty,h1,h2,?_⟩
 have hA:=ha cpos AT s1 σ H1 _ I1 q1
 rw[hs]at hA ⊢
 refine O1 (by show(false || (backTo cpos (starEach es X.env)).any (·.1))=false;rw[hplain] <;> rfl) (Calls.evalArgs_plain ?_)
 exact bg hA λus s2 ⟨vs,H2,I2,r2,q2⟩=>hm AT s2 σ H2 x vs v us Q I2 r1 r2 q2
def Yr{X:Cx}{pos:Pos}:WG X pos [] [] [] :=by exact⟨λAT s σ H Q I h=>pairTrees_nil_walk ⟨[],H,I,.nil,h⟩⟩
def KD{X:Cx}{e:Expr}{t:TE}(h:bE X e t):bE X e (af7 t):=by have h:=h.h;constructor;intro AT s σ H Q I hw;obtain⟨d,Ap,e,hw⟩:=hw;obtain⟨ho,es,ep,h1,_⟩:=(Df I.hok e).2.2.choose_spec.2;have h0:=I.R4 e;exact bg (h AT s σ _ _ (I.freeze e h1) (hw ho)) λu s' ⟨v,H',I',r,q1,q2⟩=>⟨v,_,I'.B_ q1 h0,r,q2⟩
def VH{op op':CmpOp}{r r':R2}(ho:ir X (compareOp op) r)(ho':ir X (compareOp op') r')(ha:bE X a ta)(hb:bE X b tb)(hc:bE X c tc)(hm:lastMarks [op,op'] [b,c]=false:=by with_unfolding_all rfl):bE X (.Compare a [op,op'] [b,c] pos) (Zb r r' ta tb tc):=by
 have ha:=ha.h;have hb:=hb.h;have hc:=hc.h;constructor;intro AT s σ H Q I h;refine Compare_chain (bg (ha AT s σ H _ I h) λv s1 ⟨x,H1,I1,r1,q1⟩=>chain_link (bg (hb AT s1 σ H1 _ I1 q1) λu s2 ⟨y,H2,I2,r2,q2⟩=>
  bg (ho AT s2 σ H2 x y v u _ I2 r1 r2 q2) λd s3 ⟨z,H3,I3,r3,k,e,q3⟩=>?_)) hm
 subst e;cases r3;refine yT ?_;cases k with
 | false=>exact ite_ff ⟨.bl false,H3,I3,Z,q3⟩
 | true=>exact ite_tt (chain_last (bg (hc AT s3 σ H3 _ I3 q3) λw' s4 ⟨z',H4,I4,r4,q4⟩=>ho' AT s4 σ H4 y z' u w' Q I4 r2 r4 q4))
def iC{x1}(h:bA X es t):bE X (.Tuple es x1 pos) (Zj t):=by have h:=h.h;constructor;intro AT s σ H Q I hq;refine wpAny_Tuple_spliced (bg (h pos AT s σ H _ I hq) λus s1 ⟨xs,H1,I1,r,z,q⟩=>⟨by rw[<-r.length];exact z,?_⟩);have hf:H1 s1.heap.objs.size=none:=I1.hok.fresh (aN _);refine⟨.ref s1.heap.objs.size,upd H1 s1.heap.objs.size (.tup xs),I1.laid (t':=s1.toks) (λb u e=>bU _ e) (aN _) ?_,Z,q _ hf⟩;exact⟨z,us,r,⟨_,dZ _ rfl,Z,_,Z⟩⟩
def KG{tg Bz elt cond:Expr}{scope:Scope}{pos:Pos}(N2:Da Str)(ix:Da (Option Nat)){wi:TI}{g:TG}{tc:TT}{te:TE}(hc:X.calm=true)(hi:bI X tg Bz wi)(hg:∀cl s₂ H₂ fp,bG (cW X N2 scope cl s₂ H₂ fp) tg g)(he:∀cl s₂ H₂ fp,bE (cW X N2 scope cl s₂ H₂ fp) elt te)(ht:∀cl s₂ H₂ fp,bT (cW X N2 scope cl s₂ H₂ fp) cond tc)(hk:scope.kind =.function)(hn:mZ X.N X.env.scope.names scope.names N2 ix=true)(hs:∀x,foldedSetIterable Bz X.env x=pure x:=by intro _;rfl):bE X (.ListComp elt [⟨tg,Bz,[cond],0⟩] scope pos) (Dz wi ix g tc te):=⟨U7 N2 ix hc hi.h (λcl s₂ H₂ fp=>(hg cl s₂ H₂ fp).h) (λcl s₂ H₂ fp=>(he cl s₂ H₂ fp).h) (λcl s₂ H₂ fp=>(ht cl s₂ H₂ fp).h) hk hn hs⟩
def aD{op:Operator}{r:R2}(ho:ir X (binaryOp op) r)(ha:bE X a ta)(hb:bE X b tb):bE X (.BinOp a op b pos) (Gk r ta tb):=by have ha:=ha.h;have hb:=hb.h;constructor;intro AT s σ H Q I h;exact wpAny_BinOp (Uw ha hb I h λv u s2 x y H2 I2 rx ry q=>ho AT s2 σ H2 x y v u Q I2 rx ry q)
def w6{op:CmpOp}{t:TE}(h:bC X op a b t)(h1:behindInMarks op b=false:=by first|exact Jr _ (by decide) (by decide)|rfl):bT X (.Compare a [op] [b] pos) (tB t):=by have h:=h.h;constructor;intro AT s σ H Q I hw;refine wpAny_isTrue_Compare1 (bg (h AT s σ H _ I hw) λv s1 h1=>bg h1 λu s2 h2=>bg h2 λc s3 ⟨x,H1,I1,r1,q1⟩=>?_) h1;obtain⟨d,rfl,q⟩:=q1;cases r1;exact yT ⟨H1,I1,q⟩
def dG{tg:Expr}{Bz:Expr}{body:Da Stmt}{wi:TI}{g:TG}{tb:TS}{pos:Pos}(hp:PassesOwn (model X.prog X.w) X.A X.env X.xe)(hc:X.calm=true)(hi:bI X tg Bz wi)(hg:bG X tg g)(hb:cO X body tb)(hs:∀x,foldedSetIterable Bz X.env x=pure x:=by intro _;rfl):bS X (.For tg Bz body [] pos) (afN wi g tb):=by
 have hi:=hi.h;have hg:=hg.h;have hb:=hb.h;constructor;intro AT s σ H D I h;refine wpAny_For (bg (hi AT s σ H _ I h) λv s1 h1=>bg h1 λitv s2 h2=>?_) hs;obtain⟨it,fp,tn,J,H2,e,I2,T,st2,f2,W,⟨m0,w0⟩,turn⟩:=h2;subst e;have uf:∀{H':Hp},(∀b∈fp,H' b=none)->∀b∈fp,oV X AT H' b:=λhn b hb=>⟨hn b hb,(f2 b hb).2⟩
 refine codeAny_forLoop_any (λn s'=>∃i σ' H',Inv X AT σ' H' s'/\tn i s'.heap/\(∀b∈fp,H' b=none)/\W i n σ' H') ?_ m0 ⟨0,σ,H2,I2,st2,λb hb=>(f2 b hb).1,w0⟩;rintro n s3 ⟨i,σ3,H3,I3,st3,fr3,w3⟩;rcases turn i n σ3 H3 w3 with⟨stop,qn⟩|⟨go,N,hN,step⟩
 .refine xF hp (bg (T.done X rfl rfl rfl hc i AT s3 σ3 H3 X.xe I3 (uf fr3) st3 stop) λr s4 ⟨hr,I4⟩=>?_);subst hr;exact xG ⟨σ3,H3,I4,qn⟩
 .refine xF hp (bg (T.item X rfl rfl rfl hc i AT s3 σ3 H3 X.xe I3 (uf fr3) st3 go) λr s4 ⟨u,hr,h4⟩=>?_);subst hr;refine xF hp (bg h4 λ_ s5 ⟨x,H5,I5,r5,y5,zg,JJ⟩=>?_);have I5':=I5.pinned (uf JJ) (T.obj _ _ zg);refine xF hp (bg (hg _ s5 σ3 H5 x u _ I5' r5 (step x H5 y5)) λ_ s6 ⟨σ6,H6,I6,q6⟩=>?_);refine xF hp (bg (hb _ s6 σ6 H6 _ I6 q6) λf s7 q7=>?_);have again:∀{σ7:St}{H7:Hp},Inv X (AT++C4 fp s5.heap) σ7 H7 s7->N σ7 H7->∃m,m<n/\∃i σ' H',Inv X AT σ' H' s7/\tn i s7.heap/\(∀b∈fp,H' b=none)/\W i m σ' H':=λ{σ7 H7} I7 n7=>by obtain⟨m',hm,w7⟩:=hN σ7 H7 n7;refine⟨m',hm,i+1,σ7,H7,I7.qp,T.keep _ _ _ zg λb hb o e=>(I7.pin (b,o) (jA _ (jA _ (jf hb e)))).1,λb hb=>?_,w7⟩;obtain⟨o,e,d⟩:=T.obj _ _ zg b hb;exact(I7.pin (b,o) (jA _ (jA _ (jf hb e)))).2.1
  cases f with
  | next=>obtain⟨σ7,H7,I7,n7⟩:=q7;exact again I7 n7
  | cont=>obtain⟨σ7,H7,I7,n7⟩:=q7;exact again I7 n7
  | brk=>obtain⟨σ7,H7,I7,q7⟩:=q7;exact⟨σ7,H7,I7.qp,q7⟩
  | ret v=>obtain⟨x7,σ7,H7,I7,r7,q7⟩:=q7;exact⟨x7,σ7,H7,I7.qp,r7,q7⟩
def nN{lo:Option Expr}{hi:Option Expr}{r:V->Option Int->Option Int->Hp->VK->Prop}(hr:RB X r)(he:bE X e te)(hl:bO X lo tl)(hu:bO X hi th):bE X (.Subscript e (.Slice lo hi none p2) pos) (tSl r te tl th):=by have he:=he.h;have hl:=hl.h;have hu:=hu.h;constructor;intro AT s σ H Q I h;refine Subscript_ (bg (he AT s σ H _ I h) λv s1 ⟨x,H1,I1,r1,q1⟩=>?_);refine wpAny_Slice (bg (hl AT s1 σ H1 _ I1 q1) λvl s2 ⟨l,H2,I2,pl,q2⟩=>bg (hu AT s2 σ H2 _ I2 q2) λvu s3 ⟨u,H3,I3,pu,q3⟩=>?_);rw[evalPart_none];refine aJ ?_;have I4:Inv X AT σ H3 { s3 with heap:=s3.heap.push { cls:=.type "slice",data:=.fields #[vl,vu,.none] } }:=I3.kept (t':=s3.toks) λb ob q=>bU _ q;obtain⟨T,id,hT,ht,hg⟩:=hr AT { s3 with heap:=s3.heap.push { cls:=.type "slice",data:=.fields #[vl,vu,.none] } } σ H3 x v vl vu l u s3.heap.objs.size Q I4 r1 (Heap.IsSliceOf.new ..) pl pu q3;show wpAny (model X.prog X.w) X.A (subscriptTail e (.Slice lo hi none p2) v (.ref s3.heap.objs.size)) (EP X AT σ Q) X.xe { s3 with heap:=s3.heap.push { cls:=.type "slice",data:=.fields #[vl,vu,.none] } };exact tail_any (ops:=[.ref s3.heap.objs.size,v]) ht hT hg (by with_unfolding_all rfl)
def e_{tg Bz elt:Expr}{scope:Scope}{pos:Pos}(N2:Da Str)(ix:Da (Option Nat)){wi:TI}{g:TG}{te:TE}(hc:X.calm=true)(hi:bI X tg Bz wi)(hg:∀cl s₂ H₂ fp,bG (cW X N2 scope cl s₂ H₂ fp) tg g)(he:∀cl s₂ H₂ fp,bE (cW X N2 scope cl s₂ H₂ fp) elt te)(hk:scope.kind =.function)(hn:mZ X.N X.env.scope.names scope.names N2 ix=true)(hs:∀x,foldedSetIterable Bz X.env x=pure x:=by intro _;rfl):bE X (.ListComp elt [⟨tg,Bz,[],0⟩] scope pos) (Wd wi ix g te):=by have hi:=hi.h;have hg:=λcl s₂ H₂ fp=>(hg cl s₂ H₂ fp).h;have he:=λcl s₂ H₂ fp=>(he cl s₂ H₂ fp).h;constructor;intro AT s σ H Q I h;obtain⟨k1,k2,k3,k4,k5⟩:=mj hn;obtain⟨cl,JO,c1,c2⟩:=tN (scope:=scope) (env:=X.env) λy hy e=>I.ok.has y.1 (k3 y hy e);rw[eval_ListComp];refine OY (use:=none) rfl hs JO hk k4 (bg (hi AT s σ H _ I h) λv s1 h1=>bg h1 λitv s2 h2=>?_);obtain⟨it,fp,tn,J,H2,e,I2,T,st2,f2,h2⟩:=h2;subst e;refine Dp (RR:=λBM C=>compPost (model X.prog X.w) X.A X.xe none (EP X AT σ Q) BM C) (Q:=Q) hc hg he hk hn (λy c m=>(c1 y c m).1) c2 I2 T st2 f2 h2 ?_;intro BM C H' s' m I' ns zf hL hsz o7 xV q;exact⟨m,ns,λh' hs'=>⟨.ref BM,H',I'.turned (it:=C) (t':=s'.toks) (λb o hb e=>(hs'.2 b hb).trans e) zf hL (.inr hsz) o7 xV,Z,q⟩⟩
def KH(hu:X.A.units+1<cLine)(hi:bE X i ty)(ho:bE X o td):bC X .In i o (afY ty td):=by have hi:=hi.h;have ho:=ho.h;constructor;intro AT s σ H Q I h;refine bg (hi AT s σ H _ I h) λiv s1 ⟨y,H1,I1,ry,q1⟩=>bg (ho AT s1 σ H1 _ I1 q1) λu s2 ⟨x,H2,I2,rx,a,ov,ex,g,q2⟩=>?_;subst ex;obtain rfl:u=Value.ref a:=rx;exact afX hu I2 g ry λs3 I3=>⟨.bl ov.isSome,H2,I3,Z,q2⟩
def aaZ(ha:bE X a ta):bE X (.UnaryOp .Not a pos) (acj ta):=by have ha:=ha.h;constructor;intro AT s σ H Q I h;refine UnaryOp_ (bg (ha AT s σ H _ I h) λv s1 ⟨x,H1,I1,r1,q1⟩=>?_);obtain⟨c,rfl,q1⟩:=q1;cases r1;exact not_of (yT ⟨.bl (!c),H1,I1,Z,q1⟩)
def bw{x j pos}:bE X (.Constant (.str x) j pos) (tC (.str x)):=⟨Ri⟩
def AS{op:UnaryOp}{r:V->Hp->VK->Prop}(ho:Y8 X (unaryOp op) r)(ha:bE X a ta):bE X (.UnaryOp op a pos) (tUn r ta):=by have ha:=ha.h;constructor;intro AT s σ H Q I h;exact UnaryOp_ (bg (ha AT s σ H _ I h) λv s1 ⟨x,H1,I1,r1,q1⟩=>ho AT s1 σ H1 x v Q I1 r1 q1)
def tV(K:Fg){a b:Expr}{ta:TA}{p pos:Pos}(hg:Gl X "zip")(hm:X.mg "zip"=none)(ha:bA X [a,b] ta)(hK:X.K=K:=by rfl)(hs:starEach [a,b] X.env=[(false,eval a X.env),(false,eval b X.env)] :=by rfl)(hs2:starEach [b] X.env=[(false,eval b X.env)] :=by rfl):bI X (.Tuple DD kk tpos) (.Call (.Name "zip" p) [a,b] [] pos) (acT K ta):=by
 have ha:=ha.h;constructor;subst hK;intro AT s σ H R I h;refine Call_ (ua I hg hm boot_zip (Q_ (bg (ha pos AT s σ H _ I h) λus s1 ⟨vs,H1,I1,r1,q1⟩=>?_) (by rw[hs,hs2]) (by rw[hs2];rfl)));obtain⟨u1,u2,S1,S2,xs,ys,e,k1,k2,q⟩:=q1;subst e;obtain⟨u,w',rfl,ru,rw'⟩:=vals2 r1;obtain⟨g1,l1,o1,p1,lt1,b1,ai1,at1,st1,c1⟩:=k1.ok I1 ru;obtain⟨g2,l2,o2,p2,lt2,b2,adn,at2,st2,c2⟩:=k2.ok I1 rw';refine callType_newIn F.called_zip (by decide) (F.typeCall_zip_2 _ _) (F.newCall_zip_2 _ _) (λobj=>F.args_object_init_3 obj _ _) F.entry_zip_new (PZ st1 st2) ⟨b1,adn _ _ b2,?_⟩;have z1:(s1.heap.push o1).objs.size=s1.heap.objs.size+1:=lY ..;have z2:((s1.heap.push o1).push o2).objs.size=s1.heap.objs.size+2:=by rw[lY,z1]
 generalize e3:({ cls:=.type "tuple",data:=.seq #[.ref s1.heap.objs.size,.ref (s1.heap.push o1).objs.size] }:Obj)=o3;have z3:(((s1.heap.push o1).push o2).push o3).objs.size=s1.heap.objs.size+3:=by rw[lY,z2]
 generalize e4:({ cls:=.type "tuple",data:=.seq #[.none,.none] }:Obj)=o4;have z4:((((s1.heap.push o1).push o2).push o3).push o4).objs.size=s1.heap.objs.size+4:=by rw[lY,z3]
 generalize e5:({ cls:=.type "zip",data:=.fields #[.none,.bool false,.bool false,.ref ((s1.heap.push o1).push o2).objs.size,.ref (((s1.heap.push o1).push o2).push o3).objs.size] }:Obj)=o5;have g5:(((((s1.heap.push o1).push o2).push o3).push o4).push o5).get? ((((s1.heap.push o1).push o2).push o3).push o4).objs.size=some o5:=dZ _ (by rw[<-e5];rfl);have g4:(((((s1.heap.push o1).push o2).push o3).push o4).push o5).get? (((s1.heap.push o1).push o2).push o3).objs.size=some o4:=bU _ (dZ _ (by rw[<-e4];rfl));have g3:(((((s1.heap.push o1).push o2).push o3).push o4).push o5).get? ((s1.heap.push o1).push o2).objs.size=some o3:=bU _ (bU _ (dZ _ (by rw[<-e3];rfl)));have g2':(((((s1.heap.push o1).push o2).push o3).push o4).push o5).get? (s1.heap.push o1).objs.size=some o2:=bU _ (bU _ (bU _ (at2 _)));have g1':(((((s1.heap.push o1).push o2).push o3).push o4).push o5).get? s1.heap.objs.size=some o1:=bU _ (bU _ (bU _ (bU _ (at1 _))));have kp:∀c o,s1.heap.get? c=some o->(((((s1.heap.push o1).push o2).push o3).push o4).push o5).get? c=some o:=λc o x=>bU _ (bU _ (bU _ (bU _ (bU _ x))));rw[z4]at g5 ⊢;rw[z3]at g4 e5;rw[z2]at g3 e5;rw[z1]at g2' e3;generalize (((((s1.heap.push o1).push o2).push o3).push o4).push o5)=hN at *;show _/\_;subst e3 e4 e5;refine⟨⟨_,g5,Z⟩,wpAny_pyIter_zip (s:={ s1 with heap:=hN }) g5 ?_⟩;have I2:Inv X AT σ H1 { s1 with heap:=hN }:=I1.kept (t':=s1.toks) kp;obtain⟨t1,ai3,C1,n1⟩:=c1 s1.heap.objs.size;obtain⟨t2,ai4,C2,n2⟩:=c2 (s1.heap.objs.size+1);refine⟨s1.heap.objs.size+4,[s1.heap.objs.size+4,s1.heap.objs.size+2,s1.heap.objs.size+3,s1.heap.objs.size,s1.heap.objs.size+1],_,_,H1,Z,I2,R9 (Mr lt1 lt2) C1 C2,⟨g5,g3,⟨_,_,g4⟩,n1 _ g1',n2 _ g2'⟩,λb hb=>?_,q⟩;have hb':b=s1.heap.objs.size+4\/b=s1.heap.objs.size+2\/b=s1.heap.objs.size+3\/b=s1.heap.objs.size\/b=s1.heap.objs.size+1:=by simpa using hb
 have le:s1.heap.objs.size<=b:=by
  rcases hb' with r|r|r|r|r
  .rw [r];exact CQ _ _
  .rw [r];exact CQ _ _
  .rw [r];exact CQ _ _
  .rw [r];exact aN _
  .rw [r];exact CQ _ _
 exact I1.BY le (I1.hok.fresh le)
def aT{op:CmpOp}{r:R2}(ho:ir X (compareOp op) r)(ha:bE X a ta)(hb:bE X b tb)(hm:behindInMarks op b=false):bT X (.Compare a [op] [b] pos) (V8 (Gk r ta tb)):=by
 have ha:=ha.h;have hb:=hb.h;constructor;intro AT s σ H Q I h;refine wpAny_isTrue_Compare1 (bg (ha AT s σ H _ I h) λv s1 ⟨x,H1,I1,r1,q1⟩=>bg (hb AT s1 σ H1 _ I1 q1) λu s2 ⟨y,H2,I2,r2,q2⟩=>
  bg (ho AT s2 σ H2 x y v u _ I2 r1 r2 q2) λc s3 ⟨z,H3,I3,r3,k,e,q3⟩=>?_) hm
 subst e;cases r3;exact yT ⟨H3,I3,q3⟩
def aQ{i:Nat}{x:Str}{e:Expr}{te:TE}{pos':Pos}(hN:X.N.Nodup)(he:bE X e te)(hi:X.N[i]?=some x:=by rfl)(hx:Loc X.env.scope x:=by first|exact Or.inl rfl|exact Or.inr rfl)(hs:swapsWith e (some (.Name x pos')) pos.line X.env=pure false:=by rfl)(hf:X.fn x=true\/X.env.scope.names.lookup x=some .local:=by first|exact .inl rfl|exact .inr rfl|assumption):bS X (.Assign [.Name x pos'] e pos) (yW te (gj i)):=by have he:=he.h;constructor;intro AT s σ H D I h;refine wpAny_Assign_Name (bg (he AT s σ H _ I h) λv s1 ⟨y,H1,I1,r1,q1⟩=>?_) hs;exact t_ I1 hN hi hx r1 (λs2 I2=>⟨_,H1,I2,q1⟩) hf
theorem Ys{X:Cx}{pos:Pos}{keys:Da (Option Expr)}{values:Da Expr}{Dg:Da (TE×TE)}(h:WG X pos keys values Dg)(hall:keys.all (·.isSome)=true)(hl:keys.length=values.length)(h0:keys≠[])(h15:keys.length<=15):bE X (.Dict keys values pos) (acI Dg):=by
 have h:=h.h;constructor;intro AT s σ H Q I q;have hn:=I.hok.fresh (aN s.heap.objs.size);have I1:=I.laid (a:=s.heap.objs.size) (o:=.dK []) (h':=s.heap.push { cls:=.type "dict",data:=.dict #[] }) (t':=s.toks) (λ_ _ q=>bU _ q) (aN _) (JB s.heap I.big);refine wpAny_Dict_walk (knd:=cY X.prog X.w) hall hl h0 h15 (bg (h AT _ σ _ _ I1 (q _ hn)) λws s2 ⟨ps,H2,I2,rel,e,Ap,ep,lk,q2⟩=>?_);subst ep;obtain⟨rs,c,rk⟩:=Dh (P:=X.prog) (w:=X.w) rel;obtain⟨z,hd,vs0,r0,dd⟩:=Df I2.hok e;cases r0;refine⟨rs,c,dd,λh' Bm hs=>⟨.ref s.heap.objs.size,_,?_,Z,q2⟩⟩;have hz:(wO [] Ap).length<=sizeLine:=by have h1:=yC Ap [];rw[List.length_nil]at h1;rw[eW];omega
 have he:∃q,h'.get? s.heap.objs.size=some q:=let⟨q,_,_,hq,_⟩:=Bm;⟨q,hq⟩;exact AF I2 (by rw[e];exact True.intro) hs he (JA hz hd (rk.merge .nil) Bm)
def c8(K:Fg){tg l:Expr}{tl:TE}(hl:bE X l tl)(hK:X.K=K:=by rfl):bI X tg l (V6 K tl):=by have hl:=hl.h;exact⟨hK▸Xa hl⟩
def ff{X:Cx}{e:Expr}{t:TT}(h:bT X e t):bT X e (λσ H Q=>∃b:Bool,t σ H (λb' H'=>b'=b/\H'=H)/\Q b H):=by have h:=h.h;constructor;intro AT s σ H Q I hw;obtain⟨b,hb,q⟩:=hw;refine bg (h AT s σ H _ I hb) λb' s' ⟨H',I',e1,e2⟩=>?_;subst e1 e2;exact⟨_,I',q⟩
def au{st:Stmt}(h1:bS X st t):cO X [st] t:=by
 have h1:=h1.h;constructor;intro AT s σ H D I h;refine wpAny_execs_cons (bg (h1 AT s σ H D I h) λf s1 q=>?_);cases f with
 | next=>exact xG q
 | ret v=>exact q
 | brk=>exact q
 | cont=>exact q
def Yt(ho:bE X o td)(hi:bE X i ty):bS X (.Delete [.Subscript o i tpos] pos) (acH td ty):=by have ho:=ho.h;have hi:=hi.h;constructor;intro AT s σ H D I h;refine wpAny_Delete (wpAny_deleteEach_cons (wpAny_delete_Subscript (bg (ho AT s σ H _ I h) λu s1 ⟨x,H1,I1,rx,q1⟩=>bg (hi AT s1 σ H1 _ I1 q1) λiv s2 ⟨y,H2,I2,ry,a,Ap,k,ex,e,ey,l,q2⟩=>?_)));subst ex ey;obtain rfl:u=Value.ref a:=rx;exact RJ I2 e ry l λs3 I3=>wpAny_deleteEach_nil ⟨σ,_,I3,q2⟩
def dS(ha:bT X a tA):bT X (.UnaryOp .Not a pos) (YT tA):=by have ha:=ha.h;constructor;intro AT s σ H Q I h;exact isTrue_not (ha AT s σ H (λc H1=>Q (!c) H1) I h)
def dN(he:bE X e te)(hs:swapsWith e none pos.line X.env=pure false:=by rfl):bS X (.Expr e pos) (ack te):=by have he:=he.h;constructor;intro AT s σ H D I h;exact wpAny_Expr_any (bg (he AT s σ H _ I h) λv s1 ⟨x,H1,I1,r1,q1⟩=>⟨σ,H1,I1,q1⟩) I.quiet hs
def iV{pl:Sem Bool}{j k:Nat}{C:Addr}{m:Str}{ps:Da Str}{sp:Sp}{o e:Expr}{es:Da Expr}{ta:TE}{t:TA}{B2 pos:Pos}(D:Mn X.prog X.w X.K X.mg X.base j C m ps sp)(hr:dj k X.A)(ho:bE X o ta)(ha:bA X (e::es) t)(hj:j<=k:=by decide)(hst:starEach (e::es) X.env=(false,eval e X.env)::starEach es X.env:=by rfl)(hpl:(backTo pos (starEach es X.env)).any (·.1)=false:=by rfl)(ht:eval (.Call (.Attribute o m B2) (e::es) [] pos) X.env=(do
   let ov <-eval o X.env
   standAt B2.atName
   let(f,first) <-holding [ov] (getMethod ov m pl)
   callWith pos f first (backTo pos (starEach (e::es) X.env)) (backToKw pos (keywordEach [] X.env))):=by rfl):bE X (.Call (.Attribute o m B2) (e::es) [] pos) (C_ C m sp [] E0 ta t):=by
 have ho:=ho.h;have ha:=ha.h;constructor
 obtain⟨f,fd,F,b,hm,c⟩:=D.ex
 exact NL (pl:=pl) ho c hm F (hr.mono hj) b .nil (λ_ _ _ _ _ _ _ h=>h.elim) ha hst hpl ht
def cI{e:Expr}{es:Da Expr}{t:TG}{u:C0}(h1:bG X e t)(h2:WE X es u)(hs:(assignEach (e::es) X.env).map (·.2)=assign e X.env::(assignEach es X.env).map (·.2):=by rfl):WE X (e::es) (V5 t u):=by
 have h1:=h1.h;have h2:=h2.h;constructor;intro AT s σ H vs us Q I r h;obtain⟨v,vr,e1,h⟩:=h;subst e1;cases r with
 | cons r rr=>rw[hs];refine assignInOrder_cons (bg (h1 AT s σ H _ _ _ I r h) λ_ s1 ⟨σ1,H1,I1,q1⟩=>?_);exact h2 AT s1 σ1 H1 _ _ Q I1 rr q1
def oJ{i:Nat}{x:Str}{px pos':Pos}{tg Bz elt:Expr}{scope:Scope}{pos:Pos}(N2:Da Str)(ix:Da (Option Nat)){wi:TI}{g:TG}{te:TE}(hN:X.N.Nodup)(hi:X.N[i]?=some x)(hx:X.env.scope.names.lookup x=some .local)(hc:X.calm=true)(hit:bI X tg Bz wi)(hg:∀cl s₂ H₂ fp,bG (cW X N2 scope cl s₂ H₂ fp) tg g)(he:∀cl s₂ H₂ fp,bE (cW X N2 scope cl s₂ H₂ fp) elt te)(hk:scope.kind =.function)(hn:mZ X.N X.env.scope.names scope.names N2 ix=true)(hw:swapsWith (.ListComp elt [⟨tg,Bz,[],0⟩] scope pos) (some (.Name x px)) pos'.line X.env=pure true)(hs:∀x,foldedSetIterable Bz X.env x=pure x:=by intro _;rfl):bS X (.Assign [.Name x px] (.ListComp elt [⟨tg,Bz,[],0⟩] scope pos) pos') (yW (Wd wi ix g te) (gj i)):=by
 have hit:=hit.h;have hg:=λcl s₂ H₂ fp=>(hg cl s₂ H₂ fp).h;have he:=λcl s₂ H₂ fp=>(he cl s₂ H₂ fp).h;constructor;intro AT s σ H D I h;obtain⟨k1,k2,k3,k4,k5⟩:=mj hn;obtain⟨cl,JO,c1,c2⟩:=tN (scope:=scope) (env:=X.env) λy hy e=>I.ok.has y.1 (k3 y hy e);rw[exec_Assign_Name_used _ _ _ _ hw];refine aq (Ao (aq ?_));show wpAny _ X.A (do let _ <-comprehension (.ListComp elt [⟨tg,Bz,[],0⟩] scope pos) scope X.env _ (newList []) false (eval Bz X.env) (some (assign (.Name x px) X.env))) _ _ s;refine aq (bg (OY (use:=some (assign (.Name x px) X.env)) (Q:=λ_ s'=>SP X AT D .next s') rfl hs JO hk k4 (bg (hit AT s σ H _ I h) λv s1 h1=>bg h1 λitv s2 h2=>?_)) λ_ s' hq=>aJ (aJ hq));obtain⟨it,fp,tn,J,H2,e,I2,T,st2,f2,h2⟩:=h2;subst e;refine Dp (RR:=λBM C=>compPost (model X.prog X.w) X.A X.xe (some (assign (.Name x px) X.env)) (λ_ s'=>SP X AT D .next s') BM C) (Q:=λv H'=>D.nx (σ.set i (some v)) H') hc hg he hk hn (λy c m=>(c1 y c m).1) c2 I2 T st2 f2 h2 ?_;intro BM C H' s' m I' ns zf hL hsz o7 xV q;show wpAny _ X.A (assign (.Name x px) X.env (.ref BM)) _ _ _;refine wpAny_assign_Name (yU I' hN hi (.inl hx) (v:=.ref BM) rfl (λs3 I3 ⟨a,sb,ha⟩=>?_) (.inr hx));have ca:C≠a:=by
  rcases ha with z|z
  .rw [z];exact hL
  .exact λe=>o7 x a z e.symm
 exact⟨m,ns.sameBut sb ca,λh' hs'=>⟨_,H',I3.turned (it:=C) (t':=s3.toks) (λb o hb e=>(hs'.2 b hb).trans e) zf hL (.inr hsz) o7 xV,q⟩⟩
def uK{X:Cx}{pos:Pos}{k v:Expr}{ks:Da (Option Expr)}{vs:Da Expr}{tk tv:TE}{Dg:Da (TE×TE)}(hk:bE X k tk)(hv:bE X v tv)(hr:WG X pos ks vs Dg):WG X pos (some k::ks) (v::vs) ((tk,tv)::Dg):=by
 have hk:=hk.h;have hv:=hv.h;have hr:=hr.h;exact⟨λAT s σ H Q I h=>
 pairTrees_cons_walk (bg (hk AT s σ H _ I h) λu s1 ⟨x,H1,I1,rx,q1⟩=>bg (hv AT s1 σ H1 _ I1 q1) λw2 s2 ⟨y,H2,I2,ry,q2⟩=>
  bg (hr AT s2 σ H2 _ I2 q2) λws s3 ⟨ps,H3,I3,rel,q3⟩=>⟨(x,y)::ps,H3,I3,.cons ⟨rx,ry⟩ rel,q3⟩)⟩
def zX(hu:X.A.units+1<cLine)(hi:bE X i ty)(ho:bE X o td):bC X .NotIn i o (Xo ty td):=by have hi:=hi.h;have ho:=ho.h;constructor;intro AT s σ H Q I h;refine bg (hi AT s σ H _ I h) λiv s1 ⟨y,H1,I1,ry,q1⟩=>bg (ho AT s1 σ H1 _ I1 q1) λu s2 ⟨x,H2,I2,rx,a,ov,ex,g,q2⟩=>?_;subst ex;obtain rfl:u=Value.ref a:=rx;exact Xl hu I2 g ry λs3 I3=>⟨.bl (!ov.isSome),H2,I3,Z,q2⟩
def eY{b j pos}:bE X (.Constant (.bool b) j pos) (tC (.bl b)):=by exact⟨λ_ _ _ H _ I h=>Constant_bool ⟨.bl b,H,I,Z,h⟩⟩
def w_{pl:Sem Bool}{j k:Nat}{C:Addr}{m:Str}{ps:Da Str}{sp:Sp}{o:Expr}{ta:TE}{B2 pos:Pos}(D:Mn X.prog X.w X.K X.mg X.base j C m ps sp)(hr:dj k X.A)(ho:bE X o ta)(hj:j<=k:=by decide)(ht:eval (.Call (.Attribute o m B2) [] [] pos) X.env=(do
   let ov <-eval o X.env
   standAt B2.atName
   let(f,first) <-holding [ov] (getMethod ov m pl)
   callWith pos f first (backTo pos (starEach [] X.env)) (backToKw pos (keywordEach [] X.env))):=by rfl):bE X (.Call (.Attribute o m B2) [] [] pos) (C_ C m sp [] E0 ta oW):=by
 have ho:=ho.h;constructor
 obtain⟨f,fd,F,b,hm,c⟩:=D.ex
 exact UG (pl:=pl) ho c hm F (hr.mono hj) b .nil (λ_ _ _ _ _ _ _ h=>h.elim) ht
def aP(he:bE X e te):bS X (.Return (some e) pos) (YX te):=by have he:=he.h;constructor;intro AT s σ H D I h;exact wpAny_Return_some (bg (he AT s σ H _ I h) λv s1 ⟨x,H1,I1,r1,q1⟩=>⟨x,σ,H1,I1,r1,q1⟩)
theorem dP{tg:Expr}{a:Expr}{ta:TA}{p pos:Pos}(hg:Gl X "range")(hm:X.mg "range"=none)(ha:bA X [a] ta)(hs:starEach [a] X.env=[(false,eval a X.env)] :=by rfl):bI X tg (.Call (.Name "range" p) [a] [] pos) (acq ta):=by
 have ha:=ha.h;constructor;intro AT s σ H R I h;refine Call_ (ua I hg hm boot_range (Q_ (bg (ha pos AT s σ H _ I h) λus s1 ⟨vs,H1,I1,r1,q1⟩=>?_) hs rfl));obtain⟨j,e,q1,q2,q⟩:=q1;subst e;cases r1 with
 | cons r rr=>cases rr;obtain⟨t,rfl⟩:=r;exact call_range_1 (Uv I1 (by omega) (by omega) q1 q2 (by simpa using q))
def aa0{j:Nat}{n J:Str}{Ja:Addr}{t:TX}{u:TS}{body:Da Stmt}{b0:Stmt}{suite:Da Stmt}{p hp pos:Pos}(hN:X.N.Nodup)(hj:X.N[j]?=some n)(hl:X.env.scope.names.lookup n=some .local)(hno:∀e s,X.xe e s->False)(hst:X.stack=X.env::X.outer)(hfr:X.env.frame=some X.env.locals)(hb:bX X body t)(hg:Gl X J)(hm:X.mg J=some (.ref Ja))(hs:∀x,cO (X.held x) (b0::suite) u)(hd:(J==("__debug__":Str))=false:=by decide):bS X (.Try body [.ExceptHandler (some (.Name J p)) (some n) (b0::suite) hp] [] [] pos) (agd X.K Ja j t u):=by
 have hb:=hb.h;have hs:=λx=>(hs x).h;constructor;intro AT s σ H D I h;refine wpAny_Try_except (gX (hb AT s σ H _ _ I h) (λf s1 q=>?_) λev s1 q=>?_)
 .cases f with
  | next=>exact xG q
  | brk=>exact q
  | cont=>exact q
  | ret u=>exact q
 .obtain ⟨x,C,σ',Hc,sc,H',rfl,F,hk,hR⟩:=q;refine Vz F I.ok.frames hst hfr λs2 F2=>Ko F2 λs3 F3=>?_;have I3:Inv (X.held x) AT σ' H' s3:=F3.inv.held x;refine wpAny_handleBy_cons (codeAny_handlers_test (qo (X:=X.held x) I3 hg hm ?_ hd)) (by intro z;cases z);obtain⟨T,⟨oe,vs,a0,oT,ts,h1,h2,_⟩,_⟩:=F3.tr;have LT:PySem.W.Looks (model X.prog X.w) s3.heap (typeOf (.ref x)) (.ref C):=by have:=(PySem.W.Looks.ld (M:=model X.prog X.w) (part:=none) h1).andThen (f:=λo=>(pure o.cls:Sem Value)) (PySem.W.Looks.now);rw[h2]at this;exact this
  refine(PySem.W.exm_one I3.iQ LT hk).here ?_;refine codeAny_handlers_suite_as (Ko F3 λs4 F4=>?_);have I4:Inv (X.held x) AT σ' (upd H' x (Cm x C)) s4:=F4.known.held x;refine t_ (X:=X.held x) I4 hN hj (.inl hl) (v:=.ref x) rfl (λs5 I5=>?_) (.inr hl);refine gX (hs x AT s5 _ _ _ I5 (hR x F4.hx)) (λf s6 q=>?_) λe s6 z=>(hno e s6 z).elim;have goes:∀{σ2 H2}{Q:Prop}{G:Shared->Prop}{p:Pos},Inv (X.held x) AT σ2 H2 s6->(∀s',Inv X AT (σ2.set j none) H2 s'->G s')->wpAny (model X.prog X.w) X.A (do bindName X.env n .none;unbindBehindTheSuite X.env n p) (λ_ s'=>G s') X.xe s6:=by intro σ2 H2 _ G p I6 k;have I7:=I6.aaL I.ok;obtain⟨m,hm,hlo⟩:=I7.loc;refine wpAny_nameGoes_keeps (m:=m) (by unfold Env.kindOf;exact hl) hm (by rw[I.ok.kind];rfl) λh' v hn hs=>k _ (I7.gone hN hj hm hlo hn hs)
  cases f with
  | next=>obtain⟨σ2,H2,I6,q⟩:=q;exact goes (Q:=True) I6 λs' I'=>⟨_,H2,I',q⟩
  | brk=>obtain⟨σ2,H2,I6,q⟩:=q;exact goes (Q:=True) I6 λs' I'=>⟨_,H2,I',q⟩
  | cont=>obtain⟨σ2,H2,I6,q⟩:=q;exact goes (Q:=True) I6 λs' I'=>⟨_,H2,I',q⟩
  | ret u=>obtain⟨v,σ2,H2,I6,r,q⟩:=q;exact goes (Q:=True) I6 λs' I'=>⟨v,_,H2,I',r,q⟩
def aR:cO X [] V3:=by exact⟨λ_ _ σ H _ I h=>xG ⟨σ,H,I,h⟩⟩
def fh(K:Fg){o value:Expr}{f:Str}{ta tv:TE}{pos pos':Pos}(ha:bE X o ta)(hv:bE X value tv)(hs:swapsWith value (some (.Attribute o f pos')) pos.line X.env=pure false:=by rfl)(hK:X.K=K:=by rfl):bS X (.Assign [.Attribute o f pos'] value pos) (Zd K ta tv f):=by have ha:=ha.h;have hv:=hv.h;exact⟨hK▸Zg ha hv hs⟩
def aa1{j k:Nat}{g:Str}{ps:Da Str}{sp:Sp}{e:Expr}{es:Da Expr}{t:TA}{p pos p2 p3 p4:Pos}{kd:Nat}{body:Da Stmt}(D:Dx X.prog X.w X.K X.mg X.base j g ps sp)(hr:dj k X.A)(hno:∀e s,X.xe e s->False)(ha:bA X (e::es) t)(hj:j<=k:=by decide)(hg:Gl X g:=by rfl)(hdb:(g==("__debug__":Str))=false:=by decide)(he:starEach (e::es) X.env=(false,eval e X.env)::starEach es X.env:=by rfl)(hpl:(backTo pos (starEach es X.env)).any (·.1)=false:=by rfl):bX X [.If (.Compare (.Call (.Name g p) (e::es) [] pos) [.IsNot] [.Constant .none kd p2] p3) body [] p4] (ac6 sp t):=by have ha:=ha.h;constructor;intro AT s σ H Dn R I h;refine wpAny_execs_cons (wpAny_If (wpAny_isTrue_Compare1 (gX (ac5 D hr hno ha hj hg hdb he hpl I h) (λv s1 ⟨y,H1,I1,r1,ey,q1⟩=>?_) λev s1 ⟨x,C,Hc,sc,H',ev',F,hR⟩=>⟨x,C,σ,Hc,sc,H',ev',F,hR⟩) (Jr _ (by decide) (by decide))));subst ey;cases r1;exact Constant_none (isnot_none_gen (yT (xG (xG ⟨_,H1,I1,q1⟩))))
theorem vI{tg:Expr}{a b c:Expr}{ta:TA}{p pos:Pos}(hg:Gl X "range")(hm:X.mg "range"=none)(ha:bA X [a,b,c] ta)(hs:starEach [a,b,c] X.env=[(false,eval a X.env),(false,eval b X.env),(false,eval c X.env)] :=by rfl)(hs2:starEach [b,c] X.env=[(false,eval b X.env),(false,eval c X.env)] :=by rfl):bI X tg (.Call (.Name "range" p) [a,b,c] [] pos) (acQ ta):=by
 have ha:=ha.h;constructor;intro AT s σ H R I h;refine Call_ (ua I hg hm boot_range (Q_ (bg (ha pos AT s σ H _ I h) λus s1 ⟨vs,H1,I1,r1,q1⟩=>?_) (by rw[hs,hs2]) (by rw[hs2];rfl)));obtain⟨i,j,k,e,⟨q1,q2,q3,q4,q5,q6⟩,q⟩:=q1;subst e;cases r1 with
 | cons r rr=>
  cases rr with
  | cons r' rr=>
   cases rr with
   | cons r'' rr=>
    cases rr;obtain⟨t,rfl⟩:=r;obtain⟨t',rfl⟩:=r';obtain⟨t'',rfl⟩:=r'';obtain⟨sm,sz⟩:=Mt q1 q2 q3 q4 q5 q6;refine call_range_3 (by omega) ?_ (Or.inl (PyProof.noPylong_small (by omega)));refine wpAny_pyIter_range (IsRange.new ..) sm ?_;have I2:Inv X AT σ H1 { s1 with heap:=s1.heap.push { cls:=.type "range",data:=.fields #[.int i t,.int j t',.int k t''] },toks:=s1.toks }:=I1.kept λb o e=>bU _ e;refine⟨(s1.heap.push { cls:=.type "range",data:=.fields #[.int i t,.int j t',.int k t''] }).objs.size,[(s1.heap.push { cls:=.type "range",data:=.fields #[.int i t,.int j t',.int k t''] }).objs.size],_,_,H1,Z,
     I2.kept (t':=s1.toks) λb o e=>bU _ e,Ms _ i k (mq i j k),?_,λb hb=>?_,q⟩
    .have e1:i+((0:Nat):Int)*k=i:=by simp
     have e2:((mq i j k:Nat):Int)-((0:Nat):Int)=Builtin.Range.rangeSize i j k:=by unfold mq;omega
     show IsRangeIter _ _ (i+((0:Nat):Int)*k) (((mq i j k:Nat):Int)-((0:Nat):Int)) k;rw[e1,e2];exact dZ _ rfl
    .have e:b=(s1.heap.push { cls:=.type "range",data:=.fields #[.int i t,.int j t',.int k t''] }).objs.size:=by simpa using hb
     subst e;exact I2.BY (aN _) (I2.hok.fresh (aN _))
def Tf{a:Expr}{ta:TA}{p pos:Pos}(hg:Gl X "range")(hm:X.mg "range"=none)(ha:bA X [a] ta)(hs:starEach [a] X.env=[(false,eval a X.env)] :=by rfl):bE X (.Call (.Name "range" p) [a] [] pos) (af2 ta):=by have ha:=ha.h;constructor;intro AT s σ H Q I h;refine Call_ (ua I hg hm boot_range (Q_ (bg (ha pos AT s σ H _ I h) λus s1 ⟨vs,H1,I1,r1,q1⟩=>?_) hs rfl));obtain⟨j,e,q⟩:=q1;subst e;obtain⟨u,rfl,ru⟩:=vals1 r1;obtain⟨t,rfl⟩:=ru;exact call_range_1 ⟨.ref s1.heap.objs.size,_,I1.laid (a:=s1.heap.objs.size) (o:=.vv 0 j) (λb o e=>bU _ e) (aN _) ⟨_,_,_,dZ _ rfl⟩,Z,q _ I1.fresh⟩
def d_(h:bA X es t):bE X (.List es pos) (Pw t):=by have h:=h.h;constructor;intro AT s σ H Q I hq;refine wpAny_List_spliced (bg (h pos AT s σ H _ I hq) λus s1 ⟨xs,H1,I1,r,z,q⟩=>⟨by rw[<-r.length];exact z,?_⟩);have hf:H1 s1.heap.objs.size=none:=I1.hok.fresh (aN _);refine⟨.ref s1.heap.objs.size,upd H1 s1.heap.objs.size (.lst xs),I1.laid (t':=s1.toks) (λb u e=>bU _ e) (aN _) ?_,Z,q _ hf⟩;exact⟨z,us,0,r,dZ _ rfl⟩
def DY(K:Fg){o value:Expr}{f:Str}{ta tv:TE}{pos tpos:Pos}{op:Operator}{rd:V->V->Hp->VK->Prop}(ha:bE X o ta)(hv:bE X value tv)(hop:Po X op rd)(hK:X.K=K:=by rfl):bS X (.AugAssign (.Attribute o f tpos) op value pos) (NI K ta tv rd f):=by have ha:=ha.h;have hv:=hv.h;exact⟨hK▸Ru ha hv hop⟩
def aa2{j pos}:bE X (.Constant .none j pos) (tC .cD):=by exact⟨λ_ _ _ H _ I h=>Constant_none ⟨.cD,H,I,Z,h⟩⟩
def VI{i:Nat}{x:Str}{px pos':Pos}{tg Bz elt cond:Expr}{scope:Scope}{pos:Pos}(N2:Da Str)(ix:Da (Option Nat)){wi:TI}{g:TG}{tc:TT}{te:TE}(hN:X.N.Nodup)(hi:X.N[i]?=some x)(hx:X.env.scope.names.lookup x=some .local)(hc:X.calm=true)(hit:bI X tg Bz wi)(hg:∀cl s₂ H₂ fp,bG (cW X N2 scope cl s₂ H₂ fp) tg g)(he:∀cl s₂ H₂ fp,bE (cW X N2 scope cl s₂ H₂ fp) elt te)(ht:∀cl s₂ H₂ fp,bT (cW X N2 scope cl s₂ H₂ fp) cond tc)(hk:scope.kind =.function)(hn:mZ X.N X.env.scope.names scope.names N2 ix=true)(hw:swapsWith (.ListComp elt [⟨tg,Bz,[cond],0⟩] scope pos) (some (.Name x px)) pos'.line X.env=pure true)(hs:∀x,foldedSetIterable Bz X.env x=pure x:=by intro _;rfl):bS X (.Assign [.Name x px] (.ListComp elt [⟨tg,Bz,[cond],0⟩] scope pos) pos') (yW (Dz wi ix g tc te) (gj i)):=⟨U8 N2 ix hN hi hx hc hit.h (λcl s₂ H₂ fp=>(hg cl s₂ H₂ fp).h) (λcl s₂ H₂ fp=>(he cl s₂ H₂ fp).h) (λcl s₂ H₂ fp=>(ht cl s₂ H₂ fp).h) hk hn hw hs⟩
def Ff{ob:Expr}{td:TE}{B2 cpos:Pos}(hob:bE X ob td)(hbase:attributeBase ob "values" X.env (eval ob X.env)=eval ob X.env:=by rfl)(hline:(B2.endLine==cpos.line)=true:=by rfl):bE X (.Call (.Attribute ob "values" B2) [] [] cpos) (acS td):=by have hob:=hob.h;constructor;intro AT s σ H Q I h;refine wpAny_Call_method0_late hbase hline (bg (hob AT s σ H _ I h) λv s1 ⟨x,H1,I1,r1,q1⟩=>?_);obtain⟨d,Ap,rfl,e,fin⟩:=q1;cases r1;obtain⟨t1,t2,hsys⟩:=JC I1 (.inl ⟨Ap,e⟩);obtain⟨hz,_,vs,rel,dd⟩:=qT I1.hok e;refine⟨"dict",_,F.plainAttrs_dict,Pa,F.type_dict_values,t1,t2,O1 rfl (PySem.evalArgs_none ?_)⟩;refine call_meetsIn Pa dd.typeIs F.entry_dict_values (F.args_dict_values_1 _) (meets_dict_values (cY X.prog X.w) d hsys) ⟨⟨vs,dd⟩,?_⟩;refine⟨.ref s1.heap.objs.size,_,I1.laid (t':=s1.toks) (o:=lA s1.heap.objs.size d) (λb u e=>bU _ e) (aN _) ?_,Z,fin _ I1.fresh⟩;refine⟨⟨_,dZ _ rfl,Z,Z⟩,⟨_,dZ _ rfl⟩,λh1 h2 ⟨o,a,b⟩ k=>⟨o,k o a,b⟩⟩
def ado{j k:Nat}{x:Str}{C:Addr}{ps:Da Str}{sp:Sp}{e:Expr}{es:Da Expr}{t:TA}{p pos:Pos}(D:Cn X.prog X.w X.K X.mg X.base j x C ps sp)(hr:dj k X.A)(ha:bA X (e::es) t)(hj:j+1<=k:=by decide)(hg:Gl X x:=by rfl)(hdb:(x==("__debug__":Str))=false:=by decide)(he:starEach (e::es) X.env=(false,eval e X.env)::starEach es X.env:=by rfl)(hpl:(backTo pos (starEach es X.env)).any (·.1)=false:=by rfl):bE X (.Call (.Name x p) (e::es) [] pos) (IQ C sp [] E0 t):=by have ha:=ha.h;constructor;obtain⟨f,fd,F,b,M,m⟩:=D.ex;exact Xf M F (hr.mono hj) hg m b .nil (λ_ _ _ _ _ _ _ h=>h.elim) ha hdb he hpl
def jZ{x:Str}{v:V}{u:Value}{pos:Pos}(hg:Gl X x)(hm:X.mg x=some u)(r:RelV v u)(hd:(x==("__debug__":Str))=false:=by decide):bE X (.Name x pos) (tC v):=by exact⟨λ_ _ _ H _ I h=>qo I hg hm ⟨v,H,I,r,h⟩ hd⟩
def oK(hc:gG X (.type T) r)(hg:Gl X x)(hm:X.mg x=none)(hv:bootBuiltins x=some (.type T))(ha:bA X (e::es) t)(hn:x ≠ "__name__":=by decide)(hdb:(x==("__debug__":Str))=false:=by decide)(he:starEach (e::es) X.env=(false,eval e X.env)::starEach es X.env:=by rfl)(hpl:(backTo pos (starEach es X.env)).any (·.1)=false:=by rfl):bE X (.Call (.Name x p) (e::es) [] pos) (Zo r t):=by have ha:=ha.h;constructor;intro AT s σ H Q I h;refine EL (ua I hg hm hv ?_ hn hdb);exact Q_ (bg (ha pos AT s σ H _ I h) λus s1 ⟨vs,H1,I1,r1,q1⟩=>hc AT s1 σ H1 vs us Q I1 r1 q1) he hpl
def jr{Cl:Da Expr}(ha:bT X a tA)(hb:bW X (.BoolOp .Or (b::Cl) pos) V2):bW X (.BoolOp .Or (a::b::Cl) pos) (tOr tA V2):=by
 have ha:=ha.h;have hb:=hb.h;constructor;intro wh AT s σ H Q I h;refine isTrue_or (bg (ha AT s σ H _ I h) λc s1 ⟨H1,I1,q1⟩=>?_);cases c with
 | true=>exact⟨H1,I1,q1⟩
 | false=>exact hb wh AT s1 σ H1 Q I1 q1
def oM(ha:bT X a tA):bW X (.BoolOp .And [a] pos) tA:=by
 have ha:=ha.h;constructor;intro wh AT s σ H Q I h;refine isTrue_and (bg (ha AT s σ H Q I h) λc s1 e=>?_);cases c with
 | true=>exact isTrue_and_nil e
 | false=>exact e
def cE{c:Expr}{a b:Da Stmt}{tc:TT}(hc:bT X c tc)(ha:cO X a t)(hb:cO X b u):bS X (.If c a b pos) (Uu tc t u):=⟨V4 hc.h ha.h hb.h⟩
def Tg{i j:Nat}{x y:Str}{a b:Expr}{ta:TA}{px py pt:Pos}{kt k2 pt2}(hc:X.calm=true)(hN:X.N.Nodup)(hi:X.N[i]?=some x)(hj:X.N[j]?=some y)(hij:i≠j)(hx:X.env.scope.names.lookup x=some .local)(hy:X.env.scope.names.lookup y=some .local)(ha:bA X [a,b] ta)(hw:swappedStores [.Tuple [.Name x px,.Name y py] kt pt] (.Tuple [a,b] k2 pt2) X.env=pure (some [x,y]))(hs:swapsWithSole [.Tuple [.Name x px,.Name y py] kt pt] (.Tuple [a,b] k2 pt2) pos.line X.env=pure false:=by rfl):bS X (.Assign [.Tuple [.Name x px,.Name y py] kt pt] (.Tuple [a,b] k2 pt2) pos) (afM i j ta):=by
 have ha:=ha.h;constructor;intro AT s σ H D I h;rw[exec_Assign_arm];refine aq (Ao ?_);rw[hs];refine aq (aJ ?_);rw[aB (by decide)];refine aq (Tuple_ (bg (ha _ AT s σ H _ I h) λus s1 ⟨vs,H1,I1,r1,q1⟩=>?_));obtain⟨v,w,e1,q1⟩:=q1;subst e1;obtain⟨u1,u2,rfl,rv,rw'⟩:∃u1 u2,us=[u1,u2]/\RelV v u1/\RelV w u2:=by
  cases r1 with
  | cons p q=>
   cases q with
   | cons p' q'=>cases q';exact⟨_,_,Z,p,p'⟩
 refine qj ?_ (by show 2<=sizeLine;decide);have I2:Inv X AT σ H1 { s1 with heap:=s1.heap.push { cls:=.type "tuple",data:=.seq [u1,u2].toArray } }:=I1.kept (t':=s1.toks) λb o e=>bU _ e;rw[hw];refine aq (aJ ?_);show wpAny (model X.prog X.w) X.A (do rule "assign.swapped-stores";let items <-unpackItems (.ref s1.heap.objs.size) 2 none;assignInOrder [λv=>bindName X.env y v,λv=>bindName X.env x v] items.reverse;pure Flow.next) _ _ _;refine aq (wpAny_rule (aq (unpackItems_tuple (items:=#[u1,u2]) (I.ok.hd hc) (IsTup.new s1.heap _) λh' hx'=>?_)));have I3:=I2.kept (h':=h') (t':=s1.toks) λb o e=>hx' b o (dW (bK e)) e;show wpAny _ _ (assignInOrder [λv=>bindName X.env y v,λv=>bindName X.env x v] [u2,u1] >>= λ_=>pure Flow.next) _ _ _;refine aq (assignInOrder_cons (wpAny_bindName (t_ I3 hN hj (.inl hy) rw' (λs2 I4=>?_) (.inr hy))));refine assignInOrder_cons (wpAny_bindName (t_ I4 hN hi (.inl hx) rv (λs3 I5=>assignInOrder_nil (aJ ?_)) (.inr hx)));rw[List.set_comm _ _ (cy hij)]at I5;exact⟨_,H1,I5,q1⟩
def iD{c:Expr}{a b:Da Stmt}{tc:TT}{t u:TS}(hc:bT X c tc)(ha:cO X a t)(hb:cO X b u):bS X (.If c a b pos) (ZO tc t u):=by
 have hc:=hc.h;have ha:=ha.h;have hb:=hb.h;constructor;intro AT s σ H D I h;obtain⟨J,h,hJ⟩:=h;refine bg (V4 hc ha hb AT s σ H { D with nx:=J } I h) λf s' q=>?_;cases f with
 | next=>obtain⟨σ',H',I',q⟩:=q;exact⟨σ',H',I',hJ _ _ q⟩
 | cont=>exact q
 | brk=>exact q
 | ret v=>exact q
def aj{st:Stmt}{Cl:Da Stmt}(h1:bS X st t)(h2:cO X Cl u):cO X (st::Cl) (yV t u):=by
 have h1:=h1.h;have h2:=h2.h;constructor;intro AT s σ H D I h;refine wpAny_execs_cons (bg (h1 AT s σ H { D with nx:=u D } I h) λf s1 q=>?_);cases f with
 | next=>obtain⟨σ',H',I',q⟩:=q;exact h2 AT s1 σ' H' D I' q
 | ret v=>exact q
 | brk=>exact q
 | cont=>exact q
theorem aa4(K:Fg){e st:Expr}{te ts:TE}{pos p2:Pos}(he:bE X e te)(hst:bE X st ts)(hK:X.K=K:=by rfl):bE X (.Subscript e (.Slice none none (some st) p2) pos) (af3 K te ts):=by have he:=he.h;have hst:=hst.h;constructor;subst hK;intro AT s σ H Q I h;refine Subscript_ (bg (he AT s σ H _ I h) λv s1 ⟨x,H1,I1,r1,q1⟩=>?_);refine wpAny_Slice ?_;rw[evalPart_none];refine aJ (aJ ?_);rw[evalPart_some];refine bg (hst AT s1 σ H1 _ I1 q1) λw3 s3 ⟨y,H3,I3,r3,q3⟩=>?_;obtain⟨ey,a,xs,rfl,hx,q⟩:=q3;subst ey;obtain⟨t,rfl⟩:=r3;cases r1;have I4:Inv X AT σ H3 { s3 with heap:=s3.heap.push { cls:=.type "slice",data:=.fields #[.none,.none,.int (-1) t] } }:=I3.kept (t':=s3.toks) λb ob q=>bU _ q;obtain⟨Bi,r,ht,hz⟩:=I4.list hx;have hlen:=r.length;refine tail_any (ops:=[.ref a,.ref s3.heap.objs.size]) ht.isList.typeIs slot_list_getitem.lookup ?_ (by with_unfolding_all rfl);refine wpAny_getItem_list_slice ht.isList (Heap.IsSliceOf.new ..) .none .none (.int (-1) t) (by decide) ?_ (by rw[gY] <;> omega);rw[PySem.W.krv_pick];refine⟨.ref _,_,I4.laid (t':=s3.toks) (o:=.lst xs.reverse) (λb ob q=>bU _ q) (aN _) ?_,Z,q _ I4.fresh⟩;exact⟨by rw[List.length_reverse];exact hz,Bi.reverse,0,r.reverse,dZ _ rfl⟩
def iO(K:Fg){X:Cx}{es:Da Expr}{k:Nat}{t:C0}{n:Nat}{pos:Pos}(hc:X.calm=true)(h:WE X es t)(hK:X.K=K:=by rfl)(hn:(assignEach es X.env).length=n:=by rfl)(hst:(assignEach es X.env).findIdx? (·.1)=none:=by rfl):bG X (.Tuple es k pos) (BX K n t):=by have h:=h.h;exact⟨hK▸Y4 hc h hn hst⟩
def KI{K:Fg}{j k:Nat}{x:Str}{ps:Da Str}{sp:Sp}{e:Expr}{es:Da Expr}{t:TA}{p pos:Pos}(D:Dx P w K mg base j x ps sp)(hr:dj k (cK (gf P w) P w K mg base N qual scope f cd A outer s0 H0 E).A)(ha:bA (cK (gf P w) P w K mg base N qual scope f cd A outer s0 H0 E) (e::es) t)(hj:j<=k:=by decide)(hg:Gl (cK (gf P w) P w K mg base N qual scope f cd A outer s0 H0 E) x:=by rfl)(hdb:(x==("__debug__":Str))=false:=by decide)(he:starEach (e::es) (cK (gf P w) P w K mg base N qual scope f cd A outer s0 H0 E).env=(false,eval e (cK (gf P w) P w K mg base N qual scope f cd A outer s0 H0 E).env)::starEach es (cK (gf P w) P w K mg base N qual scope f cd A outer s0 H0 E).env:=by rfl)(hpl:(backTo pos (starEach es (cK (gf P w) P w K mg base N qual scope f cd A outer s0 H0 E).env)).any (·.1)=false:=by rfl):bE (cK (gf P w) P w K mg base N qual scope f cd A outer s0 H0 E) (.Call (.Name x p) (e::es) [] pos) (IP sp [] E t):=by have ha:=ha.h;constructor;obtain⟨f',fd,F,b,kp,m⟩:=D.ex;exact NK F (hr.mono hj) hg m kp b .nil WA ha hdb he hpl
def bQ(hu:X.A.units+1<cLine)(ho:bE X o td)(hi:bE X i ty)(hs:ZE i:=by exact λ_ _=>rfl):bE X (.Subscript o i pos) (acE td ty):=by have ho:=ho.h;have hi:=hi.h;constructor;intro AT s σ H Q I h;refine Xm PySem.F.slot_dict_getitem.lookup hs (bg (ho AT s σ H _ I h) λu s1 ⟨x,H1,I1,rx,q1⟩=>bg (hi AT s1 σ H1 _ I1 q1) λiv s2 ⟨y,H2,I2,ry,a,v,ex,g,q2⟩=>?_);subst ex;obtain rfl:u=Value.ref a:=rx;exact⟨Mm I2 g,RH hu I2 g ry λw' s3 I3 rw'=>⟨v,H2,I3,rw',q2⟩⟩
def ai:bA X [] oW:=⟨Rw⟩
def OA{K:Fg}{pl:Sem Bool}{j k:Nat}{C:Addr}{m:Str}{ps:Da Str}{sp:Sp}{o e:Expr}{es:Da Expr}{ta:TE}{t:TA}{B2 pos:Pos}(D:Mx P w K mg base j C m ps sp)(hr:dj k (cK (gf P w) P w K mg base N qual scope f cd A outer s0 H0 E).A)(ho:bE (cK (gf P w) P w K mg base N qual scope f cd A outer s0 H0 E) o ta)(ha:bA (cK (gf P w) P w K mg base N qual scope f cd A outer s0 H0 E) (e::es) t)(hj:j<=k:=by decide)(hst:starEach (e::es) (cK (gf P w) P w K mg base N qual scope f cd A outer s0 H0 E).env=(false,eval e (cK (gf P w) P w K mg base N qual scope f cd A outer s0 H0 E).env)::starEach es (cK (gf P w) P w K mg base N qual scope f cd A outer s0 H0 E).env:=by rfl)(hpl:(backTo pos (starEach es (cK (gf P w) P w K mg base N qual scope f cd A outer s0 H0 E).env)).any (·.1)=false:=by rfl)(ht:eval (.Call (.Attribute o m B2) (e::es) [] pos) (cK (gf P w) P w K mg base N qual scope f cd A outer s0 H0 E).env=(do
   let ov <-eval o (cK (gf P w) P w K mg base N qual scope f cd A outer s0 H0 E).env
   standAt B2.atName
   let(f2,first) <-holding [ov] (getMethod ov m pl)
   callWith pos f2 first (backTo pos (starEach (e::es) (cK (gf P w) P w K mg base N qual scope f cd A outer s0 H0 E).env)) (backToKw pos (keywordEach [] (cK (gf P w) P w K mg base N qual scope f cd A outer s0 H0 E).env))):=by rfl):bE (cK (gf P w) P w K mg base N qual scope f cd A outer s0 H0 E) (.Call (.Attribute o m B2) (e::es) [] pos) (C_ C m sp [] E ta t):=by
 have ho:=ho.h;have ha:=ha.h;constructor
 obtain⟨f',fd,F,b,hm,c⟩:=D.ex
 exact NL (pl:=pl) ho c hm F (hr.mono hj) b .nil WA ha hst hpl ht
def ak{i j pos}:bE X (.Constant (.int i) j pos) (tC (.int i)):=by exact⟨λ_ _ _ H _ I h=>wpAny_Constant_int ⟨.int i,H,I.tok _,⟨_,Z⟩,h⟩⟩
def KJ{Cl:Da Expr}(ha:bE X a ta)(hb:bE X (.BoolOp .And (b::Cl) pos) tb):bE X (.BoolOp .And (a::b::Cl) pos) (aci ta tb):=by
 have ha:=ha.h;have hb:=hb.h;constructor;intro AT s σ H Q I h;refine BoolOp_and (bg (ha AT s σ H _ I h) λv s1 ⟨x,H1,I1,r1,q1⟩=>?_);obtain⟨c,rfl,q1⟩:=q1;cases r1;refine yT ?_;cases c with
 | true=>exact hb AT s1 σ H1 Q I1 q1
 | false=>exact⟨.bl false,H1,I1,Z,q1⟩
def qA:bE X (.Dict [] [] pos) ZI:=by
 exact⟨λAT s σ H Q I h=>
 wpAny_Dict_empty ⟨.ref s.heap.objs.size,_,I.laid (a:=s.heap.objs.size) (o:=.dK []) (t':=s.toks) (λ_ _ q=>bU _ q) (aN _) (JB s.heap I.big),Z,h _ (I.hok.fresh (aN _))⟩⟩
def xg{tg e:Expr}{te:TE}{g:TG}(he:bE X e te)(hg:bG X tg g)(hs:swapsWithSole [tg] e pos.line X.env=pure false:=by rfl)(hw:swappedStores [tg] e X.env=pure none:=by rfl)(h1:(assignEach [tg] X.env).map (·.2)=[assign tg X.env] :=by rfl):bS X (.Assign [tg] e pos) (yW te g):=by have he:=he.h;have hg:=hg.h;constructor;intro AT s σ H D I h;refine wpAny_Assign_stores (bg (he AT s σ H _ I h) λv s1 ⟨x,H1,I1,r1,q1⟩=>?_) hs hw;rw[h1];exact bg (hg AT s1 σ H1 x v _ I1 r1 q1) λ_ s2 q=>q
def Cq{DD:Da Expr}{kk:Nat}{tpos:Pos}{ob:Expr}{td:TE}{B2 cpos:Pos}(hob:bE X ob td)(hbase:attributeBase ob "items" X.env (eval ob X.env)=eval ob X.env:=by rfl)(hline:(B2.endLine==cpos.line)=true:=by rfl):bI X (.Tuple DD kk tpos) (.Call (.Attribute ob "items" B2) [] [] cpos) (Z6 td):=by
 have hob:=hob.h;constructor;intro AT s σ H R I h;refine wpAny_Call_method0_late hbase hline (bg (hob AT s σ H _ I h) λv s1 ⟨x,H1,I1,r1,q1⟩=>?_);obtain⟨d,o,Ap,rfl,e,fin⟩:=q1;cases r1;obtain⟨ho,hz,hsys,vs,ep,rel,da⟩:=I1.qV e;obtain⟨t1,t2,_⟩:=JC I1 (.inl ⟨Ap,.inr ⟨o,e⟩⟩);have dd:=da.dictOf;refine⟨"dict",_,F.plainAttrs_dict,F.slot_dict_items,F.type_dict_items,t1,t2,O1 rfl (PySem.evalArgs_none ?_)⟩;refine call_meetsIn F.slot_dict_items dd.typeIs F.entry_dict_items (F.args_dict_items_1 _) (meets_dict_items (cY X.prog X.w) d hsys) ⟨⟨vs,dd⟩,?_⟩;refine wpAny_pyIter_items (s:={ s1 with heap:=s1.heap.push { cls:=.type "dict_items",data:=.fields #[.ref d] } }) ⟨_,dZ _ rfl,Z,Z⟩ (da.push _) ?_;have Iv:Inv X AT σ H1 { s1 with heap:=s1.heap.push { cls:=.type "dict_items",data:=.fields #[.ref d] } }:=I1.kept (t':=s1.toks) λb o e=>bU _ e;generalize ({ s1 with heap:=s1.heap.push { cls:=.type "dict_items",data:=.fields #[.ref d] } }:Shared)=sv at *;have I2:Inv X AT σ H1 { sv with heap:=sv.heap.push { cls:=.type "dict_itemiterator",data:=.fields #[.none,.bool false,.ref d,.int 0 0,.int vs.length 0,.int ep 0,.none,.none] } }:=Iv.kept (t':=sv.toks) λb o e=>bU _ e;have hl:Ap.length=vs.length:=rel.length;obtain⟨o',es,h1,_,h2,_⟩:=id da;rw[ho]at h1;cases h1;refine⟨sv.heap.objs.size,[sv.heap.objs.size],_,_,H1,Z,I2,PU h2,?_,λb hb=>?_,fin⟩
 .rw [hl];exact⟨_,_,dZ _ rfl⟩
 .have eb:b=sv.heap.objs.size:=by simpa using hb
  subst eb;exact Iv.BY (aN _) (Iv.hok.fresh (aN _))
def aa5{tg:Expr}{l:Expr}{tl:TE}(hl:bE X l tl):bI X tg l (ZY tl):=⟨ZZ hl.h⟩
def iW(ha:bT X a tA):bW X (.BoolOp .Or [a] pos) tA:=by
 have ha:=ha.h;constructor;intro wh AT s σ H Q I h;refine isTrue_or (bg (ha AT s σ H Q I h) λc s1 e=>?_);cases c with
 | false=>exact isTrue_or_nil e
 | true=>exact e
def xh{X:Cx}{st:Stmt}{t:TS}(h:bS X st t):bS X st (af6 t):=by
 have h:=h.h;constructor;intro AT s σ H D I hw;obtain⟨d,Ap,e,hw⟩:=hw;obtain⟨ho,es,ep,h1,_⟩:=(Df I.hok e).2.2.choose_spec.2;have h0:=I.R4 e;refine bg (h AT s σ _ _ (I.freeze e h1) (hw ho)) λf s' q=>?_;cases f with
 | next=>obtain⟨σ',H',I',q1,q2⟩:=q;exact⟨σ',_,I'.B_ q1 h0,q2⟩
 | brk=>obtain⟨σ',H',I',q1,q2⟩:=q;exact⟨σ',_,I'.B_ q1 h0,q2⟩
 | cont=>obtain⟨σ',H',I',q1,q2⟩:=q;exact⟨σ',_,I'.B_ q1 h0,q2⟩
 | ret u=>obtain⟨v,σ',H',I',r,q1,q2⟩:=q;exact⟨v,σ',_,I'.B_ q1 h0,r,q2⟩
def qB(hu:X.A.units+1<cLine)(ho:bE X o td)(hi:bE X i ty)(hv:bE X value tv)(hs:swapsWith value (some (.Subscript o i pos')) pos.line X.env=pure false):bS X (.Assign [.Subscript o i pos'] value pos) (acG td ty tv):=by have ho:=ho.h;have hi:=hi.h;have hv:=hv.h;constructor;intro AT s σ H D I h;refine wpAny_Assign_Subscript (bg (hv AT s σ H _ I h) λr s1 ⟨v,H1,I1,rv,q1⟩=>bg (ho AT s1 σ H1 _ I1 q1) λu s2 ⟨x,H2,I2,rx,q2⟩=>bg (hi AT s2 σ H2 _ I2 q2) λiv s3 ⟨y,H3,I3,ry,a,H4,ex,g,q3⟩=>?_) hs;subst ex;obtain rfl:u=Value.ref a:=rx;exact RI hu I3 g ry rv λs4 I4=>⟨σ,H4,I4,q3⟩
def qv(i:Nat){x:Str}{pos:Pos}(hN:X.N[i]?=some x:=by rfl)(hv:Rh X.env.scope x:=by first|exact Or.inl rfl|exact Or.inr (Or.inl rfl)|exact Or.inr (Or.inr rfl))(hd:(x==("__debug__":Str))=false:=by decide)(hcd:(x==("__classdict__":Str))=false:=by decide):bE X (.Name x pos) (xR i):=by exact⟨YS hN hv hd hcd⟩
def aE{id:String}(hc:gG X (.builtin id) r)(hg:Gl X x)(hm:X.mg x=none)(hv:bootBuiltins x=some (.builtin id))(ha:bA X (e::es) t)(hn:x ≠ "__name__":=by decide)(hdb:(x==("__debug__":Str))=false:=by decide)(he:starEach (e::es) X.env=(false,eval e X.env)::starEach es X.env:=by rfl)(hpl:(backTo pos (starEach es X.env)).any (·.1)=false:=by rfl):bE X (.Call (.Name x p) (e::es) [] pos) (Zo r t):=by have ha:=ha.h;constructor;intro AT s σ H Q I h;refine EL (ua I hg hm hv ?_ hn hdb);exact PyProof.Rows.callWith_builtin1 (bg (ha pos AT s σ H _ I h) λus s1 ⟨vs,H1,I1,r1,q1⟩=>hc AT s1 σ H1 vs us Q I1 r1 q1) he hpl
def qC{K:Fg}{x:Str}{C:Addr}{t:Str}{kd:Nat}{p0 p1 cpos pos:Pos}(oc:kP K C)(hg:Gl (cK (gf P w) P w K mg base N qual scope f cd A outer s0 H0 E) x)(hm:mg x=some (.ref C))(hd:(x==("__debug__":Str))=false:=by decide):bS (cK (gf P w) P w K mg base N qual scope f cd A outer s0 H0 E) (.Raise (some (.Call (.Name x p0) [.Constant (.str t) kd p1] [] cpos)) none pos) (aaJ C E):=by constructor;intro AT s σ H D I h;obtain⟨nm,q,Nn,bs,bm,hdct,sn,sub,ab,col,dd,k0,k1,k2,k3,k5,mN,hni,hb,fx⟩:=oc.ex;refine wpAny_Raise_call_subT (bm:=bm) (C:=C) (nm:=nm) (q:=q) (N:=Nn) (bs:=bs) (hdct:=hdct) (sn:=sn) (sub:=sub) (ab:=ab) (col:=col) (dd:=dd) (k0:=k0) (k1:=k1) (k2:=k2) (k3:=k3) (k5:=k5) F.excBase_ValueError hb (I.ok.hd rfl) rfl hni ?_;refine qo I hg hm ⟨Z,?_⟩ hd;have pa:PA (cK (gf P w) P w K mg base N qual scope f cd A outer s0 H0 E) [.Constant (.str t) kd p1] (i7 (tC (.str t)) oW):=NJ Ri Rw;refine PySem.Calls.evalArgs_plain (bg (pa cpos AT s σ H (λvs H1=>vs.length=1/\H1=H) I ⟨Z,Z⟩) λus s1 ⟨vs,H1,I1,r,hv,e⟩=>?_);subst e;obtain⟨hC,hN,T⟩:=fx s1.heap I1.iQ;exact⟨Z,by show us.length<=sizeLine;rw[<-r.length,hv,eW];decide,hC,hN,T,λh' e hm=>Qj I1 hm (h e)⟩
def xj{o i:Expr}{to ti:TE}{t:Js}(ho:bE X o to)(hi:bE X i ti)(hs:YZ X t)(ha:∀v,assign (.Subscript o i pos) X.env v=(do
   let ov <-holding [v] (eval o X.env)
   let iv <-holding [v,ov] (eval i X.env)
   standAt pos
   holding [v,ov,iv] (setItem ov iv v)
   release [v,ov,iv] []):=by intro _;rfl):bG X (.Subscript o i pos) (afL to ti t):=by
 have ho:=ho.h;have hi:=hi.h;constructor
 intro AT s σ H v u Q I r h
 rw[ha]
 refine aq (xJ (bg (ho AT s σ H _ I h) λov s1 ⟨x,H1,I1,r1,q1⟩=>?_))
 refine aq (xJ (bg (hi AT s1 σ H1 _ I1 q1) λiv s2 ⟨y,H2,I2,r2,q2⟩=>?_))
 refine aq (Ao (aq (xJ (bg (hs AT s2 σ H2 x y v ov iv u _ I2 r1 r2 r q2) λ_ s3 ⟨H3,I3,q3⟩=>?_))))
 exact wpAny_release ⟨σ,H3,I3,q3⟩
def nO{st:Stmt}:bS X st YY:=by exact⟨λ_ _ _ _ _ _ h=>h.elim⟩
def Th{j k:Nat}{x:Str}{C:Addr}{ps:Da Str}{sp:Sp}{p pos:Pos}(D:Cn X.prog X.w X.K X.mg X.base j x C ps sp)(hr:dj k X.A)(hj:j+1<=k:=by decide)(hg:Gl X x:=by rfl)(hdb:(x==("__debug__":Str))=false:=by decide):bE X (.Call (.Name x p) [] [] pos) (IQ C sp [] E0 oW):=by constructor;obtain⟨f,fd,F,b,M,m⟩:=D.ex;exact UH M F (hr.mono hj) hg m b .nil (λ_ _ _ _ _ _ _ h=>h.elim) hdb
def af(ha:bE X e te)(hr:bA X es t)(hs:starEach (e::es) X.env=(false,eval e X.env)::starEach es X.env:=by rfl):bA X (e::es) (i7 te t):=⟨NJ ha.h hr.h hs⟩
def aY(K:Fg){e:Expr}{f:Str}{ta:TE}{pos:Pos}(he:bE X e ta)(hb:attributeBase e f X.env (eval e X.env)=eval e X.env:=by rfl)(hK:X.K=K:=by rfl):bE X (.Attribute e f pos) (Zc K ta f):=by have he:=he.h;exact⟨hK▸Zf he hb⟩
def AU{op:CmpOp}{r:R2}(ho:ir X (compareOp op) r)(ha:bE X a ta)(hb:bE X b tb)(hm:behindInMarks op b=false):bE X (.Compare a [op] [b] pos) (Gk r ta tb):=by have ha:=ha.h;have hb:=hb.h;constructor;intro AT s σ H Q I h;exact wpAny_Compare1 (Uw ha hb I h λv u s2 x y H2 I2 rx ry q=>ho AT s2 σ H2 x y v u Q I2 rx ry q) hm
def bu{j k:Nat}{x:Str}{ps:Da Str}{sp:Sp}{e:Expr}{es:Da Expr}{t:TA}{p pos:Pos}(D:Dn X.prog X.w X.K X.mg X.base j x ps sp)(hr:dj k X.A)(ha:bA X (e::es) t)(hj:j<=k:=by decide)(hg:Gl X x:=by rfl)(hdb:(x==("__debug__":Str))=false:=by decide)(he:starEach (e::es) X.env=(false,eval e X.env)::starEach es X.env:=by rfl)(hpl:(backTo pos (starEach es X.env)).any (·.1)=false:=by rfl):bE X (.Call (.Name x p) (e::es) [] pos) (IP sp [] E0 t):=by have ha:=ha.h;constructor;obtain⟨f,fd,F,b,kp,m⟩:=D.ex;exact NK F (hr.mono hj) hg m kp b .nil (λ_ _ _ _ _ _ _ h=>h.elim) ha hdb he hpl
def pD{Cl:Da Expr}(ha:bT X a tA)(hb:bW X (.BoolOp .And (b::Cl) pos) V2):bW X (.BoolOp .And (a::b::Cl) pos) (afI tA V2):=by
 have ha:=ha.h;have hb:=hb.h;constructor;intro wh AT s σ H Q I h;refine isTrue_and (bg (ha AT s σ H _ I h) λc s1 ⟨H1,I1,q1⟩=>?_);cases c with
 | true=>exact hb wh AT s1 σ H1 Q I1 q1
 | false=>exact⟨H1,I1,q1⟩
section
variable {P:Program}{w:World}{K:Fg}{mg:SO}{base:Heap}{f C:Addr}{fd:FuncData}{N ps:Da Str}{k:Nat}{sp:Sp}{x m qual:Str}{st:Stmt}
def dh{N P:Da Str}{sc:Scope}(a:sc.kind =.function:=by rfl)(b:sc.isCoroutine=false:=by rfl)(c:sc.isGenerator=false:=by rfl)(d:N.Nodup:=by decide +kernel)(e:N.take P.length=P:=by rfl)(f:∀x∈P,sc.names.lookup x=some .local\/sc.names.lookup x=some .cell:=by decide +kernel)(g:∀y∈sc.names,y.2 ≠ .free:=by decide +kernel):aK N P sc:=⟨a,b,c,d,e,f,g⟩
def At.oA(F:At K mg x st f fd)(S:aK N ps (ay st))(Ch:∀(cdv:Value) (A:Around) (outer:Da Env) (s:Shared) (H:Hp) (vs:Da V) (Q:VK) (E:XK),dj k (A.deeper (envOfC x (ay st) s.heap.objs.size f cdv))->sp vs H Q E->
    ∃t,qf (cK sZ P w K mg base N x (ay st) f cdv A outer s H E).Bg (cG st) t/\t { nx:=λ_ H'=>Q .cD H',rt:=Q } (start N vs) H)(len:∀vs H Q E,sp vs H Q E->vs.length=ps.length:=by intro vs H Q E h;first|(cases h.ex;subst_vars;rfl)|(have h:=h.ex;(repeat first|(obtain⟨rfl,_⟩:=h;rfl)|(obtain⟨_,h⟩:=h));done)|(repeat first|(obtain⟨rfl,_⟩:=h;rfl)|(obtain⟨_,h⟩:=h)))(h:∀(kV doc pm:Value) (an:Option Addr) (cdv ct:Value) (us:Da Value),us.length=ps.length->bindArgs (PySem.W.fnOf x x (dY st) (cG st) (ay st) .none kV doc pm an cdv ct) ⟨us,[]⟩=pure (ps.zip us):=by intro _ _ _ _ _ _ us hl;repeat' (first|rfl|(simp at hl;done)|(rcases us with _|⟨_,us⟩))):Dn P w K mg base (k+1) x ps sp:=F.ok S len Ch h
def At.KL(F:At K mg x st f fd)(S:aK N ps (ay st))(Ch:∀(cdv:Value) (A:Around) (outer:Da Env) (s:Shared) (H:Hp) (vs:Da V) (Q:VK) (E:XK),dj k (A.deeper (envOfC x (ay st) s.heap.objs.size f cdv))->sp vs H Q E->
    ∃t,qf (cK (gf P w) P w K mg base N x (ay st) f cdv A outer s H E) (cG st) t/\t { nx:=λ_ H'=>Q .cD H',rt:=Q } (start N vs) H)(len:∀vs H Q E,sp vs H Q E->vs.length=ps.length:=by intro vs H Q E h;first|(cases h.ex;subst_vars;rfl)|(have h:=h.ex;(repeat first|(obtain⟨rfl,_⟩:=h;rfl)|(obtain⟨_,h⟩:=h));done)|(repeat first|(obtain⟨rfl,_⟩:=h;rfl)|(obtain⟨_,h⟩:=h)))(h:∀(kV doc pm:Value) (an:Option Addr) (cdv ct:Value) (us:Da Value),us.length=ps.length->bindArgs (PySem.W.fnOf x x (dY st) (cG st) (ay st) .none kV doc pm an cdv ct) ⟨us,[]⟩=pure (ps.zip us):=by intro _ _ _ _ _ _ us hl;repeat' (first|rfl|(simp at hl;done)|(rcases us with _|⟨_,us⟩))):Dx P w K mg base (k+1) x ps sp:=F.okX S len Ch h
def ji.oA(F:ji K C m qual st f fd)(S:aK N ps (ay st))(Ch:∀(cdv:Value) (A:Around) (outer:Da Env) (s:Shared) (H:Hp) (vs:Da V) (Q:VK) (E:XK),dj k (A.deeper (envOfC qual (ay st) s.heap.objs.size f cdv))->sp vs H Q E->
    ∃t,qf (cK sZ P w K mg base N qual (ay st) f cdv A outer s H E).Bg (cG st) t/\t { nx:=λ_ H'=>Q .cD H',rt:=Q } (start N vs) H)(len:∀vs H Q E,sp vs H Q E->vs.length=ps.length:=by intro vs H Q E h;first|(cases h.ex;subst_vars;rfl)|(have h:=h.ex;(repeat first|(obtain⟨rfl,_⟩:=h;rfl)|(obtain⟨_,h⟩:=h));done)|(repeat first|(obtain⟨rfl,_⟩:=h;rfl)|(obtain⟨_,h⟩:=h)))(h:∀(kV doc pm:Value) (an:Option Addr) (cdv ct:Value) (us:Da Value),us.length=ps.length->bindArgs (PySem.W.fnOf m qual (dY st) (cG st) (ay st) .none kV doc pm an cdv ct) ⟨us,[]⟩=pure (ps.zip us):=by intro _ _ _ _ _ _ us hl;repeat' (first|rfl|(simp at hl;done)|(rcases us with _|⟨_,us⟩))):Mn P w K mg base (k+1) C m ps sp:=F.ok S len Ch h
def ji.KL(F:ji K C m qual st f fd)(S:aK N ps (ay st))(Ch:∀(cdv:Value) (A:Around) (outer:Da Env) (s:Shared) (H:Hp) (vs:Da V) (Q:VK) (E:XK),dj k (A.deeper (envOfC qual (ay st) s.heap.objs.size f cdv))->sp vs H Q E->
    ∃t,qf (cK (gf P w) P w K mg base N qual (ay st) f cdv A outer s H E) (cG st) t/\t { nx:=λ_ H'=>Q .cD H',rt:=Q } (start N vs) H)(len:∀vs H Q E,sp vs H Q E->vs.length=ps.length:=by intro vs H Q E h;first|(cases h.ex;subst_vars;rfl)|(have h:=h.ex;(repeat first|(obtain⟨rfl,_⟩:=h;rfl)|(obtain⟨_,h⟩:=h));done)|(repeat first|(obtain⟨rfl,_⟩:=h;rfl)|(obtain⟨_,h⟩:=h)))(h:∀(kV doc pm:Value) (an:Option Addr) (cdv ct:Value) (us:Da Value),us.length=ps.length->bindArgs (PySem.W.fnOf m qual (dY st) (cG st) (ay st) .none kV doc pm an cdv ct) ⟨us,[]⟩=pure (ps.zip us):=by intro _ _ _ _ _ _ us hl;repeat' (first|rfl|(simp at hl;done)|(rcases us with _|⟨_,us⟩))):Mx P w K mg base (k+1) C m ps sp:=F.okX S len Ch h
def GC.oA(F:GC K mg x C qual st f fd)(S:aK N ps (ay st))(Ch:∀(cdv:Value) (A:Around) (outer:Da Env) (s:Shared) (H:Hp) (vs:Da V) (Q:VK) (E:XK),dj k (A.deeper (envOfC qual (ay st) s.heap.objs.size f cdv))->sp vs H Q E->
    ∃t,qf (cK sZ P w K mg base N qual (ay st) f cdv A outer s H E).Bg (cG st) t/\t { nx:=λ_ H'=>Q .cD H',rt:=Q } (start N vs) H)(len:∀vs H Q E,sp vs H Q E->vs.length=ps.length:=by intro vs H Q E h;first|(cases h.ex;subst_vars;rfl)|(have h:=h.ex;(repeat first|(obtain⟨rfl,_⟩:=h;rfl)|(obtain⟨_,h⟩:=h));done)|(repeat first|(obtain⟨rfl,_⟩:=h;rfl)|(obtain⟨_,h⟩:=h)))(h:∀(kV doc pm:Value) (an:Option Addr) (cdv ct:Value) (us:Da Value),us.length=ps.length->bindArgs (PySem.W.fnOf "__init__" qual (dY st) (cG st) (ay st) .none kV doc pm an cdv ct) ⟨us,[]⟩=pure (ps.zip us):=by intro _ _ _ _ _ _ us hl;repeat' (first|rfl|(simp at hl;done)|(rcases us with _|⟨_,us⟩))):Cn P w K mg base (k+1) x C ps sp:=F.ok S len Ch h
end
inductive adp(e:Ec)(vs:Da V)(H:Hp)(Q:VK)(E:XK):Prop
 |mk(a:Int)(_:vs=[.int a])(_:(a<1->Rf e E H 5))(_:(1<=a->Q .cD H))
def Ti(e:Ec):Sp:=bx (adp e)
inductive adq(e:Ec)(vs:Da V)(H:Hp)(Q:VK)(E:XK):Prop
 |mk(m a:Int)(_:vs=[.int m,.int a])(_:(a<1->Rf e E H 5))(_:(1<=a->m<a->Rf e E H 6))(_:(1<=a->a<=m->Q .cD H))
def Tj(e:Ec):Sp:=bx (adq e)
inductive ads(K:Fg)(vs:Da V)(H:Hp)(Q:VK)(E:XK):Prop
 |mk(l:Addr)(us:Da V)(ws:Da Row)(x:Str)(_:vs=[.ref l,.str x])(_:aA K H l us)(_:Qe K H us ws)(_:(ws.map (λr:Row=>r.1)).Nodup)(_:ws.length<=1000)(_:(∀(i:Nat) (r:Row),ws[i]?=some r->r.1=x->Q (.int (i:Int)) H))(_:((∀r∈ws,r.1≠x)->Q (.int (-1)) H))
def DZ(K:Fg):Sp:=bx (ads K)
theorem Dn.imp{P:Program}{w:World}{K:Fg}{mg:SO}{base:Heap}{k:Nat}{x:Str}{ps:Da Str}{sp Rx:Sp}(D:Dn P w K mg base k x ps sp)(h:∀vs H Q E,Rx vs H Q E->sp vs H Q E):Dn P w K mg base k x ps Rx:=by obtain⟨f,fd,F,b,kp,m⟩:=D.ex;exact⟨f,fd,F.imp h,b,kp,m⟩
def aa6{P:Program}{w:World}{K:Fg}{mg:SO}{base:Heap}{k:Nat}{ps:Da Str}(D:Dn P w K mg base k "_law_at" ps (DZ K)):Dn P w K mg base k "_law_at" ps (Ww K):=D.imp λvs H Q E h=>by
 obtain⟨⟨l,us,ws,j,r,rfl,hl,hW,nd,hle,ej,q⟩⟩:=h;refine⟨l,us,ws,r.1,Z,hl,hW,nd,hle,λi r' e1 e2=>?_,λz=>absurd rfl (z r (bP ej))⟩;have hi:i<ws.length:=(d8.mp e1).1;have r1:(ws.map (λr:Row=>r.1))[i]?=some r'.1:=by rw[bF,e1];rfl
 have r2:(ws.map (λr:Row=>r.1))[j]?=some r.1:=by rw[bF,ej];rfl
 have:i=j:=(Jj (by rw[aF];exact hi) nd).mp (r1.trans (by rw[e2];exact r2.symm));rw[this];exact q
def Qs{st:HS}{x:Str}(h:x∈kH st):∃(i:Nat)(p:Pt),st.ao[i]?=some p/\p.nm=x:=by obtain⟨p,hp,e⟩:=bR.mp h;obtain⟨i,hi,ei⟩:=t9 hp;exact⟨i,p,by rw[aS hi,ei],e⟩
def adt{st:HS}{i:Nat}{p:Pt}(h:st.ao[i]?=some p):p.nm∈kH st:=bR.mpr ⟨p,bP h,Z⟩
def Qt{st:HS}{r:Row}{i:Nat}(h:iB st r=some i):i=3\/i=5\/i=6:=by
 unfold iB at h;split at h
 .split at h
  .cases h;exact .inr (.inl rfl)
  .split at h <;> cases h;exact .inr (.inr rfl)
 .cases h;exact .inl rfl
def KN{st:HS}{b:BS}(r:iT st b)(wf:Wf st){x:Str}(h:x∈kH st):∃(i:Nat)(p:Pt)(q:BP),st.ao[i]?=some p/\b.ao[i]?=some q/\p.nm=x/\q.nm=x/\q.ow=p.ow/\q.wo=p.wo/\q.we=p.we/\dg st x=p:=by obtain⟨i,p,h1,h2⟩:=Qs h;obtain⟨q,k1,k2,k3,k4,k5⟩:=r.at' h1;exact⟨i,p,q,h1,k1,h2,k2.symm.trans h2,k3.symm,k4.symm,k5.symm,jF wf (bP h1) h2⟩
def KO{st:HS}{b:BS}(r:iT st b):(oH b).map (λr:Row=>r.1)=kH st:=by
 have:(jl st).map (λq:Q4=>q.1)=(pB b).map (λq:Q4=>q.1):=by rw[r.qd]
 unfold jl pB at this;rw[ig,ig]at this;unfold oH kH;rw[ig];exact this.symm
def Yu{K:Fg}{H:Hp}{Q:VK}{E:XK}{n:Nat}{ρ:eF}{B:BA}{b:BS}{st:HS}{x:Str}(hb:bf n ρ B H b)(r:iT st b)(wf:Wf st)(wb:uC b)(q:∀(i:Nat) (p:Pt) (q:BP),st.ao[i]?=some p->b.ao[i]?=some q->p.nm=x->q.nm=x->q.ow=p.ow->q.wo=p.wo->q.we=p.we->dg st x=p->x∈kH st->Q (.int (i:Int)) H)(q2:x∉kH st->Q (.int (-1)) H):DZ K [.ref B.lp,.str x] H Q E:=by
 have nd:((oH b).map (λr:Row=>r.1)).Nodup:=by unfold oH;rw[ig];exact wb.nd
 refine⟨B.lp,_,oH b,x,Z,aA.of hb.op,hb.nw,nd,by unfold oH;rw[aF];exact wb.pl,λi r' e1 e2=>?_,λh=>q2 λz=>?_⟩
 . have hm:x∈kH st:=by rw[<-KO r];exact bR.mpr ⟨r',bP e1,e2⟩
   obtain⟨j,p,q',k1,k2,k3,k4,k5,k6,k7,k8⟩:=KN r wf hm
   have r1:((oH b).map (λr:Row=>r.1))[i]?=some x:=by rw[bF,e1];show some r'.1=_;rw[e2]
   have r2:((oH b).map (λr:Row=>r.1))[j]?=some x:=by unfold oH;rw[ig,bF,k2];show some q'.nm=_;rw[k4]
   have:i=j:=(Jj (d8.mp r1).1 nd).mp (r1.trans r2.symm)
   subst this
   exact q i p q' k1 k2 k3 k4 k5 k6 k7 k8 hm
 . rw[<-KO r]at z
   obtain⟨r',hr',e⟩:=bR.mp z
   exact h r' hr' e
def Qu{T:TC}{al:HS->Dd->Prop}{K:Fg}{H:Hp}{Q:VK}{E:XK}{n:Nat}{ρ:eF}{A:HA}{st:HS}{x z:Addr}{d:Dd}(ea:A.a=x)(hz:cz K H z (Dd.v d))(hh:HH T n ρ A H st)(ha:al st d)(q:∀l ρ' A' H',HH T n ρ' A' H' (uI st d)->A'.a=x->Fr n ρ H ρ' H'->(uH st d=none->ρ' l=none)->H' l=some (.lst (IW (uH st d)))->Q (.ref l) H'):Fc T al K [.ref x,.ref z] H Q E:=by
 subst ea
 refine⟨n,ρ,A,st,z,d,Z,hz,hh,ha,λi hi l H' g hl=>q l ρ A H' ?_ rfl (Fr.of_same g) (λz=>by rw[hi]at z;cases z) ?_,λhi l ρ' A' H' D0 ea' F hl cl _=>q l ρ' A' H' ?_ ea' F (λ_=>cl) ?_⟩
 . unfold uI;rw[hi];exact hh.mono g
 . rw[hi];exact hl
 . unfold uI;rw[hi];exact D0
 . rw[hi];exact hl
structure agh(st:HS):Prop where
 big:Jm.Sz 60 (bh st)
 prod:Jm.Sz 7900 st.prod
 c6:∀u∈st.c6,Jm.Sz 8900 u
 stp:st.stp.length<100
theorem iU.aw{c:Nat}{st:HS}{b:BS}(g:iU c st b)(hc:c<=90):agh st:=⟨by rw[g.rel.whole];exact(g.whole (by omega)).2,g.prod.mono (by omega),λu hu=>(g.c6 u hu).mono (by omega),by have:=g.stp;omega⟩
theorem Tn:∀{l:Da Int},(∀t∈l,0<=t)->0<=l.sum/\∀t∈l,t<=l.sum
 | [],_=>⟨lZ _,λt h=>by cases h⟩
 | a::l,h=>by
  obtain⟨h1,h2⟩:=Tn (l:=l) λt ht=>h t (b_ _ ht);have h0:=h a cg;refine⟨by show 0<=a+l.sum;omega,λt ht=>?_⟩;show t<=a+l.sum;rcases cJ.mp ht with rfl|ht
  .omega
  .have:=h2 t ht;omega
theorem KP{st:HS}{r:Row}(h:iB st r=none):r.1∈kH st/\1<=r.2/\r.2<=(dg st r.1).wo:=by
 unfold iB at h;split at h
 .split at h
  .cases h
  .split at h
   .cases h
   .exact ⟨by assumption,by omega,by omega⟩
 .cases h
theorem G0{st:HS}{rs:Da Row}(h:jm st rs=none):rs≠[]/\(rs.map λr:Row=>r.1).Nodup/\(∀r∈rs,iB st r=none)/\bq rs<bh st:=by
 unfold jm at h;split at h
 .next c=>
  split at h
  .cases h
  .next e=>
   split at h
   .cases h
   .exact ⟨c.1,c.2,λr hr=>List.findSome?_eq_none_iff.mp e r hr,by omega⟩
 .cases h
inductive adu(K:Fg)(vs:Da V)(H:Hp)(Q:VK)(E:XK):Prop
 |mk(l:Addr)(us:Da V)(rs:Da Row)(_:vs=[.ref l])(_:aA K H l us)(_:fB H us rs)(_:rs.length<=1000)(_:∀z H',aG H H'->H' z=some (.tup (Dd.v (.cast rs)))->Q (.ref z) H')
def To(K:Fg):Sp:=bx (adu K)
theorem OB:∀{rs:Da Row}{i:Nat}{r:Row},rs[i]?=some r->(dD rs)[2*i]?=some (.str r.1)/\(dD rs)[2*i+1]?=some (.int r.2)
 | [],_,_,h=>by simp at h
 | x::rs,0,r,h=>by
  have e:x=r:=by simpa using h
  subst e;exact⟨Z,Z⟩
 | x::rs,i+1,r,h=>by obtain⟨a,b⟩:=OB (rs:=rs) (i:=i) (by simpa using h);rw[show 2*(i+1)=2*i+1+1 by omega];exact⟨a,b⟩
theorem AV{rs:Da Row}{i:Nat}{r:Row}(h:rs[i]?=some r):(Dd.v (.cast rs))[1+2*i]?=some (.str r.1)/\(Dd.v (.cast rs))[2+2*i]?=some (.int r.2):=by obtain⟨a,b⟩:=OB h;rw[show 1+2*i=2*i+1 by omega,show 2+2*i=2*i+1+1 by omega];exact⟨a,b⟩
def gr(rs:Da Row):(Dd.v (.cast rs)).length=2*rs.length+1:=by show(dD rs).length+1=_;rw[vH]
theorem KQ(m:Nat):mq 1 ((2*m+1:Nat):Int) 2=m:=by unfold mq Builtin.Range.rangeSize;rw[aC (by decide)];split <;> omega
section
variable {X:Cx}
end
section
variable {prog:Program}{w:World}{A:Around}{R:Result->Shared->Prop}{s:Shared}
end
section
variable {X:Cx}
end
section
variable {X:Cx}
end
section
variable {T:TC}{n m:Nat}{ρ ρ1:eF}{H H1:Hp}{A B:HA}{st s1:HS}{x:Addr}
end
section
variable {T:TC}{n m:Nat}{ρ ρ1:eF}{H H1:Hp}{A B:HA}{st s1:HS}{x:Addr}
end
inductive Pd:PyData->Nat->Prop
 | str {x:Str} {n:Nat}:PyData.strOk x=true->Pd (.str x) n
 | int {i:Int} {n:Nat}:Pd (.int i) n
 | list {ds:Da PyData} {n:Nat}:(∀d∈ds,Pd d n)->Pd (.list ds) (n+1)
 | tuple {ds:Da PyData} {n:Nat}:(∀d∈ds,Pd d n)->Pd (.tuple ds) (n+1)
theorem KR:∀{ds:Da PyData},(∀d∈ds,PyData.canLay0 d=true)->PyData.canLayAll0 ds=true
 | [],_=>rfl
 | d::r,h=>by unfold PyData.canLayAll0;rw[h d cg,KR λd hd=>h d (b_ _ hd)];rfl
theorem Cr{n:Nat}:∀{ds:Da PyData},(∀d∈ds,PyData.depth d<=n)->PyData.depthAll ds<=n
 | [],_=>eV _
 | d::r,h=>by unfold PyData.depthAll;have h1:=h d cg;have h2:=Cr λd hd=>h d (b_ _ hd);omega
theorem KS:∀{ds:Da PyData},(∀d∈ds,PyData.eqv d d=true)->PyData.eqvAll ds ds=true
 | [],_=>rfl
 | d::r,h=>by unfold PyData.eqvAll;rw[h d cg,KS λd hd=>h d (b_ _ hd)];rfl
theorem Pd.facts{d:PyData}{n:Nat}(h:Pd d n):PyData.canLay0 d=true/\PyData.depth d<=n/\PyData.eqv d d=true:=by
 induction h with
 | str e=>exact⟨by unfold PyData.canLay0;exact e,eV _,by unfold PyData.eqv;exact xE _⟩
 | int=>exact⟨Z,eV _,by unfold PyData.eqv;exact xE _⟩
 | list _ ih=>
  refine⟨?_,?_,?_⟩
  .unfold PyData.canLay0;exact KR λd hd=>(ih d hd).1
  .unfold PyData.depth;have:=Cr λd hd=>(ih d hd).2.1;omega
  .unfold PyData.eqv;exact KS λd hd=>(ih d hd).2.2
 | tuple _ ih=>
  refine⟨?_,?_,?_⟩
  .unfold PyData.canLay0;exact KR λd hd=>(ih d hd).1
  .unfold PyData.depth;have:=Cr λd hd=>(ih d hd).2.1;omega
  .unfold PyData.eqv;exact KS λd hd=>(ih d hd).2.2
theorem Pd.shaped{d:PyData}{n:Nat}(h:Pd d n)(hn:n<=64):SeqAt.shaped d=true:=by unfold SeqAt.shaped;rw[h.facts.1];exact cu (fL h.facts.2.1 hn)
theorem Pd.eqv{d:PyData}{n:Nat}(h:Pd d n):PyData.eqv d d=true:=h.facts.2.2
def ne_data{K:Fg}{H:Hp}{x y:V}{d:PyData}{n:Nat}{Q:VK}(h1:Dt K H x d)(h2:Dt K H y d)(p:Pd d n)(hn:n<=64)(q:Q (.bl false) H):EU K x y H Q:=⟨d,d,h1,h2,p.shaped hn,p.shaped hn,by rw[p.eqv];exact q⟩
section
variable {K:Fg}{H:Hp}
end
section
variable {a:Addr}{ρ:eF}{H:Hp}
end
def Qv(x:Str):Value->Bool
 | .str y _=>decide (y=x)
 | _=>false
section
variable {P:Program}{w:World}{K:Fg}{mg:SO}{base:Heap}{k:Nat}{T:TC}{e:Ec}{ps:Da Str}
end
theorem aa7{K:Fg}{n:Nat}{ρ:eF}{B:BA}{H:Hp}{b:BS}{lp:Addr}{Q:VK}(h:bf n ρ B H b)(G:Gh ρ H)(pl:b.ao.length<=1000)(xm:H lp=none)(q:∀ρ' H7,H7 B.m=some (.dK (fG B b.bot))->Gh ρ' (upd H7 B.m (.dK (fG { B with lp:=lp } b.bot)))->bf n ρ' { { B with lp:=lp }with qs:=jK b.ao B.qs } (upd H7 B.m (.dK (fG { B with lp:=lp } b.bot))) { b with ao:=b.ao.filter λp=>decide (0<p.wo) }->Fr n ρ H ρ' (upd H7 B.m (.dK (fG { B with lp:=lp } b.bot)))->Q (.ref lp) H7):zh (sY K B.lp) (gj 0) (V8 (Gk (C5 λi j=>V.bl (decide (j<i))) (Gk (PB K) (xR 0) (tC (.int 2))) (tC (.int 0)))) (xR 0) lp [none] H Q:=by
 have ql:=h.ql;have qml:(B.qs.map λq=>V.ref q.1).length=b.ao.length:=by rw[aF];exact ql
 have op:=h.op;refine NX (n:=b.ao.length) 0 (λi o H'=>aG H H'/\o=(jK (b.ao.take i) (B.qs.take i)).map λq=>V.ref q.1) (by omega) ⟨az xm _,Z⟩ (λi o H' hi _ hp=>⟨_,_,aA.of (hp.1 _ _ op),aS (by rw[qml];exact hi)⟩) (λo H' _ hp=>⟨_,aA.of (hp.1 _ _ op),by rw[qml];exact aN _⟩) ?_ ?_
 .rintro i y o H7 H8 hi dR ha ⟨g,e⟩ ⟨rfl,hy⟩;have ei:=aS hi;obtain⟨qq,eq,k1,k2,_,_⟩:=h.find ei;have ey:=hy _ (aA.of (g _ _ op));rw[bF,eq]at ey;cases ey;have es:=DN ei eq;refine⟨_,Z,qq.1,_,_,_,Z,Z,aA.of (g _ _ k1),aX (j:=2) rfl,_,_,Z,Z,_,Z,dJ (λc=>?_) (λc=>?_)⟩
  .rw [aC (dI c)]at es;refine⟨_,Z,ha,g.bM xm _,?_⟩;rw[es,e,br];rfl
  .rw [aB (ko (jB.mpr c))]at es;exact⟨ha,g,by rw[es,e,tG]⟩
 rintro o H7 _ ha ⟨g7,e⟩;rw[bN,<-ql,bN]at e;subst e;have h8:=(h.mono g7).col (t:=22) (x:=⟨#[]⟩) (G.none xm);have G8:Gh (cL ρ lp (n,22,⟨#[]⟩)) H7:=(G.same g7).color ha rfl;have h9:=h8.aax G8 (lp:=lp) (qs:=jK b.ao B.qs) (ps:=b.ao.filter λp=>decide (0<p.wo)) ha dX (GQ ql) (λi x y ex ey=>by obtain⟨j,a1,a2⟩:=Ci ex ey ql;exact h8.pt j x y a1 a2)
 exact q _ _ h8.om (G8.wr rfl) h9 ((Fr.color xm g7).trans (Fr.write h8.cm))
theorem uA.length{n:Nat}{ρ:eF}{H:Hp}{vs:Da V}{l:Da BE}(h:uA n ρ H vs l):vs.length=l.length:=by
 induction h with
 | nil=>rfl
 | cons _ _ _ _ _ ih=>simp[ih]
def uA.get{n:Nat}{ρ:eF}{H:Hp}{vs:Da V}{l:Da BE}(h:uA n ρ H vs l):∀{i:Nat}{v:V},vs[i]?=some v->∃r t e,v =.ref r/\l[i]?=some e/\H r=some (.lst [.str e.nm,.str e.ow,.int e.wo,.ref t,.int e.bot])/\H t=some (.lst (e.tops.map V.int)):=by
 induction h with
 | nil=>intro i v e;simp at e
 | @cons r t e vs es a1 a2 a3 a4 _ ih=>
  intro i v h;cases i with
  | zero=>simp at h;subst h;exact⟨r,t,e,Z,Z,a1,a3⟩
  | succ i=>simp at h;obtain⟨r',t',e',f1,f2,f3⟩:=ih h;exact⟨r',t',e',f1,by simpa using f2,f3⟩
theorem yf.length{own:Da Str}{as:Da oq}{es:Da BE}(h:yf own as es):as.length=es.length:=by
 induction h with
 | nil=>rfl
 | cons _ _ _ _ _ _ _ _ _ _ ih=>simp[ih]
theorem VJ{c:Nat}{st:HS}{b:BS}{rs:Da Row}(g:iU c st b)(wf:Wf st)(hc:c<=90)(hr:jm st rs=none):vF b rs/\m9 b (c7 b rs) 0 0:=by
 obtain⟨_,nd,yg,hl⟩:=G0 hr;have rb:vF b rs:=⟨nd,λr hr=>by obtain⟨m,r1,r2⟩:=KP (yg r hr);obtain⟨i,p0,q0,e1,e2,k1,k2,k3,k4,k5,k6⟩:=KN g.rel wf m;exact⟨r1,i,q0,e2,k2,by rw[k4,<-k6];exact r2⟩⟩
 exact⟨rb,Yb g.lM rb (by rw[<-g.rel.whole];exact hl) g.own (g.whole (by omega)).2⟩
inductive Yv(K:Fg)(vs:Da V)(H:Hp)(Q:VK)(E:XK):Prop
 |mk(r lo lt:Addr)(ws:Da V)(own:Da Str)(tops:Da Int)(b:Int)(_:vs=[.ref r,.ref lo,.ref lt,.int b])(_:H r=some (.lst ws))(_:iS H ws (dB own tops b))(_:aA K H lo (own.map V.str))(_:aA K H lt (tops.map V.int))(_:tops.length<=own.length)(_:own.length<=1000)(_:0<b)(_:Jm.Sz 9000 b)(_:∀H',aG H H'->Q (.bl true) H')
def Cs(K:Fg):Sp:=bx (Yv K)
def VL{own:Da Str}{tops:Da Int}{b:Int}:dB (own.take tops.length) tops b=dB own tops b:=by
 unfold dB;congr 1
 induction own generalizing tops with
 | nil=>rw[List.take_nil]
 | cons x own ih=>cases tops with
   | nil=>rfl
   | cons t ts=>exact gF _ ih
def yf.get{own:Da Str}{as:Da oq}{es:Da BE}(h:yf own as es):∀{i:Nat}{a:oq}{e:BE},as[i]?=some a->es[i]?=some e->a.nm=e.nm/\a.ow=e.ow/\a.wo=e.wo/\a.sh=dB own e.tops e.bot/\e.tops.length<=own.length/\0<e.bot/\Jm.Sz 9000 e.bot/\PyData.strOk e.nm=true/\PyData.strOk e.ow=true:=by
 induction h with
 | nil=>intro i a e h1;simp at h1
 | cons a1 a2 a3 a4 a5 a6 a7 a8 a9 _ ih=>
  intro i a e h1 h2;cases i with
  | zero=>simp at h1 h2;subst h1;subst h2;exact⟨a1,a2,a3,a4,a5,a6,a7,a8,a9⟩
  | succ i=>simp at h1 h2;exact ih h1 h2
def pe.got{ρ:eF}{H:Hp}{vs:Da V}{l:Da oq}(h:pe ρ H vs l):∀{i:Nat}{v:V},vs[i]?=some v->∃r s x ss,v =.ref r/\l[i]?=some x/\H r=some (.tup [.str x.nm,.str x.ow,.int x.wo,.ref s])/\H s=some (.lst ss)/\ρ s=none/\iS H ss x.sh:=by
 induction h with
 | nil=>intro i v e;simp at e
 | @cons r s x ss vs as a1 a2 a3 a4 _ ih=>
  intro i v e;cases i with
  | zero=>simp at e;subst e;exact⟨r,s,x,ss,Z,Z,a1,a2,a3,a4⟩
  | succ i=>simp at e;obtain⟨r',s',x',ss',f1,f2,f3⟩:=ih e;exact⟨r',s',x',ss',f1,by simpa using f2,f3⟩
inductive aa8(K:Fg)(e:Ec)(vs:Da V)(H:Hp)(Q:VK)(E:XK):Prop
 |mk(l:Addr)(us:Da V)(rs:Da Row)(_:vs=[.ref l])(_:aA K H l us)(_:fB H us rs)(_:rs.length<=1000)(_:¬ (rs≠[]/\(rs.map λr:Row=>r.1).Nodup)->Rf e E H 7)(_:rs≠[]->(rs.map λr:Row=>r.1).Nodup->∀d H',aG H H'->H d=none->H' d=some (.dK (gP rs))->Q (.ref d) H')
def OC(K:Fg)(e:Ec):Sp:=bx (aa8 K e)
inductive aa9(T:TC)(K:Fg)(e:Ec)(vs:Da V)(H:Hp)(Q:VK)(E:XK):Prop
 |mk(n:Nat)(ρ:eF)(A:HA)(st:HS)(l:Addr)(us:Da V)(rs:Da Row)(_:vs=[.ref A.a,.ref l])(_:HH T n ρ A H st)(_:aA K H l us)(_:fB H us rs)(_:rs.length<=1000)(_:jm st rs=none->m8 st rs)(_:DoX T e n ρ A H (jm st rs:_) (jk st rs:_) Q E)
def OD(T:TC)(K:Fg)(e:Ec):Sp:=bx (aa9 T K e)
def zY{st:HS}{rs:Da Row}(h:¬ (rs≠[]/\(rs.map λr:Row=>r.1).Nodup)):jm st rs=some 7:=aB h
def G1{st:HS}{rs:Da Row}{i k:Nat}{r:Row}(ne:rs≠[])(nd:(rs.map λr:Row=>r.1).Nodup)(h0:∀r'∈rs.take i,iB st r'=none)(er:rs[i]?=some r)(hk:iB st r=some k):jm st rs=some k:=by
 have hi:=(d8.mp er).1;have e1:rs=rs.take i++r::rs.drop (i+1):=by have:=List.take_append_drop i rs;rw[Jb hi,(d8.mp er).2]at this;exact this.symm
 have e2:rs.findSome? (iB st)=some k:=by rw[e1,List.findSome?_append,List.findSome?_eq_none_iff.mpr h0,List.findSome?_cons,hk];rfl
 unfold jm;rw[aC ⟨ne,nd⟩,e2]
def zZ{st:HS}{rs:Da Row}(ne:rs≠[])(nd:(rs.map λr:Row=>r.1).Nodup)(h0:∀r'∈rs,iB st r'=none):jm st rs=if bh st<=bq rs then some 6 else none:=by unfold jm;rw[aC ⟨ne,nd⟩,List.findSome?_eq_none_iff.mpr h0]
def Tp{rs:Da Row}{x:Str}(h:x∈rs.map (λr:Row=>r.1)):(d7 (gP rs) (Sum.inr x)).isSome=true:=by obtain⟨r,hr,e⟩:=bR.mp h;unfold d7;rw[Pe,List.find?_isSome];exact⟨_,bR.mpr ⟨r,hr,Z⟩,cu (by rw[<-e])⟩
theorem Tq{X:Cx}(K:Fg)(hK:X.K=K:=by rfl):MtR X "list.count" (λx vs H Q=>∃(a:Addr)(xs:Da Str)(n:Str),x =.ref a/\vs=[.str n]/\aA K H a (xs.map V.str)/\Q (.int ((xs.count n:Nat):Int)) H):=by
 intro AT s σ H x vs v us Q I rx rv h;obtain⟨a,xs,n,rfl,rfl,hl,q⟩:=h;cases rx;obtain⟨u,rfl,t',rfl⟩:=vals1 rv;subst hK;obtain⟨Bi,r,hp,hz⟩:=I.list hl;obtain⟨⟨c,d,da,sl⟩,m,hp,e1,e2,e3⟩:=hp;cases e1;cases e2;cases e3;have hlen:Bi.length=xs.length:=by have:=r.length;simpa using this.symm
 have hget:∀(i:Nat)(hi:i<Bi.length),∃t,Bi[i] =.str (xs[i]'(by omega)) t:=λi hi=>by obtain⟨w,e,t,rfl⟩:=r.get (i:=i) (x:=.str (xs[i]'(by omega))) (by rw[bF,aS (by omega)];rfl);rw[aS hi]at e;exact⟨t,ie e⟩
 refine call_meets PySem.F.slot_list_count ⟨_,hp,Z⟩ PySem.F.entry_list_count (PySem.F.args_list_count_2 _ _) (PySem.SeqAt.list_countAt a Bi.toArray m none sl (.str n t') (Qv n)) ⟨hp,?_,?_⟩
 .intro y hy;obtain⟨i,hi,rfl⟩:=t9 (by simpa using hy);obtain⟨t,e⟩:=hget i hi;rw[e];have:=PySem.SeqAt.EqAt.str_str (A:=X.A.in1) (s:=s) (xs[i]'(by omega)) t n t';exact this
 .have e:List.countP (Qv n) Bi=List.count n xs:=by
   have e1:Bi.map (Qv n)=xs.map (λx=>x==n):=List.ext_getElem (by rw[aF,aF];exact hlen) λi h1 h2=>by rw[List.getElem_map,List.getElem_map];obtain⟨t,e⟩:=hget i (by rw[aF]at h1;exact h1);rw[e];show decide _=_;rw[tF,Jg,lq]
   have e2:=gF (List.countP id) e1;rw[List.countP_map,List.countP_map]at e2;exact e2
  show wants _ _ (Except.ok (Flow.ret (Value.int (↑(List.countP (Qv n) Bi)) s.toks))) _;rw[e];exact⟨.int _,H,I.tok _,⟨_,Z⟩,q⟩
def yh(st:HS):Dd->Prop
 | .cast rs=>rs.length<=1000/\(jm st rs=none->m8 st rs)
 | _=>False
def BI{st:HS}{rs:Da Row}{i:Nat}(h:jm st rs=some i):i=3\/i=5\/i=6\/i=7:=by
 unfold jm at h;split at h
 .split at h
  .rename_i k hk;cases h;obtain⟨r,_,hr⟩:=List.exists_of_findSome?_eq_some hk;rcases Qt hr with rfl|rfl|rfl
   .exact .inl rfl
   .exact .inr (.inl rfl)
   .exact .inr (.inr (.inl rfl))
  .split at h <;> cases h;exact .inr (.inr (.inl rfl))
 .cases h;exact .inr (.inr (.inr rfl))
def Tr{K:Fg}{e:Ec}{st:HS}{d:Dd}{i:Nat}(t3:Told K e e.rM 3)(t5:Told K e e.rN 5)(t6:Told K e e.v7 6)(t7:Told K e e.rows 7)(ha:yh st d)(hr:uH st d=some i):Told K e (e.at i) i:=by
 cases d with
 | cast rs=>rcases BI hr with rfl|rfl|rfl|rfl <;> assumption
 | _=>exact ha.elim
theorem Tt{c:Nat}{st:HS}{b:BS}{rs:Da Row}(g:iU c st b)(wf:Wf st)(hc:c<=90)(hl:rs.length<=1000)(h:jm st rs=none):m8 st rs:=by obtain⟨h1,h2,h3,h4⟩:=G0 h;have aw:=g.aw hc;refine⟨h2,h1,hl,λr hr=>?_,h4,aw.big,aw.prod,aw.c6,aw.stp⟩;obtain⟨a1,a2,a3⟩:=KP (h3 r hr);obtain⟨i,p,e1,e2⟩:=Qs a1;have hp:=bP e1;rw[jF wf hp e2]at a3;have hw:p.wo<=bh st:=(Tn (l:=st.ao.map λp:Pt=>p.wo) (λt ht=>by obtain⟨q,hq,rfl⟩:=bR.mp ht;have:=(wf.zH q hq).1;show 0<=q.wo;omega)).2 _ (bR.mpr ⟨p,hp,Z⟩);exact⟨a2,aw.big.of_le (by omega),p,hp,e2,a3⟩
theorem aa_(m:Nat):mq 2 ((2*m+1:Nat):Int) 2=m:=by unfold mq Builtin.Range.rangeSize;rw[aC (by decide)];split <;> omega
theorem Ct:∀{l:Da Str},l.Nodup↔∀x,l.count x<=1
 | []=>⟨λ_ _=>eV _,λ_=>qQ⟩
 | a::l=>by
  rw[iG,Ct (l:=l)];constructor
  .rintro ⟨h1,h2⟩ x;rw[List.count_cons];have:=h2 x;by_cases e:a=x
   .subst e;rw[List.count_eq_zero_of_not_mem h1];split <;> omega
   .rw [aB (by simpa using e)];omega
  .intro h;refine⟨λm=>?_,λx=>?_⟩
   .have:=h a;rw[List.count_cons_self]at this;have:=List.count_pos_iff.mpr m;omega
   .have:=h x;rw[List.count_cons]at this;omega
def OE{d:Dd}(h:d.k=2):∃rs,d =.cast rs:=by cases d <;> first|exact⟨_,rfl⟩|(simp[Dd.k]at h)
end L2
set_option autoImplicit false
namespace Law
open PySem L2
theorem gJ(n:Nat)(h:n<=1000:=by decide):n<=sizeLine:=by rw[eW];omega
def top(i:Nat):Stmt:=PySem.Challenge.pw_jettison_k20_casts_refused.main.body.getD i (.Pass ⟨0,0,0,0⟩)
section
variable {P:Program}{w:World}{K:Fg}{mg:SO}{base:Heap}{f:Addr}{fd:FuncData}
abbrev nP:Stmt:=top 2
abbrev ju:Da Str:=["one","other"]
abbrev D3:Da Str:=ju
def uL:aK D3 ju (ay nP):=dh
theorem Cu(F:At K mg "common_factor" nP f fd):Dn P w K mg base 1 "common_factor" ju UY:=by
 refine F.oA uL λ_ _ _ _ H _ Q E hr h=>?_;obtain⟨a,b,rfl,ha,hb,q⟩:=h;refine⟨_,(@cO.h _ _ _ (aj (Cp eU (aT iH (qv 1) ak (aZ _)) (au (Tg (i:=0) (j:=1) rfl uL.nd rfl rfl (by decide) rfl rfl (af (qv 1) (af (aD jQ (qv 0) (qv 1)) ai)) (by rfl))))
  (au (aP (qv 0))))),?_⟩
 refine⟨λm σ H'=>∃x y:Int,m=y.toNat/\σ=[some (.int x),some (.int y)]/\H'=H/\0<=x/\0<=y/\Jm.cf x y=Jm.cf a b,⟨_,a,b,Z,Z,Z,ha,hb,Z⟩,?_⟩;rintro m σ H' ⟨x,y,rfl,rfl,rfl,hx,hy,e⟩;refine⟨_,Z,_,_,Z,Z,_,Z,?_⟩;refine dJ (λc=>?_) (λc=>?_)
 .have c':0<y:=dI c;refine⟨_,λ_ _ z=>z,?_⟩;refine⟨_,Z,_,Z,_,Z,_,_,Z,Z,c',_,_,Z,?_⟩;have h1:0<=x % y:=nj _ (by omega);have h2:x % y<y:=xC _ c';exact⟨_,(by omega:(x % y).toNat<y.toNat),y,x % y,Z,Z,Z,hy,h1,(Jm.EV x y c').trans e⟩
 .have c':¬ 0<y:=ko (jB.mpr c);have ey:y=0:=by omega
  subst ey;rw[Jm.NS x hx]at e;refine⟨_,Z,?_⟩;rw[e];exact q
abbrev yi:Stmt:=top 21
abbrev vJ:Da Str:=["text","signs"]
abbrev Tu:Da Str:=vJ
def Qw:aK Tu vJ (ay yi):=dh
def Qx(F:At K mg "made_of" yi f fd)(Qy:mg "all"=none):Dn P w K mg base 1 "made_of" vJ B9:=by
 refine F.oA Qw λ_ _ _ _ H _ Q E hr h=>?_;obtain⟨⟨cs,signs,rfl,hl,q⟩⟩:=h;refine⟨_,(@cO.h _ _ _ (au (aP (aE (RW K rfl) (by rfl) Qy PyProof.Rows.boot_all (af (e_ ["sign","signs"] [none,some 1] rfl (aa5 (qv 0)) (λ_ _ _ _=>(aL (i:=0) (show List.Nodup (["sign","signs"] :Da Str)from by decide +kernel))) (λ_ _ _ _=>(AU Rn (qv 0) (qv 1) (by with_unfolding_all rfl))) rfl (by rfl)) ai))))),?_⟩;refine⟨_,Z,cs,Z,λBM Bn=>?_⟩;refine U5 (λi out H1=>aG H H1/\out=((cs.take i).map (Du signs)).map V.bl) hl ⟨az Bn _,Z⟩ ?_ ?_
 .rintro i c out H1 hx dR ha ⟨g,e⟩;refine⟨_,Z,_,Z,_,_,Z,Z,ha,g.bM Bn _,?_⟩;rw[e,List.take_add_one,hx,br,br];rfl
 rintro out H1 dR ha ⟨g,e⟩;rw[bN]at e;refine⟨BM,cs.map (Du signs),Z,aA.of (by rw[ha,e]),?_⟩;have e2:(cs.map (Du signs)).all id=cs.all (Du signs):=by rw[List.all_map];rfl
 rw[e2];exact q H1 g
abbrev yj:Stmt:=top 20
abbrev rO:Da Str:=["text"]
abbrev Tv:Da Str:=rO
def Qz:aK Tv rO (ay yj):=dh
theorem QA{tk:Tok}(F:At K mg "is_name" yj f fd)(z6:Dn P w K mg base 1 "made_of" vJ B9)(aW:mg "len"=none)(z7:mg "LETTERS"=some (.str "abcdefghijklmnopqrstuvwxyz" tk)):Dn P w K mg base 2 "is_name" rO xU:=by
 refine F.oA Qz λ_ _ _ _ H _ Q E hr h=>?_;obtain⟨⟨cs,rfl,hl,q⟩⟩:=h;refine⟨_,(@cO.h _ _ _ (au (aP (KJ (VH V7 V7 ak (aE Jx (by rfl) aW cU (af (qv 0) ai)) ak) (KC (bu z6 hr (af (qv 0) (af (jZ (v:=.str "abcdefghijklmnopqrstuvwxyz") (by rfl) z7 ⟨_,Z⟩) ai)))))))),?_⟩;have hz:(tx cs).length<=sizeLine:=by rw[j_,eW];omega
 refine⟨_,Z,_,Z,hz,_,_,Z,Z,_,Z,?_⟩;rw[j_];refine dJ (λc=>?_) (λc=>?_)
 .refine ⟨_,_,Z,Z,_,Z,dJ (λc2=>?_) (λc2=>?_)⟩
  .refine ⟨_,Z,PR hl λH' g=>?_⟩;have:=q H' g;unfold isName at this;rw[c,c2,Ar,Ar]at this;exact this
  .have:=q H (aG.refl _);unfold isName at this;rw[c,jB.mpr c2,Ar,Am]at this;exact this
 .have:=q H (aG.refl _);unfold isName at this;rw[jB.mpr c,Am,Am]at this;exact⟨_,Z,cF this⟩
abbrev pF:Stmt:=top 26
abbrev mD:Da Str:=["amount"]
abbrev Fi:Da Str:=mD
def D4:aK Fi mD (ay pF):=dh
theorem Cv{e:Ec}(F:At K mg "check_amount" pF f fd)(uM:kP K e.rN)(kR:mg "BadNumber"=some (.ref e.rN)):Dx P w K mg base 1 "check_amount" mD (Ti e):=by refine F.KL D4 λ_ _ _ _ H _ Q E hr h=>?_;obtain⟨⟨a,rfl,h5,q⟩⟩:=h;refine⟨_,(@cO.h _ _ _ (au (cE (aT Ay (qv 0) ak (aZ _)) (au (qC uM (by rfl) kR)) aR))),?_⟩;exact⟨_,Z,_,_,Z,Z,_,Z,dJ (λc=>λx=>h5 (dI c) x H (aG.refl _)) λc=>q (by have:=ko (jB.mpr c);omega)⟩
abbrev rY:Stmt:=top 27
abbrev pG:Da Str:=["most","amount"]
abbrev KU:Da Str:=pG
def Hs:aK KU pG (ay rY):=dh
theorem Fj{e:Ec}(F:At K mg "check_loss" rY f fd)(pH:Dx P w K mg base 1 "check_amount" mD (Ti e))(mE:kP K e.v7)(jv:mg "TooMuch"=some (.ref e.v7)):Dx P w K mg base 2 "check_loss" pG (Tj e):=by
 refine F.KL Hs λ_ _ _ _ H _ Q E hr h=>?_;obtain⟨⟨m,a,rfl,h5,h6,q⟩⟩:=h;refine⟨_,(@cO.h _ _ _ (aj (dN (KI pH hr (af (qv 1) ai)))
  (au (cE (aT iH (qv 1) (qv 0) (aZ _)) (au (qC mE (by rfl) jv)) aR)))),?_⟩
 exact⟨_,Z,⟨⟨a,Z,h5,λh1=>⟨_,Z,_,Z,_,_,Z,Z,_,Z,dJ (λc=>λx=>h6 h1 (dI c) x H (aG.refl _)) λc=>q h1 (by have:=ko (jB.mpr c);omega)⟩⟩⟩⟩
abbrev rZ:Stmt:=top 25
abbrev pI:Da Str:=["rows"]
abbrev KW:Da Str:=pI.append ["amounts","name","amount"]
def ny:aK KW pI (ay rZ):=dh
theorem Fl{e:Ec}(F:At K mg "amounts_of" rZ f fd)(aW:mg "len"=none)(tQ:kP K e.rows)(lN:mg "BadRows"=some (.ref e.rows)):Dx P w K mg base 1 "amounts_of" pI (OC K e):=by
 refine F.KL ny λ_ _ _ _ H _ Q E hr h=>?_;obtain⟨⟨l,us,rs,rfl,hl,hR,hle,h7,q⟩⟩:=h;refine⟨_,(@cO.h _ _ _ (aj (aQ (i:=1) ny.nd qA)
  (aj (dG PassesOwn.leaving rfl (c8 K (qv 0)) (iO K (n:=2) rfl (cI (aL (i:=2) ny.nd) (cI (aL (i:=3) ny.nd) iN))) (aj (cE (w6 (KH (cA hr) (qv 2) (qv 1))) (au (qC tQ (by rfl) lN)) aR)
  (au (qB (cA hr) (qv 1) (qv 2) (qv 3) rfl))))
  (aj (cE (aT i6 (aE y9 (by rfl) aW cU (af (qv 1) ai)) ak (aZ _)) (au (qC tQ (by rfl) lN)) aR)
  (au (aP (qv 1))))))),?_⟩
 intro d hd;have g0:=az hd (.dK []);have hd0:upd H d (.dK []) d=some (.dK (gP (rs.take 0))):=ah;generalize upd H d (.dK [])=H0 at *;have KY:=hR.length;refine⟨_,Z,l,Z,⟨us,g0.seq hl⟩,?_⟩;refine jC (K:=K) (xs:=us) (λi σ H'=>aG H H'/\H' d=some (.dK (gP (rs.take i)))/\((rs.take i).map λr:Row=>r.1).Nodup/\∃s2 s3,σ=[some (.ref l),some (.ref d),s2,s3]) ⟨g0,hd0,qQ,_,_,Z⟩ (λi σ H' _ hp=>hp.1.seq hl) ?_ ?_
 .rintro i x σ H' hx ⟨g,hd',nd,s2,s3,rfl⟩;obtain⟨a,r,rfl,er,ha⟩:=hR.get hx;have hlt:(gP (rs.take i)).length<sizeLine:=by rw[ya,kr];exact fq (by omega)
  refine⟨a,_,Z,cz.of (g _ _ ha),Z,_,_,Z,_,_,Z,Z,?_⟩;refine⟨_,Z,_,Z,d,_,Z,cS.k (k:=Sum.inr r.1) hd',_,Z,?_⟩;have eS:(rs.take (i+1)).map (λr:Row=>r.1)=(rs.take i).map (λr:Row=>r.1)++[r.1] :=by rw[take_snoc er,br];rfl
  by_cases hn:r.1∈(rs.take i).map (λr:Row=>r.1)
  .rw [Tp hn];exact mP λy=>h7 (λz=>jX z.2 (by rw[bF,er];rfl) (by rw[<-Aq];exact hn)) y H' g
  have hnot:=hn;rw[GH hnot];refine cF ?_;refine⟨_,Z,_,Z,_,Z,d,_,Z,uc.k (k:=Sum.inr r.1) hd' hlt,g.bM hd _,?_,?_,_,_,Z⟩
  .rw [ah,nK _ (GH hnot),take_snoc er];unfold gP;rw[br];rfl
  .rw [eS];exact List.nodup_append.mpr ⟨nd,(by simp),λa ha b hb e=>hn (by rw[eL.mp hb]at e;rw[<-e];exact ha)⟩
 rintro σ H' ⟨g,hd',nd,s2,s3,rfl⟩;rw[KY,bN]at hd' nd;refine⟨_,Z,d,_,Z,hd',Z,_,Z,?_⟩;rw[ya];by_cases hne:rs=[]
 .subst hne;exact mP λy=>h7 (λz=>z.1 rfl) y H' g
 have hpos:0<rs.length:=List.length_pos_iff.mpr hne;rw[dz (λe=>by have:=V.int.inj e;omega)];exact cF ⟨_,Z,q hne nd d H' g hd hd'⟩
abbrev nQ:Stmt:=top 5
abbrev lB:Da Str:=["step","tops"]
abbrev D5:Da Str:=lB.append ["top"]
def nR:aK D5 lB (ay nQ):=dh
theorem Cw(F:At K mg "factor_of_all" nQ f fd)(iw:Dn P w K mg base 1 "common_factor" ju UY):Dn P w K mg base 2 "factor_of_all" lB (Sl K):=by
 refine F.oA nR λ_ _ _ _ H _ Q E hr h=>?_;obtain⟨⟨s,l,ts,rfl,hl,h0,h1,q⟩⟩:=h;refine⟨_,(@cO.h _ _ _ (aj (dG eU rfl (c8 K (qv 1)) (aL (i:=2) nR.nd) (au (aQ (i:=0) nR.nd (bu iw hr (af (qv 2) (af (qv 0) ai))))))
  (au (aP (qv 0))))),?_⟩
 refine⟨_,Z,l,Z,⟨_,hl⟩,?_⟩;refine jC (K:=K) (xs:=ts.map V.int) (λi σ H'=>H'=H/\0<=pA s (ts.take i)/\∃s2,σ=[some (.int (pA s (ts.take i))),some (.ref l),s2]) ⟨Z,h0,_,Z⟩ (λi σ H' _ hp=>by rw[hp.1];exact hl) ?_ ?_
 .rintro i x σ H' hx ⟨rfl,hf,s2,rfl⟩;obtain⟨t,rfl,et⟩:=gO hx;have e1:pA s (ts.take (i+1))=Jm.cf t (pA s (ts.take i)):=by unfold pA;rw[take_snoc et,Ji];rfl
  refine⟨_,Z,_,Z,t,_,Z,h1 t (bP et),hf,Z,?_,some (.int t),?_⟩
  .rw [e1];unfold Jm.cf;omega
  .rw [e1];rfl
 rintro σ H' ⟨rfl,hf,s2,rfl⟩;rw[aF,bN];exact⟨_,Z,q⟩
abbrev qD:Stmt:=inClass (top 4) 0
abbrev r_:Da Str:=["self"]
abbrev Ht:Da Str:=r_
def Fo:aK Ht r_ (ay qD):=dh
def Fp{T:TC}(F:GC K mg "Bottom" T.bot "Bottom.__init__" qD f fd)(X:Txt K T):Cn P w K mg base 1 "Bottom" T.bot r_ (N3 T):=by
 refine F.oA Fo λ_ _ _ _ H _ Q E hr h=>?_;obtain⟨⟨p,dx,rfl,hp,q⟩⟩:=h;refine⟨_,(@cO.h _ _ _ (aj (fh K (qv 0) (d_ ai))
  (aj (fh K (qv 0) ak)
  (au (fh K (qv 0) qA))))),?_⟩
 refine⟨(gJ 0),λl hl=>?_⟩;have n1:p≠l:=aH hp hl;refine⟨_,Z,p,T.bot,dx,_,Z,by rw[av n1];exact hp,X.cB,X.bst,by show 0<1000;decide,?_⟩;refine⟨_,Z,p,T.bot,dx,_,Z,ah,X.cB,X.Wq,by show 1<1000;decide,?_⟩;intro d hd;have n2:d≠p:=λe=>by rw[e,ah]at hd;cases hd
 have n3:d≠l:=λe=>by rw[e,av (cy n1),av (cy n1),ah]at hd;cases hd
 have hd0:H d=none:=by rw[av n2,av n2,av n3]at hd;exact hd
 refine⟨_,Z,p,T.bot,dx,_,Z,by rw[av (cy n2)];exact ah,X.cB,X.Sb,by show 2<1000;decide,?_⟩;refine q l d _ hl hd0 (cy n3) (λb o e hb=>?_) ah ?_ ?_
 .rw [av hb,av (aH e hd0),av hb,av hb,av (aH e hl)];exact e
 .rw [av (cy n1),av (cy n3),av (cy n1),av (cy n1)];exact ah
 .rw [av n2];exact ah
abbrev uN:Stmt:=inClass (top 23) 0
abbrev v_:Da Str:=["self","name","owner","worth","weight","scale","row"]
abbrev MA:Da Str:=v_
def KZ:aK MA v_ (ay uN):=dh
def K0{T:TC}(F:GC K mg "Part" T.part "Part.__init__" uN f fd)(X:Txt K T)(dU:mg "list"=none):Cn P w K mg base 1 "Part" T.part v_ (N4 T K):=by
 refine F.oA KZ λ_ _ _ _ H _ Q E hr h=>?_;obtain⟨⟨p,dx,l,pt,rfl,hp,hl,q⟩⟩:=h;refine⟨_,(@cO.h _ _ _ (aj (fh K (qv 0) (qv 1))
  (aj (fh K (qv 0) (qv 2))
  (aj (fh K (qv 0) (qv 3))
  (aj (fh K (qv 0) (qv 4))
  (aj (fh K (qv 0) (qv 5))
  (au (fh K (qv 0) (oK (rX K) (by rfl) dU xA (af (qv 6) ai)))))))))),?_⟩
 refine⟨_,Z,_,Z,p,T.part,dx,_,Z,hp,X.cP,X.Wn,by show 0<1000;decide,?_⟩;refine⟨_,Z,_,Z,p,T.part,dx,_,Z,ah,X.cP,X.pow,by show 1<1000;decide,?_⟩;refine⟨_,Z,_,Z,p,T.part,dx,_,Z,ah,X.cP,X.NZ,by show 2<1000;decide,?_⟩;refine⟨_,Z,_,Z,p,T.part,dx,_,Z,ah,X.cP,X.pwe,by show 3<1000;decide,?_⟩;refine⟨_,Z,_,Z,p,T.part,dx,_,Z,ah,X.cP,X.Sa,by show 4<1000;decide,?_⟩;simp only[qm];have hl1:∀o,aA K (upd H p o) l (pt.row.map V.int):=λo=>by
  rcases hl with(h|⟨ob,h⟩)|h
  .exact .inl (.inl (by rw[av (iZ h hp (by intro z;cases z))];exact h))
  .exact .inl (.inr ⟨ob,by rw[av (iZ h hp (by intro z;cases z))];exact h⟩)
  .exact .inr h
 refine⟨_,Z,l,_,Z,.inl (hl1 _),λr hr2=>?_⟩;have n1:r≠p:=λe=>by rw[e,ah]at hr2;cases hr2
 refine⟨_,Z,p,T.part,dx,_,Z,by rw[av (cy n1)];exact ah,X.cP,X.Wo,by show 5<1000;decide,?_⟩;have hr0:H r=none:=by rw[av n1]at hr2;exact hr2
 refine q r _ hr0 (λb o e hb=>?_) ah ?_
 .rw [av hb,av (aH e hr0),av hb];exact e
 .rw [av n1];exact ah
abbrev qE:Stmt:=inClass (top 4) 1
abbrev nC:Da Str:=["self","step"]
abbrev Hu:Da Str:=nC
def Fq:aK Hu nC (ay qE):=dh
def Ft{T:TC}(F:ji K T.bot "grow" "Bottom.grow" qE f fd)(X:Txt K T):Mn P w K mg base 1 T.bot "grow" nC (Sm T):=by
 refine F.oA Fq λ_ _ _ _ H _ Q E hr h=>?_;obtain⟨⟨n,ρ,A,st,s,rfl,g,h,hl,z1,z2,q⟩⟩:=h;refine⟨_,(@cO.h _ _ _ (au (iD (aT iH (qv 1) ak (aZ _)) (aj (dN (nv rR tW tX f_ (aY K (qv 0)) (af (qv 1) ai)))
  (aj (DY K (qv 0) (qv 1) XM)
  (au (fh K (qv 0) qA)))) aR))),?_⟩
 refine⟨λσ' H'=>Q .cD H',⟨_,Z,_,_,Z,Z,_,Z,dJ (λc=>?_) (λc=>?_)⟩,λ_ _ z=>z⟩
 .have c':1<s:=dI c;refine⟨_,Z,A.bt,T.bot,A.db,_,_,Z,h.ou,X.cB,X.bst,Z,.inl ⟨Z,_,aA.of h.s_⟩,_,Z,A.sp,_,_,Z,Z,h.s_,by rw[aF];exact fq hl,?_⟩;rw[show st.stp.map V.int++[V.int s]=(st.stp++[s]).map V.int from by rw[br];rfl];have h1:=h.aad g (st.stp++[s]);have g1:=g.wr (a:=A.sp) (o:=.lst ((st.stp++[s]).map V.int)) rfl;have F1:Fr n ρ H ρ (upd H A.sp (.lst ((st.stp++[s]).map V.int))):=Fr.write h.jV;generalize upd H A.sp (.lst ((st.stp++[s]).map V.int))=H1 at *;refine⟨_,Z,A.bt,T.bot,A.db,_,_,Z,h1.ou,X.cB,X.Wq,Z,_,Z,_,_,Z,Z,jb z1 z2,A.db,_,h1.ou,by show 3<1000;decide,?_⟩;intro kn hkn;have nb:kn≠A.bt:=λe=>by rw[e,ah]at hkn;cases hkn
  have Cy:H1 kn=none:=by rw[av nb]at hkn;exact hkn
  have jW:ρ kn=none:=g1.none Cy;refine⟨_,Z,A.bt,T.bot,A.db,_,Z,by rw[av (cy nb)];exact ah,X.cB,X.Sb,by show 3<1000;decide,?_⟩;have eH:upd (upd (upd H1 A.bt (.ins T.bot A.db (iy "product" (.int (st.prod*s)) (xX A.sp st.prod A.kn)))) kn (.dK [])) A.bt (.ins T.bot A.db (iy "known" (.ref kn) (iy "product" (.int (st.prod*s)) (xX A.sp st.prod A.kn))))=upd (upd H1 kn (.dK [])) A.bt (.ins T.bot A.db (xX A.sp (st.prod*s) kn)):=by rw[kD (cy nb),qm];rfl
  have k2:Kp n ρ (cL ρ kn (n,9,⟨#[]⟩)) H1 (upd H1 kn (.dK [])) (λ_=>true):=⟨(az Cy _).tups,λb t x o _ c e=>⟨az Cy _ _ _ e,by rw[bZ (aH e Cy)];exact c⟩⟩
  have h2:=h1.same k2;have g2:Gh (cL ρ kn (n,9,⟨#[]⟩)) (upd H1 kn (.dK [])):=(g1.alloc Cy).color ah rfl;have F2:Fr n ρ H1 (cL ρ kn (n,9,⟨#[]⟩)) (upd H1 kn (.dK [])):=Fr.color Cy (az Cy _);have h3:=h2.aag g2 (st.prod*s) kn ah dX;have es:fW st s={ { st with stp:=st.stp++[s] }with prod:=st.prod*s,kn:=0 }:=by unfold fW;rw[aC c']
  rw[es]at q;show Q .cD _;refine(show _=_ from eH)▸?_;exact q _ _ _ (g2.wr rfl) h3 rfl (F1.trans (F2.trans (Fr.write h2.jT)))
 .have c':¬ 1<s:=ko (jB.mpr c);have es:fW st s=st:=by unfold fW;rw[aB c']
  rw[es]at q;exact q ρ A H g h rfl Fr.refl
abbrev nS:Stmt:=inClass (top 24) 19
abbrev lC:Da Str:=["self","owner"]
abbrev D6:Da Str:=lC
def Cz:aK D6 lC (ay nS):=dh
def CA{T:TC}(F:ji K T.hold "place_of" "Hold.place_of" nS f fd)(X:Txt K T):Mn P w K mg base 1 T.hold "place_of" lC (N6 T):=by
 refine F.oA Cz λ_ _ _ _ H _ Q E hr h=>?_;obtain⟨⟨n,ρ,A,st,o,rfl,h,ho,q⟩⟩:=h;refine⟨_,(@cO.h _ _ _ (aj (cE (w6 (zX (cA hr) (qv 1) (aY K (qv 0)))) (au nO) aR)
  (au (aP (bQ (cA hr) (aY K (qv 0)) (qv 1)))))),?_⟩
 have hv:=N1 (i:=0) ho;refine⟨_,Z,_,Z,A.a,T.hold,A.dx,_,_,Z,h.oa,X.cH,X.hpl,Z,A.pl,_,Z,cS.k (k:=Sum.inr o) h.i_,_,Z,?_⟩;rw[hv];refine cF ?_;refine⟨_,Z,A.a,T.hold,A.dx,_,_,Z,h.oa,X.cH,X.hpl,Z,_,Z,A.pl,_,Z,hv▸cS.k (k:=Sum.inr o) h.i_,?_⟩;rw[Nat.zero_add];exact q
abbrev pJ:Stmt:=inClass (top 24) 20
abbrev j0:Da Str:=["self","name"]
abbrev Fv:Da Str:=j0
def D7:aK Fv j0 (ay pJ):=dh
def CB{T:TC}{e:Ec}(F:ji K T.hold "part_of" "Hold.part_of" pJ f fd)(X:Txt K T)(z8:kP K e.rM)(qF:mg "NoPart"=some (.ref e.rM)):Mx P w K mg base 1 T.hold "part_of" j0 (zW T e):=by
 refine F.KL D7 λ_ _ _ _ H _ Q E hr h=>?_;obtain⟨⟨n,ρ,A,st,x,rfl,hA,nd,q2,k⟩⟩:=h;refine⟨_,(@cO.h _ _ _ (aj (cE (w6 (zX (cA hr) (qv 1) (aY K (qv 0)))) (au (qC z8 (by rfl) qF)) aR)
  (au (aP (bQ (cA hr) (aY K (qv 0)) (qv 1)))))),?_⟩
 refine⟨_,Z,_,Z,A.a,T.hold,A.dx,_,_,Z,hA.oa,X.cH,X.hab,Z,A.ab,_,Z,cS.k (k:=Sum.inr x) hA.eX,_,Z,?_⟩;by_cases hx:∃p∈st.ao,p.nm=x
 .obtain ⟨p,hp,rfl⟩:=hx;obtain⟨i,hi,ep⟩:=List.mem_iff_getElem.mp hp;have wK:st.ao[i]?=some p:=by rw[aS hi,ep]
  obtain⟨qq,eq,_⟩:=hA.find wK;have hv:=wX nd wK eq;rw[hv];refine cF ?_;exact⟨_,Z,A.a,T.hold,A.dx,_,_,Z,hA.oa,X.cH,X.hab,Z,_,Z,A.ab,_,Z,hv▸cS.k (k:=Sum.inr p.nm) hA.eX,k i p qq rfl wK eq⟩
 .have hn:∀p∈st.ao,p.nm≠x:=λp hp z=>hx ⟨p,hp,z⟩;rw[uw hn];exact mP λy=>q2 hn y H (aG.refl _)
abbrev mR:Stmt:=inClass (top 24) 21
abbrev kI:Da Str:=["self","name"]
abbrev CC:Da Str:=kI
def AY:aK CC kI (ay mR):=dh
def AZ{T:TC}(F:ji K T.hold "check_new" "Hold.check_new" mR f fd)(X:Txt K T)(oN:Dn P w K mg base 2 "is_name" rO xU):Mn P w K mg base 3 T.hold "check_new" kI (DH T):=by
 refine F.oA AY λ_ _ _ _ H _ Q E hr h=>?_;obtain⟨⟨n,ρ,A,st,x,rfl,h,hx,hn,q⟩⟩:=h;refine⟨_,(@cO.h _ _ _ (aj (cE (dS (dF (bu oN hr (af (qv 1) ai)))) (au nO) aR)
  (au (cE (w6 (KH (cA hr) (qv 1) (aY K (qv 0)))) (au nO) aR)))),?_⟩
 refine⟨_,Z,Dv (cs:=x.cps.toList) (J4 hx) λH1 g1=>⟨_,Z,?_⟩⟩;rw[show isName x.cps.toList=true from hx];refine cF ?_;have h1:=h.mono g1;refine⟨_,Z,_,Z,A.a,T.hold,A.dx,_,_,Z,h1.oa,X.cH,X.hnm,Z,A.nm,_,Z,cS.k (k:=Sum.inr x) h1.uo,_,Z,?_⟩;rw[zJ hn];exact cF (q H1 g1)
abbrev qG:Stmt:=inClass (top 24) 10
abbrev nD:Da Str:=["self"]
abbrev Hv:Da Str:=nD
def Fw:aK Hv nD (ay qG):=dh
def Fx{T:TC}(F:ji K T.hold "roster" "Hold.roster" qG f fd)(X:Txt K T)(dU:mg "list"=none):Mn P w K mg base 1 T.hold "roster" nD (J0 T):=by refine F.oA Fw λ_ _ _ _ H _ Q E hr h=>?_;obtain⟨⟨n,ρ,A,st,rfl,h,q⟩⟩:=h;refine⟨_,(@cO.h _ _ _ (au (aP (oK (P_ rfl) (by rfl) dU xA (af (aY K (qv 0)) ai))))),?_⟩;refine⟨_,Z,A.a,T.hold,A.dx,_,_,Z,h.oa,X.cH,X.hpl,Z,A.pl,_,Z,.inl h.i_,λl hl=>?_⟩;rw[Cb];exact q l hl
abbrev sf:Stmt:=inClass (top 24) 11
abbrev pK:Da Str:=["self"]
abbrev K1:Da Str:=pK
def Hw:aK K1 pK (ay sf):=dh
theorem Hx{T:TC}(F:ji K T.hold "parts" "Hold.parts" sf f fd)(X:Txt K T):Mn P w K mg base 1 T.hold "parts" pK (N9 T):=by
 refine F.oA Hw λ_ _ _ _ H _ Q E hr h=>?_;obtain⟨⟨n,ρ,A,st,rfl,h,hl,q⟩⟩:=h;refine⟨_,(@cO.h _ _ _ (au (aP (KD (e_ ["part"] [none] rfl (AR (aY K (qv 0))) (λ_ _ _ _=>(aL (i:=0) (show List.Nodup (["part"] :Da Str)from by decide +kernel))) (λ_ _ _ _=>(iC (af (aY K (qv 0)) (af (aY K (qv 0)) (af (aY K (qv 0)) (af (aY K (qv 0)) ai)))))) rfl (by rfl)))))),?_⟩;refine⟨A.ab,_,h.eX,λo=>?_⟩;refine⟨_,Z,A.a,T.hold,A.dx,_,_,Z,fu h.eX h.oa (λk z=>by cases z),X.cH,X.hab,Z,A.ab,o,_,Z,ah,λBM Bn=>?_⟩;have el:=wW h.ql;refine fR (n:=st.ao.length) 0 (λi out H1=>aG (upd H A.ab (.fF o (.dK (cT st.ao A.qs)))) H1/\jJ H1 out (st.ao.take i)) (by omega) ⟨az Bn _,.nil⟩ (λi out H1 hi _ hp=>⟨hp.1 _ _ ah,by rw[el];exact hi⟩) (λout H1 _ hp=>⟨hp.1 _ _ ah,by rw[el];exact aN _⟩) ?_ ?_
 .rintro i x out H1 H2 hi dR ha ⟨g,hP⟩ ⟨rfl,kv,hkv,rfl⟩;have ep:=aS hi;obtain⟨qq,eq,h1,h2,_⟩:=h.find ep;rw[wV ep eq]at hkv;cases hkv;have hq:=g _ _ (fu h.eX h1 (λk z=>by cases z));refine⟨_,Z,qq.1,T.part,qq.2.1,_,_,Z,hq,X.cP,X.Wn,Z,_,Z,qq.1,T.part,qq.2.1,_,_,Z,hq,X.cP,X.pow,Z,_,Z,qq.1,T.part,qq.2.1,_,_,Z,hq,X.cP,X.NZ,Z,_,Z,qq.1,T.part,qq.2.1,_,_,Z,hq,X.cP,X.pwe,Z,(gJ 4),λt ht=>?_⟩;have g1:=az ht (AN st.ao[i]);refine⟨g1 _ _ ha,(g.trans g1).bM Bn _,?_⟩;rw[take_snoc ep];exact((hP.mono g1.tups).snoc ah).mono (iK (.inr ⟨_,g1 _ _ ha,Z⟩))
 rintro out H1 dR ha ⟨g,hP⟩;rw[bN]at hP;have hz:=g _ _ (ah (H:=H) (a:=A.ab) (o:=.fF o (.dK (cT st.ao A.qs))));have na:BM≠A.ab:=λe=>by rw[e,hz]at ha;cases ha
 exact⟨hz,q BM out _ (ux h.eX g) (nL h.eX Bn) (by rw[av na];exact ha) (hP.mono (iK (.inr ⟨_,hz,Z⟩)))⟩
abbrev sj:Stmt:=inClass (top 24) 13
abbrev lO:Da Str:=["self"]
abbrev K2:Da Str:=lO
def Hy:aK K2 lO (ay sj):=dh
theorem Hz{T:TC}(F:ji K T.hold "whole" "Hold.whole" sj f fd)(X:Txt K T)(fH:mg "sum"=none):Mn P w K mg base 1 T.hold "whole" lO (E7 T):=by
 refine F.oA Hy λ_ _ _ _ H _ Q E hr h=>?_;obtain⟨⟨n,ρ,A,st,rfl,h,hl,q⟩⟩:=h;refine⟨_,(@cO.h _ _ _ (au (aP (aE (jh K rfl) (by rfl) fH t8 (af (KD (e_ ["part"] [none] rfl (AR (aY K (qv 0))) (λ_ _ _ _=>(aL (i:=0) (show List.Nodup (["part"] :Da Str)from by decide +kernel))) (λ_ _ _ _=>(aY K (qv 0))) rfl (by rfl))) ai))))),?_⟩;refine⟨A.ab,_,h.eX,λo=>?_⟩;refine⟨_,Z,A.a,T.hold,A.dx,_,_,Z,fu h.eX h.oa (λk z=>by cases z),X.cH,X.hab,Z,A.ab,o,_,Z,ah,λBM Bn=>?_⟩;have el:=wW h.ql;refine fR (n:=st.ao.length) 0 (λi out H1=>aG (upd H A.ab (.fF o (.dK (cT st.ao A.qs)))) H1/\out=((st.ao.take i).map (·.wo)).map V.int) (by omega) ⟨az Bn _,Z⟩ (λi out H1 hi _ hp=>⟨hp.1 _ _ ah,by rw[el];exact hi⟩) (λout H1 _ hp=>⟨hp.1 _ _ ah,by rw[el];exact aN _⟩) ?_ ?_
 .rintro i x out H1 H2 hi dR ha ⟨g,e⟩ ⟨rfl,kv,hkv,rfl⟩;have ep:=aS hi;obtain⟨qq,eq,h1,h2,_⟩:=h.find ep;rw[wV ep eq]at hkv;cases hkv;have hq:=g _ _ (fu h.eX h1 (λk z=>by cases z));refine⟨_,Z,qq.1,T.part,qq.2.1,_,_,Z,hq,X.cP,X.NZ,Z,ha,g.bM Bn _,?_⟩;rw[take_snoc ep,e,br,br];rfl
 rintro out H1 dR ha ⟨g,e⟩;rw[bN]at e;have hz:=g _ _ (ah (H:=H) (a:=A.ab) (o:=.fF o (.dK (cT st.ao A.qs))));have na:BM≠A.ab:=λe=>by rw[e,hz]at ha;cases ha
 exact⟨hz,BM,st.ao.map (λp:Pt=>p.wo),Z,aA.of (by rw[av na,ha,e]),q _ (ux h.eX g)⟩
abbrev j5:Stmt:=inClass (top 24) 25
abbrev iI:Da Str:=["self","tops"]
abbrev yk:Da Str:=iI
def xo:aK yk iI (ay j5):=dh
theorem xr{T:TC}(F:ji K T.hold "beyond_common" "Hold.beyond_common" j5 f fd)(X:Txt K T)(jL:mg "zip"=none):Mn P w K mg base 1 T.hold "beyond_common" iI (Wt T K):=by
 refine F.oA xo λ_ _ _ _ H _ Q E hr h=>?_;obtain⟨⟨n,ρ,A,st,l,tops,rfl,h,hS,WH,hle,q⟩⟩:=h;refine⟨_,(@cO.h _ _ _ (au (aP (e_ ["top","common"] [none,none] rfl (tV K (by rfl) jL (af (qv 1) (af (aY K (qv 0)) ai))) (λ_ _ _ _=>(iO K (n:=2) rfl (cI (aL (i:=0) (show List.Nodup (["top","common"] :Da Str)from by decide +kernel)) (cI (aL (i:=1) (show List.Nodup (["top","common"] :Da Str)from by decide +kernel)) iN)))) (λ_ _ _ _=>(aD lI (qv 0) (qv 1))) rfl (by rfl))))),?_⟩;refine⟨_,Z,_,Z,A.a,T.hold,A.dx,_,_,Z,h.oa,X.cH,X.Bt,Z,_,_,_,_,_,_,Z,.lst hS,.lst (aA.of h.jU),λBM Bn=>?_⟩;refine zu (K:=K) (n:=tops.length) [0,1] (λi out H1=>aG H H1/\out=(List.zipWith (λt c=>t-c) (tops.take i) (st.bL.take i)).map V.int) (by decide) (by omega) ⟨az Bn _,Z⟩ (λi out H1 hi _ hp=>⟨hp.1.seq hS,hp.1.seq (aA.of h.jU),by rw[aF];exact hi,by rw[aF];omega⟩)
  (λout H1 _ hp=>⟨hp.1.seq hS,hp.1.seq (aA.of h.jU),.inl (by rw[aF];exact aN _)⟩) ?_ ?_
 .rintro i x out H1 H2 hi dR ha ⟨g,e⟩ ⟨p,x1,y1,hp,rfl,rfl,e1,e2⟩;obtain⟨t,rfl,et⟩:=gO e1;obtain⟨c,rfl,ec⟩:=gO e2;have g1:=az hp (.tup [.int t,.int c]);refine⟨p,_,Z,cz.of ah,Z,_,Z,_,Z,_,_,Z,Z,g1 _ _ ha,(g.trans g1).bM Bn _,?_⟩;rw[oz _ et ec,e,br];rfl
 rintro out H1 dR ha ⟨g,e⟩;rw[bN,WH,bN]at e;exact q BM H1 g Bn (by rw[ha,e];rfl)
abbrev pL:Stmt:=inClass (top 24) 24
abbrev mF:Da Str:=["self","part"]
abbrev Fy:Da Str:=mF
def D8:aK Fy mF (ay pL):=dh
theorem D9{T:TC}(F:ji K T.hold "tops_of" "Hold.tops_of" pL f fd)(X:Txt K T)(jL:mg "zip"=none):Mn P w K mg base 1 T.hold "tops_of" mF (N7 T):=by
 refine F.oA D8 λ_ _ _ _ H _ Q E hr h=>?_;obtain⟨⟨n,ρ,A,st,ip,pt,qq,rfl,h,wf,ep,eq,q⟩⟩:=h;obtain⟨h1,h2,_⟩:=h.opt ip pt qq ep eq;have lP:=bP ep;refine⟨_,(@cO.h _ _ _ (au (aP (e_ ["own","common","part"] [none,none,some 1] rfl (tV K (by rfl) jL (af (aY K (qv 1)) (af (aY K (qv 0)) ai))) (λ_ _ _ _=>(iO K (n:=2) rfl (cI (aL (i:=0) (show List.Nodup (["own","common","part"] :Da Str)from by decide +kernel)) (cI (aL (i:=1) (show List.Nodup (["own","common","part"] :Da Str)from by decide +kernel)) iN)))) (λ_ _ _ _=>(aD bV (aD jR (aY K (qv 2)) (qv 0)) (qv 1))) rfl (by rfl))))),?_⟩;have erl:pt.row.length=st.bL.length:=by rw[wf.rows pt lP,wf.jD]
 have hcl:st.bL.length<=100:=by rw[wf.jD];exact wf.uq
 refine⟨_,Z,qq.1,T.part,qq.2.1,_,_,Z,h1,X.cP,X.Wo,Z,_,Z,A.a,T.hold,A.dx,_,_,Z,h.oa,X.cH,X.Bt,Z,_,_,_,_,_,_,Z,.lst (aA.of h2),.lst (aA.of h.jU),λBM Bn=>?_⟩;refine zu (K:=K) (n:=pt.row.length) [0,1] (λi out H1=>aG H H1/\out=(List.zipWith (λr c=>pt.sc*r+c) (pt.row.take i) (st.bL.take i)).map V.int) (by decide) (by omega) ⟨az Bn _,Z⟩ (λi out H1 hi _ hp=>⟨hp.1.seq (aA.of h2),hp.1.seq (aA.of h.jU),by rw[aF];exact hi,by rw[aF];omega⟩)
  (λout H1 _ hp=>⟨hp.1.seq (aA.of h2),hp.1.seq (aA.of h.jU),.inl (by rw[aF];exact aN _)⟩) ?_ ?_
 .rintro i x out H1 H2 hi dR ha ⟨g,e⟩ ⟨p,x1,y1,hp,rfl,rfl,e1,e2⟩;obtain⟨t,rfl,et⟩:=gO e1;obtain⟨c,rfl,ec⟩:=gO e2;have g1:=az hp (.tup [.int t,.int c]);have s1:Jm.Sz 8000 pt.sc:=Jm.Sz.oZ (by have:=wf.yD pt lP;have:=wf.jj;omega) (wf.yD pt lP).2 wf.big;have s2:Jm.Sz 8000 t:=Jm.Sz.oZ (wf.vY pt lP t (bP et)).1 (wf.vY pt lP t (bP et)).2 wf.big;refine⟨p,_,Z,cz.of ah,Z,_,Z,qq.1,T.part,qq.2.1,_,_,Z,(g.trans g1) _ _ h1,X.cP,X.Sa,Z,_,Z,_,_,Z,Z,jb s1 s2,_,Z,_,_,Z,Z,g1 _ _ ha,(g.trans g1).bM Bn _,?_⟩;rw[oz _ et ec,e,br];rfl
 rintro out H1 dR ha ⟨g,e⟩;rw[bN,erl,bN]at e;exact q BM H1 g Bn (by rw[ha,e];rfl)
abbrev uO:Stmt:=inClass (top 24) 22
abbrev qX:Da Str:=["self","part"]
abbrev MB:Da Str:=qX
def K3:aK MB qX (ay uO):=dh
theorem K4{T:TC}(F:ji K T.hold "stow" "Hold.stow" uO f fd)(X:Txt K T):Mn P w K mg base 1 T.hold "stow" qX (Se T):=by
 refine F.oA K3 λ_ _ _ _ H _ Q E hr h=>?_;obtain⟨⟨n,ρ,A,st,qq,p,rfl,hh,h1,h2,c1,c2,hn,wf',q⟩⟩:=h;have h:=hh.h;refine⟨_,(@cO.h _ _ _ (aj (qB (cA hr) (aY K (qv 0)) (aY K (qv 1)) (qv 1) rfl)
  (au (qB (cA hr) (aY K (qv 0)) (aY K (qv 1)) eY rfl)))),?_⟩
 have z9:∀x∈st.ao,x.nm≠p.nm:=λx hx e=>hn (by rw[<-e];exact hh.wf.sub x hx);have lab:(cT st.ao A.qs).length<sizeLine:=by rw[wW h.ql];exact fq hh.wf.xZ
 refine⟨_,Z,_,Z,A.a,T.hold,A.dx,_,_,Z,h.oa,X.cH,X.hab,Z,_,Z,qq.1,T.part,qq.2.1,_,_,Z,h1,X.cP,X.Wn,Z,A.ab,_,Z,uc.k (k:=Sum.inr p.nm) h.eX lab,?_⟩;rw[nK _ (uw z9),<-Vf h.ql p qq];have k1:qq.1≠qq.2.2:=iZ h1 h2 (by intro z;cases z);have f1:Kp n ρ (cL (cL ρ qq.1 (n,20,p.nm)) qq.2.2 (n,21,p.nm)) H H (λ_=>true):=⟨λ_ _ e=>e,λb t x o _ c e=>⟨e,by rw[bZ (λz=>by rw[z,c2]at c;cases c),bZ (λz=>by rw[z,c1]at c;cases c)];exact c⟩⟩
 have hc:=h.same f1;have g1:Gh (cL (cL ρ qq.1 (n,20,p.nm)) qq.2.2 (n,21,p.nm)) H:=(hh.g.color h1 rfl).color h2 rfl;have fr1:JY n qq.1 qq.2.2 ρ H (cL (cL ρ qq.1 (n,20,p.nm)) qq.2.2 (n,21,p.nm)) H:=λb o e k n1 n2=>⟨e,by rw[bZ n2,bZ n1]⟩
 have hs:=hc.R_ g1 (st.ao++[p]) (A.qs++[qq]) (by rw[cV,cV,h.ql];rfl) (λi x y ex ey=>by
  by_cases hi:i<st.ao.length
  .rw [I_ hi]at ex;rw[I_ (by rw[h.ql];exact hi)]at ey;exact hc.opt i x y ex ey
  .rw [I0 (by omega)]at ex;rw[I0 (by rw[h.ql];omega),h.ql]at ey;have e0:i-st.ao.length=0:=by
    rcases Nat.eq_zero_or_pos (i-st.ao.length)with z|z
    .exact z
    .rw [tZ (by show 1<=_;exact z)]at ex;cases ex
   rw[e0]at ex ey;cases ex;cases ey;exact⟨h1,h2,by rw[bZ k1];exact dX,dX⟩)
 have g2:=g1.wr (a:=A.ab) (o:=.dK (cT (st.ao++[p]) (A.qs++[qq]))) rfl;have fr2:Fr n _ H _ (upd H A.ab (.dK (cT (st.ao++[p]) (A.qs++[qq])))):=Fr.write hc.gW;have Ws:upd H A.ab (.dK (cT (st.ao++[p]) (A.qs++[qq]))) qq.1=some (.ins T.part qq.2.1 (lK p qq.2.2)):=by rw[av (iZ h1 h.eX (by intro z;cases z))];exact h1
 refine⟨_,Z,A.a,T.hold,A.dx,_,_,Z,hs.oa,X.cH,X.hnm,Z,_,Z,qq.1,T.part,qq.2.1,_,_,Z,Ws,X.cP,X.Wn,Z,A.nm,_,Z,uc.k (k:=Sum.inr p.nm) hs.uo (by unfold zx;rw[aF];exact fq hh.wf.E5),?_⟩;rw[nK _ (zJ hn),show zx st.nms++[(Sum.inr p.nm,V.bl true)]=zx (st.nms++[p.nm])from by unfold zx;rw[br];rfl];have hs2:=hs.aaa g2 (st.nms++[p.nm]);exact q _ _ _ ⟨g2.wr rfl,hs2,wf'⟩ rfl (fr1.trans (fr2.trans (Fr.write hs.jS)))
abbrev uP:Stmt:=inClass (top 24) 1
abbrev qY:Da Str:=["self","owner"]
abbrev MC:Da Str:=qY.append ["part"]
def z_:aK MC qY (ay uP):=dh
theorem K5{T:TC}(F:ji K T.hold "sign" "Hold.sign" uP f fd)(X:Txt K T)(oN:Dn P w K mg base 2 "is_name" rO xU)(aW:mg "len"=none):Mn P w K mg base 3 T.hold "sign" qY (N8 T):=by
 refine F.oA z_ λ_ _ _ _ H _ Q E hr h=>?_;obtain⟨⟨n,ρ,A,st,o,rfl,hh,hx,hn,hl,q⟩⟩:=h;refine⟨_,(@cO.h _ _ _ (aj (cE (dS (dF (bu oN hr (af (qv 1) ai)))) (au nO) aR)
  (aj (cE (w6 (KH (cA hr) (qv 1) (aY K (qv 0)))) (au nO) aR)
  (aj (qB (cA hr) (aY K (qv 0)) (qv 1) (aE y9 (by rfl) aW cU (af (aY K (qv 0)) ai)) rfl)
  (aj (dN (nv rR tW tX f_ (aY K (qv 0)) (af ak ai)))
  (aj (dN (nv rR tW tX f_ (aY K (qv 0)) (af ak ai)))
  (au (xh (dG eU rfl (AR (aY K (qv 0))) (aL (i:=2) z_.nd) (au (dN (nv rR tW tX f_ (aY K (qv 2)) (af ak ai))))))))))))),?_⟩
 refine⟨_,Z,Dv (cs:=o.cps.toList) (J4 hx) λH1 g1=>⟨_,Z,?_⟩⟩;rw[show isName o.cps.toList=true from hx];refine cF ?_;have iJ:=hh.mono g1;have h1:=iJ.h;have F1:Fr n ρ H ρ H1:=Fr.of_same g1;refine⟨_,Z,_,Z,A.a,T.hold,A.dx,_,_,Z,h1.oa,X.cH,X.hpl,Z,A.pl,_,Z,cS.k (k:=Sum.inr o) h1.i_,_,Z,?_⟩;rw[uu hn];refine cF ?_;have OF:=tO st.own 0;refine⟨_,Z,A.a,T.hold,A.dx,_,_,Z,h1.oa,X.cH,X.hpl,Z,A.pl,_,Z,h1.i_,_,Z,A.a,T.hold,A.dx,_,_,Z,h1.oa,X.cH,X.hpl,Z,_,Z,A.pl,_,Z,uc.k (k:=Sum.inr o) h1.i_ (fq (by rw[OF];omega)),?_⟩;rw[nK _ (uu hn),OF,show fT 0 st.own++[(Sum.inr o,V.int (st.own.length:Int))]=fT 0 (st.own++[o])from by rw[JX,Nat.zero_add]];have h2:=h1.Z_ iJ.g (st.own++[o]);have G2:=iJ.g.wr (a:=A.pl) (o:=.dK (fT 0 (st.own++[o]))) rfl;have F2:=F1.trans (Fr.write (o:=.dK (fT 0 (st.own++[o]))) h1.jG);generalize upd H1 A.pl (.dK (fT 0 (st.own++[o])))=H2 at *;have lcm:(st.bL.map V.int).length<sizeLine:=by rw[aF,hh.wf.jD];exact fq (by omega)
 refine⟨_,Z,A.a,T.hold,A.dx,_,_,Z,h2.oa,X.cH,X.Bt,Z,.inl ⟨Z,_,aA.of h2.jU⟩,A.cm,_,_,Z,Z,h2.jU,lcm,?_⟩;rw[show st.bL.map V.int++[V.int 0]=(st.bL++[0]).map V.int from by rw[br];rfl];have h3:=h2.aab G2 (st.bL++[0]);have G3:=G2.wr (a:=A.cm) (o:=.lst ((st.bL++[0]).map V.int)) rfl;have F3:=F2.trans (Fr.write (o:=.lst ((st.bL++[0]).map V.int)) h2.kO);generalize upd H2 A.cm (.lst ((st.bL++[0]).map V.int))=H3 at *;have lpu:(st.c6.map V.int).length<sizeLine:=by rw[aF,hh.wf.zA];exact fq (by omega)
 refine⟨_,Z,A.a,T.hold,A.dx,_,_,Z,h3.oa,X.cH,X.JV,Z,.inl ⟨Z,_,aA.of h3.qg⟩,A.pu,_,_,Z,Z,h3.qg,lpu,?_⟩;rw[show st.c6.map V.int++[V.int 0]=(st.c6++[0]).map V.int from by rw[br];rfl];have h4:=h3.aac G3 (st.c6++[0]);have G4:=G3.wr (a:=A.pu) (o:=.lst ((st.c6++[0]).map V.int)) rfl;have F4:=F3.trans (Fr.write (o:=.lst ((st.c6++[0]).map V.int)) h3.cpu);generalize upd H3 A.pu (.lst ((st.c6++[0]).map V.int))=H4 at *;clear h1 h2 h3 G2 G3 F2 F3 iJ;have hpl:=hh.wf.xZ;refine⟨A.ab,_,h4.eX,λob=>?_⟩;refine⟨_,Z,A.a,T.hold,A.dx,_,_,Z,fu h4.eX h4.oa (λk z=>by cases z),X.cH,X.hab,Z,A.ab,ob,_,Z,ah,?_⟩;have el:=wW h4.ql;have el0:(cT st.ao A.qs).length=st.ao.length:=el;refine uh (n:=st.ao.length) (λi σ H'=>(∃s2,σ=[some (.ref A.a),some (.str o),s2])/\oj H' A.ab ob (cT st.ao A.qs)/\∃H5,H'=upd H5 A.ab (.fF ob (.dK (cT st.ao A.qs)))/\Gh ρ H5/\Fr n ρ H ρ H5/\
   aV T n ρ A H5 { st with own:=st.own++[o],bL:=st.bL++[0],c6:=st.c6++[0],ao:=(st.ao.take i).map (λp=>{ p with row:=p.row++[0] })++st.ao.drop i })
  ⟨⟨_,Z⟩,ah,H4,Z,G4,F4,h4⟩ (λi σ H' hi hp=>⟨hp.2.1,by rw[el0];exact hi⟩) (λσ H' hp=>⟨hp.2.1,by rw[el0];exact aN _⟩) ?_ ?_
 .rintro i x σ H' uy hi ⟨⟨s2,rfl⟩,hz,H5,rfl,G5,F5,h5⟩ ⟨rfl,kv,hkv,rfl⟩;have ep:=aS hi;have BJ:=J5 (λp:Pt=>{ p with row:=p.row++[0] }) ep;obtain⟨qq,eq,k1,k2,k3,k4⟩:=h5.find BJ;rw[wV ep eq]at hkv;cases hkv;have WI:=qu (λp:Pt=>{ p with row:=p.row++[0] }) (λp:Pt=>p.nm) (λ_=>rfl) st.ao i;have nd5:(((st.ao.take i).map (λp:Pt=>{ p with row:=p.row++[0] })++st.ao.drop i).map (λp:Pt=>p.nm)).Nodup:=by rw[WI];exact hh.wf.o_
  have z1:=fu (o:=ob) h5.eX k1 (λk z=>by cases z);have z2:=fu (o:=ob) h5.eX k2 (λk z=>by cases z);rw[show cT ({ st with own:=st.own++[o],bL:=st.bL++[0],c6:=st.c6++[0],ao:=(st.ao.take i).map (λp:Pt=>{ p with row:=p.row++[0] })++st.ao.drop i }:HS).ao A.qs=cT st.ao A.qs from oB WI]at z1 z2;have hrl:((st.ao[i]).row.map V.int).length<sizeLine:=by rw[aF,hh.wf.rows _ (vo hi)];exact fq (by omega)
  refine⟨_,Z,qq.1,T.part,qq.2.1,_,_,Z,z1,X.cP,X.Wo,Z,.inl ⟨Z,_,aA.of z2⟩,qq.2.2,_,_,Z,Z,z2,hrl,?_⟩;have na:A.ab≠qq.2.2:=(iZ k2 h5.eX (by intro z;cases z)).symm;rw[show(st.ao[i]).row.map V.int++[V.int 0]=((st.ao[i]).row++[0]).map V.int from by rw[br];rfl];have h6:=h5.XQ G5 ((st.ao[i]).row++[0]) BJ eq nd5;rw[show({ st with own:=st.own++[o],bL:=st.bL++[0],c6:=st.c6++[0],ao:=(st.ao.take i).map (λp:Pt=>{ p with row:=p.row++[0] })++st.ao.drop i }:HS).ao.set i { st.ao[i]with row:=(st.ao[i]).row++[0] }=_ from J6 (λp:Pt=>{ p with row:=p.row++[0] }) ep]at h6;exact⟨⟨_,Z⟩,(av na).trans hz,_,kD na,G5.wr rfl,F5.trans (Fr.write k4),h6⟩
 .rintro σ H' ⟨_,hz,H5,rfl,G5,F5,h5⟩;have WI:=qu (λp:Pt=>{ p with row:=p.row++[0] }) (λp:Pt=>p.nm) (λ_=>rfl) st.ao st.ao.length;have e5:cT ({ st with own:=st.own++[o],bL:=st.bL++[0],c6:=st.c6++[0],ao:=(st.ao.take st.ao.length).map (λp:Pt=>{ p with row:=p.row++[0] })++st.ao.drop st.ao.length }:HS).ao A.qs=cT st.ao A.qs:=oB WI;have h5':=h5.eX;rw[e5]at h5';refine⟨hz,?_⟩;rw[qm,x_ h5'];have es:({ st with own:=st.own++[o],bL:=st.bL++[0],c6:=st.c6++[0],ao:=(st.ao.take st.ao.length).map (λp:Pt=>{ p with row:=p.row++[0] })++st.ao.drop st.ao.length }:HS)=gH st o:=by unfold gH;rw[bN,CS,tG]
  rw[es]at h5;exact q ρ A H5 ⟨G5,h5,XW hh.wf hn hl⟩ rfl F5
abbrev uQ:Stmt:=inClass (top 24) 2
abbrev qZ:Da Str:=["self","part","owner","worth","weight"]
abbrev MD:Da Str:=qZ.append ["place","tops"]
def uR:aK MD qZ (ay uQ):=dh
theorem K6{T:TC}(F:ji K T.hold "load" "Hold.load" uQ f fd)(X:Txt K T)(nT:Mn P w K mg base 3 T.hold "check_new" kI (DH T))(pM:Mn P w K mg base 1 T.hold "place_of" lC (N6 T))(kJ:Mn P w K mg base 1 T.hold "beyond_common" iI (Wt T K))(wc:Mn P w K mg base 1 T.hold "stow" qX (Se T))(K7:Cn P w K mg base 1 "Part" T.part ["self","name","owner","worth","weight","scale","row"] (N4 T K))(aW:mg "len"=none):Mn P w K mg base 4 T.hold "load" qZ (Sf T):=by
 refine F.oA uR λ_ _ _ _ H _ Q E hr h=>?_
 obtain⟨⟨n,ρ,A,st,x,o,wo,we,rfl,hh,hx,hn,ho,h4,h5,h6,h7,q⟩⟩:=h
 refine⟨_,(@cO.h _ _ _ (aj (dN (iV nT hr (qv 0) (af (qv 1) ai)))
  (aj (aQ (i:=5) uR.nd (iV pM hr (qv 0) (af (qv 2) ai)))
  (aj (cE (ff (bW.pt (jr (aT Ay (qv 3) ak (aZ _)) (iW (aT Ay (qv 4) ak (aZ _)))))) (au nO) aR)
  (aj (aQ (i:=6) uR.nd (aD ZD (d_ (af ak ai)) (aE y9 (by rfl) aW cU (af (aY K (qv 0)) ai))))
  (aj (xg (aY K (aY K (qv 0))) (xj (qv 6) (qv 5) set_list))
  (au (dN (iV wc hr (qv 0) (af (ado K7 hr (af (qv 1) (af (qv 2) (af (qv 3) (af (qv 4) (af ak (af (iV kJ hr (qv 0) (af (qv 6) ai)) ai))))))) ai)))))))))),?_⟩
 refine⟨_,Z,A.a,A.dx,_,Z,hh.h.oa,Z,_,Z,⟨⟨n,ρ,A,st,x,Z,hh.h,hx,hn,λH1 g1=>?_⟩⟩⟩
 have iJ:=hh.mono g1
 have F1:Fr n ρ H ρ H1:=Fr.of_same g1
 clear hh
 refine⟨_,Z,A.a,A.dx,_,Z,iJ.h.oa,Z,_,Z,⟨⟨n,ρ,A,st,o,Z,iJ.h,ho,?_⟩⟩⟩
 refine⟨false,⟨_,Z,_,_,Z,Z,_,Z,dJ (λc=>absurd (dI c) (by omega)) λ_=>⟨_,Z,_,_,Z,Z,_,Z,dz (by omega),Z⟩⟩,cF ?_⟩
 refine⟨(gJ 1),λp0 hp0=>?_⟩
 have g2:=az hp0 (.lst [.int 0])
 have ng:=iJ.mono g2
 have F2:=F1.trans (Fr.of_same (ρ:=ρ) g2)
 have agi:upd H1 p0 (.lst [.int 0]) p0=some (.lst [.int 0]):=ah
 generalize upd H1 p0 (.lst [.int 0])=H2 at *
 clear iJ F1
 have OF:=tO st.own 0
 have dR:=ng.wf.uq
 refine⟨_,Z,A.a,T.hold,A.dx,_,_,Z,ng.h.oa,X.cH,X.hpl,Z,A.pl,_,Z,ng.h.i_,p0,_,_,Z,Z,agi,by omega,by rw[OF];omega,by rw[OF];show 1*_<=_;rw[vR,Nat.one_mul];exact small (by omega),λp1 hp1=>?_⟩
 rw[OF,vR,show(List.replicate st.own.length [V.int 0]).flatten=(List.replicate st.own.length (0:Int)).map V.int from by rw[List.map_replicate,List.flatten_replicate_singleton]]
 have g3:=az hp1 (.lst ((List.replicate st.own.length (0:Int)).map V.int))
 have tD:=ng.mono g3
 have F3:=F2.trans (Fr.of_same (ρ:=ρ) g3)
 have n1:H p1=none:=(g1.trans g2).free hp1
 have c1:ρ p1=none:=ng.g.none hp1
 have Fz:upd H2 p1 (.lst ((List.replicate st.own.length (0:Int)).map V.int)) p1=_:=ah
 generalize upd H2 p1 (.lst ((List.replicate st.own.length (0:Int)).map V.int))=H3 at *
 have hi:=List.idxOf_lt_length_iff.mpr ho
 refine⟨_,Z,A.a,T.hold,A.dx,_,_,Z,tD.h.oa,X.cH,X.DF,Z,A.bt,T.bot,A.db,_,_,Z,tD.h.ou,X.cB,X.Wq,Z,_,Z,_,Z,p1,_,_,st.own.idxOf o,Z,Z,Fz,by rw[aF,mK];exact AK hi,?_⟩
 rw[show((List.replicate st.own.length (0:Int)).map V.int).set (st.own.idxOf o) (V.int st.prod)=((List.replicate st.own.length (0:Int)).set (st.own.idxOf o) st.prod).map V.int from by rw[xN]]
 have qh:=tD.IU (o:=.lst (((List.replicate st.own.length (0:Int)).set (st.own.idxOf o) st.prod).map V.int)) c1 Fz rfl rfl
 have F4:=F3.new (o:=.lst (((List.replicate st.own.length (0:Int)).set (st.own.idxOf o) st.prod).map V.int)) n1
 have agj:upd H3 p1 (.lst (((List.replicate st.own.length (0:Int)).set (st.own.idxOf o) st.prod).map V.int)) p1=_:=ah
 have s4:aG H (upd H3 p1 (.lst (((List.replicate st.own.length (0:Int)).set (st.own.idxOf o) st.prod).map V.int))):=((g1.trans g2).trans g3).bM n1 _
 generalize upd H3 p1 (.lst (((List.replicate st.own.length (0:Int)).set (st.own.idxOf o) st.prod).map V.int))=H4 at *
 clear ng tD F2 F3
 refine⟨_,Z,A.a,A.dx,_,Z,qh.h.oa,Z,_,Z,_,Z,_,Z,_,Z,_,Z,A.a,A.dx,_,Z,qh.h.oa,Z,_,Z,⟨⟨n,ρ,A,st,p1,_,Z,qh.h,aA.of agj,by rw[lg,mK,qh.wf.jD],by rw[lg,mK];omega,λr H5 g5 hr5 VM=>?_⟩⟩⟩
 intro y dy hy hdy hyd
 have hr6:upd (upd H5 dy (.own y)) y (.ins T.part dy []) r=some (.lst ((zK st ((List.replicate st.own.length 0).set (st.own.idxOf o) st.prod)).map V.int)):=by rw[av (aH VM hy),av (aH VM hdy)];exact VM
 refine⟨⟨y,dy,r,⟨x,o,wo,we,1,zK st ((List.replicate st.own.length 0).set (st.own.idxOf o) st.prod)⟩,Z,ah,aA.of hr6,λrr H6 hrr k6 hy6 agk=>⟨Z,?_⟩⟩⟩
 have abd:H5 rr=none:=by
  have e1:rr≠y:=λe=>by rw[e,ah]at hrr;cases hrr
  have e2:rr≠dy:=λe=>by rw[e,av hyd,ah]at hrr;cases hrr
  rw[av e1,av e2]at hrr;exact hrr
 have g6:aG H5 H6:=λb u e=>k6 b u (by rw[av (aH e hy),av (aH e hdy)];exact e) (aH e hy)
 have vK:=qh.mono g5
 have D_:=vK.mono g6
 have F6:=F4.trans (Fr.of_same (ρ:=ρ) (g5.trans g6))
 exact⟨⟨n,ρ,A,st,(y,dy,rr),_,Z,D_,hy6,agk,vK.g.none hy,vK.g.none abd,hn,XY qh.wf hn h6 h7 ho h4 h5,λρ' A' H' a1 a2 a3=>q ρ' A' H' a1 a2 (a3.fr F6 ((s4.trans g5).free hy) ((s4.trans g5).free abd))⟩⟩
abbrev uS:Stmt:=inClass (top 24) 0
abbrev wg:Da Str:=["self"]
abbrev ME:Da Str:=wg
def K8:aK ME wg (ay uS):=dh
def abe{p:Addr}{H0 H:Hp}{ρ0 ρ:eF}{l:Da (Addr×HO×m7)}{C dx:Addr}{fs:Da (Str×V)}(s:Str)(v:V)(M:gI p H0 ρ0 H ρ l)(_hp:H p=some (.ins C dx fs)):∃H',upd H p (.ins C dx (iy s v fs))=H'/\gI p H0 ρ0 H' ρ l/\H' p=some (.ins C dx (iy s v fs)):=⟨_,Z,M.wr rfl,ah⟩
def OG{p x:Addr}{H0 H:Hp}{ρ0 ρ:eF}{l:Da (Addr×HO×m7)}{C dx:Addr}{fs:Da (Str×V)}(s:Str)(o:HO)(c:m7)(M:gI p H0 ρ0 H ρ l)(hp:H p=some (.ins C dx fs))(hx:H x=none)(t:isTup o=false):∃H',upd (upd H x o) p (.ins C dx (iy s (.ref x) fs))=H'/\gI p H0 ρ0 H' (cL ρ x c) ((x,o,c)::l)/\H' p=some (.ins C dx (iy s (.ref x) fs)):=abe s _ (M.new hx t) (by rw[av (aH hp hx)];exact hp)
def K9{T:TC}(F:GC K mg "Hold" T.hold "Hold.__init__" uS f fd)(X:Txt K T)(CD:Cn P w K mg base 1 "Bottom" T.bot ["self"] (N3 T)):Cn P w K mg base 3 "Hold" T.hold wg (N5 T):=by
 refine F.oA K8 λ_ _ _ _ H _ Q E hr h=>?_;obtain⟨⟨p,dx,ρ,n,rfl,hp,g,hρ,q⟩⟩:=h;refine⟨_,(@cO.h _ _ _ (aj (fh K (qv 0) qA)
  (aj (fh K (qv 0) qA)
  (aj (fh K (qv 0) (d_ ai))
  (aj (fh K (qv 0) qA)
  (aj (fh K (qv 0) (Th CD hr))
  (aj (fh K (qv 0) (d_ ai))
  (au (fh K (qv 0) (d_ ai)))))))))),?_⟩
 have M0:gI p H ρ H ρ [] :=⟨(λ_ m=>absurd m (by simp)),λb o e _=>⟨e,Z⟩,g,_,hp⟩
 intro pl hpl;refine⟨_,Z,p,T.hold,dx,_,Z,by rw[av (aH hp hpl)];exact hp,X.cH,X.hpl,by show 0<1000;decide,?_⟩;obtain⟨H2,e,M2,hp2⟩:=OG "places" (.dK []) (n,1,⟨#[]⟩) M0 hp hpl rfl;rw[e];intro ab hab;refine⟨_,Z,p,T.hold,dx,_,Z,by rw[av (aH hp2 hab)];exact hp2,X.cH,X.hab,by show 1<1000;decide,?_⟩;obtain⟨H4,e,M4,GZ⟩:=OG "aboard" (.dK []) (n,2,⟨#[]⟩) M2 hp2 hab rfl;rw[e];refine⟨(gJ 0),λas has=>?_⟩;refine⟨_,Z,p,T.hold,dx,_,Z,by rw[av (aH GZ has)];exact GZ,X.cH,X.has,by show 2<1000;decide,?_⟩;obtain⟨H6,e,M6,K_⟩:=OG "ashore" (.lst []) (n,3,⟨#[]⟩) M4 GZ has rfl;rw[e];intro nm hnm;refine⟨_,Z,p,T.hold,dx,_,Z,by rw[av (aH K_ hnm)];exact K_,X.cH,X.hnm,by show 3<1000;decide,?_⟩;obtain⟨H8,e,M8,Tw⟩:=OG "names" (.dK []) (n,4,⟨#[]⟩) M6 K_ hnm rfl;rw[e];intro bt db DF hdb hne;refine⟨⟨bt,db,Z,ah,λsp kn H9 oX hkn hsk k9 hb9 hs9 hk9=>⟨Z,?_⟩⟩⟩;have s9:aG H8 H9:=λb o e=>k9 b o (by rw[av (aH e DF),av (aH e hdb)];exact e) (aH e DF);have fr:∀{c:Addr},upd (upd H8 db (.own bt)) bt (.ins T.bot db []) c=none->H8 c=none:=λ{c} e=>by
  have e1:c≠bt:=λz=>by rw[z,ah]at e;cases e
  have e2:c≠db:=λz=>by rw[z,av hne,ah]at e;cases e
  rw[av e1,av e2]at e;exact e
 have abi:=fr oX;have abj:=fr hkn;have M9:=M8.same s9;have M10:=M9.add (c:=(n,5,⟨#[]⟩)) hb9 rfl M8 DF (λe he=>aH (M8.m e he).1 DF);have M11:=M10.add (c:=(n,8,⟨#[]⟩)) hs9 rfl M8 abi (λe he=>by
  rcases cJ.mp he with rfl|he
  .exact iZ hb9 hs9 (by intro z;cases z)
  .exact aH (M8.m e he).1 abi)
 have M12:=M11.add (c:=(n,9,⟨#[]⟩)) hk9 rfl M8 abj (λe he=>by
  rcases cJ.mp he with rfl|he
  .exact iZ hs9 hk9 (by intro z;cases z)
  rcases cJ.mp he with rfl|he
  .exact iZ hb9 hk9 (by intro z;cases z)
  .exact aH (M8.m e he).1 abj)
 have hp9:=s9 _ _ Tw;refine⟨_,Z,p,T.hold,dx,_,Z,hp9,X.cH,X.DF,by show 4<1000;decide,?_⟩;obtain⟨H13,e,M13,Fz⟩:=abe "bottom" (.ref bt) M12 hp9;rw[e];refine⟨(gJ 0),λcm Bt=>?_⟩;refine⟨_,Z,p,T.hold,dx,_,Z,by rw[av (aH Fz Bt)];exact Fz,X.cH,X.Bt,by show 5<1000;decide,?_⟩;obtain⟨H15,e,M15,VN⟩:=OG "common" (.lst []) (n,6,⟨#[]⟩) M13 Fz Bt rfl;rw[e];refine⟨(gJ 0),λpu JV=>?_⟩;refine⟨_,Z,p,T.hold,dx,_,Z,by rw[av (aH VN JV)];exact VN,X.cH,X.JV,by show 6<1000;decide,?_⟩;obtain⟨H17,e,M17,abm⟩:=OG "purses" (.lst []) (n,7,⟨#[]⟩) M15 VN JV rfl;rw[e];have m:=M17.m;have z9:∀{a:Addr}{o:HO}{c:m7}{ρ2:eF},(H17 a=some o/\ρ2 a=some c/\a≠p)->H17 a=some o/\cL ρ2 p (n,0,⟨#[]⟩) a=some c:=λh=>⟨h.1,by rw[bZ h.2.2];exact h.2.1⟩
 have a1:=z9 (m _ (.head _));have a2:=z9 (m _ (.tail _ (.head _)));have a3:=z9 (m _ (.tail _ (.tail _ (.head _))));have a4:=z9 (m _ (.tail _ (.tail _ (.tail _ (.head _)))));have a5:=z9 (m _ (.tail _ (.tail _ (.tail _ (.tail _ (.head _))))));have a6:=z9 (m _ (.tail _ (.tail _ (.tail _ (.tail _ (.tail _ (.head _)))))));have a7:=z9 (m _ (.tail _ (.tail _ (.tail _ (.tail _ (.tail _ (.tail _ (.head _))))))));have a8:=z9 (m _ (.tail _ (.tail _ (.tail _ (.tail _ (.tail _ (.tail _ (.tail _ (.head _)))))))));have a9:=z9 (m _ (.tail _ (.tail _ (.tail _ (.tail _ (.tail _ (.tail _ (.tail _ (.tail _ (.head _))))))))));refine q (cL _ p (n,0,⟨#[]⟩)) ⟨p,dx,pl,ab,as,nm,bt,db,cm,pu,sp,kn,[]⟩ H17 rfl ⟨M17.g.color abm rfl,⟨abm,dX,a9.1,a9.2,a8.1,a8.2,⟨[],a7.1,.nil⟩,a7.2,a6.1,a6.2,a5.1,a5.2,a2.1,a2.2,a1.1,a1.2,a4.1,a4.2,⟨[],a3.1,(λx hx=>absurd hx (by simp)),aN _,qQ⟩,a3.2,Z,λi x y ex=>by simp[hs0]at ex⟩,wf0⟩ (λb o e hb=>?_);obtain⟨x,y⟩:=M17.k b o e hb;exact⟨x,by rw[bZ hb];exact y⟩
abbrev nU:Stmt:=inClass (top 24) 27
abbrev lD:Da Str:=["self","amounts"]
abbrev Ea:Da Str:=lD.append ["lost","sums","name","amount","part","many"]
def fD:aK Ea lD (ay nU):=dh
theorem CF{T:TC}(F:ji K T.hold "given_up" "Hold.given_up" nU f fd)(X:Txt K T)(fH:mg "sum"=none)(jL:mg "zip"=none):Mn P w K mg base 1 T.hold "given_up" lD (Oe T):=by
 refine F.oA fD λ_ _ _ _ H _ Q E hr h=>?_;obtain⟨⟨n,ρ,A,st,d,rs,rfl,h,wf,hd,cd,hle,yg,q⟩⟩:=h;refine⟨_,(@cO.h _ _ _ (aj (aQ (i:=2) fD.nd (aE (GB rfl) (by rfl) fH t8 (af (Ff (qv 1)) ai)))
  (aj (oJ (i:=3) ["common","lost"] [none,some 2] fD.nd rfl rfl rfl (c8 K (aY K (qv 0))) (λ_ _ _ _=>(aL (i:=0) (show List.Nodup (["common","lost"] :Da Str)from by decide +kernel))) (λ_ _ _ _=>(aD jR (qv 1) (qv 0))) rfl (by rfl) (by rfl))
  (aj (xh (dG eU rfl (Cq (qv 1)) (iO K (n:=2) rfl (cI (aL (i:=4) fD.nd) (cI (aL (i:=5) fD.nd) iN))) (aj (aQ (i:=6) fD.nd (bQ (cA hr) (aY K (qv 0)) (qv 4)))
  (aj (aQ (i:=7) fD.nd (aD jR (qv 5) (aY K (qv 6))))
  (au (oJ (i:=3) ["old","own","many"] [none,none,some 7] fD.nd rfl rfl rfl (tV K (by rfl) jL (af (qv 3) (af (aY K (qv 6)) ai))) (λ_ _ _ _=>(iO K (n:=2) rfl (cI (aL (i:=0) (show List.Nodup (["old","own","many"] :Da Str)from by decide +kernel)) (cI (aL (i:=1) (show List.Nodup (["old","own","many"] :Da Str)from by decide +kernel)) iN)))) (λ_ _ _ _=>(aD bV (qv 0) (aD jR (qv 2) (qv 1)))) rfl (by rfl) (by rfl)))))))
  (au (aP (qv 3))))))),?_⟩
 have hcl:st.bL.length<=100:=by rw[wf.jD];exact wf.uq
 have zl:Jm.Sz 1100 (bq rs):=by have:=Jm.RP (n:=60) (ws:=rs.map (·.2)) (λm hm=>by obtain⟨r,hr,rfl⟩:=bR.mp hm;exact(yg r hr).1);exact this.mono (by rw[aF];omega)
 have zc:∀c∈st.bL,Jm.Sz 8000 c:=λc hc=>Jm.Sz.oZ (by have:=wf.ur c hc;have:=wf.jj;omega) (wf.ur c hc).2 wf.big;refine⟨_,Z,d,_,Z,.inl hd,λv hv=>⟨v,d,_,rs.map (·.2),Z,ah,.inl (by rw[av (aH hd hv)];exact hd),by unfold gP;rw[ig,ig];rfl,?_⟩⟩;have g1:=az hv (lA v d);have hd1:=g1 _ _ hd;have h1:=h.mono g1;generalize upd H v (lA v d)=H1 at *;refine⟨_,Z,A.a,T.hold,A.dx,_,_,Z,h1.oa,X.cH,X.Bt,Z,A.cm,Z,⟨_,aA.of h1.jU⟩,λl0 kj=>?_⟩;refine fR (J:=sY K A.cm) (n:=(st.bL.map V.int).length) 0 (λi o H'=>aG H1 H'/\o=((st.bL.take i).map λc=>bq rs*c).map V.int) (by rw[aF];omega) ⟨az kj _,Z⟩ (λi o H' hi _ hp=>⟨_,_,aA.of (hp.1 _ _ h1.jU),aS hi⟩) (λo H' _ hp=>⟨_,aA.of (hp.1 _ _ h1.jU),aN _⟩) ?_ ?_
 .rintro i y o H2 H3 hi dR ha ⟨g,e⟩ ⟨rfl,hy⟩;obtain⟨c,rfl,ec⟩:=gO (hy _ (aA.of (g _ _ h1.jU)));refine⟨_,Z,_,Z,_,_,Z,Z,jb zl (zc c (bP ec)),ha,g.bM kj _,?_⟩;subst e;rw[take_snoc ec,br,br];rfl
 rintro o H2 dR ha ⟨g2,e⟩;rw[aF,bN]at e;subst e;have Tz:=g1.trans g2;have hd2:=g2 _ _ hd1;have h2:=h1.mono g2;have hn0:H l0=none:=g1.free kj;refine⟨d,_,hd2,λob=>⟨_,Z,d,ob,_,Z,ah,?_⟩⟩;have al:=ya rs;refine uh (n:=(gP rs).length) (λi σ H'=>aG (upd H2 d (.fF ob (.dK (gP rs)))) H'/\∃l s4 s5 s6 s7,σ=[some (.ref A.a),some (.ref d),some (.int (bq rs)),some (.ref l),s4,s5,s6,s7]/\H l=none/\H' l=some (.lst (((rs.take i).foldl (jE st) (st.bL.map λc=>bq rs*c)).map V.int))/\((rs.take i).foldl (jE st) (st.bL.map λc=>bq rs*c)).length=st.bL.length)
  ⟨aG.refl _,l0,_,_,_,_,Z,hn0,fu hd2 ha (λk z=>by cases z),by rw[List.take_zero,List.foldl_nil,aF]⟩ (λi σ H' hi hp=>⟨hp.1 _ _ ah,hi⟩) (λσ H' hp=>⟨hp.1 _ _ ah,aN _⟩) ?_ ?_
 .rintro i x σ H3 H4 hi ⟨g,l,s4,s5,s6,s7,rfl,Ds,hl,hsl⟩ ⟨pp,kv,hpp,hkv,rfl,rfl⟩;unfold gP at hkv;rw[bF]at hkv;obtain⟨r,er,rfl⟩:=kT.mp hkv;have hrm:=bP er;obtain⟨zr,p,lP,La⟩:=yg r hrm;obtain⟨ip,BK,eip⟩:=t9 lP;have ep:st.ao[ip]?=some p:=by rw[aS BK,eip]
  have epg:dg st r.1=p:=by rw[<-La];exact Od wf.o_ ep
  have g4:=az hpp (.tup [.str r.1,.int r.2]);have gg:=g.trans g4;have h2z:∀{b:Addr}{u:HO},H2 b=some u->(∀k,u ≠ .dK k)->upd H3 pp (.tup [.str r.1,.int r.2]) b=some u:=λe k=>gg _ _ (fu hd2 e k);have nab:A.ab≠d:=(Bs cd h.gW).symm;obtain⟨qq,eq,k1,k2,_,_⟩:=h2.find ep;have hab:upd H3 pp (.tup [.str r.1,.int r.2]) A.ab=some (.dK (cT st.ao A.qs)):=gg _ _ (by rw[av nab];exact h2.eX);have hv:=wX wf.o_ ep eq;have hq1:=h2z k1 (λk z=>by cases z);have hq2:=h2z k2 (λk z=>by cases z);have Lb:upd H3 pp (.tup [.str r.1,.int r.2]) pp=some (.tup [.str r.1,.int r.2]):=ah;have G_:=g4 _ _ hl;have hno:∀{b:Addr},upd H3 pp (.tup [.str r.1,.int r.2]) b=none->H b=none:=λ{b} e=>by have e1:=nL hd2 (gg.free e);exact Tz.free e1
  have TF:upd H3 pp (.tup [.str r.1,.int r.2]) A.a=some (.ins T.hold A.dx (mQ A)):=h2z h2.oa (λk z=>by cases z);show BX K 2 _ _ _ (upd H3 pp (.tup [.str r.1,.int r.2])) _;generalize upd H3 pp (.tup [.str r.1,.int r.2])=H4 at *;refine⟨pp,_,Z,cz.of Lb,Z,_,_,Z,_,_,Z,Z,?_⟩;refine⟨_,Z,A.a,T.hold,A.dx,_,_,Z,TF,X.cH,X.hab,Z,_,Z,A.ab,_,Z,by rw[<-La];exact hv▸cS.k (k:=Sum.inr p.nm) hab,?_⟩;have zs:Jm.Sz 8000 p.sc:=Jm.Sz.oZ (by have:=wf.yD p lP;have:=wf.jj;omega) (wf.yD p lP).2 wf.big;refine⟨_,Z,_,Z,qq.1,T.part,qq.2.1,_,_,Z,hq1,X.cP,X.Sa,Z,_,_,Z,Z,jb zr zs,?_⟩;have erl:p.row.length=st.bL.length:=by rw[wf.rows p lP,wf.jD]
  generalize eS:(rs.take i).foldl (jE st) (st.bL.map λc=>bq rs*c)=S at *;refine⟨_,Z,_,Z,qq.1,T.part,qq.2.1,_,_,Z,hq1,X.cP,X.Wo,Z,_,_,_,_,_,_,Z,.lst (aA.of G_),.lst (aA.of hq2),λBM Bn=>?_⟩;refine zu (K:=K) (n:=S.length) [0,1] (λj out H5=>aG H4 H5/\out=(List.zipWith (λold own=>old+(r.2*p.sc)*own) (S.take j) (p.row.take j)).map V.int) (by decide) (by omega) ⟨az Bn _,Z⟩ (λj out H5 hj _ hp=>⟨aA.of (hp.1 _ _ G_),aA.of (hp.1 _ _ hq2),by rw[aF];exact hj,by rw[aF];omega⟩)
   (λout H5 _ hp=>⟨aA.of (hp.1 _ _ G_),aA.of (hp.1 _ _ hq2),.inl (by rw[aF];exact aN _)⟩) ?_ ?_
  .rintro j x out H5 H6 hj FA ha2 ⟨g5,e5⟩ ⟨p2,x1,y1,hp2,rfl,rfl,e1,e2⟩;obtain⟨t,rfl,et⟩:=gO e1;obtain⟨c,rfl,ec⟩:=gO e2;have g6:=az hp2 (.tup [.int t,.int c]);have zw:Jm.Sz 8000 c:=Jm.Sz.oZ (wf.vY p lP c (bP ec)).1 (wf.vY p lP c (bP ec)).2 wf.big;refine⟨p2,_,Z,cz.of ah,Z,_,Z,_,Z,_,Z,_,_,Z,Z,jb (zr.mul zs) zw,_,_,Z,Z,g6 _ _ ha2,(g5.trans g6).bM Bn _,?_⟩;rw[oz _ et ec,e5,br];rfl
  rintro out H5 FA ha2 ⟨g5,e5⟩;rw[bN,hsl,<-erl,bN]at e5;have eN:(rs.take (i+1)).foldl (jE st) (st.bL.map λc=>bq rs*c)=List.zipWith (λold own=>old+(r.2*p.sc)*own) S p.row:=by rw[take_snoc er,Ji,eS];show jE st S r=_;unfold jE;rw[epg]
  refine⟨gg.trans g5,BM,_,_,_,_,Z,hno Bn,?_,?_⟩
  .rw [eN,ha2,e5]
  .rw [eN,qi];omega
 rintro σ H3 ⟨g,l,s4,s5,s6,s7,rfl,Ds,hl,hsl⟩;rw[al,bN]at hl;refine⟨g _ _ ah,_,Z,?_⟩;have nl:l≠d:=λe=>by rw[e,hd]at Ds;cases Ds
 exact q l _ (Tz.trans (ux hd2 g)) Ds (by rw[av nl];exact hl)
abbrev qH:Stmt:=inClass (top 24) 23
abbrev nE:Da Str:=["self","name","amount"]
abbrev HF:Da Str:=nE.append ["part"]
def xu:aK HF nE (ay qH):=dh
theorem FD{T:TC}(F:ji K T.hold "lessen" "Hold.lessen" qH f fd)(X:Txt K T):Mn P w K mg base 1 T.hold "lessen" nE (Sn T):=by
 refine F.oA xu λ_ _ _ _ H _ Q E hr h=>?_;obtain⟨⟨n,ρ,A,st,r,rfl,hh,⟨p,lP,La,hle⟩,wf',q⟩⟩:=h;have h:=hh.h;have nd:=hh.wf.o_;refine⟨_,(@cO.h _ _ _ (aj (aQ (i:=3) xu.nd (bQ (cA hr) (aY K (qv 0)) (qv 1)))
  (aj (DY K (qv 3) (qv 2) Zh)
  (au (iD (aT i6 (aY K (qv 3)) ak (aZ _)) (au (Yt (aY K (qv 0)) (qv 1))) aR))))),?_⟩
 obtain⟨ip,BK,eip⟩:=t9 lP;have ep:st.ao[ip]?=some p:=by rw[aS BK,eip]
 obtain⟨qq,eq,k1,k2,k3,k4⟩:=h.find ep;have hv:=wX nd ep eq;refine⟨_,Z,A.a,T.hold,A.dx,_,_,Z,h.oa,X.cH,X.hab,Z,_,Z,A.ab,_,Z,by rw[<-La];exact hv▸cS.k (k:=Sum.inr p.nm) h.eX,?_⟩;refine⟨_,Z,qq.1,T.part,qq.2.1,_,_,Z,k1,X.cP,X.NZ,Z,_,Z,_,_,Z,Z,qq.2.1,_,k1,by show 6<1000;decide,?_⟩;have h1:=h.zy (p1:={ p with wo:=p.wo-r.2 }) hh.g ep eq rfl rfl nd;have g1:=hh.g.wr (a:=qq.1) (o:=.ins T.part qq.2.1 (lK { p with wo:=p.wo-r.2 } qq.2.2)) rfl;have F1:Fr n ρ H ρ (upd H qq.1 (.ins T.part qq.2.1 (lK { p with wo:=p.wo-r.2 } qq.2.2))):=Fr.write k3;show ZO _ _ _ _ _ (upd H qq.1 (.ins T.part qq.2.1 (lK { p with wo:=p.wo-r.2 } qq.2.2)));have OH:upd H qq.1 (.ins T.part qq.2.1 (lK { p with wo:=p.wo-r.2 } qq.2.2)) qq.1=some (.ins T.part qq.2.1 (lK { p with wo:=p.wo-r.2 } qq.2.2)):=ah;generalize upd H qq.1 (.ins T.part qq.2.1 (lK { p with wo:=p.wo-r.2 } qq.2.2))=H1 at *;have el:gk st r={ st with ao:=if p.wo-r.2=0 then st.ao.eraseIdx ip else st.ao.set ip { p with wo:=p.wo-r.2 } }:=by unfold gk;rw[<-La,J_ nd (λx hx=>by have:=hh.wf.zH x hx;omega) ep]
 rw[el]at wf' q;refine⟨λσ' H'=>Q .cD H',?_,λ_ _ z=>z⟩;refine⟨_,Z,qq.1,T.part,qq.2.1,_,_,Z,OH,X.cP,X.NZ,Z,Z,_,Z,dJ (λc=>?_) (λc=>?_)⟩
 .have c':p.wo-r.2=0:=V.int.inj (dI c);rw[aC c']at wf' q;have nd1:((st.ao.set ip { p with wo:=p.wo-r.2 }).map (λx:Pt=>x.nm)).Nodup:=by rw[xN,show({ p with wo:=p.wo-r.2 }:Pt).nm=p.nm from rfl,vC (by rw[bF,ep];rfl)];exact nd
  have ep1:(st.ao.set ip { p with wo:=p.wo-r.2 })[ip]?=some { p with wo:=p.wo-r.2 }:=tY BK;have dk:=J9 nd1 h1.ql ep1;rw[List.eraseIdx_set_eq]at dk;have hv1:=wX nd1 ep1 eq;refine⟨_,Z,A.a,T.hold,A.dx,_,_,Z,h1.oa,X.cH,X.hab,Z,_,Z,A.ab,_,Sum.inr r.1,Z,h1.eX,Z,?_,?_⟩
  .rw [<-La];show(d7 (cT (st.ao.set ip { p with wo:=p.wo-r.2 }) A.qs) (Sum.inr p.nm)).isSome=true;rw[show d7 (cT (st.ao.set ip { p with wo:=p.wo-r.2 }) A.qs) (Sum.inr p.nm)=_ from hv1];rfl
  .show Q .cD (upd H1 A.ab (.dK (nt (cT (st.ao.set ip { p with wo:=p.wo-r.2 }) A.qs) (Sum.inr r.1))));rw[<-La,show nt (cT (st.ao.set ip { p with wo:=p.wo-r.2 }) A.qs) (Sum.inr p.nm)=_ from dk];have hi2:ip<A.qs.length:=by rw[h.ql];exact BK
   have h2:=h1.R_ g1 (st.ao.eraseIdx ip) (A.qs.eraseIdx ip) (by rw[List.length_eraseIdx_of_lt BK,List.length_eraseIdx_of_lt hi2,h.ql]) (λj x y ex ey=>by rw[<-List.eraseIdx_set_eq (l:=st.ao) (i:=ip) (a:={ p with wo:=p.wo-r.2 })]at ex;obtain⟨k,a1,a2⟩:=Ka ex ey;exact h1.opt k x y a1 a2)
   exact q ρ _ _ ⟨g1.wr rfl,h2,wf'⟩ rfl (F1.trans (Fr.write h1.gW))
 .have c':¬ p.wo-r.2=0:=λe=>c (cu (by rw[e]));rw[aB c']at wf' q;exact q ρ A H1 ⟨g1,h1,wf'⟩ rfl F1
abbrev sr:Stmt:=inClass (top 24) 28
abbrev pN:Da Str:=["self","kept","whole","added"]
abbrev Lc:Da Str:=pN.append ["scales","common","shared","part","scale"]
def jc:aK Lc pN (ay sr):=dh
theorem HG{T:TC}(F:ji K T.hold "blend" "Hold.blend" sr f fd)(X:Txt K T)(pO:Dn P w K mg base 2 "factor_of_all" lB (Sl K))(su:Mn P w K mg base 1 T.bot "grow" nC (Sm T))(jL:mg "zip"=none):Mn P w K mg base 3 T.hold "blend" pN (Of T K):=by
 refine F.oA jc λ_ _ _ _ H _ Q E hr h=>?_;obtain⟨⟨n,ρ,A,st,kept,whole,la,added,rfl,hh,hla,hal,k0,w0,kz,wz,haz,hpz,hsl,wf',q⟩⟩:=h;refine⟨_,(@cO.h _ _ _ (aj (xh (oJ (i:=4) ["part","kept"] [none,some 1] jc.nd rfl rfl rfl (AR (aY K (qv 0))) (λ_ _ _ _=>(aL (i:=0) (show List.Nodup (["part","kept"] :Da Str)from by decide +kernel))) (λ_ _ _ _=>(aD jR (aY K (qv 0)) (qv 1))) rfl (by rfl) (by rfl)))
  (aj (oJ (i:=5) ["top","more","kept"] [none,none,some 1] jc.nd rfl rfl rfl (tV K (by rfl) jL (af (aY K (qv 0)) (af (qv 3) ai))) (λ_ _ _ _=>(iO K (n:=2) rfl (cI (aL (i:=0) (show List.Nodup (["top","more","kept"] :Da Str)from by decide +kernel)) (cI (aL (i:=1) (show List.Nodup (["top","more","kept"] :Da Str)from by decide +kernel)) iN)))) (λ_ _ _ _=>(aD bV (aD jR (qv 0) (qv 2)) (qv 1))) rfl (by rfl) (by rfl))
  (aj (aQ (i:=6) jc.nd (bu pO hr (af (qv 2) (af (aD mX (qv 4) (qv 5)) ai))))
  (aj (xh (dG eU rfl (tV K (by rfl) jL (af (Ff (aY K (qv 0))) (af (qv 4) ai))) (iO K (n:=2) rfl (cI (aL (i:=7) jc.nd) (cI (aL (i:=8) jc.nd) iN))) (au (fh K (qv 7) (aD gM (qv 8) (qv 6))))))
  (aj (fh K (qv 0) (e_ ["top","shared"] [none,some 6] rfl (c8 K (qv 5)) (λ_ _ _ _=>(aL (i:=0) (show List.Nodup (["top","shared"] :Da Str)from by decide +kernel))) (λ_ _ _ _=>(aD gM (qv 0) (qv 1))) rfl (by rfl)))
  (aj (fh K (qv 0) (e_ ["purse","whole","shared"] [none,some 2,some 6] rfl (c8 K (aY K (qv 0))) (λ_ _ _ _=>(aL (i:=0) (show List.Nodup (["purse","whole","shared"] :Da Str)from by decide +kernel))) (λ_ _ _ _=>(aD jR (qv 0) (aD gM (qv 1) (qv 2)))) rfl (by rfl)))
  (au (dN (iV su hr (aY K (qv 0)) (af (aD gM (qv 2) (qv 6)) ai))))))))))),?_⟩
 have hpl:=hh.wf.xZ;have nd:=hh.wf.o_;have hcl:st.bL.length<=100:=by rw[hh.wf.jD];exact hh.wf.uq
 have zsc:∀p∈st.ao,Jm.Sz 8000 p.sc:=λp hp=>Jm.Sz.oZ (by have:=hh.wf.yD p hp;have:=hh.wf.jj;omega) (hh.wf.yD p hp).2 hh.wf.big;have zcm:∀c∈st.bL,Jm.Sz 8000 c:=λc hc=>Jm.Sz.oZ (by have:=hh.wf.ur c hc;have:=hh.wf.jj;omega) (hh.wf.ur c hc).2 hh.wf.big;have h:=hh.h;refine⟨A.ab,_,h.eX,λob=>?_⟩;refine⟨_,Z,A.a,T.hold,A.dx,_,_,Z,fu h.eX h.oa (λk z=>by cases z),X.cH,X.hab,Z,A.ab,ob,_,Z,ah,λl1 hl1=>?_⟩;have el:=wW h.ql;refine fR (n:=st.ao.length) 0 (λi out H1=>aG (upd H A.ab (.fF ob (.dK (cT st.ao A.qs)))) H1/\out=((st.ao.take i).map λp:Pt=>p.sc*kept).map V.int) (by omega) ⟨az hl1 _,Z⟩ (λi out H1 hi _ hp=>⟨hp.1 _ _ ah,by rw[el];exact hi⟩) (λout H1 _ hp=>⟨hp.1 _ _ ah,by rw[el];exact aN _⟩) ?_ ?_
 .rintro i x out H1 H2 hi dR ha ⟨g,e⟩ ⟨rfl,kv,hkv,rfl⟩;have ep:=aS hi;obtain⟨qq,eq,k1,k2,_⟩:=h.find ep;rw[wV ep eq]at hkv;cases hkv;have hq:=g _ _ (fu h.eX k1 (λk z=>by cases z));refine⟨_,Z,qq.1,T.part,qq.2.1,_,_,Z,hq,X.cP,X.Sa,Z,_,Z,_,_,Z,Z,jb (zsc _ (vo hi)) kz,ha,g.bM hl1 _,?_⟩;subst e;rw[take_snoc ep,br,br];rfl
 rintro o1 H1 ai5 ha1 ⟨g1,e1⟩;rw[bN]at e1;have hz1:=g1 _ _ (ah (H:=H) (a:=A.ab) (o:=.fF ob (.dK (cT st.ao A.qs))));have na1:l1≠A.ab:=λe=>by rw[e,hz1]at ha1;cases ha1
 refine⟨hz1,?_⟩;have s2:aG H (upd H1 A.ab (.dK (cT st.ao A.qs))):=ux h.eX g1;have ai6:H l1=none:=nL h.eX hl1;have ha2:upd H1 A.ab (.dK (cT st.ao A.qs)) l1=some (.lst ((iL st kept).map V.int)):=by rw[av na1,ha1,e1];rfl
 generalize upd H1 A.ab (.dK (cT st.ao A.qs))=H2 at *;clear g1 hz1 ha1 e1;have h2:=h.mono s2;have QB:=s2.seq hla;refine⟨_,Z,A.a,T.hold,A.dx,_,_,Z,h2.oa,X.cH,X.Bt,Z,_,Z,_,_,_,_,_,_,Z,.lst (aA.of h2.jU),.lst QB,λl2 hl2=>?_⟩;refine zu (K:=K) (n:=st.bL.length) [0,1] (λi out H3=>aG H2 H3/\out=(List.zipWith (λt m=>t*kept+m) (st.bL.take i) (added.take i)).map V.int) (by decide) (by omega) ⟨az hl2 _,Z⟩ (λi out H3 hi _ hp=>⟨aA.of (hp.1 _ _ h2.jU),hp.1.seq QB,by rw[aF];exact hi,by rw[aF];omega⟩)
  (λout H3 _ hp=>⟨aA.of (hp.1 _ _ h2.jU),hp.1.seq QB,.inl (by rw[aF];exact aN _)⟩) ?_ ?_
 .rintro i x out H3 H4 hi dR ha ⟨g,e⟩ ⟨p,x1,y1,hp,rfl,rfl,e1,e2⟩;obtain⟨t,rfl,et⟩:=gO e1;obtain⟨c,rfl,ec⟩:=gO e2;have g1:=az hp (.tup [.int t,.int c]);refine⟨p,_,Z,cz.of ah,Z,_,Z,_,Z,_,_,Z,Z,jb (zcm t (bP et)) kz,_,Z,_,_,Z,Z,g1 _ _ ha,(g.trans g1).bM hl2 _,?_⟩;rw[oz _ et ec,e,br];rfl
 rintro o2 H3 FA TH ⟨g3,e3⟩;rw[bN,<-hal,bN]at e3;have ec3:o2=(fZ st kept added).map V.int:=e3;subst ec3;have s3:=s2.trans g3;have h3:=h.mono s3;have VO:=g3 _ _ ha2;have ai7:H l2=none:=s2.free hl2;have n12:l1≠l2:=λe=>by rw[e,hl2]at ha2;cases ha2
 clear e3 h2 QB g3 ha2 s2;have lsc:(iL st kept).length=st.ao.length:=by unfold iL;rw[aF]
 have lcm:(fZ st kept added).length=st.bL.length:=by unfold fZ;rw[qi,hal,Nat.min_self]
 refine⟨_,Z,_,Z,_,Z,l1,l2,_,_,Z,Z,VO,TH,by rw[aF,aF,lsc,lcm];exact fL (Nat.add_le_add hpl hcl) (by rw[eW];decide),λp3 hp3=>?_⟩;rw[<-br];have g4:=az hp3 (.lst ((iL st kept++fZ st kept added).map V.int));refine⟨⟨whole,p3,_,Z,aA.of ah,by omega,?_,?_⟩⟩
 .intro t ht;rcases fj.mp ht with z|z
  .unfold iL at z;obtain⟨p,hp,rfl⟩:=bR.mp z;exact nq (by have:=hh.wf.yD p hp;omega) (by omega)
  .obtain ⟨c,hc,m,hm,rfl⟩:=x8 (show t∈List.zipWith _ st.bL added from z);have a1:=nq (hh.wf.ur c hc).1 (by omega:0<=kept);have a2:=(haz m hm).1;omega
 have s4:=s3.trans g4;have h4:=h.mono s4;have G4:=hh.g.same s4;have F4:Fr n ρ H ρ (upd H3 p3 (.lst ((iL st kept++fZ st kept added).map V.int))):=Fr.of_same s4;have b1:=g4 _ _ VO;have b2:=g4 _ _ TH;generalize upd H3 p3 (.lst ((iL st kept++fZ st kept added).map V.int))=H4 at *;clear VO TH s3 h3 g4;obtain⟨sd,WJ⟩:∃sd,sd=cZ st kept whole added:=⟨_,rfl⟩
 rw[show pA whole (iL st kept++fZ st kept added)=sd from WJ.symm];have sp:0<sd:=by rw[WJ];exact zP _ _ w0
 have SR:sd∣whole:=by rw[WJ];exact(zO _ _).1
 have sz:Jm.Sz 60 sd:=wz.dvd w0 (by omega) SR;have wq:0<whole / sd:=Int.ediv_pos_of_pos_of_dvd w0 (by omega) SR;have wqz:Jm.Sz 60 (whole / sd):=wz.ediv sp;have WK:∀{i:Int},AG i sd:=λ{i}=>ud sp (sz.mono (by decide));refine⟨A.ab,_,h4.eX,λTJ=>?_⟩;refine⟨_,Z,A.a,T.hold,A.dx,_,_,Z,fu h4.eX h4.oa (λk z=>by cases z),X.cH,X.hab,Z,A.ab,_,Z,.inr ⟨TJ,ah⟩,λv hv=>?_⟩;have nva:v≠A.ab:=λe=>by rw[e,ah]at hv;cases hv
 have hv4:H4 v=none:=nL h4.eX hv;have g5:=az hv4 (lA v A.ab);have hv5:upd H4 v (lA v A.ab) v=some (lA v A.ab):=ah;rw[kD (cy nva)];have h5:=h4.mono g5;have G5:=G4.same g5;have F5:=F4.trans (Fr.of_same (ρ:=ρ) g5);have s5:=s4.trans g5;have c1:=g5 _ _ b1;have c2:=g5 _ _ b2;generalize upd H4 v (lA v A.ab)=H5 at *;clear h4 G4 F4 s4 b1 b2 g5;refine⟨_,Z,_,_,_,_,_,_,Z,.vals (fu h5.eX hv5 (λk z=>by cases z)) ah,.lst (aA.of (fu h5.eX c1 (λk z=>by cases z))),?_⟩;have exl:((cT st.ao A.qs).map λp=>p.2).length=st.ao.length:=by rw[aF];exact el
 have eyl:((iL st kept).map V.int).length=st.ao.length:=by rw[aF];exact lsc
 refine uh (n:=st.ao.length) (λi σ H'=>(∃s7 s8,σ=[some (.ref A.a),some (.int kept),some (.int whole),some (.ref la),some (.ref l1),some (.ref l2),some (.int sd),s7,s8])/\∃H6,H'=upd H6 A.ab (.fF TJ (.dK (cT st.ao A.qs)))/\Gh ρ H6/\Fr n ρ H ρ H6/\aV T n ρ A H6 { st with ao:=(st.ao.take i).map (λp=>{ p with sc:=p.sc*kept / sd })++st.ao.drop i }/\H6 l1=some (.lst ((iL st kept).map V.int))/\H6 l2=some (.lst ((fZ st kept added).map V.int))/\(∀b,H6 b=none->H b=none))
  ⟨⟨_,_,Z⟩,H5,Z,G5,F5,h5,c1,c2,λb e=>s5.free e⟩ ?_ ?_ ?_ ?_
 .rintro i σ H' hi ⟨_,H6,rfl,G6,F6,h6,d1,d2,fr⟩;have e6:cT ({ st with ao:=(st.ao.take i).map (λp:Pt=>{ p with sc:=p.sc*kept / sd })++st.ao.drop i }:HS).ao A.qs=cT st.ao A.qs:=oB (qu (λp:Pt=>{ p with sc:=p.sc*kept / sd }) (λp:Pt=>p.nm) (λ_=>rfl) st.ao i);have qI:=h6.eX;rw[e6]at qI;exact⟨ah,aA.of (fu qI d1 (λk z=>by cases z)),by rw[exl];exact hi,by rw[eyl];exact hi⟩
 .rintro σ H' ⟨_,H6,rfl,G6,F6,h6,d1,d2,fr⟩;have e6:cT ({ st with ao:=(st.ao.take st.ao.length).map (λp:Pt=>{ p with sc:=p.sc*kept / sd })++st.ao.drop st.ao.length }:HS).ao A.qs=cT st.ao A.qs:=oB (qu (λp:Pt=>{ p with sc:=p.sc*kept / sd }) (λp:Pt=>p.nm) (λ_=>rfl) st.ao _);have qI:=h6.eX;rw[e6]at qI;exact⟨ah,aA.of (fu qI d1 (λk z=>by cases z)),.inl (by rw[exl];exact aN _)⟩
 .rintro i x σ H' uy hi ⟨⟨s7,s8,rfl⟩,H6,rfl,G6,F6,h6,d1,d2,fr⟩ ⟨pp,x1,y1,hpp,rfl,rfl,ex,ey⟩;have ep:=aS hi;have ep6:=J5 (λp:Pt=>{ p with sc:=p.sc*kept / sd }) ep;obtain⟨qq,eq,k1,k2,k3,k4⟩:=h6.find ep6;have nm6:=qu (λp:Pt=>{ p with sc:=p.sc*kept / sd }) (λp:Pt=>p.nm) (λ_=>rfl) st.ao i;have e6:cT ({ st with ao:=(st.ao.take i).map (λp:Pt=>{ p with sc:=p.sc*kept / sd })++st.ao.drop i }:HS).ao A.qs=cT st.ao A.qs:=oB nm6;have qI:=h6.eX;rw[e6]at qI;rw[bF,wV ep eq]at ex;cases ex;obtain⟨sc,rfl,esc⟩:=gO ey;have agl:sc=(st.ao[i]).sc*kept:=by unfold iL at esc;rw[bF,ep]at esc;exact(ie esc).symm
  subst agl;have npa:pp≠A.ab:=λe=>by rw[e,ah]at hpp;cases hpp
  have agm:H6 pp=none:=nL qI hpp;have g7:=az agm (.tup [.ref qq.1,.int ((st.ao[i]).sc*kept)]);rw[kD (cy npa)];have Lb:upd H6 pp (.tup [.ref qq.1,.int ((st.ao[i]).sc*kept)]) pp=some (.tup [.ref qq.1,.int ((st.ao[i]).sc*kept)]):=ah;have h7:=h6.mono g7;have G7:=G6.same g7;have F7:=F6.trans (Fr.of_same (ρ:=ρ) g7);have VP:=g7 _ _ qI;have f1:=g7 _ _ d1;have f2:=g7 _ _ d2;have RT:∀b,upd H6 pp (.tup [.ref qq.1,.int ((st.ao[i]).sc*kept)]) b=none->H b=none:=λb e=>fr b (g7.free e);have OH:=g7 _ _ k1;generalize upd H6 pp (.tup [.ref qq.1,.int ((st.ao[i]).sc*kept)])=H7 at *;refine⟨pp,_,Z,cz.of (fu VP Lb (λk z=>by cases z)),Z,_,_,Z,_,_,Z,Z,?_⟩;refine⟨_,Z,_,Z,_,_,Z,Z,WK,_,Z,qq.1,T.part,qq.2.1,_,Z,fu VP OH (λk z=>by cases z),X.cP,X.Sa,by show 6<1000;decide,?_⟩;have nd7:(((st.ao.take i).map (λp:Pt=>{ p with sc:=p.sc*kept / sd })++st.ao.drop i).map (λp:Pt=>p.nm)).Nodup:=by rw[nm6];exact nd
  have h8:=h7.zy (p1:={ st.ao[i]with sc:=(st.ao[i]).sc*kept / sd }) G7 ep6 eq rfl rfl nd7;rw[show({ st with ao:=(st.ao.take i).map (λp:Pt=>{ p with sc:=p.sc*kept / sd })++st.ao.drop i }:HS).ao.set i { st.ao[i]with sc:=(st.ao[i]).sc*kept / sd }=_ from J6 (λp:Pt=>{ p with sc:=p.sc*kept / sd }) ep]at h8;have nqa:A.ab≠qq.1:=(iZ OH VP (by intro z;cases z)).symm;have nq1:l1≠qq.1:=iZ f1 OH (by intro z;cases z);have nq2:l2≠qq.1:=iZ f2 OH (by intro z;cases z);refine⟨⟨_,_,Z⟩,_,kD nqa,G7.wr rfl,F7.trans (Fr.write k3),h8,by rw[av nq1];exact f1,by rw[av nq2];exact f2,λb e=>RT b ?_⟩;by_cases z:b=qq.1
  .rw [z,ah]at e;cases e
  .rw [av z]at e;exact e
 rintro σ H' ⟨⟨s7,s8,rfl⟩,H6,rfl,G6,F6,h6,d1,d2,fr⟩;have e6:cT ({ st with ao:=(st.ao.take st.ao.length).map (λp:Pt=>{ p with sc:=p.sc*kept / sd })++st.ao.drop st.ao.length }:HS).ao A.qs=cT st.ao A.qs:=oB (qu (λp:Pt=>{ p with sc:=p.sc*kept / sd }) (λp:Pt=>p.nm) (λ_=>rfl) st.ao _);have qI:=h6.eX;rw[e6]at qI;refine⟨ah,?_⟩;rw[qm,x_ qI];rw[show({ st with ao:=(st.ao.take st.ao.length).map (λp:Pt=>{ p with sc:=p.sc*kept / sd })++st.ao.drop st.ao.length }:HS)={ st with ao:=st.ao.map λp:Pt=>{ p with sc:=p.sc*kept / sd } }from by rw[bN,CS,tG]]at h6;clear e6 qI h5 G5 F5 s5 c1 c2 hv5;refine⟨_,Z,l2,Z,⟨_,aA.of d2⟩,λl3 hl3=>?_⟩;refine fR (J:=sY K l2) (n:=((fZ st kept added).map V.int).length) 0 (λi o H'=>aG H6 H'/\o=(((fZ st kept added).take i).map (· / sd)).map V.int) (by rw[aF];omega) ⟨az hl3 _,Z⟩ (λi o H' hi _ hp=>⟨_,_,aA.of (hp.1 _ _ d2),aS hi⟩) (λo H' _ hp=>⟨_,aA.of (hp.1 _ _ d2),aN _⟩) ?_ ?_
 .rintro i y o Ha Hb hi dR ha ⟨g,e⟩ ⟨rfl,hy⟩;obtain⟨c,rfl,ec⟩:=gO (hy _ (aA.of (g _ _ d2)));refine⟨_,Z,_,Z,_,_,Z,Z,WK,ha,g.bM hl3 _,?_⟩;subst e;rw[take_snoc ec,br,br];rfl
 rintro o3 H8 ai8 Ld ⟨g8,e8⟩;rw[aF,bN]at e8;subst e8;have h8:=h6.mono g8;have G8:=G6.same g8;have F8:=F6.trans (Fr.of_same (ρ:=ρ) g8);have fr8:∀b,H8 b=none->H b=none:=λb e=>fr b (g8.free e);have c3:ρ l3=none:=G6.none hl3;have n3:H l3=none:=fr l3 hl3;refine⟨_,Z,A.a,T.hold,A.dx,_,Z,h8.oa,X.cH,X.Bt,by show 7<1000;decide,?_⟩;obtain⟨h9,G9⟩:=GI (t:=6) h8 G8 c3 Ld rfl;have F9:Fr n ρ H (cL ρ l3 (n,6,⟨#[]⟩)) H8:=F8.yb n3;have yF:=h9.aae G9 l3 _ Ld dX;have G10:=G9.wr (a:=A.a) (o:=.ins T.hold A.dx (mQ { A with cm:=l3 })) rfl;have F10:=F9.trans (Fr.write (o:=.ins T.hold A.dx (mQ { A with cm:=l3 })) h9.ca);show yV _ _ _ _ (upd H8 A.a (.ins T.hold A.dx (mQ { A with cm:=l3 })));have agn:∀b,upd H8 A.a (.ins T.hold A.dx (mQ { A with cm:=l3 })) b=none->H b=none:=λb e=>fr8 b (by
  by_cases z:b=A.a
  .rw [z,ah]at e;cases e
  .rw [av z]at e;exact e)
 generalize upd H8 A.a (.ins T.hold A.dx (mQ { A with cm:=l3 }))=Dr at *;clear h6 G6 F6 h8 G8 F8 h9 G9 F9 Ld g8 fr8 fr d1 d2;refine⟨_,Z,A.a,T.hold,A.dx,_,_,Z,yF.oa,X.cH,X.JV,Z,A.pu,Z,⟨_,aA.of yF.qg⟩,λl4 G_=>?_⟩;have ai9:st.c6.length<=100:=by rw[hh.wf.zA];exact hh.wf.uq
 refine fR (J:=sY K A.pu) (n:=(st.c6.map V.int).length) 0 (λi o H'=>aG Dr H'/\o=((st.c6.take i).map (·*(whole / sd))).map V.int) (by rw[aF];omega) ⟨az G_ _,Z⟩ (λi o H' hi _ hp=>⟨_,_,aA.of (hp.1 _ _ yF.qg),aS hi⟩) (λo H' _ hp=>⟨_,aA.of (hp.1 _ _ yF.qg),aN _⟩) ?_ ?_
 .rintro i y o Ha Hb hi dR ha ⟨g,e⟩ ⟨rfl,hy⟩;obtain⟨c,rfl,ec⟩:=gO (hy _ (aA.of (g _ _ yF.qg)));refine⟨_,Z,_,Z,_,Z,_,_,Z,Z,WK,_,_,Z,Z,jb (hpz c (bP ec)) wqz,ha,g.bM G_ _,?_⟩;subst e;rw[take_snoc ec,br,br];rfl
 rintro o4 H11 ai_ abr ⟨g11,e11⟩;rw[aF,bN]at e11;subst e11;have h11:=yF.mono g11;have G11:=G10.same g11;have F11:=F10.trans (Fr.of_same (ρ:=cL ρ l3 (n,6,⟨#[]⟩)) g11);have c4:cL ρ l3 (n,6,⟨#[]⟩) l4=none:=G10.none G_;have n4:H l4=none:=agn l4 G_;refine⟨_,Z,A.a,T.hold,A.dx,_,Z,h11.oa,X.cH,X.JV,by show 7<1000;decide,?_⟩;obtain⟨h12,G12⟩:=GI (t:=7) h11 G11 c4 abr rfl;have F12:Fr n ρ H (cL (cL ρ l3 (n,6,⟨#[]⟩)) l4 (n,7,⟨#[]⟩)) H11:=F11.yb n4;have Hf:=h12.aaf G12 l4 _ abr dX;have G13:=G12.wr (a:=A.a) (o:=.ins T.hold A.dx (mQ { { A with cm:=l3 }with pu:=l4 })) rfl;have F13:=F12.trans (Fr.write (o:=.ins T.hold A.dx (mQ { { A with cm:=l3 }with pu:=l4 })) h12.ca);rw[show iy "purses" (V.ref l4) (mQ { A with cm:=l3 })=mQ { { A with cm:=l3 }with pu:=l4 }from rfl];generalize upd H11 A.a (.ins T.hold A.dx (mQ { { A with cm:=l3 }with pu:=l4 }))=H13 at *;refine⟨_,Z,A.a,T.hold,A.dx,_,_,Z,Hf.oa,X.cH,X.DF,Z,A.bt,A.db,_,Z,Hf.ou,Z,_,Z,_,Z,_,_,Z,Z,WK,?_⟩;refine⟨⟨n,_,{ { A with cm:=l3 }with pu:=l4 },{ st with ao:=st.ao.map (λp:Pt=>{ p with sc:=p.sc*kept / sd }),bL:=(fZ st kept added).map (· / sd),c6:=st.c6.map (·*(whole / sd)) },whole / sd,Z,G13,Hf,by show st.stp.length<=1000;omega,hh.wf.big.mono (by decide),wqz.mono (by decide),λρ' A' H' a1 a2 a3 a4=>?_⟩⟩;have eb:cQ st kept whole added=fW { st with ao:=st.ao.map (λp:Pt=>{ p with sc:=p.sc*kept / sd }),bL:=(fZ st kept added).map (· / sd),c6:=st.c6.map (·*(whole / sd)) } (whole / sd):=by unfold cQ;rw[WJ]
 rw[eb]at wf' q;exact q ρ' A' H' ⟨a1,a2,wf'⟩ a3 (F13.trans a4)
abbrev uT:Stmt:=inClass (top 24) 3
abbrev q_:Da Str:=["self","rows"]
abbrev MF:Da Str:=q_.append ["amounts","name","amount","whole","lost"]
def gZ:aK MF q_ (ay uT):=dh
theorem HJ{T:TC}{e:Ec}(F:ji K T.hold "cast" "Hold.cast" uT f fd)(X:Txt K T)(sy:Dx P w K mg base 1 "amounts_of" pI (OC K e))(sH:Dx P w K mg base 2 "check_loss" pG (Tj e))(lE:Mx P w K mg base 1 T.hold "part_of" j0 (zW T e))(j6:Mn P w K mg base 1 T.hold "whole" lO (E7 T))(uU:Mn P w K mg base 3 T.hold "blend" pN (Of T K))(pP:Mn P w K mg base 1 T.hold "given_up" lD (Oe T))(sJ:Mn P w K mg base 1 T.hold "lessen" nE (Sn T))(fH:mg "sum"=none)(mE:kP K e.v7)(jv:mg "TooMuch"=some (.ref e.v7)):Mx P w K mg base 4 T.hold "cast" q_ (OD T K e):=by
 refine F.KL gZ λ_ _ _ _ H _ Q E hr h=>?_;obtain⟨⟨n,ρ,A,st,l,us,rs,rfl,hh,hl,hR,len,okI,dq⟩⟩:=h;have wf:=hh.wf;refine⟨_,(@cO.h _ _ _ (aj (aQ (i:=2) gZ.nd (KI sy hr (af (qv 1) ai)))
  (aj (xh (dG PassesOwn.leaving rfl (Cq (qv 2)) (iO K (n:=2) rfl (cI (aL (i:=3) gZ.nd) (cI (aL (i:=4) gZ.nd) iN))) (au (dN (KI sH hr (af (aY K (OA lE hr (qv 0) (af (qv 3) ai))) (af (qv 4) ai)))))))
  (aj (aQ (i:=5) gZ.nd (w_ j6 hr (qv 0)))
  (aj (aQ (i:=6) gZ.nd (aE (GB rfl) (by rfl) fH t8 (af (Ff (qv 2)) ai)))
  (aj (cE (aT IM (qv 6) (qv 5) (aZ _)) (au (qC mE (by rfl) jv)) aR)
  (aj (dN (iV uU hr (qv 0) (af (aD lI (qv 5) (qv 6)) (af (qv 5) (af (iV pP hr (qv 0) (af (qv 2) ai)) ai)))))
  (au (xh (dG PassesOwn.leaving rfl (Cq (qv 2)) (iO K (n:=2) rfl (cI (aL (i:=3) gZ.nd) (cI (aL (i:=4) gZ.nd) iN))) (au (dN (iV sJ hr (qv 0) (af (qv 3) (af (qv 4) ai))))))))))))))),?_⟩
 refine⟨_,Z,⟨⟨l,us,rs,Z,hl,hR,len,λhb=>dq.no 7 (zY hb),λne nd d H1 g1 hdn hd1=>?_⟩⟩⟩;have iJ:=hh.mono g1;have F1:Fr n ρ H ρ H1:=Fr.of_same g1;have cd:ρ d=none:=hh.g.none hdn;have al:=ya rs;refine⟨d,_,hd1,λob=>⟨_,Z,d,ob,_,Z,ah,?_⟩⟩;refine uh (n:=(gP rs).length) (λi σ H'=>aG (upd H1 d (.fF ob (.dK (gP rs)))) H'/\(∀r∈rs.take i,iB st r=none)/\∃s3 s4 s5 s6,σ=[some (.ref A.a),some (.ref l),some (.ref d),s3,s4,s5,s6])
  ⟨aG.refl _,(λr hr=>nomatch hr),_,_,_,_,Z⟩ (λi σ H' hi hp=>⟨hp.1 _ _ ah,hi⟩) (λσ H' hp=>⟨hp.1 _ _ ah,aN _⟩) ?_ ?_
 .rintro i x σ H3 H4 hi ⟨g,h0,s3,s4,s5,s6,rfl⟩ ⟨pp,kv,hpp,hkv,rfl,rfl⟩;unfold gP at hkv;rw[bF]at hkv;obtain⟨r,er,rfl⟩:=kT.mp hkv;have g4:=az hpp (.tup [.str r.1,.int r.2]);have gg:=g.trans g4;have hf:HH T n ρ A (upd H1 d (.fF ob (.dK (gP rs)))) st:=iJ.IU cd hd1 rfl rfl;have h4:=hf.mono gg;have Lb:upd H3 pp (.tup [.str r.1,.int r.2]) pp=some (.tup [.str r.1,.int r.2]):=ah;show BX K 2 _ _ _ (upd H3 pp (.tup [.str r.1,.int r.2])) _;generalize upd H3 pp (.tup [.str r.1,.int r.2])=H4 at *;have gA:aG H H4:=(g1.bM hdn _).trans gg;have no:∀k,iB st r=some k->Rf e E H4 k:=λk hk=>(dq.no k (G1 ne nd h0 er hk)).mono gA;refine⟨pp,_,Z,cz.of Lb,Z,_,_,Z,_,_,Z,Z,?_⟩;refine⟨_,Z,A.a,A.dx,_,Z,h4.h.oa,Z,_,Z,⟨⟨n,ρ,A,st,r.1,Z,h4.h,wf.o_,λhn=>no 3 ?_,λip p qq e1 e2 e3=>?_⟩⟩⟩
  .unfold iB;rw[aB (λz=>?_)];obtain⟨j,p,h1,h2⟩:=Qs z;exact hn p (bP h1) h2
  obtain⟨k1,_⟩:=h4.h.opt ip p qq e2 e3;have hm:r.1∈kH st:=by rw[<-e1];exact adt e2
  have lP:=bP e2;have ew:(dg st r.1).wo=p.wo:=by rw[jF wf lP e1]
  refine⟨qq.1,T.part,qq.2.1,_,_,Z,k1,X.cP,X.NZ,Z,_,Z,⟨⟨p.wo,r.2,Z,λh5=>no 5 ?_,λh1 h6=>no 6 ?_,λh1 h2=>?_⟩⟩⟩
  .unfold iB;rw[aC hm,aC h5]
  .unfold iB;rw[aC hm,aB (show ¬ r.2<1 by omega),ew,aC h6]
  have hN:iB st r=none:=by unfold iB;rw[aC hm,aB (show ¬ r.2<1 by omega),ew,aB (by omega)]
  refine⟨gg,λr' hr'=>?_,_,_,_,_,Z⟩;rw[take_snoc er]at hr';rcases fj.mp hr' with h|h
  .exact h0 _ h
  .rw [eL.mp h];exact hN
 rintro σ H2 ⟨g2,h0,s3,s4,s5,s6,rfl⟩;rw[al,bN]at h0;refine⟨g2 _ _ ah,?_⟩;have gB:=ux hd1 g2;have ng:=iJ.mono gB;have F2:Fr n ρ H ρ (upd H2 d (.dK (gP rs))):=F1.trans (Fr.of_same gB);have hd2:upd H2 d (.dK (gP rs)) d=some (.dK (gP rs)):=ah;generalize upd H2 d (.dK (gP rs))=H2' at *;refine⟨_,Z,A.a,A.dx,_,Z,ng.h.oa,Z,⟨⟨n,ρ,A,st,Z,ng.h,wf.xZ,λH3 g3=>?_⟩⟩⟩;have tD:=ng.mono g3;have WL:=g3 _ _ hd2;have F3:=F2.trans (Fr.of_same (ρ:=ρ) g3);refine⟨_,Z,d,_,Z,.inl WL,λv hv=>⟨v,d,_,rs.map (·.2),Z,ah,.inl (by rw[av (aH WL hv)];exact WL),by unfold gP;rw[ig,ig];rfl,?_⟩⟩;have g4:=az hv (lA v d);have qh:=tD.mono g4;have hd4:=g4 _ _ WL;have F4:=F3.trans (Fr.of_same (ρ:=ρ) g4);generalize upd H3 v (lA v d)=H4 at *;refine⟨_,Z,_,Z,_,_,Z,Z,_,Z,dJ (λc=>λy=>(dq.no 6 (by rw[zZ ne nd h0,aC (show bh st<=bq rs from dI c)])) y H4 ?_) λc=>?_⟩
 .exact ((g1.trans gB).trans g3).trans g4
 have cN:jm st rs=none:=by rw[zZ ne nd h0,aB (show ¬ bh st<=bq rs from ko (jB.mpr c))]
 have ok:=okI cN;have q:=dq.ok cN;have bo:=ok.blend wf;refine⟨_,Z,A.a,A.dx,_,Z,qh.h.oa,Z,_,Z,_,Z,_,_,Z,Z,_,Z,_,Z,A.a,A.dx,_,Z,qh.h.oa,Z,_,Z,⟨⟨n,ρ,A,st,d,rs,Z,qh.h,wf,hd4,cd,ok.len,λr hr=>⟨(ok.row r hr).2.1,by obtain⟨p,hp,e,_⟩:=(ok.row r hr).2.2;exact⟨p,hp,e⟩⟩,λl5 H5 g5 hn5 hl5=>?_⟩⟩⟩;have vK:=qh.mono g5;have hd5:=g5 _ _ hd4;have F5:=F4.trans (Fr.of_same (ρ:=ρ) g5);have zk:Jm.Sz 60 (bh st-bq rs):=bo.big.of_le (by have:=bo.k;have:=bo.l;omega);have zG:∀m∈gc st rs,0<=m/\Jm.Sz 8900 m:=λm hm=>by have h1:=bo.add m hm;have h2:=wf.jj;have zl:Jm.Sz 60 (bq rs):=bo.big.of_le (by have:=bo.k;have:=bo.l;omega);exact⟨h1.1,Jm.Sz.oZ (by have:=nq bo.l (show 0<=st.prod by omega);omega) h1.2 ((zl.mul bo.prod).mono (by decide))⟩
 refine⟨⟨n,ρ,A,st,bh st-bq rs,bh st,l5,gc st rs,Z,vK,aA.of hl5,bo.len,bo.k,by have:=bo.k;have:=bo.l;omega,zk,bo.big,zG,ok.c6,ok.stp,Vl wf bo,λρ6 A6 H6 D_ e6 f6=>?_⟩⟩;obtain⟨hd6,cd6⟩:=f6 d _ hd5 (λt x=>by rw[cd];intro z;cases z);rw[cd]at cd6;have F6:=F5.trans f6;refine⟨d,_,hd6,λTJ=>⟨_,Z,d,TJ,_,Z,ah,?_⟩⟩;generalize eB:cQ st (bh st-bq rs) (bh st) (gc st rs)=OI at *;have ago:Due OI rs:=by rw[<-eB];exact Sy ok.due
 have adv:jk st rs=rs.foldl gk OI:=by unfold jk;rw[eB]
 refine uh (n:=(gP rs).length) (λi σ H'=>∃ρ' A',HH T n ρ' A' H' ((rs.take i).foldl gk OI)/\A'.a=A.a/\H' d=some (.fF TJ (.dK (gP rs)))/\ρ' d=none/\Fr n ρ H ρ' H'/\Due ((rs.take i).foldl gk OI) (rs.drop i)/\∃s3 s4 s5 s6,σ=[some (.ref A.a),some (.ref l),some (.ref d),s3,s4,s5,s6])
  ⟨ρ6,A6,D_.IU cd6 hd6 rfl rfl,e6,ah,cd6,F6.new hdn,ago,_,_,_,_,Z⟩ (λi σ H' hi hp=>by obtain⟨_,_,_,_,e,_⟩:=hp;exact⟨e,hi⟩) (λσ H' hp=>by obtain⟨_,_,_,_,e,_⟩:=hp;exact⟨e,aN _⟩) ?_ ?_
 .rintro i x σ H7 H8 hi ⟨ρ7,A7,OJ,e7,WM,WN,F7,due,s3,s4,s5,s6,rfl⟩ ⟨pp,kv,hpp,hkv,rfl,rfl⟩;unfold gP at hkv;rw[bF]at hkv;obtain⟨r,er,rfl⟩:=kT.mp hkv;have hir:i<rs.length:=by rw[<-al];exact hi
  have edr:rs.drop i=r::rs.drop (i+1):=by rw[Jb hir];rw[aS hir]at er;rw[ie er]
  rw[edr]at due;have g4:=az hpp (.tup [.str r.1,.int r.2]);have hh8:=OJ.mono g4;have hd8:=g4 _ _ WM;have F8:=F7.trans (Fr.of_same (ρ:=ρ7) g4);have Lb:upd H7 pp (.tup [.str r.1,.int r.2]) pp=some (.tup [.str r.1,.int r.2]):=ah;show BX K 2 _ _ _ (upd H7 pp (.tup [.str r.1,.int r.2])) _;generalize upd H7 pp (.tup [.str r.1,.int r.2])=H8 at *;refine⟨pp,_,Z,cz.of Lb,Z,_,_,Z,_,_,Z,Z,?_⟩;have eN:(rs.take (i+1)).foldl gk OI=gk ((rs.take i).foldl gk OI) r:=by rw[take_snoc er,Ji];rfl
  have ndr:((r::rs.drop (i+1)).map (λr:Row=>r.1)).Nodup:=by rw[<-edr,List.map_drop];exact nd.sublist (List.drop_sublist _ _)
  refine⟨_,Z,A.a,A7.dx,_,Z,by rw[<-e7];exact hh8.h.oa,Z,_,Z,_,Z,⟨⟨n,ρ7,A7,_,r,by rw[e7];rfl,hh8,due r cg,aaw OJ.wf due,λρ9 A9 H9 hh9 e9 f9=>?_⟩⟩⟩;obtain⟨hd9,cd9⟩:=f9 d _ hd8 (λt x=>by rw[WN];intro z;cases z);rw[WN]at cd9;rw[<-eN]at hh9;exact⟨ρ9,A9,hh9,e9.trans e7,hd9,cd9,F8.trans f9,by rw[eN];exact Vn OJ.wf due ndr,_,_,_,_,Z⟩
 rintro σ H7 ⟨ρ7,A7,OJ,e7,WM,WN,F7,due,s3,s4,s5,s6,rfl⟩;rw[al,bN,<-adv]at OJ;exact⟨WM,q ρ7 A7 _ (OJ.IU WN WM rfl rfl) e7 (F7.new hdn)⟩
abbrev qJ:Stmt:=inClass (top 4) 2
abbrev nF:Da Str:=["self","top"]
abbrev HK:Da Str:=nF.append ["rest","step","shared"]
def iP:aK HK nF (ay qJ):=dh
theorem FF{T:TC}(F:ji K T.bot "over" "Bottom.over" qJ f fd)(X:Txt K T)(iw:Dn P w K mg base 1 "common_factor" ju UY):Mn P w K mg base 2 T.bot "over" nF (N_ T):=by
 refine F.oA iP λ_ _ _ _ H _ Q E hr h=>?_;obtain⟨⟨bt,db,sp,kn,stp,prod,top,rfl,hb,hs,ep,h2,hz,q⟩⟩:=h;refine⟨_,(@cO.h _ _ _ (aj (aQ (i:=2) iP.nd (aY K (qv 0)))
  (aj (dG eU rfl (c8 K (aY K (qv 0))) (aL (i:=3) iP.nd) (aj (aQ (i:=4) iP.nd (bu iw hr (af (qv 3) (af (aD jQ (qv 1) (qv 3)) ai))))
  (au (iD (aT iH (qv 4) ak (aZ _)) (aj (aQ (i:=1) iP.nd (aD gM (qv 1) (qv 4)))
  (au (aQ (i:=2) iP.nd (aD gM (qv 2) (qv 4))))) aR))))
  (au (aP (iC (af (qv 1) (af (qv 2) ai)))))))),?_⟩
 have p1:1<=prod:=by rw[ep];exact J8 h2
 refine⟨_,Z,bt,T.bot,db,_,_,Z,hb,X.cB,X.Wq,Z,?_⟩;refine⟨_,Z,bt,T.bot,db,_,_,Z,hb,X.cB,X.bst,Z,sp,Z,⟨_,aA.of hs⟩,?_⟩;refine jC (K:=K) (xs:=stp.map V.int) (λi σ H'=>H'=H/\∃(t r d:Int)(s3 s4:Option V),σ=[some (.ref bt),some (.int t),some (.int r),s3,s4]/\t*prod=top*r/\r=d*(stp.drop i).foldl (·*·) 1/\0<d/\Jm.cf t d=1)
  ⟨Z,top,prod,1,none,none,Z,Z,by rw[List.drop_zero,Int.one_mul];exact ep,by decide,by unfold Jm.cf;rw[Int.gcd_one];rfl⟩ (λi σ H' _ hp=>by rw[hp.1];exact aA.of hs) ?_ ?_
 .rintro i x σ H' hx ⟨rfl,t,r,d,s3,s4,rfl,e1,e2,d0,c⟩;obtain⟨st,rfl,es⟩:=gO hx;have hm:=bP es;have s2:=h2 st hm;have hi:=(d8.mp es).1;have hdr:stp.drop i=st::stp.drop (i+1):=by rw[Jb hi];congr 1;rw[aS hi]at es;exact ie es
  rw[hdr,E8]at e2;have r0:0<=t % st:=nj _ (by omega);refine⟨_,Z,_,Z,_,Z,_,_,Z,Z,(by show 0<st;omega),st,t % st,Z,by omega,r0,?_⟩;rw[Jm.EV t st (by omega)];obtain⟨o1,o2⟩:=Si d0 (by omega:0<st) c;have gp:0<Jm.cf t st:=Jm.Dj t st (.inr (by omega));have gz:Jm.Sz 9000 (Jm.cf t st):=((hz.of_le (by have:=Wu h2 hm;rw[<-ep]at this;omega)).dvd (by omega:0<st) (by omega) (Jm.oY t st)).mono (by decide);obtain⟨u,hu⟩:=Jm.qU t st;obtain⟨v,hv⟩:=Jm.oY t st;have e3:t / Jm.cf t st*prod=top*(r / Jm.cf t st):=by
   have a1:t / Jm.cf t st=u:=by rw[VY (by omega) hu]
   have a2:r=Jm.cf t st*(d*v*(stp.drop (i+1)).foldl (·*·) 1):=by
    rw[e2]
    conv=>lhs;rw[hv]
    rw[jH (Jm.cf t st),Int.mul_left_comm,jH d]
   have a3:r / Jm.cf t st=d*v*(stp.drop (i+1)).foldl (·*·) 1:=by rw[VY (by omega) a2]
   rw[a1,a3];have Bw:Jm.cf t st*(u*prod)=Jm.cf t st*(top*(d*v*(stp.drop (i+1)).foldl (·*·) 1)):=by
    rw[<-jH,<-hu,e1]
    conv=>lhs;rw[a2]
    rw[Int.mul_left_comm]
   exact Int.eq_of_mul_eq_mul_left (by omega) Bw
  have e4:r / Jm.cf t st=d*(st / Jm.cf t st)*(stp.drop (i+1)).foldl (·*·) 1:=by
   have a4:st / Jm.cf t st=v:=by rw[VY (by omega) hv]
   have a2:r=Jm.cf t st*(d*v*(stp.drop (i+1)).foldl (·*·) 1):=by
    rw[e2]
    conv=>lhs;rw[hv]
    rw[jH (Jm.cf t st),Int.mul_left_comm,jH d]
   rw[a4,VY (by omega) a2]
  refine⟨λσ' H2=>H2=H'/\σ'=[some (.ref bt),some (.int (t / Jm.cf t st)),some (.int (r / Jm.cf t st)),some (.int st),some (.int (Jm.cf t st))],?_,?_⟩
  .refine ⟨_,Z,_,_,Z,Z,_,Z,dJ (λc=>?_) (λc=>?_)⟩
   .exact ⟨_,Z,_,Z,_,_,Z,Z,ud gp gz,_,Z,_,Z,_,_,Z,Z,ud gp gz,Z,Z⟩
   .have c':¬ 1<Jm.cf t st:=ko (jB.mpr c);have g1:Jm.cf t st=1:=by omega
    refine⟨Z,?_⟩;rw[g1,Au,Au];rfl
  rintro σ' H2 ⟨rfl,rfl⟩;exact⟨Z,_,_,_,_,_,Z,e3,e4,o2,o1⟩
 rintro σ H' ⟨rfl,t,r,d,s3,s4,rfl,e1,e2,d0,c⟩;rw[List.drop_of_length_le (by rw[aF];exact aN _),List.foldl_nil,Int.mul_one]at e2;subst e2;refine⟨_,Z,_,Z,(gJ 2),λp hp=>?_⟩;refine q p _ (az hp _) ?_;rw[ah];obtain⟨a1,a2⟩:=Jm.RN d0 c;have:Jm.fr top prod=Jm.fr t r:=Jm.Wb (by omega) d0 e1.symm;unfold o6;rw[this,a1,a2]
abbrev pQ:Stmt:=inClass (top 4) 3
abbrev mG:Da Str:=["self","top"]
abbrev FG:Da Str:=mG
def Eb:aK FG mG (ay pQ):=dh
theorem Ed{T:TC}(F:ji K T.bot "share" "Bottom.share" pQ f fd)(X:Txt K T)(sL:Mn P w K mg base 2 T.bot "over" nF (N_ T)):Mn P w K mg base 3 T.bot "share" mG (J1 T):=by
 refine F.oA Eb λ_ _ _ _ H _ Q E hr h=>?_;obtain⟨⟨bt,db,sp,kn,stp,prod,top,Ap,rfl,hb,hs,ep,h2,hz,hk,kat,kl,knd,q⟩⟩:=h;refine⟨_,(@cO.h _ _ _ (aj (iD (w6 (zX (cA hr) (qv 1) (aY K (qv 0)))) (au (qB (cA hr) (aY K (qv 0)) (qv 1) (iV sL hr (qv 0) (af (qv 1) ai)) rfl)) aR)
  (au (aP (bQ (cA hr) (aY K (qv 0)) (qv 1)))))),?_⟩
 refine⟨λσ' H'=>σ'=[some (.ref bt),some (.int top)]/\(∀b o,H b=some o->b≠kn->H' b=some o)/\∃kvs' r,H' kn=some (.dK kvs')/\JT H' kvs' prod/\kvs'.length<=Ap.length+1/\(kvs'.map (·.1)).Nodup/\d7 kvs' (Sum.inl top)=some (.ref r)/\H' r=some (o6 (Jm.fr top prod)),?_,?_⟩
 .refine ⟨_,Z,_,Z,bt,T.bot,db,_,_,Z,hb,X.cB,X.Sb,Z,kn,_,Z,cS.k (k:=Sum.inl top) hk,_,Z,?_⟩;cases e:d7 Ap (Sum.inl top)with
  | some v=>refine cF ⟨Z,λb o e _=>e,Ap,?_⟩;obtain⟨t,r,e2,hr2⟩:=kat _ (Vh e);cases e2;exact⟨r,hk,kat,Nat.le_succ _,knd,e,hr2⟩
  | none=>
   refine mP ?_;refine⟨_,Z,bt,db,_,Z,hb,Z,_,Z,⟨⟨bt,db,sp,kn,stp,prod,top,Z,hb,hs,ep,h2,hz,λr H1 g1 hr1=>?_⟩⟩⟩;have sl:Ap.length<sizeLine:=by rw[eW];omega
   refine⟨_,Z,bt,T.bot,db,_,_,Z,g1 _ _ hb,X.cB,X.Sb,Z,_,Z,kn,_,Z,uc.k (k:=Sum.inl top) (g1 _ _ hk) sl,Z,λb o e hb=>by rw[av hb];exact g1 _ _ e,_,r,ah,?_,?_,Xq _ knd e,by rw[UM,aC rfl],by rw[av (iZ hr1 (g1 _ _ hk) (by intro z;cases z))];exact hr1⟩
   .rw [nK _ e];intro p hp;rcases fj.mp hp with z|z
    .obtain ⟨t,r',e2,hr2⟩:=kat p z;exact⟨t,r',e2,by rw[av (iZ (g1 _ _ hr2) (g1 _ _ hk) (by intro z;cases z))];exact g1 _ _ hr2⟩
    .rw [eL.mp z];exact⟨top,r,Z,by rw[av (iZ hr1 (g1 _ _ hk) (by intro z;cases z))];exact hr1⟩
   .rw [nK _ e,cV];exact aN _
 rintro σ' H' ⟨rfl,k1,kvs',r,e1,e2,e3,e4,e5,e6⟩;exact⟨_,Z,bt,T.bot,db,_,_,Z,k1 _ _ hb (iZ hb hk (by intro z;cases z)),X.cB,X.Sb,Z,_,Z,kn,_,Z,e5▸cS.k (k:=Sum.inl top) e1,q r H' kvs' k1 e1 e2 e3 e4 e6⟩
abbrev qK:Stmt:=inClass (top 24) 12
abbrev nG:Da Str:=["self","part"]
abbrev HL:Da Str:=nG.append ["tops"]
def xw:aK HL nG (ay qK):=dh
theorem FH{T:TC}(F:ji K T.hold "shares" "Hold.shares" qK f fd)(X:Txt K T)(qL:Mn P w K mg base 1 T.hold "part_of" j0 (JZ T))(qM:Mn P w K mg base 1 T.hold "tops_of" mF (N7 T))(qN:Mn P w K mg base 3 T.bot "share" mG (J1 T))(jL:mg "zip"=none):Mn P w K mg base 4 T.hold "shares" nG (GF T):=by
 refine F.oA xw λ_ _ _ _ H _ Q E hr h=>?_;obtain⟨⟨n,ρ,A,st,ip,pt,rfl,hh,ep,hkn,q⟩⟩:=h;obtain⟨qq,eq,k1,k2,k3,k4⟩:=hh.h.find ep;have lP:=bP ep;refine⟨_,(@cO.h _ _ _ (aj (aQ (i:=2) xw.nd (iV qM hr (qv 0) (af (iV qL hr (qv 0) (af (qv 1) ai)) ai)))
  (au (aP (KD (KG ["owner","top","self"] [none,none,some 0] rfl (tV K (by rfl) jL (af (aY K (qv 0)) (af (qv 2) ai))) (λ_ _ _ _=>(iO K (n:=2) rfl (cI (aL (i:=0) (show List.Nodup (["owner","top","self"] :Da Str)from by decide +kernel)) (cI (aL (i:=1) (show List.Nodup (["owner","top","self"] :Da Str)from by decide +kernel)) iN)))) (λ_ _ _ _=>(iC (af (qv 0) (af (iV qN hr (aY K (qv 2)) (af (qv 1) ai)) ai)))) (λ_ _ _ _=>(aT iH (qv 1) ak (aZ _))) rfl (by rfl))))))),?_⟩
 refine⟨_,Z,A.a,A.dx,_,Z,hh.h.oa,Z,_,Z,A.a,A.dx,_,Z,hh.h.oa,Z,_,Z,⟨⟨n,ρ,A,st,ip,pt,qq,Z,hh.h,hh.wf.o_,ep,eq,?_⟩⟩⟩;refine⟨⟨n,ρ,A,st,ip,pt,qq,Z,hh.h,hh.wf,ep,eq,λl H1 g1 hl hl1=>?_⟩⟩;have iJ:=hh.mono g1;have cl:ρ l=none:=hh.g.none hl;have tl:(cC st pt).length=st.own.length:=by unfold cC;rw[qi,hh.wf.rows pt lP,hh.wf.jD,Nat.min_self]
 have dR:=hh.wf.uq;refine⟨A.pl,_,iJ.h.i_,λob=>?_⟩;have hl2:upd H1 A.pl (.fF ob (.dK (fT 0 st.own))) l=some (.lst ((cC st pt).map V.int)):=fu iJ.h.i_ hl1 (λk z=>by cases z);refine⟨_,Z,A.a,T.hold,A.dx,_,_,Z,fu iJ.h.i_ iJ.h.oa (λk z=>by cases z),X.cH,X.hpl,Z,_,Z,_,_,_,_,_,_,Z,.keys ah,.lst (aA.of hl2),λBM Bn=>?_⟩;have vL:H1 BM=none:=nL iJ.h.i_ Bn;have ca:ρ BM=none:=iJ.g.none vL;have OL:BM≠A.pl:=λe=>by rw[e,ah]at Bn;cases Bn
 have nal:BM≠l:=λe=>by rw[e,hl1]at vL;cases vL
 refine XJ (K:=K) (n:=st.own.length) [0,1] (λi out Hc=>∃H5,Hc=upd H5 A.pl (.fF ob (.dK (fT 0 st.own)))/\Gh ρ H5/\Fr n ρ H ρ H5/\aV T n ρ A H5 { st with kn:=st.kn+i }/\H5 l=some (.lst ((cC st pt).map V.int))/\iS H5 out (((List.zip st.own (cC st pt)).take i).filterMap λx=>if 0<x.2 then some (x.1,Jm.fr x.2 st.prod) else none))
  (by decide) (by omega) ⟨upd H1 BM (.lst []),kD (cy OL),iJ.g.alloc vL,(Fr.of_same (ρ:=ρ) g1).trans (Fr.of_same (az vL _)),iJ.h.mono (az vL _),by rw[av (cy nal)];exact hl1,.nil⟩ ?_ ?_ ?_ ?_
 .rintro i out Hc hi ha ⟨H5,rfl,G5,F5,h5,l5,S5⟩;exact⟨ah,aA.of (fu h5.i_ l5 (λk z=>by cases z)),by rw[aF,tO];exact hi,by rw[aF,tl];exact hi⟩
 .rintro out Hc ha ⟨H5,rfl,G5,F5,h5,l5,S5⟩;exact⟨ah,aA.of (fu h5.i_ l5 (λk z=>by cases z)),.inr (by rw[aF,tl];exact aN _)⟩
 .rintro i x out Hc H2 hi FA ha ⟨H5,rfl,G5,F5,h5,l5,S5⟩ ⟨pp,x1,y1,hpp,rfl,rfl,e1,e2⟩;obtain⟨t,rfl,et⟩:=gO e2;rw[Cb,bF]at e1;obtain⟨o,eo,rfl⟩:=kT.mp e1;have npl:pp≠A.pl:=λe=>by rw[e,ah]at hpp;cases hpp
  have agp:H5 pp=none:=nL h5.i_ hpp;have ez:(List.zip st.own (cC st pt))[i]?=some (o,t):=by rw[List.getElem?_zip_eq_some];exact⟨eo,et⟩
  have g6:=az agp (.tup [.str o,.int t]);have e6:upd (upd H5 A.pl (.fF ob (.dK (fT 0 st.own)))) pp (.tup [.str o,.int t])=upd (upd H5 pp (.tup [.str o,.int t])) A.pl (.fF ob (.dK (fT 0 st.own))):=kD (cy npl);rw[e6];have G6:=G5.same g6;have F6:=F5.trans (Fr.of_same (ρ:=ρ) g6);have h6:=h5.mono g6;have l6:=g6 _ _ l5;have S6:=S5.mono g6.tups;have t6:upd H5 pp (.tup [.str o,.int t]) pp=some (.tup [.str o,.int t]):=ah;have BL:upd H5 pp (.tup [.str o,.int t]) BM=some (.lst out):=by rw[av OL]at ha;exact g6 _ _ ha
  generalize upd H5 pp (.tup [.str o,.int t])=H6 at *;have fz:∀{b:Addr}{u:HO},H6 b=some u->(∀k,u ≠ .dK k)->upd H6 A.pl (.fF ob (.dK (fT 0 st.own))) b=some u:=λe k=>fu h6.i_ e k;refine⟨pp,_,Z,cz.of (fz t6 (λk z=>by cases z)),Z,_,Z,_,_,Z,Z,_,Z,?_⟩;refine dJ (λc=>?_) (λc=>?_)
  .have c':0<t:=dI c;obtain⟨Ap,j1,j2,j3,j4⟩:=h6.okn;have WO:A.kn≠A.pl:=DE h6.jW h6.jG (by intro z;cases z);refine⟨_,Z,_,Z,A.a,T.hold,A.dx,_,_,Z,fz h6.oa (λk z=>by cases z),X.cH,X.DF,Z,A.bt,A.db,_,Z,fz h6.ou (λk z=>by cases z),Z,_,Z,
    ⟨⟨A.bt,A.db,A.sp,A.kn,st.stp,st.prod,t,Ap,Z,fz h6.ou (λk z=>by cases z),fz h6.s_ (λk z=>by cases z),hh.wf.xY,hh.wf.Ca,hh.wf.big,by rw[av WO];exact j1,(λp hp=>let⟨t,r,e,w⟩:=j2 p hp;⟨t,r,e,fz w (λk z=>by cases z)⟩),Jf j3 (by show st.kn+i<_;omega),j4,λr H7 kvs' b1 b2 b3 b4 b5 b6=>?_⟩⟩⟩
   have Le:H7 A.pl=some (.fF ob (.dK (fT 0 st.own))):=b1 _ _ ah (cy WO);refine⟨(gJ 2),λtt WQ=>?_⟩;have ntp:tt≠A.pl:=λe=>by rw[e,Le]at WQ;cases WQ
   have k8:∀b u,H6 b=some u->b≠A.kn->upd H7 A.pl (.dK (fT 0 st.own)) b=some u:=λb u e hb=>by
    by_cases z:b=A.pl
    .rw [z]at e ⊢;rw[show H6 A.pl=some (.dK (fT 0 st.own))from h6.i_]at e;cases e;exact ah
    .rw [av z];exact b1 _ _ (by rw[av z];exact e) hb
   have h8:=h6.Vi (m:=st.kn+i+1) k8 (by rw[av WO];exact b2) (λp hp=>let⟨t,r,e,w⟩:=b3 p hp;⟨t,r,e,iK (.inr ⟨_,Le,Z⟩) _ _ w⟩) (fL b4 (Nat.succ_le_succ j3)) b5;have G8:Gh ρ (upd H7 A.pl (.dK (fT 0 st.own))):=λb cc e=>by
    by_cases z:b=A.pl
    .rw [z];exact⟨_,ah,Z⟩
    by_cases z2:b=A.kn
    .rw [z2,av WO];exact⟨_,b2,Z⟩
    obtain⟨u,a1,a2⟩:=G6 b cc e;exact⟨u,k8 b u a1 z2,a2⟩
   have F8:Fr n ρ H6 ρ (upd H7 A.pl (.dK (fT 0 st.own))):=λb u e k=>⟨k8 b u e (λz=>k 9 ⟨#[]⟩ (by rw[z];exact h6.jW)),Z⟩
   have tp8:∀b xs,H6 b=some (.tup xs)->upd H7 A.pl (.dK (fT 0 st.own)) b=some (.tup xs):=λb xs e=>k8 b _ e (iZ e j1 (by intro z;cases z));have agq:upd H7 A.pl (.dK (fT 0 st.own)) tt=none:=by rw[av ntp];exact WQ
   have back:H7=upd (upd H7 A.pl (.dK (fT 0 st.own))) A.pl (.fF ob (.dK (fT 0 st.own))):=by rw[qm,x_ Le]
   have hr8:upd H7 A.pl (.dK (fT 0 st.own)) r=some (o6 (Jm.fr t st.prod)):=iK (.inr ⟨_,Le,Z⟩) _ _ b6;have l8:=k8 _ _ l6 (λz=>by rw[z,j1]at l6;cases l6);have Ld:=k8 _ _ BL (λz=>by rw[z,j1]at BL;cases BL);have S8:=S6.mono tp8;have F08:=F6.trans F8;rw[back]at WQ ⊢;generalize upd H7 A.pl (.dK (fT 0 st.own))=H8 at *;have g9:=az agq (.tup [.str o,.ref r]);rw[kD (cy ntp)];refine⟨by rw[av OL];exact g9 _ _ Ld,_,kD (cy OL),(G8.same g9).wr rfl,(F08.trans (Fr.of_same (ρ:=ρ) g9)).new (g1.free vL),?_,?_,?_⟩
   .exact (h8.mono g9).same (Sg ca (g9 _ _ Ld) rfl)
   .rw [av (cy nal)];exact g9 _ _ l8
   .rw [take_snoc ez,List.filterMap_append,yS];simp only[c',oS,List.filterMap_nil];exact((S8.mono g9.tups).snoc ah (g9 _ _ hr8)).mono (iK (.inr ⟨_,g9 _ _ Ld,Z⟩))
  .have c':¬ 0<t:=ko (jB.mpr c);refine⟨by rw[av OL];exact BL,H6,Z,G6,F6,?_,l6,?_⟩
   .obtain ⟨Ap,j1,j2,j3,j4⟩:=h6.okn;exact h6.Vi (m:=st.kn+i+1) (λb u e _=>e) j1 j2 (Nat.le_succ_of_le j3) j4
   .rw [take_snoc ez,List.filterMap_append,yS];simp only[c',lu,List.filterMap_nil,tG];exact S6
 .rintro out Hc FA ha ⟨H5,rfl,G5,F5,h5,l5,S5⟩;rw[yQ (by rw[List.length_zip,tl];omega)]at S5;refine⟨ah,?_⟩;rw[qm,x_ (show H5 A.pl=some (.dK (fT 0 st.own))from h5.i_)];rw[av OL]at ha;obtain⟨Ap,j1,j2,j3,j4⟩:=h5.okn;have h9:=h5.Vi (m:=st.kn+100) (λb u e _=>e) j1 j2 (fL j3 (by show st.kn+st.own.length<=st.kn+100;omega)) j4;exact q BM out ρ A H5 ⟨G5,h9,acX hh.wf hkn⟩ rfl F5 (g1.free vL) ha ca S5
abbrev qO:Stmt:=inClass (top 24) 17
abbrev nH:Da Str:=["self"]
abbrev HM:Da Str:=nH
def FI:aK HM nH (ay qO):=dh
theorem FJ{T:TC}(F:ji K T.hold "landed" "Hold.landed" qO f fd)(X:Txt K T)(dU:mg "list"=none):Mn P w K mg base 1 T.hold "landed" nH (J3 T):=by
 refine F.oA FI λ_ _ _ _ H _ Q E hr h=>?_;obtain⟨⟨n,ρ,A,st,rfl,hh,q⟩⟩:=h;obtain⟨ws,hw,hA⟩:=hh.h.vB;have hl:=hA.length;have hal:=hh.wf.zC;refine⟨_,(@cO.h _ _ _ (au (aP (e_ ["name","owner","worth","shares"] [none,none,none,none] rfl (c8 K (aY K (qv 0))) (λ_ _ _ _=>(iO K (n:=4) rfl (cI (aL (i:=0) (show List.Nodup (["name","owner","worth","shares"] :Da Str)from by decide +kernel)) (cI (aL (i:=1) (show List.Nodup (["name","owner","worth","shares"] :Da Str)from by decide +kernel)) (cI (aL (i:=2) (show List.Nodup (["name","owner","worth","shares"] :Da Str)from by decide +kernel)) (cI (aL (i:=3) (show List.Nodup (["name","owner","worth","shares"] :Da Str)from by decide +kernel)) iN)))))) (λ_ _ _ _=>(iC (af (qv 0) (af (qv 1) (af (qv 2) (af (oK (rX K) (by rfl) dU xA (af (qv 3) ai)) ai)))))) rfl (by rfl))))),?_⟩;refine⟨_,Z,A.a,T.hold,A.dx,_,_,Z,hh.h.oa,X.cH,X.has,Z,A.as,Z,⟨_,aA.of hw⟩,λBM Bn=>?_⟩;refine zu (K:=K) (n:=ws.length) [0,1,2,3] (λi out H1=>aG H H1/\kF BM ρ H1 out (st.lJ.take i)) (by decide) (by omega) ⟨az Bn _,.nil⟩ (λi out H1 hi _ hp=>⟨ws,_,aA.of (hp.1 _ _ hw),aS hi⟩) (λout H1 _ hp=>⟨ws,aA.of (hp.1 _ _ hw),aN _⟩) ?_ ?_
 .rintro i x out H1 H2 hi dR ha ⟨g,hL⟩ ⟨rfl,hy⟩;have ex:=hy ws (aA.of (g _ _ hw));obtain⟨r,l,y,ss,rfl,ey,a1,a2,a3,a4⟩:=hA.get ex;refine⟨r,_,Z,cz.of (g _ _ a1),Z,_,Z,_,Z,_,Z,_,Z,l,ss,Z,.inl (aA.of (g _ _ a2)),λl2 hl2=>⟨(gJ 4),λt ht=>?_⟩⟩;have g2:=az hl2 (.lst ss);have g3:=az ht (.tup [.str y.nm,.str y.ow,.int y.wo,.ref l2]);have hl3:upd H2 l2 (.lst ss) l2=some (.lst ss):=ah;have c2:ρ l2=none:=hh.g.none (g.free hl2);refine⟨(g2.trans g3) _ _ ha,((g.trans g2).trans g3).bM Bn _,?_⟩;rw[take_snoc ey];have n1:l2≠BM:=λe=>by rw[e,ha]at hl2;cases hl2
  exact((hL.mono (g2.trans g3)).snoc (x:=y) ah (g3 _ _ hl3) c2 n1 (a4.mono ((g.trans g2).trans g3).tups)).upd ((g2.trans g3) _ _ ha)
 rintro out H1 dR ha ⟨g,hL⟩;rw[hl,bN]at hL;exact q BM out H1 g Bn ha hL.to
abbrev uV:Stmt:=top 29
abbrev fU:Da Str:=["_law_script","_law_k","_law_j","_law_many"]
abbrev MG:Da Str:=fU.append ["_law_cell","_law_turn","_law_rest","_law_step","_law_one","_law_two"]
def fE:aK MG fU (ay uV):=dh
theorem Lf(F:At K mg "_law_draw" uV f fd)(aW:mg "len"=none)(a_:mg "range"=none):Dn P w K mg base 1 "_law_draw" fU (mY K):=by
 refine F.oA fE λ_ _ _ _ H _ Q E hr h=>?_;obtain⟨⟨a,ns,k,j,BT,rfl,hS,h63,hk,hj,hj2,hm,q⟩⟩:=h;refine⟨_,(@cO.h _ _ _ (aj (aQ (i:=4) fE.nd ak)
  (aj (aQ (i:=5) fE.nd ak)
  (aj (iD (aT iH (aE (bB K) (by rfl) aW cU (af (qv 0) ai)) ak (aZ _)) (aj (aQ (i:=4) fE.nd (aI (aO K) (qv 0) (aD jQ (qv 1) (aE (bB K) (by rfl) aW cU (af (qv 0) ai)))))
  (au (aQ (i:=5) fE.nd (aD gM (qv 1) (aE (bB K) (by rfl) aW cU (af (qv 0) ai)))))) aR)
  (aj (aQ (i:=6) fE.nd (qv 4))
  (aj (dG eU rfl (dP (by rfl) a_ (af (qv 2) ai)) (aL (i:=7) fE.nd) (au (aQ (i:=6) fE.nd (aD gM (qv 6) (aD mW ak ak)))))
  (aj (cE (ff (bW.pt (pD (aT i6 (qv 5) ak (aZ _)) (pD (aT IM (qv 4) (aD mW ak ak) (aZ _)) (oM (aT iH (qv 6) ak (aZ _))))))) (au (aP (aD jQ (aD jQ (qv 6) (aD mW ak ak)) (qv 3)))) aR)
  (aj (aQ (i:=8) fE.nd (aD jQ (aD bV (aD bV (aD bV (aD jg (qv 4) ak) (aD jg (qv 1) ak)) (aD jg (qv 2) ak)) ak) ak))
  (aj (aQ (i:=9) fE.nd (aD jQ (aD bV (aD jg (qv 8) ak) (aD gM (qv 4) ak)) ak))
  (aj (aQ (i:=9) fE.nd (aD jQ (aD bV (aD jg (qv 9) (aD bV (aD jQ (qv 8) ak) ak)) (qv 2)) ak))
  (au (aP (aD jQ (aD jQ (aD bV (aD bV (aD jg (qv 8) ak) (aD jg (qv 9) ak)) (aD gM (qv 9) ak)) ak) (qv 3)))))))))))))),?_⟩
 have hl:(ns.map V.int).length=ns.length:=aF _;refine⟨λσ H'=>H'=H/\σ=[some (.ref a),some (.int k),some (.int j),some (.int BT),some (.int (Jm.cellOf ns k)),some (.int (Jm.ze ns k)),none,none,none,none],?_,?_⟩
 .refine ⟨_,Z,a,_,Z,.inl hS,_,_,Z,Z,_,Z,?_⟩;refine dJ (λc=>?_) (λc=>?_)
  .have c':0<(((ns.map V.int).length:Nat):Int):=dI c;rw[hl]at c';have i0:0<=k % (ns.length:Int):=nj _ (by omega);have i1:k % (ns.length:Int)<(ns.length:Int):=xC _ c';refine⟨_,Z,_,Z,_,Z,a,_,Z,.inl hS,_,_,Z,Z,(by show(0:Int)<_;rw[hl];exact c'),a,_,_,.int (ns.getD (k % ns.length).toNat 0),Z,Z,hS,?_,?_⟩
   .rw [hl];exact Xv i0 i1
   refine⟨_,Z,_,Z,a,_,Z,.inl hS,_,_,Z,Z,UX (n:=10) (by rw[hl];exact c') (by rw[hl];omega) (by decide),Z,?_⟩;unfold Jm.cellOf Jm.ze;rw[aC c',aC c',hl];rfl
  .have c':¬ 0<(((ns.map V.int).length:Nat):Int):=ko (jB.mpr c);rw[hl]at c';refine⟨Z,?_⟩;unfold Jm.cellOf Jm.ze;rw[aB c',aB c'];rfl
 rintro σ H' ⟨rfl,rfl⟩;generalize ec:Jm.cellOf ns k=cell at *;generalize et:Jm.ze ns k=turn at *;refine⟨_,Z,_,Z,j,Z,by omega,hj2,?_⟩;refine fM (lo:=0) (n:=j.toNat) (λi σ uy=>uy=H'/\∃st:Option V,σ=[some (.ref a),some (.int k),some (.int j),some (.int BT),some (.int cell),some (.int turn),some (.int (Jm.Dk cell i)),st,none,none]) ⟨Z,none,Z⟩ ?_ ?_
 .rintro i σ uy hi ⟨rfl,st,rfl⟩;refine⟨_,Z,_,_,Z,Z,⟨by decide,by decide,by decide⟩,_,_,Z,Z,y_ (by decide +kernel),Z,?_⟩;exact⟨_,Z⟩
 rintro σ uy ⟨rfl,st,rfl⟩;have full:Q (.int (Jm.draw ns k j BT)) uy:=q;unfold Jm.draw at full;rw[ec,et]at full;generalize er:Jm.Dk cell j.toNat=Cl at *;refine⟨decide (turn=0/\1000000000000000000<=cell/\0<Cl),?_,?_⟩
 .refine ⟨_,Z,Z,_,Z,?_⟩;by_cases h1:turn=0
  .rw [cu (by rw[h1] :V.int turn=V.int 0)];refine mP ⟨_,Z,_,_,Z,Z,⟨by decide,by decide,by decide⟩,_,_,Z,Z,_,Z,?_⟩;by_cases h2:1000000000000000000<=cell
   .rw [cu (show(10:Int) ^ (18:Int).toNat<=cell from h2)];refine mP ⟨_,Z,_,_,Z,Z,_,Z,?_,Z⟩;by_cases h3:0<Cl
    .rw [cu h3,cu ⟨h1,h2,h3⟩]
    .rw [dz h3,dz λz=>h3 z.2.2]
   .rw [dz (show ¬ (10:Int) ^ (18:Int).toNat<=cell from h2)];exact cF ⟨(dz λz=>h2 z.2.1).symm,Z⟩
  .rw [dz (λz=>h1 (V.int.inj z))];exact cF ⟨(dz λz=>h1 z.1).symm,Z⟩
 by_cases h:turn=0/\1000000000000000000<=cell/\0<Cl
 .rw [cu h];rw[aC h]at full;refine mP ⟨_,Z,_,_,Z,Z,⟨by decide,by decide,by decide⟩,_,_,Z,Z,(by show(0:Int)<_;decide),_,Z,_,_,Z,Z,hm,?_⟩;exact full
 .rw [dz h];rw[aB h]at full;refine cF ?_;refine⟨_,Z,_,_,Z,Z,.inr ⟨by decide,by decide⟩,_,Z,_,_,Z,Z,.inr ⟨by decide,by decide⟩,_,_,Z,Z,_,Z,_,_,Z,Z,.inr ⟨by decide,by decide⟩,_,_,Z,Z,_,_,Z,Z,_,_,Z,Z,(by show(0:Int)<_;decide),?_⟩;refine⟨_,Z,_,_,Z,Z,.inr ⟨by decide,by decide⟩,_,Z,_,_,Z,Z,y_ (by decide +kernel),_,_,Z,Z,_,_,Z,Z,(by show(0:Int)<_;decide),?_⟩;unfold Jm.mixed at full;dsimp only at full ⊢;generalize e1:(cell*7919+k*104729+j*1299709+31) % 1000000007=one at *;generalize e2:(one*48271+cell / 1009) % 998244353=two at *;have b1:0<=one % 9973:=nj _ (by decide);have b2:one % 9973<9973:=xC _ (by decide);refine⟨_,Z,_,Z,_,_,Z,Z,(by show(0:Int)<_;decide),_,_,Z,Z,_,_,Z,Z,.inr ⟨by omega,by omega⟩,_,Z,_,_,Z,Z,_,_,Z,Z,(by show(0:Int)<_;decide),?_⟩;refine⟨_,Z,_,_,Z,Z,.inr ⟨by decide,by decide⟩,_,Z,_,_,Z,Z,.inr ⟨by decide,by decide⟩,_,_,Z,Z,_,Z,_,_,Z,Z,y_ (by decide +kernel),_,_,Z,Z,_,_,Z,Z,(by show(0:Int)<_;decide),_,Z,_,_,Z,Z,hm,?_⟩;exact full
abbrev uW:Stmt:=top 30
abbrev rj:Da Str:=["_law_code","_law_size"]
abbrev MH:Da Str:=rj.append ["_law_word","_law_at_here"]
def lQ:aK MH rj (ay uW):=dh
theorem Lg(F:At K mg "_law_name" uW f fd)(a_:mg "range"=none):Dn P w K mg base 1 "_law_name" rj EX:=by
 refine F.oA lQ λ_ _ _ _ H _ Q E hr h=>?_;obtain⟨⟨c,n,rfl,hc,hn,q⟩⟩:=h;refine⟨_,(@cO.h _ _ _ (aj (aQ (i:=2) lQ.nd bw)
  (aj (dG eU rfl (dP (by rfl) a_ (af (qv 1) ai)) (aL (i:=3) lQ.nd) (aj (aQ (i:=2) lQ.nd (aD C6 (qv 2) (aI RD bw (aD jQ (qv 0) ak))))
  (au (aQ (i:=0) lQ.nd (aD gM (qv 0) ak)))))
  (au (aP (qv 2)))))),?_⟩
 refine⟨_,Z,_,Z,by omega,by omega,?_⟩;refine fM (lo:=0) (n:=(n:Int).toNat) (λi σ H'=>H'=H/\∃(s1:Option V),σ=[some (.int (c / 26 ^ i)),some (.int n),some (.str (tx (lz c i))),s1]) ⟨Z,none,by rw[Int.pow_zero,Au];rfl⟩ ?_ ?_
 .rintro i σ H' hi ⟨rfl,s1,rfl⟩;have hp:(0:Int)<26 ^ i:=Int.pow_pos (by decide);have hd0:0<=c / 26 ^ i:=IE hc (xM hp);have hm0:0<=c / 26 ^ i % 26:=nj _ (by decide);have hm1:c / 26 ^ i % 26<26:=xC _ (by decide);refine⟨_,Z,_,Z,_,_,Z,Z,(by show(0:Int)<26;decide),_,_,_,Z,Z,(by decide +kernel),RZ hm0 hm1,?_⟩;refine⟨_,_,Z,Z,?_,?_⟩
  .rw [j_,xT];show i+1<=sizeLine;exact CW (fq (by omega))
  refine⟨_,Z,_,_,Z,Z,ud (by decide) (rL (by decide +kernel)),Z,some (.int ((0:Int)+(i:Int))),?_⟩;have e1:c / 26 ^ i / 26=c / 26 ^ (i+1):=by rw[Int.ediv_ediv_of_nonneg (xM hp),Int.pow_succ]
  have e2:(tx (lz c i)++tx [97+(c / 26 ^ i % 26).toNat] :Str)=tx (lz c (i+1)):=by rw[RX,U6]
  rw[<-e1,<-e2];rfl
 rintro σ H' ⟨rfl,s1,rfl⟩;refine⟨_,Z,?_⟩;rw[vR];exact q
abbrev sM:Stmt:=top 31
abbrev pR:Da Str:=["_law_script","_law_k","_law_many"]
abbrev Lh:Da Str:=pR.append ["_law_alike","_law_size","_law_first","_law_shift","_law_at_here","_law_names_here","_law_code"]
def dw:aK Lh pR (ay sM):=dh
theorem HN(F:At K mg "_law_names" sM f fd)(aU:Dn P w K mg base 1 "_law_draw" fU (mY K))(rm:Dn P w K mg base 1 "_law_name" rj EX)(a_:mg "range"=none):Dn P w K mg base 2 "_law_names" pR (EZ K):=by
 refine F.oA dw λ_ _ _ _ H _ Q E hr h=>?_;obtain⟨⟨a,ms,k,BT,rfl,hS,h63,hk,hm,q⟩⟩:=h;refine⟨_,(@cO.h _ _ _ (aj (aQ (i:=3) dw.nd (AU i6 (bu aU hr (af (qv 0) (af (qv 1) (af ak (af ak ai))))) ak (aZ _)))
  (aj (aQ (i:=4) dw.nd (aD bV ak (bu aU hr (af (qv 0) (af (qv 1) (af ak (af ak ai)))))))
  (aj (aQ (i:=5) dw.nd (bu aU hr (af (qv 0) (af (qv 1) (af ak (af (aD mW ak ak) ai))))))
  (aj (aQ (i:=6) dw.nd ak)
  (aj (iD (dF (qv 3)) (au (dG eU rfl (dP (by rfl) a_ (af (bu aU hr (af (qv 0) (af (qv 1) (af ak (af (qv 4) ai))))) ai)) (aL (i:=7) dw.nd) (au (aQ (i:=6) dw.nd (aD jg (qv 6) ak))))) aR)
  (aj (aQ (i:=8) dw.nd (d_ ai))
  (aj (dG eU rfl (dP (by rfl) a_ (af (qv 2) ai)) (aL (i:=7) dw.nd) (aj (aQ (i:=9) dw.nd (aD bV (qv 5) (aD jg (qv 6) (bu aU hr (af (qv 0) (af (qv 1) (af (aD bV ak (aD jg ak (qv 7))) (af ak ai))))))))
  (aj (iD (dS (dF (qv 3))) (aj (aQ (i:=4) dw.nd (aD bV ak (bu aU hr (af (qv 0) (af (qv 1) (af (aD bV ak (aD jg ak (qv 7))) (af ak ai)))))))
  (au (aQ (i:=9) dw.nd (bu aU hr (af (qv 0) (af (qv 1) (af (aD bV ak (aD jg ak (qv 7))) (af (aD mW ak ak) ai)))))))) aR)
  (aj (Cp eU (aT RG (bu rm hr (af (qv 9) (af (qv 4) ai))) (qv 8) (by with_unfolding_all rfl)) (au (aQ (i:=9) dw.nd (aD bV (qv 9) (qv 6)))))
  (au (dN (nv rR tW tX f_ (qv 8) (af (bu rm hr (af (qv 9) (af (qv 4) ai))) ai))))))))
  (au (aP (qv 8))))))))))),?_⟩
 have P10:Pn 10 10:=⟨by decide,by decide,by decide +kernel⟩
 refine⟨_,Z,_,Z,dm hS h63 hk (by decide) (by decide) (by decide) λal _ _ _=>⟨Z,?_⟩⟩;refine⟨_,Z,_,Z,dm hS h63 hk (by decide) (by decide) (by decide) λsd _ s0 s1=>⟨_,_,Z,Z,?_⟩⟩;refine⟨_,Z,_,Z,_,_,Z,Z,P10,dm hS h63 hk (by decide) (by decide) (by decide +kernel) λfc _ f0 f1=>?_⟩;generalize hal:decide (V.int al=V.int 0)=alike;obtain⟨n0,en0⟩:∃n:Nat,1+sd=(n:Int):=⟨(1+sd).toNat,by omega⟩
 refine⟨λσ H'=>H'=H/\∃(d:Nat)(s7:Option V),(alike=true->d<n0)/\(alike=false->d=0)/\d<8/\σ=[some (.ref a),some (.int k),some (.int BT),some (.bl alike),some (.int (1+sd)),some (.int fc),some (.int ((26:Int) ^ d)),s7,none,none],?_,?_⟩
 .refine ⟨_,Z,_,Z,dJ (λc=>?_) (λc=>?_)⟩
  .refine ⟨_,Z,_,Z,_,Z,dm hS h63 hk (by decide) (by decide) (by omega) λdd _ d0 d1=>⟨dd,Z,by omega,by omega,?_⟩⟩;refine fM (lo:=0) (n:=dd.toNat) (λi σ H'=>H'=H/\∃s7:Option V,σ=[some (.ref a),some (.int k),some (.int BT),some (.bl alike),some (.int (1+sd)),some (.int fc),some (.int ((26:Int) ^ i)),s7,none,none]) ⟨Z,none,Z⟩ ?_ ?_
   .rintro i σ H' hi ⟨rfl,s7,rfl⟩;refine⟨_,Z,_,_,Z,Z,.inr ⟨by decide,by decide⟩,Z,some (.int ((0:Int)+(i:Int))),?_⟩;rw[Int.pow_succ];rfl
   .rintro σ H' ⟨rfl,s7,rfl⟩;exact⟨Z,dd.toNat,s7,λ_=>by omega,λz=>absurd c (by rw[z];exact fQ),by omega,Z⟩
  .exact ⟨Z,0,none,λz=>absurd z c,λ_=>rfl,by decide,Z⟩
 rintro σ H' ⟨rfl,d,s7,hd1,hd2,hd8,rfl⟩;refine⟨(gJ 0),λpn DS=>?_⟩;have g0:=az DS (.lst []);refine⟨_,Z,(BT:Int),Z,by omega,by omega,?_⟩;refine fM (lo:=0) (n:=(BT:Int).toNat) (λi σ H2=>aG H' H2/\∃(nss:Da (Da Nat))(n:Nat)(s1 s2:Option V),d<n/\n<=8/\σ=[some (.ref a),some (.int k),some (.int BT),some (.bl alike),some (.int (n:Int)),some (.int fc),some (.int ((26:Int) ^ d)),s1,some (.ref pn),s2]/\H2 pn=some (.lst (ug nss))/\nss.length=i/\nss.Nodup/\∀x∈nss,o8 x)
  ⟨g0,[],n0,s7,none,?_,by omega,by rw[<-en0];rfl,ah,Z,qQ,λ_ m=>nomatch m⟩ ?_ ?_
 .cases alike with
  | true=>exact hd1 rfl
  | false=>rw[hd2 rfl];omega
 .rintro i σ H2 hi ⟨g,nss,n,s1,s2,hdn,OM,rfl,hn,hnl,hnd,hok⟩;have hsl:(ug nss).length=i:=by unfold ug;rw[aF];exact hnl
  have hSg:=g.seq hS;have hp:(0:Int)<26 ^ d:=Int.pow_pos (by decide);have Tw:(26:Int) ^ d<2 ^ 64:=by rcases(by omega:d=0\/d=1\/d=2\/d=3\/d=4\/d=5\/d=6\/d=7)with e|e|e|e|e|e|e|e <;> (rw[e];decide +kernel)
  refine⟨_,Z,_,Z,_,Z,_,Z,_,Z,_,_,Z,Z,.inl ⟨by decide,by decide⟩,_,_,Z,Z,dm hSg h63 hk (by omega) (by omega) (by decide) λcd _ c0 c1=>⟨_,_,Z,Z,.inl ⟨by omega,Tw⟩,_,_,Z,Z,?_⟩⟩;have hcode:0<=fc+26 ^ d*cd:=Int.add_nonneg f0 (nq (xM hp) c0);refine⟨λσ H3=>H3=H2/\∃(n:Nat)(c:Int),0<=c/\d<n/\n<=8/\σ=[some (.ref a),some (.int k),some (.int BT),some (.bl alike),some (.int (n:Int)),some (.int fc),some (.int ((26:Int) ^ d)),some (.int ((0:Int)+(i:Int))),some (.ref pn),some (.int c)],?_,?_⟩
  .refine ⟨_,Z,_,Z,?_⟩;cases hb:alike with
   | true=>exact cF ⟨Z,n,_,hcode,hdn,OM,Z⟩
   | false=>refine mP ?_;have hd0:=hd2 hb;refine⟨_,Z,_,Z,_,Z,_,_,Z,Z,.inl ⟨by decide,by decide⟩,_,_,Z,Z,dm hSg h63 hk (by omega) (by omega) (by decide) λzd _ z0 z1=>⟨_,_,Z,Z,?_⟩⟩;refine⟨_,Z,_,Z,_,Z,_,_,Z,Z,.inl ⟨by decide,by decide⟩,_,_,Z,Z,_,_,Z,Z,P10,dm hSg h63 hk (by omega) (by omega) (by decide +kernel) λcd2 _ e0 _=>?_⟩;refine⟨Z,(1+zd).toNat,cd2,e0,by omega,by omega,?_⟩;rw[show(((1+zd).toNat:Nat):Int)=1+zd from by omega];rfl
  clear hdn OM hcode;rintro σ H3 ⟨rfl,n,vM,cc0,hdn,OM,rfl⟩;refine⟨λm σ H4=>H4=H3/\∃t:Nat,m=nss.length+1-t/\t<=nss.length/\σ=[some (.ref a),some (.int k),some (.int BT),some (.bl alike),some (.int (n:Int)),some (.int fc),some (.int ((26:Int) ^ d)),some (.int ((0:Int)+(i:Int))),some (.ref pn),some (.int (vM+(t:Int)*26 ^ d))]/\∀j:Nat,j<t->lz (vM+(j:Int)*26 ^ d) n∈nss,
   ⟨_,Z,0,Z,eV _,by rw[show vM+((0:Nat):Int)*26 ^ d=vM from by simp],λj hj=>absurd hj (Nat.not_lt_zero _)⟩,?_⟩
  rintro m σ H4 ⟨rfl,t,rfl,ht,rfl,htr⟩;have hct:0<=vM+(t:Int)*26 ^ d:=Int.add_nonneg cc0 (nq (by omega) (xM hp));refine⟨_,Z,_,Z,JN rfl hct (by omega) ?_⟩;refine⟨_,Z,pn,_,Z,.inl (aA.of hn),Z,U9 nss,?_⟩;show Ro _ (V.bl (if false=true then !NQ (.str (tx (lz (vM+(t:Int)*26 ^ d) n))) (ug nss) else NQ (.str (tx (lz (vM+(t:Int)*26 ^ d) n))) (ug nss))) _;rw[aB fQ,XE];refine⟨_,Z,dJ (λc=>?_) (λc=>?_)⟩
  .have hmem:lz (vM+(t:Int)*26 ^ d) n∈nss:=dI c;have abx:∀j:Nat,j<t+1->lz (vM+(j:Int)*26 ^ d) n∈nss:=λj hj=>by
    rcases Nat.lt_succ_iff_lt_or_eq.mp hj with z|z
    .exact htr j z
    .rw [z];exact hmem
   have hle:=R3 (c:=vM) (n:=n) (t:=t+1) hdn (by omega) abx;refine⟨_,λ_ _ z=>z,?_⟩;refine⟨_,Z,_,Z,_,_,Z,Z,?_⟩;refine⟨_,(by omega:nss.length+1-(t+1)<nss.length+1-t),Z,t+1,Z,hle,?_,abx⟩;rw[show vM+((t+1:Nat):Int)*26 ^ d=vM+(t:Int)*26 ^ d+26 ^ d from by rw[Int.natCast_add,Aw];show _+(_+1*_)=_;rw[Int.one_mul,Int.add_assoc]];rfl
  .have hnm:lz (vM+(t:Int)*26 ^ d) n∉nss:=ko (jB.mpr c);refine⟨_,Z,.inl ⟨Z,_,aA.of hn⟩,?_⟩;refine⟨_,Z,_,Z,JN rfl hct (by omega) ?_⟩;refine⟨pn,ug nss,_,Z,Z,hn,fq (by omega),g.bM DS _,nss++[lz (vM+(t:Int)*26 ^ d) n],n,_,_,hdn,OM,Z,?_,?_,oh hnd hnm,λx hx=>?_⟩
   .rw [ah];unfold ug;rw[br];rfl
   .rw [cV,hnl];rfl
   .rcases fj.mp hx with z|z
    .exact hok x z
    .rw [eL.mp z];exact Z2 _ (by omega) OM
 rintro σ H2 ⟨g,nss,n,s1,s2,hdn,OM,rfl,hn,hnl,hnd,hok⟩;exact⟨_,Z,q pn nss H2 g hn DS (by omega) hnd hok⟩
abbrev uX:Stmt:=top 44
abbrev rB:Da Str:=["_law_script","_law_k","_law_j"]
abbrev MI:Da Str:=rB.append ["_law_size"]
def Aa:aK MI rB (ay uX):=dh
theorem Li(F:At K mg "_law_much" uX f fd)(aU:Dn P w K mg base 1 "_law_draw" fU (mY K)):Dn P w K mg base 2 "_law_much" rB (JL K):=by
 refine F.oA Aa λ_ _ _ _ H _ Q E hr h=>?_;obtain⟨⟨a,ns,k,j,rfl,hS,h63,hk,hj,hj2,q⟩⟩:=h;refine⟨_,(@cO.h _ _ _ (aj (aQ (i:=3) Aa.nd (aI (aO K) (d_ (af ak (af ak (af ak (af (aD mW ak ak) ai))))) (bu aU hr (af (qv 0) (af (qv 1) (af (qv 2) (af ak ai)))))))
  (au (aP (aD bV ak (bu aU hr (af (qv 0) (af (qv 1) (af (aD bV (qv 2) ak) (af (qv 3) ai)))))))))),?_⟩
 refine⟨_,_,Z,Z,⟨by decide,by decide,by decide⟩,(gJ 4),λp1 hp1=>?_⟩;have g1:=az hp1 (.lst [V.int 9,V.int 40,V.int 1000,V.int (10 ^ (9:Int).toNat)]);refine⟨_,Z,_,Z,_,Z,dm (g1.seq hS) h63 hk hj (by omega) (by decide) λd _ d0 d1=>?_⟩;obtain⟨B,hB,hB0,hB1⟩:∃B:Int,nZ [V.int 9,V.int 40,V.int 1000,V.int (10 ^ (9:Int).toNat)] d=some (.int B)/\0<B/\B<=1000000000:=by
  rcases(by omega:d=0\/d=1\/d=2\/d=3)with e|e|e|e
  .exact ⟨9,by rw[e];rfl,by decide,by decide⟩
  .exact ⟨40,by rw[e];rfl,by decide,by decide⟩
  .exact ⟨1000,by rw[e];rfl,by decide,by decide⟩
  .exact ⟨10 ^ (9:Int).toNat,by rw[e];rfl,by decide,by decide⟩
 refine⟨p1,_,_,_,Z,Z,aA.of ah,hB,?_⟩;refine⟨_,Z,_,Z,_,Z,_,_,Z,Z,_,Z,dm (g1.seq hS) h63 hk (by omega) (by omega) hB0 λe _ e0 e1=>⟨_,_,Z,Z,?_⟩⟩;exact q (1+e) _ (by omega) (by omega) g1
abbrev wk:Stmt:=top 48
abbrev kK:Da Str:=["_law_found"]
abbrev QC:Da Str:=kK
def MJ:aK QC kK (ay wk):=dh
def MK(F:At K mg "_law_int" wk f fd)(aM:mg "isinstance"=none)(QD:mg "int"=none)(Lj:mg "bool"=none):Dn P w K mg base 1 "_law_int" kK Dl:=by refine F.oA MJ λ_ _ _ _ H _ Q E hr h=>?_;obtain⟨i,rfl,q⟩:=h;refine⟨_,(@cO.h _ _ _ (au (aP (KJ (aE (cX K) (by rfl) aM jO (af (qv 0) (af (jq PyProof.Rows.boot_int rfl QD) ai))) (KC (aaZ (aE (cX K) (by rfl) aM jO (af (qv 0) (af (jq PyProof.Rows.boot_bool rfl Lj) ai))))))))),?_⟩;refine⟨_,Z,_,_,_,_,Z,fX.int i,fY,_,Z,mP ?_⟩;refine⟨_,Z,_,_,_,_,Z,fX.int i,JE,_,Z,?_⟩;exact q
abbrev sN:Stmt:=top 50
abbrev lR:Da Str:=["_law_top","_law_bottom"]
abbrev Lk:Da Str:=lR.append ["_law_one","_law_other"]
def nI:aK Lk lR (ay sN):=dh
theorem HP(F:At K mg "_law_least" sN f fd)(QE:mg "abs"=none):Dn P w K mg base 1 "_law_least" lR AJ:=by
 refine F.oA nI λ_ _ _ _ H _ Q E hr h=>?_;obtain⟨⟨t,b,rfl,hb,hb2,q⟩⟩:=h;refine⟨_,(@cO.h _ _ _ (aj (aQ (i:=2) nI.nd (aE Uy (by rfl) QE PyProof.Rows.boot_abs (af (qv 0) ai)))
  (aj (aQ (i:=3) nI.nd (qv 1))
  (aj (Cp eU (aT qS (qv 3) ak (aZ _)) (au (Tg (i:=2) (j:=3) rfl nI.nd rfl rfl (by decide) rfl rfl (af (qv 3) (af (aD jQ (qv 2) (qv 3)) ai)) (by rfl))))
  (au (aP (iC (af (aD gM (qv 0) (qv 2)) (af (aD gM (qv 1) (qv 2)) ai))))))))),?_⟩
 refine⟨_,Z,_,Z,_,Z,?_⟩;refine⟨λm σ H'=>∃x y:Int,m=y.toNat/\σ=[some (.int t),some (.int b),some (.int x),some (.int y)]/\H'=H/\0<=x/\0<=y/\Jm.cf x y=Jm.cf b t,
  ⟨_,(if t<0 then -t else t),b,Z,Z,Z,(by split <;> omega),xM hb,(by rw[Jm.NT,Jm.ZN])⟩,?_⟩
 rintro m σ H' ⟨x,y,rfl,rfl,rfl,hx,hy,e⟩;refine⟨_,Z,Z,_,Z,dJ (λc=>?_) (λc=>?_)⟩
 .have c1:¬ V.int y=V.int 0:=ko (by simpa using c);have c':0<y:=by have:y≠0:=λz=>c1 (by rw[z]);omega
  refine⟨_,λ_ _ z=>z,?_⟩;refine⟨_,Z,_,Z,_,Z,_,_,Z,Z,c',_,_,Z,?_⟩;have h1:0<=x % y:=nj _ (by omega);have h2:x % y<y:=xC _ c';exact⟨_,(by omega:(x % y).toNat<y.toNat),y,x % y,Z,Z,Z,hy,h1,(Jm.EV x y c').trans e⟩
 .have c1:V.int y=V.int 0:=by simpa using c
  have ey:y=0:=V.int.inj c1;subst ey;rw[Jm.NS x hx]at e;subst e;have g0:0<Jm.cf b t:=Jm.Dj _ _ (.inl hb);have g1:Jm.Sz 9000 (Jm.cf b t):=hb2.dvd hb (xM g0) (Jm.qU b t);have gd:∀i,AG i (Jm.cf b t):=λi=>ud g0 g1;refine⟨_,Z,_,Z,_,_,Z,Z,gd _,_,Z,_,Z,_,_,Z,Z,gd _,(gJ 2),λp hp=>?_⟩;refine q p _ (az hp _) ?_;rw[ah];show some (HO.tup [V.int (t / Jm.cf b t),V.int (b / Jm.cf b t)])=some (HO.tup [V.int (Jm.fr t b).num,V.int ((Jm.fr t b).den:Int)]);rw[Jm.RM t b hb,Jm.JF t b hb]
abbrev yl:Stmt:=top 51
abbrev vN:Da Str:=["_law_found","_law_top","_law_bottom"]
abbrev TL:Da Str:=vN
def QF:aK TL vN (ay yl):=dh
def QG(F:At K mg "_law_is" yl f fd)(eZ:Dn P w K mg base 1 "_law_int" kK Dl)(j7:Dn P w K mg base 1 "_law_least" lR AJ)(aM:mg "isinstance"=none)(gQ:mg "tuple"=none)(aW:mg "len"=none):Dn P w K mg base 2 "_law_is" vN U0:=by
 refine F.oA QF λ_ _ _ _ H _ Q E hr h=>?_
 obtain⟨⟨p,q,t,b,rfl,hp,h0,h1,e,hq⟩⟩:=h
 refine⟨_,(@cO.h _ _ _ (aj (cE (ff (bW.pt (jr (dS (dF (aE (cX K) (by rfl) aM jO (af (qv 0) (af (jq Jc rfl gQ) ai))))) (iW (aT qS (aE (bB K) (by rfl) aW cU (af (qv 0) ai)) ak (aZ _)))))) (au (aP eY)) aR)
  (aj (cE (ff (bW.pt (jr (dS (dF (bu eZ hr (af (aI (bY K) (qv 0) ak) ai)))) (iW (dS (dF (bu eZ hr (af (aI (bY K) (qv 0) ak) ai)))))))) (au (aP eY)) aR)
  (au (aP (AU (Xw K hr.units) (qv 0) (bu j7 hr (af (qv 1) (af (qv 2) ai))) (aZ _))))))),?_⟩
 refine⟨false,?_,cF ?_⟩
 . refine⟨_,Z,_,_,_,_,Z,fX.tup hp,fY,_,Z,cF ?_⟩
   exact⟨_,Z,_,_,Z,.inr (cz.of hp),Z,_,Z,Z,Z⟩
 refine⟨false,?_,cF ?_⟩
 . refine⟨_,Z,p,_,_,_,Z,Z,cz.of hp,Z,_,Z,_,Z,cF ?_⟩
   exact⟨_,Z,p,_,_,_,Z,Z,cz.of hp,Z,_,Z,_,Z,Z,Z⟩
 refine⟨_,Z,_,Z,_,Z,Gx h0 h1 λr H1 g1 hr1=>?_⟩
 rw[<-e]at hr1
 refine⟨_,_,RU (g1 _ _ hp),RU hr1,Bp _ _,Bp _ _,?_⟩
 rw[UZ]
 exact hq H1 g1
abbrev mS:Stmt:=top 49
abbrev kL:Da Str:=["_law_found","_law_parts"]
abbrev CG:Da Str:=kL.append ["_law_at_here","_law_one"]
def mT:aK CG kL (ay mS):=dh
theorem A0(F:At K mg "_law_part_list" mS f fd)(eZ:Dn P w K mg base 1 "_law_int" kK Dl)(aM:mg "isinstance"=none)(dU:mg "list"=none)(gQ:mg "tuple"=none)(lF:mg "str"=none)(a_:mg "range"=none)(aW:mg "len"=none):Dn P w K mg base 2 "_law_part_list" kL (DI K):=by
 refine F.oA mT λ_ _ _ _ H _ Q E hr h=>?_;obtain⟨⟨r,l,ws,us,ps,rfl,hr0,hP,hl,hR,hN,hle,q⟩⟩:=h;refine⟨_,(@cO.h _ _ _ (aj (cE (ff (bW.pt (jr (dS (dF (aE (cX K) (by rfl) aM jO (af (qv 0) (af (jq xA rfl dU) ai))))) (iW (aT qS (aE (bB K) (by rfl) aW cU (af (qv 0) ai)) (aE (bB K) (by rfl) aW cU (af (qv 1) ai)) (aZ _)))))) (au (aP eY)) aR)
  (aj (dG eU rfl (dP (by rfl) a_ (af (aE (bB K) (by rfl) aW cU (af (qv 1) ai)) ai)) (aL (i:=2) mT.nd) (aj (aQ (i:=3) mT.nd (aI (aO K) (qv 0) (qv 2)))
  (aj (cE (ff (bW.pt (jr (dS (dF (aE (cX K) (by rfl) aM jO (af (qv 3) (af (jq Jc rfl gQ) ai))))) (iW (aT qS (aE (bB K) (by rfl) aW cU (af (qv 3) ai)) ak (aZ _)))))) (au (aP eY)) aR)
  (aj (cE (ff (bW.pt (jr (dS (dF (aE (cX K) (by rfl) aM jO (af (aI (bY K) (qv 3) ak) (af (jq EF rfl lF) ai))))) (iW (dS (dF (aE (cX K) (by rfl) aM jO (af (aI (bY K) (qv 3) ak) (af (jq EF rfl lF) ai))))))))) (au (aP eY)) aR)
  (aj (cE (ff (bW.pt (jr (dS (dF (bu eZ hr (af (aI (bY K) (qv 3) ak) ai)))) (iW (dS (dF (bu eZ hr (af (aI (bY K) (qv 3) ak) ai)))))))) (au (aP eY)) aR)
  (au (cE (aT (wR K hr.units) (qv 3) (iC (af (aI (oF K) (aI (aO K) (qv 1) (qv 2)) ak) (af (aI (oF K) (aI (aO K) (qv 1) (qv 2)) ak) (af (aI (oF K) (aI (aO K) (qv 1) (qv 2)) ak) (af (aI (oF K) (aI (aO K) (qv 1) (qv 2)) ak) ai))))) (aZ _)) (au (aP eY)) aR)))))))
  (au (aP eY))))),?_⟩
 have hwl:=hP.length;have KY:=hR.len;refine⟨false,?_,cF ?_⟩
 .refine ⟨_,Z,_,_,_,_,Z,fX.lst hr0,fY,_,Z,cF ?_⟩;refine⟨_,Z,_,_,Z,.inl (aA.of hr0),_,Z,_,_,Z,.inl hl,Z,_,Z,?_,Z⟩;show(!decide (V.int (ws.length:Int)=V.int (us.length:Int)))=false;rw[cu (by rw[hwl,KY])];rfl
 refine⟨_,Z,l,us,Z,.inl hl,_,Z,by omega,by omega,?_⟩;refine fM (lo:=0) (n:=((us.length:Nat):Int).toNat) (λi σ H'=>aG H H'/\∃(s1 s2:Option V),σ=[some (.ref r),some (.ref l),s1,s2]) ⟨aG.refl _,none,none,Z⟩ ?_ ?_
 .rintro i σ H' hi ⟨g,s1,s2,rfl⟩;have e0:(0:Int)+(i:Int)=((i:Nat):Int):=by omega
  rw[e0];have hi':i<ps.length:=by omega
  have ep:=aS hi';obtain⟨t,et,ht⟩:=hP.get ep;obtain⟨u,xs,eu,hu,x0,x1,x2,x3⟩:=(hR.mono g).at_ i _ ep;have ht':=g _ _ ht;obtain⟨n1,n2⟩:=hN _ (vo hi');have hr1:=g _ _ hr0;have hl1:=g.seq hl;refine⟨_,Z,_,Z,r,ws,i,.ref t,Z,Z,aA.of hr1,iu et,?_⟩;refine⟨false,⟨_,Z,_,_,_,_,Z,fX.tup ht',fY,_,Z,cF ⟨_,Z,_,_,Z,.inr (cz.of ht'),Z,_,Z,Z,Z⟩⟩,cF ?_⟩;refine⟨false,⟨_,Z,t,_,_,_,Z,Z,cz.of ht',Z,_,_,_,_,Z,fX.str _,fY,_,Z,cF ⟨_,Z,t,_,_,_,Z,Z,cz.of ht',Z,_,_,_,_,Z,fX.str _,fY,_,Z,Z,Z⟩⟩,cF ?_⟩;refine⟨false,⟨_,Z,t,_,_,_,Z,Z,cz.of ht',Z,_,Z,_,Z,cF ⟨_,Z,t,_,_,_,Z,Z,cz.of ht',Z,_,Z,_,Z,Z,Z⟩⟩,cF ?_⟩;refine⟨_,Z,_,Z,_,Z,l,us,i,.ref u,Z,Z,hl1,iu eu,hu.ix (i:=0) x0 ?_⟩;refine⟨_,Z,_,Z,l,us,i,.ref u,Z,Z,hl1,iu eu,hu.ix (i:=1) x1 ?_⟩;refine⟨_,Z,_,Z,l,us,i,.ref u,Z,Z,hl1,iu eu,hu.ix (i:=2) x2 ?_⟩;refine⟨_,Z,_,Z,l,us,i,.ref u,Z,Z,hl1,iu eu,hu.ix (i:=3) x3 ?_⟩;refine⟨(gJ 4),λp1 hp1=>?_⟩;have g1:=az hp1 (AN ps[i]);refine⟨_,_,Oa (g1 _ _ ht'),Oa (p:=ps[i]) ah,Bu n1 n2,Bu n1 n2,_,Z,?_⟩;rw[Vj];exact cF ⟨g.trans g1,_,_,Z⟩
 rintro σ H' ⟨g,s1,s2,rfl⟩;exact q H' g
abbrev lS:Stmt:=top 52
abbrev iE:Da Str:=["_law_found","_law_owners","_law_tops","_law_bottom"]
abbrev A4:Da Str:=iE.append ["_law_due_here","_law_at_here","_law_pair"]
def jw:aK A4 iE (ay lS):=dh
theorem Ab(F:At K mg "_law_share_list" lS f fd)(j7:Dn P w K mg base 1 "_law_least" lR AJ)(Ac:Dn P w K mg base 2 "_law_is" vN U0)(aM:mg "isinstance"=none)(dU:mg "list"=none)(gQ:mg "tuple"=none)(lF:mg "str"=none)(a_:mg "range"=none)(aW:mg "len"=none):Dn P w K mg base 3 "_law_share_list" iE (Cs K):=by
 refine F.oA jw λ_ _ _ _ H _ Q E hr h=>?_;obtain⟨⟨r,lo,lt,ws,own,tops,b,rfl,hr0,hS,ho,ht,hlen,hle,b0,bz,q⟩⟩:=h;refine⟨_,(@cO.h _ _ _ (aj (VI (i:=4) ["_law_at_here","_law_tops","_law_owners","_law_bottom"] [none,some 2,some 1,some 3] jw.nd rfl rfl rfl (dP (by rfl) a_ (af (aE (bB K) (by rfl) aW cU (af (qv 2) ai)) ai)) (λ_ _ _ _=>(aL (i:=0) (show List.Nodup (["_law_at_here","_law_tops","_law_owners","_law_bottom"] :Da Str)from by decide +kernel))) (λ_ _ _ _=>(iC (af (aI (aO K) (qv 2) (qv 0)) (af (bu j7 hr (af (aI (aO K) (qv 1) (qv 0)) (af (qv 3) ai))) ai)))) (λ_ _ _ _=>(aT iH (aI (aO K) (qv 1) (qv 0)) ak (aZ _))) rfl (by rfl) (by rfl))
  (aj (cE (ff (bW.pt (jr (dS (dF (aE (cX K) (by rfl) aM jO (af (qv 0) (af (jq xA rfl dU) ai))))) (iW (aT qS (aE (bB K) (by rfl) aW cU (af (qv 0) ai)) (aE (bB K) (by rfl) aW cU (af (qv 4) ai)) (aZ _)))))) (au (aP eY)) aR)
  (aj (dG eU rfl (dP (by rfl) a_ (af (aE (bB K) (by rfl) aW cU (af (qv 4) ai)) ai)) (aL (i:=5) jw.nd) (aj (aQ (i:=6) jw.nd (aI (aO K) (qv 0) (qv 5)))
  (aj (cE (ff (bW.pt (jr (dS (dF (aE (cX K) (by rfl) aM jO (af (qv 6) (af (jq Jc rfl gQ) ai))))) (jr (aT qS (aE (bB K) (by rfl) aW cU (af (qv 6) ai)) ak (aZ _)) (iW (aT qS (aI (bY K) (qv 6) ak) (aI (bY K) (aI (aO K) (qv 4) (qv 5)) ak) (aZ _))))))) (au (aP eY)) aR)
  (au (cE (bW.pt (jr (dS (dF (aE (cX K) (by rfl) aM jO (af (aI (bY K) (qv 6) ak) (af (jq EF rfl lF) ai))))) (iW (dS (dF (bu Ac hr (af (aI (bY K) (qv 6) ak) (af (aI (bY K) (aI (bY K) (aI (aO K) (qv 4) (qv 5)) ak) ak) (af (aI (bY K) (aI (bY K) (aI (aO K) (qv 4) (qv 5)) ak) ak) ai))))))))) (au (aP eY)) aR)))))
  (au (aP eY)))))),?_⟩
 have tml:(tops.map V.int).length=tops.length:=aF ..;have oml:(own.map V.str).length=own.length:=aF ..;refine⟨_,Z,lt,_,Z,.inl ht,_,Z,by omega,by omega,λBM Bn=>?_⟩;refine NX (J:=Gj 0 _) (n:=tops.length) 0 (λi out H1=>aG H H1/\iS H1 out (dB (own.take i) (tops.take i) b)) (by omega) ⟨az Bn _,.nil⟩ (λi out H1 hi _ _=>by show i<((tops.map V.int).length:Int).toNat;omega) (λout H1 _ _=>by show((tops.map V.int).length:Int).toNat<=tops.length;omega) ?_ ?_
 .rintro i x out H1 H2 hi dR ha ⟨g,S⟩ ⟨rfl,rfl⟩;have e0:(0:Int)+(i:Int)=((i:Nat):Int):=by omega
  rw[e0];have et:=aS hi;have eo:=aS (show i<own.length from by omega);have et':(tops.map V.int)[i]?=some (.int tops[i]):=by rw[bF,et];rfl
  have eo':(own.map V.str)[i]?=some (.str own[i]):=by rw[bF,eo];rfl
  have WR:dB (own.take (i+1)) (tops.take (i+1)) b=dB (own.take i) (tops.take i) b++(if 0<tops[i] then[(own[i],Jm.fr tops[i] b)] else[]):=by
   unfold dB;rw[take_snoc eo,take_snoc et,List.zip_append (by rw[kr,kr];omega),List.filterMap_append];congr 1;show List.filterMap _ [(own[i],tops[i])]=_;rw[yS];by_cases c:0<tops[i]
   .simp [c]
   .simp [c]
  refine⟨_,Z,_,Z,lt,_,i,_,Z,Z,g.seq ht,iu et',_,_,Z,Z,_,Z,dJ (λc=>?_) (λc=>?_)⟩
  .have c':0<tops[i] :=dI c;rw[aC c']at WR;refine⟨_,Z,_,Z,lo,_,i,_,Z,Z,g.seq ho,iu eo',_,Z,_,Z,lt,_,i,_,Z,Z,g.seq ht,iu et',_,Z,Gx b0 bz λp2 H3 g3 hp2=>⟨(gJ 2),λp3 hp3=>?_⟩⟩;have g4:=az hp3 (.tup [.str own[i],.ref p2]);have uY:=g3.trans g4;refine⟨uY _ _ ha,(g.trans uY).bM Bn _,?_⟩;rw[WR];exact((S.mono uY.tups).snoc ah (g4 _ _ hp2)).mono (iK (.inr ⟨_,uY _ _ ha,Z⟩))
  .have c':¬ 0<tops[i] :=ko (jB.mpr c);rw[aB c',tG]at WR;exact⟨ha,g,by rw[WR];exact S⟩
 rintro du H1 dR ha ⟨g1,D1⟩;rw[bN,VL]at D1;have hr1:=g1 _ _ hr0;have BN:=hS.mono g1.tups;have l1:=BN.length;have l2:=D1.length;have l3:(dB own tops b).length<=1000:=by unfold dB;refine fL (List.length_filterMap_le _ _) ?_;rw[List.length_zip];omega
 have agr:∀x q,(x,q)∈dB own tops b->Jm.Sz 9000 (q.den:Int):=λx q m=>Hr b0 bz m;generalize dB own tops b=sh at *;refine⟨false,?_,cF ?_⟩
 .refine ⟨_,Z,_,_,_,_,Z,fX.lst hr1,fY,_,Z,cF ?_⟩;refine⟨_,Z,_,_,Z,.inl (aA.of hr1),_,Z,_,_,Z,.inl (aA.of ha),Z,_,Z,?_,Z⟩;show(!decide (V.int (ws.length:Int)=V.int (du.length:Int)))=false;rw[cu (by rw[l1,l2])];rfl
 refine⟨_,Z,BM,du,Z,.inl (aA.of ha),_,Z,by omega,by omega,?_⟩;refine fM (lo:=0) (n:=((du.length:Nat):Int).toNat) (λi σ H'=>aG H1 H'/\∃(s1 s2:Option V),σ=[some (.ref r),some (.ref lo),some (.ref lt),some (.int b),some (.ref BM),s1,s2]) ⟨aG.refl _,none,none,Z⟩ ?_ ?_
 .rintro i σ H' hi ⟨g,s1,s2,rfl⟩;have e0:(0:Int)+(i:Int)=((i:Nat):Int):=by omega
  rw[e0];have hi':i<sh.length:=by omega
  obtain⟨xq,exq⟩:∃xq,sh[i]?=some xq:=⟨_,aS hi'⟩
  obtain⟨x,qq⟩:=xq;obtain⟨r1,f1,a1,a2,a3⟩:=BN.get exq;obtain⟨r2,f2,b1,b2,b3⟩:=D1.get exq;have a2':=g _ _ a2;have a3':=g _ _ a3;have b2':=g _ _ b2;have b3':=g _ _ b3;have QH:=g _ _ ha;refine⟨_,Z,_,Z,r,ws,i,.ref r1,Z,Z,aA.of (g _ _ hr1),iu a1,?_⟩;refine⟨false,⟨_,Z,_,_,_,_,Z,fX.tup a2',fY,_,Z,cF ⟨_,Z,_,_,Z,.inr (cz.of a2'),Z,_,Z,cF ?_⟩⟩,cF ?_⟩
  .refine ⟨_,Z,r1,_,_,_,Z,Z,cz.of a2',Z,_,Z,_,Z,BM,du,i,.ref r2,Z,Z,aA.of QH,iu b1,r2,_,_,_,Z,Z,cz.of b2',Z,Z,_,Z,?_,Z⟩;show(!decide (V.str x=V.str x))=false;rw[cu rfl];rfl
  refine⟨_,Z,r1,_,_,_,Z,Z,cz.of a2',Z,_,_,_,_,Z,fX.str _,fY,_,Z,cF ?_⟩;refine⟨_,Z,r1,_,_,_,Z,Z,cz.of a2',Z,?_⟩;refine⟨_,Z,_,Z,BM,du,i,.ref r2,Z,Z,aA.of QH,iu b1,r2,_,_,_,Z,Z,cz.of b2',Z,f2,_,_,_,Z,Z,cz.of b3',Z,?_⟩;refine⟨_,Z,_,Z,BM,du,i,.ref r2,Z,Z,aA.of QH,iu b1,r2,_,_,_,Z,Z,cz.of b2',Z,f2,_,_,_,Z,Z,cz.of b3',Z,?_⟩;exact ZX a3' (Jm.den_pos _) (agr _ _ (bP exq)) (Jm.Xr _).symm λH3 g3=>⟨_,Z,cF ⟨g.trans g3,_,_,Z⟩⟩
 rintro σ H' ⟨g,s1,s2,rfl⟩;exact q H' (g1.trans g)
abbrev sO:Stmt:=top 41
abbrev pS:Da Str:=["_law_owners"]
abbrev Ll:Da Str:=pS
def HQ:aK Ll pS (ay sO):=dh
def HR(F:At K mg "_law_model" sO f fd)(dU:mg "list"=none):Dn P w K mg base 1 "_law_model" pS (Ol K):=by
 refine F.oA HQ λ_ _ _ _ H _ Q E hr h=>?_;obtain⟨⟨l,own,n,ρ,rfl,hl,G,hle,q⟩⟩:=h;refine⟨_,(@cO.h _ _ _ (au (aP (Ys (uK bw (oK (rX K) (by rfl) dU xA (af (qv 0) ai)) (uK bw (d_ ai) (uK bw ak (uK bw (d_ ai) (uK bw (d_ ai) Yr))))) (by rfl) (by rfl) (λz=>nomatch z) (by with_unfolding_all decide))))),?_⟩;intro m hm;have g0:=az hm (.dK []);have em0:upd H m (.dK []) m=some (.dK []):=ah;have kj:=g0.seq hl;generalize upd H m (.dK [])=H0 at *;refine⟨_,Z,l,_,Z,.inl kj,λlo hlo=>?_⟩;have g1:=az hlo (.lst (own.map V.str));have ON:upd H0 lo (.lst (own.map V.str)) lo=some (.lst (own.map V.str)):=ah;have Hg:=g1 _ _ em0;generalize upd H0 lo (.lst (own.map V.str))=H1 at *;refine⟨(gJ 0),λlp xm=>?_⟩;have g2:=az xm (.lst []);have ep2:upd H1 lp (.lst []) lp=some (.lst []):=ah;have eo2:=g2 _ _ ON;have em2:=g2 _ _ Hg;show yZ _ _ (upd H1 lp (.lst [])) _;generalize upd H1 lp (.lst [])=H2 at *;refine⟨(gJ 0),λla hla=>?_⟩;have g3:=az hla (.lst []);have WS:upd H2 la (.lst []) la=some (.lst []):=ah;have ep3:=g3 _ _ ep2;have eo3:=g3 _ _ eo2;have em3:=g3 _ _ em2;show yZ _ _ (upd H2 la (.lst [])) _;generalize upd H2 la (.lst [])=H3 at *;refine⟨(gJ 0),λlk hlk=>?_⟩;have g4:=az hlk (.lst []);have ek4:upd H3 lk (.lst []) lk=some (.lst []):=ah;have TM:=g4 _ _ WS;have ep4:=g4 _ _ ep3;have eo4:=g4 _ _ eo3;have TN:=g4 _ _ em3;show upd H3 lk (.lst []) m=_/\_;generalize upd H3 lk (.lst [])=H4 at *;have gA:=((g0.trans g1).trans g2).trans (g3.trans g4);have n1:lo≠m:=λe=>by rw[e,em0]at hlo;cases hlo
 have n2:lp≠m:=λe=>by rw[e,Hg]at xm;cases xm
 have n3:lp≠lo:=λe=>by rw[e,ON]at xm;cases xm
 have n4:la≠m:=λe=>by rw[e,em2]at hla;cases hla
 have n5:la≠lo:=λe=>by rw[e,eo2]at hla;cases hla
 have n6:la≠lp:=λe=>by rw[e,ep2]at hla;cases hla
 have n7:lk≠m:=λe=>by rw[e,em3]at hlk;cases hlk
 have n8:lk≠lo:=λe=>by rw[e,eo3]at hlk;cases hlk
 have n9:lk≠lp:=λe=>by rw[e,ep3]at hlk;cases hlk
 have nA:lk≠la:=λe=>by rw[e,WS]at hlk;cases hlk
 refine⟨TN,[(Sum.inr "owners",.ref lo),(Sum.inr "parts",.ref lp),(Sum.inr "bottom",.int 1),(Sum.inr "ashore",.ref la),(Sum.inr "known",.ref lk)],Z,by show 5<=15;decide,?_⟩;have eK:wO [] [(Sum.inr "owners",.ref lo),(Sum.inr "parts",.ref lp),(Sum.inr "bottom",.int 1),(Sum.inr "ashore",.ref la),(Sum.inr "known",.ref lk)]=fG ⟨m,lo,lp,la,lk,[]⟩ 1:=rfl;rw[eK];have u1:upd H4 m (.dK (fG ⟨m,lo,lp,la,lk,[]⟩ 1)) m=some (.dK (fG ⟨m,lo,lp,la,lk,[]⟩ 1)):=ah;have u2:upd H4 m (.dK (fG ⟨m,lo,lp,la,lk,[]⟩ 1)) lo=some (.lst (own.map V.str)):=by rw[av n1];exact eo4
 have u3:upd H4 m (.dK (fG ⟨m,lo,lp,la,lk,[]⟩ 1)) lp=some (.lst []):=by rw[av n2];exact ep4
 have u4:upd H4 m (.dK (fG ⟨m,lo,lp,la,lk,[]⟩ 1)) la=some (.lst []):=by rw[av n4];exact TM
 have u5:upd H4 m (.dK (fG ⟨m,lo,lp,la,lk,[]⟩ 1)) lk=some (.lst []):=by rw[av n7];exact ek4
 have G4:=(G.same gA).wr (a:=m) (o:=.dK (fG ⟨m,lo,lp,la,lk,[]⟩ 1)) rfl;have hz:∀b o,H b=some o->upd H4 m (.dK (fG ⟨m,lo,lp,la,lk,[]⟩ 1)) b=some o:=λb o e=>by rw[av (λz=>by rw[z,hm]at e;cases e)];exact gA _ _ e
 have y1:H lo=none:=g0.free hlo;have y2:H lp=none:=(g0.trans g1).free xm;have y3:H la=none:=((g0.trans g1).trans g2).free hla;have y4:H lk=none:=(((g0.trans g1).trans g2).trans g3).free hlk;generalize upd H4 m (.dK (fG ⟨m,lo,lp,la,lk,[]⟩ 1))=H5 at *;refine q (cL (cL (cL (cL (cL ρ m (n,20,⟨#[]⟩)) lo (n,21,⟨#[]⟩)) lp (n,22,⟨#[]⟩)) la (n,25,⟨#[]⟩)) lk (n,26,⟨#[]⟩)) ⟨m,lo,lp,la,lk,[]⟩ H5 (((((G4.color u1 rfl).color u2 rfl).color u3 rfl).color u4 rfl).color u5 rfl) ⟨u1,?_,u2,?_,u3,?_,⟨[],u4,.nil⟩,?_,u5,dX,Z,λi p q e=>by simp at e⟩ (λb o e=>⟨hz b o e,?_⟩)
 .show cL _ lk _ m=_;rw[bZ (cy n7),bZ (cy n4),bZ (cy n2),bZ (cy n1),dX]
 .show cL _ lk _ lo=_;rw[bZ (cy n8),bZ (cy n5),bZ (cy n3),dX]
 .show cL _ lk _ lp=_;rw[bZ (cy n9),bZ (cy n6),dX]
 .show cL _ lk _ la=_;rw[bZ (cy nA),dX]
 .rw [bZ (aH e y4),bZ (aH e y3),bZ (aH e y2),bZ (aH e y1),bZ (aH e hm)]
abbrev uZ:Stmt:=top 45
abbrev rC:Da Str:=["_law_owners","_law_name_here"]
abbrev ML:Da Str:=rC.append ["_law_at_here"]
def Ad:aK ML rC (ay uZ):=dh
theorem Lm(F:At K mg "_law_seat" uZ f fd)(aW:mg "len"=none)(a_:mg "range"=none):Dn P w K mg base 1 "_law_seat" rC (SA K):=by
 refine F.oA Ad λ_ _ _ _ H _ Q E hr h=>?_;obtain⟨⟨l,own,o,rfl,hl,ho,hle,q⟩⟩:=h;refine⟨_,(@cO.h _ _ _ (aj (dG eU rfl (dP (by rfl) a_ (af (aE (bB K) (by rfl) aW cU (af (qv 0) ai)) ai)) (aL (i:=2) Ad.nd) (au (cE (aT i6 (aI (aO K) (qv 0) (qv 2)) (qv 1) (aZ _)) (au (aP (qv 2))) aR)))
  (au (aP (AS wL ak))))),?_⟩
 have ll:(own.map V.str).length=own.length:=aF _;refine⟨_,Z,l,_,Z,.inl hl,_,Z,by omega,by omega,?_⟩;refine fM (lo:=0) (n:=(((own.map V.str).length:Nat):Int).toNat) (λi σ H'=>H'=H/\o∉own.take i/\∃s2,σ=[some (.ref l),some (.str o),s2]) ⟨Z,by simp,_,Z⟩ ?_ ?_
 .rintro i σ H' hi ⟨rfl,hn,s2,rfl⟩;have e0:(0:Int)+(i:Int)=((i:Nat):Int):=by omega
  rw[e0];have hio:i<own.length:=by omega
  have ei:=aS hio;refine⟨_,Z,_,Z,l,_,_,_,Z,Z,hl,aX (by rw[bF,ei];rfl),_,Z,Z,_,Z,dJ (λc=>?_) (λc=>?_)⟩
  .have c':own[i]=o:=V.str.inj (dI c);refine⟨_,Z,?_⟩;have:own.idxOf o=i:=by
    have h1:own.idxOf o<=i:=by
     rcases Nat.lt_or_ge i (own.idxOf o)with z|z
     .exact absurd c' (by simpa using List.not_of_lt_findIdx z)
     .exact z
    rcases Nat.lt_or_ge (own.idxOf o) i with z|z
    .exact absurd (bP (i:=own.idxOf o) (by rw[List.getElem?_take,aC z];exact GO ho)) hn
    .omega
   rw[<-this];exact q
  .refine ⟨Z,λm=>?_,_,Z⟩;rw[take_snoc ei]at m;rcases fj.mp m with z|z
   .exact hn z
   .exact c (cu (by rw[eL.mp z]))
 rintro σ H' ⟨rfl,hn,s2,rfl⟩;rw[show(((own.map V.str).length:Nat):Int).toNat=own.length from by omega,bN]at hn;exact absurd ho hn
abbrev nV:Stmt:=top 46
abbrev lG:Da Str:=["_law_model_here","_law_name_here","_law_owner","_law_worth","_law_weight"]
abbrev Ef:Da Str:=lG.append ["_law_tops"]
def u0:aK Ef lG (ay nV):=dh
theorem CH(F:At K mg "_law_new_part" nV f fd)(wm:Dn P w K mg base 1 "_law_seat" rC (SA K)):Dn P w K mg base 2 "_law_new_part" lG GP:=by
 refine F.oA u0 λ_ _ _ _ H _ Q E hr h=>?_;obtain⟨⟨n,ρ,B,b,x,o,wo,we,rfl,G,h,ho,dR,hpl,hkl,q⟩⟩:=h;refine⟨_,(@cO.h _ _ _ (aj (oJ (i:=5) ["_law_one"] [none] u0.nd rfl rfl rfl (c8 K (bQ (cA hr) (qv 0) bw)) (λ_ _ _ _=>(aL (i:=0) (show List.Nodup (["_law_one"] :Da Str)from by decide +kernel))) (λ_ _ _ _=>ak) rfl (by rfl) (by rfl))
  (aj (xg (bQ (cA hr) (qv 0) bw) (xj (qv 5) (bu wm hr (af (bQ (cA hr) (qv 0) bw) (af (qv 2) ai))) set_list))
  (aj (dN (nv rR tW tX f_ (bQ (cA hr) (qv 0) bw) (af (d_ (af (qv 1) (af (qv 2) (af (qv 3) (af (qv 4) (af (qv 5) ai)))))) ai)))
  (au (dN (nv rR tW tX f_ (bQ (cA hr) (qv 0) bw) (af (qv 1) ai)))))))),?_⟩
 refine⟨_,Z,B.m,_,Z,cS.k (k:=Sum.inr "owners") h.om,B.lo,Z,⟨_,aA.of h.oo⟩,λl0 kj=>?_⟩;have FA:(b.own.map V.str).length=b.own.length:=aF _;refine fR (J:=sY K B.lo) (n:=(b.own.map V.str).length) 0 (λi o H'=>aG H H'/\o=(List.replicate i (0:Int)).map V.int) (by omega) ⟨az kj _,Z⟩ (λi o H' hi _ hp=>⟨_,_,aA.of (hp.1 _ _ h.oo),aS hi⟩) (λo H' _ hp=>⟨_,aA.of (hp.1 _ _ h.oo),aN _⟩) ?_ ?_
 .rintro i y o H2 H3 hi dR ha ⟨g,e⟩ ⟨rfl,hy⟩;refine⟨ha,g.bM kj _,?_⟩;subst e;rw[List.replicate_succ',br];rfl
 rintro o1 H1 _ ha ⟨g1,e⟩;subst e;rw[FA]at ha;have h1:=h.mono g1;have il:b.own.idxOf o<b.own.length:=List.idxOf_lt_length_of_mem ho;have rl:((List.replicate b.own.length (0:Int)).map V.int).length=b.own.length:=by rw[aF,mK]
 refine⟨_,Z,B.m,_,Z,cS.k (k:=Sum.inr "bottom") h1.om,_,Z,_,Z,B.m,_,Z,cS.k (k:=Sum.inr "owners") h1.om,_,Z,⟨⟨B.lo,b.own,o,Z,aA.of h1.oo,ho,dR,?_⟩⟩⟩;refine⟨l0,_,_,_,Z,Z,ha,by rw[rl];exact AK il,?_⟩;rw[<-xN];have g2:=g1.bM kj (.lst (((List.replicate b.own.length (0:Int)).set (b.own.idxOf o) b.bot).map V.int));have ha2:upd H1 l0 (.lst (((List.replicate b.own.length (0:Int)).set (b.own.idxOf o) b.bot).map V.int)) l0=some (.lst (((List.replicate b.own.length (0:Int)).set (b.own.idxOf o) b.bot).map V.int)):=ah;show yV _ _ _ _ (upd H1 l0 (.lst (((List.replicate b.own.length (0:Int)).set (b.own.idxOf o) b.bot).map V.int)));generalize upd H1 l0 (.lst (((List.replicate b.own.length (0:Int)).set (b.own.idxOf o) b.bot).map V.int))=H2 at *;have h2:=h.mono g2;refine⟨_,Z,B.m,_,Z,cS.k (k:=Sum.inr "parts") h2.om,.inl ⟨Z,_,aA.of h2.op⟩,_,Z,_,Z,_,Z,_,Z,_,Z,(gJ 5),λp hp=>?_⟩;have g3:=az hp (oG ⟨x,o,wo,we,(List.replicate b.own.length (0:Int)).set (b.own.idxOf o) b.bot⟩ l0);have hp3:upd H2 p (oG ⟨x,o,wo,we,(List.replicate b.own.length (0:Int)).set (b.own.idxOf o) b.bot⟩ l0) p=some (oG ⟨x,o,wo,we,(List.replicate b.own.length (0:Int)).set (b.own.idxOf o) b.bot⟩ l0):=ah;show oW _ (upd H2 p (oG ⟨x,o,wo,we,(List.replicate b.own.length (0:Int)).set (b.own.idxOf o) b.bot⟩ l0)) _;generalize upd H2 p (oG ⟨x,o,wo,we,(List.replicate b.own.length (0:Int)).set (b.own.idxOf o) b.bot⟩ l0)=H3 at *;have DS:H p=none:=g2.free hp;have g23:=g2.trans g3;have cl0:ρ l0=none:=G.none kj;have np:p≠l0:=λe=>by rw[e,ha2]at hp;cases hp
 have cp:cL ρ l0 (n,24,x) p=none:=by rw[bZ np];exact G.none DS
 have h3:bf n (cL (cL ρ l0 (n,24,x)) p (n,23,x)) B H3 b:=((h.mono g23).col cl0).col cp;have G3:Gh (cL (cL ρ l0 (n,24,x)) p (n,23,x)) H3:=((G.same g23).color (g3 _ _ ha2) rfl).color hp3 rfl;have F3:Fr n ρ H (cL (cL ρ l0 (n,24,x)) p (n,23,x)) H3:=((Fr.of_same g23).yb kj).yb DS;have c1:cL (cL ρ l0 (n,24,x)) p (n,23,x) p=some (n,23,x):=dX;have c2:cL (cL ρ l0 (n,24,x)) p (n,23,x) l0=some (n,24,x):=by rw[bZ (cy np),dX]
 have TH:=g3 _ _ ha2;refine⟨B.lp,_,_,Z,Z,h3.op,by rw[aF,h.ql];exact fq hpl,?_⟩;rw[show B.qs.map (λq=>V.ref q.1)++[V.ref p]=(B.qs++[(p,l0)]).map (λq=>V.ref q.1)from by rw[br];rfl];have h4:=h3.aay G3 (p:=⟨x,o,wo,we,(List.replicate b.own.length (0:Int)).set (b.own.idxOf o) b.bot⟩) (q:=(p,l0)) hp3 TH c1 c2;have G4:=G3.wr (a:=B.lp) (o:=.lst ((B.qs++[(p,l0)]).map λq=>V.ref q.1)) rfl;have F4:=F3.trans (Fr.write (o:=.lst ((B.qs++[(p,l0)]).map λq=>V.ref q.1)) h3.cp);generalize upd H3 B.lp (.lst ((B.qs++[(p,l0)]).map λq=>V.ref q.1))=H4 at *;refine⟨_,Z,B.m,_,Z,cS.k (k:=Sum.inr "known") h4.om,.inl ⟨Z,_,aA.of h4.ok⟩,_,Z,B.lk,_,_,Z,Z,h4.ok,by rw[aF];exact fq hkl,?_⟩;rw[show b.fJ.map V.str++[V.str x]=(b.fJ++[x]).map V.str from by rw[br];rfl];exact q _ _ _ (G4.wr rfl) (h4.X5 G4 (b.fJ++[x])) rfl (F4.trans (Fr.write h4.ck))
abbrev kW:Stmt:=top 53
abbrev jx:Da Str:=["_law_hold","_law_model_here"]
abbrev Ae:Da Str:=jx.append ["_law_whole","_law_part"]
def kX:aK Ae jx (ay kW):=dh
theorem yJ{T:TC}(F:At K mg "_law_tells_parts" kW f fd)(eZ:Dn P w K mg base 1 "_law_int" kK Dl)(nW:Dn P w K mg base 2 "_law_part_list" kL (DI K))(gC:Dn P w K mg base 3 "_law_share_list" iE (Cs K))(u6:Mn P w K mg base 1 T.hold "parts" pK (N9 T))(j6:Mn P w K mg base 1 T.hold "whole" lO (E7 T))(sP:Mn P w K mg base 4 T.hold "shares" nG (GF T))(fH:mg "sum"=none):Dn P w K mg base 5 "_law_tells_parts" jx (qw 1 T K):=by
 refine F.oA kX λ_ _ _ _ H _ Q E hr h=>?_
 obtain⟨⟨n,m,ρ,A,B,st,b,c,rfl,nm,hh,hb,gd,hc,Ln,hkn,q⟩⟩:=h
 refine⟨_,(@cO.h _ _ _ (aj (aQ (i:=2) kX.nd (w_ j6 hr (qv 0)))
  (aj (cE (bW.pt (jr (dS (dF (bu eZ hr (af (qv 2) ai)))) (iW (aT qS (qv 2) (aE (jh K rfl) (by rfl) fH t8 (af (e_ ["_law_part"] [none] rfl (c8 K (bQ (cA hr) (qv 1) bw)) (λ_ _ _ _=>(aL (i:=0) (show List.Nodup (["_law_part"] :Da Str)from by decide +kernel))) (λ_ _ _ _=>(aI (aO K) (qv 0) ak)) rfl (by rfl)) ai)) (aZ _))))) (au (aP eY)) aR)
  (aj (cE (dS (dF (bu nW hr (af (w_ u6 hr (qv 0)) (af (bQ (cA hr) (qv 1) bw) ai))))) (au (aP eY)) aR)
  (aj (dG eU rfl (c8 K (bQ (cA hr) (qv 1) bw)) (aL (i:=3) kX.nd) (au (cE (dS (dF (bu gC hr (af (iV sP hr (qv 0) (af (aI (aO K) (qv 3) ak) ai)) (af (bQ (cA hr) (qv 1) bw) (af (aI (aO K) (qv 3) ak) (af (bQ (cA hr) (qv 1) bw) ai))))))) (au (aP eY)) aR)))
  (au (aP eY))))))),?_⟩
 have pl:=gd.pl
 have rl:=gd.rel.len
 have wl:=gd.rel.whole
 refine⟨_,Z,A.a,A.dx,_,Z,hh.h.oa,Z,⟨⟨n,ρ,A,st,Z,hh.h,by omega,λH1 g1=>?_⟩⟩⟩
 have iJ:=hh.mono g1
 have hb1:=hb.mono g1
 have TQ:=hb1.op
 have nh:(B.qs.map λq=>V.ref q.1).length=b.ao.length:=by rw[aF];exact hb.ql
 refine⟨_,Z,_,Z,_,Z,cF ?_⟩
 refine⟨_,Z,_,Z,B.m,_,Z,cS.k (k:=Sum.inr "parts") hb1.om,B.lp,Z,⟨_,aA.of TQ⟩,λac hac=>?_⟩
 refine fR (J:=sY K B.lp) (n:=b.ao.length) 0 (λi o H'=>aG H1 H'/\o=((b.ao.take i).map (λp:BP=>p.wo)).map V.int) (by omega) ⟨az hac _,Z⟩ (λi o H' hi _ hp=>⟨_,_,aA.of (hp.1 _ _ TQ),aS (by rw[nh];exact hi)⟩) (λo H' _ hp=>⟨_,aA.of (hp.1 _ _ TQ),by rw[nh];exact aN _⟩) ?_ ?_
 . rintro j y o H2 H3 hj dR ha ⟨g,e⟩ ⟨rfl,hy⟩
   have ej:=aS hj
   obtain⟨qq,eq,k1,k2,_,_⟩:=hb1.find ej
   have ey:=hy _ (aA.of (g _ _ TQ))
   rw[bF,eq]at ey
   cases ey
   refine⟨_,Z,qq.1,_,_,_,Z,Z,aA.of (g _ _ k1),aX (j:=2) rfl,ha,g.bM hac _,?_⟩
   subst e
   rw[take_snoc ej,br,br]
   rfl
 rintro o H2 _ ha ⟨g2,e⟩
 rw[bN]at e
 subst e
 refine⟨ac,b.ao.map (λp:BP=>p.wo),Z,aA.of ha,Z,_,Z,?_⟩
 have ew:bh st=(b.ao.map (λp:BP=>p.wo)).sum:=wl
 rw[show(!decide (V.int (bh st)=V.int (b.ao.map (λp:BP=>p.wo)).sum))=false from by rw[cu (by rw[ew])];rfl]
 refine cF ?_
 have ng:=iJ.mono g2
 have hb2:=hb1.mono g2
 refine⟨_,Z,A.a,A.dx,_,Z,ng.h.oa,Z,⟨⟨n,ρ,A,st,Z,ng.h,by omega,λr ws H3 g3 hr hw3 hP3=>?_⟩⟩⟩
 have Eg:=hb2.mono g3
 refine⟨_,Z,B.m,_,Z,cS.k (k:=Sum.inr "parts") Eg.om,⟨⟨r,B.lp,ws,_,st.ao,Z,hw3,hP3,aA.of Eg.op,gd.rel.rows Eg,gd.nms,by omega,λH4 g4=>⟨_,Z,cF ?_⟩⟩⟩⟩
 have qh:=(ng.mono g3).mono g4
 have Af:=Eg.mono g4
 have o4:aG (out ρ H) (out ρ H4):=kC (((g1.trans g2).trans g3).trans g4)
 clear iJ hb1 ng hb2 Eg hw3 hP3 ha hac hr g1 g2 g3 g4 TQ
 refine⟨_,Z,B.m,_,Z,cS.k (k:=Sum.inr "parts") Af.om,B.lp,Z,⟨_,aA.of Af.op⟩,?_⟩
 refine jC (K:=K) (xs:=B.qs.map λq=>V.ref q.1) (λi σ H'=>∃ρ' A' s3,σ=[some (.ref A.a),some (.ref B.m),some (.int (bh st)),s3]/\HH T n ρ' A' H' { st with kn:=st.kn+100*i }/\bf m ρ' B H' b/\A'.a=A.a/\aG (out ρ H) (out ρ' H'))
  ⟨ρ,A,_,Z,qh,Af,Z,o4⟩ (λi σ H' _ hp=>by obtain⟨_,_,_,_,_,h,_⟩:=hp;exact aA.of h.op) ?_ ?_
 . rintro i y σ H5 hy ⟨ρ5,A5,s3,rfl,vK,Lo,Eh,o5⟩
   rw[bF]at hy
   obtain⟨qq,eq,rfl⟩:=kT.mp hy
   have hib:i<b.ao.length:=by rw[<-hb.ql];exact(d8.mp eq).1
   have ei:=aS hib
   obtain⟨p,ep,e1,e2,_⟩:=gd.rel.at ei
   have lP:=bP ep
   have hqm:=bP ei
   obtain⟨k1,k2,_,_⟩:=Lo.pt i _ qq ei eq
   refine⟨_,Z,A.a,A5.dx,_,Z,by rw[<-Eh];exact vK.h.oa,Z,_,Z,qq.1,_,_,_,Z,Z,aA.of k1,aX (j:=0) rfl,⟨⟨n,ρ5,A5,_,i,p,by rw[Eh,e1];rfl,vK,ep,by show st.kn+100*i+100<=1000000;omega,λr ws ρ6 A6 H6 D_ ea6 f6 hr hr6 cr hSh=>?_⟩⟩⟩
   have vO:=Lo.other f6 vK.g (cy nm)
   obtain⟨k16,k26,_,_⟩:=vO.pt i _ qq ei eq
   have esh:zL { st with kn:=st.kn+100*i } p=dB b.own (b.ao[i]).tops b.bot:=Qh gd.Kl gd.rel hh.wf gd.lM lP hqm e1
   rw[esh]at hSh
   have b1:=gd.lM.b1
   refine⟨_,Z,B.m,_,Z,cS.k (k:=Sum.inr "owners") vO.om,_,Z,qq.1,_,_,_,Z,Z,aA.of k16,aX (j:=4) rfl,_,Z,B.m,_,Z,cS.k (k:=Sum.inr "bottom") vO.om,⟨⟨r,B.lo,qq.2,ws,b.own,(b.ao[i]).tops,b.bot,Z,hr6,hSh,aA.of vO.oo,aA.of k26,Nat.le_of_eq (gd.lM.tl _ hqm),by have:=gd.lM.ol;omega,by omega,gd.lM.bz.mono (by decide),λH7 g7=>⟨_,Z,cF ?_⟩⟩⟩⟩
   refine⟨ρ6,A6,_,Z,?_,vO.mono g7,ea6.trans Eh,(o5.trans f6.out).trans (kC g7)⟩
   have:=D_.mono g7
   rw[show st.kn+100*(i+1)=st.kn+100*i+100 by omega]
   exact this
 rintro σ H5 ⟨ρ5,A5,s3,rfl,vK,Lo,Eh,o5⟩
 refine q ρ5 A5 H5 _ vK ?_ Lo Eh o5
 rw[nh];omega
abbrev kM:Stmt:=top 54
abbrev i8:Da Str:=["_law_hold","_law_model_here"]
abbrev yK:Da Str:=i8.append ["_law_found","_law_at_here","_law_one","_law_due_here"]
def gu:aK yK i8 (ay kM):=dh
theorem ym{T:TC}(F:At K mg "_law_tells_landed" kM f fd)(eZ:Dn P w K mg base 1 "_law_int" kK Dl)(gC:Dn P w K mg base 3 "_law_share_list" iE (Cs K))(sQ:Mn P w K mg base 1 T.hold "landed" nH (J3 T))(aM:mg "isinstance"=none)(dU:mg "list"=none)(gQ:mg "tuple"=none)(lF:mg "str"=none)(a_:mg "range"=none)(aW:mg "len"=none):Dn P w K mg base 4 "_law_tells_landed" i8 (qw 1 T K):=by
 refine F.oA gu λ_ _ _ _ H _ Q E hr h=>?_;obtain⟨⟨n,m,ρ,A,B,st,b,c,rfl,nm,hh,hb,gd,hc,Ln,hkn,q⟩⟩:=h;refine⟨_,(@cO.h _ _ _ (aj (aQ (i:=2) gu.nd (w_ sQ hr (qv 0)))
  (aj (cE (ff (bW.pt (jr (dS (dF (aE (cX K) (by rfl) aM jO (af (qv 2) (af (jq xA rfl dU) ai))))) (iW (aT qS (aE (bB K) (by rfl) aW cU (af (qv 2) ai)) (aE (bB K) (by rfl) aW cU (af (bQ (cA hr) (qv 1) bw) ai)) (aZ _)))))) (au (aP eY)) aR)
  (aj (dG eU rfl (dP (by rfl) a_ (af (aE (bB K) (by rfl) aW cU (af (qv 2) ai)) ai)) (aL (i:=3) gu.nd) (aj (aQ (i:=4) gu.nd (aI (aO K) (qv 2) (qv 3)))
  (aj (aQ (i:=5) gu.nd (aI (aO K) (bQ (cA hr) (qv 1) bw) (qv 3)))
  (aj (cE (ff (bW.pt (jr (dS (dF (aE (cX K) (by rfl) aM jO (af (qv 4) (af (jq Jc rfl gQ) ai))))) (jr (aT qS (aE (bB K) (by rfl) aW cU (af (qv 4) ai)) ak (aZ _)) (iW (dS (dF (bu eZ hr (af (aI (bY K) (qv 4) ak) ai))))))))) (au (aP eY)) aR)
  (aj (cE (ff (bW.pt (jr (dS (dF (aE (cX K) (by rfl) aM jO (af (aI (bY K) (qv 4) ak) (af (jq EF rfl lF) ai))))) (iW (dS (dF (aE (cX K) (by rfl) aM jO (af (aI (bY K) (qv 4) ak) (af (jq EF rfl lF) ai))))))))) (au (aP eY)) aR)
  (aj (cE (aT (wR K hr.units) (iC (af (aI (bY K) (qv 4) ak) (af (aI (bY K) (qv 4) ak) (af (aI (bY K) (qv 4) ak) ai)))) (iC (af (aI (aO K) (qv 5) ak) (af (aI (aO K) (qv 5) ak) (af (aI (aO K) (qv 5) ak) ai)))) (aZ _)) (au (aP eY)) aR)
  (au (cE (dS (dF (bu gC hr (af (aI (bY K) (qv 4) ak) (af (bQ (cA hr) (qv 1) bw) (af (aI (aO K) (qv 5) ak) (af (aI (aO K) (qv 5) ak) ai))))))) (au (aP eY)) aR))))))))
  (au (aP eY)))))),?_⟩
 refine⟨_,Z,A.a,A.dx,_,Z,hh.h.oa,Z,⟨⟨n,ρ,A,st,Z,hh,λr ws H1 g1 hr hr1 hL=>?_⟩⟩⟩;have hb1:=hb.mono g1;obtain⟨vs,hv,hA⟩:=hb1.oa;have l1:=hL.length;have l2:=hA.length;have l3:=gd.lJ.length;have l4:=hh.wf.zC;refine⟨false,?_,cF ?_⟩
 .refine ⟨_,Z,_,_,_,_,Z,fX.lst hr1,fY,_,Z,cF ?_⟩;refine⟨_,Z,_,_,Z,.inl (aA.of hr1),_,Z,B.m,_,Z,cS.k (k:=Sum.inr "ashore") hb1.om,_,_,Z,.inl (aA.of hv),Z,_,Z,?_,Z⟩;show(!decide (V.int (ws.length:Int)=V.int (vs.length:Int)))=false;rw[cu (by rw[l1,l2,l3])];rfl
 refine⟨_,Z,r,_,Z,.inl (aA.of hr1),_,Z,by omega,by omega,?_⟩;refine fM (lo:=0) (n:=((ws.length:Nat):Int).toNat) (λi σ H'=>aG H1 H'/\∃s3 s4 s5,σ=[some (.ref A.a),some (.ref B.m),some (.ref r),s3,s4,s5]) ⟨aG.refl _,_,_,_,Z⟩ ?_ ?_
 .rintro i σ H2 hi ⟨g2,s3,s4,s5,rfl⟩;have e0:(0:Int)+(i:Int)=((i:Nat):Int):=by omega
  rw[e0];have hi:i<ws.length:=by omega
  have ew:=aS hi;obtain⟨t,s,x,ss,e1,ex,t1,t2,_,t4⟩:=hL.got ew;rw[e1]at ew;have ev:=aS (show i<vs.length by omega);obtain⟨u,lt,e,e2,ee,u1,u2⟩:=hA.get ev;rw[e2]at ev;obtain⟨a1,a2,a3,a4,a5,a6,a7,a8,a9⟩:=gd.lJ.get ex ee;have hb2:=hb1.mono g2;have t1:=g2 _ _ t1;have t2:=g2 _ _ t2;have t4:=t4.mono g2.tups;have u1:=g2 _ _ u1;have u2:=g2 _ _ u2;rw[a4]at t4;rw[a1,a2,a3]at t1;refine⟨_,Z,_,Z,r,ws,i,.ref t,Z,Z,aA.of (g2 _ _ hr1),iu ew,?_⟩;refine⟨_,Z,B.m,_,Z,cS.k (k:=Sum.inr "ashore") hb2.om,_,Z,B.la,vs,i,.ref u,Z,Z,aA.of (g2 _ _ hv),iu ev,?_⟩;refine⟨false,⟨_,Z,_,_,_,_,Z,fX.tup t1,fY,_,Z,cF ⟨_,Z,_,_,Z,.inr (cz.of t1),Z,_,Z,cF ⟨_,Z,t,_,_,_,Z,Z,cz.of t1,Z,_,Z,_,Z,Z,Z⟩⟩⟩,cF ?_⟩;refine⟨false,⟨_,Z,t,_,_,_,Z,Z,cz.of t1,Z,_,_,_,_,Z,fX.str _,fY,_,Z,cF ⟨_,Z,t,_,_,_,Z,Z,cz.of t1,Z,_,_,_,_,Z,fX.str _,fY,_,Z,Z,Z⟩⟩,cF ?_⟩;refine⟨_,Z,t,_,_,_,Z,Z,cz.of t1,Z,_,Z,t,_,_,_,Z,Z,cz.of t1,Z,_,Z,t,_,_,_,Z,Z,cz.of t1,Z,(gJ 3),λp1 hp1=>?_⟩;have g3:=az hp1 (.tup [.str e.nm,.str e.ow,.int e.wo]);have h3:upd H2 p1 (.tup [.str e.nm,.str e.ow,.int e.wo]) p1=some (.tup [.str e.nm,.str e.ow,.int e.wo]):=ah;show Zj _ _ (upd H2 p1 (.tup [.str e.nm,.str e.ow,.int e.wo])) _;generalize upd H2 p1 (.tup [.str e.nm,.str e.ow,.int e.wo])=H3 at *;have u13:=g3 _ _ u1;refine⟨_,Z,u,_,_,_,Z,Z,aA.of u13,Z,_,Z,u,_,_,_,Z,Z,aA.of u13,Z,_,Z,u,_,_,_,Z,Z,aA.of u13,Z,(gJ 3),λp2 hp2=>?_⟩;have g4:=az hp2 (.tup [.str e.nm,.str e.ow,.int e.wo]);have h4:upd H3 p2 (.tup [.str e.nm,.str e.ow,.int e.wo]) p2=some (.tup [.str e.nm,.str e.ow,.int e.wo]):=ah;show EU K _ _ (upd H3 p2 (.tup [.str e.nm,.str e.ow,.int e.wo])) _;generalize upd H3 p2 (.tup [.str e.nm,.str e.ow,.int e.wo])=H4 at *;have D:∀{p:Addr},H4 p=some (.tup [.str e.nm,.str e.ow,.int e.wo])->Dt K H4 (.ref p) (.tuple [.str e.nm,.str e.ow,.int e.wo]):=λh=> .tup (cz.of h) (.cons (.str _) (.cons (.str _) (.cons (.int _) .nil)));have pd:Pd (.tuple [.str e.nm,.str e.ow,.int e.wo]) 2:=.tuple λd hd=>by
   rcases cJ.mp hd with rfl|hd
   .exact .str a8
   rcases cJ.mp hd with rfl|hd
   .exact .str a9
   rw[eL.mp hd];exact .int
  refine ne_data (D (g4 _ _ h3)) (D h4) pd (by decide) ⟨_,Z,cF ?_⟩;have uY:=g3.trans g4;have Af:=hb2.mono uY;exact⟨_,Z,t,_,_,_,Z,Z,cz.of (uY _ _ t1),Z,_,Z,B.m,_,Z,cS.k (k:=Sum.inr "owners") Af.om,_,Z,u,_,_,_,Z,Z,aA.of (uY _ _ u1),Z,_,Z,u,_,_,_,Z,Z,aA.of (uY _ _ u1),Z,⟨⟨s,B.lo,lt,ss,b.own,e.tops,e.bot,Z,uY _ _ t2,t4.mono uY.tups,aA.of Af.oo,aA.of (uY _ _ u2),a5,by have:=gd.lM.ol;omega,a6,a7,λH5 g5=>⟨_,Z,cF ⟨(g2.trans uY).trans g5,_,_,_,Z⟩⟩⟩⟩⟩
 rintro σ H2 ⟨g2,s3,s4,s5,rfl⟩;exact q ρ A H2 st.kn (hh.mono (g1.trans g2)) (by omega) (hb1.mono g2) rfl (kC (g1.trans g2))
abbrev sR:Stmt:=top 55
abbrev pT:Da Str:=["_law_hold","_law_model_here"]
abbrev Lp:Da Str:=pT.append ["_law_roster"]
def yH:aK Lp pT (ay sR):=dh
theorem HU{T:TC}(F:At K mg "_law_tells" sR f fd)(lT:Dn P w K mg base 5 "_law_tells_parts" jx (qw 1 T K))(kY:Dn P w K mg base 4 "_law_tells_landed" i8 (qw 1 T K))(sS:Mn P w K mg base 1 T.hold "roster" nD (J0 T))(aM:mg "isinstance"=none)(dU:mg "list"=none):Dn P w K mg base 6 "_law_tells" pT (qw 2 T K):=by
 refine F.oA yH λ_ _ _ _ H _ Q E hr h=>?_;obtain⟨⟨n,m,ρ,A,B,st,b,c,rfl,nm,hh,hb,gd,hc,Ln,hkn,q⟩⟩:=h;refine⟨_,(@cO.h _ _ _ (aj (aQ (i:=2) yH.nd (w_ sS hr (qv 0)))
  (aj (cE (ff (bW.pt (jr (dS (dF (aE (cX K) (by rfl) aM jO (af (qv 2) (af (jq xA rfl dU) ai))))) (iW (aT (wR K hr.units) (qv 2) (bQ (cA hr) (qv 1) bw) (aZ _)))))) (au (aP eY)) aR)
  (au (aP (KJ (bu lT hr (af (qv 0) (af (qv 1) ai))) (KC (bu kY hr (af (qv 0) (af (qv 1) ai)))))))))),?_⟩
 refine⟨_,Z,A.a,A.dx,_,Z,hh.h.oa,Z,⟨⟨n,ρ,A,st,Z,hh.h,λr hr=>?_⟩⟩⟩;have g1:=az hr (.lst (st.own.map V.str));have hr1:upd H r (.lst (st.own.map V.str)) r=some (.lst (st.own.map V.str)):=ah;have iJ:=hh.mono g1;have hb1:=hb.mono g1;have eo:=gd.rel.own;show gj 2 (.ref r) _ (upd H r (.lst (st.own.map V.str))) _;generalize upd H r (.lst (st.own.map V.str))=H1 at *;rw[eo]at hr1;refine⟨false,?_,cF ?_⟩
 .refine ⟨_,Z,_,_,_,_,Z,fX.lst hr1,fY,_,Z,cF ?_⟩;refine⟨_,Z,_,Z,B.m,_,Z,cS.k (k:=Sum.inr "owners") hb1.om,_,_,.lst (aA.of hr1) (E9 b.own),.lst (aA.of hb1.oo) (E9 b.own),BC b.own Ln,BC b.own Ln,_,Z,?_,Z⟩;rw[Vw];rfl
 refine⟨_,Z,_,Z,⟨⟨n,m,ρ,A,B,st,b,c,Z,nm,iJ,hb1,gd,hc,Ln,by omega,λρ2 A2 H2 k ng hk hb2 ea2 o2=>⟨true,Z,mP ?_⟩⟩⟩⟩;refine⟨_,Z,_,Z,⟨⟨n,m,ρ2,A2,B,_,b,c,by rw[ea2];rfl,nm,ng,hb2,Wz gd k,hc,Ln,by show k+15000*1<=1000000;omega,λρ3 A3 H3 k3 tD hk3 Eg WS o3=>?_⟩⟩⟩;have hk3:k3<=k+15000*1:=hk3;exact q ρ3 A3 H3 k3 tD (by omega) Eg (WS.trans ea2) (((kC g1).trans o2).trans o3)
abbrev sU:Stmt:=top 56
abbrev pU:Da Str:=["_law_owners"]
abbrev Lq:Da Str:=pU.append ["_law_hold","_law_owner"]
def sV:aK Lq pU (ay sU):=dh
theorem HV{T:TC}(F:At K mg "_law_begin" sU f fd)(Lr:Cn P w K mg base 3 "Hold" T.hold ["self"] (N5 T))(wu:Mn P w K mg base 3 T.hold "sign" qY (N8 T)):Dn P w K mg base 5 "_law_begin" pU (Ob T K):=by
 refine F.oA sV λ_ _ _ _ H _ Q E hr h=>?_;obtain⟨⟨l,own,n,ρ,rfl,hl,cl,nd,hnm,hle,g,q⟩⟩:=h;refine⟨_,(@cO.h _ _ _ (aj (aQ (i:=1) sV.nd (Th Lr hr))
  (aj (dG eU rfl (c8 K (qv 0)) (aL (i:=2) sV.nd) (au (dN (iV wu hr (qv 1) (af (qv 2) ai)))))
  (au (aP (qv 1)))))),?_⟩
 intro x dx hx hdx hne;refine⟨⟨x,dx,ρ,n,Z,ah,(g.alloc hdx).alloc (by rw[av (cy hne)];exact hx),g.none hx,λρ1 A H1 ea hh k=>⟨Z,?_⟩⟩⟩;have F1:Fr n ρ H ρ1 H1:=λb o e _=>k b o (by rw[av (aH e hx),av (aH e hdx)];exact e) (aH e hx);refine⟨_,Z,l,Z,⟨_,F1.seq hl cl⟩,?_⟩;refine jC (K:=K) (xs:=own.map V.str) (λi σ H'=>∃ρ' A' s2,σ=[some (.ref l),some (.ref x),s2]/\A'.a=x/\HH T n ρ' A' H' ((own.take i).foldl gH hs0)/\Fr n ρ H ρ' H')
  ⟨ρ1,A,none,Z,ea,hh,F1⟩ (λi σ H' _ hp=>by obtain⟨_,_,_,_,_,_,f⟩:=hp;exact f.seq hl cl) ?_ ?_
 .rintro i y σ H' hy ⟨ρ',A',s2,rfl,ea',D0,F'⟩;rw[bF]at hy;obtain⟨o,eo,rfl⟩:=kT.mp hy;have hi:=(d8.mp eo).1;have hos:=zN (own.take i) hs0;have abE:((own.take i).foldl gH hs0).own=own.take i:=by rw[hos];rfl
  refine⟨_,Z,x,A'.dx,_,Z,ea'▸D0.h.oa,Z,_,Z,⟨⟨n,ρ',A',_,o,by rw[ea'];rfl,D0,hnm o (bP eo),?_,?_,λρ2 A2 H2 h2 e2 F2=>?_⟩⟩⟩
  .rw [abE];intro m;have h2:(own.take (i+1)).Nodup:=nd.sublist (List.take_sublist _ _);rw[take_snoc eo]at h2;exact(List.nodup_append.mp h2).2.2 o m o (eL.mpr rfl) rfl
  .rw [abE,kr];omega
  .rw [take_snoc eo,Ji];exact⟨ρ2,A2,_,Z,e2.trans ea',h2,F'.trans F2⟩
 rintro σ H' ⟨ρ',A',s2,rfl,ea',D0,F'⟩;rw[aF,bN]at D0;have:=q ρ' A' H' D0 F';rw[ea']at this;exact⟨_,Z,this⟩
abbrev wA:Stmt:=top 34
abbrev tR:Da Str:=["_law_at_here"]
abbrev QI:Da Str:=tR
def MM:aK QI tR (ay wA):=dh
theorem MN(F:At K mg "_law_hot" wA f fd)(a_:mg "range"=none):Dn P w K mg base 1 "_law_hot" tR Qm:=by
 refine F.oA MM λ_ _ _ _ H _ Q E hr h=>?_;obtain⟨⟨n,rfl,q⟩⟩:=h;refine⟨_,(@cO.h _ _ _ (au (aP (aD mX (d_ (af eY ai)) (e_ ["_law_k","_law_at_here"] [none,some 0] rfl (dP (by rfl) a_ (af ak ai)) (λ_ _ _ _=>(aL (i:=0) (show List.Nodup (["_law_k","_law_at_here"] :Da Str)from by decide +kernel))) (λ_ _ _ _=>(AU i6 (qv 0) (qv 1) (aZ _))) rfl (by rfl)))))),?_⟩;refine⟨(gJ 1),λp1 hp1=>?_⟩;have g1:aG H (upd H p1 (.lst [.bl true])):=az hp1 _;have h1:upd H p1 (.lst [.bl true]) p1=some (.lst [.bl true]):=ah;generalize upd H p1 (.lst [.bl true])=H1 at g1 h1;refine⟨10,Z,(by decide),(by decide),λBM Bn=>?_⟩;refine PL (n:=(10:Int).toNat) (λi out H'=>aG H1 H'/\out=((List.range i).map λk=>V.bl (decide (k=n)))) (by decide) ⟨az Bn _,Z⟩ ?_ ?_
 .rintro i out H' hi dR ha ⟨g,e⟩;refine⟨_,Z,_,Z,Z,ha,g.bM Bn _,?_⟩;rw[List.range_succ,br,e];congr 1;show[V.bl (decide (V.int (0+(i:Int))=V.int (n:Int)))]=[V.bl (decide (i=n))]
  congr 2;exact decide_eq_decide.mpr ⟨λz=>by have:=V.int.inj z;omega,λz=>by rw[z];congr 1;omega⟩
 rintro out H' dR ha ⟨g,e⟩;refine⟨p1,BM,_,_,Z,Z,g _ _ h1,ha,(by rw[dR,eW];decide),λp hp=>q p _ (g1.trans (g.trans (az hp _))) ?_⟩;rw[ah,e];show some (HO.lst (V.bl true::_))=some (HO.lst ((true::(List.range 10).map λk=>decide (k=n)).map V.bl));rw[bJ,ig];rfl
abbrev yo:Stmt:=top 35
abbrev rP:Da Str:=["_law_parts","_law_name_here"]
abbrev TR:Da Str:=rP.append ["_law_at_here"]
def Ei:aK TR rP (ay yo):=dh
theorem QJ(F:At K mg "_law_at" yo f fd)(aW:mg "len"=none)(a_:mg "range"=none):Dn P w K mg base 1 "_law_at" rP (DZ K):=by
 refine F.oA Ei λ_ _ _ _ H _ Q E hr h=>?_;obtain⟨⟨l,us,ws,x,rfl,hl,hW,nd,hle,q,q2⟩⟩:=h;refine⟨_,(@cO.h _ _ _ (aj (dG eU rfl (dP (by rfl) a_ (af (aE (bB K) (by rfl) aW cU (af (qv 0) ai)) ai)) (aL (i:=2) Ei.nd) (au (cE (aT i6 (aI (oF K) (aI (aO K) (qv 0) (qv 2)) ak) (qv 1) (aZ _)) (au (aP (qv 2))) aR)))
  (au (aP (AS wL ak))))),?_⟩
 have ll:=hW.len;refine⟨_,Z,l,_,Z,.inl hl,_,Z,by omega,by omega,?_⟩;refine fM (lo:=0) (n:=((us.length:Nat):Int).toNat) (λi σ H'=>H'=H/\(∀r∈ws.take i,r.1≠x)/\∃s2,σ=[some (.ref l),some (.str x),s2]) ⟨Z,(λ_ m=>nomatch m),_,Z⟩ ?_ ?_
 .rintro i σ H' hi ⟨rfl,hn,s2,rfl⟩;have e0:(0:Int)+(i:Int)=((i:Nat):Int):=by omega
  rw[e0];have hio:i<ws.length:=by omega
  have ei:=aS hio;obtain⟨a,xs,ea,OO,x0,_⟩:=hW.at_ i _ ei;refine⟨_,Z,_,Z,l,_,_,_,Z,Z,hl,aX ea,OO.ix (i:=0) x0 ?_⟩;refine⟨_,Z,Z,_,Z,dJ (λc=>?_) (λc=>?_)⟩
  .exact ⟨_,Z,q i _ ei (V.str.inj (dI c))⟩
  .refine ⟨Z,λr hr=>?_,_,Z⟩;rw[take_snoc ei]at hr;rcases fj.mp hr with z|z
   .exact hn r z
   .rw [eL.mp z];intro e;exact c (cu (by rw[e]))
 rintro σ H' ⟨rfl,hn,s2,rfl⟩;refine⟨1,Z,q2 λr hr=>hn r ?_⟩;rw[yQ (by omega)];exact hr
abbrev u7:Stmt:=top 57
abbrev rD:Da Str:=["_law_script","_law_k","_law_parts"]
abbrev MO:Da Str:=rD.append ["_law_spare","_law_order","_law_rows_here","_law_at_here","_law_way","_law_amount"]
def fV:aK MO rD (ay u7):=dh
theorem Ls(F:At K mg "_law_rows" u7 f fd)(aU:Dn P w K mg base 1 "_law_draw" fU (mY K))(aW:mg "len"=none)(a_:mg "range"=none)(dU:mg "list"=none)(fH:mg "sum"=none)(tS:mg "min"=none):Dn P w K mg base 2 "_law_rows" rD (Om K):=by
 refine F.oA fV λ_ _ _ _ H _ Q E hr h=>?_;obtain⟨⟨a,l,ns,k,us,ws,rfl,hS,h63,hk0,hk1,hl,hW,nd,hle,hw1,q⟩⟩:=h;refine⟨_,(@cO.h _ _ _ (aj (aQ (i:=3) fV.nd (aD lI (aE (jh K rfl) (by rfl) fH t8 (af (e_ ["_law_part"] [none] rfl (c8 K (qv 2)) (λ_ _ _ _=>(aL (i:=0) (show List.Nodup (["_law_part"] :Da Str)from by decide +kernel))) (λ_ _ _ _=>(aI (oF K) (qv 0) ak)) rfl (by rfl)) ai)) ak))
  (aj (aQ (i:=4) fV.nd (oK (Hl rfl) (by rfl) dU xA (af (Tf (by rfl) a_ (af (aE (bB K) (by rfl) aW cU (af (qv 2) ai)) ai)) ai)))
  (aj (iD (aT i6 (bu aU hr (af (qv 0) (af (qv 1) (af ak (af ak ai))))) ak (aZ _)) (au (aQ (i:=4) fV.nd (aa4 K (qv 4) (AS wL ak)))) aR)
  (aj (aQ (i:=5) fV.nd (d_ ai))
  (aj (dG eU rfl (c8 K (qv 4)) (aL (i:=6) fV.nd) (aj (aQ (i:=7) fV.nd (bu aU hr (af (qv 0) (af (qv 1) (af (aD bV ak (aD jg ak (qv 6))) (af ak ai))))))
  (aj (aQ (i:=8) fV.nd (aE (SD rfl) (by rfl) tS PyProof.Rows.boot_min (af (aI (oF K) (aI (aO K) (qv 2) (qv 6)) ak) (af (qv 3) (af (aD mW ak ak) ai)))))
  (aj (iD (ff (bW.pt (pD (aT i6 (qv 7) ak (aZ _)) (oM (aT iH (qv 8) ak (aZ _)))))) (au (aQ (i:=8) fV.nd (aD bV ak (bu aU hr (af (qv 0) (af (qv 1) (af (aD bV ak (aD jg ak (qv 6))) (af (qv 8) ai)))))))) aR)
  (au (iD (ff (bW.pt (pD (aT iH (qv 7) ak (aZ _)) (oM (aT iH (qv 8) ak (aZ _)))))) (aj (dN (nv rR tW tX f_ (qv 5) (af (iC (af (aI (oF K) (aI (aO K) (qv 2) (qv 6)) ak) (af (qv 8) ai))) ai)))
  (au (aQ (i:=3) fV.nd (aD lI (qv 3) (qv 8))))) aR))))))
  (au (aP (qv 5))))))))),?_⟩
 have ll:=hW.len;refine⟨_,Z,l,Z,⟨_,hl⟩,λl0 kj=>?_⟩;refine fR (J:=sY K l) (n:=us.length) 0 (λi o H'=>aG H H'/\o=((ws.take i).map (λr:Row=>r.2)).map V.int) (by omega) ⟨az kj _,Z⟩ (λi o H' hi _ hp=>⟨_,_,hp.1.seq hl,aS hi⟩) (λo H' _ hp=>⟨_,hp.1.seq hl,aN _⟩) ?_ ?_
 .rintro i y o H2 H3 hi dR ha ⟨g,e⟩ ⟨rfl,hy⟩;have hiw:i<ws.length:=by omega
  have ei:=aS hiw;obtain⟨ar,xs,ea,OO,x0,x2⟩:=hW.at_ i _ ei;have ey:=hy _ (g.seq hl);rw[ea]at ey;cases ey;refine⟨_,Z,(g.sq OO).ix (i:=2) x2 ?_⟩;refine⟨ha,g.bM kj _,?_⟩;subst e;rw[take_snoc ei,br,br];rfl
 rintro o1 H1 _ ha ⟨g1,e⟩;rw[ll,bN]at e;subst e;refine⟨l0,ws.map (λr:Row=>r.2),Z,aA.of ha,_,_,Z,Z,?_⟩;show gj 3 (.int (bq ws-1)) _ _ _;refine⟨_,Z,l,_,Z,.inl (g1.seq hl),_,Z,λpr hpr=>?_⟩;refine⟨pr,ws.length,Z,?_,by omega,λpo hpo=>?_⟩
 .rw [ah,ll]
 have gA:=(az hpr (.vv 0 ((us.length:Nat):Int))).trans (az hpo (.lst ((L2.upTo ws.length).map V.int)));have gB:=g1.trans gA;have hord:upd (upd H1 pr (.vv 0 ((us.length:Nat):Int))) po (.lst ((L2.upTo ws.length).map V.int)) po=some (.lst ((L2.upTo ws.length).map V.int)):=ah;generalize upd (upd H1 pr (.vv 0 ((us.length:Nat):Int))) po (.lst ((L2.upTo ws.length).map V.int))=H2 at *;have ndo:(L2.upTo ws.length).Nodup:=by unfold L2.upTo;refine List.Pairwise.map _ (λx y h e=>h (by omega)) List.nodup_range
 have vv:∀x∈L2.upTo ws.length,0<=x/\x<(ws.length:Int):=λx hx=>by unfold L2.upTo at hx;obtain⟨i,hi,rfl⟩:=bR.mp hx;have:=xH.mp hi;omega
 have lup:(L2.upTo ws.length).length=ws.length:=by unfold L2.upTo;rw[aF,BU]
 refine⟨λσ H3=>aG H H3/\∃(pq:Addr)(os:Da Int),σ=[some (.ref a),some (.int k),some (.ref l),some (.int (bq ws-1)),some (.ref pq),none,none,none,none]/\H3 pq=some (.lst (os.map V.int))/\os.Nodup/\os.length=ws.length/\∀x∈os,0<=x/\x<(ws.length:Int),?_,?_⟩
 .refine ⟨_,Z,_,Z,dm (gB.seq hS) h63 hk0 (by decide) (by decide) (by decide) λd _ d0 d1=>⟨Z,_,Z,dJ (λc=>?_) (λc=>?_)⟩⟩
  .refine ⟨_,Z,_,Z,Z,po,_,Z,aA.of hord,λpz hpz=>?_⟩;have g3:=az hpz (.lst ((L2.upTo ws.length).map V.int).reverse);exact⟨gB.trans g3,pz,(L2.upTo ws.length).reverse,Z,by rw[ah,List.map_reverse],List.pairwise_reverse.mpr (List.Pairwise.imp (λh=>cy h) ndo),by rw[List.length_reverse,lup],λx hx=>vv x (List.mem_reverse.mp hx)⟩
  .exact ⟨gB,po,L2.upTo ws.length,Z,hord,ndo,lup,vv⟩
 rintro σ H3 ⟨g3,pq,os,rfl,hos,hnd,dR,hrg⟩;refine⟨(gJ 0),λz hz=>?_⟩;have g4:=az hz (.lst []);have hzz:upd H3 z (.lst []) z=some (.lst []):=ah;have abF:=g4 _ _ hos;have nz:pq≠z:=λe=>by rw[e,hz]at hos;cases hos
 have hzH:H z=none:=g3.free hz;have uY:=g3.trans g4;show yV _ _ _ _ (upd H3 z (.lst []));generalize upd H3 z (.lst [])=H4 at *;have w1:ws≠[]->1<=bq ws:=λhne=>by
  cases ws with
  | nil=>exact absurd rfl hne
  | cons r rs=>have h1:=hw1 r cg;have h2:=Cg (rs:=rs) λx hx=>hw1 x (b_ _ hx);rw[show bq (r::rs)=r.2+bq rs from by unfold bq;rw[bJ,c9]];omega
 refine⟨_,Z,pq,Z,⟨_,aA.of abF⟩,?_⟩;refine jC (K:=K) (xs:=os.map V.int) (λi σ H'=>aG H H'/\H' pq=some (.lst (os.map V.int))/\∃(zs:Da V)(rs:Da Row)(sp:Int)(s6 s7 s8:Option V),σ=[some (.ref a),some (.int k),some (.ref l),some (.int sp),some (.ref pq),some (.ref z),s6,s7,s8]/\H' z=some (.lst zs)/\fB H' zs rs/\rs.length<=i/\(rs.map (λr:Row=>r.1)).Nodup/\
   sp=bq ws-1-bq rs/\(ws≠[]->0<=sp)/\∀r∈rs,1<=r.2/\r.2<=1000000000/\∃j:Nat,((j:Nat):Int)∈os.take i/\∃w,ws[j]?=some w/\w.1=r.1/\r.2<=w.2)
  ⟨uY,abF,[],[],bq ws-1,none,none,none,Z,hzz,.nil,aN _,qQ,by show _=bq ws-1-0;omega,λhne=>by have:=w1 hne;omega,λr hr=>absurd hr (by simp)⟩ ?_ ?_ ?_
 .rintro i σ H' _ ⟨_,h,_⟩;exact aA.of h
 .rintro i x σ H5 hx ⟨g5,hq5,zs,rs,sp,s6,s7,s8,rfl,OP,hR,hrl,WT,oX,QK,yg⟩;rw[bF]at hx;obtain⟨at',hat,rfl⟩:=kT.mp hx;have hio:=(d8.mp hat).1;obtain⟨t0,t1⟩:=hrg at' (bP hat);obtain⟨jt,hjt⟩:∃jt:Nat,((jt:Nat):Int)=at':=⟨at'.toNat,by omega⟩
  subst hjt;have hjl:jt<ws.length:=by omega
  have hne:ws≠[] :=λe=>by rw[e]at hjl;simp at hjl
  have ags:=QK hne;have hnot:((jt:Nat):Int)∉os.take i:=λm=>by obtain⟨j,hj,ej⟩:=List.mem_iff_getElem.mp m;rw[List.getElem_take]at ej;rw[kr]at hj;have e2:=(d8.mp hat).2;have:=(List.getElem_inj hnd).mp (ej.trans e2.symm);omega
  have ej:=aS hjl;have hwj:=hw1 _ (bP ej);generalize ws[jt]=wj at *;obtain⟨ar,xs,ea,OO,x0,x2⟩:=hW.at_ jt _ ej;refine⟨_,Z,_,Z,_,Z,_,_,Z,Z,.inl ⟨by decide,by decide⟩,_,_,Z,Z,dm (g5.seq hS) h63 hk0 (by omega) (by omega) (by decide) λway _ v0 v1=>?_⟩;refine⟨_,Z,_,Z,l,_,_,_,Z,Z,g5.seq hl,aX ea,(g5.sq OO).ix (i:=2) x2 ?_⟩;refine⟨_,Z,_,_,Z,Z,⟨by decide,by decide,by decide⟩,_,_,_,Z,?_⟩;obtain⟨m1,m2,m3⟩:=X6 wj.2 sp ((10:Int) ^ (9:Int).toNat);have m0:0<=uB wj.2 sp ((10:Int) ^ (9:Int).toNat):=X7 (by omega) ags (by decide);have m3:uB wj.2 sp ((10:Int) ^ (9:Int).toNat)<=1000000000:=m3;generalize uB wj.2 sp ((10:Int) ^ (9:Int).toNat)=m at *;refine⟨λσ H6=>H5=H6/\∃m:Int,0<=m/\m<=sp/\m<=wj.2/\m<=1000000000/\σ=[some (.ref a),some (.int k),some (.ref l),some (.int sp),some (.ref pq),some (.ref z),some (.int (jt:Int)),some (.int way),some (.int m)],?_,?_⟩
  .refine ⟨decide (way=2/\0<m),?_,?_⟩
   .refine ⟨_,Z,Z,_,Z,?_⟩;by_cases h1:way=2
    .rw [cu (by rw[h1] :V.int way=V.int 2)];refine mP ⟨_,Z,_,_,Z,Z,_,Z,?_,Z⟩;by_cases h2:0<m
     .rw [cu h2,cu ⟨h1,h2⟩]
     .rw [dz h2,dz λz=>h2 z.2]
    .rw [dz (λz=>h1 (V.int.inj z))];exact cF ⟨(dz λz=>h1 z.1).symm,Z⟩
   refine dJ (λc=>?_) (λc=>?_)
   .obtain ⟨_,c2⟩:=dI c;refine⟨_,Z,_,Z,_,Z,_,_,Z,Z,.inl ⟨by decide,by decide⟩,_,_,Z,Z,_,Z,dm (g5.seq hS) h63 hk0 (by omega) (by omega) c2 λd _ d0 d1=>⟨_,_,Z,Z,Z,1+d,by omega,by omega,by omega,by omega,Z⟩⟩
   .exact ⟨Z,m,m0,m2,m1,m3,Z⟩
  rintro σ H6 ⟨rfl,o,o0,o1,o2,o3,rfl⟩;have grow:∀r∈rs,1<=r.2/\r.2<=1000000000/\∃j:Nat,((j:Nat):Int)∈os.take (i+1)/\∃w,ws[j]?=some w/\w.1=r.1/\r.2<=w.2:=λr hr=>by obtain⟨a1,a2,j,a3,a4⟩:=yg r hr;exact⟨a1,a2,j,by rw[take_snoc hat];exact EG _ a3,a4⟩
  refine⟨λσ H6=>aG H H6/\H6 pq=some (.lst (os.map V.int))/\∃(zs:Da V)(rs:Da Row)(sp:Int)(s6 s7 s8:Option V),σ=[some (.ref a),some (.int k),some (.ref l),some (.int sp),some (.ref pq),some (.ref z),s6,s7,s8]/\H6 z=some (.lst zs)/\fB H6 zs rs/\rs.length<=i+1/\(rs.map (λr:Row=>r.1)).Nodup/\
   sp=bq ws-1-bq rs/\(ws≠[]->0<=sp)/\∀r∈rs,1<=r.2/\r.2<=1000000000/\∃j:Nat,((j:Nat):Int)∈os.take (i+1)/\∃w,ws[j]?=some w/\w.1=r.1/\r.2<=w.2,?_,λ_ _ h=>h⟩
  refine⟨decide (0<way/\0<o),?_,?_⟩
  .refine ⟨_,Z,_,_,Z,Z,_,Z,?_⟩;by_cases h1:0<way
   .rw [cu h1];refine mP ⟨_,Z,_,_,Z,Z,_,Z,?_,Z⟩;by_cases h2:0<o
    .rw [cu h2,cu ⟨h1,h2⟩]
    .rw [dz h2,dz λz=>h2 z.2]
   .rw [dz h1];exact cF ⟨(dz λz=>h1 z.1).symm,Z⟩
  refine dJ (λc=>?_) (λc=>?_)
  .obtain ⟨_,c2⟩:=dI c;refine⟨_,Z,.inl ⟨Z,_,aA.of OP⟩,_,Z,_,Z,l,_,_,_,Z,Z,g5.seq hl,aX ea,(g5.sq OO).ix (i:=0) x0 ?_⟩;refine⟨_,Z,(gJ 2),λp hp=>?_⟩;have g6:=az hp (uz (wj.1,o));have hz6:=g6 _ _ OP;have hq6:=g6 _ _ hq5;have K_:upd H5 p (uz (wj.1,o)) p=some (uz (wj.1,o)):=ah;have agt:=hR.length;show oW _ (upd H5 p (uz (wj.1,o))) _;generalize upd H5 p (uz (wj.1,o))=H6 at *;refine⟨z,_,_,Z,Z,hz6,by rw[agt];exact fq (by omega),?_⟩;have np:p≠z:=λe=>by rw[e,OP]at hp;cases hp
   have tu:∀b ys,H6 b=some (.tup ys)->upd H6 z (.lst (zs++[.ref p])) b=some (.tup ys):=iK (.inr ⟨_,hz6,Z⟩);refine⟨_,Z,_,Z,_,_,Z,Z,(g5.trans g6).bM hzH _,by rw[av nz];exact hq6,zs++[.ref p],rs++[(wj.1,o)],sp-o,_,_,_,Z,ah,((hR.mono g6.tups).snoc K_).mono tu,by rw[cV];show rs.length+1<=i+1;omega,?_,?_,λ_=>by omega,?_⟩
   .rw [br];refine oh WT λhm=>?_;obtain⟨r,hr,er⟩:=bR.mp hm;obtain⟨_,_,j,hj,w,abH,e1,_⟩:=yg r hr;have hj2:j<ws.length:=(d8.mp abH).1;have r1:(ws.map (λr:Row=>r.1))[j]?=some w.1:=by rw[bF,abH];rfl
    have r2:(ws.map (λr:Row=>r.1))[jt]?=some wj.1:=by rw[bF,ej];rfl
    have er:r.1=wj.1:=er;have:j=jt:=(Jj (by rw[aF];exact hj2) nd).mp (r1.trans (by rw[e1,er];exact r2.symm));rw[this]at hj;exact hnot hj
   .rw [show bq (rs++[(wj.1,o)])=bq rs+o from by unfold bq;rw[br,List.sum_append];simp];omega
   .intro r hr;rcases fj.mp hr with h1|h1
    .exact grow r h1
    .rw [eL.mp h1];exact⟨by show 1<=o;omega,o3,jt,by rw[take_snoc hat];exact jA _ (eL.mpr rfl),wj,ej,Z,o2⟩
  .exact ⟨g5,hq5,zs,rs,sp,_,_,_,Z,OP,hR,by omega,WT,oX,QK,grow⟩
 rintro σ H5 ⟨g5,hq5,zs,rs,sp,s6,s7,s8,rfl,OP,hR,hrl,WT,oX,QK,yg⟩;rw[aF,dR]at hrl;refine⟨_,Z,q z zs rs H5 g5 hzH OP hR ⟨WT,λr hr=>?_,?_,hrl⟩⟩
 .obtain ⟨a1,a2,j,_,w,hw,e1,e2⟩:=yg r hr;exact⟨a1,a2,w,bP hw,e1,e2⟩
 .by_cases c:ws=[]
  .right;rw[c]at hrl;exact List.length_eq_zero_iff.mp (by simpa using hrl)
  .left;have:=QK c;omega
abbrev u9:Stmt:=top 42
abbrev rE:Da Str:=["_law_model_here","_law_amounts","_law_seat_here","_law_award"]
abbrev MP:Da Str:=rE.append ["_law_parts","_law_whole","_law_kept","_law_given","_law_at_here","_law_k"]
def iX:aK MP rE (ay u9):=dh
theorem Lu(F:At K mg "_law_bear" u9 f fd)(aW:mg "len"=none)(a_:mg "range"=none)(fH:mg "sum"=none):Dn P w K mg base 1 "_law_bear" rE (SE K):=by
 refine F.oA iX λ_ _ _ _ H _ Q E hr h=>?_;obtain⟨⟨n,ρ,B,b,l,as,seat,aw,rfl,G,h,wf,hl,cl,ok,q⟩⟩:=h;refine⟨_,(@cO.h _ _ _ (aj (aQ (i:=4) iX.nd (bQ (cA hr) (qv 0) bw))
  (aj (aQ (i:=5) iX.nd (aE (jh K rfl) (by rfl) fH t8 (af (e_ ["_law_part"] [none] rfl (c8 K (qv 4)) (λ_ _ _ _=>(aL (i:=0) (show List.Nodup (["_law_part"] :Da Str)from by decide +kernel))) (λ_ _ _ _=>(aI (aO K) (qv 0) ak)) rfl (by rfl)) ai)))
  (aj (aQ (i:=6) iX.nd (aD lI (aD lI (qv 5) (qv 3)) (aE (jh K rfl) (by rfl) fH t8 (af (qv 1) ai))))
  (aj (aQ (i:=7) iX.nd (d_ ai))
  (aj (dG eU rfl (dP (by rfl) a_ (af (aE (bB K) (by rfl) aW cU (af (bQ (cA hr) (qv 0) bw) ai)) ai)) (aL (i:=8) iX.nd) (au (dN (nv rR tW tX f_ (qv 7) (af (aE (jh K rfl) (by rfl) fH t8 (af (e_ ["_law_k","_law_parts","_law_at_here","_law_amounts"] [none,some 4,some 8,some 1] rfl (dP (by rfl) a_ (af (aE (bB K) (by rfl) aW cU (af (qv 4) ai)) ai)) (λ_ _ _ _=>(aL (i:=0) (show List.Nodup (["_law_k","_law_parts","_law_at_here","_law_amounts"] :Da Str)from by decide +kernel))) (λ_ _ _ _=>(aD jR (aI (aO K) (aI (aO K) (aI (aO K) (qv 1) (qv 0)) ak) (qv 2)) (aI (aO K) (qv 3) (qv 0)))) rfl (by rfl)) ai)) ai)))))
  (aj (iD (aT iH (qv 3) ak (aZ _)) (au (xg (aD bV (aI (aO K) (qv 7) (qv 2)) (aD jR (qv 3) (bQ (cA hr) (qv 0) bw))) (xj (qv 7) (qv 2) set_list))) aR)
  (aj (dG eU rfl (dP (by rfl) a_ (af (aE (bB K) (by rfl) aW cU (af (qv 4) ai)) ai)) (aL (i:=9) iX.nd) (aj (xg (e_ ["_law_at_here","_law_parts","_law_k","_law_kept","_law_given"] [none,some 4,some 9,some 6,some 7] rfl (dP (by rfl) a_ (af (aE (bB K) (by rfl) aW cU (af (qv 7) ai)) ai)) (λ_ _ _ _=>(aL (i:=0) (show List.Nodup (["_law_at_here","_law_parts","_law_k","_law_kept","_law_given"] :Da Str)from by decide +kernel))) (λ_ _ _ _=>(aD bV (aD jR (aI (aO K) (aI (aO K) (aI (aO K) (qv 1) (qv 2)) ak) (qv 0)) (qv 3)) (aI (aO K) (qv 4) (qv 0)))) rfl (by rfl)) (xj (aI (aO K) (qv 4) (qv 9)) ak set_list))
  (au (xg (aD lI (aI (aO K) (aI (aO K) (qv 4) (qv 9)) ak) (aI (aO K) (qv 1) (qv 9))) (xj (aI (aO K) (qv 4) (qv 9)) ak set_list)))))
  (aj (qB (cA hr) (qv 0) bw (aD jR (bQ (cA hr) (qv 0) bw) (qv 5)) rfl)
  (au (qB (cA hr) (qv 0) bw (KG ["_law_part"] [none] rfl (c8 K (qv 4)) (λ_ _ _ _=>(aL (i:=0) (show List.Nodup (["_law_part"] :Da Str)from by decide +kernel))) (λ_ _ _ _=>(qv 0)) (λ_ _ _ _=>(aT iH (aI (aO K) (qv 0) ak) ak (aZ _))) rfl (by rfl)) rfl))))))))))),?_⟩
 have pl:=wf.pl;have nh:(B.qs.map λq=>V.ref q.1).length=b.ao.length:=by rw[aF];exact h.ql
 refine⟨_,Z,B.m,_,Z,cS.k (k:=Sum.inr "parts") h.om,?_⟩;refine⟨_,Z,B.lp,Z,⟨_,aA.of h.op⟩,λl0 kj=>?_⟩;refine fR (J:=sY K B.lp) (n:=b.ao.length) 0 (λi o H'=>aG H H'/\o=((b.ao.take i).map (λp:BP=>p.wo)).map V.int) (by omega) ⟨az kj _,Z⟩ (λi o H' hi _ hp=>⟨_,_,aA.of (hp.1 _ _ h.op),aS (by rw[nh];exact hi)⟩) (λo H' _ hp=>⟨_,aA.of (hp.1 _ _ h.op),by rw[nh];exact aN _⟩) ?_ ?_
 .rintro i y o H2 H3 hi dR ha ⟨g,e⟩ ⟨rfl,hy⟩;have ei:=aS hi;obtain⟨qq,eq,k1,k2,_,_⟩:=h.find ei;have ey:=hy _ (aA.of (g _ _ h.op));rw[bF,eq]at ey;cases ey;refine⟨_,Z,qq.1,_,_,_,Z,Z,aA.of (g _ _ k1),aX (j:=2) rfl,ha,g.bM kj _,?_⟩;subst e;rw[take_snoc ei,br,br];rfl
 rintro o1 H1 _ ha ⟨g1,e⟩;rw[bN]at e;subst e;refine⟨l0,b.ao.map (λp:BP=>p.wo),Z,aA.of ha,?_⟩;show gj 5 (.int (bH b)) _ _ _;refine⟨_,Z,_,Z,_,_,Z,Z,_,Z,l,as,Z,g1.seq hl,_,_,Z,Z,?_⟩;show gj 6 (.int (bH b-aw-as.sum)) _ _ _;generalize ekp:bH b-aw-as.sum=kept at *;have hkp:0<kept:=by rw[<-ekp];exact ok.kept
 have zw:=ok.big;have as0:0<=as.sum:=by
  cases has:as with
  | nil=>exact lZ _
  | cons a l=>exact Int.le_trans (ok.a0 a (by rw[has];exact cg)) (by rw[<-has];exact vE ok.a0 (by rw[has];exact cg))
 have zk:Jm.Sz 60 kept:=zw.of_le (by have:=ok.DM;omega);have za:∀a∈as,Jm.Sz 60 a:=λa hm=>zw.of_le (by have:=ok.a0 a hm;have:=vE ok.a0 hm;have:=ok.DM;omega);have zaw:Jm.Sz 60 aw:=zw.of_le (by have:=ok.DM;omega);have zt:∀p∈b.ao,∀t∈p.tops,Jm.Sz 7000 t:=λp hp t ht=>Jm.Sz.oZ (by have:=wf.t0 p hp t ht;have:=wf.b1;omega) (wf.t0 p hp t ht).2 wf.bz;have h1:=h.mono g1;have hl1:=g1.seq hl;refine⟨(gJ 0),λgv hgv=>?_⟩;have g2:=az hgv (.lst []);have Wv:upd H1 gv (.lst []) gv=some (.lst []):=ah;have VQ:H gv=none:=g1.free hgv;have Tz:=g1.trans g2;show yV _ _ _ _ (upd H1 gv (.lst []));generalize upd H1 gv (.lst [])=H2 at *;have h2:=h.mono Tz;have ol:=wf.ol;have oml:(b.own.map V.str).length=b.own.length:=aF _;refine⟨_,Z,B.m,_,Z,cS.k (k:=Sum.inr "owners") h2.om,B.lo,_,Z,.inl (aA.of h2.oo),_,Z,by omega,by omega,?_⟩;refine fM (lo:=0) (n:=(((b.own.map V.str).length:Nat):Int).toNat) (λi σ H'=>aG H H'/\H' gv=some (.lst (((List.range i).map (iM b.ao as)).map V.int))/\∃s8,σ=[some (.ref B.m),some (.ref l),some (.int (seat:Int)),some (.int aw),some (.ref B.lp),some (.int (bH b)),some (.int kept),some (.ref gv),s8,none])
  ⟨Tz,Wv,_,Z⟩ ?_ ?_
 .rintro i σ H3 hi ⟨g3,Ej,s8,rfl⟩;have e0:(0:Int)+(i:Int)=((i:Nat):Int):=by omega
  rw[e0];have hio:i<b.own.length:=by omega
  refine⟨_,Z,.inl ⟨Z,_,aA.of Ej⟩,_,Z,B.lp,_,Z,.inl (aA.of (g3 _ _ h.op)),_,Z,by omega,by omega,λc hc=>?_⟩;refine fR (J:=Gj 0 _) (n:=b.ao.length) 0 (λj o H'=>aG H3 H'/\o=(List.zipWith (λ(p:BP)(a:Int)=>p.tops.getD i 0*a) (b.ao.take j) (as.take j)).map V.int) (by omega) ⟨az hc _,Z⟩ (λj o H' hj _ _=>by show j<(((B.qs.map λq=>V.ref q.1).length:Nat):Int).toNat;omega) (λo H' _ _=>by show(((B.qs.map λq=>V.ref q.1).length:Nat):Int).toNat<=b.ao.length;omega) ?_ ?_
  .rintro j x o H4 H5 hj dR TF ⟨g4,e4⟩ ⟨rfl,rfl⟩;have e0:(0:Int)+(j:Int)=((j:Nat):Int):=by omega
   rw[e0];have ej:=aS hj;have hja:j<as.length:=by rw[ok.len];exact hj
   have ea:=aS hja;obtain⟨qq,eq,k1,k2,_,_⟩:=h.find ej;have gg:=g3.trans g4;have hti:i<(b.ao[j]).tops.length:=by rw[wf.tl _ (bP ej)];exact hio
   have et:=aS hti;have eD:(b.ao[j]).tops.getD i 0=(b.ao[j]).tops[i] :=by rw[ja,et];rfl
   refine⟨_,Z,_,Z,B.lp,_,_,_,Z,Z,aA.of (gg _ _ h.op),aX (by rw[bF,eq];rfl),qq.1,_,_,_,Z,Z,aA.of (gg _ _ k1),aX (j:=4) rfl,_,Z,qq.2,_,_,_,Z,Z,aA.of (gg _ _ k2),aX (by rw[bF,et];rfl),?_⟩;refine⟨_,Z,_,Z,l,_,_,_,Z,Z,gg.seq hl,aX (by rw[bF,ea];rfl),_,_,Z,Z,jb (zt _ (bP ej) _ (bP et)) (za _ (bP ea)),TF,g4.bM hc _,?_⟩;rw[Ke ej ea,e4,br,eD];rfl
  rintro o H4 _ TF ⟨g4,e4⟩;have e5:List.zipWith (λ(p:BP)(a:Int)=>p.tops.getD i 0*a) (b.ao.take b.ao.length) (as.take b.ao.length)=List.zipWith (λ(p:BP)(a:Int)=>p.tops.getD i 0*a) b.ao as:=by rw[bN,<-ok.len,bN]
  rw[e5]at e4;subst e4;refine⟨c,_,Z,aA.of TF,gv,_,_,Z,Z,g4 _ _ Ej,by rw[aF,aF,BU];exact fq (by omega),(g3.trans g4).bM VQ _,?_,_,Z⟩;rw[ah,List.range_succ,br,br];rfl
 rintro σ H3 ⟨g3,Ej,s8,rfl⟩;rw[show(((b.own.map V.str).length:Nat):Int).toNat=b.own.length from by omega]at Ej;have Ej:H3 gv=some (.lst ((gq b as).map V.int)):=Ej;have h3:=h.mono g3;have gl:=mw b as;refine⟨λσ H'=>aG H H'/\H' gv=some (.lst ((iA b as seat aw).map V.int))/\σ=[some (.ref B.m),some (.ref l),some (.int (seat:Int)),some (.int aw),some (.ref B.lp),some (.int (bH b)),some (.int kept),some (.ref gv),s8,none],?_,?_⟩
 .refine ⟨_,Z,_,_,Z,Z,_,Z,dJ (λc=>?_) (λc=>?_)⟩
  .have c':0<aw:=dI c;have hsl:seat<(gq b as).length:=by rw[gl];exact ok.seat
   have es:=aS hsl;have eD:(gq b as).getD seat 0=(gq b as)[seat] :=by rw[ja,es];rfl
   refine⟨_,Z,_,Z,gv,_,_,_,Z,Z,aA.of Ej,aX (by rw[bF,es];rfl),_,Z,_,Z,B.m,_,Z,cS.k (k:=Sum.inr "bottom") h3.om,_,_,Z,Z,jb zaw wf.bz,_,_,Z,Z,_,Z,_,Z,gv,_,_,_,Z,Z,Ej,by rw[aF];exact AK hsl,g3.bM VQ _,?_,Z⟩;rw[ah];unfold iA;rw[aC c',xN,eD]
  .have c':¬ 0<aw:=ko (jB.mpr c);refine⟨g3,?_,Z⟩;unfold iA;rw[aB c'];exact Ej
 rintro σ H4 ⟨g4,hg4,rfl⟩;have gvl:=ye b as seat aw;generalize egv:iA b as seat aw=given at *;have h4:=h.mono g4;have gmn:(given.map V.int).length=b.own.length:=by rw[aF];exact gvl
 have cgv:ρ gv=none:=G.none VQ;have bl:(dQ b as seat aw).length=b.ao.length:=vD ok.len;refine⟨_,Z,B.lp,_,Z,.inl (aA.of h4.op),_,Z,by omega,by omega,?_⟩;refine fM (lo:=0) (n:=(((B.qs.map λq=>V.ref q.1).length:Nat):Int).toNat) (λi σ H'=>∃ρ' B' s8 s9,σ=[some (.ref B.m),some (.ref l),some (.int (seat:Int)),some (.int aw),some (.ref B.lp),some (.int (bH b)),some (.int kept),some (.ref gv),s8,s9]/\Gh ρ' H'/\bf n ρ' B' H' { b with ao:=(dQ b as seat aw).take i++b.ao.drop i }/\B'.m=B.m/\B'.lp=B.lp/\Fr n ρ H ρ' H'/\H' gv=some (.lst (given.map V.int))/\ρ' gv=none)
  ⟨ρ,B,_,_,Z,G.same g4,h4,Z,Z,Fr.of_same g4,hg4,cgv⟩ ?_ ?_
 .rintro i σ H5 hi ⟨ρ5,B5,s8,s9,rfl,G5,h5,Ek,BJ,F5,OQ,cg5⟩;have e0:(0:Int)+(i:Int)=((i:Nat):Int):=by omega
  rw[e0];have BK:i<b.ao.length:=by omega
  have ei:=aS BK;have lP:=bP ei;have hia:i<as.length:=by rw[ok.len];exact BK
  have ea:=aS hia;have em:((dQ b as seat aw).take i++b.ao.drop i)[i]?=some b.ao[i] :=X8 (by omega) ei;have ebp:=Vp (seat:=seat) (aw:=aw) ei ea;rw[egv,ekp]at ebp;have WH:=wf.tl _ lP;have hzt:=zt _ lP;generalize b.ao[i]=p at *;have hza:=za _ (bP ea);generalize as[i]=a at *;obtain⟨qq,eq,k1,k2,c1,c2⟩:=h5.find em;have op5:H5 B.lp=some (.lst (B5.qs.map λq=>V.ref q.1)):=by rw[<-BJ];exact h5.op
  have OR:(B5.qs.map λq=>V.ref q.1)[i]?=some (.ref qq.1):=by rw[bF,eq];rfl
  refine⟨_,Z,gv,_,Z,.inl (aA.of OQ),_,Z,by omega,by omega,λt1 ht1=>?_⟩;refine fR (J:=Gj 0 _) (n:=b.own.length) 0 (λj o H'=>aG H5 H'/\o=(List.zipWith (λt g=>t*kept+g) (p.tops.take j) (given.take j)).map V.int) (by omega) ⟨az ht1 _,Z⟩ (λj o H' hj _ _=>by show j<(((given.map V.int).length:Nat):Int).toNat;omega) (λo H' _ _=>by show(((given.map V.int).length:Nat):Int).toNat<=b.own.length;omega) ?_ ?_
  .rintro j x o H6 H7 hj dR BL ⟨g6,e6⟩ ⟨rfl,rfl⟩;have e0:(0:Int)+(j:Int)=((j:Nat):Int):=by omega
   rw[e0];have et:=aS (show j<p.tops.length by rw[WH];exact hj);have eg:=aS (show j<given.length by rw[gvl];exact hj);refine⟨_,Z,_,Z,B.lp,_,_,_,Z,Z,aA.of (g6 _ _ op5),aX OR,qq.1,_,_,_,Z,Z,aA.of (g6 _ _ k1),aX (j:=4) rfl,_,Z,qq.2,_,_,_,Z,Z,aA.of (g6 _ _ k2),aX (by rw[bF,et];rfl),?_⟩;refine⟨_,Z,_,_,Z,Z,jb (hzt _ (bP et)) zk,_,Z,_,Z,gv,_,_,_,Z,Z,aA.of (g6 _ _ OQ),aX (by rw[bF,eg];rfl),_,_,Z,Z,BL,g6.bM ht1 _,?_⟩;rw[oz _ et eg,e6,br];rfl
  rintro o H6 _ BL ⟨g6,e6⟩;rw[show p.tops.take b.own.length=p.tops from by rw[<-WH];exact bN,show given.take b.own.length=given from by rw[<-gvl];exact bN]at e6;subst e6;have h6:=h5.mono g6;have G6:=G5.same g6;have ct1:ρ5 t1=none:=G5.none ht1;have h7:bf n (cL ρ5 t1 (n,24,p.nm)) B5 H6 { b with ao:=(dQ b as seat aw).take i++b.ao.drop i }:=h6.col ct1;have G7:Gh (cL ρ5 t1 (n,24,p.nm)) H6:=G6.color BL rfl;have F7:Fr n ρ H (cL ρ5 t1 (n,24,p.nm)) H6:=F5.trans (Fr.color ht1 g6);have ct:cL ρ5 t1 (n,24,p.nm) t1=some (n,24,p.nm):=dX;have cg7:cL ρ5 t1 (n,24,p.nm) gv=none:=by rw[bZ (λz=>by rw[z]at OQ;rw[OQ]at ht1;cases ht1)];exact cg5
  have hg6:=g6 _ _ OQ;have op6:=g6 _ _ op5;have k16:=g6 _ _ k1;have TU:cL ρ5 t1 (n,24,p.nm) qq.1=some (n,23,p.nm):=by rw[bZ (aH k1 ht1)];exact c1
  generalize cL ρ5 t1 (n,24,p.nm)=ρ7 at *;have ndm:(((dQ b as seat aw).take i++b.ao.drop i).map (λp:BP=>p.nm)).Nodup:=by rw[SG ok.len];exact wf.nd
  have nqg:gv≠qq.1:=λz=>by rw[z,TU]at cg7;cases cg7
  generalize eT:List.zipWith (λt g=>t*kept+g) p.tops given=T at *;refine⟨_,Z,_,Z,B.lp,_,_,_,Z,Z,aA.of op6,aX OR,qq.1,_,_,4,Z,Z,k16,Z,?_⟩;have h8:=h7.zy G7 (p1:={ p with tops:=T }) (t1:=t1) em eq rfl ndm BL ct;have G8:=G7.wr (a:=qq.1) (o:=oG { p with tops:=T } t1) rfl;have F8:=F7.trans (Fr.write (o:=oG { p with tops:=T } t1) TU);have k18:upd H6 qq.1 (oG { p with tops:=T } t1) qq.1=some (oG { p with tops:=T } t1):=ah;have hg8:upd H6 qq.1 (oG { p with tops:=T } t1) gv=some (.lst (given.map V.int)):=by rw[av nqg];exact hg6
  have nlp:B.lp≠qq.1:=λz=>by have:=h7.cp;rw[BJ,z,TU]at this;cases this
  have op8:upd H6 qq.1 (oG { p with tops:=T } t1) B.lp=some (.lst (B5.qs.map λq=>V.ref q.1)):=by rw[av nlp];exact op6
  have ntq:t1≠qq.1:=λz=>by rw[z,TU]at ct;cases ct
  have ht8:upd H6 qq.1 (oG { p with tops:=T } t1) t1=some (.lst (T.map V.int)):=by rw[av ntq];exact BL
  generalize hH8:upd H6 qq.1 (HO.lst _)=H8;have abN:upd H6 qq.1 (oG { p with tops:=T } t1)=H8:=hH8;rw[abN]at h8 G8 F8 k18 hg8 op8 ht8;clear hH8 abN;refine⟨_,Z,_,Z,B.lp,_,_,_,Z,Z,aA.of op8,aX OR,qq.1,_,_,_,Z,Z,aA.of k18,aX (j:=2) rfl,?_⟩;refine⟨_,Z,_,Z,l,_,_,_,Z,Z,F8.seq hl cl,aX (by rw[bF,ea];rfl),_,_,Z,Z,?_⟩;refine⟨_,Z,_,Z,B.lp,_,_,_,Z,Z,aA.of op8,aX OR,qq.1,_,_,2,Z,Z,k18,Z,?_⟩;have hiq:i<B5.qs.length:=(d8.mp eq).1;have him:i<((dQ b as seat aw).take i++b.ao.drop i).length:=(d8.mp em).1;have h9:=h8.zy G8 (i:=i) (p0:={ p with tops:=T }) (p1:=nM given kept p a) (q0:=(qq.1,t1)) (t1:=t1) (tY him) (tY hiq) rfl (by show((((dQ b as seat aw).take i++b.ao.drop i).set i { p with tops:=T }).map (λp:BP=>p.nm)).Nodup;rw[xN,vC (by rw[bF,em];rfl)];exact ndm) (by show H8 t1=some (.lst ((List.zipWith (λt g=>t*kept+g) p.tops given).map V.int));rw[eT];exact ht8) ct
  have e9:(((dQ b as seat aw).take i++b.ao.drop i).set i { p with tops:=T }).set i (nM given kept p a)=(dQ b as seat aw).take (i+1)++b.ao.drop (i+1):=by rw[vt];exact X_ ebp BK
  have h9':bf n ρ7 { B5 with qs:=(B5.qs.set i (qq.1,t1)).set i (qq.1,t1) } (upd H8 qq.1 (oG (nM given kept p a) t1)) { b with ao:=(((dQ b as seat aw).take i++b.ao.drop i).set i { p with tops:=T }).set i (nM given kept p a) }:=h9;rw[e9]at h9';exact⟨ρ7,{ B5 with qs:=(B5.qs.set i (qq.1,t1)).set i (qq.1,t1) },_,_,Z,G8.wr rfl,h9',Ek,BJ,F8.trans (Fr.write TU),by rw[av nqg];exact hg8,cg7⟩
 rintro σ H5 ⟨ρ5,B5,s8,s9,rfl,G5,h5,Ek,BJ,F5,OQ,cg5⟩;rw[show(((B.qs.map λq=>V.ref q.1).length:Nat):Int).toNat=b.ao.length from by omega,show(dQ b as seat aw).take b.ao.length=dQ b as seat aw from by rw[<-bl];exact bN,CS,tG]at h5;obtain⟨m5,OS,lp5,OT,OU,OV⟩:=B5;have Ek:m5=B.m:=Ek;have BJ:lp5=B.lp:=BJ;subst Ek BJ;refine⟨_,Z,B.m,_,Z,cS.k (k:=Sum.inr "bottom") h5.om,_,Z,_,_,Z,Z,jb wf.bz zw,_,Z,B.m,_,Z,uc.k (k:=Sum.inr "bottom") h5.om (by show 5<sizeLine;decide),?_⟩;rw[SH];have h6:=h5.X4 G5 (b.bot*bH b);have G6:=G5.wr (a:=B.m) (o:=.dK (fG ⟨B.m,OS,B.lp,OT,OU,OV⟩ (b.bot*bH b))) rfl;have F6:=F5.trans (Fr.write (o:=.dK (fG ⟨B.m,OS,B.lp,OT,OU,OV⟩ (b.bot*bH b))) h5.cm);generalize hH6:upd H5 B.m (HO.dK _)=H6;have abO:upd H5 B.m (.dK (fG ⟨B.m,OS,B.lp,OT,OU,OV⟩ (b.bot*bH b)))=H6:=hH6;have h6:bf n ρ5 ⟨B.m,OS,B.lp,OT,OU,OV⟩ (upd H5 B.m (.dK (fG ⟨B.m,OS,B.lp,OT,OU,OV⟩ (b.bot*bH b)))) { b with ao:=dQ b as seat aw,bot:=b.bot*bH b }:=h6;rw[abO]at h6 G6 F6;clear hH6 abO;refine⟨_,Z,B.lp,Z,⟨_,aA.of h6.op⟩,λlp xm=>aa7 (B:=⟨B.m,OS,B.lp,OT,OU,OV⟩) h6 G6 (by show(dQ b as seat aw).length<=1000;omega) xm λρ8 H7 om7 G9 h9 F9=>?_⟩;exact⟨_,Z,B.m,_,Z,uc.k (k:=Sum.inr "parts") om7 (by show 5<sizeLine;decide),q _ _ _ G9 h9 rfl (F6.trans F9)⟩
abbrev lU:Stmt:=top 43
abbrev jM:Da Str:=["_law_model_here","_law_rows_here"]
abbrev A8:Da Str:=jM.append ["_law_amounts","_law_name_here","_law_amount"]
def jy:aK A8 jM (ay lU):=dh
theorem Ag(F:At K mg "_law_model_cast" lU f fd)(rQ:Dn P w K mg base 1 "_law_at" rP (Ww K))(wB:Dn P w K mg base 1 "_law_bear" rE (SE K)):Dn P w K mg base 2 "_law_model_cast" jM (Oo K):=by
 refine F.oA jy λ_ _ _ _ H _ Q E hr h=>?_;obtain⟨⟨n,ρ,B,b,l,us,rs,rfl,G,h,wf,hl,hR,cl,rb,hle,bo,q⟩⟩:=h;refine⟨_,(@cO.h _ _ _ (aj (oJ (i:=2) ["_law_part"] [none] jy.nd rfl rfl rfl (c8 K (bQ (cA hr) (qv 0) bw)) (λ_ _ _ _=>(aL (i:=0) (show List.Nodup (["_law_part"] :Da Str)from by decide +kernel))) (λ_ _ _ _=>ak) rfl (by rfl) (by rfl))
  (aj (dG eU rfl (c8 K (qv 1)) (iO K (n:=2) rfl (cI (aL (i:=3) jy.nd) (cI (aL (i:=4) jy.nd) iN))) (au (xg (qv 4) (xj (qv 2) (bu rQ hr (af (bQ (cA hr) (qv 0) bw) (af (qv 3) ai))) set_list))))
  (au (dN (bu wB hr (af (qv 0) (af (qv 2) (af ak (af ak ai)))))))))),?_⟩
 have pl:=wf.pl;have nh:(B.qs.map λq=>V.ref q.1).length=b.ao.length:=by rw[aF];exact h.ql
 refine⟨_,Z,B.m,_,Z,cS.k (k:=Sum.inr "parts") h.om,B.lp,Z,⟨_,aA.of h.op⟩,λl0 kj=>?_⟩;refine fR (J:=sY K B.lp) (n:=b.ao.length) 0 (λi o H'=>aG H H'/\o=((b.ao.take i).map λ_=>(0:Int)).map V.int) (by omega) ⟨az kj _,Z⟩ (λi o H' hi _ hp=>⟨_,_,aA.of (hp.1 _ _ h.op),aS (by rw[nh];exact hi)⟩) (λo H' _ hp=>⟨_,aA.of (hp.1 _ _ h.op),by rw[nh];exact aN _⟩) ?_ ?_
 .rintro i y o H2 H3 hi dR ha ⟨g,e⟩ ⟨rfl,hy⟩;refine⟨ha,g.bM kj _,?_⟩;subst e;rw[take_snoc (aS hi),br,br];rfl
 rintro o1 H1 _ ha ⟨g1,e⟩;rw[bN]at e;subst e;have KY:=hR.length;refine⟨_,Z,l,Z,⟨us,g1.seq hl⟩,?_⟩;refine jC (K:=K) (xs:=us) (λi σ H'=>aG H H'/\H' l0=some (.lst ((c7 b (rs.take i)).map V.int))/\∃s3 s4,σ=[some (.ref B.m),some (.ref l),some (.ref l0),s3,s4]) ⟨g1,ha,_,_,Z⟩ (λi σ H' _ hp=>hp.1.seq hl) ?_ ?_
 .rintro i x σ H2 hx ⟨g2,ha2,s3,s4,rfl⟩;obtain⟨a,r,rfl,er,har⟩:=hR.get hx;obtain⟨r1,j,p,hp,e,le⟩:=rb.row r (bP er);have hj:=(d8.mp hp).1;have hn:r.1∉(rs.take i).map (λr:Row=>r.1):=by rw[Aq];exact jX rb.nd (by rw[bF,er];rfl)
  obtain⟨s1,s2⟩:=DO wf.nd hp e hn;have h2:=h.mono g2;refine⟨a,_,Z,cz.of (g2 _ _ har),Z,_,_,Z,_,_,Z,Z,?_⟩;refine⟨_,Z,_,Z,_,Z,B.m,_,Z,cS.k (k:=Sum.inr "parts") h2.om,_,Z,⟨⟨B.lp,_,oH b,j,(p.nm,p.wo),by rw[<-e];rfl,aA.of h2.op,h2.nw,?_,by unfold oH;rw[aF];exact pl,by unfold oH;rw[bF,hp];rfl,?_⟩⟩⟩
  .unfold oH;rw[ig];exact wf.nd
  .refine ⟨l0,_,_,j,Z,Z,ha2,by rw[aF,zT];exact AK hj,g2.bM kj _,?_,_,_,Z⟩;rw[ah,take_snoc er,s1,xN]
 rintro σ H2 ⟨g2,ha2,s3,s4,rfl⟩;rw[KY,bN]at ha2;refine⟨_,Z,_,Z,⟨⟨n,ρ,B,b,l0,c7 b rs,0,0,Z,G.same g2,h.mono g2,wf,aA.of ha2,G.none kj,bo,λρ' B' H' a1 a2 a3 a4=>q ρ' B' H' a1 a2 a3 ((Fr.of_same g2).trans a4)⟩⟩⟩
abbrev sW:Stmt:=top 47
abbrev pV:Da Str:=["_law_script","_law_k","_law_hold","_law_model_here","_law_names_here","_law_many"]
abbrev Lv:Da Str:=pV.append ["_law_at_here","_law_owner","_law_worth","_law_weight"]
def kQ:aK Lv pV (ay sW):=dh
theorem HW{T:TC}(F:At K mg "_law_loads" sW f fd)(aU:Dn P w K mg base 1 "_law_draw" fU (mY K))(wC:Dn P w K mg base 2 "_law_much" rB (JL K))(pW:Dn P w K mg base 2 "_law_new_part" lG GP)(wD:Mn P w K mg base 4 T.hold "load" qZ (Sf T))(aW:mg "len"=none)(a_:mg "range"=none):Dn P w K mg base 5 "_law_loads" pV (Ou T K):=by
 refine F.oA kQ λ_ _ _ _ H _ Q E hr h=>?_
 obtain⟨⟨n,m,ρ,A,B,st,b,a,ln,ns,k,nms,BT,rfl,nm,hh,hb,gd,hS,h63,hk0,hk1,hN,nmN,zx,Ln,hml,aja,en,ep,ek,q⟩⟩:=h
 refine⟨_,(@cO.h _ _ _ (au (dG eU rfl (dP (by rfl) a_ (af (qv 5) ai)) (aL (i:=6) kQ.nd) (aj (aQ (i:=7) kQ.nd (aI (aO K) (bQ (cA hr) (qv 3) bw) (bu aU hr (af (qv 0) (af (aD bV (qv 1) (qv 6)) (af ak (af (aE (bB K) (by rfl) aW cU (af (bQ (cA hr) (qv 3) bw) ai)) ai)))))))
  (aj (aQ (i:=8) kQ.nd (bu wC hr (af (qv 0) (af (aD bV (qv 1) (qv 6)) (af ak ai)))))
  (aj (aQ (i:=9) kQ.nd (bu aU hr (af (qv 0) (af (aD bV (qv 1) (qv 6)) (af ak (af ak ai))))))
  (aj (dN (iV wD hr (qv 2) (af (aI (aO K) (qv 4) (qv 6)) (af (qv 7) (af (qv 8) (af (qv 9) ai))))))
  (au (dN (bu pW hr (af (qv 3) (af (aI (aO K) (qv 4) (qv 6)) (af (qv 7) (af (qv 8) (af (qv 9) ai))))))))))))))),?_⟩
 refine⟨_,Z,_,Z,by omega,by omega,?_⟩
 refine fM (lo:=0) (n:=((BT:Nat):Int).toNat) (λi σ H'=>∃ρ' A' B' st' b' s6 s7 s8 s9,σ=[some (.ref a),some (.int k),some (.ref A.a),some (.ref B.m),some (.ref ln),some (.int (BT:Int)),s6,s7,s8,s9]/\HH T n ρ' A' H' st'/\bf m ρ' B' H' b'/\iU 0 st' b'/\A'.a=A.a/\B'.m=B.m/\b'.own=b.own/\b'.ao.length=i/\b'.fJ.length=i/\st'.nms=nms.take i/\st'.kn=st.kn/\aG (out ρ H) (out ρ' H'))
  ⟨ρ,A,B,st,b,_,_,_,_,Z,hh,hb,gd,Z,Z,Z,by rw[ep];rfl,by rw[ek];rfl,by rw[en];rfl,Z,aG.refl _⟩ ?_ ?_
 . rintro i σ H1 hi ⟨ρ1,A1,B1,st1,b1,s6,s7,s8,s9,rfl,iJ,hb1,Hh,TV,Hg,ON,epl,ekl,WU,ekn,o1⟩
   have e0:(0:Int)+(i:Int)=((i:Nat):Int):=by omega
   rw[e0]
   have him:i<BT:=by omega
   have hin:i<nms.length:=by omega
   have ex:=aS hin
   have exm:=bP ex
   have SX:=zx _ exm
   have hxn:nms[i]∉nms.take i:=jX nmN ex
   generalize nms[i]=x at *
   have BN:=hS _ _ o1
   have hN1:=hN _ _ o1
   have omH:H1 B.m=some (.dK (fG B1 b1.bot)):=by rw[<-Hg];exact hb1.om
   have ol1:(b1.own.map V.str).length=b1.own.length:=aF _
   have ow0:=Hh.own
   refine⟨_,Z,B.m,_,Z,cS.k (k:=Sum.inr "owners") omH,_,Z,_,Z,_,Z,_,_,Z,Z,_,Z,B.m,_,Z,cS.k (k:=Sum.inr "owners") omH,B1.lo,_,Z,.inl (aA.of hb1.oo),dm BN h63 (by omega) (by decide) (by decide) (by omega) λd _ d0 d1=>?_⟩
   obtain⟨jo,o,ejo,eo,eat⟩:=Vk (l:=b1.own) d0 (by omega)
   have hom:o∈b1.own:=bP eo
   refine⟨B1.lo,_,_,_,Z,Z,aA.of hb1.oo,eat,?_⟩
   refine⟨_,Z,_,Z,_,Z,_,_,Z,Z,U4 BN h63 (by omega) (by decide) (by decide) λwo H2 w1 w2 g2=>?_⟩
   refine⟨_,Z,_,Z,_,Z,_,_,Z,Z,dm (g2.seq BN) h63 (by omega) (by decide) (by decide) (by decide) λwe _ v0 v1=>?_⟩
   have ng:=iJ.mono g2
   have o2:=o1.trans (kC (ρ:=ρ1) g2)
   have hN2:=hN _ _ o2
   have exv:(nms.map V.str)[i]?=some (.str x):=by rw[bF,ex];rfl
   have hxs:x∉st1.nms:=by rw[WU];exact hxn
   have eow:=Hh.rel.own
   have hnl:st1.nms.length=i:=by rw[WU,kr];omega
   refine⟨_,Z,A.a,A1.dx,_,Z,by rw[<-TV];exact ng.h.oa,Z,_,Z,_,Z,ln,_,_,_,Z,Z,hN2,aX exv,_,Z,_,Z,_,Z,⟨⟨n,ρ1,A1,st1,x,o,wo,we,by rw[TV];rfl,ng,SX.isNm,hxs,by rw[eow];exact hom,w1,v0,by omega,by rw[Hh.rel.len];omega,λρ3 A3 H3 tD e3 f3=>?_⟩⟩⟩
   have Eg:=(hb1.mono g2).other f3 ng.g (cy nm)
   have o3:=o2.trans f3.out
   have hN3:=hN _ _ o3
   refine⟨_,Z,_,Z,_,Z,ln,_,_,_,Z,Z,hN3,aX exv,_,Z,_,Z,_,Z,⟨⟨m,ρ3,B1,b1,x,o,wo,we,by rw[Hg];rfl,tD.g,Eg,hom,by have:=Hh.lM.ol;omega,by omega,by omega,λρ4 B4 H4 G4 Af e4 f4=>?_⟩⟩⟩
   have qh:=tD.other f4 G4 nm
   refine⟨ρ4,A3,B4,_,_,_,_,_,_,Z,qh,Af,Yi Hh iJ.wf ?_ w1 w2 (by omega) (by omega) SX.isNm hom (by omega),e3.trans TV,e4.trans Hg,ON,?_,?_,?_,ekn,o3.trans f4.out⟩
   . intro hm
     obtain⟨p,hp,e⟩:=bR.mp hm
     obtain⟨j,hj,ej⟩:=t9 hp
     obtain⟨p',DR,e1,_⟩:=Hh.rel.at (i:=j) (q:=p) (by rw[aS hj,ej])
     have:=iJ.wf.sub p' (bP DR)
     rw[e1]at this
     have e:p.nm=x:=e
     rw[e]at this
     exact hxs this
   . show(b1.ao++[_]).length=i+1
     rw[cV,epl];rfl
   . show(b1.fJ++[_]).length=i+1
     rw[cV,ekl];rfl
   . show st1.nms++[x]=nms.take (i+1)
     rw[WU,take_snoc ex]
 rintro σ H1 ⟨ρ1,A1,B1,st1,b1,s6,s7,s8,s9,rfl,iJ,hb1,Hh,TV,Hg,ON,epl,ekl,WU,ekn,o1⟩
 exact q ρ1 A1 B1 H1 st1 b1 iJ hb1 Hh TV Hg ON (by rw[epl];omega) ekn o1
abbrev u_:Stmt:=top 58
abbrev rF:Da Str:=["_law_rows_here"]
abbrev MQ:Da Str:=rF.append ["_law_things","_law_name_here","_law_amount"]
def pX:aK MQ rF (ay u_):=dh
theorem Lw(F:At K mg "_law_flat" u_ f fd)(gQ:mg "tuple"=none):Dn P w K mg base 1 "_law_flat" rF (To K):=by
 refine F.oA pX λ_ _ _ _ H _ Q E hr h=>?_;obtain⟨⟨l,us,rs,rfl,hl,hR,hle,q⟩⟩:=h;refine⟨_,(@cO.h _ _ _ (aj (aQ (i:=1) pX.nd (d_ (af bw ai)))
  (aj (dG eU rfl (c8 K (qv 0)) (iO K (n:=2) rfl (cI (aL (i:=2) pX.nd) (cI (aL (i:=3) pX.nd) iN))) (aj (dN (nv rR tW tX f_ (qv 1) (af (qv 2) ai)))
  (au (dN (nv rR tW tX f_ (qv 1) (af (qv 3) ai))))))
  (au (aP (oK Hi (by rfl) gQ Jc (af (qv 1) ai))))))),?_⟩
 have KY:=hR.length;refine⟨(gJ 1),λt ht=>?_⟩;have g0:=az ht (.lst [.str "cast"]);have h0:upd H t (.lst [.str "cast"]) t=some (.lst (Dd.v (.cast (rs.take 0)))):=ah;show yV _ _ _ _ (upd H t (.lst [.str "cast"]));generalize upd H t (.lst [.str "cast"])=H0 at *;refine⟨_,Z,l,Z,⟨us,g0.seq hl⟩,?_⟩;refine jC (K:=K) (xs:=us) (λi σ H'=>aG H H'/\H' t=some (.lst (Dd.v (.cast (rs.take i))))/\∃s2 s3,σ=[some (.ref l),some (.ref t),s2,s3]) ⟨g0,h0,_,_,Z⟩ (λi σ H' _ hp=>hp.1.seq hl) ?_ ?_
 .rintro i x σ H' hx ⟨g,hd',s2,s3,rfl⟩;obtain⟨a,r,rfl,er,ha⟩:=hR.get hx;have hlt:(Dd.v (.cast (rs.take i))).length+1<sizeLine:=by show(dD (rs.take i)).length+1+1<_;rw[vH,kr,eW];exact Jf (show _<=3000 by omega) (by decide)
  refine⟨a,_,Z,cz.of (g _ _ ha),Z,_,_,Z,_,_,Z,Z,?_⟩;refine⟨_,Z,.inl ⟨Z,_,aA.of hd'⟩,_,Z,t,_,_,Z,Z,hd',by omega,?_⟩;refine⟨_,Z,.inl ⟨Z,_,aA.of ah⟩,_,Z,t,_,_,Z,Z,ah,by rw[cV];exact hlt,?_⟩;refine⟨?_,?_,_,_,Z⟩
  .rw [qm];exact g.bM ht _
  .rw [ah,take_snoc er];show some (HO.lst ((V.str "cast"::dD (rs.take i)++[V.str r.1])++[V.int r.2]))=some (HO.lst (V.str "cast"::dD (rs.take i++[r])));rw[pC];simp[dD]
 rintro σ H' ⟨g,hd',s2,s3,rfl⟩;rw[KY,bN]at hd';refine⟨_,Z,t,_,Z,.inl ⟨aA.of hd',λz hz=>q z _ (g.trans (az hz _)) ah⟩⟩
abbrev nX:Stmt:=top 36
abbrev lH:Da Str:=["_law_model_here","_law_deed"]
abbrev El:Da Str:=lH.append ["_law_named","_law_asked","_law_name_here","_law_k","_law_at_here"]
def gR:aK El lH (ay nX):=dh
theorem CI(F:At K mg "_law_due_cast" nX f fd)(rQ:Dn P w K mg base 1 "_law_at" rP (DZ K))(aW:mg "len"=none)(a_:mg "range"=none)(fH:mg "sum"=none):Dn P w K mg base 2 "_law_due_cast" lH (IZ yh K):=by
 refine F.oA gR λ_ _ _ _ H _ Q E hr h=>?_;obtain⟨⟨n,ρ,B,b,st,z,d,rfl,hz,hb,rl,wf,wb,kn,ha,db,q⟩⟩:=h;refine⟨_,(@cO.h _ _ _ (aj (oJ (i:=2) ["_law_k","_law_deed"] [none,some 1] gR.nd rfl rfl rfl (vI (by rfl) a_ (af ak (af (aE (bB K) (by rfl) aW cU (af (qv 1) ai)) (af ak ai)))) (λ_ _ _ _=>(aL (i:=0) (show List.Nodup (["_law_k","_law_deed"] :Da Str)from by decide +kernel))) (λ_ _ _ _=>(aI (bY K) (qv 1) (qv 0))) rfl (by rfl) (by rfl))
  (aj (oJ (i:=3) ["_law_k","_law_deed"] [none,some 1] gR.nd rfl rfl rfl (vI (by rfl) a_ (af ak (af (aE (bB K) (by rfl) aW cU (af (qv 1) ai)) (af ak ai)))) (λ_ _ _ _=>(aL (i:=0) (show List.Nodup (["_law_k","_law_deed"] :Da Str)from by decide +kernel))) (λ_ _ _ _=>(aI (bY K) (qv 1) (qv 0))) rfl (by rfl) (by rfl))
  (aj (cE (aT i6 (aE (bB K) (by rfl) aW cU (af (qv 2) ai)) ak (aZ _)) (au (aP ak)) aR)
  (aj (dG eU rfl (c8 K (qv 2)) (aL (i:=4) gR.nd) (au (cE (aT iH (nv rR PySem.F.slot_list_count PySem.F.type_list_count (Tq K) (qv 2) (af (qv 4) ai)) ak (aZ _)) (au (aP ak)) aR)))
  (aj (dG eU rfl (dP (by rfl) a_ (af (aE (bB K) (by rfl) aW cU (af (qv 2) ai)) ai)) (aL (i:=5) gR.nd) (aj (aQ (i:=6) gR.nd (bu rQ hr (af (bQ (cA hr) (qv 0) bw) (af (aI (aO K) (qv 2) (qv 5)) ai))))
  (aj (cE (aT Ay (qv 6) ak (aZ _)) (au (aP ak)) aR)
  (aj (cE (aT Ay (aI (aO K) (qv 3) (qv 5)) ak (aZ _)) (au (aP ak)) aR)
  (au (cE (aT iH (aI (aO K) (qv 3) (qv 5)) (aI (aO K) (aI (aO K) (bQ (cA hr) (qv 0) bw) (qv 6)) ak) (aZ _)) (au (aP ak)) aR))))))
  (aj (cE (aT IM (aE (jh K rfl) (by rfl) fH t8 (af (qv 3) ai)) (aE (jh K rfl) (by rfl) fH t8 (af (e_ ["_law_part"] [none] rfl (c8 K (bQ (cA hr) (qv 0) bw)) (λ_ _ _ _=>(aL (i:=0) (show List.Nodup (["_law_part"] :Da Str)from by decide +kernel))) (λ_ _ _ _=>(aI (aO K) (qv 0) ak)) rfl (by rfl)) ai)) (aZ _)) (au (aP ak)) aR)
  (au (aP (AS wL ak)))))))))),?_⟩
 obtain⟨rs,rfl⟩:∃rs,d =.cast rs:=by
  cases d with
  | cast rs=>exact⟨rs,Z⟩
  | _=>exact ha.elim
 have q0:∀H',aG H H'->Q (.int (aaY (jm st rs))) H':=q;have hrl:=ha.1;refine⟨_,Z,z,_,Z,.inr hz,_,_,_,Z,⟨by decide,by decide,by omega,by rw[gr];omega,by decide,by decide⟩,?_⟩;rw[gr,KQ];intro l1 n1;refine fR (J:=EY 1 2 rs.length) (n:=rs.length) 0 (λi out H1=>aG H H1/\out=((rs.take i).map λr:Row=>r.1).map V.str) (by omega) ⟨az n1 _,Z⟩ (λi o H' hi _ _=>hi) (λo H' _ _=>aN _) ?_ ?_
 .rintro i x out H1 H2 hi dR ha1 ⟨g,e⟩ ⟨rfl,rfl⟩;have ei:=aS hi;generalize rs[i]=r at *;obtain⟨c1,c2⟩:=AV ei;have e1:(1:Int)+(i:Int)*2=((1+2*i:Nat):Int):=by omega
  rw[e1];refine⟨_,Z,_,Z,z,_,_,_,Z,Z,g.tup hz,aX c1,ha1,g.bM n1 _,?_⟩;rw[e,take_snoc ei,br,br];rfl
 rintro o1 H1 _ hl1 ⟨g1,e⟩;rw[bN]at e;subst e;have hz1:=g1.tup hz;refine⟨_,Z,z,_,Z,.inr hz1,_,_,_,Z,⟨by decide,by decide,by omega,by rw[gr];omega,by decide,by decide⟩,?_⟩;rw[gr,aa_];intro l2 n2;refine fR (J:=EY 2 2 rs.length) (n:=rs.length) 0 (λi out H2=>aG H1 H2/\out=((rs.take i).map λr:Row=>r.2).map V.int) (by omega) ⟨az n2 _,Z⟩ (λi o H' hi _ _=>hi) (λo H' _ _=>aN _) ?_ ?_
 .rintro i x out H2 H3 hi dR ha1 ⟨g,e⟩ ⟨rfl,rfl⟩;have ei:=aS hi;generalize rs[i]=r at *;obtain⟨c1,c2⟩:=AV ei;have e1:(2:Int)+(i:Int)*2=((2+2*i:Nat):Int):=by omega
  rw[e1];refine⟨_,Z,_,Z,z,_,_,_,Z,Z,g.tup hz1,aX c2,ha1,g.bM n2 _,?_⟩;rw[e,take_snoc ei,br,br];rfl
 rintro o2 H2 _ hl2 ⟨g2,e⟩;rw[bN]at e;subst e;have hs1:aA K H2 l1 ((rs.map λr:Row=>r.1).map V.str):=aA.of (g2 _ _ hl1);have hs2:aA K H2 l2 ((rs.map λr:Row=>r.2).map V.int):=aA.of hl2;have gA:=g1.trans g2;have q2:=q0 H2 gA;have hb2:=hb.mono gA;clear hb hz hz1 hl1 hl2 q;refine⟨_,Z,l1,_,Z,.inl hs1,Z,_,Z,?_⟩;by_cases ne:rs=[]
 .subst ne;exact mP (by rw[zY (λz=>z.1 rfl)]at q2;exact q2)
 have hpos:0<rs.length:=List.length_pos_iff.mpr ne;rw[dz (λe=>by have:=V.int.inj e;rw[aF,aF]at this;omega)];refine cF ?_;refine⟨_,Z,l1,Z,⟨_,hs1⟩,?_⟩;refine jC (K:=K) (xs:=(rs.map λr:Row=>r.1).map V.str) (λi σ H'=>H'=H2/\(∀x∈(rs.map λr:Row=>r.1).take i,(rs.map λr:Row=>r.1).count x<=1)/\∃s4 s5 s6,σ=[some (.ref B.m),some (.ref z),some (.ref l1),some (.ref l2),s4,s5,s6]) ⟨Z,(λx hx=>nomatch hx),_,_,_,Z⟩ (λi σ H' _ hp=>by rw[hp.1];exact hs1) ?_ ?_
 .rintro i x σ H' hx ⟨rfl,h0,s4,s5,s6,rfl⟩;rw[bF]at hx;obtain⟨y,ey,rfl⟩:=kT.mp hx;refine⟨_,Z,.inl ⟨Z,_,hs1⟩,_,Z,l1,_,y,Z,Z,hs1,_,_,Z,Z,_,Z,dJ (λc=>?_) (λc=>?_)⟩
  .have c':(1:Int)<((rs.map λr:Row=>r.1).count y:Nat):=dI c;rw[zY (λz=>by have:=Ct.mp z.2 y;omega)]at q2;exact q2
  have c':¬ (1:Int)<((rs.map λr:Row=>r.1).count y:Nat):=ko (jB.mpr c);refine⟨Z,λx hx=>?_,_,_,_,Z⟩;rw[take_snoc ey]at hx;rcases fj.mp hx with h|h
  .exact h0 _ h
  .rw [eL.mp h];omega
 rintro σ H' ⟨rfl,h0,s4,s5,s6,rfl⟩;rw[aF,bN]at h0;have nd:(rs.map λr:Row=>r.1).Nodup:=Ct.mpr λx=>by
  by_cases m:x∈rs.map λr:Row=>r.1
  .exact h0 x m
  .rw [List.count_eq_zero_of_not_mem m];omega
 have ln:((((rs.map λr:Row=>r.1).map V.str).length:Nat):Int).toNat=rs.length:=by rw[aF,aF];omega
 refine⟨_,Z,l1,_,Z,.inl hs1,_,Z,by omega,by rw[aF,aF];omega,?_⟩;refine fM (lo:=0) (n:=((((rs.map λr:Row=>r.1).map V.str).length:Nat):Int).toNat) (λi σ uy=>uy=H'/\(∀r∈rs.take i,iB st r=none)/\∃s4 s5 s6,σ=[some (.ref B.m),some (.ref z),some (.ref l1),some (.ref l2),s4,s5,s6]) ⟨Z,(λr hr=>nomatch hr),_,_,_,Z⟩ ?_ ?_
 .rintro i σ uy hi ⟨rfl,h0,s4,s5,s6,rfl⟩;have e0:(0:Int)+(i:Int)=((i:Nat):Int):=by omega
  rw[e0];rw[ln]at hi;have er:=aS hi;generalize rs[i]=r at *;have no:∀k,iB st r=some k->Q (.int (k:Nat)) uy:=λk hk=>by rw[G1 ne nd h0 er hk]at q2;exact q2
  refine⟨_,Z,B.m,_,Z,cS.k (k:=Sum.inr "parts") hb2.om,_,Z,_,Z,l1,_,_,_,Z,Z,hs1,aX (by rw[bF,bF,er];rfl),Yu hb2 rl wf wb (λip p q' k1 k2 k3 k4 k5 k6 k7 k8 hm=>?_) λhm=>?_⟩;rotate_left
  .refine ⟨_,Z,_,_,Z,Z,_,Z,dJ (λ_=>?_) (λc=>absurd (cu (by show(-1:Int)<0;decide)) c)⟩;exact no 3 (by unfold iB;rw[aB hm])
  refine⟨_,Z,_,_,Z,Z,_,Z,dJ (λc=>absurd (dI c) (by show ¬ (ip:Int)<0;omega)) (λ_=>?_)⟩;have ea:nZ ((rs.map λr:Row=>r.2).map V.int) (i:Int)=some (.int r.2):=aX (by rw[bF,bF,er];rfl);refine⟨_,Z,_,Z,l2,_,_,_,Z,Z,hs2,ea,_,_,Z,Z,_,Z,dJ (λc=>?_) (λc=>?_)⟩
  .exact no 5 (by unfold iB;rw[aC hm,aC (dI c)])
  have c5:¬ r.2<1:=ko (jB.mpr c);obtain⟨qq,Wy,r1,_⟩:=hb2.find k2;have OR:nZ (B.qs.map λq=>V.ref q.1) (ip:Int)=some (.ref qq.1):=aX (by rw[bF,Wy];rfl);refine⟨_,Z,_,Z,l2,_,_,_,Z,Z,hs2,ea,_,Z,B.m,_,Z,cS.k (k:=Sum.inr "parts") hb2.om,_,Z,B.lp,_,_,_,Z,Z,aA.of hb2.op,OR,qq.1,_,_,_,Z,Z,aA.of r1,aX (j:=2) rfl,_,_,Z,Z,_,Z,dJ (λc=>?_) (λc=>?_)⟩
  .have c':q'.wo<r.2:=dI c;exact no 6 (by unfold iB;rw[aC hm,aB c5,k8,<-k6,aC c'])
  have c':¬ q'.wo<r.2:=ko (jB.mpr c);have hN:iB st r=none:=by unfold iB;rw[aC hm,aB c5,k8,<-k6,aB c']
  refine⟨Z,λr' hr'=>?_,_,_,_,Z⟩;rw[take_snoc er]at hr';rcases fj.mp hr' with h|h
  .exact h0 _ h
  .rw [eL.mp h];exact hN
 rintro σ uy ⟨rfl,h0,s4,s5,s6,rfl⟩;rw[ln,bN]at h0;clear q2;have nh:(B.qs.map λq=>V.ref q.1).length=b.ao.length:=by rw[aF];exact hb2.ql
 have pl:=wb.pl;refine⟨_,Z,l2,_,Z,hs2,_,Z,B.m,_,Z,cS.k (k:=Sum.inr "parts") hb2.om,B.lp,Z,⟨_,aA.of hb2.op⟩,λac hac=>?_⟩;refine fR (J:=sY K B.lp) (n:=b.ao.length) 0 (λi o H'=>aG uy H'/\o=((b.ao.take i).map (λp:BP=>p.wo)).map V.int) (by omega) ⟨az hac _,Z⟩ (λi o H' hi _ hp=>⟨_,_,aA.of (hp.1 _ _ hb2.op),aS (by rw[nh];exact hi)⟩) (λo H' _ hp=>⟨_,aA.of (hp.1 _ _ hb2.op),by rw[nh];exact aN _⟩) ?_ ?_
 .rintro j y o H2 H3 hj dR ha ⟨g,e⟩ ⟨rfl,hy⟩;have ej:=aS hj;obtain⟨qq,eq,k1,k2,_,_⟩:=hb2.find ej;have ey:=hy _ (aA.of (g _ _ hb2.op));rw[bF,eq]at ey;cases ey;refine⟨_,Z,qq.1,_,_,_,Z,Z,aA.of (g _ _ k1),aX (j:=2) rfl,ha,g.bM hac _,?_⟩;subst e;rw[take_snoc ej,br,br];rfl
 rintro o1 H2 _ ha1 ⟨g3,e⟩;rw[bN]at e;subst e;have ew:bh st=(b.ao.map (λp:BP=>p.wo)).sum:=rl.whole;have q3:=q0 H2 (gA.trans g3);rw[zZ ne nd h0]at q3;refine⟨ac,b.ao.map (λp:BP=>p.wo),Z,aA.of ha1,_,_,Z,Z,_,Z,dJ (λc=>?_) (λc=>?_)⟩
 .have c':bh st<=bq rs:=by rw[ew];exact dI c
  rw[aC c']at q3;exact q3
 .have c':¬ bh st<=bq rs:=by rw[ew];exact ko (jB.mpr c)
  rw[aB c']at q3;exact⟨1,Z,q3⟩
abbrev wF:Stmt:=top 37
abbrev tT:Da Str:=["_law_model_here","_law_deed"]
abbrev QL:Da Str:=tT
def MR:aK QL tT (ay wF):=dh
def MS(F:At K mg "_law_due" wF f fd)(pY:Dn P w K mg base 2 "_law_due_cast" lH (IZ yh K)):Dn P w K mg base 3 "_law_due" tT (IZ yh K):=by
 refine F.oA MR λ_ _ _ _ H _ Q E hr h=>?_;obtain⟨⟨n,ρ,B,b,st,z,d,rfl,hz,hb,rl,wf,wb,kn,ha,db,q⟩⟩:=h;refine⟨_,(@cO.h _ _ _ (aj (cE (aT i6 (aI (bY K) (qv 1) ak) bw (aZ _)) (au (aP (bu pY hr (af (qv 0) (af (qv 1) ai))))) aR)
  (au (aP (AS wL ak))))),?_⟩
 obtain⟨rs,rfl⟩:∃rs,d =.cast rs:=by
  cases d with
  | cast rs=>exact⟨rs,Z⟩
  | _=>exact ha.elim
 refine⟨_,Z,z,_,_,_,Z,Z,hz,aX (j:=0) rfl,Z,_,Z,dJ (λ_=>?_) (λc=>absurd (cu rfl) c)⟩;exact⟨_,Z,_,Z,⟨⟨n,ρ,B,b,st,z,.cast rs,Z,hz,hb,rl,wf,wb,kn,ha,db,q⟩⟩⟩
abbrev pZ:Stmt:=top 32
abbrev mH:Da Str:=["_law_hold","_law_deed"]
abbrev FL:Da Str:=mH
def Em:aK FL mH (ay pZ):=dh
theorem En{T:TC}{e:Ec}(F:At K mg "_law_hold_do" pZ f fd)(vc:Mx P w K mg base 4 T.hold "cast" q_ (OD T K e))(aW:mg "len"=none)(a_:mg "range"=none):Dx P w K mg base 6 "_law_hold_do" mH (Ky T e yh K):=by
 refine F.KL Em λ_ _ _ _ H _ Q E hr h=>?_;obtain⟨⟨n,ρ,A,st,z,d,rfl,hz,hh,ha,dq⟩⟩:=h;refine⟨_,(@cO.h _ _ _ (aj (cE (aT i6 (aI (bY K) (qv 1) ak) bw (aZ _)) (au (aP (OA vc hr (qv 0) (af (e_ ["_law_k","_law_deed"] [none,some 1] rfl (vI (by rfl) a_ (af ak (af (aE (bB K) (by rfl) aW cU (af (qv 1) ai)) (af ak ai)))) (λ_ _ _ _=>(aL (i:=0) (show List.Nodup (["_law_k","_law_deed"] :Da Str)from by decide +kernel))) (λ_ _ _ _=>(iC (af (aI (bY K) (qv 1) (qv 0)) (af (aI (bY K) (qv 1) (aD bV (qv 0) ak)) ai)))) rfl (by rfl)) ai)))) aR)
  (au (aP aa2)))),?_⟩
 cases d with
 | cast rs=>
  obtain⟨hrl,ok⟩:=ha;refine⟨_,Z,z,_,_,_,Z,Z,hz,aX (j:=0) rfl,Z,_,Z,dJ (λc=>?_) (λc=>absurd (cu rfl) c)⟩;refine⟨_,Z,A.a,A.dx,_,Z,hh.h.oa,Z,_,Z,z,_,Z,.inr hz,_,_,_,Z,⟨by decide,by decide,by omega,by rw[gr];omega,by decide,by decide⟩,?_⟩;rw[gr,KQ];intro BM Bn;refine fR (J:=EY 1 2 rs.length) (n:=rs.length) 0 (λi out H1=>aG H H1/\fB H1 out (rs.take i)) (by omega) ⟨az Bn _,.nil⟩ (λi o H' hi _ _=>hi) (λo H' _ _=>aN _) ?_ ?_
  .rintro i x out H1 H2 hi dR ha ⟨g,R⟩ ⟨rfl,rfl⟩;have ei:=aS hi;generalize rs[i]=r at *;obtain⟨c1,c2⟩:=AV ei;have e1:(1:Int)+(i:Int)*2=((1+2*i:Nat):Int):=by omega
   have e2:((1+2*i:Nat):Int)+1=((2+2*i:Nat):Int):=by omega
   rw[e1];refine⟨_,Z,_,Z,z,_,_,_,Z,Z,g.tup hz,aX c1,_,Z,_,Z,_,_,Z,Z,z,_,_,_,Z,Z,g.tup hz,by rw[e2];exact aX c2,(gJ 2),λp hp=>?_⟩;have g6:=az hp (uz r);refine⟨g6 _ _ ha,(g.trans g6).bM Bn _,?_⟩;rw[take_snoc ei];exact((R.mono g6.tups).snoc ah).mono (iK (.inr ⟨_,g6 _ _ ha,Z⟩))
  rintro out H1 dR ha ⟨g,R⟩;rw[bN]at R;exact⟨⟨n,ρ,A,st,BM,out,rs,Z,hh.mono g,aA.of ha,R,hrl,ok,⟨λi hi=>(dq.no i hi).mono g,λh0 ρ' A' H' a1 a2 a3=>dq.ok h0 ρ' A' H' a1 a2 ((Fr.of_same g).trans a3)⟩⟩⟩
 | _=>exact ha.elim
abbrev sX:Stmt:=top 33
abbrev p_:Da Str:=["_law_hold","_law_deed"]
abbrev Lx:Da Str:=p_.append ["_law_told","e"]
def jd:aK Lx p_ (ay sX):=dh
def HX{T:TC}{e:Ec}{al:HS->Dd->Prop}(F:At K mg "_law_tried" sX f fd)(qa:Dx P w K mg base 6 "_law_hold_do" mH (Ky T e al K))(to:∀st d i,al st d->uH st d=some i->Told K e (e.at i) i)(aM:mg "isinstance"=none)(vd:mg "ValueError"=none)(Ah:mg "BadName"=some (.ref e.bad))(FN:mg "Twice"=some (.ref e.twice))(Ai:mg "NoOwner"=some (.ref e.DV))(qF:mg "NoPart"=some (.ref e.rM))(yp:mg "NoVoyage"=some (.ref e.DW))(kR:mg "BadNumber"=some (.ref e.rN))(jv:mg "TooMuch"=some (.ref e.v7))(lN:mg "BadRows"=some (.ref e.rows))(CJ:mg "NoDeed"=some (.ref e.Ku))(yq:mg "BadPaper"=some (.ref e.DX))(qb:mg "JettisonError"=some (.ref e.VD)):Dn P w K mg base 7 "_law_tried" p_ (Fc T al K):=by
 refine F.oA jd λ_ _ _ _ H _ Q E hr h=>?_
 obtain⟨⟨n,ρ,A,st,z,d,rfl,hz,hh,ha,q2,q⟩⟩:=h
 refine⟨_,(@cO.h _ _ _ (aj (aQ (i:=2) jd.nd (d_ ai))
  (aj (aa0 (j:=3) jd.nd rfl rfl (λ_ _ z=>z) rfl rfl (aa1 qa hr (λ_ _ z=>z) (af (qv 0) (af (qv 1) ai))) (by rfl) qb (λ_=>(aj (aQ (i:=2) jd.nd (d_ (af (aE (fC K rfl) (by rfl) aM jO (af (qv 3) (af (jq (n:="ValueError") (by rfl) rfl vd) ai))) (af (aE (fC K rfl) (by rfl) aM jO (af (qv 3) (af (jZ (v:=.ref _) (by rfl) Ah rfl) ai))) (af (aE (fC K rfl) (by rfl) aM jO (af (qv 3) (af (jZ (v:=.ref _) (by rfl) FN rfl) ai))) (af (aE (fC K rfl) (by rfl) aM jO (af (qv 3) (af (jZ (v:=.ref _) (by rfl) Ai rfl) ai))) ai))))))
  (aj (aQ (i:=2) jd.nd (aD mX (qv 2) (d_ (af (aE (fC K rfl) (by rfl) aM jO (af (qv 3) (af (jZ (v:=.ref _) (by rfl) qF rfl) ai))) (af (aE (fC K rfl) (by rfl) aM jO (af (qv 3) (af (jZ (v:=.ref _) (by rfl) yp rfl) ai))) (af (aE (fC K rfl) (by rfl) aM jO (af (qv 3) (af (jZ (v:=.ref _) (by rfl) kR rfl) ai))) ai))))))
  (au (aQ (i:=2) jd.nd (aD mX (qv 2) (d_ (af (aE (fC K rfl) (by rfl) aM jO (af (qv 3) (af (jZ (v:=.ref _) (by rfl) jv rfl) ai))) (af (aE (fC K rfl) (by rfl) aM jO (af (qv 3) (af (jZ (v:=.ref _) (by rfl) lN rfl) ai))) (af (aE (fC K rfl) (by rfl) aM jO (af (qv 3) (af (jZ (v:=.ref _) (by rfl) CJ rfl) ai))) (af (aE (fC K rfl) (by rfl) aM jO (af (qv 3) (af (jZ (v:=.ref _) (by rfl) yq rfl) ai))) ai))))))))))))
  (au (aP (qv 2)))))),?_⟩
 refine⟨eV _,λl0 kj=>?_⟩
 have g0:aG H (upd H l0 (.lst [])):=az kj _
 have h0:upd H l0 (.lst []) l0=some (.lst []):=ah
 generalize upd H l0 (.lst [])=H0 at g0 h0
 refine⟨_,Z,_,Z,⟨⟨n,ρ,A,st,z,d,Z,g0.tup hz,hh.mono g0,ha,⟨λi hi x H1 g1=>⟨_,Z,(to st d i ha hi).jt,λy hy=>?_⟩,λhn ρ' A' H' D0 ea F'=>⟨Z,?_⟩⟩⟩⟩⟩
 . have g2:=az hy (Cm y (e.at i))
   refine Ql (i:=2) (j:=3) (to st d i ha hi) rfl (show 2<4 from by decide) (by decide) ah λl H2 g3 hl2=>?_
   exact⟨_,Z,q2 i hi l _ (g0.trans (g1.trans (g2.trans g3))) hl2⟩
 . obtain⟨a1,a2⟩:=F'.at h0 (hh.g.none kj)
   exact⟨_,Z,q hn l0 ρ' A' H' D0 ea ((Fr.of_same g0).trans F') a1 a2 kj⟩
abbrev lV:Stmt:=top 38
abbrev jN:Da Str:=["_law_script","_law_k","_law_model_here","_law_word"]
abbrev A_:Da Str:=jN.append ["_law_some"]
def jz:aK A_ jN (ay lV):=dh
theorem Aj(F:At K mg "_law_other_word" lV f fd)(aU:Dn P w K mg base 1 "_law_draw" fU (mY K))(aW:mg "len"=none):Dn P w K mg base 2 "_law_other_word" jN (BH K):=by
 refine F.oA jz λ_ _ _ _ H _ Q E hr h=>?_;obtain⟨⟨a,ms,k,n,ρ,B,b,x,rfl,hS,h63,hk,hb,bk,hx,q⟩⟩:=h;refine⟨_,(@cO.h _ _ _ (aj (aQ (i:=4) jz.nd (aD mX (aD mX (aD mX (bQ (cA hr) (qv 2) bw) (e_ ["_law_part"] [none] rfl (c8 K (bQ (cA hr) (qv 2) bw)) (λ_ _ _ _=>(aL (i:=0) (show List.Nodup (["_law_part"] :Da Str)from by decide +kernel))) (λ_ _ _ _=>(aI (aO K) (qv 0) ak)) rfl (by rfl))) (bQ (cA hr) (qv 2) bw)) (d_ (af bw ai))))
  (aj (aQ (i:=4) jz.nd (aD mX (qv 4) (d_ (af (aD qx (qv 3) bw) (af (nN wZ (qv 3) qz (qy ak)) (af (nN wZ (qv 3) (qy ak) qz) (af (aD qx (qv 3) bw) (af (aD qx bw (nN wZ (qv 3) (qy ak) qz)) (af (aD qx (aD qx (qv 3) (qv 3)) bw) ai)))))))))
  (aj (aQ (i:=4) jz.nd (aD mX (qv 4) (d_ (af (aD qx bw (qv 3)) (af bw (af (aD qx (nN wZ (qv 3) qz (qy ak)) bw) ai))))))
  (au (aP (nN wZ (aI (aO K) (qv 4) (bu aU hr (af (qv 0) (af (qv 1) (af ak (af (aE (bB K) (by rfl) aW cU (af (qv 4) ai)) ai)))))) qz (qy ak)))))))),?_⟩
 have nh:(B.qs.map λq=>V.ref q.1).length=b.ao.length:=by rw[aF];exact hb.ql
 have pl:=bk.pl;have kl:=bk.kl;have ol:=bk.ol;refine⟨_,Z,B.m,_,Z,cS.k (k:=Sum.inr "known") hb.om,?_⟩;refine⟨_,Z,B.m,_,Z,cS.k (k:=Sum.inr "parts") hb.om,B.lp,Z,⟨_,aA.of hb.op⟩,λac hac=>?_⟩;refine fR (J:=sY K B.lp) (n:=b.ao.length) 0 (λi o H'=>aG H H'/\o=((b.ao.take i).map (λp:BP=>p.nm)).map V.str) (by omega) ⟨az hac _,Z⟩ (λi o H' hi _ hp=>⟨_,_,aA.of (hp.1 _ _ hb.op),aS (by rw[nh];exact hi)⟩) (λo H' _ hp=>⟨_,aA.of (hp.1 _ _ hb.op),by rw[nh];exact aN _⟩) ?_ ?_
 .rintro j y o H2 H3 hj dR ha ⟨g,e⟩ ⟨rfl,hy⟩;have ej:=aS hj;obtain⟨qq,eq,k1,k2,_,_⟩:=hb.find ej;have ey:=hy _ (aA.of (g _ _ hb.op));rw[bF,eq]at ey;cases ey;refine⟨_,Z,qq.1,_,_,_,Z,Z,aA.of (g _ _ k1),aX (j:=0) rfl,ha,g.bM hac _,?_⟩;subst e;rw[take_snoc ej,br,br];rfl
 rintro o H2 _ ha ⟨g2,e⟩;rw[bN]at e;subst e;have sz:∀n:Nat,n<=5000->n<=sizeLine:=λn h=>by rw[eW];omega
 refine⟨B.lk,ac,_,_,Z,Z,g2 _ _ hb.ok,ha,sz _ (by rw[aF,aF,aF];omega),λp1 hp1=>?_⟩;have g3:=az hp1 (.lst (b.fJ.map V.str++(b.ao.map (λp:BP=>p.nm)).map V.str));have Hf:upd H2 p1 (.lst (b.fJ.map V.str++(b.ao.map (λp:BP=>p.nm)).map V.str)) p1=some (.lst (b.fJ.map V.str++(b.ao.map (λp:BP=>p.nm)).map V.str)):=ah;generalize upd H2 p1 (.lst (b.fJ.map V.str++(b.ao.map (λp:BP=>p.nm)).map V.str))=H3 at g3 Hf;have Ly:=g2.trans g3;refine⟨_,Z,B.m,_,Z,cS.k (k:=Sum.inr "owners") (Ly _ _ hb.om),?_⟩;refine⟨p1,B.lo,_,_,Z,Z,Hf,Ly _ _ hb.oo,sz _ (by rw[cV,aF,aF,aF,aF];omega),λp2 hp2=>?_⟩;have W2:jY 100 (b.fJ.map V.str++(b.ao.map (λp:BP=>p.nm)).map V.str++b.own.map V.str):=((jY.map λx hx=>fL (bk.fJ x hx) (by decide)).append (jY.map λx hx=>by obtain⟨p,hp,rfl⟩:=bR.mp hx;exact fL (bk.ao p hp) (by decide))).append (jY.map λx hx=>fL (bk.own x hx) (by decide))
 have l2:(b.fJ.map V.str++(b.ao.map (λp:BP=>p.nm)).map V.str++b.own.map V.str).length<=2100:=by rw[cV,cV,aF,aF,aF,aF];omega
 generalize b.fJ.map V.str++(b.ao.map (λp:BP=>p.nm)).map V.str++b.own.map V.str=vP at *;have g4:=az hp2 (.lst vP);have TY:upd H3 p2 (.lst vP) p2=some (.lst vP):=ah;generalize upd H3 p2 (.lst vP)=H4 at g4 TY;refine⟨(gJ 1),λp3 hp3=>?_⟩;have g5:=az hp3 (.lst [.str ""]);refine⟨p2,p3,_,_,Z,Z,g5 _ _ TY,ah,sz _ (by show vP.length+1<=_;omega),λp4 GZ=>?_⟩;have g6:=az GZ (.lst (vP++[.str ""]));have h46:upd (upd H4 p3 (.lst [.str ""])) p4 (.lst (vP++[.str ""])) p4=some (.lst (vP++[.str ""])):=ah;have W3:jY 100 (vP++[.str ""]):=W2.append (jY.cons (by decide +kernel) jY.nil);have l3:(vP++[V.str ""]).length<=2101:=by rw[cV];show vP.length+1<=_;omega
 have g06:=Ly.trans (g4.trans (g5.trans g6));show gj 4 (.ref p4) _ (upd (upd H4 p3 (.lst [.str ""])) p4 (.lst (vP++[.str ""]))) _;generalize upd (upd H4 p3 (.lst [.str ""])) p4 (.lst (vP++[.str ""]))=H6 at g06 h46;generalize vP++[V.str ""]=L3 at *;clear g6 GZ hp3 g5 TY g4 hp2 W2 l2;have l1:wl "a"<=10:=by decide +kernel
 have l22:wl "-"<=10:=by decide +kernel
 have l33:wl "A"<=10:=by decide +kernel
 have l4:wl "abcdefgh"<=10:=by decide +kernel
 have l5:wl " "<=10:=by decide +kernel
 have l6:wl "zzzzzzz"<=10:=by decide +kernel
 have l7:wl "\n"<=10:=by decide +kernel
 refine⟨_,Z,_,Z,_,_,Z,Z,by omega,λr1 h1=>?_⟩;refine⟨_,Z,_,Z,_,Z,by omega,λr2 h2 _=>?_⟩;refine⟨_,Z,_,Z,_,Z,by omega,λr3 h3 _=>?_⟩;refine⟨_,Z,_,_,Z,Z,by omega,λr4 h4=>?_⟩;refine⟨_,Z,_,Z,_,Z,by omega,λr5 h5 _=>⟨_,_,Z,Z,by omega,λr6 h6=>?_⟩⟩;refine⟨_,Z,_,Z,_,_,Z,Z,by omega,λr7 h7=>⟨_,_,Z,Z,by omega,λr8 h8=>?_⟩⟩;refine⟨(gJ 6),λp5 hp5=>?_⟩;have g7:=az hp5 (.lst [.str r1,.str r2,.str r3,.str r4,.str r6,.str r8]);refine⟨p4,p5,_,_,Z,Z,g7 _ _ h46,ah,sz _ (by show L3.length+6<=_;omega),λp6 K_=>?_⟩;have g8:=az K_ (.lst (L3++[.str r1,.str r2,.str r3,.str r4,.str r6,.str r8]));have h68:upd (upd H6 p5 (.lst [.str r1,.str r2,.str r3,.str r4,.str r6,.str r8])) p6 (.lst (L3++[.str r1,.str r2,.str r3,.str r4,.str r6,.str r8])) p6=some (.lst (L3++[.str r1,.str r2,.str r3,.str r4,.str r6,.str r8])):=ah;have W4:jY 100 (L3++[.str r1,.str r2,.str r3,.str r4,.str r6,.str r8]):=W3.append (.cons (by omega) (.cons (by omega) (.cons (by omega) (.cons (by omega) (.cons (by omega) (.cons (by omega) .nil))))));have l8:(L3++[V.str r1,.str r2,.str r3,.str r4,.str r6,.str r8]).length<=2107:=by rw[cV];show L3.length+6<=_;omega
 have g08:=g06.trans (g7.trans g8);show gj 4 (.ref p6) _ (upd (upd H6 p5 (.lst [.str r1,.str r2,.str r3,.str r4,.str r6,.str r8])) p6 (.lst (L3++[.str r1,.str r2,.str r3,.str r4,.str r6,.str r8]))) _;generalize upd (upd H6 p5 (.lst [.str r1,.str r2,.str r3,.str r4,.str r6,.str r8])) p6 (.lst (L3++[.str r1,.str r2,.str r3,.str r4,.str r6,.str r8]))=H8 at g08 h68;generalize L3++[V.str r1,.str r2,.str r3,.str r4,.str r6,.str r8]=L4 at *;refine⟨_,Z,_,Z,_,_,Z,Z,by omega,λt1 k1=>?_⟩;refine⟨_,Z,_,Z,_,Z,by omega,λt2 k2 _=>⟨_,_,Z,Z,by omega,λt3 k3=>?_⟩⟩;refine⟨(gJ 3),λp7 hp7=>?_⟩;have g9:=az hp7 (.lst [.str t1,.str "zzzzzzz",.str t3]);refine⟨p6,p7,_,_,Z,Z,g9 _ _ h68,ah,sz _ (by show L4.length+3<=_;omega),λp8 Tw=>?_⟩;have g10:=az Tw (.lst (L4++[.str t1,.str "zzzzzzz",.str t3]));have hA:upd (upd H8 p7 (.lst [.str t1,.str "zzzzzzz",.str t3])) p8 (.lst (L4++[.str t1,.str "zzzzzzz",.str t3])) p8=some (.lst (L4++[.str t1,.str "zzzzzzz",.str t3])):=ah;have W5:jY 100 (L4++[.str t1,.str "zzzzzzz",.str t3]):=W4.append (.cons (by omega) (.cons (by omega) (.cons (by omega) .nil)));have l9:(L4++[V.str t1,.str "zzzzzzz",.str t3]).length<=2110/\0<(L4++[V.str t1,.str "zzzzzzz",.str t3]).length:=by rw[cV];show L4.length+3<=_/\0<L4.length+3;omega
 have g0A:=g08.trans (g9.trans g10);show gj 4 (.ref p8) _ (upd (upd H8 p7 (.lst [.str t1,.str "zzzzzzz",.str t3])) p8 (.lst (L4++[.str t1,.str "zzzzzzz",.str t3]))) _;generalize upd (upd H8 p7 (.lst [.str t1,.str "zzzzzzz",.str t3])) p8 (.lst (L4++[.str t1,.str "zzzzzzz",.str t3]))=HA at g0A hA;generalize L4++[V.str t1,.str "zzzzzzz",.str t3]=L5 at *;refine⟨_,Z,_,Z,_,Z,_,Z,p8,_,Z,.inl (aA.of hA),dm (g0A.seq hS) h63 hk (by decide) (by decide) (by omega) λd _ d0 d1=>?_⟩;obtain⟨v,hv,hat⟩:=S9 (xs:=L5) (i:=d) (by omega) d1;obtain⟨sv,rfl,hsv⟩:=W5 v hv;exact⟨p8,_,_,_,Z,Z,aA.of hA,hat,_,Z,sv,Z,by omega,λr hr1 hr2=>q r _ g0A (hr2 20 rfl rfl)⟩
abbrev kN:Stmt:=top 39
abbrev i9:Da Str:=["_law_script","_law_k","_law_model_here","_law_code"]
abbrev yL:Da Str:=i9.append ["_law_whole","_law_some","_law_part"]
def gw:aK yL i9 (ay kN):=dh
theorem yr(F:At K mg "_law_other_number" kN f fd)(aU:Dn P w K mg base 1 "_law_draw" fU (mY K))(aW:mg "len"=none)(fH:mg "sum"=none)(tS:mg "min"=none):Dn P w K mg base 2 "_law_other_number" i9 (yG K):=by
 refine F.oA gw λ_ _ _ _ H _ Q E hr h=>?_;obtain⟨⟨a,ms,k,n,ρ,B,b,i0,rfl,hS,h63,hk,hb,bk,hi,q⟩⟩:=h;refine⟨_,(@cO.h _ _ _ (aj (aQ (i:=4) gw.nd (aE (jh K rfl) (by rfl) fH t8 (af (e_ ["_law_part"] [none] rfl (c8 K (bQ (cA hr) (qv 2) bw)) (λ_ _ _ _=>(aL (i:=0) (show List.Nodup (["_law_part"] :Da Str)from by decide +kernel))) (λ_ _ _ _=>(aI (aO K) (qv 0) ak)) rfl (by rfl)) ai)))
  (aj (aQ (i:=5) gw.nd (d_ (af ak (af (aD lI ak (qv 3)) (af (AS wL ak) (af (aD bV (qv 3) ak) (af (aD mW ak ak) (af (qv 4) (af (aD lI (qv 4) ak) (af (aD bV (qv 4) ak) (af ak ai)))))))))))
  (aj (dG eU rfl (c8 K (bQ (cA hr) (qv 2) bw)) (aL (i:=6) gw.nd) (au (aQ (i:=5) gw.nd (aD mX (qv 5) (d_ (af (aI (aO K) (qv 6) ak) (af (aD bV (aI (aO K) (qv 6) ak) ak) (af (aD lI (aI (aO K) (qv 6) ak) ak) (af (aD bV (aI (aO K) (qv 6) ak) ak) ai)))))))))
  (au (aP (aE (Gm rfl) (by rfl) tS PyProof.Rows.boot_min (af (aI (aO K) (qv 5) (bu aU hr (af (qv 0) (af (qv 1) (af ak (af (aE (bB K) (by rfl) aW cU (af (qv 5) ai)) ai)))))) (af (aD mW ak ak) ai))))))))),?_⟩
 have nh:(B.qs.map λq=>V.ref q.1).length=b.ao.length:=by rw[aF];exact hb.ql
 have pl:=bk.pl;have P9:Pn 10 9:=⟨by decide,by decide,by decide +kernel⟩
 have p9:(10:Int) ^ (9:Int).toNat=1000000000:=by decide +kernel
 refine⟨_,Z,B.m,_,Z,cS.k (k:=Sum.inr "parts") hb.om,B.lp,Z,⟨_,aA.of hb.op⟩,λac hac=>?_⟩;refine fR (J:=sY K B.lp) (n:=b.ao.length) 0 (λi o H'=>aG H H'/\o=((b.ao.take i).map (λp:BP=>p.wo)).map V.int) (by omega) ⟨az hac _,Z⟩ (λi o H' hi _ hp=>⟨_,_,aA.of (hp.1 _ _ hb.op),aS (by rw[nh];exact hi)⟩) (λo H' _ hp=>⟨_,aA.of (hp.1 _ _ hb.op),by rw[nh];exact aN _⟩) ?_ ?_
 .rintro j y o H2 H3 hj dR ha ⟨g,e⟩ ⟨rfl,hy⟩;have ej:=aS hj;obtain⟨qq,eq,k1,k2,_,_⟩:=hb.find ej;have ey:=hy _ (aA.of (g _ _ hb.op));rw[bF,eq]at ey;cases ey;refine⟨_,Z,qq.1,_,_,_,Z,Z,aA.of (g _ _ k1),aX (j:=2) rfl,ha,g.bM hac _,?_⟩;subst e;rw[take_snoc ej,br,br];rfl
 rintro o H2 _ ha ⟨g2,e⟩;rw[bN]at e;subst e;refine⟨ac,b.ao.map (λp:BP=>p.wo),Z,aA.of ha,?_⟩;have hW:0<=(b.ao.map (λp:BP=>p.wo)).sum:=Te λx hx=>by obtain⟨p,hp,rfl⟩:=bR.mp hx;exact(bk.wo p hp).1
 generalize (b.ao.map (λp:BP=>p.wo)).sum=W at *;refine⟨_,Z,_,_,Z,Z,_,Z,?_⟩;refine⟨_,Z,_,_,Z,Z,_,_,Z,Z,P9,_,Z,_,Z,_,_,Z,Z,_,Z,_,_,Z,Z,(gJ 9),λp1 hp1=>?_⟩;obtain⟨i1,i2⟩:=hi;generalize S3:upd H2 p1 (HO.lst _)=H3;have zV:upd H2 p1 (.lst [.int 0,.int (0-i0),.int (-1),.int (i0+1),.int ((10:Int) ^ (9:Int).toNat),.int W,.int (W-1),.int (W+1),.int 1])=H3:=S3;rw[p9]at zV;have g3:aG H2 H3:=zV▸az hp1 _;have Hf:H3 p1=some (.lst [.int 0,.int (0-i0),.int (-1),.int (i0+1),.int 1000000000,.int W,.int (W-1),.int (W+1),.int 1]):=by rw[<-zV,ah]
 clear S3 zV;have N0:uJ [.int 0,.int (0-i0),.int (-1),.int (i0+1),.int 1000000000,.int W,.int (W-1),.int (W+1),.int 1] :=.cons (by omega) (.cons (by omega) (.cons (by omega) (.cons (by omega) (.cons (by omega) (.cons (by omega) (.cons (by omega) (.cons (by omega) (.cons (by omega) .nil))))))));have Ly:=g2.trans g3;refine⟨_,Z,B.m,_,Z,cS.k (k:=Sum.inr "parts") (Ly _ _ hb.om),B.lp,Z,⟨_,aA.of (Ly _ _ hb.op)⟩,?_⟩;refine jC (K:=K) (xs:=B.qs.map λq=>V.ref q.1) (λi σ H'=>∃(p:Addr)(vs:Da V)(s6:Option V),σ=[some (.ref a),some (.int k),some (.ref B.m),some (.int i0),some (.int W),some (.ref p),s6]/\aG H H'/\H' p=some (.lst vs)/\uJ vs/\vs.length=9+4*i)
  ⟨p1,_,_,Z,Ly,Hf,N0,Z⟩ (λi σ H' _ hp=>by obtain⟨_,_,_,_,g,_⟩:=hp;exact aA.of (g _ _ hb.op)) ?_ ?_
 .rintro i y σ H' hy ⟨p,vs,s6,rfl,g,hp,hN,hl⟩;rw[bF]at hy;obtain⟨qq,eq,rfl⟩:=kT.mp hy;have hib:i<b.ao.length:=by rw[<-hb.ql];exact(d8.mp eq).1
  have ei:=aS hib;obtain⟨k1,k2,_,_⟩:=hb.pt i _ qq ei eq;have kk:=aA.of (K:=K) (g _ _ k1);obtain⟨w1,w2⟩:=bk.wo _ (vo hib);refine⟨_,Z,_,Z,qq.1,_,_,_,Z,Z,kk,aX (j:=2) rfl,_,Z,qq.1,_,_,_,Z,Z,kk,aX (j:=2) rfl,_,_,Z,Z,_,Z,qq.1,_,_,_,Z,Z,kk,aX (j:=2) rfl,_,_,Z,Z,_,Z,qq.1,_,_,_,Z,Z,kk,aX (j:=3) rfl,_,_,Z,Z,(gJ 4),λp2 hp2=>?_⟩;generalize S4:upd H' p2 (HO.lst _)=H4;have Co:upd H' p2 (.lst [.int (b.ao[i]).wo,.int ((b.ao[i]).wo+1),.int ((b.ao[i]).wo-1),.int ((b.ao[i]).we+1)])=H4:=S4;have g4:aG H' H4:=Co▸az hp2 _;have TY:H4 p2=some (.lst [.int (b.ao[i]).wo,.int ((b.ao[i]).wo+1),.int ((b.ao[i]).wo-1),.int ((b.ao[i]).we+1)]):=by rw[<-Co,ah]
  clear S4 Co;refine⟨p,p2,_,_,Z,Z,g4 _ _ hp,TY,by rw[eW,hl];show 9+4*i+4<=_;omega,λp3 hp3=>?_⟩;exact⟨p3,_,_,Z,g.trans (g4.trans (az hp3 _)),ah,hN.append (.cons (by omega) (.cons (by omega) (.cons (by omega) (.cons (by omega) .nil)))),by rw[cV,hl];show 9+4*i+4=_;omega⟩
 rintro σ H' ⟨p,vs,s6,rfl,g,hp,hN,hl⟩;refine⟨_,Z,_,Z,_,Z,_,Z,p,_,Z,.inl (aA.of hp),dm (g.seq hS) h63 hk (by decide) (by decide) (by omega) λd _ d0 d1=>?_⟩;obtain⟨v,hv,hat⟩:=S9 (xs:=vs) (i:=d) (by omega) d1;obtain⟨j,rfl,hj⟩:=hN v hv;refine⟨p,_,_,_,Z,Z,aA.of hp,hat,_,_,Z,Z,P9,_,_,Z,q _ _ g ?_⟩;rw[p9];unfold nB;split <;> omega
abbrev vf:Stmt:=top 40
abbrev rG:Da Str:=["_law_script","_law_k","_law_model_here","_law_deed"]
abbrev MT:Da Str:=rG.append ["_law_way","_law_at_here","_law_thing"]
def lW:aK MT rG (ay vf):=dh
theorem Lz(F:At K mg "_law_bent" vf f fd)(aU:Dn P w K mg base 1 "_law_draw" fU (mY K))(mU:Dn P w K mg base 2 "_law_other_word" jN (BH K))(kZ:Dn P w K mg base 2 "_law_other_number" i9 (yG K))(aW:mg "len"=none)(aM:mg "isinstance"=none)(lF:mg "str"=none):Dn P w K mg base 3 "_law_bent" rG (Td K):=by
 refine F.oA lW λ_ _ _ _ H _ Q E hr h=>?_;obtain⟨⟨a,ms,k,n,ρ,B,b,z,d,rfl,hS,h63,hk,hb,bk,hz,db,dl,dl2,dk,q⟩⟩:=h;refine⟨_,(@cO.h _ _ _ (aj (cE (aT i6 (aI (bY K) (qv 3) ak) bw (aZ _)) (au nO) aR)
  (aj (aQ (i:=4) lW.nd (bu aU hr (af (qv 0) (af (qv 1) (af ak (af ak ai))))))
  (aj (cE (ff (bW.pt (pD (aT i6 (aI (bY K) (qv 3) ak) bw (aZ _)) (oM (aT i6 (qv 4) ak (aZ _)))))) (au (aP (aD (E_ K) (qv 3) (iC (af (aI (bY K) (qv 3) ak) (af ak ai)))))) aR)
  (aj (cE (ff (bW.pt (pD (aT i6 (aI (bY K) (qv 3) ak) bw (aZ _)) (oM (aT i6 (qv 4) ak (aZ _)))))) (au (aP (iC (af bw ai)))) aR)
  (aj (aQ (i:=5) lW.nd (aD bV ak (bu aU hr (af (qv 0) (af (qv 1) (af ak (af (aD lI (aE (bB K) (by rfl) aW cU (af (qv 3) ai)) ak) ai)))))))
  (aj (iD (dF (aE (cX K) (by rfl) aM jO (af (aI (bY K) (qv 3) (qv 5)) (af (jq EF rfl lF) ai)))) (au (aQ (i:=6) lW.nd (bu mU hr (af (qv 0) (af (qv 1) (af (qv 2) (af (aI (bY K) (qv 3) (qv 5)) ai))))))) (au (aQ (i:=6) lW.nd (bu kZ hr (af (qv 0) (af (qv 1) (af (qv 2) (af (aI (bY K) (qv 3) (qv 5)) ai))))))))
  (au (aP (aD (E_ K) (aD (E_ K) (nN (Ov K) (qv 3) qz (qy (qv 5))) (iC (af (qv 6) ai))) (nN (Ov K) (qv 3) (qy (aD bV (qv 5) ak)) qz))))))))))),?_⟩
 have e0:nZ (Dd.v d) 0=some (.str d.w):=aX (j:=0) d.v0;refine⟨_,Z,z,_,_,_,Z,Z,hz,e0,Z,_,Z,dJ (λc=>absurd (V.str.inj (dI c)) (Dd.Yq dk)) (λ_=>?_)⟩;refine⟨_,Z,_,Z,dm hS h63 hk (by decide) (by decide) (by decide) λway _ w0 w1=>?_⟩;have test:∀(u:Int){σ:St}{Hq:Hp}{t:TS}{D:Ends},True:=λ_ _ _ _ _=>trivial;refine⟨decide (d.k=2) && decide (way=1),?_,?_⟩
 .refine ⟨_,Z,z,_,_,_,Z,Z,hz,e0,Z,_,Z,?_⟩;by_cases h2:d.k=2
  .rw [cu (by rw[show d.w = "cast" from by unfold Dd.w;rw[h2];rfl] :V.str d.w=V.str "cast"),cu h2,Ar];refine mP ⟨_,Z,Z,_,Z,?_,Z⟩;exact decide_eq_decide.mpr ⟨λy=>V.int.inj y,λy=>by rw[y]⟩
  .rw [dz (λy=>Dd.Tc h2 (V.str.inj y)),dz h2,Am];exact cF ⟨Z,Z⟩
 refine dJ (λc=>?_) (λ_=>?_)
 .have h2:d.k=2:=dI (jP.mp c).1;cases d with
  | cast rs=>
   cases rs with
   | nil=>exact absurd dl (by decide)
   | cons r rs=>
    have e1:nZ (Dd.v (.cast (r::rs))) 1=some (.str r.1):=aX (j:=1) rfl;refine⟨_,Z,_,Z,z,_,_,_,Z,Z,hz,e1,(gJ 2),λp hp=>?_⟩;have g1:=az hp (.tup [.str r.1,.int 1]);refine⟨z,p,_,_,Z,Z,g1.tup hz,cz.of ah,by rw[eW];show _+2<=_;omega,(λe=>nomatch e),(λ_ e=>nomatch e),λ_ _ p2 hp2=>?_⟩;refine q p2 (.cast ((r::rs)++[(r.1,1)])) _ (g1.trans (az hp2 _)) ?_ ⟨?_,λx hx=>?_⟩ rfl ?_
    .have:Dd.v (.cast ((r::rs)++[(r.1,1)]))=Dd.v (.cast (r::rs))++[.str r.1,.int 1] :=by
      show V.str "cast"::dD ((r::rs)++[(r.1,1)])=V.str "cast"::(dD (r::rs)++_)
      rw[pC];rfl
     rw[this];exact ah
    .have:(Dd.v (.cast (r::rs))).length=2*(r::rs).length+1:=by show(dD (r::rs)).length+1=_;rw[vH]
     rw[cV];show(r::rs).length+1<=60;omega
    .rcases fj.mp hx with y|y
     .exact db.2 x y
     .rw [eL.mp y];exact⟨(db.2 r cg).1,by unfold nB;show -1000000000<=(1:Int)/\(1:Int)<=1000000000;decide⟩
    .show (dD ((r::rs)++[(r.1,1)])).length+1<=(dD (r::rs)).length+1+2;rw[pC,cV];show _+2+1<=_;omega
  | _=>exact absurd h2 (by simp[Dd.k])
 refine⟨decide (d.k=2) && decide (way=2),?_,?_⟩
 .refine ⟨_,Z,z,_,_,_,Z,Z,hz,e0,Z,_,Z,?_⟩;by_cases h2:d.k=2
  .rw [cu (by rw[show d.w = "cast" from by unfold Dd.w;rw[h2];rfl] :V.str d.w=V.str "cast"),cu h2,Ar];refine mP ⟨_,Z,Z,_,Z,?_,Z⟩;exact decide_eq_decide.mpr ⟨λy=>V.int.inj y,λy=>by rw[y]⟩
  .rw [dz (λy=>Dd.Tc h2 (V.str.inj y)),dz h2,Am];exact cF ⟨Z,Z⟩
 refine dJ (λc=>?_) (λ_=>?_)
 .have h2:d.k=2:=dI (jP.mp c).1;refine⟨(gJ 1),λp hp=>?_⟩;exact q p (.cast []) _ (az hp _) ah ⟨eV _,λ_ y=>nomatch y⟩ h2.symm (by show 1<=_;omega)
 refine⟨_,Z,_,Z,_,Z,z,_,Z,.inr hz,_,_,Z,Z,dm hS h63 hk (by decide) (by decide) (by omega) λat' _ a0 a1=>⟨_,_,Z,Z,?_⟩⟩;obtain⟨i,ei⟩:∃i:Nat,1+at'=(i:Int):=⟨(1+at').toNat,by omega⟩
 show gj 5 (.int (1+at')) _ _ _;rw[ei];have hi1:1<=i:=by omega
 have hil:i<d.v.length:=by omega
 obtain⟨v,hv⟩:∃v,d.v[i]?=some v:=⟨_,aS hil⟩
 have hat:nZ (Dd.v d) (i:Int)=some v:=aX hv;refine⟨λσ H'=>aG H H'/\∃(t:V),σ=[some (.ref a),some (.int k),some (.ref B.m),some (.ref z),some (.int way),some (.int (i:Int)),some t]/\alike v t,?_,?_⟩
 .rcases adl db hi1 hv with⟨s,rfl,hs⟩|⟨j,rfl,hj⟩
  .refine ⟨_,Z,_,Z,z,_,_,_,Z,Z,hz,hat,_,_,_,_,Z,fX.str _,fY,_,Z,mP ?_⟩;exact⟨_,Z,_,Z,_,Z,_,Z,_,Z,z,_,_,_,Z,Z,hz,hat,⟨⟨a,ms,k,n,ρ,B,b,s,Z,hS,h63,hk,hb,bk,hs,λr H' g hr=>⟨g,_,Z,.inl ⟨s,r,Z,Z,hr⟩⟩⟩⟩⟩
  .refine ⟨_,Z,_,Z,z,_,_,_,Z,Z,hz,hat,_,_,_,_,Z,fX.int _,Mz,_,Z,cF ?_⟩;exact⟨_,Z,_,Z,_,Z,_,Z,_,Z,z,_,_,_,Z,Z,hz,hat,⟨⟨a,ms,k,n,ρ,B,b,j,Z,hS,h63,hk,hb,bk,hj,λr H' g hr=>⟨g,_,Z,.inr ⟨j,r,Z,Z,hr⟩⟩⟩⟩⟩
 rintro σ H4 ⟨g4,t,rfl,al⟩;obtain⟨d',ed,ek,bd⟩:=aaX db hi1 hv al;have el:d'.v.length=d.v.length:=by rw[ed,lg]
 have hz4:=g4.tup hz;have ed':(d.v.take i++[t])++d.v.drop (i+1)=d'.v:=by rw[ed,List.set_eq_take_append_cons_drop,aC hil,Jh];rfl
 have agu:vU (Dd.v d) none (some (i:Int))=d.v.take i:=Yj _ _;have agv:vU (Dd.v d) (some ((i:Int)+1)) none=d.v.drop (i+1):=by rw[show(i:Int)+1=((i+1:Nat):Int) by omega,SW]
 have nwL:¬ (HT.dO (Dd.v d).length 0 none=0/\HT.dO (Dd.v d).length (Dd.v d).length (some (i:Int))=(Dd.v d).length):=by rw[HT.wN];omega
 have nwR:¬ (HT.dO (Dd.v d).length 0 (some ((i:Int)+1))=0/\HT.dO (Dd.v d).length (Dd.v d).length none=(Dd.v d).length):=by rw[show(i:Int)+1=((i+1:Nat):Int) by omega,HT.wN];omega
 have hlt:(d.v.take i).length=i:=by rw[kr];omega
 refine⟨_,Z,_,Z,_,Z,z,_,Z,hz4,nwL,λp hp=>?_⟩;rw[agu];have g5:=az hp (.tup (d.v.take i));have h5:upd H4 p (.tup (d.v.take i)) p=some (.tup (d.v.take i)):=ah;generalize upd H4 p (.tup (d.v.take i))=H5 at g5 h5;refine⟨_,Z,(gJ 1),λp' DR=>?_⟩;have g6:=az DR (.tup [t]);refine⟨p,p',_,[t],Z,Z,cz.of (g6 _ _ h5),cz.of ah,(by rw[hlt,eW];show _+1<=_;omega),(λe=>absurd (gF List.length e) (by rw[hlt];show ¬ i=0;omega)),(λ_ e=>nomatch e),λ_ _ u hu=>?_⟩;have g7:=az hu (.tup (d.v.take i++[t]));have WV:=g4.trans (g5.trans (g6.trans g7));have h7:upd (upd H5 p' (.tup [t])) u (.tup (d.v.take i++[t])) u=some (.tup (d.v.take i++[t])):=ah;generalize upd (upd H5 p' (.tup [t])) u (.tup (d.v.take i++[t]))=H7 at WV h7;refine⟨_,Z,_,Z,_,_,Z,Z,_,Z,z,_,Z,WV.tup hz,nwR,λp3 hp3=>?_⟩;rw[agv];have g8:=az hp3 (.tup (d.v.drop (i+1)));refine⟨u,p3,_,_,Z,Z,cz.of (g8 _ _ h7),cz.of ah,(by rw[cV,hlt,Jk,eW];show i+1+_<=_;omega),(λe=>absurd (gF List.length e) (by rw[cV];show ¬ _+1=0;omega)),(λ_ e=>?_),λ_ _ z2 hz2=>?_⟩
 .rw [e,tG]at ed';exact q u d' _ (WV.trans g8) (by rw[<-ed'];exact g8 _ _ h7) bd ek (by omega)
 .exact q z2 d' _ (WV.trans (g8.trans (az hz2 _))) (by rw[<-ed'];exact ah) bd ek (by omega)
abbrev qc:Stmt:=top 59
abbrev QM:Da Str:=["_law_script"]
abbrev adw:Da Str:=QM.append ["_law_owners","_law_names_here","_law_hold","_law_model_here","_law_at_here","_law_deed","_law_way","_law_due_here","_law_found"]
def j8:aK adw QM (ay qc):=dh
theorem abW{T:TC}(F:At K mg "law" qc f fd)(aU:Dn P w K mg base 1 "_law_draw" fU (mY K))(qe:Dn P w K mg base 2 "_law_names" pR (EZ K))(vg:Dn P w K mg base 6 "_law_tells" pT (qw 2 T K))(vh:Dn P w K mg base 5 "_law_begin" pU (Ob T K))(vj:Dn P w K mg base 1 "_law_model" pS (Ol K))(vm:Dn P w K mg base 5 "_law_loads" pV (Ou T K))(wG:Dn P w K mg base 2 "_law_rows" rD (Om K))(rH:Dn P w K mg base 1 "_law_flat" rF (To K))(rJ:Dn P w K mg base 3 "_law_bent" rG (Td K))(yt:Dn P w K mg base 3 "_law_due" tT (IZ yh K))(vn:Dn P w K mg base 7 "_law_tried" p_ (Fc T yh K))(yu:Dn P w K mg base 1 "_law_hot" tR Qm)(mV:Dn P w K mg base 2 "_law_model_cast" jM (Oo K))(aW:mg "len"=none)(a_:mg "range"=none)(tS:mg "min"=none):iz P w K mg base sZ 9 f fd QM (IT K):=by
 refine F.fn.ok j8 (λvs H Q E h=>?_) (λ_ _ _ _ H _ Q E hr h=>?_)
 . obtain⟨a,ns,rfl,_⟩:=h
   rfl
 obtain⟨a,ns,rfl,hS,h63,q⟩:=h
 refine⟨_,(@cO.h _ _ _ (aj (aQ (i:=1) j8.nd (bu qe hr (af (qv 0) (af ak (af (aD bV ak (bu aU hr (af (qv 0) (af ak (af ak (af ak ai)))))) ai)))))
  (aj (aQ (i:=2) j8.nd (bu qe hr (af (qv 0) (af ak (af ak ai)))))
  (aj (aQ (i:=3) j8.nd (bu vh hr (af (qv 1) ai)))
  (aj (aQ (i:=4) j8.nd (bu vj hr (af (qv 1) ai)))
  (aj (dN (bu vm hr (af (qv 0) (af ak (af (qv 3) (af (qv 4) (af (qv 2) (af (aD bV ak (bu aU hr (af (qv 0) (af ak (af ak (af ak ai)))))) ai))))))))
  (aj (dG eU rfl (dP (by rfl) a_ (af (aD bV ak (bu aU hr (af (qv 0) (af ak (af ak (af ak ai)))))) ai)) (aL (i:=5) j8.nd) (aj (aQ (i:=6) j8.nd (bu rH hr (af (bu wG hr (af (qv 0) (af (aD bV ak (qv 5)) (af (bQ (cA hr) (qv 4) bw) ai)))) ai)))
  (aj (aQ (i:=7) j8.nd (bu aU hr (af (qv 0) (af (aD bV ak (qv 5)) (af ak (af ak ai))))))
  (aj (iD (aT i6 (qv 7) ak (aZ _)) (au (aQ (i:=6) j8.nd (bu rH hr (af (e_ ["_law_part"] [none] rfl (c8 K (bQ (cA hr) (qv 4) bw)) (λ_ _ _ _=>(aL (i:=0) (show List.Nodup (["_law_part"] :Da Str)from by decide +kernel))) (λ_ _ _ _=>(iC (af (aI (aO K) (qv 0) ak) (af (aE (Gm rfl) (by rfl) tS PyProof.Rows.boot_min (af (aI (aO K) (qv 0) ak) (af (aD mW ak ak) ai))) ai)))) rfl (by rfl)) ai)))) aR)
  (aj (iD (ff (bW.pt (pD (aT iH (qv 7) ak (aZ _)) (oM (aT iH (aE (bB K) (by rfl) aW cU (af (qv 6) ai)) ak (aZ _)))))) (au (aQ (i:=6) j8.nd (bu rJ hr (af (qv 0) (af (aD bV ak (qv 5)) (af (qv 4) (af (qv 6) ai))))))) aR)
  (aj (iD (ff (bW.pt (pD (aT iH (qv 7) ak (aZ _)) (oM (aT iH (aE (bB K) (by rfl) aW cU (af (qv 6) ai)) ak (aZ _)))))) (au (aQ (i:=6) j8.nd (bu rJ hr (af (qv 0) (af (aD bV ak (qv 5)) (af (qv 4) (af (qv 6) ai))))))) aR)
  (aj (aQ (i:=8) j8.nd (bu yt hr (af (qv 4) (af (qv 6) ai))))
  (aj (aQ (i:=9) j8.nd (bu vn hr (af (qv 3) (af (qv 6) ai))))
  (aj (cE (bW.pt (pD (aT IM (qv 8) ak (aZ _)) (oM (aT (wR K hr.units) (qv 9) (bu yu hr (af (qv 8) ai)) (aZ _))))) (au (aP eY)) aR)
  (aj (iD (aT Ay (qv 8) ak (aZ _)) (aj (cE (aT (wR K hr.units) (qv 9) (d_ ai) (aZ _)) (au (aP eY)) aR)
  (au (dN (bu mV hr (af (qv 4) (af (e_ ["_law_k","_law_deed"] [none,some 6] rfl (vI (by rfl) a_ (af ak (af (aE (bB K) (by rfl) aW cU (af (qv 6) ai)) (af ak ai)))) (λ_ _ _ _=>(aL (i:=0) (show List.Nodup (["_law_k","_law_deed"] :Da Str)from by decide +kernel))) (λ_ _ _ _=>(iC (af (aI (bY K) (qv 1) (qv 0)) (af (aI (bY K) (qv 1) (aD bV (qv 0) ak)) ai)))) rfl (by rfl)) ai)))))) aR)
  (au (cE (dS (dF (bu vg hr (af (qv 3) (af (qv 4) ai))))) (au (aP eY)) aR))))))))))))
  (au (aP eY))))))))),?_⟩
 refine⟨_,Z,_,Z,dm hS h63 (by decide) (by decide) (by decide) (by decide) λod _ o0 o1=>⟨_,_,Z,Z,?_⟩⟩
 obtain⟨no,hno⟩:∃no:Nat,1+od=(no:Int):=⟨(1+od).toNat,by omega⟩
 refine Gy hno hS h63 (by decide) (by omega) λzo nso H1 g1 hzo _ ajb abX abY=>?_
 have BN:=g1.seq hS
 refine⟨_,Z,Gy (show(6:Int)=((6:Nat):Int)from rfl) BN h63 (by decide) (by decide) λzn nsn H2 g2 hzn _ ajc ab0 ab1=>?_⟩
 have hS2:=g2.seq BN
 have LA:=g2 _ _ hzo
 rw[X0]at LA hzn
 have dR:=Oc nso
 have hnl:=Oc nsn
 have zz:=GG abX
 have QN:=Sk abY
 have nmN:=GG ab0
 have agw:=Sk ab1
 generalize DJ nso=own at *
 generalize DJ nsn=nms at *
 clear abX abY ab0 ab1 hzo
 refine⟨_,Z,⟨⟨zo,own,0,λ_=>none,Z,aA.of LA,Z,zz,λo ho=>(QN o ho).isNm,by omega,(λb c e=>by cases e),λρ3 A3 H3 tD F3=>?_⟩⟩⟩
 have o3:aG (out (λ_=>none) H2) (out ρ3 H3):=F3.out
 have Ox:=tD
 refine⟨_,Z,⟨⟨zo,own,1,ρ3,Z,F3.seq (aA.of LA) rfl,tD.g,by omega,λρ4 B4 H4 G4 Af k4=>?_⟩⟩⟩
 have F4:Fr 1 ρ3 H3 ρ4 H4:=λb o e _=>k4 b o e
 have qh:=tD.other F4 G4 (by decide)
 have o4:=o3.trans F4.out
 have fS:=(yE.of hS2).go o4
 have fN:=(yE.of (aA.of (K:=K) hzn)).go o4
 have hS4:=fS _ _ (aG.refl _)
 have agx:(own.foldl gH hs0).kn=0:=Km own hs0
 obtain⟨gd4,en4⟩:=gd0 (own:=own) (by omega) (by omega) (λo ho=>(QN o ho).isNm)
 generalize own.foldl gH hs0=st4 at *
 generalize TM:A3.a=x
 generalize TN:B4.m=mm
 have fO:=(yE.of (aA.of (K:=K) LA)).go o4
 have owS:∀o∈own,PyData.strOk o=true:=λo ho=>(QN o ho).strOk
 clear Ox tD o3 F4 k4 o4 F3 hS4 hS2 BN LA hzn
 refine⟨_,Z,_,Z,_,Z,_,Z,_,Z,dm (fS _ _ (aG.refl _)) h63 (by decide) (by decide) (by decide) (by decide) λmd _ m0 m1=>⟨_,_,Z,Z,?_⟩⟩
 obtain⟨BT,adx⟩:∃BT:Nat,2+md=(BT:Int):=⟨(2+md).toNat,by omega⟩
 refine⟨⟨0,1,ρ4,A3,B4,st4,_,a,zn,ns,4,nms,BT,by rw[<-adx,TM,TN];rfl,by decide,qh,Af,gd4,fS,h63,by decide,by decide,fN,nmN,agw,QN,by omega,by omega,en4,Z,Z,λρ5 A5 B5 H5 zg b5 vK Lo gd5 Eh Ek WW ajd ek5 o5=>?_⟩⟩
 rw[TM]at Eh
 rw[TN]at Ek
 have WW:b5.own=own:=WW
 have fS5:=fS.go o5
 rw[agx]at ek5
 clear qh Af gd4 fS fN fO o5 TM TN
 refine⟨_,Z,dm (fS5 _ _ (aG.refl _)) h63 (by decide) (by decide) (by decide) (by decide) λcd _ c0 c1=>⟨_,_,Z,Z,?_⟩⟩
 refine⟨_,Z,by omega,by omega,?_⟩
 refine fM (lo:=0) (n:=(1+cd).toNat) (λi σ H'=>∃ρ' A' B' st' b' s5 s6 s7 s8 s9,σ=[some (.ref a),some (.ref zo),some (.ref zn),some (.ref x),some (.ref mm),s5,s6,s7,s8,s9]/\HH T 0 ρ' A' H' st'/\bf 1 ρ' B' H' b'/\iU i st' b'/\A'.a=x/\B'.m=mm/\b'.own=own/\st'.kn<=40000*i/\yE K ρ' H' a (ns.map V.int))
  ⟨ρ5,A5,B5,zg,b5,_,_,_,_,_,Z,vK,Lo,gd5,Eh,Ek,WW,by omega,fS5⟩ ?_ ?_
 . clear vK Lo gd5 fS5 Eh Ek WW
   rintro i σ H6 hi ⟨ρ6,A6,B6,BO,b6,s5,s6,s7,s8,s9,rfl,D_,vO,yI,ea6,LB,eo6,ek6,fS6⟩
   have e0:(0:Int)+(i:Int)=((i:Nat):Int):=by omega
   rw[e0]
   have WX:=fS6 _ _ (aG.refl _)
   have P9:Pn 10 9:=⟨by decide,by decide,by decide +kernel⟩
   have p9:(10:Int) ^ (9:Int).toNat=1000000000:=by decide +kernel
   have bk:=yI.bk D_.wf
   have pl:=yI.pl
   have WY:=D_.wf
   have om6:H6 mm=some (.dK (fG B6 b6.bot)):=by rw[<-LB];exact vO.om
   have nh:(B6.qs.map λq=>V.ref q.1).length=b6.ao.length:=by rw[aF];exact vO.ql
   refine⟨_,Z,_,Z,_,_,Z,Z,_,Z,mm,_,Z,cS.k (k:=Sum.inr "parts") om6,⟨⟨a,B6.lp,ns,_,_,oH b6,Z,WX,h63,by omega,by omega,aA.of vO.op,vO.nw,by unfold oH;rw[ig];exact yI.lM.nd,by unfold oH;rw[aF];omega,λw hw=>by obtain⟨p,hp,rfl⟩:=bR.mp hw;exact yI.lM.w1 p hp,λz zs rs H7 g7 hz Le hR rok=>?_⟩⟩⟩
   have rl:rs.length<=55:=by have:=rok.len;unfold oH at this;rw[aF]at this;omega
   have db0:BG (.cast rs):=⟨by omega,λr hr=>by obtain⟨r1,r2,w,hw,e,_⟩:=rok.row r hr;obtain⟨p,hp,rfl⟩:=bR.mp hw;exact⟨by rw[<-e];exact bk.ao p hp,by unfold nB;omega⟩⟩
   refine⟨⟨z,zs,rs,Z,aA.of Le,hR,by omega,λz0 H8 g8 hz8=>?_⟩⟩
   have OW:=g7.trans g8
   clear Le hR g7 g8 hz rok
   show gj 6 (.ref z0) _ _ _
   refine⟨_,Z,_,Z,_,_,Z,Z,dm (OW.seq WX) h63 (by omega) (by decide) (by decide) (by decide) λway _ y0 y1=>?_⟩
   refine⟨λσ' Ha=>∃(z:Addr)(rs:Da Row),σ'=[some (.ref a),some (.ref zo),some (.ref zn),some (.ref x),some (.ref mm),some (.int (i:Int)),some (.ref z),some (.int way),s8,s9]/\aG H6 Ha/\Ha z=some (.tup (Dd.v (.cast rs)))/\BG (.cast rs)/\rs.length<=55,?_,?_⟩
   . refine⟨_,Z,Z,_,Z,dJ (λ_=>?_) (λ_=>?_)⟩
     rotate_left
     . exact⟨z0,rs,Z,OW,hz8,db0,rl⟩
     have TZ:=vO.mono OW
     have om8:=OW _ _ om6
     refine⟨_,Z,mm,_,Z,cS.k (k:=Sum.inr "parts") om8,B6.lp,Z,⟨_,aA.of TZ.op⟩,λac hac=>?_⟩
     refine fR (J:=sY K B6.lp) (n:=b6.ao.length) 0 (λi out H'=>aG H8 H'/\fB H' out ((b6.ao.take i).map λp:BP=>((p.nm,if(1000000000:Int)<p.wo then 1000000000 else p.wo):Row))) (by omega) ⟨az hac _,.nil⟩ (λi o H' hi _ hp=>⟨_,_,aA.of (hp.1 _ _ TZ.op),aS (by rw[nh];exact hi)⟩) (λo H' _ hp=>⟨_,aA.of (hp.1 _ _ TZ.op),by rw[nh];exact aN _⟩) ?_ ?_
     . rintro j y o H9 Dr hj dR ha ⟨g,R⟩ ⟨rfl,hy⟩
       have ej:=aS hj
       obtain⟨qq,eq,k1,k2,_,_⟩:=TZ.find ej
       have ey:=hy _ (aA.of (g _ _ TZ.op))
       rw[bF,eq]at ey
       cases ey
       refine⟨_,Z,qq.1,_,_,_,Z,Z,aA.of (g _ _ k1),aX (j:=0) rfl,_,Z,qq.1,_,_,_,Z,Z,aA.of (g _ _ k1),aX (j:=2) rfl,_,_,Z,Z,P9,_,_,Z,?_⟩
       rw[p9]
       refine⟨(gJ 2),λp hp=>?_⟩
       have g6:=az hp (uz ((b6.ao[j].nm,if(1000000000:Int)<b6.ao[j].wo then 1000000000 else b6.ao[j].wo):Row))
       refine⟨g6 _ _ ha,(g.trans g6).bM hac _,?_⟩
       rw[take_snoc ej,br]
       exact((R.mono g6.tups).snoc ah).mono (iK (.inr ⟨_,g6 _ _ ha,Z⟩))
     rintro o1 H9 _ ha1 ⟨g9,R⟩
     rw[bN]at R
     refine⟨⟨ac,o1,_,Z,aA.of ha1,R,by rw[aF];omega,λz' Dr g10 hz'=>?_⟩⟩
     refine⟨z',_,Z,(OW.trans g9).trans g10,hz',⟨by rw[aF];omega,λr hr=>?_⟩,by rw[aF];omega⟩
     obtain⟨p,hp,rfl⟩:=bR.mp hr
     have:=(bk.wo p hp).1
     refine⟨bk.ao p hp,?_⟩
     unfold nB
     show -1000000000<=(if(1000000000:Int)<p.wo then 1000000000 else p.wo)/\(if(1000000000:Int)<p.wo then 1000000000 else p.wo)<=1000000000
     split <;> omega
   clear hz8 db0 OW rl
   rintro σ Ha ⟨z1,r1,rfl,gA,mJ,Eo,rA⟩
   refine⟨λσ' Ha=>∃(z:Addr)(rs:Da Row),σ'=[some (.ref a),some (.ref zo),some (.ref zn),some (.ref x),some (.ref mm),some (.int (i:Int)),some (.ref z),some (.int way),s8,s9]/\aG H6 Ha/\Ha z=some (.tup (Dd.v (.cast rs)))/\BG (.cast rs)/\rs.length<=56,?_,?_⟩
   . refine⟨decide (2<way/\1<(Dd.v (.cast r1)).length),⟨_,Z,_,_,Z,Z,_,Z,dJ (λc=>?_) (λc=>?_)⟩,dJ (λc=>?_) (λ_=>?_)⟩
     . have c':2<way:=dI c
       refine⟨_,Z,z1,_,Z,.inr (cz.of mJ),_,_,Z,Z,_,Z,?_,Z⟩
       rw[tF,Jg,Jg]
       exact⟨λh=>⟨c',by omega⟩,λh=>by have:=h.2;omega⟩
     . have c':¬ 2<way:=ko (jB.mpr c)
       exact⟨(dz λh=>c' h.1).symm,Z⟩
     . have c':=dI c
       refine⟨_,Z,_,Z,_,_,Z,Z,_,Z,_,Z,⟨⟨a,ns,10+(i:Int),1,ρ6,B6,b6,z1,.cast r1,by rw[LB];rfl,gA.seq WX,h63,by omega,vO.mono gA,bk,cz.of mJ,Eo,c'.2,by rw[gr];omega,(by show 2≠9;decide),λz' d' H' g hz' bd ek el=>?_⟩⟩⟩
       obtain⟨r2,rfl⟩:=OE ek
       exact⟨z',r2,Z,gA.trans g,hz',bd,by rw[gr,gr]at el;omega⟩
     . exact⟨z1,r1,Z,gA,mJ,Eo,by omega⟩
   clear mJ Eo gA rA
   clear z1 r1 Ha
   rintro σ Ha ⟨z1,r1,rfl,gA,mJ,Eo,rA⟩
   refine⟨λσ' Ha=>∃(z:Addr)(rs:Da Row),σ'=[some (.ref a),some (.ref zo),some (.ref zn),some (.ref x),some (.ref mm),some (.int (i:Int)),some (.ref z),some (.int way),s8,s9]/\aG H6 Ha/\Ha z=some (.tup (Dd.v (.cast rs)))/\BG (.cast rs)/\rs.length<=57,?_,?_⟩
   . refine⟨decide (5<way/\1<(Dd.v (.cast r1)).length),⟨_,Z,_,_,Z,Z,_,Z,dJ (λc=>?_) (λc=>?_)⟩,dJ (λc=>?_) (λ_=>?_)⟩
     . have c':5<way:=dI c
       refine⟨_,Z,z1,_,Z,.inr (cz.of mJ),_,_,Z,Z,_,Z,?_,Z⟩
       rw[tF,Jg,Jg]
       exact⟨λh=>⟨c',by omega⟩,λh=>by have:=h.2;omega⟩
     . have c':¬ 5<way:=ko (jB.mpr c)
       exact⟨(dz λh=>c' h.1).symm,Z⟩
     . have c':=dI c
       refine⟨_,Z,_,Z,_,_,Z,Z,_,Z,_,Z,⟨⟨a,ns,20+(i:Int),1,ρ6,B6,b6,z1,.cast r1,by rw[LB];rfl,gA.seq WX,h63,by omega,vO.mono gA,bk,cz.of mJ,Eo,c'.2,by rw[gr];omega,(by show 2≠9;decide),λz' d' H' g hz' bd ek el=>?_⟩⟩⟩
       obtain⟨r2,rfl⟩:=OE ek
       exact⟨z',r2,Z,gA.trans g,hz',bd,by rw[gr,gr]at el;omega⟩
     . exact⟨z1,r1,Z,gA,mJ,Eo,by omega⟩
   clear mJ Eo gA rA
   clear z1 r1 Ha
   rintro σ Ha ⟨z1,r1,rfl,gA,mJ,Eo,rA⟩
   have ha:yh BO (.cast r1):=⟨by omega,λh0=>Tt yI WY (by omega) (by omega) h0⟩
   have hhA:=D_.mono gA
   have hbA:=vO.mono gA
   refine⟨_,Z,_,Z,⟨⟨1,ρ6,B6,b6,BO,z1,.cast r1,by rw[LB];rfl,cz.of mJ,hbA,yI.rel,WY,yI.lM,yI.fJ,ha,Eo,λHB gB=>?_⟩⟩⟩
   have hzB:=gB _ _ mJ
   have WZ:=hhA.mono gB
   refine⟨_,Z,_,Z,Qu ea6 (cz.of hzB) WZ ha λl ρC AC HC W0 eaC FC sC W6=>?_⟩
   have oC:aG (out ρ6 H6) (out ρC HC):=(kC (gA.trans gB)).trans FC.out
   have hbC:=(hbA.mono gB).other FC WZ.g (by decide)
   have hzC:=FC.tup WZ.g _ _ hzB
   have ndt:∀{H:Hp}{r p:Addr}{Q:VK},H r=some (.lst [])->H p=some (.lst [])->Q (.bl false) H->EU K (.ref r) (.ref p) H Q:=λh1 h2 q=>⟨.list [],.list [],.lst (aA.of h1) .nil,.lst (aA.of h2) .nil,Z,Z,q⟩
   clear hzB WZ hhA hbA gA gB mJ
   have jn:∀(D:Ends)(HD:Hp)(ρD:eF)(AD:L2.HA)(BD:BA)(T3:HS)(bD:BS)(v8 v9:V),HH T 0 ρD AD HD T3->bf 1 ρD BD HD bD->iU (i+1) T3 bD->AD.a=x->BD.m=mm->bD.own=own->T3.kn<=40000*i->aG (out ρ6 H6) (out ρD HD)->
     (∀H' ρ' A' B' st' b',HH T 0 ρ' A' H' st'->bf 1 ρ' B' H' b'->iU (i+1) st' b'->A'.a=x->B'.m=mm->b'.own=own->st'.kn<=40000*(i+1)->yE K ρ' H' a (ns.map V.int)->D.nx [some (.ref a),some (.ref zo),some (.ref zn),some (.ref x),some (.ref mm),some (.int (i:Int)),some (.ref z1),some (.int way),some v8,some v9] H')->
     Uu (YT (tB (IP (qw 2 T K) [] E0 (i7 (xR 3) (i7 (xR 4) oW))))) (YX (tC (V.bl false))) V3 D [some (.ref a),some (.ref zo),some (.ref zn),some (.ref x),some (.ref mm),some (.int (i:Int)),some (.ref z1),some (.int way),some v8,some v9] HD:=by
    intro D HD ρD AD BD T3 bD v8 v9 T4 hbD gdD eaD emD eoD ekD oD agy
    refine⟨_,Z,_,Z,⟨⟨0,1,ρD,AD,BD,T3,bD,i+1,by rw[eaD,emD];rfl,by decide,T4,hbD,gdD,by omega,λo ho=>owS o (by rw[<-eoD];exact ho),by omega,λρE AE HE k hhE hk T5 eaE oE=>⟨_,Z,cF ?_⟩⟩⟩⟩
    exact agy HE ρE AE BD _ bD hhE T5 (Wz gdD k) (eaE.trans eaD) emD eoD (by show k<=_;omega) (fS6.go (oD.trans oE))
   show gj 9 (.ref l) _ _ _
   cases hr:uH BO (.cast r1)with
   | some j=>
     have eaf:uI BO (.cast r1)=BO:=by unfold uI;rw[hr]
     rw[eaf]at W0
     rw[hr]at W6
     have yF:∀k,some j=some k->k<10:=λk hk=>by cases hk;rcases BI hr with rfl|rfl|rfl|rfl <;> decide
     refine⟨_,Z,_,_,Z,Z,_,Z,dJ (λ_=>?_) (λc=>absurd (cu (by show(0:Int)<=(j:Int);omega)) c)⟩
     refine⟨_,Z,_,Z,Yn (n:=j) rfl λp HD gD hpD=>Yp (r:=some j) (gD _ _ W6) hpD yF ⟨_,Z,cF ?_⟩⟩
     refine⟨λσ' H'=>σ'=[some (.ref a),some (.ref zo),some (.ref zn),some (.ref x),some (.ref mm),some (.int (i:Int)),some (.ref z1),some (.int way),some (.int (j:Int)),some (.ref l)]/\H'=HD,?_,?_⟩
     . exact⟨_,Z,_,_,Z,Z,_,Z,dJ (λc=>absurd (dI c) (by show ¬ (j:Int)<0;omega)) (λ_=>⟨Z,Z⟩)⟩
     rintro σ H' ⟨rfl,rfl⟩
     exact jn _ _ ρC AC B6 BO b6 _ _ (W0.mono gD) (hbC.mono gD) yI.mono eaC LB eo6 ek6 (oC.trans (kC gD)) λH' ρ' A' B' st' b' k1 k2 k3 k4 k5 k6 k7 k8=>⟨ρ',A',B',st',b',_,_,_,_,_,Z,k1,k2,k3,k4,k5,k6,k7,k8⟩
   | none=>
     have eaf:uI BO (.cast r1)=jk BO r1:=by unfold uI;rw[hr];rfl
     rw[eaf]at W0
     rw[hr]at W6
     have ok:=ha.2 hr
     obtain⟨rb,bo⟩:=VJ yI WY (by omega) hr
     refine⟨_,Z,_,_,Z,Z,_,Z,dJ (λc=>absurd (dI c) (by show ¬ (0:Int)<=-1;decide)) (λ_=>cF ?_)⟩
     refine⟨λσ' H'=>σ'=[some (.ref a),some (.ref zo),some (.ref zn),some (.ref x),some (.ref mm),some (.int (i:Int)),some (.ref z1),some (.int way),some (.int (-1)),some (.ref l)]/\∃ρ' B',HH T 0 ρ' AC H' (jk BO r1)/\bf 1 ρ' B' H' (kG b6 (c7 b6 r1) 0 0)/\B'.m=mm/\aG (out ρ6 H6) (out ρ' H'),?_,?_⟩
     . refine⟨_,Z,_,_,Z,Z,_,Z,dJ (λ_=>?_) (λc=>absurd (cu (by show(-1:Int)<0;decide)) c)⟩
       refine⟨_,Z,(gJ 0),λp1 hp1=>?_⟩
       have gD:=az hp1 (.lst [])
       refine ndt (gD _ _ W6) ah ⟨_,Z,cF ?_⟩
       have hzD:cz K (upd HC p1 (.lst [])) z1 (Dd.v (.cast r1)):=cz.of (gD _ _ hzC)
       have T4:=W0.mono gD
       have hbD:=hbC.mono gD
       have oD:=oC.trans (kC (ρ:=ρC) gD)
       generalize upd HC p1 (.lst [])=HD at *
       refine⟨_,Z,_,Z,z1,_,Z,.inr hzD,_,_,_,Z,⟨by decide,by decide,by omega,by rw[gr];omega,by decide,by decide⟩,?_⟩
       rw[gr,KQ]
       intro BM Bn
       refine fR (J:=EY 1 2 r1.length) (n:=r1.length) 0 (λi out H1=>aG HD H1/\fB H1 out (r1.take i)) (by omega) ⟨az Bn _,.nil⟩ (λi o H' hi _ _=>hi) (λo H' _ _=>aN _) ?_ ?_
       . rintro i x out H1 H2 hi dR ha ⟨g,R⟩ ⟨rfl,rfl⟩
         have ei:=aS hi
         generalize r1[i]=r at *
         obtain⟨c1,c2⟩:=AV ei
         have e1:(1:Int)+(i:Int)*2=((1+2*i:Nat):Int):=by omega
         have e2:((1+2*i:Nat):Int)+1=((2+2*i:Nat):Int):=by omega
         rw[e1]
         refine⟨_,Z,_,Z,z1,_,_,_,Z,Z,g.tup hzD,aX c1,_,Z,_,Z,_,_,Z,Z,z1,_,_,_,Z,Z,g.tup hzD,by rw[e2];exact aX c2,(gJ 2),λp hp=>?_⟩
         have g6:=az hp (uz r)
         refine⟨g6 _ _ ha,(g.trans g6).bM Bn _,?_⟩
         rw[take_snoc ei]
         exact((R.mono g6.tups).snoc ah).mono (iK (.inr ⟨_,g6 _ _ ha,Z⟩))
       rintro out H1 dR ha1 ⟨g,R⟩
       rw[bN]at R
       refine⟨⟨1,ρC,B6,b6,BM,out,r1,by rw[LB];rfl,T4.g.same g,hbD.mono g,yI.lM,aA.of ha1,R,T4.g.none Bn,rb,by omega,bo,λρE BE HE GE T5 emE FE=>?_⟩⟩
       exact⟨Z,ρE,BE,(T4.mono g).other FE GE (by decide),T5,emE.trans LB,(oD.trans (kC g)).trans FE.out⟩
     rintro σ HE ⟨rfl,ρE,BE,hhE,T5,emE,oE⟩
     exact jn _ _ ρE AC BE _ _ _ _ hhE T5 (Yg yI WY ok rb bo (by omega)) eaC emE eo6 (by have:=Yh BO r1;omega) oE λH' ρ' A' B' st' b' k1 k2 k3 k4 k5 k6 k7 k8=>⟨ρ',A',B',st',b',_,_,_,_,_,Z,k1,k2,k3,k4,k5,k6,k7,k8⟩
 rintro σ H6 _
 exact q H6
end
def all_mk{l:PySem.W.OpenLaw}{w:World}{K:Fg}{h:Heap}{mg:SO}{fa:Addr}(X:K.In h)(G:h.Ns mainGlobals mg)(hfa:mg "law"=some (.ref fa)){f:Addr}{od an:Option Addr}{sl:Array (Option Value)}{oc kV dc pm cd ct:Value}(a:PySem.W.nsIn K mainGlobals "law"=some (some (.ref f)))(l1:K.lookup f=some ⟨oc,od,.func (PySem.W.fnOf "law" "law" (dY qc) (cG qc) (ay qc) .none kV dc pm an cd ct),sl⟩)(c:PySem.W.codeIn K cd "law"=true)(k:PySem.W.keepIn K (.ref f)=true)(Ep:cR K "common_factor" nP)(T6:cR K "made_of" yi)(T7:cR K "is_name" yj)(FO:cR K "check_amount" pF)(LC:cR K "check_loss" rY)(LD:cR K "amounts_of" rZ)(Er:cR K "factor_of_all" nQ)(MU:cR K "_law_draw" uV)(MV:cR K "_law_name" uW)(LF:cR K "_law_names" sM)(MW:cR K "_law_much" uX)(QO:cR K "_law_int" wk)(LG:cR K "_law_least" sN)(T8:cR K "_law_is" yl)(CK:cR K "_law_part_list" mS)(Ba:cR K "_law_share_list" lS)(LH:cR K "_law_model" sO)(MX:cR K "_law_seat" uZ)(Es:cR K "_law_new_part" nV)(Ak:cR K "_law_tells_parts" kW)(yM:cR K "_law_tells_landed" kM)(LI:cR K "_law_tells" sR)(LJ:cR K "_law_begin" sU)(QS:cR K "_law_hot" wA)(T9:cR K "_law_at" yo)(MY:cR K "_law_rows" u7)(MZ:cR K "_law_bear" u9)(Bb:cR K "_law_model_cast" lU)(LK:cR K "_law_loads" sW)(M1:cR K "_law_flat" u_)(Et:cR K "_law_due_cast" nX)(QT:cR K "_law_due" wF)(FP:cR K "_law_hold_do" pZ)(LL:cR K "_law_tried" sX)(Bc:cR K "_law_other_word" lV)(yN:cR K "_law_other_number" kN)(M3:cR K "_law_bent" vf)(ady:PySem.W.nsIn K mainGlobals "len"=some none)(Yw:PySem.W.nsIn K mainGlobals "range"=some none)(adz:PySem.W.nsIn K mainGlobals "sum"=some none)(acd:PySem.W.nsIn K mainGlobals "list"=some none)(adA:PySem.W.nsIn K mainGlobals "zip"=some none)(adB:PySem.W.nsIn K mainGlobals "all"=some none)(adC:PySem.W.nsIn K mainGlobals "int"=some none)(ace:PySem.W.nsIn K mainGlobals "bool"=some none)(adD:PySem.W.nsIn K mainGlobals "str"=some none)(Yx:PySem.W.nsIn K mainGlobals "tuple"=some none)(adE:PySem.W.nsIn K mainGlobals "abs"=some none)(LM:PySem.W.nsIn K mainGlobals "isinstance"=some none)(adF:PySem.W.nsIn K mainGlobals "min"=some none)(LN:PySem.W.nsIn K mainGlobals "ValueError"=some none){QU:Tok}(T_:PySem.W.nsIn K mainGlobals "LETTERS"=some (some (.str "abcdefghijklmnopqrstuvwxyz" QU))){cM:Addr}(Yy:PySem.W.nsIn K mainGlobals "Hold"=some (some (.ref cM)))(Yz:PySem.W.plainGet K cM Str.empty=true)(YA:PySem.W.hasDictIn K cM=true)(YB:PySem.W.plainOver K cM=true)(YC:PySem.W.findIn K (.ref cM) "__setattr__"=some (some (.builtin "object.__setattr__")))(YD:PySem.W.makesIn K cM=true)(YE:PySem.W.keepIn K (.ref cM)=true)(M5:ef K cM "__init__" "Hold.__init__" uS)(Eu:ef K cM "place_of" "Hold.place_of" nS)(FQ:ef K cM "part_of" "Hold.part_of" pJ)(CL:ef K cM "check_new" "Hold.check_new" mR)(HY:ef K cM "roster" "Hold.roster" qG)(LO:ef K cM "parts" "Hold.parts" sf)(LP:ef K cM "whole" "Hold.whole" sj)(yv:ef K cM "beyond_common" "Hold.beyond_common" j5)(FT:ef K cM "tops_of" "Hold.tops_of" pL)(M7:ef K cM "stow" "Hold.stow" uO)(M_:ef K cM "sign" "Hold.sign" uP)(Na:ef K cM "load" "Hold.load" uQ)(HZ:ef K cM "shares" "Hold.shares" qK)(H_:ef K cM "landed" "Hold.landed" qO)(Ew:ef K cM "given_up" "Hold.given_up" nU)(Ia:ef K cM "lessen" "Hold.lessen" qH)(LQ:ef K cM "blend" "Hold.blend" sr)(Nb:ef K cM "cast" "Hold.cast" uT)(Ib:PySem.W.findIn K (.ref cM) "places"=some none)(Ic:PySem.W.findIn K (.ref cM) "aboard"=some none)(Ie:PySem.W.findIn K (.ref cM) "ashore"=some none)(LR:PySem.W.findIn K (.ref cM) "names"=some none)(Ig:PySem.W.findIn K (.ref cM) "bottom"=some none)(Ih:PySem.W.findIn K (.ref cM) "common"=some none)(Ii:PySem.W.findIn K (.ref cM) "purses"=some none){g_:Addr}(YF:PySem.W.nsIn K mainGlobals "Part"=some (some (.ref g_)))(YG:PySem.W.plainGet K g_ Str.empty=true)(YH:PySem.W.hasDictIn K g_=true)(YI:PySem.W.plainOver K g_=true)(YJ:PySem.W.findIn K (.ref g_) "__setattr__"=some (some (.builtin "object.__setattr__")))(YK:PySem.W.makesIn K g_=true)(YL:PySem.W.keepIn K (.ref g_)=true)(Nc:ef K g_ "__init__" "Part.__init__" uN)(Nd:PySem.W.findIn K (.ref g_) "name"=some none)(LS:PySem.W.findIn K (.ref g_) "owner"=some none)(LU:PySem.W.findIn K (.ref g_) "worth"=some none)(Ij:PySem.W.findIn K (.ref g_) "weight"=some none)(LV:PySem.W.findIn K (.ref g_) "scale"=some none)(QV:PySem.W.findIn K (.ref g_) "row"=some none){eO:Addr}(Ua:PySem.W.nsIn K mainGlobals "Bottom"=some (some (.ref eO)))(Ub:PySem.W.plainGet K eO Str.empty=true)(Uc:PySem.W.hasDictIn K eO=true)(Ud:PySem.W.plainOver K eO=true)(Ue:PySem.W.findIn K (.ref eO) "__setattr__"=some (some (.builtin "object.__setattr__")))(Ug:PySem.W.makesIn K eO=true)(Uh:PySem.W.keepIn K (.ref eO)=true)(Ik:ef K eO "__init__" "Bottom.__init__" qD)(Il:ef K eO "over" "Bottom.over" qJ)(FU:ef K eO "share" "Bottom.share" pQ)(Im:ef K eO "grow" "Bottom.grow" qE)(FW:PySem.W.findIn K (.ref eO) "steps"=some none)(CM:PySem.W.findIn K (.ref eO) "product"=some none)(FY:PySem.W.findIn K (.ref eO) "known"=some none){h_ j9 ia gT gx eE gh gi iY gy dH:Addr}(QW:PySem.W.nsIn K mainGlobals "BadName"=some (some (.ref h_)))(VR:PySem.W.nsIn K mainGlobals "Twice"=some (some (.ref j9)))(QX:PySem.W.nsIn K mainGlobals "NoOwner"=some (some (.ref ia)))(Ui:PySem.W.nsIn K mainGlobals "NoPart"=some (some (.ref gT)))(Nf:PySem.W.nsIn K mainGlobals "NoVoyage"=some (some (.ref gx)))(LW:PySem.W.nsIn K mainGlobals "BadNumber"=some (some (.ref eE)))(QY:PySem.W.nsIn K mainGlobals "TooMuch"=some (some (.ref gh)))(QZ:PySem.W.nsIn K mainGlobals "BadRows"=some (some (.ref gi)))(Uj:PySem.W.nsIn K mainGlobals "NoDeed"=some (some (.ref iY)))(Ng:PySem.W.nsIn K mainGlobals "BadPaper"=some (some (.ref gy)))(CN:PySem.W.nsIn K mainGlobals "JettisonError"=some (some (.ref dH)))(Uk:Told K (Ec.mk h_ j9 ia gT gx eE gh gi iY gy dH) gT 3)(Ul:PySem.W.excIn K gT [.type "ValueError",.type "Exception",.type "BaseException",.type "object"] "ValueError.__new__"=true)(LX:Told K (Ec.mk h_ j9 ia gT gx eE gh gi iY gy dH) eE 5)(LY:PySem.W.excIn K eE [.type "ValueError",.type "Exception",.type "BaseException",.type "object"] "ValueError.__new__"=true)(Q0:Told K (Ec.mk h_ j9 ia gT gx eE gh gi iY gy dH) gh 6)(Q2:PySem.W.excIn K gh [.type "ValueError",.type "Exception",.type "BaseException",.type "object"] "ValueError.__new__"=true)(Q3:Told K (Ec.mk h_ j9 ia gT gx eE gh gi iY gy dH) gi 7)(Q5:PySem.W.excIn K gi [.type "ValueError",.type "Exception",.type "BaseException",.type "object"] "ValueError.__new__"=true)
  :∃fd:FuncData,(∀(s:Shared)(v:Value),BindsTo s fd ⟨[v],[]⟩ [("_law_script",v)])/\∀base:Heap,K.In base->base.Ns mainGlobals mg->iz l.prog w K mg base sZ 9 fa fd ["_law_script"] (IT K):=by
 have e:=hfa.symm.trans (ku X G a)
 cases e
 have adG:=Wa (st:=qc) X G a l1 c k
 have vQ:nY K eO:=⟨Ub,Uc,Ud,Ue⟩
 have fP:nY K cM:=⟨Yz,YA,YB,YC⟩
 obtain⟨_,_,Ex⟩:=Ep.at X G
 obtain⟨_,_,Um⟩:=T6.at X G
 obtain⟨_,_,Uo⟩:=T7.at X G
 obtain⟨_,_,FZ⟩:=FO.at X G
 obtain⟨_,_,LZ⟩:=LC.at X G
 obtain⟨_,_,L6⟩:=LD.at X G
 obtain⟨_,_,Ey⟩:=Er.at X G
 obtain⟨_,_,Nh⟩:=MU.at X G
 obtain⟨_,_,Ni⟩:=MV.at X G
 obtain⟨_,_,L7⟩:=LF.at X G
 obtain⟨_,_,Nj⟩:=MW.at X G
 obtain⟨_,_,Q6⟩:=QO.at X G
 obtain⟨_,_,L8⟩:=LG.at X G
 obtain⟨_,_,Up⟩:=T8.at X G
 obtain⟨_,_,CO⟩:=CK.at X G
 obtain⟨_,_,Bd⟩:=Ba.at X G
 obtain⟨_,_,L_⟩:=LH.at X G
 obtain⟨_,_,Nk⟩:=MX.at X G
 obtain⟨_,_,Ez⟩:=Es.at X G
 obtain⟨_,_,Al⟩:=Ak.at X G
 obtain⟨_,_,yO⟩:=yM.at X G
 obtain⟨_,_,Ma⟩:=LI.at X G
 obtain⟨_,_,Mb⟩:=LJ.at X G
 obtain⟨_,_,Q7⟩:=QS.at X G
 obtain⟨_,_,Uq⟩:=T9.at X G
 obtain⟨_,_,Nl⟩:=MY.at X G
 obtain⟨_,_,Nm⟩:=MZ.at X G
 obtain⟨_,_,Be⟩:=Bb.at X G
 obtain⟨_,_,Mc⟩:=LK.at X G
 obtain⟨_,_,Np⟩:=M1.at X G
 obtain⟨_,_,EA⟩:=Et.at X G
 obtain⟨_,_,Q8⟩:=QT.at X G
 obtain⟨_,_,F0⟩:=FP.at X G
 obtain⟨_,_,Me⟩:=LL.at X G
 obtain⟨_,_,Bf⟩:=Bc.at X G
 obtain⟨_,_,yP⟩:=yN.at X G
 obtain⟨_,_,Nq⟩:=M3.at X G
 have aW:=oO X G ady
 have a_:=oO X G Yw
 have fH:=oO X G adz
 have dU:=oO X G acd
 have jL:=oO X G adA
 have Qy:=oO X G adB
 have QD:=oO X G adC
 have Lj:=oO X G ace
 have lF:=oO X G adD
 have gQ:=oO X G Yx
 have QE:=oO X G adE
 have aM:=oO X G LM
 have tS:=oO X G adF
 have vd:=oO X G LN
 have z7:=ku X G T_
 obtain⟨_,_,Nr⟩:=M5.made X G Yy YD YE
 obtain⟨_,_,EB⟩:=Eu.at fP
 obtain⟨_,_,F_⟩:=FQ.at fP
 obtain⟨_,_,CP⟩:=CL.at fP
 obtain⟨_,_,Io⟩:=HY.at fP
 obtain⟨_,_,Mf⟩:=LO.at fP
 obtain⟨_,_,Mg⟩:=LP.at fP
 obtain⟨_,_,yw⟩:=yv.at fP
 obtain⟨_,_,Ga⟩:=FT.at fP
 obtain⟨_,_,Nt⟩:=M7.at fP
 obtain⟨_,_,Nu⟩:=M_.at fP
 obtain⟨_,_,Nv⟩:=Na.at fP
 obtain⟨_,_,Ip⟩:=HZ.at fP
 obtain⟨_,_,Iq⟩:=H_.at fP
 obtain⟨_,_,EC⟩:=Ew.at fP
 obtain⟨_,_,Ir⟩:=Ia.at fP
 obtain⟨_,_,Mh⟩:=LQ.at fP
 obtain⟨_,_,Nx⟩:=Nb.at fP
 obtain⟨_,_,Ny⟩:=Nc.made X G YF YK YL
 obtain⟨_,_,Iu⟩:=Ik.made X G Ua Ug Uh
 obtain⟨_,_,Iw⟩:=Il.at vQ
 obtain⟨_,_,Gb⟩:=FU.at vQ
 obtain⟨_,_,Iz⟩:=Im.at vQ
 have TX:Txt K ⟨cM,g_,eO⟩:=⟨fP,⟨YG,YH,YI,YJ⟩,vQ,Ib,Ic,Ie,LR,Ig,Ih,Ii,Nd,LS,LU,Ij,LV,QV,FW,CM,FY⟩
 have Ah:=ku X G QW
 have FN:=ku X G VR
 have Ai:=ku X G QX
 have qF:=ku X G Ui
 have yp:=ku X G Nf
 have kR:=ku X G LW
 have jv:=ku X G QY
 have lN:=ku X G QZ
 have CJ:=ku X G Uj
 have yq:=ku X G Ng
 have qb:=ku X G CN
 have z8:=kP.of Ul
 have uM:=kP.of LY
 have mE:=kP.of Q2
 have tQ:=kP.of Q5
 refine⟨PySem.W.fnOf "law" "law" (dY qc) (cG qc) (ay qc) .none kV dc pm an cd ct,λs v=> .of_eq rfl,λbase _ _=>?_⟩
 have iw:=Cu (P:=l.prog) (w:=w) (base:=base) (mg:=mg) Ex
 have z6:=Qx (P:=l.prog) (w:=w) (base:=base) (mg:=mg) Um Qy
 have oN:=QA Uo z6 aW z7
 have pH:=Cv (P:=l.prog) (w:=w) (base:=base) (mg:=mg) (e:=⟨h_,j9,ia,gT,gx,eE,gh,gi,iY,gy,dH⟩) FZ uM kR
 have sH:=Fj LZ pH mE jv
 have sy:=Fl (P:=l.prog) (w:=w) (base:=base) (mg:=mg) (e:=⟨h_,j9,ia,gT,gx,eE,gh,gi,iY,gy,dH⟩) L6 aW tQ lN
 have pO:=Cw Ey iw
 have CD:=Fp (P:=l.prog) (w:=w) (base:=base) (mg:=mg) Iu TX
 have K7:=K0 (P:=l.prog) (w:=w) (base:=base) (mg:=mg) Ny TX dU
 have Lr:=K9 Nr TX CD
 have su:=Ft (P:=l.prog) (w:=w) (base:=base) (mg:=mg) Iz TX
 have sL:=FF Iw TX iw
 have qN:=Ed Gb TX sL
 have pM:=CA (P:=l.prog) (w:=w) (base:=base) (mg:=mg) EB TX
 have lE:=CB (P:=l.prog) (w:=w) (base:=base) (mg:=mg) (e:=⟨h_,j9,ia,gT,gx,eE,gh,gi,iY,gy,dH⟩) F_ TX z8 qF
 have qL:=S_ lE
 have nT:=AZ CP TX oN
 have sS:=Fx (P:=l.prog) (w:=w) (base:=base) (mg:=mg) Io TX dU
 have u6:=Hx (P:=l.prog) (w:=w) (base:=base) (mg:=mg) Mf TX
 have j6:=Hz (P:=l.prog) (w:=w) (base:=base) (mg:=mg) Mg TX fH
 have kJ:=xr (P:=l.prog) (w:=w) (base:=base) (mg:=mg) yw TX jL
 have qM:=D9 (P:=l.prog) (w:=w) (base:=base) (mg:=mg) Ga TX jL
 have wc:=K4 (P:=l.prog) (w:=w) (base:=base) (mg:=mg) Nt TX
 have wu:=K5 Nu TX oN aW
 have wD:=K6 Nv TX nT pM kJ wc K7 aW
 have pP:=CF (P:=l.prog) (w:=w) (base:=base) (mg:=mg) EC TX fH jL
 have sJ:=FD (P:=l.prog) (w:=w) (base:=base) (mg:=mg) Ir TX
 have uU:=HG Mh TX pO su jL
 have vc:=HJ (e:=⟨h_,j9,ia,gT,gx,eE,gh,gi,iY,gy,dH⟩) Nx TX sy sH lE j6 uU pP sJ fH mE jv
 have sP:=FH Ip TX qL qM qN jL
 have sQ:=FJ (P:=l.prog) (w:=w) (base:=base) (mg:=mg) Iq TX dU
 have aU:=Lf (P:=l.prog) (w:=w) (base:=base) (mg:=mg) Nh aW a_
 have rm:=Lg (P:=l.prog) (w:=w) (base:=base) (mg:=mg) Ni a_
 have qe:=HN L7 aU rm a_
 have wC:=Li Nj aU
 have eZ:=MK (P:=l.prog) (w:=w) (base:=base) (mg:=mg) Q6 aM QD Lj
 have j7:=HP (P:=l.prog) (w:=w) (base:=base) (mg:=mg) L8 QE
 have Ac:=QG Up eZ j7 aM gQ aW
 have nW:=A0 CO eZ aM dU gQ lF a_ aW
 have gC:=Ab Bd j7 Ac aM dU gQ lF a_ aW
 have vj:=HR (P:=l.prog) (w:=w) (base:=base) (mg:=mg) L_ dU
 have wm:=Lm (P:=l.prog) (w:=w) (base:=base) (mg:=mg) Nk aW a_
 have pW:=CH Ez wm
 have lT:=yJ Al eZ nW gC u6 j6 sP fH
 have kY:=ym yO eZ gC sQ aM dU gQ lF a_ aW
 have vg:=HU Ma lT kY sS aM dU
 have vh:=HV (T:=⟨cM,g_,eO⟩) Mb Lr wu
 have yu:=MN (P:=l.prog) (w:=w) (base:=base) (mg:=mg) Q7 a_
 have ED:=QJ (P:=l.prog) (w:=w) (base:=base) (mg:=mg) Uq aW a_
 have rQ:=aa6 ED
 have wG:=Ls Nl aU aW a_ dU fH tS
 have wB:=Lu (P:=l.prog) (w:=w) (base:=base) (mg:=mg) Nm aW a_ fH
 have mV:=Ag Be rQ wB
 have vm:=HW Mc aU wC pW wD aW a_
 have rH:=Lw (P:=l.prog) (w:=w) (base:=base) (mg:=mg) Np gQ
 have pY:=CI EA ED aW a_ fH
 have yt:=MS Q8 pY
 have qa:=En F0 vc aW a_
 have acf:∀st d i,yh st d->uH st d=some i->Told K (Ec.mk h_ j9 ia gT gx eE gh gi iY gy dH) ((Ec.mk h_ j9 ia gT gx eE gh gi iY gy dH).at i) i:=λst d i ha hr=>Tr Uk LX Q0 Q3 ha hr
 have vn:=HX Me qa acf aM vd Ah FN Ai qF yp kR jv lN CJ yq qb
 have mU:=Aj Bf aU aW
 have kZ:=yr yP aU aW fH tS
 have rJ:=Lz Nq aU mU kZ aW aM lF
 exact abW (T:=⟨cM,g_,eO⟩) adG aU qe vg vh vj vm wG rH rJ yt vn yu mV aW a_ tS
def walk{l:PySem.W.OpenLaw}{q:Program}{loose:Da Str}{XP:(Str->Option Value)->Heap->Prop}{YP:World->Heap->Prop}{d:DefRec}{K:Params->Fg}(hn:l.most=some 63)(hdf:d.params.defaults=[])(hY:∀(w:World) (h:Heap),YP w h->(K w.params).In h)(F:∀(w:World) (mg:SO) (fa:Addr) (h:Heap),(K w.params).In h->h.Ns mainGlobals mg->mg d.name=some (.ref fa)->
    ∃fd:FuncData,(∀(s:Shared) (u:Value),BindsTo s fd ⟨[u],[]⟩ [("_law_script",u)])/\∀base:Heap,(K w.params).In base->base.Ns mainGlobals mg->iz l.prog w (K w.params) mg base sZ 9 fa fd ["_law_script"] (IT (K w.params))):
  PySem.W.WalkO q loose XP YP l.row.toRowW d [] (λf vs=>PySem.call f vs):=
 L2.Xp (n:=63) (k:=9) (x:="_law_script") (CX:=λ_=>sZ) (sp:=λw=>IT (K w.params)) hn (by decide) hdf ⟨Z,by decide,by decide⟩ hY F (λ_ _ a ns hl _ hS=>⟨a,ns,Z,hS,hl,λ_=>rfl⟩) λ_ _ _ _ _ z=>z
end Law
namespace PySem.W
set_option genInjectivity false
structure Fast:Prop where(tw15419006021375720948 tw12477051599287503634 tw6763843609008895385 tw12036034448398795426 tw9430901505293714630 tw9785270730369791895 tw8365137650613644294 tw13060596983590210687 tw6039694734684012245 tw18160031544084016094 tw7794368112369265373 tw2507446397273670825 tw298728193669921584 tw11532485129777346363 tw3999164073633866169 tw7969695494025559529 tw13585841022091470400 tw15294405870241579679 tw1302599891352355673 tw8928421294488116924 tw6870815209321693919 tw9588607769070505448 tw6686581028609281146 tw16972936905408097224 tw4339556029855645926 tw16885510506597312389 tw14596929385277878 tw4428668540609231120 tw2074947478648730326 tw3605827992483323224 tw8762532624056798419 tw17709651451115211528 tw8339023947029707455 tw4319832244444042881 tw525668798807774783 tw3848736177761718045 tw8202950642036131417 tw10756049749095230156 tw13969450260793751527 tw5350248720411239310 tw14386905442596960716 tw9587626085556103591 tw5970612223039069371 tw14601815930817970419 tw15144058318363914640 tw1090409491123178613 tw7463231877303087261 tw6734324659168393751 tw9153422162275290003 tw15252523364352366190 tw18109111523571223088 tw4387596539346258523 tw12369030444148856797 tw229198695070444144 tw17728595850919126865 tw6120686187545299758 tw15508038553530736198 tw11534778095025224838 tw17820594442733243369 tw11676137029647855655 tw1364850698993213500 tw1941493654437638859 tw3336969564778421033 tw1720090490209660302 tw2391539080069654935 tw14403801680283702185 tw17445021548770057911 tw1863896221422509275 tw9884274007069758728 tw5740623700550536661 tw14639268040843932391 tw1298512836623419046 tw2005500477266129044 tw9396691103526137234 tw14978773361198328108 tw6823446441092446198 tw307617363311309446 tw16144211672964530014 tw10175949978872279556 tw17608489801589357977 tw1868916881662319943 tw4567546787407343135 tw6980409291003435835 tw11606192123550489762 tw1784044946411041840 tw10905717418947248924 tw17149226291176968960 tw5888603232634239240 tw7022521188515469663 tw10390423791133874360 tw12874660397618286415 tw16106923528821009645 tw4882550446221997841 tw7539566956837507179 tw1731953267966138794 tw14962097241125078640 tw9050096332706337447 tw7636749549904834008 tw14660414221905410342 tw3491105588604152999 tw1924059715834098695 tw4460973793629035570 tw10428861290463204665 tw709068429719590091 tw10934602075977075800 tw4698385806092112945 tw7934863945030585215 tw18350802692958800863 tw16796657408034008048 tw13418243769967978787 tw15501809486643617487 tw9900814865019809013 tw4516136311313839765 tw2694143178779289338 tw1431718538216763047 tw10650641638795403970 tw1588831669759606089 tw12709376543839224450 tw3652131507766611104 tw14442294468744077616 tw4025188564889944348 tw11519881445901985444 tw3287333942659860229 tw3213889721213576954 tw15218553893128265955 tw14020289689669389764 tw3221022907698170841 tw5589060833178438781 tw7318884535358224133 tw13950950604990520215 tw8819891861962710277 tw14630814521557220789 tw8538756391872456108 tw7423698334658064603 tw16207856780152921831 tw18445607911150279650 tw4709086383025125983 tw6080071223492801783 tw18278423048854627485 tw3094325108732510640 tw4319541547631657171 tw11833584463028590309 tw9923705920494968541 tw1383799254521325110 tw15002053495700934764 tw12948400196667138415 tw1875674253318958129 tw2151241352656034480 tw12250423213937120111 tw9341671067136679699 tw17000143176083653725 tw2847617897770058048 tw10445052349215082057 tw372236588894309216 tw5836063855070824089 tw10448190728489113541 tw14688359734868039417 tw12351276771300436619 tw280518733489658519 tw14263358259490967940 tw5240918520708176498 tw12986442010450124750 tw2298648636155493967 tw10656858082811925603 tw1178009068704181137 tw16449814612556010068 tw15734186382455871041 tw7234667939189785949 tw5573360343856795211 tw8292933729772498977 tw16947933718974571854 tw2231085902794747760 tw17037066238571997095 tw5768394016644928295 tw16221528987303746567 tw8511039484925808145 tw5356259301537064881 tw13183259649126002534 tw3248623928651085476 tw8428365573008506487 tw4222388566121097978 tw37030152490376846 tw12771731443708380967 tw10467233702241116513 tw16164714480973743378 tw16064247919412742371 tw17194632909100487877 tw269804308957352716 tw4025913196980715202 tw15287110455475626543 tw9853730907199488040 tw10166248996911469788 tw6203922802683192585 tw4655696119861933786 tw14997430609882920190 tw1910998896843421317 tw5050514802210177797 tw1527309947484498648 tw7281593144335553973 tw17394402997495044378 tw3760772046108778970 tw15804192561541636984 tw13668854259954164710 tw2887331751799658057 tw14350577489088023328 tw9458913736998027001 tw10408653618804363837 tw15121212190108189537 tw8768995368201966863 tw16247269632236631794 tw3164791883705165592 tw1780728739546371582 tw3133826896758494755 tw18424512640625962029 tw4494488389311740818 tw15613119774743681699 tw6498261651633012128 tw12673983091249755707 tw8627152922156137472 tw4841163639269231089 tw11610477361300573037 tw10430067455278678355 tw4329034313073206631 tw3045456402176122685 tw17371750158106158392 tw1785808964065384458 tw3520885869171546937 tw5918251749822591026 tw17879283527217258940 tw10871749851244181301 tw12894482832176326599 tw11057688452354152878 tw12616663252889728709 tw7939925579684928371 tw1565494750961193108 tw3598659313071705023 tw7752531990626373595 tw16832983202976105182 tw3806054416822219056 tw13175471141552984592 tw15520410113894525314 tw12490253628735105998 tw16032428662449356540 tw14787997073680215519 tw6553476195499884206 tw14598496599181607296 tw7313036561647633852 tw2428069632901080248 tw2861641741343173750 tw4294027379207397028 tw14610950837542041760 tw10216237953541724310 tw16904460516059241257 tw18385254911043689458 tw6929036354001299488 tw8886313083621293032 tw1650075010154976073 tw14921734078906871720 tw12171984606852524187 tw223605985919457648 tw14534119253044531045 tw1829936484971287309 tw6928165455838387892 tw12030717112478083858 tw16241601376640972223 tw3543501563379742243 tw10951215710075286027 tw15314250692211300692 tw3519809378651980284 tw12301893412519914964 tw13569966473772022498 tw1589450509346869038 tw6449119845754676568 tw13146099647362526268 tw6446932131290661630 tw3998951957679609098 tw3086703341557285048 tw16784166014689771684 tw16481040809159731002 tw13553473405240779088 tw7455437198960197865 tw5870975792678458156 tw11697006794511307770 tw16160263016457590655 tw12683619151218698975 tw3850451225586069596 tw4383692511785742139 tw8658284405439263460 tw1946680923824033666 tw6042609136565364299 tw4818109208414214874 tw10508398564914720124 tw12545334201460005765 tw14298056855610009969 tw15932651310368018402 tw1955869451382232527 tw15808394002596103121 tw1422044333490970679 tw8748757379987042560 tw3504532612011602002 tw16046639941971469702 tw16006567916368318095 tw14766414228932913459 tw4725262070470726465 tw17872502419641065168 tw12982364174236281363 tw6415967770009616204 tw2283818195280776269 tw5558309387270928566 tw17530733935522235308 tw6299257521823217355 tw833097596837435867 tw16623783413497916954 tw8843353171089613868 tw15560098844091743183 tw18416076474404122961 tw3444185417187448059 tw9012884366545505468 tw3710072184485390817 tw11725736149820175901 tw17325640317409740718 tw9528313736088164096 tw8355035589306056529 tw15294815653837064036 tw6550261679187894963 tw15952933266192867629 tw3825017977906234164 tw1855343276377877702 tw10290958587593168613 tw8676502094107137165 tw1628144077567471724 tw1694537323833979046 tw303678066941946841 tw15364456171837050403 tw16096820210865250274 tw4298184428025375783 tw6558934544354606375 tw15385509148235425374 tw18205056646593691728 tw15051043991897901472 tw16918075180300205132 tw11816637459039658286 tw11396494861509349694 tw15716419431655456034 tw3274634019615622314 tw5290069670326291611 tw5210322822748812019 tw10781384523130214978 tw10607009348008162777 tw7347748710230518748 tw13779757778227698209 tw8776191556643827724 tw6723893248679491385 tw11805523596605052042 tw17777830464586700847 tw5669651845141873434 tw6779285637675820364 tw5710475109773242564 tw6461088276490474081 tw12156701735519831846 tw17972143705828800943 tw17594849327857770882 tw7237155266812671231 tw15890426002049810028 tw12002120547902840210 tw6531794051715944912 tw17932515206177095399 tw18021842191643325450 tw11072514031169960042 tw15562285638214485179 tw15648586309828495418 tw10081884533441438577 tw10825940308907009542 tw3905937809320360131 tw17056704968295581816 tw15636454881214320465 tw10812227202469626149 tw13855703266387686069 tw2889599479913658610 tw10111375861200629074 tw2829936956833922375 tw9391464528744638073 tw1515646520628350000 tw15557719115653993755 tw10319574100051937087 tw12292308142812541145 tw11595559537289541845 tw1531233152522080421 tw8203470745205724095 tw2768129760113848413 tw15968180795945944599 tw18266007686587837359 tw18002239849496250006 tw12082170590108763051 tw3170353698896483074 tw2352650680990661944 tw9301747340380574692 tw5016207070091986237 tw6268233622653354924 tw1505734489789742642 tw1054648734840560485 tw12478935305780049424 tw8126692950032484605 tw14092517604996173392 tw1402398294126424199 tw1974141035665298050 tw17485008975305212854 tw6377394943372467598 tw17556491820587068445 tw3227036733056463161 tw3420287287501210610 tw7340107249335528261 tw13225777044412087102 tw16658434337547442297 tw8436233375558774487 tw17646802477528612263 tw11796633439790133061 tw8976229093276263389 tw1535385894732683229 tw17073812425927320072 tw719417202752249097 tw7808880836082075917 tw4501488157891416414 tw9600483041489373869 tw4696656487239855372 tw17211639196494552584 tw809338422178897589 tw14942949943461874236 tw2395919919724661295 tw1517079063539511988 tw6328277281064838589 tw2106463995741849544 tw18086604227982594804 tw12476528555278011168 tw4449247682953279836 tw4741835219102505441 tw1623220890342002678 tw10737234265030190634 tw6886465198823236901 tw3023323006251438192 tw6791769691609406217 tw17619214878012362335 tw17852768077646657987 tw13826347129322436683 tw1546575858024132542 tw9952174114414182339 tw14021111788048570988 tw17221038952200778794 tw13315671724941715589 tw13596315786965926761 tw11952395987411236822 tw1074792591589587448 tw12562187896191432626 tw15402420288715868620 tw10855461764285514827 tw6614692368036892005 tw14048006425557643410 tw17253152277338066916 tw2923871351335910075 tw14271867646964340996 tw2674689054141193760 tw9827479774185187466 tw3481763132457440000 tw12725629561528786743 tw6183189171840665926 tw6899851747804933225 tw4042067054020030872 tw15621875113306801506 tw4102870471530657105 tw12380406597596110870 tw1155700863472695685 tw11901856436082800881 tw7838800156066100433 tw15777463758600559829 tw6191294013376748929 tw15646054627542240760 tw12383379892895824152 tw12312457202328500493 tw2026175717522363701 tw17177089934983239156 tw2668574292771742255 tw18251932551207803906 tw8729268473025716641 tw966569275285636355 tw4040566840933534566 tw2162482621301006887 tw3801186344375164514 tw1857564701901513964 tw7636301477391949805 tw8162178645165269519 tw4279520966441028204 tw11572385546499733905 tw1715061921180484882 tw16232796097489149507 tw8650709517503819403 tw599746805216687012 tw17772931779818732047 tw123363694013533744 tw1192802381514662968 tw6051316345891658093 tw13120552540384454866 tw4871427330863446859 tw3780248874676734883 tw15957122576356346802 tw16917870762091075808 tw1598962860279905275 tw9644379625594395366 tw6832968726524063764 tw14416347139669826213 tw6416323616212646048 tw776836374839194213 tw9086913952135001122 tw5255397331781465120 tw10833885715398255483 tw7939397133011166854 tw8528654842662768609 tw10465574664296877825 tw5019360435149400600 tw6200900800664066762 tw16781022515675473713 tw9462973282646314240 tw16131238249142057250 tw14041113370810955854 tw6956435448383993610 tw11200247445204287666 tw8615604947065325382 tw7423809579984255798 tw6157851475101425712 tw10244748566218397462 tw1800068424079724150 tw15702872331604632058 tw6503097931602865404 tw14224253759216725378 tw16411835422306282899 tw3632394933714110983 tw1596643366408722075 tw5282101587357903322 tw16188217687481000171 tw11360322168157494430 tw10020454813667472560 tw17811289948911772327 tw17523453936959764965 tw2773620201477131327 tw16977352737331349109 tw2337765809171433593 tw2905946786490588067 tw16034549949208712277 tw8329232160863182796 tw16440849344374560169 tw5981784672235991480 tw16366910226183846945 tw17321748088671699768 tw14187756744481683433 tw17903430542531433735 tw8885687620655492509 tw9254531686755728905 tw5468687686400652071 tw11054832038092878862 tw8840141397107537276 tw9594308508303828822 tw6014147255938796441 tw2224017118272468941 tw12632961275452095718 tw4103981321832077586 tw11532371624992918627 tw1026476279200717298 tw4977509174639054998 tw7430175002361703407 tw14172996693826825877 tw9817920924045038927 tw1773725045476465665 tw17116159109634601279 tw7681855789966582581 tw10816459175080265526 tw18137180781349651705 tw4236668193306006799 tw8835382152097930980 tw14629437499048742210 tw17342276252986716828 tw9325208315911025078 tw10870004422654925340 tw15809535882963205522 tw16322669373811968743 tw13946533096015413715 tw9688377044642447796 tw4594094625110568225 tw15305762154885381590 tw4499860026270148989 tw5715673668142965496 tw4725417800135503097 tw10278004404908818834 tw8564067986196241216 tw14313695726666410310 tw8381574997415455912 tw827448947280117277 tw13529129379028214300 tw16386863988278256829 tw15552018033443676210 tw7949239497270796962 tw12803719284465019015 tw13529389153655151008 tw5307505564333029374 tw10764248395671832814 tw3294870837515595110 tw8897226092376036160 tw2513664263740909194 tw2060005004869110695 tw13910680014046729733 tw7629314501648127105 tw1064279537407766872 tw5549130045495743832 tw6287877171869611864 tw1960836597840400954 tw15056060785181597432 tw15345398859115657058 tw12990246120046346301 tw15218101159843719812 tw2219724502154072616 tw15302300150788311337 tw13242285778458526279 tw16843407844333251939 tw14204930794523773254 tw1765460030903786925 tw6314472883776188811 tw6378291215950647325 tw12145855867795278487 tw15276092990867412300 tw9189508209428432967 tw7638475981139909985 tw4735482266958095814 tw16133890235671382709 tw12783166302635755646 tw11793736520210743048 tw12137024479834527404 tw3769464960398961095 tw700128409583315311 tw14622296846809553912 tw7926693071159045203 tw7777821273451676785 tw327486847457151591 tw5776145710175008529 tw10238996867438204407 tw5381685368593350610 tw17292092599281370770 tw9649502718648832412 tw15652370776232391441 tw12542834422768131191 tw3484433879181993374 tw12910069961129637021 tw1922299942455603314 tw3891219603585635347 tw7152978324803873394 tw3415469357178881891 tw3486302740477849966 tw4946054780279609318 tw13741271751583402469 tw9706143392795700880 tw5657173421714395054 tw1101801064580500288 tw6412780472964040936 tw3041705469164490122 tw6486713099273016296 tw14702329607717699502 tw11371025417996042852 tw10385790105752751865 tw11598728350706160474 tw3904814461358093856 tw11515725395515139204 tw7478266699822580945 tw12575405531931781592 tw13545197809542518563 tw11049598836129689247 tw13280605022401809593 tw16120279791139708053 tw18102937039475272352 tw6229736367286743021 tw10284450648602239647 tw7959488539079837869 tw6454087494676584017 tw15292334663706755344 tw13120522948978513049 tw5268294760160278328 tw6624868561555413379 tw13681978783319654738 tw188819884782865610 tw10521512796821981315 tw18246673680477061491 tw1222151053141524949 tw675085206895846209 tw14342398420268958538 tw7257022898922230308 tw2748238528564283532 tw2490668683694262055 tw3089156798259543136 tw4691160254490306340 tw14508283961733393046 tw6450952653146755999 tw14011526086672512588 tw12110679856772780093 tw11707549136034891907 tw9992497807614799952 tw11287581917610520071 tw6743962679166436736 tw11171824245577301698 tw6128048666182391377 tw8625767570813584475 tw13054425709954441098 tw11934642597281698429 tw1965281086628016433 tw4912822503828455986 tw13887938434087881354 tw7652010185305495881 tw5586511630963734596 tw12910981145881686092 tw9914727589701575060 tw3307532319831424386 tw3014671324551007332 tw8789963843215650986 tw2480565643586252418 tw5836315566435131870 tw15716263654670864128 tw8542690573566121040 tw4327459604728152457 tw421327379413330170 tw9642877123766751484 tw17093826536542825351 tw1175596525893282357 tw7153834184129716685 tw11231914797974312714 tw10437080345289363014 tw16731549734064086735 tw17503940061130979967 tw7984099819908495144 tw12000341053191903417 tw7609132656738442265 tw17820421289750976823 tw16624582069685974262 tw18313727724958889381 tw15236400122841346337 tw13900719232613921668 tw13952490453494597182 tw12384925596458019923 tw11931621618516850028 tw6262211184209249407 tw5762476271045685566 tw7303325023532795685 tw7256086799550725518 tw2992995029331337372 tw4619477967735632045 tw3052241719797630323 tw1149654488846375855 tw17367063956165240486 tw12461135913450288574 tw15460108342119193184 tw18037914495889478917 tw7701394669866183329 tw17498329774151502650 tw8347497936490841414 tw1078932009346504656 tw421714743939173471 tw12511241786071431478 tw13874938548731747359 tw11178302823113026363 tw1073759675790685188 tw13679758456937695606:True)
end PySem.W
open PySem PySem.W PyProof.Rows
set_option maxRecDepth 100000 in
set_option maxHeartbeats 0 in
theorem PySem.Challenge.cw_jettison_k20_casts_refused_holds : PySem.Challenge.rw_jettison_k20_casts_refused.Holds := by
 w_on;o_law;k_head;(case hw=>w_witness2)
 k_fill
 refine Law.walk (l:=PySem.Challenge.rw_jettison_k20_casts_refused) rfl rfl (fun w h Y=>PySem.W.kIn_of Y) ?F
 case F=>
  intro w mg fa h KX G hmg
  refine' Law.all_mk KX G hmg ?_ ?_ ?_ ?_ ?_ ?_ ?_ ?_ ?_ ?_ ?_ ?_ ?_ ?_ ?_ ?_ ?_ ?_ ?_ ?_ ?_ ?_ ?_ ?_ ?_ ?_ ?_ ?_ ?_ ?_ ?_ ?_ ?_ ?_ ?_ ?_ ?_ ?_ ?_ ?_ ?_ ?_ ?_ ?_ ?_ ?_ ?_ ?_ ?_ ?_ ?_ ?_ ?_ ?_ ?_ ?_ ?_ ?_ ?_ ?_ ?_ ?_ ?_ ?_ ?_ ?_ ?_ ?_ ?_ ?_ ?_ ?_ ?_ ?_ ?_ ?_ ?_ ?_ ?_ ?_ ?_ ?_ ?_ ?_ ?_ ?_ ?_ ?_ ?_ ?_ ?_ ?_ ?_ ?_ ?_ ?_ ?_ ?_ ?_ ?_ ?_ ?_ ?_ ?_ ?_ ?_ ?_ ?_ ?_ ?_ ?_ ?_ ?_ ?_ ?_ ?_ ?_ ?_ ?_ ?_ ?_ ?_ ?_ ?_ ?_ ?_ ?_ ?_ ?_ ?_ ?_ ?_ ?_ ?_ ?_
  any_goals first|(refine' L2.cR.of ?a ?l ?c ?k;(case a=>k_is);(case l=>k_is);(case c=>k_is);(case k=>k_is))|(refine' L2.ef.of ?a ?i ?l ?c ?k;(case a=>k_is);(case i=>k_is);(case l=>k_is);(case c=>k_is);(case k=>k_is))|(refine' L2.Told.of ?ga ?gn ?ca ?mo ?mb ?jt ?ve ?k0 ?k1 ?k2 ?k3 ?k4 ?k5 ?k6 ?k7 ?k8 ?k9 ?h;(case ga=>k_is);(case gn=>k_is);(case ca=>k_is);(case mo=>k_is);(case mb=>k_is);(case jt=>kts_exm);(case ve=>kit_is);(case k0=>kit_is);(case k1=>kit_is);(case k2=>kit_is);(case k3=>kit_is);(case k4=>kit_is);(case k5=>kit_is);(case k6=>kit_is);(case k7=>kit_is);(case k8=>kit_is);(case k9=>kit_is);(case h=>rfl))|k_is|k_exc
