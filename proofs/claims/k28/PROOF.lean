import PyProof.Rows.All
import Wide.All
import OpenK.AllK
import Wide.FinOn
import Lean
import PyProof.EqAt
import PyProof.EqKinds
import PyProof.TupleCall
import PySem.Challenge.RW_jettison_k28_purses_and_fortunes
set_option Elab.async false
set_option bootstrap.genMatcherCode false
set_option genSizeOf false
set_option genSizeOfSpec false
set_option linter.all false
set_option maxRecDepth 100000
local macro_rules|`(tactic|omega)=>`(tactic|lia)
abbrev Fg:=PySem.W.Frag
abbrev VS:=PySem.Value->PySem.Shared->Prop
abbrev AO:=List (PySem.Addr×PySem.Obj)
abbrev SO:=PySem.Str->Option PySem.Value
abbrev Da:=@List
set_option autoImplicit true
def Xs:=@PySem.F.slot_dict_valueiterator_next
def PN:=@Int.mul_le_mul_of_nonneg_right
def HW:=@Int.mul_le_mul_of_nonneg_left
def Xu:=@PySem.wpAny_typeNameOfWhole_keyiter
def Xv:=@PySem.wpAny_typeNameOfWhole_valiter
def Xw:=@PySem.F.slot_dict_keyiterator_next
def SH:=@PyProof.Rows.callWith_type1
def mV:=@List.idxOf_lt_length_of_mem
def Xx:=@Int.ediv_eq_of_eq_mul_right
def CH:=@List.getElem?_append_right
def dD:=@List.getD_eq_getElem?_getD
def Ra:=@PySem.F.slot_tuple_iterator_next
def Rb:=@List.length_eraseIdx_of_lt
def dM:=@List.getElem?_eq_some_iff
def C8:=@List.getElem?_append_left
def KO:=@List.mem_or_eq_of_mem_set
def Rc:=@List.drop_eq_getElem_cons
def bf:=@List.getElem?_eq_getElem
def Rg:=@PySem.wpAny_typeNameOf_keyiter
def Rh:=@PySem.wpAny_typeNameOf_valiter
def KP:=@List.eq_of_mem_replicate
def Gi:=@Int.mul_ediv_cancel_left
def KQ:=@List.idxOf_lt_length_iff
def mW:=@PySem.F.slot_list_append
def mX:=@PySem.F.type_list_append
def Ri:=@List.getElem?_replicate
def AB:=@PySem.wpAny_callSpecial?_slot
def Rj:=@List.filter_cons_of_pos
def mY:=@PySem.F.plainAttrs_list
def kC:=@List.getElem?_set_self
def cU:=@PySem.Heap.get?_push_of_some
def mZ:=@Option.map_eq_some_iff
def KR:=@List.take_of_length_le
def uC:=@List.zipWith_cons_cons
def Rk:=@PySem.Calls.callWith_builtin
def Gj:=@PyProof.Rows.boot_list
def kD:=@List.mem_append_right
def jd:=@List.length_replicate
def Rl:=@PySem.Heap.get?_update_self
def Gk:=@List.length_filter_le
def m7:=@List.getElem?_eq_none
def Rm:=@PySem.wpAny_isOneOf_valiter
def Rn:=@List.getElem?_zipWith
def Ro:=@Int.le_ediv_of_mul_le
def uD:=@PyProof.Rows.boot_sum
def KS:=@PyProof.Rows.boot_min
def cQ:=@List.mem_cons_of_mem
def ze:=@List.mem_append_left
def yh:=@List.getElem?_set_ne
def bg:=@List.mem_of_getElem?
def oz:=@Bool.and_eq_true_iff
def Rp:=@PySem.intBits_le_iff
def Gm:=@beq_eq_false_iff_ne
def C9:=@List.filterMap_cons
def fK:=@PySem.Heap.get?_push_size
def zf:=@PySem.mem_of_lookup
def zg:=@List.replicate_succ
def KU:=@Bool.or_eq_true_iff
def Gn:=@PySem.Heap.SameBut.update
def kF:=@List.length_zipWith
def AD:=@List.filter_eq_self
def qA:=@List.map_congr_left
def m8:=@List.getElem_of_mem
def KW:=@List.filter_sublist
def lz:=@Nat.lt_of_lt_of_le
def cM:=@List.mem_cons_self
def gH:=@Bool.false_ne_true
def KY:=@PySem.wpAny_Call_Name_kw
def cW:=@List.length_append
def Rq:=@PySem.tupleKind_room_in1
def Gp:=@Nat.lt_of_le_of_lt
def dF:=@List.mem_singleton
def zh:=@Int.emod_lt_of_pos
def KZ:=@Bool.false_eq_true
def Gq:=@PySem.Obj.data_mapFields
def Gr:=@PySem.wpAny_setField_rec
def K0:=@List.set_cons_succ
def K1:=@List.set_cons_zero
def Rr:=@PySem.F.slot_dict_values
def Rt:=@List.filter_append
def qB:=@of_decide_eq_false
def sy:=@PySem.W.mg_none_of
def Ru:=@PySem.wpAny_pyIter_list
def bV:=@List.getElem?_map
def je:=@List.size_toArray
def Rv:=@List.flatten_cons
def K2:=@List.append_assoc
def dN:=@of_decide_eq_true
def Rw:=@Nat.lt_succ_of_lt
def zj:=@PySem.wpAny_newObj_type
def C_:=@PySem.wpAny_truthy_bool
def Rx:=@List.getElem?_set
def Gs:=@List.length_range
def Ry:=@PySem.wpAny_dictEntries
def sH:=@Int.toNat_natCast
def Gu:=@List.foldl_append
def Gv:=@List.getElem?_inj
def pN:=@Bool.eq_false_iff
def jf:=@List.length_cons
def uE:=@List.length_take
def Km:=@List.cons_append
def fX:=@List.filter_cons
def Kn:=@beq_self_eq_true
def Ko:=@Int.ediv_le_self
def qC:=@Nat.le_add_right
def mG:=@List.lookup_cons
def qD:=@List.all_eq_true
def zm:=@List.getElem_mem
def xC:=@PySem.wpAny_call_entry
def D4:=@List.drop_length
def cL:=@List.take_length
def c9:=@decide_eq_false
def gP:=@Option.some.inj
def iG:=@List.mem_filter
def c7:=@List.mem_append
def BU:=@Bool.eq_iff_iff
def aE:=@List.length_map
def qE:=@PySem.W.kia_one
def qF:=@List.append_nil
def g_:=@List.nodup_cons
def fH:=@List.length_set
def jV:=@List.foldl_cons
def Kq:=@List.nil_append
def qG:=@List.find?_cons
def Kr:=@Option.map_some
def bN:=@List.map_append
def o9:=@Int.emod_nonneg
def Ks:=@Int.ediv_nonneg
def Ku:=@List.forIn_cons
def Kv:=@PySem.pushCells_keeps
def Kw:=@PySem.wpAny_dictEpoch
def Ky:=@PySem.F.slot_zip_next
def zu:=@List.sum_append
def zx:=@PySem.wpAny_passesOwn
def Kz:=@PySem.wpAny_execs_nil
def fT:=@PySem.PassesOwn.never
def tO:=@List.mem_range
def nL:=@PySem.Heap.size_push
def bR:=@decide_eq_true
def D5:=@Int.natAbs_mul
def D6:=@List.forIn_nil
def xD:=@PySem.wpAny_fieldsOf
def BV:=@PySem.wpAny_setField
def xE:=@PySem.wpAny_seqItems
def xF:=@List.nodup_nil
def kJ:=@Int.mul_nonneg
def D7:=@Nat.mul_le_mul
def d7:=@PySem.boot_len
def kK:=@Nat.lt_irrefl
def fm:=@List.mem_cons
def bK:=@List.map_cons
def D8:=@List.any_cons
def D9:=@Int.le_of_dvd
def b9:=@List.sum_cons
def D_:=@PySem.wpAny_standAt
def Ea:=@PySem.wpAny_holding
def iR:=@Int.mul_assoc
def BW:=@List.map_take
def cE:=@PySem.Heap.lt_size
def gr:=@Nat.ne_of_lt
def fY:=@Nat.le_trans
def BX:=@Nat.le_of_lt
def BY:=@Nat.ne_of_gt
def aW:=@List.mem_map
def Eb:=@Int.ediv_one
def Ed:=@Int.lt_or_le
def qH:=@List.set_set
def zy:=@Nat.min_self
def dJ:=@List.map_map
def xG:=@Nat.sub_self
def lC:=@Int.mul_comm
def xH:=@Int.zero_add
def jW:=@Int.zero_mul
def kL:=@List.map_set
def xJ:=@Int.sub_zero
def BZ:=@Int.le_trans
def B0:=@Int.le_of_lt
def tP:=@Sum.inr.inj
def o_:=@Int.mul_one
def aL:=@Nat.le_refl
def iH:=@Nat.zero_le
def mH:=@PySem.sizeLine_eq
def pe:=@PySem.wpAny_field
def eO:=@Int.le_refl
def xK:=@Int.mul_pos
def lD:=@Int.mul_add
def nM:=@Int.add_mul
def jX:=@PySem.wpAny_mono
def bw:=@PySem.wpAny_pure
def aA:=@PySem.wpAny_bind
def vh:=@beq_iff_eq
def ig:=@congrArg
def tQ:=@if_false
def cJ:=@Ne.symm
def ay:=@if_pos
def av:=@if_neg
def Z{α:Sort _}{a:α}:a=a:=rfl
namespace L2
open PySem PySem.Spec PyProof.Rows
abbrev Key:=Sum Int Str
def zz:Key->Value->Bool
 | .inl k,v=>Value.isInt k v
 | .inr x,v=>Value.isStrOf x v
def ahh(w:World):Key->Int
 | .inl k=>hashInt k
 | .inr x=>hashStr w x
theorem ie:∀{k:Key}{v:Value},zz k v=true->(∃i t,k=Sum.inl i/\v=Value.int i t)\/(∃x t,k=Sum.inr x/\v=Value.str x t)
 | .inl i,v,h=>by obtain⟨t,e⟩:=Value.isInt_shape (k:=i) (v:=v) h;exact .inl ⟨i,t,Z,e⟩
 | .inr x,v,h=>by obtain⟨t,e⟩:=Value.isStrOf_shape (x:=x) (v:=v) h;exact .inr ⟨x,t,Z,e⟩
def SI(i:Int)(t:Tok):zz (.inl i) (.int i t)=true:=by simp[zz,Value.isInt]
def SJ(x:Str)(t:Tok):zz (.inr x) (.str x t)=true:=by simp[zz,Value.isStrOf]
def aau(a b:Int):decide ((Sum.inl a:Key)=Sum.inl b)=(a==b):=by
 by_cases e:a=b
 .subst e;simp
 .have h:¬ (Sum.inl a:Key)=Sum.inl b:=λq=>e (Sum.inl.inj q);rw[c9 h];exact(Gm.mpr e).symm
def aav(a b:Str):decide ((Sum.inr a:Key)=Sum.inr b)=decide (a=b):=by
 by_cases e:a=b
 .subst e;simp
 .have h:¬ (Sum.inr a:Key)=Sum.inr b:=λq=>e (tP q);rw[c9 h,c9 e]
def aaw(a:Int)(b:Str):decide ((Sum.inl a:Key)=Sum.inr b)=false:=c9 (λq=>nomatch q)
def aax(a:Str)(b:Int):decide ((Sum.inr a:Key)=Sum.inl b)=false:=c9 (λq=>nomatch q)
def di(prog:Program)(w:World):PySem.KeyKind prog w Key where
 is:=zz
 hash:=ahh w
 inj:=λv a b ha hb=>by
  rcases ie ha with⟨i,t,rfl,rfl⟩|⟨x,t,rfl,rfl⟩
  .rcases ie hb with⟨j,u,rfl,e⟩|⟨y,u,rfl,e⟩
   .injection e with e1 _;rw[e1]
   .exact nomatch e
  .rcases ie hb with⟨j,u,rfl,e⟩|⟨y,u,rfl,e⟩
   .exact nomatch e
   .injection e with e1 _;rw[e1]
 byValue:=λk v h=>by rcases ie h with⟨i,t,rfl,rfl⟩|⟨x,t,rfl,rfl⟩ <;> rfl
 pyHash:=λhv h=>by
  rcases ie hv with⟨i,t,rfl,rfl⟩|⟨x,t,rfl,rfl⟩
  .exact wpAny_pyHash_int h
  .exact wpAny_pyHash_str h
 eqBool:=λhu hv h=>by
  rcases ie hu with⟨i,t,rfl,rfl⟩|⟨x,t,rfl,rfl⟩
  .rcases ie hv with⟨j,u,rfl,rfl⟩|⟨y,u,rfl,rfl⟩
   .rw [aau]at h;exact wpAny_eqBool_int h
   .rw [aaw]at h;exact SeqAt.EqAt.int_str i t y u _ _ _ _ h
  .rcases ie hv with⟨j,u,rfl,rfl⟩|⟨y,u,rfl,rfl⟩
   .rw [aax]at h;exact SeqAt.EqAt.str_int x t j u _ _ _ _ h
   .rw [aav]at h;exact wpAny_eqBool_str h
 «strs»:=λk x t v h=>by
  rcases ie h with⟨i,u,rfl,e⟩|⟨y,u,rfl,e⟩
  .exact nomatch e
  .injection e with e1 _;subst e1;cases v <;> rfl
def Rz(prog:Program)(w:World)(k:Key)(v:Value):(di prog w).is k v=zz k v:=rfl
def Oh(prog:Program)(w:World)(i:Int)(t:Tok):(di prog w).is (.inl i) (.int i t)=true:=SI i t
def Oi(prog:Program)(w:World)(x:Str)(t:Tok):(di prog w).is (.inr x) (.str x t)=true:=SJ x t
inductive V where
 | cy|bl (b:Bool)|int (i:Int)|str (x:Str)|Al (b:Array UInt8)|K3 (b:UInt64)|ref (a:Addr)|ty (n:String)
 deriving DecidableEq
def RelV:V->Value->Prop
 | .cy,u=>u=Value.none
 | .bl b,u=>u=Value.bool b
 | .int i,u=>∃t,u=Value.int i t
 | .str x,u=>∃t,u=Value.str x t
 | .Al b,u=>∃t,u=Value.bytes b t
 | .K3 b,u=>∃t,u=Value.float b t
 | .ref a,u=>u=Value.ref a
 | .ty n,u=>u=Value.type n
abbrev Vals:Da V->Da Value->Prop:=Paired RelV
variable {xs:Da V}{us:Da Value}
theorem Vals.length(r:Vals xs us):xs.length=us.length:=Paired.length r
theorem Vals.get:∀{xs:Da V}{us:Da Value}{i:Nat}{x:V},Vals xs us->xs[i]?=some x->∃u,us[i]?=some u/\RelV x u
 | _,_,_,_,.nil,e=>by simp at e
 | _,_,0,_,.cons r _,e=>by simp at e;subst e;exact⟨_,Z,r⟩
 | _,_,i+1,x,.cons _ t,e=>by obtain⟨u,h1,h2⟩:=Vals.get (i:=i) (x:=x) t (by simpa using e);exact⟨u,by simpa using h1,h2⟩
theorem Vals.set{x:V}{u:Value}(r:RelV x u):∀{xs:Da V}{us:Da Value}(i:Nat),Vals xs us->Vals (xs.set i x) (us.set i u)
 | _,_,_,.nil=> .nil
 | _,_,0,.cons _ t=> .cons r t
 | _,_,i+1,.cons q t=> .cons q (Vals.set r i t)
theorem Vals.append:∀{xs ys:Da V}{us ws:Da Value},Vals xs us->Vals ys ws->Vals (xs++ys) (us++ws)
 | _,_,_,_,.nil,s=>s
 | _,_,_,_,.cons r t,s=> .cons r (Vals.append t s)
def oB:Option V->Option Value->Prop
 | some v,some u=>RelV v u
 | none,none=>True
 | _,_=>False
def KV{κ:Type}:Da (κ×V)->Da (κ×Value)->Prop:=Paired λ(p:κ×V)(q:κ×Value)=>p.1=q.1/\RelV p.2 q.2
def kV:Key->V
 | .inl i=> .int i
 | .inr x=> .str x
inductive HO where
 | lst (xs:Da V)
 | tup (xs:Da V)
 | dK (AT:Da (Key×V))|dT (AT:Da (Da Key×V))
 | set (S:Int->Bool) (n:Nat)
 | ins (C dx:Addr) (fs:Da (Str×V))
 | own (x:Addr)
 | xd (fs:Da (Str×V))
 | met (f x:Addr)
 | yD (lo hi:Int)
 | gy (o:Obj) (u:HO)
 | K4 (ps:Array Value)
 | ext (φ:Heap->Prop)
abbrev Hp:=Addr->Option HO
def upd(H:Hp)(a:Addr)(o:HO):Hp:=λb=>if b=a then some o else H b
variable {H:Hp}{a:Addr}
def aq{o:HO}:upd H a o a=some o:=by unfold upd;rw[ay rfl]
def az{b:Addr}{o:HO}(h:b≠a):upd H a o b=H b:=by unfold upd;rw[av h]
def qj{o u:HO}:upd (upd H a o) a u=upd H a u:=by funext b;unfold upd;split <;> rfl
def jP{b:Addr}{o u:HO}(h:H a=some o)(h':H b=some u)(d:o≠u):a≠b:=by intro e;subst e;rw[h]at h';exact d (gP h')
def aJ{b:Addr}{o:HO}(h:H a=some o)(h':H b=none):a≠b:=by intro e;subst e;rw[h]at h';cases h'
section
variable (P:Program)(w:World)
def fq(H:Hp)(h:Heap)(a:Addr):HO->Prop
 | .lst xs=>xs.length<=sizeLine/\∃(BT:Da Value)(n:Nat),Vals xs BT/\h.get? a=some { cls:=.type "list",data:=.seq BT.toArray n }
 | .tup xs=>xs.length<=sizeLine/\∃BT:Da Value,Vals xs BT/\IsTup h a BT.toArray
 | .dK AT=>AT.length<=sizeLine/\(a==sysModules)=false/\∃vs,KV AT vs/\h.DictOf (di P w) a vs
 | .dT AT=>AT.length<=sizeLine/\(a==sysModules)=false/\∃xs:Da (Da Key×Addr×Value),
     Paired (λ(p:Da Key×V)(q:Da Key×Addr×Value)=>p.1=q.1/\H q.2.1=some (.tup (p.1.map kV))/\RelV p.2 q.2.2) AT xs/\
     ∃o es ep,h.get? a=some o/\o.ExactDict/\o.data =.dict es ep/\es.toList=xs.map (entryOfKey (tupleKind (di P w)))/\(xs.map (·.1)).Nodup
 | .set S n=>h.SetOf (intKind P w) a S n
 | .ins C dx fs=>H dx=some (.own a)/\fs.length<=1000/\dx≠a/\h.get? a=some (PySem.W.instObj C dx)/\
     ∃mA,h.Ns1 dx mA/\(∀f,oB (fs.lookup f) (mA f))/\PySem.Within mA (fs.map (·.1))
 | .own _=>∃o,h.get? a=some o
 | .xd fs=>∃mA,h.Ns1 a mA/\∀f,oB (fs.lookup f) (mA f)
 | .yD lo hi=>∃t u v,h.get? a=some { cls:=.type "range",data:=.fields #[.int lo t,.int hi u,.int 1 v] }
 | .gy o u=>h.get? a=some o/\fq H h a u
 | .K4 ps=>h.get? a=some { cls:=.none,data:=.fields ps }
 | .met f x=>h.get? a=some (PySem.W.methodObj (.ref f) (.ref x))
 | .ext φ=>φ h/\(∃o,h.get? a=some o)/\∀h1 h2:Heap,φ h1->(∀o,h1.get? a=some o->h2.get? a=some o)->φ h2
def jA(H:Hp)(h:Heap):Prop:=∀a o,H a=some o->fq P w H h a o
end
section
variable {P:Program}{w:World}{H H':Hp}{h h':Heap}{a:Addr}{o:HO}
theorem fq.lt(x:fq P w H h a o):a<h.objs.size:=by
 cases o with
 | lst xs=>obtain⟨_,_,_,_,e⟩:=x;exact cE e
 | tup xs=>obtain⟨_,_,_,p⟩:=x;exact p.lt
 | dK AT=>obtain⟨_,_,_,_,o,_,_,e,_⟩:=x;exact cE e
 | dT AT=>obtain⟨_,_,_,_,o,_,_,e,_⟩:=x;exact cE e
 | set S n=>obtain⟨o,_,_,_,e,_⟩:=x;exact cE e
 | ins C dx fs=>obtain⟨_,_,_,e,_⟩:=x;exact cE e
 | own y=>obtain⟨_,e⟩:=x;exact cE e
 | xd fs=>obtain⟨_,⟨_,_,_,e,_⟩,_⟩:=x;exact cE e
 | yD lo hi=>obtain⟨_,_,_,e⟩:=x;exact cE e
 | gy ob u=>obtain⟨e,_⟩:=x;exact cE e
 | K4 ps=>exact cE (show h.get? a=some _ from x)
 | met f y=>exact cE (show h.get? a=some _ from x)
 | ext φ=>obtain⟨_,⟨_,e⟩,_⟩:=x;exact cE e
theorem Paired.VP{α β:Type}{F G:α->β->Prop}:∀{l₁:Da α}{l₂:Da β},Paired F l₁ l₂->(∀a b,F a b->G a b)->Paired G l₁ l₂
 | _,_,.nil,_=> .nil
 | _,_,.cons r t,f=> .cons (f _ _ r) (Paired.VP t f)
def fq.stay(x:fq P w H h a o)(k:∀b u,(b=a\/H b=some (.own a))->h.get? b=some u->h'.get? b=some u)(ho:∀b,H b=some (.own a)->H' b=some (.own a))(ht:∀b xs,H b=some (.tup xs)->H' b=some (.tup xs)):fq P w H' h' a o:=by
 induction o with
 | lst xs=>obtain⟨z,BT,n,r,e⟩:=x;exact⟨z,BT,n,r,k _ _ (.inl rfl) e⟩
 | tup xs=>obtain⟨z,BT,r,ob,e,c⟩:=x;exact⟨z,BT,r,ob,k _ _ (.inl rfl) e,c⟩
 | dK AT=>obtain⟨z,y,vs,r,ob,es,ep,e,c⟩:=x;exact⟨z,y,vs,r,ob,es,ep,k _ _ (.inl rfl) e,c⟩
 | dT AT=>
   obtain⟨z,y,xs,r,ob,es,ep,e,c⟩:=x
   exact⟨z,y,xs,Paired.VP r λp q z=>⟨z.1,ht _ _ z.2.1,z.2.2⟩,ob,es,ep,k _ _ (.inl rfl) e,c⟩
 | set S n=>obtain⟨ob,es,ep,t,e,c⟩:=x;exact⟨ob,es,ep,t,k _ _ (.inl rfl) e,c⟩
 | ins C dx fs=>
   obtain⟨d,z,ne,e,mA,⟨od,es,ep,e2,c⟩,r⟩:=x
   exact⟨ho _ d,z,ne,k _ _ (.inl rfl) e,mA,⟨od,es,ep,k _ _ (.inr d) e2,c⟩,r⟩
 | own y=>obtain⟨ob,e⟩:=x;exact⟨ob,k _ _ (.inl rfl) e⟩
 | xd fs=>obtain⟨mA,⟨od,es,ep,e,c⟩,r⟩:=x;exact⟨mA,⟨od,es,ep,k _ _ (.inl rfl) e,c⟩,r⟩
 | yD lo hi=>obtain⟨t,u,v,e⟩:=x;exact⟨t,u,v,k _ _ (.inl rfl) e⟩
 | gy ob u ih=>obtain⟨e,q⟩:=x;exact⟨k _ _ (.inl rfl) e,ih q⟩
 | K4 ps=>
   have e:h.get? a=some { cls:=.none,data:=.fields ps }:=x
   show h'.get? a=some { cls:=.none,data:=.fields ps }
   exact k a _ (.inl rfl) e
 | met f y=>
   have e:h.get? a=some (PySem.W.methodObj (.ref f) (.ref y)):=x
   show h'.get? a=some (PySem.W.methodObj (.ref f) (.ref y))
   exact k a _ (.inl rfl) e
 | ext φ=>obtain⟨p,⟨o,e⟩,st⟩:=x;exact⟨st _ _ p λo q=>k _ _ (.inl rfl) q,⟨o,k _ _ (.inl rfl) e⟩,st⟩
theorem jA.lt(x:jA P w H h)(e:H a=some o):a<h.objs.size:=(x a o e).lt
def jA.fresh(x:jA P w H h)(e:h.objs.size<=a):H a=none:=by
 cases q:H a with
 | none=>rfl
 | some u=>exact absurd (lz (x.lt q) e) (kK _)
def jA.kept(x:jA P w H h)(k:∀b u,h.get? b=some u->h'.get? b=some u):jA P w H h':=λa o e=>
 (x a o e).stay (λb u _ q=>k b u q) (λ_ q=>q) λ_ _ q=>q
def jA.laid(x:jA P w H h)(k:∀b u,h.get? b=some u->h'.get? b=some u)(hp:h.objs.size<=a)(new:fq P w (upd H a o) h' a o):jA P w (upd H a o) h':=λb u e=>by
 have hn:=x.fresh hp;by_cases hb:b=a
 .subst hb;rw[aq]at e;cases e;exact new
 .rw [az hb]at e;exact(x b u e).stay (λc v _ q=>k c v q) (λc q=>by rw[az (aJ q hn)];exact q) λc xs q=>by rw[az (aJ q hn)];exact q
end
def Rd(H:Hp)(a:Addr)(u:HO):Prop:=H a=some u\/∃o,H a=some (.gy o u)
variable {P:Program}{w:World}{h:Heap}
def Rd.ok{u:HO}(r:Rd H a u)(x:jA P w H h):fq P w H h a u:=by
 rcases r with r|⟨o,r⟩
 .exact x a u r
 .obtain ⟨_,q⟩:=x a _ r;exact q
def SK:Option HO->Prop
 | some (.lst _)=>True
 | some (.dK _)=>True
 | some (.dT _)=>True
 | some (.set _ _)=>True
 | some (.ins _ _ _)=>True
 | some (.ext _)=>True
 | _=>False
section
variable {P:Program}{w:World}{H:Hp}{h h':Heap}{x e:Addr}{o':HO}
def jA.write(ok:jA P w H h)(mu:SK (H x))(he:e=x\/H e=some (.own x))(k:∀b u,b≠e->h.get? b=some u->h'.get? b=some u)(PO:∃u,h'.get? e=some u)(new:fq P w (upd H x o') h' x o'):jA P w (upd H x o') h':=λb u q=>by
 have aay:∀c y,H c=some (.own y)->c≠x:=λc y r z=>by subst z;rw[r]at mu;exact mu
 have ahi:∀c xs,H c=some (.tup xs)->c≠x:=λc xs r z=>by subst z;rw[r]at mu;exact mu
 by_cases hb:b=x
 . subst hb;rw[aq]at q;cases q;exact new
 . rw[az hb]at q
   by_cases K5:b=e
   . have q':H b=some (.own x):=by
      rcases he with z|z
      . exact absurd (K5.trans z) hb
      . rw[K5];exact z
     rw[q]at q';cases q'
     obtain⟨v,hv⟩:=PO
     exact⟨v,by rw[K5];exact hv⟩
   . refine(ok b u q).stay (λc v hc r=>k c v ?_ r) (λc r=>by rw[az (aay c b r)];exact r) λc xs r=>by rw[az (ahi c xs r)];exact r
     rcases hc with rfl|hc
     . exact K5
     . rintro rfl
       rcases he with z|z
       . exact aay c b hc z
       . rw[hc]at z;cases z;exact hb rfl
end
structure Un(fs ex:Da Addr)(H H':Hp)(h h':Heap):Prop where
 keep:∀b o,h.get? b=some o->H b=none->b∉fs->b∉ex->h'.get? b=some o
 slot:∀b o,h.get? b=some o->H b=none->b∈fs->b∉ex->∃sl,h'.get? b=some { o with slots:=sl }
 free:∀b o,h.get? b=some o->H b=none->b∉ex->H' b=none
 there:∀b o,h.get? b=some o->b∉ex->∃o',h'.get? b=some o'
 tups:∀b xs,H b=some (.tup xs)->H' b=some (.tup xs)
 uF:∀b o u,H b=some (.gy o u)->H' b=some (.gy o u)
 yi:∀b ps,H b=some (.K4 ps)->∃more,H' b=some (.K4 (ps++more))
section
variable {fs fs' ex ex':Da Addr}{H H1 H2:Hp}{h h1 h2 h':Heap}{a x e:Addr}{o:HO}
def Un.any(u:Un fs ex H H1 h h1){b:Addr}(q:h.get? b=some ob)(n:H b=none)(hx:b∉ex):∃sl,h1.get? b=some { ob with slots:=sl }:=by
 by_cases hb:b∈fs
 .exact u.slot b ob q n hb hx
 .exact ⟨ob.slots,u.keep b ob q n hb hx⟩
def Un.kept(k:∀b u,h.get? b=some u->h'.get? b=some u):Un fs ex H H h h':=⟨λb ob q _ _ _=>k b ob q,λb ob q _ _ _=>⟨ob.slots,k b ob q⟩,λ_ _ _ n _=>n,λb ob q _=>⟨ob,k b ob q⟩,λ_ _ q=>q,λ_ _ _ q=>q,λ_ ps q=>⟨#[],by rw[q];simp⟩⟩
def Un.refl:Un fs ex H H h h:=Un.kept λ_ _ q=>q
def Un.laid(k:∀b u,h.get? b=some u->h'.get? b=some u)(hp:h.objs.size<=a)(hn:H a=none):Un fs ex H (upd H a o) h h' where
 keep:=λb u q _ _ _=>k b u q
 slot:=λb u q _ _ _=>⟨u.slots,k b u q⟩
 free:=λb u q n _=>by rw[az (gr (lz (cE q) hp))];exact n
 there:=λb u q _=>⟨u,k b u q⟩
 tups:=λb xs q=>by rw[az (aJ q hn)];exact q
 uF:=λb u xs q=>by rw[az (aJ q hn)];exact q
 yi:=λb ps q=>⟨#[],by rw[az (aJ q hn),q];simp⟩
def Un.write(mu:SK (H x))(he:e=x\/H e=some (.own x))(k:∀b u,b≠e->h.get? b=some u->h'.get? b=some u)(PO:∃u,h'.get? e=some u):Un fs ex H (upd H x o) h h':=by
 have hx:∀b,H b=none->b≠x:=λb n z=>by subst z;rw[n]at mu;exact mu
 have hb:∀b,H b=none->b≠e:=λb n z=>by
  subst z;rcases he with r|r
  .exact hx b n r
  .rw [n]at r;cases r
 have hm:∀b u,H b=some u->¬ SK (some u)->b≠x:=λb u q nm z=>by subst z;rw[q]at mu;exact nm mu
 refine⟨λb u q n _ _=>k b u (hb b n) q,λb u q n _ _=>⟨u.slots,k b u (hb b n) q⟩,λb u q n _=>by rw[az (hx b n)];exact n,λb u q _=>?_,
  λb xs q=>by rw[az (hm b _ q λz=>z)];exact q,λb u xs q=>by rw[az (hm b _ q λz=>z)];exact q,λb ps q=>⟨#[],by rw[az (hm b _ q λz=>z),q];simp⟩⟩
 by_cases K5:b=e
 .subst K5;exact PO
 .exact ⟨u,k b u K5 q⟩
end
def Xy(h:Heap)(H:Hp):Da Addr:=(List.range h.objs.size).filter λa=>(H a).isSome
def zA(h:Heap)(H:Hp):Heap:=PySem.W.hideAll h (Xy h H)
def SM(h:Heap)(H:Hp):(zA h H).objs.size=h.objs.size:=PySem.W.hideAll_size _ _
def VQ{b:Addr}{o:Obj}(e:h.get? b=some o)(n:H b=none):(zA h H).get? b=some o:=PySem.W.hideAll_get _ e λhm=>by have q:(H b).isSome=true:=(iG.mp hm).2;rw[n]at q;simp at q
def YR{b:Addr}{o:Obj}(e:(zA h H).get? b=some o):h.get? b=some o/\H b=none:=by
 have e':h.get? b=some o:=PySem.W.of_hideAll (Xy h H) e;refine⟨e',?_⟩;cases q:H b with
 | none=>rfl
 | some x=>have hm:b∈Xy h H:=iG.mpr ⟨tO.mpr (cE e'),by simp[q]⟩;have z:(zA h H).get? b=none:=PySem.W.hideAll_none (Xy h H) hm;rw[z]at e;cases e
structure Mod(K:Fg)(mg:SO)(base:Heap):Prop where
 SN:K.In base
 glob:base.Ns mainGlobals mg
 blt:∃mb,base.Ns builtinsNs mb/\∀x:Str,x ≠ "__name__"->mb x=bootBuiltins x
 nolimit:base.NoLimit
structure Cx where
 prog:Program
 w:World
 K:Fg
 mg:Str->Option Value
 base:Heap
 A:Around
 N:Da Str
 s₀:Shared
 H₀:Hp
 env:Env
 outer:Da Env
 stack:Da Env
 ex:Da Addr
 fn:Str->Bool
 calm:Bool
 pn:Da (Addr×Obj)
 xe:Value->Shared->Prop
def frs(l:Da Env):Da Addr:=l.filterMap (·.frame)
abbrev Cx.fs(X:Cx):Da Addr:=frs X.outer
def Xz(sc:Scope)(x:Str):Prop:=sc.names.lookup x=some .local\/sc.names.lookup x=some .cell\/sc.names.lookup x=some .free
def Loc(sc:Scope)(x:Str):Prop:=sc.names.lookup x=some .local\/sc.names.lookup x=some .cell
def Look(env:Env)(h:Heap)(m:SO)(x:Str)(u:Value):Prop:=(env.kindOf x=some .local/\m x=some u)\/((env.kindOf x=some .cell\/env.kindOf x=some .free)/\∃c,env.cells.lookup x=some c/\h.IsCell c (some u))
structure Cx.Ok(X:Cx):Prop where
 mod:Mod X.K X.mg X.base
 kind:X.env.scope.kind =.function
 glob:X.env.globals=mainGlobals
 blt:X.env.builtins=builtinsNs
 above:X.s₀.heap.objs.size<=X.env.locals
 inj:∀x y c,X.env.cells.lookup x=some c->X.env.cells.lookup y=some c->x=y
 has:∀x,(X.env.kindOf x=some .cell\/X.env.kindOf x=some .free)->∃c,X.env.cells.lookup x=some c
 ia:∀x c,X.fn x=true->X.env.cells.lookup x=some c->X.s₀.heap.objs.size<=c
 hd:X.calm=true->X.A.handled=none
 frames:X.A.frames=some X.stack
 stk:X.stack=X.outer\/(X.stack=X.env::X.outer/\X.env.frame=some X.env.locals)
 PR:∀b∈X.ex,b≠X.env.locals/\∀x c,X.env.cells.lookup x=some c->c≠b
 bs:∀b o,X.base.get? b=some o->X.s₀.heap.get? b=some o/\X.H₀ b=none
 HX:X.base.objs.size<=X.s₀.heap.objs.size
 K6:∀b o,X.base.get? b=some o->b∉X.ex
 Gw:∀b∈X.ex,b∉X.fs
 uG:X.s₀.heap.FunFrames X.base X.outer
 K7:∀b∈X.fs,X.H₀ b=none
structure Inv(X:Cx)(AC:AO)(σ:Da (Option V))(H:Hp)(s:Shared):Prop where
 ok:X.Ok
 os:s.os=X.s₀.os
 bare:AllBare s.gens
 base:Un X.fs X.ex X.H₀ H X.s₀.heap s.heap
 loc:∃m,s.heap.Ns X.env.locals m/\∀(i:Nat)(x:Str)(v:V),X.N[i]?=some x->σ[i]?=some (some v)->Xz X.env.scope x->∃u,RelV v u/\Look X.env s.heap m x u
 cell:∀x c,X.env.cells.lookup x=some c->∃v,s.heap.IsCell c v
 free:H X.env.locals=none
 pA:∀x c,X.env.cells.lookup x=some c->H c=none
 pin:∀p∈X.pn++AC,s.heap.get? p.1=some p.2/\H p.1=none/\p.1≠X.env.locals/\p.1∉X.fs/\∀v,p.2.data ≠ .cell v
 hok:jA X.prog X.w H s.heap
 len:σ.length=X.N.length
variable {g':Array GenState}{t' i j:Nat}{ch:Da Addr}{it:Addr}{N:Da Str}{x:Str}{M:Model}{E:VS}{u:Value}
section
variable {X:Cx}{AC:AO}{σ:Da (Option V)}{H H':Hp}{s:Shared}{h':Heap}
def Cx.Ok.ahj(ok:X.Ok){b:Addr}{o:Obj}(e:X.base.get? b=some o):b∉X.fs:=λhb=>by have:=(ok.uG.mem hb).1;rw[e]at this;cases this
theorem Inv.bs(I:Inv X AC σ H s):∀b o,X.base.get? b=some o->s.heap.get? b=some o/\H b=none:=λb o e=>
 ⟨I.base.keep b o (I.ok.bs b o e).1 (I.ok.bs b o e).2 (I.ok.ahj e) (I.ok.K6 b o e),I.base.free b o (I.ok.bs b o e).1 (I.ok.bs b o e).2 (I.ok.K6 b o e)⟩
def Inv.bk(I:Inv X AC σ H s):∀b o,X.base.get? b=some o->s.heap.get? b=some o:=λb o e=>(I.bs b o e).1
theorem Inv.mod(I:Inv X AC σ H s):Mod X.K X.mg X.base:=I.ok.mod
def Inv.k_(I:Inv X AC σ H s):X.K.In s.heap:=I.ok.mod.SN.keeps I.bk
theorem Inv.lt(I:Inv X AC σ H s):X.env.locals<s.heap.objs.size:=let⟨_,hn,_⟩:=I.loc;hn.lt
def Inv.sz(I:Inv X AC σ H s):X.s₀.heap.objs.size<=s.heap.objs.size:=fY I.ok.above (BX I.lt)
def Inv.ahk(I:Inv X AC σ H s)(h:s.heap.objs.size<=a):a∉X.fs:=λhb=>by obtain⟨_,o,ho,_⟩:=I.ok.uG.mem hb;exact absurd (lz (cE ho) (fY I.sz h)) (kK _)
def Inv.K8(I:Inv X AC σ H s):∀x c,X.env.cells.lookup x=some c->c≠X.env.locals:=λx c e z=>by obtain⟨v,o,ho,hd⟩:=I.cell x c e;obtain⟨m,⟨o',es,ep,ho',hd',_⟩,_⟩:=I.loc;rw[z,ho']at ho;cases ho;rw[hd']at hd;cases hd
theorem Inv.uG(I:Inv X AC σ H s):s.heap.FunFrames X.base X.outer:=by
 have all:∀(l:Da Env),(∀b∈frs l,b∈X.fs)->X.s₀.heap.FunFrames X.base l->s.heap.FunFrames X.base l:=by
  intro l
  induction l with
  | nil=>intro _ _;trivial
  | cons env r ih=>intro hs hl;obtain⟨hk,⟨L,o,hf,hn,ho,hd⟩,hr⟩:=hl;have hL:L∈X.fs:=hs L (by unfold frs;rw[C9,hf];exact cM);obtain⟨sl,e⟩:=I.base.slot L o ho (I.ok.K7 L hL) hL λz=>I.ok.Gw L z hL;exact⟨hk,⟨L,_,hf,hn,e,hd⟩,ih (λb hb=>hs b (by unfold frs;rw[C9,hf];exact cQ _ hb)) hr⟩
 exact all X.outer (λ_ hb=>hb) I.ok.uG
theorem Inv.stack(I:Inv X AC σ H s):s.heap.FunFrames X.base X.stack:=by
 rcases I.ok.stk with e|⟨e,hf⟩
 .rw [e];exact I.uG
 .rw [e];obtain⟨m,hn,_⟩:=I.loc;refine .cons (by rw[I.ok.kind];decide) hf hn ?_ I.uG;exact Heap.get?_none_of_le (fY I.ok.HX I.ok.above)
def Inv.K9(I:Inv X AC σ H s):∀b∈frs X.stack,b∈X.env.locals::X.fs:=λb hb=>by
 rcases I.ok.stk with e|⟨e,hf⟩
 .rw [e]at hb;exact cQ _ hb
 .rw [e]at hb;unfold frs at hb;rw[C9,hf]at hb;exact hb
def Inv.PU(I:Inv X AC σ H s):∀b∈frs X.stack,H b=none:=λb hb=>by
 rcases fm.mp (I.K9 b hb)with e|hb
 .rw [e];exact I.free
 .obtain ⟨_,o,ho,_⟩:=I.ok.uG.mem hb;exact I.base.free b o ho (I.ok.K7 b hb) λz=>I.ok.Gw b z hb
def Inv.step{d':Drawn}(I:Inv X AC σ H s)(hch:∀b∈ch,(b∈X.ex\/X.s₀.heap.objs.size<=b)/\b≠X.env.locals/\(∀x c,X.env.cells.lookup x=some c->c≠b)/\∀p∈X.pn++AC,p.1≠b)(keep:∀b o,b≠X.env.locals->b∉X.fs->b∉ch->s.heap.get? b=some o->H b=none->h'.get? b=some o)(slot:∀b o,b≠X.env.locals->b∈X.fs->b∉ch->s.heap.get? b=some o->H b=none->∃sl,h'.get? b=some { o with slots:=sl })(free:∀b o,b∉ch->s.heap.get? b=some o->H b=none->H' b=none)(there:∀b o,b∉ch->s.heap.get? b=some o->∃o',h'.get? b=some o')(tups:∀b xs,H b=some (.tup xs)->H' b=some (.tup xs))(uF:∀b o u,H b=some (.gy o u)->H' b=some (.gy o u))(yi:∀b ps,H b=some (.K4 ps)->∃more,H' b=some (.K4 (ps++more)))(ns:∀m,s.heap.Ns X.env.locals m->h'.Ns X.env.locals m)(hok:jA X.prog X.w H' h')(hg:AllBare g'):
  Inv X AC σ H' { s with heap:=h',gens:=g',drawn:=d',toks:=t' }:=by
 have neL:∀b o,X.s₀.heap.get? b=some o->b≠X.env.locals:=λb o e=>gr (lz (cE e) I.ok.above)
 have XA:∀b o,X.s₀.heap.get? b=some o->b∉X.ex->b∉ch:=λb o e hx hb=>by
  rcases(hch b hb).1 with z|z
  .exact hx z
  .exact absurd (lz (cE e) z) (kK _)
 have cellK:∀x c,X.env.cells.lookup x=some c->∀v,s.heap.IsCell c v->h'.IsCell c v:=λx c e v ⟨o,ho,hd⟩=>by
  have yE:c∉ch:=λz=>(hch c z).2.2.1 x c e rfl;by_cases hc:c∈X.fs
  .obtain ⟨sl,q⟩:=slot c o (I.K8 x c e) hc yE ho (I.pA x c e);exact⟨_,q,hd⟩
  .exact ⟨o,keep c o (I.K8 x c e) hc yE ho (I.pA x c e),hd⟩
 refine⟨I.ok,I.os,hg,⟨λb o e n hb hx=>?_,λb o e n hb hx=>?_,λb o e n hx=>?_,λb o e hx=>?_,λb xs e=>tups b xs (I.base.tups b xs e),λb o xs e=>uF b o xs (I.base.uF b o xs e),λb ps e=>?_⟩,?_,λx c e=>?_,?_,λx c e=>?_,λp hp=>?_,hok,I.len⟩
 . exact keep b o (neL b o e) hb (XA b o e hx) (I.base.keep b o e n hb hx) (I.base.free b o e n hx)
 . obtain⟨sl,e1⟩:=I.base.slot b o e n hb hx
   obtain⟨sl',e2⟩:=slot b _ (neL b o e) hb (XA b o e hx) e1 (I.base.free b o e n hx)
   exact⟨sl',e2⟩
 . obtain⟨o',e1⟩:=I.base.there b o e hx
   exact free b o' (XA b o e hx) e1 (I.base.free b o e n hx)
 . obtain⟨o',e1⟩:=I.base.there b o e hx
   exact there b o' (XA b o e hx) e1
 . obtain⟨m1,e1⟩:=I.base.yi b ps e
   obtain⟨m2,e2⟩:=yi b _ e1
   exact⟨m1++m2,by rw[e2,Array.append_assoc]⟩
 . obtain⟨m,hn,hl⟩:=I.loc
   refine⟨m,ns m hn,λi x v e1 e2 e3=>?_⟩
   obtain⟨u,r,l⟩:=hl i x v e1 e2 e3
   refine⟨u,r,?_⟩
   rcases l with l|⟨k,c,e,z⟩
   . exact .inl l
   . exact .inr ⟨k,c,e,cellK x c e _ z⟩
 . obtain⟨v,z⟩:=I.cell x c e
   exact⟨v,cellK x c e v z⟩
 . obtain⟨m,⟨o,_,_,ho,_⟩,_⟩:=I.loc
   exact free _ o (λz=>(hch _ z).2.1 rfl) ho I.free
 . obtain⟨v,o,ho,hd⟩:=I.cell x c e
   exact free c o (λz=>(hch c z).2.2.1 x c e rfl) ho (I.pA x c e)
 . obtain⟨e,n,ne,nf,d⟩:=I.pin p hp
   have yE:p.1∉ch:=λz=>(hch p.1 z).2.2.2 p hp rfl
   exact⟨keep p.1 p.2 ne nf yE e n,free p.1 p.2 yE e n,ne,nf,d⟩
def Inv.un(I:Inv X AC σ H s)(u:Un X.fs [] H H' s.heap h')(hok:jA X.prog X.w H' h'):Inv X AC σ H' { s with heap:=h',toks:=t' }:=by obtain⟨m,⟨o,es,ep,ho,r⟩,_⟩:=id I.loc;obtain⟨sl,hL⟩:=u.any ho I.free (by simp);exact I.step (g':=s.gens) (d':=s.drawn) (ch:=[]) (λ_ z=>nomatch z) (λb o _ hb _ e n=>u.keep b o e n hb (by simp)) (λb o _ hb _ e n=>u.slot b o e n hb (by simp)) (λb o _ e n=>u.free b o e n (by simp)) (λb o _ e=>u.there b o e (by simp)) u.tups u.uF u.yi (λm' hm=>by obtain⟨o',es',sf,ho',r'⟩:=hm;rw[ho]at ho';cases ho';exact⟨_,es',sf,hL,r'⟩) hok I.bare
def Inv.call{d':Drawn}(I:Inv X AC σ H s)(u:Un (frs X.stack) ch H H' s.heap h')(hok:jA X.prog X.w H' h')(hg:AllBare g')(hch:∀b∈ch,(b∈X.ex\/X.s₀.heap.objs.size<=b)/\b≠X.env.locals/\(∀x c,X.env.cells.lookup x=some c->c≠b)/\∀p∈X.pn++AC,p.1≠b):
  Inv X AC σ H' { s with heap:=h',gens:=g',drawn:=d',toks:=t' }:=by
 obtain⟨m,⟨o,es,ep,ho,r⟩,_⟩:=id I.loc
 obtain⟨sl,hL⟩:=u.any ho I.free λz=>(hch _ z).2.1 rfl
 exact I.step (ch:=ch) hch (λb o hL hb hc e n=>u.keep b o e n (λz=>(fm.mp (I.K9 b z)).elim hL hb) hc) (λb o _ _ hc e n=>u.any e n hc) (λb o hc e n=>u.free b o e n hc) (λb o hc e=>u.there b o e hc) u.tups u.uF u.yi (λm' hm=>by obtain⟨o',es',sf,ho',r'⟩:=hm;rw[ho]at ho';cases ho';exact⟨_,es',sf,hL,r'⟩) hok hg
def Inv.turned(I:Inv X AC σ H s)(k:∀b o,b≠it->s.heap.get? b=some o->h'.get? b=some o)(hn:H it=none)(hL:it≠X.env.locals)(h1:it∈X.ex\/X.s₀.heap.objs.size<=it)(h2:∀x c,X.env.cells.lookup x=some c->c≠it)(h3:∀p∈X.pn++AC,p.1≠it):Inv X AC σ H { s with heap:=h',toks:=t' }:=by
 have nit:∀b u,H b=some u->b≠it:=λb u e z=>by rw[z,hn]at e;cases e
 refine I.step (g':=s.gens) (d':=s.drawn) (ch:=[it]) (λb hb=>?_) (λb o _ _ hc e _=>k b o (λz=>hc (by simp[z])) e) (λb o _ _ hc e _=>⟨o.slots,k b o (λz=>hc (by simp[z])) e⟩) (λ_ _ _ _ n=>n)
  (λb o hc e=>⟨o,k b o (λz=>hc (by simp[z])) e⟩) (λ_ _ e=>e) (λ_ _ _ e=>e) (λb ps e=>⟨#[],by rw[e];simp⟩) (λm hm=>?_) (λb u e=>?_) I.bare
 . have e:b=it:=by simpa using hb
   subst e
   exact⟨h1,hL,h2,h3⟩
 . obtain⟨o,es,ep,ho,r⟩:=hm
   exact⟨o,es,ep,k _ o (cJ hL) ho,r⟩
 . refine(I.hok b u e).stay (λc v hc q=>k c v ?_ q) (λ_ q=>q) λ_ _ q=>q
   rcases hc with z|z
   . rw[z];exact nit b u e
   . exact nit c _ z
def Inv.tok(I:Inv X AC σ H s)(t:Nat):Inv X AC σ H { s with toks:=t }:=I.un (h':=s.heap) (t':=t) Un.refl I.hok
theorem Inv.kept(I:Inv X AC σ H s)(k:∀b u,s.heap.get? b=some u->h'.get? b=some u):Inv X AC σ H { s with heap:=h',toks:=t' }:=I.un (Un.kept k) (I.hok.kept k)
theorem Inv.laid{o:HO}(I:Inv X AC σ H s)(k:∀b u,s.heap.get? b=some u->h'.get? b=some u)(hp:s.heap.objs.size<=a)(new:fq X.prog X.w (upd H a o) h' a o):Inv X AC σ (upd H a o) { s with heap:=h',toks:=t' }:=I.un (Un.laid k hp (I.hok.fresh hp)) (I.hok.laid k hp new)
theorem Inv.write{x e:Addr}{o:HO}(I:Inv X AC σ H s)(mu:SK (H x))(he:e=x\/H e=some (.own x))(k:∀b u,b≠e->s.heap.get? b=some u->h'.get? b=some u)(PO:∃u,h'.get? e=some u)(new:fq X.prog X.w (upd H x o) h' x o):Inv X AC σ (upd H x o) { s with heap:=h',toks:=t' }:=I.un (Un.write mu he k PO) (I.hok.write mu he k PO new)
def Inv.PV{XC:AO}(I:Inv X AC σ H s)(h:∀p∈XC,s.heap.get? p.1=some p.2/\H p.1=none/\p.1≠X.env.locals/\p.1∉X.fs/\∀v,p.2.data ≠ .cell v):Inv X XC σ H s:=⟨I.ok,I.os,I.bare,I.base,I.loc,I.cell,I.free,I.pA,λp hp=>(c7.mp hp).elim (λz=>I.pin p (ze _ z)) (h p),I.hok,I.len⟩
def Dc(hN:N.Nodup)(a:N[i]?=some x)(b:N[j]?=some x):i=j:=by obtain⟨h1,e1⟩:=dM.mp a;obtain⟨h2,e2⟩:=dM.mp b;exact(List.getElem_inj hN).mp (e1.trans e2.symm)
def HY{A:Around}{v:V}{Q:Unit->Shared->Prop}(I:Inv X AC σ H s)(hN:X.N.Nodup)(hi:X.N[i]?=some x)(hx:Loc X.env.scope x)(r:RelV v u)(h:∀s',Inv X AC (σ.set i (some v)) H s'->(∃a,Heap.SameBut a s.heap s'.heap/\(a=X.env.locals\/X.env.cells.lookup x=some a))->Q () s')(hf:X.fn x=true\/X.env.scope.names.lookup x=some .local:=by first|exact .inl rfl|exact .inr rfl|assumption):wpAny M A (storeName X.env x u) Q E s:=by
 obtain⟨m,hn,hl⟩:=id I.loc
 have hcls:(X.env.scope.kind ==.class || (X.env.scope.kind ==.module && X.env.locals != X.env.globals))=false:=by rw[I.ok.kind];rfl
 have hiσ:i<σ.length:=by rw[I.len];exact(dM.mp hi).1
 have K8:=I.K8
 have tracked:∀{a:Addr}{h':Heap},(∃o,s.heap.get? a=some o/\H a=none)->Heap.SameBut a s.heap h'->jA X.prog X.w H h':=λ{a h'} ha hs b ob e=>by
  obtain⟨_,_,hfree⟩:=ha;refine(I.hok b ob e).stay (λc w' hc q=>(hs.2 c ?_).trans q) (λ_ q=>q) λ_ _ q=>q;rintro rfl;rcases hc with rfl|hc
  .rw [hfree]at e;cases e
  .rw [hfree]at hc;cases hc
 rcases hx with hk|hk
 . refine wpAny_storeName_local hk hn (λh' hn' hs=>?_) hcls
   obtain⟨oL,_,_,hoL,_⟩:=id hn
   refine h _ ⟨I.ok,I.os,I.bare,⟨λb o e n hb hx=>?_,λb o e n hb hx=>?_,I.base.free,λb o e hx=>?_,I.base.tups,I.base.uF,I.base.yi⟩,⟨_,hn',λj y v' e1 e2 e3=>?_⟩,λy c e=>?_,I.free,I.pA,λp hp=>?_,tracked ⟨oL,hoL,I.free⟩ hs,by simpa using I.len⟩ ⟨_,hs,.inl rfl⟩
   . exact(hs.2 b (gr (lz (cE e) I.ok.above))).trans (I.base.keep b o e n hb hx)
   . obtain⟨sl,e1⟩:=I.base.slot b o e n hb hx
     exact⟨sl,(hs.2 b (gr (lz (cE e) I.ok.above))).trans e1⟩
   . obtain⟨o',e1⟩:=I.base.there b o e hx
     exact⟨o',(hs.2 b (gr (lz (cE e) I.ok.above))).trans e1⟩
   . by_cases hj:j=i
     . subst hj
       rw[hi]at e1;cases e1
       rw[kC hiσ]at e2
       cases e2
       exact⟨u,r,.inl ⟨hk,by simp⟩⟩
     . rw[yh (cJ hj)]at e2
       obtain⟨u',r',q⟩:=hl j y v' e1 e2 e3
       refine⟨u',r',?_⟩
       rcases q with⟨k,e⟩|⟨k,c,e,z⟩
       . refine .inl ⟨k,?_⟩
         have:y≠x:=λe=>hj (Dc hN e1 (e▸hi))
         simp[this,e]
       . exact .inr ⟨k,c,e,z.sameBut hs (K8 y c e)⟩
   . obtain⟨w',z⟩:=I.cell y c e
     exact⟨w',z.sameBut hs (K8 y c e)⟩
   . obtain⟨e,n,ne,nf,d⟩:=I.pin p hp
     exact⟨(hs.2 p.1 ne).trans e,n,ne,nf,d⟩
 . have hfn:X.fn x=true:=by
    rcases hf with z|z
    . exact z
    . rw[z]at hk;cases hk
   obtain⟨c,hc⟩:=I.ok.has x (.inl hk)
   obtain⟨w',z⟩:=I.cell x c hc
   refine wpAny_storeName_cell I.ok.kind hk hc z (λh' hc' hs=>?_)
   obtain⟨oc,hoc,ahl⟩:=id z
   refine h { s with heap:=h' } ⟨I.ok,I.os,I.bare,⟨λb o e n hb hx=>?_,λb o e n hb hx=>?_,I.base.free,λb o e hx=>?_,I.base.tups,I.base.uF,I.base.yi⟩,⟨m,hn.sameBut hs (cJ (K8 x c hc)),λj y v' e1 e2 e3=>?_⟩,λy c' e=>?_,I.free,I.pA,λp hp=>?_,tracked ⟨oc,hoc,I.pA x c hc⟩ hs,by simpa using I.len⟩ ⟨c,hs,.inr hc⟩
   . exact(hs.2 b (gr (lz (cE e) (I.ok.ia x c hfn hc)))).trans (I.base.keep b o e n hb hx)
   . obtain⟨sl,e1⟩:=I.base.slot b o e n hb hx
     exact⟨sl,(hs.2 b (gr (lz (cE e) (I.ok.ia x c hfn hc)))).trans e1⟩
   . obtain⟨o',e1⟩:=I.base.there b o e hx
     exact⟨o',(hs.2 b (gr (lz (cE e) (I.ok.ia x c hfn hc)))).trans e1⟩
   . by_cases hj:j=i
     . subst hj
       rw[hi]at e1;cases e1
       rw[kC hiσ]at e2
       cases e2
       exact⟨u,r,.inr ⟨.inl hk,c,hc,hc'⟩⟩
     . rw[yh (cJ hj)]at e2
       obtain⟨u',r',q⟩:=hl j y v' e1 e2 e3
       refine⟨u',r',?_⟩
       rcases q with q|⟨k,c',e,z'⟩
       . exact .inl q
       . refine .inr ⟨k,c',e,z'.sameBut hs ?_⟩
         rintro rfl
         exact hj (Dc hN e1 (I.ok.inj _ _ _ e hc▸hi))
   . by_cases hcc:c'=c
     . subst hcc;exact⟨_,hc'⟩
     . obtain⟨w2,z2⟩:=I.cell y c' e
       exact⟨w2,z2.sameBut hs hcc⟩
   . obtain⟨e,n,ne,nf,d⟩:=I.pin p hp
     refine⟨(hs.2 p.1 ?_).trans e,n,ne,nf,d⟩
     intro q
     rw[q,hoc]at e
     have q':oc=p.2:=gP e
     exact d w' (by rw[<-q'];exact ahl)
def zC{A:Around}{v:V}{Q:Unit->Shared->Prop}(I:Inv X AC σ H s)(hN:X.N.Nodup)(hi:X.N[i]?=some x)(hx:Loc X.env.scope x)(r:RelV v u)(h:∀s',Inv X AC (σ.set i (some v)) H s'->Q () s')(hf:X.fn x=true\/X.env.scope.names.lookup x=some .local:=by first|exact .inl rfl|exact .inr rfl|assumption):wpAny M A (storeName X.env x u) Q E s:=
 HY I hN hi hx r (λs' I' _=>h s' I') hf
def Inv.XD{s':Shared}(I:Inv X AC σ H s)(ho:s'.os=s.os)(u:Un (frs X.stack) ch H H' s.heap s'.heap)(hok:jA X.prog X.w H' s'.heap)(hg:AllBare s'.gens)(hch:∀b∈ch,(b∈X.ex\/X.s₀.heap.objs.size<=b)/\b≠X.env.locals/\(∀x c,X.env.cells.lookup x=some c->c≠b)/\∀p∈X.pn++AC,p.1≠b):Inv X AC σ H' s':=by
 obtain⟨h',g',d',t',o'⟩:=s'
 have e:o'=s.os:=ho
 subst e
 exact I.call (g':=g') (t':=t') (d':=d') u hok hg hch
end
abbrev XK:=Value->Option Addr->Hp->Prop
abbrev St:=Da (Option V)
abbrev VK:=V->Hp->Prop
abbrev TE:=St->Hp->VK->Prop
abbrev TT:=St->Hp->(Bool->Hp->Prop)->Prop
abbrev TA:=St->Hp->(Da V->Hp->Prop)->Prop
structure Ends where
 nx:St->Hp->Prop
 rt:VK
 bk:St->Hp->Prop:=λ_ _=>False
 ct:St->Hp->Prop:=λ_ _=>False
abbrev TS:=Ends->St->Hp->Prop
def EP(X:Cx)(AC:AO)(σ:St)(Q:VK)(u:Value)(s':Shared):Prop:=∃v H',Inv X AC σ H' s'/\RelV v u/\Q v H'
def TP(X:Cx)(AC:AO)(σ:St)(Q:Bool->Hp->Prop)(b:Bool)(s':Shared):Prop:=∃H',Inv X AC σ H' s'/\Q b H'
def AP(X:Cx)(AC:AO)(σ:St)(Q:Da V->Hp->Prop)(us:Da Value)(s':Shared):Prop:=∃vs H',Inv X AC σ H' s'/\Vals vs us/\Q vs H'
def SP(X:Cx)(AC:AO)(D:Ends)(f:Flow)(s':Shared):Prop:=match f with
 | .next=>∃σ' H',Inv X AC σ' H' s'/\D.nx σ' H'
 | .brk=>∃σ' H',Inv X AC σ' H' s'/\D.bk σ' H'
 | .cont=>∃σ' H',Inv X AC σ' H' s'/\D.ct σ' H'
 | .ret u=>∃v σ' H',Inv X AC σ' H' s'/\RelV v u/\D.rt v H'
def PE(X:Cx)(e:Expr)(t:TE):Prop:=∀(AC:AO)(s:Shared)(σ:St)(H:Hp)(Q:VK),Inv X AC σ H s->t σ H Q->wpAny (model X.prog X.w) X.A (eval e X.env) (EP X AC σ Q) X.xe s
def PT(X:Cx)(e:Expr)(t:TT):Prop:=∀(AC:AO)(s:Shared)(σ:St)(H:Hp)(Q:Bool->Hp->Prop),Inv X AC σ H s->t σ H Q->wpAny (model X.prog X.w) X.A (isTrue e X.env (eval e X.env)) (TP X AC σ Q) X.xe s
def PW(X:Cx)(e:Expr)(t:TT):Prop:=∀(whole:Sem Value)(AC:AO)(s:Shared)(σ:St)(H:Hp)(Q:Bool->Hp->Prop),Inv X AC σ H s->t σ H Q->wpAny (model X.prog X.w) X.A (isTrue e X.env whole) (TP X AC σ Q) X.xe s
variable {X:Cx}{e:Expr}
def PW.pt{t:TT}(h:PW X e t):PT X e t:=h _
def PA(X:Cx)(es:Da Expr)(t:TA):Prop:=∀(pos:Pos)(AC:AO)(s:Shared)(σ:St)(H:Hp)(Q:Da V->Hp->Prop),Inv X AC σ H s->t σ H Q->wpAny (model X.prog X.w) X.A (spliced (backTo pos (starEach es X.env))) (AP X AC σ Q) X.xe s
def PS(X:Cx)(st:Stmt)(t:TS):Prop:=∀(AC:AO)(s:Shared)(σ:St)(H:Hp)(D:Ends),Inv X AC σ H s->t D σ H->wpAny (model X.prog X.w) X.A (exec st X.env) (SP X AC D) X.xe s
def xM(X:Cx)(st:Da Stmt)(t:TS):Prop:=∀(AC:AO)(s:Shared)(σ:St)(H:Hp)(D:Ends),Inv X AC σ H s->t D σ H->wpAny (model X.prog X.w) X.A (execs st X.env) (SP X AC D) X.xe s
variable {s:Shared}
def bP{α:Type}{t:Sem α}{Q Q':α->Shared->Prop}{A:Around}(h:wpAny M A t Q E s)(hQ:∀a s,Q a s->Q' a s):wpAny M A t Q' E s:=jX h hQ λ_ _ x=>x
variable {pos:Pos}{AC:AO}{σ:St}
section
variable {X:Cx}
inductive De(i:Nat)(σ:St)(H:Hp)(Q:VK):Prop
 |mk(v:_)(_:σ[i]?=some (some v))(_:Q v H)
def tC(v:V):TE:=λ_ H Q=>Q v H
def aaz(hN:X.N[i]?=some x)(hv:Xz X.env.scope x)(hd:(x==("__debug__":Str))=false:=by decide)(hcd:(x==("__classdict__":Str))=false:=by decide):PE X (.Name x pos) (De i):=by
 intro AC s σ H Q I h;obtain⟨v,e,h⟩:=h;obtain⟨m,hn,hl⟩:=I.loc;obtain⟨u,r,l⟩:=hl i x v hN e hv;have fin:EP X AC σ Q u s:=⟨v,H,I,r,h⟩
 rcases l with⟨hk,hm⟩|⟨hk,c,hc,hcell⟩
 .exact wpAny_Name (wpAny_loadName_local I.ok.kind hk hn hm fin) hd
 .rcases hk with hk|hk
  .exact wpAny_Name (wpAny_loadName_cell I.ok.kind hk hc hcell fin) hd
  .exact wpAny_Name (wpAny_loadName_free I.ok.kind hk hc hcell fin hcd) hd
def Gl(X:Cx)(x:Str):Prop:=X.env.kindOf x=some .globalImplicit
def B7{Q:VS}(I:Inv X AC σ H s)(hg:Gl X x)(hm:X.mg x=some u)(h:Q u s)(hd:(x==("__debug__":Str))=false:=by decide):wpAny (model X.prog X.w) X.A (eval (.Name x pos) X.env) Q E s:=
 Calls.Name_function_global I.ok.kind hg (Calls.loadGlobal_global (by rw[I.ok.glob];exact I.mod.glob.keeps I.bk) hm h) hd
def vG{Q:VS}(I:Inv X AC σ H s)(hg:Gl X x)(hm:X.mg x=none)(hv:bootBuiltins x=some u)(h:Q u s)(hn:x ≠ "__name__":=by decide)(hd:(x==("__debug__":Str))=false:=by decide):wpAny (model X.prog X.w) X.A (eval (.Name x pos) X.env) Q E s:=by
 obtain⟨mb,h1,h2⟩:=I.mod.blt
 exact Calls.Name_function_global I.ok.kind hg (Calls.loadGlobal_builtin (by rw[I.ok.glob];exact I.mod.glob.keeps I.bk) hm (by rw[I.ok.blt];exact h1.keeps I.bk) ((h2 x hn).trans hv) h) hd
def YS{v:V}(hg:Gl X x)(hm:X.mg x=none)(hv:bootBuiltins x=some u)(r:RelV v u)(hn:x ≠ "__name__":=by decide)(hd:(x==("__debug__":Str))=false:=by decide):PE X (.Name x pos) (tC v):=λ_ _ _ H _ I h=>vG I hg hm hv ⟨v,H,I,r,h⟩ hn hd
variable {a b:Expr}{ta tb:TE}{pos:Pos}
def PC(X:Cx)(op:CmpOp)(a b:Expr)(t:TE):Prop:=∀(AC:AO)(s:Shared)(σ:St)(H:Hp)(Q:VK),Inv X AC σ H s->t σ H Q->wpAny (model X.prog X.w) X.A (eval a X.env) (λv s₁=>wpAny (model X.prog X.w) X.A (eval b X.env) (λu s₂=>wpAny (model X.prog X.w) X.A (compareOp op v u) (EP X AC σ Q) X.xe s₂) X.xe s₁) X.xe s
inductive yTB(Q:Bool->Hp->Prop)(x:V)(H1:Hp):Prop
 |mk(c:_)(_:x =.bl c)(_:Q c H1)
def tB(t:TE):TT:=λσ H Q=>t σ H (yTB Q)
variable {tA XE:TT}{Cl:Da Expr}
def adY(u:TT)(σ:St)(Q:Bool->Hp->Prop):Bool->Hp->Prop:=λc H1=>if c=true then u σ H1 Q else Q false H1
def ahm(t u:TT):TT:=λσ H Q=>t σ H (adY u σ Q)
def ahn(u:TT)(σ:St)(Q:Bool->Hp->Prop):Bool->Hp->Prop:=λc H1=>if c=true then Q true H1 else u σ H1 Q
def tOr(t u:TT):TT:=λσ H Q=>t σ H (ahn u σ Q)
abbrev adZ(Q:Bool->Hp->Prop):Bool->Hp->Prop:=λc H1=>Q (!c) H1
def aho(t:TT):TT:=λσ H Q=>t σ H (adZ Q)
inductive aaA(tb:TE)(σ:St)(Q:VK)(x:V)(H1:Hp):Prop
 |mk(c:_)(_:x =.bl c)(_:if c=true then tb σ H1 Q else Q (.bl false) H1)
def ad0(ta tb:TE):TE:=λσ H Q=>ta σ H (aaA tb σ Q)
inductive aaB(Q:VK)(x:V)(H1:Hp):Prop
 |mk(c:_)(_:x =.bl c)(_:Q (.bl (!c)) H1)
def ad1(ta:TE):TE:=λσ H Q=>ta σ H (aaB Q)
end
def aB(K:Fg)(H:Hp)(a:Addr)(xs:Da V):Prop:=Rd H a (.lst xs)\/
  ∃(o:Obj)(BT:Array Value)(n:Nat),K.lookup a=some o/\o.cls =.type "list"/\o.dict=none/\o.data =.seq BT n/\BT.size<=sizeLine/\Vals xs BT.toList
def dU(K:Fg)(H:Hp)(a:Addr)(xs:Da V):Prop:=Rd H a (.tup xs)\/
  ∃(o:Obj)(BT:Array Value)(n:Nat),K.lookup a=some o/\o.cls =.type "tuple"/\o.data =.seq BT n/\BT.size<=sizeLine/\Vals xs BT.toList
def ahp:Value->Option V
 | .none=>some .cy
 | .bool b=>some (.bl b)
 | .int i _=>some (.int i)
 | .str x _=>some (.str x)
 | .bytes b _=>some (.Al b)
 | .float b _=>some (.K3 b)
 | .ref a=>some (.ref a)
 | .type n=>some (.ty n)
 | _=>none
def RelV.abs{x:V}(r:RelV x u):ahp u=some x:=by
 cases x with
 | cy=>cases r;rfl
 | bl _=>cases r;rfl
 | int _=>obtain⟨t,rfl⟩:=r;rfl
 | str _=>obtain⟨t,rfl⟩:=r;rfl
 | Al _=>obtain⟨t,rfl⟩:=r;rfl
 | K3 _=>obtain⟨t,rfl⟩:=r;rfl
 | ref _=>cases r;rfl
 | ty _=>cases r;rfl
variable {y:V}
def RelV.inj{x:V}(r:RelV x u)(q:RelV y u):x=y:=gP (r.abs.symm.trans q.abs)
theorem Vals.inj:∀{xs ys:Da V}{us:Da Value},Vals xs us->Vals ys us->xs=ys
 | _,_,_,.nil,.nil=>rfl
 | _,_,_,.cons r t,.cons r' t'=>by rw[r.inj r',Vals.inj t t']
variable {K:Fg}
section
variable {X:Cx}{AC:AO}{σ:St}{H:Hp}{s:Shared}{a:Addr}{xs ys:Da V}
def aB.of(h:H a=some (.lst xs)):aB K H a xs:=.inl (.inl h)
def dU.of(h:H a=some (.tup xs)):dU K H a xs:=.inl (.inl h)
theorem Inv.list(I:Inv X AC σ H s)(h:aB X.K H a xs):∃BT:Da Value,Vals xs BT/\PlainL s.heap a BT.toArray/\xs.length<=sizeLine:=by
 rcases h with h|⟨o,BT,n,hk,hc,hd,hs,hz,r⟩
 .obtain ⟨z,BT,n,r,e⟩:=h.ok I.hok;exact⟨BT,r,⟨_,n,e,Z,Z,Z⟩,z⟩
 .refine ⟨BT.toList,r,⟨o,n,I.k_ a o hk,hc,hd,by simpa using hs⟩,?_⟩;have e:=r.length;simp only[Array.length_toList]at e;omega
theorem Inv.tuple(I:Inv X AC σ H s)(h:dU X.K H a xs):∃BT:Da Value,Vals xs BT/\IsTup s.heap a BT.toArray/\xs.length<=sizeLine:=by
 rcases h with h|⟨o,BT,n,hk,hc,hs,hz,r⟩
 .obtain ⟨z,BT,r,p⟩:=h.ok I.hok;exact⟨BT,r,p,z⟩
 .refine ⟨BT.toList,r,⟨o,I.k_ a o hk,hc,n,by simpa using hs⟩,?_⟩;have e:=r.length;simp only[Array.length_toList]at e;omega
def Inv.VR(I:Inv X AC σ H s)(h:aB X.K H a xs)(h':aB X.K H a ys):xs=ys:=by
 obtain⟨BT,r,⟨o,n,e,_,_,d⟩,_⟩:=I.list h;obtain⟨its',r',⟨o',n',e',_,_,d'⟩,_⟩:=I.list h';rw[e]at e';cases e';rw[d]at d';injection d' with d1 _;have:BT=its':=by simpa using ig Array.toList d1
 subst this;exact r.inj r'
end
abbrev Cx.yj(X:Cx)(E:VS):Cx:={ X with xe:=E }
abbrev Cx.CI(X:Cx):Cx:=X.yj λ_ _=>False
theorem Cx.Ok.yj(ok:X.Ok)(E:VS):(X.yj E).Ok:=⟨ok.mod,ok.kind,ok.glob,ok.blt,ok.above,ok.inj,ok.has,ok.ia,ok.hd,ok.frames,ok.stk,ok.PR,ok.bs,ok.HX,ok.K6,ok.Gw,ok.uG,ok.K7⟩
def Cx.Ok.uc(ok:(X.yj E).Ok):X.Ok:=⟨ok.mod,ok.kind,ok.glob,ok.blt,ok.above,ok.inj,ok.has,ok.ia,ok.hd,ok.frames,ok.stk,ok.PR,ok.bs,ok.HX,ok.K6,ok.Gw,ok.uG,ok.K7⟩
variable {D:Ends}
section
variable {X:Cx}{AC:AO}{σ:St}{H:Hp}{s:Shared}{E:VS}
theorem Inv.yj(I:Inv X AC σ H s)(E:VS):Inv (X.yj E) AC σ H s:=⟨I.ok.yj E,I.os,I.bare,I.base,I.loc,I.cell,I.free,I.pA,I.pin,I.hok,I.len⟩
theorem Inv.uc(I:Inv (X.yj E) AC σ H s):Inv X AC σ H s:=⟨I.ok.uc,I.os,I.bare,I.base,I.loc,I.cell,I.free,I.pA,I.pin,I.hok,I.len⟩
theorem SP.uc{f:Flow}(h:SP (X.yj E) AC D f s'):SP X AC D f s':=by
 cases f with
 | next=>obtain⟨σ',H',I,q⟩:=h;exact⟨σ',H',I.uc,q⟩
 | brk=>obtain⟨σ',H',I,q⟩:=h;exact⟨σ',H',I.uc,q⟩
 | cont=>obtain⟨σ',H',I,q⟩:=h;exact⟨σ',H',I.uc,q⟩
 | ret u=>obtain⟨v,σ',H',I,r,q⟩:=h;exact⟨v,σ',H',I.uc,r,q⟩
theorem xM.CI{st:Da Stmt}{t:TS}(h:xM X.CI st t):xM X st t:=λAC s σ H D I hw=>
 jX (h AC s σ H D (I.yj _) hw) (λ_ _ q=>q.uc) λ_ _ z=>False.elim z
end
variable {tc:TT}
section
variable {X:Cx}{st:Stmt}{Cl:Da Stmt}{t u:TS}{e:Expr}{te:TE}{pos:Pos}
def ad2:TS:=λD σ H=>D.nx σ H
def Ends.sq(D:Ends)(u:TS):Ends:={ D with nx:=u D }
def Ends.lp(D:Ends)(N:St->Hp->Prop):Ends:={ D with nx:=N,ct:=N,bk:=D.nx }
def vH(t u:TS):TS:=λD σ H=>t (D.sq u) σ H
def Inv.quiet(I:Inv X AC σ H s):interactive X.env=false:=by simp[interactive,I.ok.kind]
def SQ(D:Ends)(σ:St):V->Hp->Prop:=λ_ H1=>D.nx σ H1
def ad3(te:TE):TS:=λD σ H=>te σ H (SQ D σ)
def ahq(te:TE):TS:=λD σ H=>te σ H D.rt
def ad4:TS:=λD _ H=>D.rt .cy H
def ad5(t:TS)(u:TS)(D:Ends)(σ:St):Bool->Hp->Prop:=λb H1=>if b=true then t D σ H1 else u D σ H1
def aaC(c:TT)(t u:TS):TS:=λD σ H=>c σ H (ad5 t u D σ)
def XF{c:Expr}{a b:Da Stmt}(hc:PT X c tc)(ha:xM X a t)(hb:xM X b u):PS X (.If c a b pos) (aaC tc t u):=by
 intro AC s σ H D I h;refine wpAny_If (bP (hc AC s σ H _ I h) λd s1 ⟨H1,I1,q1⟩=>?_);cases d with
 | true=>exact ha AC s1 σ H1 D I1 q1
 | false=>exact hb AC s1 σ H1 D I1 q1
def aaD:TS:=λ_ _ _=>False
end
abbrev TG:=V->St->Hp->(St->Hp->Prop)->Prop
abbrev Ef:=Da V->St->Hp->(St->Hp->Prop)->Prop
def PG(X:Cx)(target:Expr)(t:TG):Prop:=∀(AC:AO)(s:Shared)(σ:St)(H:Hp)(v:V)(u:Value)(Q:St->Hp->Prop),Inv X AC σ H s->RelV v u->t v σ H Q->wpAny (model X.prog X.w) X.A (assign target X.env u) (λ_ s'=>∃σ' H',Inv X AC σ' H' s'/\Q σ' H') X.xe s
def PGs(X:Cx)(ts:Da Expr)(t:Ef):Prop:=∀(AC:AO)(s:Shared)(σ:St)(H:Hp)(vs:Da V)(us:Da Value)(Q:St->Hp->Prop),Inv X AC σ H s->Vals vs us->t vs σ H Q->wpAny (model X.prog X.w) X.A (assignInOrder ((assignEach ts X.env).map (·.2)) us) (λ_ s'=>∃σ' H',Inv X AC σ' H' s'/\Q σ' H') X.xe s
abbrev uH:=V->V->V->Hp->(Hp->Prop)->Prop
def VT(X:Cx)(t:uH):Prop:=∀(AC:AO)(s:Shared)(σ:St)(H:Hp)(o i v:V)(ov iv u:Value)(Q:Hp->Prop),Inv X AC σ H s->RelV o ov->RelV i iv->RelV v u->t o i v H Q->wpAny (model X.prog X.w) X.A (setItem ov iv u) (λ_ s'=>∃H',Inv X AC σ H' s'/\Q H') X.xe s
abbrev K_:=V->V->Hp->VK->Prop
def PIp(X:Cx)(op:Operator)(t:K_):Prop:=∀(AC:AO)(s:Shared)(σ:St)(H:Hp)(x y:V)(v u:Value)(Q:VK),Inv X AC σ H s->RelV x v->RelV y u->t x y H Q->wpAny (model X.prog X.w) X.A (inplaceOp op v u) (EP X AC σ Q) X.xe s
variable {n:Nat}
section
variable {X:Cx}{pos:Pos}
def lE(i:Nat):TG:=λv σ H Q=>Q (σ.set i (some v)) H
inductive aaF(vs:Da V)(σ:St)(H:Hp)(Q:St->Hp->Prop):Prop
 |mk(_:vs=[])(_:Q σ H)
def aaG(u:Ef)(Q:St->Hp->Prop)(r:Da V):St->Hp->Prop:=λσ' H'=>u r σ' H' Q
inductive XG(t:TG)(u:Ef)(vs:Da V)(σ:St)(H:Hp)(Q:St->Hp->Prop):Prop
 |mk(v r:_)(_:vs=v::r)(_:t v σ H (aaG u Q r))
inductive Df(K:Fg)(n:Nat)(t:Ef)(v:V)(σ:St)(H:Hp)(Q:St->Hp->Prop):Prop
 |mk(a xs:_)(_:v =.ref a)(_:dU K H a xs)(_:xs.length=n)(_:t xs σ H Q)
def aaH{es:Da Expr}{k:Nat}{t:Ef}(hc:X.calm=true)(h:PGs X es t)(hn:(assignEach es X.env).length=n:=by rfl)(hst:(assignEach es X.env).findIdx? (·.1)=none:=by rfl):PG X (.Tuple es k pos) (Df X.K n t):=by
 intro AC s σ H v u Q I r hw
 obtain⟨a,xs,e1,hq,hl,hw⟩:=hw
 subst e1
 cases r
 obtain⟨BT,rv,ht,hz⟩:=I.tuple hq
 refine assign_Tuple_tuple (I.ok.hd hc) ht (by simp[hn,<-hl,rv.length]) hst λh' hx=>?_
 have I1:Inv X AC σ H { s with heap:=h' }:=I.kept (t':=s.toks) λb o e=>hx b o (gr (cE e)) e
 exact h AC _ σ H xs _ Q I1 (by simpa using rv) hw
def YT(σ:St)(Q:St->Hp->Prop):Hp->Prop:=λH3=>Q σ H3
def YU(t:uH)(v:V)(σ:St)(Q:St->Hp->Prop)(o:V):V->Hp->Prop:=λi H2=>t o i v H2 (YT σ Q)
def ad6(ti:TE)(t:uH)(v:V)(σ:St)(Q:St->Hp->Prop):V->Hp->Prop:=λo H1=>ti σ H1 (YU t v σ Q o)
def ahr(to ti:TE)(t:uH):TG:=λv σ H Q=>to σ H (ad6 ti t v σ Q)
def ad7(g:TG)(D:Ends)(σ:St):V->Hp->Prop:=λx H1=>g x σ H1 D.nx
def VU(te:TE)(g:TG):TS:=λD σ H=>te σ H (ad7 g D σ)
inductive ad8(i:Nat)(j:Nat)(D:Ends)(σ:St)(vs:Da V)(H1:Hp):Prop
 |mk(v w:_)(_:vs=[v,w])(_:D.nx ((σ.set i (some v)).set j (some w)) H1)
def ahs(i j:Nat)(ta:TA):TS:=λD σ H=>ta σ H (ad8 i j D σ)
def VW(D:Ends)(σ:St):Hp->Prop:=λH6=>D.nx σ H6
def VX(qI:uH)(D:Ends)(σ:St)(o:V)(i:V):V->Hp->Prop:=λz H5=>qI o i z H5 (VW D σ)
def VY(Am:K_)(qI:uH)(D:Ends)(σ:St)(o:V)(i:V)(x:V):V->Hp->Prop:=λy H4=>Am x y H4 (VX qI D σ o i)
def VZ(te:TE)(Am:K_)(qI:uH)(D:Ends)(σ:St)(o:V)(i:V):V->Hp->Prop:=λx H3=>te σ H3 (VY Am qI D σ o i x)
def V0(te:TE)(AE:V->V->Hp->VK->Prop)(Am:K_)(qI:uH)(D:Ends)(σ:St)(o:V):V->Hp->Prop:=λi H2=>AE o i H2 (VZ te Am qI D σ o i)
def aaI(ti:TE)(te:TE)(AE:V->V->Hp->VK->Prop)(Am:K_)(qI:uH)(D:Ends)(σ:St):V->Hp->Prop:=λo H1=>ti σ H1 (V0 te AE Am qI D σ o)
def ad9(to ti te:TE)(AE:V->V->Hp->VK->Prop)(Am:K_)(qI:uH):TS:=λD σ H=>to σ H (aaI ti te AE Am qI D σ)
def aaJ(X:Cx)(t:V->V->Hp->VK->Prop):Prop:=∀(AC:AO)(s:Shared)(σ:St)(H:Hp)(o i:V)(ov iv:Value)(Q:VK),Inv X AC σ H s->RelV o ov->RelV i iv->t o i H Q->wpAny (model X.prog X.w) X.A (getItem ov iv) (EP X AC σ Q) X.xe s
inductive ipI(f:Int->Int->Int)(x:V)(y:V)(H:Hp)(Q:VK):Prop
 |mk(i j:_)(_:x =.int i)(_:y =.int j)(_:Q (.int (f i j)) H)
def aaK:PIp X .Add (ipI λi j=>i+j):=by intro AC s σ H x y v u Q I r1 r2 h;obtain⟨i,j,e1,e2,q⟩:=h;subst e1;subst e2;obtain⟨t,rfl⟩:=r1;obtain⟨t',rfl⟩:=r2;exact iadd_int ⟨.int _,H,I.tok _,⟨_,Z⟩,q⟩
def aaL:PIp X .Sub (ipI λi j=>i-j):=by intro AC s σ H x y v u Q I r1 r2 h;obtain⟨i,j,e1,e2,q⟩:=h;subst e1;subst e2;obtain⟨t,rfl⟩:=r1;obtain⟨t',rfl⟩:=r2;exact isub_int ⟨.int _,H,I.tok _,⟨_,Z⟩,q⟩
end
section
variable {X:Cx}{pos:Pos}
def aaM(c:TT)(tb:TS):TS:=λD σ H=>∃W:Nat->St->Hp->Prop,(∃m,W m σ H)/\∀m σ H,W m σ H->c σ H λb H1=>if b=true then ∃N:St->Hp->Prop,(∀σ' H',N σ' H'->∃m',m'<m/\W m' σ' H')/\tb { D with nx:=N,ct:=N,bk:=D.nx } σ H1 else D.nx σ H1
end
structure It where
 go:Nat->Hp->Prop
 Eg:Nat->Hp->V->Hp->Prop
 stop:Nat->Hp->Prop
def qJ(X:Cx)(AC:AO)(H:Hp)(b:Addr):Prop:=H b=none/\b≠X.env.locals/\b∉X.fs/\(b∈X.ex\/X.s₀.heap.objs.size<=b)/\(∀x c,X.env.cells.lookup x=some c->c≠b)/\∀p∈X.pn++AC,p.1≠b
variable {H':Hp}
def Inv.Dg{b:Addr}(I:Inv X AC σ H s)(hb:s.heap.objs.size<=b)(hn:H' b=none):qJ X AC H' b:=by
 refine⟨hn,BY (lz I.lt hb),I.ahk hb,.inr (fY I.sz hb),λx c e z=>?_,λp hp z=>?_⟩
 .obtain ⟨v,q⟩:=I.cell x c e;exact absurd (lz q.lt (by rw[z];exact hb)) (kK _)
 .exact absurd (lz (cE (I.pin p hp).1) (by rw[z];exact hb)) (kK _)
structure Turn(P:Program)(w:World)(K:Fg)(tg:Expr)(J:It)(fp:Da Addr)(it:Addr)(tn:Nat->Heap->Prop):Prop where
 mem:it∈fp
 obj:∀i h,tn i h->∀b∈fp,∃o,h.get? b=some o/\∀v,o.data ≠ .cell v
 keep:∀i h h',tn i h->(∀b∈fp,∀o,h.get? b=some o->h'.get? b=some o)->tn i h'
 item:∀(X:Cx),X.prog=P->X.w=w->X.K=K->X.calm=true->∀(i:Nat)(AC:AO)(s:Shared)(σ:St)(H:Hp)(E:VS),Inv X AC σ H s->(∀b∈fp,qJ X AC H b)->tn i s.heap->J.go i H->
  wpAny (model P w) X.A (pyNext (.ref it)) (λr s1=>∃u,r=some u/\
   wpAny (model P w) X.A (letOwnedTupleGo tg (.ref it) u) (λ_ s2=>∃x H',Inv X AC σ H' s2/\RelV x u/\J.Eg i H x H'/\tn (i+1) s2.heap/\∀b∈fp,H' b=none) E s1) E s
 done:∀(X:Cx),X.prog=P->X.w=w->X.K=K->X.calm=true->∀(i:Nat)(AC:AO)(s:Shared)(σ:St)(H:Hp)(E:VS),Inv X AC σ H s->(∀b∈fp,qJ X AC H b)->tn i s.heap->J.stop i H->
  wpAny (model P w) X.A (pyNext (.ref it)) (λr s1=>r=none/\Inv X AC σ H s1) E s
 self:∀(A:Around)(i:Nat)(s:Shared)(Q:VS)(E:VS),tn i s.heap->Q (.ref it) s->wpAny (model P w) A (pyIter (.ref it)) Q E s
abbrev TI:=St->Hp->(It->Hp->Prop)->Prop
def PIE(X:Cx)(AC:AO)(σ:St)(tg:Expr)(R:It->Hp->Prop)(itv:Value)(s2:Shared):Prop:=∃(it:Addr)(fp:Da Addr)(tn:Nat->Heap->Prop)(J:It)(H':Hp),itv =.ref it/\Inv X AC σ H' s2/\Turn X.prog X.w X.K tg J fp it tn/\tn 0 s2.heap/\(∀b∈fp,qJ X AC H' b)/\R J H'
def PI(X:Cx)(tg Bn:Expr)(wi:TI):Prop:=∀(AC:AO)(s:Shared)(σ:St)(H:Hp)(R:It->Hp->Prop),Inv X AC σ H s->wi σ H R->wpAny (model X.prog X.w) X.A (eval Bn X.env) (λv s1=>wpAny (model X.prog X.w) X.A (pyIter v) (PIE X AC σ tg R) X.xe s1) X.xe s
variable {tg:Expr}
def B8{A:Around}{o:Obj}{n:String}{vs:Array Value}{Q:Unit->Shared->Prop}(ho:s.heap.get? it=some o)(hc:o.cls =.type n)(hd:o.data =.fields vs)(hn:["enumerate","zip","dict_itemiterator","dict_reverseitemiterator","odict_iterator","itertools.zip_longest","itertools.pairwise"].contains n=false)(hQ:Q () s):wpAny M A (letOwnedTupleGo tg (.ref it) u) Q E s:=by
 unfold letOwnedTupleGo
 cases tg <;> first
  | exact bw hQ
  | (cases u <;> first
      | exact bw hQ
      | (refine aA (wpAny_load ho ?_)
         rw[hc,hd]
         show wpAny M A (if(["enumerate","zip","dict_itemiterator","dict_reverseitemiterator","odict_iterator","itertools.zip_longest","itertools.pairwise"].contains n && vs[0]?==some (rawInt _))=true then _ else _) Q E s
         rw[av (by intro h;rw[hn,Bool.false_and]at h;cases h)]
         exact bw hQ))
def vc(K:Fg)(a:Addr):It:=⟨λi H=>∃xs x,aB K H a xs/\xs[i]?=some x,λi H x H'=>H'=H/\∀xs,aB K H a xs->xs[i]?=some x,λi H=>∃xs,aB K H a xs/\xs.length<=i⟩
def PX(lo:Int)(n:Nat):It:=⟨λi _=>i<n,λi H x H'=>H'=H/\x =.int (lo+i),λi _=>n<=i⟩
theorem SR(a it:Addr):Turn P w K tg (vc K a) [it] it (λi h=>h.IsListIter it a i) where
 mem:=by simp
 obj:=λi h st b hb=>by
  have e:b=it:=by simpa using hb
  subst e;obtain⟨o,e,c,d⟩:=st;exact⟨o,e,λv z=>by rw[d]at z;cases z⟩
 keep:=λi h h' st k=>st.at λo e=>k it (by simp) o e
 item:=by intro X hP hw hK hc i AC s σ H E I hf st hg;subst hP hw hK;obtain⟨xs,x,hq,hx⟩:=hg;obtain⟨BT,rv,p,hz⟩:=I.list hq;obtain⟨u,hu,ru⟩:=rv.get hx;obtain⟨f0,f1,f2,f3,f4,f5⟩:=hf it (by simp);refine wpAny_pyNext_list_item st p.isList (x:=u) (by simpa using hu) λh' st' sb=>?_;have I1:Inv X AC σ H { s with heap:=h' }:=I.turned (t':=s.toks) (λb o hb e=>(sb.2 b hb).trans e) f0 f1 f3 f4 f5;obtain⟨o,e,c,d⟩:=id st';exact⟨u,Z,B8 (s:={ s with heap:=h' }) e c d (by decide) ⟨x,H,I1,ru,⟨Z,λys hy=>by rw[I.VR hy hq];exact hx⟩,st',λb hb=>(hf b hb).1⟩⟩
 done:=by intro X hP hw hK hc i AC s σ H E I hf st hg;subst hP hw hK;obtain⟨xs,hq,hx⟩:=hg;obtain⟨BT,rv,p,hz⟩:=I.list hq;obtain⟨f0,f1,f2,f3,f4,f5⟩:=hf it (by simp);have hl:=rv.length;exact wpAny_pyNext_list_end (I.ok.hd hc) st p.isList (by simp;omega) λh' eb=>⟨Z,I.turned (t':=s.toks) (λb o hb e=>eb b o hb e) f0 f1 f3 f4 f5⟩
 self:=λ_ _ _ _ _ st h=>wpAny_pyIter_listiter st h
theorem RA(it:Addr)(lo:Int)(n:Nat):Turn P w K tg (PX lo n) [it] it (λi h=>IsRangeIter h it (lo+(i:Nat)*1) ((n:Int)-(i:Nat)) 1) where
 mem:=by simp
 obj:=λi h st b hb=>by
  have e:b=it:=by simpa using hb
  subst e;exact⟨_,st,λv z=>by have z':Data.fields _=Data.cell v:=z;cases z'⟩
 keep:=λi h h' st k=>k it (by simp) _ st
 item:=by intro X hP hw hK hc i AC s σ H E I hf st hg;subst hP hw hK;obtain⟨f0,f1,f2,f3,f4,f5⟩:=hf it (by simp);have W:=Walks.range (prog:=X.prog) (w:=X.w) (I.ok.hd hc) it lo 1 n;refine W.item i s _ _ hg st λv h' tk hv st' kk=>?_;obtain⟨t,rfl⟩:=hv;have I1:Inv X AC σ H { s with heap:=h',toks:=tk }:=I.turned (λb o hb e=>kk b o (by simpa using hb) e) f0 f1 f3 f4 f5;refine⟨_,Z,B8 (s:={ s with heap:=h',toks:=tk }) (n:="range_iterator") st' rfl rfl (by decide) ⟨.int (lo+i),H,I1,⟨t,?_⟩,⟨Z,Z⟩,st',λb hb=>(hf b hb).1⟩⟩;rw[o_]
 done:=by intro X hP hw hK hc i AC s σ H E I hf st hg;subst hP hw hK;obtain⟨f0,f1,f2,f3,f4,f5⟩:=hf it (by simp);exact wpAny_pyNext_range_end (I.ok.hd hc) st (by have:n<=i:=hg;omega) λh' eb=>⟨Z,I.turned (t':=s.toks) (λb o hb e=>eb b o hb e) f0 f1 f3 f4 f5⟩
 self:=λ_ _ _ _ _ st h=>wpAny_pyIter_rangeiter st h
variable {tl:TE}{fp:Da Addr}
section
variable {X:Cx}{tg:Expr}
inductive aaN(K:Fg)(R:It->Hp->Prop)(x:V)(H1:Hp):Prop
 |mk(a:_)(_:x =.ref a)(_:(∃xs,aB K H1 a xs))(_:R (vc K a:_) H1)
def XH(K:Fg)(tl:TE):TI:=λσ H R=>tl σ H (aaN K R)
def YV{l:Expr}(hl:PE X l tl):PI X tg l (XH X.K tl):=by
 intro AC s σ H R I h;refine bP (hl AC s σ H _ I h) λv s1 ⟨x,H1,I1,r1,q1⟩=>?_;obtain⟨a,e,⟨xs,hq⟩,q⟩:=q1;subst e;cases r1;obtain⟨BT,rv,p,hz⟩:=I1.list hq;refine Ru p.isList ?_;refine⟨s1.heap.objs.size,[s1.heap.objs.size],_,_,H1,Z,I1.kept (t':=s1.toks) λb o e=>cU _ e,SR a _,⟨_,fK _ rfl,Z,Z⟩,λb hb=>?_,q⟩;have e:b=s1.heap.objs.size:=by simpa using hb
 subst e;exact I1.Dg (aL _) (I1.hok.fresh (aL _))
theorem V1{R:It->Hp->Prop}{lo hi:Int}{t u v:Tok}{tk:Nat}(I:Inv X AC σ H s)(h1:-(2 ^ 62)<=lo)(h2:lo<2 ^ 62)(h3:-(2 ^ 62)<=hi)(h4:hi<2 ^ 62)(q:R (PX lo (hi-lo).toNat) H):wpAny (model X.prog X.w) X.A (pyIter (.ref s.heap.objs.size)) (PIE X AC σ tg R) E { s with heap:=s.heap.push { cls:=.type "range",data:=.fields #[.int lo t,.int hi u,.int 1 v] },toks:=tk }:=by
 refine wpAny_pyIter_range (IsRange.new ..) (small_one h1 h2 h3 h4) ?_
 have I1:Inv X AC σ H { s with heap:=s.heap.push { cls:=.type "range",data:=.fields #[.int lo t,.int hi u,.int 1 v] },toks:=tk }:=I.kept λb o e=>cU _ e
 refine⟨(s.heap.push { cls:=.type "range",data:=.fields #[.int lo t,.int hi u,.int 1 v] }).objs.size,[(s.heap.push { cls:=.type "range",data:=.fields #[.int lo t,.int hi u,.int 1 v] }).objs.size],_,_,H,Z,
  I1.kept (t':=tk) λb o e=>cU _ e,RA _ lo (hi-lo).toNat,?_,λb hb=>?_,q⟩
 . have e1:lo+((0:Nat):Int)*1=lo:=by simp
   have e2:(((hi-lo).toNat:Nat):Int)-((0:Nat):Int)=Builtin.Range.rangeSize lo hi 1:=by rw[rangeSize_one];split <;> omega
   show IsRangeIter _ _ (lo+((0:Nat):Int)*1) ((((hi-lo).toNat:Nat):Int)-((0:Nat):Int)) 1
   rw[e1,e2]
   exact fK _ rfl
 . have e:b=(s.heap.push { cls:=.type "range",data:=.fields #[.int lo t,.int hi u,.int 1 v] }).objs.size:=by simpa using hb
   subst e
   exact I1.Dg (aL _) (I1.hok.fresh (aL _))
inductive aaO(R:It->Hp->Prop)(vs:Da V)(H1:Hp):Prop
 |mk(j:Int)(_:vs=[.int j])(_:-(2 ^ 62)<=j)(_:j<2 ^ 62)(_:R (PX 0 j.toNat) H1)
def ad_(ta:TA):TI:=λσ H R=>ta σ H (aaO R)
def KA(g:TG)(tb:TS)(D:Ends)(σ:St):It->Hp->Prop:=λJ H1=>∃W:Nat->Nat->St->Hp->Prop,(∃m,W 0 m σ H1)/\∀i m σ H,W i m σ H->(J.stop i H/\D.nx σ H)\/(J.go i H/\∃N:St->Hp->Prop,(∀σ' H',N σ' H'->∃m',m'<m/\W (i+1) m' σ' H')/\∀x H',J.Eg i H x H'->g x σ H' (tb (D.lp N)))
def aht(wi:TI)(g:TG)(tb:TS):TS:=λD σ H=>wi σ H (KA g tb D σ)
def Eh(fp:Da Addr)(h:Heap):Da (Addr×Obj):=fp.filterMap λb=>(h.get? b).map λo=>(b,o)
def jY{b:Addr}{o:Obj}(hb:b∈fp)(e:h.get? b=some o):(b,o)∈Eh fp h:=List.mem_filterMap.mpr ⟨b,hb,by rw[e];rfl⟩
def SS{p:Addr×Obj}(hp:p∈Eh fp h):p.1∈fp/\h.get? p.1=some p.2:=by
 obtain⟨b,hb,e⟩:=List.mem_filterMap.mp hp;cases q:h.get? b with
 | none=>rw[q]at e;cases e
 | some o=>rw[q]at e;have e':(b,o)=p:=gP e;subst e';exact⟨hb,q⟩
def Inv.pinned(I:Inv X AC σ H s)(hf:∀b∈fp,qJ X AC H b)(ho:∀b∈fp,∃o,s.heap.get? b=some o/\∀v,o.data ≠ .cell v):Inv X (AC++Eh fp s.heap) σ H s:=I.PV λp hp=>(c7.mp hp).elim (λz=>I.pin p (kD _ z)) λz=>by obtain⟨hb,e⟩:=SS z;obtain⟨f0,f1,f2,_⟩:=hf p.1 hb;obtain⟨o,e',d⟩:=ho p.1 hb;rw[e]at e';cases e';exact⟨e,f0,f1,f2,d⟩
def Inv.sJ{pl:AO}(I:Inv X (AC++pl) σ H s):Inv X AC σ H s:=I.PV λp hp=>I.pin p (kD _ (ze _ hp))
end
variable {tb:TS}
theorem kG{g:TG}(Pv:Nat->St->Hp->Prop)(h0:Pv 0 σ H)(hl:∀i σ H,i<=xs.length->Pv i σ H->aB K H a xs)(hs:∀i x σ H,xs[i]?=some x->Pv i σ H->g x σ H (tb (D.lp (Pv (i+1)))))(hd:∀σ H,Pv xs.length σ H->D.nx σ H):
  KA g tb D σ (vc K a) H:=by
 refine⟨λi m σ H=>m=xs.length-i/\i<=xs.length/\Pv i σ H,⟨xs.length,by simp,iH _,h0⟩,?_⟩
 rintro i m σ H ⟨rfl,hi,p⟩
 have q:=hl i σ H hi p
 by_cases hlt:i<xs.length
 . refine .inr ⟨⟨xs,xs[i],q,by simp[hlt]⟩,Pv (i+1),λσ' H' p'=>⟨xs.length-(i+1),by omega,Z,hlt,p'⟩,λx H' y=>?_⟩
   obtain⟨e,y⟩:=y
   subst e
   exact hs i x σ _ (y xs q) p
 . have e:i=xs.length:=by omega
   subst e
   exact .inl ⟨⟨xs,q,aL _⟩,hd σ H p⟩
theorem iK{lo:Int}{g:TG}(Pv:Nat->St->Hp->Prop)(h0:Pv 0 σ H)(hs:∀i σ H,i<n->Pv i σ H->g (.int (lo+i)) σ H (tb (D.lp (Pv (i+1)))))(hd:∀σ H,Pv n σ H->D.nx σ H):
  KA g tb D σ (PX lo n) H:=by
 refine⟨λi m σ H=>m=n-i/\i<=n/\Pv i σ H,⟨n,by simp,iH _,h0⟩,?_⟩
 rintro i m σ H ⟨rfl,hi,p⟩
 by_cases hlt:i<n
 . refine .inr ⟨hlt,Pv (i+1),λσ' H' p'=>⟨n-(i+1),by omega,Z,hlt,p'⟩,λx H' y=>?_⟩
   obtain⟨e,y⟩:=y
   subst e y
   exact hs i σ _ hlt p
 . have e:i=n:=by omega
   subst e
   exact .inl ⟨aL _,hd σ H p⟩
abbrev R2:=V->V->Hp->VK->Prop
def jZ(X:Cx)(f:Value->Value->Sem Value)(r:R2):Prop:=∀(AC:AO)(s:Shared)(σ:St)(H:Hp)(x y:V)(v u:Value)(Q:VK),Inv X AC σ H s->RelV x v->RelV y u->r x y H Q->wpAny (model X.prog X.w) X.A (f v u) (EP X AC σ Q) X.xe s
def UnR(X:Cx)(f:Value->Sem Value)(r:V->Hp->VK->Prop):Prop:=∀(AC:AO)(s:Shared)(σ:St)(H:Hp)(x:V)(v:Value)(Q:VK),Inv X AC σ H s->RelV x v->r x H Q->wpAny (model X.prog X.w) X.A (f v) (EP X AC σ Q) X.xe s
def iS(X:Cx)(f:Value)(r:Da V->Hp->VK->Prop):Prop:=∀(AC:AO)(s:Shared)(σ:St)(H:Hp)(xs:Da V)(us:Da Value)(Q:VK),Inv X AC σ H s->Vals xs us->r xs H Q->wpAny (model X.prog X.w) X.A (call f us) (EP X AC σ Q) X.xe s
def aaQ(r:R2)(Q:VK)(x:V):V->Hp->Prop:=λy H2=>r x y H2 Q
def ahu(r:R2)(tb:TE)(σ:St)(Q:VK):V->Hp->Prop:=λx H1=>tb σ H1 (aaQ r Q x)
def CJ(r:R2)(ta tb:TE):TE:=λσ H Q=>ta σ H (ahu r tb σ Q)
def ahv(r:V->Hp->VK->Prop)(Q:VK):V->Hp->Prop:=λx H1=>r x H1 Q
def tUn(r:V->Hp->VK->Prop)(ta:TE):TE:=λσ H Q=>ta σ H (ahv r Q)
inductive rI(C:Int->Int->Prop)(g:Int->Int->V)(x:V)(y:V)(H:Hp)(Q:VK):Prop
 |mk(i j:_)(_:x =.int i)(_:y =.int j)(_:C i j)(_:Q (g i j:_) H)
inductive CK(g:Int->Int->V)(x:V)(y:V)(H:Hp)(Q:VK):Prop
 |mk(i j:_)(_:x =.int i)(_:y =.int j)(_:Q (g i j:_) H)
inductive rU(g:Int->V)(x:V)(H:Hp)(Q:VK):Prop
 |mk(i:_)(_:x =.int i)(_:Q (g i:_) H)
section
variable {X:Cx}{a b c:Expr}{ta tb tc:TE}{pos:Pos}
def V2(ha:PE X a ta)(hb:PE X b tb){R:V->V->Hp->Prop}(I:Inv X AC σ H s)(h:ta σ H λx H1=>tb σ H1 λy H2=>R x y H2){Q:VS}{f:Value->Value->Sem Value}(hf:∀v u s2 x y H2,Inv X AC σ H2 s2->RelV x v->RelV y u->R x y H2->wpAny (model X.prog X.w) X.A (f v u) Q X.xe s2):
  wpAny (model X.prog X.w) X.A (eval a X.env) (λv s₁=>wpAny (model X.prog X.w) X.A (eval b X.env) (λu s₂=>wpAny (model X.prog X.w) X.A (f v u) Q X.xe s₂) X.xe s₁) X.xe s:=by
 refine bP (ha AC s σ H _ I h) λv s1 ⟨x,H1,I1,r1,q1⟩=>?_
 refine bP (hb AC s1 σ H1 _ I1 q1) λu s2 ⟨y,H2,I2,r2,q2⟩=>?_
 exact hf v u s2 x y H2 I2 r1 r2 q2
def SV{f:Value->Value->Sem Value}{C:Int->Int->Prop}{g:Int->Int->Int}(rule:∀(i j:Int) (t u:Tok) (s:Shared) (Q:VS) (E:VS),C i j->Q (.int (g i j) s.toks) { s with toks:=s.toks+1 }->wpAny (model X.prog X.w) X.A (f (.int i t) (.int j u)) Q E s):
  jZ X f (rI C λi j=> .int (g i j)):=by
 intro AC s σ H x y v u Q I rx ry h
 obtain⟨i,j,rfl,rfl,hc,q⟩:=h
 obtain⟨t,rfl⟩:=rx
 obtain⟨t',rfl⟩:=ry
 exact rule i j t t' s _ _ hc ⟨.int (g i j),H,I.tok _,⟨_,Z⟩,q⟩
def aaR{f:Value->Value->Sem Value}{g:Int->Int->Int}(rule:∀(i j:Int) (t u:Tok) (s:Shared) (Q:VS) (E:VS),Q (.int (g i j) s.toks) { s with toks:=s.toks+1 }->wpAny (model X.prog X.w) X.A (f (.int i t) (.int j u)) Q E s):
  jZ X f (CK λi j=> .int (g i j)):=by
 intro AC s σ H x y v u Q I rx ry h
 obtain⟨i,j,rfl,rfl,q⟩:=h
 obtain⟨t,rfl⟩:=rx
 obtain⟨t',rfl⟩:=ry
 exact rule i j t t' s _ _ ⟨.int (g i j),H,I.tok _,⟨_,Z⟩,q⟩
def RB{f:Value->Value->Sem Value}{g:Int->Int->Bool}(rule:∀(i j:Int) (t u:Tok) (s:Shared) (Q:VS) (E:VS),Q (.bool (g i j)) s->wpAny (model X.prog X.w) X.A (f (.int i t) (.int j u)) Q E s):
  jZ X f (CK λi j=> .bl (g i j)):=by
 intro AC s σ H x y v u Q I rx ry h
 obtain⟨i,j,rfl,rfl,q⟩:=h
 obtain⟨t,rfl⟩:=rx
 obtain⟨t',rfl⟩:=ry
 exact rule i j t t' s _ _ ⟨.bl (g i j),H,I,Z,q⟩
def V3(i j:Int):Prop:=0<=j/\j<=1000000/\i.natAbs<2 ^ 64
def La(i j:Int):Prop:=(-(2 ^ 64)<i/\i<2 ^ 64)\/(-(2 ^ 64)<j/\j<2 ^ 64)
def La.ok{i j:Int}(h:La i j):IntMulOk i j:=by
 rcases h with⟨h1,h2⟩|⟨h1,h2⟩
 .exact .of_left (intBits_le_64 h1 h2)
 .exact .of_right (intBits_le_64 h1 h2)
def b_:jZ X (binaryOp .Add) (CK λi j=> .int (i+j)):=aaR λ_ _ _ _ _ _ _ q=>add_int q
def j0:jZ X (binaryOp .Sub) (CK λi j=> .int (i-j)):=aaR λ_ _ _ _ _ _ _ q=>sub_int q
def gW:jZ X (binaryOp .Mult) (rI La λi j=> .int (i*j)):=SV λ_ _ _ _ _ _ _ hc q=>mul_int q hc.ok
theorem kM:jZ X (binaryOp .Mod) (rI (λ_ j=>0<j) λi j=> .int (i % j)):=SV λi j _ _ _ _ _ hc q=>by have h1:(0:Int)<j:=hc;exact mod_int' (by omega) (by rw[Int.fmod_eq_emod_of_nonneg i (by omega)];exact q)
def oN:jZ X (binaryOp .Pow) (rI V3 λi j=> .int (i ^ j.toNat)):=SV λ_ _ _ _ _ _ _ hc q=>pow_int_small hc.1 hc.2.1 hc.2.2 q
def unI{f:Value->Sem Value}{g:Int->Int}(rule:∀(i:Int) (t:Tok) (s:Shared) (Q:VS) (E:VS),Q (.int (g i) s.toks) { s with toks:=s.toks+1 }->wpAny (model X.prog X.w) X.A (f (.int i t)) Q E s):
  UnR X f (rU λi=> .int (g i)):=by
 intro AC s σ H x v Q I rx h
 obtain⟨i,rfl,q⟩:=h
 obtain⟨t,rfl⟩:=rx
 exact rule i t s _ _ ⟨.int (g i),H,I.tok _,⟨_,Z⟩,q⟩
def Lb:UnR X (unaryOp .USub) (rU λi=> .int (-i)):=unI λ_ _ _ _ _ q=>neg_int q
end
def aaS:V->V->Bool
 | .cy,.cy=>true | .cy,.int _=>true | .int _,.cy=>true | .cy,.bl _=>true | .bl _,.cy=>true | .cy,.str _=>true | .str _,.cy=>true
 | .int _,.int _=>true | .bl _,.bl _=>true | .str _,.str _=>true | .Al _,.Al _=>true
 | .int _,.str _=>true | .str _,.int _=>true | .bl _,.str _=>true | .str _,.bl _=>true
 | _,_=>false
inductive rEq(x:V)(y:V)(H:Hp)(Q:VK):Prop
 |mk(_:aaS x y=true)(_:Q (.bl (decide (x=y))) H)
inductive rNe(x:V)(y:V)(H:Hp)(Q:VK):Prop
 |mk(_:aaS x y=true)(_:Q (.bl (!decide (x=y))) H)
def PY{i j:Int}:decide (V.int i=V.int j)=(i==j):=by rw[BU];simp
def SW{i j:Bool}:decide (V.bl i=V.bl j)=(i==j):=by rw[BU];simp
def PZ{i j:Str}:decide (V.str i=V.str j)=(i==j):=by rw[BU];simp
def P_{i j:Array UInt8}:decide (V.Al i=V.Al j)=(i.toList==j.toList):=by rw[BU];cases i;cases j;simp
variable {Q:VK}{op:CmpOp}
section
variable {X:Cx}{a b c:Expr}{ta tb tc:TE}{pos:Pos}
def dO{k k':Bool}(I:Inv X AC σ H s)(q:Q (.bl k) H)(e:k=k'):EP X AC σ Q (.bool k') s:=by subst e;exact⟨.bl k,H,I,Z,q⟩
def dG:jZ X (compareOp .Eq) rEq:=by
 intro AC s σ H x y v u Q I rx ry h;obtain⟨hs,q⟩:=h;cases x with
 | cy=>
  cases rx;cases y with
  | cy=>cases ry;exact PySem.EqNone.eq_none_none (dO I q (by simp))
  | bl j=>cases ry;exact PySem.EqNone.eq_none_bool (dO I q (by simp))
  | int j=>obtain⟨t',rfl⟩:=ry;exact PySem.EqNone.eq_none_int (dO I q (by simp))
  | str j=>obtain⟨t',rfl⟩:=ry;exact PySem.EqNone.eq_none_str (dO I q (by simp))
  | _=>exact absurd (show false=true from hs) gH
 | bl i=>
  cases rx;cases y with
  | cy=>cases ry;exact PySem.EqNone.eq_bool_none (dO I q (by simp))
  | bl j=>cases ry;exact eq_bool (dO I q SW)
  | str j=>obtain⟨t',rfl⟩:=ry;exact PySem.EqMixed.eq_bool_str (dO I q (by simp))
  | _=>exact absurd (show false=true from hs) gH
 | int i=>
  obtain⟨t,rfl⟩:=rx;cases y with
  | cy=>cases ry;exact PySem.EqNone.eq_int_none (dO I q (by simp))
  | int j=>obtain⟨t',rfl⟩:=ry;exact eq_int (dO I q PY)
  | str j=>obtain⟨t',rfl⟩:=ry;exact PySem.EqMixed.eq_int_str (dO I q (by simp))
  | _=>exact absurd (show false=true from hs) gH
 | str i=>
  obtain⟨t,rfl⟩:=rx;cases y with
  | cy=>cases ry;exact PySem.EqNone.eq_str_none (dO I q (by simp))
  | bl j=>cases ry;exact PySem.EqMixed.eq_str_bool (dO I q (by simp))
  | int j=>obtain⟨t',rfl⟩:=ry;exact PySem.EqMixed.eq_str_int (dO I q (by simp))
  | str j=>obtain⟨t',rfl⟩:=ry;exact eq_str (dO I q PZ)
  | _=>exact absurd (show false=true from hs) gH
 | Al i=>
  obtain⟨t,rfl⟩:=rx;cases y with
  | Al j=>obtain⟨t',rfl⟩:=ry;exact PySem.W.eq_bytes (dO I q P_)
  | _=>exact absurd (show false=true from hs) gH
 | _=>cases y <;> exact absurd (show false=true from hs) gH
def XI:jZ X (compareOp .NotEq) rNe:=by
 intro AC s σ H x y v u Q I rx ry h;obtain⟨hs,q⟩:=h;cases x with
 | cy=>
  cases rx;cases y with
  | cy=>cases ry;exact PySem.EqNone.ne_none_none (dO I q (by simp))
  | bl j=>cases ry;exact PySem.EqNone.ne_none_bool (dO I q (by simp))
  | int j=>obtain⟨t',rfl⟩:=ry;exact PySem.EqNone.ne_none_int (dO I q (by simp))
  | str j=>obtain⟨t',rfl⟩:=ry;exact PySem.EqNone.ne_none_str (dO I q (by simp))
  | _=>exact absurd (show false=true from hs) gH
 | bl i=>
  cases rx;cases y with
  | cy=>cases ry;exact PySem.EqNone.ne_bool_none (dO I q (by simp))
  | bl j=>cases ry;exact ne_bool (dO I q (ig not SW))
  | str j=>obtain⟨t',rfl⟩:=ry;exact PySem.EqMixed.ne_bool_str (dO I q (by simp))
  | _=>exact absurd (show false=true from hs) gH
 | int i=>
  obtain⟨t,rfl⟩:=rx;cases y with
  | cy=>cases ry;exact PySem.EqNone.ne_int_none (dO I q (by simp))
  | int j=>obtain⟨t',rfl⟩:=ry;exact ne_int (dO I q (ig not PY))
  | str j=>obtain⟨t',rfl⟩:=ry;exact PySem.EqMixed.ne_int_str (dO I q (by simp))
  | _=>exact absurd (show false=true from hs) gH
 | str i=>
  obtain⟨t,rfl⟩:=rx;cases y with
  | cy=>cases ry;exact PySem.EqNone.ne_str_none (dO I q (by simp))
  | bl j=>cases ry;exact PySem.EqMixed.ne_str_bool (dO I q (by simp))
  | int j=>obtain⟨t',rfl⟩:=ry;exact PySem.EqMixed.ne_str_int (dO I q (by simp))
  | str j=>obtain⟨t',rfl⟩:=ry;exact ne_str (dO I q (ig not PZ))
  | _=>exact absurd (show false=true from hs) gH
 | Al i=>
  obtain⟨t,rfl⟩:=rx;cases y with
  | Al j=>obtain⟨t',rfl⟩:=ry;exact PySem.W.ne_bytes (dO I q (ig not P_))
  | _=>exact absurd (show false=true from hs) gH
 | _=>cases y <;> exact absurd (show false=true from hs) gH
def tR:jZ X (compareOp .Lt) (CK λi j=> .bl (decide (i<j))):=RB λ_ _ _ _ _ _ _ q=>lt_int q
def XJ:jZ X (compareOp .LtE) (CK λi j=> .bl (decide (i<=j))):=RB λ_ _ _ _ _ _ _ q=>le_int q
def iT:jZ X (compareOp .Gt) (CK λi j=> .bl (decide (j<i))):=RB λ_ _ _ _ _ _ _ q=>gt_int q
def KC:jZ X (compareOp .GtE) (CK λi j=> .bl (decide (j<=i))):=RB λ_ _ _ _ _ _ _ q=>ge_int q
def SX:jZ X (compareOp .In) (λx y H Q=>∃i j,x =.str i/\y =.str j/\Q (.bl (!(Builtin.Str.occurrences j i 0 j.length 1).isEmpty)) H):=by intro AC s σ H x y v u Q I rx ry h;obtain⟨i,j,rfl,rfl,q⟩:=h;obtain⟨t,rfl⟩:=rx;obtain⟨t',rfl⟩:=ry;exact in_str (dO I q rfl)
def aZ(b:Expr)(h:op ≠ .In:=by decide)(h2:op ≠ .NotIn:=by decide):behindInMarks op b=false:=by
 have e1:(op==CmpOp.In)=false:=by cases op <;> first|rfl|exact absurd rfl h
 have e2:(op==CmpOp.NotIn)=false:=by cases op <;> first|rfl|exact absurd rfl h2
 cases b <;> simp[behindInMarks,e1,e2]
inductive SY(Q:Bool->Hp->Prop)(x:V)(H':Hp):Prop
 |mk(k:_)(_:x =.bl k)(_:Q k H')
def Ei(t:TE):TT:=λσ H Q=>t σ H (SY Q)
inductive S0(r':R2)(tc:TE)(σ:St)(Q:VK)(y:V)(z:V)(H3:Hp):Prop
 |mk(k:_)(_:z =.bl k)(_:(if k=true then tc σ H3 λw' H4=>r' y w' H4 Q else Q (.bl false) H3))
def S3(r:R2)(r':R2)(tc:TE)(σ:St)(Q:VK)(x:V):V->Hp->Prop:=λy H2=>r x y H2 (S0 r' tc σ Q y)
def YW(r:R2)(r':R2)(tb:TE)(tc:TE)(σ:St)(Q:VK):V->Hp->Prop:=λx H1=>tb σ H1 (S3 r r' tc σ Q x)
def aaU(r r':R2)(ta tb tc:TE):TE:=λσ H Q=>ta σ H (YW r r' tb tc σ Q)
def vI:(sizeLine:Nat)<2 ^ 63:=by rw[mH];decide
def RC:jZ X (binaryOp .Add) (λx y H Q=>∃i j,x =.str i/\y =.str j/\i.length+j.length<=sizeLine/\Q (.str (i++j)) H):=by intro AC s σ H x y v u Q I rx ry h;obtain⟨i,j,rfl,rfl,hz,q⟩:=h;obtain⟨t,rfl⟩:=rx;obtain⟨t',rfl⟩:=ry;exact add_str (λt' tk=>⟨.str (i++j),H,I.tok _,⟨_,Z⟩,q⟩) hz
def vals1{x:V}(r:Vals [x] us):∃u,us=[u]/\RelV x u:=by
 cases r with
 | cons r1 r2=>cases r2;exact⟨_,Z,r1⟩
def vals2{x:V}(r:Vals [x,y] us):∃u w',us=[u,w']/\RelV x u/\RelV y w':=by
 cases r with
 | cons r1 r2=>
  cases r2 with
  | cons r3 r4=>cases r4;exact⟨_,_,Z,r1,r3⟩
def V4:iS X (.builtin "abs") (λxs H Q=>∃i,xs=[.int i]/\Q (.int (if i<0 then -i else i)) H):=by intro AC s σ H xs us Q I r h;obtain⟨i,rfl,q⟩:=h;obtain⟨u,rfl,t,rfl⟩:=vals1 r;exact call_abs_int λu tk=>⟨.int (if i<0 then -i else i),H,I.tok _,⟨_,Z⟩,q⟩
def xN(hc:X.calm=true):iS X (.builtin "min") (λxs H Q=>∃i j,xs=[.int i,.int j]/\Q (.int (if j<i then j else i)) H):=by
 intro AC s σ H xs us Q I r h;obtain⟨i,j,rfl,q⟩:=h;obtain⟨u,w',rfl,⟨t,rfl⟩,⟨t',rfl⟩⟩:=vals2 r;refine min_two_ints (I.ok.hd hc) λh' tk k=>⟨_,H,I.kept k,?_,q⟩
 by_cases hj:j<i
 .rw [ay hj,ay hj];exact⟨_,Z⟩
 .rw [av hj,av hj];exact⟨_,Z⟩
end
structure Dh(h:Heap)(x dx C:Addr)(mA:SO):Prop where
 obj:h.get? x=some (PySem.W.instObj C dx)
 ns:h.Ns1 dx mA
 ne:dx≠x
def S4{mA:SO}(n:h.Ns1 dx mA):∃od,h.get? dx=some od/\∀name,PySem.W.lookIn name od=some (mA name):=by
 obtain⟨o,es,ep,ho,hd,hk,_,hm⟩:=n;refine⟨o,ho,λname=>?_⟩;have e:=hm name;unfold nsFind findBy at e;rw[<-Array.find?_toList]at e;unfold PySem.W.lookIn;rw[hd];dsimp only;split
 .rename_i y q;rw[q]at e;exact ig some e
 .rename_i q;rw[q]at e;have a:es.toList.any (·.refKey)=false:=by rw[List.any_eq_false];intro y hy;obtain⟨z,t,hkey⟩:=hk y (Array.mem_toList_iff.mp hy);simp[DictEntry.refKey,hkey]
  have a':¬ es.toList.any (·.refKey)=true:=by rw[a];exact gH
  rw[av a'];exact ig some e
variable {C:Addr}
def Dh.look{x dx:Addr}{mA:SO}(I:Dh h x dx C mA):∃od,PySem.W.InstAt h x (PySem.W.instObj C dx) C (some od)/\∀name,PySem.W.lookIn name od=some (mA name):=
 let⟨od,ho,hl⟩:=S4 I.ns
 ⟨od,⟨I.obj,Z,Z,ho⟩,hl⟩
variable {kw:Da (Str×Value)}
section
variable {prog:Program}{w:World}{A:Around}{E:VS}{s:Shared}{K:Fg}{x dx C f:Addr}{mA:SO}{name:Str}{v:Value}
def get_map{expr:Bool}{Q:VS}(X:K.In s.heap)(I:Dh s.heap x dx C mA)(hg:PySem.W.plainGet K C name=true)(hh:PySem.W.hasDictIn K C=true)(ha:PySem.W.findIn K (.ref C) name=some none)(hv:mA name=some v)(hv':PySem.W.handedIn v=true)(h:Q v { s with toks:=s.toks+1 }):
  wpAny (model prog w) A (getAttr (.ref x) name expr) Q E s:=by
 obtain⟨od,J,hl⟩:=I.look
 exact PySem.W.get_value X J (PySem.W.plainGet_of hg).1 (PySem.W.findObj_own hh ha rfl (by rw[hl,hv])) hv' h
def V5{pl:Sem Bool}{Q:Value×Da Value->Shared->Prop}(X:K.In s.heap)(I:Dh s.heap x dx C mA)(hg:PySem.W.plainGet K C name=true)(hf:PySem.W.findIn K (.ref C) name=some (some (.ref f)))(ht:PySem.W.isFn K (.ref f)=true)(hv:mA name=none)(h:Q (.ref f,[.ref x]) s):
  wpAny (model prog w) A (getMethod (.ref x) name pl) Q E s:=by
 obtain⟨od,J,hl⟩:=I.look
 exact PySem.W.method_fn X J (PySem.W.plainGet_of hg).1 (PySem.W.plainGet_of hg).2 hf (vh.mp ht) (by show(PySem.W.lookIn name od).map (·.isSome)=some false;rw[hl,hv];rfl) h
theorem YX{ns:Da Str}{Q:Unit->Shared->Prop}(X:K.In s.heap)(I:Dh s.heap x dx C mA)(hs:PySem.W.findIn K (.ref C) "__setattr__"=some (some (.builtin "object.__setattr__")))(hp:PySem.W.plainOver K C=true)(ht:PySem.W.takerIn K C name=some none)(hh:PySem.W.hasDictIn K C=true)(hw:PySem.Within mA ns)(hsz:ns.length<=sizeLine)(h:∀h',Dh h' x dx C (λy=>if y=name then some v else mA y)->Heap.SameBut dx s.heap h'->Q () { s with heap:=h',toks:=s.toks+2 }):
  wpAny (model prog w) A (setAttr (.ref x) name v) Q E s:=by
 obtain⟨od,J,hl⟩:=I.look
 refine PySem.W.set_plain X J hs (PySem.W.osa_open (s:={ s with toks:=s.toks+1 }) (r:=none) X J hp ht λb=>?_)
 obtain⟨cd,hc,hd'⟩:=PySem.W.any_some hh
 have hx:s.heap.get? x=some ⟨.ref C,some dx,.plain,#[]⟩:=I.obj
 refine aA (bw (aA (aA (wpAny_loadPart hx (aA (PySem.W.Looks.here (s:={ s with toks:=s.toks+1 }) (PySem.W.looks_clsIn X hc) ?_))))))
 rw[hd']
 refine bw (a:=some dx) (aA (bw (aA ?_)))
 refine wpAny_nsSet1 (s:={ s with toks:=s.toks+1 }) I.ns λh' hn2 hs2=>?_
 obtain⟨oD,esD,epD,hoD,hdD,hcD⟩:=hn2.count (PySem.Within.cons name v hw)
 refine aA (wpAny_lookBehind hoD (by rw[hdD];exact pastItsLine_dict (fY hcD (by rw[jf];omega))) ?_)
 exact bw (h _ ⟨(hs2.2 _ (cJ I.ne)).trans I.obj,hn2,I.ne⟩ hs2)
def V6{R:Result->Shared->Prop}{vs:Da Value}(X:K.In s.heap)(hm:PySem.W.makesIn K C=true)(hi:PySem.W.findIn K (.ref C) "__init__"=some (some (.ref f)))(hf:PySem.W.typeIn K (.ref f)=some (.type "function"))(h:codeAny (model prog w) (A.under (.builtin "type.__call__" ⟨.ref C::vs,kw⟩)) (.call (.ref f) ⟨.ref (s.heap.objs.size+1)::vs,kw⟩) (PySem.W.InitBack (s.heap.objs.size+1) R)
    { s with heap:=(s.heap.push PySem.W.emptyDict).push (PySem.W.instObj C s.heap.objs.size) }):
  codeAny (model prog w) A (.call (.ref C) ⟨vs,kw⟩) R s:=by
 obtain⟨hh,g,d,t,os⟩:=s
 exact PySem.W.make_core (PySem.W.makes_of X hm) (PySem.W.looks_findIn X hi) (λself=>PySem.W.bind_fn X self hf) (.inl rfl) h
end
def br(f:Str)(v:V):Da (Str×V)->Da (Str×V)
 | []=>[(f,v)]
 | (g,x)::r=>if g=f then(g,v)::r else(g,x)::br f v r
theorem CL(f g:Str)(v:V):∀fs:Da (Str×V),(br f v fs).lookup g=if g=f then some v else fs.lookup g
 | []=>by
  show List.lookup g [(f,v)]=_;by_cases h:g=f
  .have hb:(g==f)=true:=vh.mpr h;simp only[List.lookup,hb,ay h]
  .have hb:(g==f)=false:=Gm.mpr h;simp only[List.lookup,hb,av h]
 | (k,x)::r=>by
  have ih:=CL f g v r;rw[show br f v ((k,x)::r)=(if k=f then(k,v)::r else(k,x)::br f v r)from rfl];by_cases hk:k=f
  .rw [ay hk];by_cases h:g=k
   .have hb:(g==k)=true:=vh.mpr h;simp only[List.lookup,hb,ay (h.trans hk)]
   .have hb:(g==k)=false:=Gm.mpr h;simp only[List.lookup,hb,av (λe:g=f=>h (e.trans hk.symm))]
  .rw [av hk];by_cases h:g=k
   .have hb:(g==k)=true:=vh.mpr h;simp only[List.lookup,hb,av (λe:g=f=>hk (h.symm.trans e))]
   .have hb:(g==k)=false:=Gm.mpr h;simp only[List.lookup,hb];exact ih
theorem AF(f:Str)(v:V):∀fs:Da (Str×V),f∈(br f v fs).map (·.1)/\∀g,g∈fs.map (·.1)->g∈(br f v fs).map (·.1)
 | []=>⟨by simp[br],λg h=>by simp at h⟩
 | (k,x)::r=>by
  obtain⟨i1,i2⟩:=AF f v r;rw[show br f v ((k,x)::r)=(if k=f then(k,v)::r else(k,x)::br f v r)from rfl];by_cases hk:k=f
  .rw [ay hk];subst hk;exact⟨by simp,λg h=>by simpa using h⟩
  .rw [av hk];refine⟨?_,λg h=>?_⟩
   .rw [bK];exact cQ _ i1
   .rw [bK]at h ⊢;rcases fm.mp h with e|e
    .exact fm.mpr (.inl e)
    .exact cQ _ (i2 g e)
theorem CM(f:Str)(v:V):∀fs:Da (Str×V),(br f v fs).length<=fs.length+1
 | []=>by simp[br]
 | (k,x)::r=>by
  have ih:=CM f v r;rw[show br f v ((k,x)::r)=(if k=f then(k,v)::r else(k,x)::br f v r)from rfl];by_cases hk:k=f
  .rw [ay hk,jf,jf];omega
  .rw [av hk,jf,jf];omega
def oB.some_of{v:V}{o:Option Value}(r:oB (some v) o):∃u,o=some u/\RelV v u:=by
 cases o with
 | none=>exact(show False from r).elim
 | some u=>exact⟨u,Z,r⟩
def oB.none_of{o:Option Value}(r:oB none o):o=none:=by
 cases o with
 | none=>rfl
 | some u=>exact(show False from r).elim
def S7{v:V}(r:RelV v u):PySem.W.handedIn u=true:=by
 cases v with
 | cy=>cases(show u=Value.none from r);rfl
 | bl b=>cases(show u=Value.bool b from r);rfl
 | int i=>obtain⟨t,e⟩:=(show ∃t,u=Value.int i t from r);cases e;rfl
 | str x=>obtain⟨t,e⟩:=(show ∃t,u=Value.str x t from r);cases e;rfl
 | Al b=>obtain⟨t,e⟩:=(show ∃t,u=Value.bytes b t from r);cases e;rfl
 | K3 b=>obtain⟨t,e⟩:=(show ∃t,u=Value.float b t from r);cases e;rfl
 | ref a=>cases(show u=Value.ref a from r);rfl
 | ty n=>cases(show u=Value.type n from r);rfl
section
variable {P:Program}{w:World}{H H':Hp}{h h':Heap}{a C dx:Addr}{fs fs':Da (Str×V)}
def B9(hok:jA P w H h)(e:H a=some (.ins C dx fs)):∃mA,Dh h a dx C mA/\(∀f,oB (fs.lookup f) (mA f))/\PySem.Within mA (fs.map (·.1))/\fs.length<=1000/\H dx=some (.own a):=by
 obtain⟨d,z,ne,ob,mA,n,r,q⟩:=(show fq P w H h a (.ins C dx fs)from hok a _ e)
 exact⟨mA,⟨ob,n,ne⟩,r,q,z,d⟩
end
structure qK(K:Fg)(C:Addr):Prop where
 pg:PySem.W.plainGet K C Str.empty=true
 hd:PySem.W.hasDictIn K C=true
 po:PySem.W.plainOver K C=true
 sa:PySem.W.findIn K (.ref C) "__setattr__"=some (some (.builtin "object.__setattr__"))
def qK.get(c:qK K C)(f:Str):PySem.W.plainGet K C f=true:=c.pg
def f_(K:Fg)(C:Addr)(f:Str):Prop:=PySem.W.findIn K (.ref C) f=some none
def f_.taker{f:Str}(n:f_ K C f):PySem.W.takerIn K C f=some none:=by unfold PySem.W.takerIn;rw[show PySem.W.findIn K (.ref C) f=some none from n];rfl
structure Meth(K:Fg)(C:Addr)(m:Str)(f:Addr):Prop where
 at_:PySem.W.findIn K (.ref C) m=some (some (.ref f))
 fn:PySem.W.isFn K (.ref f)=true
 kp:PySem.W.keepIn K (.ref f)=true
variable {env:Env}
section
variable {X:Cx}{AC:AO}{σ:St}{H:Hp}{s:Shared}{a C dx:Addr}{fs:Da (Str×V)}{f:Str}{v:V}{A:Around}{E:VS}
def Ej{b:Bool}{Q:VS}(I:Inv X AC σ H s)(e:H a=some (.ins C dx fs))(c:qK X.K C)(n:f_ X.K C f)(l:fs.lookup f=some v)(h:∀u s',Inv X AC σ H s'->RelV v u->Q u s'):wpAny (model X.prog X.w) A (getAttr (.ref a) f b) Q E s:=by
 obtain⟨mA,O,r,_,_,_⟩:=B9 I.hok e
 obtain⟨u,hu,ru⟩:=oB.some_of (v:=v) (o:=mA f) (by rw[<-l];exact r f)
 exact get_map I.k_ O (c.get f) c.hd n hu (S7 ru) (h u _ (I.tok _) ru)
def Ek{m:Str}{g:Addr}{pl:Sem Bool}{Q:Value×Da Value->Shared->Prop}(I:Inv X AC σ H s)(e:H a=some (.ins C dx fs))(c:qK X.K C)(k:Meth X.K C m g)(l:fs.lookup m=none)(h:Q (.ref g,[.ref a]) s):wpAny (model X.prog X.w) A (getMethod (.ref a) m pl) Q E s:=by
 obtain⟨mA,O,r,_,_,_⟩:=B9 I.hok e
 have hn:mA m=none:=oB.none_of (by rw[<-l];exact r m)
 exact V5 I.k_ O (c.get m) k.at_ k.fn hn h
theorem El{Q:Unit->Shared->Prop}(I:Inv X AC σ H s)(e:H a=some (.ins C dx fs))(c:qK X.K C)(n:f_ X.K C f)(hl:fs.length<1000)(ry:RelV y u)(h:∀s',Inv X AC σ (upd H a (.ins C dx (br f y fs))) s'->Q () s'):wpAny (model X.prog X.w) A (setAttr (.ref a) f u) Q E s:=by
 obtain⟨mA,O,r,wi,_,ho⟩:=B9 I.hok e
 have hz:(fs.map (·.1)).length<=sizeLine:=by rw[aE,mH];omega
 refine YX I.k_ O c.sa c.po n.taker c.hd wi hz λh' O' sb=>h _ ?_
 have hd:∃o,h'.get? dx=some o:=let⟨o,_,_,e',_⟩:=O'.ns;⟨o,e'⟩
 refine I.write (x:=a) (e:=dx) (by rw[e];exact True.intro) (.inr ho) (λb q hb z=>(sb.2 b hb).trans z) hd ?_
 refine⟨by rw[az O.ne];exact ho,?_,O.ne,O'.obj,_,O'.ns,λg=>?_,λg hg=>?_⟩
 . have:=CM f y fs;omega
 . show oB ((br f y fs).lookup g) (if g=f then some u else mA g)
   rw[CL]
   by_cases q:g=f
   . rw[ay q,ay q];exact ry
   . rw[av q,av q];exact r g
 . by_cases q:g=f
   . rw[q];exact(AF f y fs).1
   . refine(AF f y fs).2 g (wi g λz=>hg ?_)
     show(if g=f then some u else mA g)=none
     rw[av q];exact z
def Inv.made(I:Inv X AC σ H s):Inv X AC σ (upd (upd H s.heap.objs.size (.own (s.heap.objs.size+1))) (s.heap.objs.size+1) (.ins C s.heap.objs.size []))
  { s with heap:=(s.heap.push PySem.W.emptyDict).push (PySem.W.instObj C s.heap.objs.size) }:=by
 have e1:(s.heap.push PySem.W.emptyDict).get? s.heap.objs.size=some PySem.W.emptyDict:=fK s.heap rfl
 have e2:((s.heap.push PySem.W.emptyDict).push (PySem.W.instObj C s.heap.objs.size)).get? (s.heap.objs.size+1)=some (PySem.W.instObj C s.heap.objs.size):=by
  have:=fK (s.heap.push PySem.W.emptyDict) (o:=PySem.W.instObj C s.heap.objs.size) rfl
  rwa [nL]at this
 have e3:(s.heap.push PySem.W.emptyDict).Ns s.heap.objs.size (λ_=>none):=⟨PySem.W.emptyDict,#[],_,e1,Z,(λe he=>absurd he (by simp)),λ_=>rfl⟩
 have I1:=I.laid (a:=s.heap.objs.size) (o:=.own (s.heap.objs.size+1)) (h':=s.heap.push PySem.W.emptyDict) (t':=s.toks) (λb u q=>cU _ q) (aL _) ⟨_,e1⟩
 refine I1.laid (a:=s.heap.objs.size+1) (o:=.ins C s.heap.objs.size []) (t':=s.toks) (λb u q=>cU _ q) (Nat.le_of_eq (nL _ _)) ?_
 have ne:s.heap.objs.size≠s.heap.objs.size+1:=gr (Nat.lt_succ_self _)
 refine⟨by rw[az ne,aq],iH _,ne,e2,λ_=>none,(Heap.Ns1.of_empty e3).at λo q=>cU _ q,λ_=>True.intro,λy hy=>absurd rfl hy⟩
def YY{prog:Program}{f:Str}{s:Shared}{Q:VS}(hb:attributeBase e f env (eval e env)=eval e env)(h:wpAny (model prog w) A (eval e env) (λo s₁=>wpAny (model prog w) A (getAttr o f true) Q E s₁) E s):wpAny (model prog w) A (eval (.Attribute e f pos) env) Q E s:=
 Attribute_any_ h (by rw[arm_eval_Attribute,hb])
end
inductive aea(K:Fg)(f:Str)(Q:VK)(x:V)(H1:Hp):Prop
 |mk(a C dx fs v:_)(_:x =.ref a)(_:H1 a=some (.ins C dx fs))(_:qK K C)(_:f_ K C f)(_:fs.lookup f=some v)(_:Q v H1)
def aaV(K:Fg)(ta:TE)(f:Str):TE:=λσ H Q=>ta σ H (aea K f Q)
inductive YZ(K:Fg)(f:Str)(D:Ends)(σ:St)(y:V)(x:V)(H2:Hp):Prop
 |mk(a C dx fs:_)(_:x =.ref a)(_:H2 a=some (.ins C dx fs))(_:qK K C)(_:f_ K C f)(_:fs.length<1000)(_:D.nx σ (upd H2 a (.ins C dx (br f y fs))))
def aeb(K:Fg)(ta:TE)(f:Str)(D:Ends)(σ:St):V->Hp->Prop:=λy H1=>ta σ H1 (YZ K f D σ y)
def aaW(K:Fg)(ta tv:TE)(f:Str):TS:=λD σ H=>tv σ H (aeb K ta f D σ)
def Lc(X:Cx)(op:Operator)(rd:V->V->Hp->VK->Prop):Prop:=∀(AC:AO)(s:Shared)(σ:St)(H:Hp)(x y:V)(u v:Value)(Q:VK),Inv X AC σ H s->RelV x u->RelV y v->rd x y H Q->wpAny (model X.prog X.w) X.A (inplaceOp op u v) (EP X AC σ Q) X.xe s
inductive RD(f:Str)(D:Ends)(σ:St)(a:Addr)(C:Addr)(z:V)(H3:Hp):Prop
 |mk(dx' fs':_)(_:H3 a=some (.ins C dx' fs'))(_:fs'.length<1000)(_:D.nx σ (upd H3 a (.ins C dx' (br f z fs'))))
def RE(rd:V->V->Hp->VK->Prop)(f:Str)(D:Ends)(σ:St)(a:Addr)(C:Addr)(v:V):V->Hp->Prop:=λy H2=>rd v y H2 (RD f D σ a C)
inductive V7(K:Fg)(tv:TE)(rd:V->V->Hp->VK->Prop)(f:Str)(D:Ends)(σ:St)(x:V)(H1:Hp):Prop
 |mk(a C dx fs v:_)(_:x =.ref a)(_:H1 a=some (.ins C dx fs))(_:qK K C)(_:f_ K C f)(_:fs.lookup f=some v)(_:tv σ H1 (RE rd f D σ a C v))
def Qa(K:Fg)(ta tv:TE)(rd:V->V->Hp->VK->Prop)(f:Str):TS:=λD σ H=>ta σ H (V7 K tv rd f D σ)
variable {rd:V->V->Hp->VK->Prop}
section
variable {X:Cx}{o e value:Expr}{f:Str}{pos pos' tpos:Pos}{ta tv:TE}
def aaY(he:PE X e ta)(hb:attributeBase e f X.env (eval e X.env)=eval e X.env):PE X (.Attribute e f pos) (aaV X.K ta f):=by intro AC s σ H Q I h;refine YY hb (bP (he AC s σ H _ I h) λu s1 ⟨x,H1,I1,rx,a,C,dx,fs,v,ex,ea,c,n,l,q⟩=>?_);subst ex;obtain rfl:u=Value.ref a:=rx;exact Ej I1 ea c n l λu' s2 I2 ru=>⟨v,H1,I2,ru,q⟩
def aaZ(ha:PE X o ta)(hv:PE X value tv)(hs:swapsWith value (some (.Attribute o f pos')) pos.line X.env=pure false):PS X (.Assign [.Attribute o f pos'] value pos) (aaW X.K ta tv f):=by intro AC s σ H D I h;refine plainObj_wpAny_Assign_Attribute (bP (hv AC s σ H _ I h) λu s1 ⟨y,H1,I1,ry,q⟩=>bP (ha AC s1 σ H1 _ I1 q) λov s2 ⟨x,H2,I2,rx,a,C,dx,fs,ex,ea,c,n,l,q2⟩=>?_) hs;subst ex;obtain rfl:ov=Value.ref a:=rx;exact El I2 ea c n l ry λs3 I3=>⟨σ,_,I3,q2⟩
def S9{op:Operator}(ha:PE X o ta)(hv:PE X value tv)(hop:Lc X op rd):PS X (.AugAssign (.Attribute o f tpos) op value pos) (Qa X.K ta tv rd f):=by intro AC s σ H D I h;refine wpAny_AugAssign_AttributeAny (bP (ha AC s σ H _ I h) λov s1 ⟨x,H1,I1,rx,a,C,dx,fs,v,ex,ea,c,n,l,q⟩=>?_);subst ex;obtain rfl:ov=Value.ref a:=rx;refine Ej I1 ea c n l λu s2 I2 ru=>bP (hv AC s2 σ H1 _ I2 q) λw3 s3 ⟨y,H2,I3,ry,q3⟩=>bP (hop AC s3 σ H2 v y u w3 _ I3 ru ry q3) λw4 s4 ⟨z,H3,I4,rz,dx',fs',ea',l',q4⟩=>?_;exact El I4 ea' c n l' rz λs5 I5=>⟨σ,_,I5,q4⟩
inductive ahw(x:V)(y:V)(H:Hp)(Q:VK):Prop
 |mk(i j:_)(_:x =.int i)(_:y =.int j)(_:Q (.int (i+j)) H)
inductive ahx(x:V)(y:V)(H:Hp)(Q:VK):Prop
 |mk(i j:_)(_:x =.int i)(_:y =.int j)(_:Q (.int (i-j)) H)
def aa0:Lc X .Add ahw:=by
 rintro AC s σ H x y u v Q I rx ry ⟨i,j,rfl,rfl,q⟩;obtain⟨t,rfl⟩:=(show ∃t,u=Value.int i t from rx)
 obtain⟨t',rfl⟩:=(show ∃t',v=Value.int j t' from ry)
 exact PyProof.Rows.iadd_int ⟨.int (i+j),H,I.tok _,⟨_,Z⟩,q⟩
def Ld:Lc X .Sub ahx:=by
 rintro AC s σ H x y u v Q I rx ry ⟨i,j,rfl,rfl,q⟩;obtain⟨t,rfl⟩:=(show ∃t,u=Value.int i t from rx)
 obtain⟨t',rfl⟩:=(show ∃t',v=Value.int j t' from ry)
 exact PyProof.Rows.isub_int ⟨.int (i-j),H,I.tok _,⟨_,Z⟩,q⟩
end
section
variable {X:Cx}{AC:AO}{σ:St}{H:Hp}{s:Shared}{A:Around}{E:VS}{Q:VS}{c:Value}{b:Bool}
inductive m9(K:Fg)(H:Hp):V->Value->Prop where
 | cy:m9 K H .cy (.type "NoneType")
 | bl (x:Bool):m9 K H (.bl x) (.type "bool")
 | int (i:Int):m9 K H (.int i) (.type "int")
 | str (x:Str):m9 K H (.str x) (.type "str")
 | K3 (x:UInt64):m9 K H (.K3 x) (.type "float")
 | lst {a:Addr} {xs:Da V} (e:H a=some (.lst xs)):m9 K H (.ref a) (.type "list")
 | gy {a:Addr} {o:Obj} {xs:Da V} (e:H a=some (.gy o (.lst xs))):m9 K H (.ref a) (.type "list")
 | tup {a:Addr} {xs:Da V} (e:H a=some (.tup xs)):m9 K H (.ref a) (.type "tuple")
 | dK {a:Addr} {AT:Da (Key×V)} (e:H a=some (.dK AT)):m9 K H (.ref a) (.type "dict")
 | dT {a:Addr} {AT:Da (Da Key×V)} (e:H a=some (.dT AT)):m9 K H (.ref a) (.type "dict")
 | ins {a C dx:Addr} {fs:Da (Str×V)} (e:H a=some (.ins C dx fs)) (cl:qK K C) (ha:PySem.W.findIn K (.ref C) "__class__"=some (some (.builtin "object.__class__")))
    (hn:PySem.W.specialIn K (.builtin "object.__class__") "__get__"=some (some (.builtin "getset_descriptor.__get__"))) (htk:PySem.W.takesIn K (.builtin "object.__class__")=some true)
    (hm:PySem.W.mroIn K C (.type "object")=some true):m9 K H (.ref a) (.ref C)
def S_{x:V}{t:Value}(I:Inv X AC σ H s)(rx:RelV x u)(ty:m9 X.K H x t)(e:PySem.W.kitOne X.K t c=some b)(h:∀tk,Q (.bool b) { s with toks:=tk }):wpAny (model X.prog X.w) A (call (.builtin "isinstance") [u,c]) Q E s:=by
 cases ty with
 | cy=>cases(show u=Value.none from rx);exact qE PySem.W.kitx_none I.k_ True.intro e (λz=>nomatch z) h
 | bl y=>cases(show u=Value.bool y from rx);exact qE PySem.W.kitx_bool I.k_ True.intro e (λz=>nomatch z) h
 | int i=>obtain⟨t,q⟩:=(show ∃t,u=Value.int i t from rx);cases q;exact qE PySem.W.kitx_int I.k_ True.intro e (λz=>nomatch z) h
 | str y=>obtain⟨t,q⟩:=(show ∃t,u=Value.str y t from rx);cases q;exact qE PySem.W.kitx_str I.k_ True.intro e (λz=>nomatch z) h
 | K3 y=>obtain⟨t,q⟩:=(show ∃t,u=Value.float y t from rx);cases q;exact qE PySem.W.kitx_float I.k_ True.intro e (λz=>nomatch z) h
 | @lst a xs ea=>
  cases(show u=Value.ref a from rx);obtain⟨_,_,n,_,h1⟩:=(show fq X.prog X.w H s.heap a (.lst xs)from I.hok a _ ea)
  exact qE PySem.W.kitx_list I.k_ ⟨_,h1,Z⟩ e (λz=>nomatch z) h
 | @gy a ob xs ea=>
  cases(show u=Value.ref a from rx);obtain⟨_,_,_,n,_,h1⟩:=(show fq X.prog X.w H s.heap a (.gy ob (.lst xs))from I.hok a _ ea)
  exact qE PySem.W.kitx_list I.k_ ⟨_,h1,Z⟩ e (λz=>nomatch z) h
 | @tup a xs ea=>
  cases(show u=Value.ref a from rx);obtain⟨_,_,_,p⟩:=(show fq X.prog X.w H s.heap a (.tup xs)from I.hok a _ ea)
  obtain⟨o,h1,h2,_⟩:=p;exact qE PySem.W.kitx_tuple I.k_ ⟨o,h1,h2⟩ e (λz=>nomatch z) h
 | @dK a AT ea=>
  cases(show u=Value.ref a from rx);obtain⟨_,_,vs,_,p⟩:=(show fq X.prog X.w H s.heap a (.dK AT)from I.hok a _ ea)
  obtain⟨o,es,ep,h1,h2,_⟩:=p;exact qE PySem.W.kitx_dict I.k_ ⟨o,h1,h2.1⟩ e (λz=>nomatch z) h
 | @dT a AT ea=>
  cases(show u=Value.ref a from rx);obtain⟨_,_,xs,_,o,es,ep,h1,h2,_⟩:=(show fq X.prog X.w H s.heap a (.dT AT)from I.hok a _ ea)
  exact qE PySem.W.kitx_dict I.k_ ⟨o,h1,h2.1⟩ e (λz=>nomatch z) h
 | @ins a C dx fs ea cl ha hn htk hm=>cases(show u=Value.ref a from rx);obtain⟨mA,O,_⟩:=B9 I.hok ea;obtain⟨od,J,_⟩:=O.look;exact qE (PySem.W.kitx_own (cl.get _) cl.hd ha hn htk hm) I.k_ J e (λz=>nomatch z) h
end
structure fL(k:Nat)(A:Around):Prop where
 hd:A.handled=none
 dp:A.depth+3*k+5<recursionLimit
 un:A.units+16*k+200<cLine
theorem fL.mono{k:Nat}{A:Around}(r:fL k A)(h:j<=k):fL j A:=⟨r.hd,by have:=r.dp;omega,by have:=r.un;omega⟩
theorem fL.deeper{k:Nat}{A:Around}(r:fL (k+1) A)(env:Env):fL k (A.deeper env):=⟨r.hd,by have:=r.dp;show A.depth+1+3*k+5<_;omega,by have:=r.un;show A.units+3+16*k+200<_;omega⟩
def RG{A:Around}:(A.under (.builtin "type.__call__" ⟨.ref C::us,kw⟩)).depth=A.depth+1:=by first|rfl|simp[Around.under,Code.weight,Code.isCreation,Code.isGuard,Code.isCaller,Code.frames,Code.isFrame,guardIds]
def RH{A:Around}:(A.under (.builtin "type.__call__" ⟨.ref C::us,kw⟩)).units=A.units+1:=by first|rfl|simp[Around.under,Code.cUnits,Code.frames,Code.isFrame]
theorem fL.make{k:Nat}{A:Around}(r:fL (k+1) A)(C:Addr)(us:Da Value)(kw:Da (Str×Value)):fL k (A.under (.builtin "type.__call__" ⟨.ref C::us,kw⟩)):=⟨r.hd,by have:=r.dp;rw[RG];omega,by have:=r.un;rw[RH];omega⟩
theorem fL.depth{k:Nat}{A:Around}(r:fL k A):A.depth<recursionLimit:=by have:=r.dp;omega
theorem fL.units{k:Nat}{A:Around}(r:fL k A):A.units+64<cLine:=by have:=r.un;omega
def qL:TA:=λ_ H Q=>Q [] H
def V8(Q:Da V->Hp->Prop)(x:V):Da V->Hp->Prop:=λxs H2=>Q (x::xs) H2
def aa1(tr:TA)(σ:St)(Q:Da V->Hp->Prop):V->Hp->Prop:=λx H1=>tr σ H1 (V8 Q x)
def RI(ta:TE)(tr:TA):TA:=λσ H Q=>ta σ H (aa1 tr σ Q)
section
variable {X:Cx}{e:Expr}{es:Da Expr}{te:TE}{t:TA}{pos:Pos}
inductive aec(Q:VK)(xs:Da V)(H1:Hp):Prop
 |mk(_:xs.length<=sizeLine)(_:∀p,H1 p=none->Q (.ref p) (upd H1 p (.tup xs)))
def ahy(t:TA):TE:=λσ H Q=>t σ H (aec Q)
inductive aed(Q:VK)(xs:Da V)(H1:Hp):Prop
 |mk(_:xs.length<=sizeLine)(_:∀p,H1 p=none->Q (.ref p) (upd H1 p (.lst xs)))
def ahz(t:TA):TE:=λσ H Q=>t σ H (aed Q)
end
abbrev Sp:=Da V->Hp->VK->XK->Prop
abbrev AG:=Da Env->Hp->Shared->XK->Value->Shared->Prop
structure Di(P:Program)(w:World)(K:Fg)(mg:SO)(base:Heap)(A:Around)(outer:Da Env)(s:Shared)(H:Hp):Prop where
 frames:A.frames=some outer
 mod:Mod K mg base
 bs:∀b o,base.get? b=some o->s.heap.get? b=some o/\H b=none
 HX:base.objs.size<=s.heap.objs.size
 uG:s.heap.FunFrames base outer
 K7:∀b∈frs outer,H b=none
 hok:jA P w H s.heap
 bare:AllBare s.gens
def CE(outer:Da Env)(P:Program)(w:World)(H:Hp)(s:Shared)(Q:VK)(u:Value)(s':Shared):Prop:=∃v H',s'.os=s.os/\AllBare s'.gens/\Un (frs outer) [] H H' s.heap s'.heap/\jA P w H' s'.heap/\RelV v u/\Q v H'
def CR(CX:AG)(outer:Da Env)(P:Program)(w:World)(H:Hp)(s:Shared)(Q:VK)(E:XK)(r:Result)(s':Shared):Prop:=match r with
 | .ok (.ret u)=>CE outer P w H s Q u s'
 | .ok _=>False
 | .error e=>CX outer H s E e s'
structure kN(P:Program)(w:World)(K:Fg)(mg:SO)(base:Heap)(CX:AG)(k:Nat)(f:Addr)(fd:FuncData)(ps:Da Str)(sp:Sp):Prop where
 len:∀vs H Q E,sp vs H Q E->vs.length=ps.length
 run:∀(A:Around)(outer:Da Env)(s:Shared)(H:Hp)(args:Args)(us:Da Value)(vs:Da V)(Q:VK)(E:XK),fL k A->Di P w K mg base A outer s H->BindsTo s fd args (ps.zip us)->Vals vs us->sp vs H Q E->
  codeAny (model P w) A (.call (.ref f) args) (CR CX outer P w H s Q E) s
variable {mg:SO}{base:Heap}{CX:AG}{f:Addr}{fd:FuncData}{ps:Da Str}{sp:Sp}
def kN.imp{k:Nat}{Tc:Sp}(F:kN P w K mg base CX k f fd ps sp)(h:∀vs H Q E,Tc vs H Q E->sp vs H Q E):kN P w K mg base CX k f fd ps Tc:=
 ⟨λvs H Q E q=>F.len vs H Q E (h _ _ _ _ q),λA outer s H args us vs Q E hr he hb hv hs=>F.run A outer s H args us vs Q E hr he hb hv (h _ _ _ _ hs)⟩
def Di.make{A:Around}{outer:Da Env}(e:Di P w K mg base A outer s H)(C:Addr)(us:Da Value)(kw:Da (Str×Value)):Di P w K mg base (A.under (.builtin "type.__call__" ⟨.ref C::us,kw⟩)) outer s H:=⟨by first|exact e.frames|(simpa[Around.under,Code.envs,Code.isFrame,pushEnvs]using e.frames),e.mod,e.bs,e.HX,e.uG,e.K7,e.hok,e.bare⟩
section
variable {X:Cx}{AC:AO}{σ:St}{H:Hp}{s s':Shared}
def Inv.aa2(I:Inv X AC σ H s):Di X.prog X.w X.K X.mg X.base X.A X.stack s H:=⟨I.ok.frames,I.ok.mod,I.bs,fY I.ok.HX I.sz,I.stack,I.PU,I.hok,I.bare⟩
def Inv.after(I:Inv X AC σ H s)(h:CE X.stack X.prog X.w H s Q u s'):EP X AC σ Q u s':=by obtain⟨v,H',os,bare,un,hok,r,q⟩:=h;obtain⟨hh,g,d,t,os'⟩:=s';obtain rfl:os'=s.os:=os;exact⟨v,H',I.call (h':=hh) (g':=g) (d':=d) (t':=t) (ch:=[]) un hok bare (λb z=>absurd z (by simp)),r,q⟩
end
def aa3(sp:Sp)(jB:Da V)(E:XK)(Q:VK):Da V->Hp->Prop:=λvs H1=>sp (vs++jB) H1 Q E
def XM(sp:Sp)(jB:Da V)(E:XK)(t:TA):TE:=λσ H Q=>t σ H (aa3 sp jB E Q)
def V9(sp:Sp)(jB:Da V)(E:XK)(Q:VK)(x:V):Da V->Hp->Prop:=λvs H2=>sp (x::(vs++jB)) H2 Q E
inductive aa4(C:Addr)(m:Str)(sp:Sp)(jB:Da V)(E:XK)(t:TA)(σ:St)(Q:VK)(x:V)(H1:Hp):Prop
 |mk(a dx fs:_)(_:x =.ref a)(_:H1 a=some (.ins C dx fs))(_:fs.lookup m=none)(_:t σ H1 (V9 sp jB E Q x))
def KD(C:Addr)(m:Str)(sp:Sp)(jB:Da V)(E:XK)(ta:TE)(t:TA):TE:=λσ H Q=>ta σ H (aa4 C m sp jB E t σ Q)
def aa5(C:Addr)(sp:Sp)(jB:Da V)(E:XK)(Q:VK):Da V->Hp->Prop:=λvs H1=>∀x dx,H1 x=none->H1 dx=none->dx≠x->sp (.ref x::(vs++jB)) (upd (upd H1 dx (.own x)) x (.ins C dx [])) (λv H2=>v =.cy/\Q (.ref x) H2) E
def KG(C:Addr)(sp:Sp)(jB:Da V)(E:XK)(t:TA):TE:=λσ H Q=>t σ H (aa5 C sp jB E Q)
def Binds(K:Fg)(fd:FuncData)(ps:Da Str)(ds:Da Value):Prop:=∀(s:Shared)(us:Da Value),K.In s.heap->(us++ds).length=ps.length->BindsTo s fd ⟨us,[]⟩ (ps.zip (us++ds))
def Binds.all(h:∀us:Da Value,us.length=ps.length->bindArgs fd ⟨us,[]⟩=pure (ps.zip us)):Binds K fd ps [] :=λs us _ hl=>by rw[qF]at hl ⊢;exact .of_eq (h us hl)
def Passes(CX:AG)(X:Cx)(E:XK):Prop:=∀(AC:AO)(σ:St)(H:Hp)(s:Shared)(e:Value)(s':Shared),Inv X AC σ H s->CX X.stack H s E e s'->X.xe e s'
variable {vs:Da V}
section
variable {X:Cx}{CX:AG}{k:Nat}{f C:Addr}{fd:FuncData}{ps:Da Str}{sp:Sp}{jB:Da V}{ds:Da Value}{E:XK}{x m:Str}{p pos Bz:Pos}{e o:Expr}{es:Da Expr}{ta:TE}{t:TA}
def Le(F:kN X.prog X.w X.K X.mg X.base CX k f fd ps sp)(hr:fL k X.A)(hb:Binds X.K fd ps ds)(hd:Vals jB ds)(hx:Passes CX X E)(I:Inv X AC σ H s)(r:Vals vs us)(h:sp (vs++jB) H Q E):wpAny (model X.prog X.w) X.A (call (.ref f) us) (EP X AC σ Q) X.xe s:=by
 have r2:Vals (vs++jB) (us++ds):=r.append hd
 have hl:(us++ds).length=ps.length:=by rw[<-r2.length];exact F.len _ _ _ _ h
 refine wpAny_call (codeAny_mono (F.run X.A X.stack s H ⟨us,[]⟩ (us++ds) (vs++jB) Q E hr I.aa2 (hb s us I.k_ hl) r2 h) λr s' hq=>?_)
 cases r with
 | error e=>exact hx AC σ H s e s' I hq
 | ok fl=>
   cases fl with
   | ret u=>exact I.after hq
   | next=>exact False.elim hq
   | brk=>exact False.elim hq
   | cont=>exact False.elim hq
def Y0(F:kN X.prog X.w X.K X.mg X.base CX k f fd ps sp)(hr:fL k X.A)(hg:Gl X x)(hm:X.mg x=some (.ref f))(hk:PySem.W.keepIn X.K (.ref f)=true)(hb:Binds X.K fd ps ds)(hd:Vals jB ds)(hx:Passes CX X E)(ha:PA X (e::es) t)(hdb:(x==("__debug__":Str))=false:=by decide)(he:starEach (e::es) X.env=(false,eval e X.env)::starEach es X.env:=by rfl)(hpl:(backTo pos (starEach es X.env)).any (·.1)=false:=by rfl):
  PE X (.Call (.Name x p) (e::es) [] pos) (XM sp jB E t):=by
 intro AC s σ H Q I h
 refine KY (B7 I hg hm ?_ hdb)
 refine PySem.W.callWith_K (h₀:=X.base) I.ok.mod.SN hk (bP (ha pos AC s σ H _ I h) λus s1 ⟨vs,H1,I1,r,q⟩=>⟨I1.k_,?_⟩) he hpl
 exact Le F hr hb hd hx I1 r q
def Y3{pl:Sem Bool}(he:PE X o ta)(c:qK X.K C)(hm:Meth X.K C m f)(F:kN X.prog X.w X.K X.mg X.base CX k f fd ps sp)(hr:fL k X.A)(hb:Binds X.K fd ps ds)(hd:Vals jB ds)(hx:Passes CX X E)(ha:PA X (e::es) t)(hst:starEach (e::es) X.env=(false,eval e X.env)::starEach es X.env:=by rfl)(hpl:(backTo pos (starEach es X.env)).any (·.1)=false:=by rfl)(ht:eval (.Call (.Attribute o m Bz) (e::es) [] pos) X.env=(do
    let ov <-eval o X.env
    standAt Bz.atName
    let(f,first) <-holding [ov] (getMethod ov m pl)
    callWith pos f first (backTo pos (starEach (e::es) X.env)) (backToKw pos (keywordEach [] X.env))):=by rfl):
  PE X (.Call (.Attribute o m Bz) (e::es) [] pos) (KD C m sp jB E ta t):=by
 intro AC s σ H Q I h
 refine PySem.W.methodCall_KW (pl:=pl) (bP (he AC s σ H _ I h) λu s1 ⟨x,H1,I1,rx,a,dx,fs,ex,ea,l,q⟩=>?_) ht
 subst ex
 obtain rfl:u=Value.ref a:=rx
 refine Ek I1 ea c hm l ?_
 refine PySem.W.callWith_K (first:=[.ref a]) (h₀:=X.base) I.ok.mod.SN hm.kp (bP (ha pos AC s1 σ H1 _ I1 q) λus s2 ⟨vs,H2,I2,r,q2⟩=>⟨I2.k_,?_⟩) hst hpl
 exact Le (us:=.ref a::us) (vs:=.ref a::vs) F hr hb hd hx I2 (.cons rfl r) q2
def V_{pl:Sem Bool}(he:PE X o ta)(c:qK X.K C)(hm:Meth X.K C m f)(F:kN X.prog X.w X.K X.mg X.base CX k f fd ps sp)(hr:fL k X.A)(hb:Binds X.K fd ps ds)(hd:Vals jB ds)(hx:Passes CX X E)(ht:eval (.Call (.Attribute o m Bz) [] [] pos) X.env=(do
    let ov <-eval o X.env
    standAt Bz.atName
    let(f,first) <-holding [ov] (getMethod ov m pl)
    callWith pos f first (backTo pos (starEach [] X.env)) (backToKw pos (keywordEach [] X.env))):=by rfl):
  PE X (.Call (.Attribute o m Bz) [] [] pos) (KD C m sp jB E ta qL):=by
 intro AC s σ H Q I h
 refine PySem.W.methodCall_KW (pl:=pl) (bP (he AC s σ H _ I h) λu s1 ⟨x,H1,I1,rx,a,dx,fs,ex,ea,l,q⟩=>?_) ht
 subst ex
 obtain rfl:u=Value.ref a:=rx
 refine Ek I1 ea c hm l ?_
 exact PySem.W.callWith_K0 (first:=[.ref a]) I1.k_ hm.kp (Le (us:=[.ref a]) (vs:=[.ref a]) F hr hb hd hx I1 (.cons rfl .nil) q)
structure Mk(K:Fg)(C f:Addr):Prop where
 makes:PySem.W.makesIn K C=true
 init:PySem.W.findIn K (.ref C) "__init__"=some (some (.ref f))
 fn:PySem.W.isFn K (.ref f)=true
 kp:PySem.W.keepIn K (.ref C)=true
theorem Lf(M:Mk X.K C f)(F:kN X.prog X.w X.K X.mg X.base CX k f fd ps sp)(hr:fL (k+1) X.A)(hb:Binds X.K fd ps ds)(hd:Vals jB ds)(hx:Passes CX X E)(I:Inv X AC σ H s)(r:Vals vs us)(h:∀x dx,H x=none->H dx=none->dx≠x->sp (.ref x::(vs++jB)) (upd (upd H dx (.own x)) x (.ins C dx [])) (λv H2=>v =.cy/\Q (.ref x) H2) E):
  wpAny (model X.prog X.w) X.A (call (.ref C) us) (EP X AC σ Q) X.xe s:=by
 have hq:=h (s.heap.objs.size+1) s.heap.objs.size (I.hok.fresh (Nat.le_succ _)) (I.hok.fresh (aL _)) (gr (Nat.lt_succ_self _))
 have I2:=Inv.made (C:=C) I
 have r2:Vals (V.ref (s.heap.objs.size+1)::(vs++jB)) (Value.ref (s.heap.objs.size+1)::(us++ds)):=.cons rfl (r.append hd)
 have hl:(Value.ref (s.heap.objs.size+1)::us++ds).length=ps.length:=by have e:=r2.length;rw[F.len _ _ _ _ hq]at e;exact e.symm
 refine wpAny_call (V6 (f:=f) I.k_ M.makes M.init (vh.mp M.fn) (codeAny_mono (F.run _ X.stack _ _ ⟨Value.ref (s.heap.objs.size+1)::us,[]⟩ (Value.ref (s.heap.objs.size+1)::(us++ds)) _ _ E (hr.make C us [])
  (I2.aa2.make C us []) (hb _ (Value.ref (s.heap.objs.size+1)::us) I2.k_ hl) r2 hq) λr s' hq'=>?_))
 cases r with
 | error e=>exact hx AC σ _ _ e s' I2 hq'
 | ok fl=>
   cases fl with
   | ret u=>
     obtain⟨v,H',I3,rv,ev,q3⟩:=I2.after hq'
     subst ev
     exact⟨rv,⟨V.ref (s.heap.objs.size+1),H',I3,Z,q3⟩⟩
   | next=>exact False.elim hq'
   | brk=>exact False.elim hq'
   | cont=>exact False.elim hq'
def Y4(M:Mk X.K C f)(F:kN X.prog X.w X.K X.mg X.base CX k f fd ps sp)(hr:fL (k+1) X.A)(hg:Gl X x)(hm:X.mg x=some (.ref C))(hb:Binds X.K fd ps ds)(hd:Vals jB ds)(hx:Passes CX X E)(ha:PA X (e::es) t)(hdb:(x==("__debug__":Str))=false:=by decide)(he:starEach (e::es) X.env=(false,eval e X.env)::starEach es X.env:=by rfl)(hpl:(backTo pos (starEach es X.env)).any (·.1)=false:=by rfl):
  PE X (.Call (.Name x p) (e::es) [] pos) (KG C sp jB E t):=by
 intro AC s σ H Q I h
 refine KY (B7 I hg hm ?_ hdb)
 refine PySem.W.callWith_K (h₀:=X.base) I.ok.mod.SN M.kp (bP (ha pos AC s σ H _ I h) λus s1 ⟨vs,H1,I1,r,q⟩=>⟨I1.k_,?_⟩) he hpl
 exact Lf M F hr hb hd hx I1 r q
def Wa(M:Mk X.K C f)(F:kN X.prog X.w X.K X.mg X.base CX k f fd ps sp)(hr:fL (k+1) X.A)(hg:Gl X x)(hm:X.mg x=some (.ref C))(hb:Binds X.K fd ps ds)(hd:Vals jB ds)(hx:Passes CX X E)(hdb:(x==("__debug__":Str))=false:=by decide):PE X (.Call (.Name x p) [] [] pos) (KG C sp jB E qL):=by
 intro AC s σ H Q I h
 refine KY (B7 I hg hm ?_ hdb)
 exact PySem.W.callWith_K0 I.k_ M.kp (Lf (us:=[]) M F hr hb hd hx I .nil h)
end
section
variable {X:Cx}{CX:AG}{k:Nat}{f C:Addr}{fd:FuncData}{ps ks:Da Str}{sp:Sp}{E:XK}{x m:Str}{p pos Bz kpos:Pos}{e o:Expr}{es:Da Expr}{kws:Da Keyword}{te ta:TE}{t tk:TA}{nm:Option Str}
variable {g:Da Value->Da Value->Da Value}{gV:Da V->Da V->Da V}
end
structure aQ(N P:Da Str)(sc:Scope):Prop where
 kind:sc.kind =.function
 co:sc.isCoroutine=false
 gen:sc.isGenerator=false
 nd:N.Nodup
 pre:N.take P.length=P
 par:∀x∈P,sc.names.lookup x=some .local\/sc.names.lookup x=some .cell
 aa6:∀y∈sc.names,y.2 ≠ .free
theorem HZ{kindOf:Str->Option NameKind}{x:Str}:∀{binds:Da (Str×Value)}{m:SO},(∀v,(x,v)∉binds)->bindL kindOf binds m x=m x
 | [],_,_=>rfl
 | (n,v)::r,m,h=>by
  unfold bindL;rw[HZ λw hw=>h w (cQ _ hw)];split
  .have:x≠n:=by rintro rfl;exact h v cM
   simp[this]
  .rfl
theorem H_{kindOf:Str->Option NameKind}{x:Str}:∀{binds:Da (Str×Value)}{m:SO},(∀v,(x,v)∉binds)->bindC kindOf binds m x=m x
 | [],_,_=>rfl
 | (n,v)::r,m,h=>by
  unfold bindC;rw[H_ λw hw=>h w (cQ _ hw)];split
  .rfl
  .have:x≠n:=by rintro rfl;exact h v cM
   simp[this]
theorem Ia{kindOf:Str->Option NameKind}{x:Str}{v:Value}:∀{P:Da Str}{vs:Da Value}{i:Nat}{m:SO},P.Nodup->P[i]?=some x->vs[i]?=some v->kindOf x=some .local->bindL kindOf (P.zip vs) m x=some v
 | [],_,_,_,_,h,_,_=>by simp at h
 | _::_,[],_,_,_,_,h,_=>by simp at h
 | p::P,w::vs,0,m,nd,h1,h2,hk=>by simp at h1 h2;subst h1;subst h2;show bindL kindOf ((p,w)::P.zip vs) m p=_;unfold bindL;rw[HZ λv hv=>(g_.mp nd).1 (List.of_mem_zip hv).1,ay hk];simp
 | p::P,w::vs,i+1,m,nd,h1,h2,hk=>by show bindL kindOf ((p,w)::P.zip vs) m x=_;unfold bindL;exact Ia (i:=i) (g_.mp nd).2 (by simpa using h1) (by simpa using h2) hk
theorem Ib{kindOf:Str->Option NameKind}{x:Str}{v:Value}:∀{P:Da Str}{vs:Da Value}{i:Nat}{m:SO},P.Nodup->P[i]?=some x->vs[i]?=some v->kindOf x≠some .local->bindC kindOf (P.zip vs) m x=some v
 | [],_,_,_,_,h,_,_=>by simp at h
 | _::_,[],_,_,_,_,h,_=>by simp at h
 | p::P,w::vs,0,m,nd,h1,h2,hk=>by simp at h1 h2;subst h1;subst h2;show bindC kindOf ((p,w)::P.zip vs) m p=_;unfold bindC;rw[H_ λv hv=>(g_.mp nd).1 (List.of_mem_zip hv).1,av hk];simp
 | p::P,w::vs,i+1,m,nd,h1,h2,hk=>by show bindC kindOf ((p,w)::P.zip vs) m x=_;unfold bindC;exact Ib (i:=i) (g_.mp nd).2 (by simpa using h1) (by simpa using h2) hk
def start(N:Da Str)(vs:Da V):St:=vs.map some++List.replicate (N.length-vs.length) none
def uI(CX:AG)(P:Program)(w:World)(K:Fg)(mg:SO)(base:Heap)(N:Da Str)(qual:Str)(scope:Scope)(f:Addr)(cd:Value)(A:Around)(outer:Da Env)(s:Shared)(H:Hp)(E:XK):Cx where
 prog:=P
 w:=w
 K:=K
 mg:=mg
 base:=base
 A:=A.deeper (envOfC qual scope s.heap.objs.size f cd)
 N:=N
 s₀:=s
 H₀:=H
 env:=envOfC qual scope s.heap.objs.size f cd
 outer:=outer
 stack:=envOfC qual scope s.heap.objs.size f cd::outer
 ex:=[]
 calm:=true
 fn:=λ_=>true
 pn:=[]
 xe:=λe s'=>wpAny (model P w) (A.deeper (envOfC qual scope s.heap.objs.size f cd)) (leaving (envOfC qual scope s.heap.objs.size f cd) e) (λ_ s''=>CX outer H s E e s'') (λe' s''=>CX outer H s E e' s'') s'
def Lg{sc:Scope}(h:sc.names.lookup x=some .cell):∃c,(cellsFrom n sc.names []).lookup x=some c:=by have q:=PySem.W.cellsFrom_some sc.names n [] (.inl h);exact Option.isSome_iff_exists.mp q
variable {qual:Str}{scope:Scope}
theorem Td{cd:Value}{A:Around}{outer:Da Env}{s1:Shared}{E:XK}(S:aQ N ps scope)(hd:A.handled=none)(e0:Di P w K mg base A outer s H)(hl:vs.length=ps.length)(r:Vals vs us)(x:InCallC s s.heap.objs.size (bindL (envOfC qual scope s.heap.objs.size f cd).kindOf (ps.zip us) λ_=>none) (cellsFrom (s.heap.objs.size+1) scope.names []) (bindC (envOfC qual scope s.heap.objs.size f cd).kindOf (ps.zip us) λ_=>none) s1):
  Inv (uI CX P w K mg base N qual scope f cd A outer s H E) [] (start N vs) H s1:=by
 have hpl:ps.length<=N.length:=by have:=ig List.length S.pre;rw[uE]at this;omega
 obtain⟨h1,tk,rfl,hk⟩:=x.done
 have Te:∀b:Addr,b∉(uI CX P w K mg base N qual scope f cd A outer s H E).ex:=λb z=>absurd (show b∈([] :Da Addr)from z) (by simp)
 refine⟨⟨e0.mod,S.kind,Z,Z,aL _,λy z c h1 h2=>?_,λy hy=>?_,λy c _ h=>?_,λ_=>hd,Around.frames_deeper e0.frames,.inr ⟨Z,Z⟩,λb z=>absurd z (Te b),e0.bs,e0.HX,λb _ _=>Te b,λb z=>absurd z (Te b),e0.uG,e0.K7⟩,
  rfl,e0.bare,Un.kept hk,⟨_,x.toInCall.ns,λi y v h1 h2 h3=>?_⟩,λy c h=>⟨_,x.cell y c h⟩,e0.hok.fresh (aL _),λy c h=>?_,λp hp=>absurd (show p∈([] :AO)from hp) (by simp),e0.hok.kept hk,?_⟩
 . exact name_of_addr x.apart (zf h1) (zf h2)
 . have hy:scope.names.lookup y=some .cell\/scope.names.lookup y=some .free:=hy
   rcases hy with hy|hy
   . exact Lg hy
   . exact absurd rfl (S.aa6 _ (zf hy))
 . exact BX (x.above y c (zf h))
 . have hi:i<vs.length:=by
    unfold start at h2
    by_cases hi:i<vs.length
    . exact hi
    . rw[CH (by simpa using hi)]at h2
      rw[Ri]at h2
      split at h2 <;> cases h2
   have ha:vs[i]?=some v:=by
    unfold start at h2;rw[C8 (by simpa using hi),bV]at h2;cases e:vs[i]? with
    | none=>rw[e]at h2;cases h2
    | some a=>rw[e]at h2;cases h2;rfl
   obtain⟨u,hu,rv⟩:=r.get ha
   have hp:ps[i]?=some y:=by rw[<-S.pre,List.getElem?_take_of_lt (by omega)];exact h1
   have ndP:ps.Nodup:=by rw[<-S.pre];exact S.nd.sublist (List.take_sublist _ _)
   refine⟨u,rv,?_⟩
   rcases S.par y (bg hp)with k|k
   . exact .inl ⟨k,Ia ndP hp hu k⟩
   . obtain⟨c,e⟩:=Lg (n:=s.heap.objs.size+1) k
     refine .inr ⟨.inl k,c,e,?_⟩
     have q:=x.cell y c e
     rw[Ib ndP hp hu (by show scope.names.lookup y≠_;rw[k];decide)]at q
     exact q
 . exact e0.hok.fresh (BX (x.above y c (zf h)))
 . unfold start
   show _=N.length
   rw[cW,aE,jd]
   omega
variable {body:Da Stmt}{doc pm cdv ct oc:Value}{an od:Option Addr}
theorem aee{k:Nat}{name:Str}{params:Arguments}{dV kV:Value}{osl:Array (Option Value)}{N ps:Da Str}{sp:Sp}(lk:K.lookup f=some ⟨oc,od,.func (PySem.W.fnOf name qual params body scope dV kV doc pm an cdv ct),osl⟩)(hcd:PySem.W.codeIn K cdv qual=true)(S:aQ N ps scope)(len:∀vs H Q E,sp vs H Q E->vs.length=ps.length)(Ch:∀(A:Around) (outer:Da Env) (s:Shared) (H:Hp) (vs:Da V) (Q:VK) (E:XK),fL k (A.deeper (envOfC qual scope s.heap.objs.size f cdv))->sp vs H Q E->
    ∃t,xM (uI CX P w K mg base N qual scope f cdv A outer s H E) body t/\t { nx:=λ_ H'=>Q .cy H',rt:=Q } (start N vs) H):
  kN P w K mg base CX (k+1) f (PySem.W.fnOf name qual params body scope dV kV doc pm an cdv ct) ps sp:=by
 refine⟨len,λA outer s H args us vs Q E hr e0 hb r vJ=>?_⟩
 have hl:=len _ _ _ _ vJ
 have KX:K.In s.heap:=e0.mod.SN.keeps λb o e=>(e0.bs b o e).1
 have lim:s.heap.NoLimit:=e0.mod.nolimit.keeps λb o e=>(e0.bs b o e).1
 have hkind:∀y∈ps.zip us,scope.names.lookup y.1=some .local\/(scope.names.lookup y.1=some .cell/\((cellsFrom (s.heap.objs.size+1) scope.names []).lookup y.1).isSome=true):=λ⟨n,v⟩ hy=>by
  rcases S.par n (List.of_mem_zip hy).1 with q|q
  .exact .inl q
  .exact .inr ⟨q,PySem.W.cellsFrom_some _ _ _ (.inl q)⟩
 refine codeAny_call_function hr.depth (KX _ _ lk) rfl S.co S.gen rfl (PySem.W.codeRec_of KX hcd) (hb _ _ _ _ ?_)
 refine wpAny_newFunctionEnv_cells S.kind hkind λenv he s1 x=>?_
 subst he
 refine⟨lim.keeps x.toInCall.keep,codeAny_func ?_⟩
 obtain⟨t,ht,hq⟩:=Ch A outer s H vs Q E (hr.deeper _) vJ
 have I:Inv (uI CX P w K mg base N qual scope f cdv A outer s H E) [] (start N vs) H s1:=Td S hr.hd e0 hl r x
 refine jX (ht [] s1 (start N vs) H _ I hq) (λfl s' hs=>?_) λe s' hs=>hs
 have fin:∀{σ':St}{H':Hp}{v:V}{u:Value},Inv (uI CX P w K mg base N qual scope f cdv A outer s H E) [] σ' H' s'->RelV v u->Q v H'->CE outer P w H s Q u s':=
  λ{σ' H' v u} J rv q=>⟨v,H',J.os,J.bare,J.base,J.hok,rv,q⟩
 cases fl with
 | ret u=>
   obtain⟨v,σ',H',J,rv,q⟩:=hs
   exact fin J rv q
 | next=>
   obtain⟨σ',H',J,q⟩:=hs
   exact fin (v:=V.cy) (u:=Value.none) J rfl q
 | brk=>
   obtain⟨_,_,_,q⟩:=hs
   exact False.elim q
 | cont=>
   obtain⟨_,_,_,q⟩:=hs
   exact False.elim q
section
variable {X:Cx}{x:Str}{p pos:Pos}{e:Expr}{es:Da Expr}{t:TA}{id T:String}{r:Da V->Hp->VK->Prop}
def ahA(r:Da V->Hp->VK->Prop)(Q:VK):Da V->Hp->Prop:=λvs H1=>r vs H1 Q
def XO(r:Da V->Hp->VK->Prop)(t:TA):TE:=λσ H Q=>t σ H (ahA r Q)
end
end L2
namespace HT
open PySem PyProof.Rows
section
open PySem.SeqAt
open PySem.AutoSeq1 (wpAny_loadPart')
open PySem.MeetsSeq PySem.MeetsSeq2 PySem.MeetsSeq3
end
section
variable {prog:Program}{w:World}{A:Around}{E:VS}{s:Shared}
end
end HT
namespace L2
open PySem PySem.Spec PyProof.Rows
variable {ns:Da Int}
def intsAre_of:∀{us:Da Value},Vals (ns.map V.int) us->IntsAre us ns:=by
 induction ns with
 | nil=>intro us r;rw[List.map_nil]at r;cases r;exact .nil
 | cons n ns ih=>
  intro us r;rw[bK]at r;cases r with
  | cons r1 r2=>obtain⟨t,e⟩:=r1;subst e;exact .cons n t (ih r2)
section
variable {X:Cx}{e:Expr}{te:TE}{lo hi:Option Expr}{tl th:TO}{pos p2:Pos}
end
def Em(n:Nat)(i:Int):Option Nat:=if 0<=i then(if i<n then some i.toNat else none) else if -(n:Int)<=i then some (i+n).toNat else none
def lP{α:Type}(xs:Da α)(i:Int):Option α:=(Em xs.length i).bind λj=>xs[j]?
variable {n j:Nat}
theorem Qc{i:Int}(h:Em n i=some j):seqIndex? i n=some j/\j<n/\-(n:Int)<=i/\i<n:=by
 unfold Em at h;by_cases h0:0<=i
 .rw [ay h0]at h;by_cases h1:i<n
  .rw [ay h1]at h;have e:i.toNat=j:=gP h;exact⟨by rw[seqIndex_of h0 h1,e],by omega,by omega,h1⟩
  .rw [av h1]at h;cases h
 .rw [av h0]at h;by_cases h1:-(n:Int)<=i
  .rw [ay h1]at h;have e:(i+n).toNat=j:=gP h;exact⟨by rw[seqIndex_neg (by omega) h1,e],by omega,h1,by omega⟩
  .rw [av h1]at h;cases h
def B_{α:Type}{xs:Da α}{i:Int}{v:α}(h:lP xs i=some v):∃j,seqIndex? i xs.length=some j/\xs[j]?=some v/\j<xs.length/\-(xs.length:Int)<=i/\i<xs.length:=by
 unfold lP at h;cases e:Em xs.length i with
 | none=>rw[e]at h;cases h
 | some j=>rw[e]at h;obtain⟨h1,h2,h3,h4⟩:=Qc e;exact⟨j,h1,h,h2,h3,h4⟩
theorem aC{α:Type}{xs:Da α}{v:α}(h:xs[j]?=some v):lP xs (j:Int)=some v:=by
 have hj:j<xs.length:=(dM.mp h).1;have e:Em xs.length (j:Int)=some j:=by unfold Em;rw[ay (by omega),ay (by omega)];simp
 unfold lP;rw[e];exact h
def Y5(b:Expr):Prop:=∀o i,subscripted b false o i=operate [o,i] (getItem o i)
def An(X:Cx)(r:R2):Prop:=∀(value slice:Expr)(AC:AO)(s:Shared)(σ:St)(H:Hp)(x y:V)(v u:Value)(Q:VK),Inv X AC σ H s->RelV x v->RelV y u->r x y H Q->subscripted slice false v u=operate [v,u] (getItem v u)->wpAny (model X.prog X.w) X.A (subscriptTail value slice v u) (EP X AC σ Q) X.xe s
def MtR(X:Cx)(id:String)(r:V->Da V->Hp->VK->Prop):Prop:=∀(AC:AO)(s:Shared)(σ:St)(H:Hp)(x:V)(xs:Da V)(v:Value)(us:Da Value)(Q:VK),Inv X AC σ H s->RelV x v->Vals xs us->r x xs H Q->wpAny (model X.prog X.w) X.A (call (.builtin id) (v::us)) (EP X AC σ Q) X.xe s
variable {AC:AO}{σ:St}{H:Hp}{s:Shared}{xs:Da V}{BT its':Da Value}{y:V}{u:Value}
section
variable {X:Cx}{a b:Expr}{ta tb:TE}{pos:Pos}
def An.or{r r':R2}(h:An X r)(h':An X r'):An X (λx y H Q=>r x y H Q\/r' x y H Q):=by
 intro value slice AC s σ H x y v u Q I rx ry q hs;rcases q with q|q
 .exact h value slice AC s σ H x y v u Q I rx ry q hs
 .exact h' value slice AC s σ H x y v u Q I rx ry q hs
inductive RJ(K:Fg)(x:V)(y:V)(H:Hp)(Q:VK):Prop
 |mk(p xs i v:_)(_:x =.ref p)(_:y =.int i)(_:aB K H p xs)(_:lP xs i=some v)(_:Q v H)
inductive Lh(K:Fg)(x:V)(y:V)(H:Hp)(Q:VK):Prop
 |mk(p xs i v:_)(_:x =.ref p)(_:y =.int i)(_:dU K H p xs)(_:lP xs i=some v)(_:Q v H)
inductive aa7(x:V)(y:V)(H:Hp)(Q:VK):Prop
 |mk(z i c:_)(_:x =.str z)(_:y =.int i)(_:z.length<=sizeLine)(_:lP z.cps.toList i=some c)(_:Q (.str ⟨#[c]⟩) H)
theorem Qd:An X (RJ X.K):=by
 intro value slice AC s σ H x y v u Q I rx ry h hs;obtain⟨p,xs,i,z,rfl,rfl,hq,he,q⟩:=h;cases rx;obtain⟨t,rfl⟩:=ry;obtain⟨BT,r,pl,hz⟩:=I.list hq;obtain⟨j,h1,h2,h3,h4,h5⟩:=B_ he;obtain⟨w,ew,rw'⟩:=r.get h2;have hl:=r.length;have hn:=vI;have fin:EP X AC σ Q w s:=⟨z,H,I,rw',q⟩
 by_cases h0:0<=i
 .have hj:i.toNat=j:=by rw[seqIndex_of h0 h5]at h1;exact gP h1
  exact item_listR pl.isList h0 (by omega) (by rw[hj];simpa using ew) fin hs
 .have hj:(i+(BT.toArray.size:Int)).toNat=j:=by rw[seqIndex_neg (by omega) h4]at h1;rw[je,<-hl];exact gP h1
  exact subscriptTail_builtinR (x:=w) pl.isList.typeIs slot_list_getitem.lookup
   (wpAny_getItem_list_neg (Q:=λr s'=>r=w/\EP X AC σ Q r s') pl.isList (by omega) (by rw[je] <;> omega) (by omega) (by rw[hj];simpa using ew) ⟨Z,fin⟩) hs
theorem Tf:An X (Lh X.K):=by
 intro value slice AC s σ H x y v u Q I rx ry h hs;obtain⟨p,xs,i,z,rfl,rfl,hq,he,q⟩:=h;cases rx;obtain⟨t,rfl⟩:=ry;obtain⟨BT,r,pl,hz⟩:=I.tuple hq;obtain⟨j,h1,h2,h3,h4,h5⟩:=B_ he;obtain⟨w,ew,rw'⟩:=r.get h2;have hl:=r.length;have hn:=vI;have fin:EP X AC σ Q w s:=⟨z,H,I,rw',q⟩
 exact subscriptTail_builtinR (x:=w) pl.typeIs slot_tuple_getitem.lookup
  (getItem_tuple (j:=j) (Q:=λr s'=>r=w/\EP X AC σ Q r s') pl (by omega) (by omega) (by rw[je,<-hl];exact h1) (by simpa using ew) ⟨Z,fin⟩) hs
theorem Tg:An X aa7:=by
 intro value slice AC s σ H x y v u Q I rx ry h hs;obtain⟨z,i,c,rfl,rfl,hz,he,q⟩:=h;obtain⟨t,rfl⟩:=rx;obtain⟨t',rfl⟩:=ry;obtain⟨j,h1,h2,h3,h4,h5⟩:=B_ he;have hl:z.cps.toList.length=z.length:=by simp[Str.length]
 rw[hl]at h1 h4 h5;have hn:=vI;exact tail_any (typeIs_str s z t) slot_str_getitem.lookup (getItem_str (c:=c) (by have e1:decide (i < -(2 ^ 63:Int))=false:=c9 (by omega);have e2:decide (i≥2 ^ 63)=false:=c9 (by omega);rw[e1,e2,Bool.or_false]) (by rw[h1];simpa using h2) ⟨.str ⟨#[c]⟩,H,I.tok _,⟨_,Z⟩,q⟩) hs
def rIx(K:Fg):R2:=λx y H Q=>RJ K x y H Q\/Lh K x y H Q\/aa7 x y H Q
def aa9:An X (rIx X.K):=Qd.or (Tf.or Tg)
def RK(BT:Da Value)(n j:Nat)(u:Value):Obj.mapSeq (·.setIfInBounds j u) { cls:=.type "list",data:=.seq BT.toArray n }={ cls:=.type "list",data:=.seq (BT.set j u).toArray n }:=by simp[Obj.mapSeq]
theorem Inv.lst{AC:AO}{σ:St}{H:Hp}{s:Shared}{p:Addr}{xs:Da V}(I:Inv X AC σ H s)(h:H p=some (.lst xs)):∃(BT:Da Value)(n:Nat),Vals xs BT/\s.heap.get? p=some { cls:=.type "list",data:=.seq BT.toArray n }/\xs.length<=sizeLine:=by obtain⟨z,BT,n,r,e⟩:=I.hok p _ h;exact⟨BT,n,r,e,z⟩
def Inv.aa_{p:Addr}{ys:Da V}{n':Nat}{f:Obj->Obj}(I:Inv X AC σ H s)(h:H p=some (.lst xs))(ho:s.heap.get? p=some { cls:=.type "list",data:=.seq BT.toArray n })(hf:f { cls:=.type "list",data:=.seq BT.toArray n }={ cls:=.type "list",data:=.seq its'.toArray n' })(r:Vals ys its')(hz:ys.length<=sizeLine)(t:Nat):
  Inv X AC σ (upd H p (.lst ys)) { s with heap:=s.heap.update p f,toks:=t }:=by
 have e:(s.heap.update p f).get? p=some { cls:=.type "list",data:=.seq its'.toArray n' }:=by rw[Rl f ho (by rw[hf] <;> rfl),hf]
 refine I.write (x:=p) (e:=p) (by rw[h];trivial) (.inl rfl) (λb u hb q=>(Heap.get?_update_other _ _ (cJ hb)).trans q) ⟨_,e⟩ ?_
 exact⟨hz,its',n',r,e⟩
inductive aef(o:V)(i:V)(v:V)(H:Hp)(Q:Hp->Prop):Prop
 |mk(p xs k j:_)(_:o =.ref p)(_:i =.int k)(_:H p=some (.lst xs))(_:Em xs.length k=some j)(_:Q (upd H p (.lst (xs.set j v))))
theorem set_list:VT X aef:=by
 intro AC s σ H o i v ov iv u Q I ro ri rv h;obtain⟨p,xs,k,j,rfl,rfl,hp,hj,q⟩:=h;cases ro;obtain⟨t,rfl⟩:=ri;obtain⟨BT,n,r,ho,hz⟩:=I.lst hp;obtain⟨h1,h2,h3,h4⟩:=Qc hj;have hl:=r.length;have hn:=vI;have I':Inv X AC σ (upd H p (.lst (xs.set j v))) { s with heap:=s.heap.update p (Obj.mapSeq (·.setIfInBounds j u)) }:=
  I.aa_ hp ho (RK BT n j u) (r.set rv j) (by rw[fH];exact hz) s.toks
 by_cases h0:0<=k
 .have hk:k.toNat=j:=by rw[seqIndex_of h0 h4]at h1;exact gP h1
  exact PySem.W.ki_setAt ho h0 (by omega) (by rw[je,<-hl];exact h4) (by rw[hk];exact⟨_,I',q⟩)
 .have hk:(k+(BT.toArray.size:Int)).toNat=j:=by rw[seqIndex_neg (by omega) h3]at h1;rw[je,<-hl];exact gP h1
  exact PySem.W.ki_setBack ho (by omega) (by rw[je,<-hl];exact h3) (by omega) (by rw[hk];exact⟨_,I',q⟩)
def tS:V->Bool
 | .cy=>true
 | .bl _=>true
 | .int _=>true
 | .str _=>true
 | _=>false
def Ao:V->V->Bool
 | .cy,.cy=>true
 | .bl a,.bl b=>a==b
 | .bl a,.int b=>(if a then 1 else 0)==b
 | .int a,.bl b=>a==(if b then 1 else 0)
 | .int a,.int b=>a==b
 | .str a,.str b=>a==b
 | _,_=>false
def aba{A:Around}{x:V}{v:Value}(ry:RelV y u)(rx:RelV x v)(fy:tS y=true)(fx:tS x=true):SeqAt.EqAt A s u v (Ao y x):=by
 cases y with
 | cy=>
  cases ry;cases x with
  | cy=>cases rx;exact SeqAt.EqAt.same _
  | bl b=>cases rx;exact SeqAt.EqAt.none_bool b
  | int b=>obtain⟨t,rfl⟩:=rx;exact SeqAt.EqAt.none_int b t
  | str b=>obtain⟨t,rfl⟩:=rx;exact SeqAt.EqAt.none_str b t
  | _=>exact absurd (show false=true from fx) gH
 | bl a=>
  cases ry;cases x with
  | cy=>cases rx;exact SeqAt.EqAt.bool_none a
  | bl b=>cases rx;exact SeqAt.EqAt.bool_bool a b
  | int b=>obtain⟨t,rfl⟩:=rx;exact SeqAt.EqAt.bool_int a b t
  | str b=>obtain⟨t,rfl⟩:=rx;exact SeqAt.EqAt.bool_str a b t
  | _=>exact absurd (show false=true from fx) gH
 | int a=>
  obtain⟨t',rfl⟩:=ry;cases x with
  | cy=>cases rx;exact SeqAt.EqAt.int_none a t'
  | bl b=>cases rx;exact SeqAt.EqAt.int_bool a t' b
  | int b=>obtain⟨t,rfl⟩:=rx;exact SeqAt.EqAt.int_int a t' b t
  | str b=>obtain⟨t,rfl⟩:=rx;exact SeqAt.EqAt.int_str a t' b t
  | _=>exact absurd (show false=true from fx) gH
 | str a=>
  obtain⟨t',rfl⟩:=ry;cases x with
  | cy=>cases rx;exact SeqAt.EqAt.str_none a t'
  | bl b=>cases rx;exact SeqAt.EqAt.str_bool a t' b
  | int b=>obtain⟨t,rfl⟩:=rx;exact SeqAt.EqAt.str_int a t' b t
  | str b=>obtain⟨t,rfl⟩:=rx;exact SeqAt.EqAt.str_str a t' b t
  | _=>exact absurd (show false=true from fx) gH
 | _=>exact absurd (show false=true from fy) gH
def vK(x:V)(u:Value):Bool:=match u with
 | .none=>Ao .cy x
 | .bool b=>Ao (.bl b) x
 | .int i _=>Ao (.int i) x
 | .str z _=>Ao (.str z) x
 | _=>false
def Th{x:V}(r:RelV y u)(f:tS y=true):vK x u=Ao y x:=by
 cases y with
 | cy=>cases r;rfl
 | bl b=>cases r;rfl
 | int i=>obtain⟨t,rfl⟩:=r;rfl
 | str z=>obtain⟨t,rfl⟩:=r;rfl
 | _=>exact absurd (show false=true from f) gH
theorem yF{x:V}:∀{xs:Da V}{us:Da Value},Vals xs us->xs.all tS=true->us.any (vK x)=xs.any λy=>Ao y x
 | _,_,.nil,_=>rfl
 | y::xs,u::us,.cons r t,f=>by rw[List.all_cons,Bool.and_eq_true]at f;rw[D8,D8,Th r f.1,yF t f.2]
theorem vL{A:Around}{s:Shared}{x:V}{v:Value}(rx:RelV x v)(fx:tS x=true):∀{xs:Da V}{us:Da Value},Vals xs us->xs.all tS=true->∀u∈us,SeqAt.EqAt A s u v (vK x u)
 | _,_,.nil,_=>λu hu=>by cases hu
 | y::xs,u::us,.cons r t,f=>λu' hu=>by
  rw[List.all_cons,Bool.and_eq_true]at f;rcases fm.mp hu with rfl|hu
  .rw [Th r f.1];exact aba r rx f.1 fx
  .exact vL rx fx t f.2 u' hu
def Ic(x:V)(xs:Da V):Bool:=xs.any λy=>Ao y x
inductive rIn(K:Fg)(neg:Bool)(x:V)(y:V)(H:Hp)(Q:VK):Prop
 |mk(p xs:_)(_:y =.ref p)(_:(aB K H p xs\/dU K H p xs))(_:tS x=true)(_:xs.all tS=true)(_:Q (.bl (if neg then !Ic x xs else Ic x xs)) H)
def Ti:jZ X (compareOp .In) (rIn X.K false):=by
 intro AC s σ H x y v u Q I rx ry h;obtain⟨p,xs,rfl,hq,fx,fs,q⟩:=h;cases ry;rcases hq with hq|hq
 .obtain ⟨BT,r,pl,hz⟩:=I.list hq;refine SeqAt.in_listAt (vK x) pl.isList (λw hw=>vL rx fx r fs w (by simpa using hw)) ⟨.bl _,H,I,Z,?_⟩;rw[show BT.toArray.any (vK x)=BT.any (vK x) by simp,yF r fs];exact q
 .obtain ⟨BT,r,pl,hz⟩:=I.tuple hq;refine SeqAt.in_tupleAt (vK x) pl (λw hw=>vL rx fx r fs w (by simpa using hw)) ⟨.bl _,H,I,Z,?_⟩;rw[show BT.toArray.any (vK x)=BT.any (vK x) by simp,yF r fs];exact q
def Li:jZ X (compareOp .NotIn) (rIn X.K true):=by
 intro AC s σ H x y v u Q I rx ry h;obtain⟨p,xs,rfl,hq,fx,fs,q⟩:=h;cases ry;rcases hq with hq|hq
 .obtain ⟨BT,r,pl,hz⟩:=I.list hq;refine SeqAt.notIn_listAt (vK x) pl.isList (λw hw=>vL rx fx r fs w (by simpa using hw)) ⟨.bl _,H,I,Z,?_⟩;rw[show BT.toArray.any (vK x)=BT.any (vK x) by simp,yF r fs];exact q
 .obtain ⟨BT,r,pl,hz⟩:=I.tuple hq;refine SeqAt.notIn_tupleAt (vK x) pl (λw hw=>vL rx fx r fs w (by simpa using hw)) ⟨.bl _,H,I,Z,?_⟩;rw[show BT.toArray.any (vK x)=BT.any (vK x) by simp,yF r fs];exact q
theorem Lj:iS X (.builtin "len") (λxs H Q=>∃p ys,xs=[.ref p]/\(aB X.K H p ys\/dU X.K H p ys)/\Q (.int ys.length) H):=by
 intro AC s σ H xs us Q I r h;obtain⟨p,ys,rfl,hq,q⟩:=h;obtain⟨u,rfl,rx⟩:=vals1 r;cases rx;have hn:=vI;rcases hq with hq|hq
 .obtain ⟨BT,r',pl,hz⟩:=I.list hq;have hlen:=r'.length;exact Calls.call_len_list pl.isList (by simp only[je] <;> omega) ⟨.int ys.length,H,I.tok _,⟨s.toks+1,by rw[je,hlen]⟩,q⟩
 .obtain ⟨BT,r',pl,hz⟩:=I.tuple hq;have hlen:=r'.length;exact len_tuple pl (by simp only[je] <;> omega) ⟨.int ys.length,H,I.tok _,⟨s.toks+1,by rw[je,hlen]⟩,q⟩
theorem Lk:iS X (.builtin "len") (λxs H Q=>∃z,xs=[.str z]/\z.length<=sizeLine/\Q (.int z.length) H):=by intro AC s σ H xs us Q I r h;obtain⟨z,rfl,hz,q⟩:=h;obtain⟨u,rfl,t,rfl⟩:=vals1 r;have hn:=vI;exact len_str (by omega) ⟨.int z.length,H,I.tok _,⟨_,Z⟩,q⟩
theorem Ll:iS X (.type "list") (λxs H Q=>∃p ys,xs=[.ref p]/\(aB X.K H p ys\/dU X.K H p ys)/\∀l,H l=none->Q (.ref l) (upd H l (.lst ys))):=by
 intro AC s σ H xs us Q I r h;obtain⟨p,ys,rfl,hq,q⟩:=h;obtain⟨u,rfl,rx⟩:=vals1 r;cases rx;have fin:∀(BT:Da Value),Vals ys BT->ys.length<=sizeLine->∀(h':Heap)(c':Nat),(∀b o',s.heap.get? b=some o'->h'.get? b=some o')->
   h'.get? s.heap.objs.size=some { cls:=.type "list",dict:=none,data:=.seq BT.toArray c',slots:=#[] }->EP X AC σ Q (.ref s.heap.objs.size) { s with heap:=h' }:=λBT r' hz h' c' kp e=>
  ⟨.ref s.heap.objs.size,_,I.laid (t':=s.toks) kp (aL _) (show fq X.prog X.w _ h' _ (.lst ys)from⟨hz,BT,c',r',e⟩),Z,q _ (I.hok.fresh (aL _))⟩
 rcases hq with hq|hq
 .obtain ⟨BT,r',pl,hz⟩:=I.list hq;have hlen:=r'.length;obtain⟨o,ho,hc,n,hd⟩:=pl.isList;exact call_list_seq p (.inl rfl) ho hc hd (λh' c' kp e=>fin BT r' hz h' c' kp e) (by simp only[je] <;> omega)
 .obtain ⟨BT,r',pl,hz⟩:=I.tuple hq;have hlen:=r'.length;obtain⟨o,ho,hc,n,hd⟩:=pl;exact call_list_seq p (.inr rfl) ho hc hd (λh' c' kp e=>fin BT r' hz h' c' kp e) (by simp only[je] <;> omega)
theorem Jq:iS X (.type "tuple") (λxs H Q=>∃p ys,xs=[.ref p]/\((aB X.K H p ys/\∀l,H l=none->Q (.ref l) (upd H l (.tup ys)))\/(dU X.K H p ys/\Q (.ref p) H))):=by
 intro AC s σ H xs us Q I r h;obtain⟨p,ys,rfl,h⟩:=h;obtain⟨u,rfl,rx⟩:=vals1 r;cases rx;rcases h with⟨hq,q⟩|⟨hq,q⟩
 .obtain ⟨BT,r',pl,hz⟩:=I.list hq;have hlen:=r'.length;refine call_tuple_list pl.isList (λh' kp=>?_) (by simp only[je] <;> omega);have I1:Inv X AC σ H { s with heap:=h' }:=I.kept (t':=s.toks) kp;have I2:Inv X AC σ (upd H h'.objs.size (.tup ys)) { s with heap:=h'.push { cls:=.type "tuple",data:=.seq BT.toArray } }:=
   I1.laid (t':=s.toks) (λb o e=>cU _ e) (aL _) (show fq X.prog X.w _ _ _ (.tup ys)from⟨hz,BT,r',IsTup.new _ _⟩)
  exact⟨.ref h'.objs.size,_,I2,Z,q _ (I1.hok.fresh (aL _))⟩
 .obtain ⟨BT,r',pl,hz⟩:=I.tuple hq;exact call_tuple_same pl ⟨.ref p,H,I,Z,q⟩
def tyV(K:Fg)(T:String)(x:V)(H:Hp):Prop:=match x with
 | .str _=>T = "str"
 | .int _=>T = "int"
 | .ref p=>(T = "list"/\∃xs,aB K H p xs)\/(T = "tuple"/\∃o,K.lookup p=some o/\o.cls =.type "tuple"/\o.dict=none)\/
     (T = "dict"/\((∃AT,H p=some (.dK AT))\/∃AT,H p=some (.dT AT)))\/(T = "set"/\∃S n,H p=some (.set S n))
 | _=>False
def abb{T:String}{x:V}{v:Value}(I:Inv X AC σ H s)(r:RelV x v)(ty:tyV X.K T x H):s.TypeIs v T/\∀a,v =.ref a->∃ob,s.heap.get? a=some ob/\ob.dict=none:=by
 cases x with
 | str z=>obtain⟨t,rfl⟩:=r;cases(show T = "str" from ty);exact⟨typeIs_str s z t,λ_ e=>nomatch e⟩
 | int i=>obtain⟨t,rfl⟩:=r;cases(show T = "int" from ty);exact⟨typeIs_int s i t,λ_ e=>nomatch e⟩
 | ref p=>
  cases r;rcases ty with⟨rfl,xs,hq⟩|⟨rfl,o,hk,hc,hd⟩|⟨rfl,hk⟩|⟨rfl,S,n,hk⟩
  .obtain ⟨BT,_,pl,_⟩:=I.list hq;refine⟨pl.isList.typeIs,λa e=>?_⟩;cases e;obtain⟨o,n,e,c,hd,_⟩:=pl;exact⟨o,e,hd⟩
  .refine ⟨⟨o,I.k_ p o hk,hc⟩,λa e=>?_⟩;cases e;exact⟨o,I.k_ _ o hk,hd⟩
  .have z:∃o,s.heap.get? p=some o/\o.ExactDict:=by
    rcases hk with⟨AT,hk⟩|⟨AT,hk⟩
    .obtain ⟨_,_,_,_,o,_,_,e,ex,_⟩:=I.hok p _ hk;exact⟨o,e,ex⟩
    .obtain ⟨_,_,_,_,o,_,_,e,ex,_⟩:=I.hok p _ hk;exact⟨o,e,ex⟩
   obtain⟨o,e,ex⟩:=z;refine⟨⟨o,e,ex.1⟩,λa e2=>?_⟩;cases e2;exact⟨o,e,ex.2.1⟩
  .obtain ⟨o,_,_,_,e,ex,_⟩:=I.hok p _ hk;refine⟨⟨o,e,ex.1⟩,λa e2=>?_⟩;cases e2;exact⟨o,e,ex.2.1⟩
 | _=>exact False.elim ty
def abc(r:V->Da V->Hp->VK->Prop)(Q:VK)(x:V):Da V->Hp->Prop:=λxs H2=>r x xs H2 Q
inductive ahB(K:Fg)(T:String)(r:V->Da V->Hp->VK->Prop)(t:TA)(σ:St)(Q:VK)(x:V)(H1:Hp):Prop
 |mk(_:tyV K T x H1)(_:t σ H1 (abc r Q x))
def tBM(K:Fg)(T:String)(r:V->Da V->Hp->VK->Prop)(to:TE)(t:TA):TE:=λσ H Q=>to σ H (ahB K T r t σ Q)
variable {o e:Expr}{es:Da Expr}{to:TE}{t:TA}{name:Str}{Bz cpos:Pos}{T id:String}{r:V->Da V->Hp->VK->Prop}
end
def MtM(X:Cx)(id:String)(r:V->Da V->Hp->VK->Prop):Prop:=∀(AC:AO)(s:Shared)(σ:St)(H:Hp)(x:V)(xs:Da V)(v:Value)(us:Da Value)(Q:VK),Inv X AC σ H s->RelV x v->Vals xs us->r x xs H Q->wpAny (model X.prog X.w) X.A (call (.builtin id) (v::us)) (EP X AC σ Q) X.xe s
theorem Vals.one:∀{x:V}{us:Da Value},Vals [x] us->∃u,us=[u]/\RelV x u
 | _,_,.cons r .nil=>⟨_,Z,r⟩
variable {us:Da Value}
theorem Vals.reverse(h:Vals xs us):Vals xs.reverse us.reverse:=by
 induction h with
 | nil=>exact .nil
 | cons r t ih=>rw[List.reverse_cons,List.reverse_cons];exact Vals.append ih (.cons r .nil)
theorem Vals.rep{xs:Da V}{us:Da Value}(h:Vals xs us):∀k:Nat,Vals (List.replicate k xs).flatten (List.replicate k us).flatten
 | 0=> .nil
 | k+1=>by rw[zg,zg,Rv,Rv];exact Vals.append h (Vals.rep h k)
theorem foldl_rep(BT:Da Value):∀(k:Nat)(Ap:Da Value),List.foldl (λx1 x2=>x1++x2) Ap.toArray (List.replicate k BT.toArray)=(Ap++(List.replicate k BT).flatten).toArray
 | 0,Ap=>by simp
 | k+1,Ap=>by
  have e:Ap.toArray++BT.toArray=(Ap++BT).toArray:=by simp
  have e2:(Ap++BT)++(List.replicate k BT).flatten=Ap++(List.replicate (k+1) BT).flatten:=by rw[zg,Rv,K2]
  rw[<-e2,<-foldl_rep BT k (Ap++BT),<-e,zg,jV]
variable {t':Nat}
section
variable {X:Cx}{AC:AO}{σ:St}{H:Hp}{s:Shared}{l b:Addr}{xs ys zs:Da V}
def Inv.ahC{f:Array Value->Array Value}(I:Inv X AC σ H s)(hH:H l=some (.lst xs))(e:s.heap.get? l=some { cls:=.type "list",data:=.seq BT.toArray n })(hf:f BT.toArray=its'.toArray)(hv:Vals ys its')(hz:ys.length<=sizeLine):
  Inv X AC σ (upd H l (.lst ys)) { s with heap:=s.heap.update l (Obj.mapSeq f),toks:=t' }:=by
 have q:=PySem.IsL.update e f
 rw[hf]at q
 refine I.write (x:=l) (e:=l) (by rw[hH];exact trivial) (.inl rfl) (λb' u hb hu=>(Heap.get?_update_other s.heap (Obj.mapSeq f) (cJ hb)).trans hu) ⟨_,q⟩ ?_
 exact⟨hz,its',_,hv,q⟩
def Inv.abd(I:Inv X AC σ H s)(hv:Vals ys BT)(hz:ys.length<=sizeLine):Inv X AC σ (upd H s.heap.objs.size (.lst ys)) { s with heap:=s.heap.push { cls:=.type "list",data:=.seq BT.toArray },toks:=t' }:=I.laid (λ_ _ q=>cU _ q) (aL _) ⟨hz,BT,0,hv,fK _ rfl⟩
theorem Inv.fresh(I:Inv X AC σ H s):H s.heap.objs.size=none:=I.hok.fresh (aL _)
def Inv.RL(I:Inv X AC σ H s)(hH:H l=some (.lst xs)):xs.length<=sizeLine/\∃(BT:Da Value)(n:Nat),Vals xs BT/\xs.length=BT.length/\s.heap.get? l=some { cls:=.type "list",data:=.seq BT.toArray n }:=by obtain⟨z,BT,n,r,e⟩:=I.hok l _ hH;exact⟨z,BT,n,r,r.length,e⟩
theorem Wb(h:n<=sizeLine):Builtin.List.listTooLong n=false:=by unfold Builtin.List.listTooLong;exact c9 (by omega)
end
section
variable {X:Cx}
inductive Y6(x:V)(vs:Da V)(H:Hp)(Q:VK):Prop
 |mk(l xs y:_)(_:x =.ref l)(_:vs=[y])(_:H l=some (.lst xs))(_:xs.length<sizeLine)(_:Q .cy (upd H l (.lst (xs++[y]))))
theorem d8:MtM X "list.append" Y6:=by intro AC s σ H x vs v us Q I rx rv h;obtain⟨l,xs,y,rfl,rfl,hH,hz,q⟩:=h;cases rx;obtain⟨u,rfl,ru⟩:=rv.one;obtain⟨z,BT,n,r,hl,e⟩:=I.RL hH;refine call_meets F.slot_list_append ⟨_,e,Z⟩ F.entry_list_append (F.args_list_append_2 _ _) (PySem.list_append l BT.toArray n u (by rw[je];omega)) ⟨e,?_⟩;refine⟨.cy,_,I.ahC (its':=BT++[u]) hH e (by simp) (r.append (.cons ru .nil)) ?_,Z,q⟩;rw[cW,List.length_singleton];omega
inductive abe(x:V)(y:V)(H:Hp)(Q:VK):Prop
 |mk(l b xs zs:_)(_:x =.ref l)(_:y =.ref b)(_:H l=some (.lst xs))(_:H b=some (.lst zs))(_:xs.length+zs.length<=sizeLine)(_:∀p,H p=none->Q (.ref p) (upd H p (.lst (xs++zs))))
theorem Tj:jZ X (binaryOp .Add) abe:=by
 intro AC s σ H x y v u Q I rx ry h;obtain⟨l,b,xs,zs,rfl,rfl,hH,hB,hz,q⟩:=h;cases rx;cases ry;obtain⟨z,BT,n,r,hl,e⟩:=I.RL hH;obtain⟨z2,its2,n2,r2,hl2,e2⟩:=I.RL hB;refine PySem.P.add_list e e2 ?_ (by rw[je,je];omega);have ea:BT.toArray++its2.toArray=(BT++its2).toArray:=by simp
 rw[ea];exact⟨.ref _,_,I.abd (t':=s.toks) (r.append r2) (by rw[cW];omega),Z,q _ I.fresh⟩
inductive ahD(x:V)(y:V)(H:Hp)(Q:VK):Prop
 |mk(l k xs:_)(_:x =.ref l)(_:y =.int k)(_:H l=some (.lst xs))(_:-(2 ^ 63)<=k)(_:k<2 ^ 63)(_:xs.length*k.toNat<=sizeLine)(_:∀p,H p=none->Q (.ref p) (upd H p (.lst (List.replicate k.toNat xs).flatten)))
def len_rep{α:Type}(xs:Da α)(k:Nat):(List.replicate k xs).flatten.length=k*xs.length:=by
 induction k with
 | zero=>simp
 | succ k ih=>rw[zg,Rv,cW,ih,Nat.succ_mul,Nat.add_comm]
theorem Tn:jZ X (binaryOp .Mult) ahD:=by
 intro AC s σ H x y v u Q I rx ry h;obtain⟨l,k,xs,rfl,rfl,hH,h1,h2,hz,q⟩:=h;cases rx;obtain⟨t,rfl⟩:=ry;obtain⟨z,BT,n,r,hl,e⟩:=I.RL hH;have hlen:BT.toArray.size*k.toNat<=sizeLine:=by rw[je,<-hl];exact hz
 have hcap:¬ BT.toArray.size*k.toNat>(2 ^ 63-1) / 8:=by
  have:(sizeLine:Nat)<=(2 ^ 63-1) / 8:=by decide
  omega
 have hfit:¬ (!Builtin.List.listFitsIndex k)=true:=by rw[fitsIndex_both h1 h2];exact gH
 have aeg:¬ Builtin.List.listTooLong (BT.toArray.size*k.toNat)=true:=by rw[Wb hlen];exact gH
 have hnew:List.foldl (λx1 x2=>x1++x2) #[] (List.replicate (if BT.toArray.isEmpty=true then 0 else k.toNat) BT.toArray)=(List.replicate k.toNat BT).flatten.toArray:=by
  have f0:∀m:Nat,List.foldl (λx1 x2=>x1++x2) #[] (List.replicate m BT.toArray)=(List.replicate m BT).flatten.toArray:=λm=>by have:=foldl_rep BT m [];rw[Kq]at this;exact this
  rw[f0];cases BT with
  | nil=>simp
  | cons a r'=>rw[av (by simp)]
 refine wpAny_binaryOp_repeat_ref (T:="list") (U:="int") (by decide) ⟨_,e,Z⟩ (λs'=>typeIs_int s' k t) noFill_list_mul F.fills_int_mul F.slot_int_rmul repeat_list F.slot_int_index.lookup
  (call_meets F.slot_int_rmul (typeIs_int s k t) F.entry_int_rmul (F.args_int_rmul_2 _ _) (int___rmul___int_list k t l BT.toArray n)
    ⟨e,Z,⟨_,e,Z⟩,call_meets F.slot_list_mul ⟨_,e,Z⟩ F.entry_list_mul (F.args_list_mul_2 _ _) (AutoListH.list___mul___list_int_3 l BT.toArray n k t hfit hcap aeg) ⟨e,?_⟩⟩)
 rw[hnew];exact⟨.ref _,_,I.abd (t':=s.toks) (r.rep k.toNat) (by rw[len_rep,Nat.mul_comm];exact hz),Z,q _ I.fresh⟩
end
section
variable {prog:Program}{w:World}{A:Around}{E:VS}{s:Shared}
set_option maxRecDepth 100000 in
end
section
variable {X:Cx}
end
section
variable {κ:Type}[DecidableEq κ]
def eL(AT:Da (κ×V))(k:κ):Option V:=(AT.find? λkv=>decide (kv.1=k)).map (·.2)
def putK(AT:Da (κ×V))(k:κ)(v:V):Da (κ×V):=if(AT.any λkv=>decide (kv.1=k))=true then AT.map (λkv=>if kv.1=k then(kv.1,v) else kv) else AT++[(k,v)]
def nN(AT:Da (κ×V))(k:κ):Da (κ×V):=AT.filter λkv=>decide (kv.1≠k)
def ir{p:κ×V}{r:Da (κ×V)}{k:κ}(e:p.1=k):eL (p::r) k=some p.2:=by simp[eL,qG,e]
def fM{p:κ×V}{r:Da (κ×V)}{k:κ}(e:¬ p.1=k):eL (p::r) k=eL r k:=by simp[eL,qG,e]
theorem sL(k:κ):∀AT:Da (κ×V),(AT.any λkv=>decide (kv.1=k))=(eL AT k).isSome
 | []=>rfl
 | p::r=>by
  rw[D8];by_cases e:p.1=k
  .simp only[ir e,bR e,Bool.true_or,Option.isSome_some]
  .rw [fM e,c9 e,Bool.false_or];exact sL k r
theorem Lm(k j:κ)(y:V):∀AT:Da (κ×V),eL (AT.map λkv=>if kv.1=k then(kv.1,y) else kv) j=(eL AT j).map λx=>if j=k then y else x
 | []=>rfl
 | p::r=>by
  have ih:=Lm k j y r;rw[bK];by_cases h:p.1=k
  .rw [ay h];by_cases e:p.1=j
   .rw [ir (p:=(p.1,y)) e,ir e,Kr,ay (e.symm.trans h)]
   .rw [fM (p:=(p.1,y)) e,fM e,ih]
  .rw [av h];by_cases e:p.1=j
   .rw [ir (p:=p) e,ir e,Kr,av (λz=>h (e.trans z))]
   .rw [fM (p:=p) e,fM e,ih]
theorem Ie(k j:κ)(y:V):∀AT:Da (κ×V),eL AT k=none->eL (AT++[(k,y)]) j=if j=k then some y else eL AT j
 | [],_=>by
  by_cases e:k=j
  .rw [ay e.symm];exact ir (p:=(k,y)) e
  .rw [av (λz=>e z.symm)];exact fM (p:=(k,y)) e
 | p::r,hn=>by
  rw[Km];have hk:¬ p.1=k:=λz=>by rw[ir z]at hn;cases hn
  rw[fM hk]at hn;have ih:=Ie k j y r hn;by_cases e:p.1=j
  .rw [ir e,ir e,av (λz=>hk (e.trans z))]
  .rw [fM e,fM e,ih]
def Wc(AT:Da (κ×V))(k j:κ)(y:V):eL (putK AT k y) j=if j=k then some y else eL AT j:=by
 unfold putK;by_cases a:(AT.any λkv=>decide (kv.1=k))=true
 .rw [ay a,Lm];rw[sL]at a;by_cases e:j=k
  .obtain ⟨x,hx⟩:=Option.isSome_iff_exists.mp a;rw[ay e,e,hx,Kr,ay rfl]
  .rw [av e];cases eL AT j with
   | none=>rfl
   | some x=>rw[Kr,av e]
 .rw [av a];refine Ie k j y AT ?_;rw[sL]at a;cases q:eL AT k with
  | none=>rfl
  | some x=>rw[q]at a;exact(a rfl).elim
theorem yk(AT:Da (κ×V))(k:κ)(v:V):(putK AT k v).length<=AT.length+1:=by
 unfold putK;split
 .rw [aE];omega
 .rw [cW,jf,List.length_nil];omega
def pO{AT:Da (κ×V)}{k:κ}(v:V)(h:eL AT k=none):putK AT k v=AT++[(k,v)] :=by unfold putK;rw[sL,h];exact av (by decide)
def oB.qm{o:Option V}{u:Option Value}(r:oB o u):o.isSome=u.isSome:=by
 cases o with
 | none=>cases u with
   | none=>rfl
   | some _=>exact(show False from r).elim
 | some _=>cases u with
   | none=>exact(show False from r).elim
   | some _=>rfl
def KV.val{AT:Da (κ×V)}{vs:Da (κ×Value)}(r:KV AT vs)(k:κ):oB (eL AT k) (valueAt vs k):=by
 unfold KV at r
 induction r with
 | nil=>exact True.intro
 | @cons p q ps qs h t ih=>
  obtain⟨h1,h2⟩:=h;by_cases e:p.1=k
  .have e':q.1=k:=h1.symm.trans e;have b:valueAt (q::qs) k=some q.2:=by simp[valueAt,qG,e']
   rw[ir e,b];exact h2
  .have e':¬ q.1=k:=λz=>e (h1.trans z);have b:valueAt (q::qs) k=valueAt qs k:=by simp[valueAt,qG,e']
   rw[fM e,b];exact ih
theorem KV.any{AT:Da (κ×V)}{vs:Da (κ×Value)}(r:KV AT vs)(k:κ):(AT.any λkv=>decide (kv.1=k))=vs.any λkv=>decide (kv.1=k):=by
 unfold KV at r
 induction r with
 | nil=>rfl
 | cons h t ih=>rw[D8,D8,ih,h.1]
def KV.repl{AT:Da (κ×V)}{vs:Da (κ×Value)}(r:KV AT vs)(k:κ)(ry:RelV y u):KV (AT.map λkv=>if kv.1=k then(kv.1,y) else kv) (vs.map λkv=>if kv.1=k then(kv.1,u) else kv):=by
 unfold KV at r ⊢
 induction r with
 | nil=>exact .nil
 | @cons p q ps qs h t ih=>
  rw[bK,bK];refine .cons ?_ ih;obtain⟨h1,h2⟩:=h;by_cases e:p.1=k
  .rw [ay e,ay (h1.symm.trans e)];exact⟨h1,ry⟩
  .rw [av e,av (λz=>e (h1.trans z))];exact⟨h1,h2⟩
def KV.put{AT:Da (κ×V)}{vs:Da (κ×Value)}(r:KV AT vs)(k:κ)(ry:RelV y u):KV (putK AT k y) (stored vs k u):=by
 unfold putK stored;rw[r.any k];by_cases e:(vs.any λkv=>decide (kv.1=k))=true
 .rw [ay e,ay e];exact r.repl k ry
 .rw [av e,av e];exact Paired.snoc r ⟨Z,ry⟩
def KV.drop{AT:Da (κ×V)}{vs:Da (κ×Value)}(r:KV AT vs)(k:κ):KV (nN AT k) (without vs k):=by
 unfold KV at r ⊢;unfold nN without
 induction r with
 | nil=>exact .nil
 | @cons p q ps qs h t ih=>
  obtain⟨h1,h2⟩:=h;rw[fX,fX];by_cases e:p.1=k
  .have a:¬ decide (p.1≠k)=true:=by simp[e]
   have b:¬ decide (q.1≠k)=true:=by simp[h1.symm.trans e]
   rw[av a,av b];exact ih
  .have e':¬ q.1=k:=λz=>e (h1.trans z);have a:decide (p.1≠k)=true:=by simp[e]
   have b:decide (q.1≠k)=true:=by simp[e']
   rw[ay a,ay b];exact .cons ⟨h1,h2⟩ ih
theorem KV.length{AT:Da (κ×V)}{vs:Da (κ×Value)}(r:KV AT vs):AT.length=vs.length:=Paired.length r
def Wd(AT:Da (κ×V))(k:κ):(nN AT k).length<=AT.length:=Gk _ _
end
variable {P:Program}{w:World}
def zH{k:Key}(r:RelV (kV k) u):(di P w).is k u=true:=by
 cases k with
 | inl i=>obtain⟨t,e⟩:=(show ∃t,u=Value.int i t from r);subst e;exact Oh P w i t
 | inr x=>obtain⟨t,e⟩:=(show ∃t,u=Value.str x t from r);subst e;exact Oi P w x t
theorem Ig{P:Program}{w:World}:∀{ks:Da Key}{us:Da Value},Vals (ks.map kV) us->ItemsAre (di P w) ks us
 | [],_,r=>by rw[List.map_nil]at r;cases r;exact .nil
 | k::ks,_,r=>by
  rw[bK]at r;cases r with
  | cons h t=>exact .cons (zH h) (Ig t)
abbrev KT(H:Hp):Da (Da Key×V)->Da (Da Key×Addr×Value)->Prop:=Paired λp q=>p.1=q.1/\H q.2.1=some (.tup (p.1.map kV))/\RelV p.2 q.2.2
def KT.val{AT:Da (Da Key×V)}{xs:Da (Da Key×Addr×Value)}(r:KT H AT xs)(k:Da Key):oB (eL AT k) ((atKey xs k).map (·.2)):=by
 induction r with
 | nil=>exact True.intro
 | @cons p q ps qs h t ih=>
  obtain⟨h1,_,h2⟩:=h;by_cases e:p.1=k
  .have e':q.1=k:=h1.symm.trans e;have b:atKey (q::qs) k=some q.2:=by simp[atKey,qG,e']
   rw[ir e,b];exact h2
  .have e':¬ q.1=k:=λz=>e (h1.trans z);have b:atKey (q::qs) k=atKey qs k:=by simp[atKey,qG,e']
   rw[fM e,b];exact ih
def KT.repl{AT:Da (Da Key×V)}{xs:Da (Da Key×Addr×Value)}(r:KT H AT xs)(k:Da Key)(ry:RelV y u):KT H (AT.map λkv=>if kv.1=k then(kv.1,y) else kv) (xs.map (putAt k u)):=by
 induction r with
 | nil=>exact .nil
 | @cons p q ps qs h t ih=>
  rw[bK,bK];refine .cons ?_ ih;obtain⟨h1,h2,h3⟩:=h;unfold putAt;by_cases e:p.1=k
  .rw [ay e,ay (h1.symm.trans e)];exact⟨h1,h2,ry⟩
  .rw [av e,av (λz=>e (h1.trans z))];exact⟨h1,h2,h3⟩
def KT.put{AT:Da (Da Key×V)}{xs:Da (Da Key×Addr×Value)}(r:KT H AT xs)(k:Da Key){b:Addr}(hb:H b=some (.tup (k.map kV)))(ry:RelV y u):KT H (putK AT k y) (storedH xs k b u):=by
 have e:(AT.any λkv=>decide (kv.1=k))=(atKey xs k).isSome:=by rw[sL,(r.val k).qm,Option.isSome_map]
 unfold putK storedH;rw[e];by_cases q:(atKey xs k).isSome=true
 .rw [ay q,ay q];exact r.repl k ry
 .rw [av q,av q];exact Paired.snoc r ⟨Z,hb,ry⟩
variable {H':Hp}
def KT.keeps{AT:Da (Da Key×V)}{xs:Da (Da Key×Addr×Value)}(r:KT H AT xs)(ht:∀b ys,H b=some (.tup ys)->H' b=some (.tup ys)):KT H' AT xs:=Paired.VP r λ_ _ z=>⟨z.1,ht _ _ z.2.1,z.2.2⟩
variable {AT:Da (Key×V)}
section
variable {P:Program}{w:World}{H:Hp}{h:Heap}{a:Addr}
def XQ{u:HO}(ok:jA P w H h)(e:Rd H a u):fq P w H h a u:=e.ok ok
def vj(ok:jA P w H h)(e:Rd H a (.dK AT)):AT.length<=sizeLine/\(a==sysModules)=false/\∃vs,KV AT vs/\h.DictOf (di P w) a vs:=
 show fq P w H h a (.dK AT)from XQ ok e
def En(ok:jA P w H h)(e:H a=some (.dK AT)):AT.length<=sizeLine/\(a==sysModules)=false/\∃vs,KV AT vs/\h.DictOf (di P w) a vs:=vj ok (.inl e)
def AH{ks:Da Key}(ok:jA P w H h)(e:H a=some (.tup (ks.map kV))):(tupleKind (di P w)).is h ks a:=by
 obtain⟨_,BT,r,o,h1,h2,n,h3⟩:=(show fq P w H h a (.tup (ks.map kV))from ok a _ e)
 exact⟨o,BT.toArray,n,h1,h2,h3,by simpa using Ig r⟩
def Ca{AT:Da (Da Key×V)}(ok:jA P w H h)(e:Rd H a (.dT AT)):AT.length<=sizeLine/\(a==sysModules)=false/\∃xs,KT H AT xs/\h.DictOfH (tupleKind (di P w)) a xs:=by
 obtain⟨z,y,xs,r,o,es,ep,h1,h2,h3,h4,h5⟩:=(show fq P w H h a (.dT AT)from XQ ok e)
 refine⟨z,y,xs,r,o,es,ep,h1,h2,h3,h4,λx hx=>?_,h5⟩;have all:∀{l:Da (Da Key×V)}{m:Da (Da Key×Addr×Value)},KT H l m->∀x∈m,(tupleKind (di P w)).is h x.1 x.2.1:=by
  intro l m q
  induction q with
  | nil=>intro x hx;exact nomatch hx
  | @cons p q ps qs hq t ih=>
   intro x hx;rcases fm.mp hx with e|hx
   .subst e;exact AH ok (by rw[<-hq.1];exact hq.2.1)
   .exact ih x hx
 exact all r x hx
def aeh{AT:Da (Da Key×V)}(ok:jA P w H h)(e:H a=some (.dT AT)):AT.length<=sizeLine/\(a==sysModules)=false/\∃xs,KT H AT xs/\h.DictOfH (tupleKind (di P w)) a xs:=Ca ok (.inl e)
end
def cg(H:Hp)(a:Addr)(y:V)(r:Option V):Prop:=(∃AT k,Rd H a (.dK AT)/\y=kV k/\r=eL AT k)\/∃AT k b,Rd H a (.dT AT)/\y =.ref b/\H b=some (.tup (k.map kV))/\r=eL AT k
def uJ(H:Hp)(a:Addr)(y v:V)(H':Hp):Prop:=(∃AT k,H a=some (.dK AT)/\y=kV k/\AT.length<sizeLine/\H'=upd H a (.dK (putK AT k v)))\/
 ∃AT k b,H a=some (.dT AT)/\y =.ref b/\H b=some (.tup (k.map kV))/\AT.length<sizeLine/\H'=upd H a (.dT (putK AT k v))
variable {a:Addr}
theorem cg.k{k:Key}(e:H a=some (.dK AT)):cg H a (kV k) (eL AT k):=.inl ⟨AT,k,.inl e,Z,Z⟩
theorem uJ.k{k:Key}{v:V}(e:H a=some (.dK AT))(hl:AT.length<sizeLine):uJ H a (kV k) v (upd H a (.dK (putK AT k v))):=.inl ⟨AT,k,e,Z,hl,Z⟩
section
variable {X:Cx}{AC:AO}{σ:St}{H:Hp}{s:Shared}{a:Addr}{y v:V}{u r:Value}{o:Option V}{A:Around}{E:VS}
def Inv.big(I:Inv X AC σ H s):sysModules<s.heap.objs.size:=by have h:mainGlobals<s.heap.objs.size:=(I.mod.glob.keeps I.bk).lt;exact Nat.lt_trans (by decide) h
def To{Q:VS}(hu:A.units+1<cLine)(I:Inv X AC σ H s)(g:cg H a y (some v))(ry:RelV y u)(h:∀w' s',Inv X AC σ H s'->RelV v w'->Q w' s'):wpAny (model X.prog X.w) A (getItem (.ref a) u) Q E s:=by
 rcases g with⟨AT,k,e,ey,l⟩|⟨AT,k,b,e,ey,eb,l⟩
 .subst ey;obtain⟨z,hd,vs,rel,dd⟩:=vj I.hok e;obtain⟨w',hw,rw'⟩:=oB.some_of (v:=v) (o:=valueAt vs k) (by rw[l];exact rel.val k);exact wpAny_getItem_of (zH ry) dd.mapOf hw (h w' _ (I.tok _) rw')
 .subst ey;cases(show u=Value.ref b from ry);obtain⟨z,hd,xs,rel,dd⟩:=Ca I.hok e;obtain⟨w',hw,rw'⟩:=oB.some_of (v:=v) (o:=(atKey xs k).map (·.2)) (by rw[l];exact rel.val k);obtain⟨p,hp,hp2⟩:=mZ.mp hw;refine wpAny_getItem_heap (Rq hu) (AH I.hok eb) dd hp ?_;rw[hp2];exact h w' _ (I.tok _) rw'
def ahE{Q:VS}(hu:A.units+1<cLine)(I:Inv X AC σ H s)(g:cg H a y o)(ry:RelV y u)(h:∀s',Inv X AC σ H s'->Q (.bool o.isSome) s'):wpAny (model X.prog X.w) A (compareOp .In u (.ref a)) Q E s:=by
 rcases g with⟨AT,k,e,ey,l⟩|⟨AT,k,b,e,ey,eb,l⟩
 .subst ey;obtain⟨z,hd,vs,rel,dd⟩:=vj I.hok e;refine wpAny_in_of (zH ry) hd dd.mapOf ?_;rw[<-(rel.val k).qm,<-l];exact h _ (I.tok _)
 .subst ey;cases(show u=Value.ref b from ry);obtain⟨z,hd,xs,rel,dd⟩:=Ca I.hok e;refine wpAny_in_heap (Rq hu) (AH I.hok eb) hd dd ?_;have q:=(rel.val k).qm;rw[Option.isSome_map]at q;rw[<-q,<-l];exact h _ (I.tok _)
def Y7{Q:VS}(hu:A.units+1<cLine)(I:Inv X AC σ H s)(g:cg H a y o)(ry:RelV y u)(h:∀s',Inv X AC σ H s'->Q (.bool (!o.isSome)) s'):wpAny (model X.prog X.w) A (compareOp .NotIn u (.ref a)) Q E s:=by
 rcases g with⟨AT,k,e,ey,l⟩|⟨AT,k,b,e,ey,eb,l⟩
 .subst ey;obtain⟨z,hd,vs,rel,dd⟩:=vj I.hok e;refine wpAny_notIn_of (zH ry) hd dd.mapOf ?_;rw[<-(rel.val k).qm,<-l];exact h _ (I.tok _)
 .subst ey;cases(show u=Value.ref b from ry);obtain⟨z,hd,xs,rel,dd⟩:=Ca I.hok e;refine wpAny_notIn_heap (Rq hu) (AH I.hok eb) hd dd ?_;have q:=(rel.val k).qm;rw[Option.isSome_map]at q;rw[<-q,<-l];exact h _ (I.tok _)
def Cb(I:Inv X AC σ H s)(mu:SK (H a))(hs:Heap.SameBut a s.heap h')(he:∃q,h'.get? a=some q)(new:fq X.prog X.w (upd H a ob) h' a ob):Inv X AC σ (upd H a ob) { s with heap:=h',toks:=t' }:=I.write (x:=a) (e:=a) mu (.inl rfl) (λb q hb z=>(hs.2 b hb).trans z) he new
def Ln{h':Heap}{vs:Da (Key×Value)}(z:AT.length<=sizeLine)(hd:(a==sysModules)=false)(rel:KV AT vs)(dd:h'.DictOf (di P w) a vs):fq P w H' h' a (.dK AT):=⟨z,hd,vs,rel,dd⟩
theorem Tp{Q:Unit->Shared->Prop}(hu:A.units+1<cLine)(I:Inv X AC σ H s)(g:uJ H a y v H')(ry:RelV y u)(rv:RelV v r)(h:∀s',Inv X AC σ H' s'->Q () s'):wpAny (model X.prog X.w) A (setItem (.ref a) u r) Q E s:=by
 rcases g with⟨AT,k,e,ey,l,eH⟩|⟨AT,k,b,e,ey,eb,l,eH⟩
 .subst ey eH;obtain⟨z,hd,vs,rel,dd⟩:=En I.hok e;have hz:vs.length<=sizeLine:=by rw[<-rel.length];exact z
  have hl:(putK AT k v).length<=sizeLine:=by have:=yk AT k v;omega
  refine wpAny_setItem_pairs (hsz:=hz) (zH ry) dd λh' CN hs=>h _ ?_;have he:∃q,h'.get? a=some q:=let⟨q,_,_,hq,_⟩:=CN;⟨q,hq⟩;exact Cb I (by rw[e];exact True.intro) hs he (Ln hl hd (rel.put k rv) CN)
 .subst ey eH;cases(show u=Value.ref b from ry);obtain⟨z,hd,xs,rel,dd⟩:=aeh I.hok e;have hz:xs.length<=sizeLine:=by rw[<-Paired.length rel];exact z
  have hl:(putK AT k v).length<=sizeLine:=by have:=yk AT k v;omega
  refine wpAny_setItem_heap (hsz:=hz) (Rq hu) (AH I.hok eb) dd λh' CN hs=>h _ ?_;obtain⟨q,es,ep,hq,h2,h3,h4,_,h5⟩:=CN;refine Cb I (by rw[e];exact True.intro) hs ⟨q,hq⟩ ⟨hl,hd,_,(rel.put k eb rv).keeps λc ys ec=>?_,q,es,ep,hq,h2,h3,h4,h5⟩;rw[az (jP ec e (λz=>nomatch z))];exact ec
end
section
variable {X:Cx}{AC:AO}{σ:St}{H:Hp}{s:Shared}{a:Addr}{AT:Da (Key×V)}{k:Key}{u:Value}{A:Around}{E:VS}
def Tq{Q:Unit->Shared->Prop}(I:Inv X AC σ H s)(e:H a=some (.dK AT))(ry:RelV (kV k) u)(l:(eL AT k).isSome=true)(h:∀s',Inv X AC σ (upd H a (.dK (nN AT k))) s'->Q () s'):wpAny (model X.prog X.w) A (delItem (.ref a) u) Q E s:=by
 obtain⟨z,hd,vs,rel,dd⟩:=En I.hok e;refine wpAny_delItem_slot dd.typeIs (by decide) PySem.F.slot_dict_delitem
  (call_meetsIn PySem.F.slot_dict_delitem dd.typeIs PySem.F.entry_dict_delitem (PySem.F.args_dict_delitem_2 _ _) (meets_dict_delitem_pairs (di X.prog X.w) a (zH ry)) ⟨vs,dd,by rw[<-rel.length];exact z,by rw[<-(rel.val k).qm];exact l,λh' CN hs=>h _ ?_⟩)
 have he:∃q,h'.get? a=some q:=let⟨q,_,_,hq,_⟩:=CN;⟨q,hq⟩;exact Cb I (by rw[e];exact True.intro) hs he (Ln (fY (Wd AT k) z) hd (rel.drop k) CN)
theorem aei{Q:VS}(I:Inv X AC σ H s)(e:Rd H a (.dK AT))(h:∀t s',Inv X AC σ H s'->Q (.int AT.length t) s'):wpAny (model X.prog X.w) A (call (.builtin "len") [.ref a]) Q E s:=by obtain⟨z,hd,vs,rel,dd⟩:=vj I.hok e;refine call_len_dict hd dd (by rw[<-rel.length];rw[mH]at z;omega) ?_;rw[<-rel.length];exact h _ _ (I.tok _)
end
def abf(i:Expr):Prop:=∀ov iv,subscripted i false ov iv=operate [ov,iv] (getItem ov iv)
variable {E:VS}{env:Env}{value:Expr}{pos:Pos}
theorem Y8{prog:Program}{A:Around}{slice:Expr}{T id:String}{Q:VS}(hl:typeLookup (.type T) "__getitem__"=pure (some (.builtin id)))(hs:abf slice)(h:wpAny (model prog w) A (eval value env) (λo s₁=>wpAny (model prog w) A (eval slice env) (λi s₂=>s₂.TypeIs o T/\wpAny (model prog w) A (getItem o i) Q E s₂) E s₁) E s):
  wpAny (model prog w) A (eval (.Subscript value slice pos) env) Q E s:=by
 refine Subscript_ (jX h (λo s₁ h₁=>jX h₁ (λi s₂ h₂=>?_) λ_ _ x=>x) λ_ _ x=>x)
 obtain⟨hT,h₂⟩:=h₂
 unfold subscriptTail
 refine aA ?_
 rw[getitemInPython_of_ne hT.not_modules]
 refine aA (wpAny_specialOf hT hl ?_)
 have fin:wpAny (model prog w) A (subscripted slice false o i) (λr s₃=>wpAny (model prog w) A (letTemporaryGo value o r >>= λ_=>pure r) Q E s₃) E s₂:=by rw[hs o i];exact wpAny_operating (jX h₂ (λr s₃ h₃=>aA (wpAny_letTemporaryGo (bw h₃))) λ_ _ x=>x)
 first
  | exact bw (aA fin)
  | exact aA (bw (aA fin))
  | exact aA fin
variable {X:Cx}
def Oj{o:Option V}(I:Inv X AC σ H s)(g:cg H a y o):s.TypeIs (.ref a) "dict":=by
 rcases g with⟨AT,k,e,_,_⟩|⟨AT,k,b,e,_,_,_⟩
 .obtain ⟨_,_,vs,_,dd⟩:=vj I.hok e;exact dd.typeIs
 .obtain ⟨_,_,xs,_,dd⟩:=Ca I.hok e;exact dd.typeIs
inductive We(Q:VK)(x:V)(y:V)(H2:Hp):Prop
 |mk(a v:_)(_:x =.ref a)(_:cg H2 a y (some v))(_:Q v H2)
def abg(ty:TE)(σ:St)(Q:VK):V->Hp->Prop:=λx H1=>ty σ H1 (We Q x)
def RM(td ty:TE):TE:=λσ H Q=>td σ H (abg ty σ Q)
inductive Y9(Q:VK)(y:V)(x:V)(H2:Hp):Prop
 |mk(a o:_)(_:x =.ref a)(_:cg H2 a y o)(_:Q (.bl o.isSome) H2)
def aej(td:TE)(σ:St)(Q:VK):V->Hp->Prop:=λy H1=>td σ H1 (Y9 Q y)
def ahF(ty td:TE):TE:=λσ H Q=>ty σ H (aej td σ Q)
inductive RN(Q:VK)(y:V)(x:V)(H2:Hp):Prop
 |mk(a o:_)(_:x =.ref a)(_:cg H2 a y o)(_:Q (.bl (!o.isSome)) H2)
def Wg(td:TE)(σ:St)(Q:VK):V->Hp->Prop:=λy H1=>td σ H1 (RN Q y)
def Y_(ty td:TE):TE:=λσ H Q=>ty σ H (Wg td σ Q)
inductive Wh(D:Ends)(σ:St)(v:V)(x:V)(y:V)(H3:Hp):Prop
 |mk(a H4:_)(_:x =.ref a)(_:uJ H3 a y v H4)(_:D.nx σ H4)
def Wi(ty:TE)(D:Ends)(σ:St)(v:V):V->Hp->Prop:=λx H2=>ty σ H2 (Wh D σ v x)
def abh(td:TE)(ty:TE)(D:Ends)(σ:St):V->Hp->Prop:=λv H1=>td σ H1 (Wi ty D σ v)
def aek(td ty tv:TE):TS:=λD σ H=>tv σ H (abh td ty D σ)
inductive Wj(D:Ends)(σ:St)(x:V)(y:V)(H2:Hp):Prop
 |mk(a AT k:_)(_:x =.ref a)(_:H2 a=some (.dK AT))(_:y=kV k)(_:(eL AT k).isSome=true)(_:D.nx σ (upd H2 a (.dK (nN AT k))))
def abi(ty:TE)(D:Ends)(σ:St):V->Hp->Prop:=λx H1=>ty σ H1 (Wj D σ x)
def ael(td ty:TE):TS:=λD σ H=>td σ H (abi ty D σ)
section
variable {X:Cx}{o i e value:Expr}{pos pos' tpos:Pos}{td ty tv:TE}
end
def Lo(h:Heap)(hb:sysModules<h.objs.size):fq P w H (h.push { cls:=.type "dict",data:=.dict #[] }) h.objs.size (.dK []):=⟨iH _,Gm.mpr (cJ (gr hb)),[],.nil,Heap.DictOf.new h⟩
def abj:TE:=λ_ H Q=>∀p,H p=none->Q (.ref p) (upd H p (.dK []))
section
variable {X:Cx}{pos:Pos}
end
def AI:Da (TE×TE)->St->Hp->(Da (V×V)->Hp->Prop)->Prop
 | [],_,H,Q=>Q [] H
 | (tk,tv)::r,σ,H,Q=>tk σ H λx H1=>tv σ H1 λy H2=>AI r σ H2 λps H3=>Q ((x,y)::ps) H3
abbrev VV:Da (V×V)->Da (Value×Value)->Prop:=Paired λp q=>RelV p.1 q.1/\RelV p.2 q.2
def PPs(X:Cx)(pos:Pos)(keys:Da (Option Expr))(values:Da Expr)(Eo:Da (TE×TE)):Prop:=∀(AC:AO)(s:Shared)(σ:St)(H:Hp)(Q:Da (V×V)->Hp->Prop),Inv X AC σ H s->AI Eo σ H Q->wpAny (model X.prog X.w) X.A (evalPairs (pairTrees keys values X.env pos)) (λvs s'=>∃ps H',Inv X AC σ H' s'/\VV ps vs/\Q ps H') X.xe s
def yG(AT more:Da (Key×V)):Da (Key×V):=more.foldl (λAp kv=>putK Ap kv.1 kv.2) AT
def KV.merge:∀{more:Da (Key×V)}{rs:Da (Key×Value)}{AT:Da (Key×V)}{vs:Da (Key×Value)},KV more rs->KV AT vs->KV (yG AT more) (merged vs rs):=by
 intro more rs AT vs r;unfold KV at r
 induction r generalizing AT vs with
 | nil=>intro q;exact q
 | @cons p q ps qs h t ih=>
  intro r0;have e:KV (putK AT p.1 p.2) (stored vs q.1 q.2):=by have:=r0.put p.1 h.2;rw[<-h.1];exact this
  exact ih e
theorem Aq:∀(more AT:Da (Key×V)),(yG AT more).length<=AT.length+more.length
 | [],AT=>by show AT.length<=AT.length+0;omega
 | p::r,AT=>by have h1:=Aq r (putK AT p.1 p.2);have h2:=yk AT p.1 p.2;show(yG (putK AT p.1 p.2) r).length<=_;rw[jf];omega
theorem Ep{P:Program}{w:World}:∀{AT:Da (Key×V)}{ws:Da (Value×Value)},VV (AT.map λkv=>(kV kv.1,kv.2)) ws->∃rs,Carries (di P w) ws rs/\KV AT rs
 | [],_,r=>by rw[List.map_nil]at r;cases r;exact⟨[],True.intro,.nil⟩
 | p::AT,_,r=>by
  rw[bK]at r;cases r with
  | @cons a b as bs h t=>obtain⟨rs,c,q⟩:=Ep (P:=P) (w:=w) t;obtain⟨b1,b2⟩:=b;exact⟨(p.1,b2)::rs,⟨zH h.1,Z,c⟩,.cons ⟨Z,h.2⟩ q⟩
def aem(Eo:Da (TE×TE)):TE:=λσ H Q=>∀p,H p=none->AI Eo σ (upd H p (.dK [])) λps H2=>H2 p=some (.dK [])/\∃AT:Da (Key×V),ps=AT.map (λkv=>(kV kv.1,kv.2))/\AT.length<=15/\Q (.ref p) (upd H2 p (.dK (yG [] AT)))
def IsD(H:Hp)(a:Addr):Prop:=(∃AT,Rd H a (.dK AT))\/∃AT,Rd H a (.dT AT)
def Lp(I:Inv X AC σ H s)(d:IsD H a):s.TypeIs (.ref a) "dict"/\(∀b,Value.ref a =.ref b->∃ob,s.heap.get? b=some ob/\ob.dict=none)/\(a==sysModules)=false:=by
 rcases d with⟨AT,e⟩|⟨AT,e⟩
 .obtain ⟨_,hd,vs,_,dd⟩:=vj I.hok e;refine⟨dd.typeIs,λb q=>?_,hd⟩;cases q;obtain⟨ob,_,_,h1,h2,_⟩:=dd;exact⟨ob,h1,h2.2.1⟩
 .obtain ⟨_,hd,xs,_,dd⟩:=Ca I.hok e;refine⟨dd.typeIs,λb q=>?_,hd⟩;cases q;obtain⟨ob,_,_,h1,h2,_⟩:=dd;exact⟨ob,h1,h2.2.1⟩
section
variable {X:Cx}{AC:AO}{σ:St}{H:Hp}{s:Shared}{a:Addr}{y d:V}{u r:Value}{o:Option V}{A:Around}{E:VS}
end
section
variable {X:Cx}{o e f:Expr}{Bz cpos:Pos}{td ty tx:TE}
end
section
variable {X:Cx}{AC:AO}{σ:St}{H:Hp}{s:Shared}{a:Addr}{AT:Da (Key×V)}{A:Around}{E:VS}
end
section
variable {X:Cx}{AC:AO}{σ:St}{H:Hp}{s:Shared}{a:Addr}{y:V}{u:Value}{A:Around}{E:VS}
end
end L2
namespace Att
open PySem PySem.W PySem.Calls PyProof.Rows
def Er{P:Params}{h:Heap}:∀(ns:Da Int)(vs:Da Value),WellAll P h vs (ns.map WData.int)->IntsAre vs ns:=by
 intro ns
 induction ns with
 | nil=>intro vs w;rw[List.map_nil]at w;cases w;exact .nil
 | cons n ns ih=>
  intro vs w;rw[bK]at w;cases w with
  | cons a b=>cases a;exact .cons _ _ (ih _ b)
theorem Tr{l:OpenLaw}{n:Nat}(hn:l.most=some n){P:Params}{h:Heap}{args:Da WData}{vals:Da Value}(hpre:l.row.toRowW.claim.pre args=true)(hwl:WellAll P h vals args):
  ∃a vs ns,vals=[Value.ref a]/\args=[WData.list (ns.map WData.int)]/\h.get? a=some { cls:=.type "list",data:=.seq vs.toArray }/\IntsAre vs ns/\ns.length<=n:=by
 have hsh:WShape.hasAll [] args [.list .int]=true:=(pre_splitW hpre).1
 have hc:l.pre.holds [] { args:=args }=true:=(pre_splitW hpre).2
 obtain⟨d,r,rfl,h1,h2⟩:=hasAllW_cons hsh
 obtain rfl:=hasAllW_nil h2
 obtain⟨xs,rfl,h3⟩:=hasW_list h1
 obtain⟨ns,rfl⟩:=items_int h3
 have hlen:ns.length<=n:=by
  unfold OpenLaw.pre at hc;have h4:(WTm.not (.lt (.lit (.int (n:Int))) (.len (.arg 0)))).holds [] { args:=[.list (ns.map .int)] }=true:=by have h4:=(holds_andW hc).1;rw[hn]at h4;exact h4
  have h5:=condW_of h4 (w_not (w_lt w_lit (w_len_list (w_arg rfl))));rw[aE]at h5;refine Nat.le_of_not_lt λq=>?_;have q':(n:Int)<((ns.length:Nat):Int):=by omega
  first
   | (rw[bR q']at h5;exact absurd h5 (by decide))
   | (simp at h5;omega)
 cases hwl with
 | cons w1 w2=>
   cases w2
   cases w1 with
   | list ho hall=>exact⟨_,_,ns,Z,Z,ho,Er ns _ hall,hlen⟩
def Tt(l:OpenLaw)(args:Da WData):l.row.toRowW.claim.post args (.bool true) args=true:=postW_of (r:=l.row.toRowW) (X:=(true==true))
  (show WShape.has [] (.bool true) .bool=true by first|rfl|decide|simp[WShape.has,WShape.arms,WShape.armsAll])
  (show(WTm.eq .res (.lit (.bool true))).value [] { args:=args,res:=some (.bool true),after:=args }=some (.bool (true==true))from w_eq_bool (w_res rfl) w_lit) rfl
def Ol{l:OpenLaw}{n:Nat}{q:Program}{loose:Da Str}{XP:(Str->Option Value)->Heap->Prop}{YP:World->Heap->Prop}{d:DefRec}(hn:l.most=some n)(hdf:d.params.defaults=[])(call:∀(w:World) (s₀ s₁:Shared) (mg mb:SO) (fa:Addr) (o:Obj) (pm cd doc:Value) (a:Addr) (vs:Da Value) (ns:Da Int),
    Ground q loose [] XP w s₀ mg mb s₁.heap->YP w s₁.heap->
    s₁.heap.get? fa=some o->o.data =.func (docDef d.name d.params d.body d.scope pm cd doc)->s₁.heap.CodeRec cd d.name->mg d.name=some (.ref fa)->
    s₁.heap.get? a=some { cls:=.type "list",data:=.seq vs.toArray }->IntsAre vs ns->ns.length<=n->s₁.gens=#[]->
    codeAny (model l.prog w) callerA (.call (.ref fa) ⟨[.ref a],[]⟩) (λr s'=>r =.ok (.ret (.bool true))/\OldK s₁.heap s'.heap/\s'.os=s₁.os/\AllBare s'.gens) s₁):
  WalkO q loose XP YP l.row.toRowW d [] (λf vs=>PySem.call f vs):=by
 intro w s₀ s₁ mg mb G Y fa o pm cd doc dV kV ho hd hcd hD hmg hg args vals as hpre hlay hrd hwl hlo
 obtain rfl:dV =.none:=Dflts.none hD hdf
 obtain rfl:kV =.none:=Dflts.noKw hD
 obtain⟨a,vs,ns,rfl,rfl,hobj,hints,hlen⟩:=Tr hn hpre hwl
 refine enter_call (codeAny_mono (call w s₀ s₁ mg mb fa o pm cd doc a vs ns G Y ho (fd_plain hd) hcd hmg hobj hints hlen hg) λr s' hq=>?_)
 obtain⟨rfl,h2,h3,h4⟩:=hq
 exact⟨.inl ⟨.bool true,.bool true,[],Z,λ_=>rfl,.bool true,Tt l _,λ_=>⟨List.Pairwise.nil,λ_ hm=>(nomatch hm)⟩⟩,h2,h3,h4⟩
section
variable {prog:Program}{w:World}{A:Around}{E:VS}{s:Shared}{K:Frag}
end
end Att
namespace L2
open PySem PySem.Spec PyProof.Rows
theorem Ih:∀{vs:Da Value}{ns:Da Int},IntsAre vs ns->Vals (ns.map V.int) vs
 | _,_,.nil=> .nil
 | _,_,.cons n t h=> .cons ⟨t,Z⟩ (Ih h)
def Wl(H:Hp):Prop:=∀b,H b=none\/∃o xs,H b=some (.gy o (.lst xs))
variable {P:Program}{w:World}{K:Fg}{mg:SO}{CX:AG}{a:Addr}{fd:FuncData}{x:Str}{sp:Sp}{ns:Da Int}
def Wm{mb:SO}{k:Nat}{fa:Addr}{s₁:Shared}{vs:Da Value}(KX:K.In s₁.heap)(hns:s₁.heap.Ns mainGlobals mg)(hb:s₁.heap.Ns builtinsNs mb)(hbb:∀x:Str,x ≠ "__name__"->mb x=bootBuiltins x)(hlim:s₁.heap.NoLimit)(hg:s₁.gens=#[])(ha:s₁.heap.get? a=some { cls:=.type "list",data:=.seq vs.toArray })(hi:IntsAre vs ns)(hl:ns.length<=sizeLine)(hr:fL k callerA)(F:∀base:Heap,K.In base->base.Ns mainGlobals mg->kN P w K mg base CX k fa fd [x] sp)(hbind:∀(s:Shared) (u:Value),BindsTo s fd ⟨[u],[]⟩ [(x,u)])(vJ:∀H:Hp,Wl H->aB K H a (ns.map V.int)->sp [.ref a] H (λv _=>v =.bl true) λ_ _ _=>False)(hCX:∀H e s',CX [] H s₁ (λ_ _ _=>False) e s'->False):
  codeAny (model P w) callerA (.call (.ref fa) ⟨[.ref a],[]⟩) (λr s'=>r =.ok (.ret (.bool true))/\OldK s₁.heap s'.heap/\s'.os=s₁.os/\AllBare s'.gens) s₁:=by
 have rv:=Ih hi
 have ahG:=hi.length
 have core:∀H:Hp,Wl H->aB K H a (ns.map V.int)->jA P w H s₁.heap->(∀b,H b≠none->b=a)->(H a≠none->K.lookup a=none)->
   codeAny (model P w) callerA (.call (.ref fa) ⟨[.ref a],[]⟩) (λr s'=>r =.ok (.ret (.bool true))/\OldK s₁.heap s'.heap/\s'.os=s₁.os/\AllBare s'.gens) s₁:=by
  intro H hO hS hok hA hK
  have Qe:∀{b:Addr}{o:Obj},s₁.heap.get? b=some o->H b=none->(zA s₁.heap H).get? b=some o:=λe n=>VQ e n
  have Te:∀{b:Addr}{o:Obj}{es:Array DictEntry}{ep:Nat},s₁.heap.get? b=some o->o.data =.dict es ep->H b=none:=λ{b o es ep} e d=>by
   cases q:H b with
   | none=>rfl
   | some u=>have e':b=a:=hA b (by rw[q];simp);subst e';rw[ha]at e;cases e;have d':Data.seq vs.toArray _=Data.dict es ep:=d;cases d'
  have XR:∀{b:Addr}{m:SO},s₁.heap.Ns b m->(zA s₁.heap H).Ns b m:=λ{b m} ⟨o,es,ep,e,d,r⟩=>⟨o,es,ep,Qe e (Te e d),d,r⟩
  have hKb:K.In (zA s₁.heap H):=λb o e=>Qe (KX b o e) (by
   cases q:H b with
   | none=>rfl
   | some u=>have e':b=a:=hA b (by rw[q];simp);subst e';rw[hK (by rw[q];simp)]at e;cases e)
  have hM:Mod K mg (zA s₁.heap H):=⟨hKb,XR hns,⟨mb,XR hb,hbb⟩,let⟨mc,h1,h2⟩:=hlim;⟨mc,XR h1,h2⟩⟩
  have e0:Di P w K mg (zA s₁.heap H) callerA [] s₁ H:=⟨Z,hM,λb o e=>YR e,Nat.le_of_eq (SM _ _),trivial,λb hb=>absurd (show b∈([] :Da Addr)from hb) (by simp),hok,.of_eq hg⟩
  refine codeAny_mono ((F _ hKb (XR hns)).run callerA [] s₁ H ⟨[.ref a],[]⟩ [.ref a] [.ref a] _ _ hr e0 (hbind s₁ (.ref a)) (.cons rfl .nil) (vJ H hO hS)) λr s' h=>?_
  cases r with
  | error e=>exact(hCX H e s' h).elim
  | ok fl=>
    cases fl with
    | next=>exact False.elim h
    | brk=>exact False.elim h
    | cont=>exact False.elim h
    | ret u=>
      obtain⟨v,H',os,bare,un,ahH,r',q⟩:=h
      have q':v =.bl true:=q
      subst q'
      obtain rfl:u=Value.bool true:=r'
      refine⟨Z,OldK.of_keep λb o e=>?_,os,bare⟩
      cases q:H b with
      | none=>exact un.keep b o e q (by intro z;exact absurd (show b∈([] :Da Addr)from z) (by simp)) (by simp)
      | some u=>
        rcases hO b with z|⟨ob,xs,z⟩
        . rw[q]at z;cases z
        . have z2:=un.uF b ob _ z
          obtain⟨e1,_⟩:=hok b _ z
          obtain⟨e2,_⟩:=ahH b _ z2
          rw[e]at e1;cases e1
          exact e2
 cases hk:K.lookup a with
 | some o=>
   have e:=KX a o hk
   rw[ha]at e
   cases e
   refine core (λ_=>none) (λ_=> .inl rfl) (.inr ⟨_,vs.toArray,_,hk,Z,Z,Z,by rw[je,ahG];exact hl,by simpa using rv⟩) (λb u z=>by have z':(none:Option HO)=some u:=z;cases z') (λb z=>absurd rfl z) λz=>absurd rfl z
 | none=>
   refine core (λb=>if b=a then some (.gy { cls:=.type "list",data:=.seq vs.toArray } (.lst (ns.map V.int))) else none) (λb=>?_) (.inl (.inr ⟨{ cls:=.type "list",data:=.seq vs.toArray },ay rfl⟩)) (λb u z=>?_) (λb z=>?_) λ_=>hk
   . by_cases hb:b=a
     . exact .inr ⟨_,_,ay hb⟩
     . exact .inl (av hb)
   . by_cases hb:b=a
     . have z':=(ay hb).symm.trans z
       cases z'
       subst hb
       exact⟨ha,by rw[aE];exact hl,vs,_,rv,ha⟩
     . have z':=(av hb).symm.trans z
       cases z'
   . by_cases hb:b=a
     . exact hb
     . exact absurd (av hb) z
variable {n:Nat}{XP:(Str->Option Value)->Heap->Prop}{YP:World->Heap->Prop}
def Za{l:PySem.W.OpenLaw}{k:Nat}{q:Program}{loose:Da Str}{d:DefRec}{K:Params->Fg}{CX:World->AG}{sp:World->Sp}(hn:l.most=some n)(hn2:n<=sizeLine)(hdf:d.params.defaults=[])(hr:fL k callerA)(hY:∀(w:World) (h:Heap),YP w h->(K w.params).In h)(F:∀(w:World) (mg:SO) (fa:Addr) (h:Heap),(K w.params).In h->h.Ns mainGlobals mg->mg d.name=some (.ref fa)->
    ∃fd:FuncData,(∀(s:Shared) (u:Value),BindsTo s fd ⟨[u],[]⟩ [(x,u)])/\
     ∀base:Heap,(K w.params).In base->base.Ns mainGlobals mg->kN l.prog w (K w.params) mg base (CX w) k fa fd [x] (sp w))(vJ:∀(w:World) (H:Hp) (a:Addr) (ns:Da Int),ns.length<=n->Wl H->aB (K w.params) H a (ns.map V.int)->sp w [.ref a] H (λv _=>v =.bl true) λ_ _ _=>False)(hCX:∀(w:World) (H:Hp) (s:Shared) (e:Value) (s':Shared),CX w [] H s (λ_ _ _=>False) e s'->False):
  PySem.W.WalkO q loose XP YP l.row.toRowW d [] (λf vs=>PySem.call f vs):=by
 refine Att.Ol hn hdf λw s₀ s₁ mg mb fa o pm cd doc a vs ns G Y ho hd hcd hmg hobj hints hlen hg=>?_
 have KX:=hY w _ Y
 obtain⟨fd,hb,hF⟩:=F w mg fa _ KX G.T.g hmg
 exact Wm KX G.T.g G.T.b G.T.builtins G.T.nolimit hg hobj hints (fY hlen hn2) hr hF hb (λH hO hS=>vJ w H a ns hlen hO hS) λH e s'=>hCX w H s₁ e s'
def inClass(s:Stmt)(j:Nat):Stmt:=match s with
 | .ClassDef _ _ _ body _ _ _ _ _ _ _=>body.getD j (.Pass ⟨0,0,0,0⟩)
 | _=> .Pass ⟨0,0,0,0⟩
def gG(s:Stmt):Arguments:=match s with
 | .FunctionDef _ a _ _ _ _ _ _ _ _=>a
 | _=>{ posonlyargs:=[],args:=[],vararg:=none,kwonlyargs:=[],kw_defaults:=[],kwarg:=none,defaults:=[] }
def dX(s:Stmt):Da Stmt:=match s with
 | .FunctionDef _ _ b _ _ _ _ _ _ _=>b
 | _=>[]
def aD(s:Stmt):Scope:=match s with
 | .FunctionDef _ _ _ _ _ _ sc _ _ _=>sc
 | _=>{ kind:=.function,names:=[],isGenerator:=false,isCoroutine:=false }
abbrev vM:AG:=λ_ _ _ _ _ _=>False
abbrev E0:XK:=λ_ _ _=>False
structure Ii(K:Fg)(x qual:Str)(st:Stmt)(f:Addr)(fd:FuncData):Prop where
 ex:∃(oc:Value)(od:Option Addr)(kV doc pm:Value)(an:Option Addr)(cdv ct:Value)(osl:Array (Option Value)),
  fd=PySem.W.fnOf x qual (gG st) (dX st) (aD st) .none kV doc pm an cdv ct/\K.lookup f=some ⟨oc,od,.func fd,osl⟩/\PySem.W.codeIn K cdv qual=true
 kp:PySem.W.keepIn K (.ref f)=true
variable {qual:Str}{f:Addr}{N ps:Da Str}{oc doc pm cdv ct:Value}{od an:Option Addr}{osl:Array (Option Value)}
section
variable {P:Program}{w:World}{K:Fg}{mg:SO}{base:Heap}
def Ii.ok{st:Stmt}{k:Nat}(F:Ii K x qual st f fd)(S:aQ N ps (aD st))(len:∀vs H Q E,sp vs H Q E->vs.length=ps.length)(Ch:∀(cdv:Value) (A:Around) (outer:Da Env) (s:Shared) (H:Hp) (vs:Da V) (Q:VK) (E:XK),fL k (A.deeper (envOfC qual (aD st) s.heap.objs.size f cdv))->sp vs H Q E->
    ∃t,xM (uI vM P w K mg base N qual (aD st) f cdv A outer s H E).CI (dX st) t/\t { nx:=λ_ H'=>Q .cy H',rt:=Q } (start N vs) H):kN P w K mg base vM (k+1) f fd ps sp:=by
 obtain⟨oc,od,kV,doc,pm,an,cdv,ct,osl,rfl,lk,hcd⟩:=F.ex
 refine aee lk hcd S len λA outer s H vs Q E hr vJ=>?_
 obtain⟨t,h,q⟩:=Ch cdv A outer s H vs Q E hr vJ
 exact⟨t,h.CI,q⟩
def Ii.binds{st:Stmt}(F:Ii K x qual st f fd)(h:∀(kV doc pm:Value) (an:Option Addr) (cdv ct:Value) (us:Da Value),us.length=ps.length->bindArgs (PySem.W.fnOf x qual (gG st) (dX st) (aD st) .none kV doc pm an cdv ct) ⟨us,[]⟩=pure (ps.zip us)):Binds K fd ps [] :=by
 obtain⟨oc,od,kV,doc,pm,an,cdv,ct,osl,rfl,lk,hcd⟩:=F.ex
 exact .all (h kV doc pm an cdv ct)
def Lq{st:Stmt}{kV:Value}(l:K.lookup f=some ⟨oc,od,.func (PySem.W.fnOf x qual (gG st) (dX st) (aD st) .none kV doc pm an cdv ct),osl⟩)(c:PySem.W.codeIn K cdv qual=true)(k:PySem.W.keepIn K (.ref f)=true):Ii K x qual st f (PySem.W.fnOf x qual (gG st) (dX st) (aD st) .none kV doc pm an cdv ct):=⟨⟨oc,od,kV,doc,pm,an,cdv,ct,osl,Z,l,c⟩,k⟩
end
def bU{A:Around}{k:Nat}(hr:fL k A):A.units+1<cLine:=Gp (Nat.add_le_add_left (by decide:1<=64) _) hr.units
def c8(h:n<=1000):n<sizeLine:=Gp h (by decide)
section
variable {X:Cx}
end
def bq{A B:Prop}(h:B):if false=true then A else B:=by rw[av gH];exact h
def gc{A B:Prop}(h:A):if true=true then A else B:=by rw[ay rfl];exact h
def c6{c A B:Prop}[Decidable c](h1:c->A)(h2:¬ c->B):if c then A else B:=by
 by_cases h:c
 .rw [ay h];exact h1 h
 .rw [av h];exact h2 h
def aK(H H':Hp):Prop:=∀b o,H b=some o->H' b=some o
def aK.refl(H:Hp):aK H H:=λ_ _ h=>h
variable {H H1 H2:Hp}
def aK.trans(a:aK H H1)(b:aK H1 H2):aK H H2:=λc o h=>b c o (a c o h)
variable {H':Hp}
def aK.free(e:aK H H'){l:Addr}(h:H' l=Option.none):H l=Option.none:=by
 cases q:H l with
 | none=>rfl
 | some o=>rw[e l o q]at h;cases h
variable {xs:Da V}
def aK.seq(e:aK H H')(h:aB K H a xs):aB K H' a xs:=by
 rcases h with(h|⟨o,h⟩)|h
 .exact .inl (.inl (e _ _ h))
 .exact .inl (.inr ⟨o,e _ _ h⟩)
 .exact .inr h
section
variable {X:Cx}
def xO:iS X (.builtin "len") (λxs H Q=>∃a AT,xs=[V.ref a]/\H a=some (.dK AT)/\Q (.int AT.length) H):=by intro AC s σ H xs us Q I r h;obtain⟨a,AT,rfl,ha,q⟩:=h;obtain⟨u,rfl,ru⟩:=vals1 r;cases ru;exact aei I (.inl ha) λt s' I'=>⟨.int AT.length,H,I',⟨t,Z⟩,q⟩
end
section
variable {κ:Type}[DecidableEq κ]
def Wn{AT:Da (κ×V)}{k:κ}(h:eL AT k=none):¬ k∈AT.map (·.1):=by intro m;obtain⟨p,hp,e⟩:=aW.mp m;have q:(AT.any λkv=>decide (kv.1=k))=true:=List.any_eq_true.mpr ⟨p,hp,bR e⟩;rw[sL,h]at q;exact absurd q (by simp)
theorem nO:∀{l:Da κ}{k:κ},l.Nodup->¬ k∈l->(l++[k]).Nodup
 | [],k,_,_=>by simp
 | a::r,k,h,hk=>by
  obtain⟨h1,h2⟩:=g_.mp h;show(a::(r++[k])).Nodup;refine g_.mpr ⟨λm=>?_,nO h2 λm=>hk (fm.mpr (Or.inr m))⟩;rcases c7.mp m with q|q
  .exact h1 q
  .exact hk (fm.mpr (Or.inl (dF.mp q).symm))
def Zb{AT:Da (κ×V)}{k:κ}(v:V)(hn:(AT.map (·.1)).Nodup)(h:eL AT k=none):((putK AT k v).map (·.1)).Nodup:=by rw[pO v h,bN];exact nO hn (Wn h)
end
end L2
set_option maxHeartbeats 4000000
namespace L2
open PySem PySem.Spec PyProof.Rows
variable {n:Nat}{K:Fg}
section
variable {X:Cx}
def Cc(_ j:Int):Prop:=0<j/\j.natAbs.log2<9000
theorem iC:jZ X (binaryOp .FloorDiv) (rI Cc λi j=> .int (i / j)):=SV λi j _ _ _ _ _ hc q=>by have h1:(0:Int)<j:=hc.1;exact floordiv_int (by omega) (by rw[Int.fdiv_eq_ediv_of_nonneg i (by omega)];exact q) (.inl (PyProof.noPylong_of_log2 hc.2))
def AJ{i j:Int}(h:(decide (0<j) && decide (j.natAbs.log2<9000))=true):Cc i j:=by obtain⟨a,b⟩:=oz.mp h;exact⟨dN a,dN b⟩
theorem Wo{i j:Int}(h0:0<j)(h:j<2 ^ n)(hn:n<=9000):Cc i j:=by
 refine⟨h0,?_⟩;have e:(j.natAbs:Int)=j:=by omega
 have h2:j.natAbs<2 ^ n:=by
  have:(j.natAbs:Int)<((2 ^ n:Nat):Int):=by rw[e];simpa using h
  exact Int.ofNat_lt.mp this
 have:=(Nat.log2_lt (n:=j.natAbs) (k:=n) (by omega)).mpr h2;omega
def RO(i j:Int):Prop:=∃m n:Nat,i.natAbs<2 ^ m/\j.natAbs<2 ^ n/\m+n<=134217728
def fk:jZ X (binaryOp .Mult) (rI RO λi j=> .int (i*j)):=SV λ_ _ _ _ _ _ _ hc q=>by obtain⟨m,n,h1,h2,h3⟩:=hc;exact mul_int q (IntMulOk.of_le (Rp.mpr h1) (Rp.mpr h2) h3)
def Om:iS X (.builtin "isinstance") (λxs H Q=>∃x n t b,xs=[x,.ty n]/\m9 X.K H x t/\PySem.W.kitOne X.K t (.type n)=some b/\Q (.bl b) H):=by intro AC s σ H xs us Q I r h;obtain⟨x,n,t,b,rfl,ty,e,q⟩:=h;obtain⟨u,w',rfl,ru,rw'⟩:=vals2 r;have rw2:w'=Value.type n:=rw';subst rw2;exact S_ I ru ty e λtk=>⟨.bl b,H,I.tok _,Z,q⟩
def Lr{n:String}:PySem.W.kitOne K (.type n) (.type n)=some true:=by unfold PySem.W.kitOne;rw[ay (Kn _)]
def Ls:PySem.W.kitOne K (.type "int") (.type "bool")=some false:=by rfl
mutual
inductive Dt(K:Fg)(H:Hp):V->PyData->Prop
 | cy:Dt K H .cy .none
 | bl (b:Bool):Dt K H (.bl b) (.bool b)
 | int (i:Int):Dt K H (.int i) (.int i)
 | str (x:Str):Dt K H (.str x) (.str x)
 | lst {a:Addr} {xs:Da V} {ds:Da PyData}:aB K H a xs->CO K H xs ds->Dt K H (.ref a) (.list ds)
 | tup {a:Addr} {xs:Da V} {ds:Da PyData}:dU K H a xs->CO K H xs ds->Dt K H (.ref a) (.tuple ds)
inductive CO(K:Fg)(H:Hp):Da V->Da PyData->Prop
 | nil:CO K H [] []
 | cons {x:V} {xs:Da V} {d:PyData} {ds:Da PyData}:Dt K H x d->CO K H xs ds->CO K H (x::xs) (d::ds)
end
section
variable {AC:AO}{σ:St}{H:Hp}{s:Shared}
mutual
theorem Dt.reads(I:Inv X AC σ H s):∀{x:V}{d:PyData}{u:Value},Dt X.K H x d->RelV x u->∃as,Reads s.heap u d as
 | _,_,u,.cy,r=>by cases(show u=Value.none from r);exact⟨_,.none⟩
 | _,_,u,.bl b,r=>by cases(show u=Value.bool b from r);exact⟨_,.bool b⟩
 | _,_,u,.int i,r=>by obtain⟨t,rfl⟩:=(show ∃t,u=Value.int i t from r);exact⟨_,.int i t⟩
 | _,_,u,.str x,r=>by obtain⟨t,rfl⟩:=(show ∃t,u=Value.str x t from r);exact⟨_,.str x t⟩
 | _,_,u,@Dt.lst _ _ a xs ds h hd,r=>by cases(show u=Value.ref a from r);obtain⟨BT,rv,⟨o,n,e,c,_,d⟩,hz⟩:=I.list h;obtain⟨as,ra⟩:=CO.reads I hd rv;exact⟨_,.list e c d (by simpa using ra)⟩
 | _,_,u,@Dt.tup _ _ a xs ds h hd,r=>by cases(show u=Value.ref a from r);obtain⟨BT,rv,⟨o,e,c,n,d⟩,hz⟩:=I.tuple h;obtain⟨as,ra⟩:=CO.reads I hd rv;exact⟨_,.tuple e c d (by simpa using ra)⟩
theorem CO.reads(I:Inv X AC σ H s):∀{xs:Da V}{ds:Da PyData}{us:Da Value},CO X.K H xs ds->Vals xs us->∃as,ReadsAll s.heap us ds as
 | _,_,_,.nil,.nil=>⟨_,.nil⟩
 | _,_,_,.cons h t,.cons r rs=>by obtain⟨as,ra⟩:=Dt.reads I h r;obtain⟨bs,rb⟩:=CO.reads I t rs;exact⟨_,.cons ra rb⟩
end
end
inductive abl(K:Fg)(x:V)(y:V)(H:Hp)(Q:VK):Prop
 |mk(d e:_)(_:Dt K H x d)(_:Dt K H y e)(_:SeqAt.shaped d=true)(_:SeqAt.shaped e=true)(_:Q (.bl (PyData.eqv d e)) H)
def abm(hu:X.A.units+64<cLine):jZ X (compareOp .Eq) (abl X.K):=by intro AC s σ H x y v u Q I rx ry h;obtain⟨d,e,hd,he,sd,se,q⟩:=h;obtain⟨as,ra⟩:=hd.reads I rx;obtain⟨bs,rb⟩:=he.reads I ry;exact eq_dataH ra rb sd se hu ⟨.bl _,H,I,Z,q⟩
structure Bx(p:Prop):Prop where
 ex:p
def bx(f:Sp):Sp:=λvs H Q E=>Bx (f vs H Q E)
structure Dn(P:Program)(w:World)(K:Fg)(mg:SO)(base:Heap)(k:Nat)(x:Str)(ps:Da Str)(sp:Sp):Prop where
 ex:∃f fd,kN P w K mg base vM k f fd ps sp/\Binds K fd ps []/\PySem.W.keepIn K (.ref f)=true/\mg x=some (.ref f)
end
structure At(K:Fg)(mg:SO)(x:Str)(st:Stmt)(f:Addr)(fd:FuncData):Prop where
 fn:Ii K x x st f fd
 name:mg x=some (.ref f)
variable {P:Program}{w:World}{mg:SO}{base:Heap}{x:Str}{f:Addr}{fd:FuncData}{N ps:Da Str}{sp:Sp}
theorem At.ok{st:Stmt}{k:Nat}(F:At K mg x st f fd)(S:aQ N ps (aD st))(len:∀vs H Q E,sp vs H Q E->vs.length=ps.length)(Ch:∀(cdv:Value) (A:Around) (outer:Da Env) (s:Shared) (H:Hp) (vs:Da V) (Q:VK) (E:XK),fL k (A.deeper (envOfC x (aD st) s.heap.objs.size f cdv))->sp vs H Q E->
    ∃t,xM (uI vM P w K mg base N x (aD st) f cdv A outer s H E).CI (dX st) t/\t { nx:=λ_ H'=>Q .cy H',rt:=Q } (start N vs) H)(h:∀(kV doc pm:Value) (an:Option Addr) (cdv ct:Value) (us:Da Value),us.length=ps.length->bindArgs (PySem.W.fnOf x x (gG st) (dX st) (aD st) .none kV doc pm an cdv ct) ⟨us,[]⟩=pure (ps.zip us)):
  Dn P w K mg base (k+1) x ps sp:=⟨f,fd,F.fn.ok S len Ch,F.fn.binds h,F.fn.kp,F.name⟩
variable {h:Heap}{oc doc pm cdv ct:Value}{od an:Option Addr}{osl:Array (Option Value)}
def XS{st:Stmt}{kV:Value}(X:K.In h)(G:h.Ns mainGlobals mg)(a:PySem.W.nsIn K mainGlobals x=some (some (.ref f)))(l:K.lookup f=some ⟨oc,od,.func (PySem.W.fnOf x x (gG st) (dX st) (aD st) .none kV doc pm an cdv ct),osl⟩)(c:PySem.W.codeIn K cdv x=true)(k:PySem.W.keepIn K (.ref f)=true):At K mg x st f (PySem.W.fnOf x x (gG st) (dX st) (aD st) .none kV doc pm an cdv ct):=⟨Lq l c k,PySem.W.mg_of X G a⟩
def aK.tup{H H':Hp}{K:Fg}{a:Addr}{xs:Da V}(e:aK H H')(h:dU K H a xs):dU K H' a xs:=by
 rcases h with(h|⟨o,h⟩)|h
 .exact .inl (.inl (e _ _ h))
 .exact .inl (.inr ⟨o,e _ _ h⟩)
 .exact .inr h
variable {H:Hp}
def aH{p:Addr}(h:H p=none)(o:HO):aK H (upd H p o):=λb u q=>by rw[az (aJ q h)];exact q
def small(h:n<=1000):n<=sizeLine:=BX (c8 h)
end L2
namespace Jm
def cf(a b:Int):Int:=(Int.gcd a b:Int)
theorem Qf(a:Int)(h:0<=a):cf a 0=a:=by unfold cf;rw[Int.gcd_zero_right];omega
def Gx(a b:Int)(h:0<b):cf b (a % b)=cf a b:=by unfold cf;rw[Int.emod_def,Int.gcd_sub_mul_left_right,Int.gcd_comm]
theorem Es(a b:Int)(h:0<a\/0<b):0<cf a b:=by
 unfold cf;have:0<Int.gcd a b:=by
  rcases h with h|h
  .exact Int.gcd_pos_of_ne_zero_left _ (by omega)
  .exact Int.gcd_pos_of_ne_zero_right _ (by omega)
 omega
def Qg(a b:Int):cf a b=cf b a:=by unfold cf;rw[Int.gcd_comm]
def abn(a b:Int):cf a (if b<0 then -b else b)=cf a b:=by
 unfold cf;split
 .rw [Int.gcd_neg]
 .rfl
abbrev fr(t b:Int):Rat:=Rat.divInt t b
def Tu(t b:Int)(h:0<b):(fr t b).num=t / cf b t:=by unfold fr cf;rw[Rat.num_divInt,Int.sign_eq_one_of_pos h,Int.one_mul]
theorem Tv(t b:Int)(h:0<b):((fr t b).den:Int)=b / cf b t:=by unfold fr cf;rw[Rat.den_divInt,av (by omega)];rw[Int.natCast_ediv];congr 1;omega
def tT(a b:Int):cf a b∣a:=Int.gcd_dvd_left ..
def qM(a b:Int):cf a b∣b:=Int.gcd_dvd_right ..
theorem KH{t b t' b':Int}(h:0<b)(h':0<b')(e:t*b'=t'*b):fr t b=fr t' b':=(Rat.divInt_eq_divInt_iff (by omega) (by omega)).mpr e
def Tw{n d:Int}(h:0<d)(c:cf n d=1):(fr n d).num=n/\((fr n d).den:Int)=d:=by rw[Tu n d h,Tv n d h,Qg,c,Eb,Eb];exact⟨Z,Z⟩
def Sz(n:Nat)(x:Int):Prop:=x.natAbs<2 ^ n
def Sz.mono{m n:Nat}{x:Int}(h:Sz m x)(hn:m<=n):Sz n x:=lz h (Nat.pow_le_pow_right (by decide) hn)
def Sz.of_le{n:Nat}{x y:Int}(h:Sz n y)(hx:x.natAbs<=y.natAbs):Sz n x:=Gp hx h
theorem Sz.neg{n:Nat}{x:Int}(h:Sz n x):Sz n (-x):=h.of_le (by omega)
def Sz.mul{m n:Nat}{x y:Int}(hx:Sz m x)(hy:Sz n y):Sz (m+n) (x*y):=by unfold Sz at *;rw[D5,Nat.pow_add];exact Nat.mul_lt_mul'' hx hy
theorem Sz.add{m n:Nat}{x y:Int}(hx:Sz m x)(hy:Sz n y):Sz (max m n+1) (x+y):=by have h1:=hx.mono (Nat.le_max_left m n);have h2:=hy.mono (Nat.le_max_right m n);unfold Sz at *;rw[Nat.pow_succ];omega
def Sz.kO{n:Nat}{x y:Int}(hx:Sz n x)(hy:Sz n y):Sz (n+1) (x+y):=by
 have:=hx.add hy
 rwa [Nat.max_self]at this
theorem Sz.lQ{n:Nat}{x B:Int}(h0:-B<=x)(h1:x<=B)(hB:Sz n B):Sz n x:=hB.of_le (by omega)
theorem Sz.ediv{n:Nat}{x y:Int}(h:Sz n x)(hy:0<y):Sz n (x / y):=by
 refine h.of_le ?_;have e:=Int.emod_add_mul_ediv x y;have m0:=o9 x (b:=y) (by omega);have m1:=zh x hy;rcases Ed x 0 with hx|hx
 .have q0:x / y<0:=Int.ediv_neg_of_neg_of_pos hx hy;have z:y*(x / y)<=1*(x / y):=Int.mul_le_mul_of_nonpos_right (by omega) (by omega);rcases Ed (x / y) x with k|k
  .exfalso;have z2:y*(x / y)<=y*(x-1):=HW (by omega) (by omega);have z3:y*(x-1)<=1*(x-1)-(y-1):=by
    have z4:(y-1)*(x-1)<=(y-1)*(-2):=HW (by omega) (by omega);have z5:y*(x-1)=(y-1)*(x-1)+(x-1):=by grind
    omega
   omega
  .omega
 .have q0:0<=x / y:=Ks hx (by omega);have:=Ko y hx;omega
theorem Sz.dvd{n:Nat}{x y:Int}(h:Sz n y)(hy:0<y)(hx:0<=x)(d:x∣y):Sz n x:=h.of_le (by have:=D9 hy d;omega)
theorem Tz{n:Nat}:∀{ws:Da Int},(∀m∈ws,Sz n m)->Sz (n+ws.length) ws.sum
 | [],_=>by unfold Sz;show 0<_;exact Nat.two_pow_pos _
 | x::r,h=>by have h1:=Tz (ws:=r) λm hm=>h m (cQ _ hm);have h2:=((h x cM).mono (qC n r.length)).kO h1;rw[b9];exact h2.mono (by rw[jf];omega)
def Et(c:Int):Nat->Int
 | 0=>c
 | i+1=>Et c i / 10000000000
def cellOf(ns:Da Int)(k:Int):Int:=if 0<(ns.length:Int) then ns.getD (k % ns.length).toNat 0 else 0
def AK(ns:Da Int)(k:Int):Int:=if 0<(ns.length:Int) then k / ns.length else 1
def mixed(c k j BM:Int):Int:=
 let one:=(c*7919+k*104729+j*1299709+31) % 1000000007
 let two:=(one*48271+c / 1009) % 998244353
 let three:=(two*(one % 9973+1)+j) % 1000000009
 (one*69621+three*40692+three / 1013) % 2147483647 % BM
def draw(ns:Da Int)(k j BM:Int):Int:=if AK ns k=0/\1000000000000000000<=cellOf ns k/\0<Et (cellOf ns k) j.toNat then Et (cellOf ns k) j.toNat % 10000000000 % BM
 else mixed (cellOf ns k) k j BM
theorem Zc(ns:Da Int)(k j BM:Int)(h:0<BM):0<=draw ns k j BM:=by
 unfold draw;split
 .exact o9 _ (by omega)
 .exact o9 _ (by omega)
def Zd(ns:Da Int)(k j BM:Int)(h:0<BM):draw ns k j BM<BM:=by
 unfold draw;split
 .exact zh _ h
 .exact zh _ h
end Jm
namespace L2
open PySem PySem.Spec PyProof.Rows
inductive aen(K:Fg)(vs:Da V)(H:Hp)(Q:VK)(E:XK):Prop
 |mk(a:Addr)(ns:Da Int)(k j BM:Int)(_:vs=[.ref a,.int k,.int j,.int BM])(_:aB K H a (ns.map V.int))(_:ns.length<=63)(_:0<=k)(_:0<=j)(_:j<2 ^ 62)(_:0<BM)(_:Q (.int (Jm.draw ns k j BM)) H)
def oO(K:Fg):Sp:=bx (aen K)
variable {K:Fg}{H:Hp}{Q:VK}{a:Addr}{ns:Da Int}
def cR{E:XK}{k j BM:Int}(hS:aB K H a (ns.map V.int))(h63:ns.length<=63)(h1:0<=k)(h2:0<=j)(h3:j<2 ^ 62)(h4:0<BM)(h:∀d:Int,d=Jm.draw ns k j BM->0<=d->d<BM->Q (.int d) H):oO K [.ref a,.int k,.int j,.int BM] H Q E:=
 ⟨a,ns,k,j,BM,Z,hS,h63,h1,h2,h3,h4,h _ rfl (Jm.Zc ns k j BM h4) (Jm.Zd ns k j BM h4)⟩
def Wq:Sp:=λvs H Q _=>∃a b:Int,vs=[.int a,.int b]/\0<=a/\0<=b/\Q (.int (Jm.cf a b)) H
abbrev oE(q:Rat):HO:=.tup [.int q.num,.int (q.den:Int)]
def XT:Sp:=λvs H Q _=>∃i:Int,vs=[.int i]/\Q (.bl true) H
def KI(K:Fg):Sp:=λvs H Q _=>∃(a:Addr)(ns:Da Int),vs=[.ref a]/\aB K H a (ns.map V.int)/\ns.length<=63/\∀H',Q (.bl true) H'
section
variable {X:Cx}{pos:Pos}
def Ends.too(D:Ends)(J:St->Hp->Prop):Ends:={ D with nx:=J }
def aeo(t u:TS)(D:Ends)(σ:St)(J:St->Hp->Prop):Bool->Hp->Prop:=λb H1=>if b=true then t (D.too J) σ H1 else u (D.too J) σ H1
inductive Wr(c:TT)(t u:TS)(D:Ends)(σ:St)(H:Hp):Prop
 |mk(J:St->Hp->Prop)(_:c σ H (aeo t u D σ J))(_:∀σ' H',J σ' H'->D.nx σ' H')
end
theorem vN{i j:Int}(h0:0<j)(h:Jm.Sz 9000 j):Cc i j:=by refine⟨h0,?_⟩;exact(Nat.log2_lt (by omega)).mpr h
variable {m n:Nat}
def eX{i j:Int}(hi:Jm.Sz m i)(hj:Jm.Sz n j)(h:m+n<=134217728:=by decide):RO i j:=⟨m,n,hi,hj,h⟩
def gX{x:Int}(h:decide (x.natAbs<2 ^ n)=true):Jm.Sz n x:=by unfold Jm.Sz;exact dN h
theorem Ze{k:Int}(h0:0<=k)(h:k<(ns.length:Int)):lP (ns.map V.int) k=some (.int (ns.getD k.toNat 0)):=by
 have hk:k.toNat<ns.length:=by omega
 have ek:k=((k.toNat:Nat):Int):=by omega
 have q:lP (ns.map V.int) ((k.toNat:Nat):Int)=some (.int (ns.getD k.toNat 0)):=aC (by rw[bV,dD,bf hk] <;> rfl);rw[<-ek]at q;exact q
variable {elt Bn:Expr}{scope:Scope}{pos:Pos}{env:Env}
section
variable {prog:Program}{w:World}{A:Around}{R:Result->Shared->Prop}{s:Shared}
theorem Lu{target:Expr}{it Ap:Value}(J:Nat->Shared->Prop)(turn:∀n s,J n s->wpAny (model prog w) A (pyNext it) (λr s₁=>match r with
    | none=>R (.ok .next) s₁
    | some v=>wpAny (model prog w) A (letOwnedTupleGo target it v) (λ_ s₂=>wpAny (model prog w) A (assign target env v) (λ_ s₃=>wpAny (model prog w) A (eval elt env) (λx s₄=>
            wpAny (model prog w) A (call (.builtin "list.append") [Ap,x]) (λ_ s₅=>∃m,m<n/\J m s₅) (λ_ _=>False) s₄) (λ_ _=>False) s₃) (λ_ _=>False) s₂) (λ_ _=>False) s₁) (λ_ _=>False) s)(n:Nat)(h:J n s):codeAny (model prog w) A (.compLoop (.ListComp elt [⟨target,Bn,[],0⟩] scope pos) 0 it Ap env) R s:=by
 refine codeAny_loop rfl J (λn s hI=>?_) n h
 show wpAny _ A ((compTurn (.ListComp elt [⟨target,Bn,[],0⟩] scope pos) 0 it Ap env).onRaise (λx=>do noteFrame x env;theTreesLotGoes x)) _ _ s
 refine wpAny_noted ?_
 rw[compTurn_list1]
 refine aA (D_ (aA (jX (turn n s hI) (λr s₁ h₁=>?_) λ_ _ h'=>h'.elim)))
 cases r with
 | none=>exact bw h₁
 | some v=>
   refine aA (jX h₁ (λ_ s₂ h₂=>aA (jX h₂ (λ_ s₃ h₃=>?_) λ_ _ h'=>h'.elim)) λ_ _ h'=>h'.elim)
   exact aA (aA (jX h₃ (λx s₄ h₄=>aA (jX h₄ (λ_ s₅ h₅=>bw (bw ⟨Z,h₅⟩)) λ_ _ h'=>h'.elim)) λ_ _ h'=>h'.elim))
end
def zJ(h:∀y∈scope.names,y.2 =.free->∃c,env.cells.lookup y.1=some c):∃cl,closureFor scope env=pure cl/\(∀y c,(y,c)∈cl->env.cells.lookup y=some c/\(y,NameKind.free)∈scope.names)/\∀y,(y,NameKind.free)∈scope.names->∃c,(y,c)∈cl:=by
 have gen:∀(names:Da (Str×NameKind))(Ap:Da (Str×Addr)),(∀y∈names,y.2 =.free->∃c,env.cells.lookup y.1=some c)->
   ∃cl,(forIn names Ap λ(x:Str×NameKind)(cs:Da (Str×Addr))=>(if(x.2==NameKind.free)=true then do let a <-cellOf env x.1;pure (ForInStep.yield ((x.1,a)::cs)) else pure (ForInStep.yield cs):Sem _))=pure cl/\
    (∀y c,(y,c)∈cl->(env.cells.lookup y=some c/\(y,NameKind.free)∈names)\/(y,c)∈Ap)/\(∀p∈Ap,p∈cl)/\∀y,(y,NameKind.free)∈names->∃c,(y,c)∈cl:=by
  intro names
  induction names with
  | nil=>intro Ap _;exact⟨Ap,by rw[D6],λy c m=> .inr m,λp hp=>hp,λy m=>nomatch m⟩
  | cons x r ih=>
    intro Ap hc
    obtain⟨n,k⟩:=x
    by_cases hk:k =.free
    . subst hk
      obtain⟨c,ec⟩:=hc (n,.free) cM rfl
      obtain⟨cl,e,h1,h2,h3⟩:=ih ((n,c)::Ap) λy hy=>hc y (cQ _ hy)
      refine⟨cl,?_,λy d m=>?_,λp hp=>h2 p (cQ _ hp),λy m=>?_⟩
      . rw[Ku,<-e]
        have aep:cellOf env n=pure c:=by unfold cellOf;rw[ec]
        simp only[Kn,if_true,aep,pure_bind]
      . rcases h1 y d m with⟨a,b⟩|b
        . exact .inl ⟨a,cQ _ b⟩
        . rcases fm.mp b with z|z
          . cases z;exact .inl ⟨ec,cM⟩
          . exact .inr z
      . rcases fm.mp m with z|z
        . cases z;exact⟨c,h2 _ cM⟩
        . exact h3 y z
    . obtain⟨cl,e,h1,h2,h3⟩:=ih Ap λy hy=>hc y (cQ _ hy)
      have hb:(k==NameKind.free)=false:=by simpa using hk
      refine⟨cl,?_,λy d m=>?_,h2,λy m=>?_⟩
      . rw[Ku,<-e]
        simp only[hb,KZ,tQ,pure_bind]
      . rcases h1 y d m with⟨a,b⟩|b
        . exact .inl ⟨a,cQ _ b⟩
        . exact .inr b
      . rcases fm.mp m with z|z
        . cases z;exact absurd rfl hk
        . exact h3 y z
 obtain⟨cl,e,h1,_,h3⟩:=gen scope.names [] h;refine⟨cl,?_,λy c m=>(h1 y c m).elim id (λz=>nomatch z),h3⟩;have e2:closureFor scope env=((forIn scope.names ([] :Da (Str×Addr)) λ(x:Str×NameKind)(cs:Da (Str×Addr))=>(if(x.2==NameKind.free)=true then do let a <-cellOf env x.1;pure (ForInStep.yield ((x.1,a)::cs)) else pure (ForInStep.yield cs):Sem _)) >>= λr=>pure r):=rfl;rw[e2,e];rfl
def lookup_mem{α:Type}{l:Da (Str×α)}{y:Str}{c:α}(h:(y,c)∈l):∃d,l.lookup y=some d:=by
 induction l with
 | nil=>cases h
 | cons p r ih=>
  obtain⟨k,v⟩:=p;rw[mG];cases hb:y==k with
  | true=>exact⟨v,Z⟩
  | false=>
   rcases fm.mp h with z|z
   .cases z;simp at hb
   .exact ih z
theorem nP:∀(names:Da (Str×NameKind))(n:Nat)(Ap:Da (Str×Addr)){x:Str}{c:Addr},(cellsFrom n names Ap).lookup x=some c->n<=c\/Ap.lookup x=some c
 | [],_,_,_,_,h=> .inr h
 | (name,kind)::r,n,Ap,x,c,h=>by
  unfold cellsFrom at h;split at h
  .rcases nP r (n+1) _ h with z|z
   .exact .inl (by omega)
   .rw [mG]at z;cases hb:x==name with
    | true=>rw[hb]at z;cases z;exact .inl (aL _)
    | false=>rw[hb]at z;exact .inr z
  .exact nP r n Ap h
theorem Jr:∀(names:Da (Str×NameKind))(n n0:Nat)(Ap:Da (Str×Addr)){x:Str}{c:Addr},n0<=n->(∀d,Ap.lookup x=some d->n0<=d)->(cellsFrom n names Ap).lookup x=some c->n0<=c:=by
 intro names n n0 Ap x c hn ha h;rcases nP names n Ap h with z|z
 .omega
 .exact ha c z
theorem uK:∀(names:Da (Str×NameKind))(n:Nat)(Ap:Da (Str×Addr)){x:Str}{c:Addr},(x,NameKind.cell)∈names->(cellsFrom n names Ap).lookup x=some c->n<=c
 | [],_,_,_,_,m,_=>nomatch m
 | (name,kind)::r,n,Ap,x,c,m,h=>by
  unfold cellsFrom at h;rcases fm.mp m with z|z
  .cases z;rw[ay (by rfl)]at h;refine Jr r (n+1) n _ (by omega) (λd hd=>?_) h;rw[mG,Kn]at hd;cases hd;exact aL _
  .split at h
   .exact fY (Nat.le_succ _) (uK r (n+1) _ z h)
   .exact uK r n Ap z h
theorem nQ:∀(names:Da (Str×NameKind))(n:Nat)(Ap:Da (Str×Addr)){x:Str},(∃c,Ap.lookup x=some c)->∃c,(cellsFrom n names Ap).lookup x=some c
 | [],_,_,_,h=>h
 | (name,kind)::r,n,Ap,x,h=>by
  unfold cellsFrom;split
  .refine nQ r (n+1) _ ?_;rw[mG];cases x==name with
   | true=>exact⟨_,Z⟩
   | false=>exact h
  .exact nQ r n Ap h
theorem uL:∀(names:Da (Str×NameKind))(n:Nat)(Ap:Da (Str×Addr)){x:Str},(x,NameKind.cell)∈names->∃c,(cellsFrom n names Ap).lookup x=some c
 | [],_,_,_,m=>nomatch m
 | (name,kind)::r,n,Ap,x,m=>by
  unfold cellsFrom;rcases fm.mp m with z|z
  .cases z;rw[ay (by rfl)];refine nQ r (n+1) _ ⟨n,?_⟩;rw[mG,Kn]
  .split
   .exact uL r (n+1) _ z
   .exact uL r n Ap z
theorem uM:∀(names:Da (Str×NameKind))(n:Nat)(Ap:Da (Str×Addr)){x:Str},(x,NameKind.cell)∉names->(cellsFrom n names Ap).lookup x=Ap.lookup x
 | [],_,_,_,_=>rfl
 | (name,kind)::r,n,Ap,x,m=>by
  have m2:(x,NameKind.cell)∉r:=λz=>m (cQ _ z);unfold cellsFrom;split
  .rename_i hk;rw[uM r (n+1) _ m2,mG];cases hb:x==name with
   | true=>
    have e1:=vh.mp hb;have e2:kind=NameKind.cell:=by simpa using hk
    subst e1 e2;exact absurd cM m
   | false=>rfl
  .exact uM r n Ap m2
theorem uN:∀(names:Da (Str×NameKind))(n:Nat)(Ap:Da (Str×Addr)),(∀x y c,Ap.lookup x=some c->Ap.lookup y=some c->x=y)->(∀x c,Ap.lookup x=some c->c<n)->∀x y c,(cellsFrom n names Ap).lookup x=some c->(cellsFrom n names Ap).lookup y=some c->x=y
 | [],_,_,h,_=>h
 | (name,kind)::r,n,Ap,h,hlt=>by
  intro x y c hx hy;unfold cellsFrom at hx hy;split at hx
  .rename_i hk;rw[ay hk]at hy;refine uN r (n+1) _ (λx y c hx hy=>?_) (λx c hx=>?_) x y c hx hy
   .rw [mG]at hx hy;cases hb:x==name with
    | true=>
     cases hb2:y==name with
     | true=>rw[vh.mp hb,vh.mp hb2]
     | false=>rw[hb]at hx;rw[hb2]at hy;cases hx;exact absurd (hlt _ _ hy) (kK _)
    | false=>
     cases hb2:y==name with
     | true=>rw[hb]at hx;rw[hb2]at hy;cases hy;exact absurd (hlt _ _ hx) (kK _)
     | false=>rw[hb]at hx;rw[hb2]at hy;exact h x y c hx hy
   .rw [mG]at hx;cases hb:x==name with
    | true=>rw[hb]at hx;cases hx;exact Nat.lt_succ_self _
    | false=>rw[hb]at hx;exact Rw (hlt _ _ hx)
  .rename_i hk;rw[av hk]at hy;exact uN r n Ap h hlt x y c hx hy
theorem yl:∀(names:Da (Str×NameKind))(h:Heap)(Ap:Da (Str×Addr)),(∀x c,Ap.lookup x=some c->∃v,h.IsCell c v)->∀x c,(cellsFrom h.objs.size names Ap).lookup x=some c->∃v,(pushCells h names).IsCell c v
 | [],_,_,ha=>ha
 | (name,kind)::r,h,Ap,ha=>by
  intro x c hx;unfold cellsFrom at hx;unfold pushCells;split at hx
  .rename_i hk;rw[ay hk];have q:=yl r (h.push { cls:=.type "cell",data:=.cell none }) ((name,h.objs.size)::Ap) (λx c hx=>by
    rw[mG]at hx;cases hb:x==name with
    | true=>rw[hb]at hx;cases hx;exact⟨none,_,fK _ rfl,Z⟩
    | false=>rw[hb]at hx;obtain⟨v,z⟩:=ha x c hx;exact⟨v,z.keeps λb o e=>cU _ e⟩) x c
   rw[nL]at q;exact q hx
  .rename_i hk;rw[av hk];exact yl r h Ap ha x c hx
def eY(X:Cx)(N2:Da Str)(scope:Scope)(cl:Da (Str×Addr))(s₂:Shared)(H₂:Hp)(fp:Da Addr):Cx where
 prog:=X.prog
 w:=X.w
 K:=X.K
 mg:=X.mg
 base:=X.base
 A:=X.A
 N:=N2
 s₀:=s₂
 H₀:=H₂
 env:={ scope:=relabel scope X.env,locals:=s₂.heap.objs.size,globals:=X.env.globals,cells:=cellsFrom (s₂.heap.objs.size+1) scope.names cl,qual:=X.env.qual,func:=none,code:=X.env.code,frame:=X.env.frame,builtins:=X.env.builtins }
 outer:=X.stack
 stack:=X.stack
 ex:=fp
 fn:=λx=>decide (scope.names.lookup x=some .cell)
 calm:=X.calm
 pn:=[]
 xe:=λ_ _=>False
def ud(XN:Da Str)(xn sn:Da (Str×NameKind))(N2:Da Str)(ix:Da (Option Nat)):Bool:=(ix.length==N2.length) &&
 ((ix.zip N2).all λp=>match p.1 with
   | none=>true
   | some j=>XN[j]?==some p.2 && sn.lookup p.2==some .free && (xn.lookup p.2==some .cell || xn.lookup p.2==some .free)) &&
 (sn.all λy=>y.2 !=.free || (xn.lookup y.1==some .cell || xn.lookup y.1==some .free)) &&
 (sn.all λy=>y.2 !=.local || sn.lookup y.1==some .local) &&
 (sn.all λy=>y.2 !=.free || sn.all λz=>z.2 !=.cell || z.1 != y.1)
variable {x:Str}
def CP{k:NameKind}(h:(relabel scope env).names.lookup x=some k)(hk:k =.cell\/k =.free):(x,NameKind.cell)∈scope.names\/(x,NameKind.free)∈scope.names:=by
 have m:=zf h;obtain⟨y,hy,e⟩:=aW.mp m;obtain⟨n,k0⟩:=y;dsimp only at e;split at e
 .rename_i hc;cases e;have h1:k0=NameKind.free:=by have:=(oz.mp (oz.mp hc).1).1;simpa using this
  subst h1;exact .inr hy
 .cases e;rcases hk with rfl|rfl
  .exact .inl hy
  .exact .inr hy
def Lv:∀{x:Str},scope.names.lookup x=some .free->(relabel scope env).names.lookup x=some .cell\/(relabel scope env).names.lookup x=some .free:=by
 intro x h;have gen:∀(l:Da (Str×NameKind)),l.lookup x=some .free->(l.map λ(n,k)=>if(k==NameKind.free && env.scope.kind ==.function && env.kindOf n==some .cell) then(n,NameKind.cell) else(n,k)).lookup x=some .cell\/
   (l.map λ(n,k)=>if(k==NameKind.free && env.scope.kind ==.function && env.kindOf n==some .cell) then(n,NameKind.cell) else(n,k)).lookup x=some .free:=by
  intro l
  induction l with
  | nil=>intro h;cases h
  | cons p r ih=>
    intro h
    obtain⟨n,k⟩:=p
    rw[mG]at h
    rw[bK]
    dsimp only
    cases hb:x==n with
    | true=>
      rw[hb]at h
      cases h
      split
      . rw[mG,hb];exact .inl rfl
      . rw[mG,hb];exact .inr rfl
    | false=>
      rw[hb]at h
      split
      . rw[mG,hb];exact ih h
      . rw[mG,hb];exact ih h
 exact gen scope.names h
variable {X:Cx}{AC:AO}{σ σ2:St}{s:Shared}{N2:Da Str}{cl:Da (Str×Addr)}{fp:Da Addr}
theorem Eu(I:Inv X AC σ H s)(hk:scope.kind =.function)(Lw:∀y c,(y,c)∈cl->X.env.cells.lookup y=some c)(Gy:∀y,(y,NameKind.free)∈scope.names->∃c,(y,c)∈cl)(hfp:∀b∈fp,qJ X AC H b)(hfo:∀b∈fp,b<s.heap.objs.size)(hl:σ2.length=N2.length)(hσ:∀(i:Nat) (x:Str) (v:V),N2[i]?=some x->σ2[i]?=some (some v)->scope.names.lookup x=some .free/\(X.env.kindOf x=some .cell\/X.env.kindOf x=some .free)/\∃j:Nat,X.N[j]?=some x/\σ[j]?=some (some v))(hd:∀x,(x,NameKind.free)∈scope.names->(x,NameKind.cell)∉scope.names):
  Inv (eY X N2 scope cl s H fp) [] σ2 H { s with heap:=pushCells (s.heap.push { cls:=.type "dict",data:=.dict #[] }) scope.names }:=by
 have keeps:∀b o,s.heap.get? b=some o->(pushCells (s.heap.push { cls:=.type "dict",data:=.dict #[] }) scope.names).get? b=some o:=λb o e=>Kv _ _ b o (cU _ e)
 have hsz:(s.heap.push { cls:=.type "dict",data:=.dict #[] }).objs.size=s.heap.objs.size+1:=nL ..
 have Cd:∀x c,cl.lookup x=some c->X.env.cells.lookup x=some c:=λx c e=>Lw x c (zf e)
 have clt:∀x c,cl.lookup x=some c->c<s.heap.objs.size:=λx c e=>by obtain⟨v,z⟩:=I.cell x c (Cd x c e);exact z.lt
 have there:=yl scope.names (s.heap.push { cls:=.type "dict",data:=.dict #[] }) cl (λx c e=>by obtain⟨v,z⟩:=I.cell x c (Cd x c e);exact⟨v,z.keeps λb o e=>cU _ e⟩)
 rw[hsz]at there
 have cells:∀x c,(cellsFrom (s.heap.objs.size+1) scope.names cl).lookup x=some c->s.heap.objs.size+1<=c\/X.env.cells.lookup x=some c:=λx c e=>by
  rcases nP _ _ _ e with z|z
  .exact .inl z
  .exact .inr (Cd x c z)
 have okY:(eY X N2 scope cl s H fp).Ok:=by
  refine⟨I.ok.mod,hk,I.ok.glob,I.ok.blt,aL _,?_,?_,?_,I.ok.hd,I.ok.frames,.inl rfl,?_,I.bs,fY I.ok.HX I.sz,?_,?_,I.stack,I.PU⟩
  .exact uN _ _ _ (λx y c hx hy=>I.ok.inj x y c (Cd x c hx) (Cd y c hy)) λx c e=>Rw (clt x c e)
  .intro x hx;have m:(x,NameKind.cell)∈scope.names\/(x,NameKind.free)∈scope.names:=by
    rcases hx with z|z
    .exact CP z (.inl rfl)
    .exact CP z (.inr rfl)
   rcases m with m|m
   .exact uL _ _ _ m
   .obtain ⟨c,mc⟩:=Gy x m;exact nQ _ _ _ (lookup_mem mc)
  .intro x c hf e;have hf':scope.names.lookup x=some .cell:=dN hf;exact fY (Nat.le_succ _) (uK _ _ _ (zf hf') e)
  .intro b hb;refine⟨gr (hfo b hb),λx c e z=>?_⟩;have hlt:=hfo b hb;rcases cells x c e with k|k
   .exact absurd (lz hlt (fY (Nat.le_succ _) (z▸k))) (kK _)
   .exact (hfp b hb).2.2.2.2.1 x c k z
  .intro b o e hb;rcases(hfp b hb).2.2.2.1 with z|z
   .exact I.ok.K6 b o e z
   .exact absurd (lz (cE (I.ok.bs b o e).1) z) (kK _)
  .intro b hb hbs;rcases fm.mp (I.K9 b hbs)with z|z
   .exact (hfp b hb).2.1 z
   .exact (hfp b hb).2.2.1 z
 refine⟨okY,Z,I.bare,Un.kept keeps,?_,there,I.hok.fresh (aL _),?_,(λp hp=>nomatch hp),I.hok.kept keeps,hl⟩
 . refine⟨λ_=>none,(Heap.Ns.new s.heap (.type "dict")).keeps (Kv _ _),λi x v e1 e2 _=>?_⟩
   obtain⟨hf,hx,j,j1,j2⟩:=hσ i x v e1 e2
   obtain⟨m,_,hloc⟩:=I.loc
   have hv:Xz X.env.scope x:=hx.elim (λz=> .inr (.inl z)) λz=> .inr (.inr z)
   obtain⟨u,r,lk⟩:=hloc j x v j1 j2 hv
   refine⟨u,r,.inr ⟨Lv hf,?_⟩⟩
   rcases lk with⟨k,_⟩|⟨_,c,ec,ic⟩
   . rcases hx with z|z <;> rw[z]at k <;> cases k
   . refine⟨c,?_,ic.keeps keeps⟩
     have mf:=zf hf
     show(cellsFrom (s.heap.objs.size+1) scope.names cl).lookup x=some c
     rw[uM _ _ _ (hd x mf)]
     obtain⟨c',mc⟩:=Gy x mf
     obtain⟨d,ed⟩:=lookup_mem mc
     rw[ed]
     have:=Cd x d ed
     rw[ec]at this
     exact this.symm
 . intro x c e
   rcases cells x c e with k|k
   . exact I.hok.fresh (by omega)
   . exact I.pA x c k
variable {tg:Expr}{te:TE}{E:VS}
section
variable {X:Cx}
def Ew(J:It)(g:TG)(te:TE)(Ap:Addr)(σ₀:St)(H:Hp)(Q:VK):Prop:=∃W:Nat->Nat->St->Hp->Prop,(∃m,W 0 m σ₀ (upd H Ap (.lst [])))/\∀i m σ2 H2,W i m σ2 H2->(J.stop i H2/\Q (.ref Ap) H2)\/(J.go i H2/\∃(S:St->Prop)(N:V->Hp->Prop),(∀σ3 v H4,S σ3->N v H4->∃xs,H4 Ap=some (.lst xs)/\xs.length<sizeLine/\∃m',m'<m/\W (i+1) m' σ3 (upd H4 Ap (.lst (xs++[v]))))/\∀x H',J.Eg i H2 x H'->g x σ2 H' λσ3 H3=>S σ3/\te σ3 H3 N)
inductive zK(Pv:Nat->Da V->Hp->Prop)(i:Nat)(Ap:Addr)(out:Da V)(v:V)(H4:Hp):Prop
 |mk(_:H4 Ap=some (.lst out))(_:Pv (i+1) (out++[v]) (upd H4 Ap (.lst (out++[v]))))
def XU(te:TE)(σ:St)(Pv:Nat->Da V->Hp->Prop)(i:Nat)(Ap:Addr)(out:Da V):Bool->Hp->Prop:=λb H2=>if b=true then te σ H2 (zK Pv i Ap out) else H2 Ap=some (.lst out)/\Pv (i+1) out H2
def pick(ix:Da (Option Nat))(σ:St):St:=ix.map λo=>o.bind λj=>(σ[j]?).join
def abo(ix:Da (Option Nat))(g:TG)(te:TE)(σ:St)(Q:VK):It->Hp->Prop:=λJ H1=>∀Ap,H1 Ap=none->Ew J g te Ap (pick ix σ) H1 Q
def XW(wi:TI)(ix:Da (Option Nat))(g:TG)(te:TE):TE:=λσ H Q=>wi σ H (abo ix g te σ Q)
def qN{XN:Da Str}{xn sn:Da (Str×NameKind)}{ix:Da (Option Nat)}(h:ud XN xn sn N2 ix=true):ix.length=N2.length/\(∀(i:Nat)(x:Str)(j:Nat),N2[i]?=some x->ix[i]?=some (some j)->XN[j]?=some x/\sn.lookup x=some .free/\(xn.lookup x=some .cell\/xn.lookup x=some .free))/\(∀y∈sn,y.2 =.free->xn.lookup y.1=some .cell\/xn.lookup y.1=some .free)/\(∀y∈sn,y.2 =.local->sn.lookup y.1=some .local)/\∀x,(x,NameKind.free)∈sn->(x,NameKind.cell)∉sn:=by
 unfold ud at h;obtain⟨h,h5⟩:=oz.mp h;obtain⟨h,h4⟩:=oz.mp h;obtain⟨h,h3⟩:=oz.mp h;obtain⟨h1,h2⟩:=oz.mp h;have e1:ix.length=N2.length:=by simpa using h1
 refine⟨e1,λi x j a b=>?_,λy hy e=>?_,λy hy e=>?_,λx m1 m2=>?_⟩
 .have m:(some j,x)∈ix.zip N2:=by refine bg (i:=i) ?_;rw[List.getElem?_zip_eq_some];exact⟨b,a⟩
  have q:=qD.mp h2 _ m;dsimp only at q;obtain⟨q,q3⟩:=oz.mp q;obtain⟨q1,q2⟩:=oz.mp q;exact⟨by simpa using q1,by simpa using q2,(KU.mp q3).imp (λz=>by simpa using z) λz=>by simpa using z⟩
 .have q:=qD.mp h3 y hy;rcases KU.mp q with z|z
  .rw [e]at z;simp at z
  .exact (KU.mp z).imp (λz=>by simpa using z) λz=>by simpa using z
 .have q:=qD.mp h4 y hy;rcases KU.mp q with z|z
  .rw [e]at z;simp at z
  .simpa using z
 .have q:=qD.mp h5 _ m1;rcases KU.mp q with z|z
  .simp at z
  .have q2:=qD.mp z _ m2;simp at q2
theorem Ex{ix:Da (Option Nat)}{g:TG}{RR:Value->Addr->Result->Shared->Prop}(hc:X.calm=true)(hg:∀cl s₂ H₂ fp,PG (eY X N2 scope cl s₂ H₂ fp) tg g)(he:∀cl s₂ H₂ fp,PE (eY X N2 scope cl s₂ H₂ fp) elt te)(hk:scope.kind =.function)(hn:ud X.N X.env.scope.names scope.names N2 ix=true)(Lw:∀y c,(y,c)∈cl->X.env.cells.lookup y=some c)(Gy:∀y,(y,NameKind.free)∈scope.names->∃c,(y,c)∈cl){it:Addr}{fp:Da Addr}{tn:Nat->Heap->Prop}{J:It}(I:Inv X AC σ H s)(T:Turn X.prog X.w X.K tg J fp it tn)(st:tn 0 s.heap)(f:∀b∈fp,qJ X AC H b)(h:∀Ap,H Ap=none->Ew J g te Ap (ix.map λo=>o.bind λj=>(σ[j]?).join) H Q)(hR:∀Ap C H' s' m,Inv X AC σ H' s'->s'.heap.Ns C m->H' C=none->C≠X.env.locals->X.s₀.heap.objs.size<=C->(∀x c,X.env.cells.lookup x=some c->c≠C)->(∀p∈X.pn++AC,p.1≠C)->Q (.ref Ap) H'->RR (.ref Ap) C (.ok .next) s'):
  wpAny (model X.prog X.w) X.A (newList []) (λAp s₃=>wpAny (model X.prog X.w) X.A (newFunctionEnv scope X.env.globals cl [] X.env.qual none .none (some X.env)) (λcenv s₄=>
   codeAny (model X.prog X.w) X.A (.compStart (.ListComp elt [⟨tg,Bn,[],0⟩] scope pos) 0 (.ref it) Ap { cenv with scope:=relabel scope X.env }) (RR Ap cenv.locals) s₄) E s₃) E s:=by
 obtain⟨k1,k2,k3,k4,k5⟩:=qN hn
 refine zj ?_
 have I3:Inv X AC σ (upd H s.heap.objs.size (.lst [])) { s with heap:=s.heap.push { cls:=.type "list",data:=.seq ([] :Da Value).toArray } }:=
  I.laid (a:=s.heap.objs.size) (o:=.lst []) (t':=s.toks) (λ_ _ q=>cU _ q) (aL _) ⟨iH _,[],_,.nil,fK _ rfl⟩
 obtain⟨W,⟨m0,w0⟩,turn⟩:=h s.heap.objs.size I.fresh
 have fo:∀b∈fp,b<s.heap.objs.size:=λb hb=>by obtain⟨o,e,_⟩:=T.obj 0 _ st b hb;exact cE e
 have st3:tn 0 (s.heap.push { cls:=.type "list",data:=.seq ([] :Da Value).toArray }):=T.keep _ _ _ st λb _ o e=>cU _ e
 have f3:∀b∈fp,qJ X AC (upd H s.heap.objs.size (.lst [])) b:=λb hb=>⟨by rw[az (gr (fo b hb))];exact(f b hb).1,(f b hb).2⟩
 have TF:∀b∈fp,b<(s.heap.push { cls:=.type "list",data:=.seq ([] :Da Value).toArray }).objs.size:=λb hb=>by rw[nL];exact Rw (fo b hb)
 generalize Lx:({ s with heap:=s.heap.push { cls:=.type "list",data:=.seq ([] :Da Value).toArray } }:Shared)=s3 at *
 have eh3:s3.heap=s.heap.push { cls:=.type "list",data:=.seq ([] :Da Value).toArray }:=by rw[<-Lx]
 rw[<-eh3]at st3 TF
 generalize s.heap.objs.size=Ap at *
 generalize eH3:upd H Ap (.lst [])=H3 at *
 have IY:=Eu (N2:=N2) (scope:=scope) (cl:=cl) (fp:=fp) (σ2:=ix.map λo=>o.bind λj=>(σ[j]?).join) I3 hk Lw Gy f3 TF (by rw[aE];exact k1) (λi x v e1 e2=>by
  rw[bV]at e2;cases ei:ix[i]? with
  | none=>rw[ei]at e2;cases e2
  | some o=>
   rw[ei]at e2;cases o with
   | none=>cases e2
   | some j=>
    obtain⟨a1,a2,a3⟩:=k2 i x j e1 ei;refine⟨a2,a3,j,a1,?_⟩;have e3:(σ[j]?).join=some v:=gP e2;cases ej:σ[j]? with
    | none=>rw[ej]at e3;cases e3
    | some z=>rw[ej]at e3;exact ig some e3) k5
 have ne:wpAny (model X.prog X.w) X.A (newFunctionEnv scope X.env.globals cl [] X.env.qual none .none (some X.env)) (λcenv s₄=>
   cenv={ scope:=scope,locals:=s3.heap.objs.size,globals:=X.env.globals,cells:=cellsFrom (s3.heap.objs.size+1) scope.names cl,qual:=X.env.qual,func:=none,code:=X.env.code,frame:=X.env.frame,builtins:=X.env.builtins }/\
   s₄={ s3 with heap:=pushCells (s3.heap.push { cls:=.type "dict",data:=.dict #[] }) scope.names }) E s3:=by
  simp only[newFunctionEnv,Option.isSome_some,if_true]
  refine aA (wpAny_alloc ?_)
  refine aA (wpAny_layCells _ (λname kind cells=>by cases hkc:kind==NameKind.cell <;> simp[hkc]) _ _ _ _ ?_)
  rw[D6]
  refine aA (bw (bw ⟨?_,Z⟩))
  rw[show({ s3 with heap:=s3.heap.push { cls:=.type "dict",data:=.dict #[] } }:Shared).heap.objs.size=s3.heap.objs.size+1 from nL ..]
 refine bP ne λcenv s4 ⟨e1,e2⟩=>?_
 subst e1 e2
 have TH:tn 0 (pushCells (s3.heap.push { cls:=.type "dict",data:=.dict #[] }) scope.names):=T.keep _ _ _ st3 λb _ o e=>Kv _ _ b o (cU _ e)
 have Ey:s3.heap.objs.size≠X.env.locals:=BY I3.lt
 have vO:∀{H':Hp},(∀b∈fp,H' b=none)->∀b∈fp,qJ (eY X N2 scope cl s3 H3 fp) [] H' b:=λ{H'} hn b hb=>
  ⟨hn b hb,(IY.ok.PR b hb).1,IY.ok.Gw b hb,.inl hb,(IY.ok.PR b hb).2,λp hp=>nomatch hp⟩
 have loop:codeAny (model X.prog X.w) X.A (.compLoop (.ListComp elt [⟨tg,Bn,[],0⟩] scope pos) 0 (.ref it) (.ref Ap) (eY X N2 scope cl s3 H3 fp).env) (RR (.ref Ap) s3.heap.objs.size)
   { s3 with heap:=pushCells (s3.heap.push { cls:=.type "dict",data:=.dict #[] }) scope.names }:=by
  refine Lu (λn s'=>∃i σ' H',Inv (eY X N2 scope cl s3 H3 fp) [] σ' H' s'/\tn i s'.heap/\(∀b∈fp,H' b=none)/\W i n σ' H') ?_ m0 ⟨0,_,H3,IY,TH,λb hb=>(f3 b hb).1,w0⟩
  rintro n s5 ⟨i,σ5,H5,I5,yH,Ly,w5⟩
  rcases turn i n σ5 H5 w5 with⟨stop,qn⟩|⟨go,S,N,hSN,step⟩
  . refine bP (T.done (eY X N2 scope cl s3 H3 fp) rfl rfl rfl hc i [] s5 σ5 H5 (λ_ _=>False) I5 (vO Ly) yH stop) λr s6 ⟨hr,I6⟩=>?_
    subst hr
    obtain⟨m6,Lz,_⟩:=id I6.loc
    have IX:Inv X AC σ H5 s6:=I3.XD (ch:=fp) I6.os I6.base I6.hok I6.bare λb hb=>⟨(f3 b hb).2.2.2.1,(f3 b hb).2.1,(f3 b hb).2.2.2.2.1,(f3 b hb).2.2.2.2.2⟩
    refine hR Ap s3.heap.objs.size H5 s6 m6 IX Lz I6.free Ey I3.sz (λx c e z=>?_) (λp hp z=>?_) qn
    . obtain⟨v,q⟩:=I3.cell x c e
      exact absurd q.lt (by rw[z];exact kK _)
    . exact absurd (cE (I3.pin p hp).1) (by rw[z];exact kK _)
  . refine bP (T.item (eY X N2 scope cl s3 H3 fp) rfl rfl rfl hc i [] s5 σ5 H5 (λ_ _=>False) I5 (vO Ly) yH go) λr s6 ⟨u,hr,h6⟩=>?_
    subst hr
    refine bP h6 λ_ s7 ⟨x,H7,I7,r7,y7,Ez,TJ⟩=>?_
    have I7':=I7.pinned (vO TJ) (T.obj _ _ Ez)
    refine bP (hg cl s3 H3 fp _ s7 σ5 H7 x u _ I7' r7 (step x H7 y7)) λ_ s8 ⟨σ8,H8,I8,XX,q8⟩=>?_
    refine bP (he cl s3 H3 fp _ s8 σ8 H8 _ I8 q8) λy s9 ⟨v,H9,I9,r9,q9⟩=>?_
    obtain⟨xs,hxs,hxl,m',hm,w9⟩:=hSN σ8 v H9 XX q9
    refine bP (d8 _ s9 σ8 H9 (.ref Ap) [v] (.ref Ap) [y] (λz LA=>z =.cy/\LA=upd H9 Ap (.lst (xs++[v]))) I9 rfl (.cons r9 .nil) ⟨Ap,xs,v,Z,Z,hxs,hxl,Z,Z⟩) λz s10 ⟨zv,LA,LB,r10,ez,eH⟩=>?_
    subst eH
    refine⟨m',hm,i+1,σ8,_,LB.sJ,T.keep _ _ _ Ez λb hb o e=>(LB.pin (b,o) (kD _ (kD _ (jY hb e)))).1,λb hb=>?_,w9⟩
    obtain⟨o,e,d⟩:=T.obj _ _ Ez b hb
    exact(LB.pin (b,o) (kD _ (kD _ (jY hb e)))).2.1
 exact codeAny_compStart_list loop (T.self _ 0 _ _ _ TH loop)
end
variable {H':Hp}
def aK.cI{p:Addr}(e:aK H H')(h:H p=none)(o:HO):aK H (upd H' p o):=λb u q=>by rw[az (aJ q h)];exact e b u q
def CQ(n d:Int):SeqAt.shaped (.tuple [.int n,.int d])=true:=rfl
def Ws(n d:Int):PyData.eqv (.tuple [.int n,.int d]) (.tuple [.int n,.int d])=true:=by simp[PyData.eqv,PyData.eqvAll]
def TL{p:Addr}{q:Rat}(h:H p=some (oE q)):Dt K H (.ref p) (.tuple [.int q.num,.int (q.den:Int)]):=.tup (dU.of h) (.cons (.int _) (.cons (.int _) .nil))
inductive abu(vs:Da V)(H:Hp)(Q:VK)(E:XK):Prop
 |mk(t b:Int)(_:vs=[.int t,.int b])(_:0<b)(_:Jm.Sz 9000 b)(_:∀(r:Addr) (H':Hp),aK H H'->H' r=some (oE (Jm.fr t b))->Q (.ref r) H')
def Gz:Sp:=bx (abu)
def TM{E:XK}{t b:Int}(h0:0<b)(h1:Jm.Sz 9000 b)(h:∀(r:Addr) (H':Hp),aK H H'->H' r=some (oE (Jm.fr t b))->Q (.ref r) H'):Gz [.int t,.int b] H Q E:=⟨t,b,Z,h0,h1,h⟩
inductive xIs(vs:Da V)(H:Hp)(Q:VK)(E:XK):Prop
 |mk(p:Addr)(q:Rat)(t b:Int)(_:vs=[.ref p,.int t,.int b])(_:H p=some (oE q))(_:0<b)(_:Jm.Sz 9000 b)(_:q=Jm.fr t b)(_:∀H',aK H H'->Q (.bl true) H')
def Wt:Sp:=bx (xIs)
def TN{E:XK}{p:Addr}{q:Rat}{t b:Int}(hp:H p=some (oE q))(h0:0<b)(h1:Jm.Sz 9000 b)(e:q=Jm.fr t b)(h:∀H',aK H H'->Q (.bl true) H'):Wt [.ref p,.int t,.int b] H Q E:=⟨p,q,t,b,Z,hp,h0,h1,e,h⟩
section
variable {X:Cx}
theorem Wu(hc:X.calm=true):iS X (.builtin "sum") (λxs H Q=>∃(a:Addr)(ns:Da Int),xs=[.ref a]/\aB X.K H a (ns.map V.int)/\Q (.int ns.sum) H):=by
 intro AC s σ H xs us Q I r h;obtain⟨a,ns,rfl,hS,q⟩:=h;obtain⟨u,rfl,ru⟩:=vals1 r;cases ru;obtain⟨BT,rv,p,hz⟩:=I.list hS;have hi:=intsAre_of rv;have hl:=p.isList;obtain⟨o,ho,_⟩:=id hl;have hne:a≠s.heap.objs.size:=gr (cE ho);have W:=(Walks.list (prog:=X.prog) (w:=X.w) (A:=X.A.in1) (I.ok.hd hc) s.heap.objs.size a hne BT.toArray).toS;have EA:BT.length=ns.length:=by rw[<-rv.length,aE]
 refine call_sum_walkAnyS (Ru hl ?_);refine⟨s.heap.objs.size,_,_,_,_,_,_,λi=>ns.getD i 0,Z,W,⟨⟨_,fK _ rfl,Z,Z⟩,hl.at λo e=>cU _ e⟩,λb hb=>?_,λi v hP=>?_,λs' t' hm=>?_⟩
 .rcases fm.mp hb with rfl|hb
  .exact cE (fK _ rfl)
  .obtain rfl:=dF.mp hb;exact cE (cU _ ho)
 .have TQ:BT[i]?=some v:=by simpa using hP
  have hil:i<ns.length:=by have:=(dM.mp TQ).1;omega
  obtain⟨u,hu,ru⟩:=rv.get (i:=i) (x:=V.int ns[i]) (by rw[bV,bf hil];rfl);rw[TQ]at hu;cases hu;obtain⟨t,e⟩:=ru;refine⟨t,?_⟩;rw[e];show Value.int ns[i] t=Value.int (ns.getD i 0) t;rw[dD,bf hil];rfl
 .obtain ⟨h',g',d',tk',os'⟩:=s';have e1:g'=s.gens:=hm.gens;have e2:d'=s.drawn:=hm.drawn;have e3:os'=s.os:=hm.os;subst e1 e2 e3;have hsz:BT.toArray.size=ns.length:=by rw[je,EA]
  rw[hsz,preSum_getD,KR (aL _)];exact⟨.int ns.sum,H,I.kept (h':=h') (t':=tk') λb o e=>hm.heap b o (λhb=>absurd (cE e) ((dF.mp hb)▸kK _)) (cU _ e),⟨t',Z⟩,q⟩
theorem Wv(hc:X.calm=true):iS X (.builtin "all") (λxs H Q=>∃(a:Addr)(bs:Da Bool),xs=[.ref a]/\aB X.K H a (bs.map V.bl)/\Q (.bl (bs.all id)) H):=by
 intro AC s σ H xs us Q I r h;obtain⟨a,bs,rfl,hS,q⟩:=h;obtain⟨u,rfl,ru⟩:=vals1 r;cases ru;obtain⟨BT,rv,p,hz⟩:=I.list hS;have hl:=p.isList;obtain⟨o,ho,_⟩:=id hl;have hne:a≠s.heap.objs.size:=gr (cE ho);have EA:BT.length=bs.length:=by rw[<-rv.length,aE]
 refine call_all_walk (Ru hl ?_);refine⟨s.heap.objs.size,_,_,_,_,_,λi=>bs.getD i false,Z,Walks.list (prog:=X.prog) (w:=X.w) (A:=X.A.in1) (I.ok.hd hc) s.heap.objs.size a hne BT.toArray,⟨⟨_,fK _ rfl,Z,Z⟩,hl.at λo e=>cU _ e⟩,λi v s' Q' E' hP hQ=>?_,λh' tk hk=>?_⟩
 .have TQ:BT[i]?=some v:=by simpa using hP
  have hil:i<bs.length:=by have:=(dM.mp TQ).1;omega
  obtain⟨u,hu,ru⟩:=rv.get (i:=i) (x:=V.bl bs[i]) (by rw[bV,bf hil];rfl);rw[TQ]at hu;cases hu;have e:v=Value.bool bs[i] :=ru;subst e;refine C_ ?_;have hQ2:Q' (bs.getD i false) s':=hQ;rw[dD,bf hil]at hQ2;exact hQ2
 .have hsz:BT.toArray.size=bs.length:=by rw[je,EA]
  have e:(List.range BT.toArray.size).all (λi=>bs.getD i false)=bs.all id:=by
   rw[hsz,BU,qD,qD];refine⟨λz x hx=>?_,λz i hi=>?_⟩
   .obtain ⟨i,hi,e⟩:=List.mem_iff_getElem.mp hx;have:=z i (tO.mpr hi);rw[dD,bf hi]at this;rw[<-e];exact this
   .have hi':=tO.mp hi;rw[dD,bf hi'];exact z _ (zm hi')
  rw[e];exact⟨.bl (bs.all id),H,I.kept (h':=h') (t':=tk) λb o e=>hk b o (λhb=>absurd (cE e) ((dF.mp hb)▸kK _)) (cU _ e),Z,q⟩
end
section
variable {X:Cx}(K:Fg)
def a_(hK:X.K=K:=by rfl):An X (Lh K):=hK▸Tf
def aM(hK:X.K=K:=by rfl):An X (RJ K):=hK▸Qd
def Zf(hu:X.A.units+64<cLine)(hK:X.K=K:=by rfl):jZ X (compareOp .Eq) (abl K):=hK▸abm hu
def ji(hc:X.calm=true)(hK:X.K=K:=by rfl):iS X (.builtin "sum") (λxs H Q=>∃(a:Addr)(ns:Da Int),xs=[.ref a]/\aB K H a (ns.map V.int)/\Q (.int ns.sum) H):=hK▸Wu hc
def TR(hc:X.calm=true)(hK:X.K=K:=by rfl):iS X (.builtin "all") (λxs H Q=>∃(a:Addr)(bs:Da Bool),xs=[.ref a]/\aB K H a (bs.map V.bl)/\Q (.bl (bs.all id)) H):=hK▸Wv hc
def cC(hK:X.K=K:=by rfl):iS X (.builtin "len") (λxs H Q=>∃p ys,xs=[.ref p]/\(aB K H p ys\/dU K H p ys)/\Q (.int ys.length) H):=hK▸Lj
def lR(hK:X.K=K:=by rfl):iS X (.type "list") (λxs H Q=>∃p ys,xs=[.ref p]/\(aB K H p ys\/dU K H p ys)/\∀l,H l=none->Q (.ref l) (upd H l (.lst ys))):=hK▸Ll
def vP(hK:X.K=K:=by rfl):iS X (.builtin "isinstance") (λxs H Q=>∃x n t b,xs=[x,.ty n]/\m9 K H x t/\PySem.W.kitOne K t (.type n)=some b/\Q (.bl b) H):=hK▸Om
end
theorem Oo{l1 l2:Nat}(h1:l1<n)(h2:l2<n):ZipApart (n+4) (n+2) (n+3) n (n+1) l1 l2:=by
 have nn:∀i j:Nat,i≠j->n+i≠n+j:=λi j h e=>h (Nat.add_left_cancel e);have ne:∀(c k:Nat),c<n->c≠n+k:=λc k h=>by omega
 exact⟨nn 2 4 (by decide),nn 3 4 (by decide),nn 0 4 (by decide),nn 1 4 (by decide),nn 2 3 (by decide),nn 2 0 (by decide),nn 2 1 (by decide),nn 3 0 (by decide),nn 3 1 (by decide),nn 0 1 (by decide),ne _ 4 h1,ne _ 3 h1,ne _ 0 h1,ne _ 1 h1,ne _ 4 h2,ne _ 3 h2,ne _ 0 h2,ne _ 1 h2⟩
section
variable {X:Cx}{DD:Da Expr}{kk:Nat}{tpos:Pos}
end
inductive aeq(K:Fg)(vs:Da V)(H:Hp)(Q:VK)(E:XK):Prop
 |mk(a:Addr)(ns:Da Int)(k j:Int)(_:vs=[.ref a,.int k,.int j])(_:aB K H a (ns.map V.int))(_:ns.length<=63)(_:0<=k)(_:0<=j)(_:j<2 ^ 61)(_:∀(m:Int) (H':Hp),1<=m->m<=1000000000->aK H H'->Q (.int m) H')
def AL(K:Fg):Sp:=bx (aeq K)
def Dj{E:XK}{k j:Int}(hS:aB K H a (ns.map V.int))(h63:ns.length<=63)(h1:0<=k)(h2:0<=j)(h3:j<2 ^ 61)(h:∀(m:Int) (H':Hp),1<=m->m<=1000000000->aK H H'->Q (.int m) H'):AL K [.ref a,.int k,.int j] H Q E:=⟨a,ns,k,j,Z,hS,h63,h1,h2,h3,h⟩
section
variable {X:Cx}
inductive aer(Q:VK)(vs:Da V)(H1:Hp):Prop
 |mk(j:Int)(_:vs=[.int j])(_:∀p,H1 p=none->Q (.ref p) (upd H1 p (.yD 0 j)))
def ahI(ta:TA):TE:=λσ H Q=>ta σ H (aer Q)
def upTo(n:Nat):Da Int:=(List.range n).map λi=>((i:Nat):Int)
theorem Js(hc:X.calm=true):iS X (.type "list") (λxs H Q=>∃(r:Addr)(n:Nat),xs=[.ref r]/\H r=some (.yD 0 (n:Int))/\n<=1000/\∀l,H l=none->Q (.ref l) (upd H l (.lst ((upTo n).map V.int)))):=by
 intro AC s σ H xs us Q I r h;obtain⟨a,n,rfl,hr,hn,q⟩:=h;obtain⟨u,rfl,ru⟩:=vals1 r;cases ru;obtain⟨t,t2,t3,e⟩:=(show fq X.prog X.w H s.heap a (.yD 0 (n:Int))from I.hok a _ hr)
 refine call_list_range (n:=n) (I.ok.hd hc) e (small_one (by decide) (by decide) (by omega) (by omega)) (by rw[rangeSize_one];split <;> omega) (by omega) λh' tk acc' c' hk hS hI=>?_;obtain⟨hsz,hit⟩:=hI;have hv:Vals ((upTo n).map V.int) acc'.toList:=by
  have gen:∀(m:Nat)(us:Da Value)(k:Nat),us.length=m->(∀(j:Nat)(v:Value),us[j]?=some v->∃t,v =.int ((0:Int)+((k+j:Nat):Int)*1) t)->Vals (((List.range' k m).map λi=>((i:Nat):Int)).map V.int) us:=by
   intro m
   induction m with
   | zero=>intro us k hl _;rw[List.length_eq_zero_iff.mp hl];exact .nil
   | succ m ih=>
    intro us k hl hu;cases us with
    | nil=>cases hl
    | cons v r=>
     obtain⟨t,e⟩:=hu 0 v rfl;refine .cons ⟨t,?_⟩ (ih r (k+1) (by simpa using hl) λj v' hj=>?_)
     .rw [e];show Value.int _ t=Value.int ((k:Nat):Int) t;congr 1;omega
     .obtain ⟨t,e⟩:=hu (j+1) v' (by simpa using hj);exact⟨t,by rw[e];congr 1;omega⟩
  have:=gen n acc'.toList 0 (by simpa using hsz) λj v hj=>by obtain⟨t,e⟩:=hit j v (by simpa using hj);exact⟨t,by rw[e];congr 1;omega⟩
  unfold upTo;rw[List.range_eq_range'];exact this
 have hlen:((upTo n).map V.int).length<=sizeLine:=by unfold upTo;simp;exact small (by omega)
 exact⟨.ref s.heap.objs.size,_,I.laid (a:=s.heap.objs.size) (o:=.lst ((upTo n).map V.int)) (h':=h') (t':=tk) hk (aL _) ⟨hlen,acc'.toList,c',hv,by simpa using hS⟩,Z,q _ I.fresh⟩
inductive Zg(K:Fg)(Q:VK)(x:V)(y:V)(H2:Hp):Prop
 |mk(_:y =.int (-1))(a xs:_)(_:x =.ref a)(_:aB K H2 a xs)(_:∀p,H2 p=none->Q (.ref p) (upd H2 p (.lst xs.reverse)))
def aes(K:Fg)(ts:TE)(σ:St)(Q:VK):V->Hp->Prop:=λx H1=>ts σ H1 (Zg K Q x)
def ahJ(K:Fg)(te ts:TE):TE:=λσ H Q=>te σ H (aes K ts σ Q)
end
theorem sum_set:∀(as:Da Int)(j:Nat)(x:Int),j<as.length->(as.set j x).sum=as.sum-as.getD j 0+x
 | [],j,_,h=>absurd h (Nat.not_lt_zero _)
 | a::r,0,x,_=>by show(x::r).sum=(a::r).sum-a+x;rw[b9,b9];omega
 | a::r,j+1,x,h=>by show(a::r.set j x).sum=(a::r).sum-r.getD j 0+x;rw[b9,b9,sum_set r j x (by simpa using h)];omega
def pP(as:Da Int)(j k:Nat)(x:Int)(h:j<as.length):(as.set j x).getD k 0=if k=j then x else as.getD k 0:=by
 rw[dD,Rx];by_cases e:j=k
 .subst e;rw[ay rfl,ay h,ay rfl];rfl
 .rw [av e,av (cJ e),<-dD]
theorem lY{k:Nat}(h:k<n):Em n (k:Int)=some k:=by unfold Em;rw[ay (by omega),ay (by omega)];rfl
abbrev tx(cs:Da Nat):Str:=⟨cs.toArray⟩
def LC(x:Str):tx x.cps.toList=x:=by cases x;rfl
def AM(cs:Da Nat):(tx cs).length=cs.length:=by show cs.toArray.size=_;rw[je]
def abv(a b:Da Nat):(tx a++tx b:Str)=tx (a++b):=by show(⟨a.toArray++b.toArray⟩:Str)=_;simp[tx]
def XZ(cs:Da Nat):It:=⟨λi _=>i<cs.length,λi H v H'=>H'=H/\∃c,cs[i]?=some c/\v =.str (tx [c]),λi _=>cs.length<=i⟩
theorem RP{P:Program}{w:World}{K:Fg}{tg:Expr}(x:Str)(t:Tok)(it:Addr):Turn P w K tg (XZ x.cps.toList) [it] it (λi h=>h.IsStrIter it "str_ascii_iterator" x t i) where
 mem:=by simp
 obj:=λi h st b hb=>by
  have e:b=it:=by simpa using hb
  subst e;obtain⟨o,e,c,d⟩:=st;exact⟨o,e,λv z=>by rw[d]at z;cases z⟩
 keep:=λi h h' st k=>let⟨o,ho,r⟩:=st;⟨o,k it (by simp) o ho,r⟩
 item:=by
  intro X hP hw hK hc i AC s σ H E I hf st hg;subst hP hw hK;have hi:i<x.cps.size:=by have hg':i<x.cps.toList.length:=hg;simpa using hg'
  obtain⟨f0,f1,f2,f3,f4,f5⟩:=hf it (by simp);refine wpAny_pyNext_ascii_item st (c:=x.cps[i]) (by simp[hi]) λh' st' sb=>?_;have I1:Inv X AC σ H { s with heap:=h',toks:=s.toks+1 }:=I.turned (t':=s.toks+1) (λb o hb e=>sb.extBut b o hb e) f0 f1 f3 f4 f5;obtain⟨o,e,c,d⟩:=id st';exact⟨_,Z,B8 (s:={ s with heap:=h',toks:=s.toks+1 }) e c d (by decide) ⟨.str (tx [x.cps[i]]),H,I1,⟨_,Z⟩,⟨Z,x.cps[i],by simp[hi],Z⟩,st',λb hb=>(hf b hb).1⟩⟩
 done:=by
  intro X hP hw hK hc i AC s σ H E I hf st hg;subst hP hw hK;have hi:x.cps.size<=i:=by have hg':x.cps.toList.length<=i:=hg;simpa using hg'
  obtain⟨f0,f1,f2,f3,f4,f5⟩:=hf it (by simp);exact wpAny_pyNext_ascii_end (I.ok.hd hc) st (by simp;omega) λh' eb=>⟨Z,I.turned (t':=s.toks) (λb o hb e=>eb b o hb e) f0 f1 f3 f4 f5⟩
 self:=λ_ _ _ _ _ st h=>wpAny_pyIter_striter_ascii st h
theorem TU{P:Program}{w:World}{K:Fg}{tg:Expr}(x:Str)(t:Tok)(it:Addr):Turn P w K tg (XZ x.cps.toList) [it] it (λi h=>h.IsStrIter it "str_iterator" x t i) where
 mem:=by simp
 obj:=λi h st b hb=>by
  have e:b=it:=by simpa using hb
  subst e;obtain⟨o,e,c,d⟩:=st;exact⟨o,e,λv z=>by rw[d]at z;cases z⟩
 keep:=λi h h' st k=>let⟨o,ho,r⟩:=st;⟨o,k it (by simp) o ho,r⟩
 item:=by
  intro X hP hw hK hc i AC s σ H E I hf st hg;subst hP hw hK;have hi:i<x.cps.size:=by have hg':i<x.cps.toList.length:=hg;simpa using hg'
  obtain⟨f0,f1,f2,f3,f4,f5⟩:=hf it (by simp);refine wpAny_pyNext_wide_item st (c:=x.cps[i]) (by simp[hi]) λh' st' sb=>?_;have I1:Inv X AC σ H { s with heap:=h',toks:=s.toks+1 }:=I.turned (t':=s.toks+1) (λb o hb e=>sb.extBut b o hb e) f0 f1 f3 f4 f5;obtain⟨o,e,c,d⟩:=id st';exact⟨_,Z,B8 (s:={ s with heap:=h',toks:=s.toks+1 }) e c d (by decide) ⟨.str (tx [x.cps[i]]),H,I1,⟨_,Z⟩,⟨Z,x.cps[i],by simp[hi],Z⟩,st',λb hb=>(hf b hb).1⟩⟩
 done:=by
  intro X hP hw hK hc i AC s σ H E I hf st hg;subst hP hw hK;have hi:x.cps.size<=i:=by have hg':x.cps.toList.length<=i:=hg;simpa using hg'
  obtain⟨f0,f1,f2,f3,f4,f5⟩:=hf it (by simp);exact wpAny_pyNext_wide_end (I.ok.hd hc) st (by simp;omega) λh' eb=>⟨Z,I.turned (t':=s.toks) (λb o hb e=>eb b o hb e) f0 f1 f3 f4 f5⟩
 self:=λ_ _ _ _ _ st h=>wpAny_pyIter_striter_wide st h
variable {cs:Da Nat}{Ap:Addr}
section
variable {X:Cx}{tg:Expr}
inductive aet(R:It->Hp->Prop)(x:V)(H1:Hp):Prop
 |mk(cs:Da Nat)(_:x =.str (tx cs))(_:R (XZ cs:_) H1)
def abw(te:TE):TI:=λσ H R=>te σ H (aet R)
def abx{l:Expr}{tl:TE}(hl:PE X l tl):PI X tg l (abw tl):=by
 intro AC s σ H R I h;refine bP (hl AC s σ H _ I h) λv s1 ⟨x,H1,I1,r1,q1⟩=>?_;obtain⟨cs,e,q⟩:=q1;subst e;obtain⟨t,rfl⟩:=r1;have fp:∀b∈[s1.heap.objs.size],qJ X AC H1 b:=λb hb=>by
  have e:b=s1.heap.objs.size:=by simpa using hb
  subst e;exact I1.Dg (aL _) (I1.hok.fresh (aL _))
 have tw:=@TU X.prog X.w X.K tg (tx cs) t s1.heap.objs.size;have ta:=@RP X.prog X.w X.K tg (tx cs) t s1.heap.objs.size;cases ha:(tx cs).cps.all (·<128)
 .exact wpAny_pyIter_wide ha ⟨s1.heap.objs.size,[s1.heap.objs.size],_,_,H1,Z,I1.kept (t':=s1.toks) λb o e=>cU _ e,tw,⟨_,fK _ rfl,Z,Z⟩,fp,q⟩
 .exact wpAny_pyIter_ascii ha ⟨s1.heap.objs.size,[s1.heap.objs.size],_,_,H1,Z,I1.kept (t':=s1.toks) λb o e=>cU _ e,ta,⟨_,fK _ rfl,Z,Z⟩,fp,q⟩
theorem Ww{k:Nat}(Pv:Nat->Da V->Hp->Prop)(hn:cs.length<=100000)(h0:Pv 0 [] (upd H Ap (.lst [])))(hs:∀(i:Nat) (c:Nat) (out:Da V) (H1:Hp),cs[i]?=some c->out.length=i->H1 Ap=some (.lst out)->Pv i out H1->te (σ2.set k (some (.str (tx [c])))) H1 (zK Pv i Ap out))(hd:∀(out:Da V) (H1:Hp),out.length=cs.length->H1 Ap=some (.lst out)->Pv cs.length out H1->Q (.ref Ap) H1):
  Ew (XZ cs) (lE k) te Ap σ2 H Q:=by
 refine⟨λi m σ' H'=>m=cs.length-i/\i<=cs.length/\(∀v,σ'.set k (some v)=σ2.set k (some v))/\∃out,out.length=i/\H' Ap=some (.lst out)/\Pv i out H',⟨cs.length,by simp,iH _,λ_=>rfl,[],Z,aq,h0⟩,?_⟩
 rintro i m σ' H' ⟨rfl,hi,hσ,out,ho,ha,p⟩
 by_cases hlt:i<cs.length
 . refine .inr ⟨hlt,λσ3=>∀v,σ3.set k (some v)=σ2.set k (some v),(zK Pv i Ap out),λσ3 v H4 hS ⟨a,b⟩=>?_,λx H1 y=>?_⟩
   . refine⟨out,a,?_,cs.length-(i+1),by omega,Z,hlt,hS,out++[v],by rw[cW,ho];rfl,aq,b⟩
     have:sizeLine=16777216:=mH
     omega
   . obtain⟨e,c,hc,ex⟩:=y
     subst e ex
     refine⟨λv=>by rw[qH];exact hσ v,?_⟩
     have q2:=hs i c out _ hc ho ha p
     rw[<-hσ]at q2
     exact q2
 . have e:i=cs.length:=by omega
   subst e
   exact .inl ⟨aL _,hd out H' ho ha p⟩
end
def EB(signs:Str)(c:Nat):Bool:=!(Builtin.Str.occurrences signs (tx [c]) 0 signs.length 1).isEmpty
def mJ(c:Int)(n:Nat):Da Nat:=(List.range n).map λi=>97+((c / 26 ^ i) % 26).toNat
def zL(c:Int)(n:Nat):(mJ c n).length=n:=by unfold mJ;rw[aE,Gs]
def Wx(c:Int)(n:Nat):mJ c (n+1)=mJ c n++[97+((c / 26 ^ n) % 26).toNat] :=by unfold mJ;rw[List.range_succ,bN];rfl
theorem TV{k:Int}(h0:0<=k)(h1:k<26):lP (("abcdefghijklmnopqrstuvwxyz":Str).cps.toList) k=some (97+k.toNat):=by
 have h:∀n:Nat,n<26->("abcdefghijklmnopqrstuvwxyz":Str).cps.toList[n]?=some (97+n):=by decide +kernel
 have e:k=((k.toNat:Nat):Int):=by omega
 have:=aC (h k.toNat (by omega));rw[<-e]at this;exact this
structure GA(vs:Da V)(H:Hp)(Q:VK)(E:XK):Prop where
 ex:∃(c:Int)(n:Nat),vs=[.int c,.int (n:Int)]/\0<=c/\n<=1000/\Q (.str (tx (mJ c n))) H
def LD{E:XK}{c ni:Int}(e:ni=(n:Int))(hc:0<=c)(hn:n<=1000)(q:Q (.str (tx (mJ c n))) H):GA [.int c,.int ni] H Q E:=by subst e;exact⟨c,n,Z,hc,hn,q⟩
inductive Zh(vs:Da V)(H:Hp)(Q:VK)(E:XK):Prop
 |mk(cs:Da Nat)(signs:Str)(_:vs=[.str (tx cs),.str signs])(_:cs.length<=100000)(_:∀H',aK H H'->Q (.bl (cs.all (EB signs))) H')
def Dk:Sp:=bx (Zh)
def RQ{H:Hp}{Q:VK}{E:XK}{cs:Da Nat}{signs:Str}(hl:cs.length<=100000)(q:∀H',aK H H'->Q (.bl (cs.all (EB signs))) H'):Dk [.str (tx cs),.str signs] H Q E:=⟨cs,signs,Z,hl,q⟩
def isName(cs:Da Nat):Bool:=decide (1<=(cs.length:Int)) && decide ((cs.length:Int)<=8) && cs.all (EB "abcdefghijklmnopqrstuvwxyz")
inductive Zi(vs:Da V)(H:Hp)(Q:VK)(E:XK):Prop
 |mk(cs:Da Nat)(_:vs=[.str (tx cs)])(_:cs.length<=100000)(_:∀H',aK H H'->Q (.bl (isName cs)) H')
def zM:Sp:=bx (Zi)
def EC{E:XK}(hl:cs.length<=100000)(q:∀H',aK H H'->Q (.bl (isName cs)) H'):zM [.str (tx cs)] H Q E:=⟨cs,Z,hl,q⟩
def ED{p q:Prop}(h:if true=true then p else q):p:=by rwa [ay rfl]at h
def EE{p q:Prop}(h:if false=true then p else q):q:=by rwa [av gH]at h
variable {cond:Expr}
section
variable {prog:Program}{w:World}{A:Around}{R:Result->Shared->Prop}{s:Shared}
theorem Jt{target:Expr}{it Ap:Value}(J:Nat->Shared->Prop)(turn:∀n s,J n s->wpAny (model prog w) A (pyNext it) (λr s₁=>match r with
    | none=>R (.ok .next) s₁
    | some v=>wpAny (model prog w) A (letOwnedTupleGo target it v) (λ_ s₂=>wpAny (model prog w) A (assign target env v) (λ_ s₃=>wpAny (model prog w) A (isTrue cond env (eval cond env)) (λok s₃'=>if ok=true then
       wpAny (model prog w) A (eval elt env) (λx s₄=>wpAny (model prog w) A (call (.builtin "list.append") [Ap,x]) (λ_ s₅=>∃m,m<n/\J m s₅) (λ_ _=>False) s₄) (λ_ _=>False) s₃'
       else ∃m,m<n/\J m s₃') (λ_ _=>False) s₃) (λ_ _=>False) s₂) (λ_ _=>False) s₁) (λ_ _=>False) s)(n:Nat)(h:J n s):codeAny (model prog w) A (.compLoop (.ListComp elt [⟨target,Bn,[cond],0⟩] scope pos) 0 it Ap env) R s:=by
 refine codeAny_loop rfl J (λn s hI=>?_) n h
 show wpAny _ A ((compTurn (.ListComp elt [⟨target,Bn,[cond],0⟩] scope pos) 0 it Ap env).onRaise (λx=>do noteFrame x env;theTreesLotGoes x)) _ _ s
 refine wpAny_noted ?_
 rw[compTurn_list]
 refine aA (D_ (aA (jX (turn n s hI) (λr s₁ h₁=>?_) λ_ _ h'=>h'.elim)))
 cases r with
 | none=>exact bw h₁
 | some v=>
   refine aA (jX h₁ (λ_ s₂ h₂=>aA (jX h₂ (λ_ s₃ h₃=>?_) λ_ _ h'=>h'.elim)) λ_ _ h'=>h'.elim)
   refine aA (wpAny_tests_one (jX h₃ (λok s₃' h₃'=>?_) λ_ _ h'=>h'.elim))
   cases ok with
   | false=>exact bw ⟨Z,EE h₃'⟩
   | true=>exact aA (aA (jX (ED h₃') (λx s₄ h₄=>aA (jX h₄ (λ_ s₅ h₅=>bw (bw ⟨Z,h₅⟩)) λ_ _ h'=>h'.elim)) λ_ _ h'=>h'.elim))
end
variable {tc:TT}{wi:TI}
section
variable {X:Cx}
def EF(J:It)(g:TG)(tc:TT)(te:TE)(Ap:Addr)(σ₀:St)(H:Hp)(Q:VK):Prop:=∃W:Nat->Nat->St->Hp->Prop,(∃m,W 0 m σ₀ (upd H Ap (.lst [])))/\∀i m σ2 H2,W i m σ2 H2->(J.stop i H2/\Q (.ref Ap) H2)\/(J.go i H2/\∃(S:St->Prop)(N:V->Hp->Prop)(N0:Hp->Prop),(∀σ3 v H4,S σ3->N v H4->∃xs,H4 Ap=some (.lst xs)/\xs.length<sizeLine/\∃m',m'<m/\W (i+1) m' σ3 (upd H4 Ap (.lst (xs++[v]))))/\(∀σ3 H4,S σ3->N0 H4->∃m',m'<m/\W (i+1) m' σ3 H4)/\∀x H',J.Eg i H2 x H'->g x σ2 H' λσ3 H3=>S σ3/\tc σ3 H3 λb H4=>if b=true then te σ3 H4 N else N0 H4)
def Zj(ix:Da (Option Nat))(g:TG)(tc:TT)(te:TE)(σ:St)(Q:VK):It->Hp->Prop:=λJ H1=>∀Ap,H1 Ap=none->EF J g tc te Ap (pick ix σ) H1 Q
def TY(wi:TI)(ix:Da (Option Nat))(g:TG)(tc:TT)(te:TE):TE:=λσ H Q=>wi σ H (Zj ix g tc te σ Q)
theorem Oq{ix:Da (Option Nat)}{g:TG}{RR:Value->Addr->Result->Shared->Prop}(hc:X.calm=true)(hg:∀cl s₂ H₂ fp,PG (eY X N2 scope cl s₂ H₂ fp) tg g)(he:∀cl s₂ H₂ fp,PE (eY X N2 scope cl s₂ H₂ fp) elt te)(ht:∀cl s₂ H₂ fp,PT (eY X N2 scope cl s₂ H₂ fp) cond tc)(hk:scope.kind =.function)(hn:ud X.N X.env.scope.names scope.names N2 ix=true)(Lw:∀y c,(y,c)∈cl->X.env.cells.lookup y=some c)(Gy:∀y,(y,NameKind.free)∈scope.names->∃c,(y,c)∈cl){it:Addr}{fp:Da Addr}{tn:Nat->Heap->Prop}{J:It}(I:Inv X AC σ H s)(T:Turn X.prog X.w X.K tg J fp it tn)(st:tn 0 s.heap)(f:∀b∈fp,qJ X AC H b)(h:∀Ap,H Ap=none->EF J g tc te Ap (ix.map λo=>o.bind λj=>(σ[j]?).join) H Q)(hR:∀Ap C H' s' m,Inv X AC σ H' s'->s'.heap.Ns C m->H' C=none->C≠X.env.locals->X.s₀.heap.objs.size<=C->(∀x c,X.env.cells.lookup x=some c->c≠C)->(∀p∈X.pn++AC,p.1≠C)->Q (.ref Ap) H'->RR (.ref Ap) C (.ok .next) s'):
  wpAny (model X.prog X.w) X.A (newList []) (λAp s₃=>wpAny (model X.prog X.w) X.A (newFunctionEnv scope X.env.globals cl [] X.env.qual none .none (some X.env)) (λcenv s₄=>
   codeAny (model X.prog X.w) X.A (.compStart (.ListComp elt [⟨tg,Bn,[cond],0⟩] scope pos) 0 (.ref it) Ap { cenv with scope:=relabel scope X.env }) (RR Ap cenv.locals) s₄) E s₃) E s:=by
 obtain⟨k1,k2,k3,k4,k5⟩:=qN hn
 refine zj ?_
 have I3:Inv X AC σ (upd H s.heap.objs.size (.lst [])) { s with heap:=s.heap.push { cls:=.type "list",data:=.seq ([] :Da Value).toArray } }:=
  I.laid (a:=s.heap.objs.size) (o:=.lst []) (t':=s.toks) (λ_ _ q=>cU _ q) (aL _) ⟨iH _,[],_,.nil,fK _ rfl⟩
 obtain⟨W,⟨m0,w0⟩,turn⟩:=h s.heap.objs.size I.fresh
 have fo:∀b∈fp,b<s.heap.objs.size:=λb hb=>by obtain⟨o,e,_⟩:=T.obj 0 _ st b hb;exact cE e
 have st3:tn 0 (s.heap.push { cls:=.type "list",data:=.seq ([] :Da Value).toArray }):=T.keep _ _ _ st λb _ o e=>cU _ e
 have f3:∀b∈fp,qJ X AC (upd H s.heap.objs.size (.lst [])) b:=λb hb=>⟨by rw[az (gr (fo b hb))];exact(f b hb).1,(f b hb).2⟩
 have TF:∀b∈fp,b<(s.heap.push { cls:=.type "list",data:=.seq ([] :Da Value).toArray }).objs.size:=λb hb=>by rw[nL];exact Rw (fo b hb)
 generalize Lx:({ s with heap:=s.heap.push { cls:=.type "list",data:=.seq ([] :Da Value).toArray } }:Shared)=s3 at *
 have eh3:s3.heap=s.heap.push { cls:=.type "list",data:=.seq ([] :Da Value).toArray }:=by rw[<-Lx]
 rw[<-eh3]at st3 TF
 generalize s.heap.objs.size=Ap at *
 generalize eH3:upd H Ap (.lst [])=H3 at *
 have IY:=Eu (N2:=N2) (scope:=scope) (cl:=cl) (fp:=fp) (σ2:=ix.map λo=>o.bind λj=>(σ[j]?).join) I3 hk Lw Gy f3 TF (by rw[aE];exact k1) (λi x v e1 e2=>by
  rw[bV]at e2;cases ei:ix[i]? with
  | none=>rw[ei]at e2;cases e2
  | some o=>
   rw[ei]at e2;cases o with
   | none=>cases e2
   | some j=>
    obtain⟨a1,a2,a3⟩:=k2 i x j e1 ei;refine⟨a2,a3,j,a1,?_⟩;have e3:(σ[j]?).join=some v:=gP e2;cases ej:σ[j]? with
    | none=>rw[ej]at e3;cases e3
    | some z=>rw[ej]at e3;exact ig some e3) k5
 have ne:wpAny (model X.prog X.w) X.A (newFunctionEnv scope X.env.globals cl [] X.env.qual none .none (some X.env)) (λcenv s₄=>
   cenv={ scope:=scope,locals:=s3.heap.objs.size,globals:=X.env.globals,cells:=cellsFrom (s3.heap.objs.size+1) scope.names cl,qual:=X.env.qual,func:=none,code:=X.env.code,frame:=X.env.frame,builtins:=X.env.builtins }/\
   s₄={ s3 with heap:=pushCells (s3.heap.push { cls:=.type "dict",data:=.dict #[] }) scope.names }) E s3:=by
  simp only[newFunctionEnv,Option.isSome_some,if_true]
  refine aA (wpAny_alloc ?_)
  refine aA (wpAny_layCells _ (λname kind cells=>by cases hkc:kind==NameKind.cell <;> simp[hkc]) _ _ _ _ ?_)
  rw[D6]
  refine aA (bw (bw ⟨?_,Z⟩))
  rw[show({ s3 with heap:=s3.heap.push { cls:=.type "dict",data:=.dict #[] } }:Shared).heap.objs.size=s3.heap.objs.size+1 from nL ..]
 refine bP ne λcenv s4 ⟨e1,e2⟩=>?_
 subst e1 e2
 have TH:tn 0 (pushCells (s3.heap.push { cls:=.type "dict",data:=.dict #[] }) scope.names):=T.keep _ _ _ st3 λb _ o e=>Kv _ _ b o (cU _ e)
 have Ey:s3.heap.objs.size≠X.env.locals:=BY I3.lt
 have vO:∀{H':Hp},(∀b∈fp,H' b=none)->∀b∈fp,qJ (eY X N2 scope cl s3 H3 fp) [] H' b:=λ{H'} hn b hb=>
  ⟨hn b hb,(IY.ok.PR b hb).1,IY.ok.Gw b hb,.inl hb,(IY.ok.PR b hb).2,λp hp=>nomatch hp⟩
 have loop:codeAny (model X.prog X.w) X.A (.compLoop (.ListComp elt [⟨tg,Bn,[cond],0⟩] scope pos) 0 (.ref it) (.ref Ap) (eY X N2 scope cl s3 H3 fp).env) (RR (.ref Ap) s3.heap.objs.size)
   { s3 with heap:=pushCells (s3.heap.push { cls:=.type "dict",data:=.dict #[] }) scope.names }:=by
  refine Jt (λn s'=>∃i σ' H',Inv (eY X N2 scope cl s3 H3 fp) [] σ' H' s'/\tn i s'.heap/\(∀b∈fp,H' b=none)/\W i n σ' H') ?_ m0 ⟨0,_,H3,IY,TH,λb hb=>(f3 b hb).1,w0⟩
  rintro n s5 ⟨i,σ5,H5,I5,yH,Ly,w5⟩
  rcases turn i n σ5 H5 w5 with⟨stop,qn⟩|⟨go,S,N,N0,hSN,hS0,step⟩
  . refine bP (T.done (eY X N2 scope cl s3 H3 fp) rfl rfl rfl hc i [] s5 σ5 H5 (λ_ _=>False) I5 (vO Ly) yH stop) λr s6 ⟨hr,I6⟩=>?_
    subst hr
    obtain⟨m6,Lz,_⟩:=id I6.loc
    have IX:Inv X AC σ H5 s6:=I3.XD (ch:=fp) I6.os I6.base I6.hok I6.bare λb hb=>⟨(f3 b hb).2.2.2.1,(f3 b hb).2.1,(f3 b hb).2.2.2.2.1,(f3 b hb).2.2.2.2.2⟩
    refine hR Ap s3.heap.objs.size H5 s6 m6 IX Lz I6.free Ey I3.sz (λx c e z=>?_) (λp hp z=>?_) qn
    . obtain⟨v,q⟩:=I3.cell x c e
      exact absurd q.lt (by rw[z];exact kK _)
    . exact absurd (cE (I3.pin p hp).1) (by rw[z];exact kK _)
  . refine bP (T.item (eY X N2 scope cl s3 H3 fp) rfl rfl rfl hc i [] s5 σ5 H5 (λ_ _=>False) I5 (vO Ly) yH go) λr s6 ⟨u,hr,h6⟩=>?_
    subst hr
    refine bP h6 λ_ s7 ⟨x,H7,I7,r7,y7,Ez,TJ⟩=>?_
    have I7':=I7.pinned (vO TJ) (T.obj _ _ Ez)
    refine bP (hg cl s3 H3 fp _ s7 σ5 H7 x u _ I7' r7 (step x H7 y7)) λ_ s8 ⟨σ8,H8,I8,XX,q8⟩=>?_
    refine bP (ht cl s3 H3 fp _ s8 σ8 H8 _ I8 q8) λok s9' ⟨H9',X0,q9'⟩=>?_
    cases ok with
    | false=>
      obtain⟨m',hm,w9⟩:=hS0 σ8 H9' XX (EE q9')
      refine ite_ff ⟨m',hm,i+1,σ8,_,X0.sJ,T.keep _ _ _ Ez λb hb o e=>(X0.pin (b,o) (kD _ (kD _ (jY hb e)))).1,λb hb=>?_,w9⟩
      obtain⟨o,e,d⟩:=T.obj _ _ Ez b hb
      exact(X0.pin (b,o) (kD _ (kD _ (jY hb e)))).2.1
    | true=>
      refine ite_tt ?_
      refine bP (he cl s3 H3 fp _ s9' σ8 H9' _ X0 (ED q9')) λy s9 ⟨v,H9,I9,r9,q9⟩=>?_
      obtain⟨xs,hxs,hxl,m',hm,w9⟩:=hSN σ8 v H9 XX q9
      refine bP (d8 _ s9 σ8 H9 (.ref Ap) [v] (.ref Ap) [y] (λz LA=>z =.cy/\LA=upd H9 Ap (.lst (xs++[v]))) I9 rfl (.cons r9 .nil) ⟨Ap,xs,v,Z,Z,hxs,hxl,Z,Z⟩) λz s10 ⟨zv,LA,LB,r10,ez,eH⟩=>?_
      subst eH
      refine⟨m',hm,i+1,σ8,_,LB.sJ,T.keep _ _ _ Ez λb hb o e=>(LB.pin (b,o) (kD _ (kD _ (jY hb e)))).1,λb hb=>?_,w9⟩
      obtain⟨o,e,d⟩:=T.obj _ _ Ez b hb
      exact(LB.pin (b,o) (kD _ (kD _ (jY hb e)))).2.1
 exact codeAny_compStart_list loop (T.self _ 0 _ _ _ TH loop)
def Wy(N2:Da Str)(ix:Da (Option Nat)){g:TG}(hc:X.calm=true)(hi:PI X tg Bn wi)(hg:∀cl s₂ H₂ fp,PG (eY X N2 scope cl s₂ H₂ fp) tg g)(he:∀cl s₂ H₂ fp,PE (eY X N2 scope cl s₂ H₂ fp) elt te)(ht:∀cl s₂ H₂ fp,PT (eY X N2 scope cl s₂ H₂ fp) cond tc)(hk:scope.kind =.function)(hn:ud X.N X.env.scope.names scope.names N2 ix=true)(hs:∀x,foldedSetIterable Bn X.env x=pure x:=by intro _;rfl):
  PE X (.ListComp elt [⟨tg,Bn,[cond],0⟩] scope pos) (TY wi ix g tc te):=by
 intro AC s σ H Q I h
 obtain⟨k1,k2,k3,k4,k5⟩:=qN hn
 obtain⟨cl,TZ,c1,c2⟩:=zJ (scope:=scope) (env:=X.env) λy hy e=>I.ok.has y.1 (k3 y hy e)
 rw[eval_ListComp]
 refine wpAny_comprehension_free (use:=none) rfl hs TZ hk k4 (bP (hi AC s σ H _ I h) λv s1 h1=>bP h1 λitv s2 h2=>?_)
 obtain⟨it,fp,tn,J,H2,e,I2,T,st2,f2,h2⟩:=h2
 subst e
 refine Oq (RR:=λAp C=>compPost (model X.prog X.w) X.A X.xe none (EP X AC σ Q) Ap C) (Q:=Q) hc hg he ht hk hn (λy c m=>(c1 y c m).1) c2 I2 T st2 f2 h2 ?_
 intro Ap C H' s' m I' ns Ey hL hsz yI EG q
 exact⟨m,ns,λh' hs'=>⟨.ref Ap,H',I'.turned (it:=C) (t':=s'.toks) (λb o hb e=>(hs'.2 b hb).trans e) Ey hL (.inr hsz) yI EG,Z,q⟩⟩
end
theorem zN{α:Type}[DecidableEq α] :∀{l m:Da α},l.Nodup->(∀x∈l,x∈m)->l.length<=m.length
 | [],_,_,_=>iH _
 | x::r,m,h,hs=>by
  have hn:=g_.mp h;have hx:=hs x cM;have:=zN (l:=r) (m:=m.erase x) hn.2 λy hy=>by have hne:y≠x:=λe=>hn.1 (e▸hy);exact(List.mem_erase_of_ne hne).mpr (hs y (cQ _ hy))
  rw[List.length_erase_of_mem hx]at this;have hp:0<m.length:=List.length_pos_of_mem hx;rw[jf];omega
variable {i:Nat}
def T3(c:Int)(h:i<n):(mJ c n)[i]?=some (97+((c / 26 ^ i) % 26).toNat):=by unfold mJ;rw[bV,List.getElem?_range h];rfl
theorem Zk{c c':Int}{d:Nat}(h:d<n)(e:mJ c n=mJ c' n):(c / 26 ^ d) % 26=(c' / 26 ^ d) % 26:=by have h1:=T3 c h;rw[e,T3 c' h]at h1;have h2:=gP h1;have a0:0<=(c / 26 ^ d) % 26:=o9 _ (by decide);have b0:0<=(c' / 26 ^ d) % 26:=o9 _ (by decide);omega
structure qO(x:Da Nat):Prop where
 lo:1<=x.length
 hi:x.length<=8
 Zl:∀c∈x,97<=c/\c<123
theorem abz(c:Int)(h1:1<=n)(h2:n<=8):qO (mJ c n):=by refine⟨by rw[zL];exact h1,by rw[zL];exact h2,λx hx=>?_⟩;obtain⟨i,_,rfl⟩:=aW.mp hx;have a0:0<=(c / 26 ^ i) % 26:=o9 _ (by decide);have a1:(c / 26 ^ i) % 26<26:=zh _ (by decide);omega
def ue(nss:Da (Da Nat)):Da V:=nss.map λx=>V.str (tx x)
def Wz(nss:Da (Da Nat)):(ue nss).all tS=true:=by unfold ue;rw[List.all_map,qD];exact λ_ _=>rfl
def T4{a b:Da Nat}(h:tx a=tx b):a=b:=by
 have:a.toArray=b.toArray:=by injection h
 simpa using this
def Qh(x:Da Nat)(nss:Da (Da Nat)):Ic (.str (tx x)) (ue nss)=decide (x∈nss):=by
 unfold Ic ue;rw[List.any_map,BU,List.any_eq_true,decide_eq_true_eq];constructor
 .rintro ⟨y,hy,e⟩;have e2:Ao (.str (tx y)) (.str (tx x))=true:=e;have e3:tx y=tx x:=by unfold Ao at e2;simpa using e2
  rw[<-T4 e3];exact hy
 .intro h;refine⟨x,h,?_⟩;show Ao (.str (tx x)) (.str (tx x))=true;unfold Ao;simp
open PySem.NumText
section
variable {X:Cx}
end
def RS(lo st:Int)(n:Nat):It:=⟨λi _=>i<n,λi H x H'=>H'=H/\x =.int (lo+i*st),λi _=>n<=i⟩
variable {P:Program}{w:World}
theorem Ot(it:Addr)(lo st:Int)(n:Nat):Turn P w K tg (RS lo st n) [it] it (λi h=>IsRangeIter h it (lo+(i:Nat)*st) ((n:Int)-(i:Nat)) st) where
 mem:=by simp
 obj:=λi h st b hb=>by
  have e:b=it:=by simpa using hb
  subst e;exact⟨_,st,λv z=>by have z':Data.fields _=Data.cell v:=z;cases z'⟩
 keep:=λi h h' st k=>k it (by simp) _ st
 item:=by intro X hP hw hK hc i AC s σ H E I hf st' hg;subst hP hw hK;obtain⟨f0,f1,f2,f3,f4,f5⟩:=hf it (by simp);have W:=Walks.range (prog:=X.prog) (w:=X.w) (I.ok.hd hc) it lo st n;refine W.item i s _ _ hg st' λv h' tk hv st2 kk=>?_;obtain⟨t,rfl⟩:=hv;have I1:Inv X AC σ H { s with heap:=h',toks:=tk }:=I.turned (λb o hb e=>kk b o (by simpa using hb) e) f0 f1 f3 f4 f5;exact⟨_,Z,B8 (s:={ s with heap:=h',toks:=tk }) (n:="range_iterator") st2 rfl rfl (by decide) ⟨.int (lo+i*st),H,I1,⟨t,Z⟩,⟨Z,Z⟩,st2,λb hb=>(hf b hb).1⟩⟩
 done:=by intro X hP hw hK hc i AC s σ H E I hf st' hg;subst hP hw hK;obtain⟨f0,f1,f2,f3,f4,f5⟩:=hf it (by simp);exact wpAny_pyNext_range_end (I.ok.hd hc) st' (by have:n<=i:=hg;omega) λh' eb=>⟨Z,I.turned (t':=s.toks) (λb o hb e=>eb b o hb e) f0 f1 f3 f4 f5⟩
 self:=λ_ _ _ _ _ st h=>wpAny_pyIter_rangeiter st h
section
variable {X:Cx}{tg:Expr}
def sM(lo hi st:Int):Nat:=(Builtin.Range.rangeSize lo hi st).toNat
inductive abA(R:It->Hp->Prop)(vs:Da V)(H1:Hp):Prop
 |mk(i j k:Int)(_:vs=[.int i,.int j,.int k])(_:(0<=i/\i<=1000000/\0<=j/\j<=1000000/\0<k/\k<=1000000))(_:R (RS i k (sM i j k)) H1)
def aeu(ta:TA):TI:=λσ H R=>ta σ H (abA R)
theorem Ou{a b c:Int}(h1:0<=a)(h2:a<=1000000)(h3:0<=b)(h4:b<=1000000)(h5:0<c)(h6:c<=1000000):Builtin.Range.small a b c=true/\0<=Builtin.Range.rangeSize a b c:=by
 have hr:0<=Builtin.Range.rangeSize a b c/\Builtin.Range.rangeSize a b c<=1000001:=by
  unfold Builtin.Range.rangeSize;rw[ay (by omega)];split
  .have e0:0<=(b-a-1) / c:=Ks (by omega) (by omega);have e1:(b-a-1) / c<=b-a-1:=Ko _ (by omega);omega
  .omega
 refine⟨?_,hr.1⟩;unfold Builtin.Range.small;simp only[Builtin.Range.rangeFitsLong,Bool.and_eq_true,Bool.or_eq_true,decide_eq_true_eq,vh,show c>0 from h5,if_true];omega
end
def Zm(signs:Str)(c:Nat):EB signs c=decide (c∈signs.cps.toList):=PySem.StrLaws.found_one signs c
open Builtin Builtin.Str
section
variable {X:Cx}
end
def Qi(c:Int)(j d:Nat):(c+(j:Int)*26 ^ d) / 26 ^ d=c / 26 ^ d+(j:Int):=by have hp:(26:Int) ^ d≠0:=Int.ne_of_gt (Int.pow_pos (by decide));rw[Int.add_mul_ediv_right _ _ hp]
variable {nss:Da (Da Nat)}{t:Nat}
theorem T5{c:Int}{d:Nat}(h2:d<n)(ht:t<=26)(h:∀j:Nat,j<t->mJ (c+(j:Int)*26 ^ d) n∈nss):t<=nss.length:=by
 have hn:((List.range t).map λj=>mJ (c+((j:Nat):Int)*26 ^ d) n).Nodup:=by have:(List.range t).Pairwise (λa b=>a<b):=List.pairwise_lt_range;refine List.Pairwise.map _ ?_ (List.Pairwise.and_mem.mp this);rintro a b ⟨ha,hb,hab⟩ e;have ha':=tO.mp ha;have hb':=tO.mp hb;have:=Zk h2 e;rw[Qi,Qi]at this;omega
 have:=zN hn λx hx=>by obtain⟨j,hj,rfl⟩:=aW.mp hx;exact h j (tO.mp hj)
 rw[aE,Gs]at this;exact this
inductive abB(K:Fg)(vs:Da V)(H:Hp)(Q:VK)(E:XK):Prop
 |mk(a:Addr)(ms:Da Int)(k:Int)(BM:Nat)(_:vs=[.ref a,.int k,.int (BM:Int)])(_:aB K H a (ms.map V.int))(_:ms.length<=63)(_:0<=k)(_:BM<=25)(_:∀(z:Addr) (nss:Da (Da Nat)) (H':Hp),aK H H'->H' z=some (.lst (ue nss))->H z=none->nss.length=BM->nss.Nodup->(∀x∈nss,qO x)->Q (.ref z) H')
def GB(K:Fg):Sp:=bx (abB K)
def Ij{E:XK}{ms:Da Int}{k mi:Int}{BM:Nat}(hmi:mi=(BM:Int))(hS:aB K H a (ms.map V.int))(h63:ms.length<=63)(h1:0<=k)(h2:BM<=25)(h:∀(z:Addr) (nss:Da (Da Nat)) (H':Hp),aK H H'->H' z=some (.lst (ue nss))->H z=none->nss.length=BM->nss.Nodup->(∀x∈nss,qO x)->Q (.ref z) H'):GB K [.ref a,.int k,.int mi] H Q E:=by
 subst hmi
 exact⟨a,ms,k,BM,Z,hS,h63,h1,h2,h⟩
def AN{a:Da (Key×V)}{b:Da (Key×Value)}(r:KV a b):∀{j:Nat}{p:Key×V},a[j]?=some p->∃q,b[j]?=some q/\p.1=q.1/\RelV p.2 q.2:=by
 induction r with
 | nil=>intro j p z;simp at z
 | cons r1 _ ih=>
  intro j p z;cases j with
  | zero=>simp at z;subst z;exact⟨_,Z,r1⟩
  | succ j=>simp at z;obtain⟨q,a1,a2⟩:=ih z;exact⟨q,by simpa using a1,a2⟩
abbrev qo(H:Hp)(d:Addr)(o:Obj)(AT:Da (Key×V)):Prop:=H d=some (.gy o (.dK AT))
section
variable {X:Cx}{AC:AO}{σ σ':St}{H H':Hp}{s s':Shared}{d:Addr}{AT:Da (Key×V)}{o:Obj}
def Inv.freeze(I:Inv X AC σ H s)(e:H d=some (.dK AT))(ho:s.heap.get? d=some o):Inv X AC σ (upd H d (.gy o (.dK AT))) s:=by
 have nd:∀{b:Addr},H b=none->b≠d:=λh z=>by rw[z,e]at h;cases h
 have dn:∀{b:Addr},H b=none->upd H d (.gy o (.dK AT)) b=none:=λh=>by rw[az (nd h)];exact h
 have un:∀{b:Addr}{u:HO},H b=some u->(∀k,u ≠ .dK k)->b≠d:=λh k z=>by rw[z,e]at h;cases h;exact k _ rfl
 refine⟨I.ok,I.os,I.bare,⟨I.base.keep,I.base.slot,λb ob q n x=>dn (I.base.free b ob q n x),I.base.there,λb xs q=>?_,λb ob u q=>?_,λb ps q=>?_⟩,I.loc,I.cell,dn I.free,λx c q=>dn (I.pA x c q),λp hp=>?_,λb ob q=>?_,I.len⟩
 .have:=I.base.tups b xs q;rw[az (un this λk z=>by cases z)];exact this
 .have:=I.base.uF b ob u q;rw[az (un this λk z=>by cases z)];exact this
 .obtain ⟨more,this⟩:=I.base.yi b ps q;exact⟨more,by rw[az (un this λk z=>by cases z)];exact this⟩
 .obtain ⟨h1,h2,h3⟩:=I.pin p hp;exact⟨h1,dn h2,h3⟩
 .by_cases hb:b=d
  .subst hb;rw[aq]at q;cases q;have:=I.hok b _ e;exact⟨ho,this⟩
  .rw [az hb]at q;refine(I.hok b ob q).stay (λc u _ z=>z) (λc z=>?_) λc xs z=>?_
   .rw [az (un z λk z=>by cases z)];exact z
   .rw [az (un z λk z=>by cases z)];exact z
def Inv.Dl(I:Inv X AC σ H s)(e:qo H d o AT)(h0:∀o u,X.H₀ d≠some (.gy o u)):Inv X AC σ (upd H d (.dK AT)) s:=by
 have nd:∀{b:Addr},H b=none->b≠d:=λh z=>by rw[z]at h;exact absurd (h.symm.trans e) (by simp)
 have dn:∀{b:Addr},H b=none->upd H d (.dK AT) b=none:=λh=>by rw[az (nd h)];exact h
 have un:∀{b:Addr}{u:HO},H b=some u->(∀o k,u ≠ .gy o k)->b≠d:=λh k z=>by rw[z]at h;have:=h.symm.trans e;cases this;exact k _ _ rfl
 refine⟨I.ok,I.os,I.bare,⟨I.base.keep,I.base.slot,λb ob q n x=>dn (I.base.free b ob q n x),I.base.there,λb xs q=>?_,λb ob u q=>?_,λb ps q=>?_⟩,I.loc,I.cell,dn I.free,λx c q=>dn (I.pA x c q),λp hp=>?_,λb ob q=>?_,I.len⟩
 .have:=I.base.tups b xs q;rw[az (un this λ_ k z=>by cases z)];exact this
 .have:=I.base.uF b ob u q;rw[az (λ(z:b=d)=>h0 ob u (by rw[<-z];exact q))];exact this
 .obtain ⟨more,this⟩:=I.base.yi b ps q;exact⟨more,by rw[az (un this λ_ k z=>by cases z)];exact this⟩
 .obtain ⟨h1,h2,h3⟩:=I.pin p hp;exact⟨h1,dn h2,h3⟩
 .by_cases hb:b=d
  .subst hb;rw[aq]at q;cases q;exact(I.hok b _ e).2
  .rw [az hb]at q;refine(I.hok b ob q).stay (λc u _ z=>z) (λc z=>?_) λc xs z=>?_
   .rw [az (un z λ_ k z=>by cases z)];exact z
   .rw [az (un z λ_ k z=>by cases z)];exact z
def Inv.T6(I:Inv X AC σ H s)(e:H d=some (.dK AT)):∀o u,X.H₀ d≠some (.gy o u):=λo u z=>by have:=I.base.uF d o u z;rw[e]at this;cases this
def Inv.tU(I:Inv X AC σ H s)(e:qo H d o AT):s.heap.get? d=some o/\AT.length<=sizeLine/\(d==sysModules)=false/\∃vs ep,KV AT vs/\s.heap.DictAt (di X.prog X.w) d vs ep:=by
 obtain⟨ho,hz,hs,vs,r,dd⟩:=(show fq X.prog X.w H s.heap d (.gy o (.dK AT))from I.hok d _ e)
 obtain⟨ep,da⟩:=dd.dictAt;exact⟨ho,hz,hs,vs,ep,r,da⟩
end
def Ends.Dl(D:Ends)(d:Addr)(o:Obj)(AT:Da (Key×V)):Ends where
 nx:=λσ H=>qo H d o AT/\D.nx σ (upd H d (.dK AT))
 rt:=λv H=>qo H d o AT/\D.rt v (upd H d (.dK AT))
 bk:=λσ H=>qo H d o AT/\D.bk σ (upd H d (.dK AT))
 ct:=λσ H=>qo H d o AT/\D.ct σ (upd H d (.dK AT))
inductive ahK(t:TS)(D:Ends)(σ:St)(H:Hp):Prop
 |mk(d AT:_)(_:H d=some (.dK AT))(_:∀o,t (D.Dl d o AT) σ (upd H d (.gy o (.dK AT))))
def ahL(t:TE):TE:=λσ H Q=>∃d AT,H d=some (.dK AT)/\∀o,t σ (upd H d (.gy o (.dK AT))) λv H'=>qo H' d o AT/\Q v (upd H' d (.dK AT))
def Itv(d:Addr)(o:Obj)(AT:Da (Key×V)):It:=⟨λi H=>qo H d o AT/\i<AT.length,λi H x H'=>H'=H/\∃p,AT[i]?=some p/\x=p.2,λi H=>qo H d o AT/\AT.length<=i⟩
def Iti(d:Addr)(o:Obj)(AT:Da (Key×V)):It:=⟨λi H=>qo H d o AT/\i<AT.length,λi H x H'=>∃a p,H a=none/\AT[i]?=some p/\x =.ref a/\H'=upd H a (.tup [kV p.1,p.2]),λi H=>qo H d o AT/\AT.length<=i⟩
variable {h:Heap}{d:Addr}{es:Array DictEntry}
def Ce{vs:Da (Key×Value)}{e1 e2:Nat}{o:Obj}(da:h.DictAt (di P w) d vs e1)(ho:h.get? d=some o)(hd:o.data =.dict es e2):e1=e2:=by obtain⟨o',es',h1,_,h2,_⟩:=da;rw[ho]at h1;cases h1;rw[hd]at h2;cases h2;rfl
def T7{k:Key}{v:Value}(h:(di P w).is k v=true):RelV (kV k) v:=by
 rw[Rz]at h;rcases ie h with⟨i,t,rfl,rfl⟩|⟨x,t,rfl,rfl⟩
 .exact ⟨t,Z⟩
 .exact ⟨t,Z⟩
variable {it:Addr}{AT:Da (Key×V)}{ep:Nat}
theorem T8{o:Obj}(hd:o.data =.dict es ep):Turn P w K tg (Itv d o AT) [it] it (λi h=>h.IsValIter it d i AT.length ep) where
 mem:=by simp
 obj:=λi h st b hb=>by
  have e:b=it:=by simpa using hb
  subst e;obtain⟨o,e,c,d⟩:=st;exact⟨o,e,λv z=>by rw[d]at z;cases z⟩
 keep:=λi h h' st k=>st.at λo e=>k it (by simp) o e
 item:=by intro X hP hw hK hc i AC s σ H E I hf st hg;subst hP hw hK;obtain⟨hz,hlt⟩:=hg;obtain⟨ho,_,_,vs,sf,r,da⟩:=I.tU hz;cases Ce da ho hd;have hl:AT.length=vs.length:=r.length;obtain⟨q,hq,_,rq⟩:=AN r (bf hlt);obtain⟨qk,qv⟩:=q;rw[hl]at st;obtain⟨f0,f1,f2,f3,f4,f5⟩:=hf it (by simp);refine wpAny_pyNext_values_item st da hq λh' st' sb=>?_;have I1:Inv X AC σ H { s with heap:=h' }:=I.turned (t':=s.toks) (λb o hb e=>(sb.2 b hb).trans e) f0 f1 f3 f4 f5;obtain⟨oi,e,c,dd⟩:=id st';exact⟨_,Z,B8 (s:={ s with heap:=h' }) e c dd (by decide) ⟨AT[i].2,H,I1,rq,⟨Z,AT[i],bf hlt,Z⟩,by rw[hl];exact st',λb hb=>(hf b hb).1⟩⟩
 done:=by intro X hP hw hK hc i AC s σ H E I hf st hg;subst hP hw hK;obtain⟨hz,hle⟩:=hg;obtain⟨ho,_,_,vs,sf,r,da⟩:=I.tU hz;cases Ce da ho hd;have hl:AT.length=vs.length:=r.length;rw[hl]at st;obtain⟨f0,f1,f2,f3,f4,f5⟩:=hf it (by simp);exact wpAny_pyNext_values_end (I.ok.hd hc) st da (by rw[m7];omega) λh' eb=>⟨Z,I.turned (t':=s.toks) (λb o hb e=>eb b o hb e) f0 f1 f3 f4 f5⟩
 self:=λ_ _ _ _ _ st h=>wpAny_pyIter_valiter st h
variable {DD:Da Expr}
theorem RT{kk:Nat}{o:Obj}(hd:o.data =.dict es ep):Turn P w K (.Tuple DD kk pos) (Iti d o AT) [it] it (λi h=>∃ok ov,IsItemIter h it d i AT.length ep ok ov) where
 mem:=by simp
 obj:=λi h st b hb=>by
  have e:b=it:=by simpa using hb
  subst e;obtain⟨ok,ov,e⟩:=st;exact⟨_,e,λv z=>by cases z⟩
 keep:=λi h h' ⟨ok,ov,st⟩ k=>⟨ok,ov,k it (by simp) _ st⟩
 item:=by
  intro X hP hw hK hc i AC s σ H E I hf st hg;subst hP hw hK;obtain⟨hz,hlt⟩:=hg;obtain⟨ok,ov,st⟩:=st;obtain⟨ho,_,_,vs,sf,r,da⟩:=I.tU hz;cases Ce da ho hd;have hl:AT.length=vs.length:=r.length;obtain⟨q,hq,ek,rq⟩:=AN r (bf hlt);obtain⟨qk,qv⟩:=q;rw[hl]at st;obtain⟨f0,f1,f2,f3,f4,f5⟩:=hf it (by simp);refine wpAny_pyNext_items_item st da hq λkey h1 hk st1 ht hsz hkeep=>?_;refine⟨_,Z,wpAny_letOwnedTupleGo_items (s:={ s with heap:=h1 }) st1 λh2 st2 sb=>?_⟩;have rk:RelV (kV AT[i].1) key:=by rw[ek];exact T7 hk
  have hil:it≠s.heap.objs.size:=gr (cE st);have xP:∀b o,b≠it->s.heap.get? b=some o->h2.get? b=some o:=λb o hb e=>sb.extBut b o hb (hkeep b o hb e);have I1:Inv X AC σ (upd H s.heap.objs.size (.tup [kV AT[i].1,AT[i].2])) { s with heap:=h2 }:=by
   have J:Inv X AC σ H { s with heap:=h2 }:=I.turned (t':=s.toks) xP f0 f1 f3 f4 f5;have hn:=I.fresh;have J2:Inv X AC σ (upd H s.heap.objs.size (.tup [kV AT[i].1,AT[i].2])) { s with heap:=h2,gens:=s.gens,drawn:=s.drawn,toks:=s.toks }:=by
    refine I.step (ch:=[it]) (λb hb=>⟨(hf b hb).2.2.2.1,(hf b hb).2.1,(hf b hb).2.2.2.2.1,(hf b hb).2.2.2.2.2⟩) (λb o _ _ hc' e _=>xP b o (by simpa using hc') e) (λb o _ _ hc' e _=>⟨o.slots,xP b o (by simpa using hc') e⟩) (λb o _ e n=>by rw[az (gr (cE e))];exact n) (λb o hc' e=>⟨o,xP b o (by simpa using hc') e⟩)
     (λb zs q=>by rw[az (aJ q hn)];exact q) (λb o zs q=>by rw[az (aJ q hn)];exact q) (λb ps q=>⟨#[],by rw[az (aJ q hn),q];simp⟩) (λm hm=>?_) (λb ob e=>?_) I.bare
    .obtain ⟨o,es,ep,ho,r⟩:=hm;exact⟨o,es,ep,xP _ o (λq=>f1 q.symm) ho,r⟩
    .by_cases hb:b=s.heap.objs.size
     .subst hb;rw[aq]at e;cases e;exact⟨by show 2<=sizeLine;decide,[key,qv],.cons rk (.cons rq .nil),_,sb.extBut _ _ hil.symm ht,Z,0,Z⟩
     .rw [az hb]at e;refine(I.hok b ob e).stay (λc v T9 q=>?_) (λc q=>by rw[az (aJ q hn)];exact q) λc zs q=>by rw[az (aJ q hn)];exact q
      refine xP c v (λz=>?_) q;rcases T9 with r|r
      .rw [r]at z;rw[z,f0]at e;cases e
      .rw [z,f0]at r;cases r
   exact J2
  refine⟨.ref s.heap.objs.size,_,I1,Z,⟨_,AT[i],I.fresh,bf hlt,Z,Z⟩,⟨key,qv,by rw[hl];exact st2⟩,λb hb=>?_⟩;have eb:b=it:=by simpa using hb
  subst eb;rw[az hil];exact f0
 done:=by intro X hP hw hK hc i AC s σ H E I hf st hg;subst hP hw hK;obtain⟨hz,hle⟩:=hg;obtain⟨ok,ov,st⟩:=st;obtain⟨ho,_,_,vs,sf,r,da⟩:=I.tU hz;cases Ce da ho hd;have hl:AT.length=vs.length:=r.length;rw[hl]at st;obtain⟨f0,f1,f2,f3,f4,f5⟩:=hf it (by simp);exact wpAny_pyNext_items_end (I.ok.hd hc) st da (by rw[m7];omega) λh' eb=>⟨Z,I.turned (t':=s.toks) (λb o hb e=>eb b o hb e) f0 f1 f3 f4 f5⟩
 self:=λA i s Q E ⟨ok,ov,st⟩ h=>PySem.W.kcp_self st h
section
variable {X:Cx}{tg:Expr}
inductive abC(R:It->Hp->Prop)(x:V)(H1:Hp):Prop
 |mk(d o AT:_)(_:x =.ref d)(_:qo H1 d o AT)(_:R (Itv d o AT:_) H1)
def aev(td:TE):TI:=λσ H R=>td σ H (abC R)
inductive Zn(R:It->Hp->Prop)(x:V)(H1:Hp):Prop
 |mk(d o AT:_)(_:x =.ref d)(_:qo H1 d o AT)(_:R (Iti d o AT:_) H1)
def abD(td:TE):TI:=λσ H R=>td σ H (Zn R)
end
variable {J:It}{tb:TS}{D:Ends}
theorem vQ{g:TG}(Pv:Nat->St->Hp->Prop)(h0:Pv 0 σ H)(hgo:∀i σ H,i<n->Pv i σ H->J.go i H)(hst:∀σ H,Pv n σ H->J.stop n H)(hs:∀i x σ H H',i<n->Pv i σ H->J.Eg i H x H'->g x σ H' (tb (D.lp (Pv (i+1)))))(hd:∀σ H,Pv n σ H->D.nx σ H):
  KA g tb D σ (J) H:=by
 refine⟨λi m σ H=>m=n-i/\i<=n/\Pv i σ H,⟨n,by simp,iH _,h0⟩,?_⟩
 rintro i m σ H ⟨rfl,hi,p⟩
 by_cases hlt:i<n
 . exact .inr ⟨hgo i σ H hlt p,Pv (i+1),λσ' H' p'=>⟨n-(i+1),by omega,Z,hlt,p'⟩,λx H' y=>hs i x σ H H' hlt p y⟩
 . have e:i=n:=by omega
   subst e
   exact .inl ⟨hst σ H p,hd σ H p⟩
section
variable {prog:Program}{w:World}{K:Type}[DecidableEq K]{knd:KeyKind prog w K}{A:Around}{E:VS}{s:Shared}
theorem Ov{AT:Da (K×Value)}{k:K}{v:Value}{Q:VS}(hit:s.heap.IsKeyIter it d i AT.length ep)(hm:s.heap.DictAt knd d AT ep)(hx:AT[i]?=some (k,v))(hQ:∀key h',knd.is k key=true->h'.IsKeyIter it d (i+1) AT.length ep->Heap.SameBut it s.heap h'->Q key { s with heap:=h' }):
  wpAny (model prog w) A (Builtin.SmallTypes.nextOf (.ref it)) Q E s:=by
 obtain⟨o,ho,hc,hd⟩:=id hit;obtain⟨od,es,hod,hcd,AQ,hk,hp,hn⟩:=id hm
 unfold Builtin.SmallTypes.nextOf
 refine aA (AB (name:=Str.ofString "__next__") hit.typeIs Xw (xC Xw hit.typeIs F.entry_dict_keyiterator_next ?_ (F.args_dict_keyiterator_next_1 _)))
 refine aA (bw ?_);refine aA (aA ?_)
 first|(refine aA (Xu hit.typeIs (bw ?_));refine aA (xD ho hd ?_))|(refine aA (Rg hit.typeIs (bw ?_));refine aA (xD ho hd ?_))
 have own:Builtin.Dict_items.ownsTuple "dict_keyiterator"=false:=by decide
 simp only[own,KZ,tQ]
 show wpAny _ _ (if(Value.ref d==Value.none)=true then _ else _) _ _ _
 rw[av (λz=>gH z:¬ ((Value.ref d==Value.none)=true))];refine aA (bw ?_)
 have sz:es.size=AT.length:=by have:=hp.length;simpa using this
 refine aA (Ry hod AQ ?_);rw[av (by rw[sz];simp)]
 refine aA (bw ?_);refine aA (Kw hod AQ ?_)
 rw[av (by simp)];refine bw ?_
 have lt:i<AT.length:=(dM.mp hx).1
 have lt':i<es.size:=by omega
 have kv:=hp.get? (e:=es[i]) (by simp[lt']) hx
 simp only[show ¬ ((i:Int)<0)from by omega,tQ,sH,Array.getElem?_eq_getElem lt'];refine aA ?_
 first|(refine aA (Xu hit.typeIs (bw ?_));refine aA (wpAny_isOneOf_keyiter hit.typeIs ?_))|(refine aA (Rg hit.typeIs (bw ?_));refine aA (wpAny_isOneOf_keyiter hit.typeIs ?_))
 show wpAny _ _ (setField (.ref it) 1 (rawInt ((i:Int)+1)) >>= _) _ _ _
 refine aA (BV ho hd (by simp) ?_)
 have GD:(s.heap.update it (Obj.mapFields (·.setIfInBounds 1 (rawInt ((i:Int)+1))))).IsKeyIter it d (i+1) AT.length ep:=⟨_,Rl _ ho (Obj.isFreed_of_fields (Gq hd _)),(Obj.cls_mapFields ..).trans hc,by rw[Gq hd];simp[rawInt]⟩
 refine aA (Ea (aA (wpAny_isOneOf_keyiter (s:={ s with heap:=s.heap.update it (Obj.mapFields (·.setIfInBounds 1 (rawInt ((i:Int)+1)))) }) GD.typeIs ?_)))
 exact bw (bw ⟨_,Z,bw (hQ _ _ kv.1 GD (Gn ..))⟩)
theorem RU{AT:Da (K×Value)}{Q:VS}(hh:A.handled=none)(hit:s.heap.IsKeyIter it d i AT.length ep)(hm:s.heap.DictAt knd d AT ep)(hx:AT[i]?=none)(hE:∀h' e,Heap.ExtBut it s.heap h'->(∃o,h'.get? e=some o/\o.cls =.type "StopIteration")->E (.ref e) { s with heap:=h' }):
  wpAny (model prog w) A (Builtin.SmallTypes.nextOf (.ref it)) Q E s:=by
 obtain⟨o,ho,hc,hd⟩:=id hit;obtain⟨od,es,hod,hcd,AQ,hk,hp,hn⟩:=id hm
 unfold Builtin.SmallTypes.nextOf
 refine aA (AB (name:=Str.ofString "__next__") hit.typeIs Xw (xC Xw hit.typeIs F.entry_dict_keyiterator_next ?_ (F.args_dict_keyiterator_next_1 _)))
 refine aA (bw ?_);refine aA (aA ?_)
 first|(refine aA (Xu hit.typeIs (bw ?_));refine aA (xD ho hd ?_))|(refine aA (Rg hit.typeIs (bw ?_));refine aA (xD ho hd ?_))
 have own:Builtin.Dict_items.ownsTuple "dict_keyiterator"=false:=by decide
 simp only[own,KZ,tQ]
 show wpAny _ _ (if(Value.ref d==Value.none)=true then _ else _) _ _ _
 rw[av (λz=>gH z:¬ ((Value.ref d==Value.none)=true))];refine aA (bw ?_)
 have sz:es.size=AT.length:=by have:=hp.length;simpa using this
 refine aA (Ry hod AQ ?_);rw[av (by rw[sz];simp)]
 refine aA (bw ?_);refine aA (Kw hod AQ ?_)
 rw[av (by simp)];refine bw ?_
 have ge:es.size<=i:=by rw[sz];simpa using hx
 simp only[show ¬ ((i:Int)<0)from by omega,tQ,sH,Array.getElem?_eq_none ge];refine aA ?_
 first|(refine aA (Xu hit.typeIs (bw ?_));show wpAny _ _ (setField (.ref it) 0 .none >>= _) _ _ _)|(refine aA (Rg hit.typeIs (bw ?_));show wpAny _ _ (setField (.ref it) 0 .none >>= _) _ _ _)
 refine aA (BV ho hd (by simp) ?_);show wpAny _ _ (newExc (.type "StopIteration") [] >>= _) _ _ _
 refine aA ?_;simp only[newExc,newTuple]
 refine aA (zj ?_ (by size_fits));refine aA (m:=firstArgMember _ _) (wpAny_of_eq (a:=Value.none) (by first|rfl|(simp only[firstArgMember];rfl)) ?_)
 refine zj ?_ (by size_fits);simp only[raiseNew]
 refine aA (wpAny_handled ?_);rw[show A.in1.handled=none from hh]
 exact aA (bw (wpAny_throw (hE _ _ (((Gn ..).extBut.push _).push _) ⟨_,fK _ rfl,Z⟩)))
theorem Ow{AT:Da (K×Value)}{k:K}{v:Value}{Q:VS}(hit:s.heap.IsValIter it d i AT.length ep)(hm:s.heap.DictAt knd d AT ep)(hx:AT[i]?=some (k,v))(hQ:∀h',h'.IsValIter it d (i+1) AT.length ep->Heap.SameBut it s.heap h'->Q v { s with heap:=h' }):
  wpAny (model prog w) A (Builtin.SmallTypes.nextOf (.ref it)) Q E s:=by
 obtain⟨o,ho,hc,hd⟩:=id hit;obtain⟨od,es,hod,hcd,AQ,hk,hp,hn⟩:=id hm
 unfold Builtin.SmallTypes.nextOf
 refine aA (AB (name:=Str.ofString "__next__") hit.typeIs Xs (xC Xs hit.typeIs F.entry_dict_valueiterator_next ?_ (F.args_dict_valueiterator_next_1 _)))
 refine aA (bw ?_);refine aA (aA ?_)
 first|(refine aA (Xv hit.typeIs (bw ?_));refine aA (xD ho hd ?_))|(refine aA (Rh hit.typeIs (bw ?_));refine aA (xD ho hd ?_))
 have own:Builtin.Dict_items.ownsTuple "dict_valueiterator"=false:=by decide
 simp only[own,KZ,tQ]
 show wpAny _ _ (if(Value.ref d==Value.none)=true then _ else _) _ _ _
 rw[av (λz=>gH z:¬ ((Value.ref d==Value.none)=true))];refine aA (bw ?_)
 have sz:es.size=AT.length:=by have:=hp.length;simpa using this
 refine aA (Ry hod AQ ?_);rw[av (by rw[sz];simp)]
 refine aA (bw ?_);refine aA (Kw hod AQ ?_)
 rw[av (by simp)];refine bw ?_
 have lt:i<AT.length:=(dM.mp hx).1
 have lt':i<es.size:=by omega
 have kv:=hp.get? (e:=es[i]) (by simp[lt']) hx
 simp only[show ¬ ((i:Int)<0)from by omega,tQ,sH,Array.getElem?_eq_getElem lt'];refine aA ?_
 first|(refine aA (Xv hit.typeIs (bw ?_));refine aA (Rm hit.typeIs ?_))|(refine aA (Rh hit.typeIs (bw ?_));refine aA (Rm hit.typeIs ?_))
 show wpAny _ _ (setField (.ref it) 1 (rawInt ((i:Int)+1)) >>= _) _ _ _
 refine aA (BV ho hd (by simp) ?_)
 have GD:(s.heap.update it (Obj.mapFields (·.setIfInBounds 1 (rawInt ((i:Int)+1))))).IsValIter it d (i+1) AT.length ep:=⟨_,Rl _ ho (Obj.isFreed_of_fields (Gq hd _)),(Obj.cls_mapFields ..).trans hc,by rw[Gq hd];simp[rawInt]⟩
 refine aA (Ea (aA (Rm (s:={ s with heap:=s.heap.update it (Obj.mapFields (·.setIfInBounds 1 (rawInt ((i:Int)+1)))) }) GD.typeIs ?_)))
 refine aA (Rm (s:={ s with heap:=s.heap.update it (Obj.mapFields (·.setIfInBounds 1 (rawInt ((i:Int)+1)))) }) GD.typeIs ?_)
 exact bw (bw ⟨_,Z,bw (kv.2▸hQ _ GD (Gn ..))⟩)
theorem RV{AT:Da (K×Value)}{Q:VS}(hh:A.handled=none)(hit:s.heap.IsValIter it d i AT.length ep)(hm:s.heap.DictAt knd d AT ep)(hx:AT[i]?=none)(hE:∀h' e,Heap.ExtBut it s.heap h'->(∃o,h'.get? e=some o/\o.cls =.type "StopIteration")->E (.ref e) { s with heap:=h' }):
  wpAny (model prog w) A (Builtin.SmallTypes.nextOf (.ref it)) Q E s:=by
 obtain⟨o,ho,hc,hd⟩:=id hit;obtain⟨od,es,hod,hcd,AQ,hk,hp,hn⟩:=id hm
 unfold Builtin.SmallTypes.nextOf
 refine aA (AB (name:=Str.ofString "__next__") hit.typeIs Xs (xC Xs hit.typeIs F.entry_dict_valueiterator_next ?_ (F.args_dict_valueiterator_next_1 _)))
 refine aA (bw ?_);refine aA (aA ?_)
 first|(refine aA (Xv hit.typeIs (bw ?_));refine aA (xD ho hd ?_))|(refine aA (Rh hit.typeIs (bw ?_));refine aA (xD ho hd ?_))
 have own:Builtin.Dict_items.ownsTuple "dict_valueiterator"=false:=by decide
 simp only[own,KZ,tQ]
 show wpAny _ _ (if(Value.ref d==Value.none)=true then _ else _) _ _ _
 rw[av (λz=>gH z:¬ ((Value.ref d==Value.none)=true))];refine aA (bw ?_)
 have sz:es.size=AT.length:=by have:=hp.length;simpa using this
 refine aA (Ry hod AQ ?_);rw[av (by rw[sz];simp)]
 refine aA (bw ?_);refine aA (Kw hod AQ ?_)
 rw[av (by simp)];refine bw ?_
 have ge:es.size<=i:=by rw[sz];simpa using hx
 simp only[show ¬ ((i:Int)<0)from by omega,tQ,sH,Array.getElem?_eq_none ge];refine aA ?_
 first|(refine aA (Xv hit.typeIs (bw ?_));show wpAny _ _ (setField (.ref it) 0 .none >>= _) _ _ _)|(refine aA (Rh hit.typeIs (bw ?_));show wpAny _ _ (setField (.ref it) 0 .none >>= _) _ _ _)
 refine aA (BV ho hd (by simp) ?_);show wpAny _ _ (newExc (.type "StopIteration") [] >>= _) _ _ _
 refine aA ?_;simp only[newExc,newTuple]
 refine aA (zj ?_ (by size_fits));refine aA (m:=firstArgMember _ _) (wpAny_of_eq (a:=Value.none) (by first|rfl|(simp only[firstArgMember];rfl)) ?_)
 refine zj ?_ (by size_fits);simp only[raiseNew]
 refine aA (wpAny_handled ?_);rw[show A.in1.handled=none from hh]
 exact aA (bw (wpAny_throw (hE _ _ (((Gn ..).extBut.push _).push _) ⟨_,fK _ rfl,Z⟩)))
end
structure AR(P:Program)(w:World)(K:Fg)(S:Hp->Prop)(xs:Da V)(it l:Addr)(tn:Nat->Heap->Prop)(src:Heap->Prop):Prop where
 obj:∀i h,tn i h->∃o,h.get? it=some o/\∀v,o.data ≠ .cell v
 keep:∀i h h',tn i h->(∀o,h.get? it=some o->h'.get? it=some o)->tn i h'
 xQ:∀h h',src h->(∀o,h.get? l=some o->h'.get? l=some o)->src h'
 Ik:∀(X:Cx),X.prog=P->X.w=w->X.K=K->∀(AC:AO)(σ:St)(H:Hp)(s:Shared),Inv X AC σ H s->S H->src s.heap
 item:∀(A:Around)(i:Nat)(x:V)(s:Shared)(Q:VS)(E:VS),tn i s.heap->src s.heap->xs[i]?=some x->(∀u h',RelV x u->tn (i+1) h'->Heap.SameBut it s.heap h'->Q u { s with heap:=h' })->wpAny (model P w) A (Builtin.SmallTypes.nextOf (.ref it)) Q E s
 done:∀(A:Around)(i:Nat)(s:Shared)(Q:VS)(E:VS),A.handled=none->tn i s.heap->src s.heap->xs.length<=i->(∀h' e,Heap.ExtBut it s.heap h'->(∃o,h'.get? e=some o/\o.cls =.type "StopIteration")->E (.ref e) { s with heap:=h' })->wpAny (model P w) A (Builtin.SmallTypes.nextOf (.ref it)) Q E s
variable {xs:Da V}
theorem WA{l:Addr}:AR P w K (λH=>aB K H l xs) xs it l (λi h=>h.IsListIter it l i) (λh=>∃BT:Da Value,Vals xs BT/\h.IsList l BT.toArray) where
 obj:=λi h ⟨o,e,c,d⟩=>⟨o,e,λv z=>by rw[d]at z;cases z⟩
 keep:=λi h h' st k=>st.at k
 xQ:=λh h' ⟨BT,r,hl⟩ k=>⟨BT,r,hl.at k⟩
 Ik:=λX hP hw hK AC σ H s I h=>by subst hP hw hK;obtain⟨BT,rv,p,_⟩:=I.list h;exact⟨BT,rv,p.isList⟩
 item:=λA i x s Q E st ⟨BT,r,hl⟩ hx hQ=>by obtain⟨u,hu,ru⟩:=r.get hx;exact wpAny_nextOf_list_item st hl (by simpa using hu) λh' st' sb=>hQ u h' ru st' sb
 done:=λA i s Q E hh st ⟨BT,r,hl⟩ hx hE=>wpAny_nextOf_list_end hh st hl (by have:=r.length;simp;omega) hE
theorem WB{o:Obj}(hd:o.data =.dict es ep):AR P w K (λH=>qo H d o AT) (AT.map λp=>kV p.1) it d (λi h=>h.IsKeyIter it d i AT.length ep) (λh=>∃vs,KV AT vs/\h.DictAt (di P w) d vs ep) where
 obj:=λi h ⟨o,e,c,d⟩=>⟨o,e,λv z=>by rw[d]at z;cases z⟩
 keep:=λi h h' st k=>st.at k
 xQ:=λh h' ⟨vs,r,hl⟩ k=>⟨vs,r,hl.at' k⟩
 Ik:=λX hP hw hK AC σ H s I h=>by subst hP hw hK;obtain⟨ho,_,_,vs,sf,r,da⟩:=I.tU h;cases Ce da ho hd;exact⟨vs,r,da⟩
 item:=λA i x s Q E st ⟨vs,r,da⟩ hx hQ=>by rw[bV]at hx;obtain⟨p,hp,rfl⟩:=mZ.mp hx;obtain⟨q,hq,ek,rq⟩:=AN r hp;obtain⟨qk,qv⟩:=q;have hl:AT.length=vs.length:=r.length;rw[hl]at st;exact Ov st da hq λkey h' hk st' sb=>hQ key h' (by rw[ek];exact T7 hk) (by rw[hl];exact st') sb
 done:=λA i s Q E hh st ⟨vs,r,da⟩ hx hE=>by have hl:AT.length=vs.length:=r.length;rw[aE]at hx;rw[hl]at st;exact RU hh st da (by rw[m7];omega) hE
theorem WC{o:Obj}(hd:o.data =.dict es ep):AR P w K (λH=>qo H d o AT) (AT.map λp=>p.2) it d (λi h=>h.IsValIter it d i AT.length ep) (λh=>∃vs,KV AT vs/\h.DictAt (di P w) d vs ep) where
 obj:=λi h ⟨o,e,c,d⟩=>⟨o,e,λv z=>by rw[d]at z;cases z⟩
 keep:=λi h h' st k=>st.at k
 xQ:=λh h' ⟨vs,r,hl⟩ k=>⟨vs,r,hl.at' k⟩
 Ik:=λX hP hw hK AC σ H s I h=>by subst hP hw hK;obtain⟨ho,_,_,vs,sf,r,da⟩:=I.tU h;cases Ce da ho hd;exact⟨vs,r,da⟩
 item:=λA i x s Q E st ⟨vs,r,da⟩ hx hQ=>by rw[bV]at hx;obtain⟨p,hp,rfl⟩:=mZ.mp hx;obtain⟨q,hq,ek,rq⟩:=AN r hp;obtain⟨qk,qv⟩:=q;have hl:AT.length=vs.length:=r.length;rw[hl]at st;exact Ow st da hq λh' st' sb=>hQ qv h' rq (by rw[hl];exact st') sb
 done:=λA i s Q E hh st ⟨vs,r,da⟩ hx hE=>by have hl:AT.length=vs.length:=r.length;rw[aE]at hx;rw[hl]at st;exact RV hh st da (by rw[m7];omega) hE
variable {y:V}
section
variable {P:Program}{w:World}{A:Around}{E:VS}{s:Shared}{K:Fg}{S1 S2:Hp->Prop}{xs ys:Da V}{z TI TO i1 i2 l1 l2:Addr}{t1 t2:Nat->Heap->Prop}{c1 c2:Heap->Prop}{i:Nat}
def T_{x:V}{a b:Value}{Q:VS}(D:ZipApart z TI TO i1 i2 l1 l2)(C1:AR P w K S1 xs i1 l1 t1 c1)(C2:AR P w K S2 ys i2 l2 t2 c2)(hz:IsZip s.heap z TI TO .none)(hTI:IsPair s.heap TI (.ref i1) (.ref i2))(hTO:IsPair s.heap TO a b)(h1:t1 i s.heap)(h2:t2 i s.heap)(hc1:c1 s.heap)(hc2:c2 s.heap)(hx:xs[i]?=some x)(hy:ys[i]?=some y)(hQ:∀u v h',RelV x u->RelV y v->IsZip h' z TI TO (rawInt s.heap.objs.size)->IsPair h' TO u v->t1 (i+1) h'->t2 (i+1) h'->IsPair h' s.heap.objs.size u v->h'.objs.size=s.heap.objs.size+1->
    (∀c o,c≠z->c≠TO->c≠i1->c≠i2->s.heap.get? c=some o->h'.get? c=some o)->Q (.ref s.heap.objs.size) { s with heap:=h' }):
  wpAny (model P w) A (Builtin.«zip.__next__» ⟨[.ref z],[]⟩) (λfin s'=>∃v,fin =.done (.ret v)/\Q v s') E s:=by
 show wpAny _ _ (field (.ref z) 2 >>= _) _ _ _
 refine aA (pe hz rfl (x:=.bool false) rfl ?_);show wpAny _ _ (field (.ref z) 3 >>= _) _ _ _
 refine aA (pe hz rfl (x:=.ref TI) rfl ?_);refine aA (xE hTI rfl ?_)
 show wpAny _ _ (Builtin.SmallTypes.ownedTupleIsFree (.ref z) >>= _) _ _ _
 refine aA ?_;unfold Builtin.SmallTypes.ownedTupleIsFree
 refine aA (pe hz rfl (x:=.none) rfl (bw ?_));simp only[if_true]
 refine aA (wpAny_rule ?_);refine aA (pe hz rfl (x:=.ref TO) rfl ?_)
 refine aA (Gr hz (by simp) λhA Il sA=>?_)
 replace Il:IsZip hA z TI TO .ellipsis:=Il
 refine aA ?_;simp only[List.zipIdx_cons,List.zipIdx_nil,Ku,D6]
 refine aA (aA (wpAny_onRaise ?_));show wpAny _ _ (Builtin.SmallTypes.nextOf (.ref i1) >>= _) _ _ _
 refine aA (C1.item _ i x { s with heap:=hA } _ _ (C1.keep _ _ _ h1 λo e=>sA.extBut _ _ D.i1z e) (C1.xQ _ _ hc1 λo e=>sA.extBut _ _ D.l1z e) hx λu hB ru h1B sB=>bw ?_)
 have Ua:IsPair hB TO a b:=sB.extBut _ _ D.TOi1 (sA.extBut _ _ D.TOz hTO)
 refine aA (xE Ua rfl ?_);refine aA (wpAny_updateSeq_pair Ua λhC X3 sC=>?_)
 replace X3:IsPair hC TO u b:=X3
 refine aA (wpAny_letGo (bw ?_));refine aA (aA (wpAny_onRaise ?_))
 show wpAny _ _ (Builtin.SmallTypes.nextOf (.ref i2) >>= _) _ _ _
 refine aA (C2.item _ i y { s with heap:=hC } _ _ (C2.keep _ _ _ h2 λo e=>sC.extBut _ _ D.TOi2.symm (sB.extBut _ _ D.i12.symm (sA.extBut _ _ D.i2z e))) (C2.xQ _ _ hc2 λo e=>sC.extBut _ _ D.l2TO (sB.extBut _ _ D.l2i1 (sA.extBut _ _ D.l2z e))) hy λv hD rv h2D sD=>bw ?_)
 have TOD:IsPair hD TO u b:=sD.extBut _ _ D.TOi2 X3
 refine aA (xE TOD rfl ?_);refine aA (wpAny_updateSeq_pair TOD λhE X4 sE=>?_)
 replace X4:IsPair hE TO u v:=X4
 refine aA (wpAny_letGo (bw (bw ?_)));refine aA (xE X4 rfl ?_)
 refine aA (wpAny_newTuple ?_)
 have sz:hE.objs.size=s.heap.objs.size:=by rw[sE.1,sD.1,sC.1,sB.1,sA.1]
 have zE:IsZip hE z TI TO .ellipsis:=sE.extBut _ _ D.TOz.symm (sD.extBut _ _ D.i2z.symm (sC.extBut _ _ D.TOz.symm (sB.extBut _ _ D.i1z.symm Il)))
 have kE:∀c o,c≠z->c≠TO->c≠i1->c≠i2->s.heap.get? c=some o->hE.get? c=some o:=λc o c1 c2 c3 c4 e=>sE.extBut _ _ c2 (sD.extBut _ _ c4 (sC.extBut _ _ c2 (sB.extBut _ _ c3 (sA.extBut _ _ c1 e))))
 have t1E:t1 (i+1) hE:=C1.keep _ _ _ h1B λo e=>sE.extBut _ _ D.TOi1.symm (sD.extBut _ _ D.i12 (sC.extBut _ _ D.TOi1.symm e))
 have t2E:t2 (i+1) hE:=C2.keep _ _ _ h2D λo e=>sE.extBut _ _ D.TOi2.symm e
 have zlt:z<hE.objs.size:=cE zE
 show wpAny _ _ (Builtin.SmallTypes.ownedTupleHandOut (.ref z) (.ref hE.objs.size) >>= _) _ _ _
 refine aA ?_;unfold Builtin.SmallTypes.ownedTupleHandOut
 have zF:IsZip (hE.push { cls:=.type "tuple",data:=.seq #[u,v] }) z TI TO .ellipsis:=cU _ zE
 refine aA (Gr zF (by simp) λhG zG sG=>?_)
 replace zG:IsZip hG z TI TO (rawInt hE.objs.size):=zG
 refine Gr zG (by simp) λhI zI sI=>?_
 replace zI:IsZip hI z TI TO (rawInt hE.objs.size):=zI
 have up:∀c o,c≠z->hE.get? c=some o->hI.get? c=some o:=λc o c1 e=>sI.extBut _ _ c1 (sG.extBut _ _ c1 (cU _ e))
 have TI':IsPair hI hE.objs.size u v:=sI.extBut _ _ (BY zlt) (sG.extBut _ _ (BY zlt) (fK _ rfl))
 have szI:hI.objs.size=hE.objs.size+1:=by rw[sI.1,sG.1,nL]
 rw[sz]at zI TI' szI
 refine bw ⟨_,Z,?_⟩
 show Q (.ref hE.objs.size) _
 rw[sz]
 exact hQ u v hI ru rv zI (up _ _ D.TOz X4) (C1.keep _ _ _ t1E λo e=>up _ o D.i1z e) (C2.keep _ _ _ t2E λo e=>up _ o D.i2z e) TI' szI λc o c1 c2 c3 c4 e=>up c o c1 (kE c o c1 c2 c3 c4 e)
theorem WD{a b:Value}{Q:Fin->Shared->Prop}(hh:A.handled=none)(D:ZipApart z TI TO i1 i2 l1 l2)(C1:AR P w K S1 xs i1 l1 t1 c1)(C2:AR P w K S2 ys i2 l2 t2 c2)(hz:IsZip s.heap z TI TO .none)(hTI:IsPair s.heap TI (.ref i1) (.ref i2))(hTO:IsPair s.heap TO a b)(h1:t1 i s.heap)(h2:t2 i s.heap)(hc1:c1 s.heap)(hc2:c2 s.heap)(hend:xs.length<=i\/ys.length<=i)(hE:∀h' e,(∀c o,c≠z->c≠TO->c≠i1->c≠i2->s.heap.get? c=some o->h'.get? c=some o)->(∃o,h'.get? e=some o/\o.cls =.type "StopIteration")->E (.ref e) { s with heap:=h' }):
  wpAny (model P w) A (Builtin.«zip.__next__» ⟨[.ref z],[]⟩) Q E s:=by
 show wpAny _ _ (field (.ref z) 2 >>= _) _ _ _
 refine aA (pe hz rfl (x:=.bool false) rfl ?_);show wpAny _ _ (field (.ref z) 3 >>= _) _ _ _
 refine aA (pe hz rfl (x:=.ref TI) rfl ?_);refine aA (xE hTI rfl ?_)
 show wpAny _ _ (Builtin.SmallTypes.ownedTupleIsFree (.ref z) >>= _) _ _ _
 refine aA ?_;unfold Builtin.SmallTypes.ownedTupleIsFree
 refine aA (pe hz rfl (x:=.none) rfl (bw ?_));simp only[if_true]
 refine aA (wpAny_rule ?_);refine aA (pe hz rfl (x:=.ref TO) rfl ?_)
 refine aA (Gr hz (by simp) λhA Il sA=>?_)
 replace Il:IsZip hA z TI TO .ellipsis:=Il
 refine aA ?_;simp only[List.zipIdx_cons,List.zipIdx_nil,Ku,D6]
 refine aA (aA (wpAny_onRaise ?_));show wpAny _ _ (Builtin.SmallTypes.nextOf (.ref i1) >>= _) _ _ _
 have k1:=C1.keep _ _ _ h1 λo e=>sA.extBut _ _ D.i1z e
 have k2:=C1.xQ _ _ hc1 λo e=>sA.extBut _ _ D.l1z e
 by_cases hx:xs.length<=i
 . refine aA (C1.done _ i { s with heap:=hA } _ _ hh k1 k2 hx λhB e sB he=>?_)
   obtain⟨oe,EH,hce⟩:=he
   have zB:IsZip hB z TI TO .ellipsis:=sB _ _ D.i1z.symm Il
   have ez:e≠z:=λx=>by subst x;rw[zB]at EH;cases EH;simp at hce
   exact Gr zB (by simp) λhC _ sC=>hE hC e (λc o c1 _ c3 _ x=>sC.extBut _ _ c1 (sB _ _ c3 (sA.extBut _ _ c1 x))) ⟨oe,sC.extBut _ _ ez EH,hce⟩
 . have hy:ys.length<=i:=hend.resolve_left hx
   refine aA (C1.item _ i xs[i] { s with heap:=hA } _ _ k1 k2 (bf (by omega)) λu hB ru h1B sB=>bw ?_)
   have Ua:IsPair hB TO a b:=sB.extBut _ _ D.TOi1 (sA.extBut _ _ D.TOz hTO)
   refine aA (xE Ua rfl ?_);refine aA (wpAny_updateSeq_pair Ua λhC X3 sC=>?_)
   refine aA (wpAny_letGo (bw ?_));refine aA (aA (wpAny_onRaise ?_))
   show wpAny _ _ (Builtin.SmallTypes.nextOf (.ref i2) >>= _) _ _ _
   refine aA (C2.done _ i { s with heap:=hC } _ _ hh (C2.keep _ _ _ h2 λo e=>sC.extBut _ _ D.TOi2.symm (sB.extBut _ _ D.i12.symm (sA.extBut _ _ D.i2z e))) (C2.xQ _ _ hc2 λo e=>sC.extBut _ _ D.l2TO (sB.extBut _ _ D.l2i1 (sA.extBut _ _ D.l2z e))) hy λhD e sD he=>?_)
   obtain⟨oe,EH,hce⟩:=he
   have zD:IsZip hD z TI TO .ellipsis:=sD _ _ D.i2z.symm (sC.extBut _ _ D.TOz.symm (sB.extBut _ _ D.i1z.symm Il))
   have ez:e≠z:=λx=>by subst x;rw[zD]at EH;cases EH;simp at hce
   exact Gr zD (by simp) λhF _ sF=>hE hF e (λc o c1 c2 c3 c4 x=>sF.extBut _ _ c1 (sD _ _ c4 (sC.extBut _ _ c2 (sB.extBut _ _ c3 (sA.extBut _ _ c1 x))))) ⟨oe,sF.extBut _ _ ez EH,hce⟩
end
def abE(S1 S2:Hp->Prop)(xs ys:Da V):It:=⟨λi H=>S1 H/\S2 H/\i<xs.length/\i<ys.length,λi H v H'=>∃p x y,H p=none/\v =.ref p/\H'=upd H p (.tup [x,y])/\xs[i]?=some x/\ys[i]?=some y,λi H=>S1 H/\S2 H/\(xs.length<=i\/ys.length<=i)⟩
variable {z:Addr}
def Ub{kk:Nat}{S1 S2:Hp->Prop}{ys:Da V}{TI TO i1 i2 l1 l2:Addr}{t1 t2:Nat->Heap->Prop}{c1 c2:Heap->Prop}(D:ZipApart z TI TO i1 i2 l1 l2)(C1:AR P w K S1 xs i1 l1 t1 c1)(C2:AR P w K S2 ys i2 l2 t2 c2):
  Turn P w K (.Tuple DD kk pos) (abE S1 S2 xs ys) [z,TI,TO,i1,i2] z (λi h=>IsZip h z TI TO .none/\IsPair h TI (.ref i1) (.ref i2)/\(∃a b,IsPair h TO a b)/\t1 i h/\t2 i h) where
 mem:=by simp
 obj:=λi h st b hb=>by
  obtain⟨hz,hTI,⟨a,b',hTO⟩,h1,h2⟩:=st;have hb':b=z\/b=TI\/b=TO\/b=i1\/b=i2:=by simpa using hb
  rcases hb' with rfl|rfl|rfl|rfl|rfl
  .exact ⟨_,hz,λv q=>by cases q⟩
  .exact ⟨_,hTI,λv q=>by cases q⟩
  .exact ⟨_,hTO,λv q=>by cases q⟩
  .exact C1.obj i h h1
  .exact C2.obj i h h2
 keep:=λi h h' st k=>by obtain⟨hz,hTI,⟨a,b',hTO⟩,h1,h2⟩:=st;exact⟨k z (by simp) _ hz,k TI (by simp) _ hTI,⟨a,b',k TO (by simp) _ hTO⟩,C1.keep _ _ _ h1 λo e=>k i1 (by simp) o e,C2.keep _ _ _ h2 λo e=>k i2 (by simp) o e⟩
 item:=by
  intro X hP hw hK hc i AC s σ H E I hf st hg;subst hP hw hK;obtain⟨hz,hTI,⟨a,b,hTO⟩,h1,h2⟩:=st;obtain⟨g1,g2,lx,ly⟩:=hg;have hT:s.TypeIs (.ref z) "zip":=⟨_,hz,Z⟩
  unfold pyNext;refine aA (wpAny_attempt (AB (name:=Str.ofString "__next__") hT Ky (xC Ky hT F.entry_zip_next
   (T_ D C1 C2 hz hTI hTO h1 h2 (C1.Ik X rfl rfl rfl AC σ H s I g1) (C2.Ik X rfl rfl rfl AC σ H s I g2) (bf lx) (bf ly) λu u2 h' ru ru2 a1 a2 a3 a4 a5 a6 hk=>bw ?_) (F.args_zip_next_1 _))))
  refine⟨_,Z,wpAny_letOwnedTupleGo_zip (s:={ s with heap:=h' }) a1 λh'' b1 hs=>?_⟩;have hTz:s.heap.objs.size≠z:=BY (cE hz);have xP:∀c o,c≠z->c≠TO->c≠i1->c≠i2->s.heap.get? c=some o->h''.get? c=some o:=λc o c1 c2 c3 c4 e=>hs.extBut _ _ c1 (hk c o c1 c2 c3 c4 e);have hn:=I.fresh;have nf:∀b u,H b=some u->b≠z/\b≠TO/\b≠i1/\b≠i2:=λb u e=>by
   have g:∀c∈[z,TI,TO,i1,i2],b≠c:=λc hc q=>by have:=(hf c hc).1;rw[<-q,e]at this;cases this
   exact⟨g z (by simp),g TO (by simp),g i1 (by simp),g i2 (by simp)⟩
  have yE:∀c,c∉[z,TI,TO,i1,i2]->c≠z/\c≠TO/\c≠i1/\c≠i2:=λc hc=>⟨λq=>hc (by simp[q]),λq=>hc (by simp[q]),λq=>hc (by simp[q]),λq=>hc (by simp[q])⟩
  have ahM:IsPair h'' s.heap.objs.size u u2:=hs.extBut _ _ hTz a5;have hok:jA X.prog X.w (upd H s.heap.objs.size (.tup [xs[i],ys[i]])) h'':=λb ob e=>by
   by_cases hb:b=s.heap.objs.size
   .subst hb;rw[aq]at e;cases e;exact⟨by show 2<=sizeLine;decide,[u,u2],.cons ru (.cons ru2 .nil),_,ahM,Z,0,Z⟩
   .rw [az hb]at e;refine(I.hok b ob e).stay (λc v T9 q=>?_) (λc q=>by rw[az (aJ q hn)];exact q) λc zs q=>by rw[az (aJ q hn)];exact q
    rcases T9 with r|r
    .obtain ⟨n1,n2,n3,n4⟩:=nf b ob e;rw[r];rw[r]at q;exact xP b v n1 n2 n3 n4 q
    .obtain ⟨n1,n2,n3,n4⟩:=nf c _ r;exact xP c v n1 n2 n3 n4 q
  have I2:Inv X AC σ (upd H s.heap.objs.size (.tup [xs[i],ys[i]])) { s with heap:=h'',gens:=s.gens,drawn:=s.drawn,toks:=s.toks }:=by
   refine I.step (ch:=[z,TI,TO,i1,i2]) (λb hb=>⟨(hf b hb).2.2.2.1,(hf b hb).2.1,(hf b hb).2.2.2.2.1,(hf b hb).2.2.2.2.2⟩) (λb o _ _ hc' e _=>?_) (λb o _ _ hc' e _=>?_) (λb o _ e n=>?_) (λb o hc' e=>?_)
    (λb zs q=>by rw[az (aJ q hn)];exact q) (λb o zs q=>by rw[az (aJ q hn)];exact q) (λb ps q=>⟨#[],by rw[az (aJ q hn),q];simp⟩) (λm hm=>?_) hok I.bare
   .obtain ⟨n1,n2,n3,n4⟩:=yE b hc';exact xP b o n1 n2 n3 n4 e
   .obtain ⟨n1,n2,n3,n4⟩:=yE b hc';exact⟨o.slots,xP b o n1 n2 n3 n4 e⟩
   .rw [az (gr (cE e))];exact n
   .obtain ⟨n1,n2,n3,n4⟩:=yE b hc';exact⟨o,xP b o n1 n2 n3 n4 e⟩
   .obtain ⟨o,es,ep,ho,r⟩:=hm;have nl:∀c∈[z,TI,TO,i1,i2],X.env.locals≠c:=λc hc' q=>(hf c hc').2.1 q.symm;exact⟨o,es,ep,xP _ o (nl z (by simp)) (nl TO (by simp)) (nl i1 (by simp)) (nl i2 (by simp)) ho,r⟩
  refine⟨.ref s.heap.objs.size,_,I2,Z,⟨s.heap.objs.size,xs[i],ys[i],hn,Z,Z,bf lx,bf ly⟩,⟨b1,?_,⟨u,u2,?_⟩,?_,?_⟩,λb hb=>?_⟩
  .exact xP _ _ D.TIz D.TITO D.TIi1 D.TIi2 hTI
  .exact hs.extBut _ _ D.TOz a2
  .exact C1.keep _ _ _ a3 λo e=>hs.extBut _ _ D.i1z e
  .exact C2.keep _ _ _ a4 λo e=>hs.extBut _ _ D.i2z e
  .have hlt:b≠s.heap.objs.size:=by
    have hb':b=z\/b=TI\/b=TO\/b=i1\/b=i2:=by simpa using hb
    obtain⟨_,e1,_⟩:=C1.obj _ _ h1;obtain⟨_,e2,_⟩:=C2.obj _ _ h2;rcases hb' with rfl|rfl|rfl|rfl|rfl
    .exact gr (cE hz)
    .exact gr (cE hTI)
    .exact gr (cE hTO)
    .exact gr (cE e1)
    .exact gr (cE e2)
   rw[az hlt];exact(hf b hb).1
 done:=by
  intro X hP hw hK hc i AC s σ H E I hf st hg;subst hP hw hK;obtain⟨hz,hTI,⟨a,b,hTO⟩,h1,h2⟩:=st;obtain⟨g1,g2,hend⟩:=hg;have hT:s.TypeIs (.ref z) "zip":=⟨_,hz,Z⟩
  unfold pyNext;refine aA (wpAny_attempt (AB (name:=Str.ofString "__next__") hT Ky (xC Ky hT F.entry_zip_next
   (WD (I.ok.hd hc) D C1 C2 hz hTI hTO h1 h2 (C1.Ik X rfl rfl rfl AC σ H s I g1) (C2.Ik X rfl rfl rfl AC σ H s I g2) hend λh' e hk he=>?_) (F.args_zip_next_1 _))))
  obtain⟨oe,EH,hce⟩:=he;refine aA (wpAny_isInstance (T:="StopIteration") (b:=true) ⟨oe,EH,hce⟩ isSubtype_stop (bw ⟨Z,?_⟩));have yE:∀c,c∉[z,TI,TO,i1,i2]->c≠z/\c≠TO/\c≠i1/\c≠i2:=λc hc=>⟨λq=>hc (by simp[q]),λq=>hc (by simp[q]),λq=>hc (by simp[q]),λq=>hc (by simp[q])⟩
  have nf:∀b u,H b=some u->b≠z/\b≠TO/\b≠i1/\b≠i2:=λb u e=>by
   have g:∀c∈[z,TI,TO,i1,i2],b≠c:=λc hc q=>by have:=(hf c hc).1;rw[<-q,e]at this;cases this
   exact⟨g z (by simp),g TO (by simp),g i1 (by simp),g i2 (by simp)⟩
  have I2:Inv X AC σ H { s with heap:=h',gens:=s.gens,drawn:=s.drawn,toks:=s.toks }:=by
   refine I.step (ch:=[z,TI,TO,i1,i2]) (λb hb=>⟨(hf b hb).2.2.2.1,(hf b hb).2.1,(hf b hb).2.2.2.2.1,(hf b hb).2.2.2.2.2⟩) (λb o _ _ hc' e _=>?_) (λb o _ _ hc' e _=>?_) (λb o _ e n=>n) (λb o hc' e=>?_)
    (λb zs q=>q) (λb o zs q=>q) (λb ps q=>⟨#[],by rw[q];simp⟩) (λm hm=>?_) (λb ob e=>?_) I.bare
   .obtain ⟨n1,n2,n3,n4⟩:=yE b hc';exact hk b o n1 n2 n3 n4 e
   .obtain ⟨n1,n2,n3,n4⟩:=yE b hc';exact⟨o.slots,hk b o n1 n2 n3 n4 e⟩
   .obtain ⟨n1,n2,n3,n4⟩:=yE b hc';exact⟨o,hk b o n1 n2 n3 n4 e⟩
   .obtain ⟨o,es,ep,ho,r⟩:=hm;have nl:∀c∈[z,TI,TO,i1,i2],X.env.locals≠c:=λc hc' q=>(hf c hc').2.1 q.symm;exact⟨o,es,ep,hk _ o (nl z (by simp)) (nl TO (by simp)) (nl i1 (by simp)) (nl i2 (by simp)) ho,r⟩
   .refine (I.hok b ob e).stay (λc v T9 q=>?_) (λc q=>q) λc zs q=>q;rcases T9 with r|r
    .obtain ⟨n1,n2,n3,n4⟩:=nf b ob e;rw[r];rw[r]at q;exact hk b v n1 n2 n3 n4 q
    .obtain ⟨n1,n2,n3,n4⟩:=nf c _ r;exact hk c v n1 n2 n3 n4 q
  exact I2
 self:=λ_ _ _ _ _ st h=>wpAny_pyIter_zip st.1 h
def LF(P:Program)(w:World)(u:Value)(o:Obj)(pre:Heap->Prop):Prop:=∀(A:Around)(E:VS)(s:Shared)(Q:VS),pre s.heap->Q (.ref s.heap.objs.size) { s with heap:=s.heap.push o }->wpAny (model P w) A (pyIter u) Q E s
def RW{p1 p2:Heap->Prop}(s1:LF P w u1 o1 p1)(s2:LF P w u2 o2 p2):MeetsIn P w (Builtin.«zip.__new__» ⟨[.type "zip",u1,u2],[]⟩) (λ_ R s=>p1 s.heap/\p2 (s.heap.push o1)/\R (.ok (.ret (.ref ((((s.heap.push o1).push o2).push { cls:=.type "tuple",data:=.seq #[.ref s.heap.objs.size,.ref (s.heap.push o1).objs.size] }).push { cls:=.type "tuple",data:=.seq #[.none,.none] }).objs.size)))
     { s with heap:=((((s.heap.push o1).push o2).push { cls:=.type "tuple",data:=.seq #[.ref s.heap.objs.size,.ref (s.heap.push o1).objs.size] }).push { cls:=.type "tuple",data:=.seq #[.none,.none] }).push { cls:=.type "zip",data:=.fields #[.none,.bool false,.bool false,.ref ((s.heap.push o1).push o2).objs.size,.ref (((s.heap.push o1).push o2).push { cls:=.type "tuple",data:=.seq #[.ref s.heap.objs.size,.ref (s.heap.push o1).objs.size] }).objs.size] } }):=
 .of_wp λA R s h=>by
  obtain⟨hp,g,d,tk,os⟩:=s;obtain⟨q1,q2,h⟩:=h;have hsub:=sub_zip;have i1:=λ(A:Around)(E:VS)(Q:VS)=>s1 A E ⟨hp,g,d,tk,os⟩ Q q1;have i2:=λ(A:Around)(E:VS)(Q:VS)=>s2 A E ⟨hp.push o1,g,d,tk,os⟩ Q q2
  wp_walk using i1 _ _ _,i2 _ _ _
  exact⟨_,Z,h⟩
section
variable {prog:Program}{w:World}{A:Around}{E:VS}{s:Shared}{it t:Addr}{i:Nat}{items:Array Value}{Q:VS}
def Ox{x:Value}(hit:s.heap.IsTupleIter it t i)(ht:s.heap.IsTuple t items)(hx:items[i]?=some x)(hQ:∀h',h'.IsTupleIter it t (i+1)->Heap.SameBut it s.heap h'->Q x { s with heap:=h' }):wpAny (model prog w) A (Builtin.SmallTypes.nextOf (.ref it)) Q E s:=by obtain⟨o,ho,hc,hd⟩:=id hit;obtain⟨ol,fD,_,nl,hdl⟩:=ht;unfold Builtin.SmallTypes.nextOf;refine aA (AB (name:=Str.ofString "__next__") hit.typeIs Ra (xC Ra hit.typeIs F.entry_tuple_iterator_next ?_ (F.args_tuple_iterator_next_1 _)));show wpAny _ _ (field (.ref it) 0 >>= _) _ _ s;refine aA (pe ho hd (x:=.ref t) rfl ?_);show wpAny _ _ (if(Value.ref t==Value.none)=true then _ else _) _ _ s;rw[av (λz=>gH z:¬ ((Value.ref t==Value.none)=true))];show wpAny _ _ (field (.ref it) 1 >>= _) _ _ s;refine aA (pe ho hd (x:=.int i 0) rfl ?_);show wpAny _ _ (seqItems? (.ref t) >>= _) _ _ s;refine aA (xE fD hdl ?_);simp only[sH,hx];refine aA (BV ho hd (by simp) (bw ⟨x,Z,bw (hQ _ ?_ (Gn ..))⟩));refine⟨_,Rl _ ho (Obj.isFreed_of_fields (Gq hd _)),(Obj.cls_mapFields ..).trans hc,?_⟩;rw[Gq hd];simp[rawInt]
def RX(hh:A.handled=none)(hit:s.heap.IsTupleIter it t i)(ht:s.heap.IsTuple t items)(hx:items[i]?=none)(hE:∀h' e,Heap.ExtBut it s.heap h'->(∃o,h'.get? e=some o/\o.cls =.type "StopIteration")->E (.ref e) { s with heap:=h' }):wpAny (model prog w) A (Builtin.SmallTypes.nextOf (.ref it)) Q E s:=by
 obtain⟨o,ho,hc,hd⟩:=id hit;obtain⟨ol,fD,_,nl,hdl⟩:=ht;unfold Builtin.SmallTypes.nextOf;refine aA (AB (name:=Str.ofString "__next__") hit.typeIs Ra (xC Ra hit.typeIs F.entry_tuple_iterator_next ?_ (F.args_tuple_iterator_next_1 _)));show wpAny _ _ (field (.ref it) 0 >>= _) _ _ s;refine aA (pe ho hd (x:=.ref t) rfl ?_);show wpAny _ _ (if(Value.ref t==Value.none)=true then _ else _) _ _ s;rw[av (λz=>gH z:¬ ((Value.ref t==Value.none)=true))];show wpAny _ _ (field (.ref it) 1 >>= _) _ _ s;refine aA (pe ho hd (x:=.int i 0) rfl ?_);show wpAny _ _ (seqItems? (.ref t) >>= _) _ _ s;refine aA (xE fD hdl ?_);simp only[sH,hx];refine aA (wpAny_rule (aA (BV ho hd (by simp) ?_)));show wpAny _ _ (newExc (.type "StopIteration") [] >>= _) _ _ _;refine aA ?_;simp only[newExc,newTuple];refine aA (zj ?_ (by size_fits));refine aA (m:=firstArgMember _ _) (wpAny_of_eq (a:=Value.none) (by first|rfl|(simp only[firstArgMember];rfl)) ?_);refine zj ?_ (by size_fits);simp only[raiseNew];refine aA (wpAny_handled ?_);first|rw[show A.in1.handled=none from hh]|rw[hh]
 refine aA (bw (wpAny_throw ?_));exact hE _ _ (((Gn ..).extBut.push _).push _) ⟨_,fK _ rfl,Z⟩
end
theorem Zo{l:Addr}:AR P w K (λH=>dU K H l xs) xs it l (λi h=>h.IsTupleIter it l i) (λh=>∃BT:Da Value,Vals xs BT/\h.IsTuple l BT.toArray) where
 obj:=λi h ⟨o,e,c,d⟩=>⟨o,e,λv z=>by rw[d]at z;cases z⟩
 keep:=λi h h' st k=>st.at k
 xQ:=λh h' ⟨BT,r,o,e,q⟩ k=>⟨BT,r,o,k o e,q⟩
 Ik:=λX hP hw hK AC σ H s I h=>by subst hP hw hK;obtain⟨BT,rv,p,_⟩:=I.tuple h;exact⟨BT,rv,p⟩
 item:=λA i x s Q E st ⟨BT,r,hl⟩ hx hQ=>by obtain⟨u,hu,ru⟩:=r.get hx;exact Ox st hl (by simpa using hu) λh' st' sb=>hQ u h' ru st' sb
 done:=λA i s Q E hh st ⟨BT,r,hl⟩ hx hE=>RX hh st hl (by have:=r.length;simp;omega) hE
section
variable {prog:Program}{w:World}{A:Around}{E:VS}{s:Shared}{K:Type}[DecidableEq K]{knd:KeyKind prog w K}
end
def mK(v d:Addr):HO:=.ext λh=>h.IsValuesView v d
section
variable {X:Cx}
inductive abF(Q:VK)(x:V)(H1:Hp):Prop
 |mk(d AT:_)(_:x =.ref d)(_:Rd H1 d (.dK AT))(_:∀v,H1 v=none->Q (.ref v) (upd H1 v (mK v d)))
def aew(td:TE):TE:=λσ H Q=>td σ H (abF Q)
inductive Wk(K:Fg)(H:Hp):V->(Hp->Prop)->Da V->Prop
 | lst {l:Addr} {xs:Da V}:aB K H l xs->Wk K H (.ref l) (λH=>aB K H l xs) xs
 | tup {l:Addr} {xs:Da V}:dU K H l xs->Wk K H (.ref l) (λH=>dU K H l xs) xs
 | keys {d:Addr} {o:Obj} {AT:Da (Key×V)}:qo H d o AT->Wk K H (.ref d) (λH=>qo H d o AT) (AT.map λp=>kV p.1)
 | vals {v d:Addr} {o:Obj} {AT:Da (Key×V)}:H v=some (mK v d)->qo H d o AT->Wk K H (.ref v) (λH=>qo H d o AT) (AT.map λp=>p.2)
def Wk.ok{u:V}{S:Hp->Prop}(k:Wk X.K H u S xs)(I:Inv X AC σ H s)(r:RelV u uv):S H/\∃(l:Addr)(o:Obj)(p:Heap->Prop),l<s.heap.objs.size/\p s.heap/\(∀h (ob:Obj),p h->p (h.push ob))/\(∀h:Heap,(h.push o).get? h.objs.size=some o)/\LF X.prog X.w uv o p/\∀it:Addr,∃tn src,AR X.prog X.w X.K S xs it l tn src/\∀h:Heap,h.get? it=some o->tn 0 h:=by
 cases k with
 | @lst l xs hS=>cases r;obtain⟨BT,rv,p,_⟩:=I.list hS;obtain⟨ol,fD,_⟩:=id p.isList;refine⟨hS,l,_,λh=>h.IsList l BT.toArray,cE fD,p.isList,λh ob q=>q.push ob,λh=>fK _ rfl,λA E s Q q h=>Ru q h,λit=>⟨_,_,WA,λh e=>⟨_,e,Z,Z⟩⟩⟩
 | @tup l xs hS=>cases r;obtain⟨BT,rv,p,_⟩:=I.tuple hS;obtain⟨ol,fD,q0⟩:=id p;refine⟨hS,l,_,λh=>h.IsTuple l BT.toArray,cE fD,p,λh ob ⟨o1,a,b⟩=>⟨o1,cU _ a,b⟩,λh=>fK _ rfl,λA E s Q q h=>wpAny_pyIter_tuple q h,λit=>⟨_,_,Zo,λh e=>⟨_,e,Z,Z⟩⟩⟩
 | @keys d o AT hz=>cases r;obtain⟨ho,hl,hsys,vs,ep,rel,da⟩:=I.tU hz;obtain⟨o',es,h1,_,h2,_⟩:=id da;rw[ho]at h1;cases h1;have el:AT.length=vs.length:=rel.length;refine⟨hz,d,_,λh=>h.DictAt (di X.prog X.w) d vs ep,cE ho,da,λh ob q=>q.push ob,λh=>fK _ rfl,λA E s Q q h=>wpAny_pyIter_dict hsys q h,λit=>⟨_,_,WB h2,λh e=>?_⟩⟩;rw[el];exact⟨_,e,Z,Z⟩
 | @vals v d o AT hv hz=>
  cases r;obtain⟨ho,hl,hsys,vs,ep,rel,da⟩:=I.tU hz;obtain⟨o',es,h1,_,h2,_⟩:=id da;rw[ho]at h1;cases h1;have el:AT.length=vs.length:=rel.length;obtain⟨hv',_⟩:=(show fq X.prog X.w H s.heap v (mK v d)from I.hok v _ hv)
  refine⟨hz,d,_,λh=>h.IsValuesView v d/\h.DictAt (di X.prog X.w) d vs ep,cE ho,⟨hv',da⟩,λh ob ⟨⟨o1,a,b⟩,q⟩=>⟨⟨o1,cU _ a,b⟩,q.push ob⟩,λh=>fK _ rfl,λA E s Q q h=>wpAny_pyIter_values q.1 q.2 h,λit=>⟨_,_,WC h2,λh e=>?_⟩⟩;rw[el];exact⟨_,e,Z,Z⟩
variable {DD:Da Expr}{kk:Nat}{tpos:Pos}
inductive abG(K:Fg)(R:It->Hp->Prop)(vs:Da V)(H1:Hp):Prop
 |mk(u1 u2 S1 S2 xs ys:_)(_:vs=[u1,u2])(_:Wk K H1 u1 S1 xs)(_:Wk K H1 u2 S2 ys)(_:R (abE S1 S2 xs ys:_) H1)
def aex(K:Fg)(ta:TA):TI:=λσ H R=>ta σ H (abG K R)
theorem Im(hc:X.calm=true):iS X (.builtin "sum") (λxs H Q=>∃(v d:Addr)(AT:Da (Key×V))(ns:Da Int),xs=[.ref v]/\H v=some (mK v d)/\Rd H d (.dK AT)/\AT.map (·.2)=ns.map V.int/\Q (.int ns.sum) H):=by
 intro AC s σ H xs us Q I r h;obtain⟨v,d,AT,ns,rfl,hv,hz,en,q⟩:=h;obtain⟨u,rfl,ru⟩:=vals1 r;cases ru;obtain⟨_,hsys,vs,rel,dd⟩:=vj I.hok hz;obtain⟨ep,da⟩:=dd.dictAt;obtain⟨hv',_⟩:=(show fq X.prog X.w H s.heap v (mK v d)from I.hok v _ hv)
 have hl:AT.length=vs.length:=rel.length;have hlt:=da.lt_size;have hne:d≠s.heap.objs.size:=gr hlt;have W:=(Walks.dictValues (prog:=X.prog) (w:=X.w) (A:=X.A.in1) (knd:=di X.prog X.w) (I.ok.hd hc) s.heap.objs.size d hne vs ep).toS;have EA:AT.length=ns.length:=by have:=ig List.length en;simpa using this
 refine call_sum_walkAnyS (wpAny_pyIter_values hv' da ?_);refine⟨s.heap.objs.size,_,_,_,_,_,_,λi=>ns.getD i 0,Z,W,⟨⟨_,fK _ rfl,Z,Z⟩,da.push _⟩,λb hb=>?_,λi x hP=>?_,λs' t' hm=>?_⟩
 .rcases fm.mp hb with rfl|hb
  .exact cE (fK _ rfl)
  .obtain rfl:=dF.mp hb;exact(da.push _).lt_size
 .obtain ⟨k,hk⟩:=hP;have hil:i<ns.length:=by have:=(dM.mp hk).1;omega
  have hik:i<AT.length:=by omega
  obtain⟨q',hq',_,rq⟩:=AN rel (bf hik);rw[hk]at hq';cases hq';have e1:AT[i].2=V.int (ns.getD i 0):=by have:=ig (λl=>l[i]?) en;simp only[bV,bf hik,bf hil]at this;rw[dD,bf hil];exact gP this
  rw[e1]at rq;exact rq
 .obtain ⟨h',g',d',tk',os'⟩:=s';have e1:g'=s.gens:=hm.gens;have e2:d'=s.drawn:=hm.drawn;have e3:os'=s.os:=hm.os;subst e1 e2 e3;have hsz:vs.length=ns.length:=by omega
  rw[hsz,preSum_getD,KR (aL _)];exact⟨.int ns.sum,H,I.kept (h':=h') (t':=tk') λb o e=>hm.heap b o (λhb=>absurd (cE e) ((dF.mp hb)▸kK _)) (cU _ e),⟨t',Z⟩,q⟩
end
def fG:St->Da Nat->Da V->St
 | σ,k::ks,v::vs=>fG (σ.set k (some v)) ks vs
 | σ,_,_=>σ
theorem EI{k:Nat}{v:Option V}:∀{ks:Da Nat}{vs:Da V}{σ:St},k∉ks->(fG σ ks vs).set k v=fG (σ.set k v) ks vs
 | [],_,_,_=>by unfold fG;rfl
 | _::_,[],_,_=>by unfold fG;rfl
 | j::ks,w::vs,σ,h=>by have hj:k≠j:=λe=>h (by rw[e];exact cM);show(fG (σ.set j (some w)) ks vs).set k v=fG ((σ.set k v).set j (some w)) ks vs;rw[EI (λm=>h (cQ _ m)),List.set_comm _ _ hj]
theorem vR:∀{ks:Da Nat}{vs ws:Da V}{σ:St},ks.Nodup->vs.length=ks.length->ws.length=ks.length->fG (fG σ ks vs) ks ws=fG σ ks ws
 | [],[],[],_,_,_,_=>rfl
 | k::ks,v::vs,w::ws,σ,nd,h1,h2=>by have nk:=(g_.mp nd).1;show fG ((fG (σ.set k (some v)) ks vs).set k (some w)) ks ws=fG (σ.set k (some w)) ks ws;rw[EI nk,qH,vR (g_.mp nd).2 (by simpa using h1) (by simpa using h2)]
def X5:Da Nat->Ef
 | []=>aaF
 | k::ks=>XG (lE k) (X5 ks)
theorem LG{Q:St->Hp->Prop}{H:Hp}:∀{ks:Da Nat}{vs:Da V}{σ:St},vs.length=ks.length->Q (fG σ ks vs) H->X5 ks vs σ H Q
 | [],[],_,_,q=>⟨Z,q⟩
 | k::ks,v::vs,σ,h,q=>⟨v,vs,Z,LG (by simpa using h) q⟩
theorem AS(ks:Da Nat)(Pv:Nat->Da V->Hp->Prop)(nd:ks.Nodup)(hn:n<=100000)(h0:Pv 0 [] (upd H Ap (.lst [])))(hgo:∀i out H1,i<n->H1 Ap=some (.lst out)->Pv i out H1->J.go i H1)(hst:∀out H1,H1 Ap=some (.lst out)->Pv n out H1->J.stop n H1)(hs:∀(i:Nat) (x:V) (out:Da V) (H1 H2:Hp),i<n->out.length=i->H1 Ap=some (.lst out)->Pv i out H1->J.Eg i H1 x H2->
    ∃t vs,x =.ref t/\dU K H2 t vs/\vs.length=ks.length/\te (fG σ2 ks vs) H2 (zK Pv i Ap out))(hd:∀(out:Da V) (H1:Hp),out.length=n->H1 Ap=some (.lst out)->Pv n out H1->Q (.ref Ap) H1):
  Ew J (Df K ks.length (X5 ks)) te Ap σ2 H Q:=by
 refine⟨λi m σ' H'=>m=n-i/\i<=n/\(∀ws,ws.length=ks.length->fG σ' ks ws=fG σ2 ks ws)/\∃out,out.length=i/\H' Ap=some (.lst out)/\Pv i out H',⟨n,by simp,iH _,λ_ _=>rfl,[],Z,aq,h0⟩,?_⟩
 rintro i m σ' H' ⟨rfl,hi,hσ,out,ho,ha,p⟩
 by_cases hlt:i<n
 . refine .inr ⟨hgo i out H' hlt ha p,λσ3=>∀ws,ws.length=ks.length->fG σ3 ks ws=fG σ2 ks ws,(zK Pv i Ap out),λσ3 v H4 hS ⟨a,b⟩=>?_,λx H1 y=>?_⟩
   . refine⟨out,a,?_,n-(i+1),by omega,Z,hlt,hS,out++[v],by rw[cW,ho];rfl,aq,b⟩
     have:sizeLine=16777216:=mH
     omega
   . obtain⟨t,vs,rfl,sq,hl,q⟩:=hs i x out H' H1 hlt ho ha p y
     refine⟨t,vs,Z,sq,hl,LG hl ⟨λws hw=>?_,?_⟩⟩
     . rw[vR nd hl hw];exact hσ ws hw
     . rw[hσ vs hl];exact q
 . have e:i=n:=by omega
   subst e
   exact .inl ⟨hst out H' ha p,hd out H' ho ha p⟩
theorem Qj(ks:Da Nat)(Pv:Nat->Da V->Hp->Prop)(nd:ks.Nodup)(hn:n<=100000)(h0:Pv 0 [] (upd H Ap (.lst [])))(hgo:∀i out H1,i<n->H1 Ap=some (.lst out)->Pv i out H1->J.go i H1)(hst:∀out H1,H1 Ap=some (.lst out)->Pv n out H1->J.stop n H1)(hs:∀(i:Nat) (x:V) (out:Da V) (H1 H2:Hp),i<n->out.length<=i->H1 Ap=some (.lst out)->Pv i out H1->J.Eg i H1 x H2->
    ∃t vs,x =.ref t/\dU K H2 t vs/\vs.length=ks.length/\tc (fG σ2 ks vs) H2 (XU te (fG σ2 ks vs) Pv i Ap out))(hd:∀(out:Da V) (H1:Hp),out.length<=n->H1 Ap=some (.lst out)->Pv n out H1->Q (.ref Ap) H1):
  EF J (Df K ks.length (X5 ks)) tc te Ap σ2 H Q:=by
 refine⟨λi m σ' H'=>m=n-i/\i<=n/\(∀ws,ws.length=ks.length->fG σ' ks ws=fG σ2 ks ws)/\∃out,out.length<=i/\H' Ap=some (.lst out)/\Pv i out H',⟨n,by simp,iH _,λ_ _=>rfl,[],aL _,aq,h0⟩,?_⟩
 rintro i m σ' H' ⟨rfl,hi,hσ,out,ho,ha,p⟩
 by_cases hlt:i<n
 . refine .inr ⟨hgo i out H' hlt ha p,λσ3=>∀ws,ws.length=ks.length->fG σ3 ks ws=fG σ2 ks ws,(zK Pv i Ap out),λH3=>H3 Ap=some (.lst out)/\Pv (i+1) out H3,λσ3 v H4 hS ⟨a,b⟩=>?_,λσ3 H4 hS ⟨a,b⟩=>?_,λx H1 y=>?_⟩
   . refine⟨out,a,?_,n-(i+1),by omega,Z,hlt,hS,out++[v],by rw[cW];exact Nat.succ_le_succ ho,aq,b⟩
     have:sizeLine=16777216:=mH
     omega
   . exact⟨n-(i+1),by omega,Z,hlt,hS,out,by omega,a,b⟩
   . obtain⟨t,vs,rfl,sq,hl,q⟩:=hs i x out H' H1 hlt ho ha p y
     refine⟨t,vs,Z,sq,hl,LG hl ⟨λws hw=>?_,?_⟩⟩
     . rw[vR nd hl hw];exact hσ ws hw
     . rw[hσ vs hl];exact q
 . have e:i=n:=by omega
   subst e
   exact .inl ⟨hst out H' ha p,hd out H' ho ha p⟩
theorem iL(k:Nat)(Pv:Nat->Da V->Hp->Prop)(hn:n<=100000)(h0:Pv 0 [] (upd H Ap (.lst [])))(hgo:∀i out H1,i<n->H1 Ap=some (.lst out)->Pv i out H1->J.go i H1)(hst:∀out H1,H1 Ap=some (.lst out)->Pv n out H1->J.stop n H1)(hs:∀(i:Nat) (x:V) (out:Da V) (H1 H2:Hp),i<n->out.length=i->H1 Ap=some (.lst out)->Pv i out H1->J.Eg i H1 x H2->
    te (σ2.set k (some x)) H2 (zK Pv i Ap out))(hd:∀(out:Da V) (H1:Hp),out.length=n->H1 Ap=some (.lst out)->Pv n out H1->Q (.ref Ap) H1):
  Ew J (lE k) te Ap σ2 H Q:=by
 refine⟨λi m σ' H'=>m=n-i/\i<=n/\(∀w:Option V,σ'.set k w=σ2.set k w)/\∃out,out.length=i/\H' Ap=some (.lst out)/\Pv i out H',⟨n,by simp,iH _,λ_=>rfl,[],Z,aq,h0⟩,?_⟩
 rintro i m σ' H' ⟨rfl,hi,hσ,out,ho,ha,p⟩
 by_cases hlt:i<n
 . refine .inr ⟨hgo i out H' hlt ha p,λσ3=>∀w:Option V,σ3.set k w=σ2.set k w,(zK Pv i Ap out),λσ3 v H4 hS ⟨a,b⟩=>?_,λx H1 y=>?_⟩
   . refine⟨out,a,?_,n-(i+1),by omega,Z,hlt,hS,out++[v],by rw[cW,ho];rfl,aq,b⟩
     have:sizeLine=16777216:=mH
     omega
   . refine⟨λw=>by rw[qH];exact hσ w,?_⟩
     rw[hσ]
     exact hs i x out H' H1 hlt ho ha p y
 . have e:i=n:=by omega
   subst e
   exact .inl ⟨hst out H' ha p,hd out H' ho ha p⟩
theorem GF(k:Nat)(Pv:Nat->Da V->Hp->Prop)(hn:n<=100000)(h0:Pv 0 [] (upd H Ap (.lst [])))(hgo:∀i out H1,i<n->H1 Ap=some (.lst out)->Pv i out H1->J.go i H1)(hst:∀out H1,H1 Ap=some (.lst out)->Pv n out H1->J.stop n H1)(hs:∀(i:Nat) (x:V) (out:Da V) (H1 H2:Hp),i<n->out.length<=i->H1 Ap=some (.lst out)->Pv i out H1->J.Eg i H1 x H2->
    tc (σ2.set k (some x)) H2 (XU te (σ2.set k (some x)) Pv i Ap out))(hd:∀(out:Da V) (H1:Hp),out.length<=n->H1 Ap=some (.lst out)->Pv n out H1->Q (.ref Ap) H1):
  EF J (lE k) tc te Ap σ2 H Q:=by
 refine⟨λi m σ' H'=>m=n-i/\i<=n/\(∀w:Option V,σ'.set k w=σ2.set k w)/\∃out,out.length<=i/\H' Ap=some (.lst out)/\Pv i out H',⟨n,by simp,iH _,λ_=>rfl,[],aL _,aq,h0⟩,?_⟩
 rintro i m σ' H' ⟨rfl,hi,hσ,out,ho,ha,p⟩
 by_cases hlt:i<n
 . refine .inr ⟨hgo i out H' hlt ha p,λσ3=>∀w:Option V,σ3.set k w=σ2.set k w,(zK Pv i Ap out),λH3=>H3 Ap=some (.lst out)/\Pv (i+1) out H3,λσ3 v H4 hS ⟨a,b⟩=>?_,λσ3 H4 hS ⟨a,b⟩=>?_,λx H1 y=>?_⟩
   . refine⟨out,a,?_,n-(i+1),by omega,Z,hlt,hS,out++[v],by rw[cW];exact Nat.succ_le_succ ho,aq,b⟩
     have:sizeLine=16777216:=mH
     omega
   . exact⟨n-(i+1),by omega,Z,hlt,hS,out,by omega,a,b⟩
   . refine⟨λw=>by rw[qH];exact hσ w,?_⟩
     rw[hσ]
     exact hs i x out H' H1 hlt ho ha p y
 . have e:i=n:=by omega
   subst e
   exact .inl ⟨hst out H' ha p,hd out H' ho ha p⟩
structure Mn(P:Program)(w:World)(K:Fg)(mg:SO)(base:Heap)(k:Nat)(C:Addr)(m:Str)(ps:Da Str)(sp:Sp):Prop where
 ex:∃f fd,kN P w K mg base vM k f fd ps sp/\Binds K fd ps []/\Meth K C m f/\qK K C
structure Cn(P:Program)(w:World)(K:Fg)(mg:SO)(base:Heap)(k:Nat)(x:Str)(C:Addr)(ps:Da Str)(sp:Sp):Prop where
 ex:∃f fd,kN P w K mg base vM k f fd ps sp/\Binds K fd ps []/\Mk K C f/\mg x=some (.ref C)
section
variable {X:Cx}
inductive aey(x:V)(y:V)(H:Hp)(Q:VK):Prop
 |mk(i j:_)(_:x =.int i)(_:y =.int j)(_:RO i j)(_:Q (.int (i*j)) H)
def Zp:Lc X .Mult aey:=by
 rintro AC s σ H x y u v Q I rx ry ⟨i,j,rfl,rfl,⟨m,n,h1,h2,h3⟩,q⟩;obtain⟨t,rfl⟩:=(show ∃t,u=Value.int i t from rx)
 obtain⟨t',rfl⟩:=(show ∃t',v=Value.int j t' from ry)
 exact PyProof.Rows.imul_int ⟨.int (i*j),H,I.tok _,⟨_,Z⟩,q⟩ (IntMulOk.of_le (Rp.mpr h1) (Rp.mpr h2) h3)
end
structure jj(K:Fg)(C:Addr)(m qual:Str)(st:Stmt)(f:Addr)(fd:FuncData):Prop where
 fn:Ii K m qual st f fd
 me:Meth K C m f
 cl:qK K C
variable {mg:SO}{base:Heap}{C f:Addr}{qual:Str}{fd:FuncData}{N ps:Da Str}{sp:Sp}
theorem jj.ok{m:Str}{st:Stmt}{k:Nat}(F:jj K C m qual st f fd)(S:aQ N ps (aD st))(len:∀vs H Q E,sp vs H Q E->vs.length=ps.length)(Ch:∀(cdv:Value) (A:Around) (outer:Da Env) (s:Shared) (H:Hp) (vs:Da V) (Q:VK) (E:XK),fL k (A.deeper (envOfC qual (aD st) s.heap.objs.size f cdv))->sp vs H Q E->
    ∃t,xM (uI vM P w K mg base N qual (aD st) f cdv A outer s H E).CI (dX st) t/\t { nx:=λ_ H'=>Q .cy H',rt:=Q } (start N vs) H)(h:∀(kV doc pm:Value) (an:Option Addr) (cdv ct:Value) (us:Da Value),us.length=ps.length->bindArgs (PySem.W.fnOf m qual (gG st) (dX st) (aD st) .none kV doc pm an cdv ct) ⟨us,[]⟩=pure (ps.zip us)):
  Mn P w K mg base (k+1) C m ps sp:=⟨f,fd,F.fn.ok S len Ch,F.fn.binds h,F.me,F.cl⟩
structure Io(K:Fg)(mg:SO)(x:Str)(C:Addr)(qual:Str)(st:Stmt)(f:Addr)(fd:FuncData):Prop where
 fn:Ii K "__init__" qual st f fd
 mks:Mk K C f
 name:mg x=some (.ref C)
theorem Io.ok{st:Stmt}{k:Nat}(F:Io K mg x C qual st f fd)(S:aQ N ps (aD st))(len:∀vs H Q E,sp vs H Q E->vs.length=ps.length)(Ch:∀(cdv:Value) (A:Around) (outer:Da Env) (s:Shared) (H:Hp) (vs:Da V) (Q:VK) (E:XK),fL k (A.deeper (envOfC qual (aD st) s.heap.objs.size f cdv))->sp vs H Q E->
    ∃t,xM (uI vM P w K mg base N qual (aD st) f cdv A outer s H E).CI (dX st) t/\t { nx:=λ_ H'=>Q .cy H',rt:=Q } (start N vs) H)(h:∀(kV doc pm:Value) (an:Option Addr) (cdv ct:Value) (us:Da Value),us.length=ps.length->bindArgs (PySem.W.fnOf "__init__" qual (gG st) (dX st) (aD st) .none kV doc pm an cdv ct) ⟨us,[]⟩=pure (ps.zip us)):
  Cn P w K mg base (k+1) x C ps sp:=⟨f,fd,F.fn.ok S len Ch,F.fn.binds h,F.mks,F.name⟩
abbrev qP:=Nat×Nat×Str
abbrev eF:=Addr->Option qP
abbrev col(n t:Nat):Option qP:=some (n,t,(⟨#[]⟩:Str))
def isTup:HO->Bool
 | .tup _=>true
 | _=>false
def Gh(ρ:eF)(H:Hp):Prop:=∀b c,ρ b=some c->∃o,H b=some o/\isTup o=false
def Fr(n:Nat)(ρ:eF)(H:Hp)(ρ':eF)(H':Hp):Prop:=∀b o,H b=some o->(∀t x,ρ b≠some (n,t,x))->H' b=some o/\ρ' b=ρ b
def bY(ρ:eF)(a:Addr)(c:qP):eF:=λb=>if b=a then some c else ρ b
variable {ρ:eF}
def cX{c:qP}:bY ρ a c a=some c:=ay rfl
def b8{b:Addr}{c:qP}(h:b≠a):bY ρ a c b=ρ b:=av h
def out(ρ:eF)(H:Hp):Hp:=λb=>if ρ b=none then H b else none
def EJ{b:Addr}{o:HO}(h:H b=some o)(c:ρ b=none):out ρ H b=some o:=by unfold out;rw[ay c];exact h
def zO{b:Addr}{o:HO}(h:out ρ H b=some o):H b=some o/\ρ b=none:=by
 unfold out at h;split at h
 .next c=>exact⟨h,c⟩
 .cases h
theorem Gh.none(g:Gh ρ H){b:Addr}(h:H b=Option.none):ρ b=Option.none:=by
 cases e:ρ b with
 | none=>rfl
 | some c=>obtain⟨o,q,_⟩:=g b c e;rw[h]at q;cases q
theorem Gh.tup{ρ:eF}{H:Hp}(g:Gh ρ H){b:Addr}{xs:Da V}(h:H b=some (.tup xs)):ρ b=Option.none:=by
 cases e:ρ b with
 | none=>rfl
 | some c=>obtain⟨o,q,t⟩:=g b c e;rw[h]at q;cases q;cases t
def Gh.same(g:Gh ρ H)(s:aK H H'):Gh ρ H':=λb c e=>let⟨o,h,t⟩:=g b c e;⟨o,s b o h,t⟩
def Gh.wr(g:Gh ρ H){o:HO}(t:isTup o=false):Gh ρ (upd H a o):=λb c e=>by
 by_cases h:b=a
 .rw [h,aq];exact⟨o,Z,t⟩
 .rw [az h];exact g b c e
def Gh.alloc(g:Gh ρ H){o:HO}(h:H a=Option.none):Gh ρ (upd H a o):=g.same (aH h o)
def Gh.color(g:Gh ρ H){c:qP}{o:HO}(h:H a=some o)(t:isTup o=false):Gh (bY ρ a c) H:=λb d e=>by
 by_cases z:b=a
 .rw [z];exact⟨o,h,t⟩
 .rw [b8 z]at e;exact g b d e
def Fr.refl:Fr n ρ H ρ H:=λ_ _ h _=>⟨h,Z⟩
variable {H1 H2:Hp}
theorem Fr.trans{ρ1 ρ2:eF}(a:Fr n ρ H ρ1 H1)(b:Fr n ρ1 H1 ρ2 H2):Fr n ρ H ρ2 H2:=λc o h k=>by obtain⟨h1,e1⟩:=a c o h k;obtain⟨h2,e2⟩:=b c o h1 (by rw[e1];exact k);exact⟨h2,e2.trans e1⟩
def Fr.of_same(s:aK H H'):Fr n ρ H ρ H':=λb o h _=>⟨s b o h,Z⟩
def Fr.write{o:HO}(c:ρ a=some (n,t,x)):Fr n ρ H ρ (upd H a o):=λb u h k=>by have:b≠a:=λe=>k t x (by rw[e];exact c);rw[az this];exact⟨h,Z⟩
def Fr.color{c:qP}(h:H a=none)(s:aK H H'):Fr n ρ H (bY ρ a c) H':=λb u e k=>by rw[b8 (aJ e h)];exact⟨s b u e,Z⟩
variable {ρ':eF}
theorem Fr.out(f:Fr n ρ H ρ' H'):aK (out ρ H) (out ρ' H'):=λb o h=>by obtain⟨h1,c⟩:=zO h;obtain⟨h2,e⟩:=f b o h1 (λt x=>by rw[c];intro z;cases z);exact EJ h2 (e.trans c)
def m_(s:aK H H'):aK (out ρ H) (out ρ H'):=λb o h=>by obtain⟨h1,c⟩:=zO h;exact EJ (s b o h1) c
structure Pt where
 nm:Str
 ow:Str
 wo:Int
 we:Int
 sc:Int
 row:Da Int
structure lq where
 nm:Str
 ow:Str
 wo:Int
 sh:Da (Str×Rat)
structure HS where
 own:Da Str
 ah:Da Pt
 bB:Da lq
 nms:Da Str
 stp:Da Int
 prod:Int
 kn:Nat
 bX:Da Int
 bJ:Da Int
structure HA where
 a:Addr
 dx:Addr
 pl:Addr
 ab:Addr
 as:Addr
 nm:Addr
 bt:Addr
 db:Addr
 cm:Addr
 pu:Addr
 sp:Addr
 kn:Addr
 qs:Da (Addr×Addr×Addr)
structure TC where
 hold:Addr
 part:Addr
 bot:Addr
def gI:Nat->Da Str->Da (Key×V)
 | _,[]=>[]
 | i,o::r=>(Sum.inr o,.int i)::gI (i+1) r
def cY(ps:Da Pt)(qs:Da (Addr×Addr×Addr)):Da (Key×V):=List.zipWith (λp q=>((Sum.inr p.nm:Key),V.ref q.1)) ps qs
def AU(l:Da Str):Da (Key×V):=l.map λx=>(Sum.inr x,.bl true)
def kH(A:HA):Da (Str×V):=[("places",.ref A.pl),("aboard",.ref A.ab),("ashore",.ref A.as),("names",.ref A.nm),("bottom",.ref A.bt),("common",.ref A.cm),("purses",.ref A.pu)]
def dI(p:Pt)(r:Addr):Da (Str×V):=[("name",.str p.nm),("owner",.str p.ow),("worth",.int p.wo),("weight",.int p.we),("scale",.int p.sc),("row",.ref r)]
def zP(sp:Addr)(prod:Int)(kn:Addr):Da (Str×V):=[("steps",.ref sp),("product",.int prod),("known",.ref kn)]
def LH(H:Hp)(AT:Da (Key×V))(prod:Int):Prop:=∀p∈AT,∃(t:Int)(r:Addr),p=(Sum.inl t,V.ref r)/\H r=some (oE (Jm.fr t prod))
inductive pQ(H:Hp):Da V->Da (Str×Rat)->Prop
 | nil:pQ H [] []
 | cons {r f:Addr} {x:Str} {q:Rat} {vs:Da V} {l:Da (Str×Rat)}:H r=some (.tup [.str x,.ref f])->H f=some (oE q)->pQ H vs l->pQ H (.ref r::vs) ((x,q)::l)
inductive mL(n:Nat)(ρ:eF)(H:Hp):Da V->Da lq->Prop
 | nil:mL n ρ H [] []
 | cons {r l:Addr} {x:lq} {ss:Da V} {vs:Da V} {as:Da lq}:H r=some (.tup [.str x.nm,.str x.ow,.int x.wo,.ref l])->H l=some (.lst ss)->ρ l=some (n,30,⟨#[]⟩)->pQ H ss x.sh->mL n ρ H vs as->mL n ρ H (.ref r::vs) (x::as)
structure aX(T:TC)(n:Nat)(ρ:eF)(A:HA)(H:Hp)(st:HS):Prop where
 oa:H A.a=some (.ins T.hold A.dx (kH A))
 ca:ρ A.a=col n 0
 jk:H A.pl=some (.dK (gI 0 st.own))
 jl:ρ A.pl=col n 1
 fE:H A.ab=some (.dK (cY st.ah A.qs))
 ia:ρ A.ab=col n 2
 sj:∃vs,H A.as=some (.lst vs)/\mL n ρ H vs st.bB
 jC:ρ A.as=col n 3
 uf:H A.nm=some (.dK (AU st.nms))
 jD:ρ A.nm=col n 4
 jE:H A.bt=some (.ins T.bot A.db (zP A.sp st.prod A.kn))
 jF:ρ A.bt=col n 5
 jR:H A.cm=some (.lst (st.bX.map V.int))
 j6:ρ A.cm=col n 6
 lS:H A.pu=some (.lst (st.bJ.map V.int))
 cpu:ρ A.pu=col n 7
 oQ:H A.sp=some (.lst (st.stp.map V.int))
 jG:ρ A.sp=col n 8
 okn:∃AT,H A.kn=some (.dK AT)/\LH H AT st.prod/\AT.length<=st.kn/\(AT.map (·.1)).Nodup
 jH:ρ A.kn=col n 9
 ql:A.qs.length=st.ah.length
 opt:∀(i:Nat)(p:Pt)(q:Addr×Addr×Addr),st.ah[i]?=some p->A.qs[i]?=some q->H q.1=some (.ins T.part q.2.1 (dI p q.2.2))/\H q.2.2=some (.lst (p.row.map V.int))/\ρ q.1=some (n,20,p.nm)/\ρ q.2.2=some (n,21,p.nm)
def EK{b:Addr}{c d:qP}(ha:ρ a=some c)(hb:ρ b=some d)(h:c≠d):a≠b:=λe=>by rw[e,hb]at ha;cases ha;exact h rfl
def CS{b:Addr}{c:qP}(ha:ρ a=none)(hb:ρ b=some c):a≠b:=λe=>by rw[e,hb]at ha;cases ha
variable {vs:Da V}
def pQ.mono{l:Da (Str×Rat)}(h:pQ H vs l)(g:∀b xs,H b=some (.tup xs)->H' b=some (.tup xs)):pQ H' vs l:=by
 induction h with
 | nil=>exact .nil
 | cons a b _ ih=>exact .cons (g _ _ a) (g _ _ b) ih
def Kp(n:Nat)(ρ ρ':eF)(H H':Hp)(ts:Nat->Bool):Prop:=(∀b xs,H b=some (.tup xs)->H' b=some (.tup xs))/\∀b t x o,ts t=true->ρ b=some (n,t,x)->H b=some o->H' b=some o/\ρ' b=some (n,t,x)
variable {ts:Nat->Bool}
def mL.keep{l:Da lq}(h:mL n ρ H vs l)(k:Kp n ρ ρ' H H' ts)(e:ts 30=true):mL n ρ' H' vs l:=by
 induction h with
 | nil=>exact .nil
 | cons a b c d _ ih=>exact .cons (k.1 _ _ a) (k.2 _ _ _ _ e c b).1 (k.2 _ _ _ _ e c b).2 (d.mono k.1) ih
def d_{o:HO}(g:Gh ρ H)(c:ρ a=some (n,t,x)):Kp n ρ ρ H (upd H a o) (λu=>decide (u≠t)):=by
 refine⟨λb xs h=>?_,λb u y w hu hc h=>⟨?_,hc⟩⟩
 .rw [az (CS (g.tup h) c)];exact h
 .rw [az (EK hc c (λe=>by cases e;exact absurd hu (by simp)))];exact h
def kz(k:Kp n ρ ρ' H H' ts){b:Addr}{o:HO}(c:ρ b=some (n,t,x))(e:H b=some o)(u:ts t=true:=by decide):H' b=some o:=(k.2 b t x o u c e).1
def Qk(s:aK H H'):Kp n ρ ρ H H' ts:=⟨λb xs h=>s _ _ h,λb u y w _ hc h=>⟨s _ _ h,hc⟩⟩
variable {T:TC}{A:HA}
def aX.same{st:HS}(h:aX T n ρ A H st)(k:Kp n ρ ρ' H H' λ_=>true):aX T n ρ' A H' st:=by
 have z:=λ{b:Addr}{t:Nat}{x:Str}{o:HO}(c:ρ b=some (n,t,x))(e:H b=some o)=>k.2 b t x o rfl c e;obtain⟨vs,h1,h2⟩:=h.sj;obtain⟨AT,k1,k2,k3⟩:=h.okn;exact⟨(z h.ca h.oa).1,(z h.ca h.oa).2,(z h.jl h.jk).1,(z h.jl h.jk).2,(z h.ia h.fE).1,(z h.ia h.fE).2,⟨vs,(z h.jC h1).1,h2.keep k rfl⟩,(z h.jC h1).2,(z h.jD h.uf).1,(z h.jD h.uf).2,(z h.jF h.jE).1,(z h.jF h.jE).2,
  (z h.j6 h.jR).1,(z h.j6 h.jR).2,(z h.cpu h.lS).1,(z h.cpu h.lS).2,(z h.jG h.oQ).1,(z h.jG h.oQ).2,⟨AT,(z h.jH k1).1,λp hp=>let⟨t,r,e,q⟩:=k2 p hp;⟨t,r,e,k.1 _ _ q⟩,k3⟩,(z h.jH k1).2,h.ql,
  λi p q e1 e2=>let⟨a,b,c,d⟩:=h.opt i p q e1 e2;⟨(z c a).1,(z d b).1,(z c a).2,(z d b).2⟩⟩
def aX.mono{st:HS}(h:aX T n ρ A H st)(s:aK H H'):aX T n ρ A H' st:=h.same (Qk s)
def aX.other{st:HS}(h:aX T m ρ A H st)(f:Fr n ρ H ρ' H')(g:Gh ρ H)(e:m≠n):aX T m ρ' A H' st:=h.same ⟨λb xs q=>(f b _ q λt x=>by rw[g.tup q];intro z;cases z).1,λb t x o _ c q=>by
 obtain⟨a,b'⟩:=f b o q λt' x'=>by rw[c];intro z;cases z;exact e rfl
 exact⟨a,b'.trans c⟩⟩
variable {r:Addr}
def mL.snoc{as:Da lq}{l:Addr}{x:lq}{ss:Da V}(h:mL n ρ H vs as)(e1:H r=some (.tup [.str x.nm,.str x.ow,.int x.wo,.ref l]))(e2:H l=some (.lst ss))(e3:ρ l=some (n,30,⟨#[]⟩))(e4:pQ H ss x.sh):mL n ρ H (vs++[.ref r]) (as++[x]):=by
 induction h with
 | nil=>exact .cons e1 e2 e3 e4 .nil
 | cons a b c d _ ih=>exact .cons a b c d ih
theorem Cf{p0 p1:Pt}:∀{ps:Da Pt}{qs:Da (Addr×Addr×Addr)}{i:Nat},ps[i]?=some p0->p1.nm=p0.nm->cY (ps.set i p1) qs=cY ps qs
 | [],_,_,h,_=>by simp at h
 | _::_,[],_,_,_=>by simp[cY]
 | p::ps,q::qs,0,h,e=>by
  have:p=p0:=by simpa using h
  simp[cY,e,this]
 | p::ps,q::qs,i+1,h,e=>by have:=Cf (qs:=qs) (by simpa using h:ps[i]?=some p0) e;simp only[cY,K0,uC]at this ⊢;rw[this]
variable {j:Nat}{p:Pt}
def EL{ps:Da Pt}(nd:(ps.map (·.nm)).Nodup){q:Pt}(h1:ps[i]?=some p)(h2:ps[j]?=some q)(e:p.nm=q.nm):i=j:=by
 have a:(ps.map (·.nm))[i]?=some p.nm:=by rw[bV,h1];rfl
 have b:(ps.map (·.nm))[j]?=some p.nm:=by rw[bV,h2,e];rfl
 exact Dc nd a b
variable {p0 p1:Pt}{q0:Addr×Addr×Addr}
def Zq{st:HS}(h:aX T n ρ A H st)(k:Kp n ρ ρ H H' ts)(nd:(st.ah.map (·.nm)).Nodup)(ep:st.ah[i]?=some p0)(eq:A.qs[i]?=some q0)(e1:p1.nm=p0.nm)(hw:H' q0.1=some (.ins T.part q0.2.1 (dI p1 q0.2.2)))(hs:∀{b:Addr} {t:Nat} {x:Str} {o:HO},ρ b=some (n,t,x)->t≠20\/x≠p0.nm->H b=some o->H' b=some o)(er:(.lst (p0.row.map V.int):HO) =.lst (p1.row.map V.int)):
  ∀(j:Nat)(p:Pt)(q:Addr×Addr×Addr),(st.ah.set i p1)[j]?=some p->A.qs[j]?=some q->H' q.1=some (.ins T.part q.2.1 (dI p q.2.2))/\H' q.2.2=some (.lst (p.row.map V.int))/\ρ q.1=some (n,20,p.nm)/\ρ q.2.2=some (n,21,p.nm):=by
 intro j p q ej eq'
 by_cases hj:i=j
 . subst hj
   rw[eq]at eq';cases eq'
   rw[kC (dM.mp ep).1]at ej
   cases ej
   obtain⟨a,b,c,d⟩:=h.opt i p0 q0 ep eq
   exact⟨hw,by rw[<-er];exact hs d (.inl (by decide)) b,by rw[e1];exact c,by rw[e1];exact d⟩
 . rw[yh hj]at ej
   obtain⟨a,b,c,d⟩:=h.opt j p q ej eq'
   exact⟨hs c (.inr λe=>hj (EL nd ep ej e.symm)) a,hs d (.inl (by decide)) b,c,d⟩
variable {l:Da Int}
def WE{st:HS}(h:aX T n ρ A H st)(nd:(st.ah.map (·.nm)).Nodup)(ep:st.ah[i]?=some p0)(eq:A.qs[i]?=some q0)(hw:H' q0.2.2=some (.lst (l.map V.int)))(hs:∀{b:Addr} {t:Nat} {x:Str} {o:HO},ρ b=some (n,t,x)->t≠21\/x≠p0.nm->H b=some o->H' b=some o):
  ∀(j:Nat)(p:Pt)(q:Addr×Addr×Addr),(st.ah.set i { p0 with row:=l })[j]?=some p->A.qs[j]?=some q->H' q.1=some (.ins T.part q.2.1 (dI p q.2.2))/\H' q.2.2=some (.lst (p.row.map V.int))/\ρ q.1=some (n,20,p.nm)/\ρ q.2.2=some (n,21,p.nm):=by
 intro j p q ej eq'
 by_cases hj:i=j
 . subst hj
   rw[eq]at eq';cases eq'
   rw[kC (dM.mp ep).1]at ej
   cases ej
   obtain⟨a,b,c,d⟩:=h.opt i p0 q0 ep eq
   exact⟨hs c (.inl (by decide)) a,hw,c,d⟩
 . rw[yh hj]at ej
   obtain⟨a,b,c,d⟩:=h.opt j p q ej eq'
   exact⟨hs c (.inl (by decide)) a,hs d (.inr λe=>hj (EL nd ep ej e.symm)) b,c,d⟩
def AV{o:HO}(c:ρ a=some (n,t,x)):∀{b:Addr}{u:Nat}{y:Str}{w:HO},ρ b=some (n,u,y)->u≠t\/y≠x->H b=some w->upd H a o b=some w:=λ{b u y w} hc hu h=>by rw[az (EK hc c (λe=>by cases e;rcases hu with z|z <;> exact z rfl))];exact h
def aX.abH{st:HS}(h:aX T n ρ A H st)(g:Gh ρ H)(l:Da Str):aX T n ρ A (upd H A.pl (.dK (gI 0 l))) { st with own:=l }:=by have k:=d_ (o:=.dK (gI 0 l)) g h.jl;obtain⟨vs,h1,h2⟩:=h.sj;obtain⟨AT,k1,k2,k3⟩:=h.okn;exact⟨kz k h.ca h.oa,h.ca,aq,h.jl,kz k h.ia h.fE,h.ia,⟨vs,kz k h.jC h1,h2.keep k (by decide)⟩,h.jC,kz k h.jD h.uf,h.jD,kz k h.jF h.jE,h.jF,kz k h.j6 h.jR,h.j6,kz k h.cpu h.lS,h.cpu,kz k h.jG h.oQ,h.jG,⟨AT,kz k h.jH k1,λp hp=>let⟨t,r,e,q⟩:=k2 p hp;⟨t,r,e,k.1 _ _ q⟩,k3⟩,h.jH,h.ql,λi p q e1 e2=>let⟨a,b,c,d⟩:=h.opt i p q e1 e2;⟨kz k c a,kz k d b,c,d⟩⟩
def aX.LI{st:HS}(h:aX T n ρ A H st)(g:Gh ρ H)(ps:Da Pt)(qs:Da (Addr×Addr×Addr))(el:qs.length=ps.length)(hp:∀(i:Nat) (p:Pt) (q:Addr×Addr×Addr),ps[i]?=some p->qs[i]?=some q->H q.1=some (.ins T.part q.2.1 (dI p q.2.2))/\H q.2.2=some (.lst (p.row.map V.int))/\ρ q.1=some (n,20,p.nm)/\ρ q.2.2=some (n,21,p.nm)):aX T n ρ { A with qs:=qs } (upd H A.ab (.dK (cY ps qs))) { st with ah:=ps }:=by have k:=d_ (o:=.dK (cY ps qs)) g h.ia;obtain⟨vs,h1,h2⟩:=h.sj;obtain⟨AT,k1,k2,k3⟩:=h.okn;exact⟨kz k h.ca h.oa,h.ca,kz k h.jl h.jk,h.jl,aq,h.ia,⟨vs,kz k h.jC h1,h2.keep k (by decide)⟩,h.jC,kz k h.jD h.uf,h.jD,kz k h.jF h.jE,h.jF,kz k h.j6 h.jR,h.j6,kz k h.cpu h.lS,h.cpu,kz k h.jG h.oQ,h.jG,⟨AT,kz k h.jH k1,λp hp=>let⟨t,r,e,q⟩:=k2 p hp;⟨t,r,e,k.1 _ _ q⟩,k3⟩,h.jH,el,λi p q e1 e2=>let⟨a,b,c,d⟩:=hp i p q e1 e2;⟨kz k c a,kz k d b,c,d⟩⟩
def aX.abI{st:HS}(h:aX T n ρ A H st)(g:Gh ρ H){l:Addr}{x:lq}{ss Uc:Da V}(hv:H A.as=some (.lst Uc))(e1:H r=some (.tup [.str x.nm,.str x.ow,.int x.wo,.ref l]))(e2:H l=some (.lst ss))(e3:ρ l=some (n,30,⟨#[]⟩))(e4:pQ H ss x.sh):aX T n ρ A (upd H A.as (.lst (Uc++[.ref r]))) { st with bB:=st.bB++[x] }:=by have k:=d_ (o:=.lst (Uc++[.ref r])) g h.jC;obtain⟨vs,h1,h2⟩:=h.sj;obtain⟨AT,k1,k2,k3⟩:=h.okn;exact⟨kz k h.ca h.oa,h.ca,kz k h.jl h.jk,h.jl,kz k h.ia h.fE,h.ia,⟨_,aq,by rw[hv]at h1;cases h1;exact(h2.keep k (by decide)).snoc (k.1 _ _ e1) (kz k e3 e2) e3 (e4.mono k.1)⟩,h.jC,kz k h.jD h.uf,h.jD,kz k h.jF h.jE,h.jF,kz k h.j6 h.jR,h.j6,kz k h.cpu h.lS,h.cpu,kz k h.jG h.oQ,h.jG,⟨AT,kz k h.jH k1,λp hp=>let⟨t,r,e,q⟩:=k2 p hp;⟨t,r,e,k.1 _ _ q⟩,k3⟩,h.jH,h.ql,λi p q e1 e2=>let⟨a,b,c,d⟩:=h.opt i p q e1 e2;⟨kz k c a,kz k d b,c,d⟩⟩
def aX.abJ{st:HS}(h:aX T n ρ A H st)(g:Gh ρ H)(l:Da Str):aX T n ρ A (upd H A.nm (.dK (AU l))) { st with nms:=l }:=by have k:=d_ (o:=.dK (AU l)) g h.jD;obtain⟨vs,h1,h2⟩:=h.sj;obtain⟨AT,k1,k2,k3⟩:=h.okn;exact⟨kz k h.ca h.oa,h.ca,kz k h.jl h.jk,h.jl,kz k h.ia h.fE,h.ia,⟨vs,kz k h.jC h1,h2.keep k (by decide)⟩,h.jC,aq,h.jD,kz k h.jF h.jE,h.jF,kz k h.j6 h.jR,h.j6,kz k h.cpu h.lS,h.cpu,kz k h.jG h.oQ,h.jG,⟨AT,kz k h.jH k1,λp hp=>let⟨t,r,e,q⟩:=k2 p hp;⟨t,r,e,k.1 _ _ q⟩,k3⟩,h.jH,h.ql,λi p q e1 e2=>let⟨a,b,c,d⟩:=h.opt i p q e1 e2;⟨kz k c a,kz k d b,c,d⟩⟩
def aX.abL{st:HS}(h:aX T n ρ A H st)(g:Gh ρ H)(l:Da Int):aX T n ρ A (upd H A.cm (.lst (l.map V.int))) { st with bX:=l }:=by have k:=d_ (o:=.lst (l.map V.int)) g h.j6;obtain⟨vs,h1,h2⟩:=h.sj;obtain⟨AT,k1,k2,k3⟩:=h.okn;exact⟨kz k h.ca h.oa,h.ca,kz k h.jl h.jk,h.jl,kz k h.ia h.fE,h.ia,⟨vs,kz k h.jC h1,h2.keep k (by decide)⟩,h.jC,kz k h.jD h.uf,h.jD,kz k h.jF h.jE,h.jF,aq,h.j6,kz k h.cpu h.lS,h.cpu,kz k h.jG h.oQ,h.jG,⟨AT,kz k h.jH k1,λp hp=>let⟨t,r,e,q⟩:=k2 p hp;⟨t,r,e,k.1 _ _ q⟩,k3⟩,h.jH,h.ql,λi p q e1 e2=>let⟨a,b,c,d⟩:=h.opt i p q e1 e2;⟨kz k c a,kz k d b,c,d⟩⟩
def aX.abM{st:HS}(h:aX T n ρ A H st)(g:Gh ρ H)(l:Da Int):aX T n ρ A (upd H A.pu (.lst (l.map V.int))) { st with bJ:=l }:=by have k:=d_ (o:=.lst (l.map V.int)) g h.cpu;obtain⟨vs,h1,h2⟩:=h.sj;obtain⟨AT,k1,k2,k3⟩:=h.okn;exact⟨kz k h.ca h.oa,h.ca,kz k h.jl h.jk,h.jl,kz k h.ia h.fE,h.ia,⟨vs,kz k h.jC h1,h2.keep k (by decide)⟩,h.jC,kz k h.jD h.uf,h.jD,kz k h.jF h.jE,h.jF,kz k h.j6 h.jR,h.j6,aq,h.cpu,kz k h.jG h.oQ,h.jG,⟨AT,kz k h.jH k1,λp hp=>let⟨t,r,e,q⟩:=k2 p hp;⟨t,r,e,k.1 _ _ q⟩,k3⟩,h.jH,h.ql,λi p q e1 e2=>let⟨a,b,c,d⟩:=h.opt i p q e1 e2;⟨kz k c a,kz k d b,c,d⟩⟩
def aX.abN{st:HS}(h:aX T n ρ A H st)(g:Gh ρ H)(l:Da Int):aX T n ρ A (upd H A.sp (.lst (l.map V.int))) { st with stp:=l }:=by have k:=d_ (o:=.lst (l.map V.int)) g h.jG;obtain⟨vs,h1,h2⟩:=h.sj;obtain⟨AT,k1,k2,k3⟩:=h.okn;exact⟨kz k h.ca h.oa,h.ca,kz k h.jl h.jk,h.jl,kz k h.ia h.fE,h.ia,⟨vs,kz k h.jC h1,h2.keep k (by decide)⟩,h.jC,kz k h.jD h.uf,h.jD,kz k h.jF h.jE,h.jF,kz k h.j6 h.jR,h.j6,kz k h.cpu h.lS,h.cpu,aq,h.jG,⟨AT,kz k h.jH k1,λp hp=>let⟨t,r,e,q⟩:=k2 p hp;⟨t,r,e,k.1 _ _ q⟩,k3⟩,h.jH,h.ql,λi p q e1 e2=>let⟨a,b,c,d⟩:=h.opt i p q e1 e2;⟨kz k c a,kz k d b,c,d⟩⟩
def aX.abO{st:HS}(h:aX T n ρ A H st)(g:Gh ρ H)(q:Addr)(l:Da Int)(e:H q=some (.lst (l.map V.int)))(c:ρ q=col n 6):aX T n ρ { A with cm:=q } (upd H A.a (.ins T.hold A.dx (kH { A with cm:=q }))) { st with bX:=l }:=by have k:=d_ (o:=.ins T.hold A.dx (kH { A with cm:=q })) g h.ca;obtain⟨vs,h1,h2⟩:=h.sj;obtain⟨AT,k1,k2,k3⟩:=h.okn;exact⟨aq,h.ca,kz k h.jl h.jk,h.jl,kz k h.ia h.fE,h.ia,⟨vs,kz k h.jC h1,h2.keep k (by decide)⟩,h.jC,kz k h.jD h.uf,h.jD,kz k h.jF h.jE,h.jF,kz k c e,c,kz k h.cpu h.lS,h.cpu,kz k h.jG h.oQ,h.jG,⟨AT,kz k h.jH k1,λp hp=>let⟨t,r,e,q⟩:=k2 p hp;⟨t,r,e,k.1 _ _ q⟩,k3⟩,h.jH,h.ql,λi p q e1 e2=>let⟨a,b,c,d⟩:=h.opt i p q e1 e2;⟨kz k c a,kz k d b,c,d⟩⟩
def aX.Ud{st:HS}(h:aX T n ρ A H st)(g:Gh ρ H)(q:Addr)(l:Da Int)(e:H q=some (.lst (l.map V.int)))(c:ρ q=col n 7):aX T n ρ { A with pu:=q } (upd H A.a (.ins T.hold A.dx (kH { A with pu:=q }))) { st with bJ:=l }:=by have k:=d_ (o:=.ins T.hold A.dx (kH { A with pu:=q })) g h.ca;obtain⟨vs,h1,h2⟩:=h.sj;obtain⟨AT,k1,k2,k3⟩:=h.okn;exact⟨aq,h.ca,kz k h.jl h.jk,h.jl,kz k h.ia h.fE,h.ia,⟨vs,kz k h.jC h1,h2.keep k (by decide)⟩,h.jC,kz k h.jD h.uf,h.jD,kz k h.jF h.jE,h.jF,kz k h.j6 h.jR,h.j6,kz k c e,c,kz k h.jG h.oQ,h.jG,⟨AT,kz k h.jH k1,λp hp=>let⟨t,r,e,q⟩:=k2 p hp;⟨t,r,e,k.1 _ _ q⟩,k3⟩,h.jH,h.ql,λi p q e1 e2=>let⟨a,b,c,d⟩:=h.opt i p q e1 e2;⟨kz k c a,kz k d b,c,d⟩⟩
def aX.abP{st:HS}(h:aX T n ρ A H st)(g:Gh ρ H)(m:Int)(q:Addr)(e:H q=some (.dK []))(c:ρ q=col n 9):aX T n ρ { A with kn:=q } (upd H A.bt (.ins T.bot A.db (zP A.sp m q))) { st with prod:=m,kn:=0 }:=by have k:=d_ (o:=.ins T.bot A.db (zP A.sp m q)) g h.jF;obtain⟨vs,h1,h2⟩:=h.sj;obtain⟨AT,k1,k2,k3⟩:=h.okn;exact⟨kz k h.ca h.oa,h.ca,kz k h.jl h.jk,h.jl,kz k h.ia h.fE,h.ia,⟨vs,kz k h.jC h1,h2.keep k (by decide)⟩,h.jC,kz k h.jD h.uf,h.jD,aq,h.jF,kz k h.j6 h.jR,h.j6,kz k h.cpu h.lS,h.cpu,kz k h.jG h.oQ,h.jG,⟨[],kz k c e,(λp hp=>absurd hp (by simp)),aL _,xF⟩,c,h.ql,λi p q e1 e2=>let⟨a,b,c,d⟩:=h.opt i p q e1 e2;⟨kz k c a,kz k d b,c,d⟩⟩
def aX.lT{st:HS}(h:aX T n ρ A H st)(g:Gh ρ H)(ep:st.ah[i]?=some p0)(eq:A.qs[i]?=some q0)(e1:p1.nm=p0.nm)(e2:p1.row=p0.row)(nd:(st.ah.map (·.nm)).Nodup):aX T n ρ A (upd H q0.1 (.ins T.part q0.2.1 (dI p1 q0.2.2))) { st with ah:=st.ah.set i p1 }:=by have k:=d_ (o:=.ins T.part q0.2.1 (dI p1 q0.2.2)) g (h.opt i p0 q0 ep eq).2.2.1;obtain⟨vs,h1,h2⟩:=h.sj;obtain⟨AT,k1,k2,k3⟩:=h.okn;exact⟨kz k h.ca h.oa,h.ca,kz k h.jl h.jk,h.jl,by rw[Cf ep e1];exact kz k h.ia h.fE,h.ia,⟨vs,kz k h.jC h1,h2.keep k (by decide)⟩,h.jC,kz k h.jD h.uf,h.jD,kz k h.jF h.jE,h.jF,kz k h.j6 h.jR,h.j6,kz k h.cpu h.lS,h.cpu,kz k h.jG h.oQ,h.jG,⟨AT,kz k h.jH k1,λp hp=>let⟨t,r,e,q⟩:=k2 p hp;⟨t,r,e,k.1 _ _ q⟩,k3⟩,h.jH,by rw[fH];exact h.ql,Zq h k nd ep eq e1 aq (AV (h.opt i p0 q0 ep eq).2.2.1) (by rw[e2])⟩
def aX.Zr{st:HS}(h:aX T n ρ A H st)(g:Gh ρ H)(l:Da Int)(ep:st.ah[i]?=some p0)(eq:A.qs[i]?=some q0)(nd:(st.ah.map (·.nm)).Nodup):aX T n ρ A (upd H q0.2.2 (.lst (l.map V.int))) { st with ah:=st.ah.set i { p0 with row:=l } }:=by have k:=d_ (o:=.lst (l.map V.int)) g (h.opt i p0 q0 ep eq).2.2.2;obtain⟨vs,h1,h2⟩:=h.sj;obtain⟨AT,k1,k2,k3⟩:=h.okn;exact⟨kz k h.ca h.oa,h.ca,kz k h.jl h.jk,h.jl,by show _=some (HO.dK (cY (st.ah.set i { p0 with row:=l }) A.qs));rw[Cf (p1:={ p0 with row:=l }) ep rfl];exact kz k h.ia h.fE,h.ia,⟨vs,kz k h.jC h1,h2.keep k (by decide)⟩,h.jC,kz k h.jD h.uf,h.jD,kz k h.jF h.jE,h.jF,kz k h.j6 h.jR,h.j6,kz k h.cpu h.lS,h.cpu,kz k h.jG h.oQ,h.jG,⟨AT,kz k h.jH k1,λp hp=>let⟨t,r,e,q⟩:=k2 p hp;⟨t,r,e,k.1 _ _ q⟩,k3⟩,h.jH,by rw[fH];exact h.ql,WE h nd ep eq aq (AV (h.opt i p0 q0 ep eq).2.2.2)⟩
structure Txt(K:Fg)(T:TC):Prop where
 cH:qK K T.hold
 cP:qK K T.part
 cB:qK K T.bot
 hpl:f_ K T.hold "places"
 hab:f_ K T.hold "aboard"
 has:f_ K T.hold "ashore"
 hnm:f_ K T.hold "names"
 vS:f_ K T.hold "bottom"
 AW:f_ K T.hold "common"
 AX:f_ K T.hold "purses"
 X6:f_ K T.part "name"
 pow:f_ K T.part "owner"
 xR:f_ K T.part "worth"
 X7:f_ K T.part "weight"
 Ip:f_ K T.part "scale"
 LJ:f_ K T.part "row"
 bst:f_ K T.bot "steps"
 LK:f_ K T.bot "product"
 Ue:f_ K T.bot "known"
structure Wf(st:HS):Prop where
 uO:st.own.Nodup
 zQ:st.nms.Nodup
 fP:(st.ah.map (·.nm)).Nodup
 sub:∀p∈st.ah,p.nm∈st.nms
 rows:∀p∈st.ah,p.row.length=st.own.length
 ow:∀p∈st.ah,p.ow∈st.own
 gf:st.bX.length=st.own.length
 mC:st.bJ.length=st.own.length
 fZ:1<=st.prod
 nR:st.prod=st.stp.foldl (·*·) 1
 sO:∀s∈st.stp,2<=s
 lF:st.own.length<=100
 zR:st.nms.length<=1000
 qQ:st.ah.length<=1000
 AY:st.stp.length<=100
 vU:st.bB.length<=1000
 Iq:st.kn<=1000000
 big:Jm.Sz 8000 st.prod
 pR:∀c∈st.bX,0<=c/\c<=st.prod
 qR:∀p∈st.ah,1<=p.sc/\p.sc<=st.prod
 oF:∀p∈st.ah,∀r∈p.row,-st.prod<=r/\r<=st.prod
 pS:∀p∈st.ah,∀t∈List.zipWith (λr c=>p.sc*r+c) p.row st.bX,0<=t/\t<=st.prod
 jS:∀p∈st.ah,1<=p.wo/\0<=p.we
 GG:∀u∈st.bJ,Jm.Sz 9000 u
structure HH(T:TC)(n:Nat)(ρ:eF)(A:HA)(H:Hp)(st:HS):Prop where
 g:Gh ρ H
 h:aX T n ρ A H st
 wf:Wf st
def xS(T:TC)(n:Nat)(ρ:eF)(A:HA)(H:Hp)(st:HS)(Q:Hp->Prop):Prop:=∀ρ' A' H',HH T n ρ' A' H' st->A'.a=A.a->Fr n ρ H ρ' H'->Q H'
def hs0:HS:=⟨[],[],[],[],[],1,0,[],[]⟩
def wf0:Wf hs0:=by refine⟨xF,xF,xF,?_,?_,?_,Z,Z,?_,Z,?_,?_,?_,?_,?_,?_,?_,?_,?_,?_,?_,?_,?_,?_⟩ <;> first|(intro _ h;exact absurd h (by simp[hs0]))|decide|(show Jm.Sz 8000 1;exact gX (by decide +kernel))
theorem Ql:∀{l:Da Str}{i:Nat}{o:Str},o∈l->eL (gI i l) (Sum.inr o)=some (.int ((i+l.idxOf o:Nat):Int))
 | [],_,_,h=>by simp at h
 | x::l,i,o,h=>by
  by_cases e:x=o
  .subst e;rw[show gI i (x::l)=(Sum.inr x,.int i)::gI (i+1) l from rfl,ir rfl];simp
  .rw [show gI i (x::l)=(Sum.inr x,.int i)::gI (i+1) l from rfl,fM (by intro z;exact e (tP z))];have hm:o∈l:=by
    rcases fm.mp h with z|z
    .exact absurd z.symm e
    .exact z
   rw[Ql hm];have eb:(x==o)=false:=by simpa using e
   have:(x::l).idxOf o=l.idxOf o+1:=by rw[List.idxOf_cons,eb];rfl
   rw[this];show some (V.int ((i+1+l.idxOf o:Nat):Int))=some (V.int ((i+(l.idxOf o+1):Nat):Int));rw[show i+1+l.idxOf o=i+(l.idxOf o+1)from by omega]
theorem qS:∀{l:Da Str}{i:Nat}{o:Str},o∉l->eL (gI i l) (Sum.inr o)=none
 | [],_,_,_=>rfl
 | x::l,i,o,h=>by rw[show gI i (x::l)=(Sum.inr x,.int i)::gI (i+1) l from rfl,fM (λz=>h (by rw[<-tP z];exact cM))];exact qS λm=>h (cQ _ m)
theorem qT:∀(l:Da Str)(i:Nat),(gI i l).length=l.length
 | [],_=>rfl
 | _::l,i=>by rw[show ∀x,gI i (x::l)=(Sum.inr x,.int i)::gI (i+1) l from λ_=>rfl,jf,jf,qT l]
theorem LL:∀(l:Da Str)(i:Nat)(o:Str),gI i (l++[o])=gI i l++[(Sum.inr o,.int ((i+l.length:Nat):Int))]
 | [],i,o=>rfl
 | x::l,i,o=>by
  show(Sum.inr x,V.int i)::gI (i+1) (l++[o])=_;rw[LL l (i+1) o];show _=(Sum.inr x,V.int i)::(gI (i+1) l++_)
  rw[jf,show i+1+l.length=i+(l.length+1)from by omega]
theorem LM:∀(l:Da Str)(i:Nat),(gI i l).map (λp=>kV p.1)=l.map V.str
 | [],_=>rfl
 | x::l,i=>by show kV (Sum.inr x)::(gI (i+1) l).map _=V.str x::l.map V.str;rw[LM l];rfl
variable {qs:Da (Addr×Addr×Addr)}
def yJ{ps:Da Pt}{q:Addr×Addr×Addr}(h1:ps[i]?=some p)(h2:qs[i]?=some q):(cY ps qs)[i]?=some (Sum.inr p.nm,.ref q.1):=by unfold cY;rw[Rn,h1,h2]
def yK{ps:Da Pt}(h:qs.length=ps.length):(cY ps qs).length=ps.length:=by unfold cY;rw[kF,h,zy]
theorem vD:∀{ps:Da Pt}{qs:Da (Addr×Addr×Addr)}{i:Nat}{p:Pt}{q:Addr×Addr×Addr},(ps.map (·.nm)).Nodup->ps[i]?=some p->qs[i]?=some q->eL (cY ps qs) (Sum.inr p.nm)=some (.ref q.1)
 | [],_,_,_,_,_,h,_=>by simp at h
 | _::_,[],_,_,_,_,_,h=>by simp at h
 | a::ps,b::qs,0,p,q,_,h1,h2=>by
  have e1:a=p:=by simpa using h1
  have e2:b=q:=by simpa using h2
  subst e1 e2;exact ir rfl
 | a::ps,b::qs,i+1,p,q,nd,h1,h2=>by
  have nd':=g_.mp (show(a.nm::ps.map (·.nm)).Nodup from nd);have EM:ps[i]?=some p:=by simpa using h1
  rw[show cY (a::ps) (b::qs)=(Sum.inr a.nm,.ref b.1)::cY ps qs from rfl,fM (λz=>nd'.1 (aW.mpr ⟨p,bg EM,(tP z).symm⟩))];exact vD nd'.2 EM (by simpa using h2)
theorem vV:∀{ps:Da Pt}{qs:Da (Addr×Addr×Addr)}{x:Str},(∀p∈ps,p.nm≠x)->eL (cY ps qs) (Sum.inr x)=none
 | [],_,_,_=>rfl
 | _::_,[],_,_=>rfl
 | a::ps,b::qs,x,h=>by rw[show cY (a::ps) (b::qs)=(Sum.inr a.nm,.ref b.1)::cY ps qs from rfl,fM (λz=>h a cM (tP z))];exact vV λp hp=>h p (cQ _ hp)
def WG{ps:Da Pt}(h:qs.length=ps.length)(p:Pt)(q:Addr×Addr×Addr):cY (ps++[p]) (qs++[q])=cY ps qs++[(Sum.inr p.nm,.ref q.1)] :=by unfold cY;rw[List.zipWith_append h.symm];rfl
def AZ{l:Da Str}(h:x∉l):eL (AU l) (Sum.inr x)=none:=by
 unfold AU
 induction l with
 | nil=>rfl
 | cons a l ih=>rw[bK,fM (λz=>h (by rw[<-tP z];exact cM))];exact ih λm=>h (cQ _ m)
def LN{l:Da Str}(h:x∈l):eL (AU l) (Sum.inr x)=some (.bl true):=by
 unfold AU
 induction l with
 | nil=>simp at h
 | cons a l ih=>
  rw[bK];by_cases e:a=x
  .exact ir (by rw[e])
  .rw [fM (λz=>e (tP z))];exact ih ((fm.mp h).resolve_left λz=>e z.symm)
def aX.find{st:HS}(h:aX T n ρ A H st)(e:st.ah[i]?=some p):∃q,A.qs[i]?=some q/\H q.1=some (.ins T.part q.2.1 (dI p q.2.2))/\H q.2.2=some (.lst (p.row.map V.int))/\ρ q.1=some (n,20,p.nm)/\ρ q.2.2=some (n,21,p.nm):=by
 have hi:i<A.qs.length:=by rw[h.ql];exact(dM.mp e).1
 exact⟨A.qs[i],bf hi,h.opt i p _ e (bf hi)⟩
def fu(st:HS)(o:Str):HS:={ st with own:=st.own++[o],bX:=st.bX++[0],bJ:=st.bJ++[0],ah:=st.ah.map λp=>{ p with row:=p.row++[0] } }
def aP(st:HS)(p:Pt):Da Int:=List.zipWith (λr c=>p.sc*r+c) p.row st.bX
def mD(st:HS)(tops:Da Int):Da Int:=List.zipWith (λt c=>t-c) tops st.bX
def zS(st:HS)(p:Pt):HS:={ st with ah:=st.ah++[p],nms:=st.nms++[p.nm] }
def xT(st:HS)(x o:Str)(wo we:Int):HS:=zS st ⟨x,o,wo,we,1,mD st ((List.replicate st.own.length 0).set (st.own.idxOf o) st.prod)⟩
def aI(st:HS):Int:=(st.ah.map (·.wo)).sum
def nc(st:HS)(p:Pt):Da (Str×Rat):=(List.zip st.own (aP st p)).filterMap λx=>if 0<x.2 then some (x.1,Jm.fr x.2 st.prod) else none
def LO(n:Nat)(q1 q2:Addr)(ρ:eF)(H:Hp)(ρ':eF)(H':Hp):Prop:=∀b o,H b=some o->(∀t x,ρ b≠some (n,t,x))->b≠q1->b≠q2->H' b=some o/\ρ' b=ρ b
theorem LO.trans{ρ1 ρ2:eF}(a:LO n q1 q2 ρ H ρ1 H1)(b:Fr n ρ1 H1 ρ2 H2):LO n q1 q2 ρ H ρ2 H2:=λc o h k x y=>by obtain⟨h1,e1⟩:=a c o h k x y;obtain⟨h2,e2⟩:=b c o h1 (by rw[e1];exact k);exact⟨h2,e2.trans e1⟩
def LO.fr{ρ1 ρ2:eF}(b:LO n q1 q2 ρ1 H1 ρ2 H2)(a:Fr n ρ H ρ1 H1)(h1:H q1=none)(h2:H q2=none):Fr n ρ H ρ2 H2:=λc o h k=>by obtain⟨e1,e2⟩:=a c o h k;obtain⟨e3,e4⟩:=b c o e1 (by rw[e2];exact k) (aJ h h1) (aJ h h2);exact⟨e3,e4.trans e2⟩
def isNm(o:Str):Bool:=isName o.cps.toList
inductive abR(T:TC)(vs:Da V)(H:Hp)(Q:VK)(E:XK):Prop
 |mk(p dx:_)(_:vs=[.ref p])(_:H p=some (.ins T.bot dx []))(_:∀sp kn H',H sp=none->H kn=none->sp≠kn->(∀b o,H b=some o->b≠p->H' b=some o)->H' p=some (.ins T.bot dx (zP sp 1 kn))->H' sp=some (.lst [])->H' kn=some (.dK [])->Q .cy H')
def Qm(T:TC):Sp:=bx (abR T)
inductive abS(T:TC)(K:Fg)(vs:Da V)(H:Hp)(Q:VK)(E:XK):Prop
 |mk(p dx l:Addr)(pt:Pt)(_:vs=[.ref p,.str pt.nm,.str pt.ow,.int pt.wo,.int pt.we,.int pt.sc,.ref l])(_:H p=some (.ins T.part dx []))(_:aB K H l (pt.row.map V.int))(_:∀r H',H r=none->(∀b o,H b=some o->b≠p->H' b=some o)->H' p=some (.ins T.part dx (dI pt r))->H' r=some (.lst (pt.row.map V.int))->Q .cy H')
def GH(T:TC)(K:Fg):Sp:=bx (abS T K)
inductive abT(T:TC)(vs:Da V)(H:Hp)(Q:VK)(E:XK):Prop
 |mk(p dx ρ n:_)(_:vs=[.ref p])(_:H p=some (.ins T.hold dx []))(_:Gh ρ H)(_:ρ p=none)(_:∀ρ' A H',A.a=p->HH T n ρ' A H' hs0->(∀b o,H b=some o->b≠p->H' b=some o/\ρ' b=ρ b)->Q .cy H')
def Qn(T:TC):Sp:=bx (abT T)
inductive abU(T:TC)(vs:Da V)(H:Hp)(Q:VK)(E:XK):Prop
 |mk(n ρ A st o:_)(_:vs=[.ref A.a,.str o])(_:aX T n ρ A H st)(_:o∈st.own)(_:Q (.int (st.own.idxOf o:Int)) H)
def vE(T:TC):Sp:=bx (abU T)
inductive Zs(T:TC)(vs:Da V)(H:Hp)(Q:VK)(E:XK):Prop
 |mk(n ρ A st:_)(i:Nat)(p:Pt)(q:Addr×Addr×Addr)(_:vs=[.ref A.a,.str p.nm])(_:aX T n ρ A H st)(_:(st.ah.map (·.nm)).Nodup)(_:st.ah[i]?=some p)(_:A.qs[i]?=some q)(_:Q (.ref q.1) H)
def Dm(T:TC):Sp:=bx (Zs T)
inductive Ug(T:TC)(vs:Da V)(H:Hp)(Q:VK)(E:XK):Prop
 |mk(n ρ A st x:_)(_:vs=[.ref A.a,.str x])(_:aX T n ρ A H st)(_:isNm x=true)(_:x∉st.nms)(_:∀H',aK H H'->Q .cy H')
def EN(T:TC):Sp:=bx (Ug T)
inductive ahN(T:TC)(K:Fg)(vs:Da V)(H:Hp)(Q:VK)(E:XK):Prop
 |mk(n ρ A st l:_)(tops:Da Int)(_:vs=[.ref A.a,.ref l])(_:aX T n ρ A H st)(_:aB K H l (tops.map V.int))(_:tops.length=st.bX.length)(_:tops.length<=1000)(_:∀r H',aK H H'->H r=none->H' r=some (.lst ((mD st tops).map V.int))->Q (.ref r) H')
def RY(T:TC)(K:Fg):Sp:=bx (ahN T K)
inductive abV(T:TC)(vs:Da V)(H:Hp)(Q:VK)(E:XK):Prop
 |mk(n ρ A st:_)(i:Nat)(p:Pt)(q:Addr×Addr×Addr)(_:vs=[.ref A.a,.ref q.1])(_:aX T n ρ A H st)(_:Wf st)(_:st.ah[i]?=some p)(_:A.qs[i]?=some q)(_:∀r H',aK H H'->H r=none->H' r=some (.lst ((aP st p).map V.int))->Q (.ref r) H')
def Cg(T:TC):Sp:=bx (abV T)
inductive aez(T:TC)(vs:Da V)(H:Hp)(Q:VK)(E:XK):Prop
 |mk(n ρ A st:_)(q:Addr×Addr×Addr)(p:Pt)(_:vs=[.ref A.a,.ref q.1])(_:HH T n ρ A H st)(_:H q.1=some (.ins T.part q.2.1 (dI p q.2.2)))(_:H q.2.2=some (.lst (p.row.map V.int)))(_:ρ q.1=none)(_:ρ q.2.2=none)(_:p.nm∉st.nms)(_:Wf (zS st p))(_:∀ρ' A' H',HH T n ρ' A' H' (zS st p:_)->A'.a=A.a->LO n q.1 q.2.2 ρ H ρ' H'->Q .cy H')
def LP(T:TC):Sp:=bx (aez T)
inductive abW(T:TC)(vs:Da V)(H:Hp)(Q:VK)(E:XK):Prop
 |mk(n ρ A st o:_)(_:vs=[.ref A.a,.str o])(_:HH T n ρ A H st)(_:isNm o=true)(_:o∉st.own)(_:st.own.length<100)(_:xS T n ρ A H (fu st o:_) λH'=>Q .cy H')
def Ci(T:TC):Sp:=bx (abW T)
inductive aeA(T:TC)(vs:Da V)(H:Hp)(Q:VK)(E:XK):Prop
 |mk(n ρ A st x o wo we:_)(_:vs=[.ref A.a,.str x,.str o,.int wo,.int we])(_:HH T n ρ A H st)(_:isNm x=true)(_:x∉st.nms)(_:o∈st.own)(_:1<=wo)(_:0<=we)(_:st.nms.length<1000)(_:st.ah.length<1000)(_:xS T n ρ A H (xT st x o wo we:_) λH'=>Q .cy H')
def LQ(T:TC):Sp:=bx (aeA T)
inductive abX(T:TC)(vs:Da V)(H:Hp)(Q:VK)(E:XK):Prop
 |mk(n ρ A st:_)(_:vs=[.ref A.a])(_:aX T n ρ A H st)(_:st.ah.length<=1000)(_:∀H',aK H H'->Q (.int (aI st)) H')
def Cj(T:TC):Sp:=bx (abX T)
inductive abY(T:TC)(vs:Da V)(H:Hp)(Q:VK)(E:XK):Prop
 |mk(bt db sp kn:Addr)(stp:Da Int)(prod top:Int)(_:vs=[.ref bt,.int top])(_:H bt=some (.ins T.bot db (zP sp prod kn)))(_:H sp=some (.lst (stp.map V.int)))(_:prod=stp.foldl (·*·) 1)(_:(∀s∈stp,2<=s))(_:Jm.Sz 8000 prod)(_:∀r H',aK H H'->H' r=some (oE (Jm.fr top prod))->Q (.ref r) H')
def yL(T:TC):Sp:=bx (abY T)
inductive Zt(T:TC)(vs:Da V)(H:Hp)(Q:VK)(E:XK):Prop
 |mk(bt db sp kn:Addr)(stp:Da Int)(prod top:Int)(AT:Da (Key×V))(_:vs=[.ref bt,.int top])(_:H bt=some (.ins T.bot db (zP sp prod kn)))(_:H sp=some (.lst (stp.map V.int)))(_:prod=stp.foldl (·*·) 1)(_:(∀s∈stp,2<=s))(_:Jm.Sz 8000 prod)(_:H kn=some (.dK AT))(_:LH H AT prod)(_:AT.length<10000000)(_:(AT.map (·.1)).Nodup)(_:∀r H' kvs',(∀b o,H b=some o->b≠kn->H' b=some o)->H' kn=some (.dK kvs')->LH H' kvs' prod->kvs'.length<=AT.length+1->(kvs'.map (·.1)).Nodup->H' r=some (oE (Jm.fr top prod))->Q (.ref r) H')
def LR(T:TC):Sp:=bx (Zt T)
def pQ.snoc{l:Da (Str×Rat)}{q:Rat}(h:pQ H vs l)(e:H r=some (.tup [.str x,.ref f]))(e2:H f=some (oE q)):pQ H (vs++[.ref r]) (l++[(x,q)]):=by
 induction h with
 | nil=>exact .cons e e2 .nil
 | cons a b _ ih=>exact .cons a b ih
def sP{p:Addr}{o:HO}(h:H p=none\/∃u,H p=some u/\isTup u=false):∀b xs,H b=some (.tup xs)->upd H p o b=some (.tup xs):=λb xs e=>by
 rw[az (λz=>?_)]
 .exact e
 .rw [z]at e;rcases h with h|⟨u,h,t⟩
  .rw [h]at e;cases e
  .rw [h]at e;cases e;cases t
theorem LS(h:isNm x=true):x.cps.toList.length<=100000:=by unfold isNm isName at h;have:=dN (oz.mp (oz.mp h).1).2;omega
def vW{o:Obj}(e:H d=some (.dK AT))(s:aK (upd H d (.gy o (.dK AT))) H1):aK H (upd H1 d (.dK AT)):=λb u q=>by
 by_cases h:b=d
 .rw [h,e]at q;cases q;rw[h];exact aq
 .rw [az h];exact s b u (by rw[az h];exact q)
def fU{b:Addr}{o:Obj}{u:HO}(e:H d=some (.dK AT))(q:H b=some u)(h:∀k,u ≠ .dK k):upd H d (.gy o (.dK AT)) b=some u:=by rw[az (λz=>by rw[z,e]at q;cases q;exact h _ rfl)];exact q
def sQ{b:Addr}{o:Obj}(e:H d=some (.dK AT))(q:upd H d (.gy o (.dK AT)) b=none):H b=none:=by
 by_cases h:b=d
 .rw [h,aq]at q;cases q
 .rw [az h]at q;exact q
def aK.tups(s:aK H H'):∀b xs,H b=some (.tup xs)->H' b=some (.tup xs):=λb xs h=>s b _ h
def take_snoc{α:Type}{l:Da α}{x:α}(h:l[i]?=some x):l.take (i+1)=l.take i++[x] :=by rw[List.take_add_one,h];rfl
theorem ng{α β γ:Type}(f:α->β->γ){xs:Da α}{ys:Da β}{x:α}{y:β}(h1:xs[i]?=some x)(h2:ys[i]?=some y):List.zipWith f (xs.take (i+1)) (ys.take (i+1))=List.zipWith f (xs.take i) (ys.take i)++[f x y] :=by have l1:=(dM.mp h1).1;have l2:=(dM.mp h2).1;rw[take_snoc h1,take_snoc h2,List.zipWith_append (by rw[uE,uE];omega)];rfl
def gY{v:V}(h:(l.map V.int)[i]?=some v):∃z,v =.int z/\l[i]?=some z:=by rw[bV]at h;obtain⟨z,hz,rfl⟩:=mZ.mp h;exact⟨z,Z,hz⟩
theorem HH.mono{st:HS}(h:HH T n ρ A H st)(s:aK H H'):HH T n ρ A H' st:=⟨h.g.same s,h.h.mono s,h.wf⟩
def LU{o u:HO}(c:ρ a=none)(h:H a=some u)(t:isTup u=false):Kp n ρ ρ H (upd H a o) ts:=⟨sP (.inr ⟨u,h,t⟩),λb x y w _ hc e=>⟨by rw[az (λz=>by rw[z,c]at hc;cases hc)];exact e,hc⟩⟩
def HH.EO{st:HS}{o u:HO}(h:HH T n ρ A H st)(c:ρ a=none)(e:H a=some u)(t:isTup u=false)(t2:isTup o=false):HH T n ρ A (upd H a o) st:=⟨h.g.wr t2,h.h.same (LU c e t),h.wf⟩
def Fr.new{o:HO}(f:Fr n ρ H ρ' H')(h:H a=none):Fr n ρ H ρ' (upd H' a o):=λb u e k=>by rw[az (aJ e h)];exact f b u e k
def A0{α β γ:Type}(f:α->β->γ){xs:Da α}{ys:Da β}(h:xs.length=ys.length)(x:α)(y:β):List.zipWith f (xs++[x]) (ys++[y])=List.zipWith f xs ys++[f x y] :=by rw[List.zipWith_append h];rfl
variable {o:Str}
theorem Ck{st:HS}(w:Wf st)(h:o∉st.own)(hl:st.own.length<100):Wf (fu st o):=by
 have P:∀p∈(fu st o).ah,∃p0∈st.ah,p={ p0 with row:=p0.row++[0] }:=λp hp=>by obtain⟨p0,h0,rfl⟩:=aW.mp (show p∈st.ah.map _ from hp);exact⟨p0,h0,Z⟩
 have p1:=w.fZ;refine⟨?_,w.zQ,?_,λp hp=>?_,λp hp=>?_,λp hp=>?_,?_,?_,w.fZ,w.nR,w.sO,?_,w.zR,?_,w.AY,w.vU,w.Iq,w.big,λc hc=>?_,λp hp=>?_,λp hp r hr=>?_,λp hp t ht=>?_,λp hp=>?_,λu hu=>?_⟩
 .exact nO w.uO h
 .show ((st.ah.map λp=>{ p with row:=p.row++[0] }).map (·.nm)).Nodup;rw[dJ];exact w.fP
 .obtain ⟨p0,h0,rfl⟩:=P p hp;exact w.sub p0 h0
 .obtain ⟨p0,h0,rfl⟩:=P p hp;show(p0.row++[0]).length=(st.own++[o]).length;rw[cW,cW,w.rows p0 h0];rfl
 .obtain ⟨p0,h0,rfl⟩:=P p hp;exact ze _ (w.ow p0 h0)
 .show (st.bX++[0]).length=(st.own++[o]).length;rw[cW,cW,w.gf];rfl
 .show (st.bJ++[0]).length=(st.own++[o]).length;rw[cW,cW,w.mC];rfl
 .show (st.own++[o]).length<=100;rw[cW];exact hl
 .show (st.ah.map _).length<=1000;rw[aE];exact w.qQ
 .rcases c7.mp (show c∈st.bX++[0]from hc)with z|z
  .exact w.pR c z
  .rw [dF.mp z];exact⟨eO _,by show(0:Int)<=st.prod;omega⟩
 .obtain ⟨p0,h0,rfl⟩:=P p hp;exact w.qR p0 h0
 .obtain ⟨p0,h0,rfl⟩:=P p hp;rcases c7.mp (show r∈p0.row++[0]from hr)with z|z
  .exact w.oF p0 h0 r z
  .rw [dF.mp z];show -st.prod<=0/\0<=st.prod;omega
 .obtain ⟨p0,h0,rfl⟩:=P p hp;have el:p0.row.length=st.bX.length:=by rw[w.rows p0 h0,w.gf]
  have ht:t∈List.zipWith (λr c=>p0.sc*r+c) (p0.row++[0]) (st.bX++[0]):=ht;rw[A0 _ el _ _]at ht;rcases c7.mp ht with z|z
  .exact w.pS p0 h0 t z
  .rw [dF.mp z];show 0<=p0.sc*0+0/\p0.sc*0+0<=st.prod;omega
 .obtain ⟨p0,h0,rfl⟩:=P p hp;exact w.jS p0 h0
 .rcases c7.mp (show u∈st.bJ++[0]from hu)with z|z
  .exact w.GG u z
  .rw [dF.mp z];exact gX (by decide +kernel)
def Qo{st:HS}(w:Wf st)(h1:p.nm∉st.nms)(h2:st.nms.length<1000)(h3:st.ah.length<1000)(h4:p.row.length=st.own.length)(h5:p.ow∈st.own)(h6:1<=p.sc/\p.sc<=st.prod)(h7:∀r∈p.row,-st.prod<=r/\r<=st.prod)(h8:∀t∈List.zipWith (λr c=>p.sc*r+c) p.row st.bX,0<=t/\t<=st.prod)(h9:1<=p.wo/\0<=p.we):Wf (zS st p):=by
 have P:∀{M:Pt->Prop},(∀x∈st.ah,M x)->M p->∀x∈st.ah++[p],M x:=λa b x hx=>by
  rcases c7.mp hx with z|z
  .exact a x z
  .rw [dF.mp z];exact b
 refine⟨w.uO,nO w.zQ h1,?_,P (λx hx=>ze _ (w.sub x hx)) (kD _ (dF.mpr rfl)),P w.rows h4,P w.ow h5,w.gf,w.mC,w.fZ,w.nR,w.sO,w.lF,?_,?_,w.AY,w.vU,w.Iq,w.big,w.pR,P w.qR h6,P w.oF h7,P w.pS h8,P w.jS h9,w.GG⟩
 . show((st.ah++[p]).map (·.nm)).Nodup
   rw[bN]
   refine nO w.fP λm=>?_
   obtain⟨x,hx,e⟩:=aW.mp m
   have e:x.nm=p.nm:=e
   exact h1 (by rw[<-e];exact w.sub x hx)
 . show(st.nms++[p.nm]).length<=1000
   rw[cW];exact h2
 . show(st.ah++[p]).length<=1000
   rw[cW];exact h3
theorem vX{α β γ:Type}{f:α->β->γ}{t:γ}:∀{xs:Da α}{ys:Da β},t∈List.zipWith f xs ys->∃x∈xs,∃y∈ys,t=f x y
 | [],_,h=>by simp at h
 | _::_,[],h=>by simp at h
 | x::xs,y::ys,h=>by
  rcases fm.mp (show t∈f x y::List.zipWith f xs ys from h)with e|m
  .exact ⟨x,cM,y,cM,e⟩
  .obtain ⟨a,ha,b,hb,e⟩:=vX m;exact⟨a,cQ _ ha,b,cQ _ hb,e⟩
theorem Dp:∀{ts cs:Da Int},List.zipWith (λr c=>1*r+c) (List.zipWith (λt c=>t-c) ts cs) cs=ts.take cs.length
 | [],_=>by simp
 | _::_,[]=>by simp
 | t::ts,c::cs=>by show(1*(t-c)+c)::List.zipWith _ (List.zipWith _ ts cs) cs=t::ts.take cs.length;rw[Dp];congr 1;omega
def zT{b t:Int}(h:t∈(List.replicate n 0).set i b):t=0\/t=b:=by
 rcases KO h with z|z
 .exact .inl (KP z)
 .exact .inr z
variable {wo we:Int}
theorem Qp{st:HS}(w:Wf st)(h1:x∉st.nms)(h2:st.nms.length<1000)(h3:st.ah.length<1000)(ho:o∈st.own)(h4:1<=wo)(h5:0<=we):Wf (xT st x o wo we):=by
 have p1:=w.fZ;refine Qo w h1 h2 h3 ?_ ho ⟨eO 1,w.fZ⟩ (λr hr=>?_) (λt ht=>?_) ⟨h4,h5⟩
 .show (List.zipWith _ ((List.replicate st.own.length 0).set _ _) st.bX).length=_;rw[kF,fH,jd,w.gf,zy]
 .obtain ⟨t,ht,c,hc,rfl⟩:=vX (show r∈List.zipWith _ _ st.bX from hr);have:=w.pR c hc;rcases zT ht with rfl|rfl <;> omega
 .have e:List.zipWith (λr c=>1*r+c) (mD st ((List.replicate st.own.length 0).set (st.own.idxOf o) st.prod)) st.bX=_:=Dp;have ht:t∈List.zipWith (λr c=>1*r+c) (mD st ((List.replicate st.own.length 0).set (st.own.idxOf o) st.prod)) st.bX:=ht;rw[e]at ht;rcases zT (List.mem_of_mem_take ht)with rfl|rfl <;> omega
def lG{b:Addr}{o u:HO}(h:a≠b):upd (upd H a o) b u=upd (upd H b u) a o:=by
 funext c;unfold upd;by_cases e1:c=b
 .rw [ay e1,av (λz=>h (z.symm.trans e1)),ay e1]
 .rw [av e1];by_cases e2:c=a
  .rw [ay e2,ay e2]
  .rw [av e2,av e2,av e1]
def zU{o:HO}(h:H a=some o):upd H a o=H:=by
 funext c;unfold upd;by_cases e:c=a
 .rw [ay e,e,h]
 .rw [av e]
theorem LV{α:Type}(g:α->α){l:Da α}{p:α}(h:l[i]?=some p):((l.take i).map g++l.drop i)[i]?=some p:=by
 have hi:=(dM.mp h).1;have e:((l.take i).map g).length=i:=by rw[aE,uE];omega
 rw[CH (by omega),e,xG,List.getElem?_drop];exact h
theorem LW{α:Type}(g:α->α){l:Da α}{p:α}(h:l[i]?=some p):((l.take i).map g++l.drop i).set i (g p)=(l.take (i+1)).map g++l.drop (i+1):=by
 have hi:=(dM.mp h).1;have e:((l.take i).map g).length=i:=by rw[aE,uE];omega
 have ep:l[i]=p:=by rw[bf hi]at h;exact gP h
 rw[List.set_append_right _ _ (by omega),e,xG,Rc hi,K1,take_snoc h,bN,K2];rfl
def sR{α β:Type}(g:α->α)(f:α->β)(hf:∀x,f (g x)=f x)(l:Da α)(i:Nat):((l.take i).map g++l.drop i).map f=l.map f:=by rw[bN,dJ,show f ∘ g=f from funext hf,<-bN,List.take_append_drop]
def qp{ps ps':Da Pt}(h:ps.map (·.nm)=ps'.map (·.nm)):cY ps qs=cY ps' qs:=by
 have:∀{ps:Da Pt},cY ps qs=List.zipWith (λ(x:Str) q=>((Sum.inr x:Key),V.ref q.1)) (ps.map (·.nm)) qs:=λ{ps}=>by unfold cY;rw[List.zipWith_map_left]
 rw[this,this,h]
structure j7(p:Addr)(H:Hp)(ρ:eF)(H':Hp)(ρ':eF)(l:Da (Addr×HO×qP)):Prop where
 m:∀e∈l,H' e.1=some e.2.1/\ρ' e.1=some e.2.2/\e.1≠p
 k:∀b o,H b=some o->b≠p->H' b=some o/\ρ' b=ρ b
 g:Gh ρ' H'
 pp:∃u,H' p=some u
def j7.new{p:Addr}{l:Da (Addr×HO×qP)}{o:HO}{c:qP}(h:j7 p H ρ H' ρ' l)(ha:H' a=none)(t:isTup o=false):j7 p H ρ (upd H' a o) (bY ρ' a c) ((a,o,c)::l):=by
 obtain⟨u,hu⟩:=h.pp;refine⟨λe he=>?_,λb w hb hp=>?_,(h.g.alloc ha).color aq t,u,by rw[az (aJ hu ha)];exact hu⟩
 .rcases fm.mp he with rfl|he
  .exact ⟨aq,cX,λz=>by rw[show a=p from z,hu]at ha;cases ha⟩
  .obtain ⟨x,y,z⟩:=h.m e he;have:e.1≠a:=aJ x ha;rw[az this,b8 this];exact⟨x,y,z⟩
 .obtain ⟨x,y⟩:=h.k b w hb hp;have:b≠a:=aJ x ha;rw[az this,b8 this];exact⟨x,y⟩
theorem j7.wr{p:Addr}{l:Da (Addr×HO×qP)}{u:HO}(h:j7 p H ρ H' ρ' l)(t:isTup u=false):j7 p H ρ (upd H' p u) ρ' l:=by
 refine⟨λe he=>?_,λb w hb hp=>?_,h.g.wr t,u,aq⟩
 .obtain ⟨x,y,z⟩:=h.m e he;rw[az z];exact⟨x,y,z⟩
 .obtain ⟨x,y⟩:=h.k b w hb hp;rw[az hp];exact⟨x,y⟩
theorem j7.same{p:Addr}{ER:Hp}{l:Da (Addr×HO×qP)}(h:j7 p H ρ H' ρ' l)(s:aK H' ER):j7 p H ρ ER ρ' l:=by obtain⟨u,hu⟩:=h.pp;exact⟨λe he=>let⟨x,y,z⟩:=h.m e he;⟨s _ _ x,y,z⟩,λb w hb hp=>let⟨x,y⟩:=h.k b w hb hp;⟨s _ _ x,y⟩,h.g.same s,u,s _ _ hu⟩
def j7.add{p:Addr}{H0:Hp}{ρ0:eF}{l l0:Da (Addr×HO×qP)}{o:HO}{c:qP}(h:j7 p H ρ H' ρ' l)(ha:H' a=some o)(t:isTup o=false)(h0:j7 p H ρ H0 ρ0 l0)(hn:H0 a=none)(hl:∀e∈l,e.1≠a):j7 p H ρ H' (bY ρ' a c) ((a,o,c)::l):=by
 refine⟨λe he=>?_,λb w hb hp=>?_,h.g.color ha t,h.pp⟩
 .rcases fm.mp he with rfl|he
  .obtain ⟨u,hu⟩:=h0.pp;exact⟨ha,cX,λz=>by rw[show a=p from z,hu]at hn;cases hn⟩
  .obtain ⟨x,y,z⟩:=h.m e he;rw[b8 (hl e he)];exact⟨x,y,z⟩
 .obtain ⟨x,y⟩:=h.k b w hb hp;obtain⟨x0,_⟩:=h0.k b w hb hp;rw[b8 (aJ x0 hn)];exact⟨x,y⟩
theorem LX:∀(l:Da Int)(a:Int),l.foldl (·*·) a=a*l.foldl (·*·) 1
 | [],a=>by simp
 | s::l,a=>by rw[jV,LX l (a*s),jV,LX l (1*s),Int.one_mul,iR]
def GI(s:Int)(l:Da Int):(s::l).foldl (·*·) 1=s*l.foldl (·*·) 1:=by rw[jV,LX,Int.one_mul]
def Zu(s:Int)(l:Da Int):(l++[s]).foldl (·*·) 1=l.foldl (·*·) 1*s:=by rw[Gu];rfl
theorem LY:∀{l:Da Int},(∀s∈l,2<=s)->1<=l.foldl (·*·) 1
 | [],_=>by decide
 | s::l,h=>by rw[GI];have h1:=h s cM;have h2:=LY (l:=l) λx hx=>h x (cQ _ hx);have:=Int.mul_le_mul (a:=1) (b:=1) (c:=s) (d:=l.foldl (·*·) 1) (by omega) h2 (by decide) (by omega);omega
theorem X8:∀{l:Da Int}{s:Int},(∀s∈l,2<=s)->s∈l->s<=l.foldl (·*·) 1
 | [],_,_,h=>by simp at h
 | a::l,s,h,m=>by
  rw[GI];have h1:=h a cM;have h2:=LY (l:=l) λx hx=>h x (cQ _ hx);rcases fm.mp m with rfl|m
  .have:=HW h2 (by omega:0<=s);omega
  .have h3:=X8 (λx hx=>h x (cQ _ hx)) m;have:=PN (by omega:1<=a) (by omega:0<=l.foldl (·*·) 1);omega
theorem Uh{t d s:Int}(hd:0<d)(hs:0<s)(c:Jm.cf t d=1):Jm.cf (t / Jm.cf t s) (d*(s / Jm.cf t s))=1/\0<d*(s / Jm.cf t s):=by
 have gp:0<Jm.cf t s:=Jm.Es t s (.inr hs);obtain⟨u,hu⟩:=Jm.tT t s;obtain⟨v,hv⟩:=Jm.qM t s;generalize eg:Jm.cf t s=g at *;have e1:t / g=u:=by rw[hu,Gi _ (by omega)]
 have e2:s / g=v:=by rw[hv,Gi _ (by omega)]
 have vp:0<v:=by
  rcases Ed 0 v with z|z
  .exact z
  .have:=HW z (by omega:0<=g);omega
 rw[e1,e2];have c0:Nat.Coprime t.natAbs d.natAbs:=by unfold Jm.cf at c;exact_mod_cast c
 have c1:Nat.Coprime u.natAbs d.natAbs:=Nat.Coprime.coprime_dvd_left ⟨g.natAbs,by rw[hu,D5,Nat.mul_comm]⟩ c0;have c2:Nat.Coprime u.natAbs v.natAbs:=by
  have hg:Int.gcd t s=g.natAbs:=by unfold Jm.cf at eg;omega
  have X_:Nat.gcd t.natAbs s.natAbs=g.natAbs:=hg;have:=Nat.coprime_div_gcd_div_gcd (m:=t.natAbs) (n:=s.natAbs) (by rw[X_];omega);rw[X_]at this;have gn:0<g.natAbs:=by omega
  rw[hu,hv,D5,D5,Nat.mul_div_cancel_left _ gn,Nat.mul_div_cancel_left _ gn]at this;exact this
 refine⟨?_,xK hd vp⟩;have:=Nat.Coprime.mul_right c1 c2;rw[<-D5]at this;unfold Jm.cf;exact_mod_cast this
def WH{κ:Type}[DecidableEq κ]{AT:Da (κ×V)}{k:κ}{v:V}(h:eL AT k=some v):(k,v)∈AT:=by unfold eL at h;obtain⟨p,hp,rfl⟩:=mZ.mp h;have:=List.find?_some hp;have e:p.1=k:=dN this;rw[<-e];exact List.mem_of_find?_eq_some hp
def aX.WI{st:HS}(h:aX T n ρ A H st)(k:∀b o,H b=some o->b≠A.kn->H' b=some o)(e1:H' A.kn=some (.dK AT))(e2:LH H' AT st.prod)(e3:AT.length<=m)(e4:(AT.map (·.1)).Nodup):aX T n ρ A H' { st with kn:=m }:=by
 obtain⟨kv0,k0,_⟩:=h.okn;have z:=λ{b:Addr}{t:Nat}{x:Str}{o:HO}(u:t≠9)(c:ρ b=some (n,t,x))(e:H b=some o)=>k b o e (EK c h.jH (λw=>by cases w;exact u rfl));have tp:∀b xs,H b=some (.tup xs)->H' b=some (.tup xs):=λb xs e=>k b _ e (jP e k0 (by intro w;cases w));obtain⟨vs,h1,h2⟩:=h.sj;have kp:Kp n ρ ρ H H' λt=>decide (t≠9):=⟨tp,λb t x o u c e=>⟨z (dN u) c e,c⟩⟩
 exact⟨z (by decide) h.ca h.oa,h.ca,z (by decide) h.jl h.jk,h.jl,z (by decide) h.ia h.fE,h.ia,⟨vs,z (by decide) h.jC h1,h2.keep kp (by decide)⟩,h.jC,z (by decide) h.jD h.uf,h.jD,z (by decide) h.jF h.jE,h.jF,z (by decide) h.j6 h.jR,h.j6,z (by decide) h.cpu h.lS,h.cpu,z (by decide) h.jG h.oQ,h.jG,⟨AT,e1,e2,e3,e4⟩,h.jH,h.ql,
  λi p q a b=>let⟨x,y,c,d⟩:=h.opt i p q a b;⟨z (by decide) c x,z (by decide) d y,c,d⟩⟩
def aeB{st:HS}(w:Wf st)(h:m<=1000000):Wf { st with kn:=m }:=⟨w.uO,w.zQ,w.fP,w.sub,w.rows,w.ow,w.gf,w.mC,w.fZ,w.nR,w.sO,w.lF,w.zR,w.qQ,w.AY,w.vU,h,w.big,w.pR,w.qR,w.oF,w.pS,w.jS,w.GG⟩
theorem mL.length{l:Da lq}(h:mL n ρ H vs l):vs.length=l.length:=by
 induction h with
 | nil=>rfl
 | cons _ _ _ _ _ ih=>simp[ih]
def mL.get{l:Da lq}(h:mL n ρ H vs l):∀{i:Nat}{x:V},vs[i]?=some x->∃r q y ss,x =.ref r/\l[i]?=some y/\H r=some (.tup [.str y.nm,.str y.ow,.int y.wo,.ref q])/\H q=some (.lst ss)/\ρ q=some (n,30,⟨#[]⟩)/\pQ H ss y.sh:=by
 induction h with
 | nil=>intro i x e;simp at e
 | @cons r q y ss vs as a b c d _ ih=>
  intro i x e;cases i with
  | zero=>simp at e;subst e;exact⟨r,q,y,ss,Z,Z,a,b,c,d⟩
  | succ i=>simp at e;obtain⟨r',q',y',ss',e1,e2,e3⟩:=ih e;exact⟨r',q',y',ss',e1,by simpa using e2,e3⟩
def Sq(K:Fg)(H:Hp)(r:Addr)(xs:Da V):Prop:=aB K H r xs\/dU K H r xs
def aK.sq(g:aK H H')(h:Sq K H r xs):Sq K H' r xs:=h.elim (λz=> .inl (g.seq z)) λz=> .inr (g.tup z)
structure yM(K:Fg)(H:Hp)(us:Da V)(ps:Da Pt):Prop where
 len:us.length=ps.length
 at_:∀(i:Nat)(p:Pt),ps[i]?=some p->∃r xs,us[i]?=some (.ref r)/\Sq K H r xs/\xs[0]?=some (.str p.nm)/\xs[1]?=some (.str p.ow)/\xs[2]?=some (.int p.wo)/\xs[3]?=some (.int p.we)
def yM.mono{us:Da V}{ps:Da Pt}(h:yM K H us ps)(g:aK H H'):yM K H' us ps:=⟨h.len,λi p e=>let⟨r,xs,a,b,c⟩:=h.at_ i p e;⟨r,xs,a,g.sq b,c⟩⟩
def nh(own:Da Str)(tops:Da Int)(b:Int):Da (Str×Rat):=(List.zip own tops).filterMap λx=>if 0<x.2 then some (x.1,Jm.fr x.2 b) else none
def WJ(x:Str):Prop:=qO x.cps.toList
def RZ:∀i:Fin 26,EB "abcdefghijklmnopqrstuvwxyz" (97+i.val)=true:=by decide +kernel
theorem WJ.isNm(h:WJ x):L2.isNm x=true:=by unfold L2.isNm isName;have h1:=h.lo;have h2:=h.hi;refine oz.mpr ⟨oz.mpr ⟨bR (by omega),bR (by omega)⟩,qD.mpr λc hc=>?_⟩;have h3:=h.Zl c hc;have:=RZ ⟨c-97,by omega⟩;rw[show 97+(c-97)=c from by omega]at this;exact this
inductive abZ(T:TC)(K:Fg)(vs:Da V)(H:Hp)(Q:VK)(E:XK):Prop
 |mk(l:Addr)(own:Da Str)(n:Nat)(ρ:eF)(_:vs=[.ref l])(_:aB K H l (own.map V.str))(_:ρ l=none)(_:own.Nodup)(_:(∀o∈own,isNm o=true))(_:own.length<=100)(_:Gh ρ H)(_:∀ρ' A H',HH T n ρ' A H' (own.foldl fu hs0)->Fr n ρ H ρ' H'->Q (.ref A.a) H')
def Qq(T:TC)(K:Fg):Sp:=bx (abZ T K)
theorem ug:∀(l:Da Str)(st:HS),(l.foldl fu st).own=st.own++l
 | [],st=>by simp
 | o::l,st=>by rw[jV,ug l];show(st.own++[o])++l=_;rw[K2];rfl
def iU(K:Fg)(hK:X.K=K:=by rfl):An X (rIx K):=hK▸aa9
def Sq.ix{v:V}(h:Sq K H r xs)(e:xs[i]?=some v)(q:Q v H):rIx K (.ref r) (.int (i:Int)) H Q:=by
 rcases h with h|h
 .exact .inl ⟨r,xs,i,v,Z,Z,h,aC e,q⟩
 .exact .inr (.inl ⟨r,xs,i,v,Z,Z,h,aC e,q⟩)
def Fr.at(f:Fr n ρ H ρ' H'){b:Addr}{o:HO}(e:H b=some o)(c:ρ b=none):H' b=some o/\ρ' b=none:=by obtain⟨a,d⟩:=f b o e (λt x=>by rw[c];intro z;cases z);exact⟨a,d.trans c⟩
def Fr.seq(f:Fr n ρ H ρ' H'){l:Addr}(h:aB K H l xs)(c:ρ l=none):aB K H' l xs:=by
 rcases h with(h|⟨o,h⟩)|h
 .exact .inl (.inl (f.at h c).1)
 .exact .inl (.inr ⟨o,(f.at h c).1⟩)
 .exact .inr h
theorem Fr.tup{n:Nat}{ρ ρ':eF}{H H':Hp}(f:Fr n ρ H ρ' H')(g:Gh ρ H):∀b xs,H b=some (.tup xs)->H' b=some (.tup xs):=λb xs e=>(f.at e (g.tup e)).1
def ES(nss:Da (Da Nat)):Da Str:=nss.map tx
def Zv(nss:Da (Da Nat)):ue nss=(ES nss).map V.str:=by unfold ue ES;rw[dJ];rfl
def Ir(h:nss.Nodup):(ES nss).Nodup:=by unfold ES;exact List.Pairwise.map tx (λa b hab e=>hab (T4 e)) h
def Ui(h:∀x∈nss,qO x):∀o∈ES nss,WJ o:=λo ho=>by obtain⟨x,hx,rfl⟩:=aW.mp ho;show qO (tx x).cps.toList;rw[show(tx x).cps.toList=x from by simp];exact h x hx
def Qs(nss:Da (Da Nat)):(ES nss).length=nss.length:=by unfold ES;rw[aE]
def WK(x:Str)(l:Da Str):Ic (.str x) (l.map V.str)=decide (x∈l):=by
 have:=Qh x.cps.toList (l.map λy=>y.cps.toList);rw[LC]at this;rw[show ue (l.map λy=>y.cps.toList)=l.map V.str from by unfold ue;rw[dJ];congr 1;]at this;rw[this];congr 1;refine propext ⟨λm=>?_,λm=>aW.mpr ⟨x,m,Z⟩⟩;obtain⟨y,hy,e⟩:=aW.mp m;have:tx y.cps.toList=tx x.cps.toList:=by rw[e]
 rw[LC,LC]at this;rw[<-this];exact hy
def Uj(l:Da Str):(l.map V.str).all tS=true:=by rw[List.all_map];exact qD.mpr λ_ _=>rfl
theorem Dq{l:Da Str}{d:Int}(h0:0<=d)(h1:d<(l.length:Int)):∃(j:Nat)(o:Str),d=(j:Int)/\l[j]?=some o/\lP (l.map V.str) d=some (.str o):=by
 obtain⟨j,rfl⟩:∃j:Nat,d=(j:Int):=⟨d.toNat,by omega⟩
 have hj:j<l.length:=by omega
 exact⟨j,l[j],Z,bf hj,aC (by rw[bV,bf hj];rfl)⟩
section
variable {T:TC}{n:Nat}{L H:Hp}{x lp:Addr}{st:HS}{ps:Da Pt}
end
def kP{α:Type}{l:Da α}(nd:l.Nodup){x:α}(h:l[i]?=some x):x∉l.take i:=λm=>by have h2:(l.take (i+1)).Nodup:=nd.sublist (List.take_sublist _ _);rw[take_snoc h]at h2;exact(List.nodup_append.mp h2).2.2 x m x (dF.mpr rfl) rfl
abbrev Row:=Str×Int
def ym(r:Row):HO:=.tup [.str r.1,.int r.2]
inductive gC(H:Hp):Da V->Da Row->Prop
 | nil:gC H [] []
 | cons {a:Addr} {r:Row} {vs:Da V} {rs:Da Row}:H a=some (ym r)->gC H vs rs->gC H (.ref a::vs) (r::rs)
def gC.mono{l:Da Row}(h:gC H vs l)(g:∀b xs,H b=some (.tup xs)->H' b=some (.tup xs)):gC H' vs l:=by
 induction h with
 | nil=>exact .nil
 | cons a _ ih=>exact .cons (g _ _ a) ih
theorem gC.length{l:Da Row}(h:gC H vs l):vs.length=l.length:=by
 induction h with
 | nil=>rfl
 | cons _ _ ih=>simp[ih]
def gC.get{l:Da Row}(h:gC H vs l):∀{i:Nat}{x:V},vs[i]?=some x->∃a r,x =.ref a/\l[i]?=some r/\H a=some (ym r):=by
 induction h with
 | nil=>intro i x e;simp at e
 | @cons a r vs rs e0 _ ih=>
  intro i x e;cases i with
  | zero=>simp at e;subst e;exact⟨a,r,Z,Z,e0⟩
  | succ i=>simp at e;obtain⟨a',r',e1,e2,e3⟩:=ih e;exact⟨a',r',e1,by simpa using e2,e3⟩
def gC.snoc{l:Da Row}{r:Row}(h:gC H vs l)(e:H a=some (ym r)):gC H (vs++[.ref a]) (l++[r]):=by
 induction h with
 | nil=>exact .cons e .nil
 | cons a _ ih=>exact .cons a ih
def iM(rs:Da Row):Da (Key×V):=rs.map λr=>((Sum.inr r.1:Key),V.int r.2)
def zV(rs:Da Row):(iM rs).length=rs.length:=by unfold iM;rw[aE]
variable {rs:Da Row}
def Iu(h:x∉rs.map (·.1)):eL (iM rs) (Sum.inr x)=none:=by
 unfold iM
 induction rs with
 | nil=>rfl
 | cons a l ih=>rw[bK,fM (λz=>h (by rw[bK,<-tP z];exact cM))];exact ih λm=>h (by rw[bK];exact cQ _ m)
def bF(rs:Da Row):Int:=(rs.map (·.2)).sum
def cO(st:HS)(x:Str):Pt:=(st.ah.find? λp=>decide (p.nm=x)).getD ⟨x,x,0,0,1,[]⟩
def Qt{st:HS}(nd:(st.ah.map (·.nm)).Nodup)(h:st.ah[i]?=some p):cO st p.nm=p:=by
 unfold cO;have:st.ah.find? (λq=>decide (q.nm=p.nm))=some p:=by
  generalize st.ah=ps at *
  induction ps generalizing i with
  | nil=>simp at h
  | cons a ps ih=>
   obtain⟨h1,h2⟩:=g_.mp (show(a.nm::ps.map (·.nm)).Nodup from nd);cases i with
   | zero=>
    have:a=p:=by simpa using h
    subst this;rw[qG,bR rfl]
   | succ i=>
    have h':ps[i]?=some p:=by simpa using h
    rw[qG,c9 (λe=>h1 (aW.mpr ⟨p,bg h',e.symm⟩))];exact ih h2 h'
 rw[this];rfl
def kI(st:HS)(sums:Da Int)(r:Row):Da Int:=List.zipWith (λold own=>old+(r.2*(cO st r.1).sc)*own) sums (cO st r.1).row
def gD(st:HS)(rs:Da Row):Da Int:=rs.foldl (kI st) (st.bX.map λc=>bF rs*c)
def qU(s:Int)(ts:Da Int):Int:=ts.foldl (λs t=>Jm.cf t s) s
def jr(st:HS)(kept:Int):Da Int:=st.ah.map λp=>p.sc*kept
def gJ(st:HS)(kept:Int)(added:Da Int):Da Int:=List.zipWith (λt m=>t*kept+m) st.bX added
def cA(st:HS)(kept whole:Int)(added:Da Int):Int:=qU whole (jr st kept++gJ st kept added)
def f7(st:HS)(s:Int):HS:=if 1<s then{ st with stp:=st.stp++[s],prod:=st.prod*s,kn:=0 } else st
def bu(st:HS)(kept whole:Int)(added:Da Int):HS:=f7 { st with ah:=st.ah.map (λp=>{ p with sc:=p.sc*kept / cA st kept whole added }),bX:=(gJ st kept added).map (· / cA st kept whole added),bJ:=st.bJ.map (·*(whole / cA st kept whole added)) } (whole / cA st kept whole added)
def j8(ps:Da Pt)(x:Str)(a:Int):Da Pt:=(ps.map λp=>if p.nm=x then{ p with wo:=p.wo-a } else p).filter λp=>decide (p.wo≠0)
def eU(st:HS)(r:Row):HS:={ st with ah:=j8 st.ah r.1 r.2 }
def gQ(st:HS)(rs:Da Row):HS:=rs.foldl eU (bu st (aI st-bF rs) (aI st) (gD st rs))
inductive ahO(vs:Da V)(H:Hp)(Q:VK)(E:XK):Prop
 |mk(a:Int)(_:vs=[.int a])(_:1<=a)(_:Q .cy H)
def aeC:Sp:=bx (ahO)
inductive ahP(vs:Da V)(H:Hp)(Q:VK)(E:XK):Prop
 |mk(m a:Int)(_:vs=[.int m,.int a])(_:1<=a)(_:a<=m)(_:Q .cy H)
def Yb:Sp:=bx (ahP)
inductive aeD(K:Fg)(vs:Da V)(H:Hp)(Q:VK)(E:XK):Prop
 |mk(l:Addr)(us:Da V)(rs:Da Row)(_:vs=[.ref l])(_:aB K H l us)(_:gC H us rs)(_:(rs.map (·.1)).Nodup)(_:rs≠[])(_:rs.length<=1000)(_:∀d H',aK H H'->H d=none->H' d=some (.dK (iM rs))->Q (.ref d) H')
def Uk(K:Fg):Sp:=bx (aeD K)
inductive aeE(K:Fg)(vs:Da V)(H:Hp)(Q:VK)(E:XK):Prop
 |mk(s:Int)(l:Addr)(ts:Da Int)(_:vs=[.int s,.ref l])(_:aB K H l (ts.map V.int))(_:0<=s)(_:(∀t∈ts,0<=t))(_:Q (.int (qU s ts)) H)
def Ul(K:Fg):Sp:=bx (aeE K)
inductive aeF(T:TC)(vs:Da V)(H:Hp)(Q:VK)(E:XK):Prop
 |mk(n ρ A st s:_)(_:vs=[.ref A.bt,.int s])(_:Gh ρ H)(_:aX T n ρ A H st)(_:st.stp.length<=1000)(_:Jm.Sz 9000 st.prod)(_:Jm.Sz 9000 s)(_:∀ρ' A' H',Gh ρ' H'->aX T n ρ' A' H' (f7 st s:_)->A'.a=A.a->Fr n ρ H ρ' H'->Q .cy H')
def Um(T:TC):Sp:=bx (aeF T)
inductive ab0(T:TC)(vs:Da V)(H:Hp)(Q:VK)(E:XK):Prop
 |mk(n ρ A st:_)(d:Addr)(rs:Da Row)(_:vs=[.ref A.a,.ref d])(_:aX T n ρ A H st)(_:Wf st)(_:H d=some (.dK (iM rs)))(_:ρ d=none)(_:rs.length<=1000)(_:(∀r∈rs,Jm.Sz 60 r.2/\∃p∈st.ah,p.nm=r.1))(_:∀l H',aK H H'->H l=none->H' l=some (.lst ((gD st rs).map V.int))->Q (.ref l) H')
def Qu(T:TC):Sp:=bx (ab0 T)
inductive ab1(T:TC)(K:Fg)(vs:Da V)(H:Hp)(Q:VK)(E:XK):Prop
 |mk(n ρ A st:_)(kept whole:Int)(l:Addr)(added:Da Int)(_:vs=[.ref A.a,.int kept,.int whole,.ref l])(_:HH T n ρ A H st)(_:aB K H l (added.map V.int))(_:added.length=st.bX.length)(_:0<kept)(_:0<whole)(_:Jm.Sz 60 kept)(_:Jm.Sz 60 whole)(_:(∀m∈added,0<=m/\Jm.Sz 8900 m))(_:(∀u∈st.bJ,Jm.Sz 8900 u))(_:st.stp.length<100)(_:Wf (bu st kept whole added))(_:xS T n ρ A H (bu st kept whole added:_) λH'=>Q .cy H')
def GJ(T:TC)(K:Fg):Sp:=bx (ab1 T K)
inductive aeG(T:TC)(vs:Da V)(H:Hp)(Q:VK)(E:XK):Prop
 |mk(n ρ A st:_)(r:Row)(_:vs=[.ref A.a,.str r.1,.int r.2])(_:HH T n ρ A H st)(_:(∃p∈st.ah,p.nm=r.1/\r.2<=p.wo))(_:Wf (eU st r))(_:xS T n ρ A H (eU st r:_) λH'=>Q .cy H')
def LZ(T:TC):Sp:=bx (aeG T)
structure nj(st:HS)(rs:Da Row):Prop where
 nd:(rs.map (·.1)).Nodup
 ne:rs≠[]
 len:rs.length<=1000
 row:∀r∈rs,1<=r.2/\Jm.Sz 60 r.2/\∃p∈st.ah,p.nm=r.1/\r.2<=p.wo
 lost:bF rs<aI st
 big:Jm.Sz 60 (aI st)
 prod:Jm.Sz 7900 st.prod
 bJ:∀u∈st.bJ,Jm.Sz 8900 u
 stp:st.stp.length<100
inductive aeH(T:TC)(K:Fg)(vs:Da V)(H:Hp)(Q:VK)(E:XK):Prop
 |mk(n ρ A st:_)(l:Addr)(us:Da V)(rs:Da Row)(_:vs=[.ref A.a,.ref l])(_:HH T n ρ A H st)(_:aB K H l us)(_:gC H us rs)(_:nj st rs)(_:xS T n ρ A H (gQ st rs:_) λH'=>Q .cy H')
def L0(T:TC)(K:Fg):Sp:=bx (aeH T K)
theorem Dr:∀{ps:Da Pt}{qs:Da (Addr×Addr×Addr)}{i:Nat}{p:Pt},(ps.map (·.nm)).Nodup->qs.length=ps.length->ps[i]?=some p->nN (cY ps qs) (Sum.inr p.nm)=cY (ps.eraseIdx i) (qs.eraseIdx i)
 | [],_,_,_,_,_,h=>by simp at h
 | _::_,[],_,_,_,hl,_=>by simp at hl
 | a::ps,b::qs,0,p,nd,hl,h=>by
  have e:a=p:=by simpa using h
  subst e;obtain⟨h1,h2⟩:=g_.mp (show(a.nm::ps.map (·.nm)).Nodup from nd);show nN ((Sum.inr a.nm,V.ref b.1)::cY ps qs) (Sum.inr a.nm)=cY ps qs;unfold nN;rw[fX,av (by simp)];refine AD.mpr λkv hkv=>?_;unfold cY at hkv;obtain⟨x,hx,y,hy,rfl⟩:=vX hkv;exact bR λz=>h1 (aW.mpr ⟨x,hx,tP z⟩)
 | a::ps,b::qs,i+1,p,nd,hl,h=>by
  obtain⟨h1,h2⟩:=g_.mp (show(a.nm::ps.map (·.nm)).Nodup from nd);have h':ps[i]?=some p:=by simpa using h
  have ih:=Dr h2 (by simpa using hl) h';show nN ((Sum.inr a.nm,V.ref b.1)::cY ps qs) (Sum.inr p.nm)=(Sum.inr a.nm,V.ref b.1)::cY (ps.eraseIdx i) (qs.eraseIdx i);rw[<-ih];unfold nN;have hne:¬ (Sum.inr a.nm:Key)=Sum.inr p.nm:=λz=>h1 (aW.mpr ⟨p,bg h',(tP z).symm⟩);rw[fX,ay (by simpa using λe:a.nm=p.nm=>hne (by rw[e]))]
theorem L1:∀{ps:Da Pt}{i:Nat}{p:Pt}{a:Int},(ps.map (·.nm)).Nodup->(∀q∈ps,q.wo≠0)->ps[i]?=some p->j8 ps p.nm a=if p.wo-a=0 then ps.eraseIdx i else ps.set i { p with wo:=p.wo-a }
 | [],_,_,_,_,_,h=>by simp at h
 | x::ps,0,p,a,nd,hw,h=>by
  have e:x=p:=by simpa using h
  subst e;obtain⟨h1,h2⟩:=g_.mp (show(x.nm::ps.map (·.nm)).Nodup from nd);have Cl:j8 ps x.nm a=ps:=by
   unfold j8;rw[show(ps.map λp=>if p.nm=x.nm then{ p with wo:=p.wo-a } else p)=ps from by
    conv=>rhs;rw[<-List.map_id ps]
    exact qA λy hy=>av λz=>h1 (aW.mpr ⟨y,hy,z⟩)]
   exact AD.mpr λy hy=>bR (hw y (cQ _ hy))
  show((x::ps).map λp=>if p.nm=x.nm then{ p with wo:=p.wo-a } else p).filter _=_;rw[bK,ay rfl,fX];by_cases c:x.wo-a=0
  .rw [ay c,av (by simp[c])];exact Cl
  .rw [av c,ay (by simpa using c)];show _::j8 ps x.nm a=_;rw[Cl];rfl
 | x::ps,i+1,p,a,nd,hw,h=>by
  obtain⟨h1,h2⟩:=g_.mp (show(x.nm::ps.map (·.nm)).Nodup from nd);have h':ps[i]?=some p:=by simpa using h
  have ih:=L1 (a:=a) h2 (λq hq=>hw q (cQ _ hq)) h';have xn:¬ x.nm=p.nm:=λz=>h1 (aW.mpr ⟨p,bg h',z.symm⟩);show((x::ps).map λq=>if q.nm=p.nm then{ q with wo:=q.wo-a } else q).filter _=_;rw[bK,av xn,fX,ay (bR (hw x cM))];show x::j8 ps p.nm a=_;rw[ih];by_cases c:p.wo-a=0
  .rw [ay c,ay c];rfl
  .rw [av c,av c];rfl
theorem nq{α:Type}:∀{l:Da α}{i:Nat}{x:α},l[i]?=some x->l.set i x=l
 | [],_,_,h=>by simp at h
 | a::l,0,x,h=>by
  have:a=x:=by simpa using h
  rw[this];rfl
 | a::l,i+1,x,h=>by rw[K0,nq (by simpa using h)]
def A8{α β:Type}{l:Da α}{m:Da β}{x:α}{y:β}(h1:(l.eraseIdx i)[j]?=some x)(h2:(m.eraseIdx i)[j]?=some y):∃k:Nat,l[k]?=some x/\m[k]?=some y:=by
 rw[List.getElem?_eraseIdx]at h1 h2;by_cases c:j<i
 .rw [ay c]at h1 h2;exact⟨j,h1,h2⟩
 .rw [av c]at h1 h2;exact⟨j+1,h1,h2⟩
theorem A_:∀(ts:Da Int)(s:Int),qU s ts∣s/\∀t∈ts,qU s ts∣t
 | [],s=>⟨Int.dvd_refl _,λ_ h=>absurd h (by simp)⟩
 | t::ts,s=>by
  obtain⟨h1,h2⟩:=A_ ts (Jm.cf t s);refine⟨Int.dvd_trans h1 (Jm.qM t s),λu hu=>?_⟩;rcases fm.mp hu with rfl|hu
  .exact Int.dvd_trans h1 (Jm.tT u s)
  .exact h2 u hu
theorem Ba:∀(ts:Da Int)(s:Int),0<s->0<qU s ts
 | [],_,h=>h
 | t::ts,s,h=>Ba ts _ (Jm.Es t s (.inr h))
def Bb{st:HS}{o:HO}(h:aX T n ρ A H st)(g:Gh ρ H)(c:ρ a=none)(e:H a=some o)(ht:isTup o=false):aX T n (bY ρ a (n,t,⟨#[]⟩)) A H st/\Gh (bY ρ a (n,t,⟨#[]⟩)) H:=⟨h.same ⟨λ_ _ e=>e,λb u x w _ hc he=>⟨he,by rw[b8 (λz=>by rw[z,c]at hc;cases hc)];exact hc⟩⟩,g.color e ht⟩
def Fr.jI(f:Fr n ρ H ρ' H')(h:H a=none):Fr n ρ H (bY ρ' a (n,t,x)) H':=λb o e k=>by obtain⟨e1,e2⟩:=f b o e k;exact⟨e1,by rw[b8 (aJ e h)];exact e2⟩
theorem Iw{d a b:Int}(hd:0<d)(h:a<=d*b):a / d<=b:=by
 have:=Int.ediv_le_ediv hd h
 rwa [Gi _ (by omega)]at this
theorem vm{st:HS}{s:Int}(h:1<=s):(f7 st s).prod=st.prod*s:=by
 unfold f7;by_cases c:1<s
 .rw [ay c]
 .rw [av c,show s=1 by omega,o_]
def lu(st:HS)(s:Int):(f7 st s).ah=st.ah:=by unfold f7;split <;> rfl
def Iz(st:HS)(s:Int):(f7 st s).bX=st.bX:=by unfold f7;split <;> rfl
def xU(st:HS)(s:Int):(f7 st s).bJ=st.bJ:=by unfold f7;split <;> rfl
def uh(st:HS)(s:Int):(f7 st s).own=st.own:=by unfold f7;split <;> rfl
def xV(st:HS)(s:Int):(f7 st s).nms=st.nms:=by unfold f7;split <;> rfl
def xW(st:HS)(s:Int):(f7 st s).bB=st.bB:=by unfold f7;split <;> rfl
theorem jm{α β γ:Type}{f:α->β->γ}{t:γ}:∀{xs:Da α}{ys:Da β},t∈List.zipWith f xs ys->∃(i:Nat)(x:α)(y:β),xs[i]?=some x/\ys[i]?=some y/\t=f x y:=λ{xs ys} h=>by
 obtain⟨i,hi,e⟩:=m8 h;rw[kF]at hi;have h1:i<xs.length:=by omega
 have h2:i<ys.length:=by omega
 exact⟨i,xs[i],ys[i],bf h1,bf h2,by rw[<-e,List.getElem_zipWith]⟩
def Qv{α β γ:Type}{f:α->β->γ}{xs:Da α}{ys:Da β}{x:α}{y:β}(h1:xs[i]?=some x)(h2:ys[i]?=some y):(List.zipWith f xs ys)[i]?=some (f x y):=by rw[Rn,h1,h2]
def Ds{a b c:Int}(h:a<=b)(hc:0<=c):a*c<=b*c:=PN h hc
structure nT(st:HS)(kept whole lost:Int)(added:Da Int):Prop where
 k:0<kept
 l:0<=lost
 w:whole=kept+lost
 len:added.length=st.bX.length
 add:∀m∈added,0<=m/\m<=lost*st.prod
 prod:Jm.Sz 7900 st.prod
 big:Jm.Sz 60 whole
 bJ:∀u∈st.bJ,Jm.Sz 8900 u
 stp:st.stp.length<100
variable {lost:Int}{added:Da Int}
theorem nT.dvds{st:HS}{kept whole:Int}(b:nT st kept whole lost added):0<cA st kept whole added/\cA st kept whole added∣whole/\(∀p∈st.ah,cA st kept whole added∣p.sc*kept)/\∀c∈gJ st kept added,cA st kept whole added∣c:=by
 have hw:0<whole:=by have:=b.k;have:=b.l;have:=b.w;omega
 have d:=A_ (jr st kept++gJ st kept added) whole;exact⟨Ba _ _ hw,d.1,λp hp=>d.2 _ (ze _ (aW.mpr ⟨p,hp,Z⟩)),λc hc=>d.2 _ (kD _ hc)⟩
theorem zW{st:HS}{kept whole:Int}(wf:Wf st)(b:nT st kept whole lost added):Wf (bu st kept whole added):=by
 obtain⟨hs,hsw,vJ,hsc⟩:=b.dvds;have hk:=b.k;have hl:=b.l;have hw:=b.w;have p1:=wf.fZ;have eB:bu st kept whole added=f7 { st with ah:=st.ah.map (λp=>{ p with sc:=p.sc*kept / cA st kept whole added }),bX:=(gJ st kept added).map (· / cA st kept whole added),bJ:=st.bJ.map (·*(whole / cA st kept whole added)) } (whole / cA st kept whole added):=rfl;rw[eB];generalize cA st kept whole added=d at *;obtain⟨s,es⟩:=hsw;have hs1:1<=s:=by
  rcases Int.lt_trichotomy s 0 with z|z|z
  .have:=Int.mul_neg_of_pos_of_neg hs z;omega
  .rw [z,Int.mul_zero]at es;omega
  .omega
 have ed:whole / d=s:=by rw[es,Gi _ (by omega)]
 rw[ed];have akJ:s<=whole:=by rw[es];have:=PN (show 1<=d by omega) (show 0<=s by omega);omega
 have zs:Jm.Sz 60 s:=b.big.of_le (by omega);have zp:Jm.Sz 8000 (st.prod*s):=(b.prod.mul zs).mono (by decide);have pp:st.prod<=st.prod*s:=by have:=HW hs1 (show 0<=st.prod by omega);omega
 have WL:∀c∈(gJ st kept added).map (· / d),0<=c/\c<=st.prod*s:=λc hc=>by
  obtain⟨x,hx,rfl⟩:=aW.mp hc;obtain⟨i,t,m,et,em,rfl⟩:=jm (show x∈List.zipWith (λt m=>t*kept+m) st.bX added from hx);have ht:=wf.pR t (bg et);have hm:=b.add m (bg em);have a1:0<=t*kept:=kJ ht.1 (by omega);have a2:t*kept<=st.prod*kept:=Ds ht.2 (by omega);have a3:st.prod*kept+lost*st.prod=d*(st.prod*s):=by rw[lC lost,<-lD,<-hw,es,<-iR,<-iR,lC st.prod d]
  exact⟨Ks (by omega) (by omega),Iw hs (by omega)⟩
 have sc':∀p∈st.ah,1<=p.sc*kept / d/\p.sc*kept / d<=st.prod*s/\d*(p.sc*kept / d)=p.sc*kept:=λp hp=>by
  have h0:=wf.qR p hp;obtain⟨z,ez⟩:=vJ p hp;have a1:0<p.sc*kept:=xK (by omega) hk;have ez':p.sc*kept / d=z:=by rw[ez,Gi _ (by omega)]
  have hz:1<=z:=by
   rcases Int.lt_trichotomy z 0 with y|y|y
   .have:=Int.mul_neg_of_pos_of_neg hs y;omega
   .rw [y,Int.mul_zero]at ez;omega
   .omega
  have a2:p.sc*kept<=st.prod*kept:=Ds h0.2 (by omega);have a3:st.prod*kept<=st.prod*whole:=HW (by omega) (by omega);have a4:st.prod*whole=d*(st.prod*s):=by rw[es,<-iR,<-iR,lC st.prod d]
  refine⟨by rw[ez'];exact hz,Iw hs (by omega),by rw[ez',ez]⟩
 have P:∀{M:Pt->Prop},(∀p∈st.ah,M { p with sc:=p.sc*kept / d })->∀p∈st.ah.map (λp=>{ p with sc:=p.sc*kept / d }),M p:=λh p hp=>by obtain⟨x,hx,rfl⟩:=aW.mp hp;exact h x hx
 have top':∀p∈st.ah,∀t∈List.zipWith (λr c=>(p.sc*kept / d)*r+c) p.row ((gJ st kept added).map (· / d)),0<=t/\t<=st.prod*s:=λp hp t ht=>by
  obtain⟨i,r,c,er,ec,rfl⟩:=jm ht;rw[bV]at ec;obtain⟨x,ex,rfl⟩:=mZ.mp ec;obtain⟨y,ey⟩:=hsc x (bg ex);have eyd:x / d=y:=by rw[ey,Gi _ (by omega)]
  have ex':(List.zipWith (λt m=>t*kept+m) st.bX added)[i]?=some x:=ex;rw[Rn]at ex';cases e1:st.bX[i]? with
  | none=>rw[e1]at ex';simp at ex'
  | some t0=>
   cases e2:added[i]? with
   | none=>rw[e1,e2]at ex';simp at ex'
   | some m=>
    rw[e1,e2]at ex';have ex2:t0*kept+m=x:=by simpa using ex'
    have hm:=b.add m (bg e2);have hT:=wf.pS p hp (p.sc*r+t0) (bg (Qv (f:=λr c=>p.sc*r+c) er e1));have hz:=(sc' p hp).2.2;have key:d*((p.sc*kept / d)*r+x / d)=(p.sc*r+t0)*kept+m:=by rw[lD,<-iR,hz,eyd,<-ey,<-ex2];rw[nM,iR,iR,lC kept r];omega
    have k1:0<=(p.sc*r+t0)*kept:=kJ hT.1 (by omega);have k2:(p.sc*r+t0)*kept<=st.prod*kept:=Ds hT.2 (by omega);have a3:st.prod*kept+lost*st.prod=d*(st.prod*s):=by rw[lC lost,<-lD,<-hw,es,<-iR,<-iR,lC st.prod d]
    generalize (p.sc*kept / d)*r+x / d=W at *;constructor
    .rcases Ed W 0 with z|z
     .have:=Int.mul_neg_of_pos_of_neg hs z;omega
     .exact z
    .have:d*W<=d*(st.prod*s):=by omega
     exact Int.le_of_mul_le_mul_left this hs
 have nm':(st.ah.map (λp:Pt=>{ p with sc:=p.sc*kept / d })).map (λp:Pt=>p.nm)=st.ah.map (λp:Pt=>p.nm):=by rw[dJ];rfl
 have e0:(gJ st kept added).length=st.bX.length:=by unfold gJ;rw[kF,b.len];omega
 have pu':∀u∈st.bJ.map (·*s),Jm.Sz 9000 u:=λu hu=>by obtain⟨x,hx,rfl⟩:=aW.mp hu;exact((b.bJ x hx).mul zs).mono (by decide)
 have ab2:∀p∈st.ah,∀r∈p.row,-(st.prod*s)<=r/\r<=st.prod*s:=λp hp r hr=>by have:=wf.oF p hp r hr;omega
 unfold f7;by_cases c:1<s
 .rw [ay c];refine⟨wf.uO,wf.zQ,by rw[nm'];exact wf.fP,P wf.sub,P wf.rows,P wf.ow,?_,?_,by show 1<=st.prod*s;omega,?_,λx hx=>?_,wf.lF,wf.zR,?_,?_,wf.vU,iH _,zp,WL,P λp hp=>⟨(sc' p hp).1,(sc' p hp).2.1⟩,P ab2,P top',P wf.jS,pu'⟩
  .show (List.map _ (gJ st kept added)).length=_;rw[aE,e0,wf.gf]
  .show (List.map _ st.bJ).length=_;rw[aE,wf.mC]
  .show st.prod*s=(st.stp++[s]).foldl (·*·) 1;rw[Zu,<-wf.nR]
  .rcases c7.mp (show x∈st.stp++[s]from hx)with z|z
   .exact wf.sO x z
   .rw [dF.mp z];omega
  .show (List.map _ st.ah).length<=1000;rw[aE];exact wf.qQ
  .show (st.stp++[s]).length<=100;rw[cW];exact b.stp
 .rw [av c];have e1:s=1:=by omega
  subst e1;rw[o_]at WL sc' ab2 top';refine⟨wf.uO,wf.zQ,by rw[nm'];exact wf.fP,P wf.sub,P wf.rows,P wf.ow,?_,?_,wf.fZ,wf.nR,wf.sO,wf.lF,wf.zR,?_,wf.AY,wf.vU,wf.Iq,wf.big,WL,P λp hp=>⟨(sc' p hp).1,(sc' p hp).2.1⟩,P wf.oF,P λp hp t ht=>?_,P wf.jS,pu'⟩
  .show (List.map _ (gJ st kept added)).length=_;rw[aE,e0,wf.gf]
  .show (List.map _ st.bJ).length=_;rw[aE,wf.mC]
  .show (List.map _ st.ah).length<=1000;rw[aE];exact wf.qQ
  .exact top' p hp t ht
def vn(st:HS)(Ap:Da Int)(rs:Da Row):Da Int:=rs.foldl (λs r=>List.zipWith (λx t=>x+r.2*t) s (aP st (cO st r.1))) Ap
theorem IA:∀(Ap bX row:Da Int)(a sc L:Int),List.zipWith (λold own=>old+(a*sc)*own) (List.zipWith (λs c=>s+(a+L)*c) Ap bX) row=List.zipWith (λs c=>s+L*c) (List.zipWith (λx t=>x+a*t) Ap (List.zipWith (λr c=>sc*r+c) row bX)) bX
 | [],_,_,_,_,_=>by simp
 | _::_,[],_,_,_,_=>by simp
 | _::_,_::_,[],_,_,_=>by simp
 | x::Ap,c::bX,r::row,a,sc,L=>by
  simp only[uC];rw[IA Ap bX row a sc L];congr 1
  grind
theorem L3{st:HS}:∀(rs:Da Row)(Ap:Da Int),rs.foldl (kI st) (List.zipWith (λs c=>s+bF rs*c) Ap st.bX)=List.zipWith (λs c=>s+0*c) (vn st Ap rs) st.bX
 | [],Ap=>by show List.zipWith _ Ap st.bX=_;rfl
 | r::rs,Ap=>by
  rw[jV];have e:kI st (List.zipWith (λs c=>s+bF (r::rs)*c) Ap st.bX) r=List.zipWith (λs c=>s+bF rs*c) (List.zipWith (λx t=>x+r.2*t) Ap (aP st (cO st r.1))) st.bX:=by unfold kI;rw[show bF (r::rs)=r.2+bF rs from by unfold bF;rw[bK,b9]];exact IA Ap st.bX (cO st r.1).row r.2 (cO st r.1).sc (bF rs)
  rw[e,L3 rs];rfl
theorem IB:∀(l:Da Int)(L:Int),List.zipWith (λs c=>s+L*c) (List.replicate l.length 0) l=l.map λc=>L*c
 | [],_=>rfl
 | x::l,L=>by rw[jf,zg,uC,IB l L,xH];rfl
theorem L4:∀(s l:Da Int),s.length<=l.length->List.zipWith (λs c=>s+0*c) s l=s
 | [],_,_=>by simp
 | _::_,[],h=>by simp at h
 | x::s,c::l,h=>by rw[uC,L4 s l (by simpa using h),jW,Int.add_zero]
theorem Bc{st:HS}:∀(rs:Da Row)(Ap:Da Int),(∀r∈rs,(aP st (cO st r.1)).length=Ap.length)->(vn st Ap rs).length=Ap.length
 | [],_,_=>rfl
 | r::rs,Ap,h=>by
  have e:(List.zipWith (λx t=>x+r.2*t) Ap (aP st (cO st r.1))).length=Ap.length:=by rw[kF,h r cM];omega
  show(vn st (List.zipWith (λx t=>x+r.2*t) Ap (aP st (cO st r.1))) rs).length=_;rw[Bc rs _ (λx hx=>by rw[e];exact h x (cQ _ hx)),e]
theorem CT{st:HS}(hP:0<=st.prod):∀(rs:Da Row)(Ap:Da Int)(B:Int),(∀r∈rs,0<=r.2/\∀t∈aP st (cO st r.1),0<=t/\t<=st.prod)->(∀x∈Ap,0<=x/\x<=B)->∀x∈vn st Ap rs,0<=x/\x<=B+bF rs*st.prod
 | [],Ap,B,_,ha,x,hx=>by have:=ha x hx;show 0<=x/\x<=B+0*st.prod;omega
 | r::rs,Ap,B,h,ha,x,hx=>by
  have hr:=h r cM;have:=CT hP rs (List.zipWith (λx t=>x+r.2*t) Ap (aP st (cO st r.1))) (B+r.2*st.prod) (λy hy=>h y (cQ _ hy)) (λy hy=>by obtain⟨i,a,t,ea,et,rfl⟩:=jm hy;have h1:=ha a (bg ea);have h2:=hr.2 t (bg et);have h3:0<=r.2*t:=kJ hr.1 h2.1;have h4:r.2*t<=r.2*st.prod:=HW h2.2 hr.1;omega) x hx
  rw[show bF (r::rs)=r.2+bF rs from by unfold bF;rw[bK,b9],nM];omega
theorem sS{st:HS}(wf:Wf st)(h:p∈st.ah):(aP st p).length=st.bX.length:=by unfold aP;rw[kF,wf.rows p h,wf.gf];omega
def dS{st:HS}(wf:Wf st)(h:p∈st.ah)(e:p.nm=x):cO st x=p:=by obtain⟨i,hi,ei⟩:=m8 h;rw[<-e];exact Qt wf.fP (i:=i) (by rw[bf hi,ei])
def Bd{st:HS}(wf:Wf st)(h:∀r∈rs,∃p∈st.ah,p.nm=r.1):gD st rs=vn st (List.replicate st.bX.length 0) rs:=by
 unfold gD;rw[<-IB st.bX (bF rs),L3];refine L4 _ _ ?_;rw[Bc rs _ (λr hr=>by obtain⟨p,hp,e⟩:=h r hr;rw[dS wf hp e,jd,sS wf hp]),jd]
 exact aL _
theorem Uo{st:HS}(wf:Wf st)(h:∀r∈rs,1<=r.2/\∃p∈st.ah,p.nm=r.1):(gD st rs).length=st.bX.length/\∀m∈gD st rs,0<=m/\m<=bF rs*st.prod:=by
 rw[Bd wf (λr hr=>(h r hr).2)];have p1:=wf.fZ;constructor
 .rw [Bc rs _ (λr hr=>by obtain⟨p,hp,e⟩:=(h r hr).2;rw[dS wf hp e,jd,sS wf hp]),jd]
 .intro m hm;have:=CT (st:=st) (by omega) rs (List.replicate st.bX.length 0) 0 (λr hr=>by obtain⟨h1,p,hp,e⟩:=h r hr;refine⟨by omega,?_⟩;rw[dS wf hp e];exact wf.pS p hp) (λx hx=>by rw[(List.mem_replicate.mp hx).2];omega) m hm
  omega
def R0{ps:Da Pt}{a:Int}(h:p∈ps)(hn:p.nm≠x)(hw:p.wo≠0):p∈j8 ps x a:=iG.mpr ⟨aW.mpr ⟨p,h,by rw[av hn]⟩,bR hw⟩
def sU{ps:Da Pt}{a:Int}(h:p∈j8 ps x a):p.wo≠0/\∃q∈ps,p=if q.nm=x then{ q with wo:=q.wo-a } else q:=by obtain⟨h1,h2⟩:=iG.mp h;obtain⟨q,hq,e⟩:=aW.mp h1;exact⟨dN h2,q,hq,e.symm⟩
def vq{ps:Da Pt}{a:Int}:((j8 ps x a).map (λp:Pt=>p.nm)).Sublist (ps.map (λp:Pt=>p.nm)):=by
 unfold j8;have e:(ps.map λp=>if p.nm=x then{ p with wo:=p.wo-a } else p).map (λp:Pt=>p.nm)=ps.map (λp:Pt=>p.nm):=by rw[dJ];exact qA λp _=>by show(if p.nm=x then _ else p:Pt).nm=p.nm;split <;> rfl
 rw[<-e];exact KW.map _
theorem GK{st:HS}(wf:Wf st){r:Row}(h:∀p∈st.ah,p.nm=r.1->r.2<=p.wo):Wf (eU st r):=by
 have P:∀{M:Pt->Prop},(∀p∈st.ah,M p)->(∀(p:Pt)(w:Int),M p->M { p with wo:=w })->∀p∈j8 st.ah r.1 r.2,M p:=λh1 h2 p hp=>by
  obtain⟨_,q,hq,e⟩:=sU hp;rw[e];split
  .exact h2 _ _ (h1 q hq)
  .exact h1 q hq
 refine⟨wf.uO,wf.zQ,wf.fP.sublist vq,P wf.sub (λ_ _ z=>z),P wf.rows (λ_ _ z=>z),P wf.ow (λ_ _ z=>z),wf.gf,wf.mC,wf.fZ,wf.nR,wf.sO,wf.lF,wf.zR,?_,wf.AY,wf.vU,wf.Iq,wf.big,wf.pR,P wf.qR (λ_ _ z=>z),P wf.oF (λ_ _ z=>z),P wf.pS (λ_ _ z=>z),λp hp=>?_,wf.GG⟩
 .have:=vq (ps:=st.ah) (x:=r.1) (a:=r.2) |>.length_le;rw[aE,aE]at this;exact fY this wf.qQ
 .obtain ⟨h0,q,hq,e⟩:=sU hp;have:=wf.jS q hq;by_cases c:q.nm=r.1
  .rw [ay c]at e;subst e;have:=h q hq c;have h0:q.wo-r.2≠0:=h0;exact⟨by show 1<=q.wo-r.2;omega,by show 0<=q.we;omega⟩
  .rw [av c]at e;rw[e];exact this
def Due(st:HS)(rs:Da Row):Prop:=∀r∈rs,∃p∈st.ah,p.nm=r.1/\r.2<=p.wo
def nU{st:HS}(wf:Wf st){q:Pt}(hp:p∈st.ah)(hq:q∈st.ah)(e:p.nm=q.nm):p=q:=(dS wf hp rfl).symm.trans (by rw[e];exact dS wf hq rfl)
def Up{st:HS}(wf:Wf st){r:Row}(d:Due st (r::rs)):Wf (eU st r):=by obtain⟨p,hp,e,hle⟩:=d r cM;exact GK wf λq hq eq=>by rw[nU wf hq hp (eq.trans e.symm)];exact hle
theorem L5{st:HS}(wf:Wf st){r:Row}(d:Due st (r::rs))(nd:((r::rs).map (λr:Row=>r.1)).Nodup):Due (eU st r) rs:=λx hx=>by obtain⟨p,hp,e,hle⟩:=d x (cQ _ hx);have hn:p.nm≠r.1:=λz=>(g_.mp nd).1 (aW.mpr ⟨x,hx,e.symm.trans z⟩);have:=wf.jS p hp;exact⟨p,R0 hp hn (by omega),e,hle⟩
theorem L6:∀{rs:Da Row}{st:HS},Wf st->Due st rs->(rs.map (λr:Row=>r.1)).Nodup->Wf (rs.foldl eU st)
 | [],_,wf,_,_=>wf
 | r::rs,st,wf,d,nd=>show Wf (rs.foldl eU (eU st r))from L6 (Up wf d) (L5 wf d nd) (g_.mp nd).2
def IC{st:HS}{kept whole:Int}(d:Due st rs):Due (bu st kept whole added) rs:=λr hr=>by obtain⟨p,hp,e,hle⟩:=d r hr;refine⟨{ p with sc:=p.sc*kept / cA st kept whole added },?_,e,hle⟩;unfold bu;rw[lu];exact aW.mpr ⟨p,hp,Z⟩
def nj.due{st:HS}(c:nj st rs):Due st rs:=λr hr=>(c.row r hr).2.2
theorem Du:∀{rs:Da Row},(∀r∈rs,1<=r.2)->0<=bF rs
 | [],_=>eO _
 | r::rs,h=>by have:=h r cM;have:=Du (rs:=rs) λx hx=>h x (cQ _ hx);rw[show bF (r::rs)=r.2+bF rs from by unfold bF;rw[bK,b9]];omega
theorem nj.blend{st:HS}(wf:Wf st)(c:nj st rs):nT st (aI st-bF rs) (aI st) (bF rs) (gD st rs):=by have g:=Uo wf (rs:=rs) (λr hr=>⟨(c.row r hr).1,by obtain⟨p,hp,e,_⟩:=(c.row r hr).2.2;exact⟨p,hp,e⟩⟩);have l0:=Du (rs:=rs) λr hr=>(c.row r hr).1;have:=c.lost;exact⟨by omega,l0,by omega,g.1,g.2,c.prod,c.big,c.bJ,c.stp⟩
def Zw{st:HS}(wf:Wf st)(c:nj st rs):Wf (gQ st rs):=L6 (zW wf (c.blend wf)) (IC c.due) c.nd
structure BP where
 nm:Str
 ow:Str
 wo:Int
 we:Int
 tops:Da Int
structure BE where
 nm:Str
 ow:Str
 wo:Int
 tops:Da Int
 bot:Int
structure BS where
 own:Da Str
 ah:Da BP
 bot:Int
 bB:Da BE
 d9:Da Str
structure BA where
 m:Addr
 lo:Addr
 lp:Addr
 la:Addr
 lk:Addr
 qs:Da (Addr×Addr)
def fB(B:BA)(bot:Int):Da (Key×V):=[(Sum.inr "owners",.ref B.lo),(Sum.inr "parts",.ref B.lp),(Sum.inr "bottom",.int bot),(Sum.inr "ashore",.ref B.la),(Sum.inr "known",.ref B.lk)]
def jn(p:BP)(t:Addr):HO:=.lst [.str p.nm,.str p.ow,.int p.wo,.int p.we,.ref t]
inductive pT(n:Nat)(ρ:eF)(H:Hp):Da V->Da BE->Prop
 | nil:pT n ρ H [] []
 | cons {r t:Addr} {e:BE} {vs:Da V} {es:Da BE}:H r=some (.lst [.str e.nm,.str e.ow,.int e.wo,.ref t,.int e.bot])->ρ r=some (n,27,e.nm)->H t=some (.lst (e.tops.map V.int))->ρ t=some (n,28,e.nm)->pT n ρ H vs es->pT n ρ H (.ref r::vs) (e::es)
structure aU(n:Nat)(ρ:eF)(B:BA)(H:Hp)(b:BS):Prop where
 om:H B.m=some (.dK (fB B b.bot))
 cm:ρ B.m=some (n,20,⟨#[]⟩)
 oo:H B.lo=some (.lst (b.own.map V.str))
 co:ρ B.lo=some (n,21,⟨#[]⟩)
 op:H B.lp=some (.lst (B.qs.map λq=>V.ref q.1))
 cp:ρ B.lp=some (n,22,⟨#[]⟩)
 oa:∃vs,H B.la=some (.lst vs)/\pT n ρ H vs b.bB
 ca:ρ B.la=some (n,25,⟨#[]⟩)
 ok:H B.lk=some (.lst (b.d9.map V.str))
 ck:ρ B.lk=some (n,26,⟨#[]⟩)
 ql:B.qs.length=b.ah.length
 pt:∀(i:Nat)(p:BP)(q:Addr×Addr),b.ah[i]?=some p->B.qs[i]?=some q->H q.1=some (jn p q.2)/\H q.2=some (.lst (p.tops.map V.int))/\ρ q.1=some (n,23,p.nm)/\ρ q.2=some (n,24,p.nm)
def pT.keep{l:Da BE}(h:pT n ρ H vs l)(k:Kp n ρ ρ' H H' ts)(e1:ts 27=true)(e2:ts 28=true):pT n ρ' H' vs l:=by
 induction h with
 | nil=>exact .nil
 | cons a b c d _ ih=>exact .cons (k.2 _ _ _ _ e1 b a).1 (k.2 _ _ _ _ e1 b a).2 (k.2 _ _ _ _ e2 d c).1 (k.2 _ _ _ _ e2 d c).2 ih
variable {B:BA}{b:BS}
def aU.same(h:aU n ρ B H b)(k:Kp n ρ ρ' H H' λ_=>true):aU n ρ' B H' b:=by
 have z:=λ{b:Addr}{t:Nat}{x:Str}{o:HO}(c:ρ b=some (n,t,x))(e:H b=some o)=>k.2 b t x o rfl c e;obtain⟨vs,h1,h2⟩:=h.oa;exact⟨(z h.cm h.om).1,(z h.cm h.om).2,(z h.co h.oo).1,(z h.co h.oo).2,(z h.cp h.op).1,(z h.cp h.op).2,⟨vs,(z h.ca h1).1,h2.keep k rfl rfl⟩,(z h.ca h1).2,(z h.ck h.ok).1,(z h.ck h.ok).2,h.ql,
  λi p q e1 e2=>let⟨a,b,c,d⟩:=h.pt i p q e1 e2;⟨(z c a).1,(z d b).1,(z c a).2,(z d b).2⟩⟩
def aU.mono(h:aU n ρ B H b)(s:aK H H'):aU n ρ B H' b:=h.same (Qk s)
def aU.other(h:aU m ρ B H b)(f:Fr n ρ H ρ' H')(g:Gh ρ H)(e:m≠n):aU m ρ' B H' b:=h.same ⟨λb xs q=>(f b _ q λt x=>by rw[g.tup q];intro z;cases z).1,λb t x o _ c q=>by
 obtain⟨a,b'⟩:=f b o q λt' x'=>by rw[c];intro z;cases z;exact e rfl
 exact⟨a,b'.trans c⟩⟩
def aU.col(h:aU n ρ B H b)(c:ρ a=none):aU n (bY ρ a (n,t,x)) B H b:=h.same ⟨λ_ _ e=>e,λb u y w _ hc he=>⟨he,by rw[b8 (λz=>by rw[z,c]at hc;cases hc)];exact hc⟩⟩
def aU.find(h:aU n ρ B H b){p:BP}(e:b.ah[i]?=some p):∃q,B.qs[i]?=some q/\H q.1=some (jn p q.2)/\H q.2=some (.lst (p.tops.map V.int))/\ρ q.1=some (n,23,p.nm)/\ρ q.2=some (n,24,p.nm):=by
 have hi:i<B.qs.length:=by rw[h.ql];exact(dM.mp e).1
 exact⟨B.qs[i],bf hi,h.pt i p _ e (bf hi)⟩
def aU.Zx(h:aU n ρ B H b)(g:Gh ρ H)(x:Int):aU n ρ B (upd H B.m (.dK (fB B x))) { b with bot:=x }:=by
 have k:=d_ (o:=.dK (fB B x)) g h.cm;obtain⟨vs,h1,h2⟩:=h.oa;exact⟨aq,h.cm,kz k h.co h.oo,h.co,kz k h.cp h.op,h.cp,⟨vs,kz k h.ca h1,h2.keep k (by decide) (by decide)⟩,h.ca,kz k h.ck h.ok,h.ck,h.ql,
  λi p q e1 e2=>let⟨a,b,c,d⟩:=h.pt i p q e1 e2;⟨kz k c a,kz k d b,c,d⟩⟩
def aU.lT(h:aU n ρ B H b)(g:Gh ρ H){p0 p1:BP}{q0:Addr×Addr}{t1:Addr}(ep:b.ah[i]?=some p0)(eq:B.qs[i]?=some q0)(e1:p1.nm=p0.nm)(nd:(b.ah.map (λp:BP=>p.nm)).Nodup)(ht:H t1=some (.lst (p1.tops.map V.int)))(ct:ρ t1=some (n,24,p1.nm)):aU n ρ { B with qs:=B.qs.set i (q0.1,t1) } (upd H q0.1 (jn p1 t1)) { b with ah:=b.ah.set i p1 }:=by
 obtain⟨x1,x2,x3,x4⟩:=h.pt i p0 q0 ep eq
 have k:=d_ (o:=jn p1 t1) g x3
 obtain⟨vs,h1,h2⟩:=h.oa
 have hi:i<B.qs.length:=(dM.mp eq).1
 have hi2:i<b.ah.length:=(dM.mp ep).1
 have em:(B.qs.set i (q0.1,t1)).map (λq=>V.ref q.1)=B.qs.map λq=>V.ref q.1:=by rw[kL];exact nq (by rw[bV,eq];rfl)
 refine⟨kz k h.cm h.om,h.cm,kz k h.co h.oo,h.co,?_,h.cp,⟨vs,kz k h.ca h1,h2.keep k (by decide) (by decide)⟩,h.ca,kz k h.ck h.ok,h.ck,?_,λj p q qV CU=>?_⟩
 . show upd H q0.1 _ B.lp=some (.lst ((B.qs.set i (q0.1,t1)).map _))
   rw[em];exact kz k h.cp h.op
 . show(B.qs.set i (q0.1,t1)).length=(b.ah.set i p1).length
   rw[fH,fH];exact h.ql
 . have qV:(b.ah.set i p1)[j]?=some p:=qV
   have CU:(B.qs.set i (q0.1,t1))[j]?=some q:=CU
   by_cases hj:i=j
   . subst hj
     rw[kC hi2]at qV
     rw[kC hi]at CU
     cases qV;cases CU
     exact⟨aq,kz k ct ht,by rw[e1];exact x3,ct⟩
   . rw[yh hj]at qV CU
     obtain⟨a1,a2,a3,a4⟩:=h.pt j p q qV CU
     have hnm:p.nm≠p0.nm:=λe=>by
      have hj2:j<b.ah.length:=(dM.mp qV).1;have r1:(b.ah.map (λp:BP=>p.nm))[j]?=some p.nm:=by rw[bV,qV];rfl
      have r2:(b.ah.map (λp:BP=>p.nm))[i]?=some p0.nm:=by rw[bV,ep];rfl
      have hj3:j<(b.ah.map (λp:BP=>p.nm)).length:=by rw[aE];exact hj2
      exact hj ((Gv hj3 nd).mp (r1.trans (by rw[e];exact r2.symm))).symm
     have hq:q.1≠q0.1:=λe=>by rw[e,x3]at a3;exact hnm (ig (λc:qP=>c.2.2) (gP a3)).symm
     exact⟨by rw[az hq];exact a1,kz k a4 a2,a3,a4⟩
def aU.Uq(h:aU n ρ B H b)(g:Gh ρ H){lp:Addr}{qs:Da (Addr×Addr)}{ps:Da BP}(e:H lp=some (.lst (qs.map λq=>V.ref q.1)))(c:ρ lp=some (n,22,⟨#[]⟩))(hl:qs.length=ps.length)(hp:∀(i:Nat) (p:BP) (q:Addr×Addr),ps[i]?=some p->qs[i]?=some q->H q.1=some (jn p q.2)/\H q.2=some (.lst (p.tops.map V.int))/\ρ q.1=some (n,23,p.nm)/\ρ q.2=some (n,24,p.nm)):
  aU n ρ { { B with lp:=lp }with qs:=qs } (upd H B.m (.dK (fB { B with lp:=lp } b.bot))) { b with ah:=ps }:=by
 have k:=d_ (o:=.dK (fB { B with lp:=lp } b.bot)) g h.cm
 obtain⟨vs,h1,h2⟩:=h.oa
 exact⟨aq,h.cm,kz k h.co h.oo,h.co,kz k c e,c,⟨vs,kz k h.ca h1,h2.keep k (by decide) (by decide)⟩,h.ca,kz k h.ck h.ok,h.ck,hl,
  λi p q e1 e2=>let⟨a,b,c,d⟩:=hp i p q e1 e2;⟨kz k c a,kz k d b,c,d⟩⟩
theorem aU.Ur(h:aU n ρ B H b)(g:Gh ρ H){p:BP}{q:Addr×Addr}(e1:H q.1=some (jn p q.2))(e2:H q.2=some (.lst (p.tops.map V.int)))(c1:ρ q.1=some (n,23,p.nm))(c2:ρ q.2=some (n,24,p.nm)):aU n ρ { B with qs:=B.qs++[q] } (upd H B.lp (.lst ((B.qs++[q]).map λq=>V.ref q.1))) { b with ah:=b.ah++[p] }:=by
 have k:=d_ (o:=.lst ((B.qs++[q]).map λq=>V.ref q.1)) g h.cp;obtain⟨vs,h1,h2⟩:=h.oa;refine⟨kz k h.cm h.om,h.cm,kz k h.co h.oo,h.co,aq,h.cp,⟨vs,kz k h.ca h1,h2.keep k (by decide) (by decide)⟩,h.ca,kz k h.ck h.ok,h.ck,?_,λi x y ex ey=>?_⟩
 .show (B.qs++[q]).length=(b.ah++[p]).length;rw[cW,cW,h.ql];rfl
 .have ex:(b.ah++[p])[i]?=some x:=ex;have ey:(B.qs++[q])[i]?=some y:=ey;by_cases c:i<b.ah.length
  .rw [C8 c]at ex;rw[C8 (by rw[h.ql];exact c)]at ey;obtain⟨a1,a2,a3,a4⟩:=h.pt i x y ex ey;exact⟨kz k a3 a1,kz k a4 a2,a3,a4⟩
  .have hi:i=b.ah.length:=by have:=(dM.mp ex).1;rw[cW]at this;have:i<b.ah.length+1:=this;omega
   subst hi;rw[CH (aL _),xG]at ex;rw[CH (by rw[h.ql];exact aL _),h.ql,xG]at ey;cases ex;cases ey;exact⟨kz k c1 e1,kz k c2 e2,c1,c2⟩
def aU.Qw(h:aU n ρ B H b)(g:Gh ρ H)(l:Da Str):aU n ρ B (upd H B.lk (.lst (l.map V.str))) { b with d9:=l }:=by
 have k:=d_ (o:=.lst (l.map V.str)) g h.ck;obtain⟨vs,h1,h2⟩:=h.oa;exact⟨kz k h.cm h.om,h.cm,kz k h.co h.oo,h.co,kz k h.cp h.op,h.cp,⟨vs,kz k h.ca h1,h2.keep k (by decide) (by decide)⟩,h.ca,aq,h.ck,h.ql,
  λi p q e1 e2=>let⟨a,b,c,d⟩:=h.pt i p q e1 e2;⟨kz k c a,kz k d b,c,d⟩⟩
structure L7(K:Fg)(H:Hp)(us:Da V)(ws:Da Row):Prop where
 len:us.length=ws.length
 at_:∀(i:Nat)(r:Row),ws[i]?=some r->∃a xs,us[i]?=some (.ref a)/\Sq K H a xs/\xs[0]?=some (.str r.1)/\xs[2]?=some (.int r.2)
def mO(b:BS):Da Row:=b.ah.map λp=>(p.nm,p.wo)
def aU.nw(h:aU n ρ B H b):L7 K H (B.qs.map λq=>V.ref q.1) (mO b):=by refine⟨by unfold mO;rw[aE,aE];exact h.ql,λi r e=>?_⟩;unfold mO at e;rw[bV]at e;obtain⟨p,ep,rfl⟩:=mZ.mp e;obtain⟨q,eq,a1,_⟩:=h.find ep;exact⟨q.1,_,by rw[bV,eq];rfl,.inl (aB.of a1),Z,Z⟩
def bL(b:BS):Int:=(b.ah.map λp=>p.wo).sum
theorem xX:∀{l:Da Str}{o:Str},o∈l->l[l.idxOf o]?=some o
 | [],_,h=>by simp at h
 | x::l,o,h=>by
  by_cases e:x=o
  .subst e;simp
  .have ho:o∈l:=by
    rcases fm.mp h with z|z
    .exact absurd z.symm e
    .exact z
   rw[List.idxOf_cons,show(x==o)=false from Gm.mpr e];simpa using xX ho
inductive ab4(K:Fg)(vs:Da V)(H:Hp)(Q:VK)(E:XK):Prop
 |mk(l:Addr)(own:Da Str)(n:Nat)(ρ:eF)(_:vs=[.ref l])(_:aB K H l (own.map V.str))(_:Gh ρ H)(_:own.length<=1000)(_:∀ρ' B H',Gh ρ' H'->aU n ρ' B H' ⟨own,[],1,[],[]⟩->(∀b o,H b=some o->H' b=some o/\ρ' b=ρ b)->Q (.ref B.m) H')
def Qx(K:Fg):Sp:=bx (ab4 K)
inductive aeI(K:Fg)(vs:Da V)(H:Hp)(Q:VK)(E:XK):Prop
 |mk(l:Addr)(own:Da Str)(o:Str)(_:vs=[.ref l,.str o])(_:aB K H l (own.map V.str))(_:o∈own)(_:own.length<=1000)(_:Q (.int (own.idxOf o:Int)) H)
def yN(K:Fg):Sp:=bx (aeI K)
def zX(b:BS)(x o:Str)(wo we:Int):BS:={ b with ah:=b.ah++[⟨x,o,wo,we,(List.replicate b.own.length 0).set (b.own.idxOf o) b.bot⟩],d9:=b.d9++[x] }
inductive WM(vs:Da V)(H:Hp)(Q:VK)(E:XK):Prop
 |mk(n ρ B b:_)(x o:Str)(wo we:Int)(_:vs=[.ref B.m,.str x,.str o,.int wo,.int we])(_:Gh ρ H)(_:aU n ρ B H b)(_:o∈b.own)(_:b.own.length<=1000)(_:b.ah.length<=1000)(_:b.d9.length<=1000)(_:∀ρ' B' H',Gh ρ' H'->aU n ρ' B' H' (zX b x o wo we:_)->B'.m=B.m->Fr n ρ H ρ' H'->Q .cy H')
def Be:Sp:=bx (WM)
inductive ahQ(K:Fg)(vs:Da V)(H:Hp)(Q:VK)(E:XK):Prop
 |mk(l:Addr)(us:Da V)(ws:Da Row)(i:Nat)(r:Row)(_:vs=[.ref l,.str r.1])(_:aB K H l us)(_:L7 K H us ws)(_:(ws.map (λr:Row=>r.1)).Nodup)(_:ws.length<=1000)(_:ws[i]?=some r)(_:Q (.int (i:Int)) H)
def Yc(K:Fg):Sp:=bx (ahQ K)
structure Bf(ws rs:Da Row):Prop where
 nd:(rs.map (λr:Row=>r.1)).Nodup
 row:∀r∈rs,1<=r.2/\r.2<=1000000000/\∃w∈ws,w.1=r.1/\r.2<=w.2
 lost:bF rs<bF ws\/rs=[]
 len:rs.length<=ws.length
inductive ab5(K:Fg)(vs:Da V)(H:Hp)(Q:VK)(E:XK):Prop
 |mk(a l:Addr)(ns:Da Int)(k:Int)(us:Da V)(ws:Da Row)(_:vs=[.ref a,.int k,.ref l])(_:aB K H a (ns.map V.int))(_:ns.length<=63)(_:0<=k)(_:k<=1000000)(_:aB K H l us)(_:L7 K H us ws)(_:(ws.map (λr:Row=>r.1)).Nodup)(_:ws.length<=1000)(_:(∀w∈ws,1<=w.2))(_:∀z zs rs H',aK H H'->H z=none->H' z=some (.lst zs)->gC H' zs rs->Bf ws rs->Q (.ref z) H')
def GL(K:Fg):Sp:=bx (ab5 K)
section
variable {X:Cx}
def vY(i j k:Int):Int:=if j<i then(if k<j then k else j) else(if k<i then k else i)
theorem Zy(i j k:Int):vY i j k<=i/\vY i j k<=j/\vY i j k<=k:=by unfold vY;split <;> split <;> omega
theorem Zz{i j k m:Int}(h1:m<=i)(h2:m<=j)(h3:m<=k):m<=vY i j k:=by unfold vY;split <;> split <;> omega
def Us(hc:X.calm=true):iS X (.builtin "min") (λxs H Q=>∃i j k,xs=[.int i,.int j,.int k]/\Q (.int (vY i j k)) H):=by
 intro AC s σ H xs us Q I r h;obtain⟨i,j,k,rfl,q⟩:=h;obtain⟨u,us,rfl,⟨t,rfl⟩,r2⟩:∃u us',us=u::us'/\RelV (.int i) u/\Vals [.int j,.int k] us':=by cases r with|cons a b=>exact⟨_,_,rfl,a,b⟩
 obtain⟨u2,u3,rfl,⟨t',rfl⟩,⟨t'',rfl⟩⟩:=vals2 r2;refine min_three_ints (I.ok.hd hc) λh' tk kk=>⟨_,H,I.kept kk,?_,q⟩
 unfold vY;by_cases hj:j<i
 .rw [ay hj,ay hj];by_cases hk:k<j
  .rw [ay hk,ay hk];exact⟨_,Z⟩
  .rw [av hk,av hk];exact⟨_,Z⟩
 .rw [av hj,av hj];by_cases hk:k<i
  .rw [ay hk,ay hk];exact⟨_,Z⟩
  .rw [av hk,av hk];exact⟨_,Z⟩
end
def nt(given:Da Int)(kept:Int)(p:BP)(a:Int):BP:={ p with tops:=List.zipWith (λt g=>t*kept+g) p.tops given,wo:=p.wo-a }
def iD(ps:Da BP)(as:Da Int)(i:Nat):Int:=(List.zipWith (λ(p:BP)(a:Int)=>p.tops.getD i 0*a) ps as).sum
def gK(b:BS)(as:Da Int):Da Int:=(List.range b.own.length).map (iD b.ah as)
def iu(b:BS)(as:Da Int)(seat:Nat)(aw:Int):Da Int:=if 0<aw then(gK b as).set seat ((gK b as).getD seat 0+aw*b.bot) else gK b as
def c_(b:BS)(as:Da Int)(seat:Nat)(aw:Int):Da BP:=List.zipWith (nt (iu b as seat aw) (bL b-aw-as.sum)) b.ah as
def jg(b:BS)(as:Da Int)(seat:Nat)(aw:Int):BS:={ b with bot:=b.bot*bL b,ah:=(c_ b as seat aw).filter λp=>decide (0<p.wo) }
structure xY(b:BS):Prop where
 nd:(b.ah.map (λp:BP=>p.nm)).Nodup
 tl:∀p∈b.ah,p.tops.length=b.own.length
 t0:∀p∈b.ah,∀t∈p.tops,0<=t/\t<=b.bot
 b1:1<=b.bot
 bz:Jm.Sz 7000 b.bot
 w1:∀p∈b.ah,1<=p.wo
 ol:b.own.length<=100
 pl:b.ah.length<=1000
 kl:b.d9.length<=1000
structure kQ(b:BS)(as:Da Int)(seat:Nat)(aw:Int):Prop where
 len:as.length=b.ah.length
 a0:∀a∈as,0<=a
 seat:seat<b.own.length
 ET:0<=aw
 kept:0<bL b-aw-as.sum
 big:Jm.Sz 60 (bL b)
inductive aeJ(K:Fg)(vs:Da V)(H:Hp)(Q:VK)(E:XK):Prop
 |mk(n ρ B b:_)(l:Addr)(as:Da Int)(seat:Nat)(aw:Int)(_:vs=[.ref B.m,.ref l,.int (seat:Int),.int aw])(_:Gh ρ H)(_:aU n ρ B H b)(_:xY b)(_:aB K H l (as.map V.int))(_:ρ l=none)(_:kQ b as seat aw)(_:∀ρ' B' H',Gh ρ' H'->aU n ρ' B' H' (jg b as seat aw:_)->B'.m=B.m->Fr n ρ H ρ' H'->Q .cy H')
def L8(K:Fg):Sp:=bx (aeJ K)
variable {as:Da Int}{seat:Nat}
theorem xZ{aw:Int}(h:as.length=b.ah.length):(c_ b as seat aw).length=b.ah.length:=by unfold c_;rw[kF,h];omega
def WN{aw:Int}{p:BP}{a:Int}(h1:b.ah[i]?=some p)(h2:as[i]?=some a):(c_ b as seat aw)[i]?=some (nt (iu b as seat aw) (bL b-aw-as.sum) p a):=Qv h1 h2
theorem x6(h:∀a∈as,0<=a):∀{x:Int},x∈as->x<=as.sum:=by
 induction as with
 | nil=>intro x hx;simp at hx
 | cons a l ih=>
  intro x hx;have h0:=h a cM;have hl:0<=l.sum:=by
   clear ih hx;have:∀(l:Da Int),(∀a∈l,0<=a)->0<=l.sum:=λl=>by
    induction l with
    | nil=>intro _;exact eO _
    | cons a l ih=>intro h;rw[b9];have:=h a cM;have:=ih λx hx=>h x (cQ _ hx);omega
   exact this l λx hx=>h x (cQ _ hx)
  rw[b9];rcases fm.mp hx with e|e
  .omega
  .have:=ih (λy hy=>h y (cQ _ hy)) e;omega
def lH(b:BS)(as:Da Int):(gK b as).length=b.own.length:=by unfold gK;rw[aE,Gs]
def vZ(b:BS)(as:Da Int)(seat:Nat)(aw:Int):(iu b as seat aw).length=b.own.length:=by
 unfold iu;split
 .rw [fH,lH]
 .exact lH b as
def L_{ps:Da BP}{p:BP}{a:Int}(h1:ps[j]?=some p)(h2:as[j]?=some a):(List.zipWith (λ(p:BP)(a:Int)=>p.tops.getD i 0*a) (ps.take (j+1)) (as.take (j+1)))=List.zipWith (λ(p:BP)(a:Int)=>p.tops.getD i 0*a) (ps.take j) (as.take j)++[p.tops.getD i 0*a] :=ng _ h1 h2
theorem ZA{α:Type}{xs ys:Da α}{p:α}(hx:i<=xs.length)(h:ys[i]?=some p):(xs.take i++ys.drop i)[i]?=some p:=by
 have hl:(xs.take i).length=i:=by rw[uE];omega
 rw[CH (by omega),hl,xG,List.getElem?_drop];exact h
theorem ZC{α:Type}{xs ys:Da α}{x:α}(hx:xs[i]?=some x)(hy:i<ys.length):(xs.take i++ys.drop i).set i x=xs.take (i+1)++ys.drop (i+1):=by
 have hi:=(dM.mp hx).1;have hl:(xs.take i).length=i:=by rw[uE];omega
 rw[List.set_append_right _ _ (by omega),hl,xG,Rc hy,K1,take_snoc hx,K2];rfl
def Ut{b:BS}{as:Da Int}{aw:Int}(h:as.length=b.ah.length)(i:Nat):((c_ b as seat aw).take i++b.ah.drop i).map (λp:BP=>p.nm)=b.ah.map (λp:BP=>p.nm):=by
 have e:(c_ b as seat aw).map (λp:BP=>p.nm)=b.ah.map (λp:BP=>p.nm):=by
  unfold c_;generalize iu b as seat aw=g;generalize bL b-aw-as.sum=k;generalize b.ah=ps at *;clear b
  induction ps generalizing as with
  | nil=>rfl
  | cons p ps ih=>
   cases as with
   | nil=>simp at h
   | cons a as=>rw[uC,bK,bK,ih (by simpa using h)];rfl
 rw[bN,BW,e,<-BW,<-bN,List.take_append_drop]
def Uu(B:BA)(x y:Int):putK (fB B x) (Sum.inr "bottom") (.int y)=fB B y:=rfl
def Ma(B:BA)(x:Int)(l:Addr):putK (fB B x) (Sum.inr "parts") (.ref l)=fB { B with lp:=l } x:=rfl
def j9:Da BP->Da (Addr×Addr)->Da (Addr×Addr)
 | p::ps,q::qs=>if 0<p.wo then q::j9 ps qs else j9 ps qs
 | _,_=>[]
theorem Bg:∀{ps:Da BP}{qs:Da (Addr×Addr)},qs.length=ps.length->(j9 ps qs).length=(ps.filter λp=>decide (0<p.wo)).length
 | [],[],_=>rfl
 | [],_::_,h=>by simp at h
 | _::_,[],h=>by simp at h
 | p::ps,q::qs,h=>by
  have ih:=Bg (ps:=ps) (qs:=qs) (by simpa using h);unfold j9;by_cases c:0<p.wo
  .rw [ay c,fX,ay (bR c),jf,jf,ih]
  .rw [av c,fX,av (by simpa using c),ih]
theorem zY:∀{ps:Da BP}{qs:Da (Addr×Addr)}{i:Nat}{p:BP}{q:Addr×Addr},(ps.filter λp=>decide (0<p.wo))[i]?=some p->(j9 ps qs)[i]?=some q->qs.length=ps.length->∃j:Nat,ps[j]?=some p/\qs[j]?=some q
 | [],_,_,_,_,h,_,_=>by simp at h
 | _::_,[],_,_,_,_,_,h=>by simp at h
 | x::ps,y::qs,i,p,q,h1,h2,hl=>by
  unfold j9 at h2;by_cases c:0<x.wo
  .rw [ay c]at h2;rw[fX,ay (bR c)]at h1;cases i with
   | zero=>simp at h1 h2;exact⟨0,by simpa using h1,by simpa using h2⟩
   | succ i=>obtain⟨j,a,b⟩:=zY (ps:=ps) (qs:=qs) (i:=i) (by simpa using h1) (by simpa using h2) (by simpa using hl);exact⟨j+1,by simpa using a,by simpa using b⟩
  .rw [av c]at h2;rw[fX,av (by simpa using c)]at h1;obtain⟨j,a,b⟩:=zY (ps:=ps) (qs:=qs) (i:=i) h1 h2 (by simpa using hl);exact⟨j+1,by simpa using a,by simpa using b⟩
theorem zZ:∀{ps:Da BP}{qs:Da (Addr×Addr)}{j:Nat}{p:BP}{q:Addr×Addr},ps[j]?=some p->qs[j]?=some q->j9 (ps.take (j+1)) (qs.take (j+1))=j9 (ps.take j) (qs.take j)++(if 0<p.wo then[q] else[])
 | [],_,_,_,_,h,_=>by simp at h
 | _::_,[],_,_,_,_,h=>by simp at h
 | x::ps,y::qs,0,p,q,h1,h2=>by
  have e1:x=p:=by simpa using h1
  have e2:y=q:=by simpa using h2
  subst e1 e2;show j9 (x::ps.take 0) (y::qs.take 0)=[]++_;unfold j9;split <;> rfl
 | x::ps,y::qs,j+1,p,q,h1,h2=>by have ih:=zZ (ps:=ps) (qs:=qs) (j:=j) (by simpa using h1) (by simpa using h2);show j9 (x::ps.take (j+1)) (y::qs.take (j+1))=j9 (x::ps.take j) (y::qs.take j)++_;unfold j9;rw[ih];split <;> rfl
def dR(rs:Da Row)(x:Str):Int:=((rs.find? λr=>decide (r.1=x)).map (λr:Row=>r.2)).getD 0
def ID(x:Str):dR [] x=0:=rfl
def nV(r:Row)(rs:Da Row)(x:Str):dR (r::rs) x=if r.1=x then r.2 else dR rs x:=by
 unfold dR;rw[qG];by_cases c:r.1=x
 .rw [bR c,ay c];rfl
 .rw [c9 c,av c]
theorem vt:∀{rs:Da Row}{x:Str},x∉rs.map (λr:Row=>r.1)->dR rs x=0
 | [],_,_=>rfl
 | r::rs,x,h=>by rw[nV,av (λe=>h (by rw[bK,e];exact cM))];exact vt λm=>h (by rw[bK];exact cQ _ m)
theorem nW:∀{rs:Da Row}{r:Row}{x:Str},r.1∉rs.map (λr:Row=>r.1)->dR (rs++[r]) x=if r.1=x then r.2 else dR rs x
 | [],r,x,_=>by rw[Kq,nV]
 | y::rs,r,x,h=>by
  rw[bK]at h;have h1:r.1≠y.1:=λe=>h (by rw[e];exact cM);rw[Km,nV,nW (λm=>h (cQ _ m)),nV];by_cases c:y.1=x
  .rw [ay c,ay c,av (λe=>h1 (e.trans c.symm))]
  .rw [av c,av c]
theorem WO(h:∀r∈rs,1<=r.2)(x:Str):0<=dR rs x:=by
 induction rs with
 | nil=>exact eO _
 | cons r rs ih=>
  rw[nV];split
  .have:=h r cM;omega
  .exact ih λy hy=>h y (cQ _ hy)
def dg(b:BS)(rs:Da Row):Da Int:=b.ah.map λp=>dR rs p.nm
def Bh(b:BS)(rs:Da Row):(dg b rs).length=b.ah.length:=by unfold dg;rw[aE]
def EU(nd:(b.ah.map (λp:BP=>p.nm)).Nodup){r:Row}{p:BP}(hp:b.ah[j]?=some p)(e:p.nm=r.1)(h:r.1∉rs.map (λr:Row=>r.1)):dg b (rs++[r])=(dg b rs).set j r.2/\(dg b rs)[j]?=some 0:=by
 have hj:=(dM.mp hp).1;constructor
 .refine List.ext_getElem? λk=>?_;by_cases c:j=k
  .subst c;rw[kC (by rw[Bh];exact hj)];unfold dg;rw[bV,hp];show some (dR (rs++[r]) p.nm)=_;rw[nW h,ay e.symm]
  .rw [yh c];unfold dg;rw[bV,bV];cases ek:b.ah[k]? with
   | none=>rfl
   | some x=>
    show some (dR (rs++[r]) x.nm)=some (dR rs x.nm);rw[nW h,av];intro z;have r1:(b.ah.map (λp:BP=>p.nm))[k]?=some x.nm:=by rw[bV,ek];rfl
    have r2:(b.ah.map (λp:BP=>p.nm))[j]?=some p.nm:=by rw[bV,hp];rfl
    exact c ((Gv (by rw[aE];exact hj) nd).mp (r2.trans (by rw[e,z];exact r1.symm)))
 .unfold dg;rw[bV,hp];show some (dR rs p.nm)=_;rw[e,vt h]
theorem Mb:∀{l:Da Int}{j:Nat}{x:Int},l[j]?=some 0->(l.set j x).sum=l.sum+x
 | [],_,_,h=>by simp at h
 | a::l,0,x,h=>by
  have:a=0:=by simpa using h
  rw[K1,b9,b9];omega
 | a::l,j+1,x,h=>by rw[K0,b9,b9,Mb (by simpa using h)];omega
structure qW(b:BS)(rs:Da Row):Prop where
 nd:(rs.map (λr:Row=>r.1)).Nodup
 row:∀r∈rs,1<=r.2/\∃(j:Nat)(p:BP),b.ah[j]?=some p/\p.nm=r.1/\r.2<=p.wo
theorem IE(nd:(b.ah.map (λp:BP=>p.nm)).Nodup)(h:qW b rs):∀i≤rs.length,(dg b (rs.take i)).sum=bF (rs.take i):=by
 intro i
 induction i with
 | zero=>
  intro _;rw[List.take_zero];unfold dg;show(b.ah.map λp=>(0:Int)).sum=0;clear nd h;generalize b.ah=ps
  induction ps with
  | nil=>rfl
  | cons p ps ih=>rw[bK,b9,ih];rfl
 | succ i ih=>
  intro hi;have ei:=bf (show i<rs.length by omega);rw[take_snoc ei];obtain⟨_,j,p,hp,e,_⟩:=h.row _ (bg ei);have hn:(rs[i]).1∉(rs.take i).map (λr:Row=>r.1):=by rw[BW];exact kP h.nd (by rw[bV,ei];rfl)
  obtain⟨s1,s2⟩:=EU nd hp e hn;rw[s1,Mb s2,ih (by omega)];unfold bF;rw[bN,zu];simp
abbrev Q4:=Str×Str×Int×Int
def h_(st:HS):Da Q4:=st.ah.map λp=>(p.nm,p.ow,p.wo,p.we)
def lI(b:BS):Da Q4:=b.ah.map λp=>(p.nm,p.ow,p.wo,p.we)
def pB(qs:Da Q4)(r:Row):Da Q4:=(qs.map λq=>if q.1=r.1 then(q.1,q.2.1,q.2.2.1-r.2,q.2.2.2) else q).filter λq=>decide (q.2.2.1≠0)
def oR(rs:Da Row)(qs:Da Q4):Da Q4:=(qs.map λq=>(q.1,q.2.1,q.2.2.1-dR rs q.1,q.2.2.2)).filter λq=>decide (0<q.2.2.1)
def IF(st:HS)(r:Row):h_ (eU st r)=pB (h_ st) r:=by
 unfold h_ eU j8 pB;generalize st.ah=ps;show List.map _ (List.filter _ (List.map _ ps))=_
 induction ps with
 | nil=>rfl
 | cons p ps ih=>
  rw[bK,bK,bK];by_cases c:p.nm=r.1
  .rw [ay c,ay (show(p.nm,p.ow,p.wo,p.we).1=r.1 from c),fX,fX];by_cases d:p.wo-r.2=0
   .rw [av (by simpa using d),av (by simpa using d),ih]
   .rw [ay (by simpa using d),ay (by simpa using d),bK,ih]
  .rw [av c,av (show ¬ (p.nm,p.ow,p.wo,p.we).1=r.1 from c),fX,fX];by_cases d:p.wo=0
   .rw [av (by simpa using d),av (by simpa using d),ih]
   .rw [ay (by simpa using d),ay (by simpa using d),bK,ih]
def EV(st:HS)(kept whole:Int)(added:Da Int):h_ (bu st kept whole added)=h_ st:=by unfold h_ bu;rw[lu,dJ];rfl
theorem EW:∀(rs:Da Row)(st:HS),h_ (rs.foldl eU st)=rs.foldl pB (h_ st)
 | [],_=>rfl
 | r::rs,st=>by rw[jV,jV,EW rs,IF]
theorem EX:∀(qs:Da Q4)(r:Row)(rs:Da Row),r.1∉rs.map (λr:Row=>r.1)->(∀q∈qs,1<=q.2.2.1)->(∀q∈qs,q.1=r.1->r.2<=q.2.2.1)->oR rs (pB qs r)=oR (r::rs) qs
 | [],_,_,_,_,_=>rfl
 | q::qs,r,rs,hn,h1,h2=>by
  have ih:=EX qs r rs hn (λx hx=>h1 x (cQ _ hx)) (λx hx=>h2 x (cQ _ hx));have w1:=h1 q cM;have e1:pB (q::qs) r=(if q.1=r.1 then(if q.2.2.1-r.2=0 then[] else[(q.1,q.2.1,q.2.2.1-r.2,q.2.2.2)]) else[q])++pB qs r:=by
   unfold pB;rw[bK,fX];by_cases c:q.1=r.1
   .rw [ay c,ay c];by_cases d:q.2.2.1-r.2=0
    .rw [ay d,av (by simpa using d)];rfl
    .rw [av d,ay (by simpa using d)];rfl
   .rw [av c,av c,ay (bR (show q.2.2.1≠0 by omega))];rfl
  have e2:∀(us:Da Row)(x:Q4)(l:Da Q4),oR us (x::l)=(if 0<x.2.2.1-dR us x.1 then[(x.1,x.2.1,x.2.2.1-dR us x.1,x.2.2.2)] else[])++oR us l:=λus x l=>by
   unfold oR;rw[bK,fX];by_cases c:0<x.2.2.1-dR us x.1
   .rw [ay c,ay (bR c)];rfl
   .rw [av c,av (by simpa using c)];rfl
  rw[e1,e2 (r::rs),nV];by_cases c:q.1=r.1
  .have am:dR rs q.1=0:=by rw[c];exact vt hn
   have le:=h2 q cM c;rw[ay c,ay c.symm];by_cases d:q.2.2.1-r.2=0
   .rw [ay d,av (by omega),<-ih];rfl
   .rw [av d,ay (by omega),<-ih,Km,Kq,e2 rs];show(if 0<q.2.2.1-r.2-dR rs q.1 then[(q.1,q.2.1,q.2.2.1-r.2-dR rs q.1,q.2.2.2)] else[])++_=_;rw[am,xJ,ay (by omega)]
  .rw [av c,show(if r.1=q.1 then r.2 else dR rs q.1)=dR rs q.1 from av (λz=>c z.symm),<-ih,Km,Kq,e2 rs]
def IG{qs:Da Q4}{r:Row}{x:Q4}(h:x∈pB qs r):x.2.2.1≠0/\∃q∈qs,x=if q.1=r.1 then(q.1,q.2.1,q.2.2.1-r.2,q.2.2.2) else q:=by obtain⟨h1,h2⟩:=iG.mp h;obtain⟨q,hq,e⟩:=aW.mp h1;exact⟨dN h2,q,hq,e.symm⟩
theorem II:∀(rs:Da Row)(qs:Da Q4),(rs.map (λr:Row=>r.1)).Nodup->(∀q∈qs,1<=q.2.2.1)->(∀r∈rs,∀q∈qs,q.1=r.1->r.2<=q.2.2.1)->rs.foldl pB qs=oR rs qs
 | [],qs,_,h1,_=>by
  show qs=oR [] qs;unfold oR
  induction qs with
  | nil=>rfl
  | cons q qs ih=>have:=h1 q cM;rw[bK,fX,ay (bR (show 0<q.2.2.1-dR [] q.1 by rw[ID];omega)),<-ih (λx hx=>h1 x (cQ _ hx)) (λr hr=>absurd hr (by simp)),ID,xJ]
 | r::rs,qs,nd,h1,h2=>by
  obtain⟨n1,n2⟩:=g_.mp (show(r.1::rs.map (λr:Row=>r.1)).Nodup from nd);rw[jV,II rs (pB qs r) n2 ?_ ?_]
  .exact EX qs r rs n1 h1 (h2 r cM)
  .intro x hx;obtain⟨a,q,hq,e⟩:=IG hx;have:=h1 q hq;by_cases c:q.1=r.1
   .rw [ay c]at e;have:=h2 r cM q hq c;rw[e]at a ⊢;have a:q.2.2.1-r.2≠0:=a;show 1<=q.2.2.1-r.2;omega
   .rw [av c]at e;rw[e];exact this
  .intro y hy x hx ex;obtain⟨_,q,hq,e⟩:=IG hx;by_cases c:q.1=r.1
   .rw [ay c]at e;rw[e]at ex;exact absurd (aW.mpr ⟨y,hy,ex.symm.trans c⟩) n1
   .rw [av c]at e;rw[e]at ex ⊢;exact h2 y (cQ _ hy) q hq ex
def Uv(b:BS)(rs:Da Row)(seat:Nat)(aw:Int):lI (jg b (dg b rs) seat aw)=oR rs (lI b):=by
 unfold lI jg c_ oR;show List.map _ (List.filter _ (List.zipWith (nt (iu b (dg b rs) seat aw) (bL b-aw-(dg b rs).sum)) b.ah (dg b rs)))=_;generalize iu b (dg b rs) seat aw=g;generalize bL b-aw-(dg b rs).sum=k;unfold dg;generalize b.ah=ps
 induction ps with
 | nil=>rfl
 | cons p ps ih=>
  rw[bK,uC,bK,bK,fX,fX];by_cases c:0<p.wo-dR rs p.nm
  .rw [ay (bR (show 0<(nt g k p (dR rs p.nm)).wo from c)),ay (bR (show 0<p.wo-dR rs p.nm from c)),bK,ih];rfl
  .rw [av (by simpa using(show ¬ 0<(nt g k p (dR rs p.nm)).wo from c)),av (by simpa using c),ih]
structure kR(st:HS)(b:BS):Prop where
 own:st.own=b.own
 qd:h_ st=lI b
def Mc(st:HS)(rs:Da Row):(gQ st rs).own=st.own:=by
 unfold gQ;have:∀(rs:Da Row)(s:HS),(rs.foldl eU s).own=s.own:=λrs=>by
  induction rs with
  | nil=>intro s;rfl
  | cons r rs ih=>intro s;rw[jV,ih];rfl
 rw[this];unfold bu;rw[uh]
def Uw{st:HS}(r:kR st b)(wf:Wf st)(c:nj st rs):kR (gQ st rs) (jg b (dg b rs) 0 0):=by
 refine⟨by rw[Mc,r.own];rfl,?_⟩;rw[Uv,<-r.qd];unfold gQ;rw[EW,EV];refine II rs (h_ st) c.nd (λq hq=>?_) (λx hx q hq e=>?_)
 .obtain ⟨p,hp,rfl⟩:=aW.mp hq;exact(wf.jS p hp).1
 .obtain ⟨p,hp,rfl⟩:=aW.mp hq;obtain⟨_,_,p',eZ,e',le⟩:=c.row x hx;have:p=p':=nU wf hp eZ (e.trans e'.symm);rw[this];exact le
def Ux{st:HS}(r:kR st b)(x o:Str)(wo we:Int):kR (xT st x o wo we) (zX b x o wo we):=by refine⟨r.own,?_⟩;unfold h_ lI xT zS zX;show List.map _ (st.ah++[_])=List.map _ (b.ah++[_]);rw[bN,bN,show st.ah.map (λp=>(p.nm,p.ow,p.wo,p.we))=b.ah.map (λp=>(p.nm,p.ow,p.wo,p.we))from r.qd];rfl
def kR.whole{st:HS}(r:kR st b):aI st=bL b:=by unfold aI bL;have:=ig (List.map λq:Q4=>q.2.2.1) r.qd;unfold h_ lI at this;rw[dJ,dJ]at this;exact ig List.sum this
def kR.len{st:HS}(r:kR st b):st.ah.length=b.ah.length:=by have:=ig List.length r.qd;unfold h_ lI at this;rw[aE,aE]at this;exact this
theorem kR.at{st:HS}(r:kR st b){q:BP}(h:b.ah[i]?=some q):∃p,st.ah[i]?=some p/\p.nm=q.nm/\p.ow=q.ow/\p.wo=q.wo/\p.we=q.we:=by have e:=ig (λl:Da Q4=>l[i]?) r.qd;unfold h_ lI at e;have e:(st.ah.map λp=>(p.nm,p.ow,p.wo,p.we))[i]?=(b.ah.map λp=>(p.nm,p.ow,p.wo,p.we))[i]?:=e;rw[bV,bV,h]at e;obtain⟨p,ep,e2⟩:=mZ.mp e;have e2:(p.nm,p.ow,p.wo,p.we)=(q.nm,q.ow,q.wo,q.we):=e2;simp only[Prod.mk.injEq]at e2;exact⟨p,ep,e2⟩
def kR.at'{st:HS}(r:kR st b)(h:st.ah[i]?=some p):∃q,b.ah[i]?=some q/\p.nm=q.nm/\p.ow=q.ow/\p.wo=q.wo/\p.we=q.we:=by
 have hi:i<b.ah.length:=by rw[<-r.len];exact(dM.mp h).1
 have eq:=bf hi;obtain⟨p',e',z⟩:=r.at eq;rw[h]at e';cases e';exact⟨_,eq,z⟩
theorem IJ{B:Int}(hB:0<=B):∀{ps:Da BP}{as:Da Int},(∀p∈ps,∀t∈p.tops,0<=t/\t<=B)->(∀a∈as,0<=a)->∀i,0<=iD ps as i/\iD ps as i<=B*as.sum
 | [],as,_,ha,i=>by
  have:0<=as.sum:=by
   cases as with
   | nil=>exact eO _
   | cons a l=>exact BZ (ha a cM) (x6 ha cM)
  exact⟨by show(0:Int)<=0;omega,kJ hB this⟩
 | _::_,[],_,_,i=>by show 0<=(0:Int)/\(0:Int)<=B*0;omega
 | p::ps,a::as,h,ha,i=>by
  have ih:=IJ hB (ps:=ps) (as:=as) (λx hx=>h x (cQ _ hx)) (λx hx=>ha x (cQ _ hx)) i;have a0:=ha a cM;have ht:0<=p.tops.getD i 0/\p.tops.getD i 0<=B:=by
   rw[dD];cases e:p.tops[i]? with
   | none=>exact⟨eO _,hB⟩
   | some t=>exact h p cM t (bg e)
  have e:iD (p::ps) (a::as) i=p.tops.getD i 0*a+iD ps as i:=by unfold iD;rw[uC,b9]
  have k1:0<=p.tops.getD i 0*a:=kJ ht.1 a0;have k2:p.tops.getD i 0*a<=B*a:=PN ht.2 a0;rw[e,b9,lD];omega
theorem Uy(wf:xY b){aw:Int}(ok:kQ b as seat aw):∀g∈iu b as seat aw,0<=g/\g<=b.bot*(as.sum+aw):=by
 have b1:=wf.b1;have cb:=IJ (B:=b.bot) (by omega) wf.t0 ok.a0;have ET:=ok.ET;have m0:0<=b.bot*aw:=kJ (by omega) ET;have hg:∀g∈gK b as,0<=g/\g<=b.bot*as.sum:=λg h=>by obtain⟨i,_,rfl⟩:=aW.mp h;exact cb i
 intro g h;rw[lD];unfold iu at h;split at h
 .rcases KO h with z|z
  .have:=hg g z;omega
  .have hs:seat<(gK b as).length:=by rw[lH];exact ok.seat
   have e:(gK b as).getD seat 0=(gK b as)[seat] :=by rw[dD,bf hs];rfl
   have:=hg _ (zm hs);rw[z,e,lC aw];omega
 .have:=hg g h;omega
theorem WQ(wf:xY b){aw:Int}(ok:kQ b as seat aw)(hz:Jm.Sz 7000 (b.bot*bL b)):xY (jg b as seat aw):=by
 have b1:=wf.b1;have gb:=Uy wf ok;have kp:=ok.kept;have as0:0<=as.sum:=by
  cases has:as with
  | nil=>exact eO _
  | cons a l=>exact BZ (ok.a0 a (by rw[has];exact cM)) (by rw[<-has];exact x6 ok.a0 (by rw[has];exact cM))
 have ET:=ok.ET;have Dv:∀p∈(c_ b as seat aw).filter (λp=>decide (0<p.wo)),0<p.wo/\∃p0∈b.ah,∃a,p=nt (iu b as seat aw) (bL b-aw-as.sum) p0 a:=λp hp=>by obtain⟨h1,h2⟩:=iG.mp hp;obtain⟨i,x,a,ex,_,e⟩:=jm (show p∈List.zipWith (nt (iu b as seat aw) (bL b-aw-as.sum)) b.ah as from h1);exact⟨dN h2,x,bg ex,a,e⟩
 have nmE:(c_ b as seat aw).map (λp:BP=>p.nm)=b.ah.map (λp:BP=>p.nm):=by have:=Ut (seat:=seat) (aw:=aw) ok.len b.ah.length;rw[D4,qF,show(c_ b as seat aw).take b.ah.length=c_ b as seat aw from by rw[<-xZ ok.len];exact cL]at this;exact this
 refine⟨?_,λp hp=>?_,λp hp t ht=>?_,?_,hz,λp hp=>?_,wf.ol,?_,wf.kl⟩
 .have:(((c_ b as seat aw).filter λp=>decide (0<p.wo)).map (λp:BP=>p.nm)).Sublist ((c_ b as seat aw).map (λp:BP=>p.nm)):=KW.map _;rw[nmE]at this;exact wf.nd.sublist this
 .obtain ⟨_,p0,h0,a,rfl⟩:=Dv p hp;show(List.zipWith _ p0.tops (iu b as seat aw)).length=b.own.length;rw[kF,wf.tl p0 h0,vZ];omega
 .obtain ⟨_,p0,h0,a,rfl⟩:=Dv p hp;obtain⟨i,x,g,ex,eg,rfl⟩:=jm (show t∈List.zipWith (λt g=>t*(bL b-aw-as.sum)+g) p0.tops (iu b as seat aw)from ht);have hx:=wf.t0 p0 h0 x (bg ex);have hg:=gb g (bg eg);have k1:0<=x*(bL b-aw-as.sum):=kJ hx.1 (by omega);have k2:x*(bL b-aw-as.sum)<=b.bot*(bL b-aw-as.sum):=PN hx.2 (by omega);have k3:b.bot*(bL b-aw-as.sum)+b.bot*(as.sum+aw)=b.bot*bL b:=by rw[<-lD];congr 1;omega
  exact⟨by omega,by show _<=b.bot*bL b;omega⟩
 .show 1<=b.bot*bL b;have:b.bot*1<=b.bot*bL b:=HW (by omega) (by omega);omega
 .exact (Dv p hp).1
 .have:=Gk (λp:BP=>decide (0<p.wo)) (c_ b as seat aw);rw[xZ ok.len]at this;exact fY this wf.pl
theorem GN(wf:xY b)(h:qW b rs)(hl:bF rs<bL b)(ho:0<b.own.length)(hz:Jm.Sz 60 (bL b)):kQ b (dg b rs) 0 0:=by have hs:=IE wf.nd h rs.length (aL _);rw[cL]at hs;refine⟨Bh b rs,λa ha=>?_,ho,eO _,by rw[hs];omega,hz⟩;obtain⟨p,_,rfl⟩:=aW.mp ha;exact WO (λr hr=>(h.row r hr).1) p.nm
inductive ab7(K:Fg)(vs:Da V)(H:Hp)(Q:VK)(E:XK):Prop
 |mk(n ρ B b:_)(l:Addr)(us:Da V)(rs:Da Row)(_:vs=[.ref B.m,.ref l])(_:Gh ρ H)(_:aU n ρ B H b)(_:xY b)(_:aB K H l us)(_:gC H us rs)(_:ρ l=none)(_:qW b rs)(_:rs.length<=1000)(_:kQ b (dg b rs:_) 0 0)(_:∀ρ' B' H',Gh ρ' H'->aU n ρ' B' H' (jg b (dg b rs:_) 0 0)->B'.m=B.m->Fr n ρ H ρ' H'->Q .cy H')
def GO(K:Fg):Sp:=bx (ab7 K)
theorem ZD(wf:xY b)(h1:x∉b.ah.map (λp:BP=>p.nm))(h2:1<=wo)(h3:b.ah.length<1000)(h4:b.d9.length<1000):xY (zX b x o wo we):=by
 have P:∀{M:BP->Prop},(∀p∈b.ah,M p)->M ⟨x,o,wo,we,(List.replicate b.own.length 0).set (b.own.idxOf o) b.bot⟩->∀p∈(zX b x o wo we).ah,M p:=λa c p hp=>by
  rcases c7.mp (show p∈b.ah++[_]from hp)with z|z
  .exact a p z
  .rw [dF.mp z];exact c
 have b1:=wf.b1;refine⟨?_,P wf.tl (by show((List.replicate b.own.length (0:Int)).set _ _).length=_;rw[fH,jd];rfl),P wf.t0 (λt ht=>?_),wf.b1,wf.bz,P wf.w1 h2,wf.ol,?_,?_⟩
 .show ((b.ah++[_]).map (λp:BP=>p.nm)).Nodup;rw[bN];exact nO wf.nd h1
 .rcases zT ht with z|z
  .rw [z];show 0<=0/\0<=b.bot;omega
  .rw [z];show 0<=b.bot/\b.bot<=b.bot;omega
 .show (b.ah++[_]).length<=1000;rw[cW];show b.ah.length+1<=1000;omega
 .show (b.d9++[_]).length<=1000;rw[cW];show b.d9.length+1<=1000;omega
theorem j_:∀(rs:Da Row)(s:HS),rs.foldl eU s={ s with ah:=(rs.foldl eU s).ah }
 | [],_=>rfl
 | r::rs,s=>by rw[jV,j_ rs (eU s r)];rfl
def Dw(st:HS)(b:BS):Prop:=∀p∈st.ah,∀q∈b.ah,p.nm=q.nm->∀j,q.tops.getD j 0*st.prod=(aP st p).getD j 0*b.bot
theorem lJ{f:Int->Int->Int}(hf:f 0 0=0){xs ys:Da Int}(h:xs.length=ys.length)(j:Nat):(List.zipWith f xs ys).getD j 0=f (xs.getD j 0) (ys.getD j 0):=by
 rw[dD,dD,dD,Rn];by_cases c:j<xs.length
 .rw [bf c,bf (by omega)];rfl
 .rw [m7 (by omega),m7 (by omega)];exact hf.symm
def v5(rs:Da Row)(f:Str->Int):Int:=(rs.map λr=>r.2*f r.1).sum
theorem Me{st:HS}:∀(rs:Da Row)(Ap:Da Int),(∀r∈rs,(aP st (cO st r.1)).length=Ap.length)->∀j,(vn st Ap rs).getD j 0=Ap.getD j 0+v5 rs λx=>(aP st (cO st x)).getD j 0
 | [],Ap,_,j=>by show Ap.getD j 0=_+0;omega
 | r::rs,Ap,h,j=>by
  have hr:=h r cM;have e:(List.zipWith (λx t=>x+r.2*t) Ap (aP st (cO st r.1))).length=Ap.length:=by rw[kF,hr];omega
  show(vn st (List.zipWith (λx t=>x+r.2*t) Ap (aP st (cO st r.1))) rs).getD j 0=_;rw[Me rs _ (λx hx=>by rw[e];exact h x (cQ _ hx)),lJ (f:=λx t=>x+r.2*t) (by show(0:Int)+r.2*0=0;omega) hr.symm];unfold v5;rw[bK,b9];show Ap.getD j 0+r.2*(aP st (cO st r.1)).getD j 0+(rs.map λr=>r.2*(aP st (cO st r.1)).getD j 0).sum=Ap.getD j 0+(r.2*(aP st (cO st r.1)).getD j 0+(rs.map λr=>r.2*(aP st (cO st r.1)).getD j 0).sum)
  omega
theorem R1(nd:(b.ah.map (λp:BP=>p.nm)).Nodup)(h:qW b rs)(f:Str->Int):∀i≤rs.length,(b.ah.map λp=>f p.nm*dR (rs.take i) p.nm).sum=v5 (rs.take i) f:=by
 intro i
 induction i with
 | zero=>
  intro _;rw[List.take_zero];show(b.ah.map λp=>f p.nm*0).sum=0;clear nd h;generalize b.ah=ps
  induction ps with
  | nil=>rfl
  | cons p ps ih=>rw[bK,b9,ih];omega
 | succ i ih=>
  intro hi;have ei:=bf (show i<rs.length by omega);obtain⟨_,j,p,hp,e,_⟩:=h.row _ (bg ei);have hn:(rs[i]).1∉(rs.take i).map (λr:Row=>r.1):=by rw[BW];exact kP h.nd (by rw[bV,ei];rfl)
  rw[take_snoc ei];generalize rs[i]=r at *;replace ih:=ih (by omega);generalize rs.take i=us at *;have:v5 (us++[r]) f=v5 us f+r.2*f r.1:=by unfold v5;rw[bN,zu];simp
  rw[this,<-ih];clear this ih hi ei;have hm:=bg hp;clear hp;generalize b.ah=ps at *;clear h
  induction ps with
  | nil=>simp at hm
  | cons x ps ihp=>
   obtain⟨n1,n2⟩:=g_.mp (show(x.nm::ps.map (λp:BP=>p.nm)).Nodup from nd);rw[bK,bK,b9,b9];rcases fm.mp hm with z|z
   .subst z;have Cl:(ps.map λp=>f p.nm*dR (us++[r]) p.nm)=ps.map λp=>f p.nm*dR us p.nm:=qA λy hy=>by rw[nW hn,av (λz=>n1 (aW.mpr ⟨y,hy,z.symm.trans e.symm⟩))]
    rw[Cl,nW hn,ay e.symm,e,vt hn,Int.mul_zero,lC r.2];omega
   .have ne:x.nm≠r.1:=λz'=>n1 (aW.mpr ⟨p,z,e.trans z'.symm⟩);rw[ihp n2 z,nW hn,av (λz=>ne z.symm)];omega
theorem Mf:∀(rs:Da Row){s:HS}{p':Pt},p'∈(rs.foldl eU s).ah->∃p∈s.ah,p'.nm=p.nm/\p'.row=p.row/\p'.sc=p.sc
 | [],_,p',h=>⟨p',h,Z,Z,Z⟩
 | r::rs,s,p',h=>by obtain⟨p,hp,e1,e2,e3⟩:=Mf rs (s:=eU s r) h;obtain⟨_,q,hq,e⟩:=sU hp;refine⟨q,hq,?_⟩;rw[e1,e2,e3,e];split <;> exact⟨Z,Z,Z⟩
def ZE{ps:Da BP}(j:Nat):iD ps (ps.map λp=>dR rs p.nm) j=(ps.map λp=>p.tops.getD j 0*dR rs p.nm).sum:=by
 unfold iD
 induction ps with
 | nil=>rfl
 | cons p ps ih=>rw[bK,uC,b9,bK,b9,ih]
theorem IK(k:Int){α:Type}(l:Da α)(f g:α->Int)(h:∀x∈l,f x*k=g x):(l.map f).sum*k=(l.map g).sum:=by
 induction l with
 | nil=>show(0:Int)*k=0;omega
 | cons x l ih=>rw[bK,bK,b9,b9,nM,ih λy hy=>h y (cQ _ hy),h x cM]
theorem Bj{st st':HS}{kept whole:Int}{added:Da Int}(wf:Wf st)(bl:nT st kept whole lost added)(ec:st'.bX=(bu st kept whole added).bX)(ep:st'.prod=(bu st kept whole added).prod){p':Pt}(hp:p∈st.ah)(e2:p'.row=p.row)(e3:p'.sc=p.sc*kept / cA st kept whole added){t0 gB B:Int}{j:Nat}(tj:t0*st.prod=(aP st p).getD j 0*B)(eB:gB*st.prod=added.getD j 0*B):(t0*kept+gB)*st'.prod=(aP st' p').getD j 0*(B*whole):=by
 obtain⟨hd,Uz,hds,hdc⟩:=bl.dvds
 have ahR:st'.bX=(gJ st kept added).map (· / cA st kept whole added):=by rw[ec];unfold bu;rw[Iz]
 have s1:1<=whole / cA st kept whole added:=by
  have w1:0<whole:=by have:=bl.l;have:=bl.w;have:=bl.k;omega
  have:=D9 w1 Uz;exact Ro hd (by omega)
 have Yd:st'.prod=st.prod*(whole / cA st kept whole added):=by rw[ep];unfold bu;rw[vm s1]
 have hds:=hds p hp
 have hrl:=wf.rows p hp
 have hcl:=wf.gf
 have gl:=bl.len
 have ewd:cA st kept whole added*(whole / cA st kept whole added)=whole:=Int.mul_ediv_cancel' Uz
 have a5:cA st kept whole added*p'.sc=p.sc*kept:=by rw[e3];exact Int.mul_ediv_cancel' hds
 rw[Yd]
 clear ec ep Yd e3 bl Uz hds s1
 generalize cA st kept whole added=d at *
 have etop:d*(aP st' p').getD j 0=(aP st p).getD j 0*kept+added.getD j 0:=by
  have a1:(aP st' p').getD j 0=p'.sc*p.row.getD j 0+((gJ st kept added).map (· / d)).getD j 0:=by unfold aP;rw[ahR,e2,lJ (f:=λr c=>p'.sc*r+c) (by show p'.sc*0+0=0;omega)];rw[aE];unfold gJ;rw[kF,gl,hrl,hcl];omega
  have a2:(aP st p).getD j 0=p.sc*p.row.getD j 0+st.bX.getD j 0:=by unfold aP;exact lJ (f:=λr c=>p.sc*r+c) (by show p.sc*0+0=0;omega) (by rw[hrl,hcl]) j
  have a3:(gJ st kept added).getD j 0=st.bX.getD j 0*kept+added.getD j 0:=by unfold gJ;exact lJ (f:=λt m=>t*kept+m) (by show(0:Int)*_+0=0;omega) gl.symm j
  have a4:d*((gJ st kept added).map (· / d)).getD j 0=(gJ st kept added).getD j 0:=by
   rw[dD,dD,bV];cases ec:(gJ st kept added)[j]? with
   | none=>show _*0=(0:Int);omega
   | some x=>exact Int.mul_ediv_cancel' (hdc x (bg ec))
  rw[a1,lD,<-iR,a5,a4,a3,a2]
  grind
 generalize whole / d=UA at *
 generalize (aP st' p').getD j 0=T' at *
 generalize (aP st p).getD j 0=T at *
 generalize added.getD j 0=gS at *
 refine Int.eq_of_mul_eq_mul_left (a:=d) (by omega) ?_
 have l1:d*((t0*kept+gB)*(st.prod*UA))=(t0*st.prod*kept+gB*st.prod)*(d*UA):=by grind
 have l2:d*(T'*(B*whole))=(d*T')*(B*whole):=by grind
 rw[l1,l2,ewd,tj,eB,etop]
 grind
theorem UB{st:HS}(t:Dw st b)(rl:kR st b)(wf:Wf st)(wb:xY b)(c:nj st rs)(rb:qW b rs)(bo:kQ b (dg b rs) 0 0):Dw (gQ st rs) (jg b (dg b rs) 0 0):=by
 intro p' eZ q' hq' en j;have bl:=c.blend wf;have ew:=rl.whole;have v7:∀r∈rs,∃p∈st.ah,p.nm=r.1:=λr hr=>by obtain⟨p,hp,e,_⟩:=(c.row r hr).2.2;exact⟨p,hp,e⟩
 have eG:=Bd wf v7;have gl:(gD st rs).length=st.bX.length:=bl.len;obtain⟨p1,hp1,e1,e2,e3⟩:=Mf rs (s:=bu st (aI st-bF rs) (aI st) (gD st rs)) eZ;have eK:=j_ rs (bu st (aI st-bF rs) (aI st) (gD st rs));have ahS:p1∈st.ah.map (λp:Pt=>{ p with sc:=p.sc*(aI st-bF rs) / cA st (aI st-bF rs) (aI st) (gD st rs) }):=by have h:=hp1;unfold bu at h;rw[lu]at h;exact h
 obtain⟨p,hp,rfl⟩:=aW.mp ahS;have e1:p'.nm=p.nm:=e1;have e2:p'.row=p.row:=e2;have e3:p'.sc=p.sc*(aI st-bF rs) / cA st (aI st-bF rs) (aI st) (gD st rs):=e3;have hcl:=wf.gf;obtain⟨h1,_⟩:=iG.mp (show q'∈(c_ b (dg b rs) 0 0).filter _ from hq');obtain⟨k,q,a,eq,_,lU⟩:=jm (show q'∈List.zipWith (nt (iu b (dg b rs) 0 0) (bL b-0-(dg b rs).sum)) b.ah (dg b rs)from h1);have hq:=bg eq;have enq:p.nm=q.nm:=by rw[<-e1,en,lU];rfl
 have tj:=t p hp q hq enq j;have hs:=IE wb.nd rb rs.length (aL _);rw[cL]at hs;have eqt:q'.tops.getD j 0=q.tops.getD j 0*(bL b-bF rs)+(gK b (dg b rs)).getD j 0:=by rw[lU];show(List.zipWith _ q.tops (iu b (dg b rs) 0 0)).getD j 0=_;rw[lJ (f:=λt g=>t*(bL b-0-(dg b rs).sum)+g) (by show(0:Int)*_+0=0;omega) (by rw[wb.tl q hq,vZ]),hs,xJ];rfl
 have eGj:(gD st rs).getD j 0=v5 rs λx=>(aP st (cO st x)).getD j 0:=by
  rw[eG,Me rs _ (λr hr=>by obtain⟨x,hx,e⟩:=v7 r hr;rw[dS wf hx e,jd,sS wf hx])]
  have:(List.replicate st.bX.length (0:Int)).getD j 0=0:=by rw[dD,Ri];split <;> rfl
  omega
 have eBj:(gK b (dg b rs)).getD j 0*st.prod=(gD st rs).getD j 0*b.bot:=by
  have pr:=R1 wb.nd rb (λx=>(aP st (cO st x)).getD j 0) rs.length (aL _);rw[cL]at pr;rw[eGj,<-pr];by_cases cj:j<b.own.length
  .have e:(gK b (dg b rs)).getD j 0=(b.ah.map λp=>p.tops.getD j 0*dR rs p.nm).sum:=by unfold gK;rw[dD,bV,List.getElem?_range cj];exact ZE j
   rw[e,IK st.prod b.ah (λp=>p.tops.getD j 0*dR rs p.nm) (λp=>((aP st (cO st p.nm)).getD j 0*dR rs p.nm)*b.bot) (λx hx=>?_)]
   .exact (IK b.bot b.ah (λp=>(aP st (cO st p.nm)).getD j 0*dR rs p.nm) _ λx _=>rfl).symm
   .obtain ⟨i,hi,ei⟩:=m8 hx;obtain⟨y,hy,ey,_⟩:=rl.at (i:=i) (q:=x) (by rw[bf hi,ei])
    have hy:=bg hy;have:=t y hy x hx ey j;rw[dS wf hy ey,Int.mul_right_comm,this,Int.mul_right_comm]
  .have z1:(gK b (dg b rs)).getD j 0=0:=by rw[dD,m7 (by rw[lH];omega)];rfl
   have z2:(gD st rs).getD j 0=0:=by rw[dD,m7 (by rw[gl,hcl,rl.own];omega)];rfl
   rw[z1,pr,<-eGj,z2];omega
 rw[eqt,<-ew];show _=(aP (gQ st rs) p').getD j 0*(b.bot*bL b);rw[<-ew];exact Bj wf bl (by unfold gQ;rw[eK]) (by unfold gQ;rw[eK]) hp e2 e3 tj eBj
theorem UC{st:HS}(t:Dw st b)(rl:kR st b)(wf:Wf st)(wb:xY b)(h1:x∉b.ah.map (λp:BP=>p.nm)):Dw (xT st x o wo we) (zX b x o wo we):=by
 intro p hp q hq en j;have nmE:∀y∈st.ah,y.nm∈b.ah.map (λp:BP=>p.nm):=λy hy=>by obtain⟨i,hi,ei⟩:=m8 hy;obtain⟨z,hz,ez,_⟩:=rl.at' (i:=i) (p:=y) (by rw[bf hi,ei]);rw[ez];exact aW.mpr ⟨z,bg hz,Z⟩
 show q.tops.getD j 0*st.prod=(aP st p).getD j 0*b.bot;rcases c7.mp (show p∈st.ah++[_]from hp)with zp|zp
 .rcases c7.mp (show q∈b.ah++[_]from hq)with zq|zq
  .exact t p zp q zq en j
  .rw [dF.mp zq]at en;have en:p.nm=x:=en;exact absurd (by rw[<-en];exact nmE p zp) h1
 .rcases c7.mp (show q∈b.ah++[_]from hq)with zq|zq
  .rw [dF.mp zp]at en;have en:x=q.nm:=en;exact absurd (by rw[en];exact aW.mpr ⟨q,zq,Z⟩) h1
  .rw [dF.mp zp,dF.mp zq];have e1:aP st ⟨x,o,wo,we,1,mD st ((List.replicate st.own.length 0).set (st.own.idxOf o) st.prod)⟩=(List.replicate st.own.length 0).set (st.own.idxOf o) st.prod:=by show List.zipWith (λr c=>1*r+c) (List.zipWith (λt c=>t-c) ((List.replicate st.own.length 0).set (st.own.idxOf o) st.prod) st.bX) st.bX=_;rw[Dp,wf.gf];exact KR (by rw[fH,jd];exact aL _)
   rw[e1,rl.own];show((List.replicate b.own.length 0).set (b.own.idxOf o) b.bot).getD j 0*st.prod=((List.replicate b.own.length 0).set (b.own.idxOf o) st.prod).getD j 0*b.bot;have key:∀v:Int,((List.replicate b.own.length 0).set (b.own.idxOf o) v).getD j 0=if b.own.idxOf o=j/\j<b.own.length then v else 0:=λv=>by
    rw[dD,Rx];by_cases c:b.own.idxOf o=j
    .rw [ay c];by_cases d:b.own.idxOf o<(List.replicate b.own.length (0:Int)).length
     .rw [ay d,ay ⟨c,by rw[jd]at d;omega⟩];rfl
     .rw [av d,av (λz=>d (by rw[jd];omega))];rfl
    .rw [av c,av (λz=>c z.1),Ri];split <;> rfl
   rw[key,key];split
   .exact lC _ _
   .omega
theorem R3{st:HS}{b:BS}(t:Dw st b)(rl:kR st b)(wf:Wf st)(wb:xY b){p:Pt}{q:BP}(hp:p∈st.ah)(hq:q∈b.ah)(e:p.nm=q.nm):nc st p=nh b.own q.tops b.bot:=by
 have p1:=wf.fZ;have b1:=wb.b1;have l1:(aP st p).length=b.own.length:=by rw[sS wf hp,wf.gf,rl.own]
 have l2:q.tops.length=b.own.length:=wb.tl q hq;have tj:=t p hp q hq e;unfold nc nh;rw[rl.own];generalize aP st p=xs at *;generalize q.tops=ys at *;generalize b.own=own at *;have step:∀(own:Da Str)(xs ys:Da Int),xs.length=own.length->ys.length=own.length->(∀j,ys.getD j 0*st.prod=xs.getD j 0*b.bot)->(List.zip own xs).filterMap (λx=>if 0<x.2 then some (x.1,Jm.fr x.2 st.prod) else none)=(List.zip own ys).filterMap λx=>if 0<x.2 then some (x.1,Jm.fr x.2 b.bot) else none:=by
  intro own
  induction own with
  | nil=>intro xs ys _ _ _;simp
  | cons o own ih=>
   intro xs ys h1 h2 h3;cases xs with
   | nil=>simp at h1
   | cons x xs=>
    cases ys with
    | nil=>simp at h2
    | cons y ys=>
     have h0:y*st.prod=x*b.bot:=by simpa using h3 0
     have ih:=ih xs ys (by simpa using h1) (by simpa using h2) (λj=>by simpa using h3 (j+1));rw[List.zip_cons_cons,List.zip_cons_cons,C9,C9,ih];by_cases c:0<x
     .have c2:0<y:=by
       rcases Ed 0 y with z|z
       .exact z
       .have k1:y*st.prod<=0:=Int.mul_nonpos_of_nonpos_of_nonneg z (by omega);have k2:0<x*b.bot:=xK c (by omega);omega
      simp only[ay c,ay c2];rw[Jm.KH (t:=x) (b:=st.prod) (t':=y) (b':=b.bot) (by omega) (by omega) h0.symm]
     .have c2:¬ 0<y:=λz=>by have k1:0<y*st.prod:=xK z (by omega);have k2:x*b.bot<=0:=Int.mul_nonpos_of_nonpos_of_nonneg (by omega) (by omega);omega
      simp only[av c,av c2]
 exact step own xs ys l1 l2 tj
theorem yo{α:Type}(f g:α->Int):∀l:Da α,(l.map λx=>f x+g x).sum=(l.map f).sum+(l.map g).sum
 | []=>rfl
 | a::l=>by rw[bK,bK,bK,b9,b9,b9,yo f g l];omega
theorem lZ{α:Type}(f:α->Int)(k:Int):∀l:Da α,(l.map λx=>f x*k).sum=(l.map f).sum*k
 | []=>by simp
 | a::l=>by rw[bK,bK,b9,b9,lZ f k l,nM]
theorem CV:∀(l:Da Int)(n:Nat),l.length=n->(List.range n).map (λi=>l.getD i 0)=l:=λl n h=>by
 refine List.ext_getElem? λi=>?_;rw[bV];by_cases hi:i<n
 .rw [List.getElem?_range hi,bf (by omega)];show some (l.getD i 0)=_;rw[dD,bf (by omega)];rfl
 .rw [m7 (by rw[Gs];omega),m7 (by omega)];rfl
theorem IL{B:Int}{n:Nat}:∀(ps:Da BP)(as:Da Int),(∀p∈ps,p.tops.length=n/\p.tops.sum=B)->as.length=ps.length->((List.range n).map (iD ps as)).sum=B*as.sum
 | [],[],_,_=>by
  have:(List.range n).map (iD [] [])=(List.range n).map λ_=>(0:Int)*0:=by congr 1
  rw[this,lZ];simp
 | [],_::_,_,h=>by simp at h
 | _::_,[],_,h=>by simp at h
 | p::ps,a::as,hp,hl=>by
  have e:(List.range n).map (iD (p::ps) (a::as))=(List.range n).map λi=>p.tops.getD i 0*a+iD ps as i:=by congr 1
  obtain⟨h1,h2⟩:=hp p cM;have ih:=IL ps as (λx hx=>hp x (cQ _ hx)) (by simpa using hl);rw[e,yo,lZ,CV _ _ h1,ih,h2,b9,lD]
theorem oS:∀{l:Da Int}{i:Nat}{x:Int},i<l.length->(l.set i (l.getD i 0+x)).sum=l.sum+x
 | a::l,0,x,_=>by rw[K1,b9,b9];show a+x+_=_;omega
 | a::l,i+1,x,h=>by rw[K0,b9,b9];have:=oS (l:=l) (i:=i) (x:=x) (by simpa using h);have e:(a::l).getD (i+1) 0=l.getD i 0:=rfl;rw[e,this];omega
 | [],_,_,h=>by simp at h
theorem GP(k:Int):∀{ts gs:Da Int},ts.length=gs.length->(List.zipWith (λt g=>t*k+g) ts gs).sum=ts.sum*k+gs.sum
 | [],[],_=>by simp
 | t::ts,g::gs,h=>by have:=GP k (ts:=ts) (gs:=gs) (by simpa using h);rw[uC,b9,b9,b9,this,nM];omega
 | [],_::_,h=>by simp at h
 | _::_,[],h=>by simp at h
theorem WR(wf:xY b){aw:Int}(ok:kQ b as seat aw)(hs:∀p∈b.ah,p.tops.sum=b.bot):∀p∈(jg b as seat aw).ah,p.tops.sum=(jg b as seat aw).bot:=λp hp=>by
 obtain⟨h1,_⟩:=iG.mp (show p∈(c_ b as seat aw).filter _ from hp);obtain⟨i,x,a,ex,ea,rfl⟩:=jm (show p∈List.zipWith (nt (iu b as seat aw) (bL b-aw-as.sum)) b.ah as from h1);have hx:=bg ex;show(List.zipWith (λt g=>t*(bL b-aw-as.sum)+g) x.tops (iu b as seat aw)).sum=b.bot*bL b;rw[GP _ (by rw[wf.tl x hx,vZ]),hs x hx];have eg:(gK b as).sum=b.bot*as.sum:=IL b.ah as (λp hp=>⟨wf.tl p hp,hs p hp⟩) ok.len;have e2:(iu b as seat aw).sum=b.bot*(as.sum+aw):=by
  unfold iu;by_cases h:0<aw
  .rw [ay h,oS (by rw[lH];exact ok.seat),eg,lD,lC aw]
  .have:aw=0:=by have:=ok.ET;omega
   rw[av h,eg,this,Int.add_zero]
 rw[e2,<-lD];congr 1;omega
inductive oG(own:Da Str):Da lq->Da BE->Prop
 | nil:oG own [] []
 | cons {a:lq} {e:BE} {as:Da lq} {es:Da BE}:a.nm=e.nm->a.ow=e.ow->a.wo=e.wo->a.sh=nh own e.tops e.bot->e.tops.length<=own.length->0<e.bot->Jm.Sz 9000 e.bot->PyData.strOk e.nm=true->PyData.strOk e.ow=true->oG own as es->oG own (a::as) (e::es)
variable {own:Da Str}
def oG.snoc{as:Da lq}{es:Da BE}(h:oG own as es){a:lq}{e:BE}(h1:a.nm=e.nm)(h2:a.ow=e.ow)(h3:a.wo=e.wo)(h4:a.sh=nh own e.tops e.bot)(h5:e.tops.length<=own.length)(h6:0<e.bot)(h7:Jm.Sz 9000 e.bot)(h8:PyData.strOk e.nm=true)(h9:PyData.strOk e.ow=true):oG own (as++[a]) (es++[e]):=by
 induction h with
 | nil=>exact .cons h1 h2 h3 h4 h5 h6 h7 h8 h9 .nil
 | cons a1 a2 a3 a4 a5 a6 a7 a8 a9 _ ih=>exact .cons a1 a2 a3 a4 a5 a6 a7 a8 a9 ih
def ZF:∀{tops:Da Int},tops.length<=own.length->List.zip (own++[o]) tops=List.zip own tops:=by
 induction own with
 | nil=>intro tops h;cases tops with
   | nil=>rfl
   | cons t ts=>exact absurd h (by simp)
 | cons x own ih=>intro tops h;cases tops with
   | nil=>rfl
   | cons t ts=>exact ig _ (ih (by simpa using h))
theorem oG.sign{as:Da lq}{es:Da BE}(h:oG own as es)(o:Str):oG (own++[o]) as es:=by
 induction h with
 | nil=>exact .nil
 | cons a1 a2 a3 a4 a5 a6 a7 a8 a9 _ ih=>exact .cons a1 a2 a3 (by rw[a4];unfold nh;rw[ZF a5]) (by rw[cW];omega) a6 a7 a8 a9 ih
structure dj(c:Nat)(st:HS)(b:BS):Prop where
 fh:xY b
 rel:kR st b
 pU:Dw st b
 bJ:∀u∈st.bJ,Jm.Sz (60*c+60) u
 stp:st.stp.length<=c
 prod:Jm.Sz (60*c+1) st.prod
 bot:Jm.Sz (60*c+1) b.bot
 wo:∀p∈b.ah,p.wo<=1000000000*((c:Int)+1)
 we:∀p∈b.ah,p.we<=1000000000
 pl:b.ah.length<=50+c
 kl:b.d9.length<=900+c
 own:0<b.own.length
 nm:∀p∈b.ah,PyData.strOk p.nm=true/\PyData.strOk p.ow=true
 bB:oG b.own st.bB b.bB
 d9:st.nms=b.d9
 nk:∀x∈b.d9,isNm x=true
 on:∀o∈b.own,isNm o=true
 sum:∀p∈b.ah,p.tops.sum=b.bot
variable {c:Nat}
theorem dj.mono{st:HS}(g:dj c st b):dj (c+1) st b:=⟨g.fh,g.rel,g.pU,λu hu=>(g.bJ u hu).mono (by omega),by have:=g.stp;omega,g.prod.mono (by omega),g.bot.mono (by omega),λp hp=>by have:=g.wo p hp;omega,g.we,by have:=g.pl;omega,by have:=g.kl;omega,g.own,g.nm,g.bB,g.d9,g.nk,g.on,g.sum⟩
theorem CW:∀{ps:Da BP}{m:Int},(∀p∈ps,1<=p.wo/\p.wo<=m)->0<=(ps.map λp=>p.wo).sum/\(ps.map λp=>p.wo).sum<=m*(ps.length:Int)
 | [],m,_=>by show 0<=(0:Int)/\(0:Int)<=m*0;omega
 | p::ps,m,h=>by have h0:=h p cM;have ih:=CW (ps:=ps) (m:=m) λx hx=>h x (cQ _ hx);rw[bK,b9,jf,show(((ps.length+1:Nat)):Int)=(ps.length:Int)+1 from by omega,lD,o_];omega
theorem dj.whole{st:HS}(g:dj c st b)(hc:c<=100):0<=bL b/\Jm.Sz 60 (bL b):=by
 have h:=CW (ps:=b.ah) (m:=101000000000) λp hp=>⟨g.fh.w1 p hp,by have:=g.wo p hp;omega⟩
 refine⟨h.1,?_⟩;have hl:=g.pl;have h2:(101000000000:Int)*(b.ah.length:Int)<=15150000000000:=by omega
 have h3:bL b<=15150000000000:=BZ h.2 h2;have h1:0<=bL b:=h.1;have:Jm.Sz 60 (15150000000000:Int):=gX (by decide +kernel);exact this.of_le (by omega)
variable {st':HS}
theorem Qy{st:HS}{aw kept:Int}(g:dj c st b)(bl:nT st kept (aI st) lost added)(bo:kQ b as seat aw)(hc:c<=90)(eC:st'={ bu st kept (aI st) added with ah:=st'.ah })(rw':kR st' (jg b as seat aw))(rt:Dw st' (jg b as seat aw)):dj (c+1) st' (jg b as seat aw):=by
 have zw:=g.whole (by omega);have ew:=g.rel.whole;obtain⟨hs,hsw,_,_⟩:=bl.dvds;have w1:0<aI st:=by have:=bl.k;have:=bl.l;have:=bl.w;omega
 have s1:1<=aI st / cA st kept (aI st) added:=by have:=D9 w1 hsw;exact Ro hs (by omega)
 have s2:aI st / cA st kept (aI st) added<=aI st:=Ko _ (by omega);have zs:Jm.Sz 60 (aI st / cA st kept (aI st) added):=by have:=zw.2;rw[<-ew]at this;exact this.of_le (by omega)
 have Dv:∀p∈(jg b as seat aw).ah,∃p0∈b.ah,∃a,a∈as/\p=nt (iu b as seat aw) (bL b-aw-as.sum) p0 a:=λp hp=>by obtain⟨h1,_⟩:=iG.mp (show p∈(c_ b as seat aw).filter _ from hp);obtain⟨i,x,a,ex,ea,e⟩:=jm (show p∈List.zipWith (nt (iu b as seat aw) (bL b-aw-as.sum)) b.ah as from h1);exact⟨x,bg ex,a,bg ea,e⟩
 have zb:Jm.Sz (60*(c+1)+1) (b.bot*bL b):=(g.bot.mul zw.2).mono (by omega);refine⟨WQ g.fh bo (zb.mono (by omega)),rw',rt,λu hu=>?_,?_,?_,zb,λp hp=>?_,(λp hp=>by obtain⟨p0,h0,a,_,rfl⟩:=Dv p hp;exact g.we p0 h0),?_,(by show b.d9.length<=_;have:=g.kl;omega),g.own,λp hp=>?_,?_,?_,g.nk,g.on,WR g.fh bo g.sum⟩
 .rw [eC]at hu;have hu:u∈(bu st kept (aI st) added).bJ:=hu;unfold bu at hu;rw[xU]at hu;obtain⟨x,hx,rfl⟩:=aW.mp hu;exact((g.bJ x hx).mul zs).mono (by omega)
 .rw [eC];show(bu st kept (aI st) added).stp.length<=c+1;unfold bu f7;split
  .show (st.stp++[_]).length<=c+1;rw[cW];have:=g.stp;show st.stp.length+1<=c+1;omega
  .show st.stp.length<=c+1;have:=g.stp;omega
 .rw [eC];show Jm.Sz _ (bu st kept (aI st) added).prod;unfold bu;rw[vm s1];exact(g.prod.mul zs).mono (by omega)
 .obtain ⟨p0,h0,a,ha,rfl⟩:=Dv p hp;have:=g.wo p0 h0;have:=bo.a0 a ha;show p0.wo-a<=1000000000*(((c+1:Nat):Int)+1);omega
 .have:=Gk (λp:BP=>decide (0<p.wo)) (c_ b as seat aw);rw[xZ bo.len]at this;have:=g.pl;show(List.filter _ _).length<=_;omega
 .obtain ⟨p0,h0,a,_,rfl⟩:=Dv p hp;exact g.nm p0 h0
 .rw [eC];show oG b.own (bu st kept (aI st) added).bB b.bB;unfold bu;rw[xW];exact g.bB
 .rw [eC];show(bu st kept (aI st) added).nms=b.d9;unfold bu;rw[xV];exact g.d9
def ZG{st:HS}(g:dj c st b)(wf:Wf st)(ok:nj st rs)(rb:qW b rs)(bo:kQ b (dg b rs) 0 0)(hc:c<=90):dj (c+1) (gQ st rs) (jg b (dg b rs) 0 0):=Qy g (ok.blend wf) bo hc (j_ rs (bu st (aI st-bF rs) (aI st) (gD st rs))) (Uw g.rel wf ok) (UB g.pU g.rel wf g.fh ok rb bo)
def ZH(st:HS)(rs:Da Row):(gQ st rs).kn<=st.kn:=by
 unfold gQ;rw[j_];show(bu st (aI st-bF rs) (aI st) (gD st rs)).kn<=st.kn;unfold bu f7;split
 .exact iH _
 .exact aL _
theorem Cm(h:isNm x=true):PyData.strOk x=true:=by
 unfold PyData.strOk;rw[Array.all_eq_true'];intro c hc;unfold isNm isName at h;have h1:=qD.mp (oz.mp h).2 c (by simpa using hc);rw[Zm]at h1;have hm:=dN h1;have:∀c∈("abcdefghijklmnopqrstuvwxyz":Str).cps.toList,c<1000:=by decide +kernel
 have:=this c hm;exact bR (by omega)
def sV(n:Nat):(List.replicate n (0:Int)).sum=0:=by
 induction n with
 | zero=>rfl
 | succ n ih=>rw[zg,b9,ih];rfl
theorem ZI{st:HS}(g:dj c st b)(wf:Wf st)(h1:x∉b.ah.map (λp:BP=>p.nm))(h2:1<=wo)(h2':wo<=1000000000)(h3:b.ah.length<50)(h4:b.d9.length<900)(hx:isNm x=true)(ho:o∈b.own)(h5:we<=1000000000):dj c (xT st x o wo we) (zX b x o wo we):=by
 have P:∀{M:BP->Prop},(∀p∈b.ah,M p)->M ⟨x,o,wo,we,(List.replicate b.own.length 0).set (b.own.idxOf o) b.bot⟩->∀p∈(zX b x o wo we).ah,M p:=λa c p hp=>by
  rcases c7.mp (show p∈b.ah++[_]from hp)with z|z
  .exact a p z
  .rw [dF.mp z];exact c
 refine⟨ZD g.fh h1 h2 (by omega) (by omega),Ux g.rel x o wo we,UC g.pU g.rel wf g.fh h1,g.bJ,g.stp,g.prod,g.bot,P g.wo (by show wo<=_;omega),P g.we h5,by show(b.ah++[_]).length<=50+c;rw[cW];show b.ah.length+1<=50+c;omega,by show(b.d9++[_]).length<=900+c;rw[cW];show b.d9.length+1<=900+c;omega,g.own,P g.nm ⟨Cm hx,Cm (g.on o ho)⟩,g.bB,?_,?_,g.on,P g.sum ?_⟩
 .show st.nms++[x]=b.d9++[x];rw[g.d9]
 .intro y hy;rcases c7.mp (show y∈b.d9++[x]from hy)with z|z
  .exact g.nk y z
  .rw [dF.mp z];exact hx
 .show ((List.replicate b.own.length 0).set (b.own.idxOf o) b.bot).sum=b.bot;have hi:b.own.idxOf o<(List.replicate b.own.length (0:Int)).length:=by rw[jd];exact KQ.mpr ho
  have:=oS (x:=b.bot) hi;rw[show(List.replicate b.own.length (0:Int)).getD (b.own.idxOf o) 0=0 from by rw[dD,bf hi,List.getElem_replicate];rfl,xH,sV,xH]at this;exact this
theorem nX:∀(l:Da Str)(st:HS),st.ah=[]->(∀u∈st.bJ,u=0)->(l.foldl fu st).ah=[]/\(l.foldl fu st).nms=st.nms/\(l.foldl fu st).stp=st.stp/\(l.foldl fu st).prod=st.prod/\(l.foldl fu st).bB=st.bB/\∀u∈(l.foldl fu st).bJ,u=0
 | [],_,h,hp=>⟨h,Z,Z,Z,Z,hp⟩
 | o::l,st,h,hp=>by
  rw[jV];exact nX l (fu st o) (by show st.ah.map _=[];rw[h];rfl) (λu hu=>by
   rcases c7.mp (show u∈st.bJ++[0]from hu)with z|z
   .exact hp u z
   .exact dF.mp z)
def gd0(h0:0<own.length)(h1:own.length<=100)(hon:∀o∈own,isNm o=true):dj 0 (own.foldl fu hs0) ⟨own,[],1,[],[]⟩/\(own.foldl fu hs0).nms=[] :=by obtain⟨k1,k2,k3,k4,k5,k6⟩:=nX own hs0 rfl (λu hu=>absurd hu (by simp[hs0]));refine⟨⟨⟨xF,λp hp=>absurd hp (by simp),λp hp=>absurd hp (by simp),eO _,(by show Jm.Sz 7000 1;exact gX (by decide +kernel)),λp hp=>absurd hp (by simp),h1,iH _,iH _⟩,⟨by rw[ug];rfl,by unfold h_ lI;rw[k1];rfl⟩,(λp hp=>by rw[k1]at hp;exact absurd hp (by simp)),(λu hu=>by rw[k6 u hu];exact gX (by decide +kernel)),by rw[k3];exact aL _,(by rw[k4];show Jm.Sz (60*0+1) 1;exact gX (by decide +kernel)),(by show Jm.Sz (60*0+1) 1;exact gX (by decide +kernel)),λp hp=>absurd hp (by simp),λp hp=>absurd hp (by simp),iH _,iH _,h0,λp hp=>absurd hp (by simp),(by rw[k5];exact .nil),k2,(λx hx=>nomatch hx),hon,λp hp=>absurd hp (by simp)⟩,k2⟩
theorem Oz{st:HS}(g:dj c st b)(wf:Wf st)(h:Bf (mO b) rs)(hne:rs≠[])(hc:c<=90):nj st rs/\qW b rs/\kQ b (dg b rs) 0 0:=by
 have eW:bF (mO b)=bL b:=by unfold bF mO bL;rw[dJ];rfl
 have hl:bF rs<bL b:=by
  rcases h.lost with z|z
  .rw [<-eW];exact z
  .exact absurd z hne
 have rb:qW b rs:=⟨h.nd,λr hr=>by obtain⟨r1,_,w,hw,e,le⟩:=h.row r hr;obtain⟨p,hp,rfl⟩:=aW.mp hw;obtain⟨j,hj,ej⟩:=m8 hp;exact⟨r1,j,p,by rw[bf hj,ej],e,le⟩⟩
 have zw:=g.whole (by omega);refine⟨⟨h.nd,hne,?_,λr hr=>?_,by rw[g.rel.whole];exact hl,by rw[g.rel.whole];exact zw.2,g.prod.mono (by omega),λu hu=>(g.bJ u hu).mono (by omega),by have:=g.stp;omega⟩,rb,GN g.fh rb hl g.own zw.2⟩
 .have:=h.len;unfold mO at this;rw[aE]at this;have:=g.pl;omega
 .obtain ⟨r1,j,q,hq,e,le⟩:=rb.row r hr;obtain⟨p,hp,e1,_,e3,_⟩:=g.rel.at hq;have r2:=(h.row r hr).2.1;have:Jm.Sz 60 (1000000000:Int):=gX (by decide +kernel);exact⟨r1,this.of_le (by omega),p,bg hp,e1.trans e,by rw[e3];exact le⟩
def um(K:Fg)(ρ:eF)(H:Hp)(z:Addr)(xs:Da V):Prop:=∀(ρ':eF)(H':Hp),aK (out ρ H) (out ρ' H')->aB K H' z xs
def um.of(h:aB K H z xs):um K (λ_=>none) H z xs:=λρ' H' s=>by
 rcases h with(h|⟨o,h⟩)|h
 .exact .inl (.inl (zO (s _ _ (EJ h rfl))).1)
 .exact .inl (.inr ⟨o,(zO (s _ _ (EJ h rfl))).1⟩)
 .exact .inr h
def um.go(h:um K ρ H z xs)(s:aK (out ρ H) (out ρ' H')):um K ρ' H' z xs:=λ_ _ s'=>h _ _ (s.trans s')
theorem HH.other{st:HS}(h:HH T n ρ A H st)(f:Fr m ρ H ρ' H')(g:Gh ρ' H')(e:n≠m):HH T n ρ' A H' st:=⟨g,h.h.other f h.g e,h.wf⟩
theorem Mg:∀(l:Da Str)(st:HS),(l.foldl fu st).kn=st.kn
 | [],_=>rfl
 | o::l,st=>by rw[jV,Mg l];rfl
structure dh(K:Fg)(x:Str)(st:Stmt):Prop where
 ex:∃(f:Addr)(oc:Value)(od an:Option Addr)(sl:Array (Option Value))(kV dc pm cd ct:Value),PySem.W.nsIn K mainGlobals x=some (some (.ref f))/\K.lookup f=some ⟨oc,od,.func (PySem.W.fnOf x x (gG st) (dX st) (aD st) .none kV dc pm an cd ct),sl⟩/\PySem.W.codeIn K cd x=true/\PySem.W.keepIn K (.ref f)=true
def dh.at{st:Stmt}(d:dh K x st)(X:K.In h)(G:h.Ns mainGlobals mg):∃f fd,At K mg x st f fd:=by obtain⟨f,oc,od,an,sl,kV,dc,pm,cd,ct,a,l,c,k⟩:=d.ex;exact⟨f,_,XS X G a l c k⟩
structure dP(K:Fg)(C:Addr)(n qual:Str)(st:Stmt):Prop where
 ex:∃(f:Addr)(oc:Value)(od an:Option Addr)(sl:Array (Option Value))(kV dc pm cd ct:Value),PySem.W.findIn K (.ref C) n=some (some (.ref f))/\PySem.W.isFn K (.ref f)=true/\K.lookup f=some ⟨oc,od,.func (PySem.W.fnOf n qual (gG st) (dX st) (aD st) .none kV dc pm an cd ct),sl⟩/\PySem.W.codeIn K cd qual=true/\PySem.W.keepIn K (.ref f)=true
def dP.at{n:Str}{st:Stmt}(d:dP K C n qual st)(cl:qK K C):∃f fd,jj K C n qual st f fd:=by obtain⟨f,oc,od,an,sl,kV,dc,pm,cd,ct,a,i,l,c,k⟩:=d.ex;exact⟨f,_,Lq l c k,⟨a,i,k⟩,cl⟩
def dP.made{st:Stmt}(d:dP K C "__init__" qual st)(X:K.In h)(G:h.Ns mainGlobals mg)(a0:PySem.W.nsIn K mainGlobals x=some (some (.ref C)))(m:PySem.W.makesIn K C=true)(kc:PySem.W.keepIn K (.ref C)=true):∃f fd,Io K mg x C qual st f fd:=by obtain⟨f,oc,od,an,sl,kV,dc,pm,cd,ct,a,i,l,c,k⟩:=d.ex;exact⟨f,_,Lq l c k,⟨m,a,i,kc⟩,PySem.W.mg_of X G a0⟩
variable {oc pm ct:Value}{od an:Option Addr}{sl:Array (Option Value)}
def dh.of{st:Stmt}{kV dc cd:Value}(a:PySem.W.nsIn K mainGlobals x=some (some (.ref f)))(l:K.lookup f=some ⟨oc,od,.func (PySem.W.fnOf x x (gG st) (dX st) (aD st) .none kV dc pm an cd ct),sl⟩)(c:PySem.W.codeIn K cd x=true)(k:PySem.W.keepIn K (.ref f)=true):dh K x st:=⟨⟨_,_,_,_,_,_,_,_,_,_,a,l,c,k⟩⟩
def dP.of{n:Str}{st:Stmt}{kV dc cd:Value}(a:PySem.W.findIn K (.ref C) n=some (some (.ref f)))(i:PySem.W.isFn K (.ref f)=true)(l:K.lookup f=some ⟨oc,od,.func (PySem.W.fnOf n qual (gG st) (dX st) (aD st) .none kV dc pm an cd ct),sl⟩)(c:PySem.W.codeIn K cd qual=true)(k:PySem.W.keepIn K (.ref f)=true):dP K C n qual st:=⟨⟨_,_,_,_,_,_,_,_,_,_,a,i,l,c,k⟩⟩
section
variable {X:Cx}
variable {o i:Expr}{pos:Pos}{td ty:TE}
end
section
variable {a b:Da Nat}{m v:Int}(ha:qO a)(hb:qO b)(hm:1<=m)(hm2:m<=1000000000)(hv:0<=v)(hv2:v<=1000000000)
include ha hb hm hm2 hv hv2 in
end
section
variable {X:Cx}
end
section
variable {X:Cx}
end
section
variable {P:Program}{w:World}{K:Fg}{mg:SO}{base:Heap}{N:Da Str}{qual:Str}{scope:Scope}{f:Addr}{cd:Value}{A:Around}{outer:Da Env}{s0:Shared}{H0:Hp}{E:XK}{CX:AG}
end
section
variable {P:Program}{w:World}{K:Fg}{mg:SO}{base:Heap}{N:Da Str}{qual:Str}{scope:Scope}{f:Addr}{cd:Value}{A:Around}{outer:Da Env}{s0:Shared}{H0:Hp}{E:XK}
end
section
variable {X:Cx}{AC:AO}{σ:St}{Hc H:Hp}{sc s:Shared}{x C:Addr}{fl:Value}
end
section
variable {X:Cx}{AC:AO}{σ:St}{Hc H:Hp}{sc s:Shared}{x C:Addr}{fl:Value}
end
section
variable {X:Cx}{AC:AO}{σ:St}{Hc H:Hp}{sc s:Shared}{x C:Addr}{fl:Value}
end
open PySem.W PySem.Calls Builtin.ObjectAttr Builtin.Getset_descriptor
section
variable {prog:Program}{w:World}{A:Around}{E:VS}{h:Heap}{g:Array GenState}{d:Drawn}{t:Nat}{os:OsState}{x C:Addr}{o:Obj}{K:Frag}{R:Result->Shared->Prop}
end
section
variable {X:Cx}
end
structure Ec where
 (bad twice aeK ab9 aeL ab_ ahT rows ahU aeM akK:Addr)
section
end
section
variable {P:Program}{w:World}{K:Fg}{mg:SO}{base:Heap}{N:Da Str}{qual:Str}{scope:Scope}{f:Addr}{cd:Value}{A:Around}{outer:Da Env}{s0:Shared}{H0:Hp}{E:XK}
end
section
variable {X:Cx}
end
def Ec.at(e:Ec):Nat->Addr
 | 0=>e.bad|1=>e.twice|2=>e.aeK|3=>e.ab9|4=>e.aeL|5=>e.ab_|6=>e.ahT|7=>e.rows|8=>e.ahU|_=>e.aeM
def Rf(e:Ec)(E:XK)(H:Hp)(i:Nat):Prop:=∀x H',aK H H'->E (.ref x) (some (e.at i)) H'
structure IM(T:TC)(e:Ec)(n:Nat)(ρ:eF)(A:HA)(H:Hp)(r:Option Nat)(st':HS)(Q:VK)(E:XK):Prop where
 no:∀i,r=some i->Rf e E H i
 ok:r=none->xS T n ρ A H st' λH'=>Q .cy H'
def newR(st:HS)(x:Str):Option Nat:=if isNm x=true then(if x∈st.nms then some 1 else none) else some 0
def z6(st:HS)(o:Str):Option Nat:=if isNm o=true then(if o∈st.own then some 1 else none) else some 0
def EY(st:HS)(x o:Str)(wo we:Int):Option Nat:=match newR st x with
 | some i=>some i
 | none=>if o∈st.own then(if wo<1\/we<0 then some 5 else none) else some 2
inductive ZJ(T:TC)(e:Ec)(vs:Da V)(H:Hp)(Q:VK)(E:XK):Prop
 |mk(n ρ A st o:_)(_:vs=[.ref A.a,.str o])(_:aX T n ρ A H st)(_:(o∉st.own->Rf e E H 2))(_:(o∈st.own->Q (.int (st.own.idxOf o:Int)) H))
def z7(T:TC)(e:Ec):Sp:=bx (ZJ T e)
inductive WS(T:TC)(e:Ec)(vs:Da V)(H:Hp)(Q:VK)(E:XK):Prop
 |mk(n ρ A st x:_)(_:vs=[.ref A.a,.str x])(_:aX T n ρ A H st)(_:(st.ah.map (·.nm)).Nodup)(_:((∀p∈st.ah,p.nm≠x)->Rf e E H 3))(_:∀(i:Nat) (p:Pt) (q:Addr×Addr×Addr),p.nm=x->st.ah[i]?=some p->A.qs[i]?=some q->Q (.ref q.1) H)
def nu(T:TC)(e:Ec):Sp:=bx (WS T e)
inductive R4(T:TC)(e:Ec)(vs:Da V)(H:Hp)(Q:VK)(E:XK):Prop
 |mk(n ρ A st x:_)(_:vs=[.ref A.a,.str x])(_:aX T n ρ A H st)(_:x.cps.toList.length<=100000)(_:(∀i,newR st x=some i->Rf e E H i))(_:(newR st x=none->∀H',aK H H'->Q .cy H'))
def yp(T:TC)(e:Ec):Sp:=bx (R4 T e)
def Bk{st:HS}(h1:isNm x=true)(h2:x∉st.nms):newR st x=none:=by unfold newR;rw[ay h1,av h2]
theorem EZ{st:HS}(h1:isNm x=true)(h2:x∉st.nms)(h3:o∈st.own)(h4:1<=wo)(h5:0<=we):EY st x o wo we=none:=by unfold EY;rw[Bk h1 h2];show(if o∈st.own then _ else _)=_;rw[ay h3,av (by omega)]
def IM.of{e:Ec}{r:Option Nat}(h:r=none)(q:xS T n ρ A H st' λH'=>Q .cy H'):IM T e n ρ A H r st' Q E0:=⟨(λi z=>by rw[h]at z;cases z),λ_=>q⟩
inductive Dd where
 | sign (o:Str)|load (x o:Str) (wo we:Int)|cast (rs:Da Row)|award (o:Str) (a:Int)|mishap (x:Str) (a:Int)|rise (x:Str) (a:Int)|hand (x o:Str)|land (x:Str)|sever (x y:Str) (a we:Int)|still
def kg:Da Row->Da V
 | []=>[]
 | r::rs=> .str r.1 :: .int r.2::kg rs
def Dd.v:Dd->Da V
 | .sign o=>[.str "sign",.str o]
 | .load x o wo we=>[.str "load",.str x,.str o,.int wo,.int we]
 | .cast rs=> .str "cast"::kg rs
 | .award o a=>[.str "award",.str o,.int a]
 | .mishap x a=>[.str "mishap",.str x,.int a]
 | .rise x a=>[.str "rise",.str x,.int a]
 | .hand x o=>[.str "hand",.str x,.str o]
 | .land x=>[.str "land",.str x]
 | .sever x y a we=>[.str "sever",.str x,.str y,.int a,.int we]
 | .still=>[.str "still"]
def fV(st:HS):Da Str:=st.ah.map λp=>p.nm
def mE(st:HS)(r:Row):Option Nat:=if r.1∈fV st then(if r.2<1 then some 5 else if(cO st r.1).wo<r.2 then some 6 else none) else some 3
def x8(st:HS)(rs:Da Row):Option Nat:=if rs≠[]/\(rs.map λr:Row=>r.1).Nodup then(match rs.findSome? (mE st)with
 | some i=>some i
 | none=>if aI st<=bF rs then some 6 else none) else some 7
def nv(st:HS)(o:Str)(a:Int):Option Nat:=if o∈st.own then(if a<1 then some 5 else if aI st<=a then some 6 else none) else some 2
def tV(st:HS)(x:Str)(a:Int):Option Nat:=if x∈fV st then(if a<1 then some 5 else none) else some 3
def pC(st:HS)(x o:Str):Option Nat:=if x∈fV st then(if o∈st.own then none else some 2) else some 3
def qX(st:HS)(x:Str):Option Nat:=if x∈fV st then none else some 3
def kT(st:HS)(x y:Str)(a we:Int):Option Nat:=if x∈fV st then(match newR st y with
 | some i=>some i
 | none=>if a<1\/we<0 then some 5 else if(cO st x).wo<=a\/(cO st x).we<we then some 6 else none) else some 3
def pV(st:HS):Dd->Option Nat
 | .sign o=>z6 st o
 | .load x o wo we=>EY st x o wo we
 | .cast rs=>x8 st rs
 | .award o a=>nv st o a
 | .mishap x a=>mE st (x,a)
 | .rise x a=>tV st x a
 | .hand x o=>pC st x o
 | .land x=>qX st x
 | .sever x y a we=>kT st x y a we
 | .still=>none
def Bl(st:HS)(o:Str)(a:Int):HS:=bu st (aI st-a) (aI st) ((List.replicate st.own.length 0).set (st.own.idxOf o) (a*st.prod))
def oU(st:HS)(x:Str)(f:Pt->Pt):HS:={ st with ah:=st.ah.map λp=>if p.nm=x then f p else p }
def E1(st:HS)(x:Str)(a:Int):HS:=oU st x λp=>{ p with wo:=p.wo+a }
def nY(st:HS)(p:Pt)(o:Str):Da Int:=((aP st p).set (st.own.idxOf o) ((aP st p).getD (st.own.idxOf o) 0+(aP st p).getD (st.own.idxOf p.ow) 0)).set (st.own.idxOf p.ow) 0
def iV(st:HS)(x o:Str):HS:=if st.own.idxOf o=st.own.idxOf (cO st x).ow then st else oU st x λp=>{ p with ow:=o,sc:=1,row:=mD st (nY st p o) }
def gF(st:HS)(p:Pt):Da Int:=List.zipWith (λu t=>u+p.wo*t) st.bJ (aP st p)
def qY(st:HS)(x:Str):HS:={ st with ah:=st.ah.filter (λp=>decide (p.nm≠x)),bB:=st.bB++[⟨x,(cO st x).ow,(cO st x).wo,nc st (cO st x)⟩],kn:=st.kn+100,bJ:=(gF st (cO st x)).set (st.own.idxOf (cO st x).ow) ((gF st (cO st x)).getD (st.own.idxOf (cO st x).ow) 0-(cO st x).wo*st.prod) }
def qZ(st:HS)(x y:Str)(a we:Int):HS:=zS (oU st x λp=>{ p with wo:=p.wo-a,we:=p.we-we }) ⟨y,(cO st x).ow,a,we,(cO st x).sc,(cO st x).row⟩
def jQ(st:HS):Dd->HS
 | .sign o=>fu st o
 | .load x o wo we=>xT st x o wo we
 | .cast rs=>gQ st rs
 | .award o a=>Bl st o a
 | .mishap x a=>eU st (x,a)
 | .rise x a=>E1 st x a
 | .hand x o=>iV st x o
 | .land x=>qY st x
 | .sever x y a we=>qZ st x y a we
 | .still=>st
def wl(s:Str):Nat:=s.cps.toList.length
section
variable {X:Cx}
end
section
variable {P:Program}{w:World}{K:Fg}{mg:SO}{base:Heap}{k:Nat}{T:TC}{e:Ec}{ps:Da Str}
end
def nB(i:Int):Prop:=-1000000000<=i/\i<=1000000000
def CY:Dd->Prop
 | .sign o=>wl o<=20
 | .load x o wo we=>wl x<=20/\wl o<=20/\nB wo/\nB we
 | .cast rs=>rs.length<=60/\∀r∈rs,wl r.1<=20/\nB r.2
 | .award o a=>wl o<=20/\nB a
 | .mishap x a=>wl x<=20/\nB a
 | .rise x a=>wl x<=20/\nB a
 | .hand x o=>wl x<=20/\wl o<=20
 | .land x=>wl x<=20
 | .sever x y a we=>wl x<=20/\wl y<=20/\nB a/\nB we
 | .still=>True
def Dd.k:Dd->Nat
 | .sign _=>0 | .load .. =>1 | .cast _=>2 | .award .. =>3 | .mishap .. =>4 | .rise .. =>5 | .hand .. =>6 | .land _=>7 | .sever .. =>8 | .still=>9
theorem UD:∀{l:Da Int},(∀x∈l,0<=x)->0<=l.sum
 | [],_=>eO _
 | a::l,h=>by rw[b9];have:=h a cM;have:=UD (l:=l) λx hx=>h x (cQ _ hx);omega
theorem Bm:∀(l m:Da Row),kg (l++m)=kg l++kg m
 | [],_=>rfl
 | r::l,m=>by
  show V.str r.1::V.int r.2::kg (l++m)=V.str r.1::V.int r.2::(kg l++kg m)
  rw[Bm l m]
theorem Bo:∀l:Da Row,(kg l).length=2*l.length
 | []=>rfl
 | r::l=>by show(kg l).length+1+1=_;rw[Bo l,jf];omega
theorem kU(h:isNm x=true):wl x<=20:=by unfold isNm isName at h;have:=dN (oz.mp (oz.mp h).1).2;unfold wl;omega
theorem uo{st:HS}(h:EY st x o wo we=none):isNm x=true/\x∉st.nms/\o∈st.own/\1<=wo/\0<=we:=by
 unfold EY at h;cases hn:newR st x with
 | some j=>rw[hn]at h;cases h
 | none=>
  rw[hn]at h;have h':(if o∈st.own then(if wo<1\/we<0 then some 5 else none) else some 2)=none:=h;have hx:isNm x=true/\x∉st.nms:=by
   unfold newR at hn;by_cases c:isNm x=true
   .rw [ay c]at hn;by_cases m:x∈st.nms
    .rw [ay m]at hn;cases hn
    .exact ⟨c,m⟩
   .rw [av c]at hn;cases hn
  by_cases ho:o∈st.own
  .rw [ay ho]at h';by_cases hb:wo<1\/we<0
   .rw [ay hb]at h';cases h'
   .exact ⟨hx.1,hx.2,ho,by omega,by omega⟩
  .rw [av ho]at h';cases h'
end L2
set_option autoImplicit true
namespace L2
open PySem PySem.Spec PyProof.Rows
structure bE(X:Cx)(e:Expr)(t:TE):Prop where h:PE X e t
structure bT(X:Cx)(e:Expr)(t:TT):Prop where h:PT X e t
structure bW(X:Cx)(e:Expr)(t:TT):Prop where h:PW X e t
structure bA(X:Cx)(es:Da Expr)(t:TA):Prop where h:PA X es t
structure bS(X:Cx)(s:Stmt)(t:TS):Prop where h:PS X s t
structure cZ(X:Cx)(s:Da Stmt)(t:TS):Prop where h:xM X s t
structure bC(X:Cx)(op:CmpOp)(a b:Expr)(t:TE):Prop where h:PC X op a b t
structure bG(X:Cx)(e:Expr)(t:TG):Prop where h:PG X e t
structure Ye(X:Cx)(e:Da Expr)(t:Ef):Prop where h:PGs X e t
structure bI(X:Cx)(tg Bn:Expr)(wi:TI):Prop where h:PI X tg Bn wi
structure Yg(X:Cx)(pos:Pos)(ks:Da (Option Expr))(vs:Da Expr)(t:Da (TE×TE)):Prop where h:PPs X pos ks vs t
theorem bW.pt{X:Cx}{e:Expr}{t:TT}(h:bW X e t):bT X e t:=⟨h.h.pt⟩
def UE{op}{t:TE}(h:bE X a t):bE X (.BoolOp op [a] pos) t:=by have h:=h.h;exact⟨λAC s σ H Q I hw=>BoolOp_one (h AC s σ H Q I hw)⟩
def ny{e:Expr}{t:TE}(h:bE X e t)(he:∀whole,isTrue e X.env whole=(do let v <-whole;standAt e.pos;holding [v] (truthy v)):=by intro _;rfl):bT X e (tB t):=by have h:=h.h;constructor;intro AC s σ H Q I hw;refine isTrue_plain (bP (h AC s σ H _ I hw) λv s1 ⟨x,H1,I1,r1,q1⟩=>?_) (he _);obtain⟨d,rfl,q⟩:=q1;cases r1;exact C_ ⟨H1,I1,q⟩
def aF{r:R2}(hr:An X r)(ha:bE X a ta)(hb:bE X b tb)(hs:Y5 b:=by exact λ_ _=>rfl):bE X (.Subscript a b pos) (CJ r ta tb):=by have ha:=ha.h;have hb:=hb.h;constructor;intro AC s σ H Q I h;exact Subscript_ (V2 ha hb I h λv u s2 x y H2 I2 rx ry q=>hr a b AC s2 σ H2 x y v u Q I2 rx ry q (hs _ _))
def iW:Ye X [] aaF:=by constructor;intro AC s σ H vs us Q I r h;obtain⟨e,h⟩:=h;subst e;cases r;exact assignInOrder_nil ⟨σ,H,I,h⟩
def R5{x:Str}{n:String}{pos:Pos}(hv:bootBuiltins x=some (.type n))(hg:Gl X x)(hm:X.mg x=none)(hn:x ≠ "__name__":=by decide)(hd:(x==("__debug__":Str))=false:=by decide):bE X (.Name x pos) (tC (.ty n)):=by exact⟨YS hg hm hv rfl hn hd⟩
def aV{i:Nat}{x:Str}(hN:X.N.Nodup)(hi:X.N[i]?=some x:=by rfl)(hx:Loc X.env.scope x:=by first|exact Or.inl rfl|exact Or.inr rfl)(hf:X.fn x=true\/X.env.scope.names.lookup x=some .local:=by first|exact .inl rfl|exact .inr rfl|assumption):bG X (.Name x pos) (lE i):=by constructor;intro AC s σ H v u Q I r h;exact wpAny_assign_Name (zC I hN hi hx r (λs' I'=>⟨_,H,I',h⟩) hf)
def Dy{c:Expr}{body:Da Stmt}{tc:TT}{tb:TS}(hp:PassesOwn (model X.prog X.w) X.A X.env X.xe)(hc:bT X c tc)(hb:cZ X body tb):bS X (.While c body [] pos) (aaM tc tb):=by
 have hc:=hc.h;have hb:=hb.h;constructor;intro AC s σ H D I h;obtain⟨W,⟨m0,w0⟩,turn⟩:=h;refine wpAny_While (codeAny_whileLoop (λn s'=>∃σ' H',Inv X AC σ' H' s'/\W n σ' H') ?_ m0 ⟨σ,H,I,w0⟩);rintro n s1 ⟨σ1,H1,I1,w1⟩;refine zx hp (bP (hc AC s1 σ1 H1 _ I1 (turn n σ1 H1 w1)) λb s2 ⟨H2,I2,q2⟩=>?_);cases b with
 | true=>
  obtain⟨N,hN,q2⟩:=q2;rw[ay rfl];refine zx hp (bP (hb AC s2 σ1 H2 _ I2 q2) λf s3 q3=>?_);cases f with
  | next=>obtain⟨σ3,H3,I3,n3⟩:=q3;obtain⟨m',hm,w3⟩:=hN σ3 H3 n3;exact⟨m',hm,σ3,H3,I3,w3⟩
  | cont=>obtain⟨σ3,H3,I3,n3⟩:=q3;obtain⟨m',hm,w3⟩:=hN σ3 H3 n3;exact⟨m',hm,σ3,H3,I3,w3⟩
  | brk=>exact q3
  | ret v=>exact q3
 | false=>rw[av gH];exact Kz ⟨σ1,H2,I2,q2⟩
def Co{tg:Expr}{ob:Expr}{td:TE}{Bz cpos:Pos}(hob:bE X ob td)(hbase:attributeBase ob "values" X.env (eval ob X.env)=eval ob X.env:=by rfl)(hline:(Bz.endLine==cpos.line)=true:=by rfl):bI X tg (.Call (.Attribute ob "values" Bz) [] [] cpos) (aev td):=by
 have hob:=hob.h;constructor;intro AC s σ H R I h;refine wpAny_Call_method0_late hbase hline (bP (hob AC s σ H _ I h) λv s1 ⟨x,H1,I1,r1,q1⟩=>?_);obtain⟨d,o,AT,rfl,e,fin⟩:=q1;cases r1;obtain⟨ho,hz,hsys,vs,ep,rel,da⟩:=I1.tU e;obtain⟨t1,t2,_⟩:=Lp I1 (.inl ⟨AT,.inr ⟨o,e⟩⟩);have dd:=da.dictOf;refine⟨"dict",_,F.plainAttrs_dict,Rr,F.type_dict_values,t1,t2,Rk rfl (PySem.evalArgs_none ?_)⟩;refine call_meetsIn Rr dd.typeIs F.entry_dict_values (F.args_dict_values_1 _) (meets_dict_values (di X.prog X.w) d hsys) ⟨⟨vs,dd⟩,?_⟩;refine wpAny_pyIter_values (s:={ s1 with heap:=s1.heap.push { cls:=.type "dict_values",data:=.fields #[.ref d] } }) ⟨_,fK _ rfl,Z,Z⟩ (da.push _) ?_;have Iv:Inv X AC σ H1 { s1 with heap:=s1.heap.push { cls:=.type "dict_values",data:=.fields #[.ref d] } }:=I1.kept (t':=s1.toks) λb o e=>cU _ e;generalize ({ s1 with heap:=s1.heap.push { cls:=.type "dict_values",data:=.fields #[.ref d] } }:Shared)=sv at *;have I2:Inv X AC σ H1 { sv with heap:=sv.heap.push { cls:=.type "dict_valueiterator",data:=.fields #[.ref d,.int 0 0,.int vs.length 0,.int ep 0] } }:=Iv.kept (t':=sv.toks) λb o e=>cU _ e;have hl:AT.length=vs.length:=rel.length;obtain⟨o',es,h1,_,h2,_⟩:=id da;rw[ho]at h1;cases h1;refine⟨sv.heap.objs.size,[sv.heap.objs.size],_,_,H1,Z,I2,T8 h2,?_,λb hb=>?_,fin⟩
 .rw [hl];exact⟨_,fK _ rfl,Z,Z⟩
 .have eb:b=sv.heap.objs.size:=by simpa using hb
  subst eb;exact Iv.Dg (aL _) (Iv.hok.fresh (aL _))
def Qz{o i e:Expr}{to ti te:TE}{AE:V->V->Hp->VK->Prop}{Am:K_}{qI:uH}{op:Operator}{tpos:Pos}(ho:bE X o to)(hi:bE X i ti)(hg:aaJ X AE)(he:bE X e te)(hp:PIp X op Am)(hs:VT X qI)(ha:∀ov iv new,augStore i ov iv new=(do holding [new,ov,iv] (setItem ov iv new);release [new,ov,iv] [];pure .next):=by intros;rfl):bS X (.AugAssign (.Subscript o i tpos) op e pos) (ad9 to ti te AE Am qI):=by have ho:=ho.h;have hi:=hi.h;have he:=he.h;constructor;intro AC s σ H D I h;refine wpAny_AugAssign_SubscriptAny (bP (ho AC s σ H _ I h) λov s1 ⟨x1,H1,I1,r1,q1⟩=>?_) ha;refine bP (hi AC s1 σ H1 _ I1 q1) λiv s2 ⟨x2,H2,I2,r2,q2⟩=>?_;refine bP (hg AC s2 σ H2 x1 x2 ov iv _ I2 r1 r2 q2) λold s3 ⟨x3,H3,I3,r3,q3⟩=>?_;refine bP (he AC s3 σ H3 _ I3 q3) λv s4 ⟨x4,H4,I4,r4,q4⟩=>?_;refine bP (hp AC s4 σ H4 x3 x4 old v _ I4 r3 r4 q4) λnew s5 ⟨x5,H5,I5,r5,q5⟩=>?_;exact bP (hs AC s5 σ H5 x1 x2 x5 ov iv new _ I5 r1 r2 r5 q5) λ_ s6 ⟨H6,I6,q6⟩=>⟨σ,H6,I6,q6⟩
def kh{id:String}(pa:PlainAttrs T)(slot:Slot T name id)(hty:typeOf (.builtin id)=pure (.type "method_descriptor"))(hm:MtR X id r)(ho:bE X o to)(ha:bA X (e::es) t)(hbase:attributeBase o name X.env (eval o X.env)=eval o X.env:=by rfl)(hfew:((backTo cpos (starEach (e::es) X.env)).all (λx=>!x.1) && (backToKw cpos (keywordEach [] X.env)).all (λx=>x.1.isSome)
   && decide ((e::es).length+([] :Da Keyword).length+(if([] :Da Keyword).isEmpty then 0 else 1)<30))=true:=by rfl)(hline:(Bz.endLine==cpos.line)=true:=by rfl)(hs:starEach (e::es) X.env=(false,eval e X.env)::starEach es X.env:=by rfl)(hplain:(backTo cpos (starEach es X.env)).any (·.1)=false:=by rfl):bE X (.Call (.Attribute o name Bz) (e::es) [] cpos) (tBM X.K T r to t):=by
 have ho:=ho.h;have ha:=ha.h;constructor
 intro AC s σ H Q I h
 refine wpAny_Call_method_late hbase hfew hline rfl (bP (ho AC s σ H _ I h) λv s1 ⟨x,H1,I1,r1,ty,q1⟩=>?_)
 obtain⟨h1,h2⟩:=abb I1 r1 ty
 refine⟨T,id,pa,slot,hty,h1,h2,?_⟩
 have hA:=ha cpos AC s1 σ H1 _ I1 q1
 rw[hs]at hA ⊢
 refine Rk (by show(false || (backTo cpos (starEach es X.env)).any (·.1))=false;rw[hplain] <;> rfl) (Calls.evalArgs_plain ?_)
 exact bP hA λus s2 ⟨vs,H2,I2,r2,q2⟩=>hm AC s2 σ H2 x vs v us Q I2 r1 r2 q2
def ZK{X:Cx}{pos:Pos}:Yg X pos [] [] [] :=by exact⟨λAC s σ H Q I h=>pairTrees_nil_walk ⟨[],H,I,.nil,h⟩⟩
def Mh{X:Cx}{e:Expr}{t:TE}(h:bE X e t):bE X e (ahL t):=by have h:=h.h;constructor;intro AC s σ H Q I hw;obtain⟨d,AT,e,hw⟩:=hw;obtain⟨ho,es,ep,h1,_⟩:=(En I.hok e).2.2.choose_spec.2;have h0:=I.T6 e;exact bP (h AC s σ _ _ (I.freeze e h1) (hw ho)) λu s' ⟨v,H',I',r,q1,q2⟩=>⟨v,_,I'.Dl q1 h0,r,q2⟩
def WT{op op':CmpOp}{r r':R2}(ho:jZ X (compareOp op) r)(ho':jZ X (compareOp op') r')(ha:bE X a ta)(hb:bE X b tb)(hc:bE X c tc)(hm:lastMarks [op,op'] [b,c]=false:=by with_unfolding_all rfl):bE X (.Compare a [op,op'] [b,c] pos) (aaU r r' ta tb tc):=by
 have ha:=ha.h;have hb:=hb.h;have hc:=hc.h;constructor;intro AC s σ H Q I h;refine Compare_chain (bP (ha AC s σ H _ I h) λv s1 ⟨x,H1,I1,r1,q1⟩=>chain_link (bP (hb AC s1 σ H1 _ I1 q1) λu s2 ⟨y,H2,I2,r2,q2⟩=>
  bP (ho AC s2 σ H2 x y v u _ I2 r1 r2 q2) λd s3 ⟨z,H3,I3,r3,k,e,q3⟩=>?_)) hm
 subst e;cases r3;refine C_ ?_;cases k with
 | false=>exact ite_ff ⟨.bl false,H3,I3,Z,q3⟩
 | true=>exact ite_tt (chain_last (bP (hc AC s3 σ H3 _ I3 q3) λw' s4 ⟨z',H4,I4,r4,q4⟩=>ho' AC s4 σ H4 y z' u w' Q I4 r2 r4 q4))
def iN{x1}(h:bA X es t):bE X (.Tuple es x1 pos) (ahy t):=by have h:=h.h;constructor;intro AC s σ H Q I hq;refine wpAny_Tuple_spliced (bP (h pos AC s σ H _ I hq) λus s1 ⟨xs,H1,I1,r,z,q⟩=>⟨by rw[<-r.length];exact z,?_⟩);have hf:H1 s1.heap.objs.size=none:=I1.hok.fresh (aL _);refine⟨.ref s1.heap.objs.size,upd H1 s1.heap.objs.size (.tup xs),I1.laid (t':=s1.toks) (λb u e=>cU _ e) (aL _) ?_,Z,q _ hf⟩;exact⟨z,us,r,⟨_,fK _ rfl,Z,_,Z⟩⟩
def v8{tg Bn elt cond:Expr}{scope:Scope}{pos:Pos}(N2:Da Str)(ix:Da (Option Nat)){wi:TI}{g:TG}{tc:TT}{te:TE}(hc:X.calm=true)(hi:bI X tg Bn wi)(hg:∀cl s₂ H₂ fp,bG (eY X N2 scope cl s₂ H₂ fp) tg g)(he:∀cl s₂ H₂ fp,bE (eY X N2 scope cl s₂ H₂ fp) elt te)(ht:∀cl s₂ H₂ fp,bT (eY X N2 scope cl s₂ H₂ fp) cond tc)(hk:scope.kind =.function)(hn:ud X.N X.env.scope.names scope.names N2 ix=true)(hs:∀x,foldedSetIterable Bn X.env x=pure x:=by intro _;rfl):bE X (.ListComp elt [⟨tg,Bn,[cond],0⟩] scope pos) (TY wi ix g tc te):=⟨Wy N2 ix hc hi.h (λcl s₂ H₂ fp=>(hg cl s₂ H₂ fp).h) (λcl s₂ H₂ fp=>(he cl s₂ H₂ fp).h) (λcl s₂ H₂ fp=>(ht cl s₂ H₂ fp).h) hk hn hs⟩
def aG{op:Operator}{r:R2}(ho:jZ X (binaryOp op) r)(ha:bE X a ta)(hb:bE X b tb):bE X (.BinOp a op b pos) (CJ r ta tb):=by have ha:=ha.h;have hb:=hb.h;constructor;intro AC s σ H Q I h;exact wpAny_BinOp (V2 ha hb I h λv u s2 x y H2 I2 rx ry q=>ho AC s2 σ H2 x y v u Q I2 rx ry q)
def yO{op:CmpOp}{t:TE}(h:bC X op a b t)(h1:behindInMarks op b=false:=by first|exact ahV _ (by decide) (by decide)|rfl):bT X (.Compare a [op] [b] pos) (tB t):=by have h:=h.h;constructor;intro AC s σ H Q I hw;refine wpAny_isTrue_Compare1 (bP (h AC s σ H _ I hw) λv s1 h1=>bP h1 λu s2 h2=>bP h2 λc s3 ⟨x,H1,I1,r1,q1⟩=>?_) h1;obtain⟨d,rfl,q⟩:=q1;cases r1;exact C_ ⟨H1,I1,q⟩
def fj{tg:Expr}{Bn:Expr}{body:Da Stmt}{wi:TI}{g:TG}{tb:TS}{pos:Pos}(hp:PassesOwn (model X.prog X.w) X.A X.env X.xe)(hc:X.calm=true)(hi:bI X tg Bn wi)(hg:bG X tg g)(hb:cZ X body tb)(hs:∀x,foldedSetIterable Bn X.env x=pure x:=by intro _;rfl):bS X (.For tg Bn body [] pos) (aht wi g tb):=by
 have hi:=hi.h;have hg:=hg.h;have hb:=hb.h;constructor;intro AC s σ H D I h;refine wpAny_For (bP (hi AC s σ H _ I h) λv s1 h1=>bP h1 λitv s2 h2=>?_) hs;obtain⟨it,fp,tn,J,H2,e,I2,T,st2,f2,W,⟨m0,w0⟩,turn⟩:=h2;subst e;have vO:∀{H':Hp},(∀b∈fp,H' b=none)->∀b∈fp,qJ X AC H' b:=λhn b hb=>⟨hn b hb,(f2 b hb).2⟩
 refine codeAny_forLoop_any (λn s'=>∃i σ' H',Inv X AC σ' H' s'/\tn i s'.heap/\(∀b∈fp,H' b=none)/\W i n σ' H') ?_ m0 ⟨0,σ,H2,I2,st2,λb hb=>(f2 b hb).1,w0⟩;rintro n s3 ⟨i,σ3,H3,I3,st3,Yh,w3⟩;rcases turn i n σ3 H3 w3 with⟨stop,qn⟩|⟨go,N,hN,step⟩
 .refine zx hp (bP (T.done X rfl rfl rfl hc i AC s3 σ3 H3 X.xe I3 (vO Yh) st3 stop) λr s4 ⟨hr,I4⟩=>?_);subst hr;exact Kz ⟨σ3,H3,I4,qn⟩
 .refine zx hp (bP (T.item X rfl rfl rfl hc i AC s3 σ3 H3 X.xe I3 (vO Yh) st3 go) λr s4 ⟨u,hr,h4⟩=>?_);subst hr;refine zx hp (bP h4 λ_ s5 ⟨x,H5,I5,r5,y5,yH,Ly⟩=>?_);have I5':=I5.pinned (vO Ly) (T.obj _ _ yH);refine zx hp (bP (hg _ s5 σ3 H5 x u _ I5' r5 (step x H5 y5)) λ_ s6 ⟨σ6,H6,I6,q6⟩=>?_);refine zx hp (bP (hb _ s6 σ6 H6 _ I6 q6) λf s7 q7=>?_);have again:∀{σ7:St}{H7:Hp},Inv X (AC++Eh fp s5.heap) σ7 H7 s7->N σ7 H7->∃m,m<n/\∃i σ' H',Inv X AC σ' H' s7/\tn i s7.heap/\(∀b∈fp,H' b=none)/\W i m σ' H':=λ{σ7 H7} I7 n7=>by obtain⟨m',hm,w7⟩:=hN σ7 H7 n7;refine⟨m',hm,i+1,σ7,H7,I7.sJ,T.keep _ _ _ yH λb hb o e=>(I7.pin (b,o) (kD _ (kD _ (jY hb e)))).1,λb hb=>?_,w7⟩;obtain⟨o,e,d⟩:=T.obj _ _ yH b hb;exact(I7.pin (b,o) (kD _ (kD _ (jY hb e)))).2.1
  cases f with
  | next=>obtain⟨σ7,H7,I7,n7⟩:=q7;exact again I7 n7
  | cont=>obtain⟨σ7,H7,I7,n7⟩:=q7;exact again I7 n7
  | brk=>obtain⟨σ7,H7,I7,q7⟩:=q7;exact⟨σ7,H7,I7.sJ,q7⟩
  | ret v=>obtain⟨x7,σ7,H7,I7,r7,q7⟩:=q7;exact⟨x7,σ7,H7,I7.sJ,r7,q7⟩
def QA:bS X (.Return none pos) ad4:=by exact⟨λ_ _ σ H _ I h=>wpAny_Return_none ⟨.cy,σ,H,I,Z,h⟩⟩
def iE{tg Bn elt:Expr}{scope:Scope}{pos:Pos}(N2:Da Str)(ix:Da (Option Nat)){wi:TI}{g:TG}{te:TE}(hc:X.calm=true)(hi:bI X tg Bn wi)(hg:∀cl s₂ H₂ fp,bG (eY X N2 scope cl s₂ H₂ fp) tg g)(he:∀cl s₂ H₂ fp,bE (eY X N2 scope cl s₂ H₂ fp) elt te)(hk:scope.kind =.function)(hn:ud X.N X.env.scope.names scope.names N2 ix=true)(hs:∀x,foldedSetIterable Bn X.env x=pure x:=by intro _;rfl):bE X (.ListComp elt [⟨tg,Bn,[],0⟩] scope pos) (XW wi ix g te):=by have hi:=hi.h;have hg:=λcl s₂ H₂ fp=>(hg cl s₂ H₂ fp).h;have he:=λcl s₂ H₂ fp=>(he cl s₂ H₂ fp).h;constructor;intro AC s σ H Q I h;obtain⟨k1,k2,k3,k4,k5⟩:=qN hn;obtain⟨cl,TZ,c1,c2⟩:=zJ (scope:=scope) (env:=X.env) λy hy e=>I.ok.has y.1 (k3 y hy e);rw[eval_ListComp];refine wpAny_comprehension_free (use:=none) rfl hs TZ hk k4 (bP (hi AC s σ H _ I h) λv s1 h1=>bP h1 λitv s2 h2=>?_);obtain⟨it,fp,tn,J,H2,e,I2,T,st2,f2,h2⟩:=h2;subst e;refine Ex (RR:=λAp C=>compPost (model X.prog X.w) X.A X.xe none (EP X AC σ Q) Ap C) (Q:=Q) hc hg he hk hn (λy c m=>(c1 y c m).1) c2 I2 T st2 f2 h2 ?_;intro Ap C H' s' m I' ns Ey hL hsz yI EG q;exact⟨m,ns,λh' hs'=>⟨.ref Ap,H',I'.turned (it:=C) (t':=s'.toks) (λb o hb e=>(hs'.2 b hb).trans e) Ey hL (.inr hsz) yI EG,Z,q⟩⟩
def Mi(hu:X.A.units+1<cLine)(hi:bE X i ty)(ho:bE X o td):bC X .In i o (ahF ty td):=by have hi:=hi.h;have ho:=ho.h;constructor;intro AC s σ H Q I h;refine bP (hi AC s σ H _ I h) λiv s1 ⟨y,H1,I1,ry,q1⟩=>bP (ho AC s1 σ H1 _ I1 q1) λu s2 ⟨x,H2,I2,rx,a,ov,ex,g,q2⟩=>?_;subst ex;obtain rfl:u=Value.ref a:=rx;exact ahE hu I2 g ry λs3 I3=>⟨.bl ov.isSome,H2,I3,Z,q2⟩
def acd(ha:bE X a ta):bE X (.UnaryOp .Not a pos) (ad1 ta):=by have ha:=ha.h;constructor;intro AC s σ H Q I h;refine UnaryOp_ (bP (ha AC s σ H _ I h) λv s1 ⟨x,H1,I1,r1,q1⟩=>?_);obtain⟨c,rfl,q1⟩:=q1;cases r1;exact not_of (C_ ⟨.bl (!c),H1,I1,Z,q1⟩)
def aO{x j pos}:bE X (.Constant (.str x) j pos) (tC (.str x)):=by exact⟨λ_ _ _ H _ I h=>Calls.Constant_str ⟨.str x,H,I.tok _,⟨_,Z⟩,h⟩⟩
def R6{op:UnaryOp}{r:V->Hp->VK->Prop}(ho:UnR X (unaryOp op) r)(ha:bE X a ta):bE X (.UnaryOp op a pos) (tUn r ta):=by have ha:=ha.h;constructor;intro AC s σ H Q I h;exact UnaryOp_ (bP (ha AC s σ H _ I h) λv s1 ⟨x,H1,I1,r1,q1⟩=>ho AC s1 σ H1 x v Q I1 r1 q1)
def sW(K:Fg){a b:Expr}{ta:TA}{p pos:Pos}(hg:Gl X "zip")(hm:X.mg "zip"=none)(ha:bA X [a,b] ta)(hK:X.K=K:=by rfl)(hs:starEach [a,b] X.env=[(false,eval a X.env),(false,eval b X.env)] :=by rfl)(hs2:starEach [b] X.env=[(false,eval b X.env)] :=by rfl):bI X (.Tuple DD kk tpos) (.Call (.Name "zip" p) [a,b] [] pos) (aex K ta):=by
 have ha:=ha.h;constructor;subst hK;intro AC s σ H R I h;refine Call_ (vG I hg hm boot_zip (SH (bP (ha pos AC s σ H _ I h) λus s1 ⟨vs,H1,I1,r1,q1⟩=>?_) (by rw[hs,hs2]) (by rw[hs2];rfl)));obtain⟨u1,u2,S1,S2,xs,ys,e,k1,k2,q⟩:=q1;subst e;obtain⟨u,w',rfl,ru,rw'⟩:=vals2 r1;obtain⟨g1,l1,o1,p1,lt1,b1,akH,at1,st1,c1⟩:=k1.ok I1 ru;obtain⟨g2,l2,o2,p2,lt2,b2,aeN,at2,st2,c2⟩:=k2.ok I1 rw';refine callType_newIn F.called_zip (by decide) (F.typeCall_zip_2 _ _) (F.newCall_zip_2 _ _) (λobj=>F.args_object_init_3 obj _ _) F.entry_zip_new (RW st1 st2) ⟨b1,aeN _ _ b2,?_⟩;have z1:(s1.heap.push o1).objs.size=s1.heap.objs.size+1:=nL ..;have z2:((s1.heap.push o1).push o2).objs.size=s1.heap.objs.size+2:=by rw[nL,z1]
 generalize e3:({ cls:=.type "tuple",data:=.seq #[.ref s1.heap.objs.size,.ref (s1.heap.push o1).objs.size] }:Obj)=o3;have z3:(((s1.heap.push o1).push o2).push o3).objs.size=s1.heap.objs.size+3:=by rw[nL,z2]
 generalize e4:({ cls:=.type "tuple",data:=.seq #[.none,.none] }:Obj)=o4;have z4:((((s1.heap.push o1).push o2).push o3).push o4).objs.size=s1.heap.objs.size+4:=by rw[nL,z3]
 generalize e5:({ cls:=.type "zip",data:=.fields #[.none,.bool false,.bool false,.ref ((s1.heap.push o1).push o2).objs.size,.ref (((s1.heap.push o1).push o2).push o3).objs.size] }:Obj)=o5;have g5:(((((s1.heap.push o1).push o2).push o3).push o4).push o5).get? ((((s1.heap.push o1).push o2).push o3).push o4).objs.size=some o5:=fK _ (by rw[<-e5];rfl);have g4:(((((s1.heap.push o1).push o2).push o3).push o4).push o5).get? (((s1.heap.push o1).push o2).push o3).objs.size=some o4:=cU _ (fK _ (by rw[<-e4];rfl));have g3:(((((s1.heap.push o1).push o2).push o3).push o4).push o5).get? ((s1.heap.push o1).push o2).objs.size=some o3:=cU _ (cU _ (fK _ (by rw[<-e3];rfl)));have g2':(((((s1.heap.push o1).push o2).push o3).push o4).push o5).get? (s1.heap.push o1).objs.size=some o2:=cU _ (cU _ (cU _ (at2 _)));have g1':(((((s1.heap.push o1).push o2).push o3).push o4).push o5).get? s1.heap.objs.size=some o1:=cU _ (cU _ (cU _ (cU _ (at1 _))));have kp:∀c o,s1.heap.get? c=some o->(((((s1.heap.push o1).push o2).push o3).push o4).push o5).get? c=some o:=λc o x=>cU _ (cU _ (cU _ (cU _ (cU _ x))));rw[z4]at g5 ⊢;rw[z3]at g4 e5;rw[z2]at g3 e5;rw[z1]at g2' e3;generalize (((((s1.heap.push o1).push o2).push o3).push o4).push o5)=hN at *;show _/\_;subst e3 e4 e5;refine⟨⟨_,g5,Z⟩,wpAny_pyIter_zip (s:={ s1 with heap:=hN }) g5 ?_⟩;have I2:Inv X AC σ H1 { s1 with heap:=hN }:=I1.kept (t':=s1.toks) kp;obtain⟨t1,akL,C1,n1⟩:=c1 s1.heap.objs.size;obtain⟨t2,akM,C2,n2⟩:=c2 (s1.heap.objs.size+1);refine⟨s1.heap.objs.size+4,[s1.heap.objs.size+4,s1.heap.objs.size+2,s1.heap.objs.size+3,s1.heap.objs.size,s1.heap.objs.size+1],_,_,H1,Z,I2,Ub (Oo lt1 lt2) C1 C2,⟨g5,g3,⟨_,_,g4⟩,n1 _ g1',n2 _ g2'⟩,λb hb=>?_,q⟩;have hb':b=s1.heap.objs.size+4\/b=s1.heap.objs.size+2\/b=s1.heap.objs.size+3\/b=s1.heap.objs.size\/b=s1.heap.objs.size+1:=by simpa using hb
 have le:s1.heap.objs.size<=b:=by
  rcases hb' with r|r|r|r|r
  .rw [r];exact qC _ _
  .rw [r];exact qC _ _
  .rw [r];exact qC _ _
  .rw [r];exact aL _
  .rw [r];exact qC _ _
 exact I1.Dg le (I1.hok.fresh le)
def aR{op:CmpOp}{r:R2}(ho:jZ X (compareOp op) r)(ha:bE X a ta)(hb:bE X b tb)(hm:behindInMarks op b=false):bT X (.Compare a [op] [b] pos) (Ei (CJ r ta tb)):=by
 have ha:=ha.h;have hb:=hb.h;constructor;intro AC s σ H Q I h;refine wpAny_isTrue_Compare1 (bP (ha AC s σ H _ I h) λv s1 ⟨x,H1,I1,r1,q1⟩=>bP (hb AC s1 σ H1 _ I1 q1) λu s2 ⟨y,H2,I2,r2,q2⟩=>
  bP (ho AC s2 σ H2 x y v u _ I2 r1 r2 q2) λc s3 ⟨z,H3,I3,r3,k,e,q3⟩=>?_) hm
 subst e;cases r3;exact C_ ⟨H3,I3,q3⟩
def aS{i:Nat}{x:Str}{e:Expr}{te:TE}{pos':Pos}(hN:X.N.Nodup)(he:bE X e te)(hi:X.N[i]?=some x:=by rfl)(hx:Loc X.env.scope x:=by first|exact Or.inl rfl|exact Or.inr rfl)(hs:swapsWith e (some (.Name x pos')) pos.line X.env=pure false:=by rfl)(hf:X.fn x=true\/X.env.scope.names.lookup x=some .local:=by first|exact .inl rfl|exact .inr rfl|assumption):bS X (.Assign [.Name x pos'] e pos) (VU te (lE i)):=by have he:=he.h;constructor;intro AC s σ H D I h;refine wpAny_Assign_Name (bP (he AC s σ H _ I h) λv s1 ⟨y,H1,I1,r1,q1⟩=>?_) hs;exact zC I1 hN hi hx r1 (λs2 I2=>⟨_,H1,I2,q1⟩) hf
theorem ZL{X:Cx}{pos:Pos}{keys:Da (Option Expr)}{values:Da Expr}{Eo:Da (TE×TE)}(h:Yg X pos keys values Eo)(hall:keys.all (·.isSome)=true)(hl:keys.length=values.length)(h0:keys≠[])(h15:keys.length<=15):bE X (.Dict keys values pos) (aem Eo):=by
 have h:=h.h;constructor;intro AC s σ H Q I q;have hn:=I.hok.fresh (aL s.heap.objs.size);have I1:=I.laid (a:=s.heap.objs.size) (o:=.dK []) (h':=s.heap.push { cls:=.type "dict",data:=.dict #[] }) (t':=s.toks) (λ_ _ q=>cU _ q) (aL _) (Lo s.heap I.big);refine wpAny_Dict_walk (knd:=di X.prog X.w) hall hl h0 h15 (bP (h AC _ σ _ _ I1 (q _ hn)) λws s2 ⟨ps,H2,I2,rel,e,AT,ep,lk,q2⟩=>?_);subst ep;obtain⟨rs,c,rk⟩:=Ep (P:=X.prog) (w:=X.w) rel;obtain⟨z,hd,Uc,r0,dd⟩:=En I2.hok e;cases r0;refine⟨rs,c,dd,λh' CN hs=>⟨.ref s.heap.objs.size,_,?_,Z,q2⟩⟩;have hz:(yG [] AT).length<=sizeLine:=by have h1:=Aq AT [];rw[List.length_nil]at h1;rw[mH];omega
 have he:∃q,h'.get? s.heap.objs.size=some q:=let⟨q,_,_,hq,_⟩:=CN;⟨q,hq⟩;exact Cb I2 (by rw[e];exact True.intro) hs he (Ln hz hd (rk.merge .nil) CN)
def dH(K:Fg){tg l:Expr}{tl:TE}(hl:bE X l tl)(hK:X.K=K:=by rfl):bI X tg l (XH K tl):=by have hl:=hl.h;exact⟨hK▸YV hl⟩
def ju{X:Cx}{e:Expr}{t:TT}(h:bT X e t):bT X e (λσ H Q=>∃b:Bool,t σ H (λb' H'=>b'=b/\H'=H)/\Q b H):=by have h:=h.h;constructor;intro AC s σ H Q I hw;obtain⟨b,hb,q⟩:=hw;refine bP (h AC s σ H _ I hb) λb' s' ⟨H',I',e1,e2⟩=>?_;subst e1 e2;exact⟨_,I',q⟩
def au{st:Stmt}(h1:bS X st t):cZ X [st] t:=by
 have h1:=h1.h;constructor;intro AC s σ H D I h;refine wpAny_execs_cons (bP (h1 AC s σ H D I h) λf s1 q=>?_);cases f with
 | next=>exact Kz q
 | ret v=>exact q
 | brk=>exact q
 | cont=>exact q
def QB(ho:bE X o td)(hi:bE X i ty):bS X (.Delete [.Subscript o i tpos] pos) (ael td ty):=by have ho:=ho.h;have hi:=hi.h;constructor;intro AC s σ H D I h;refine wpAny_Delete (wpAny_deleteEach_cons (wpAny_delete_Subscript (bP (ho AC s σ H _ I h) λu s1 ⟨x,H1,I1,rx,q1⟩=>bP (hi AC s1 σ H1 _ I1 q1) λiv s2 ⟨y,H2,I2,ry,a,AT,k,ex,e,ey,l,q2⟩=>?_)));subst ex ey;obtain rfl:u=Value.ref a:=rx;exact Tq I2 e ry l λs3 I3=>wpAny_deleteEach_nil ⟨σ,_,I3,q2⟩
def q_(ha:bT X a tA):bT X (.UnaryOp .Not a pos) (aho tA):=by have ha:=ha.h;constructor;intro AC s σ H Q I h;exact isTrue_not (ha AC s σ H (λc H1=>Q (!c) H1) I h)
def bQ(he:bE X e te)(hs:swapsWith e none pos.line X.env=pure false:=by rfl):bS X (.Expr e pos) (ad3 te):=by have he:=he.h;constructor;intro AC s σ H D I h;exact wpAny_Expr_any (bP (he AC s σ H _ I h) λv s1 ⟨x,H1,I1,r1,q1⟩=>⟨σ,H1,I1,q1⟩) I.quiet hs
def bZ{pl:Sem Bool}{j k:Nat}{C:Addr}{m:Str}{ps:Da Str}{sp:Sp}{o e:Expr}{es:Da Expr}{ta:TE}{t:TA}{Bz pos:Pos}(D:Mn X.prog X.w X.K X.mg X.base j C m ps sp)(hr:fL k X.A)(ho:bE X o ta)(ha:bA X (e::es) t)(hj:j<=k:=by decide)(hst:starEach (e::es) X.env=(false,eval e X.env)::starEach es X.env:=by rfl)(hpl:(backTo pos (starEach es X.env)).any (·.1)=false:=by rfl)(ht:eval (.Call (.Attribute o m Bz) (e::es) [] pos) X.env=(do
   let ov <-eval o X.env
   standAt Bz.atName
   let(f,first) <-holding [ov] (getMethod ov m pl)
   callWith pos f first (backTo pos (starEach (e::es) X.env)) (backToKw pos (keywordEach [] X.env))):=by rfl):bE X (.Call (.Attribute o m Bz) (e::es) [] pos) (KD C m sp [] E0 ta t):=by
 have ho:=ho.h;have ha:=ha.h;constructor
 obtain⟨f,fd,F,b,hm,c⟩:=D.ex
 exact Y3 (pl:=pl) ho c hm F (hr.mono hj) b .nil (λ_ _ _ _ _ _ _ h=>h.elim) ha hst hpl ht
def cS{e:Expr}{es:Da Expr}{t:TG}{u:Ef}(h1:bG X e t)(h2:Ye X es u)(hs:(assignEach (e::es) X.env).map (·.2)=assign e X.env::(assignEach es X.env).map (·.2):=by rfl):Ye X (e::es) (XG t u):=by
 have h1:=h1.h;have h2:=h2.h;constructor;intro AC s σ H vs us Q I r h;obtain⟨v,vr,e1,h⟩:=h;subst e1;cases r with
 | cons r rr=>rw[hs];refine assignInOrder_cons (bP (h1 AC s σ H _ _ _ I r h) λ_ s1 ⟨σ1,H1,I1,q1⟩=>?_);exact h2 AC s1 σ1 H1 _ _ Q I1 rr q1
def qt{i:Nat}{x:Str}{px pos':Pos}{tg Bn elt:Expr}{scope:Scope}{pos:Pos}(N2:Da Str)(ix:Da (Option Nat)){wi:TI}{g:TG}{te:TE}(hN:X.N.Nodup)(hi:X.N[i]?=some x)(hx:X.env.scope.names.lookup x=some .local)(hc:X.calm=true)(hit:bI X tg Bn wi)(hg:∀cl s₂ H₂ fp,bG (eY X N2 scope cl s₂ H₂ fp) tg g)(he:∀cl s₂ H₂ fp,bE (eY X N2 scope cl s₂ H₂ fp) elt te)(hk:scope.kind =.function)(hn:ud X.N X.env.scope.names scope.names N2 ix=true)(hw:swapsWith (.ListComp elt [⟨tg,Bn,[],0⟩] scope pos) (some (.Name x px)) pos'.line X.env=pure true)(hs:∀x,foldedSetIterable Bn X.env x=pure x:=by intro _;rfl):bS X (.Assign [.Name x px] (.ListComp elt [⟨tg,Bn,[],0⟩] scope pos) pos') (VU (XW wi ix g te) (lE i)):=by
 have hit:=hit.h;have hg:=λcl s₂ H₂ fp=>(hg cl s₂ H₂ fp).h;have he:=λcl s₂ H₂ fp=>(he cl s₂ H₂ fp).h;constructor;intro AC s σ H D I h;obtain⟨k1,k2,k3,k4,k5⟩:=qN hn;obtain⟨cl,TZ,c1,c2⟩:=zJ (scope:=scope) (env:=X.env) λy hy e=>I.ok.has y.1 (k3 y hy e);rw[exec_Assign_Name_used _ _ _ _ hw];refine aA (D_ (aA ?_));show wpAny _ X.A (do let _ <-comprehension (.ListComp elt [⟨tg,Bn,[],0⟩] scope pos) scope X.env _ (newList []) false (eval Bn X.env) (some (assign (.Name x px) X.env))) _ _ s;refine aA (bP (wpAny_comprehension_free (use:=some (assign (.Name x px) X.env)) (Q:=λ_ s'=>SP X AC D .next s') rfl hs TZ hk k4 (bP (hit AC s σ H _ I h) λv s1 h1=>bP h1 λitv s2 h2=>?_)) λ_ s' hq=>bw (bw hq));obtain⟨it,fp,tn,J,H2,e,I2,T,st2,f2,h2⟩:=h2;subst e;refine Ex (RR:=λAp C=>compPost (model X.prog X.w) X.A X.xe (some (assign (.Name x px) X.env)) (λ_ s'=>SP X AC D .next s') Ap C) (Q:=λv H'=>D.nx (σ.set i (some v)) H') hc hg he hk hn (λy c m=>(c1 y c m).1) c2 I2 T st2 f2 h2 ?_;intro Ap C H' s' m I' ns Ey hL hsz yI EG q;show wpAny _ X.A (assign (.Name x px) X.env (.ref Ap)) _ _ _;refine wpAny_assign_Name (HY I' hN hi (.inl hx) (v:=.ref Ap) rfl (λs3 I3 ⟨a,sb,ha⟩=>?_) (.inr hx));have ca:C≠a:=by
  rcases ha with z|z
  .rw [z];exact hL
  .exact λe=>yI x a z e.symm
 exact⟨m,ns.sameBut sb ca,λh' hs'=>⟨_,H',I3.turned (it:=C) (t':=s3.toks) (λb o hb e=>(hs'.2 b hb).trans e) Ey hL (.inr hsz) yI EG,q⟩⟩
def v9{X:Cx}{pos:Pos}{k v:Expr}{ks:Da (Option Expr)}{vs:Da Expr}{tk tv:TE}{Eo:Da (TE×TE)}(hk:bE X k tk)(hv:bE X v tv)(hr:Yg X pos ks vs Eo):Yg X pos (some k::ks) (v::vs) ((tk,tv)::Eo):=by
 have hk:=hk.h;have hv:=hv.h;have hr:=hr.h;exact⟨λAC s σ H Q I h=>
 pairTrees_cons_walk (bP (hk AC s σ H _ I h) λu s1 ⟨x,H1,I1,rx,q1⟩=>bP (hv AC s1 σ H1 _ I1 q1) λw2 s2 ⟨y,H2,I2,ry,q2⟩=>
  bP (hr AC s2 σ H2 _ I2 q2) λws s3 ⟨ps,H3,I3,rel,q3⟩=>⟨(x,y)::ps,H3,I3,.cons ⟨rx,ry⟩ rel,q3⟩)⟩
def Bp(hu:X.A.units+1<cLine)(hi:bE X i ty)(ho:bE X o td):bC X .NotIn i o (Y_ ty td):=by have hi:=hi.h;have ho:=ho.h;constructor;intro AC s σ H Q I h;refine bP (hi AC s σ H _ I h) λiv s1 ⟨y,H1,I1,ry,q1⟩=>bP (ho AC s1 σ H1 _ I1 q1) λu s2 ⟨x,H2,I2,rx,a,ov,ex,g,q2⟩=>?_;subst ex;obtain rfl:u=Value.ref a:=rx;exact Y7 hu I2 g ry λs3 I3=>⟨.bl (!ov.isSome),H2,I3,Z,q2⟩
def z8{b j pos}:bE X (.Constant (.bool b) j pos) (tC (.bl b)):=by exact⟨λ_ _ _ H _ I h=>Constant_bool ⟨.bl b,H,I,Z,h⟩⟩
def GQ{pl:Sem Bool}{j k:Nat}{C:Addr}{m:Str}{ps:Da Str}{sp:Sp}{o:Expr}{ta:TE}{Bz pos:Pos}(D:Mn X.prog X.w X.K X.mg X.base j C m ps sp)(hr:fL k X.A)(ho:bE X o ta)(hj:j<=k:=by decide)(ht:eval (.Call (.Attribute o m Bz) [] [] pos) X.env=(do
   let ov <-eval o X.env
   standAt Bz.atName
   let(f,first) <-holding [ov] (getMethod ov m pl)
   callWith pos f first (backTo pos (starEach [] X.env)) (backToKw pos (keywordEach [] X.env))):=by rfl):bE X (.Call (.Attribute o m Bz) [] [] pos) (KD C m sp [] E0 ta qL):=by
 have ho:=ho.h;constructor
 obtain⟨f,fd,F,b,hm,c⟩:=D.ex
 exact V_ (pl:=pl) ho c hm F (hr.mono hj) b .nil (λ_ _ _ _ _ _ _ h=>h.elim) ht
def bH(he:bE X e te):bS X (.Return (some e) pos) (ahq te):=by have he:=he.h;constructor;intro AC s σ H D I h;exact wpAny_Return_some (bP (he AC s σ H _ I h) λv s1 ⟨x,H1,I1,r1,q1⟩=>⟨x,σ,H1,I1,r1,q1⟩)
theorem gZ{tg:Expr}{a:Expr}{ta:TA}{p pos:Pos}(hg:Gl X "range")(hm:X.mg "range"=none)(ha:bA X [a] ta)(hs:starEach [a] X.env=[(false,eval a X.env)] :=by rfl):bI X tg (.Call (.Name "range" p) [a] [] pos) (ad_ ta):=by
 have ha:=ha.h;constructor;intro AC s σ H R I h;refine Call_ (vG I hg hm boot_range (SH (bP (ha pos AC s σ H _ I h) λus s1 ⟨vs,H1,I1,r1,q1⟩=>?_) hs rfl));obtain⟨j,e,q1,q2,q⟩:=q1;subst e;cases r1 with
 | cons r rr=>cases rr;obtain⟨t,rfl⟩:=r;exact call_range_1 (V1 I1 (by omega) (by omega) q1 q2 (by simpa using q))
def bM:cZ X [] ad2:=by exact⟨λ_ _ σ H _ I h=>Kz ⟨σ,H,I,h⟩⟩
def eE(K:Fg){o value:Expr}{f:Str}{ta tv:TE}{pos pos':Pos}(ha:bE X o ta)(hv:bE X value tv)(hs:swapsWith value (some (.Attribute o f pos')) pos.line X.env=pure false:=by rfl)(hK:X.K=K:=by rfl):bS X (.Assign [.Attribute o f pos'] value pos) (aaW K ta tv f):=by have ha:=ha.h;have hv:=hv.h;exact⟨hK▸aaZ ha hv hs⟩
theorem IP{tg:Expr}{a b c:Expr}{ta:TA}{p pos:Pos}(hg:Gl X "range")(hm:X.mg "range"=none)(ha:bA X [a,b,c] ta)(hs:starEach [a,b,c] X.env=[(false,eval a X.env),(false,eval b X.env),(false,eval c X.env)] :=by rfl)(hs2:starEach [b,c] X.env=[(false,eval b X.env),(false,eval c X.env)] :=by rfl):bI X tg (.Call (.Name "range" p) [a,b,c] [] pos) (aeu ta):=by
 have ha:=ha.h;constructor;intro AC s σ H R I h;refine Call_ (vG I hg hm boot_range (SH (bP (ha pos AC s σ H _ I h) λus s1 ⟨vs,H1,I1,r1,q1⟩=>?_) (by rw[hs,hs2]) (by rw[hs2];rfl)));obtain⟨i,j,k,e,⟨q1,q2,q3,q4,q5,q6⟩,q⟩:=q1;subst e;cases r1 with
 | cons r rr=>
  cases rr with
  | cons r' rr=>
   cases rr with
   | cons r'' rr=>
    cases rr;obtain⟨t,rfl⟩:=r;obtain⟨t',rfl⟩:=r';obtain⟨t'',rfl⟩:=r'';obtain⟨sm,sz⟩:=Ou q1 q2 q3 q4 q5 q6;refine call_range_3 (by omega) ?_ (Or.inl (PyProof.noPylong_small (by omega)));refine wpAny_pyIter_range (IsRange.new ..) sm ?_;have I2:Inv X AC σ H1 { s1 with heap:=s1.heap.push { cls:=.type "range",data:=.fields #[.int i t,.int j t',.int k t''] },toks:=s1.toks }:=I1.kept λb o e=>cU _ e;refine⟨(s1.heap.push { cls:=.type "range",data:=.fields #[.int i t,.int j t',.int k t''] }).objs.size,[(s1.heap.push { cls:=.type "range",data:=.fields #[.int i t,.int j t',.int k t''] }).objs.size],_,_,H1,Z,
     I2.kept (t':=s1.toks) λb o e=>cU _ e,Ot _ i k (sM i j k),?_,λb hb=>?_,q⟩
    .have e1:i+((0:Nat):Int)*k=i:=by simp
     have e2:((sM i j k:Nat):Int)-((0:Nat):Int)=Builtin.Range.rangeSize i j k:=by unfold sM;omega
     show IsRangeIter _ _ (i+((0:Nat):Int)*k) (((sM i j k:Nat):Int)-((0:Nat):Int)) k;rw[e1,e2];exact fK _ rfl
    .have e:b=(s1.heap.push { cls:=.type "range",data:=.fields #[.int i t,.int j t',.int k t''] }).objs.size:=by simpa using hb
     subst e;exact I2.Dg (aL _) (I2.hok.fresh (aL _))
def UG{a:Expr}{ta:TA}{p pos:Pos}(hg:Gl X "range")(hm:X.mg "range"=none)(ha:bA X [a] ta)(hs:starEach [a] X.env=[(false,eval a X.env)] :=by rfl):bE X (.Call (.Name "range" p) [a] [] pos) (ahI ta):=by have ha:=ha.h;constructor;intro AC s σ H Q I h;refine Call_ (vG I hg hm boot_range (SH (bP (ha pos AC s σ H _ I h) λus s1 ⟨vs,H1,I1,r1,q1⟩=>?_) hs rfl));obtain⟨j,e,q⟩:=q1;subst e;obtain⟨u,rfl,ru⟩:=vals1 r1;obtain⟨t,rfl⟩:=ru;exact call_range_1 ⟨.ref s1.heap.objs.size,_,I1.laid (a:=s1.heap.objs.size) (o:=.yD 0 j) (λb o e=>cU _ e) (aL _) ⟨_,_,_,fK _ rfl⟩,Z,q _ I1.fresh⟩
def iB(h:bA X es t):bE X (.List es pos) (ahz t):=by have h:=h.h;constructor;intro AC s σ H Q I hq;refine wpAny_List_spliced (bP (h pos AC s σ H _ I hq) λus s1 ⟨xs,H1,I1,r,z,q⟩=>⟨by rw[<-r.length];exact z,?_⟩);have hf:H1 s1.heap.objs.size=none:=I1.hok.fresh (aL _);refine⟨.ref s1.heap.objs.size,upd H1 s1.heap.objs.size (.lst xs),I1.laid (t':=s1.toks) (λb u e=>cU _ e) (aL _) ?_,Z,q _ hf⟩;exact⟨z,us,0,r,fK _ rfl⟩
def rj(K:Fg){o value:Expr}{f:Str}{ta tv:TE}{pos tpos:Pos}{op:Operator}{rd:V->V->Hp->VK->Prop}(ha:bE X o ta)(hv:bE X value tv)(hop:Lc X op rd)(hK:X.K=K:=by rfl):bS X (.AugAssign (.Attribute o f tpos) op value pos) (Qa K ta tv rd f):=by have ha:=ha.h;have hv:=hv.h;exact⟨hK▸S9 ha hv hop⟩
def ace{j pos}:bE X (.Constant .none j pos) (tC .cy):=by exact⟨λ_ _ _ H _ I h=>Constant_none ⟨.cy,H,I,Z,h⟩⟩
def GR{ob:Expr}{td:TE}{Bz cpos:Pos}(hob:bE X ob td)(hbase:attributeBase ob "values" X.env (eval ob X.env)=eval ob X.env:=by rfl)(hline:(Bz.endLine==cpos.line)=true:=by rfl):bE X (.Call (.Attribute ob "values" Bz) [] [] cpos) (aew td):=by have hob:=hob.h;constructor;intro AC s σ H Q I h;refine wpAny_Call_method0_late hbase hline (bP (hob AC s σ H _ I h) λv s1 ⟨x,H1,I1,r1,q1⟩=>?_);obtain⟨d,AT,rfl,e,fin⟩:=q1;cases r1;obtain⟨t1,t2,hsys⟩:=Lp I1 (.inl ⟨AT,e⟩);obtain⟨hz,_,vs,rel,dd⟩:=vj I1.hok e;refine⟨"dict",_,F.plainAttrs_dict,Rr,F.type_dict_values,t1,t2,Rk rfl (PySem.evalArgs_none ?_)⟩;refine call_meetsIn Rr dd.typeIs F.entry_dict_values (F.args_dict_values_1 _) (meets_dict_values (di X.prog X.w) d hsys) ⟨⟨vs,dd⟩,?_⟩;refine⟨.ref s1.heap.objs.size,_,I1.laid (t':=s1.toks) (o:=mK s1.heap.objs.size d) (λb u e=>cU _ e) (aL _) ?_,Z,fin _ I1.fresh⟩;refine⟨⟨_,fK _ rfl,Z,Z⟩,⟨_,fK _ rfl⟩,λh1 h2 ⟨o,a,b⟩ k=>⟨o,k o a,b⟩⟩
def Yi{j k:Nat}{x:Str}{C:Addr}{ps:Da Str}{sp:Sp}{e:Expr}{es:Da Expr}{t:TA}{p pos:Pos}(D:Cn X.prog X.w X.K X.mg X.base j x C ps sp)(hr:fL k X.A)(ha:bA X (e::es) t)(hj:j+1<=k:=by decide)(hg:Gl X x:=by rfl)(hdb:(x==("__debug__":Str))=false:=by decide)(he:starEach (e::es) X.env=(false,eval e X.env)::starEach es X.env:=by rfl)(hpl:(backTo pos (starEach es X.env)).any (·.1)=false:=by rfl):bE X (.Call (.Name x p) (e::es) [] pos) (KG C sp [] E0 t):=by have ha:=ha.h;constructor;obtain⟨f,fd,F,b,M,m⟩:=D.ex;exact Y4 M F (hr.mono hj) hg m b .nil (λ_ _ _ _ _ _ _ h=>h.elim) ha hdb he hpl
def ZM{x:Str}{v:V}{u:Value}{pos:Pos}(hg:Gl X x)(hm:X.mg x=some u)(r:RelV v u)(hd:(x==("__debug__":Str))=false:=by decide):bE X (.Name x pos) (tC v):=by exact⟨λ_ _ _ H _ I h=>B7 I hg hm ⟨v,H,I,r,h⟩ hd⟩
def nC(hc:iS X (.type T) r)(hg:Gl X x)(hm:X.mg x=none)(hv:bootBuiltins x=some (.type T))(ha:bA X (e::es) t)(hn:x ≠ "__name__":=by decide)(hdb:(x==("__debug__":Str))=false:=by decide)(he:starEach (e::es) X.env=(false,eval e X.env)::starEach es X.env:=by rfl)(hpl:(backTo pos (starEach es X.env)).any (·.1)=false:=by rfl):bE X (.Call (.Name x p) (e::es) [] pos) (XO r t):=by have ha:=ha.h;constructor;intro AC s σ H Q I h;refine KY (vG I hg hm hv ?_ hn hdb);exact SH (bP (ha pos AC s σ H _ I h) λus s1 ⟨vs,H1,I1,r1,q1⟩=>hc AC s1 σ H1 vs us Q I1 r1 q1) he hpl
def Cp{Cl:Da Expr}(ha:bT X a tA)(hb:bW X (.BoolOp .Or (b::Cl) pos) XE):bW X (.BoolOp .Or (a::b::Cl) pos) (tOr tA XE):=by
 have ha:=ha.h;have hb:=hb.h;constructor;intro wh AC s σ H Q I h;refine isTrue_or (bP (ha AC s σ H _ I h) λc s1 ⟨H1,I1,q1⟩=>?_);cases c with
 | true=>exact⟨H1,I1,q1⟩
 | false=>exact hb wh AC s1 σ H1 Q I1 q1
def qu(ha:bT X a tA):bW X (.BoolOp .And [a] pos) tA:=by
 have ha:=ha.h;constructor;intro wh AC s σ H Q I h;refine isTrue_and (bP (ha AC s σ H Q I h) λc s1 e=>?_);cases c with
 | true=>exact isTrue_and_nil e
 | false=>exact e
def c5{c:Expr}{a b:Da Stmt}{tc:TT}(hc:bT X c tc)(ha:cZ X a t)(hb:cZ X b u):bS X (.If c a b pos) (aaC tc t u):=⟨XF hc.h ha.h hb.h⟩
def UH{i j:Nat}{x y:Str}{a b:Expr}{ta:TA}{px py pt:Pos}{kt k2 pt2}(hc:X.calm=true)(hN:X.N.Nodup)(hi:X.N[i]?=some x)(hj:X.N[j]?=some y)(hij:i≠j)(hx:X.env.scope.names.lookup x=some .local)(hy:X.env.scope.names.lookup y=some .local)(ha:bA X [a,b] ta)(hw:swappedStores [.Tuple [.Name x px,.Name y py] kt pt] (.Tuple [a,b] k2 pt2) X.env=pure (some [x,y]))(hs:swapsWithSole [.Tuple [.Name x px,.Name y py] kt pt] (.Tuple [a,b] k2 pt2) pos.line X.env=pure false:=by rfl):bS X (.Assign [.Tuple [.Name x px,.Name y py] kt pt] (.Tuple [a,b] k2 pt2) pos) (ahs i j ta):=by
 have ha:=ha.h;constructor;intro AC s σ H D I h;rw[exec_Assign_arm];refine aA (D_ ?_);rw[hs];refine aA (bw ?_);rw[av (by decide)];refine aA (Tuple_ (bP (ha _ AC s σ H _ I h) λus s1 ⟨vs,H1,I1,r1,q1⟩=>?_));obtain⟨v,w,e1,q1⟩:=q1;subst e1;obtain⟨u1,u2,rfl,rv,rw'⟩:∃u1 u2,us=[u1,u2]/\RelV v u1/\RelV w u2:=by
  cases r1 with
  | cons p q=>
   cases q with
   | cons p' q'=>cases q';exact⟨_,_,Z,p,p'⟩
 refine zj ?_ (by show 2<=sizeLine;decide);have I2:Inv X AC σ H1 { s1 with heap:=s1.heap.push { cls:=.type "tuple",data:=.seq [u1,u2].toArray } }:=I1.kept (t':=s1.toks) λb o e=>cU _ e;rw[hw];refine aA (bw ?_);show wpAny (model X.prog X.w) X.A (do rule "assign.swapped-stores";let items <-unpackItems (.ref s1.heap.objs.size) 2 none;assignInOrder [λv=>bindName X.env y v,λv=>bindName X.env x v] items.reverse;pure Flow.next) _ _ _;refine aA (wpAny_rule (aA (unpackItems_tuple (items:=#[u1,u2]) (I.ok.hd hc) (IsTup.new s1.heap _) λh' hx'=>?_)));have I3:=I2.kept (h':=h') (t':=s1.toks) λb o e=>hx' b o (gr (cE e)) e;show wpAny _ _ (assignInOrder [λv=>bindName X.env y v,λv=>bindName X.env x v] [u2,u1] >>= λ_=>pure Flow.next) _ _ _;refine aA (assignInOrder_cons (wpAny_bindName (zC I3 hN hj (.inl hy) rw' (λs2 I4=>?_) (.inr hy))));refine assignInOrder_cons (wpAny_bindName (zC I4 hN hi (.inl hx) rv (λs3 I5=>assignInOrder_nil (bw ?_)) (.inr hx)));rw[List.set_comm _ _ (cJ hij)]at I5;exact⟨_,H1,I5,q1⟩
def gh{c:Expr}{a b:Da Stmt}{tc:TT}{t u:TS}(hc:bT X c tc)(ha:cZ X a t)(hb:cZ X b u):bS X (.If c a b pos) (Wr tc t u):=by
 have hc:=hc.h;have ha:=ha.h;have hb:=hb.h;constructor;intro AC s σ H D I h;obtain⟨J,h,hJ⟩:=h;refine bP (XF hc ha hb AC s σ H { D with nx:=J } I h) λf s' q=>?_;cases f with
 | next=>obtain⟨σ',H',I',q⟩:=q;exact⟨σ',H',I',hJ _ _ q⟩
 | cont=>exact q
 | brk=>exact q
 | ret v=>exact q
def aj{st:Stmt}{Cl:Da Stmt}(h1:bS X st t)(h2:cZ X Cl u):cZ X (st::Cl) (vH t u):=by
 have h1:=h1.h;have h2:=h2.h;constructor;intro AC s σ H D I h;refine wpAny_execs_cons (bP (h1 AC s σ H { D with nx:=u D } I h) λf s1 q=>?_);cases f with
 | next=>obtain⟨σ',H',I',q⟩:=q;exact h2 AC s1 σ' H' D I' q
 | ret v=>exact q
 | brk=>exact q
 | cont=>exact q
theorem acg(K:Fg){e st:Expr}{te ts:TE}{pos p2:Pos}(he:bE X e te)(hst:bE X st ts)(hK:X.K=K:=by rfl):bE X (.Subscript e (.Slice none none (some st) p2) pos) (ahJ K te ts):=by have he:=he.h;have hst:=hst.h;constructor;subst hK;intro AC s σ H Q I h;refine Subscript_ (bP (he AC s σ H _ I h) λv s1 ⟨x,H1,I1,r1,q1⟩=>?_);refine wpAny_Slice ?_;rw[evalPart_none];refine bw (bw ?_);rw[evalPart_some];refine bP (hst AC s1 σ H1 _ I1 q1) λw3 s3 ⟨y,H3,I3,r3,q3⟩=>?_;obtain⟨ey,a,xs,rfl,hx,q⟩:=q3;subst ey;obtain⟨t,rfl⟩:=r3;cases r1;have I4:Inv X AC σ H3 { s3 with heap:=s3.heap.push { cls:=.type "slice",data:=.fields #[.none,.none,.int (-1) t] } }:=I3.kept (t':=s3.toks) λb ob q=>cU _ q;obtain⟨BT,r,ht,hz⟩:=I4.list hx;have hlen:=r.length;refine tail_any (ops:=[.ref a,.ref s3.heap.objs.size]) ht.isList.typeIs slot_list_getitem.lookup ?_ (by with_unfolding_all rfl);refine wpAny_getItem_list_slice ht.isList (Heap.IsSliceOf.new ..) .none .none (.int (-1) t) (by decide) ?_ (by rw[je] <;> omega);rw[PySem.W.krv_pick];refine⟨.ref _,_,I4.laid (t':=s3.toks) (o:=.lst xs.reverse) (λb ob q=>cU _ q) (aL _) ?_,Z,q _ I4.fresh⟩;exact⟨by rw[List.length_reverse];exact hz,BT.reverse,0,r.reverse,fK _ rfl⟩
def iX(K:Fg){X:Cx}{es:Da Expr}{k:Nat}{t:Ef}{n:Nat}{pos:Pos}(hc:X.calm=true)(h:Ye X es t)(hK:X.K=K:=by rfl)(hn:(assignEach es X.env).length=n:=by rfl)(hst:(assignEach es X.env).findIdx? (·.1)=none:=by rfl):bG X (.Tuple es k pos) (Df K n t):=by have h:=h.h;exact⟨hK▸aaH hc h hn hst⟩
def bD(hu:X.A.units+1<cLine)(ho:bE X o td)(hi:bE X i ty)(hs:abf i:=by exact λ_ _=>rfl):bE X (.Subscript o i pos) (RM td ty):=by have ho:=ho.h;have hi:=hi.h;constructor;intro AC s σ H Q I h;refine Y8 PySem.F.slot_dict_getitem.lookup hs (bP (ho AC s σ H _ I h) λu s1 ⟨x,H1,I1,rx,q1⟩=>bP (hi AC s1 σ H1 _ I1 q1) λiv s2 ⟨y,H2,I2,ry,a,v,ex,g,q2⟩=>?_);subst ex;obtain rfl:u=Value.ref a:=rx;exact⟨Oj I2 g,To hu I2 g ry λw' s3 I3 rw'=>⟨v,H2,I3,rw',q2⟩⟩
def ak:bA X [] qL:=by exact⟨λ_ _ _ _ H Q I h=>Calls.spliced_nil ⟨[],H,I,.nil,h⟩⟩
def ai{i j pos}:bE X (.Constant (.int i) j pos) (tC (.int i)):=by exact⟨λ_ _ _ H _ I h=>wpAny_Constant_int ⟨.int i,H,I.tok _,⟨_,Z⟩,h⟩⟩
def UI{Cl:Da Expr}(ha:bE X a ta)(hb:bE X (.BoolOp .And (b::Cl) pos) tb):bE X (.BoolOp .And (a::b::Cl) pos) (ad0 ta tb):=by
 have ha:=ha.h;have hb:=hb.h;constructor;intro AC s σ H Q I h;refine BoolOp_and (bP (ha AC s σ H _ I h) λv s1 ⟨x,H1,I1,r1,q1⟩=>?_);obtain⟨c,rfl,q1⟩:=q1;cases r1;refine C_ ?_;cases c with
 | true=>exact hb AC s1 σ H1 Q I1 q1
 | false=>exact⟨.bl false,H1,I1,Z,q1⟩
def sX:bE X (.Dict [] [] pos) abj:=by
 exact⟨λAC s σ H Q I h=>
 wpAny_Dict_empty ⟨.ref s.heap.objs.size,_,I.laid (a:=s.heap.objs.size) (o:=.dK []) (t':=s.toks) (λ_ _ q=>cU _ q) (aL _) (Lo s.heap I.big),Z,h _ (I.hok.fresh (aL _))⟩⟩
def i_{tg e:Expr}{te:TE}{g:TG}(he:bE X e te)(hg:bG X tg g)(hs:swapsWithSole [tg] e pos.line X.env=pure false:=by rfl)(hw:swappedStores [tg] e X.env=pure none:=by rfl)(h1:(assignEach [tg] X.env).map (·.2)=[assign tg X.env] :=by rfl):bS X (.Assign [tg] e pos) (VU te g):=by have he:=he.h;have hg:=hg.h;constructor;intro AC s σ H D I h;refine wpAny_Assign_stores (bP (he AC s σ H _ I h) λv s1 ⟨x,H1,I1,r1,q1⟩=>?_) hs hw;rw[h1];exact bP (hg AC s1 σ H1 x v _ I1 r1 q1) λ_ s2 q=>q
def Dz{DD:Da Expr}{kk:Nat}{tpos:Pos}{ob:Expr}{td:TE}{Bz cpos:Pos}(hob:bE X ob td)(hbase:attributeBase ob "items" X.env (eval ob X.env)=eval ob X.env:=by rfl)(hline:(Bz.endLine==cpos.line)=true:=by rfl):bI X (.Tuple DD kk tpos) (.Call (.Attribute ob "items" Bz) [] [] cpos) (abD td):=by
 have hob:=hob.h;constructor;intro AC s σ H R I h;refine wpAny_Call_method0_late hbase hline (bP (hob AC s σ H _ I h) λv s1 ⟨x,H1,I1,r1,q1⟩=>?_);obtain⟨d,o,AT,rfl,e,fin⟩:=q1;cases r1;obtain⟨ho,hz,hsys,vs,ep,rel,da⟩:=I1.tU e;obtain⟨t1,t2,_⟩:=Lp I1 (.inl ⟨AT,.inr ⟨o,e⟩⟩);have dd:=da.dictOf;refine⟨"dict",_,F.plainAttrs_dict,F.slot_dict_items,F.type_dict_items,t1,t2,Rk rfl (PySem.evalArgs_none ?_)⟩;refine call_meetsIn F.slot_dict_items dd.typeIs F.entry_dict_items (F.args_dict_items_1 _) (meets_dict_items (di X.prog X.w) d hsys) ⟨⟨vs,dd⟩,?_⟩;refine wpAny_pyIter_items (s:={ s1 with heap:=s1.heap.push { cls:=.type "dict_items",data:=.fields #[.ref d] } }) ⟨_,fK _ rfl,Z,Z⟩ (da.push _) ?_;have Iv:Inv X AC σ H1 { s1 with heap:=s1.heap.push { cls:=.type "dict_items",data:=.fields #[.ref d] } }:=I1.kept (t':=s1.toks) λb o e=>cU _ e;generalize ({ s1 with heap:=s1.heap.push { cls:=.type "dict_items",data:=.fields #[.ref d] } }:Shared)=sv at *;have I2:Inv X AC σ H1 { sv with heap:=sv.heap.push { cls:=.type "dict_itemiterator",data:=.fields #[.none,.bool false,.ref d,.int 0 0,.int vs.length 0,.int ep 0,.none,.none] } }:=Iv.kept (t':=sv.toks) λb o e=>cU _ e;have hl:AT.length=vs.length:=rel.length;obtain⟨o',es,h1,_,h2,_⟩:=id da;rw[ho]at h1;cases h1;refine⟨sv.heap.objs.size,[sv.heap.objs.size],_,_,H1,Z,I2,RT h2,?_,λb hb=>?_,fin⟩
 .rw [hl];exact⟨_,_,fK _ rfl⟩
 .have eb:b=sv.heap.objs.size:=by simpa using hb
  subst eb;exact Iv.Dg (aL _) (Iv.hok.fresh (aL _))
def ach{tg:Expr}{l:Expr}{tl:TE}(hl:bE X l tl):bI X tg l (abw tl):=⟨abx hl.h⟩
def yP(ha:bT X a tA):bW X (.BoolOp .Or [a] pos) tA:=by
 have ha:=ha.h;constructor;intro wh AC s σ H Q I h;refine isTrue_or (bP (ha AC s σ H Q I h) λc s1 e=>?_);cases c with
 | false=>exact isTrue_or_nil e
 | true=>exact e
def yQ{X:Cx}{st:Stmt}{t:TS}(h:bS X st t):bS X st (ahK t):=by
 have h:=h.h;constructor;intro AC s σ H D I hw;obtain⟨d,AT,e,hw⟩:=hw;obtain⟨ho,es,ep,h1,_⟩:=(En I.hok e).2.2.choose_spec.2;have h0:=I.T6 e;refine bP (h AC s σ _ _ (I.freeze e h1) (hw ho)) λf s' q=>?_;cases f with
 | next=>obtain⟨σ',H',I',q1,q2⟩:=q;exact⟨σ',_,I'.Dl q1 h0,q2⟩
 | brk=>obtain⟨σ',H',I',q1,q2⟩:=q;exact⟨σ',_,I'.Dl q1 h0,q2⟩
 | cont=>obtain⟨σ',H',I',q1,q2⟩:=q;exact⟨σ',_,I'.Dl q1 h0,q2⟩
 | ret u=>obtain⟨v,σ',H',I',r,q1,q2⟩:=q;exact⟨v,σ',_,I'.Dl q1 h0,r,q2⟩
def qw(hu:X.A.units+1<cLine)(ho:bE X o td)(hi:bE X i ty)(hv:bE X value tv)(hs:swapsWith value (some (.Subscript o i pos')) pos.line X.env=pure false):bS X (.Assign [.Subscript o i pos'] value pos) (aek td ty tv):=by have ho:=ho.h;have hi:=hi.h;have hv:=hv.h;constructor;intro AC s σ H D I h;refine wpAny_Assign_Subscript (bP (hv AC s σ H _ I h) λr s1 ⟨v,H1,I1,rv,q1⟩=>bP (ho AC s1 σ H1 _ I1 q1) λu s2 ⟨x,H2,I2,rx,q2⟩=>bP (hi AC s2 σ H2 _ I2 q2) λiv s3 ⟨y,H3,I3,ry,a,H4,ex,g,q3⟩=>?_) hs;subst ex;obtain rfl:u=Value.ref a:=rx;exact Tp hu I3 g ry rv λs4 I4=>⟨σ,H4,I4,q3⟩
def qv(i:Nat){x:Str}{pos:Pos}(hN:X.N[i]?=some x:=by rfl)(hv:Xz X.env.scope x:=by first|exact Or.inl rfl|exact Or.inr (Or.inl rfl)|exact Or.inr (Or.inr rfl))(hd:(x==("__debug__":Str))=false:=by decide)(hcd:(x==("__classdict__":Str))=false:=by decide):bE X (.Name x pos) (De i):=by exact⟨aaz hN hv hd hcd⟩
def aY{id:String}(hc:iS X (.builtin id) r)(hg:Gl X x)(hm:X.mg x=none)(hv:bootBuiltins x=some (.builtin id))(ha:bA X (e::es) t)(hn:x ≠ "__name__":=by decide)(hdb:(x==("__debug__":Str))=false:=by decide)(he:starEach (e::es) X.env=(false,eval e X.env)::starEach es X.env:=by rfl)(hpl:(backTo pos (starEach es X.env)).any (·.1)=false:=by rfl):bE X (.Call (.Name x p) (e::es) [] pos) (XO r t):=by have ha:=ha.h;constructor;intro AC s σ H Q I h;refine KY (vG I hg hm hv ?_ hn hdb);exact PyProof.Rows.callWith_builtin1 (bP (ha pos AC s σ H _ I h) λus s1 ⟨vs,H1,I1,r1,q1⟩=>hc AC s1 σ H1 vs us Q I1 r1 q1) he hpl
def ja{o i:Expr}{to ti:TE}{t:uH}(ho:bE X o to)(hi:bE X i ti)(hs:VT X t)(ha:∀v,assign (.Subscript o i pos) X.env v=(do
   let ov <-holding [v] (eval o X.env)
   let iv <-holding [v,ov] (eval i X.env)
   standAt pos
   holding [v,ov,iv] (setItem ov iv v)
   release [v,ov,iv] []):=by intro _;rfl):bG X (.Subscript o i pos) (ahr to ti t):=by
 have ho:=ho.h;have hi:=hi.h;constructor
 intro AC s σ H v u Q I r h
 rw[ha]
 refine aA (Ea (bP (ho AC s σ H _ I h) λov s1 ⟨x,H1,I1,r1,q1⟩=>?_))
 refine aA (Ea (bP (hi AC s1 σ H1 _ I1 q1) λiv s2 ⟨y,H2,I2,r2,q2⟩=>?_))
 refine aA (D_ (aA (Ea (bP (hs AC s2 σ H2 x y v ov iv u _ I2 r1 r2 r q2) λ_ s3 ⟨H3,I3,q3⟩=>?_))))
 exact wpAny_release ⟨σ,H3,I3,q3⟩
def gU{st:Stmt}:bS X st aaD:=by exact⟨λ_ _ _ _ _ _ h=>h.elim⟩
def UJ{j k:Nat}{x:Str}{C:Addr}{ps:Da Str}{sp:Sp}{p pos:Pos}(D:Cn X.prog X.w X.K X.mg X.base j x C ps sp)(hr:fL k X.A)(hj:j+1<=k:=by decide)(hg:Gl X x:=by rfl)(hdb:(x==("__debug__":Str))=false:=by decide):bE X (.Call (.Name x p) [] [] pos) (KG C sp [] E0 qL):=by constructor;obtain⟨f,fd,F,b,M,m⟩:=D.ex;exact Wa M F (hr.mono hj) hg m b .nil (λ_ _ _ _ _ _ _ h=>h.elim) hdb
def af(ha:bE X e te)(hr:bA X es t)(hs:starEach (e::es) X.env=(false,eval e X.env)::starEach es X.env:=by rfl):bA X (e::es) (RI te t):=by have ha:=ha.h;have hr:=hr.h;constructor;intro pos AC s σ H Q I h;rw[hs];show wpAny _ _ (spliced ((false,eval e X.env)::backTo pos (starEach es X.env))) _ _ s;refine Calls.spliced_cons (bP (ha AC s σ H _ I h) λu s1 ⟨x,H1,I1,r1,q1⟩=>?_);exact bP (hr pos AC s1 σ H1 _ I1 q1) λus s2 ⟨xs,H2,I2,r2,q2⟩=>⟨x::xs,H2,I2,.cons r1 r2,q2⟩
def aN(K:Fg){e:Expr}{f:Str}{ta:TE}{pos:Pos}(he:bE X e ta)(hb:attributeBase e f X.env (eval e X.env)=eval e X.env:=by rfl)(hK:X.K=K:=by rfl):bE X (.Attribute e f pos) (aaV K ta f):=by have he:=he.h;exact⟨hK▸aaY he hb⟩
def Cq{op:CmpOp}{r:R2}(ho:jZ X (compareOp op) r)(ha:bE X a ta)(hb:bE X b tb)(hm:behindInMarks op b=false):bE X (.Compare a [op] [b] pos) (CJ r ta tb):=by have ha:=ha.h;have hb:=hb.h;constructor;intro AC s σ H Q I h;exact wpAny_Compare1 (V2 ha hb I h λv u s2 x y H2 I2 rx ry q=>ho AC s2 σ H2 x y v u Q I2 rx ry q) hm
def bh{j k:Nat}{x:Str}{ps:Da Str}{sp:Sp}{e:Expr}{es:Da Expr}{t:TA}{p pos:Pos}(D:Dn X.prog X.w X.K X.mg X.base j x ps sp)(hr:fL k X.A)(ha:bA X (e::es) t)(hj:j<=k:=by decide)(hg:Gl X x:=by rfl)(hdb:(x==("__debug__":Str))=false:=by decide)(he:starEach (e::es) X.env=(false,eval e X.env)::starEach es X.env:=by rfl)(hpl:(backTo pos (starEach es X.env)).any (·.1)=false:=by rfl):bE X (.Call (.Name x p) (e::es) [] pos) (XM sp [] E0 t):=by have ha:=ha.h;constructor;obtain⟨f,fd,F,b,kp,m⟩:=D.ex;exact Y0 F (hr.mono hj) hg m kp b .nil (λ_ _ _ _ _ _ _ h=>h.elim) ha hdb he hpl
def oV{Cl:Da Expr}(ha:bT X a tA)(hb:bW X (.BoolOp .And (b::Cl) pos) XE):bW X (.BoolOp .And (a::b::Cl) pos) (ahm tA XE):=by
 have ha:=ha.h;have hb:=hb.h;constructor;intro wh AC s σ H Q I h;refine isTrue_and (bP (ha AC s σ H _ I h) λc s1 ⟨H1,I1,q1⟩=>?_);cases c with
 | true=>exact hb wh AC s1 σ H1 Q I1 q1
 | false=>exact⟨H1,I1,q1⟩
section
variable {P:Program}{w:World}{K:Fg}{mg:SO}{base:Heap}{f C:Addr}{fd:FuncData}{N ps:Da Str}{k:Nat}{sp:Sp}{x m qual:Str}{st:Stmt}
def dm{N P:Da Str}{sc:Scope}(a:sc.kind =.function:=by rfl)(b:sc.isCoroutine=false:=by rfl)(c:sc.isGenerator=false:=by rfl)(d:N.Nodup:=by decide +kernel)(e:N.take P.length=P:=by rfl)(f:∀x∈P,sc.names.lookup x=some .local\/sc.names.lookup x=some .cell:=by decide +kernel)(g:∀y∈sc.names,y.2 ≠ .free:=by decide +kernel):aQ N P sc:=⟨a,b,c,d,e,f,g⟩
def At.oA(F:At K mg x st f fd)(S:aQ N ps (aD st))(Ch:∀(cdv:Value) (A:Around) (outer:Da Env) (s:Shared) (H:Hp) (vs:Da V) (Q:VK) (E:XK),fL k (A.deeper (envOfC x (aD st) s.heap.objs.size f cdv))->sp vs H Q E->
    ∃t,xM (uI vM P w K mg base N x (aD st) f cdv A outer s H E).CI (dX st) t/\t { nx:=λ_ H'=>Q .cy H',rt:=Q } (start N vs) H)(len:∀vs H Q E,sp vs H Q E->vs.length=ps.length:=by intro vs H Q E h;first|(cases h.ex;subst_vars;rfl)|(have h:=h.ex;(repeat first|(obtain⟨rfl,_⟩:=h;rfl)|(obtain⟨_,h⟩:=h));done)|(repeat first|(obtain⟨rfl,_⟩:=h;rfl)|(obtain⟨_,h⟩:=h)))(h:∀(kV doc pm:Value) (an:Option Addr) (cdv ct:Value) (us:Da Value),us.length=ps.length->bindArgs (PySem.W.fnOf x x (gG st) (dX st) (aD st) .none kV doc pm an cdv ct) ⟨us,[]⟩=pure (ps.zip us):=by intro _ _ _ _ _ _ us hl;repeat' (first|rfl|(simp at hl;done)|(rcases us with _|⟨_,us⟩))):Dn P w K mg base (k+1) x ps sp:=F.ok S len Ch h
def jj.oA(F:jj K C m qual st f fd)(S:aQ N ps (aD st))(Ch:∀(cdv:Value) (A:Around) (outer:Da Env) (s:Shared) (H:Hp) (vs:Da V) (Q:VK) (E:XK),fL k (A.deeper (envOfC qual (aD st) s.heap.objs.size f cdv))->sp vs H Q E->
    ∃t,xM (uI vM P w K mg base N qual (aD st) f cdv A outer s H E).CI (dX st) t/\t { nx:=λ_ H'=>Q .cy H',rt:=Q } (start N vs) H)(len:∀vs H Q E,sp vs H Q E->vs.length=ps.length:=by intro vs H Q E h;first|(cases h.ex;subst_vars;rfl)|(have h:=h.ex;(repeat first|(obtain⟨rfl,_⟩:=h;rfl)|(obtain⟨_,h⟩:=h));done)|(repeat first|(obtain⟨rfl,_⟩:=h;rfl)|(obtain⟨_,h⟩:=h)))(h:∀(kV doc pm:Value) (an:Option Addr) (cdv ct:Value) (us:Da Value),us.length=ps.length->bindArgs (PySem.W.fnOf m qual (gG st) (dX st) (aD st) .none kV doc pm an cdv ct) ⟨us,[]⟩=pure (ps.zip us):=by intro _ _ _ _ _ _ us hl;repeat' (first|rfl|(simp at hl;done)|(rcases us with _|⟨_,us⟩))):Mn P w K mg base (k+1) C m ps sp:=F.ok S len Ch h
def Io.oA(F:Io K mg x C qual st f fd)(S:aQ N ps (aD st))(Ch:∀(cdv:Value) (A:Around) (outer:Da Env) (s:Shared) (H:Hp) (vs:Da V) (Q:VK) (E:XK),fL k (A.deeper (envOfC qual (aD st) s.heap.objs.size f cdv))->sp vs H Q E->
    ∃t,xM (uI vM P w K mg base N qual (aD st) f cdv A outer s H E).CI (dX st) t/\t { nx:=λ_ H'=>Q .cy H',rt:=Q } (start N vs) H)(len:∀vs H Q E,sp vs H Q E->vs.length=ps.length:=by intro vs H Q E h;first|(cases h.ex;subst_vars;rfl)|(have h:=h.ex;(repeat first|(obtain⟨rfl,_⟩:=h;rfl)|(obtain⟨_,h⟩:=h));done)|(repeat first|(obtain⟨rfl,_⟩:=h;rfl)|(obtain⟨_,h⟩:=h)))(h:∀(kV doc pm:Value) (an:Option Addr) (cdv ct:Value) (us:Da Value),us.length=ps.length->bindArgs (PySem.W.fnOf "__init__" qual (gG st) (dX st) (aD st) .none kV doc pm an cdv ct) ⟨us,[]⟩=pure (ps.zip us):=by intro _ _ _ _ _ _ us hl;repeat' (first|rfl|(simp at hl;done)|(rcases us with _|⟨_,us⟩))):Cn P w K mg base (k+1) x C ps sp:=F.ok S len Ch h
end
def rm(b:BS)(x:Str)(F:BP->BP):BS:={ b with ah:=(b.ah.map λp=>if p.nm=x then F p else p).filter λp=>decide (0<p.wo) }
def pW(b:BS)(x:Str):BP:=(b.ah.find? λp=>decide (p.nm=x)).getD ⟨x,x,0,0,[]⟩
def nZ(b:BS)(o:Str)(p:BP):BP:={ p with ow:=o,tops:=(p.tops.set (b.own.idxOf p.ow) 0).set (b.own.idxOf o) ((p.tops.set (b.own.idxOf p.ow) 0).getD (b.own.idxOf o) 0+p.tops.getD (b.own.idxOf p.ow) 0) }
def Bq(b:BS)(x y:Str)(a we:Int):BS:={ b with
 ah:=((b.ah.map λp:BP=>if p.nm=x then{ p with wo:=p.wo-a,we:=p.we-we } else p)++[BP.mk y (pW b x).ow a we (pW b x).tops]).filter λp=>decide (0<p.wo)
 d9:=b.d9++[y] }
def x9(b:BS)(x:Str):BS:={ rm b x λp=>{ p with wo:=0 }with bB:=b.bB++[⟨x,(pW b x).ow,(pW b x).wo,(pW b x).tops,b.bot⟩] }
def tW(b:BS):Dd->BS
 | .sign _=>b
 | .load x o wo we=>zX b x o wo we
 | .cast rs=>jg b (dg b rs) 0 0
 | .award o a=>jg b (List.replicate b.ah.length 0) (b.own.idxOf o) a
 | .mishap x a=>rm b x λp=>{ p with wo:=p.wo-a }
 | .rise x a=>rm b x λp=>{ p with wo:=p.wo+a }
 | .hand x o=>rm b x (nZ b o)
 | .land x=>x9 b x
 | .sever x y a we=>Bq b x y a we
 | .still=>b
def IQ(b:BS)(d:Dd):(tW b d).own=b.own:=by cases d <;> rfl
inductive aeO(e:Ec)(vs:Da V)(H:Hp)(Q:VK)(E:XK):Prop
 |mk(a:Int)(_:vs=[.int a])(_:(a<1->Rf e E H 5))(_:(1<=a->Q .cy H))
def Br(e:Ec):Sp:=bx (aeO e)
inductive aeP(e:Ec)(vs:Da V)(H:Hp)(Q:VK)(E:XK):Prop
 |mk(m a:Int)(_:vs=[.int m,.int a])(_:(a<1->Rf e E H 5))(_:(1<=a->m<a->Rf e E H 6))(_:(1<=a->a<=m->Q .cy H))
def Mj(e:Ec):Sp:=bx (aeP e)
inductive WU(T:TC)(e:Ec)(vs:Da V)(H:Hp)(Q:VK)(E:XK):Prop
 |mk(n ρ A st x a:_)(_:vs=[.ref A.a,.str x,.int a])(_:HH T n ρ A H st)(_:IM T e n ρ A H (mE st (x,a)) (eU st (x,a)) Q E)
def IS(T:TC)(e:Ec):Sp:=bx (WU T e)
inductive aci(T:TC)(e:Ec)(vs:Da V)(H:Hp)(Q:VK)(E:XK):Prop
 |mk(n ρ A st x a:_)(_:vs=[.ref A.a,.str x,.int a])(_:HH T n ρ A H st)(_:IM T e n ρ A H (tV st x a:_) (E1 st x a:_) Q E)
def QC(T:TC)(e:Ec):Sp:=bx (aci T e)
inductive aeQ(K:Fg)(vs:Da V)(H:Hp)(Q:VK)(E:XK):Prop
 |mk(l:Addr)(us:Da V)(ws:Da Row)(x:Str)(_:vs=[.ref l,.str x])(_:aB K H l us)(_:L7 K H us ws)(_:(ws.map (λr:Row=>r.1)).Nodup)(_:ws.length<=1000)(_:(∀(i:Nat) (r:Row),ws[i]?=some r->r.1=x->Q (.int (i:Int)) H))(_:((∀r∈ws,r.1≠x)->Q (.int (-1)) H))
def E2(K:Fg):Sp:=bx (aeQ K)
inductive Ml(al:HS->Dd->Prop)(K:Fg)(vs:Da V)(H:Hp)(Q:VK)(E:XK):Prop
 |mk(n c:Nat)(ρ:eF)(B:BA)(b:BS)(st:HS)(z:Addr)(d:Dd)(_:vs=[.ref B.m,.ref z])(_:H z=some (.tup d.v))(_:Gh ρ H)(_:aU n ρ B H b)(_:dj c st b)(_:c<=90)(_:Wf st)(_:al st d)(_:CY d)(_:pV st d=none)(_:∀ρ' B' H',Gh ρ' H'->aU n ρ' B' H' (tW b d:_)->B'.m=B.m->Fr n ρ H ρ' H'->Q .cy H')
def ur(al:HS->Dd->Prop)(K:Fg):Sp:=bx (Ml al K)
theorem Dn.imp{P:Program}{w:World}{K:Fg}{mg:SO}{base:Heap}{k:Nat}{x:Str}{ps:Da Str}{sp Tc:Sp}(D:Dn P w K mg base k x ps sp)(h:∀vs H Q E,Tc vs H Q E->sp vs H Q E):Dn P w K mg base k x ps Tc:=by obtain⟨f,fd,F,b,kp,m⟩:=D.ex;exact⟨f,fd,F.imp h,b,kp,m⟩
def acj{P:Program}{w:World}{K:Fg}{mg:SO}{base:Heap}{k:Nat}{ps:Da Str}(D:Dn P w K mg base k "_law_at" ps (E2 K)):Dn P w K mg base k "_law_at" ps (Yc K):=D.imp λvs H Q E h=>by
 obtain⟨⟨l,us,ws,j,r,rfl,hl,hW,nd,hle,ej,q⟩⟩:=h;refine⟨l,us,ws,r.1,Z,hl,hW,nd,hle,λi r' e1 e2=>?_,λz=>absurd rfl (z r (bg ej))⟩;have hi:i<ws.length:=(dM.mp e1).1;have r1:(ws.map (λr:Row=>r.1))[i]?=some r'.1:=by rw[bV,e1];rfl
 have r2:(ws.map (λr:Row=>r.1))[j]?=some r.1:=by rw[bV,ej];rfl
 have:i=j:=(Gv (by rw[aE];exact hi) nd).mp (r1.trans (by rw[e2];exact r2.symm));rw[this];exact q
def n_{st:HS}{x:Str}(h:x∈fV st):∃(i:Nat)(p:Pt),st.ah[i]?=some p/\p.nm=x:=by obtain⟨p,hp,e⟩:=aW.mp h;obtain⟨i,hi,ei⟩:=m8 hp;exact⟨i,p,by rw[bf hi,ei],e⟩
def Cr{st:HS}{i:Nat}{p:Pt}(h:st.ah[i]?=some p):p.nm∈fV st:=aW.mpr ⟨p,bg h,Z⟩
theorem vv{α:Type}{nm:α->Str}{f:α->α}:∀{l:Da α}{i:Nat}{p:α},(l.map nm).Nodup->l[i]?=some p->(l.map λq=>if nm q=nm p then f q else q)=l.set i (f p)
 | [],_,_,_,h=>by simp at h
 | a::l,0,p,nd,h=>by
  have e:a=p:=by simpa using h
  subst e;obtain⟨h1,_⟩:=g_.mp (show(nm a::l.map nm).Nodup from nd);rw[bK,ay rfl,K1];congr 1;refine(qA (g:=id) (λq hq=>av λz=>h1 (aW.mpr ⟨q,hq,z⟩))).trans (List.map_id l)
 | a::l,i+1,p,nd,h=>by
  obtain⟨h1,h2⟩:=g_.mp (show(nm a::l.map nm).Nodup from nd);have h':l[i]?=some p:=by simpa using h
  rw[bK,av (λz=>h1 (aW.mpr ⟨p,bg h',z.symm⟩)),K0,vv h2 h']
def Cs{st:HS}(nd:(st.ah.map (·.nm)).Nodup){i:Nat}{p:Pt}(h:st.ah[i]?=some p)(f:Pt->Pt):oU st p.nm f={ st with ah:=st.ah.set i (f p) }:=by unfold oU;rw[vv (nm:=λp:Pt=>p.nm) nd h]
def yR{st:HS}(wf:Wf st){x:Str}{f:Pt->Pt}(h:∀p∈st.ah,p.nm=x->(f p).nm=p.nm/\(f p).ow=p.ow/\(f p).sc=p.sc/\(f p).row=p.row/\1<=(f p).wo/\0<=(f p).we):Wf (oU st x f):=by
 have P:∀{M:Pt->Prop},(∀p∈st.ah,p.nm=x->M (f p))->(∀p∈st.ah,M p)->∀p∈(oU st x f).ah,M p:=λa c p hp=>by
  obtain⟨q,hq,rfl⟩:=aW.mp (show p∈st.ah.map _ from hp);by_cases e:q.nm=x
  .rw [ay e];exact a q hq e
  .rw [av e];exact c q hq
 have en:(oU st x f).ah.map (λp:Pt=>p.nm)=st.ah.map (λp:Pt=>p.nm):=by
  show(st.ah.map _).map _=_;rw[dJ];refine qA λp hp=>?_;show(if p.nm=x then f p else p).nm=p.nm;by_cases e:p.nm=x
  .rw [ay e];exact(h p hp e).1
  .rw [av e]
 refine⟨wf.uO,wf.zQ,?_,P (λp hp e=>?_) wf.sub,P (λp hp e=>?_) wf.rows,P (λp hp e=>?_) wf.ow,wf.gf,wf.mC,wf.fZ,wf.nR,wf.sO,wf.lF,wf.zR,?_,wf.AY,wf.vU,wf.Iq,wf.big,wf.pR,P (λp hp e=>?_) wf.qR,P (λp hp e=>?_) wf.oF,P (λp hp e=>?_) wf.pS,P (λp hp e=>?_) wf.jS,wf.GG⟩
 .show ((oU st x f).ah.map (λp:Pt=>p.nm)).Nodup;rw[en];exact wf.fP
 .show (f p).nm∈st.nms;rw[(h p hp e).1];exact wf.sub p hp
 .rw [(h p hp e).2.2.2.1];exact wf.rows p hp
 .show (f p).ow∈st.own;rw[(h p hp e).2.1];exact wf.ow p hp
 .show (st.ah.map _).length<=1000;rw[aE];exact wf.qQ
 .rw [(h p hp e).2.2.1];exact wf.qR p hp
 .rw [(h p hp e).2.2.2.1];exact wf.oF p hp
 .rw [(h p hp e).2.2.2.1,(h p hp e).2.2.1];exact wf.pS p hp
 .exact (h p hp e).2.2.2.2
def pX(p:BP):Q4:=(p.nm,p.ow,p.wo,p.we)
def Ct{l:Da BP}{F:BP->BP}{f:Q4->Q4}(h:∀p∈l,pX (F p)=f (pX p)):((l.map F).filter λp=>decide (0<p.wo)).map pX=((l.map pX).map f).filter λq=>decide (0<q.2.2.1):=by
 induction l with
 | nil=>rfl
 | cons p l ih=>
  have ih:=ih λq hq=>h q (cQ _ hq);have e:=h p cM;rw[bK,bK,bK,<-e];by_cases c:0<(F p).wo
  .rw [Rj (p:=λp:BP=>decide (0<p.wo)) (bR c),Rj (p:=λq:Q4=>decide (0<q.2.2.1)) (bR (show 0<(pX (F p)).2.2.1 from c)),bK,ih]
  .rw [List.filter_cons_of_neg (p:=λp:BP=>decide (0<p.wo)) (by simpa using c),List.filter_cons_of_neg (p:=λq:Q4=>decide (0<q.2.2.1)) (by simpa using(show ¬ 0<(pX (F p)).2.2.1 from c)),ih]
theorem KJ{c:Nat}{st:HS}{b:BS}(g:dj c st b){ps:Da Pt}{bs:Da BP}(qd:h_ { st with ah:=ps }=lI { b with ah:=bs })(hp:∀p'∈ps,∃p∈st.ah,p'.nm=p.nm/\p'.sc=p.sc/\p'.row=p.row)(hb:∀q'∈bs,∃q∈b.ah,q'.nm=q.nm/\q'.ow=q.ow/\q'.tops=q.tops/\1<=q'.wo/\q'.wo<=q.wo+1000000000/\q'.we<=q.we)(sb:(bs.map λp:BP=>p.nm).Sublist (b.ah.map λp:BP=>p.nm)):dj (c+1) { st with ah:=ps } { b with ah:=bs }:=by
 have hl:bs.length<=b.ah.length:=by have:=sb.length_le;rwa [aE,aE]at this
 have wb:=g.fh
 refine⟨⟨wb.nd.sublist sb,λq hq=>?_,λq hq=>?_,wb.b1,wb.bz,λq hq=>?_,wb.ol,fY hl wb.pl,wb.kl⟩,⟨g.rel.own,qd⟩,λp eZ q hq e j=>?_,λu hu=>(g.bJ u hu).mono (by omega),fY g.stp (by omega),g.prod.mono (by omega),g.bot.mono (by omega),λq hq=>?_,(λq hq=>by obtain⟨q0,h0,e1,e2,e3,e4,e5,e6⟩:=hb q hq;have:=g.we q0 h0;omega),(by have:=g.pl;show bs.length<=_;omega),(by have:=g.kl;show b.d9.length<=_;omega),g.own,λq hq=>?_,g.bB,g.d9,g.nk,g.on,λq hq=>?_⟩
 . obtain⟨q0,h0,e1,e2,e3,e4,e5⟩:=hb q hq;rw[e3];exact wb.tl q0 h0
 . obtain⟨q0,h0,e1,e2,e3,e4,e5⟩:=hb q hq;rw[e3];exact wb.t0 q0 h0
 . obtain⟨q0,h0,e1,e2,e3,e4,e5⟩:=hb q hq;exact e4
 . obtain⟨q0,h0,e1,e2,e3,e4,e5⟩:=hb q hq
   obtain⟨p0,k0,k1,k2,k3⟩:=hp p eZ
   have:=g.pU p0 k0 q0 h0 (by rw[<-k1,<-e1];exact e) j
   rw[e3]
   show _=(aP { st with ah:=ps } p).getD j 0*b.bot
   have et:aP { st with ah:=ps } p=aP st p0:=by unfold aP;rw[k2,k3]
   rw[et];exact this
 . obtain⟨q0,h0,e1,e2,e3,e4,e5⟩:=hb q hq
   have:=g.wo q0 h0
   omega
 . obtain⟨q0,h0,e1,e2,e3,e4,e5⟩:=hb q hq;rw[e1,e2];exact g.nm q0 h0
 . obtain⟨q0,h0,e1,e2,e3,e4,e5⟩:=hb q hq;rw[e3];exact g.sum q0 h0
def Cu(b:BS)(x:Str)(F:BP->BP)(h:∀p∈b.ah,(F p).nm=p.nm):(((b.ah.map λp=>if p.nm=x then F p else p).filter λp=>decide (0<p.wo)).map λp:BP=>p.nm).Sublist (b.ah.map λp:BP=>p.nm):=by
 have e:(b.ah.map λp=>if p.nm=x then F p else p).map (λp:BP=>p.nm)=b.ah.map λp:BP=>p.nm:=by
  rw[dJ];refine qA λp hp=>?_;show(if p.nm=x then F p else p).nm=p.nm;by_cases c:p.nm=x
  .rw [ay c];exact h p hp
  .rw [av c]
 rw[<-e];exact(KW).map _
def v_{c:Nat}{st:HS}{b:BS}(g:dj c st b):st.ah.map (λp=>((p.nm,p.ow,p.wo,p.we):Q4))=b.ah.map pX:=g.rel.qd
theorem UK{c:Nat}{st:HS}{b:BS}{x:Str}{a:Int}(g:dj c st b)(wf:Wf st)(h:mE st (x,a)=none):dj (c+1) (eU st (x,a)) (rm b x λp=>{ p with wo:=p.wo-a }):=by
 have hr:x∈fV st/\1<=a/\a<=(cO st x).wo:=by
  unfold mE at h;by_cases c1:x∈fV st
  .rw [ay c1]at h;by_cases c2:a<1
   .rw [ay c2]at h;cases h
   .rw [av c2]at h;by_cases c3:(cO st x).wo<a
    .rw [ay c3]at h;cases h
    .exact ⟨c1,by omega,by omega⟩
  .rw [av c1]at h;cases h
 obtain⟨hm,h1,h2⟩:=hr;have le:∀p∈st.ah,p.nm=x->a<=p.wo:=λp hp e=>by rw[dS wf hp e]at h2;exact h2
 have leB:∀q∈b.ah,q.nm=x->a<=q.wo:=λq hq e=>by
  obtain⟨j,hj,ej⟩:=m8 hq;obtain⟨p,hp,k1,_,k3,_⟩:=g.rel.at (i:=j) (q:=q) (by rw[bf hj,ej])
  rw[<-k3];exact le p (bg hp) (k1.trans e)
 refine KJ g ?_ (λp hp=>?_) (λq hq=>?_) (Cu b x _ λ_ _=>rfl)
 .show (j8 st.ah x a).map _=List.map pX ((b.ah.map _).filter _);rw[Ct (f:=λq:Q4=>if q.1=x then(q.1,q.2.1,q.2.2.1-a,q.2.2.2) else q) (λp hp=>by
   show pX (if p.nm=x then _ else _)=if p.nm=x then _ else _;by_cases e:p.nm=x
   .rw [ay e,ay e];rfl
   .rw [av e,av e]),<-v_ g]
  show(j8 st.ah x a).map _=_;have:=IF st (x,a);rw[show(j8 st.ah x a).map (λp:Pt=>((p.nm,p.ow,p.wo,p.we):Q4))=pB (h_ st) (x,a)from this];unfold pB h_;refine List.filter_congr λq hq=>decide_eq_decide.mpr ?_;obtain⟨q0,nD,rfl⟩:=aW.mp hq;obtain⟨p,hp,rfl⟩:=aW.mp nD;have w1:=(wf.jS p hp).1;show(if p.nm=x then _ else _:Q4).2.2.1≠0↔0<(if p.nm=x then _ else _:Q4).2.2.1;by_cases e:p.nm=x
  .have:=le p hp e;rw[ay e];show p.wo-a≠0↔0<p.wo-a;omega
  .rw [av e];show p.wo≠0↔0<p.wo;omega
 .obtain ⟨_,q,hq,rfl⟩:=sU (show p∈j8 st.ah x a from hp);refine⟨q,hq,?_⟩;by_cases e:q.nm=x
  .rw [ay e];exact⟨Z,Z,Z⟩
  .rw [av e];exact⟨Z,Z,Z⟩
 .obtain ⟨h3,h4⟩:=iG.mp hq;obtain⟨q0,nD,rfl⟩:=aW.mp h3;have w1:=g.fh.w1 q0 nD;have h4:=dN h4;refine⟨q0,nD,?_⟩;by_cases e:q0.nm=x
  .rw [ay e]at h4 ⊢;have h4:0<q0.wo-a:=h4;exact⟨Z,Z,Z,by show 1<=q0.wo-a;omega,by show q0.wo-a<=_;omega,eO _⟩
  .rw [av e];exact⟨Z,Z,Z,w1,by omega,eO _⟩
theorem ZN{c:Nat}{st:HS}{b:BS}{x:Str}{a:Int}(g:dj c st b)(wf:Wf st)(h1:1<=a)(h2:a<=1000000000):dj (c+1) (E1 st x a) (rm b x λp=>{ p with wo:=p.wo+a }):=by
 refine KJ g ?_ (λp hp=>?_) (λq hq=>?_) (Cu b x _ λ_ _=>rfl)
 .show (st.ah.map _).map _=List.map pX ((b.ah.map _).filter _);rw[Ct (f:=λq:Q4=>if q.1=x then(q.1,q.2.1,q.2.2.1+a,q.2.2.2) else q) (λp hp=>by
   show pX (if p.nm=x then _ else _)=if p.nm=x then _ else _;by_cases e:p.nm=x
   .rw [ay e,ay e];rfl
   .rw [av e,av e]),<-v_ g,AD.mpr (λq hq=>by
    obtain⟨q0,nD,rfl⟩:=aW.mp hq;obtain⟨p,hp,rfl⟩:=aW.mp nD;have w1:=(wf.jS p hp).1;refine bR ?_;show 0<(if p.nm=x then _ else _:Q4).2.2.1;by_cases e:p.nm=x
    .rw [ay e];show 0<p.wo+a;omega
    .rw [av e];show 0<p.wo;omega),dJ,dJ]
  refine qA λp hp=>?_;show(λp:Pt=>((p.nm,p.ow,p.wo,p.we):Q4)) (if p.nm=x then _ else _)=if p.nm=x then _ else _;by_cases e:p.nm=x
  .rw [ay e,ay e]
  .rw [av e,av e]
 .obtain ⟨q,hq,rfl⟩:=aW.mp hp;refine⟨q,hq,?_⟩;by_cases e:q.nm=x
  .rw [ay e];exact⟨Z,Z,Z⟩
  .rw [av e];exact⟨Z,Z,Z⟩
 .obtain ⟨h3,h4⟩:=iG.mp hq;obtain⟨q0,nD,rfl⟩:=aW.mp h3;have w1:=g.fh.w1 q0 nD;refine⟨q0,nD,?_⟩;by_cases e:q0.nm=x
  .rw [ay e];exact⟨Z,Z,Z,by show 1<=q0.wo+a;omega,by show q0.wo+a<=_;omega,eO _⟩
  .rw [av e];exact⟨Z,Z,Z,w1,by omega,eO _⟩
def pY{st:HS}{b:BS}(r:kR st b)(wf:Wf st){x:Str}(h:x∈fV st):∃(i:Nat)(p:Pt)(q:BP),st.ah[i]?=some p/\b.ah[i]?=some q/\p.nm=x/\q.nm=x/\q.ow=p.ow/\q.wo=p.wo/\q.we=p.we/\cO st x=p:=by obtain⟨i,p,h1,h2⟩:=n_ h;obtain⟨q,k1,k2,k3,k4,k5⟩:=r.at' h1;exact⟨i,p,q,h1,k1,h2,k2.symm.trans h2,k3.symm,k4.symm,k5.symm,dS wf (bg h1) h2⟩
def Mm{st:HS}{b:BS}(r:kR st b):(mO b).map (λr:Row=>r.1)=fV st:=by
 have:(h_ st).map (λq:Q4=>q.1)=(lI b).map (λq:Q4=>q.1):=by rw[r.qd]
 unfold h_ lI at this;rw[dJ,dJ]at this;unfold mO fV;rw[dJ];exact this.symm
def ZO{K:Fg}{H:Hp}{Q:VK}{E:XK}{n:Nat}{ρ:eF}{B:BA}{b:BS}{st:HS}{x:Str}(hb:aU n ρ B H b)(r:kR st b)(wf:Wf st)(wb:xY b)(q:∀(i:Nat) (p:Pt) (q:BP),st.ah[i]?=some p->b.ah[i]?=some q->p.nm=x->q.nm=x->q.ow=p.ow->q.wo=p.wo->q.we=p.we->cO st x=p->x∈fV st->Q (.int (i:Int)) H)(q2:x∉fV st->Q (.int (-1)) H):E2 K [.ref B.lp,.str x] H Q E:=by
 have nd:((mO b).map (λr:Row=>r.1)).Nodup:=by unfold mO;rw[dJ];exact wb.nd
 refine⟨B.lp,_,mO b,x,Z,aB.of hb.op,hb.nw,nd,by unfold mO;rw[aE];exact wb.pl,λi r' e1 e2=>?_,λh=>q2 λz=>?_⟩
 . have hm:x∈fV st:=by rw[<-Mm r];exact aW.mpr ⟨r',bg e1,e2⟩
   obtain⟨j,p,q',k1,k2,k3,k4,k5,k6,k7,k8⟩:=pY r wf hm
   have r1:((mO b).map (λr:Row=>r.1))[i]?=some x:=by rw[bV,e1];show some r'.1=_;rw[e2]
   have r2:((mO b).map (λr:Row=>r.1))[j]?=some x:=by unfold mO;rw[dJ,bV,k2];show some q'.nm=_;rw[k4]
   have:i=j:=(Gv (dM.mp r1).1 nd).mp (r1.trans r2.symm)
   subst this
   exact q i p q' k1 k2 k3 k4 k5 k6 k7 k8 hm
 . rw[<-Mm r]at z
   obtain⟨r',hr',e⟩:=aW.mp z
   exact h r' hr' e
theorem Bs{st:HS}{x:Str}{a:Int}(h:tV st x a=none):x∈fV st/\1<=a:=by
 unfold tV at h;by_cases hm:x∈fV st
 .rw [ay hm]at h;by_cases c:a<1
  .rw [ay c]at h;cases h
  .exact ⟨hm,by omega⟩
 .rw [av hm]at h;cases h
structure GS(st:HS):Prop where
 big:Jm.Sz 60 (aI st)
 prod:Jm.Sz 7900 st.prod
 bJ:∀u∈st.bJ,Jm.Sz 8900 u
 stp:st.stp.length<100
def kO(st:HS)(o:Str)(a:Int):Da Int:=(List.replicate st.own.length 0).set (st.own.idxOf o) (a*st.prod)
inductive ZP(T:TC)(e:Ec)(vs:Da V)(H:Hp)(Q:VK)(E:XK):Prop
 |mk(n ρ A st o a:_)(_:vs=[.ref A.a,.str o,.int a])(_:HH T n ρ A H st)(_:GS st)(_:IM T e n ρ A H (nv st o a:_) (Bl st o a:_) Q E)
def Mp(T:TC)(e:Ec):Sp:=bx (ZP T e)
theorem rA{st:HS}{o:Str}{a:Int}(h:nv st o a=none):o∈st.own/\1<=a/\a<aI st:=by
 unfold nv at h;split at h
 .split at h
  .cases h
  .split at h
   .cases h
   .exact ⟨by assumption,by omega,by omega⟩
 .cases h
def WV{st:HS}{o:Str}{a m:Int}(h:m∈kO st o a):m=0\/m=a*st.prod:=by
 rcases KO h with z|z
 .exact .inl (KP z)
 .exact .inr z
def WW(st:HS)(o:Str)(a:Int):(kO st o a).length=st.own.length:=by unfold kO;rw[fH,jd]
theorem GS.blend{st:HS}{o:Str}{a:Int}(w:GS st)(wf:Wf st)(h1:1<=a)(h2:a<aI st):nT st (aI st-a) (aI st) a (kO st o a):=by have p1:=wf.fZ;refine⟨by omega,by omega,by omega,by rw[WW,wf.gf],λm hm=>?_,w.prod,w.big,w.bJ,w.stp⟩;have:0<=a*st.prod:=kJ (by omega) (by omega);rcases WV hm with z|z <;> omega
def Mq{l:Da Int}{i j:Nat}{x:Int}(h:i<l.length):(l.set i x).getD j 0=if i=j then x else l.getD j 0:=by
 rw[dD,Rx];by_cases e:i=j
 .subst e;rw[ay rfl,ay rfl,ay h];rfl
 .rw [av e,av e,dD]
def Mr(n j:Nat):(List.replicate n (0:Int)).getD j 0=0:=by rw[dD,Ri];split <;> rfl
theorem Ms:∀(ps:Da BP)(i:Nat),iD ps (List.replicate ps.length 0) i=0
 | [],_=>rfl
 | p::ps,i=>by have:=Ms ps i;unfold iD at this ⊢;rw[jf,zg,uC,b9,this,Int.mul_zero];rfl
def E3(b:BS)(j:Nat):(gK b (List.replicate b.ah.length 0)).getD j 0=0:=by
 unfold gK;rw[dD,bV];cases(List.range b.own.length)[j]? with
 | none=>rfl
 | some i=>exact Ms b.ah i
def ack{b:BS}{seat:Nat}{a:Int}{p:BP}(h:p∈(jg b (List.replicate b.ah.length 0) seat a).ah):∃q∈b.ah,p=nt (iu b (List.replicate b.ah.length 0) seat a) (bL b-a) q 0:=by obtain⟨h1,_⟩:=iG.mp (show p∈(c_ b (List.replicate b.ah.length 0) seat a).filter _ from h);obtain⟨i,x,y,ex,ey,e⟩:=jm (show p∈List.zipWith (nt (iu b (List.replicate b.ah.length 0) seat a) (bL b-a-(List.replicate b.ah.length (0:Int)).sum)) b.ah (List.replicate b.ah.length 0)from h1);rw[sV,xJ,KP (bg ey)]at e;exact⟨x,bg ex,e⟩
theorem QD{k:BP->Int->BP}:∀(ps:Da BP),List.zipWith k ps (List.replicate ps.length 0)=ps.map λp=>k p 0
 | []=>rfl
 | p::ps=>by rw[jf,zg,uC,bK,QD ps]
theorem WX{c:Nat}{st:HS}{b:BS}{o:Str}{a:Int}(g:dj c st b)(wf:Wf st)(w:GS st)(hc:c<=90)(ho:o∈st.own)(h1:1<=a)(h2:a<aI st):dj (c+1) (Bl st o a) (jg b (List.replicate b.ah.length 0) (b.own.idxOf o) a):=by
 have ew:=g.rel.whole;have eo:=g.rel.own;have bl:=w.blend (o:=o) wf h1 h2;have hi:b.own.idxOf o<b.own.length:=KQ.mpr (by rw[<-eo];exact ho);have bo:kQ b (List.replicate b.ah.length 0) (b.own.idxOf o) a:=⟨jd,λx hx=>by rw[KP hx];exact eO _,hi,by omega,by rw[sV];omega,by rw[<-ew];exact w.big⟩
 refine Qy g bl bo hc rfl ⟨?_,?_⟩ ?_
 .show (bu st _ _ _).own=b.own;unfold bu;rw[uh];exact eo
 .rw [show h_ (Bl st o a)=h_ st from EV _ _ _ _,g.rel.qd];unfold lI jg c_;rw[QD];show _=List.map _ (List.filter _ (List.map _ b.ah));rw[AD.mpr (λq hq=>by obtain⟨p,hp,rfl⟩:=aW.mp hq;exact bR (by show 0<p.wo-0;have:=g.fh.w1 p hp;omega)),dJ]
  refine qA λp _=>?_;show(p.nm,p.ow,p.wo,p.we)=(p.nm,p.ow,p.wo-0,p.we)
  rw[xJ]
 .intro p' eZ q' hq' en j;obtain⟨q,hq,rfl⟩:=ack hq';have hp1:p'∈st.ah.map (λp:Pt=>{ p with sc:=p.sc*(aI st-a) / cA st (aI st-a) (aI st) (kO st o a) }):=by have h:p'∈(bu st (aI st-a) (aI st) (kO st o a)).ah:=eZ;unfold bu at h;rw[lu]at h;exact h
  obtain⟨p,hp,rfl⟩:=aW.mp hp1;have tj:=g.pU p hp q hq en j;show(List.zipWith _ q.tops (iu b _ _ a)).getD j 0*_=_*(b.bot*bL b);rw[lJ (f:=λt g=>t*(bL b-a)+g) (by show(0:Int)*_+0=0;omega) (by rw[g.fh.tl q hq,vZ]),<-ew];refine Bj (p':={ p with sc:=p.sc*(aI st-a) / cA st (aI st-a) (aI st) (kO st o a) }) wf bl rfl rfl hp rfl rfl tj ?_;unfold iu kO;rw[ay (by omega),Mq (by rw[lH];exact hi),Mq (by rw[jd,eo];exact hi),E3,E3,Mr,eo];by_cases e:b.own.idxOf o=j
  .rw [ay e,ay e,xH,iR,iR,lC b.bot]
  .rw [av e,av e,jW,jW]
inductive ZQ(T:TC)(e:Ec)(vs:Da V)(H:Hp)(Q:VK)(E:XK):Prop
 |mk(n ρ A st x y a we:_)(_:vs=[.ref A.a,.str x,.str y,.int a,.int we])(_:HH T n ρ A H st)(_:y.cps.toList.length<=100000)(_:st.nms.length<1000)(_:st.ah.length<1000)(_:IM T e n ρ A H (kT st x y a we:_) (qZ st x y a we:_) Q E)
def Mt(T:TC)(e:Ec):Sp:=bx (ZQ T e)
def lK{H:Hp}{a b:Addr}{o:HO}(h:upd H a o b=none):H b=none:=by
 by_cases z:b=a
 .rw [z,aq]at h;cases h
 .rw [az z]at h;exact h
def WY{st:HS}{y:Str}(h:newR st y=none):isNm y=true/\y∉st.nms:=by
 unfold newR at h;split at h
 .split at h
  .cases h
  .exact ⟨by assumption,by assumption⟩
 .cases h
theorem lM{st:HS}{x y:Str}{a we:Int}(h:kT st x y a we=none):x∈fV st/\(isNm y=true/\y∉st.nms)/\1<=a/\0<=we/\a<(cO st x).wo/\we<=(cO st x).we:=by
 unfold kT at h;split at h
 .cases hf:newR st y with
  | some j=>rw[hf]at h;cases h
  | none=>
   rw[hf]at h;have h':(if a<1\/we<0 then some 5 else if(cO st x).wo<=a\/(cO st x).we<we then some 6 else none)=none:=h;split at h'
   .cases h'
   .split at h'
    .cases h'
    .exact ⟨by assumption,WY hf,by omega,by omega,by omega,by omega⟩
 .cases h
theorem Mu{st:HS}{x y:Str}{a we:Int}(wf:Wf st)(h:kT st x y a we=none)(h2:st.nms.length<1000)(h3:st.ah.length<1000):Wf (qZ st x y a we):=by
 obtain⟨hx,⟨_,hy⟩,h4,h5,h6,h7⟩:=lM h;obtain⟨i,p0,ei,e0⟩:=n_ hx;have hp:=bg ei;have eg:=dS wf hp e0;have w1:Wf (oU st x λp=>{ p with wo:=p.wo-a,we:=p.we-we }):=yR wf λp eZ e=>by rw[nU wf eZ hp (e.trans e0.symm)];rw[eg]at h6 h7;exact⟨Z,Z,Z,Z,by show 1<=p0.wo-a;omega,by show 0<=p0.we-we;omega⟩
 unfold qZ;rw[eg];exact Qo w1 hy h2 (by show(st.ah.map _).length<1000;rw[aE];exact h3) (wf.rows p0 hp) (wf.ow p0 hp) (wf.qR p0 hp) (wf.oF p0 hp) (wf.pS p0 hp) ⟨h4,h5⟩
theorem acm{c:Nat}{st:HS}{b:BS}(g:dj c st b)(wf:Wf st){p0:Pt}{q0:BP}(hp0:p0∈st.ah)(nD:q0∈b.ah)(en:p0.nm=q0.nm)(eo:p0.ow=q0.ow){y:Str}{a we:Int}(hy:y∉st.nms)(hn:isNm y=true)(h1:1<=a)(h2:a<=1000000000)(h2w:we<=1000000000)(h3:b.ah.length<50+c)(h4:b.d9.length<900+c)(hc:c<=91):dj c (zS st ⟨y,p0.ow,a,we,p0.sc,p0.row⟩) { b with ah:=b.ah++[⟨y,q0.ow,a,we,q0.tops⟩],d9:=b.d9++[y] }:=by
 have wb:=g.fh;have P:∀{M:BP->Prop},(∀p∈b.ah,M p)->M ⟨y,q0.ow,a,we,q0.tops⟩->∀p∈b.ah++[BP.mk y q0.ow a we q0.tops],M p:=λa c p hp=>by
  rcases c7.mp hp with z|z
  .exact a p z
  .rw [dF.mp z];exact c
 have nB:∀q∈b.ah,q.nm≠y:=λq hq e=>by
  obtain⟨i,hi,ei⟩:=m8 hq;obtain⟨p,hp,k1,_⟩:=g.rel.at (i:=i) (q:=q) (by rw[bf hi,ei])
  exact hy (by rw[<-e,<-k1];exact wf.sub p (bg hp))
 have nS:∀p∈st.ah,p.nm≠y:=λp hp e=>hy (by rw[<-e];exact wf.sub p hp);refine⟨⟨?_,P wb.tl (wb.tl q0 nD),P wb.t0 (wb.t0 q0 nD),wb.b1,wb.bz,P wb.w1 h1,wb.ol,?_,?_⟩,⟨g.rel.own,?_⟩,?_,g.bJ,g.stp,g.prod,g.bot,P g.wo (by show a<=_;omega),P g.we h2w,?_,?_,g.own,P g.nm ⟨Cm hn,(g.nm q0 nD).2⟩,g.bB,?_,?_,g.on,P g.sum (g.sum q0 nD)⟩
 .show ((b.ah++[_]).map (λp:BP=>p.nm)).Nodup;rw[bN];refine nO wb.nd λm=>?_;obtain⟨q,hq,e⟩:=aW.mp m;exact nB q hq e
 .show (b.ah++[_]).length<=1000;rw[cW];show b.ah.length+1<=1000;omega
 .show (b.d9++[_]).length<=1000;rw[cW];show b.d9.length+1<=1000;omega
 .show (st.ah++[_]).map _=(b.ah++[_]).map _;rw[bN,bN,show st.ah.map (λp=>((p.nm,p.ow,p.wo,p.we):Q4))=b.ah.map (λp=>((p.nm,p.ow,p.wo,p.we):Q4))from g.rel.qd];show _++[((y,p0.ow,a,we):Q4)]=_++[((y,q0.ow,a,we):Q4)]
  rw[eo]
 .intro p hp q hq e j;show q.tops.getD j 0*st.prod=(aP st p).getD j 0*b.bot;rcases c7.mp (show p∈st.ah++[_]from hp)with zp|zp
  .rcases c7.mp (show q∈b.ah++[_]from hq)with zq|zq
   .exact g.pU p zp q zq e j
   .rw [dF.mp zq]at e;exact absurd e (nS p zp)
  .rcases c7.mp (show q∈b.ah++[_]from hq)with zq|zq
   .rw [dF.mp zp]at e;exact absurd e.symm (nB q zq)
   .rw [dF.mp zp,dF.mp zq];exact g.pU p0 hp0 q0 nD en j
 .show (b.ah++[_]).length<=50+c;rw[cW];show b.ah.length+1<=50+c;omega
 .show (b.d9++[_]).length<=900+c;rw[cW];show b.d9.length+1<=900+c;omega
 .show st.nms++[y]=b.d9++[y];rw[g.d9]
 .intro z hz;rcases c7.mp (show z∈b.d9++[y]from hz)with k|k
  .exact g.nk z k
  .rw [dF.mp k];exact hn
theorem acn{c:Nat}{st:HS}{b:BS}{x:Str}{a we:Int}(g:dj c st b)(wf:Wf st)(h0:1<=a)(h00:0<=we)(le:∀p∈st.ah,p.nm=x->a<p.wo):dj (c+1) (oU st x λp=>{ p with wo:=p.wo-a,we:=p.we-we }) (rm b x λp=>{ p with wo:=p.wo-a,we:=p.we-we }):=by
 have leB:∀q∈b.ah,q.nm=x->a<q.wo:=λq hq e=>by
  obtain⟨j,hj,ej⟩:=m8 hq;obtain⟨p,hp,k1,_,k3,_⟩:=g.rel.at (i:=j) (q:=q) (by rw[bf hj,ej])
  rw[<-k3];exact le p (bg hp) (k1.trans e)
 refine KJ g ?_ (λp hp=>?_) (λq hq=>?_) (Cu b x _ λ_ _=>rfl)
 .show (st.ah.map _).map _=List.map pX ((b.ah.map _).filter _);rw[Ct (f:=λq:Q4=>if q.1=x then(q.1,q.2.1,q.2.2.1-a,q.2.2.2-we) else q) (λp hp=>by
   show pX (if p.nm=x then _ else _)=if p.nm=x then _ else _;by_cases e:p.nm=x
   .rw [ay e,ay e];rfl
   .rw [av e,av e]),<-v_ g,AD.mpr (λq hq=>by
    obtain⟨q0,nD,rfl⟩:=aW.mp hq;obtain⟨p,hp,rfl⟩:=aW.mp nD;have w1:=(wf.jS p hp).1;refine bR ?_;show 0<(if p.nm=x then _ else _:Q4).2.2.1;by_cases e:p.nm=x
    .have:=le p hp e;rw[ay e];show 0<p.wo-a;omega
    .rw [av e];show 0<p.wo;omega),dJ,dJ]
  refine qA λp hp=>?_;show(λp:Pt=>((p.nm,p.ow,p.wo,p.we):Q4)) (if p.nm=x then _ else _)=if p.nm=x then _ else _;by_cases e:p.nm=x
  .rw [ay e,ay e]
  .rw [av e,av e]
 .obtain ⟨q,hq,rfl⟩:=aW.mp hp;refine⟨q,hq,?_⟩;by_cases e:q.nm=x
  .rw [ay e];exact⟨Z,Z,Z⟩
  .rw [av e];exact⟨Z,Z,Z⟩
 .obtain ⟨h3,h4⟩:=iG.mp hq;obtain⟨q0,nD,rfl⟩:=aW.mp h3;have w1:=g.fh.w1 q0 nD;refine⟨q0,nD,?_⟩;by_cases e:q0.nm=x
  .have:=leB q0 nD e;rw[ay e];exact⟨Z,Z,Z,by show 1<=q0.wo-a;omega,by show q0.wo-a<=_;omega,by show q0.we-we<=_;omega⟩
  .rw [av e];exact⟨Z,Z,Z,w1,by omega,eO _⟩
theorem qx:∀{l:Da BP}{i:Nat}{q:BP},(l.map λp:BP=>p.nm).Nodup->l[i]?=some q->(l.find? λp=>decide (p.nm=q.nm))=some q
 | [],_,_,_,h=>by simp at h
 | p::l,0,q,_,h=>by
  have e:p=q:=by simpa using h
  subst e;rw[qG,bR rfl]
 | p::l,i+1,q,nd,h=>by
  obtain⟨h1,h2⟩:=g_.mp (show(p.nm::l.map λp:BP=>p.nm).Nodup from nd);have h':l[i]?=some q:=by simpa using h
  rw[qG,c9 (λe=>h1 (aW.mpr ⟨q,bg h',e.symm⟩))];exact qx h2 h'
theorem WZ{c:Nat}{st:HS}{b:BS}{x y:Str}{a we:Int}(g:dj c st b)(wf:Wf st)(hc:c<=90)(h:kT st x y a we=none)(h9:a<=1000000000)(Ar:we<=1000000000)(h3:st.ah.length<1000):dj (c+1) (qZ st x y a we) (Bq b x y a we):=by
 obtain⟨hx,⟨hn,hy⟩,h4,h5,h6,h7⟩:=lM h;obtain⟨i,p0,q0,e1,e2,k1,k2,k3,k4,k5,k6⟩:=pY g.rel wf hx;have hp:=bg e1;have hq:=bg e2;rw[k6]at h6 h7;have uq:∀p∈st.ah,p.nm=x->p=p0:=λp eZ e=>nU wf eZ hp (e.trans k1.symm);have g1:=acn (we:=we) g wf h4 h5 λp eZ e=>by rw[uq p eZ e];exact h6
 have w1:Wf (oU st x λp=>{ p with wo:=p.wo-a,we:=p.we-we }):=yR wf λp eZ e=>by rw[uq p eZ e];exact⟨Z,Z,Z,Z,by show 1<=p0.wo-a;omega,by show 0<=p0.we-we;omega⟩
 have hp1:({ p0 with wo:=p0.wo-a,we:=p0.we-we }:Pt)∈(oU st x λp=>{ p with wo:=p.wo-a,we:=p.we-we }).ah:=aW.mpr ⟨p0,hp,ay k1⟩;have hq1:({ q0 with wo:=q0.wo-a,we:=q0.we-we }:BP)∈(rm b x λp=>{ p with wo:=p.wo-a,we:=p.we-we }).ah:=iG.mpr ⟨aW.mpr ⟨q0,hq,ay k2⟩,bR (by show 0<q0.wo-a;omega)⟩;have pl:=g.pl;have kl:=g.kl;have l1:=(Gk (λp:BP=>decide (0<p.wo)) (b.ah.map λp=>if p.nm=x then{ p with wo:=p.wo-a,we:=p.we-we } else p))
 rw[aE]at l1;have g2:=acm g1 w1 (y:=y) (a:=a) (we:=we) hp1 hq1 (k1.trans k2.symm) k3.symm hy hn h4 h9 Ar (Gp l1 (by omega)) (by show b.d9.length<_;omega) (by omega);have eb:pW b x=q0:=by unfold pW;rw[<-k2,qx g.fh.nd e2];rfl
 unfold qZ Bq;rw[k6,eb,Rt,Rj (p:=λp:BP=>decide (0<p.wo)) (bR (by show 0<a;omega)),List.filter_nil];exact g2
def Mv{α β:Type}{f:α->β}{l:Da α}{i:Nat}{x:α}(h:l[i]?=some x):(l.map f).set i (f x)=l.map f:=nq (by rw[bV,h];rfl)
inductive aco(T:TC)(e:Ec)(vs:Da V)(H:Hp)(Q:VK)(E:XK):Prop
 |mk(n ρ A st x o:_)(_:vs=[.ref A.a,.str x,.str o])(_:HH T n ρ A H st)(_:∀p∈st.ah,(aP st p).sum=st.prod)(_:IM T e n ρ A H (pC st x o:_) (iV st x o:_) Q E)
def QE(T:TC)(e:Ec):Sp:=bx (aco T e)
def uu{st:HS}{x o:Str}(h:pC st x o=none):x∈fV st/\o∈st.own:=by
 unfold pC at h;split at h
 .split at h
  .exact ⟨by assumption,by assumption⟩
  .cases h
 .cases h
theorem yS:∀{l:Da Int},(∀t∈l,0<=t)->0<=l.sum/\∀t∈l,t<=l.sum
 | [],_=>⟨eO _,λt h=>by cases h⟩
 | a::l,h=>by
  obtain⟨h1,h2⟩:=yS (l:=l) λt ht=>h t (cQ _ ht);have h0:=h a cM;refine⟨by show 0<=a+l.sum;omega,λt ht=>?_⟩;show t<=a+l.sum;rcases fm.mp ht with rfl|ht
  .omega
  .have:=h2 t ht;omega
def E4{l:Da Int}{i:Nat}{v:Int}(h:∀t∈l,0<=t)(hv:0<=v):∀t∈l.set i v,0<=t:=λt ht=>by
 rcases KO ht with z|z
 .exact h t z
 .rw [z];exact hv
def wc{l:Da Int}(h:∀t∈l,0<=t)(i:Nat):0<=l.getD i 0:=by
 rw[dD];cases e:l[i]? with
 | none=>exact eO _
 | some v=>exact h v (bg e)
def IT(l:Da Int)(i j:Nat):Da Int:=(l.set j (l.getD j 0+l.getD i 0)).set i 0
def x_(l:Da Int)(i j:Nat):Da Int:=(l.set i 0).set j ((l.set i 0).getD j 0+l.getD i 0)
def ZR(l:Da Int)(i j:Nat):(x_ l i j).length=l.length:=by unfold x_;rw[fH,fH]
def GU(l:Da Int)(i j:Nat):(IT l i j).length=l.length:=by unfold IT;rw[fH,fH]
def acp{l:Da Int}{i j:Nat}(hi:i<l.length)(hj:j<l.length)(k:Nat):(IT l i j).getD k 0=if k=i then 0 else if k=j then l.getD j 0+l.getD i 0 else l.getD k 0:=by unfold IT;rw[pP _ _ _ _ (by rw[fH];exact hi),pP _ _ _ _ hj]
def acq{l:Da Int}{i j:Nat}(hi:i<l.length)(hj:j<l.length)(ne:i≠j)(k:Nat):(x_ l i j).getD k 0=if k=i then 0 else if k=j then l.getD j 0+l.getD i 0 else l.getD k 0:=by
 unfold x_;rw[pP _ _ _ _ (by rw[fH];exact hj),pP _ _ _ _ hi,pP _ _ _ _ hi,av (cJ ne)];by_cases e:k=j
 .rw [ay e,ay e,av (by rw[e];exact cJ ne)]
 .rw [av e,av e]
theorem ZS{l:Da Int}{i j:Nat}(hi:i<l.length)(hj:j<l.length):(x_ l i j).sum=l.sum:=by unfold x_;rw[sum_set _ _ _ (by rw[fH];exact hj),sum_set _ _ _ hi];omega
theorem ZT{l:Da Int}{i j:Nat}(hi:i<l.length)(hj:j<l.length)(ne:i≠j):(IT l i j).sum=l.sum:=by unfold IT;rw[sum_set _ _ _ (by rw[fH];exact hi),sum_set _ _ _ hj,pP _ _ _ _ hj,av ne];omega
def ZU{l:Da Int}{i j:Nat}(h:∀t∈l,0<=t):∀t∈x_ l i j,0<=t:=E4 (E4 h (eO _)) (Int.add_nonneg (wc (E4 h (eO _)) _) (wc h _))
def ZV{l:Da Int}{i j:Nat}(h:∀t∈l,0<=t):∀t∈IT l i j,0<=t:=E4 (E4 h (Int.add_nonneg (wc h _) (wc h _))) (eO _)
def W0{l:Da Int}{i:Nat}(hi:i<l.length):x_ l i i=l:=by
 unfold x_;rw[pP _ _ _ _ hi,ay rfl,xH,qH];apply List.ext_getElem?;intro k;rw[Rx];by_cases e:i=k
 .subst e;rw[ay rfl,ay hi,dD,bf hi];rfl
 .rw [av e]
theorem Mw{st:HS}{tops:Da Int}(h:tops.length=st.bX.length):List.zipWith (λr c=>(1:Int)*r+c) (mD st tops) st.bX=tops:=by
 unfold mD;generalize st.bX=cs at h
 induction tops generalizing cs with
 | nil=>rfl
 | cons t ts ih=>
  cases cs with
  | nil=>cases h
  | cons c cs=>have:=ih cs (Nat.succ.inj h);show(1*(t-c)+c)::_=t::ts;rw[this];congr 1;omega
def As{st:HS}(wf:Wf st){p:Pt}(hp:p∈st.ah):(aP st p).length=st.own.length:=by unfold aP;rw[kF,wf.rows p hp,wf.gf,zy]
def z9(st:HS)(o:Str)(p:Pt):Pt:={ p with ow:=o,sc:=1,row:=mD st (nY st p o) }
def wg(st:HS)(p:Pt)(o:Str):nY st p o=IT (aP st p) (st.own.idxOf p.ow) (st.own.idxOf o):=rfl
def Bt{st:HS}(wf:Wf st){p:Pt}(hp:p∈st.ah)(o:Str):aP st (z9 st o p)=nY st p o:=by
 have:(nY st p o).length=st.bX.length:=by rw[wg,GU,As wf hp,wf.gf]
 exact Mw this
def Mx{st:HS}(wf:Wf st){p:Pt}(hp:p∈st.ah){o:Str}(ho:o∈st.own)(ne:st.own.idxOf o≠st.own.idxOf p.ow)(hs:(aP st p).sum=st.prod):(∀t∈nY st p o,0<=t/\t<=st.prod)/\(nY st p o).sum=st.prod:=by
 have hl:=As wf hp;have h1:st.own.idxOf p.ow<(aP st p).length:=by rw[hl];exact mV (wf.ow p hp)
 have h2:st.own.idxOf o<(aP st p).length:=by rw[hl];exact mV ho
 have hp0:=ZV (i:=st.own.idxOf p.ow) (j:=st.own.idxOf o) λt ht=>(wf.pS p hp t ht).1;have hsum:=(ZT h1 h2 (cJ ne)).trans hs;rw[wg];exact⟨λt ht=>⟨hp0 t ht,by rw[<-hsum];exact(yS hp0).2 t ht⟩,hsum⟩
theorem QF{st:HS}{x o:Str}(wf:Wf st)(h:pC st x o=none)(hs:∀p∈st.ah,(aP st p).sum=st.prod):Wf (iV st x o):=by
 obtain⟨hx,ho⟩:=uu h;obtain⟨i,p0,ei,e0⟩:=n_ hx;have hp:=bg ei;have eg:=dS wf hp e0;unfold iV;by_cases ne:st.own.idxOf o=st.own.idxOf (cO st x).ow
 .rw [ay ne];exact wf
 rw[av ne];rw[eg]at ne;obtain⟨ft,_⟩:=Mx wf hp ho ne (hs p0 hp);have uq:∀p∈st.ah,p.nm=x->p=p0:=λp eZ e=>nU wf eZ hp (e.trans e0.symm);have P:∀{M:Pt->Prop},M (z9 st o p0)->(∀p∈st.ah,M p)->∀p∈(oU st x (z9 st o)).ah,M p:=λa c p eZ=>by
  obtain⟨q,hq,rfl⟩:=aW.mp (show p∈st.ah.map _ from eZ);by_cases e:q.nm=x
  .rw [ay e,uq q hq e];exact a
  .rw [av e];exact c q hq
 have hl:(nY st p0 o).length=st.own.length:=by rw[wg,GU,As wf hp]
 have en:(oU st x (z9 st o)).ah.map (λp:Pt=>p.nm)=st.ah.map λp:Pt=>p.nm:=by
  show(st.ah.map _).map _=_;rw[dJ];refine qA λp _=>?_;show(if p.nm=x then z9 st o p else p).nm=p.nm;by_cases e:p.nm=x
  .rw [ay e];rfl
  .rw [av e]
 have p1:=wf.fZ;refine⟨wf.uO,wf.zQ,?_,P (wf.sub p0 hp) wf.sub,P ?_ wf.rows,P ho wf.ow,wf.gf,wf.mC,wf.fZ,wf.nR,wf.sO,wf.lF,wf.zR,?_,wf.AY,wf.vU,wf.Iq,wf.big,wf.pR,P ⟨eO _,p1⟩ wf.qR,P ?_ wf.oF,P ?_ wf.pS,P (wf.jS p0 hp) wf.jS,wf.GG⟩
 .show ((oU st x (z9 st o)).ah.map (λp:Pt=>p.nm)).Nodup;rw[en];exact wf.fP
 .show (mD st (nY st p0 o)).length=st.own.length;unfold mD;rw[kF,hl,wf.gf,zy]
 .show (st.ah.map _).length<=1000;rw[aE];exact wf.qQ
 .intro r hr;obtain⟨t,ht,c,hc,rfl⟩:=vX (show r∈List.zipWith (λt c=>t-c) (nY st p0 o) st.bX from hr);have a1:=ft t ht;have a2:=wf.pR c hc;exact⟨by show -st.prod<=t-c;omega,by show t-c<=st.prod;omega⟩
 .intro t ht;have:t∈nY st p0 o:=by rw[<-Bt wf hp];exact ht
  exact ft t this
theorem GV:∀{l m:Da Int}{a b:Int},l.length=m.length->(∀j,l.getD j 0*a=m.getD j 0*b)->l.sum*a=m.sum*b
 | [],[],_,_,_,_=>by show(0:Int)*_=0*_;rw[jW,jW]
 | x::l,y::m,a,b,e,h=>by have h0:x*a=y*b:=h 0;have:=GV (l:=l) (m:=m) (Nat.succ.inj e) λj=>h (j+1);show(x+l.sum)*a=(y+m.sum)*b;rw[nM,nM,h0,this]
theorem acr{c:Nat}{st:HS}{b:BS}(g:dj c st b)(wf:Wf st):∀p∈st.ah,(aP st p).sum=st.prod:=λp hp=>by obtain⟨i,hi,e⟩:=m8 hp;obtain⟨q,eq,e1,_⟩:=g.rel.at' (i:=i) (p:=p) (by rw[bf hi,e]);have hq:=bg eq;have h:=GV (l:=q.tops) (m:=aP st p) (by rw[g.fh.tl q hq,As wf hp,g.rel.own]) (g.pU p hp q hq e1);rw[g.sum q hq,lC]at h;exact(Int.eq_of_mul_eq_mul_right (by have:=g.fh.b1;omega) h).symm
theorem ZW{c:Nat}{st:HS}{b:BS}{x o:Str}(g:dj c st b)(wf:Wf st)(h:pC st x o=none)(hs:∀p∈st.ah,(aP st p).sum=st.prod):dj (c+1) (iV st x o) (rm b x (nZ b o)):=by
 obtain⟨hx,ho⟩:=uu h;obtain⟨i,p0,q0,e1,e2,k1,k2,k3,k4,k5,k6⟩:=pY g.rel wf hx;have hp:=bg e1;have hq:=bg e2;have eo:=g.rel.own;have wb:=g.fh;have uq:∀q∈b.ah,q.nm=x->q=q0:=λq hq' e=>by
  obtain⟨j,hj,ej⟩:=m8 hq';have hj':b.ah[j]?=some q:=by rw[bf hj,ej]
  have:=qx wb.nd hj';rw[e,<-k2,qx wb.nd e2]at this;exact(gP this).symm
 have up:∀p∈st.ah,p.nm=x->p=p0:=λp eZ e=>nU wf eZ hp (e.trans k1.symm);have hl:=wb.tl q0 hq;have hiB:b.own.idxOf q0.ow<q0.tops.length:=by rw[hl,k3,<-eo];exact mV (wf.ow p0 hp)
 have hjB:b.own.idxOf o<q0.tops.length:=by rw[hl,<-eo];exact mV ho
 have PB:∀{M:BP->Prop},M (nZ b o q0)->(∀q∈b.ah,M q)->∀q∈(rm b x (nZ b o)).ah,M q:=λa c q hq'=>by
  obtain⟨h3,_⟩:=iG.mp (show q∈List.filter _ _ from hq');obtain⟨q1,hq1,rfl⟩:=aW.mp h3;by_cases e:q1.nm=x
  .rw [ay e,uq q1 hq1 e];exact a
  .rw [av e];exact c q1 hq1
 unfold iV;rw[k6];by_cases ne:st.own.idxOf o=st.own.idxOf p0.ow
 .rw [ay ne];have oo:o=p0.ow:=by have a1:=xX ho;rw[ne,xX (wf.ow p0 hp)]at a1;exact(gP a1).symm
  have hb:nZ b o q0=q0:=by
   have:x_ q0.tops (b.own.idxOf q0.ow) (b.own.idxOf o)=q0.tops:=by rw[oo,<-k3];exact W0 hiB
   show BP.mk q0.nm o q0.wo q0.we (x_ q0.tops (b.own.idxOf q0.ow) (b.own.idxOf o))=q0;rw[this,oo,<-k3]
  have:rm b x (nZ b o)=b:=by
   have e3:(b.ah.map λp=>if p.nm=x then nZ b o p else p)=b.ah:=by
    refine(qA λq hq'=>?_).trans (List.map_id' _);by_cases e:q.nm=x
    .rw [ay e,uq q hq' e];exact hb
    .rw [av e]
   unfold rm;rw[e3,AD.mpr λq hq'=>bR (by have:=wb.w1 q hq';omega)]
  rw[this];exact g.mono
 rw[av ne];have nb:b.own.idxOf q0.ow≠b.own.idxOf o:=by rw[<-eo,k3];exact cJ ne
 have t0:=ZU (i:=b.own.idxOf q0.ow) (j:=b.own.idxOf o) λt ht=>(wb.t0 q0 hq t ht).1;have sm:(x_ q0.tops (b.own.idxOf q0.ow) (b.own.idxOf o)).sum=b.bot:=(ZS hiB hjB).trans (g.sum q0 hq);have sb:=Cu b x (nZ b o) λ_ _=>rfl;have hlB:(rm b x (nZ b o)).ah.length<=b.ah.length:=by have:=sb.length_le;rwa [aE,aE]at this
 refine⟨⟨wb.nd.sublist sb,PB ?_ wb.tl,PB ?_ wb.t0,wb.b1,wb.bz,PB (wb.w1 q0 hq) wb.w1,wb.ol,fY hlB wb.pl,wb.kl⟩,⟨eo,?_⟩,?_,λu hu=>(g.bJ u hu).mono (by omega),fY g.stp (by omega),g.prod.mono (by omega),g.bot.mono (by omega),PB ?_ ?_,PB (g.we q0 hq) g.we,?_,?_,g.own,PB ⟨(g.nm q0 hq).1,Cm (g.on o (by rw[<-eo];exact ho))⟩ g.nm,g.bB,g.d9,g.nk,g.on,PB sm g.sum⟩
 .show (x_ _ _ _).length=_;rw[ZR];exact hl
 .intro t ht;exact⟨t0 t ht,by rw[show(rm b x (nZ b o)).bot=b.bot from rfl,<-sm];exact(yS t0).2 t ht⟩
 .show (st.ah.map _).map _=List.map pX ((b.ah.map _).filter _);rw[Ct (f:=λq:Q4=>if q.1=x then(q.1,o,q.2.2.1,q.2.2.2) else q) (λp hp=>by
   show pX (if p.nm=x then _ else _)=if p.nm=x then _ else _;by_cases e:p.nm=x
   .rw [ay e,ay e];rfl
   .rw [av e,av e]),<-v_ g,AD.mpr (λq hq=>by
    obtain⟨q0,nD,rfl⟩:=aW.mp hq;obtain⟨p,hp,rfl⟩:=aW.mp nD;have w1:=(wf.jS p hp).1;refine bR ?_;show 0<(if p.nm=x then _ else _:Q4).2.2.1;by_cases e:p.nm=x
    .rw [ay e];show 0<p.wo;omega
    .rw [av e];show 0<p.wo;omega),dJ,dJ]
  refine qA λp hp=>?_;show(λp:Pt=>((p.nm,p.ow,p.wo,p.we):Q4)) (if p.nm=x then _ else _)=if p.nm=x then _ else _;by_cases e:p.nm=x
  .rw [ay e,ay e]
  .rw [av e,av e]
 .intro p eZ q hq' e j;obtain⟨p1,hp1,rfl⟩:=aW.mp (show p∈st.ah.map _ from eZ);obtain⟨h3,_⟩:=iG.mp (show q∈List.filter _ _ from hq');obtain⟨q1,hq1,rfl⟩:=aW.mp h3;by_cases ep:p1.nm=x
  .have eq:q1.nm=x:=by
    rw[ay ep]at e;by_cases z:q1.nm=x
    .exact z
    .rw [av z]at e;exact e.symm.trans ep
   rw[ay ep,ay eq,uq q1 hq1 eq,up p1 hp1 ep];have et:=Bt wf hp o;show(x_ q0.tops (b.own.idxOf q0.ow) (b.own.idxOf o)).getD j 0*st.prod=(aP st (z9 st o p0)).getD j 0*b.bot;have hl2:=As wf hp;rw[et,wg,acq hiB hjB nb,acp (by rw[hl2];exact mV (wf.ow p0 hp)) (by rw[hl2];exact mV ho),<-eo,k3];have r:=g.pU p0 hp q0 hq (k1.trans k2.symm);by_cases z1:j=st.own.idxOf p0.ow
   .rw [ay z1,ay z1,jW,jW]
   rw[av z1,av z1];by_cases z2:j=st.own.idxOf o
   .rw [ay z2,ay z2,nM,nM,r,r]
   rw[av z2,av z2];exact r j
  .have eq:q1.nm≠x:=λz=>by rw[av ep,ay z]at e;exact ep (e.trans z)
   rw[av ep,av eq]at e;rw[av ep,av eq];exact g.pU p1 hp1 q1 hq1 e j
 .have:=g.wo q0 hq;show q0.wo<=_;omega
 .intro q hq';have:=g.wo q hq';omega
 .have:=g.pl;omega
 .have:=g.kl;show b.d9.length<=_;omega
theorem My{q0 q1:Addr×Addr×Addr}:∀{ps:Da Pt}{qs:Da (Addr×Addr×Addr)}{i:Nat},qs[i]?=some q0->q1.1=q0.1->cY ps (qs.set i q1)=cY ps qs
 | [],_,_,_,_=>by simp[cY]
 | _::_,[],_,h,_=>by simp at h
 | p::ps,q::qs,0,h,e=>by
  have:q=q0:=by simpa using h
  subst this;show(_,V.ref q1.1)::_=(_,V.ref q.1)::_;rw[e]
 | p::ps,q::qs,i+1,h,e=>by have:=My (ps:=ps) (qs:=qs) (i:=i) (q1:=q1) (by simpa using h) e;show _::cY ps (qs.set i q1)=_::cY ps qs;rw[this]
def aX.W4{T:TC}{n:Nat}{ρ:eF}{A:HA}{H:Hp}{st:HS}(h:aX T n ρ A H st)(g:Gh ρ H){i:Nat}{p0 p1:Pt}{q0:Addr×Addr×Addr}{r:Addr}(ep:st.ah[i]?=some p0)(eq:A.qs[i]?=some q0)(e1:p1.nm=p0.nm)(cr:ρ r=some (n,21,p0.nm))(hr:H r=some (.lst (p1.row.map V.int)))(nd:(st.ah.map (·.nm)).Nodup):aX T n ρ { A with qs:=A.qs.set i (q0.1,q0.2.1,r) } (upd H q0.1 (.ins T.part q0.2.1 (dI p1 r))) { st with ah:=st.ah.set i p1 }:=by
 have c0:=(h.opt i p0 q0 ep eq).2.2.1;have k:=d_ (o:=.ins T.part q0.2.1 (dI p1 r)) g c0;have k2':=λ{b:Addr}{u:Nat}{y:Str}{w:HO}=>AV (H:=H) (o:=.ins T.part q0.2.1 (dI p1 r)) c0 (b:=b) (u:=u) (y:=y) (w:=w);obtain⟨vs,h1,h2⟩:=h.sj;obtain⟨AT,k1,k2,k3⟩:=h.okn;refine⟨kz k h.ca h.oa,h.ca,kz k h.jl h.jk,h.jl,?_,h.ia,⟨vs,kz k h.jC h1,h2.keep k (by decide)⟩,h.jC,kz k h.jD h.uf,h.jD,kz k h.jF h.jE,h.jF,kz k h.j6 h.jR,h.j6,kz k h.cpu h.lS,h.cpu,kz k h.jG h.oQ,h.jG,⟨AT,kz k h.jH k1,λp hp=>let⟨t,r,e,q⟩:=k2 p hp;⟨t,r,e,k.1 _ _ q⟩,k3⟩,h.jH,?_,?_⟩
 .show _=some (HO.dK (cY (st.ah.set i p1) (A.qs.set i (q0.1,q0.2.1,r))));rw[My (q1:=(q0.1,q0.2.1,r)) eq rfl,Cf ep e1];exact kz k h.ia h.fE
 .show (A.qs.set i _).length=(st.ah.set i _).length;rw[fH,fH];exact h.ql
 .intro j p q hp hq;have hi:=(dM.mp ep).1;have hi':=(dM.mp eq).1;by_cases e:i=j
  .subst e;rw[show({ st with ah:=st.ah.set i p1 }:HS).ah=st.ah.set i p1 from rfl,kC hi]at hp;rw[show({ A with qs:=A.qs.set i (q0.1,q0.2.1,r) }:HA).qs=A.qs.set i (q0.1,q0.2.1,r)from rfl,kC hi']at hq;cases hp;cases hq;exact⟨aq,k2' cr (.inl (by decide)) hr,by rw[e1];exact c0,by rw[e1];exact cr⟩
  .rw [show({ st with ah:=st.ah.set i p1 }:HS).ah=st.ah.set i p1 from rfl,yh e]at hp;rw[show({ A with qs:=A.qs.set i (q0.1,q0.2.1,r) }:HA).qs=A.qs.set i (q0.1,q0.2.1,r)from rfl,yh e]at hq;obtain⟨a1,a2,a3,a4⟩:=h.opt j p q hp hq;exact⟨k2' a3 (.inr λz=>e (EL nd ep hp z.symm)) a1,k2' a4 (.inl (by decide)) a2,a3,a4⟩
theorem Mz{X:Cx}:aaJ X (RJ X.K):=by
 intro AC s σ H x y v u Q I rx ry h;obtain⟨p,xs,i,z,rfl,rfl,hq,he,q⟩:=h;cases rx;obtain⟨t,rfl⟩:=ry;obtain⟨BT,r,pl,hz⟩:=I.list hq;obtain⟨j,h1,h2,h3,h4,h5⟩:=B_ he;obtain⟨w,ew,rw'⟩:=r.get h2;have hl:=r.length;have hn:=vI;have fin:EP X AC σ Q w s:=⟨z,H,I,rw',q⟩
 by_cases h0:0<=i
 .have hj:i.toNat=j:=by rw[seqIndex_of h0 h5]at h1;exact gP h1
  exact wpAny_getItem_list pl.isList h0 (by omega) (by rw[hj];simpa using ew) fin
 .have hj:(i+(BT.toArray.size:Int)).toNat=j:=by rw[seqIndex_neg (by omega) h4]at h1;rw[je,<-hl];exact gP h1
  exact wpAny_getItem_list_neg pl.isList (by omega) (by rw[je] <;> omega) (by omega) (by rw[hj];simpa using ew) fin
def aU.MA{n:Nat}{ρ:eF}{B:BA}{H:Hp}{b:BS}(h:aU n ρ B H b)(g:Gh ρ H){i:Nat}{p0:BP}{q0:Addr×Addr}(l:Da Int)(ep:b.ah[i]?=some p0)(eq:B.qs[i]?=some q0)(nd:(b.ah.map (λp:BP=>p.nm)).Nodup):aU n ρ B (upd H q0.2 (.lst (l.map V.int))) { b with ah:=b.ah.set i { p0 with tops:=l } }:=by
 obtain⟨x1,x2,x3,x4⟩:=h.pt i p0 q0 ep eq;have k:=d_ (o:=.lst (l.map V.int)) g x4;obtain⟨vs,h1,h2⟩:=h.oa;have hi2:i<b.ah.length:=(dM.mp ep).1;refine⟨kz k h.cm h.om,h.cm,kz k h.co h.oo,h.co,kz k h.cp h.op,h.cp,⟨vs,kz k h.ca h1,h2.keep k (by decide) (by decide)⟩,h.ca,kz k h.ck h.ok,h.ck,?_,λj p q qV CU=>?_⟩
 .show B.qs.length=(b.ah.set i _).length;rw[fH];exact h.ql
 .have qV:(b.ah.set i { p0 with tops:=l })[j]?=some p:=qV;by_cases hj:i=j
  .subst hj;rw[kC hi2]at qV;rw[eq]at CU;cases qV;cases CU;exact⟨kz k x3 x1,aq,x3,x4⟩
  .rw [yh hj]at qV;obtain⟨a1,a2,a3,a4⟩:=h.pt j p q qV CU;have hnm:p.nm≠p0.nm:=λe=>by
    have hj2:j<b.ah.length:=(dM.mp qV).1;have r1:(b.ah.map (λp:BP=>p.nm))[j]?=some p.nm:=by rw[bV,qV];rfl
    have r2:(b.ah.map (λp:BP=>p.nm))[i]?=some p0.nm:=by rw[bV,ep];rfl
    have hj3:j<(b.ah.map (λp:BP=>p.nm)).length:=by rw[aE];exact hj2
    exact hj ((Gv hj3 nd).mp (r1.trans (by rw[e];exact r2.symm))).symm
   have hq:q.2≠q0.2:=λe=>by rw[e,x4]at a4;exact hnm (ig (λc:qP=>c.2.2) (gP a4)).symm
   exact⟨kz k a3 a1,by rw[az hq];exact a2,a3,a4⟩
inductive UL(T:TC)(vs:Da V)(H:Hp)(Q:VK)(E:XK):Prop
 |mk(n ρ A st:_)(i:Nat)(p:Pt)(_:vs=[.ref A.a,.str p.nm])(_:HH T n ρ A H st)(_:st.ah[i]?=some p)(_:st.kn+100<=1000000)(_:∀r ws H',HH T n ρ A H' { st with kn:=st.kn+100 }->Fr n ρ H ρ H'->H r=none->H' r=some (.lst ws)->ρ r=none->pQ H' ws (nc st p:_)->Q (.ref r) H')
def E5(T:TC):Sp:=bx (UL T)
theorem Mn.imp{P:Program}{w:World}{K:Fg}{mg:SO}{base:Heap}{k:Nat}{C:Addr}{m:Str}{ps:Da Str}{sp sp0:Sp}(D:Mn P w K mg base k C m ps sp)(h:∀vs H Q E,sp0 vs H Q E->sp vs H Q E):Mn P w K mg base k C m ps sp0:=by obtain⟨f,fd,F,r⟩:=D.ex;exact⟨f,fd,F.imp h,r⟩
structure W5(st:HS):Prop where
 kn:st.kn+100<=1000000
 bB:st.bB.length<1000
 wo:∀p∈st.ah,Jm.Sz 60 p.wo
 prod:Jm.Sz 7900 st.prod
 bJ:∀u∈st.bJ,Jm.Sz 8900 u
inductive acv(T:TC)(e:Ec)(vs:Da V)(H:Hp)(Q:VK)(E:XK):Prop
 |mk(n ρ A st x:_)(_:vs=[.ref A.a,.str x])(_:HH T n ρ A H st)(_:W5 st)(_:IM T e n ρ A H (qX st x:_) (qY st x:_) Q E)
def QG(T:TC)(e:Ec):Sp:=bx (acv T e)
def qy{st:HS}{x:Str}(h:qX st x=none):x∈fV st:=by
 unfold qX at h;split at h
 .assumption
 .cases h
def Fr.aeR{n:Nat}{ρ:eF}{H H':Hp}(f:Fr n ρ H ρ H')(g:Gh ρ H'){b:Addr}(h:H' b=none):H b=none:=by
 cases e:H b with
 | none=>rfl
 | some o=>have:=(f b o e λt x z=>by rw[g.none h]at z;cases z).1;rw[h]at this;cases this
theorem Bu:∀{l:Da Pt}{i:Nat}{p:Pt},(l.map (·.nm)).Nodup->l[i]?=some p->l.filter (λq=>decide (q.nm≠p.nm))=l.eraseIdx i
 | [],_,_,_,h=>by simp at h
 | x::l,0,p,nd,h=>by
  obtain⟨h1,h2⟩:=g_.mp (show(x.nm::l.map (·.nm)).Nodup from nd);have e:x=p:=by simpa using h
  subst e;rw[fX,av (by simp)];exact AD.mpr λy hy=>bR λz=>h1 (aW.mpr ⟨y,hy,z⟩)
 | x::l,i+1,p,nd,h=>by
  obtain⟨h1,h2⟩:=g_.mp (show(x.nm::l.map (·.nm)).Nodup from nd);have h':l[i]?=some p:=by simpa using h
  rw[fX,ay (by simpa using λz:x.nm=p.nm=>h1 (aW.mpr ⟨p,bg h',z.symm⟩)),Bu h2 h'];rfl
def mF(st:HS)(p:Pt):Da Int:=(gF st p).set (st.own.idxOf p.ow) ((gF st p).getD (st.own.idxOf p.ow) 0-p.wo*st.prod)
theorem W6{st:HS}(wf:Wf st){p:Pt}(hp:p∈st.ah){m:Nat}(h1:Jm.Sz 60 p.wo)(h2:Jm.Sz m st.prod)(h3:∀u∈st.bJ,Jm.Sz (m+60) u):∀u∈gF st p,Jm.Sz (m+61) u:=λu hu=>by obtain⟨i,a,t,ea,et,rfl⟩:=jm (show u∈List.zipWith (λu t=>u+p.wo*t) st.bJ (aP st p)from hu);have ht:=wf.pS p hp t (bg et);have zt:Jm.Sz m t:=h2.of_le (by omega);exact(h3 a (bg ea)).kO ((h1.mul zt).mono (by omega))
theorem GX{st:HS}(wf:Wf st){p:Pt}(hp:p∈st.ah){m:Nat}(h1:Jm.Sz 60 p.wo)(h2:Jm.Sz m st.prod)(h3:∀u∈st.bJ,Jm.Sz (m+60) u):∀u∈mF st p,Jm.Sz (m+62) u:=λu hu=>by
 have g:=W6 wf hp h1 h2 h3;rcases KO (show u∈(gF st p).set _ _ from hu)with z|z
 .exact (g u z).mono (by omega)
 .rw [z];have z0:Jm.Sz (m+61) ((gF st p).getD (st.own.idxOf p.ow) 0):=by
   rw[dD];cases e:(gF st p)[st.own.idxOf p.ow]? with
   | none=>exact(by show Jm.Sz (m+61) 0;unfold Jm.Sz;exact Nat.pow_pos (by decide))
   | some y=>exact g y (bg e)
  have:=z0.kO (((h1.mul h2).mono (by omega:60+m<=m+61)).neg);rw[Int.sub_eq_add_neg];exact this
def Bv{st:HS}(wf:Wf st){p:Pt}(hp:p∈st.ah):(gF st p).length=st.own.length:=by unfold gF;rw[kF,As wf hp,wf.mC,zy]
def sY{st:HS}(wf:Wf st){p:Pt}(hp:p∈st.ah):qY st p.nm={ st with ah:=st.ah.filter (λq=>decide (q.nm≠p.nm)),bB:=st.bB++[⟨p.nm,p.ow,p.wo,nc st p⟩],kn:=st.kn+100,bJ:=mF st p }:=by unfold qY mF;rw[dS wf hp rfl]
theorem QH{st:HS}{x:Str}(wf:Wf st)(h:qX st x=none)(l:W5 st):Wf (qY st x):=by
 obtain⟨i,p,e1,rfl⟩:=n_ (qy h);have hp:=bg e1;rw[sY wf hp];have S:∀{M:Pt->Prop},(∀x∈st.ah,M x)->∀x∈st.ah.filter (λq=>decide (q.nm≠p.nm)),M x:=λh x hx=>h x (iG.mp hx).1;have hf:=Gk (λq:Pt=>decide (q.nm≠p.nm)) st.ah;refine⟨wf.uO,wf.zQ,List.Nodup.sublist (List.Sublist.map _ KW) wf.fP,S wf.sub,S wf.rows,S wf.ow,wf.gf,?_,wf.fZ,wf.nR,wf.sO,wf.lF,wf.zR,?_,wf.AY,?_,l.kn,wf.big,wf.pR,S wf.qR,S wf.oF,S wf.pS,S wf.jS,?_⟩
 .show (mF st p).length=_;unfold mF;rw[fH,Bv wf hp]
 .have:=wf.qQ;show(List.filter _ _).length<=1000;omega
 .show (st.bB++[_]).length<=1000;rw[cW];exact l.bB
 .exact λu hu=>(GX wf hp (m:=8840) (l.wo p hp) (l.prod.mono (by decide)) (λu hu=>(l.bJ u hu).mono (by decide)) u hu).mono (by decide)
inductive UM(c:Nat)(own:Da Str)(sh:Da (Str×Rat)):Prop
 |mk(W7:Da Str)(tops:Da Int)(b:Int)(_:W7 <+:own)(_:W7.length=tops.length)(_:sh=nh W7 tops b)(_:∀t∈tops,0<=t)(_:tops.sum=b)(_:1<=b)(_:Jm.Sz (64*c+1) b)
theorem UM.mono{c c':Nat}{own own':Da Str}{sh:Da (Str×Rat)}(h:UM c own sh)(hc:c<=c')(ho:own <+:own'):UM c' own' sh:=by obtain⟨o0,ts,b,h1,h2,h3,h4,h5,h6,h7⟩:=h;exact⟨o0,ts,b,h1.trans ho,h2,h3,h4,h5,h6,h7.mono (by omega)⟩
structure Go(c:Nat)(st:HS):Prop where
 bJ:∀u∈st.bJ,Jm.Sz (64*c+61) u
 stp:st.stp.length<=c
 prod:Jm.Sz (64*c+1) st.prod
 wo:∀p∈st.ah,p.wo<=1000000000000*((c:Int)+1)
 we:∀p∈st.ah,p.we<=1000000000
 pl:st.ah.length<=c
 kl:st.nms.length<=c
 ol:0<st.own.length
 nk:∀x∈st.nms,isNm x=true
 on:∀o∈st.own,isNm o=true
 sum:∀p∈st.ah,(aP st p).sum=st.prod
 al:st.bB.length<=c
 bB:∀a∈st.bB,UM c st.own a.sh
theorem Go.mono{c:Nat}{st:HS}(g:Go c st):Go (c+1) st:=⟨λu hu=>(g.bJ u hu).mono (by omega),by have:=g.stp;omega,g.prod.mono (by omega),λp hp=>by have:=g.wo p hp;omega,g.we,by have:=g.pl;omega,by have:=g.kl;omega,g.ol,g.nk,g.on,g.sum,by have:=g.al;omega,λa ha=>(g.bB a ha).mono (by omega) (List.prefix_refl _)⟩
theorem QI:∀{ps:Da Pt}{m:Int},(∀p∈ps,1<=p.wo/\p.wo<=m)->0<=(ps.map (·.wo)).sum/\(ps.map (·.wo)).sum<=m*(ps.length:Int)
 | [],m,_=>by show 0<=(0:Int)/\(0:Int)<=m*0;omega
 | p::ps,m,h=>by have h0:=h p cM;have ih:=QI (ps:=ps) (m:=m) λx hx=>h x (cQ _ hx);rw[bK,b9,jf,show(((ps.length+1:Nat)):Int)=(ps.length:Int)+1 from by omega,lD,o_];omega
theorem Go.whole{c:Nat}{st:HS}(g:Go c st)(wf:Wf st)(hc:c<=91):0<=aI st/\Jm.Sz 60 (aI st):=by
 have h:=QI (ps:=st.ah) (m:=92000000000000) λp hp=>⟨(wf.jS p hp).1,by have:=g.wo p hp;omega⟩
 have hl:=g.pl;have h2:(92000000000000:Int)*(st.ah.length:Int)<=92000000000000*91:=by omega
 have h3:aI st<=92000000000000*91:=BZ h.2 h2;have h1:0<=aI st:=h.1;exact⟨h1,(show Jm.Sz 60 (92000000000000*91:Int)from gX (by decide +kernel)).of_le (by omega)⟩
theorem Go.aw{c:Nat}{st:HS}(g:Go c st)(wf:Wf st)(hc:c<=91):GS st:=⟨(g.whole wf hc).2,g.prod.mono (by omega),λu hu=>(g.bJ u hu).mono (by omega),by have:=g.stp;omega⟩
theorem Go.sz{c:Nat}{st:HS}(g:Go c st)(wf:Wf st)(hc:c<=91):∀p∈st.ah,Jm.Sz 60 p.wo:=λp hp=>by have h:=g.wo p hp;have h1:=(wf.jS p hp).1;exact(show Jm.Sz 60 (92000000000000:Int)from gX (by decide +kernel)).of_le (by omega)
theorem Go.ld{c:Nat}{st:HS}(g:Go c st)(wf:Wf st)(hc:c<=91)(hk:st.kn+100<=1000000):W5 st:=⟨hk,by have:=g.al;omega,g.sz wf hc,g.prod.mono (by omega),λu hu=>(g.bJ u hu).mono (by omega)⟩
theorem E6{c:Nat}{st:HS}(g:Go c st){ps:Da Pt}{ns:Da Str}(h:∀p∈ps,(aP st p).sum=st.prod/\p.wo<=1000000000000*((c:Int)+2)/\p.we<=1000000000)(hl:ps.length<=c+1)(hn:ns.length<=c+1)(hk:∀x∈ns,isNm x=true):Go (c+1) { st with ah:=ps,nms:=ns }:=⟨g.mono.bJ,g.mono.stp,g.mono.prod,λp hp=>by have:=(h p hp).2.1;omega,λp hp=>(h p hp).2.2,hl,hn,g.ol,hk,g.on,λp hp=>(h p hp).1,g.mono.al,g.mono.bB⟩
theorem Go.same{c:Nat}{st:HS}(g:Go c st){ps:Da Pt}(h:∀p'∈ps,∃p∈st.ah,p'.row=p.row/\p'.sc=p.sc/\p'.wo<=p.wo+1000000000000/\p'.we<=p.we)(hl:ps.length<=c+1):Go (c+1) { st with ah:=ps }:=E6 g (ns:=st.nms) (λp' eZ=>by obtain⟨p,hp,e1,e2,e3,e4⟩:=h p' eZ;have w:=g.wo p hp;have v:=g.we p hp;exact⟨by have:=g.sum p hp;unfold aP at this ⊢;rw[e1,e2];exact this,by omega,by omega⟩) hl g.mono.kl g.nk
theorem MB{c:Nat}{st st':HS}{kept lost:Int}{added:Da Int}(g:Go c st)(wf:Wf st)(bl:nT st kept (aI st) lost added)(hs:added.sum=lost*st.prod)(hc:c<=90)(eC:st'={ bu st kept (aI st) added with ah:=st'.ah })(hp:∀p'∈st'.ah,∃p∈st.ah,p'.row=p.row/\p'.sc=p.sc*kept / cA st kept (aI st) added/\p'.wo<=p.wo/\p'.we=p.we)(hl:st'.ah.length<=st.ah.length):Go (c+1) st':=by
 have zw:=g.whole wf (by omega)
 obtain⟨hd,hsw,_,_⟩:=bl.dvds
 have w1:0<aI st:=by have:=bl.k;have:=bl.l;have:=bl.w;omega
 have s1:1<=aI st / cA st kept (aI st) added:=by have:=D9 w1 hsw;exact Ro hd (by omega)
 have s2:aI st / cA st kept (aI st) added<=aI st:=Ko _ (by omega)
 have zs:Jm.Sz 60 (aI st / cA st kept (aI st) added):=zw.2.of_le (by omega)
 have ep:st'.prod=(bu st kept (aI st) added).prod:=by rw[eC]
 have ec:st'.bX=(bu st kept (aI st) added).bX:=by rw[eC]
 have epr:st'.prod=st.prod*(aI st / cA st kept (aI st) added):=by rw[ep];unfold bu;rw[vm s1]
 have en:st'.nms=st.nms:=by rw[eC];show(bu st kept (aI st) added).nms=_;unfold bu;rw[xV]
 have eo:st'.own=st.own:=by rw[eC];show(bu st kept (aI st) added).own=_;unfold bu;rw[uh]
 have ea:st'.bB=st.bB:=by rw[eC];show(bu st kept (aI st) added).bB=_;unfold bu;rw[xW]
 have p1:=wf.fZ
 have gm:=g.mono
 refine⟨λu hu=>?_,?_,?_,λp' eZ=>?_,λp' eZ=>?_,by have:=g.pl;omega,by rw[en];exact gm.kl,by rw[eo];exact g.ol,by rw[en];exact g.nk,by rw[eo];exact g.on,λp' eZ=>?_,by rw[ea];exact gm.al,by rw[ea,eo];exact gm.bB⟩
 . rw[eC]at hu
   have hu:u∈(bu st kept (aI st) added).bJ:=hu
   unfold bu at hu
   rw[xU]at hu
   obtain⟨x,hx,rfl⟩:=aW.mp hu
   exact((g.bJ x hx).mul zs).mono (by omega)
 . rw[eC]
   show(bu st kept (aI st) added).stp.length<=c+1
   unfold bu f7
   split
   . show(st.stp++[_]).length<=c+1
     rw[cW];have:=g.stp;show st.stp.length+1<=c+1;omega
   . exact gm.stp
 . rw[epr];exact(g.prod.mul zs).mono (by omega)
 . obtain⟨p,h0,_,_,e3,_⟩:=hp p' eZ
   have:=gm.wo p h0
   omega
 . obtain⟨p,h0,_,_,_,e4⟩:=hp p' eZ
   rw[e4];exact g.we p h0
 . obtain⟨p,h0,e1,e2,_,_⟩:=hp p' eZ
   have tl:=sS wf h0
   have tl':(aP st' p').length=st.bX.length:=by unfold aP;rw[kF,e1,wf.rows p h0,<-wf.gf,ec];unfold bu gJ;rw[Iz,aE,kF,bl.len];omega
   have r:=GV (l:=List.zipWith (λt m=>t*kept+m) (aP st p) added) (m:=aP st' p') (a:=st'.prod) (b:=st.prod*aI st) (by rw[kF,tl,tl',bl.len];omega) λj=>by rw[lJ (f:=λt m=>t*kept+m) (by show(0:Int)*_+0=0;omega) (by rw[tl,bl.len])];exact Bj wf bl ec ep h0 e1 e2 (B:=st.prod) rfl rfl
   rw[GP _ (by rw[tl,bl.len]),g.sum p h0,hs,lC lost,<-lD,<-bl.w,lC _ st'.prod]at r
   exact(Int.eq_of_mul_eq_mul_right (Int.ne_of_gt (xK (by omega) w1)) r).symm
theorem IU:∀(rs:Da Row)(s:HS),(∀r∈rs,1<=r.2)->∀p'∈(rs.foldl eU s).ah,∃p∈s.ah,∃w,p'={ p with wo:=w }/\w<=p.wo
 | [],s,_,p',h=>⟨p',h,p'.wo,Z,eO _⟩
 | r::rs,s,h1,p',h=>by
  obtain⟨p,hp,w,e,le⟩:=IU rs (eU s r) (λx hx=>h1 x (cQ _ hx)) p' h;obtain⟨_,q,hq,e2⟩:=sU hp;have:=h1 r cM;split at e2
  .subst e2;have le:w<=q.wo-r.2:=le;exact⟨q,hq,w,e,by omega⟩
  .subst e2;exact⟨p,hq,w,e,le⟩
theorem IV:∀(rs:Da Row)(s:HS),(rs.foldl eU s).ah.length<=s.ah.length
 | [],s=>aL _
 | r::rs,s=>by have:=IV rs (eU s r);have h:=vq (ps:=s.ah) (x:=r.1) (a:=r.2) |>.length_le;rw[aE,aE]at h;exact fY this h
theorem DA(k:Int):∀{xs ts:Da Int},xs.length=ts.length->(List.zipWith (λx t=>x+k*t) xs ts).sum=xs.sum+k*ts.sum
 | [],[],_=>by simp
 | x::xs,t::ts,h=>by rw[uC,b9,b9,b9,DA k (by simpa using h),lD];omega
 | [],_::_,h=>by simp at h
 | _::_,[],h=>by simp at h
theorem IW{st:HS}:∀(rs:Da Row)(Ap:Da Int),(∀r∈rs,(aP st (cO st r.1)).length=Ap.length/\(aP st (cO st r.1)).sum=st.prod)->(vn st Ap rs).sum=Ap.sum+bF rs*st.prod
 | [],Ap,_=>by show Ap.sum=Ap.sum+0*_;omega
 | r::rs,Ap,h=>by
  obtain⟨h1,h2⟩:=h r cM;have e:(List.zipWith (λx t=>x+r.2*t) Ap (aP st (cO st r.1))).length=Ap.length:=by rw[kF,h1];omega
  show(vn st (List.zipWith (λx t=>x+r.2*t) Ap (aP st (cO st r.1))) rs).sum=_;rw[IW rs _ (λx hx=>by rw[e];exact h x (cQ _ hx)),DA _ h1.symm,h2,show bF (r::rs)=r.2+bF rs from by unfold bF;rw[bK,b9],nM];omega
theorem pZ{st:HS}{r:Row}(h:mE st r=none):r.1∈fV st/\1<=r.2/\r.2<=(cO st r.1).wo:=by
 unfold mE at h;split at h
 .split at h
  .cases h
  .split at h
   .cases h
   .exact ⟨by assumption,by omega,by omega⟩
 .cases h
theorem Bw{st:HS}{rs:Da Row}(h:x8 st rs=none):rs≠[]/\(rs.map λr:Row=>r.1).Nodup/\(∀r∈rs,mE st r=none)/\bF rs<aI st:=by
 unfold x8 at h;split at h
 .next c=>
  split at h
  .cases h
  .next e=>
   split at h
   .cases h
   .exact ⟨c.1,c.2,λr hr=>List.findSome?_eq_none_iff.mp e r hr,by omega⟩
 .cases h
theorem Go.yT{c:Nat}{st:HS}(g:Go c st)(wf:Wf st)(hc:c<=91){rs:Da Row}(h:x8 st rs=none):nj st rs:=by
 obtain⟨h1,h2,h3,h4⟩:=Bw h;have aw:=g.aw wf hc;refine⟨h2,h1,?_,λr hr=>?_,h4,aw.big,aw.prod,aw.bJ,aw.stp⟩
 .have:=zN h2 (m:=fV st) (λx hx=>by obtain⟨r,hr,rfl⟩:=aW.mp hx;exact(pZ (h3 r hr)).1);rw[aE]at this;unfold fV at this;rw[aE]at this;have:=g.pl;omega
 .obtain ⟨a1,a2,a3⟩:=pZ (h3 r hr);obtain⟨i,p,e1,e2⟩:=n_ a1;have hp:=bg e1;rw[dS wf hp e2]at a3;have:=g.sz wf hc p hp;exact⟨a2,this.of_le (by omega),p,hp,e2,a3⟩
def DdG:Dd->Prop
 | .load _ _ wo we=>wo<=1000000000000/\we<=1000000000
 | .rise _ a=>a<=1000000000000
 | _=>True
def QJ{n i:Nat}{b:Int}(h:i<n):((List.replicate n (0:Int)).set i b).sum=b:=by
 have:=oS (l:=List.replicate n (0:Int)) (x:=b) (by rw[jd];exact h)
 rwa [Mr,xH,sV,xH]at this
theorem ZX{c:Nat}{st:HS}(g:Go c st)(wf:Wf st){x o:Str}{wo we:Int}(hx:isNm x=true)(ho:o∈st.own)(h1:wo<=1000000000000)(h2:we<=1000000000):Go (c+1) (xT st x o wo we):=by
 refine E6 g (λp hp=>?_) (by rw[cW];have:=g.pl;show st.ah.length+1<=_;omega) (by rw[cW];have:=g.kl;show st.nms.length+1<=_;omega) (λy hy=>?_)
 .rcases c7.mp hp with z|z
  .have:=g.wo p z;exact⟨g.sum p z,by omega,g.we p z⟩
  .rw [dF.mp z];refine⟨?_,by show wo<=_;omega,h2⟩;unfold aP;show(List.zipWith (λr c=>(1:Int)*r+c) (mD st _) st.bX).sum=_;rw[Mw (by rw[fH,jd,wf.gf])];exact QJ (mV ho)
 .rcases c7.mp hy with z|z
  .exact g.nk y z
  .rw [dF.mp z];exact hx
theorem ZY{c:Nat}{st:HS}(g:Go c st)(wf:Wf st)(hc:c<=90){rs:Da Row}(h:x8 st rs=none):Go (c+1) (gQ st rs):=by
 have ok:=g.yT wf (by omega) h;have h1:∀r∈rs,1<=r.2:=λr hr=>(ok.row r hr).1;refine MB g wf (ok.blend wf) ?_ hc (j_ rs _) (λp' eZ=>?_) ?_
 .have ex:∀r∈rs,∃p∈st.ah,p.nm=r.1:=λr hr=>by obtain⟨p,hp,e,_⟩:=(ok.row r hr).2.2;exact⟨p,hp,e⟩
  rw[Bd wf ex,IW,sV,xH];intro r hr;obtain⟨p,hp,e⟩:=ex r hr;rw[dS wf hp e,jd];exact⟨sS wf hp,g.sum p hp⟩
 .obtain ⟨p1,hp1,w,rfl,le⟩:=IU rs _ h1 p' eZ;unfold bu at hp1;rw[lu]at hp1;obtain⟨p,hp,rfl⟩:=aW.mp hp1;exact⟨p,hp,Z,Z,le,Z⟩
 .refine fY (IV rs _) ?_;unfold bu;rw[lu,aE];exact aL _
theorem W8{c:Nat}{st:HS}(g:Go c st)(wf:Wf st)(hc:c<=90){o:Str}{a:Int}(h:nv st o a=none):Go (c+1) (Bl st o a):=by
 obtain⟨ho,h1,h2⟩:=rA h;refine MB g wf ((g.aw wf (by omega)).blend (o:=o) wf h1 h2) (QJ (mV ho)) hc rfl (λp' eZ=>?_) ?_
 .have eZ:p'∈(bu st _ _ _).ah:=eZ;unfold bu at eZ;rw[lu]at eZ;obtain⟨p,hp,rfl⟩:=aW.mp eZ;exact⟨p,hp,Z,Z,eO _,Z⟩
 .show (bu st _ _ _).ah.length<=_;unfold bu;rw[lu,aE];exact aL _
def UN{st:HS}(wf:Wf st){c:Nat}(g:Go c st){p:Pt}(hp:p∈st.ah):UM c st.own (nc st p):=⟨st.own,aP st p,st.prod,List.prefix_refl _,(As wf hp).symm,Z,λt ht=>(wf.pS p hp t ht).1,g.sum p hp,wf.fZ,g.prod⟩
theorem ZZ{c:Nat}{st:HS}(g:Go c st)(wf:Wf st)(hc:c<=91){x:Str}(h:qX st x=none):Go (c+1) (qY st x):=by
 obtain⟨i,p,e1,rfl⟩:=n_ (qy h);have hp:=bg e1;rw[sY wf hp];have S:∀{M:Pt->Prop},(∀x∈st.ah,M x)->∀x∈st.ah.filter (λq=>decide (q.nm≠p.nm)),M x:=λh x hx=>h x (iG.mp hx).1;have hf:=Gk (λq:Pt=>decide (q.nm≠p.nm)) st.ah;have gm:=g.mono;refine⟨λu hu=>?_,gm.stp,gm.prod,S gm.wo,S g.we,fY hf gm.pl,gm.kl,g.ol,g.nk,g.on,S g.sum,?_,λa ha=>?_⟩
 .exact (GX wf hp (m:=64*c+1) (g.sz wf hc p hp) g.prod (λu hu=>(g.bJ u hu).mono (by omega)) u hu).mono (by omega)
 .show (st.bB++[_]).length<=_;rw[cW];have:=g.al;show st.bB.length+1<=_;omega
 .rcases c7.mp (show a∈st.bB++[_]from ha)with z|z
  .exact gm.bB a z
  .rw [dF.mp z];exact(UN wf g hp).mono (by omega) (List.prefix_refl _)
theorem QK{c:Nat}{st:HS}(g:Go c st)(wf:Wf st){o:Str}(h:isNm o=true):Go (c+1) (fu st o):=by
 have gm:=g.mono;have P:∀p∈(fu st o).ah,∃p0∈st.ah,p={ p0 with row:=p0.row++[0] }:=λp hp=>by obtain⟨p0,h0,rfl⟩:=aW.mp (show p∈st.ah.map _ from hp);exact⟨p0,h0,Z⟩
 refine⟨λu hu=>?_,gm.stp,gm.prod,λp hp=>?_,λp hp=>?_,?_,gm.kl,?_,g.nk,λx hx=>?_,λp hp=>?_,gm.al,λa ha=>(gm.bB a ha).mono (aL _) (List.prefix_append _ _)⟩
 .rcases c7.mp (show u∈st.bJ++[0]from hu)with z|z
  .exact gm.bJ u z
  .rw [dF.mp z];exact(show Jm.Sz 1 (0:Int)from gX (by decide +kernel)).mono (by omega)
 .obtain ⟨p0,h0,rfl⟩:=P p hp;exact gm.wo p0 h0
 .obtain ⟨p0,h0,rfl⟩:=P p hp;exact g.we p0 h0
 .show (st.ah.map _).length<=_;rw[aE];exact gm.pl
 .show 0<(st.own++[o]).length;rw[cW];exact lz g.ol (qC _ _)
 .rcases c7.mp (show x∈st.own++[o]from hx)with z|z
  .exact g.on x z
  .rw [dF.mp z];exact h
 .obtain ⟨p0,h0,rfl⟩:=P p hp;show(List.zipWith (λr c=>p0.sc*r+c) (p0.row++[0]) (st.bX++[0])).sum=st.prod;rw[A0 _ (by rw[wf.rows p0 h0,wf.gf]),zu,show(List.zipWith (λr c=>p0.sc*r+c) p0.row st.bX).sum=st.prod from g.sum p0 h0];simp
def z_{l:Da Pt}{x:Str}{f:Pt->Pt}{p':Pt}(h:p'∈l.map λp=>if p.nm=x then f p else p):∃p∈l,(p.nm=x/\p'=f p)\/p'=p:=by
 obtain⟨p,hp,e⟩:=aW.mp h;by_cases c:p.nm=x
 .exact ⟨p,hp,.inl ⟨c,by rw[ay c]at e;exact e.symm⟩⟩
 .exact ⟨p,hp,.inr (by rw[av c]at e;exact e.symm)⟩
theorem aeS{c:Nat}{st:HS}(g:Go c st)(wf:Wf st)(hc:c<=90){d:Dd}(hr:pV st d=none)(db:DdG d):Go (c+1) (jQ st d):=by
 have hl:=g.pl;cases d with
 | sign o=>
  have:z6 st o=none:=hr;unfold z6 at this;split at this
  .exact QK g wf (by assumption)
  .cases this
 | load x o wo we=>obtain⟨h1,_,h3,_,_⟩:=uo hr;exact ZX g wf h1 h3 db.1 db.2
 | cast rs=>exact ZY g wf hc hr
 | award o a=>exact W8 g wf hc hr
 | mishap x a=>
  obtain⟨_,h1,_⟩:=pZ (show mE st (x,a)=none from hr);have h1:1<=a:=h1;refine g.same (ps:=j8 st.ah x a) (λp' eZ=>?_) ?_
  .obtain ⟨_,p,hp,e⟩:=sU eZ;split at e
   .exact ⟨p,hp,by rw[e],by rw[e],by rw[e];show p.wo-a<=_;omega,by rw[e];exact eO _⟩
   .exact ⟨p,hp,by rw[e],by rw[e],by rw[e];omega,by rw[e];exact eO _⟩
  .have h:=vq (ps:=st.ah) (x:=x) (a:=a) |>.length_le;rw[aE,aE]at h;omega
 | rise x a=>
  have ha:a<=1000000000000:=db;refine g.same (λp' eZ=>?_) (by rw[aE];omega);obtain⟨p,hp,⟨_,e⟩|e⟩:=z_ eZ
  .exact ⟨p,hp,by rw[e],by rw[e],by rw[e];show p.wo+a<=_;omega,by rw[e];exact eO _⟩
  .exact ⟨p,hp,by rw[e],by rw[e],by rw[e];omega,by rw[e];exact eO _⟩
 | hand x o=>
  obtain⟨hx,ho⟩:=uu hr;show Go (c+1) (iV st x o);unfold iV;split
  .exact g.mono
  .next ne=>
   refine E6 g (ns:=st.nms) (λp' eZ=>?_) (by rw[aE];omega) g.mono.kl g.nk;obtain⟨p,hp,⟨en,e⟩|e⟩:=z_ eZ
   .rw [dS wf hp en]at ne;have:=g.wo p hp;refine⟨?_,by rw[e];show p.wo<=_;omega,by rw[e];exact g.we p hp⟩;rw[e,show aP st { p with ow:=o,sc:=1,row:=mD st (nY st p o) }=_ from Bt wf hp o];exact(Mx wf hp ho ne (g.sum p hp)).2
   .rw [e];have:=g.wo p hp;exact⟨g.sum p hp,by omega,g.we p hp⟩
 | land x=>exact ZZ g wf (by omega) hr
 | sever x y a we=>
  obtain⟨hx,hy,h1,h2,h3,h4⟩:=lM hr;obtain⟨i,p0,e1,en⟩:=n_ hx;have hp0:=bg e1;have w0:=g.wo p0 hp0;have v0:=g.we p0 hp0;show Go (c+1) (qZ st x y a we);unfold qZ;rw[dS wf hp0 en]at h3 h4 ⊢;refine E6 g (λp' eZ=>?_) (by rw[cW];show(List.map _ st.ah).length+1<=_;rw[aE];omega) (by rw[cW];have:=g.kl;show st.nms.length+1<=_;omega) (λz hz=>?_)
  .rcases c7.mp eZ with z|z
   .obtain ⟨p,hp,⟨_,e⟩|e⟩:=z_ z
    .rw [e];have:=g.wo p hp;have:=g.we p hp;exact⟨g.sum p hp,by show p.wo-a<=_;omega,by show p.we-we<=_;omega⟩
    .rw [e];have:=g.wo p hp;exact⟨g.sum p hp,by omega,g.we p hp⟩
   .rw [dF.mp z];exact⟨g.sum p0 hp0,by show a<=_;omega,by show we<=_;omega⟩
  .rcases c7.mp hz with w|w
   .exact g.nk z w
   .rw [dF.mp w];exact hy.1
 | still=>exact g.mono
theorem aeT{c:Nat}{st:HS}(g:Go c st)(wf:Wf st)(hc:c<=90)(hk:st.kn+100<=1000000)(ho:st.own.length<100){d:Dd}(hr:pV st d=none):Wf (jQ st d):=by
 have hl:=g.pl;have hn:=g.kl;cases d with
 | sign o=>
  have:z6 st o=none:=hr;unfold z6 at this;split at this
  .split at this
   .cases this
   .exact Ck wf (by assumption) ho
  .cases this
 | load x o wo we=>obtain⟨_,h2,h3,h4,h5⟩:=uo hr;exact Qp wf h2 (by omega) (by omega) h3 h4 h5
 | cast rs=>exact Zw wf (g.yT wf (by omega) hr)
 | award o a=>obtain⟨h0,h1,h2⟩:=rA hr;exact zW wf ((g.aw wf (by omega)).blend (o:=o) wf h1 h2)
 | mishap x a=>obtain⟨_,_,h1⟩:=pZ (show mE st (x,a)=none from hr);exact GK wf λp hp e=>by rw[dS wf hp e]at h1;exact h1
 | rise x a=>have h1:=(Bs (show tV st x a=none from hr)).2;exact yR wf λq hq _=>⟨Z,Z,Z,Z,by have:=(wf.jS q hq).1;show 1<=q.wo+a;omega,(wf.jS q hq).2⟩
 | hand x o=>exact QF wf hr g.sum
 | land x=>exact QH wf hr (g.ld wf (by omega) hk)
 | sever x y a we=>exact Mu wf hr (by omega) (by omega)
 | still=>exact wf
def Z0(st:HS)(s:Int):(f7 st s).kn<=st.kn:=by
 unfold f7;split
 .exact iH _
 .exact aL _
def aeU(st:HS)(d:Dd):(jQ st d).kn<=st.kn+100:=by
 cases d with
 | cast rs=>exact fY (ZH st rs) (qC _ _)
 | award o a=>exact fY (Z0 _ _) (qC _ _)
 | hand x o=>show(iV st x o).kn<=_;unfold iV;split <;> exact qC _ _
 | land x=>exact aL _
 | _=>exact qC _ _
inductive QAt(K:Fg)(H:Hp)(m:Addr)(st:HS):Prop
 |mk(AT:Da (Key×V))(lo lp lk:Addr)(us:Da V)(_:H m=some (.dK AT))(_:eL AT (Sum.inr "owners")=some (.ref lo))(_:eL AT (Sum.inr "parts")=some (.ref lp))(_:eL AT (Sum.inr "known")=some (.ref lk))(_:aB K H lo (st.own.map V.str))(_:aB K H lp us)(_:yM K H us st.ah)(_:aB K H lk (st.nms.map V.str))
def vd(st:HS):Da Row:=st.ah.map λp=>(p.nm,p.wo)
def yM.nw{K:Fg}{H:Hp}{us:Da V}{st:HS}(h:yM K H us st.ah):L7 K H us (vd st):=by refine⟨by unfold vd;rw[aE];exact h.len,λi r e=>?_⟩;unfold vd at e;rw[bV]at e;obtain⟨p,ep,rfl⟩:=mZ.mp e;obtain⟨a,xs,e1,e2,e3,_,e5,_⟩:=h.at_ i p ep;exact⟨a,xs,e1,e2,e3,e5⟩
structure Nx(nms:Da Str)(st:HS):Prop where
 t:st.nms=nms.take st.nms.length
 nd:nms.Nodup
 ok:∀x∈nms,isNm x=true
def Nx.next{nms:Da Str}{st:HS}(h:Nx nms st){x:Str}(e:nms[st.nms.length]?=some x):isNm x=true/\x∉st.nms/\∀st':HS,st'.nms=st.nms++[x]->Nx nms st':=by
 refine⟨h.ok x (bg e),?_,λst' e'=>⟨?_,h.nd,h.ok⟩⟩
 .rw [h.t];exact kP h.nd e
 .rw [e',cW,show st.nms.length+[x].length=st.nms.length+1 from rfl,take_snoc e,<-h.t]
def Nx.keep{nms:Da Str}{st st':HS}(h:Nx nms st)(e:st'.nms=st.nms):Nx nms st':=⟨by rw[e];exact h.t,h.nd,h.ok⟩
def MC{st:HS}{d:Dd}(h:d.k≠1)(h':d.k≠8):(jQ st d).nms=st.nms:=by
 cases d with
 | load=>exact absurd rfl h
 | sever=>exact absurd rfl h'
 | cast rs=>show(gQ st rs).nms=_;unfold gQ;rw[j_];show(bu st _ _ _).nms=_;unfold bu;rw[xV]
 | award o a=>show(bu st _ _ _).nms=_;unfold bu;rw[xV]
 | hand x o=>show(iV st x o).nms=_;unfold iV;split <;> rfl
 | _=>rfl
def Dd.pl:Dd->Bool
 | .sign _=>false | .load .. =>false | .sever .. =>false|_=>true
def Dd.W9{d:Dd}(h:d.pl=true):d.k≠1/\d.k≠8/\d.k≠0:=by cases d <;> first|(exact Bool.noConfusion h)|(refine⟨?_,?_,?_⟩ <;> simp[Dd.k])
theorem E7{st:HS}(wf:Wf st){rs:Da Row}(h:Bf (vd st) rs)(hne:rs≠[]):x8 st rs=none:=by
 have hl:bF rs<aI st:=by
  rcases h.lost with z|z
  .have e:bF (vd st)=aI st:=by unfold bF vd aI;rw[dJ];rfl
   rw[<-e];exact z
  .exact absurd z hne
 have hr:∀r∈rs,mE st r=none:=λr hr=>by obtain⟨r1,_,w,hw,e,le⟩:=h.row r hr;obtain⟨p,hp,rfl⟩:=aW.mp hw;have e:p.nm=r.1:=e;have le:r.2<=p.wo:=le;unfold mE;rw[ay (show r.1∈fV st from aW.mpr ⟨p,hp,e⟩),av (by omega),dS wf hp e,av (by omega)]
 unfold x8;rw[ay ⟨hne,h.nd⟩,List.findSome?_eq_none_iff.mpr hr];exact av (by omega)
def Nx.pl{nms:Da Str}{st:HS}(h:Nx nms st)(wf:Wf st):st.ah.length<=nms.length:=by
 have a:=zN (l:=st.ah.map (·.nm)) (m:=nms) wf.fP (λx hx=>by obtain⟨p,hp,rfl⟩:=aW.mp hx;have:=wf.sub p hp;rw[h.t]at this;exact List.mem_of_mem_take this)
 rwa [aE]at a
inductive aeV(K:Fg)(vs:Da V)(H:Hp)(Q:VK)(E:XK):Prop
 |mk(l:Addr)(us:Da V)(rs:Da Row)(_:vs=[.ref l])(_:aB K H l us)(_:gC H us rs)(_:rs.length<=1000)(_:∀z H',aK H H'->H' z=some (.tup (Dd.v (.cast rs)))->Q (.ref z) H')
def UO(K:Fg):Sp:=bx (aeV K)
inductive Cv(nms:Da Str)(st:HS)(d:Dd):Prop
 |mk(_:pV st d=none)(_:CY d)(_:Nx nms (jQ st d))(_:d.k≠0)
inductive aeW(K:Fg)(vs:Da V)(H:Hp)(Q:VK)(E:XK):Prop
 |mk(a m ln:Addr)(ns:Da Int)(k:Int)(nms:Da Str)(c:Nat)(st:HS)(_:vs=[.ref a,.int k,.ref m,.ref ln])(_:aB K H a (ns.map V.int))(_:ns.length<=63)(_:0<=k)(_:k<=1000000)(_:QAt K H m st)(_:aB K H ln (nms.map V.str))(_:Nx nms st)(_:nms.length<=50)(_:Wf st)(_:Go c st)(_:c<=90)(_:∀z d H',aK H H'->H' z=some (.tup (Dd.v d))->Cv nms st d->Q (.ref z) H')
def UP(K:Fg):Sp:=bx (aeW K)
inductive UQ(K:Fg)(vs:Da V)(H:Hp)(Q:VK)(E:XK):Prop
 |mk(a m ln:Addr)(ns:Da Int)(k way:Int)(nms:Da Str)(c:Nat)(st:HS)(_:vs=[.ref a,.int k,.ref m,.ref ln,.int way])(_:aB K H a (ns.map V.int))(_:ns.length<=63)(_:0<=k)(_:k<=1000000)(_:QAt K H m st)(_:aB K H ln (nms.map V.str))(_:Nx nms st)(_:nms.length<=50)(_:Wf st)(_:Go c st)(_:c<=90)(_:0<st.ah.length)(_:∀z d H',aK H H'->H' z=some (.tup (Dd.v d))->Cv nms st d->Q (.ref z) H')
def E8(K:Fg):Sp:=bx (UQ K)
inductive Z1(T:TC)(K:Fg)(vs:Da V)(H:Hp)(Q:VK)(E:XK):Prop
 |mk(n c:Nat)(ρ:eF)(A:HA)(st:HS)(z:Addr)(d:Dd)(_:vs=[.ref A.a,.ref z])(_:dU K H z d.v)(_:HH T n ρ A H st)(_:Go c st)(_:c<=90)(_:st.kn+100<=1000000)(_:st.own.length<100)(_:pV st d=none)(_:xS T n ρ A H (jQ st d:_) λH'=>Q .cy H')
def DB(T:TC)(K:Fg):Sp:=bx (Z1 T K)
theorem QL:∀{rs:Da Row}{i:Nat}{r:Row},rs[i]?=some r->(kg rs)[2*i]?=some (.str r.1)/\(kg rs)[2*i+1]?=some (.int r.2)
 | [],_,_,h=>by simp at h
 | x::rs,0,r,h=>by
  have e:x=r:=by simpa using h
  subst e;exact⟨Z,Z⟩
 | x::rs,i+1,r,h=>by obtain⟨a,b⟩:=QL (rs:=rs) (i:=i) (by simpa using h);rw[show 2*(i+1)=2*i+1+1 by omega];exact⟨a,b⟩
theorem QM{rs:Da Row}{i:Nat}{r:Row}(h:rs[i]?=some r):(Dd.v (.cast rs))[1+2*i]?=some (.str r.1)/\(Dd.v (.cast rs))[2+2*i]?=some (.int r.2):=by obtain⟨a,b⟩:=QL h;rw[show 1+2*i=2*i+1 by omega,show 2+2*i=2*i+1+1 by omega];exact⟨a,b⟩
def Aa(rs:Da Row):(Dd.v (.cast rs)).length=2*rs.length+1:=by show(kg rs).length+1=_;rw[Bo]
theorem UR(m:Nat):sM 1 ((2*m+1:Nat):Int) 2=m:=by unfold sM Builtin.Range.rangeSize;rw[ay (by decide)];split <;> omega
theorem CY.g{d:Dd}(h:CY d):DdG d:=by
 cases d with
 | load x o wo we=>obtain⟨_,_,⟨_,h1⟩,⟨_,h2⟩⟩:=h;exact⟨by omega,h2⟩
 | rise x a=>obtain⟨_,⟨_,h1⟩⟩:=h;show a<=_;omega
 | _=>exact True.intro
structure GW(c m:Nat)(st:HS):Prop where
 g:Go c st
 wf:Wf st
 kn:st.kn<=m
theorem GW.do{c m:Nat}{st:HS}(h:GW c m st)(hc:c<=90)(hm:m+100<=1000000)(ho:st.own.length<100){d:Dd}(hr:pV st d=none)(hb:DdG d):GW (c+1) (m+100) (jQ st d):=⟨aeS h.g h.wf hc hr hb,aeT h.g h.wf hc (by have:=h.kn;omega) ho hr,by have:=h.kn;have:=aeU st d;omega⟩
def sN(sp:Sp):Sp:=λvs H Q _=>sp vs H Q E0
def US{st:HS}{o:Str}(h:z6 st o=none):isNm o=true/\o∉st.own:=by
 unfold z6 at h;split at h
 .split at h
  .cases h
  .exact ⟨by assumption,by assumption⟩
 .cases h
def ki(own:Da Str):HS:=own.foldl fu hs0
theorem IZ:∀(l:Da Str)(st:HS),Wf st->(st.own++l).Nodup->st.own.length+l.length<=100->Wf (l.foldl fu st)
 | [],_,w,_,_=>w
 | o::l,st,w,nd,hl=>by
  rw[jV];rw[jf]at hl;have h1:o∉st.own:=λm=>(List.nodup_append.mp nd).2.2 o m o cM rfl;refine IZ l (fu st o) (Ck w h1 (by omega)) ?_ ?_
  .show ((st.own++[o])++l).Nodup;rw[K2];exact nd
  .show (st.own++[o]).length+l.length<=100;rw[cW];show st.own.length+1+l.length<=100;omega
theorem gw0{own:Da Str}(nd:own.Nodup)(h0:0<own.length)(h1:own.length<=100)(hon:∀o∈own,isNm o=true):GW 0 0 (ki own):=by
 obtain⟨k1,k2,k3,k4,k5,k6⟩:=nX own hs0 rfl (λu hu=>absurd hu (by simp[hs0]));have eo:(ki own).own=own:=by unfold ki;rw[ug];rfl
 have k1:(ki own).ah=[] :=k1;have k2:(ki own).nms=[] :=k2;have k3:(ki own).stp=[] :=k3;have k4:(ki own).prod=1:=k4;have k5:(ki own).bB=[] :=k5;have k6:∀u∈(ki own).bJ,u=0:=k6;refine⟨⟨λu hu=>?_,by rw[k3];exact aL _,?_,λp hp=>?_,λp hp=>?_,by rw[k1];exact aL _,by rw[k2];exact aL _,by rw[eo];exact h0,λx hx=>?_,by rw[eo];exact hon,λp hp=>?_,by rw[k5];exact aL _,λa ha=>?_⟩,IZ own hs0 wf0 nd (by show 0+_<=_;omega),?_⟩
 .rw [k6 u hu];exact gX (by decide +kernel)
 .rw [k4];exact gX (by decide +kernel)
 .rw [k1]at hp;cases hp
 .rw [k1]at hp;cases hp
 .rw [k2]at hx;cases hx
 .rw [k1]at hp;cases hp
 .rw [k5]at ha;cases ha
 .rw [show(ki own).kn=0 from Mg own hs0];exact aL _
def Z2(own:Da Str):(ki own).own=own:=by unfold ki;rw[ug];rfl
def acz{own nms:Da Str}(nd:nms.Nodup)(h:∀x∈nms,isNm x=true):Nx nms (ki own):=by obtain⟨_,k2,_⟩:=nX own hs0 rfl (λu hu=>absurd hu (by simp[hs0]));have k2:(ki own).nms=[] :=k2;exact⟨by rw[k2];rfl,nd,h⟩
def lV(st:HS)(i:Nat):Int:=(st.ah.map λp=>p.wo*p.sc*p.row.getD i 0).sum+aI st*st.bX.getD i 0
def yU(st:HS)(o:Str):Int:=((st.bB.filter λa=>decide (a.ow=o)).map λa=>a.wo).sum
def acA(st:HS)(o:Str):Rat:=Jm.fr (lV st (st.own.idxOf o)) st.prod
def MD(st:HS)(o:Str):Rat:=Jm.fr (st.bJ.getD (st.own.idxOf o) 0) st.prod
def R7(st:HS)(o:Str):Rat:=Jm.fr (lV st (st.own.idxOf o)+st.bJ.getD (st.own.idxOf o) 0+yU st o*st.prod) st.prod
structure R8(st:HS):Prop where
 wf:Wf st
 wo:∀p∈st.ah,Jm.Sz 60 p.wo
 wh:Jm.Sz 60 (aI st)
 la:∀o,Jm.Sz 60 (yU st o)
inductive UT(T:TC)(vs:Da V)(H:Hp)(Q:VK)(E:XK):Prop
 |mk(n ρ A st:_)(i:Nat)(_:vs=[.ref A.a,.int (i:Int)])(_:aX T n ρ A H st)(_:R8 st)(_:i<st.own.length)(_:∀H',aK H H'->Q (.int (lV st i)) H')
def Ab(T:TC):Sp:=bx (UT T)
inductive Z3(T:TC)(vs:Da V)(H:Hp)(Q:VK)(E:XK):Prop
 |mk(n ρ A st o:_)(_:vs=[.ref A.a,.str o])(_:aX T n ρ A H st)(_:R8 st)(_:o∈st.own)(_:∀r H',aK H H'->H' r=some (oE (acA st o))->Q (.ref r) H')
def W_(T:TC):Sp:=bx (Z3 T)
inductive acB(T:TC)(vs:Da V)(H:Hp)(Q:VK)(E:XK):Prop
 |mk(n ρ A st o:_)(_:vs=[.ref A.a,.str o])(_:aX T n ρ A H st)(_:Wf st)(_:o∈st.own)(_:∀r H',aK H H'->H' r=some (oE (MD st o))->Q (.ref r) H')
def QN(T:TC):Sp:=bx (acB T)
inductive aeX(T:TC)(vs:Da V)(H:Hp)(Q:VK)(E:XK):Prop
 |mk(n ρ A st o:_)(_:vs=[.ref A.a,.str o])(_:aX T n ρ A H st)(_:R8 st)(_:o∈st.own)(_:∀r H',aK H H'->H' r=some (oE (R7 st o))->Q (.ref r) H')
def UU(T:TC):Sp:=bx (aeX T)
def getD_at{l:Da Int}{i:Nat}(h:i<l.length):lP (l.map V.int) (i:Int)=some (.int (l.getD i 0)):=aC (by rw[bV,dD,bf h];rfl)
def I0{l:Da Int}{i:Nat}(h:i<l.length):l.getD i 0∈l:=by rw[dD,bf h];exact zm h
section
variable {X:Cx}
end
theorem By{st:HS}(wf:Wf st){i:Nat}(hi:i<st.own.length):lV st i=(st.ah.map λp=>p.wo*(aP st p).getD i 0).sum:=by
 unfold lV aI;have hc:=wf.gf;have h:∀p∈st.ah,(aP st p).getD i 0=p.sc*p.row.getD i 0+st.bX.getD i 0:=λp hp=>by unfold aP;exact lJ (f:=λr c=>p.sc*r+c) (by show p.sc*0+0=0;omega) (by rw[wf.rows p hp,hc]) i
 generalize st.bX.getD i 0=k at *;revert h;generalize st.ah=ps;intro h
 induction ps with
 | nil=>show(0:Int)+0*k=0;omega
 | cons p ps ih=>
  have e:=h p cM;have:=ih λx hx=>h x (cQ _ hx);rw[bK,bK,bK,b9,b9,b9,e,<-this]
  grind
theorem I_{st:HS}(wf:Wf st){i:Nat}(hi:i<st.own.length):0<=lV st i:=by rw[By wf hi];refine UD λx hx=>?_;obtain⟨p,hp,rfl⟩:=aW.mp hx;have h1:=(wf.jS p hp).1;have h2:=wc (λt ht=>(wf.pS p hp t ht).1) i;exact kJ (by omega) h2
theorem sum_rows{f:Pt->Da Int}{n:Nat}{b:Int}:∀(ps:Da Pt),(∀p∈ps,(f p).length=n/\(f p).sum=b)->((List.range n).map λi=>(ps.map λp=>p.wo*(f p).getD i 0).sum).sum=(ps.map λp=>p.wo).sum*b
 | [],_=>by
  have:(List.range n).map (λi=>(([] :Da Pt).map λp=>p.wo*(f p).getD i 0).sum)=(List.range n).map λ_=>(0:Int)*0:=by congr 1
  rw[this,lZ];simp
 | p::ps,h=>by
  obtain⟨h1,h2⟩:=h p cM;have ih:=sum_rows ps λx hx=>h x (cQ _ hx);have e:(List.range n).map (λi=>((p::ps).map λp=>p.wo*(f p).getD i 0).sum)=(List.range n).map λi=>(f p).getD i 0*p.wo+(ps.map λp=>p.wo*(f p).getD i 0).sum:=by refine qA λi _=>?_;rw[bK,b9,lC]
  rw[e,yo,lZ,CV _ _ h1,ih,h2,bK,b9]
  grind
def UW{st:HS}(wf:Wf st)(hs:∀p∈st.ah,(aP st p).sum=st.prod):((List.range st.own.length).map (lV st)).sum=aI st*st.prod:=by have e:(List.range st.own.length).map (lV st)=(List.range st.own.length).map λi=>(st.ah.map λp=>p.wo*(aP st p).getD i 0).sum:=qA λi hi=>By wf (tO.mp hi);rw[e];exact sum_rows st.ah λp hp=>⟨As wf hp,hs p hp⟩
structure Mo(c:Nat)(st:HS):Prop where
 pz:st.bJ.sum=0
 ao:∀a∈st.bB,a.ow∈st.own
 aw:∀a∈st.bB,1<=a.wo/\a.wo<=1000000000000*((c:Int)+1)
theorem Mo.mono{c:Nat}{st:HS}(m:Mo c st):Mo (c+1) st:=⟨m.pz,m.ao,λa ha=>by have:=m.aw a ha;omega⟩
def ME{c:Nat}{st:HS}(m:Mo c st)(kept whole:Int)(added:Da Int):Mo (c+1) (bu st kept whole added):=by
 unfold bu;refine⟨?_,?_,?_⟩
 .rw [xU];show(st.bJ.map λx=>x*_).sum=0;rw[lZ (λx=>x),List.map_id',m.pz,jW]
 .rw [xW,uh];exact m.ao
 .rw [xW];exact m.mono.aw
theorem Xa{st:HS}(wf:Wf st){p:Pt}(hp:p∈st.ah)(hs:(aP st p).sum=st.prod):(mF st p).sum=st.bJ.sum:=by
 have e:=oS (l:=gF st p) (i:=st.own.idxOf p.ow) (x:=-(p.wo*st.prod)) (by rw[Bv wf hp];exact mV (wf.ow p hp));have e2:(gF st p).sum=st.bJ.sum+p.wo*st.prod:=by unfold gF;rw[DA _ (by rw[As wf hp,wf.mC]),hs]
 unfold mF;rw[Int.sub_eq_add_neg,e,e2];omega
theorem aeY{c:Nat}{st:HS}(m:Mo c st)(g:Go c st)(wf:Wf st){d:Dd}(hr:pV st d=none):Mo (c+1) (jQ st d):=by
 cases d with
 | sign o=>refine⟨?_,λa ha=>ze _ (m.ao a ha),m.mono.aw⟩;show(st.bJ++[0]).sum=0;rw[zu,m.pz];rfl
 | cast rs=>show Mo (c+1) (gQ st rs);unfold gQ;rw[j_];have:=ME m (aI st-bF rs) (aI st) (gD st rs);exact⟨this.pz,this.ao,this.aw⟩
 | award o a=>exact ME m _ _ _
 | hand x o=>show Mo (c+1) (iV st x o);unfold iV;split <;> exact⟨m.pz,m.ao,m.mono.aw⟩
 | land x=>
  obtain⟨i,p,e1,rfl⟩:=n_ (qy hr);have hp:=bg e1;show Mo (c+1) (qY st p.nm);rw[sY wf hp];have S:∀{M:lq->Prop},(∀a∈st.bB,M a)->M ⟨p.nm,p.ow,p.wo,nc st p⟩->∀a∈st.bB++[⟨p.nm,p.ow,p.wo,nc st p⟩],M a:=λh1 h2 a ha=>by
   rcases c7.mp ha with z|z
   .exact h1 a z
   .rw [dF.mp z];exact h2
  have w:=g.wo p hp;exact⟨by show(mF st p).sum=0;rw[Xa wf hp (g.sum p hp),m.pz],S m.ao (wf.ow p hp),S m.mono.aw ⟨(wf.jS p hp).1,by show p.wo<=_;omega⟩⟩
 | _=>exact⟨m.pz,m.ao,m.mono.aw⟩
theorem Au:∀{l:Da lq}{m:Int}(f:lq->Bool),(∀a∈l,1<=a.wo/\a.wo<=m)->0<=((l.filter f).map λa=>a.wo).sum/\((l.filter f).map λa=>a.wo).sum<=m*(l.length:Int)
 | [],m,_,_=>by show 0<=(0:Int)/\(0:Int)<=m*0;omega
 | a::l,m,f,h=>by
  have h0:=h a cM;have ih:=Au (l:=l) (m:=m) f λx hx=>h x (cQ _ hx);rw[fX,jf,show(((l.length+1:Nat)):Int)=(l.length:Int)+1 from by omega,lD,o_];by_cases c:f a=true
  .rw [ay c,bK,b9];omega
  .rw [av c];omega
theorem Go.st{c:Nat}{st:HS}(g:Go c st)(m:Mo c st)(wf:Wf st)(hc:c<=91):R8 st:=by
 refine⟨wf,g.sz wf hc,(g.whole wf hc).2,λo=>?_⟩;have h:=Au (m:=92000000000000) (λa:lq=>decide (a.ow=o)) λa ha=>by have:=m.aw a ha;omega
 have hl:=g.al;have h2:(92000000000000:Int)*(st.bB.length:Int)<=92000000000000*91:=by omega
 have h3:yU st o<=92000000000000*91:=BZ h.2 h2;have h1:0<=yU st o:=h.1;exact(show Jm.Sz 60 (92000000000000*91:Int)from gX (by decide +kernel)).of_le (by omega)
def Xb{st:HS}(wf:Wf st)(hs:∀p∈st.ah,(aP st p).sum=st.prod){i:Nat}(hi:i<st.own.length):lV st i<=aI st*st.prod:=by rw[<-UW wf hs];exact(yS (l:=(List.range st.own.length).map (lV st)) λt ht=>by obtain⟨j,hj,rfl⟩:=aW.mp ht;exact I_ wf (tO.mp hj)).2 _ (aW.mpr ⟨i,tO.mpr hi,Z⟩)
def mo0{own:Da Str}:Mo 0 (ki own):=by
 obtain⟨_,_,_,_,k5,k6⟩:=nX own hs0 rfl (λu hu=>absurd hu (by simp[hs0]));have k5:(ki own).bB=[] :=k5;have k6:∀u∈(ki own).bJ,u=0:=k6;refine⟨?_,(λa ha=>by rw[k5]at ha;cases ha),λa ha=>by rw[k5]at ha;cases ha⟩;generalize (ki own).bJ=l at *
 induction l with
 | nil=>rfl
 | cons a l ih=>rw[b9,k6 a cM,ih λu hu=>k6 u (cQ _ hu)];rfl
section
variable {prog:Program}{w:World}{A:Around}{R:Result->Shared->Prop}{s:Shared}
end
section
variable {X:Cx}
end
section
variable {X:Cx}
end
section
variable {T:TC}{n m:Nat}{ρ ρ1:eF}{H H1:Hp}{A B:HA}{st s1:HS}{x:Addr}
end
section
variable {T:TC}{n m:Nat}{ρ ρ1:eF}{H H1:Hp}{A B:HA}{st s1:HS}{x:Addr}
end
section
variable {K:Fg}{H:Hp}
end
theorem MF{a:HS}{kept whole lost:Int}{ga:Da Int}(ba:nT a kept whole lost ga):(bu a kept whole ga).bJ=a.bJ.map (·*(whole / cA a kept whole ga))/\(bu a kept whole ga).prod=a.prod*(whole / cA a kept whole ga):=by
 obtain⟨hd,Uz,_⟩:=ba.dvds;have w1:0<whole:=by have:=ba.l;have:=ba.w;have:=ba.k;omega
 have s1:1<=whole / cA a kept whole ga:=Ro hd (by have:=D9 w1 Uz;omega);unfold bu;rw[xU,vm s1];exact⟨Z,Z⟩
theorem Xc{c:Nat}{st:HS}(g:Go c st){rs:Da Row}(h:Bf (vd st) rs)(hp:st.ah.length<=50)(wf:Wf st):CY (.cast rs):=by refine⟨by have:=h.len;unfold vd at this;rw[aE]at this;omega,λr hr=>?_⟩;obtain⟨r1,r2,w,hw,e,_⟩:=h.row r hr;obtain⟨p,hp,rfl⟩:=aW.mp hw;have e:p.nm=r.1:=e;exact⟨by rw[<-e];exact kU (g.nk _ (wf.sub p hp)),by unfold nB;omega⟩
section
variable {a:Addr}{ρ:eF}{H:Hp}
end
theorem GW.up{c m:Nat}{st:HS}(h:GW c m st)(n:Nat){m':Nat}(hm:m<=m'):GW (c+n) m' st:=by
 refine⟨?_,h.wf,by have:=h.kn;omega⟩
 induction n with
 | zero=>exact h.g
 | succ n ih=>exact ih.mono
section
variable {P:Program}{w:World}{K:Fg}{mg:SO}{base:Heap}{k:Nat}{T:TC}{e:Ec}{ps:Da Str}
def Xd(D:Mn P w K mg base k T.hold "place_of" ps (sN (z7 T e))):Mn P w K mg base k T.hold "place_of" ps (vE T):=D.imp λvs H Q E h=>by obtain⟨⟨n,ρ,A,st,o,rfl,hx,ho,q⟩⟩:=h;exact⟨n,ρ,A,st,o,Z,hx,λz=>absurd ho z,λ_=>q⟩
def UX(D:Mn P w K mg base k T.hold "part_of" ps (sN (nu T e))):Mn P w K mg base k T.hold "part_of" ps (Dm T):=D.imp λvs H Q E h=>by obtain⟨⟨n,ρ,A,st,i,p,qq,rfl,hx,nd,ep,eq,q⟩⟩:=h;refine⟨n,ρ,A,st,p.nm,Z,hx,nd,λz=>absurd rfl (z p (bg ep)),λj p' q' e1 e2 e3=>?_⟩;have:j=i:=EL nd e2 ep e1;subst this;rw[eq]at e3;cases e3;exact q
def acC(D:Mn P w K mg base k T.hold "check_new" ps (sN (yp T e))):Mn P w K mg base k T.hold "check_new" ps (EN T):=D.imp λvs H Q E h=>by
 obtain⟨⟨n,ρ,A,st,x,rfl,h,h1,h2,q⟩⟩:=h;have hn:newR st x=none:=by unfold newR;rw[ay h1,av h2]
 refine⟨n,ρ,A,st,x,Z,h,fY (kU h1) (by decide),λi hi=>?_,λ_=>q⟩;rw[hn]at hi;cases hi
theorem acD(D:Dn P w K mg base k "check_amount" ps (sN (Br e))):Dn P w K mg base k "check_amount" ps aeC:=D.imp λvs H Q E h=>by obtain⟨⟨a,rfl,h1,q⟩⟩:=h;exact⟨a,Z,λz=>absurd z (by omega),λ_=>q⟩
theorem acE(D:Dn P w K mg base k "check_loss" ps (sN (Mj e))):Dn P w K mg base k "check_loss" ps Yb:=D.imp λvs H Q E h=>by obtain⟨⟨m,a,rfl,h1,h2,q⟩⟩:=h;exact⟨m,a,Z,λz=>absurd z (by omega),λ_ z=>absurd z (by omega),λ_ _=>q⟩
end
def cT{K:Fg}{σ:St}{H:Hp}{j:Nat}{z:Addr}{xs:Da V}{w x:Str}{Q:Bool->Hp->Prop}(hz:dU K H z xs)(e:xs[0]?=some (.str w))(hx:w≠x)(hj:σ[j]?=some (some (.ref z)))(q:Q false H):Ei (CJ rEq (CJ (Lh K) (De j) (tC (.int 0))) (tC (.str x))) σ H Q:=by have f:decide (V.str w=V.str x)=false:=c9 λz=>hx (V.str.inj z);refine⟨_,hj,z,_,_,_,Z,Z,hz,aC (j:=0) e,Z,_,Z,?_⟩;rw[f];exact q
def sr{K:Fg}{σ:St}{H:Hp}{j:Nat}{z:Addr}{xs:Da V}{x:Str}{Q:Bool->Hp->Prop}(hz:dU K H z xs)(e:xs[0]?=some (.str x))(hj:σ[j]?=some (some (.ref z)))(q:Q true H):Ei (CJ rEq (CJ (Lh K) (De j) (tC (.int 0))) (tC (.str x))) σ H Q:=by have f:decide (V.str x=V.str x)=true:=bR rfl;refine⟨_,hj,z,_,_,_,Z,Z,hz,aC (j:=0) e,Z,_,Z,?_⟩;rw[f];exact q
structure WrP(n:Nat)(ρ:eF)(B:BA)(H:Hp)(b:BS)(i:Nat)(q:Addr×Addr)(z:Addr)(v:Da V)(p:BP)(H':Hp):Prop where
 hb:aU n ρ { B with qs:=B.qs.set i q } H' { b with ah:=b.ah.set i p }
 g:Gh ρ H'
 f:Fr n ρ H ρ H'
 r1:H' q.1=some (jn p q.2)
 r2:H' q.2=some (.lst (p.tops.map V.int))
 hz:H' z=some (.tup v)
 nn:∀c,H' c=none->H c=none
 nd:((b.ah.set i p).map λp:BP=>p.nm).Nodup
 ep:(b.ah.set i p)[i]?=some p
 eq:(B.qs.set i q)[i]?=some q
def UY{ps:Da BP}{i:Nat}{p0 p:BP}(h:ps[i]?=some p0)(e:p.nm=p0.nm)(nd:(ps.map λp:BP=>p.nm).Nodup):((ps.set i p).map λp:BP=>p.nm).Nodup:=by rw[kL,e,Mv (f:=λp:BP=>p.nm) h];exact nd
def aU.UZ{n:Nat}{ρ:eF}{B:BA}{H:Hp}{b:BS}{i:Nat}{q:Addr×Addr}{z:Addr}{v:Da V}{p0:BP}(hb:aU n ρ B H b)(G:Gh ρ H)(k2:b.ah[i]?=some p0)(lU:B.qs[i]?=some q)(nd:(b.ah.map λp:BP=>p.nm).Nodup)(hz:H z=some (.tup v))(p:BP)(en:p.nm=p0.nm)(et:p.tops=p0.tops):WrP n ρ B H b i q z v p (upd H q.1 (jn p q.2)):=by
 obtain⟨r1,r2,c1,c2⟩:=hb.pt i p0 q k2 lU;have ne:q.2≠q.1:=λe=>by rw[e,c1]at c2;cases c2
 refine⟨hb.lT G k2 lU en nd (by rw[et];exact r2) (by rw[en];exact c2),G.wr rfl,Fr.write c1,aq,?_,?_,λc=>lK,UY k2 en nd,kC (dM.mp k2).1,kC (dM.mp lU).1⟩
 .rw [az ne,et];exact r2
 .rw [az (λe=>by rw[e,r1]at hz;cases hz)];exact hz
structure WrT(n:Nat)(ρ:eF)(B:BA)(H:Hp)(b:BS)(i:Nat)(q:Addr×Addr)(z:Addr)(v:Da V)(p:BP)(H':Hp):Prop where
 hb:aU n ρ B H' { b with ah:=b.ah.set i p }
 g:Gh ρ H'
 f:Fr n ρ H ρ H'
 r1:H' q.1=some (jn p q.2)
 r2:H' q.2=some (.lst (p.tops.map V.int))
 hz:H' z=some (.tup v)
 nd:((b.ah.set i p).map λp:BP=>p.nm).Nodup
 ep:(b.ah.set i p)[i]?=some p
def aU.wrT{n:Nat}{ρ:eF}{B:BA}{H:Hp}{b:BS}{i:Nat}{q:Addr×Addr}{z:Addr}{v:Da V}{p0:BP}(hb:aU n ρ B H b)(G:Gh ρ H)(k2:b.ah[i]?=some p0)(lU:B.qs[i]?=some q)(nd:(b.ah.map λp:BP=>p.nm).Nodup)(hz:H z=some (.tup v))(l:Da Int):WrT n ρ B H b i q z v { p0 with tops:=l } (upd H q.2 (.lst (l.map V.int))):=by obtain⟨r1,r2,c1,c2⟩:=hb.pt i p0 q k2 lU;have s:=hb.MA G l k2 lU nd;have ep:=kC (a:={ p0 with tops:=l }) (dM.mp k2).1;obtain⟨a1,a2,_,_⟩:=s.pt i _ q ep lU;exact⟨s,G.wr rfl,Fr.write c2,a1,a2,by rw[az (λe=>by rw[e,r2]at hz;cases hz)];exact hz,UY k2 rfl nd,ep⟩
def KL{b:BS}{i:Nat}{q:BP}{x:Str}{F:BP->BP}(k2:b.ah[i]?=some q)(k4:q.nm=x)(nd:(b.ah.map λp:BP=>p.nm).Nodup):rm b x F={ ({ b with ah:=b.ah.set i (F q) }:BS)with ah:=(b.ah.set i (F q)).filter λp=>decide (0<p.wo) }:=by unfold rm;rw[<-k4,vv (nm:=λp:BP=>p.nm) (f:=F) nd k2]
theorem U0{c:Nat}{st:HS}{b:BS}(g:dj c st b)(x:Str):(rm b x λp=>{ p with wo:=0 }).ah=b.ah.filter λp=>decide (p.nm≠x):=by
 unfold rm;show List.filter _ (b.ah.map _)=_;have w:=g.fh.w1;generalize b.ah=ps at w
 induction ps with
 | nil=>rfl
 | cons p ps ih=>
  have w1:=w p cM;have ih:=ih λq hq=>w q (cQ _ hq);rw[bK,fX,fX,ih];by_cases e:p.nm=x
  .rw [ay e];simp[e]
  .rw [av e];simp[e];omega
theorem Z4{c:Nat}{st:HS}{b:BS}{x:Str}(g:dj c st b)(wf:Wf st)(hc:c<=90)(h:qX st x=none):dj (c+1) (qY st x) (x9 b x):=by
 obtain⟨i,p0,q0,e1,e2,k1,k2,k3,k4,k5,k6⟩:=pY g.rel wf (qy h);have hp:=bg e1;have hq:=bg e2;have z0:Jm.Sz 60 p0.wo:=by
  have:=(g.whole (by omega)).2;have w0:=(wf.jS p0 hp).1;have le:p0.wo<=bL b:=by rw[<-g.rel.whole];unfold aI;exact(yS λx hx=>by obtain⟨q,hq,rfl⟩:=aW.mp hx;have:=(wf.jS q hq).1;omega).2 _ (aW.mpr ⟨p0,hp,Z⟩)
  exact this.of_le (by omega)
 have eb:pW b x=q0:=by unfold pW;rw[<-k2,qx g.fh.nd e2];rfl
 have eB:x9 b x={ b with ah:=b.ah.filter (λp=>decide (p.nm≠x)),bB:=b.bB++[⟨x,q0.ow,q0.wo,q0.tops,b.bot⟩] }:=by unfold x9;rw[eb,<-U0 g x];rfl
 have eS:=sY wf hp;rw[k1]at eS;rw[eB,eS];have g1:dj (c+1) { st with ah:=st.ah.filter λq=>decide (q.nm≠x) } { b with ah:=b.ah.filter λp=>decide (p.nm≠x) }:=by refine KJ g ?_ (λp hp=>⟨p,(iG.mp hp).1,Z,Z,Z⟩) (λq hq=>⟨q,(iG.mp hq).1,Z,Z,Z,g.fh.w1 q (iG.mp hq).1,by omega,eO _⟩) ((KW).map _);have e:=ig (List.filter λq:Q4=>decide (q.1≠x)) (v_ g);rw[List.filter_map,List.filter_map]at e;exact e
 have hs:=R3 g.pU g.rel wf g.fh hp hq (k1.trans k2.symm);have nm0:=g.nm q0 hq;rw[k2]at nm0;refine⟨⟨g1.fh.nd,g1.fh.tl,g1.fh.t0,g1.fh.b1,g1.fh.bz,g1.fh.w1,g1.fh.ol,g1.fh.pl,g1.fh.kl⟩,⟨g1.rel.own,g1.rel.qd⟩,g1.pU,λu hu=>?_,g1.stp,g1.prod,g1.bot,g1.wo,g1.we,g1.pl,g1.kl,g1.own,g1.nm,?_,g1.d9,g1.nk,g1.on,g1.sum⟩
 .exact (GX wf hp (m:=60*c+1) z0 g.prod (λu hu=>(g.bJ u hu).mono (by omega)) u hu).mono (by omega)
 .exact g.bB.snoc rfl k3.symm k4.symm (by rw[<-hs]) (by show q0.tops.length<=b.own.length;rw[g.fh.tl q0 hq];exact aL _) (by have:=g.fh.b1;show 0<b.bot;omega) (g.fh.bz.mono (by omega)) nm0.1 nm0.2
def Ac(b:BS)(o:Str):BS:={ b with own:=b.own++[o],ah:=b.ah.map λp=>{ p with tops:=p.tops++[0] } }
theorem Ad(l:Da Int)(j:Nat):(l++[0]).getD j 0=l.getD j 0:=by
 rw[dD,dD];rcases Nat.lt_or_ge j l.length with c|c
 .rw [C8 c]
 .rw [CH c,m7 (l:=l) c];rcases Nat.eq_zero_or_pos (j-l.length)with z|z
  .rw [z];rfl
  .rw [m7 (by simp;omega)]
theorem Z5{c:Nat}{st:HS}{b:BS}{o:Str}(g:dj c st b)(wf:Wf st)(h:isNm o=true)(hl:b.own.length<100):dj (c+1) (fu st o) (Ac b o):=by
 have gm:=g.mono;have wb:=g.fh;have S:∀{M:Pt->Prop},(∀p∈st.ah,M { p with row:=p.row++[0] })->∀p∈(fu st o).ah,M p:=λh p hp=>by obtain⟨p0,h0,rfl⟩:=aW.mp (show p∈st.ah.map _ from hp);exact h p0 h0
 have B:∀{M:BP->Prop},(∀p∈b.ah,M { p with tops:=p.tops++[0] })->∀p∈(Ac b o).ah,M p:=λh p hp=>by obtain⟨p0,h0,rfl⟩:=aW.mp (show p∈b.ah.map _ from hp);exact h p0 h0
 have ln:(Ac b o).ah.length=b.ah.length:=aE ..;refine⟨⟨?_,B λp hp=>?_,B λp hp t ht=>?_,wb.b1,wb.bz,B wb.w1,?_,by rw[ln];exact wb.pl,wb.kl⟩,⟨?_,?_⟩,?_,λu hu=>?_,gm.stp,gm.prod,gm.bot,B gm.wo,B gm.we,by rw[ln];exact gm.pl,gm.kl,?_,B gm.nm,g.bB.sign o,gm.d9,gm.nk,λx hx=>?_,B λp hp=>?_⟩
 .show ((b.ah.map _).map _).Nodup;rw[dJ];exact wb.nd
 .show (p.tops++[0]).length=(b.own++[o]).length;rw[cW,cW,wb.tl p hp];rfl
 .rcases c7.mp (show t∈p.tops++[0]from ht)with z|z
  .exact wb.t0 p hp t z
  .rw [dF.mp z];have:=wb.b1;show(0:Int)<=0/\0<=b.bot;omega
 .show (b.own++[o]).length<=100;rw[cW];exact hl
 .show st.own++[o]=b.own++[o]
  rw[g.rel.own]
 .have:=g.rel.qd;unfold h_ lI at this ⊢;show(st.ah.map _).map _=(b.ah.map _).map _;rw[dJ,dJ];exact this
 .intro p hp q hq e j;obtain⟨p0,h0,rfl⟩:=aW.mp (show p∈st.ah.map _ from hp);obtain⟨q0,k0,rfl⟩:=aW.mp (show q∈b.ah.map _ from hq);show(q0.tops++[0]).getD j 0*st.prod=(List.zipWith (λr c=>p0.sc*r+c) (p0.row++[0]) (st.bX++[0])).getD j 0*b.bot;rw[A0 _ (by rw[wf.rows p0 h0,wf.gf]),show p0.sc*0+0=0 by omega,Ad,Ad];exact g.pU p0 h0 q0 k0 e j
 .rcases c7.mp (show u∈st.bJ++[0]from hu)with z|z
  .exact gm.bJ u z
  .rw [dF.mp z];exact(show Jm.Sz 1 (0:Int)from gX (by decide +kernel)).mono (by omega)
 .show 0<(b.own++[o]).length;rw[cW];exact lz g.own (qC _ _)
 .rcases c7.mp (show x∈b.own++[o]from hx)with z|z
  .exact g.on x z
  .rw [dF.mp z];exact h
 .show (p.tops++[0]).sum=b.bot;rw[zu,g.sum p hp];simp
theorem KN{c c':Nat}{st:HS}{b:BS}{d:Dd}(g:dj c st b)(gg:Go c' st)(wf:Wf st)(hc:c<=90)(hc':c'<=90)(hr:pV st d=none)(hb:CY d)(hk:d.k≠0)(h3:b.ah.length<50)(h4:b.d9.length<900):dj (c+1) (jQ st d) (tW b d):=by
 have eo:=g.rel.own;cases d with
 | sign o=>exact absurd rfl hk
 | load x o wo we=>
  obtain⟨l1,l2,l3,l4,l5⟩:=uo hr;refine(ZI g wf (λm=>l2 ?_) l4 hb.2.2.1.2 h3 h4 l1 (by rw[<-eo];exact l3) hb.2.2.2.2).mono;obtain⟨q,hq,e⟩:=aW.mp m;obtain⟨j,hj,ej⟩:=m8 hq;obtain⟨p,hp,k1,_⟩:=g.rel.at (i:=j) (q:=q) (by rw[bf hj,ej])
  have e:q.nm=x:=e;rw[<-e,<-k1];exact wf.sub p (bg hp)
 | cast rs=>
  have ok:=gg.yT wf (by omega) hr;obtain⟨_,nd,wk,hl⟩:=Bw hr;have rb:qW b rs:=⟨nd,λr hr=>by obtain⟨m,r1,r2⟩:=pZ (wk r hr);obtain⟨i,p0,q0,e1,e2,k1,k2,k3,k4,k5,k6⟩:=pY g.rel wf m;exact⟨r1,i,q0,e2,k2,by rw[k4,<-k6];exact r2⟩⟩
  exact ZG g wf ok rb (GN g.fh rb (by rw[<-g.rel.whole];exact hl) g.own (g.whole (by omega)).2) hc
 | award o a=>obtain⟨ho,h1,h2⟩:=rA hr;exact WX g wf (gg.aw wf (by omega)) hc ho h1 h2
 | mishap x a=>exact UK g wf hr
 | rise x a=>exact ZN g wf (Bs hr).2 hb.2.2
 | hand x o=>exact ZW g wf hr (acr g wf)
 | land x=>exact Z4 g wf hc hr
 | sever x y a we=>exact WZ g wf hc hr hb.2.2.1.2 hb.2.2.2.2 (by rw[show st.ah.length=b.ah.length from g.rel.len];omega)
 | still=>exact g.mono
def pT.snoc{n:Nat}{ρ:eF}{H:Hp}{vs:Da V}{l:Da BE}(h:pT n ρ H vs l){r t:Addr}{e:BE}(a:H r=some (.lst [.str e.nm,.str e.ow,.int e.wo,.ref t,.int e.bot]))(b:ρ r=some (n,27,e.nm))(c:H t=some (.lst (e.tops.map V.int)))(d:ρ t=some (n,28,e.nm)):pT n ρ H (vs++[.ref r]) (l++[e]):=by
 induction h with
 | nil=>exact .cons a b c d .nil
 | cons a1 a2 a3 a4 _ ih=>exact .cons a1 a2 a3 a4 ih
theorem pT.length{n:Nat}{ρ:eF}{H:Hp}{vs:Da V}{l:Da BE}(h:pT n ρ H vs l):vs.length=l.length:=by
 induction h with
 | nil=>rfl
 | cons _ _ _ _ _ ih=>simp[ih]
def pT.get{n:Nat}{ρ:eF}{H:Hp}{vs:Da V}{l:Da BE}(h:pT n ρ H vs l):∀{i:Nat}{v:V},vs[i]?=some v->∃r t e,v =.ref r/\l[i]?=some e/\H r=some (.lst [.str e.nm,.str e.ow,.int e.wo,.ref t,.int e.bot])/\H t=some (.lst (e.tops.map V.int)):=by
 induction h with
 | nil=>intro i v e;simp at e
 | @cons r t e vs es a1 a2 a3 a4 _ ih=>
  intro i v h;cases i with
  | zero=>simp at h;subst h;exact⟨r,t,e,Z,Z,a1,a3⟩
  | succ i=>simp at h;obtain⟨r',t',e',f1,f2,f3⟩:=ih h;exact⟨r',t',e',f1,by simpa using f2,f3⟩
def aU.Z6{n:Nat}{ρ:eF}{B:BA}{H:Hp}{b:BS}{vs:Da V}(h:aU n ρ B H b)(g:Gh ρ H)(h1:H B.la=some (.lst vs))(h2:pT n ρ H vs b.bB){r t:Addr}{e:BE}(a:H r=some (.lst [.str e.nm,.str e.ow,.int e.wo,.ref t,.int e.bot]))(b':ρ r=some (n,27,e.nm))(c:H t=some (.lst (e.tops.map V.int)))(d:ρ t=some (n,28,e.nm)):aU n ρ B (upd H B.la (.lst (vs++[.ref r]))) { b with bB:=b.bB++[e] }:=by
 have k:=d_ (o:=.lst (vs++[.ref r])) g h.ca;exact⟨kz k h.cm h.om,h.cm,kz k h.co h.oo,h.co,kz k h.cp h.op,h.cp,⟨_,aq,(h2.snoc a b' c d).keep k (by decide) (by decide)⟩,h.ca,kz k h.ck h.ok,h.ck,h.ql,
  λi p q e1 e2=>let⟨a,b,c,d⟩:=h.pt i p q e1 e2;⟨kz k c a,kz k d b,c,d⟩⟩
theorem aU.q{K:Fg}{n:Nat}{ρ:eF}{B:BA}{H:Hp}{b:BS}{c:Nat}{st:HS}(h:aU n ρ B H b)(g:dj c st b):QAt K H B.m st:=by
 refine⟨_,B.lo,B.lp,B.lk,_,h.om,Z,Z,Z,by rw[g.rel.own];exact aB.of h.oo,aB.of h.op,⟨?_,λi p e=>?_⟩,by rw[g.d9];exact aB.of h.ok⟩
 .rw [aE,h.ql];exact g.rel.len.symm
 .obtain ⟨q,eq,e1,e2,e3,e4⟩:=g.rel.at' e;obtain⟨qq,lU,r1,_,_,_⟩:=h.find eq;exact⟨qq.1,_,by rw[bV,lU];rfl,.inl (aB.of r1),by rw[e1];rfl,by rw[e2];rfl,by rw[e3];rfl,by rw[e4];rfl⟩
def acG:Dd->Prop
 | .mishap .. =>True
 | .rise .. =>True
 | .hand .. =>True
 | .land _=>True
 | .sever .. =>True
 | _=>False
structure AlO(st:HS)(d:Dd):Prop where
 one:acG d
 pl:st.ah.length<50
 kl:st.nms.length<900
 al:st.bB.length<900
theorem oG.length{own:Da Str}{as:Da lq}{es:Da BE}(h:oG own as es):as.length=es.length:=by
 induction h with
 | nil=>rfl
 | cons _ _ _ _ _ _ _ _ _ _ ih=>simp[ih]
structure AlL(st:HS)(d:Dd):Prop where
 nk:d.k≠0
 go:∃c',Go c' st/\c'<=90
 pl:st.ah.length<50
 kl:st.nms.length<900
 al:st.bB.length<900
theorem Xe{c:Nat}{st:HS}{b:BS}{rs:Da Row}(g:dj c st b)(wf:Wf st)(hc:c<=90)(hr:x8 st rs=none):qW b rs/\kQ b (dg b rs) 0 0:=by
 obtain⟨_,nd,wk,hl⟩:=Bw hr;have rb:qW b rs:=⟨nd,λr hr=>by obtain⟨m,r1,r2⟩:=pZ (wk r hr);obtain⟨i,p0,q0,e1,e2,k1,k2,k3,k4,k5,k6⟩:=pY g.rel wf m;exact⟨r1,i,q0,e2,k2,by rw[k4,<-k6];exact r2⟩⟩
 exact⟨rb,GN g.fh rb (by rw[<-g.rel.whole];exact hl) g.own (g.whole (by omega)).2⟩
def oG.get{own:Da Str}{as:Da lq}{es:Da BE}(h:oG own as es):∀{i:Nat}{a:lq}{e:BE},as[i]?=some a->es[i]?=some e->a.nm=e.nm/\a.ow=e.ow/\a.wo=e.wo/\a.sh=nh own e.tops e.bot/\e.tops.length<=own.length/\0<e.bot/\Jm.Sz 9000 e.bot/\PyData.strOk e.nm=true/\PyData.strOk e.ow=true:=by
 induction h with
 | nil=>intro i a e h1;simp at h1
 | cons a1 a2 a3 a4 a5 a6 a7 a8 a9 _ ih=>
  intro i a e h1 h2;cases i with
  | zero=>simp at h1 h2;subst h1;subst h2;exact⟨a1,a2,a3,a4,a5,a6,a7,a8,a9⟩
  | succ i=>simp at h1 h2;exact ih h1 h2
def aU.set_own{n:Nat}{ρ:eF}{B:BA}{H:Hp}{b:BS}(h:aU n ρ B H b)(g:Gh ρ H)(l:Da Str):aU n ρ B (upd H B.lo (.lst (l.map V.str))) { b with own:=l }:=by
 have k:=d_ (o:=.lst (l.map V.str)) g h.co;obtain⟨vs,h1,h2⟩:=h.oa;exact⟨kz k h.cm h.om,h.cm,aq,h.co,kz k h.cp h.op,h.cp,⟨vs,kz k h.ca h1,h2.keep k (by decide) (by decide)⟩,h.ca,kz k h.ck h.ok,h.ck,h.ql,
  λi p q e1 e2=>let⟨a,b,c,d⟩:=h.pt i p q e1 e2;⟨kz k c a,kz k d b,c,d⟩⟩
def Ja(i:Nat)(ps:Da BP):Da BP:=(ps.take i).map (λp:BP=>{ p with tops:=p.tops++[0] })++ps.drop i
theorem U1:∀{ps:Da BP}{i:Nat}{p:BP},ps[i]?=some p->(Ja i ps)[i]?=some p
 | [],i,p,h=>by simp at h
 | q::ps,0,p,h=>h
 | q::ps,i+1,p,h=>U1 (ps:=ps) (i:=i) (by simpa using h)
theorem QO:∀{ps:Da BP}{i:Nat}{p:BP},ps[i]?=some p->(Ja i ps).set i { p with tops:=p.tops++[0] }=Ja (i+1) ps
 | [],i,p,h=>by simp at h
 | q::ps,0,p,h=>by simp at h;subst h;rfl
 | q::ps,i+1,p,h=>ig _ (QO (ps:=ps) (i:=i) (by simpa using h))
theorem U3:∀(ps:Da BP)(i:Nat),(Ja i ps).map (λp:BP=>p.nm)=ps.map λp:BP=>p.nm
 | [],i=>by cases i <;> rfl
 | q::ps,0=>rfl
 | q::ps,i+1=>ig (List.cons q.nm) (U3 ps i)
def Z7(ps:Da BP):Ja ps.length ps=ps.map λp:BP=>{ p with tops:=p.tops++[0] }:=by unfold Ja;rw[cL,D4,qF]
def Z8{c m:Nat}{st:HS}(g:GW c m st){o:Str}(h:isNm o=true)(ho:o∉st.own)(hl:st.own.length<100):GW (c+1) m (fu st o):=⟨QK g.g g.wf h,Ck g.wf ho hl,g.kn⟩
def pD(o:Str)(j:Nat)(e:BE):Int:=e.wo*e.tops.getD j 0-(if e.ow=o then e.wo*e.bot else 0)
def l7(o:Str)(j:Nat)(t:Int×Int)(e:BE):Int×Int:=(t.1*e.bot+pD o j e*t.2,t.2*e.bot)
def fQ(es:Da BE)(o:Str)(j:Nat):Int×Int:=es.foldl (l7 o j) (0,1)
def Jb(es:Da BE)(e:BE)(o:Str)(j:Nat):fQ (es++[e]) o j=l7 o j (fQ es o j) e:=by unfold fQ;rw[Gu];rfl
structure E9(c:Nat)(st:HS)(b:BS):Prop where
 rel:∀o∈st.own,st.bJ.getD (st.own.idxOf o) 0*(fQ b.bB o (st.own.idxOf o)).2=(fQ b.bB o (st.own.idxOf o)).1*st.prod
 bz:∀e∈b.bB,Jm.Sz (60*c+1) e.bot/\0<e.bot
 tz:∀e∈b.bB,(∀t∈e.tops,0<=t/\t<=e.bot)/\0<=e.wo/\Jm.Sz 60 e.wo
 al:b.bB.length<=c
 oo:∀e∈b.bB,e.ow∈st.own
 mo:Mo c st
theorem aeZ{c:Nat}{st:HS}(g:Go c st)(wf:Wf st)(hc:c<=90){d:Dd}(hr:pV st d=none)(h0:d.k≠0)(h7:d.k≠7):∃f:Int,(jQ st d).bJ=st.bJ.map (·*f)/\(jQ st d).prod=st.prod*f/\(jQ st d).own=st.own:=by
 have one:∀{l:Da Int},l=l.map (·*(1:Int)):=λ{l}=>by have:(λx:Int=>x*1)=id:=funext o_;rw[this,List.map_id]
 cases d with
 | sign o=>exact absurd rfl h0
 | land x=>exact absurd rfl h7
 | cast rs=>
  have:=MF ((g.yT wf (by omega) hr).blend wf);obtain⟨f,hf⟩:∃f,f=aI st / cA st (aI st-bF rs) (aI st) (gD st rs):=⟨_,rfl⟩
  rw[<-hf]at this;refine⟨f,?_,?_,Mc _ _⟩
  .show (gQ st rs).bJ=_;unfold gQ;rw[j_];exact this.1
  .show (gQ st rs).prod=_;unfold gQ;rw[j_];exact this.2
 | award o a=>obtain⟨ho,h1,h2⟩:=rA hr;have:=MF ((g.aw wf (by omega)).blend (o:=o) wf h1 h2);exact⟨_,this.1,this.2,by show(bu _ _ _ _).own=_;unfold bu;rw[uh]⟩
 | hand x o=>
  show ∃f:Int,(iV st x o).bJ=st.bJ.map (·*f)/\(iV st x o).prod=st.prod*f/\(iV st x o).own=st.own;unfold iV;split
  .exact ⟨1,one,(o_ _).symm,Z⟩
  .exact ⟨1,one,(o_ _).symm,Z⟩
 | _=>exact⟨1,one,(o_ _).symm,Z⟩
def OA(l:Da Int)(f:Int)(j:Nat):(l.map (·*f)).getD j 0=l.getD j 0*f:=by
 rw[dD,dD,bV];cases l[j]? with
 | none=>show(0:Int)=0*f;rw[jW]
 | some x=>rfl
def acJ(b:BS){d:Dd}(h7:d.k≠7):(tW b d).bB=b.bB:=by
 cases d with
 | land x=>exact absurd rfl h7
 | _=>rfl
theorem ae0{c:Nat}{st:HS}{b:BS}{d:Dd}(p:E9 c st b)(gd:dj c st b)(g:Go c st)(wf:Wf st)(hc:c<=90)(hr:pV st d=none)(h0:d.k≠0):E9 (c+1) (jQ st d) (tW b d):=by
 have mo:=aeY p.mo g wf hr;by_cases h7:d.k=7
 .obtain ⟨x,rfl⟩:∃x,d =.land x:=by
   cases d with
   | land x=>exact⟨x,Z⟩
   | _=>exact absurd h7 (by first|(show ¬ (0:Nat)=7;decide)|(show ¬ (1:Nat)=7;decide)|(show ¬ (2:Nat)=7;decide)|(show ¬ (3:Nat)=7;decide)|(show ¬ (4:Nat)=7;decide)|(show ¬ (5:Nat)=7;decide)|(show ¬ (6:Nat)=7;decide)|(show ¬ (8:Nat)=7;decide)|(show ¬ (9:Nat)=7;decide))
  obtain⟨i,p0,q0,e1,e2,k1,k2,k3,k4,k5,k6⟩:=pY gd.rel wf (qy hr);have hp:=bg e1;have hq:=bg e2;have eb:pW b x=q0:=by unfold pW;rw[<-k2,qx gd.fh.nd e2];rfl
  have eA:(tW b (.land x)).bB=b.bB++[⟨x,q0.ow,q0.wo,q0.tops,b.bot⟩] :=by show(x9 b x).bB=_;unfold x9;rw[eb]
  have eS:=sY wf hp;rw[k1]at eS;have S:∀{M:BE->Prop},(∀e∈b.bB,M e)->M ⟨x,q0.ow,q0.wo,q0.tops,b.bot⟩->∀e∈(tW b (.land x)).bB,M e:=λh1 h2 e he=>by
   rw[eA]at he;rcases c7.mp he with z|z
   .exact h1 e z
   .rw [dF.mp z];exact h2
  have b1:=gd.fh.b1;have eo:(jQ st (.land x)).own=st.own:=by show(qY st x).own=_;rw[eS]
  refine⟨λo ho=>?_,S (λe he=>⟨(p.bz e he).1.mono (by omega),(p.bz e he).2⟩) ⟨gd.bot.mono (by omega),by show 0<b.bot;omega⟩,S p.tz ⟨gd.fh.t0 q0 hq,by have:=gd.fh.w1 q0 hq;show 0<=q0.wo;omega,by show Jm.Sz 60 q0.wo;rw[k4];exact g.sz wf (by omega) p0 hp⟩,by rw[eA,cW];have:=p.al;show _+1<=_;omega,S (λe he=>by rw[eo];exact p.oo e he) (by rw[eo];show q0.ow∈_;rw[k3];exact wf.ow p0 hp),mo⟩;rw[eo]at ho ⊢;have ep:(jQ st (.land x)).prod=st.prod:=by show(qY st x).prod=_;rw[eS]
  have eu:(jQ st (.land x)).bJ=mF st p0:=by show(qY st x).bJ=_;rw[eS]
  rw[eA,Jb,ep,eu];have R:=p.rel o ho;have T:=gd.pU p0 hp q0 hq (k1.trans k2.symm) (st.own.idxOf o);have hj:=mV ho;have pl:st.bJ.length=st.own.length:=wf.mC;have tl:(aP st p0).length=st.own.length:=As wf hp;have lg:(gF st p0).length=st.own.length:=by unfold gF;rw[kF,pl,tl];omega
  have gj:(gF st p0).getD (st.own.idxOf o) 0=st.bJ.getD (st.own.idxOf o) 0+p0.wo*(aP st p0).getD (st.own.idxOf o) 0:=by unfold gF;exact lJ (f:=λu t=>u+p0.wo*t) (by show(0:Int)+p0.wo*0=0;omega) (by rw[pl,tl]) _
  have pj:(mF st p0).getD (st.own.idxOf o) 0=st.bJ.getD (st.own.idxOf o) 0+p0.wo*(aP st p0).getD (st.own.idxOf o) 0-(if p0.ow=o then p0.wo*st.prod else 0):=by
   unfold mF;by_cases Jc:p0.ow=o
   .rw [Jc,ay rfl,dD,kC (by rw[lg];exact hj)];show(gF st p0).getD _ 0-_=_;rw[gj]
   .have ne:st.own.idxOf p0.ow≠st.own.idxOf o:=λe=>Jc (by
     have a:st.own[st.own.idxOf o]?=some o:=by rw[bf hj,List.getElem_idxOf]
     have b:st.own[st.own.idxOf p0.ow]?=some p0.ow:=by rw[bf (mV (wf.ow p0 hp)),List.getElem_idxOf]
     rw[e,a]at b;exact(gP b).symm)
    rw[av Jc,xJ,dD,yh ne,<-dD,gj]
  rw[pj];unfold l7 pD;show _*((fQ b.bB o (st.own.idxOf o)).2*b.bot)=((fQ b.bB o (st.own.idxOf o)).1*b.bot+(q0.wo*q0.tops.getD (st.own.idxOf o) 0-(if q0.ow=o then q0.wo*b.bot else 0))*(fQ b.bB o (st.own.idxOf o)).2)*st.prod;rw[k4,k3];generalize st.bJ.getD (st.own.idxOf o) 0=u at *;generalize (aP st p0).getD (st.own.idxOf o) 0=t at *;generalize q0.tops.getD (st.own.idxOf o) 0=s at *;generalize (fQ b.bB o (st.own.idxOf o)).2=B2 at *;generalize (fQ b.bB o (st.own.idxOf o)).1=B1 at *;generalize p0.wo=w at *;split
  .have a1:(u+w*t-w*st.prod)*(B2*b.bot)=(u*B2)*b.bot+w*B2*(t*b.bot)-w*st.prod*(B2*b.bot):=by grind
   rw[a1,R,<-T];grind
  .have a1:(u+w*t-0)*(B2*b.bot)=(u*B2)*b.bot+w*B2*(t*b.bot):=by grind
   rw[a1,R,<-T];grind
 .obtain ⟨f,f1,f2,f3⟩:=aeZ g wf hc hr h0 h7;have eA:=acJ b h7;refine⟨λo ho=>?_,λe he=>?_,λe he=>by rw[eA]at he;exact p.tz e he,by rw[eA];have:=p.al;omega,λe he=>by rw[eA]at he;rw[f3];exact p.oo e he,mo⟩
  .rw [f3]at ho ⊢;have R:=p.rel o ho;rw[eA,f1,f2,OA];generalize st.bJ.getD (st.own.idxOf o) 0=u at *;generalize fQ b.bB o (st.own.idxOf o)=B at *;have:u*f*B.2=(u*B.2)*f:=by grind
   rw[this,R];grind
  .rw [eA]at he;exact⟨(p.bz e he).1.mono (by omega),(p.bz e he).2⟩
theorem MG{es:Da BE}{o:Str}{j m:Nat}(h:∀e∈es,Jm.Sz m e.bot/\0<e.bot):Jm.Sz (es.length*m+1) (fQ es o j).2/\0<(fQ es o j).2:=by
 unfold fQ;have:∀(es:Da BE)(t:Int×Int)(k:Nat),(∀e∈es,Jm.Sz m e.bot/\0<e.bot)->Jm.Sz k t.2->0<t.2->Jm.Sz (k+es.length*m) (es.foldl (l7 o j) t).2/\0<(es.foldl (l7 o j) t).2:=λes=>by
  induction es with
  | nil=>intro t k _ h1 h2;exact⟨h1.mono (by omega),h2⟩
  | cons e es ih=>intro t k h h1 h2;obtain⟨z,p⟩:=h e cM;have:=ih (l7 o j t e) (k+m) (λx hx=>h x (cQ _ hx)) (h1.mul z) (xK h2 p);rw[jV,jf];exact⟨this.1.mono (by rw[Nat.add_mul];omega),this.2⟩
 have:=this es (0,1) 1 h (gX (by decide +kernel)) (by decide);exact⟨this.1.mono (by omega),this.2⟩
def uw(b:BS)(j:Nat):Int:=(b.ah.map λp:BP=>p.wo*p.tops.getD j 0).sum
def Cw(b:BS)(o:Str):Int:=((b.bB.filter λe:BE=>decide (e.ow=o)).map λe:BE=>e.wo).sum
theorem MH{α β:Type}{f:α->Int}{g:β->Int}{x y:Int}:∀(ps:Da α)(qs:Da β),ps.length=qs.length->(∀(i:Nat)(p:α)(q:β),ps[i]?=some p->qs[i]?=some q->f p*x=g q*y)->(ps.map f).sum*x=(qs.map g).sum*y
 | [],[],_,_=>by show(0:Int)*x=0*y;rw[jW,jW]
 | p::ps,q::qs,h,r=>by rw[bK,bK,b9,b9,nM,nM,r 0 p q rfl rfl,MH ps qs (by simpa using h) λi a b ha hb=>r (i+1) a b (by simpa using ha) (by simpa using hb)]
 | [],q::qs,h,_=>by simp at h
 | p::ps,[],h,_=>by simp at h
def Jd{c:Nat}{st:HS}{b:BS}(g:dj c st b)(wf:Wf st){j:Nat}(hj:j<st.own.length):lV st j*b.bot=uw b j*st.prod:=by rw[By wf hj];refine MH _ _ g.rel.len λi p q ep eq=>?_;obtain⟨p',sf,e1,e2,e3,e4⟩:=g.rel.at eq;rw[ep]at sf;cases sf;have:=g.pU p (bg ep) q (bg eq) e1 j;rw[e3,iR,iR,this]
def Xf{own:Da Str}{as:Da lq}{es:Da BE}(h:oG own as es)(o:Str):((as.filter λa=>decide (a.ow=o)).map λa=>a.wo).sum=((es.filter λe:BE=>decide (e.ow=o)).map λe:BE=>e.wo).sum:=by
 induction h with
 | nil=>rfl
 | cons a1 a2 a3 _ _ _ _ _ _ _ ih=>
  rw[fX,fX,a2];split
  .rw [bK,bK,b9,b9,ih,a3]
  .exact ih
theorem QS{e:BE}{o:Str}{j m:Nat}(h1:Jm.Sz m e.bot)(h0:0<e.bot)(h2:∀t∈e.tops,0<=t/\t<=e.bot)(h3:0<=e.wo/\Jm.Sz 60 e.wo):Jm.Sz m (e.tops.getD j 0)/\Jm.Sz (m+61) (pD o j e):=by
 have t:0<=e.tops.getD j 0/\e.tops.getD j 0<=e.bot:=by
  rw[dD];cases hj:e.tops[j]? with
  | none=>exact⟨eO 0,by show 0<=e.bot;omega⟩
  | some x=>exact h2 x (bg hj)
 have tz:Jm.Sz m (e.tops.getD j 0):=h1.of_le (by omega);refine⟨tz,?_⟩;unfold pD;split
 .rw [Int.sub_eq_add_neg];exact((h3.2.mul tz).add ((h3.2.mul h1).of_le (y:=e.wo*e.bot) (x:=-(e.wo*e.bot)) (by rw[Int.natAbs_neg];exact aL _))).mono (by omega)
 .rw [xJ];exact(h3.2.mul tz).mono (by omega)
theorem MI{es:Da BE}{o:Str}{j m:Nat}(h:∀e∈es,Jm.Sz m e.bot/\0<e.bot)(h2:∀e∈es,(∀t∈e.tops,0<=t/\t<=e.bot)/\0<=e.wo/\Jm.Sz 60 e.wo):Jm.Sz (1+es.length*(m+63)) (fQ es o j).1:=by
 unfold fQ;have:∀(es:Da BE)(t:Int×Int)(k:Nat),(∀e∈es,Jm.Sz m e.bot/\0<e.bot)->(∀e∈es,(∀t∈e.tops,0<=t/\t<=e.bot)/\0<=e.wo/\Jm.Sz 60 e.wo)->Jm.Sz k t.2->Jm.Sz k t.1->Jm.Sz (k+es.length*(m+63)) (es.foldl (l7 o j) t).1:=λes=>by
  induction es with
  | nil=>intro t k _ _ _ h1;exact h1.mono (by omega)
  | cons e es ih=>intro t k h h2 h3 h4;obtain⟨z,p⟩:=h e cM;obtain⟨y1,y2⟩:=h2 e cM;have gz:=(QS (o:=o) (j:=j) z p y1 y2).2;have:=ih (l7 o j t e) (k+(m+63)) (λx hx=>h x (cQ _ hx)) (λx hx=>h2 x (cQ _ hx)) ((h3.mul z).mono (by omega)) (((h4.mul z).mono (show _<=m+61+k by omega)).add (gz.mul h3) |>.mono (by omega));rw[jV,jf];exact this.mono (by rw[Nat.add_mul];omega)
 exact this es (0,1) 1 h h2 (gX (by decide +kernel)) (gX (by decide +kernel))
theorem acK{l:Da Int}{j:Nat}:lP ((l++[0]).map V.int) (if((l.length:Nat):Int)<(j:Int) then((l.length:Nat):Int) else(j:Int))=some (.int (l.getD j 0)):=by
 split
 .rename_i c;rw[dD,m7 (by omega)];refine aC (j:=l.length) ?_;rw[bV,CH (aL _),xG];rfl
 .rename_i c;refine aC (j:=j) ?_;rw[bV];rcases Nat.lt_or_ge j l.length with h|h
  .rw [C8 h,dD,bf h];rfl
  .have:j=l.length:=by omega
   subst this;rw[CH (aL _),xG,dD,m7 (aL _)];rfl
inductive Xg(K:Fg)(vs:Da V)(H:Hp)(Q:VK)(E:XK):Prop
 |mk(n c:Nat)(ρ:eF)(B:BA)(b:BS)(st:HS)(o:Str)(_:vs=[.ref B.m,.str o])(_:aU n ρ B H b)(_:dj c st b)(_:c<=90)(_:o∈b.own)(_:∀H',aK H H'->Q (.int (uw b (b.own.idxOf o))) H')
def Je(K:Fg):Sp:=bx (Xg K)
inductive Z9(K:Fg)(vs:Da V)(H:Hp)(Q:VK)(E:XK):Prop
 |mk(n:Nat)(ρ:eF)(B:BA)(b:BS)(o:Str)(_:vs=[.ref B.m,.str o])(_:aU n ρ B H b)(_:b.bB.length<=1000)(_:∀H',aK H H'->Q (.int (Cw b o)) H')
def MJ(K:Fg):Sp:=bx (Z9 K)
inductive Xh(K:Fg)(vs:Da V)(H:Hp)(Q:VK)(E:XK):Prop
 |mk(n m:Nat)(ρ:eF)(B:BA)(b:BS)(o:Str)(_:vs=[.ref B.m,.str o])(_:aU n ρ B H b)(_:o∈b.own)(_:b.own.length<=100)(_:b.bB.length<=100)(_:m<=10000)(_:∀e∈b.bB,Jm.Sz m e.bot/\0<e.bot)(_:∀e∈b.bB,(∀t∈e.tops,0<=t/\t<=e.bot)/\0<=e.wo/\Jm.Sz 60 e.wo)(_:∀e∈b.bB,e.tops.length<=b.own.length)(_:∀r H',aK H H'->H' r=some (.tup [.int (fQ b.bB o (b.own.idxOf o)).1,.int (fQ b.bB o (b.own.idxOf o)).2])->Q (.ref r) H')
def Jf(K:Fg):Sp:=bx (Xh K)
def pu0(own:Da Str):E9 0 (ki own) ⟨own,[],1,[],[]⟩:=by
 obtain⟨k1,k2,k3,k4,k5,k6⟩:=nX own hs0 rfl (λu hu=>absurd hu (by simp[hs0]));refine⟨λo ho=>?_,λe he=>absurd he (by simp),λe he=>absurd he (by simp),aL _,λe he=>absurd he (by simp),mo0⟩;show(ki own).bJ.getD _ 0*1=0*_;rw[jW,o_,dD];cases h:(ki own).bJ[(ki own).own.idxOf o]? with
 | none=>rfl
 | some u=>exact k6 u (bg h)
theorem U4{c:Nat}{st:HS}{b:BS}(g:dj c st b)(gg:Go c st)(wf:Wf st)(hc:c<=90){j:Nat}(hj:j<st.own.length):Jm.Sz (60*c+61) (uw b j):=by
 have S:=Jd g wf hj;have l:=Xb wf gg.sum hj;have p0:=I_ wf hj;have P:0<st.prod:=by have:=wf.fZ;omega
 have b1:=g.fh.b1;have w:=g.whole (c:=c) (by omega);rw[g.rel.whole]at l;have u:uw b j<=bL b*b.bot:=Int.le_of_mul_le_mul_right (by rw[<-S,show bL b*b.bot*st.prod=bL b*st.prod*b.bot by grind];exact PN l (by omega)) P
 have v:0<=uw b j:=by refine Int.le_of_mul_le_mul_right (a:=st.prod) ?_ P;rw[jW,<-S];exact kJ p0 (by omega)
 exact((w.2.mul g.bot).of_le (by omega)).mono (by omega)
inductive XY(c:Nat)(b:BS):Prop
 |mk(x y:Nat)(_:x+y<=c)(_:b.bB.length<=y)(_:Jm.Sz (60*x+1) b.bot)(_:∀e∈b.bB,Jm.Sz (60*x+1) e.bot)
structure mP(k c:Nat)(st:HS)(b:BS):Prop where
 pu:E9 k st b
 xy:XY c b
theorem XY.mono{c c':Nat}{b:BS}(h:XY c b)(e:c<=c'):XY c' b:=by obtain⟨x,y,h1,h2,h3,h4⟩:=h;exact⟨x,y,by omega,h2,h3,h4⟩
theorem mP.mono{k c c':Nat}{st:HS}{b:BS}(h:mP k c st b)(e:c<=c'):mP k c' st b:=⟨h.pu,h.xy.mono e⟩
def cst(d:Dd):Nat:=if d.k=1 then 0 else 1
theorem ae1{k c:Nat}{st:HS}{b:BS}{d:Dd}(p:XY c b)(gd:dj k st b)(hk:k<=90):XY (c+cst d) (tW b d):=by
 obtain⟨x,y,h1,h2,h3,h4⟩:=p;have w:=(gd.whole (c:=k) (by omega)).2;have up:∀e∈b.bB,Jm.Sz (60*(x+1)+1) e.bot:=λe he=>(h4 e he).mono (by omega);cases d with
 | sign o=>exact⟨x,y,by omega,h2,h3,h4⟩
 | load x' o wo we=>exact⟨x,y,by omega,h2,h3,h4⟩
 | cast rs=>exact⟨x+1,y,by show x+1+y<=c+1;omega,h2,(h3.mul w).mono (by omega),up⟩
 | award o a=>exact⟨x+1,y,by show x+1+y<=c+1;omega,h2,(h3.mul w).mono (by omega),up⟩
 | land z=>
  refine⟨x,y+1,by show x+(y+1)<=c+1;omega,?_,h3,λe he=>?_⟩
  .show (b.bB++[_]).length<=_;rw[cW];show b.bB.length+1<=y+1;omega
  .rcases c7.mp (show e∈b.bB++[_]from he)with z|z
   .exact h4 e z
   .rw [dF.mp z];exact h3
 | mishap z a=>exact⟨x,y,by omega,h2,h3,h4⟩
 | rise z a=>exact⟨x,y,by omega,h2,h3,h4⟩
 | hand z o=>exact⟨x,y,by omega,h2,h3,h4⟩
 | sever z z' a we=>exact⟨x,y,by omega,h2,h3,h4⟩
 | still=>exact⟨x,y,by omega,h2,h3,h4⟩
def E_{k c:Nat}{st:HS}{b:BS}{d:Dd}(p:mP k c st b)(gd:dj k st b)(g:Go k st)(wf:Wf st)(hc:k<=90)(hr:pV st d=none)(h0:d.k≠0):mP (k+1) (c+cst d) (jQ st d) (tW b d):=⟨ae0 p.pu gd g wf hc hr h0,ae1 p.xy gd hc⟩
theorem acL(d:Dd):cst d<=1:=by unfold cst;split <;> omega
def R9{o:Str}{j:Nat}:∀(es:Da BE),(∀e∈es,pD o j e=0)->(fQ es o j).1=0:=λes h=>by
 unfold fQ;have:∀(es:Da BE)(t:Int×Int),(∀e∈es,pD o j e=0)->t.1=0->(es.foldl (l7 o j) t).1=0:=λes=>by
  induction es with
  | nil=>intro t _ h;exact h
  | cons e es ih=>intro t h h0;rw[jV];refine ih _ (λx hx=>h x (cQ _ hx)) ?_;show t.1*e.bot+pD o j e*t.2=0;rw[h0,h e cM,jW,jW];rfl
 exact this es (0,1) h rfl
def Z_{own:Da Str}{o x:Str}(h:x∈own):(own++[o]).idxOf x=own.idxOf x:=by rw[List.idxOf_append,ay h]
theorem aaa{own:Da Str}{x:Str}(h:x∉own):(own++[x]).idxOf x=own.length:=by rw[List.idxOf_append,av h,List.idxOf_cons_self];omega
theorem aab{c:Nat}{st:HS}{b:BS}{o:Str}(p:E9 c st b)(g:dj c st b)(gg:Go c st)(wf:Wf st)(hn:isNm o=true)(ho:o∉st.own):E9 (c+1) (fu st o) (Ac b o):=by
 have tl:∀e∈b.bB,e.tops.length<=b.own.length:=λe he=>by obtain⟨i,hi,ei⟩:=m8 he;have l:=g.bB.length;exact(g.bB.get (bf (show i<st.bB.length by omega)) (by rw[bf hi,ei])).2.2.2.2.1
 refine⟨λx hx=>?_,λe he=>⟨(p.bz e he).1.mono (by omega),(p.bz e he).2⟩,p.tz,by have:=p.al;show b.bB.length<=c+1;omega,λe he=>ze _ (p.oo e he),?_⟩
 .show (st.bJ++[0]).getD ((st.own++[o]).idxOf x) 0*(fQ b.bB x ((st.own++[o]).idxOf x)).2=(fQ b.bB x ((st.own++[o]).idxOf x)).1*st.prod;rw[Ad];by_cases hx':x∈st.own
  .rw [Z_ hx'];exact p.rel x hx'
  .have ex:x=o:=by
    rcases c7.mp (show x∈st.own++[o]from hx)with z|z
    .exact absurd z hx'
    .exact dF.mp z
   subst ex;have ei:(st.own++[x]).idxOf x=st.own.length:=aaa ho;rw[ei,R9 b.bB λe he=>?_,jW,dD,m7 (by rw[wf.mC];exact aL _)]
   .show (0:Int)*_=0;rw[jW]
   .unfold pD;have ne:e.ow≠x:=λz=>ho (by rw[<-z];exact p.oo e he);rw[av ne,dD,m7 (by have:=tl e he;rw[<-g.rel.own]at this;exact this)];show e.wo*0-0=0;omega
 .refine ⟨?_,λa ha=>ze _ (p.mo.ao a ha),p.mo.mono.aw⟩;show(st.bJ++[0]).sum=0;rw[zu,p.mo.pz];rfl
def ahW(own:Da Str):mP 0 0 (ki own) ⟨own,[],1,[],[]⟩:=⟨pu0 own,⟨0,0,aL _,aL _,(by show Jm.Sz 1 1;exact gX (by decide +kernel)),λe he=>absurd he (by simp)⟩⟩
inductive Xi(T:TC)(K:Fg)(vs:Da V)(H:Hp)(Q:VK)(E:XK):Prop
 |mk(n m k c:Nat)(ρ:eF)(A:HA)(B:BA)(st:HS)(b:BS)(_:vs=[.ref A.a,.ref B.m])(_:HH T n ρ A H st)(_:aU m ρ B H b)(_:dj k st b)(_:mP k c st b)(_:Go k st)(_:k<=60)(_:c<=20)(_:∀H',aK H H'->Q (.bl true) H')
def Jg(T:TC)(K:Fg):Sp:=bx (Xi T K)
inductive ae2(T:TC)(K:Fg)(vs:Da V)(H:Hp)(Q:VK)(E:XK):Prop
 |mk(n m c e kn:Nat)(ρ:eF)(A:HA)(B:BA)(st:HS)(b:BS)(a ln:Addr)(ns:Da Int)(k:Int)(nms:Da Str)(BM:Nat)(_:vs=[.ref a,.int k,.ref A.a,.ref B.m,.ref ln,.int (BM:Int)])(_:n≠m)(_:HH T n ρ A H st)(_:aU m ρ B H b)(_:dj c st b)(_:GW c kn st)(_:mP c e st b)(_:c+BM<=90)(_:kn+100*BM<=900000)(_:st.own.length<100)(_:um K ρ H a (ns.map V.int))(_:ns.length<=63)(_:0<=k)(_:k<=100000)(_:um K ρ H ln (nms.map V.str))(_:Nx nms st)(_:nms.length<50)(_:∀ρ' A' B' st' b' H',HH T n ρ' A' H' st'->aU m ρ' B' H' b'->dj (c+BM) st' b'->GW (c+BM) (kn+100*BM) st'->mP (c+BM) (e+BM) st' b'->A'.a=A.a->B'.m=B.m->b'.own=b.own->Nx nms st'->aK (out ρ H) (out ρ' H')->Q .cy H')
def U5(T:TC)(K:Fg):Sp:=bx (ae2 T K)
theorem aac{x y:Nat}(h:x+y<=20):(y+1)*(60*x+1)<=7000:=by
 have d:∀x<21,(21-x)*(60*x+1)<=7000:=by decide
 exact fY (D7 (show y+1<=21-x by omega) (aL _)) (d x (by omega))
inductive aad(T:TC)(K:Fg)(vs:Da V)(H:Hp)(Q:VK)(E:XK):Prop
 |mk(n m:Nat)(ρ:eF)(A:HA)(B:BA)(st:HS)(b:BS)(a ln:Addr)(ns:Da Int)(k:Int)(nms:Da Str)(BM:Nat)(_:vs=[.ref a,.int k,.ref A.a,.ref B.m,.ref ln,.int (BM:Int)])(_:n≠m)(_:HH T n ρ A H st)(_:aU m ρ B H b)(_:dj 0 st b)(_:GW 0 0 st)(_:mP 0 0 st b)(_:st.own.length<100)(_:um K ρ H a (ns.map V.int))(_:ns.length<=63)(_:0<=k)(_:k<=1000000)(_:um K ρ H ln (nms.map V.str))(_:Nx nms st)(_:BM<=nms.length)(_:nms.length<50)(_:st.nms=[])(_:∀ρ' A' B' st' b' H',HH T n ρ' A' H' st'->aU m ρ' B' H' b'->dj BM st' b'->GW BM (100*BM) st'->mP BM 0 st' b'->A'.a=A.a->B'.m=B.m->b'.own=b.own->Nx nms st'->aK (out ρ H) (out ρ' H')->Q .cy H')
def MK(T:TC)(K:Fg):Sp:=bx (aad T K)
inductive acM(T:TC)(K:Fg)(vs:Da V)(H:Hp)(Q:VK)(E:XK):Prop
 |mk(n m:Nat)(ρ:eF)(A:HA)(B:BA)(st:HS)(b:BS)(a ln:Addr)(ns:Da Int)(nms:Da Str)(_:vs=[.ref a,.ref A.a,.ref B.m,.ref ln])(_:n≠m)(_:HH T n ρ A H st)(_:aU m ρ B H b)(_:dj 0 st b)(_:GW 0 0 st)(_:mP 0 0 st b)(_:st.own.length<100)(_:um K ρ H a (ns.map V.int))(_:ns.length<=63)(_:um K ρ H ln (nms.map V.str))(_:Nx nms st)(_:nms.length=6)(_:st.nms=[])(_:∀ρ' A' B' st' b' H',HH T n ρ' A' H' st'->aU m ρ' B' H' b'->dj 6 st' b'->GW 6 600 st'->mP 6 1 st' b'->A'.a=A.a->B'.m=B.m->b'.own=b.own->Nx nms st'->aK (out ρ H) (out ρ' H')->Q .cy H')
def QT(T:TC)(K:Fg):Sp:=bx (acM T K)
theorem E9.mono{c:Nat}{st:HS}{b:BS}(p:E9 c st b):E9 (c+1) st b:=⟨p.rel,λe he=>⟨(p.bz e he).1.mono (by omega),(p.bz e he).2⟩,p.tz,by have:=p.al;omega,p.oo,p.mo.mono⟩
def mP.up{k c:Nat}{st:HS}{b:BS}(p:mP k c st b)(n:Nat):mP (k+n) c st b:=by
 refine⟨?_,p.xy⟩
 induction n with
 | zero=>exact p.pu
 | succ n ih=>exact ih.mono
def dj.up{k:Nat}{st:HS}{b:BS}(p:dj k st b)(n:Nat):dj (k+n) st b:=by
 induction n with
 | zero=>exact p
 | succ n ih=>exact ih.mono
end L2
set_option autoImplicit false
namespace Law
open PySem L2
theorem iO(n:Nat)(h:n<=1000:=by decide):n<=sizeLine:=by rw[mH];omega
def top(i:Nat):Stmt:=PySem.Challenge.pw_jettison_k28_purses_and_fortunes.main.body.getD i (.Pass ⟨0,0,0,0⟩)
section
variable {P:Program}{w:World}{K:Fg}{mg:SO}{base:Heap}{f:Addr}{fd:FuncData}
abbrev p5:Stmt:=top 2
abbrev kj:Da Str:=["one","other"]
abbrev Fb:Da Str:=kj
def wm:aQ Fb kj (aD p5):=dm
theorem DC(F:At K mg "common_factor" p5 f fd):Dn P w K mg base 1 "common_factor" kj Wq:=by
 refine F.oA wm λ_ _ _ _ H _ Q E hr h=>?_;obtain⟨a,b,rfl,ha,hb,q⟩:=h;refine⟨_,(@cZ.h _ _ _ (aj (Dy fT (aR iT (qv 1) ai (aZ _)) (au (UH (i:=0) (j:=1) rfl wm.nd rfl rfl (by decide) rfl rfl (af (qv 1) (af (aG kM (qv 0) (qv 1)) ak)) (by rfl))))
  (au (bH (qv 0))))),?_⟩
 refine⟨λm σ H'=>∃x y:Int,m=y.toNat/\σ=[some (.int x),some (.int y)]/\H'=H/\0<=x/\0<=y/\Jm.cf x y=Jm.cf a b,⟨_,a,b,Z,Z,Z,ha,hb,Z⟩,?_⟩;rintro m σ H' ⟨x,y,rfl,rfl,rfl,hx,hy,e⟩;refine⟨_,Z,_,_,Z,Z,_,Z,?_⟩;refine c6 (λc=>?_) (λc=>?_)
 .have c':0<y:=dN c;refine⟨_,λ_ _ z=>z,?_⟩;refine⟨_,Z,_,Z,_,Z,_,_,Z,Z,c',_,_,Z,?_⟩;have h1:0<=x % y:=o9 _ (by omega);have h2:x % y<y:=zh _ c';exact⟨_,(by omega:(x % y).toNat<y.toNat),y,x % y,Z,Z,Z,hy,h1,(Jm.Gx x y c').trans e⟩
 .have c':¬ 0<y:=qB (pN.mpr c);have ey:y=0:=by omega
  subst ey;rw[Jm.Qf x hx]at e;refine⟨_,Z,?_⟩;rw[e];exact q
abbrev Ae:Stmt:=top 18
abbrev ya:Da Str:=["text","signs"]
abbrev U6:Da Str:=ya
def R_:aQ U6 ya (aD Ae):=dm
def Sa(F:At K mg "made_of" Ae f fd)(Sb:mg "all"=none):Dn P w K mg base 1 "made_of" ya Dk:=by
 refine F.oA R_ λ_ _ _ _ H _ Q E hr h=>?_;obtain⟨⟨cs,signs,rfl,hl,q⟩⟩:=h;refine⟨_,(@cZ.h _ _ _ (au (bH (aY (TR K rfl) (by rfl) Sb PyProof.Rows.boot_all (af (iE ["sign","signs"] [none,some 1] rfl (ach (qv 0)) (λ_ _ _ _=>(aV (i:=0) (show List.Nodup (["sign","signs"] :Da Str)from by decide +kernel))) (λ_ _ _ _=>(Cq SX (qv 0) (qv 1) (by with_unfolding_all rfl))) rfl (by rfl)) ak))))),?_⟩;refine⟨_,Z,cs,Z,λAp Bi=>?_⟩;refine Ww (λi out H1=>aK H H1/\out=((cs.take i).map (EB signs)).map V.bl) hl ⟨aH Bi _,Z⟩ ?_ ?_
 .rintro i c out H1 hx fD ha ⟨g,e⟩;refine⟨_,Z,_,Z,_,_,Z,Z,ha,g.cI Bi _,?_⟩;rw[e,List.take_add_one,hx,bN,bN];rfl
 rintro out H1 fD ha ⟨g,e⟩;rw[cL]at e;refine⟨Ap,cs.map (EB signs),Z,aB.of (by rw[ha,e]),?_⟩;have e2:(cs.map (EB signs)).all id=cs.all (EB signs):=by rw[List.all_map];rfl
 rw[e2];exact q H1 g
abbrev Af:Stmt:=top 17
abbrev ux:Da Str:=["text"]
abbrev U7:Da Str:=ux
def Sd:aQ U7 ux (aD Af):=dm
theorem Se{tk:Tok}(F:At K mg "is_name" Af f fd)(BB:Dn P w K mg base 1 "made_of" ya Dk)(bO:mg "len"=none)(BC:mg "LETTERS"=some (.str "abcdefghijklmnopqrstuvwxyz" tk)):Dn P w K mg base 2 "is_name" ux zM:=by
 refine F.oA Sd λ_ _ _ _ H _ Q E hr h=>?_;obtain⟨⟨cs,rfl,hl,q⟩⟩:=h;refine⟨_,(@cZ.h _ _ _ (au (bH (UI (WT XJ XJ ai (aY Lk (by rfl) bO d7 (af (qv 0) ak)) ai) (UE (bh BB hr (af (qv 0) (af (ZM (v:=.str "abcdefghijklmnopqrstuvwxyz") (by rfl) BC ⟨_,Z⟩) ak)))))))),?_⟩;have hz:(tx cs).length<=sizeLine:=by rw[AM,mH];omega
 refine⟨_,Z,_,Z,hz,_,_,Z,Z,_,Z,?_⟩;rw[AM];refine c6 (λc=>?_) (λc=>?_)
 .refine ⟨_,_,Z,Z,_,Z,c6 (λc2=>?_) (λc2=>?_)⟩
  .refine ⟨_,Z,RQ hl λH' g=>?_⟩;have:=q H' g;unfold isName at this;rw[c,c2,Bool.true_and,Bool.true_and]at this;exact this
  .have:=q H (aK.refl _);unfold isName at this;rw[c,pN.mpr c2,Bool.true_and,Bool.false_and]at this;exact this
 .have:=q H (aK.refl _);unfold isName at this;rw[pN.mpr c,Bool.false_and,Bool.false_and]at this;exact⟨_,Z,bq this⟩
abbrev rB:Stmt:=top 23
abbrev jv:Da Str:=["amount"]
abbrev GY:Da Str:=jv
def Fc:aQ GY jv (aD rB):=dm
theorem DE{e:Ec}(F:At K mg "check_amount" rB f fd):Dn P w K mg base 1 "check_amount" jv (sN (Br e)):=by refine F.oA Fc λ_ _ _ _ H _ Q E hr h=>?_;obtain⟨⟨a,rfl,h5,q⟩⟩:=h;refine⟨_,(@cZ.h _ _ _ (au (c5 (aR tR (qv 0) ai (aZ _)) (au gU) bM))),?_⟩;exact⟨_,Z,_,_,Z,Z,_,Z,c6 (λc=>h5 (dN c) 0 H (aK.refl _)) λc=>q (by have:=qB (pN.mpr c);omega)⟩
abbrev uP:Stmt:=top 24
abbrev nE:Da Str:=["most","amount"]
abbrev ML:Da Str:=nE
def Ju:aQ ML nE (aD uP):=dm
theorem GZ{e:Ec}(F:At K mg "check_loss" uP f fd)(jw:Dn P w K mg base 1 "check_amount" jv (sN (Br e))):Dn P w K mg base 2 "check_loss" nE (sN (Mj e)):=by
 refine F.oA Ju λ_ _ _ _ H _ Q E hr h=>?_;obtain⟨⟨m,a,rfl,h5,h6,q⟩⟩:=h;refine⟨_,(@cZ.h _ _ _ (aj (bQ (bh jw hr (af (qv 1) ak)))
  (au (c5 (aR iT (qv 1) (qv 0) (aZ _)) (au gU) bM)))),?_⟩
 exact⟨_,Z,⟨⟨a,Z,h5,λh1=>⟨_,Z,_,Z,_,_,Z,Z,_,Z,c6 (λc=>h6 h1 (dN c) 0 H (aK.refl _)) λc=>q h1 (by have:=qB (pN.mpr c);omega)⟩⟩⟩⟩
abbrev uQ:Stmt:=top 22
abbrev rC:Da Str:=["rows"]
abbrev MM:Da Str:=rC.append ["amounts","name","amount"]
def pF:aQ MM rC (aD uQ):=dm
theorem Jv(F:At K mg "amounts_of" uQ f fd)(bO:mg "len"=none):Dn P w K mg base 1 "amounts_of" rC (Uk K):=by
 refine F.oA pF λ_ _ _ _ H _ Q E hr h=>?_;obtain⟨⟨l,us,rs,rfl,hl,hR,nd,hne,hle,q⟩⟩:=h;refine⟨_,(@cZ.h _ _ _ (aj (aS (i:=1) pF.nd sX)
  (aj (fj fT rfl (dH K (qv 0)) (iX K (n:=2) rfl (cS (aV (i:=2) pF.nd) (cS (aV (i:=3) pF.nd) iW))) (aj (c5 (yO (Mi (bU hr) (qv 2) (qv 1))) (au gU) bM)
  (au (qw (bU hr) (qv 1) (qv 2) (qv 3) rfl))))
  (aj (c5 (aR dG (aY xO (by rfl) bO d7 (af (qv 1) ak)) ai (aZ _)) (au gU) bM)
  (au (bH (qv 1))))))),?_⟩
 intro d hd;have g0:=aH hd (.dK []);have hd0:upd H d (.dK []) d=some (.dK (iM (rs.take 0))):=aq;generalize upd H d (.dK [])=H0 at *;have U8:=hR.length;refine⟨_,Z,l,Z,⟨us,g0.seq hl⟩,?_⟩;refine kG (K:=K) (xs:=us) (λi σ H'=>aK H H'/\H' d=some (.dK (iM (rs.take i)))/\∃s2 s3,σ=[some (.ref l),some (.ref d),s2,s3]) ⟨g0,hd0,_,_,Z⟩ (λi σ H' _ hp=>hp.1.seq hl) ?_ ?_
 .rintro i x σ H' hx ⟨g,hd',s2,s3,rfl⟩;obtain⟨a,r,rfl,er,ha⟩:=hR.get hx;have hnot:r.1∉(rs.take i).map (·.1):=by rw[BW];exact kP nd (by rw[bV,er];rfl)
  have hlt:(iM (rs.take i)).length<sizeLine:=by rw[zV,uE];exact c8 (by omega)
  refine⟨a,_,Z,dU.of (g _ _ ha),Z,_,_,Z,_,_,Z,Z,?_⟩;refine⟨_,Z,_,Z,d,_,Z,cg.k (k:=Sum.inr r.1) hd',_,Z,?_⟩;rw[Iu hnot];refine bq ?_;refine⟨_,Z,_,Z,_,Z,d,_,Z,uJ.k (k:=Sum.inr r.1) hd' hlt,g.cI hd _,?_,_,_,Z⟩;rw[aq,pO _ (Iu hnot),take_snoc er];unfold iM;rw[bN];rfl
 rintro σ H' ⟨g,hd',s2,s3,rfl⟩;rw[U8,cL]at hd';refine⟨_,Z,d,_,Z,hd',Z,_,Z,?_⟩;rw[zV];have hpos:0<rs.length:=List.length_pos_iff.mpr hne;rw[c9 (λe=>by have:=V.int.inj e;omega)];exact bq ⟨_,Z,q d H' g hd hd'⟩
abbrev p7:Stmt:=top 5
abbrev mQ:Da Str:=["step","tops"]
abbrev Fd:Da Str:=mQ.append ["top"]
def p8:aQ Fd mQ (aD p7):=dm
theorem DF(F:At K mg "factor_of_all" p7 f fd)(iY:Dn P w K mg base 1 "common_factor" kj Wq):Dn P w K mg base 2 "factor_of_all" mQ (Ul K):=by
 refine F.oA p8 λ_ _ _ _ H _ Q E hr h=>?_;obtain⟨⟨s,l,ts,rfl,hl,h0,h1,q⟩⟩:=h;refine⟨_,(@cZ.h _ _ _ (aj (fj fT rfl (dH K (qv 1)) (aV (i:=2) p8.nd) (au (aS (i:=0) p8.nd (bh iY hr (af (qv 2) (af (qv 0) ak))))))
  (au (bH (qv 0))))),?_⟩
 refine⟨_,Z,l,Z,⟨_,hl⟩,?_⟩;refine kG (K:=K) (xs:=ts.map V.int) (λi σ H'=>H'=H/\0<=qU s (ts.take i)/\∃s2,σ=[some (.int (qU s (ts.take i))),some (.ref l),s2]) ⟨Z,h0,_,Z⟩ (λi σ H' _ hp=>by rw[hp.1];exact hl) ?_ ?_
 .rintro i x σ H' hx ⟨rfl,hf,s2,rfl⟩;obtain⟨t,rfl,et⟩:=gY hx;have e1:qU s (ts.take (i+1))=Jm.cf t (qU s (ts.take i)):=by unfold qU;rw[take_snoc et,Gu];rfl
  refine⟨_,Z,_,Z,t,_,Z,h1 t (bg et),hf,Z,?_,some (.int t),?_⟩
  .rw [e1];unfold Jm.cf;omega
  .rw [e1];rfl
 rintro σ H' ⟨rfl,hf,s2,rfl⟩;rw[aE,cL];exact⟨_,Z,q⟩
abbrev sZ:Stmt:=inClass (top 4) 0
abbrev uR:Da Str:=["self"]
abbrev Jw:Da Str:=uR
def G0:aQ Jw uR (aD sZ):=dm
def G1{T:TC}(F:Io K mg "Bottom" T.bot "Bottom.__init__" sZ f fd)(X:Txt K T):Cn P w K mg base 1 "Bottom" T.bot uR (Qm T):=by
 refine F.oA G0 λ_ _ _ _ H _ Q E hr h=>?_;obtain⟨⟨p,dx,rfl,hp,q⟩⟩:=h;refine⟨_,(@cZ.h _ _ _ (aj (eE K (qv 0) (iB ak))
  (aj (eE K (qv 0) ai)
  (au (eE K (qv 0) sX))))),?_⟩
 refine⟨(iO 0),λl hl=>?_⟩;have n1:p≠l:=aJ hp hl;refine⟨_,Z,p,T.bot,dx,_,Z,by rw[az n1];exact hp,X.cB,X.bst,by show 0<1000;decide,?_⟩;refine⟨_,Z,p,T.bot,dx,_,Z,aq,X.cB,X.LK,by show 1<1000;decide,?_⟩;intro d hd;have n2:d≠p:=λe=>by rw[e,aq]at hd;cases hd
 have n3:d≠l:=λe=>by rw[e,az (cJ n1),az (cJ n1),aq]at hd;cases hd
 have hd0:H d=none:=by rw[az n2,az n2,az n3]at hd;exact hd
 refine⟨_,Z,p,T.bot,dx,_,Z,by rw[az (cJ n2)];exact aq,X.cB,X.Ue,by show 2<1000;decide,?_⟩;refine q l d _ hl hd0 (cJ n3) (λb o e hb=>?_) aq ?_ ?_
 .rw [az hb,az (aJ e hd0),az hb,az hb,az (aJ e hl)];exact e
 .rw [az (cJ n1),az (cJ n3),az (cJ n1),az (cJ n1)];exact aq
 .rw [az n2];exact aq
abbrev wu:Stmt:=inClass (top 20) 0
abbrev yq:Da Str:=["self","name","owner","worth","weight","scale","row"]
abbrev OB:Da Str:=yq
def MN:aQ OB yq (aD wu):=dm
def MO{T:TC}(F:Io K mg "Part" T.part "Part.__init__" wu f fd)(X:Txt K T)(jb:mg "list"=none):Cn P w K mg base 1 "Part" T.part yq (GH T K):=by
 refine F.oA MN λ_ _ _ _ H _ Q E hr h=>?_;obtain⟨⟨p,dx,l,pt,rfl,hp,hl,q⟩⟩:=h;refine⟨_,(@cZ.h _ _ _ (aj (eE K (qv 0) (qv 1))
  (aj (eE K (qv 0) (qv 2))
  (aj (eE K (qv 0) (qv 3))
  (aj (eE K (qv 0) (qv 4))
  (aj (eE K (qv 0) (qv 5))
  (au (eE K (qv 0) (nC (lR K) (by rfl) jb Gj (af (qv 6) ak)))))))))),?_⟩
 refine⟨_,Z,_,Z,p,T.part,dx,_,Z,hp,X.cP,X.X6,by show 0<1000;decide,?_⟩;refine⟨_,Z,_,Z,p,T.part,dx,_,Z,aq,X.cP,X.pow,by show 1<1000;decide,?_⟩;refine⟨_,Z,_,Z,p,T.part,dx,_,Z,aq,X.cP,X.xR,by show 2<1000;decide,?_⟩;refine⟨_,Z,_,Z,p,T.part,dx,_,Z,aq,X.cP,X.X7,by show 3<1000;decide,?_⟩;refine⟨_,Z,_,Z,p,T.part,dx,_,Z,aq,X.cP,X.Ip,by show 4<1000;decide,?_⟩;simp only[qj];have hl1:∀o,aB K (upd H p o) l (pt.row.map V.int):=λo=>by
  rcases hl with(h|⟨ob,h⟩)|h
  .exact .inl (.inl (by rw[az (jP h hp (by intro z;cases z))];exact h))
  .exact .inl (.inr ⟨ob,by rw[az (jP h hp (by intro z;cases z))];exact h⟩)
  .exact .inr h
 refine⟨_,Z,l,_,Z,.inl (hl1 _),λr hr2=>?_⟩;have n1:r≠p:=λe=>by rw[e,aq]at hr2;cases hr2
 refine⟨_,Z,p,T.part,dx,_,Z,by rw[az (cJ n1)];exact aq,X.cP,X.LJ,by show 5<1000;decide,?_⟩;have hr0:H r=none:=by rw[az n1]at hr2;exact hr2
 refine q r _ hr0 (λb o e hb=>?_) aq ?_
 .rw [az hb,az (aJ e hr0),az hb];exact e
 .rw [az n1];exact aq
abbrev s_:Stmt:=inClass (top 4) 1
abbrev pG:Da Str:=["self","step"]
abbrev Jx:Da Str:=pG
def G_:aQ Jx pG (aD s_):=dm
def Hf{T:TC}(F:jj K T.bot "grow" "Bottom.grow" s_ f fd)(X:Txt K T):Mn P w K mg base 1 T.bot "grow" pG (Um T):=by
 refine F.oA G_ λ_ _ _ _ H _ Q E hr h=>?_;obtain⟨⟨n,ρ,A,st,s,rfl,g,h,hl,z1,z2,q⟩⟩:=h;refine⟨_,(@cZ.h _ _ _ (au (gh (aR iT (qv 1) ai (aZ _)) (aj (bQ (kh mY mW mX d8 (aN K (qv 0)) (af (qv 1) ak)))
  (aj (rj K (qv 0) (qv 1) Zp)
  (au (eE K (qv 0) sX)))) bM))),?_⟩
 refine⟨λσ' H'=>Q .cy H',⟨_,Z,_,_,Z,Z,_,Z,c6 (λc=>?_) (λc=>?_)⟩,λ_ _ z=>z⟩
 .have c':1<s:=dN c;refine⟨_,Z,A.bt,T.bot,A.db,_,_,Z,h.jE,X.cB,X.bst,Z,.inl ⟨Z,_,aB.of h.oQ⟩,_,Z,A.sp,_,_,Z,Z,h.oQ,by rw[aE];exact c8 hl,?_⟩;rw[show st.stp.map V.int++[V.int s]=(st.stp++[s]).map V.int from by rw[bN];rfl];have h1:=h.abN g (st.stp++[s]);have g1:=g.wr (a:=A.sp) (o:=.lst ((st.stp++[s]).map V.int)) rfl;have F1:Fr n ρ H ρ (upd H A.sp (.lst ((st.stp++[s]).map V.int))):=Fr.write h.jG;generalize upd H A.sp (.lst ((st.stp++[s]).map V.int))=H1 at *;refine⟨_,Z,A.bt,T.bot,A.db,_,_,Z,h1.jE,X.cB,X.LK,Z,_,Z,_,_,Z,Z,eX z1 z2,A.db,_,h1.jE,by show 3<1000;decide,?_⟩;intro kn hkn;have nb:kn≠A.bt:=λe=>by rw[e,aq]at hkn;cases hkn
  have DG:H1 kn=none:=by rw[az nb]at hkn;exact hkn
  have jH:ρ kn=none:=g1.none DG;refine⟨_,Z,A.bt,T.bot,A.db,_,Z,by rw[az (cJ nb)];exact aq,X.cB,X.Ue,by show 3<1000;decide,?_⟩;have eH:upd (upd (upd H1 A.bt (.ins T.bot A.db (br "product" (.int (st.prod*s)) (zP A.sp st.prod A.kn)))) kn (.dK [])) A.bt (.ins T.bot A.db (br "known" (.ref kn) (br "product" (.int (st.prod*s)) (zP A.sp st.prod A.kn))))=upd (upd H1 kn (.dK [])) A.bt (.ins T.bot A.db (zP A.sp (st.prod*s) kn)):=by rw[lG (cJ nb),qj];rfl
  have k2:Kp n ρ (bY ρ kn (n,9,⟨#[]⟩)) H1 (upd H1 kn (.dK [])) (λ_=>true):=⟨(aH DG _).tups,λb t x o _ c e=>⟨aH DG _ _ _ e,by rw[b8 (aJ e DG)];exact c⟩⟩
  have h2:=h1.same k2;have g2:Gh (bY ρ kn (n,9,⟨#[]⟩)) (upd H1 kn (.dK [])):=(g1.alloc DG).color aq rfl;have F2:Fr n ρ H1 (bY ρ kn (n,9,⟨#[]⟩)) (upd H1 kn (.dK [])):=Fr.color DG (aH DG _);have h3:=h2.abP g2 (st.prod*s) kn aq cX;have es:f7 st s={ { st with stp:=st.stp++[s] }with prod:=st.prod*s,kn:=0 }:=by unfold f7;rw[ay c']
  rw[es]at q;show Q .cy _;refine(show _=_ from eH)▸?_;exact q _ _ _ (g2.wr rfl) h3 rfl (F1.trans (F2.trans (Fr.write h2.jF)))
 .have c':¬ 1<s:=qB (pN.mpr c);have es:f7 st s=st:=by unfold f7;rw[av c']
  rw[es]at q;exact q ρ A H g h rfl Fr.refl
abbrev p_:Stmt:=inClass (top 21) 19
abbrev e_:Da Str:=["self","owner"]
abbrev Fe:Da Str:=e_
def DH:aQ Fe e_ (aD p_):=dm
def Cy{T:TC}{e:Ec}(F:jj K T.hold "place_of" "Hold.place_of" p_ f fd)(X:Txt K T):Mn P w K mg base 1 T.hold "place_of" e_ (sN (z7 T e)):=by
 refine F.oA DH λ_ _ _ _ H _ Q E hr h=>?_;obtain⟨⟨n,ρ,A,st,o,rfl,h,q2,q⟩⟩:=h;refine⟨_,(@cZ.h _ _ _ (aj (c5 (yO (Bp (bU hr) (qv 1) (aN K (qv 0)))) (au gU) bM)
  (au (bH (bD (bU hr) (aN K (qv 0)) (qv 1)))))),?_⟩
 refine⟨_,Z,_,Z,A.a,T.hold,A.dx,_,_,Z,h.oa,X.cH,X.hpl,Z,A.pl,_,Z,cg.k (k:=Sum.inr o) h.jk,_,Z,?_⟩;by_cases ho:o∈st.own
 .have hv:=Ql (i:=0) ho;rw[hv];refine bq ?_;refine⟨_,Z,A.a,T.hold,A.dx,_,_,Z,h.oa,X.cH,X.hpl,Z,_,Z,A.pl,_,Z,hv▸cg.k (k:=Sum.inr o) h.jk,?_⟩;rw[Nat.zero_add];exact q ho
 .rw [qS ho];exact gc <| q2 ho 0 H (aK.refl _)
abbrev rD:Stmt:=inClass (top 21) 20
abbrev fJ:Da Str:=["self","name"]
abbrev Hg:Da Str:=fJ
def Ff:aQ Hg fJ (aD rD):=dm
def DI{T:TC}{e:Ec}(F:jj K T.hold "part_of" "Hold.part_of" rD f fd)(X:Txt K T):Mn P w K mg base 1 T.hold "part_of" fJ (sN (nu T e)):=by
 refine F.oA Ff λ_ _ _ _ H _ Q E hr h=>?_;obtain⟨⟨n,ρ,A,st,x,rfl,hA,nd,q2,k⟩⟩:=h;refine⟨_,(@cZ.h _ _ _ (aj (c5 (yO (Bp (bU hr) (qv 1) (aN K (qv 0)))) (au gU) bM)
  (au (bH (bD (bU hr) (aN K (qv 0)) (qv 1)))))),?_⟩
 refine⟨_,Z,_,Z,A.a,T.hold,A.dx,_,_,Z,hA.oa,X.cH,X.hab,Z,A.ab,_,Z,cg.k (k:=Sum.inr x) hA.fE,_,Z,?_⟩;by_cases hx:∃p∈st.ah,p.nm=x
 .obtain ⟨p,hp,rfl⟩:=hx;obtain⟨i,hi,ep⟩:=List.mem_iff_getElem.mp hp;have sf:st.ah[i]?=some p:=by rw[bf hi,ep]
  obtain⟨qq,eq,_⟩:=hA.find sf;have hv:=vD nd sf eq;rw[hv];refine bq ?_;exact⟨_,Z,A.a,T.hold,A.dx,_,_,Z,hA.oa,X.cH,X.hab,Z,_,Z,A.ab,_,Z,hv▸cg.k (k:=Sum.inr p.nm) hA.fE,k i p qq rfl sf eq⟩
 .have hn:∀p∈st.ah,p.nm≠x:=λp hp z=>hx ⟨p,hp,z⟩;rw[vV hn];exact gc <| q2 hn 0 H (aK.refl _)
abbrev oH:Stmt:=inClass (top 21) 21
abbrev jJ:Da Str:=["self","name"]
abbrev DJ:Da Str:=jJ
def Cz:aQ DJ jJ (aD oH):=dm
def BD{T:TC}{e:Ec}(F:jj K T.hold "check_new" "Hold.check_new" oH f fd)(X:Txt K T)(qz:Dn P w K mg base 2 "is_name" ux zM):Mn P w K mg base 3 T.hold "check_new" jJ (sN (yp T e)):=by
 refine F.oA Cz λ_ _ _ _ H _ Q E hr h=>?_;obtain⟨⟨n,ρ,A,st,x,rfl,h,hx,q2,q⟩⟩:=h;refine⟨_,(@cZ.h _ _ _ (aj (c5 (q_ (ny (bh qz hr (af (qv 1) ak)))) (au gU) bM)
  (au (c5 (yO (Mi (bU hr) (qv 1) (aN K (qv 0)))) (au gU) bM)))),?_⟩
 refine⟨_,Z,EC (cs:=x.cps.toList) hx λH1 g1=>⟨_,Z,?_⟩⟩;cases hn:isName x.cps.toList with
 | false=>exact gc <| q2 0 (by unfold newR isNm;rw[hn];rfl) 0 H1 g1
 | true=>
  refine bq ?_;have h1:=h.mono g1;refine⟨_,Z,_,Z,A.a,T.hold,A.dx,_,_,Z,h1.oa,X.cH,X.hnm,Z,A.nm,_,Z,cg.k (k:=Sum.inr x) h1.uf,_,Z,?_⟩;by_cases hm:x∈st.nms
  .rw [LN hm];exact gc <| q2 1 (by unfold newR isNm;rw[hn,ay rfl,ay hm]) 0 H1 g1
  .rw [AZ hm];exact bq (q (Bk hn hm) H1 g1)
abbrev uS:Stmt:=inClass (top 21) 13
abbrev kW:Da Str:=["self"]
abbrev MP:Da Str:=kW
def Jy:aQ MP kW (aD uS):=dm
theorem Jz{T:TC}(F:jj K T.hold "whole" "Hold.whole" uS f fd)(X:Txt K T)(ff:mg "sum"=none):Mn P w K mg base 1 T.hold "whole" kW (Cj T):=by
 refine F.oA Jy λ_ _ _ _ H _ Q E hr h=>?_;obtain⟨⟨n,ρ,A,st,rfl,h,hl,q⟩⟩:=h;refine⟨_,(@cZ.h _ _ _ (au (bH (aY (ji K rfl) (by rfl) ff uD (af (Mh (iE ["part"] [none] rfl (Co (aN K (qv 0))) (λ_ _ _ _=>(aV (i:=0) (show List.Nodup (["part"] :Da Str)from by decide +kernel))) (λ_ _ _ _=>(aN K (qv 0))) rfl (by rfl))) ak))))),?_⟩;refine⟨A.ab,_,h.fE,λo=>?_⟩;refine⟨_,Z,A.a,T.hold,A.dx,_,_,Z,fU h.fE h.oa (λk z=>by cases z),X.cH,X.hab,Z,A.ab,o,_,Z,aq,λAp Bi=>?_⟩;have el:=yK h.ql;refine iL (n:=st.ah.length) 0 (λi out H1=>aK (upd H A.ab (.gy o (.dK (cY st.ah A.qs)))) H1/\out=((st.ah.take i).map (·.wo)).map V.int) (by omega) ⟨aH Bi _,Z⟩ (λi out H1 hi _ hp=>⟨hp.1 _ _ aq,by rw[el];exact hi⟩) (λout H1 _ hp=>⟨hp.1 _ _ aq,by rw[el];exact aL _⟩) ?_ ?_
 .rintro i x out H1 H2 hi fD ha ⟨g,e⟩ ⟨rfl,kv,hkv,rfl⟩;have ep:=bf hi;obtain⟨qq,eq,h1,h2,_⟩:=h.find ep;rw[yJ ep eq]at hkv;cases hkv;have hq:=g _ _ (fU h.fE h1 (λk z=>by cases z));refine⟨_,Z,qq.1,T.part,qq.2.1,_,_,Z,hq,X.cP,X.xR,Z,ha,g.cI Bi _,?_⟩;rw[take_snoc ep,e,bN,bN];rfl
 rintro out H1 fD ha ⟨g,e⟩;rw[cL]at e;have hz:=g _ _ (aq (H:=H) (a:=A.ab) (o:=.gy o (.dK (cY st.ah A.qs))));have na:Ap≠A.ab:=λe=>by rw[e,hz]at ha;cases ha
 exact⟨hz,Ap,st.ah.map (λp:Pt=>p.wo),Z,aB.of (by rw[az na,ha,e]),q _ (vW h.fE g)⟩
abbrev kX:Stmt:=inClass (top 21) 25
abbrev iw:Da Str:=["self","tops"]
abbrev Ag:Da Str:=iw
def yV:aQ Ag iw (aD kX):=dm
theorem yW{T:TC}(F:jj K T.hold "beyond_common" "Hold.beyond_common" kX f fd)(X:Txt K T)(jh:mg "zip"=none):Mn P w K mg base 1 T.hold "beyond_common" iw (RY T K):=by
 refine F.oA yV λ_ _ _ _ H _ Q E hr h=>?_;obtain⟨⟨n,ρ,A,st,l,tops,rfl,h,hS,Yj,hle,q⟩⟩:=h;refine⟨_,(@cZ.h _ _ _ (au (bH (iE ["top","common"] [none,none] rfl (sW K (by rfl) jh (af (qv 1) (af (aN K (qv 0)) ak))) (λ_ _ _ _=>(iX K (n:=2) rfl (cS (aV (i:=0) (show List.Nodup (["top","common"] :Da Str)from by decide +kernel)) (cS (aV (i:=1) (show List.Nodup (["top","common"] :Da Str)from by decide +kernel)) iW)))) (λ_ _ _ _=>(aG j0 (qv 0) (qv 1))) rfl (by rfl))))),?_⟩;refine⟨_,Z,_,Z,A.a,T.hold,A.dx,_,_,Z,h.oa,X.cH,X.AW,Z,_,_,_,_,_,_,Z,.lst hS,.lst (aB.of h.jR),λAp Bi=>?_⟩;refine AS (K:=K) (n:=tops.length) [0,1] (λi out H1=>aK H H1/\out=(List.zipWith (λt c=>t-c) (tops.take i) (st.bX.take i)).map V.int) (by decide) (by omega) ⟨aH Bi _,Z⟩ (λi out H1 hi _ hp=>⟨hp.1.seq hS,hp.1.seq (aB.of h.jR),by rw[aE];exact hi,by rw[aE];omega⟩)
  (λout H1 _ hp=>⟨hp.1.seq hS,hp.1.seq (aB.of h.jR),.inl (by rw[aE];exact aL _)⟩) ?_ ?_
 .rintro i x out H1 H2 hi fD ha ⟨g,e⟩ ⟨p,x1,y1,hp,rfl,rfl,e1,e2⟩;obtain⟨t,rfl,et⟩:=gY e1;obtain⟨c,rfl,ec⟩:=gY e2;have g1:=aH hp (.tup [.int t,.int c]);refine⟨p,_,Z,dU.of aq,Z,_,Z,_,Z,_,_,Z,Z,g1 _ _ ha,(g.trans g1).cI Bi _,?_⟩;rw[ng _ et ec,e,bN];rfl
 rintro out H1 fD ha ⟨g,e⟩;rw[cL,Yj,cL]at e;exact q Ap H1 g Bi (by rw[ha,e];rfl)
abbrev rE:Stmt:=inClass (top 21) 24
abbrev jx:Da Str:=["self","part"]
abbrev Hh:Da Str:=jx
def Fi:aQ Hh jx (aD rE):=dm
theorem Fj{T:TC}(F:jj K T.hold "tops_of" "Hold.tops_of" rE f fd)(X:Txt K T)(jh:mg "zip"=none):Mn P w K mg base 1 T.hold "tops_of" jx (Cg T):=by
 refine F.oA Fi λ_ _ _ _ H _ Q E hr h=>?_;obtain⟨⟨n,ρ,A,st,ip,pt,qq,rfl,h,wf,ep,eq,q⟩⟩:=h;obtain⟨h1,h2,_⟩:=h.opt ip pt qq ep eq;have fF:=bg ep;refine⟨_,(@cZ.h _ _ _ (au (bH (iE ["own","common","part"] [none,none,some 1] rfl (sW K (by rfl) jh (af (aN K (qv 1)) (af (aN K (qv 0)) ak))) (λ_ _ _ _=>(iX K (n:=2) rfl (cS (aV (i:=0) (show List.Nodup (["own","common","part"] :Da Str)from by decide +kernel)) (cS (aV (i:=1) (show List.Nodup (["own","common","part"] :Da Str)from by decide +kernel)) iW)))) (λ_ _ _ _=>(aG b_ (aG fk (aN K (qv 2)) (qv 0)) (qv 1))) rfl (by rfl))))),?_⟩;have erl:pt.row.length=st.bX.length:=by rw[wf.rows pt fF,wf.gf]
 have hcl:st.bX.length<=100:=by rw[wf.gf];exact wf.lF
 refine⟨_,Z,qq.1,T.part,qq.2.1,_,_,Z,h1,X.cP,X.LJ,Z,_,Z,A.a,T.hold,A.dx,_,_,Z,h.oa,X.cH,X.AW,Z,_,_,_,_,_,_,Z,.lst (aB.of h2),.lst (aB.of h.jR),λAp Bi=>?_⟩;refine AS (K:=K) (n:=pt.row.length) [0,1] (λi out H1=>aK H H1/\out=(List.zipWith (λr c=>pt.sc*r+c) (pt.row.take i) (st.bX.take i)).map V.int) (by decide) (by omega) ⟨aH Bi _,Z⟩ (λi out H1 hi _ hp=>⟨hp.1.seq (aB.of h2),hp.1.seq (aB.of h.jR),by rw[aE];exact hi,by rw[aE];omega⟩)
  (λout H1 _ hp=>⟨hp.1.seq (aB.of h2),hp.1.seq (aB.of h.jR),.inl (by rw[aE];exact aL _)⟩) ?_ ?_
 .rintro i x out H1 H2 hi fD ha ⟨g,e⟩ ⟨p,x1,y1,hp,rfl,rfl,e1,e2⟩;obtain⟨t,rfl,et⟩:=gY e1;obtain⟨c,rfl,ec⟩:=gY e2;have g1:=aH hp (.tup [.int t,.int c]);have s1:Jm.Sz 8000 pt.sc:=Jm.Sz.lQ (by have:=wf.qR pt fF;have:=wf.fZ;omega) (wf.qR pt fF).2 wf.big;have s2:Jm.Sz 8000 t:=Jm.Sz.lQ (wf.oF pt fF t (bg et)).1 (wf.oF pt fF t (bg et)).2 wf.big;refine⟨p,_,Z,dU.of aq,Z,_,Z,qq.1,T.part,qq.2.1,_,_,Z,(g.trans g1) _ _ h1,X.cP,X.Ip,Z,_,Z,_,_,Z,Z,eX s1 s2,_,Z,_,_,Z,Z,g1 _ _ ha,(g.trans g1).cI Bi _,?_⟩;rw[ng _ et ec,e,bN];rfl
 rintro out H1 fD ha ⟨g,e⟩;rw[cL,erl,cL]at e;exact q Ap H1 g Bi (by rw[ha,e];rfl)
abbrev wC:Stmt:=inClass (top 21) 22
abbrev oW:Da Str:=["self","part"]
abbrev OC:Da Str:=oW
def MQ:aQ OC oW (aD wC):=dm
theorem MR{T:TC}(F:jj K T.hold "stow" "Hold.stow" wC f fd)(X:Txt K T):Mn P w K mg base 1 T.hold "stow" oW (LP T):=by
 refine F.oA MQ λ_ _ _ _ H _ Q E hr h=>?_;obtain⟨⟨n,ρ,A,st,qq,p,rfl,hh,h1,h2,c1,c2,hn,wf',q⟩⟩:=h;have h:=hh.h;refine⟨_,(@cZ.h _ _ _ (aj (qw (bU hr) (aN K (qv 0)) (aN K (qv 1)) (qv 1) rfl)
  (au (qw (bU hr) (aN K (qv 0)) (aN K (qv 1)) z8 rfl)))),?_⟩
 have BF:∀x∈st.ah,x.nm≠p.nm:=λx hx e=>hn (by rw[<-e];exact hh.wf.sub x hx);have lab:(cY st.ah A.qs).length<sizeLine:=by rw[yK h.ql];exact c8 hh.wf.qQ
 refine⟨_,Z,_,Z,A.a,T.hold,A.dx,_,_,Z,h.oa,X.cH,X.hab,Z,_,Z,qq.1,T.part,qq.2.1,_,_,Z,h1,X.cP,X.X6,Z,A.ab,_,Z,uJ.k (k:=Sum.inr p.nm) h.fE lab,?_⟩;rw[pO _ (vV BF),<-WG h.ql p qq];have k1:qq.1≠qq.2.2:=jP h1 h2 (by intro z;cases z);have f1:Kp n ρ (bY (bY ρ qq.1 (n,20,p.nm)) qq.2.2 (n,21,p.nm)) H H (λ_=>true):=⟨λ_ _ e=>e,λb t x o _ c e=>⟨e,by rw[b8 (λz=>by rw[z,c2]at c;cases c),b8 (λz=>by rw[z,c1]at c;cases c)];exact c⟩⟩
 have hc:=h.same f1;have g1:Gh (bY (bY ρ qq.1 (n,20,p.nm)) qq.2.2 (n,21,p.nm)) H:=(hh.g.color h1 rfl).color h2 rfl;have fr1:LO n qq.1 qq.2.2 ρ H (bY (bY ρ qq.1 (n,20,p.nm)) qq.2.2 (n,21,p.nm)) H:=λb o e k n1 n2=>⟨e,by rw[b8 n2,b8 n1]⟩
 have hs:=hc.LI g1 (st.ah++[p]) (A.qs++[qq]) (by rw[cW,cW,h.ql];rfl) (λi x y ex ey=>by
  by_cases hi:i<st.ah.length
  .rw [C8 hi]at ex;rw[C8 (by rw[h.ql];exact hi)]at ey;exact hc.opt i x y ex ey
  .rw [CH (by omega)]at ex;rw[CH (by rw[h.ql];omega),h.ql]at ey;have e0:i-st.ah.length=0:=by
    rcases Nat.eq_zero_or_pos (i-st.ah.length)with z|z
    .exact z
    .rw [m7 (by show 1<=_;exact z)]at ex;cases ex
   rw[e0]at ex ey;cases ex;cases ey;exact⟨h1,h2,by rw[b8 k1];exact cX,cX⟩)
 have g2:=g1.wr (a:=A.ab) (o:=.dK (cY (st.ah++[p]) (A.qs++[qq]))) rfl;have fr2:Fr n _ H _ (upd H A.ab (.dK (cY (st.ah++[p]) (A.qs++[qq])))):=Fr.write hc.ia;have EM:upd H A.ab (.dK (cY (st.ah++[p]) (A.qs++[qq]))) qq.1=some (.ins T.part qq.2.1 (dI p qq.2.2)):=by rw[az (jP h1 h.fE (by intro z;cases z))];exact h1
 refine⟨_,Z,A.a,T.hold,A.dx,_,_,Z,hs.oa,X.cH,X.hnm,Z,_,Z,qq.1,T.part,qq.2.1,_,_,Z,EM,X.cP,X.X6,Z,A.nm,_,Z,uJ.k (k:=Sum.inr p.nm) hs.uf (by unfold AU;rw[aE];exact c8 hh.wf.zR),?_⟩;rw[pO _ (AZ hn),show AU st.nms++[(Sum.inr p.nm,V.bl true)]=AU (st.nms++[p.nm])from by unfold AU;rw[bN];rfl];have hs2:=hs.abJ g2 (st.nms++[p.nm]);exact q _ _ _ ⟨g2.wr rfl,hs2,wf'⟩ rfl (fr1.trans (fr2.trans (Fr.write hs.jD)))
abbrev wD:Stmt:=inClass (top 21) 1
abbrev l9:Da Str:=["self","owner"]
abbrev OD:Da Str:=l9.append ["part"]
def BG:aQ OD l9 (aD wD):=dm
theorem MS{T:TC}(F:jj K T.hold "sign" "Hold.sign" wD f fd)(X:Txt K T)(qz:Dn P w K mg base 2 "is_name" ux zM)(bO:mg "len"=none):Mn P w K mg base 3 T.hold "sign" l9 (Ci T):=by
 refine F.oA BG λ_ _ _ _ H _ Q E hr h=>?_;obtain⟨⟨n,ρ,A,st,o,rfl,hh,hx,hn,hl,q⟩⟩:=h;refine⟨_,(@cZ.h _ _ _ (aj (c5 (q_ (ny (bh qz hr (af (qv 1) ak)))) (au gU) bM)
  (aj (c5 (yO (Mi (bU hr) (qv 1) (aN K (qv 0)))) (au gU) bM)
  (aj (qw (bU hr) (aN K (qv 0)) (qv 1) (aY xO (by rfl) bO d7 (af (aN K (qv 0)) ak)) rfl)
  (aj (bQ (kh mY mW mX d8 (aN K (qv 0)) (af ai ak)))
  (aj (bQ (kh mY mW mX d8 (aN K (qv 0)) (af ai ak)))
  (au (yQ (fj fT rfl (Co (aN K (qv 0))) (aV (i:=2) BG.nd) (au (bQ (kh mY mW mX d8 (aN K (qv 2)) (af ai ak))))))))))))),?_⟩
 refine⟨_,Z,EC (cs:=o.cps.toList) (LS hx) λH1 g1=>⟨_,Z,?_⟩⟩;rw[show isName o.cps.toList=true from hx];refine bq ?_;have dB:=hh.mono g1;have h1:=dB.h;have F1:Fr n ρ H ρ H1:=Fr.of_same g1;refine⟨_,Z,_,Z,A.a,T.hold,A.dx,_,_,Z,h1.oa,X.cH,X.hpl,Z,A.pl,_,Z,cg.k (k:=Sum.inr o) h1.jk,_,Z,?_⟩;rw[qS hn];refine bq ?_;have CZ:=qT st.own 0;refine⟨_,Z,A.a,T.hold,A.dx,_,_,Z,h1.oa,X.cH,X.hpl,Z,A.pl,_,Z,h1.jk,_,Z,A.a,T.hold,A.dx,_,_,Z,h1.oa,X.cH,X.hpl,Z,_,Z,A.pl,_,Z,uJ.k (k:=Sum.inr o) h1.jk (c8 (by rw[CZ];omega)),?_⟩;rw[pO _ (qS hn),CZ,show gI 0 st.own++[(Sum.inr o,V.int (st.own.length:Int))]=gI 0 (st.own++[o])from by rw[LL,Nat.zero_add]];have h2:=h1.abH dB.g (st.own++[o]);have G2:=dB.g.wr (a:=A.pl) (o:=.dK (gI 0 (st.own++[o]))) rfl;have F2:=F1.trans (Fr.write (o:=.dK (gI 0 (st.own++[o]))) h1.jl);generalize upd H1 A.pl (.dK (gI 0 (st.own++[o])))=H2 at *;have lcm:(st.bX.map V.int).length<sizeLine:=by rw[aE,hh.wf.gf];exact c8 (by omega)
 refine⟨_,Z,A.a,T.hold,A.dx,_,_,Z,h2.oa,X.cH,X.AW,Z,.inl ⟨Z,_,aB.of h2.jR⟩,A.cm,_,_,Z,Z,h2.jR,lcm,?_⟩;rw[show st.bX.map V.int++[V.int 0]=(st.bX++[0]).map V.int from by rw[bN];rfl];have h3:=h2.abL G2 (st.bX++[0]);have G3:=G2.wr (a:=A.cm) (o:=.lst ((st.bX++[0]).map V.int)) rfl;have F3:=F2.trans (Fr.write (o:=.lst ((st.bX++[0]).map V.int)) h2.j6);generalize upd H2 A.cm (.lst ((st.bX++[0]).map V.int))=H3 at *;have lpu:(st.bJ.map V.int).length<sizeLine:=by rw[aE,hh.wf.mC];exact c8 (by omega)
 refine⟨_,Z,A.a,T.hold,A.dx,_,_,Z,h3.oa,X.cH,X.AX,Z,.inl ⟨Z,_,aB.of h3.lS⟩,A.pu,_,_,Z,Z,h3.lS,lpu,?_⟩;rw[show st.bJ.map V.int++[V.int 0]=(st.bJ++[0]).map V.int from by rw[bN];rfl];have h4:=h3.abM G3 (st.bJ++[0]);have G4:=G3.wr (a:=A.pu) (o:=.lst ((st.bJ++[0]).map V.int)) rfl;have F4:=F3.trans (Fr.write (o:=.lst ((st.bJ++[0]).map V.int)) h3.cpu);generalize upd H3 A.pu (.lst ((st.bJ++[0]).map V.int))=H4 at *;clear h1 h2 h3 G2 G3 F2 F3 dB;have hpl:=hh.wf.qQ;refine⟨A.ab,_,h4.fE,λob=>?_⟩;refine⟨_,Z,A.a,T.hold,A.dx,_,_,Z,fU h4.fE h4.oa (λk z=>by cases z),X.cH,X.hab,Z,A.ab,ob,_,Z,aq,?_⟩;have el:=yK h4.ql;have el0:(cY st.ah A.qs).length=st.ah.length:=el;refine vQ (n:=st.ah.length) (λi σ H'=>(∃s2,σ=[some (.ref A.a),some (.str o),s2])/\qo H' A.ab ob (cY st.ah A.qs)/\∃H5,H'=upd H5 A.ab (.gy ob (.dK (cY st.ah A.qs)))/\Gh ρ H5/\Fr n ρ H ρ H5/\
   aX T n ρ A H5 { st with own:=st.own++[o],bX:=st.bX++[0],bJ:=st.bJ++[0],ah:=(st.ah.take i).map (λp=>{ p with row:=p.row++[0] })++st.ah.drop i })
  ⟨⟨_,Z⟩,aq,H4,Z,G4,F4,h4⟩ (λi σ H' hi hp=>⟨hp.2.1,by rw[el0];exact hi⟩) (λσ H' hp=>⟨hp.2.1,by rw[el0];exact aL _⟩) ?_ ?_
 .rintro i x σ H' ER hi ⟨⟨s2,rfl⟩,hz,H5,rfl,G5,F5,h5⟩ ⟨rfl,kv,hkv,rfl⟩;have ep:=bf hi;have C0:=LV (λp:Pt=>{ p with row:=p.row++[0] }) ep;obtain⟨qq,eq,k1,k2,k3,k4⟩:=h5.find C0;rw[yJ ep eq]at hkv;cases hkv;have Yk:=sR (λp:Pt=>{ p with row:=p.row++[0] }) (λp:Pt=>p.nm) (λ_=>rfl) st.ah i;have nd5:(((st.ah.take i).map (λp:Pt=>{ p with row:=p.row++[0] })++st.ah.drop i).map (λp:Pt=>p.nm)).Nodup:=by rw[Yk];exact hh.wf.fP
  have z1:=fU (o:=ob) h5.fE k1 (λk z=>by cases z);have z2:=fU (o:=ob) h5.fE k2 (λk z=>by cases z);rw[show cY ({ st with own:=st.own++[o],bX:=st.bX++[0],bJ:=st.bJ++[0],ah:=(st.ah.take i).map (λp:Pt=>{ p with row:=p.row++[0] })++st.ah.drop i }:HS).ah A.qs=cY st.ah A.qs from qp Yk]at z1 z2;have hrl:((st.ah[i]).row.map V.int).length<sizeLine:=by rw[aE,hh.wf.rows _ (zm hi)];exact c8 (by omega)
  refine⟨_,Z,qq.1,T.part,qq.2.1,_,_,Z,z1,X.cP,X.LJ,Z,.inl ⟨Z,_,aB.of z2⟩,qq.2.2,_,_,Z,Z,z2,hrl,?_⟩;have na:A.ab≠qq.2.2:=(jP k2 h5.fE (by intro z;cases z)).symm;rw[show(st.ah[i]).row.map V.int++[V.int 0]=((st.ah[i]).row++[0]).map V.int from by rw[bN];rfl];have h6:=h5.Zr G5 ((st.ah[i]).row++[0]) C0 eq nd5;rw[show({ st with own:=st.own++[o],bX:=st.bX++[0],bJ:=st.bJ++[0],ah:=(st.ah.take i).map (λp:Pt=>{ p with row:=p.row++[0] })++st.ah.drop i }:HS).ah.set i { st.ah[i]with row:=(st.ah[i]).row++[0] }=_ from LW (λp:Pt=>{ p with row:=p.row++[0] }) ep]at h6;exact⟨⟨_,Z⟩,(az na).trans hz,_,lG na,G5.wr rfl,F5.trans (Fr.write k4),h6⟩
 .rintro σ H' ⟨_,hz,H5,rfl,G5,F5,h5⟩;have Yk:=sR (λp:Pt=>{ p with row:=p.row++[0] }) (λp:Pt=>p.nm) (λ_=>rfl) st.ah st.ah.length;have e5:cY ({ st with own:=st.own++[o],bX:=st.bX++[0],bJ:=st.bJ++[0],ah:=(st.ah.take st.ah.length).map (λp:Pt=>{ p with row:=p.row++[0] })++st.ah.drop st.ah.length }:HS).ah A.qs=cY st.ah A.qs:=qp Yk;have h5':=h5.fE;rw[e5]at h5';refine⟨hz,?_⟩;rw[qj,zU h5'];have es:({ st with own:=st.own++[o],bX:=st.bX++[0],bJ:=st.bJ++[0],ah:=(st.ah.take st.ah.length).map (λp:Pt=>{ p with row:=p.row++[0] })++st.ah.drop st.ah.length }:HS)=fu st o:=by unfold fu;rw[cL,D4,qF]
  rw[es]at h5;exact q ρ A H5 ⟨G5,h5,Ck hh.wf hn hl⟩ rfl F5
abbrev wF:Stmt:=inClass (top 21) 2
abbrev oX:Da Str:=["self","part","owner","worth","weight"]
abbrev OE:Da Str:=oX.append ["place","tops"]
def wG:aQ OE oX (aD wF):=dm
theorem MT{T:TC}(F:jj K T.hold "load" "Hold.load" wF f fd)(X:Txt K T)(jK:Mn P w K mg base 3 T.hold "check_new" jJ (EN T))(b7:Mn P w K mg base 1 T.hold "place_of" e_ (vE T))(gu:Mn P w K mg base 1 T.hold "beyond_common" iw (RY T K))(l_:Mn P w K mg base 1 T.hold "stow" oW (LP T))(yX:Cn P w K mg base 1 "Part" T.part ["self","name","owner","worth","weight","scale","row"] (GH T K))(bO:mg "len"=none):Mn P w K mg base 4 T.hold "load" oX (LQ T):=by
 refine F.oA wG λ_ _ _ _ H _ Q E hr h=>?_
 obtain⟨⟨n,ρ,A,st,x,o,wo,we,rfl,hh,hx,hn,ho,h4,h5,h6,h7,q⟩⟩:=h
 refine⟨_,(@cZ.h _ _ _ (aj (bQ (bZ jK hr (qv 0) (af (qv 1) ak)))
  (aj (aS (i:=5) wG.nd (bZ b7 hr (qv 0) (af (qv 2) ak)))
  (aj (c5 (ju (bW.pt (Cp (aR tR (qv 3) ai (aZ _)) (yP (aR tR (qv 4) ai (aZ _)))))) (au gU) bM)
  (aj (aS (i:=6) wG.nd (aG Tn (iB (af ai ak)) (aY xO (by rfl) bO d7 (af (aN K (qv 0)) ak))))
  (aj (i_ (aN K (aN K (qv 0))) (ja (qv 6) (qv 5) set_list))
  (au (bQ (bZ l_ hr (qv 0) (af (Yi yX hr (af (qv 1) (af (qv 2) (af (qv 3) (af (qv 4) (af ai (af (bZ gu hr (qv 0) (af (qv 6) ak)) ak))))))) ak)))))))))),?_⟩
 refine⟨_,Z,A.a,A.dx,_,Z,hh.h.oa,Z,_,Z,⟨⟨n,ρ,A,st,x,Z,hh.h,hx,hn,λH1 g1=>?_⟩⟩⟩
 have dB:=hh.mono g1
 have F1:Fr n ρ H ρ H1:=Fr.of_same g1
 clear hh
 refine⟨_,Z,A.a,A.dx,_,Z,dB.h.oa,Z,_,Z,⟨⟨n,ρ,A,st,o,Z,dB.h,ho,?_⟩⟩⟩
 refine⟨false,⟨_,Z,_,_,Z,Z,_,Z,c6 (λc=>absurd (dN c) (by omega)) λ_=>⟨_,Z,_,_,Z,Z,_,Z,c9 (by omega),Z⟩⟩,bq ?_⟩
 refine⟨(iO 1),λp0 hp0=>?_⟩
 have g2:=aH hp0 (.lst [.int 0])
 have iZ:=dB.mono g2
 have F2:=F1.trans (Fr.of_same (ρ:=ρ) g2)
 have Xj:upd H1 p0 (.lst [.int 0]) p0=some (.lst [.int 0]):=aq
 generalize upd H1 p0 (.lst [.int 0])=H2 at *
 clear dB F1
 have CZ:=qT st.own 0
 have fD:=iZ.wf.lF
 refine⟨_,Z,A.a,T.hold,A.dx,_,_,Z,iZ.h.oa,X.cH,X.hpl,Z,A.pl,_,Z,iZ.h.jk,p0,_,_,Z,Z,Xj,by omega,by rw[CZ];omega,by rw[CZ];show 1*_<=_;rw[sH,Nat.one_mul];exact small (by omega),λp1 hp1=>?_⟩
 rw[CZ,sH,show(List.replicate st.own.length [V.int 0]).flatten=(List.replicate st.own.length (0:Int)).map V.int from by rw[List.map_replicate,List.flatten_replicate_singleton]]
 have g3:=aH hp1 (.lst ((List.replicate st.own.length (0:Int)).map V.int))
 have gR:=iZ.mono g3
 have F3:=F2.trans (Fr.of_same (ρ:=ρ) g3)
 have n1:H p1=none:=(g1.trans g2).free hp1
 have c1:ρ p1=none:=iZ.g.none hp1
 have BH:upd H2 p1 (.lst ((List.replicate st.own.length (0:Int)).map V.int)) p1=_:=aq
 generalize upd H2 p1 (.lst ((List.replicate st.own.length (0:Int)).map V.int))=H3 at *
 have hi:=KQ.mpr ho
 refine⟨_,Z,A.a,T.hold,A.dx,_,_,Z,gR.h.oa,X.cH,X.vS,Z,A.bt,T.bot,A.db,_,_,Z,gR.h.jE,X.cB,X.LK,Z,_,Z,_,Z,p1,_,_,st.own.idxOf o,Z,Z,BH,by rw[aE,jd];exact lY hi,?_⟩
 rw[show((List.replicate st.own.length (0:Int)).map V.int).set (st.own.idxOf o) (V.int st.prod)=((List.replicate st.own.length (0:Int)).set (st.own.idxOf o) st.prod).map V.int from by rw[kL]]
 have jL:=gR.EO (o:=.lst (((List.replicate st.own.length (0:Int)).set (st.own.idxOf o) st.prod).map V.int)) c1 BH rfl rfl
 have F4:=F3.new (o:=.lst (((List.replicate st.own.length (0:Int)).set (st.own.idxOf o) st.prod).map V.int)) n1
 have Xk:upd H3 p1 (.lst (((List.replicate st.own.length (0:Int)).set (st.own.idxOf o) st.prod).map V.int)) p1=_:=aq
 have s4:aK H (upd H3 p1 (.lst (((List.replicate st.own.length (0:Int)).set (st.own.idxOf o) st.prod).map V.int))):=((g1.trans g2).trans g3).cI n1 _
 generalize upd H3 p1 (.lst (((List.replicate st.own.length (0:Int)).set (st.own.idxOf o) st.prod).map V.int))=H4 at *
 clear iZ gR F2 F3
 refine⟨_,Z,A.a,A.dx,_,Z,jL.h.oa,Z,_,Z,_,Z,_,Z,_,Z,_,Z,A.a,A.dx,_,Z,jL.h.oa,Z,_,Z,⟨⟨n,ρ,A,st,p1,_,Z,jL.h,aB.of Xk,by rw[fH,jd,jL.wf.gf],by rw[fH,jd];omega,λr H5 g5 hr5 Xl=>?_⟩⟩⟩
 intro y dy hy hdy hyd
 have QU:upd (upd H5 dy (.own y)) y (.ins T.part dy []) r=some (.lst ((mD st ((List.replicate st.own.length 0).set (st.own.idxOf o) st.prod)).map V.int)):=by rw[az (aJ Xl hy),az (aJ Xl hdy)];exact Xl
 refine⟨⟨y,dy,r,⟨x,o,wo,we,1,mD st ((List.replicate st.own.length 0).set (st.own.idxOf o) st.prod)⟩,Z,aq,aB.of QU,λrr H6 hrr k6 hy6 Xm=>⟨Z,?_⟩⟩⟩
 have MU:H5 rr=none:=by
  have e1:rr≠y:=λe=>by rw[e,aq]at hrr;cases hrr
  have e2:rr≠dy:=λe=>by rw[e,az hyd,aq]at hrr;cases hrr
  rw[az e1,az e2]at hrr;exact hrr
 have g6:aK H5 H6:=λb u e=>k6 b u (by rw[az (aJ e hy),az (aJ e hdy)];exact e) (aJ e hy)
 have C3:=jL.mono g5
 have yY:=C3.mono g6
 have F6:=F4.trans (Fr.of_same (ρ:=ρ) (g5.trans g6))
 exact⟨⟨n,ρ,A,st,(y,dy,rr),_,Z,yY,hy6,Xm,C3.g.none hy,C3.g.none MU,hn,Qp jL.wf hn h6 h7 ho h4 h5,λρ' A' H' a1 a2 a3=>q ρ' A' H' a1 a2 (a3.fr F6 ((s4.trans g5).free hy) ((s4.trans g5).free MU))⟩⟩
abbrev wH:Stmt:=inClass (top 21) 0
abbrev yr:Da Str:=["self"]
abbrev OF:Da Str:=yr
def MV:aQ OF yr (aD wH):=dm
def MW{T:TC}(F:Io K mg "Hold" T.hold "Hold.__init__" wH f fd)(X:Txt K T)(DK:Cn P w K mg base 1 "Bottom" T.bot ["self"] (Qm T)):Cn P w K mg base 3 "Hold" T.hold yr (Qn T):=by
 refine F.oA MV λ_ _ _ _ H _ Q E hr h=>?_;obtain⟨⟨p,dx,ρ,n,rfl,hp,g,hρ,q⟩⟩:=h;refine⟨_,(@cZ.h _ _ _ (aj (eE K (qv 0) sX)
  (aj (eE K (qv 0) sX)
  (aj (eE K (qv 0) (iB ak))
  (aj (eE K (qv 0) sX)
  (aj (eE K (qv 0) (UJ DK hr))
  (aj (eE K (qv 0) (iB ak))
  (au (eE K (qv 0) (iB ak)))))))))),?_⟩
 have M0:j7 p H ρ H ρ [] :=⟨(λ_ m=>absurd m (by simp)),λb o e _=>⟨e,Z⟩,g,_,hp⟩
 intro pl hpl;have M1:=(M0.new (o:=.dK []) (c:=(n,1,⟨#[]⟩)) hpl rfl)
 refine⟨_,Z,p,T.hold,dx,_,Z,by rw[az (aJ hp hpl)];exact hp,X.cH,X.hpl,by show 0<1000;decide,?_⟩;have M2:=M1.wr (u:=.ins T.hold dx (br "places" (.ref pl) [])) rfl;have hp2:upd (upd H pl (.dK [])) p (.ins T.hold dx (br "places" (.ref pl) [])) p=_:=aq;generalize upd (upd H pl (.dK [])) p (.ins T.hold dx (br "places" (.ref pl) []))=H2 at *;clear M0 M1;intro ab hab;have M3:=(M2.new (o:=.dK []) (c:=(n,2,⟨#[]⟩)) hab rfl)
 refine⟨_,Z,p,T.hold,dx,_,Z,by rw[az (aJ hp2 hab)];exact hp2,X.cH,X.hab,by show 1<1000;decide,?_⟩;have M4:=M3.wr (u:=.ins T.hold dx (br "aboard" (.ref ab) (br "places" (.ref pl) []))) rfl;have hp4:upd (upd H2 ab (.dK [])) p (.ins T.hold dx (br "aboard" (.ref ab) (br "places" (.ref pl) []))) p=_:=aq;generalize upd (upd H2 ab (.dK [])) p (.ins T.hold dx (br "aboard" (.ref ab) (br "places" (.ref pl) [])))=H4 at *;clear M2 M3;refine⟨(iO 0),λas has=>?_⟩;have M5:=(M4.new (o:=.lst []) (c:=(n,3,⟨#[]⟩)) has rfl)
 refine⟨_,Z,p,T.hold,dx,_,Z,by rw[az (aJ hp4 has)];exact hp4,X.cH,X.has,by show 2<1000;decide,?_⟩;have M6:=M5.wr (u:=.ins T.hold dx (br "ashore" (.ref as) (br "aboard" (.ref ab) (br "places" (.ref pl) [])))) rfl;have Yl:upd (upd H4 as (.lst [])) p (.ins T.hold dx (br "ashore" (.ref as) (br "aboard" (.ref ab) (br "places" (.ref pl) [])))) p=_:=aq;generalize upd (upd H4 as (.lst [])) p (.ins T.hold dx (br "ashore" (.ref as) (br "aboard" (.ref ab) (br "places" (.ref pl) []))))=H6 at *;clear M4 M5;intro nm hnm;have M7:=(M6.new (o:=.dK []) (c:=(n,4,⟨#[]⟩)) hnm rfl)
 refine⟨_,Z,p,T.hold,dx,_,Z,by rw[az (aJ Yl hnm)];exact Yl,X.cH,X.hnm,by show 3<1000;decide,?_⟩;have M8:=M7.wr (u:=.ins T.hold dx (br "names" (.ref nm) (br "ashore" (.ref as) (br "aboard" (.ref ab) (br "places" (.ref pl) []))))) rfl;have hp8:upd (upd H6 nm (.dK [])) p (.ins T.hold dx (br "names" (.ref nm) (br "ashore" (.ref as) (br "aboard" (.ref ab) (br "places" (.ref pl) []))))) p=_:=aq;generalize upd (upd H6 nm (.dK [])) p (.ins T.hold dx (br "names" (.ref nm) (br "ashore" (.ref as) (br "aboard" (.ref ab) (br "places" (.ref pl) [])))))=H8 at *;clear M6 M7;intro bt db vS hdb hne;refine⟨⟨bt,db,Z,aq,λsp kn H9 vJ hkn hsk k9 BI hs9 hk9=>⟨Z,?_⟩⟩⟩;have s9:aK H8 H9:=λb o e=>k9 b o (by rw[az (aJ e vS),az (aJ e hdb)];exact e) (aJ e vS);have fr:∀{c:Addr},upd (upd H8 db (.own bt)) bt (.ins T.bot db []) c=none->H8 c=none:=λ{c} e=>by
  have e1:c≠bt:=λz=>by rw[z,aq]at e;cases e
  have e2:c≠db:=λz=>by rw[z,az hne,aq]at e;cases e
  rw[az e1,az e2]at e;exact e
 have acV:=fr vJ;have acW:=fr hkn;have M9:=M8.same s9;have M10:=M9.add (c:=(n,5,⟨#[]⟩)) BI rfl M8 vS (λe he=>aJ (M8.m e he).1 vS);have M11:=M10.add (c:=(n,8,⟨#[]⟩)) hs9 rfl M8 acV (λe he=>by
  rcases fm.mp he with rfl|he
  .exact jP BI hs9 (by intro z;cases z)
  .exact aJ (M8.m e he).1 acV)
 have M12:=M11.add (c:=(n,9,⟨#[]⟩)) hk9 rfl M8 acW (λe he=>by
  rcases fm.mp he with rfl|he
  .exact jP hs9 hk9 (by intro z;cases z)
  rcases fm.mp he with rfl|he
  .exact jP BI hk9 (by intro z;cases z)
  .exact aJ (M8.m e he).1 acW)
 have hp9:=s9 _ _ hp8;refine⟨_,Z,p,T.hold,dx,_,Z,hp9,X.cH,X.vS,by show 4<1000;decide,?_⟩;have M13:=M12.wr (u:=.ins T.hold dx (br "bottom" (.ref bt) (br "names" (.ref nm) (br "ashore" (.ref as) (br "aboard" (.ref ab) (br "places" (.ref pl) [])))))) rfl;have BH:upd H9 p (.ins T.hold dx (br "bottom" (.ref bt) (br "names" (.ref nm) (br "ashore" (.ref as) (br "aboard" (.ref ab) (br "places" (.ref pl) [])))))) p=_:=aq;generalize upd H9 p (.ins T.hold dx (br "bottom" (.ref bt) (br "names" (.ref nm) (br "ashore" (.ref as) (br "aboard" (.ref ab) (br "places" (.ref pl) []))))))=H13 at *;clear M8 M9 M10 M11 M12;refine⟨(iO 0),λcm AW=>?_⟩;have M14:=(M13.new (o:=.lst []) (c:=(n,6,⟨#[]⟩)) AW rfl)
 refine⟨_,Z,p,T.hold,dx,_,Z,by rw[az (aJ BH AW)];exact BH,X.cH,X.AW,by show 5<1000;decide,?_⟩;have M15:=M14.wr (u:=.ins T.hold dx (br "common" (.ref cm) (br "bottom" (.ref bt) (br "names" (.ref nm) (br "ashore" (.ref as) (br "aboard" (.ref ab) (br "places" (.ref pl) []))))))) rfl;have acY:upd (upd H13 cm (.lst [])) p (.ins T.hold dx (br "common" (.ref cm) (br "bottom" (.ref bt) (br "names" (.ref nm) (br "ashore" (.ref as) (br "aboard" (.ref ab) (br "places" (.ref pl) []))))))) p=_:=aq;generalize upd (upd H13 cm (.lst [])) p (.ins T.hold dx (br "common" (.ref cm) (br "bottom" (.ref bt) (br "names" (.ref nm) (br "ashore" (.ref as) (br "aboard" (.ref ab) (br "places" (.ref pl) [])))))))=H15 at *;clear M13 M14;refine⟨(iO 0),λpu AX=>?_⟩;have M16:=(M15.new (o:=.lst []) (c:=(n,7,⟨#[]⟩)) AX rfl)
 refine⟨_,Z,p,T.hold,dx,_,Z,by rw[az (aJ acY AX)];exact acY,X.cH,X.AX,by show 6<1000;decide,?_⟩;have M17:=M16.wr (u:=.ins T.hold dx (br "purses" (.ref pu) (br "common" (.ref cm) (br "bottom" (.ref bt) (br "names" (.ref nm) (br "ashore" (.ref as) (br "aboard" (.ref ab) (br "places" (.ref pl) [])))))))) rfl;have ac0:upd (upd H15 pu (.lst [])) p (.ins T.hold dx (br "purses" (.ref pu) (br "common" (.ref cm) (br "bottom" (.ref bt) (br "names" (.ref nm) (br "ashore" (.ref as) (br "aboard" (.ref ab) (br "places" (.ref pl) [])))))))) p=_:=aq;generalize upd (upd H15 pu (.lst [])) p (.ins T.hold dx (br "purses" (.ref pu) (br "common" (.ref cm) (br "bottom" (.ref bt) (br "names" (.ref nm) (br "ashore" (.ref as) (br "aboard" (.ref ab) (br "places" (.ref pl) []))))))))=H17 at *;clear M15 M16;have m:=M17.m;have BF:∀{a:Addr}{o:HO}{c:qP}{ρ2:eF},(H17 a=some o/\ρ2 a=some c/\a≠p)->H17 a=some o/\bY ρ2 p (n,0,⟨#[]⟩) a=some c:=λh=>⟨h.1,by rw[b8 h.2.2];exact h.2.1⟩
 have a1:=BF (m _ (.head _));have a2:=BF (m _ (.tail _ (.head _)));have a3:=BF (m _ (.tail _ (.tail _ (.head _))));have a4:=BF (m _ (.tail _ (.tail _ (.tail _ (.head _)))));have a5:=BF (m _ (.tail _ (.tail _ (.tail _ (.tail _ (.head _))))));have a6:=BF (m _ (.tail _ (.tail _ (.tail _ (.tail _ (.tail _ (.head _)))))));have a7:=BF (m _ (.tail _ (.tail _ (.tail _ (.tail _ (.tail _ (.tail _ (.head _))))))));have a8:=BF (m _ (.tail _ (.tail _ (.tail _ (.tail _ (.tail _ (.tail _ (.tail _ (.head _)))))))));have a9:=BF (m _ (.tail _ (.tail _ (.tail _ (.tail _ (.tail _ (.tail _ (.tail _ (.tail _ (.head _))))))))));refine q (bY _ p (n,0,⟨#[]⟩)) ⟨p,dx,pl,ab,as,nm,bt,db,cm,pu,sp,kn,[]⟩ H17 rfl ⟨M17.g.color ac0 rfl,⟨ac0,cX,a9.1,a9.2,a8.1,a8.2,⟨[],a7.1,.nil⟩,a7.2,a6.1,a6.2,a5.1,a5.2,a2.1,a2.2,a1.1,a1.2,a4.1,a4.2,⟨[],a3.1,(λx hx=>absurd hx (by simp)),aL _,xF⟩,a3.2,Z,λi x y ex=>by simp[hs0]at ex⟩,wf0⟩ (λb o e hb=>?_);obtain⟨x,y⟩:=M17.k b o e hb;exact⟨x,by rw[b8 hb];exact y⟩
abbrev qa:Stmt:=inClass (top 21) 27
abbrev mR:Da Str:=["self","amounts"]
abbrev Fl:Da Str:=mR.append ["lost","sums","name","amount","part","many"]
def gi:aQ Fl mR (aD qa):=dm
theorem DL{T:TC}(F:jj K T.hold "given_up" "Hold.given_up" qa f fd)(X:Txt K T)(ff:mg "sum"=none)(jh:mg "zip"=none):Mn P w K mg base 1 T.hold "given_up" mR (Qu T):=by
 refine F.oA gi λ_ _ _ _ H _ Q E hr h=>?_;obtain⟨⟨n,ρ,A,st,d,rs,rfl,h,wf,hd,cd,hle,wk,q⟩⟩:=h;refine⟨_,(@cZ.h _ _ _ (aj (aS (i:=2) gi.nd (aY (Im rfl) (by rfl) ff uD (af (GR (qv 1)) ak)))
  (aj (qt (i:=3) ["common","lost"] [none,some 2] gi.nd rfl rfl rfl (dH K (aN K (qv 0))) (λ_ _ _ _=>(aV (i:=0) (show List.Nodup (["common","lost"] :Da Str)from by decide +kernel))) (λ_ _ _ _=>(aG fk (qv 1) (qv 0))) rfl (by rfl) (by rfl))
  (aj (yQ (fj fT rfl (Dz (qv 1)) (iX K (n:=2) rfl (cS (aV (i:=4) gi.nd) (cS (aV (i:=5) gi.nd) iW))) (aj (aS (i:=6) gi.nd (bD (bU hr) (aN K (qv 0)) (qv 4)))
  (aj (aS (i:=7) gi.nd (aG fk (qv 5) (aN K (qv 6))))
  (au (qt (i:=3) ["old","own","many"] [none,none,some 7] gi.nd rfl rfl rfl (sW K (by rfl) jh (af (qv 3) (af (aN K (qv 6)) ak))) (λ_ _ _ _=>(iX K (n:=2) rfl (cS (aV (i:=0) (show List.Nodup (["old","own","many"] :Da Str)from by decide +kernel)) (cS (aV (i:=1) (show List.Nodup (["old","own","many"] :Da Str)from by decide +kernel)) iW)))) (λ_ _ _ _=>(aG b_ (qv 0) (aG fk (qv 2) (qv 1)))) rfl (by rfl) (by rfl)))))))
  (au (bH (qv 3))))))),?_⟩
 have hcl:st.bX.length<=100:=by rw[wf.gf];exact wf.lF
 have zl:Jm.Sz 1100 (bF rs):=by have:=Jm.Tz (n:=60) (ws:=rs.map (·.2)) (λm hm=>by obtain⟨r,hr,rfl⟩:=aW.mp hm;exact(wk r hr).1);exact this.mono (by rw[aE];omega)
 have zc:∀c∈st.bX,Jm.Sz 8000 c:=λc hc=>Jm.Sz.lQ (by have:=wf.pR c hc;have:=wf.fZ;omega) (wf.pR c hc).2 wf.big;refine⟨_,Z,d,_,Z,.inl hd,λv hv=>⟨v,d,_,rs.map (·.2),Z,aq,.inl (by rw[az (aJ hd hv)];exact hd),by unfold iM;rw[dJ,dJ];rfl,?_⟩⟩;have g1:=aH hv (mK v d);have hd1:=g1 _ _ hd;have h1:=h.mono g1;generalize upd H v (mK v d)=H1 at *;refine⟨_,Z,A.a,T.hold,A.dx,_,_,Z,h1.oa,X.cH,X.AW,Z,A.cm,Z,⟨_,aB.of h1.jR⟩,λl0 gk=>?_⟩;refine iL (J:=vc K A.cm) (n:=(st.bX.map V.int).length) 0 (λi o H'=>aK H1 H'/\o=((st.bX.take i).map λc=>bF rs*c).map V.int) (by rw[aE];omega) ⟨aH gk _,Z⟩ (λi o H' hi _ hp=>⟨_,_,aB.of (hp.1 _ _ h1.jR),bf hi⟩) (λo H' _ hp=>⟨_,aB.of (hp.1 _ _ h1.jR),aL _⟩) ?_ ?_
 .rintro i y o H2 H3 hi fD ha ⟨g,e⟩ ⟨rfl,hy⟩;obtain⟨c,rfl,ec⟩:=gY (hy _ (aB.of (g _ _ h1.jR)));refine⟨_,Z,_,Z,_,_,Z,Z,eX zl (zc c (bg ec)),ha,g.cI gk _,?_⟩;subst e;rw[take_snoc ec,bN,bN];rfl
 rintro o H2 fD ha ⟨g2,e⟩;rw[aE,cL]at e;subst e;have Jh:=g1.trans g2;have hd2:=g2 _ _ hd1;have h2:=h1.mono g2;have hn0:H l0=none:=g1.free gk;refine⟨d,_,hd2,λob=>⟨_,Z,d,ob,_,Z,aq,?_⟩⟩;have al:=zV rs;refine vQ (n:=(iM rs).length) (λi σ H'=>aK (upd H2 d (.gy ob (.dK (iM rs)))) H'/\∃l s4 s5 s6 s7,σ=[some (.ref A.a),some (.ref d),some (.int (bF rs)),some (.ref l),s4,s5,s6,s7]/\H l=none/\H' l=some (.lst (((rs.take i).foldl (kI st) (st.bX.map λc=>bF rs*c)).map V.int))/\((rs.take i).foldl (kI st) (st.bX.map λc=>bF rs*c)).length=st.bX.length)
  ⟨aK.refl _,l0,_,_,_,_,Z,hn0,fU hd2 ha (λk z=>by cases z),by rw[List.take_zero,List.foldl_nil,aE]⟩ (λi σ H' hi hp=>⟨hp.1 _ _ aq,hi⟩) (λσ H' hp=>⟨hp.1 _ _ aq,aL _⟩) ?_ ?_
 .rintro i x σ H3 H4 hi ⟨g,l,s4,s5,s6,s7,rfl,EA,hl,hsl⟩ ⟨pp,kv,hpp,hkv,rfl,rfl⟩;unfold iM at hkv;rw[bV]at hkv;obtain⟨r,er,rfl⟩:=mZ.mp hkv;have hrm:=bg er;obtain⟨zr,p,fF,Fo⟩:=wk r hrm;obtain⟨ip,Av,U9⟩:=m8 fF;have ep:st.ah[ip]?=some p:=by rw[bf Av,U9]
  have epg:cO st r.1=p:=by rw[<-Fo];exact Qt wf.fP ep
  have g4:=aH hpp (.tup [.str r.1,.int r.2]);have gg:=g.trans g4;have h2z:∀{b:Addr}{u:HO},H2 b=some u->(∀k,u ≠ .dK k)->upd H3 pp (.tup [.str r.1,.int r.2]) b=some u:=λe k=>gg _ _ (fU hd2 e k);have nab:A.ab≠d:=(CS cd h.ia).symm;obtain⟨qq,eq,k1,k2,_,_⟩:=h2.find ep;have hab:upd H3 pp (.tup [.str r.1,.int r.2]) A.ab=some (.dK (cY st.ah A.qs)):=gg _ _ (by rw[az nab];exact h2.fE);have hv:=vD wf.fP ep eq;have hq1:=h2z k1 (λk z=>by cases z);have hq2:=h2z k2 (λk z=>by cases z);have MX:upd H3 pp (.tup [.str r.1,.int r.2]) pp=some (.tup [.str r.1,.int r.2]):=aq;have Ji:=g4 _ _ hl;have hno:∀{b:Addr},upd H3 pp (.tup [.str r.1,.int r.2]) b=none->H b=none:=λ{b} e=>by have e1:=sQ hd2 (gg.free e);exact Jh.free e1
  have U_:upd H3 pp (.tup [.str r.1,.int r.2]) A.a=some (.ins T.hold A.dx (kH A)):=h2z h2.oa (λk z=>by cases z);show Df K 2 _ _ _ (upd H3 pp (.tup [.str r.1,.int r.2])) _;generalize upd H3 pp (.tup [.str r.1,.int r.2])=H4 at *;refine⟨pp,_,Z,dU.of MX,Z,_,_,Z,_,_,Z,Z,?_⟩;refine⟨_,Z,A.a,T.hold,A.dx,_,_,Z,U_,X.cH,X.hab,Z,_,Z,A.ab,_,Z,by rw[<-Fo];exact hv▸cg.k (k:=Sum.inr p.nm) hab,?_⟩;have zs:Jm.Sz 8000 p.sc:=Jm.Sz.lQ (by have:=wf.qR p fF;have:=wf.fZ;omega) (wf.qR p fF).2 wf.big;refine⟨_,Z,_,Z,qq.1,T.part,qq.2.1,_,_,Z,hq1,X.cP,X.Ip,Z,_,_,Z,Z,eX zr zs,?_⟩;have erl:p.row.length=st.bX.length:=by rw[wf.rows p fF,wf.gf]
  generalize eS:(rs.take i).foldl (kI st) (st.bX.map λc=>bF rs*c)=S at *;refine⟨_,Z,_,Z,qq.1,T.part,qq.2.1,_,_,Z,hq1,X.cP,X.LJ,Z,_,_,_,_,_,_,Z,.lst (aB.of Ji),.lst (aB.of hq2),λAp Bi=>?_⟩;refine AS (K:=K) (n:=S.length) [0,1] (λj out H5=>aK H4 H5/\out=(List.zipWith (λold own=>old+(r.2*p.sc)*own) (S.take j) (p.row.take j)).map V.int) (by decide) (by omega) ⟨aH Bi _,Z⟩ (λj out H5 hj _ hp=>⟨aB.of (hp.1 _ _ Ji),aB.of (hp.1 _ _ hq2),by rw[aE];exact hj,by rw[aE];omega⟩)
   (λout H5 _ hp=>⟨aB.of (hp.1 _ _ Ji),aB.of (hp.1 _ _ hq2),.inl (by rw[aE];exact aL _)⟩) ?_ ?_
  .rintro j x out H5 H6 hj Hi ha2 ⟨g5,e5⟩ ⟨p2,x1,y1,hp2,rfl,rfl,e1,e2⟩;obtain⟨t,rfl,et⟩:=gY e1;obtain⟨c,rfl,ec⟩:=gY e2;have g6:=aH hp2 (.tup [.int t,.int c]);have zw:Jm.Sz 8000 c:=Jm.Sz.lQ (wf.oF p fF c (bg ec)).1 (wf.oF p fF c (bg ec)).2 wf.big;refine⟨p2,_,Z,dU.of aq,Z,_,Z,_,Z,_,Z,_,_,Z,Z,eX (zr.mul zs) zw,_,_,Z,Z,g6 _ _ ha2,(g5.trans g6).cI Bi _,?_⟩;rw[ng _ et ec,e5,bN];rfl
  rintro out H5 Hi ha2 ⟨g5,e5⟩;rw[cL,hsl,<-erl,cL]at e5;have eN:(rs.take (i+1)).foldl (kI st) (st.bX.map λc=>bF rs*c)=List.zipWith (λold own=>old+(r.2*p.sc)*own) S p.row:=by rw[take_snoc er,Gu,eS];show kI st S r=_;unfold kI;rw[epg]
  refine⟨gg.trans g5,Ap,_,_,_,_,Z,hno Bi,?_,?_⟩
  .rw [eN,ha2,e5]
  .rw [eN,kF];omega
 rintro σ H3 ⟨g,l,s4,s5,s6,s7,rfl,EA,hl,hsl⟩;rw[al,cL]at hl;refine⟨g _ _ aq,_,Z,?_⟩;have nl:l≠d:=λe=>by rw[e,hd]at EA;cases EA
 exact q l _ (Jh.trans (vW hd2 g)) EA (by rw[az nl];exact hl)
abbrev tD:Stmt:=inClass (top 21) 23
abbrev lW:Da Str:=["self","name","amount"]
abbrev JA:Da Str:=lW.append ["part"]
def yZ:aQ JA lW (aD tD):=dm
theorem Hj{T:TC}(F:jj K T.hold "lessen" "Hold.lessen" tD f fd)(X:Txt K T):Mn P w K mg base 1 T.hold "lessen" lW (LZ T):=by
 refine F.oA yZ λ_ _ _ _ H _ Q E hr h=>?_;obtain⟨⟨n,ρ,A,st,r,rfl,hh,⟨p,fF,Fo,hle⟩,wf',q⟩⟩:=h;have h:=hh.h;have nd:=hh.wf.fP;refine⟨_,(@cZ.h _ _ _ (aj (aS (i:=3) yZ.nd (bD (bU hr) (aN K (qv 0)) (qv 1)))
  (aj (rj K (qv 3) (qv 2) Ld)
  (au (gh (aR dG (aN K (qv 3)) ai (aZ _)) (au (QB (aN K (qv 0)) (qv 1))) bM))))),?_⟩
 obtain⟨ip,Av,U9⟩:=m8 fF;have ep:st.ah[ip]?=some p:=by rw[bf Av,U9]
 obtain⟨qq,eq,k1,k2,k3,k4⟩:=h.find ep;have hv:=vD nd ep eq;refine⟨_,Z,A.a,T.hold,A.dx,_,_,Z,h.oa,X.cH,X.hab,Z,_,Z,A.ab,_,Z,by rw[<-Fo];exact hv▸cg.k (k:=Sum.inr p.nm) h.fE,?_⟩;refine⟨_,Z,qq.1,T.part,qq.2.1,_,_,Z,k1,X.cP,X.xR,Z,_,Z,_,_,Z,Z,qq.2.1,_,k1,by show 6<1000;decide,?_⟩;have h1:=h.lT (p1:={ p with wo:=p.wo-r.2 }) hh.g ep eq rfl rfl nd;have g1:=hh.g.wr (a:=qq.1) (o:=.ins T.part qq.2.1 (dI { p with wo:=p.wo-r.2 } qq.2.2)) rfl;have F1:Fr n ρ H ρ (upd H qq.1 (.ins T.part qq.2.1 (dI { p with wo:=p.wo-r.2 } qq.2.2))):=Fr.write k3;show Wr _ _ _ _ _ (upd H qq.1 (.ins T.part qq.2.1 (dI { p with wo:=p.wo-r.2 } qq.2.2)));have QV:upd H qq.1 (.ins T.part qq.2.1 (dI { p with wo:=p.wo-r.2 } qq.2.2)) qq.1=some (.ins T.part qq.2.1 (dI { p with wo:=p.wo-r.2 } qq.2.2)):=aq;generalize upd H qq.1 (.ins T.part qq.2.1 (dI { p with wo:=p.wo-r.2 } qq.2.2))=H1 at *;have el:eU st r={ st with ah:=if p.wo-r.2=0 then st.ah.eraseIdx ip else st.ah.set ip { p with wo:=p.wo-r.2 } }:=by unfold eU;rw[<-Fo,L1 nd (λx hx=>by have:=hh.wf.jS x hx;omega) ep]
 rw[el]at wf' q;refine⟨λσ' H'=>Q .cy H',?_,λ_ _ z=>z⟩;refine⟨_,Z,qq.1,T.part,qq.2.1,_,_,Z,QV,X.cP,X.xR,Z,Z,_,Z,c6 (λc=>?_) (λc=>?_)⟩
 .have c':p.wo-r.2=0:=V.int.inj (dN c);rw[ay c']at wf' q;have nd1:((st.ah.set ip { p with wo:=p.wo-r.2 }).map (λx:Pt=>x.nm)).Nodup:=by rw[kL,show({ p with wo:=p.wo-r.2 }:Pt).nm=p.nm from rfl,nq (by rw[bV,ep];rfl)];exact nd
  have ep1:(st.ah.set ip { p with wo:=p.wo-r.2 })[ip]?=some { p with wo:=p.wo-r.2 }:=kC Av;have dk:=Dr nd1 h1.ql ep1;rw[List.eraseIdx_set_eq]at dk;have hv1:=vD nd1 ep1 eq;refine⟨_,Z,A.a,T.hold,A.dx,_,_,Z,h1.oa,X.cH,X.hab,Z,_,Z,A.ab,_,Sum.inr r.1,Z,h1.fE,Z,?_,?_⟩
  .rw [<-Fo];show(eL (cY (st.ah.set ip { p with wo:=p.wo-r.2 }) A.qs) (Sum.inr p.nm)).isSome=true;rw[show eL (cY (st.ah.set ip { p with wo:=p.wo-r.2 }) A.qs) (Sum.inr p.nm)=_ from hv1];rfl
  .show Q .cy (upd H1 A.ab (.dK (nN (cY (st.ah.set ip { p with wo:=p.wo-r.2 }) A.qs) (Sum.inr r.1))));rw[<-Fo,show nN (cY (st.ah.set ip { p with wo:=p.wo-r.2 }) A.qs) (Sum.inr p.nm)=_ from dk];have hi2:ip<A.qs.length:=by rw[h.ql];exact Av
   have h2:=h1.LI g1 (st.ah.eraseIdx ip) (A.qs.eraseIdx ip) (by rw[Rb Av,Rb hi2,h.ql]) (λj x y ex ey=>by rw[<-List.eraseIdx_set_eq (l:=st.ah) (i:=ip) (a:={ p with wo:=p.wo-r.2 })]at ex;obtain⟨k,a1,a2⟩:=A8 ex ey;exact h1.opt k x y a1 a2)
   exact q ρ _ _ ⟨g1.wr rfl,h2,wf'⟩ rfl (F1.trans (Fr.write h1.ia))
 .have c':¬ p.wo-r.2=0:=λe=>c (bR (by rw[e]));rw[av c']at wf' q;exact q ρ A H1 ⟨g1,h1,wf'⟩ rfl F1
abbrev uT:Stmt:=inClass (top 21) 28
abbrev nF:Da Str:=["self","kept","whole","added"]
abbrev MY:Da Str:=nF.append ["scales","common","shared","part","scale"]
def jT:aQ MY nF (aD uT):=dm
theorem JB{T:TC}(F:jj K T.hold "blend" "Hold.blend" uT f fd)(X:Txt K T)(rF:Dn P w K mg base 2 "factor_of_all" mQ (Ul K))(uU:Mn P w K mg base 1 T.bot "grow" pG (Um T))(jh:mg "zip"=none):Mn P w K mg base 3 T.hold "blend" nF (GJ T K):=by
 refine F.oA jT λ_ _ _ _ H _ Q E hr h=>?_;obtain⟨⟨n,ρ,A,st,kept,whole,la,added,rfl,hh,hla,hal,k0,w0,kz,wz,haz,hpz,hsl,wf',q⟩⟩:=h;refine⟨_,(@cZ.h _ _ _ (aj (yQ (qt (i:=4) ["part","kept"] [none,some 1] jT.nd rfl rfl rfl (Co (aN K (qv 0))) (λ_ _ _ _=>(aV (i:=0) (show List.Nodup (["part","kept"] :Da Str)from by decide +kernel))) (λ_ _ _ _=>(aG fk (aN K (qv 0)) (qv 1))) rfl (by rfl) (by rfl)))
  (aj (qt (i:=5) ["top","more","kept"] [none,none,some 1] jT.nd rfl rfl rfl (sW K (by rfl) jh (af (aN K (qv 0)) (af (qv 3) ak))) (λ_ _ _ _=>(iX K (n:=2) rfl (cS (aV (i:=0) (show List.Nodup (["top","more","kept"] :Da Str)from by decide +kernel)) (cS (aV (i:=1) (show List.Nodup (["top","more","kept"] :Da Str)from by decide +kernel)) iW)))) (λ_ _ _ _=>(aG b_ (aG fk (qv 0) (qv 2)) (qv 1))) rfl (by rfl) (by rfl))
  (aj (aS (i:=6) jT.nd (bh rF hr (af (qv 2) (af (aG Tj (qv 4) (qv 5)) ak))))
  (aj (yQ (fj fT rfl (sW K (by rfl) jh (af (GR (aN K (qv 0))) (af (qv 4) ak))) (iX K (n:=2) rfl (cS (aV (i:=7) jT.nd) (cS (aV (i:=8) jT.nd) iW))) (au (eE K (qv 7) (aG iC (qv 8) (qv 6))))))
  (aj (eE K (qv 0) (iE ["top","shared"] [none,some 6] rfl (dH K (qv 5)) (λ_ _ _ _=>(aV (i:=0) (show List.Nodup (["top","shared"] :Da Str)from by decide +kernel))) (λ_ _ _ _=>(aG iC (qv 0) (qv 1))) rfl (by rfl)))
  (aj (eE K (qv 0) (iE ["purse","whole","shared"] [none,some 2,some 6] rfl (dH K (aN K (qv 0))) (λ_ _ _ _=>(aV (i:=0) (show List.Nodup (["purse","whole","shared"] :Da Str)from by decide +kernel))) (λ_ _ _ _=>(aG fk (qv 0) (aG iC (qv 1) (qv 2)))) rfl (by rfl)))
  (au (bQ (bZ uU hr (aN K (qv 0)) (af (aG iC (qv 2) (qv 6)) ak))))))))))),?_⟩
 have hpl:=hh.wf.qQ;have nd:=hh.wf.fP;have hcl:st.bX.length<=100:=by rw[hh.wf.gf];exact hh.wf.lF
 have zsc:∀p∈st.ah,Jm.Sz 8000 p.sc:=λp hp=>Jm.Sz.lQ (by have:=hh.wf.qR p hp;have:=hh.wf.fZ;omega) (hh.wf.qR p hp).2 hh.wf.big;have zcm:∀c∈st.bX,Jm.Sz 8000 c:=λc hc=>Jm.Sz.lQ (by have:=hh.wf.pR c hc;have:=hh.wf.fZ;omega) (hh.wf.pR c hc).2 hh.wf.big;have h:=hh.h;refine⟨A.ab,_,h.fE,λob=>?_⟩;refine⟨_,Z,A.a,T.hold,A.dx,_,_,Z,fU h.fE h.oa (λk z=>by cases z),X.cH,X.hab,Z,A.ab,ob,_,Z,aq,λl1 hl1=>?_⟩;have el:=yK h.ql;refine iL (n:=st.ah.length) 0 (λi out H1=>aK (upd H A.ab (.gy ob (.dK (cY st.ah A.qs)))) H1/\out=((st.ah.take i).map λp:Pt=>p.sc*kept).map V.int) (by omega) ⟨aH hl1 _,Z⟩ (λi out H1 hi _ hp=>⟨hp.1 _ _ aq,by rw[el];exact hi⟩) (λout H1 _ hp=>⟨hp.1 _ _ aq,by rw[el];exact aL _⟩) ?_ ?_
 .rintro i x out H1 H2 hi fD ha ⟨g,e⟩ ⟨rfl,kv,hkv,rfl⟩;have ep:=bf hi;obtain⟨qq,eq,k1,k2,_⟩:=h.find ep;rw[yJ ep eq]at hkv;cases hkv;have hq:=g _ _ (fU h.fE k1 (λk z=>by cases z));refine⟨_,Z,qq.1,T.part,qq.2.1,_,_,Z,hq,X.cP,X.Ip,Z,_,Z,_,_,Z,Z,eX (zsc _ (zm hi)) kz,ha,g.cI hl1 _,?_⟩;subst e;rw[take_snoc ep,bN,bN];rfl
 rintro o1 H1 akN ha1 ⟨g1,e1⟩;rw[cL]at e1;have hz1:=g1 _ _ (aq (H:=H) (a:=A.ab) (o:=.gy ob (.dK (cY st.ah A.qs))));have na1:l1≠A.ab:=λe=>by rw[e,hz1]at ha1;cases ha1
 refine⟨hz1,?_⟩;have s2:aK H (upd H1 A.ab (.dK (cY st.ah A.qs))):=vW h.fE g1;have akO:H l1=none:=sQ h.fE hl1;have ha2:upd H1 A.ab (.dK (cY st.ah A.qs)) l1=some (.lst ((jr st kept).map V.int)):=by rw[az na1,ha1,e1];rfl
 generalize upd H1 A.ab (.dK (cY st.ah A.qs))=H2 at *;clear g1 hz1 ha1 e1;have h2:=h.mono s2;have Sf:=s2.seq hla;refine⟨_,Z,A.a,T.hold,A.dx,_,_,Z,h2.oa,X.cH,X.AW,Z,_,Z,_,_,_,_,_,_,Z,.lst (aB.of h2.jR),.lst Sf,λl2 hl2=>?_⟩;refine AS (K:=K) (n:=st.bX.length) [0,1] (λi out H3=>aK H2 H3/\out=(List.zipWith (λt m=>t*kept+m) (st.bX.take i) (added.take i)).map V.int) (by decide) (by omega) ⟨aH hl2 _,Z⟩ (λi out H3 hi _ hp=>⟨aB.of (hp.1 _ _ h2.jR),hp.1.seq Sf,by rw[aE];exact hi,by rw[aE];omega⟩)
  (λout H3 _ hp=>⟨aB.of (hp.1 _ _ h2.jR),hp.1.seq Sf,.inl (by rw[aE];exact aL _)⟩) ?_ ?_
 .rintro i x out H3 H4 hi fD ha ⟨g,e⟩ ⟨p,x1,y1,hp,rfl,rfl,e1,e2⟩;obtain⟨t,rfl,et⟩:=gY e1;obtain⟨c,rfl,ec⟩:=gY e2;have g1:=aH hp (.tup [.int t,.int c]);refine⟨p,_,Z,dU.of aq,Z,_,Z,_,Z,_,_,Z,Z,eX (zcm t (bg et)) kz,_,Z,_,_,Z,Z,g1 _ _ ha,(g.trans g1).cI hl2 _,?_⟩;rw[ng _ et ec,e,bN];rfl
 rintro o2 H3 Hi Va ⟨g3,e3⟩;rw[cL,<-hal,cL]at e3;have ec3:o2=(gJ st kept added).map V.int:=e3;subst ec3;have s3:=s2.trans g3;have h3:=h.mono s3;have Xn:=g3 _ _ ha2;have akP:H l2=none:=s2.free hl2;have n12:l1≠l2:=λe=>by rw[e,hl2]at ha2;cases ha2
 clear e3 h2 Sf g3 ha2 s2;have lsc:(jr st kept).length=st.ah.length:=by unfold jr;rw[aE]
 have lcm:(gJ st kept added).length=st.bX.length:=by unfold gJ;rw[kF,hal,zy]
 refine⟨_,Z,_,Z,_,Z,l1,l2,_,_,Z,Z,Xn,Va,by rw[aE,aE,lsc,lcm];exact fY (Nat.add_le_add hpl hcl) (by rw[mH];decide),λp3 hp3=>?_⟩;rw[<-bN];have g4:=aH hp3 (.lst ((jr st kept++gJ st kept added).map V.int));refine⟨⟨whole,p3,_,Z,aB.of aq,by omega,?_,?_⟩⟩
 .intro t ht;rcases c7.mp ht with z|z
  .unfold jr at z;obtain⟨p,hp,rfl⟩:=aW.mp z;exact kJ (by have:=hh.wf.qR p hp;omega) (by omega)
  .obtain ⟨c,hc,m,hm,rfl⟩:=vX (show t∈List.zipWith _ st.bX added from z);have a1:=kJ (hh.wf.pR c hc).1 (by omega:0<=kept);have a2:=(haz m hm).1;omega
 have s4:=s3.trans g4;have h4:=h.mono s4;have G4:=hh.g.same s4;have F4:Fr n ρ H ρ (upd H3 p3 (.lst ((jr st kept++gJ st kept added).map V.int))):=Fr.of_same s4;have b1:=g4 _ _ Xn;have b2:=g4 _ _ Va;generalize upd H3 p3 (.lst ((jr st kept++gJ st kept added).map V.int))=H4 at *;clear Xn Va s3 h3 g4;obtain⟨sd,Ym⟩:∃sd,sd=cA st kept whole added:=⟨_,rfl⟩
 rw[show qU whole (jr st kept++gJ st kept added)=sd from Ym.symm];have sp:0<sd:=by rw[Ym];exact Ba _ _ w0
 have UA:sd∣whole:=by rw[Ym];exact(A_ _ _).1
 have sz:Jm.Sz 60 sd:=wz.dvd w0 (by omega) UA;have wq:0<whole / sd:=Int.ediv_pos_of_pos_of_dvd w0 (by omega) UA;have wqz:Jm.Sz 60 (whole / sd):=wz.ediv sp;have Yn:∀{i:Int},Cc i sd:=λ{i}=>vN sp (sz.mono (by decide));refine⟨A.ab,_,h4.fE,λVb=>?_⟩;refine⟨_,Z,A.a,T.hold,A.dx,_,_,Z,fU h4.fE h4.oa (λk z=>by cases z),X.cH,X.hab,Z,A.ab,_,Z,.inr ⟨Vb,aq⟩,λv hv=>?_⟩;have nva:v≠A.ab:=λe=>by rw[e,aq]at hv;cases hv
 have Yo:H4 v=none:=sQ h4.fE hv;have g5:=aH Yo (mK v A.ab);have hv5:upd H4 v (mK v A.ab) v=some (mK v A.ab):=aq;rw[lG (cJ nva)];have h5:=h4.mono g5;have G5:=G4.same g5;have F5:=F4.trans (Fr.of_same (ρ:=ρ) g5);have s5:=s4.trans g5;have c1:=g5 _ _ b1;have c2:=g5 _ _ b2;generalize upd H4 v (mK v A.ab)=H5 at *;clear h4 G4 F4 s4 b1 b2 g5;refine⟨_,Z,_,_,_,_,_,_,Z,.vals (fU h5.fE hv5 (λk z=>by cases z)) aq,.lst (aB.of (fU h5.fE c1 (λk z=>by cases z))),?_⟩;have exl:((cY st.ah A.qs).map λp=>p.2).length=st.ah.length:=by rw[aE];exact el
 have eyl:((jr st kept).map V.int).length=st.ah.length:=by rw[aE];exact lsc
 refine vQ (n:=st.ah.length) (λi σ H'=>(∃s7 s8,σ=[some (.ref A.a),some (.int kept),some (.int whole),some (.ref la),some (.ref l1),some (.ref l2),some (.int sd),s7,s8])/\∃H6,H'=upd H6 A.ab (.gy Vb (.dK (cY st.ah A.qs)))/\Gh ρ H6/\Fr n ρ H ρ H6/\aX T n ρ A H6 { st with ah:=(st.ah.take i).map (λp=>{ p with sc:=p.sc*kept / sd })++st.ah.drop i }/\H6 l1=some (.lst ((jr st kept).map V.int))/\H6 l2=some (.lst ((gJ st kept added).map V.int))/\(∀b,H6 b=none->H b=none))
  ⟨⟨_,_,Z⟩,H5,Z,G5,F5,h5,c1,c2,λb e=>s5.free e⟩ ?_ ?_ ?_ ?_
 .rintro i σ H' hi ⟨_,H6,rfl,G6,F6,h6,d1,d2,fr⟩;have e6:cY ({ st with ah:=(st.ah.take i).map (λp:Pt=>{ p with sc:=p.sc*kept / sd })++st.ah.drop i }:HS).ah A.qs=cY st.ah A.qs:=qp (sR (λp:Pt=>{ p with sc:=p.sc*kept / sd }) (λp:Pt=>p.nm) (λ_=>rfl) st.ah i);have tE:=h6.fE;rw[e6]at tE;exact⟨aq,aB.of (fU tE d1 (λk z=>by cases z)),by rw[exl];exact hi,by rw[eyl];exact hi⟩
 .rintro σ H' ⟨_,H6,rfl,G6,F6,h6,d1,d2,fr⟩;have e6:cY ({ st with ah:=(st.ah.take st.ah.length).map (λp:Pt=>{ p with sc:=p.sc*kept / sd })++st.ah.drop st.ah.length }:HS).ah A.qs=cY st.ah A.qs:=qp (sR (λp:Pt=>{ p with sc:=p.sc*kept / sd }) (λp:Pt=>p.nm) (λ_=>rfl) st.ah _);have tE:=h6.fE;rw[e6]at tE;exact⟨aq,aB.of (fU tE d1 (λk z=>by cases z)),.inl (by rw[exl];exact aL _)⟩
 .rintro i x σ H' ER hi ⟨⟨s7,s8,rfl⟩,H6,rfl,G6,F6,h6,d1,d2,fr⟩ ⟨pp,x1,y1,hpp,rfl,rfl,ex,ey⟩;have ep:=bf hi;have ep6:=LV (λp:Pt=>{ p with sc:=p.sc*kept / sd }) ep;obtain⟨qq,eq,k1,k2,k3,k4⟩:=h6.find ep6;have nm6:=sR (λp:Pt=>{ p with sc:=p.sc*kept / sd }) (λp:Pt=>p.nm) (λ_=>rfl) st.ah i;have e6:cY ({ st with ah:=(st.ah.take i).map (λp:Pt=>{ p with sc:=p.sc*kept / sd })++st.ah.drop i }:HS).ah A.qs=cY st.ah A.qs:=qp nm6;have tE:=h6.fE;rw[e6]at tE;rw[bV,yJ ep eq]at ex;cases ex;obtain⟨sc,rfl,esc⟩:=gY ey;have ahX:sc=(st.ah[i]).sc*kept:=by unfold jr at esc;rw[bV,ep]at esc;exact(gP esc).symm
  subst ahX;have npa:pp≠A.ab:=λe=>by rw[e,aq]at hpp;cases hpp
  have ahY:H6 pp=none:=sQ tE hpp;have g7:=aH ahY (.tup [.ref qq.1,.int ((st.ah[i]).sc*kept)]);rw[lG (cJ npa)];have MX:upd H6 pp (.tup [.ref qq.1,.int ((st.ah[i]).sc*kept)]) pp=some (.tup [.ref qq.1,.int ((st.ah[i]).sc*kept)]):=aq;have h7:=h6.mono g7;have G7:=G6.same g7;have F7:=F6.trans (Fr.of_same (ρ:=ρ) g7);have Xo:=g7 _ _ tE;have f1:=g7 _ _ d1;have f2:=g7 _ _ d2;have TJ:∀b,upd H6 pp (.tup [.ref qq.1,.int ((st.ah[i]).sc*kept)]) b=none->H b=none:=λb e=>fr b (g7.free e);have QV:=g7 _ _ k1;generalize upd H6 pp (.tup [.ref qq.1,.int ((st.ah[i]).sc*kept)])=H7 at *;refine⟨pp,_,Z,dU.of (fU Xo MX (λk z=>by cases z)),Z,_,_,Z,_,_,Z,Z,?_⟩;refine⟨_,Z,_,Z,_,_,Z,Z,Yn,_,Z,qq.1,T.part,qq.2.1,_,Z,fU Xo QV (λk z=>by cases z),X.cP,X.Ip,by show 6<1000;decide,?_⟩;have nd7:(((st.ah.take i).map (λp:Pt=>{ p with sc:=p.sc*kept / sd })++st.ah.drop i).map (λp:Pt=>p.nm)).Nodup:=by rw[nm6];exact nd
  have h8:=h7.lT (p1:={ st.ah[i]with sc:=(st.ah[i]).sc*kept / sd }) G7 ep6 eq rfl rfl nd7;rw[show({ st with ah:=(st.ah.take i).map (λp:Pt=>{ p with sc:=p.sc*kept / sd })++st.ah.drop i }:HS).ah.set i { st.ah[i]with sc:=(st.ah[i]).sc*kept / sd }=_ from LW (λp:Pt=>{ p with sc:=p.sc*kept / sd }) ep]at h8;have nqa:A.ab≠qq.1:=(jP QV Xo (by intro z;cases z)).symm;have nq1:l1≠qq.1:=jP f1 QV (by intro z;cases z);have nq2:l2≠qq.1:=jP f2 QV (by intro z;cases z);refine⟨⟨_,_,Z⟩,_,lG nqa,G7.wr rfl,F7.trans (Fr.write k3),h8,by rw[az nq1];exact f1,by rw[az nq2];exact f2,λb e=>TJ b ?_⟩;by_cases z:b=qq.1
  .rw [z,aq]at e;cases e
  .rw [az z]at e;exact e
 rintro σ H' ⟨⟨s7,s8,rfl⟩,H6,rfl,G6,F6,h6,d1,d2,fr⟩;have e6:cY ({ st with ah:=(st.ah.take st.ah.length).map (λp:Pt=>{ p with sc:=p.sc*kept / sd })++st.ah.drop st.ah.length }:HS).ah A.qs=cY st.ah A.qs:=qp (sR (λp:Pt=>{ p with sc:=p.sc*kept / sd }) (λp:Pt=>p.nm) (λ_=>rfl) st.ah _);have tE:=h6.fE;rw[e6]at tE;refine⟨aq,?_⟩;rw[qj,zU tE];rw[show({ st with ah:=(st.ah.take st.ah.length).map (λp:Pt=>{ p with sc:=p.sc*kept / sd })++st.ah.drop st.ah.length }:HS)={ st with ah:=st.ah.map λp:Pt=>{ p with sc:=p.sc*kept / sd } }from by rw[cL,D4,qF]]at h6;clear e6 tE h5 G5 F5 s5 c1 c2 hv5;refine⟨_,Z,l2,Z,⟨_,aB.of d2⟩,λl3 hl3=>?_⟩;refine iL (J:=vc K l2) (n:=((gJ st kept added).map V.int).length) 0 (λi o H'=>aK H6 H'/\o=(((gJ st kept added).take i).map (· / sd)).map V.int) (by rw[aE];omega) ⟨aH hl3 _,Z⟩ (λi o H' hi _ hp=>⟨_,_,aB.of (hp.1 _ _ d2),bf hi⟩) (λo H' _ hp=>⟨_,aB.of (hp.1 _ _ d2),aL _⟩) ?_ ?_
 .rintro i y o Ha Hb hi fD ha ⟨g,e⟩ ⟨rfl,hy⟩;obtain⟨c,rfl,ec⟩:=gY (hy _ (aB.of (g _ _ d2)));refine⟨_,Z,_,Z,_,_,Z,Z,Yn,ha,g.cI hl3 _,?_⟩;subst e;rw[take_snoc ec,bN,bN];rfl
 rintro o3 H8 akQ MZ ⟨g8,e8⟩;rw[aE,cL]at e8;subst e8;have h8:=h6.mono g8;have G8:=G6.same g8;have F8:=F6.trans (Fr.of_same (ρ:=ρ) g8);have fr8:∀b,H8 b=none->H b=none:=λb e=>fr b (g8.free e);have c3:ρ l3=none:=G6.none hl3;have n3:H l3=none:=fr l3 hl3;refine⟨_,Z,A.a,T.hold,A.dx,_,Z,h8.oa,X.cH,X.AW,by show 7<1000;decide,?_⟩;obtain⟨h9,G9⟩:=Bb (t:=6) h8 G8 c3 MZ rfl;have F9:Fr n ρ H (bY ρ l3 (n,6,⟨#[]⟩)) H8:=F8.jI n3;have Ar:=h9.abO G9 l3 _ MZ cX;have G10:=G9.wr (a:=A.a) (o:=.ins T.hold A.dx (kH { A with cm:=l3 })) rfl;have F10:=F9.trans (Fr.write (o:=.ins T.hold A.dx (kH { A with cm:=l3 })) h9.ca);show vH _ _ _ _ (upd H8 A.a (.ins T.hold A.dx (kH { A with cm:=l3 })));have ahZ:∀b,upd H8 A.a (.ins T.hold A.dx (kH { A with cm:=l3 })) b=none->H b=none:=λb e=>fr8 b (by
  by_cases z:b=A.a
  .rw [z,aq]at e;cases e
  .rw [az z]at e;exact e)
 generalize upd H8 A.a (.ins T.hold A.dx (kH { A with cm:=l3 }))=LA at *;clear h6 G6 F6 h8 G8 F8 h9 G9 F9 MZ g8 fr8 fr d1 d2;refine⟨_,Z,A.a,T.hold,A.dx,_,_,Z,Ar.oa,X.cH,X.AX,Z,A.pu,Z,⟨_,aB.of Ar.lS⟩,λl4 Ji=>?_⟩;have akR:st.bJ.length<=100:=by rw[hh.wf.mC];exact hh.wf.lF
 refine iL (J:=vc K A.pu) (n:=(st.bJ.map V.int).length) 0 (λi o H'=>aK LA H'/\o=((st.bJ.take i).map (·*(whole / sd))).map V.int) (by rw[aE];omega) ⟨aH Ji _,Z⟩ (λi o H' hi _ hp=>⟨_,_,aB.of (hp.1 _ _ Ar.lS),bf hi⟩) (λo H' _ hp=>⟨_,aB.of (hp.1 _ _ Ar.lS),aL _⟩) ?_ ?_
 .rintro i y o Ha Hb hi fD ha ⟨g,e⟩ ⟨rfl,hy⟩;obtain⟨c,rfl,ec⟩:=gY (hy _ (aB.of (g _ _ Ar.lS)));refine⟨_,Z,_,Z,_,Z,_,_,Z,Z,Yn,_,_,Z,Z,eX (hpz c (bg ec)) wqz,ha,g.cI Ji _,?_⟩;subst e;rw[take_snoc ec,bN,bN];rfl
 rintro o4 H11 akS ac5 ⟨g11,e11⟩;rw[aE,cL]at e11;subst e11;have h11:=Ar.mono g11;have G11:=G10.same g11;have F11:=F10.trans (Fr.of_same (ρ:=bY ρ l3 (n,6,⟨#[]⟩)) g11);have c4:bY ρ l3 (n,6,⟨#[]⟩) l4=none:=G10.none Ji;have n4:H l4=none:=ahZ l4 Ji;refine⟨_,Z,A.a,T.hold,A.dx,_,Z,h11.oa,X.cH,X.AX,by show 7<1000;decide,?_⟩;obtain⟨h12,G12⟩:=Bb (t:=7) h11 G11 c4 ac5 rfl;have F12:Fr n ρ H (bY (bY ρ l3 (n,6,⟨#[]⟩)) l4 (n,7,⟨#[]⟩)) H11:=F11.jI n4;have h13:=h12.Ud G12 l4 _ ac5 cX;have G13:=G12.wr (a:=A.a) (o:=.ins T.hold A.dx (kH { { A with cm:=l3 }with pu:=l4 })) rfl;have F13:=F12.trans (Fr.write (o:=.ins T.hold A.dx (kH { { A with cm:=l3 }with pu:=l4 })) h12.ca);rw[show br "purses" (V.ref l4) (kH { A with cm:=l3 })=kH { { A with cm:=l3 }with pu:=l4 }from rfl];generalize upd H11 A.a (.ins T.hold A.dx (kH { { A with cm:=l3 }with pu:=l4 }))=H13 at *;refine⟨_,Z,A.a,T.hold,A.dx,_,_,Z,h13.oa,X.cH,X.vS,Z,A.bt,A.db,_,Z,h13.jE,Z,_,Z,_,Z,_,_,Z,Z,Yn,?_⟩;refine⟨⟨n,_,{ { A with cm:=l3 }with pu:=l4 },{ st with ah:=st.ah.map (λp:Pt=>{ p with sc:=p.sc*kept / sd }),bX:=(gJ st kept added).map (· / sd),bJ:=st.bJ.map (·*(whole / sd)) },whole / sd,Z,G13,h13,by show st.stp.length<=1000;omega,hh.wf.big.mono (by decide),wqz.mono (by decide),λρ' A' H' a1 a2 a3 a4=>?_⟩⟩;have eb:bu st kept whole added=f7 { st with ah:=st.ah.map (λp:Pt=>{ p with sc:=p.sc*kept / sd }),bX:=(gJ st kept added).map (· / sd),bJ:=st.bJ.map (·*(whole / sd)) } (whole / sd):=by unfold bu;rw[Ym]
 rw[eb]at wf' q;exact q ρ' A' H' ⟨a1,a2,wf'⟩ a3 (F13.trans a4)
abbrev wI:Stmt:=inClass (top 21) 3
abbrev oY:Da Str:=["self","rows"]
abbrev OG:Da Str:=oY.append ["amounts","name","amount","whole","lost"]
def iP:aQ OG oY (aD wI):=dm
theorem M_{T:TC}(F:jj K T.hold "cast" "Hold.cast" wI f fd)(X:Txt K T)(wJ:Dn P w K mg base 1 "amounts_of" rC (Uk K))(nG:Dn P w K mg base 2 "check_loss" nE Yb)(cV:Mn P w K mg base 1 T.hold "part_of" fJ (Dm T))(iy:Mn P w K mg base 1 T.hold "whole" kW (Cj T))(kY:Mn P w K mg base 3 T.hold "blend" nF (GJ T K))(rG:Mn P w K mg base 1 T.hold "given_up" mR (Qu T))(jU:Mn P w K mg base 1 T.hold "lessen" lW (LZ T))(ff:mg "sum"=none):Mn P w K mg base 4 T.hold "cast" oY (L0 T K):=by
 refine F.oA iP λ_ _ _ _ H _ Q E hr h=>?_;obtain⟨⟨n,ρ,A,st,l,us,rs,rfl,hh,hl,hR,ok,q⟩⟩:=h;have wf:=hh.wf;have nd:=ok.nd;refine⟨_,(@cZ.h _ _ _ (aj (aS (i:=2) iP.nd (bh wJ hr (af (qv 1) ak)))
  (aj (yQ (fj fT rfl (Dz (qv 2)) (iX K (n:=2) rfl (cS (aV (i:=3) iP.nd) (cS (aV (i:=4) iP.nd) iW))) (au (bQ (bh nG hr (af (aN K (bZ cV hr (qv 0) (af (qv 3) ak))) (af (qv 4) ak)))))))
  (aj (aS (i:=5) iP.nd (GQ iy hr (qv 0)))
  (aj (aS (i:=6) iP.nd (aY (Im rfl) (by rfl) ff uD (af (GR (qv 2)) ak)))
  (aj (c5 (aR KC (qv 6) (qv 5) (aZ _)) (au gU) bM)
  (aj (bQ (bZ kY hr (qv 0) (af (aG j0 (qv 5) (qv 6)) (af (qv 5) (af (bZ rG hr (qv 0) (af (qv 2) ak)) ak)))))
  (au (yQ (fj fT rfl (Dz (qv 2)) (iX K (n:=2) rfl (cS (aV (i:=3) iP.nd) (cS (aV (i:=4) iP.nd) iW))) (au (bQ (bZ jU hr (qv 0) (af (qv 3) (af (qv 4) ak))))))))))))))),?_⟩
 refine⟨_,Z,⟨⟨l,us,rs,Z,hl,hR,nd,ok.ne,ok.len,λd H1 g1 hdn hd1=>?_⟩⟩⟩;have dB:=hh.mono g1;have F1:Fr n ρ H ρ H1:=Fr.of_same g1;have cd:ρ d=none:=hh.g.none hdn;have al:=zV rs;refine⟨d,_,hd1,λob=>⟨_,Z,d,ob,_,Z,aq,?_⟩⟩;refine vQ (n:=(iM rs).length) (λi σ H'=>aK (upd H1 d (.gy ob (.dK (iM rs)))) H'/\∃s3 s4 s5 s6,σ=[some (.ref A.a),some (.ref l),some (.ref d),s3,s4,s5,s6])
  ⟨aK.refl _,_,_,_,_,Z⟩ (λi σ H' hi hp=>⟨hp.1 _ _ aq,hi⟩) (λσ H' hp=>⟨hp.1 _ _ aq,aL _⟩) ?_ ?_
 .rintro i x σ H3 H4 hi ⟨g,s3,s4,s5,s6,rfl⟩ ⟨pp,kv,hpp,hkv,rfl,rfl⟩;unfold iM at hkv;rw[bV]at hkv;obtain⟨r,er,rfl⟩:=mZ.mp hkv;have hrm:=bg er;obtain⟨r1,zr,p,fF,Fo,hle⟩:=ok.row r hrm;obtain⟨ip,Av,U9⟩:=m8 fF;have ep:st.ah[ip]?=some p:=by rw[bf Av,U9]
  have g4:=aH hpp (.tup [.str r.1,.int r.2]);have gg:=g.trans g4;have hf:HH T n ρ A (upd H1 d (.gy ob (.dK (iM rs)))) st:=dB.EO cd hd1 rfl rfl;have h4:=hf.mono gg;have MX:upd H3 pp (.tup [.str r.1,.int r.2]) pp=some (.tup [.str r.1,.int r.2]):=aq;show Df K 2 _ _ _ (upd H3 pp (.tup [.str r.1,.int r.2])) _;generalize upd H3 pp (.tup [.str r.1,.int r.2])=H4 at *;obtain⟨qq,eq,k1,k2,_,_⟩:=h4.h.find ep;refine⟨pp,_,Z,dU.of MX,Z,_,_,Z,_,_,Z,Z,?_⟩;refine⟨_,Z,A.a,A.dx,_,Z,h4.h.oa,Z,_,Z,⟨⟨n,ρ,A,st,ip,p,qq,by rw[<-Fo];rfl,h4.h,wf.fP,ep,eq,?_⟩⟩⟩;refine⟨qq.1,T.part,qq.2.1,_,_,Z,k1,X.cP,X.xR,Z,_,Z,⟨⟨p.wo,r.2,Z,r1,hle,?_⟩⟩⟩;exact⟨gg,_,_,_,_,Z⟩
 rintro σ H2 ⟨g2,s3,s4,s5,s6,rfl⟩;refine⟨g2 _ _ aq,?_⟩;have gB:=vW hd1 g2;have iZ:=dB.mono gB;have F2:Fr n ρ H ρ (upd H2 d (.dK (iM rs))):=F1.trans (Fr.of_same gB);have hd2:upd H2 d (.dK (iM rs)) d=some (.dK (iM rs)):=aq;generalize upd H2 d (.dK (iM rs))=H2' at *;refine⟨_,Z,A.a,A.dx,_,Z,iZ.h.oa,Z,⟨⟨n,ρ,A,st,Z,iZ.h,wf.qQ,λH3 g3=>?_⟩⟩⟩;have gR:=iZ.mono g3;have QW:=g3 _ _ hd2;have F3:=F2.trans (Fr.of_same (ρ:=ρ) g3);refine⟨_,Z,d,_,Z,.inl QW,λv hv=>⟨v,d,_,rs.map (·.2),Z,aq,.inl (by rw[az (aJ QW hv)];exact QW),by unfold iM;rw[dJ,dJ];rfl,?_⟩⟩;have g4:=aH hv (mK v d);have jL:=gR.mono g4;have hd4:=g4 _ _ QW;have F4:=F3.trans (Fr.of_same (ρ:=ρ) g4);generalize upd H3 v (mK v d)=H4 at *;have bo:=ok.blend wf;refine⟨_,Z,_,Z,_,_,Z,Z,_,Z,c6 (λc=>absurd (dN c) (by have:=ok.lost;show ¬ aI st<=bF rs;omega)) λ_=>?_⟩;refine⟨_,Z,A.a,A.dx,_,Z,jL.h.oa,Z,_,Z,_,Z,_,_,Z,Z,_,Z,_,Z,A.a,A.dx,_,Z,jL.h.oa,Z,_,Z,⟨⟨n,ρ,A,st,d,rs,Z,jL.h,wf,hd4,cd,ok.len,λr hr=>⟨(ok.row r hr).2.1,by obtain⟨p,hp,e,_⟩:=(ok.row r hr).2.2;exact⟨p,hp,e⟩⟩,λl5 H5 g5 hn5 hl5=>?_⟩⟩⟩;have C3:=jL.mono g5;have hd5:=g5 _ _ hd4;have F5:=F4.trans (Fr.of_same (ρ:=ρ) g5);have zk:Jm.Sz 60 (aI st-bF rs):=bo.big.of_le (by have:=bo.k;have:=bo.l;omega);have zG:∀m∈gD st rs,0<=m/\Jm.Sz 8900 m:=λm hm=>by have h1:=bo.add m hm;have h2:=wf.fZ;have zl:Jm.Sz 60 (bF rs):=bo.big.of_le (by have:=bo.k;have:=bo.l;omega);exact⟨h1.1,Jm.Sz.lQ (by have:=kJ bo.l (show 0<=st.prod by omega);omega) h1.2 ((zl.mul bo.prod).mono (by decide))⟩
 refine⟨⟨n,ρ,A,st,aI st-bF rs,aI st,l5,gD st rs,Z,C3,aB.of hl5,bo.len,bo.k,by have:=bo.k;have:=bo.l;omega,zk,bo.big,zG,ok.bJ,ok.stp,zW wf bo,λρ6 A6 H6 yY e6 f6=>?_⟩⟩;obtain⟨hd6,cd6⟩:=f6 d _ hd5 (λt x=>by rw[cd];intro z;cases z);rw[cd]at cd6;have F6:=F5.trans f6;refine⟨d,_,hd6,λVb=>⟨_,Z,d,Vb,_,Z,aq,?_⟩⟩;generalize eB:bu st (aI st-bF rs) (aI st) (gD st rs)=QX at *;have ah0:Due QX rs:=by rw[<-eB];exact IC ok.due
 have ae3:gQ st rs=rs.foldl eU QX:=by unfold gQ;rw[eB]
 refine vQ (n:=(iM rs).length) (λi σ H'=>∃ρ' A',HH T n ρ' A' H' ((rs.take i).foldl eU QX)/\A'.a=A.a/\H' d=some (.gy Vb (.dK (iM rs)))/\ρ' d=none/\Fr n ρ H ρ' H'/\Due ((rs.take i).foldl eU QX) (rs.drop i)/\∃s3 s4 s5 s6,σ=[some (.ref A.a),some (.ref l),some (.ref d),s3,s4,s5,s6])
  ⟨ρ6,A6,yY.EO cd6 hd6 rfl rfl,e6,aq,cd6,F6.new hdn,ah0,_,_,_,_,Z⟩ (λi σ H' hi hp=>by obtain⟨_,_,_,_,e,_⟩:=hp;exact⟨e,hi⟩) (λσ H' hp=>by obtain⟨_,_,_,_,e,_⟩:=hp;exact⟨e,aL _⟩) ?_ ?_
 .rintro i x σ H7 H8 hi ⟨ρ7,A7,C4,e7,Yp,Yq,F7,due,s3,s4,s5,s6,rfl⟩ ⟨pp,kv,hpp,hkv,rfl,rfl⟩;unfold iM at hkv;rw[bV]at hkv;obtain⟨r,er,rfl⟩:=mZ.mp hkv;have hir:i<rs.length:=by rw[<-al];exact hi
  have edr:rs.drop i=r::rs.drop (i+1):=by rw[Rc hir];rw[bf hir]at er;rw[gP er]
  rw[edr]at due;have g4:=aH hpp (.tup [.str r.1,.int r.2]);have Yr:=C4.mono g4;have hd8:=g4 _ _ Yp;have F8:=F7.trans (Fr.of_same (ρ:=ρ7) g4);have MX:upd H7 pp (.tup [.str r.1,.int r.2]) pp=some (.tup [.str r.1,.int r.2]):=aq;show Df K 2 _ _ _ (upd H7 pp (.tup [.str r.1,.int r.2])) _;generalize upd H7 pp (.tup [.str r.1,.int r.2])=H8 at *;refine⟨pp,_,Z,dU.of MX,Z,_,_,Z,_,_,Z,Z,?_⟩;have eN:(rs.take (i+1)).foldl eU QX=eU ((rs.take i).foldl eU QX) r:=by rw[take_snoc er,Gu];rfl
  have ndr:((r::rs.drop (i+1)).map (λr:Row=>r.1)).Nodup:=by rw[<-edr,List.map_drop];exact nd.sublist (List.drop_sublist _ _)
  refine⟨_,Z,A.a,A7.dx,_,Z,by rw[<-e7];exact Yr.h.oa,Z,_,Z,_,Z,⟨⟨n,ρ7,A7,_,r,by rw[e7];rfl,Yr,due r cM,Up C4.wf due,λρ9 A9 H9 Ys e9 f9=>?_⟩⟩⟩;obtain⟨hd9,cd9⟩:=f9 d _ hd8 (λt x=>by rw[Yq];intro z;cases z);rw[Yq]at cd9;rw[<-eN]at Ys;exact⟨ρ9,A9,Ys,e9.trans e7,hd9,cd9,F8.trans f9,by rw[eN];exact L5 C4.wf due ndr,_,_,_,_,Z⟩
 rintro σ H7 ⟨ρ7,A7,C4,e7,Yp,Yq,F7,due,s3,s4,s5,s6,rfl⟩;rw[al,cL,<-ae3]at C4;exact⟨Yp,q ρ7 A7 _ (C4.EO Yq Yp rfl rfl) e7 (F7.new hdn)⟩
abbrev tF:Stmt:=inClass (top 4) 2
abbrev i9:Da Str:=["self","top"]
abbrev JC:Da Str:=i9.append ["rest","step","shared"]
def jy:aQ JC i9 (aD tF):=dm
theorem Hl{T:TC}(F:jj K T.bot "over" "Bottom.over" tF f fd)(X:Txt K T)(iY:Dn P w K mg base 1 "common_factor" kj Wq):Mn P w K mg base 2 T.bot "over" i9 (yL T):=by
 refine F.oA jy λ_ _ _ _ H _ Q E hr h=>?_;obtain⟨⟨bt,db,sp,kn,stp,prod,top,rfl,hb,hs,ep,h2,hz,q⟩⟩:=h;refine⟨_,(@cZ.h _ _ _ (aj (aS (i:=2) jy.nd (aN K (qv 0)))
  (aj (fj fT rfl (dH K (aN K (qv 0))) (aV (i:=3) jy.nd) (aj (aS (i:=4) jy.nd (bh iY hr (af (qv 3) (af (aG kM (qv 1) (qv 3)) ak))))
  (au (gh (aR iT (qv 4) ai (aZ _)) (aj (aS (i:=1) jy.nd (aG iC (qv 1) (qv 4)))
  (au (aS (i:=2) jy.nd (aG iC (qv 2) (qv 4))))) bM))))
  (au (bH (iN (af (qv 1) (af (qv 2) ak)))))))),?_⟩
 have p1:1<=prod:=by rw[ep];exact LY h2
 refine⟨_,Z,bt,T.bot,db,_,_,Z,hb,X.cB,X.LK,Z,?_⟩;refine⟨_,Z,bt,T.bot,db,_,_,Z,hb,X.cB,X.bst,Z,sp,Z,⟨_,aB.of hs⟩,?_⟩;refine kG (K:=K) (xs:=stp.map V.int) (λi σ H'=>H'=H/\∃(t r d:Int)(s3 s4:Option V),σ=[some (.ref bt),some (.int t),some (.int r),s3,s4]/\t*prod=top*r/\r=d*(stp.drop i).foldl (·*·) 1/\0<d/\Jm.cf t d=1)
  ⟨Z,top,prod,1,none,none,Z,Z,by rw[List.drop_zero,Int.one_mul];exact ep,by decide,by unfold Jm.cf;rw[Int.gcd_one];rfl⟩ (λi σ H' _ hp=>by rw[hp.1];exact aB.of hs) ?_ ?_
 .rintro i x σ H' hx ⟨rfl,t,r,d,s3,s4,rfl,e1,e2,d0,c⟩;obtain⟨st,rfl,es⟩:=gY hx;have hm:=bg es;have s2:=h2 st hm;have hi:=(dM.mp es).1;have hdr:stp.drop i=st::stp.drop (i+1):=by rw[Rc hi];congr 1;rw[bf hi]at es;exact gP es
  rw[hdr,GI]at e2;have r0:0<=t % st:=o9 _ (by omega);refine⟨_,Z,_,Z,_,Z,_,_,Z,Z,(by show 0<st;omega),st,t % st,Z,by omega,r0,?_⟩;rw[Jm.Gx t st (by omega)];obtain⟨o1,o2⟩:=Uh d0 (by omega:0<st) c;have gp:0<Jm.cf t st:=Jm.Es t st (.inr (by omega));have gz:Jm.Sz 9000 (Jm.cf t st):=((hz.of_le (by have:=X8 h2 hm;rw[<-ep]at this;omega)).dvd (by omega:0<st) (by omega) (Jm.qM t st)).mono (by decide);obtain⟨u,hu⟩:=Jm.tT t st;obtain⟨v,hv⟩:=Jm.qM t st;have e3:t / Jm.cf t st*prod=top*(r / Jm.cf t st):=by
   have a1:t / Jm.cf t st=u:=by rw[Xx (by omega) hu]
   have a2:r=Jm.cf t st*(d*v*(stp.drop (i+1)).foldl (·*·) 1):=by
    rw[e2]
    conv=>lhs;rw[hv]
    rw[iR (Jm.cf t st),Int.mul_left_comm,iR d]
   have a3:r / Jm.cf t st=d*v*(stp.drop (i+1)).foldl (·*·) 1:=by rw[Xx (by omega) a2]
   rw[a1,a3];have qV:Jm.cf t st*(u*prod)=Jm.cf t st*(top*(d*v*(stp.drop (i+1)).foldl (·*·) 1)):=by
    rw[<-iR,<-hu,e1]
    conv=>lhs;rw[a2]
    rw[Int.mul_left_comm]
   exact Int.eq_of_mul_eq_mul_left (by omega) qV
  have e4:r / Jm.cf t st=d*(st / Jm.cf t st)*(stp.drop (i+1)).foldl (·*·) 1:=by
   have a4:st / Jm.cf t st=v:=by rw[Xx (by omega) hv]
   have a2:r=Jm.cf t st*(d*v*(stp.drop (i+1)).foldl (·*·) 1):=by
    rw[e2]
    conv=>lhs;rw[hv]
    rw[iR (Jm.cf t st),Int.mul_left_comm,iR d]
   rw[a4,Xx (by omega) a2]
  refine⟨λσ' H2=>H2=H'/\σ'=[some (.ref bt),some (.int (t / Jm.cf t st)),some (.int (r / Jm.cf t st)),some (.int st),some (.int (Jm.cf t st))],?_,?_⟩
  .refine ⟨_,Z,_,_,Z,Z,_,Z,c6 (λc=>?_) (λc=>?_)⟩
   .exact ⟨_,Z,_,Z,_,_,Z,Z,vN gp gz,_,Z,_,Z,_,_,Z,Z,vN gp gz,Z,Z⟩
   .have c':¬ 1<Jm.cf t st:=qB (pN.mpr c);have g1:Jm.cf t st=1:=by omega
    refine⟨Z,?_⟩;rw[g1,Eb,Eb];rfl
  rintro σ' H2 ⟨rfl,rfl⟩;exact⟨Z,_,_,_,_,_,Z,e3,e4,o2,o1⟩
 rintro σ H' ⟨rfl,t,r,d,s3,s4,rfl,e1,e2,d0,c⟩;rw[List.drop_of_length_le (by rw[aE];exact aL _),List.foldl_nil,o_]at e2;subst e2;refine⟨_,Z,_,Z,(iO 2),λp hp=>?_⟩;refine q p _ (aH hp _) ?_;rw[aq];obtain⟨a1,a2⟩:=Jm.Tw d0 c;have:Jm.fr top prod=Jm.fr t r:=Jm.KH (by omega) d0 e1.symm;unfold oE;rw[this,a1,a2]
abbrev rH:Stmt:=inClass (top 4) 3
abbrev oh:Da Str:=["self","top"]
abbrev Ho:Da Str:=oh
def Fp:aQ Ho oh (aD rH):=dm
theorem Fq{T:TC}(F:jj K T.bot "share" "Bottom.share" rH f fd)(X:Txt K T)(eV:Mn P w K mg base 2 T.bot "over" i9 (yL T)):Mn P w K mg base 3 T.bot "share" oh (LR T):=by
 refine F.oA Fp λ_ _ _ _ H _ Q E hr h=>?_;obtain⟨⟨bt,db,sp,kn,stp,prod,top,AT,rfl,hb,hs,ep,h2,hz,hk,kat,kl,knd,q⟩⟩:=h;refine⟨_,(@cZ.h _ _ _ (aj (gh (yO (Bp (bU hr) (qv 1) (aN K (qv 0)))) (au (qw (bU hr) (aN K (qv 0)) (qv 1) (bZ eV hr (qv 0) (af (qv 1) ak)) rfl)) bM)
  (au (bH (bD (bU hr) (aN K (qv 0)) (qv 1)))))),?_⟩
 refine⟨λσ' H'=>σ'=[some (.ref bt),some (.int top)]/\(∀b o,H b=some o->b≠kn->H' b=some o)/\∃kvs' r,H' kn=some (.dK kvs')/\LH H' kvs' prod/\kvs'.length<=AT.length+1/\(kvs'.map (·.1)).Nodup/\eL kvs' (Sum.inl top)=some (.ref r)/\H' r=some (oE (Jm.fr top prod)),?_,?_⟩
 .refine ⟨_,Z,_,Z,bt,T.bot,db,_,_,Z,hb,X.cB,X.Ue,Z,kn,_,Z,cg.k (k:=Sum.inl top) hk,_,Z,?_⟩;cases e:eL AT (Sum.inl top)with
  | some v=>refine bq ⟨Z,λb o e _=>e,AT,?_⟩;obtain⟨t,r,e2,hr2⟩:=kat _ (WH e);cases e2;exact⟨r,hk,kat,Nat.le_succ _,knd,e,hr2⟩
  | none=>
   refine gc ?_;refine⟨_,Z,bt,db,_,Z,hb,Z,_,Z,⟨⟨bt,db,sp,kn,stp,prod,top,Z,hb,hs,ep,h2,hz,λr H1 g1 hr1=>?_⟩⟩⟩;have sl:AT.length<sizeLine:=by rw[mH];omega
   refine⟨_,Z,bt,T.bot,db,_,_,Z,g1 _ _ hb,X.cB,X.Ue,Z,_,Z,kn,_,Z,uJ.k (k:=Sum.inl top) (g1 _ _ hk) sl,Z,λb o e hb=>by rw[az hb];exact g1 _ _ e,_,r,aq,?_,?_,Zb _ knd e,by rw[Wc,ay rfl],by rw[az (jP hr1 (g1 _ _ hk) (by intro z;cases z))];exact hr1⟩
   .rw [pO _ e];intro p hp;rcases c7.mp hp with z|z
    .obtain ⟨t,r',e2,hr2⟩:=kat p z;exact⟨t,r',e2,by rw[az (jP (g1 _ _ hr2) (g1 _ _ hk) (by intro z;cases z))];exact g1 _ _ hr2⟩
    .rw [dF.mp z];exact⟨top,r,Z,by rw[az (jP hr1 (g1 _ _ hk) (by intro z;cases z))];exact hr1⟩
   .rw [pO _ e,cW];exact aL _
 rintro σ' H' ⟨rfl,k1,kvs',r,e1,e2,e3,e4,e5,e6⟩;exact⟨_,Z,bt,T.bot,db,_,_,Z,k1 _ _ hb (jP hb hk (by intro z;cases z)),X.cB,X.Ue,Z,_,Z,kn,_,Z,e5▸cg.k (k:=Sum.inl top) e1,q r H' kvs' k1 e1 e2 e3 e4 e6⟩
abbrev tG:Stmt:=inClass (top 21) 12
abbrev pH:Da Str:=["self","part"]
abbrev JD:Da Str:=pH.append ["tops"]
def y9:aQ JD pH (aD tG):=dm
theorem Hq{T:TC}(F:jj K T.hold "shares" "Hold.shares" tG f fd)(X:Txt K T)(cV:Mn P w K mg base 1 T.hold "part_of" fJ (Dm T))(gx:Mn P w K mg base 1 T.hold "tops_of" jx (Cg T))(tH:Mn P w K mg base 3 T.bot "share" oh (LR T))(jh:mg "zip"=none):Mn P w K mg base 4 T.hold "shares" pH (E5 T):=by
 refine F.oA y9 λ_ _ _ _ H _ Q E hr h=>?_;obtain⟨⟨n,ρ,A,st,ip,pt,rfl,hh,ep,hkn,q⟩⟩:=h;obtain⟨qq,eq,k1,k2,k3,k4⟩:=hh.h.find ep;have fF:=bg ep;refine⟨_,(@cZ.h _ _ _ (aj (aS (i:=2) y9.nd (bZ gx hr (qv 0) (af (bZ cV hr (qv 0) (af (qv 1) ak)) ak)))
  (au (bH (Mh (v8 ["owner","top","self"] [none,none,some 0] rfl (sW K (by rfl) jh (af (aN K (qv 0)) (af (qv 2) ak))) (λ_ _ _ _=>(iX K (n:=2) rfl (cS (aV (i:=0) (show List.Nodup (["owner","top","self"] :Da Str)from by decide +kernel)) (cS (aV (i:=1) (show List.Nodup (["owner","top","self"] :Da Str)from by decide +kernel)) iW)))) (λ_ _ _ _=>(iN (af (qv 0) (af (bZ tH hr (aN K (qv 2)) (af (qv 1) ak)) ak)))) (λ_ _ _ _=>(aR iT (qv 1) ai (aZ _))) rfl (by rfl))))))),?_⟩
 refine⟨_,Z,A.a,A.dx,_,Z,hh.h.oa,Z,_,Z,A.a,A.dx,_,Z,hh.h.oa,Z,_,Z,⟨⟨n,ρ,A,st,ip,pt,qq,Z,hh.h,hh.wf.fP,ep,eq,?_⟩⟩⟩;refine⟨⟨n,ρ,A,st,ip,pt,qq,Z,hh.h,hh.wf,ep,eq,λl H1 g1 hl hl1=>?_⟩⟩;have dB:=hh.mono g1;have cl:ρ l=none:=hh.g.none hl;have tl:(aP st pt).length=st.own.length:=by unfold aP;rw[kF,hh.wf.rows pt fF,hh.wf.gf,zy]
 have fD:=hh.wf.lF;refine⟨A.pl,_,dB.h.jk,λob=>?_⟩;have hl2:upd H1 A.pl (.gy ob (.dK (gI 0 st.own))) l=some (.lst ((aP st pt).map V.int)):=fU dB.h.jk hl1 (λk z=>by cases z);refine⟨_,Z,A.a,T.hold,A.dx,_,_,Z,fU dB.h.jk dB.h.oa (λk z=>by cases z),X.cH,X.hpl,Z,_,Z,_,_,_,_,_,_,Z,.keys aq,.lst (aB.of hl2),λAp Bi=>?_⟩;have yb:H1 Ap=none:=sQ dB.h.jk Bi;have ca:ρ Ap=none:=dB.g.none yb;have QY:Ap≠A.pl:=λe=>by rw[e,aq]at Bi;cases Bi
 have nal:Ap≠l:=λe=>by rw[e,hl1]at yb;cases yb
 refine Qj (K:=K) (n:=st.own.length) [0,1] (λi out Hc=>∃H5,Hc=upd H5 A.pl (.gy ob (.dK (gI 0 st.own)))/\Gh ρ H5/\Fr n ρ H ρ H5/\aX T n ρ A H5 { st with kn:=st.kn+i }/\H5 l=some (.lst ((aP st pt).map V.int))/\pQ H5 out (((List.zip st.own (aP st pt)).take i).filterMap λx=>if 0<x.2 then some (x.1,Jm.fr x.2 st.prod) else none))
  (by decide) (by omega) ⟨upd H1 Ap (.lst []),lG (cJ QY),dB.g.alloc yb,(Fr.of_same (ρ:=ρ) g1).trans (Fr.of_same (aH yb _)),dB.h.mono (aH yb _),by rw[az (cJ nal)];exact hl1,.nil⟩ ?_ ?_ ?_ ?_
 .rintro i out Hc hi ha ⟨H5,rfl,G5,F5,h5,l5,S5⟩;exact⟨aq,aB.of (fU h5.jk l5 (λk z=>by cases z)),by rw[aE,qT];exact hi,by rw[aE,tl];exact hi⟩
 .rintro out Hc ha ⟨H5,rfl,G5,F5,h5,l5,S5⟩;exact⟨aq,aB.of (fU h5.jk l5 (λk z=>by cases z)),.inr (by rw[aE,tl];exact aL _)⟩
 .rintro i x out Hc H2 hi Hi ha ⟨H5,rfl,G5,F5,h5,l5,S5⟩ ⟨pp,x1,y1,hpp,rfl,rfl,e1,e2⟩;obtain⟨t,rfl,et⟩:=gY e2;rw[LM,bV]at e1;obtain⟨o,eo,rfl⟩:=mZ.mp e1;have npl:pp≠A.pl:=λe=>by rw[e,aq]at hpp;cases hpp
  have ah1:H5 pp=none:=sQ h5.jk hpp;have ez:(List.zip st.own (aP st pt))[i]?=some (o,t):=by rw[List.getElem?_zip_eq_some];exact⟨eo,et⟩
  have g6:=aH ah1 (.tup [.str o,.int t]);have e6:upd (upd H5 A.pl (.gy ob (.dK (gI 0 st.own)))) pp (.tup [.str o,.int t])=upd (upd H5 pp (.tup [.str o,.int t])) A.pl (.gy ob (.dK (gI 0 st.own))):=lG (cJ npl);rw[e6];have G6:=G5.same g6;have F6:=F5.trans (Fr.of_same (ρ:=ρ) g6);have h6:=h5.mono g6;have l6:=g6 _ _ l5;have S6:=S5.mono g6.tups;have t6:upd H5 pp (.tup [.str o,.int t]) pp=some (.tup [.str o,.int t]):=aq;have y_:upd H5 pp (.tup [.str o,.int t]) Ap=some (.lst out):=by rw[az QY]at ha;exact g6 _ _ ha
  generalize upd H5 pp (.tup [.str o,.int t])=H6 at *;have fz:∀{b:Addr}{u:HO},H6 b=some u->(∀k,u ≠ .dK k)->upd H6 A.pl (.gy ob (.dK (gI 0 st.own))) b=some u:=λe k=>fU h6.jk e k;refine⟨pp,_,Z,dU.of (fz t6 (λk z=>by cases z)),Z,_,Z,_,_,Z,Z,_,Z,?_⟩;refine c6 (λc=>?_) (λc=>?_)
  .have c':0<t:=dN c;obtain⟨AT,j1,j2,j3,j4⟩:=h6.okn;have Yt:A.kn≠A.pl:=EK h6.jH h6.jl (by intro z;cases z);refine⟨_,Z,_,Z,A.a,T.hold,A.dx,_,_,Z,fz h6.oa (λk z=>by cases z),X.cH,X.vS,Z,A.bt,A.db,_,Z,fz h6.jE (λk z=>by cases z),Z,_,Z,
    ⟨⟨A.bt,A.db,A.sp,A.kn,st.stp,st.prod,t,AT,Z,fz h6.jE (λk z=>by cases z),fz h6.oQ (λk z=>by cases z),hh.wf.nR,hh.wf.sO,hh.wf.big,by rw[az Yt];exact j1,(λp hp=>let⟨t,r,e,w⟩:=j2 p hp;⟨t,r,e,fz w (λk z=>by cases z)⟩),Gp j3 (by show st.kn+i<_;omega),j4,λr H7 kvs' b1 b2 b3 b4 b5 b6=>?_⟩⟩⟩
   have Yu:H7 A.pl=some (.gy ob (.dK (gI 0 st.own))):=b1 _ _ aq (cJ Yt);refine⟨(iO 2),λtt Yv=>?_⟩;have ntp:tt≠A.pl:=λe=>by rw[e,Yu]at Yv;cases Yv
   have k8:∀b u,H6 b=some u->b≠A.kn->upd H7 A.pl (.dK (gI 0 st.own)) b=some u:=λb u e hb=>by
    by_cases z:b=A.pl
    .rw [z]at e ⊢;rw[show H6 A.pl=some (.dK (gI 0 st.own))from h6.jk]at e;cases e;exact aq
    .rw [az z];exact b1 _ _ (by rw[az z];exact e) hb
   have h8:=h6.WI (m:=st.kn+i+1) k8 (by rw[az Yt];exact b2) (λp hp=>let⟨t,r,e,w⟩:=b3 p hp;⟨t,r,e,sP (.inr ⟨_,Yu,Z⟩) _ _ w⟩) (fY b4 (Nat.succ_le_succ j3)) b5;have G8:Gh ρ (upd H7 A.pl (.dK (gI 0 st.own))):=λb cc e=>by
    by_cases z:b=A.pl
    .rw [z];exact⟨_,aq,Z⟩
    by_cases z2:b=A.kn
    .rw [z2,az Yt];exact⟨_,b2,Z⟩
    obtain⟨u,a1,a2⟩:=G6 b cc e;exact⟨u,k8 b u a1 z2,a2⟩
   have F8:Fr n ρ H6 ρ (upd H7 A.pl (.dK (gI 0 st.own))):=λb u e k=>⟨k8 b u e (λz=>k 9 ⟨#[]⟩ (by rw[z];exact h6.jH)),Z⟩
   have tp8:∀b xs,H6 b=some (.tup xs)->upd H7 A.pl (.dK (gI 0 st.own)) b=some (.tup xs):=λb xs e=>k8 b _ e (jP e j1 (by intro z;cases z));have ah2:upd H7 A.pl (.dK (gI 0 st.own)) tt=none:=by rw[az ntp];exact Yv
   have back:H7=upd (upd H7 A.pl (.dK (gI 0 st.own))) A.pl (.gy ob (.dK (gI 0 st.own))):=by rw[qj,zU Yu]
   have hr8:upd H7 A.pl (.dK (gI 0 st.own)) r=some (oE (Jm.fr t st.prod)):=sP (.inr ⟨_,Yu,Z⟩) _ _ b6;have l8:=k8 _ _ l6 (λz=>by rw[z,j1]at l6;cases l6);have MZ:=k8 _ _ y_ (λz=>by rw[z,j1]at y_;cases y_);have S8:=S6.mono tp8;have F08:=F6.trans F8;rw[back]at Yv ⊢;generalize upd H7 A.pl (.dK (gI 0 st.own))=H8 at *;have g9:=aH ah2 (.tup [.str o,.ref r]);rw[lG (cJ ntp)];refine⟨by rw[az QY];exact g9 _ _ MZ,_,lG (cJ QY),(G8.same g9).wr rfl,(F08.trans (Fr.of_same (ρ:=ρ) g9)).new (g1.free yb),?_,?_,?_⟩
   .exact (h8.mono g9).same (LU ca (g9 _ _ MZ) rfl)
   .rw [az (cJ nal)];exact g9 _ _ l8
   .rw [take_snoc ez,List.filterMap_append,C9];simp only[c',if_true,List.filterMap_nil];exact((S8.mono g9.tups).snoc aq (g9 _ _ hr8)).mono (sP (.inr ⟨_,g9 _ _ MZ,Z⟩))
  .have c':¬ 0<t:=qB (pN.mpr c);refine⟨by rw[az QY];exact y_,H6,Z,G6,F6,?_,l6,?_⟩
   .obtain ⟨AT,j1,j2,j3,j4⟩:=h6.okn;exact h6.WI (m:=st.kn+i+1) (λb u e _=>e) j1 j2 (Nat.le_succ_of_le j3) j4
   .rw [take_snoc ez,List.filterMap_append,C9];simp only[c',tQ,List.filterMap_nil,qF];exact S6
 .rintro out Hc Hi ha ⟨H5,rfl,G5,F5,h5,l5,S5⟩;rw[KR (by rw[List.length_zip,tl];omega)]at S5;refine⟨aq,?_⟩;rw[qj,zU (show H5 A.pl=some (.dK (gI 0 st.own))from h5.jk)];rw[az QY]at ha;obtain⟨AT,j1,j2,j3,j4⟩:=h5.okn;have h9:=h5.WI (m:=st.kn+100) (λb u e _=>e) j1 j2 (fY j3 (by show st.kn+st.own.length<=st.kn+100;omega)) j4;exact q Ap out H5 ⟨G5,h9,aeB hh.wf hkn⟩ F5 (g1.free yb) ha ca S5
abbrev uV:Stmt:=inClass (top 21) 4
abbrev rJ:Da Str:=["self","owner","amount"]
abbrev Na:Da Str:=rJ.append ["place","whole","added"]
def pI:aQ Na rJ (aD uV):=dm
theorem Hr{T:TC}{e:Ec}(F:jj K T.hold "award" "Hold.award" uV f fd)(X:Txt K T)(b7:Mn P w K mg base 1 T.hold "place_of" e_ (sN (z7 T e)))(jw:Dn P w K mg base 1 "check_amount" jv (sN (Br e)))(iy:Mn P w K mg base 1 T.hold "whole" kW (Cj T))(kY:Mn P w K mg base 3 T.hold "blend" nF (GJ T K))(bO:mg "len"=none):Mn P w K mg base 4 T.hold "award" rJ (sN (Mp T e)):=by
 refine F.oA pI λ_ _ _ _ H _ Q E hr h=>?_;obtain⟨⟨n,ρ,A,st,o,a,rfl,hh,aw,dq⟩⟩:=h;refine⟨_,(@cZ.h _ _ _ (aj (aS (i:=3) pI.nd (bZ b7 hr (qv 0) (af (qv 1) ak)))
  (aj (bQ (bh jw hr (af (qv 2) ak)))
  (aj (aS (i:=4) pI.nd (GQ iy hr (qv 0)))
  (aj (c5 (aR KC (qv 2) (qv 4) (aZ _)) (au gU) bM)
  (aj (aS (i:=5) pI.nd (aG Tn (iB (af ai ak)) (aY xO (by rfl) bO d7 (af (aN K (qv 0)) ak))))
  (aj (i_ (aG gW (qv 2) (aN K (aN K (qv 0)))) (ja (qv 5) (qv 3) set_list))
  (au (bQ (bZ kY hr (qv 0) (af (aG j0 (qv 4) (qv 2)) (af (qv 4) (af (qv 5) ak))))))))))))),?_⟩
 have wf:=hh.wf;refine⟨_,Z,A.a,A.dx,_,Z,hh.h.oa,Z,_,Z,⟨⟨n,ρ,A,st,o,Z,hh.h,λho=>dq.no 2 (by unfold nv;exact av ho),λho=>?_⟩⟩⟩;refine⟨_,Z,⟨⟨a,Z,λh5=>dq.no 5 (by unfold nv;rw[ay ho,ay h5]),λh1=>?_⟩⟩⟩;refine⟨_,Z,A.a,A.dx,_,Z,hh.h.oa,Z,⟨⟨n,ρ,A,st,Z,hh.h,wf.qQ,λH1 g1=>?_⟩⟩⟩;refine⟨_,Z,_,Z,_,_,Z,Z,_,Z,c6 (λc=>?_) (λc=>?_)⟩
 .have c':aI st<=a:=dN c;exact dq.no 6 (by unfold nv;rw[ay ho,av (show ¬ a<1 by omega),ay c']) 0 H1 g1
 have c':¬ aI st<=a:=qB (pN.mpr c);have q:=dq.ok (by unfold nv;rw[ay ho,av (show ¬ a<1 by omega),av c']);have dB:=hh.mono g1;have F1:Fr n ρ H ρ H1:=Fr.of_same g1;clear hh;refine⟨(iO 1),λp0 hp0=>?_⟩;have g2:=aH hp0 (.lst [.int 0]);have iZ:=dB.mono g2;have F2:=F1.trans (Fr.of_same (ρ:=ρ) g2);have Xj:upd H1 p0 (.lst [.int 0]) p0=some (.lst [.int 0]):=aq;generalize upd H1 p0 (.lst [.int 0])=H2 at *;clear dB F1;have CZ:=qT st.own 0;have fD:=iZ.wf.lF;refine⟨_,Z,A.a,T.hold,A.dx,_,_,Z,iZ.h.oa,X.cH,X.hpl,Z,A.pl,_,Z,iZ.h.jk,p0,_,_,Z,Z,Xj,by omega,by rw[CZ];omega,by rw[CZ];show 1*_<=_;rw[sH,Nat.one_mul];exact small (by omega),λp1 hp1=>?_⟩;rw[CZ,sH,show(List.replicate st.own.length [V.int 0]).flatten=(List.replicate st.own.length (0:Int)).map V.int from by rw[List.map_replicate,List.flatten_replicate_singleton]];have g3:=aH hp1 (.lst ((List.replicate st.own.length (0:Int)).map V.int));have gR:=iZ.mono g3;have F3:=F2.trans (Fr.of_same (ρ:=ρ) g3);have n1:H p1=none:=(g1.trans g2).free hp1;have c1:ρ p1=none:=iZ.g.none hp1;have BH:upd H2 p1 (.lst ((List.replicate st.own.length (0:Int)).map V.int)) p1=_:=aq;generalize upd H2 p1 (.lst ((List.replicate st.own.length (0:Int)).map V.int))=H3 at *;have hi:=KQ.mpr ho;have bo:=aw.blend (o:=o) wf h1 (by omega);have za:La a st.prod:=.inl (by have:(aI st).natAbs<2 ^ 60:=aw.big;omega);refine⟨_,Z,_,Z,A.a,T.hold,A.dx,_,_,Z,gR.h.oa,X.cH,X.vS,Z,A.bt,T.bot,A.db,_,_,Z,gR.h.jE,X.cB,X.LK,Z,_,_,Z,Z,za,_,Z,_,Z,p1,_,_,st.own.idxOf o,Z,Z,BH,by rw[aE,jd];exact lY hi,?_⟩;rw[show((List.replicate st.own.length (0:Int)).map V.int).set (st.own.idxOf o) (V.int (a*st.prod))=(kO st o a).map V.int from by unfold kO;rw[kL]];have jL:=gR.EO (o:=.lst ((kO st o a).map V.int)) c1 BH rfl rfl;have F4:=F3.new (o:=.lst ((kO st o a).map V.int)) n1;have Xk:upd H3 p1 (.lst ((kO st o a).map V.int)) p1=_:=aq;generalize upd H3 p1 (.lst ((kO st o a).map V.int))=H4 at *;have zk:Jm.Sz 60 (aI st-a):=bo.big.of_le (by omega);have zG:∀m∈kO st o a,0<=m/\Jm.Sz 8900 m:=λm hm=>by have EM:=bo.add m hm;have h2:=wf.fZ;have zl:Jm.Sz 60 a:=bo.big.of_le (by omega);exact⟨EM.1,Jm.Sz.lQ (by have:=kJ bo.l (show 0<=st.prod by omega);omega) EM.2 ((zl.mul bo.prod).mono (by decide))⟩
 exact⟨_,Z,A.a,A.dx,_,Z,jL.h.oa,Z,_,Z,_,Z,_,_,Z,Z,_,Z,_,Z,⟨⟨n,ρ,A,st,aI st-a,aI st,p1,kO st o a,Z,jL,aB.of Xk,bo.len,bo.k,by omega,zk,bo.big,zG,aw.bJ,aw.stp,zW wf bo,λρ6 A6 H6 yY e6 f6=>q ρ6 A6 H6 yY e6 (F4.trans f6)⟩⟩⟩
abbrev tK:Stmt:=inClass (top 21) 5
abbrev pJ:Da Str:=["self","part","amount"]
abbrev JE:Da Str:=pJ
def Hs:aQ JE pJ (aD tK):=dm
theorem Ft{T:TC}{e:Ec}(F:jj K T.hold "mishap" "Hold.mishap" tK f fd)(X:Txt K T)(cV:Mn P w K mg base 1 T.hold "part_of" fJ (sN (nu T e)))(nG:Dn P w K mg base 2 "check_loss" nE (sN (Mj e)))(jU:Mn P w K mg base 1 T.hold "lessen" lW (LZ T)):Mn P w K mg base 3 T.hold "mishap" pJ (sN (IS T e)):=by
 refine F.oA Hs λ_ _ _ _ H _ Q E hr h=>?_;obtain⟨⟨n,ρ,A,st,x,a,rfl,hh,dq⟩⟩:=h;refine⟨_,(@cZ.h _ _ _ (aj (bQ (bh nG hr (af (aN K (bZ cV hr (qv 0) (af (qv 1) ak))) (af (qv 2) ak))))
  (au (bQ (bZ jU hr (qv 0) (af (qv 1) (af (qv 2) ak))))))),?_⟩
 refine⟨_,Z,A.a,A.dx,_,Z,hh.h.oa,Z,_,Z,⟨⟨n,ρ,A,st,x,Z,hh.h,hh.wf.fP,λhn=>dq.no 3 ?_,λi p qq e1 e2 e3=>?_⟩⟩⟩
 .unfold mE;rw[av (λz=>?_)];obtain⟨j,p,h1,h2⟩:=n_ z;exact hn p (bg h1) h2
 obtain⟨k1,_⟩:=hh.h.opt i p qq e2 e3;have hm:x∈fV st:=by rw[<-e1];exact Cr e2
 have fF:=bg e2;have ew:(cO st x).wo=p.wo:=by rw[dS hh.wf fF e1]
 refine⟨qq.1,T.part,qq.2.1,_,_,Z,k1,X.cP,X.xR,Z,_,Z,⟨⟨p.wo,a,Z,λh5=>dq.no 5 ?_,λh1 h6=>dq.no 6 ?_,λh1 h2=>?_⟩⟩⟩
 .unfold mE;rw[ay hm,ay h5]
 .unfold mE;rw[ay hm,av (show ¬ a<1 by omega)];show(if(cO st x).wo<a then _ else _)=_;rw[ew,ay h6]
 have ho:=dq.ok (by unfold mE;rw[ay hm,av (show ¬ a<1 by omega)];show(if(cO st x).wo<a then _ else _)=_;rw[ew,av (by omega)]);exact⟨_,Z,A.a,A.dx,_,Z,hh.h.oa,Z,_,Z,_,Z,⟨⟨n,ρ,A,st,(x,a),Z,hh,⟨p,fF,e1,h2⟩,GK hh.wf (λp' eZ e'=>by rw[nU hh.wf eZ fF (e'.trans e1.symm)];exact h2),ho⟩⟩⟩
abbrev wK:Stmt:=inClass (top 21) 6
abbrev tX:Da Str:=["self","part","amount"]
abbrev OH:Da Str:=tX.append ["risen"]
def BJ:aQ OH tX (aD wK):=dm
theorem JF{T:TC}{e:Ec}(F:jj K T.hold "rise" "Hold.rise" wK f fd)(X:Txt K T)(cV:Mn P w K mg base 1 T.hold "part_of" fJ (sN (nu T e)))(jw:Dn P w K mg base 1 "check_amount" jv (sN (Br e))):Mn P w K mg base 2 T.hold "rise" tX (sN (QC T e)):=by
 refine F.oA BJ λ_ _ _ _ H _ Q E hr h=>?_;obtain⟨⟨n,ρ,A,st,x,a,rfl,hh,dq⟩⟩:=h;refine⟨_,(@cZ.h _ _ _ (aj (aS (i:=3) BJ.nd (bZ cV hr (qv 0) (af (qv 1) ak)))
  (aj (bQ (bh jw hr (af (qv 2) ak)))
  (au (rj K (qv 3) (qv 2) aa0))))),?_⟩
 refine⟨_,Z,A.a,A.dx,_,Z,hh.h.oa,Z,_,Z,⟨⟨n,ρ,A,st,x,Z,hh.h,hh.wf.fP,λhn=>dq.no 3 ?_,λi p qq e1 e2 e3=>?_⟩⟩⟩
 .unfold tV;rw[av (λz=>?_)];obtain⟨j,p,h1,h2⟩:=n_ z;exact hn p (bg h1) h2
 subst e1;obtain⟨k1,k2,k3,k4⟩:=hh.h.opt i p qq e2 e3;have hm:=Cr e2;refine⟨_,Z,⟨⟨a,Z,λh5=>dq.no 5 ?_,λh1=>?_⟩⟩⟩
 .unfold tV;rw[ay hm,ay h5]
 have ho:=dq.ok (by unfold tV;rw[ay hm,av (show ¬ a<1 by omega)]);refine⟨_,Z,qq.1,T.part,qq.2.1,_,_,Z,k1,X.cP,X.xR,Z,_,Z,_,_,Z,Z,qq.2.1,_,k1,by show 6<1000;decide,?_⟩;have EM:=hh.h.lT (p1:={ p with wo:=p.wo+a }) hh.g e2 e3 rfl rfl hh.wf.fP;have hw:Wf (E1 st p.nm a):=yR hh.wf λq hq _=>⟨Z,Z,Z,Z,by have:=(hh.wf.jS q hq).1;show 1<=q.wo+a;omega,(hh.wf.jS q hq).2⟩
 have es:E1 st p.nm a={ st with ah:=st.ah.set i { p with wo:=p.wo+a } }:=Cs hh.wf.fP e2 _;rw[es]at ho hw;exact ho ρ A _ ⟨hh.g.wr rfl,EM,hw⟩ rfl (Fr.write k3)
abbrev wL:Stmt:=inClass (top 21) 7
abbrev tY:Da Str:=["self","part","taker"]
abbrev OI:Da Str:=tY.append ["handed","to","at","tops"]
def nH:aQ OI tY (aD wL):=dm
theorem JG{T:TC}{e:Ec}(F:jj K T.hold "hand" "Hold.hand" wL f fd)(X:Txt K T)(cV:Mn P w K mg base 1 T.hold "part_of" fJ (sN (nu T e)))(b7:Mn P w K mg base 1 T.hold "place_of" e_ (sN (z7 T e)))(gx:Mn P w K mg base 1 T.hold "tops_of" jx (Cg T))(gu:Mn P w K mg base 1 T.hold "beyond_common" iw (RY T K)):Mn P w K mg base 2 T.hold "hand" tY (sN (QE T e)):=by
 refine F.oA nH λ_ _ _ _ H _ Q E hr h=>?_;obtain⟨⟨n,ρ,A,st,x,o,rfl,hh,hs,dq⟩⟩:=h;refine⟨_,(@cZ.h _ _ _ (aj (aS (i:=3) nH.nd (bZ cV hr (qv 0) (af (qv 1) ak)))
  (aj (aS (i:=4) nH.nd (bZ b7 hr (qv 0) (af (qv 2) ak)))
  (aj (aS (i:=5) nH.nd (bZ b7 hr (qv 0) (af (aN K (qv 3)) ak)))
  (aj (c5 (aR dG (qv 4) (qv 5) (aZ _)) (au QA) bM)
  (aj (aS (i:=6) nH.nd (bZ gx hr (qv 0) (af (qv 3) ak)))
  (aj (Qz (qv 6) (qv 4) Mz (aF (aM K) (qv 6) (qv 5)) aaK set_list)
  (aj (i_ ai (ja (qv 6) (qv 5) set_list))
  (aj (eE K (qv 3) (qv 2))
  (aj (eE K (qv 3) ai)
  (au (eE K (qv 3) (bZ gu hr (qv 0) (af (qv 6) ak)))))))))))))),?_⟩
 have wf:=hh.wf;refine⟨_,Z,A.a,A.dx,_,Z,hh.h.oa,Z,_,Z,⟨⟨n,ρ,A,st,x,Z,hh.h,wf.fP,λhn=>dq.no 3 ?_,λi p qq e1 e2 e3=>?_⟩⟩⟩
 .unfold pC;rw[av (λz=>?_)];obtain⟨j,p,h1,h2⟩:=n_ z;exact hn p (bg h1) h2
 have fF:=bg e2;have eg:cO st x=p:=dS wf fF e1;subst e1;have hm:=Cr e2;refine⟨_,Z,A.a,A.dx,_,Z,hh.h.oa,Z,_,Z,⟨⟨n,ρ,A,st,o,Z,hh.h,λho=>dq.no 2 (by unfold pC;rw[ay hm,av ho]),λho=>?_⟩⟩⟩;have eR:pC st p.nm o=none:=by unfold pC;rw[ay hm,ay ho]
 have q:=dq.ok eR;have wS:=QF wf eR hs;obtain⟨k1,k2,k3,k4⟩:=hh.h.opt i p qq e2 e3;have Yw:=wf.ow p fF;refine⟨_,Z,A.a,A.dx,_,Z,hh.h.oa,Z,_,Z,qq.1,T.part,qq.2.1,_,_,Z,k1,X.cP,X.pow,Z,⟨⟨n,ρ,A,st,p.ow,Z,hh.h,λz=>absurd Yw z,λ_=>?_⟩⟩⟩;refine⟨_,Z,_,Z,Z,_,Z,c6 (λc=>?_) (λc=>?_)⟩
 .have c':st.own.idxOf o=st.own.idxOf p.ow:=by have:=V.int.inj (dN c);omega
  unfold iV at q;rw[eg,ay c']at q;exact q ρ A H hh rfl Fr.refl
 have ne:st.own.idxOf o≠st.own.idxOf p.ow:=λz=>c (bR (by rw[z]));have hl:=As wf fF;have ha:st.own.idxOf p.ow<(aP st p).length:=by rw[hl];exact mV Yw
 have hb:st.own.idxOf o<(aP st p).length:=by rw[hl];exact mV ho
 have at':∀{l:Da Int}{j:Nat},j<l.length->lP (l.map V.int) (j:Int)=some (.int (l.getD j 0)):=λ{l j} h=>aC (by rw[bV,dD,bf h];rfl);unfold iV at q wS;rw[eg,av ne,Cs wf.fP e2]at q wS;generalize hTT:nY st p o=TT at *;rw[wg]at hTT;refine⟨_,Z,A.a,A.dx,_,Z,hh.h.oa,Z,_,Z,⟨⟨n,ρ,A,st,i,p,qq,Z,hh.h,wf,e2,e3,λl H1 g1 gk hl1=>?_⟩⟩⟩;have cl:ρ l=none:=hh.g.none gk;refine⟨_,Z,_,Z,l,_,_,_,Z,Z,aB.of hl1,at' hb,_,Z,_,Z,l,_,_,_,Z,Z,aB.of hl1,at' ha,_,_,Z,Z,l,_,_,st.own.idxOf o,Z,Z,hl1,by rw[aE];exact lY hb,?_⟩;have m1:(List.map V.int (aP st p)).set (st.own.idxOf o) (.int ((aP st p).getD (st.own.idxOf o) 0+(aP st p).getD (st.own.idxOf p.ow) 0))=((aP st p).set (st.own.idxOf o) ((aP st p).getD (st.own.idxOf o) 0+(aP st p).getD (st.own.idxOf p.ow) 0)).map V.int:=kL.symm;rw[m1];refine⟨_,Z,_,Z,l,_,_,st.own.idxOf p.ow,Z,Z,aq,by rw[aE,fH];exact lY ha,?_⟩;have m2:(((aP st p).set (st.own.idxOf o) ((aP st p).getD (st.own.idxOf o) 0+(aP st p).getD (st.own.idxOf p.ow) 0)).map V.int).set (st.own.idxOf p.ow) (.int 0)=TT.map V.int:=by rw[<-hTT];exact kL.symm
 rw[m2,qj];have g3:aK H (upd H1 l (.lst (TT.map V.int))):=g1.cI gk _;have hl3:upd H1 l (.lst (TT.map V.int)) l=some (.lst (TT.map V.int)):=aq;generalize upd H1 l (.lst (TT.map V.int))=H3 at *;have gR:=hh.mono g3;have c3:=g3 _ _ k1;have hi:i<st.ah.length:=(dM.mp e2).1;have tl:TT.length=st.own.length:=by rw[<-hTT,GU,hl]
 clear hl1 g1 m1 m2;refine⟨_,Z,_,Z,qq.1,T.part,qq.2.1,_,Z,c3,X.cP,X.pow,by show 6<1000;decide,?_⟩;have hA:=gR.h.lT (p1:={ p with ow:=o }) gR.g e2 e3 rfl rfl wf.fP;have gA:Gh ρ (upd H3 qq.1 (.ins T.part qq.2.1 (dI { p with ow:=o } qq.2.2))):=gR.g.wr rfl;have FA:Fr n ρ H ρ (upd H3 qq.1 (.ins T.part qq.2.1 (dI { p with ow:=o } qq.2.2))):=(Fr.of_same g3).trans (Fr.write k3);have kA:upd H3 qq.1 (.ins T.part qq.2.1 (dI { p with ow:=o } qq.2.2)) qq.1=some (.ins T.part qq.2.1 (dI { p with ow:=o } qq.2.2)):=aq;have nA:∀b,upd H3 qq.1 (.ins T.part qq.2.1 (dI { p with ow:=o } qq.2.2)) b=none->H b=none:=λb h=>g3.free (lK h);have lA:upd H3 qq.1 (.ins T.part qq.2.1 (dI { p with ow:=o } qq.2.2)) l=some (.lst (TT.map V.int)):=by rw[az (λz=>by rw[z,k3]at cl;cases cl)];exact hl3
 show vH _ _ _ _ (upd H3 qq.1 (.ins T.part qq.2.1 (dI { p with ow:=o } qq.2.2)));generalize upd H3 qq.1 (.ins T.part qq.2.1 (dI { p with ow:=o } qq.2.2))=H4 at *;refine⟨_,Z,qq.1,T.part,qq.2.1,_,Z,kA,X.cP,X.Ip,by show 6<1000;decide,?_⟩;have ndA:((st.ah.set i { p with ow:=o }).map (·.nm)).Nodup:=by rw[kL,nq (by rw[bV,e2];rfl)];exact wf.fP
 have hB:=hA.lT (i:=i) (p1:={ p with ow:=o,sc:=1 }) gA (kC hi) e3 rfl rfl ndA;have gB:Gh ρ (upd H4 qq.1 (.ins T.part qq.2.1 (dI { p with ow:=o,sc:=1 } qq.2.2))):=gA.wr rfl;have FB:Fr n ρ H ρ (upd H4 qq.1 (.ins T.part qq.2.1 (dI { p with ow:=o,sc:=1 } qq.2.2))):=FA.trans (Fr.write k3);have kB:upd H4 qq.1 (.ins T.part qq.2.1 (dI { p with ow:=o,sc:=1 } qq.2.2)) qq.1=some (.ins T.part qq.2.1 (dI { p with ow:=o,sc:=1 } qq.2.2)):=aq;have lB:upd H4 qq.1 (.ins T.part qq.2.1 (dI { p with ow:=o,sc:=1 } qq.2.2)) l=some (.lst (TT.map V.int)):=by rw[az (λz=>by rw[z,k3]at cl;cases cl)];exact lA
 have nB:∀b,upd H4 qq.1 (.ins T.part qq.2.1 (dI { p with ow:=o,sc:=1 } qq.2.2)) b=none->H b=none:=λb h=>nA b (lK h);have Yx:(st.ah.set i { p with ow:=o }).set i { p with ow:=o,sc:=1 }=st.ah.set i { p with ow:=o,sc:=1 }:=qH ..;have hB:aX T n ρ A (upd H4 qq.1 (.ins T.part qq.2.1 (dI { p with ow:=o,sc:=1 } qq.2.2))) { st with ah:=st.ah.set i { p with ow:=o,sc:=1 } }:=by rw[<-Yx];exact hB
 generalize hH5:upd H4 qq.1 (HO.ins T.part qq.2.1 (br _ _ _))=H5;have ah3:upd H4 qq.1 (.ins T.part qq.2.1 (dI { p with ow:=o,sc:=1 } qq.2.2))=H5:=hH5;rw[ah3]at hB gB FB kB lB nB;clear hA gA FA kA nA lA;have ol:=wf.lF;refine⟨_,Z,A.a,A.dx,_,Z,hB.oa,Z,_,Z,⟨⟨n,ρ,A,_,l,TT,Z,hB,aB.of lB,by show _=st.bX.length;rw[tl,wf.gf],by omega,λr H6 g6 hr0 hr1=>?_⟩⟩⟩;have cr:ρ r=none:=gB.none hr0;have h6:=hB.mono g6;have G6:=gB.same g6;have F6:Fr n ρ H (bY ρ r (n,21,p.nm)) H6:=(FB.trans (Fr.of_same (ρ:=ρ) g6)).jI (nB _ hr0);have hC:aX T n (bY ρ r (n,21,p.nm)) A H6 _:=h6.same ⟨λ_ _ e=>e,λb u x w _ hc he=>⟨he,by rw[b8 (λz=>by rw[z,cr]at hc;cases hc)];exact hc⟩⟩;have GC:Gh (bY ρ r (n,21,p.nm)) H6:=G6.color hr1 rfl;have ndB:((st.ah.set i { p with ow:=o,sc:=1 }).map (·.nm)).Nodup:=by rw[kL,nq (by rw[bV,e2];rfl)];exact wf.fP
 have hD:=hC.W4 (p1:={ p with ow:=o,sc:=1,row:=mD st TT }) GC (kC hi) e3 rfl cX hr1 ndB;refine⟨_,Z,qq.1,T.part,qq.2.1,_,Z,g6 _ _ kB,X.cP,X.LJ,by show 6<1000;decide,?_⟩;refine q _ { A with qs:=A.qs.set i (qq.1,qq.2.1,r) } _ ⟨GC.wr rfl,?_,wS⟩ rfl (F6.trans (Fr.write (t:=20) (x:=p.nm) (by rw[b8 (λz=>by rw[<-z,k3]at cr;cases cr)];exact k3)));have eS2:(st.ah.set i { p with ow:=o,sc:=1 }).set i { p with ow:=o,sc:=1,row:=mD st TT }=st.ah.set i { p with ow:=o,sc:=1,row:=mD st TT }:=qH ..;rw[<-eS2];exact hD
abbrev wM:Stmt:=inClass (top 21) 8
abbrev tZ:Da Str:=["self","part"]
abbrev OJ:Da Str:=tZ.append ["leaving","gains"]
def wN:aQ OJ tZ (aD wM):=dm
theorem JH{T:TC}{e:Ec}(F:jj K T.hold "land" "Hold.land" wM f fd)(X:Txt K T)(cV:Mn P w K mg base 1 T.hold "part_of" fJ (sN (nu T e)))(b7:Mn P w K mg base 1 T.hold "place_of" e_ (vE T))(gx:Mn P w K mg base 1 T.hold "tops_of" jx (Cg T))(JI:Mn P w K mg base 4 T.hold "shares" pH (E5 T))(jh:mg "zip"=none):Mn P w K mg base 5 T.hold "land" tZ (sN (QG T e)):=by
 refine F.oA wN λ_ _ _ _ H _ Q E hr h=>?_;obtain⟨⟨n,ρ,A,st,x,rfl,hh,ld,dq⟩⟩:=h;refine⟨_,(@cZ.h _ _ _ (aj (aS (i:=2) wN.nd (bZ cV hr (qv 0) (af (qv 1) ak)))
  (aj (bQ (kh mY mW mX d8 (aN K (qv 0)) (af (iN (af (aN K (qv 2)) (af (aN K (qv 2)) (af (aN K (qv 2)) (af (bZ JI hr (qv 0) (af (qv 1) ak)) ak))))) ak)))
  (aj (qt (i:=3) ["purse","top","leaving"] [none,none,some 2] wN.nd rfl rfl rfl (sW K (by rfl) jh (af (aN K (qv 0)) (af (bZ gx hr (qv 0) (af (qv 2) ak)) ak))) (λ_ _ _ _=>(iX K (n:=2) rfl (cS (aV (i:=0) (show List.Nodup (["purse","top","leaving"] :Da Str)from by decide +kernel)) (cS (aV (i:=1) (show List.Nodup (["purse","top","leaving"] :Da Str)from by decide +kernel)) iW)))) (λ_ _ _ _=>(aG b_ (qv 0) (aG gW (aN K (qv 2)) (qv 1)))) rfl (by rfl) (by rfl))
  (aj (Qz (qv 3) (bZ b7 hr (qv 0) (af (aN K (qv 2)) ak)) Mz (aG gW (aN K (qv 2)) (aN K (aN K (qv 0)))) aaL set_list)
  (aj (eE K (qv 0) (qv 3))
  (au (QB (aN K (qv 0)) (qv 1))))))))),?_⟩
 refine⟨_,Z,A.a,A.dx,_,Z,hh.h.oa,Z,_,Z,⟨⟨n,ρ,A,st,x,Z,hh.h,hh.wf.fP,λhn=>dq.no 3 ?_,λi p qq e1 e2 e3=>?_⟩⟩⟩
 .unfold qX;rw[av (λz=>?_)];obtain⟨j,p,h1,h2⟩:=n_ z;exact hn p (bg h1) h2
 subst e1;have wf:=hh.wf;have fF:=bg e2;have eR:qX st p.nm=none:=ay (Cr e2);have q:=dq.ok eR;have wS:=QH wf eR ld;rw[sY wf fF]at q wS;obtain⟨k1,k2,k3,k4⟩:=hh.h.opt i p qq e2 e3;obtain⟨Uc,hv0,hA0⟩:=hh.h.sj;refine⟨_,Z,A.a,T.hold,A.dx,_,_,Z,hh.h.oa,X.cH,X.has,Z,.inl ⟨Z,_,aB.of hv0⟩,_,Z,qq.1,T.part,qq.2.1,_,_,Z,k1,X.cP,X.X6,Z,_,Z,qq.1,T.part,qq.2.1,_,_,Z,k1,X.cP,X.pow,Z,_,Z,qq.1,T.part,qq.2.1,_,_,Z,k1,X.cP,X.xR,Z,_,Z,A.a,A.dx,_,Z,hh.h.oa,Z,_,Z,⟨⟨n,ρ,A,st,i,p,Z,hh,e2,ld.kn,λr ws H1 dB F1 hr0 hr1 cr1 sh1=>?_⟩⟩⟩;have hi:i<st.ah.length:=(dM.mp e2).1;refine⟨(iO 4),λt ht=>?_⟩;have g2:=aH ht (.tup [.str p.nm,.str p.ow,.int p.wo,.ref r]);have fr1:∀b,H1 b=none->H b=none:=λb hb=>F1.aeR dB.g hb;have fr2:∀b,upd H1 t (.tup [.str p.nm,.str p.ow,.int p.wo,.ref r]) b=none->H b=none:=λb hb=>fr1 b (lK hb);have iZ:=dB.mono g2;have F2:=F1.trans (Fr.of_same (ρ:=ρ) g2);have hr2:=g2 _ _ hr1;have sh2:=sh1.mono g2.tups;have ht2:upd H1 t (.tup [.str p.nm,.str p.ow,.int p.wo,.ref r]) t=some (.tup [.str p.nm,.str p.ow,.int p.wo,.ref r]):=aq;show qL _ (upd H1 t (.tup [.str p.nm,.str p.ow,.int p.wo,.ref r])) _;generalize upd H1 t (.tup [.str p.nm,.str p.ow,.int p.wo,.ref r])=H2 at *;clear g2 sh1 hr1 F1;have cH:aX T n (bY ρ r (n,30,⟨#[]⟩)) A H2 { st with kn:=st.kn+100 }:=iZ.h.same ⟨λ_ _ e=>e,λb u x w _ hc he=>⟨he,by rw[b8 (λz=>by rw[z,cr1]at hc;cases hc)];exact hc⟩⟩;have cG:Gh (bY ρ r (n,30,⟨#[]⟩)) H2:=iZ.g.color hr2 rfl;have cF:Fr n ρ H (bY ρ r (n,30,⟨#[]⟩)) H2:=F2.jI hr0;have cr2:bY ρ r (n,30,⟨#[]⟩) r=some (n,30,⟨#[]⟩):=cX;generalize bY ρ r (n,30,⟨#[]⟩)=ρ2 at *;clear iZ F2;obtain⟨Jj,hv2,hA2⟩:=cH.sj;have hal:Jj.length<1000:=by rw[show Jj.length=st.bB.length from hA2.length];exact ld.bB
 refine⟨A.as,Jj,_,Z,Z,hv2,c8 (by omega),?_⟩;have h3:aX T n ρ2 A (upd H2 A.as (.lst (Jj++[.ref t]))) { st with bB:=st.bB++[⟨p.nm,p.ow,p.wo,nc st p⟩],kn:=st.kn+100 }:=cH.abI (x:=⟨p.nm,p.ow,p.wo,nc st p⟩) cG hv2 ht2 hr2 cr2 sh2;have G3:=cG.wr (a:=A.as) (o:=.lst (Jj++[.ref t])) rfl;have F3:=cF.trans (Fr.write (o:=.lst (Jj++[.ref t])) cH.jC);have Yh:∀b,upd H2 A.as (.lst (Jj++[.ref t])) b=none->H b=none:=λb hb=>fr2 b (lK hb);have wf3:Wf { st with bB:=st.bB++[⟨p.nm,p.ow,p.wo,nc st p⟩],kn:=st.kn+100 }:={ wf with vU:=wS.vU,Iq:=wS.Iq }
 generalize upd H2 A.as (.lst (Jj++[.ref t]))=H3 at *;clear cH cG cF hv2 hA2 ht2 hr2 sh2;obtain⟨j1,j2,_,_⟩:=h3.opt i p qq e2 e3;refine⟨_,Z,A.a,T.hold,A.dx,_,_,Z,h3.oa,X.cH,X.AX,Z,_,Z,A.a,A.dx,_,Z,h3.oa,Z,_,Z,⟨⟨n,ρ2,A,_,i,p,qq,Z,h3,wf3,e2,e3,λl H4 g4 gk hl1=>?_⟩⟩⟩;have hl1:H4 l=some (.lst ((aP st p).map V.int)):=hl1;have tl:=As wf fF;have fD:=wf.lF;have mC:=wf.mC;have j4:=g4 _ _ j1;have zw:=ld.wo p fF;refine⟨_,_,_,_,_,_,Z,.lst (aB.of (g4 _ _ h3.lS)),.lst (aB.of hl1),λAp Bi=>?_⟩;refine AS (K:=K) (n:=st.bJ.length) [0,1] (λi out H5=>aK H4 H5/\out=(List.zipWith (λu t=>u+p.wo*t) (st.bJ.take i) ((aP st p).take i)).map V.int) (by decide) (by omega) ⟨aH Bi _,Z⟩ (λi out H5 hi _ hp=>⟨aB.of (hp.1 _ _ (g4 _ _ h3.lS)),aB.of (hp.1 _ _ hl1),by rw[aE];exact hi,by rw[aE,tl];omega⟩)
  (λout H5 _ hp=>⟨aB.of (hp.1 _ _ (g4 _ _ h3.lS)),aB.of (hp.1 _ _ hl1),.inl (by rw[aE];exact aL _)⟩) ?_ ?_
 .rintro k x out H5 H6 hk ah4 ha ⟨g5,e5⟩ ⟨pp,x1,y1,hpp,rfl,rfl,e6,e7⟩;obtain⟨u,rfl,eu⟩:=gY e6;obtain⟨c,rfl,ec⟩:=gY e7;have g6:=aH hpp (.tup [.int u,.int c]);refine⟨pp,_,Z,dU.of aq,Z,_,Z,_,Z,qq.1,T.part,qq.2.1,_,_,Z,(g5.trans g6) _ _ j4,X.cP,X.xR,Z,_,Z,_,_,Z,Z,.inl (by have:p.wo.natAbs<2 ^ 60:=zw;omega),_,_,Z,Z,g6 _ _ ha,(g5.trans g6).cI Bi _,?_⟩;rw[ng _ eu ec,e5,bN];rfl
 rintro out H5 ah4 ha5 ⟨g5,e5⟩;rw[cL,show st.bJ.length=(aP st p).length by omega,cL]at e5;have e5:out=(gF st p).map V.int:=e5;subst e5;have ada:H3 Ap=none:=g4.free Bi;have g35:=g4.trans g5;have h5:=h3.mono g35;have G5:=G3.same g35;have F5:=F3.trans (Fr.of_same (ρ:=ρ2) g35);have ca:ρ2 Ap=none:=G3.none ada;have j5:=g5 _ _ j4;have hown:=wf.ow p fF;have gl:=Bv wf fF;have hix:st.own.idxOf p.ow<(gF st p).length:=by rw[gl];exact mV hown
 refine⟨_,Z,_,Z,A.a,A.dx,_,Z,h5.oa,Z,_,Z,qq.1,T.part,qq.2.1,_,_,Z,j5,X.cP,X.pow,Z,⟨⟨n,ρ2,A,_,p.ow,Z,h5,hown,?_⟩⟩⟩;have at':lP ((gF st p).map V.int) ((st.own.idxOf p.ow:Nat):Int)=some (.int ((gF st p).getD (st.own.idxOf p.ow) 0)):=aC (by rw[bV,dD,bf hix];rfl);refine⟨Ap,_,_,_,Z,Z,aB.of ha5,at',_,Z,qq.1,T.part,qq.2.1,_,_,Z,j5,X.cP,X.xR,Z,_,Z,A.a,T.hold,A.dx,_,_,Z,h5.oa,X.cH,X.vS,Z,A.bt,T.bot,A.db,_,_,Z,h5.jE,X.cB,X.LK,Z,_,_,Z,Z,.inl (by have:p.wo.natAbs<2 ^ 60:=zw;omega),_,_,Z,Z,Ap,_,_,st.own.idxOf p.ow,Z,Z,ha5,by rw[aE];exact lY hix,?_⟩;have m1:((gF st p).map V.int).set (st.own.idxOf p.ow) (.int ((gF st p).getD (st.own.idxOf p.ow) 0-p.wo*st.prod))=(mF st p).map V.int:=kL.symm;have G6:=G5.wr (a:=Ap) (o:=.lst ((mF st p).map V.int)) rfl;have h6:=h5.same (LU (o:=.lst ((mF st p).map V.int)) ca ha5 rfl);have n6:H Ap=none:=Yh Ap ada;have F6:=F5.new (o:=.lst ((mF st p).map V.int)) n6;show vH _ _ _ _ (upd H5 Ap (.lst (((gF st p).map V.int).set (st.own.idxOf p.ow) (.int ((gF st p).getD (st.own.idxOf p.ow) 0-p.wo*st.prod)))));rw[m1];have y_:upd H5 Ap (.lst ((mF st p).map V.int)) Ap=some (.lst ((mF st p).map V.int)):=aq;generalize upd H5 Ap (.lst ((mF st p).map V.int))=H6 at *;refine⟨_,Z,_,Z,A.a,T.hold,A.dx,_,Z,h6.oa,X.cH,X.AX,by show 7<1000;decide,?_⟩;obtain⟨h7,G7⟩:=Bb (t:=7) h6 G6 ca y_ rfl;have F7:Fr n ρ H (bY ρ2 Ap (n,7,⟨#[]⟩)) H6:=F6.jI n6;have h8:=h7.Ud G7 Ap _ y_ cX;have G8:=G7.wr (a:=A.a) (o:=.ins T.hold A.dx (kH { A with pu:=Ap })) rfl;have F8:=F7.trans (Fr.write (o:=.ins T.hold A.dx (kH { A with pu:=Ap })) h7.ca);rw[show br "purses" (V.ref Ap) (kH A)=kH { A with pu:=Ap }from rfl];generalize upd H6 A.a (.ins T.hold A.dx (kH { A with pu:=Ap }))=H8 at *;have hv8:=vD wf.fP e2 e3;have dk:=Dr wf.fP hh.h.ql e2;refine⟨_,Z,A.a,T.hold,A.dx,_,_,Z,h8.oa,X.cH,X.hab,Z,_,Z,A.ab,_,Sum.inr p.nm,Z,h8.fE,Z,?_,?_⟩
 .show (eL (cY st.ah A.qs) (Sum.inr p.nm)).isSome=true;rw[hv8];rfl
 show Q .cy (upd H8 A.ab (.dK (nN (cY st.ah A.qs) (Sum.inr p.nm))));rw[dk];have hi2:i<A.qs.length:=by rw[hh.h.ql];exact hi
 have h9:=h8.LI G8 (st.ah.eraseIdx i) (A.qs.eraseIdx i) (by rw[Rb hi,Rb hi2,hh.h.ql]) (λj x y ex ey=>by obtain⟨k,a1,a2⟩:=A8 ex ey;exact h8.opt k x y a1 a2)
 rw[Bu wf.fP e2]at q wS;exact q _ { { A with pu:=Ap }with qs:=A.qs.eraseIdx i } _ ⟨G8.wr rfl,h9,wS⟩ rfl (F8.trans (Fr.write h8.ia))
abbrev uW:Stmt:=inClass (top 21) 9
abbrev rK:Da Str:=["self","part","name","amount","weight"]
abbrev Nb:Da Str:=rK.append ["source"]
def Aw:aQ Nb rK (aD uW):=dm
theorem Ht{T:TC}{e:Ec}(F:jj K T.hold "sever" "Hold.sever" uW f fd)(X:Txt K T)(cV:Mn P w K mg base 1 T.hold "part_of" fJ (sN (nu T e)))(jK:Mn P w K mg base 3 T.hold "check_new" jJ (sN (yp T e)))(l_:Mn P w K mg base 1 T.hold "stow" oW (LP T))(yX:Cn P w K mg base 1 "Part" T.part ["self","name","owner","worth","weight","scale","row"] (GH T K)):Mn P w K mg base 4 T.hold "sever" rK (sN (Mt T e)):=by
 refine F.oA Aw λ_ _ _ _ H _ Q E hr h=>?_;obtain⟨⟨n,ρ,A,st,x,y,a,we,rfl,Nc,hy0,hl1,hl2,dq⟩⟩:=h;refine⟨_,(@cZ.h _ _ _ (aj (aS (i:=5) Aw.nd (bZ cV hr (qv 0) (af (qv 1) ak)))
  (aj (bQ (bZ jK hr (qv 0) (af (qv 2) ak)))
  (aj (c5 (ju (bW.pt (Cp (aR tR (qv 3) ai (aZ _)) (yP (aR tR (qv 4) ai (aZ _)))))) (au gU) bM)
  (aj (c5 (ju (bW.pt (Cp (aR KC (qv 3) (aN K (qv 5)) (aZ _)) (yP (aR iT (qv 4) (aN K (qv 5)) (aZ _)))))) (au gU) bM)
  (aj (rj K (qv 5) (qv 3) Ld)
  (aj (rj K (qv 5) (qv 4) Ld)
  (au (bQ (bZ l_ hr (qv 0) (af (Yi yX hr (af (qv 2) (af (aN K (qv 5)) (af (qv 3) (af (qv 4) (af (aN K (qv 5)) (af (aN K (qv 5)) ak))))))) ak))))))))))),?_⟩
 refine⟨_,Z,A.a,A.dx,_,Z,Nc.h.oa,Z,_,Z,⟨⟨n,ρ,A,st,x,Z,Nc.h,Nc.wf.fP,λhn=>dq.no 3 ?_,λi p qq e1 e2 e3=>?_⟩⟩⟩
 .unfold kT;rw[av (λz=>?_)];obtain⟨j,p,h1,h2⟩:=n_ z;exact hn p (bg h1) h2
 have fF:=bg e2;have eg:cO st x=p:=dS Nc.wf fF e1;subst e1;have hm:=Cr e2;have eR:kT st p.nm y a we=match newR st y with
  | some i=>some i
  | none=>if a<1\/we<0 then some 5 else if p.wo<=a\/p.we<we then some 6 else none:=by unfold kT;rw[ay hm,eg];first|done|(cases newR st y <;> rfl)
 refine⟨_,Z,A.a,A.dx,_,Z,Nc.h.oa,Z,_,Z,⟨⟨n,ρ,A,st,y,Z,Nc.h,hy0,λi hi=>dq.no i (by rw[eR,hi]),λhnew H1 g1=>?_⟩⟩⟩;rw[hnew]at eR;have eR:kT st p.nm y a we=if a<1\/we<0 then some 5 else if p.wo<=a\/p.we<we then some 6 else none:=eR;have hh:=Nc.mono g1;obtain⟨k1,k2,k3,k4⟩:=hh.h.opt i p qq e2 e3;by_cases hb:a<1\/we<0
 .have rq:=dq.no 5 (by rw[eR,ay hb]);refine⟨true,⟨_,Z,_,_,Z,Z,_,Z,c6 (λc=>⟨Z,Z⟩) λc=>⟨_,Z,_,_,Z,Z,_,Z,bR (hb.resolve_left λz=>c (bR z)),Z⟩⟩,gc (rq 0 H1 g1)⟩
 rw[av hb]at eR;refine⟨false,⟨_,Z,_,_,Z,Z,_,Z,c6 (λc=>absurd (dN c) (by omega)) λ_=>⟨_,Z,_,_,Z,Z,_,Z,c9 (by omega),Z⟩⟩,bq ?_⟩;by_cases hb2:p.wo<=a\/p.we<we
 .have rq:=dq.no 6 (by rw[eR,ay hb2]);refine⟨true,⟨_,Z,_,Z,qq.1,T.part,qq.2.1,_,_,Z,k1,X.cP,X.xR,Z,_,_,Z,Z,_,Z,c6 (λc=>⟨Z,Z⟩) λc=>⟨_,Z,_,Z,qq.1,T.part,qq.2.1,_,_,Z,k1,X.cP,X.X7,Z,_,_,Z,Z,_,Z,bR (hb2.resolve_left λz=>c (bR z)),Z⟩⟩,gc (rq 0 H1 g1)⟩
 rw[av hb2]at eR;have q:=dq.ok eR;refine⟨false,⟨_,Z,_,Z,qq.1,T.part,qq.2.1,_,_,Z,k1,X.cP,X.xR,Z,_,_,Z,Z,_,Z,c6 (λc=>absurd (dN c) (by show ¬ p.wo<=a;omega)) λ_=>⟨_,Z,_,Z,qq.1,T.part,qq.2.1,_,_,Z,k1,X.cP,X.X7,Z,_,_,Z,Z,_,Z,c9 (by show ¬ p.we<we;omega),Z⟩⟩,bq ?_⟩;refine⟨_,Z,qq.1,T.part,qq.2.1,_,_,Z,k1,X.cP,X.xR,Z,_,Z,_,_,Z,Z,qq.2.1,_,k1,by show 6<1000;decide,?_⟩;have wA:Wf (oU st p.nm λp=>{ p with wo:=p.wo-a }):=yR hh.wf λp' eZ e=>by rw[nU hh.wf eZ fF e];exact⟨Z,Z,Z,Z,by show 1<=p.wo-a;omega,(hh.wf.jS p fF).2⟩
 have wB:Wf (oU st p.nm λp=>{ p with wo:=p.wo-a,we:=p.we-we }):=yR hh.wf λp' eZ e=>by rw[nU hh.wf eZ fF e];exact⟨Z,Z,Z,Z,by show 1<=p.wo-a;omega,by show 0<=p.we-we;omega⟩
 have wS:=Mu hh.wf eR hl1 hl2;have esA:oU st p.nm (λp=>{ p with wo:=p.wo-a })={ st with ah:=st.ah.set i { p with wo:=p.wo-a } }:=Cs hh.wf.fP e2 _;have esB:oU st p.nm (λp=>{ p with wo:=p.wo-a,we:=p.we-we })={ st with ah:=st.ah.set i { p with wo:=p.wo-a,we:=p.we-we } }:=Cs hh.wf.fP e2 _;have hi:i<st.ah.length:=(dM.mp e2).1;have hA:=hh.h.lT (p1:={ p with wo:=p.wo-a }) hh.g e2 e3 rfl rfl hh.wf.fP;have gA:Gh ρ (upd H1 qq.1 (.ins T.part qq.2.1 (dI { p with wo:=p.wo-a } qq.2.2))):=hh.g.wr rfl;have FA:Fr n ρ H ρ (upd H1 qq.1 (.ins T.part qq.2.1 (dI { p with wo:=p.wo-a } qq.2.2))):=(Fr.of_same g1).trans (Fr.write k3);have kA:upd H1 qq.1 (.ins T.part qq.2.1 (dI { p with wo:=p.wo-a } qq.2.2)) qq.1=some (.ins T.part qq.2.1 (dI { p with wo:=p.wo-a } qq.2.2)):=aq;have nA:∀b,upd H1 qq.1 (.ins T.part qq.2.1 (dI { p with wo:=p.wo-a } qq.2.2)) b=none->H b=none:=λb h=>g1.free (lK h);show vH _ _ _ _ (upd H1 qq.1 (.ins T.part qq.2.1 (dI { p with wo:=p.wo-a } qq.2.2)));generalize upd H1 qq.1 (.ins T.part qq.2.1 (dI { p with wo:=p.wo-a } qq.2.2))=H2 at *;refine⟨_,Z,qq.1,T.part,qq.2.1,_,_,Z,kA,X.cP,X.X7,Z,_,Z,_,_,Z,Z,qq.2.1,_,kA,by show 6<1000;decide,?_⟩;have hB:=hA.lT (i:=i) (p1:={ p with wo:=p.wo-a,we:=p.we-we }) gA (kC hi) e3 rfl rfl (by have:=wA.fP;rw[esA]at this;exact this);have Yx:(st.ah.set i { p with wo:=p.wo-a }).set i { p with wo:=p.wo-a,we:=p.we-we }=st.ah.set i { p with wo:=p.wo-a,we:=p.we-we }:=qH ..;have gB:Gh ρ (upd H2 qq.1 (.ins T.part qq.2.1 (dI { p with wo:=p.wo-a,we:=p.we-we } qq.2.2))):=gA.wr rfl;have FB:Fr n ρ H ρ (upd H2 qq.1 (.ins T.part qq.2.1 (dI { p with wo:=p.wo-a,we:=p.we-we } qq.2.2))):=FA.trans (Fr.write k3);have kB:upd H2 qq.1 (.ins T.part qq.2.1 (dI { p with wo:=p.wo-a,we:=p.we-we } qq.2.2)) qq.1=some (.ins T.part qq.2.1 (dI { p with wo:=p.wo-a,we:=p.we-we } qq.2.2)):=aq;generalize hH3:upd H2 qq.1 (HO.ins T.part qq.2.1 (br _ _ _))=H3;have Xp:upd H2 qq.1 (.ins T.part qq.2.1 (dI { p with wo:=p.wo-a,we:=p.we-we } qq.2.2))=H3:=hH3;have nB:∀b,H3 b=none->H b=none:=λb h=>nA b (lK (by rw[Xp];exact h));rw[Xp]at hB gB FB kB;have gR:HH T n ρ A H3 (oU st p.nm λp=>{ p with wo:=p.wo-a,we:=p.we-we }):=⟨gB,by rw[esB,<-Yx];exact hB,wB⟩
 obtain⟨_,r3,_,_⟩:=hB.opt i { p with wo:=p.wo-a,we:=p.we-we } qq (by show((st.ah.set i _).set i _)[i]?=_;rw[Yx];exact kC hi) e3;clear hA hB gA FA kA hH3 Xp;refine⟨_,Z,A.a,A.dx,_,Z,gR.h.oa,Z,_,Z,_,Z,qq.1,T.part,qq.2.1,_,_,Z,kB,X.cP,X.pow,Z,_,Z,_,Z,_,Z,qq.1,T.part,qq.2.1,_,_,Z,kB,X.cP,X.Ip,Z,_,Z,qq.1,T.part,qq.2.1,_,_,Z,kB,X.cP,X.LJ,Z,?_⟩;intro v dv hv hdv hvd;have QU:upd (upd H3 dv (.own v)) v (.ins T.part dv []) qq.2.2=some (.lst (p.row.map V.int)):=by rw[az (aJ r3 hv),az (aJ r3 hdv)];exact r3
 refine⟨⟨v,dv,qq.2.2,⟨y,p.ow,a,we,p.sc,p.row⟩,Z,aq,aB.of QU,λrr H6 hrr k6 hy6 Xm=>⟨Z,?_⟩⟩⟩;have MU:H3 rr=none:=lK (lK hrr);have g6:aK H3 H6:=λb u e=>k6 b u (by rw[az (aJ e hv),az (aJ e hdv)];exact e) (aJ e hv);have yY:=gR.mono g6;have F6:=FB.trans (Fr.of_same (ρ:=ρ) g6);unfold qZ at wS q;rw[eg]at wS q;exact⟨⟨n,ρ,A,_,(v,dv,rr),_,Z,yY,hy6,Xm,gR.g.none hv,gR.g.none MU,(lM eR).2.1.2,wS,λρ' A' H' a1 a2 a3=>q ρ' A' H' a1 a2 (a3.fr F6 (nB _ hv) (nB _ MU))⟩⟩
abbrev oJ:Stmt:=inClass (top 21) 26
abbrev jM:Da Str:=["self","place"]
abbrev DM:Da Str:=jM.append ["own"]
def ve:aQ DM jM (aD oJ):=dm
theorem CA{T:TC}(F:jj K T.hold "stake_top" "Hold.stake_top" oJ f fd)(X:Txt K T)(iy:Mn P w K mg base 1 T.hold "whole" kW (Cj T))(ff:mg "sum"=none):Mn P w K mg base 2 T.hold "stake_top" jM (Ab T):=by
 refine F.oA ve λ_ _ _ _ H _ Q E hr h=>?_;obtain⟨⟨n,ρ,A,st,k,rfl,h,ok,hk,q⟩⟩:=h;refine⟨_,(@cZ.h _ _ _ (aj (aS (i:=2) ve.nd (aY (ji K rfl) (by rfl) ff uD (af (Mh (iE ["part","place"] [none,some 1] rfl (Co (aN K (qv 0))) (λ_ _ _ _=>(aV (i:=0) (show List.Nodup (["part","place"] :Da Str)from by decide +kernel))) (λ_ _ _ _=>(aG fk (aG gW (aN K (qv 0)) (aN K (qv 0))) (aF (aM K) (aN K (qv 0)) (qv 1)))) rfl (by rfl))) ak)))
  (au (bH (aG b_ (qv 2) (aG gW (GQ iy hr (qv 0)) (aF (aM K) (aN K (qv 0)) (qv 1)))))))),?_⟩
 have wf:=ok.wf;have hl:=wf.qQ;refine⟨A.ab,_,h.fE,λo=>?_⟩;refine⟨_,Z,A.a,T.hold,A.dx,_,_,Z,fU h.fE h.oa (λk z=>by cases z),X.cH,X.hab,Z,A.ab,o,_,Z,aq,λAp Bi=>?_⟩;have el:=yK h.ql;refine iL (n:=st.ah.length) 0 (λi out H1=>aK (upd H A.ab (.gy o (.dK (cY st.ah A.qs)))) H1/\out=((st.ah.take i).map λp:Pt=>p.wo*p.sc*p.row.getD k 0).map V.int) (by omega) ⟨aH Bi _,Z⟩ (λi out H1 hi _ hp=>⟨hp.1 _ _ aq,by rw[el];exact hi⟩) (λout H1 _ hp=>⟨hp.1 _ _ aq,by rw[el];exact aL _⟩) ?_ ?_
 .rintro i x out H1 H2 hi fD ha ⟨g,e⟩ ⟨rfl,kv,hkv,rfl⟩;have ep:=bf hi;have fF:=zm hi;obtain⟨qq,eq,h1,h2,_⟩:=h.find ep;rw[yJ ep eq]at hkv;cases hkv;generalize st.ah[i]=p at *;have hq:=g _ _ (fU h.fE h1 (λk z=>by cases z));have hrw:=g _ _ (fU h.fE h2 (λk z=>by cases z));have hkr:k<p.row.length:=by rw[wf.rows p fF];exact hk
  have s1:Jm.Sz 8000 p.sc:=Jm.Sz.lQ (by have:=wf.qR p fF;have:=wf.fZ;omega) (wf.qR p fF).2 wf.big;have hr0:=wf.oF p fF _ (I0 hkr);have s2:Jm.Sz 8000 (p.row.getD k 0):=Jm.Sz.lQ hr0.1 hr0.2 wf.big;have s3:=(ok.wo p fF).mul s1;have cm:La p.wo p.sc:=.inl (by have:p.wo.natAbs<2 ^ 60:=ok.wo p fF;omega);refine⟨_,Z,qq.1,T.part,qq.2.1,_,_,Z,hq,X.cP,X.xR,Z,_,Z,qq.1,T.part,qq.2.1,_,_,Z,hq,X.cP,X.Ip,Z,_,_,Z,Z,cm,_,Z,qq.1,T.part,qq.2.1,_,_,Z,hq,X.cP,X.LJ,Z,_,Z,qq.2.2,_,_,_,Z,Z,aB.of hrw,getD_at hkr,_,_,Z,Z,eX s3 s2,ha,g.cI Bi _,?_⟩;rw[take_snoc ep,e,bN,bN];rfl
 rintro out H1 fD ha ⟨g,e⟩;rw[cL]at e;have hz:=g _ _ (aq (H:=H) (a:=A.ab) (o:=.gy o (.dK (cY st.ah A.qs))));have na:Ap≠A.ab:=λe=>by rw[e,hz]at ha;cases ha
 refine⟨hz,Ap,st.ah.map (λp:Pt=>p.wo*p.sc*p.row.getD k 0),Z,aB.of (by rw[az na,ha,e]),?_⟩;have g2:=vW h.fE g;generalize upd H1 A.ab (.dK (cY st.ah A.qs))=H2 at *;have h2:=h.mono g2;have hkc:k<st.bX.length:=by rw[wf.gf];exact hk
 refine⟨_,Z,_,Z,A.a,A.dx,_,Z,h2.oa,Z,⟨⟨n,ρ,A,st,Z,h2,hl,λH3 g3=>?_⟩⟩⟩;have h3:=h2.mono g3;exact⟨_,Z,A.a,T.hold,A.dx,_,_,Z,h3.oa,X.cH,X.AW,Z,_,Z,A.cm,_,_,_,Z,Z,aB.of h3.jR,getD_at hkc,_,_,Z,Z,.inl (by have:(aI st).natAbs<2 ^ 60:=ok.wh;omega),_,_,Z,Z,q H3 (g2.trans g3)⟩
abbrev uX:Stmt:=inClass (top 21) 14
abbrev wO:Da Str:=["self","owner"]
abbrev Nd:Da Str:=wO
def JJ:aQ Nd wO (aD uX):=dm
def JK{T:TC}(F:jj K T.hold "stake" "Hold.stake" uX f fd)(X:Txt K T)(eV:Mn P w K mg base 2 T.bot "over" i9 (yL T))(iF:Mn P w K mg base 2 T.hold "stake_top" jM (Ab T))(b7:Mn P w K mg base 1 T.hold "place_of" e_ (vE T)):Mn P w K mg base 3 T.hold "stake" wO (W_ T):=by refine F.oA JJ λ_ _ _ _ H _ Q E hr h=>?_;obtain⟨⟨n,ρ,A,st,o,rfl,h,ok,ho,q⟩⟩:=h;refine⟨_,(@cZ.h _ _ _ (au (bH (bZ eV hr (aN K (qv 0)) (af (bZ iF hr (qv 0) (af (bZ b7 hr (qv 0) (af (qv 1) ak)) ak)) ak))))),?_⟩;have wf:=ok.wf;refine⟨_,Z,A.a,T.hold,A.dx,_,_,Z,h.oa,X.cH,X.vS,Z,A.bt,A.db,_,Z,h.jE,Z,_,Z,A.a,A.dx,_,Z,h.oa,Z,_,Z,A.a,A.dx,_,Z,h.oa,Z,_,Z,⟨⟨n,ρ,A,st,o,Z,h,ho,?_⟩⟩⟩;refine⟨⟨n,ρ,A,st,st.own.idxOf o,Z,h,ok,mV ho,λH1 g1=>?_⟩⟩;have h1:=h.mono g1;exact⟨⟨A.bt,A.db,A.sp,A.kn,st.stp,st.prod,_,Z,h1.jE,h1.oQ,wf.nR,wf.sO,wf.big,λr H2 g2 hr2=>q r H2 (g1.trans g2) hr2⟩⟩
abbrev uY:Stmt:=inClass (top 21) 15
abbrev rL:Da Str:=["self","owner"]
abbrev Nf:Da Str:=rL
def JL:aQ Nf rL (aD uY):=dm
def JM{T:TC}(F:jj K T.hold "purse" "Hold.purse" uY f fd)(X:Txt K T)(eV:Mn P w K mg base 2 T.bot "over" i9 (yL T))(b7:Mn P w K mg base 1 T.hold "place_of" e_ (vE T)):Mn P w K mg base 3 T.hold "purse" rL (QN T):=by
 refine F.oA JL λ_ _ _ _ H _ Q E hr h=>?_;obtain⟨⟨n,ρ,A,st,o,rfl,h,wf,ho,q⟩⟩:=h;refine⟨_,(@cZ.h _ _ _ (au (bH (bZ eV hr (aN K (qv 0)) (af (aF (aM K) (aN K (qv 0)) (bZ b7 hr (qv 0) (af (qv 1) ak))) ak))))),?_⟩;have hk:st.own.idxOf o<st.bJ.length:=by rw[wf.mC];exact mV ho
 refine⟨_,Z,A.a,T.hold,A.dx,_,_,Z,h.oa,X.cH,X.vS,Z,A.bt,A.db,_,Z,h.jE,Z,_,Z,A.a,T.hold,A.dx,_,_,Z,h.oa,X.cH,X.AX,Z,_,Z,A.a,A.dx,_,Z,h.oa,Z,_,Z,⟨⟨n,ρ,A,st,o,Z,h,ho,?_⟩⟩⟩;refine⟨A.pu,_,_,_,Z,Z,aB.of h.lS,getD_at hk,?_⟩;exact⟨⟨A.bt,A.db,A.sp,A.kn,st.stp,st.prod,_,Z,h.jE,h.oQ,wf.nR,wf.sO,wf.big,λr H2 g2 hr2=>q r H2 g2 hr2⟩⟩
abbrev rM:Stmt:=inClass (top 21) 16
abbrev oj:Da Str:=["self","owner"]
abbrev Hu:Da Str:=oj.append ["place","landed"]
def rN:aQ Hu oj (aD rM):=dm
theorem Fv{T:TC}(F:jj K T.hold "fortune" "Hold.fortune" rM f fd)(X:Txt K T)(eV:Mn P w K mg base 2 T.bot "over" i9 (yL T))(iF:Mn P w K mg base 2 T.hold "stake_top" jM (Ab T))(b7:Mn P w K mg base 1 T.hold "place_of" e_ (vE T))(ff:mg "sum"=none):Mn P w K mg base 3 T.hold "fortune" oj (UU T):=by
 refine F.oA rN λ_ _ _ _ H _ Q E hr h=>?_;obtain⟨⟨n,ρ,A,st,o,rfl,h,ok,ho,q⟩⟩:=h;refine⟨_,(@cZ.h _ _ _ (aj (aS (i:=2) rN.nd (bZ b7 hr (qv 0) (af (qv 1) ak)))
  (aj (aS (i:=3) rN.nd (aY (ji K rfl) (by rfl) ff uD (af (v8 ["name","holder","worth","shares","owner"] [none,none,none,none,some 1] rfl (dH K (aN K (qv 0))) (λ_ _ _ _=>(iX K (n:=4) rfl (cS (aV (i:=0) (show List.Nodup (["name","holder","worth","shares","owner"] :Da Str)from by decide +kernel)) (cS (aV (i:=1) (show List.Nodup (["name","holder","worth","shares","owner"] :Da Str)from by decide +kernel)) (cS (aV (i:=2) (show List.Nodup (["name","holder","worth","shares","owner"] :Da Str)from by decide +kernel)) (cS (aV (i:=3) (show List.Nodup (["name","holder","worth","shares","owner"] :Da Str)from by decide +kernel)) iW)))))) (λ_ _ _ _=>(qv 2)) (λ_ _ _ _=>(aR dG (qv 1) (qv 4) (aZ _))) rfl (by rfl)) ak)))
  (au (bH (bZ eV hr (aN K (qv 0)) (af (aG b_ (aG b_ (bZ iF hr (qv 0) (af (qv 2) ak)) (aF (aM K) (aN K (qv 0)) (qv 2))) (aG gW (qv 3) (aN K (aN K (qv 0))))) ak))))))),?_⟩
 have wf:=ok.wf;refine⟨_,Z,A.a,A.dx,_,Z,h.oa,Z,_,Z,⟨⟨n,ρ,A,st,o,Z,h,ho,?_⟩⟩⟩;obtain⟨ws,hw,hA⟩:=h.sj;have hl:=hA.length;have hal:=wf.vU;refine⟨_,Z,A.a,T.hold,A.dx,_,_,Z,h.oa,X.cH,X.has,Z,A.as,Z,⟨_,aB.of hw⟩,λAp Bi=>?_⟩;refine Qj (K:=K) (n:=ws.length) [0,1,2,3] (λi out H1=>aK H H1/\out=(((st.bB.take i).filter λa=>decide (a.ow=o)).map λa:lq=>a.wo).map V.int) (by decide) (by omega) ⟨aH Bi _,Z⟩ (λi out H1 hi _ hp=>⟨ws,_,aB.of (hp.1 _ _ hw),bf hi⟩) (λout H1 _ hp=>⟨ws,aB.of (hp.1 _ _ hw),aL _⟩) ?_ ?_
 .rintro i x out H1 H2 hi fD ha ⟨g,e⟩ ⟨rfl,hy⟩;have ex:=hy ws (aB.of (g _ _ hw));obtain⟨r,l,y,ss,rfl,ey,a1,_⟩:=hA.get ex;refine⟨r,_,Z,dU.of (g _ _ a1),Z,_,Z,_,Z,Z,_,Z,c6 (λc=>?_) (λc=>?_)⟩
  .have c':y.ow=o:=V.str.inj (dN c);refine⟨_,Z,ha,g.cI Bi _,?_⟩;rw[take_snoc ey,Rt,fX,ay (bR c'),bN,bN,<-e];rfl
  .have c':¬ y.ow=o:=λz=>c (bR (by rw[z]));refine⟨ha,g,?_⟩;rw[take_snoc ey,Rt,fX,av (by simpa using c'),List.filter_nil,qF];exact e
 rintro out H1 fD ha ⟨g1,e⟩;rw[hl,cL]at e;subst e;have h1:=h.mono g1;have hk:st.own.idxOf o<st.bJ.length:=by rw[wf.mC];exact mV ho
 refine⟨Ap,_,Z,aB.of ha,?_⟩;refine⟨_,Z,A.a,T.hold,A.dx,_,_,Z,h1.oa,X.cH,X.vS,Z,A.bt,A.db,_,Z,h1.jE,Z,_,Z,A.a,A.dx,_,Z,h1.oa,Z,_,Z,⟨⟨n,ρ,A,st,st.own.idxOf o,Z,h1,ok,mV ho,λH2 g2=>?_⟩⟩⟩;have h2:=h1.mono g2;refine⟨_,Z,A.a,T.hold,A.dx,_,_,Z,h2.oa,X.cH,X.AX,Z,_,Z,A.pu,_,_,_,Z,Z,aB.of h2.lS,getD_at hk,_,_,Z,Z,_,Z,_,Z,A.a,T.hold,A.dx,_,_,Z,h2.oa,X.cH,X.vS,Z,A.bt,T.bot,A.db,_,_,Z,h2.jE,X.cB,X.LK,Z,_,_,Z,Z,.inl (by have:(((st.bB.filter λa=>decide (a.ow=o)).map λa:lq=>a.wo).sum).natAbs<2 ^ 60:=ok.la o;omega),_,_,Z,Z,?_⟩;exact⟨⟨A.bt,A.db,A.sp,A.kn,st.stp,st.prod,_,Z,h2.jE,h2.oQ,wf.nR,wf.sO,wf.big,λr H3 g3 Vc=>q r H3 ((g1.trans g2).trans g3) Vc⟩⟩
abbrev wQ:Stmt:=top 26
abbrev gM:Da Str:=["_law_script","_law_k","_law_j","_law_many"]
abbrev OL:Da Str:=gM.append ["_law_cell","_law_turn","_law_rest","_law_step","_law_one","_law_two"]
def gq:aQ OL gM (aD wQ):=dm
theorem Ng(F:At K mg "_law_draw" wQ f fd)(bO:mg "len"=none)(cu:mg "range"=none):Dn P w K mg base 1 "_law_draw" gM (oO K):=by
 refine F.oA gq λ_ _ _ _ H _ Q E hr h=>?_;obtain⟨⟨a,ns,k,j,BM,rfl,hS,h63,hk,hj,hj2,hm,q⟩⟩:=h;refine⟨_,(@cZ.h _ _ _ (aj (aS (i:=4) gq.nd ai)
  (aj (aS (i:=5) gq.nd ai)
  (aj (gh (aR iT (aY (cC K) (by rfl) bO d7 (af (qv 0) ak)) ai (aZ _)) (aj (aS (i:=4) gq.nd (aF (aM K) (qv 0) (aG kM (qv 1) (aY (cC K) (by rfl) bO d7 (af (qv 0) ak)))))
  (au (aS (i:=5) gq.nd (aG iC (qv 1) (aY (cC K) (by rfl) bO d7 (af (qv 0) ak)))))) bM)
  (aj (aS (i:=6) gq.nd (qv 4))
  (aj (fj fT rfl (gZ (by rfl) cu (af (qv 2) ak)) (aV (i:=7) gq.nd) (au (aS (i:=6) gq.nd (aG iC (qv 6) (aG oN ai ai)))))
  (aj (c5 (ju (bW.pt (oV (aR dG (qv 5) ai (aZ _)) (oV (aR KC (qv 4) (aG oN ai ai) (aZ _)) (qu (aR iT (qv 6) ai (aZ _))))))) (au (bH (aG kM (aG kM (qv 6) (aG oN ai ai)) (qv 3)))) bM)
  (aj (aS (i:=8) gq.nd (aG kM (aG b_ (aG b_ (aG b_ (aG gW (qv 4) ai) (aG gW (qv 1) ai)) (aG gW (qv 2) ai)) ai) ai))
  (aj (aS (i:=9) gq.nd (aG kM (aG b_ (aG gW (qv 8) ai) (aG iC (qv 4) ai)) ai))
  (aj (aS (i:=9) gq.nd (aG kM (aG b_ (aG gW (qv 9) (aG b_ (aG kM (qv 8) ai) ai)) (qv 2)) ai))
  (au (bH (aG kM (aG kM (aG b_ (aG b_ (aG gW (qv 8) ai) (aG gW (qv 9) ai)) (aG iC (qv 9) ai)) ai) (qv 3)))))))))))))),?_⟩
 have hl:(ns.map V.int).length=ns.length:=aE _;refine⟨λσ H'=>H'=H/\σ=[some (.ref a),some (.int k),some (.int j),some (.int BM),some (.int (Jm.cellOf ns k)),some (.int (Jm.AK ns k)),none,none,none,none],?_,?_⟩
 .refine ⟨_,Z,a,_,Z,.inl hS,_,_,Z,Z,_,Z,?_⟩;refine c6 (λc=>?_) (λc=>?_)
  .have c':0<(((ns.map V.int).length:Nat):Int):=dN c;rw[hl]at c';have i0:0<=k % (ns.length:Int):=o9 _ (by omega);have i1:k % (ns.length:Int)<(ns.length:Int):=zh _ c';refine⟨_,Z,_,Z,_,Z,a,_,Z,.inl hS,_,_,Z,Z,(by show(0:Int)<_;rw[hl];exact c'),a,_,_,.int (ns.getD (k % ns.length).toNat 0),Z,Z,hS,?_,?_⟩
   .rw [hl];exact Ze i0 i1
   refine⟨_,Z,_,Z,a,_,Z,.inl hS,_,_,Z,Z,Wo (n:=10) (by rw[hl];exact c') (by rw[hl];omega) (by decide),Z,?_⟩;unfold Jm.cellOf Jm.AK;rw[ay c',ay c',hl];rfl
  .have c':¬ 0<(((ns.map V.int).length:Nat):Int):=qB (pN.mpr c);rw[hl]at c';refine⟨Z,?_⟩;unfold Jm.cellOf Jm.AK;rw[av c',av c'];rfl
 rintro σ H' ⟨rfl,rfl⟩;generalize ec:Jm.cellOf ns k=cell at *;generalize et:Jm.AK ns k=turn at *;refine⟨_,Z,_,Z,j,Z,by omega,hj2,?_⟩;refine iK (lo:=0) (n:=j.toNat) (λi σ ER=>ER=H'/\∃st:Option V,σ=[some (.ref a),some (.int k),some (.int j),some (.int BM),some (.int cell),some (.int turn),some (.int (Jm.Et cell i)),st,none,none]) ⟨Z,none,Z⟩ ?_ ?_
 .rintro i σ ER hi ⟨rfl,st,rfl⟩;refine⟨_,Z,_,_,Z,Z,⟨by decide,by decide,by decide⟩,_,_,Z,Z,AJ (by decide +kernel),Z,?_⟩;exact⟨_,Z⟩
 rintro σ ER ⟨rfl,st,rfl⟩;have full:Q (.int (Jm.draw ns k j BM)) ER:=q;unfold Jm.draw at full;rw[ec,et]at full;generalize er:Jm.Et cell j.toNat=Cl at *;refine⟨decide (turn=0/\1000000000000000000<=cell/\0<Cl),?_,?_⟩
 .refine ⟨_,Z,Z,_,Z,?_⟩;by_cases h1:turn=0
  .rw [bR (by rw[h1] :V.int turn=V.int 0)];refine gc ⟨_,Z,_,_,Z,Z,⟨by decide,by decide,by decide⟩,_,_,Z,Z,_,Z,?_⟩;by_cases h2:1000000000000000000<=cell
   .rw [bR (show(10:Int) ^ (18:Int).toNat<=cell from h2)];refine gc ⟨_,Z,_,_,Z,Z,_,Z,?_,Z⟩;by_cases h3:0<Cl
    .rw [bR h3,bR ⟨h1,h2,h3⟩]
    .rw [c9 h3,c9 λz=>h3 z.2.2]
   .rw [c9 (show ¬ (10:Int) ^ (18:Int).toNat<=cell from h2)];exact bq ⟨(c9 λz=>h2 z.2.1).symm,Z⟩
  .rw [c9 (λz=>h1 (V.int.inj z))];exact bq ⟨(c9 λz=>h1 z.1).symm,Z⟩
 by_cases h:turn=0/\1000000000000000000<=cell/\0<Cl
 .rw [bR h];rw[ay h]at full;refine gc ⟨_,Z,_,_,Z,Z,⟨by decide,by decide,by decide⟩,_,_,Z,Z,(by show(0:Int)<_;decide),_,Z,_,_,Z,Z,hm,?_⟩;exact full
 .rw [c9 h];rw[av h]at full;refine bq ?_;refine⟨_,Z,_,_,Z,Z,.inr ⟨by decide,by decide⟩,_,Z,_,_,Z,Z,.inr ⟨by decide,by decide⟩,_,_,Z,Z,_,Z,_,_,Z,Z,.inr ⟨by decide,by decide⟩,_,_,Z,Z,_,_,Z,Z,_,_,Z,Z,(by show(0:Int)<_;decide),?_⟩;refine⟨_,Z,_,_,Z,Z,.inr ⟨by decide,by decide⟩,_,Z,_,_,Z,Z,AJ (by decide +kernel),_,_,Z,Z,_,_,Z,Z,(by show(0:Int)<_;decide),?_⟩;unfold Jm.mixed at full;dsimp only at full ⊢;generalize e1:(cell*7919+k*104729+j*1299709+31) % 1000000007=one at *;generalize e2:(one*48271+cell / 1009) % 998244353=two at *;have b1:0<=one % 9973:=o9 _ (by decide);have b2:one % 9973<9973:=zh _ (by decide);refine⟨_,Z,_,Z,_,_,Z,Z,(by show(0:Int)<_;decide),_,_,Z,Z,_,_,Z,Z,.inr ⟨by omega,by omega⟩,_,Z,_,_,Z,Z,_,_,Z,Z,(by show(0:Int)<_;decide),?_⟩;refine⟨_,Z,_,_,Z,Z,.inr ⟨by decide,by decide⟩,_,Z,_,_,Z,Z,.inr ⟨by decide,by decide⟩,_,_,Z,Z,_,Z,_,_,Z,Z,AJ (by decide +kernel),_,_,Z,Z,_,_,Z,Z,(by show(0:Int)<_;decide),_,Z,_,_,Z,Z,hm,?_⟩;exact full
abbrev wR:Stmt:=top 27
abbrev t7:Da Str:=["_law_code","_law_size"]
abbrev OM:Da Str:=t7.append ["_law_word","_law_at_here"]
def nI:aQ OM t7 (aD wR):=dm
theorem Nh(F:At K mg "_law_name" wR f fd)(cu:mg "range"=none):Dn P w K mg base 1 "_law_name" t7 GA:=by
 refine F.oA nI λ_ _ _ _ H _ Q E hr h=>?_;obtain⟨⟨c,n,rfl,hc,hn,q⟩⟩:=h;refine⟨_,(@cZ.h _ _ _ (aj (aS (i:=2) nI.nd aO)
  (aj (fj fT rfl (gZ (by rfl) cu (af (qv 1) ak)) (aV (i:=3) nI.nd) (aj (aS (i:=2) nI.nd (aG RC (qv 2) (aF Tg aO (aG kM (qv 0) ai))))
  (au (aS (i:=0) nI.nd (aG iC (qv 0) ai)))))
  (au (bH (qv 2)))))),?_⟩
 refine⟨_,Z,_,Z,by omega,by omega,?_⟩;refine iK (lo:=0) (n:=(n:Int).toNat) (λi σ H'=>H'=H/\∃(s1:Option V),σ=[some (.int (c / 26 ^ i)),some (.int n),some (.str (tx (mJ c i))),s1]) ⟨Z,none,by rw[Int.pow_zero,Eb];rfl⟩ ?_ ?_
 .rintro i σ H' hi ⟨rfl,s1,rfl⟩;have hp:(0:Int)<26 ^ i:=Int.pow_pos (by decide);have hd0:0<=c / 26 ^ i:=Ks hc (B0 hp);have hm0:0<=c / 26 ^ i % 26:=o9 _ (by decide);have hm1:c / 26 ^ i % 26<26:=zh _ (by decide);refine⟨_,Z,_,Z,_,_,Z,Z,(by show(0:Int)<26;decide),_,_,_,Z,Z,(by decide +kernel),TV hm0 hm1,?_⟩;refine⟨_,_,Z,Z,?_,?_⟩
  .rw [AM,zL];show i+1<=sizeLine;exact BX (c8 (by omega))
  refine⟨_,Z,_,_,Z,Z,vN (by decide) (gX (by decide +kernel)),Z,some (.int ((0:Int)+(i:Int))),?_⟩;have e1:c / 26 ^ i / 26=c / 26 ^ (i+1):=by rw[Int.ediv_ediv_of_nonneg (B0 hp),Int.pow_succ]
  have e2:(tx (mJ c i)++tx [97+(c / 26 ^ i % 26).toNat] :Str)=tx (mJ c (i+1)):=by rw[abv,Wx]
  rw[<-e1,<-e2];rfl
 rintro σ H' ⟨rfl,s1,rfl⟩;refine⟨_,Z,?_⟩;rw[sH];exact q
abbrev uZ:Stmt:=top 28
abbrev rO:Da Str:=["_law_script","_law_k","_law_many"]
abbrev Ni:Da Str:=rO.append ["_law_alike","_law_size","_law_first","_law_shift","_law_at_here","_law_names_here","_law_code"]
def dY:aQ Ni rO (aD uZ):=dm
theorem JN(F:At K mg "_law_names" uZ f fd)(aT:Dn P w K mg base 1 "_law_draw" gM (oO K))(t8:Dn P w K mg base 1 "_law_name" t7 GA)(cu:mg "range"=none):Dn P w K mg base 2 "_law_names" rO (GB K):=by
 refine F.oA dY λ_ _ _ _ H _ Q E hr h=>?_;obtain⟨⟨a,ms,k,BM,rfl,hS,h63,hk,hm,q⟩⟩:=h;refine⟨_,(@cZ.h _ _ _ (aj (aS (i:=3) dY.nd (Cq dG (bh aT hr (af (qv 0) (af (qv 1) (af ai (af ai ak))))) ai (aZ _)))
  (aj (aS (i:=4) dY.nd (aG b_ ai (bh aT hr (af (qv 0) (af (qv 1) (af ai (af ai ak)))))))
  (aj (aS (i:=5) dY.nd (bh aT hr (af (qv 0) (af (qv 1) (af ai (af (aG oN ai ai) ak))))))
  (aj (aS (i:=6) dY.nd ai)
  (aj (gh (ny (qv 3)) (au (fj fT rfl (gZ (by rfl) cu (af (bh aT hr (af (qv 0) (af (qv 1) (af ai (af (qv 4) ak))))) ak)) (aV (i:=7) dY.nd) (au (aS (i:=6) dY.nd (aG gW (qv 6) ai))))) bM)
  (aj (aS (i:=8) dY.nd (iB ak))
  (aj (fj fT rfl (gZ (by rfl) cu (af (qv 2) ak)) (aV (i:=7) dY.nd) (aj (aS (i:=9) dY.nd (aG b_ (qv 5) (aG gW (qv 6) (bh aT hr (af (qv 0) (af (qv 1) (af (aG b_ ai (aG gW ai (qv 7))) (af ai ak))))))))
  (aj (gh (q_ (ny (qv 3))) (aj (aS (i:=4) dY.nd (aG b_ ai (bh aT hr (af (qv 0) (af (qv 1) (af (aG b_ ai (aG gW ai (qv 7))) (af ai ak)))))))
  (au (aS (i:=9) dY.nd (bh aT hr (af (qv 0) (af (qv 1) (af (aG b_ ai (aG gW ai (qv 7))) (af (aG oN ai ai) ak)))))))) bM)
  (aj (Dy fT (aR Ti (bh t8 hr (af (qv 9) (af (qv 4) ak))) (qv 8) (by with_unfolding_all rfl)) (au (aS (i:=9) dY.nd (aG b_ (qv 9) (qv 6)))))
  (au (bQ (kh mY mW mX d8 (qv 8) (af (bh t8 hr (af (qv 9) (af (qv 4) ak))) ak))))))))
  (au (bH (qv 8))))))))))),?_⟩
 have P10:V3 10 10:=⟨by decide,by decide,by decide +kernel⟩
 refine⟨_,Z,_,Z,cR hS h63 hk (by decide) (by decide) (by decide) λal _ _ _=>⟨Z,?_⟩⟩;refine⟨_,Z,_,Z,cR hS h63 hk (by decide) (by decide) (by decide) λsd _ s0 s1=>⟨_,_,Z,Z,?_⟩⟩;refine⟨_,Z,_,Z,_,_,Z,Z,P10,cR hS h63 hk (by decide) (by decide) (by decide +kernel) λfc _ f0 f1=>?_⟩;generalize hal:decide (V.int al=V.int 0)=alike;obtain⟨n0,en0⟩:∃n:Nat,1+sd=(n:Int):=⟨(1+sd).toNat,by omega⟩
 refine⟨λσ H'=>H'=H/\∃(d:Nat)(s7:Option V),(alike=true->d<n0)/\(alike=false->d=0)/\d<8/\σ=[some (.ref a),some (.int k),some (.int BM),some (.bl alike),some (.int (1+sd)),some (.int fc),some (.int ((26:Int) ^ d)),s7,none,none],?_,?_⟩
 .refine ⟨_,Z,_,Z,c6 (λc=>?_) (λc=>?_)⟩
  .refine ⟨_,Z,_,Z,_,Z,cR hS h63 hk (by decide) (by decide) (by omega) λdd _ d0 d1=>⟨dd,Z,by omega,by omega,?_⟩⟩;refine iK (lo:=0) (n:=dd.toNat) (λi σ H'=>H'=H/\∃s7:Option V,σ=[some (.ref a),some (.int k),some (.int BM),some (.bl alike),some (.int (1+sd)),some (.int fc),some (.int ((26:Int) ^ i)),s7,none,none]) ⟨Z,none,Z⟩ ?_ ?_
   .rintro i σ H' hi ⟨rfl,s7,rfl⟩;refine⟨_,Z,_,_,Z,Z,.inr ⟨by decide,by decide⟩,Z,some (.int ((0:Int)+(i:Int))),?_⟩;rw[Int.pow_succ];rfl
   .rintro σ H' ⟨rfl,s7,rfl⟩;exact⟨Z,dd.toNat,s7,λ_=>by omega,λz=>absurd c (by rw[z];exact gH),by omega,Z⟩
  .exact ⟨Z,0,none,λz=>absurd z c,λ_=>rfl,by decide,Z⟩
 rintro σ H' ⟨rfl,d,s7,hd1,hd2,hd8,rfl⟩;refine⟨(iO 0),λpn v7=>?_⟩;have g0:=aH v7 (.lst []);refine⟨_,Z,(BM:Int),Z,by omega,by omega,?_⟩;refine iK (lo:=0) (n:=(BM:Int).toNat) (λi σ H2=>aK H' H2/\∃(nss:Da (Da Nat))(n:Nat)(s1 s2:Option V),d<n/\n<=8/\σ=[some (.ref a),some (.int k),some (.int BM),some (.bl alike),some (.int (n:Int)),some (.int fc),some (.int ((26:Int) ^ d)),s1,some (.ref pn),s2]/\H2 pn=some (.lst (ue nss))/\nss.length=i/\nss.Nodup/\∀x∈nss,qO x)
  ⟨g0,[],n0,s7,none,?_,by omega,by rw[<-en0];rfl,aq,Z,xF,λ_ m=>nomatch m⟩ ?_ ?_
 .cases alike with
  | true=>exact hd1 rfl
  | false=>rw[hd2 rfl];omega
 .rintro i σ H2 hi ⟨g,nss,n,s1,s2,hdn,QZ,rfl,hn,hnl,hnd,hok⟩;have hsl:(ue nss).length=i:=by unfold ue;rw[aE];exact hnl
  have hSg:=g.seq hS;have hp:(0:Int)<26 ^ d:=Int.pow_pos (by decide);have hp8:(26:Int) ^ d<2 ^ 64:=by rcases(by omega:d=0\/d=1\/d=2\/d=3\/d=4\/d=5\/d=6\/d=7)with e|e|e|e|e|e|e|e <;> (rw[e];decide +kernel)
  refine⟨_,Z,_,Z,_,Z,_,Z,_,Z,_,_,Z,Z,.inl ⟨by decide,by decide⟩,_,_,Z,Z,cR hSg h63 hk (by omega) (by omega) (by decide) λcd _ c0 c1=>⟨_,_,Z,Z,.inl ⟨by omega,hp8⟩,_,_,Z,Z,?_⟩⟩;have hcode:0<=fc+26 ^ d*cd:=Int.add_nonneg f0 (kJ (B0 hp) c0);refine⟨λσ H3=>H3=H2/\∃(n:Nat)(c:Int),0<=c/\d<n/\n<=8/\σ=[some (.ref a),some (.int k),some (.int BM),some (.bl alike),some (.int (n:Int)),some (.int fc),some (.int ((26:Int) ^ d)),some (.int ((0:Int)+(i:Int))),some (.ref pn),some (.int c)],?_,?_⟩
  .refine ⟨_,Z,_,Z,?_⟩;cases hb:alike with
   | true=>exact bq ⟨Z,n,_,hcode,hdn,QZ,Z⟩
   | false=>refine gc ?_;have hd0:=hd2 hb;refine⟨_,Z,_,Z,_,Z,_,_,Z,Z,.inl ⟨by decide,by decide⟩,_,_,Z,Z,cR hSg h63 hk (by omega) (by omega) (by decide) λzd _ z0 z1=>⟨_,_,Z,Z,?_⟩⟩;refine⟨_,Z,_,Z,_,Z,_,_,Z,Z,.inl ⟨by decide,by decide⟩,_,_,Z,Z,_,_,Z,Z,P10,cR hSg h63 hk (by omega) (by omega) (by decide +kernel) λcd2 _ e0 _=>?_⟩;refine⟨Z,(1+zd).toNat,cd2,e0,by omega,by omega,?_⟩;rw[show(((1+zd).toNat:Nat):Int)=1+zd from by omega];rfl
  clear hdn QZ hcode;rintro σ H3 ⟨rfl,n,yc,cc0,hdn,QZ,rfl⟩;refine⟨λm σ H4=>H4=H3/\∃t:Nat,m=nss.length+1-t/\t<=nss.length/\σ=[some (.ref a),some (.int k),some (.int BM),some (.bl alike),some (.int (n:Int)),some (.int fc),some (.int ((26:Int) ^ d)),some (.int ((0:Int)+(i:Int))),some (.ref pn),some (.int (yc+(t:Int)*26 ^ d))]/\∀j:Nat,j<t->mJ (yc+(j:Int)*26 ^ d) n∈nss,
   ⟨_,Z,0,Z,iH _,by rw[show yc+((0:Nat):Int)*26 ^ d=yc from by simp],λj hj=>absurd hj (Nat.not_lt_zero _)⟩,?_⟩
  rintro m σ H4 ⟨rfl,t,rfl,ht,rfl,htr⟩;have hct:0<=yc+(t:Int)*26 ^ d:=Int.add_nonneg cc0 (kJ (by omega) (B0 hp));refine⟨_,Z,_,Z,LD rfl hct (by omega) ?_⟩;refine⟨_,Z,pn,_,Z,.inl (aB.of hn),Z,Wz nss,?_⟩;show SY _ (V.bl (if false=true then !Ic (.str (tx (mJ (yc+(t:Int)*26 ^ d) n))) (ue nss) else Ic (.str (tx (mJ (yc+(t:Int)*26 ^ d) n))) (ue nss))) _;rw[av gH,Qh];refine⟨_,Z,c6 (λc=>?_) (λc=>?_)⟩
  .have hmem:mJ (yc+(t:Int)*26 ^ d) n∈nss:=dN c;have adf:∀j:Nat,j<t+1->mJ (yc+(j:Int)*26 ^ d) n∈nss:=λj hj=>by
    rcases Nat.lt_succ_iff_lt_or_eq.mp hj with z|z
    .exact htr j z
    .rw [z];exact hmem
   have hle:=T5 (c:=yc) (n:=n) (t:=t+1) hdn (by omega) adf;refine⟨_,λ_ _ z=>z,?_⟩;refine⟨_,Z,_,Z,_,_,Z,Z,?_⟩;refine⟨_,(by omega:nss.length+1-(t+1)<nss.length+1-t),Z,t+1,Z,hle,?_,adf⟩;rw[show yc+((t+1:Nat):Int)*26 ^ d=yc+(t:Int)*26 ^ d+26 ^ d from by rw[Int.natCast_add,nM];show _+(_+1*_)=_;rw[Int.one_mul,Int.add_assoc]];rfl
  .have hnm:mJ (yc+(t:Int)*26 ^ d) n∉nss:=qB (pN.mpr c);refine⟨_,Z,.inl ⟨Z,_,aB.of hn⟩,?_⟩;refine⟨_,Z,_,Z,LD rfl hct (by omega) ?_⟩;refine⟨pn,ue nss,_,Z,Z,hn,c8 (by omega),g.cI v7 _,nss++[mJ (yc+(t:Int)*26 ^ d) n],n,_,_,hdn,QZ,Z,?_,?_,nO hnd hnm,λx hx=>?_⟩
   .rw [aq];unfold ue;rw[bN];rfl
   .rw [cW,hnl];rfl
   .rcases c7.mp hx with z|z
    .exact hok x z
    .rw [dF.mp z];exact abz _ (by omega) QZ
 rintro σ H2 ⟨g,nss,n,s1,s2,hdn,QZ,rfl,hn,hnl,hnd,hok⟩;exact⟨_,Z,q pn nss H2 g hn v7 (by omega) hnd hok⟩
abbrev wU:Stmt:=top 30
abbrev mh:Da Str:=["_law_script","_law_k","_law_j"]
abbrev ON:Da Str:=mh.append ["_law_size"]
def BK:aQ ON mh (aD wU):=dm
theorem Nj(F:At K mg "_law_much" wU f fd)(aT:Dn P w K mg base 1 "_law_draw" gM (oO K)):Dn P w K mg base 2 "_law_much" mh (AL K):=by
 refine F.oA BK λ_ _ _ _ H _ Q E hr h=>?_;obtain⟨⟨a,ns,k,j,rfl,hS,h63,hk,hj,hj2,q⟩⟩:=h;refine⟨_,(@cZ.h _ _ _ (aj (aS (i:=3) BK.nd (aF (aM K) (iB (af ai (af ai (af ai (af (aG oN ai ai) ak))))) (bh aT hr (af (qv 0) (af (qv 1) (af (qv 2) (af ai ak)))))))
  (au (bH (aG b_ ai (bh aT hr (af (qv 0) (af (qv 1) (af (aG b_ (qv 2) ai) (af (qv 3) ak)))))))))),?_⟩
 refine⟨_,_,Z,Z,⟨by decide,by decide,by decide⟩,(iO 4),λp1 hp1=>?_⟩;have g1:=aH hp1 (.lst [V.int 9,V.int 40,V.int 1000,V.int (10 ^ (9:Int).toNat)]);refine⟨_,Z,_,Z,_,Z,cR (g1.seq hS) h63 hk hj (by omega) (by decide) λd _ d0 d1=>?_⟩;obtain⟨B,hB,hB0,hB1⟩:∃B:Int,lP [V.int 9,V.int 40,V.int 1000,V.int (10 ^ (9:Int).toNat)] d=some (.int B)/\0<B/\B<=1000000000:=by
  rcases(by omega:d=0\/d=1\/d=2\/d=3)with e|e|e|e
  .exact ⟨9,by rw[e];rfl,by decide,by decide⟩
  .exact ⟨40,by rw[e];rfl,by decide,by decide⟩
  .exact ⟨1000,by rw[e];rfl,by decide,by decide⟩
  .exact ⟨10 ^ (9:Int).toNat,by rw[e];rfl,by decide,by decide⟩
 refine⟨p1,_,_,_,Z,Z,aB.of aq,hB,?_⟩;refine⟨_,Z,_,Z,_,Z,_,_,Z,Z,_,Z,cR (g1.seq hS) h63 hk (by omega) (by omega) hB0 λe _ e0 e1=>⟨_,_,Z,Z,?_⟩⟩;exact q (1+e) _ (by omega) (by omega) g1
abbrev yt:Stmt:=top 50
abbrev vz:Da Str:=["_law_found"]
abbrev Sg:Da Str:=vz
def OO:aQ Sg vz (aD yt):=dm
def OP(F:At K mg "_law_int" yt f fd)(jN:mg "isinstance"=none)(Sh:mg "int"=none)(Nk:mg "bool"=none):Dn P w K mg base 1 "_law_int" vz XT:=by refine F.oA OO λ_ _ _ _ H _ Q E hr h=>?_;obtain⟨i,rfl,q⟩:=h;refine⟨_,(@cZ.h _ _ _ (au (bH (UI (aY (vP K) (by rfl) jN PyProof.Rows.boot_isinstance (af (qv 0) (af (R5 PyProof.Rows.boot_int rfl Sh) ak))) (UE (acd (aY (vP K) (by rfl) jN PyProof.Rows.boot_isinstance (af (qv 0) (af (R5 PyProof.Rows.boot_bool rfl Nk) ak))))))))),?_⟩;refine⟨_,Z,_,_,_,_,Z,m9.int i,Lr,_,Z,gc ?_⟩;refine⟨_,Z,_,_,_,_,Z,m9.int i,Ls,_,Z,?_⟩;exact q
abbrev u0:Stmt:=top 51
abbrev rP:Da Str:=["_law_top","_law_bottom"]
abbrev Nl:Da Str:=rP.append ["_law_one","_law_other"]
def pK:aQ Nl rP (aD u0):=dm
theorem JO(F:At K mg "_law_least" u0 f fd)(Si:mg "abs"=none):Dn P w K mg base 1 "_law_least" rP Gz:=by
 refine F.oA pK λ_ _ _ _ H _ Q E hr h=>?_;obtain⟨⟨t,b,rfl,hb,hb2,q⟩⟩:=h;refine⟨_,(@cZ.h _ _ _ (aj (aS (i:=2) pK.nd (aY V4 (by rfl) Si PyProof.Rows.boot_abs (af (qv 0) ak)))
  (aj (aS (i:=3) pK.nd (qv 1))
  (aj (Dy fT (aR XI (qv 3) ai (aZ _)) (au (UH (i:=2) (j:=3) rfl pK.nd rfl rfl (by decide) rfl rfl (af (qv 3) (af (aG kM (qv 2) (qv 3)) ak)) (by rfl))))
  (au (bH (iN (af (aG iC (qv 0) (qv 2)) (af (aG iC (qv 1) (qv 2)) ak))))))))),?_⟩
 refine⟨_,Z,_,Z,_,Z,?_⟩;refine⟨λm σ H'=>∃x y:Int,m=y.toNat/\σ=[some (.int t),some (.int b),some (.int x),some (.int y)]/\H'=H/\0<=x/\0<=y/\Jm.cf x y=Jm.cf b t,
  ⟨_,(if t<0 then -t else t),b,Z,Z,Z,(by split <;> omega),B0 hb,(by rw[Jm.Qg,Jm.abn])⟩,?_⟩
 rintro m σ H' ⟨x,y,rfl,rfl,rfl,hx,hy,e⟩;refine⟨_,Z,Z,_,Z,c6 (λc=>?_) (λc=>?_)⟩
 .have c1:¬ V.int y=V.int 0:=qB (by simpa using c);have c':0<y:=by have:y≠0:=λz=>c1 (by rw[z]);omega
  refine⟨_,λ_ _ z=>z,?_⟩;refine⟨_,Z,_,Z,_,Z,_,_,Z,Z,c',_,_,Z,?_⟩;have h1:0<=x % y:=o9 _ (by omega);have h2:x % y<y:=zh _ c';exact⟨_,(by omega:(x % y).toNat<y.toNat),y,x % y,Z,Z,Z,hy,h1,(Jm.Gx x y c').trans e⟩
 .have c1:V.int y=V.int 0:=by simpa using c
  have ey:y=0:=V.int.inj c1;subst ey;rw[Jm.Qf x hx]at e;subst e;have g0:0<Jm.cf b t:=Jm.Es _ _ (.inl hb);have g1:Jm.Sz 9000 (Jm.cf b t):=hb2.dvd hb (B0 g0) (Jm.tT b t);have gd:∀i,Cc i (Jm.cf b t):=λi=>vN g0 g1;refine⟨_,Z,_,Z,_,_,Z,Z,gd _,_,Z,_,Z,_,_,Z,Z,gd _,(iO 2),λp hp=>?_⟩;refine q p _ (aH hp _) ?_;rw[aq];show some (HO.tup [V.int (t / Jm.cf b t),V.int (b / Jm.cf b t)])=some (HO.tup [V.int (Jm.fr t b).num,V.int ((Jm.fr t b).den:Int)]);rw[Jm.Tu t b hb,Jm.Tv t b hb]
abbrev Ah:Stmt:=top 52
abbrev yd:Da Str:=["_law_found","_law_top","_law_bottom"]
abbrev Vd:Da Str:=yd
def Sj:aQ Vd yd (aD Ah):=dm
def Sk(F:At K mg "_law_is" Ah f fd)(vA:Dn P w K mg base 1 "_law_int" vz XT)(wV:Dn P w K mg base 1 "_law_least" rP Gz)(jN:mg "isinstance"=none)(vF:mg "tuple"=none)(bO:mg "len"=none):Dn P w K mg base 2 "_law_is" yd Wt:=by
 refine F.oA Sj λ_ _ _ _ H _ Q E hr h=>?_
 obtain⟨⟨p,q,t,b,rfl,hp,h0,h1,e,hq⟩⟩:=h
 refine⟨_,(@cZ.h _ _ _ (aj (c5 (ju (bW.pt (Cp (q_ (ny (aY (vP K) (by rfl) jN PyProof.Rows.boot_isinstance (af (qv 0) (af (R5 PyProof.Rows.boot_tuple rfl vF) ak))))) (yP (aR XI (aY (cC K) (by rfl) bO d7 (af (qv 0) ak)) ai (aZ _)))))) (au (bH z8)) bM)
  (aj (c5 (ju (bW.pt (Cp (q_ (ny (bh vA hr (af (aF (a_ K) (qv 0) ai) ak)))) (yP (q_ (ny (bh vA hr (af (aF (a_ K) (qv 0) ai) ak)))))))) (au (bH z8)) bM)
  (au (bH (Cq (Zf K hr.units) (qv 0) (bh wV hr (af (qv 1) (af (qv 2) ak))) (aZ _))))))),?_⟩
 refine⟨false,?_,bq ?_⟩
 . refine⟨_,Z,_,_,_,_,Z,m9.tup hp,Lr,_,Z,bq ?_⟩
   exact⟨_,Z,_,_,Z,.inr (dU.of hp),Z,_,Z,Z,Z⟩
 refine⟨false,?_,bq ?_⟩
 . refine⟨_,Z,p,_,_,_,Z,Z,dU.of hp,Z,_,Z,_,Z,bq ?_⟩
   exact⟨_,Z,p,_,_,_,Z,Z,dU.of hp,Z,_,Z,_,Z,Z,Z⟩
 refine⟨_,Z,_,Z,_,Z,TM h0 h1 λr H1 g1 hr1=>?_⟩
 rw[<-e]at hr1
 refine⟨_,_,TL (g1 _ _ hp),TL hr1,CQ _ _,CQ _ _,?_⟩
 rw[Ws]
 exact hq H1 g1
abbrev u6:Stmt:=top 29
abbrev rQ:Da Str:=["_law_owners"]
abbrev Nm:Da Str:=rQ
def JP:aQ Nm rQ (aD u6):=dm
def JQ(F:At K mg "_law_model" u6 f fd)(jb:mg "list"=none):Dn P w K mg base 1 "_law_model" rQ (Qx K):=by
 refine F.oA JP λ_ _ _ _ H _ Q E hr h=>?_;obtain⟨⟨l,own,n,ρ,rfl,hl,G,hle,q⟩⟩:=h;refine⟨_,(@cZ.h _ _ _ (au (bH (ZL (v9 aO (nC (lR K) (by rfl) jb Gj (af (qv 0) ak)) (v9 aO (iB ak) (v9 aO ai (v9 aO (iB ak) (v9 aO (iB ak) ZK))))) (by rfl) (by rfl) (λz=>nomatch z) (by with_unfolding_all decide))))),?_⟩;intro m hm;have g0:=aH hm (.dK []);have em0:upd H m (.dK []) m=some (.dK []):=aq;have gk:=g0.seq hl;generalize upd H m (.dK [])=H0 at *;refine⟨_,Z,l,_,Z,.inl gk,λlo hlo=>?_⟩;have g1:=aH hlo (.lst (own.map V.str));have su:upd H0 lo (.lst (own.map V.str)) lo=some (.lst (own.map V.str)):=aq;have oZ:=g1 _ _ em0;generalize upd H0 lo (.lst (own.map V.str))=H1 at *;refine⟨(iO 0),λlp vf=>?_⟩;have g2:=aH vf (.lst []);have ep2:upd H1 lp (.lst []) lp=some (.lst []):=aq;have Ve:=g2 _ _ su;have BL:=g2 _ _ oZ;show AI _ _ (upd H1 lp (.lst [])) _;generalize upd H1 lp (.lst [])=H2 at *;refine⟨(iO 0),λla hla=>?_⟩;have g3:=aH hla (.lst []);have ye:upd H2 la (.lst []) la=some (.lst []):=aq;have ep3:=g3 _ _ ep2;have eo3:=g3 _ _ Ve;have C5:=g3 _ _ BL;show AI _ _ (upd H2 la (.lst [])) _;generalize upd H2 la (.lst [])=H3 at *;refine⟨(iO 0),λlk hlk=>?_⟩;have g4:=aH hlk (.lst []);have ek4:upd H3 lk (.lst []) lk=some (.lst []):=aq;have ea4:=g4 _ _ ye;have ep4:=g4 _ _ ep3;have eo4:=g4 _ _ eo3;have Vf:=g4 _ _ C5;show upd H3 lk (.lst []) m=_/\_;generalize upd H3 lk (.lst [])=H4 at *;have gA:=((g0.trans g1).trans g2).trans (g3.trans g4);have n1:lo≠m:=λe=>by rw[e,em0]at hlo;cases hlo
 have n2:lp≠m:=λe=>by rw[e,oZ]at vf;cases vf
 have n3:lp≠lo:=λe=>by rw[e,su]at vf;cases vf
 have n4:la≠m:=λe=>by rw[e,BL]at hla;cases hla
 have n5:la≠lo:=λe=>by rw[e,Ve]at hla;cases hla
 have n6:la≠lp:=λe=>by rw[e,ep2]at hla;cases hla
 have n7:lk≠m:=λe=>by rw[e,C5]at hlk;cases hlk
 have n8:lk≠lo:=λe=>by rw[e,eo3]at hlk;cases hlk
 have n9:lk≠lp:=λe=>by rw[e,ep3]at hlk;cases hlk
 have nA:lk≠la:=λe=>by rw[e,ye]at hlk;cases hlk
 refine⟨Vf,[(Sum.inr "owners",.ref lo),(Sum.inr "parts",.ref lp),(Sum.inr "bottom",.int 1),(Sum.inr "ashore",.ref la),(Sum.inr "known",.ref lk)],Z,by show 5<=15;decide,?_⟩;have eK:yG [] [(Sum.inr "owners",.ref lo),(Sum.inr "parts",.ref lp),(Sum.inr "bottom",.int 1),(Sum.inr "ashore",.ref la),(Sum.inr "known",.ref lk)]=fB ⟨m,lo,lp,la,lk,[]⟩ 1:=rfl;rw[eK];have u1:upd H4 m (.dK (fB ⟨m,lo,lp,la,lk,[]⟩ 1)) m=some (.dK (fB ⟨m,lo,lp,la,lk,[]⟩ 1)):=aq;have u2:upd H4 m (.dK (fB ⟨m,lo,lp,la,lk,[]⟩ 1)) lo=some (.lst (own.map V.str)):=by rw[az n1];exact eo4
 have u3:upd H4 m (.dK (fB ⟨m,lo,lp,la,lk,[]⟩ 1)) lp=some (.lst []):=by rw[az n2];exact ep4
 have u4:upd H4 m (.dK (fB ⟨m,lo,lp,la,lk,[]⟩ 1)) la=some (.lst []):=by rw[az n4];exact ea4
 have u5:upd H4 m (.dK (fB ⟨m,lo,lp,la,lk,[]⟩ 1)) lk=some (.lst []):=by rw[az n7];exact ek4
 have G4:=(G.same gA).wr (a:=m) (o:=.dK (fB ⟨m,lo,lp,la,lk,[]⟩ 1)) rfl;have hz:∀b o,H b=some o->upd H4 m (.dK (fB ⟨m,lo,lp,la,lk,[]⟩ 1)) b=some o:=λb o e=>by rw[az (λz=>by rw[z,hm]at e;cases e)];exact gA _ _ e
 have y1:H lo=none:=g0.free hlo;have y2:H lp=none:=(g0.trans g1).free vf;have y3:H la=none:=((g0.trans g1).trans g2).free hla;have y4:H lk=none:=(((g0.trans g1).trans g2).trans g3).free hlk;generalize upd H4 m (.dK (fB ⟨m,lo,lp,la,lk,[]⟩ 1))=H5 at *;refine q (bY (bY (bY (bY (bY ρ m (n,20,⟨#[]⟩)) lo (n,21,⟨#[]⟩)) lp (n,22,⟨#[]⟩)) la (n,25,⟨#[]⟩)) lk (n,26,⟨#[]⟩)) ⟨m,lo,lp,la,lk,[]⟩ H5 (((((G4.color u1 rfl).color u2 rfl).color u3 rfl).color u4 rfl).color u5 rfl) ⟨u1,?_,u2,?_,u3,?_,⟨[],u4,.nil⟩,?_,u5,cX,Z,λi p q e=>by simp at e⟩ (λb o e=>⟨hz b o e,?_⟩)
 .show bY _ lk _ m=_;rw[b8 (cJ n7),b8 (cJ n4),b8 (cJ n2),b8 (cJ n1),cX]
 .show bY _ lk _ lo=_;rw[b8 (cJ n8),b8 (cJ n5),b8 (cJ n3),cX]
 .show bY _ lk _ lp=_;rw[b8 (cJ n9),b8 (cJ n6),cX]
 .show bY _ lk _ la=_;rw[b8 (cJ nA),cX]
 .rw [b8 (aJ e y4),b8 (aJ e y3),b8 (aJ e y2),b8 (aJ e y1),b8 (aJ e hm)]
abbrev wW:Stmt:=top 31
abbrev jq:Da Str:=["_law_owners","_law_name_here"]
abbrev OQ:Da Str:=jq.append ["_law_at_here"]
def BN:aQ OQ jq (aD wW):=dm
theorem Nn(F:At K mg "_law_seat" wW f fd)(bO:mg "len"=none)(cu:mg "range"=none):Dn P w K mg base 1 "_law_seat" jq (yN K):=by
 refine F.oA BN λ_ _ _ _ H _ Q E hr h=>?_;obtain⟨⟨l,own,o,rfl,hl,ho,hle,q⟩⟩:=h;refine⟨_,(@cZ.h _ _ _ (aj (fj fT rfl (gZ (by rfl) cu (af (aY (cC K) (by rfl) bO d7 (af (qv 0) ak)) ak)) (aV (i:=2) BN.nd) (au (c5 (aR dG (aF (aM K) (qv 0) (qv 2)) (qv 1) (aZ _)) (au (bH (qv 2))) bM)))
  (au (bH (R6 Lb ai))))),?_⟩
 have ll:(own.map V.str).length=own.length:=aE _;refine⟨_,Z,l,_,Z,.inl hl,_,Z,by omega,by omega,?_⟩;refine iK (lo:=0) (n:=(((own.map V.str).length:Nat):Int).toNat) (λi σ H'=>H'=H/\o∉own.take i/\∃s2,σ=[some (.ref l),some (.str o),s2]) ⟨Z,by simp,_,Z⟩ ?_ ?_
 .rintro i σ H' hi ⟨rfl,hn,s2,rfl⟩;have e0:(0:Int)+(i:Int)=((i:Nat):Int):=by omega
  rw[e0];have hio:i<own.length:=by omega
  have ei:=bf hio;refine⟨_,Z,_,Z,l,_,_,_,Z,Z,hl,aC (by rw[bV,ei];rfl),_,Z,Z,_,Z,c6 (λc=>?_) (λc=>?_)⟩
  .have c':own[i]=o:=V.str.inj (dN c);refine⟨_,Z,?_⟩;have:own.idxOf o=i:=by
    have h1:own.idxOf o<=i:=by
     rcases Nat.lt_or_ge i (own.idxOf o)with z|z
     .exact absurd c' (by simpa using List.not_of_lt_findIdx z)
     .exact z
    rcases Nat.lt_or_ge (own.idxOf o) i with z|z
    .exact absurd (bg (i:=own.idxOf o) (by rw[List.getElem?_take,ay z];exact xX ho)) hn
    .omega
   rw[<-this];exact q
  .refine ⟨Z,λm=>?_,_,Z⟩;rw[take_snoc ei]at m;rcases c7.mp m with z|z
   .exact hn z
   .exact c (bR (by rw[dF.mp z]))
 rintro σ H' ⟨rfl,hn,s2,rfl⟩;rw[show(((own.map V.str).length:Nat):Int).toNat=own.length from by omega,cL]at hn;exact absurd ho hn
abbrev qb:Stmt:=top 32
abbrev ko:Da Str:=["_law_model_here","_law_name_here","_law_owner","_law_worth","_law_weight"]
abbrev Fw:Da Str:=ko.append ["_law_tops"]
def wX:aQ Fw ko (aD qb):=dm
theorem DN(F:At K mg "_law_new_part" qb f fd)(dQ:Dn P w K mg base 1 "_law_seat" jq (yN K)):Dn P w K mg base 2 "_law_new_part" ko Be:=by
 refine F.oA wX λ_ _ _ _ H _ Q E hr h=>?_;obtain⟨⟨n,ρ,B,b,x,o,wo,we,rfl,G,h,ho,fD,hpl,hkl,q⟩⟩:=h;refine⟨_,(@cZ.h _ _ _ (aj (qt (i:=5) ["_law_one"] [none] wX.nd rfl rfl rfl (dH K (bD (bU hr) (qv 0) aO)) (λ_ _ _ _=>(aV (i:=0) (show List.Nodup (["_law_one"] :Da Str)from by decide +kernel))) (λ_ _ _ _=>ai) rfl (by rfl) (by rfl))
  (aj (i_ (bD (bU hr) (qv 0) aO) (ja (qv 5) (bh dQ hr (af (bD (bU hr) (qv 0) aO) (af (qv 2) ak))) set_list))
  (aj (bQ (kh mY mW mX d8 (bD (bU hr) (qv 0) aO) (af (iB (af (qv 1) (af (qv 2) (af (qv 3) (af (qv 4) (af (qv 5) ak)))))) ak)))
  (au (bQ (kh mY mW mX d8 (bD (bU hr) (qv 0) aO) (af (qv 1) ak)))))))),?_⟩
 refine⟨_,Z,B.m,_,Z,cg.k (k:=Sum.inr "owners") h.om,B.lo,Z,⟨_,aB.of h.oo⟩,λl0 gk=>?_⟩;have Hi:(b.own.map V.str).length=b.own.length:=aE _;refine iL (J:=vc K B.lo) (n:=(b.own.map V.str).length) 0 (λi o H'=>aK H H'/\o=(List.replicate i (0:Int)).map V.int) (by omega) ⟨aH gk _,Z⟩ (λi o H' hi _ hp=>⟨_,_,aB.of (hp.1 _ _ h.oo),bf hi⟩) (λo H' _ hp=>⟨_,aB.of (hp.1 _ _ h.oo),aL _⟩) ?_ ?_
 .rintro i y o H2 H3 hi fD ha ⟨g,e⟩ ⟨rfl,hy⟩;refine⟨ha,g.cI gk _,?_⟩;subst e;rw[List.replicate_succ',bN];rfl
 rintro o1 H1 _ ha ⟨g1,e⟩;subst e;rw[Hi]at ha;have h1:=h.mono g1;have il:b.own.idxOf o<b.own.length:=mV ho;have rl:((List.replicate b.own.length (0:Int)).map V.int).length=b.own.length:=by rw[aE,jd]
 refine⟨_,Z,B.m,_,Z,cg.k (k:=Sum.inr "bottom") h1.om,_,Z,_,Z,B.m,_,Z,cg.k (k:=Sum.inr "owners") h1.om,_,Z,⟨⟨B.lo,b.own,o,Z,aB.of h1.oo,ho,fD,?_⟩⟩⟩;refine⟨l0,_,_,_,Z,Z,ha,by rw[rl];exact lY il,?_⟩;rw[<-kL];have g2:=g1.cI gk (.lst (((List.replicate b.own.length (0:Int)).set (b.own.idxOf o) b.bot).map V.int));have ha2:upd H1 l0 (.lst (((List.replicate b.own.length (0:Int)).set (b.own.idxOf o) b.bot).map V.int)) l0=some (.lst (((List.replicate b.own.length (0:Int)).set (b.own.idxOf o) b.bot).map V.int)):=aq;show vH _ _ _ _ (upd H1 l0 (.lst (((List.replicate b.own.length (0:Int)).set (b.own.idxOf o) b.bot).map V.int)));generalize upd H1 l0 (.lst (((List.replicate b.own.length (0:Int)).set (b.own.idxOf o) b.bot).map V.int))=H2 at *;have h2:=h.mono g2;refine⟨_,Z,B.m,_,Z,cg.k (k:=Sum.inr "parts") h2.om,.inl ⟨Z,_,aB.of h2.op⟩,_,Z,_,Z,_,Z,_,Z,_,Z,(iO 5),λp hp=>?_⟩;have g3:=aH hp (jn ⟨x,o,wo,we,(List.replicate b.own.length (0:Int)).set (b.own.idxOf o) b.bot⟩ l0);have hp3:upd H2 p (jn ⟨x,o,wo,we,(List.replicate b.own.length (0:Int)).set (b.own.idxOf o) b.bot⟩ l0) p=some (jn ⟨x,o,wo,we,(List.replicate b.own.length (0:Int)).set (b.own.idxOf o) b.bot⟩ l0):=aq;show qL _ (upd H2 p (jn ⟨x,o,wo,we,(List.replicate b.own.length (0:Int)).set (b.own.idxOf o) b.bot⟩ l0)) _;generalize upd H2 p (jn ⟨x,o,wo,we,(List.replicate b.own.length (0:Int)).set (b.own.idxOf o) b.bot⟩ l0)=H3 at *;have v7:H p=none:=g2.free hp;have Ax:=g2.trans g3;have cl0:ρ l0=none:=G.none gk;have np:p≠l0:=λe=>by rw[e,ha2]at hp;cases hp
 have cp:bY ρ l0 (n,24,x) p=none:=by rw[b8 np];exact G.none v7
 have h3:aU n (bY (bY ρ l0 (n,24,x)) p (n,23,x)) B H3 b:=((h.mono Ax).col cl0).col cp;have G3:Gh (bY (bY ρ l0 (n,24,x)) p (n,23,x)) H3:=((G.same Ax).color (g3 _ _ ha2) rfl).color hp3 rfl;have F3:Fr n ρ H (bY (bY ρ l0 (n,24,x)) p (n,23,x)) H3:=((Fr.of_same Ax).jI gk).jI v7;have c1:bY (bY ρ l0 (n,24,x)) p (n,23,x) p=some (n,23,x):=cX;have c2:bY (bY ρ l0 (n,24,x)) p (n,23,x) l0=some (n,24,x):=by rw[b8 (cJ np),cX]
 have Va:=g3 _ _ ha2;refine⟨B.lp,_,_,Z,Z,h3.op,by rw[aE,h.ql];exact c8 hpl,?_⟩;rw[show B.qs.map (λq=>V.ref q.1)++[V.ref p]=(B.qs++[(p,l0)]).map (λq=>V.ref q.1)from by rw[bN];rfl];have h4:=h3.Ur G3 (p:=⟨x,o,wo,we,(List.replicate b.own.length (0:Int)).set (b.own.idxOf o) b.bot⟩) (q:=(p,l0)) hp3 Va c1 c2;have G4:=G3.wr (a:=B.lp) (o:=.lst ((B.qs++[(p,l0)]).map λq=>V.ref q.1)) rfl;have F4:=F3.trans (Fr.write (o:=.lst ((B.qs++[(p,l0)]).map λq=>V.ref q.1)) h3.cp);generalize upd H3 B.lp (.lst ((B.qs++[(p,l0)]).map λq=>V.ref q.1))=H4 at *;refine⟨_,Z,B.m,_,Z,cg.k (k:=Sum.inr "known") h4.om,.inl ⟨Z,_,aB.of h4.ok⟩,_,Z,B.lk,_,_,Z,Z,h4.ok,by rw[aE];exact c8 hkl,?_⟩;rw[show b.d9.map V.str++[V.str x]=(b.d9++[x]).map V.str from by rw[bN];rfl];exact q _ _ _ (G4.wr rfl) (h4.Qw G4 (b.d9++[x])) rfl (F4.trans (Fr.write h4.ck))
abbrev u7:Stmt:=top 46
abbrev rR:Da Str:=["_law_owners"]
abbrev Np:Da Str:=rR.append ["_law_hold","_law_owner"]
def u9:aQ Np rR (aD u7):=dm
theorem JR{T:TC}(F:At K mg "_law_begin" u7 f fd)(Nq:Cn P w K mg base 3 "Hold" T.hold ["self"] (Qn T))(iI:Mn P w K mg base 3 T.hold "sign" l9 (Ci T)):Dn P w K mg base 5 "_law_begin" rR (Qq T K):=by
 refine F.oA u9 λ_ _ _ _ H _ Q E hr h=>?_;obtain⟨⟨l,own,n,ρ,rfl,hl,cl,nd,hnm,hle,g,q⟩⟩:=h;refine⟨_,(@cZ.h _ _ _ (aj (aS (i:=1) u9.nd (UJ Nq hr))
  (aj (fj fT rfl (dH K (qv 0)) (aV (i:=2) u9.nd) (au (bQ (bZ iI hr (qv 1) (af (qv 2) ak)))))
  (au (bH (qv 1)))))),?_⟩
 intro x dx hx hdx hne;refine⟨⟨x,dx,ρ,n,Z,aq,(g.alloc hdx).alloc (by rw[az (cJ hne)];exact hx),g.none hx,λρ1 A H1 ea hh k=>⟨Z,?_⟩⟩⟩;have F1:Fr n ρ H ρ1 H1:=λb o e _=>k b o (by rw[az (aJ e hx),az (aJ e hdx)];exact e) (aJ e hx);refine⟨_,Z,l,Z,⟨_,F1.seq hl cl⟩,?_⟩;refine kG (K:=K) (xs:=own.map V.str) (λi σ H'=>∃ρ' A' s2,σ=[some (.ref l),some (.ref x),s2]/\A'.a=x/\HH T n ρ' A' H' ((own.take i).foldl fu hs0)/\Fr n ρ H ρ' H')
  ⟨ρ1,A,none,Z,ea,hh,F1⟩ (λi σ H' _ hp=>by obtain⟨_,_,_,_,_,_,f⟩:=hp;exact f.seq hl cl) ?_ ?_
 .rintro i y σ H' hy ⟨ρ',A',s2,rfl,ea',Vg,F'⟩;rw[bV]at hy;obtain⟨o,eo,rfl⟩:=mZ.mp hy;have hi:=(dM.mp eo).1;have hos:=ug (own.take i) hs0;have adi:((own.take i).foldl fu hs0).own=own.take i:=by rw[hos];rfl
  refine⟨_,Z,x,A'.dx,_,Z,ea'▸Vg.h.oa,Z,_,Z,⟨⟨n,ρ',A',_,o,by rw[ea'];rfl,Vg,hnm o (bg eo),?_,?_,λρ2 A2 H2 h2 e2 F2=>?_⟩⟩⟩
  .rw [adi];intro m;have h2:(own.take (i+1)).Nodup:=nd.sublist (List.take_sublist _ _);rw[take_snoc eo]at h2;exact(List.nodup_append.mp h2).2.2 o m o (dF.mpr rfl) rfl
  .rw [adi,uE];omega
  .rw [take_snoc eo,Gu];exact⟨ρ2,A2,_,Z,e2.trans ea',h2,F'.trans F2⟩
 rintro σ H' ⟨ρ',A',s2,rfl,ea',Vg,F'⟩;rw[aE,cL]at Vg;have:=q ρ' A' H' Vg F';rw[ea']at this;exact⟨_,Z,this⟩
abbrev Ai:Stmt:=top 35
abbrev uy:Da Str:=["_law_parts","_law_name_here"]
abbrev Vh:Da Str:=uy.append ["_law_at_here"]
def Fx:aQ Vh uy (aD Ai):=dm
theorem Sl(F:At K mg "_law_at" Ai f fd)(bO:mg "len"=none)(cu:mg "range"=none):Dn P w K mg base 1 "_law_at" uy (E2 K):=by
 refine F.oA Fx λ_ _ _ _ H _ Q E hr h=>?_;obtain⟨⟨l,us,ws,x,rfl,hl,hW,nd,hle,q,q2⟩⟩:=h;refine⟨_,(@cZ.h _ _ _ (aj (fj fT rfl (gZ (by rfl) cu (af (aY (cC K) (by rfl) bO d7 (af (qv 0) ak)) ak)) (aV (i:=2) Fx.nd) (au (c5 (aR dG (aF (iU K) (aF (aM K) (qv 0) (qv 2)) ai) (qv 1) (aZ _)) (au (bH (qv 2))) bM)))
  (au (bH (R6 Lb ai))))),?_⟩
 have ll:=hW.len;refine⟨_,Z,l,_,Z,.inl hl,_,Z,by omega,by omega,?_⟩;refine iK (lo:=0) (n:=((us.length:Nat):Int).toNat) (λi σ H'=>H'=H/\(∀r∈ws.take i,r.1≠x)/\∃s2,σ=[some (.ref l),some (.str x),s2]) ⟨Z,(λ_ m=>nomatch m),_,Z⟩ ?_ ?_
 .rintro i σ H' hi ⟨rfl,hn,s2,rfl⟩;have e0:(0:Int)+(i:Int)=((i:Nat):Int):=by omega
  rw[e0];have hio:i<ws.length:=by omega
  have ei:=bf hio;obtain⟨a,xs,ea,C6,x0,_⟩:=hW.at_ i _ ei;refine⟨_,Z,_,Z,l,_,_,_,Z,Z,hl,aC ea,C6.ix (i:=0) x0 ?_⟩;refine⟨_,Z,Z,_,Z,c6 (λc=>?_) (λc=>?_)⟩
  .exact ⟨_,Z,q i _ ei (V.str.inj (dN c))⟩
  .refine ⟨Z,λr hr=>?_,_,Z⟩;rw[take_snoc ei]at hr;rcases c7.mp hr with z|z
   .exact hn r z
   .rw [dF.mp z];intro e;exact c (bR (by rw[e]))
 rintro σ H' ⟨rfl,hn,s2,rfl⟩;refine⟨1,Z,q2 λr hr=>hn r ?_⟩;rw[KR (by omega)];exact hr
abbrev wY:Stmt:=top 34
abbrev o7:Da Str:=["_law_script","_law_k","_law_parts"]
abbrev OR:Da Str:=o7.append ["_law_spare","_law_order","_law_rows_here","_law_at_here","_law_way","_law_amount"]
def gO:aQ OR o7 (aD wY):=dm
theorem Nr(F:At K mg "_law_rows" wY f fd)(aT:Dn P w K mg base 1 "_law_draw" gM (oO K))(bO:mg "len"=none)(cu:mg "range"=none)(jb:mg "list"=none)(ff:mg "sum"=none)(rS:mg "min"=none):Dn P w K mg base 2 "_law_rows" o7 (GL K):=by
 refine F.oA gO λ_ _ _ _ H _ Q E hr h=>?_;obtain⟨⟨a,l,ns,k,us,ws,rfl,hS,h63,hk0,hk1,hl,hW,nd,hle,hw1,q⟩⟩:=h;refine⟨_,(@cZ.h _ _ _ (aj (aS (i:=3) gO.nd (aG j0 (aY (ji K rfl) (by rfl) ff uD (af (iE ["_law_part"] [none] rfl (dH K (qv 2)) (λ_ _ _ _=>(aV (i:=0) (show List.Nodup (["_law_part"] :Da Str)from by decide +kernel))) (λ_ _ _ _=>(aF (iU K) (qv 0) ai)) rfl (by rfl)) ak)) ai))
  (aj (aS (i:=4) gO.nd (nC (Js rfl) (by rfl) jb Gj (af (UG (by rfl) cu (af (aY (cC K) (by rfl) bO d7 (af (qv 2) ak)) ak)) ak)))
  (aj (gh (aR dG (bh aT hr (af (qv 0) (af (qv 1) (af ai (af ai ak))))) ai (aZ _)) (au (aS (i:=4) gO.nd (acg K (qv 4) (R6 Lb ai)))) bM)
  (aj (aS (i:=5) gO.nd (iB ak))
  (aj (fj fT rfl (dH K (qv 4)) (aV (i:=6) gO.nd) (aj (aS (i:=7) gO.nd (bh aT hr (af (qv 0) (af (qv 1) (af (aG b_ ai (aG gW ai (qv 6))) (af ai ak))))))
  (aj (aS (i:=8) gO.nd (aY (Us rfl) (by rfl) rS KS (af (aF (iU K) (aF (aM K) (qv 2) (qv 6)) ai) (af (qv 3) (af (aG oN ai ai) ak)))))
  (aj (gh (ju (bW.pt (oV (aR dG (qv 7) ai (aZ _)) (qu (aR iT (qv 8) ai (aZ _)))))) (au (aS (i:=8) gO.nd (aG b_ ai (bh aT hr (af (qv 0) (af (qv 1) (af (aG b_ ai (aG gW ai (qv 6))) (af (qv 8) ak)))))))) bM)
  (au (gh (ju (bW.pt (oV (aR iT (qv 7) ai (aZ _)) (qu (aR iT (qv 8) ai (aZ _)))))) (aj (bQ (kh mY mW mX d8 (qv 5) (af (iN (af (aF (iU K) (aF (aM K) (qv 2) (qv 6)) ai) (af (qv 8) ak))) ak)))
  (au (aS (i:=3) gO.nd (aG j0 (qv 3) (qv 8))))) bM))))))
  (au (bH (qv 5))))))))),?_⟩
 have ll:=hW.len;refine⟨_,Z,l,Z,⟨_,hl⟩,λl0 gk=>?_⟩;refine iL (J:=vc K l) (n:=us.length) 0 (λi o H'=>aK H H'/\o=((ws.take i).map (λr:Row=>r.2)).map V.int) (by omega) ⟨aH gk _,Z⟩ (λi o H' hi _ hp=>⟨_,_,hp.1.seq hl,bf hi⟩) (λo H' _ hp=>⟨_,hp.1.seq hl,aL _⟩) ?_ ?_
 .rintro i y o H2 H3 hi fD ha ⟨g,e⟩ ⟨rfl,hy⟩;have hiw:i<ws.length:=by omega
  have ei:=bf hiw;obtain⟨ar,xs,ea,C6,x0,x2⟩:=hW.at_ i _ ei;have ey:=hy _ (g.seq hl);rw[ea]at ey;cases ey;refine⟨_,Z,(g.sq C6).ix (i:=2) x2 ?_⟩;refine⟨ha,g.cI gk _,?_⟩;subst e;rw[take_snoc ei,bN,bN];rfl
 rintro o1 H1 _ ha ⟨g1,e⟩;rw[ll,cL]at e;subst e;refine⟨l0,ws.map (λr:Row=>r.2),Z,aB.of ha,_,_,Z,Z,?_⟩;show lE 3 (.int (bF ws-1)) _ _ _;refine⟨_,Z,l,_,Z,.inl (g1.seq hl),_,Z,λpr hpr=>?_⟩;refine⟨pr,ws.length,Z,?_,by omega,λpo Yw=>?_⟩
 .rw [aq,ll]
 have gA:=(aH hpr (.yD 0 ((us.length:Nat):Int))).trans (aH Yw (.lst ((L2.upTo ws.length).map V.int)));have gB:=g1.trans gA;have hord:upd (upd H1 pr (.yD 0 ((us.length:Nat):Int))) po (.lst ((L2.upTo ws.length).map V.int)) po=some (.lst ((L2.upTo ws.length).map V.int)):=aq;generalize upd (upd H1 pr (.yD 0 ((us.length:Nat):Int))) po (.lst ((L2.upTo ws.length).map V.int))=H2 at *;have ndo:(L2.upTo ws.length).Nodup:=by unfold L2.upTo;refine List.Pairwise.map _ (λx y h e=>h (by omega)) List.nodup_range
 have yD:∀x∈L2.upTo ws.length,0<=x/\x<(ws.length:Int):=λx hx=>by unfold L2.upTo at hx;obtain⟨i,hi,rfl⟩:=aW.mp hx;have:=tO.mp hi;omega
 have lup:(L2.upTo ws.length).length=ws.length:=by unfold L2.upTo;rw[aE,Gs]
 refine⟨λσ H3=>aK H H3/\∃(pq:Addr)(os:Da Int),σ=[some (.ref a),some (.int k),some (.ref l),some (.int (bF ws-1)),some (.ref pq),none,none,none,none]/\H3 pq=some (.lst (os.map V.int))/\os.Nodup/\os.length=ws.length/\∀x∈os,0<=x/\x<(ws.length:Int),?_,?_⟩
 .refine ⟨_,Z,_,Z,cR (gB.seq hS) h63 hk0 (by decide) (by decide) (by decide) λd _ d0 d1=>⟨Z,_,Z,c6 (λc=>?_) (λc=>?_)⟩⟩
  .refine ⟨_,Z,_,Z,Z,po,_,Z,aB.of hord,λpz hpz=>?_⟩;have g3:=aH hpz (.lst ((L2.upTo ws.length).map V.int).reverse);exact⟨gB.trans g3,pz,(L2.upTo ws.length).reverse,Z,by rw[aq,List.map_reverse],List.pairwise_reverse.mpr (List.Pairwise.imp (λh=>cJ h) ndo),by rw[List.length_reverse,lup],λx hx=>yD x (List.mem_reverse.mp hx)⟩
  .exact ⟨gB,po,L2.upTo ws.length,Z,hord,ndo,lup,yD⟩
 rintro σ H3 ⟨g3,pq,os,rfl,hos,hnd,fD,hrg⟩;refine⟨(iO 0),λz hz=>?_⟩;have g4:=aH hz (.lst []);have hzz:upd H3 z (.lst []) z=some (.lst []):=aq;have adk:=g4 _ _ hos;have nz:pq≠z:=λe=>by rw[e,hz]at hos;cases hos
 have hzH:H z=none:=g3.free hz;have g34:=g3.trans g4;show vH _ _ _ _ (upd H3 z (.lst []));generalize upd H3 z (.lst [])=H4 at *;have w1:ws≠[]->1<=bF ws:=λhne=>by
  cases ws with
  | nil=>exact absurd rfl hne
  | cons r rs=>have h1:=hw1 r cM;have h2:=Du (rs:=rs) λx hx=>hw1 x (cQ _ hx);rw[show bF (r::rs)=r.2+bF rs from by unfold bF;rw[bK,b9]];omega
 refine⟨_,Z,pq,Z,⟨_,aB.of adk⟩,?_⟩;refine kG (K:=K) (xs:=os.map V.int) (λi σ H'=>aK H H'/\H' pq=some (.lst (os.map V.int))/\∃(zs:Da V)(rs:Da Row)(sp:Int)(s6 s7 s8:Option V),σ=[some (.ref a),some (.int k),some (.ref l),some (.int sp),some (.ref pq),some (.ref z),s6,s7,s8]/\H' z=some (.lst zs)/\gC H' zs rs/\rs.length<=i/\(rs.map (λr:Row=>r.1)).Nodup/\
   sp=bF ws-1-bF rs/\(ws≠[]->0<=sp)/\∀r∈rs,1<=r.2/\r.2<=1000000000/\∃j:Nat,((j:Nat):Int)∈os.take i/\∃w,ws[j]?=some w/\w.1=r.1/\r.2<=w.2)
  ⟨g34,adk,[],[],bF ws-1,none,none,none,Z,hzz,.nil,aL _,xF,by show _=bF ws-1-0;omega,λhne=>by have:=w1 hne;omega,λr hr=>absurd hr (by simp)⟩ ?_ ?_ ?_
 .rintro i σ H' _ ⟨_,h,_⟩;exact aB.of h
 .rintro i x σ H5 hx ⟨g5,hq5,zs,rs,sp,s6,s7,s8,rfl,Jk,hR,hrl,Yy,vJ,Sm,wk⟩;rw[bV]at hx;obtain⟨at',hat,rfl⟩:=mZ.mp hx;have hio:=(dM.mp hat).1;obtain⟨t0,t1⟩:=hrg at' (bg hat);obtain⟨jt,hjt⟩:∃jt:Nat,((jt:Nat):Int)=at':=⟨at'.toNat,by omega⟩
  subst hjt;have hjl:jt<ws.length:=by omega
  have hne:ws≠[] :=λe=>by rw[e]at hjl;simp at hjl
  have ah5:=Sm hne;have hnot:((jt:Nat):Int)∉os.take i:=λm=>by obtain⟨j,hj,ej⟩:=List.mem_iff_getElem.mp m;rw[List.getElem_take]at ej;rw[uE]at hj;have e2:=(dM.mp hat).2;have:=(List.getElem_inj hnd).mp (ej.trans e2.symm);omega
  have ej:=bf hjl;have hwj:=hw1 _ (bg ej);generalize ws[jt]=wj at *;obtain⟨ar,xs,ea,C6,x0,x2⟩:=hW.at_ jt _ ej;refine⟨_,Z,_,Z,_,Z,_,_,Z,Z,.inl ⟨by decide,by decide⟩,_,_,Z,Z,cR (g5.seq hS) h63 hk0 (by omega) (by omega) (by decide) λway _ v0 v1=>?_⟩;refine⟨_,Z,_,Z,l,_,_,_,Z,Z,g5.seq hl,aC ea,(g5.sq C6).ix (i:=2) x2 ?_⟩;refine⟨_,Z,_,_,Z,Z,⟨by decide,by decide,by decide⟩,_,_,_,Z,?_⟩;obtain⟨m1,m2,m3⟩:=Zy wj.2 sp ((10:Int) ^ (9:Int).toNat);have m0:0<=vY wj.2 sp ((10:Int) ^ (9:Int).toNat):=Zz (by omega) ah5 (by decide);have m3:vY wj.2 sp ((10:Int) ^ (9:Int).toNat)<=1000000000:=m3;generalize vY wj.2 sp ((10:Int) ^ (9:Int).toNat)=m at *;refine⟨λσ H6=>H5=H6/\∃m:Int,0<=m/\m<=sp/\m<=wj.2/\m<=1000000000/\σ=[some (.ref a),some (.int k),some (.ref l),some (.int sp),some (.ref pq),some (.ref z),some (.int (jt:Int)),some (.int way),some (.int m)],?_,?_⟩
  .refine ⟨decide (way=2/\0<m),?_,?_⟩
   .refine ⟨_,Z,Z,_,Z,?_⟩;by_cases h1:way=2
    .rw [bR (by rw[h1] :V.int way=V.int 2)];refine gc ⟨_,Z,_,_,Z,Z,_,Z,?_,Z⟩;by_cases h2:0<m
     .rw [bR h2,bR ⟨h1,h2⟩]
     .rw [c9 h2,c9 λz=>h2 z.2]
    .rw [c9 (λz=>h1 (V.int.inj z))];exact bq ⟨(c9 λz=>h1 z.1).symm,Z⟩
   refine c6 (λc=>?_) (λc=>?_)
   .obtain ⟨_,c2⟩:=dN c;refine⟨_,Z,_,Z,_,Z,_,_,Z,Z,.inl ⟨by decide,by decide⟩,_,_,Z,Z,_,Z,cR (g5.seq hS) h63 hk0 (by omega) (by omega) c2 λd _ d0 d1=>⟨_,_,Z,Z,Z,1+d,by omega,by omega,by omega,by omega,Z⟩⟩
   .exact ⟨Z,m,m0,m2,m1,m3,Z⟩
  rintro σ H6 ⟨rfl,o,o0,o1,o2,o3,rfl⟩;have grow:∀r∈rs,1<=r.2/\r.2<=1000000000/\∃j:Nat,((j:Nat):Int)∈os.take (i+1)/\∃w,ws[j]?=some w/\w.1=r.1/\r.2<=w.2:=λr hr=>by obtain⟨a1,a2,j,a3,a4⟩:=wk r hr;exact⟨a1,a2,j,by rw[take_snoc hat];exact ze _ a3,a4⟩
  refine⟨λσ H6=>aK H H6/\H6 pq=some (.lst (os.map V.int))/\∃(zs:Da V)(rs:Da Row)(sp:Int)(s6 s7 s8:Option V),σ=[some (.ref a),some (.int k),some (.ref l),some (.int sp),some (.ref pq),some (.ref z),s6,s7,s8]/\H6 z=some (.lst zs)/\gC H6 zs rs/\rs.length<=i+1/\(rs.map (λr:Row=>r.1)).Nodup/\
   sp=bF ws-1-bF rs/\(ws≠[]->0<=sp)/\∀r∈rs,1<=r.2/\r.2<=1000000000/\∃j:Nat,((j:Nat):Int)∈os.take (i+1)/\∃w,ws[j]?=some w/\w.1=r.1/\r.2<=w.2,?_,λ_ _ h=>h⟩
  refine⟨decide (0<way/\0<o),?_,?_⟩
  .refine ⟨_,Z,_,_,Z,Z,_,Z,?_⟩;by_cases h1:0<way
   .rw [bR h1];refine gc ⟨_,Z,_,_,Z,Z,_,Z,?_,Z⟩;by_cases h2:0<o
    .rw [bR h2,bR ⟨h1,h2⟩]
    .rw [c9 h2,c9 λz=>h2 z.2]
   .rw [c9 h1];exact bq ⟨(c9 λz=>h1 z.1).symm,Z⟩
  refine c6 (λc=>?_) (λc=>?_)
  .obtain ⟨_,c2⟩:=dN c;refine⟨_,Z,.inl ⟨Z,_,aB.of Jk⟩,_,Z,_,Z,l,_,_,_,Z,Z,g5.seq hl,aC ea,(g5.sq C6).ix (i:=0) x0 ?_⟩;refine⟨_,Z,(iO 2),λp hp=>?_⟩;have g6:=aH hp (ym (wj.1,o));have hz6:=g6 _ _ Jk;have hq6:=g6 _ _ hq5;have Yl:upd H5 p (ym (wj.1,o)) p=some (ym (wj.1,o)):=aq;have ah6:=hR.length;show qL _ (upd H5 p (ym (wj.1,o))) _;generalize upd H5 p (ym (wj.1,o))=H6 at *;refine⟨z,_,_,Z,Z,hz6,by rw[ah6];exact c8 (by omega),?_⟩;have np:p≠z:=λe=>by rw[e,Jk]at hp;cases hp
   have tu:∀b ys,H6 b=some (.tup ys)->upd H6 z (.lst (zs++[.ref p])) b=some (.tup ys):=sP (.inr ⟨_,hz6,Z⟩);refine⟨_,Z,_,Z,_,_,Z,Z,(g5.trans g6).cI hzH _,by rw[az nz];exact hq6,zs++[.ref p],rs++[(wj.1,o)],sp-o,_,_,_,Z,aq,((hR.mono g6.tups).snoc Yl).mono tu,by rw[cW];show rs.length+1<=i+1;omega,?_,?_,λ_=>by omega,?_⟩
   .rw [bN];refine nO Yy λhm=>?_;obtain⟨r,hr,er⟩:=aW.mp hm;obtain⟨_,_,j,hj,w,adm,e1,_⟩:=wk r hr;have hj2:j<ws.length:=(dM.mp adm).1;have r1:(ws.map (λr:Row=>r.1))[j]?=some w.1:=by rw[bV,adm];rfl
    have r2:(ws.map (λr:Row=>r.1))[jt]?=some wj.1:=by rw[bV,ej];rfl
    have er:r.1=wj.1:=er;have:j=jt:=(Gv (by rw[aE];exact hj2) nd).mp (r1.trans (by rw[e1,er];exact r2.symm));rw[this]at hj;exact hnot hj
   .rw [show bF (rs++[(wj.1,o)])=bF rs+o from by unfold bF;rw[bN,zu];simp];omega
   .intro r hr;rcases c7.mp hr with h1|h1
    .exact grow r h1
    .rw [dF.mp h1];exact⟨by show 1<=o;omega,o3,jt,by rw[take_snoc hat];exact kD _ (dF.mpr rfl),wj,ej,Z,o2⟩
  .exact ⟨g5,hq5,zs,rs,sp,_,_,_,Z,Jk,hR,by omega,Yy,vJ,Sm,grow⟩
 rintro σ H5 ⟨g5,hq5,zs,rs,sp,s6,s7,s8,rfl,Jk,hR,hrl,Yy,vJ,Sm,wk⟩;rw[aE,fD]at hrl;refine⟨_,Z,q z zs rs H5 g5 hzH Jk hR ⟨Yy,λr hr=>?_,?_,hrl⟩⟩
 .obtain ⟨a1,a2,j,_,w,hw,e1,e2⟩:=wk r hr;exact⟨a1,a2,w,bg hw,e1,e2⟩
 .by_cases c:ws=[]
  .right;rw[c]at hrl;exact List.length_eq_zero_iff.mp (by simpa using hrl)
  .left;have:=Sm c;omega
abbrev wZ:Stmt:=top 39
abbrev t9:Da Str:=["_law_rows_here"]
abbrev OS:Da Str:=t9.append ["_law_things","_law_name_here","_law_amount"]
def rT:aQ OS t9 (aD wZ):=dm
theorem Nt(F:At K mg "_law_flat" wZ f fd)(vF:mg "tuple"=none):Dn P w K mg base 1 "_law_flat" t9 (UO K):=by
 refine F.oA rT λ_ _ _ _ H _ Q E hr h=>?_;obtain⟨⟨l,us,rs,rfl,hl,hR,hle,q⟩⟩:=h;refine⟨_,(@cZ.h _ _ _ (aj (aS (i:=1) rT.nd (iB (af aO ak)))
  (aj (fj fT rfl (dH K (qv 0)) (iX K (n:=2) rfl (cS (aV (i:=2) rT.nd) (cS (aV (i:=3) rT.nd) iW))) (aj (bQ (kh mY mW mX d8 (qv 1) (af (qv 2) ak)))
  (au (bQ (kh mY mW mX d8 (qv 1) (af (qv 3) ak))))))
  (au (bH (nC Jq (by rfl) vF PyProof.Rows.boot_tuple (af (qv 1) ak))))))),?_⟩
 have U8:=hR.length;refine⟨(iO 1),λt ht=>?_⟩;have g0:=aH ht (.lst [.str "cast"]);have h0:upd H t (.lst [.str "cast"]) t=some (.lst (Dd.v (.cast (rs.take 0)))):=aq;show vH _ _ _ _ (upd H t (.lst [.str "cast"]));generalize upd H t (.lst [.str "cast"])=H0 at *;refine⟨_,Z,l,Z,⟨us,g0.seq hl⟩,?_⟩;refine kG (K:=K) (xs:=us) (λi σ H'=>aK H H'/\H' t=some (.lst (Dd.v (.cast (rs.take i))))/\∃s2 s3,σ=[some (.ref l),some (.ref t),s2,s3]) ⟨g0,h0,_,_,Z⟩ (λi σ H' _ hp=>hp.1.seq hl) ?_ ?_
 .rintro i x σ H' hx ⟨g,hd',s2,s3,rfl⟩;obtain⟨a,r,rfl,er,ha⟩:=hR.get hx;have hlt:(Dd.v (.cast (rs.take i))).length+1<sizeLine:=by show(kg (rs.take i)).length+1+1<_;rw[Bo,uE,mH];exact Gp (show _<=3000 by omega) (by decide)
  refine⟨a,_,Z,dU.of (g _ _ ha),Z,_,_,Z,_,_,Z,Z,?_⟩;refine⟨_,Z,.inl ⟨Z,_,aB.of hd'⟩,_,Z,t,_,_,Z,Z,hd',by omega,?_⟩;refine⟨_,Z,.inl ⟨Z,_,aB.of aq⟩,_,Z,t,_,_,Z,Z,aq,by rw[cW];exact hlt,?_⟩;refine⟨?_,?_,_,_,Z⟩
  .rw [qj];exact g.cI ht _
  .rw [aq,take_snoc er];show some (HO.lst ((V.str "cast"::kg (rs.take i)++[V.str r.1])++[V.int r.2]))=some (HO.lst (V.str "cast"::kg (rs.take i++[r])));rw[Bm];simp[kg]
 rintro σ H' ⟨g,hd',s2,s3,rfl⟩;rw[U8,cL]at hd';refine⟨_,Z,t,_,Z,.inl ⟨aB.of hd',λz hz=>q z _ (g.trans (aH hz _)) aq⟩⟩
abbrev oK:Stmt:=top 40
abbrev lN:Da Str:=["_law_script","_law_k","_law_model_here","_law_names_here","_law_way"]
abbrev DO:Da Str:=lN.append ["_law_parts","_law_part","_law_owner","_law_whole","_law_rows_here","_law_amount"]
def gE:aQ DO lN (aD oK):=dm
theorem CB(F:At K mg "_law_part_deed" oK f fd)(aT:Dn P w K mg base 1 "_law_draw" gM (oO K))(iJ:Dn P w K mg base 2 "_law_much" mh (AL K))(mj:Dn P w K mg base 2 "_law_rows" o7 (GL K))(yu:Dn P w K mg base 1 "_law_flat" t9 (UO K))(bO:mg "len"=none)(ff:mg "sum"=none)(rS:mg "min"=none):Dn P w K mg base 3 "_law_part_deed" lN (E8 K):=by
 refine F.oA gE λ_ _ _ _ H _ Q E hr h=>?_;obtain⟨⟨a,m,ln,ns,k,way,nms,c,st,rfl,hS,h63,hk0,hk1,hq,hN,nx,hnl,wf,g,hc,hp0,q⟩⟩:=h;refine⟨_,(@cZ.h _ _ _ (aj (aS (i:=5) gE.nd (bD (bU hr) (qv 2) aO))
  (aj (aS (i:=6) gE.nd (aF (aM K) (qv 5) (bh aT hr (af (qv 0) (af (qv 1) (af ai (af (aY (cC K) (by rfl) bO d7 (af (qv 5) ak)) ak)))))))
  (aj (aS (i:=7) gE.nd (aF (aM K) (bD (bU hr) (qv 2) aO) (bh aT hr (af (qv 0) (af (qv 1) (af ai (af (aY (cC K) (by rfl) bO d7 (af (bD (bU hr) (qv 2) aO) ak)) ak)))))))
  (aj (aS (i:=8) gE.nd (aY (ji K rfl) (by rfl) ff uD (af (iE ["_law_one"] [none] rfl (dH K (qv 5)) (λ_ _ _ _=>(aV (i:=0) (show List.Nodup (["_law_one"] :Da Str)from by decide +kernel))) (λ_ _ _ _=>(aF (iU K) (qv 0) ai)) rfl (by rfl)) ak)))
  (aj (gh (aR tR (qv 4) ai (aZ _)) (aj (aS (i:=9) gE.nd (bh mj hr (af (qv 0) (af (qv 1) (af (qv 5) ak)))))
  (au (c5 (aR iT (aY (cC K) (by rfl) bO d7 (af (qv 9) ak)) ai (aZ _)) (au (bH (bh yu hr (af (qv 9) ak)))) bM))) bM)
  (aj (c5 (aR dG (qv 4) ai (aZ _)) (au (bH (iN (af aO (af (aF (iU K) (qv 6) ai) (af (qv 7) ak)))))) bM)
  (aj (c5 (aR dG (qv 4) ai (aZ _)) (au (bH (iN (af aO (af (aF (iU K) (qv 6) ai) ak))))) bM)
  (aj (c5 (ju (bW.pt (oV (aR dG (qv 4) ai (aZ _)) (qu (aR iT (qv 8) ai (aZ _)))))) (au (bH (iN (af aO (af (qv 7) (af (aG b_ ai (bh aT hr (af (qv 0) (af (qv 1) (af ai (af (aY (xN rfl) (by rfl) rS KS (af (aG j0 (qv 8) ai) (af (aG oN ai ai) ak))) ak)))))) ak)))))) bM)
  (aj (c5 (ju (bW.pt (oV (aR dG (qv 4) ai (aZ _)) (oV (aR iT (aF (iU K) (qv 6) ai) ai (aZ _)) (qu (aR tR (aY (cC K) (by rfl) bO d7 (af (bD (bU hr) (qv 2) aO) ak)) (aY (cC K) (by rfl) bO d7 (af (qv 3) ak)) (aZ _))))))) (aj (aS (i:=10) gE.nd (aG b_ ai (bh aT hr (af (qv 0) (af (qv 1) (af ai (af (aY (xN rfl) (by rfl) rS KS (af (aG j0 (aF (iU K) (qv 6) ai) ai) (af (aG oN ai ai) ak))) ak)))))))
  (au (bH (iN (af aO (af (aF (iU K) (qv 6) ai) (af (aF (aM K) (qv 3) (aY (cC K) (by rfl) bO d7 (af (bD (bU hr) (qv 2) aO) ak))) (af (qv 10) (af (bh aT hr (af (qv 0) (af (qv 1) (af ai (af (aG b_ (aF (iU K) (qv 6) ai) ai) ak))))) ak))))))))) bM)
  (aj (c5 (aR dG (qv 4) ai (aZ _)) (au (bH (iN (af aO (af (aF (iU K) (qv 6) ai) (af (aG b_ ai (bh aT hr (af (qv 0) (af (qv 1) (af ai (af (aY (xN rfl) (by rfl) rS KS (af (aF (iU K) (qv 6) ai) (af (aG oN ai ai) ak))) ak)))))) ak)))))) bM)
  (au (bH (iN (af aO (af (aF (iU K) (qv 6) ai) (af (bh iJ hr (af (qv 0) (af (qv 1) (af ai ak)))) ak))))))))))))))))),?_⟩
 obtain⟨AT,lo,lp,lk,us,om,vo,vp,vk,oo,op,rw',ok⟩:=hq;have ll:=rw'.len;have hpl:=g.pl;have fD:=wf.lF;have ah7:=g.ol;refine⟨_,Z,m,_,Z,vp▸cg.k (k:=Sum.inr "parts") om,?_⟩;refine⟨_,Z,_,Z,_,Z,_,Z,_,us,Z,.inl op,cR hS h63 hk0 (by decide) (by decide) (by omega) λd _ d0 d1=>?_⟩;obtain⟨j,rfl⟩:∃j:Nat,d=(j:Int):=⟨d.toNat,by omega⟩
 have hj:j<st.ah.length:=by omega
 have ep:=bf hj;have fF:=zm hj;generalize st.ah[j]=p at *;obtain⟨ap,xs,ea,C6,x0,x1,x2,x3⟩:=rw'.at_ j p ep;refine⟨lp,_,_,_,Z,Z,op,aC ea,?_⟩;refine⟨_,Z,m,_,Z,vo▸cg.k (k:=Sum.inr "owners") om,_,Z,_,Z,_,Z,m,_,Z,vo▸cg.k (k:=Sum.inr "owners") om,lo,_,Z,.inl oo,cR hS h63 hk0 (by decide) (by decide) (by rw[aE];omega) λwd _ w0 w1=>?_⟩;rw[aE]at w1;obtain⟨jo,o,ejo,eo,Vi⟩:=Dq (l:=st.own) (d:=wd) w0 w1;refine⟨lo,_,_,_,Z,Z,oo,Vi,?_⟩;have how:=bg eo;have wol:wl o<=20:=kU (g.on o how);have Vj:wl p.nm<=20:=kU (g.nk _ (wf.sub p fF));have hw0:=wf.jS p fF;have eg:cO st p.nm=p:=dS wf fF rfl;have hin:p.nm∈fV st:=Cr ep;refine⟨_,Z,lp,Z,⟨_,op⟩,λl0 gk=>?_⟩;refine iL (J:=vc K lp) (n:=us.length) 0 (λi o H'=>aK H H'/\o=((st.ah.take i).map (λp:Pt=>p.wo)).map V.int) (by omega) ⟨aH gk _,Z⟩ (λi o H' hi _ hp=>⟨_,_,hp.1.seq op,bf hi⟩) (λo H' _ hp=>⟨_,hp.1.seq op,aL _⟩) ?_ ?_
 .rintro i y o H2 H3 hi fD ha ⟨g,e⟩ ⟨rfl,hy⟩;have hiw:i<st.ah.length:=by omega
  have ei:=bf hiw;obtain⟨ar,xs,ea,C6,_,_,x2,_⟩:=rw'.at_ i _ ei;have ey:=hy _ (g.seq op);rw[ea]at ey;cases ey;refine⟨_,Z,(g.sq C6).ix (i:=2) x2 ?_⟩;refine⟨ha,g.cI gk _,?_⟩;subst e;rw[take_snoc ei,bN,bN];rfl
 rintro o1 H1 _ ha ⟨g1,e⟩;rw[ll,cL]at e;subst e;refine⟨l0,st.ah.map (λp:Pt=>p.wo),Z,aB.of ha,?_⟩;show lE 8 (.int (aI st)) _ _ _;have ret:∀(t:Addr)(d:Dd)(H2:Hp),aK H H2->H2 t=none->Cv nms st d->Q (.ref t) (upd H2 t (.tup (Dd.v d))):=λt d H2 g2 ht hd=>q t d _ (g2.trans (aH ht _)) aq hd;have keep:∀d:Dd,pV st d=none->CY d->d.pl=true->Cv nms st d:=λd h1 h2 h3=>⟨h1,h2,nx.keep (MC (Dd.W9 h3).1 (Dd.W9 h3).2.1),(Dd.W9 h3).2.2⟩
 refine⟨λσ' H'=>aK H H'/\∃s9,σ'=[some (.ref a),some (.int k),some (.ref m),some (.ref ln),some (.int way),some (.ref lp),some (.ref ap),some (.str o),some (.int (aI st)),s9,none],?_,?_⟩
 .refine ⟨_,Z,_,_,Z,Z,_,Z,c6 (λ_=>?_) (λ_=>⟨g1,_,Z⟩)⟩;have hw1:∀w∈vd st,1<=w.2:=λw hw=>by obtain⟨p,hp,rfl⟩:=aW.mp hw;exact(wf.jS p hp).1
  have nwN:((vd st).map (λr:Row=>r.1)).Nodup:=by unfold vd;rw[dJ];exact wf.fP
  have nwL:(vd st).length=st.ah.length:=by unfold vd;rw[aE]
  refine⟨_,Z,_,Z,_,Z,⟨⟨a,lp,ns,k,us,vd st,Z,g1.seq hS,h63,hk0,hk1,g1.seq op,(rw'.mono g1).nw,nwN,by omega,hw1,λz zs rs H2 g2 hz0 hz1 hR hro=>?_⟩⟩⟩;have zl:=hR.length;refine⟨_,Z,z,zs,Z,.inl (aB.of hz1),_,_,Z,Z,_,Z,c6 (λc=>?_) (λc=>⟨g1.trans g2,_,Z⟩)⟩;have c':(0:Int)<(zs.length:Int):=dN c;have hne:rs≠[] :=λe=>by rw[zl,e]at c';simp at c'
  have rl:=hro.len;have:=nx.pl wf;refine⟨_,Z,⟨⟨z,zs,rs,Z,aB.of hz1,hR,by omega,λt H3 g3 ht=>q t (.cast rs) H3 ((g1.trans g2).trans g3) ht (keep _ (E7 wf hro hne) ⟨by omega,λr hr=>?_⟩ rfl)⟩⟩⟩;obtain⟨r1,r2,w,hw,e,_⟩:=hro.row r hr;obtain⟨p',eZ,rfl⟩:=aW.mp hw;have e:p'.nm=r.1:=e;exact⟨by rw[<-e];exact kU (g.nk _ (wf.sub p' eZ)),by omega,r2⟩
 rintro σ H2 ⟨g2,s9,rfl⟩;have yv:=g2.sq C6;have Jl:=g2.seq hS;have P9:V3 10 9:=⟨by decide,by decide,by decide +kernel⟩
 have p9:(10:Int) ^ (9:Int).toNat=1000000000:=by decide +kernel
 have mn:∀w:Int,0<w->0<(if(10:Int) ^ (9:Int).toNat<w then(10:Int) ^ (9:Int).toNat else w)/\(if(10:Int) ^ (9:Int).toNat<w then(10:Int) ^ (9:Int).toNat else w)<=w/\(if(10:Int) ^ (9:Int).toNat<w then(10:Int) ^ (9:Int).toNat else w)<=1000000000:=λw h=>by rw[p9];split <;> omega
 refine⟨_,Z,Z,_,Z,c6 (λ_=>?_) (λ_=>?_)⟩
 .exact ⟨_,Z,yv.ix (i:=0) x0 ⟨_,Z,(iO 3),λt ht=>ret t (.hand p.nm o) H2 g2 ht (keep _ (by show pC st p.nm o=none;unfold pC;rw[ay hin,ay how]) ⟨Vj,wol⟩ rfl)⟩⟩
 refine⟨_,Z,Z,_,Z,c6 (λ_=>?_) (λ_=>?_)⟩
 .exact ⟨_,Z,yv.ix (i:=0) x0 ⟨(iO 2),λt ht=>ret t (.land p.nm) H2 g2 ht (keep _ (ay hin) Vj rfl)⟩⟩
 by_cases Ar:way=10/\1<aI st
 .refine ⟨true,⟨_,Z,Z,_,Z,c6 (λ_=>⟨_,Z,_,_,Z,Z,_,Z,bR Ar.2,Z⟩) (λc=>absurd (bR (by rw[Ar.1])) c)⟩,gc ?_⟩;obtain⟨m0,m1,m2⟩:=mn (aI st-1) (by omega);refine⟨_,Z,_,Z,_,Z,_,Z,_,_,Z,Z,_,_,Z,Z,P9,_,_,Z,cR Jl h63 hk0 (by decide) (by decide) m0 λd _ d0 d1=>⟨_,_,Z,Z,(iO 3),λt ht=>ret t (.award o (1+d)) H2 g2 ht (keep _ ?_ ⟨wol,by omega,by omega⟩ rfl)⟩⟩;show nv st o (1+d)=none;unfold nv;rw[ay how,av (by omega),av (by omega)]
 refine⟨false,⟨_,Z,Z,_,Z,c6 (λc=>⟨_,Z,_,_,Z,Z,_,Z,c9 (λz=>Ar ⟨V.int.inj (dN c),z⟩),Z⟩) (λc=>⟨Z,Z⟩)⟩,bq ?_⟩;have Sn:((nms.map V.str).length:Int)=(nms.length:Int):=by rw[aE]
 have So:((st.nms.map V.str).length:Int)=(st.nms.length:Int):=by rw[aE]
 by_cases h11:way=11/\1<p.wo/\st.nms.length<nms.length
 .refine ⟨true,⟨_,Z,Z,_,Z,c6 (λ_=>⟨_,Z,yv.ix (i:=2) x2 ⟨_,_,Z,Z,_,Z,c6 (λ_=>⟨_,Z,m,_,Z,vk▸cg.k (k:=Sum.inr "known") (g2 _ _ om),lk,_,Z,.inl (g2.seq ok),_,Z,ln,_,Z,.inl (g2.seq hN),_,_,Z,Z,_,Z,bR (by rw[Sn,So];omega),Z⟩) (λc=>absurd (bR h11.2.1) c)⟩⟩) (λc=>absurd (bR (by rw[h11.1])) c)⟩,gc ?_⟩;obtain⟨m0,m1,m2⟩:=mn (p.wo-1) (by omega);have ey:=bf h11.2.2;obtain⟨y1,y2,y3⟩:=nx.next ey;generalize nms[st.nms.length]=y at *;have eyv:lP (nms.map V.str) ((st.nms.length:Nat):Int)=some (.str y):=aC (by rw[bV,ey];rfl);refine⟨_,Z,_,Z,_,Z,yv.ix (i:=2) x2 ⟨_,_,Z,Z,_,_,Z,Z,P9,_,_,Z,cR Jl h63 hk0 (by decide) (by decide) m0 λd _ d0 d1=>⟨_,_,Z,Z,?_⟩⟩⟩;refine⟨_,Z,yv.ix (i:=0) x0 ⟨_,Z,_,Z,m,_,Z,vk▸cg.k (k:=Sum.inr "known") (g2 _ _ om),lk,_,Z,.inl (g2.seq ok),ln,_,_,_,Z,Z,g2.seq hN,by rw[aE];exact eyv,_,Z,_,Z,_,Z,_,Z,yv.ix (i:=3) x3 ⟨_,_,Z,Z,cR Jl h63 hk0 (by decide) (by decide) (by omega) λv _ v0 v1=>⟨(iO 5),λt ht=>ret t (.sever p.nm y (1+d) v) H2 g2 ht ⟨?_,⟨Vj,kU y1,⟨by omega,by omega⟩,⟨by omega,?_⟩⟩,y3 _ rfl,by show(8:Nat)≠0;decide⟩⟩⟩⟩⟩
  .show kT st p.nm y (1+d) v=none;unfold kT;rw[ay hin,Bk y1 y2,eg];show(if _ then _ else _)=none;rw[av (by omega),av (by omega)]
  .have:=g.we p fF;omega
 refine⟨false,⟨_,Z,Z,_,Z,c6 (λc=>⟨_,Z,yv.ix (i:=2) x2 ⟨_,_,Z,Z,_,Z,c6 (λc2=>⟨_,Z,m,_,Z,vk▸cg.k (k:=Sum.inr "known") (g2 _ _ om),lk,_,Z,.inl (g2.seq ok),_,Z,ln,_,Z,.inl (g2.seq hN),_,_,Z,Z,_,Z,c9 (λz=>h11 ⟨V.int.inj (dN c),dN c2,by rw[Sn,So]at z;omega⟩),Z⟩) (λc=>⟨Z,Z⟩)⟩⟩) (λc=>⟨Z,Z⟩)⟩,bq ?_⟩;refine⟨_,Z,Z,_,Z,c6 (λ_=>?_) (λ_=>?_)⟩
 .obtain ⟨m0,m1,m2⟩:=mn p.wo (by omega);refine⟨_,Z,yv.ix (i:=0) x0 ⟨_,Z,_,Z,_,Z,yv.ix (i:=2) x2 ⟨_,_,Z,Z,P9,_,_,Z,cR Jl h63 hk0 (by decide) (by decide) m0 λd _ d0 d1=>⟨_,_,Z,Z,(iO 3),λt ht=>ret t (.mishap p.nm (1+d)) H2 g2 ht (keep _ ?_ ⟨Vj,by omega,by omega⟩ rfl)⟩⟩⟩⟩;show mE st (p.nm,1+d)=none;unfold mE;show(if p.nm∈fV st then(if 1+d<1 then _ else if(cO st p.nm).wo<1+d then _ else _) else _)=none;rw[ay hin,av (by omega),eg,av (by omega)]
 refine⟨_,Z,yv.ix (i:=0) x0 ⟨_,Z,_,Z,Dj Jl h63 hk0 (by decide) (by decide) λw H3 w1 w2 g3=>⟨(iO 3),λt ht=>ret t (.rise p.nm w) H3 (g2.trans g3) ht (keep _ ?_ ⟨Vj,by omega,by omega⟩ rfl)⟩⟩⟩;show tV st p.nm w=none;unfold tV;rw[ay hin,av (by omega)]
abbrev w_:Stmt:=top 41
abbrev t_:Da Str:=["_law_script","_law_k","_law_model_here","_law_names_here"]
abbrev OT:Da Str:=t_.append ["_law_way","_law_more","_law_owner","_law_worth"]
def nJ:aQ OT t_ (aD w_):=dm
theorem Nu(F:At K mg "_law_deed" w_ f fd)(aT:Dn P w K mg base 1 "_law_draw" gM (oO K))(iJ:Dn P w K mg base 2 "_law_much" mh (AL K))(qc:Dn P w K mg base 3 "_law_part_deed" lN (E8 K))(bO:mg "len"=none):Dn P w K mg base 4 "_law_deed" t_ (UP K):=by
 refine F.oA nJ λ_ _ _ _ H _ Q E hr h=>?_;obtain⟨⟨a,m,ln,ns,k,nms,c,st,rfl,hS,h63,hk0,hk1,hq,hN,nx,hnl,wf,g,hc,q⟩⟩:=h;refine⟨_,(@cZ.h _ _ _ (aj (aS (i:=4) nJ.nd (bh aT hr (af (qv 0) (af (qv 1) (af ai (af ai ak))))))
  (aj (aS (i:=5) nJ.nd (Cq tR (aY (cC K) (by rfl) bO d7 (af (bD (bU hr) (qv 2) aO) ak)) (aY (cC K) (by rfl) bO d7 (af (qv 3) ak)) (aZ _)))
  (aj (c5 (ju (bW.pt (oV (ny (qv 5)) (qu (ju (bW.pt (Cp (aR tR (qv 4) ai (aZ _)) (yP (aR tR (aY (cC K) (by rfl) bO d7 (af (bD (bU hr) (qv 2) aO) ak)) ai (aZ _)))))))))) (aj (aS (i:=6) nJ.nd (aF (aM K) (bD (bU hr) (qv 2) aO) (bh aT hr (af (qv 0) (af (qv 1) (af ai (af (aY (cC K) (by rfl) bO d7 (af (bD (bU hr) (qv 2) aO) ak)) ak)))))))
  (aj (aS (i:=7) nJ.nd (bh iJ hr (af (qv 0) (af (qv 1) (af ai ak)))))
  (au (bH (iN (af aO (af (aF (aM K) (qv 3) (aY (cC K) (by rfl) bO d7 (af (bD (bU hr) (qv 2) aO) ak))) (af (qv 6) (af (qv 7) (af (bh aT hr (af (qv 0) (af (qv 1) (af ai (af ai ak))))) ak)))))))))) bM)
  (aj (c5 (aR dG (aY (cC K) (by rfl) bO d7 (af (bD (bU hr) (qv 2) aO) ak)) ai (aZ _)) (au (bH (iN (af aO ak)))) bM)
  (au (bH (bh qc hr (af (qv 0) (af (qv 1) (af (qv 2) (af (qv 3) (af (qv 4) ak))))))))))))),?_⟩
 obtain⟨AT,lo,lp,lk,us,om,vo,vp,vk,oo,op,rw',ok⟩:=id hq;have ll:=rw'.len;have hpl:=g.pl;have fD:=wf.lF;have ah7:=g.ol;have Sn:((nms.map V.str).length:Int)=(nms.length:Int):=by rw[aE]
 have So:((st.nms.map V.str).length:Int)=(st.nms.length:Int):=by rw[aE]
 refine⟨_,Z,_,Z,cR hS h63 hk0 (by decide) (by decide) (by decide) λway _ v0 v1=>?_⟩;refine⟨_,Z,m,_,Z,vk▸cg.k (k:=Sum.inr "known") om,lk,_,Z,.inl ok,_,Z,ln,_,Z,.inl hN,_,_,Z,Z,?_⟩;rw[Sn,So];have orR:∀b:Bool,b=decide (way<3\/st.ah.length<2)->(tOr (Ei (CJ (CK λi j=>V.bl (decide (i<j))) (De 4) (tC (V.int 3)))) (Ei (CJ (CK λi j=>V.bl (decide (i<j))) (XO (λxs H Q=>∃p ys,xs=[V.ref p]/\(aB K H p ys\/dU K H p ys)/\Q (V.int ↑ys.length) H) (RI (RM (De 2) (tC (V.str "parts"))) qL)) (tC (V.int 2))))) [some (.ref a),some (.int k),some (.ref m),some (.ref ln),some (.int way),some (.bl (decide ((st.nms.length:Int)<(nms.length:Int)))),none,none] H (λb' H'=>b'=b/\H'=H):=λb eb=>by
  refine⟨_,Z,_,_,Z,Z,_,Z,c6 (λc=>⟨?_,Z⟩) (λc=>⟨_,Z,m,_,Z,vp▸cg.k (k:=Sum.inr "parts") om,lp,_,Z,.inl op,_,_,Z,Z,_,Z,?_,Z⟩)⟩
  .rw [eb];exact(bR (.inl (dN c))).symm
  .have c':¬ way<3:=qB (pN.mpr c);rw[eb];by_cases h2:st.ah.length<2
   .rw [bR (.inr h2:way<3\/st.ah.length<2)];exact bR (by omega)
   .rw [c9 (λz=>z.elim c' h2:¬ (way<3\/st.ah.length<2))];exact c9 (by omega)
 by_cases hL:st.nms.length<nms.length/\(way<3\/st.ah.length<2)
 .refine ⟨true,⟨_,Z,_,Z,c6 (λ_=>⟨true,orR true (bR hL.2).symm,Z,Z⟩) (λc=>absurd (bR (by omega)) c)⟩,gc ?_⟩;have ey:=bf hL.1;obtain⟨y1,y2,y3⟩:=nx.next ey;generalize nms[st.nms.length]=y at *;have eyv:lP (nms.map V.str) ((st.nms.length:Nat):Int)=some (.str y):=aC (by rw[bV,ey];rfl);refine⟨_,Z,m,_,Z,vo▸cg.k (k:=Sum.inr "owners") om,_,Z,_,Z,_,Z,m,_,Z,vo▸cg.k (k:=Sum.inr "owners") om,lo,_,Z,.inl oo,cR hS h63 hk0 (by decide) (by decide) (by rw[aE];omega) λwd _ w0 w1=>?_⟩;rw[aE]at w1;obtain⟨jo,o,ejo,eo,Vi⟩:=Dq (l:=st.own) (d:=wd) w0 w1;have how:=bg eo;refine⟨lo,_,_,_,Z,Z,oo,Vi,?_⟩;refine⟨_,Z,_,Z,Dj hS h63 hk0 (by decide) (by decide) λw H1 w1 w2 g1=>?_⟩;refine⟨_,Z,_,Z,m,_,Z,vk▸cg.k (k:=Sum.inr "known") (g1 _ _ om),lk,_,Z,.inl (g1.seq ok),ln,_,_,_,Z,Z,g1.seq hN,by rw[aE];exact eyv,_,Z,_,Z,_,Z,_,Z,cR (g1.seq hS) h63 hk0 (by decide) (by decide) (by decide) λv _ v0 v1=>⟨(iO 5),λt ht=>q t (.load y o w v) _ (g1.trans (aH ht _)) aq ⟨EZ y1 y2 how w1 v0,⟨kU y1,kU (g.on o how),⟨by omega,by omega⟩,⟨by omega,by omega⟩⟩,y3 _ rfl,by show(1:Nat)≠0;decide⟩⟩⟩
 refine⟨false,⟨_,Z,_,Z,c6 (λc=>⟨false,orR false (c9 (λz=>hL ⟨by have:=dN c;omega,z⟩)).symm,Z,Z⟩) (λc=>⟨Z,Z⟩)⟩,bq ?_⟩;refine⟨_,Z,m,_,Z,vp▸cg.k (k:=Sum.inr "parts") om,lp,_,Z,.inl op,Z,_,Z,c6 (λc=>?_) (λcz=>?_)⟩
 .exact ⟨(iO 1),λt ht=>q t .still _ (aH ht _) aq ⟨Z,True.intro,nx,by show(9:Nat)≠0;decide⟩⟩
 have c':0<st.ah.length:=Nat.pos_of_ne_zero λz=>cz (bR (by rw[ll,z];rfl));exact⟨_,Z,_,Z,_,Z,_,Z,_,Z,⟨⟨a,m,ln,ns,k,way,nms,c,st,Z,hS,h63,hk0,hk1,hq,hN,nx,hnl,wf,g,hc,c',q⟩⟩⟩
abbrev xg:Stmt:=top 36
abbrev o8:Da Str:=["_law_model_here","_law_amounts","_law_seat_here","_law_award"]
abbrev OU:Da Str:=o8.append ["_law_parts","_law_whole","_law_kept","_law_given","_law_at_here","_law_k"]
def jO:aQ OU o8 (aD xg):=dm
theorem Nv(F:At K mg "_law_bear" xg f fd)(bO:mg "len"=none)(cu:mg "range"=none)(ff:mg "sum"=none):Dn P w K mg base 1 "_law_bear" o8 (L8 K):=by
 refine F.oA jO λ_ _ _ _ H _ Q E hr h=>?_;obtain⟨⟨n,ρ,B,b,l,as,seat,aw,rfl,G,h,wf,hl,cl,ok,q⟩⟩:=h;refine⟨_,(@cZ.h _ _ _ (aj (aS (i:=4) jO.nd (bD (bU hr) (qv 0) aO))
  (aj (aS (i:=5) jO.nd (aY (ji K rfl) (by rfl) ff uD (af (iE ["_law_part"] [none] rfl (dH K (qv 4)) (λ_ _ _ _=>(aV (i:=0) (show List.Nodup (["_law_part"] :Da Str)from by decide +kernel))) (λ_ _ _ _=>(aF (aM K) (qv 0) ai)) rfl (by rfl)) ak)))
  (aj (aS (i:=6) jO.nd (aG j0 (aG j0 (qv 5) (qv 3)) (aY (ji K rfl) (by rfl) ff uD (af (qv 1) ak))))
  (aj (aS (i:=7) jO.nd (iB ak))
  (aj (fj fT rfl (gZ (by rfl) cu (af (aY (cC K) (by rfl) bO d7 (af (bD (bU hr) (qv 0) aO) ak)) ak)) (aV (i:=8) jO.nd) (au (bQ (kh mY mW mX d8 (qv 7) (af (aY (ji K rfl) (by rfl) ff uD (af (iE ["_law_k","_law_parts","_law_at_here","_law_amounts"] [none,some 4,some 8,some 1] rfl (gZ (by rfl) cu (af (aY (cC K) (by rfl) bO d7 (af (qv 4) ak)) ak)) (λ_ _ _ _=>(aV (i:=0) (show List.Nodup (["_law_k","_law_parts","_law_at_here","_law_amounts"] :Da Str)from by decide +kernel))) (λ_ _ _ _=>(aG fk (aF (aM K) (aF (aM K) (aF (aM K) (qv 1) (qv 0)) ai) (qv 2)) (aF (aM K) (qv 3) (qv 0)))) rfl (by rfl)) ak)) ak)))))
  (aj (gh (aR iT (qv 3) ai (aZ _)) (au (i_ (aG b_ (aF (aM K) (qv 7) (qv 2)) (aG fk (qv 3) (bD (bU hr) (qv 0) aO))) (ja (qv 7) (qv 2) set_list))) bM)
  (aj (fj fT rfl (gZ (by rfl) cu (af (aY (cC K) (by rfl) bO d7 (af (qv 4) ak)) ak)) (aV (i:=9) jO.nd) (aj (i_ (iE ["_law_at_here","_law_parts","_law_k","_law_kept","_law_given"] [none,some 4,some 9,some 6,some 7] rfl (gZ (by rfl) cu (af (aY (cC K) (by rfl) bO d7 (af (qv 7) ak)) ak)) (λ_ _ _ _=>(aV (i:=0) (show List.Nodup (["_law_at_here","_law_parts","_law_k","_law_kept","_law_given"] :Da Str)from by decide +kernel))) (λ_ _ _ _=>(aG b_ (aG fk (aF (aM K) (aF (aM K) (aF (aM K) (qv 1) (qv 2)) ai) (qv 0)) (qv 3)) (aF (aM K) (qv 4) (qv 0)))) rfl (by rfl)) (ja (aF (aM K) (qv 4) (qv 9)) ai set_list))
  (au (i_ (aG j0 (aF (aM K) (aF (aM K) (qv 4) (qv 9)) ai) (aF (aM K) (qv 1) (qv 9))) (ja (aF (aM K) (qv 4) (qv 9)) ai set_list)))))
  (aj (qw (bU hr) (qv 0) aO (aG fk (bD (bU hr) (qv 0) aO) (qv 5)) rfl)
  (au (qw (bU hr) (qv 0) aO (v8 ["_law_part"] [none] rfl (dH K (qv 4)) (λ_ _ _ _=>(aV (i:=0) (show List.Nodup (["_law_part"] :Da Str)from by decide +kernel))) (λ_ _ _ _=>(qv 0)) (λ_ _ _ _=>(aR iT (aF (aM K) (qv 0) ai) ai (aZ _))) rfl (by rfl)) rfl))))))))))),?_⟩
 have pl:=wf.pl;have xh:(B.qs.map λq=>V.ref q.1).length=b.ah.length:=by rw[aE];exact h.ql
 refine⟨_,Z,B.m,_,Z,cg.k (k:=Sum.inr "parts") h.om,?_⟩;refine⟨_,Z,B.lp,Z,⟨_,aB.of h.op⟩,λl0 gk=>?_⟩;refine iL (J:=vc K B.lp) (n:=b.ah.length) 0 (λi o H'=>aK H H'/\o=((b.ah.take i).map (λp:BP=>p.wo)).map V.int) (by omega) ⟨aH gk _,Z⟩ (λi o H' hi _ hp=>⟨_,_,aB.of (hp.1 _ _ h.op),bf (by rw[xh];exact hi)⟩) (λo H' _ hp=>⟨_,aB.of (hp.1 _ _ h.op),by rw[xh];exact aL _⟩) ?_ ?_
 .rintro i y o H2 H3 hi fD ha ⟨g,e⟩ ⟨rfl,hy⟩;have ei:=bf hi;obtain⟨qq,eq,k1,k2,_,_⟩:=h.find ei;have ey:=hy _ (aB.of (g _ _ h.op));rw[bV,eq]at ey;cases ey;refine⟨_,Z,qq.1,_,_,_,Z,Z,aB.of (g _ _ k1),aC (j:=2) rfl,ha,g.cI gk _,?_⟩;subst e;rw[take_snoc ei,bN,bN];rfl
 rintro o1 H1 _ ha ⟨g1,e⟩;rw[cL]at e;subst e;refine⟨l0,b.ah.map (λp:BP=>p.wo),Z,aB.of ha,?_⟩;show lE 5 (.int (bL b)) _ _ _;refine⟨_,Z,_,Z,_,_,Z,Z,_,Z,l,as,Z,g1.seq hl,_,_,Z,Z,?_⟩;show lE 6 (.int (bL b-aw-as.sum)) _ _ _;generalize ekp:bL b-aw-as.sum=kept at *;have hkp:0<kept:=by rw[<-ekp];exact ok.kept
 have zw:=ok.big;have as0:0<=as.sum:=by
  cases has:as with
  | nil=>exact eO _
  | cons a l=>exact BZ (ok.a0 a (by rw[has];exact cM)) (by rw[<-has];exact x6 ok.a0 (by rw[has];exact cM))
 have zk:Jm.Sz 60 kept:=zw.of_le (by have:=ok.ET;omega);have za:∀a∈as,Jm.Sz 60 a:=λa hm=>zw.of_le (by have:=ok.a0 a hm;have:=x6 ok.a0 hm;have:=ok.ET;omega);have zaw:Jm.Sz 60 aw:=zw.of_le (by have:=ok.ET;omega);have zt:∀p∈b.ah,∀t∈p.tops,Jm.Sz 7000 t:=λp hp t ht=>Jm.Sz.lQ (by have:=wf.t0 p hp t ht;have:=wf.b1;omega) (wf.t0 p hp t ht).2 wf.bz;have h1:=h.mono g1;have hl1:=g1.seq hl;refine⟨(iO 0),λgv hgv=>?_⟩;have g2:=aH hgv (.lst []);have X_:upd H1 gv (.lst []) gv=some (.lst []):=aq;have Xq:H gv=none:=g1.free hgv;have Jh:=g1.trans g2;show vH _ _ _ _ (upd H1 gv (.lst []));generalize upd H1 gv (.lst [])=H2 at *;have h2:=h.mono Jh;have ol:=wf.ol;have oml:(b.own.map V.str).length=b.own.length:=aE _;refine⟨_,Z,B.m,_,Z,cg.k (k:=Sum.inr "owners") h2.om,B.lo,_,Z,.inl (aB.of h2.oo),_,Z,by omega,by omega,?_⟩;refine iK (lo:=0) (n:=(((b.own.map V.str).length:Nat):Int).toNat) (λi σ H'=>aK H H'/\H' gv=some (.lst (((List.range i).map (iD b.ah as)).map V.int))/\∃s8,σ=[some (.ref B.m),some (.ref l),some (.int (seat:Int)),some (.int aw),some (.ref B.lp),some (.int (bL b)),some (.int kept),some (.ref gv),s8,none])
  ⟨Jh,X_,_,Z⟩ ?_ ?_
 .rintro i σ H3 hi ⟨g3,Fy,s8,rfl⟩;have e0:(0:Int)+(i:Int)=((i:Nat):Int):=by omega
  rw[e0];have hio:i<b.own.length:=by omega
  refine⟨_,Z,.inl ⟨Z,_,aB.of Fy⟩,_,Z,B.lp,_,Z,.inl (aB.of (g3 _ _ h.op)),_,Z,by omega,by omega,λc hc=>?_⟩;refine iL (J:=PX 0 _) (n:=b.ah.length) 0 (λj o H'=>aK H3 H'/\o=(List.zipWith (λ(p:BP)(a:Int)=>p.tops.getD i 0*a) (b.ah.take j) (as.take j)).map V.int) (by omega) ⟨aH hc _,Z⟩ (λj o H' hj _ _=>by show j<(((B.qs.map λq=>V.ref q.1).length:Nat):Int).toNat;omega) (λo H' _ _=>by show(((B.qs.map λq=>V.ref q.1).length:Nat):Int).toNat<=b.ah.length;omega) ?_ ?_
  .rintro j x o H4 H5 hj fD U_ ⟨g4,e4⟩ ⟨rfl,rfl⟩;have e0:(0:Int)+(j:Int)=((j:Nat):Int):=by omega
   rw[e0];have ej:=bf hj;have hja:j<as.length:=by rw[ok.len];exact hj
   have ea:=bf hja;obtain⟨qq,eq,k1,k2,_,_⟩:=h.find ej;have gg:=g3.trans g4;have hti:i<(b.ah[j]).tops.length:=by rw[wf.tl _ (bg ej)];exact hio
   have et:=bf hti;have eD:(b.ah[j]).tops.getD i 0=(b.ah[j]).tops[i] :=by rw[dD,et];rfl
   refine⟨_,Z,_,Z,B.lp,_,_,_,Z,Z,aB.of (gg _ _ h.op),aC (by rw[bV,eq];rfl),qq.1,_,_,_,Z,Z,aB.of (gg _ _ k1),aC (j:=4) rfl,_,Z,qq.2,_,_,_,Z,Z,aB.of (gg _ _ k2),aC (by rw[bV,et];rfl),?_⟩;refine⟨_,Z,_,Z,l,_,_,_,Z,Z,gg.seq hl,aC (by rw[bV,ea];rfl),_,_,Z,Z,eX (zt _ (bg ej) _ (bg et)) (za _ (bg ea)),U_,g4.cI hc _,?_⟩;rw[L_ ej ea,e4,bN,eD];rfl
  rintro o H4 _ U_ ⟨g4,e4⟩;have e5:List.zipWith (λ(p:BP)(a:Int)=>p.tops.getD i 0*a) (b.ah.take b.ah.length) (as.take b.ah.length)=List.zipWith (λ(p:BP)(a:Int)=>p.tops.getD i 0*a) b.ah as:=by rw[cL,<-ok.len,cL]
  rw[e5]at e4;subst e4;refine⟨c,_,Z,aB.of U_,gv,_,_,Z,Z,g4 _ _ Fy,by rw[aE,aE,Gs];exact c8 (by omega),(g3.trans g4).cI Xq _,?_,_,Z⟩;rw[aq,List.range_succ,bN,bN];rfl
 rintro σ H3 ⟨g3,Fy,s8,rfl⟩;rw[show(((b.own.map V.str).length:Nat):Int).toNat=b.own.length from by omega]at Fy;have Fy:H3 gv=some (.lst ((gK b as).map V.int)):=Fy;have h3:=h.mono g3;have gl:=lH b as;refine⟨λσ H'=>aK H H'/\H' gv=some (.lst ((iu b as seat aw).map V.int))/\σ=[some (.ref B.m),some (.ref l),some (.int (seat:Int)),some (.int aw),some (.ref B.lp),some (.int (bL b)),some (.int kept),some (.ref gv),s8,none],?_,?_⟩
 .refine ⟨_,Z,_,_,Z,Z,_,Z,c6 (λc=>?_) (λc=>?_)⟩
  .have c':0<aw:=dN c;have hsl:seat<(gK b as).length:=by rw[gl];exact ok.seat
   have es:=bf hsl;have eD:(gK b as).getD seat 0=(gK b as)[seat] :=by rw[dD,es];rfl
   refine⟨_,Z,_,Z,gv,_,_,_,Z,Z,aB.of Fy,aC (by rw[bV,es];rfl),_,Z,_,Z,B.m,_,Z,cg.k (k:=Sum.inr "bottom") h3.om,_,_,Z,Z,eX zaw wf.bz,_,_,Z,Z,_,Z,_,Z,gv,_,_,_,Z,Z,Fy,by rw[aE];exact lY hsl,g3.cI Xq _,?_,Z⟩;rw[aq];unfold iu;rw[ay c',kL,eD]
  .have c':¬ 0<aw:=qB (pN.mpr c);refine⟨g3,?_,Z⟩;unfold iu;rw[av c'];exact Fy
 rintro σ H4 ⟨g4,hg4,rfl⟩;have gvl:=vZ b as seat aw;generalize egv:iu b as seat aw=given at *;have h4:=h.mono g4;have gmn:(given.map V.int).length=b.own.length:=by rw[aE];exact gvl
 have cgv:ρ gv=none:=G.none Xq;have bl:(c_ b as seat aw).length=b.ah.length:=xZ ok.len;refine⟨_,Z,B.lp,_,Z,.inl (aB.of h4.op),_,Z,by omega,by omega,?_⟩;refine iK (lo:=0) (n:=(((B.qs.map λq=>V.ref q.1).length:Nat):Int).toNat) (λi σ H'=>∃ρ' B' s8 s9,σ=[some (.ref B.m),some (.ref l),some (.int (seat:Int)),some (.int aw),some (.ref B.lp),some (.int (bL b)),some (.int kept),some (.ref gv),s8,s9]/\Gh ρ' H'/\aU n ρ' B' H' { b with ah:=(c_ b as seat aw).take i++b.ah.drop i }/\B'.m=B.m/\B'.lp=B.lp/\Fr n ρ H ρ' H'/\H' gv=some (.lst (given.map V.int))/\ρ' gv=none)
  ⟨ρ,B,_,_,Z,G.same g4,h4,Z,Z,Fr.of_same g4,hg4,cgv⟩ ?_ ?_
 .rintro i σ H5 hi ⟨ρ5,B5,s8,s9,rfl,G5,h5,xj,C0,F5,Q0,cg5⟩;have e0:(0:Int)+(i:Int)=((i:Nat):Int):=by omega
  rw[e0];have Av:i<b.ah.length:=by omega
  have ei:=bf Av;have fF:=bg ei;have hia:i<as.length:=by rw[ok.len];exact Av
  have ea:=bf hia;have em:((c_ b as seat aw).take i++b.ah.drop i)[i]?=some b.ah[i] :=ZA (by omega) ei;have ebp:=WN (seat:=seat) (aw:=aw) ei ea;rw[egv,ekp]at ebp;have Yj:=wf.tl _ fF;have dW:=zt _ fF;generalize b.ah[i]=p at *;have hza:=za _ (bg ea);generalize as[i]=a at *;obtain⟨qq,eq,k1,k2,c1,c2⟩:=h5.find em;have op5:H5 B.lp=some (.lst (B5.qs.map λq=>V.ref q.1)):=by rw[<-C0];exact h5.op
  have Q2:(B5.qs.map λq=>V.ref q.1)[i]?=some (.ref qq.1):=by rw[bV,eq];rfl
  refine⟨_,Z,gv,_,Z,.inl (aB.of Q0),_,Z,by omega,by omega,λt1 ht1=>?_⟩;refine iL (J:=PX 0 _) (n:=b.own.length) 0 (λj o H'=>aK H5 H'/\o=(List.zipWith (λt g=>t*kept+g) (p.tops.take j) (given.take j)).map V.int) (by omega) ⟨aH ht1 _,Z⟩ (λj o H' hj _ _=>by show j<(((given.map V.int).length:Nat):Int).toNat;omega) (λo H' _ _=>by show(((given.map V.int).length:Nat):Int).toNat<=b.own.length;omega) ?_ ?_
  .rintro j x o H6 H7 hj fD y_ ⟨g6,e6⟩ ⟨rfl,rfl⟩;have e0:(0:Int)+(j:Int)=((j:Nat):Int):=by omega
   rw[e0];have et:=bf (show j<p.tops.length by rw[Yj];exact hj);have eg:=bf (show j<given.length by rw[gvl];exact hj);refine⟨_,Z,_,Z,B.lp,_,_,_,Z,Z,aB.of (g6 _ _ op5),aC Q2,qq.1,_,_,_,Z,Z,aB.of (g6 _ _ k1),aC (j:=4) rfl,_,Z,qq.2,_,_,_,Z,Z,aB.of (g6 _ _ k2),aC (by rw[bV,et];rfl),?_⟩;refine⟨_,Z,_,_,Z,Z,eX (dW _ (bg et)) zk,_,Z,_,Z,gv,_,_,_,Z,Z,aB.of (g6 _ _ Q0),aC (by rw[bV,eg];rfl),_,_,Z,Z,y_,g6.cI ht1 _,?_⟩;rw[ng _ et eg,e6,bN];rfl
  rintro o H6 _ y_ ⟨g6,e6⟩;rw[show p.tops.take b.own.length=p.tops from by rw[<-Yj];exact cL,show given.take b.own.length=given from by rw[<-gvl];exact cL]at e6;subst e6;have h6:=h5.mono g6;have G6:=G5.same g6;have ct1:ρ5 t1=none:=G5.none ht1;have h7:aU n (bY ρ5 t1 (n,24,p.nm)) B5 H6 { b with ah:=(c_ b as seat aw).take i++b.ah.drop i }:=h6.col ct1;have G7:Gh (bY ρ5 t1 (n,24,p.nm)) H6:=G6.color y_ rfl;have F7:Fr n ρ H (bY ρ5 t1 (n,24,p.nm)) H6:=F5.trans (Fr.color ht1 g6);have ct:bY ρ5 t1 (n,24,p.nm) t1=some (n,24,p.nm):=cX;have cg7:bY ρ5 t1 (n,24,p.nm) gv=none:=by rw[b8 (λz=>by rw[z]at Q0;rw[Q0]at ht1;cases ht1)];exact cg5
  have hg6:=g6 _ _ Q0;have Ay:=g6 _ _ op5;have k16:=g6 _ _ k1;have Vk:bY ρ5 t1 (n,24,p.nm) qq.1=some (n,23,p.nm):=by rw[b8 (aJ k1 ht1)];exact c1
  generalize bY ρ5 t1 (n,24,p.nm)=ρ7 at *;have ndm:(((c_ b as seat aw).take i++b.ah.drop i).map (λp:BP=>p.nm)).Nodup:=by rw[Ut ok.len];exact wf.nd
  have nqg:gv≠qq.1:=λz=>by rw[z,Vk]at cg7;cases cg7
  generalize eT:List.zipWith (λt g=>t*kept+g) p.tops given=T at *;refine⟨_,Z,_,Z,B.lp,_,_,_,Z,Z,aB.of Ay,aC Q2,qq.1,_,_,4,Z,Z,k16,Z,?_⟩;have h8:=h7.lT G7 (p1:={ p with tops:=T }) (t1:=t1) em eq rfl ndm y_ ct;have G8:=G7.wr (a:=qq.1) (o:=jn { p with tops:=T } t1) rfl;have F8:=F7.trans (Fr.write (o:=jn { p with tops:=T } t1) Vk);have k18:upd H6 qq.1 (jn { p with tops:=T } t1) qq.1=some (jn { p with tops:=T } t1):=aq;have hg8:upd H6 qq.1 (jn { p with tops:=T } t1) gv=some (.lst (given.map V.int)):=by rw[az nqg];exact hg6
  have nlp:B.lp≠qq.1:=λz=>by have:=h7.cp;rw[C0,z,Vk]at this;cases this
  have op8:upd H6 qq.1 (jn { p with tops:=T } t1) B.lp=some (.lst (B5.qs.map λq=>V.ref q.1)):=by rw[az nlp];exact Ay
  have ntq:t1≠qq.1:=λz=>by rw[z,Vk]at ct;cases ct
  have ht8:upd H6 qq.1 (jn { p with tops:=T } t1) t1=some (.lst (T.map V.int)):=by rw[az ntq];exact y_
  generalize hH8:upd H6 qq.1 (HO.lst _)=H8;have adu:upd H6 qq.1 (jn { p with tops:=T } t1)=H8:=hH8;rw[adu]at h8 G8 F8 k18 hg8 op8 ht8;clear hH8 adu;refine⟨_,Z,_,Z,B.lp,_,_,_,Z,Z,aB.of op8,aC Q2,qq.1,_,_,_,Z,Z,aB.of k18,aC (j:=2) rfl,?_⟩;refine⟨_,Z,_,Z,l,_,_,_,Z,Z,F8.seq hl cl,aC (by rw[bV,ea];rfl),_,_,Z,Z,?_⟩;refine⟨_,Z,_,Z,B.lp,_,_,_,Z,Z,aB.of op8,aC Q2,qq.1,_,_,2,Z,Z,k18,Z,?_⟩;have hiq:i<B5.qs.length:=(dM.mp eq).1;have him:i<((c_ b as seat aw).take i++b.ah.drop i).length:=(dM.mp em).1;have h9:=h8.lT G8 (i:=i) (p0:={ p with tops:=T }) (p1:=nt given kept p a) (q0:=(qq.1,t1)) (t1:=t1) (kC him) (kC hiq) rfl (by show((((c_ b as seat aw).take i++b.ah.drop i).set i { p with tops:=T }).map (λp:BP=>p.nm)).Nodup;rw[kL,nq (by rw[bV,em];rfl)];exact ndm) (by show H8 t1=some (.lst ((List.zipWith (λt g=>t*kept+g) p.tops given).map V.int));rw[eT];exact ht8) ct
  have e9:(((c_ b as seat aw).take i++b.ah.drop i).set i { p with tops:=T }).set i (nt given kept p a)=(c_ b as seat aw).take (i+1)++b.ah.drop (i+1):=by rw[qH];exact ZC ebp Av
  have h9':aU n ρ7 { B5 with qs:=(B5.qs.set i (qq.1,t1)).set i (qq.1,t1) } (upd H8 qq.1 (jn (nt given kept p a) t1)) { b with ah:=(((c_ b as seat aw).take i++b.ah.drop i).set i { p with tops:=T }).set i (nt given kept p a) }:=h9;rw[e9]at h9';exact⟨ρ7,{ B5 with qs:=(B5.qs.set i (qq.1,t1)).set i (qq.1,t1) },_,_,Z,G8.wr rfl,h9',xj,C0,F8.trans (Fr.write Vk),by rw[az nqg];exact hg8,cg7⟩
 rintro σ H5 ⟨ρ5,B5,s8,s9,rfl,G5,h5,xj,C0,F5,Q0,cg5⟩;rw[show(((B.qs.map λq=>V.ref q.1).length:Nat):Int).toNat=b.ah.length from by omega,show(c_ b as seat aw).take b.ah.length=c_ b as seat aw from by rw[<-bl];exact cL,D4,qF]at h5;obtain⟨m5,Vl,lp5,Vm,Vn,BO⟩:=B5;have xj:m5=B.m:=xj;have C0:lp5=B.lp:=C0;subst xj C0;refine⟨_,Z,B.m,_,Z,cg.k (k:=Sum.inr "bottom") h5.om,_,Z,_,_,Z,Z,eX wf.bz zw,_,Z,B.m,_,Z,uJ.k (k:=Sum.inr "bottom") h5.om (by show 5<sizeLine;decide),?_⟩;rw[Uu];have h6:=h5.Zx G5 (b.bot*bL b);have G6:=G5.wr (a:=B.m) (o:=.dK (fB ⟨B.m,Vl,B.lp,Vm,Vn,BO⟩ (b.bot*bL b))) rfl;have F6:=F5.trans (Fr.write (o:=.dK (fB ⟨B.m,Vl,B.lp,Vm,Vn,BO⟩ (b.bot*bL b))) h5.cm);generalize hH6:upd H5 B.m (HO.dK _)=H6;have adv:upd H5 B.m (.dK (fB ⟨B.m,Vl,B.lp,Vm,Vn,BO⟩ (b.bot*bL b)))=H6:=hH6;have h6:aU n ρ5 ⟨B.m,Vl,B.lp,Vm,Vn,BO⟩ (upd H5 B.m (.dK (fB ⟨B.m,Vl,B.lp,Vm,Vn,BO⟩ (b.bot*bL b)))) { b with ah:=c_ b as seat aw,bot:=b.bot*bL b }:=h6;rw[adv]at h6 G6 F6;clear hH6 adv;have Fz:BO.length=(c_ b as seat aw).length:=h5.ql;have Vo:(BO.map λq=>V.ref q.1).length=(c_ b as seat aw).length:=by rw[aE];exact Fz
 have Ay:H6 B.lp=some (.lst (BO.map λq=>V.ref q.1)):=h6.op;refine⟨_,Z,B.lp,Z,⟨_,aB.of Ay⟩,λlp vf=>?_⟩;refine GF (J:=vc K B.lp) (n:=(c_ b as seat aw).length) 0 (λi o H'=>aK H6 H'/\o=(j9 ((c_ b as seat aw).take i) (BO.take i)).map λq=>V.ref q.1) (by omega) ⟨aH vf _,Z⟩ (λi o H' hi _ hp=>⟨_,_,aB.of (hp.1 _ _ Ay),bf (by rw[Vo];exact hi)⟩) (λo H' _ hp=>⟨_,aB.of (hp.1 _ _ Ay),by rw[Vo];exact aL _⟩) ?_ ?_
 .rintro i y o H7 H8 hi fD ha ⟨g,e⟩ ⟨rfl,hy⟩;have ei:=bf hi;obtain⟨qq,eq,k1,k2,_,_⟩:=h6.find ei;have eq:BO[i]?=some qq:=eq;have ey:=hy _ (aB.of (g _ _ Ay));rw[bV,eq]at ey;cases ey;have es:=zZ ei eq;refine⟨_,Z,qq.1,_,_,_,Z,Z,aB.of (g _ _ k1),aC (j:=2) rfl,_,_,Z,Z,_,Z,c6 (λc=>?_) (λc=>?_)⟩
  .rw [ay (dN c)]at es;refine⟨_,Z,ha,g.cI vf _,?_⟩;rw[es,e,bN];rfl
  .rw [av (qB (pN.mpr c))]at es;exact⟨ha,g,by rw[es,e,qF]⟩
 rintro o H7 _ ha ⟨g7,e⟩;rw[cL,<-Fz,cL]at e;subst e;have h7:=h6.mono g7;have G7:=G6.same g7;have clp:ρ5 lp=none:=G6.none vf;have h8:=h7.col (t:=22) (x:=⟨#[]⟩) clp;have G8:Gh (bY ρ5 lp (n,22,⟨#[]⟩)) H7:=G7.color ha rfl;have F8:Fr n ρ H (bY ρ5 lp (n,22,⟨#[]⟩)) H7:=F6.trans (Fr.color vf g7);have h9:=h8.Uq G8 (lp:=lp) (qs:=j9 (c_ b as seat aw) BO) (ps:=(c_ b as seat aw).filter λp=>decide (0<p.wo)) ha cX (Bg Fz) (λi x y ex ey=>by obtain⟨j,a1,a2⟩:=zY ex ey Fz;exact h8.pt j x y a1 a2)
 refine⟨_,Z,B.m,_,Z,uJ.k (k:=Sum.inr "parts") h7.om (by show 5<sizeLine;decide),?_⟩;rw[Ma];exact q _ _ _ (G8.wr rfl) h9 rfl (F8.trans (Fr.write h8.cm))
abbrev nK:Stmt:=top 37
abbrev jc:Da Str:=["_law_model_here","_law_rows_here"]
abbrev CC:Da Str:=jc.append ["_law_amounts","_law_name_here","_law_amount"]
def kq:aQ CC jc (aD nK):=dm
theorem BQ(F:At K mg "_law_model_cast" nK f fd)(uz:Dn P w K mg base 1 "_law_at" uy (Yc K))(mq:Dn P w K mg base 1 "_law_bear" o8 (L8 K)):Dn P w K mg base 2 "_law_model_cast" jc (GO K):=by
 refine F.oA kq λ_ _ _ _ H _ Q E hr h=>?_;obtain⟨⟨n,ρ,B,b,l,us,rs,rfl,G,h,wf,hl,hR,cl,rb,hle,bo,q⟩⟩:=h;refine⟨_,(@cZ.h _ _ _ (aj (qt (i:=2) ["_law_part"] [none] kq.nd rfl rfl rfl (dH K (bD (bU hr) (qv 0) aO)) (λ_ _ _ _=>(aV (i:=0) (show List.Nodup (["_law_part"] :Da Str)from by decide +kernel))) (λ_ _ _ _=>ai) rfl (by rfl) (by rfl))
  (aj (fj fT rfl (dH K (qv 1)) (iX K (n:=2) rfl (cS (aV (i:=3) kq.nd) (cS (aV (i:=4) kq.nd) iW))) (au (i_ (qv 4) (ja (qv 2) (bh uz hr (af (bD (bU hr) (qv 0) aO) (af (qv 3) ak))) set_list))))
  (au (bQ (bh mq hr (af (qv 0) (af (qv 2) (af ai (af ai ak)))))))))),?_⟩
 have pl:=wf.pl;have xh:(B.qs.map λq=>V.ref q.1).length=b.ah.length:=by rw[aE];exact h.ql
 refine⟨_,Z,B.m,_,Z,cg.k (k:=Sum.inr "parts") h.om,B.lp,Z,⟨_,aB.of h.op⟩,λl0 gk=>?_⟩;refine iL (J:=vc K B.lp) (n:=b.ah.length) 0 (λi o H'=>aK H H'/\o=((b.ah.take i).map λ_=>(0:Int)).map V.int) (by omega) ⟨aH gk _,Z⟩ (λi o H' hi _ hp=>⟨_,_,aB.of (hp.1 _ _ h.op),bf (by rw[xh];exact hi)⟩) (λo H' _ hp=>⟨_,aB.of (hp.1 _ _ h.op),by rw[xh];exact aL _⟩) ?_ ?_
 .rintro i y o H2 H3 hi fD ha ⟨g,e⟩ ⟨rfl,hy⟩;refine⟨ha,g.cI gk _,?_⟩;subst e;rw[take_snoc (bf hi),bN,bN];rfl
 rintro o1 H1 _ ha ⟨g1,e⟩;rw[cL]at e;subst e;have U8:=hR.length;refine⟨_,Z,l,Z,⟨us,g1.seq hl⟩,?_⟩;refine kG (K:=K) (xs:=us) (λi σ H'=>aK H H'/\H' l0=some (.lst ((dg b (rs.take i)).map V.int))/\∃s3 s4,σ=[some (.ref B.m),some (.ref l),some (.ref l0),s3,s4]) ⟨g1,ha,_,_,Z⟩ (λi σ H' _ hp=>hp.1.seq hl) ?_ ?_
 .rintro i x σ H2 hx ⟨g2,ha2,s3,s4,rfl⟩;obtain⟨a,r,rfl,er,har⟩:=hR.get hx;obtain⟨r1,j,p,hp,e,le⟩:=rb.row r (bg er);have hj:=(dM.mp hp).1;have hn:r.1∉(rs.take i).map (λr:Row=>r.1):=by rw[BW];exact kP rb.nd (by rw[bV,er];rfl)
  obtain⟨s1,s2⟩:=EU wf.nd hp e hn;have h2:=h.mono g2;refine⟨a,_,Z,dU.of (g2 _ _ har),Z,_,_,Z,_,_,Z,Z,?_⟩;refine⟨_,Z,_,Z,_,Z,B.m,_,Z,cg.k (k:=Sum.inr "parts") h2.om,_,Z,⟨⟨B.lp,_,mO b,j,(p.nm,p.wo),by rw[<-e];rfl,aB.of h2.op,h2.nw,?_,by unfold mO;rw[aE];exact pl,by unfold mO;rw[bV,hp];rfl,?_⟩⟩⟩
  .unfold mO;rw[dJ];exact wf.nd
  .refine ⟨l0,_,_,j,Z,Z,ha2,by rw[aE,Bh];exact lY hj,g2.cI gk _,?_,_,_,Z⟩;rw[aq,take_snoc er,s1,kL]
 rintro σ H2 ⟨g2,ha2,s3,s4,rfl⟩;rw[U8,cL]at ha2;refine⟨_,Z,_,Z,⟨⟨n,ρ,B,b,l0,dg b rs,0,0,Z,G.same g2,h.mono g2,wf,aB.of ha2,G.none gk,bo,λρ' B' H' a1 a2 a3 a4=>q ρ' B' H' a1 a2 a3 ((Fr.of_same g2).trans a4)⟩⟩⟩
abbrev oM:Stmt:=top 43
abbrev lO:Da Str:=["_law_model_here","_law_deed_here"]
abbrev DP:Da Str:=lO.append ["_law_at_here","_law_part","_law_old","_law_new","_law_moved"]
def iz:aQ DP lO (aD oM):=dm
theorem CD(F:At K mg "_law_model_one" oM f fd)(uz:Dn P w K mg base 1 "_law_at" uy (E2 K))(dQ:Dn P w K mg base 1 "_law_seat" jq (yN K))(jb:mg "list"=none):Dn P w K mg base 4 "_law_model_one" lO (ur AlO K):=by
 refine F.oA iz λ_ _ _ _ H _ Q E hr h=>?_;obtain⟨⟨n,c,ρ,B,b,st,z,d,rfl,hz,G,hb,gd,hc,wf,al,db,hr0,q⟩⟩:=h;refine⟨_,(@cZ.h _ _ _ (aj (aS (i:=2) iz.nd (bh uz hr (af (bD (bU hr) (qv 0) aO) (af (aF (a_ K) (qv 1) ai) ak))))
  (aj (aS (i:=3) iz.nd (aF (aM K) (bD (bU hr) (qv 0) aO) (qv 2)))
  (aj (gh (aR dG (aF (a_ K) (qv 1) ai) aO (aZ _)) (au (i_ (aG j0 (aF (aM K) (qv 3) ai) (aF (a_ K) (qv 1) ai)) (ja (qv 3) ai set_list))) (au (gh (aR dG (aF (a_ K) (qv 1) ai) aO (aZ _)) (au (i_ (aG b_ (aF (aM K) (qv 3) ai) (aF (a_ K) (qv 1) ai)) (ja (qv 3) ai set_list))) (au (gh (aR dG (aF (a_ K) (qv 1) ai) aO (aZ _)) (aj (aS (i:=4) iz.nd (bh dQ hr (af (bD (bU hr) (qv 0) aO) (af (aF (aM K) (qv 3) ai) ak))))
  (aj (aS (i:=5) iz.nd (bh dQ hr (af (bD (bU hr) (qv 0) aO) (af (aF (a_ K) (qv 1) ai) ak))))
  (aj (aS (i:=6) iz.nd (aF (aM K) (aF (aM K) (qv 3) ai) (qv 4)))
  (aj (i_ ai (ja (aF (aM K) (qv 3) ai) (qv 4) set_list))
  (aj (i_ (aG b_ (aF (aM K) (aF (aM K) (qv 3) ai) (qv 5)) (qv 6)) (ja (aF (aM K) (qv 3) ai) (qv 5) set_list))
  (au (i_ (aF (a_ K) (qv 1) ai) (ja (qv 3) ai set_list)))))))) (au (gh (aR dG (aF (a_ K) (qv 1) ai) aO (aZ _)) (aj (i_ (aG j0 (aF (aM K) (qv 3) ai) (aF (a_ K) (qv 1) ai)) (ja (qv 3) ai set_list))
  (aj (i_ (aG j0 (aF (aM K) (qv 3) ai) (aF (a_ K) (qv 1) ai)) (ja (qv 3) ai set_list))
  (aj (bQ (kh mY mW mX d8 (bD (bU hr) (qv 0) aO) (af (iB (af (aF (a_ K) (qv 1) ai) (af (aF (aM K) (qv 3) ai) (af (aF (a_ K) (qv 1) ai) (af (aF (a_ K) (qv 1) ai) (af (nC (lR K) (by rfl) jb Gj (af (aF (aM K) (qv 3) ai) ak)) ak)))))) ak)))
  (au (bQ (kh mY mW mX d8 (bD (bU hr) (qv 0) aO) (af (aF (a_ K) (qv 1) ai) ak))))))) (au (gh (aR dG (aF (a_ K) (qv 1) ai) aO (aZ _)) (aj (bQ (kh mY mW mX d8 (bD (bU hr) (qv 0) aO) (af (iB (af (aF (aM K) (qv 3) ai) (af (aF (aM K) (qv 3) ai) (af (aF (aM K) (qv 3) ai) (af (nC (lR K) (by rfl) jb Gj (af (aF (aM K) (qv 3) ai) ak)) (af (bD (bU hr) (qv 0) aO) ak)))))) ak)))
  (au (i_ ai (ja (qv 3) ai set_list)))) bM)))))))))
  (au (qw (bU hr) (qv 0) aO (v8 ["_law_one"] [none] rfl (dH K (bD (bU hr) (qv 0) aO)) (λ_ _ _ _=>(aV (i:=0) (show List.Nodup (["_law_one"] :Da Str)from by decide +kernel))) (λ_ _ _ _=>(qv 0)) (λ_ _ _ _=>(aR iT (aF (aM K) (qv 0) ai) ai (aZ _))) rfl (by rfl)) rfl)))))),?_⟩
 have rl:=gd.rel;have wb:=gd.fh;have dW:dU K H z (Dd.v d):=dU.of hz;obtain⟨x,e1,hm⟩:∃x,lP (Dd.v d) 1=some (.str x)/\x∈fV st:=by
  have a1:=al.one;cases d with
  | mishap x a=>exact⟨x,aC (j:=1) rfl,(pZ (r:=(x,a)) hr0).1⟩
  | rise x a=>exact⟨x,aC (j:=1) rfl,(Bs hr0).1⟩
  | hand x o=>exact⟨x,aC (j:=1) rfl,(uu hr0).1⟩
  | land x=>exact⟨x,aC (j:=1) rfl,qy hr0⟩
  | sever x y a we=>exact⟨x,aC (j:=1) rfl,(lM hr0).1⟩
  | _=>exact a1.elim
 refine⟨_,Z,B.m,_,Z,cg.k (k:=Sum.inr "parts") hb.om,_,Z,z,_,_,_,Z,Z,dW,e1,ZO hb rl wf wb (λi p q' k1 k2 k3 k4 k5 k6 k7 k8 _=>?_) λhn=>absurd hm hn⟩;obtain⟨qq,lU,r1,r2,c1,c2⟩:=hb.find k2;have Q2:lP (B.qs.map λq=>V.ref q.1) (i:Int)=some (.ref qq.1):=aC (by rw[bV,lU];rfl);refine⟨_,Z,B.m,_,Z,cg.k (k:=Sum.inr "parts") hb.om,_,Z,B.lp,_,_,_,Z,Z,aB.of hb.op,Q2,?_⟩;have bl:b.ah.length<50:=by rw[<-gd.rel.len];exact al.pl
 have kl:b.d9.length<900:=by rw[<-gd.d9];exact al.kl
 have Yz:∀y:BP,(b.ah.set i y).length<=1000:=λy=>by rw[fH];omega
 have hi:i<b.ah.length:=(dM.mp k2).1;have hiq:i<B.qs.length:=(dM.mp lU).1;refine⟨λσ' H'=>∃ρ5 B5 bb s4 s5 s6,σ'=[some (.ref B.m),some (.ref z),some (.int (i:Int)),some (.ref qq.1),s4,s5,s6]/\tW b d={ bb with ah:=bb.ah.filter λp=>decide (0<p.wo) }/\bb.ah.length<=1000/\Gh ρ5 H'/\aU n ρ5 B5 H' bb/\B5.m=B.m/\Fr n ρ H ρ5 H',?_,?_⟩
 .cases d with
  | mishap x' a=>cases e1.symm.trans (show lP (Dd.v (.mishap x' a)) 1=some (.str x')from aC (j:=1) rfl);refine sr dW rfl rfl (gc ?_);have W:=hb.UZ G k2 lU wb.nd hz { q' with wo:=q'.wo-a } rfl rfl;exact⟨_,Z,qq.1,_,_,_,Z,Z,aB.of r1,aC (j:=2) rfl,_,Z,z,_,_,_,Z,Z,dW,aC (j:=2) rfl,_,_,Z,Z,_,Z,qq.1,_,_,2,Z,Z,r1,Z,ρ,_,_,_,_,_,Z,KL (F:=λp=>{ p with wo:=p.wo-a }) k2 k4 wb.nd,Yz _,W.g,W.hb,Z,W.f⟩
  | rise x' a=>cases e1.symm.trans (show lP (Dd.v (.rise x' a)) 1=some (.str x')from aC (j:=1) rfl);refine cT dW rfl (by decide) rfl (bq ?_);refine⟨_,?_,λ_ _ y=>y⟩;refine sr dW rfl rfl (gc ?_);have W:=hb.UZ G k2 lU wb.nd hz { q' with wo:=q'.wo+a } rfl rfl;exact⟨_,Z,qq.1,_,_,_,Z,Z,aB.of r1,aC (j:=2) rfl,_,Z,z,_,_,_,Z,Z,dW,aC (j:=2) rfl,_,_,Z,Z,_,Z,qq.1,_,_,2,Z,Z,r1,Z,ρ,_,_,_,_,_,Z,KL (F:=λp=>{ p with wo:=p.wo+a }) k2 k4 wb.nd,Yz _,W.g,W.hb,Z,W.f⟩
  | hand x' o=>
   cases e1.symm.trans (show lP (Dd.v (.hand x' o)) 1=some (.str x')from aC (j:=1) rfl);refine cT dW rfl (by decide) rfl (bq ?_);refine⟨_,?_,λ_ _ y=>y⟩;refine cT dW rfl (by decide) rfl (bq ?_);refine⟨_,?_,λ_ _ y=>y⟩;obtain⟨_,ho⟩:=uu hr0;have how:q'.ow∈b.own:=by rw[<-rl.own,k5];exact wf.ow p (bg k1)
   have hoo:o∈b.own:=by rw[<-rl.own];exact ho
   have hto:=wb.tl q' (bg k2);have ol:=wb.ol;have h1:b.own.idxOf q'.ow<q'.tops.length:=by rw[hto];exact mV how
   have h2:b.own.idxOf o<q'.tops.length:=by rw[hto];exact mV hoo
   obtain⟨l2,el⟩:∃l2,l2=(q'.tops.set (b.own.idxOf q'.ow) 0).set (b.own.idxOf o) ((q'.tops.set (b.own.idxOf q'.ow) 0).getD (b.own.idxOf o) 0+q'.tops.getD (b.own.idxOf q'.ow) 0):=⟨_,rfl⟩
   have eh:nZ b o q'={ q' with ow:=o,tops:=l2 }:=by unfold nZ;rw[el]
   refine sr dW rfl rfl (gc ?_);refine⟨_,Z,B.m,_,Z,cg.k (k:=Sum.inr "owners") hb.om,_,Z,qq.1,_,_,_,Z,Z,aB.of r1,aC (j:=1) rfl,⟨⟨B.lo,b.own,q'.ow,Z,aB.of hb.oo,how,by omega,?_⟩⟩⟩;refine⟨_,Z,B.m,_,Z,cg.k (k:=Sum.inr "owners") hb.om,_,Z,z,_,_,_,Z,Z,dW,aC (j:=2) rfl,⟨⟨B.lo,b.own,o,Z,aB.of hb.oo,hoo,by omega,?_⟩⟩⟩;generalize b.own.idxOf q'.ow=j1 at *;generalize b.own.idxOf o=j2 at *;refine⟨_,Z,qq.1,_,_,_,Z,Z,aB.of r1,aC (j:=4) rfl,_,Z,qq.2,_,_,_,Z,Z,aB.of r2,getD_at h1,_,Z,qq.1,_,_,_,Z,Z,aB.of r1,aC (j:=4) rfl,_,Z,qq.2,_,_,j1,Z,Z,r2,by rw[aE];exact lY h1,?_⟩;rw[show(q'.tops.map V.int).set j1 (.int 0)=(q'.tops.set j1 0).map V.int from kL.symm];have W1:=hb.wrT G k2 lU wb.nd hz (q'.tops.set j1 0);generalize upd H qq.2 (.lst ((q'.tops.set j1 0).map V.int))=H1 at *;have h2':j2<(q'.tops.set j1 0).length:=by rw[fH];exact h2
   refine⟨_,Z,qq.1,_,_,_,Z,Z,aB.of W1.r1,aC (j:=4) rfl,_,Z,qq.2,_,_,_,Z,Z,aB.of W1.r2,getD_at h2',_,Z,_,_,Z,Z,_,Z,qq.1,_,_,_,Z,Z,aB.of W1.r1,aC (j:=4) rfl,_,Z,qq.2,_,_,j2,Z,Z,W1.r2,by rw[aE];exact lY h2',?_⟩;rw[show((q'.tops.set j1 0).map V.int).set j2 (.int ((q'.tops.set j1 0).getD j2 0+q'.tops.getD j1 0))=l2.map V.int from by rw[el];exact kL.symm];have W2:=W1.hb.wrT W1.g W1.ep lU W1.nd W1.hz l2;generalize upd H1 qq.2 (.lst (l2.map V.int))=H2 at *;have W3:=W2.hb.UZ W2.g W2.ep lU W2.nd W2.hz { q' with ow:=o,tops:=l2 } rfl rfl;refine⟨_,Z,z,_,_,_,Z,Z,dU.of W2.hz,aC (j:=2) rfl,_,Z,qq.1,_,_,1,Z,Z,W2.r1,Z,ρ,_,_,_,_,_,Z,?_,?_,W3.g,W3.hb,Z,(W1.f.trans W2.f).trans W3.f⟩
   .show rm b x (nZ b o)=_;rw[KL k2 k4 wb.nd,eh];simp only[qH]
   .simp only[fH];omega
  | sever x' y a we=>
   cases e1.symm.trans (show lP (Dd.v (.sever x' y a we)) 1=some (.str x')from aC (j:=1) rfl);refine cT dW rfl (by decide) rfl (bq ?_);refine⟨_,?_,λ_ _ y=>y⟩;refine cT dW rfl (by decide) rfl (bq ?_);refine⟨_,?_,λ_ _ y=>y⟩;refine cT dW rfl (by decide) rfl (bq ?_);refine⟨_,?_,λ_ _ y=>y⟩;obtain⟨_,⟨_,hy⟩,s4,s5,s6,s7⟩:=lM hr0;have eb:pW b x=q':=by unfold pW;rw[<-k4,qx wb.nd k2];rfl
   refine sr dW rfl rfl (gc ?_);have W1:=hb.UZ G k2 lU wb.nd hz { q' with wo:=q'.wo-a } rfl rfl;refine⟨_,Z,qq.1,_,_,_,Z,Z,aB.of r1,aC (j:=2) rfl,_,Z,z,_,_,_,Z,Z,dW,aC (j:=3) rfl,_,_,Z,Z,_,Z,qq.1,_,_,2,Z,Z,r1,Z,?_⟩;show vH _ _ _ _ (upd H qq.1 (jn { q' with wo:=q'.wo-a } qq.2));generalize upd H qq.1 (jn { q' with wo:=q'.wo-a } qq.2)=H1 at *;have W2:=W1.hb.UZ W1.g W1.ep W1.eq W1.nd W1.hz { q' with wo:=q'.wo-a,we:=q'.we-we } rfl rfl;refine⟨_,Z,qq.1,_,_,_,Z,Z,aB.of W1.r1,aC (j:=3) rfl,_,Z,z,_,_,_,Z,Z,dU.of W1.hz,aC (j:=4) rfl,_,_,Z,Z,_,Z,qq.1,_,_,3,Z,Z,W1.r1,Z,?_⟩;show vH _ _ _ _ (upd H1 qq.1 (jn { q' with wo:=q'.wo-a,we:=q'.we-we } qq.2));generalize upd H1 qq.1 (jn { q' with wo:=q'.wo-a,we:=q'.we-we } qq.2)=H2 at *;obtain⟨B2,bs,h2,BL,ebs⟩:∃B2 bs,aU n ρ B2 H2 { b with ah:=bs }/\B2.m=B.m/\bs=b.ah.set i { q' with wo:=q'.wo-a,we:=q'.we-we }:=⟨_,_,W2.hb,rfl,by simp only[qH]⟩
   have l2:bs.length=b.ah.length:=by rw[ebs,fH]
   have G2:=W2.g;have F2:=W1.f.trans W2.f;have hn2:=λc h=>W1.nn c (W2.nn c h);have r21:=W2.r1;have r22:H2 qq.2=some (.lst (q'.tops.map V.int)):=W2.r2;have Xr:dU K H2 z (Dd.v (.sever x y a we)):=dU.of W2.hz;have hz2:=W2.hz;clear W1 W2;have om2:H2 B.m=some (.dK (fB B2 b.bot)):=by rw[<-BL];exact h2.om
   refine⟨_,Z,B.m,_,Z,cg.k (k:=Sum.inr "parts") om2,.inl ⟨Z,_,aB.of h2.op⟩,_,Z,z,_,_,_,Z,Z,Xr,aC (j:=2) rfl,_,Z,qq.1,_,_,_,Z,Z,aB.of r21,aC (j:=1) rfl,_,Z,z,_,_,_,Z,Z,Xr,aC (j:=3) rfl,_,Z,z,_,_,_,Z,Z,Xr,aC (j:=4) rfl,_,Z,qq.1,_,_,_,Z,Z,aB.of r21,aC (j:=4) rfl,qq.2,_,Z,.inl (aB.of r22),λl0 gk=>?_⟩;have g3:=aH gk (.lst (q'.tops.map V.int));have ha2:upd H2 l0 (.lst (q'.tops.map V.int)) l0=some (.lst (q'.tops.map V.int)):=aq;show qL _ (upd H2 l0 (.lst (q'.tops.map V.int))) _;generalize upd H2 l0 (.lst (q'.tops.map V.int))=H3 at *;refine⟨(iO 5),λp hp=>?_⟩;have g4:=aH hp (jn ⟨y,q'.ow,a,we,q'.tops⟩ l0);have hp3:upd H3 p (jn ⟨y,q'.ow,a,we,q'.tops⟩ l0) p=some (jn ⟨y,q'.ow,a,we,q'.tops⟩ l0):=aq;show qL _ (upd H3 p (jn ⟨y,q'.ow,a,we,q'.tops⟩ l0)) _;generalize upd H3 p (jn ⟨y,q'.ow,a,we,q'.tops⟩ l0)=H4 at *;have v7:H2 p=none:=g3.free hp;have Ax:=g3.trans g4;have np:p≠l0:=λe=>by rw[e,ha2]at hp;cases hp
   have cp:bY ρ l0 (n,24,y) p=none:=by rw[b8 np];exact G2.none v7
   have h3:=((h2.mono Ax).col (t:=24) (x:=y) (G2.none gk)).col (t:=23) (x:=y) cp;have G3:Gh (bY (bY ρ l0 (n,24,y)) p (n,23,y)) H4:=((G2.same Ax).color (g4 _ _ ha2) rfl).color hp3 rfl;have F3:=((F2.trans (Fr.of_same Ax)).jI (t:=24) (x:=y) (hn2 _ gk)).jI (t:=23) (x:=y) (hn2 _ v7);have cc2:bY (bY ρ l0 (n,24,y)) p (n,23,y) l0=some (n,24,y):=by rw[b8 (cJ np),cX]
   refine⟨B2.lp,_,_,Z,Z,h3.op,by rw[aE,h3.ql];exact c8 (by show bs.length<=_;omega),?_⟩;rw[show B2.qs.map (λq=>V.ref q.1)++[V.ref p]=(B2.qs++[(p,l0)]).map (λq=>V.ref q.1)from by rw[bN];rfl];have h4:=h3.Ur G3 (p:=⟨y,q'.ow,a,we,q'.tops⟩) (q:=(p,l0)) hp3 (g4 _ _ ha2) cX cc2;have G4:=G3.wr (a:=B2.lp) (o:=.lst ((B2.qs++[(p,l0)]).map λq=>V.ref q.1)) rfl;have F4:=F3.trans (Fr.write (o:=.lst ((B2.qs++[(p,l0)]).map λq=>V.ref q.1)) h3.cp);have hz4:H4 z=some (.tup (Dd.v (.sever x y a we))):=Ax _ _ hz2;have Jk:upd H4 B2.lp (.lst ((B2.qs++[(p,l0)]).map λq=>V.ref q.1)) z=some (.tup (Dd.v (.sever x y a we))):=by rw[az (λe=>by rw[e,h3.op]at hz4;cases hz4)];exact hz4
   generalize upd H4 B2.lp (.lst ((B2.qs++[(p,l0)]).map λq=>V.ref q.1))=H5 at *;have om5:H5 B.m=some (.dK (fB { B2 with qs:=B2.qs++[(p,l0)] } b.bot)):=by rw[<-BL];exact h4.om
   refine⟨_,Z,B.m,_,Z,cg.k (k:=Sum.inr "known") om5,.inl ⟨Z,_,aB.of h4.ok⟩,_,Z,z,_,_,_,Z,Z,dU.of Jk,aC (j:=2) rfl,B2.lk,_,_,Z,Z,h4.ok,by rw[aE];exact c8 (by show b.d9.length<=_;omega),?_⟩;rw[show b.d9.map V.str++[V.str y]=(b.d9++[y]).map V.str from by rw[bN];rfl];refine⟨_,_,_,_,_,_,Z,?_,?_,G4.wr rfl,h4.Qw G4 (b.d9++[y]),BL,F4.trans (Fr.write h4.ck)⟩
   .show Bq b x y a we=_;unfold Bq;rw[eb,ebs,<-k4,vv (nm:=λp:BP=>p.nm) (f:=λp:BP=>{ p with wo:=p.wo-a,we:=p.we-we }) wb.nd k2]
   .show (bs++[_]).length<=1000;rw[cW];show bs.length+1<=1000;omega
  | land x'=>
   cases e1.symm.trans (show lP (Dd.v (.land x')) 1=some (.str x')from aC (j:=1) rfl);refine cT dW rfl (by decide) rfl (bq ?_);refine⟨_,?_,λ_ _ y=>y⟩;refine cT dW rfl (by decide) rfl (bq ?_);refine⟨_,?_,λ_ _ y=>y⟩;refine cT dW rfl (by decide) rfl (bq ?_);refine⟨_,?_,λ_ _ y=>y⟩;refine cT dW rfl (by decide) rfl (bq ?_);refine⟨_,?_,λ_ _ y=>y⟩;refine sr dW rfl rfl (gc ?_);have eb:pW b x=q':=by unfold pW;rw[<-k4,qx wb.nd k2];rfl
   obtain⟨vs,hv,hA⟩:=hb.oa;refine⟨_,Z,B.m,_,Z,cg.k (k:=Sum.inr "ashore") hb.om,.inl ⟨Z,_,aB.of hv⟩,_,Z,qq.1,_,_,_,Z,Z,aB.of r1,aC (j:=0) rfl,_,Z,qq.1,_,_,_,Z,Z,aB.of r1,aC (j:=1) rfl,_,Z,qq.1,_,_,_,Z,Z,aB.of r1,aC (j:=2) rfl,_,Z,qq.1,_,_,_,Z,Z,aB.of r1,aC (j:=4) rfl,qq.2,_,Z,.inl (aB.of r2),λl0 gk=>?_⟩;have g3:=aH gk (.lst (q'.tops.map V.int));have ha2:upd H l0 (.lst (q'.tops.map V.int)) l0=some (.lst (q'.tops.map V.int)):=aq;show RI (RM (De 0) (tC (.str "bottom"))) qL _ (upd H l0 (.lst (q'.tops.map V.int))) _;generalize upd H l0 (.lst (q'.tops.map V.int))=H3 at *;refine⟨_,Z,B.m,_,Z,cg.k (k:=Sum.inr "bottom") (g3 _ _ hb.om),(iO 5),λp hp=>?_⟩;have g4:=aH hp (.lst [.str q'.nm,.str q'.ow,.int q'.wo,.ref l0,.int b.bot]);have hp3:upd H3 p (.lst [.str q'.nm,.str q'.ow,.int q'.wo,.ref l0,.int b.bot]) p=some (.lst [.str q'.nm,.str q'.ow,.int q'.wo,.ref l0,.int b.bot]):=aq;show qL _ (upd H3 p (.lst [.str q'.nm,.str q'.ow,.int q'.wo,.ref l0,.int b.bot])) _;generalize upd H3 p (.lst [.str q'.nm,.str q'.ow,.int q'.wo,.ref l0,.int b.bot])=H4 at *;have v7:H p=none:=g3.free hp;have Ax:=g3.trans g4;have cl0:ρ l0=none:=G.none gk;have np:p≠l0:=λe=>by rw[e,ha2]at hp;cases hp
   have cp:bY ρ l0 (n,28,q'.nm) p=none:=by rw[b8 np];exact G.none v7
   have h3:aU n (bY (bY ρ l0 (n,28,q'.nm)) p (n,27,q'.nm)) B H4 b:=((hb.mono Ax).col cl0).col cp;have G3:Gh (bY (bY ρ l0 (n,28,q'.nm)) p (n,27,q'.nm)) H4:=((G.same Ax).color (g4 _ _ ha2) rfl).color hp3 rfl;have F3:Fr n ρ H (bY (bY ρ l0 (n,28,q'.nm)) p (n,27,q'.nm)) H4:=((Fr.of_same Ax).jI gk).jI v7;have cc1:bY (bY ρ l0 (n,28,q'.nm)) p (n,27,q'.nm) p=some (n,27,q'.nm):=cX;have cc2:bY (bY ρ l0 (n,28,q'.nm)) p (n,27,q'.nm) l0=some (n,28,q'.nm):=by rw[b8 (cJ np),cX]
   obtain⟨YA,Yo,hA4⟩:=h3.oa;have al9:YA.length<900:=by rw[hA4.length,<-gd.bB.length];exact al.al
   refine⟨B.la,_,_,Z,Z,Yo,c8 (by omega),?_⟩;have h4:=h3.Z6 G3 Yo hA4 (e:=⟨q'.nm,q'.ow,q'.wo,q'.tops,b.bot⟩) hp3 cc1 (g4 _ _ ha2) cc2;have G4:=G3.wr (a:=B.la) (o:=.lst (YA++[.ref p])) rfl;have F4:=F3.trans (Fr.write (o:=.lst (YA++[.ref p])) h3.ca);obtain⟨r41,r42,c41,c42⟩:=h4.pt i q' qq k2 lU;generalize upd H4 B.la (.lst (YA++[.ref p]))=H5 at *;refine⟨_,Z,qq.1,_,_,2,Z,Z,r41,Z,?_⟩;have h5:=h4.lT (i:=i) (p1:={ q' with wo:=0 }) (t1:=qq.2) G4 k2 lU rfl wb.nd r42 c42;exact⟨_,_,_,_,_,_,Z,(by show x9 b x=_;unfold x9;rw[eb,KL (F:=λp=>{ p with wo:=0 }) k2 k4 wb.nd,k4]),Yz _,G4.wr rfl,h5,Z,F4.trans (Fr.write c41)⟩
  | _=>exact al.one.elim
 rintro σ H5 ⟨ρ5,B5,bb,s4,s5,s6,rfl,ebq,Yz,G5,h5,xj,F5⟩;rw[ebq]at q;have Fz:B5.qs.length=bb.ah.length:=h5.ql;have Vo:(B5.qs.map λq=>V.ref q.1).length=bb.ah.length:=by rw[aE];exact Fz
 have Ay:H5 B5.lp=some (.lst (B5.qs.map λq=>V.ref q.1)):=h5.op;have om6:H5 B.m=some (.dK (fB B5 bb.bot)):=by rw[<-xj];exact h5.om
 refine⟨_,Z,B.m,_,Z,cg.k (k:=Sum.inr "parts") om6,B5.lp,Z,⟨_,aB.of Ay⟩,λlp vf=>?_⟩;refine GF (J:=vc K B5.lp) (n:=bb.ah.length) 0 (λi o H'=>aK H5 H'/\o=(j9 (bb.ah.take i) (B5.qs.take i)).map λq=>V.ref q.1) (by omega) ⟨aH vf _,Z⟩ (λi o H' hi _ hp=>⟨_,_,aB.of (hp.1 _ _ Ay),bf (by rw[Vo];exact hi)⟩) (λo H' _ hp=>⟨_,aB.of (hp.1 _ _ Ay),by rw[Vo];exact aL _⟩) ?_ ?_
 .rintro i y o H7 H8 hi fD ha ⟨g,e⟩ ⟨rfl,hy⟩;have ei:=bf hi;obtain⟨qq,eq,k1,k2,_,_⟩:=h5.find ei;have ey:=hy _ (aB.of (g _ _ Ay));rw[bV,eq]at ey;cases ey;have es:=zZ ei eq;refine⟨_,Z,qq.1,_,_,_,Z,Z,aB.of (g _ _ k1),aC (j:=2) rfl,_,_,Z,Z,_,Z,c6 (λc=>?_) (λc=>?_)⟩
  .rw [ay (dN c)]at es;refine⟨_,Z,ha,g.cI vf _,?_⟩;rw[es,e,bN];rfl
  .rw [av (qB (pN.mpr c))]at es;exact⟨ha,g,by rw[es,e,qF]⟩
 rintro o H7 _ ha ⟨g7,e⟩;rw[cL,<-Fz,cL]at e;subst e;have h7:=h5.mono g7;have G7:=G5.same g7;have clp:ρ5 lp=none:=G5.none vf;have h8:=h7.col (t:=22) (x:=⟨#[]⟩) clp;have G8:Gh (bY ρ5 lp (n,22,⟨#[]⟩)) H7:=G7.color ha rfl;have F8:Fr n ρ H (bY ρ5 lp (n,22,⟨#[]⟩)) H7:=F5.trans (Fr.color vf g7);have h9:=h8.Uq G8 (lp:=lp) (qs:=j9 bb.ah B5.qs) (ps:=bb.ah.filter λp=>decide (0<p.wo)) ha cX (Bg Fz) (λi x y ex ey=>by obtain⟨j,a1,a2⟩:=zY ex ey Fz;exact h8.pt j x y a1 a2)
 have cm8:=h8.cm;rw[xj]at h9 cm8;refine⟨_,Z,B.m,_,Z,uJ.k (k:=Sum.inr "parts") (by rw[<-xj];exact h7.om) (by show 5<sizeLine;decide),?_⟩;rw[Ma];exact q _ _ _ (G8.wr rfl) h9 rfl (F8.trans (Fr.write cm8))
abbrev qe:Stmt:=top 44
abbrev ku:Da Str:=["_law_model_here","_law_deed_here"]
abbrev FD:Da Str:=ku.append ["_law_nought"]
def xm:aQ FD ku (aD qe):=dm
theorem DQ(F:At K mg "_law_model_do" qe f fd)(qf:Dn P w K mg base 4 "_law_model_one" lO (ur AlO K))(i6:Dn P w K mg base 2 "_law_new_part" ko Be)(iA:Dn P w K mg base 2 "_law_model_cast" jc (GO K))(mq:Dn P w K mg base 1 "_law_bear" o8 (L8 K))(dQ:Dn P w K mg base 1 "_law_seat" jq (yN K))(bO:mg "len"=none)(cu:mg "range"=none):Dn P w K mg base 5 "_law_model_do" ku (ur AlL K):=by
 refine F.oA xm λ_ _ _ _ H _ Q E hr h=>?_;obtain⟨⟨n,c,ρ,B,b,st,z,d,rfl,hz,G,hb,gd,hc,wf,al,db,hr0,q⟩⟩:=h;refine⟨_,(@cZ.h _ _ _ (aj (c5 (aR dG (aF (a_ K) (qv 1) ai) aO (aZ _)) (au QA) bM)
  (au (c5 (aR dG (aF (a_ K) (qv 1) ai) aO (aZ _)) (au (bQ (bh i6 hr (af (qv 0) (af (aF (a_ K) (qv 1) ai) (af (aF (a_ K) (qv 1) ai) (af (aF (a_ K) (qv 1) ai) (af (aF (a_ K) (qv 1) ai) ak)))))))) (au (c5 (aR dG (aF (a_ K) (qv 1) ai) aO (aZ _)) (au (bQ (bh iA hr (af (qv 0) (af (iE ["_law_k","_law_deed_here"] [none,some 1] rfl (IP (by rfl) cu (af ai (af (aY (cC K) (by rfl) bO d7 (af (qv 1) ak)) (af ai ak)))) (λ_ _ _ _=>(aV (i:=0) (show List.Nodup (["_law_k","_law_deed_here"] :Da Str)from by decide +kernel))) (λ_ _ _ _=>(iN (af (aF (a_ K) (qv 1) (qv 0)) (af (aF (a_ K) (qv 1) (aG b_ (qv 0) ai)) ak)))) rfl (by rfl)) ak))))) (au (c5 (aR dG (aF (a_ K) (qv 1) ai) aO (aZ _)) (aj (qt (i:=2) ["_law_part"] [none] xm.nd rfl rfl rfl (dH K (bD (bU hr) (qv 0) aO)) (λ_ _ _ _=>(aV (i:=0) (show List.Nodup (["_law_part"] :Da Str)from by decide +kernel))) (λ_ _ _ _=>ai) rfl (by rfl) (by rfl))
  (au (bQ (bh mq hr (af (qv 0) (af (qv 2) (af (bh dQ hr (af (bD (bU hr) (qv 0) aO) (af (aF (a_ K) (qv 1) ai) ak))) (af (aF (a_ K) (qv 1) ai) ak)))))))) (au (bQ (bh qf hr (af (qv 0) (af (qv 1) ak))))))))))))),?_⟩
 have wb:=gd.fh;have dW:dU K H z (Dd.v d):=dU.of hz;have one:acG d->∀{Q':VK}{E':XK},(∀H',Q .cy H'->Q' .cy H')->Ml AlO K [.ref B.m,.ref z] H Q' E':=λh1 Q' E' kk=>⟨n,c,ρ,B,b,st,z,d,Z,hz,G,hb,gd,hc,wf,⟨h1,al.pl,al.kl,al.al⟩,db,hr0,λρ' B' H' a1 a2 a3 a4=>kk H' (q ρ' B' H' a1 a2 a3 a4)⟩
 cases d with
 | sign o=>exact absurd rfl al.nk
 | still=>refine sr dW rfl rfl (gc ?_);exact q ρ B H G hb rfl (Fr.refl)
 | load x o wo we=>refine cT dW rfl (by decide) rfl (bq ?_);refine sr dW rfl rfl (gc ?_);obtain⟨l1,l2,l3,l4,l5⟩:=uo hr0;rw[gd.rel.own]at l3;exact⟨_,Z,_,Z,z,_,_,_,Z,Z,dW,aC (j:=1) rfl,_,Z,z,_,_,_,Z,Z,dW,aC (j:=2) rfl,_,Z,z,_,_,_,Z,Z,dW,aC (j:=3) rfl,_,Z,z,_,_,_,Z,Z,dW,aC (j:=4) rfl,⟨⟨n,ρ,B,b,x,o,wo,we,Z,G,hb,l3,by have:=wb.ol;omega,wb.pl,wb.kl,q⟩⟩⟩
 | cast rs=>
  refine cT dW rfl (by decide) rfl (bq ?_);refine cT dW rfl (by decide) rfl (bq ?_);refine sr dW rfl rfl (gc ?_);obtain⟨c',gg,hc'⟩:=al.go;have ok:=gg.yT wf (by omega) hr0;have hrl:rs.length<=1000:=ok.len;obtain⟨rb,bo⟩:=Xe gd wf hc hr0;refine⟨_,Z,_,Z,z,_,Z,.inr dW,_,_,_,Z,⟨by decide,by decide,by omega,by rw[Aa];omega,by decide,by decide⟩,?_⟩;rw[Aa,UR];intro Ap Bi;refine iL (J:=RS 1 2 rs.length) (n:=rs.length) 0 (λi out H1=>aK H H1/\gC H1 out (rs.take i)) (by omega) ⟨aH Bi _,.nil⟩ (λi o H' hi _ _=>hi) (λo H' _ _=>aL _) ?_ ?_
  .rintro i x out H1 H2 hi fD ha ⟨g,R⟩ ⟨rfl,rfl⟩;have ei:=bf hi;generalize rs[i]=r at *;obtain⟨c1,c2⟩:=QM ei;have e1:(1:Int)+(i:Int)*2=((1+2*i:Nat):Int):=by omega
   have e2:((1+2*i:Nat):Int)+1=((2+2*i:Nat):Int):=by omega
   rw[e1];refine⟨_,Z,_,Z,z,_,_,_,Z,Z,g.tup dW,aC c1,_,Z,_,Z,_,_,Z,Z,z,_,_,_,Z,Z,g.tup dW,by rw[e2];exact aC c2,(iO 2),λp hp=>?_⟩;have g6:=aH hp (ym r);refine⟨g6 _ _ ha,(g.trans g6).cI Bi _,?_⟩;rw[take_snoc ei];exact((R.mono g6.tups).snoc aq).mono (sP (.inr ⟨_,g6 _ _ ha,Z⟩))
  rintro out H1 fD ha ⟨g,R⟩;rw[cL]at R;exact⟨⟨n,ρ,B,b,Ap,out,rs,Z,G.same g,hb.mono g,wb,aB.of ha,R,G.none Bi,rb,hrl,bo,λρ' B' H' a1 a2 a3 a4=>q ρ' B' H' a1 a2 a3 ((Fr.of_same g).trans a4)⟩⟩
 | award o a=>
  refine cT dW rfl (by decide) rfl (bq ?_);refine cT dW rfl (by decide) rfl (bq ?_);refine cT dW rfl (by decide) rfl (bq ?_);refine sr dW rfl rfl (gc ?_);obtain⟨ho,h1,h2⟩:=rA hr0;obtain⟨c',gg,hc'⟩:=al.go;have ha:GS st:=gg.aw wf (by omega);have pl:=wb.pl;have ew:=gd.rel.whole;have eo:=gd.rel.own;rw[eo]at ho;have hi:b.own.idxOf o<b.own.length:=KQ.mpr ho;have xh:(B.qs.map λq=>V.ref q.1).length=b.ah.length:=by rw[aE];exact hb.ql
  refine⟨_,Z,B.m,_,Z,cg.k (k:=Sum.inr "parts") hb.om,B.lp,Z,⟨_,aB.of hb.op⟩,λl0 gk=>?_⟩;refine iL (J:=vc K B.lp) (n:=b.ah.length) 0 (λi o H'=>aK H H'/\o=(List.replicate i (0:Int)).map V.int) (by omega) ⟨aH gk _,Z⟩ (λi o H' hi _ hp=>⟨_,_,aB.of (hp.1 _ _ hb.op),bf (by rw[xh];exact hi)⟩) (λo H' _ hp=>⟨_,aB.of (hp.1 _ _ hb.op),by rw[xh];exact aL _⟩) ?_ ?_
  .rintro i y o H2 H3 hi fD ha ⟨g,e⟩ ⟨rfl,hy⟩;refine⟨ha,g.cI gk _,?_⟩;subst e;rw[List.replicate_succ',bN];rfl
  rintro o1 H1 _ ha1 ⟨g1,e⟩;subst e;have hb1:=hb.mono g1;have hz1:dU K H1 z (Dd.v (.award o a)):=dU.of (g1 _ _ hz);have bo:kQ b (List.replicate b.ah.length 0) (b.own.idxOf o) a:=⟨jd,λx hx=>by rw[KP hx];exact eO _,hi,by omega,by rw[sV];omega,by rw[<-ew];exact ha.big⟩
  exact⟨_,Z,_,Z,_,Z,B.m,_,Z,cg.k (k:=Sum.inr "owners") hb1.om,_,Z,z,_,_,_,Z,Z,hz1,aC (j:=1) rfl,⟨⟨B.lo,b.own,o,Z,aB.of hb1.oo,ho,by have:=wb.ol;omega,_,Z,z,_,_,_,Z,Z,hz1,aC (j:=2) rfl,⟨⟨n,ρ,B,b,l0,List.replicate b.ah.length 0,b.own.idxOf o,a,Z,G.same g1,hb1,wb,aB.of ha1,G.none gk,bo,λρ' B' H' a1 a2 a3 a4=>q ρ' B' H' a1 a2 a3 ((Fr.of_same g1).trans a4)⟩⟩⟩⟩⟩
 | mishap x a=>refine cT dW rfl (by decide) rfl (bq ?_);refine cT dW rfl (by decide) rfl (bq ?_);refine cT dW rfl (by decide) rfl (bq ?_);refine cT dW rfl (by decide) rfl (bq ?_);exact⟨_,Z,_,Z,⟨one True.intro λ_ y=>y⟩⟩
 | rise x a=>refine cT dW rfl (by decide) rfl (bq ?_);refine cT dW rfl (by decide) rfl (bq ?_);refine cT dW rfl (by decide) rfl (bq ?_);refine cT dW rfl (by decide) rfl (bq ?_);exact⟨_,Z,_,Z,⟨one True.intro λ_ y=>y⟩⟩
 | hand x o=>refine cT dW rfl (by decide) rfl (bq ?_);refine cT dW rfl (by decide) rfl (bq ?_);refine cT dW rfl (by decide) rfl (bq ?_);refine cT dW rfl (by decide) rfl (bq ?_);exact⟨_,Z,_,Z,⟨one True.intro λ_ y=>y⟩⟩
 | land x=>refine cT dW rfl (by decide) rfl (bq ?_);refine cT dW rfl (by decide) rfl (bq ?_);refine cT dW rfl (by decide) rfl (bq ?_);refine cT dW rfl (by decide) rfl (bq ?_);exact⟨_,Z,_,Z,⟨one True.intro λ_ y=>y⟩⟩
 | sever x y a we=>refine cT dW rfl (by decide) rfl (bq ?_);refine cT dW rfl (by decide) rfl (bq ?_);refine cT dW rfl (by decide) rfl (bq ?_);refine cT dW rfl (by decide) rfl (bq ?_);exact⟨_,Z,_,Z,⟨one True.intro λ_ y=>y⟩⟩
abbrev rV:Stmt:=top 42
abbrev kZ:Da Str:=["_law_hold","_law_deed_here"]
abbrev Hv:Da Str:=kZ
def FE:aQ Hv kZ (aD rV):=dm
theorem FF{T:TC}{e:Ec}(F:At K mg "_law_hold_do" rV f fd)(iI:Mn P w K mg base 3 T.hold "sign" l9 (Ci T))(mw:Mn P w K mg base 4 T.hold "load" oX (LQ T))(mz:Mn P w K mg base 4 T.hold "cast" oY (L0 T K))(Ny:Mn P w K mg base 4 T.hold "award" rJ (sN (Mp T e)))(JS:Mn P w K mg base 3 T.hold "mishap" pJ (sN (IS T e)))(OV:Mn P w K mg base 2 T.hold "rise" tX (sN (QC T e)))(OW:Mn P w K mg base 2 T.hold "hand" tY (sN (QE T e)))(OX:Mn P w K mg base 5 T.hold "land" tZ (sN (QG T e)))(Nz:Mn P w K mg base 4 T.hold "sever" rK (sN (Mt T e)))(bO:mg "len"=none)(cu:mg "range"=none):Dn P w K mg base 6 "_law_hold_do" kZ (DB T K):=by
 refine F.oA FE λ_ _ _ _ H _ Q E hr h=>?_;obtain⟨⟨n,c,ρ,A,st,z,d,rfl,hz,hh,gg,hc,hk,ho,hr0,q⟩⟩:=h;refine⟨_,(@cZ.h _ _ _ (aj (c5 (aR dG (aF (a_ K) (qv 1) ai) aO (aZ _)) (au (bH (bZ iI hr (qv 0) (af (aF (a_ K) (qv 1) ai) ak)))) (au (c5 (aR dG (aF (a_ K) (qv 1) ai) aO (aZ _)) (au (bH (bZ mw hr (qv 0) (af (aF (a_ K) (qv 1) ai) (af (aF (a_ K) (qv 1) ai) (af (aF (a_ K) (qv 1) ai) (af (aF (a_ K) (qv 1) ai) ak))))))) (au (c5 (aR dG (aF (a_ K) (qv 1) ai) aO (aZ _)) (au (bH (bZ mz hr (qv 0) (af (iE ["_law_k","_law_deed_here"] [none,some 1] rfl (IP (by rfl) cu (af ai (af (aY (cC K) (by rfl) bO d7 (af (qv 1) ak)) (af ai ak)))) (λ_ _ _ _=>(aV (i:=0) (show List.Nodup (["_law_k","_law_deed_here"] :Da Str)from by decide +kernel))) (λ_ _ _ _=>(iN (af (aF (a_ K) (qv 1) (qv 0)) (af (aF (a_ K) (qv 1) (aG b_ (qv 0) ai)) ak)))) rfl (by rfl)) ak)))) (au (c5 (aR dG (aF (a_ K) (qv 1) ai) aO (aZ _)) (au (bH (bZ Ny hr (qv 0) (af (aF (a_ K) (qv 1) ai) (af (aF (a_ K) (qv 1) ai) ak))))) (au (c5 (aR dG (aF (a_ K) (qv 1) ai) aO (aZ _)) (au (bH (bZ JS hr (qv 0) (af (aF (a_ K) (qv 1) ai) (af (aF (a_ K) (qv 1) ai) ak))))) (au (c5 (aR dG (aF (a_ K) (qv 1) ai) aO (aZ _)) (au (bH (bZ OV hr (qv 0) (af (aF (a_ K) (qv 1) ai) (af (aF (a_ K) (qv 1) ai) ak))))) (au (c5 (aR dG (aF (a_ K) (qv 1) ai) aO (aZ _)) (au (bH (bZ OW hr (qv 0) (af (aF (a_ K) (qv 1) ai) (af (aF (a_ K) (qv 1) ai) ak))))) (au (c5 (aR dG (aF (a_ K) (qv 1) ai) aO (aZ _)) (au (bH (bZ OX hr (qv 0) (af (aF (a_ K) (qv 1) ai) ak)))) (au (c5 (aR dG (aF (a_ K) (qv 1) ai) aO (aZ _)) (au (bH (bZ Nz hr (qv 0) (af (aF (a_ K) (qv 1) ai) (af (aF (a_ K) (qv 1) ai) (af (aF (a_ K) (qv 1) ai) (af (aF (a_ K) (qv 1) ai) ak))))))) bM)))))))))))))))))
  (au (bH ace)))),?_⟩
 have wf:=hh.wf;have hpl:=gg.pl;have hkl:=gg.kl;cases d with
 | sign o=>obtain⟨s1,s2⟩:=US hr0;refine sr hz rfl rfl (gc ?_);refine⟨_,Z,A.a,A.dx,_,Z,hh.h.oa,Z,_,Z,z,_,_,_,Z,Z,hz,aC (j:=1) rfl,⟨⟨n,ρ,A,st,o,Z,hh,s1,s2,ho,q⟩⟩⟩
 | load x o wo we=>obtain⟨l1,l2,l3,l4,l5⟩:=uo hr0;refine cT hz rfl (by decide) rfl (bq ?_);refine sr hz rfl rfl (gc ?_);refine⟨_,Z,A.a,A.dx,_,Z,hh.h.oa,Z,_,Z,z,_,_,_,Z,Z,hz,aC (j:=1) rfl,_,Z,z,_,_,_,Z,Z,hz,aC (j:=2) rfl,_,Z,z,_,_,_,Z,Z,hz,aC (j:=3) rfl,_,Z,z,_,_,_,Z,Z,hz,aC (j:=4) rfl,⟨⟨n,ρ,A,st,x,o,wo,we,Z,hh,l1,l2,l3,l4,l5,by omega,by omega,q⟩⟩⟩
 | cast rs=>
  refine cT hz rfl (by decide) rfl (bq ?_);refine cT hz rfl (by decide) rfl (bq ?_);refine sr hz rfl rfl (gc ?_);have ok:=gg.yT wf (by omega) hr0;have hrl:rs.length<=1000:=ok.len;refine⟨_,Z,A.a,A.dx,_,Z,hh.h.oa,Z,_,Z,z,_,Z,.inr hz,_,_,_,Z,⟨by decide,by decide,by omega,by rw[Aa];omega,by decide,by decide⟩,?_⟩;rw[Aa,UR];intro Ap Bi;refine iL (J:=RS 1 2 rs.length) (n:=rs.length) 0 (λi out H1=>aK H H1/\gC H1 out (rs.take i)) (by omega) ⟨aH Bi _,.nil⟩ (λi o H' hi _ _=>hi) (λo H' _ _=>aL _) ?_ ?_
  .rintro i x out H1 H2 hi fD ha ⟨g,R⟩ ⟨rfl,rfl⟩;have ei:=bf hi;generalize rs[i]=r at *;obtain⟨c1,c2⟩:=QM ei;have e1:(1:Int)+(i:Int)*2=((1+2*i:Nat):Int):=by omega
   have e2:((1+2*i:Nat):Int)+1=((2+2*i:Nat):Int):=by omega
   rw[e1];refine⟨_,Z,_,Z,z,_,_,_,Z,Z,g.tup hz,aC c1,_,Z,_,Z,_,_,Z,Z,z,_,_,_,Z,Z,g.tup hz,by rw[e2];exact aC c2,(iO 2),λp hp=>?_⟩;have g6:=aH hp (ym r);refine⟨g6 _ _ ha,(g.trans g6).cI Bi _,?_⟩;rw[take_snoc ei];exact((R.mono g6.tups).snoc aq).mono (sP (.inr ⟨_,g6 _ _ ha,Z⟩))
  rintro out H1 fD ha ⟨g,R⟩;rw[cL]at R;exact⟨⟨n,ρ,A,st,Ap,out,rs,Z,hh.mono g,aB.of ha,R,ok,λρ' A' H' a1 a2 a3=>q ρ' A' H' a1 a2 ((Fr.of_same g).trans a3)⟩⟩
 | award o a=>refine cT hz rfl (by decide) rfl (bq ?_);refine cT hz rfl (by decide) rfl (bq ?_);refine cT hz rfl (by decide) rfl (bq ?_);refine sr hz rfl rfl (gc ?_);refine⟨_,Z,A.a,A.dx,_,Z,hh.h.oa,Z,_,Z,z,_,_,_,Z,Z,hz,aC (j:=1) rfl,_,Z,z,_,_,_,Z,Z,hz,aC (j:=2) rfl,⟨⟨n,ρ,A,st,o,a,Z,hh,gg.aw wf (by omega),.of hr0 q⟩⟩⟩
 | mishap x a=>refine cT hz rfl (by decide) rfl (bq ?_);refine cT hz rfl (by decide) rfl (bq ?_);refine cT hz rfl (by decide) rfl (bq ?_);refine cT hz rfl (by decide) rfl (bq ?_);refine sr hz rfl rfl (gc ?_);refine⟨_,Z,A.a,A.dx,_,Z,hh.h.oa,Z,_,Z,z,_,_,_,Z,Z,hz,aC (j:=1) rfl,_,Z,z,_,_,_,Z,Z,hz,aC (j:=2) rfl,⟨⟨n,ρ,A,st,x,a,Z,hh,.of hr0 q⟩⟩⟩
 | rise x a=>refine cT hz rfl (by decide) rfl (bq ?_);refine cT hz rfl (by decide) rfl (bq ?_);refine cT hz rfl (by decide) rfl (bq ?_);refine cT hz rfl (by decide) rfl (bq ?_);refine cT hz rfl (by decide) rfl (bq ?_);refine sr hz rfl rfl (gc ?_);refine⟨_,Z,A.a,A.dx,_,Z,hh.h.oa,Z,_,Z,z,_,_,_,Z,Z,hz,aC (j:=1) rfl,_,Z,z,_,_,_,Z,Z,hz,aC (j:=2) rfl,⟨⟨n,ρ,A,st,x,a,Z,hh,.of hr0 q⟩⟩⟩
 | hand x o=>refine cT hz rfl (by decide) rfl (bq ?_);refine cT hz rfl (by decide) rfl (bq ?_);refine cT hz rfl (by decide) rfl (bq ?_);refine cT hz rfl (by decide) rfl (bq ?_);refine cT hz rfl (by decide) rfl (bq ?_);refine cT hz rfl (by decide) rfl (bq ?_);refine sr hz rfl rfl (gc ?_);refine⟨_,Z,A.a,A.dx,_,Z,hh.h.oa,Z,_,Z,z,_,_,_,Z,Z,hz,aC (j:=1) rfl,_,Z,z,_,_,_,Z,Z,hz,aC (j:=2) rfl,⟨⟨n,ρ,A,st,x,o,Z,hh,gg.sum,.of hr0 q⟩⟩⟩
 | land x=>refine cT hz rfl (by decide) rfl (bq ?_);refine cT hz rfl (by decide) rfl (bq ?_);refine cT hz rfl (by decide) rfl (bq ?_);refine cT hz rfl (by decide) rfl (bq ?_);refine cT hz rfl (by decide) rfl (bq ?_);refine cT hz rfl (by decide) rfl (bq ?_);refine cT hz rfl (by decide) rfl (bq ?_);refine sr hz rfl rfl (gc ?_);refine⟨_,Z,A.a,A.dx,_,Z,hh.h.oa,Z,_,Z,z,_,_,_,Z,Z,hz,aC (j:=1) rfl,⟨⟨n,ρ,A,st,x,Z,hh,gg.ld wf (by omega) hk,.of hr0 q⟩⟩⟩
 | sever x y a we=>refine cT hz rfl (by decide) rfl (bq ?_);refine cT hz rfl (by decide) rfl (bq ?_);refine cT hz rfl (by decide) rfl (bq ?_);refine cT hz rfl (by decide) rfl (bq ?_);refine cT hz rfl (by decide) rfl (bq ?_);refine cT hz rfl (by decide) rfl (bq ?_);refine cT hz rfl (by decide) rfl (bq ?_);refine cT hz rfl (by decide) rfl (bq ?_);refine sr hz rfl rfl (gc ?_);refine⟨_,Z,A.a,A.dx,_,Z,hh.h.oa,Z,_,Z,z,_,_,_,Z,Z,hz,aC (j:=1) rfl,_,Z,z,_,_,_,Z,Z,hz,aC (j:=2) rfl,_,Z,z,_,_,_,Z,Z,hz,aC (j:=3) rfl,_,Z,z,_,_,_,Z,Z,hz,aC (j:=4) rfl,⟨⟨n,ρ,A,st,x,y,a,we,Z,hh,LS (lM (show kT st x y a we=none from hr0)).2.1.1,by omega,by omega,.of hr0 q⟩⟩⟩
 | still=>refine cT hz rfl (by decide) rfl (bq ?_);refine cT hz rfl (by decide) rfl (bq ?_);refine cT hz rfl (by decide) rfl (bq ?_);refine cT hz rfl (by decide) rfl (bq ?_);refine cT hz rfl (by decide) rfl (bq ?_);refine cT hz rfl (by decide) rfl (bq ?_);refine cT hz rfl (by decide) rfl (bq ?_);refine cT hz rfl (by decide) rfl (bq ?_);refine cT hz rfl (by decide) rfl (bq ?_);exact q ρ A H hh rfl Fr.refl
abbrev yw:Stmt:=top 45
abbrev vB:Da Str:=["_law_script","_law_k","_law_hold","_law_model_here","_law_names_here","_law_many"]
abbrev Ss:Da Str:=vB.append ["_law_at_here","_law_deed_here"]
def yx:aQ Ss vB (aD yw):=dm
theorem OY{T:TC}(F:At K mg "_law_run" yw f fd)(yz:Dn P w K mg base 4 "_law_deed" t_ (UP K))(jz:Dn P w K mg base 6 "_law_hold_do" kZ (DB T K))(i7:Dn P w K mg base 5 "_law_model_do" ku (ur AlL K))(cu:mg "range"=none):Dn P w K mg base 7 "_law_run" vB (U5 T K):=by
 refine F.oA yx λ_ _ _ _ H _ Q E hr h=>?_;obtain⟨⟨n,m,c,e,kn,ρ,A,B,st,b,a,ln,ns,k,nms,BM,rfl,nm,hh,hb,gd,gw,pu,hc,hm,ho,fS,h63,hk0,hk1,fN,nx,hnl,q⟩⟩:=h;refine⟨_,(@cZ.h _ _ _ (au (fj fT rfl (gZ (by rfl) cu (af (qv 5) ak)) (aV (i:=6) yx.nd) (aj (aS (i:=7) yx.nd (bh yz hr (af (qv 0) (af (aG b_ (qv 1) (qv 6)) (af (qv 3) (af (qv 4) ak))))))
  (aj (bQ (bh jz hr (af (qv 2) (af (qv 7) ak))))
  (au (bQ (bh i7 hr (af (qv 3) (af (qv 7) ak)))))))))),?_⟩
 refine⟨_,Z,_,Z,by omega,by omega,?_⟩;refine iK (lo:=0) (n:=((BM:Nat):Int).toNat) (λi σ H'=>∃ρ' A' B' st' b' s6 s7,σ=[some (.ref a),some (.int k),some (.ref A.a),some (.ref B.m),some (.ref ln),some (.int (BM:Int)),s6,s7]/\HH T n ρ' A' H' st'/\aU m ρ' B' H' b'/\dj (c+i) st' b'/\GW (c+i) (kn+100*i) st'/\mP (c+i) (e+i) st' b'/\A'.a=A.a/\B'.m=B.m/\b'.own=b.own/\Nx nms st'/\aK (out ρ H) (out ρ' H'))
  ⟨ρ,A,B,st,b,_,_,Z,hh,hb,gd,gw,pu,Z,Z,Z,nx,aK.refl _⟩ ?_ ?_
 .rintro i σ H1 hi ⟨ρ1,A1,B1,st1,b1,s6,s7,rfl,dB,hb1,fW,gT,pu1,ea,em,eo,uA,o1⟩;have hi:i<BM:=by omega
  have e0:(0:Int)+(i:Int)=((i:Nat):Int):=by omega
  rw[e0];have su:st1.own.length<100:=by rw[fW.rel.own,eo,<-gd.rel.own];exact ho
  have kn1:=gT.kn;have YB:=uA.pl dB.wf;have kl1:=gT.g.kl;have al1:=gT.g.al;refine⟨_,Z,_,Z,_,Z,_,_,Z,Z,_,Z,_,Z,⟨⟨a,B.m,ln,ns,k+i,nms,c+i,st1,Z,fS _ _ o1,h63,by omega,by omega,by rw[<-em];exact hb1.q fW,fN _ _ o1,uA,by omega,dB.wf,gT.g,by omega,λz d H2 g2 hz hd=>?_⟩⟩⟩;obtain⟨d1,d2,d3,d4⟩:=hd;refine⟨_,Z,_,Z,⟨⟨n,c+i,ρ1,A1,st1,z,d,by rw[ea];rfl,dU.of hz,dB.mono g2,gT.g,by omega,by omega,su,d1,λρ3 A3 H3 gR ye F3=>?_⟩⟩⟩;have Az:=(hb1.mono g2).other F3 (dB.g.same g2) (cJ nm);have Vp:H3 z=some (.tup d.v):=(F3 z _ hz (λt w e=>by rw[(dB.g.same g2).tup hz]at e;cases e)).1;have Jo:=KN fW gT.g dB.wf (by omega) (by omega) d1 d2 d4 (by rw[<-fW.rel.len];omega) (by rw[<-fW.d9];omega);refine⟨_,Z,_,Z,⟨⟨m,c+i,ρ3,B1,b1,st1,z,d,by rw[em];rfl,Vp,gR.g,Az,fW,by omega,dB.wf,⟨d4,⟨c+i,gT.g,by omega⟩,by omega,by omega,by omega⟩,d2,d1,λρ4 B4 H4 G4 xo Vf F4=>?_⟩⟩⟩;exact⟨ρ4,A3,B4,_,_,_,_,Z,gR.other F4 G4 nm,xo,Jo,gT.do (by omega) (by omega) su d1 d2.g,(E_ (k:=c+i) pu1 fW gT.g dB.wf (by omega) d1 d4).mono (by have:=acL d;omega),ye.trans ea,Vf.trans em,(IQ _ _).trans eo,d3,((o1.trans (m_ g2)).trans F3.out).trans F4.out⟩
 rintro σ H1 ⟨ρ1,A1,B1,st1,b1,s6,s7,rfl,dB,hb1,fW,gT,pu1,ea,em,eo,uA,o1⟩;rw[sH]at fW gT pu1;exact q ρ1 A1 B1 st1 b1 H1 dB hb1 fW gT pu1 ea em eo uA o1
abbrev qg:Stmt:=top 47
abbrev mS:Da Str:=["_law_model_here","_law_owner"]
abbrev FG:Da Str:=mS.append ["_law_seat_here"]
def xq:aQ FG mS (aD qg):=dm
theorem DR(F:At K mg "_law_stake_of" qg f fd)(dQ:Dn P w K mg base 1 "_law_seat" jq (yN K))(ff:mg "sum"=none):Dn P w K mg base 2 "_law_stake_of" mS (Je K):=by
 refine F.oA xq λ_ _ _ _ H _ Q E hr h=>?_;obtain⟨⟨n,c,ρ,B,b,st,o,rfl,h,gd,hc,ho,q⟩⟩:=h;refine⟨_,(@cZ.h _ _ _ (aj (aS (i:=2) xq.nd (bh dQ hr (af (bD (bU hr) (qv 0) aO) (af (qv 1) ak))))
  (au (bH (aY (ji K rfl) (by rfl) ff uD (af (iE ["_law_part","_law_seat_here"] [none,some 2] rfl (dH K (bD (bU hr) (qv 0) aO)) (λ_ _ _ _=>(aV (i:=0) (show List.Nodup (["_law_part","_law_seat_here"] :Da Str)from by decide +kernel))) (λ_ _ _ _=>(aG fk (aF (aM K) (qv 0) ai) (aF (aM K) (aF (aM K) (qv 0) ai) (qv 1)))) rfl (by rfl)) ak)))))),?_⟩
 have wb:=gd.fh;have ol:=wb.ol;have pl:=wb.pl;have xh:(B.qs.map λq=>V.ref q.1).length=b.ah.length:=by rw[aE];exact h.ql
 have hj:=mV ho;refine⟨_,Z,B.m,_,Z,cg.k (k:=Sum.inr "owners") h.om,_,Z,⟨⟨B.lo,b.own,o,Z,aB.of h.oo,ho,by omega,?_⟩⟩⟩;generalize b.own.idxOf o=j at *;refine⟨_,Z,B.m,_,Z,cg.k (k:=Sum.inr "parts") h.om,B.lp,Z,⟨_,aB.of h.op⟩,λl0 gk=>?_⟩;refine iL (J:=vc K B.lp) (n:=b.ah.length) 0 (λi o H'=>aK H H'/\o=((b.ah.take i).map (λp:BP=>p.wo*p.tops.getD j 0)).map V.int) (by omega) ⟨aH gk _,Z⟩ (λi o H' hi _ hp=>⟨_,_,aB.of (hp.1 _ _ h.op),bf (by rw[xh];exact hi)⟩) (λo H' _ hp=>⟨_,aB.of (hp.1 _ _ h.op),by rw[xh];exact aL _⟩) ?_ ?_
 .rintro i y o H2 H3 hi fD ha ⟨g,e⟩ ⟨rfl,hy⟩;have ei:=bf hi;generalize b.ah[i]=p at ei;have pm:=bg ei;obtain⟨qq,eq,k1,k2,_,_⟩:=h.find ei;have ey:=hy _ (aB.of (g _ _ h.op));rw[bV,eq]at ey;cases ey;have tj:j<p.tops.length:=by rw[wb.tl p pm];exact hj
  have t0:=wb.t0 p pm _ (I0 tj);have zw:Jm.Sz 60 p.wo:=by have w1:=wb.w1 p pm;exact((gd.whole (by omega)).2).of_le (by have:p.wo<=bL b:=(yS λx hx=>by obtain⟨q,hq,rfl⟩:=aW.mp hx;have:=wb.w1 q hq;omega).2 _ (aW.mpr ⟨p,pm,Z⟩);omega)
  refine⟨_,Z,qq.1,_,_,_,Z,Z,aB.of (g _ _ k1),aC (j:=2) rfl,_,Z,qq.1,_,_,_,Z,Z,aB.of (g _ _ k1),aC (j:=4) rfl,_,Z,qq.2,_,_,_,Z,Z,aB.of (g _ _ k2),getD_at tj,_,_,Z,Z,eX zw (wb.bz.of_le (by omega)),ha,g.cI gk _,?_⟩;subst e;rw[take_snoc ei,bN,bN];rfl
 rintro o1 H1 _ ha ⟨g1,e⟩;rw[cL]at e;subst e;exact⟨l0,_,Z,aB.of ha,q H1 g1⟩
abbrev rW:Stmt:=top 49
abbrev oq:Da Str:=["_law_model_here","_law_owner"]
abbrev Hw:Da Str:=oq
def FH:aQ Hw oq (aD rW):=dm
theorem FI(F:At K mg "_law_kept_of" rW f fd)(ff:mg "sum"=none):Dn P w K mg base 1 "_law_kept_of" oq (MJ K):=by
 refine F.oA FH λ_ _ _ _ H _ Q E hr h=>?_;obtain⟨⟨n,ρ,B,b,o,rfl,h,al,q⟩⟩:=h;refine⟨_,(@cZ.h _ _ _ (au (bH (aY (ji K rfl) (by rfl) ff uD (af (v8 ["_law_part","_law_owner"] [none,some 1] rfl (dH K (bD (bU hr) (qv 0) aO)) (λ_ _ _ _=>(aV (i:=0) (show List.Nodup (["_law_part","_law_owner"] :Da Str)from by decide +kernel))) (λ_ _ _ _=>(aF (aM K) (qv 0) ai)) (λ_ _ _ _=>(aR dG (aF (aM K) (qv 0) ai) (qv 1) (aZ _))) rfl (by rfl)) ak))))),?_⟩;obtain⟨vs,hv,hA⟩:=h.oa;have vl:=hA.length;refine⟨_,Z,B.m,_,Z,cg.k (k:=Sum.inr "ashore") h.om,B.la,Z,⟨_,aB.of hv⟩,λl0 gk=>?_⟩;refine GF (J:=vc K B.la) (n:=vs.length) 0 (λi out H'=>aK H H'/\out=(((b.bB.take i).filter λe:BE=>decide (e.ow=o)).map λe:BE=>e.wo).map V.int) (by omega) ⟨aH gk _,Z⟩ (λi o H' hi _ hp=>⟨_,_,aB.of (hp.1 _ _ hv),bf hi⟩) (λo H' _ hp=>⟨_,aB.of (hp.1 _ _ hv),aL _⟩) ?_ ?_
 .rintro i y out H2 H3 hi fD ha ⟨g,e⟩ ⟨rfl,hy⟩;obtain⟨r,t,x,rfl,ex,r1,_⟩:=hA.get (hy _ (aB.of (g _ _ hv)));have r1:=g _ _ r1;have es:(b.bB.take (i+1)).filter (λe:BE=>decide (e.ow=o))=(b.bB.take i).filter (λe:BE=>decide (e.ow=o))++(if x.ow=o then[x] else[]):=by
   rw[take_snoc ex,Rt];by_cases c:x.ow=o
   .rw [ay c,Rj (by exact bR c)];rfl
   .rw [av c,List.filter_cons_of_neg (by simpa using c)];rfl
  refine⟨_,Z,r,_,_,_,Z,Z,aB.of r1,aC (j:=1) rfl,_,Z,Z,_,Z,c6 (λc=>?_) (λc=>?_)⟩
  .have c':x.ow=o:=V.str.inj (dN c);rw[ay c']at es;refine⟨_,Z,r,_,_,_,Z,Z,aB.of r1,aC (j:=2) rfl,ha,g.cI gk _,?_⟩;rw[es,e,bN,bN];rfl
  .have c':x.ow≠o:=λz=>c (bR (by rw[z]));rw[av c',qF]at es;exact⟨ha,g,by rw[es,e]⟩
 rintro o1 H1 _ ha ⟨g1,e⟩;rw[vl,cL]at e;subst e;exact⟨l0,_,Z,aB.of ha,q H1 g1⟩
abbrev qh:Stmt:=top 48
abbrev mT:Da Str:=["_law_model_here","_law_owner"]
abbrev FJ:Da Str:=mT.append ["_law_seat_here","_law_top","_law_bottom","_law_part","_law_gets"]
def fC:aQ FJ mT (aD qh):=dm
theorem DS(F:At K mg "_law_purse_of" qh f fd)(dQ:Dn P w K mg base 1 "_law_seat" jq (yN K))(bO:mg "len"=none)(rS:mg "min"=none):Dn P w K mg base 2 "_law_purse_of" mT (Jf K):=by
 refine F.oA fC λ_ _ _ _ H _ Q E hr h=>?_;obtain⟨⟨n,m,ρ,B,b,o,rfl,h,ho,ol,al,hm,bz,tz,tl,q⟩⟩:=h;refine⟨_,(@cZ.h _ _ _ (aj (aS (i:=2) fC.nd (bh dQ hr (af (bD (bU hr) (qv 0) aO) (af (qv 1) ak))))
  (aj (aS (i:=3) fC.nd ai)
  (aj (aS (i:=4) fC.nd ai)
  (aj (fj fT rfl (dH K (bD (bU hr) (qv 0) aO)) (aV (i:=5) fC.nd) (aj (aS (i:=6) fC.nd (aG fk (aF (aM K) (qv 5) ai) (aF (aM K) (aG Tj (aF (aM K) (qv 5) ai) (iB (af ai ak))) (aY (xN rfl) (by rfl) rS KS (af (qv 2) (af (aY (cC K) (by rfl) bO d7 (af (aF (aM K) (qv 5) ai) ak)) ak))))))
  (aj (gh (aR dG (aF (aM K) (qv 5) ai) (qv 1) (aZ _)) (au (aS (i:=6) fC.nd (aG j0 (qv 6) (aG fk (aF (aM K) (qv 5) ai) (aF (aM K) (qv 5) ai))))) bM)
  (aj (aS (i:=3) fC.nd (aG b_ (aG fk (qv 3) (aF (aM K) (qv 5) ai)) (aG fk (qv 6) (qv 4))))
  (au (aS (i:=4) fC.nd (aG fk (qv 4) (aF (aM K) (qv 5) ai))))))))
  (au (bH (iN (af (qv 3) (af (qv 4) ak)))))))))),?_⟩
 obtain⟨vs,hv,hA⟩:=h.oa;have vl:=hA.length;refine⟨_,Z,B.m,_,Z,cg.k (k:=Sum.inr "owners") h.om,_,Z,⟨⟨B.lo,b.own,o,Z,aB.of h.oo,ho,by omega,?_⟩⟩⟩;generalize b.own.idxOf o=j at *;refine⟨_,Z,B.m,_,Z,cg.k (k:=Sum.inr "ashore") h.om,B.la,Z,⟨_,aB.of hv⟩,?_⟩;refine kG (K:=K) (xs:=vs) (λi σ H'=>aK H H'/\∃s5 s6,σ=[some (.ref B.m),some (.str o),some (.int (j:Int)),some (.int (fQ (b.bB.take i) o j).1),some (.int (fQ (b.bB.take i) o j).2),s5,s6]) ⟨aK.refl _,_,_,Z⟩ (λi σ H' _ hp=>aB.of (hp.1 _ _ hv)) ?_ ?_
 .rintro i y σ H1 hy ⟨g1,s5,s6,rfl⟩;obtain⟨r,t,e,rfl,ee,r1,r2⟩:=hA.get hy;have em:=bg ee;obtain⟨z1,z2⟩:=bz e em;obtain⟨y1,y2⟩:=tz e em;have lt:=tl e em;have r1:=g1 _ _ r1;have r2:=g1 _ _ r2;have sub:∀x∈b.bB.take i,x∈b.bB:=λx hx=>List.mem_of_mem_take hx;have nz:=MI (o:=o) (j:=j) (λx hx=>bz x (sub x hx)) (λx hx=>tz x (sub x hx));have dz:=(MG (o:=o) (j:=j) (λx hx=>bz x (sub x hx))).1;have il:(b.bB.take i).length<=100:=by rw[uE];omega
  have nz:Jm.Sz 1100000 (fQ (b.bB.take i) o j).1:=nz.mono (by have:=D7 il (show m+63<=10063 by omega);omega);have dz:Jm.Sz 1100000 (fQ (b.bB.take i) o j).2:=dz.mono (by have:=D7 il hm;omega);have es:fQ (b.bB.take (i+1)) o j=l7 o j (fQ (b.bB.take i) o j) e:=by rw[take_snoc ee];exact Jb _ _ _ _
  rw[es];generalize fQ (b.bB.take i) o j=tb at *;obtain⟨tz1,gz⟩:=QS (o:=o) (j:=j) z1 z2 y1 y2;refine⟨_,Z,r,_,_,_,Z,Z,aB.of r1,aC (j:=2) rfl,_,Z,r,_,_,_,Z,Z,aB.of r1,aC (j:=3) rfl,(iO 1),λp1 hp1=>?_⟩;have g2:=aH hp1 (.lst [.int 0]);have h2:upd H1 p1 (.lst [.int 0]) p1=some (.lst [.int 0]):=aq;show abe _ _ (upd H1 p1 (.lst [.int 0])) _;generalize upd H1 p1 (.lst [.int 0])=H2 at *;refine⟨t,p1,_,_,Z,Z,g2 _ _ r2,h2,(by rw[aE];exact BX (c8 (by show e.tops.length+1<=1000;omega))),λp3 hp3=>?_⟩;have ec:e.tops.map V.int++[V.int 0]=(e.tops++[0]).map V.int:=by rw[bN];rfl
  rw[ec];have g3:=aH hp3 (.lst ((e.tops++[0]).map V.int));have h3:upd H2 p3 (.lst ((e.tops++[0]).map V.int)) p3=some (.lst ((e.tops++[0]).map V.int)):=aq;have g13:=(g1.trans g2).trans g3;have Q3:=g3 _ _ (g2 _ _ r1);have r23:=g3 _ _ (g2 _ _ r2);show XO _ _ _ (upd H2 p3 (.lst ((e.tops++[0]).map V.int))) _;generalize upd H2 p3 (.lst ((e.tops++[0]).map V.int))=H3 at *;refine⟨_,Z,_,Z,r,_,_,_,Z,Z,aB.of Q3,aC (j:=3) rfl,t,_,Z,.inl (aB.of r23),_,_,Z,p3,_,_,_,Z,Z,aB.of h3,(by rw[aE];exact acK),_,_,Z,Z,eX (y2.2.mono (show 60<=100 by omega)) (tz1.mono hm),?_⟩;show lE 6 (.int (e.wo*e.tops.getD j 0)) _ _ _;refine⟨λσ H'=>H'=H3/\σ=[some (.ref B.m),some (.str o),some (.int (j:Int)),some (.int tb.1),some (.int tb.2),some (.ref r),some (.int (pD o j e))],?_,?_⟩
  .refine ⟨_,Z,r,_,_,_,Z,Z,aB.of Q3,aC (j:=1) rfl,_,Z,Z,_,Z,c6 (λc=>?_) (λc=>?_)⟩
   .have c':e.ow=o:=V.str.inj (dN c);refine⟨_,Z,_,Z,r,_,_,_,Z,Z,aB.of Q3,aC (j:=2) rfl,_,Z,r,_,_,_,Z,Z,aB.of Q3,aC (j:=4) rfl,_,_,Z,Z,eX (y2.2.mono (show 60<=100 by omega)) (z1.mono hm),_,_,Z,Z,Z,?_⟩;unfold pD;rw[ay c'];rfl
   .have c':e.ow≠o:=λz=>c (bR (by rw[z]));refine⟨Z,?_⟩;unfold pD;rw[av c',xJ];rfl
  rintro σ H4 ⟨rfl,rfl⟩;refine⟨_,Z,_,Z,r,_,_,_,Z,Z,aB.of Q3,aC (j:=4) rfl,_,_,Z,Z,eX nz (z1.mono hm),_,Z,_,Z,_,_,Z,Z,eX (gz.mono (show m+61<=10061 by omega)) dz,_,_,Z,Z,?_⟩;show lE 3 (.int (tb.1*e.bot+pD o j e*tb.2)) _ _ _;exact⟨_,Z,_,Z,r,_,_,_,Z,Z,aB.of Q3,aC (j:=4) rfl,_,_,Z,Z,eX dz (z1.mono hm),g13,_,_,Z⟩
 rintro σ H1 ⟨g1,s5,s6,rfl⟩;rw[vl,cL];refine⟨_,Z,_,Z,(iO 2),λp hp=>q p _ (g1.trans (aH hp _)) aq⟩
abbrev tL:Stmt:=top 53
abbrev pL:Da Str:=["_law_hold","_law_model_here"]
abbrev JT:Da Str:=pL.append ["_law_owner","_law_due","_law_top"]
def ou:aQ JT pL (aD tL):=dm
theorem Hx{T:TC}(F:At K mg "_law_purses" tL f fd)(yf:Dn P w K mg base 2 "_law_is" yd Wt)(rX:Dn P w K mg base 2 "_law_purse_of" mT (Jf K))(rY:Dn P w K mg base 2 "_law_stake_of" mS (Je K))(tM:Dn P w K mg base 1 "_law_kept_of" oq (MJ K))(xr:Mn P w K mg base 3 T.hold "purse" rL (QN T))(tN:Mn P w K mg base 3 T.hold "fortune" oj (UU T)):Dn P w K mg base 5 "_law_purses" pL (Jg T K):=by
 refine F.oA ou λ_ _ _ _ H _ Q E hr h=>?_;obtain⟨⟨n,m,k,c,ρ,A,B,st,b,rfl,hh,hb,gd,ps,gg,hk,hc,q⟩⟩:=h;refine⟨_,(@cZ.h _ _ _ (aj (fj fT rfl (dH K (bD (bU hr) (qv 1) aO)) (aV (i:=2) ou.nd) (aj (aS (i:=3) ou.nd (bh rX hr (af (qv 1) (af (qv 2) ak))))
  (aj (c5 (q_ (ny (bh yf hr (af (bZ xr hr (qv 0) (af (qv 2) ak)) (af (aF (a_ K) (qv 3) ai) (af (aF (a_ K) (qv 3) ai) ak)))))) (au (bH z8)) bM)
  (aj (aS (i:=4) ou.nd (aG fk (aG b_ (bh rY hr (af (qv 1) (af (qv 2) ak))) (aG fk (bh tM hr (af (qv 1) (af (qv 2) ak))) (bD (bU hr) (qv 1) aO))) (aF (a_ K) (qv 3) ai)))
  (au (c5 (q_ (ny (bh yf hr (af (bZ tN hr (qv 0) (af (qv 2) ak)) (af (aG b_ (qv 4) (aG fk (aF (a_ K) (qv 3) ai) (bD (bU hr) (qv 1) aO))) (af (aG fk (aF (a_ K) (qv 3) ai) (bD (bU hr) (qv 1) aO)) ak)))))) (au (bH z8)) bM))))))
  (au (bH z8)))),?_⟩
 have pu:=ps.pu;obtain⟨x,y,xy1,xy2,xy3,xy4⟩:=ps.xy;have xp:=aac (x:=x) (y:=y) (by omega);have bz:∀e∈b.bB,Jm.Sz (60*x+1) e.bot/\0<e.bot:=λe he=>⟨xy4 e he,(pu.bz e he).2⟩
 have wb:=gd.fh;have wf:=hh.wf;have Jc:=gd.rel.own;have ok:=gg.st pu.mo wf (by omega);have P0:0<st.prod:=by have:=wf.fZ;omega
 have b0:0<b.bot:=by have:=wb.b1;omega
 have tl:∀e∈b.bB,e.tops.length<=b.own.length:=λe he=>by obtain⟨i,hi,ei⟩:=m8 he;have l:=gd.bB.length;exact(gd.bB.get (bf (show i<st.bB.length by omega)) (by rw[bf hi,ei])).2.2.2.2.1
 have al:=xy2;refine⟨_,Z,B.m,_,Z,cg.k (k:=Sum.inr "owners") hb.om,B.lo,Z,⟨_,aB.of hb.oo⟩,?_⟩;refine kG (K:=K) (xs:=b.own.map V.str) (λi σ H'=>aK H H'/\∃s2 s3 s4,σ=[some (.ref A.a),some (.ref B.m),s2,s3,s4]) ⟨aK.refl _,_,_,_,Z⟩ (λi σ H' _ hp=>aB.of (hp.1 _ _ hb.oo)) ?_ ?_
 .rintro i y σ H1 hy ⟨g1,s2,s3,s4,rfl⟩;rw[bV]at hy;obtain⟨o,eo,rfl⟩:=mZ.mp hy;have ho:=bg eo;have hoS:o∈st.own:=by rw[Jc];exact ho
  have hj:=mV hoS;have R:=pu.rel o hoS;have S:=Jd gd wf hj;have zs:=U4 gd gg wf (by omega) hj;have zl:=ok.la o;have kr:=Xf gd.bB o;have ef:yU st o=Cw b o:=kr;rw[ef]at zl;obtain⟨dz,d0⟩:=MG (o:=o) (j:=b.own.idxOf o) bz;have nz:=MI (o:=o) (j:=b.own.idxOf o) bz pu.tz;have c1:=D7 al (aL (60*x+1));have c2:=D7 al (aL (60*x+1+63));rw[Nat.add_mul]at xp;have c3:y*(60*x+1+63)=y*(60*x+1)+y*63:=Nat.mul_add ..;refine⟨_,Z,_,Z,⟨⟨m,60*x+1,ρ,B,b,o,Z,hb.mono g1,ho,wb.ol,by omega,by omega,bz,pu.tz,tl,λr H2 g2 hr=>?_⟩⟩⟩;have e1:MD st o=Jm.fr (fQ b.bB o (b.own.idxOf o)).1 (fQ b.bB o (b.own.idxOf o)).2:=by unfold MD;rw[Jc]at R ⊢;exact Jm.KH P0 d0 R
  have e2:R7 st o=Jm.fr ((uw b (b.own.idxOf o)+Cw b o*b.bot)*(fQ b.bB o (b.own.idxOf o)).2+(fQ b.bB o (b.own.idxOf o)).1*b.bot) ((fQ b.bB o (b.own.idxOf o)).2*b.bot):=by
   unfold R7;refine Jm.KH P0 (xK d0 b0) ?_;rw[ef];rw[Jc]at R S ⊢;generalize lV st (b.own.idxOf o)=x' at *;generalize st.bJ.getD (b.own.idxOf o) 0=u at *;generalize (fQ b.bB o (b.own.idxOf o)).2=B2 at *;generalize (fQ b.bB o (b.own.idxOf o)).1=B1 at *;generalize uw b (b.own.idxOf o)=sb at *;generalize Cw b o=kb at *;have a1:(x'+u+kb*st.prod)*(B2*b.bot)=B2*(x'*b.bot)+b.bot*(u*B2)+kb*st.prod*B2*b.bot:=by grind
   rw[a1,S,R];grind
  rw[Jc]at zs;generalize fQ b.bB o (b.own.idxOf o)=tb at *;have Jh:=g1.trans g2;have iZ:=hh.mono Jh;refine⟨_,Z,A.a,A.dx,_,Z,iZ.h.oa,Z,_,Z,⟨⟨n,ρ,A,st,o,Z,iZ.h,wf,hoS,λr3 H3 g3 h3=>?_⟩⟩⟩;have Vc:=g3 _ _ hr;refine⟨_,Z,r,_,_,_,Z,Z,dU.of Vc,aC (j:=0) rfl,_,Z,r,_,_,_,Z,Z,dU.of Vc,aC (j:=1) rfl,TN h3 d0 (dz.mono (by omega)) e1 λH4 g4=>⟨_,Z,bq ?_⟩⟩;have g14:=(Jh.trans g3).trans g4;refine⟨_,Z,_,Z,⟨⟨m,k,ρ,B,b,st,o,Z,hb.mono g14,gd,by omega,ho,λH5 g5=>⟨_,Z,_,Z,⟨⟨m,ρ,B,b,o,Z,hb.mono (g14.trans g5),by omega,λH6 g6=>?_⟩⟩⟩⟩⟩⟩;have g46:=g5.trans g6;have g16:=g14.trans g46;have Vq:=hb.mono g16;have QU:=g46 _ _ (g4 _ _ Vc);have zk:Jm.Sz (60*k+61) (Cw b o*b.bot):=(zl.mul gd.bot).mono (by omega);have cB:Jm.Sz 10000 b.bot:=gd.bot.mono (by omega);have cN:Jm.Sz 9000 tb.1:=nz.mono (by omega);have cD:Jm.Sz 9000 tb.2:=dz.mono (by omega);refine⟨_,Z,B.m,_,Z,cg.k (k:=Sum.inr "bottom") Vq.om,_,_,Z,Z,eX zl cB,_,_,Z,Z,_,Z,r,_,_,_,Z,Z,dU.of QU,aC (j:=1) rfl,_,_,Z,Z,eX ((zs.add zk).mono (show _<=10000 by omega)) cD,?_⟩;show lE 4 (.int ((uw b (b.own.idxOf o)+Cw b o*b.bot)*tb.2)) _ _ _;have yY:=hh.mono g16;refine⟨_,Z,A.a,A.dx,_,Z,yY.h.oa,Z,_,Z,⟨⟨n,ρ,A,st,o,Z,yY.h,ok,hoS,λr7 H7 g7 h7=>?_⟩⟩⟩;have hr7:=g7 _ _ QU;have Jp:=Vq.mono g7;refine⟨_,Z,_,Z,r,_,_,_,Z,Z,dU.of hr7,aC (j:=0) rfl,_,Z,B.m,_,Z,cg.k (k:=Sum.inr "bottom") Jp.om,_,_,Z,Z,eX cN cB,_,_,Z,Z,_,Z,r,_,_,_,Z,Z,dU.of hr7,aC (j:=1) rfl,_,Z,B.m,_,Z,cg.k (k:=Sum.inr "bottom") Jp.om,_,_,Z,Z,eX cD cB,?_⟩;exact TN h7 (xK d0 b0) ((dz.mul xy3).mono (by omega)) e2 λH8 g8=>⟨_,Z,bq ⟨(g16.trans g7).trans g8,_,_,_,Z⟩⟩
 rintro σ H1 ⟨g1,s2,s3,s4,rfl⟩;exact q H1 g1
abbrev u_:Stmt:=top 33
abbrev rZ:Da Str:=["_law_script","_law_k","_law_hold","_law_model_here","_law_names_here","_law_many"]
abbrev NB:Da Str:=rZ.append ["_law_at_here","_law_owner","_law_worth","_law_weight"]
def lX:aQ NB rZ (aD u_):=dm
theorem JU{T:TC}(F:At K mg "_law_loads" u_ f fd)(aT:Dn P w K mg base 1 "_law_draw" gM (oO K))(iJ:Dn P w K mg base 2 "_law_much" mh (AL K))(i6:Dn P w K mg base 2 "_law_new_part" ko Be)(mw:Mn P w K mg base 4 T.hold "load" oX (LQ T))(bO:mg "len"=none)(cu:mg "range"=none):Dn P w K mg base 5 "_law_loads" rZ (MK T K):=by
 refine F.oA lX λ_ _ _ _ H _ Q E hr h=>?_
 obtain⟨⟨n,m,ρ,A,B,st,b,a,ln,ns,k,nms,BM,rfl,nm,hh,hb,gd,gw,ps,ho,hS,h63,hk0,hk1,hN,nx,hml,akT,en,q⟩⟩:=h
 refine⟨_,(@cZ.h _ _ _ (au (fj fT rfl (gZ (by rfl) cu (af (qv 5) ak)) (aV (i:=6) lX.nd) (aj (aS (i:=7) lX.nd (aF (aM K) (bD (bU hr) (qv 3) aO) (bh aT hr (af (qv 0) (af (aG b_ (qv 1) (qv 6)) (af ai (af (aY (cC K) (by rfl) bO d7 (af (bD (bU hr) (qv 3) aO) ak)) ak)))))))
  (aj (aS (i:=8) lX.nd (bh iJ hr (af (qv 0) (af (aG b_ (qv 1) (qv 6)) (af ai ak)))))
  (aj (aS (i:=9) lX.nd (bh aT hr (af (qv 0) (af (aG b_ (qv 1) (qv 6)) (af ai (af ai ak))))))
  (aj (bQ (bZ mw hr (qv 2) (af (aF (aM K) (qv 4) (qv 6)) (af (qv 7) (af (qv 8) (af (qv 9) ak))))))
  (au (bQ (bh i6 hr (af (qv 3) (af (aF (aM K) (qv 4) (qv 6)) (af (qv 7) (af (qv 8) (af (qv 9) ak))))))))))))))),?_⟩
 refine⟨_,Z,_,Z,by omega,by omega,?_⟩
 refine iK (lo:=0) (n:=((BM:Nat):Int).toNat) (λi σ H'=>∃ρ' A' B' st' b' s6 s7 s8 s9,σ=[some (.ref a),some (.int k),some (.ref A.a),some (.ref B.m),some (.ref ln),some (.int (BM:Int)),s6,s7,s8,s9]/\HH T n ρ' A' H' st'/\aU m ρ' B' H' b'/\dj i st' b'/\GW i (100*i) st'/\mP i 0 st' b'/\A'.a=A.a/\B'.m=B.m/\b'.own=b.own/\st'.nms.length=i/\Nx nms st'/\aK (out ρ H) (out ρ' H'))
  ⟨ρ,A,B,st,b,_,_,_,_,Z,hh,hb,gd,gw,ps,Z,Z,Z,by rw[en];rfl,nx,aK.refl _⟩ ?_ ?_
 . rintro i σ H1 hi ⟨ρ1,A1,B1,st1,b1,s6,s7,s8,s9,rfl,dB,hb1,fW,gT,ps1,uB,oZ,su,YC,uA,o1⟩
   have e0:(0:Int)+(i:Int)=((i:Nat):Int):=by omega
   rw[e0]
   have him:i<BM:=by omega
   have hin:i<nms.length:=by omega
   have ex:=bf hin
   generalize nms[i]=x at ex
   obtain⟨hx0,hxs,nxn⟩:=uA.next (x:=x) (by rw[YC];exact ex)
   have C7:=hS _ _ o1
   have hN1:=hN _ _ o1
   have omH:H1 B.m=some (.dK (fB B1 b1.bot)):=by rw[<-oZ];exact hb1.om
   have ol1:(b1.own.map V.str).length=b1.own.length:=aE _
   have ow0:=fW.own
   refine⟨_,Z,B.m,_,Z,cg.k (k:=Sum.inr "owners") omH,_,Z,_,Z,_,Z,_,_,Z,Z,_,Z,B.m,_,Z,cg.k (k:=Sum.inr "owners") omH,B1.lo,_,Z,.inl (aB.of hb1.oo),cR C7 h63 (by omega) (by decide) (by decide) (by omega) λd _ d0 d1=>?_⟩
   obtain⟨jo,o,ejo,eo,Vi⟩:=Dq (l:=b1.own) d0 (by omega)
   have YD:o∈b1.own:=bg eo
   refine⟨B1.lo,_,_,_,Z,Z,aB.of hb1.oo,Vi,?_⟩
   refine⟨_,Z,_,Z,_,Z,_,_,Z,Z,Dj C7 h63 (by omega) (by decide) (by decide) λwo H2 w1 w2 g2=>?_⟩
   refine⟨_,Z,_,Z,_,Z,_,_,Z,Z,cR (g2.seq C7) h63 (by omega) (by decide) (by decide) (by decide) λwe _ v0 v1=>?_⟩
   have iZ:=dB.mono g2
   have o2:=o1.trans (m_ (ρ:=ρ1) g2)
   have hN2:=hN _ _ o2
   have exv:(nms.map V.str)[i]?=some (.str x):=by rw[bV,ex];rfl
   have eow:=fW.rel.own
   have YB:=gT.g.pl
   have kl1:b1.d9.length=i:=by rw[<-fW.d9];exact YC
   have bl1:b1.ah.length<=i:=by rw[<-fW.rel.len];exact YB
   have eo:st1.own.length<100:=by rw[eow,su,<-gd.rel.own];exact ho
   refine⟨_,Z,A.a,A1.dx,_,Z,by rw[<-uB];exact iZ.h.oa,Z,_,Z,_,Z,ln,_,_,_,Z,Z,hN2,aC exv,_,Z,_,Z,_,Z,⟨⟨n,ρ1,A1,st1,x,o,wo,we,by rw[uB];rfl,iZ,hx0,hxs,by rw[eow];exact YD,w1,v0,by omega,by rw[fW.rel.len];omega,λρ3 A3 H3 gR e3 f3=>?_⟩⟩⟩
   have Az:=(hb1.mono g2).other f3 iZ.g (cJ nm)
   have o3:=o2.trans f3.out
   have hN3:=hN _ _ o3
   refine⟨_,Z,_,Z,_,Z,ln,_,_,_,Z,Z,hN3,aC exv,_,Z,_,Z,_,Z,⟨⟨m,ρ3,B1,b1,x,o,wo,we,by rw[oZ];rfl,gR.g,Az,YD,by have:=fW.fh.ol;omega,by omega,by omega,λρ4 B4 H4 G4 xo e4 f4=>?_⟩⟩⟩
   have jL:=gR.other f4 G4 nm
   have hr:pV st1 (.load x o wo we)=none:=EZ hx0 hxs (by rw[eow];exact YD) w1 v0
   have db:CY (.load x o wo we):=⟨kU hx0,kU (fW.on o YD),⟨by omega,w2⟩,⟨by omega,by omega⟩⟩
   exact⟨ρ4,A3,B4,_,_,_,_,_,_,Z,jL,xo,KN (d:=.load x o wo we) fW gT.g dB.wf (by omega) (by omega) hr db (λz=>nomatch z) (by omega) (by omega),gT.do (d:=.load x o wo we) (by omega) (by omega) eo hr db.g,E_ (d:=.load x o wo we) ps1 fW gT.g dB.wf (by omega) hr (λz=>nomatch z),e3.trans uB,e4.trans oZ,su,(by show(st1.nms++[x]).length=i+1;rw[cW,YC];rfl),nxn _ rfl,o3.trans f4.out⟩
 rintro σ H1 ⟨ρ1,A1,B1,st1,b1,s6,s7,s8,s9,rfl,dB,hb1,fW,gT,ps1,uB,oZ,su,YC,uA,o1⟩
 rw[sH]at fW gT ps1
 exact q ρ1 A1 B1 st1 b1 H1 dB hb1 fW gT ps1 uB oZ su uA o1
abbrev xu:Stmt:=top 38
abbrev ua:Da Str:=["_law_script","_law_hold","_law_model_here","_law_names_here"]
abbrev OZ:Da Str:=ua.append ["_law_rows_here"]
def BR:aQ OZ ua (aD xu):=dm
theorem NC{T:TC}(F:At K mg "_law_prep" xu f fd)(aT:Dn P w K mg base 1 "_law_draw" gM (oO K))(xw:Dn P w K mg base 5 "_law_loads" rZ (MK T K))(mj:Dn P w K mg base 2 "_law_rows" o7 (GL K))(iA:Dn P w K mg base 2 "_law_model_cast" jc (GO K))(mz:Mn P w K mg base 4 T.hold "cast" oY (L0 T K))(bO:mg "len"=none)(jb:mg "list"=none):Dn P w K mg base 6 "_law_prep" ua (QT T K):=by
 refine F.oA BR λ_ _ _ _ H _ Q E hr h=>?_;obtain⟨⟨n,m,ρ,A,B,st,b,a,ln,ns,nms,rfl,nm,hh,hb,gd,gw,ps,ho,hS,h63,hN,nx,h6,en,q⟩⟩:=h;refine⟨_,(@cZ.h _ _ _ (aj (bQ (bh xw hr (af (qv 0) (af ai (af (qv 1) (af (qv 2) (af (qv 3) (af (aG b_ ai (bh aT hr (af (qv 0) (af ai (af ai (af ai ak)))))) ak))))))))
  (au (gh (aR iT (bh aT hr (af (qv 0) (af ai (af ai (af ai ak))))) ai (aZ _)) (aj (aS (i:=4) BR.nd (bh mj hr (af (qv 0) (af ai (af (bD (bU hr) (qv 2) aO) ak)))))
  (au (gh (aR iT (aY (cC K) (by rfl) bO d7 (af (qv 4) ak)) ai (aZ _)) (aj (bQ (bZ mz hr (qv 1) (af (nC (lR K) (by rfl) jb Gj (af (qv 4) ak)) ak)))
  (au (bQ (bh iA hr (af (qv 2) (af (qv 4) ak)))))) bM))) bM)))),?_⟩
 refine⟨_,Z,_,Z,_,Z,_,Z,_,Z,cR (hS _ _ (aK.refl _)) h63 (by decide) (by decide) (by decide) (by decide) λmd _ m0 m1=>⟨_,_,Z,Z,?_⟩⟩;obtain⟨BM,Su⟩:∃BM:Nat,2+md=(BM:Int):=⟨(2+md).toNat,by omega⟩
 refine⟨⟨n,m,ρ,A,B,st,b,a,ln,ns,4,nms,BM,by rw[<-Su];rfl,nm,hh,hb,gd,gw,ps,ho,hS,h63,by decide,by decide,hN,nx,by omega,by omega,en,λρ1 A1 B1 st1 b1 H1 dB hb1 fW gT ps1 uB oZ su uA o1=>?_⟩⟩;have m5:BM<=5:=by omega
 have e6:BM+(6-BM)=6:=by omega
 have dn:∀H2,aK H1 H2->Q .cy H2:=λH2 g2=>by have g6:=fW.up (6-BM);have w6:=gT.up (6-BM) (m':=600) (by omega);have p6:=(ps1.up (6-BM)).mono (show 0<=1 by omega);rw[e6]at g6 w6 p6;exact q ρ1 A1 B1 st1 b1 H2 (dB.mono g2) (hb1.mono g2) g6 w6 p6 uB oZ su uA (o1.trans (m_ g2))
 have C7:=hS _ _ o1;have pl:b1.ah.length<=BM:=by rw[<-fW.rel.len];exact gT.g.pl
 refine⟨λσ' H'=>Q .cy H',?_,λ_ _ y=>y⟩;refine⟨_,Z,cR C7 h63 (by decide) (by decide) (by decide) (by decide) λcd _ _ _=>⟨_,_,Z,Z,_,Z,c6 (λ_=>?_) (λ_=>?_)⟩⟩;rotate_left
 .exact dn H1 (aK.refl _)
 have Q5:H1 B.m=some (.dK (fB B1 b1.bot)):=by rw[<-oZ];exact hb1.om
 refine⟨_,Z,_,Z,B.m,_,Z,cg.k (k:=Sum.inr "parts") Q5,⟨⟨a,B1.lp,ns,10,_,mO b1,Z,C7,h63,by decide,by decide,aB.of hb1.op,hb1.nw,by unfold mO;rw[dJ];exact fW.fh.nd,by unfold mO;rw[aE];omega,λw hw=>by obtain⟨p,hp,rfl⟩:=aW.mp hw;exact fW.fh.w1 p hp,λz zs rs H2 g2 hz hz2 hR rok=>?_⟩⟩⟩;have zl:=hR.length;have iZ:=dB.mono g2;have hb2:=hb1.mono g2;have cz:ρ1 z=none:=dB.g.none hz;refine⟨λσ' H'=>Q .cy H',?_,λ_ _ y=>y⟩;refine⟨_,Z,z,_,Z,.inl (aB.of hz2),_,_,Z,Z,_,Z,c6 (λc0=>?_) (λc0=>?_)⟩;rotate_left
 .exact dn H2 g2
 have c1:0<rs.length:=by have:(0:Int)<((zs.length:Nat):Int):=dN c0;omega
 have hne:rs≠[] :=λe=>by rw[e]at c1;simp at c1
 obtain⟨cok,rb,bo⟩:=Oz fW dB.wf rok hne (by omega);refine⟨_,Z,A.a,A1.dx,_,Z,by rw[<-uB];exact iZ.h.oa,Z,_,Z,z,_,Z,.inl (aB.of hz2),λhd hhd=>?_⟩;have g3:=aH hhd (.lst zs);have QW:upd H2 hd (.lst zs) hd=some (.lst zs):=aq;have Vp:=g3 _ _ hz2;have hR3:=hR.mono g3.tups;have gR:=iZ.mono g3;have Az:=hb2.mono g3;have o3:aK (out ρ H) (out ρ1 (upd H2 hd (.lst zs))):=o1.trans (m_ (g2.trans g3));show qL _ (upd H2 hd (.lst zs)) _;generalize upd H2 hd (.lst zs)=H3 at *;refine⟨⟨n,ρ1,A1,st1,hd,zs,rs,by rw[uB];rfl,gR,aB.of QW,hR3,cok,λρ4 A4 H4 jL e4 f4=>?_⟩⟩;have xo:=Az.other f4 gR.g (cJ nm);obtain⟨ez,cz4⟩:=f4.at Vp cz;have hR4:=hR3.mono (f4.tup gR.g);refine⟨_,Z,_,Z,⟨⟨m,ρ4,B1,b1,z,zs,rs,by rw[oZ];rfl,jL.g,xo,fW.fh,aB.of ez,hR4,cz4,rb,cok.len,bo,λρ5 B5 H5 G5 Q6 e5 f5=>?_⟩⟩⟩;have en1:vd st1=mO b1:=by have:=ig (List.map λq:Q4=>((q.1,q.2.2.1):Row)) fW.rel.qd;unfold h_ lI at this;rw[dJ,dJ]at this;exact this
 have adF:Bf (vd st1) rs:=by rw[en1];exact rok
 have hr:pV st1 (.cast rs)=none:=E7 dB.wf adF hne;have db:CY (.cast rs):=Xc gT.g adF (by rw[fW.rel.len];omega) dB.wf;have g6:=(KN (d:=.cast rs) fW gT.g dB.wf (by omega) (by omega) hr db (λz=>nomatch z) (by omega) (by rw[<-fW.d9];have:=gT.g.kl;omega)).up (5-BM);have eo:st1.own.length<100:=by rw[fW.rel.own,su,<-gd.rel.own];exact ho
 have w6:=(gT.do (d:=.cast rs) (by omega) (by omega) eo hr db.g).up (5-BM) (m':=600) (by omega);have p6:=(E_ (d:=.cast rs) ps1 fW gT.g dB.wf (by omega) hr (λz=>nomatch z)).up (5-BM);rw[show BM+1+(5-BM)=6 by omega]at g6 w6 p6;exact q ρ5 A4 B5 _ _ H5 (jL.other f5 G5 nm) Q6 g6 w6 p6 (e4.trans uB) (e5.trans oZ) su (uA.keep (MC (d:=.cast rs) (λz=>nomatch z) (λz=>nomatch z))) ((o3.trans f4.out).trans f5.out)
abbrev r6:Stmt:=top 54
abbrev Sv:Da Str:=["_law_script"]
abbrev ae4:Da Str:=Sv.append ["_law_owners","_law_names_here","_law_hold","_law_model_here","_law_at_here","_law_part","_law_deed_here"]
def r8:aQ ae4 Sv (aD r6):=dm
theorem adG{T:TC}(F:At K mg "law" r6 f fd)(aT:Dn P w K mg base 1 "_law_draw" gM (oO K))(r_:Dn P w K mg base 2 "_law_names" rO (GB K))(xA:Dn P w K mg base 5 "_law_begin" rR (Qq T K))(xB:Dn P w K mg base 1 "_law_model" rQ (Qx K))(yC:Dn P w K mg base 6 "_law_prep" ua (QT T K))(vC:Dn P w K mg base 7 "_law_run" vB (U5 T K))(pM:Dn P w K mg base 5 "_law_purses" pL (Jg T K))(jz:Dn P w K mg base 6 "_law_hold_do" kZ (DB T K))(i7:Dn P w K mg base 5 "_law_model_do" ku (ur AlL K))(iI:Mn P w K mg base 3 T.hold "sign" l9 (Ci T))(cu:mg "range"=none)(bO:mg "len"=none):kN P w K mg base vM 8 f fd Sv (KI K):=by
 refine F.fn.ok r8 (λvs H Q E h=>?_) (λ_ _ _ _ H _ Q E hr h=>?_)
 .obtain ⟨a,ns,rfl,_⟩:=h;rfl
 obtain⟨a,ns,rfl,hS,h63,q⟩:=h;refine⟨_,(@cZ.h _ _ _ (aj (aS (i:=1) r8.nd (bh r_ hr (af (qv 0) (af ai (af (aG b_ ai (bh aT hr (af (qv 0) (af ai (af ai (af ai ak)))))) ak)))))
  (aj (aS (i:=2) r8.nd (bh r_ hr (af (qv 0) (af ai (af ai ak)))))
  (aj (aS (i:=3) r8.nd (bh xA hr (af (qv 1) ak)))
  (aj (aS (i:=4) r8.nd (bh xB hr (af (qv 1) ak)))
  (aj (bQ (bh yC hr (af (qv 0) (af (qv 3) (af (qv 4) (af (qv 2) ak))))))
  (aj (bQ (bh vC hr (af (qv 0) (af ai (af (qv 3) (af (qv 4) (af (qv 2) (af (bh aT hr (af (qv 0) (af ai (af ai (af ai ak))))) ak))))))))
  (aj (fj fT rfl (gZ (by rfl) cu (af (bh aT hr (af (qv 0) (af ai (af ai (af ai ak))))) ak)) (aV (i:=5) r8.nd) (aj (gh (aR iT (aY (cC K) (by rfl) bO d7 (af (bD (bU hr) (qv 4) aO) ak)) ai (aZ _)) (aj (aS (i:=6) r8.nd (aF (aM K) (bD (bU hr) (qv 4) aO) (bh aT hr (af (qv 0) (af (aG b_ ai (qv 5)) (af ai (af (aY (cC K) (by rfl) bO d7 (af (bD (bU hr) (qv 4) aO) ak)) ak)))))))
  (aj (aS (i:=7) r8.nd (iN (af aO (af (aF (aM K) (qv 6) ai) ak))))
  (aj (bQ (bh jz hr (af (qv 3) (af (qv 7) ak))))
  (au (bQ (bh i7 hr (af (qv 4) (af (qv 7) ak)))))))) bM)
  (aj (gh (aR dG (bh aT hr (af (qv 0) (af (aG b_ ai (qv 5)) (af ai (af ai ak))))) ai (aZ _)) (au (bQ (bh vC hr (af (qv 0) (af (aG b_ ai (qv 5)) (af (qv 3) (af (qv 4) (af (qv 2) (af ai ak))))))))) bM)
  (aj (c5 (bW.pt (oV (aR dG (qv 5) ai (aZ _)) (qu (q_ (ny (bh pM hr (af (qv 3) (af (qv 4) ak)))))))) (au (bH z8)) bM)
  (au (gh (ju (bW.pt (oV (aR dG (qv 5) ai (aZ _)) (qu (aR Li aO (qv 1) (by with_unfolding_all rfl)))))) (aj (bQ (bZ iI hr (qv 3) (af aO ak)))
  (aj (bQ (kh mY mW mX d8 (bD (bU hr) (qv 4) aO) (af aO ak)))
  (au (fj fT rfl (dH K (bD (bU hr) (qv 4) aO)) (aV (i:=6) r8.nd) (au (bQ (kh mY mW mX d8 (aF (aM K) (qv 6) ai) (af ai ak)))))))) bM))))))
  (au (bH (bh pM hr (af (qv 3) (af (qv 4) ak))))))))))))),?_⟩
 refine⟨_,Z,_,Z,cR hS h63 (by decide) (by decide) (by decide) (by decide) λod _ o0 o1=>⟨_,_,Z,Z,?_⟩⟩;obtain⟨no,hno⟩:∃no:Nat,1+od=(no:Int):=⟨(1+od).toNat,by omega⟩
 refine Ij hno hS h63 (by decide) (by omega) λzo nso H1 g1 hzo _ akU adH adI=>?_;have C7:=g1.seq hS;refine⟨_,Z,Ij (show(6:Int)=((6:Nat):Int)from rfl) C7 h63 (by decide) (by decide) λzn nsn H2 g2 hzn _ akV adK adL=>?_⟩;have Jl:=g2.seq C7;have ND:=g2 _ _ hzo;rw[Zv]at ND hzn;have fD:=Qs nso;have hnl:=Qs nsn;have uO:=Ir adH;have Sw:=Ui adI;have nmN:=Ir adK;have ah8:=Ui adL;generalize ES nso=own at *;generalize ES nsn=nms at *;clear adH adI adK adL hzo;refine⟨_,Z,⟨⟨zo,own,0,λ_=>none,Z,aB.of ND,Z,uO,λo ho=>(Sw o ho).isNm,by omega,(λb c e=>by cases e),λρ3 A3 H3 gR F3=>?_⟩⟩⟩;have o3:aK (out (λ_=>none) H2) (out ρ3 H3):=F3.out;have hx3:=gR;refine⟨_,Z,⟨⟨zo,own,1,ρ3,Z,F3.seq (aB.of ND) rfl,gR.g,by omega,λρ4 B4 H4 G4 xo k4=>?_⟩⟩⟩;have F4:Fr 1 ρ3 H3 ρ4 H4:=λb o e _=>k4 b o e;have jL:=gR.other F4 G4 (by decide);have o4:=o3.trans F4.out;have fS:=(um.of Jl).go o4;have fN:=(um.of (aB.of (K:=K) hzn)).go o4;have hS4:=fS _ _ (aK.refl _);obtain⟨YE,en4⟩:=gd0 (own:=own) (by omega) (by omega) (λo ho=>(Sw o ho).isNm);have gw4:=gw0 uO (by omega) (by omega) (λo ho=>(Sw o ho).isNm);have nx4:Nx nms (ki own):=acz nmN (λx hx=>(ah8 x hx).isNm);have eo4:=Z2 own;have jL:HH T 0 ρ4 A3 H4 (ki own):=jL;have YE:dj 0 (ki own) ⟨own,[],1,[],[]⟩:=YE;have fO:=(um.of (aB.of (K:=K) ND)).go o4;have ps4:mP 0 0 (ki own) ⟨own,[],1,[],[]⟩:=ahW own;have en5:(ki own).nms=[] :=(gd0 (own:=own) (by omega) (by omega) (λo ho=>(Sw o ho).isNm)).2;generalize ki own=st4 at *;obtain⟨x,eA⟩:∃x,A3.a=x:=⟨_,rfl⟩
 rw[eA];refine⟨_,Z,_,Z,_,Z,_,Z,⟨⟨0,1,ρ4,A3,B4,st4,_,a,zn,ns,nms,by rw[eA];rfl,by decide,jL,xo,YE,gw4,ps4,by rw[eo4];omega,fS,h63,fN,nx4,by omega,en5,λρ5 A5 B5 yH b5 H5 C3 Q6 Vr YF YG Q7 xj NF YH o5=>?_⟩⟩⟩;have YI:=fS.go o5;have fN5:=fN.go o5;have fO5:=fO.go o5;have NF:b5.own=own:=NF;have es5:=Vr.rel.own.trans NF;rw[eA]at Q7;generalize B4.m=mm at *;clear jL xo YE gw4 ps4 gR k4 F4 F3 o3 o4 hzn ND Jl C7 hS hS4 fN fS fO o5 G4 g1 g2 eA nx4;refine⟨_,Z,_,Z,_,Z,_,Z,_,Z,cR (YI _ _ (aK.refl _)) h63 (by decide) (by decide) (by decide) (by decide) λrd _ r0 r1=>?_⟩;obtain⟨BM,Su⟩:∃BM:Nat,rd=(BM:Int):=⟨rd.toNat,by omega⟩
 subst Su;refine⟨⟨0,1,6,1,600,ρ5,A5,B5,yH,b5,a,zn,ns,11,nms,BM,by rw[Q7,xj];rfl,by decide,C3,Q6,Vr,YF,YG,by omega,by omega,by rw[es5];omega,YI,h63,by decide,by decide,fN5,YH,by omega,λρ6 A6 B6 st6 b6 H6 yY Vq Vs Vt Vu YJ YK Vv nx6 o6=>?_⟩⟩;have e9:6+BM+(3-BM)=9:=by omega
 have Vs:=Vs.up (3-BM);have Vt:=Vt.up (3-BM) (m':=5000) (by omega);have Vu:=(Vu.up (3-BM)).mono (show 1+BM<=4 by omega);rw[e9]at Vs Vt Vu;have YJ:=YJ.trans Q7;have YK:=YK.trans xj;have Vv:=Vv.trans NF;have fS6:=YI.go o6;have fN6:=fN5.go o6;have fO6:=fO5.go o6;clear C3 Q6 Vr YF YG Q7 xj NF YH YI fN5 fO5 o6 es5 e9;refine⟨_,Z,cR (fS6 _ _ (aK.refl _)) h63 (by decide) (by decide) (by decide) (by decide) λld _ l0 l1=>⟨_,Z,by omega,by omega,?_⟩⟩;refine iK (lo:=0) (n:=ld.toNat) (λi σ H'=>∃ρ' A' B' st' b' s5 s6 s7,σ=[some (.ref a),some (.ref zo),some (.ref zn),some (.ref x),some (.ref mm),s5,s6,s7]/\HH T 0 ρ' A' H' st'/\aU 1 ρ' B' H' b'/\dj (9+3*i) st' b'/\GW (9+3*i) (5000+300*i) st'/\mP (9+3*i) (4+2*i) st' b'/\A'.a=x/\B'.m=mm/\(i<=1->b'.own=own)/\b'.own.length<=10/\Nx nms st'/\um K ρ' H' a (ns.map V.int)/\um K ρ' H' zn (nms.map V.str)/\um K ρ' H' zo (own.map V.str))
  ⟨ρ6,A6,B6,st6,b6,_,_,_,Z,yY,Vq,Vs,Vt,Vu,YJ,YK,λ_=>Vv,by rw[Vv];omega,nx6,fS6,fN6,fO6⟩ ?_ ?_
 .clear yY Vq Vs Vt Vu YJ YK Vv nx6 fS6 fN6 fO6;rintro i σ H1 hi ⟨ρ1,A1,B1,st1,b1,s5,s6,s7,rfl,dB,hb1,fW,gT,ps1,uB,oZ,eb1,bl1,uA,YL,fN1,fO1⟩;have hi:i<4:=by omega
  have e0:(0:Int)+(i:Int)=((i:Nat):Int):=by omega
  rw[e0];have Q5:H1 mm=some (.dK (fB B1 b1.bot)):=by rw[<-oZ];exact hb1.om
  have xh:(B1.qs.map λq=>V.ref q.1).length=b1.ah.length:=by rw[aE];exact hb1.ql
  have su:st1.own.length<100:=by rw[fW.rel.own];omega
  have kn1:=gT.kn;have YB:=uA.pl dB.wf;have kl1:=gT.g.kl;have al1:=gT.g.al;refine⟨λσ' H'=>∃ρ' A' B' st' b' s6 s7,σ'=[some (.ref a),some (.ref zo),some (.ref zn),some (.ref x),some (.ref mm),some (.int (i:Int)),s6,s7]/\HH T 0 ρ' A' H' st'/\aU 1 ρ' B' H' b'/\dj (9+3*i+1) st' b'/\GW (9+3*i+1) (5000+300*i+100) st'/\mP (9+3*i+1) (4+2*i+1) st' b'/\A'.a=x/\B'.m=mm/\b'.own=b1.own/\Nx nms st'/\aK (out ρ1 H1) (out ρ' H'),?_,?_⟩
  .refine ⟨_,Z,mm,_,Z,cg.k (k:=Sum.inr "parts") Q5,B1.lp,_,Z,.inl (aB.of hb1.op),_,_,Z,Z,_,Z,c6 (λcc=>?_) (λcc=>?_)⟩;rotate_left
   .exact ⟨ρ1,A1,B1,st1,b1,_,_,Z,dB,hb1,fW.mono,gT.up 1 (by omega),(ps1.up 1).mono (by omega),uB,oZ,Z,uA,aK.refl _⟩
   have p0:0<b1.ah.length:=by have:=dN cc;rw[xh]at this;omega
   refine⟨_,Z,mm,_,Z,cg.k (k:=Sum.inr "parts") Q5,_,Z,_,Z,_,_,Z,Z,_,Z,mm,_,Z,cg.k (k:=Sum.inr "parts") Q5,B1.lp,_,Z,.inl (aB.of hb1.op),cR (YL _ _ (aK.refl _)) h63 (by omega) (by decide) (by omega) (by omega) λd _ d0 d1=>?_⟩;rw[xh]at d1;obtain⟨j,hj⟩:∃j:Nat,d=(j:Int):=⟨d.toNat,by omega⟩
   subst hj;obtain⟨p,ep⟩:∃p,b1.ah[j]?=some p:=⟨_,bf (by omega)⟩
   obtain⟨qq,lU,r1,r2,_,_⟩:=hb1.find ep;refine⟨B1.lp,_,_,_,Z,Z,aB.of hb1.op,aC (j:=j) (by rw[bV,lU];rfl),?_⟩;refine⟨_,Z,qq.1,_,_,_,Z,Z,aB.of r1,aC (j:=0) rfl,(iO 2),λz hz=>?_⟩;have g2:=aH hz (.tup (Dd.v (.land p.nm)));have hz2:upd H1 z (.tup (Dd.v (.land p.nm))) z=some (.tup (Dd.v (.land p.nm))):=aq;show lE 7 (.ref z) _ (upd H1 z (.tup (Dd.v (.land p.nm)))) _;generalize upd H1 z (.tup (Dd.v (.land p.nm)))=H2 at *;obtain⟨p',sf,en',_⟩:=fW.rel.at ep;have pm:=bg sf;have Vw:pV st1 (.land p.nm)=none:=by show qX st1 p.nm=none;unfold qX;rw[ay (show p.nm∈fV st1 by rw[<-en'];exact aW.mpr ⟨p',pm,Z⟩)]
   have d2:CY (.land p.nm):=by rw[<-en'];exact kU (gT.g.nk _ (dB.wf.sub p' pm))
   have d4:(Dd.land p.nm).k≠0:=λz=>nomatch z
   have d3:Nx nms (jQ st1 (.land p.nm)):=uA.keep (MC (d:=.land p.nm) (λz=>nomatch z) (λz=>nomatch z));refine⟨_,Z,_,Z,⟨⟨0,9+3*i,ρ1,A1,st1,z,.land p.nm,by rw[uB];rfl,dU.of hz2,dB.mono g2,gT.g,by omega,by omega,su,Vw,λρ3 A3 H3 gR ye F3=>?_⟩⟩⟩;have Az:=(hb1.mono g2).other F3 (dB.g.same g2) (by decide);have Vp:H3 z=some (.tup (Dd.v (.land p.nm))):=(F3 z _ hz2 (λt w e=>by rw[(dB.g.same g2).tup hz2]at e;cases e)).1;have Jo:=KN fW gT.g dB.wf (by omega) (by omega) Vw d2 d4 (by rw[<-fW.rel.len];omega) (by rw[<-fW.d9];omega);refine⟨_,Z,_,Z,⟨⟨1,9+3*i,ρ3,B1,b1,st1,z,.land p.nm,by rw[oZ];rfl,Vp,gR.g,Az,fW,by omega,dB.wf,⟨d4,⟨9+3*i,gT.g,by omega⟩,by omega,by omega,by omega⟩,d2,Vw,λρ4 B4 H4 G4 xo Vf F4=>?_⟩⟩⟩;exact⟨ρ4,A3,B4,_,_,_,_,Z,gR.other F4 G4 (by decide),xo,Jo,gT.do (by omega) (by omega) su Vw d2.g,E_ ps1 fW gT.g dB.wf (by omega) Vw d4,ye.trans uB,Vf.trans oZ,IQ _ _,d3,((m_ g2).trans F3.out).trans F4.out⟩
  rintro σ H2 ⟨ρ2,A2,B2,st2,b2,s6,s7,rfl,iZ,hb2,Jo,gw2,ps2,YM,BL,YN,nx2,o2⟩;have YO:=YL.go o2;have fN2:=fN1.go o2;have fO2:=fO1.go o2;have Ve:st2.own.length<100:=by rw[Jo.rel.own,YN];omega
  clear dB hb1 fW gT ps1 uB oZ uA YL fN1 fO1 Q5 xh su kn1 YB kl1 al1 o2;refine⟨λσ' H'=>∃ρ' A' B' st' b',σ'=[some (.ref a),some (.ref zo),some (.ref zn),some (.ref x),some (.ref mm),some (.int (i:Int)),s6,s7]/\HH T 0 ρ' A' H' st'/\aU 1 ρ' B' H' b'/\dj (9+3*i+2) st' b'/\GW (9+3*i+2) (5000+300*i+200) st'/\mP (9+3*i+2) (4+2*i+2) st' b'/\A'.a=x/\B'.m=mm/\b'.own=b1.own/\Nx nms st'/\aK (out ρ2 H2) (out ρ' H'),?_,?_⟩
  .refine ⟨_,Z,_,Z,_,_,Z,Z,cR (YO _ _ (aK.refl _)) h63 (by omega) (by decide) (by decide) (by decide) λdw _ _ _=>⟨Z,_,Z,c6 (λ_=>?_) (λ_=>?_)⟩⟩
   .refine ⟨_,Z,_,Z,_,_,Z,Z,_,Z,_,Z,_,Z,⟨⟨0,1,9+3*i+1,4+2*i+1,5000+300*i+100,ρ2,A2,B2,st2,b2,a,zn,ns,30+i,nms,1,by rw[YM,BL];rfl,by decide,iZ,hb2,Jo,gw2,ps2,by omega,by omega,Ve,YO,h63,by omega,by omega,fN2,nx2,by omega,λρ3 A3 B3 st3 b3 H3 gR Az FL Q8 Q9 ye C5 Vx YQ o3=>?_⟩⟩⟩;exact⟨ρ3,A3,B3,st3,b3,Z,gR,Az,FL,Q8,Q9,ye.trans YM,C5.trans BL,Vx.trans YN,YQ,o3⟩
   .exact ⟨ρ2,A2,B2,st2,b2,Z,iZ,hb2,Jo.mono,gw2.up 1 (by omega),(ps2.up 1).mono (by omega),YM,BL,YN,nx2,aK.refl _⟩
  rintro σ H3 ⟨ρ3,A3,B3,st3,b3,rfl,gR,Az,FL,Q8,Q9,ye,C5,Vx,YQ,o3⟩;have fS3:=YO.go o3;have fN3:=fN2.go o3;have fO3:=fO2.go o3;clear iZ hb2 Jo gw2 ps2 YM BL YN nx2 YO fN2 fO2 Ve o3;refine(λ(k:∀H4,aK H3 H4->Wr _ _ _ _ _ H4)=>(⟨_,Z,Z,_,Z,c6 (λc0=>⟨_,Z,_,Z,⟨⟨0,1,9+3*i+2,4+2*i+2,ρ3,A3,B3,st3,b3,by rw[ye,C5];rfl,gR,Az,FL,Q9,Q8.g,by omega,by omega,λH4 g4=>⟨_,Z,bq (k H4 g4)⟩⟩⟩⟩) (λc0=>bq (k H3 (aK.refl _)))⟩)) ?_;intro H4 g4;have jL:=gR.mono g4;have xo:=Az.mono g4;have fS4:=fS3.go (m_ g4);have fN4:=fN3.go (m_ g4);have fO4:=fO3.go (m_ g4);have b3l:b3.own.length<=10:=by rw[Vx];exact bl1
  refine⟨λσ' H'=>∃ρ' A' B' st' b' Q_,σ'=[some (.ref a),some (.ref zo),some (.ref zn),some (.ref x),some (.ref mm),some (.int (i:Int)),Q_,s7]/\HH T 0 ρ' A' H' st'/\aU 1 ρ' B' H' b'/\dj (9+3*i+2+1) st' b'/\GW (9+3*i+2+1) (5000+300*i+200) st'/\mP (9+3*i+2+1) (4+2*i+2) st' b'/\A'.a=x/\B'.m=mm/\(i+1<=1->b'.own=own)/\b'.own.length<=10/\Nx nms st'/\aK (out ρ3 H4) (out ρ' H'),?_,?_⟩
  .refine ⟨decide (i=1/\("late":Str)∉own),⟨_,Z,Z,_,Z,c6 (λcc=>?_) (λcc=>?_)⟩,c6 (λcc=>?_) (λcc=>?_)⟩
   .have e1:i=1:=by have:=V.int.inj (dN cc);omega
    refine⟨_,Z,zo,_,Z,.inl (fO4 _ _ (aK.refl _)),Z,Uj _,_,Z,?_,Z⟩;show(!Ic (.str "late") (own.map V.str))=_;rw[WK];by_cases h:("late":Str)∈own
    .rw [bR h,c9 (λz=>z.2 h)];rfl
    .rw [c9 h,bR ⟨e1,h⟩];rfl
   .refine ⟨?_,Z⟩;have e1:i≠1:=λe=>cc (bR (by rw[e];rfl));exact(c9 (λz=>e1 z.1)).symm
   .obtain ⟨e1,hno⟩:=dN cc;have NG:b3.own=own:=Vx.trans (eb1 (by omega));have Lx:=FL.rel.own.trans NG;have late:isNm "late"=true:=by decide +kernel
    have Lz:("late":Str)∉st3.own:=by rw[Lx];exact hno
    refine⟨_,Z,x,A3.dx,_,Z,by rw[<-ye];exact jL.h.oa,Z,⟨⟨0,ρ3,A3,st3,"late",by rw[ye];rfl,jL,late,Lz,by rw[Lx];omega,λρ7 A7 H7 C4 ea7 F7=>?_⟩⟩⟩;have Jp:=xo.other F7 jL.g (by decide);have om7:H7 mm=some (.dK (fB B3 b3.bot)):=by rw[<-C5];exact Jp.om
    refine⟨_,Z,mm,_,Z,cg.k (k:=Sum.inr "owners") om7,.inl ⟨Z,_,aB.of Jp.oo⟩,B3.lo,_,_,Z,Z,Jp.oo,by rw[aE,NG];exact c8 (by omega),?_⟩;rw[show b3.own.map V.str++[V.str "late"]=(b3.own++[("late":Str)]).map V.str from by rw[bN];rfl];have hb8:=Jp.set_own C4.g (b3.own++[("late":Str)]);have G8:=C4.g.wr (a:=B3.lo) (o:=.lst ((b3.own++[("late":Str)]).map V.str)) rfl;have F8:Fr 1 ρ7 H7 ρ7 (upd H7 B3.lo (.lst ((b3.own++[("late":Str)]).map V.str))):=Fr.write Jp.co;have Yr:=C4.other F8 G8 (by decide);show SQ _ _ _ (upd H7 B3.lo (.lst ((b3.own++[("late":Str)]).map V.str)));generalize upd H7 B3.lo (.lst ((b3.own++[("late":Str)]).map V.str))=H8 at *;have om8:H8 mm=some (.dK (fB B3 b3.bot)):=by rw[<-C5];exact hb8.om
    refine⟨_,Z,mm,_,Z,cg.k (k:=Sum.inr "parts") om8,B3.lp,Z,⟨_,aB.of hb8.op⟩,?_⟩;refine kG (K:=K) (xs:=B3.qs.map λq=>V.ref q.1) (λl σ H'=>∃Q_,σ=[some (.ref a),some (.ref zo),some (.ref zn),some (.ref x),some (.ref mm),some (.int (i:Int)),Q_,s7]/\Gh ρ7 H'/\aU 1 ρ7 B3 H' { b3 with own:=b3.own++[("late":Str)],ah:=Ja l b3.ah }/\Fr 1 ρ7 H8 ρ7 H') ⟨_,Z,G8,hb8,Fr.refl⟩ (λi σ H' _ hp=>by obtain⟨_,_,_,h,_⟩:=hp;exact aB.of h.op) ?_ ?_
    .rintro l y σ H9 hy ⟨Q_,rfl,G9,BI,F9⟩;rw[bV]at hy;obtain⟨qq,eq,rfl⟩:=mZ.mp hy;have hib:l<b3.ah.length:=by rw[<-xo.ql];exact(dM.mp eq).1
     obtain⟨p,ei⟩:∃p,b3.ah[l]?=some p:=⟨_,bf hib⟩
     have ei':=U1 ei;obtain⟨r1,r2,c1,c2⟩:=BI.pt l p qq ei' eq;have tl:=FL.fh.tl p (bg ei);refine⟨_,Z,qq.1,_,_,_,Z,Z,aB.of r1,aC (j:=4) rfl,.inl ⟨Z,_,aB.of r2⟩,qq.2,_,_,Z,Z,r2,by rw[aE,tl,NG];exact c8 (by omega),?_⟩;rw[show p.tops.map V.int++[V.int 0]=(p.tops++[0]).map V.int from by rw[bN];rfl];have s:=BI.MA G9 (p.tops++[0]) ei' eq (by show((Ja l b3.ah).map _).Nodup;rw[U3];exact FL.fh.nd);have es:=QO ei;exact⟨_,Z,G9.wr rfl,by rw[<-es];exact s,F9.trans (Fr.write c2)⟩
    rintro σ H9 ⟨Q_,rfl,G9,BI,F9⟩;rw[aE,xo.ql,Z7]at BI;have BI:aU 1 ρ7 B3 H9 (Ac b3 "late"):=BI;have Ys:=Yr.other F9 G9 (by decide);have ps9:mP (9+3*i+2+1) (4+2*i+2) (fu st3 "late") (Ac b3 "late"):=by obtain⟨xx,yy,y1,y2,y3,y4⟩:=Q9.xy;exact⟨aab Q9.pu FL Q8.g jL.wf late Lz,⟨xx,yy,y1,y2,y3,y4⟩⟩
    refine⟨ρ7,A7,B3,fu st3 "late",Ac b3 "late",_,Z,Ys,BI,Z5 FL jL.wf late (by rw[NG];omega),Z8 Q8 late Lz (by rw[Lx];omega),ps9,ea7.trans ye,C5,(λz=>absurd z (by omega)),?_,YQ.keep rfl,(F7.out.trans F8.out).trans F9.out⟩;show(b3.own++[("late":Str)]).length<=10;rw[cW,NG];show own.length+1<=10;omega
   .exact ⟨ρ3,A3,B3,st3,b3,_,Z,jL,xo,FL.mono,Q8.up 1 (aL _),Q9.up 1,ye,C5,(λz=>Vx.trans (eb1 (by omega))),b3l,YQ,aK.refl _⟩
  rintro σ H5 ⟨ρ5,A5,B5,yH,b5,Q_,rfl,C3,Q6,Vr,YF,YG,Q7,xj,NF,bl5,YH,o5⟩;exact⟨ρ5,A5,B5,yH,b5,_,_,_,Z,C3,Q6,Vr,YF.up 0 (by omega),YG,Q7,xj,NF,bl5,YH,fS4.go o5,fN4.go o5,fO4.go o5⟩
 rintro σ H1 ⟨ρ1,A1,B1,st1,b1,s5,s6,s7,rfl,dB,hb1,fW,gT,ps1,uB,oZ,eb1,bl1,uA,YL,fN1,fO1⟩;exact⟨_,Z,_,Z,⟨⟨0,1,_,_,ρ1,A1,B1,st1,b1,by rw[uB,oZ];rfl,dB,hb1,fW,ps1,gT.g,by omega,by omega,λH2 _=>q H2⟩⟩⟩
end
def all_mk{l:PySem.W.OpenLaw}{w:World}{K:Fg}{h:Heap}{mg:SO}{fa:Addr}(X:K.In h)(G:h.Ns mainGlobals mg)(hfa:mg "law"=some (.ref fa)){f:Addr}{od an:Option Addr}{sl:Array (Option Value)}{oc kV dc pm cd ct:Value}(a:PySem.W.nsIn K mainGlobals "law"=some (some (.ref f)))(l1:K.lookup f=some ⟨oc,od,.func (PySem.W.fnOf "law" "law" (gG r6) (dX r6) (aD r6) .none kV dc pm an cd ct),sl⟩)(c:PySem.W.codeIn K cd "law"=true)(k:PySem.W.keepIn K (.ref f)=true)(FN:dh K "common_factor" p5)(Vy:dh K "made_of" Ae)(Vz:dh K "is_name" Af)(Hy:dh K "check_amount" rB)(NH:dh K "check_loss" uP)(NI:dh K "amounts_of" uQ)(FO:dh K "factor_of_all" p7)(O0:dh K "_law_draw" wQ)(O1:dh K "_law_name" wR)(NJ:dh K "_law_names" uZ)(O2:dh K "_law_much" wU)(Sx:dh K "_law_int" yt)(NK:dh K "_law_least" u0)(VA:dh K "_law_is" Ah)(NL:dh K "_law_model" u6)(O3:dh K "_law_seat" wW)(FP:dh K "_law_new_part" qb)(NN:dh K "_law_begin" u7)(VB:dh K "_law_at" Ai)(O4:dh K "_law_rows" wY)(O5:dh K "_law_flat" wZ)(DT:dh K "_law_part_deed" oK)(O6:dh K "_law_deed" w_)(O7:dh K "_law_bear" xg)(CF:dh K "_law_model_cast" nK)(DU:dh K "_law_model_one" oM)(FQ:dh K "_law_model_do" qe)(Hz:dh K "_law_hold_do" rV)(Sy:dh K "_law_run" yw)(FT:dh K "_law_stake_of" qg)(HB:dh K "_law_kept_of" rW)(FU:dh K "_law_purse_of" qh)(JV:dh K "_law_purses" tL)(NO:dh K "_law_loads" u_)(O8:dh K "_law_prep" xu)(ae5:PySem.W.nsIn K mainGlobals "len"=some none)(aae:PySem.W.nsIn K mainGlobals "range"=some none)(ae6:PySem.W.nsIn K mainGlobals "sum"=some none)(adV:PySem.W.nsIn K mainGlobals "list"=some none)(ae7:PySem.W.nsIn K mainGlobals "zip"=some none)(ae8:PySem.W.nsIn K mainGlobals "all"=some none)(ae9:PySem.W.nsIn K mainGlobals "int"=some none)(adW:PySem.W.nsIn K mainGlobals "bool"=some none)(ae_:PySem.W.nsIn K mainGlobals "str"=some none)(aaf:PySem.W.nsIn K mainGlobals "tuple"=some none)(afa:PySem.W.nsIn K mainGlobals "abs"=some none)(NP:PySem.W.nsIn K mainGlobals "isinstance"=some none)(afb:PySem.W.nsIn K mainGlobals "min"=some none){SA:Tok}(VC:PySem.W.nsIn K mainGlobals "LETTERS"=some (some (.str "abcdefghijklmnopqrstuvwxyz" SA))){cK:Addr}(aag:PySem.W.nsIn K mainGlobals "Hold"=some (some (.ref cK)))(aah:PySem.W.plainGet K cK Str.empty=true)(aai:PySem.W.hasDictIn K cK=true)(aaj:PySem.W.plainOver K cK=true)(aak:PySem.W.findIn K (.ref cK) "__setattr__"=some (some (.builtin "object.__setattr__")))(aal:PySem.W.makesIn K cK=true)(aam:PySem.W.keepIn K (.ref cK)=true)(O9:dP K cK "__init__" "Hold.__init__" wH)(FW:dP K cK "place_of" "Hold.place_of" p_)(HC:dP K cK "part_of" "Hold.part_of" rD)(DV:dP K cK "check_new" "Hold.check_new" oH)(NQ:dP K cK "whole" "Hold.whole" uS)(Aj:dP K cK "beyond_common" "Hold.beyond_common" kX)(HD:dP K cK "tops_of" "Hold.tops_of" rE)(O_:dP K cK "stow" "Hold.stow" wC)(Pa:dP K cK "sign" "Hold.sign" wD)(Pb:dP K cK "load" "Hold.load" wF)(JW:dP K cK "shares" "Hold.shares" tG)(FY:dP K cK "given_up" "Hold.given_up" qa)(JX:dP K cK "lessen" "Hold.lessen" tD)(NR:dP K cK "blend" "Hold.blend" uT)(Pc:dP K cK "cast" "Hold.cast" wI)(NS:dP K cK "award" "Hold.award" uV)(JY:dP K cK "mishap" "Hold.mishap" tK)(Pd:dP K cK "rise" "Hold.rise" wK)(Pe:dP K cK "hand" "Hold.hand" wL)(Pf:dP K cK "land" "Hold.land" wM)(NT:dP K cK "sever" "Hold.sever" uW)(DW:dP K cK "stake_top" "Hold.stake_top" oJ)(NU:dP K cK "stake" "Hold.stake" uX)(NV:dP K cK "purse" "Hold.purse" uY)(HE:dP K cK "fortune" "Hold.fortune" rM)(JZ:PySem.W.findIn K (.ref cK) "places"=some none)(J0:PySem.W.findIn K (.ref cK) "aboard"=some none)(J1:PySem.W.findIn K (.ref cK) "ashore"=some none)(NW:PySem.W.findIn K (.ref cK) "names"=some none)(J3:PySem.W.findIn K (.ref cK) "bottom"=some none)(J4:PySem.W.findIn K (.ref cK) "common"=some none)(J5:PySem.W.findIn K (.ref cK) "purses"=some none){iQ:Addr}(aan:PySem.W.nsIn K mainGlobals "Part"=some (some (.ref iQ)))(aao:PySem.W.plainGet K iQ Str.empty=true)(aap:PySem.W.hasDictIn K iQ=true)(aaq:PySem.W.plainOver K iQ=true)(aar:PySem.W.findIn K (.ref iQ) "__setattr__"=some (some (.builtin "object.__setattr__")))(aas:PySem.W.makesIn K iQ=true)(aat:PySem.W.keepIn K (.ref iQ)=true)(Pg:dP K iQ "__init__" "Part.__init__" wu)(Ph:PySem.W.findIn K (.ref iQ) "name"=some none)(NX:PySem.W.findIn K (.ref iQ) "owner"=some none)(NY:PySem.W.findIn K (.ref iQ) "worth"=some none)(J6:PySem.W.findIn K (.ref iQ) "weight"=some none)(NZ:PySem.W.findIn K (.ref iQ) "scale"=some none)(SD:PySem.W.findIn K (.ref iQ) "row"=some none){fR:Addr}(VD:PySem.W.nsIn K mainGlobals "Bottom"=some (some (.ref fR)))(VE:PySem.W.plainGet K fR Str.empty=true)(VF:PySem.W.hasDictIn K fR=true)(VG:PySem.W.plainOver K fR=true)(VH:PySem.W.findIn K (.ref fR) "__setattr__"=some (some (.builtin "object.__setattr__")))(VI:PySem.W.makesIn K fR=true)(VJ:PySem.W.keepIn K (.ref fR)=true)(J7:dP K fR "__init__" "Bottom.__init__" sZ)(J8:dP K fR "over" "Bottom.over" tF)(HF:dP K fR "share" "Bottom.share" rH)(J9:dP K fR "grow" "Bottom.grow" s_)(HG:PySem.W.findIn K (.ref fR) "steps"=some none)(DX:PySem.W.findIn K (.ref fR) "product"=some none)(HJ:PySem.W.findIn K (.ref fR) "known"=some none)
  :∃fd:FuncData,(∀(s:Shared)(v:Value),BindsTo s fd ⟨[v],[]⟩ [("_law_script",v)])/\∀base:Heap,K.In base->base.Ns mainGlobals mg->kN l.prog w K mg base vM 8 fa fd ["_law_script"] (KI K):=by
 have e:=hfa.symm.trans (PySem.W.mg_of X G a)
 cases e
 have afc:=XS (st:=r6) X G a l1 c k
 have yg:qK K fR:=⟨VE,VF,VG,VH⟩
 have dZ:qK K cK:=⟨aah,aai,aaj,aak⟩
 obtain⟨_,_,FZ⟩:=FN.at X G
 obtain⟨_,_,VL⟩:=Vy.at X G
 obtain⟨_,_,VM⟩:=Vz.at X G
 obtain⟨_,_,HK⟩:=Hy.at X G
 obtain⟨_,_,N1⟩:=NH.at X G
 obtain⟨_,_,N3⟩:=NI.at X G
 obtain⟨_,_,F0⟩:=FO.at X G
 obtain⟨_,_,Pj⟩:=O0.at X G
 obtain⟨_,_,Pk⟩:=O1.at X G
 obtain⟨_,_,N4⟩:=NJ.at X G
 obtain⟨_,_,Pn⟩:=O2.at X G
 obtain⟨_,_,SE⟩:=Sx.at X G
 obtain⟨_,_,N5⟩:=NK.at X G
 obtain⟨_,_,VN⟩:=VA.at X G
 obtain⟨_,_,N6⟩:=NL.at X G
 obtain⟨_,_,Po⟩:=O3.at X G
 obtain⟨_,_,F_⟩:=FP.at X G
 obtain⟨_,_,N7⟩:=NN.at X G
 obtain⟨_,_,VO⟩:=VB.at X G
 obtain⟨_,_,Pp⟩:=O4.at X G
 obtain⟨_,_,Pq⟩:=O5.at X G
 obtain⟨_,_,DY⟩:=DT.at X G
 obtain⟨_,_,Pr⟩:=O6.at X G
 obtain⟨_,_,Pu⟩:=O7.at X G
 obtain⟨_,_,CG⟩:=CF.at X G
 obtain⟨_,_,DZ⟩:=DU.at X G
 obtain⟨_,_,Ga⟩:=FQ.at X G
 obtain⟨_,_,HL⟩:=Hz.at X G
 obtain⟨_,_,SG⟩:=Sy.at X G
 obtain⟨_,_,Gb⟩:=FT.at X G
 obtain⟨_,_,HM⟩:=HB.at X G
 obtain⟨_,_,Gd⟩:=FU.at X G
 obtain⟨_,_,J_⟩:=JV.at X G
 obtain⟨_,_,N8⟩:=NO.at X G
 obtain⟨_,_,Pw⟩:=O8.at X G
 have bO:=sy X G ae5
 have cu:=sy X G aae
 have ff:=sy X G ae6
 have jb:=sy X G adV
 have jh:=sy X G ae7
 have Sb:=sy X G ae8
 have Sh:=sy X G ae9
 have Nk:=sy X G adW
 have akI:=sy X G ae_
 have vF:=sy X G aaf
 have Si:=sy X G afa
 have jN:=sy X G NP
 have rS:=sy X G afb
 have BC:=PySem.W.mg_of X G VC
 obtain⟨_,_,Px⟩:=O9.made X G aag aal aam
 obtain⟨_,_,Ge⟩:=FW.at dZ
 obtain⟨_,_,HN⟩:=HC.at dZ
 obtain⟨_,_,D0⟩:=DV.at dZ
 obtain⟨_,_,N9⟩:=NQ.at dZ
 obtain⟨_,_,Ak⟩:=Aj.at dZ
 obtain⟨_,_,HP⟩:=HD.at dZ
 obtain⟨_,_,Py⟩:=O_.at dZ
 obtain⟨_,_,Pz⟩:=Pa.at dZ
 obtain⟨_,_,PD⟩:=Pb.at dZ
 obtain⟨_,_,Ka⟩:=JW.at dZ
 obtain⟨_,_,Gf⟩:=FY.at dZ
 obtain⟨_,_,Kc⟩:=JX.at dZ
 obtain⟨_,_,N_⟩:=NR.at dZ
 obtain⟨_,_,PF⟩:=Pc.at dZ
 obtain⟨_,_,Oa⟩:=NS.at dZ
 obtain⟨_,_,Kd⟩:=JY.at dZ
 obtain⟨_,_,PJ⟩:=Pd.at dZ
 obtain⟨_,_,PK⟩:=Pe.at dZ
 obtain⟨_,_,PL⟩:=Pf.at dZ
 obtain⟨_,_,Ob⟩:=NT.at dZ
 obtain⟨_,_,D3⟩:=DW.at dZ
 obtain⟨_,_,Oc⟩:=NU.at dZ
 obtain⟨_,_,Od⟩:=NV.at dZ
 obtain⟨_,_,HQ⟩:=HE.at dZ
 obtain⟨_,_,PM⟩:=Pg.made X G aan aas aat
 obtain⟨_,_,Ke⟩:=J7.made X G VD VI VJ
 obtain⟨_,_,Kf⟩:=J8.at yg
 obtain⟨_,_,HR⟩:=HF.at yg
 obtain⟨_,_,Kg⟩:=J9.at yg
 have TX:Txt K ⟨cK,iQ,fR⟩:=⟨dZ,⟨aao,aap,aaq,aar⟩,yg,JZ,J0,J1,NW,J3,J4,J5,Ph,NX,NY,J6,NZ,SD,HG,DX,HJ⟩
 refine⟨PySem.W.fnOf "law" "law" (gG r6) (dX r6) (aD r6) .none kV dc pm an cd ct,λs v=> .of_eq rfl,λbase _ _=>?_⟩
 have iY:=DC (P:=l.prog) (w:=w) (base:=base) (mg:=mg) FZ
 have BB:=Sa (P:=l.prog) (w:=w) (base:=base) (mg:=mg) VL Sb
 have qz:=Se VM BB bO BC
 have mU:=DE (P:=l.prog) (w:=w) (base:=base) (mg:=mg) (e:=⟨0,0,0,0,0,0,0,0,0,0,0⟩) HK
 have AA:=GZ N1 mU
 have jw:=acD mU
 have nG:=acE AA
 have wJ:=Jv (P:=l.prog) (w:=w) (base:=base) (mg:=mg) N3 bO
 have rF:=DF F0 iY
 have DK:=G1 (P:=l.prog) (w:=w) (base:=base) (mg:=mg) Ke TX
 have yX:=MO (P:=l.prog) (w:=w) (base:=base) (mg:=mg) PM TX jb
 have Nq:=MW Px TX DK
 have uU:=Hf (P:=l.prog) (w:=w) (base:=base) (mg:=mg) Kg TX
 have eV:=Hl Kf TX iY
 have tH:=Fq HR TX eV
 have qi:=Cy (P:=l.prog) (w:=w) (base:=base) (mg:=mg) (e:=⟨0,0,0,0,0,0,0,0,0,0,0⟩) Ge TX
 have b7:=Xd qi
 have i8:=DI (P:=l.prog) (w:=w) (base:=base) (mg:=mg) (e:=⟨0,0,0,0,0,0,0,0,0,0,0⟩) HN TX
 have cV:=UX i8
 have vg:=BD (e:=⟨0,0,0,0,0,0,0,0,0,0,0⟩) D0 TX qz
 have jK:=acC vg
 have iy:=Jz (P:=l.prog) (w:=w) (base:=base) (mg:=mg) N9 TX ff
 have gu:=yW (P:=l.prog) (w:=w) (base:=base) (mg:=mg) Ak TX jh
 have gx:=Fj (P:=l.prog) (w:=w) (base:=base) (mg:=mg) HP TX jh
 have l_:=MR (P:=l.prog) (w:=w) (base:=base) (mg:=mg) Py TX
 have iI:=MS Pz TX qz bO
 have mw:=MT PD TX jK b7 gu l_ yX bO
 have rG:=DL (P:=l.prog) (w:=w) (base:=base) (mg:=mg) Gf TX ff jh
 have jU:=Hj (P:=l.prog) (w:=w) (base:=base) (mg:=mg) Kc TX
 have kY:=JB N_ TX rF uU jh
 have mz:=M_ PF TX wJ nG cV iy kY rG jU ff
 have HU:=Hq Ka TX cV gx tH jh
 have Kh:=Hr (e:=⟨0,0,0,0,0,0,0,0,0,0,0⟩) Oa TX qi mU iy kY bO
 have HV:=Ft (e:=⟨0,0,0,0,0,0,0,0,0,0,0⟩) Kd TX i8 AA jU
 have Oe:=JF (e:=⟨0,0,0,0,0,0,0,0,0,0,0⟩) PJ TX i8 mU
 have Of:=JG (e:=⟨0,0,0,0,0,0,0,0,0,0,0⟩) PK TX i8 qi gx gu
 have Og:=JH (e:=⟨0,0,0,0,0,0,0,0,0,0,0⟩) PL TX i8 b7 gx HU jh
 have Kl:=Ht (e:=⟨0,0,0,0,0,0,0,0,0,0,0⟩) Ob TX i8 vg l_ yX
 have iF:=CA D3 TX iy ff
 have adX:=JK Oc TX eV iF b7
 have xr:=JM Od TX eV b7
 have tN:=Fv HQ TX eV iF b7 ff
 have aT:=Ng (P:=l.prog) (w:=w) (base:=base) (mg:=mg) Pj bO cu
 have t8:=Nh (P:=l.prog) (w:=w) (base:=base) (mg:=mg) Pk cu
 have r_:=JN N4 aT t8 cu
 have iJ:=Nj Pn aT
 have vA:=OP (P:=l.prog) (w:=w) (base:=base) (mg:=mg) SE jN Sh Nk
 have wV:=JO (P:=l.prog) (w:=w) (base:=base) (mg:=mg) N5 Si
 have yf:=Sk VN vA wV jN vF bO
 have xB:=JQ (P:=l.prog) (w:=w) (base:=base) (mg:=mg) N6 jb
 have dQ:=Nn (P:=l.prog) (w:=w) (base:=base) (mg:=mg) Po bO cu
 have i6:=DN F_ dQ
 have xA:=JR (T:=⟨cK,iQ,fR⟩) N7 Nq iI
 have Gg:=Sl (P:=l.prog) (w:=w) (base:=base) (mg:=mg) VO bO cu
 have uz:=acj Gg
 have mj:=Nr Pp aT bO cu jb ff rS
 have yu:=Nt (P:=l.prog) (w:=w) (base:=base) (mg:=mg) Pq vF
 have qc:=CB DY aT iJ mj yu bO ff rS
 have yz:=Nu Pr aT iJ qc bO
 have mq:=Nv (P:=l.prog) (w:=w) (base:=base) (mg:=mg) Pu bO cu ff
 have iA:=BQ CG uz mq
 have qf:=CD DZ Gg dQ jb
 have i7:=DQ Ga qf i6 iA mq dQ bO cu
 have jz:=FF HL iI mw mz Kh HV Oe Of Og Kl bO cu
 have vC:=OY SG yz jz i7 cu
 have rY:=DR Gb dQ ff
 have tM:=FI (P:=l.prog) (w:=w) (base:=base) (mg:=mg) HM ff
 have rX:=DS Gd dQ bO rS
 have pM:=Hx J_ yf rX rY tM xr tN
 have xw:=JU N8 aT iJ i6 mw bO cu
 have yC:=NC (T:=⟨cK,iQ,fR⟩) Pw aT xw mj iA mz bO jb
 exact adG afc aT r_ xA xB yC vC pM jz i7 iI cu bO
def walk{l:PySem.W.OpenLaw}{q:Program}{loose:Da Str}{XP:(Str->Option Value)->Heap->Prop}{YP:World->Heap->Prop}{d:DefRec}{K:Params->Fg}(hn:l.most=some 63)(hdf:d.params.defaults=[])(hY:∀(w:World) (h:Heap),YP w h->(K w.params).In h)(F:∀(w:World) (mg:SO) (fa:Addr) (h:Heap),(K w.params).In h->h.Ns mainGlobals mg->mg d.name=some (.ref fa)->
    ∃fd:FuncData,(∀(s:Shared) (u:Value),BindsTo s fd ⟨[u],[]⟩ [("_law_script",u)])/\∀base:Heap,(K w.params).In base->base.Ns mainGlobals mg->kN l.prog w (K w.params) mg base vM 8 fa fd ["_law_script"] (KI (K w.params))):
  PySem.W.WalkO q loose XP YP l.row.toRowW d [] (λf vs=>PySem.call f vs):=
 L2.Za (n:=63) (k:=8) (x:="_law_script") (CX:=λ_=>vM) (sp:=λw=>KI (K w.params)) hn (by decide) hdf ⟨Z,by decide,by decide⟩ hY F (λ_ _ a ns hl _ hS=>⟨a,ns,Z,hS,hl,λ_=>rfl⟩) λ_ _ _ _ _ z=>z
end Law
namespace PySem.W.Fast
abbrev A:=True
theorem a:A:=⟨⟩
def tw4427137091144982699:A:=a
def tw15592979321431100708:A:=a
def tw2456285143780621004:A:=a
def tw9980404132679144966:A:=a
def tw13207899460698520165:A:=a
def tw9252311551932620041:A:=a
def tw1525203856248771006:A:=a
def tw16111486900128484825:A:=a
def tw10654991548476377665:A:=a
def tw3793426842004356230:A:=a
def tw18333946150929487195:A:=a
def tw14643459973025253799:A:=a
def tw15251465259803962743:A:=a
def tw6845712391322525174:A:=a
def tw14212077874643766785:A:=a
def tw11824828276925272391:A:=a
def tw13207614919758931322:A:=a
def tw5283470392514296257:A:=a
def tw12145933320068691534:A:=a
def tw4436762611444486076:A:=a
def tw12332490160952650158:A:=a
def tw17633242190772095987:A:=a
def tw13328701778289873017:A:=a
def tw15292362575081106145:A:=a
def tw3552508015876689831:A:=a
def tw14409921261905140751:A:=a
def tw16232792243541097631:A:=a
def tw9394148623229882415:A:=a
def tw9064675402996740153:A:=a
def tw642669959104929821:A:=a
def tw10451398450980342212:A:=a
def tw4426672483805335800:A:=a
def tw11084187591302958836:A:=a
def tw10609526621121226:A:=a
def tw1469063623650135607:A:=a
def tw6823437132146230356:A:=a
def tw11637859425955890551:A:=a
def tw4343690921774802780:A:=a
def tw18298660205165646600:A:=a
def tw16921771347846043639:A:=a
def tw17712371899052805856:A:=a
def tw13647104814453899065:A:=a
def tw2467556413707609483:A:=a
def tw2826138709883651087:A:=a
def tw13193729593270015655:A:=a
def tw8990155700440024831:A:=a
def tw12499155723146988309:A:=a
def tw3283025610195896926:A:=a
def tw6717749546486480450:A:=a
def tw10714522207705769278:A:=a
def tw16797028435361570880:A:=a
def tw11400211165114337771:A:=a
def tw2071476607507253808:A:=a
def tw5819339152485825946:A:=a
def tw4749481722249132249:A:=a
def tw914418040870563108:A:=a
def tw11562437809716116314:A:=a
def tw10307032869985154197:A:=a
def tw18139084941761099784:A:=a
def tw11070292623965089085:A:=a
def tw10225467918537303831:A:=a
def tw6817157402813684435:A:=a
def tw18206403168875556753:A:=a
def tw3352455692297289765:A:=a
def tw12180020141416365833:A:=a
def tw15231984968182188204:A:=a
def tw6542073301679872224:A:=a
def tw6941711186170254979:A:=a
def tw9937994810260563282:A:=a
def tw2573454641223508921:A:=a
def tw15970808246227263753:A:=a
def tw4695416278181853981:A:=a
def tw18359790400918678340:A:=a
def tw15350377390173199470:A:=a
def tw5858191527665969471:A:=a
def tw5541900030254684590:A:=a
def tw17167099231345771249:A:=a
def tw16339506653486717808:A:=a
def tw6084802951327015618:A:=a
def tw15077064926688795841:A:=a
def tw6675104045097183170:A:=a
def tw14521977309786385124:A:=a
def tw1236955981792872451:A:=a
def tw2662208495629819626:A:=a
def tw13401423884518827779:A:=a
def tw8754966532656306179:A:=a
def tw17101090755461490368:A:=a
def tw15793457920467126324:A:=a
def tw8375849637532622918:A:=a
def tw17181397591021404134:A:=a
def tw7979950046327318636:A:=a
def tw10917368884319094176:A:=a
def tw10010231864805441459:A:=a
def tw6764853320353527395:A:=a
def tw3646136977809399103:A:=a
def tw916832181529120918:A:=a
def tw9221018038433221287:A:=a
def tw9850777140211919735:A:=a
def tw11422506367767433025:A:=a
def tw12988311217461760694:A:=a
def tw10178278596957457150:A:=a
def tw6969214496428057523:A:=a
def tw13675134406513531672:A:=a
def tw5772136144034832841:A:=a
def tw10414919880612977217:A:=a
def tw9325697336470880492:A:=a
def tw15700786196592146601:A:=a
def tw10841827540882356998:A:=a
def tw5835410200330322361:A:=a
def tw13678573143912354718:A:=a
def tw7943370311342277898:A:=a
def tw14905887466173381509:A:=a
def tw6656451583170683033:A:=a
def tw7355447536146986267:A:=a
def tw11395004466126749807:A:=a
def tw7360478856809955509:A:=a
def tw6767097515819036561:A:=a
def tw10249006963390068705:A:=a
def tw3826993141746642873:A:=a
def tw15597589677763643606:A:=a
def tw2833034788635614196:A:=a
def tw9738184434484029161:A:=a
def tw9665620841817238279:A:=a
def tw16665557573294545297:A:=a
def tw3407257293379183673:A:=a
def tw11402653879001081436:A:=a
def tw16311748950742979926:A:=a
def tw15524938119709894422:A:=a
def tw11481392276353233401:A:=a
def tw17294879309380401231:A:=a
def tw11810530659874138202:A:=a
def tw11724903380798514948:A:=a
def tw876125770315136774:A:=a
def tw16655353968921905561:A:=a
def tw13888524592768918141:A:=a
def tw8284896265635134815:A:=a
def tw12791680383212124973:A:=a
def tw6887435739285092954:A:=a
def tw275349770660751367:A:=a
def tw17700171551800476404:A:=a
def tw2055847493744369092:A:=a
def tw6609639854509281328:A:=a
def tw14129723217486696693:A:=a
def tw13151537306507252644:A:=a
def tw10425389211771101948:A:=a
def tw5385039620382723892:A:=a
def tw3484021596522452701:A:=a
def tw7555591130428790199:A:=a
def tw15211987006671907211:A:=a
def tw13150459450178653438:A:=a
def tw8527459370048905827:A:=a
def tw15091290769601958276:A:=a
def tw16810461664893113554:A:=a
def tw260874336420810976:A:=a
def tw2859224548062146212:A:=a
def tw1021457979200761317:A:=a
def tw1427298305480803574:A:=a
def tw12405003497514636435:A:=a
def tw974348426379719514:A:=a
def tw12776455642380372480:A:=a
def tw38236777434838333:A:=a
def tw17385136798196144945:A:=a
def tw12578701012855121137:A:=a
def tw13523835840980258196:A:=a
def tw13195722161887037970:A:=a
def tw9950038903599524894:A:=a
def tw10738109526464692048:A:=a
def tw3570686434228767294:A:=a
def tw2018151180864775188:A:=a
def tw7804485449270769312:A:=a
def tw18057423894623927517:A:=a
def tw9440663658248315309:A:=a
def tw11364110101138525444:A:=a
def tw4918634499178186415:A:=a
def tw1019039308984125000:A:=a
def tw4843065925493322800:A:=a
def tw9061100522529013008:A:=a
def tw10152757861674083265:A:=a
def tw6605769247043910342:A:=a
def tw9291776950934453307:A:=a
def tw17291510306705620082:A:=a
def tw4582728003573272925:A:=a
def tw8074279635103471169:A:=a
def tw2879838082429172840:A:=a
def tw6369831080034085849:A:=a
def tw12963805746716193250:A:=a
def tw5939470501913937779:A:=a
def tw15450611662567334165:A:=a
def tw9063744405138323774:A:=a
def tw12399675195504075833:A:=a
def tw14641687233817652239:A:=a
def tw1634905508809757757:A:=a
def tw16873126485589853278:A:=a
def tw1822327853439502857:A:=a
def tw17196413062372467520:A:=a
def tw3435721844859437678:A:=a
def tw3325754383275371641:A:=a
def tw5014933542908161984:A:=a
def tw18280692272848370066:A:=a
def tw5596473973231595846:A:=a
def tw17377446060897259435:A:=a
def tw12148430155810273793:A:=a
def tw7951064193841336109:A:=a
def tw1717946855817295340:A:=a
def tw12353401753022956268:A:=a
def tw17941300838519336920:A:=a
def tw14215609518198996660:A:=a
def tw8992857864986773105:A:=a
def tw12656710829598039118:A:=a
def tw11021842751250363440:A:=a
def tw11316716246200936213:A:=a
def tw9034407348561104696:A:=a
def tw14427112383299129261:A:=a
def tw3940932423021331819:A:=a
def tw13424775354489414552:A:=a
def tw147141328803981609:A:=a
def tw15961864115676355981:A:=a
def tw14097287552571254783:A:=a
def tw16662350481448602582:A:=a
def tw4510388468906219248:A:=a
def tw7742910927895052061:A:=a
def tw14063239097361783352:A:=a
def tw12534258165493596575:A:=a
def tw8371574699745364132:A:=a
def tw10913415266728585138:A:=a
def tw4978404963642413111:A:=a
def tw16803392287114750063:A:=a
def tw7926311036404935332:A:=a
def tw11649766708207945639:A:=a
def tw2358126515414038178:A:=a
def tw17096574828670407897:A:=a
def tw7021889460827290875:A:=a
def tw11367168070034488843:A:=a
def tw9404885859739247482:A:=a
def tw6193484571954219938:A:=a
def tw4630741009573705633:A:=a
def tw4279877733182689350:A:=a
def tw2353765515458048550:A:=a
def tw18310113777343774917:A:=a
def tw17446189058504610804:A:=a
def tw3254283449744452296:A:=a
def tw13600993369903861441:A:=a
def tw8186141433901159034:A:=a
def tw17391163783044080670:A:=a
def tw4954732697609641776:A:=a
def tw12321073335657813886:A:=a
def tw4413197583232730326:A:=a
def tw3438504873316964668:A:=a
def tw1129809918548706387:A:=a
def tw328511702926921800:A:=a
def tw3569746814325371331:A:=a
def tw14442436464640777070:A:=a
def tw9006359746881002526:A:=a
def tw3974010044809645373:A:=a
def tw70820564885677397:A:=a
def tw4826078338765942370:A:=a
def tw10575349734095607802:A:=a
def tw3372333789428493882:A:=a
def tw8668992374466194744:A:=a
def tw9621177045985378412:A:=a
def tw12002229408557272217:A:=a
def tw7295338860155916690:A:=a
def tw2247492753065636092:A:=a
def tw16972674241302149862:A:=a
def tw14669533699938361755:A:=a
def tw9845230817867903824:A:=a
def tw8661053281689687671:A:=a
def tw7387338405990107196:A:=a
def tw8196086863081624545:A:=a
def tw18264422958474743066:A:=a
def tw291021940517980437:A:=a
def tw7095340231759911412:A:=a
def tw6621466022591746497:A:=a
def tw1570851070702898844:A:=a
def tw12688175547961437882:A:=a
def tw10080575986047118127:A:=a
def tw16443903477014995028:A:=a
def tw1999849378933453904:A:=a
def tw16124549534636057866:A:=a
def tw14155962138823248453:A:=a
def tw2634390202087732619:A:=a
def tw1784218191620765817:A:=a
def tw656457685229886205:A:=a
def tw16537286036568336526:A:=a
def tw2292133431707095704:A:=a
def tw9717850234702018884:A:=a
def tw17336715808630821501:A:=a
def tw17497257962487667921:A:=a
def tw11976096948681620785:A:=a
def tw18064920073295087420:A:=a
def tw17629829329798434981:A:=a
def tw2644772729547061393:A:=a
def tw294929548871655043:A:=a
def tw12820522256106068306:A:=a
def tw17918043092391310377:A:=a
def tw6103449401492863685:A:=a
def tw9210586770556993204:A:=a
def tw11382057930786269112:A:=a
def tw5961712566204977888:A:=a
def tw4280571088942082287:A:=a
def tw5959300307604568620:A:=a
def tw9629660073431313791:A:=a
def tw15841041914936986119:A:=a
def tw750101992977103515:A:=a
def tw16963036871041600836:A:=a
def tw16356679879786214701:A:=a
def tw1694829130410912108:A:=a
def tw9250228248846606453:A:=a
def tw3536186701293562974:A:=a
def tw4380886454066976165:A:=a
def tw1234555579312588564:A:=a
def tw13645778359194926256:A:=a
def tw12954159948787941090:A:=a
def tw7386893388990174967:A:=a
def tw10372273350573200909:A:=a
def tw1650313583190174608:A:=a
def tw1184329457920252266:A:=a
def tw1439219510866212351:A:=a
def tw14011316734489428966:A:=a
def tw15847571199499573328:A:=a
def tw14471326860661264242:A:=a
def tw8595152994709193101:A:=a
def tw13667332818252757380:A:=a
def tw17264887413149090637:A:=a
def tw6910301457211132798:A:=a
def tw11349043700267043576:A:=a
def tw5523623504596322376:A:=a
def tw12323778228207884585:A:=a
def tw7628248338377540124:A:=a
def tw11558978702788350629:A:=a
def tw10512815224252107677:A:=a
def tw9618005785784032100:A:=a
def tw416513104094142680:A:=a
def tw17866898845126404068:A:=a
def tw9092459017627867812:A:=a
def tw10277713506138961343:A:=a
def tw9286700559730093345:A:=a
def tw10768366153591656872:A:=a
def tw8410853015254564308:A:=a
def tw17863278836647229475:A:=a
def tw10247300852209390712:A:=a
def tw17388344918771494159:A:=a
def tw6629065865919015716:A:=a
def tw15137160789039579321:A:=a
def tw2253894308401845211:A:=a
def tw3481127334941299303:A:=a
def tw11335464245567306865:A:=a
def tw15884003454603714947:A:=a
def tw8725061379629585664:A:=a
def tw15724378557591271003:A:=a
def tw14026889618974803919:A:=a
def tw5852958185568614477:A:=a
def tw1770269421518308537:A:=a
def tw16716843510486958616:A:=a
def tw3815976487557370678:A:=a
def tw7155000408360047550:A:=a
def tw5379357311047626079:A:=a
def tw18418749524668716240:A:=a
def tw67626376254703847:A:=a
def tw9832265196691256763:A:=a
def tw13416583880090370654:A:=a
def tw11378293317398576985:A:=a
def tw12292292176820458228:A:=a
def tw8123763919039169550:A:=a
def tw6427647197046801394:A:=a
def tw16027219745789051163:A:=a
def tw7332911319197369647:A:=a
def tw6853306852955498388:A:=a
def tw14577970517349876354:A:=a
def tw10997646818725111208:A:=a
def tw10359111229163459974:A:=a
def tw17034683525930304555:A:=a
def tw15704364821471159427:A:=a
def tw4925129330331343211:A:=a
def tw7321955748781961181:A:=a
def tw13904916829871393733:A:=a
def tw10107665213125495452:A:=a
def tw8417041588578212964:A:=a
def tw4236564174499833883:A:=a
def tw16983597524986353768:A:=a
def tw11363929419313004698:A:=a
def tw10601695319785343395:A:=a
def tw4036314438326448726:A:=a
def tw126335268727390730:A:=a
def tw8146910989716361970:A:=a
def tw16185926459604580377:A:=a
def tw8245628392882700411:A:=a
def tw12092893811953812771:A:=a
def tw6593658820003609594:A:=a
def tw819839875314970789:A:=a
def tw17153194113585146637:A:=a
def tw193739283057844377:A:=a
def tw9983137647833835396:A:=a
def tw4690710805822874971:A:=a
def tw9279435277444791485:A:=a
def tw836983786921922755:A:=a
def tw5523443054089972455:A:=a
def tw1418801144938649674:A:=a
def tw17652850569972578899:A:=a
def tw14660421487692249435:A:=a
def tw2490178726936213961:A:=a
def tw16617817107682275352:A:=a
def tw10981127484360099315:A:=a
def tw18307719142284646186:A:=a
def tw3022967623200202372:A:=a
def tw47309720739691097:A:=a
def tw12739692012588201451:A:=a
def tw15406797058921963862:A:=a
def tw17333281562641291395:A:=a
def tw2800731207433958213:A:=a
def tw5739661741881571383:A:=a
def tw3632063023860047821:A:=a
def tw4369786053551697946:A:=a
def tw15917172050742917641:A:=a
def tw6681299778431488601:A:=a
def tw14462900649487872524:A:=a
def tw1187000056803035707:A:=a
def tw3053287128187063879:A:=a
def tw8644227789993758385:A:=a
def tw1354841435070510578:A:=a
def tw7478623071312325470:A:=a
def tw6934565740702765068:A:=a
def tw785321914617189367:A:=a
def tw13950730533781324232:A:=a
def tw11466193552703794371:A:=a
def tw7347518371859316170:A:=a
def tw11841561996207485183:A:=a
def tw4547151241993858363:A:=a
def tw10027665376231583639:A:=a
def tw588004632893957905:A:=a
def tw15305167129215616310:A:=a
def tw16373128960898464418:A:=a
def tw15652110502169488268:A:=a
def tw4149938137001742736:A:=a
def tw17414980063934842170:A:=a
def tw4666865662065929706:A:=a
def tw65343208917603903:A:=a
def tw17462190559287544403:A:=a
def tw15075698035896907793:A:=a
def tw15406257971800203791:A:=a
def tw15089916223062459163:A:=a
def tw4704719296931466891:A:=a
def tw260696295407020930:A:=a
def tw16938069397769234283:A:=a
def tw14654624669945507759:A:=a
def tw8906984354895005297:A:=a
def tw791521564869632372:A:=a
def tw16056942682350424272:A:=a
def tw6450224535539169055:A:=a
def tw12036339995224606947:A:=a
def tw4817265716803656626:A:=a
def tw10708375154575998846:A:=a
def tw681325185115871801:A:=a
def tw10438086367143589612:A:=a
def tw12013957012857664849:A:=a
def tw12476402704440063439:A:=a
def tw12215644622657068810:A:=a
def tw12608689005010523940:A:=a
def tw6631287337563993914:A:=a
def tw151342396975593371:A:=a
def tw2062727555463342242:A:=a
def tw17268576992321026517:A:=a
def tw2526019550390432789:A:=a
def tw10471960351810502916:A:=a
def tw9746607203729554808:A:=a
def tw6527000308907249813:A:=a
def tw8400931074136372038:A:=a
def tw4197274181200108842:A:=a
def tw15932678513076334817:A:=a
def tw1170063859641822448:A:=a
def tw17252330707950138363:A:=a
def tw2333877992298283344:A:=a
def tw16654079025378579287:A:=a
def tw7549313738914583739:A:=a
def tw4303064038542288556:A:=a
def tw7913369976241694751:A:=a
def tw5099734462634542294:A:=a
def tw5941967714968092706:A:=a
def tw16778017363388740479:A:=a
def tw16278370118031745812:A:=a
def tw3110023249637269337:A:=a
def tw561990904302531557:A:=a
def tw17636612972617846582:A:=a
def tw1953197440865267055:A:=a
def tw7544275087865743616:A:=a
def tw6552319322126362820:A:=a
def tw4159987823706617172:A:=a
def tw16490900588263028865:A:=a
def tw5830579125789016890:A:=a
def tw8892537759205426841:A:=a
def tw3872207243615801861:A:=a
def tw7648853788076294605:A:=a
def tw10611106967670339132:A:=a
def tw2172012841614385712:A:=a
def tw12153446251177977844:A:=a
def tw3969209315672036252:A:=a
def tw4846752122394610043:A:=a
def tw9081474118838182689:A:=a
def tw2682248415689716661:A:=a
def tw9473897183463339206:A:=a
def tw12450258846479853501:A:=a
def tw10440610140413562411:A:=a
def tw3320380285132749543:A:=a
def tw17419682973193852408:A:=a
def tw16992025122021831993:A:=a
def tw9411824406117295210:A:=a
def tw2548296984888875262:A:=a
def tw15600065358826737704:A:=a
def tw3275865548748820537:A:=a
def tw1811064664876400279:A:=a
def tw1624644937541920665:A:=a
def tw13407243503848851719:A:=a
def tw6725581577586325367:A:=a
def tw3281492546230852128:A:=a
def tw10772051619922170681:A:=a
def tw9038377075654423742:A:=a
def tw17759030910374659334:A:=a
def tw12354512210346638280:A:=a
def tw17437074378774393867:A:=a
def tw14492266764092123634:A:=a
def tw496557813336576055:A:=a
def tw1827841892353561453:A:=a
end PySem.W.Fast
open PySem PySem.W PyProof.Rows
set_option maxRecDepth 100000 in
set_option maxHeartbeats 0 in
theorem PySem.Challenge.cw_jettison_k28_purses_and_fortunes_holds : PySem.Challenge.rw_jettison_k28_purses_and_fortunes.Holds := by
 w_on;o_law;k_head;(case hw=>w_witness2)
 k_fill
 refine Law.walk (l:=PySem.Challenge.rw_jettison_k28_purses_and_fortunes) rfl rfl (fun w h Y=>PySem.W.kIn_of Y) ?F
 case F=>
  intro w mg fa h KX G hmg
  refine' Law.all_mk KX G hmg ?_ ?_ ?_ ?_ ?_ ?_ ?_ ?_ ?_ ?_ ?_ ?_ ?_ ?_ ?_ ?_ ?_ ?_ ?_ ?_ ?_ ?_ ?_ ?_ ?_ ?_ ?_ ?_ ?_ ?_ ?_ ?_ ?_ ?_ ?_ ?_ ?_ ?_ ?_ ?_ ?_ ?_ ?_ ?_ ?_ ?_ ?_ ?_ ?_ ?_ ?_ ?_ ?_ ?_ ?_ ?_ ?_ ?_ ?_ ?_ ?_ ?_ ?_ ?_ ?_ ?_ ?_ ?_ ?_ ?_ ?_ ?_ ?_ ?_ ?_ ?_ ?_ ?_ ?_ ?_ ?_ ?_ ?_ ?_ ?_ ?_ ?_ ?_ ?_ ?_ ?_ ?_ ?_ ?_ ?_ ?_ ?_ ?_ ?_ ?_ ?_ ?_ ?_ ?_ ?_ ?_ ?_ ?_ ?_ ?_ ?_ ?_ ?_ ?_ ?_ ?_ ?_ ?_ ?_ ?_
  any_goals first|(refine' L2.dh.of ?a ?l ?c ?k;(case a=>k_is);(case l=>k_is);(case c=>k_is);(case k=>k_is))|(refine' L2.dP.of ?a ?i ?l ?c ?k;(case a=>k_is);(case i=>k_is);(case l=>k_is);(case c=>k_is);(case k=>k_is))|k_is
