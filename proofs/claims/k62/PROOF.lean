import PyProof.Rows.All
import Wide.All
import OpenK.AllK
import Wide.FinOn
import Lean
import PyProof.EqAt
import PyProof.EqKinds
import PyProof.TupleCall
import PySem.Challenge.RW_jettison_k62_a_great_hold
set_option Elab.async false
set_option bootstrap.genMatcherCode false
set_option genSizeOf false
set_option genSizeOfSpec false
set_option linter.all false
set_option maxRecDepth 100000
local macro_rules|`(tactic|omega)=>`(tactic|lia)
abbrev Fg:=PySem.W.Frag
abbrev VS:=PySem.Value->PySem.Shared->Prop
abbrev AO:=List (PySem.Addr×PySem.Obj)
abbrev SO:=PySem.Str->Option PySem.Value
abbrev Cl:=@List
set_option autoImplicit true
def Rv:=@PySem.F.slot_dict_valueiterator_next
def EH:=@Int.mul_le_mul_of_nonneg_left
def Rw:=@PySem.wpAny_typeNameOfWhole_keyiter
def Rx:=@PySem.wpAny_typeNameOfWhole_valiter
def Ry:=@PySem.F.slot_dict_keyiterator_next
def uS:=@PyProof.Rows.boot_isinstance
def MD:=@PyProof.Rows.callWith_type1
def ME:=@List.idxOf_lt_length_of_mem
def Rz:=@Int.ediv_eq_of_eq_mul_right
def MF:=@List.getElem?_append_right
def dP:=@List.getD_eq_getElem?_getD
def KN:=@PySem.F.slot_tuple_iterator_next
def dW:=@List.getElem?_eq_some_iff
def KO:=@List.getElem?_append_left
def KP:=@List.mem_or_eq_of_mem_set
def KQ:=@Int.eq_of_mul_eq_mul_left
def a_:=@List.getElem?_eq_getElem
def KR:=@PySem.wpAny_comprehension_free
def KS:=@PySem.wpAny_typeNameOf_keyiter
def KU:=@PySem.wpAny_typeNameOf_valiter
def Br:=@Int.mul_ediv_cancel_left
def KW:=@PySem.AutoSeq1.wpAny_loadPart'
def uY:=@PySem.F.slot_list_append
def uZ:=@PySem.F.type_list_append
def yl:=@List.getElem?_replicate
def tR:=@PySem.wpAny_callSpecial?_slot
def u0:=@PySem.F.plainAttrs_list
def KY:=@PyProof.Rows.boot_tuple
def Bs:=@List.getElem?_set_self
def bQ:=@PySem.Heap.get?_push_of_some
def lE:=@Option.map_eq_some_iff
def KZ:=@List.take_of_length_le
def ym:=@List.zipWith_cons_cons
def K0:=@PySem.Calls.callWith_builtin
def K1:=@PyProof.Rows.boot_list
def gi:=@List.mem_append_right
def jh:=@List.length_replicate
def K2:=@PySem.Heap.get?_update_self
def K3:=@List.length_singleton
def rX:=@List.getElem?_eq_none
def K4:=@PySem.wpAny_isOneOf_valiter
def tS:=@List.getElem?_zipWith
def K5:=@Int.le_ediv_of_mul_le
def EI:=@List.filterMap_append
def tT:=@PyProof.Rows.boot_sum
def K6:=@PyProof.Rows.boot_str
def EJ:=@PyProof.Rows.boot_int
def ck:=@List.mem_cons_of_mem
def yo:=@List.mem_append_left
def EK:=@List.getElem?_set_ne
def cg:=@List.mem_of_getElem?
def jM:=@Bool.and_eq_true_iff
def K7:=@PySem.intBits_le_iff
def K8:=@Int.mul_ediv_cancel'
def EL:=@beq_eq_false_iff_ne
def oY:=@List.filterMap_cons
def c_:=@PySem.Heap.get?_push_size
def tU:=@PySem.mem_of_lookup
def u5:=@List.replicate_succ
def EM:=@Bool.or_eq_true_iff
def Bt:=@PySem.Heap.SameBut.update
def gx:=@List.length_zipWith
def rY:=@List.map_congr_left
def oZ:=@List.getElem_of_mem
def jE:=@Nat.lt_of_lt_of_le
def cD:=@List.mem_cons_self
def d7:=@Bool.false_ne_true
def EN:=@PySem.wpAny_Call_Name_kw
def cO:=@List.length_append
def K9:=@PySem.tupleKind_room_in1
def Bu:=@Nat.lt_of_le_of_lt
def eU:=@List.mem_singleton
def tV:=@Int.emod_lt_of_pos
def EO:=@Bool.false_eq_true
def Bv:=@PySem.Obj.data_mapFields
def Bw:=@PySem.wpAny_setField_rec
def K_:=@PySem.F.slot_dict_values
def La:=@List.zip_cons_cons
def qe:=@of_decide_eq_false
def mz:=@PySem.W.mg_none_of
def Lb:=@PySem.wpAny_pyIter_list
def cz:=@List.getElem?_map
def fc:=@List.size_toArray
def qf:=@Int.toNat_natCast
def nK:=@PySem.wpAny_newObj_type
def Lc:=@List.flatten_cons
def ER:=@List.append_assoc
def ff:=@of_decide_eq_true
def Ld:=@Nat.lt_succ_of_lt
def yp:=@PySem.wpAny_truthy_bool
def Le:=@PySem.wpAny_dictEntries
def Lf:=@List.take_add_one
def By:=@List.foldl_append
def Lg:=@List.nodup_append
def mC:=@Bool.eq_false_iff
def kC:=@List.length_cons
def jN:=@List.length_take
def tW:=@PySem.wpAny_call_entry
def ES:=@Bool.and_eq_true
def lF:=@List.filter_cons
def Ek:=@beq_self_eq_true
def El:=@Int.ediv_le_self
def oj:=@Nat.le_add_right
def jH:=@List.lookup_cons
def mD:=@List.all_eq_true
def qW:=@List.getElem_mem
def Em:=@PySem.F.slot_tuple_mul
def cG:=@List.take_length
def ee:=@decide_eq_false
def fh:=@Option.some.inj
def om:=@List.mem_filter
def eE:=@List.mem_append
def wF:=@Bool.eq_iff_iff
def aH:=@List.length_map
def mE:=@PySem.W.kia_one
def pU:=@List.append_nil
def fj:=@List.nodup_cons
def jI:=@List.length_set
def j8:=@List.foldl_cons
def En:=@PySem.F.slot_int_rmul
def qX:=@List.find?_cons
def zu:=@Option.map_some
def b7:=@List.map_append
def kU:=@Int.emod_nonneg
def Eo:=@Int.ediv_nonneg
def Ep:=@List.forIn_cons
def Er:=@PySem.pushCells_keeps
def Es:=@PySem.wpAny_dictEpoch
def Et:=@PySem.F.slot_zip_next
def tX:=@PySem.wpAny_passesOwn
def Eu:=@PySem.wpAny_execs_nil
def fH:=@PySem.PassesOwn.never
def tY:=@List.mem_range
def tZ:=@Bool.false_and
def j9:=@PySem.Heap.size_push
def cI:=@decide_eq_true
def zx:=@Int.natAbs_mul
def zy:=@List.forIn_nil
def qY:=@PySem.wpAny_fieldsOf
def wG:=@PySem.wpAny_setField
def qZ:=@PySem.wpAny_seqItems
def wH:=@List.nodup_nil
def t9:=@Int.mul_nonneg
def cU:=@PySem.boot_len
def iK:=@Nat.lt_irrefl
def cV:=@List.mem_cons
def br:=@List.map_cons
def wI:=@PySem.wpAny_holding
def zA:=@List.any_cons
def t_:=@PySem.W.mg_of
def zC:=@Int.le_of_dvd
def bV:=@List.sum_cons
def wJ:=@PySem.wpAny_standAt
def gy:=@Int.mul_assoc
def q_:=@Bool.true_and
def bK:=@PySem.Heap.lt_size
def dI:=@Nat.ne_of_lt
def dj:=@Nat.le_trans
def zH:=@Nat.le_of_lt
def wK:=@Nat.ne_of_gt
def rj:=@Int.ediv_one
def bu:=@List.mem_map
def zJ:=@Int.le_of_lt
def zK:=@List.set_set
def ua:=@Nat.min_self
def gY:=@List.map_map
def mF:=@Int.mul_comm
def rm:=@Int.zero_add
def zL:=@Int.zero_mul
def mG:=@Sum.inr.inj
def mH:=@Int.mul_one
def aO:=@Nat.le_refl
def gP:=@Nat.zero_le
def gQ:=@PySem.sizeLine_eq
def ji:=@PySem.wpAny_field
def wL:=@Int.one_mul
def gR:=@Int.le_refl
def uc:=@Int.mul_pos
def pV:=@Int.mul_add
def ud:=@Int.add_mul
def gZ:=@PySem.wpAny_mono
def aK:=@PySem.wpAny_pure
def ao:=@PySem.wpAny_bind
def pW:=@beq_iff_eq
def wM:=@PySem.call_meets
def fY:=@congrArg
def mJ:=@if_false
def cW:=@Ne.symm
def aB:=@if_pos
def aA:=@if_neg
def Z{α:Sort _}{a:α}:a=a:=rfl
namespace L2
open PySem PySem.Spec PyProof.Rows
abbrev Key:=Sum Int Str
def ue:Key->Value->Bool
 | .inl k,v=>Value.isInt k v
 | .inr x,v=>Value.isStrOf x v
def aa_(w:World):Key->Int
 | .inl k=>hashInt k
 | .inr x=>hashStr w x
theorem eT:∀{k:Key}{v:Value},ue k v=true->(∃i t,k=Sum.inl i/\v=Value.int i t)\/(∃x t,k=Sum.inr x/\v=Value.str x t)
 | .inl i,v,h=>by obtain⟨t,e⟩:=Value.isInt_shape (k:=i) (v:=v) h;exact .inl ⟨i,t,Z,e⟩
 | .inr x,v,h=>by obtain⟨t,e⟩:=Value.isStrOf_shape (x:=x) (v:=v) h;exact .inr ⟨x,t,Z,e⟩
def MG(i:Int)(t:Tok):ue (.inl i) (.int i t)=true:=by simp[ue,Value.isInt]
def MH(x:Str)(t:Tok):ue (.inr x) (.str x t)=true:=by simp[ue,Value.isStrOf]
def UU(a b:Int):decide ((Sum.inl a:Key)=Sum.inl b)=(a==b):=by
 by_cases e:a=b
 .subst e;simp
 .have h:¬ (Sum.inl a:Key)=Sum.inl b:=λq=>e (Sum.inl.inj q);rw[ee h];exact(EL.mpr e).symm
def UW(a b:Str):decide ((Sum.inr a:Key)=Sum.inr b)=decide (a=b):=by
 by_cases e:a=b
 .subst e;simp
 .have h:¬ (Sum.inr a:Key)=Sum.inr b:=λq=>e (mG q);rw[ee h,ee e]
def UX(a:Int)(b:Str):decide ((Sum.inl a:Key)=Sum.inr b)=false:=ee (λq=>nomatch q)
def UY(a:Str)(b:Int):decide ((Sum.inr a:Key)=Sum.inl b)=false:=ee (λq=>nomatch q)
def bZ(prog:Program)(w:World):PySem.KeyKind prog w Key where
 is:=ue
 hash:=aa_ w
 inj:=λv a b ha hb=>by
  rcases eT ha with⟨i,t,rfl,rfl⟩|⟨x,t,rfl,rfl⟩
  .rcases eT hb with⟨j,u,rfl,e⟩|⟨y,u,rfl,e⟩
   .injection e with e1 _;rw[e1]
   .exact nomatch e
  .rcases eT hb with⟨j,u,rfl,e⟩|⟨y,u,rfl,e⟩
   .exact nomatch e
   .injection e with e1 _;rw[e1]
 byValue:=λk v h=>by rcases eT h with⟨i,t,rfl,rfl⟩|⟨x,t,rfl,rfl⟩ <;> rfl
 pyHash:=λhv h=>by
  rcases eT hv with⟨i,t,rfl,rfl⟩|⟨x,t,rfl,rfl⟩
  .exact wpAny_pyHash_int h
  .exact wpAny_pyHash_str h
 eqBool:=λhu hv h=>by
  rcases eT hu with⟨i,t,rfl,rfl⟩|⟨x,t,rfl,rfl⟩
  .rcases eT hv with⟨j,u,rfl,rfl⟩|⟨y,u,rfl,rfl⟩
   .rw [UU]at h;exact wpAny_eqBool_int h
   .rw [UX]at h;exact SeqAt.EqAt.int_str i t y u _ _ _ _ h
  .rcases eT hv with⟨j,u,rfl,rfl⟩|⟨y,u,rfl,rfl⟩
   .rw [UY]at h;exact SeqAt.EqAt.str_int x t j u _ _ _ _ h
   .rw [UW]at h;exact wpAny_eqBool_str h
 «strs»:=λk x t v h=>by
  rcases eT h with⟨i,u,rfl,e⟩|⟨y,u,rfl,e⟩
  .exact nomatch e
  .injection e with e1 _;subst e1;cases v <;> rfl
def Lh(prog:Program)(w:World)(k:Key)(v:Value):(bZ prog w).is k v=ue k v:=rfl
def Iu(prog:Program)(w:World)(i:Int)(t:Tok):(bZ prog w).is (.inl i) (.int i t)=true:=MG i t
def xQ(prog:Program)(w:World)(x:Str)(t:Tok):(bZ prog w).is (.inr x) (.str x t)=true:=MH x t
inductive V where
 | b8|bl (b:Bool)|int (i:Int)|str (x:Str)|uT (b:Array UInt8)|ET (b:UInt64)|ref (a:Addr)|ty (n:String)
 deriving DecidableEq
def RelV:V->Value->Prop
 | .b8,u=>u=Value.none
 | .bl b,u=>u=Value.bool b
 | .int i,u=>∃t,u=Value.int i t
 | .str x,u=>∃t,u=Value.str x t
 | .uT b,u=>∃t,u=Value.bytes b t
 | .ET b,u=>∃t,u=Value.float b t
 | .ref a,u=>u=Value.ref a
 | .ty n,u=>u=Value.type n
abbrev Vals:Cl V->Cl Value->Prop:=Paired RelV
variable {xs:Cl V}{us:Cl Value}
theorem Vals.length(r:Vals xs us):xs.length=us.length:=Paired.length r
theorem Vals.get:∀{xs:Cl V}{us:Cl Value}{i:Nat}{x:V},Vals xs us->xs[i]?=some x->∃u,us[i]?=some u/\RelV x u
 | _,_,_,_,.nil,e=>by simp at e
 | _,_,0,_,.cons r _,e=>by simp at e;subst e;exact⟨_,Z,r⟩
 | _,_,i+1,x,.cons _ t,e=>by obtain⟨u,h1,h2⟩:=Vals.get (i:=i) (x:=x) t (by simpa using e);exact⟨u,by simpa using h1,h2⟩
theorem Vals.set{x:V}{u:Value}(r:RelV x u):∀{xs:Cl V}{us:Cl Value}(i:Nat),Vals xs us->Vals (xs.set i x) (us.set i u)
 | _,_,_,.nil=> .nil
 | _,_,0,.cons _ t=> .cons r t
 | _,_,i+1,.cons q t=> .cons q (Vals.set r i t)
theorem Vals.append:∀{xs ys:Cl V}{us ws:Cl Value},Vals xs us->Vals ys ws->Vals (xs++ys) (us++ws)
 | _,_,_,_,.nil,s=>s
 | _,_,_,_,.cons r t,s=> .cons r (Vals.append t s)
theorem Vals.take:∀{xs:Cl V}{us:Cl Value}(n:Nat),Vals xs us->Vals (xs.take n) (us.take n)
 | _,_,0,_=> .nil
 | _,_,_+1,.nil=> .nil
 | _,_,n+1,.cons r t=> .cons r (Vals.take n t)
theorem Vals.drop:∀{xs:Cl V}{us:Cl Value}(n:Nat),Vals xs us->Vals (xs.drop n) (us.drop n)
 | _,_,0,r=>r
 | _,_,_+1,.nil=> .nil
 | _,_,n+1,.cons _ t=>Vals.drop n t
def jO:Option V->Option Value->Prop
 | some v,some u=>RelV v u
 | none,none=>True
 | _,_=>False
def KV{κ:Type}:Cl (κ×V)->Cl (κ×Value)->Prop:=Paired λ(p:κ×V)(q:κ×Value)=>p.1=q.1/\RelV p.2 q.2
def kV:Key->V
 | .inl i=> .int i
 | .inr x=> .str x
inductive HO where
 | lst (xs:Cl V)
 | tup (xs:Cl V)
 | dK (AT:Cl (Key×V))|dT (AT:Cl (Cl Key×V))
 | set (S:Int->Bool) (n:Nat)
 | ins (C dx:Addr) (fs:Cl (Str×V))
 | own (x:Addr)
 | xd (fs:Cl (Str×V))
 | met (f x:Addr)
 | rA (lo hi:Int)
 | dz (o:Obj) (u:HO)
 | EU (ps:Array Value)
 | ext (φ:Heap->Prop)
abbrev Hp:=Addr->Option HO
def upd(H:Hp)(a:Addr)(o:HO):Hp:=λb=>if b=a then some o else H b
variable {H:Hp}{a:Addr}{o:HO}
def ai:upd H a o a=some o:=by unfold upd;rw[aB rfl]
variable {b:Addr}
def ay(h:b≠a):upd H a o b=H b:=by unfold upd;rw[aA h]
def nL{u:HO}:upd (upd H a o) a u=upd H a u:=by funext b;unfold upd;split <;> rfl
def gT{u:HO}(h:H a=some o)(h':H b=some u)(d:o≠u):a≠b:=by intro e;subst e;rw[h]at h';exact d (fh h')
def aG(h:H a=some o)(h':H b=none):a≠b:=by intro e;subst e;rw[h]at h';cases h'
section
variable (P:Program)(w:World)
def c5(H:Hp)(h:Heap)(a:Addr):HO->Prop
 | .lst xs=>xs.length<=sizeLine/\∃(BT:Cl Value)(n:Nat),Vals xs BT/\h.get? a=some { cls:=.type "list",data:=.seq BT.toArray n }
 | .tup xs=>xs.length<=sizeLine/\∃BT:Cl Value,Vals xs BT/\IsTup h a BT.toArray
 | .dK AT=>AT.length<=sizeLine/\(a==sysModules)=false/\∃vs,KV AT vs/\h.DictOf (bZ P w) a vs
 | .dT AT=>AT.length<=sizeLine/\(a==sysModules)=false/\∃xs:Cl (Cl Key×Addr×Value),
     Paired (λ(p:Cl Key×V)(q:Cl Key×Addr×Value)=>p.1=q.1/\H q.2.1=some (.tup (p.1.map kV))/\RelV p.2 q.2.2) AT xs/\
     ∃o es ep,h.get? a=some o/\o.ExactDict/\o.data =.dict es ep/\es.toList=xs.map (entryOfKey (tupleKind (bZ P w)))/\(xs.map (·.1)).Nodup
 | .set S n=>h.SetOf (intKind P w) a S n
 | .ins C dx fs=>H dx=some (.own a)/\fs.length<=1000/\dx≠a/\h.get? a=some (PySem.W.instObj C dx)/\
     ∃mA,h.Ns1 dx mA/\(∀f,jO (fs.lookup f) (mA f))/\PySem.Within mA (fs.map (·.1))
 | .own _=>∃o,h.get? a=some o
 | .xd fs=>∃mA,h.Ns1 a mA/\∀f,jO (fs.lookup f) (mA f)
 | .rA lo hi=>∃t u v,h.get? a=some { cls:=.type "range",data:=.fields #[.int lo t,.int hi u,.int 1 v] }
 | .dz o u=>h.get? a=some o/\c5 H h a u
 | .EU ps=>h.get? a=some { cls:=.none,data:=.fields ps }
 | .met f x=>h.get? a=some (PySem.W.methodObj (.ref f) (.ref x))
 | .ext φ=>φ h/\(∃o,h.get? a=some o)/\∀h1 h2:Heap,φ h1->(∀o,h1.get? a=some o->h2.get? a=some o)->φ h2
def gK(H:Hp)(h:Heap):Prop:=∀a o,H a=some o->c5 P w H h a o
end
section
variable {P:Program}{w:World}{H H':Hp}{h h':Heap}{a:Addr}{o:HO}
theorem c5.lt(x:c5 P w H h a o):a<h.objs.size:=by
 cases o with
 | lst xs=>obtain⟨_,_,_,_,e⟩:=x;exact bK e
 | tup xs=>obtain⟨_,_,_,p⟩:=x;exact p.lt
 | dK AT=>obtain⟨_,_,_,_,o,_,_,e,_⟩:=x;exact bK e
 | dT AT=>obtain⟨_,_,_,_,o,_,_,e,_⟩:=x;exact bK e
 | set S n=>obtain⟨o,_,_,_,e,_⟩:=x;exact bK e
 | ins C dx fs=>obtain⟨_,_,_,e,_⟩:=x;exact bK e
 | own y=>obtain⟨_,e⟩:=x;exact bK e
 | xd fs=>obtain⟨_,⟨_,_,_,e,_⟩,_⟩:=x;exact bK e
 | rA lo hi=>obtain⟨_,_,_,e⟩:=x;exact bK e
 | dz ob u=>obtain⟨e,_⟩:=x;exact bK e
 | EU ps=>exact bK (show h.get? a=some _ from x)
 | met f y=>exact bK (show h.get? a=some _ from x)
 | ext φ=>obtain⟨_,⟨_,e⟩,_⟩:=x;exact bK e
theorem Paired.Pp{α β:Type}{F G:α->β->Prop}:∀{l₁:Cl α}{l₂:Cl β},Paired F l₁ l₂->(∀a b,F a b->G a b)->Paired G l₁ l₂
 | _,_,.nil,_=> .nil
 | _,_,.cons r t,f=> .cons (f _ _ r) (Paired.Pp t f)
def c5.stay(x:c5 P w H h a o)(k:∀b u,(b=a\/H b=some (.own a))->h.get? b=some u->h'.get? b=some u)(ho:∀b,H b=some (.own a)->H' b=some (.own a))(ht:∀b xs,H b=some (.tup xs)->H' b=some (.tup xs)):c5 P w H' h' a o:=by
 induction o with
 | lst xs=>obtain⟨z,BT,n,r,e⟩:=x;exact⟨z,BT,n,r,k _ _ (.inl rfl) e⟩
 | tup xs=>obtain⟨z,BT,r,ob,e,c⟩:=x;exact⟨z,BT,r,ob,k _ _ (.inl rfl) e,c⟩
 | dK AT=>obtain⟨z,y,vs,r,ob,es,ep,e,c⟩:=x;exact⟨z,y,vs,r,ob,es,ep,k _ _ (.inl rfl) e,c⟩
 | dT AT=>
   obtain⟨z,y,xs,r,ob,es,ep,e,c⟩:=x
   exact⟨z,y,xs,Paired.Pp r λp q z=>⟨z.1,ht _ _ z.2.1,z.2.2⟩,ob,es,ep,k _ _ (.inl rfl) e,c⟩
 | set S n=>obtain⟨ob,es,ep,t,e,c⟩:=x;exact⟨ob,es,ep,t,k _ _ (.inl rfl) e,c⟩
 | ins C dx fs=>
   obtain⟨d,z,ne,e,mA,⟨od,es,ep,e2,c⟩,r⟩:=x
   exact⟨ho _ d,z,ne,k _ _ (.inl rfl) e,mA,⟨od,es,ep,k _ _ (.inr d) e2,c⟩,r⟩
 | own y=>obtain⟨ob,e⟩:=x;exact⟨ob,k _ _ (.inl rfl) e⟩
 | xd fs=>obtain⟨mA,⟨od,es,ep,e,c⟩,r⟩:=x;exact⟨mA,⟨od,es,ep,k _ _ (.inl rfl) e,c⟩,r⟩
 | rA lo hi=>obtain⟨t,u,v,e⟩:=x;exact⟨t,u,v,k _ _ (.inl rfl) e⟩
 | dz ob u ih=>obtain⟨e,q⟩:=x;exact⟨k _ _ (.inl rfl) e,ih q⟩
 | EU ps=>
   have e:h.get? a=some { cls:=.none,data:=.fields ps }:=x
   show h'.get? a=some { cls:=.none,data:=.fields ps }
   exact k a _ (.inl rfl) e
 | met f y=>
   have e:h.get? a=some (PySem.W.methodObj (.ref f) (.ref y)):=x
   show h'.get? a=some (PySem.W.methodObj (.ref f) (.ref y))
   exact k a _ (.inl rfl) e
 | ext φ=>obtain⟨p,⟨o,e⟩,st⟩:=x;exact⟨st _ _ p λo q=>k _ _ (.inl rfl) q,⟨o,k _ _ (.inl rfl) e⟩,st⟩
theorem gK.lt(x:gK P w H h)(e:H a=some o):a<h.objs.size:=(x a o e).lt
def gK.fresh(x:gK P w H h)(e:h.objs.size<=a):H a=none:=by
 cases q:H a with
 | none=>rfl
 | some u=>exact absurd (jE (x.lt q) e) (iK _)
def gK.kept(x:gK P w H h)(k:∀b u,h.get? b=some u->h'.get? b=some u):gK P w H h':=λa o e=>
 (x a o e).stay (λb u _ q=>k b u q) (λ_ q=>q) λ_ _ q=>q
def gK.laid(x:gK P w H h)(k:∀b u,h.get? b=some u->h'.get? b=some u)(hp:h.objs.size<=a)(new:c5 P w (upd H a o) h' a o):gK P w (upd H a o) h':=λb u e=>by
 have hn:=x.fresh hp;by_cases hb:b=a
 .subst hb;rw[ai]at e;cases e;exact new
 .rw [ay hb]at e;exact(x b u e).stay (λc v _ q=>k c v q) (λc q=>by rw[ay (aG q hn)];exact q) λc xs q=>by rw[ay (aG q hn)];exact q
end
def Rd(H:Hp)(a:Addr)(u:HO):Prop:=H a=some u\/∃o,H a=some (.dz o u)
variable {P:Program}{w:World}{h:Heap}
def Rd.ok{u:HO}(r:Rd H a u)(x:gK P w H h):c5 P w H h a u:=by
 rcases r with r|⟨o,r⟩
 .exact x a u r
 .obtain ⟨_,q⟩:=x a _ r;exact q
def MI:Option HO->Prop
 | some (.lst _)=>True
 | some (.dK _)=>True
 | some (.dT _)=>True
 | some (.set _ _)=>True
 | some (.ins _ _ _)=>True
 | some (.ext _)=>True
 | _=>False
section
variable {P:Program}{w:World}{H:Hp}{h h':Heap}{x e:Addr}{o':HO}
def gK.write(ok:gK P w H h)(mu:MI (H x))(he:e=x\/H e=some (.own x))(k:∀b u,b≠e->h.get? b=some u->h'.get? b=some u)(JA:∃u,h'.get? e=some u)(new:c5 P w (upd H x o') h' x o'):gK P w (upd H x o') h':=λb u q=>by
 have UZ:∀c y,H c=some (.own y)->c≠x:=λc y r z=>by subst z;rw[r]at mu;exact mu
 have aba:∀c xs,H c=some (.tup xs)->c≠x:=λc xs r z=>by subst z;rw[r]at mu;exact mu
 by_cases hb:b=x
 . subst hb;rw[ai]at q;cases q;exact new
 . rw[ay hb]at q
   by_cases EV:b=e
   . have q':H b=some (.own x):=by
      rcases he with z|z
      . exact absurd (EV.trans z) hb
      . rw[EV];exact z
     rw[q]at q';cases q'
     obtain⟨v,hv⟩:=JA
     exact⟨v,by rw[EV];exact hv⟩
   . refine(ok b u q).stay (λc v hc r=>k c v ?_ r) (λc r=>by rw[ay (UZ c b r)];exact r) λc xs r=>by rw[ay (aba c xs r)];exact r
     rcases hc with rfl|hc
     . exact EV
     . rintro rfl
       rcases he with z|z
       . exact UZ c b hc z
       . rw[hc]at z;cases z;exact hb rfl
end
structure Un(fs ex:Cl Addr)(H H':Hp)(h h':Heap):Prop where
 keep:∀b o,h.get? b=some o->H b=none->b∉fs->b∉ex->h'.get? b=some o
 slot:∀b o,h.get? b=some o->H b=none->b∈fs->b∉ex->∃sl,h'.get? b=some { o with slots:=sl }
 free:∀b o,h.get? b=some o->H b=none->b∉ex->H' b=none
 there:∀b o,h.get? b=some o->b∉ex->∃o',h'.get? b=some o'
 tups:∀b xs,H b=some (.tup xs)->H' b=some (.tup xs)
 o9:∀b o u,H b=some (.dz o u)->H' b=some (.dz o u)
 rZ:∀b ps,H b=some (.EU ps)->∃more,H' b=some (.EU (ps++more))
section
variable {fs fs' ex ex':Cl Addr}{H H1 H2:Hp}{h h1 h2 h':Heap}{a x e:Addr}{o:HO}
def Un.any(u:Un fs ex H H1 h h1)(q:h.get? b=some ob)(n:H b=none)(hx:b∉ex):∃sl,h1.get? b=some { ob with slots:=sl }:=by
 by_cases hb:b∈fs
 .exact u.slot b ob q n hb hx
 .exact ⟨ob.slots,u.keep b ob q n hb hx⟩
def Un.kept(k:∀b u,h.get? b=some u->h'.get? b=some u):Un fs ex H H h h':=⟨λb ob q _ _ _=>k b ob q,λb ob q _ _ _=>⟨ob.slots,k b ob q⟩,λ_ _ _ n _=>n,λb ob q _=>⟨ob,k b ob q⟩,λ_ _ q=>q,λ_ _ _ q=>q,λ_ ps q=>⟨#[],by rw[q];simp⟩⟩
def Un.refl:Un fs ex H H h h:=Un.kept λ_ _ q=>q
def Un.laid(k:∀b u,h.get? b=some u->h'.get? b=some u)(hp:h.objs.size<=a)(hn:H a=none):Un fs ex H (upd H a o) h h' where
 keep:=λb u q _ _ _=>k b u q
 slot:=λb u q _ _ _=>⟨u.slots,k b u q⟩
 free:=λb u q n _=>by rw[ay (dI (jE (bK q) hp))];exact n
 there:=λb u q _=>⟨u,k b u q⟩
 tups:=λb xs q=>by rw[ay (aG q hn)];exact q
 o9:=λb u xs q=>by rw[ay (aG q hn)];exact q
 rZ:=λb ps q=>⟨#[],by rw[ay (aG q hn),q];simp⟩
def Un.write(mu:MI (H x))(he:e=x\/H e=some (.own x))(k:∀b u,b≠e->h.get? b=some u->h'.get? b=some u)(JA:∃u,h'.get? e=some u):Un fs ex H (upd H x o) h h':=by
 have hx:∀b,H b=none->b≠x:=λb n z=>by subst z;rw[n]at mu;exact mu
 have hb:∀b,H b=none->b≠e:=λb n z=>by
  subst z;rcases he with r|r
  .exact hx b n r
  .rw [n]at r;cases r
 have hm:∀b u,H b=some u->¬ MI (some u)->b≠x:=λb u q nm z=>by subst z;rw[q]at mu;exact nm mu
 refine⟨λb u q n _ _=>k b u (hb b n) q,λb u q n _ _=>⟨u.slots,k b u (hb b n) q⟩,λb u q n _=>by rw[ay (hx b n)];exact n,λb u q _=>?_,
  λb xs q=>by rw[ay (hm b _ q λz=>z)];exact q,λb u xs q=>by rw[ay (hm b _ q λz=>z)];exact q,λb ps q=>⟨#[],by rw[ay (hm b _ q λz=>z),q];simp⟩⟩
 by_cases EV:b=e
 .subst EV;exact JA
 .exact ⟨u,k b u EV q⟩
end
def RA(h:Heap)(H:Hp):Cl Addr:=(List.range h.objs.size).filter λa=>(H a).isSome
def uf(h:Heap)(H:Hp):Heap:=PySem.W.hideAll h (RA h H)
def MJ(h:Heap)(H:Hp):(uf h H).objs.size=h.objs.size:=PySem.W.hideAll_size _ _
def Pq{o:Obj}(e:h.get? b=some o)(n:H b=none):(uf h H).get? b=some o:=PySem.W.hideAll_get _ e λhm=>by have q:(H b).isSome=true:=(om.mp hm).2;rw[n]at q;simp at q
def SM{o:Obj}(e:(uf h H).get? b=some o):h.get? b=some o/\H b=none:=by
 have e':h.get? b=some o:=PySem.W.of_hideAll (RA h H) e;refine⟨e',?_⟩;cases q:H b with
 | none=>rfl
 | some x=>have hm:b∈RA h H:=om.mpr ⟨tY.mpr (bK e'),by simp[q]⟩;have z:(uf h H).get? b=none:=PySem.W.hideAll_none (RA h H) hm;rw[z]at e;cases e
structure Mod(K:Fg)(mg:SO)(base:Heap):Prop where
 MK:K.In base
 glob:base.Ns mainGlobals mg
 blt:∃mb,base.Ns builtinsNs mb/\∀x:Str,x ≠ "__name__"->mb x=bootBuiltins x
 nolimit:base.NoLimit
structure Cx where
 prog:Program
 w:World
 K:Fg
 mg:Str->Option Value
 base:Heap
 A:Around
 N:Cl Str
 s₀:Shared
 H₀:Hp
 env:Env
 outer:Cl Env
 stack:Cl Env
 ex:Cl Addr
 fn:Str->Bool
 calm:Bool
 pn:Cl (Addr×Obj)
 xe:Value->Shared->Prop
def frs(l:Cl Env):Cl Addr:=l.filterMap (·.frame)
abbrev Cx.fs(X:Cx):Cl Addr:=frs X.outer
def RB(sc:Scope)(x:Str):Prop:=sc.names.lookup x=some .local\/sc.names.lookup x=some .cell\/sc.names.lookup x=some .free
def Loc(sc:Scope)(x:Str):Prop:=sc.names.lookup x=some .local\/sc.names.lookup x=some .cell
def Look(env:Env)(h:Heap)(m:SO)(x:Str)(u:Value):Prop:=(env.kindOf x=some .local/\m x=some u)\/((env.kindOf x=some .cell\/env.kindOf x=some .free)/\∃c,env.cells.lookup x=some c/\h.IsCell c (some u))
structure Cx.Ok(X:Cx):Prop where
 mod:Mod X.K X.mg X.base
 kind:X.env.scope.kind =.function
 glob:X.env.globals=mainGlobals
 blt:X.env.builtins=builtinsNs
 above:X.s₀.heap.objs.size<=X.env.locals
 inj:∀x y c,X.env.cells.lookup x=some c->X.env.cells.lookup y=some c->x=y
 has:∀x,(X.env.kindOf x=some .cell\/X.env.kindOf x=some .free)->∃c,X.env.cells.lookup x=some c
 fL:∀x c,X.fn x=true->X.env.cells.lookup x=some c->X.s₀.heap.objs.size<=c
 hd:X.calm=true->X.A.handled=none
 frames:X.A.frames=some X.stack
 stk:X.stack=X.outer\/(X.stack=X.env::X.outer/\X.env.frame=some X.env.locals)
 JB:∀b∈X.ex,b≠X.env.locals/\∀x c,X.env.cells.lookup x=some c->c≠b
 bs:∀b o,X.base.get? b=some o->X.s₀.heap.get? b=some o/\X.H₀ b=none
 CB:X.base.objs.size<=X.s₀.heap.objs.size
 EW:∀b o,X.base.get? b=some o->b∉X.ex
 BA:∀b∈X.ex,b∉X.fs
 o_:X.s₀.heap.FunFrames X.base X.outer
 EX:∀b∈X.fs,X.H₀ b=none
structure Inv(X:Cx)(AC:AO)(σ:Cl (Option V))(H:Hp)(s:Shared):Prop where
 ok:X.Ok
 os:s.os=X.s₀.os
 bare:AllBare s.gens
 base:Un X.fs X.ex X.H₀ H X.s₀.heap s.heap
 loc:∃m,s.heap.Ns X.env.locals m/\∀(i:Nat)(x:Str)(v:V),X.N[i]?=some x->σ[i]?=some (some v)->RB X.env.scope x->∃u,RelV v u/\Look X.env s.heap m x u
 cell:∀x c,X.env.cells.lookup x=some c->∃v,s.heap.IsCell c v
 free:H X.env.locals=none
 kW:∀x c,X.env.cells.lookup x=some c->H c=none
 pin:∀p∈X.pn++AC,s.heap.get? p.1=some p.2/\H p.1=none/\p.1≠X.env.locals/\p.1∉X.fs/\∀v,p.2.data ≠ .cell v
 hok:gK X.prog X.w H s.heap
 len:σ.length=X.N.length
variable {g':Array GenState}{t' i j:Nat}{ch:Cl Addr}{it:Addr}{N:Cl Str}{x:Str}{M:Model}{A:Around}{u:Value}
section
variable {X:Cx}{AC:AO}{σ:Cl (Option V)}{H H':Hp}{s:Shared}{h':Heap}
def Cx.Ok.abb(ok:X.Ok){o:Obj}(e:X.base.get? b=some o):b∉X.fs:=λhb=>by have:=(ok.o_.mem hb).1;rw[e]at this;cases this
theorem Inv.bs(I:Inv X AC σ H s):∀b o,X.base.get? b=some o->s.heap.get? b=some o/\H b=none:=λb o e=>
 ⟨I.base.keep b o (I.ok.bs b o e).1 (I.ok.bs b o e).2 (I.ok.abb e) (I.ok.EW b o e),I.base.free b o (I.ok.bs b o e).1 (I.ok.bs b o e).2 (I.ok.EW b o e)⟩
def Inv.bk(I:Inv X AC σ H s):∀b o,X.base.get? b=some o->s.heap.get? b=some o:=λb o e=>(I.bs b o e).1
theorem Inv.mod(I:Inv X AC σ H s):Mod X.K X.mg X.base:=I.ok.mod
def Inv.iH(I:Inv X AC σ H s):X.K.In s.heap:=I.ok.mod.MK.keeps I.bk
theorem Inv.lt(I:Inv X AC σ H s):X.env.locals<s.heap.objs.size:=let⟨_,hn,_⟩:=I.loc;hn.lt
def Inv.sz(I:Inv X AC σ H s):X.s₀.heap.objs.size<=s.heap.objs.size:=dj I.ok.above (zH I.lt)
def Inv.abc(I:Inv X AC σ H s)(h:s.heap.objs.size<=a):a∉X.fs:=λhb=>by obtain⟨_,o,ho,_⟩:=I.ok.o_.mem hb;exact absurd (jE (bK ho) (dj I.sz h)) (iK _)
def Inv.EY(I:Inv X AC σ H s):∀x c,X.env.cells.lookup x=some c->c≠X.env.locals:=λx c e z=>by obtain⟨v,o,ho,hd⟩:=I.cell x c e;obtain⟨m,⟨o',es,ep,ho',hd',_⟩,_⟩:=I.loc;rw[z,ho']at ho;cases ho;rw[hd']at hd;cases hd
theorem Inv.o_(I:Inv X AC σ H s):s.heap.FunFrames X.base X.outer:=by
 have all:∀(l:Cl Env),(∀b∈frs l,b∈X.fs)->X.s₀.heap.FunFrames X.base l->s.heap.FunFrames X.base l:=by
  intro l
  induction l with
  | nil=>intro _ _;trivial
  | cons env r ih=>intro hs hl;obtain⟨hk,⟨L,o,hf,hn,ho,hd⟩,hr⟩:=hl;have hL:L∈X.fs:=hs L (by unfold frs;rw[oY,hf];exact cD);obtain⟨sl,e⟩:=I.base.slot L o ho (I.ok.EX L hL) hL λz=>I.ok.BA L z hL;exact⟨hk,⟨L,_,hf,hn,e,hd⟩,ih (λb hb=>hs b (by unfold frs;rw[oY,hf];exact ck _ hb)) hr⟩
 exact all X.outer (λ_ hb=>hb) I.ok.o_
theorem Inv.stack(I:Inv X AC σ H s):s.heap.FunFrames X.base X.stack:=by
 rcases I.ok.stk with e|⟨e,hf⟩
 .rw [e];exact I.o_
 .rw [e];obtain⟨m,hn,_⟩:=I.loc;refine .cons (by rw[I.ok.kind];decide) hf hn ?_ I.o_;exact Heap.get?_none_of_le (dj I.ok.CB I.ok.above)
def Inv.EZ(I:Inv X AC σ H s):∀b∈frs X.stack,b∈X.env.locals::X.fs:=λb hb=>by
 rcases I.ok.stk with e|⟨e,hf⟩
 .rw [e]at hb;exact ck _ hb
 .rw [e]at hb;unfold frs at hb;rw[oY,hf]at hb;exact hb
def Inv.JC(I:Inv X AC σ H s):∀b∈frs X.stack,H b=none:=λb hb=>by
 rcases cV.mp (I.EZ b hb)with e|hb
 .rw [e];exact I.free
 .obtain ⟨_,o,ho,_⟩:=I.ok.o_.mem hb;exact I.base.free b o ho (I.ok.EX b hb) λz=>I.ok.BA b z hb
def Inv.step{d':Drawn}(I:Inv X AC σ H s)(hch:∀b∈ch,(b∈X.ex\/X.s₀.heap.objs.size<=b)/\b≠X.env.locals/\(∀x c,X.env.cells.lookup x=some c->c≠b)/\∀p∈X.pn++AC,p.1≠b)(keep:∀b o,b≠X.env.locals->b∉X.fs->b∉ch->s.heap.get? b=some o->H b=none->h'.get? b=some o)(slot:∀b o,b≠X.env.locals->b∈X.fs->b∉ch->s.heap.get? b=some o->H b=none->∃sl,h'.get? b=some { o with slots:=sl })(free:∀b o,b∉ch->s.heap.get? b=some o->H b=none->H' b=none)(there:∀b o,b∉ch->s.heap.get? b=some o->∃o',h'.get? b=some o')(tups:∀b xs,H b=some (.tup xs)->H' b=some (.tup xs))(o9:∀b o u,H b=some (.dz o u)->H' b=some (.dz o u))(rZ:∀b ps,H b=some (.EU ps)->∃more,H' b=some (.EU (ps++more)))(ns:∀m,s.heap.Ns X.env.locals m->h'.Ns X.env.locals m)(hok:gK X.prog X.w H' h')(hg:AllBare g'):
  Inv X AC σ H' { s with heap:=h',gens:=g',drawn:=d',toks:=t' }:=by
 have ZN:∀b o,X.s₀.heap.get? b=some o->b≠X.env.locals:=λb o e=>dI (jE (bK e) I.ok.above)
 have RC:∀b o,X.s₀.heap.get? b=some o->b∉X.ex->b∉ch:=λb o e hx hb=>by
  rcases(hch b hb).1 with z|z
  .exact hx z
  .exact absurd (jE (bK e) z) (iK _)
 have cellK:∀x c,X.env.cells.lookup x=some c->∀v,s.heap.IsCell c v->h'.IsCell c v:=λx c e v ⟨o,ho,hd⟩=>by
  have sP:c∉ch:=λz=>(hch c z).2.2.1 x c e rfl;by_cases hc:c∈X.fs
  .obtain ⟨sl,q⟩:=slot c o (I.EY x c e) hc sP ho (I.kW x c e);exact⟨_,q,hd⟩
  .exact ⟨o,keep c o (I.EY x c e) hc sP ho (I.kW x c e),hd⟩
 refine⟨I.ok,I.os,hg,⟨λb o e n hb hx=>?_,λb o e n hb hx=>?_,λb o e n hx=>?_,λb o e hx=>?_,λb xs e=>tups b xs (I.base.tups b xs e),λb o xs e=>o9 b o xs (I.base.o9 b o xs e),λb ps e=>?_⟩,?_,λx c e=>?_,?_,λx c e=>?_,λp hp=>?_,hok,I.len⟩
 . exact keep b o (ZN b o e) hb (RC b o e hx) (I.base.keep b o e n hb hx) (I.base.free b o e n hx)
 . obtain⟨sl,e1⟩:=I.base.slot b o e n hb hx
   obtain⟨sl',e2⟩:=slot b _ (ZN b o e) hb (RC b o e hx) e1 (I.base.free b o e n hx)
   exact⟨sl',e2⟩
 . obtain⟨o',e1⟩:=I.base.there b o e hx
   exact free b o' (RC b o e hx) e1 (I.base.free b o e n hx)
 . obtain⟨o',e1⟩:=I.base.there b o e hx
   exact there b o' (RC b o e hx) e1
 . obtain⟨m1,e1⟩:=I.base.rZ b ps e
   obtain⟨m2,e2⟩:=rZ b _ e1
   exact⟨m1++m2,by rw[e2,Array.append_assoc]⟩
 . obtain⟨m,hn,hl⟩:=I.loc
   refine⟨m,ns m hn,λi x v e1 e2 e3=>?_⟩
   obtain⟨u,r,l⟩:=hl i x v e1 e2 e3
   refine⟨u,r,?_⟩
   rcases l with l|⟨k,c,e,z⟩
   . exact .inl l
   . exact .inr ⟨k,c,e,cellK x c e _ z⟩
 . obtain⟨v,z⟩:=I.cell x c e
   exact⟨v,cellK x c e v z⟩
 . obtain⟨m,⟨o,_,_,ho,_⟩,_⟩:=I.loc
   exact free _ o (λz=>(hch _ z).2.1 rfl) ho I.free
 . obtain⟨v,o,ho,hd⟩:=I.cell x c e
   exact free c o (λz=>(hch c z).2.2.1 x c e rfl) ho (I.kW x c e)
 . obtain⟨e,n,ne,nf,d⟩:=I.pin p hp
   have sP:p.1∉ch:=λz=>(hch p.1 z).2.2.2 p hp rfl
   exact⟨keep p.1 p.2 ne nf sP e n,free p.1 p.2 sP e n,ne,nf,d⟩
def Inv.un(I:Inv X AC σ H s)(u:Un X.fs [] H H' s.heap h')(hok:gK X.prog X.w H' h'):Inv X AC σ H' { s with heap:=h',toks:=t' }:=by obtain⟨m,⟨o,es,ep,ho,r⟩,_⟩:=id I.loc;obtain⟨sl,hL⟩:=u.any ho I.free (by simp);exact I.step (g':=s.gens) (d':=s.drawn) (ch:=[]) (λ_ z=>nomatch z) (λb o _ hb _ e n=>u.keep b o e n hb (by simp)) (λb o _ hb _ e n=>u.slot b o e n hb (by simp)) (λb o _ e n=>u.free b o e n (by simp)) (λb o _ e=>u.there b o e (by simp)) u.tups u.o9 u.rZ (λm' hm=>by obtain⟨o',es',nI,ho',r'⟩:=hm;rw[ho]at ho';cases ho';exact⟨_,es',nI,hL,r'⟩) hok I.bare
def Inv.call{d':Drawn}(I:Inv X AC σ H s)(u:Un (frs X.stack) ch H H' s.heap h')(hok:gK X.prog X.w H' h')(hg:AllBare g')(hch:∀b∈ch,(b∈X.ex\/X.s₀.heap.objs.size<=b)/\b≠X.env.locals/\(∀x c,X.env.cells.lookup x=some c->c≠b)/\∀p∈X.pn++AC,p.1≠b):
  Inv X AC σ H' { s with heap:=h',gens:=g',drawn:=d',toks:=t' }:=by
 obtain⟨m,⟨o,es,ep,ho,r⟩,_⟩:=id I.loc
 obtain⟨sl,hL⟩:=u.any ho I.free λz=>(hch _ z).2.1 rfl
 exact I.step (ch:=ch) hch (λb o hL hb hc e n=>u.keep b o e n (λz=>(cV.mp (I.EZ b z)).elim hL hb) hc) (λb o _ _ hc e n=>u.any e n hc) (λb o hc e n=>u.free b o e n hc) (λb o hc e=>u.there b o e hc) u.tups u.o9 u.rZ (λm' hm=>by obtain⟨o',es',nI,ho',r'⟩:=hm;rw[ho]at ho';cases ho';exact⟨_,es',nI,hL,r'⟩) hok hg
def Inv.turned(I:Inv X AC σ H s)(k:∀b o,b≠it->s.heap.get? b=some o->h'.get? b=some o)(hn:H it=none)(hL:it≠X.env.locals)(h1:it∈X.ex\/X.s₀.heap.objs.size<=it)(h2:∀x c,X.env.cells.lookup x=some c->c≠it)(h3:∀p∈X.pn++AC,p.1≠it):Inv X AC σ H { s with heap:=h',toks:=t' }:=by
 have ZO:∀b u,H b=some u->b≠it:=λb u e z=>by rw[z,hn]at e;cases e
 refine I.step (g':=s.gens) (d':=s.drawn) (ch:=[it]) (λb hb=>?_) (λb o _ _ hc e _=>k b o (λz=>hc (by simp[z])) e) (λb o _ _ hc e _=>⟨o.slots,k b o (λz=>hc (by simp[z])) e⟩) (λ_ _ _ _ n=>n)
  (λb o hc e=>⟨o,k b o (λz=>hc (by simp[z])) e⟩) (λ_ _ e=>e) (λ_ _ _ e=>e) (λb ps e=>⟨#[],by rw[e];simp⟩) (λm hm=>?_) (λb u e=>?_) I.bare
 . have e:b=it:=by simpa using hb
   subst e
   exact⟨h1,hL,h2,h3⟩
 . obtain⟨o,es,ep,ho,r⟩:=hm
   exact⟨o,es,ep,k _ o (cW hL) ho,r⟩
 . refine(I.hok b u e).stay (λc v hc q=>k c v ?_ q) (λ_ q=>q) λ_ _ q=>q
   rcases hc with z|z
   . rw[z];exact ZO b u e
   . exact ZO c _ z
def Inv.tok(I:Inv X AC σ H s)(t:Nat):Inv X AC σ H { s with toks:=t }:=I.un (h':=s.heap) (t':=t) Un.refl I.hok
theorem Inv.kept(I:Inv X AC σ H s)(k:∀b u,s.heap.get? b=some u->h'.get? b=some u):Inv X AC σ H { s with heap:=h',toks:=t' }:=I.un (Un.kept k) (I.hok.kept k)
theorem Inv.laid(I:Inv X AC σ H s)(k:∀b u,s.heap.get? b=some u->h'.get? b=some u)(hp:s.heap.objs.size<=a)(new:c5 X.prog X.w (upd H a o) h' a o):Inv X AC σ (upd H a o) { s with heap:=h',toks:=t' }:=I.un (Un.laid k hp (I.hok.fresh hp)) (I.hok.laid k hp new)
theorem Inv.write{x e:Addr}(I:Inv X AC σ H s)(mu:MI (H x))(he:e=x\/H e=some (.own x))(k:∀b u,b≠e->s.heap.get? b=some u->h'.get? b=some u)(JA:∃u,h'.get? e=some u)(new:c5 X.prog X.w (upd H x o) h' x o):Inv X AC σ (upd H x o) { s with heap:=h',toks:=t' }:=I.un (Un.write mu he k JA) (I.hok.write mu he k JA new)
def Inv.JD{RD:AO}(I:Inv X AC σ H s)(h:∀p∈RD,s.heap.get? p.1=some p.2/\H p.1=none/\p.1≠X.env.locals/\p.1∉X.fs/\∀v,p.2.data ≠ .cell v):Inv X RD σ H s:=⟨I.ok,I.os,I.bare,I.base,I.loc,I.cell,I.free,I.kW,λp hp=>(eE.mp hp).elim (λz=>I.pin p (yo _ z)) (h p),I.hok,I.len⟩
def yq(hN:N.Nodup)(a:N[i]?=some x)(b:N[j]?=some x):i=j:=by obtain⟨h1,e1⟩:=dW.mp a;obtain⟨h2,e2⟩:=dW.mp b;exact(List.getElem_inj hN).mp (e1.trans e2.symm)
def u6{E:VS}{v:V}{Q:Unit->Shared->Prop}(I:Inv X AC σ H s)(hN:X.N.Nodup)(hi:X.N[i]?=some x)(hx:Loc X.env.scope x)(r:RelV v u)(h:∀s',Inv X AC (σ.set i (some v)) H s'->(∃a,Heap.SameBut a s.heap s'.heap/\(a=X.env.locals\/X.env.cells.lookup x=some a))->Q () s')(hf:X.fn x=true\/X.env.scope.names.lookup x=some .local:=by first|exact .inl rfl|exact .inr rfl|assumption):wpAny M A (storeName X.env x u) Q E s:=by
 obtain⟨m,hn,hl⟩:=id I.loc
 have hcls:(X.env.scope.kind ==.class || (X.env.scope.kind ==.module && X.env.locals != X.env.globals))=false:=by rw[I.ok.kind];rfl
 have ZP:i<σ.length:=by rw[I.len];exact(dW.mp hi).1
 have EY:=I.EY
 have tracked:∀{a:Addr}{h':Heap},(∃o,s.heap.get? a=some o/\H a=none)->Heap.SameBut a s.heap h'->gK X.prog X.w H h':=λ{a h'} ha hs b ob e=>by
  obtain⟨_,_,hfree⟩:=ha;refine(I.hok b ob e).stay (λc w' hc q=>(hs.2 c ?_).trans q) (λ_ q=>q) λ_ _ q=>q;rintro rfl;rcases hc with rfl|hc
  .rw [hfree]at e;cases e
  .rw [hfree]at hc;cases hc
 rcases hx with hk|hk
 . refine wpAny_storeName_local hk hn (λh' hn' hs=>?_) hcls
   obtain⟨oL,_,_,hoL,_⟩:=id hn
   refine h _ ⟨I.ok,I.os,I.bare,⟨λb o e n hb hx=>?_,λb o e n hb hx=>?_,I.base.free,λb o e hx=>?_,I.base.tups,I.base.o9,I.base.rZ⟩,⟨_,hn',λj y v' e1 e2 e3=>?_⟩,λy c e=>?_,I.free,I.kW,λp hp=>?_,tracked ⟨oL,hoL,I.free⟩ hs,by simpa using I.len⟩ ⟨_,hs,.inl rfl⟩
   . exact(hs.2 b (dI (jE (bK e) I.ok.above))).trans (I.base.keep b o e n hb hx)
   . obtain⟨sl,e1⟩:=I.base.slot b o e n hb hx
     exact⟨sl,(hs.2 b (dI (jE (bK e) I.ok.above))).trans e1⟩
   . obtain⟨o',e1⟩:=I.base.there b o e hx
     exact⟨o',(hs.2 b (dI (jE (bK e) I.ok.above))).trans e1⟩
   . by_cases hj:j=i
     . subst hj
       rw[hi]at e1;cases e1
       rw[Bs ZP]at e2
       cases e2
       exact⟨u,r,.inl ⟨hk,by simp⟩⟩
     . rw[EK (cW hj)]at e2
       obtain⟨u',r',q⟩:=hl j y v' e1 e2 e3
       refine⟨u',r',?_⟩
       rcases q with⟨k,e⟩|⟨k,c,e,z⟩
       . refine .inl ⟨k,?_⟩
         have:y≠x:=λe=>hj (yq hN e1 (e▸hi))
         simp[this,e]
       . exact .inr ⟨k,c,e,z.sameBut hs (EY y c e)⟩
   . obtain⟨w',z⟩:=I.cell y c e
     exact⟨w',z.sameBut hs (EY y c e)⟩
   . obtain⟨e,n,ne,nf,d⟩:=I.pin p hp
     exact⟨(hs.2 p.1 ne).trans e,n,ne,nf,d⟩
 . have hfn:X.fn x=true:=by
    rcases hf with z|z
    . exact z
    . rw[z]at hk;cases hk
   obtain⟨c,hc⟩:=I.ok.has x (.inl hk)
   obtain⟨w',z⟩:=I.cell x c hc
   refine wpAny_storeName_cell I.ok.kind hk hc z (λh' hc' hs=>?_)
   obtain⟨oc,hoc,abd⟩:=id z
   refine h { s with heap:=h' } ⟨I.ok,I.os,I.bare,⟨λb o e n hb hx=>?_,λb o e n hb hx=>?_,I.base.free,λb o e hx=>?_,I.base.tups,I.base.o9,I.base.rZ⟩,⟨m,hn.sameBut hs (cW (EY x c hc)),λj y v' e1 e2 e3=>?_⟩,λy c' e=>?_,I.free,I.kW,λp hp=>?_,tracked ⟨oc,hoc,I.kW x c hc⟩ hs,by simpa using I.len⟩ ⟨c,hs,.inr hc⟩
   . exact(hs.2 b (dI (jE (bK e) (I.ok.fL x c hfn hc)))).trans (I.base.keep b o e n hb hx)
   . obtain⟨sl,e1⟩:=I.base.slot b o e n hb hx
     exact⟨sl,(hs.2 b (dI (jE (bK e) (I.ok.fL x c hfn hc)))).trans e1⟩
   . obtain⟨o',e1⟩:=I.base.there b o e hx
     exact⟨o',(hs.2 b (dI (jE (bK e) (I.ok.fL x c hfn hc)))).trans e1⟩
   . by_cases hj:j=i
     . subst hj
       rw[hi]at e1;cases e1
       rw[Bs ZP]at e2
       cases e2
       exact⟨u,r,.inr ⟨.inl hk,c,hc,hc'⟩⟩
     . rw[EK (cW hj)]at e2
       obtain⟨u',r',q⟩:=hl j y v' e1 e2 e3
       refine⟨u',r',?_⟩
       rcases q with q|⟨k,c',e,z'⟩
       . exact .inl q
       . refine .inr ⟨k,c',e,z'.sameBut hs ?_⟩
         rintro rfl
         exact hj (yq hN e1 (I.ok.inj _ _ _ e hc▸hi))
   . by_cases hcc:c'=c
     . subst hcc;exact⟨_,hc'⟩
     . obtain⟨w2,z2⟩:=I.cell y c' e
       exact⟨w2,z2.sameBut hs hcc⟩
   . obtain⟨e,n,ne,nf,d⟩:=I.pin p hp
     refine⟨(hs.2 p.1 ?_).trans e,n,ne,nf,d⟩
     intro q
     rw[q,hoc]at e
     have q':oc=p.2:=fh e
     exact d w' (by rw[<-q'];exact abd)
def ug{E:VS}{v:V}{Q:Unit->Shared->Prop}(I:Inv X AC σ H s)(hN:X.N.Nodup)(hi:X.N[i]?=some x)(hx:Loc X.env.scope x)(r:RelV v u)(h:∀s',Inv X AC (σ.set i (some v)) H s'->Q () s')(hf:X.fn x=true\/X.env.scope.names.lookup x=some .local:=by first|exact .inl rfl|exact .inr rfl|assumption):wpAny M A (storeName X.env x u) Q E s:=
 u6 I hN hi hx r (λs' I' _=>h s' I') hf
def Inv.RE{s':Shared}(I:Inv X AC σ H s)(ho:s'.os=s.os)(u:Un (frs X.stack) ch H H' s.heap s'.heap)(hok:gK X.prog X.w H' s'.heap)(hg:AllBare s'.gens)(hch:∀b∈ch,(b∈X.ex\/X.s₀.heap.objs.size<=b)/\b≠X.env.locals/\(∀x c,X.env.cells.lookup x=some c->c≠b)/\∀p∈X.pn++AC,p.1≠b):Inv X AC σ H' s':=by
 obtain⟨h',g',d',t',o'⟩:=s'
 have e:o'=s.os:=ho
 subst e
 exact I.call (g':=g') (t':=t') (d':=d') u hok hg hch
end
abbrev XK:=Value->Option Addr->Hp->Prop
abbrev St:=Cl (Option V)
abbrev VK:=V->Hp->Prop
abbrev TE:=St->Hp->VK->Prop
abbrev TT:=St->Hp->(Bool->Hp->Prop)->Prop
abbrev TA:=St->Hp->(Cl V->Hp->Prop)->Prop
structure Ends where
 nx:St->Hp->Prop
 rt:VK
 bk:St->Hp->Prop:=λ_ _=>False
 ct:St->Hp->Prop:=λ_ _=>False
abbrev TS:=Ends->St->Hp->Prop
def EP(X:Cx)(AC:AO)(σ:St)(Q:VK)(u:Value)(s':Shared):Prop:=∃v H',Inv X AC σ H' s'/\RelV v u/\Q v H'
def TP(X:Cx)(AC:AO)(σ:St)(Q:Bool->Hp->Prop)(b:Bool)(s':Shared):Prop:=∃H',Inv X AC σ H' s'/\Q b H'
def AP(X:Cx)(AC:AO)(σ:St)(Q:Cl V->Hp->Prop)(us:Cl Value)(s':Shared):Prop:=∃vs H',Inv X AC σ H' s'/\Vals vs us/\Q vs H'
def SP(X:Cx)(AC:AO)(D:Ends)(f:Flow)(s':Shared):Prop:=match f with
 | .next=>∃σ' H',Inv X AC σ' H' s'/\D.nx σ' H'
 | .brk=>∃σ' H',Inv X AC σ' H' s'/\D.bk σ' H'
 | .cont=>∃σ' H',Inv X AC σ' H' s'/\D.ct σ' H'
 | .ret u=>∃v σ' H',Inv X AC σ' H' s'/\RelV v u/\D.rt v H'
def PE(X:Cx)(e:Expr)(t:TE):Prop:=∀(AC:AO)(s:Shared)(σ:St)(H:Hp)(Q:VK),Inv X AC σ H s->t σ H Q->wpAny (model X.prog X.w) X.A (eval e X.env) (EP X AC σ Q) X.xe s
def PT(X:Cx)(e:Expr)(t:TT):Prop:=∀(AC:AO)(s:Shared)(σ:St)(H:Hp)(Q:Bool->Hp->Prop),Inv X AC σ H s->t σ H Q->wpAny (model X.prog X.w) X.A (isTrue e X.env (eval e X.env)) (TP X AC σ Q) X.xe s
def PW(X:Cx)(e:Expr)(t:TT):Prop:=∀(whole:Sem Value)(AC:AO)(s:Shared)(σ:St)(H:Hp)(Q:Bool->Hp->Prop),Inv X AC σ H s->t σ H Q->wpAny (model X.prog X.w) X.A (isTrue e X.env whole) (TP X AC σ Q) X.xe s
variable {X:Cx}{e:Expr}
def PW.pt{t:TT}(h:PW X e t):PT X e t:=h _
def PA(X:Cx)(es:Cl Expr)(t:TA):Prop:=∀(pos:Pos)(AC:AO)(s:Shared)(σ:St)(H:Hp)(Q:Cl V->Hp->Prop),Inv X AC σ H s->t σ H Q->wpAny (model X.prog X.w) X.A (spliced (backTo pos (starEach es X.env))) (AP X AC σ Q) X.xe s
def PS(X:Cx)(st:Stmt)(t:TS):Prop:=∀(AC:AO)(s:Shared)(σ:St)(H:Hp)(D:Ends),Inv X AC σ H s->t D σ H->wpAny (model X.prog X.w) X.A (exec st X.env) (SP X AC D) X.xe s
def rB(X:Cx)(st:Cl Stmt)(t:TS):Prop:=∀(AC:AO)(s:Shared)(σ:St)(H:Hp)(D:Ends),Inv X AC σ H s->t D σ H->wpAny (model X.prog X.w) X.A (execs st X.env) (SP X AC D) X.xe s
def aX{α:Type}{t:Sem α}{Q Q':α->Shared->Prop}{E:VS}{s:Shared}(h:wpAny M A t Q E s)(hQ:∀a s,Q a s->Q' a s):wpAny M A t Q' E s:=gZ h hQ λ_ _ x=>x
variable {AC:AO}{σ:St}
section
variable {X:Cx}
inductive U0(i:Nat)(σ:St)(H:Hp)(Q:VK):Prop
 |mk(v:_)(_:σ[i]?=some (some v))(_:Q v H)
def tC(v:V):TE:=λ_ H Q=>Q v H
def U1{pos:Pos}(hN:X.N[i]?=some x)(hv:RB X.env.scope x)(hd:(x==("__debug__":Str))=false:=by decide)(hcd:(x==("__classdict__":Str))=false:=by decide):PE X (.Name x pos) (U0 i):=by
 intro AC s σ H Q I h;obtain⟨v,e,h⟩:=h;obtain⟨m,hn,hl⟩:=I.loc;obtain⟨u,r,l⟩:=hl i x v hN e hv;have fin:EP X AC σ Q u s:=⟨v,H,I,r,h⟩
 rcases l with⟨hk,hm⟩|⟨hk,c,hc,hcell⟩
 .exact wpAny_Name (wpAny_loadName_local I.ok.kind hk hn hm fin) hd
 .rcases hk with hk|hk
  .exact wpAny_Name (wpAny_loadName_cell I.ok.kind hk hc hcell fin) hd
  .exact wpAny_Name (wpAny_loadName_free I.ok.kind hk hc hcell fin hcd) hd
def Gl(X:Cx)(x:Str):Prop:=X.env.kindOf x=some .globalImplicit
def wN{E:VS}{s:Shared}{pos:Pos}{Q:VS}(I:Inv X AC σ H s)(hg:Gl X x)(hm:X.mg x=some u)(h:Q u s)(hd:(x==("__debug__":Str))=false:=by decide):wpAny (model X.prog X.w) X.A (eval (.Name x pos) X.env) Q E s:=
 Calls.Name_function_global I.ok.kind hg (Calls.loadGlobal_global (by rw[I.ok.glob];exact I.mod.glob.keeps I.bk) hm h) hd
def qg{E:VS}{s:Shared}{pos:Pos}{Q:VS}(I:Inv X AC σ H s)(hg:Gl X x)(hm:X.mg x=none)(hv:bootBuiltins x=some u)(h:Q u s)(hn:x ≠ "__name__":=by decide)(hd:(x==("__debug__":Str))=false:=by decide):wpAny (model X.prog X.w) X.A (eval (.Name x pos) X.env) Q E s:=by
 obtain⟨mb,h1,h2⟩:=I.mod.blt
 exact Calls.Name_function_global I.ok.kind hg (Calls.loadGlobal_builtin (by rw[I.ok.glob];exact I.mod.glob.keeps I.bk) hm (by rw[I.ok.blt];exact h1.keeps I.bk) ((h2 x hn).trans hv) h) hd
def SN{v:V}{pos:Pos}(hg:Gl X x)(hm:X.mg x=none)(hv:bootBuiltins x=some u)(r:RelV v u)(hn:x ≠ "__name__":=by decide)(hd:(x==("__debug__":Str))=false:=by decide):PE X (.Name x pos) (tC v):=λ_ _ _ H _ I h=>qg I hg hm hv ⟨v,H,I,r,h⟩ hn hd
variable {a b:Expr}{ta tb:TE}{pos:Pos}
def PC(X:Cx)(op:CmpOp)(a b:Expr)(t:TE):Prop:=∀(AC:AO)(s:Shared)(σ:St)(H:Hp)(Q:VK),Inv X AC σ H s->t σ H Q->wpAny (model X.prog X.w) X.A (eval a X.env) (λv s₁=>wpAny (model X.prog X.w) X.A (eval b X.env) (λu s₂=>wpAny (model X.prog X.w) X.A (compareOp op v u) (EP X AC σ Q) X.xe s₂) X.xe s₁) X.xe s
inductive yTB(Q:Bool->Hp->Prop)(x:V)(H1:Hp):Prop
 |mk(c:_)(_:x =.bl c)(_:Q c H1)
def tB(t:TE):TT:=λσ H Q=>t σ H (yTB Q)
variable {tA RG:TT}{B2:Cl Expr}
def Yt(u:TT)(σ:St)(Q:Bool->Hp->Prop):Bool->Hp->Prop:=λc H1=>if c=true then u σ H1 Q else Q false H1
def abe(t u:TT):TT:=λσ H Q=>t σ H (Yt u σ Q)
def abf(u:TT)(σ:St)(Q:Bool->Hp->Prop):Bool->Hp->Prop:=λc H1=>if c=true then Q true H1 else u σ H1 Q
def tOr(t u:TT):TT:=λσ H Q=>t σ H (abf u σ Q)
abbrev Yu(Q:Bool->Hp->Prop):Bool->Hp->Prop:=λc H1=>Q (!c) H1
def abg(t:TT):TT:=λσ H Q=>t σ H (Yu Q)
inductive U3(tb:TE)(σ:St)(Q:VK)(x:V)(H1:Hp):Prop
 |mk(c:_)(_:x =.bl c)(_:if c=true then tb σ H1 Q else Q (.bl false) H1)
def Yv(ta tb:TE):TE:=λσ H Q=>ta σ H (U3 tb σ Q)
inductive U4(Q:VK)(x:V)(H1:Hp):Prop
 |mk(c:_)(_:x =.bl c)(_:Q (.bl (!c)) H1)
def Yw(ta:TE):TE:=λσ H Q=>ta σ H (U4 Q)
def abh(ta:TE)(tb:TE)(σ:St)(Q:VK):Bool->Hp->Prop:=λc H1=>if c=true then ta σ H1 Q else tb σ H1 Q
def tIf(t:TT)(ta tb:TE):TE:=λσ H Q=>t σ H (abh ta tb σ Q)
end
def aI(K:Fg)(H:Hp)(a:Addr)(xs:Cl V):Prop:=Rd H a (.lst xs)\/
  ∃(o:Obj)(BT:Array Value)(n:Nat),K.lookup a=some o/\o.cls =.type "list"/\o.dict=none/\o.data =.seq BT n/\BT.size<=sizeLine/\Vals xs BT.toList
def bR(K:Fg)(H:Hp)(a:Addr)(xs:Cl V):Prop:=Rd H a (.tup xs)\/
  ∃(o:Obj)(BT:Array Value)(n:Nat),K.lookup a=some o/\o.cls =.type "tuple"/\o.data =.seq BT n/\BT.size<=sizeLine/\Vals xs BT.toList
def abi:Value->Option V
 | .none=>some .b8
 | .bool b=>some (.bl b)
 | .int i _=>some (.int i)
 | .str x _=>some (.str x)
 | .bytes b _=>some (.uT b)
 | .float b _=>some (.ET b)
 | .ref a=>some (.ref a)
 | .type n=>some (.ty n)
 | _=>none
def RelV.abs{x:V}(r:RelV x u):abi u=some x:=by
 cases x with
 | b8=>cases r;rfl
 | bl _=>cases r;rfl
 | int _=>obtain⟨t,rfl⟩:=r;rfl
 | str _=>obtain⟨t,rfl⟩:=r;rfl
 | uT _=>obtain⟨t,rfl⟩:=r;rfl
 | ET _=>obtain⟨t,rfl⟩:=r;rfl
 | ref _=>cases r;rfl
 | ty _=>cases r;rfl
variable {y:V}
def RelV.inj{x:V}(r:RelV x u)(q:RelV y u):x=y:=fh (r.abs.symm.trans q.abs)
theorem Vals.inj:∀{xs ys:Cl V}{us:Cl Value},Vals xs us->Vals ys us->xs=ys
 | _,_,_,.nil,.nil=>rfl
 | _,_,_,.cons r t,.cons r' t'=>by rw[r.inj r',Vals.inj t t']
variable {K:Fg}
section
variable {X:Cx}{AC:AO}{σ:St}{H:Hp}{s:Shared}{a:Addr}{xs ys:Cl V}
def aI.of(h:H a=some (.lst xs)):aI K H a xs:=.inl (.inl h)
def bR.of(h:H a=some (.tup xs)):bR K H a xs:=.inl (.inl h)
theorem Inv.list(I:Inv X AC σ H s)(h:aI X.K H a xs):∃BT:Cl Value,Vals xs BT/\PlainL s.heap a BT.toArray/\xs.length<=sizeLine:=by
 rcases h with h|⟨o,BT,n,hk,hc,hd,hs,hz,r⟩
 .obtain ⟨z,BT,n,r,e⟩:=h.ok I.hok;exact⟨BT,r,⟨_,n,e,Z,Z,Z⟩,z⟩
 .refine ⟨BT.toList,r,⟨o,n,I.iH a o hk,hc,hd,by simpa using hs⟩,?_⟩;have e:=r.length;simp only[Array.length_toList]at e;omega
theorem Inv.tuple(I:Inv X AC σ H s)(h:bR X.K H a xs):∃BT:Cl Value,Vals xs BT/\IsTup s.heap a BT.toArray/\xs.length<=sizeLine:=by
 rcases h with h|⟨o,BT,n,hk,hc,hs,hz,r⟩
 .obtain ⟨z,BT,r,p⟩:=h.ok I.hok;exact⟨BT,r,p,z⟩
 .refine ⟨BT.toList,r,⟨o,I.iH a o hk,hc,n,by simpa using hs⟩,?_⟩;have e:=r.length;simp only[Array.length_toList]at e;omega
def Inv.Pu(I:Inv X AC σ H s)(h:aI X.K H a xs)(h':aI X.K H a ys):xs=ys:=by
 obtain⟨BT,r,⟨o,n,e,_,_,d⟩,_⟩:=I.list h;obtain⟨its',r',⟨o',n',e',_,_,d'⟩,_⟩:=I.list h';rw[e]at e';cases e';rw[d]at d';injection d' with d1 _;have:BT=its':=by simpa using fY Array.toList d1
 subst this;exact r.inj r'
end
abbrev Cx.r6(X:Cx)(E:VS):Cx:={ X with xe:=E }
abbrev Cx.xR(X:Cx):Cx:=X.r6 λ_ _=>False
theorem Cx.Ok.r6(ok:X.Ok)(E:VS):(X.r6 E).Ok:=⟨ok.mod,ok.kind,ok.glob,ok.blt,ok.above,ok.inj,ok.has,ok.fL,ok.hd,ok.frames,ok.stk,ok.JB,ok.bs,ok.CB,ok.EW,ok.BA,ok.o_,ok.EX⟩
def Cx.Ok.oR{E:VS}(ok:(X.r6 E).Ok):X.Ok:=⟨ok.mod,ok.kind,ok.glob,ok.blt,ok.above,ok.inj,ok.has,ok.fL,ok.hd,ok.frames,ok.stk,ok.JB,ok.bs,ok.CB,ok.EW,ok.BA,ok.o_,ok.EX⟩
variable {D:Ends}
section
variable {X:Cx}{AC:AO}{σ:St}{H:Hp}{s:Shared}{E:VS}
theorem Inv.r6(I:Inv X AC σ H s)(E:VS):Inv (X.r6 E) AC σ H s:=⟨I.ok.r6 E,I.os,I.bare,I.base,I.loc,I.cell,I.free,I.kW,I.pin,I.hok,I.len⟩
theorem Inv.oR(I:Inv (X.r6 E) AC σ H s):Inv X AC σ H s:=⟨I.ok.oR,I.os,I.bare,I.base,I.loc,I.cell,I.free,I.kW,I.pin,I.hok,I.len⟩
theorem SP.oR{f:Flow}(h:SP (X.r6 E) AC D f s'):SP X AC D f s':=by
 cases f with
 | next=>obtain⟨σ',H',I,q⟩:=h;exact⟨σ',H',I.oR,q⟩
 | brk=>obtain⟨σ',H',I,q⟩:=h;exact⟨σ',H',I.oR,q⟩
 | cont=>obtain⟨σ',H',I,q⟩:=h;exact⟨σ',H',I.oR,q⟩
 | ret u=>obtain⟨v,σ',H',I,r,q⟩:=h;exact⟨v,σ',H',I.oR,r,q⟩
theorem rB.xR{st:Cl Stmt}{t:TS}(h:rB X.xR st t):rB X st t:=λAC s σ H D I hw=>
 gZ (h AC s σ H D (I.r6 _) hw) (λ_ _ q=>q.oR) λ_ _ z=>False.elim z
end
variable {tc:TT}
section
variable {X:Cx}{st:Stmt}{B2:Cl Stmt}{t u:TS}{e:Expr}{te:TE}{pos:Pos}
def Yx:TS:=λD σ H=>D.nx σ H
def Ends.sq(D:Ends)(u:TS):Ends:={ D with nx:=u D }
def Ends.lp(D:Ends)(N:St->Hp->Prop):Ends:={ D with nx:=N,ct:=N,bk:=D.nx }
def Li(t u:TS):TS:=λD σ H=>t (D.sq u) σ H
def Inv.quiet{s:Shared}(I:Inv X AC σ H s):interactive X.env=false:=by simp[interactive,I.ok.kind]
def U5(D:Ends)(σ:St):V->Hp->Prop:=λ_ H1=>D.nx σ H1
def Yy(te:TE):TS:=λD σ H=>te σ H (U5 D σ)
def abj(te:TE):TS:=λD σ H=>te σ H D.rt
def RH(t:TS)(u:TS)(D:Ends)(σ:St):Bool->Hp->Prop:=λb H1=>if b=true then t D σ H1 else u D σ H1
def U6(c:TT)(t u:TS):TS:=λD σ H=>c σ H (RH t u D σ)
def RI{c:Expr}{a b:Cl Stmt}(hc:PT X c tc)(ha:rB X a t)(hb:rB X b u):PS X (.If c a b pos) (U6 tc t u):=by
 intro AC s σ H D I h;refine wpAny_If (aX (hc AC s σ H _ I h) λd s1 ⟨H1,I1,q1⟩=>?_);cases d with
 | true=>exact ha AC s1 σ H1 D I1 q1
 | false=>exact hb AC s1 σ H1 D I1 q1
def U7:TS:=λ_ _ _=>False
end
abbrev TG:=V->St->Hp->(St->Hp->Prop)->Prop
abbrev zM:=Cl V->St->Hp->(St->Hp->Prop)->Prop
def PG(X:Cx)(target:Expr)(t:TG):Prop:=∀(AC:AO)(s:Shared)(σ:St)(H:Hp)(v:V)(u:Value)(Q:St->Hp->Prop),Inv X AC σ H s->RelV v u->t v σ H Q->wpAny (model X.prog X.w) X.A (assign target X.env u) (λ_ s'=>∃σ' H',Inv X AC σ' H' s'/\Q σ' H') X.xe s
def ZQ(X:Cx)(ts:Cl Expr)(t:zM):Prop:=∀(AC:AO)(s:Shared)(σ:St)(H:Hp)(vs:Cl V)(us:Cl Value)(Q:St->Hp->Prop),Inv X AC σ H s->Vals vs us->t vs σ H Q->wpAny (model X.prog X.w) X.A (assignInOrder ((assignEach ts X.env).map (·.2)) us) (λ_ s'=>∃σ' H',Inv X AC σ' H' s'/\Q σ' H') X.xe s
abbrev E1:=V->V->V->Hp->(Hp->Prop)->Prop
def U8(X:Cx)(t:E1):Prop:=∀(AC:AO)(s:Shared)(σ:St)(H:Hp)(o i v:V)(ov iv u:Value)(Q:Hp->Prop),Inv X AC σ H s->RelV o ov->RelV i iv->RelV v u->t o i v H Q->wpAny (model X.prog X.w) X.A (setItem ov iv u) (λ_ s'=>∃H',Inv X AC σ H' s'/\Q H') X.xe s
variable {n:Nat}
section
variable {X:Cx}{pos:Pos}
def oq(i:Nat):TG:=λv σ H Q=>Q (σ.set i (some v)) H
inductive U9(vs:Cl V)(σ:St)(H:Hp)(Q:St->Hp->Prop):Prop
 |mk(_:vs=[])(_:Q σ H)
def U_(u:zM)(Q:St->Hp->Prop)(r:Cl V):St->Hp->Prop:=λσ' H'=>u r σ' H' Q
inductive RJ(t:TG)(u:zM)(vs:Cl V)(σ:St)(H:Hp)(Q:St->Hp->Prop):Prop
 |mk(v r:_)(_:vs=v::r)(_:t v σ H (U_ u Q r))
inductive yr(K:Fg)(n:Nat)(t:zM)(v:V)(σ:St)(H:Hp)(Q:St->Hp->Prop):Prop
 |mk(a xs:_)(_:v =.ref a)(_:bR K H a xs)(_:xs.length=n)(_:t xs σ H Q)
def Va{es:Cl Expr}{k:Nat}{t:zM}(hc:X.calm=true)(h:ZQ X es t)(hn:(assignEach es X.env).length=n:=by rfl)(hst:(assignEach es X.env).findIdx? (·.1)=none:=by rfl):PG X (.Tuple es k pos) (yr X.K n t):=by
 intro AC s σ H v u Q I r hw
 obtain⟨a,xs,e1,hq,hl,hw⟩:=hw
 subst e1
 cases r
 obtain⟨BT,rv,ht,hz⟩:=I.tuple hq
 refine assign_Tuple_tuple (I.ok.hd hc) ht (by simp[hn,<-hl,rv.length]) hst λh' hx=>?_
 have I1:Inv X AC σ H { s with heap:=h' }:=I.kept (t':=s.toks) λb o e=>hx b o (dI (bK e)) e
 exact h AC _ σ H xs _ Q I1 (by simpa using rv) hw
def SQ(σ:St)(Q:St->Hp->Prop):Hp->Prop:=λH3=>Q σ H3
def SR(t:E1)(v:V)(σ:St)(Q:St->Hp->Prop)(o:V):V->Hp->Prop:=λi H2=>t o i v H2 (SQ σ Q)
def Yz(ti:TE)(t:E1)(v:V)(σ:St)(Q:St->Hp->Prop):V->Hp->Prop:=λo H1=>ti σ H1 (SR t v σ Q o)
def abk(to ti:TE)(t:E1):TG:=λv σ H Q=>to σ H (Yz ti t v σ Q)
def YA(g:TG)(D:Ends)(σ:St):V->Hp->Prop:=λx H1=>g x σ H1 D.nx
def E2(te:TE)(g:TG):TS:=λD σ H=>te σ H (YA g D σ)
inductive YB(i:Nat)(j:Nat)(D:Ends)(σ:St)(vs:Cl V)(H1:Hp):Prop
 |mk(v w:_)(_:vs=[v,w])(_:D.nx ((σ.set i (some v)).set j (some w)) H1)
def abl(i j:Nat)(ta:TA):TS:=λD σ H=>ta σ H (YB i j D σ)
end
section
variable {X:Cx}{pos:Pos}
def Vb(c:TT)(tb:TS):TS:=λD σ H=>∃W:Nat->St->Hp->Prop,(∃m,W m σ H)/\∀m σ H,W m σ H->c σ H λb H1=>if b=true then ∃N:St->Hp->Prop,(∀σ' H',N σ' H'->∃m',m'<m/\W m' σ' H')/\tb { D with nx:=N,ct:=N,bk:=D.nx } σ H1 else D.nx σ H1
end
structure It where
 go:Nat->Hp->Prop
 zN:Nat->Hp->V->Hp->Prop
 stop:Nat->Hp->Prop
def mK(X:Cx)(AC:AO)(H:Hp)(b:Addr):Prop:=H b=none/\b≠X.env.locals/\b∉X.fs/\(b∈X.ex\/X.s₀.heap.objs.size<=b)/\(∀x c,X.env.cells.lookup x=some c->c≠b)/\∀p∈X.pn++AC,p.1≠b
variable {H':Hp}
def Inv.yt{s:Shared}(I:Inv X AC σ H s)(hb:s.heap.objs.size<=b)(hn:H' b=none):mK X AC H' b:=by
 refine⟨hn,wK (jE I.lt hb),I.abc hb,.inr (dj I.sz hb),λx c e z=>?_,λp hp z=>?_⟩
 .obtain ⟨v,q⟩:=I.cell x c e;exact absurd (jE q.lt (by rw[z];exact hb)) (iK _)
 .exact absurd (jE (bK (I.pin p hp).1) (by rw[z];exact hb)) (iK _)
structure Turn(P:Program)(w:World)(K:Fg)(tg:Expr)(J:It)(fp:Cl Addr)(it:Addr)(tn:Nat->Heap->Prop):Prop where
 mem:it∈fp
 obj:∀i h,tn i h->∀b∈fp,∃o,h.get? b=some o/\∀v,o.data ≠ .cell v
 keep:∀i h h',tn i h->(∀b∈fp,∀o,h.get? b=some o->h'.get? b=some o)->tn i h'
 item:∀(X:Cx),X.prog=P->X.w=w->X.K=K->X.calm=true->∀(i:Nat)(AC:AO)(s:Shared)(σ:St)(H:Hp)(E:VS),Inv X AC σ H s->(∀b∈fp,mK X AC H b)->tn i s.heap->J.go i H->
  wpAny (model P w) X.A (pyNext (.ref it)) (λr s1=>∃u,r=some u/\
   wpAny (model P w) X.A (letOwnedTupleGo tg (.ref it) u) (λ_ s2=>∃x H',Inv X AC σ H' s2/\RelV x u/\J.zN i H x H'/\tn (i+1) s2.heap/\∀b∈fp,H' b=none) E s1) E s
 done:∀(X:Cx),X.prog=P->X.w=w->X.K=K->X.calm=true->∀(i:Nat)(AC:AO)(s:Shared)(σ:St)(H:Hp)(E:VS),Inv X AC σ H s->(∀b∈fp,mK X AC H b)->tn i s.heap->J.stop i H->
  wpAny (model P w) X.A (pyNext (.ref it)) (λr s1=>r=none/\Inv X AC σ H s1) E s
 self:∀(A:Around)(i:Nat)(s:Shared)(Q:VS)(E:VS),tn i s.heap->Q (.ref it) s->wpAny (model P w) A (pyIter (.ref it)) Q E s
abbrev TI:=St->Hp->(It->Hp->Prop)->Prop
def ZR(X:Cx)(AC:AO)(σ:St)(tg:Expr)(R:It->Hp->Prop)(itv:Value)(s2:Shared):Prop:=∃(it:Addr)(fp:Cl Addr)(tn:Nat->Heap->Prop)(J:It)(H':Hp),itv =.ref it/\Inv X AC σ H' s2/\Turn X.prog X.w X.K tg J fp it tn/\tn 0 s2.heap/\(∀b∈fp,mK X AC H' b)/\R J H'
def PI(X:Cx)(tg Bn:Expr)(wi:TI):Prop:=∀(AC:AO)(s:Shared)(σ:St)(H:Hp)(R:It->Hp->Prop),Inv X AC σ H s->wi σ H R->wpAny (model X.prog X.w) X.A (eval Bn X.env) (λv s1=>wpAny (model X.prog X.w) X.A (pyIter v) (ZR X AC σ tg R) X.xe s1) X.xe s
variable {tg:Expr}
def wO{E:VS}{s:Shared}{o:Obj}{n:String}{vs:Array Value}{Q:Unit->Shared->Prop}(ho:s.heap.get? it=some o)(hc:o.cls =.type n)(hd:o.data =.fields vs)(hn:["enumerate","zip","dict_itemiterator","dict_reverseitemiterator","odict_iterator","itertools.zip_longest","itertools.pairwise"].contains n=false)(hQ:Q () s):wpAny M A (letOwnedTupleGo tg (.ref it) u) Q E s:=by
 unfold letOwnedTupleGo
 cases tg <;> first
  | exact aK hQ
  | (cases u <;> first
      | exact aK hQ
      | (refine ao (wpAny_load ho ?_)
         rw[hc,hd]
         show wpAny M A (if(["enumerate","zip","dict_itemiterator","dict_reverseitemiterator","odict_iterator","itertools.zip_longest","itertools.pairwise"].contains n && vs[0]?==some (rawInt _))=true then _ else _) Q E s
         rw[aA (by intro h;rw[hn,tZ]at h;cases h)]
         exact aK hQ))
def xS(K:Fg)(a:Addr):It:=⟨λi H=>∃xs x,aI K H a xs/\xs[i]?=some x,λi H x H'=>H'=H/\∀xs,aI K H a xs->xs[i]?=some x,λi H=>∃xs,aI K H a xs/\xs.length<=i⟩
def xT(lo:Int)(n:Nat):It:=⟨λi _=>i<n,λi H x H'=>H'=H/\x =.int (lo+i),λi _=>n<=i⟩
theorem ML(a it:Addr):Turn P w K tg (xS K a) [it] it (λi h=>h.IsListIter it a i) where
 mem:=by simp
 obj:=λi h st b hb=>by
  have e:b=it:=by simpa using hb
  subst e;obtain⟨o,e,c,d⟩:=st;exact⟨o,e,λv z=>by rw[d]at z;cases z⟩
 keep:=λi h h' st k=>st.at λo e=>k it (by simp) o e
 item:=by intro X hP hw hK hc i AC s σ H E I hf st hg;subst hP hw hK;obtain⟨xs,x,hq,hx⟩:=hg;obtain⟨BT,rv,p,hz⟩:=I.list hq;obtain⟨u,hu,ru⟩:=rv.get hx;obtain⟨f0,f1,f2,f3,f4,f5⟩:=hf it (by simp);refine wpAny_pyNext_list_item st p.isList (x:=u) (by simpa using hu) λh' st' sb=>?_;have I1:Inv X AC σ H { s with heap:=h' }:=I.turned (t':=s.toks) (λb o hb e=>(sb.2 b hb).trans e) f0 f1 f3 f4 f5;obtain⟨o,e,c,d⟩:=id st';exact⟨u,Z,wO (s:={ s with heap:=h' }) e c d (by decide) ⟨x,H,I1,ru,⟨Z,λys hy=>by rw[I.Pu hy hq];exact hx⟩,st',λb hb=>(hf b hb).1⟩⟩
 done:=by intro X hP hw hK hc i AC s σ H E I hf st hg;subst hP hw hK;obtain⟨xs,hq,hx⟩:=hg;obtain⟨BT,rv,p,hz⟩:=I.list hq;obtain⟨f0,f1,f2,f3,f4,f5⟩:=hf it (by simp);have hl:=rv.length;exact wpAny_pyNext_list_end (I.ok.hd hc) st p.isList (by simp;omega) λh' eb=>⟨Z,I.turned (t':=s.toks) (λb o hb e=>eb b o hb e) f0 f1 f3 f4 f5⟩
 self:=λ_ _ _ _ _ st h=>wpAny_pyIter_listiter st h
theorem Lj(it:Addr)(lo:Int)(n:Nat):Turn P w K tg (xT lo n) [it] it (λi h=>IsRangeIter h it (lo+(i:Nat)*1) ((n:Int)-(i:Nat)) 1) where
 mem:=by simp
 obj:=λi h st b hb=>by
  have e:b=it:=by simpa using hb
  subst e;exact⟨_,st,λv z=>by have z':Data.fields _=Data.cell v:=z;cases z'⟩
 keep:=λi h h' st k=>k it (by simp) _ st
 item:=by intro X hP hw hK hc i AC s σ H E I hf st hg;subst hP hw hK;obtain⟨f0,f1,f2,f3,f4,f5⟩:=hf it (by simp);have W:=Walks.range (prog:=X.prog) (w:=X.w) (I.ok.hd hc) it lo 1 n;refine W.item i s _ _ hg st λv h' tk hv st' kk=>?_;obtain⟨t,rfl⟩:=hv;have I1:Inv X AC σ H { s with heap:=h',toks:=tk }:=I.turned (λb o hb e=>kk b o (by simpa using hb) e) f0 f1 f3 f4 f5;refine⟨_,Z,wO (s:={ s with heap:=h',toks:=tk }) (n:="range_iterator") st' rfl rfl (by decide) ⟨.int (lo+i),H,I1,⟨t,?_⟩,⟨Z,Z⟩,st',λb hb=>(hf b hb).1⟩⟩;rw[mH]
 done:=by intro X hP hw hK hc i AC s σ H E I hf st hg;subst hP hw hK;obtain⟨f0,f1,f2,f3,f4,f5⟩:=hf it (by simp);exact wpAny_pyNext_range_end (I.ok.hd hc) st (by have:n<=i:=hg;omega) λh' eb=>⟨Z,I.turned (t':=s.toks) (λb o hb e=>eb b o hb e) f0 f1 f3 f4 f5⟩
 self:=λ_ _ _ _ _ st h=>wpAny_pyIter_rangeiter st h
variable {tl:TE}{fp:Cl Addr}
section
variable {X:Cx}{tg:Expr}
inductive MM(K:Fg)(R:It->Hp->Prop)(x:V)(H1:Hp):Prop
 |mk(a:_)(_:x =.ref a)(_:(∃xs,aI K H1 a xs))(_:R (xS K a:_) H1)
def RK(K:Fg)(tl:TE):TI:=λσ H R=>tl σ H (MM K R)
def SS{l:Expr}(hl:PE X l tl):PI X tg l (RK X.K tl):=by
 intro AC s σ H R I h;refine aX (hl AC s σ H _ I h) λv s1 ⟨x,H1,I1,r1,q1⟩=>?_;obtain⟨a,e,⟨xs,hq⟩,q⟩:=q1;subst e;cases r1;obtain⟨BT,rv,p,hz⟩:=I1.list hq;refine Lb p.isList ?_;refine⟨s1.heap.objs.size,[s1.heap.objs.size],_,_,H1,Z,I1.kept (t':=s1.toks) λb o e=>bQ _ e,ML a _,⟨_,c_ _ rfl,Z,Z⟩,λb hb=>?_,q⟩;have e:b=s1.heap.objs.size:=by simpa using hb
 subst e;exact I1.yt (aO _) (I1.hok.fresh (aO _))
theorem Pw{s:Shared}{R:It->Hp->Prop}{E:VS}{lo hi:Int}{t u v:Tok}{tk:Nat}(I:Inv X AC σ H s)(h1:-(2 ^ 62)<=lo)(h2:lo<2 ^ 62)(h3:-(2 ^ 62)<=hi)(h4:hi<2 ^ 62)(q:R (xT lo (hi-lo).toNat) H):wpAny (model X.prog X.w) X.A (pyIter (.ref s.heap.objs.size)) (ZR X AC σ tg R) E { s with heap:=s.heap.push { cls:=.type "range",data:=.fields #[.int lo t,.int hi u,.int 1 v] },toks:=tk }:=by
 refine wpAny_pyIter_range (IsRange.new ..) (small_one h1 h2 h3 h4) ?_
 have I1:Inv X AC σ H { s with heap:=s.heap.push { cls:=.type "range",data:=.fields #[.int lo t,.int hi u,.int 1 v] },toks:=tk }:=I.kept λb o e=>bQ _ e
 refine⟨(s.heap.push { cls:=.type "range",data:=.fields #[.int lo t,.int hi u,.int 1 v] }).objs.size,[(s.heap.push { cls:=.type "range",data:=.fields #[.int lo t,.int hi u,.int 1 v] }).objs.size],_,_,H,Z,
  I1.kept (t':=tk) λb o e=>bQ _ e,Lj _ lo (hi-lo).toNat,?_,λb hb=>?_,q⟩
 . have e1:lo+((0:Nat):Int)*1=lo:=by simp
   have e2:(((hi-lo).toNat:Nat):Int)-((0:Nat):Int)=Builtin.Range.rangeSize lo hi 1:=by rw[rangeSize_one];split <;> omega
   show IsRangeIter _ _ (lo+((0:Nat):Int)*1) ((((hi-lo).toNat:Nat):Int)-((0:Nat):Int)) 1
   rw[e1,e2]
   exact c_ _ rfl
 . have e:b=(s.heap.push { cls:=.type "range",data:=.fields #[.int lo t,.int hi u,.int 1 v] }).objs.size:=by simpa using hb
   subst e
   exact I1.yt (aO _) (I1.hok.fresh (aO _))
inductive Vc(R:It->Hp->Prop)(vs:Cl V)(H1:Hp):Prop
 |mk(j:Int)(_:vs=[.int j])(_:-(2 ^ 62)<=j)(_:j<2 ^ 62)(_:R (xT 0 j.toNat) H1)
def YC(ta:TA):TI:=λσ H R=>ta σ H (Vc R)
def Ew(g:TG)(tb:TS)(D:Ends)(σ:St):It->Hp->Prop:=λJ H1=>∃W:Nat->Nat->St->Hp->Prop,(∃m,W 0 m σ H1)/\∀i m σ H,W i m σ H->(J.stop i H/\D.nx σ H)\/(J.go i H/\∃N:St->Hp->Prop,(∀σ' H',N σ' H'->∃m',m'<m/\W (i+1) m' σ' H')/\∀x H',J.zN i H x H'->g x σ H' (tb (D.lp N)))
def abm(wi:TI)(g:TG)(tb:TS):TS:=λD σ H=>wi σ H (Ew g tb D σ)
def zO(fp:Cl Addr)(h:Heap):Cl (Addr×Obj):=fp.filterMap λb=>(h.get? b).map λo=>(b,o)
def g_{o:Obj}(hb:b∈fp)(e:h.get? b=some o):(b,o)∈zO fp h:=List.mem_filterMap.mpr ⟨b,hb,by rw[e];rfl⟩
def MN{p:Addr×Obj}(hp:p∈zO fp h):p.1∈fp/\h.get? p.1=some p.2:=by
 obtain⟨b,hb,e⟩:=List.mem_filterMap.mp hp;cases q:h.get? b with
 | none=>rw[q]at e;cases e
 | some o=>rw[q]at e;have e':(b,o)=p:=fh e;subst e';exact⟨hb,q⟩
def Inv.pinned{s:Shared}(I:Inv X AC σ H s)(hf:∀b∈fp,mK X AC H b)(ho:∀b∈fp,∃o,s.heap.get? b=some o/\∀v,o.data ≠ .cell v):Inv X (AC++zO fp s.heap) σ H s:=I.JD λp hp=>(eE.mp hp).elim (λz=>I.pin p (gi _ z)) λz=>by obtain⟨hb,e⟩:=MN z;obtain⟨f0,f1,f2,_⟩:=hf p.1 hb;obtain⟨o,e',d⟩:=ho p.1 hb;rw[e]at e';cases e';exact⟨e,f0,f1,f2,d⟩
def Inv.nM{pl:AO}{s:Shared}(I:Inv X (AC++pl) σ H s):Inv X AC σ H s:=I.JD λp hp=>I.pin p (gi _ (yo _ hp))
end
variable {tb:TS}
theorem nN{g:TG}(Pv:Nat->St->Hp->Prop)(h0:Pv 0 σ H)(hl:∀i σ H,i<=xs.length->Pv i σ H->aI K H a xs)(hs:∀i x σ H,xs[i]?=some x->Pv i σ H->g x σ H (tb (D.lp (Pv (i+1)))))(hd:∀σ H,Pv xs.length σ H->D.nx σ H):
  Ew g tb D σ (xS K a) H:=by
 refine⟨λi m σ H=>m=xs.length-i/\i<=xs.length/\Pv i σ H,⟨xs.length,by simp,gP _,h0⟩,?_⟩
 rintro i m σ H ⟨rfl,hi,p⟩
 have q:=hl i σ H hi p
 by_cases hlt:i<xs.length
 . refine .inr ⟨⟨xs,xs[i],q,by simp[hlt]⟩,Pv (i+1),λσ' H' p'=>⟨xs.length-(i+1),by omega,Z,hlt,p'⟩,λx H' y=>?_⟩
   obtain⟨e,y⟩:=y
   subst e
   exact hs i x σ _ (y xs q) p
 . have e:i=xs.length:=by omega
   subst e
   exact .inl ⟨⟨xs,q,aO _⟩,hd σ H p⟩
theorem jP{lo:Int}{g:TG}(Pv:Nat->St->Hp->Prop)(h0:Pv 0 σ H)(hs:∀i σ H,i<n->Pv i σ H->g (.int (lo+i)) σ H (tb (D.lp (Pv (i+1)))))(hd:∀σ H,Pv n σ H->D.nx σ H):
  Ew g tb D σ (xT lo n) H:=by
 refine⟨λi m σ H=>m=n-i/\i<=n/\Pv i σ H,⟨n,by simp,gP _,h0⟩,?_⟩
 rintro i m σ H ⟨rfl,hi,p⟩
 by_cases hlt:i<n
 . refine .inr ⟨hlt,Pv (i+1),λσ' H' p'=>⟨n-(i+1),by omega,Z,hlt,p'⟩,λx H' y=>?_⟩
   obtain⟨e,y⟩:=y
   subst e y
   exact hs i σ _ hlt p
 . have e:i=n:=by omega
   subst e
   exact .inl ⟨aO _,hd σ H p⟩
abbrev R2:=V->V->Hp->VK->Prop
def gq(X:Cx)(f:Value->Value->Sem Value)(r:R2):Prop:=∀(AC:AO)(s:Shared)(σ:St)(H:Hp)(x y:V)(v u:Value)(Q:VK),Inv X AC σ H s->RelV x v->RelV y u->r x y H Q->wpAny (model X.prog X.w) X.A (f v u) (EP X AC σ Q) X.xe s
def Vd(X:Cx)(f:Value->Sem Value)(r:V->Hp->VK->Prop):Prop:=∀(AC:AO)(s:Shared)(σ:St)(H:Hp)(x:V)(v:Value)(Q:VK),Inv X AC σ H s->RelV x v->r x H Q->wpAny (model X.prog X.w) X.A (f v) (EP X AC σ Q) X.xe s
def fJ(X:Cx)(f:Value)(r:Cl V->Hp->VK->Prop):Prop:=∀(AC:AO)(s:Shared)(σ:St)(H:Hp)(xs:Cl V)(us:Cl Value)(Q:VK),Inv X AC σ H s->Vals xs us->r xs H Q->wpAny (model X.prog X.w) X.A (call f us) (EP X AC σ Q) X.xe s
def Ve(r:R2)(Q:VK)(x:V):V->Hp->Prop:=λy H2=>r x y H2 Q
def Lk(r:R2)(tb:TE)(σ:St)(Q:VK):V->Hp->Prop:=λx H1=>tb σ H1 (Ve r Q x)
def RL(r:R2)(ta tb:TE):TE:=λσ H Q=>ta σ H (Lk r tb σ Q)
def abn(r:V->Hp->VK->Prop)(Q:VK):V->Hp->Prop:=λx H1=>r x H1 Q
def tUn(r:V->Hp->VK->Prop)(ta:TE):TE:=λσ H Q=>ta σ H (abn r Q)
inductive rI(C:Int->Int->Prop)(g:Int->Int->V)(x:V)(y:V)(H:Hp)(Q:VK):Prop
 |mk(i j:_)(_:x =.int i)(_:y =.int j)(_:C i j)(_:Q (g i j:_) H)
inductive CC(g:Int->Int->V)(x:V)(y:V)(H:Hp)(Q:VK):Prop
 |mk(i j:_)(_:x =.int i)(_:y =.int j)(_:Q (g i j:_) H)
inductive rU(g:Int->V)(x:V)(H:Hp)(Q:VK):Prop
 |mk(i:_)(_:x =.int i)(_:Q (g i:_) H)
section
variable {X:Cx}{a b c:Expr}{ta tb tc:TE}{pos:Pos}
def Px(ha:PE X a ta)(hb:PE X b tb){s:Shared}{R:V->V->Hp->Prop}(I:Inv X AC σ H s)(h:ta σ H λx H1=>tb σ H1 λy H2=>R x y H2){Q:VS}{f:Value->Value->Sem Value}(hf:∀v u s2 x y H2,Inv X AC σ H2 s2->RelV x v->RelV y u->R x y H2->wpAny (model X.prog X.w) X.A (f v u) Q X.xe s2):
  wpAny (model X.prog X.w) X.A (eval a X.env) (λv s₁=>wpAny (model X.prog X.w) X.A (eval b X.env) (λu s₂=>wpAny (model X.prog X.w) X.A (f v u) Q X.xe s₂) X.xe s₁) X.xe s:=by
 refine aX (ha AC s σ H _ I h) λv s1 ⟨x,H1,I1,r1,q1⟩=>?_
 refine aX (hb AC s1 σ H1 _ I1 q1) λu s2 ⟨y,H2,I2,r2,q2⟩=>?_
 exact hf v u s2 x y H2 I2 r1 r2 q2
def MO{f:Value->Value->Sem Value}{C:Int->Int->Prop}{g:Int->Int->Int}(rule:∀(i j:Int) (t u:Tok) (s:Shared) (Q:VS) (E:VS),C i j->Q (.int (g i j) s.toks) { s with toks:=s.toks+1 }->wpAny (model X.prog X.w) X.A (f (.int i t) (.int j u)) Q E s):
  gq X f (rI C λi j=> .int (g i j)):=by
 intro AC s σ H x y v u Q I rx ry h
 obtain⟨i,j,rfl,rfl,hc,q⟩:=h
 obtain⟨t,rfl⟩:=rx
 obtain⟨t',rfl⟩:=ry
 exact rule i j t t' s _ _ hc ⟨.int (g i j),H,I.tok _,⟨_,Z⟩,q⟩
def Vf{f:Value->Value->Sem Value}{g:Int->Int->Int}(rule:∀(i j:Int) (t u:Tok) (s:Shared) (Q:VS) (E:VS),Q (.int (g i j) s.toks) { s with toks:=s.toks+1 }->wpAny (model X.prog X.w) X.A (f (.int i t) (.int j u)) Q E s):
  gq X f (CC λi j=> .int (g i j)):=by
 intro AC s σ H x y v u Q I rx ry h
 obtain⟨i,j,rfl,rfl,q⟩:=h
 obtain⟨t,rfl⟩:=rx
 obtain⟨t',rfl⟩:=ry
 exact rule i j t t' s _ _ ⟨.int (g i j),H,I.tok _,⟨_,Z⟩,q⟩
def Ll{f:Value->Value->Sem Value}{g:Int->Int->Bool}(rule:∀(i j:Int) (t u:Tok) (s:Shared) (Q:VS) (E:VS),Q (.bool (g i j)) s->wpAny (model X.prog X.w) X.A (f (.int i t) (.int j u)) Q E s):
  gq X f (CC λi j=> .bl (g i j)):=by
 intro AC s σ H x y v u Q I rx ry h
 obtain⟨i,j,rfl,rfl,q⟩:=h
 obtain⟨t,rfl⟩:=rx
 obtain⟨t',rfl⟩:=ry
 exact rule i j t t' s _ _ ⟨.bl (g i j),H,I,Z,q⟩
def Vg(i j:Int):Prop:=0<=j/\j<=1000000/\i.natAbs<2 ^ 64
def Lm(i j:Int):Prop:=(-(2 ^ 64)<i/\i<2 ^ 64)\/(-(2 ^ 64)<j/\j<2 ^ 64)
def Lm.ok{i j:Int}(h:Lm i j):IntMulOk i j:=by
 rcases h with⟨h1,h2⟩|⟨h1,h2⟩
 .exact .of_left (intBits_le_64 h1 h2)
 .exact .of_right (intBits_le_64 h1 h2)
def cQ:gq X (binaryOp .Add) (CC λi j=> .int (i+j)):=Vf λ_ _ _ _ _ _ _ q=>add_int q
def oS:gq X (binaryOp .Sub) (CC λi j=> .int (i-j)):=Vf λ_ _ _ _ _ _ _ q=>sub_int q
def h_:gq X (binaryOp .Mult) (rI Lm λi j=> .int (i*j)):=MO λ_ _ _ _ _ _ _ hc q=>mul_int q hc.ok
theorem iS:gq X (binaryOp .Mod) (rI (λ_ j=>0<j) λi j=> .int (i % j)):=MO λi j _ _ _ _ _ hc q=>by have h1:(0:Int)<j:=hc;exact mod_int' (by omega) (by rw[Int.fmod_eq_emod_of_nonneg i (by omega)];exact q)
def u7:gq X (binaryOp .Pow) (rI Vg λi j=> .int (i ^ j.toNat)):=MO λ_ _ _ _ _ _ _ hc q=>pow_int_small hc.1 hc.2.1 hc.2.2 q
def unI{f:Value->Sem Value}{g:Int->Int}(rule:∀(i:Int) (t:Tok) (s:Shared) (Q:VS) (E:VS),Q (.int (g i) s.toks) { s with toks:=s.toks+1 }->wpAny (model X.prog X.w) X.A (f (.int i t)) Q E s):
  Vd X f (rU λi=> .int (g i)):=by
 intro AC s σ H x v Q I rx h
 obtain⟨i,rfl,q⟩:=h
 obtain⟨t,rfl⟩:=rx
 exact rule i t s _ _ ⟨.int (g i),H,I.tok _,⟨_,Z⟩,q⟩
def Vh:Vd X (unaryOp .USub) (rU λi=> .int (-i)):=unI λ_ _ _ _ _ q=>neg_int q
end
def Vi:V->V->Bool
 | .b8,.b8=>true | .b8,.int _=>true | .int _,.b8=>true | .b8,.bl _=>true | .bl _,.b8=>true | .b8,.str _=>true | .str _,.b8=>true
 | .int _,.int _=>true | .bl _,.bl _=>true | .str _,.str _=>true | .uT _,.uT _=>true
 | .int _,.str _=>true | .str _,.int _=>true | .bl _,.str _=>true | .str _,.bl _=>true
 | _,_=>false
inductive rEq(x:V)(y:V)(H:Hp)(Q:VK):Prop
 |mk(_:Vi x y=true)(_:Q (.bl (decide (x=y))) H)
inductive rNe(x:V)(y:V)(H:Hp)(Q:VK):Prop
 |mk(_:Vi x y=true)(_:Q (.bl (!decide (x=y))) H)
def JE{i j:Int}:decide (V.int i=V.int j)=(i==j):=by rw[wF];simp
def MP{i j:Bool}:decide (V.bl i=V.bl j)=(i==j):=by rw[wF];simp
def JF{i j:Str}:decide (V.str i=V.str j)=(i==j):=by rw[wF];simp
def JG{i j:Array UInt8}:decide (V.uT i=V.uT j)=(i.toList==j.toList):=by rw[wF];cases i;cases j;simp
variable {Q:VK}{op:CmpOp}
section
variable {X:Cx}{a b c:Expr}{ta tb tc:TE}{pos:Pos}
def cF{s:Shared}{k k':Bool}(I:Inv X AC σ H s)(q:Q (.bl k) H)(e:k=k'):EP X AC σ Q (.bool k') s:=by subst e;exact⟨.bl k,H,I,Z,q⟩
def fK:gq X (compareOp .Eq) rEq:=by
 intro AC s σ H x y v u Q I rx ry h;obtain⟨hs,q⟩:=h;cases x with
 | b8=>
  cases rx;cases y with
  | b8=>cases ry;exact PySem.EqNone.eq_none_none (cF I q (by simp))
  | bl j=>cases ry;exact PySem.EqNone.eq_none_bool (cF I q (by simp))
  | int j=>obtain⟨t',rfl⟩:=ry;exact PySem.EqNone.eq_none_int (cF I q (by simp))
  | str j=>obtain⟨t',rfl⟩:=ry;exact PySem.EqNone.eq_none_str (cF I q (by simp))
  | _=>exact absurd (show false=true from hs) d7
 | bl i=>
  cases rx;cases y with
  | b8=>cases ry;exact PySem.EqNone.eq_bool_none (cF I q (by simp))
  | bl j=>cases ry;exact eq_bool (cF I q MP)
  | str j=>obtain⟨t',rfl⟩:=ry;exact PySem.EqMixed.eq_bool_str (cF I q (by simp))
  | _=>exact absurd (show false=true from hs) d7
 | int i=>
  obtain⟨t,rfl⟩:=rx;cases y with
  | b8=>cases ry;exact PySem.EqNone.eq_int_none (cF I q (by simp))
  | int j=>obtain⟨t',rfl⟩:=ry;exact eq_int (cF I q JE)
  | str j=>obtain⟨t',rfl⟩:=ry;exact PySem.EqMixed.eq_int_str (cF I q (by simp))
  | _=>exact absurd (show false=true from hs) d7
 | str i=>
  obtain⟨t,rfl⟩:=rx;cases y with
  | b8=>cases ry;exact PySem.EqNone.eq_str_none (cF I q (by simp))
  | bl j=>cases ry;exact PySem.EqMixed.eq_str_bool (cF I q (by simp))
  | int j=>obtain⟨t',rfl⟩:=ry;exact PySem.EqMixed.eq_str_int (cF I q (by simp))
  | str j=>obtain⟨t',rfl⟩:=ry;exact eq_str (cF I q JF)
  | _=>exact absurd (show false=true from hs) d7
 | uT i=>
  obtain⟨t,rfl⟩:=rx;cases y with
  | uT j=>obtain⟨t',rfl⟩:=ry;exact PySem.W.eq_bytes (cF I q JG)
  | _=>exact absurd (show false=true from hs) d7
 | _=>cases y <;> exact absurd (show false=true from hs) d7
def uh:gq X (compareOp .NotEq) rNe:=by
 intro AC s σ H x y v u Q I rx ry h;obtain⟨hs,q⟩:=h;cases x with
 | b8=>
  cases rx;cases y with
  | b8=>cases ry;exact PySem.EqNone.ne_none_none (cF I q (by simp))
  | bl j=>cases ry;exact PySem.EqNone.ne_none_bool (cF I q (by simp))
  | int j=>obtain⟨t',rfl⟩:=ry;exact PySem.EqNone.ne_none_int (cF I q (by simp))
  | str j=>obtain⟨t',rfl⟩:=ry;exact PySem.EqNone.ne_none_str (cF I q (by simp))
  | _=>exact absurd (show false=true from hs) d7
 | bl i=>
  cases rx;cases y with
  | b8=>cases ry;exact PySem.EqNone.ne_bool_none (cF I q (by simp))
  | bl j=>cases ry;exact ne_bool (cF I q (fY not MP))
  | str j=>obtain⟨t',rfl⟩:=ry;exact PySem.EqMixed.ne_bool_str (cF I q (by simp))
  | _=>exact absurd (show false=true from hs) d7
 | int i=>
  obtain⟨t,rfl⟩:=rx;cases y with
  | b8=>cases ry;exact PySem.EqNone.ne_int_none (cF I q (by simp))
  | int j=>obtain⟨t',rfl⟩:=ry;exact ne_int (cF I q (fY not JE))
  | str j=>obtain⟨t',rfl⟩:=ry;exact PySem.EqMixed.ne_int_str (cF I q (by simp))
  | _=>exact absurd (show false=true from hs) d7
 | str i=>
  obtain⟨t,rfl⟩:=rx;cases y with
  | b8=>cases ry;exact PySem.EqNone.ne_str_none (cF I q (by simp))
  | bl j=>cases ry;exact PySem.EqMixed.ne_str_bool (cF I q (by simp))
  | int j=>obtain⟨t',rfl⟩:=ry;exact PySem.EqMixed.ne_str_int (cF I q (by simp))
  | str j=>obtain⟨t',rfl⟩:=ry;exact ne_str (cF I q (fY not JF))
  | _=>exact absurd (show false=true from hs) d7
 | uT i=>
  obtain⟨t,rfl⟩:=rx;cases y with
  | uT j=>obtain⟨t',rfl⟩:=ry;exact PySem.W.ne_bytes (cF I q (fY not JG))
  | _=>exact absurd (show false=true from hs) d7
 | _=>cases y <;> exact absurd (show false=true from hs) d7
def Ln:gq X (compareOp .Lt) (CC λi j=> .bl (decide (i<j))):=Ll λ_ _ _ _ _ _ _ q=>lt_int q
def Ex:gq X (compareOp .LtE) (CC λi j=> .bl (decide (i<=j))):=Ll λ_ _ _ _ _ _ _ q=>le_int q
def mL:gq X (compareOp .Gt) (CC λi j=> .bl (decide (j<i))):=Ll λ_ _ _ _ _ _ _ q=>gt_int q
def Lo:gq X (compareOp .GtE) (CC λi j=> .bl (decide (j<=i))):=Ll λ_ _ _ _ _ _ _ q=>ge_int q
def MQ:gq X (compareOp .In) (λx y H Q=>∃i j,x =.str i/\y =.str j/\Q (.bl (!(Builtin.Str.occurrences j i 0 j.length 1).isEmpty)) H):=by intro AC s σ H x y v u Q I rx ry h;obtain⟨i,j,rfl,rfl,q⟩:=h;obtain⟨t,rfl⟩:=rx;obtain⟨t',rfl⟩:=ry;exact in_str (cF I q rfl)
def bD(b:Expr)(h:op ≠ .In:=by decide)(h2:op ≠ .NotIn:=by decide):behindInMarks op b=false:=by
 have e1:(op==CmpOp.In)=false:=by cases op <;> first|rfl|exact absurd rfl h
 have e2:(op==CmpOp.NotIn)=false:=by cases op <;> first|rfl|exact absurd rfl h2
 cases b <;> simp[behindInMarks,e1,e2]
inductive MR(Q:Bool->Hp->Prop)(x:V)(H':Hp):Prop
 |mk(k:_)(_:x =.bl k)(_:Q k H')
def YD(t:TE):TT:=λσ H Q=>t σ H (MR Q)
inductive MS(r':R2)(tc:TE)(σ:St)(Q:VK)(y:V)(z:V)(H3:Hp):Prop
 |mk(k:_)(_:z =.bl k)(_:(if k=true then tc σ H3 λw' H4=>r' y w' H4 Q else Q (.bl false) H3))
def MT(r:R2)(r':R2)(tc:TE)(σ:St)(Q:VK)(x:V):V->Hp->Prop:=λy H2=>r x y H2 (MS r' tc σ Q y)
def SV(r:R2)(r':R2)(tb:TE)(tc:TE)(σ:St)(Q:VK):V->Hp->Prop:=λx H1=>tb σ H1 (MT r r' tc σ Q x)
def Vj(r r':R2)(ta tb tc:TE):TE:=λσ H Q=>ta σ H (SV r r' tb tc σ Q)
def sQ:(sizeLine:Nat)<2 ^ 63:=by rw[gQ];decide
def Lp:gq X (binaryOp .Add) (λx y H Q=>∃i j,x =.str i/\y =.str j/\i.length+j.length<=sizeLine/\Q (.str (i++j)) H):=by intro AC s σ H x y v u Q I rx ry h;obtain⟨i,j,rfl,rfl,hz,q⟩:=h;obtain⟨t,rfl⟩:=rx;obtain⟨t',rfl⟩:=ry;exact add_str (λt' tk=>⟨.str (i++j),H,I.tok _,⟨_,Z⟩,q⟩) hz
def vals1{x:V}(r:Vals [x] us):∃u,us=[u]/\RelV x u:=by
 cases r with
 | cons r1 r2=>cases r2;exact⟨_,Z,r1⟩
def vals2{x:V}(r:Vals [x,y] us):∃u w',us=[u,w']/\RelV x u/\RelV y w':=by
 cases r with
 | cons r1 r2=>
  cases r2 with
  | cons r3 r4=>cases r4;exact⟨_,_,Z,r1,r3⟩
def Py:fJ X (.builtin "abs") (λxs H Q=>∃i,xs=[.int i]/\Q (.int (if i<0 then -i else i)) H):=by intro AC s σ H xs us Q I r h;obtain⟨i,rfl,q⟩:=h;obtain⟨u,rfl,t,rfl⟩:=vals1 r;exact call_abs_int λu tk=>⟨.int (if i<0 then -i else i),H,I.tok _,⟨_,Z⟩,q⟩
def MU(hc:X.calm=true):fJ X (.builtin "max") (λxs H Q=>∃i j,xs=[.int i,.int j]/\Q (.int (if j>i then j else i)) H):=by
 intro AC s σ H xs us Q I r h;obtain⟨i,j,rfl,q⟩:=h;obtain⟨u,w',rfl,⟨t,rfl⟩,⟨t',rfl⟩⟩:=vals2 r;refine max_two_ints (I.ok.hd hc) λh' tk k=>⟨_,H,I.kept k,?_,q⟩
 by_cases hj:j>i
 .rw [aB hj,aB hj];exact⟨_,Z⟩
 .rw [aA hj,aA hj];exact⟨_,Z⟩
def MV(hc:X.calm=true):fJ X (.builtin "min") (λxs H Q=>∃i j,xs=[.int i,.int j]/\Q (.int (if j<i then j else i)) H):=by
 intro AC s σ H xs us Q I r h;obtain⟨i,j,rfl,q⟩:=h;obtain⟨u,w',rfl,⟨t,rfl⟩,⟨t',rfl⟩⟩:=vals2 r;refine min_two_ints (I.ok.hd hc) λh' tk k=>⟨_,H,I.kept k,?_,q⟩
 by_cases hj:j<i
 .rw [aB hj,aB hj];exact⟨_,Z⟩
 .rw [aA hj,aA hj];exact⟨_,Z⟩
def u9:fJ X (.type "int") (λxs H Q=>(∃i,xs=[.int i]/\Q (.int i) H)\/∃k,xs=[.bl k]/\Q (.int (if k then 1 else 0)) H):=by
 intro AC s σ H xs us Q I r h;rcases h with⟨i,rfl,q⟩|⟨k,rfl,q⟩
 .obtain ⟨u,rfl,t,rfl⟩:=vals1 r;exact call_int_int ⟨.int i,H,I,⟨_,Z⟩,q⟩
 .obtain ⟨u,rfl,r1⟩:=vals1 r;cases r1;exact call_int_bool ⟨.int (if k then 1 else 0),H,I.tok _,⟨_,Z⟩,q⟩
end
structure yu(h:Heap)(x dx C:Addr)(mA:SO):Prop where
 obj:h.get? x=some (PySem.W.instObj C dx)
 ns:h.Ns1 dx mA
 ne:dx≠x
def MW{mA:SO}(n:h.Ns1 dx mA):∃od,h.get? dx=some od/\∀name,PySem.W.lookIn name od=some (mA name):=by
 obtain⟨o,es,ep,ho,hd,hk,_,hm⟩:=n;refine⟨o,ho,λname=>?_⟩;have e:=hm name;unfold nsFind findBy at e;rw[<-Array.find?_toList]at e;unfold PySem.W.lookIn;rw[hd];dsimp only;split
 .rename_i y q;rw[q]at e;exact fY some e
 .rename_i q;rw[q]at e;have a:es.toList.any (·.refKey)=false:=by rw[List.any_eq_false];intro y hy;obtain⟨z,t,hkey⟩:=hk y (Array.mem_toList_iff.mp hy);simp[DictEntry.refKey,hkey]
  have a':¬ es.toList.any (·.refKey)=true:=by rw[a];exact d7
  rw[aA a'];exact fY some e
variable {C:Addr}
def yu.look{x dx:Addr}{mA:SO}(I:yu h x dx C mA):∃od,PySem.W.InstAt h x (PySem.W.instObj C dx) C (some od)/\∀name,PySem.W.lookIn name od=some (mA name):=
 let⟨od,ho,hl⟩:=MW I.ns
 ⟨od,⟨I.obj,Z,Z,ho⟩,hl⟩
variable {pl:Sem Bool}{kw:Cl (Str×Value)}
section
variable {prog:Program}{w:World}{A:Around}{E:VS}{s:Shared}{K:Fg}{x dx C f:Addr}{mA:SO}{name:Str}{v:Value}
def get_map{expr:Bool}{Q:VS}(X:K.In s.heap)(I:yu s.heap x dx C mA)(hg:PySem.W.plainGet K C name=true)(hh:PySem.W.hasDictIn K C=true)(ha:PySem.W.findIn K (.ref C) name=some none)(hv:mA name=some v)(hv':PySem.W.handedIn v=true)(h:Q v { s with toks:=s.toks+1 }):
  wpAny (model prog w) A (getAttr (.ref x) name expr) Q E s:=by
 obtain⟨od,J,hl⟩:=I.look
 exact PySem.W.get_value X J (PySem.W.plainGet_of hg).1 (PySem.W.findObj_own hh ha rfl (by rw[hl,hv])) hv' h
def Pz{Q:Value×Cl Value->Shared->Prop}(X:K.In s.heap)(I:yu s.heap x dx C mA)(hg:PySem.W.plainGet K C name=true)(hf:PySem.W.findIn K (.ref C) name=some (some (.ref f)))(ht:PySem.W.isFn K (.ref f)=true)(hv:mA name=none)(h:Q (.ref f,[.ref x]) s):
  wpAny (model prog w) A (getMethod (.ref x) name pl) Q E s:=by
 obtain⟨od,J,hl⟩:=I.look
 exact PySem.W.method_fn X J (PySem.W.plainGet_of hg).1 (PySem.W.plainGet_of hg).2 hf (pW.mp ht) (by show(PySem.W.lookIn name od).map (·.isSome)=some false;rw[hl,hv];rfl) h
theorem SW{ns:Cl Str}{Q:Unit->Shared->Prop}(X:K.In s.heap)(I:yu s.heap x dx C mA)(hs:PySem.W.findIn K (.ref C) "__setattr__"=some (some (.builtin "object.__setattr__")))(hp:PySem.W.plainOver K C=true)(ht:PySem.W.takerIn K C name=some none)(hh:PySem.W.hasDictIn K C=true)(hw:PySem.Within mA ns)(hsz:ns.length<=sizeLine)(h:∀h',yu h' x dx C (λy=>if y=name then some v else mA y)->Heap.SameBut dx s.heap h'->Q () { s with heap:=h',toks:=s.toks+2 }):
  wpAny (model prog w) A (setAttr (.ref x) name v) Q E s:=by
 obtain⟨od,J,hl⟩:=I.look
 refine PySem.W.set_plain X J hs (PySem.W.osa_open (s:={ s with toks:=s.toks+1 }) (r:=none) X J hp ht λb=>?_)
 obtain⟨cd,hc,hd'⟩:=PySem.W.any_some hh
 have hx:s.heap.get? x=some ⟨.ref C,some dx,.plain,#[]⟩:=I.obj
 refine ao (aK (ao (ao (wpAny_loadPart hx (ao (PySem.W.Looks.here (s:={ s with toks:=s.toks+1 }) (PySem.W.looks_clsIn X hc) ?_))))))
 rw[hd']
 refine aK (a:=some dx) (ao (aK (ao ?_)))
 refine wpAny_nsSet1 (s:={ s with toks:=s.toks+1 }) I.ns λh' hn2 hs2=>?_
 obtain⟨oD,esD,epD,hoD,hdD,hcD⟩:=hn2.count (PySem.Within.cons name v hw)
 refine ao (wpAny_lookBehind hoD (by rw[hdD];exact pastItsLine_dict (dj hcD (by rw[kC];omega))) ?_)
 exact aK (h _ ⟨(hs2.2 _ (cW I.ne)).trans I.obj,hn2,I.ne⟩ hs2)
def PB{R:Result->Shared->Prop}{vs:Cl Value}(X:K.In s.heap)(hm:PySem.W.makesIn K C=true)(hi:PySem.W.findIn K (.ref C) "__init__"=some (some (.ref f)))(hf:PySem.W.typeIn K (.ref f)=some (.type "function"))(h:codeAny (model prog w) (A.under (.builtin "type.__call__" ⟨.ref C::vs,kw⟩)) (.call (.ref f) ⟨.ref (s.heap.objs.size+1)::vs,kw⟩) (PySem.W.InitBack (s.heap.objs.size+1) R)
    { s with heap:=(s.heap.push PySem.W.emptyDict).push (PySem.W.instObj C s.heap.objs.size) }):
  codeAny (model prog w) A (.call (.ref C) ⟨vs,kw⟩) R s:=by
 obtain⟨hh,g,d,t,os⟩:=s
 exact PySem.W.make_core (PySem.W.makes_of X hm) (PySem.W.looks_findIn X hi) (λself=>PySem.W.bind_fn X self hf) (.inl rfl) h
end
def gj(f:Str)(v:V):Cl (Str×V)->Cl (Str×V)
 | []=>[(f,v)]
 | (g,x)::r=>if g=f then(g,v)::r else(g,x)::gj f v r
theorem xU(f g:Str)(v:V):∀fs:Cl (Str×V),(gj f v fs).lookup g=if g=f then some v else fs.lookup g
 | []=>by
  show List.lookup g [(f,v)]=_;by_cases h:g=f
  .have hb:(g==f)=true:=pW.mpr h;simp only[List.lookup,hb,aB h]
  .have hb:(g==f)=false:=EL.mpr h;simp only[List.lookup,hb,aA h]
 | (k,x)::r=>by
  have ih:=xU f g v r;rw[show gj f v ((k,x)::r)=(if k=f then(k,v)::r else(k,x)::gj f v r)from rfl];by_cases hk:k=f
  .rw [aB hk];by_cases h:g=k
   .have hb:(g==k)=true:=pW.mpr h;simp only[List.lookup,hb,aB (h.trans hk)]
   .have hb:(g==k)=false:=EL.mpr h;simp only[List.lookup,hb,aA (λe:g=f=>h (e.trans hk.symm))]
  .rw [aA hk];by_cases h:g=k
   .have hb:(g==k)=true:=pW.mpr h;simp only[List.lookup,hb,aA (λe:g=f=>hk (h.symm.trans e))]
   .have hb:(g==k)=false:=EL.mpr h;simp only[List.lookup,hb];exact ih
theorem u_(f:Str)(v:V):∀fs:Cl (Str×V),f∈(gj f v fs).map (·.1)/\∀g,g∈fs.map (·.1)->g∈(gj f v fs).map (·.1)
 | []=>⟨by simp[gj],λg h=>by simp at h⟩
 | (k,x)::r=>by
  obtain⟨i1,i2⟩:=u_ f v r;rw[show gj f v ((k,x)::r)=(if k=f then(k,v)::r else(k,x)::gj f v r)from rfl];by_cases hk:k=f
  .rw [aB hk];subst hk;exact⟨by simp,λg h=>by simpa using h⟩
  .rw [aA hk];refine⟨?_,λg h=>?_⟩
   .rw [br];exact ck _ i1
   .rw [br]at h ⊢;rcases cV.mp h with e|e
    .exact cV.mpr (.inl e)
    .exact ck _ (i2 g e)
theorem xV(f:Str)(v:V):∀fs:Cl (Str×V),(gj f v fs).length<=fs.length+1
 | []=>by simp[gj]
 | (k,x)::r=>by
  have ih:=xV f v r;rw[show gj f v ((k,x)::r)=(if k=f then(k,v)::r else(k,x)::gj f v r)from rfl];by_cases hk:k=f
  .rw [aB hk,kC,kC];omega
  .rw [aA hk,kC,kC];omega
def jO.some_of{v:V}{o:Option Value}(r:jO (some v) o):∃u,o=some u/\RelV v u:=by
 cases o with
 | none=>exact(show False from r).elim
 | some u=>exact⟨u,Z,r⟩
def jO.none_of{o:Option Value}(r:jO none o):o=none:=by
 cases o with
 | none=>rfl
 | some u=>exact(show False from r).elim
def MX{v:V}(r:RelV v u):PySem.W.handedIn u=true:=by
 cases v with
 | b8=>cases(show u=Value.none from r);rfl
 | bl b=>cases(show u=Value.bool b from r);rfl
 | int i=>obtain⟨t,e⟩:=(show ∃t,u=Value.int i t from r);cases e;rfl
 | str x=>obtain⟨t,e⟩:=(show ∃t,u=Value.str x t from r);cases e;rfl
 | uT b=>obtain⟨t,e⟩:=(show ∃t,u=Value.bytes b t from r);cases e;rfl
 | ET b=>obtain⟨t,e⟩:=(show ∃t,u=Value.float b t from r);cases e;rfl
 | ref a=>cases(show u=Value.ref a from r);rfl
 | ty n=>cases(show u=Value.type n from r);rfl
section
variable {P:Program}{w:World}{H H':Hp}{h h':Heap}{a C dx:Addr}{fs fs':Cl (Str×V)}
def wQ(hok:gK P w H h)(e:H a=some (.ins C dx fs)):∃mA,yu h a dx C mA/\(∀f,jO (fs.lookup f) (mA f))/\PySem.Within mA (fs.map (·.1))/\fs.length<=1000/\H dx=some (.own a):=by
 obtain⟨d,z,ne,ob,mA,n,r,q⟩:=(show c5 P w H h a (.ins C dx fs)from hok a _ e)
 exact⟨mA,⟨ob,n,ne⟩,r,q,z,d⟩
end
structure mO(K:Fg)(C:Addr):Prop where
 pg:PySem.W.plainGet K C Str.empty=true
 hd:PySem.W.hasDictIn K C=true
 po:PySem.W.plainOver K C=true
 sa:PySem.W.findIn K (.ref C) "__setattr__"=some (some (.builtin "object.__setattr__"))
def mO.get(c:mO K C)(f:Str):PySem.W.plainGet K C f=true:=c.pg
def dB(K:Fg)(C:Addr)(f:Str):Prop:=PySem.W.findIn K (.ref C) f=some none
def dB.YE{f:Str}(n:dB K C f):PySem.W.takerIn K C f=some none:=by unfold PySem.W.takerIn;rw[show PySem.W.findIn K (.ref C) f=some none from n];rfl
structure Meth(K:Fg)(C:Addr)(m:Str)(f:Addr):Prop where
 at_:PySem.W.findIn K (.ref C) m=some (some (.ref f))
 fn:PySem.W.isFn K (.ref f)=true
 kp:PySem.W.keepIn K (.ref f)=true
variable {env:Env}
section
variable {X:Cx}{AC:AO}{σ:St}{H:Hp}{s:Shared}{a C dx:Addr}{fs:Cl (Str×V)}{f:Str}{v:V}{A:Around}{E:VS}
def zP{b:Bool}{Q:VS}(I:Inv X AC σ H s)(e:H a=some (.ins C dx fs))(c:mO X.K C)(n:dB X.K C f)(l:fs.lookup f=some v)(h:∀u s',Inv X AC σ H s'->RelV v u->Q u s'):wpAny (model X.prog X.w) A (getAttr (.ref a) f b) Q E s:=by
 obtain⟨mA,O,r,_,_,_⟩:=wQ I.hok e
 obtain⟨u,hu,ru⟩:=jO.some_of (v:=v) (o:=mA f) (by rw[<-l];exact r f)
 exact get_map I.iH O (c.get f) c.hd n hu (MX ru) (h u _ (I.tok _) ru)
def zQ{m:Str}{g:Addr}{Q:Value×Cl Value->Shared->Prop}(I:Inv X AC σ H s)(e:H a=some (.ins C dx fs))(c:mO X.K C)(k:Meth X.K C m g)(l:fs.lookup m=none)(h:Q (.ref g,[.ref a]) s):wpAny (model X.prog X.w) A (getMethod (.ref a) m pl) Q E s:=by
 obtain⟨mA,O,r,_,_,_⟩:=wQ I.hok e
 have hn:mA m=none:=jO.none_of (by rw[<-l];exact r m)
 exact Pz I.iH O (c.get m) k.at_ k.fn hn h
theorem zR{Q:Unit->Shared->Prop}(I:Inv X AC σ H s)(e:H a=some (.ins C dx fs))(c:mO X.K C)(n:dB X.K C f)(hl:fs.length<1000)(ry:RelV y u)(h:∀s',Inv X AC σ (upd H a (.ins C dx (gj f y fs))) s'->Q () s'):wpAny (model X.prog X.w) A (setAttr (.ref a) f u) Q E s:=by
 obtain⟨mA,O,r,wi,_,ho⟩:=wQ I.hok e
 have hz:(fs.map (·.1)).length<=sizeLine:=by rw[aH,gQ];omega
 refine SW I.iH O c.sa c.po n.YE c.hd wi hz λh' O' sb=>h _ ?_
 have hd:∃o,h'.get? dx=some o:=let⟨o,_,_,e',_⟩:=O'.ns;⟨o,e'⟩
 refine I.write (x:=a) (e:=dx) (by rw[e];exact True.intro) (.inr ho) (λb q hb z=>(sb.2 b hb).trans z) hd ?_
 refine⟨by rw[ay O.ne];exact ho,?_,O.ne,O'.obj,_,O'.ns,λg=>?_,λg hg=>?_⟩
 . have:=xV f y fs;omega
 . show jO ((gj f y fs).lookup g) (if g=f then some u else mA g)
   rw[xU]
   by_cases q:g=f
   . rw[aB q,aB q];exact ry
   . rw[aA q,aA q];exact r g
 . by_cases q:g=f
   . rw[q];exact(u_ f y fs).1
   . refine(u_ f y fs).2 g (wi g λz=>hg ?_)
     show(if g=f then some u else mA g)=none
     rw[aA q];exact z
def Inv.made(I:Inv X AC σ H s):Inv X AC σ (upd (upd H s.heap.objs.size (.own (s.heap.objs.size+1))) (s.heap.objs.size+1) (.ins C s.heap.objs.size []))
  { s with heap:=(s.heap.push PySem.W.emptyDict).push (PySem.W.instObj C s.heap.objs.size) }:=by
 have e1:(s.heap.push PySem.W.emptyDict).get? s.heap.objs.size=some PySem.W.emptyDict:=c_ s.heap rfl
 have e2:((s.heap.push PySem.W.emptyDict).push (PySem.W.instObj C s.heap.objs.size)).get? (s.heap.objs.size+1)=some (PySem.W.instObj C s.heap.objs.size):=by
  have:=c_ (s.heap.push PySem.W.emptyDict) (o:=PySem.W.instObj C s.heap.objs.size) rfl
  rwa [j9]at this
 have e3:(s.heap.push PySem.W.emptyDict).Ns s.heap.objs.size (λ_=>none):=⟨PySem.W.emptyDict,#[],_,e1,Z,(λe he=>absurd he (by simp)),λ_=>rfl⟩
 have I1:=I.laid (a:=s.heap.objs.size) (o:=.own (s.heap.objs.size+1)) (h':=s.heap.push PySem.W.emptyDict) (t':=s.toks) (λb u q=>bQ _ q) (aO _) ⟨_,e1⟩
 refine I1.laid (a:=s.heap.objs.size+1) (o:=.ins C s.heap.objs.size []) (t':=s.toks) (λb u q=>bQ _ q) (Nat.le_of_eq (j9 _ _)) ?_
 have ne:s.heap.objs.size≠s.heap.objs.size+1:=dI (Nat.lt_succ_self _)
 refine⟨by rw[ay ne,ai],gP _,ne,e2,λ_=>none,(Heap.Ns1.of_empty e3).at λo q=>bQ _ q,λ_=>True.intro,λy hy=>absurd rfl hy⟩
def SX{prog:Program}{f:Str}{pos:Pos}{s:Shared}{Q:VS}(hb:attributeBase e f env (eval e env)=eval e env)(h:wpAny (model prog w) A (eval e env) (λo s₁=>wpAny (model prog w) A (getAttr o f true) Q E s₁) E s):wpAny (model prog w) A (eval (.Attribute e f pos) env) Q E s:=
 Attribute_any_ h (by rw[arm_eval_Attribute,hb])
end
inductive YF(K:Fg)(f:Str)(Q:VK)(x:V)(H1:Hp):Prop
 |mk(a C dx fs v:_)(_:x =.ref a)(_:H1 a=some (.ins C dx fs))(_:mO K C)(_:dB K C f)(_:fs.lookup f=some v)(_:Q v H1)
def Vk(K:Fg)(ta:TE)(f:Str):TE:=λσ H Q=>ta σ H (YF K f Q)
inductive SY(K:Fg)(f:Str)(D:Ends)(σ:St)(y:V)(x:V)(H2:Hp):Prop
 |mk(a C dx fs:_)(_:x =.ref a)(_:H2 a=some (.ins C dx fs))(_:mO K C)(_:dB K C f)(_:fs.length<1000)(_:D.nx σ (upd H2 a (.ins C dx (gj f y fs))))
def YG(K:Fg)(ta:TE)(f:Str)(D:Ends)(σ:St):V->Hp->Prop:=λy H1=>ta σ H1 (SY K f D σ y)
def Vl(K:Fg)(ta tv:TE)(f:Str):TS:=λD σ H=>tv σ H (YG K ta f D σ)
def Lq(X:Cx)(op:Operator)(rd:V->V->Hp->VK->Prop):Prop:=∀(AC:AO)(s:Shared)(σ:St)(H:Hp)(x y:V)(u v:Value)(Q:VK),Inv X AC σ H s->RelV x u->RelV y v->rd x y H Q->wpAny (model X.prog X.w) X.A (inplaceOp op u v) (EP X AC σ Q) X.xe s
inductive Lr(f:Str)(D:Ends)(σ:St)(a:Addr)(C:Addr)(z:V)(H3:Hp):Prop
 |mk(Vm fs':_)(_:H3 a=some (.ins C Vm fs'))(_:fs'.length<1000)(_:D.nx σ (upd H3 a (.ins C Vm (gj f z fs'))))
def Ls(rd:V->V->Hp->VK->Prop)(f:Str)(D:Ends)(σ:St)(a:Addr)(C:Addr)(v:V):V->Hp->Prop:=λy H2=>rd v y H2 (Lr f D σ a C)
inductive PD(K:Fg)(tv:TE)(rd:V->V->Hp->VK->Prop)(f:Str)(D:Ends)(σ:St)(x:V)(H1:Hp):Prop
 |mk(a C dx fs v:_)(_:x =.ref a)(_:H1 a=some (.ins C dx fs))(_:mO K C)(_:dB K C f)(_:fs.lookup f=some v)(_:tv σ H1 (Ls rd f D σ a C v))
def JH(K:Fg)(ta tv:TE)(rd:V->V->Hp->VK->Prop)(f:Str):TS:=λD σ H=>ta σ H (PD K tv rd f D σ)
variable {rd:V->V->Hp->VK->Prop}
section
variable {X:Cx}{o e value:Expr}{f:Str}{pos pos' tpos:Pos}{ta tv:TE}
def Vn(he:PE X e ta)(hb:attributeBase e f X.env (eval e X.env)=eval e X.env):PE X (.Attribute e f pos) (Vk X.K ta f):=by intro AC s σ H Q I h;refine SX hb (aX (he AC s σ H _ I h) λu s1 ⟨x,H1,I1,rx,a,C,dx,fs,v,ex,ea,c,n,l,q⟩=>?_);subst ex;obtain rfl:u=Value.ref a:=rx;exact zP I1 ea c n l λu' s2 I2 ru=>⟨v,H1,I2,ru,q⟩
def Vo(ha:PE X o ta)(hv:PE X value tv)(hs:swapsWith value (some (.Attribute o f pos')) pos.line X.env=pure false):PS X (.Assign [.Attribute o f pos'] value pos) (Vl X.K ta tv f):=by intro AC s σ H D I h;refine plainObj_wpAny_Assign_Attribute (aX (hv AC s σ H _ I h) λu s1 ⟨y,H1,I1,ry,q⟩=>aX (ha AC s1 σ H1 _ I1 q) λov s2 ⟨x,H2,I2,rx,a,C,dx,fs,ex,ea,c,n,l,q2⟩=>?_) hs;subst ex;obtain rfl:ov=Value.ref a:=rx;exact zR I2 ea c n l ry λs3 I3=>⟨σ,_,I3,q2⟩
def MY{op:Operator}(ha:PE X o ta)(hv:PE X value tv)(hop:Lq X op rd):PS X (.AugAssign (.Attribute o f tpos) op value pos) (JH X.K ta tv rd f):=by intro AC s σ H D I h;refine wpAny_AugAssign_AttributeAny (aX (ha AC s σ H _ I h) λov s1 ⟨x,H1,I1,rx,a,C,dx,fs,v,ex,ea,c,n,l,q⟩=>?_);subst ex;obtain rfl:ov=Value.ref a:=rx;refine zP I1 ea c n l λu s2 I2 ru=>aX (hv AC s2 σ H1 _ I2 q) λw3 s3 ⟨y,H2,I3,ry,q3⟩=>aX (hop AC s3 σ H2 v y u w3 _ I3 ru ry q3) λw4 s4 ⟨z,H3,I4,rz,Vm,fs',ea',l',q4⟩=>?_;exact zR I4 ea' c n l' rz λs5 I5=>⟨σ,_,I5,q4⟩
inductive abo(x:V)(y:V)(H:Hp)(Q:VK):Prop
 |mk(i j:_)(_:x =.int i)(_:y =.int j)(_:Q (.int (i-j)) H)
def Vp:Lq X .Sub abo:=by
 rintro AC s σ H x y u v Q I rx ry ⟨i,j,rfl,rfl,q⟩;obtain⟨t,rfl⟩:=(show ∃t,u=Value.int i t from rx)
 obtain⟨t',rfl⟩:=(show ∃t',v=Value.int j t' from ry)
 exact PyProof.Rows.isub_int ⟨.int (i-j),H,I.tok _,⟨_,Z⟩,q⟩
end
section
variable {X:Cx}{AC:AO}{σ:St}{H:Hp}{s:Shared}{A:Around}{E:VS}{Q:VS}{c:Value}{b:Bool}
inductive eK(K:Fg)(H:Hp):V->Value->Prop where
 | b8:eK K H .b8 (.type "NoneType")
 | bl (x:Bool):eK K H (.bl x) (.type "bool")
 | int (i:Int):eK K H (.int i) (.type "int")
 | str (x:Str):eK K H (.str x) (.type "str")
 | ET (x:UInt64):eK K H (.ET x) (.type "float")
 | lst {a:Addr} {xs:Cl V} (e:H a=some (.lst xs)):eK K H (.ref a) (.type "list")
 | dz {a:Addr} {o:Obj} {xs:Cl V} (e:H a=some (.dz o (.lst xs))):eK K H (.ref a) (.type "list")
 | tup {a:Addr} {xs:Cl V} (e:H a=some (.tup xs)):eK K H (.ref a) (.type "tuple")
 | dK {a:Addr} {AT:Cl (Key×V)} (e:H a=some (.dK AT)):eK K H (.ref a) (.type "dict")
 | dT {a:Addr} {AT:Cl (Cl Key×V)} (e:H a=some (.dT AT)):eK K H (.ref a) (.type "dict")
 | ins {a C dx:Addr} {fs:Cl (Str×V)} (e:H a=some (.ins C dx fs)) (cl:mO K C) (ha:PySem.W.findIn K (.ref C) "__class__"=some (some (.builtin "object.__class__")))
    (hn:PySem.W.specialIn K (.builtin "object.__class__") "__get__"=some (some (.builtin "getset_descriptor.__get__"))) (htk:PySem.W.takesIn K (.builtin "object.__class__")=some true)
    (hm:PySem.W.mroIn K C (.type "object")=some true):eK K H (.ref a) (.ref C)
def MZ{x:V}{t:Value}(I:Inv X AC σ H s)(rx:RelV x u)(ty:eK X.K H x t)(e:PySem.W.kitOne X.K t c=some b)(h:∀tk,Q (.bool b) { s with toks:=tk }):wpAny (model X.prog X.w) A (call (.builtin "isinstance") [u,c]) Q E s:=by
 cases ty with
 | b8=>cases(show u=Value.none from rx);exact mE PySem.W.kitx_none I.iH True.intro e (λz=>nomatch z) h
 | bl y=>cases(show u=Value.bool y from rx);exact mE PySem.W.kitx_bool I.iH True.intro e (λz=>nomatch z) h
 | int i=>obtain⟨t,q⟩:=(show ∃t,u=Value.int i t from rx);cases q;exact mE PySem.W.kitx_int I.iH True.intro e (λz=>nomatch z) h
 | str y=>obtain⟨t,q⟩:=(show ∃t,u=Value.str y t from rx);cases q;exact mE PySem.W.kitx_str I.iH True.intro e (λz=>nomatch z) h
 | ET y=>obtain⟨t,q⟩:=(show ∃t,u=Value.float y t from rx);cases q;exact mE PySem.W.kitx_float I.iH True.intro e (λz=>nomatch z) h
 | @lst a xs ea=>
  cases(show u=Value.ref a from rx);obtain⟨_,_,n,_,h1⟩:=(show c5 X.prog X.w H s.heap a (.lst xs)from I.hok a _ ea)
  exact mE PySem.W.kitx_list I.iH ⟨_,h1,Z⟩ e (λz=>nomatch z) h
 | @dz a ob xs ea=>
  cases(show u=Value.ref a from rx);obtain⟨_,_,_,n,_,h1⟩:=(show c5 X.prog X.w H s.heap a (.dz ob (.lst xs))from I.hok a _ ea)
  exact mE PySem.W.kitx_list I.iH ⟨_,h1,Z⟩ e (λz=>nomatch z) h
 | @tup a xs ea=>
  cases(show u=Value.ref a from rx);obtain⟨_,_,_,p⟩:=(show c5 X.prog X.w H s.heap a (.tup xs)from I.hok a _ ea)
  obtain⟨o,h1,h2,_⟩:=p;exact mE PySem.W.kitx_tuple I.iH ⟨o,h1,h2⟩ e (λz=>nomatch z) h
 | @dK a AT ea=>
  cases(show u=Value.ref a from rx);obtain⟨_,_,vs,_,p⟩:=(show c5 X.prog X.w H s.heap a (.dK AT)from I.hok a _ ea)
  obtain⟨o,es,ep,h1,h2,_⟩:=p;exact mE PySem.W.kitx_dict I.iH ⟨o,h1,h2.1⟩ e (λz=>nomatch z) h
 | @dT a AT ea=>
  cases(show u=Value.ref a from rx);obtain⟨_,_,xs,_,o,es,ep,h1,h2,_⟩:=(show c5 X.prog X.w H s.heap a (.dT AT)from I.hok a _ ea)
  exact mE PySem.W.kitx_dict I.iH ⟨o,h1,h2.1⟩ e (λz=>nomatch z) h
 | @ins a C dx fs ea cl ha hn htk hm=>cases(show u=Value.ref a from rx);obtain⟨mA,O,_⟩:=wQ I.hok ea;obtain⟨od,J,_⟩:=O.look;exact mE (PySem.W.kitx_own (cl.get _) cl.hd ha hn htk hm) I.iH J e (λz=>nomatch z) h
end
structure dg(k:Nat)(A:Around):Prop where
 hd:A.handled=none
 dp:A.depth+3*k+5<recursionLimit
 un:A.units+16*k+200<cLine
theorem dg.mono{k:Nat}(r:dg k A)(h:j<=k):dg j A:=⟨r.hd,by have:=r.dp;omega,by have:=r.un;omega⟩
theorem dg.deeper{k:Nat}(r:dg (k+1) A)(env:Env):dg k (A.deeper env):=⟨r.hd,by have:=r.dp;show A.depth+1+3*k+5<_;omega,by have:=r.un;show A.units+3+16*k+200<_;omega⟩
def Lu:(A.under (.builtin "type.__call__" ⟨.ref C::us,kw⟩)).depth=A.depth+1:=by first|rfl|simp[Around.under,Code.weight,Code.isCreation,Code.isGuard,Code.isCaller,Code.frames,Code.isFrame,guardIds]
def Lv:(A.under (.builtin "type.__call__" ⟨.ref C::us,kw⟩)).units=A.units+1:=by first|rfl|simp[Around.under,Code.cUnits,Code.frames,Code.isFrame]
theorem dg.make{k:Nat}(r:dg (k+1) A)(C:Addr)(us:Cl Value)(kw:Cl (Str×Value)):dg k (A.under (.builtin "type.__call__" ⟨.ref C::us,kw⟩)):=⟨r.hd,by have:=r.dp;rw[Lu];omega,by have:=r.un;rw[Lv];omega⟩
theorem dg.depth{k:Nat}(r:dg k A):A.depth<recursionLimit:=by have:=r.dp;omega
theorem dg.units{k:Nat}(r:dg k A):A.units+64<cLine:=by have:=r.un;omega
def E3:TA:=λ_ H Q=>Q [] H
def PF(Q:Cl V->Hp->Prop)(x:V):Cl V->Hp->Prop:=λxs H2=>Q (x::xs) H2
def Vq(tr:TA)(σ:St)(Q:Cl V->Hp->Prop):V->Hp->Prop:=λx H1=>tr σ H1 (PF Q x)
def YH(ta:TE)(tr:TA):TA:=λσ H Q=>ta σ H (Vq tr σ Q)
section
variable {X:Cx}{e:Expr}{es:Cl Expr}{te:TE}{t:TA}{pos:Pos}
inductive YI(Q:VK)(xs:Cl V)(H1:Hp):Prop
 |mk(_:xs.length<=sizeLine)(_:∀p,H1 p=none->Q (.ref p) (upd H1 p (.tup xs)))
def abp(t:TA):TE:=λσ H Q=>t σ H (YI Q)
inductive YJ(Q:VK)(xs:Cl V)(H1:Hp):Prop
 |mk(_:xs.length<=sizeLine)(_:∀p,H1 p=none->Q (.ref p) (upd H1 p (.lst xs)))
def abq(t:TA):TE:=λσ H Q=>t σ H (YJ Q)
end
abbrev Sp:=Cl V->Hp->VK->XK->Prop
abbrev vc:=Cl Env->Hp->Shared->XK->Value->Shared->Prop
structure yv(P:Program)(w:World)(K:Fg)(mg:SO)(base:Heap)(A:Around)(outer:Cl Env)(s:Shared)(H:Hp):Prop where
 frames:A.frames=some outer
 mod:Mod K mg base
 bs:∀b o,base.get? b=some o->s.heap.get? b=some o/\H b=none
 CB:base.objs.size<=s.heap.objs.size
 o_:s.heap.FunFrames base outer
 EX:∀b∈frs outer,H b=none
 hok:gK P w H s.heap
 bare:AllBare s.gens
def CE(outer:Cl Env)(P:Program)(w:World)(H:Hp)(s:Shared)(Q:VK)(u:Value)(s':Shared):Prop:=∃v H',s'.os=s.os/\AllBare s'.gens/\Un (frs outer) [] H H' s.heap s'.heap/\gK P w H' s'.heap/\RelV v u/\Q v H'
def CR(CX:vc)(outer:Cl Env)(P:Program)(w:World)(H:Hp)(s:Shared)(Q:VK)(E:XK)(r:Result)(s':Shared):Prop:=match r with
 | .ok (.ret u)=>CE outer P w H s Q u s'
 | .ok _=>False
 | .error e=>CX outer H s E e s'
structure iT(P:Program)(w:World)(K:Fg)(mg:SO)(base:Heap)(CX:vc)(k:Nat)(f:Addr)(fd:FuncData)(ps:Cl Str)(sp:Sp):Prop where
 len:∀vs H Q E,sp vs H Q E->vs.length=ps.length
 run:∀(A:Around)(outer:Cl Env)(s:Shared)(H:Hp)(args:Args)(us:Cl Value)(vs:Cl V)(Q:VK)(E:XK),dg k A->yv P w K mg base A outer s H->BindsTo s fd args (ps.zip us)->Vals vs us->sp vs H Q E->
  codeAny (model P w) A (.call (.ref f) args) (CR CX outer P w H s Q E) s
variable {mg:SO}{base:Heap}{CX:vc}{f:Addr}{fd:FuncData}{sp:Sp}
def iT.imp{k:Nat}{ps:Cl Str}{M1:Sp}(F:iT P w K mg base CX k f fd ps sp)(h:∀vs H Q E,M1 vs H Q E->sp vs H Q E):iT P w K mg base CX k f fd ps M1:=
 ⟨λvs H Q E q=>F.len vs H Q E (h _ _ _ _ q),λA outer s H args us vs Q E hr he hb hv hs=>F.run A outer s H args us vs Q E hr he hb hv (h _ _ _ _ hs)⟩
def yv.make{outer:Cl Env}{s:Shared}(e:yv P w K mg base A outer s H)(C:Addr)(us:Cl Value)(kw:Cl (Str×Value)):yv P w K mg base (A.under (.builtin "type.__call__" ⟨.ref C::us,kw⟩)) outer s H:=⟨by first|exact e.frames|(simpa[Around.under,Code.envs,Code.isFrame,pushEnvs]using e.frames),e.mod,e.bs,e.CB,e.o_,e.EX,e.hok,e.bare⟩
section
variable {X:Cx}{AC:AO}{σ:St}{H:Hp}{s s':Shared}
def Inv.Vr(I:Inv X AC σ H s):yv X.prog X.w X.K X.mg X.base X.A X.stack s H:=⟨I.ok.frames,I.ok.mod,I.bs,dj I.ok.CB I.sz,I.stack,I.JC,I.hok,I.bare⟩
def Inv.after(I:Inv X AC σ H s)(h:CE X.stack X.prog X.w H s Q u s'):EP X AC σ Q u s':=by obtain⟨v,H',os,bare,un,hok,r,q⟩:=h;obtain⟨hh,g,d,t,os'⟩:=s';obtain rfl:os'=s.os:=os;exact⟨v,H',I.call (h':=hh) (g':=g) (d':=d) (t':=t) (ch:=[]) un hok bare (λb z=>absurd z (by simp)),r,q⟩
end
def Vs(sp:Sp)(gM:Cl V)(E:XK)(Q:VK):Cl V->Hp->Prop:=λvs H1=>sp (vs++gM) H1 Q E
def RM(sp:Sp)(gM:Cl V)(E:XK)(t:TA):TE:=λσ H Q=>t σ H (Vs sp gM E Q)
def PJ(sp:Sp)(gM:Cl V)(E:XK)(Q:VK)(x:V):Cl V->Hp->Prop:=λvs H2=>sp (x::(vs++gM)) H2 Q E
inductive Vt(C:Addr)(m:Str)(sp:Sp)(gM:Cl V)(E:XK)(t:TA)(σ:St)(Q:VK)(x:V)(H1:Hp):Prop
 |mk(a dx fs:_)(_:x =.ref a)(_:H1 a=some (.ins C dx fs))(_:fs.lookup m=none)(_:t σ H1 (PJ sp gM E Q x))
def Ey(C:Addr)(m:Str)(sp:Sp)(gM:Cl V)(E:XK)(ta:TE)(t:TA):TE:=λσ H Q=>ta σ H (Vt C m sp gM E t σ Q)
def Vu(C:Addr)(sp:Sp)(gM:Cl V)(E:XK)(Q:VK):Cl V->Hp->Prop:=λvs H1=>∀x dx,H1 x=none->H1 dx=none->dx≠x->sp (.ref x::(vs++gM)) (upd (upd H1 dx (.own x)) x (.ins C dx [])) (λv H2=>v =.b8/\Q (.ref x) H2) E
def Ez(C:Addr)(sp:Sp)(gM:Cl V)(E:XK)(t:TA):TE:=λσ H Q=>t σ H (Vu C sp gM E Q)
def Binds(K:Fg)(fd:FuncData)(ps:Cl Str)(ds:Cl Value):Prop:=∀(s:Shared)(us:Cl Value),K.In s.heap->(us++ds).length=ps.length->BindsTo s fd ⟨us,[]⟩ (ps.zip (us++ds))
def Binds.all{ps:Cl Str}(h:∀us:Cl Value,us.length=ps.length->bindArgs fd ⟨us,[]⟩=pure (ps.zip us)):Binds K fd ps [] :=λs us _ hl=>by rw[pU]at hl ⊢;exact .of_eq (h us hl)
def Passes(CX:vc)(X:Cx)(E:XK):Prop:=∀(AC:AO)(σ:St)(H:Hp)(s:Shared)(e:Value)(s':Shared),Inv X AC σ H s->CX X.stack H s E e s'->X.xe e s'
variable {vs:Cl V}
section
variable {X:Cx}{CX:vc}{k:Nat}{f C:Addr}{fd:FuncData}{ps:Cl Str}{sp:Sp}{gM:Cl V}{ds:Cl Value}{E:XK}{x m:Str}{p pos Bz:Pos}{e o:Expr}{es:Cl Expr}{ta:TE}{t:TA}
def E4{s:Shared}(F:iT X.prog X.w X.K X.mg X.base CX k f fd ps sp)(hr:dg k X.A)(hb:Binds X.K fd ps ds)(hd:Vals gM ds)(hx:Passes CX X E)(I:Inv X AC σ H s)(r:Vals vs us)(h:sp (vs++gM) H Q E):wpAny (model X.prog X.w) X.A (call (.ref f) us) (EP X AC σ Q) X.xe s:=by
 have r2:Vals (vs++gM) (us++ds):=r.append hd
 have hl:(us++ds).length=ps.length:=by rw[<-r2.length];exact F.len _ _ _ _ h
 refine wpAny_call (codeAny_mono (F.run X.A X.stack s H ⟨us,[]⟩ (us++ds) (vs++gM) Q E hr I.Vr (hb s us I.iH hl) r2 h) λr s' hq=>?_)
 cases r with
 | error e=>exact hx AC σ H s e s' I hq
 | ok fl=>
   cases fl with
   | ret u=>exact I.after hq
   | next=>exact False.elim hq
   | brk=>exact False.elim hq
   | cont=>exact False.elim hq
def S0(F:iT X.prog X.w X.K X.mg X.base CX k f fd ps sp)(hr:dg k X.A)(hg:Gl X x)(hm:X.mg x=some (.ref f))(hk:PySem.W.keepIn X.K (.ref f)=true)(hb:Binds X.K fd ps ds)(hd:Vals gM ds)(hx:Passes CX X E)(ha:PA X (e::es) t)(hdb:(x==("__debug__":Str))=false:=by decide)(he:starEach (e::es) X.env=(false,eval e X.env)::starEach es X.env:=by rfl)(hpl:(backTo pos (starEach es X.env)).any (·.1)=false:=by rfl):
  PE X (.Call (.Name x p) (e::es) [] pos) (RM sp gM E t):=by
 intro AC s σ H Q I h
 refine EN (wN I hg hm ?_ hdb)
 refine PySem.W.callWith_K (h₀:=X.base) I.ok.mod.MK hk (aX (ha pos AC s σ H _ I h) λus s1 ⟨vs,H1,I1,r,q⟩=>⟨I1.iH,?_⟩) he hpl
 exact E4 F hr hb hd hx I1 r q
def S3(he:PE X o ta)(c:mO X.K C)(hm:Meth X.K C m f)(F:iT X.prog X.w X.K X.mg X.base CX k f fd ps sp)(hr:dg k X.A)(hb:Binds X.K fd ps ds)(hd:Vals gM ds)(hx:Passes CX X E)(ha:PA X (e::es) t)(hst:starEach (e::es) X.env=(false,eval e X.env)::starEach es X.env:=by rfl)(hpl:(backTo pos (starEach es X.env)).any (·.1)=false:=by rfl)(ht:eval (.Call (.Attribute o m Bz) (e::es) [] pos) X.env=(do
    let ov <-eval o X.env
    standAt Bz.atName
    let(f,first) <-holding [ov] (getMethod ov m pl)
    callWith pos f first (backTo pos (starEach (e::es) X.env)) (backToKw pos (keywordEach [] X.env))):=by rfl):
  PE X (.Call (.Attribute o m Bz) (e::es) [] pos) (Ey C m sp gM E ta t):=by
 intro AC s σ H Q I h
 refine PySem.W.methodCall_KW (pl:=pl) (aX (he AC s σ H _ I h) λu s1 ⟨x,H1,I1,rx,a,dx,fs,ex,ea,l,q⟩=>?_) ht
 subst ex
 obtain rfl:u=Value.ref a:=rx
 refine zQ I1 ea c hm l ?_
 refine PySem.W.callWith_K (first:=[.ref a]) (h₀:=X.base) I.ok.mod.MK hm.kp (aX (ha pos AC s1 σ H1 _ I1 q) λus s2 ⟨vs,H2,I2,r,q2⟩=>⟨I2.iH,?_⟩) hst hpl
 exact E4 (us:=.ref a::us) (vs:=.ref a::vs) F hr hb hd hx I2 (.cons rfl r) q2
def PK(he:PE X o ta)(c:mO X.K C)(hm:Meth X.K C m f)(F:iT X.prog X.w X.K X.mg X.base CX k f fd ps sp)(hr:dg k X.A)(hb:Binds X.K fd ps ds)(hd:Vals gM ds)(hx:Passes CX X E)(ht:eval (.Call (.Attribute o m Bz) [] [] pos) X.env=(do
    let ov <-eval o X.env
    standAt Bz.atName
    let(f,first) <-holding [ov] (getMethod ov m pl)
    callWith pos f first (backTo pos (starEach [] X.env)) (backToKw pos (keywordEach [] X.env))):=by rfl):
  PE X (.Call (.Attribute o m Bz) [] [] pos) (Ey C m sp gM E ta E3):=by
 intro AC s σ H Q I h
 refine PySem.W.methodCall_KW (pl:=pl) (aX (he AC s σ H _ I h) λu s1 ⟨x,H1,I1,rx,a,dx,fs,ex,ea,l,q⟩=>?_) ht
 subst ex
 obtain rfl:u=Value.ref a:=rx
 refine zQ I1 ea c hm l ?_
 exact PySem.W.callWith_K0 (first:=[.ref a]) I1.iH hm.kp (E4 (us:=[.ref a]) (vs:=[.ref a]) F hr hb hd hx I1 (.cons rfl .nil) q)
structure Mk(K:Fg)(C f:Addr):Prop where
 makes:PySem.W.makesIn K C=true
 init:PySem.W.findIn K (.ref C) "__init__"=some (some (.ref f))
 fn:PySem.W.isFn K (.ref f)=true
 kp:PySem.W.keepIn K (.ref C)=true
theorem E5{s:Shared}(M:Mk X.K C f)(F:iT X.prog X.w X.K X.mg X.base CX k f fd ps sp)(hr:dg (k+1) X.A)(hb:Binds X.K fd ps ds)(hd:Vals gM ds)(hx:Passes CX X E)(I:Inv X AC σ H s)(r:Vals vs us)(h:∀x dx,H x=none->H dx=none->dx≠x->sp (.ref x::(vs++gM)) (upd (upd H dx (.own x)) x (.ins C dx [])) (λv H2=>v =.b8/\Q (.ref x) H2) E):
  wpAny (model X.prog X.w) X.A (call (.ref C) us) (EP X AC σ Q) X.xe s:=by
 have hq:=h (s.heap.objs.size+1) s.heap.objs.size (I.hok.fresh (Nat.le_succ _)) (I.hok.fresh (aO _)) (dI (Nat.lt_succ_self _))
 have I2:=Inv.made (C:=C) I
 have r2:Vals (V.ref (s.heap.objs.size+1)::(vs++gM)) (Value.ref (s.heap.objs.size+1)::(us++ds)):=.cons rfl (r.append hd)
 have hl:(Value.ref (s.heap.objs.size+1)::us++ds).length=ps.length:=by have e:=r2.length;rw[F.len _ _ _ _ hq]at e;exact e.symm
 refine wpAny_call (PB (f:=f) I.iH M.makes M.init (pW.mp M.fn) (codeAny_mono (F.run _ X.stack _ _ ⟨Value.ref (s.heap.objs.size+1)::us,[]⟩ (Value.ref (s.heap.objs.size+1)::(us++ds)) _ _ E (hr.make C us [])
  (I2.Vr.make C us []) (hb _ (Value.ref (s.heap.objs.size+1)::us) I2.iH hl) r2 hq) λr s' hq'=>?_))
 cases r with
 | error e=>exact hx AC σ _ _ e s' I2 hq'
 | ok fl=>
   cases fl with
   | ret u=>
     obtain⟨v,H',I3,rv,ev,q3⟩:=I2.after hq'
     subst ev
     exact⟨rv,⟨V.ref (s.heap.objs.size+1),H',I3,Z,q3⟩⟩
   | next=>exact False.elim hq'
   | brk=>exact False.elim hq'
   | cont=>exact False.elim hq'
def S4(M:Mk X.K C f)(F:iT X.prog X.w X.K X.mg X.base CX k f fd ps sp)(hr:dg (k+1) X.A)(hg:Gl X x)(hm:X.mg x=some (.ref C))(hb:Binds X.K fd ps ds)(hd:Vals gM ds)(hx:Passes CX X E)(ha:PA X (e::es) t)(hdb:(x==("__debug__":Str))=false:=by decide)(he:starEach (e::es) X.env=(false,eval e X.env)::starEach es X.env:=by rfl)(hpl:(backTo pos (starEach es X.env)).any (·.1)=false:=by rfl):
  PE X (.Call (.Name x p) (e::es) [] pos) (Ez C sp gM E t):=by
 intro AC s σ H Q I h
 refine EN (wN I hg hm ?_ hdb)
 refine PySem.W.callWith_K (h₀:=X.base) I.ok.mod.MK M.kp (aX (ha pos AC s σ H _ I h) λus s1 ⟨vs,H1,I1,r,q⟩=>⟨I1.iH,?_⟩) he hpl
 exact E5 M F hr hb hd hx I1 r q
def PL(M:Mk X.K C f)(F:iT X.prog X.w X.K X.mg X.base CX k f fd ps sp)(hr:dg (k+1) X.A)(hg:Gl X x)(hm:X.mg x=some (.ref C))(hb:Binds X.K fd ps ds)(hd:Vals gM ds)(hx:Passes CX X E)(hdb:(x==("__debug__":Str))=false:=by decide):PE X (.Call (.Name x p) [] [] pos) (Ez C sp gM E E3):=by
 intro AC s σ H Q I h
 refine EN (wN I hg hm ?_ hdb)
 exact PySem.W.callWith_K0 I.iH M.kp (E5 (us:=[]) M F hr hb hd hx I .nil h)
end
section
variable {X:Cx}{CX:vc}{k:Nat}{f C:Addr}{fd:FuncData}{ps ks:Cl Str}{sp:Sp}{E:XK}{x m:Str}{p pos Bz kpos:Pos}{e o:Expr}{es:Cl Expr}{kws:Cl Keyword}{te ta:TE}{t tk:TA}{nm:Option Str}
variable {g:Cl Value->Cl Value->Cl Value}{gV:Cl V->Cl V->Cl V}
end
structure aS(N P:Cl Str)(sc:Scope):Prop where
 kind:sc.kind =.function
 co:sc.isCoroutine=false
 gen:sc.isGenerator=false
 nd:N.Nodup
 pre:N.take P.length=P
 par:∀x∈P,sc.names.lookup x=some .local\/sc.names.lookup x=some .cell
 Vv:∀y∈sc.names,y.2 ≠ .free
theorem CD{kindOf:Str->Option NameKind}{x:Str}:∀{binds:Cl (Str×Value)}{m:SO},(∀v,(x,v)∉binds)->bindL kindOf binds m x=m x
 | [],_,_=>rfl
 | (n,v)::r,m,h=>by
  unfold bindL;rw[CD λw hw=>h w (ck _ hw)];split
  .have:x≠n:=by rintro rfl;exact h v cD
   simp[this]
  .rfl
theorem CF{kindOf:Str->Option NameKind}{x:Str}:∀{binds:Cl (Str×Value)}{m:SO},(∀v,(x,v)∉binds)->bindC kindOf binds m x=m x
 | [],_,_=>rfl
 | (n,v)::r,m,h=>by
  unfold bindC;rw[CF λw hw=>h w (ck _ hw)];split
  .rfl
  .have:x≠n:=by rintro rfl;exact h v cD
   simp[this]
theorem CG{kindOf:Str->Option NameKind}{x:Str}{v:Value}:∀{P:Cl Str}{vs:Cl Value}{i:Nat}{m:SO},P.Nodup->P[i]?=some x->vs[i]?=some v->kindOf x=some .local->bindL kindOf (P.zip vs) m x=some v
 | [],_,_,_,_,h,_,_=>by simp at h
 | _::_,[],_,_,_,_,h,_=>by simp at h
 | p::P,w::vs,0,m,nd,h1,h2,hk=>by simp at h1 h2;subst h1;subst h2;show bindL kindOf ((p,w)::P.zip vs) m p=_;unfold bindL;rw[CD λv hv=>(fj.mp nd).1 (List.of_mem_zip hv).1,aB hk];simp
 | p::P,w::vs,i+1,m,nd,h1,h2,hk=>by show bindL kindOf ((p,w)::P.zip vs) m x=_;unfold bindL;exact CG (i:=i) (fj.mp nd).2 (by simpa using h1) (by simpa using h2) hk
theorem CH{kindOf:Str->Option NameKind}{x:Str}{v:Value}:∀{P:Cl Str}{vs:Cl Value}{i:Nat}{m:SO},P.Nodup->P[i]?=some x->vs[i]?=some v->kindOf x≠some .local->bindC kindOf (P.zip vs) m x=some v
 | [],_,_,_,_,h,_,_=>by simp at h
 | _::_,[],_,_,_,_,h,_=>by simp at h
 | p::P,w::vs,0,m,nd,h1,h2,hk=>by simp at h1 h2;subst h1;subst h2;show bindC kindOf ((p,w)::P.zip vs) m p=_;unfold bindC;rw[CF λv hv=>(fj.mp nd).1 (List.of_mem_zip hv).1,aA hk];simp
 | p::P,w::vs,i+1,m,nd,h1,h2,hk=>by show bindC kindOf ((p,w)::P.zip vs) m x=_;unfold bindC;exact CH (i:=i) (fj.mp nd).2 (by simpa using h1) (by simpa using h2) hk
def start(N:Cl Str)(vs:Cl V):St:=vs.map some++List.replicate (N.length-vs.length) none
def pe(CX:vc)(P:Program)(w:World)(K:Fg)(mg:SO)(base:Heap)(N:Cl Str)(qual:Str)(scope:Scope)(f:Addr)(cd:Value)(A:Around)(outer:Cl Env)(s:Shared)(H:Hp)(E:XK):Cx where
 prog:=P
 w:=w
 K:=K
 mg:=mg
 base:=base
 A:=A.deeper (envOfC qual scope s.heap.objs.size f cd)
 N:=N
 s₀:=s
 H₀:=H
 env:=envOfC qual scope s.heap.objs.size f cd
 outer:=outer
 stack:=envOfC qual scope s.heap.objs.size f cd::outer
 ex:=[]
 calm:=true
 fn:=λ_=>true
 pn:=[]
 xe:=λe s'=>wpAny (model P w) (A.deeper (envOfC qual scope s.heap.objs.size f cd)) (leaving (envOfC qual scope s.heap.objs.size f cd) e) (λ_ s''=>CX outer H s E e s'') (λe' s''=>CX outer H s E e' s'') s'
def E6{sc:Scope}(h:sc.names.lookup x=some .cell):∃c,(cellsFrom n sc.names []).lookup x=some c:=by have q:=PySem.W.cellsFrom_some sc.names n [] (.inl h);exact Option.isSome_iff_exists.mp q
variable {qual:Str}{scope:Scope}{E:XK}
theorem M3{ps:Cl Str}{cd:Value}{outer:Cl Env}{s s1:Shared}(S:aS N ps scope)(hd:A.handled=none)(e0:yv P w K mg base A outer s H)(hl:vs.length=ps.length)(r:Vals vs us)(x:InCallC s s.heap.objs.size (bindL (envOfC qual scope s.heap.objs.size f cd).kindOf (ps.zip us) λ_=>none) (cellsFrom (s.heap.objs.size+1) scope.names []) (bindC (envOfC qual scope s.heap.objs.size f cd).kindOf (ps.zip us) λ_=>none) s1):
  Inv (pe CX P w K mg base N qual scope f cd A outer s H E) [] (start N vs) H s1:=by
 have hpl:ps.length<=N.length:=by have:=fY List.length S.pre;rw[jN]at this;omega
 obtain⟨h1,tk,rfl,hk⟩:=x.done
 have M5:∀b:Addr,b∉(pe CX P w K mg base N qual scope f cd A outer s H E).ex:=λb z=>absurd (show b∈([] :Cl Addr)from z) (by simp)
 refine⟨⟨e0.mod,S.kind,Z,Z,aO _,λy z c h1 h2=>?_,λy hy=>?_,λy c _ h=>?_,λ_=>hd,Around.frames_deeper e0.frames,.inr ⟨Z,Z⟩,λb z=>absurd z (M5 b),e0.bs,e0.CB,λb _ _=>M5 b,λb z=>absurd z (M5 b),e0.o_,e0.EX⟩,
  rfl,e0.bare,Un.kept hk,⟨_,x.toInCall.ns,λi y v h1 h2 h3=>?_⟩,λy c h=>⟨_,x.cell y c h⟩,e0.hok.fresh (aO _),λy c h=>?_,λp hp=>absurd (show p∈([] :AO)from hp) (by simp),e0.hok.kept hk,?_⟩
 . exact name_of_addr x.apart (tU h1) (tU h2)
 . have hy:scope.names.lookup y=some .cell\/scope.names.lookup y=some .free:=hy
   rcases hy with hy|hy
   . exact E6 hy
   . exact absurd rfl (S.Vv _ (tU hy))
 . exact zH (x.above y c (tU h))
 . have hi:i<vs.length:=by
    unfold start at h2
    by_cases hi:i<vs.length
    . exact hi
    . rw[MF (by simpa using hi)]at h2
      rw[yl]at h2
      split at h2 <;> cases h2
   have ha:vs[i]?=some v:=by
    unfold start at h2;rw[KO (by simpa using hi),cz]at h2;cases e:vs[i]? with
    | none=>rw[e]at h2;cases h2
    | some a=>rw[e]at h2;cases h2;rfl
   obtain⟨u,hu,rv⟩:=r.get ha
   have hp:ps[i]?=some y:=by rw[<-S.pre,List.getElem?_take_of_lt (by omega)];exact h1
   have ZS:ps.Nodup:=by rw[<-S.pre];exact S.nd.sublist (List.take_sublist _ _)
   refine⟨u,rv,?_⟩
   rcases S.par y (cg hp)with k|k
   . exact .inl ⟨k,CG ZS hp hu k⟩
   . obtain⟨c,e⟩:=E6 (n:=s.heap.objs.size+1) k
     refine .inr ⟨.inl k,c,e,?_⟩
     have q:=x.cell y c e
     rw[CH ZS hp hu (by show scope.names.lookup y≠_;rw[k];decide)]at q
     exact q
 . exact e0.hok.fresh (zH (x.above y c (tU h)))
 . unfold start
   show _=N.length
   rw[cO,aH,jh]
   omega
variable {body:Cl Stmt}{doc pm cdv ct oc:Value}{an od:Option Addr}
theorem YK{k:Nat}{name:Str}{params:Arguments}{dV kV:Value}{osl:Array (Option Value)}{N ps:Cl Str}{sp:Sp}(lk:K.lookup f=some ⟨oc,od,.func (PySem.W.fnOf name qual params body scope dV kV doc pm an cdv ct),osl⟩)(hcd:PySem.W.codeIn K cdv qual=true)(S:aS N ps scope)(len:∀vs H Q E,sp vs H Q E->vs.length=ps.length)(B1:∀(A:Around) (outer:Cl Env) (s:Shared) (H:Hp) (vs:Cl V) (Q:VK) (E:XK),dg k (A.deeper (envOfC qual scope s.heap.objs.size f cdv))->sp vs H Q E->
    ∃t,rB (pe CX P w K mg base N qual scope f cdv A outer s H E) body t/\t { nx:=λ_ H'=>Q .b8 H',rt:=Q } (start N vs) H):
  iT P w K mg base CX (k+1) f (PySem.W.fnOf name qual params body scope dV kV doc pm an cdv ct) ps sp:=by
 refine⟨len,λA outer s H args us vs Q E hr e0 hb r rC=>?_⟩
 have hl:=len _ _ _ _ rC
 have KX:K.In s.heap:=e0.mod.MK.keeps λb o e=>(e0.bs b o e).1
 have lim:s.heap.NoLimit:=e0.mod.nolimit.keeps λb o e=>(e0.bs b o e).1
 have hkind:∀y∈ps.zip us,scope.names.lookup y.1=some .local\/(scope.names.lookup y.1=some .cell/\((cellsFrom (s.heap.objs.size+1) scope.names []).lookup y.1).isSome=true):=λ⟨n,v⟩ hy=>by
  rcases S.par n (List.of_mem_zip hy).1 with q|q
  .exact .inl q
  .exact .inr ⟨q,PySem.W.cellsFrom_some _ _ _ (.inl q)⟩
 refine codeAny_call_function hr.depth (KX _ _ lk) rfl S.co S.gen rfl (PySem.W.codeRec_of KX hcd) (hb _ _ _ _ ?_)
 refine wpAny_newFunctionEnv_cells S.kind hkind λenv he s1 x=>?_
 subst he
 refine⟨lim.keeps x.toInCall.keep,codeAny_func ?_⟩
 obtain⟨t,ht,hq⟩:=B1 A outer s H vs Q E (hr.deeper _) rC
 have I:Inv (pe CX P w K mg base N qual scope f cdv A outer s H E) [] (start N vs) H s1:=M3 S hr.hd e0 hl r x
 refine gZ (ht [] s1 (start N vs) H _ I hq) (λfl s' hs=>?_) λe s' hs=>hs
 have fin:∀{σ':St}{H':Hp}{v:V}{u:Value},Inv (pe CX P w K mg base N qual scope f cdv A outer s H E) [] σ' H' s'->RelV v u->Q v H'->CE outer P w H s Q u s':=
  λ{σ' H' v u} J rv q=>⟨v,H',J.os,J.bare,J.base,J.hok,rv,q⟩
 cases fl with
 | ret u=>
   obtain⟨v,σ',H',J,rv,q⟩:=hs
   exact fin J rv q
 | next=>
   obtain⟨σ',H',J,q⟩:=hs
   exact fin (v:=V.b8) (u:=Value.none) J rfl q
 | brk=>
   obtain⟨_,_,_,q⟩:=hs
   exact False.elim q
 | cont=>
   obtain⟨_,_,_,q⟩:=hs
   exact False.elim q
section
variable {X:Cx}{x:Str}{p pos:Pos}{e:Expr}{es:Cl Expr}{t:TA}{id T:String}{r:Cl V->Hp->VK->Prop}
def abr(r:Cl V->Hp->VK->Prop)(Q:VK):Cl V->Hp->Prop:=λvs H1=>r vs H1 Q
def ZT(r:Cl V->Hp->VK->Prop)(t:TA):TE:=λσ H Q=>t σ H (abr r Q)
end
end L2
namespace HT
open PySem PyProof.Rows
section
open PySem.SeqAt
open PySem.AutoSeq1 (wpAny_loadPart')
open PySem.MeetsSeq PySem.MeetsSeq2 PySem.MeetsSeq3
end
section
variable {prog:Program}{w:World}{A:Around}{E:VS}{s:Shared}
def S7{t b:Addr}{vs ws:Cl Value}{Q:VS}(ht:IsTup s.heap t vs.toArray)(hb:IsTup s.heap b ws.toArray)(hv:vs≠[])(h1:ws=[]->Q (.ref t) s)(h2:ws≠[]->Q (.ref s.heap.objs.size) { s with heap:=s.heap.push { cls:=.type "tuple",data:=.seq (vs++ws).toArray } })(hsz:vs.length+ws.length<=sizeLine):wpAny (model prog w) A (binaryOp .Add (.ref t) (.ref b)) Q E s:=by
 obtain⟨⟨cls,dd,data,sl⟩,ho,hc,n,hd⟩:=id ht
 obtain⟨⟨abt,dd2,data2,sl2⟩,ho2,hc2,n2,hd2⟩:=id hb
 simp only at hc hd hc2 hd2
 subst hc hd hc2 hd2
 have e:vs.toArray++ws.toArray=(vs++ws).toArray:=by simp
 by_cases hw:ws=[]
 . exact concat_meets ⟨_,ho,Z⟩ ⟨_,ho2,Z⟩ noFill_tuple_add seq_tuple_add PySem.F.slot_tuple_add PySem.F.entry_tuple_add (PySem.F.args_tuple_add_2 _ _)
    (tuple_addW1 t b vs.toArray ws.toArray n n2 dd dd2 sl sl2 (by simpa using hv) (by simp[hw])) ⟨ho,ho2,h1 hw⟩
 . refine concat_meets ⟨_,ho,Z⟩ ⟨_,ho2,Z⟩ noFill_tuple_add seq_tuple_add PySem.F.slot_tuple_add PySem.F.entry_tuple_add (PySem.F.args_tuple_add_2 _ _)
    (tuple_addW2 t b vs.toArray ws.toArray n n2 dd dd2 sl sl2 (by simpa using hv) (by simpa using hw) (by rw[fc,fc];exact hsz)) ⟨ho,ho2,?_⟩
   rw[e]
   exact h2 hw
def dR(n d:Nat):Option Int->Nat
 | none=>d
 | some v=>if v<0 then(v+(n:Int)).toNat else min v.toNat n
def PM(n d:Nat):dR n d none=d:=rfl
theorem JI(n d k:Nat):dR n d (some (k:Int))=min k n:=by show(if(k:Int)<0 then((k:Int)+(n:Int)).toNat else min (k:Int).toNat n)=min k n;rw[aA (by omega),qf]
theorem Vw(n d:Nat)(hd:d<=n)(o:Option Int):dR n d o<=n:=by
 cases o with
 | none=>exact hd
 | some v=>
  show(if v<0 then(v+(n:Int)).toNat else min v.toNat n)<=n;by_cases hv:v<0
  .rw [aB hv];omega
  .rw [aA hv];exact Nat.min_le_right _ _
theorem JJ(v:Int)(n d:Nat):(if v<0 then max (v+(n:Int)) 0 else min v (n:Int))=((dR n d (some v):Nat):Int):=by
 show(if v<0 then max (v+(n:Int)) 0 else min v (n:Int))=(((if v<0 then(v+(n:Int)).toNat else min v.toNat n):Nat):Int)
 by_cases hv:v<0
 .simp only[aB hv];omega
 .simp only[aA hv];omega
theorem Lw(lo hi:Option Int)(n:Nat):Builtin.Slice.sliceAdjust lo hi 1 (n:Int)=(((dR n 0 lo:Nat):Int),((dR n n hi:Nat):Int)):=by
 have h1:¬ ((1:Int)<0):=by omega
 unfold Builtin.Slice.sliceAdjust;simp only[h1,mJ];refine Prod.ext ?_ ?_
 .cases lo with
  | none=>rfl
  | some v=>exact JJ v n 0
 .cases hi with
  | none=>rfl
  | some v=>exact JJ v n n
theorem Lx(i j:Nat):Builtin.Slice.slicePlaces (i:Int) (j:Int) 1=j-i:=by
 unfold Builtin.Slice.slicePlaces;have h1:(1:Int)>0:=by omega
 simp only[h1,if_true,rj];split <;> omega
def zS{v:Value}{o:Option Int}{Q:Option Int->Shared->Prop}(p:IsPart v o)(h:Q o s):wpAny (model prog w) A (Builtin.Slice.slicePartIndex v) Q E s:=by
 cases p with
 | none=>exact slicePart_none h
 | int i t=>exact slicePart_int h
def yw{sl:Addr}{vl vu:Value}{lo hi:Option Int}{n:Nat}{Q:Int×Int×Nat->Shared->Prop}(hs:s.heap.IsSliceOf sl vl vu .none)(pl:IsPart vl lo)(pu:IsPart vu hi)(h:Q (((dR n 0 lo:Nat):Int),1,dR n n hi-dR n 0 lo) s):wpAny (model prog w) A (Builtin.Slice.sliceApplied (.ref sl) (pure (n:Int))) Q E s:=by
 obtain⟨os,hos,hcs,hds⟩:=id hs
 unfold Builtin.Slice.sliceApplied Builtin.Slice.sliceFields
 refine ao (ao (ji hos hds (x:=vl) rfl (ao (ji hos hds (x:=vu) rfl (ao (ji hos hds (x:=.none) rfl (aK ?_)))))))
 refine ao (slicePart_none ?_)
 show wpAny _ _ (if((1:Int)==0)=true then _ else _) _ _ s
 rw[aA (by decide)]
 refine ao (zS pl (ao (zS pu (ao (aK ?_)))))
 show wpAny _ _ (match Builtin.Slice.sliceAdjust lo hi 1 (n:Int)with|(lo,hi)=>pure (lo,(1:Int),Builtin.Slice.slicePlaces lo hi 1)) _ _ s
 rw[Lw lo hi n]
 show wpAny _ _ (pure (((dR n 0 lo:Nat):Int),(1:Int),Builtin.Slice.slicePlaces ((dR n 0 lo:Nat):Int) ((dR n n hi:Nat):Int) 1)) _ _ s
 rw[Lx]
 exact aK h
theorem PN(xs:Array Value)(i k:Nat):((List.range k).filterMap λ(m:Nat)=>xs[((i:Int)+(m:Int)*1).toNat]?).toArray=((xs.toList.drop i).take k).toArray:=by
 have e:(λ(m:Nat)=>xs[((i:Int)+(m:Int)*1).toNat]?)=λm=>xs[i+m]?:=by
  funext m;have:((i:Int)+(m:Int)*1).toNat=i+m:=by omega
  rw[this]
 rw[e];have:=pick_run xs i k;rw[List.filterMap_map]at this;have e2:((λx=>xs[x]?) ∘ λx=>i+x)=λm=>xs[i+m]?:=rfl;rw[e2]at this;rw[this]
theorem xx{t sl:Addr}{items:Array Value}{vl vu:Value}{lo hi:Option Int}{Q:VS}(ht:IsTup s.heap t items)(hs:s.heap.IsSliceOf sl vl vu .none)(pl:IsPart vl lo)(pu:IsPart vu hi)(hw:¬ (dR items.size 0 lo=0/\dR items.size items.size hi=items.size))(h:Q (.ref s.heap.objs.size) { s with heap:=s.heap.push { cls:=.type "tuple",data:=.seq ((items.toList.drop (dR items.size 0 lo)).take (dR items.size items.size hi-dR items.size 0 lo)).toArray } })(hsz:items.size<=sizeLine):wpAny (model prog w) A (getItem (.ref t) (.ref sl)) Q E s:=by
 have EA:sizeOk (.seq ((items.toList.drop (dR items.size 0 lo)).take (dR items.size items.size hi-dR items.size 0 lo)).toArray):=by show((items.toList.drop (dR items.size 0 lo)).take (dR items.size items.size hi-dR items.size 0 lo)).toArray.size<=sizeLine;rw[fc,jN,List.length_drop,Array.length_toList];omega
 have hj:dR items.size items.size hi<=items.size:=Vw _ _ (aO _) hi
 obtain⟨os,hos,hcs,hds⟩:=id hs
 have hTs:s.TypeIs (.ref sl) "slice":=⟨os,hos,hcs⟩
 unfold getItem
 try with_reducible refine wI ?_
 first|refine ao (aK ?_)|skip
 refine ao (wpAny_sequenceKey ht.typeIs (by decide) ?_)
 refine ao (tR (name:=Str.ofString "__getitem__") ht.typeIs PyProof.Rows.slot_tuple_getitem
  (tW PyProof.Rows.slot_tuple_getitem ht.typeIs entry_tuple_getitem ?_ (args_tuple_getitem _ _)))
 show wpAny _ _ (Builtin.Tuple.tupleItemsOf (.ref t) >>= _) _ _ s
 refine ao (tupleItemsOf_ ht ?_)
 refine ao (wpAny_typeOf hTs ?_)
 rw[aB (by decide)]
 refine ao (yw hs pl pu ?_)
 have hno:¬ ((((dR items.size 0 lo:Nat):Int)==0 && (1:Int)==1 && (dR items.size items.size hi-dR items.size 0 lo)==items.size)=true):=by intro q;rw[ES,ES]at q;have q1:((dR items.size 0 lo:Nat):Int)=0:=eq_of_beq q.1.1;have q2:dR items.size items.size hi-dR items.size 0 lo=items.size:=eq_of_beq q.2;exact hw ⟨by omega,by omega⟩
 show wpAny _ _ (if(((dR items.size 0 lo:Nat):Int)==0 && (1:Int)==1 && (dR items.size items.size hi-dR items.size 0 lo)==items.size)=true then _ else _) _ _ s
 rw[aA hno,PN]
 first
  | exact ao (m:=Builtin.Tuple.tupleExact _) (nK (aK ⟨_,Z,aK h⟩) EA)
  | exact ao (m:=Builtin.Tuple.tupleExact _) (nK (ao (aK (aK ⟨_,Z,aK h⟩))) EA)
  | exact ao (ao (m:=Builtin.Tuple.tupleExact _) (nK (aK (aK ⟨_,Z,aK h⟩)) EA))
  | exact ao (ao (m:=Builtin.Tuple.tupleExact _) (nK (aK ⟨_,Z,aK h⟩) EA))
end
end HT
namespace L2
open PySem PySem.Spec PyProof.Rows
abbrev TO:=St->Hp->(Option Int->Hp->Prop)->Prop
def PO(X:Cx)(e:Option Expr)(t:TO):Prop:=∀(AC:AO)(s:Shared)(σ:St)(H:Hp)(Q:Option Int->Hp->Prop),Inv X AC σ H s->t σ H Q->wpAny (model X.prog X.w) X.A (evalPart e X.env) (λu s'=>∃o H',Inv X AC σ H' s'/\IsPart u o/\Q o H') X.xe s
def S9:TO:=λ_ H Q=>Q none H
inductive Vx(Q:Option Int->Hp->Prop)(x:V)(H1:Hp):Prop
 |mk(i:_)(_:x =.int i)(_:Q (some i:_) H1)
def YL(t:TE):TO:=λσ H Q=>t σ H (Vx Q)
variable {ns:Cl Int}
def intsAre_of:∀{us:Cl Value},Vals (ns.map V.int) us->IntsAre us ns:=by
 induction ns with
 | nil=>intro us r;rw[List.map_nil]at r;cases r;exact .nil
 | cons n ns ih=>
  intro us r;rw[br]at r;cases r with
  | cons r1 r2=>obtain⟨t,e⟩:=r1;subst e;exact .cons n t (ih r2)
variable {xs:Cl V}{us:Cl Value}
section
variable {X:Cx}{e:Expr}{te:TE}{lo hi:Option Expr}{tl th:TO}{pos p2:Pos}
def Vy(X:Cx)(r:V->Option Int->Option Int->Hp->VK->Prop):Prop:=∀(AC:AO)(s:Shared)(σ:St)(H:Hp)(x:V)(v vl vu:Value)(lo hi:Option Int)(sl:Addr)(Q:VK),Inv X AC σ H s->RelV x v->s.heap.IsSliceOf sl vl vu .none->IsPart vl lo->IsPart vu hi->r x lo hi H Q->∃T id,typeLookup (.type T) "__getitem__"=pure (some (.builtin id))/\s.TypeIs v T/\wpAny (model X.prog X.w) X.A (getItem v (.ref sl)) (EP X AC σ Q) X.xe s
def Vz(r:V->Option Int->Option Int->Hp->VK->Prop)(Q:VK)(x:V)(l:Option Int):Option Int->Hp->Prop:=λu H3=>r x l u H3 Q
def VA(r:V->Option Int->Option Int->Hp->VK->Prop)(th:TO)(σ:St)(Q:VK)(x:V):Option Int->Hp->Prop:=λl H2=>th σ H2 (Vz r Q x l)
def abu(r:V->Option Int->Option Int->Hp->VK->Prop)(tl:TO)(th:TO)(σ:St)(Q:VK):V->Hp->Prop:=λx H1=>tl σ H1 (VA r th σ Q x)
def tSl(r:V->Option Int->Option Int->Hp->VK->Prop)(te:TE)(tl th:TO):TE:=λσ H Q=>te σ H (abu r tl th σ Q)
def BB(xs:Cl V)(lo hi:Option Int):Cl V:=(xs.drop (HT.dR xs.length 0 lo)).take (HT.dR xs.length xs.length hi-HT.dR xs.length 0 lo)
theorem Iw(xs:Cl V)(lo hi:Option Int):(BB xs lo hi).length<=xs.length:=by unfold BB;rw[jN,List.length_drop];omega
inductive VB(K:Fg)(x:V)(lo:Option Int)(hi:Option Int)(H:Hp)(Q:VK):Prop
 |mk(a xs:_)(_:x =.ref a)(_:bR K H a xs)(_:¬ (HT.dR xs.length 0 lo=0/\HT.dR xs.length xs.length hi=xs.length))(_:∀p,H p=none->Q (.ref p) (upd H p (.tup (BB xs lo hi))))
def VC:Vy X (VB X.K):=by
 intro AC s σ H x v vl vu lo hi sl Q I rx hs pl pu h;obtain⟨a,xs,rfl,hx,hw,q⟩:=h;cases rx;obtain⟨BT,r,ht,hz⟩:=I.tuple hx;have hlen:BT.toArray.size=xs.length:=by rw[fc];exact r.length.symm
 refine⟨"tuple",_,PyProof.Rows.slot_tuple_getitem.lookup,ht.typeIs,?_⟩;refine HT.xx ht hs pl pu (by rw[hlen];exact hw) ?_ (by rw[hlen];exact hz);rw[hlen];refine⟨.ref s.heap.objs.size,_,I.laid (t':=s.toks) (o:=.tup (BB xs lo hi)) (λb ob q=>bQ _ q) (aO _) ?_,Z,q _ (I.hok.fresh (aO _))⟩;exact⟨dj (Iw xs lo hi) hz,_,(r.drop (HT.dR xs.length 0 lo)).take (HT.dR xs.length xs.length hi-HT.dR xs.length 0 lo),IsTup.new _ _⟩
inductive YM(K:Fg)(x:V)(y:V)(H:Hp)(Q:VK):Prop
 |mk(a b xs ys:_)(_:x =.ref a)(_:y =.ref b)(_:bR K H a xs)(_:bR K H b ys)(_:xs≠[])(_:xs.length+ys.length<=sizeLine)(_:(ys=[]->Q (.ref a) H))(_:(ys≠[]->∀p,H p=none->Q (.ref p) (upd H p (.tup (xs++ys)))))
def Vals.sR(r:Vals xs us):us=[]↔xs=[] :=by
 cases r with
 | nil=>simp
 | cons _ _=>simp
def S_:gq X (binaryOp .Add) (YM X.K):=by intro AC s σ H x y v u Q I rx ry h;obtain⟨a,b,xs,ys,rfl,rfl,ha,hb,hx,hz,q1,q2⟩:=h;cases rx;cases ry;obtain⟨BT,r1,p1,_⟩:=I.tuple ha;obtain⟨its2,r2,p2,_⟩:=I.tuple hb;refine HT.S7 p1 p2 (λz=>hx (r1.sR.mp z)) (λz=>⟨.ref a,H,I,Z,q1 (r2.sR.mp z)⟩) (λz=>?_) (by rw[<-r1.length,<-r2.length];exact hz);refine⟨.ref s.heap.objs.size,_,I.laid (t':=s.toks) (o:=.tup (xs++ys)) (λb ob q=>bQ _ q) (aO _) ?_,Z,q2 (λw=>z (r2.sR.mpr w)) _ (I.hok.fresh (aO _))⟩;exact⟨by rw[cO];exact hz,_,r1.append r2,IsTup.new _ _⟩
end
def xW(n:Nat)(i:Int):Option Nat:=if 0<=i then(if i<n then some i.toNat else none) else if -(n:Int)<=i then some (i+n).toNat else none
def pR{α:Type}(xs:Cl α)(i:Int):Option α:=(xW xs.length i).bind λj=>xs[j]?
variable {n j:Nat}
theorem JK{i:Int}(h:xW n i=some j):seqIndex? i n=some j/\j<n/\-(n:Int)<=i/\i<n:=by
 unfold xW at h;by_cases h0:0<=i
 .rw [aB h0]at h;by_cases h1:i<n
  .rw [aB h1]at h;have e:i.toNat=j:=fh h;exact⟨by rw[seqIndex_of h0 h1,e],by omega,by omega,h1⟩
  .rw [aA h1]at h;cases h
 .rw [aA h0]at h;by_cases h1:-(n:Int)<=i
  .rw [aB h1]at h;have e:(i+n).toNat=j:=fh h;exact⟨by rw[seqIndex_neg (by omega) h1,e],by omega,h1,by omega⟩
  .rw [aA h1]at h;cases h
def BC{α:Type}{xs:Cl α}{i:Int}{v:α}(h:pR xs i=some v):∃j,seqIndex? i xs.length=some j/\xs[j]?=some v/\j<xs.length/\-(xs.length:Int)<=i/\i<xs.length:=by
 unfold pR at h;cases e:xW xs.length i with
 | none=>rw[e]at h;cases h
 | some j=>rw[e]at h;obtain⟨h1,h2,h3,h4⟩:=JK e;exact⟨j,h1,h,h2,h3,h4⟩
theorem bh{α:Type}{xs:Cl α}{v:α}(h:xs[j]?=some v):pR xs (j:Int)=some v:=by
 have hj:j<xs.length:=(dW.mp h).1;have e:xW xs.length (j:Int)=some j:=by unfold xW;rw[aB (by omega),aB (by omega)];simp
 unfold pR;rw[e];exact h
def Tc(b:Expr):Prop:=∀o i,subscripted b false o i=operate [o,i] (getItem o i)
def uU(X:Cx)(r:R2):Prop:=∀(value slice:Expr)(AC:AO)(s:Shared)(σ:St)(H:Hp)(x y:V)(v u:Value)(Q:VK),Inv X AC σ H s->RelV x v->RelV y u->r x y H Q->subscripted slice false v u=operate [v,u] (getItem v u)->wpAny (model X.prog X.w) X.A (subscriptTail value slice v u) (EP X AC σ Q) X.xe s
def MtR(X:Cx)(id:String)(r:V->Cl V->Hp->VK->Prop):Prop:=∀(AC:AO)(s:Shared)(σ:St)(H:Hp)(x:V)(xs:Cl V)(v:Value)(us:Cl Value)(Q:VK),Inv X AC σ H s->RelV x v->Vals xs us->r x xs H Q->wpAny (model X.prog X.w) X.A (call (.builtin id) (v::us)) (EP X AC σ Q) X.xe s
variable {AC:AO}{σ:St}{H:Hp}{BT its':Cl Value}{A:Around}{y:V}{u:Value}
section
variable {X:Cx}{a b:Expr}{ta tb:TE}{pos:Pos}
def uU.or{r r':R2}(h:uU X r)(h':uU X r'):uU X (λx y H Q=>r x y H Q\/r' x y H Q):=by
 intro value slice AC s σ H x y v u Q I rx ry q hs;rcases q with q|q
 .exact h value slice AC s σ H x y v u Q I rx ry q hs
 .exact h' value slice AC s σ H x y v u Q I rx ry q hs
inductive PR(K:Fg)(x:V)(y:V)(H:Hp)(Q:VK):Prop
 |mk(p xs i v:_)(_:x =.ref p)(_:y =.int i)(_:aI K H p xs)(_:pR xs i=some v)(_:Q v H)
inductive PU(K:Fg)(x:V)(y:V)(H:Hp)(Q:VK):Prop
 |mk(p xs i v:_)(_:x =.ref p)(_:y =.int i)(_:bR K H p xs)(_:pR xs i=some v)(_:Q v H)
inductive VD(x:V)(y:V)(H:Hp)(Q:VK):Prop
 |mk(z i c:_)(_:x =.str z)(_:y =.int i)(_:z.length<=sizeLine)(_:pR z.cps.toList i=some c)(_:Q (.str ⟨#[c]⟩) H)
theorem JL:uU X (PR X.K):=by
 intro value slice AC s σ H x y v u Q I rx ry h hs;obtain⟨p,xs,i,z,rfl,rfl,hq,he,q⟩:=h;cases rx;obtain⟨t,rfl⟩:=ry;obtain⟨BT,r,pl,hz⟩:=I.list hq;obtain⟨j,h1,h2,h3,h4,h5⟩:=BC he;obtain⟨w,ew,rw'⟩:=r.get h2;have hl:=r.length;have hn:=sQ;have fin:EP X AC σ Q w s:=⟨z,H,I,rw',q⟩
 by_cases h0:0<=i
 .have hj:i.toNat=j:=by rw[seqIndex_of h0 h5]at h1;exact fh h1
  exact item_listR pl.isList h0 (by omega) (by rw[hj];simpa using ew) fin hs
 .have hj:(i+(BT.toArray.size:Int)).toNat=j:=by rw[seqIndex_neg (by omega) h4]at h1;rw[fc,<-hl];exact fh h1
  exact subscriptTail_builtinR (x:=w) pl.isList.typeIs slot_list_getitem.lookup
   (wpAny_getItem_list_neg (Q:=λr s'=>r=w/\EP X AC σ Q r s') pl.isList (by omega) (by rw[fc] <;> omega) (by omega) (by rw[hj];simpa using ew) ⟨Z,fin⟩) hs
theorem M7:uU X (PU X.K):=by
 intro value slice AC s σ H x y v u Q I rx ry h hs;obtain⟨p,xs,i,z,rfl,rfl,hq,he,q⟩:=h;cases rx;obtain⟨t,rfl⟩:=ry;obtain⟨BT,r,pl,hz⟩:=I.tuple hq;obtain⟨j,h1,h2,h3,h4,h5⟩:=BC he;obtain⟨w,ew,rw'⟩:=r.get h2;have hl:=r.length;have hn:=sQ;have fin:EP X AC σ Q w s:=⟨z,H,I,rw',q⟩
 exact subscriptTail_builtinR (x:=w) pl.typeIs slot_tuple_getitem.lookup
  (getItem_tuple (j:=j) (Q:=λr s'=>r=w/\EP X AC σ Q r s') pl (by omega) (by omega) (by rw[fc,<-hl];exact h1) (by simpa using ew) ⟨Z,fin⟩) hs
theorem M_:uU X VD:=by
 intro value slice AC s σ H x y v u Q I rx ry h hs;obtain⟨z,i,c,rfl,rfl,hz,he,q⟩:=h;obtain⟨t,rfl⟩:=rx;obtain⟨t',rfl⟩:=ry;obtain⟨j,h1,h2,h3,h4,h5⟩:=BC he;have hl:z.cps.toList.length=z.length:=by simp[Str.length]
 rw[hl]at h1 h4 h5;have hn:=sQ;exact tail_any (typeIs_str s z t) slot_str_getitem.lookup (getItem_str (c:=c) (by have e1:decide (i < -(2 ^ 63:Int))=false:=ee (by omega);have e2:decide (i≥2 ^ 63)=false:=ee (by omega);rw[e1,e2,Bool.or_false]) (by rw[h1];simpa using h2) ⟨.str ⟨#[c]⟩,H,I.tok _,⟨_,Z⟩,q⟩) hs
def VE(K:Fg):R2:=λx y H Q=>PR K x y H Q\/PU K x y H Q\/VD x y H Q
def VF:uU X (VE X.K):=JL.or (M7.or M_)
def Ly(BT:Cl Value)(n j:Nat)(u:Value):Obj.mapSeq (·.setIfInBounds j u) { cls:=.type "list",data:=.seq BT.toArray n }={ cls:=.type "list",data:=.seq (BT.set j u).toArray n }:=by simp[Obj.mapSeq]
theorem Inv.lst{AC:AO}{σ:St}{H:Hp}{s:Shared}{p:Addr}{xs:Cl V}(I:Inv X AC σ H s)(h:H p=some (.lst xs)):∃(BT:Cl Value)(n:Nat),Vals xs BT/\s.heap.get? p=some { cls:=.type "list",data:=.seq BT.toArray n }/\xs.length<=sizeLine:=by obtain⟨z,BT,n,r,e⟩:=I.hok p _ h;exact⟨BT,n,r,e,z⟩
def Inv.VG{s:Shared}{p:Addr}{ys:Cl V}{n':Nat}{f:Obj->Obj}(I:Inv X AC σ H s)(h:H p=some (.lst xs))(ho:s.heap.get? p=some { cls:=.type "list",data:=.seq BT.toArray n })(hf:f { cls:=.type "list",data:=.seq BT.toArray n }={ cls:=.type "list",data:=.seq its'.toArray n' })(r:Vals ys its')(hz:ys.length<=sizeLine)(t:Nat):
  Inv X AC σ (upd H p (.lst ys)) { s with heap:=s.heap.update p f,toks:=t }:=by
 have e:(s.heap.update p f).get? p=some { cls:=.type "list",data:=.seq its'.toArray n' }:=by rw[K2 f ho (by rw[hf] <;> rfl),hf]
 refine I.write (x:=p) (e:=p) (by rw[h];trivial) (.inl rfl) (λb u hb q=>(Heap.get?_update_other _ _ (cW hb)).trans q) ⟨_,e⟩ ?_
 exact⟨hz,its',n',r,e⟩
inductive YN(o:V)(i:V)(v:V)(H:Hp)(Q:Hp->Prop):Prop
 |mk(p xs k j:_)(_:o =.ref p)(_:i =.int k)(_:H p=some (.lst xs))(_:xW xs.length k=some j)(_:Q (upd H p (.lst (xs.set j v))))
theorem set_list:U8 X YN:=by
 intro AC s σ H o i v ov iv u Q I ro ri rv h;obtain⟨p,xs,k,j,rfl,rfl,hp,hj,q⟩:=h;cases ro;obtain⟨t,rfl⟩:=ri;obtain⟨BT,n,r,ho,hz⟩:=I.lst hp;obtain⟨h1,h2,h3,h4⟩:=JK hj;have hl:=r.length;have hn:=sQ;have I':Inv X AC σ (upd H p (.lst (xs.set j v))) { s with heap:=s.heap.update p (Obj.mapSeq (·.setIfInBounds j u)) }:=
  I.VG hp ho (Ly BT n j u) (r.set rv j) (by rw[jI];exact hz) s.toks
 by_cases h0:0<=k
 .have hk:k.toNat=j:=by rw[seqIndex_of h0 h4]at h1;exact fh h1
  exact PySem.W.ki_setAt ho h0 (by omega) (by rw[fc,<-hl];exact h4) (by rw[hk];exact⟨_,I',q⟩)
 .have hk:(k+(BT.toArray.size:Int)).toNat=j:=by rw[seqIndex_neg (by omega) h3]at h1;rw[fc,<-hl];exact fh h1
  exact PySem.W.ki_setBack ho (by omega) (by rw[fc,<-hl];exact h3) (by omega) (by rw[hk];exact⟨_,I',q⟩)
def pX:V->Bool
 | .b8=>true
 | .bl _=>true
 | .int _=>true
 | .str _=>true
 | _=>false
def uV:V->V->Bool
 | .b8,.b8=>true
 | .bl a,.bl b=>a==b
 | .bl a,.int b=>(if a then 1 else 0)==b
 | .int a,.bl b=>a==(if b then 1 else 0)
 | .int a,.int b=>a==b
 | .str a,.str b=>a==b
 | _,_=>false
def VH{s:Shared}{x:V}{v:Value}(ry:RelV y u)(rx:RelV x v)(fy:pX y=true)(fx:pX x=true):SeqAt.EqAt A s u v (uV y x):=by
 cases y with
 | b8=>
  cases ry;cases x with
  | b8=>cases rx;exact SeqAt.EqAt.same _
  | bl b=>cases rx;exact SeqAt.EqAt.none_bool b
  | int b=>obtain⟨t,rfl⟩:=rx;exact SeqAt.EqAt.none_int b t
  | str b=>obtain⟨t,rfl⟩:=rx;exact SeqAt.EqAt.none_str b t
  | _=>exact absurd (show false=true from fx) d7
 | bl a=>
  cases ry;cases x with
  | b8=>cases rx;exact SeqAt.EqAt.bool_none a
  | bl b=>cases rx;exact SeqAt.EqAt.bool_bool a b
  | int b=>obtain⟨t,rfl⟩:=rx;exact SeqAt.EqAt.bool_int a b t
  | str b=>obtain⟨t,rfl⟩:=rx;exact SeqAt.EqAt.bool_str a b t
  | _=>exact absurd (show false=true from fx) d7
 | int a=>
  obtain⟨t',rfl⟩:=ry;cases x with
  | b8=>cases rx;exact SeqAt.EqAt.int_none a t'
  | bl b=>cases rx;exact SeqAt.EqAt.int_bool a t' b
  | int b=>obtain⟨t,rfl⟩:=rx;exact SeqAt.EqAt.int_int a t' b t
  | str b=>obtain⟨t,rfl⟩:=rx;exact SeqAt.EqAt.int_str a t' b t
  | _=>exact absurd (show false=true from fx) d7
 | str a=>
  obtain⟨t',rfl⟩:=ry;cases x with
  | b8=>cases rx;exact SeqAt.EqAt.str_none a t'
  | bl b=>cases rx;exact SeqAt.EqAt.str_bool a t' b
  | int b=>obtain⟨t,rfl⟩:=rx;exact SeqAt.EqAt.str_int a t' b t
  | str b=>obtain⟨t,rfl⟩:=rx;exact SeqAt.EqAt.str_str a t' b t
  | _=>exact absurd (show false=true from fx) d7
 | _=>exact absurd (show false=true from fy) d7
def zT(x:V)(u:Value):Bool:=match u with
 | .none=>uV .b8 x
 | .bool b=>uV (.bl b) x
 | .int i _=>uV (.int i) x
 | .str z _=>uV (.str z) x
 | _=>false
def Na{x:V}(r:RelV y u)(f:pX y=true):zT x u=uV y x:=by
 cases y with
 | b8=>cases r;rfl
 | bl b=>cases r;rfl
 | int i=>obtain⟨t,rfl⟩:=r;rfl
 | str z=>obtain⟨t,rfl⟩:=r;rfl
 | _=>exact absurd (show false=true from f) d7
theorem BD{x:V}:∀{xs:Cl V}{us:Cl Value},Vals xs us->xs.all pX=true->us.any (zT x)=xs.any λy=>uV y x
 | _,_,.nil,_=>rfl
 | y::xs,u::us,.cons r t,f=>by rw[List.all_cons,ES]at f;rw[zA,zA,Na r f.1,BD t f.2]
theorem yx{A:Around}{s:Shared}{x:V}{v:Value}(rx:RelV x v)(fx:pX x=true):∀{xs:Cl V}{us:Cl Value},Vals xs us->xs.all pX=true->∀u∈us,SeqAt.EqAt A s u v (zT x u)
 | _,_,.nil,_=>λu hu=>by cases hu
 | y::xs,u::us,.cons r t,f=>λu' hu=>by
  rw[List.all_cons,ES]at f;rcases cV.mp hu with rfl|hu
  .rw [Na r f.1];exact VH r rx f.1 fx
  .exact yx rx fx t f.2 u' hu
def JM(x:V)(xs:Cl V):Bool:=xs.any λy=>uV y x
inductive rIn(K:Fg)(neg:Bool)(x:V)(y:V)(H:Hp)(Q:VK):Prop
 |mk(p xs:_)(_:y =.ref p)(_:(aI K H p xs\/bR K H p xs))(_:pX x=true)(_:xs.all pX=true)(_:Q (.bl (if neg then !JM x xs else JM x xs)) H)
def Nb:gq X (compareOp .In) (rIn X.K false):=by
 intro AC s σ H x y v u Q I rx ry h;obtain⟨p,xs,rfl,hq,fx,fs,q⟩:=h;cases ry;rcases hq with hq|hq
 .obtain ⟨BT,r,pl,hz⟩:=I.list hq;refine SeqAt.in_listAt (zT x) pl.isList (λw hw=>yx rx fx r fs w (by simpa using hw)) ⟨.bl _,H,I,Z,?_⟩;rw[show BT.toArray.any (zT x)=BT.any (zT x) by simp,BD r fs];exact q
 .obtain ⟨BT,r,pl,hz⟩:=I.tuple hq;refine SeqAt.in_tupleAt (zT x) pl (λw hw=>yx rx fx r fs w (by simpa using hw)) ⟨.bl _,H,I,Z,?_⟩;rw[show BT.toArray.any (zT x)=BT.any (zT x) by simp,BD r fs];exact q
theorem E7:fJ X (.builtin "len") (λxs H Q=>∃p ys,xs=[.ref p]/\(aI X.K H p ys\/bR X.K H p ys)/\Q (.int ys.length) H):=by
 intro AC s σ H xs us Q I r h;obtain⟨p,ys,rfl,hq,q⟩:=h;obtain⟨u,rfl,rx⟩:=vals1 r;cases rx;have hn:=sQ;rcases hq with hq|hq
 .obtain ⟨BT,r',pl,hz⟩:=I.list hq;have hlen:=r'.length;exact Calls.call_len_list pl.isList (by simp only[fc] <;> omega) ⟨.int ys.length,H,I.tok _,⟨s.toks+1,by rw[fc,hlen]⟩,q⟩
 .obtain ⟨BT,r',pl,hz⟩:=I.tuple hq;have hlen:=r'.length;exact len_tuple pl (by simp only[fc] <;> omega) ⟨.int ys.length,H,I.tok _,⟨s.toks+1,by rw[fc,hlen]⟩,q⟩
theorem E8:fJ X (.builtin "len") (λxs H Q=>∃z,xs=[.str z]/\z.length<=sizeLine/\Q (.int z.length) H):=by intro AC s σ H xs us Q I r h;obtain⟨z,rfl,hz,q⟩:=h;obtain⟨u,rfl,t,rfl⟩:=vals1 r;have hn:=sQ;exact len_str (by omega) ⟨.int z.length,H,I.tok _,⟨_,Z⟩,q⟩
theorem E9:fJ X (.type "list") (λxs H Q=>∃p ys,xs=[.ref p]/\(aI X.K H p ys\/bR X.K H p ys)/\∀l,H l=none->Q (.ref l) (upd H l (.lst ys))):=by
 intro AC s σ H xs us Q I r h;obtain⟨p,ys,rfl,hq,q⟩:=h;obtain⟨u,rfl,rx⟩:=vals1 r;cases rx;have fin:∀(BT:Cl Value),Vals ys BT->ys.length<=sizeLine->∀(h':Heap)(c':Nat),(∀b o',s.heap.get? b=some o'->h'.get? b=some o')->
   h'.get? s.heap.objs.size=some { cls:=.type "list",dict:=none,data:=.seq BT.toArray c',slots:=#[] }->EP X AC σ Q (.ref s.heap.objs.size) { s with heap:=h' }:=λBT r' hz h' c' kp e=>
  ⟨.ref s.heap.objs.size,_,I.laid (t':=s.toks) kp (aO _) (show c5 X.prog X.w _ h' _ (.lst ys)from⟨hz,BT,c',r',e⟩),Z,q _ (I.hok.fresh (aO _))⟩
 rcases hq with hq|hq
 .obtain ⟨BT,r',pl,hz⟩:=I.list hq;have hlen:=r'.length;obtain⟨o,ho,hc,n,hd⟩:=pl.isList;exact call_list_seq p (.inl rfl) ho hc hd (λh' c' kp e=>fin BT r' hz h' c' kp e) (by simp only[fc] <;> omega)
 .obtain ⟨BT,r',pl,hz⟩:=I.tuple hq;have hlen:=r'.length;obtain⟨o,ho,hc,n,hd⟩:=pl;exact call_list_seq p (.inr rfl) ho hc hd (λh' c' kp e=>fin BT r' hz h' c' kp e) (by simp only[fc] <;> omega)
theorem DC:fJ X (.type "tuple") (λxs H Q=>∃p ys,xs=[.ref p]/\((aI X.K H p ys/\∀l,H l=none->Q (.ref l) (upd H l (.tup ys)))\/(bR X.K H p ys/\Q (.ref p) H))):=by
 intro AC s σ H xs us Q I r h;obtain⟨p,ys,rfl,h⟩:=h;obtain⟨u,rfl,rx⟩:=vals1 r;cases rx;rcases h with⟨hq,q⟩|⟨hq,q⟩
 .obtain ⟨BT,r',pl,hz⟩:=I.list hq;have hlen:=r'.length;refine call_tuple_list pl.isList (λh' kp=>?_) (by simp only[fc] <;> omega);have I1:Inv X AC σ H { s with heap:=h' }:=I.kept (t':=s.toks) kp;have I2:Inv X AC σ (upd H h'.objs.size (.tup ys)) { s with heap:=h'.push { cls:=.type "tuple",data:=.seq BT.toArray } }:=
   I1.laid (t':=s.toks) (λb o e=>bQ _ e) (aO _) (show c5 X.prog X.w _ _ _ (.tup ys)from⟨hz,BT,r',IsTup.new _ _⟩)
  exact⟨.ref h'.objs.size,_,I2,Z,q _ (I1.hok.fresh (aO _))⟩
 .obtain ⟨BT,r',pl,hz⟩:=I.tuple hq;exact call_tuple_same pl ⟨.ref p,H,I,Z,q⟩
def ZU(K:Fg)(T:String)(x:V)(H:Hp):Prop:=match x with
 | .str _=>T = "str"
 | .int _=>T = "int"
 | .ref p=>(T = "list"/\∃xs,aI K H p xs)\/(T = "tuple"/\∃o,K.lookup p=some o/\o.cls =.type "tuple"/\o.dict=none)\/
     (T = "dict"/\((∃AT,H p=some (.dK AT))\/∃AT,H p=some (.dT AT)))\/(T = "set"/\∃S n,H p=some (.set S n))
 | _=>False
def VI{s:Shared}{T:String}{x:V}{v:Value}(I:Inv X AC σ H s)(r:RelV x v)(ty:ZU X.K T x H):s.TypeIs v T/\∀a,v =.ref a->∃ob,s.heap.get? a=some ob/\ob.dict=none:=by
 cases x with
 | str z=>obtain⟨t,rfl⟩:=r;cases(show T = "str" from ty);exact⟨typeIs_str s z t,λ_ e=>nomatch e⟩
 | int i=>obtain⟨t,rfl⟩:=r;cases(show T = "int" from ty);exact⟨typeIs_int s i t,λ_ e=>nomatch e⟩
 | ref p=>
  cases r;rcases ty with⟨rfl,xs,hq⟩|⟨rfl,o,hk,hc,hd⟩|⟨rfl,hk⟩|⟨rfl,S,n,hk⟩
  .obtain ⟨BT,_,pl,_⟩:=I.list hq;refine⟨pl.isList.typeIs,λa e=>?_⟩;cases e;obtain⟨o,n,e,c,hd,_⟩:=pl;exact⟨o,e,hd⟩
  .refine ⟨⟨o,I.iH p o hk,hc⟩,λa e=>?_⟩;cases e;exact⟨o,I.iH _ o hk,hd⟩
  .have z:∃o,s.heap.get? p=some o/\o.ExactDict:=by
    rcases hk with⟨AT,hk⟩|⟨AT,hk⟩
    .obtain ⟨_,_,_,_,o,_,_,e,ex,_⟩:=I.hok p _ hk;exact⟨o,e,ex⟩
    .obtain ⟨_,_,_,_,o,_,_,e,ex,_⟩:=I.hok p _ hk;exact⟨o,e,ex⟩
   obtain⟨o,e,ex⟩:=z;refine⟨⟨o,e,ex.1⟩,λa e2=>?_⟩;cases e2;exact⟨o,e,ex.2.1⟩
  .obtain ⟨o,_,_,_,e,ex,_⟩:=I.hok p _ hk;refine⟨⟨o,e,ex.1⟩,λa e2=>?_⟩;cases e2;exact⟨o,e,ex.2.1⟩
 | _=>exact False.elim ty
def VJ(r:V->Cl V->Hp->VK->Prop)(Q:VK)(x:V):Cl V->Hp->Prop:=λxs H2=>r x xs H2 Q
inductive abv(K:Fg)(T:String)(r:V->Cl V->Hp->VK->Prop)(t:TA)(σ:St)(Q:VK)(x:V)(H1:Hp):Prop
 |mk(_:ZU K T x H1)(_:t σ H1 (VJ r Q x))
def tBM(K:Fg)(T:String)(r:V->Cl V->Hp->VK->Prop)(to:TE)(t:TA):TE:=λσ H Q=>to σ H (abv K T r t σ Q)
variable {o e:Expr}{es:Cl Expr}{to:TE}{t:TA}{name:Str}{Bz cpos:Pos}{T id:String}{r:V->Cl V->Hp->VK->Prop}
end
def MtM(X:Cx)(id:String)(r:V->Cl V->Hp->VK->Prop):Prop:=∀(AC:AO)(s:Shared)(σ:St)(H:Hp)(x:V)(xs:Cl V)(v:Value)(us:Cl Value)(Q:VK),Inv X AC σ H s->RelV x v->Vals xs us->r x xs H Q->wpAny (model X.prog X.w) X.A (call (.builtin id) (v::us)) (EP X AC σ Q) X.xe s
theorem Vals.one:∀{x:V}{us:Cl Value},Vals [x] us->∃u,us=[u]/\RelV x u
 | _,_,.cons r .nil=>⟨_,Z,r⟩
theorem Vals.reverse(h:Vals xs us):Vals xs.reverse us.reverse:=by
 induction h with
 | nil=>exact .nil
 | cons r t ih=>rw[List.reverse_cons,List.reverse_cons];exact Vals.append ih (.cons r .nil)
theorem Vals.rep{xs:Cl V}{us:Cl Value}(h:Vals xs us):∀k:Nat,Vals (List.replicate k xs).flatten (List.replicate k us).flatten
 | 0=> .nil
 | k+1=>by rw[u5,u5,Lc,Lc];exact Vals.append h (Vals.rep h k)
theorem foldl_rep(BT:Cl Value):∀(k:Nat)(Ap:Cl Value),List.foldl (λx1 x2=>x1++x2) Ap.toArray (List.replicate k BT.toArray)=(Ap++(List.replicate k BT).flatten).toArray
 | 0,Ap=>by simp
 | k+1,Ap=>by
  have e:Ap.toArray++BT.toArray=(Ap++BT).toArray:=by simp
  have e2:(Ap++BT)++(List.replicate k BT).flatten=Ap++(List.replicate (k+1) BT).flatten:=by rw[u5,Lc,ER]
  rw[<-e2,<-foldl_rep BT k (Ap++BT),<-e,u5,j8]
variable {t':Nat}
section
variable {X:Cx}{AC:AO}{σ:St}{H:Hp}{s:Shared}{l b:Addr}{xs ys zs:Cl V}
def Inv.abw{f:Array Value->Array Value}(I:Inv X AC σ H s)(hH:H l=some (.lst xs))(e:s.heap.get? l=some { cls:=.type "list",data:=.seq BT.toArray n })(hf:f BT.toArray=its'.toArray)(hv:Vals ys its')(hz:ys.length<=sizeLine):
  Inv X AC σ (upd H l (.lst ys)) { s with heap:=s.heap.update l (Obj.mapSeq f),toks:=t' }:=by
 have q:=PySem.IsL.update e f
 rw[hf]at q
 refine I.write (x:=l) (e:=l) (by rw[hH];exact trivial) (.inl rfl) (λb' u hb hu=>(Heap.get?_update_other s.heap (Obj.mapSeq f) (cW hb)).trans hu) ⟨_,q⟩ ?_
 exact⟨hz,its',_,hv,q⟩
def Inv.VL(I:Inv X AC σ H s)(hv:Vals ys BT)(hz:ys.length<=sizeLine):Inv X AC σ (upd H s.heap.objs.size (.lst ys)) { s with heap:=s.heap.push { cls:=.type "list",data:=.seq BT.toArray },toks:=t' }:=I.laid (λ_ _ q=>bQ _ q) (aO _) ⟨hz,BT,0,hv,c_ _ rfl⟩
theorem Inv.fresh(I:Inv X AC σ H s):H s.heap.objs.size=none:=I.hok.fresh (aO _)
def Inv.Lz(I:Inv X AC σ H s)(hH:H l=some (.lst xs)):xs.length<=sizeLine/\∃(BT:Cl Value)(n:Nat),Vals xs BT/\xs.length=BT.length/\s.heap.get? l=some { cls:=.type "list",data:=.seq BT.toArray n }:=by obtain⟨z,BT,n,r,e⟩:=I.hok l _ hH;exact⟨z,BT,n,r,r.length,e⟩
theorem PV(h:n<=sizeLine):Builtin.List.listTooLong n=false:=by unfold Builtin.List.listTooLong;exact ee (by omega)
end
section
variable {X:Cx}
inductive Td(x:V)(vs:Cl V)(H:Hp)(Q:VK):Prop
 |mk(l xs y:_)(_:x =.ref l)(_:vs=[y])(_:H l=some (.lst xs))(_:xs.length<sizeLine)(_:Q .b8 (upd H l (.lst (xs++[y]))))
theorem gF:MtM X "list.append" Td:=by intro AC s σ H x vs v us Q I rx rv h;obtain⟨l,xs,y,rfl,rfl,hH,hz,q⟩:=h;cases rx;obtain⟨u,rfl,ru⟩:=rv.one;obtain⟨z,BT,n,r,hl,e⟩:=I.Lz hH;refine wM F.slot_list_append ⟨_,e,Z⟩ F.entry_list_append (F.args_list_append_2 _ _) (PySem.list_append l BT.toArray n u (by rw[fc];omega)) ⟨e,?_⟩;refine⟨.b8,_,I.abw (its':=BT++[u]) hH e (by simp) (r.append (.cons ru .nil)) ?_,Z,q⟩;rw[cO,K3];omega
inductive abx(x:V)(y:V)(H:Hp)(Q:VK):Prop
 |mk(l b xs zs:_)(_:x =.ref l)(_:y =.ref b)(_:H l=some (.lst xs))(_:H b=some (.lst zs))(_:xs.length+zs.length<=sizeLine)(_:∀p,H p=none->Q (.ref p) (upd H p (.lst (xs++zs))))
theorem VM:gq X (binaryOp .Add) abx:=by
 intro AC s σ H x y v u Q I rx ry h;obtain⟨l,b,xs,zs,rfl,rfl,hH,hB,hz,q⟩:=h;cases rx;cases ry;obtain⟨z,BT,n,r,hl,e⟩:=I.Lz hH;obtain⟨z2,its2,n2,r2,hl2,e2⟩:=I.Lz hB;refine PySem.P.add_list e e2 ?_ (by rw[fc,fc];omega);have ea:BT.toArray++its2.toArray=(BT++its2).toArray:=by simp
 rw[ea];exact⟨.ref _,_,I.VL (t':=s.toks) (r.append r2) (by rw[cO];omega),Z,q _ I.fresh⟩
inductive aby(x:V)(y:V)(H:Hp)(Q:VK):Prop
 |mk(l k xs:_)(_:x =.ref l)(_:y =.int k)(_:H l=some (.lst xs))(_:-(2 ^ 63)<=k)(_:k<2 ^ 63)(_:xs.length*k.toNat<=sizeLine)(_:∀p,H p=none->Q (.ref p) (upd H p (.lst (List.replicate k.toNat xs).flatten)))
def len_rep{α:Type}(xs:Cl α)(k:Nat):(List.replicate k xs).flatten.length=k*xs.length:=by
 induction k with
 | zero=>simp
 | succ k ih=>rw[u5,Lc,cO,ih,Nat.succ_mul,Nat.add_comm]
theorem VN:gq X (binaryOp .Mult) aby:=by
 intro AC s σ H x y v u Q I rx ry h;obtain⟨l,k,xs,rfl,rfl,hH,h1,h2,hz,q⟩:=h;cases rx;obtain⟨t,rfl⟩:=ry;obtain⟨z,BT,n,r,hl,e⟩:=I.Lz hH;have hlen:BT.toArray.size*k.toNat<=sizeLine:=by rw[fc,<-hl];exact hz
 have hcap:¬ BT.toArray.size*k.toNat>(2 ^ 63-1) / 8:=by
  have:(sizeLine:Nat)<=(2 ^ 63-1) / 8:=by decide
  omega
 have hfit:¬ (!Builtin.List.listFitsIndex k)=true:=by rw[fitsIndex_both h1 h2];exact d7
 have YO:¬ Builtin.List.listTooLong (BT.toArray.size*k.toNat)=true:=by rw[PV hlen];exact d7
 have hnew:List.foldl (λx1 x2=>x1++x2) #[] (List.replicate (if BT.toArray.isEmpty=true then 0 else k.toNat) BT.toArray)=(List.replicate k.toNat BT).flatten.toArray:=by
  have f0:∀m:Nat,List.foldl (λx1 x2=>x1++x2) #[] (List.replicate m BT.toArray)=(List.replicate m BT).flatten.toArray:=λm=>by have:=foldl_rep BT m [];rw[List.nil_append]at this;exact this
  rw[f0];cases BT with
  | nil=>simp
  | cons a r'=>rw[aA (by simp)]
 refine wpAny_binaryOp_repeat_ref (T:="list") (U:="int") (by decide) ⟨_,e,Z⟩ (λs'=>typeIs_int s' k t) noFill_list_mul F.fills_int_mul En repeat_list F.slot_int_index.lookup
  (wM En (typeIs_int s k t) F.entry_int_rmul (F.args_int_rmul_2 _ _) (int___rmul___int_list k t l BT.toArray n)
    ⟨e,Z,⟨_,e,Z⟩,wM F.slot_list_mul ⟨_,e,Z⟩ F.entry_list_mul (F.args_list_mul_2 _ _) (AutoListH.list___mul___list_int_3 l BT.toArray n k t hfit hcap YO) ⟨e,?_⟩⟩)
 rw[hnew];exact⟨.ref _,_,I.VL (t':=s.toks) (r.rep k.toNat) (by rw[len_rep,Nat.mul_comm];exact hz),Z,q _ I.fresh⟩
end
section
variable {prog:Program}{w:World}{A:Around}{E:VS}{s:Shared}
set_option maxRecDepth 100000 in
end
section
variable {X:Cx}
end
section
variable {κ:Type}[DecidableEq κ]
def cJ(AT:Cl (κ×V))(k:κ):Option V:=(AT.find? λkv=>decide (kv.1=k)).map (·.2)
def putK(AT:Cl (κ×V))(k:κ)(v:V):Cl (κ×V):=if(AT.any λkv=>decide (kv.1=k))=true then AT.map (λkv=>if kv.1=k then(kv.1,v) else kv) else AT++[(k,v)]
def kX(AT:Cl (κ×V))(k:κ):Cl (κ×V):=AT.filter λkv=>decide (kv.1≠k)
def eV{p:κ×V}{r:Cl (κ×V)}{k:κ}(e:p.1=k):cJ (p::r) k=some p.2:=by simp[cJ,qX,e]
def dh{p:κ×V}{r:Cl (κ×V)}{k:κ}(e:¬ p.1=k):cJ (p::r) k=cJ r k:=by simp[cJ,qX,e]
theorem nO(k:κ):∀AT:Cl (κ×V),(AT.any λkv=>decide (kv.1=k))=(cJ AT k).isSome
 | []=>rfl
 | p::r=>by
  rw[zA];by_cases e:p.1=k
  .simp only[eV e,cI e,Bool.true_or,Option.isSome_some]
  .rw [dh e,ee e,Bool.false_or];exact nO k r
theorem E_(k j:κ)(y:V):∀AT:Cl (κ×V),cJ (AT.map λkv=>if kv.1=k then(kv.1,y) else kv) j=(cJ AT j).map λx=>if j=k then y else x
 | []=>rfl
 | p::r=>by
  have ih:=E_ k j y r;rw[br];by_cases h:p.1=k
  .rw [aB h];by_cases e:p.1=j
   .rw [eV (p:=(p.1,y)) e,eV e,zu,aB (e.symm.trans h)]
   .rw [dh (p:=(p.1,y)) e,dh e,ih]
  .rw [aA h];by_cases e:p.1=j
   .rw [eV (p:=p) e,eV e,zu,aA (λz=>h (e.trans z))]
   .rw [dh (p:=p) e,dh e,ih]
theorem CI(k j:κ)(y:V):∀AT:Cl (κ×V),cJ AT k=none->cJ (AT++[(k,y)]) j=if j=k then some y else cJ AT j
 | [],_=>by
  by_cases e:k=j
  .rw [aB e.symm];exact eV (p:=(k,y)) e
  .rw [aA (λz=>e z.symm)];exact dh (p:=(k,y)) e
 | p::r,hn=>by
  rw[List.cons_append];have hk:¬ p.1=k:=λz=>by rw[eV z]at hn;cases hn
  rw[dh hk]at hn;have ih:=CI k j y r hn;by_cases e:p.1=j
  .rw [eV e,eV e,aA (λz=>hk (e.trans z))]
  .rw [dh e,dh e,ih]
def PX(AT:Cl (κ×V))(k j:κ)(y:V):cJ (putK AT k y) j=if j=k then some y else cJ AT j:=by
 unfold putK;by_cases a:(AT.any λkv=>decide (kv.1=k))=true
 .rw [aB a,E_];rw[nO]at a;by_cases e:j=k
  .obtain ⟨x,hx⟩:=Option.isSome_iff_exists.mp a;rw[aB e,e,hx,zu,aB rfl]
  .rw [aA e];cases cJ AT j with
   | none=>rfl
   | some x=>rw[zu,aA e]
 .rw [aA a];refine CI k j y AT ?_;rw[nO]at a;cases q:cJ AT k with
  | none=>rfl
  | some x=>rw[q]at a;exact(a rfl).elim
theorem xX(AT:Cl (κ×V))(k:κ)(v:V):(putK AT k v).length<=AT.length+1:=by
 unfold putK;split
 .rw [aH];omega
 .rw [cO,kC,List.length_nil];omega
def lG{AT:Cl (κ×V)}{k:κ}(v:V)(h:cJ AT k=none):putK AT k v=AT++[(k,v)] :=by unfold putK;rw[nO,h];exact aA (by decide)
def jO.jQ{o:Option V}{u:Option Value}(r:jO o u):o.isSome=u.isSome:=by
 cases o with
 | none=>cases u with
   | none=>rfl
   | some _=>exact(show False from r).elim
 | some _=>cases u with
   | none=>exact(show False from r).elim
   | some _=>rfl
def KV.val{AT:Cl (κ×V)}{vs:Cl (κ×Value)}(r:KV AT vs)(k:κ):jO (cJ AT k) (valueAt vs k):=by
 unfold KV at r
 induction r with
 | nil=>exact True.intro
 | @cons p q ps qs h t ih=>
  obtain⟨h1,h2⟩:=h;by_cases e:p.1=k
  .have e':q.1=k:=h1.symm.trans e;have b:valueAt (q::qs) k=some q.2:=by simp[valueAt,qX,e']
   rw[eV e,b];exact h2
  .have e':¬ q.1=k:=λz=>e (h1.trans z);have b:valueAt (q::qs) k=valueAt qs k:=by simp[valueAt,qX,e']
   rw[dh e,b];exact ih
theorem KV.any{AT:Cl (κ×V)}{vs:Cl (κ×Value)}(r:KV AT vs)(k:κ):(AT.any λkv=>decide (kv.1=k))=vs.any λkv=>decide (kv.1=k):=by
 unfold KV at r
 induction r with
 | nil=>rfl
 | cons h t ih=>rw[zA,zA,ih,h.1]
def KV.repl{AT:Cl (κ×V)}{vs:Cl (κ×Value)}(r:KV AT vs)(k:κ)(ry:RelV y u):KV (AT.map λkv=>if kv.1=k then(kv.1,y) else kv) (vs.map λkv=>if kv.1=k then(kv.1,u) else kv):=by
 unfold KV at r ⊢
 induction r with
 | nil=>exact .nil
 | @cons p q ps qs h t ih=>
  rw[br,br];refine .cons ?_ ih;obtain⟨h1,h2⟩:=h;by_cases e:p.1=k
  .rw [aB e,aB (h1.symm.trans e)];exact⟨h1,ry⟩
  .rw [aA e,aA (λz=>e (h1.trans z))];exact⟨h1,h2⟩
def KV.put{AT:Cl (κ×V)}{vs:Cl (κ×Value)}(r:KV AT vs)(k:κ)(ry:RelV y u):KV (putK AT k y) (stored vs k u):=by
 unfold putK stored;rw[r.any k];by_cases e:(vs.any λkv=>decide (kv.1=k))=true
 .rw [aB e,aB e];exact r.repl k ry
 .rw [aA e,aA e];exact Paired.snoc r ⟨Z,ry⟩
def KV.drop{AT:Cl (κ×V)}{vs:Cl (κ×Value)}(r:KV AT vs)(k:κ):KV (kX AT k) (without vs k):=by
 unfold KV at r ⊢;unfold kX without
 induction r with
 | nil=>exact .nil
 | @cons p q ps qs h t ih=>
  obtain⟨h1,h2⟩:=h;rw[lF,lF];by_cases e:p.1=k
  .have a:¬ decide (p.1≠k)=true:=by simp[e]
   have b:¬ decide (q.1≠k)=true:=by simp[h1.symm.trans e]
   rw[aA a,aA b];exact ih
  .have e':¬ q.1=k:=λz=>e (h1.trans z);have a:decide (p.1≠k)=true:=by simp[e]
   have b:decide (q.1≠k)=true:=by simp[e']
   rw[aB a,aB b];exact .cons ⟨h1,h2⟩ ih
theorem KV.length{AT:Cl (κ×V)}{vs:Cl (κ×Value)}(r:KV AT vs):AT.length=vs.length:=Paired.length r
def PY(AT:Cl (κ×V))(k:κ):(kX AT k).length<=AT.length:=List.length_filter_le _ _
end
variable {P:Program}{w:World}
def rD{k:Key}(r:RelV (kV k) u):(bZ P w).is k u=true:=by
 cases k with
 | inl i=>obtain⟨t,e⟩:=(show ∃t,u=Value.int i t from r);subst e;exact Iu P w i t
 | inr x=>obtain⟨t,e⟩:=(show ∃t,u=Value.str x t from r);subst e;exact xQ P w x t
theorem CJ{P:Program}{w:World}:∀{ks:Cl Key}{us:Cl Value},Vals (ks.map kV) us->ItemsAre (bZ P w) ks us
 | [],_,r=>by rw[List.map_nil]at r;cases r;exact .nil
 | k::ks,_,r=>by
  rw[br]at r;cases r with
  | cons h t=>exact .cons (rD h) (CJ t)
abbrev KT(H:Hp):Cl (Cl Key×V)->Cl (Cl Key×Addr×Value)->Prop:=Paired λp q=>p.1=q.1/\H q.2.1=some (.tup (p.1.map kV))/\RelV p.2 q.2.2
def KT.val{AT:Cl (Cl Key×V)}{xs:Cl (Cl Key×Addr×Value)}(r:KT H AT xs)(k:Cl Key):jO (cJ AT k) ((atKey xs k).map (·.2)):=by
 induction r with
 | nil=>exact True.intro
 | @cons p q ps qs h t ih=>
  obtain⟨h1,_,h2⟩:=h;by_cases e:p.1=k
  .have e':q.1=k:=h1.symm.trans e;have b:atKey (q::qs) k=some q.2:=by simp[atKey,qX,e']
   rw[eV e,b];exact h2
  .have e':¬ q.1=k:=λz=>e (h1.trans z);have b:atKey (q::qs) k=atKey qs k:=by simp[atKey,qX,e']
   rw[dh e,b];exact ih
def KT.repl{AT:Cl (Cl Key×V)}{xs:Cl (Cl Key×Addr×Value)}(r:KT H AT xs)(k:Cl Key)(ry:RelV y u):KT H (AT.map λkv=>if kv.1=k then(kv.1,y) else kv) (xs.map (putAt k u)):=by
 induction r with
 | nil=>exact .nil
 | @cons p q ps qs h t ih=>
  rw[br,br];refine .cons ?_ ih;obtain⟨h1,h2,h3⟩:=h;unfold putAt;by_cases e:p.1=k
  .rw [aB e,aB (h1.symm.trans e)];exact⟨h1,h2,ry⟩
  .rw [aA e,aA (λz=>e (h1.trans z))];exact⟨h1,h2,h3⟩
variable {b:Addr}
def KT.put{AT:Cl (Cl Key×V)}{xs:Cl (Cl Key×Addr×Value)}(r:KT H AT xs)(k:Cl Key)(hb:H b=some (.tup (k.map kV)))(ry:RelV y u):KT H (putK AT k y) (storedH xs k b u):=by
 have e:(AT.any λkv=>decide (kv.1=k))=(atKey xs k).isSome:=by rw[nO,(r.val k).jQ,Option.isSome_map]
 unfold putK storedH;rw[e];by_cases q:(atKey xs k).isSome=true
 .rw [aB q,aB q];exact r.repl k ry
 .rw [aA q,aA q];exact Paired.snoc r ⟨Z,hb,ry⟩
variable {H':Hp}
def KT.keeps{AT:Cl (Cl Key×V)}{xs:Cl (Cl Key×Addr×Value)}(r:KT H AT xs)(ht:∀b ys,H b=some (.tup ys)->H' b=some (.tup ys)):KT H' AT xs:=Paired.Pp r λ_ _ z=>⟨z.1,ht _ _ z.2.1,z.2.2⟩
variable {AT:Cl (Key×V)}
section
variable {P:Program}{w:World}{H:Hp}{h:Heap}{a:Addr}
def RN{u:HO}(ok:gK P w H h)(e:Rd H a u):c5 P w H h a u:=e.ok ok
def pY(ok:gK P w H h)(e:Rd H a (.dK AT)):AT.length<=sizeLine/\(a==sysModules)=false/\∃vs,KV AT vs/\h.DictOf (bZ P w) a vs:=
 show c5 P w H h a (.dK AT)from RN ok e
def EB(ok:gK P w H h)(e:H a=some (.dK AT)):AT.length<=sizeLine/\(a==sysModules)=false/\∃vs,KV AT vs/\h.DictOf (bZ P w) a vs:=pY ok (.inl e)
def vd{ks:Cl Key}(ok:gK P w H h)(e:H a=some (.tup (ks.map kV))):(tupleKind (bZ P w)).is h ks a:=by
 obtain⟨_,BT,r,o,h1,h2,n,h3⟩:=(show c5 P w H h a (.tup (ks.map kV))from ok a _ e)
 exact⟨o,BT.toArray,n,h1,h2,h3,by simpa using CJ r⟩
def wR{AT:Cl (Cl Key×V)}(ok:gK P w H h)(e:Rd H a (.dT AT)):AT.length<=sizeLine/\(a==sysModules)=false/\∃xs,KT H AT xs/\h.DictOfH (tupleKind (bZ P w)) a xs:=by
 obtain⟨z,y,xs,r,o,es,ep,h1,h2,h3,h4,h5⟩:=(show c5 P w H h a (.dT AT)from RN ok e)
 refine⟨z,y,xs,r,o,es,ep,h1,h2,h3,h4,λx hx=>?_,h5⟩;have all:∀{l:Cl (Cl Key×V)}{m:Cl (Cl Key×Addr×Value)},KT H l m->∀x∈m,(tupleKind (bZ P w)).is h x.1 x.2.1:=by
  intro l m q
  induction q with
  | nil=>intro x hx;exact nomatch hx
  | @cons p q ps qs hq t ih=>
   intro x hx;rcases cV.mp hx with e|hx
   .subst e;exact vd ok (by rw[<-hq.1];exact hq.2.1)
   .exact ih x hx
 exact all r x hx
def YQ{AT:Cl (Cl Key×V)}(ok:gK P w H h)(e:H a=some (.dT AT)):AT.length<=sizeLine/\(a==sysModules)=false/\∃xs,KT H AT xs/\h.DictOfH (tupleKind (bZ P w)) a xs:=wR ok (.inl e)
end
def iU(H:Hp)(a:Addr)(y:V)(r:Option V):Prop:=(∃AT k,Rd H a (.dK AT)/\y=kV k/\r=cJ AT k)\/∃AT k b,Rd H a (.dT AT)/\y =.ref b/\H b=some (.tup (k.map kV))/\r=cJ AT k
def um(H:Hp)(a:Addr)(y v:V)(H':Hp):Prop:=(∃AT k,H a=some (.dK AT)/\y=kV k/\AT.length<sizeLine/\H'=upd H a (.dK (putK AT k v)))\/
 ∃AT k b,H a=some (.dT AT)/\y =.ref b/\H b=some (.tup (k.map kV))/\AT.length<sizeLine/\H'=upd H a (.dT (putK AT k v))
variable {a:Addr}
theorem iU.k{k:Key}(e:H a=some (.dK AT)):iU H a (kV k) (cJ AT k):=.inl ⟨AT,k,.inl e,Z,Z⟩
theorem um.k{k:Key}{v:V}(e:H a=some (.dK AT))(hl:AT.length<sizeLine):um H a (kV k) v (upd H a (.dK (putK AT k v))):=.inl ⟨AT,k,e,Z,hl,Z⟩
section
variable {X:Cx}{AC:AO}{σ:St}{H:Hp}{s:Shared}{a:Addr}{y v:V}{u r:Value}{o:Option V}{A:Around}{E:VS}
def Inv.big(I:Inv X AC σ H s):sysModules<s.heap.objs.size:=by have h:mainGlobals<s.heap.objs.size:=(I.mod.glob.keeps I.bk).lt;exact Nat.lt_trans (by decide) h
def Nc{Q:VS}(hu:A.units+1<cLine)(I:Inv X AC σ H s)(g:iU H a y (some v))(ry:RelV y u)(h:∀w' s',Inv X AC σ H s'->RelV v w'->Q w' s'):wpAny (model X.prog X.w) A (getItem (.ref a) u) Q E s:=by
 rcases g with⟨AT,k,e,ey,l⟩|⟨AT,k,b,e,ey,eb,l⟩
 .subst ey;obtain⟨z,hd,vs,rel,dd⟩:=pY I.hok e;obtain⟨w',hw,rw'⟩:=jO.some_of (v:=v) (o:=valueAt vs k) (by rw[l];exact rel.val k);exact wpAny_getItem_of (rD ry) dd.mapOf hw (h w' _ (I.tok _) rw')
 .subst ey;cases(show u=Value.ref b from ry);obtain⟨z,hd,xs,rel,dd⟩:=wR I.hok e;obtain⟨w',hw,rw'⟩:=jO.some_of (v:=v) (o:=(atKey xs k).map (·.2)) (by rw[l];exact rel.val k);obtain⟨p,hp,hp2⟩:=lE.mp hw;refine wpAny_getItem_heap (K9 hu) (vd I.hok eb) dd hp ?_;rw[hp2];exact h w' _ (I.tok _) rw'
def abz{Q:VS}(hu:A.units+1<cLine)(I:Inv X AC σ H s)(g:iU H a y o)(ry:RelV y u)(h:∀s',Inv X AC σ H s'->Q (.bool o.isSome) s'):wpAny (model X.prog X.w) A (compareOp .In u (.ref a)) Q E s:=by
 rcases g with⟨AT,k,e,ey,l⟩|⟨AT,k,b,e,ey,eb,l⟩
 .subst ey;obtain⟨z,hd,vs,rel,dd⟩:=pY I.hok e;refine wpAny_in_of (rD ry) hd dd.mapOf ?_;rw[<-(rel.val k).jQ,<-l];exact h _ (I.tok _)
 .subst ey;cases(show u=Value.ref b from ry);obtain⟨z,hd,xs,rel,dd⟩:=wR I.hok e;refine wpAny_in_heap (K9 hu) (vd I.hok eb) hd dd ?_;have q:=(rel.val k).jQ;rw[Option.isSome_map]at q;rw[<-q,<-l];exact h _ (I.tok _)
def Te{Q:VS}(hu:A.units+1<cLine)(I:Inv X AC σ H s)(g:iU H a y o)(ry:RelV y u)(h:∀s',Inv X AC σ H s'->Q (.bool (!o.isSome)) s'):wpAny (model X.prog X.w) A (compareOp .NotIn u (.ref a)) Q E s:=by
 rcases g with⟨AT,k,e,ey,l⟩|⟨AT,k,b,e,ey,eb,l⟩
 .subst ey;obtain⟨z,hd,vs,rel,dd⟩:=pY I.hok e;refine wpAny_notIn_of (rD ry) hd dd.mapOf ?_;rw[<-(rel.val k).jQ,<-l];exact h _ (I.tok _)
 .subst ey;cases(show u=Value.ref b from ry);obtain⟨z,hd,xs,rel,dd⟩:=wR I.hok e;refine wpAny_notIn_heap (K9 hu) (vd I.hok eb) hd dd ?_;have q:=(rel.val k).jQ;rw[Option.isSome_map]at q;rw[<-q,<-l];exact h _ (I.tok _)
def BE(I:Inv X AC σ H s)(mu:MI (H a))(hs:Heap.SameBut a s.heap h')(he:∃q,h'.get? a=some q)(new:c5 X.prog X.w (upd H a ob) h' a ob):Inv X AC σ (upd H a ob) { s with heap:=h',toks:=t' }:=I.write (x:=a) (e:=a) mu (.inl rfl) (λb q hb z=>(hs.2 b hb).trans z) he new
def Nd{h':Heap}{vs:Cl (Key×Value)}(z:AT.length<=sizeLine)(hd:(a==sysModules)=false)(rel:KV AT vs)(dd:h'.DictOf (bZ P w) a vs):c5 P w H' h' a (.dK AT):=⟨z,hd,vs,rel,dd⟩
theorem Nf{Q:Unit->Shared->Prop}(hu:A.units+1<cLine)(I:Inv X AC σ H s)(g:um H a y v H')(ry:RelV y u)(rv:RelV v r)(h:∀s',Inv X AC σ H' s'->Q () s'):wpAny (model X.prog X.w) A (setItem (.ref a) u r) Q E s:=by
 rcases g with⟨AT,k,e,ey,l,eH⟩|⟨AT,k,b,e,ey,eb,l,eH⟩
 .subst ey eH;obtain⟨z,hd,vs,rel,dd⟩:=EB I.hok e;have hz:vs.length<=sizeLine:=by rw[<-rel.length];exact z
  have hl:(putK AT k v).length<=sizeLine:=by have:=xX AT k v;omega
  refine wpAny_setItem_pairs (hsz:=hz) (rD ry) dd λh' Fb hs=>h _ ?_;have he:∃q,h'.get? a=some q:=let⟨q,_,_,hq,_⟩:=Fb;⟨q,hq⟩;exact BE I (by rw[e];exact True.intro) hs he (Nd hl hd (rel.put k rv) Fb)
 .subst ey eH;cases(show u=Value.ref b from ry);obtain⟨z,hd,xs,rel,dd⟩:=YQ I.hok e;have hz:xs.length<=sizeLine:=by rw[<-Paired.length rel];exact z
  have hl:(putK AT k v).length<=sizeLine:=by have:=xX AT k v;omega
  refine wpAny_setItem_heap (hsz:=hz) (K9 hu) (vd I.hok eb) dd λh' Fb hs=>h _ ?_;obtain⟨q,es,ep,hq,h2,h3,h4,_,h5⟩:=Fb;refine BE I (by rw[e];exact True.intro) hs ⟨q,hq⟩ ⟨hl,hd,_,(rel.put k eb rv).keeps λc ys ec=>?_,q,es,ep,hq,h2,h3,h4,h5⟩;rw[ay (gT ec e (λz=>nomatch z))];exact ec
end
section
variable {X:Cx}{AC:AO}{σ:St}{H:Hp}{s:Shared}{a:Addr}{AT:Cl (Key×V)}{k:Key}{u:Value}{A:Around}{E:VS}
def Ng{Q:Unit->Shared->Prop}(I:Inv X AC σ H s)(e:H a=some (.dK AT))(ry:RelV (kV k) u)(l:(cJ AT k).isSome=true)(h:∀s',Inv X AC σ (upd H a (.dK (kX AT k))) s'->Q () s'):wpAny (model X.prog X.w) A (delItem (.ref a) u) Q E s:=by
 obtain⟨z,hd,vs,rel,dd⟩:=EB I.hok e;refine wpAny_delItem_slot dd.typeIs (by decide) PySem.F.slot_dict_delitem
  (call_meetsIn PySem.F.slot_dict_delitem dd.typeIs PySem.F.entry_dict_delitem (PySem.F.args_dict_delitem_2 _ _) (meets_dict_delitem_pairs (bZ X.prog X.w) a (rD ry)) ⟨vs,dd,by rw[<-rel.length];exact z,by rw[<-(rel.val k).jQ];exact l,λh' Fb hs=>h _ ?_⟩)
 have he:∃q,h'.get? a=some q:=let⟨q,_,_,hq,_⟩:=Fb;⟨q,hq⟩;exact BE I (by rw[e];exact True.intro) hs he (Nd (dj (PY AT k) z) hd (rel.drop k) Fb)
theorem YR{Q:VS}(I:Inv X AC σ H s)(e:Rd H a (.dK AT))(h:∀t s',Inv X AC σ H s'->Q (.int AT.length t) s'):wpAny (model X.prog X.w) A (call (.builtin "len") [.ref a]) Q E s:=by obtain⟨z,hd,vs,rel,dd⟩:=pY I.hok e;refine call_len_dict hd dd (by rw[<-rel.length];rw[gQ]at z;omega) ?_;rw[<-rel.length];exact h _ _ (I.tok _)
end
def PZ(i:Expr):Prop:=∀ov iv,subscripted i false ov iv=operate [ov,iv] (getItem ov iv)
variable {env:Env}{value:Expr}
theorem JN{prog:Program}{E:VS}{s:Shared}{slice:Expr}{pos:Pos}{T id:String}{Q:VS}(hl:typeLookup (.type T) "__getitem__"=pure (some (.builtin id)))(hs:PZ slice)(h:wpAny (model prog w) A (eval value env) (λo s₁=>wpAny (model prog w) A (eval slice env) (λi s₂=>s₂.TypeIs o T/\wpAny (model prog w) A (getItem o i) Q E s₂) E s₁) E s):
  wpAny (model prog w) A (eval (.Subscript value slice pos) env) Q E s:=by
 refine Subscript_ (gZ h (λo s₁ h₁=>gZ h₁ (λi s₂ h₂=>?_) λ_ _ x=>x) λ_ _ x=>x)
 obtain⟨hT,h₂⟩:=h₂
 unfold subscriptTail
 refine ao ?_
 rw[getitemInPython_of_ne hT.not_modules]
 refine ao (wpAny_specialOf hT hl ?_)
 have fin:wpAny (model prog w) A (subscripted slice false o i) (λr s₃=>wpAny (model prog w) A (letTemporaryGo value o r >>= λ_=>pure r) Q E s₃) E s₂:=by rw[hs o i];exact wpAny_operating (gZ h₂ (λr s₃ h₃=>ao (wpAny_letTemporaryGo (aK h₃))) λ_ _ x=>x)
 first
  | exact aK (ao fin)
  | exact ao (aK (ao fin))
  | exact ao fin
variable {X:Cx}
def Iz{s:Shared}{o:Option V}(I:Inv X AC σ H s)(g:iU H a y o):s.TypeIs (.ref a) "dict":=by
 rcases g with⟨AT,k,e,_,_⟩|⟨AT,k,b,e,_,_,_⟩
 .obtain ⟨_,_,vs,_,dd⟩:=pY I.hok e;exact dd.typeIs
 .obtain ⟨_,_,xs,_,dd⟩:=wR I.hok e;exact dd.typeIs
inductive P_(Q:VK)(x:V)(y:V)(H2:Hp):Prop
 |mk(a v:_)(_:x =.ref a)(_:iU H2 a y (some v))(_:Q v H2)
def VO(ty:TE)(σ:St)(Q:VK):V->Hp->Prop:=λx H1=>ty σ H1 (P_ Q x)
def YS(td ty:TE):TE:=λσ H Q=>td σ H (VO ty σ Q)
inductive Tf(Q:VK)(y:V)(x:V)(H2:Hp):Prop
 |mk(a o:_)(_:x =.ref a)(_:iU H2 a y o)(_:Q (.bl o.isSome) H2)
def YT(td:TE)(σ:St)(Q:VK):V->Hp->Prop:=λy H1=>td σ H1 (Tf Q y)
def abA(ty td:TE):TE:=λσ H Q=>ty σ H (YT td σ Q)
inductive LA(Q:VK)(y:V)(x:V)(H2:Hp):Prop
 |mk(a o:_)(_:x =.ref a)(_:iU H2 a y o)(_:Q (.bl (!o.isSome)) H2)
def Qa(td:TE)(σ:St)(Q:VK):V->Hp->Prop:=λy H1=>td σ H1 (LA Q y)
def Tg(ty td:TE):TE:=λσ H Q=>ty σ H (Qa td σ Q)
inductive Qc(D:Ends)(σ:St)(v:V)(x:V)(y:V)(H3:Hp):Prop
 |mk(a H4:_)(_:x =.ref a)(_:um H3 a y v H4)(_:D.nx σ H4)
def Qd(ty:TE)(D:Ends)(σ:St)(v:V):V->Hp->Prop:=λx H2=>ty σ H2 (Qc D σ v x)
def VP(td:TE)(ty:TE)(D:Ends)(σ:St):V->Hp->Prop:=λv H1=>td σ H1 (Qd ty D σ v)
def YU(td ty tv:TE):TS:=λD σ H=>tv σ H (VP td ty D σ)
inductive Qe(D:Ends)(σ:St)(x:V)(y:V)(H2:Hp):Prop
 |mk(a AT k:_)(_:x =.ref a)(_:H2 a=some (.dK AT))(_:y=kV k)(_:(cJ AT k).isSome=true)(_:D.nx σ (upd H2 a (.dK (kX AT k))))
def VQ(ty:TE)(D:Ends)(σ:St):V->Hp->Prop:=λx H1=>ty σ H1 (Qe D σ x)
def YV(td ty:TE):TS:=λD σ H=>td σ H (VQ ty D σ)
section
variable {X:Cx}{o i e value:Expr}{pos pos' tpos:Pos}{td ty tv:TE}
end
def Qf(h:Heap)(hb:sysModules<h.objs.size):c5 P w H (h.push { cls:=.type "dict",data:=.dict #[] }) h.objs.size (.dK []):=⟨gP _,EL.mpr (cW (dI hb)),[],.nil,Heap.DictOf.new h⟩
def VR:TE:=λ_ H Q=>∀p,H p=none->Q (.ref p) (upd H p (.dK []))
section
variable {X:Cx}{pos:Pos}
end
def IsD(H:Hp)(a:Addr):Prop:=(∃AT,Rd H a (.dK AT))\/∃AT,Rd H a (.dT AT)
def Fc{s:Shared}(I:Inv X AC σ H s)(d:IsD H a):s.TypeIs (.ref a) "dict"/\(∀b,Value.ref a =.ref b->∃ob,s.heap.get? b=some ob/\ob.dict=none)/\(a==sysModules)=false:=by
 rcases d with⟨AT,e⟩|⟨AT,e⟩
 .obtain ⟨_,hd,vs,_,dd⟩:=pY I.hok e;refine⟨dd.typeIs,λb q=>?_,hd⟩;cases q;obtain⟨ob,_,_,h1,h2,_⟩:=dd;exact⟨ob,h1,h2.2.1⟩
 .obtain ⟨_,hd,xs,_,dd⟩:=wR I.hok e;refine⟨dd.typeIs,λb q=>?_,hd⟩;cases q;obtain⟨ob,_,_,h1,h2,_⟩:=dd;exact⟨ob,h1,h2.2.1⟩
section
variable {X:Cx}{AC:AO}{σ:St}{H:Hp}{s:Shared}{a:Addr}{y d:V}{u r:Value}{o:Option V}{A:Around}{E:VS}
end
section
variable {X:Cx}{o e f:Expr}{Bz cpos:Pos}{td ty tx:TE}
end
section
variable {X:Cx}{AC:AO}{σ:St}{H:Hp}{s:Shared}{a:Addr}{AT:Cl (Key×V)}{A:Around}{E:VS}
end
section
variable {X:Cx}{AC:AO}{σ:St}{H:Hp}{s:Shared}{a:Addr}{y:V}{u:Value}{A:Around}{E:VS}
end
end L2
namespace ZV
open PySem PySem.W PySem.Calls PyProof.Rows
def zU{P:Params}{h:Heap}:∀(ns:Cl Int)(vs:Cl Value),WellAll P h vs (ns.map WData.int)->IntsAre vs ns:=by
 intro ns
 induction ns with
 | nil=>intro vs w;rw[List.map_nil]at w;cases w;exact .nil
 | cons n ns ih=>
  intro vs w;rw[br]at w;cases w with
  | cons a b=>cases a;exact .cons _ _ (ih _ b)
theorem Nh{l:OpenLaw}{n:Nat}(hn:l.most=some n){P:Params}{h:Heap}{args:Cl WData}{vals:Cl Value}(hpre:l.row.toRowW.claim.pre args=true)(hwl:WellAll P h vals args):
  ∃a vs ns,vals=[Value.ref a]/\args=[WData.list (ns.map WData.int)]/\h.get? a=some { cls:=.type "list",data:=.seq vs.toArray }/\IntsAre vs ns/\ns.length<=n:=by
 have hsh:WShape.hasAll [] args [.list .int]=true:=(pre_splitW hpre).1
 have hc:l.pre.holds [] { args:=args }=true:=(pre_splitW hpre).2
 obtain⟨d,r,rfl,h1,h2⟩:=hasAllW_cons hsh
 obtain rfl:=hasAllW_nil h2
 obtain⟨xs,rfl,h3⟩:=hasW_list h1
 obtain⟨ns,rfl⟩:=items_int h3
 have hlen:ns.length<=n:=by
  unfold OpenLaw.pre at hc;have h4:(WTm.not (.lt (.lit (.int (n:Int))) (.len (.arg 0)))).holds [] { args:=[.list (ns.map .int)] }=true:=by have h4:=(holds_andW hc).1;rw[hn]at h4;exact h4
  have h5:=condW_of h4 (w_not (w_lt w_lit (w_len_list (w_arg rfl))));rw[aH]at h5;refine Nat.le_of_not_lt λq=>?_;have q':(n:Int)<((ns.length:Nat):Int):=by omega
  first
   | (rw[cI q']at h5;exact absurd h5 (by decide))
   | (simp at h5;omega)
 cases hwl with
 | cons w1 w2=>
   cases w2
   cases w1 with
   | list ho hall=>exact⟨_,_,ns,Z,Z,ho,zU ns _ hall,hlen⟩
def Ni(l:OpenLaw)(args:Cl WData):l.row.toRowW.claim.post args (.bool true) args=true:=postW_of (r:=l.row.toRowW) (X:=(true==true))
  (show WShape.has [] (.bool true) .bool=true by first|rfl|decide|simp[WShape.has,WShape.arms,WShape.armsAll])
  (show(WTm.eq .res (.lit (.bool true))).value [] { args:=args,res:=some (.bool true),after:=args }=some (.bool (true==true))from w_eq_bool (w_res rfl) w_lit) rfl
def IA{l:OpenLaw}{n:Nat}{q:Program}{loose:Cl Str}{XP:(Str->Option Value)->Heap->Prop}{YP:World->Heap->Prop}{d:DefRec}(hn:l.most=some n)(hdf:d.params.defaults=[])(call:∀(w:World) (s₀ s₁:Shared) (mg mb:SO) (fa:Addr) (o:Obj) (pm cd doc:Value) (a:Addr) (vs:Cl Value) (ns:Cl Int),
    Ground q loose [] XP w s₀ mg mb s₁.heap->YP w s₁.heap->
    s₁.heap.get? fa=some o->o.data =.func (docDef d.name d.params d.body d.scope pm cd doc)->s₁.heap.CodeRec cd d.name->mg d.name=some (.ref fa)->
    s₁.heap.get? a=some { cls:=.type "list",data:=.seq vs.toArray }->IntsAre vs ns->ns.length<=n->s₁.gens=#[]->
    codeAny (model l.prog w) callerA (.call (.ref fa) ⟨[.ref a],[]⟩) (λr s'=>r =.ok (.ret (.bool true))/\OldK s₁.heap s'.heap/\s'.os=s₁.os/\AllBare s'.gens) s₁):
  WalkO q loose XP YP l.row.toRowW d [] (λf vs=>PySem.call f vs):=by
 intro w s₀ s₁ mg mb G Y fa o pm cd doc dV kV ho hd hcd hD hmg hg args vals as hpre hlay hrd hwl hlo
 obtain rfl:dV =.none:=Dflts.none hD hdf
 obtain rfl:kV =.none:=Dflts.noKw hD
 obtain⟨a,vs,ns,rfl,rfl,hobj,hints,hlen⟩:=Nh hn hpre hwl
 refine enter_call (codeAny_mono (call w s₀ s₁ mg mb fa o pm cd doc a vs ns G Y ho (fd_plain hd) hcd hmg hobj hints hlen hg) λr s' hq=>?_)
 obtain⟨rfl,h2,h3,h4⟩:=hq
 exact⟨.inl ⟨.bool true,.bool true,[],Z,λ_=>rfl,.bool true,Ni l _,λ_=>⟨List.Pairwise.nil,λ_ hm=>(nomatch hm)⟩⟩,h2,h3,h4⟩
section
variable {prog:Program}{w:World}{A:Around}{E:VS}{s:Shared}{K:Frag}
end
end ZV
namespace L2
open PySem PySem.Spec PyProof.Rows
theorem CK:∀{vs:Cl Value}{ns:Cl Int},IntsAre vs ns->Vals (ns.map V.int) vs
 | _,_,.nil=> .nil
 | _,_,.cons n t h=> .cons ⟨t,Z⟩ (CK h)
def Qg(H:Hp):Prop:=∀b,H b=none\/∃o xs,H b=some (.dz o (.lst xs))
variable {P:Program}{w:World}{K:Fg}{mg:SO}{CX:vc}{a:Addr}{fd:FuncData}{x:Str}{sp:Sp}{ns:Cl Int}
def Qh{mb:SO}{k:Nat}{fa:Addr}{s₁:Shared}{vs:Cl Value}(KX:K.In s₁.heap)(hns:s₁.heap.Ns mainGlobals mg)(hb:s₁.heap.Ns builtinsNs mb)(hbb:∀x:Str,x ≠ "__name__"->mb x=bootBuiltins x)(hlim:s₁.heap.NoLimit)(hg:s₁.gens=#[])(ha:s₁.heap.get? a=some { cls:=.type "list",data:=.seq vs.toArray })(hi:IntsAre vs ns)(hl:ns.length<=sizeLine)(hr:dg k callerA)(F:∀base:Heap,K.In base->base.Ns mainGlobals mg->iT P w K mg base CX k fa fd [x] sp)(hbind:∀(s:Shared) (u:Value),BindsTo s fd ⟨[u],[]⟩ [(x,u)])(rC:∀H:Hp,Qg H->aI K H a (ns.map V.int)->sp [.ref a] H (λv _=>v =.bl true) λ_ _ _=>False)(VT:∀H e s',CX [] H s₁ (λ_ _ _=>False) e s'->False):
  codeAny (model P w) callerA (.call (.ref fa) ⟨[.ref a],[]⟩) (λr s'=>r =.ok (.ret (.bool true))/\OldK s₁.heap s'.heap/\s'.os=s₁.os/\AllBare s'.gens) s₁:=by
 have rv:=CK hi
 have abB:=hi.length
 have core:∀H:Hp,Qg H->aI K H a (ns.map V.int)->gK P w H s₁.heap->(∀b,H b≠none->b=a)->(H a≠none->K.lookup a=none)->
   codeAny (model P w) callerA (.call (.ref fa) ⟨[.ref a],[]⟩) (λr s'=>r =.ok (.ret (.bool true))/\OldK s₁.heap s'.heap/\s'.os=s₁.os/\AllBare s'.gens) s₁:=by
  intro H hO hS hok hA hK
  have JO:∀{b:Addr}{o:Obj},s₁.heap.get? b=some o->H b=none->(uf s₁.heap H).get? b=some o:=λe n=>Pq e n
  have M5:∀{b:Addr}{o:Obj}{es:Array DictEntry}{ep:Nat},s₁.heap.get? b=some o->o.data =.dict es ep->H b=none:=λ{b o es ep} e d=>by
   cases q:H b with
   | none=>rfl
   | some u=>have e':b=a:=hA b (by rw[q];simp);subst e';rw[ha]at e;cases e;have d':Data.seq vs.toArray _=Data.dict es ep:=d;cases d'
  have RO:∀{b:Addr}{m:SO},s₁.heap.Ns b m->(uf s₁.heap H).Ns b m:=λ{b m} ⟨o,es,ep,e,d,r⟩=>⟨o,es,ep,JO e (M5 e d),d,r⟩
  have ZW:K.In (uf s₁.heap H):=λb o e=>JO (KX b o e) (by
   cases q:H b with
   | none=>rfl
   | some u=>have e':b=a:=hA b (by rw[q];simp);subst e';rw[hK (by rw[q];simp)]at e;cases e)
  have hM:Mod K mg (uf s₁.heap H):=⟨ZW,RO hns,⟨mb,RO hb,hbb⟩,let⟨mc,h1,h2⟩:=hlim;⟨mc,RO h1,h2⟩⟩
  have e0:yv P w K mg (uf s₁.heap H) callerA [] s₁ H:=⟨Z,hM,λb o e=>SM e,Nat.le_of_eq (MJ _ _),trivial,λb hb=>absurd (show b∈([] :Cl Addr)from hb) (by simp),hok,.of_eq hg⟩
  refine codeAny_mono ((F _ ZW (RO hns)).run callerA [] s₁ H ⟨[.ref a],[]⟩ [.ref a] [.ref a] _ _ hr e0 (hbind s₁ (.ref a)) (.cons rfl .nil) (rC H hO hS)) λr s' h=>?_
  cases r with
  | error e=>exact(VT H e s' h).elim
  | ok fl=>
    cases fl with
    | next=>exact False.elim h
    | brk=>exact False.elim h
    | cont=>exact False.elim h
    | ret u=>
      obtain⟨v,H',os,bare,un,abC,r',q⟩:=h
      have q':v =.bl true:=q
      subst q'
      obtain rfl:u=Value.bool true:=r'
      refine⟨Z,OldK.of_keep λb o e=>?_,os,bare⟩
      cases q:H b with
      | none=>exact un.keep b o e q (by intro z;exact absurd (show b∈([] :Cl Addr)from z) (by simp)) (by simp)
      | some u=>
        rcases hO b with z|⟨ob,xs,z⟩
        . rw[q]at z;cases z
        . have z2:=un.o9 b ob _ z
          obtain⟨e1,_⟩:=hok b _ z
          obtain⟨e2,_⟩:=abC b _ z2
          rw[e]at e1;cases e1
          exact e2
 cases hk:K.lookup a with
 | some o=>
   have e:=KX a o hk
   rw[ha]at e
   cases e
   refine core (λ_=>none) (λ_=> .inl rfl) (.inr ⟨_,vs.toArray,_,hk,Z,Z,Z,by rw[fc,abB];exact hl,by simpa using rv⟩) (λb u z=>by have z':(none:Option HO)=some u:=z;cases z') (λb z=>absurd rfl z) λz=>absurd rfl z
 | none=>
   refine core (λb=>if b=a then some (.dz { cls:=.type "list",data:=.seq vs.toArray } (.lst (ns.map V.int))) else none) (λb=>?_) (.inl (.inr ⟨{ cls:=.type "list",data:=.seq vs.toArray },aB rfl⟩)) (λb u z=>?_) (λb z=>?_) λ_=>hk
   . by_cases hb:b=a
     . exact .inr ⟨_,_,aB hb⟩
     . exact .inl (aA hb)
   . by_cases hb:b=a
     . have z':=(aB hb).symm.trans z
       cases z'
       subst hb
       exact⟨ha,by rw[aH];exact hl,vs,_,rv,ha⟩
     . have z':=(aA hb).symm.trans z
       cases z'
   . by_cases hb:b=a
     . exact hb
     . exact absurd (aA hb) z
variable {n:Nat}{XP:(Str->Option Value)->Heap->Prop}{YP:World->Heap->Prop}
def Ti{l:PySem.W.OpenLaw}{k:Nat}{q:Program}{loose:Cl Str}{d:DefRec}{K:Params->Fg}{CX:World->vc}{sp:World->Sp}(hn:l.most=some n)(hn2:n<=sizeLine)(hdf:d.params.defaults=[])(hr:dg k callerA)(hY:∀(w:World) (h:Heap),YP w h->(K w.params).In h)(F:∀(w:World) (mg:SO) (fa:Addr) (h:Heap),(K w.params).In h->h.Ns mainGlobals mg->mg d.name=some (.ref fa)->
    ∃fd:FuncData,(∀(s:Shared) (u:Value),BindsTo s fd ⟨[u],[]⟩ [(x,u)])/\
     ∀base:Heap,(K w.params).In base->base.Ns mainGlobals mg->iT l.prog w (K w.params) mg base (CX w) k fa fd [x] (sp w))(rC:∀(w:World) (H:Hp) (a:Addr) (ns:Cl Int),ns.length<=n->Qg H->aI (K w.params) H a (ns.map V.int)->sp w [.ref a] H (λv _=>v =.bl true) λ_ _ _=>False)(VT:∀(w:World) (H:Hp) (s:Shared) (e:Value) (s':Shared),CX w [] H s (λ_ _ _=>False) e s'->False):
  PySem.W.WalkO q loose XP YP l.row.toRowW d [] (λf vs=>PySem.call f vs):=by
 refine ZV.IA hn hdf λw s₀ s₁ mg mb fa o pm cd doc a vs ns G Y ho hd hcd hmg hobj hints hlen hg=>?_
 have KX:=hY w _ Y
 obtain⟨fd,hb,hF⟩:=F w mg fa _ KX G.T.g hmg
 exact Qh KX G.T.g G.T.b G.T.builtins G.T.nolimit hg hobj hints (dj hlen hn2) hr hF hb (λH hO hS=>rC w H a ns hlen hO hS) λH e s'=>VT w H s₁ e s'
def inClass(s:Stmt)(j:Nat):Stmt:=match s with
 | .ClassDef _ _ _ body _ _ _ _ _ _ _=>body.getD j (.Pass ⟨0,0,0,0⟩)
 | _=> .Pass ⟨0,0,0,0⟩
def dS(s:Stmt):Arguments:=match s with
 | .FunctionDef _ a _ _ _ _ _ _ _ _=>a
 | _=>{ posonlyargs:=[],args:=[],vararg:=none,kwonlyargs:=[],kw_defaults:=[],kwarg:=none,defaults:=[] }
def cN(s:Stmt):Cl Stmt:=match s with
 | .FunctionDef _ _ b _ _ _ _ _ _ _=>b
 | _=>[]
def aC(s:Stmt):Scope:=match s with
 | .FunctionDef _ _ _ _ _ _ sc _ _ _=>sc
 | _=>{ kind:=.function,names:=[],isGenerator:=false,isCoroutine:=false }
abbrev qh:vc:=λ_ _ _ _ _ _=>False
abbrev E0:XK:=λ_ _ _=>False
structure CL(K:Fg)(x qual:Str)(st:Stmt)(f:Addr)(fd:FuncData):Prop where
 ex:∃(oc:Value)(od:Option Addr)(kV doc pm:Value)(an:Option Addr)(cdv ct:Value)(osl:Array (Option Value)),
  fd=PySem.W.fnOf x qual (dS st) (cN st) (aC st) .none kV doc pm an cdv ct/\K.lookup f=some ⟨oc,od,.func fd,osl⟩/\PySem.W.codeIn K cdv qual=true
 kp:PySem.W.keepIn K (.ref f)=true
variable {qual:Str}{f:Addr}{N:Cl Str}{oc doc pm cdv ct:Value}{od an:Option Addr}{osl:Array (Option Value)}
section
variable {P:Program}{w:World}{K:Fg}{mg:SO}{base:Heap}
def CL.ok{st:Stmt}{ps:Cl Str}{k:Nat}(F:CL K x qual st f fd)(S:aS N ps (aC st))(len:∀vs H Q E,sp vs H Q E->vs.length=ps.length)(B1:∀(cdv:Value) (A:Around) (outer:Cl Env) (s:Shared) (H:Hp) (vs:Cl V) (Q:VK) (E:XK),dg k (A.deeper (envOfC qual (aC st) s.heap.objs.size f cdv))->sp vs H Q E->
    ∃t,rB (pe qh P w K mg base N qual (aC st) f cdv A outer s H E).xR (cN st) t/\t { nx:=λ_ H'=>Q .b8 H',rt:=Q } (start N vs) H):iT P w K mg base qh (k+1) f fd ps sp:=by
 obtain⟨oc,od,kV,doc,pm,an,cdv,ct,osl,rfl,lk,hcd⟩:=F.ex
 refine YK lk hcd S len λA outer s H vs Q E hr rC=>?_
 obtain⟨t,h,q⟩:=B1 cdv A outer s H vs Q E hr rC
 exact⟨t,h.xR,q⟩
def CL.binds{st:Stmt}{ps:Cl Str}(F:CL K x qual st f fd)(h:∀(kV doc pm:Value) (an:Option Addr) (cdv ct:Value) (us:Cl Value),us.length=ps.length->bindArgs (PySem.W.fnOf x qual (dS st) (cN st) (aC st) .none kV doc pm an cdv ct) ⟨us,[]⟩=pure (ps.zip us)):Binds K fd ps [] :=by
 obtain⟨oc,od,kV,doc,pm,an,cdv,ct,osl,rfl,lk,hcd⟩:=F.ex
 exact .all (h kV doc pm an cdv ct)
def Fd{st:Stmt}{kV:Value}(l:K.lookup f=some ⟨oc,od,.func (PySem.W.fnOf x qual (dS st) (cN st) (aC st) .none kV doc pm an cdv ct),osl⟩)(c:PySem.W.codeIn K cdv qual=true)(k:PySem.W.keepIn K (.ref f)=true):CL K x qual st f (PySem.W.fnOf x qual (dS st) (cN st) (aC st) .none kV doc pm an cdv ct):=⟨⟨oc,od,kV,doc,pm,an,cdv,ct,osl,Z,l,c⟩,k⟩
end
variable {A:Around}
def iL{k:Nat}(hr:dg k A):A.units+1<cLine:=Bu (Nat.add_le_add_left (by decide:1<=64) _) hr.units
def fM(h:n<=1000):n<sizeLine:=Bu h (by decide)
section
variable {X:Cx}
end
def cL{A B:Prop}(h:B):if false=true then A else B:=by rw[aA d7];exact h
def lH{A B:Prop}(h:A):if true=true then A else B:=by rw[aB rfl];exact h
def fQ{c A B:Prop}[Decidable c](h1:c->A)(h2:¬ c->B):if c then A else B:=by
 by_cases h:c
 .rw [aB h];exact h1 h
 .rw [aA h];exact h2 h
def aE(H H':Hp):Prop:=∀b o,H b=some o->H' b=some o
def aE.refl(H:Hp):aE H H:=λ_ _ h=>h
variable {H H1 H2:Hp}
def aE.trans(a:aE H H1)(b:aE H1 H2):aE H H2:=λc o h=>b c o (a c o h)
variable {H':Hp}
def aE.free(e:aE H H'){l:Addr}(h:H' l=Option.none):H l=Option.none:=by
 cases q:H l with
 | none=>rfl
 | some o=>rw[e l o q]at h;cases h
variable {xs:Cl V}
def aE.seq(e:aE H H')(h:aI K H a xs):aI K H' a xs:=by
 rcases h with(h|⟨o,h⟩)|h
 .exact .inl (.inl (e _ _ h))
 .exact .inl (.inr ⟨o,e _ _ h⟩)
 .exact .inr h
section
variable {X:Cx}
def ve:fJ X (.builtin "len") (λxs H Q=>∃a AT,xs=[V.ref a]/\H a=some (.dK AT)/\Q (.int AT.length) H):=by intro AC s σ H xs us Q I r h;obtain⟨a,AT,rfl,ha,q⟩:=h;obtain⟨u,rfl,ru⟩:=vals1 r;cases ru;exact YR I (.inl ha) λt s' I'=>⟨.int AT.length,H,I',⟨t,Z⟩,q⟩
end
section
variable {κ:Type}[DecidableEq κ]
def Qi{AT:Cl (κ×V)}{k:κ}(h:cJ AT k=none):¬ k∈AT.map (·.1):=by intro m;obtain⟨p,hp,e⟩:=bu.mp m;have q:(AT.any λkv=>decide (kv.1=k))=true:=List.any_eq_true.mpr ⟨p,hp,cI e⟩;rw[nO,h]at q;exact absurd q (by simp)
theorem p_:∀{l:Cl κ}{k:κ},l.Nodup->¬ k∈l->(l++[k]).Nodup
 | [],k,_,_=>by simp
 | a::r,k,h,hk=>by
  obtain⟨h1,h2⟩:=fj.mp h;show(a::(r++[k])).Nodup;refine fj.mpr ⟨λm=>?_,p_ h2 λm=>hk (cV.mpr (Or.inr m))⟩;rcases eE.mp m with q|q
  .exact h1 q
  .exact hk (cV.mpr (Or.inl (eU.mp q).symm))
def Tj{AT:Cl (κ×V)}{k:κ}(v:V)(hn:(AT.map (·.1)).Nodup)(h:cJ AT k=none):((putK AT k v).map (·.1)).Nodup:=by rw[lG v h,b7];exact p_ hn (Qi h)
end
end L2
set_option maxHeartbeats 4000000
namespace L2
open PySem PySem.Spec PyProof.Rows
variable {n:Nat}{K:Fg}
section
variable {X:Cx}
def wU(_ j:Int):Prop:=0<j/\j.natAbs.log2<9000
theorem eX:gq X (binaryOp .FloorDiv) (rI wU λi j=> .int (i / j)):=MO λi j _ _ _ _ _ hc q=>by have h1:(0:Int)<j:=hc.1;exact floordiv_int (by omega) (by rw[Int.fdiv_eq_ediv_of_nonneg i (by omega)];exact q) (.inl (PyProof.noPylong_of_log2 hc.2))
def rE{i j:Int}(h:(decide (0<j) && decide (j.natAbs.log2<9000))=true):wU i j:=by obtain⟨a,b⟩:=jM.mp h;exact⟨ff a,ff b⟩
theorem Qj{i j:Int}(h0:0<j)(h:j<2 ^ n)(hn:n<=9000):wU i j:=by
 refine⟨h0,?_⟩;have e:(j.natAbs:Int)=j:=by omega
 have h2:j.natAbs<2 ^ n:=by
  have:(j.natAbs:Int)<((2 ^ n:Nat):Int):=by rw[e];simpa using h
  exact Int.ofNat_lt.mp this
 have:=(Nat.log2_lt (n:=j.natAbs) (k:=n) (by omega)).mpr h2;omega
def LB(i j:Int):Prop:=∃m n:Nat,i.natAbs<2 ^ m/\j.natAbs<2 ^ n/\m+n<=134217728
def lX:gq X (binaryOp .Mult) (rI LB λi j=> .int (i*j)):=MO λ_ _ _ _ _ _ _ hc q=>by obtain⟨m,n,h1,h2,h3⟩:=hc;exact mul_int q (IntMulOk.of_le (K7.mpr h1) (K7.mpr h2) h3)
def IB:fJ X (.builtin "isinstance") (λxs H Q=>∃x n t b,xs=[x,.ty n]/\eK X.K H x t/\PySem.W.kitOne X.K t (.type n)=some b/\Q (.bl b) H):=by intro AC s σ H xs us Q I r h;obtain⟨x,n,t,b,rfl,ty,e,q⟩:=h;obtain⟨u,w',rfl,ru,rw'⟩:=vals2 r;have rw2:w'=Value.type n:=rw';subst rw2;exact MZ I ru ty e λtk=>⟨.bl b,H,I.tok _,Z,q⟩
def gk{n:String}:PySem.W.kitOne K (.type n) (.type n)=some true:=by unfold PySem.W.kitOne;rw[aB (Ek _)]
def Fe:PySem.W.kitOne K (.type "int") (.type "bool")=some false:=by rfl
mutual
inductive Dt(K:Fg)(H:Hp):V->PyData->Prop
 | b8:Dt K H .b8 .none
 | bl (b:Bool):Dt K H (.bl b) (.bool b)
 | int (i:Int):Dt K H (.int i) (.int i)
 | str (x:Str):Dt K H (.str x) (.str x)
 | lst {a:Addr} {xs:Cl V} {ds:Cl PyData}:aI K H a xs->xY K H xs ds->Dt K H (.ref a) (.list ds)
 | tup {a:Addr} {xs:Cl V} {ds:Cl PyData}:bR K H a xs->xY K H xs ds->Dt K H (.ref a) (.tuple ds)
inductive xY(K:Fg)(H:Hp):Cl V->Cl PyData->Prop
 | nil:xY K H [] []
 | cons {x:V} {xs:Cl V} {d:PyData} {ds:Cl PyData}:Dt K H x d->xY K H xs ds->xY K H (x::xs) (d::ds)
end
section
variable {AC:AO}{σ:St}{H:Hp}{s:Shared}
mutual
theorem Dt.reads(I:Inv X AC σ H s):∀{x:V}{d:PyData}{u:Value},Dt X.K H x d->RelV x u->∃as,Reads s.heap u d as
 | _,_,u,.b8,r=>by cases(show u=Value.none from r);exact⟨_,.none⟩
 | _,_,u,.bl b,r=>by cases(show u=Value.bool b from r);exact⟨_,.bool b⟩
 | _,_,u,.int i,r=>by obtain⟨t,rfl⟩:=(show ∃t,u=Value.int i t from r);exact⟨_,.int i t⟩
 | _,_,u,.str x,r=>by obtain⟨t,rfl⟩:=(show ∃t,u=Value.str x t from r);exact⟨_,.str x t⟩
 | _,_,u,@Dt.lst _ _ a xs ds h hd,r=>by cases(show u=Value.ref a from r);obtain⟨BT,rv,⟨o,n,e,c,_,d⟩,hz⟩:=I.list h;obtain⟨as,ra⟩:=xY.reads I hd rv;exact⟨_,.list e c d (by simpa using ra)⟩
 | _,_,u,@Dt.tup _ _ a xs ds h hd,r=>by cases(show u=Value.ref a from r);obtain⟨BT,rv,⟨o,e,c,n,d⟩,hz⟩:=I.tuple h;obtain⟨as,ra⟩:=xY.reads I hd rv;exact⟨_,.tuple e c d (by simpa using ra)⟩
theorem xY.reads(I:Inv X AC σ H s):∀{xs:Cl V}{ds:Cl PyData}{us:Cl Value},xY X.K H xs ds->Vals xs us->∃as,ReadsAll s.heap us ds as
 | _,_,_,.nil,.nil=>⟨_,.nil⟩
 | _,_,_,.cons h t,.cons r rs=>by obtain⟨as,ra⟩:=Dt.reads I h r;obtain⟨bs,rb⟩:=xY.reads I t rs;exact⟨_,.cons ra rb⟩
end
end
inductive VU(K:Fg)(x:V)(y:V)(H:Hp)(Q:VK):Prop
 |mk(d e:_)(_:Dt K H x d)(_:Dt K H y e)(_:SeqAt.shaped d=true)(_:SeqAt.shaped e=true)(_:Q (.bl (PyData.eqv d e)) H)
inductive VV(K:Fg)(x:V)(y:V)(H:Hp)(Q:VK):Prop
 |mk(d e:_)(_:Dt K H x d)(_:Dt K H y e)(_:SeqAt.shaped d=true)(_:SeqAt.shaped e=true)(_:Q (.bl (!PyData.eqv d e)) H)
def VW(hu:X.A.units+64<cLine):gq X (compareOp .Eq) (VU X.K):=by intro AC s σ H x y v u Q I rx ry h;obtain⟨d,e,hd,he,sd,se,q⟩:=h;obtain⟨as,ra⟩:=hd.reads I rx;obtain⟨bs,rb⟩:=he.reads I ry;exact eq_dataH ra rb sd se hu ⟨.bl _,H,I,Z,q⟩
def VX(hu:X.A.units+64<cLine):gq X (compareOp .NotEq) (VV X.K):=by intro AC s σ H x y v u Q I rx ry h;obtain⟨d,e,hd,he,sd,se,q⟩:=h;obtain⟨as,ra⟩:=hd.reads I rx;obtain⟨bs,rb⟩:=he.reads I ry;exact ne_dataH ra rb sd se hu ⟨.bl _,H,I,Z,q⟩
structure Bx(p:Prop):Prop where
 ex:p
def bx(f:Sp):Sp:=λvs H Q E=>Bx (f vs H Q E)
structure Dn(P:Program)(w:World)(K:Fg)(mg:SO)(base:Heap)(k:Nat)(x:Str)(ps:Cl Str)(sp:Sp):Prop where
 ex:∃f fd,iT P w K mg base qh k f fd ps sp/\Binds K fd ps []/\PySem.W.keepIn K (.ref f)=true/\mg x=some (.ref f)
end
structure At(K:Fg)(mg:SO)(x:Str)(st:Stmt)(f:Addr)(fd:FuncData):Prop where
 fn:CL K x x st f fd
 name:mg x=some (.ref f)
variable {P:Program}{w:World}{mg:SO}{base:Heap}{x:Str}{f:Addr}{fd:FuncData}{N:Cl Str}{sp:Sp}
theorem At.ok{st:Stmt}{ps:Cl Str}{k:Nat}(F:At K mg x st f fd)(S:aS N ps (aC st))(len:∀vs H Q E,sp vs H Q E->vs.length=ps.length)(B1:∀(cdv:Value) (A:Around) (outer:Cl Env) (s:Shared) (H:Hp) (vs:Cl V) (Q:VK) (E:XK),dg k (A.deeper (envOfC x (aC st) s.heap.objs.size f cdv))->sp vs H Q E->
    ∃t,rB (pe qh P w K mg base N x (aC st) f cdv A outer s H E).xR (cN st) t/\t { nx:=λ_ H'=>Q .b8 H',rt:=Q } (start N vs) H)(h:∀(kV doc pm:Value) (an:Option Addr) (cdv ct:Value) (us:Cl Value),us.length=ps.length->bindArgs (PySem.W.fnOf x x (dS st) (cN st) (aC st) .none kV doc pm an cdv ct) ⟨us,[]⟩=pure (ps.zip us)):
  Dn P w K mg base (k+1) x ps sp:=⟨f,fd,F.fn.ok S len B1,F.fn.binds h,F.fn.kp,F.name⟩
variable {h:Heap}{oc doc pm cdv ct:Value}{od an:Option Addr}{osl:Array (Option Value)}
def RP{st:Stmt}{kV:Value}(X:K.In h)(G:h.Ns mainGlobals mg)(a:PySem.W.nsIn K mainGlobals x=some (some (.ref f)))(l:K.lookup f=some ⟨oc,od,.func (PySem.W.fnOf x x (dS st) (cN st) (aC st) .none kV doc pm an cdv ct),osl⟩)(c:PySem.W.codeIn K cdv x=true)(k:PySem.W.keepIn K (.ref f)=true):At K mg x st f (PySem.W.fnOf x x (dS st) (cN st) (aC st) .none kV doc pm an cdv ct):=⟨Fd l c k,t_ X G a⟩
def aE.tup{H H':Hp}{K:Fg}{a:Addr}{xs:Cl V}(e:aE H H')(h:bR K H a xs):bR K H' a xs:=by
 rcases h with(h|⟨o,h⟩)|h
 .exact .inl (.inl (e _ _ h))
 .exact .inl (.inr ⟨o,e _ _ h⟩)
 .exact .inr h
variable {H:Hp}
def aD{p:Addr}(h:H p=none)(o:HO):aE H (upd H p o):=λb u q=>by rw[ay (aG q h)];exact q
def small(h:n<=1000):n<=sizeLine:=zH (fM h)
end L2
namespace Jm
def cf(a b:Int):Int:=(Int.gcd a b:Int)
theorem JP(a:Int)(h:0<=a):cf a 0=a:=by unfold cf;rw[Int.gcd_zero_right];omega
def BF(a b:Int)(h:0<b):cf b (a % b)=cf a b:=by unfold cf;rw[Int.emod_def,Int.gcd_sub_mul_left_right,Int.gcd_comm]
theorem zV(a b:Int)(h:0<a\/0<b):0<cf a b:=by
 unfold cf;have:0<Int.gcd a b:=by
  rcases h with h|h
  .exact Int.gcd_pos_of_ne_zero_left _ (by omega)
  .exact Int.gcd_pos_of_ne_zero_right _ (by omega)
 omega
def JQ(a b:Int):cf a b=cf b a:=by unfold cf;rw[Int.gcd_comm]
def VY(a b:Int):cf a (if b<0 then -b else b)=cf a b:=by
 unfold cf;split
 .rw [Int.gcd_neg]
 .rfl
abbrev fr(t b:Int):Rat:=Rat.divInt t b
def Nj(t b:Int)(h:0<b):(fr t b).num=t / cf b t:=by unfold fr cf;rw[Rat.num_divInt,Int.sign_eq_one_of_pos h,wL]
theorem Ff(t b:Int)(h:0<b):((fr t b).den:Int)=b / cf b t:=by unfold fr cf;rw[Rat.den_divInt,aA (by omega)];rw[Int.natCast_ediv];congr 1;omega
def ou(a b:Int):cf a b∣a:=Int.gcd_dvd_left ..
def mP(a b:Int):cf a b∣b:=Int.gcd_dvd_right ..
theorem den_pos(q:Rat):(0:Int)<q.den:=by have:=q.den_pos;omega
def Tn(q:Rat):fr q.num q.den=q:=Rat.num_divInt_den q
theorem LC{t b t' b':Int}(h:0<b)(h':0<b')(e:t*b'=t'*b):fr t b=fr t' b':=(Rat.divInt_eq_divInt_iff (by omega) (by omega)).mpr e
def Nk{n d:Int}(h:0<d)(c:cf n d=1):(fr n d).num=n/\((fr n d).den:Int)=d:=by rw[Nj n d h,Ff n d h,JQ,c,rj,rj];exact⟨Z,Z⟩
def Nl(t b:Int)(h:0<b):((fr t b).den:Int)<=b:=by rw[Ff t b h];exact El _ (zJ h)
def Sz(n:Nat)(x:Int):Prop:=x.natAbs<2 ^ n
def Sz.mono{m n:Nat}{x:Int}(h:Sz m x)(hn:m<=n):Sz n x:=jE h (Nat.pow_le_pow_right (by decide) hn)
def Sz.of_le{n:Nat}{x y:Int}(h:Sz n y)(hx:x.natAbs<=y.natAbs):Sz n x:=Bu hx h
theorem Sz.neg{n:Nat}{x:Int}(h:Sz n x):Sz n (-x):=h.of_le (by omega)
def Sz.mul{m n:Nat}{x y:Int}(hx:Sz m x)(hy:Sz n y):Sz (m+n) (x*y):=by unfold Sz at *;rw[zx,Nat.pow_add];exact Nat.mul_lt_mul'' hx hy
theorem Sz.add{m n:Nat}{x y:Int}(hx:Sz m x)(hy:Sz n y):Sz (max m n+1) (x+y):=by have h1:=hx.mono (Nat.le_max_left m n);have h2:=hy.mono (Nat.le_max_right m n);unfold Sz at *;rw[Nat.pow_succ];omega
def Sz.vf{n:Nat}{x y:Int}(hx:Sz n x)(hy:Sz n y):Sz (n+1) (x+y):=by
 have:=hx.add hy
 rwa [Nat.max_self]at this
theorem Sz.kN{n:Nat}{x B:Int}(h0:-B<=x)(h1:x<=B)(hB:Sz n B):Sz n x:=hB.of_le (by omega)
theorem Sz.ediv{n:Nat}{x y:Int}(h:Sz n x)(hy:0<y):Sz n (x / y):=by
 refine h.of_le ?_;have e:=Int.emod_add_mul_ediv x y;have m0:=kU x (b:=y) (by omega);have m1:=tV x hy;rcases Int.lt_or_le x 0 with hx|hx
 .have q0:x / y<0:=Int.ediv_neg_of_neg_of_pos hx hy;have z:y*(x / y)<=1*(x / y):=Int.mul_le_mul_of_nonpos_right (by omega) (by omega);rcases Int.lt_or_le (x / y) x with k|k
  .exfalso;have z2:y*(x / y)<=y*(x-1):=EH (by omega) (by omega);have z3:y*(x-1)<=1*(x-1)-(y-1):=by
    have z4:(y-1)*(x-1)<=(y-1)*(-2):=EH (by omega) (by omega);have z5:y*(x-1)=(y-1)*(x-1)+(x-1):=by grind
    omega
   omega
  .omega
 .have q0:0<=x / y:=Eo hx (by omega);have:=El y hx;omega
theorem Sz.dvd{n:Nat}{x y:Int}(h:Sz n y)(hy:0<y)(hx:0<=x)(d:x∣y):Sz n x:=h.of_le (by have:=zC hy d;omega)
theorem Nm{n:Nat}:∀{ws:Cl Int},(∀m∈ws,Sz n m)->Sz (n+ws.length) ws.sum
 | [],_=>by unfold Sz;show 0<_;exact Nat.two_pow_pos _
 | x::r,h=>by have h1:=Nm (ws:=r) λm hm=>h m (ck _ hm);have h2:=((h x cD).mono (oj n r.length)).vf h1;rw[bV];exact h2.mono (by rw[kC];omega)
def zW(c:Int):Nat->Int
 | 0=>c
 | i+1=>zW c i / 10000000000
def cellOf(ns:Cl Int)(k:Int):Int:=if 0<(ns.length:Int) then ns.getD (k % ns.length).toNat 0 else 0
def vg(ns:Cl Int)(k:Int):Int:=if 0<(ns.length:Int) then k / ns.length else 1
def mixed(c k j BM:Int):Int:=
 let one:=(c*7919+k*104729+j*1299709+31) % 1000000007
 let two:=(one*48271+c / 1009) % 998244353
 let three:=(two*(one % 9973+1)+j) % 1000000009
 (one*69621+three*40692+three / 1013) % 2147483647 % BM
def draw(ns:Cl Int)(k j BM:Int):Int:=if vg ns k=0/\1000000000000000000<=cellOf ns k/\0<zW (cellOf ns k) j.toNat then zW (cellOf ns k) j.toNat % 10000000000 % BM
 else mixed (cellOf ns k) k j BM
theorem To(ns:Cl Int)(k j BM:Int)(h:0<BM):0<=draw ns k j BM:=by
 unfold draw;split
 .exact kU _ (by omega)
 .exact kU _ (by omega)
def Tp(ns:Cl Int)(k j BM:Int)(h:0<BM):draw ns k j BM<BM:=by
 unfold draw;split
 .exact tV _ h
 .exact tV _ h
end Jm
namespace L2
open PySem PySem.Spec PyProof.Rows
inductive YW(K:Fg)(vs:Cl V)(H:Hp)(Q:VK)(E:XK):Prop
 |mk(a:Addr)(ns:Cl Int)(k j BM:Int)(_:vs=[.ref a,.int k,.int j,.int BM])(_:aI K H a (ns.map V.int))(_:ns.length<=63)(_:0<=k)(_:0<=j)(_:j<2 ^ 62)(_:0<BM)(_:Q (.int (Jm.draw ns k j BM)) H)
def sS(K:Fg):Sp:=bx (YW K)
variable {K:Fg}{H:Hp}{Q:VK}{E:XK}{a:Addr}{ns:Cl Int}
def d8{k j BM:Int}(hS:aI K H a (ns.map V.int))(h63:ns.length<=63)(h1:0<=k)(h2:0<=j)(h3:j<2 ^ 62)(h4:0<BM)(h:∀d:Int,d=Jm.draw ns k j BM->0<=d->d<BM->Q (.int d) H):sS K [.ref a,.int k,.int j,.int BM] H Q E:=
 ⟨a,ns,k,j,BM,Z,hS,h63,h1,h2,h3,h4,h _ rfl (Jm.To ns k j BM h4) (Jm.Tp ns k j BM h4)⟩
def Qk:Sp:=λvs H Q _=>∃a b:Int,vs=[.int a,.int b]/\0<=a/\0<=b/\Q (.int (Jm.cf a b)) H
abbrev lI(q:Rat):HO:=.tup [.int q.num,.int (q.den:Int)]
def LD:Sp:=λvs H Q _=>∃i:Int,vs=[.int i]/\Q (.bl true) H
def EC(K:Fg):Sp:=λvs H Q _=>∃(a:Addr)(ns:Cl Int),vs=[.ref a]/\aI K H a (ns.map V.int)/\ns.length<=63/\∀H',Q (.bl true) H'
section
variable {X:Cx}{pos:Pos}
def Ends.ZX(D:Ends)(J:St->Hp->Prop):Ends:={ D with nx:=J }
def RQ(t u:TS)(D:Ends)(σ:St)(J:St->Hp->Prop):Bool->Hp->Prop:=λb H1=>if b=true then t (D.ZX J) σ H1 else u (D.ZX J) σ H1
inductive VZ(c:TT)(t u:TS)(D:Ends)(σ:St)(H:Hp):Prop
 |mk(J:St->Hp->Prop)(_:c σ H (RQ t u D σ J))(_:∀σ' H',J σ' H'->D.nx σ' H')
end
theorem qi{i j:Int}(h0:0<j)(h:Jm.Sz 9000 j):wU i j:=by refine⟨h0,?_⟩;exact(Nat.log2_lt (by omega)).mpr h
variable {m n:Nat}
def j_{i j:Int}(hi:Jm.Sz m i)(hj:Jm.Sz n j)(h:m+n<=134217728:=by decide):LB i j:=⟨m,n,hi,hj,h⟩
def mQ{x:Int}(h:decide (x.natAbs<2 ^ n)=true):Jm.Sz n x:=by unfold Jm.Sz;exact ff h
theorem Tq{k:Int}(h0:0<=k)(h:k<(ns.length:Int)):pR (ns.map V.int) k=some (.int (ns.getD k.toNat 0)):=by
 have hk:k.toNat<ns.length:=by omega
 have ek:k=((k.toNat:Nat):Int):=by omega
 have q:pR (ns.map V.int) ((k.toNat:Nat):Int)=some (.int (ns.getD k.toNat 0)):=bh (by rw[cz,dP,a_ hk] <;> rfl);rw[<-ek]at q;exact q
variable {elt Bn:Expr}{scope:Scope}{env:Env}
section
variable {prog:Program}{w:World}{A:Around}{R:Result->Shared->Prop}{s:Shared}
theorem Fi{target:Expr}{pos:Pos}{it Ap:Value}(J:Nat->Shared->Prop)(turn:∀n s,J n s->wpAny (model prog w) A (pyNext it) (λr s₁=>match r with
    | none=>R (.ok .next) s₁
    | some v=>wpAny (model prog w) A (letOwnedTupleGo target it v) (λ_ s₂=>wpAny (model prog w) A (assign target env v) (λ_ s₃=>wpAny (model prog w) A (eval elt env) (λx s₄=>
            wpAny (model prog w) A (call (.builtin "list.append") [Ap,x]) (λ_ s₅=>∃m,m<n/\J m s₅) (λ_ _=>False) s₄) (λ_ _=>False) s₃) (λ_ _=>False) s₂) (λ_ _=>False) s₁) (λ_ _=>False) s)(n:Nat)(h:J n s):codeAny (model prog w) A (.compLoop (.ListComp elt [⟨target,Bn,[],0⟩] scope pos) 0 it Ap env) R s:=by
 refine codeAny_loop rfl J (λn s hI=>?_) n h
 show wpAny _ A ((compTurn (.ListComp elt [⟨target,Bn,[],0⟩] scope pos) 0 it Ap env).onRaise (λx=>do noteFrame x env;theTreesLotGoes x)) _ _ s
 refine wpAny_noted ?_
 rw[compTurn_list1]
 refine ao (wJ (ao (gZ (turn n s hI) (λr s₁ h₁=>?_) λ_ _ h'=>h'.elim)))
 cases r with
 | none=>exact aK h₁
 | some v=>
   refine ao (gZ h₁ (λ_ s₂ h₂=>ao (gZ h₂ (λ_ s₃ h₃=>?_) λ_ _ h'=>h'.elim)) λ_ _ h'=>h'.elim)
   exact ao (ao (gZ h₃ (λx s₄ h₄=>ao (gZ h₄ (λ_ s₅ h₅=>aK (aK ⟨Z,h₅⟩)) λ_ _ h'=>h'.elim)) λ_ _ h'=>h'.elim))
end
def pZ(h:∀y∈scope.names,y.2 =.free->∃c,env.cells.lookup y.1=some c):∃cl,closureFor scope env=pure cl/\(∀y c,(y,c)∈cl->env.cells.lookup y=some c/\(y,NameKind.free)∈scope.names)/\∀y,(y,NameKind.free)∈scope.names->∃c,(y,c)∈cl:=by
 have gen:∀(names:Cl (Str×NameKind))(Ap:Cl (Str×Addr)),(∀y∈names,y.2 =.free->∃c,env.cells.lookup y.1=some c)->
   ∃cl,(forIn names Ap λ(x:Str×NameKind)(cs:Cl (Str×Addr))=>(if(x.2==NameKind.free)=true then do let a <-cellOf env x.1;pure (ForInStep.yield ((x.1,a)::cs)) else pure (ForInStep.yield cs):Sem _))=pure cl/\
    (∀y c,(y,c)∈cl->(env.cells.lookup y=some c/\(y,NameKind.free)∈names)\/(y,c)∈Ap)/\(∀p∈Ap,p∈cl)/\∀y,(y,NameKind.free)∈names->∃c,(y,c)∈cl:=by
  intro names
  induction names with
  | nil=>intro Ap _;exact⟨Ap,by rw[zy],λy c m=> .inr m,λp hp=>hp,λy m=>nomatch m⟩
  | cons x r ih=>
    intro Ap hc
    obtain⟨n,k⟩:=x
    by_cases hk:k =.free
    . subst hk
      obtain⟨c,ec⟩:=hc (n,.free) cD rfl
      obtain⟨cl,e,h1,h2,h3⟩:=ih ((n,c)::Ap) λy hy=>hc y (ck _ hy)
      refine⟨cl,?_,λy d m=>?_,λp hp=>h2 p (ck _ hp),λy m=>?_⟩
      . rw[Ep,<-e]
        have YX:cellOf env n=pure c:=by unfold cellOf;rw[ec]
        simp only[Ek,if_true,YX,pure_bind]
      . rcases h1 y d m with⟨a,b⟩|b
        . exact .inl ⟨a,ck _ b⟩
        . rcases cV.mp b with z|z
          . cases z;exact .inl ⟨ec,cD⟩
          . exact .inr z
      . rcases cV.mp m with z|z
        . cases z;exact⟨c,h2 _ cD⟩
        . exact h3 y z
    . obtain⟨cl,e,h1,h2,h3⟩:=ih Ap λy hy=>hc y (ck _ hy)
      have hb:(k==NameKind.free)=false:=by simpa using hk
      refine⟨cl,?_,λy d m=>?_,h2,λy m=>?_⟩
      . rw[Ep,<-e]
        simp only[hb,EO,mJ,pure_bind]
      . rcases h1 y d m with⟨a,b⟩|b
        . exact .inl ⟨a,ck _ b⟩
        . exact .inr b
      . rcases cV.mp m with z|z
        . cases z;exact absurd rfl hk
        . exact h3 y z
 obtain⟨cl,e,h1,_,h3⟩:=gen scope.names [] h;refine⟨cl,?_,λy c m=>(h1 y c m).elim id (λz=>nomatch z),h3⟩;have e2:closureFor scope env=((forIn scope.names ([] :Cl (Str×Addr)) λ(x:Str×NameKind)(cs:Cl (Str×Addr))=>(if(x.2==NameKind.free)=true then do let a <-cellOf env x.1;pure (ForInStep.yield ((x.1,a)::cs)) else pure (ForInStep.yield cs):Sem _)) >>= λr=>pure r):=rfl;rw[e2,e];rfl
def lookup_mem{α:Type}{l:Cl (Str×α)}{y:Str}{c:α}(h:(y,c)∈l):∃d,l.lookup y=some d:=by
 induction l with
 | nil=>cases h
 | cons p r ih=>
  obtain⟨k,v⟩:=p;rw[jH];cases hb:y==k with
  | true=>exact⟨v,Z⟩
  | false=>
   rcases cV.mp h with z|z
   .cases z;simp at hb
   .exact ih z
theorem kg:∀(names:Cl (Str×NameKind))(n:Nat)(Ap:Cl (Str×Addr)){x:Str}{c:Addr},(cellsFrom n names Ap).lookup x=some c->n<=c\/Ap.lookup x=some c
 | [],_,_,_,_,h=> .inr h
 | (name,kind)::r,n,Ap,x,c,h=>by
  unfold cellsFrom at h;split at h
  .rcases kg r (n+1) _ h with z|z
   .exact .inl (by omega)
   .rw [jH]at z;cases hb:x==name with
    | true=>rw[hb]at z;cases z;exact .inl (aO _)
    | false=>rw[hb]at z;exact .inr z
  .exact kg r n Ap h
theorem DE:∀(names:Cl (Str×NameKind))(n n0:Nat)(Ap:Cl (Str×Addr)){x:Str}{c:Addr},n0<=n->(∀d,Ap.lookup x=some d->n0<=d)->(cellsFrom n names Ap).lookup x=some c->n0<=c:=by
 intro names n n0 Ap x c hn ha h;rcases kg names n Ap h with z|z
 .omega
 .exact ha c z
theorem pA:∀(names:Cl (Str×NameKind))(n:Nat)(Ap:Cl (Str×Addr)){x:Str}{c:Addr},(x,NameKind.cell)∈names->(cellsFrom n names Ap).lookup x=some c->n<=c
 | [],_,_,_,_,m,_=>nomatch m
 | (name,kind)::r,n,Ap,x,c,m,h=>by
  unfold cellsFrom at h;rcases cV.mp m with z|z
  .cases z;rw[aB (by rfl)]at h;refine DE r (n+1) n _ (by omega) (λd hd=>?_) h;rw[jH,Ek]at hd;cases hd;exact aO _
  .split at h
   .exact dj (Nat.le_succ _) (pA r (n+1) _ z h)
   .exact pA r n Ap z h
theorem kh:∀(names:Cl (Str×NameKind))(n:Nat)(Ap:Cl (Str×Addr)){x:Str},(∃c,Ap.lookup x=some c)->∃c,(cellsFrom n names Ap).lookup x=some c
 | [],_,_,_,h=>h
 | (name,kind)::r,n,Ap,x,h=>by
  unfold cellsFrom;split
  .refine kh r (n+1) _ ?_;rw[jH];cases x==name with
   | true=>exact⟨_,Z⟩
   | false=>exact h
  .exact kh r n Ap h
theorem pB:∀(names:Cl (Str×NameKind))(n:Nat)(Ap:Cl (Str×Addr)){x:Str},(x,NameKind.cell)∈names->∃c,(cellsFrom n names Ap).lookup x=some c
 | [],_,_,_,m=>nomatch m
 | (name,kind)::r,n,Ap,x,m=>by
  unfold cellsFrom;rcases cV.mp m with z|z
  .cases z;rw[aB (by rfl)];refine kh r (n+1) _ ⟨n,?_⟩;rw[jH,Ek]
  .split
   .exact pB r (n+1) _ z
   .exact pB r n Ap z
theorem pC:∀(names:Cl (Str×NameKind))(n:Nat)(Ap:Cl (Str×Addr)){x:Str},(x,NameKind.cell)∉names->(cellsFrom n names Ap).lookup x=Ap.lookup x
 | [],_,_,_,_=>rfl
 | (name,kind)::r,n,Ap,x,m=>by
  have m2:(x,NameKind.cell)∉r:=λz=>m (ck _ z);unfold cellsFrom;split
  .rename_i hk;rw[pC r (n+1) _ m2,jH];cases hb:x==name with
   | true=>
    have e1:=pW.mp hb;have e2:kind=NameKind.cell:=by simpa using hk
    subst e1 e2;exact absurd cD m
   | false=>rfl
  .exact pC r n Ap m2
theorem pD:∀(names:Cl (Str×NameKind))(n:Nat)(Ap:Cl (Str×Addr)),(∀x y c,Ap.lookup x=some c->Ap.lookup y=some c->x=y)->(∀x c,Ap.lookup x=some c->c<n)->∀x y c,(cellsFrom n names Ap).lookup x=some c->(cellsFrom n names Ap).lookup y=some c->x=y
 | [],_,_,h,_=>h
 | (name,kind)::r,n,Ap,h,hlt=>by
  intro x y c hx hy;unfold cellsFrom at hx hy;split at hx
  .rename_i hk;rw[aB hk]at hy;refine pD r (n+1) _ (λx y c hx hy=>?_) (λx c hx=>?_) x y c hx hy
   .rw [jH]at hx hy;cases hb:x==name with
    | true=>
     cases hb2:y==name with
     | true=>rw[pW.mp hb,pW.mp hb2]
     | false=>rw[hb]at hx;rw[hb2]at hy;cases hx;exact absurd (hlt _ _ hy) (iK _)
    | false=>
     cases hb2:y==name with
     | true=>rw[hb]at hx;rw[hb2]at hy;cases hy;exact absurd (hlt _ _ hx) (iK _)
     | false=>rw[hb]at hx;rw[hb2]at hy;exact h x y c hx hy
   .rw [jH]at hx;cases hb:x==name with
    | true=>rw[hb]at hx;cases hx;exact Nat.lt_succ_self _
    | false=>rw[hb]at hx;exact Ld (hlt _ _ hx)
  .rename_i hk;rw[aA hk]at hy;exact pD r n Ap h hlt x y c hx hy
theorem r_:∀(names:Cl (Str×NameKind))(h:Heap)(Ap:Cl (Str×Addr)),(∀x c,Ap.lookup x=some c->∃v,h.IsCell c v)->∀x c,(cellsFrom h.objs.size names Ap).lookup x=some c->∃v,(pushCells h names).IsCell c v
 | [],_,_,ha=>ha
 | (name,kind)::r,h,Ap,ha=>by
  intro x c hx;unfold cellsFrom at hx;unfold pushCells;split at hx
  .rename_i hk;rw[aB hk];have q:=r_ r (h.push { cls:=.type "cell",data:=.cell none }) ((name,h.objs.size)::Ap) (λx c hx=>by
    rw[jH]at hx;cases hb:x==name with
    | true=>rw[hb]at hx;cases hx;exact⟨none,_,c_ _ rfl,Z⟩
    | false=>rw[hb]at hx;obtain⟨v,z⟩:=ha x c hx;exact⟨v,z.keeps λb o e=>bQ _ e⟩) x c
   rw[j9]at q;exact q hx
  .rename_i hk;rw[aA hk];exact r_ r h Ap ha x c hx
def cC(X:Cx)(N2:Cl Str)(scope:Scope)(cl:Cl (Str×Addr))(s₂:Shared)(H₂:Hp)(fp:Cl Addr):Cx where
 prog:=X.prog
 w:=X.w
 K:=X.K
 mg:=X.mg
 base:=X.base
 A:=X.A
 N:=N2
 s₀:=s₂
 H₀:=H₂
 env:={ scope:=relabel scope X.env,locals:=s₂.heap.objs.size,globals:=X.env.globals,cells:=cellsFrom (s₂.heap.objs.size+1) scope.names cl,qual:=X.env.qual,func:=none,code:=X.env.code,frame:=X.env.frame,builtins:=X.env.builtins }
 outer:=X.stack
 stack:=X.stack
 ex:=fp
 fn:=λx=>decide (scope.names.lookup x=some .cell)
 calm:=X.calm
 pn:=[]
 xe:=λ_ _=>False
def kO(XN:Cl Str)(xn sn:Cl (Str×NameKind))(N2:Cl Str)(ix:Cl (Option Nat)):Bool:=(ix.length==N2.length) &&
 ((ix.zip N2).all λp=>match p.1 with
   | none=>true
   | some j=>XN[j]?==some p.2 && sn.lookup p.2==some .free && (xn.lookup p.2==some .cell || xn.lookup p.2==some .free)) &&
 (sn.all λy=>y.2 !=.free || (xn.lookup y.1==some .cell || xn.lookup y.1==some .free)) &&
 (sn.all λy=>y.2 !=.local || sn.lookup y.1==some .local) &&
 (sn.all λy=>y.2 !=.free || sn.all λz=>z.2 !=.cell || z.1 != y.1)
variable {x:Str}
def xZ{k:NameKind}(h:(relabel scope env).names.lookup x=some k)(hk:k =.cell\/k =.free):(x,NameKind.cell)∈scope.names\/(x,NameKind.free)∈scope.names:=by
 have m:=tU h;obtain⟨y,hy,e⟩:=bu.mp m;obtain⟨n,k0⟩:=y;dsimp only at e;split at e
 .rename_i hc;cases e;have h1:k0=NameKind.free:=by have:=(jM.mp (jM.mp hc).1).1;simpa using this
  subst h1;exact .inr hy
 .cases e;rcases hk with rfl|rfl
  .exact .inl hy
  .exact .inr hy
def Fj:∀{x:Str},scope.names.lookup x=some .free->(relabel scope env).names.lookup x=some .cell\/(relabel scope env).names.lookup x=some .free:=by
 intro x h;have gen:∀(l:Cl (Str×NameKind)),l.lookup x=some .free->(l.map λ(n,k)=>if(k==NameKind.free && env.scope.kind ==.function && env.kindOf n==some .cell) then(n,NameKind.cell) else(n,k)).lookup x=some .cell\/
   (l.map λ(n,k)=>if(k==NameKind.free && env.scope.kind ==.function && env.kindOf n==some .cell) then(n,NameKind.cell) else(n,k)).lookup x=some .free:=by
  intro l
  induction l with
  | nil=>intro h;cases h
  | cons p r ih=>
    intro h
    obtain⟨n,k⟩:=p
    rw[jH]at h
    rw[br]
    dsimp only
    cases hb:x==n with
    | true=>
      rw[hb]at h
      cases h
      split
      . rw[jH,hb];exact .inl rfl
      . rw[jH,hb];exact .inr rfl
    | false=>
      rw[hb]at h
      split
      . rw[jH,hb];exact ih h
      . rw[jH,hb];exact ih h
 exact gen scope.names h
variable {X:Cx}{AC:AO}{σ σ2:St}{N2:Cl Str}{cl:Cl (Str×Addr)}{fp:Cl Addr}
theorem zX{s:Shared}(I:Inv X AC σ H s)(hk:scope.kind =.function)(Fl:∀y c,(y,c)∈cl->X.env.cells.lookup y=some c)(BG:∀y,(y,NameKind.free)∈scope.names->∃c,(y,c)∈cl)(hfp:∀b∈fp,mK X AC H b)(hfo:∀b∈fp,b<s.heap.objs.size)(hl:σ2.length=N2.length)(hσ:∀(i:Nat) (x:Str) (v:V),N2[i]?=some x->σ2[i]?=some (some v)->scope.names.lookup x=some .free/\(X.env.kindOf x=some .cell\/X.env.kindOf x=some .free)/\∃j:Nat,X.N[j]?=some x/\σ[j]?=some (some v))(hd:∀x,(x,NameKind.free)∈scope.names->(x,NameKind.cell)∉scope.names):
  Inv (cC X N2 scope cl s H fp) [] σ2 H { s with heap:=pushCells (s.heap.push { cls:=.type "dict",data:=.dict #[] }) scope.names }:=by
 have keeps:∀b o,s.heap.get? b=some o->(pushCells (s.heap.push { cls:=.type "dict",data:=.dict #[] }) scope.names).get? b=some o:=λb o e=>Er _ _ b o (bQ _ e)
 have hsz:(s.heap.push { cls:=.type "dict",data:=.dict #[] }).objs.size=s.heap.objs.size+1:=j9 ..
 have wV:∀x c,cl.lookup x=some c->X.env.cells.lookup x=some c:=λx c e=>Fl x c (tU e)
 have V0:∀x c,cl.lookup x=some c->c<s.heap.objs.size:=λx c e=>by obtain⟨v,z⟩:=I.cell x c (wV x c e);exact z.lt
 have there:=r_ scope.names (s.heap.push { cls:=.type "dict",data:=.dict #[] }) cl (λx c e=>by obtain⟨v,z⟩:=I.cell x c (wV x c e);exact⟨v,z.keeps λb o e=>bQ _ e⟩)
 rw[hsz]at there
 have cells:∀x c,(cellsFrom (s.heap.objs.size+1) scope.names cl).lookup x=some c->s.heap.objs.size+1<=c\/X.env.cells.lookup x=some c:=λx c e=>by
  rcases kg _ _ _ e with z|z
  .exact .inl z
  .exact .inr (wV x c z)
 have okY:(cC X N2 scope cl s H fp).Ok:=by
  refine⟨I.ok.mod,hk,I.ok.glob,I.ok.blt,aO _,?_,?_,?_,I.ok.hd,I.ok.frames,.inl rfl,?_,I.bs,dj I.ok.CB I.sz,?_,?_,I.stack,I.JC⟩
  .exact pD _ _ _ (λx y c hx hy=>I.ok.inj x y c (wV x c hx) (wV y c hy)) λx c e=>Ld (V0 x c e)
  .intro x hx;have m:(x,NameKind.cell)∈scope.names\/(x,NameKind.free)∈scope.names:=by
    rcases hx with z|z
    .exact xZ z (.inl rfl)
    .exact xZ z (.inr rfl)
   rcases m with m|m
   .exact pB _ _ _ m
   .obtain ⟨c,mc⟩:=BG x m;exact kh _ _ _ (lookup_mem mc)
  .intro x c hf e;have hf':scope.names.lookup x=some .cell:=ff hf;exact dj (Nat.le_succ _) (pA _ _ _ (tU hf') e)
  .intro b hb;refine⟨dI (hfo b hb),λx c e z=>?_⟩;have hlt:=hfo b hb;rcases cells x c e with k|k
   .exact absurd (jE hlt (dj (Nat.le_succ _) (z▸k))) (iK _)
   .exact (hfp b hb).2.2.2.2.1 x c k z
  .intro b o e hb;rcases(hfp b hb).2.2.2.1 with z|z
   .exact I.ok.EW b o e z
   .exact absurd (jE (bK (I.ok.bs b o e).1) z) (iK _)
  .intro b hb hbs;rcases cV.mp (I.EZ b hbs)with z|z
   .exact (hfp b hb).2.1 z
   .exact (hfp b hb).2.2.1 z
 refine⟨okY,Z,I.bare,Un.kept keeps,?_,there,I.hok.fresh (aO _),?_,(λp hp=>nomatch hp),I.hok.kept keeps,hl⟩
 . refine⟨λ_=>none,(Heap.Ns.new s.heap (.type "dict")).keeps (Er _ _),λi x v e1 e2 _=>?_⟩
   obtain⟨hf,hx,j,j1,j2⟩:=hσ i x v e1 e2
   obtain⟨m,_,hloc⟩:=I.loc
   have hv:RB X.env.scope x:=hx.elim (λz=> .inr (.inl z)) λz=> .inr (.inr z)
   obtain⟨u,r,lk⟩:=hloc j x v j1 j2 hv
   refine⟨u,r,.inr ⟨Fj hf,?_⟩⟩
   rcases lk with⟨k,_⟩|⟨_,c,ec,ic⟩
   . rcases hx with z|z <;> rw[z]at k <;> cases k
   . refine⟨c,?_,ic.keeps keeps⟩
     have mf:=tU hf
     show(cellsFrom (s.heap.objs.size+1) scope.names cl).lookup x=some c
     rw[pC _ _ _ (hd x mf)]
     obtain⟨c',mc⟩:=BG x mf
     obtain⟨d,ed⟩:=lookup_mem mc
     rw[ed]
     have:=wV x d ed
     rw[ec]at this
     exact this.symm
 . intro x c e
   rcases cells x c e with k|k
   . exact I.hok.fresh (by omega)
   . exact I.kW x c k
variable {tg:Expr}{te:TE}
section
variable {X:Cx}
def wW(J:It)(g:TG)(te:TE)(Ap:Addr)(σ₀:St)(H:Hp)(Q:VK):Prop:=∃W:Nat->Nat->St->Hp->Prop,(∃m,W 0 m σ₀ (upd H Ap (.lst [])))/\∀i m σ2 H2,W i m σ2 H2->(J.stop i H2/\Q (.ref Ap) H2)\/(J.go i H2/\∃(S:St->Prop)(N:V->Hp->Prop),(∀σ3 v H4,S σ3->N v H4->∃xs,H4 Ap=some (.lst xs)/\xs.length<sizeLine/\∃m',m'<m/\W (i+1) m' σ3 (upd H4 Ap (.lst (xs++[v]))))/\∀x H',J.zN i H2 x H'->g x σ2 H' λσ3 H3=>S σ3/\te σ3 H3 N)
inductive pF(Pv:Nat->Cl V->Hp->Prop)(i:Nat)(Ap:Addr)(out:Cl V)(v:V)(H4:Hp):Prop
 |mk(_:H4 Ap=some (.lst out))(_:Pv (i+1) (out++[v]) (upd H4 Ap (.lst (out++[v]))))
def LF(te:TE)(σ:St)(Pv:Nat->Cl V->Hp->Prop)(i:Nat)(Ap:Addr)(out:Cl V):Bool->Hp->Prop:=λb H2=>if b=true then te σ H2 (pF Pv i Ap out) else H2 Ap=some (.lst out)/\Pv (i+1) out H2
def pick(ix:Cl (Option Nat))(σ:St):St:=ix.map λo=>o.bind λj=>(σ[j]?).join
def V1(ix:Cl (Option Nat))(g:TG)(te:TE)(σ:St)(Q:VK):It->Hp->Prop:=λJ H1=>∀Ap,H1 Ap=none->wW J g te Ap (pick ix σ) H1 Q
def RS(wi:TI)(ix:Cl (Option Nat))(g:TG)(te:TE):TE:=λσ H Q=>wi σ H (V1 ix g te σ Q)
def ki{XN:Cl Str}{xn sn:Cl (Str×NameKind)}{ix:Cl (Option Nat)}(h:kO XN xn sn N2 ix=true):ix.length=N2.length/\(∀(i:Nat)(x:Str)(j:Nat),N2[i]?=some x->ix[i]?=some (some j)->XN[j]?=some x/\sn.lookup x=some .free/\(xn.lookup x=some .cell\/xn.lookup x=some .free))/\(∀y∈sn,y.2 =.free->xn.lookup y.1=some .cell\/xn.lookup y.1=some .free)/\(∀y∈sn,y.2 =.local->sn.lookup y.1=some .local)/\∀x,(x,NameKind.free)∈sn->(x,NameKind.cell)∉sn:=by
 unfold kO at h;obtain⟨h,h5⟩:=jM.mp h;obtain⟨h,h4⟩:=jM.mp h;obtain⟨h,h3⟩:=jM.mp h;obtain⟨h1,h2⟩:=jM.mp h;have e1:ix.length=N2.length:=by simpa using h1
 refine⟨e1,λi x j a b=>?_,λy hy e=>?_,λy hy e=>?_,λx m1 m2=>?_⟩
 .have m:(some j,x)∈ix.zip N2:=by refine cg (i:=i) ?_;rw[List.getElem?_zip_eq_some];exact⟨b,a⟩
  have q:=mD.mp h2 _ m;dsimp only at q;obtain⟨q,q3⟩:=jM.mp q;obtain⟨q1,q2⟩:=jM.mp q;exact⟨by simpa using q1,by simpa using q2,(EM.mp q3).imp (λz=>by simpa using z) λz=>by simpa using z⟩
 .have q:=mD.mp h3 y hy;rcases EM.mp q with z|z
  .rw [e]at z;simp at z
  .exact (EM.mp z).imp (λz=>by simpa using z) λz=>by simpa using z
 .have q:=mD.mp h4 y hy;rcases EM.mp q with z|z
  .rw [e]at z;simp at z
  .simpa using z
 .have q:=mD.mp h5 _ m1;rcases EM.mp q with z|z
  .simp at z
  .have q2:=mD.mp z _ m2;simp at q2
theorem zY{pos:Pos}{ix:Cl (Option Nat)}{g:TG}{s:Shared}{E:VS}{RR:Value->Addr->Result->Shared->Prop}(hc:X.calm=true)(hg:∀cl s₂ H₂ fp,PG (cC X N2 scope cl s₂ H₂ fp) tg g)(he:∀cl s₂ H₂ fp,PE (cC X N2 scope cl s₂ H₂ fp) elt te)(hk:scope.kind =.function)(hn:kO X.N X.env.scope.names scope.names N2 ix=true)(Fl:∀y c,(y,c)∈cl->X.env.cells.lookup y=some c)(BG:∀y,(y,NameKind.free)∈scope.names->∃c,(y,c)∈cl){it:Addr}{fp:Cl Addr}{tn:Nat->Heap->Prop}{J:It}(I:Inv X AC σ H s)(T:Turn X.prog X.w X.K tg J fp it tn)(st:tn 0 s.heap)(f:∀b∈fp,mK X AC H b)(h:∀Ap,H Ap=none->wW J g te Ap (ix.map λo=>o.bind λj=>(σ[j]?).join) H Q)(hR:∀Ap C H' s' m,Inv X AC σ H' s'->s'.heap.Ns C m->H' C=none->C≠X.env.locals->X.s₀.heap.objs.size<=C->(∀x c,X.env.cells.lookup x=some c->c≠C)->(∀p∈X.pn++AC,p.1≠C)->Q (.ref Ap) H'->RR (.ref Ap) C (.ok .next) s'):
  wpAny (model X.prog X.w) X.A (newList []) (λAp s₃=>wpAny (model X.prog X.w) X.A (newFunctionEnv scope X.env.globals cl [] X.env.qual none .none (some X.env)) (λcenv s₄=>
   codeAny (model X.prog X.w) X.A (.compStart (.ListComp elt [⟨tg,Bn,[],0⟩] scope pos) 0 (.ref it) Ap { cenv with scope:=relabel scope X.env }) (RR Ap cenv.locals) s₄) E s₃) E s:=by
 obtain⟨k1,k2,k3,k4,k5⟩:=ki hn
 refine nK ?_
 have I3:Inv X AC σ (upd H s.heap.objs.size (.lst [])) { s with heap:=s.heap.push { cls:=.type "list",data:=.seq ([] :Cl Value).toArray } }:=
  I.laid (a:=s.heap.objs.size) (o:=.lst []) (t':=s.toks) (λ_ _ q=>bQ _ q) (aO _) ⟨gP _,[],_,.nil,c_ _ rfl⟩
 obtain⟨W,⟨m0,w0⟩,turn⟩:=h s.heap.objs.size I.fresh
 have fo:∀b∈fp,b<s.heap.objs.size:=λb hb=>by obtain⟨o,e,_⟩:=T.obj 0 _ st b hb;exact bK e
 have st3:tn 0 (s.heap.push { cls:=.type "list",data:=.seq ([] :Cl Value).toArray }):=T.keep _ _ _ st λb _ o e=>bQ _ e
 have f3:∀b∈fp,mK X AC (upd H s.heap.objs.size (.lst [])) b:=λb hb=>⟨by rw[ay (dI (fo b hb))];exact(f b hb).1,(f b hb).2⟩
 have Nn:∀b∈fp,b<(s.heap.push { cls:=.type "list",data:=.seq ([] :Cl Value).toArray }).objs.size:=λb hb=>by rw[j9];exact Ld (fo b hb)
 generalize V2:({ s with heap:=s.heap.push { cls:=.type "list",data:=.seq ([] :Cl Value).toArray } }:Shared)=s3 at *
 have V3:s3.heap=s.heap.push { cls:=.type "list",data:=.seq ([] :Cl Value).toArray }:=by rw[<-V2]
 rw[<-V3]at st3 Nn
 generalize s.heap.objs.size=Ap at *
 generalize eH3:upd H Ap (.lst [])=H3 at *
 have IY:=zX (N2:=N2) (scope:=scope) (cl:=cl) (fp:=fp) (σ2:=ix.map λo=>o.bind λj=>(σ[j]?).join) I3 hk Fl BG f3 Nn (by rw[aH];exact k1) (λi x v e1 e2=>by
  rw[cz]at e2;cases ei:ix[i]? with
  | none=>rw[ei]at e2;cases e2
  | some o=>
   rw[ei]at e2;cases o with
   | none=>cases e2
   | some j=>
    obtain⟨a1,a2,a3⟩:=k2 i x j e1 ei;refine⟨a2,a3,j,a1,?_⟩;have e3:(σ[j]?).join=some v:=fh e2;cases ej:σ[j]? with
    | none=>rw[ej]at e3;cases e3
    | some z=>rw[ej]at e3;exact fY some e3) k5
 have ne:wpAny (model X.prog X.w) X.A (newFunctionEnv scope X.env.globals cl [] X.env.qual none .none (some X.env)) (λcenv s₄=>
   cenv={ scope:=scope,locals:=s3.heap.objs.size,globals:=X.env.globals,cells:=cellsFrom (s3.heap.objs.size+1) scope.names cl,qual:=X.env.qual,func:=none,code:=X.env.code,frame:=X.env.frame,builtins:=X.env.builtins }/\
   s₄={ s3 with heap:=pushCells (s3.heap.push { cls:=.type "dict",data:=.dict #[] }) scope.names }) E s3:=by
  simp only[newFunctionEnv,Option.isSome_some,if_true]
  refine ao (wpAny_alloc ?_)
  refine ao (wpAny_layCells _ (λname kind cells=>by cases hkc:kind==NameKind.cell <;> simp[hkc]) _ _ _ _ ?_)
  rw[zy]
  refine ao (aK (aK ⟨?_,Z⟩))
  rw[show({ s3 with heap:=s3.heap.push { cls:=.type "dict",data:=.dict #[] } }:Shared).heap.objs.size=s3.heap.objs.size+1 from j9 ..]
 refine aX ne λcenv s4 ⟨e1,e2⟩=>?_
 subst e1 e2
 have Np:tn 0 (pushCells (s3.heap.push { cls:=.type "dict",data:=.dict #[] }) scope.names):=T.keep _ _ _ st3 λb _ o e=>Er _ _ b o (bQ _ e)
 have vh:s3.heap.objs.size≠X.env.locals:=wK I3.lt
 have qj:∀{H':Hp},(∀b∈fp,H' b=none)->∀b∈fp,mK (cC X N2 scope cl s3 H3 fp) [] H' b:=λ{H'} hn b hb=>
  ⟨hn b hb,(IY.ok.JB b hb).1,IY.ok.BA b hb,.inl hb,(IY.ok.JB b hb).2,λp hp=>nomatch hp⟩
 have loop:codeAny (model X.prog X.w) X.A (.compLoop (.ListComp elt [⟨tg,Bn,[],0⟩] scope pos) 0 (.ref it) (.ref Ap) (cC X N2 scope cl s3 H3 fp).env) (RR (.ref Ap) s3.heap.objs.size)
   { s3 with heap:=pushCells (s3.heap.push { cls:=.type "dict",data:=.dict #[] }) scope.names }:=by
  refine Fi (λn s'=>∃i σ' H',Inv (cC X N2 scope cl s3 H3 fp) [] σ' H' s'/\tn i s'.heap/\(∀b∈fp,H' b=none)/\W i n σ' H') ?_ m0 ⟨0,_,H3,IY,Np,λb hb=>(f3 b hb).1,w0⟩
  rintro n s5 ⟨i,σ5,H5,I5,zZ,Fo,w5⟩
  rcases turn i n σ5 H5 w5 with⟨stop,qn⟩|⟨go,S,N,V4,step⟩
  . refine aX (T.done (cC X N2 scope cl s3 H3 fp) rfl rfl rfl hc i [] s5 σ5 H5 (λ_ _=>False) I5 (qj Fo) zZ stop) λr s6 ⟨hr,I6⟩=>?_
    subst hr
    obtain⟨m6,V5,_⟩:=id I6.loc
    have IX:Inv X AC σ H5 s6:=I3.RE (ch:=fp) I6.os I6.base I6.hok I6.bare λb hb=>⟨(f3 b hb).2.2.2.1,(f3 b hb).2.1,(f3 b hb).2.2.2.2.1,(f3 b hb).2.2.2.2.2⟩
    refine hR Ap s3.heap.objs.size H5 s6 m6 IX V5 I6.free vh I3.sz (λx c e z=>?_) (λp hp z=>?_) qn
    . obtain⟨v,q⟩:=I3.cell x c e
      exact absurd q.lt (by rw[z];exact iK _)
    . exact absurd (bK (I3.pin p hp).1) (by rw[z];exact iK _)
  . refine aX (T.item (cC X N2 scope cl s3 H3 fp) rfl rfl rfl hc i [] s5 σ5 H5 (λ_ _=>False) I5 (qj Fo) zZ go) λr s6 ⟨u,hr,h6⟩=>?_
    subst hr
    refine aX h6 λ_ s7 ⟨x,H7,I7,r7,y7,z6,Nq⟩=>?_
    have V6:=I7.pinned (qj Nq) (T.obj _ _ z6)
    refine aX (hg cl s3 H3 fp _ s7 σ5 H7 x u _ V6 r7 (step x H7 y7)) λ_ s8 ⟨σ8,H8,I8,RT,q8⟩=>?_
    refine aX (he cl s3 H3 fp _ s8 σ8 H8 _ I8 q8) λy s9 ⟨v,H9,I9,r9,q9⟩=>?_
    obtain⟨xs,hxs,V7,m',hm,w9⟩:=V4 σ8 v H9 RT q9
    refine aX (gF _ s9 σ8 H9 (.ref Ap) [v] (.ref Ap) [y] (λz z7=>z =.b8/\z7=upd H9 Ap (.lst (xs++[v]))) I9 rfl (.cons r9 .nil) ⟨Ap,xs,v,Z,Z,hxs,V7,Z,Z⟩) λz s10 ⟨zv,z7,Fp,r10,ez,eH⟩=>?_
    subst eH
    refine⟨m',hm,i+1,σ8,_,Fp.nM,T.keep _ _ _ z6 λb hb o e=>(Fp.pin (b,o) (gi _ (gi _ (g_ hb e)))).1,λb hb=>?_,w9⟩
    obtain⟨o,e,d⟩:=T.obj _ _ z6 b hb
    exact(Fp.pin (b,o) (gi _ (gi _ (g_ hb e)))).2.1
 exact codeAny_compStart_list loop (T.self _ 0 _ _ _ Np loop)
end
variable {xs:Cl V}{Ap:Addr}
theorem Nr{k:Nat}(Pv:Nat->Cl V->Hp->Prop)(hn:xs.length<=100000)(h0:Pv 0 [] (upd H Ap (.lst [])))(hl:∀(i:Nat) (out:Cl V) (H1:Hp),i<=xs.length->H1 Ap=some (.lst out)->Pv i out H1->aI K H1 a xs)(hs:∀(i:Nat) (x:V) (out:Cl V) (H1:Hp),xs[i]?=some x->out.length=i->H1 Ap=some (.lst out)->Pv i out H1->te (σ2.set k (some x)) H1 (pF Pv i Ap out))(hd:∀(out:Cl V) (H1:Hp),out.length=xs.length->H1 Ap=some (.lst out)->Pv xs.length out H1->Q (.ref Ap) H1):
  wW (xS K a) (oq k) te Ap σ2 H Q:=by
 refine⟨λi m σ' H'=>m=xs.length-i/\i<=xs.length/\(∀v,σ'.set k (some v)=σ2.set k (some v))/\∃out,out.length=i/\H' Ap=some (.lst out)/\Pv i out H',⟨xs.length,by simp,gP _,λ_=>rfl,[],Z,ai,h0⟩,?_⟩
 rintro i m σ' H' ⟨rfl,hi,hσ,out,ho,ha,p⟩
 have q:=hl i out H' hi ha p
 by_cases hlt:i<xs.length
 . refine .inr ⟨⟨xs,xs[i],q,by simp[hlt]⟩,λσ3=>∀v,σ3.set k (some v)=σ2.set k (some v),(pF Pv i Ap out),λσ3 v H4 hS ⟨a,b⟩=>?_,λx H1 y=>?_⟩
   . refine⟨out,a,?_,xs.length-(i+1),by omega,Z,hlt,hS,out++[v],by rw[cO,ho];rfl,ai,b⟩
     have:sizeLine=16777216:=gQ
     omega
   . obtain⟨e,y⟩:=y
     subst e
     refine⟨λv=>by rw[zK];exact hσ v,?_⟩
     have q2:=hs i x out _ (y xs q) ho ha p
     rw[<-hσ]at q2
     exact q2
 . have e:i=xs.length:=by omega
   subst e
   exact .inl ⟨⟨xs,q,aO _⟩,hd out H' ho ha p⟩
variable {H':Hp}
def aE.b9{p:Addr}(e:aE H H')(h:H p=none)(o:HO):aE H (upd H' p o):=λb u q=>by rw[ay (aG q h)];exact e b u q
def x6(n d:Int):SeqAt.shaped (.tuple [.int n,.int d])=true:=rfl
def Ql(n d:Int):PyData.eqv (.tuple [.int n,.int d]) (.tuple [.int n,.int d])=true:=by simp[PyData.eqv,PyData.eqvAll]
variable {q:Rat}
def Nt{p:Addr}(h:H p=some (lI q)):Dt K H (.ref p) (.tuple [.int q.num,.int (q.den:Int)]):=.tup (bR.of h) (.cons (.int _) (.cons (.int _) .nil))
inductive V8(vs:Cl V)(H:Hp)(Q:VK)(E:XK):Prop
 |mk(t b:Int)(_:vs=[.int t,.int b])(_:0<b)(_:Jm.Sz 9000 b)(_:∀(r:Addr) (H':Hp),aE H H'->H' r=some (lI (Jm.fr t b))->Q (.ref r) H')
def wX:Sp:=bx (V8)
def CM{t b:Int}(h0:0<b)(h1:Jm.Sz 9000 b)(h:∀(r:Addr) (H':Hp),aE H H'->H' r=some (lI (Jm.fr t b))->Q (.ref r) H'):wX [.int t,.int b] H Q E:=⟨t,b,Z,h0,h1,h⟩
inductive xIs(vs:Cl V)(H:Hp)(Q:VK)(E:XK):Prop
 |mk(p:Addr)(q:Rat)(t b:Int)(_:vs=[.ref p,.int t,.int b])(_:H p=some (lI q))(_:0<b)(_:Jm.Sz 9000 b)(_:q=Jm.fr t b)(_:∀H',aE H H'->Q (.bl true) H')
def LG:Sp:=bx (xIs)
def Nu{p:Addr}{t b:Int}(hp:H p=some (lI q))(h0:0<b)(h1:Jm.Sz 9000 b)(e:q=Jm.fr t b)(h:∀H',aE H H'->Q (.bl true) H'):LG [.ref p,.int t,.int b] H Q E:=⟨p,q,t,b,Z,hp,h0,h1,e,h⟩
section
variable {X:Cx}
theorem Qm(hc:X.calm=true):fJ X (.builtin "sum") (λxs H Q=>∃(a:Addr)(ns:Cl Int),xs=[.ref a]/\aI X.K H a (ns.map V.int)/\Q (.int ns.sum) H):=by
 intro AC s σ H xs us Q I r h;obtain⟨a,ns,rfl,hS,q⟩:=h;obtain⟨u,rfl,ru⟩:=vals1 r;cases ru;obtain⟨BT,rv,p,hz⟩:=I.list hS;have hi:=intsAre_of rv;have hl:=p.isList;obtain⟨o,ho,_⟩:=id hl;have hne:a≠s.heap.objs.size:=dI (bK ho);have W:=(Walks.list (prog:=X.prog) (w:=X.w) (A:=X.A.in1) (I.ok.hd hc) s.heap.objs.size a hne BT.toArray).toS;have z8:BT.length=ns.length:=by rw[<-rv.length,aH]
 refine call_sum_walkAnyS (Lb hl ?_);refine⟨s.heap.objs.size,_,_,_,_,_,_,λi=>ns.getD i 0,Z,W,⟨⟨_,c_ _ rfl,Z,Z⟩,hl.at λo e=>bQ _ e⟩,λb hb=>?_,λi v hP=>?_,λs' t' hm=>?_⟩
 .rcases cV.mp hb with rfl|hb
  .exact bK (c_ _ rfl)
  .obtain rfl:=eU.mp hb;exact bK (bQ _ ho)
 .have Fq:BT[i]?=some v:=by simpa using hP
  have hil:i<ns.length:=by have:=(dW.mp Fq).1;omega
  obtain⟨u,hu,ru⟩:=rv.get (i:=i) (x:=V.int ns[i]) (by rw[cz,a_ hil];rfl);rw[Fq]at hu;cases hu;obtain⟨t,e⟩:=ru;refine⟨t,?_⟩;rw[e];show Value.int ns[i] t=Value.int (ns.getD i 0) t;rw[dP,a_ hil];rfl
 .obtain ⟨h',g',d',tk',os'⟩:=s';have e1:g'=s.gens:=hm.gens;have e2:d'=s.drawn:=hm.drawn;have e3:os'=s.os:=hm.os;subst e1 e2 e3;have hsz:BT.toArray.size=ns.length:=by rw[fc,z8]
  rw[hsz,preSum_getD,KZ (aO _)];exact⟨.int ns.sum,H,I.kept (h':=h') (t':=tk') λb o e=>hm.heap b o (λhb=>absurd (bK e) ((eU.mp hb)▸iK _)) (bQ _ e),⟨t',Z⟩,q⟩
theorem Qn(hc:X.calm=true):fJ X (.builtin "all") (λxs H Q=>∃(a:Addr)(bs:Cl Bool),xs=[.ref a]/\aI X.K H a (bs.map V.bl)/\Q (.bl (bs.all id)) H):=by
 intro AC s σ H xs us Q I r h;obtain⟨a,bs,rfl,hS,q⟩:=h;obtain⟨u,rfl,ru⟩:=vals1 r;cases ru;obtain⟨BT,rv,p,hz⟩:=I.list hS;have hl:=p.isList;obtain⟨o,ho,_⟩:=id hl;have hne:a≠s.heap.objs.size:=dI (bK ho);have z8:BT.length=bs.length:=by rw[<-rv.length,aH]
 refine call_all_walk (Lb hl ?_);refine⟨s.heap.objs.size,_,_,_,_,_,λi=>bs.getD i false,Z,Walks.list (prog:=X.prog) (w:=X.w) (A:=X.A.in1) (I.ok.hd hc) s.heap.objs.size a hne BT.toArray,⟨⟨_,c_ _ rfl,Z,Z⟩,hl.at λo e=>bQ _ e⟩,λi v s' Q' E' hP hQ=>?_,λh' tk hk=>?_⟩
 .have Fq:BT[i]?=some v:=by simpa using hP
  have hil:i<bs.length:=by have:=(dW.mp Fq).1;omega
  obtain⟨u,hu,ru⟩:=rv.get (i:=i) (x:=V.bl bs[i]) (by rw[cz,a_ hil];rfl);rw[Fq]at hu;cases hu;have e:v=Value.bool bs[i] :=ru;subst e;refine yp ?_;have ZY:Q' (bs.getD i false) s':=hQ;rw[dP,a_ hil]at ZY;exact ZY
 .have hsz:BT.toArray.size=bs.length:=by rw[fc,z8]
  have e:(List.range BT.toArray.size).all (λi=>bs.getD i false)=bs.all id:=by
   rw[hsz,wF,mD,mD];refine⟨λz x hx=>?_,λz i hi=>?_⟩
   .obtain ⟨i,hi,e⟩:=List.mem_iff_getElem.mp hx;have:=z i (tY.mpr hi);rw[dP,a_ hi]at this;rw[<-e];exact this
   .have hi':=tY.mp hi;rw[dP,a_ hi'];exact z _ (qW hi')
  rw[e];exact⟨.bl (bs.all id),H,I.kept (h':=h') (t':=tk) λb o e=>hk b o (λhb=>absurd (bK e) ((eU.mp hb)▸iK _)) (bQ _ e),Z,q⟩
end
section
variable {X:Cx}(K:Fg)
def cj(hK:X.K=K:=by rfl):uU X (PU K):=hK▸M7
def aZ(hK:X.K=K:=by rfl):uU X (PR K):=hK▸JL
def Tr(hu:X.A.units+64<cLine)(hK:X.K=K:=by rfl):gq X (compareOp .Eq) (VU K):=hK▸VW hu
def Tt(hu:X.A.units+64<cLine)(hK:X.K=K:=by rfl):gq X (compareOp .NotEq) (VV K):=hK▸VX hu
def jR(hc:X.calm=true)(hK:X.K=K:=by rfl):fJ X (.builtin "sum") (λxs H Q=>∃(a:Addr)(ns:Cl Int),xs=[.ref a]/\aI K H a (ns.map V.int)/\Q (.int ns.sum) H):=hK▸Qm hc
def CN(hc:X.calm=true)(hK:X.K=K:=by rfl):fJ X (.builtin "all") (λxs H Q=>∃(a:Addr)(bs:Cl Bool),xs=[.ref a]/\aI K H a (bs.map V.bl)/\Q (.bl (bs.all id)) H):=hK▸Qn hc
def bL(hK:X.K=K:=by rfl):fJ X (.builtin "len") (λxs H Q=>∃p ys,xs=[.ref p]/\(aI K H p ys\/bR K H p ys)/\Q (.int ys.length) H):=hK▸E7
def DF(hK:X.K=K:=by rfl):fJ X (.type "list") (λxs H Q=>∃p ys,xs=[.ref p]/\(aI K H p ys\/bR K H p ys)/\∀l,H l=none->Q (.ref l) (upd H l (.lst ys))):=hK▸E9
def c7(hK:X.K=K:=by rfl):fJ X (.builtin "isinstance") (λxs H Q=>∃x n t b,xs=[x,.ty n]/\eK K H x t/\PySem.W.kitOne K t (.type n)=some b/\Q (.bl b) H):=hK▸IB
end
theorem IC{l1 l2:Nat}(h1:l1<n)(h2:l2<n):ZipApart (n+4) (n+2) (n+3) n (n+1) l1 l2:=by
 have nn:∀i j:Nat,i≠j->n+i≠n+j:=λi j h e=>h (Nat.add_left_cancel e);have ne:∀(c k:Nat),c<n->c≠n+k:=λc k h=>by omega
 exact⟨nn 2 4 (by decide),nn 3 4 (by decide),nn 0 4 (by decide),nn 1 4 (by decide),nn 2 3 (by decide),nn 2 0 (by decide),nn 2 1 (by decide),nn 3 0 (by decide),nn 3 1 (by decide),nn 0 1 (by decide),ne _ 4 h1,ne _ 3 h1,ne _ 0 h1,ne _ 1 h1,ne _ 4 h2,ne _ 3 h2,ne _ 0 h2,ne _ 1 h2⟩
section
variable {X:Cx}{Ch:Cl Expr}{kk:Nat}{tpos:Pos}
end
inductive YY(K:Fg)(vs:Cl V)(H:Hp)(Q:VK)(E:XK):Prop
 |mk(a:Addr)(ns:Cl Int)(k j:Int)(_:vs=[.ref a,.int k,.int j])(_:aI K H a (ns.map V.int))(_:ns.length<=63)(_:0<=k)(_:0<=j)(_:j<2 ^ 61)(_:∀(m:Int) (H':Hp),1<=m->m<=1000000000->aE H H'->Q (.int m) H')
def Ft(K:Fg):Sp:=bx (YY K)
def Qo{k j:Int}(hS:aI K H a (ns.map V.int))(h63:ns.length<=63)(h1:0<=k)(h2:0<=j)(h3:j<2 ^ 61)(h:∀(m:Int) (H':Hp),1<=m->m<=1000000000->aE H H'->Q (.int m) H'):Ft K [.ref a,.int k,.int j] H Q E:=⟨a,ns,k,j,Z,hS,h63,h1,h2,h3,h⟩
variable {i:Nat}
def gG{v:V}(h:xs[i]?=some v):pR xs (i:Int)=some v:=bh h
section
variable {X:Cx}
inductive YZ(Q:VK)(vs:Cl V)(H1:Hp):Prop
 |mk(j:Int)(_:vs=[.int j])(_:∀p,H1 p=none->Q (.ref p) (upd H1 p (.rA 0 j)))
def abD(ta:TA):TE:=λσ H Q=>ta σ H (YZ Q)
def upTo(n:Nat):Cl Int:=(List.range n).map λi=>((i:Nat):Int)
theorem DG(hc:X.calm=true):fJ X (.type "list") (λxs H Q=>∃(r:Addr)(n:Nat),xs=[.ref r]/\H r=some (.rA 0 (n:Int))/\n<=1000/\∀l,H l=none->Q (.ref l) (upd H l (.lst ((upTo n).map V.int)))):=by
 intro AC s σ H xs us Q I r h;obtain⟨a,n,rfl,hr,hn,q⟩:=h;obtain⟨u,rfl,ru⟩:=vals1 r;cases ru;obtain⟨t,t2,t3,e⟩:=(show c5 X.prog X.w H s.heap a (.rA 0 (n:Int))from I.hok a _ hr)
 refine call_list_range (n:=n) (I.ok.hd hc) e (small_one (by decide) (by decide) (by omega) (by omega)) (by rw[rangeSize_one];split <;> omega) (by omega) λh' tk acc' c' hk hS hI=>?_;obtain⟨hsz,hit⟩:=hI;have hv:Vals ((upTo n).map V.int) acc'.toList:=by
  have gen:∀(m:Nat)(us:Cl Value)(k:Nat),us.length=m->(∀(j:Nat)(v:Value),us[j]?=some v->∃t,v =.int ((0:Int)+((k+j:Nat):Int)*1) t)->Vals (((List.range' k m).map λi=>((i:Nat):Int)).map V.int) us:=by
   intro m
   induction m with
   | zero=>intro us k hl _;rw[List.length_eq_zero_iff.mp hl];exact .nil
   | succ m ih=>
    intro us k hl hu;cases us with
    | nil=>cases hl
    | cons v r=>
     obtain⟨t,e⟩:=hu 0 v rfl;refine .cons ⟨t,?_⟩ (ih r (k+1) (by simpa using hl) λj v' hj=>?_)
     .rw [e];show Value.int _ t=Value.int ((k:Nat):Int) t;congr 1;omega
     .obtain ⟨t,e⟩:=hu (j+1) v' (by simpa using hj);exact⟨t,by rw[e];congr 1;omega⟩
  have:=gen n acc'.toList 0 (by simpa using hsz) λj v hj=>by obtain⟨t,e⟩:=hit j v (by simpa using hj);exact⟨t,by rw[e];congr 1;omega⟩
  unfold upTo;rw[List.range_eq_range'];exact this
 have hlen:((upTo n).map V.int).length<=sizeLine:=by unfold upTo;simp;exact small (by omega)
 exact⟨.ref s.heap.objs.size,_,I.laid (a:=s.heap.objs.size) (o:=.lst ((upTo n).map V.int)) (h':=h') (t':=tk) hk (aO _) ⟨hlen,acc'.toList,c',hv,by simpa using hS⟩,Z,q _ I.fresh⟩
inductive Tu(K:Fg)(Q:VK)(x:V)(y:V)(H2:Hp):Prop
 |mk(_:y =.int (-1))(a xs:_)(_:x =.ref a)(_:aI K H2 a xs)(_:∀p,H2 p=none->Q (.ref p) (upd H2 p (.lst xs.reverse)))
def Y0(K:Fg)(ts:TE)(σ:St)(Q:VK):V->Hp->Prop:=λx H1=>ts σ H1 (Tu K Q x)
def abE(K:Fg)(te ts:TE):TE:=λσ H Q=>te σ H (Y0 K ts σ Q)
end
structure RU(ws as:Cl Int):Prop where
 len:as.length=ws.length
 lo:∀j:Nat,0<=as.getD j 0
 hi:∀j:Nat,as.getD j 0<=ws.getD j 0
 less:as.sum<ws.sum
inductive Qp(K:Fg)(vs:Cl V)(H:Hp)(Q:VK)(E:XK):Prop
 |mk(a b:Addr)(ms ws:Cl Int)(k:Int)(_:vs=[.ref a,.int k,.ref b])(_:aI K H a (ms.map V.int))(_:ms.length<=63)(_:0<=k)(_:aI K H b (ws.map V.int))(_:ws.length<=100)(_:(∀w∈ws,0<=w))(_:0<ws.sum)(_:∀(z:Addr) (as:Cl Int) (H':Hp),aE H H'->H' z=some (.lst (as.map V.int))->H z=none->RU ws as->Q (.ref z) H')
def vj(K:Fg):Sp:=bx (Qp K)
variable {b:Addr}
def ID{ms ws:Cl Int}{k:Int}(hS:aI K H a (ms.map V.int))(h63:ms.length<=63)(h1:0<=k)(hW:aI K H b (ws.map V.int))(hl:ws.length<=100)(hw:∀w∈ws,0<=w)(hp:0<ws.sum)(h:∀(z:Addr) (as:Cl Int) (H':Hp),aE H H'->H' z=some (.lst (as.map V.int))->H z=none->RU ws as->Q (.ref z) H'):vj K [.ref a,.int k,.ref b] H Q E:=⟨a,b,ms,ws,k,Z,hS,h63,h1,hW,hl,hw,hp,h⟩
theorem sum_set:∀(as:Cl Int)(j:Nat)(x:Int),j<as.length->(as.set j x).sum=as.sum-as.getD j 0+x
 | [],j,_,h=>absurd h (Nat.not_lt_zero _)
 | a::r,0,x,_=>by show(x::r).sum=(a::r).sum-a+x;rw[bV,bV];omega
 | a::r,j+1,x,h=>by show(a::r.set j x).sum=(a::r).sum-r.getD j 0+x;rw[bV,bV,sum_set r j x (by simpa using h)];omega
def yy(as:Cl Int)(j k:Nat)(x:Int)(h:j<as.length):(as.set j x).getD k 0=if k=j then x else as.getD k 0:=by
 rw[dP,List.getElem?_set];by_cases e:j=k
 .subst e;rw[aB rfl,aB h,aB rfl];rfl
 .rw [aA e,aA (cW e),<-dP]
variable {as:Cl Int}{j:Nat}
def mem_getD(h:j<as.length):as.getD j 0∈as:=by rw[dP,a_ h];exact qW h
theorem Tv{k:Nat}(h:k<n):xW n (k:Int)=some k:=by unfold xW;rw[aB (by omega),aB (by omega)];rfl
abbrev tx(cs:Cl Nat):Str:=⟨cs.toArray⟩
def Nv(x:Str):tx x.cps.toList=x:=by cases x;rfl
def vm(cs:Cl Nat):(tx cs).length=cs.length:=by show cs.toArray.size=_;rw[fc]
def V9(a b:Cl Nat):(tx a++tx b:Str)=tx (a++b):=by show(⟨a.toArray++b.toArray⟩:Str)=_;simp[tx]
def RV(cs:Cl Nat):It:=⟨λi _=>i<cs.length,λi H v H'=>H'=H/\∃c,cs[i]?=some c/\v =.str (tx [c]),λi _=>cs.length<=i⟩
theorem LH{P:Program}{w:World}{K:Fg}{tg:Expr}(x:Str)(t:Tok)(it:Addr):Turn P w K tg (RV x.cps.toList) [it] it (λi h=>h.IsStrIter it "str_ascii_iterator" x t i) where
 mem:=by simp
 obj:=λi h st b hb=>by
  have e:b=it:=by simpa using hb
  subst e;obtain⟨o,e,c,d⟩:=st;exact⟨o,e,λv z=>by rw[d]at z;cases z⟩
 keep:=λi h h' st k=>let⟨o,ho,r⟩:=st;⟨o,k it (by simp) o ho,r⟩
 item:=by
  intro X hP hw hK hc i AC s σ H E I hf st hg;subst hP hw hK;have hi:i<x.cps.size:=by have hg':i<x.cps.toList.length:=hg;simpa using hg'
  obtain⟨f0,f1,f2,f3,f4,f5⟩:=hf it (by simp);refine wpAny_pyNext_ascii_item st (c:=x.cps[i]) (by simp[hi]) λh' st' sb=>?_;have I1:Inv X AC σ H { s with heap:=h',toks:=s.toks+1 }:=I.turned (t':=s.toks+1) (λb o hb e=>sb.extBut b o hb e) f0 f1 f3 f4 f5;obtain⟨o,e,c,d⟩:=id st';exact⟨_,Z,wO (s:={ s with heap:=h',toks:=s.toks+1 }) e c d (by decide) ⟨.str (tx [x.cps[i]]),H,I1,⟨_,Z⟩,⟨Z,x.cps[i],by simp[hi],Z⟩,st',λb hb=>(hf b hb).1⟩⟩
 done:=by
  intro X hP hw hK hc i AC s σ H E I hf st hg;subst hP hw hK;have hi:x.cps.size<=i:=by have hg':x.cps.toList.length<=i:=hg;simpa using hg'
  obtain⟨f0,f1,f2,f3,f4,f5⟩:=hf it (by simp);exact wpAny_pyNext_ascii_end (I.ok.hd hc) st (by simp;omega) λh' eb=>⟨Z,I.turned (t':=s.toks) (λb o hb e=>eb b o hb e) f0 f1 f3 f4 f5⟩
 self:=λ_ _ _ _ _ st h=>wpAny_pyIter_striter_ascii st h
theorem Ny{P:Program}{w:World}{K:Fg}{tg:Expr}(x:Str)(t:Tok)(it:Addr):Turn P w K tg (RV x.cps.toList) [it] it (λi h=>h.IsStrIter it "str_iterator" x t i) where
 mem:=by simp
 obj:=λi h st b hb=>by
  have e:b=it:=by simpa using hb
  subst e;obtain⟨o,e,c,d⟩:=st;exact⟨o,e,λv z=>by rw[d]at z;cases z⟩
 keep:=λi h h' st k=>let⟨o,ho,r⟩:=st;⟨o,k it (by simp) o ho,r⟩
 item:=by
  intro X hP hw hK hc i AC s σ H E I hf st hg;subst hP hw hK;have hi:i<x.cps.size:=by have hg':i<x.cps.toList.length:=hg;simpa using hg'
  obtain⟨f0,f1,f2,f3,f4,f5⟩:=hf it (by simp);refine wpAny_pyNext_wide_item st (c:=x.cps[i]) (by simp[hi]) λh' st' sb=>?_;have I1:Inv X AC σ H { s with heap:=h',toks:=s.toks+1 }:=I.turned (t':=s.toks+1) (λb o hb e=>sb.extBut b o hb e) f0 f1 f3 f4 f5;obtain⟨o,e,c,d⟩:=id st';exact⟨_,Z,wO (s:={ s with heap:=h',toks:=s.toks+1 }) e c d (by decide) ⟨.str (tx [x.cps[i]]),H,I1,⟨_,Z⟩,⟨Z,x.cps[i],by simp[hi],Z⟩,st',λb hb=>(hf b hb).1⟩⟩
 done:=by
  intro X hP hw hK hc i AC s σ H E I hf st hg;subst hP hw hK;have hi:x.cps.size<=i:=by have hg':x.cps.toList.length<=i:=hg;simpa using hg'
  obtain⟨f0,f1,f2,f3,f4,f5⟩:=hf it (by simp);exact wpAny_pyNext_wide_end (I.ok.hd hc) st (by simp;omega) λh' eb=>⟨Z,I.turned (t':=s.toks) (λb o hb e=>eb b o hb e) f0 f1 f3 f4 f5⟩
 self:=λ_ _ _ _ _ st h=>wpAny_pyIter_striter_wide st h
variable {cs:Cl Nat}
section
variable {X:Cx}{tg:Expr}
inductive Y3(R:It->Hp->Prop)(x:V)(H1:Hp):Prop
 |mk(cs:Cl Nat)(_:x =.str (tx cs))(_:R (RV cs:_) H1)
def V_(te:TE):TI:=λσ H R=>te σ H (Y3 R)
def Wa{l:Expr}{tl:TE}(hl:PE X l tl):PI X tg l (V_ tl):=by
 intro AC s σ H R I h;refine aX (hl AC s σ H _ I h) λv s1 ⟨x,H1,I1,r1,q1⟩=>?_;obtain⟨cs,e,q⟩:=q1;subst e;obtain⟨t,rfl⟩:=r1;have fp:∀b∈[s1.heap.objs.size],mK X AC H1 b:=λb hb=>by
  have e:b=s1.heap.objs.size:=by simpa using hb
  subst e;exact I1.yt (aO _) (I1.hok.fresh (aO _))
 have tw:=@Ny X.prog X.w X.K tg (tx cs) t s1.heap.objs.size;have ta:=@LH X.prog X.w X.K tg (tx cs) t s1.heap.objs.size;cases ha:(tx cs).cps.all (·<128)
 .exact wpAny_pyIter_wide ha ⟨s1.heap.objs.size,[s1.heap.objs.size],_,_,H1,Z,I1.kept (t':=s1.toks) λb o e=>bQ _ e,tw,⟨_,c_ _ rfl,Z,Z⟩,fp,q⟩
 .exact wpAny_pyIter_ascii ha ⟨s1.heap.objs.size,[s1.heap.objs.size],_,_,H1,Z,I1.kept (t':=s1.toks) λb o e=>bQ _ e,ta,⟨_,c_ _ rfl,Z,Z⟩,fp,q⟩
theorem Qq{k:Nat}(Pv:Nat->Cl V->Hp->Prop)(hn:cs.length<=100000)(h0:Pv 0 [] (upd H Ap (.lst [])))(hs:∀(i:Nat) (c:Nat) (out:Cl V) (H1:Hp),cs[i]?=some c->out.length=i->H1 Ap=some (.lst out)->Pv i out H1->te (σ2.set k (some (.str (tx [c])))) H1 (pF Pv i Ap out))(hd:∀(out:Cl V) (H1:Hp),out.length=cs.length->H1 Ap=some (.lst out)->Pv cs.length out H1->Q (.ref Ap) H1):
  wW (RV cs) (oq k) te Ap σ2 H Q:=by
 refine⟨λi m σ' H'=>m=cs.length-i/\i<=cs.length/\(∀v,σ'.set k (some v)=σ2.set k (some v))/\∃out,out.length=i/\H' Ap=some (.lst out)/\Pv i out H',⟨cs.length,by simp,gP _,λ_=>rfl,[],Z,ai,h0⟩,?_⟩
 rintro i m σ' H' ⟨rfl,hi,hσ,out,ho,ha,p⟩
 by_cases hlt:i<cs.length
 . refine .inr ⟨hlt,λσ3=>∀v,σ3.set k (some v)=σ2.set k (some v),(pF Pv i Ap out),λσ3 v H4 hS ⟨a,b⟩=>?_,λx H1 y=>?_⟩
   . refine⟨out,a,?_,cs.length-(i+1),by omega,Z,hlt,hS,out++[v],by rw[cO,ho];rfl,ai,b⟩
     have:sizeLine=16777216:=gQ
     omega
   . obtain⟨e,c,hc,ex⟩:=y
     subst e ex
     refine⟨λv=>by rw[zK];exact hσ v,?_⟩
     have q2:=hs i c out _ hc ho ha p
     rw[<-hσ]at q2
     exact q2
 . have e:i=cs.length:=by omega
   subst e
   exact .inl ⟨aO _,hd out H' ho ha p⟩
end
def vn(signs:Str)(c:Nat):Bool:=!(Builtin.Str.occurrences signs (tx [c]) 0 signs.length 1).isEmpty
def je(c:Int)(n:Nat):Cl Nat:=(List.range n).map λi=>97+((c / 26 ^ i) % 26).toNat
def p5(c:Int)(n:Nat):(je c n).length=n:=by unfold je;rw[aH,List.length_range]
def Qs(c:Int)(n:Nat):je c (n+1)=je c n++[97+((c / 26 ^ n) % 26).toNat] :=by unfold je;rw[List.range_succ,b7];rfl
theorem Nz{k:Int}(h0:0<=k)(h1:k<26):pR (("abcdefghijklmnopqrstuvwxyz":Str).cps.toList) k=some (97+k.toNat):=by
 have h:∀n:Nat,n<26->("abcdefghijklmnopqrstuvwxyz":Str).cps.toList[n]?=some (97+n):=by decide +kernel
 have e:k=((k.toNat:Nat):Int):=by omega
 have:=bh (h k.toNat (by omega));rw[<-e]at this;exact this
structure BH(vs:Cl V)(H:Hp)(Q:VK)(E:XK):Prop where
 ex:∃(c:Int)(n:Nat),vs=[.int c,.int (n:Int)]/\0<=c/\n<=1000/\Q (.str (tx (je c n))) H
def Fv{c ni:Int}(e:ni=(n:Int))(hc:0<=c)(hn:n<=1000)(q:Q (.str (tx (je c n))) H):BH [.int c,.int ni] H Q E:=by subst e;exact⟨c,n,Z,hc,hn,q⟩
inductive Tw(vs:Cl V)(H:Hp)(Q:VK)(E:XK):Prop
 |mk(cs:Cl Nat)(signs:Str)(_:vs=[.str (tx cs),.str signs])(_:cs.length<=100000)(_:∀H',aE H H'->Q (.bl (cs.all (vn signs))) H')
def yz:Sp:=bx (Tw)
def LI{H:Hp}{Q:VK}{E:XK}{cs:Cl Nat}{signs:Str}(hl:cs.length<=100000)(q:∀H',aE H H'->Q (.bl (cs.all (vn signs))) H'):yz [.str (tx cs),.str signs] H Q E:=⟨cs,signs,Z,hl,q⟩
def isName(cs:Cl Nat):Bool:=decide (1<=(cs.length:Int)) && decide ((cs.length:Int)<=8) && cs.all (vn "abcdefghijklmnopqrstuvwxyz")
inductive Tz(vs:Cl V)(H:Hp)(Q:VK)(E:XK):Prop
 |mk(cs:Cl Nat)(_:vs=[.str (tx cs)])(_:cs.length<=100000)(_:∀H',aE H H'->Q (.bl (isName cs)) H')
def qm:Sp:=bx (Tz)
def uo(hl:cs.length<=100000)(q:∀H',aE H H'->Q (.bl (isName cs)) H'):qm [.str (tx cs)] H Q E:=⟨cs,Z,hl,q⟩
def z9{p q:Prop}(h:if true=true then p else q):p:=by rwa [aB rfl]at h
def z_{p q:Prop}(h:if false=true then p else q):q:=by rwa [aA d7]at h
variable {cond:Expr}
section
variable {prog:Program}{w:World}{A:Around}{R:Result->Shared->Prop}{s:Shared}
theorem DH{target:Expr}{pos:Pos}{it Ap:Value}(J:Nat->Shared->Prop)(turn:∀n s,J n s->wpAny (model prog w) A (pyNext it) (λr s₁=>match r with
    | none=>R (.ok .next) s₁
    | some v=>wpAny (model prog w) A (letOwnedTupleGo target it v) (λ_ s₂=>wpAny (model prog w) A (assign target env v) (λ_ s₃=>wpAny (model prog w) A (isTrue cond env (eval cond env)) (λok Wb=>if ok=true then
       wpAny (model prog w) A (eval elt env) (λx s₄=>wpAny (model prog w) A (call (.builtin "list.append") [Ap,x]) (λ_ s₅=>∃m,m<n/\J m s₅) (λ_ _=>False) s₄) (λ_ _=>False) Wb
       else ∃m,m<n/\J m Wb) (λ_ _=>False) s₃) (λ_ _=>False) s₂) (λ_ _=>False) s₁) (λ_ _=>False) s)(n:Nat)(h:J n s):codeAny (model prog w) A (.compLoop (.ListComp elt [⟨target,Bn,[cond],0⟩] scope pos) 0 it Ap env) R s:=by
 refine codeAny_loop rfl J (λn s hI=>?_) n h
 show wpAny _ A ((compTurn (.ListComp elt [⟨target,Bn,[cond],0⟩] scope pos) 0 it Ap env).onRaise (λx=>do noteFrame x env;theTreesLotGoes x)) _ _ s
 refine wpAny_noted ?_
 rw[compTurn_list]
 refine ao (wJ (ao (gZ (turn n s hI) (λr s₁ h₁=>?_) λ_ _ h'=>h'.elim)))
 cases r with
 | none=>exact aK h₁
 | some v=>
   refine ao (gZ h₁ (λ_ s₂ h₂=>ao (gZ h₂ (λ_ s₃ h₃=>?_) λ_ _ h'=>h'.elim)) λ_ _ h'=>h'.elim)
   refine ao (wpAny_tests_one (gZ h₃ (λok Wb ZZ=>?_) λ_ _ h'=>h'.elim))
   cases ok with
   | false=>exact aK ⟨Z,z_ ZZ⟩
   | true=>exact ao (ao (gZ (z9 ZZ) (λx s₄ h₄=>ao (gZ h₄ (λ_ s₅ h₅=>aK (aK ⟨Z,h₅⟩)) λ_ _ h'=>h'.elim)) λ_ _ h'=>h'.elim))
end
variable {tc:TT}{wi:TI}{px pos':Pos}
section
variable {X:Cx}
def Aa(J:It)(g:TG)(tc:TT)(te:TE)(Ap:Addr)(σ₀:St)(H:Hp)(Q:VK):Prop:=∃W:Nat->Nat->St->Hp->Prop,(∃m,W 0 m σ₀ (upd H Ap (.lst [])))/\∀i m σ2 H2,W i m σ2 H2->(J.stop i H2/\Q (.ref Ap) H2)\/(J.go i H2/\∃(S:St->Prop)(N:V->Hp->Prop)(N0:Hp->Prop),(∀σ3 v H4,S σ3->N v H4->∃xs,H4 Ap=some (.lst xs)/\xs.length<sizeLine/\∃m',m'<m/\W (i+1) m' σ3 (upd H4 Ap (.lst (xs++[v]))))/\(∀σ3 H4,S σ3->N0 H4->∃m',m'<m/\W (i+1) m' σ3 H4)/\∀x H',J.zN i H2 x H'->g x σ2 H' λσ3 H3=>S σ3/\tc σ3 H3 λb H4=>if b=true then te σ3 H4 N else N0 H4)
def TF(ix:Cl (Option Nat))(g:TG)(tc:TT)(te:TE)(σ:St)(Q:VK):It->Hp->Prop:=λJ H1=>∀Ap,H1 Ap=none->Aa J g tc te Ap (pick ix σ) H1 Q
def Ab(wi:TI)(ix:Cl (Option Nat))(g:TG)(tc:TT)(te:TE):TE:=λσ H Q=>wi σ H (TF ix g tc te σ Q)
theorem x8{pos:Pos}{ix:Cl (Option Nat)}{g:TG}{s:Shared}{E:VS}{RR:Value->Addr->Result->Shared->Prop}(hc:X.calm=true)(hg:∀cl s₂ H₂ fp,PG (cC X N2 scope cl s₂ H₂ fp) tg g)(he:∀cl s₂ H₂ fp,PE (cC X N2 scope cl s₂ H₂ fp) elt te)(ht:∀cl s₂ H₂ fp,PT (cC X N2 scope cl s₂ H₂ fp) cond tc)(hk:scope.kind =.function)(hn:kO X.N X.env.scope.names scope.names N2 ix=true)(Fl:∀y c,(y,c)∈cl->X.env.cells.lookup y=some c)(BG:∀y,(y,NameKind.free)∈scope.names->∃c,(y,c)∈cl){it:Addr}{fp:Cl Addr}{tn:Nat->Heap->Prop}{J:It}(I:Inv X AC σ H s)(T:Turn X.prog X.w X.K tg J fp it tn)(st:tn 0 s.heap)(f:∀b∈fp,mK X AC H b)(h:∀Ap,H Ap=none->Aa J g tc te Ap (ix.map λo=>o.bind λj=>(σ[j]?).join) H Q)(hR:∀Ap C H' s' m,Inv X AC σ H' s'->s'.heap.Ns C m->H' C=none->C≠X.env.locals->X.s₀.heap.objs.size<=C->(∀x c,X.env.cells.lookup x=some c->c≠C)->(∀p∈X.pn++AC,p.1≠C)->Q (.ref Ap) H'->RR (.ref Ap) C (.ok .next) s'):
  wpAny (model X.prog X.w) X.A (newList []) (λAp s₃=>wpAny (model X.prog X.w) X.A (newFunctionEnv scope X.env.globals cl [] X.env.qual none .none (some X.env)) (λcenv s₄=>
   codeAny (model X.prog X.w) X.A (.compStart (.ListComp elt [⟨tg,Bn,[cond],0⟩] scope pos) 0 (.ref it) Ap { cenv with scope:=relabel scope X.env }) (RR Ap cenv.locals) s₄) E s₃) E s:=by
 obtain⟨k1,k2,k3,k4,k5⟩:=ki hn
 refine nK ?_
 have I3:Inv X AC σ (upd H s.heap.objs.size (.lst [])) { s with heap:=s.heap.push { cls:=.type "list",data:=.seq ([] :Cl Value).toArray } }:=
  I.laid (a:=s.heap.objs.size) (o:=.lst []) (t':=s.toks) (λ_ _ q=>bQ _ q) (aO _) ⟨gP _,[],_,.nil,c_ _ rfl⟩
 obtain⟨W,⟨m0,w0⟩,turn⟩:=h s.heap.objs.size I.fresh
 have fo:∀b∈fp,b<s.heap.objs.size:=λb hb=>by obtain⟨o,e,_⟩:=T.obj 0 _ st b hb;exact bK e
 have st3:tn 0 (s.heap.push { cls:=.type "list",data:=.seq ([] :Cl Value).toArray }):=T.keep _ _ _ st λb _ o e=>bQ _ e
 have f3:∀b∈fp,mK X AC (upd H s.heap.objs.size (.lst [])) b:=λb hb=>⟨by rw[ay (dI (fo b hb))];exact(f b hb).1,(f b hb).2⟩
 have Nn:∀b∈fp,b<(s.heap.push { cls:=.type "list",data:=.seq ([] :Cl Value).toArray }).objs.size:=λb hb=>by rw[j9];exact Ld (fo b hb)
 generalize V2:({ s with heap:=s.heap.push { cls:=.type "list",data:=.seq ([] :Cl Value).toArray } }:Shared)=s3 at *
 have V3:s3.heap=s.heap.push { cls:=.type "list",data:=.seq ([] :Cl Value).toArray }:=by rw[<-V2]
 rw[<-V3]at st3 Nn
 generalize s.heap.objs.size=Ap at *
 generalize eH3:upd H Ap (.lst [])=H3 at *
 have IY:=zX (N2:=N2) (scope:=scope) (cl:=cl) (fp:=fp) (σ2:=ix.map λo=>o.bind λj=>(σ[j]?).join) I3 hk Fl BG f3 Nn (by rw[aH];exact k1) (λi x v e1 e2=>by
  rw[cz]at e2;cases ei:ix[i]? with
  | none=>rw[ei]at e2;cases e2
  | some o=>
   rw[ei]at e2;cases o with
   | none=>cases e2
   | some j=>
    obtain⟨a1,a2,a3⟩:=k2 i x j e1 ei;refine⟨a2,a3,j,a1,?_⟩;have e3:(σ[j]?).join=some v:=fh e2;cases ej:σ[j]? with
    | none=>rw[ej]at e3;cases e3
    | some z=>rw[ej]at e3;exact fY some e3) k5
 have ne:wpAny (model X.prog X.w) X.A (newFunctionEnv scope X.env.globals cl [] X.env.qual none .none (some X.env)) (λcenv s₄=>
   cenv={ scope:=scope,locals:=s3.heap.objs.size,globals:=X.env.globals,cells:=cellsFrom (s3.heap.objs.size+1) scope.names cl,qual:=X.env.qual,func:=none,code:=X.env.code,frame:=X.env.frame,builtins:=X.env.builtins }/\
   s₄={ s3 with heap:=pushCells (s3.heap.push { cls:=.type "dict",data:=.dict #[] }) scope.names }) E s3:=by
  simp only[newFunctionEnv,Option.isSome_some,if_true]
  refine ao (wpAny_alloc ?_)
  refine ao (wpAny_layCells _ (λname kind cells=>by cases hkc:kind==NameKind.cell <;> simp[hkc]) _ _ _ _ ?_)
  rw[zy]
  refine ao (aK (aK ⟨?_,Z⟩))
  rw[show({ s3 with heap:=s3.heap.push { cls:=.type "dict",data:=.dict #[] } }:Shared).heap.objs.size=s3.heap.objs.size+1 from j9 ..]
 refine aX ne λcenv s4 ⟨e1,e2⟩=>?_
 subst e1 e2
 have Np:tn 0 (pushCells (s3.heap.push { cls:=.type "dict",data:=.dict #[] }) scope.names):=T.keep _ _ _ st3 λb _ o e=>Er _ _ b o (bQ _ e)
 have vh:s3.heap.objs.size≠X.env.locals:=wK I3.lt
 have qj:∀{H':Hp},(∀b∈fp,H' b=none)->∀b∈fp,mK (cC X N2 scope cl s3 H3 fp) [] H' b:=λ{H'} hn b hb=>
  ⟨hn b hb,(IY.ok.JB b hb).1,IY.ok.BA b hb,.inl hb,(IY.ok.JB b hb).2,λp hp=>nomatch hp⟩
 have loop:codeAny (model X.prog X.w) X.A (.compLoop (.ListComp elt [⟨tg,Bn,[cond],0⟩] scope pos) 0 (.ref it) (.ref Ap) (cC X N2 scope cl s3 H3 fp).env) (RR (.ref Ap) s3.heap.objs.size)
   { s3 with heap:=pushCells (s3.heap.push { cls:=.type "dict",data:=.dict #[] }) scope.names }:=by
  refine DH (λn s'=>∃i σ' H',Inv (cC X N2 scope cl s3 H3 fp) [] σ' H' s'/\tn i s'.heap/\(∀b∈fp,H' b=none)/\W i n σ' H') ?_ m0 ⟨0,_,H3,IY,Np,λb hb=>(f3 b hb).1,w0⟩
  rintro n s5 ⟨i,σ5,H5,I5,zZ,Fo,w5⟩
  rcases turn i n σ5 H5 w5 with⟨stop,qn⟩|⟨go,S,N,N0,V4,hS0,step⟩
  . refine aX (T.done (cC X N2 scope cl s3 H3 fp) rfl rfl rfl hc i [] s5 σ5 H5 (λ_ _=>False) I5 (qj Fo) zZ stop) λr s6 ⟨hr,I6⟩=>?_
    subst hr
    obtain⟨m6,V5,_⟩:=id I6.loc
    have IX:Inv X AC σ H5 s6:=I3.RE (ch:=fp) I6.os I6.base I6.hok I6.bare λb hb=>⟨(f3 b hb).2.2.2.1,(f3 b hb).2.1,(f3 b hb).2.2.2.2.1,(f3 b hb).2.2.2.2.2⟩
    refine hR Ap s3.heap.objs.size H5 s6 m6 IX V5 I6.free vh I3.sz (λx c e z=>?_) (λp hp z=>?_) qn
    . obtain⟨v,q⟩:=I3.cell x c e
      exact absurd q.lt (by rw[z];exact iK _)
    . exact absurd (bK (I3.pin p hp).1) (by rw[z];exact iK _)
  . refine aX (T.item (cC X N2 scope cl s3 H3 fp) rfl rfl rfl hc i [] s5 σ5 H5 (λ_ _=>False) I5 (qj Fo) zZ go) λr s6 ⟨u,hr,h6⟩=>?_
    subst hr
    refine aX h6 λ_ s7 ⟨x,H7,I7,r7,y7,z6,Nq⟩=>?_
    have V6:=I7.pinned (qj Nq) (T.obj _ _ z6)
    refine aX (hg cl s3 H3 fp _ s7 σ5 H7 x u _ V6 r7 (step x H7 y7)) λ_ s8 ⟨σ8,H8,I8,RT,q8⟩=>?_
    refine aX (ht cl s3 H3 fp _ s8 σ8 H8 _ I8 q8) λok s9' ⟨Z0,RW,Z1⟩=>?_
    cases ok with
    | false=>
      obtain⟨m',hm,w9⟩:=hS0 σ8 Z0 RT (z_ Z1)
      refine ite_ff ⟨m',hm,i+1,σ8,_,RW.nM,T.keep _ _ _ z6 λb hb o e=>(RW.pin (b,o) (gi _ (gi _ (g_ hb e)))).1,λb hb=>?_,w9⟩
      obtain⟨o,e,d⟩:=T.obj _ _ z6 b hb
      exact(RW.pin (b,o) (gi _ (gi _ (g_ hb e)))).2.1
    | true=>
      refine ite_tt ?_
      refine aX (he cl s3 H3 fp _ s9' σ8 Z0 _ RW (z9 Z1)) λy s9 ⟨v,H9,I9,r9,q9⟩=>?_
      obtain⟨xs,hxs,V7,m',hm,w9⟩:=V4 σ8 v H9 RT q9
      refine aX (gF _ s9 σ8 H9 (.ref Ap) [v] (.ref Ap) [y] (λz z7=>z =.b8/\z7=upd H9 Ap (.lst (xs++[v]))) I9 rfl (.cons r9 .nil) ⟨Ap,xs,v,Z,Z,hxs,V7,Z,Z⟩) λz s10 ⟨zv,z7,Fp,r10,ez,eH⟩=>?_
      subst eH
      refine⟨m',hm,i+1,σ8,_,Fp.nM,T.keep _ _ _ z6 λb hb o e=>(Fp.pin (b,o) (gi _ (gi _ (g_ hb e)))).1,λb hb=>?_,w9⟩
      obtain⟨o,e,d⟩:=T.obj _ _ z6 b hb
      exact(Fp.pin (b,o) (gi _ (gi _ (g_ hb e)))).2.1
 exact codeAny_compStart_list loop (T.self _ 0 _ _ _ Np loop)
def Qt{pos:Pos}(N2:Cl Str)(ix:Cl (Option Nat)){g:TG}(hc:X.calm=true)(hi:PI X tg Bn wi)(hg:∀cl s₂ H₂ fp,PG (cC X N2 scope cl s₂ H₂ fp) tg g)(he:∀cl s₂ H₂ fp,PE (cC X N2 scope cl s₂ H₂ fp) elt te)(ht:∀cl s₂ H₂ fp,PT (cC X N2 scope cl s₂ H₂ fp) cond tc)(hk:scope.kind =.function)(hn:kO X.N X.env.scope.names scope.names N2 ix=true)(hs:∀x,foldedSetIterable Bn X.env x=pure x:=by intro _;rfl):
  PE X (.ListComp elt [⟨tg,Bn,[cond],0⟩] scope pos) (Ab wi ix g tc te):=by
 intro AC s σ H Q I h
 obtain⟨k1,k2,k3,k4,k5⟩:=ki hn
 obtain⟨cl,Fw,c1,c2⟩:=pZ (scope:=scope) (env:=X.env) λy hy e=>I.ok.has y.1 (k3 y hy e)
 rw[eval_ListComp]
 refine KR (use:=none) rfl hs Fw hk k4 (aX (hi AC s σ H _ I h) λv s1 h1=>aX h1 λitv s2 h2=>?_)
 obtain⟨it,fp,tn,J,H2,e,I2,T,st2,f2,h2⟩:=h2
 subst e
 refine x8 (RR:=λAp C=>compPost (model X.prog X.w) X.A X.xe none (EP X AC σ Q) Ap C) (Q:=Q) hc hg he ht hk hn (λy c m=>(c1 y c m).1) c2 I2 T st2 f2 h2 ?_
 intro Ap C H' s' m I' ns vh hL hsz mR ur q
 exact⟨m,ns,λh' hs'=>⟨.ref Ap,H',I'.turned (it:=C) (t':=s'.toks) (λb o hb e=>(hs'.2 b hb).trans e) vh hL (.inr hsz) mR ur,Z,q⟩⟩
def Qu{pos:Pos}(N2:Cl Str)(ix:Cl (Option Nat)){g:TG}(hN:X.N.Nodup)(hi:X.N[i]?=some x)(hx:X.env.scope.names.lookup x=some .local)(hc:X.calm=true)(hit:PI X tg Bn wi)(hg:∀cl s₂ H₂ fp,PG (cC X N2 scope cl s₂ H₂ fp) tg g)(he:∀cl s₂ H₂ fp,PE (cC X N2 scope cl s₂ H₂ fp) elt te)(ht:∀cl s₂ H₂ fp,PT (cC X N2 scope cl s₂ H₂ fp) cond tc)(hk:scope.kind =.function)(hn:kO X.N X.env.scope.names scope.names N2 ix=true)(hw:swapsWith (.ListComp elt [⟨tg,Bn,[cond],0⟩] scope pos) (some (.Name x px)) pos'.line X.env=pure true)(hs:∀x,foldedSetIterable Bn X.env x=pure x:=by intro _;rfl):
  PS X (.Assign [.Name x px] (.ListComp elt [⟨tg,Bn,[cond],0⟩] scope pos) pos') (E2 (Ab wi ix g tc te) (oq i)):=by
 intro AC s σ H D I h
 obtain⟨k1,k2,k3,k4,k5⟩:=ki hn
 obtain⟨cl,Fw,c1,c2⟩:=pZ (scope:=scope) (env:=X.env) λy hy e=>I.ok.has y.1 (k3 y hy e)
 rw[exec_Assign_Name_used _ _ _ _ hw]
 refine ao (wJ (ao ?_))
 show wpAny _ X.A (do let _ <-comprehension (.ListComp elt [⟨tg,Bn,[cond],0⟩] scope pos) scope X.env _ (newList []) false (eval Bn X.env) (some (assign (.Name x px) X.env))) _ _ s
 refine ao (aX (KR (use:=some (assign (.Name x px) X.env)) (Q:=λ_ s'=>SP X AC D .next s') rfl hs Fw hk k4 (aX (hit AC s σ H _ I h) λv s1 h1=>aX h1 λitv s2 h2=>?_)) λ_ s' hq=>aK (aK hq))
 obtain⟨it,fp,tn,J,H2,e,I2,T,st2,f2,h2⟩:=h2
 subst e
 refine x8 (RR:=λAp C=>compPost (model X.prog X.w) X.A X.xe (some (assign (.Name x px) X.env)) (λ_ s'=>SP X AC D .next s') Ap C) (Q:=λv H'=>D.nx (σ.set i (some v)) H') hc hg he ht hk hn (λy c m=>(c1 y c m).1) c2 I2 T st2 f2 h2 ?_
 intro Ap C H' s' m I' ns vh hL hsz mR ur q
 show wpAny _ X.A (assign (.Name x px) X.env (.ref Ap)) _ _ _
 refine wpAny_assign_Name (u6 I' hN hi (.inl hx) (v:=.ref Ap) rfl (λs3 I3 ⟨a,sb,ha⟩=>?_) (.inr hx))
 have ca:C≠a:=by
  rcases ha with z|z
  .rw [z];exact hL
  .exact λe=>mR x a z e.symm
 exact⟨m,ns.sameBut sb ca,λh' hs'=>⟨_,H',I3.turned (it:=C) (t':=s3.toks) (λb o hb e=>(hs'.2 b hb).trans e) vh hL (.inr hsz) mR ur,q⟩⟩
end
theorem yC{α:Type}[DecidableEq α] :∀{l m:Cl α},l.Nodup->(∀x∈l,x∈m)->l.length<=m.length
 | [],_,_,_=>gP _
 | x::r,m,h,hs=>by
  have hn:=fj.mp h;have hx:=hs x cD;have:=yC (l:=r) (m:=m.erase x) hn.2 λy hy=>by have hne:y≠x:=λe=>hn.1 (e▸hy);exact(List.mem_erase_of_ne hne).mpr (hs y (ck _ hy))
  rw[List.length_erase_of_mem hx]at this;have hp:0<m.length:=List.length_pos_of_mem hx;rw[kC];omega
def NB(c:Int)(h:i<n):(je c n)[i]?=some (97+((c / 26 ^ i) % 26).toNat):=by unfold je;rw[cz,List.getElem?_range h];rfl
theorem JR{c c':Int}{d:Nat}(h:d<n)(e:je c n=je c' n):(c / 26 ^ d) % 26=(c' / 26 ^ d) % 26:=by have h1:=NB c h;rw[e,NB c' h]at h1;have h2:=fh h1;have a0:0<=(c / 26 ^ d) % 26:=kU _ (by decide);have b0:0<=(c' / 26 ^ d) % 26:=kU _ (by decide);omega
theorem TH{c c':Int}(h:2<=n)(e:je c n=je c' n):c % 676=c' % 676:=by have h0:=JR (d:=0) (by omega) e;have h1:=JR (d:=1) (by omega) e;rw[Int.pow_zero,rj,rj]at h0;rw[show(26:Int) ^ 1=26 from rfl]at h1;omega
structure fR(x:Cl Nat):Prop where
 lo:1<=x.length
 hi:x.length<=8
 BI:∀c∈x,97<=c/\c<123
theorem Wc(c:Int)(h1:1<=n)(h2:n<=8):fR (je c n):=by refine⟨by rw[p5];exact h1,by rw[p5];exact h2,λx hx=>?_⟩;obtain⟨i,_,rfl⟩:=bu.mp hx;have a0:0<=(c / 26 ^ i) % 26:=kU _ (by decide);have a1:(c / 26 ^ i) % 26<26:=tV _ (by decide);omega
def qo(nss:Cl (Cl Nat)):Cl V:=nss.map λx=>V.str (tx x)
def Qv(nss:Cl (Cl Nat)):(qo nss).all pX=true:=by unfold qo;rw[List.all_map,mD];exact λ_ _=>rfl
def NC{a b:Cl Nat}(h:tx a=tx b):a=b:=by
 have:a.toArray=b.toArray:=by injection h
 simpa using this
def TJ(x:Cl Nat)(nss:Cl (Cl Nat)):JM (.str (tx x)) (qo nss)=decide (x∈nss):=by
 unfold JM qo;rw[List.any_map,wF,List.any_eq_true,decide_eq_true_eq];constructor
 .rintro ⟨y,hy,e⟩;have e2:uV (.str (tx y)) (.str (tx x))=true:=e;have e3:tx y=tx x:=by unfold uV at e2;simpa using e2
  rw[<-NC e3];exact hy
 .intro h;refine⟨x,h,?_⟩;show uV (.str (tx x)) (.str (tx x))=true;unfold uV;simp
inductive LJ(K:Fg)(vs:Cl V)(H:Hp)(Q:VK)(E:XK):Prop
 |mk(a:Addr)(ms:Cl Int)(k:Int)(BM:Nat)(_:vs=[.ref a,.int k,.int (BM:Int)])(_:aI K H a (ms.map V.int))(_:ms.length<=63)(_:0<=k)(_:BM<=100)(_:∀(z:Addr) (nss:Cl (Cl Nat)) (H':Hp),aE H H'->H' z=some (.lst (qo nss))->H z=none->nss.length=BM->nss.Nodup->(∀x∈nss,fR x/\2<=x.length)->Q (.ref z) H')
def sf(K:Fg):Sp:=bx (LJ K)
def uW{ms:Cl Int}{k mi:Int}{BM:Nat}(hmi:mi=(BM:Int))(hS:aI K H a (ms.map V.int))(h63:ms.length<=63)(h1:0<=k)(h2:BM<=100)(h:∀(z:Addr) (nss:Cl (Cl Nat)) (H':Hp),aE H H'->H' z=some (.lst (qo nss))->H z=none->nss.length=BM->nss.Nodup->(∀x∈nss,fR x/\2<=x.length)->Q (.ref z) H'):sf K [.ref a,.int k,.int mi] H Q E:=by
 subst hmi
 exact⟨a,ms,k,BM,Z,hS,h63,h1,h2,h⟩
variable {nss:Cl (Cl Nat)}{t:Nat}
theorem Qw{c:Int}(h2:2<=n)(ht:t<=676)(h:∀j:Nat,j<t->je (c+(j:Int)) n∈nss):t<=nss.length:=by
 have hn:((List.range t).map λj=>je (c+((j:Nat):Int)) n).Nodup:=by have:(List.range t).Pairwise (λa b=>a<b):=List.pairwise_lt_range;refine List.Pairwise.map _ ?_ (List.Pairwise.and_mem.mp this);rintro a b ⟨ha,hb,hab⟩ e;have ha':=tY.mp ha;have hb':=tY.mp hb;have:=TH h2 e;omega
 have:=yC hn λx hx=>by obtain⟨j,hj,rfl⟩:=bu.mp hx;exact h j (tY.mp hj)
 rw[aH,List.length_range]at this;exact this
abbrev Pr:=Cl Nat×Int
open PySem.NumText
section
variable {X:Cx}
end
def Qx(lo st:Int)(n:Nat):It:=⟨λi _=>i<n,λi H x H'=>H'=H/\x =.int (lo+i*st),λi _=>n<=i⟩
variable {P:Program}{w:World}
theorem IE(it:Addr)(lo st:Int)(n:Nat):Turn P w K tg (Qx lo st n) [it] it (λi h=>IsRangeIter h it (lo+(i:Nat)*st) ((n:Int)-(i:Nat)) st) where
 mem:=by simp
 obj:=λi h st b hb=>by
  have e:b=it:=by simpa using hb
  subst e;exact⟨_,st,λv z=>by have z':Data.fields _=Data.cell v:=z;cases z'⟩
 keep:=λi h h' st k=>k it (by simp) _ st
 item:=by intro X hP hw hK hc i AC s σ H E I hf st' hg;subst hP hw hK;obtain⟨f0,f1,f2,f3,f4,f5⟩:=hf it (by simp);have W:=Walks.range (prog:=X.prog) (w:=X.w) (I.ok.hd hc) it lo st n;refine W.item i s _ _ hg st' λv h' tk hv st2 kk=>?_;obtain⟨t,rfl⟩:=hv;have I1:Inv X AC σ H { s with heap:=h',toks:=tk }:=I.turned (λb o hb e=>kk b o (by simpa using hb) e) f0 f1 f3 f4 f5;exact⟨_,Z,wO (s:={ s with heap:=h',toks:=tk }) (n:="range_iterator") st2 rfl rfl (by decide) ⟨.int (lo+i*st),H,I1,⟨t,Z⟩,⟨Z,Z⟩,st2,λb hb=>(hf b hb).1⟩⟩
 done:=by intro X hP hw hK hc i AC s σ H E I hf st' hg;subst hP hw hK;obtain⟨f0,f1,f2,f3,f4,f5⟩:=hf it (by simp);exact wpAny_pyNext_range_end (I.ok.hd hc) st' (by have:n<=i:=hg;omega) λh' eb=>⟨Z,I.turned (t':=s.toks) (λb o hb e=>eb b o hb e) f0 f1 f3 f4 f5⟩
 self:=λ_ _ _ _ _ st h=>wpAny_pyIter_rangeiter st h
section
variable {X:Cx}{tg:Expr}
def nP(lo hi st:Int):Nat:=(Builtin.Range.rangeSize lo hi st).toNat
inductive Wd(R:It->Hp->Prop)(vs:Cl V)(H1:Hp):Prop
 |mk(i j k:Int)(_:vs=[.int i,.int j,.int k])(_:(0<=i/\i<=1000000/\0<=j/\j<=1000000/\0<k/\k<=1000000))(_:R (Qx i k (nP i j k)) H1)
def Y4(ta:TA):TI:=λσ H R=>ta σ H (Wd R)
theorem IF{a b c:Int}(h1:0<=a)(h2:a<=1000000)(h3:0<=b)(h4:b<=1000000)(h5:0<c)(h6:c<=1000000):Builtin.Range.small a b c=true/\0<=Builtin.Range.rangeSize a b c:=by
 have hr:0<=Builtin.Range.rangeSize a b c/\Builtin.Range.rangeSize a b c<=1000001:=by
  unfold Builtin.Range.rangeSize;rw[aB (by omega)];split
  .have e0:0<=(b-a-1) / c:=Eo (by omega) (by omega);have e1:(b-a-1) / c<=b-a-1:=El _ (by omega);omega
  .omega
 refine⟨?_,hr.1⟩;unfold Builtin.Range.small;simp only[Builtin.Range.rangeFitsLong,ES,Bool.or_eq_true,decide_eq_true_eq,pW,show c>0 from h5,if_true];omega
end
def TL(signs:Str)(c:Nat):vn signs c=decide (c∈signs.cps.toList):=PySem.StrLaws.found_one signs c
open Builtin Builtin.Str
section
variable {X:Cx}
end
def vo{a:Cl (Key×V)}{b:Cl (Key×Value)}(r:KV a b):∀{j:Nat}{p:Key×V},a[j]?=some p->∃q,b[j]?=some q/\p.1=q.1/\RelV p.2 q.2:=by
 induction r with
 | nil=>intro j p z;simp at z
 | cons r1 _ ih=>
  intro j p z;cases j with
  | zero=>simp at z;subst z;exact⟨_,Z,r1⟩
  | succ j=>simp at z;obtain⟨q,a1,a2⟩:=ih z;exact⟨q,by simpa using a1,a2⟩
abbrev lY(H:Hp)(d:Addr)(o:Obj)(AT:Cl (Key×V)):Prop:=H d=some (.dz o (.dK AT))
section
variable {X:Cx}{AC:AO}{σ σ':St}{H H':Hp}{s s':Shared}{d:Addr}{AT:Cl (Key×V)}{o:Obj}
def Inv.freeze(I:Inv X AC σ H s)(e:H d=some (.dK AT))(ho:s.heap.get? d=some o):Inv X AC σ (upd H d (.dz o (.dK AT))) s:=by
 have nd:∀{b:Addr},H b=none->b≠d:=λh z=>by rw[z,e]at h;cases h
 have dn:∀{b:Addr},H b=none->upd H d (.dz o (.dK AT)) b=none:=λh=>by rw[ay (nd h)];exact h
 have un:∀{b:Addr}{u:HO},H b=some u->(∀k,u ≠ .dK k)->b≠d:=λh k z=>by rw[z,e]at h;cases h;exact k _ rfl
 refine⟨I.ok,I.os,I.bare,⟨I.base.keep,I.base.slot,λb ob q n x=>dn (I.base.free b ob q n x),I.base.there,λb xs q=>?_,λb ob u q=>?_,λb ps q=>?_⟩,I.loc,I.cell,dn I.free,λx c q=>dn (I.kW x c q),λp hp=>?_,λb ob q=>?_,I.len⟩
 .have:=I.base.tups b xs q;rw[ay (un this λk z=>by cases z)];exact this
 .have:=I.base.o9 b ob u q;rw[ay (un this λk z=>by cases z)];exact this
 .obtain ⟨more,this⟩:=I.base.rZ b ps q;exact⟨more,by rw[ay (un this λk z=>by cases z)];exact this⟩
 .obtain ⟨h1,h2,h3⟩:=I.pin p hp;exact⟨h1,dn h2,h3⟩
 .by_cases hb:b=d
  .subst hb;rw[ai]at q;cases q;have:=I.hok b _ e;exact⟨ho,this⟩
  .rw [ay hb]at q;refine(I.hok b ob q).stay (λc u _ z=>z) (λc z=>?_) λc xs z=>?_
   .rw [ay (un z λk z=>by cases z)];exact z
   .rw [ay (un z λk z=>by cases z)];exact z
def Inv.yD(I:Inv X AC σ H s)(e:lY H d o AT)(h0:∀o u,X.H₀ d≠some (.dz o u)):Inv X AC σ (upd H d (.dK AT)) s:=by
 have nd:∀{b:Addr},H b=none->b≠d:=λh z=>by rw[z]at h;exact absurd (h.symm.trans e) (by simp)
 have dn:∀{b:Addr},H b=none->upd H d (.dK AT) b=none:=λh=>by rw[ay (nd h)];exact h
 have un:∀{b:Addr}{u:HO},H b=some u->(∀o k,u ≠ .dz o k)->b≠d:=λh k z=>by rw[z]at h;have:=h.symm.trans e;cases this;exact k _ _ rfl
 refine⟨I.ok,I.os,I.bare,⟨I.base.keep,I.base.slot,λb ob q n x=>dn (I.base.free b ob q n x),I.base.there,λb xs q=>?_,λb ob u q=>?_,λb ps q=>?_⟩,I.loc,I.cell,dn I.free,λx c q=>dn (I.kW x c q),λp hp=>?_,λb ob q=>?_,I.len⟩
 .have:=I.base.tups b xs q;rw[ay (un this λ_ k z=>by cases z)];exact this
 .have:=I.base.o9 b ob u q;rw[ay (λ(z:b=d)=>h0 ob u (by rw[<-z];exact q))];exact this
 .obtain ⟨more,this⟩:=I.base.rZ b ps q;exact⟨more,by rw[ay (un this λ_ k z=>by cases z)];exact this⟩
 .obtain ⟨h1,h2,h3⟩:=I.pin p hp;exact⟨h1,dn h2,h3⟩
 .by_cases hb:b=d
  .subst hb;rw[ai]at q;cases q;exact(I.hok b _ e).2
  .rw [ay hb]at q;refine(I.hok b ob q).stay (λc u _ z=>z) (λc z=>?_) λc xs z=>?_
   .rw [ay (un z λ_ k z=>by cases z)];exact z
   .rw [ay (un z λ_ k z=>by cases z)];exact z
def Inv.ND(I:Inv X AC σ H s)(e:H d=some (.dK AT)):∀o u,X.H₀ d≠some (.dz o u):=λo u z=>by have:=I.base.o9 d o u z;rw[e]at this;cases this
def Inv.oz(I:Inv X AC σ H s)(e:lY H d o AT):s.heap.get? d=some o/\AT.length<=sizeLine/\(d==sysModules)=false/\∃vs ep,KV AT vs/\s.heap.DictAt (bZ X.prog X.w) d vs ep:=by
 obtain⟨ho,hz,hs,vs,r,dd⟩:=(show c5 X.prog X.w H s.heap d (.dz o (.dK AT))from I.hok d _ e)
 obtain⟨ep,da⟩:=dd.dictAt;exact⟨ho,hz,hs,vs,ep,r,da⟩
end
def Ends.yD(D:Ends)(d:Addr)(o:Obj)(AT:Cl (Key×V)):Ends where
 nx:=λσ H=>lY H d o AT/\D.nx σ (upd H d (.dK AT))
 rt:=λv H=>lY H d o AT/\D.rt v (upd H d (.dK AT))
 bk:=λσ H=>lY H d o AT/\D.bk σ (upd H d (.dK AT))
 ct:=λσ H=>lY H d o AT/\D.ct σ (upd H d (.dK AT))
inductive abF(t:TS)(D:Ends)(σ:St)(H:Hp):Prop
 |mk(d AT:_)(_:H d=some (.dK AT))(_:∀o,t (D.yD d o AT) σ (upd H d (.dz o (.dK AT))))
def abG(t:TE):TE:=λσ H Q=>∃d AT,H d=some (.dK AT)/\∀o,t σ (upd H d (.dz o (.dK AT))) λv H'=>lY H' d o AT/\Q v (upd H' d (.dK AT))
def Z2(d:Addr)(o:Obj)(AT:Cl (Key×V)):It:=⟨λi H=>lY H d o AT/\i<AT.length,λi H x H'=>H'=H/\∃p,AT[i]?=some p/\x=p.2,λi H=>lY H d o AT/\AT.length<=i⟩
def Z3(d:Addr)(o:Obj)(AT:Cl (Key×V)):It:=⟨λi H=>lY H d o AT/\i<AT.length,λi H x H'=>∃a p,H a=none/\AT[i]?=some p/\x =.ref a/\H'=upd H a (.tup [kV p.1,p.2]),λi H=>lY H d o AT/\AT.length<=i⟩
variable {h:Heap}{d:Addr}{es:Array DictEntry}
def wY{vs:Cl (Key×Value)}{e1 e2:Nat}{o:Obj}(da:h.DictAt (bZ P w) d vs e1)(ho:h.get? d=some o)(hd:o.data =.dict es e2):e1=e2:=by obtain⟨o',es',h1,_,h2,_⟩:=da;rw[ho]at h1;cases h1;rw[hd]at h2;cases h2;rfl
def NF{k:Key}{v:Value}(h:(bZ P w).is k v=true):RelV (kV k) v:=by
 rw[Lh]at h;rcases eT h with⟨i,t,rfl,rfl⟩|⟨x,t,rfl,rfl⟩
 .exact ⟨t,Z⟩
 .exact ⟨t,Z⟩
variable {it:Addr}{AT:Cl (Key×V)}{ep:Nat}
theorem NG{o:Obj}(hd:o.data =.dict es ep):Turn P w K tg (Z2 d o AT) [it] it (λi h=>h.IsValIter it d i AT.length ep) where
 mem:=by simp
 obj:=λi h st b hb=>by
  have e:b=it:=by simpa using hb
  subst e;obtain⟨o,e,c,d⟩:=st;exact⟨o,e,λv z=>by rw[d]at z;cases z⟩
 keep:=λi h h' st k=>st.at λo e=>k it (by simp) o e
 item:=by intro X hP hw hK hc i AC s σ H E I hf st hg;subst hP hw hK;obtain⟨hz,hlt⟩:=hg;obtain⟨ho,_,_,vs,nI,r,da⟩:=I.oz hz;cases wY da ho hd;have hl:AT.length=vs.length:=r.length;obtain⟨q,hq,_,rq⟩:=vo r (a_ hlt);obtain⟨qk,qv⟩:=q;rw[hl]at st;obtain⟨f0,f1,f2,f3,f4,f5⟩:=hf it (by simp);refine wpAny_pyNext_values_item st da hq λh' st' sb=>?_;have I1:Inv X AC σ H { s with heap:=h' }:=I.turned (t':=s.toks) (λb o hb e=>(sb.2 b hb).trans e) f0 f1 f3 f4 f5;obtain⟨oi,e,c,dd⟩:=id st';exact⟨_,Z,wO (s:={ s with heap:=h' }) e c dd (by decide) ⟨AT[i].2,H,I1,rq,⟨Z,AT[i],a_ hlt,Z⟩,by rw[hl];exact st',λb hb=>(hf b hb).1⟩⟩
 done:=by intro X hP hw hK hc i AC s σ H E I hf st hg;subst hP hw hK;obtain⟨hz,hle⟩:=hg;obtain⟨ho,_,_,vs,nI,r,da⟩:=I.oz hz;cases wY da ho hd;have hl:AT.length=vs.length:=r.length;rw[hl]at st;obtain⟨f0,f1,f2,f3,f4,f5⟩:=hf it (by simp);exact wpAny_pyNext_values_end (I.ok.hd hc) st da (by rw[rX];omega) λh' eb=>⟨Z,I.turned (t':=s.toks) (λb o hb e=>eb b o hb e) f0 f1 f3 f4 f5⟩
 self:=λ_ _ _ _ _ st h=>wpAny_pyIter_valiter st h
variable {Ch:Cl Expr}
theorem LK{kk:Nat}{pos:Pos}{o:Obj}(hd:o.data =.dict es ep):Turn P w K (.Tuple Ch kk pos) (Z3 d o AT) [it] it (λi h=>∃ok ov,IsItemIter h it d i AT.length ep ok ov) where
 mem:=by simp
 obj:=λi h st b hb=>by
  have e:b=it:=by simpa using hb
  subst e;obtain⟨ok,ov,e⟩:=st;exact⟨_,e,λv z=>by cases z⟩
 keep:=λi h h' ⟨ok,ov,st⟩ k=>⟨ok,ov,k it (by simp) _ st⟩
 item:=by
  intro X hP hw hK hc i AC s σ H E I hf st hg;subst hP hw hK;obtain⟨hz,hlt⟩:=hg;obtain⟨ok,ov,st⟩:=st;obtain⟨ho,_,_,vs,nI,r,da⟩:=I.oz hz;cases wY da ho hd;have hl:AT.length=vs.length:=r.length;obtain⟨q,hq,ek,rq⟩:=vo r (a_ hlt);obtain⟨qk,qv⟩:=q;rw[hl]at st;obtain⟨f0,f1,f2,f3,f4,f5⟩:=hf it (by simp);refine wpAny_pyNext_items_item st da hq λkey h1 hk st1 ht hsz hkeep=>?_;refine⟨_,Z,wpAny_letOwnedTupleGo_items (s:={ s with heap:=h1 }) st1 λh2 st2 sb=>?_⟩;have rk:RelV (kV AT[i].1) key:=by rw[ek];exact NF hk
  have hil:it≠s.heap.objs.size:=dI (bK st);have rF:∀b o,b≠it->s.heap.get? b=some o->h2.get? b=some o:=λb o hb e=>sb.extBut b o hb (hkeep b o hb e);have I1:Inv X AC σ (upd H s.heap.objs.size (.tup [kV AT[i].1,AT[i].2])) { s with heap:=h2 }:=by
   have J:Inv X AC σ H { s with heap:=h2 }:=I.turned (t':=s.toks) rF f0 f1 f3 f4 f5;have hn:=I.fresh;have J2:Inv X AC σ (upd H s.heap.objs.size (.tup [kV AT[i].1,AT[i].2])) { s with heap:=h2,gens:=s.gens,drawn:=s.drawn,toks:=s.toks }:=by
    refine I.step (ch:=[it]) (λb hb=>⟨(hf b hb).2.2.2.1,(hf b hb).2.1,(hf b hb).2.2.2.2.1,(hf b hb).2.2.2.2.2⟩) (λb o _ _ hc' e _=>rF b o (by simpa using hc') e) (λb o _ _ hc' e _=>⟨o.slots,rF b o (by simpa using hc') e⟩) (λb o _ e n=>by rw[ay (dI (bK e))];exact n) (λb o hc' e=>⟨o,rF b o (by simpa using hc') e⟩)
     (λb zs q=>by rw[ay (aG q hn)];exact q) (λb o zs q=>by rw[ay (aG q hn)];exact q) (λb ps q=>⟨#[],by rw[ay (aG q hn),q];simp⟩) (λm hm=>?_) (λb ob e=>?_) I.bare
    .obtain ⟨o,es,ep,ho,r⟩:=hm;exact⟨o,es,ep,rF _ o (λq=>f1 q.symm) ho,r⟩
    .by_cases hb:b=s.heap.objs.size
     .subst hb;rw[ai]at e;cases e;exact⟨by show 2<=sizeLine;decide,[key,qv],.cons rk (.cons rq .nil),_,sb.extBut _ _ hil.symm ht,Z,0,Z⟩
     .rw [ay hb]at e;refine(I.hok b ob e).stay (λc v NH q=>?_) (λc q=>by rw[ay (aG q hn)];exact q) λc zs q=>by rw[ay (aG q hn)];exact q
      refine rF c v (λz=>?_) q;rcases NH with r|r
      .rw [r]at z;rw[z,f0]at e;cases e
      .rw [z,f0]at r;cases r
   exact J2
  refine⟨.ref s.heap.objs.size,_,I1,Z,⟨_,AT[i],I.fresh,a_ hlt,Z,Z⟩,⟨key,qv,by rw[hl];exact st2⟩,λb hb=>?_⟩;have eb:b=it:=by simpa using hb
  subst eb;rw[ay hil];exact f0
 done:=by intro X hP hw hK hc i AC s σ H E I hf st hg;subst hP hw hK;obtain⟨hz,hle⟩:=hg;obtain⟨ok,ov,st⟩:=st;obtain⟨ho,_,_,vs,nI,r,da⟩:=I.oz hz;cases wY da ho hd;have hl:AT.length=vs.length:=r.length;rw[hl]at st;obtain⟨f0,f1,f2,f3,f4,f5⟩:=hf it (by simp);exact wpAny_pyNext_items_end (I.ok.hd hc) st da (by rw[rX];omega) λh' eb=>⟨Z,I.turned (t':=s.toks) (λb o hb e=>eb b o hb e) f0 f1 f3 f4 f5⟩
 self:=λA i s Q E ⟨ok,ov,st⟩ h=>PySem.W.kcp_self st h
section
variable {X:Cx}{tg:Expr}
inductive We(R:It->Hp->Prop)(x:V)(H1:Hp):Prop
 |mk(d o AT:_)(_:x =.ref d)(_:lY H1 d o AT)(_:R (Z2 d o AT:_) H1)
def Y5(td:TE):TI:=λσ H R=>td σ H (We R)
inductive TM(R:It->Hp->Prop)(x:V)(H1:Hp):Prop
 |mk(d o AT:_)(_:x =.ref d)(_:lY H1 d o AT)(_:R (Z3 d o AT:_) H1)
def Wg(td:TE):TI:=λσ H R=>td σ H (TM R)
end
variable {J:It}{tb:TS}{D:Ends}
theorem qp{g:TG}(Pv:Nat->St->Hp->Prop)(h0:Pv 0 σ H)(hgo:∀i σ H,i<n->Pv i σ H->J.go i H)(hst:∀σ H,Pv n σ H->J.stop n H)(hs:∀i x σ H H',i<n->Pv i σ H->J.zN i H x H'->g x σ H' (tb (D.lp (Pv (i+1)))))(hd:∀σ H,Pv n σ H->D.nx σ H):
  Ew g tb D σ (J) H:=by
 refine⟨λi m σ H=>m=n-i/\i<=n/\Pv i σ H,⟨n,by simp,gP _,h0⟩,?_⟩
 rintro i m σ H ⟨rfl,hi,p⟩
 by_cases hlt:i<n
 . exact .inr ⟨hgo i σ H hlt p,Pv (i+1),λσ' H' p'=>⟨n-(i+1),by omega,Z,hlt,p'⟩,λx H' y=>hs i x σ H H' hlt p y⟩
 . have e:i=n:=by omega
   subst e
   exact .inl ⟨hst σ H p,hd σ H p⟩
section
variable {prog:Program}{w:World}{K:Type}[DecidableEq K]{knd:KeyKind prog w K}{A:Around}{E:VS}{s:Shared}
theorem IG{AT:Cl (K×Value)}{k:K}{v:Value}{Q:VS}(hit:s.heap.IsKeyIter it d i AT.length ep)(hm:s.heap.DictAt knd d AT ep)(hx:AT[i]?=some (k,v))(hQ:∀key h',knd.is k key=true->h'.IsKeyIter it d (i+1) AT.length ep->Heap.SameBut it s.heap h'->Q key { s with heap:=h' }):
  wpAny (model prog w) A (Builtin.SmallTypes.nextOf (.ref it)) Q E s:=by
 obtain⟨o,ho,hc,hd⟩:=id hit;obtain⟨od,es,hod,hcd,vq,hk,hp,hn⟩:=id hm
 unfold Builtin.SmallTypes.nextOf
 refine ao (tR (name:=Str.ofString "__next__") hit.typeIs Ry (tW Ry hit.typeIs F.entry_dict_keyiterator_next ?_ (F.args_dict_keyiterator_next_1 _)))
 refine ao (aK ?_);refine ao (ao ?_)
 first|(refine ao (Rw hit.typeIs (aK ?_));refine ao (qY ho hd ?_))|(refine ao (KS hit.typeIs (aK ?_));refine ao (qY ho hd ?_))
 have own:Builtin.Dict_items.ownsTuple "dict_keyiterator"=false:=by decide
 simp only[own,EO,mJ]
 show wpAny _ _ (if(Value.ref d==Value.none)=true then _ else _) _ _ _
 rw[aA (λz=>d7 z:¬ ((Value.ref d==Value.none)=true))];refine ao (aK ?_)
 have sz:es.size=AT.length:=by have:=hp.length;simpa using this
 refine ao (Le hod vq ?_);rw[aA (by rw[sz];simp)]
 refine ao (aK ?_);refine ao (Es hod vq ?_)
 rw[aA (by simp)];refine aK ?_
 have lt:i<AT.length:=(dW.mp hx).1
 have lt':i<es.size:=by omega
 have kv:=hp.get? (e:=es[i]) (by simp[lt']) hx
 simp only[show ¬ ((i:Int)<0)from by omega,mJ,qf,Array.getElem?_eq_getElem lt'];refine ao ?_
 first|(refine ao (Rw hit.typeIs (aK ?_));refine ao (wpAny_isOneOf_keyiter hit.typeIs ?_))|(refine ao (KS hit.typeIs (aK ?_));refine ao (wpAny_isOneOf_keyiter hit.typeIs ?_))
 show wpAny _ _ (setField (.ref it) 1 (rawInt ((i:Int)+1)) >>= _) _ _ _
 refine ao (wG ho hd (by simp) ?_)
 have BJ:(s.heap.update it (Obj.mapFields (·.setIfInBounds 1 (rawInt ((i:Int)+1))))).IsKeyIter it d (i+1) AT.length ep:=⟨_,K2 _ ho (Obj.isFreed_of_fields (Bv hd _)),(Obj.cls_mapFields ..).trans hc,by rw[Bv hd];simp[rawInt]⟩
 refine ao (wI (ao (wpAny_isOneOf_keyiter (s:={ s with heap:=s.heap.update it (Obj.mapFields (·.setIfInBounds 1 (rawInt ((i:Int)+1)))) }) BJ.typeIs ?_)))
 exact aK (aK ⟨_,Z,aK (hQ _ _ kv.1 BJ (Bt ..))⟩)
theorem LL{AT:Cl (K×Value)}{Q:VS}(hh:A.handled=none)(hit:s.heap.IsKeyIter it d i AT.length ep)(hm:s.heap.DictAt knd d AT ep)(hx:AT[i]?=none)(hE:∀h' e,Heap.ExtBut it s.heap h'->(∃o,h'.get? e=some o/\o.cls =.type "StopIteration")->E (.ref e) { s with heap:=h' }):
  wpAny (model prog w) A (Builtin.SmallTypes.nextOf (.ref it)) Q E s:=by
 obtain⟨o,ho,hc,hd⟩:=id hit;obtain⟨od,es,hod,hcd,vq,hk,hp,hn⟩:=id hm
 unfold Builtin.SmallTypes.nextOf
 refine ao (tR (name:=Str.ofString "__next__") hit.typeIs Ry (tW Ry hit.typeIs F.entry_dict_keyiterator_next ?_ (F.args_dict_keyiterator_next_1 _)))
 refine ao (aK ?_);refine ao (ao ?_)
 first|(refine ao (Rw hit.typeIs (aK ?_));refine ao (qY ho hd ?_))|(refine ao (KS hit.typeIs (aK ?_));refine ao (qY ho hd ?_))
 have own:Builtin.Dict_items.ownsTuple "dict_keyiterator"=false:=by decide
 simp only[own,EO,mJ]
 show wpAny _ _ (if(Value.ref d==Value.none)=true then _ else _) _ _ _
 rw[aA (λz=>d7 z:¬ ((Value.ref d==Value.none)=true))];refine ao (aK ?_)
 have sz:es.size=AT.length:=by have:=hp.length;simpa using this
 refine ao (Le hod vq ?_);rw[aA (by rw[sz];simp)]
 refine ao (aK ?_);refine ao (Es hod vq ?_)
 rw[aA (by simp)];refine aK ?_
 have ge:es.size<=i:=by rw[sz];simpa using hx
 simp only[show ¬ ((i:Int)<0)from by omega,mJ,qf,Array.getElem?_eq_none ge];refine ao ?_
 first|(refine ao (Rw hit.typeIs (aK ?_));show wpAny _ _ (setField (.ref it) 0 .none >>= _) _ _ _)|(refine ao (KS hit.typeIs (aK ?_));show wpAny _ _ (setField (.ref it) 0 .none >>= _) _ _ _)
 refine ao (wG ho hd (by simp) ?_);show wpAny _ _ (newExc (.type "StopIteration") [] >>= _) _ _ _
 refine ao ?_;simp only[newExc,newTuple]
 refine ao (nK ?_ (by size_fits));refine ao (m:=firstArgMember _ _) (wpAny_of_eq (a:=Value.none) (by first|rfl|(simp only[firstArgMember];rfl)) ?_)
 refine nK ?_ (by size_fits);simp only[raiseNew]
 refine ao (wpAny_handled ?_);rw[show A.in1.handled=none from hh]
 exact ao (aK (wpAny_throw (hE _ _ (((Bt ..).extBut.push _).push _) ⟨_,c_ _ rfl,Z⟩)))
theorem II{AT:Cl (K×Value)}{k:K}{v:Value}{Q:VS}(hit:s.heap.IsValIter it d i AT.length ep)(hm:s.heap.DictAt knd d AT ep)(hx:AT[i]?=some (k,v))(hQ:∀h',h'.IsValIter it d (i+1) AT.length ep->Heap.SameBut it s.heap h'->Q v { s with heap:=h' }):
  wpAny (model prog w) A (Builtin.SmallTypes.nextOf (.ref it)) Q E s:=by
 obtain⟨o,ho,hc,hd⟩:=id hit;obtain⟨od,es,hod,hcd,vq,hk,hp,hn⟩:=id hm
 unfold Builtin.SmallTypes.nextOf
 refine ao (tR (name:=Str.ofString "__next__") hit.typeIs Rv (tW Rv hit.typeIs F.entry_dict_valueiterator_next ?_ (F.args_dict_valueiterator_next_1 _)))
 refine ao (aK ?_);refine ao (ao ?_)
 first|(refine ao (Rx hit.typeIs (aK ?_));refine ao (qY ho hd ?_))|(refine ao (KU hit.typeIs (aK ?_));refine ao (qY ho hd ?_))
 have own:Builtin.Dict_items.ownsTuple "dict_valueiterator"=false:=by decide
 simp only[own,EO,mJ]
 show wpAny _ _ (if(Value.ref d==Value.none)=true then _ else _) _ _ _
 rw[aA (λz=>d7 z:¬ ((Value.ref d==Value.none)=true))];refine ao (aK ?_)
 have sz:es.size=AT.length:=by have:=hp.length;simpa using this
 refine ao (Le hod vq ?_);rw[aA (by rw[sz];simp)]
 refine ao (aK ?_);refine ao (Es hod vq ?_)
 rw[aA (by simp)];refine aK ?_
 have lt:i<AT.length:=(dW.mp hx).1
 have lt':i<es.size:=by omega
 have kv:=hp.get? (e:=es[i]) (by simp[lt']) hx
 simp only[show ¬ ((i:Int)<0)from by omega,mJ,qf,Array.getElem?_eq_getElem lt'];refine ao ?_
 first|(refine ao (Rx hit.typeIs (aK ?_));refine ao (K4 hit.typeIs ?_))|(refine ao (KU hit.typeIs (aK ?_));refine ao (K4 hit.typeIs ?_))
 show wpAny _ _ (setField (.ref it) 1 (rawInt ((i:Int)+1)) >>= _) _ _ _
 refine ao (wG ho hd (by simp) ?_)
 have BJ:(s.heap.update it (Obj.mapFields (·.setIfInBounds 1 (rawInt ((i:Int)+1))))).IsValIter it d (i+1) AT.length ep:=⟨_,K2 _ ho (Obj.isFreed_of_fields (Bv hd _)),(Obj.cls_mapFields ..).trans hc,by rw[Bv hd];simp[rawInt]⟩
 refine ao (wI (ao (K4 (s:={ s with heap:=s.heap.update it (Obj.mapFields (·.setIfInBounds 1 (rawInt ((i:Int)+1)))) }) BJ.typeIs ?_)))
 refine ao (K4 (s:={ s with heap:=s.heap.update it (Obj.mapFields (·.setIfInBounds 1 (rawInt ((i:Int)+1)))) }) BJ.typeIs ?_)
 exact aK (aK ⟨_,Z,aK (kv.2▸hQ _ BJ (Bt ..))⟩)
theorem LM{AT:Cl (K×Value)}{Q:VS}(hh:A.handled=none)(hit:s.heap.IsValIter it d i AT.length ep)(hm:s.heap.DictAt knd d AT ep)(hx:AT[i]?=none)(hE:∀h' e,Heap.ExtBut it s.heap h'->(∃o,h'.get? e=some o/\o.cls =.type "StopIteration")->E (.ref e) { s with heap:=h' }):
  wpAny (model prog w) A (Builtin.SmallTypes.nextOf (.ref it)) Q E s:=by
 obtain⟨o,ho,hc,hd⟩:=id hit;obtain⟨od,es,hod,hcd,vq,hk,hp,hn⟩:=id hm
 unfold Builtin.SmallTypes.nextOf
 refine ao (tR (name:=Str.ofString "__next__") hit.typeIs Rv (tW Rv hit.typeIs F.entry_dict_valueiterator_next ?_ (F.args_dict_valueiterator_next_1 _)))
 refine ao (aK ?_);refine ao (ao ?_)
 first|(refine ao (Rx hit.typeIs (aK ?_));refine ao (qY ho hd ?_))|(refine ao (KU hit.typeIs (aK ?_));refine ao (qY ho hd ?_))
 have own:Builtin.Dict_items.ownsTuple "dict_valueiterator"=false:=by decide
 simp only[own,EO,mJ]
 show wpAny _ _ (if(Value.ref d==Value.none)=true then _ else _) _ _ _
 rw[aA (λz=>d7 z:¬ ((Value.ref d==Value.none)=true))];refine ao (aK ?_)
 have sz:es.size=AT.length:=by have:=hp.length;simpa using this
 refine ao (Le hod vq ?_);rw[aA (by rw[sz];simp)]
 refine ao (aK ?_);refine ao (Es hod vq ?_)
 rw[aA (by simp)];refine aK ?_
 have ge:es.size<=i:=by rw[sz];simpa using hx
 simp only[show ¬ ((i:Int)<0)from by omega,mJ,qf,Array.getElem?_eq_none ge];refine ao ?_
 first|(refine ao (Rx hit.typeIs (aK ?_));show wpAny _ _ (setField (.ref it) 0 .none >>= _) _ _ _)|(refine ao (KU hit.typeIs (aK ?_));show wpAny _ _ (setField (.ref it) 0 .none >>= _) _ _ _)
 refine ao (wG ho hd (by simp) ?_);show wpAny _ _ (newExc (.type "StopIteration") [] >>= _) _ _ _
 refine ao ?_;simp only[newExc,newTuple]
 refine ao (nK ?_ (by size_fits));refine ao (m:=firstArgMember _ _) (wpAny_of_eq (a:=Value.none) (by first|rfl|(simp only[firstArgMember];rfl)) ?_)
 refine nK ?_ (by size_fits);simp only[raiseNew]
 refine ao (wpAny_handled ?_);rw[show A.in1.handled=none from hh]
 exact ao (aK (wpAny_throw (hE _ _ (((Bt ..).extBut.push _).push _) ⟨_,c_ _ rfl,Z⟩)))
end
structure vt(P:Program)(w:World)(K:Fg)(S:Hp->Prop)(xs:Cl V)(it l:Addr)(tn:Nat->Heap->Prop)(src:Heap->Prop):Prop where
 obj:∀i h,tn i h->∃o,h.get? it=some o/\∀v,o.data ≠ .cell v
 keep:∀i h h',tn i h->(∀o,h.get? it=some o->h'.get? it=some o)->tn i h'
 rG:∀h h',src h->(∀o,h.get? l=some o->h'.get? l=some o)->src h'
 CO:∀(X:Cx),X.prog=P->X.w=w->X.K=K->∀(AC:AO)(σ:St)(H:Hp)(s:Shared),Inv X AC σ H s->S H->src s.heap
 item:∀(A:Around)(i:Nat)(x:V)(s:Shared)(Q:VS)(E:VS),tn i s.heap->src s.heap->xs[i]?=some x->(∀u h',RelV x u->tn (i+1) h'->Heap.SameBut it s.heap h'->Q u { s with heap:=h' })->wpAny (model P w) A (Builtin.SmallTypes.nextOf (.ref it)) Q E s
 done:∀(A:Around)(i:Nat)(s:Shared)(Q:VS)(E:VS),A.handled=none->tn i s.heap->src s.heap->xs.length<=i->(∀h' e,Heap.ExtBut it s.heap h'->(∃o,h'.get? e=some o/\o.cls =.type "StopIteration")->E (.ref e) { s with heap:=h' })->wpAny (model P w) A (Builtin.SmallTypes.nextOf (.ref it)) Q E s
theorem Qy{l:Addr}:vt P w K (λH=>aI K H l xs) xs it l (λi h=>h.IsListIter it l i) (λh=>∃BT:Cl Value,Vals xs BT/\h.IsList l BT.toArray) where
 obj:=λi h ⟨o,e,c,d⟩=>⟨o,e,λv z=>by rw[d]at z;cases z⟩
 keep:=λi h h' st k=>st.at k
 rG:=λh h' ⟨BT,r,hl⟩ k=>⟨BT,r,hl.at k⟩
 CO:=λX hP hw hK AC σ H s I h=>by subst hP hw hK;obtain⟨BT,rv,p,_⟩:=I.list h;exact⟨BT,rv,p.isList⟩
 item:=λA i x s Q E st ⟨BT,r,hl⟩ hx hQ=>by obtain⟨u,hu,ru⟩:=r.get hx;exact wpAny_nextOf_list_item st hl (by simpa using hu) λh' st' sb=>hQ u h' ru st' sb
 done:=λA i s Q E hh st ⟨BT,r,hl⟩ hx hE=>wpAny_nextOf_list_end hh st hl (by have:=r.length;simp;omega) hE
theorem Qz{o:Obj}(hd:o.data =.dict es ep):vt P w K (λH=>lY H d o AT) (AT.map λp=>kV p.1) it d (λi h=>h.IsKeyIter it d i AT.length ep) (λh=>∃vs,KV AT vs/\h.DictAt (bZ P w) d vs ep) where
 obj:=λi h ⟨o,e,c,d⟩=>⟨o,e,λv z=>by rw[d]at z;cases z⟩
 keep:=λi h h' st k=>st.at k
 rG:=λh h' ⟨vs,r,hl⟩ k=>⟨vs,r,hl.at' k⟩
 CO:=λX hP hw hK AC σ H s I h=>by subst hP hw hK;obtain⟨ho,_,_,vs,nI,r,da⟩:=I.oz h;cases wY da ho hd;exact⟨vs,r,da⟩
 item:=λA i x s Q E st ⟨vs,r,da⟩ hx hQ=>by rw[cz]at hx;obtain⟨p,hp,rfl⟩:=lE.mp hx;obtain⟨q,hq,ek,rq⟩:=vo r hp;obtain⟨qk,qv⟩:=q;have hl:AT.length=vs.length:=r.length;rw[hl]at st;exact IG st da hq λkey h' hk st' sb=>hQ key h' (by rw[ek];exact NF hk) (by rw[hl];exact st') sb
 done:=λA i s Q E hh st ⟨vs,r,da⟩ hx hE=>by have hl:AT.length=vs.length:=r.length;rw[aH]at hx;rw[hl]at st;exact LL hh st da (by rw[rX];omega) hE
theorem QA{o:Obj}(hd:o.data =.dict es ep):vt P w K (λH=>lY H d o AT) (AT.map λp=>p.2) it d (λi h=>h.IsValIter it d i AT.length ep) (λh=>∃vs,KV AT vs/\h.DictAt (bZ P w) d vs ep) where
 obj:=λi h ⟨o,e,c,d⟩=>⟨o,e,λv z=>by rw[d]at z;cases z⟩
 keep:=λi h h' st k=>st.at k
 rG:=λh h' ⟨vs,r,hl⟩ k=>⟨vs,r,hl.at' k⟩
 CO:=λX hP hw hK AC σ H s I h=>by subst hP hw hK;obtain⟨ho,_,_,vs,nI,r,da⟩:=I.oz h;cases wY da ho hd;exact⟨vs,r,da⟩
 item:=λA i x s Q E st ⟨vs,r,da⟩ hx hQ=>by rw[cz]at hx;obtain⟨p,hp,rfl⟩:=lE.mp hx;obtain⟨q,hq,ek,rq⟩:=vo r hp;obtain⟨qk,qv⟩:=q;have hl:AT.length=vs.length:=r.length;rw[hl]at st;exact II st da hq λh' st' sb=>hQ qv h' rq (by rw[hl];exact st') sb
 done:=λA i s Q E hh st ⟨vs,r,da⟩ hx hE=>by have hl:AT.length=vs.length:=r.length;rw[aH]at hx;rw[hl]at st;exact LM hh st da (by rw[rX];omega) hE
variable {y:V}
section
variable {P:Program}{w:World}{A:Around}{E:VS}{s:Shared}{K:Fg}{S1 S2:Hp->Prop}{xs ys:Cl V}{z TI TO i1 i2 l1 l2:Addr}{t1 t2:Nat->Heap->Prop}{c1 c2:Heap->Prop}{i:Nat}
def NI{x:V}{a b:Value}{Q:VS}(D:ZipApart z TI TO i1 i2 l1 l2)(C1:vt P w K S1 xs i1 l1 t1 c1)(C2:vt P w K S2 ys i2 l2 t2 c2)(hz:IsZip s.heap z TI TO .none)(hTI:IsPair s.heap TI (.ref i1) (.ref i2))(hTO:IsPair s.heap TO a b)(h1:t1 i s.heap)(h2:t2 i s.heap)(hc1:c1 s.heap)(hc2:c2 s.heap)(hx:xs[i]?=some x)(hy:ys[i]?=some y)(hQ:∀u v h',RelV x u->RelV y v->IsZip h' z TI TO (rawInt s.heap.objs.size)->IsPair h' TO u v->t1 (i+1) h'->t2 (i+1) h'->IsPair h' s.heap.objs.size u v->h'.objs.size=s.heap.objs.size+1->
    (∀c o,c≠z->c≠TO->c≠i1->c≠i2->s.heap.get? c=some o->h'.get? c=some o)->Q (.ref s.heap.objs.size) { s with heap:=h' }):
  wpAny (model P w) A (Builtin.«zip.__next__» ⟨[.ref z],[]⟩) (λfin s'=>∃v,fin =.done (.ret v)/\Q v s') E s:=by
 show wpAny _ _ (field (.ref z) 2 >>= _) _ _ _
 refine ao (ji hz rfl (x:=.bool false) rfl ?_);show wpAny _ _ (field (.ref z) 3 >>= _) _ _ _
 refine ao (ji hz rfl (x:=.ref TI) rfl ?_);refine ao (qZ hTI rfl ?_)
 show wpAny _ _ (Builtin.SmallTypes.ownedTupleIsFree (.ref z) >>= _) _ _ _
 refine ao ?_;unfold Builtin.SmallTypes.ownedTupleIsFree
 refine ao (ji hz rfl (x:=.none) rfl (aK ?_));simp only[if_true]
 refine ao (wpAny_rule ?_);refine ao (ji hz rfl (x:=.ref TO) rfl ?_)
 refine ao (Bw hz (by simp) λhA CP sA=>?_)
 replace CP:IsZip hA z TI TO .ellipsis:=CP
 refine ao ?_;simp only[List.zipIdx_cons,List.zipIdx_nil,Ep,zy]
 refine ao (ao (wpAny_onRaise ?_));show wpAny _ _ (Builtin.SmallTypes.nextOf (.ref i1) >>= _) _ _ _
 refine ao (C1.item _ i x { s with heap:=hA } _ _ (C1.keep _ _ _ h1 λo e=>sA.extBut _ _ D.i1z e) (C1.rG _ _ hc1 λo e=>sA.extBut _ _ D.l1z e) hx λu hB ru Z4 sB=>aK ?_)
 have NJ:IsPair hB TO a b:=sB.extBut _ _ D.TOi1 (sA.extBut _ _ D.TOz hTO)
 refine ao (qZ NJ rfl ?_);refine ao (wpAny_updateSeq_pair NJ λhC RX sC=>?_)
 replace RX:IsPair hC TO u b:=RX
 refine ao (wpAny_letGo (aK ?_));refine ao (ao (wpAny_onRaise ?_))
 show wpAny _ _ (Builtin.SmallTypes.nextOf (.ref i2) >>= _) _ _ _
 refine ao (C2.item _ i y { s with heap:=hC } _ _ (C2.keep _ _ _ h2 λo e=>sC.extBut _ _ D.TOi2.symm (sB.extBut _ _ D.i12.symm (sA.extBut _ _ D.i2z e))) (C2.rG _ _ hc2 λo e=>sC.extBut _ _ D.l2TO (sB.extBut _ _ D.l2i1 (sA.extBut _ _ D.l2z e))) hy λv hD rv h2D sD=>aK ?_)
 have Z5:IsPair hD TO u b:=sD.extBut _ _ D.TOi2 RX
 refine ao (qZ Z5 rfl ?_);refine ao (wpAny_updateSeq_pair Z5 λhE RY sE=>?_)
 replace RY:IsPair hE TO u v:=RY
 refine ao (wpAny_letGo (aK (aK ?_)));refine ao (qZ RY rfl ?_)
 refine ao (wpAny_newTuple ?_)
 have sz:hE.objs.size=s.heap.objs.size:=by rw[sE.1,sD.1,sC.1,sB.1,sA.1]
 have zE:IsZip hE z TI TO .ellipsis:=sE.extBut _ _ D.TOz.symm (sD.extBut _ _ D.i2z.symm (sC.extBut _ _ D.TOz.symm (sB.extBut _ _ D.i1z.symm CP)))
 have kE:∀c o,c≠z->c≠TO->c≠i1->c≠i2->s.heap.get? c=some o->hE.get? c=some o:=λc o c1 c2 c3 c4 e=>sE.extBut _ _ c2 (sD.extBut _ _ c4 (sC.extBut _ _ c2 (sB.extBut _ _ c3 (sA.extBut _ _ c1 e))))
 have t1E:t1 (i+1) hE:=C1.keep _ _ _ Z4 λo e=>sE.extBut _ _ D.TOi1.symm (sD.extBut _ _ D.i12 (sC.extBut _ _ D.TOi1.symm e))
 have t2E:t2 (i+1) hE:=C2.keep _ _ _ h2D λo e=>sE.extBut _ _ D.TOi2.symm e
 have Z6:z<hE.objs.size:=bK zE
 show wpAny _ _ (Builtin.SmallTypes.ownedTupleHandOut (.ref z) (.ref hE.objs.size) >>= _) _ _ _
 refine ao ?_;unfold Builtin.SmallTypes.ownedTupleHandOut
 have zF:IsZip (hE.push { cls:=.type "tuple",data:=.seq #[u,v] }) z TI TO .ellipsis:=bQ _ zE
 refine ao (Bw zF (by simp) λhG zG sG=>?_)
 replace zG:IsZip hG z TI TO (rawInt hE.objs.size):=zG
 refine Bw zG (by simp) λhI zI sI=>?_
 replace zI:IsZip hI z TI TO (rawInt hE.objs.size):=zI
 have up:∀c o,c≠z->hE.get? c=some o->hI.get? c=some o:=λc o c1 e=>sI.extBut _ _ c1 (sG.extBut _ _ c1 (bQ _ e))
 have Z7:IsPair hI hE.objs.size u v:=sI.extBut _ _ (wK Z6) (sG.extBut _ _ (wK Z6) (c_ _ rfl))
 have Z8:hI.objs.size=hE.objs.size+1:=by rw[sI.1,sG.1,j9]
 rw[sz]at zI Z7 Z8
 refine aK ⟨_,Z,?_⟩
 show Q (.ref hE.objs.size) _
 rw[sz]
 exact hQ u v hI ru rv zI (up _ _ D.TOz RY) (C1.keep _ _ _ t1E λo e=>up _ o D.i1z e) (C2.keep _ _ _ t2E λo e=>up _ o D.i2z e) Z7 Z8 λc o c1 c2 c3 c4 e=>up c o c1 (kE c o c1 c2 c3 c4 e)
theorem QB{a b:Value}{Q:Fin->Shared->Prop}(hh:A.handled=none)(D:ZipApart z TI TO i1 i2 l1 l2)(C1:vt P w K S1 xs i1 l1 t1 c1)(C2:vt P w K S2 ys i2 l2 t2 c2)(hz:IsZip s.heap z TI TO .none)(hTI:IsPair s.heap TI (.ref i1) (.ref i2))(hTO:IsPair s.heap TO a b)(h1:t1 i s.heap)(h2:t2 i s.heap)(hc1:c1 s.heap)(hc2:c2 s.heap)(hend:xs.length<=i\/ys.length<=i)(hE:∀h' e,(∀c o,c≠z->c≠TO->c≠i1->c≠i2->s.heap.get? c=some o->h'.get? c=some o)->(∃o,h'.get? e=some o/\o.cls =.type "StopIteration")->E (.ref e) { s with heap:=h' }):
  wpAny (model P w) A (Builtin.«zip.__next__» ⟨[.ref z],[]⟩) Q E s:=by
 show wpAny _ _ (field (.ref z) 2 >>= _) _ _ _
 refine ao (ji hz rfl (x:=.bool false) rfl ?_);show wpAny _ _ (field (.ref z) 3 >>= _) _ _ _
 refine ao (ji hz rfl (x:=.ref TI) rfl ?_);refine ao (qZ hTI rfl ?_)
 show wpAny _ _ (Builtin.SmallTypes.ownedTupleIsFree (.ref z) >>= _) _ _ _
 refine ao ?_;unfold Builtin.SmallTypes.ownedTupleIsFree
 refine ao (ji hz rfl (x:=.none) rfl (aK ?_));simp only[if_true]
 refine ao (wpAny_rule ?_);refine ao (ji hz rfl (x:=.ref TO) rfl ?_)
 refine ao (Bw hz (by simp) λhA CP sA=>?_)
 replace CP:IsZip hA z TI TO .ellipsis:=CP
 refine ao ?_;simp only[List.zipIdx_cons,List.zipIdx_nil,Ep,zy]
 refine ao (ao (wpAny_onRaise ?_));show wpAny _ _ (Builtin.SmallTypes.nextOf (.ref i1) >>= _) _ _ _
 have k1:=C1.keep _ _ _ h1 λo e=>sA.extBut _ _ D.i1z e
 have k2:=C1.rG _ _ hc1 λo e=>sA.extBut _ _ D.l1z e
 by_cases hx:xs.length<=i
 . refine ao (C1.done _ i { s with heap:=hA } _ _ hh k1 k2 hx λhB e sB he=>?_)
   obtain⟨oe,Ac,hce⟩:=he
   have zB:IsZip hB z TI TO .ellipsis:=sB _ _ D.i1z.symm CP
   have ez:e≠z:=λx=>by subst x;rw[zB]at Ac;cases Ac;simp at hce
   exact Bw zB (by simp) λhC _ sC=>hE hC e (λc o c1 _ c3 _ x=>sC.extBut _ _ c1 (sB _ _ c3 (sA.extBut _ _ c1 x))) ⟨oe,sC.extBut _ _ ez Ac,hce⟩
 . have hy:ys.length<=i:=hend.resolve_left hx
   refine ao (C1.item _ i xs[i] { s with heap:=hA } _ _ k1 k2 (a_ (by omega)) λu hB ru Z4 sB=>aK ?_)
   have NJ:IsPair hB TO a b:=sB.extBut _ _ D.TOi1 (sA.extBut _ _ D.TOz hTO)
   refine ao (qZ NJ rfl ?_);refine ao (wpAny_updateSeq_pair NJ λhC RX sC=>?_)
   refine ao (wpAny_letGo (aK ?_));refine ao (ao (wpAny_onRaise ?_))
   show wpAny _ _ (Builtin.SmallTypes.nextOf (.ref i2) >>= _) _ _ _
   refine ao (C2.done _ i { s with heap:=hC } _ _ hh (C2.keep _ _ _ h2 λo e=>sC.extBut _ _ D.TOi2.symm (sB.extBut _ _ D.i12.symm (sA.extBut _ _ D.i2z e))) (C2.rG _ _ hc2 λo e=>sC.extBut _ _ D.l2TO (sB.extBut _ _ D.l2i1 (sA.extBut _ _ D.l2z e))) hy λhD e sD he=>?_)
   obtain⟨oe,Ac,hce⟩:=he
   have zD:IsZip hD z TI TO .ellipsis:=sD _ _ D.i2z.symm (sC.extBut _ _ D.TOz.symm (sB.extBut _ _ D.i1z.symm CP))
   have ez:e≠z:=λx=>by subst x;rw[zD]at Ac;cases Ac;simp at hce
   exact Bw zD (by simp) λhF _ sF=>hE hF e (λc o c1 c2 c3 c4 x=>sF.extBut _ _ c1 (sD _ _ c4 (sC.extBut _ _ c2 (sB.extBut _ _ c3 (sA.extBut _ _ c1 x))))) ⟨oe,sF.extBut _ _ ez Ac,hce⟩
end
def Wh(S1 S2:Hp->Prop)(xs ys:Cl V):It:=⟨λi H=>S1 H/\S2 H/\i<xs.length/\i<ys.length,λi H v H'=>∃p x y,H p=none/\v =.ref p/\H'=upd H p (.tup [x,y])/\xs[i]?=some x/\ys[i]?=some y,λi H=>S1 H/\S2 H/\(xs.length<=i\/ys.length<=i)⟩
variable {z:Addr}
def NK{kk:Nat}{pos:Pos}{S1 S2:Hp->Prop}{ys:Cl V}{TI TO i1 i2 l1 l2:Addr}{t1 t2:Nat->Heap->Prop}{c1 c2:Heap->Prop}(D:ZipApart z TI TO i1 i2 l1 l2)(C1:vt P w K S1 xs i1 l1 t1 c1)(C2:vt P w K S2 ys i2 l2 t2 c2):
  Turn P w K (.Tuple Ch kk pos) (Wh S1 S2 xs ys) [z,TI,TO,i1,i2] z (λi h=>IsZip h z TI TO .none/\IsPair h TI (.ref i1) (.ref i2)/\(∃a b,IsPair h TO a b)/\t1 i h/\t2 i h) where
 mem:=by simp
 obj:=λi h st b hb=>by
  obtain⟨hz,hTI,⟨a,b',hTO⟩,h1,h2⟩:=st;have hb':b=z\/b=TI\/b=TO\/b=i1\/b=i2:=by simpa using hb
  rcases hb' with rfl|rfl|rfl|rfl|rfl
  .exact ⟨_,hz,λv q=>by cases q⟩
  .exact ⟨_,hTI,λv q=>by cases q⟩
  .exact ⟨_,hTO,λv q=>by cases q⟩
  .exact C1.obj i h h1
  .exact C2.obj i h h2
 keep:=λi h h' st k=>by obtain⟨hz,hTI,⟨a,b',hTO⟩,h1,h2⟩:=st;exact⟨k z (by simp) _ hz,k TI (by simp) _ hTI,⟨a,b',k TO (by simp) _ hTO⟩,C1.keep _ _ _ h1 λo e=>k i1 (by simp) o e,C2.keep _ _ _ h2 λo e=>k i2 (by simp) o e⟩
 item:=by
  intro X hP hw hK hc i AC s σ H E I hf st hg;subst hP hw hK;obtain⟨hz,hTI,⟨a,b,hTO⟩,h1,h2⟩:=st;obtain⟨g1,g2,lx,ly⟩:=hg;have hT:s.TypeIs (.ref z) "zip":=⟨_,hz,Z⟩
  unfold pyNext;refine ao (wpAny_attempt (tR (name:=Str.ofString "__next__") hT Et (tW Et hT F.entry_zip_next
   (NI D C1 C2 hz hTI hTO h1 h2 (C1.CO X rfl rfl rfl AC σ H s I g1) (C2.CO X rfl rfl rfl AC σ H s I g2) (a_ lx) (a_ ly) λu u2 h' ru ru2 a1 a2 a3 a4 a5 a6 hk=>aK ?_) (F.args_zip_next_1 _))))
  refine⟨_,Z,wpAny_letOwnedTupleGo_zip (s:={ s with heap:=h' }) a1 λh'' b1 hs=>?_⟩;have hTz:s.heap.objs.size≠z:=wK (bK hz);have rF:∀c o,c≠z->c≠TO->c≠i1->c≠i2->s.heap.get? c=some o->h''.get? c=some o:=λc o c1 c2 c3 c4 e=>hs.extBut _ _ c1 (hk c o c1 c2 c3 c4 e);have hn:=I.fresh;have nf:∀b u,H b=some u->b≠z/\b≠TO/\b≠i1/\b≠i2:=λb u e=>by
   have g:∀c∈[z,TI,TO,i1,i2],b≠c:=λc hc q=>by have:=(hf c hc).1;rw[<-q,e]at this;cases this
   exact⟨g z (by simp),g TO (by simp),g i1 (by simp),g i2 (by simp)⟩
  have sP:∀c,c∉[z,TI,TO,i1,i2]->c≠z/\c≠TO/\c≠i1/\c≠i2:=λc hc=>⟨λq=>hc (by simp[q]),λq=>hc (by simp[q]),λq=>hc (by simp[q]),λq=>hc (by simp[q])⟩
  have abH:IsPair h'' s.heap.objs.size u u2:=hs.extBut _ _ hTz a5;have hok:gK X.prog X.w (upd H s.heap.objs.size (.tup [xs[i],ys[i]])) h'':=λb ob e=>by
   by_cases hb:b=s.heap.objs.size
   .subst hb;rw[ai]at e;cases e;exact⟨by show 2<=sizeLine;decide,[u,u2],.cons ru (.cons ru2 .nil),_,abH,Z,0,Z⟩
   .rw [ay hb]at e;refine(I.hok b ob e).stay (λc v NH q=>?_) (λc q=>by rw[ay (aG q hn)];exact q) λc zs q=>by rw[ay (aG q hn)];exact q
    rcases NH with r|r
    .obtain ⟨n1,n2,n3,n4⟩:=nf b ob e;rw[r];rw[r]at q;exact rF b v n1 n2 n3 n4 q
    .obtain ⟨n1,n2,n3,n4⟩:=nf c _ r;exact rF c v n1 n2 n3 n4 q
  have I2:Inv X AC σ (upd H s.heap.objs.size (.tup [xs[i],ys[i]])) { s with heap:=h'',gens:=s.gens,drawn:=s.drawn,toks:=s.toks }:=by
   refine I.step (ch:=[z,TI,TO,i1,i2]) (λb hb=>⟨(hf b hb).2.2.2.1,(hf b hb).2.1,(hf b hb).2.2.2.2.1,(hf b hb).2.2.2.2.2⟩) (λb o _ _ hc' e _=>?_) (λb o _ _ hc' e _=>?_) (λb o _ e n=>?_) (λb o hc' e=>?_)
    (λb zs q=>by rw[ay (aG q hn)];exact q) (λb o zs q=>by rw[ay (aG q hn)];exact q) (λb ps q=>⟨#[],by rw[ay (aG q hn),q];simp⟩) (λm hm=>?_) hok I.bare
   .obtain ⟨n1,n2,n3,n4⟩:=sP b hc';exact rF b o n1 n2 n3 n4 e
   .obtain ⟨n1,n2,n3,n4⟩:=sP b hc';exact⟨o.slots,rF b o n1 n2 n3 n4 e⟩
   .rw [ay (dI (bK e))];exact n
   .obtain ⟨n1,n2,n3,n4⟩:=sP b hc';exact⟨o,rF b o n1 n2 n3 n4 e⟩
   .obtain ⟨o,es,ep,ho,r⟩:=hm;have nl:∀c∈[z,TI,TO,i1,i2],X.env.locals≠c:=λc hc' q=>(hf c hc').2.1 q.symm;exact⟨o,es,ep,rF _ o (nl z (by simp)) (nl TO (by simp)) (nl i1 (by simp)) (nl i2 (by simp)) ho,r⟩
  refine⟨.ref s.heap.objs.size,_,I2,Z,⟨s.heap.objs.size,xs[i],ys[i],hn,Z,Z,a_ lx,a_ ly⟩,⟨b1,?_,⟨u,u2,?_⟩,?_,?_⟩,λb hb=>?_⟩
  .exact rF _ _ D.TIz D.TITO D.TIi1 D.TIi2 hTI
  .exact hs.extBut _ _ D.TOz a2
  .exact C1.keep _ _ _ a3 λo e=>hs.extBut _ _ D.i1z e
  .exact C2.keep _ _ _ a4 λo e=>hs.extBut _ _ D.i2z e
  .have hlt:b≠s.heap.objs.size:=by
    have hb':b=z\/b=TI\/b=TO\/b=i1\/b=i2:=by simpa using hb
    obtain⟨_,e1,_⟩:=C1.obj _ _ h1;obtain⟨_,e2,_⟩:=C2.obj _ _ h2;rcases hb' with rfl|rfl|rfl|rfl|rfl
    .exact dI (bK hz)
    .exact dI (bK hTI)
    .exact dI (bK hTO)
    .exact dI (bK e1)
    .exact dI (bK e2)
   rw[ay hlt];exact(hf b hb).1
 done:=by
  intro X hP hw hK hc i AC s σ H E I hf st hg;subst hP hw hK;obtain⟨hz,hTI,⟨a,b,hTO⟩,h1,h2⟩:=st;obtain⟨g1,g2,hend⟩:=hg;have hT:s.TypeIs (.ref z) "zip":=⟨_,hz,Z⟩
  unfold pyNext;refine ao (wpAny_attempt (tR (name:=Str.ofString "__next__") hT Et (tW Et hT F.entry_zip_next
   (QB (I.ok.hd hc) D C1 C2 hz hTI hTO h1 h2 (C1.CO X rfl rfl rfl AC σ H s I g1) (C2.CO X rfl rfl rfl AC σ H s I g2) hend λh' e hk he=>?_) (F.args_zip_next_1 _))))
  obtain⟨oe,Ac,hce⟩:=he;refine ao (wpAny_isInstance (T:="StopIteration") (b:=true) ⟨oe,Ac,hce⟩ isSubtype_stop (aK ⟨Z,?_⟩));have sP:∀c,c∉[z,TI,TO,i1,i2]->c≠z/\c≠TO/\c≠i1/\c≠i2:=λc hc=>⟨λq=>hc (by simp[q]),λq=>hc (by simp[q]),λq=>hc (by simp[q]),λq=>hc (by simp[q])⟩
  have nf:∀b u,H b=some u->b≠z/\b≠TO/\b≠i1/\b≠i2:=λb u e=>by
   have g:∀c∈[z,TI,TO,i1,i2],b≠c:=λc hc q=>by have:=(hf c hc).1;rw[<-q,e]at this;cases this
   exact⟨g z (by simp),g TO (by simp),g i1 (by simp),g i2 (by simp)⟩
  have I2:Inv X AC σ H { s with heap:=h',gens:=s.gens,drawn:=s.drawn,toks:=s.toks }:=by
   refine I.step (ch:=[z,TI,TO,i1,i2]) (λb hb=>⟨(hf b hb).2.2.2.1,(hf b hb).2.1,(hf b hb).2.2.2.2.1,(hf b hb).2.2.2.2.2⟩) (λb o _ _ hc' e _=>?_) (λb o _ _ hc' e _=>?_) (λb o _ e n=>n) (λb o hc' e=>?_)
    (λb zs q=>q) (λb o zs q=>q) (λb ps q=>⟨#[],by rw[q];simp⟩) (λm hm=>?_) (λb ob e=>?_) I.bare
   .obtain ⟨n1,n2,n3,n4⟩:=sP b hc';exact hk b o n1 n2 n3 n4 e
   .obtain ⟨n1,n2,n3,n4⟩:=sP b hc';exact⟨o.slots,hk b o n1 n2 n3 n4 e⟩
   .obtain ⟨n1,n2,n3,n4⟩:=sP b hc';exact⟨o,hk b o n1 n2 n3 n4 e⟩
   .obtain ⟨o,es,ep,ho,r⟩:=hm;have nl:∀c∈[z,TI,TO,i1,i2],X.env.locals≠c:=λc hc' q=>(hf c hc').2.1 q.symm;exact⟨o,es,ep,hk _ o (nl z (by simp)) (nl TO (by simp)) (nl i1 (by simp)) (nl i2 (by simp)) ho,r⟩
   .refine (I.hok b ob e).stay (λc v NH q=>?_) (λc q=>q) λc zs q=>q;rcases NH with r|r
    .obtain ⟨n1,n2,n3,n4⟩:=nf b ob e;rw[r];rw[r]at q;exact hk b v n1 n2 n3 n4 q
    .obtain ⟨n1,n2,n3,n4⟩:=nf c _ r;exact hk c v n1 n2 n3 n4 q
  exact I2
 self:=λ_ _ _ _ _ st h=>wpAny_pyIter_zip st.1 h
def Fx(P:Program)(w:World)(u:Value)(o:Obj)(pre:Heap->Prop):Prop:=∀(A:Around)(E:VS)(s:Shared)(Q:VS),pre s.heap->Q (.ref s.heap.objs.size) { s with heap:=s.heap.push o }->wpAny (model P w) A (pyIter u) Q E s
def LN{p1 p2:Heap->Prop}(s1:Fx P w u1 o1 p1)(s2:Fx P w u2 o2 p2):MeetsIn P w (Builtin.«zip.__new__» ⟨[.type "zip",u1,u2],[]⟩) (λ_ R s=>p1 s.heap/\p2 (s.heap.push o1)/\R (.ok (.ret (.ref ((((s.heap.push o1).push o2).push { cls:=.type "tuple",data:=.seq #[.ref s.heap.objs.size,.ref (s.heap.push o1).objs.size] }).push { cls:=.type "tuple",data:=.seq #[.none,.none] }).objs.size)))
     { s with heap:=((((s.heap.push o1).push o2).push { cls:=.type "tuple",data:=.seq #[.ref s.heap.objs.size,.ref (s.heap.push o1).objs.size] }).push { cls:=.type "tuple",data:=.seq #[.none,.none] }).push { cls:=.type "zip",data:=.fields #[.none,.bool false,.bool false,.ref ((s.heap.push o1).push o2).objs.size,.ref (((s.heap.push o1).push o2).push { cls:=.type "tuple",data:=.seq #[.ref s.heap.objs.size,.ref (s.heap.push o1).objs.size] }).objs.size] } }):=
 .of_wp λA R s h=>by
  obtain⟨hp,g,d,tk,os⟩:=s;obtain⟨q1,q2,h⟩:=h;have hsub:=sub_zip;have i1:=λ(A:Around)(E:VS)(Q:VS)=>s1 A E ⟨hp,g,d,tk,os⟩ Q q1;have i2:=λ(A:Around)(E:VS)(Q:VS)=>s2 A E ⟨hp.push o1,g,d,tk,os⟩ Q q2
  wp_walk using i1 _ _ _,i2 _ _ _
  exact⟨_,Z,h⟩
section
variable {prog:Program}{w:World}{A:Around}{E:VS}{s:Shared}{it t:Addr}{i:Nat}{items:Array Value}{Q:VS}
def IJ{x:Value}(hit:s.heap.IsTupleIter it t i)(ht:s.heap.IsTuple t items)(hx:items[i]?=some x)(hQ:∀h',h'.IsTupleIter it t (i+1)->Heap.SameBut it s.heap h'->Q x { s with heap:=h' }):wpAny (model prog w) A (Builtin.SmallTypes.nextOf (.ref it)) Q E s:=by obtain⟨o,ho,hc,hd⟩:=id hit;obtain⟨ol,fk,_,nl,hdl⟩:=ht;unfold Builtin.SmallTypes.nextOf;refine ao (tR (name:=Str.ofString "__next__") hit.typeIs KN (tW KN hit.typeIs F.entry_tuple_iterator_next ?_ (F.args_tuple_iterator_next_1 _)));show wpAny _ _ (field (.ref it) 0 >>= _) _ _ s;refine ao (ji ho hd (x:=.ref t) rfl ?_);show wpAny _ _ (if(Value.ref t==Value.none)=true then _ else _) _ _ s;rw[aA (λz=>d7 z:¬ ((Value.ref t==Value.none)=true))];show wpAny _ _ (field (.ref it) 1 >>= _) _ _ s;refine ao (ji ho hd (x:=.int i 0) rfl ?_);show wpAny _ _ (seqItems? (.ref t) >>= _) _ _ s;refine ao (qZ fk hdl ?_);simp only[qf,hx];refine ao (wG ho hd (by simp) (aK ⟨x,Z,aK (hQ _ ?_ (Bt ..))⟩));refine⟨_,K2 _ ho (Obj.isFreed_of_fields (Bv hd _)),(Obj.cls_mapFields ..).trans hc,?_⟩;rw[Bv hd];simp[rawInt]
def LO(hh:A.handled=none)(hit:s.heap.IsTupleIter it t i)(ht:s.heap.IsTuple t items)(hx:items[i]?=none)(hE:∀h' e,Heap.ExtBut it s.heap h'->(∃o,h'.get? e=some o/\o.cls =.type "StopIteration")->E (.ref e) { s with heap:=h' }):wpAny (model prog w) A (Builtin.SmallTypes.nextOf (.ref it)) Q E s:=by
 obtain⟨o,ho,hc,hd⟩:=id hit;obtain⟨ol,fk,_,nl,hdl⟩:=ht;unfold Builtin.SmallTypes.nextOf;refine ao (tR (name:=Str.ofString "__next__") hit.typeIs KN (tW KN hit.typeIs F.entry_tuple_iterator_next ?_ (F.args_tuple_iterator_next_1 _)));show wpAny _ _ (field (.ref it) 0 >>= _) _ _ s;refine ao (ji ho hd (x:=.ref t) rfl ?_);show wpAny _ _ (if(Value.ref t==Value.none)=true then _ else _) _ _ s;rw[aA (λz=>d7 z:¬ ((Value.ref t==Value.none)=true))];show wpAny _ _ (field (.ref it) 1 >>= _) _ _ s;refine ao (ji ho hd (x:=.int i 0) rfl ?_);show wpAny _ _ (seqItems? (.ref t) >>= _) _ _ s;refine ao (qZ fk hdl ?_);simp only[qf,hx];refine ao (wpAny_rule (ao (wG ho hd (by simp) ?_)));show wpAny _ _ (newExc (.type "StopIteration") [] >>= _) _ _ _;refine ao ?_;simp only[newExc,newTuple];refine ao (nK ?_ (by size_fits));refine ao (m:=firstArgMember _ _) (wpAny_of_eq (a:=Value.none) (by first|rfl|(simp only[firstArgMember];rfl)) ?_);refine nK ?_ (by size_fits);simp only[raiseNew];refine ao (wpAny_handled ?_);first|rw[show A.in1.handled=none from hh]|rw[hh]
 refine ao (aK (wpAny_throw ?_));exact hE _ _ (((Bt ..).extBut.push _).push _) ⟨_,c_ _ rfl,Z⟩
end
theorem TN{l:Addr}:vt P w K (λH=>bR K H l xs) xs it l (λi h=>h.IsTupleIter it l i) (λh=>∃BT:Cl Value,Vals xs BT/\h.IsTuple l BT.toArray) where
 obj:=λi h ⟨o,e,c,d⟩=>⟨o,e,λv z=>by rw[d]at z;cases z⟩
 keep:=λi h h' st k=>st.at k
 rG:=λh h' ⟨BT,r,o,e,q⟩ k=>⟨BT,r,o,k o e,q⟩
 CO:=λX hP hw hK AC σ H s I h=>by subst hP hw hK;obtain⟨BT,rv,p,_⟩:=I.tuple h;exact⟨BT,rv,p⟩
 item:=λA i x s Q E st ⟨BT,r,hl⟩ hx hQ=>by obtain⟨u,hu,ru⟩:=r.get hx;exact IJ st hl (by simpa using hu) λh' st' sb=>hQ u h' ru st' sb
 done:=λA i s Q E hh st ⟨BT,r,hl⟩ hx hE=>LO hh st hl (by have:=r.length;simp;omega) hE
section
variable {prog:Program}{w:World}{A:Around}{E:VS}{s:Shared}{K:Type}[DecidableEq K]{knd:KeyKind prog w K}
end
def jJ(v d:Addr):HO:=.ext λh=>h.IsValuesView v d
section
variable {X:Cx}
inductive Wi(Q:VK)(x:V)(H1:Hp):Prop
 |mk(d AT:_)(_:x =.ref d)(_:Rd H1 d (.dK AT))(_:∀v,H1 v=none->Q (.ref v) (upd H1 v (jJ v d)))
def Y6(td:TE):TE:=λσ H Q=>td σ H (Wi Q)
inductive Wk(K:Fg)(H:Hp):V->(Hp->Prop)->Cl V->Prop
 | lst {l:Addr} {xs:Cl V}:aI K H l xs->Wk K H (.ref l) (λH=>aI K H l xs) xs
 | tup {l:Addr} {xs:Cl V}:bR K H l xs->Wk K H (.ref l) (λH=>bR K H l xs) xs
 | keys {d:Addr} {o:Obj} {AT:Cl (Key×V)}:lY H d o AT->Wk K H (.ref d) (λH=>lY H d o AT) (AT.map λp=>kV p.1)
 | vals {v d:Addr} {o:Obj} {AT:Cl (Key×V)}:H v=some (jJ v d)->lY H d o AT->Wk K H (.ref v) (λH=>lY H d o AT) (AT.map λp=>p.2)
def Wk.ok{s:Shared}{u:V}{S:Hp->Prop}(k:Wk X.K H u S xs)(I:Inv X AC σ H s)(r:RelV u uv):S H/\∃(l:Addr)(o:Obj)(p:Heap->Prop),l<s.heap.objs.size/\p s.heap/\(∀h (ob:Obj),p h->p (h.push ob))/\(∀h:Heap,(h.push o).get? h.objs.size=some o)/\Fx X.prog X.w uv o p/\∀it:Addr,∃tn src,vt X.prog X.w X.K S xs it l tn src/\∀h:Heap,h.get? it=some o->tn 0 h:=by
 cases k with
 | @lst l xs hS=>cases r;obtain⟨BT,rv,p,_⟩:=I.list hS;obtain⟨ol,fk,_⟩:=id p.isList;refine⟨hS,l,_,λh=>h.IsList l BT.toArray,bK fk,p.isList,λh ob q=>q.push ob,λh=>c_ _ rfl,λA E s Q q h=>Lb q h,λit=>⟨_,_,Qy,λh e=>⟨_,e,Z,Z⟩⟩⟩
 | @tup l xs hS=>cases r;obtain⟨BT,rv,p,_⟩:=I.tuple hS;obtain⟨ol,fk,q0⟩:=id p;refine⟨hS,l,_,λh=>h.IsTuple l BT.toArray,bK fk,p,λh ob ⟨o1,a,b⟩=>⟨o1,bQ _ a,b⟩,λh=>c_ _ rfl,λA E s Q q h=>wpAny_pyIter_tuple q h,λit=>⟨_,_,TN,λh e=>⟨_,e,Z,Z⟩⟩⟩
 | @keys d o AT hz=>cases r;obtain⟨ho,hl,hsys,vs,ep,rel,da⟩:=I.oz hz;obtain⟨o',es,h1,_,h2,_⟩:=id da;rw[ho]at h1;cases h1;have el:AT.length=vs.length:=rel.length;refine⟨hz,d,_,λh=>h.DictAt (bZ X.prog X.w) d vs ep,bK ho,da,λh ob q=>q.push ob,λh=>c_ _ rfl,λA E s Q q h=>wpAny_pyIter_dict hsys q h,λit=>⟨_,_,Qz h2,λh e=>?_⟩⟩;rw[el];exact⟨_,e,Z,Z⟩
 | @vals v d o AT hv hz=>
  cases r;obtain⟨ho,hl,hsys,vs,ep,rel,da⟩:=I.oz hz;obtain⟨o',es,h1,_,h2,_⟩:=id da;rw[ho]at h1;cases h1;have el:AT.length=vs.length:=rel.length;obtain⟨hv',_⟩:=(show c5 X.prog X.w H s.heap v (jJ v d)from I.hok v _ hv)
  refine⟨hz,d,_,λh=>h.IsValuesView v d/\h.DictAt (bZ X.prog X.w) d vs ep,bK ho,⟨hv',da⟩,λh ob ⟨⟨o1,a,b⟩,q⟩=>⟨⟨o1,bQ _ a,b⟩,q.push ob⟩,λh=>c_ _ rfl,λA E s Q q h=>wpAny_pyIter_values q.1 q.2 h,λit=>⟨_,_,QA h2,λh e=>?_⟩⟩;rw[el];exact⟨_,e,Z,Z⟩
variable {Ch:Cl Expr}{kk:Nat}{tpos:Pos}
inductive Wj(K:Fg)(R:It->Hp->Prop)(vs:Cl V)(H1:Hp):Prop
 |mk(u1 u2 S1 S2 xs ys:_)(_:vs=[u1,u2])(_:Wk K H1 u1 S1 xs)(_:Wk K H1 u2 S2 ys)(_:R (Wh S1 S2 xs ys:_) H1)
def Y7(K:Fg)(ta:TA):TI:=λσ H R=>ta σ H (Wj K R)
theorem CQ(hc:X.calm=true):fJ X (.builtin "sum") (λxs H Q=>∃(v d:Addr)(AT:Cl (Key×V))(ns:Cl Int),xs=[.ref v]/\H v=some (jJ v d)/\Rd H d (.dK AT)/\AT.map (·.2)=ns.map V.int/\Q (.int ns.sum) H):=by
 intro AC s σ H xs us Q I r h;obtain⟨v,d,AT,ns,rfl,hv,hz,en,q⟩:=h;obtain⟨u,rfl,ru⟩:=vals1 r;cases ru;obtain⟨_,hsys,vs,rel,dd⟩:=pY I.hok hz;obtain⟨ep,da⟩:=dd.dictAt;obtain⟨hv',_⟩:=(show c5 X.prog X.w H s.heap v (jJ v d)from I.hok v _ hv)
 have hl:AT.length=vs.length:=rel.length;have hlt:=da.lt_size;have hne:d≠s.heap.objs.size:=dI hlt;have W:=(Walks.dictValues (prog:=X.prog) (w:=X.w) (A:=X.A.in1) (knd:=bZ X.prog X.w) (I.ok.hd hc) s.heap.objs.size d hne vs ep).toS;have z8:AT.length=ns.length:=by have:=fY List.length en;simpa using this
 refine call_sum_walkAnyS (wpAny_pyIter_values hv' da ?_);refine⟨s.heap.objs.size,_,_,_,_,_,_,λi=>ns.getD i 0,Z,W,⟨⟨_,c_ _ rfl,Z,Z⟩,da.push _⟩,λb hb=>?_,λi x hP=>?_,λs' t' hm=>?_⟩
 .rcases cV.mp hb with rfl|hb
  .exact bK (c_ _ rfl)
  .obtain rfl:=eU.mp hb;exact(da.push _).lt_size
 .obtain ⟨k,hk⟩:=hP;have hil:i<ns.length:=by have:=(dW.mp hk).1;omega
  have hik:i<AT.length:=by omega
  obtain⟨q',hq',_,rq⟩:=vo rel (a_ hik);rw[hk]at hq';cases hq';have e1:AT[i].2=V.int (ns.getD i 0):=by have:=fY (λl=>l[i]?) en;simp only[cz,a_ hik,a_ hil]at this;rw[dP,a_ hil];exact fh this
  rw[e1]at rq;exact rq
 .obtain ⟨h',g',d',tk',os'⟩:=s';have e1:g'=s.gens:=hm.gens;have e2:d'=s.drawn:=hm.drawn;have e3:os'=s.os:=hm.os;subst e1 e2 e3;have hsz:vs.length=ns.length:=by omega
  rw[hsz,preSum_getD,KZ (aO _)];exact⟨.int ns.sum,H,I.kept (h':=h') (t':=tk') λb o e=>hm.heap b o (λhb=>absurd (bK e) ((eU.mp hb)▸iK _)) (bQ _ e),⟨t',Z⟩,q⟩
end
def c8:St->Cl Nat->Cl V->St
 | σ,k::ks,v::vs=>c8 (σ.set k (some v)) ks vs
 | σ,_,_=>σ
theorem Ad{k:Nat}{v:Option V}:∀{ks:Cl Nat}{vs:Cl V}{σ:St},k∉ks->(c8 σ ks vs).set k v=c8 (σ.set k v) ks vs
 | [],_,_,_=>by unfold c8;rfl
 | _::_,[],_,_=>by unfold c8;rfl
 | j::ks,w::vs,σ,h=>by have hj:k≠j:=λe=>h (by rw[e];exact cD);show(c8 (σ.set j (some w)) ks vs).set k v=c8 ((σ.set k v).set j (some w)) ks vs;rw[Ad (λm=>h (ck _ m)),List.set_comm _ _ hj]
theorem qt:∀{ks:Cl Nat}{vs ws:Cl V}{σ:St},ks.Nodup->vs.length=ks.length->ws.length=ks.length->c8 (c8 σ ks vs) ks ws=c8 σ ks ws
 | [],[],[],_,_,_,_=>rfl
 | k::ks,v::vs,w::ws,σ,nd,h1,h2=>by have nk:=(fj.mp nd).1;show c8 ((c8 (σ.set k (some v)) ks vs).set k (some w)) ks ws=c8 (σ.set k (some w)) ks ws;rw[Ad nk,zK,qt (fj.mp nd).2 (by simpa using h1) (by simpa using h2)]
def RZ:Cl Nat->zM
 | []=>U9
 | k::ks=>RJ (oq k) (RZ ks)
theorem Fy{Q:St->Hp->Prop}{H:Hp}:∀{ks:Cl Nat}{vs:Cl V}{σ:St},vs.length=ks.length->Q (c8 σ ks vs) H->RZ ks vs σ H Q
 | [],[],_,_,q=>⟨Z,q⟩
 | k::ks,v::vs,σ,h,q=>⟨v,vs,Z,Fy (by simpa using h) q⟩
theorem vv(ks:Cl Nat)(Pv:Nat->Cl V->Hp->Prop)(nd:ks.Nodup)(hn:n<=100000)(h0:Pv 0 [] (upd H Ap (.lst [])))(hgo:∀i out H1,i<n->H1 Ap=some (.lst out)->Pv i out H1->J.go i H1)(hst:∀out H1,H1 Ap=some (.lst out)->Pv n out H1->J.stop n H1)(hs:∀(i:Nat) (x:V) (out:Cl V) (H1 H2:Hp),i<n->out.length=i->H1 Ap=some (.lst out)->Pv i out H1->J.zN i H1 x H2->
    ∃t vs,x =.ref t/\bR K H2 t vs/\vs.length=ks.length/\te (c8 σ2 ks vs) H2 (pF Pv i Ap out))(hd:∀(out:Cl V) (H1:Hp),out.length=n->H1 Ap=some (.lst out)->Pv n out H1->Q (.ref Ap) H1):
  wW J (yr K ks.length (RZ ks)) te Ap σ2 H Q:=by
 refine⟨λi m σ' H'=>m=n-i/\i<=n/\(∀ws,ws.length=ks.length->c8 σ' ks ws=c8 σ2 ks ws)/\∃out,out.length=i/\H' Ap=some (.lst out)/\Pv i out H',⟨n,by simp,gP _,λ_ _=>rfl,[],Z,ai,h0⟩,?_⟩
 rintro i m σ' H' ⟨rfl,hi,hσ,out,ho,ha,p⟩
 by_cases hlt:i<n
 . refine .inr ⟨hgo i out H' hlt ha p,λσ3=>∀ws,ws.length=ks.length->c8 σ3 ks ws=c8 σ2 ks ws,(pF Pv i Ap out),λσ3 v H4 hS ⟨a,b⟩=>?_,λx H1 y=>?_⟩
   . refine⟨out,a,?_,n-(i+1),by omega,Z,hlt,hS,out++[v],by rw[cO,ho];rfl,ai,b⟩
     have:sizeLine=16777216:=gQ
     omega
   . obtain⟨t,vs,rfl,sq,hl,q⟩:=hs i x out H' H1 hlt ho ha p y
     refine⟨t,vs,Z,sq,hl,Fy hl ⟨λws hw=>?_,?_⟩⟩
     . rw[qt nd hl hw];exact hσ ws hw
     . rw[hσ vs hl];exact q
 . have e:i=n:=by omega
   subst e
   exact .inl ⟨hst out H' ha p,hd out H' ho ha p⟩
theorem TQ(ks:Cl Nat)(Pv:Nat->Cl V->Hp->Prop)(nd:ks.Nodup)(hn:n<=100000)(h0:Pv 0 [] (upd H Ap (.lst [])))(hgo:∀i out H1,i<n->H1 Ap=some (.lst out)->Pv i out H1->J.go i H1)(hst:∀out H1,H1 Ap=some (.lst out)->Pv n out H1->J.stop n H1)(hs:∀(i:Nat) (x:V) (out:Cl V) (H1 H2:Hp),i<n->out.length<=i->H1 Ap=some (.lst out)->Pv i out H1->J.zN i H1 x H2->
    ∃t vs,x =.ref t/\bR K H2 t vs/\vs.length=ks.length/\tc (c8 σ2 ks vs) H2 (LF te (c8 σ2 ks vs) Pv i Ap out))(hd:∀(out:Cl V) (H1:Hp),out.length<=n->H1 Ap=some (.lst out)->Pv n out H1->Q (.ref Ap) H1):
  Aa J (yr K ks.length (RZ ks)) tc te Ap σ2 H Q:=by
 refine⟨λi m σ' H'=>m=n-i/\i<=n/\(∀ws,ws.length=ks.length->c8 σ' ks ws=c8 σ2 ks ws)/\∃out,out.length<=i/\H' Ap=some (.lst out)/\Pv i out H',⟨n,by simp,gP _,λ_ _=>rfl,[],aO _,ai,h0⟩,?_⟩
 rintro i m σ' H' ⟨rfl,hi,hσ,out,ho,ha,p⟩
 by_cases hlt:i<n
 . refine .inr ⟨hgo i out H' hlt ha p,λσ3=>∀ws,ws.length=ks.length->c8 σ3 ks ws=c8 σ2 ks ws,(pF Pv i Ap out),λH3=>H3 Ap=some (.lst out)/\Pv (i+1) out H3,λσ3 v H4 hS ⟨a,b⟩=>?_,λσ3 H4 hS ⟨a,b⟩=>?_,λx H1 y=>?_⟩
   . refine⟨out,a,?_,n-(i+1),by omega,Z,hlt,hS,out++[v],by rw[cO];exact Nat.succ_le_succ ho,ai,b⟩
     have:sizeLine=16777216:=gQ
     omega
   . exact⟨n-(i+1),by omega,Z,hlt,hS,out,by omega,a,b⟩
   . obtain⟨t,vs,rfl,sq,hl,q⟩:=hs i x out H' H1 hlt ho ha p y
     refine⟨t,vs,Z,sq,hl,Fy hl ⟨λws hw=>?_,?_⟩⟩
     . rw[qt nd hl hw];exact hσ ws hw
     . rw[hσ vs hl];exact q
 . have e:i=n:=by omega
   subst e
   exact .inl ⟨hst out H' ha p,hd out H' ho ha p⟩
theorem ia(k:Nat)(Pv:Nat->Cl V->Hp->Prop)(hn:n<=100000)(h0:Pv 0 [] (upd H Ap (.lst [])))(hgo:∀i out H1,i<n->H1 Ap=some (.lst out)->Pv i out H1->J.go i H1)(hst:∀out H1,H1 Ap=some (.lst out)->Pv n out H1->J.stop n H1)(hs:∀(i:Nat) (x:V) (out:Cl V) (H1 H2:Hp),i<n->out.length=i->H1 Ap=some (.lst out)->Pv i out H1->J.zN i H1 x H2->
    te (σ2.set k (some x)) H2 (pF Pv i Ap out))(hd:∀(out:Cl V) (H1:Hp),out.length=n->H1 Ap=some (.lst out)->Pv n out H1->Q (.ref Ap) H1):
  wW J (oq k) te Ap σ2 H Q:=by
 refine⟨λi m σ' H'=>m=n-i/\i<=n/\(∀w:Option V,σ'.set k w=σ2.set k w)/\∃out,out.length=i/\H' Ap=some (.lst out)/\Pv i out H',⟨n,by simp,gP _,λ_=>rfl,[],Z,ai,h0⟩,?_⟩
 rintro i m σ' H' ⟨rfl,hi,hσ,out,ho,ha,p⟩
 by_cases hlt:i<n
 . refine .inr ⟨hgo i out H' hlt ha p,λσ3=>∀w:Option V,σ3.set k w=σ2.set k w,(pF Pv i Ap out),λσ3 v H4 hS ⟨a,b⟩=>?_,λx H1 y=>?_⟩
   . refine⟨out,a,?_,n-(i+1),by omega,Z,hlt,hS,out++[v],by rw[cO,ho];rfl,ai,b⟩
     have:sizeLine=16777216:=gQ
     omega
   . refine⟨λw=>by rw[zK];exact hσ w,?_⟩
     rw[hσ]
     exact hs i x out H' H1 hlt ho ha p y
 . have e:i=n:=by omega
   subst e
   exact .inl ⟨hst out H' ha p,hd out H' ho ha p⟩
theorem BK(k:Nat)(Pv:Nat->Cl V->Hp->Prop)(hn:n<=100000)(h0:Pv 0 [] (upd H Ap (.lst [])))(hgo:∀i out H1,i<n->H1 Ap=some (.lst out)->Pv i out H1->J.go i H1)(hst:∀out H1,H1 Ap=some (.lst out)->Pv n out H1->J.stop n H1)(hs:∀(i:Nat) (x:V) (out:Cl V) (H1 H2:Hp),i<n->out.length<=i->H1 Ap=some (.lst out)->Pv i out H1->J.zN i H1 x H2->
    tc (σ2.set k (some x)) H2 (LF te (σ2.set k (some x)) Pv i Ap out))(hd:∀(out:Cl V) (H1:Hp),out.length<=n->H1 Ap=some (.lst out)->Pv n out H1->Q (.ref Ap) H1):
  Aa J (oq k) tc te Ap σ2 H Q:=by
 refine⟨λi m σ' H'=>m=n-i/\i<=n/\(∀w:Option V,σ'.set k w=σ2.set k w)/\∃out,out.length<=i/\H' Ap=some (.lst out)/\Pv i out H',⟨n,by simp,gP _,λ_=>rfl,[],aO _,ai,h0⟩,?_⟩
 rintro i m σ' H' ⟨rfl,hi,hσ,out,ho,ha,p⟩
 by_cases hlt:i<n
 . refine .inr ⟨hgo i out H' hlt ha p,λσ3=>∀w:Option V,σ3.set k w=σ2.set k w,(pF Pv i Ap out),λH3=>H3 Ap=some (.lst out)/\Pv (i+1) out H3,λσ3 v H4 hS ⟨a,b⟩=>?_,λσ3 H4 hS ⟨a,b⟩=>?_,λx H1 y=>?_⟩
   . refine⟨out,a,?_,n-(i+1),by omega,Z,hlt,hS,out++[v],by rw[cO];exact Nat.succ_le_succ ho,ai,b⟩
     have:sizeLine=16777216:=gQ
     omega
   . exact⟨n-(i+1),by omega,Z,hlt,hS,out,by omega,a,b⟩
   . refine⟨λw=>by rw[zK];exact hσ w,?_⟩
     rw[hσ]
     exact hs i x out H' H1 hlt ho ha p y
 . have e:i=n:=by omega
   subst e
   exact .inl ⟨hst out H' ha p,hd out H' ho ha p⟩
structure Mn(P:Program)(w:World)(K:Fg)(mg:SO)(base:Heap)(k:Nat)(C:Addr)(m:Str)(ps:Cl Str)(sp:Sp):Prop where
 ex:∃f fd,iT P w K mg base qh k f fd ps sp/\Binds K fd ps []/\Meth K C m f/\mO K C
structure Cn(P:Program)(w:World)(K:Fg)(mg:SO)(base:Heap)(k:Nat)(x:Str)(C:Addr)(ps:Cl Str)(sp:Sp):Prop where
 ex:∃f fd,iT P w K mg base qh k f fd ps sp/\Binds K fd ps []/\Mk K C f/\mg x=some (.ref C)
section
variable {X:Cx}
inductive Y8(x:V)(y:V)(H:Hp)(Q:VK):Prop
 |mk(i j:_)(_:x =.int i)(_:y =.int j)(_:LB i j)(_:Q (.int (i*j)) H)
def TR:Lq X .Mult Y8:=by
 rintro AC s σ H x y u v Q I rx ry ⟨i,j,rfl,rfl,⟨m,n,h1,h2,h3⟩,q⟩;obtain⟨t,rfl⟩:=(show ∃t,u=Value.int i t from rx)
 obtain⟨t',rfl⟩:=(show ∃t',v=Value.int j t' from ry)
 exact PyProof.Rows.imul_int ⟨.int (i*j),H,I.tok _,⟨_,Z⟩,q⟩ (IntMulOk.of_le (K7.mpr h1) (K7.mpr h2) h3)
end
structure jw(K:Fg)(C:Addr)(m qual:Str)(st:Stmt)(f:Addr)(fd:FuncData):Prop where
 fn:CL K m qual st f fd
 me:Meth K C m f
 cl:mO K C
variable {mg:SO}{base:Heap}{C f:Addr}{qual:Str}{fd:FuncData}{N:Cl Str}{sp:Sp}
theorem jw.ok{m:Str}{st:Stmt}{ps:Cl Str}{k:Nat}(F:jw K C m qual st f fd)(S:aS N ps (aC st))(len:∀vs H Q E,sp vs H Q E->vs.length=ps.length)(B1:∀(cdv:Value) (A:Around) (outer:Cl Env) (s:Shared) (H:Hp) (vs:Cl V) (Q:VK) (E:XK),dg k (A.deeper (envOfC qual (aC st) s.heap.objs.size f cdv))->sp vs H Q E->
    ∃t,rB (pe qh P w K mg base N qual (aC st) f cdv A outer s H E).xR (cN st) t/\t { nx:=λ_ H'=>Q .b8 H',rt:=Q } (start N vs) H)(h:∀(kV doc pm:Value) (an:Option Addr) (cdv ct:Value) (us:Cl Value),us.length=ps.length->bindArgs (PySem.W.fnOf m qual (dS st) (cN st) (aC st) .none kV doc pm an cdv ct) ⟨us,[]⟩=pure (ps.zip us)):
  Mn P w K mg base (k+1) C m ps sp:=⟨f,fd,F.fn.ok S len B1,F.fn.binds h,F.me,F.cl⟩
structure CS(K:Fg)(mg:SO)(x:Str)(C:Addr)(qual:Str)(st:Stmt)(f:Addr)(fd:FuncData):Prop where
 fn:CL K "__init__" qual st f fd
 mks:Mk K C f
 name:mg x=some (.ref C)
theorem CS.ok{st:Stmt}{ps:Cl Str}{k:Nat}(F:CS K mg x C qual st f fd)(S:aS N ps (aC st))(len:∀vs H Q E,sp vs H Q E->vs.length=ps.length)(B1:∀(cdv:Value) (A:Around) (outer:Cl Env) (s:Shared) (H:Hp) (vs:Cl V) (Q:VK) (E:XK),dg k (A.deeper (envOfC qual (aC st) s.heap.objs.size f cdv))->sp vs H Q E->
    ∃t,rB (pe qh P w K mg base N qual (aC st) f cdv A outer s H E).xR (cN st) t/\t { nx:=λ_ H'=>Q .b8 H',rt:=Q } (start N vs) H)(h:∀(kV doc pm:Value) (an:Option Addr) (cdv ct:Value) (us:Cl Value),us.length=ps.length->bindArgs (PySem.W.fnOf "__init__" qual (dS st) (cN st) (aC st) .none kV doc pm an cdv ct) ⟨us,[]⟩=pure (ps.zip us)):
  Cn P w K mg base (k+1) x C ps sp:=⟨f,fd,F.fn.ok S len B1,F.fn.binds h,F.mks,F.name⟩
abbrev lZ:=Nat×Nat×Str
abbrev gu:=Addr->Option lZ
abbrev col(n t:Nat):Option lZ:=some (n,t,(⟨#[]⟩:Str))
def isTup:HO->Bool
 | .tup _=>true
 | _=>false
def Gh(ρ:gu)(H:Hp):Prop:=∀b c,ρ b=some c->∃o,H b=some o/\isTup o=false
def Fr(n:Nat)(ρ:gu)(H:Hp)(ρ':gu)(H':Hp):Prop:=∀b o,H b=some o->(∀t x,ρ b≠some (n,t,x))->H' b=some o/\ρ' b=ρ b
def fT(ρ:gu)(a:Addr)(c:lZ):gu:=λb=>if b=a then some c else ρ b
variable {ρ:gu}
def jf{c:lZ}:fT ρ a c a=some c:=aB rfl
def eZ{c:lZ}(h:b≠a):fT ρ a c b=ρ b:=aA h
def out(ρ:gu)(H:Hp):Hp:=λb=>if ρ b=none then H b else none
variable {o:HO}
def qu(h:H b=some o)(c:ρ b=none):out ρ H b=some o:=by unfold out;rw[aB c];exact h
def lJ(h:out ρ H b=some o):H b=some o/\ρ b=none:=by
 unfold out at h;split at h
 .next c=>exact⟨h,c⟩
 .cases h
theorem Gh.none(g:Gh ρ H)(h:H b=Option.none):ρ b=Option.none:=by
 cases e:ρ b with
 | none=>rfl
 | some c=>obtain⟨o,q,_⟩:=g b c e;rw[h]at q;cases q
theorem Gh.tup{ρ:gu}{H:Hp}(g:Gh ρ H){b:Addr}{xs:Cl V}(h:H b=some (.tup xs)):ρ b=Option.none:=by
 cases e:ρ b with
 | none=>rfl
 | some c=>obtain⟨o,q,t⟩:=g b c e;rw[h]at q;cases q;cases t
def Gh.same(g:Gh ρ H)(s:aE H H'):Gh ρ H':=λb c e=>let⟨o,h,t⟩:=g b c e;⟨o,s b o h,t⟩
def Gh.wr(g:Gh ρ H)(t:isTup o=false):Gh ρ (upd H a o):=λb c e=>by
 by_cases h:b=a
 .rw [h,ai];exact⟨o,Z,t⟩
 .rw [ay h];exact g b c e
def Gh.alloc(g:Gh ρ H)(h:H a=Option.none):Gh ρ (upd H a o):=g.same (aD h o)
def Gh.color(g:Gh ρ H){c:lZ}(h:H a=some o)(t:isTup o=false):Gh (fT ρ a c) H:=λb d e=>by
 by_cases z:b=a
 .rw [z];exact⟨o,h,t⟩
 .rw [eZ z]at e;exact g b d e
def Fr.refl:Fr n ρ H ρ H:=λ_ _ h _=>⟨h,Z⟩
variable {H1 H2:Hp}
theorem Fr.trans{ρ1 ρ2:gu}(a:Fr n ρ H ρ1 H1)(b:Fr n ρ1 H1 ρ2 H2):Fr n ρ H ρ2 H2:=λc o h k=>by obtain⟨h1,e1⟩:=a c o h k;obtain⟨h2,e2⟩:=b c o h1 (by rw[e1];exact k);exact⟨h2,e2.trans e1⟩
def Fr.of_same(s:aE H H'):Fr n ρ H ρ H':=λb o h _=>⟨s b o h,Z⟩
def Fr.write(c:ρ a=some (n,t,x)):Fr n ρ H ρ (upd H a o):=λb u h k=>by have:b≠a:=λe=>k t x (by rw[e];exact c);rw[ay this];exact⟨h,Z⟩
def Fr.color{c:lZ}(h:H a=none)(s:aE H H'):Fr n ρ H (fT ρ a c) H':=λb u e k=>by rw[eZ (aG e h)];exact⟨s b u e,Z⟩
variable {ρ':gu}
theorem Fr.out(f:Fr n ρ H ρ' H'):aE (out ρ H) (out ρ' H'):=λb o h=>by obtain⟨h1,c⟩:=lJ h;obtain⟨h2,e⟩:=f b o h1 (λt x=>by rw[c];intro z;cases z);exact qu h2 (e.trans c)
def lK(s:aE H H'):aE (out ρ H) (out ρ H'):=λb o h=>by obtain⟨h1,c⟩:=lJ h;exact qu (s b o h1) c
structure Pt where
 nm:Str
 ow:Str
 wo:Int
 we:Int
 sc:Int
 row:Cl Int
structure NL where
 nm:Str
 ow:Str
 wo:Int
 sh:Cl (Str×Rat)
structure HS where
 own:Cl Str
 ah:Cl Pt
 dN:Cl NL
 nms:Cl Str
 stp:Cl Int
 prod:Int
 kn:Nat
 aW:Cl Int
 bN:Cl Int
structure HA where
 a:Addr
 dx:Addr
 pl:Addr
 ab:Addr
 as:Addr
 nm:Addr
 bt:Addr
 db:Addr
 cm:Addr
 pu:Addr
 sp:Addr
 kn:Addr
 qs:Cl (Addr×Addr×Addr)
structure TC where
 hold:Addr
 part:Addr
 bot:Addr
def dX:Nat->Cl Str->Cl (Key×V)
 | _,[]=>[]
 | i,o::r=>(Sum.inr o,.int i)::dX (i+1) r
def cu(ps:Cl Pt)(qs:Cl (Addr×Addr×Addr)):Cl (Key×V):=List.zipWith (λp q=>((Sum.inr p.nm:Key),V.ref q.1)) ps qs
def rH(l:Cl Str):Cl (Key×V):=l.map λx=>(Sum.inr x,.bl true)
def kD(A:HA):Cl (Str×V):=[("places",.ref A.pl),("aboard",.ref A.ab),("ashore",.ref A.as),("names",.ref A.nm),("bottom",.ref A.bt),("common",.ref A.cm),("purses",.ref A.pu)]
def jS(p:Pt)(r:Addr):Cl (Str×V):=[("name",.str p.nm),("owner",.str p.ow),("worth",.int p.wo),("weight",.int p.we),("scale",.int p.sc),("row",.ref r)]
def uu(sp:Addr)(prod:Int)(kn:Addr):Cl (Str×V):=[("steps",.ref sp),("product",.int prod),("known",.ref kn)]
def Fz(H:Hp)(AT:Cl (Key×V))(prod:Int):Prop:=∀p∈AT,∃(t:Int)(r:Addr),p=(Sum.inl t,V.ref r)/\H r=some (lI (Jm.fr t prod))
inductive jF(H:Hp):Cl V->Cl (Str×Rat)->Prop
 | nil:jF H [] []
 | cons {r f:Addr} {x:Str} {q:Rat} {vs:Cl V} {l:Cl (Str×Rat)}:H r=some (.tup [.str x,.ref f])->H f=some (lI q)->jF H vs l->jF H (.ref r::vs) ((x,q)::l)
inductive uw(n:Nat)(ρ:gu)(H:Hp):Cl V->Cl NL->Prop
 | nil:uw n ρ H [] []
 | cons {r l:Addr} {x:NL} {ss:Cl V} {vs:Cl V} {as:Cl NL}:H r=some (.tup [.str x.nm,.str x.ow,.int x.wo,.ref l])->H l=some (.lst ss)->ρ l=some (n,30,⟨#[]⟩)->jF H ss x.sh->uw n ρ H vs as->uw n ρ H (.ref r::vs) (x::as)
structure aR(T:TC)(n:Nat)(ρ:gu)(A:HA)(H:Hp)(st:HS):Prop where
 oa:H A.a=some (.ins T.hold A.dx (kD A))
 ca:ρ A.a=col n 0
 ie:H A.pl=some (.dK (dX 0 st.own))
 iI:ρ A.pl=col n 1
 cY:H A.ab=some (.dK (cu st.ah A.qs))
 fL:ρ A.ab=col n 2
 sU:∃vs,H A.as=some (.lst vs)/\uw n ρ H vs st.dN
 jg:ρ A.as=col n 3
 qw:H A.nm=some (.dK (rH st.nms))
 iV:ρ A.nm=col n 4
 ku:H A.bt=some (.ins T.bot A.db (uu A.sp st.prod A.kn))
 iW:ρ A.bt=col n 5
 iJ:H A.cm=some (.lst (st.aW.map V.int))
 jx:ρ A.cm=col n 6
 nJ:H A.pu=some (.lst (st.bN.map V.int))
 cpu:ρ A.pu=col n 7
 oU:H A.sp=some (.lst (st.stp.map V.int))
 iX:ρ A.sp=col n 8
 okn:∃AT,H A.kn=some (.dK AT)/\Fz H AT st.prod/\AT.length<=st.kn/\(AT.map (·.1)).Nodup
 iY:ρ A.kn=col n 9
 ql:A.qs.length=st.ah.length
 opt:∀(i:Nat)(p:Pt)(q:Addr×Addr×Addr),st.ah[i]?=some p->A.qs[i]?=some q->H q.1=some (.ins T.part q.2.1 (jS p q.2.2))/\H q.2.2=some (.lst (p.row.map V.int))/\ρ q.1=some (n,20,p.nm)/\ρ q.2.2=some (n,21,p.nm)
def Ae{c d:lZ}(ha:ρ a=some c)(hb:ρ b=some d)(h:c≠d):a≠b:=λe=>by rw[e,hb]at ha;cases ha;exact h rfl
def x9{c:lZ}(ha:ρ a=none)(hb:ρ b=some c):a≠b:=λe=>by rw[e,hb]at ha;cases ha
variable {vs:Cl V}
def jF.mono{l:Cl (Str×Rat)}(h:jF H vs l)(g:∀b xs,H b=some (.tup xs)->H' b=some (.tup xs)):jF H' vs l:=by
 induction h with
 | nil=>exact .nil
 | cons a b _ ih=>exact .cons (g _ _ a) (g _ _ b) ih
def Kp(n:Nat)(ρ ρ':gu)(H H':Hp)(ts:Nat->Bool):Prop:=(∀b xs,H b=some (.tup xs)->H' b=some (.tup xs))/\∀b t x o,ts t=true->ρ b=some (n,t,x)->H b=some o->H' b=some o/\ρ' b=some (n,t,x)
variable {ts:Nat->Bool}
def uw.keep{l:Cl NL}(h:uw n ρ H vs l)(k:Kp n ρ ρ' H H' ts)(e:ts 30=true):uw n ρ' H' vs l:=by
 induction h with
 | nil=>exact .nil
 | cons a b c d _ ih=>exact .cons (k.1 _ _ a) (k.2 _ _ _ _ e c b).1 (k.2 _ _ _ _ e c b).2 (d.mono k.1) ih
def gO(g:Gh ρ H)(c:ρ a=some (n,t,x)):Kp n ρ ρ H (upd H a o) (λu=>decide (u≠t)):=by
 refine⟨λb xs h=>?_,λb u y w hu hc h=>⟨?_,hc⟩⟩
 .rw [ay (x9 (g.tup h) c)];exact h
 .rw [ay (Ae hc c (λe=>by cases e;exact absurd hu (by simp)))];exact h
def kz(k:Kp n ρ ρ' H H' ts)(c:ρ b=some (n,t,x))(e:H b=some o)(u:ts t=true:=by decide):H' b=some o:=(k.2 b t x o u c e).1
def TU(s:aE H H'):Kp n ρ ρ H H' ts:=⟨λb xs h=>s _ _ h,λb u y w _ hc h=>⟨s _ _ h,hc⟩⟩
variable {T:TC}{st:HS}
def aR.same{A:HA}(h:aR T n ρ A H st)(k:Kp n ρ ρ' H H' λ_=>true):aR T n ρ' A H' st:=by
 have z:=λ{b:Addr}{t:Nat}{x:Str}{o:HO}(c:ρ b=some (n,t,x))(e:H b=some o)=>k.2 b t x o rfl c e;obtain⟨vs,h1,h2⟩:=h.sU;obtain⟨AT,k1,k2,k3⟩:=h.okn;exact⟨(z h.ca h.oa).1,(z h.ca h.oa).2,(z h.iI h.ie).1,(z h.iI h.ie).2,(z h.fL h.cY).1,(z h.fL h.cY).2,⟨vs,(z h.jg h1).1,h2.keep k rfl⟩,(z h.jg h1).2,(z h.iV h.qw).1,(z h.iV h.qw).2,(z h.iW h.ku).1,(z h.iW h.ku).2,
  (z h.jx h.iJ).1,(z h.jx h.iJ).2,(z h.cpu h.nJ).1,(z h.cpu h.nJ).2,(z h.iX h.oU).1,(z h.iX h.oU).2,⟨AT,(z h.iY k1).1,λp hp=>let⟨t,r,e,q⟩:=k2 p hp;⟨t,r,e,k.1 _ _ q⟩,k3⟩,(z h.iY k1).2,h.ql,
  λi p q e1 e2=>let⟨a,b,c,d⟩:=h.opt i p q e1 e2;⟨(z c a).1,(z d b).1,(z c a).2,(z d b).2⟩⟩
def aR.mono{A:HA}(h:aR T n ρ A H st)(s:aE H H'):aR T n ρ A H' st:=h.same (TU s)
theorem BL{p0 p1:Pt}:∀{ps:Cl Pt}{qs:Cl (Addr×Addr×Addr)}{i:Nat},ps[i]?=some p0->p1.nm=p0.nm->cu (ps.set i p1) qs=cu ps qs
 | [],_,_,h,_=>by simp at h
 | _::_,[],_,_,_=>by simp[cu]
 | p::ps,q::qs,0,h,e=>by
  have:p=p0:=by simpa using h
  simp[cu,e,this]
 | p::ps,q::qs,i+1,h,e=>by have:=BL (qs:=qs) (by simpa using h:ps[i]?=some p0) e;simp only[cu,List.set_cons_succ,ym]at this ⊢;rw[this]
variable {ps:Cl Pt}{p:Pt}
def FA(nd:(ps.map (·.nm)).Nodup){q:Pt}(h1:ps[i]?=some p)(h2:ps[j]?=some q)(e:p.nm=q.nm):i=j:=by
 have a:(ps.map (·.nm))[i]?=some p.nm:=by rw[cz,h1];rfl
 have b:(ps.map (·.nm))[j]?=some p.nm:=by rw[cz,h2,e];rfl
 exact yq nd a b
variable {p0:Pt}{q0:Addr×Addr×Addr}
def TV{A:HA}(h:aR T n ρ A H st)(k:Kp n ρ ρ H H' ts)(nd:(st.ah.map (·.nm)).Nodup){p1:Pt}(ep:st.ah[i]?=some p0)(eq:A.qs[i]?=some q0)(e1:p1.nm=p0.nm)(hw:H' q0.1=some (.ins T.part q0.2.1 (jS p1 q0.2.2)))(hs:∀{b:Addr} {t:Nat} {x:Str} {o:HO},ρ b=some (n,t,x)->t≠20\/x≠p0.nm->H b=some o->H' b=some o)(er:(.lst (p0.row.map V.int):HO) =.lst (p1.row.map V.int)):
  ∀(j:Nat)(p:Pt)(q:Addr×Addr×Addr),(st.ah.set i p1)[j]?=some p->A.qs[j]?=some q->H' q.1=some (.ins T.part q.2.1 (jS p q.2.2))/\H' q.2.2=some (.lst (p.row.map V.int))/\ρ q.1=some (n,20,p.nm)/\ρ q.2.2=some (n,21,p.nm):=by
 intro j p q ej eq'
 by_cases hj:i=j
 . subst hj
   rw[eq]at eq';cases eq'
   rw[Bs (dW.mp ep).1]at ej
   cases ej
   obtain⟨a,b,c,d⟩:=h.opt i p0 q0 ep eq
   exact⟨hw,by rw[<-er];exact hs d (.inl (by decide)) b,by rw[e1];exact c,by rw[e1];exact d⟩
 . rw[EK hj]at ej
   obtain⟨a,b,c,d⟩:=h.opt j p q ej eq'
   exact⟨hs c (.inr λe=>hj (FA nd ep ej e.symm)) a,hs d (.inl (by decide)) b,c,d⟩
variable {l:Cl Int}
def QC{A:HA}(h:aR T n ρ A H st)(nd:(st.ah.map (·.nm)).Nodup)(ep:st.ah[i]?=some p0)(eq:A.qs[i]?=some q0)(hw:H' q0.2.2=some (.lst (l.map V.int)))(hs:∀{b:Addr} {t:Nat} {x:Str} {o:HO},ρ b=some (n,t,x)->t≠21\/x≠p0.nm->H b=some o->H' b=some o):
  ∀(j:Nat)(p:Pt)(q:Addr×Addr×Addr),(st.ah.set i { p0 with row:=l })[j]?=some p->A.qs[j]?=some q->H' q.1=some (.ins T.part q.2.1 (jS p q.2.2))/\H' q.2.2=some (.lst (p.row.map V.int))/\ρ q.1=some (n,20,p.nm)/\ρ q.2.2=some (n,21,p.nm):=by
 intro j p q ej eq'
 by_cases hj:i=j
 . subst hj
   rw[eq]at eq';cases eq'
   rw[Bs (dW.mp ep).1]at ej
   cases ej
   obtain⟨a,b,c,d⟩:=h.opt i p0 q0 ep eq
   exact⟨hs c (.inl (by decide)) a,hw,c,d⟩
 . rw[EK hj]at ej
   obtain⟨a,b,c,d⟩:=h.opt j p q ej eq'
   exact⟨hs c (.inl (by decide)) a,hs d (.inr λe=>hj (FA nd ep ej e.symm)) b,c,d⟩
def CT(c:ρ a=some (n,t,x)):∀{b:Addr}{u:Nat}{y:Str}{w:HO},ρ b=some (n,u,y)->u≠t\/y≠x->H b=some w->upd H a o b=some w:=λ{b u y w} hc hu h=>by rw[ay (Ae hc c (λe=>by cases e;rcases hu with z|z <;> exact z rfl))];exact h
def aR.Wl{A:HA}(h:aR T n ρ A H st)(g:Gh ρ H)(l:Cl Str):aR T n ρ A (upd H A.pl (.dK (dX 0 l))) { st with own:=l }:=by have k:=gO (o:=.dK (dX 0 l)) g h.iI;obtain⟨vs,h1,h2⟩:=h.sU;obtain⟨AT,k1,k2,k3⟩:=h.okn;exact⟨kz k h.ca h.oa,h.ca,ai,h.iI,kz k h.fL h.cY,h.fL,⟨vs,kz k h.jg h1,h2.keep k (by decide)⟩,h.jg,kz k h.iV h.qw,h.iV,kz k h.iW h.ku,h.iW,kz k h.jx h.iJ,h.jx,kz k h.cpu h.nJ,h.cpu,kz k h.iX h.oU,h.iX,⟨AT,kz k h.iY k1,λp hp=>let⟨t,r,e,q⟩:=k2 p hp;⟨t,r,e,k.1 _ _ q⟩,k3⟩,h.iY,h.ql,λi p q e1 e2=>let⟨a,b,c,d⟩:=h.opt i p q e1 e2;⟨kz k c a,kz k d b,c,d⟩⟩
def aR.NN{A:HA}(h:aR T n ρ A H st)(g:Gh ρ H)(ps:Cl Pt)(qs:Cl (Addr×Addr×Addr))(el:qs.length=ps.length)(hp:∀(i:Nat) (p:Pt) (q:Addr×Addr×Addr),ps[i]?=some p->qs[i]?=some q->H q.1=some (.ins T.part q.2.1 (jS p q.2.2))/\H q.2.2=some (.lst (p.row.map V.int))/\ρ q.1=some (n,20,p.nm)/\ρ q.2.2=some (n,21,p.nm)):aR T n ρ { A with qs:=qs } (upd H A.ab (.dK (cu ps qs))) { st with ah:=ps }:=by have k:=gO (o:=.dK (cu ps qs)) g h.fL;obtain⟨vs,h1,h2⟩:=h.sU;obtain⟨AT,k1,k2,k3⟩:=h.okn;exact⟨kz k h.ca h.oa,h.ca,kz k h.iI h.ie,h.iI,ai,h.fL,⟨vs,kz k h.jg h1,h2.keep k (by decide)⟩,h.jg,kz k h.iV h.qw,h.iV,kz k h.iW h.ku,h.iW,kz k h.jx h.iJ,h.jx,kz k h.cpu h.nJ,h.cpu,kz k h.iX h.oU,h.iX,⟨AT,kz k h.iY k1,λp hp=>let⟨t,r,e,q⟩:=k2 p hp;⟨t,r,e,k.1 _ _ q⟩,k3⟩,h.iY,el,λi p q e1 e2=>let⟨a,b,c,d⟩:=hp i p q e1 e2;⟨kz k c a,kz k d b,c,d⟩⟩
def aR.Wm{A:HA}(h:aR T n ρ A H st)(g:Gh ρ H)(l:Cl Str):aR T n ρ A (upd H A.nm (.dK (rH l))) { st with nms:=l }:=by have k:=gO (o:=.dK (rH l)) g h.iV;obtain⟨vs,h1,h2⟩:=h.sU;obtain⟨AT,k1,k2,k3⟩:=h.okn;exact⟨kz k h.ca h.oa,h.ca,kz k h.iI h.ie,h.iI,kz k h.fL h.cY,h.fL,⟨vs,kz k h.jg h1,h2.keep k (by decide)⟩,h.jg,ai,h.iV,kz k h.iW h.ku,h.iW,kz k h.jx h.iJ,h.jx,kz k h.cpu h.nJ,h.cpu,kz k h.iX h.oU,h.iX,⟨AT,kz k h.iY k1,λp hp=>let⟨t,r,e,q⟩:=k2 p hp;⟨t,r,e,k.1 _ _ q⟩,k3⟩,h.iY,h.ql,λi p q e1 e2=>let⟨a,b,c,d⟩:=h.opt i p q e1 e2;⟨kz k c a,kz k d b,c,d⟩⟩
def aR.Wn{A:HA}(h:aR T n ρ A H st)(g:Gh ρ H)(l:Cl Int):aR T n ρ A (upd H A.cm (.lst (l.map V.int))) { st with aW:=l }:=by have k:=gO (o:=.lst (l.map V.int)) g h.jx;obtain⟨vs,h1,h2⟩:=h.sU;obtain⟨AT,k1,k2,k3⟩:=h.okn;exact⟨kz k h.ca h.oa,h.ca,kz k h.iI h.ie,h.iI,kz k h.fL h.cY,h.fL,⟨vs,kz k h.jg h1,h2.keep k (by decide)⟩,h.jg,kz k h.iV h.qw,h.iV,kz k h.iW h.ku,h.iW,ai,h.jx,kz k h.cpu h.nJ,h.cpu,kz k h.iX h.oU,h.iX,⟨AT,kz k h.iY k1,λp hp=>let⟨t,r,e,q⟩:=k2 p hp;⟨t,r,e,k.1 _ _ q⟩,k3⟩,h.iY,h.ql,λi p q e1 e2=>let⟨a,b,c,d⟩:=h.opt i p q e1 e2;⟨kz k c a,kz k d b,c,d⟩⟩
def aR.Wo{A:HA}(h:aR T n ρ A H st)(g:Gh ρ H)(l:Cl Int):aR T n ρ A (upd H A.pu (.lst (l.map V.int))) { st with bN:=l }:=by have k:=gO (o:=.lst (l.map V.int)) g h.cpu;obtain⟨vs,h1,h2⟩:=h.sU;obtain⟨AT,k1,k2,k3⟩:=h.okn;exact⟨kz k h.ca h.oa,h.ca,kz k h.iI h.ie,h.iI,kz k h.fL h.cY,h.fL,⟨vs,kz k h.jg h1,h2.keep k (by decide)⟩,h.jg,kz k h.iV h.qw,h.iV,kz k h.iW h.ku,h.iW,kz k h.jx h.iJ,h.jx,ai,h.cpu,kz k h.iX h.oU,h.iX,⟨AT,kz k h.iY k1,λp hp=>let⟨t,r,e,q⟩:=k2 p hp;⟨t,r,e,k.1 _ _ q⟩,k3⟩,h.iY,h.ql,λi p q e1 e2=>let⟨a,b,c,d⟩:=h.opt i p q e1 e2;⟨kz k c a,kz k d b,c,d⟩⟩
def aR.Wq{A:HA}(h:aR T n ρ A H st)(g:Gh ρ H)(l:Cl Int):aR T n ρ A (upd H A.sp (.lst (l.map V.int))) { st with stp:=l }:=by have k:=gO (o:=.lst (l.map V.int)) g h.iX;obtain⟨vs,h1,h2⟩:=h.sU;obtain⟨AT,k1,k2,k3⟩:=h.okn;exact⟨kz k h.ca h.oa,h.ca,kz k h.iI h.ie,h.iI,kz k h.fL h.cY,h.fL,⟨vs,kz k h.jg h1,h2.keep k (by decide)⟩,h.jg,kz k h.iV h.qw,h.iV,kz k h.iW h.ku,h.iW,kz k h.jx h.iJ,h.jx,kz k h.cpu h.nJ,h.cpu,ai,h.iX,⟨AT,kz k h.iY k1,λp hp=>let⟨t,r,e,q⟩:=k2 p hp;⟨t,r,e,k.1 _ _ q⟩,k3⟩,h.iY,h.ql,λi p q e1 e2=>let⟨a,b,c,d⟩:=h.opt i p q e1 e2;⟨kz k c a,kz k d b,c,d⟩⟩
def aR.Wr{A:HA}(h:aR T n ρ A H st)(g:Gh ρ H)(q:Addr)(l:Cl Int)(e:H q=some (.lst (l.map V.int)))(c:ρ q=col n 6):aR T n ρ { A with cm:=q } (upd H A.a (.ins T.hold A.dx (kD { A with cm:=q }))) { st with aW:=l }:=by have k:=gO (o:=.ins T.hold A.dx (kD { A with cm:=q })) g h.ca;obtain⟨vs,h1,h2⟩:=h.sU;obtain⟨AT,k1,k2,k3⟩:=h.okn;exact⟨ai,h.ca,kz k h.iI h.ie,h.iI,kz k h.fL h.cY,h.fL,⟨vs,kz k h.jg h1,h2.keep k (by decide)⟩,h.jg,kz k h.iV h.qw,h.iV,kz k h.iW h.ku,h.iW,kz k c e,c,kz k h.cpu h.nJ,h.cpu,kz k h.iX h.oU,h.iX,⟨AT,kz k h.iY k1,λp hp=>let⟨t,r,e,q⟩:=k2 p hp;⟨t,r,e,k.1 _ _ q⟩,k3⟩,h.iY,h.ql,λi p q e1 e2=>let⟨a,b,c,d⟩:=h.opt i p q e1 e2;⟨kz k c a,kz k d b,c,d⟩⟩
def aR.Ws{A:HA}(h:aR T n ρ A H st)(g:Gh ρ H)(q:Addr)(l:Cl Int)(e:H q=some (.lst (l.map V.int)))(c:ρ q=col n 7):aR T n ρ { A with pu:=q } (upd H A.a (.ins T.hold A.dx (kD { A with pu:=q }))) { st with bN:=l }:=by have k:=gO (o:=.ins T.hold A.dx (kD { A with pu:=q })) g h.ca;obtain⟨vs,h1,h2⟩:=h.sU;obtain⟨AT,k1,k2,k3⟩:=h.okn;exact⟨ai,h.ca,kz k h.iI h.ie,h.iI,kz k h.fL h.cY,h.fL,⟨vs,kz k h.jg h1,h2.keep k (by decide)⟩,h.jg,kz k h.iV h.qw,h.iV,kz k h.iW h.ku,h.iW,kz k h.jx h.iJ,h.jx,kz k c e,c,kz k h.iX h.oU,h.iX,⟨AT,kz k h.iY k1,λp hp=>let⟨t,r,e,q⟩:=k2 p hp;⟨t,r,e,k.1 _ _ q⟩,k3⟩,h.iY,h.ql,λi p q e1 e2=>let⟨a,b,c,d⟩:=h.opt i p q e1 e2;⟨kz k c a,kz k d b,c,d⟩⟩
def aR.Wt{A:HA}(h:aR T n ρ A H st)(g:Gh ρ H)(m:Int)(q:Addr)(e:H q=some (.dK []))(c:ρ q=col n 9):aR T n ρ { A with kn:=q } (upd H A.bt (.ins T.bot A.db (uu A.sp m q))) { st with prod:=m,kn:=0 }:=by have k:=gO (o:=.ins T.bot A.db (uu A.sp m q)) g h.iW;obtain⟨vs,h1,h2⟩:=h.sU;obtain⟨AT,k1,k2,k3⟩:=h.okn;exact⟨kz k h.ca h.oa,h.ca,kz k h.iI h.ie,h.iI,kz k h.fL h.cY,h.fL,⟨vs,kz k h.jg h1,h2.keep k (by decide)⟩,h.jg,kz k h.iV h.qw,h.iV,ai,h.iW,kz k h.jx h.iJ,h.jx,kz k h.cpu h.nJ,h.cpu,kz k h.iX h.oU,h.iX,⟨[],kz k c e,(λp hp=>absurd hp (by simp)),aO _,wH⟩,c,h.ql,λi p q e1 e2=>let⟨a,b,c,d⟩:=h.opt i p q e1 e2;⟨kz k c a,kz k d b,c,d⟩⟩
def aR.NO{A:HA}(h:aR T n ρ A H st)(g:Gh ρ H){p1:Pt}(ep:st.ah[i]?=some p0)(eq:A.qs[i]?=some q0)(e1:p1.nm=p0.nm)(e2:p1.row=p0.row)(nd:(st.ah.map (·.nm)).Nodup):aR T n ρ A (upd H q0.1 (.ins T.part q0.2.1 (jS p1 q0.2.2))) { st with ah:=st.ah.set i p1 }:=by have k:=gO (o:=.ins T.part q0.2.1 (jS p1 q0.2.2)) g (h.opt i p0 q0 ep eq).2.2.1;obtain⟨vs,h1,h2⟩:=h.sU;obtain⟨AT,k1,k2,k3⟩:=h.okn;exact⟨kz k h.ca h.oa,h.ca,kz k h.iI h.ie,h.iI,by rw[BL ep e1];exact kz k h.fL h.cY,h.fL,⟨vs,kz k h.jg h1,h2.keep k (by decide)⟩,h.jg,kz k h.iV h.qw,h.iV,kz k h.iW h.ku,h.iW,kz k h.jx h.iJ,h.jx,kz k h.cpu h.nJ,h.cpu,kz k h.iX h.oU,h.iX,⟨AT,kz k h.iY k1,λp hp=>let⟨t,r,e,q⟩:=k2 p hp;⟨t,r,e,k.1 _ _ q⟩,k3⟩,h.iY,by rw[jI];exact h.ql,TV h k nd ep eq e1 ai (CT (h.opt i p0 q0 ep eq).2.2.1) (by rw[e2])⟩
def aR.TY{A:HA}(h:aR T n ρ A H st)(g:Gh ρ H)(l:Cl Int)(ep:st.ah[i]?=some p0)(eq:A.qs[i]?=some q0)(nd:(st.ah.map (·.nm)).Nodup):aR T n ρ A (upd H q0.2.2 (.lst (l.map V.int))) { st with ah:=st.ah.set i { p0 with row:=l } }:=by have k:=gO (o:=.lst (l.map V.int)) g (h.opt i p0 q0 ep eq).2.2.2;obtain⟨vs,h1,h2⟩:=h.sU;obtain⟨AT,k1,k2,k3⟩:=h.okn;exact⟨kz k h.ca h.oa,h.ca,kz k h.iI h.ie,h.iI,by show _=some (HO.dK (cu (st.ah.set i { p0 with row:=l }) A.qs));rw[BL (p1:={ p0 with row:=l }) ep rfl];exact kz k h.fL h.cY,h.fL,⟨vs,kz k h.jg h1,h2.keep k (by decide)⟩,h.jg,kz k h.iV h.qw,h.iV,kz k h.iW h.ku,h.iW,kz k h.jx h.iJ,h.jx,kz k h.cpu h.nJ,h.cpu,kz k h.iX h.oU,h.iX,⟨AT,kz k h.iY k1,λp hp=>let⟨t,r,e,q⟩:=k2 p hp;⟨t,r,e,k.1 _ _ q⟩,k3⟩,h.iY,by rw[jI];exact h.ql,QC h nd ep eq ai (CT (h.opt i p0 q0 ep eq).2.2.2)⟩
structure Txt(K:Fg)(T:TC):Prop where
 cH:mO K T.hold
 cP:mO K T.part
 cB:mO K T.bot
 hpl:dB K T.hold "places"
 hab:dB K T.hold "aboard"
 has:dB K T.hold "ashore"
 hnm:dB K T.hold "names"
 x_:dB K T.hold "bottom"
 vz:dB K T.hold "common"
 FD:dB K T.hold "purses"
 R0:dB K T.part "name"
 pow:dB K T.part "owner"
 FE:dB K T.part "worth"
 Z9:dB K T.part "weight"
 JS:dB K T.part "scale"
 NP:dB K T.part "row"
 Wu:dB K T.bot "steps"
 R1:dB K T.bot "product"
 NQ:dB K T.bot "known"
structure Wf(st:HS):Prop where
 jT:st.own.Nodup
 ux:st.nms.Nodup
 iD:(st.ah.map (·.nm)).Nodup
 sub:∀p∈st.ah,p.nm∈st.nms
 rows:∀p∈st.ah,p.row.length=st.own.length
 ow:∀p∈st.ah,p.ow∈st.own
 dQ:st.aW.length=st.own.length
 qx:st.bN.length=st.own.length
 c6:1<=st.prod
 mS:st.prod=st.stp.foldl (·*·) 1
 qy:∀s∈st.stp,2<=s
 mT:st.own.length<=100
 uy:st.nms.length<=1000
 nQ:st.ah.length<=1000
 vA:st.stp.length<=100
 vB:st.dN.length<=1000
 JT:st.kn<=1000000
 big:Jm.Sz 8000 st.prod
 lM:∀c∈st.aW,0<=c/\c<=st.prod
 mU:∀p∈st.ah,1<=p.sc/\p.sc<=st.prod
 kF:∀p∈st.ah,∀r∈p.row,-st.prod<=r/\r<=st.prod
 mV:∀p∈st.ah,∀t∈List.zipWith (λr c=>p.sc*r+c) p.row st.aW,0<=t/\t<=st.prod
 kP:∀p∈st.ah,1<=p.wo/\0<=p.we
 BN:∀u∈st.bN,Jm.Sz 9000 u
structure HH(T:TC)(n:Nat)(ρ:gu)(A:HA)(H:Hp)(st:HS):Prop where
 g:Gh ρ H
 h:aR T n ρ A H st
 wf:Wf st
def wZ(T:TC)(n:Nat)(ρ:gu)(A:HA)(H:Hp)(st:HS)(Q:Hp->Prop):Prop:=∀ρ' A' H',HH T n ρ' A' H' st->A'.a=A.a->Fr n ρ H ρ' H'->Q H'
def hs0:HS:=⟨[],[],[],[],[],1,0,[],[]⟩
def Z_:Wf hs0:=by refine⟨wH,wH,wH,?_,?_,?_,Z,Z,?_,Z,?_,?_,?_,?_,?_,?_,?_,?_,?_,?_,?_,?_,?_,?_⟩ <;> first|(intro _ h;exact absurd h (by simp[hs0]))|decide|(show Jm.Sz 8000 1;exact mQ (by decide +kernel))
theorem JU:∀{l:Cl Str}{i:Nat}{o:Str},o∈l->cJ (dX i l) (Sum.inr o)=some (.int ((i+l.idxOf o:Nat):Int))
 | [],_,_,h=>by simp at h
 | x::l,i,o,h=>by
  by_cases e:x=o
  .subst e;rw[show dX i (x::l)=(Sum.inr x,.int i)::dX (i+1) l from rfl,eV rfl];simp
  .rw [show dX i (x::l)=(Sum.inr x,.int i)::dX (i+1) l from rfl,dh (by intro z;exact e (mG z))];have hm:o∈l:=by
    rcases cV.mp h with z|z
    .exact absurd z.symm e
    .exact z
   rw[JU hm];have eb:(x==o)=false:=by simpa using e
   have:(x::l).idxOf o=l.idxOf o+1:=by rw[List.idxOf_cons,eb];rfl
   rw[this];show some (V.int ((i+1+l.idxOf o:Nat):Int))=some (V.int ((i+(l.idxOf o+1):Nat):Int));rw[show i+1+l.idxOf o=i+(l.idxOf o+1)from by omega]
theorem mW:∀{l:Cl Str}{i:Nat}{o:Str},o∉l->cJ (dX i l) (Sum.inr o)=none
 | [],_,_,_=>rfl
 | x::l,i,o,h=>by rw[show dX i (x::l)=(Sum.inr x,.int i)::dX (i+1) l from rfl,dh (λz=>h (by rw[<-mG z];exact cD))];exact mW λm=>h (ck _ m)
theorem p6:∀(l:Cl Str)(i:Nat),(dX i l).length=l.length
 | [],_=>rfl
 | _::l,i=>by rw[show ∀x,dX i (x::l)=(Sum.inr x,.int i)::dX (i+1) l from λ_=>rfl,kC,kC,p6 l]
theorem FF:∀(l:Cl Str)(i:Nat)(o:Str),dX i (l++[o])=dX i l++[(Sum.inr o,.int ((i+l.length:Nat):Int))]
 | [],i,o=>rfl
 | x::l,i,o=>by
  show(Sum.inr x,V.int i)::dX (i+1) (l++[o])=_;rw[FF l (i+1) o];show _=(Sum.inr x,V.int i)::(dX (i+1) l++_)
  rw[kC,show i+1+l.length=i+(l.length+1)from by omega]
theorem FH:∀(l:Cl Str)(i:Nat),(dX i l).map (λp=>kV p.1)=l.map V.str
 | [],_=>rfl
 | x::l,i=>by show kV (Sum.inr x)::(dX (i+1) l).map _=V.str x::l.map V.str;rw[FH l];rfl
variable {qs:Cl (Addr×Addr×Addr)}
def qa{q:Addr×Addr×Addr}(h1:ps[i]?=some p)(h2:qs[i]?=some q):(cu ps qs)[i]?=some (Sum.inr p.nm,.ref q.1):=by unfold cu;rw[tS,h1,h2]
def qb(h:qs.length=ps.length):(cu ps qs).length=ps.length:=by unfold cu;rw[gx,h,ua]
theorem sV:∀{ps:Cl Pt}{qs:Cl (Addr×Addr×Addr)}{i:Nat}{p:Pt}{q:Addr×Addr×Addr},(ps.map (·.nm)).Nodup->ps[i]?=some p->qs[i]?=some q->cJ (cu ps qs) (Sum.inr p.nm)=some (.ref q.1)
 | [],_,_,_,_,_,h,_=>by simp at h
 | _::_,[],_,_,_,_,_,h=>by simp at h
 | a::ps,b::qs,0,p,q,_,h1,h2=>by
  have e1:a=p:=by simpa using h1
  have e2:b=q:=by simpa using h2
  subst e1 e2;exact eV rfl
 | a::ps,b::qs,i+1,p,q,nd,h1,h2=>by
  have nd':=fj.mp (show(a.nm::ps.map (·.nm)).Nodup from nd);have R3:ps[i]?=some p:=by simpa using h1
  rw[show cu (a::ps) (b::qs)=(Sum.inr a.nm,.ref b.1)::cu ps qs from rfl,dh (λz=>nd'.1 (bu.mpr ⟨p,cg R3,(mG z).symm⟩))];exact sV nd'.2 R3 (by simpa using h2)
theorem qz:∀{ps:Cl Pt}{qs:Cl (Addr×Addr×Addr)}{x:Str},(∀p∈ps,p.nm≠x)->cJ (cu ps qs) (Sum.inr x)=none
 | [],_,_,_=>rfl
 | _::_,[],_,_=>rfl
 | a::ps,b::qs,x,h=>by rw[show cu (a::ps) (b::qs)=(Sum.inr a.nm,.ref b.1)::cu ps qs from rfl,dh (λz=>h a cD (mG z))];exact qz λp hp=>h p (ck _ hp)
def QD(h:qs.length=ps.length)(p:Pt)(q:Addr×Addr×Addr):cu (ps++[p]) (qs++[q])=cu ps qs++[(Sum.inr p.nm,.ref q.1)] :=by unfold cu;rw[List.zipWith_append h.symm];rfl
def vC{l:Cl Str}(h:x∉l):cJ (rH l) (Sum.inr x)=none:=by
 unfold rH
 induction l with
 | nil=>rfl
 | cons a l ih=>rw[br,dh (λz=>h (by rw[<-mG z];exact cD))];exact ih λm=>h (ck _ m)
def FI{l:Cl Str}(h:x∈l):cJ (rH l) (Sum.inr x)=some (.bl true):=by
 unfold rH
 induction l with
 | nil=>simp at h
 | cons a l ih=>
  rw[br];by_cases e:a=x
  .exact eV (by rw[e])
  .rw [dh (λz=>e (mG z))];exact ih ((cV.mp h).resolve_left λz=>e z.symm)
def aR.find{A:HA}(h:aR T n ρ A H st)(e:st.ah[i]?=some p):∃q,A.qs[i]?=some q/\H q.1=some (.ins T.part q.2.1 (jS p q.2.2))/\H q.2.2=some (.lst (p.row.map V.int))/\ρ q.1=some (n,20,p.nm)/\ρ q.2.2=some (n,21,p.nm):=by
 have hi:i<A.qs.length:=by rw[h.ql];exact(dW.mp e).1
 exact⟨A.qs[i],a_ hi,h.opt i p _ e (a_ hi)⟩
def dm(st:HS)(o:Str):HS:={ st with own:=st.own++[o],aW:=st.aW++[0],bN:=st.bN++[0],ah:=st.ah.map λp=>{ p with row:=p.row++[0] } }
def aL(st:HS)(p:Pt):Cl Int:=List.zipWith (λr c=>p.sc*r+c) p.row st.aW
def mX(st:HS)(tops:Cl Int):Cl Int:=List.zipWith (λt c=>t-c) tops st.aW
def Af(st:HS)(p:Pt):HS:={ st with ah:=st.ah++[p],nms:=st.nms++[p.nm] }
def Ag(st:HS)(x o:Str)(wo we:Int):HS:=Af st ⟨x,o,wo,we,1,mX st ((List.replicate st.own.length 0).set (st.own.idxOf o) st.prod)⟩
def aq(st:HS):Int:=(st.ah.map (·.wo)).sum
def sW(st:HS)(p:Pt):Cl (Str×Rat):=(List.zip st.own (aL st p)).filterMap λx=>if 0<x.2 then some (x.1,Jm.fr x.2 st.prod) else none
def uz(p:Pt):HO:=.tup [.str p.nm,.str p.ow,.int p.wo,.int p.we]
inductive eF(H:Hp):Cl V->Cl Pt->Prop
 | nil:eF H [] []
 | cons {r:Addr} {p:Pt} {vs:Cl V} {ps:Cl Pt}:H r=some (uz p)->eF H vs ps->eF H (.ref r::vs) (p::ps)
def FJ(n:Nat)(q1 q2:Addr)(ρ:gu)(H:Hp)(ρ':gu)(H':Hp):Prop:=∀b o,H b=some o->(∀t x,ρ b≠some (n,t,x))->b≠q1->b≠q2->H' b=some o/\ρ' b=ρ b
theorem FJ.trans{ρ1 ρ2:gu}(a:FJ n q1 q2 ρ H ρ1 H1)(b:Fr n ρ1 H1 ρ2 H2):FJ n q1 q2 ρ H ρ2 H2:=λc o h k x y=>by obtain⟨h1,e1⟩:=a c o h k x y;obtain⟨h2,e2⟩:=b c o h1 (by rw[e1];exact k);exact⟨h2,e2.trans e1⟩
def FJ.fr{ρ1 ρ2:gu}(b:FJ n q1 q2 ρ1 H1 ρ2 H2)(a:Fr n ρ H ρ1 H1)(h1:H q1=none)(h2:H q2=none):Fr n ρ H ρ2 H2:=λc o h k=>by obtain⟨e1,e2⟩:=a c o h k;obtain⟨e3,e4⟩:=b c o e1 (by rw[e2];exact k) (aG h h1) (aG h h2);exact⟨e3,e4.trans e2⟩
def isNm(o:Str):Bool:=isName o.cps.toList
inductive Wv(T:TC)(vs:Cl V)(H:Hp)(Q:VK)(E:XK):Prop
 |mk(p dx:_)(_:vs=[.ref p])(_:H p=some (.ins T.bot dx []))(_:∀sp kn H',H sp=none->H kn=none->sp≠kn->(∀b o,H b=some o->b≠p->H' b=some o)->H' p=some (.ins T.bot dx (uu sp 1 kn))->H' sp=some (.lst [])->H' kn=some (.dK [])->Q .b8 H')
def JV(T:TC):Sp:=bx (Wv T)
inductive Ww(T:TC)(K:Fg)(vs:Cl V)(H:Hp)(Q:VK)(E:XK):Prop
 |mk(p dx l:Addr)(pt:Pt)(_:vs=[.ref p,.str pt.nm,.str pt.ow,.int pt.wo,.int pt.we,.int pt.sc,.ref l])(_:H p=some (.ins T.part dx []))(_:aI K H l (pt.row.map V.int))(_:∀r H',H r=none->(∀b o,H b=some o->b≠p->H' b=some o)->H' p=some (.ins T.part dx (jS pt r))->H' r=some (.lst (pt.row.map V.int))->Q .b8 H')
def JW(T:TC)(K:Fg):Sp:=bx (Ww T K)
inductive Wx(T:TC)(vs:Cl V)(H:Hp)(Q:VK)(E:XK):Prop
 |mk(p dx ρ n:_)(_:vs=[.ref p])(_:H p=some (.ins T.hold dx []))(_:Gh ρ H)(_:ρ p=none)(_:∀ρ' A H',A.a=p->HH T n ρ' A H' hs0->(∀b o,H b=some o->b≠p->H' b=some o/\ρ' b=ρ b)->Q .b8 H')
def JX(T:TC):Sp:=bx (Wx T)
inductive Wy(T:TC)(vs:Cl V)(H:Hp)(Q:VK)(E:XK):Prop
 |mk(n ρ A st o:_)(_:vs=[.ref A.a,.str o])(_:aR T n ρ A H st)(_:o∈st.own)(_:Q (.int (st.own.idxOf o:Int)) H)
def BO(T:TC):Sp:=bx (Wy T)
inductive TZ(T:TC)(vs:Cl V)(H:Hp)(Q:VK)(E:XK):Prop
 |mk(n ρ A st:_)(i:Nat)(p:Pt)(q:Addr×Addr×Addr)(_:vs=[.ref A.a,.str p.nm])(_:aR T n ρ A H st)(_:(st.ah.map (·.nm)).Nodup)(_:st.ah[i]?=some p)(_:A.qs[i]?=some q)(_:Q (.ref q.1) H)
def yE(T:TC):Sp:=bx (TZ T)
inductive NR(T:TC)(vs:Cl V)(H:Hp)(Q:VK)(E:XK):Prop
 |mk(n ρ A st x:_)(_:vs=[.ref A.a,.str x])(_:aR T n ρ A H st)(_:isNm x=true)(_:x∉st.nms)(_:∀H',aE H H'->Q .b8 H')
def Ah(T:TC):Sp:=bx (NR T)
inductive abI(T:TC)(K:Fg)(vs:Cl V)(H:Hp)(Q:VK)(E:XK):Prop
 |mk(n ρ A st l:_)(tops:Cl Int)(_:vs=[.ref A.a,.ref l])(_:aR T n ρ A H st)(_:aI K H l (tops.map V.int))(_:tops.length=st.aW.length)(_:tops.length<=1000)(_:∀r H',aE H H'->H r=none->H' r=some (.lst ((mX st tops).map V.int))->Q (.ref r) H')
def R4(T:TC)(K:Fg):Sp:=bx (abI T K)
inductive Wz(T:TC)(vs:Cl V)(H:Hp)(Q:VK)(E:XK):Prop
 |mk(n ρ A st:_)(i:Nat)(p:Pt)(q:Addr×Addr×Addr)(_:vs=[.ref A.a,.ref q.1])(_:aR T n ρ A H st)(_:Wf st)(_:st.ah[i]?=some p)(_:A.qs[i]?=some q)(_:∀r H',aE H H'->H r=none->H' r=some (.lst ((aL st p).map V.int))->Q (.ref r) H')
def JY(T:TC):Sp:=bx (Wz T)
inductive Y9(T:TC)(vs:Cl V)(H:Hp)(Q:VK)(E:XK):Prop
 |mk(n ρ A st:_)(q:Addr×Addr×Addr)(p:Pt)(_:vs=[.ref A.a,.ref q.1])(_:HH T n ρ A H st)(_:H q.1=some (.ins T.part q.2.1 (jS p q.2.2)))(_:H q.2.2=some (.lst (p.row.map V.int)))(_:ρ q.1=none)(_:ρ q.2.2=none)(_:p.nm∉st.nms)(_:Wf (Af st p))(_:∀ρ' A' H',HH T n ρ' A' H' (Af st p:_)->A'.a=A.a->FJ n q.1 q.2.2 ρ H ρ' H'->Q .b8 H')
def NS(T:TC):Sp:=bx (Y9 T)
inductive WA(T:TC)(vs:Cl V)(H:Hp)(Q:VK)(E:XK):Prop
 |mk(n ρ A st o:_)(_:vs=[.ref A.a,.str o])(_:HH T n ρ A H st)(_:isNm o=true)(_:o∉st.own)(_:st.own.length<100)(_:wZ T n ρ A H (dm st o:_) λH'=>Q .b8 H')
def JZ(T:TC):Sp:=bx (WA T)
inductive Y_(T:TC)(vs:Cl V)(H:Hp)(Q:VK)(E:XK):Prop
 |mk(n ρ A st x o wo we:_)(_:vs=[.ref A.a,.str x,.str o,.int wo,.int we])(_:HH T n ρ A H st)(_:isNm x=true)(_:x∉st.nms)(_:o∈st.own)(_:1<=wo)(_:0<=we)(_:st.nms.length<1000)(_:st.ah.length<1000)(_:wZ T n ρ A H (Ag st x o wo we:_) λH'=>Q .b8 H')
def NT(T:TC):Sp:=bx (Y_ T)
inductive WB(T:TC)(vs:Cl V)(H:Hp)(Q:VK)(E:XK):Prop
 |mk(n ρ A st:_)(_:vs=[.ref A.a])(_:aR T n ρ A H st)(_:st.ah.length<=1000)(_:∀r ws H',aE H H'->H r=none->H' r=some (.lst ws)->eF H' ws st.ah->Q (.ref r) H')
def J0(T:TC):Sp:=bx (WB T)
inductive WC(T:TC)(vs:Cl V)(H:Hp)(Q:VK)(E:XK):Prop
 |mk(n ρ A st:_)(_:vs=[.ref A.a])(_:aR T n ρ A H st)(_:st.ah.length<=1000)(_:∀H',aE H H'->Q (.int (aq st)) H')
def BP(T:TC):Sp:=bx (WC T)
inductive WD(T:TC)(vs:Cl V)(H:Hp)(Q:VK)(E:XK):Prop
 |mk(bt db sp kn:Addr)(stp:Cl Int)(prod top:Int)(_:vs=[.ref bt,.int top])(_:H bt=some (.ins T.bot db (uu sp prod kn)))(_:H sp=some (.lst (stp.map V.int)))(_:prod=stp.foldl (·*·) 1)(_:(∀s∈stp,2<=s))(_:Jm.Sz 8000 prod)(_:∀r H',aE H H'->H' r=some (lI (Jm.fr top prod))->Q (.ref r) H')
def BQ(T:TC):Sp:=bx (WD T)
inductive T3(T:TC)(vs:Cl V)(H:Hp)(Q:VK)(E:XK):Prop
 |mk(bt db sp kn:Addr)(stp:Cl Int)(prod top:Int)(AT:Cl (Key×V))(_:vs=[.ref bt,.int top])(_:H bt=some (.ins T.bot db (uu sp prod kn)))(_:H sp=some (.lst (stp.map V.int)))(_:prod=stp.foldl (·*·) 1)(_:(∀s∈stp,2<=s))(_:Jm.Sz 8000 prod)(_:H kn=some (.dK AT))(_:Fz H AT prod)(_:AT.length<10000000)(_:(AT.map (·.1)).Nodup)(_:∀r H' kvs',(∀b o,H b=some o->b≠kn->H' b=some o)->H' kn=some (.dK kvs')->Fz H' kvs' prod->kvs'.length<=AT.length+1->(kvs'.map (·.1)).Nodup->H' r=some (lI (Jm.fr top prod))->Q (.ref r) H')
def FN(T:TC):Sp:=bx (T3 T)
def eF.mono{l:Cl Pt}(h:eF H vs l)(g:∀b xs,H b=some (.tup xs)->H' b=some (.tup xs)):eF H' vs l:=by
 induction h with
 | nil=>exact .nil
 | cons a _ ih=>exact .cons (g _ _ a) ih
def eF.snoc{l:Cl Pt}{r:Addr}(h:eF H vs l)(e:H r=some (uz p)):eF H (vs++[.ref r]) (l++[p]):=by
 induction h with
 | nil=>exact .cons e .nil
 | cons a _ ih=>exact .cons a ih
def jF.snoc{l:Cl (Str×Rat)}{r:Addr}(h:jF H vs l)(e:H r=some (.tup [.str x,.ref f]))(e2:H f=some (lI q)):jF H (vs++[.ref r]) (l++[(x,q)]):=by
 induction h with
 | nil=>exact .cons e e2 .nil
 | cons a b _ ih=>exact .cons a b ih
def iZ{p:Addr}(h:H p=none\/∃u,H p=some u/\isTup u=false):∀b xs,H b=some (.tup xs)->upd H p o b=some (.tup xs):=λb xs e=>by
 rw[ay (λz=>?_)]
 .exact e
 .rw [z]at e;rcases h with h|⟨u,h,t⟩
  .rw [h]at e;cases e
  .rw [h]at e;cases e;cases t
theorem QE(h:isNm x=true):x.cps.toList.length<=100000:=by unfold isNm isName at h;have:=ff (jM.mp (jM.mp h).1).2;omega
def nR{o:Obj}(e:H d=some (.dK AT))(s:aE (upd H d (.dz o (.dK AT))) H1):aE H (upd H1 d (.dK AT)):=λb u q=>by
 by_cases h:b=d
 .rw [h,e]at q;cases q;rw[h];exact ai
 .rw [ay h];exact s b u (by rw[ay h];exact q)
def cZ{o:Obj}{u:HO}(e:H d=some (.dK AT))(q:H b=some u)(h:∀k,u ≠ .dK k):upd H d (.dz o (.dK AT)) b=some u:=by rw[ay (λz=>by rw[z,e]at q;cases q;exact h _ rfl)];exact q
def lN{o:Obj}(e:H d=some (.dK AT))(q:upd H d (.dz o (.dK AT)) b=none):H b=none:=by
 by_cases h:b=d
 .rw [h,ai]at q;cases q
 .rw [ay h]at q;exact q
def aE.tups(s:aE H H'):∀b xs,H b=some (.tup xs)->H' b=some (.tup xs):=λb xs h=>s b _ h
def take_snoc{α:Type}{l:Cl α}{x:α}(h:l[i]?=some x):l.take (i+1)=l.take i++[x] :=by rw[Lf,h];rfl
theorem rJ{α β γ:Type}(f:α->β->γ){xs:Cl α}{ys:Cl β}{x:α}{y:β}(h1:xs[i]?=some x)(h2:ys[i]?=some y):List.zipWith f (xs.take (i+1)) (ys.take (i+1))=List.zipWith f (xs.take i) (ys.take i)++[f x y] :=by have l1:=(dW.mp h1).1;have l2:=(dW.mp h2).1;rw[take_snoc h1,take_snoc h2,List.zipWith_append (by rw[jN,jN];omega)];rfl
def fE{v:V}(h:(l.map V.int)[i]?=some v):∃z,v =.int z/\l[i]?=some z:=by rw[cz]at h;obtain⟨z,hz,rfl⟩:=lE.mp h;exact⟨z,Z,hz⟩
theorem HH.mono{A:HA}(h:HH T n ρ A H st)(s:aE H H'):HH T n ρ A H' st:=⟨h.g.same s,h.h.mono s,h.wf⟩
def NU{u:HO}(c:ρ a=none)(h:H a=some u)(t:isTup u=false):Kp n ρ ρ H (upd H a o) ts:=⟨iZ (.inr ⟨u,h,t⟩),λb x y w _ hc e=>⟨by rw[ay (λz=>by rw[z,c]at hc;cases hc)];exact e,hc⟩⟩
def HH.Ai{A:HA}{u:HO}(h:HH T n ρ A H st)(c:ρ a=none)(e:H a=some u)(t:isTup u=false)(t2:isTup o=false):HH T n ρ A (upd H a o) st:=⟨h.g.wr t2,h.h.same (NU c e t),h.wf⟩
def Fr.new(f:Fr n ρ H ρ' H')(h:H a=none):Fr n ρ H ρ' (upd H' a o):=λb u e k=>by rw[ay (aG e h)];exact f b u e k
def CU{α β γ:Type}(f:α->β->γ){xs:Cl α}{ys:Cl β}(h:xs.length=ys.length)(x:α)(y:β):List.zipWith f (xs++[x]) (ys++[y])=List.zipWith f xs ys++[f x y] :=by rw[List.zipWith_append h];rfl
theorem w6(w:Wf st){o:Str}(h:o∉st.own)(hl:st.own.length<100):Wf (dm st o):=by
 have P:∀p∈(dm st o).ah,∃p0∈st.ah,p={ p0 with row:=p0.row++[0] }:=λp hp=>by obtain⟨p0,h0,rfl⟩:=bu.mp (show p∈st.ah.map _ from hp);exact⟨p0,h0,Z⟩
 have p1:=w.c6;refine⟨?_,w.ux,?_,λp hp=>?_,λp hp=>?_,λp hp=>?_,?_,?_,w.c6,w.mS,w.qy,?_,w.uy,?_,w.vA,w.vB,w.JT,w.big,λc hc=>?_,λp hp=>?_,λp hp r hr=>?_,λp hp t ht=>?_,λp hp=>?_,λu hu=>?_⟩
 .exact p_ w.jT h
 .show ((st.ah.map λp=>{ p with row:=p.row++[0] }).map (·.nm)).Nodup;rw[gY];exact w.iD
 .obtain ⟨p0,h0,rfl⟩:=P p hp;exact w.sub p0 h0
 .obtain ⟨p0,h0,rfl⟩:=P p hp;show(p0.row++[0]).length=(st.own++[o]).length;rw[cO,cO,w.rows p0 h0];rfl
 .obtain ⟨p0,h0,rfl⟩:=P p hp;exact yo _ (w.ow p0 h0)
 .show (st.aW++[0]).length=(st.own++[o]).length;rw[cO,cO,w.dQ];rfl
 .show (st.bN++[0]).length=(st.own++[o]).length;rw[cO,cO,w.qx];rfl
 .show (st.own++[o]).length<=100;rw[cO];exact hl
 .show (st.ah.map _).length<=1000;rw[aH];exact w.nQ
 .rcases eE.mp (show c∈st.aW++[0]from hc)with z|z
  .exact w.lM c z
  .rw [eU.mp z];exact⟨gR _,by show(0:Int)<=st.prod;omega⟩
 .obtain ⟨p0,h0,rfl⟩:=P p hp;exact w.mU p0 h0
 .obtain ⟨p0,h0,rfl⟩:=P p hp;rcases eE.mp (show r∈p0.row++[0]from hr)with z|z
  .exact w.kF p0 h0 r z
  .rw [eU.mp z];show -st.prod<=0/\0<=st.prod;omega
 .obtain ⟨p0,h0,rfl⟩:=P p hp;have el:p0.row.length=st.aW.length:=by rw[w.rows p0 h0,w.dQ]
  have ht:t∈List.zipWith (λr c=>p0.sc*r+c) (p0.row++[0]) (st.aW++[0]):=ht;rw[CU _ el _ _]at ht;rcases eE.mp ht with z|z
  .exact w.mV p0 h0 t z
  .rw [eU.mp z];show 0<=p0.sc*0+0/\p0.sc*0+0<=st.prod;omega
 .obtain ⟨p0,h0,rfl⟩:=P p hp;exact w.kP p0 h0
 .rcases eE.mp (show u∈st.bN++[0]from hu)with z|z
  .exact w.BN u z
  .rw [eU.mp z];exact mQ (by decide +kernel)
def J1(w:Wf st)(h1:p.nm∉st.nms)(h2:st.nms.length<1000)(h3:st.ah.length<1000)(h4:p.row.length=st.own.length)(h5:p.ow∈st.own)(h6:1<=p.sc/\p.sc<=st.prod)(h7:∀r∈p.row,-st.prod<=r/\r<=st.prod)(h8:∀t∈List.zipWith (λr c=>p.sc*r+c) p.row st.aW,0<=t/\t<=st.prod)(h9:1<=p.wo/\0<=p.we):Wf (Af st p):=by
 have P:∀{M:Pt->Prop},(∀x∈st.ah,M x)->M p->∀x∈st.ah++[p],M x:=λa b x hx=>by
  rcases eE.mp hx with z|z
  .exact a x z
  .rw [eU.mp z];exact b
 refine⟨w.jT,p_ w.ux h1,?_,P (λx hx=>yo _ (w.sub x hx)) (gi _ (eU.mpr rfl)),P w.rows h4,P w.ow h5,w.dQ,w.qx,w.c6,w.mS,w.qy,w.mT,?_,?_,w.vA,w.vB,w.JT,w.big,w.lM,P w.mU h6,P w.kF h7,P w.mV h8,P w.kP h9,w.BN⟩
 . show((st.ah++[p]).map (·.nm)).Nodup
   rw[b7]
   refine p_ w.iD λm=>?_
   obtain⟨x,hx,e⟩:=bu.mp m
   have e:x.nm=p.nm:=e
   exact h1 (by rw[<-e];exact w.sub x hx)
 . show(st.nms++[p.nm]).length<=1000
   rw[cO];exact h2
 . show(st.ah++[p]).length<=1000
   rw[cO];exact h3
theorem qA{α β γ:Type}{f:α->β->γ}{t:γ}:∀{xs:Cl α}{ys:Cl β},t∈List.zipWith f xs ys->∃x∈xs,∃y∈ys,t=f x y
 | [],_,h=>by simp at h
 | _::_,[],h=>by simp at h
 | x::xs,y::ys,h=>by
  rcases cV.mp (show t∈f x y::List.zipWith f xs ys from h)with e|m
  .exact ⟨x,cD,y,cD,e⟩
  .obtain ⟨a,ha,b,hb,e⟩:=qA m;exact⟨a,ck _ ha,b,ck _ hb,e⟩
theorem FO:∀{ts cs:Cl Int},List.zipWith (λr c=>1*r+c) (List.zipWith (λt c=>t-c) ts cs) cs=ts.take cs.length
 | [],_=>by simp
 | _::_,[]=>by simp
 | t::ts,c::cs=>by show(1*(t-c)+c)::List.zipWith _ (List.zipWith _ ts cs) cs=t::ts.take cs.length;rw[FO];congr 1;omega
def Aj{b t:Int}(h:t∈(List.replicate n 0).set i b):t=0\/t=b:=by
 rcases KP h with z|z
 .exact .inl (List.eq_of_mem_replicate z)
 .exact .inr z
variable {wo we:Int}
theorem J3(w:Wf st){o:Str}(h1:x∉st.nms)(h2:st.nms.length<1000)(h3:st.ah.length<1000)(ho:o∈st.own)(h4:1<=wo)(h5:0<=we):Wf (Ag st x o wo we):=by
 have p1:=w.c6;refine J1 w h1 h2 h3 ?_ ho ⟨gR 1,w.c6⟩ (λr hr=>?_) (λt ht=>?_) ⟨h4,h5⟩
 .show (List.zipWith _ ((List.replicate st.own.length 0).set _ _) st.aW).length=_;rw[gx,jI,jh,w.dQ,ua]
 .obtain ⟨t,ht,c,hc,rfl⟩:=qA (show r∈List.zipWith _ _ st.aW from hr);have:=w.lM c hc;rcases Aj ht with rfl|rfl <;> omega
 .have e:List.zipWith (λr c=>1*r+c) (mX st ((List.replicate st.own.length 0).set (st.own.idxOf o) st.prod)) st.aW=_:=FO;have ht:t∈List.zipWith (λr c=>1*r+c) (mX st ((List.replicate st.own.length 0).set (st.own.idxOf o) st.prod)) st.aW:=ht;rw[e]at ht;rcases Aj (List.mem_of_mem_take ht)with rfl|rfl <;> omega
def jj{u:HO}(h:a≠b):upd (upd H a o) b u=upd (upd H b u) a o:=by
 funext c;unfold upd;by_cases e1:c=b
 .rw [aB e1,aA (λz=>h (z.symm.trans e1)),aB e1]
 .rw [aA e1];by_cases e2:c=a
  .rw [aB e2,aB e2]
  .rw [aA e2,aA e2,aA e1]
def uA(h:H a=some o):upd H a o=H:=by
 funext c;unfold upd;by_cases e:c=a
 .rw [aB e,e,h]
 .rw [aA e]
theorem FP{α:Type}(g:α->α){l:Cl α}{p:α}(h:l[i]?=some p):((l.take i).map g++l.drop i)[i]?=some p:=by
 have hi:=(dW.mp h).1;have e:((l.take i).map g).length=i:=by rw[aH,jN];omega
 rw[MF (by omega),e,Nat.sub_self,List.getElem?_drop];exact h
theorem FQ{α:Type}(g:α->α){l:Cl α}{p:α}(h:l[i]?=some p):((l.take i).map g++l.drop i).set i (g p)=(l.take (i+1)).map g++l.drop (i+1):=by
 have hi:=(dW.mp h).1;have e:((l.take i).map g).length=i:=by rw[aH,jN];omega
 have ep:l[i]=p:=by rw[a_ hi]at h;exact fh h
 rw[List.set_append_right _ _ (by omega),e,Nat.sub_self,List.drop_eq_getElem_cons hi,List.set_cons_zero,take_snoc h,b7,ER];rfl
def nS{α β:Type}(g:α->α)(f:α->β)(hf:∀x,f (g x)=f x)(l:Cl α)(i:Nat):((l.take i).map g++l.drop i).map f=l.map f:=by rw[b7,gY,show f ∘ g=f from funext hf,<-b7,List.take_append_drop]
variable {ps':Cl Pt}
def l7(h:ps.map (·.nm)=ps'.map (·.nm)):cu ps qs=cu ps' qs:=by
 have:∀{ps:Cl Pt},cu ps qs=List.zipWith (λ(x:Str) q=>((Sum.inr x:Key),V.ref q.1)) (ps.map (·.nm)) qs:=λ{ps}=>by unfold cu;rw[List.zipWith_map_left]
 rw[this,this,h]
structure fm(p:Addr)(H:Hp)(ρ:gu)(H':Hp)(ρ':gu)(l:Cl (Addr×HO×lZ)):Prop where
 m:∀e∈l,H' e.1=some e.2.1/\ρ' e.1=some e.2.2/\e.1≠p
 k:∀b o,H b=some o->b≠p->H' b=some o/\ρ' b=ρ b
 g:Gh ρ' H'
 pp:∃u,H' p=some u
def fm.new{p:Addr}{l:Cl (Addr×HO×lZ)}{c:lZ}(h:fm p H ρ H' ρ' l)(ha:H' a=none)(t:isTup o=false):fm p H ρ (upd H' a o) (fT ρ' a c) ((a,o,c)::l):=by
 obtain⟨u,hu⟩:=h.pp;refine⟨λe he=>?_,λb w hb hp=>?_,(h.g.alloc ha).color ai t,u,by rw[ay (aG hu ha)];exact hu⟩
 .rcases cV.mp he with rfl|he
  .exact ⟨ai,jf,λz=>by rw[show a=p from z,hu]at ha;cases ha⟩
  .obtain ⟨x,y,z⟩:=h.m e he;have:e.1≠a:=aG x ha;rw[ay this,eZ this];exact⟨x,y,z⟩
 .obtain ⟨x,y⟩:=h.k b w hb hp;have:b≠a:=aG x ha;rw[ay this,eZ this];exact⟨x,y⟩
theorem fm.wr{p:Addr}{l:Cl (Addr×HO×lZ)}{u:HO}(h:fm p H ρ H' ρ' l)(t:isTup u=false):fm p H ρ (upd H' p u) ρ' l:=by
 refine⟨λe he=>?_,λb w hb hp=>?_,h.g.wr t,u,ai⟩
 .obtain ⟨x,y,z⟩:=h.m e he;rw[ay z];exact⟨x,y,z⟩
 .obtain ⟨x,y⟩:=h.k b w hb hp;rw[ay hp];exact⟨x,y⟩
theorem fm.same{p:Addr}{Ak:Hp}{l:Cl (Addr×HO×lZ)}(h:fm p H ρ H' ρ' l)(s:aE H' Ak):fm p H ρ Ak ρ' l:=by obtain⟨u,hu⟩:=h.pp;exact⟨λe he=>let⟨x,y,z⟩:=h.m e he;⟨s _ _ x,y,z⟩,λb w hb hp=>let⟨x,y⟩:=h.k b w hb hp;⟨s _ _ x,y⟩,h.g.same s,u,s _ _ hu⟩
def fm.add{p:Addr}{H0:Hp}{ρ0:gu}{l l0:Cl (Addr×HO×lZ)}{c:lZ}(h:fm p H ρ H' ρ' l)(ha:H' a=some o)(t:isTup o=false)(h0:fm p H ρ H0 ρ0 l0)(hn:H0 a=none)(hl:∀e∈l,e.1≠a):fm p H ρ H' (fT ρ' a c) ((a,o,c)::l):=by
 refine⟨λe he=>?_,λb w hb hp=>?_,h.g.color ha t,h.pp⟩
 .rcases cV.mp he with rfl|he
  .obtain ⟨u,hu⟩:=h0.pp;exact⟨ha,jf,λz=>by rw[show a=p from z,hu]at hn;cases hn⟩
  .obtain ⟨x,y,z⟩:=h.m e he;rw[eZ (hl e he)];exact⟨x,y,z⟩
 .obtain ⟨x,y⟩:=h.k b w hb hp;obtain⟨x0,_⟩:=h0.k b w hb hp;rw[eZ (aG x0 hn)];exact⟨x,y⟩
theorem FT:∀(l:Cl Int)(a:Int),l.foldl (·*·) a=a*l.foldl (·*·) 1
 | [],a=>by simp
 | s::l,a=>by rw[j8,FT l (a*s),j8,FT l (1*s),wL,gy]
def BR(s:Int)(l:Cl Int):(s::l).foldl (·*·) 1=s*l.foldl (·*·) 1:=by rw[j8,FT,wL]
def T4(s:Int)(l:Cl Int):(l++[s]).foldl (·*·) 1=l.foldl (·*·) 1*s:=by rw[By];rfl
theorem FU:∀{l:Cl Int},(∀s∈l,2<=s)->1<=l.foldl (·*·) 1
 | [],_=>by decide
 | s::l,h=>by rw[BR];have h1:=h s cD;have h2:=FU (l:=l) λx hx=>h x (ck _ hx);have:=Int.mul_le_mul (a:=1) (b:=1) (c:=s) (d:=l.foldl (·*·) 1) (by omega) h2 (by decide) (by omega);omega
theorem R5:∀{l:Cl Int}{s:Int},(∀s∈l,2<=s)->s∈l->s<=l.foldl (·*·) 1
 | [],_,_,h=>by simp at h
 | a::l,s,h,m=>by
  rw[BR];have h1:=h a cD;have h2:=FU (l:=l) λx hx=>h x (ck _ hx);rcases cV.mp m with rfl|m
  .have:=EH h2 (by omega:0<=s);omega
  .have h3:=R5 (λx hx=>h x (ck _ hx)) m;have:=Int.mul_le_mul_of_nonneg_right (by omega:1<=a) (by omega:0<=l.foldl (·*·) 1);omega
theorem NV{t d s:Int}(hd:0<d)(hs:0<s)(c:Jm.cf t d=1):Jm.cf (t / Jm.cf t s) (d*(s / Jm.cf t s))=1/\0<d*(s / Jm.cf t s):=by
 have gp:0<Jm.cf t s:=Jm.zV t s (.inr hs);obtain⟨u,hu⟩:=Jm.ou t s;obtain⟨v,hv⟩:=Jm.mP t s;generalize eg:Jm.cf t s=g at *;have e1:t / g=u:=by rw[hu,Br _ (by omega)]
 have e2:s / g=v:=by rw[hv,Br _ (by omega)]
 have vp:0<v:=by
  rcases Int.lt_or_le 0 v with z|z
  .exact z
  .have:=EH z (by omega:0<=g);omega
 rw[e1,e2];have c0:Nat.Coprime t.natAbs d.natAbs:=by unfold Jm.cf at c;exact_mod_cast c
 have c1:Nat.Coprime u.natAbs d.natAbs:=Nat.Coprime.coprime_dvd_left ⟨g.natAbs,by rw[hu,zx,Nat.mul_comm]⟩ c0;have c2:Nat.Coprime u.natAbs v.natAbs:=by
  have hg:Int.gcd t s=g.natAbs:=by unfold Jm.cf at eg;omega
  have hg2:Nat.gcd t.natAbs s.natAbs=g.natAbs:=hg;have:=Nat.coprime_div_gcd_div_gcd (m:=t.natAbs) (n:=s.natAbs) (by rw[hg2];omega);rw[hg2]at this;have gn:0<g.natAbs:=by omega
  rw[hu,hv,zx,zx,Nat.mul_div_cancel_left _ gn,Nat.mul_div_cancel_left _ gn]at this;exact this
 refine⟨?_,uc hd vp⟩;have:=Nat.Coprime.mul_right c1 c2;rw[<-zx]at this;unfold Jm.cf;exact_mod_cast this
def QF{κ:Type}[DecidableEq κ]{AT:Cl (κ×V)}{k:κ}{v:V}(h:cJ AT k=some v):(k,v)∈AT:=by unfold cJ at h;obtain⟨p,hp,rfl⟩:=lE.mp h;have:=List.find?_some hp;have e:p.1=k:=ff this;rw[<-e];exact List.mem_of_find?_eq_some hp
def aR.QG{A:HA}(h:aR T n ρ A H st)(k:∀b o,H b=some o->b≠A.kn->H' b=some o)(e1:H' A.kn=some (.dK AT))(e2:Fz H' AT st.prod)(e3:AT.length<=m)(e4:(AT.map (·.1)).Nodup):aR T n ρ A H' { st with kn:=m }:=by
 obtain⟨kv0,k0,_⟩:=h.okn;have z:=λ{b:Addr}{t:Nat}{x:Str}{o:HO}(u:t≠9)(c:ρ b=some (n,t,x))(e:H b=some o)=>k b o e (Ae c h.iY (λw=>by cases w;exact u rfl));have tp:∀b xs,H b=some (.tup xs)->H' b=some (.tup xs):=λb xs e=>k b _ e (gT e k0 (by intro w;cases w));obtain⟨vs,h1,h2⟩:=h.sU;have kp:Kp n ρ ρ H H' λt=>decide (t≠9):=⟨tp,λb t x o u c e=>⟨z (ff u) c e,c⟩⟩
 exact⟨z (by decide) h.ca h.oa,h.ca,z (by decide) h.iI h.ie,h.iI,z (by decide) h.fL h.cY,h.fL,⟨vs,z (by decide) h.jg h1,h2.keep kp (by decide)⟩,h.jg,z (by decide) h.iV h.qw,h.iV,z (by decide) h.iW h.ku,h.iW,z (by decide) h.jx h.iJ,h.jx,z (by decide) h.cpu h.nJ,h.cpu,z (by decide) h.iX h.oU,h.iX,⟨AT,e1,e2,e3,e4⟩,h.iY,h.ql,
  λi p q a b=>let⟨x,y,c,d⟩:=h.opt i p q a b;⟨z (by decide) c x,z (by decide) d y,c,d⟩⟩
def Za(w:Wf st)(h:m<=1000000):Wf { st with kn:=m }:=⟨w.jT,w.ux,w.iD,w.sub,w.rows,w.ow,w.dQ,w.qx,w.c6,w.mS,w.qy,w.mT,w.uy,w.nQ,w.vA,w.vB,h,w.big,w.lM,w.mU,w.kF,w.mV,w.kP,w.BN⟩
def Sq(K:Fg)(H:Hp)(r:Addr)(xs:Cl V):Prop:=aI K H r xs\/bR K H r xs
def aE.sq{r:Addr}(g:aE H H')(h:Sq K H r xs):Sq K H' r xs:=h.elim (λz=> .inl (g.seq z)) λz=> .inr (g.tup z)
structure qB(K:Fg)(H:Hp)(us:Cl V)(ps:Cl Pt):Prop where
 len:us.length=ps.length
 at_:∀(i:Nat)(p:Pt),ps[i]?=some p->∃r xs,us[i]?=some (.ref r)/\Sq K H r xs/\xs[0]?=some (.str p.nm)/\xs[1]?=some (.str p.ow)/\xs[2]?=some (.int p.wo)/\xs[3]?=some (.int p.we)
def qB.mono{us:Cl V}(h:qB K H us ps)(g:aE H H'):qB K H' us ps:=⟨h.len,λi p e=>let⟨r,xs,a,b,c⟩:=h.at_ i p e;⟨r,xs,a,g.sq b,c⟩⟩
def WE(ps:Cl Pt):Prop:=∀p∈ps,PyData.strOk p.nm=true/\PyData.strOk p.ow=true
inductive NW(K:Fg)(vs:Cl V)(H:Hp)(Q:VK)(E:XK):Prop
 |mk(r l:Addr)(ws us:Cl V)(ps:Cl Pt)(_:vs=[.ref r,.ref l])(_:H r=some (.lst ws))(_:eF H ws ps)(_:aI K H l us)(_:qB K H us ps)(_:WE ps)(_:ps.length<=1000)(_:∀H',aE H H'->Q (.bl true) H')
def Al(K:Fg):Sp:=bx (NW K)
def cT(own:Cl Str)(tops:Cl Int)(b:Int):Cl (Str×Rat):=(List.zip own tops).filterMap λx=>if 0<x.2 then some (x.1,Jm.fr x.2 b) else none
theorem eF.length{l:Cl Pt}(h:eF H vs l):vs.length=l.length:=by
 induction h with
 | nil=>rfl
 | cons _ _ ih=>simp[ih]
def eF.get{l:Cl Pt}(h:eF H vs l):∀{i:Nat}{p:Pt},l[i]?=some p->∃r,vs[i]?=some (.ref r)/\H r=some (uz p):=by
 induction h with
 | nil=>intro i p e;simp at e
 | @cons r q vs ps a _ ih=>
  intro i p e;cases i with
  | zero=>simp at e;subst e;exact⟨r,Z,a⟩
  | succ i=>simp at e;obtain⟨r',e1,e2⟩:=ih e;exact⟨r',by simpa using e1,e2⟩
theorem jF.length{l:Cl (Str×Rat)}(h:jF H vs l):vs.length=l.length:=by
 induction h with
 | nil=>rfl
 | cons _ _ _ ih=>simp[ih]
def jF.get{l:Cl (Str×Rat)}(h:jF H vs l):∀{i:Nat}{x:Str}{q:Rat},l[i]?=some (x,q)->∃r f,vs[i]?=some (.ref r)/\H r=some (.tup [.str x,.ref f])/\H f=some (lI q):=by
 induction h with
 | nil=>intro i x q e;simp at e
 | @cons r f x q vs l a b _ ih=>
  intro i y p e;cases i with
  | zero=>simp at e;obtain⟨rfl,rfl⟩:=e;exact⟨r,f,Z,a,b⟩
  | succ i=>simp at e;obtain⟨r',f',e1,e2⟩:=ih e;exact⟨r',f',by simpa using e1,e2⟩
def w_(p:Pt):PyData:=.tuple [.str p.nm,.str p.ow,.int p.wo,.int p.we]
def J4{r:Addr}(h:H r=some (uz p)):Dt K H (.ref r) (w_ p):=.tup (bR.of h) (.cons (.str _) (.cons (.str _) (.cons (.int _) (.cons (.int _) .nil))))
def ya(h1:PyData.strOk p.nm=true)(h2:PyData.strOk p.ow=true):SeqAt.shaped (w_ p)=true:=by unfold w_ SeqAt.shaped;refine jM.mpr ⟨?_,Z⟩;simp[PyData.canLay0,PyData.canLayAll0,h1,h2]
def QH(p:Pt):PyData.eqv (w_ p) (w_ p)=true:=by unfold w_;simp[PyData.eqv,PyData.eqvAll]
def BS(x:Str):Prop:=fR x.cps.toList
def LP:∀i:Fin 26,vn "abcdefghijklmnopqrstuvwxyz" (97+i.val)=true:=by decide +kernel
theorem BS.isNm(h:BS x):L2.isNm x=true:=by unfold L2.isNm isName;have h1:=h.lo;have h2:=h.hi;refine jM.mpr ⟨jM.mpr ⟨cI (by omega),cI (by omega)⟩,mD.mpr λc hc=>?_⟩;have h3:=h.BI c hc;have:=LP ⟨c-97,by omega⟩;rw[show 97+(c-97)=c from by omega]at this;exact this
theorem rK:∀(l:Cl Str)(st:HS),(l.foldl dm st).own=st.own++l
 | [],st=>by simp
 | o::l,st=>by rw[j8,rK l];show(st.own++[o])++l=_;rw[ER];rfl
def xg(K:Fg)(hK:X.K=K:=by rfl):uU X (VE K):=hK▸VF
def Sq.ix{r:Addr}{v:V}(h:Sq K H r xs)(e:xs[i]?=some v)(q:Q v H):VE K (.ref r) (.int (i:Int)) H Q:=by
 rcases h with h|h
 .exact .inl ⟨r,xs,i,v,Z,Z,h,bh e,q⟩
 .exact .inr (.inl ⟨r,xs,i,v,Z,Z,h,bh e,q⟩)
variable {own:Cl Str}{tops:Cl Int}
theorem DI{b:Int}(hb:0<b)(hz:Jm.Sz m b)(h:(x,q)∈cT own tops b):Jm.Sz m (q.den:Int):=by
 unfold cT at h;obtain⟨y,_,e⟩:=List.mem_filterMap.mp h;by_cases c:0<y.2
 .rw [aB c]at e;cases e;refine hz.of_le ?_;have:=Jm.Nl y.2 b hb;omega
 .rw [aA c]at e;cases e
def Fr.at(f:Fr n ρ H ρ' H')(e:H b=some o)(c:ρ b=none):H' b=some o/\ρ' b=none:=by obtain⟨a,d⟩:=f b o e (λt x=>by rw[c];intro z;cases z);exact⟨a,d.trans c⟩
def Fr.seq(f:Fr n ρ H ρ' H'){l:Addr}(h:aI K H l xs)(c:ρ l=none):aI K H' l xs:=by
 rcases h with(h|⟨o,h⟩)|h
 .exact .inl (.inl (f.at h c).1)
 .exact .inl (.inr ⟨o,(f.at h c).1⟩)
 .exact .inr h
theorem Fr.tup{n:Nat}{ρ ρ':gu}{H H':Hp}(f:Fr n ρ H ρ' H')(g:Gh ρ H):∀b xs,H b=some (.tup xs)->H' b=some (.tup xs):=λb xs e=>(f.at e (g.tup e)).1
def i6(own:Cl Str)(o:Str):Cl Int:=(List.replicate own.length 0).set (own.idxOf o) 1
structure ig(st:HS):Prop where
 prod:st.prod=1
 aW:st.aW=List.replicate st.own.length 0
 ah:∀p∈st.ah,p.sc=1/\p.row=i6 st.own p.ow
 dN:st.dN=[]
def T5:ig hs0:=⟨Z,Z,λ_ h=>absurd h (by simp[hs0]),Z⟩
theorem CV:∀{own:Cl Str}{o:Str}(l:Cl Str),o∈own->(own++l).idxOf o=own.idxOf o
 | [],_,_,h=>by simp at h
 | x::own,o,l,h=>by
  rw[List.cons_append,List.idxOf_cons,List.idxOf_cons];by_cases e:x=o
  .subst e;simp
  .have eb:(x==o)=false:=by simpa using e
   rw[eb,CV l ((cV.mp h).resolve_left λz=>e z.symm)]
def IK{o:Str}(h:o∈own):i6 (own++[x]) o=i6 own o++[0] :=by unfold i6;have hi:=List.idxOf_lt_length_iff.mpr h;rw[CV _ h,cO,K3,List.replicate_succ',List.set_append_left _ _ (by rw[jh];exact hi)]
def IL(s:ig st)(w:Wf st)(o:Str):ig (dm st o):=by
 refine⟨s.prod,?_,λp hp=>?_,s.dN⟩
 .show st.aW++[0]=List.replicate (st.own++[o]).length 0;rw[s.aW,cO,K3,List.replicate_succ']
 .obtain ⟨p0,h0,rfl⟩:=bu.mp (show p∈st.ah.map _ from hp);obtain⟨a,b⟩:=s.ah p0 h0;refine⟨a,?_⟩;show p0.row++[0]=i6 (st.own++[o]) p0.ow;rw[IK (w.ow p0 h0),b]
theorem vD:∀{l:Cl Str}{st:HS},ig st->Wf st->(st.own++l).Nodup->st.own.length+l.length<=100->ig (l.foldl dm st)
 | [],_,s,_,_,_=>s
 | o::l,st,s,w,nd,hl=>by
  have h1:o∉st.own:=λm=>by have:=(Lg.mp nd).2.2 o m o cD;exact this rfl
  rw[kC]at hl;show ig (l.foldl dm (dm st o));refine vD (IL s w o) (w6 w h1 (by omega)) ?_ ?_
  .show ((st.own++[o])++l).Nodup;rw[ER];exact nd
  .show (st.own++[o]).length+l.length<=100;rw[cO];show st.own.length+1+l.length<=100;omega
theorem FW:∀(l:Cl Int),List.zipWith (λt c=>t-c) l (List.replicate l.length 0)=l
 | []=>rfl
 | x::l=>by show(x-0)::List.zipWith _ l (List.replicate l.length 0)=x::l;rw[FW l,Int.sub_zero]
theorem FY:∀(l:Cl Int),List.zipWith (λr c=>1*r+c) l (List.replicate l.length 0)=l
 | []=>rfl
 | x::l=>by show(1*x+0)::List.zipWith _ l (List.replicate l.length 0)=x::l;rw[FY l,wL,Int.add_zero]
def Am(own:Cl Str)(o:Str):(i6 own o).length=own.length:=by unfold i6;rw[jI,jh]
def IM(s:ig st)(x o:Str)(wo we:Int):ig (Ag st x o wo we):=by
 refine⟨s.prod,s.aW,λp hp=>?_,s.dN⟩;rcases eE.mp (show p∈st.ah++[_]from hp)with z|z
 .exact s.ah p z
 .rw [eU.mp z];refine⟨Z,?_⟩;show List.zipWith (λt c=>t-c) ((List.replicate st.own.length 0).set (st.own.idxOf o) st.prod) st.aW=i6 st.own o;rw[s.prod,s.aW];have:=FW (i6 st.own o);rw[Am]at this;exact this
def yb(s:ig st)(h:p∈st.ah):aL st p=i6 st.own p.ow:=by obtain⟨a,b⟩:=s.ah p h;unfold aL;rw[a,b,s.aW];have:=FY (i6 st.own p.ow);rw[Am]at this;exact this
def eF.rows{us:Cl V}(h:eF H us ps):qB K H us ps:=⟨h.length,λi p e=>by obtain⟨r,e1,e2⟩:=h.get e;exact⟨r,_,e1,.inr (bR.of e2),Z,Z,Z,Z⟩⟩
def An(nss:Cl (Cl Nat)):Cl Str:=nss.map tx
def T6(nss:Cl (Cl Nat)):qo nss=(An nss).map V.str:=by unfold qo An;rw[gY];rfl
def CW(h:nss.Nodup):(An nss).Nodup:=by unfold An;exact List.Pairwise.map tx (λa b hab e=>hab (NC e)) h
def NX(h:∀x∈nss,fR x):∀o∈An nss,BS o:=λo ho=>by obtain⟨x,hx,rfl⟩:=bu.mp ho;show fR (tx x).cps.toList;rw[show(tx x).cps.toList=x from by simp];exact h x hx
def J5(nss:Cl (Cl Nat)):(An nss).length=nss.length:=by unfold An;rw[aH]
def T7{p:Addr}(c:ρ p=none):out ρ (upd H p o)=upd (out ρ H) p o:=by
 funext b;unfold out upd;by_cases e:b=p
 .rw [aB e,e,aB c,aB rfl]
 .rw [aA e,aA e]
def QI{p:Addr}(h:H p=none):out ρ H p=none:=by
 unfold out;split
 .exact h
 .rfl
theorem FZ{l:Cl Str}{d:Int}(h0:0<=d)(h1:d<(l.length:Int)):∃(j:Nat)(o:Str),d=(j:Int)/\l[j]?=some o/\pR (l.map V.str) d=some (.str o):=by
 obtain⟨j,rfl⟩:∃j:Nat,d=(j:Int):=⟨d.toNat,by omega⟩
 have hj:j<l.length:=by omega
 exact⟨j,l[j],Z,a_ hj,bh (by rw[cz,a_ hj];rfl)⟩
section
variable {T:TC}{n:Nat}{L H:Hp}{x lp:Addr}{st:HS}{ps:Cl Pt}
end
def sX{α:Type}{l:Cl α}(nd:l.Nodup){x:α}(h:l[i]?=some x):x∉l.take i:=λm=>by have h2:(l.take (i+1)).Nodup:=nd.sublist (List.take_sublist _ _);rw[take_snoc h]at h2;exact(Lg.mp h2).2.2 x m x (eU.mpr rfl) rfl
abbrev Row:=Str×Int
def LQ(r:Row):HO:=.tup [.str r.1,.int r.2]
inductive fU(H:Hp):Cl V->Cl Row->Prop
 | nil:fU H [] []
 | cons {a:Addr} {r:Row} {vs:Cl V} {rs:Cl Row}:H a=some (LQ r)->fU H vs rs->fU H (.ref a::vs) (r::rs)
def fU.mono{l:Cl Row}(h:fU H vs l)(g:∀b xs,H b=some (.tup xs)->H' b=some (.tup xs)):fU H' vs l:=by
 induction h with
 | nil=>exact .nil
 | cons a _ ih=>exact .cons (g _ _ a) ih
theorem fU.length{l:Cl Row}(h:fU H vs l):vs.length=l.length:=by
 induction h with
 | nil=>rfl
 | cons _ _ ih=>simp[ih]
def fU.get{l:Cl Row}(h:fU H vs l):∀{i:Nat}{x:V},vs[i]?=some x->∃a r,x =.ref a/\l[i]?=some r/\H a=some (LQ r):=by
 induction h with
 | nil=>intro i x e;simp at e
 | @cons a r vs rs e0 _ ih=>
  intro i x e;cases i with
  | zero=>simp at e;subst e;exact⟨a,r,Z,Z,e0⟩
  | succ i=>simp at e;obtain⟨a',r',e1,e2,e3⟩:=ih e;exact⟨a',r',e1,by simpa using e2,e3⟩
variable {r:Row}
def fU.snoc{l:Cl Row}(h:fU H vs l)(e:H a=some (LQ r)):fU H (vs++[.ref a]) (l++[r]):=by
 induction h with
 | nil=>exact .cons e .nil
 | cons a _ ih=>exact .cons a ih
def fV(rs:Cl Row):Cl (Key×V):=rs.map λr=>((Sum.inr r.1:Key),V.int r.2)
def uB(rs:Cl Row):(fV rs).length=rs.length:=by unfold fV;rw[aH]
variable {rs:Cl Row}
def CY(h:x∉rs.map (·.1)):cJ (fV rs) (Sum.inr x)=none:=by
 unfold fV
 induction rs with
 | nil=>rfl
 | cons a l ih=>rw[br,dh (λz=>h (by rw[br,<-mG z];exact cD))];exact ih λm=>h (by rw[br];exact ck _ m)
def aJ(rs:Cl Row):Int:=(rs.map (·.2)).sum
def bF(st:HS)(x:Str):Pt:=(st.ah.find? λp=>decide (p.nm=x)).getD ⟨x,x,0,0,1,[]⟩
def J6(nd:(st.ah.map (·.nm)).Nodup)(h:st.ah[i]?=some p):bF st p.nm=p:=by
 unfold bF;have:st.ah.find? (λq=>decide (q.nm=p.nm))=some p:=by
  generalize st.ah=ps at *
  induction ps generalizing i with
  | nil=>simp at h
  | cons a ps ih=>
   obtain⟨h1,h2⟩:=fj.mp (show(a.nm::ps.map (·.nm)).Nodup from nd);cases i with
   | zero=>
    have:a=p:=by simpa using h
    subst this;rw[qX,cI rfl]
   | succ i=>
    have h':ps[i]?=some p:=by simpa using h
    rw[qX,ee (λe=>h1 (bu.mpr ⟨p,cg h',e.symm⟩))];exact ih h2 h'
 rw[this];rfl
def iE(st:HS)(sums:Cl Int)(r:Row):Cl Int:=List.zipWith (λold own=>old+(r.2*(bF st r.1).sc)*own) sums (bF st r.1).row
def bP(st:HS)(rs:Cl Row):Cl Int:=rs.foldl (iE st) (st.aW.map λc=>aJ rs*c)
def mY(s:Int)(ts:Cl Int):Int:=ts.foldl (λs t=>Jm.cf t s) s
def gH(st:HS)(kept:Int):Cl Int:=st.ah.map λp=>p.sc*kept
def dY(st:HS)(kept:Int)(added:Cl Int):Cl Int:=List.zipWith (λt m=>t*kept+m) st.aW added
def bq(st:HS)(kept whole:Int)(added:Cl Int):Int:=mY whole (gH st kept++dY st kept added)
def dJ(st:HS)(s:Int):HS:=if 1<s then{ st with stp:=st.stp++[s],prod:=st.prod*s,kn:=0 } else st
def aT(st:HS)(kept whole:Int)(added:Cl Int):HS:=dJ { st with ah:=st.ah.map (λp=>{ p with sc:=p.sc*kept / bq st kept whole added }),aW:=(dY st kept added).map (· / bq st kept whole added),bN:=st.bN.map (·*(whole / bq st kept whole added)) } (whole / bq st kept whole added)
def jk(ps:Cl Pt)(x:Str)(a:Int):Cl Pt:=(ps.map λp=>if p.nm=x then{ p with wo:=p.wo-a } else p).filter λp=>decide (p.wo≠0)
def cE(st:HS)(r:Row):HS:={ st with ah:=jk st.ah r.1 r.2 }
def bX(st:HS)(rs:Cl Row):HS:=rs.foldl cE (aT st (aq st-aJ rs) (aq st) (bP st rs))
inductive abJ(vs:Cl V)(H:Hp)(Q:VK)(E:XK):Prop
 |mk(a:Int)(_:vs=[.int a])(_:1<=a)(_:Q .b8 H)
def Zb:Sp:=bx (abJ)
inductive abL(vs:Cl V)(H:Hp)(Q:VK)(E:XK):Prop
 |mk(m a:Int)(_:vs=[.int m,.int a])(_:1<=a)(_:a<=m)(_:Q .b8 H)
def R6:Sp:=bx (abL)
inductive Zc(K:Fg)(vs:Cl V)(H:Hp)(Q:VK)(E:XK):Prop
 |mk(l:Addr)(us:Cl V)(rs:Cl Row)(_:vs=[.ref l])(_:aI K H l us)(_:fU H us rs)(_:(rs.map (·.1)).Nodup)(_:rs≠[])(_:rs.length<=1000)(_:∀d H',aE H H'->H d=none->H' d=some (.dK (fV rs))->Q (.ref d) H')
def NY(K:Fg):Sp:=bx (Zc K)
inductive Zd(K:Fg)(vs:Cl V)(H:Hp)(Q:VK)(E:XK):Prop
 |mk(s:Int)(l:Addr)(ts:Cl Int)(_:vs=[.int s,.ref l])(_:aI K H l (ts.map V.int))(_:0<=s)(_:(∀t∈ts,0<=t))(_:Q (.int (mY s ts)) H)
def NZ(K:Fg):Sp:=bx (Zd K)
inductive Ze(T:TC)(vs:Cl V)(H:Hp)(Q:VK)(E:XK):Prop
 |mk(n ρ A st s:_)(_:vs=[.ref A.bt,.int s])(_:Gh ρ H)(_:aR T n ρ A H st)(_:st.stp.length<=1000)(_:Jm.Sz 9000 st.prod)(_:Jm.Sz 9000 s)(_:∀ρ' A' H',Gh ρ' H'->aR T n ρ' A' H' (dJ st s:_)->A'.a=A.a->Fr n ρ H ρ' H'->Q .b8 H')
def N1(T:TC):Sp:=bx (Ze T)
inductive WG(T:TC)(vs:Cl V)(H:Hp)(Q:VK)(E:XK):Prop
 |mk(n ρ A st:_)(d:Addr)(rs:Cl Row)(_:vs=[.ref A.a,.ref d])(_:aR T n ρ A H st)(_:Wf st)(_:H d=some (.dK (fV rs)))(_:ρ d=none)(_:rs.length<=1000)(_:(∀r∈rs,Jm.Sz 60 r.2/\∃p∈st.ah,p.nm=r.1))(_:∀l H',aE H H'->H l=none->H' l=some (.lst ((bP st rs).map V.int))->Q (.ref l) H')
def J7(T:TC):Sp:=bx (WG T)
inductive WH(T:TC)(K:Fg)(vs:Cl V)(H:Hp)(Q:VK)(E:XK):Prop
 |mk(n ρ A st:_)(kept whole:Int)(l:Addr)(added:Cl Int)(_:vs=[.ref A.a,.int kept,.int whole,.ref l])(_:HH T n ρ A H st)(_:aI K H l (added.map V.int))(_:added.length=st.aW.length)(_:0<kept)(_:0<whole)(_:Jm.Sz 60 kept)(_:Jm.Sz 60 whole)(_:(∀m∈added,0<=m/\Jm.Sz 8900 m))(_:(∀u∈st.bN,Jm.Sz 8900 u))(_:st.stp.length<100)(_:Wf (aT st kept whole added))(_:wZ T n ρ A H (aT st kept whole added:_) λH'=>Q .b8 H')
def J8(T:TC)(K:Fg):Sp:=bx (WH T K)
inductive Zf(T:TC)(vs:Cl V)(H:Hp)(Q:VK)(E:XK):Prop
 |mk(n ρ A st:_)(r:Row)(_:vs=[.ref A.a,.str r.1,.int r.2])(_:HH T n ρ A H st)(_:(∃p∈st.ah,p.nm=r.1/\r.2<=p.wo))(_:Wf (cE st r))(_:wZ T n ρ A H (cE st r:_) λH'=>Q .b8 H')
def N3(T:TC):Sp:=bx (Zf T)
structure i7(st:HS)(rs:Cl Row):Prop where
 nd:(rs.map (·.1)).Nodup
 ne:rs≠[]
 len:rs.length<=1000
 row:∀r∈rs,1<=r.2/\Jm.Sz 60 r.2/\∃p∈st.ah,p.nm=r.1/\r.2<=p.wo
 lost:aJ rs<aq st
 big:Jm.Sz 60 (aq st)
 prod:Jm.Sz 7900 st.prod
 bN:∀u∈st.bN,Jm.Sz 8900 u
 stp:st.stp.length<100
inductive Zg(T:TC)(K:Fg)(vs:Cl V)(H:Hp)(Q:VK)(E:XK):Prop
 |mk(n ρ A st:_)(l:Addr)(us:Cl V)(rs:Cl Row)(_:vs=[.ref A.a,.ref l])(_:HH T n ρ A H st)(_:aI K H l us)(_:fU H us rs)(_:i7 st rs)(_:wZ T n ρ A H (bX st rs:_) λH'=>Q .b8 H')
def N4(T:TC)(K:Fg):Sp:=bx (Zg T K)
theorem F0:∀{ps:Cl Pt}{qs:Cl (Addr×Addr×Addr)}{i:Nat}{p:Pt},(ps.map (·.nm)).Nodup->qs.length=ps.length->ps[i]?=some p->kX (cu ps qs) (Sum.inr p.nm)=cu (ps.eraseIdx i) (qs.eraseIdx i)
 | [],_,_,_,_,_,h=>by simp at h
 | _::_,[],_,_,_,hl,_=>by simp at hl
 | a::ps,b::qs,0,p,nd,hl,h=>by
  have e:a=p:=by simpa using h
  subst e;obtain⟨h1,h2⟩:=fj.mp (show(a.nm::ps.map (·.nm)).Nodup from nd);show kX ((Sum.inr a.nm,V.ref b.1)::cu ps qs) (Sum.inr a.nm)=cu ps qs;unfold kX;rw[lF,aA (by simp)];refine List.filter_eq_self.mpr λkv hkv=>?_;unfold cu at hkv;obtain⟨x,hx,y,hy,rfl⟩:=qA hkv;exact cI λz=>h1 (bu.mpr ⟨x,hx,mG z⟩)
 | a::ps,b::qs,i+1,p,nd,hl,h=>by
  obtain⟨h1,h2⟩:=fj.mp (show(a.nm::ps.map (·.nm)).Nodup from nd);have h':ps[i]?=some p:=by simpa using h
  have ih:=F0 h2 (by simpa using hl) h';show kX ((Sum.inr a.nm,V.ref b.1)::cu ps qs) (Sum.inr p.nm)=(Sum.inr a.nm,V.ref b.1)::cu (ps.eraseIdx i) (qs.eraseIdx i);rw[<-ih];unfold kX;have hne:¬ (Sum.inr a.nm:Key)=Sum.inr p.nm:=λz=>h1 (bu.mpr ⟨p,cg h',(mG z).symm⟩);rw[lF,aB (by simpa using λe:a.nm=p.nm=>hne (by rw[e]))]
theorem F_:∀{ps:Cl Pt}{i:Nat}{p:Pt}{a:Int},(ps.map (·.nm)).Nodup->(∀q∈ps,q.wo≠0)->ps[i]?=some p->jk ps p.nm a=if p.wo-a=0 then ps.eraseIdx i else ps.set i { p with wo:=p.wo-a }
 | [],_,_,_,_,_,h=>by simp at h
 | x::ps,0,p,a,nd,hw,h=>by
  have e:x=p:=by simpa using h
  subst e;obtain⟨h1,h2⟩:=fj.mp (show(x.nm::ps.map (·.nm)).Nodup from nd);have B2:jk ps x.nm a=ps:=by
   unfold jk;rw[show(ps.map λp=>if p.nm=x.nm then{ p with wo:=p.wo-a } else p)=ps from by
    conv=>rhs;rw[<-List.map_id ps]
    exact rY λy hy=>aA λz=>h1 (bu.mpr ⟨y,hy,z⟩)]
   exact List.filter_eq_self.mpr λy hy=>cI (hw y (ck _ hy))
  show((x::ps).map λp=>if p.nm=x.nm then{ p with wo:=p.wo-a } else p).filter _=_;rw[br,aB rfl,lF];by_cases c:x.wo-a=0
  .rw [aB c,aA (by simp[c])];exact B2
  .rw [aA c,aB (by simpa using c)];show _::jk ps x.nm a=_;rw[B2];rfl
 | x::ps,i+1,p,a,nd,hw,h=>by
  obtain⟨h1,h2⟩:=fj.mp (show(x.nm::ps.map (·.nm)).Nodup from nd);have h':ps[i]?=some p:=by simpa using h
  have ih:=F_ (a:=a) h2 (λq hq=>hw q (ck _ hq)) h';have xn:¬ x.nm=p.nm:=λz=>h1 (bu.mpr ⟨p,cg h',z.symm⟩);show((x::ps).map λq=>if q.nm=p.nm then{ q with wo:=q.wo-a } else q).filter _=_;rw[br,aA xn,lF,aB (cI (hw x cD))];show x::jk ps p.nm a=_;rw[ih];by_cases c:p.wo-a=0
  .rw [aB c,aB c];rfl
  .rw [aA c,aA c];rfl
theorem CZ{α:Type}:∀{l:Cl α}{i:Nat}{x:α},l[i]?=some x->l.set i x=l
 | [],_,_,h=>by simp at h
 | a::l,0,x,h=>by
  have:a=x:=by simpa using h
  rw[this];rfl
 | a::l,i+1,x,h=>by rw[List.set_cons_succ,CZ (by simpa using h)]
def Ga{α β:Type}{l:Cl α}{m:Cl β}{x:α}{y:β}(h1:(l.eraseIdx i)[j]?=some x)(h2:(m.eraseIdx i)[j]?=some y):∃k:Nat,l[k]?=some x/\m[k]?=some y:=by
 rw[List.getElem?_eraseIdx]at h1 h2;by_cases c:j<i
 .rw [aB c]at h1 h2;exact⟨j,h1,h2⟩
 .rw [aA c]at h1 h2;exact⟨j+1,h1,h2⟩
theorem vE:∀(ts:Cl Int)(s:Int),mY s ts∣s/\∀t∈ts,mY s ts∣t
 | [],s=>⟨Int.dvd_refl _,λ_ h=>absurd h (by simp)⟩
 | t::ts,s=>by
  obtain⟨h1,h2⟩:=vE ts (Jm.cf t s);refine⟨Int.dvd_trans h1 (Jm.mP t s),λu hu=>?_⟩;rcases cV.mp hu with rfl|hu
  .exact Int.dvd_trans h1 (Jm.ou u s)
  .exact h2 u hu
theorem vF:∀(ts:Cl Int)(s:Int),0<s->0<mY s ts
 | [],_,h=>h
 | t::ts,s,h=>vF ts _ (Jm.zV t s (.inr h))
def C0{A:HA}(h:aR T n ρ A H st)(g:Gh ρ H)(c:ρ a=none)(e:H a=some o)(ht:isTup o=false):aR T n (fT ρ a (n,t,⟨#[]⟩)) A H st/\Gh (fT ρ a (n,t,⟨#[]⟩)) H:=⟨h.same ⟨λ_ _ e=>e,λb u x w _ hc he=>⟨he,by rw[eZ (λz=>by rw[z,c]at hc;cases hc)];exact hc⟩⟩,g.color e ht⟩
def Fr.Gb(f:Fr n ρ H ρ' H')(h:H a=none):Fr n ρ H (fT ρ' a (n,t,x)) H':=λb o e k=>by obtain⟨e1,e2⟩:=f b o e k;exact⟨e1,by rw[eZ (aG e h)];exact e2⟩
theorem C3{d a b:Int}(hd:0<d)(h:a<=d*b):a / d<=b:=by
 have:=Int.ediv_le_ediv hd h
 rwa [Br _ (by omega)]at this
theorem p7{s:Int}(h:1<=s):(dJ st s).prod=st.prod*s:=by
 unfold dJ;by_cases c:1<s
 .rw [aB c]
 .rw [aA c,show s=1 by omega,mH]
def ir(st:HS)(s:Int):(dJ st s).ah=st.ah:=by unfold dJ;split <;> rfl
def C4(st:HS)(s:Int):(dJ st s).aW=st.aW:=by unfold dJ;split <;> rfl
def C5(st:HS)(s:Int):(dJ st s).bN=st.bN:=by unfold dJ;split <;> rfl
def vG(st:HS)(s:Int):(dJ st s).own=st.own:=by unfold dJ;split <;> rfl
def C6(st:HS)(s:Int):(dJ st s).nms=st.nms:=by unfold dJ;split <;> rfl
def C7(st:HS)(s:Int):(dJ st s).dN=st.dN:=by unfold dJ;split <;> rfl
theorem rL{α β γ:Type}{f:α->β->γ}{t:γ}:∀{xs:Cl α}{ys:Cl β},t∈List.zipWith f xs ys->∃(i:Nat)(x:α)(y:β),xs[i]?=some x/\ys[i]?=some y/\t=f x y:=λ{xs ys} h=>by
 obtain⟨i,hi,e⟩:=oZ h;rw[gx]at hi;have h1:i<xs.length:=by omega
 have h2:i<ys.length:=by omega
 exact⟨i,xs[i],ys[i],a_ h1,a_ h2,by rw[<-e,List.getElem_zipWith]⟩
def T8{α β γ:Type}{f:α->β->γ}{xs:Cl α}{ys:Cl β}{x:α}{y:β}(h1:xs[i]?=some x)(h2:ys[i]?=some y):(List.zipWith f xs ys)[i]?=some (f x y):=by rw[tS,h1,h2]
def yF{a b c:Int}(h:a<=b)(hc:0<=c):a*c<=b*c:=Int.mul_le_mul_of_nonneg_right h hc
structure l9(st:HS)(kept whole lost:Int)(added:Cl Int):Prop where
 k:0<kept
 l:0<=lost
 w:whole=kept+lost
 len:added.length=st.aW.length
 add:∀m∈added,0<=m/\m<=lost*st.prod
 prod:Jm.Sz 7900 st.prod
 big:Jm.Sz 60 whole
 bN:∀u∈st.bN,Jm.Sz 8900 u
 stp:st.stp.length<100
variable {added:Cl Int}
theorem l9.dvds{kept whole lost:Int}(b:l9 st kept whole lost added):0<bq st kept whole added/\bq st kept whole added∣whole/\(∀p∈st.ah,bq st kept whole added∣p.sc*kept)/\∀c∈dY st kept added,bq st kept whole added∣c:=by
 have hw:0<whole:=by have:=b.k;have:=b.l;have:=b.w;omega
 have d:=vE (gH st kept++dY st kept added) whole;exact⟨vF _ _ hw,d.1,λp hp=>d.2 _ (yo _ (bu.mpr ⟨p,hp,Z⟩)),λc hc=>d.2 _ (gi _ hc)⟩
theorem qC{kept whole lost:Int}(wf:Wf st)(b:l9 st kept whole lost added):Wf (aT st kept whole added):=by
 obtain⟨hs,hsw,rC,hsc⟩:=b.dvds;have hk:=b.k;have hl:=b.l;have hw:=b.w;have p1:=wf.c6;have eB:aT st kept whole added=dJ { st with ah:=st.ah.map (λp=>{ p with sc:=p.sc*kept / bq st kept whole added }),aW:=(dY st kept added).map (· / bq st kept whole added),bN:=st.bN.map (·*(whole / bq st kept whole added)) } (whole / bq st kept whole added):=rfl;rw[eB];generalize bq st kept whole added=d at *;obtain⟨s,es⟩:=hsw;have hs1:1<=s:=by
  rcases Int.lt_trichotomy s 0 with z|z|z
  .have:=Int.mul_neg_of_pos_of_neg hs z;omega
  .rw [z,Int.mul_zero]at es;omega
  .omega
 have ed:whole / d=s:=by rw[es,Br _ (by omega)]
 rw[ed];have aeM:s<=whole:=by rw[es];have:=Int.mul_le_mul_of_nonneg_right (show 1<=d by omega) (show 0<=s by omega);omega
 have zs:Jm.Sz 60 s:=b.big.of_le (by omega);have zp:Jm.Sz 8000 (st.prod*s):=(b.prod.mul zs).mono (by decide);have pp:st.prod<=st.prod*s:=by have:=EH hs1 (show 0<=st.prod by omega);omega
 have QJ:∀c∈(dY st kept added).map (· / d),0<=c/\c<=st.prod*s:=λc hc=>by
  obtain⟨x,hx,rfl⟩:=bu.mp hc;obtain⟨i,t,m,et,em,rfl⟩:=rL (show x∈List.zipWith (λt m=>t*kept+m) st.aW added from hx);have ht:=wf.lM t (cg et);have hm:=b.add m (cg em);have a1:0<=t*kept:=t9 ht.1 (by omega);have a2:t*kept<=st.prod*kept:=yF ht.2 (by omega);have a3:st.prod*kept+lost*st.prod=d*(st.prod*s):=by rw[mF lost,<-pV,<-hw,es,<-gy,<-gy,mF st.prod d]
  exact⟨Eo (by omega) (by omega),C3 hs (by omega)⟩
 have sc':∀p∈st.ah,1<=p.sc*kept / d/\p.sc*kept / d<=st.prod*s/\d*(p.sc*kept / d)=p.sc*kept:=λp hp=>by
  have h0:=wf.mU p hp;obtain⟨z,ez⟩:=rC p hp;have a1:0<p.sc*kept:=uc (by omega) hk;have ez':p.sc*kept / d=z:=by rw[ez,Br _ (by omega)]
  have hz:1<=z:=by
   rcases Int.lt_trichotomy z 0 with y|y|y
   .have:=Int.mul_neg_of_pos_of_neg hs y;omega
   .rw [y,Int.mul_zero]at ez;omega
   .omega
  have a2:p.sc*kept<=st.prod*kept:=yF h0.2 (by omega);have a3:st.prod*kept<=st.prod*whole:=EH (by omega) (by omega);have a4:st.prod*whole=d*(st.prod*s):=by rw[es,<-gy,<-gy,mF st.prod d]
  refine⟨by rw[ez'];exact hz,C3 hs (by omega),by rw[ez',ez]⟩
 have P:∀{M:Pt->Prop},(∀p∈st.ah,M { p with sc:=p.sc*kept / d })->∀p∈st.ah.map (λp=>{ p with sc:=p.sc*kept / d }),M p:=λh p hp=>by obtain⟨x,hx,rfl⟩:=bu.mp hp;exact h x hx
 have top':∀p∈st.ah,∀t∈List.zipWith (λr c=>(p.sc*kept / d)*r+c) p.row ((dY st kept added).map (· / d)),0<=t/\t<=st.prod*s:=λp hp t ht=>by
  obtain⟨i,r,c,er,ec,rfl⟩:=rL ht;rw[cz]at ec;obtain⟨x,ex,rfl⟩:=lE.mp ec;obtain⟨y,ey⟩:=hsc x (cg ex);have eyd:x / d=y:=by rw[ey,Br _ (by omega)]
  have ex':(List.zipWith (λt m=>t*kept+m) st.aW added)[i]?=some x:=ex;rw[tS]at ex';cases e1:st.aW[i]? with
  | none=>rw[e1]at ex';simp at ex'
  | some t0=>
   cases e2:added[i]? with
   | none=>rw[e1,e2]at ex';simp at ex'
   | some m=>
    rw[e1,e2]at ex';have ex2:t0*kept+m=x:=by simpa using ex'
    have hm:=b.add m (cg e2);have hT:=wf.mV p hp (p.sc*r+t0) (cg (T8 (f:=λr c=>p.sc*r+c) er e1));have hz:=(sc' p hp).2.2;have key:d*((p.sc*kept / d)*r+x / d)=(p.sc*r+t0)*kept+m:=by rw[pV,<-gy,hz,eyd,<-ey,<-ex2];rw[ud,gy,gy,mF kept r];omega
    have k1:0<=(p.sc*r+t0)*kept:=t9 hT.1 (by omega);have k2:(p.sc*r+t0)*kept<=st.prod*kept:=yF hT.2 (by omega);have a3:st.prod*kept+lost*st.prod=d*(st.prod*s):=by rw[mF lost,<-pV,<-hw,es,<-gy,<-gy,mF st.prod d]
    generalize (p.sc*kept / d)*r+x / d=W at *;constructor
    .rcases Int.lt_or_le W 0 with z|z
     .have:=Int.mul_neg_of_pos_of_neg hs z;omega
     .exact z
    .have:d*W<=d*(st.prod*s):=by omega
     exact Int.le_of_mul_le_mul_left this hs
 have nm':(st.ah.map (λp:Pt=>{ p with sc:=p.sc*kept / d })).map (λp:Pt=>p.nm)=st.ah.map (λp:Pt=>p.nm):=by rw[gY];rfl
 have e0:(dY st kept added).length=st.aW.length:=by unfold dY;rw[gx,b.len];omega
 have pu':∀u∈st.bN.map (·*s),Jm.Sz 9000 u:=λu hu=>by obtain⟨x,hx,rfl⟩:=bu.mp hu;exact((b.bN x hx).mul zs).mono (by decide)
 have WI:∀p∈st.ah,∀r∈p.row,-(st.prod*s)<=r/\r<=st.prod*s:=λp hp r hr=>by have:=wf.kF p hp r hr;omega
 unfold dJ;by_cases c:1<s
 .rw [aB c];refine⟨wf.jT,wf.ux,by rw[nm'];exact wf.iD,P wf.sub,P wf.rows,P wf.ow,?_,?_,by show 1<=st.prod*s;omega,?_,λx hx=>?_,wf.mT,wf.uy,?_,?_,wf.vB,gP _,zp,QJ,P λp hp=>⟨(sc' p hp).1,(sc' p hp).2.1⟩,P WI,P top',P wf.kP,pu'⟩
  .show (List.map _ (dY st kept added)).length=_;rw[aH,e0,wf.dQ]
  .show (List.map _ st.bN).length=_;rw[aH,wf.qx]
  .show st.prod*s=(st.stp++[s]).foldl (·*·) 1;rw[T4,<-wf.mS]
  .rcases eE.mp (show x∈st.stp++[s]from hx)with z|z
   .exact wf.qy x z
   .rw [eU.mp z];omega
  .show (List.map _ st.ah).length<=1000;rw[aH];exact wf.nQ
  .show (st.stp++[s]).length<=100;rw[cO];exact b.stp
 .rw [aA c];have e1:s=1:=by omega
  subst e1;rw[mH]at QJ sc' WI top';refine⟨wf.jT,wf.ux,by rw[nm'];exact wf.iD,P wf.sub,P wf.rows,P wf.ow,?_,?_,wf.c6,wf.mS,wf.qy,wf.mT,wf.uy,?_,wf.vA,wf.vB,wf.JT,wf.big,QJ,P λp hp=>⟨(sc' p hp).1,(sc' p hp).2.1⟩,P wf.kF,P λp hp t ht=>?_,P wf.kP,pu'⟩
  .show (List.map _ (dY st kept added)).length=_;rw[aH,e0,wf.dQ]
  .show (List.map _ st.bN).length=_;rw[aH,wf.qx]
  .show (List.map _ st.ah).length<=1000;rw[aH];exact wf.nQ
  .exact top' p hp t ht
def p8(st:HS)(Ap:Cl Int)(rs:Cl Row):Cl Int:=rs.foldl (λs r=>List.zipWith (λx t=>x+r.2*t) s (aL st (bF st r.1))) Ap
theorem C8:∀(Ap aW row:Cl Int)(a sc L:Int),List.zipWith (λold own=>old+(a*sc)*own) (List.zipWith (λs c=>s+(a+L)*c) Ap aW) row=List.zipWith (λs c=>s+L*c) (List.zipWith (λx t=>x+a*t) Ap (List.zipWith (λr c=>sc*r+c) row aW)) aW
 | [],_,_,_,_,_=>by simp
 | _::_,[],_,_,_,_=>by simp
 | _::_,_::_,[],_,_,_=>by simp
 | x::Ap,c::aW,r::row,a,sc,L=>by
  simp only[ym];rw[C8 Ap aW row a sc L];congr 1
  grind
theorem Gd{st:HS}:∀(rs:Cl Row)(Ap:Cl Int),rs.foldl (iE st) (List.zipWith (λs c=>s+aJ rs*c) Ap st.aW)=List.zipWith (λs c=>s+0*c) (p8 st Ap rs) st.aW
 | [],Ap=>by show List.zipWith _ Ap st.aW=_;rfl
 | r::rs,Ap=>by
  rw[j8];have e:iE st (List.zipWith (λs c=>s+aJ (r::rs)*c) Ap st.aW) r=List.zipWith (λs c=>s+aJ rs*c) (List.zipWith (λx t=>x+r.2*t) Ap (aL st (bF st r.1))) st.aW:=by unfold iE;rw[show aJ (r::rs)=r.2+aJ rs from by unfold aJ;rw[br,bV]];exact C8 Ap st.aW (bF st r.1).row r.2 (bF st r.1).sc (aJ rs)
  rw[e,Gd rs];rfl
theorem C9:∀(l:Cl Int)(L:Int),List.zipWith (λs c=>s+L*c) (List.replicate l.length 0) l=l.map λc=>L*c
 | [],_=>rfl
 | x::l,L=>by rw[kC,u5,ym,C9 l L,rm];rfl
theorem Ge:∀(s l:Cl Int),s.length<=l.length->List.zipWith (λs c=>s+0*c) s l=s
 | [],_,_=>by simp
 | _::_,[],h=>by simp at h
 | x::s,c::l,h=>by rw[ym,Ge s l (by simpa using h),zL,Int.add_zero]
theorem vH{st:HS}:∀(rs:Cl Row)(Ap:Cl Int),(∀r∈rs,(aL st (bF st r.1)).length=Ap.length)->(p8 st Ap rs).length=Ap.length
 | [],_,_=>rfl
 | r::rs,Ap,h=>by
  have e:(List.zipWith (λx t=>x+r.2*t) Ap (aL st (bF st r.1))).length=Ap.length:=by rw[gx,h r cD];omega
  show(p8 st (List.zipWith (λx t=>x+r.2*t) Ap (aL st (bF st r.1))) rs).length=_;rw[vH rs _ (λx hx=>by rw[e];exact h x (ck _ hx)),e]
theorem yc{st:HS}(hP:0<=st.prod):∀(rs:Cl Row)(Ap:Cl Int)(B:Int),(∀r∈rs,0<=r.2/\∀t∈aL st (bF st r.1),0<=t/\t<=st.prod)->(∀x∈Ap,0<=x/\x<=B)->∀x∈p8 st Ap rs,0<=x/\x<=B+aJ rs*st.prod
 | [],Ap,B,_,ha,x,hx=>by have:=ha x hx;show 0<=x/\x<=B+0*st.prod;omega
 | r::rs,Ap,B,h,ha,x,hx=>by
  have hr:=h r cD;have:=yc hP rs (List.zipWith (λx t=>x+r.2*t) Ap (aL st (bF st r.1))) (B+r.2*st.prod) (λy hy=>h y (ck _ hy)) (λy hy=>by obtain⟨i,a,t,ea,et,rfl⟩:=rL hy;have h1:=ha a (cg ea);have h2:=hr.2 t (cg et);have h3:0<=r.2*t:=t9 hr.1 h2.1;have h4:r.2*t<=r.2*st.prod:=EH h2.2 hr.1;omega) x hx
  rw[show aJ (r::rs)=r.2+aJ rs from by unfold aJ;rw[br,bV],ud];omega
theorem jl(wf:Wf st)(h:p∈st.ah):(aL st p).length=st.aW.length:=by unfold aL;rw[gx,wf.rows p h,wf.dQ];omega
def b_(wf:Wf st)(h:p∈st.ah)(e:p.nm=x):bF st x=p:=by obtain⟨i,hi,ei⟩:=oZ h;rw[<-e];exact J6 wf.iD (i:=i) (by rw[a_ hi,ei])
def rM(wf:Wf st)(h:∀r∈rs,∃p∈st.ah,p.nm=r.1):bP st rs=p8 st (List.replicate st.aW.length 0) rs:=by
 unfold bP;rw[<-C9 st.aW (aJ rs),Gd];refine Ge _ _ ?_;rw[vH rs _ (λr hr=>by obtain⟨p,hp,e⟩:=h r hr;rw[b_ wf hp e,jh,jl wf hp]),jh]
 exact aO _
theorem N5(wf:Wf st)(h:∀r∈rs,1<=r.2/\∃p∈st.ah,p.nm=r.1):(bP st rs).length=st.aW.length/\∀m∈bP st rs,0<=m/\m<=aJ rs*st.prod:=by
 rw[rM wf (λr hr=>(h r hr).2)];have p1:=wf.c6;constructor
 .rw [vH rs _ (λr hr=>by obtain⟨p,hp,e⟩:=(h r hr).2;rw[b_ wf hp e,jh,jl wf hp]),jh]
 .intro m hm;have:=yc (st:=st) (by omega) rs (List.replicate st.aW.length 0) 0 (λr hr=>by obtain⟨h1,p,hp,e⟩:=h r hr;refine⟨by omega,?_⟩;rw[b_ wf hp e];exact wf.mV p hp) (λx hx=>by rw[(List.mem_replicate.mp hx).2];omega) m hm
  omega
def Ao{a:Int}(h:p∈ps)(hn:p.nm≠x)(hw:p.wo≠0):p∈jk ps x a:=om.mpr ⟨bu.mpr ⟨p,h,by rw[aA hn]⟩,cI hw⟩
def qD{a:Int}(h:p∈jk ps x a):p.wo≠0/\∃q∈ps,p=if q.nm=x then{ q with wo:=q.wo-a } else q:=by obtain⟨h1,h2⟩:=om.mp h;obtain⟨q,hq,e⟩:=bu.mp h1;exact⟨ff h2,q,hq,e.symm⟩
def p9{a:Int}:((jk ps x a).map (λp:Pt=>p.nm)).Sublist (ps.map (λp:Pt=>p.nm)):=by
 unfold jk;have e:(ps.map λp=>if p.nm=x then{ p with wo:=p.wo-a } else p).map (λp:Pt=>p.nm)=ps.map (λp:Pt=>p.nm):=by rw[gY];exact rY λp _=>by show(if p.nm=x then _ else p:Pt).nm=p.nm;split <;> rfl
 rw[<-e];exact List.filter_sublist.map _
theorem J9(wf:Wf st)(h:∀p∈st.ah,p.nm=r.1->r.2<=p.wo):Wf (cE st r):=by
 have P:∀{M:Pt->Prop},(∀p∈st.ah,M p)->(∀(p:Pt)(w:Int),M p->M { p with wo:=w })->∀p∈jk st.ah r.1 r.2,M p:=λh1 h2 p hp=>by
  obtain⟨_,q,hq,e⟩:=qD hp;rw[e];split
  .exact h2 _ _ (h1 q hq)
  .exact h1 q hq
 refine⟨wf.jT,wf.ux,wf.iD.sublist p9,P wf.sub (λ_ _ z=>z),P wf.rows (λ_ _ z=>z),P wf.ow (λ_ _ z=>z),wf.dQ,wf.qx,wf.c6,wf.mS,wf.qy,wf.mT,wf.uy,?_,wf.vA,wf.vB,wf.JT,wf.big,wf.lM,P wf.mU (λ_ _ z=>z),P wf.kF (λ_ _ z=>z),P wf.mV (λ_ _ z=>z),λp hp=>?_,wf.BN⟩
 .have:=p9 (ps:=st.ah) (x:=r.1) (a:=r.2) |>.length_le;rw[aH,aH]at this;exact dj this wf.nQ
 .obtain ⟨h0,q,hq,e⟩:=qD hp;have:=wf.kP q hq;by_cases c:q.nm=r.1
  .rw [aB c]at e;subst e;have:=h q hq c;have h0:q.wo-r.2≠0:=h0;exact⟨by show 1<=q.wo-r.2;omega,by show 0<=q.we;omega⟩
  .rw [aA c]at e;rw[e];exact this
def Due(st:HS)(rs:Cl Row):Prop:=∀r∈rs,∃p∈st.ah,p.nm=r.1/\r.2<=p.wo
def BU(wf:Wf st){q:Pt}(hp:p∈st.ah)(hq:q∈st.ah)(e:p.nm=q.nm):p=q:=(b_ wf hp rfl).symm.trans (by rw[e];exact b_ wf hq rfl)
def Gf(wf:Wf st)(d:Due st (r::rs)):Wf (cE st r):=by obtain⟨p,hp,e,hle⟩:=d r cD;exact J9 wf λq hq eq=>by rw[BU wf hq hp (eq.trans e.symm)];exact hle
theorem yG(wf:Wf st)(d:Due st (r::rs))(nd:((r::rs).map (λr:Row=>r.1)).Nodup):Due (cE st r) rs:=λx hx=>by obtain⟨p,hp,e,hle⟩:=d x (ck _ hx);have hn:p.nm≠r.1:=λz=>(fj.mp nd).1 (bu.mpr ⟨x,hx,e.symm.trans z⟩);have:=wf.kP p hp;exact⟨p,Ao hp hn (by omega),e,hle⟩
theorem Gg:∀{rs:Cl Row}{st:HS},Wf st->Due st rs->(rs.map (λr:Row=>r.1)).Nodup->Wf (rs.foldl cE st)
 | [],_,wf,_,_=>wf
 | r::rs,st,wf,d,nd=>show Wf (rs.foldl cE (cE st r))from Gg (Gf wf d) (yG wf d nd) (fj.mp nd).2
def rN{kept whole:Int}(d:Due st rs):Due (aT st kept whole added) rs:=λr hr=>by obtain⟨p,hp,e,hle⟩:=d r hr;refine⟨{ p with sc:=p.sc*kept / bq st kept whole added },?_,e,hle⟩;unfold aT;rw[ir];exact bu.mpr ⟨p,hp,Z⟩
def i7.due(c:i7 st rs):Due st rs:=λr hr=>(c.row r hr).2.2
theorem yH:∀{rs:Cl Row},(∀r∈rs,1<=r.2)->0<=aJ rs
 | [],_=>gR _
 | r::rs,h=>by have:=h r cD;have:=yH (rs:=rs) λx hx=>h x (ck _ hx);rw[show aJ (r::rs)=r.2+aJ rs from by unfold aJ;rw[br,bV]];omega
theorem i7.blend(wf:Wf st)(c:i7 st rs):l9 st (aq st-aJ rs) (aq st) (aJ rs) (bP st rs):=by have g:=N5 wf (rs:=rs) (λr hr=>⟨(c.row r hr).1,by obtain⟨p,hp,e,_⟩:=(c.row r hr).2.2;exact⟨p,hp,e⟩⟩);have l0:=yH (rs:=rs) λr hr=>(c.row r hr).1;have:=c.lost;exact⟨by omega,l0,by omega,g.1,g.2,c.prod,c.big,c.bN,c.stp⟩
def J_(wf:Wf st)(c:i7 st rs):Wf (bX st rs):=Gg (qC wf (c.blend wf)) (rN c.due) c.nd
section
variable {X:Cx}
end
abbrev Q4:=Str×Str×Int×Int
def f7(st:HS):Cl Q4:=st.ah.map λp=>(p.nm,p.ow,p.wo,p.we)
def mZ(qs:Cl Q4)(r:Row):Cl Q4:=(qs.map λq=>if q.1=r.1 then(q.1,q.2.1,q.2.2.1-r.2,q.2.2.2) else q).filter λq=>decide (q.2.2.1≠0)
def N6(st:HS)(r:Row):f7 (cE st r)=mZ (f7 st) r:=by
 unfold f7 cE jk mZ;generalize st.ah=ps;show List.map _ (List.filter _ (List.map _ ps))=_
 induction ps with
 | nil=>rfl
 | cons p ps ih=>
  rw[br,br,br];by_cases c:p.nm=r.1
  .rw [aB c,aB (show(p.nm,p.ow,p.wo,p.we).1=r.1 from c),lF,lF];by_cases d:p.wo-r.2=0
   .rw [aA (by simpa using d),aA (by simpa using d),ih]
   .rw [aB (by simpa using d),aB (by simpa using d),br,ih]
  .rw [aA c,aA (show ¬ (p.nm,p.ow,p.wo,p.we).1=r.1 from c),lF,lF];by_cases d:p.wo=0
   .rw [aA (by simpa using d),aA (by simpa using d),ih]
   .rw [aB (by simpa using d),aB (by simpa using d),br,ih]
def LR(st:HS)(kept whole:Int)(added:Cl Int):f7 (aT st kept whole added)=f7 st:=by unfold f7 aT;rw[ir,gY];rfl
theorem Aq:∀(rs:Cl Row)(st:HS),f7 (rs.foldl cE st)=rs.foldl mZ (f7 st)
 | [],_=>rfl
 | r::rs,st=>by rw[j8,j8,Aq rs,N6]
def Gi(st:HS)(rs:Cl Row):(bX st rs).own=st.own:=by
 unfold bX;have:∀(rs:Cl Row)(s:HS),(rs.foldl cE s).own=s.own:=λrs=>by
  induction rs with
  | nil=>intro s;rfl
  | cons r rs ih=>intro s;rw[j8,ih];rfl
 rw[this];unfold aT;rw[vG]
theorem l_:∀(rs:Cl Row)(s:HS),rs.foldl cE s={ s with ah:=(rs.foldl cE s).ah }
 | [],_=>rfl
 | r::rs,s=>by rw[j8,l_ rs (cE s r)];rfl
theorem nT{f:Int->Int->Int}(hf:f 0 0=0){xs ys:Cl Int}(h:xs.length=ys.length)(j:Nat):(List.zipWith f xs ys).getD j 0=f (xs.getD j 0) (ys.getD j 0):=by
 rw[dP,dP,dP,tS];by_cases c:j<xs.length
 .rw [a_ c,a_ (by omega)];rfl
 .rw [rX (by omega),rX (by omega)];exact hf.symm
def cA(rs:Cl Row)(f:Str->Int):Int:=(rs.map λr=>r.2*f r.1).sum
theorem yI{st:HS}:∀(rs:Cl Row)(Ap:Cl Int),(∀r∈rs,(aL st (bF st r.1)).length=Ap.length)->∀j,(p8 st Ap rs).getD j 0=Ap.getD j 0+cA rs λx=>(aL st (bF st x)).getD j 0
 | [],Ap,_,j=>by show Ap.getD j 0=_+0;omega
 | r::rs,Ap,h,j=>by
  have hr:=h r cD;have e:(List.zipWith (λx t=>x+r.2*t) Ap (aL st (bF st r.1))).length=Ap.length:=by rw[gx,hr];omega
  show(p8 st (List.zipWith (λx t=>x+r.2*t) Ap (aL st (bF st r.1))) rs).getD j 0=_;rw[yI rs _ (λx hx=>by rw[e];exact h x (ck _ hx)),nT (f:=λx t=>x+r.2*t) (by show(0:Int)+r.2*0=0;omega) hr.symm];unfold cA;rw[br,bV];show Ap.getD j 0+r.2*(aL st (bF st r.1)).getD j 0+(rs.map λr=>r.2*(aL st (bF st r.1)).getD j 0).sum=Ap.getD j 0+(r.2*(aL st (bF st r.1)).getD j 0+(rs.map λr=>r.2*(aL st (bF st r.1)).getD j 0).sum)
  omega
theorem Gj:∀(rs:Cl Row){s:HS}{p':Pt},p'∈(rs.foldl cE s).ah->∃p∈s.ah,p'.nm=p.nm/\p'.row=p.row/\p'.sc=p.sc
 | [],_,p',h=>⟨p',h,Z,Z,Z⟩
 | r::rs,s,p',h=>by obtain⟨p,hp,e1,e2,e3⟩:=Gj rs (s:=cE s r) h;obtain⟨_,q,hq,e⟩:=qD hp;refine⟨q,hq,?_⟩;rw[e1,e2,e3,e];split <;> exact⟨Z,Z,Z⟩
theorem vI{st st':HS}{kept whole lost:Int}{added:Cl Int}(wf:Wf st)(bl:l9 st kept whole lost added)(ec:st'.aW=(aT st kept whole added).aW)(ep:st'.prod=(aT st kept whole added).prod){p':Pt}(hp:p∈st.ah)(e2:p'.row=p.row)(e3:p'.sc=p.sc*kept / bq st kept whole added){t0 gB B:Int}{j:Nat}(tj:t0*st.prod=(aL st p).getD j 0*B)(eB:gB*st.prod=added.getD j 0*B):(t0*kept+gB)*st'.prod=(aL st' p').getD j 0*(B*whole):=by
 obtain⟨hd,C_,hds,hdc⟩:=bl.dvds
 have abM:st'.aW=(dY st kept added).map (· / bq st kept whole added):=by rw[ec];unfold aT;rw[C4]
 have s1:1<=whole / bq st kept whole added:=by
  have w1:0<whole:=by have:=bl.l;have:=bl.w;have:=bl.k;omega
  have:=zC w1 C_;exact K5 hd (by omega)
 have Ar:st'.prod=st.prod*(whole / bq st kept whole added):=by rw[ep];unfold aT;rw[p7 s1]
 have hds:=hds p hp
 have hrl:=wf.rows p hp
 have hcl:=wf.dQ
 have gl:=bl.len
 have ewd:bq st kept whole added*(whole / bq st kept whole added)=whole:=K8 C_
 have a5:bq st kept whole added*p'.sc=p.sc*kept:=by rw[e3];exact K8 hds
 rw[Ar]
 clear ec ep Ar e3 bl C_ hds s1
 generalize bq st kept whole added=d at *
 have etop:d*(aL st' p').getD j 0=(aL st p).getD j 0*kept+added.getD j 0:=by
  have a1:(aL st' p').getD j 0=p'.sc*p.row.getD j 0+((dY st kept added).map (· / d)).getD j 0:=by unfold aL;rw[abM,e2,nT (f:=λr c=>p'.sc*r+c) (by show p'.sc*0+0=0;omega)];rw[aH];unfold dY;rw[gx,gl,hrl,hcl];omega
  have a2:(aL st p).getD j 0=p.sc*p.row.getD j 0+st.aW.getD j 0:=by unfold aL;exact nT (f:=λr c=>p.sc*r+c) (by show p.sc*0+0=0;omega) (by rw[hrl,hcl]) j
  have a3:(dY st kept added).getD j 0=st.aW.getD j 0*kept+added.getD j 0:=by unfold dY;exact nT (f:=λt m=>t*kept+m) (by show(0:Int)*_+0=0;omega) gl.symm j
  have a4:d*((dY st kept added).map (· / d)).getD j 0=(dY st kept added).getD j 0:=by
   rw[dP,dP,cz];cases ec:(dY st kept added)[j]? with
   | none=>show _*0=(0:Int);omega
   | some x=>exact K8 (hdc x (cg ec))
  rw[a1,pV,<-gy,a5,a4,a3,a2]
  grind
 generalize whole / d=N7 at *
 generalize (aL st' p').getD j 0=T' at *
 generalize (aL st p).getD j 0=T at *
 generalize added.getD j 0=gS at *
 refine KQ (a:=d) (by omega) ?_
 have l1:d*((t0*kept+gB)*(st.prod*N7))=(t0*st.prod*kept+gB*st.prod)*(d*N7):=by grind
 have l2:d*(T'*(B*whole))=(d*T')*(B*whole):=by grind
 rw[l1,l2,ewd,tj,eB,etop]
 grind
theorem yd:∀{l:Cl Int}{i:Nat}{x:Int},i<l.length->(l.set i (l.getD i 0+x)).sum=l.sum+x
 | a::l,0,x,_=>by rw[List.set_cons_zero,bV,bV];show a+x+_=_;omega
 | a::l,i+1,x,h=>by rw[List.set_cons_succ,bV,bV];have:=yd (l:=l) (i:=i) (x:=x) (by simpa using h);have e:(a::l).getD (i+1) 0=l.getD i 0:=rfl;rw[e,this];omega
 | [],_,_,h=>by simp at h
theorem Ka(k:Int):∀{ts gs:Cl Int},ts.length=gs.length->(List.zipWith (λt g=>t*k+g) ts gs).sum=ts.sum*k+gs.sum
 | [],[],_=>by simp
 | t::ts,g::gs,h=>by have:=Ka k (ts:=ts) (gs:=gs) (by simpa using h);rw[ym,bV,bV,bV,this,ud];omega
 | [],_::_,h=>by simp at h
 | _::_,[],h=>by simp at h
def T9(st:HS)(rs:Cl Row):(bX st rs).kn<=st.kn:=by
 unfold bX;rw[l_];show(aT st (aq st-aJ rs) (aq st) (bP st rs)).kn<=st.kn;unfold aT dJ;split
 .exact gP _
 .exact aO _
def Gk(n:Nat):(List.replicate n (0:Int)).sum=0:=by
 induction n with
 | zero=>rfl
 | succ n ih=>rw[u5,bV,ih];rfl
theorem uC:∀(l:Cl Str)(st:HS),st.ah=[]->(∀u∈st.bN,u=0)->(l.foldl dm st).ah=[]/\(l.foldl dm st).nms=st.nms/\(l.foldl dm st).stp=st.stp/\(l.foldl dm st).prod=st.prod/\(l.foldl dm st).dN=st.dN/\∀u∈(l.foldl dm st).bN,u=0
 | [],_,h,hp=>⟨h,Z,Z,Z,Z,hp⟩
 | o::l,st,h,hp=>by
  rw[j8];exact uC l (dm st o) (by show st.ah.map _=[];rw[h];rfl) (λu hu=>by
   rcases eE.mp (show u∈st.bN++[0]from hu)with z|z
   .exact hp u z
   .exact eU.mp z)
def rO(K:Fg)(ρ:gu)(H:Hp)(z:Addr)(xs:Cl V):Prop:=∀(ρ':gu)(H':Hp),aE (out ρ H) (out ρ' H')->aI K H' z xs
def rO.of(h:aI K H z xs):rO K (λ_=>none) H z xs:=λρ' H' s=>by
 rcases h with(h|⟨o,h⟩)|h
 .exact .inl (.inl (lJ (s _ _ (qu h rfl))).1)
 .exact .inl (.inr ⟨o,(lJ (s _ _ (qu h rfl))).1⟩)
 .exact .inr h
def rO.go(h:rO K ρ H z xs)(s:aE (out ρ H) (out ρ' H')):rO K ρ' H' z xs:=λ_ _ s'=>h _ _ (s.trans s')
def aI.outs(h:aI K H z xs)(c:ρ z=none)(s:aE (out ρ H) (out ρ' H')):aI K H' z xs:=by
 rcases h with(h|⟨o,h⟩)|h
 .exact .inl (.inl (lJ (s _ _ (qu h c))).1)
 .exact .inl (.inr ⟨o,(lJ (s _ _ (qu h c))).1⟩)
 .exact .inr h
theorem Gm:∀(l:Cl Str)(st:HS),(l.foldl dm st).kn=st.kn
 | [],_=>rfl
 | o::l,st=>by rw[j8,Gm l];rfl
structure dw(K:Fg)(x:Str)(st:Stmt):Prop where
 ex:∃(f:Addr)(oc:Value)(od an:Option Addr)(sl:Array (Option Value))(kV dc pm cd ct:Value),PySem.W.nsIn K mainGlobals x=some (some (.ref f))/\K.lookup f=some ⟨oc,od,.func (PySem.W.fnOf x x (dS st) (cN st) (aC st) .none kV dc pm an cd ct),sl⟩/\PySem.W.codeIn K cd x=true/\PySem.W.keepIn K (.ref f)=true
def dw.at{st:Stmt}(d:dw K x st)(X:K.In h)(G:h.Ns mainGlobals mg):∃f fd,At K mg x st f fd:=by obtain⟨f,oc,od,an,sl,kV,dc,pm,cd,ct,a,l,c,k⟩:=d.ex;exact⟨f,_,RP X G a l c k⟩
structure c9(K:Fg)(C:Addr)(n qual:Str)(st:Stmt):Prop where
 ex:∃(f:Addr)(oc:Value)(od an:Option Addr)(sl:Array (Option Value))(kV dc pm cd ct:Value),PySem.W.findIn K (.ref C) n=some (some (.ref f))/\PySem.W.isFn K (.ref f)=true/\K.lookup f=some ⟨oc,od,.func (PySem.W.fnOf n qual (dS st) (cN st) (aC st) .none kV dc pm an cd ct),sl⟩/\PySem.W.codeIn K cd qual=true/\PySem.W.keepIn K (.ref f)=true
def c9.at{n:Str}{st:Stmt}(d:c9 K C n qual st)(cl:mO K C):∃f fd,jw K C n qual st f fd:=by obtain⟨f,oc,od,an,sl,kV,dc,pm,cd,ct,a,i,l,c,k⟩:=d.ex;exact⟨f,_,Fd l c k,⟨a,i,k⟩,cl⟩
def c9.made{st:Stmt}(d:c9 K C "__init__" qual st)(X:K.In h)(G:h.Ns mainGlobals mg)(a0:PySem.W.nsIn K mainGlobals x=some (some (.ref C)))(m:PySem.W.makesIn K C=true)(kc:PySem.W.keepIn K (.ref C)=true):∃f fd,CS K mg x C qual st f fd:=by obtain⟨f,oc,od,an,sl,kV,dc,pm,cd,ct,a,i,l,c,k⟩:=d.ex;exact⟨f,_,Fd l c k,⟨m,a,i,kc⟩,t_ X G a0⟩
variable {oc pm ct:Value}{od an:Option Addr}{sl:Array (Option Value)}
def dw.of{st:Stmt}{kV dc cd:Value}(a:PySem.W.nsIn K mainGlobals x=some (some (.ref f)))(l:K.lookup f=some ⟨oc,od,.func (PySem.W.fnOf x x (dS st) (cN st) (aC st) .none kV dc pm an cd ct),sl⟩)(c:PySem.W.codeIn K cd x=true)(k:PySem.W.keepIn K (.ref f)=true):dw K x st:=⟨⟨_,_,_,_,_,_,_,_,_,_,a,l,c,k⟩⟩
def c9.of{n:Str}{st:Stmt}{kV dc cd:Value}(a:PySem.W.findIn K (.ref C) n=some (some (.ref f)))(i:PySem.W.isFn K (.ref f)=true)(l:K.lookup f=some ⟨oc,od,.func (PySem.W.fnOf n qual (dS st) (cN st) (aC st) .none kV dc pm an cd ct),sl⟩)(c:PySem.W.codeIn K cd qual=true)(k:PySem.W.keepIn K (.ref f)=true):c9 K C n qual st:=⟨⟨_,_,_,_,_,_,_,_,_,_,a,i,l,c,k⟩⟩
def yJ:fillsNumberSlot (.type "tuple") "mul"=pure false:=PySem.fillsNumberSlot_seq (id:="tuple.__mul__") (r:=some (.builtin "tuple.__rmul__")) Em.lookup (by decide +kernel) F.slot_tuple_rmul.lookup (by decide +kernel)
def Gn:seqRepeat? (.type "tuple")=pure (some (.builtin "tuple.__mul__")):=by unfold seqRepeat?;rw[PySem.seqSlot_of (T:="tuple") (name:="__mul__") (id:="tuple.__mul__") Em.lookup (by decide +kernel),PySem.seqSlot_of (T:="tuple") (name:="__rmul__") (id:="tuple.__rmul__") F.slot_tuple_rmul.lookup (by decide +kernel)];rfl
def BV(a:Int)(t:Tok)(l:Addr)(items:Array Value)(n:Nat)(dd:Option Addr)(sl:Array (Option Value)):Meets (Builtin.«int.__rmul__» ⟨[.int a t,.ref l],[]⟩) (λ_ R s=>s.heap.get? l=some { cls:=.type "tuple",dict:=dd,data:=.seq items n,slots:=sl }/\R (.ok (.ret Value.notImplemented)) s):=.of_wp λprog w A R s h=>by obtain⟨hp,g,d,tk,os⟩:=s;obtain⟨hl,h⟩:=h;wp_walk;exact⟨_,Z,h⟩
def LS(l:Addr)(items:Array Value)(n:Nat)(dd:Option Addr)(sl:Array (Option Value))(u:Tok):Meets (Builtin.«tuple.__mul__» ⟨[.ref l,.int 1 u],[]⟩) (λ_ R s=>s.heap.get? l=some { cls:=.type "tuple",dict:=dd,data:=.seq items n,slots:=sl }/\R (.ok (.ret (Value.ref l))) { s with heap:=s.heap,toks:=s.toks }):=.of_wp λprog w A R s h=>by
 obtain⟨hp,g,d,tk,os⟩:=s;obtain⟨hl,h⟩:=h;have f1:=AutoSeq1.idx_int;have f2:=AutoSeq1.sub_tuple_tuple
 wp_walk using KW hl;exact⟨_,Z,h⟩
def LU(l:Addr)(items:Array Value)(n:Nat)(dd:Option Addr)(sl:Array (Option Value))(x:Int)(u:Tok)(h0:¬ (items.isEmpty || x==1)=true)(h2:¬ (decide (x<=0) || items.isEmpty)=true)(h3:¬ (decide (x < -2 ^ 63) || decide (x≥2 ^ 63))=true)(h4:¬ (items.size:Int)*x>(2 ^ 63-1) / 8)(h5:¬ Builtin.Tuple.tupleTooMany ((items.size:Int)*x)=true)(h6:(List.foldl (λx1 x2=>x1++x2) #[] (List.replicate x.toNat items)).size<=sizeLine):
  Meets (Builtin.«tuple.__mul__» ⟨[.ref l,.int x u],[]⟩) (λ_ R s=>s.heap.get? l=some { cls:=.type "tuple",dict:=dd,data:=.seq items n,slots:=sl }/\
   R (.ok (.ret (Value.ref s.heap.objs.size))) { s with heap:=s.heap.push { cls:=Value.type "tuple",data:=Data.seq ((List.replicate x.toNat items).foldl (·++·) #[]) },toks:=s.toks }):=
 .of_wp λprog w A R s h=>by
  obtain⟨hp,g,d,tk,os⟩:=s;obtain⟨hl,h⟩:=h;have f1:=AutoSeq1.idx_int;have f2:=AutoSeq1.sub_tuple_tuple
  wp_walk using KW hl
  rw[aA h3]
  wp_walk using KW hl
  rw[aA h4]
  wp_walk using KW hl
  exact⟨_,Z,h⟩
section
variable {X:Cx}
inductive Zh(K:Fg)(x:V)(y:V)(H:Hp)(Q:VK):Prop
 |mk(a k xs:_)(_:x =.ref a)(_:y =.int k)(_:bR K H a xs)(_:xs≠[])(_:1<=k)(_:xs.length*k.toNat<=sizeLine)(_:(k=1->Q (.ref a) H))(_:(k≠1->∀p,H p=none->Q (.ref p) (upd H p (.tup (List.replicate k.toNat xs).flatten))))
theorem T_(K:Fg)(hK:X.K=K:=by rfl):gq X (binaryOp .Mult) (Zh K):=by
 subst hK;intro AC s σ H x y v u Q I rx ry h;obtain⟨a,k,xs,rfl,rfl,ha,hx,h1,hz,q1,q2⟩:=h;cases rx;obtain⟨t,rfl⟩:=ry;obtain⟨BT,r,p,hz0⟩:=I.tuple ha;obtain⟨⟨cls,dd,data,sl⟩,ho,hc,n,hd⟩:=id p;simp only at hc hd;subst hc hd;have hl:xs.length=BT.length:=r.length;have hne:BT≠[] :=λz=>hx (r.sR.mp z);have hpos:1<=BT.length:=List.length_pos_iff.mpr hne;refine wpAny_binaryOp_repeat_ref (T:="tuple") (U:="int") (by decide) ⟨_,ho,Z⟩ (λs'=>typeIs_int s' k t) yJ F.fills_int_mul En Gn F.slot_int_index.lookup
  (wM En (typeIs_int s k t) F.entry_int_rmul (F.args_int_rmul_2 _ _) (BV k t a BT.toArray n dd sl) ⟨ho,Z,⟨_,ho,Z⟩,?_⟩)
 by_cases hk:k=1
 .subst hk;exact wM Em ⟨_,ho,Z⟩ F.entry_tuple_mul (F.args_tuple_mul_2 _ _) (LS a BT.toArray n dd sl t) ⟨ho,⟨.ref a,H,I,Z,q1 rfl⟩⟩
 .have hnew:List.foldl (λx1 x2=>x1++x2) #[] (List.replicate k.toNat BT.toArray)=(List.replicate k.toNat BT).flatten.toArray:=by
   have:=foldl_rep BT k.toNat []
   rw[List.nil_append]at this;exact this
  have hsz:BT.length*k.toNat<=sizeLine:=by rw[<-hl];exact hz
  have hkk:(k.toNat:Int)=k:=Int.toNat_of_nonneg (by omega);have hk2:k.toNat<=BT.length*k.toNat:=Nat.le_mul_of_pos_left _ hpos;have hs:=gQ;have he:BT.toArray.isEmpty=false:=by cases BT with|nil=>exact absurd rfl hne|cons _ _=>rfl
  have hmul:(BT.toArray.size:Int)*k=((BT.length*k.toNat:Nat):Int):=by rw[fc,Int.natCast_mul,hkk]
  refine wM Em ⟨_,ho,Z⟩ F.entry_tuple_mul (F.args_tuple_mul_2 _ _) (LU a BT.toArray n dd sl k t ?_ ?_ ?_ ?_ ?_ ?_) ⟨ho,?_⟩
  .rw [he,Bool.false_or];simpa using hk
  .rw [he,Bool.or_false];simp;omega
  .simp;omega
  .rw [hmul];omega
  .rw [hmul];intro z;have:=ff z;omega
  .rw [hnew,fc,len_rep];rw[Nat.mul_comm];exact hsz
  .rw [hnew];refine⟨.ref s.heap.objs.size,_,I.laid (t':=s.toks) (o:=.tup (List.replicate k.toNat xs).flatten) (λb ob q=>bQ _ q) (aO _) ?_,Z,q2 hk _ (I.hok.fresh (aO _))⟩;exact⟨by rw[len_rep,Nat.mul_comm];exact hz,_,r.rep k.toNat,IsTup.new _ _⟩
inductive R7(K:Fg)(x:V)(y:V)(H:Hp)(Q:VK):Prop
 |mk(a b xs ys:_)(_:x =.ref a)(_:y =.ref b)(_:bR K H a xs)(_:bR K H b ys)(_:xs.length+ys.length<=sizeLine)(_:(xs=[]->Q (.ref b) H))(_:(xs≠[]->ys=[]->Q (.ref a) H))(_:(xs≠[]->ys≠[]->∀p,H p=none->Q (.ref p) (upd H p (.tup (xs++ys)))))
def Ua(K:Fg)(hK:X.K=K:=by rfl):gq X (binaryOp .Add) (R7 K):=by
 subst hK;intro AC s σ H x y v u Q I rx ry h;obtain⟨a,b,xs,ys,rfl,rfl,ha,hb,hz,q0,q1,q2⟩:=h;by_cases hx:xs=[]
 .cases rx;cases ry;obtain⟨BT,r1,ht,_⟩:=I.tuple ha;obtain⟨its2,r2,hb',_⟩:=I.tuple hb;obtain⟨⟨cls,dd,data,sl⟩,ho,hc,n,hd⟩:=id ht;obtain⟨⟨abt,dd2,data2,sl2⟩,ho2,hc2,n2,hd2⟩:=id hb';simp only at hc hd hc2 hd2;subst hc hd hc2 hd2;exact concat_meets ⟨_,ho,Z⟩ ⟨_,ho2,Z⟩ noFill_tuple_add seq_tuple_add PySem.F.slot_tuple_add PySem.F.entry_tuple_add (PySem.F.args_tuple_add_2 _ _)
   (tuple_addW0 a b BT.toArray its2.toArray n n2 dd dd2 sl sl2 (by rw[r1.sR.mpr hx];rfl)) ⟨ho,ho2,⟨.ref b,H,I,Z,q0 hx⟩⟩
 .exact S_ AC s σ H _ _ v u Q I rx ry ⟨a,b,xs,ys,Z,Z,ha,hb,hx,hz,q1 hx,q2 hx⟩
def LV(P:Program)(w:World)(K:Fg)(a:Addr)(y:V)(r:Option V):Prop:=(a==sysModules)=false/\∃(AT:Cl (Key×V))(vs:Cl (Key×Value))(k:Key)(o:Obj),y=kV k/\KV AT vs/\r=cJ AT k/\K.lookup a=some o/\o.IsDictOf (bZ P w) vs
inductive N8(P:Program)(w:World)(K:Fg)(Q:VK)(x:V)(y:V)(H2:Hp):Prop
 |mk(a v:_)(_:x =.ref a)(_:LV P w K a y (some v))(_:Q v H2)
def Ub(P:Program)(w:World)(K:Fg)(ty:TE)(σ:St)(Q:VK):V->Hp->Prop:=λx H1=>ty σ H1 (N8 P w K Q x)
def WJ(P:Program)(w:World)(K:Fg)(td ty:TE):TE:=λσ H Q=>td σ H (Ub P w K ty σ Q)
inductive QK(P:Program)(w:World)(K:Fg)(Q:VK)(y:V)(x:V)(H2:Hp):Prop
 |mk(a o:_)(_:x =.ref a)(_:LV P w K a y o)(_:Q (.bl o.isSome) H2)
def WK(P:Program)(w:World)(K:Fg)(td:TE)(σ:St)(Q:VK):V->Hp->Prop:=λy H1=>td σ H1 (QK P w K Q y)
def Zi(P:Program)(w:World)(K:Fg)(ty td:TE):TE:=λσ H Q=>ty σ H (WK P w K td σ Q)
variable {o i:Expr}{pos:Pos}{td ty:TE}
end
inductive Th where|s (cs:Cl Nat)|n (i:Int)
def Th.v:Th->V
 | .s cs=> .str (tx cs)
 | .n i=> .int i
def Th.ok:Th->Prop
 | .s cs=>cs.length<=1000
 | .n _=>True
inductive Kd where|nm|am|we
def Kd.s:Kd->Str
 | .nm=>"name"
 | .am=>"amount"
 | .we=>"weight"
def m5:Th->Kd->Bool
 | .s cs,.nm=>isName cs
 | .n i,.am=>decide (1<=i) && decide (i<=1000000000)
 | .n i,.we=>decide (0<=i) && decide (i<=1000000000)
 | _,_=>false
def vJ:Cl (Str×Cl Kd):=[("load",[.nm,.nm,.am,.we]),("award",[.nm,.am]),("mishap",[.nm,.am]),("rise",[.nm,.am]),("hand",[.nm,.nm]),("land",[.nm]),("sever",[.nm,.nm,.am,.we]),("still",[])]
def jC(fs:Cl (Str×Cl Kd))(x:Str):Option (Cl Kd):=(fs.find? λp=>decide (p.1=x)).map λp=>p.2
def m7(n:Nat):Cl Kd:=(List.replicate n [Kd.nm,Kd.am]).flatten
def formOf(x:Str)(n:Nat):Option (Cl Kd):=if x = "cast" then some (m7 (max 1 (n / 2))) else jC vJ x
def oV(th:Cl Th)(ks:Cl Kd):Bool:=decide (th.length=ks.length) && (List.zipWith m5 th ks).all id
def oW(x:Cl Nat)(th:Cl Th):Bool:=match formOf (tx x) (th.length+1)with
 | some ks=>oV th ks
 | none=>false
def As:Cl Value->Option (Cl Str)
 | []=>some []
 | .str x _::r=>(As r).map (x::·)
 | _::_=>none
theorem Au:∀{us:Cl Value}{xs:Cl Str},As us=some xs->Vals (xs.map V.str) us
 | [],_,h=>by cases h;exact .nil
 | u::r,xs,h=>by
  cases u with
  | str x t=>obtain⟨ys,hy,rfl⟩:=lE.mp (show(As r).map (x::·)=some xs from h);exact .cons ⟨t,Z⟩ (Au hy)
  | _=>exact nomatch h
structure TupAt(K:Fg)(a:Addr)(xs:Cl Str):Prop where
 ex:∃(c:Value)(d:Option Addr)(BT:Array Value)(n:Nat)(sl:Array (Option Value)),K.lookup a=some ⟨c,d,.seq BT n,sl⟩/\c =.type "tuple"/\As BT.toList=some xs/\BT.size<=100
theorem TupAt.sq{xs:Cl Str}(h:TupAt K a xs)(H:Hp):bR K H a (xs.map V.str):=by obtain⟨⟨c,d,BT,n,sl,h1,h2,h3,h4⟩⟩:=h;exact .inr ⟨_,BT,n,h1,h2,Z,by rw[gQ];omega,Au h3⟩
inductive FL(K:Fg):Cl (Str×Addr)->Cl (Str×Cl Kd)->Prop
 | nil:FL K [] []
 | cons {x:Str} {a:Addr} {ks:Cl Kd} {ps:Cl (Str×Addr)} {fs:Cl (Str×Cl Kd)}:TupAt K a (ks.map Kd.s)->FL K ps fs->FL K ((x,a)::ps) ((x,ks)::fs)
def sj(ps:Cl (Str×Addr)):Cl (Key×V):=ps.map λp=>(Sum.inr p.1,V.ref p.2)
def FL.get{ps:Cl (Str×Addr)}{fs:Cl (Str×Cl Kd)}(h:FL K ps fs)(x:Str):(cJ (sj ps) (Sum.inr x)=none/\jC fs x=none)\/∃a ks,cJ (sj ps) (Sum.inr x)=some (.ref a)/\jC fs x=some ks/\∀H,bR K H a ((ks.map Kd.s).map V.str):=by
 induction h with
 | nil=>exact .inl ⟨Z,Z⟩
 | @cons y a ks ps fs t _ ih=>
  by_cases e:y=x
  .subst e;refine .inr ⟨a,ks,?_,?_,t.sq⟩
   .unfold cJ sj;simp
   .unfold jC;simp
  .have e2:¬ (Sum.inr y:Key)=Sum.inr x:=λz=>e (mG z);have h1:cJ (sj ((y,a)::ps)) (Sum.inr x)=cJ (sj ps) (Sum.inr x):=by unfold cJ sj;simp[e2,e]
   have h2:jC ((y,ks)::fs) x=jC fs x:=by unfold jC;simp[e]
   rw[h1,h2];exact ih
def Gp:Value->Option Str
 | .str x _=>some x
 | _=>none
def ED(w:World)(ps:Cl (Str×Addr)):Cl (Int×Option Str×Value):=ps.map λp=>(PyData.keyHash w.params p.1,some p.1,Value.ref p.2)
theorem Dc{P:Program}{w:World}:∀{es:Cl DictEntry}{ps:Cl (Str×Addr)},es.map (λe=>(e.hash,Gp e.key,e.val))=ED w ps->(∀e∈es,∃k,(bZ P w).is k e.key=true/\e.hash=(bZ P w).hash k)/\Pairs (bZ P w) es (ps.map λp=>(Sum.inr p.1,Value.ref p.2))
 | [],[],_=>⟨(λ_ m=>nomatch m),.nil⟩
 | [],_::_,h=>by cases h
 | _::_,[],h=>by cases h
 | e::es,p::ps,h=>by
  have h':((e.hash,Gp e.key,e.val)::es.map (λe=>(e.hash,Gp e.key,e.val)))=(PyData.keyHash w.params p.1,some p.1,Value.ref p.2)::ED w ps:=h;injection h' with h1 h2;injection h1 with ha h1;injection h1 with hb hc;obtain⟨i1,i2⟩:=Dc (P:=P) h2;obtain⟨t,hk⟩:∃t,e.key =.str p.1 t:=by
   revert hb;cases e.key with
   | str x t=>intro hb;exact⟨t,by rw[fh hb]⟩
   | _=>intro hb;exact nomatch hb
  have is:(bZ P w).is (Sum.inr p.1) e.key=true:=by rw[hk];exact xQ P w p.1 t
  refine⟨λe' he=>?_,.cons is hc i2⟩;rcases cV.mp he with z|z
  .subst z;exact⟨Sum.inr p.1,is,ha⟩
  .exact i1 e' z
structure qc(w:World)(K:Fg):Prop where
 ex:∃(aF aP:Addr)(ps:Cl (Str×Addr))(c:Value)(d:Option Addr)(es:Array DictEntry)(n:Nat)(sl:Array (Option Value)),PySem.W.nsIn K mainGlobals "FORMS"=some (some (.ref aF))/\PySem.W.nsIn K mainGlobals "PAIR"=some (some (.ref aP))/\
  K.lookup aF=some ⟨c,d,.dict es n,sl⟩/\c =.type "dict"/\d=none/\sl=#[]/\es.toList.map (λe=>(e.hash,Gp e.key,e.val))=ED w ps/\(aF==sysModules)=false/\FL K ps vJ/\TupAt K aP ["name","amount"]
structure N9(P:Program)(w:World)(K:Fg)(aF aP:Addr):Prop where
 get:∀x:Str,∃r,LV P w K aF (.str x) r/\((r=none/\jC vJ x=none)\/∃a ks,r=some (.ref a)/\jC vJ x=some ks/\∀H,bR K H a ((ks.map Kd.s).map V.str))
 pair:∀H,bR K H aP [.str "name",.str "amount"]
def FL.keys{K:Fg}{ps:Cl (Str×Addr)}{fs:Cl (Str×Cl Kd)}(h:FL K ps fs):ps.map (·.1)=fs.map (·.1):=by
 induction h with
 | nil=>rfl
 | cons _ _ ih=>rw[br,br,ih]
def qc.at(f:qc w K)(X:K.In h)(G:h.Ns mainGlobals mg):∃aF aP,mg "FORMS"=some (.ref aF)/\mg "PAIR"=some (.ref aP)/\N9 P w K aF aP:=by
 obtain⟨aF,aP,ps,c,d,es,n,sl,h1,h2,h3,rfl,rfl,rfl,h4,h5,fl,tp⟩:=f.ex;refine⟨aF,aP,t_ X G h1,t_ X G h2,λx=>?_,λH=>tp.sq H⟩;obtain⟨i1,i2⟩:=Dc (P:=P) h4;have nd:(((ps.map λp=>((Sum.inr p.1:Key),Value.ref p.2))).map (·.1)).Nodup:=by
  rw[gY];have e:List.map ((λx=>x.1) ∘ λp:Str×Addr=>((Sum.inr p.1:Key),Value.ref p.2)) ps=(ps.map (·.1)).map Sum.inr:=by rw[gY];rfl
  rw[e,fl.keys];decide +kernel
 have kv:KV (sj ps) (ps.map λp=>((Sum.inr p.1:Key),Value.ref p.2)):=by
  unfold sj KV;clear h4 i1 i2 nd fl
  induction ps with
  | nil=>exact .nil
  | cons p ps ih=>exact .cons ⟨Z,Z⟩ ih
 refine⟨cJ (sj ps) (Sum.inr x),⟨h5,sj ps,_,Sum.inr x,_,Z,kv,Z,h3,es,n,⟨Z,Z,Z⟩,Z,λe he=>i1 e (by simpa using he),i2,nd⟩,fl.get x⟩
def Kc(K:Fg)(hK:X.K=K:=by rfl):Vy X (VB K):=hK▸VC
def IP:PySem.W.kitOne K (.type "int") (.type "str")=some false:=by rfl
def ye:PySem.W.kitOne K (.type "str") (.type "int")=some false:=by rfl
theorem N_(xs:Cl V)(k:Nat):BB xs (some (k:Int)) none=xs.drop k:=by
 unfold BB;rw[HT.PM,HT.JI];rcases Nat.le_total k xs.length with h|h
 .rw [Nat.min_eq_left h];exact KZ (by rw[List.length_drop];omega)
 .rw [Nat.min_eq_right h,List.drop_length,List.drop_of_length_le h,List.take_nil]
def Oa{f:Th->Kd->Bool}{xs:Cl Th}{ys:Cl Kd}{x:Th}{y:Kd}(h1:xs[i]?=some x)(h2:ys[i]?=some y):List.zipWith f (xs.take (i+1)) (ys.take (i+1))=List.zipWith f (xs.take i) (ys.take i)++[f x y] :=by rw[<-List.take_zipWith,<-List.take_zipWith,Lf];congr 1;rw[tS,h1,h2];rfl
def Gq{α β:Type}{g:α->β}{xs:Cl α}{v:β}(h:(xs.map g)[i]?=some v):∃x,v=g x/\xs[i]?=some x:=by rw[cz]at h;obtain⟨x,h1,h2⟩:=lE.mp h;exact⟨x,h2.symm,h1⟩
inductive Zj(vs:Cl V)(H:Hp)(Q:VK)(E:XK):Prop
 |mk(t:Th)(k:Kd)(_:vs=[t.v,.str k.s])(_:t.ok)(_:∀H',aE H H'->Q (.bl (m5 t k)) H')
def Gr:Sp:=bx (Zj)
def QL{t:Th}{k:Kd}{v u:V}(e:v=t.v)(e2:u =.str k.s)(ht:t.ok)(q:∀H',aE H H'->Q (.bl (m5 t k)) H'):Gr [v,u] H Q E:=⟨t,k,by rw[e,e2],ht,q⟩
def Gs(ds:Cl Th):Cl V:=ds.map Th.v
inductive WL(K:Fg)(vs:Cl V)(H:Hp)(Q:VK)(E:XK):Prop
 |mk(d:Addr)(x:Cl Nat)(th:Cl Th)(_:vs=[.ref d])(_:bR K H d (Gs (.s x::th)))(_:th.length<=1000)(_:(∀t∈th,t.ok))(_:∀H',aE H H'->Q (.bl (oW x th)) H')
def BW(K:Fg):Sp:=bx (WL K)
def Ob{x:Cl Nat}{th:Cl Th}(h:bR K H d (Gs (.s x::th)))(hl:th.length<=1000)(ok:∀t∈th,t.ok)(q:∀H',aE H H'->Q (.bl (oW x th)) H'):BW K [.ref d] H Q E:=⟨d,x,th,Z,h,hl,ok,q⟩
variable {c:Nat}
theorem LW(h1:97<=c)(h2:c<123):vn "abcdefghijklmnopqrstuvwxyz" c=true:=by
 have h:∀n:Nat,n<26->vn "abcdefghijklmnopqrstuvwxyz" (97+n)=true:=by decide +kernel
 have:=h (c-97) (by omega);rw[show 97+(c-97)=c by omega]at this;exact this
theorem fR.is{x:Cl Nat}(h:fR x):isName x=true:=by unfold isName;rw[cI (by have:=h.lo;omega),cI (by have:=h.hi;omega),q_,q_,mD];exact λc hc=>LW (h.BI c hc).1 (h.BI c hc).2
def wd(y:Str):Cl Nat:=y.cps.toList
def Zk(y:Str):tx (wd y)=y:=Nv y
def LX:Th->Prop
 | .s cs=>fR cs
 | .n i=>0<=i/\i<=1000000000
theorem LX.ok{t:Th}(h:LX t):t.ok:=by
 cases t with
 | s cs=>have:=fR.hi (show fR cs from h);show cs.length<=1000;omega
 | n i=>exact True.intro
def WM:Cl Str:=["load","award","mishap","rise","hand","land","sever","still","cast"]
structure WN(x:Cl Nat)(th:Cl Th):Prop where
 word:∃y∈WM,x=wd y
 snd:oW x th=true
 len:th.length<=200
 good:∀t∈th,LX t
def Oc{y:Str}{ks:Cl Kd}{th:Cl Th}(hy:formOf y (th.length+1)=some ks)(hf:oV th ks=true):oW (wd y) th=true:=by unfold oW;rw[Zk,hy];exact hf
def WO{a:Cl Nat}(h:fR a):m5 (.s a) .nm=true:=h.is
def WQ{i:Int}(h:1<=i)(h2:i<=1000000000):m5 (.n i) .am=true:=by show(decide (1<=i) && decide (i<=1000000000))=true;rw[cI h,cI h2];rfl
section
variable {a b:Cl Nat}{m v:Int}(ha:fR a)(hb:fR b)(hm:1<=m)(hm2:m<=1000000000)(hv:0<=v)(hv2:v<=1000000000)
include ha hb hm hm2 hv hv2 in
end
def m8(ps:Cl Pr):Cl Th:=ps.flatMap λp=>[.s p.1,.n p.2]
theorem vK(ps:Cl Pr):(m8 ps).length=2*ps.length:=by
 induction ps with
 | nil=>rfl
 | cons p ps ih=>show(m8 ps).length+1+1=2*(ps.length+1);omega
def IQ{ps:Cl Pr}(h:∀p∈ps,fR p.1/\1<=p.2/\p.2<=1000000000):(List.zipWith m5 (m8 ps) (m7 ps.length)).all id=true:=by
 induction ps with
 | nil=>rfl
 | cons p ps ih=>have h1:=h p cD;show(m5 (.s p.1) .nm && (m5 (.n p.2) .am && (List.zipWith m5 (m8 ps) (m7 ps.length)).all id))=true;rw[WO h1.1,WQ h1.2.1 h1.2.2,ih λq hq=>h q (ck _ hq)];rfl
theorem LY(n:Nat):(m7 n).length=2*n:=by unfold m7;rw[len_rep];show n*2=_;omega
theorem anyC{ps:Cl Pr}(h:∀p∈ps,fR p.1/\1<=p.2/\p.2<=1000000000)(h0:1<=ps.length)(h1:ps.length<=100):WN (wd "cast") (m8 ps):=by
 have e:max 1 (((m8 ps).length+1) / 2)=ps.length:=by rw[vK];omega
 refine⟨⟨_,by decide +kernel,Z⟩,Oc (ks:=m7 ps.length) (by unfold formOf;rw[aB rfl,e]) ?_,by rw[vK];omega,λt ht=>?_⟩
 .unfold oV;rw[cI (by rw[vK,LY]),IQ h];rfl
 .obtain ⟨p,hp,hm⟩:=List.mem_flatMap.mp ht;simp at hm;have h1:=h p hp;rcases hm with rfl|rfl
  .exact h1.1
  .exact ⟨by omega,h1.2.2⟩
def TupAt.of{xs:Cl Str}{c:Value}{d:Option Addr}{BT:Array Value}(l:K.lookup a=some ⟨c,d,.seq BT n,sl⟩)(e:c =.type "tuple"/\As BT.toList=some xs/\BT.size<=100):TupAt K a xs:=⟨c,d,BT,n,sl,l,e⟩
def qc.of{aF aP a1 a2 a3 a4 a5 a6 a7 a8:Addr}{c:Value}{d:Option Addr}(h1:PySem.W.nsIn K mainGlobals "FORMS"=some (some (.ref aF)))(h2:PySem.W.nsIn K mainGlobals "PAIR"=some (some (.ref aP)))(h3:K.lookup aF=some ⟨c,d,.dict es n,sl⟩)(h4:c =.type "dict"/\d=none/\sl=#[])(h5:es.toList.map (λe=>(e.hash,Gp e.key,e.val))=ED w [("load",a1),("award",a2),("mishap",a3),("rise",a4),("hand",a5),("land",a6),("sever",a7),("still",a8)])(h6:(aF==sysModules)=false)(t1:TupAt K a1 ["name","name","amount","weight"])(t2:TupAt K a2 ["name","amount"])(t3:TupAt K a3 ["name","amount"])(t4:TupAt K a4 ["name","amount"])(t5:TupAt K a5 ["name","name"])(t6:TupAt K a6 ["name"])(t7:TupAt K a7 ["name","name","amount","weight"])(t8:TupAt K a8 [])(tP:TupAt K aP ["name","amount"]):qc w K:=
 ⟨aF,aP,_,c,d,es,n,sl,h1,h2,h3,h4.1,h4.2.1,h4.2.2,h5,h6,.cons t1 (.cons t2 (.cons t3 (.cons t4 (.cons t5 (.cons t6 (.cons t7 (.cons t8 (.nil)))))))),tP⟩
section
variable {X:Cx}
end
section
variable {X:Cx}
end
section
variable {P:Program}{w:World}{K:Fg}{mg:SO}{base:Heap}{N:Cl Str}{qual:Str}{scope:Scope}{f:Addr}{cd:Value}{A:Around}{outer:Cl Env}{s0:Shared}{H0:Hp}{E:XK}{CX:vc}
end
section
variable {P:Program}{w:World}{K:Fg}{mg:SO}{base:Heap}{N:Cl Str}{qual:Str}{scope:Scope}{f:Addr}{cd:Value}{A:Around}{outer:Cl Env}{s0:Shared}{H0:Hp}{E:XK}
end
section
variable {X:Cx}{AC:AO}{σ:St}{Hc H:Hp}{sc s:Shared}{x C:Addr}{fl:Value}
end
section
variable {X:Cx}{AC:AO}{σ:St}{Hc H:Hp}{sc s:Shared}{x C:Addr}{fl:Value}
end
section
variable {X:Cx}{AC:AO}{σ:St}{Hc H:Hp}{sc s:Shared}{x C:Addr}{fl:Value}
end
open PySem.W PySem.Calls Builtin.ObjectAttr Builtin.Getset_descriptor
section
variable {prog:Program}{w:World}{A:Around}{E:VS}{h:Heap}{g:Array GenState}{d:Drawn}{t:Nat}{os:OsState}{x C:Addr}{o:Obj}{K:Frag}{R:Result->Shared->Prop}
end
section
end
structure Ec where
 (bad twice Zl WR Zm WS abN rows deed Zn aeN:Addr)
section
end
section
variable {P:Program}{w:World}{K:Fg}{mg:SO}{base:Heap}{N:Cl Str}{qual:Str}{scope:Scope}{f:Addr}{cd:Value}{A:Around}{outer:Cl Env}{s0:Shared}{H0:Hp}{E:XK}
end
section
variable {X:Cx}
end
def Ec.at(e:Ec):Nat->Addr
 | 0=>e.bad|1=>e.twice|2=>e.Zl|3=>e.WR|4=>e.Zm|5=>e.WS|6=>e.abN|7=>e.rows|8=>e.deed|_=>e.Zn
def Rf(e:Ec)(E:XK)(H:Hp)(i:Nat):Prop:=∀x H',aE H H'->E (.ref x) (some (e.at i)) H'
def newR(st:HS)(x:Str):Option Nat:=if isNm x=true then(if x∈st.nms then some 1 else none) else some 0
def Av(st:HS)(o:Str):Option Nat:=if isNm o=true then(if o∈st.own then some 1 else none) else some 0
def Aw(st:HS)(x o:Str)(wo we:Int):Option Nat:=match newR st x with
 | some i=>some i
 | none=>if o∈st.own then(if wo<1\/we<0 then some 5 else none) else some 2
inductive Uc(T:TC)(e:Ec)(vs:Cl V)(H:Hp)(Q:VK)(E:XK):Prop
 |mk(n ρ A st o:_)(_:vs=[.ref A.a,.str o])(_:aR T n ρ A H st)(_:(o∉st.own->Rf e E H 2))(_:(o∈st.own->Q (.int (st.own.idxOf o:Int)) H))
def Gu(T:TC)(e:Ec):Sp:=bx (Uc T e)
inductive QM(T:TC)(e:Ec)(vs:Cl V)(H:Hp)(Q:VK)(E:XK):Prop
 |mk(n ρ A st x:_)(_:vs=[.ref A.a,.str x])(_:aR T n ρ A H st)(_:(st.ah.map (·.nm)).Nodup)(_:((∀p∈st.ah,p.nm≠x)->Rf e E H 3))(_:∀(i:Nat) (p:Pt) (q:Addr×Addr×Addr),p.nm=x->st.ah[i]?=some p->A.qs[i]?=some q->Q (.ref q.1) H)
def De(T:TC)(e:Ec):Sp:=bx (QM T e)
inductive LZ(T:TC)(e:Ec)(vs:Cl V)(H:Hp)(Q:VK)(E:XK):Prop
 |mk(n ρ A st x:_)(_:vs=[.ref A.a,.str x])(_:aR T n ρ A H st)(_:x.cps.toList.length<=100000)(_:(∀i,newR st x=some i->Rf e E H i))(_:(newR st x=none->∀H',aE H H'->Q .b8 H'))
def yf(T:TC)(e:Ec):Sp:=bx (LZ T e)
def Df(h1:isNm x=true)(h2:x∉st.nms):newR st x=none:=by unfold newR;rw[aB h1,aA h2]
theorem L1{o:Str}(h1:isNm x=true)(h2:x∉st.nms)(h3:o∈st.own)(h4:1<=wo)(h5:0<=we):Aw st x o wo we=none:=by unfold Aw;rw[Df h1 h2];show(if o∈st.own then _ else _)=_;rw[aB h3,aA (by omega)]
inductive Dd where
 | sign (o:Str)|load (x o:Str) (wo we:Int)|cast (rs:Cl Row)|award (o:Str) (a:Int)|mishap (x:Str) (a:Int)|rise (x:Str) (a:Int)|hand (x o:Str)|land (x:Str)|sever (x y:Str) (a we:Int)|still
def f_:Cl Row->Cl V
 | []=>[]
 | r::rs=> .str r.1 :: .int r.2::f_ rs
def Dd.v:Dd->Cl V
 | .sign o=>[.str "sign",.str o]
 | .load x o wo we=>[.str "load",.str x,.str o,.int wo,.int we]
 | .cast rs=> .str "cast"::f_ rs
 | .award o a=>[.str "award",.str o,.int a]
 | .mishap x a=>[.str "mishap",.str x,.int a]
 | .rise x a=>[.str "rise",.str x,.int a]
 | .hand x o=>[.str "hand",.str x,.str o]
 | .land x=>[.str "land",.str x]
 | .sever x y a we=>[.str "sever",.str x,.str y,.int a,.int we]
 | .still=>[.str "still"]
def iu(st:HS):Cl Str:=st.ah.map λp=>p.nm
def uD(st:HS)(r:Row):Option Nat:=if r.1∈iu st then(if r.2<1 then some 5 else if(bF st r.1).wo<r.2 then some 6 else none) else some 3
def m9(st:HS)(rs:Cl Row):Option Nat:=if rs≠[]/\(rs.map λr:Row=>r.1).Nodup then(match rs.findSome? (uD st)with
 | some i=>some i
 | none=>if aq st<=aJ rs then some 6 else none) else some 7
def Ax(st:HS)(o:Str)(a:Int):Option Nat:=if o∈st.own then(if a<1 then some 5 else if aq st<=a then some 6 else none) else some 2
def EE(st:HS)(x:Str)(a:Int):Option Nat:=if x∈iu st then(if a<1 then some 5 else none) else some 3
def EF(st:HS)(x o:Str):Option Nat:=if x∈iu st then(if o∈st.own then none else some 2) else some 3
def Ay(st:HS)(x:Str):Option Nat:=if x∈iu st then none else some 3
def Az(st:HS)(x y:Str)(a we:Int):Option Nat:=if x∈iu st then(match newR st y with
 | some i=>some i
 | none=>if a<1\/we<0 then some 5 else if(bF st x).wo<=a\/(bF st x).we<we then some 6 else none) else some 3
def L3(st:HS):Dd->Option Nat
 | .sign o=>Av st o
 | .load x o wo we=>Aw st x o wo we
 | .cast rs=>m9 st rs
 | .award o a=>Ax st o a
 | .mishap x a=>uD st (x,a)
 | .rise x a=>EE st x a
 | .hand x o=>EF st x o
 | .land x=>Ay st x
 | .sever x y a we=>Az st x y a we
 | .still=>none
def Od(st:HS)(o:Str)(a:Int):HS:=aT st (aq st-a) (aq st) ((List.replicate st.own.length 0).set (st.own.idxOf o) (a*st.prod))
def vL(st:HS)(x:Str)(f:Pt->Pt):HS:={ st with ah:=st.ah.map λp=>if p.nm=x then f p else p }
def Zo(st:HS)(x:Str)(a:Int):HS:=vL st x λp=>{ p with wo:=p.wo+a }
def kY(st:HS)(p:Pt)(o:Str):Cl Int:=((aL st p).set (st.own.idxOf o) ((aL st p).getD (st.own.idxOf o) 0+(aL st p).getD (st.own.idxOf p.ow) 0)).set (st.own.idxOf p.ow) 0
def uE(st:HS)(x o:Str):HS:=if st.own.idxOf o=st.own.idxOf (bF st x).ow then st else vL st x λp=>{ p with ow:=o,sc:=1,row:=mX st (kY st p o) }
def oB(st:HS)(p:Pt):Cl Int:=List.zipWith (λu t=>u+p.wo*t) st.bN (aL st p)
def AA(st:HS)(x:Str):HS:={ st with ah:=st.ah.filter (λp=>decide (p.nm≠x)),dN:=st.dN++[⟨x,(bF st x).ow,(bF st x).wo,sW st (bF st x)⟩],kn:=st.kn+100,bN:=(oB st (bF st x)).set (st.own.idxOf (bF st x).ow) ((oB st (bF st x)).getD (st.own.idxOf (bF st x).ow) 0-(bF st x).wo*st.prod) }
def vM(st:HS)(x y:Str)(a we:Int):HS:=Af (vL st x λp=>{ p with wo:=p.wo-a,we:=p.we-we }) ⟨y,(bF st x).ow,a,we,(bF st x).sc,(bF st x).row⟩
def EG(st:HS):Dd->HS
 | .sign o=>dm st o
 | .load x o wo we=>Ag st x o wo we
 | .cast rs=>bX st rs
 | .award o a=>Od st o a
 | .mishap x a=>cE st (x,a)
 | .rise x a=>Zo st x a
 | .hand x o=>uE st x o
 | .land x=>AA st x
 | .sever x y a we=>vM st x y a we
 | .still=>st
def wl(s:Str):Nat:=s.cps.toList.length
section
variable {X:Cx}
end
theorem AB(h:isNm x=true):PyData.strOk x=true:=by
 unfold PyData.strOk;rw[Array.all_eq_true'];intro c hc;unfold isNm isName at h;have h1:=mD.mp (jM.mp h).2 c (by simpa using hc);rw[TL]at h1;have hm:=ff h1;have:∀c∈("abcdefghijklmnopqrstuvwxyz":Str).cps.toList,c<1000:=by decide +kernel
 have:=this c hm;exact cI (by omega)
section
variable {P:Program}{w:World}{K:Fg}{mg:SO}{base:Heap}{k:Nat}{T:TC}{e:Ec}{ps:Cl Str}
end
def nB(i:Int):Prop:=-1000000000<=i/\i<=1000000000
def WT:Dd->Prop
 | .sign o=>wl o<=20
 | .load x o wo we=>wl x<=20/\wl o<=20/\nB wo/\nB we
 | .cast rs=>rs.length<=60/\∀r∈rs,wl r.1<=20/\nB r.2
 | .award o a=>wl o<=20/\nB a
 | .mishap x a=>wl x<=20/\nB a
 | .rise x a=>wl x<=20/\nB a
 | .hand x o=>wl x<=20/\wl o<=20
 | .land x=>wl x<=20
 | .sever x y a we=>wl x<=20/\wl y<=20/\nB a/\nB we
 | .still=>True
theorem Oe:∀{l:Cl Int},(∀x∈l,0<=x)->0<=l.sum
 | [],_=>gR _
 | a::l,h=>by rw[bV];have:=h a cD;have:=Oe (l:=l) λx hx=>h x (ck _ hx);omega
theorem vN:∀(l m:Cl Row),f_ (l++m)=f_ l++f_ m
 | [],_=>rfl
 | r::l,m=>by
  show V.str r.1::V.int r.2::f_ (l++m)=V.str r.1::V.int r.2::(f_ l++f_ m)
  rw[vN l m]
theorem vO:∀l:Cl Row,(f_ l).length=2*l.length
 | []=>rfl
 | r::l=>by show(f_ l).length+1+1=_;rw[vO l,kC];omega
theorem BX(h:isNm x=true):wl x<=20:=by unfold isNm isName at h;have:=ff (jM.mp (jM.mp h).1).2;unfold wl;omega
theorem Dg{o:Str}(h:Aw st x o wo we=none):isNm x=true/\x∉st.nms/\o∈st.own/\1<=wo/\0<=we:=by
 unfold Aw at h;cases hn:newR st x with
 | some j=>rw[hn]at h;cases h
 | none=>
  rw[hn]at h;have h':(if o∈st.own then(if wo<1\/we<0 then some 5 else none) else some 2)=none:=h;have hx:isNm x=true/\x∉st.nms:=by
   unfold newR at hn;by_cases c:isNm x=true
   .rw [aB c]at hn;by_cases m:x∈st.nms
    .rw [aB m]at hn;cases hn
    .exact ⟨c,m⟩
   .rw [aA c]at hn;cases hn
  by_cases ho:o∈st.own
  .rw [aB ho]at h';by_cases hb:wo<1\/we<0
   .rw [aB hb]at h';cases h'
   .exact ⟨hx.1,hx.2,ho,by omega,by omega⟩
  .rw [aA ho]at h';cases h'
end L2
set_option autoImplicit true
namespace L2
open PySem PySem.Spec PyProof.Rows
structure bE(X:Cx)(e:Expr)(t:TE):Prop where h:PE X e t
structure bT(X:Cx)(e:Expr)(t:TT):Prop where h:PT X e t
structure bW(X:Cx)(e:Expr)(t:TT):Prop where h:PW X e t
structure bA(X:Cx)(es:Cl Expr)(t:TA):Prop where h:PA X es t
structure bS(X:Cx)(s:Stmt)(t:TS):Prop where h:PS X s t
structure cS(X:Cx)(s:Cl Stmt)(t:TS):Prop where h:rB X s t
structure bC(X:Cx)(op:CmpOp)(a b:Expr)(t:TE):Prop where h:PC X op a b t
structure bG(X:Cx)(e:Expr)(t:TG):Prop where h:PG X e t
structure R8(X:Cx)(e:Cl Expr)(t:zM):Prop where h:ZQ X e t
structure bI(X:Cx)(tg Bn:Expr)(wi:TI):Prop where h:PI X tg Bn wi
structure bO(X:Cx)(e:Option Expr)(t:TO):Prop where h:PO X e t
theorem bW.pt{X:Cx}{e:Expr}{t:TT}(h:bW X e t):bT X e t:=⟨h.h.pt⟩
def vP{op}{t:TE}(h:bE X a t):bE X (.BoolOp op [a] pos) t:=by have h:=h.h;exact⟨λAC s σ H Q I hw=>BoolOp_one (h AC s σ H Q I hw)⟩
def fq{e:Expr}{t:TE}(h:bE X e t)(he:∀whole,isTrue e X.env whole=(do let v <-whole;standAt e.pos;holding [v] (truthy v)):=by intro _;rfl):bT X e (tB t):=by have h:=h.h;constructor;intro AC s σ H Q I hw;refine isTrue_plain (aX (h AC s σ H _ I hw) λv s1 ⟨x,H1,I1,r1,q1⟩=>?_) (he _);obtain⟨d,rfl,q⟩:=q1;cases r1;exact yp ⟨H1,I1,q⟩
def aU{r:R2}(hr:uU X r)(ha:bE X a ta)(hb:bE X b tb)(hs:Tc b:=by exact λ_ _=>rfl):bE X (.Subscript a b pos) (RL r ta tb):=by have ha:=ha.h;have hb:=hb.h;constructor;intro AC s σ H Q I h;exact Subscript_ (Px ha hb I h λv u s2 x y H2 I2 rx ry q=>hr a b AC s2 σ H2 x y v u Q I2 rx ry q (hs _ _))
def Ke(h:bE X e te):bO X (some e) (YL te):=by have h:=h.h;constructor;intro AC s σ H Q I hw;rw[evalPart_some];refine aX (h AC s σ H _ I hw) λu s1 ⟨x,H1,I1,r1,q1⟩=>?_;obtain⟨i,rfl,q⟩:=q1;obtain⟨t,rfl⟩:=r1;exact⟨some i,H1,I1,.int i t,q⟩
def i8:R8 X [] U9:=by constructor;intro AC s σ H vs us Q I r h;obtain⟨e,h⟩:=h;subst e;cases r;exact assignInOrder_nil ⟨σ,H,I,h⟩
def Kf:bO X none S9:=by constructor;intro AC s σ H Q I h;rw[evalPart_none];exact aK ⟨none,H,I,.none,h⟩
def kZ{x:Str}{n:String}{pos:Pos}(hv:bootBuiltins x=some (.type n))(hg:Gl X x)(hm:X.mg x=none)(hn:x ≠ "__name__":=by decide)(hd:(x==("__debug__":Str))=false:=by decide):bE X (.Name x pos) (tC (.ty n)):=by exact⟨SN hg hm hv rfl hn hd⟩
def aV{i:Nat}{x:Str}(hN:X.N.Nodup)(hi:X.N[i]?=some x:=by rfl)(hx:Loc X.env.scope x:=by first|exact Or.inl rfl|exact Or.inr rfl)(hf:X.fn x=true\/X.env.scope.names.lookup x=some .local:=by first|exact .inl rfl|exact .inr rfl|assumption):bG X (.Name x pos) (oq i):=by constructor;intro AC s σ H v u Q I r h;exact wpAny_assign_Name (ug I hN hi hx r (λs' I'=>⟨_,H,I',h⟩) hf)
def yK{c:Expr}{body:Cl Stmt}{tc:TT}{tb:TS}(hp:PassesOwn (model X.prog X.w) X.A X.env X.xe)(hc:bT X c tc)(hb:cS X body tb):bS X (.While c body [] pos) (Vb tc tb):=by
 have hc:=hc.h;have hb:=hb.h;constructor;intro AC s σ H D I h;obtain⟨W,⟨m0,w0⟩,turn⟩:=h;refine wpAny_While (codeAny_whileLoop (λn s'=>∃σ' H',Inv X AC σ' H' s'/\W n σ' H') ?_ m0 ⟨σ,H,I,w0⟩);rintro n s1 ⟨σ1,H1,I1,w1⟩;refine tX hp (aX (hc AC s1 σ1 H1 _ I1 (turn n σ1 H1 w1)) λb s2 ⟨H2,I2,q2⟩=>?_);cases b with
 | true=>
  obtain⟨N,hN,q2⟩:=q2;rw[aB rfl];refine tX hp (aX (hb AC s2 σ1 H2 _ I2 q2) λf s3 q3=>?_);cases f with
  | next=>obtain⟨σ3,H3,I3,n3⟩:=q3;obtain⟨m',hm,w3⟩:=hN σ3 H3 n3;exact⟨m',hm,σ3,H3,I3,w3⟩
  | cont=>obtain⟨σ3,H3,I3,n3⟩:=q3;obtain⟨m',hm,w3⟩:=hN σ3 H3 n3;exact⟨m',hm,σ3,H3,I3,w3⟩
  | brk=>exact q3
  | ret v=>exact q3
 | false=>rw[aA d7];exact Eu ⟨σ1,H2,I2,q2⟩
def sY{tg:Expr}{ob:Expr}{td:TE}{Bz cpos:Pos}(hob:bE X ob td)(hbase:attributeBase ob "values" X.env (eval ob X.env)=eval ob X.env:=by rfl)(hline:(Bz.endLine==cpos.line)=true:=by rfl):bI X tg (.Call (.Attribute ob "values" Bz) [] [] cpos) (Y5 td):=by
 have hob:=hob.h;constructor;intro AC s σ H R I h;refine wpAny_Call_method0_late hbase hline (aX (hob AC s σ H _ I h) λv s1 ⟨x,H1,I1,r1,q1⟩=>?_);obtain⟨d,o,AT,rfl,e,fin⟩:=q1;cases r1;obtain⟨ho,hz,hsys,vs,ep,rel,da⟩:=I1.oz e;obtain⟨t1,t2,_⟩:=Fc I1 (.inl ⟨AT,.inr ⟨o,e⟩⟩);have dd:=da.dictOf;refine⟨"dict",_,F.plainAttrs_dict,K_,F.type_dict_values,t1,t2,K0 rfl (PySem.evalArgs_none ?_)⟩;refine call_meetsIn K_ dd.typeIs F.entry_dict_values (F.args_dict_values_1 _) (meets_dict_values (bZ X.prog X.w) d hsys) ⟨⟨vs,dd⟩,?_⟩;refine wpAny_pyIter_values (s:={ s1 with heap:=s1.heap.push { cls:=.type "dict_values",data:=.fields #[.ref d] } }) ⟨_,c_ _ rfl,Z,Z⟩ (da.push _) ?_;have Iv:Inv X AC σ H1 { s1 with heap:=s1.heap.push { cls:=.type "dict_values",data:=.fields #[.ref d] } }:=I1.kept (t':=s1.toks) λb o e=>bQ _ e;generalize ({ s1 with heap:=s1.heap.push { cls:=.type "dict_values",data:=.fields #[.ref d] } }:Shared)=sv at *;have I2:Inv X AC σ H1 { sv with heap:=sv.heap.push { cls:=.type "dict_valueiterator",data:=.fields #[.ref d,.int 0 0,.int vs.length 0,.int ep 0] } }:=Iv.kept (t':=sv.toks) λb o e=>bQ _ e;have hl:AT.length=vs.length:=rel.length;obtain⟨o',es,h1,_,h2,_⟩:=id da;rw[ho]at h1;cases h1;refine⟨sv.heap.objs.size,[sv.heap.objs.size],_,_,H1,Z,I2,NG h2,?_,λb hb=>?_,fin⟩
 .rw [hl];exact⟨_,c_ _ rfl,Z,Z⟩
 .have eb:b=sv.heap.objs.size:=by simpa using hb
  subst eb;exact Iv.yt (aO _) (Iv.hok.fresh (aO _))
def rP{id:String}(pa:PlainAttrs T)(slot:Slot T name id)(hty:typeOf (.builtin id)=pure (.type "method_descriptor"))(hm:MtR X id r)(ho:bE X o to)(ha:bA X (e::es) t)(hbase:attributeBase o name X.env (eval o X.env)=eval o X.env:=by rfl)(hfew:((backTo cpos (starEach (e::es) X.env)).all (λx=>!x.1) && (backToKw cpos (keywordEach [] X.env)).all (λx=>x.1.isSome)
   && decide ((e::es).length+([] :Cl Keyword).length+(if([] :Cl Keyword).isEmpty then 0 else 1)<30))=true:=by rfl)(hline:(Bz.endLine==cpos.line)=true:=by rfl)(hs:starEach (e::es) X.env=(false,eval e X.env)::starEach es X.env:=by rfl)(hplain:(backTo cpos (starEach es X.env)).any (·.1)=false:=by rfl):bE X (.Call (.Attribute o name Bz) (e::es) [] cpos) (tBM X.K T r to t):=by
 have ho:=ho.h;have ha:=ha.h;constructor
 intro AC s σ H Q I h
 refine wpAny_Call_method_late hbase hfew hline rfl (aX (ho AC s σ H _ I h) λv s1 ⟨x,H1,I1,r1,ty,q1⟩=>?_)
 obtain⟨h1,h2⟩:=VI I1 r1 ty
 refine⟨T,id,pa,slot,hty,h1,h2,?_⟩
 have hA:=ha cpos AC s1 σ H1 _ I1 q1
 rw[hs]at hA ⊢
 refine K0 (by show(false || (backTo cpos (starEach es X.env)).any (·.1))=false;rw[hplain] <;> rfl) (Calls.evalArgs_plain ?_)
 exact aX hA λus s2 ⟨vs,H2,I2,r2,q2⟩=>hm AC s2 σ H2 x vs v us Q I2 r1 r2 q2
def AD{X:Cx}{e:Expr}{t:TE}(h:bE X e t):bE X e (abG t):=by have h:=h.h;constructor;intro AC s σ H Q I hw;obtain⟨d,AT,e,hw⟩:=hw;obtain⟨ho,es,ep,h1,_⟩:=(EB I.hok e).2.2.choose_spec.2;have h0:=I.ND e;exact aX (h AC s σ _ _ (I.freeze e h1) (hw ho)) λu s' ⟨v,H',I',r,q1,q2⟩=>⟨v,_,I'.yD q1 h0,r,q2⟩
def Gv{op op':CmpOp}{r r':R2}(ho:gq X (compareOp op) r)(ho':gq X (compareOp op') r')(ha:bE X a ta)(hb:bE X b tb)(hc:bE X c tc)(hm:lastMarks [op,op'] [b,c]=false:=by with_unfolding_all rfl):bE X (.Compare a [op,op'] [b,c] pos) (Vj r r' ta tb tc):=by
 have ha:=ha.h;have hb:=hb.h;have hc:=hc.h;constructor;intro AC s σ H Q I h;refine Compare_chain (aX (ha AC s σ H _ I h) λv s1 ⟨x,H1,I1,r1,q1⟩=>chain_link (aX (hb AC s1 σ H1 _ I1 q1) λu s2 ⟨y,H2,I2,r2,q2⟩=>
  aX (ho AC s2 σ H2 x y v u _ I2 r1 r2 q2) λd s3 ⟨z,H3,I3,r3,k,e,q3⟩=>?_)) hm
 subst e;cases r3;refine yp ?_;cases k with
 | false=>exact ite_ff ⟨.bl false,H3,I3,Z,q3⟩
 | true=>exact ite_tt (chain_last (aX (hc AC s3 σ H3 _ I3 q3) λw' s4 ⟨z',H4,I4,r4,q4⟩=>ho' AC s4 σ H4 y z' u w' Q I4 r2 r4 q4))
def m_{x1}(h:bA X es t):bE X (.Tuple es x1 pos) (abp t):=by have h:=h.h;constructor;intro AC s σ H Q I hq;refine wpAny_Tuple_spliced (aX (h pos AC s σ H _ I hq) λus s1 ⟨xs,H1,I1,r,z,q⟩=>⟨by rw[<-r.length];exact z,?_⟩);have hf:H1 s1.heap.objs.size=none:=I1.hok.fresh (aO _);refine⟨.ref s1.heap.objs.size,upd H1 s1.heap.objs.size (.tup xs),I1.laid (t':=s1.toks) (λb u e=>bQ _ e) (aO _) ?_,Z,q _ hf⟩;exact⟨z,us,r,⟨_,c_ _ rfl,Z,_,Z⟩⟩
def Gw{tg Bn elt cond:Expr}{scope:Scope}{pos:Pos}(N2:Cl Str)(ix:Cl (Option Nat)){wi:TI}{g:TG}{tc:TT}{te:TE}(hc:X.calm=true)(hi:bI X tg Bn wi)(hg:∀cl s₂ H₂ fp,bG (cC X N2 scope cl s₂ H₂ fp) tg g)(he:∀cl s₂ H₂ fp,bE (cC X N2 scope cl s₂ H₂ fp) elt te)(ht:∀cl s₂ H₂ fp,bT (cC X N2 scope cl s₂ H₂ fp) cond tc)(hk:scope.kind =.function)(hn:kO X.N X.env.scope.names scope.names N2 ix=true)(hs:∀x,foldedSetIterable Bn X.env x=pure x:=by intro _;rfl):bE X (.ListComp elt [⟨tg,Bn,[cond],0⟩] scope pos) (Ab wi ix g tc te):=⟨Qt N2 ix hc hi.h (λcl s₂ H₂ fp=>(hg cl s₂ H₂ fp).h) (λcl s₂ H₂ fp=>(he cl s₂ H₂ fp).h) (λcl s₂ H₂ fp=>(ht cl s₂ H₂ fp).h) hk hn hs⟩
def aM{op:Operator}{r:R2}(ho:gq X (binaryOp op) r)(ha:bE X a ta)(hb:bE X b tb):bE X (.BinOp a op b pos) (RL r ta tb):=by have ha:=ha.h;have hb:=hb.h;constructor;intro AC s σ H Q I h;exact wpAny_BinOp (Px ha hb I h λv u s2 x y H2 I2 rx ry q=>ho AC s2 σ H2 x y v u Q I2 rx ry q)
def qE{op:CmpOp}{t:TE}(h:bC X op a b t)(h1:behindInMarks op b=false:=by first|exact abO _ (by decide) (by decide)|rfl):bT X (.Compare a [op] [b] pos) (tB t):=by have h:=h.h;constructor;intro AC s σ H Q I hw;refine wpAny_isTrue_Compare1 (aX (h AC s σ H _ I hw) λv s1 h1=>aX h1 λu s2 h2=>aX h2 λc s3 ⟨x,H1,I1,r1,q1⟩=>?_) h1;obtain⟨d,rfl,q⟩:=q1;cases r1;exact yp ⟨H1,I1,q⟩
def fu{tg:Expr}{Bn:Expr}{body:Cl Stmt}{wi:TI}{g:TG}{tb:TS}{pos:Pos}(hp:PassesOwn (model X.prog X.w) X.A X.env X.xe)(hc:X.calm=true)(hi:bI X tg Bn wi)(hg:bG X tg g)(hb:cS X body tb)(hs:∀x,foldedSetIterable Bn X.env x=pure x:=by intro _;rfl):bS X (.For tg Bn body [] pos) (abm wi g tb):=by
 have hi:=hi.h;have hg:=hg.h;have hb:=hb.h;constructor;intro AC s σ H D I h;refine wpAny_For (aX (hi AC s σ H _ I h) λv s1 h1=>aX h1 λitv s2 h2=>?_) hs;obtain⟨it,fp,tn,J,H2,e,I2,T,st2,f2,W,⟨m0,w0⟩,turn⟩:=h2;subst e;have qj:∀{H':Hp},(∀b∈fp,H' b=none)->∀b∈fp,mK X AC H' b:=λhn b hb=>⟨hn b hb,(f2 b hb).2⟩
 refine codeAny_forLoop_any (λn s'=>∃i σ' H',Inv X AC σ' H' s'/\tn i s'.heap/\(∀b∈fp,H' b=none)/\W i n σ' H') ?_ m0 ⟨0,σ,H2,I2,st2,λb hb=>(f2 b hb).1,w0⟩;rintro n s3 ⟨i,σ3,H3,I3,st3,fr3,w3⟩;rcases turn i n σ3 H3 w3 with⟨stop,qn⟩|⟨go,N,hN,step⟩
 .refine tX hp (aX (T.done X rfl rfl rfl hc i AC s3 σ3 H3 X.xe I3 (qj fr3) st3 stop) λr s4 ⟨hr,I4⟩=>?_);subst hr;exact Eu ⟨σ3,H3,I4,qn⟩
 .refine tX hp (aX (T.item X rfl rfl rfl hc i AC s3 σ3 H3 X.xe I3 (qj fr3) st3 go) λr s4 ⟨u,hr,h4⟩=>?_);subst hr;refine tX hp (aX h4 λ_ s5 ⟨x,H5,I5,r5,y5,zZ,Fo⟩=>?_);have I5':=I5.pinned (qj Fo) (T.obj _ _ zZ);refine tX hp (aX (hg _ s5 σ3 H5 x u _ I5' r5 (step x H5 y5)) λ_ s6 ⟨σ6,H6,I6,q6⟩=>?_);refine tX hp (aX (hb _ s6 σ6 H6 _ I6 q6) λf s7 q7=>?_);have again:∀{σ7:St}{H7:Hp},Inv X (AC++zO fp s5.heap) σ7 H7 s7->N σ7 H7->∃m,m<n/\∃i σ' H',Inv X AC σ' H' s7/\tn i s7.heap/\(∀b∈fp,H' b=none)/\W i m σ' H':=λ{σ7 H7} I7 n7=>by obtain⟨m',hm,w7⟩:=hN σ7 H7 n7;refine⟨m',hm,i+1,σ7,H7,I7.nM,T.keep _ _ _ zZ λb hb o e=>(I7.pin (b,o) (gi _ (gi _ (g_ hb e)))).1,λb hb=>?_,w7⟩;obtain⟨o,e,d⟩:=T.obj _ _ zZ b hb;exact(I7.pin (b,o) (gi _ (gi _ (g_ hb e)))).2.1
  cases f with
  | next=>obtain⟨σ7,H7,I7,n7⟩:=q7;exact again I7 n7
  | cont=>obtain⟨σ7,H7,I7,n7⟩:=q7;exact again I7 n7
  | brk=>obtain⟨σ7,H7,I7,q7⟩:=q7;exact⟨σ7,H7,I7.nM,q7⟩
  | ret v=>obtain⟨x7,σ7,H7,I7,r7,q7⟩:=q7;exact⟨x7,σ7,H7,I7.nM,r7,q7⟩
def Gx{lo:Option Expr}{hi:Option Expr}{r:V->Option Int->Option Int->Hp->VK->Prop}(hr:Vy X r)(he:bE X e te)(hl:bO X lo tl)(hu:bO X hi th):bE X (.Subscript e (.Slice lo hi none p2) pos) (tSl r te tl th):=by have he:=he.h;have hl:=hl.h;have hu:=hu.h;constructor;intro AC s σ H Q I h;refine Subscript_ (aX (he AC s σ H _ I h) λv s1 ⟨x,H1,I1,r1,q1⟩=>?_);refine wpAny_Slice (aX (hl AC s1 σ H1 _ I1 q1) λvl s2 ⟨l,H2,I2,pl,q2⟩=>aX (hu AC s2 σ H2 _ I2 q2) λvu s3 ⟨u,H3,I3,pu,q3⟩=>?_);rw[evalPart_none];refine aK ?_;have I4:Inv X AC σ H3 { s3 with heap:=s3.heap.push { cls:=.type "slice",data:=.fields #[vl,vu,.none] } }:=I3.kept (t':=s3.toks) λb ob q=>bQ _ q;obtain⟨T,id,hT,ht,hg⟩:=hr AC { s3 with heap:=s3.heap.push { cls:=.type "slice",data:=.fields #[vl,vu,.none] } } σ H3 x v vl vu l u s3.heap.objs.size Q I4 r1 (Heap.IsSliceOf.new ..) pl pu q3;show wpAny (model X.prog X.w) X.A (subscriptTail e (.Slice lo hi none p2) v (.ref s3.heap.objs.size)) (EP X AC σ Q) X.xe { s3 with heap:=s3.heap.push { cls:=.type "slice",data:=.fields #[vl,vu,.none] } };exact tail_any (ops:=[.ref s3.heap.objs.size,v]) ht hT hg (by with_unfolding_all rfl)
def QN{c:Expr}(hc:bT X c tA)(ha:bE X a ta)(hb:bE X b tb):bE X (.IfExp c a b pos) (tIf tA ta tb):=by
 have hc:=hc.h;have ha:=ha.h;have hb:=hb.h;constructor;intro AC s σ H Q I h;refine wpAny_IfExp (aX (hc AC s σ H _ I h) λd s1 ⟨H1,I1,q1⟩=>?_);cases d with
 | true=>exact ha AC s1 σ H1 Q I1 q1
 | false=>exact hb AC s1 σ H1 Q I1 q1
def gc{tg Bn elt:Expr}{scope:Scope}{pos:Pos}(N2:Cl Str)(ix:Cl (Option Nat)){wi:TI}{g:TG}{te:TE}(hc:X.calm=true)(hi:bI X tg Bn wi)(hg:∀cl s₂ H₂ fp,bG (cC X N2 scope cl s₂ H₂ fp) tg g)(he:∀cl s₂ H₂ fp,bE (cC X N2 scope cl s₂ H₂ fp) elt te)(hk:scope.kind =.function)(hn:kO X.N X.env.scope.names scope.names N2 ix=true)(hs:∀x,foldedSetIterable Bn X.env x=pure x:=by intro _;rfl):bE X (.ListComp elt [⟨tg,Bn,[],0⟩] scope pos) (RS wi ix g te):=by have hi:=hi.h;have hg:=λcl s₂ H₂ fp=>(hg cl s₂ H₂ fp).h;have he:=λcl s₂ H₂ fp=>(he cl s₂ H₂ fp).h;constructor;intro AC s σ H Q I h;obtain⟨k1,k2,k3,k4,k5⟩:=ki hn;obtain⟨cl,Fw,c1,c2⟩:=pZ (scope:=scope) (env:=X.env) λy hy e=>I.ok.has y.1 (k3 y hy e);rw[eval_ListComp];refine KR (use:=none) rfl hs Fw hk k4 (aX (hi AC s σ H _ I h) λv s1 h1=>aX h1 λitv s2 h2=>?_);obtain⟨it,fp,tn,J,H2,e,I2,T,st2,f2,h2⟩:=h2;subst e;refine zY (RR:=λAp C=>compPost (model X.prog X.w) X.A X.xe none (EP X AC σ Q) Ap C) (Q:=Q) hc hg he hk hn (λy c m=>(c1 y c m).1) c2 I2 T st2 f2 h2 ?_;intro Ap C H' s' m I' ns vh hL hsz mR ur q;exact⟨m,ns,λh' hs'=>⟨.ref Ap,H',I'.turned (it:=C) (t':=s'.toks) (λb o hb e=>(hs'.2 b hb).trans e) vh hL (.inr hsz) mR ur,Z,q⟩⟩
def Gy(hu:X.A.units+1<cLine)(hi:bE X i ty)(ho:bE X o td):bC X .In i o (abA ty td):=by have hi:=hi.h;have ho:=ho.h;constructor;intro AC s σ H Q I h;refine aX (hi AC s σ H _ I h) λiv s1 ⟨y,H1,I1,ry,q1⟩=>aX (ho AC s1 σ H1 _ I1 q1) λu s2 ⟨x,H2,I2,rx,a,ov,ex,g,q2⟩=>?_;subst ex;obtain rfl:u=Value.ref a:=rx;exact abz hu I2 g ry λs3 I3=>⟨.bl ov.isSome,H2,I3,Z,q2⟩
def WU(ha:bE X a ta):bE X (.UnaryOp .Not a pos) (Yw ta):=by have ha:=ha.h;constructor;intro AC s σ H Q I h;refine UnaryOp_ (aX (ha AC s σ H _ I h) λv s1 ⟨x,H1,I1,r1,q1⟩=>?_);obtain⟨c,rfl,q1⟩:=q1;cases r1;exact not_of (yp ⟨.bl (!c),H1,I1,Z,q1⟩)
def iw{x j pos}:bE X (.Constant (.str x) j pos) (tC (.str x)):=by exact⟨λ_ _ _ H _ I h=>Calls.Constant_str ⟨.str x,H,I.tok _,⟨_,Z⟩,h⟩⟩
def Zp{op:UnaryOp}{r:V->Hp->VK->Prop}(ho:Vd X (unaryOp op) r)(ha:bE X a ta):bE X (.UnaryOp op a pos) (tUn r ta):=by have ha:=ha.h;constructor;intro AC s σ H Q I h;exact UnaryOp_ (aX (ha AC s σ H _ I h) λv s1 ⟨x,H1,I1,r1,q1⟩=>ho AC s1 σ H1 x v Q I1 r1 q1)
def nU(K:Fg){a b:Expr}{ta:TA}{p pos:Pos}(hg:Gl X "zip")(hm:X.mg "zip"=none)(ha:bA X [a,b] ta)(hK:X.K=K:=by rfl)(hs:starEach [a,b] X.env=[(false,eval a X.env),(false,eval b X.env)] :=by rfl)(hs2:starEach [b] X.env=[(false,eval b X.env)] :=by rfl):bI X (.Tuple Ch kk tpos) (.Call (.Name "zip" p) [a,b] [] pos) (Y7 K ta):=by
 have ha:=ha.h;constructor;subst hK;intro AC s σ H R I h;refine Call_ (qg I hg hm boot_zip (MD (aX (ha pos AC s σ H _ I h) λus s1 ⟨vs,H1,I1,r1,q1⟩=>?_) (by rw[hs,hs2]) (by rw[hs2];rfl)));obtain⟨u1,u2,S1,S2,xs,ys,e,k1,k2,q⟩:=q1;subst e;obtain⟨u,w',rfl,ru,rw'⟩:=vals2 r1;obtain⟨g1,l1,o1,p1,lt1,b1,aeL,R9,st1,c1⟩:=k1.ok I1 ru;obtain⟨g2,l2,o2,p2,lt2,b2,Zq,at2,st2,c2⟩:=k2.ok I1 rw';refine callType_newIn F.called_zip (by decide) (F.typeCall_zip_2 _ _) (F.newCall_zip_2 _ _) (λobj=>F.args_object_init_3 obj _ _) F.entry_zip_new (LN st1 st2) ⟨b1,Zq _ _ b2,?_⟩;have z1:(s1.heap.push o1).objs.size=s1.heap.objs.size+1:=j9 ..;have z2:((s1.heap.push o1).push o2).objs.size=s1.heap.objs.size+2:=by rw[j9,z1]
 generalize e3:({ cls:=.type "tuple",data:=.seq #[.ref s1.heap.objs.size,.ref (s1.heap.push o1).objs.size] }:Obj)=o3;have z3:(((s1.heap.push o1).push o2).push o3).objs.size=s1.heap.objs.size+3:=by rw[j9,z2]
 generalize e4:({ cls:=.type "tuple",data:=.seq #[.none,.none] }:Obj)=o4;have z4:((((s1.heap.push o1).push o2).push o3).push o4).objs.size=s1.heap.objs.size+4:=by rw[j9,z3]
 generalize e5:({ cls:=.type "zip",data:=.fields #[.none,.bool false,.bool false,.ref ((s1.heap.push o1).push o2).objs.size,.ref (((s1.heap.push o1).push o2).push o3).objs.size] }:Obj)=o5;have g5:(((((s1.heap.push o1).push o2).push o3).push o4).push o5).get? ((((s1.heap.push o1).push o2).push o3).push o4).objs.size=some o5:=c_ _ (by rw[<-e5];rfl);have g4:(((((s1.heap.push o1).push o2).push o3).push o4).push o5).get? (((s1.heap.push o1).push o2).push o3).objs.size=some o4:=bQ _ (c_ _ (by rw[<-e4];rfl));have g3:(((((s1.heap.push o1).push o2).push o3).push o4).push o5).get? ((s1.heap.push o1).push o2).objs.size=some o3:=bQ _ (bQ _ (c_ _ (by rw[<-e3];rfl)));have g2':(((((s1.heap.push o1).push o2).push o3).push o4).push o5).get? (s1.heap.push o1).objs.size=some o2:=bQ _ (bQ _ (bQ _ (at2 _)));have g1':(((((s1.heap.push o1).push o2).push o3).push o4).push o5).get? s1.heap.objs.size=some o1:=bQ _ (bQ _ (bQ _ (bQ _ (R9 _))));have kp:∀c o,s1.heap.get? c=some o->(((((s1.heap.push o1).push o2).push o3).push o4).push o5).get? c=some o:=λc o x=>bQ _ (bQ _ (bQ _ (bQ _ (bQ _ x))));rw[z4]at g5 ⊢;rw[z3]at g4 e5;rw[z2]at g3 e5;rw[z1]at g2' e3;generalize (((((s1.heap.push o1).push o2).push o3).push o4).push o5)=hN at *;show _/\_;subst e3 e4 e5;refine⟨⟨_,g5,Z⟩,wpAny_pyIter_zip (s:={ s1 with heap:=hN }) g5 ?_⟩;have I2:Inv X AC σ H1 { s1 with heap:=hN }:=I1.kept (t':=s1.toks) kp;obtain⟨t1,aeO,C1,n1⟩:=c1 s1.heap.objs.size;obtain⟨t2,aeP,C2,n2⟩:=c2 (s1.heap.objs.size+1);refine⟨s1.heap.objs.size+4,[s1.heap.objs.size+4,s1.heap.objs.size+2,s1.heap.objs.size+3,s1.heap.objs.size,s1.heap.objs.size+1],_,_,H1,Z,I2,NK (IC lt1 lt2) C1 C2,⟨g5,g3,⟨_,_,g4⟩,n1 _ g1',n2 _ g2'⟩,λb hb=>?_,q⟩;have hb':b=s1.heap.objs.size+4\/b=s1.heap.objs.size+2\/b=s1.heap.objs.size+3\/b=s1.heap.objs.size\/b=s1.heap.objs.size+1:=by simpa using hb
 have le:s1.heap.objs.size<=b:=by
  rcases hb' with r|r|r|r|r
  .rw [r];exact oj _ _
  .rw [r];exact oj _ _
  .rw [r];exact oj _ _
  .rw [r];exact aO _
  .rw [r];exact oj _ _
 exact I1.yt le (I1.hok.fresh le)
def bf{op:CmpOp}{r:R2}(ho:gq X (compareOp op) r)(ha:bE X a ta)(hb:bE X b tb)(hm:behindInMarks op b=false):bT X (.Compare a [op] [b] pos) (YD (RL r ta tb)):=by
 have ha:=ha.h;have hb:=hb.h;constructor;intro AC s σ H Q I h;refine wpAny_isTrue_Compare1 (aX (ha AC s σ H _ I h) λv s1 ⟨x,H1,I1,r1,q1⟩=>aX (hb AC s1 σ H1 _ I1 q1) λu s2 ⟨y,H2,I2,r2,q2⟩=>
  aX (ho AC s2 σ H2 x y v u _ I2 r1 r2 q2) λc s3 ⟨z,H3,I3,r3,k,e,q3⟩=>?_) hm
 subst e;cases r3;exact yp ⟨H3,I3,q3⟩
def aY{i:Nat}{x:Str}{e:Expr}{te:TE}{pos':Pos}(hN:X.N.Nodup)(he:bE X e te)(hi:X.N[i]?=some x:=by rfl)(hx:Loc X.env.scope x:=by first|exact Or.inl rfl|exact Or.inr rfl)(hs:swapsWith e (some (.Name x pos')) pos.line X.env=pure false:=by rfl)(hf:X.fn x=true\/X.env.scope.names.lookup x=some .local:=by first|exact .inl rfl|exact .inr rfl|assumption):bS X (.Assign [.Name x pos'] e pos) (E2 te (oq i)):=by have he:=he.h;constructor;intro AC s σ H D I h;refine wpAny_Assign_Name (aX (he AC s σ H _ I h) λv s1 ⟨y,H1,I1,r1,q1⟩=>?_) hs;exact ug I1 hN hi hx r1 (λs2 I2=>⟨_,H1,I2,q1⟩) hf
def fG(K:Fg){tg l:Expr}{tl:TE}(hl:bE X l tl)(hK:X.K=K:=by rfl):bI X tg l (RK K tl):=by have hl:=hl.h;exact⟨hK▸SS hl⟩
def jD{X:Cx}{e:Expr}{t:TT}(h:bT X e t):bT X e (λσ H Q=>∃b:Bool,t σ H (λb' H'=>b'=b/\H'=H)/\Q b H):=by have h:=h.h;constructor;intro AC s σ H Q I hw;obtain⟨b,hb,q⟩:=hw;refine aX (h AC s σ H _ I hb) λb' s' ⟨H',I',e1,e2⟩=>?_;subst e1 e2;exact⟨_,I',q⟩
def az{st:Stmt}(h1:bS X st t):cS X [st] t:=by
 have h1:=h1.h;constructor;intro AC s σ H D I h;refine wpAny_execs_cons (aX (h1 AC s σ H D I h) λf s1 q=>?_);cases f with
 | next=>exact Eu q
 | ret v=>exact q
 | brk=>exact q
 | cont=>exact q
def Ud(ho:bE X o td)(hi:bE X i ty):bS X (.Delete [.Subscript o i tpos] pos) (YV td ty):=by have ho:=ho.h;have hi:=hi.h;constructor;intro AC s σ H D I h;refine wpAny_Delete (wpAny_deleteEach_cons (wpAny_delete_Subscript (aX (ho AC s σ H _ I h) λu s1 ⟨x,H1,I1,rx,q1⟩=>aX (hi AC s1 σ H1 _ I1 q1) λiv s2 ⟨y,H2,I2,ry,a,AT,k,ex,e,ey,l,q2⟩=>?_)));subst ex ey;obtain rfl:u=Value.ref a:=rx;exact Ng I2 e ry l λs3 I3=>wpAny_deleteEach_nil ⟨σ,_,I3,q2⟩
def fB(ha:bT X a tA):bT X (.UnaryOp .Not a pos) (abg tA):=by have ha:=ha.h;constructor;intro AC s σ H Q I h;exact isTrue_not (ha AC s σ H (λc H1=>Q (!c) H1) I h)
def dM(he:bE X e te)(hs:swapsWith e none pos.line X.env=pure false:=by rfl):bS X (.Expr e pos) (Yy te):=by have he:=he.h;constructor;intro AC s σ H D I h;exact wpAny_Expr_any (aX (he AC s σ H _ I h) λv s1 ⟨x,H1,I1,r1,q1⟩=>⟨σ,H1,I1,q1⟩) I.quiet hs
def dZ{pl:Sem Bool}{j k:Nat}{C:Addr}{m:Str}{ps:Cl Str}{sp:Sp}{o e:Expr}{es:Cl Expr}{ta:TE}{t:TA}{Bz pos:Pos}(D:Mn X.prog X.w X.K X.mg X.base j C m ps sp)(hr:dg k X.A)(ho:bE X o ta)(ha:bA X (e::es) t)(hj:j<=k:=by decide)(hst:starEach (e::es) X.env=(false,eval e X.env)::starEach es X.env:=by rfl)(hpl:(backTo pos (starEach es X.env)).any (·.1)=false:=by rfl)(ht:eval (.Call (.Attribute o m Bz) (e::es) [] pos) X.env=(do
   let ov <-eval o X.env
   standAt Bz.atName
   let(f,first) <-holding [ov] (getMethod ov m pl)
   callWith pos f first (backTo pos (starEach (e::es) X.env)) (backToKw pos (keywordEach [] X.env))):=by rfl):bE X (.Call (.Attribute o m Bz) (e::es) [] pos) (Ey C m sp [] E0 ta t):=by
 have ho:=ho.h;have ha:=ha.h;constructor
 obtain⟨f,fd,F,b,hm,c⟩:=D.ex
 exact S3 (pl:=pl) ho c hm F (hr.mono hj) b .nil (λ_ _ _ _ _ _ _ h=>h.elim) ha hst hpl ht
def cM{e:Expr}{es:Cl Expr}{t:TG}{u:zM}(h1:bG X e t)(h2:R8 X es u)(hs:(assignEach (e::es) X.env).map (·.2)=assign e X.env::(assignEach es X.env).map (·.2):=by rfl):R8 X (e::es) (RJ t u):=by
 have h1:=h1.h;have h2:=h2.h;constructor;intro AC s σ H vs us Q I r h;obtain⟨v,vr,e1,h⟩:=h;subst e1;cases r with
 | cons r rr=>rw[hs];refine assignInOrder_cons (aX (h1 AC s σ H _ _ _ I r h) λ_ s1 ⟨σ1,H1,I1,q1⟩=>?_);exact h2 AC s1 σ1 H1 _ _ Q I1 rr q1
def nV{i:Nat}{x:Str}{px pos':Pos}{tg Bn elt:Expr}{scope:Scope}{pos:Pos}(N2:Cl Str)(ix:Cl (Option Nat)){wi:TI}{g:TG}{te:TE}(hN:X.N.Nodup)(hi:X.N[i]?=some x)(hx:X.env.scope.names.lookup x=some .local)(hc:X.calm=true)(hit:bI X tg Bn wi)(hg:∀cl s₂ H₂ fp,bG (cC X N2 scope cl s₂ H₂ fp) tg g)(he:∀cl s₂ H₂ fp,bE (cC X N2 scope cl s₂ H₂ fp) elt te)(hk:scope.kind =.function)(hn:kO X.N X.env.scope.names scope.names N2 ix=true)(hw:swapsWith (.ListComp elt [⟨tg,Bn,[],0⟩] scope pos) (some (.Name x px)) pos'.line X.env=pure true)(hs:∀x,foldedSetIterable Bn X.env x=pure x:=by intro _;rfl):bS X (.Assign [.Name x px] (.ListComp elt [⟨tg,Bn,[],0⟩] scope pos) pos') (E2 (RS wi ix g te) (oq i)):=by
 have hit:=hit.h;have hg:=λcl s₂ H₂ fp=>(hg cl s₂ H₂ fp).h;have he:=λcl s₂ H₂ fp=>(he cl s₂ H₂ fp).h;constructor;intro AC s σ H D I h;obtain⟨k1,k2,k3,k4,k5⟩:=ki hn;obtain⟨cl,Fw,c1,c2⟩:=pZ (scope:=scope) (env:=X.env) λy hy e=>I.ok.has y.1 (k3 y hy e);rw[exec_Assign_Name_used _ _ _ _ hw];refine ao (wJ (ao ?_));show wpAny _ X.A (do let _ <-comprehension (.ListComp elt [⟨tg,Bn,[],0⟩] scope pos) scope X.env _ (newList []) false (eval Bn X.env) (some (assign (.Name x px) X.env))) _ _ s;refine ao (aX (KR (use:=some (assign (.Name x px) X.env)) (Q:=λ_ s'=>SP X AC D .next s') rfl hs Fw hk k4 (aX (hit AC s σ H _ I h) λv s1 h1=>aX h1 λitv s2 h2=>?_)) λ_ s' hq=>aK (aK hq));obtain⟨it,fp,tn,J,H2,e,I2,T,st2,f2,h2⟩:=h2;subst e;refine zY (RR:=λAp C=>compPost (model X.prog X.w) X.A X.xe (some (assign (.Name x px) X.env)) (λ_ s'=>SP X AC D .next s') Ap C) (Q:=λv H'=>D.nx (σ.set i (some v)) H') hc hg he hk hn (λy c m=>(c1 y c m).1) c2 I2 T st2 f2 h2 ?_;intro Ap C H' s' m I' ns vh hL hsz mR ur q;show wpAny _ X.A (assign (.Name x px) X.env (.ref Ap)) _ _ _;refine wpAny_assign_Name (u6 I' hN hi (.inl hx) (v:=.ref Ap) rfl (λs3 I3 ⟨a,sb,ha⟩=>?_) (.inr hx));have ca:C≠a:=by
  rcases ha with z|z
  .rw [z];exact hL
  .exact λe=>mR x a z e.symm
 exact⟨m,ns.sameBut sb ca,λh' hs'=>⟨_,H',I3.turned (it:=C) (t':=s3.toks) (λb o hb e=>(hs'.2 b hb).trans e) vh hL (.inr hsz) mR ur,q⟩⟩
def vQ(hu:X.A.units+1<cLine)(hi:bE X i ty)(ho:bE X o td):bC X .NotIn i o (Tg ty td):=by have hi:=hi.h;have ho:=ho.h;constructor;intro AC s σ H Q I h;refine aX (hi AC s σ H _ I h) λiv s1 ⟨y,H1,I1,ry,q1⟩=>aX (ho AC s1 σ H1 _ I1 q1) λu s2 ⟨x,H2,I2,rx,a,ov,ex,g,q2⟩=>?_;subst ex;obtain rfl:u=Value.ref a:=rx;exact Te hu I2 g ry λs3 I3=>⟨.bl (!ov.isSome),H2,I3,Z,q2⟩
def iM{b j pos}:bE X (.Constant (.bool b) j pos) (tC (.bl b)):=by exact⟨λ_ _ _ H _ I h=>Constant_bool ⟨.bl b,H,I,Z,h⟩⟩
def BY{pl:Sem Bool}{j k:Nat}{C:Addr}{m:Str}{ps:Cl Str}{sp:Sp}{o:Expr}{ta:TE}{Bz pos:Pos}(D:Mn X.prog X.w X.K X.mg X.base j C m ps sp)(hr:dg k X.A)(ho:bE X o ta)(hj:j<=k:=by decide)(ht:eval (.Call (.Attribute o m Bz) [] [] pos) X.env=(do
   let ov <-eval o X.env
   standAt Bz.atName
   let(f,first) <-holding [ov] (getMethod ov m pl)
   callWith pos f first (backTo pos (starEach [] X.env)) (backToKw pos (keywordEach [] X.env))):=by rfl):bE X (.Call (.Attribute o m Bz) [] [] pos) (Ey C m sp [] E0 ta E3):=by
 have ho:=ho.h;constructor
 obtain⟨f,fd,F,b,hm,c⟩:=D.ex
 exact PK (pl:=pl) ho c hm F (hr.mono hj) b .nil (λ_ _ _ _ _ _ _ h=>h.elim) ht
def bB(he:bE X e te):bS X (.Return (some e) pos) (abj te):=by have he:=he.h;constructor;intro AC s σ H D I h;exact wpAny_Return_some (aX (he AC s σ H _ I h) λv s1 ⟨x,H1,I1,r1,q1⟩=>⟨x,σ,H1,I1,r1,q1⟩)
theorem d9{tg:Expr}{a:Expr}{ta:TA}{p pos:Pos}(hg:Gl X "range")(hm:X.mg "range"=none)(ha:bA X [a] ta)(hs:starEach [a] X.env=[(false,eval a X.env)] :=by rfl):bI X tg (.Call (.Name "range" p) [a] [] pos) (YC ta):=by
 have ha:=ha.h;constructor;intro AC s σ H R I h;refine Call_ (qg I hg hm boot_range (MD (aX (ha pos AC s σ H _ I h) λus s1 ⟨vs,H1,I1,r1,q1⟩=>?_) hs rfl));obtain⟨j,e,q1,q2,q⟩:=q1;subst e;cases r1 with
 | cons r rr=>cases rr;obtain⟨t,rfl⟩:=r;exact call_range_1 (Pw I1 (by omega) (by omega) q1 q2 (by simpa using q))
def bJ:cS X [] Yx:=by exact⟨λ_ _ σ H _ I h=>Eu ⟨σ,H,I,h⟩⟩
def di(K:Fg){o value:Expr}{f:Str}{ta tv:TE}{pos pos':Pos}(ha:bE X o ta)(hv:bE X value tv)(hs:swapsWith value (some (.Attribute o f pos')) pos.line X.env=pure false:=by rfl)(hK:X.K=K:=by rfl):bS X (.Assign [.Attribute o f pos'] value pos) (Vl K ta tv f):=by have ha:=ha.h;have hv:=hv.h;exact⟨hK▸Vo ha hv hs⟩
theorem Of{tg:Expr}{a b c:Expr}{ta:TA}{p pos:Pos}(hg:Gl X "range")(hm:X.mg "range"=none)(ha:bA X [a,b,c] ta)(hs:starEach [a,b,c] X.env=[(false,eval a X.env),(false,eval b X.env),(false,eval c X.env)] :=by rfl)(hs2:starEach [b,c] X.env=[(false,eval b X.env),(false,eval c X.env)] :=by rfl):bI X tg (.Call (.Name "range" p) [a,b,c] [] pos) (Y4 ta):=by
 have ha:=ha.h;constructor;intro AC s σ H R I h;refine Call_ (qg I hg hm boot_range (MD (aX (ha pos AC s σ H _ I h) λus s1 ⟨vs,H1,I1,r1,q1⟩=>?_) (by rw[hs,hs2]) (by rw[hs2];rfl)));obtain⟨i,j,k,e,⟨q1,q2,q3,q4,q5,q6⟩,q⟩:=q1;subst e;cases r1 with
 | cons r rr=>
  cases rr with
  | cons r' rr=>
   cases rr with
   | cons r'' rr=>
    cases rr;obtain⟨t,rfl⟩:=r;obtain⟨t',rfl⟩:=r';obtain⟨t'',rfl⟩:=r'';obtain⟨sm,sz⟩:=IF q1 q2 q3 q4 q5 q6;refine call_range_3 (by omega) ?_ (Or.inl (PyProof.noPylong_small (by omega)));refine wpAny_pyIter_range (IsRange.new ..) sm ?_;have I2:Inv X AC σ H1 { s1 with heap:=s1.heap.push { cls:=.type "range",data:=.fields #[.int i t,.int j t',.int k t''] },toks:=s1.toks }:=I1.kept λb o e=>bQ _ e;refine⟨(s1.heap.push { cls:=.type "range",data:=.fields #[.int i t,.int j t',.int k t''] }).objs.size,[(s1.heap.push { cls:=.type "range",data:=.fields #[.int i t,.int j t',.int k t''] }).objs.size],_,_,H1,Z,
     I2.kept (t':=s1.toks) λb o e=>bQ _ e,IE _ i k (nP i j k),?_,λb hb=>?_,q⟩
    .have e1:i+((0:Nat):Int)*k=i:=by simp
     have e2:((nP i j k:Nat):Int)-((0:Nat):Int)=Builtin.Range.rangeSize i j k:=by unfold nP;omega
     show IsRangeIter _ _ (i+((0:Nat):Int)*k) (((nP i j k:Nat):Int)-((0:Nat):Int)) k;rw[e1,e2];exact c_ _ rfl
    .have e:b=(s1.heap.push { cls:=.type "range",data:=.fields #[.int i t,.int j t',.int k t''] }).objs.size:=by simpa using hb
     subst e;exact I2.yt (aO _) (I2.hok.fresh (aO _))
def Og{a:Expr}{ta:TA}{p pos:Pos}(hg:Gl X "range")(hm:X.mg "range"=none)(ha:bA X [a] ta)(hs:starEach [a] X.env=[(false,eval a X.env)] :=by rfl):bE X (.Call (.Name "range" p) [a] [] pos) (abD ta):=by have ha:=ha.h;constructor;intro AC s σ H Q I h;refine Call_ (qg I hg hm boot_range (MD (aX (ha pos AC s σ H _ I h) λus s1 ⟨vs,H1,I1,r1,q1⟩=>?_) hs rfl));obtain⟨j,e,q⟩:=q1;subst e;obtain⟨u,rfl,ru⟩:=vals1 r1;obtain⟨t,rfl⟩:=ru;exact call_range_1 ⟨.ref s1.heap.objs.size,_,I1.laid (a:=s1.heap.objs.size) (o:=.rA 0 j) (λb o e=>bQ _ e) (aO _) ⟨_,_,_,c_ _ rfl⟩,Z,q _ I1.fresh⟩
def jy(h:bA X es t):bE X (.List es pos) (abq t):=by have h:=h.h;constructor;intro AC s σ H Q I hq;refine wpAny_List_spliced (aX (h pos AC s σ H _ I hq) λus s1 ⟨xs,H1,I1,r,z,q⟩=>⟨by rw[<-r.length];exact z,?_⟩);have hf:H1 s1.heap.objs.size=none:=I1.hok.fresh (aO _);refine⟨.ref s1.heap.objs.size,upd H1 s1.heap.objs.size (.lst xs),I1.laid (t':=s1.toks) (λb u e=>bQ _ e) (aO _) ?_,Z,q _ hf⟩;exact⟨z,us,0,r,c_ _ rfl⟩
def AE(K:Fg){o value:Expr}{f:Str}{ta tv:TE}{pos tpos:Pos}{op:Operator}{rd:V->V->Hp->VK->Prop}(ha:bE X o ta)(hv:bE X value tv)(hop:Lq X op rd)(hK:X.K=K:=by rfl):bS X (.AugAssign (.Attribute o f tpos) op value pos) (JH K ta tv rd f):=by have ha:=ha.h;have hv:=hv.h;exact⟨hK▸MY ha hv hop⟩
def Gz{i:Nat}{x:Str}{px pos':Pos}{tg Bn elt cond:Expr}{scope:Scope}{pos:Pos}(N2:Cl Str)(ix:Cl (Option Nat)){wi:TI}{g:TG}{tc:TT}{te:TE}(hN:X.N.Nodup)(hi:X.N[i]?=some x)(hx:X.env.scope.names.lookup x=some .local)(hc:X.calm=true)(hit:bI X tg Bn wi)(hg:∀cl s₂ H₂ fp,bG (cC X N2 scope cl s₂ H₂ fp) tg g)(he:∀cl s₂ H₂ fp,bE (cC X N2 scope cl s₂ H₂ fp) elt te)(ht:∀cl s₂ H₂ fp,bT (cC X N2 scope cl s₂ H₂ fp) cond tc)(hk:scope.kind =.function)(hn:kO X.N X.env.scope.names scope.names N2 ix=true)(hw:swapsWith (.ListComp elt [⟨tg,Bn,[cond],0⟩] scope pos) (some (.Name x px)) pos'.line X.env=pure true)(hs:∀x,foldedSetIterable Bn X.env x=pure x:=by intro _;rfl):bS X (.Assign [.Name x px] (.ListComp elt [⟨tg,Bn,[cond],0⟩] scope pos) pos') (E2 (Ab wi ix g tc te) (oq i)):=⟨Qu N2 ix hN hi hx hc hit.h (λcl s₂ H₂ fp=>(hg cl s₂ H₂ fp).h) (λcl s₂ H₂ fp=>(he cl s₂ H₂ fp).h) (λcl s₂ H₂ fp=>(ht cl s₂ H₂ fp).h) hk hn hw hs⟩
def BZ{ob:Expr}{td:TE}{Bz cpos:Pos}(hob:bE X ob td)(hbase:attributeBase ob "values" X.env (eval ob X.env)=eval ob X.env:=by rfl)(hline:(Bz.endLine==cpos.line)=true:=by rfl):bE X (.Call (.Attribute ob "values" Bz) [] [] cpos) (Y6 td):=by have hob:=hob.h;constructor;intro AC s σ H Q I h;refine wpAny_Call_method0_late hbase hline (aX (hob AC s σ H _ I h) λv s1 ⟨x,H1,I1,r1,q1⟩=>?_);obtain⟨d,AT,rfl,e,fin⟩:=q1;cases r1;obtain⟨t1,t2,hsys⟩:=Fc I1 (.inl ⟨AT,e⟩);obtain⟨hz,_,vs,rel,dd⟩:=pY I1.hok e;refine⟨"dict",_,F.plainAttrs_dict,K_,F.type_dict_values,t1,t2,K0 rfl (PySem.evalArgs_none ?_)⟩;refine call_meetsIn K_ dd.typeIs F.entry_dict_values (F.args_dict_values_1 _) (meets_dict_values (bZ X.prog X.w) d hsys) ⟨⟨vs,dd⟩,?_⟩;refine⟨.ref s1.heap.objs.size,_,I1.laid (t':=s1.toks) (o:=jJ s1.heap.objs.size d) (λb u e=>bQ _ e) (aO _) ?_,Z,fin _ I1.fresh⟩;refine⟨⟨_,c_ _ rfl,Z,Z⟩,⟨_,c_ _ rfl⟩,λh1 h2 ⟨o,a,b⟩ k=>⟨o,k o a,b⟩⟩
def Zr{j k:Nat}{x:Str}{C:Addr}{ps:Cl Str}{sp:Sp}{e:Expr}{es:Cl Expr}{t:TA}{p pos:Pos}(D:Cn X.prog X.w X.K X.mg X.base j x C ps sp)(hr:dg k X.A)(ha:bA X (e::es) t)(hj:j+1<=k:=by decide)(hg:Gl X x:=by rfl)(hdb:(x==("__debug__":Str))=false:=by decide)(he:starEach (e::es) X.env=(false,eval e X.env)::starEach es X.env:=by rfl)(hpl:(backTo pos (starEach es X.env)).any (·.1)=false:=by rfl):bE X (.Call (.Name x p) (e::es) [] pos) (Ez C sp [] E0 t):=by have ha:=ha.h;constructor;obtain⟨f,fd,F,b,M,m⟩:=D.ex;exact S4 M F (hr.mono hj) hg m b .nil (λ_ _ _ _ _ _ _ h=>h.elim) ha hdb he hpl
def QO(ho:bE X o td)(hi:bE X i ty)(hs:PZ i):bE X (.Subscript o i pos) (WJ X.prog X.w X.K td ty):=by have ho:=ho.h;have hi:=hi.h;constructor;intro AC s σ H Q I h;refine JN PySem.F.slot_dict_getitem.lookup hs (aX (ho AC s σ H _ I h) λu s1 ⟨x,H1,I1,rx,q1⟩=>aX (hi AC s1 σ H1 _ I1 q1) λiv s2 ⟨y,H2,I2,ry,a,v,ex,g,q2⟩=>?_);subst ex;obtain rfl:u=Value.ref a:=rx;obtain⟨_,AT,vs,k,ob,ey,rel,l,hk,hd⟩:=g;subst ey;have dd:s2.heap.DictOf (bZ X.prog X.w) a vs:=Heap.dictOf_iff.mpr ⟨ob,I2.iH a ob hk,hd⟩;obtain⟨w',hw,rw'⟩:=jO.some_of (v:=v) (o:=valueAt vs k) (by rw[l];exact rel.val k);exact⟨dd.typeIs,wpAny_getItem_of (rD ry) dd.mapOf hw ⟨v,H2,I2.tok _,rw',q2⟩⟩
def sZ{x:Str}{v:V}{u:Value}{pos:Pos}(hg:Gl X x)(hm:X.mg x=some u)(r:RelV v u)(hd:(x==("__debug__":Str))=false:=by decide):bE X (.Name x pos) (tC v):=by exact⟨λ_ _ _ H _ I h=>wN I hg hm ⟨v,H,I,r,h⟩ hd⟩
def mh(hc:fJ X (.type T) r)(hg:Gl X x)(hm:X.mg x=none)(hv:bootBuiltins x=some (.type T))(ha:bA X (e::es) t)(hn:x ≠ "__name__":=by decide)(hdb:(x==("__debug__":Str))=false:=by decide)(he:starEach (e::es) X.env=(false,eval e X.env)::starEach es X.env:=by rfl)(hpl:(backTo pos (starEach es X.env)).any (·.1)=false:=by rfl):bE X (.Call (.Name x p) (e::es) [] pos) (ZT r t):=by have ha:=ha.h;constructor;intro AC s σ H Q I h;refine EN (qg I hg hm hv ?_ hn hdb);exact MD (aX (ha pos AC s σ H _ I h) λus s1 ⟨vs,H1,I1,r1,q1⟩=>hc AC s1 σ H1 vs us Q I1 r1 q1) he hpl
def k7{B2:Cl Expr}(ha:bT X a tA)(hb:bW X (.BoolOp .Or (b::B2) pos) RG):bW X (.BoolOp .Or (a::b::B2) pos) (tOr tA RG):=by
 have ha:=ha.h;have hb:=hb.h;constructor;intro wh AC s σ H Q I h;refine isTrue_or (aX (ha AC s σ H _ I h) λc s1 ⟨H1,I1,q1⟩=>?_);cases c with
 | true=>exact⟨H1,I1,q1⟩
 | false=>exact hb wh AC s1 σ H1 Q I1 q1
def Ue(ha:bT X a tA):bW X (.BoolOp .And [a] pos) tA:=by
 have ha:=ha.h;constructor;intro wh AC s σ H Q I h;refine isTrue_and (aX (ha AC s σ H Q I h) λc s1 e=>?_);cases c with
 | true=>exact isTrue_and_nil e
 | false=>exact e
def cK{c:Expr}{a b:Cl Stmt}{tc:TT}(hc:bT X c tc)(ha:cS X a t)(hb:cS X b u):bS X (.If c a b pos) (U6 tc t u):=⟨RI hc.h ha.h hb.h⟩
def Oh{i j:Nat}{x y:Str}{a b:Expr}{ta:TA}{px py pt:Pos}{kt k2 WV}(hc:X.calm=true)(hN:X.N.Nodup)(hi:X.N[i]?=some x)(hj:X.N[j]?=some y)(hij:i≠j)(hx:X.env.scope.names.lookup x=some .local)(hy:X.env.scope.names.lookup y=some .local)(ha:bA X [a,b] ta)(hw:swappedStores [.Tuple [.Name x px,.Name y py] kt pt] (.Tuple [a,b] k2 WV) X.env=pure (some [x,y]))(hs:swapsWithSole [.Tuple [.Name x px,.Name y py] kt pt] (.Tuple [a,b] k2 WV) pos.line X.env=pure false:=by rfl):bS X (.Assign [.Tuple [.Name x px,.Name y py] kt pt] (.Tuple [a,b] k2 WV) pos) (abl i j ta):=by
 have ha:=ha.h;constructor;intro AC s σ H D I h;rw[exec_Assign_arm];refine ao (wJ ?_);rw[hs];refine ao (aK ?_);rw[aA (by decide)];refine ao (Tuple_ (aX (ha _ AC s σ H _ I h) λus s1 ⟨vs,H1,I1,r1,q1⟩=>?_));obtain⟨v,w,e1,q1⟩:=q1;subst e1;obtain⟨u1,u2,rfl,rv,rw'⟩:∃u1 u2,us=[u1,u2]/\RelV v u1/\RelV w u2:=by
  cases r1 with
  | cons p q=>
   cases q with
   | cons p' q'=>cases q';exact⟨_,_,Z,p,p'⟩
 refine nK ?_ (by show 2<=sizeLine;decide);have I2:Inv X AC σ H1 { s1 with heap:=s1.heap.push { cls:=.type "tuple",data:=.seq [u1,u2].toArray } }:=I1.kept (t':=s1.toks) λb o e=>bQ _ e;rw[hw];refine ao (aK ?_);show wpAny (model X.prog X.w) X.A (do rule "assign.swapped-stores";let items <-unpackItems (.ref s1.heap.objs.size) 2 none;assignInOrder [λv=>bindName X.env y v,λv=>bindName X.env x v] items.reverse;pure Flow.next) _ _ _;refine ao (wpAny_rule (ao (unpackItems_tuple (items:=#[u1,u2]) (I.ok.hd hc) (IsTup.new s1.heap _) λh' hx'=>?_)));have I3:=I2.kept (h':=h') (t':=s1.toks) λb o e=>hx' b o (dI (bK e)) e;show wpAny _ _ (assignInOrder [λv=>bindName X.env y v,λv=>bindName X.env x v] [u2,u1] >>= λ_=>pure Flow.next) _ _ _;refine ao (assignInOrder_cons (wpAny_bindName (ug I3 hN hj (.inl hy) rw' (λs2 I4=>?_) (.inr hy))));refine assignInOrder_cons (wpAny_bindName (ug I4 hN hi (.inl hx) rv (λs3 I5=>assignInOrder_nil (aK ?_)) (.inr hx)));rw[List.set_comm _ _ (cW hij)]at I5;exact⟨_,H1,I5,q1⟩
def jU{c:Expr}{a b:Cl Stmt}{tc:TT}{t u:TS}(hc:bT X c tc)(ha:cS X a t)(hb:cS X b u):bS X (.If c a b pos) (VZ tc t u):=by
 have hc:=hc.h;have ha:=ha.h;have hb:=hb.h;constructor;intro AC s σ H D I h;obtain⟨J,h,hJ⟩:=h;refine aX (RI hc ha hb AC s σ H { D with nx:=J } I h) λf s' q=>?_;cases f with
 | next=>obtain⟨σ',H',I',q⟩:=q;exact⟨σ',H',I',hJ _ _ q⟩
 | cont=>exact q
 | brk=>exact q
 | ret v=>exact q
def ak{st:Stmt}{B2:Cl Stmt}(h1:bS X st t)(h2:cS X B2 u):cS X (st::B2) (Li t u):=by
 have h1:=h1.h;have h2:=h2.h;constructor;intro AC s σ H D I h;refine wpAny_execs_cons (aX (h1 AC s σ H { D with nx:=u D } I h) λf s1 q=>?_);cases f with
 | next=>obtain⟨σ',H',I',q⟩:=q;exact h2 AC s1 σ' H' D I' q
 | ret v=>exact q
 | brk=>exact q
 | cont=>exact q
theorem WW(K:Fg){e st:Expr}{te ts:TE}{pos p2:Pos}(he:bE X e te)(hst:bE X st ts)(hK:X.K=K:=by rfl):bE X (.Subscript e (.Slice none none (some st) p2) pos) (abE K te ts):=by have he:=he.h;have hst:=hst.h;constructor;subst hK;intro AC s σ H Q I h;refine Subscript_ (aX (he AC s σ H _ I h) λv s1 ⟨x,H1,I1,r1,q1⟩=>?_);refine wpAny_Slice ?_;rw[evalPart_none];refine aK (aK ?_);rw[evalPart_some];refine aX (hst AC s1 σ H1 _ I1 q1) λw3 s3 ⟨y,H3,I3,r3,q3⟩=>?_;obtain⟨ey,a,xs,rfl,hx,q⟩:=q3;subst ey;obtain⟨t,rfl⟩:=r3;cases r1;have I4:Inv X AC σ H3 { s3 with heap:=s3.heap.push { cls:=.type "slice",data:=.fields #[.none,.none,.int (-1) t] } }:=I3.kept (t':=s3.toks) λb ob q=>bQ _ q;obtain⟨BT,r,ht,hz⟩:=I4.list hx;have hlen:=r.length;refine tail_any (ops:=[.ref a,.ref s3.heap.objs.size]) ht.isList.typeIs slot_list_getitem.lookup ?_ (by with_unfolding_all rfl);refine wpAny_getItem_list_slice ht.isList (Heap.IsSliceOf.new ..) .none .none (.int (-1) t) (by decide) ?_ (by rw[fc] <;> omega);rw[PySem.W.krv_pick];refine⟨.ref _,_,I4.laid (t':=s3.toks) (o:=.lst xs.reverse) (λb ob q=>bQ _ q) (aO _) ?_,Z,q _ I4.fresh⟩;exact⟨by rw[List.length_reverse];exact hz,BT.reverse,0,r.reverse,c_ _ rfl⟩
def i9(K:Fg){X:Cx}{es:Cl Expr}{k:Nat}{t:zM}{n:Nat}{pos:Pos}(hc:X.calm=true)(h:R8 X es t)(hK:X.K=K:=by rfl)(hn:(assignEach es X.env).length=n:=by rfl)(hst:(assignEach es X.env).findIdx? (·.1)=none:=by rfl):bG X (.Tuple es k pos) (yr K n t):=by have h:=h.h;exact⟨hK▸Va hc h hn hst⟩
def s_(hu:X.A.units+1<cLine)(ho:bE X o td)(hi:bE X i ty)(hs:PZ i:=by exact λ_ _=>rfl):bE X (.Subscript o i pos) (YS td ty):=by have ho:=ho.h;have hi:=hi.h;constructor;intro AC s σ H Q I h;refine JN PySem.F.slot_dict_getitem.lookup hs (aX (ho AC s σ H _ I h) λu s1 ⟨x,H1,I1,rx,q1⟩=>aX (hi AC s1 σ H1 _ I1 q1) λiv s2 ⟨y,H2,I2,ry,a,v,ex,g,q2⟩=>?_);subst ex;obtain rfl:u=Value.ref a:=rx;exact⟨Iz I2 g,Nc hu I2 g ry λw' s3 I3 rw'=>⟨v,H2,I3,rw',q2⟩⟩
def aj:bA X [] E3:=by exact⟨λ_ _ _ _ H Q I h=>Calls.spliced_nil ⟨[],H,I,.nil,h⟩⟩
def au{i j pos}:bE X (.Constant (.int i) j pos) (tC (.int i)):=by exact⟨λ_ _ _ H _ I h=>wpAny_Constant_int ⟨.int i,H,I.tok _,⟨_,Z⟩,h⟩⟩
def vR{B2:Cl Expr}(ha:bE X a ta)(hb:bE X (.BoolOp .And (b::B2) pos) tb):bE X (.BoolOp .And (a::b::B2) pos) (Yv ta tb):=by
 have ha:=ha.h;have hb:=hb.h;constructor;intro AC s σ H Q I h;refine BoolOp_and (aX (ha AC s σ H _ I h) λv s1 ⟨x,H1,I1,r1,q1⟩=>?_);obtain⟨c,rfl,q1⟩:=q1;cases r1;refine yp ?_;cases c with
 | true=>exact hb AC s1 σ H1 Q I1 q1
 | false=>exact⟨.bl false,H1,I1,Z,q1⟩
def nW:bE X (.Dict [] [] pos) VR:=by
 exact⟨λAC s σ H Q I h=>
 wpAny_Dict_empty ⟨.ref s.heap.objs.size,_,I.laid (a:=s.heap.objs.size) (o:=.dK []) (t':=s.toks) (λ_ _ q=>bQ _ q) (aO _) (Qf s.heap I.big),Z,h _ (I.hok.fresh (aO _))⟩⟩
def Oi{tg e:Expr}{te:TE}{g:TG}(he:bE X e te)(hg:bG X tg g)(hs:swapsWithSole [tg] e pos.line X.env=pure false:=by rfl)(hw:swappedStores [tg] e X.env=pure none:=by rfl)(h1:(assignEach [tg] X.env).map (·.2)=[assign tg X.env] :=by rfl):bS X (.Assign [tg] e pos) (E2 te g):=by have he:=he.h;have hg:=hg.h;constructor;intro AC s σ H D I h;refine wpAny_Assign_stores (aX (he AC s σ H _ I h) λv s1 ⟨x,H1,I1,r1,q1⟩=>?_) hs hw;rw[h1];exact aX (hg AC s1 σ H1 x v _ I1 r1 q1) λ_ s2 q=>q
def yL{Ch:Cl Expr}{kk:Nat}{tpos:Pos}{ob:Expr}{td:TE}{Bz cpos:Pos}(hob:bE X ob td)(hbase:attributeBase ob "items" X.env (eval ob X.env)=eval ob X.env:=by rfl)(hline:(Bz.endLine==cpos.line)=true:=by rfl):bI X (.Tuple Ch kk tpos) (.Call (.Attribute ob "items" Bz) [] [] cpos) (Wg td):=by
 have hob:=hob.h;constructor;intro AC s σ H R I h;refine wpAny_Call_method0_late hbase hline (aX (hob AC s σ H _ I h) λv s1 ⟨x,H1,I1,r1,q1⟩=>?_);obtain⟨d,o,AT,rfl,e,fin⟩:=q1;cases r1;obtain⟨ho,hz,hsys,vs,ep,rel,da⟩:=I1.oz e;obtain⟨t1,t2,_⟩:=Fc I1 (.inl ⟨AT,.inr ⟨o,e⟩⟩);have dd:=da.dictOf;refine⟨"dict",_,F.plainAttrs_dict,F.slot_dict_items,F.type_dict_items,t1,t2,K0 rfl (PySem.evalArgs_none ?_)⟩;refine call_meetsIn F.slot_dict_items dd.typeIs F.entry_dict_items (F.args_dict_items_1 _) (meets_dict_items (bZ X.prog X.w) d hsys) ⟨⟨vs,dd⟩,?_⟩;refine wpAny_pyIter_items (s:={ s1 with heap:=s1.heap.push { cls:=.type "dict_items",data:=.fields #[.ref d] } }) ⟨_,c_ _ rfl,Z,Z⟩ (da.push _) ?_;have Iv:Inv X AC σ H1 { s1 with heap:=s1.heap.push { cls:=.type "dict_items",data:=.fields #[.ref d] } }:=I1.kept (t':=s1.toks) λb o e=>bQ _ e;generalize ({ s1 with heap:=s1.heap.push { cls:=.type "dict_items",data:=.fields #[.ref d] } }:Shared)=sv at *;have I2:Inv X AC σ H1 { sv with heap:=sv.heap.push { cls:=.type "dict_itemiterator",data:=.fields #[.none,.bool false,.ref d,.int 0 0,.int vs.length 0,.int ep 0,.none,.none] } }:=Iv.kept (t':=sv.toks) λb o e=>bQ _ e;have hl:AT.length=vs.length:=rel.length;obtain⟨o',es,h1,_,h2,_⟩:=id da;rw[ho]at h1;cases h1;refine⟨sv.heap.objs.size,[sv.heap.objs.size],_,_,H1,Z,I2,LK h2,?_,λb hb=>?_,fin⟩
 .rw [hl];exact⟨_,_,c_ _ rfl⟩
 .have eb:b=sv.heap.objs.size:=by simpa using hb
  subst eb;exact Iv.yt (aO _) (Iv.hok.fresh (aO _))
def WX{tg:Expr}{l:Expr}{tl:TE}(hl:bE X l tl):bI X tg l (V_ tl):=⟨Wa hl.h⟩
def jV(ha:bT X a tA):bW X (.BoolOp .Or [a] pos) tA:=by
 have ha:=ha.h;constructor;intro wh AC s σ H Q I h;refine isTrue_or (aX (ha AC s σ H Q I h) λc s1 e=>?_);cases c with
 | false=>exact isTrue_or_nil e
 | true=>exact e
def tD{X:Cx}{st:Stmt}{t:TS}(h:bS X st t):bS X st (abF t):=by
 have h:=h.h;constructor;intro AC s σ H D I hw;obtain⟨d,AT,e,hw⟩:=hw;obtain⟨ho,es,ep,h1,_⟩:=(EB I.hok e).2.2.choose_spec.2;have h0:=I.ND e;refine aX (h AC s σ _ _ (I.freeze e h1) (hw ho)) λf s' q=>?_;cases f with
 | next=>obtain⟨σ',H',I',q1,q2⟩:=q;exact⟨σ',_,I'.yD q1 h0,q2⟩
 | brk=>obtain⟨σ',H',I',q1,q2⟩:=q;exact⟨σ',_,I'.yD q1 h0,q2⟩
 | cont=>obtain⟨σ',H',I',q1,q2⟩:=q;exact⟨σ',_,I'.yD q1 h0,q2⟩
 | ret u=>obtain⟨v,σ',H',I',r,q1,q2⟩:=q;exact⟨v,σ',_,I'.yD q1 h0,r,q2⟩
def tE(hu:X.A.units+1<cLine)(ho:bE X o td)(hi:bE X i ty)(hv:bE X value tv)(hs:swapsWith value (some (.Subscript o i pos')) pos.line X.env=pure false):bS X (.Assign [.Subscript o i pos'] value pos) (YU td ty tv):=by have ho:=ho.h;have hi:=hi.h;have hv:=hv.h;constructor;intro AC s σ H D I h;refine wpAny_Assign_Subscript (aX (hv AC s σ H _ I h) λr s1 ⟨v,H1,I1,rv,q1⟩=>aX (ho AC s1 σ H1 _ I1 q1) λu s2 ⟨x,H2,I2,rx,q2⟩=>aX (hi AC s2 σ H2 _ I2 q2) λiv s3 ⟨y,H3,I3,ry,a,H4,ex,g,q3⟩=>?_) hs;subst ex;obtain rfl:u=Value.ref a:=rx;exact Nf hu I3 g ry rv λs4 I4=>⟨σ,H4,I4,q3⟩
def qv(i:Nat){x:Str}{pos:Pos}(hN:X.N[i]?=some x:=by rfl)(hv:RB X.env.scope x:=by first|exact Or.inl rfl|exact Or.inr (Or.inl rfl)|exact Or.inr (Or.inr rfl))(hd:(x==("__debug__":Str))=false:=by decide)(hcd:(x==("__classdict__":Str))=false:=by decide):bE X (.Name x pos) (U0 i):=by exact⟨U1 hN hv hd hcd⟩
def aN{id:String}(hc:fJ X (.builtin id) r)(hg:Gl X x)(hm:X.mg x=none)(hv:bootBuiltins x=some (.builtin id))(ha:bA X (e::es) t)(hn:x ≠ "__name__":=by decide)(hdb:(x==("__debug__":Str))=false:=by decide)(he:starEach (e::es) X.env=(false,eval e X.env)::starEach es X.env:=by rfl)(hpl:(backTo pos (starEach es X.env)).any (·.1)=false:=by rfl):bE X (.Call (.Name x p) (e::es) [] pos) (ZT r t):=by have ha:=ha.h;constructor;intro AC s σ H Q I h;refine EN (qg I hg hm hv ?_ hn hdb);exact PyProof.Rows.callWith_builtin1 (aX (ha pos AC s σ H _ I h) λus s1 ⟨vs,H1,I1,r1,q1⟩=>hc AC s1 σ H1 vs us Q I1 r1 q1) he hpl
def Oj{o i:Expr}{to ti:TE}{t:E1}(ho:bE X o to)(hi:bE X i ti)(hs:U8 X t)(ha:∀v,assign (.Subscript o i pos) X.env v=(do
   let ov <-holding [v] (eval o X.env)
   let iv <-holding [v,ov] (eval i X.env)
   standAt pos
   holding [v,ov,iv] (setItem ov iv v)
   release [v,ov,iv] []):=by intro _;rfl):bG X (.Subscript o i pos) (abk to ti t):=by
 have ho:=ho.h;have hi:=hi.h;constructor
 intro AC s σ H v u Q I r h
 rw[ha]
 refine ao (wI (aX (ho AC s σ H _ I h) λov s1 ⟨x,H1,I1,r1,q1⟩=>?_))
 refine ao (wI (aX (hi AC s1 σ H1 _ I1 q1) λiv s2 ⟨y,H2,I2,r2,q2⟩=>?_))
 refine ao (wJ (ao (wI (aX (hs AC s2 σ H2 x y v ov iv u _ I2 r1 r2 r q2) λ_ s3 ⟨H3,I3,q3⟩=>?_))))
 exact wpAny_release ⟨σ,H3,I3,q3⟩
def cX{st:Stmt}:bS X st U7:=by exact⟨λ_ _ _ _ _ _ h=>h.elim⟩
def Ol{j k:Nat}{x:Str}{C:Addr}{ps:Cl Str}{sp:Sp}{p pos:Pos}(D:Cn X.prog X.w X.K X.mg X.base j x C ps sp)(hr:dg k X.A)(hj:j+1<=k:=by decide)(hg:Gl X x:=by rfl)(hdb:(x==("__debug__":Str))=false:=by decide):bE X (.Call (.Name x p) [] [] pos) (Ez C sp [] E0 E3):=by constructor;obtain⟨f,fd,F,b,M,m⟩:=D.ex;exact PL M F (hr.mono hj) hg m b .nil (λ_ _ _ _ _ _ _ h=>h.elim) hdb
def af(ha:bE X e te)(hr:bA X es t)(hs:starEach (e::es) X.env=(false,eval e X.env)::starEach es X.env:=by rfl):bA X (e::es) (YH te t):=by have ha:=ha.h;have hr:=hr.h;constructor;intro pos AC s σ H Q I h;rw[hs];show wpAny _ _ (spliced ((false,eval e X.env)::backTo pos (starEach es X.env))) _ _ s;refine Calls.spliced_cons (aX (ha AC s σ H _ I h) λu s1 ⟨x,H1,I1,r1,q1⟩=>?_);exact aX (hr pos AC s1 σ H1 _ I1 q1) λus s2 ⟨xs,H2,I2,r2,q2⟩=>⟨x::xs,H2,I2,.cons r1 r2,q2⟩
def Ug(hi:bE X i ty)(ho:bE X o td):bC X .In i o (Zi X.prog X.w X.K ty td):=by have hi:=hi.h;have ho:=ho.h;constructor;intro AC s σ H Q I h;refine aX (hi AC s σ H _ I h) λiv s1 ⟨y,H1,I1,ry,q1⟩=>aX (ho AC s1 σ H1 _ I1 q1) λu s2 ⟨x,H2,I2,rx,a,ov,ex,g,q2⟩=>?_;subst ex;obtain rfl:u=Value.ref a:=rx;obtain⟨hsys,AT,vs,k,ob,ey,rel,l,hk,hd⟩:=g;subst ey;have dd:s2.heap.DictOf (bZ X.prog X.w) a vs:=Heap.dictOf_iff.mpr ⟨ob,I2.iH a ob hk,hd⟩;refine wpAny_in_of (rD ry) hsys dd.mapOf ?_;rw[<-(rel.val k).jQ,<-l];exact⟨.bl ov.isSome,H2,I2.tok _,Z,q2⟩
def aQ(K:Fg){e:Expr}{f:Str}{ta:TE}{pos:Pos}(he:bE X e ta)(hb:attributeBase e f X.env (eval e X.env)=eval e X.env:=by rfl)(hK:X.K=K:=by rfl):bE X (.Attribute e f pos) (Vk K ta f):=by have he:=he.h;exact⟨hK▸Vn he hb⟩
def tF{op:CmpOp}{r:R2}(ho:gq X (compareOp op) r)(ha:bE X a ta)(hb:bE X b tb)(hm:behindInMarks op b=false):bE X (.Compare a [op] [b] pos) (RL r ta tb):=by have ha:=ha.h;have hb:=hb.h;constructor;intro AC s σ H Q I h;exact wpAny_Compare1 (Px ha hb I h λv u s2 x y H2 I2 rx ry q=>ho AC s2 σ H2 x y v u Q I2 rx ry q) hm
def bY{j k:Nat}{x:Str}{ps:Cl Str}{sp:Sp}{e:Expr}{es:Cl Expr}{t:TA}{p pos:Pos}(D:Dn X.prog X.w X.K X.mg X.base j x ps sp)(hr:dg k X.A)(ha:bA X (e::es) t)(hj:j<=k:=by decide)(hg:Gl X x:=by rfl)(hdb:(x==("__debug__":Str))=false:=by decide)(he:starEach (e::es) X.env=(false,eval e X.env)::starEach es X.env:=by rfl)(hpl:(backTo pos (starEach es X.env)).any (·.1)=false:=by rfl):bE X (.Call (.Name x p) (e::es) [] pos) (RM sp [] E0 t):=by have ha:=ha.h;constructor;obtain⟨f,fd,F,b,kp,m⟩:=D.ex;exact S0 F (hr.mono hj) hg m kp b .nil (λ_ _ _ _ _ _ _ h=>h.elim) ha hdb he hpl
def Om{B2:Cl Expr}(ha:bT X a tA)(hb:bW X (.BoolOp .And (b::B2) pos) RG):bW X (.BoolOp .And (a::b::B2) pos) (abe tA RG):=by
 have ha:=ha.h;have hb:=hb.h;constructor;intro wh AC s σ H Q I h;refine isTrue_and (aX (ha AC s σ H _ I h) λc s1 ⟨H1,I1,q1⟩=>?_);cases c with
 | true=>exact hb wh AC s1 σ H1 Q I1 q1
 | false=>exact⟨H1,I1,q1⟩
section
variable {P:Program}{w:World}{K:Fg}{mg:SO}{base:Heap}{f C:Addr}{fd:FuncData}{N ps:Cl Str}{k:Nat}{sp:Sp}{x m qual:Str}{st:Stmt}
def dD{N P:Cl Str}{sc:Scope}(a:sc.kind =.function:=by rfl)(b:sc.isCoroutine=false:=by rfl)(c:sc.isGenerator=false:=by rfl)(d:N.Nodup:=by decide +kernel)(e:N.take P.length=P:=by rfl)(f:∀x∈P,sc.names.lookup x=some .local\/sc.names.lookup x=some .cell:=by decide +kernel)(g:∀y∈sc.names,y.2 ≠ .free:=by decide +kernel):aS N P sc:=⟨a,b,c,d,e,f,g⟩
def At.oA(F:At K mg x st f fd)(S:aS N ps (aC st))(B1:∀(cdv:Value) (A:Around) (outer:Cl Env) (s:Shared) (H:Hp) (vs:Cl V) (Q:VK) (E:XK),dg k (A.deeper (envOfC x (aC st) s.heap.objs.size f cdv))->sp vs H Q E->
    ∃t,rB (pe qh P w K mg base N x (aC st) f cdv A outer s H E).xR (cN st) t/\t { nx:=λ_ H'=>Q .b8 H',rt:=Q } (start N vs) H)(len:∀vs H Q E,sp vs H Q E->vs.length=ps.length:=by intro vs H Q E h;first|(cases h.ex;subst_vars;rfl)|(have h:=h.ex;(repeat first|(obtain⟨rfl,_⟩:=h;rfl)|(obtain⟨_,h⟩:=h));done)|(repeat first|(obtain⟨rfl,_⟩:=h;rfl)|(obtain⟨_,h⟩:=h)))(h:∀(kV doc pm:Value) (an:Option Addr) (cdv ct:Value) (us:Cl Value),us.length=ps.length->bindArgs (PySem.W.fnOf x x (dS st) (cN st) (aC st) .none kV doc pm an cdv ct) ⟨us,[]⟩=pure (ps.zip us):=by intro _ _ _ _ _ _ us hl;repeat' (first|rfl|(simp at hl;done)|(rcases us with _|⟨_,us⟩))):Dn P w K mg base (k+1) x ps sp:=F.ok S len B1 h
def jw.oA(F:jw K C m qual st f fd)(S:aS N ps (aC st))(B1:∀(cdv:Value) (A:Around) (outer:Cl Env) (s:Shared) (H:Hp) (vs:Cl V) (Q:VK) (E:XK),dg k (A.deeper (envOfC qual (aC st) s.heap.objs.size f cdv))->sp vs H Q E->
    ∃t,rB (pe qh P w K mg base N qual (aC st) f cdv A outer s H E).xR (cN st) t/\t { nx:=λ_ H'=>Q .b8 H',rt:=Q } (start N vs) H)(len:∀vs H Q E,sp vs H Q E->vs.length=ps.length:=by intro vs H Q E h;first|(cases h.ex;subst_vars;rfl)|(have h:=h.ex;(repeat first|(obtain⟨rfl,_⟩:=h;rfl)|(obtain⟨_,h⟩:=h));done)|(repeat first|(obtain⟨rfl,_⟩:=h;rfl)|(obtain⟨_,h⟩:=h)))(h:∀(kV doc pm:Value) (an:Option Addr) (cdv ct:Value) (us:Cl Value),us.length=ps.length->bindArgs (PySem.W.fnOf m qual (dS st) (cN st) (aC st) .none kV doc pm an cdv ct) ⟨us,[]⟩=pure (ps.zip us):=by intro _ _ _ _ _ _ us hl;repeat' (first|rfl|(simp at hl;done)|(rcases us with _|⟨_,us⟩))):Mn P w K mg base (k+1) C m ps sp:=F.ok S len B1 h
def CS.oA(F:CS K mg x C qual st f fd)(S:aS N ps (aC st))(B1:∀(cdv:Value) (A:Around) (outer:Cl Env) (s:Shared) (H:Hp) (vs:Cl V) (Q:VK) (E:XK),dg k (A.deeper (envOfC qual (aC st) s.heap.objs.size f cdv))->sp vs H Q E->
    ∃t,rB (pe qh P w K mg base N qual (aC st) f cdv A outer s H E).xR (cN st) t/\t { nx:=λ_ H'=>Q .b8 H',rt:=Q } (start N vs) H)(len:∀vs H Q E,sp vs H Q E->vs.length=ps.length:=by intro vs H Q E h;first|(cases h.ex;subst_vars;rfl)|(have h:=h.ex;(repeat first|(obtain⟨rfl,_⟩:=h;rfl)|(obtain⟨_,h⟩:=h));done)|(repeat first|(obtain⟨rfl,_⟩:=h;rfl)|(obtain⟨_,h⟩:=h)))(h:∀(kV doc pm:Value) (an:Option Addr) (cdv ct:Value) (us:Cl Value),us.length=ps.length->bindArgs (PySem.W.fnOf "__init__" qual (dS st) (cN st) (aC st) .none kV doc pm an cdv ct) ⟨us,[]⟩=pure (ps.zip us):=by intro _ _ _ _ _ _ us hl;repeat' (first|rfl|(simp at hl;done)|(rcases us with _|⟨_,us⟩))):Cn P w K mg base (k+1) x C ps sp:=F.ok S len B1 h
end
inductive Zs(e:Ec)(vs:Cl V)(H:Hp)(Q:VK)(E:XK):Prop
 |mk(a:Int)(_:vs=[.int a])(_:(a<1->Rf e E H 5))(_:(1<=a->Q .b8 H))
def GA(e:Ec):Sp:=bx (Zs e)
inductive Zt(e:Ec)(vs:Cl V)(H:Hp)(Q:VK)(E:XK):Prop
 |mk(m a:Int)(_:vs=[.int m,.int a])(_:(a<1->Rf e E H 5))(_:(1<=a->m<a->Rf e E H 6))(_:(1<=a->a<=m->Q .b8 H))
def Oo(e:Ec):Sp:=bx (Zt e)
theorem Dn.imp{P:Program}{w:World}{K:Fg}{mg:SO}{base:Heap}{k:Nat}{x:Str}{ps:Cl Str}{sp M1:Sp}(D:Dn P w K mg base k x ps sp)(h:∀vs H Q E,M1 vs H Q E->sp vs H Q E):Dn P w K mg base k x ps M1:=by obtain⟨f,fd,F,b,kp,m⟩:=D.ex;exact⟨f,fd,F.imp h,b,kp,m⟩
def uF{st:HS}{x:Str}(h:x∈iu st):∃(i:Nat)(p:Pt),st.ah[i]?=some p/\p.nm=x:=by obtain⟨p,hp,e⟩:=bu.mp h;obtain⟨i,hi,ei⟩:=oZ hp;exact⟨i,p,by rw[a_ hi,ei],e⟩
def Oq{st:HS}(wf:Wf st){x:Str}{f:Pt->Pt}(h:∀p∈st.ah,p.nm=x->(f p).nm=p.nm/\(f p).ow=p.ow/\(f p).sc=p.sc/\(f p).row=p.row/\1<=(f p).wo/\0<=(f p).we):Wf (vL st x f):=by
 have P:∀{M:Pt->Prop},(∀p∈st.ah,p.nm=x->M (f p))->(∀p∈st.ah,M p)->∀p∈(vL st x f).ah,M p:=λa c p hp=>by
  obtain⟨q,hq,rfl⟩:=bu.mp (show p∈st.ah.map _ from hp);by_cases e:q.nm=x
  .rw [aB e];exact a q hq e
  .rw [aA e];exact c q hq
 have en:(vL st x f).ah.map (λp:Pt=>p.nm)=st.ah.map (λp:Pt=>p.nm):=by
  show(st.ah.map _).map _=_;rw[gY];refine rY λp hp=>?_;show(if p.nm=x then f p else p).nm=p.nm;by_cases e:p.nm=x
  .rw [aB e];exact(h p hp e).1
  .rw [aA e]
 refine⟨wf.jT,wf.ux,?_,P (λp hp e=>?_) wf.sub,P (λp hp e=>?_) wf.rows,P (λp hp e=>?_) wf.ow,wf.dQ,wf.qx,wf.c6,wf.mS,wf.qy,wf.mT,wf.uy,?_,wf.vA,wf.vB,wf.JT,wf.big,wf.lM,P (λp hp e=>?_) wf.mU,P (λp hp e=>?_) wf.kF,P (λp hp e=>?_) wf.mV,P (λp hp e=>?_) wf.kP,wf.BN⟩
 .show ((vL st x f).ah.map (λp:Pt=>p.nm)).Nodup;rw[en];exact wf.iD
 .show (f p).nm∈st.nms;rw[(h p hp e).1];exact wf.sub p hp
 .rw [(h p hp e).2.2.2.1];exact wf.rows p hp
 .show (f p).ow∈st.own;rw[(h p hp e).2.1];exact wf.ow p hp
 .show (st.ah.map _).length<=1000;rw[aH];exact wf.nQ
 .rw [(h p hp e).2.2.1];exact wf.mU p hp
 .rw [(h p hp e).2.2.2.1];exact wf.kF p hp
 .rw [(h p hp e).2.2.2.1,(h p hp e).2.2.1];exact wf.mV p hp
 .exact (h p hp e).2.2.2.2
theorem Ot{st:HS}{x:Str}{a:Int}(h:EE st x a=none):x∈iu st/\1<=a:=by
 unfold EE at h;by_cases hm:x∈iu st
 .rw [aB hm]at h;by_cases c:a<1
  .rw [aB c]at h;cases h
  .exact ⟨hm,by omega⟩
 .rw [aA hm]at h;cases h
structure QS(st:HS):Prop where
 big:Jm.Sz 60 (aq st)
 prod:Jm.Sz 7900 st.prod
 bN:∀u∈st.bN,Jm.Sz 8900 u
 stp:st.stp.length<100
def vf(st:HS)(o:Str)(a:Int):Cl Int:=(List.replicate st.own.length 0).set (st.own.idxOf o) (a*st.prod)
theorem AF{st:HS}{o:Str}{a:Int}(h:Ax st o a=none):o∈st.own/\1<=a/\a<aq st:=by
 unfold Ax at h;split at h
 .split at h
  .cases h
  .split at h
   .cases h
   .exact ⟨by assumption,by omega,by omega⟩
 .cases h
def QT{st:HS}{o:Str}{a m:Int}(h:m∈vf st o a):m=0\/m=a*st.prod:=by
 rcases KP h with z|z
 .exact .inl (List.eq_of_mem_replicate z)
 .exact .inr z
def QU(st:HS)(o:Str)(a:Int):(vf st o a).length=st.own.length:=by unfold vf;rw[jI,jh]
theorem QS.blend{st:HS}{o:Str}{a:Int}(w:QS st)(wf:Wf st)(h1:1<=a)(h2:a<aq st):l9 st (aq st-a) (aq st) a (vf st o a):=by have p1:=wf.c6;refine⟨by omega,by omega,by omega,by rw[QU,wf.dQ],λm hm=>?_,w.prod,w.big,w.bN,w.stp⟩;have:0<=a*st.prod:=t9 (by omega) (by omega);rcases QT hm with z|z <;> omega
def QV(n j:Nat):(List.replicate n (0:Int)).getD j 0=0:=by rw[dP,yl];split <;> rfl
def QW{st:HS}{y:Str}(h:newR st y=none):isNm y=true/\y∉st.nms:=by
 unfold newR at h;split at h
 .split at h
  .cases h
  .exact ⟨by assumption,by assumption⟩
 .cases h
theorem AG{st:HS}{x y:Str}{a we:Int}(h:Az st x y a we=none):x∈iu st/\(isNm y=true/\y∉st.nms)/\1<=a/\0<=we/\a<(bF st x).wo/\we<=(bF st x).we:=by
 unfold Az at h;split at h
 .cases hf:newR st y with
  | some j=>rw[hf]at h;cases h
  | none=>
   rw[hf]at h;have h':(if a<1\/we<0 then some 5 else if(bF st x).wo<=a\/(bF st x).we<we then some 6 else none)=none:=h;split at h'
   .cases h'
   .split at h'
    .cases h'
    .exact ⟨by assumption,QW hf,by omega,by omega,by omega,by omega⟩
 .cases h
theorem QX{st:HS}{x y:Str}{a we:Int}(wf:Wf st)(h:Az st x y a we=none)(h2:st.nms.length<1000)(h3:st.ah.length<1000):Wf (vM st x y a we):=by
 obtain⟨hx,⟨_,hy⟩,h4,h5,h6,h7⟩:=AG h;obtain⟨i,p0,ei,e0⟩:=uF hx;have hp:=cg ei;have eg:=b_ wf hp e0;have w1:Wf (vL st x λp=>{ p with wo:=p.wo-a,we:=p.we-we }):=Oq wf λp eO e=>by rw[BU wf eO hp (e.trans e0.symm)];rw[eg]at h6 h7;exact⟨Z,Z,Z,Z,by show 1<=p0.wo-a;omega,by show 0<=p0.we-we;omega⟩
 unfold vM;rw[eg];exact J1 w1 hy h2 (by show(st.ah.map _).length<1000;rw[aH];exact h3) (wf.rows p0 hp) (wf.ow p0 hp) (wf.mU p0 hp) (wf.kF p0 hp) (wf.mV p0 hp) ⟨h4,h5⟩
def Dh{st:HS}{x o:Str}(h:EF st x o=none):x∈iu st/\o∈st.own:=by
 unfold EF at h;split at h
 .split at h
  .exact ⟨by assumption,by assumption⟩
  .cases h
 .cases h
theorem AH:∀{l:Cl Int},(∀t∈l,0<=t)->0<=l.sum/\∀t∈l,t<=l.sum
 | [],_=>⟨gR _,λt h=>by cases h⟩
 | a::l,h=>by
  obtain⟨h1,h2⟩:=AH (l:=l) λt ht=>h t (ck _ ht);have h0:=h a cD;refine⟨by show 0<=a+l.sum;omega,λt ht=>?_⟩;show t<=a+l.sum;rcases cV.mp ht with rfl|ht
  .omega
  .have:=h2 t ht;omega
def R_{l:Cl Int}{i:Nat}{v:Int}(h:∀t∈l,0<=t)(hv:0<=v):∀t∈l.set i v,0<=t:=λt ht=>by
 rcases KP ht with z|z
 .exact h t z
 .rw [z];exact hv
def GB{l:Cl Int}(h:∀t∈l,0<=t)(i:Nat):0<=l.getD i 0:=by
 rw[dP];cases e:l[i]? with
 | none=>exact gR _
 | some v=>exact h v (cg e)
def Kg(l:Cl Int)(i j:Nat):Cl Int:=(l.set j (l.getD j 0+l.getD i 0)).set i 0
def Kh(l:Cl Int)(i j:Nat):(Kg l i j).length=l.length:=by unfold Kg;rw[jI,jI]
theorem Uh{l:Cl Int}{i j:Nat}(hi:i<l.length)(hj:j<l.length)(ne:i≠j):(Kg l i j).sum=l.sum:=by unfold Kg;rw[sum_set _ _ _ (by rw[jI];exact hi),sum_set _ _ _ hj,yy _ _ _ _ hj,aA ne];omega
def Ui{l:Cl Int}{i j:Nat}(h:∀t∈l,0<=t):∀t∈Kg l i j,0<=t:=R_ (R_ h (Int.add_nonneg (GB h _) (GB h _))) (gR _)
theorem GC{st:HS}{tops:Cl Int}(h:tops.length=st.aW.length):List.zipWith (λr c=>(1:Int)*r+c) (mX st tops) st.aW=tops:=by
 unfold mX;generalize st.aW=cs at h
 induction tops generalizing cs with
 | nil=>rfl
 | cons t ts ih=>
  cases cs with
  | nil=>cases h
  | cons c cs=>have:=ih cs (Nat.succ.inj h);show(1*(t-c)+c)::_=t::ts;rw[this];congr 1;omega
def Ou{st:HS}(wf:Wf st){p:Pt}(hp:p∈st.ah):(aL st p).length=st.own.length:=by unfold aL;rw[gx,wf.rows p hp,wf.dQ,ua]
def xh(st:HS)(o:Str)(p:Pt):Pt:={ p with ow:=o,sc:=1,row:=mX st (kY st p o) }
def yM(st:HS)(p:Pt)(o:Str):kY st p o=Kg (aL st p) (st.own.idxOf p.ow) (st.own.idxOf o):=rfl
def Di{st:HS}(wf:Wf st){p:Pt}(hp:p∈st.ah)(o:Str):aL st (xh st o p)=kY st p o:=by
 have:(kY st p o).length=st.aW.length:=by rw[yM,Kh,Ou wf hp,wf.dQ]
 exact GC this
def GD{st:HS}(wf:Wf st){p:Pt}(hp:p∈st.ah){o:Str}(ho:o∈st.own)(ne:st.own.idxOf o≠st.own.idxOf p.ow)(hs:(aL st p).sum=st.prod):(∀t∈kY st p o,0<=t/\t<=st.prod)/\(kY st p o).sum=st.prod:=by
 have hl:=Ou wf hp;have h1:st.own.idxOf p.ow<(aL st p).length:=by rw[hl];exact ME (wf.ow p hp)
 have h2:st.own.idxOf o<(aL st p).length:=by rw[hl];exact ME ho
 have hp0:=Ui (i:=st.own.idxOf p.ow) (j:=st.own.idxOf o) λt ht=>(wf.mV p hp t ht).1;have hsum:=(Uh h1 h2 (cW ne)).trans hs;rw[yM];exact⟨λt ht=>⟨hp0 t ht,by rw[<-hsum];exact(AH hp0).2 t ht⟩,hsum⟩
theorem Uj{st:HS}{x o:Str}(wf:Wf st)(h:EF st x o=none)(hs:∀p∈st.ah,(aL st p).sum=st.prod):Wf (uE st x o):=by
 obtain⟨hx,ho⟩:=Dh h;obtain⟨i,p0,ei,e0⟩:=uF hx;have hp:=cg ei;have eg:=b_ wf hp e0;unfold uE;by_cases ne:st.own.idxOf o=st.own.idxOf (bF st x).ow
 .rw [aB ne];exact wf
 rw[aA ne];rw[eg]at ne;obtain⟨ft,_⟩:=GD wf hp ho ne (hs p0 hp);have uq:∀p∈st.ah,p.nm=x->p=p0:=λp eO e=>BU wf eO hp (e.trans e0.symm);have P:∀{M:Pt->Prop},M (xh st o p0)->(∀p∈st.ah,M p)->∀p∈(vL st x (xh st o)).ah,M p:=λa c p eO=>by
  obtain⟨q,hq,rfl⟩:=bu.mp (show p∈st.ah.map _ from eO);by_cases e:q.nm=x
  .rw [aB e,uq q hq e];exact a
  .rw [aA e];exact c q hq
 have hl:(kY st p0 o).length=st.own.length:=by rw[yM,Kh,Ou wf hp]
 have en:(vL st x (xh st o)).ah.map (λp:Pt=>p.nm)=st.ah.map λp:Pt=>p.nm:=by
  show(st.ah.map _).map _=_;rw[gY];refine rY λp _=>?_;show(if p.nm=x then xh st o p else p).nm=p.nm;by_cases e:p.nm=x
  .rw [aB e];rfl
  .rw [aA e]
 have p1:=wf.c6;refine⟨wf.jT,wf.ux,?_,P (wf.sub p0 hp) wf.sub,P ?_ wf.rows,P ho wf.ow,wf.dQ,wf.qx,wf.c6,wf.mS,wf.qy,wf.mT,wf.uy,?_,wf.vA,wf.vB,wf.JT,wf.big,wf.lM,P ⟨gR _,p1⟩ wf.mU,P ?_ wf.kF,P ?_ wf.mV,P (wf.kP p0 hp) wf.kP,wf.BN⟩
 .show ((vL st x (xh st o)).ah.map (λp:Pt=>p.nm)).Nodup;rw[en];exact wf.iD
 .show (mX st (kY st p0 o)).length=st.own.length;unfold mX;rw[gx,hl,wf.dQ,ua]
 .show (st.ah.map _).length<=1000;rw[aH];exact wf.nQ
 .intro r hr;obtain⟨t,ht,c,hc,rfl⟩:=qA (show r∈List.zipWith (λt c=>t-c) (kY st p0 o) st.aW from hr);have a1:=ft t ht;have a2:=wf.lM c hc;exact⟨by show -st.prod<=t-c;omega,by show t-c<=st.prod;omega⟩
 .intro t ht;have:t∈kY st p0 o:=by rw[<-Di wf hp];exact ht
  exact ft t this
theorem Kl:∀{l m:Cl Int}{a b:Int},l.length=m.length->(∀j,l.getD j 0*a=m.getD j 0*b)->l.sum*a=m.sum*b
 | [],[],_,_,_,_=>by show(0:Int)*_=0*_;rw[zL,zL]
 | x::l,y::m,a,b,e,h=>by have h0:x*a=y*b:=h 0;have:=Kl (l:=l) (m:=m) (Nat.succ.inj e) λj=>h (j+1);show(x+l.sum)*a=(y+m.sum)*b;rw[ud,ud,h0,this]
inductive Ov(T:TC)(vs:Cl V)(H:Hp)(Q:VK)(E:XK):Prop
 |mk(n ρ A st:_)(i:Nat)(p:Pt)(_:vs=[.ref A.a,.str p.nm])(_:HH T n ρ A H st)(_:st.ah[i]?=some p)(_:st.kn+100<=1000000)(_:∀r ws H',HH T n ρ A H' { st with kn:=st.kn+100 }->Fr n ρ H ρ H'->H r=none->H' r=some (.lst ws)->ρ r=none->jF H' ws (sW st p:_)->Q (.ref r) H')
def AI(T:TC):Sp:=bx (Ov T)
theorem Mn.imp{P:Program}{w:World}{K:Fg}{mg:SO}{base:Heap}{k:Nat}{C:Addr}{m:Str}{ps:Cl Str}{sp sp0:Sp}(D:Mn P w K mg base k C m ps sp)(h:∀vs H Q E,sp0 vs H Q E->sp vs H Q E):Mn P w K mg base k C m ps sp0:=by obtain⟨f,fd,F,r⟩:=D.ex;exact⟨f,fd,F.imp h,r⟩
structure WY(st:HS):Prop where
 kn:st.kn+100<=1000000
 dN:st.dN.length<1000
 wo:∀p∈st.ah,Jm.Sz 60 p.wo
 prod:Jm.Sz 7900 st.prod
 bN:∀u∈st.bN,Jm.Sz 8900 u
def Dj{st:HS}{x:Str}(h:Ay st x=none):x∈iu st:=by
 unfold Ay at h;split at h
 .assumption
 .cases h
def GF(st:HS)(p:Pt):Cl Int:=(oB st p).set (st.own.idxOf p.ow) ((oB st p).getD (st.own.idxOf p.ow) 0-p.wo*st.prod)
theorem QY{st:HS}(wf:Wf st){p:Pt}(hp:p∈st.ah){m:Nat}(h1:Jm.Sz 60 p.wo)(h2:Jm.Sz m st.prod)(h3:∀u∈st.bN,Jm.Sz (m+60) u):∀u∈oB st p,Jm.Sz (m+61) u:=λu hu=>by obtain⟨i,a,t,ea,et,rfl⟩:=rL (show u∈List.zipWith (λu t=>u+p.wo*t) st.bN (aL st p)from hu);have ht:=wf.mV p hp t (cg et);have zt:Jm.Sz m t:=h2.of_le (by omega);exact(h3 a (cg ea)).vf ((h1.mul zt).mono (by omega))
theorem Km{st:HS}(wf:Wf st){p:Pt}(hp:p∈st.ah){m:Nat}(h1:Jm.Sz 60 p.wo)(h2:Jm.Sz m st.prod)(h3:∀u∈st.bN,Jm.Sz (m+60) u):∀u∈GF st p,Jm.Sz (m+62) u:=λu hu=>by
 have g:=QY wf hp h1 h2 h3;rcases KP (show u∈(oB st p).set _ _ from hu)with z|z
 .exact (g u z).mono (by omega)
 .rw [z];have z0:Jm.Sz (m+61) ((oB st p).getD (st.own.idxOf p.ow) 0):=by
   rw[dP];cases e:(oB st p)[st.own.idxOf p.ow]? with
   | none=>exact(by show Jm.Sz (m+61) 0;unfold Jm.Sz;exact Nat.pow_pos (by decide))
   | some y=>exact g y (cg e)
  have:=z0.vf (((h1.mul h2).mono (by omega:60+m<=m+61)).neg);rw[Int.sub_eq_add_neg];exact this
def Ow{st:HS}(wf:Wf st){p:Pt}(hp:p∈st.ah):(oB st p).length=st.own.length:=by unfold oB;rw[gx,Ou wf hp,wf.qx,ua]
def GG{st:HS}(wf:Wf st){p:Pt}(hp:p∈st.ah):AA st p.nm={ st with ah:=st.ah.filter (λq=>decide (q.nm≠p.nm)),dN:=st.dN++[⟨p.nm,p.ow,p.wo,sW st p⟩],kn:=st.kn+100,bN:=GF st p }:=by unfold AA GF;rw[b_ wf hp rfl]
theorem Uk{st:HS}{x:Str}(wf:Wf st)(h:Ay st x=none)(l:WY st):Wf (AA st x):=by
 obtain⟨i,p,e1,rfl⟩:=uF (Dj h);have hp:=cg e1;rw[GG wf hp];have S:∀{M:Pt->Prop},(∀x∈st.ah,M x)->∀x∈st.ah.filter (λq=>decide (q.nm≠p.nm)),M x:=λh x hx=>h x (om.mp hx).1;have hf:=List.length_filter_le (λq:Pt=>decide (q.nm≠p.nm)) st.ah;refine⟨wf.jT,wf.ux,List.Nodup.sublist (List.Sublist.map _ List.filter_sublist) wf.iD,S wf.sub,S wf.rows,S wf.ow,wf.dQ,?_,wf.c6,wf.mS,wf.qy,wf.mT,wf.uy,?_,wf.vA,?_,l.kn,wf.big,wf.lM,S wf.mU,S wf.kF,S wf.mV,S wf.kP,?_⟩
 .show (GF st p).length=_;unfold GF;rw[jI,Ow wf hp]
 .have:=wf.nQ;show(List.filter _ _).length<=1000;omega
 .show (st.dN++[_]).length<=1000;rw[cO];exact l.dN
 .exact λu hu=>(Km wf hp (m:=8840) (l.wo p hp) (l.prod.mono (by decide)) (λu hu=>(l.bN u hu).mono (by decide)) u hu).mono (by decide)
inductive Ox(c:Nat)(own:Cl Str)(sh:Cl (Str×Rat)):Prop
 |mk(QZ:Cl Str)(tops:Cl Int)(b:Int)(_:QZ <+:own)(_:QZ.length=tops.length)(_:sh=cT QZ tops b)(_:∀t∈tops,0<=t)(_:tops.sum=b)(_:1<=b)(_:Jm.Sz (64*c+1) b)
theorem Ox.mono{c c':Nat}{own own':Cl Str}{sh:Cl (Str×Rat)}(h:Ox c own sh)(hc:c<=c')(ho:own <+:own'):Ox c' own' sh:=by obtain⟨o0,ts,b,h1,h2,h3,h4,h5,h6,h7⟩:=h;exact⟨o0,ts,b,h1.trans ho,h2,h3,h4,h5,h6,h7.mono (by omega)⟩
structure Go(c:Nat)(st:HS):Prop where
 bN:∀u∈st.bN,Jm.Sz (64*c+61) u
 stp:st.stp.length<=c
 prod:Jm.Sz (64*c+1) st.prod
 wo:∀p∈st.ah,p.wo<=1000000000000*((c:Int)+1)
 we:∀p∈st.ah,p.we<=1000000000
 pl:st.ah.length<=c
 kl:st.nms.length<=c
 ol:0<st.own.length
 nk:∀x∈st.nms,isNm x=true
 on:∀o∈st.own,isNm o=true
 sum:∀p∈st.ah,(aL st p).sum=st.prod
 al:st.dN.length<=c
 dN:∀a∈st.dN,Ox c st.own a.sh
theorem Go.mono{c:Nat}{st:HS}(g:Go c st):Go (c+1) st:=⟨λu hu=>(g.bN u hu).mono (by omega),by have:=g.stp;omega,g.prod.mono (by omega),λp hp=>by have:=g.wo p hp;omega,g.we,by have:=g.pl;omega,by have:=g.kl;omega,g.ol,g.nk,g.on,g.sum,by have:=g.al;omega,λa ha=>(g.dN a ha).mono (by omega) (List.prefix_refl _)⟩
theorem Kn:∀{ps:Cl Pt}{m:Int},(∀p∈ps,1<=p.wo/\p.wo<=m)->0<=(ps.map (·.wo)).sum/\(ps.map (·.wo)).sum<=m*(ps.length:Int)
 | [],m,_=>by show 0<=(0:Int)/\(0:Int)<=m*0;omega
 | p::ps,m,h=>by have h0:=h p cD;have ih:=Kn (ps:=ps) (m:=m) λx hx=>h x (ck _ hx);rw[br,bV,kC,show(((ps.length+1:Nat)):Int)=(ps.length:Int)+1 from by omega,pV,mH];omega
theorem Go.whole{c:Nat}{st:HS}(g:Go c st)(wf:Wf st)(hc:c<=91):0<=aq st/\Jm.Sz 60 (aq st):=by
 have h:=Kn (ps:=st.ah) (m:=92000000000000) λp hp=>⟨(wf.kP p hp).1,by have:=g.wo p hp;omega⟩
 have hl:=g.pl;have h2:(92000000000000:Int)*(st.ah.length:Int)<=92000000000000*91:=by omega
 have h3:aq st<=92000000000000*91:=Int.le_trans h.2 h2;have h1:0<=aq st:=h.1;exact⟨h1,(show Jm.Sz 60 (92000000000000*91:Int)from mQ (by decide +kernel)).of_le (by omega)⟩
theorem Go.aw{c:Nat}{st:HS}(g:Go c st)(wf:Wf st)(hc:c<=91):QS st:=⟨(g.whole wf hc).2,g.prod.mono (by omega),λu hu=>(g.bN u hu).mono (by omega),by have:=g.stp;omega⟩
theorem Go.sz{c:Nat}{st:HS}(g:Go c st)(wf:Wf st)(hc:c<=91):∀p∈st.ah,Jm.Sz 60 p.wo:=λp hp=>by have h:=g.wo p hp;have h1:=(wf.kP p hp).1;exact(show Jm.Sz 60 (92000000000000:Int)from mQ (by decide +kernel)).of_le (by omega)
theorem Go.ld{c:Nat}{st:HS}(g:Go c st)(wf:Wf st)(hc:c<=91)(hk:st.kn+100<=1000000):WY st:=⟨hk,by have:=g.al;omega,g.sz wf hc,g.prod.mono (by omega),λu hu=>(g.bN u hu).mono (by omega)⟩
theorem AJ{c:Nat}{st:HS}(g:Go c st){ps:Cl Pt}{ns:Cl Str}(h:∀p∈ps,(aL st p).sum=st.prod/\p.wo<=1000000000000*((c:Int)+2)/\p.we<=1000000000)(hl:ps.length<=c+1)(hn:ns.length<=c+1)(hk:∀x∈ns,isNm x=true):Go (c+1) { st with ah:=ps,nms:=ns }:=⟨g.mono.bN,g.mono.stp,g.mono.prod,λp hp=>by have:=(h p hp).2.1;omega,λp hp=>(h p hp).2.2,hl,hn,g.ol,hk,g.on,λp hp=>(h p hp).1,g.mono.al,g.mono.dN⟩
theorem Go.same{c:Nat}{st:HS}(g:Go c st){ps:Cl Pt}(h:∀p'∈ps,∃p∈st.ah,p'.row=p.row/\p'.sc=p.sc/\p'.wo<=p.wo+1000000000000/\p'.we<=p.we)(hl:ps.length<=c+1):Go (c+1) { st with ah:=ps }:=AJ g (ns:=st.nms) (λp' eO=>by obtain⟨p,hp,e1,e2,e3,e4⟩:=h p' eO;have w:=g.wo p hp;have v:=g.we p hp;exact⟨by have:=g.sum p hp;unfold aL at this ⊢;rw[e1,e2];exact this,by omega,by omega⟩) hl g.mono.kl g.nk
theorem GH{c:Nat}{st st':HS}{kept lost:Int}{added:Cl Int}(g:Go c st)(wf:Wf st)(bl:l9 st kept (aq st) lost added)(hs:added.sum=lost*st.prod)(hc:c<=90)(eC:st'={ aT st kept (aq st) added with ah:=st'.ah })(hp:∀p'∈st'.ah,∃p∈st.ah,p'.row=p.row/\p'.sc=p.sc*kept / bq st kept (aq st) added/\p'.wo<=p.wo/\p'.we=p.we)(hl:st'.ah.length<=st.ah.length):Go (c+1) st':=by
 have zw:=g.whole wf (by omega)
 obtain⟨hd,hsw,_,_⟩:=bl.dvds
 have w1:0<aq st:=by have:=bl.k;have:=bl.l;have:=bl.w;omega
 have s1:1<=aq st / bq st kept (aq st) added:=by have:=zC w1 hsw;exact K5 hd (by omega)
 have s2:aq st / bq st kept (aq st) added<=aq st:=El _ (by omega)
 have zs:Jm.Sz 60 (aq st / bq st kept (aq st) added):=zw.2.of_le (by omega)
 have ep:st'.prod=(aT st kept (aq st) added).prod:=by rw[eC]
 have ec:st'.aW=(aT st kept (aq st) added).aW:=by rw[eC]
 have epr:st'.prod=st.prod*(aq st / bq st kept (aq st) added):=by rw[ep];unfold aT;rw[p7 s1]
 have en:st'.nms=st.nms:=by rw[eC];show(aT st kept (aq st) added).nms=_;unfold aT;rw[C6]
 have eo:st'.own=st.own:=by rw[eC];show(aT st kept (aq st) added).own=_;unfold aT;rw[vG]
 have ea:st'.dN=st.dN:=by rw[eC];show(aT st kept (aq st) added).dN=_;unfold aT;rw[C7]
 have p1:=wf.c6
 have gm:=g.mono
 refine⟨λu hu=>?_,?_,?_,λp' eO=>?_,λp' eO=>?_,by have:=g.pl;omega,by rw[en];exact gm.kl,by rw[eo];exact g.ol,by rw[en];exact g.nk,by rw[eo];exact g.on,λp' eO=>?_,by rw[ea];exact gm.al,by rw[ea,eo];exact gm.dN⟩
 . rw[eC]at hu
   have hu:u∈(aT st kept (aq st) added).bN:=hu
   unfold aT at hu
   rw[C5]at hu
   obtain⟨x,hx,rfl⟩:=bu.mp hu
   exact((g.bN x hx).mul zs).mono (by omega)
 . rw[eC]
   show(aT st kept (aq st) added).stp.length<=c+1
   unfold aT dJ
   split
   . show(st.stp++[_]).length<=c+1
     rw[cO];have:=g.stp;show st.stp.length+1<=c+1;omega
   . exact gm.stp
 . rw[epr];exact(g.prod.mul zs).mono (by omega)
 . obtain⟨p,h0,_,_,e3,_⟩:=hp p' eO
   have:=gm.wo p h0
   omega
 . obtain⟨p,h0,_,_,_,e4⟩:=hp p' eO
   rw[e4];exact g.we p h0
 . obtain⟨p,h0,e1,e2,_,_⟩:=hp p' eO
   have tl:=jl wf h0
   have tl':(aL st' p').length=st.aW.length:=by unfold aL;rw[gx,e1,wf.rows p h0,<-wf.dQ,ec];unfold aT dY;rw[C4,aH,gx,bl.len];omega
   have r:=Kl (l:=List.zipWith (λt m=>t*kept+m) (aL st p) added) (m:=aL st' p') (a:=st'.prod) (b:=st.prod*aq st) (by rw[gx,tl,tl',bl.len];omega) λj=>by rw[nT (f:=λt m=>t*kept+m) (by show(0:Int)*_+0=0;omega) (by rw[tl,bl.len])];exact vI wf bl ec ep h0 e1 e2 (B:=st.prod) rfl rfl
   rw[Ka _ (by rw[tl,bl.len]),g.sum p h0,hs,mF lost,<-pV,<-bl.w,mF _ st'.prod]at r
   exact(Int.eq_of_mul_eq_mul_right (Int.ne_of_gt (uc (by omega) w1)) r).symm
theorem Dk:∀(rs:Cl Row)(s:HS),(∀r∈rs,1<=r.2)->∀p'∈(rs.foldl cE s).ah,∃p∈s.ah,∃w,p'={ p with wo:=w }/\w<=p.wo
 | [],s,_,p',h=>⟨p',h,p'.wo,Z,gR _⟩
 | r::rs,s,h1,p',h=>by
  obtain⟨p,hp,w,e,le⟩:=Dk rs (cE s r) (λx hx=>h1 x (ck _ hx)) p' h;obtain⟨_,q,hq,e2⟩:=qD hp;have:=h1 r cD;split at e2
  .subst e2;have le:w<=q.wo-r.2:=le;exact⟨q,hq,w,e,by omega⟩
  .subst e2;exact⟨p,hq,w,e,le⟩
theorem Dl:∀(rs:Cl Row)(s:HS),(rs.foldl cE s).ah.length<=s.ah.length
 | [],s=>aO _
 | r::rs,s=>by have:=Dl rs (cE s r);have h:=p9 (ps:=s.ah) (x:=r.1) (a:=r.2) |>.length_le;rw[aH,aH]at h;exact dj this h
theorem GI(k:Int):∀{xs ts:Cl Int},xs.length=ts.length->(List.zipWith (λx t=>x+k*t) xs ts).sum=xs.sum+k*ts.sum
 | [],[],_=>by simp
 | x::xs,t::ts,h=>by rw[ym,bV,bV,bV,GI k (by simpa using h),pV];omega
 | [],_::_,h=>by simp at h
 | _::_,[],h=>by simp at h
theorem Dm{st:HS}:∀(rs:Cl Row)(Ap:Cl Int),(∀r∈rs,(aL st (bF st r.1)).length=Ap.length/\(aL st (bF st r.1)).sum=st.prod)->(p8 st Ap rs).sum=Ap.sum+aJ rs*st.prod
 | [],Ap,_=>by show Ap.sum=Ap.sum+0*_;omega
 | r::rs,Ap,h=>by
  obtain⟨h1,h2⟩:=h r cD;have e:(List.zipWith (λx t=>x+r.2*t) Ap (aL st (bF st r.1))).length=Ap.length:=by rw[gx,h1];omega
  show(p8 st (List.zipWith (λx t=>x+r.2*t) Ap (aL st (bF st r.1))) rs).sum=_;rw[Dm rs _ (λx hx=>by rw[e];exact h x (ck _ hx)),GI _ h1.symm,h2,show aJ (r::rs)=r.2+aJ rs from by unfold aJ;rw[br,bV],ud];omega
theorem uG{st:HS}{r:Row}(h:uD st r=none):r.1∈iu st/\1<=r.2/\r.2<=(bF st r.1).wo:=by
 unfold uD at h;split at h
 .split at h
  .cases h
  .split at h
   .cases h
   .exact ⟨by assumption,by omega,by omega⟩
 .cases h
theorem Oz{st:HS}{rs:Cl Row}(h:m9 st rs=none):rs≠[]/\(rs.map λr:Row=>r.1).Nodup/\(∀r∈rs,uD st r=none)/\aJ rs<aq st:=by
 unfold m9 at h;split at h
 .next c=>
  split at h
  .cases h
  .next e=>
   split at h
   .cases h
   .exact ⟨c.1,c.2,λr hr=>List.findSome?_eq_none_iff.mp e r hr,by omega⟩
 .cases h
theorem Go.GJ{c:Nat}{st:HS}(g:Go c st)(wf:Wf st)(hc:c<=91){rs:Cl Row}(h:m9 st rs=none):i7 st rs:=by
 obtain⟨h1,h2,h3,h4⟩:=Oz h;have aw:=g.aw wf hc;refine⟨h2,h1,?_,λr hr=>?_,h4,aw.big,aw.prod,aw.bN,aw.stp⟩
 .have:=yC h2 (m:=iu st) (λx hx=>by obtain⟨r,hr,rfl⟩:=bu.mp hx;exact(uG (h3 r hr)).1);rw[aH]at this;unfold iu at this;rw[aH]at this;have:=g.pl;omega
 .obtain ⟨a1,a2,a3⟩:=uG (h3 r hr);obtain⟨i,p,e1,e2⟩:=uF a1;have hp:=cg e1;rw[b_ wf hp e2]at a3;have:=g.sz wf hc p hp;exact⟨a2,this.of_le (by omega),p,hp,e2,a3⟩
def WZ:Dd->Prop
 | .load _ _ wo we=>wo<=1000000000000/\we<=1000000000
 | .rise _ a=>a<=1000000000000
 | _=>True
def Ko{n i:Nat}{b:Int}(h:i<n):((List.replicate n (0:Int)).set i b).sum=b:=by
 have:=yd (l:=List.replicate n (0:Int)) (x:=b) (by rw[jh];exact h)
 rwa [QV,rm,Gk,rm]at this
theorem Ul{c:Nat}{st:HS}(g:Go c st)(wf:Wf st){x o:Str}{wo we:Int}(hx:isNm x=true)(ho:o∈st.own)(h1:wo<=1000000000000)(h2:we<=1000000000):Go (c+1) (Ag st x o wo we):=by
 refine AJ g (λp hp=>?_) (by rw[cO];have:=g.pl;show st.ah.length+1<=_;omega) (by rw[cO];have:=g.kl;show st.nms.length+1<=_;omega) (λy hy=>?_)
 .rcases eE.mp hp with z|z
  .have:=g.wo p z;exact⟨g.sum p z,by omega,g.we p z⟩
  .rw [eU.mp z];refine⟨?_,by show wo<=_;omega,h2⟩;unfold aL;show(List.zipWith (λr c=>(1:Int)*r+c) (mX st _) st.aW).sum=_;rw[GC (by rw[jI,jh,wf.dQ])];exact Ko (ME ho)
 .rcases eE.mp hy with z|z
  .exact g.nk y z
  .rw [eU.mp z];exact hx
theorem Um{c:Nat}{st:HS}(g:Go c st)(wf:Wf st)(hc:c<=90){rs:Cl Row}(h:m9 st rs=none):Go (c+1) (bX st rs):=by
 have ok:=g.GJ wf (by omega) h;have h1:∀r∈rs,1<=r.2:=λr hr=>(ok.row r hr).1;refine GH g wf (ok.blend wf) ?_ hc (l_ rs _) (λp' eO=>?_) ?_
 .have ex:∀r∈rs,∃p∈st.ah,p.nm=r.1:=λr hr=>by obtain⟨p,hp,e,_⟩:=(ok.row r hr).2.2;exact⟨p,hp,e⟩
  rw[rM wf ex,Dm,Gk,rm];intro r hr;obtain⟨p,hp,e⟩:=ex r hr;rw[b_ wf hp e,jh];exact⟨jl wf hp,g.sum p hp⟩
 .obtain ⟨p1,hp1,w,rfl,le⟩:=Dk rs _ h1 p' eO;unfold aT at hp1;rw[ir]at hp1;obtain⟨p,hp,rfl⟩:=bu.mp hp1;exact⟨p,hp,Z,Z,le,Z⟩
 .refine dj (Dl rs _) ?_;unfold aT;rw[ir,aH];exact aO _
theorem Q0{c:Nat}{st:HS}(g:Go c st)(wf:Wf st)(hc:c<=90){o:Str}{a:Int}(h:Ax st o a=none):Go (c+1) (Od st o a):=by
 obtain⟨ho,h1,h2⟩:=AF h;refine GH g wf ((g.aw wf (by omega)).blend (o:=o) wf h1 h2) (Ko (ME ho)) hc rfl (λp' eO=>?_) ?_
 .have eO:p'∈(aT st _ _ _).ah:=eO;unfold aT at eO;rw[ir]at eO;obtain⟨p,hp,rfl⟩:=bu.mp eO;exact⟨p,hp,Z,Z,gR _,Z⟩
 .show (aT st _ _ _).ah.length<=_;unfold aT;rw[ir,aH];exact aO _
def OA{st:HS}(wf:Wf st){c:Nat}(g:Go c st){p:Pt}(hp:p∈st.ah):Ox c st.own (sW st p):=⟨st.own,aL st p,st.prod,List.prefix_refl _,(Ou wf hp).symm,Z,λt ht=>(wf.mV p hp t ht).1,g.sum p hp,wf.c6,g.prod⟩
theorem Uo{c:Nat}{st:HS}(g:Go c st)(wf:Wf st)(hc:c<=91){x:Str}(h:Ay st x=none):Go (c+1) (AA st x):=by
 obtain⟨i,p,e1,rfl⟩:=uF (Dj h);have hp:=cg e1;rw[GG wf hp];have S:∀{M:Pt->Prop},(∀x∈st.ah,M x)->∀x∈st.ah.filter (λq=>decide (q.nm≠p.nm)),M x:=λh x hx=>h x (om.mp hx).1;have hf:=List.length_filter_le (λq:Pt=>decide (q.nm≠p.nm)) st.ah;have gm:=g.mono;refine⟨λu hu=>?_,gm.stp,gm.prod,S gm.wo,S g.we,dj hf gm.pl,gm.kl,g.ol,g.nk,g.on,S g.sum,?_,λa ha=>?_⟩
 .exact (Km wf hp (m:=64*c+1) (g.sz wf hc p hp) g.prod (λu hu=>(g.bN u hu).mono (by omega)) u hu).mono (by omega)
 .show (st.dN++[_]).length<=_;rw[cO];have:=g.al;show st.dN.length+1<=_;omega
 .rcases eE.mp (show a∈st.dN++[_]from ha)with z|z
  .exact gm.dN a z
  .rw [eU.mp z];exact(OA wf g hp).mono (by omega) (List.prefix_refl _)
theorem Up{c:Nat}{st:HS}(g:Go c st)(wf:Wf st){o:Str}(h:isNm o=true):Go (c+1) (dm st o):=by
 have gm:=g.mono;have P:∀p∈(dm st o).ah,∃p0∈st.ah,p={ p0 with row:=p0.row++[0] }:=λp hp=>by obtain⟨p0,h0,rfl⟩:=bu.mp (show p∈st.ah.map _ from hp);exact⟨p0,h0,Z⟩
 refine⟨λu hu=>?_,gm.stp,gm.prod,λp hp=>?_,λp hp=>?_,?_,gm.kl,?_,g.nk,λx hx=>?_,λp hp=>?_,gm.al,λa ha=>(gm.dN a ha).mono (aO _) (List.prefix_append _ _)⟩
 .rcases eE.mp (show u∈st.bN++[0]from hu)with z|z
  .exact gm.bN u z
  .rw [eU.mp z];exact(show Jm.Sz 1 (0:Int)from mQ (by decide +kernel)).mono (by omega)
 .obtain ⟨p0,h0,rfl⟩:=P p hp;exact gm.wo p0 h0
 .obtain ⟨p0,h0,rfl⟩:=P p hp;exact g.we p0 h0
 .show (st.ah.map _).length<=_;rw[aH];exact gm.pl
 .show 0<(st.own++[o]).length;rw[cO];exact jE g.ol (oj _ _)
 .rcases eE.mp (show x∈st.own++[o]from hx)with z|z
  .exact g.on x z
  .rw [eU.mp z];exact h
 .obtain ⟨p0,h0,rfl⟩:=P p hp;show(List.zipWith (λr c=>p0.sc*r+c) (p0.row++[0]) (st.aW++[0])).sum=st.prod;rw[CU _ (by rw[wf.rows p0 h0,wf.dQ]),List.sum_append,show(List.zipWith (λr c=>p0.sc*r+c) p0.row st.aW).sum=st.prod from g.sum p0 h0];simp
def uH{l:Cl Pt}{x:Str}{f:Pt->Pt}{p':Pt}(h:p'∈l.map λp=>if p.nm=x then f p else p):∃p∈l,(p.nm=x/\p'=f p)\/p'=p:=by
 obtain⟨p,hp,e⟩:=bu.mp h;by_cases c:p.nm=x
 .exact ⟨p,hp,.inl ⟨c,by rw[aB c]at e;exact e.symm⟩⟩
 .exact ⟨p,hp,.inr (by rw[aA c]at e;exact e.symm)⟩
theorem Zu{c:Nat}{st:HS}(g:Go c st)(wf:Wf st)(hc:c<=90){d:Dd}(hr:L3 st d=none)(db:WZ d):Go (c+1) (EG st d):=by
 have hl:=g.pl;cases d with
 | sign o=>
  have:Av st o=none:=hr;unfold Av at this;split at this
  .exact Up g wf (by assumption)
  .cases this
 | load x o wo we=>obtain⟨h1,_,h3,_,_⟩:=Dg hr;exact Ul g wf h1 h3 db.1 db.2
 | cast rs=>exact Um g wf hc hr
 | award o a=>exact Q0 g wf hc hr
 | mishap x a=>
  obtain⟨_,h1,_⟩:=uG (show uD st (x,a)=none from hr);have h1:1<=a:=h1;refine g.same (ps:=jk st.ah x a) (λp' eO=>?_) ?_
  .obtain ⟨_,p,hp,e⟩:=qD eO;split at e
   .exact ⟨p,hp,by rw[e],by rw[e],by rw[e];show p.wo-a<=_;omega,by rw[e];exact gR _⟩
   .exact ⟨p,hp,by rw[e],by rw[e],by rw[e];omega,by rw[e];exact gR _⟩
  .have h:=p9 (ps:=st.ah) (x:=x) (a:=a) |>.length_le;rw[aH,aH]at h;omega
 | rise x a=>
  have ha:a<=1000000000000:=db;refine g.same (λp' eO=>?_) (by rw[aH];omega);obtain⟨p,hp,⟨_,e⟩|e⟩:=uH eO
  .exact ⟨p,hp,by rw[e],by rw[e],by rw[e];show p.wo+a<=_;omega,by rw[e];exact gR _⟩
  .exact ⟨p,hp,by rw[e],by rw[e],by rw[e];omega,by rw[e];exact gR _⟩
 | hand x o=>
  obtain⟨hx,ho⟩:=Dh hr;show Go (c+1) (uE st x o);unfold uE;split
  .exact g.mono
  .next ne=>
   refine AJ g (ns:=st.nms) (λp' eO=>?_) (by rw[aH];omega) g.mono.kl g.nk;obtain⟨p,hp,⟨en,e⟩|e⟩:=uH eO
   .rw [b_ wf hp en]at ne;have:=g.wo p hp;refine⟨?_,by rw[e];show p.wo<=_;omega,by rw[e];exact g.we p hp⟩;rw[e,show aL st { p with ow:=o,sc:=1,row:=mX st (kY st p o) }=_ from Di wf hp o];exact(GD wf hp ho ne (g.sum p hp)).2
   .rw [e];have:=g.wo p hp;exact⟨g.sum p hp,by omega,g.we p hp⟩
 | land x=>exact Uo g wf (by omega) hr
 | sever x y a we=>
  obtain⟨hx,hy,h1,h2,h3,h4⟩:=AG hr;obtain⟨i,p0,e1,en⟩:=uF hx;have hp0:=cg e1;have w0:=g.wo p0 hp0;have v0:=g.we p0 hp0;show Go (c+1) (vM st x y a we);unfold vM;rw[b_ wf hp0 en]at h3 h4 ⊢;refine AJ g (λp' eO=>?_) (by rw[cO];show(List.map _ st.ah).length+1<=_;rw[aH];omega) (by rw[cO];have:=g.kl;show st.nms.length+1<=_;omega) (λz hz=>?_)
  .rcases eE.mp eO with z|z
   .obtain ⟨p,hp,⟨_,e⟩|e⟩:=uH z
    .rw [e];have:=g.wo p hp;have:=g.we p hp;exact⟨g.sum p hp,by show p.wo-a<=_;omega,by show p.we-we<=_;omega⟩
    .rw [e];have:=g.wo p hp;exact⟨g.sum p hp,by omega,g.we p hp⟩
   .rw [eU.mp z];exact⟨g.sum p0 hp0,by show a<=_;omega,by show we<=_;omega⟩
  .rcases eE.mp hz with w|w
   .exact g.nk z w
   .rw [eU.mp w];exact hy.1
 | still=>exact g.mono
theorem Zv{c:Nat}{st:HS}(g:Go c st)(wf:Wf st)(hc:c<=90)(hk:st.kn+100<=1000000)(ho:st.own.length<100){d:Dd}(hr:L3 st d=none):Wf (EG st d):=by
 have hl:=g.pl;have hn:=g.kl;cases d with
 | sign o=>
  have:Av st o=none:=hr;unfold Av at this;split at this
  .split at this
   .cases this
   .exact w6 wf (by assumption) ho
  .cases this
 | load x o wo we=>obtain⟨_,h2,h3,h4,h5⟩:=Dg hr;exact J3 wf h2 (by omega) (by omega) h3 h4 h5
 | cast rs=>exact J_ wf (g.GJ wf (by omega) hr)
 | award o a=>obtain⟨h0,h1,h2⟩:=AF hr;exact qC wf ((g.aw wf (by omega)).blend (o:=o) wf h1 h2)
 | mishap x a=>obtain⟨_,_,h1⟩:=uG (show uD st (x,a)=none from hr);exact J9 wf λp hp e=>by rw[b_ wf hp e]at h1;exact h1
 | rise x a=>have h1:=(Ot (show EE st x a=none from hr)).2;exact Oq wf λq hq _=>⟨Z,Z,Z,Z,by have:=(wf.kP q hq).1;show 1<=q.wo+a;omega,(wf.kP q hq).2⟩
 | hand x o=>exact Uj wf hr g.sum
 | land x=>exact Uk wf hr (g.ld wf (by omega) hk)
 | sever x y a we=>exact QX wf hr (by omega) (by omega)
 | still=>exact wf
def Uq(st:HS)(s:Int):(dJ st s).kn<=st.kn:=by
 unfold dJ;split
 .exact gP _
 .exact aO _
def Zw(st:HS)(d:Dd):(EG st d).kn<=st.kn+100:=by
 cases d with
 | cast rs=>exact dj (T9 st rs) (oj _ _)
 | award o a=>exact dj (Uq _ _) (oj _ _)
 | hand x o=>show(uE st x o).kn<=_;unfold uE;split <;> exact oj _ _
 | land x=>exact aO _
 | _=>exact oj _ _
def nwS(st:HS):Cl Row:=st.ah.map λp=>(p.nm,p.wo)
structure Nx(nms:Cl Str)(st:HS):Prop where
 t:st.nms=nms.take st.nms.length
 nd:nms.Nodup
 ok:∀x∈nms,isNm x=true
def Nx.next{nms:Cl Str}{st:HS}(h:Nx nms st){x:Str}(e:nms[st.nms.length]?=some x):isNm x=true/\x∉st.nms/\∀st':HS,st'.nms=st.nms++[x]->Nx nms st':=by
 refine⟨h.ok x (cg e),?_,λst' e'=>⟨?_,h.nd,h.ok⟩⟩
 .rw [h.t];exact sX h.nd e
 .rw [e',cO,show st.nms.length+[x].length=st.nms.length+1 from rfl,take_snoc e,<-h.t]
def GK{st:HS}(wf:Wf st):∀x∈f7 st,0<x.2.2.1:=λx hx=>by obtain⟨p,hp,rfl⟩:=bu.mp hx;exact(wf.kP p hp).1
theorem Kq:∀{rs:Cl Row}{i:Nat}{r:Row},rs[i]?=some r->(f_ rs)[2*i]?=some (.str r.1)/\(f_ rs)[2*i+1]?=some (.int r.2)
 | [],_,_,h=>by simp at h
 | x::rs,0,r,h=>by
  have e:x=r:=by simpa using h
  subst e;exact⟨Z,Z⟩
 | x::rs,i+1,r,h=>by obtain⟨a,b⟩:=Kq (rs:=rs) (i:=i) (by simpa using h);rw[show 2*(i+1)=2*i+1+1 by omega];exact⟨a,b⟩
theorem Ur{rs:Cl Row}{i:Nat}{r:Row}(h:rs[i]?=some r):(Dd.v (.cast rs))[1+2*i]?=some (.str r.1)/\(Dd.v (.cast rs))[2+2*i]?=some (.int r.2):=by obtain⟨a,b⟩:=Kq h;rw[show 1+2*i=2*i+1 by omega,show 2+2*i=2*i+1+1 by omega];exact⟨a,b⟩
def GL(rs:Cl Row):(Dd.v (.cast rs)).length=2*rs.length+1:=by show(f_ rs).length+1=_;rw[vO]
theorem W0(m:Nat):nP 1 ((2*m+1:Nat):Int) 2=m:=by unfold nP Builtin.Range.rangeSize;rw[aB (by decide)];split <;> omega
theorem WT.g{d:Dd}(h:WT d):WZ d:=by
 cases d with
 | load x o wo we=>obtain⟨_,_,⟨_,h1⟩,⟨_,h2⟩⟩:=h;exact⟨by omega,h2⟩
 | rise x a=>obtain⟨_,⟨_,h1⟩⟩:=h;show a<=_;omega
 | _=>exact True.intro
structure GW(c m:Nat)(st:HS):Prop where
 g:Go c st
 wf:Wf st
 kn:st.kn<=m
theorem GW.do{c m:Nat}{st:HS}(h:GW c m st)(hc:c<=90)(hm:m+100<=1000000)(ho:st.own.length<100){d:Dd}(hr:L3 st d=none)(hb:WZ d):GW (c+1) (m+100) (EG st d):=⟨Zu h.g h.wf hc hr hb,Zv h.g h.wf hc (by have:=h.kn;omega) ho hr,by have:=h.kn;have:=Zw st d;omega⟩
def sN(sp:Sp):Sp:=λvs H Q _=>sp vs H Q E0
def mj(own:Cl Str):HS:=own.foldl dm hs0
theorem Dp:∀(l:Cl Str)(st:HS),Wf st->(st.own++l).Nodup->st.own.length+l.length<=100->Wf (l.foldl dm st)
 | [],_,w,_,_=>w
 | o::l,st,w,nd,hl=>by
  rw[j8];rw[kC]at hl;have h1:o∉st.own:=λm=>(Lg.mp nd).2.2 o m o cD rfl;refine Dp l (dm st o) (w6 w h1 (by omega)) ?_ ?_
  .show ((st.own++[o])++l).Nodup;rw[ER];exact nd
  .show (st.own++[o]).length+l.length<=100;rw[cO];show st.own.length+1+l.length<=100;omega
theorem gw0{own:Cl Str}(nd:own.Nodup)(h0:0<own.length)(h1:own.length<=100)(hon:∀o∈own,isNm o=true):GW 0 0 (mj own):=by
 obtain⟨k1,k2,k3,k4,k5,k6⟩:=uC own hs0 rfl (λu hu=>absurd hu (by simp[hs0]));have eo:(mj own).own=own:=by unfold mj;rw[rK];rfl
 have k1:(mj own).ah=[] :=k1;have k2:(mj own).nms=[] :=k2;have k3:(mj own).stp=[] :=k3;have k4:(mj own).prod=1:=k4;have k5:(mj own).dN=[] :=k5;have k6:∀u∈(mj own).bN,u=0:=k6;refine⟨⟨λu hu=>?_,by rw[k3];exact aO _,?_,λp hp=>?_,λp hp=>?_,by rw[k1];exact aO _,by rw[k2];exact aO _,by rw[eo];exact h0,λx hx=>?_,by rw[eo];exact hon,λp hp=>?_,by rw[k5];exact aO _,λa ha=>?_⟩,Dp own hs0 Z_ nd (by show 0+_<=_;omega),?_⟩
 .rw [k6 u hu];exact mQ (by decide +kernel)
 .rw [k4];exact mQ (by decide +kernel)
 .rw [k1]at hp;cases hp
 .rw [k1]at hp;cases hp
 .rw [k2]at hx;cases hx
 .rw [k1]at hp;cases hp
 .rw [k5]at ha;cases ha
 .rw [show(mj own).kn=0 from Gm own hs0];exact aO _
def Us(own:Cl Str):(mj own).own=own:=by unfold mj;rw[rK];rfl
def W2{own nms:Cl Str}(nd:nms.Nodup)(h:∀x∈nms,isNm x=true):Nx nms (mj own):=by obtain⟨_,k2,_⟩:=uC own hs0 rfl (λu hu=>absurd hu (by simp[hs0]));have k2:(mj own).nms=[] :=k2;exact⟨by rw[k2];rfl,nd,h⟩
def fC(st:HS)(i:Nat):Int:=(st.ah.map λp=>p.wo*p.sc*p.row.getD i 0).sum+aq st*st.aW.getD i 0
def Kr(st:HS)(o:Str):Int:=((st.dN.filter λa=>decide (a.ow=o)).map λa=>a.wo).sum
def OB(st:HS)(o:Str):Rat:=Jm.fr (fC st (st.own.idxOf o)) st.prod
structure L4(st:HS):Prop where
 wf:Wf st
 wo:∀p∈st.ah,Jm.Sz 60 p.wo
 wh:Jm.Sz 60 (aq st)
 la:∀o,Jm.Sz 60 (Kr st o)
inductive OC(T:TC)(vs:Cl V)(H:Hp)(Q:VK)(E:XK):Prop
 |mk(n ρ A st:_)(i:Nat)(_:vs=[.ref A.a,.int (i:Int)])(_:aR T n ρ A H st)(_:L4 st)(_:i<st.own.length)(_:∀H',aE H H'->Q (.int (fC st i)) H')
def AK(T:TC):Sp:=bx (OC T)
inductive Ut(T:TC)(vs:Cl V)(H:Hp)(Q:VK)(E:XK):Prop
 |mk(n ρ A st o:_)(_:vs=[.ref A.a,.str o])(_:aR T n ρ A H st)(_:L4 st)(_:o∈st.own)(_:∀r H',aE H H'->H' r=some (lI (OB st o))->Q (.ref r) H')
def GN(T:TC):Sp:=bx (Ut T)
def getD_at{l:Cl Int}{i:Nat}(h:i<l.length):pR (l.map V.int) (i:Int)=some (.int (l.getD i 0)):=bh (by rw[cz,dP,a_ h];rfl)
def OD{l:Cl Int}{i:Nat}(h:i<l.length):l.getD i 0∈l:=by rw[dP,a_ h];exact qW h
section
variable {X:Cx}
end
theorem Dq{st:HS}(wf:Wf st){i:Nat}(hi:i<st.own.length):fC st i=(st.ah.map λp=>p.wo*(aL st p).getD i 0).sum:=by
 unfold fC aq;have hc:=wf.dQ;have h:∀p∈st.ah,(aL st p).getD i 0=p.sc*p.row.getD i 0+st.aW.getD i 0:=λp hp=>by unfold aL;exact nT (f:=λr c=>p.sc*r+c) (by show p.sc*0+0=0;omega) (by rw[wf.rows p hp,hc]) i
 generalize st.aW.getD i 0=k at *;revert h;generalize st.ah=ps;intro h
 induction ps with
 | nil=>show(0:Int)+0*k=0;omega
 | cons p ps ih=>
  have e:=h p cD;have:=ih λx hx=>h x (ck _ hx);rw[br,br,br,bV,bV,bV,e,<-this]
  grind
section
variable {prog:Program}{w:World}{A:Around}{R:Result->Shared->Prop}{s:Shared}
end
section
variable {X:Cx}
end
section
variable {X:Cx}
end
section
variable {T:TC}{n m:Nat}{ρ ρ1:gu}{H H1:Hp}{A B:HA}{st s1:HS}{x:Addr}
end
section
variable {T:TC}{n m:Nat}{ρ ρ1:gu}{H H1:Hp}{A B:HA}{st s1:HS}{x:Addr}
end
theorem GO(f:Pt->Int):∀ps:Cl Pt,((ps.filter λp=>decide (p.wo≠0)).map λp=>p.wo*f p).sum=(ps.map λp=>p.wo*f p).sum
 | []=>rfl
 | p::ps=>by
  rw[lF,br,bV,<-GO f ps];by_cases c:p.wo=0
  .rw [aA (by simpa using c),c,zL,rm]
  .rw [aB (by simpa using c),br,bV]
theorem Q2(f:Pt->Int)(hf:∀(p:Pt) (w:Int),f { p with wo:=w }=f p){x:Str}{a:Int}{p0:Pt}(e:p0.nm=x):∀{ps:Cl Pt},(ps.map λp:Pt=>p.nm).Nodup->p0∈ps->((jk ps x a).map λp=>p.wo*f p).sum=(ps.map λp=>p.wo*f p).sum-a*f p0:=by
 intro ps nd h;unfold jk;rw[GO];have out:∀{l:Cl Pt},(∀p∈l,p.nm≠x)->l.map (λp=>if p.nm=x then{ p with wo:=p.wo-a } else p)=l:=λ{l} h=>by refine(rY (g:=id) λp hp=>aA (h p hp)).trans (List.map_id _)
 induction ps with
 | nil=>cases h
 | cons p ps ih=>
  obtain⟨n1,n2⟩:=fj.mp nd;by_cases c:p.nm=x
  .have ep:p0=p:=by
    rcases cV.mp h with z|z
    .exact z
    .exact absurd (bu.mpr ⟨p0,z,e.trans c.symm⟩) n1
   subst ep;rw[br,aB c,out λq hq z=>n1 (bu.mpr ⟨q,hq,z.trans c.symm⟩),br,br,bV,bV,hf];show(p0.wo-a)*f p0+_=_;rw[Int.sub_mul];omega
  .have hm:p0∈ps:=(cV.mp h).resolve_left λz=>c (by rw[<-z];exact e);rw[br,aA c,br,br,bV,bV,ih n2 hm];omega
theorem vS(f:Pt->Int)(hf:∀(p:Pt) (w:Int),f { p with wo:=w }=f p):∀(rs:Cl Row){st:HS},Wf st->Due st rs->(rs.map λr:Row=>r.1).Nodup->((rs.foldl cE st).ah.map λp=>p.wo*f p).sum=(st.ah.map λp=>p.wo*f p).sum-cA rs λx=>f (bF st x)
 | [],st,_,_,_=>by show _=_-(0:Int);rw[Int.sub_zero];rfl
 | r::rs,st,wf,d,nd=>by
  have n2:=(fj.mp nd).2;have n1:=(fj.mp nd).1;have wf1:=Gf wf d;have d1:=yG wf d nd;obtain⟨p,hp,e,_⟩:=d r cD;show((rs.foldl cE (cE st r)).ah.map λp=>p.wo*f p).sum=_;rw[vS f hf rs wf1 d1 n2];have h1:((cE st r).ah.map λp=>p.wo*f p).sum=(st.ah.map λp=>p.wo*f p).sum-r.2*f (bF st r.1):=by rw[b_ wf hp e];exact Q2 f hf e wf.iD hp
  have h2:cA rs (λx=>f (bF (cE st r) x))=cA rs λx=>f (bF st x):=by
   unfold cA;congr 1;refine rY λy hy=>?_;obtain⟨q,hq,eq,_⟩:=d y (ck _ hy);have ny:q.nm≠r.1:=λz=>n1 (bu.mpr ⟨y,hy,eq.symm.trans z⟩);have hw:q.wo≠0:=by have:=(wf.kP q hq).1;omega
   show y.2*f (bF (cE st r) y.1)=y.2*f (bF st y.1);rw[b_ wf hq eq,b_ wf1 (Ao hq ny hw) eq]
  rw[h1,h2];unfold cA;rw[br,bV];show _=_-(r.2*f (bF st r.1)+_);omega
def L5{rs:Cl Row}{st:HS}(wf:Wf st)(d:Due st rs)(nd:(rs.map λr:Row=>r.1).Nodup):aq (rs.foldl cE st)=aq st-aJ rs:=by have h:=vS (λ_=>1) (λ_ _=>rfl) rs wf d nd;unfold cA at h;unfold aq aJ;have z:∀{α:Type}(g:α->Int)(l:Cl α),l.map (λp=>g p*1)=l.map g:=λg l=>rY λp _=>mH _;rw[z,z,z]at h;exact h
def AL{st:HS}{rs:Cl Row}(wf:Wf st)(c:i7 st rs):aq (bX st rs)=aq st-aJ rs:=by unfold bX;rw[L5 (qC wf (c.blend wf)) (rN c.due) c.nd];congr 1;unfold aq aT;rw[ir];show((st.ah.map _).map _).sum=_;rw[gY];rfl
theorem L6(rs:Cl Row)(f:Str->Int)(k g d:Int)(f':Str->Int)(h:∀r∈rs,d*f' r.1=f r.1*k+g):d*cA rs f'=cA rs f*k+aJ rs*g:=by
 unfold cA aJ
 induction rs with
 | nil=>show d*0=0*k+0*g;omega
 | cons r rs ih=>
  rw[br,br,br,bV,bV,bV,pV,ih λx hx=>h x (ck _ hx)];have:=h r cD
  grind
theorem IS(ps:Cl Pt)(f f':Pt->Int)(k g d:Int)(h:∀p∈ps,d*f' p=f p*k+g):d*(ps.map λp=>p.wo*f' p).sum=(ps.map λp=>p.wo*f p).sum*k+(ps.map λp=>p.wo).sum*g:=by
 induction ps with
 | nil=>show d*0=0*k+0*g;omega
 | cons r rs ih=>
  rw[br,br,br,bV,bV,bV,pV,ih λx hx=>h x (ck _ hx)];have:=h r cD
  grind
theorem L7{st:HS}{rs:Cl Row}(wf:Wf st)(c:i7 st rs){i:Nat}(hi:i<st.own.length):fC (bX st rs) i*(aq st*st.prod)=(aq st-aJ rs)*fC st i*(bX st rs).prod:=by
 have bl:=c.blend wf;have wb:=qC wf bl;have wc:=J_ wf c;obtain⟨hd,C_,hds,hdc⟩:=bl.dvds;have p1:0<st.prod:=by have:=wf.c6;omega
 have w1:0<aq st:=by have:=bl.l;have:=bl.w;have:=bl.k;omega
 have ec:(bX st rs).aW=(aT st (aq st-aJ rs) (aq st) (bP st rs)).aW:=by unfold bX;rw[l_]
 have ep:(bX st rs).prod=(aT st (aq st-aJ rs) (aq st) (bP st rs)).prod:=by unfold bX;rw[l_]
 have s1:1<=aq st / bq st (aq st-aJ rs) (aq st) (bP st rs):=K5 hd (by have:=zC w1 C_;omega);have Ar:bq st (aq st-aJ rs) (aq st) (bP st rs)*(bX st rs).prod=aq st*st.prod:=by rw[ep];unfold aT;rw[p7 s1];show _*(st.prod*_)=_;rw[<-gy,mF _ st.prod,gy,K8 C_,mF]
 have pc:0<(bX st rs).prod:=by have:=wc.c6;omega
 have top:∀p∈st.ah,∀p':Pt,p'.row=p.row->p'.sc=p.sc*(aq st-aJ rs) / bq st (aq st-aJ rs) (aq st) (bP st rs)->bq st (aq st-aJ rs) (aq st) (bP st rs)*(aL (bX st rs) p').getD i 0=(aL st p).getD i 0*(aq st-aJ rs)+(bP st rs).getD i 0:=λp hp p' e2 e3=>by
  have h:=vI wf bl ec ep hp e2 e3 (j:=i) (t0:=(aL st p).getD i 0) (gB:=(bP st rs).getD i 0) (B:=st.prod) rfl rfl;refine Int.eq_of_mul_eq_mul_right (a:=(bX st rs).prod) (by omega) ?_;rw[h,mF st.prod,<-Ar]
  grind
 have eG:(bP st rs).getD i 0=cA rs λx=>(aL st (bF st x)).getD i 0:=by
  have ex:∀r∈rs,∃p∈st.ah,p.nm=r.1:=λr hr=>let⟨_,_,p,hp,e,_⟩:=c.row r hr;⟨p,hp,e⟩;rw[rM wf ex,yI rs _ (λr hr=>by obtain⟨p,hp,e⟩:=ex r hr;rw[b_ wf hp e,jh,jl wf hp])]
  have:(List.replicate st.aW.length (0:Int)).getD i 0=0:=by rw[dP,yl];split <;> rfl
  rw[this,rm]
 have hf:∀(p:Pt)(w:Int),(λp=>(aL (bX st rs) p).getD i 0) { p with wo:=w }=(λp=>(aL (bX st rs) p).getD i 0) p:=λ_ _=>rfl;have hc:fC (bX st rs) i=((aT st (aq st-aJ rs) (aq st) (bP st rs)).ah.map λp=>p.wo*(aL (bX st rs) p).getD i 0).sum-cA rs λx=>(aL (bX st rs) (bF (aT st (aq st-aJ rs) (aq st) (bP st rs)) x)).getD i 0:=by rw[Dq wc (by rw[Gi];exact hi)];exact vS (λp=>(aL (bX st rs) p).getD i 0) hf rs wb (rN c.due) c.nd
 have eB:(aT st (aq st-aJ rs) (aq st) (bP st rs)).ah=st.ah.map λp=>{ p with sc:=p.sc*(aq st-aJ rs) / bq st (aq st-aJ rs) (aq st) (bP st rs) }:=by unfold aT;rw[ir]
 have h1:bq st (aq st-aJ rs) (aq st) (bP st rs)*((aT st (aq st-aJ rs) (aq st) (bP st rs)).ah.map λp=>p.wo*(aL (bX st rs) p).getD i 0).sum=fC st i*(aq st-aJ rs)+aq st*(bP st rs).getD i 0:=by rw[eB,gY,Dq wf hi];exact IS st.ah (λp=>(aL st p).getD i 0) (λp=>(aL (bX st rs) { p with sc:=p.sc*(aq st-aJ rs) / bq st (aq st-aJ rs) (aq st) (bP st rs) }).getD i 0) _ _ _ λp hp=>top p hp _ rfl rfl
 have h2:=L6 rs (λx=>(aL st (bF st x)).getD i 0) (aq st-aJ rs) ((bP st rs).getD i 0) (bq st (aq st-aJ rs) (aq st) (bP st rs)) (λx=>(aL (bX st rs) (bF (aT st (aq st-aJ rs) (aq st) (bP st rs)) x)).getD i 0) λr hr=>by
  obtain⟨_,_,p,hp,e,_⟩:=c.row r hr;have hb:{ p with sc:=p.sc*(aq st-aJ rs) / bq st (aq st-aJ rs) (aq st) (bP st rs) }∈(aT st (aq st-aJ rs) (aq st) (bP st rs)).ah:=by rw[eB];exact bu.mpr ⟨p,hp,Z⟩
  rw[b_ wb hb e,b_ wf hp e];exact top p hp _ rfl rfl
 rw[<-eG]at h2;have key:bq st (aq st-aJ rs) (aq st) (bP st rs)*fC (bX st rs) i=(aq st-aJ rs)*fC st i:=by
  rw[hc,Int.mul_sub,h1,h2]
  grind
 rw[<-Ar,<-key]
 grind
theorem Q3{st:HS}(wf:Wf st){rs:Cl Row}(nd:(rs.map λr:Row=>r.1).Nodup)(row:∀r∈rs,1<=r.2/\∃w∈nwS st,w.1=r.1/\r.2<=w.2)(hl:aJ rs<aq st)(hne:rs≠[]):m9 st rs=none:=by
 unfold m9;rw[aB ⟨hne,nd⟩];have e:rs.findSome? (uD st)=none:=List.findSome?_eq_none_iff.mpr λr hr=>by obtain⟨h1,w,hw,e1,e2⟩:=row r hr;unfold nwS at hw;obtain⟨p,hp,rfl⟩:=bu.mp hw;have e1:p.nm=r.1:=e1;have e2:r.2<=p.wo:=e2;unfold uD;rw[aB (by unfold iu;exact bu.mpr ⟨p,hp,e1⟩),aA (by omega),b_ wf hp e1,aA (by omega)]
 rw[e];show(if aq st<=aJ rs then some 6 else none)=none;rw[aA (by omega)]
theorem L8(m:Int)(l:Cl Int)(i:Nat):(l.map (·*m)).getD i 0=l.getD i 0*m:=by
 rw[dP,dP,cz];cases l[i]? with
 | none=>show(0:Int)=0*m;omega
 | some x=>rfl
section
variable {K:Fg}{H:Hp}
end
theorem Q5{a:HS}{kept whole lost:Int}{ga:Cl Int}(ba:l9 a kept whole lost ga):(aT a kept whole ga).bN=a.bN.map (·*(whole / bq a kept whole ga))/\(aT a kept whole ga).prod=a.prod*(whole / bq a kept whole ga):=by
 obtain⟨hd,C_,_⟩:=ba.dvds;have w1:0<whole:=by have:=ba.l;have:=ba.w;have:=ba.k;omega
 have s1:1<=whole / bq a kept whole ga:=K5 hd (by have:=zC w1 C_;omega);unfold aT;rw[C5,p7 s1];exact⟨Z,Z⟩
def OE{a:HS}{kept whole:Int}{ga:Cl Int}{p':Pt}(h:p'∈(aT a kept whole ga).ah):∃p∈a.ah,p'.nm=p.nm/\p'.row=p.row/\p'.sc=p.sc*kept / bq a kept whole ga:=by unfold aT at h;rw[ir]at h;obtain⟨p,hp,rfl⟩:=bu.mp h;exact⟨p,hp,Z,Z,Z⟩
def jm(rs rs':Cl Row)(f:Str->Int):cA (rs++rs') f=cA rs f+cA rs' f:=by unfold cA;rw[b7,List.sum_append]
def oE(r:Row)(rs:Cl Row)(f:Str->Int):cA (r::rs) f=r.2*f r.1+cA rs f:=by unfold cA;rw[br,bV]
def iF(rs:Cl Row):aJ rs=cA rs λ_=>1:=by unfold aJ cA;exact fY List.sum (rY λr _=>(mH _).symm)
def gC(rs:Cl Row)(x:Str):Int:=cA rs λy=>if y=x then 1 else 0
def qF(r:Row)(rs:Cl Row)(x:Str):gC (r::rs) x=(if r.1=x then r.2 else 0)+gC rs x:=by
 unfold gC;rw[oE];split
 .rw [mH]
 .rw [Int.mul_zero]
theorem xj{rs:Cl Row}(h:∀r∈rs,1<=r.2)(x:Str):0<=gC rs x:=by
 induction rs with
 | nil=>exact gR 0
 | cons r rs ih=>rw[qF];have:=ih λy hy=>h y (ck _ hy);have:=h r cD;split <;> omega
theorem W3{rs:Cl Row}(h:∀r∈rs,1<=r.2){r:Row}(hr:r∈rs):r.2<=gC rs r.1:=by
 induction rs with
 | nil=>cases hr
 | cons y rs ih=>
  rw[qF];have h0:=xj (λz hz=>h z (ck _ hz)) r.1;have hy:=h y cD;rcases cV.mp hr with z|z
  .subst z;rw[aB rfl];omega
  .have:=ih (λz hz=>h z (ck _ hz)) z;split <;> omega
def Ks(rs rs':Cl Row)(x:Str):gC (rs++rs') x=gC rs x+gC rs' x:=jm _ _ _
def vU(q:Q4):Bool:=decide (q.2.2.1≠0)
theorem GP{A B:Q4->Q4}:∀(qs:Cl Q4),(∀q∈qs,(A q).2.2.1=0->(B (A q)).2.2.1=0)->(((qs.map A).filter vU).map B).filter vU=(qs.map λq=>B (A q)).filter vU
 | [],_=>rfl
 | q::qs,h=>by
  have ih:=GP qs λx hx=>h x (ck _ hx);rw[br,br,lF];by_cases c:(A q).2.2.1=0
  .have z:=h q cD c;rw[aA (by unfold vU;simpa using c),lF,aA (by unfold vU;simpa using z)];exact ih
  .rw [aB (by unfold vU;simpa using c),br,lF,lF,ih]
theorem yN:∀(rs:Cl Row)(qs:Cl Q4),(∀q∈qs,0<q.2.2.1)->(∀r∈rs,1<=r.2)->(∀q∈qs,gC rs q.1<=q.2.2.1)->rs.foldl mZ qs=(qs.map λq:Q4=>((q.1,q.2.1,q.2.2.1-gC rs q.1,q.2.2.2):Q4)).filter vU
 | [],qs,h0,_,_=>by
  show qs=_;have e:qs.map (λq:Q4=>((q.1,q.2.1,q.2.2.1-gC [] q.1,q.2.2.2):Q4))=qs:=by refine(rY (g:=id) λq _=>?_).trans (List.map_id _);show(q.1,q.2.1,q.2.2.1-0,q.2.2.2)=q;rw[Int.sub_zero]
  rw[e,List.filter_eq_self.mpr λq hq=>by unfold vU;have:=h0 q hq;exact cI (by omega)]
 | r::rs,qs,h0,h1,h2=>by
  have r1:=h1 r cD;have hs:∀y∈rs,1<=y.2:=λy hy=>h1 y (ck _ hy);have eL:mZ qs r=(qs.map λq:Q4=>if q.1=r.1 then((q.1,q.2.1,q.2.2.1-r.2,q.2.2.2):Q4) else q).filter vU:=rfl;have L:∀q'∈mZ qs r,0<q'.2.2.1/\gC rs q'.1<=q'.2.2.1:=λq' hq'=>by
   rw[eL]at hq';obtain⟨m,nz⟩:=om.mp hq';obtain⟨q,hq,rfl⟩:=bu.mp m;have a:=h2 q hq;have b:=h0 q hq;have t0:=xj hs q.1;rw[qF]at a;have nz:(if q.1=r.1 then((q.1,q.2.1,q.2.2.1-r.2,q.2.2.2):Q4) else q).2.2.1≠0:=by unfold vU at nz;exact ff nz
   by_cases c:q.1=r.1
   .rw [aB c]at nz ⊢;rw[aB c.symm]at a;have nz:q.2.2.1-r.2≠0:=nz;show 0<q.2.2.1-r.2/\gC rs q.1<=q.2.2.1-r.2;omega
   .rw [aA c];rw[aA (λz=>c z.symm)]at a;omega
  show rs.foldl mZ (mZ qs r)=_;rw[yN rs _ (λq hq=>(L q hq).1) hs (λq hq=>(L q hq).2),eL,GP]
  .congr 1;refine rY λq _=>?_;rw[qF];by_cases c:q.1=r.1
   .rw [aB c,aB c.symm];show(q.1,q.2.1,q.2.2.1-r.2-gC rs q.1,q.2.2.2)=(q.1,q.2.1,q.2.2.1-(r.2+gC rs q.1),q.2.2.2)
    rw[Int.sub_sub]
   .rw [aA c,aA (λz=>c z.symm),rm]
  .intro q hq;have a:=h2 q hq;have b:=h0 q hq;have t0:=xj hs q.1;rw[qF]at a;by_cases c:q.1=r.1
   .rw [aB c];rw[aB c.symm]at a;show q.2.2.1-r.2=0->q.2.2.1-r.2-gC rs q.1=0;omega
   .rw [aA c];intro z;omega
theorem AM{f g:Str->Int}{x y z u:Int}:∀(rs:Cl Row),(∀r∈rs,f r.1*x=(g r.1*y+z)*u)->cA rs f*x=(cA rs g*y+aJ rs*z)*u
 | [],_=>by show(0:Int)*x=(0*y+0*z)*u;grind
 | r::rs,R=>by
  have h1:=R r cD;have h2:=AM rs λw hw=>R w (ck _ hw);rw[oE,oE,show aJ (r::rs)=r.2+aJ rs from by unfold aJ;rw[br,bV],ud,h2,gy,h1]
  grind
structure Dr(st:HS)(rs:Cl Row):Prop where
 row:∀r∈rs,1<=r.2/\r.1∈iu st
 tot:∀p∈st.ah,gC rs p.nm<=p.wo
 lost:aJ rs<aq st
theorem Dr.left{st:HS}{rs rs':Cl Row}(h:Dr st (rs++rs')):Dr st rs:=by
 have l0:0<=aJ rs':=yH λx hx=>(h.row x (gi _ hx)).1;refine⟨λr hr=>h.row r (yo _ hr),λp hp=>?_,?_⟩
 .have:=h.tot p hp;rw[Ks]at this;have:=xj (rs:=rs') (λx hx=>(h.row x (gi _ hx)).1) p.nm;omega
 .have:=h.lost;rw[iF,jm,<-iF,<-iF]at this;omega
structure pS(st:HS)(rs:Cl Row)(s:HS):Prop where
 own:s.own=st.own
 nms:s.nms=st.nms
 dN:s.dN=st.dN
 qd:f7 s=rs.foldl mZ (f7 st)
 wh:aq s=aq st-aJ rs
 sh:∀p∈st.ah,∀p'∈s.ah,p'.nm=p.nm->∀j,(aL s p').getD j 0*(st.prod*aq st)=((aL st p).getD j 0*(aq st-aJ rs)+cA rs (λx=>(aL st (bF st x)).getD j 0))*s.prod
 pu:∀j,s.bN.getD j 0*st.prod=st.bN.getD j 0*s.prod
theorem pS.nil{st:HS}(wf:Wf st):pS st [] st:=by
 refine⟨Z,Z,Z,Z,by show _=_-(0:Int);omega,λp hp p' eO e j=>?_,λj=>rfl⟩;have:p'=p:=by rw[<-b_ wf eO rfl,<-b_ wf hp rfl,e]
 rw[this];show _=(_*(aq st-0)+0)*_
 grind
theorem tG:∀(rs:Cl Row)(qs:Cl Q4),∀q'∈rs.foldl mZ qs,∃q∈qs,q.1=q'.1
 | [],qs,q',h=>⟨q',h,Z⟩
 | r::rs,qs,q',h=>by obtain⟨q1,h1,e1⟩:=tG rs (mZ qs r) q' h;obtain⟨q,hq,e⟩:=bu.mp (om.mp h1).1;refine⟨q,hq,?_⟩;rw[<-e1,<-e];split <;> rfl
def pS.sub{st:HS}{rs:Cl Row}{s:HS}(b:pS st rs s){p':Pt}(eO:p'∈s.ah):∃p∈st.ah,p.nm=p'.nm:=by have m:((p'.nm,p'.ow,p'.wo,p'.we):Q4)∈f7 s:=bu.mpr ⟨p',eO,Z⟩;rw[b.qd]at m;obtain⟨q,hq,e⟩:=tG _ _ _ m;obtain⟨p,hp,rfl⟩:=bu.mp hq;exact⟨p,hp,e⟩
theorem pS.cast{st:HS}{kQ rs:Cl Row}{s:HS}(b:pS st kQ s)(wf:Wf st)(ws:Wf s)(w0:0<aq st)(c:i7 s rs):pS st (kQ++rs) (bX s rs):=by
 have bl:=c.blend ws;have eA:bX s rs={ aT s (aq s-aJ rs) (aq s) (bP s rs)with ah:=(bX s rs).ah }:=l_ rs _;have la:aJ (kQ++rs)=aJ kQ+aJ rs:=by rw[iF,jm,<-iF,<-iF]
 have dN:∀(s:HS)(k w:Int)(g:Cl Int),(aT s k w g).dN=s.dN/\(aT s k w g).own=s.own/\(aT s k w g).nms=s.nms:=λs k w g=>by unfold aT;rw[C7,vG,C6];exact⟨Z,Z,Z⟩
 have P0:0<st.prod:=by have:=wf.c6;omega
 have P1:0<s.prod:=by have:=ws.c6;omega
 refine⟨(Gi s rs).trans b.own,?_,?_,?_,by rw[AL ws c,b.wh,la];omega,λp hp p2 hp2 e j=>?_,λj=>?_⟩
 .rw [eA];exact(dN _ _ _ _).2.2.trans b.nms
 .rw [eA];exact(dN _ _ _ _).1.trans b.dN
 .show f7 (bX s rs)=_;unfold bX;rw[Aq,LR,b.qd,By]
 .obtain ⟨pa,hpa,n1,r1,s1⟩:=Gj rs hp2;obtain⟨p1,hp1,n2,r2,s2⟩:=OE hpa;have W4:p1.nm=p.nm:=by rw[<-n2,<-n1,e]
  have t:=vI ws bl (show(bX s rs).aW=_ by rw[eA]) (show(bX s rs).prod=_ by rw[eA]) hp1 (r1.trans r2) (s1.trans s2) (j:=j) (t0:=(aL s p1).getD j 0) (gB:=(bP s rs).getD j 0) (B:=s.prod) rfl rfl;have hs1:=b.sh p hp p1 hp1 W4 j;have ex:∀r∈rs,∃q∈s.ah,q.nm=r.1:=λr hr=>let⟨_,_,q,hq,e,_⟩:=c.row r hr;⟨q,hq,e⟩;have eG:(bP s rs).getD j 0=cA rs λx=>(aL s (bF s x)).getD j 0:=by
   rw[rM ws ex,yI rs _ (λr hr=>by obtain⟨q,hq,e⟩:=ex r hr;rw[b_ ws hq e,jh,jl ws hq])]
   have:(List.replicate s.aW.length (0:Int)).getD j 0=0:=by rw[dP,yl];split <;> rfl
   rw[this,rm]
  have R:∀r∈rs,(aL s (bF s r.1)).getD j 0*(st.prod*aq st)=((aL st (bF st r.1)).getD j 0*(aq st-aJ kQ)+cA kQ (λx=>(aL st (bF st x)).getD j 0))*s.prod:=λr hr=>by obtain⟨q,hq,e⟩:=ex r hr;obtain⟨q0,hq0,e0⟩:=b.sub hq;rw[b_ ws hq e,b_ wf hq0 (e0.trans e)];exact b.sh q0 hq0 q hq e0.symm j
  have g1:(bP s rs).getD j 0*(st.prod*aq st)=(cA rs (λx=>(aL st (bF st x)).getD j 0)*(aq st-aJ kQ)+aJ rs*cA kQ (λx=>(aL st (bF st x)).getD j 0))*s.prod:=by rw[eG];exact AM rs R
  rw[jm,la];have wk:aq s=aq st-aJ kQ:=b.wh;rw[wk]at t;have W1:0<aq st-aJ kQ:=by have:=bl.k;have:=bl.l;have:=bl.w;omega
  generalize (aL (bX s rs) p2).getD j 0=T2 at *;generalize (aL s p1).getD j 0=T1 at *;generalize (aL st p).getD j 0=T0 at *;generalize (bP s rs).getD j 0=G1 at *;generalize cA kQ (λx=>(aL st (bF st x)).getD j 0)=G0 at *;generalize cA rs (λx=>(aL st (bF st x)).getD j 0)=G at *;generalize (bX s rs).prod=P2 at *;have bw:0<s.prod*(aq st-aJ kQ):=uc P1 W1;refine KQ (a:=s.prod*(aq st-aJ kQ)) (by omega) ?_;generalize aq st=W at *;generalize aJ kQ=L0 at *;generalize aJ rs=L at *;have l1:s.prod*(W-L0)*(T2*(st.prod*W))=(T2*(s.prod*(W-L0)))*(st.prod*W):=by grind
  rw[l1,<-t];have l2:(T1*(W-L0-L)+G1)*P2*(st.prod*W)=((T1*(st.prod*W))*(W-L0-L)+G1*(st.prod*W))*P2:=by grind
  rw[l2,hs1,g1]
  grind
 .obtain ⟨a1,a2⟩:=Q5 bl;rw[show(bX s rs).bN=(aT s (aq s-aJ rs) (aq s) (bP s rs)).bN by rw[eA],show(bX s rs).prod=(aT s (aq s-aJ rs) (aq s) (bP s rs)).prod by rw[eA],a1,a2,L8];have:=b.pu j;generalize s.bN.getD j 0=x at *;generalize st.bN.getD j 0=y at *;generalize aq s / bq s (aq s-aJ rs) (aq s) (bP s rs)=z at *;have l1:x*z*st.prod=(x*st.prod)*z:=by grind
  rw[l1,this]
  grind
theorem pS.m9{st:HS}{kQ rs:Cl Row}{s:HS}(b:pS st kQ s)(wf:Wf st)(ws:Wf s)(f:Dr st (kQ++rs))(nd:(rs.map λr:Row=>r.1).Nodup)(ne:rs≠[]):L2.m9 s rs=none:=by
 have f0:=f.left;have r1:∀r∈rs,1<=r.2:=λr hr=>(f.row r (gi _ hr)).1;refine Q3 ws nd (λr hr=>⟨r1 r hr,?_⟩) ?_ ne
 .obtain ⟨_,hm⟩:=f.row r (gi _ hr);obtain⟨i,p,e1,en⟩:=uF hm;have hp:=cg e1;have t:=f.tot p hp;rw[Ks,en]at t;have g:=W3 r1 hr;have rr:=r1 r hr;have eq:=yN kQ (f7 st) (GK wf) (λx hx=>(f0.row x hx).1) (λq hq=>by obtain⟨z,hz,rfl⟩:=bu.mp hq;exact f0.tot z hz);have m:((p.nm,p.ow,p.wo-gC kQ p.nm,p.we):Q4)∈f7 s:=by rw[b.qd,eq];refine om.mpr ⟨bu.mpr ⟨(p.nm,p.ow,p.wo,p.we),bu.mpr ⟨p,hp,Z⟩,Z⟩,?_⟩;unfold vU;exact cI (by show p.wo-gC kQ p.nm≠0;rw[en];omega)
  obtain⟨q,hq,e⟩:=bu.mp m;have e3:q.nm=p.nm:=fY (λz:Q4=>z.1) e;have e4:q.wo=p.wo-gC kQ p.nm:=fY (λz:Q4=>z.2.2.1) e;exact⟨(q.nm,q.wo),bu.mpr ⟨q,hq,Z⟩,e3.trans en,by show r.2<=q.wo;rw[e4,en];omega⟩
 .have:=f.lost;rw[iF,jm,<-iF,<-iF]at this;rw[b.wh];omega
def GQ{ρ ρ':gu}{H H':Hp}(G:Gh ρ H)(s:aE (out ρ H) (out ρ' H')):∀b xs,H b=some (.tup xs)->H' b=some (.tup xs):=λb xs e=>(lJ (s _ _ (qu e (G.tup e)))).1
section
variable {a:Addr}{ρ:gu}{H:Hp}
end
theorem OF{st:HS}(wf:Wf st)(h:st.ah≠[]):0<aq st:=by
 unfold aq;have w:=wf.kP;cases hp:st.ah with
 | nil=>exact absurd hp h
 | cons p ps=>
  rw[hp]at w;have a:=(w p cD).1;have b:0<=(ps.map λp=>p.wo).sum:=Oe λx hx=>by obtain⟨q,hq,rfl⟩:=bu.mp hx;have:=(w q (ck _ hq)).1;omega
  rw[br,bV];show 0<p.wo+_;omega
theorem GW.up{c m:Nat}{st:HS}(h:GW c m st)(n:Nat){m':Nat}(hm:m<=m'):GW (c+n) m' st:=by
 refine⟨?_,h.wf,by have:=h.kn;omega⟩
 induction n with
 | zero=>exact h.g
 | succ n ih=>exact ih.mono
section
variable {P:Program}{w:World}{K:Fg}{mg:SO}{base:Heap}{k:Nat}{T:TC}{e:Ec}{ps:Cl Str}
def Q6(D:Mn P w K mg base k T.hold "place_of" ps (sN (Gu T e))):Mn P w K mg base k T.hold "place_of" ps (BO T):=D.imp λvs H Q E h=>by obtain⟨⟨n,ρ,A,st,o,rfl,hx,ho,q⟩⟩:=h;exact⟨n,ρ,A,st,o,Z,hx,λz=>absurd ho z,λ_=>q⟩
def OG(D:Mn P w K mg base k T.hold "part_of" ps (sN (De T e))):Mn P w K mg base k T.hold "part_of" ps (yE T):=D.imp λvs H Q E h=>by obtain⟨⟨n,ρ,A,st,i,p,qq,rfl,hx,nd,ep,eq,q⟩⟩:=h;refine⟨n,ρ,A,st,p.nm,Z,hx,nd,λz=>absurd rfl (z p (cg ep)),λj p' q' e1 e2 e3=>?_⟩;have:j=i:=FA nd e2 ep e1;subst this;rw[eq]at e3;cases e3;exact q
def W5(D:Mn P w K mg base k T.hold "check_new" ps (sN (yf T e))):Mn P w K mg base k T.hold "check_new" ps (Ah T):=D.imp λvs H Q E h=>by
 obtain⟨⟨n,ρ,A,st,x,rfl,h,h1,h2,q⟩⟩:=h;have hn:newR st x=none:=by unfold newR;rw[aB h1,aA h2]
 refine⟨n,ρ,A,st,x,Z,h,dj (BX h1) (by decide),λi hi=>?_,λ_=>q⟩;rw[hn]at hi;cases hi
theorem W6(D:Dn P w K mg base k "check_amount" ps (sN (GA e))):Dn P w K mg base k "check_amount" ps Zb:=D.imp λvs H Q E h=>by obtain⟨⟨a,rfl,h1,q⟩⟩:=h;exact⟨a,Z,λz=>absurd z (by omega),λ_=>q⟩
theorem W7(D:Dn P w K mg base k "check_loss" ps (sN (Oo e))):Dn P w K mg base k "check_loss" ps R6:=D.imp λvs H Q E h=>by obtain⟨⟨m,a,rfl,h1,h2,q⟩⟩:=h;exact⟨m,a,Z,λz=>absurd z (by omega),λ_ z=>absurd z (by omega),λ_ _=>q⟩
end
inductive Uu(K:Fg)(vs:Cl V)(H:Hp)(Q:VK)(E:XK):Prop
 |mk(r lo lt:Addr)(ws:Cl V)(own:Cl Str)(tops:Cl Int)(b:Int)(_:vs=[.ref r,.ref lo,.ref lt,.int b])(_:H r=some (.lst ws))(_:jF H ws (cT own tops b))(_:aI K H lo (own.map V.str))(_:aI K H lt (tops.map V.int))(_:tops.length<=own.length)(_:own.length<=1000)(_:0<b)(_:Jm.Sz 9000 b)(_:∀H',aE H H'->Q (.bl true) H')
def GR(K:Fg):Sp:=bx (Uu K)
def Q7{own:Cl Str}{tops:Cl Int}{b:Int}:cT (own.take tops.length) tops b=cT own tops b:=by
 unfold cT;congr 1
 induction own generalizing tops with
 | nil=>rw[List.take_nil]
 | cons x own ih=>cases tops with
   | nil=>rfl
   | cons t ts=>exact fY _ ih
def rowsOf(ps:Cl Pt)(as:Cl Int):Cl Row:=(List.zip ps as).filterMap λx=>if 0<x.2 then some (x.1.nm,x.2) else none
theorem IT{ps:Cl Pt}{as:Cl Int}{i:Nat}{p:Pt}{a:Int}(ep:ps[i]?=some p)(ea:as[i]?=some a):rowsOf (ps.take (i+1)) (as.take (i+1))=rowsOf (ps.take i) (as.take i)++(if 0<a then[(p.nm,a)] else[]):=by
 have h1:=(dW.mp ep).1;have h2:=(dW.mp ea).1;unfold rowsOf;rw[take_snoc ep,take_snoc ea,List.zip_append (by rw[jN,jN];omega),EI];congr 1;show List.filterMap _ [(p,a)]=_;rw[oY];by_cases c:0<a
 .simp [c]
 .simp [c]
def AN(ps:Cl Pt)(as:Cl Int):(rowsOf ps as).length<=ps.length:=by unfold rowsOf;refine dj (List.length_filterMap_le _ _) ?_;rw[List.length_zip];exact Nat.min_le_left ..
inductive OH(K:Fg)(vs:Cl V)(H:Hp)(Q:VK)(E:XK):Prop
 |mk(lp la:Addr)(us:Cl V)(ps:Cl Pt)(as:Cl Int)(_:vs=[.ref lp,.ref la])(_:aI K H lp us)(_:eF H us ps)(_:aI K H la (as.map V.int))(_:as.length=ps.length)(_:ps.length<=100)(_:∀z H',aE H H'->H' z=some (.tup (Dd.v (.cast (rowsOf ps as))))->Q (.ref z) H')
def AQ(K:Fg):Sp:=bx (OH K)
def i_(ps:Cl Pt)(ns:Cl Int)(o:Str):Int:=((List.zip ps ns).filterMap λx=>if x.1.ow=o then some x.2 else none).sum
inductive L_(K:Fg)(vs:Cl V)(H:Hp)(Q:VK)(E:XK):Prop
 |mk(lo lp ln:Addr)(own:Cl Str)(us:Cl V)(ps:Cl Pt)(ns:Cl Int)(_:vs=[.ref lo,.ref lp,.ref ln])(_:aI K H lo (own.map V.str))(_:aI K H lp us)(_:eF H us ps)(_:aI K H ln (ns.map V.int))(_:ns.length=ps.length)(_:ps.length<=100)(_:own.length<=100)(_:∀z H',aE H H'->H z=none->H' z=some (.lst ((own.map (i_ ps ns)).map V.int))->Q (.ref z) H')
def yg(K:Fg):Sp:=bx (L_ K)
def prs(rs:Cl Row):Cl Pr:=rs.map λr=>(r.1.cps.toList,r.2)
def Q8(rs:Cl Row):Dd.v (.cast rs)=Gs (.s (wd "cast")::m8 (prs rs)):=by
 show V.str "cast"::f_ rs=V.str (tx (wd "cast"))::(m8 (prs rs)).map Th.v;have e:∀rs:Cl Row,f_ rs=(m8 (prs rs)).map Th.v:=λrs=>by
  induction rs with
  | nil=>rfl
  | cons r rs ih=>show V.str r.1::V.int r.2::f_ rs=V.str (tx r.1.cps.toList)::V.int r.2::(m8 (prs rs)).map Th.v;rw[ih,Nv]
 rw[e];congr 1
def Q9{rs:Cl Row}(h:∀r∈rs,BS r.1/\1<=r.2/\r.2<=1000000000)(ne:rs≠[])(hl:rs.length<=100):WN (wd "cast") (m8 (prs rs)):=by
 refine anyC (λp hp=>?_) ?_ ?_
 .obtain ⟨r,hr,rfl⟩:=bu.mp hp;obtain⟨a,b,c⟩:=h r hr;exact⟨a,b,c⟩
 .unfold prs;rw[aH];exact List.length_pos_iff.mpr ne
 .unfold prs;rw[aH];exact hl
inductive Uv(K:Fg)(vs:Cl V)(H:Hp)(Q:VK)(E:XK):Prop
 |mk(z:Addr)(rs:Cl Row)(_:vs=[.ref z])(_:bR K H z (Dd.v (.cast rs)))(_:rs.length<=1000)(_:∀l us H',aE H H'->H l=none->H' l=some (.lst us)->fU H' us rs->Q (.ref l) H')
def GS(K:Fg):Sp:=bx (Uv K)
inductive W8(T:TC)(K:Fg)(vs:Cl V)(H:Hp)(Q:VK)(E:XK):Prop
 |mk(n:Nat)(ρ:gu)(A:HA)(st:HS)(z:Addr)(rs:Cl Row)(_:vs=[.ref A.a,.ref z])(_:bR K H z (Dd.v (.cast rs)))(_:HH T n ρ A H st)(_:i7 st rs)(_:∀r∈rs,BS r.1/\1<=r.2/\r.2<=1000000000)(_:rs.length<=100)(_:wZ T n ρ A H (bX st rs:_) λH'=>Q .b8 H')
def Ku(T:TC)(K:Fg):Sp:=bx (W8 T K)
def OI(own:Cl Str):(mj own).ah=[]/\(mj own).nms=[] :=by
 have key:∀(l:Cl Str)(s:HS),s.ah=[]/\s.nms=[]->(l.foldl dm s).ah=[]/\(l.foldl dm s).nms=[] :=by
  intro l
  induction l with
  | nil=>intro s h;exact h
  | cons o l ih=>
   intro s h;refine ih _ ⟨?_,h.2⟩;show s.ah.map _=[]
   rw[h.1];rfl
 exact key own hs0 ⟨Z,Z⟩
def kR(p:Pt)(ps:Cl Pt)(a:Int)(as:Cl Int):rowsOf (p::ps) (a::as)=(if 0<a then[(p.nm,a)] else[])++rowsOf ps as:=by
 unfold rowsOf;rw[La,oY];by_cases c:0<a
 .simp [c]
 .simp [c]
def jG(ps:Cl Pt)(as:Cl Int)(f:Pt->Int):Int:=(List.zipWith (λp a=>a*f p) ps as).sum
def e_(p:Pt)(ps:Cl Pt)(a:Int)(as:Cl Int)(f:Pt->Int):jG (p::ps) (a::as) f=a*f p+jG ps as f:=by unfold jG;rw[ym,bV]
theorem AR{f g:Pt->Int}:∀{ps:Cl Pt}(as:Cl Int),(∀p∈ps,f p=g p)->jG ps as f=jG ps as g
 | [],as,_=>by unfold jG;rfl
 | p::ps,[],_=>rfl
 | p::ps,a::as,h=>by rw[e_,e_,h p cD,AR as λq hq=>h q (ck _ hq)]
theorem vV(f:Str->Int):∀(ps:Cl Pt)(as:Cl Int),(∀a∈as,0<=a)->cA (rowsOf ps as) f=jG ps as λp=>f p.nm
 | [],as,_=>rfl
 | p::ps,[],_=>rfl
 | p::ps,a::as,h=>by
  have h0:=h a cD;rw[kR,jm,e_,vV f ps as λx hx=>h x (ck _ hx)];congr 1;by_cases c:0<a
  .rw [aB c,oE];show a*f p.nm+0=a*f p.nm;omega
  .have:a=0:=by omega
   rw[aA c,this,zL];rfl
def diff(as fs:Cl Int):Cl Int:=List.zipWith (λa f=>a-f) as fs
theorem GU(f:Pt->Int):∀(ps:Cl Pt)(as fs:Cl Int),as.length=ps.length->fs.length=ps.length->jG ps fs f+jG ps (diff as fs) f=jG ps as f
 | [],as,fs,_,_=>rfl
 | p::ps,[],fs,h,_=>by simp at h
 | p::ps,a::as,[],_,h=>by simp at h
 | p::ps,a::as,x::fs,h1,h2=>by have ih:=GU f ps as fs (by simpa using h1) (by simpa using h2);show jG (p::ps) (x::fs) f+jG (p::ps) ((a-x)::diff as fs) f=_;rw[e_,e_,e_,<-ih,Int.sub_mul];omega
theorem GV:∀(ps:Cl Pt)(as:Cl Int),as.length=ps.length->jG ps as (λ_=>1)=as.sum
 | [],[],_=>rfl
 | p::ps,[],h=>by simp at h
 | [],a::as,h=>by simp at h
 | p::ps,a::as,h=>by rw[e_,GV ps as (by simpa using h),bV,mH]
theorem vW{f:Pt->Int}:∀(ps:Cl Pt)(as:Cl Int),(∀p∈ps,f p=0)->jG ps as f=0
 | [],as,_=>rfl
 | p::ps,[],_=>rfl
 | p::ps,a::as,h=>by rw[e_,h p cD,vW ps as λq hq=>h q (ck _ hq)];omega
theorem Kv:∀(ps:Cl Pt)(as:Cl Int)(i:Nat)(p:Pt)(a:Int),(ps.map λp=>p.nm).Nodup->ps[i]?=some p->as[i]?=some a->jG ps as (λq=>if q.nm=p.nm then 1 else 0)=a
 | [],_,i,p,a,_,h,_=>by simp at h
 | q::ps,[],i,p,a,_,_,h=>by simp at h
 | q::ps,b::as,0,p,a,nd,h1,h2=>by have e1:q=p:=fh h1;have e2:b=a:=fh h2;subst e1 e2;rw[br]at nd;have nd:=fj.mp nd;rw[e_,aB rfl,vW ps as λx hx=>aA λ(z:x.nm=q.nm)=>nd.1 (bu.mpr ⟨x,hx,z⟩)];omega
 | q::ps,b::as,i+1,p,a,nd,h1,h2=>by rw[br]at nd;have nd:=fj.mp nd;have h1:ps[i]?=some p:=h1;have h2:as[i]?=some a:=h2;rw[e_,aA (λz:q.nm=p.nm=>nd.1 (bu.mpr ⟨p,cg h1,z.symm⟩)),Kv ps as i p a nd.2 h1 h2];omega
theorem vX(o:Str):∀(ps:Cl Pt)(ns:Cl Int),i_ ps ns o=jG ps ns λp=>if p.ow=o then 1 else 0
 | [],ns=>rfl
 | p::ps,[]=>rfl
 | p::ps,a::ns=>by
  have ih:=vX o ps ns;rw[e_,<-ih];unfold i_;rw[La,oY];by_cases c:p.ow=o
  .simp [c]
  .simp [c]
theorem uI{r:Row}:∀{ps:Cl Pt}{as:Cl Int},r∈rowsOf ps as->∃(i:Nat)(p:Pt)(a:Int),ps[i]?=some p/\as[i]?=some a/\r=(p.nm,a)/\0<a
 | [],as,h=>by simp[rowsOf]at h
 | p::ps,[],h=>by simp[rowsOf]at h
 | p::ps,a::as,h=>by
  rw[kR]at h;rcases eE.mp h with z|z
  .by_cases c:0<a
   .rw [aB c]at z;exact⟨0,p,a,Z,Z,eU.mp z,c⟩
   .rw [aA c]at z;cases z
  .obtain ⟨i,q,b,h1,h2,h3⟩:=uI z;exact⟨i+1,q,b,h1,h2,h3⟩
theorem vY:∀(ps:Cl Pt)(as:Cl Int),((rowsOf ps as).map λr:Row=>r.1).Sublist (ps.map λp=>p.nm)
 | [],as=>by simp[rowsOf]
 | p::ps,[]=>by simp[rowsOf]
 | p::ps,a::as=>by
  have ih:=vY ps as;rw[kR,b7,br];by_cases c:0<a
  .rw [aB c];exact ih.cons₂ _
  .rw [aA c];exact ih.cons _
structure kT(st:HS)(as fs:Cl Int):Prop where
 al:as.length=st.ah.length
 fl:fs.length=st.ah.length
 b:∀(i:Nat)(p:Pt)(a f:Int),st.ah[i]?=some p->as[i]?=some a->fs[i]?=some f->0<=f/\f<=a/\a<=p.wo
 less:as.sum<aq st
def k_(st:HS)(as fs:Cl Int):Cl Row:=rowsOf st.ah fs++rowsOf st.ah (diff as fs)
def Uw{as fs:Cl Int}{i:Nat}{a f:Int}(h1:as[i]?=some a)(h2:fs[i]?=some f):(diff as fs)[i]?=some (a-f):=by unfold diff;rw[tS,h1,h2]
theorem kT.at_{st:HS}{as fs:Cl Int}(g:kT st as fs){i:Nat}(hi:i<st.ah.length):∃p a f,st.ah[i]?=some p/\as[i]?=some a/\fs[i]?=some f/\(diff as fs)[i]?=some (a-f)/\0<=f/\f<=a/\a<=p.wo:=by have h1:=a_ hi;have h2:=a_ (show i<as.length by have:=g.al;omega);have h3:=a_ (show i<fs.length by have:=g.fl;omega);exact⟨_,_,_,h1,h2,h3,Uw h2 h3,g.b i _ _ _ h1 h2 h3⟩
theorem kT.pos{st:HS}{as fs:Cl Int}(g:kT st as fs):(∀f∈fs,0<=f)/\∀d∈diff as fs,0<=d:=by
 have dl:(diff as fs).length=st.ah.length:=by unfold diff;rw[gx,g.al,g.fl];omega
 constructor
 .intro f hf;obtain⟨i,hi,e⟩:=oZ hf;obtain⟨p,a,f',h1,h2,h3,h4,h5⟩:=g.at_ (i:=i) (by have:=g.fl;omega);rw[a_ hi,e]at h3;cases h3;omega
 .intro f hf;obtain⟨i,hi,e⟩:=oZ hf;obtain⟨p,a,f',h1,h2,h3,h4,h5⟩:=g.at_ (i:=i) (by omega);rw[a_ hi,e]at h4;cases h4;omega
def kT.sum{st:HS}{as fs:Cl Int}(g:kT st as fs)(f:Str->Int):cA (k_ st as fs) f=jG st.ah as λp=>f p.nm:=by obtain⟨p1,p2⟩:=g.pos;unfold k_;rw[jm,vV f _ _ p1,vV f _ _ p2,GU _ _ _ _ g.al g.fl]
def kT.lost{st:HS}{as fs:Cl Int}(g:kT st as fs):aJ (k_ st as fs)=as.sum:=by rw[iF,g.sum,GV _ _ g.al]
def kT.tot{st:HS}{as fs:Cl Int}(g:kT st as fs)(wf:Wf st){i:Nat}{p:Pt}{a:Int}(h1:st.ah[i]?=some p)(h2:as[i]?=some a):gC (k_ st as fs) p.nm=a:=by unfold gC;rw[g.sum];exact Kv _ _ i p a wf.iD h1 h2
theorem kT.fit{st:HS}{as fs:Cl Int}(g:kT st as fs)(wf:Wf st):Dr st (k_ st as fs):=by
 refine⟨λr hr=>?_,λp hp=>?_,by rw[g.lost];exact g.less⟩
 .have key:∀xs:Cl Int,r∈rowsOf st.ah xs->1<=r.2/\r.1∈iu st:=λxs h=>by obtain⟨i,p,a,h1,_,rfl,h3⟩:=uI h;exact⟨h3,bu.mpr ⟨p,cg h1,Z⟩⟩
  rcases eE.mp hr with z|z
  .exact key _ z
  .exact key _ z
 .obtain ⟨i,hi,rfl⟩:=oZ hp;obtain⟨p,a,f,h1,h2,h3,_,h5⟩:=g.at_ hi;rw[a_ hi]at h1;rw[g.tot wf (a_ hi) h2];cases h1;omega
def xm(ps:Cl Pt)(as:Cl Int):Cl Q4:=List.zipWith (λp a=>((p.nm,p.ow,p.wo-a,p.we):Q4)) ps as
theorem kT.abP{st s:HS}{as fs:Cl Int}(g:kT st as fs)(wf:Wf st)(b:pS st (k_ st as fs) s):f7 s=(xm st.ah as).filter λq=>decide (0<q.2.2.1):=by
 have f:=g.fit wf;rw[b.qd,yN _ _ (GK wf) (λr hr=>(f.row r hr).1) (λq hq=>by obtain⟨p,hp,rfl⟩:=bu.mp hq;exact f.tot p hp)];have e:(f7 st).map (λq:Q4=>((q.1,q.2.1,q.2.2.1-gC (k_ st as fs) q.1,q.2.2.2):Q4))=xm st.ah as:=by
  unfold f7 xm;refine List.ext_getElem? λi=>?_;rw[gY,cz,tS];by_cases hi:i<st.ah.length
  .obtain ⟨p,a,f,h1,h2,_⟩:=g.at_ hi;rw[h1,h2];show some (p.nm,p.ow,p.wo-gC (k_ st as fs) p.nm,p.we)=some (p.nm,p.ow,p.wo-a,p.we);rw[g.tot wf h1 h2]
  .rw [rX (by omega)];rfl
 rw[e];refine List.filter_congr λq hq=>?_;unfold xm at hq;obtain⟨i,hi,e2⟩:=oZ hq;rw[gx]at hi;obtain⟨p,a,f,h1,h2,_,_,h5⟩:=g.at_ (i:=i) (by omega);have e3:q=(p.nm,p.ow,p.wo-a,p.we):=by
  have:(List.zipWith (λp a=>((p.nm,p.ow,p.wo-a,p.we):Q4)) st.ah as)[i]?=some q:=by rw[<-e2];exact a_ _
  rw[tS,h1,h2]at this;exact(fh this).symm
 rw[e3];show decide (p.wo-a≠0)=decide (0<p.wo-a);exact decide_eq_decide.mpr (by omega)
def GX{own:Cl Str}(nd:own.Nodup){x o:Str}{j:Nat}(hx:x∈own)(ho:own[j]?=some o):(i6 own x).getD j 0=if x=o then 1 else 0:=by
 unfold i6;have hj:=(dW.mp ho).1;have ej:own.idxOf o=j:=by rw[<-(dW.mp ho).2];exact nd.idxOf_getElem j hj
 have hi:=List.idxOf_lt_length_iff.mpr hx;rw[dP];by_cases c:x=o
 .rw [aB c,c,ej,Bs (by rw[jh];exact hj)];rfl
 .rw [aA c,EK (λz=>c ?_),yl,aB hj]
  .rfl
  .have e1:=List.getElem_idxOf hi;have e2:=(dW.mp ho).2;rw[<-e1,<-e2];congr 1
def oF(own:Cl Str)(ps:Cl Pt)(as:Cl Int)(k:Int)(o1:Str):Cl Int:=own.map λo=>(if o=o1 then 1 else 0)*k+i_ ps as o
def OJ{own:Cl Str}{P B:Int}(p1:0<P)(b1:0<B){xs ys:Cl Int}(h1:xs.length=own.length)(h2:ys.length=own.length)(h3:∀j,ys.getD j 0*P=xs.getD j 0*B):(List.zip own xs).filterMap (λx=>if 0<x.2 then some (x.1,Jm.fr x.2 P) else none)=cT own ys B:=by
 unfold cT
 induction own generalizing xs ys with
 | nil=>simp
 | cons o own ih=>
  cases xs with
  | nil=>simp at h1
  | cons x xs=>
   cases ys with
   | nil=>simp at h2
   | cons y ys=>
    have h0:y*P=x*B:=by simpa using h3 0
    have ih:=ih (xs:=xs) (ys:=ys) (by simpa using h1) (by simpa using h2) (λj=>by simpa using h3 (j+1));have cc:0<x↔0<y:=by
     constructor
     .intro c;exact Int.pos_of_mul_pos_left (by rw[h0];exact uc c b1) p1
     .intro c;exact Int.pos_of_mul_pos_left (by rw[<-h0];exact uc c p1) b1
    rw[La,La,oY,oY,ih];by_cases c:0<x
    .rw [aB c,aB (cc.mp c),Jm.LC p1 b1 (show x*B=y*P from h0.symm)]
    .rw [aA c,aA λz=>c (cc.mpr z)]
def Q_(st:HS)(s:ig st)(j:Nat):st.aW.getD j 0=0:=by rw[s.aW,dP,yl];split <;> rfl
theorem kT.shares{st s:HS}{as fs:Cl Int}(g:kT st as fs)(wf:Wf st)(ws:Wf s)(sm:ig st)(w0:0<aq st)(b:pS st (k_ st as fs) s){p':Pt}(eO:p'∈s.ah)(how:∃p∈st.ah,p.nm=p'.nm/\p.ow=p'.ow):sW s p'=cT st.own (oF st.own st.ah as (aq st-as.sum) p'.ow) (aq st):=by
 obtain⟨p,hp,en,eo⟩:=how;have P1:0<s.prod:=by have:=ws.c6;omega
 unfold sW;rw[b.own];refine OJ P1 w0 (by rw[jl ws eO,ws.dQ,b.own]) (by unfold oF;rw[aH]) λj=>?_;have h:=b.sh p hp p' eO en.symm j;rw[sm.prod,wL]at h;rw[h];congr 1;rw[g.lost,g.sum];by_cases hj:j<st.own.length
 .have ej:=a_ hj;generalize st.own[j]=o at ej;have e1:(oF st.own st.ah as (aq st-as.sum) p'.ow).getD j 0=(if o=p'.ow then 1 else 0)*(aq st-as.sum)+i_ st.ah as o:=by unfold oF;rw[dP,cz,ej];rfl
  rw[e1,vX,yb sm hp,GX wf.jT (wf.ow p hp) ej,eo];congr 1
  .congr 1;by_cases c:o=p'.ow
   .rw [aB c,aB c.symm]
   .rw [aA c,aA (λz=>c z.symm)]
  .refine AR _ λq hq=>?_;rw[b_ wf hq rfl,yb sm hq,GX wf.jT (wf.ow q hq) ej]
 .have z1:∀l:Cl Int,l.length=st.own.length->l.getD j 0=0:=λl hl=>by rw[dP,rX (by omega)];rfl
  rw[z1 _ (by unfold oF;rw[aH]),z1 _ (by rw[jl wf hp,wf.dQ]),vW]
  .omega
  .intro q hq;rw[b_ wf hq rfl];exact z1 _ (by rw[jl wf hq,wf.dQ])
def GY{st:HS}(wf:Wf st)(sm:ig st){j:Nat}{o:Str}(ej:st.own[j]?=some o):fC st j=i_ st.ah (st.ah.map λp=>p.wo) o:=by
 unfold fC;rw[Q_ st sm,Int.mul_zero,Int.add_zero,vX];have key:∀ps:Cl Pt,(∀p∈ps,p∈st.ah)->(ps.map λp=>p.wo*p.sc*p.row.getD j 0).sum=jG ps (ps.map λp=>p.wo) λp=>if p.ow=o then 1 else 0:=by
  intro ps
  induction ps with
  | nil=>intro _;rfl
  | cons p ps ih=>intro h;have hp:=h p cD;obtain⟨a,b⟩:=sm.ah p hp;rw[br,br,bV,e_,ih λq hq=>h q (ck _ hq),a,b,GX wf.jT (wf.ow p hp) ej,mH]
 exact key _ λp hp=>hp
def OL(st s:HS):Prop:=∀j,j<st.own.length->fC s j*(aq st*st.prod)=aq s*fC st j*s.prod
theorem abQ(st:HS):OL st st:=λj _=>by grind
theorem OL.cast{st s:HS}(h:OL st s)(ws:Wf s){rs:Cl Row}(c:i7 s rs)(eo:s.own=st.own)(w0:0<aq s):OL st (bX s rs):=λj hj=>by
 have h1:=h j hj;have h2:=L7 ws c (i:=j) (by rw[eo];exact hj);rw[AL ws c];have P1:0<s.prod:=by have:=ws.c6;omega
 have q0:0<aq s*s.prod:=uc w0 P1;refine KQ (a:=aq s*s.prod) (by omega) ?_;generalize fC (bX s rs) j=x at *;generalize (bX s rs).prod=P2 at *;generalize fC s j=y at *;generalize fC st j=z at *;generalize aJ rs=L at *;generalize aq s=W1 at *;generalize s.prod=p1 at *;generalize aq st*st.prod=U at *;have l1:W1*p1*(x*U)=x*(W1*p1)*U:=by grind
 have l2:(W1-L)*y*P2*U=(W1-L)*P2*(y*U):=by grind
 rw[l1,h2,l2,h1]
 grind
theorem Ds:∀(ps:Cl Pt)(xs:Cl Int),(∀x∈xs,0<=x)->¬ 0<xs.sum->rowsOf ps xs=[]
 | [],_,_,_=>by simp[rowsOf]
 | _::_,[],_,_=>by simp[rowsOf]
 | p::ps,x::xs,h,s=>by have h0:=h x cD;have h1:∀y∈xs,0<=y:=λy hy=>h y (ck _ hy);have h2:=(AH h1).1;rw[bV]at s;rw[kR,aA (by omega),Ds ps xs h1 (by omega)];rfl
theorem Kw:∀(ps:Cl Pt)(xs:Cl Int),xs.length=ps.length->0<xs.sum->rowsOf ps xs≠[]
 | _,[],_,s=>by simp at s
 | [],_::_,h,_=>by simp at h
 | p::ps,x::xs,h,s=>by
  rw[kR];by_cases c:0<x
  .rw [aB c];simp
  .rw [bV]at s;rw[aA c];exact Kw ps xs (by simpa using h) (by omega)
def shs(as fs:Cl Int):Cl (Cl Int):=[fs,diff as fs]
def yO(st:HS)(as fs:Cl Int):Nat->Cl Row
 | 0=>[]
 | 1=>rowsOf st.ah fs
 | _=>k_ st as fs
structure vZ(st:HS)(as fs:Cl Int)(c m i:Nat)(s:HS):Prop where
 gw:GW (c+i) (m+100*i) s
 GZ:pS st (yO st as fs i) s
 yh:OL st s
def abR{st:HS}{as fs:Cl Int}{c m:Nat}(gw:GW c m st):vZ st as fs c m 0 st:=⟨gw,pS.nil gw.wf,abQ st⟩
theorem vZ.up{st s:HS}{as fs:Cl Int}{c m i:Nat}(h:vZ st as fs c m i s)(b:pS st (yO st as fs (i+1)) s):vZ st as fs c m (i+1) s:=⟨h.gw.up 1 (by omega),b,h.yh⟩
theorem vZ.next{st s:HS}{as fs xs:Cl Int}{c m i:Nat}(h:vZ st as fs c m i s)(g:kT st as fs)(wf:Wf st)(w0:0<aq st)(e:(shs as fs)[i]?=some xs)(hc:c+2<=90)(hm:m+300<=1000000)(ho:st.own.length<100):xs.length=st.ah.length/\(¬ 0<xs.sum->vZ st as fs c m (i+1) s)/\(0<xs.sum->i7 s (rowsOf st.ah xs)/\vZ st as fs c m (i+1) (bX s (rowsOf st.ah xs))):=by
 obtain⟨p1,p2⟩:=g.pos;have dl:(diff as fs).length=st.ah.length:=by unfold diff;rw[gx,g.al,g.fl];omega
 have hi:i<2:=(dW.mp e).1;have key:xs.length=st.ah.length/\(∀x∈xs,0<=x)/\yO st as fs i++rowsOf st.ah xs=yO st as fs (i+1)/\Dr st (yO st as fs (i+1)):=by
  have f:=g.fit wf;rcases(by omega:i=0\/i=1)with rfl|rfl
  .cases e;exact⟨g.fl,p1,Z,f.left⟩
  .cases e;exact⟨dl,p2,Z,f⟩
 obtain⟨k1,k2,k3,k4⟩:=key;refine⟨k1,λz=>h.up ?_,λz=>?_⟩
 .rw [<-k3,Ds _ _ k2 z,pU];exact h.GZ
 .have ws:=h.gw.wf;have ne:=Kw _ _ k1 z;have nd:=wf.iD.sublist (vY st.ah xs);have hr:m9 s (rowsOf st.ah xs)=none:=h.GZ.m9 wf ws (k3▸k4) nd ne;have ok:=h.gw.g.GJ ws (by omega) hr;have b2:=h.GZ.cast wf ws w0 ok;have w1:0<aq s:=by have k5:Dr st (yO st as fs i):=(k3▸k4:Dr st (yO st as fs i++rowsOf st.ah xs)).left;have:=k5.lost;rw[h.GZ.wh];omega
  refine⟨ok,h.gw.do (d:=.cast (rowsOf st.ah xs)) (by omega) (by omega) (by rw[h.GZ.own];exact ho) hr trivial,k3▸b2,h.yh.cast ws ok h.GZ.own w1⟩
def jW(ps:Cl Pt)(as:Cl Int):Cl Pt:=List.zipWith (λp a=>{ p with wo:=p.wo-a }) ps as
def Ux{ps:Cl Pt}{as:Cl Int}{i:Nat}{p:Pt}{a:Int}(h1:ps[i]?=some p)(h2:as[i]?=some a):(jW ps as)[i]?=some { p with wo:=p.wo-a }:=by unfold jW;rw[tS,h1,h2]
theorem Ra{ps:Cl Pt}{as:Cl Int}(h:as.length=ps.length):(jW ps as).length=ps.length:=by unfold jW;rw[gx];omega
theorem W9{st:HS}{as fs xs:Cl Int}(g:kT st as fs){i:Nat}(e:(shs as fs)[i]?=some xs){j:Nat}{p:Pt}{a:Int}(h1:st.ah[j]?=some p)(h2:xs[j]?=some a):a<=p.wo:=by
 have hi:i<2:=(dW.mp e).1;obtain⟨p',av,fv,e1,e2,e3,e4,b1,b2,b3⟩:=g.at_ (dW.mp h1).1;cases h1.symm.trans e1;rcases(by omega:i=0\/i=1)with rfl|rfl
 .cases e;cases h2.symm.trans e3;omega
 .cases e;cases h2.symm.trans e4;omega
def Rb(ps:Cl Pt)(as:Cl Int):(jW ps as).map (λp=>((p.nm,p.ow,p.wo,p.we):Q4))=xm ps as:=by unfold jW xm;rw[List.map_zipWith]
def kT.left{st s:HS}{as fs:Cl Int}(g:kT st as fs)(wf:Wf st)(b:pS st (k_ st as fs) s):((jW st.ah as).filter λp=>decide (0<p.wo)).map (λp=>((p.nm,p.ow,p.wo,p.we):Q4))=f7 s:=by rw[g.abP wf b,<-Rb,List.filter_map];rfl
def G_{ps ps':Cl Pt}(e:ps.map (λp=>((p.nm,p.ow,p.wo,p.we):Q4))=ps'.map (λp=>((p.nm,p.ow,p.wo,p.we):Q4))){i:Nat}{p':Pt}(h:ps'[i]?=some p'):∃p,ps[i]?=some p/\p.nm=p'.nm/\p.ow=p'.ow/\p.wo=p'.wo/\p.we=p'.we:=by have h2:=fY (λl:Cl Q4=>l[i]?) e;simp only[cz,h,zu]at h2;obtain⟨p,ep,e2⟩:=lE.mp h2;injection e2 with a e3;injection e3 with b e4;injection e4 with c d;exact⟨p,ep,a,b,c,d⟩
def OM{K:Fg}{H:Hp}{us:Cl V}{ps ps':Cl Pt}(h:eF H us ps)(e:ps.map (λp=>((p.nm,p.ow,p.wo,p.we):Q4))=ps'.map (λp=>((p.nm,p.ow,p.wo,p.we):Q4))):qB K H us ps':=by
 have r:qB K H us ps:=h.rows;have el:ps.length=ps'.length:=by have:=fY List.length e;rwa [aH,aH]at this
 refine⟨r.len.trans el,λi p' hp=>?_⟩;obtain⟨p,ep,a,b,c,d⟩:=G_ e hp;obtain⟨x,xs,h1,h2,h3,h4,h5,h6⟩:=r.at_ i p ep;exact⟨x,xs,h1,h2,a▸h3,b▸h4,c▸h5,d▸h6⟩
def Rc{ps:Cl Pt}{as:Cl Int}{q:Pt}(h:q∈jW ps as):∃p∈ps,p.nm=q.nm/\p.ow=q.ow:=by unfold jW at h;obtain⟨i,hi,e⟩:=oZ h;rw[gx]at hi;rw[List.getElem_zipWith]at e;exact⟨ps[i],qW _,by rw[<-e],by rw[<-e]⟩
def Rg{own:Cl Str}{ps:Cl Pt}{as:Cl Int}{k:Int}{o1 o:Str}{i:Nat}(h:own[i]?=some o):(oF own ps as k o1)[i]?=some ((if o=o1 then 1 else 0)*k+i_ ps as o):=by unfold oF;rw[cz,h];rfl
end L2
set_option autoImplicit false
namespace W_
open PySem L2
theorem kB(n:Nat)(h:n<=1000:=by decide):n<=sizeLine:=by rw[gQ];omega
def top(i:Nat):Stmt:=PySem.Challenge.pw_jettison_k62_a_great_hold.main.body.getD i (.Pass ⟨0,0,0,0⟩)
section
variable {P:Program}{w:World}{K:Fg}{mg:SO}{base:Heap}{f:Addr}{fd:FuncData}
abbrev lO:Stmt:=top 12
abbrev iy:Cl Str:=["one","other"]
abbrev AS:Cl Str:=iy
def qG:aS AS iy (aC lO):=dD
theorem yP(F:At K mg "common_factor" lO f fd):Dn P w K mg base 1 "common_factor" iy Qk:=by
 refine F.oA qG λ_ _ _ _ H _ Q E hr h=>?_;obtain⟨a,b,rfl,ha,hb,q⟩:=h;refine⟨_,(@cS.h _ _ _ (ak (yK fH (bf mL (qv 1) au (bD _)) (az (Oh (i:=0) (j:=1) rfl qG.nd rfl rfl (by decide) rfl rfl (af (qv 1) (af (aM iS (qv 0) (qv 1)) aj)) (by rfl))))
  (az (bB (qv 0))))),?_⟩
 refine⟨λm σ H'=>∃x y:Int,m=y.toNat/\σ=[some (.int x),some (.int y)]/\H'=H/\0<=x/\0<=y/\Jm.cf x y=Jm.cf a b,⟨_,a,b,Z,Z,Z,ha,hb,Z⟩,?_⟩;rintro m σ H' ⟨x,y,rfl,rfl,rfl,hx,hy,e⟩;refine⟨_,Z,_,_,Z,Z,_,Z,?_⟩;refine fQ (λc=>?_) (λc=>?_)
 .have c':0<y:=ff c;refine⟨_,λ_ _ z=>z,?_⟩;refine⟨_,Z,_,Z,_,Z,_,_,Z,Z,c',_,_,Z,?_⟩;have h1:0<=x % y:=kU _ (by omega);have h2:x % y<y:=tV _ c';exact⟨_,(by omega:(x % y).toNat<y.toNat),y,x % y,Z,Z,Z,hy,h1,(Jm.BF x y c').trans e⟩
 .have c':¬ 0<y:=qe (mC.mpr c);have ey:y=0:=by omega
  subst ey;rw[Jm.JP x hx]at e;refine⟨_,Z,?_⟩;rw[e];exact q
abbrev uJ:Stmt:=top 16
abbrev rQ:Cl Str:=["text","signs"]
abbrev ON:Cl Str:=rQ
def Ma:aS ON rQ (aC uJ):=dD
def Mb(F:At K mg "made_of" uJ f fd)(xo:mg "all"=none):Dn P w K mg base 1 "made_of" rQ yz:=by
 refine F.oA Ma λ_ _ _ _ H _ Q E hr h=>?_;obtain⟨⟨cs,signs,rfl,hl,q⟩⟩:=h;refine⟨_,(@cS.h _ _ _ (az (bB (aN (CN K rfl) (by rfl) xo PyProof.Rows.boot_all (af (gc ["sign","signs"] [none,some 1] rfl (WX (qv 0)) (λ_ _ _ _=>(aV (i:=0) (show List.Nodup (["sign","signs"] :Cl Str)from by decide +kernel))) (λ_ _ _ _=>(tF MQ (qv 0) (qv 1) (by with_unfolding_all rfl))) rfl (by rfl)) aj))))),?_⟩;refine⟨_,Z,cs,Z,λAp Bi=>?_⟩;refine Qq (λi out H1=>aE H H1/\out=((cs.take i).map (vn signs)).map V.bl) hl ⟨aD Bi _,Z⟩ ?_ ?_
 .rintro i c out H1 hx fk ha ⟨g,e⟩;refine⟨_,Z,_,Z,_,_,Z,Z,ha,g.b9 Bi _,?_⟩;rw[e,Lf,hx,b7,b7];rfl
 rintro out H1 fk ha ⟨g,e⟩;rw[cG]at e;refine⟨Ap,cs.map (vn signs),Z,aI.of (by rw[ha,e]),?_⟩;have e2:(cs.map (vn signs)).all id=cs.all (vn signs):=by rw[List.all_map];rfl
 rw[e2];exact q H1 g
abbrev uK:Stmt:=top 15
abbrev mq:Cl Str:=["text"]
abbrev OO:Cl Str:=mq
def Mc:aS OO mq (aC uK):=dD
theorem Me{tk:Tok}(F:At K mg "is_name" uK f fd)(v5:Dn P w K mg base 1 "made_of" rQ yz)(bg:mg "len"=none)(v7:mg "LETTERS"=some (.str "abcdefghijklmnopqrstuvwxyz" tk)):Dn P w K mg base 2 "is_name" mq qm:=by
 refine F.oA Mc λ_ _ _ _ H _ Q E hr h=>?_;obtain⟨⟨cs,rfl,hl,q⟩⟩:=h;refine⟨_,(@cS.h _ _ _ (az (bB (vR (Gv Ex Ex au (aN E8 (by rfl) bg cU (af (qv 0) aj)) au) (vP (bY v5 hr (af (qv 0) (af (sZ (v:=.str "abcdefghijklmnopqrstuvwxyz") (by rfl) v7 ⟨_,Z⟩) aj)))))))),?_⟩;have hz:(tx cs).length<=sizeLine:=by rw[vm,gQ];omega
 refine⟨_,Z,_,Z,hz,_,_,Z,Z,_,Z,?_⟩;rw[vm];refine fQ (λc=>?_) (λc=>?_)
 .refine ⟨_,_,Z,Z,_,Z,fQ (λc2=>?_) (λc2=>?_)⟩
  .refine ⟨_,Z,LI hl λH' g=>?_⟩;have:=q H' g;unfold isName at this;rw[c,c2,q_,q_]at this;exact this
  .have:=q H (aE.refl _);unfold isName at this;rw[c,mC.mpr c2,q_,tZ]at this;exact this
 .have:=q H (aE.refl _);unfold isName at this;rw[mC.mpr c,tZ,tZ]at this;exact⟨_,Z,cL this⟩
abbrev nc:Stmt:=top 32
abbrev kj:Cl Str:=["amount"]
abbrev B0:Cl Str:=kj
def AU:aS B0 kj (aC nc):=dD
theorem yQ{e:Ec}(F:At K mg "check_amount" nc f fd):Dn P w K mg base 1 "check_amount" kj (sN (GA e)):=by refine F.oA AU λ_ _ _ _ H _ Q E hr h=>?_;obtain⟨⟨a,rfl,h5,q⟩⟩:=h;refine⟨_,(@cS.h _ _ _ (az (cK (bf Ln (qv 0) au (bD _)) (az cX) bJ))),?_⟩;exact⟨_,Z,_,_,Z,Z,_,Z,fQ (λc=>h5 (ff c) 0 H (aE.refl _)) λc=>q (by have:=qe (mC.mpr c);omega)⟩
abbrev pG:Stmt:=top 33
abbrev ng:Cl Str:=["most","amount"]
abbrev Hf:Cl Str:=ng
def DJ:aS Hf ng (aC pG):=dD
theorem B3{e:Ec}(F:At K mg "check_loss" pG f fd)(tH:Dn P w K mg base 1 "check_amount" kj (sN (GA e))):Dn P w K mg base 2 "check_loss" ng (sN (Oo e)):=by
 refine F.oA DJ λ_ _ _ _ H _ Q E hr h=>?_;obtain⟨⟨m,a,rfl,h5,h6,q⟩⟩:=h;refine⟨_,(@cS.h _ _ _ (ak (dM (bY tH hr (af (qv 1) aj)))
  (az (cK (bf mL (qv 1) (qv 0) (bD _)) (az cX) bJ)))),?_⟩
 exact⟨_,Z,⟨⟨a,Z,h5,λh1=>⟨_,Z,_,Z,_,_,Z,Z,_,Z,fQ (λc=>h6 h1 (ff c) 0 H (aE.refl _)) λc=>q h1 (by have:=qe (mC.mpr c);omega)⟩⟩⟩⟩
abbrev pH:Stmt:=top 31
abbrev nh:Cl Str:=["rows"]
abbrev Hg:Cl Str:=nh.append ["amounts","name","amount"]
def lu:aS Hg nh (aC pH):=dD
theorem DK(F:At K mg "amounts_of" pH f fd)(bg:mg "len"=none):Dn P w K mg base 1 "amounts_of" nh (NY K):=by
 refine F.oA lu λ_ _ _ _ H _ Q E hr h=>?_;obtain⟨⟨l,us,rs,rfl,hl,hR,nd,hne,hle,q⟩⟩:=h;refine⟨_,(@cS.h _ _ _ (ak (aY (i:=1) lu.nd nW)
  (ak (fu fH rfl (fG K (qv 0)) (i9 K (n:=2) rfl (cM (aV (i:=2) lu.nd) (cM (aV (i:=3) lu.nd) i8))) (ak (cK (qE (Gy (iL hr) (qv 2) (qv 1))) (az cX) bJ)
  (az (tE (iL hr) (qv 1) (qv 2) (qv 3) rfl))))
  (ak (cK (bf fK (aN ve (by rfl) bg cU (af (qv 1) aj)) au (bD _)) (az cX) bJ)
  (az (bB (qv 1))))))),?_⟩
 intro d hd;have g0:=aD hd (.dK []);have hd0:upd H d (.dK []) d=some (.dK (fV (rs.take 0))):=ai;generalize upd H d (.dK [])=H0 at *;have Xa:=hR.length;refine⟨_,Z,l,Z,⟨us,g0.seq hl⟩,?_⟩;refine nN (K:=K) (xs:=us) (λi σ H'=>aE H H'/\H' d=some (.dK (fV (rs.take i)))/\∃s2 s3,σ=[some (.ref l),some (.ref d),s2,s3]) ⟨g0,hd0,_,_,Z⟩ (λi σ H' _ hp=>hp.1.seq hl) ?_ ?_
 .rintro i x σ H' hx ⟨g,hd',s2,s3,rfl⟩;obtain⟨a,r,rfl,er,ha⟩:=hR.get hx;have hnot:r.1∉(rs.take i).map (·.1):=by rw[List.map_take];exact sX nd (by rw[cz,er];rfl)
  have hlt:(fV (rs.take i)).length<sizeLine:=by rw[uB,jN];exact fM (by omega)
  refine⟨a,_,Z,bR.of (g _ _ ha),Z,_,_,Z,_,_,Z,Z,?_⟩;refine⟨_,Z,_,Z,d,_,Z,iU.k (k:=Sum.inr r.1) hd',_,Z,?_⟩;rw[CY hnot];refine cL ?_;refine⟨_,Z,_,Z,_,Z,d,_,Z,um.k (k:=Sum.inr r.1) hd' hlt,g.b9 hd _,?_,_,_,Z⟩;rw[ai,lG _ (CY hnot),take_snoc er];unfold fV;rw[b7];rfl
 rintro σ H' ⟨g,hd',s2,s3,rfl⟩;rw[Xa,cG]at hd';refine⟨_,Z,d,_,Z,hd',Z,_,Z,?_⟩;rw[uB];have hpos:0<rs.length:=List.length_pos_iff.mpr hne;rw[ee (λe=>by have:=V.int.inj e;omega)];exact cL ⟨_,Z,q d H' g hd hd'⟩
abbrev lP:Stmt:=top 27
abbrev jK:Cl Str:=["step","tops"]
abbrev AV:Cl Str:=jK.append ["top"]
def lQ:aS AV jK (aC lP):=dD
theorem yR(F:At K mg "factor_of_all" lP f fd)(gf:Dn P w K mg base 1 "common_factor" iy Qk):Dn P w K mg base 2 "factor_of_all" jK (NZ K):=by
 refine F.oA lQ λ_ _ _ _ H _ Q E hr h=>?_;obtain⟨⟨s,l,ts,rfl,hl,h0,h1,q⟩⟩:=h;refine⟨_,(@cS.h _ _ _ (ak (fu fH rfl (fG K (qv 1)) (aV (i:=2) lQ.nd) (az (aY (i:=0) lQ.nd (bY gf hr (af (qv 2) (af (qv 0) aj))))))
  (az (bB (qv 0))))),?_⟩
 refine⟨_,Z,l,Z,⟨_,hl⟩,?_⟩;refine nN (K:=K) (xs:=ts.map V.int) (λi σ H'=>H'=H/\0<=mY s (ts.take i)/\∃s2,σ=[some (.int (mY s (ts.take i))),some (.ref l),s2]) ⟨Z,h0,_,Z⟩ (λi σ H' _ hp=>by rw[hp.1];exact hl) ?_ ?_
 .rintro i x σ H' hx ⟨rfl,hf,s2,rfl⟩;obtain⟨t,rfl,et⟩:=fE hx;have e1:mY s (ts.take (i+1))=Jm.cf t (mY s (ts.take i)):=by unfold mY;rw[take_snoc et,By];rfl
  refine⟨_,Z,_,Z,t,_,Z,h1 t (cg et),hf,Z,?_,some (.int t),?_⟩
  .rw [e1];unfold Jm.cf;omega
  .rw [e1];rfl
 rintro σ H' ⟨rfl,hf,s2,rfl⟩;rw[aH,cG];exact⟨_,Z,q⟩
abbrev nX:Stmt:=inClass (top 26) 0
abbrev pI:Cl Str:=["self"]
abbrev DL:Cl Str:=pI
def B4:aS DL pI (aC nX):=dD
def B5{T:TC}(F:CS K mg "Bottom" T.bot "Bottom.__init__" nX f fd)(X:Txt K T):Cn P w K mg base 1 "Bottom" T.bot pI (JV T):=by
 refine F.oA B4 λ_ _ _ _ H _ Q E hr h=>?_;obtain⟨⟨p,dx,rfl,hp,q⟩⟩:=h;refine⟨_,(@cS.h _ _ _ (ak (di K (qv 0) (jy aj))
  (ak (di K (qv 0) au)
  (az (di K (qv 0) nW))))),?_⟩
 refine⟨(kB 0),λl hl=>?_⟩;have n1:p≠l:=aG hp hl;refine⟨_,Z,p,T.bot,dx,_,Z,by rw[ay n1];exact hp,X.cB,X.Wu,by show 0<1000;decide,?_⟩;refine⟨_,Z,p,T.bot,dx,_,Z,ai,X.cB,X.R1,by show 1<1000;decide,?_⟩;intro d hd;have n2:d≠p:=λe=>by rw[e,ai]at hd;cases hd
 have n3:d≠l:=λe=>by rw[e,ay (cW n1),ay (cW n1),ai]at hd;cases hd
 have hd0:H d=none:=by rw[ay n2,ay n2,ay n3]at hd;exact hd
 refine⟨_,Z,p,T.bot,dx,_,Z,by rw[ay (cW n2)];exact ai,X.cB,X.NQ,by show 2<1000;decide,?_⟩;refine q l d _ hl hd0 (cW n3) (λb o e hb=>?_) ai ?_ ?_
 .rw [ay hb,ay (aG e hd0),ay hb,ay hb,ay (aG e hl)];exact e
 .rw [ay (cW n1),ay (cW n3),ay (cW n1),ay (cW n1)];exact ai
 .rw [ay n2];exact ai
abbrev qH:Stmt:=inClass (top 29) 0
abbrev sr:Cl Str:=["self","name","owner","worth","weight","scale","row"]
abbrev IU:Cl Str:=sr
def Hh:aS IU sr (aC qH):=dD
def Hi{T:TC}(F:CS K mg "Part" T.part "Part.__init__" qH f fd)(X:Txt K T)(jz:mg "list"=none):Cn P w K mg base 1 "Part" T.part sr (JW T K):=by
 refine F.oA Hh λ_ _ _ _ H _ Q E hr h=>?_;obtain⟨⟨p,dx,l,pt,rfl,hp,hl,q⟩⟩:=h;refine⟨_,(@cS.h _ _ _ (ak (di K (qv 0) (qv 1))
  (ak (di K (qv 0) (qv 2))
  (ak (di K (qv 0) (qv 3))
  (ak (di K (qv 0) (qv 4))
  (ak (di K (qv 0) (qv 5))
  (az (di K (qv 0) (mh (DF K) (by rfl) jz K1 (af (qv 6) aj)))))))))),?_⟩
 refine⟨_,Z,_,Z,p,T.part,dx,_,Z,hp,X.cP,X.R0,by show 0<1000;decide,?_⟩;refine⟨_,Z,_,Z,p,T.part,dx,_,Z,ai,X.cP,X.pow,by show 1<1000;decide,?_⟩;refine⟨_,Z,_,Z,p,T.part,dx,_,Z,ai,X.cP,X.FE,by show 2<1000;decide,?_⟩;refine⟨_,Z,_,Z,p,T.part,dx,_,Z,ai,X.cP,X.Z9,by show 3<1000;decide,?_⟩;refine⟨_,Z,_,Z,p,T.part,dx,_,Z,ai,X.cP,X.JS,by show 4<1000;decide,?_⟩;simp only[nL];have hl1:∀o,aI K (upd H p o) l (pt.row.map V.int):=λo=>by
  rcases hl with(h|⟨ob,h⟩)|h
  .exact .inl (.inl (by rw[ay (gT h hp (by intro z;cases z))];exact h))
  .exact .inl (.inr ⟨ob,by rw[ay (gT h hp (by intro z;cases z))];exact h⟩)
  .exact .inr h
 refine⟨_,Z,l,_,Z,.inl (hl1 _),λr hr2=>?_⟩;have n1:r≠p:=λe=>by rw[e,ai]at hr2;cases hr2
 refine⟨_,Z,p,T.part,dx,_,Z,by rw[ay (cW n1)];exact ai,X.cP,X.NP,by show 5<1000;decide,?_⟩;have hr0:H r=none:=by rw[ay n1]at hr2;exact hr2
 refine q r _ hr0 (λb o e hb=>?_) ai ?_
 .rw [ay hb,ay (aG e hr0),ay hb];exact e
 .rw [ay n1];exact ai
abbrev nY:Stmt:=inClass (top 26) 1
abbrev lA:Cl Str:=["self","step"]
abbrev DM:Cl Str:=lA
def B6:aS DM lA (aC nY):=dD
def B7{T:TC}(F:jw K T.bot "grow" "Bottom.grow" nY f fd)(X:Txt K T):Mn P w K mg base 1 T.bot "grow" lA (N1 T):=by
 refine F.oA B6 λ_ _ _ _ H _ Q E hr h=>?_;obtain⟨⟨n,ρ,A,st,s,rfl,g,h,hl,z1,z2,q⟩⟩:=h;refine⟨_,(@cS.h _ _ _ (az (jU (bf mL (qv 1) au (bD _)) (ak (dM (rP u0 uY uZ gF (aQ K (qv 0)) (af (qv 1) aj)))
  (ak (AE K (qv 0) (qv 1) TR)
  (az (di K (qv 0) nW)))) bJ))),?_⟩
 refine⟨λσ' H'=>Q .b8 H',⟨_,Z,_,_,Z,Z,_,Z,fQ (λc=>?_) (λc=>?_)⟩,λ_ _ z=>z⟩
 .have c':1<s:=ff c;refine⟨_,Z,A.bt,T.bot,A.db,_,_,Z,h.ku,X.cB,X.Wu,Z,.inl ⟨Z,_,aI.of h.oU⟩,_,Z,A.sp,_,_,Z,Z,h.oU,by rw[aH];exact fM hl,?_⟩;rw[show st.stp.map V.int++[V.int s]=(st.stp++[s]).map V.int from by rw[b7];rfl];have h1:=h.Wq g (st.stp++[s]);have g1:=g.wr (a:=A.sp) (o:=.lst ((st.stp++[s]).map V.int)) rfl;have F1:Fr n ρ H ρ (upd H A.sp (.lst ((st.stp++[s]).map V.int))):=Fr.write h.iX;generalize upd H A.sp (.lst ((st.stp++[s]).map V.int))=H1 at *;refine⟨_,Z,A.bt,T.bot,A.db,_,_,Z,h1.ku,X.cB,X.R1,Z,_,Z,_,_,Z,Z,j_ z1 z2,A.db,_,h1.ku,by show 3<1000;decide,?_⟩;intro kn hkn;have nb:kn≠A.bt:=λe=>by rw[e,ai]at hkn;cases hkn
  have yS:H1 kn=none:=by rw[ay nb]at hkn;exact hkn
  have iY:ρ kn=none:=g1.none yS;refine⟨_,Z,A.bt,T.bot,A.db,_,Z,by rw[ay (cW nb)];exact ai,X.cB,X.NQ,by show 3<1000;decide,?_⟩;have eH:upd (upd (upd H1 A.bt (.ins T.bot A.db (gj "product" (.int (st.prod*s)) (uu A.sp st.prod A.kn)))) kn (.dK [])) A.bt (.ins T.bot A.db (gj "known" (.ref kn) (gj "product" (.int (st.prod*s)) (uu A.sp st.prod A.kn))))=upd (upd H1 kn (.dK [])) A.bt (.ins T.bot A.db (uu A.sp (st.prod*s) kn)):=by rw[jj (cW nb),nL];rfl
  have k2:Kp n ρ (fT ρ kn (n,9,⟨#[]⟩)) H1 (upd H1 kn (.dK [])) (λ_=>true):=⟨(aD yS _).tups,λb t x o _ c e=>⟨aD yS _ _ _ e,by rw[eZ (aG e yS)];exact c⟩⟩
  have h2:=h1.same k2;have g2:Gh (fT ρ kn (n,9,⟨#[]⟩)) (upd H1 kn (.dK [])):=(g1.alloc yS).color ai rfl;have F2:Fr n ρ H1 (fT ρ kn (n,9,⟨#[]⟩)) (upd H1 kn (.dK [])):=Fr.color yS (aD yS _);have h3:=h2.Wt g2 (st.prod*s) kn ai jf;have es:dJ st s={ { st with stp:=st.stp++[s] }with prod:=st.prod*s,kn:=0 }:=by unfold dJ;rw[aB c']
  rw[es]at q;show Q .b8 _;refine(show _=_ from eH)▸?_;exact q _ _ _ (g2.wr rfl) h3 rfl (F1.trans (F2.trans (Fr.write h2.iW)))
 .have c':¬ 1<s:=qe (mC.mpr c);have es:dJ st s=st:=by unfold dJ;rw[aA c']
  rw[es]at q;exact q ρ A H g h rfl Fr.refl
abbrev lR:Stmt:=inClass (top 30) 19
abbrev iz:Cl Str:=["self","owner"]
abbrev AW:Cl Str:=iz
def yT:aS AW iz (aC lR):=dD
def xy{T:TC}{e:Ec}(F:jw K T.hold "place_of" "Hold.place_of" lR f fd)(X:Txt K T):Mn P w K mg base 1 T.hold "place_of" iz (sN (Gu T e)):=by
 refine F.oA yT λ_ _ _ _ H _ Q E hr h=>?_;obtain⟨⟨n,ρ,A,st,o,rfl,h,q2,q⟩⟩:=h;refine⟨_,(@cS.h _ _ _ (ak (cK (qE (vQ (iL hr) (qv 1) (aQ K (qv 0)))) (az cX) bJ)
  (az (bB (s_ (iL hr) (aQ K (qv 0)) (qv 1)))))),?_⟩
 refine⟨_,Z,_,Z,A.a,T.hold,A.dx,_,_,Z,h.oa,X.cH,X.hpl,Z,A.pl,_,Z,iU.k (k:=Sum.inr o) h.ie,_,Z,?_⟩;by_cases ho:o∈st.own
 .have hv:=JU (i:=0) ho;rw[hv];refine cL ?_;refine⟨_,Z,A.a,T.hold,A.dx,_,_,Z,h.oa,X.cH,X.hpl,Z,_,Z,A.pl,_,Z,hv▸iU.k (k:=Sum.inr o) h.ie,?_⟩;rw[Nat.zero_add];exact q ho
 .rw [mW ho];exact lH <| q2 ho 0 H (aE.refl _)
abbrev nj:Stmt:=inClass (top 30) 20
abbrev ja:Cl Str:=["self","name"]
abbrev B8:Cl Str:=ja
def AX:aS B8 ja (aC nj):=dD
def yU{T:TC}{e:Ec}(F:jw K T.hold "part_of" "Hold.part_of" nj f fd)(X:Txt K T):Mn P w K mg base 1 T.hold "part_of" ja (sN (De T e)):=by
 refine F.oA AX λ_ _ _ _ H _ Q E hr h=>?_;obtain⟨⟨n,ρ,A,st,x,rfl,hA,nd,q2,k⟩⟩:=h;refine⟨_,(@cS.h _ _ _ (ak (cK (qE (vQ (iL hr) (qv 1) (aQ K (qv 0)))) (az cX) bJ)
  (az (bB (s_ (iL hr) (aQ K (qv 0)) (qv 1)))))),?_⟩
 refine⟨_,Z,_,Z,A.a,T.hold,A.dx,_,_,Z,hA.oa,X.cH,X.hab,Z,A.ab,_,Z,iU.k (k:=Sum.inr x) hA.cY,_,Z,?_⟩;by_cases hx:∃p∈st.ah,p.nm=x
 .obtain ⟨p,hp,rfl⟩:=hx;obtain⟨i,hi,ep⟩:=List.mem_iff_getElem.mp hp;have nI:st.ah[i]?=some p:=by rw[a_ hi,ep]
  obtain⟨qq,eq,_⟩:=hA.find nI;have hv:=sV nd nI eq;rw[hv];refine cL ?_;exact⟨_,Z,A.a,T.hold,A.dx,_,_,Z,hA.oa,X.cH,X.hab,Z,_,Z,A.ab,_,Z,hv▸iU.k (k:=Sum.inr p.nm) hA.cY,k i p qq rfl nI eq⟩
 .have hn:∀p∈st.ah,p.nm≠x:=λp hp z=>hx ⟨p,hp,z⟩;rw[qz hn];exact lH <| q2 hn 0 H (aE.refl _)
abbrev kG:Stmt:=inClass (top 30) 21
abbrev jn:Cl Str:=["self","name"]
abbrev yV:Cl Str:=jn
def xA:aS yV jn (aC kG):=dD
def v8{T:TC}{e:Ec}(F:jw K T.hold "check_new" "Hold.check_new" kG f fd)(X:Txt K T)(iA:Dn P w K mg base 2 "is_name" mq qm):Mn P w K mg base 3 T.hold "check_new" jn (sN (yf T e)):=by
 refine F.oA xA λ_ _ _ _ H _ Q E hr h=>?_;obtain⟨⟨n,ρ,A,st,x,rfl,h,hx,q2,q⟩⟩:=h;refine⟨_,(@cS.h _ _ _ (ak (cK (fB (fq (bY iA hr (af (qv 1) aj)))) (az cX) bJ)
  (az (cK (qE (Gy (iL hr) (qv 1) (aQ K (qv 0)))) (az cX) bJ)))),?_⟩
 refine⟨_,Z,uo (cs:=x.cps.toList) hx λH1 g1=>⟨_,Z,?_⟩⟩;cases hn:isName x.cps.toList with
 | false=>exact lH <| q2 0 (by unfold newR isNm;rw[hn];rfl) 0 H1 g1
 | true=>
  refine cL ?_;have h1:=h.mono g1;refine⟨_,Z,_,Z,A.a,T.hold,A.dx,_,_,Z,h1.oa,X.cH,X.hnm,Z,A.nm,_,Z,iU.k (k:=Sum.inr x) h1.qw,_,Z,?_⟩;by_cases hm:x∈st.nms
  .rw [FI hm];exact lH <| q2 1 (by unfold newR isNm;rw[hn,aB rfl,aB hm]) 0 H1 g1
  .rw [vC hm];exact cL (q (Df hn hm) H1 g1)
abbrev pJ:Stmt:=inClass (top 30) 11
abbrev nq:Cl Str:=["self"]
abbrev Hj:Cl Str:=nq
def DN:aS Hj nq (aC pJ):=dD
theorem DO{T:TC}(F:jw K T.hold "parts" "Hold.parts" pJ f fd)(X:Txt K T):Mn P w K mg base 1 T.hold "parts" nq (J0 T):=by
 refine F.oA DN λ_ _ _ _ H _ Q E hr h=>?_;obtain⟨⟨n,ρ,A,st,rfl,h,hl,q⟩⟩:=h;refine⟨_,(@cS.h _ _ _ (az (bB (AD (gc ["part"] [none] rfl (sY (aQ K (qv 0))) (λ_ _ _ _=>(aV (i:=0) (show List.Nodup (["part"] :Cl Str)from by decide +kernel))) (λ_ _ _ _=>(m_ (af (aQ K (qv 0)) (af (aQ K (qv 0)) (af (aQ K (qv 0)) (af (aQ K (qv 0)) aj)))))) rfl (by rfl)))))),?_⟩;refine⟨A.ab,_,h.cY,λo=>?_⟩;refine⟨_,Z,A.a,T.hold,A.dx,_,_,Z,cZ h.cY h.oa (λk z=>by cases z),X.cH,X.hab,Z,A.ab,o,_,Z,ai,λAp Bi=>?_⟩;have el:=qb h.ql;refine ia (n:=st.ah.length) 0 (λi out H1=>aE (upd H A.ab (.dz o (.dK (cu st.ah A.qs)))) H1/\eF H1 out (st.ah.take i)) (by omega) ⟨aD Bi _,.nil⟩ (λi out H1 hi _ hp=>⟨hp.1 _ _ ai,by rw[el];exact hi⟩) (λout H1 _ hp=>⟨hp.1 _ _ ai,by rw[el];exact aO _⟩) ?_ ?_
 .rintro i x out H1 H2 hi fk ha ⟨g,hP⟩ ⟨rfl,kv,hkv,rfl⟩;have ep:=a_ hi;obtain⟨qq,eq,h1,h2,_⟩:=h.find ep;rw[qa ep eq]at hkv;cases hkv;have hq:=g _ _ (cZ h.cY h1 (λk z=>by cases z));refine⟨_,Z,qq.1,T.part,qq.2.1,_,_,Z,hq,X.cP,X.R0,Z,_,Z,qq.1,T.part,qq.2.1,_,_,Z,hq,X.cP,X.pow,Z,_,Z,qq.1,T.part,qq.2.1,_,_,Z,hq,X.cP,X.FE,Z,_,Z,qq.1,T.part,qq.2.1,_,_,Z,hq,X.cP,X.Z9,Z,(kB 4),λt ht=>?_⟩;have g1:=aD ht (uz st.ah[i]);refine⟨g1 _ _ ha,(g.trans g1).b9 Bi _,?_⟩;rw[take_snoc ep];exact((hP.mono g1.tups).snoc ai).mono (iZ (.inr ⟨_,g1 _ _ ha,Z⟩))
 rintro out H1 fk ha ⟨g,hP⟩;rw[cG]at hP;have hz:=g _ _ (ai (H:=H) (a:=A.ab) (o:=.dz o (.dK (cu st.ah A.qs))));have na:Ap≠A.ab:=λe=>by rw[e,hz]at ha;cases ha
 exact⟨hz,q Ap out _ (nR h.cY g) (lN h.cY Bi) (by rw[ay na];exact ha) (hP.mono (iZ (.inr ⟨_,hz,Z⟩)))⟩
abbrev pK:Stmt:=inClass (top 30) 13
abbrev jX:Cl Str:=["self"]
abbrev Hl:Cl Str:=jX
def DP:aS Hl jX (aC pK):=dD
theorem DQ{T:TC}(F:jw K T.hold "whole" "Hold.whole" pK f fd)(X:Txt K T)(eY:mg "sum"=none):Mn P w K mg base 1 T.hold "whole" jX (BP T):=by
 refine F.oA DP λ_ _ _ _ H _ Q E hr h=>?_;obtain⟨⟨n,ρ,A,st,rfl,h,hl,q⟩⟩:=h;refine⟨_,(@cS.h _ _ _ (az (bB (aN (jR K rfl) (by rfl) eY tT (af (AD (gc ["part"] [none] rfl (sY (aQ K (qv 0))) (λ_ _ _ _=>(aV (i:=0) (show List.Nodup (["part"] :Cl Str)from by decide +kernel))) (λ_ _ _ _=>(aQ K (qv 0))) rfl (by rfl))) aj))))),?_⟩;refine⟨A.ab,_,h.cY,λo=>?_⟩;refine⟨_,Z,A.a,T.hold,A.dx,_,_,Z,cZ h.cY h.oa (λk z=>by cases z),X.cH,X.hab,Z,A.ab,o,_,Z,ai,λAp Bi=>?_⟩;have el:=qb h.ql;refine ia (n:=st.ah.length) 0 (λi out H1=>aE (upd H A.ab (.dz o (.dK (cu st.ah A.qs)))) H1/\out=((st.ah.take i).map (·.wo)).map V.int) (by omega) ⟨aD Bi _,Z⟩ (λi out H1 hi _ hp=>⟨hp.1 _ _ ai,by rw[el];exact hi⟩) (λout H1 _ hp=>⟨hp.1 _ _ ai,by rw[el];exact aO _⟩) ?_ ?_
 .rintro i x out H1 H2 hi fk ha ⟨g,e⟩ ⟨rfl,kv,hkv,rfl⟩;have ep:=a_ hi;obtain⟨qq,eq,h1,h2,_⟩:=h.find ep;rw[qa ep eq]at hkv;cases hkv;have hq:=g _ _ (cZ h.cY h1 (λk z=>by cases z));refine⟨_,Z,qq.1,T.part,qq.2.1,_,_,Z,hq,X.cP,X.FE,Z,ha,g.b9 Bi _,?_⟩;rw[take_snoc ep,e,b7,b7];rfl
 rintro out H1 fk ha ⟨g,e⟩;rw[cG]at e;have hz:=g _ _ (ai (H:=H) (a:=A.ab) (o:=.dz o (.dK (cu st.ah A.qs))));have na:Ap≠A.ab:=λe=>by rw[e,hz]at ha;cases ha
 exact⟨hz,Ap,st.ah.map (λp:Pt=>p.wo),Z,aI.of (by rw[ay na,ha,e]),q _ (nR h.cY g)⟩
abbrev jb:Stmt:=inClass (top 30) 25
abbrev gD:Cl Str:=["self","tops"]
abbrev uL:Cl Str:=gD
def tK:aS uL gD (aC jb):=dD
theorem tL{T:TC}(F:jw K T.hold "beyond_common" "Hold.beyond_common" jb f fd)(X:Txt K T)(gE:mg "zip"=none):Mn P w K mg base 1 T.hold "beyond_common" gD (R4 T K):=by
 refine F.oA tK λ_ _ _ _ H _ Q E hr h=>?_;obtain⟨⟨n,ρ,A,st,l,tops,rfl,h,hS,htl,hle,q⟩⟩:=h;refine⟨_,(@cS.h _ _ _ (az (bB (gc ["top","common"] [none,none] rfl (nU K (by rfl) gE (af (qv 1) (af (aQ K (qv 0)) aj))) (λ_ _ _ _=>(i9 K (n:=2) rfl (cM (aV (i:=0) (show List.Nodup (["top","common"] :Cl Str)from by decide +kernel)) (cM (aV (i:=1) (show List.Nodup (["top","common"] :Cl Str)from by decide +kernel)) i8)))) (λ_ _ _ _=>(aM oS (qv 0) (qv 1))) rfl (by rfl))))),?_⟩;refine⟨_,Z,_,Z,A.a,T.hold,A.dx,_,_,Z,h.oa,X.cH,X.vz,Z,_,_,_,_,_,_,Z,.lst hS,.lst (aI.of h.iJ),λAp Bi=>?_⟩;refine vv (K:=K) (n:=tops.length) [0,1] (λi out H1=>aE H H1/\out=(List.zipWith (λt c=>t-c) (tops.take i) (st.aW.take i)).map V.int) (by decide) (by omega) ⟨aD Bi _,Z⟩ (λi out H1 hi _ hp=>⟨hp.1.seq hS,hp.1.seq (aI.of h.iJ),by rw[aH];exact hi,by rw[aH];omega⟩)
  (λout H1 _ hp=>⟨hp.1.seq hS,hp.1.seq (aI.of h.iJ),.inl (by rw[aH];exact aO _)⟩) ?_ ?_
 .rintro i x out H1 H2 hi fk ha ⟨g,e⟩ ⟨p,x1,y1,hp,rfl,rfl,e1,e2⟩;obtain⟨t,rfl,et⟩:=fE e1;obtain⟨c,rfl,ec⟩:=fE e2;have g1:=aD hp (.tup [.int t,.int c]);refine⟨p,_,Z,bR.of ai,Z,_,Z,_,Z,_,_,Z,Z,g1 _ _ ha,(g.trans g1).b9 Bi _,?_⟩;rw[rJ _ et ec,e,b7];rfl
 rintro out H1 fk ha ⟨g,e⟩;rw[cG,htl,cG]at e;exact q Ap H1 g Bi (by rw[ha,e];rfl)
abbrev nt:Stmt:=inClass (top 30) 24
abbrev ko:Cl Str:=["self","part"]
abbrev B9:Cl Str:=ko
def AY:aS B9 ko (aC nt):=dD
theorem AZ{T:TC}(F:jw K T.hold "tops_of" "Hold.tops_of" nt f fd)(X:Txt K T)(gE:mg "zip"=none):Mn P w K mg base 1 T.hold "tops_of" ko (JY T):=by
 refine F.oA AY λ_ _ _ _ H _ Q E hr h=>?_;obtain⟨⟨n,ρ,A,st,ip,pt,qq,rfl,h,wf,ep,eq,q⟩⟩:=h;obtain⟨h1,h2,_⟩:=h.opt ip pt qq ep eq;have jA:=cg ep;refine⟨_,(@cS.h _ _ _ (az (bB (gc ["own","common","part"] [none,none,some 1] rfl (nU K (by rfl) gE (af (aQ K (qv 1)) (af (aQ K (qv 0)) aj))) (λ_ _ _ _=>(i9 K (n:=2) rfl (cM (aV (i:=0) (show List.Nodup (["own","common","part"] :Cl Str)from by decide +kernel)) (cM (aV (i:=1) (show List.Nodup (["own","common","part"] :Cl Str)from by decide +kernel)) i8)))) (λ_ _ _ _=>(aM cQ (aM lX (aQ K (qv 2)) (qv 0)) (qv 1))) rfl (by rfl))))),?_⟩;have Xb:pt.row.length=st.aW.length:=by rw[wf.rows pt jA,wf.dQ]
 have hcl:st.aW.length<=100:=by rw[wf.dQ];exact wf.mT
 refine⟨_,Z,qq.1,T.part,qq.2.1,_,_,Z,h1,X.cP,X.NP,Z,_,Z,A.a,T.hold,A.dx,_,_,Z,h.oa,X.cH,X.vz,Z,_,_,_,_,_,_,Z,.lst (aI.of h2),.lst (aI.of h.iJ),λAp Bi=>?_⟩;refine vv (K:=K) (n:=pt.row.length) [0,1] (λi out H1=>aE H H1/\out=(List.zipWith (λr c=>pt.sc*r+c) (pt.row.take i) (st.aW.take i)).map V.int) (by decide) (by omega) ⟨aD Bi _,Z⟩ (λi out H1 hi _ hp=>⟨hp.1.seq (aI.of h2),hp.1.seq (aI.of h.iJ),by rw[aH];exact hi,by rw[aH];omega⟩)
  (λout H1 _ hp=>⟨hp.1.seq (aI.of h2),hp.1.seq (aI.of h.iJ),.inl (by rw[aH];exact aO _)⟩) ?_ ?_
 .rintro i x out H1 H2 hi fk ha ⟨g,e⟩ ⟨p,x1,y1,hp,rfl,rfl,e1,e2⟩;obtain⟨t,rfl,et⟩:=fE e1;obtain⟨c,rfl,ec⟩:=fE e2;have g1:=aD hp (.tup [.int t,.int c]);have s1:Jm.Sz 8000 pt.sc:=Jm.Sz.kN (by have:=wf.mU pt jA;have:=wf.c6;omega) (wf.mU pt jA).2 wf.big;have s2:Jm.Sz 8000 t:=Jm.Sz.kN (wf.kF pt jA t (cg et)).1 (wf.kF pt jA t (cg et)).2 wf.big;refine⟨p,_,Z,bR.of ai,Z,_,Z,qq.1,T.part,qq.2.1,_,_,Z,(g.trans g1) _ _ h1,X.cP,X.JS,Z,_,Z,_,_,Z,Z,j_ s1 s2,_,Z,_,_,Z,Z,g1 _ _ ha,(g.trans g1).b9 Bi _,?_⟩;rw[rJ _ et ec,e,b7];rfl
 rintro out H1 fk ha ⟨g,e⟩;rw[cG,Xb,cG]at e;exact q Ap H1 g Bi (by rw[ha,e];rfl)
abbrev qI:Stmt:=inClass (top 30) 22
abbrev oG:Cl Str:=["self","part"]
abbrev IV:Cl Str:=oG
def Ho:aS IV oG (aC qI):=dD
theorem Hq{T:TC}(F:jw K T.hold "stow" "Hold.stow" qI f fd)(X:Txt K T):Mn P w K mg base 1 T.hold "stow" oG (NS T):=by
 refine F.oA Ho λ_ _ _ _ H _ Q E hr h=>?_;obtain⟨⟨n,ρ,A,st,qq,p,rfl,hh,h1,h2,c1,c2,hn,wf',q⟩⟩:=h;have h:=hh.h;refine⟨_,(@cS.h _ _ _ (ak (tE (iL hr) (aQ K (qv 0)) (aQ K (qv 1)) (qv 1) rfl)
  (az (tE (iL hr) (aQ K (qv 0)) (aQ K (qv 1)) iM rfl)))),?_⟩
 have v9:∀x∈st.ah,x.nm≠p.nm:=λx hx e=>hn (by rw[<-e];exact hh.wf.sub x hx);have lab:(cu st.ah A.qs).length<sizeLine:=by rw[qb h.ql];exact fM hh.wf.nQ
 refine⟨_,Z,_,Z,A.a,T.hold,A.dx,_,_,Z,h.oa,X.cH,X.hab,Z,_,Z,qq.1,T.part,qq.2.1,_,_,Z,h1,X.cP,X.R0,Z,A.ab,_,Z,um.k (k:=Sum.inr p.nm) h.cY lab,?_⟩;rw[lG _ (qz v9),<-QD h.ql p qq];have k1:qq.1≠qq.2.2:=gT h1 h2 (by intro z;cases z);have f1:Kp n ρ (fT (fT ρ qq.1 (n,20,p.nm)) qq.2.2 (n,21,p.nm)) H H (λ_=>true):=⟨λ_ _ e=>e,λb t x o _ c e=>⟨e,by rw[eZ (λz=>by rw[z,c2]at c;cases c),eZ (λz=>by rw[z,c1]at c;cases c)];exact c⟩⟩
 have hc:=h.same f1;have g1:Gh (fT (fT ρ qq.1 (n,20,p.nm)) qq.2.2 (n,21,p.nm)) H:=(hh.g.color h1 rfl).color h2 rfl;have fr1:FJ n qq.1 qq.2.2 ρ H (fT (fT ρ qq.1 (n,20,p.nm)) qq.2.2 (n,21,p.nm)) H:=λb o e k n1 n2=>⟨e,by rw[eZ n2,eZ n1]⟩
 have hs:=hc.NN g1 (st.ah++[p]) (A.qs++[qq]) (by rw[cO,cO,h.ql];rfl) (λi x y ex ey=>by
  by_cases hi:i<st.ah.length
  .rw [KO hi]at ex;rw[KO (by rw[h.ql];exact hi)]at ey;exact hc.opt i x y ex ey
  .rw [MF (by omega)]at ex;rw[MF (by rw[h.ql];omega),h.ql]at ey;have e0:i-st.ah.length=0:=by
    rcases Nat.eq_zero_or_pos (i-st.ah.length)with z|z
    .exact z
    .rw [rX (by show 1<=_;exact z)]at ex;cases ex
   rw[e0]at ex ey;cases ex;cases ey;exact⟨h1,h2,by rw[eZ k1];exact jf,jf⟩)
 have g2:=g1.wr (a:=A.ab) (o:=.dK (cu (st.ah++[p]) (A.qs++[qq]))) rfl;have fr2:Fr n _ H _ (upd H A.ab (.dK (cu (st.ah++[p]) (A.qs++[qq])))):=Fr.write hc.fL;have R3:upd H A.ab (.dK (cu (st.ah++[p]) (A.qs++[qq]))) qq.1=some (.ins T.part qq.2.1 (jS p qq.2.2)):=by rw[ay (gT h1 h.cY (by intro z;cases z))];exact h1
 refine⟨_,Z,A.a,T.hold,A.dx,_,_,Z,hs.oa,X.cH,X.hnm,Z,_,Z,qq.1,T.part,qq.2.1,_,_,Z,R3,X.cP,X.R0,Z,A.nm,_,Z,um.k (k:=Sum.inr p.nm) hs.qw (by unfold rH;rw[aH];exact fM hh.wf.uy),?_⟩;rw[lG _ (vC hn),show rH st.nms++[(Sum.inr p.nm,V.bl true)]=rH (st.nms++[p.nm])from by unfold rH;rw[b7];rfl];have hs2:=hs.Wm g2 (st.nms++[p.nm]);exact q _ _ _ ⟨g2.wr rfl,hs2,wf'⟩ rfl (fr1.trans (fr2.trans (Fr.write hs.iV)))
abbrev qJ:Stmt:=inClass (top 30) 1
abbrev oH:Cl Str:=["self","owner"]
abbrev IW:Cl Str:=oH.append ["part"]
def v_:aS IW oH (aC qJ):=dD
theorem Hr{T:TC}(F:jw K T.hold "sign" "Hold.sign" qJ f fd)(X:Txt K T)(iA:Dn P w K mg base 2 "is_name" mq qm)(bg:mg "len"=none):Mn P w K mg base 3 T.hold "sign" oH (JZ T):=by
 refine F.oA v_ λ_ _ _ _ H _ Q E hr h=>?_;obtain⟨⟨n,ρ,A,st,o,rfl,hh,hx,hn,hl,q⟩⟩:=h;refine⟨_,(@cS.h _ _ _ (ak (cK (fB (fq (bY iA hr (af (qv 1) aj)))) (az cX) bJ)
  (ak (cK (qE (Gy (iL hr) (qv 1) (aQ K (qv 0)))) (az cX) bJ)
  (ak (tE (iL hr) (aQ K (qv 0)) (qv 1) (aN ve (by rfl) bg cU (af (aQ K (qv 0)) aj)) rfl)
  (ak (dM (rP u0 uY uZ gF (aQ K (qv 0)) (af au aj)))
  (ak (dM (rP u0 uY uZ gF (aQ K (qv 0)) (af au aj)))
  (az (tD (fu fH rfl (sY (aQ K (qv 0))) (aV (i:=2) v_.nd) (az (dM (rP u0 uY uZ gF (aQ K (qv 2)) (af au aj))))))))))))),?_⟩
 refine⟨_,Z,uo (cs:=o.cps.toList) (QE hx) λH1 g1=>⟨_,Z,?_⟩⟩;rw[show isName o.cps.toList=true from hx];refine cL ?_;have jY:=hh.mono g1;have h1:=jY.h;have F1:Fr n ρ H ρ H1:=Fr.of_same g1;refine⟨_,Z,_,Z,A.a,T.hold,A.dx,_,_,Z,h1.oa,X.cH,X.hpl,Z,A.pl,_,Z,iU.k (k:=Sum.inr o) h1.ie,_,Z,?_⟩;rw[mW hn];refine cL ?_;have Ky:=p6 st.own 0;refine⟨_,Z,A.a,T.hold,A.dx,_,_,Z,h1.oa,X.cH,X.hpl,Z,A.pl,_,Z,h1.ie,_,Z,A.a,T.hold,A.dx,_,_,Z,h1.oa,X.cH,X.hpl,Z,_,Z,A.pl,_,Z,um.k (k:=Sum.inr o) h1.ie (fM (by rw[Ky];omega)),?_⟩;rw[lG _ (mW hn),Ky,show dX 0 st.own++[(Sum.inr o,V.int (st.own.length:Int))]=dX 0 (st.own++[o])from by rw[FF,Nat.zero_add]];have h2:=h1.Wl jY.g (st.own++[o]);have G2:=jY.g.wr (a:=A.pl) (o:=.dK (dX 0 (st.own++[o]))) rfl;have F2:=F1.trans (Fr.write (o:=.dK (dX 0 (st.own++[o]))) h1.iI);generalize upd H1 A.pl (.dK (dX 0 (st.own++[o])))=H2 at *;have lcm:(st.aW.map V.int).length<sizeLine:=by rw[aH,hh.wf.dQ];exact fM (by omega)
 refine⟨_,Z,A.a,T.hold,A.dx,_,_,Z,h2.oa,X.cH,X.vz,Z,.inl ⟨Z,_,aI.of h2.iJ⟩,A.cm,_,_,Z,Z,h2.iJ,lcm,?_⟩;rw[show st.aW.map V.int++[V.int 0]=(st.aW++[0]).map V.int from by rw[b7];rfl];have h3:=h2.Wn G2 (st.aW++[0]);have G3:=G2.wr (a:=A.cm) (o:=.lst ((st.aW++[0]).map V.int)) rfl;have F3:=F2.trans (Fr.write (o:=.lst ((st.aW++[0]).map V.int)) h2.jx);generalize upd H2 A.cm (.lst ((st.aW++[0]).map V.int))=H3 at *;have lpu:(st.bN.map V.int).length<sizeLine:=by rw[aH,hh.wf.qx];exact fM (by omega)
 refine⟨_,Z,A.a,T.hold,A.dx,_,_,Z,h3.oa,X.cH,X.FD,Z,.inl ⟨Z,_,aI.of h3.nJ⟩,A.pu,_,_,Z,Z,h3.nJ,lpu,?_⟩;rw[show st.bN.map V.int++[V.int 0]=(st.bN++[0]).map V.int from by rw[b7];rfl];have h4:=h3.Wo G3 (st.bN++[0]);have G4:=G3.wr (a:=A.pu) (o:=.lst ((st.bN++[0]).map V.int)) rfl;have F4:=F3.trans (Fr.write (o:=.lst ((st.bN++[0]).map V.int)) h3.cpu);generalize upd H3 A.pu (.lst ((st.bN++[0]).map V.int))=H4 at *;clear h1 h2 h3 G2 G3 F2 F3 jY;have hpl:=hh.wf.nQ;refine⟨A.ab,_,h4.cY,λob=>?_⟩;refine⟨_,Z,A.a,T.hold,A.dx,_,_,Z,cZ h4.cY h4.oa (λk z=>by cases z),X.cH,X.hab,Z,A.ab,ob,_,Z,ai,?_⟩;have el:=qb h4.ql;have el0:(cu st.ah A.qs).length=st.ah.length:=el;refine qp (n:=st.ah.length) (λi σ H'=>(∃s2,σ=[some (.ref A.a),some (.str o),s2])/\lY H' A.ab ob (cu st.ah A.qs)/\∃H5,H'=upd H5 A.ab (.dz ob (.dK (cu st.ah A.qs)))/\Gh ρ H5/\Fr n ρ H ρ H5/\
   aR T n ρ A H5 { st with own:=st.own++[o],aW:=st.aW++[0],bN:=st.bN++[0],ah:=(st.ah.take i).map (λp=>{ p with row:=p.row++[0] })++st.ah.drop i })
  ⟨⟨_,Z⟩,ai,H4,Z,G4,F4,h4⟩ (λi σ H' hi hp=>⟨hp.2.1,by rw[el0];exact hi⟩) (λσ H' hp=>⟨hp.2.1,by rw[el0];exact aO _⟩) ?_ ?_
 .rintro i x σ H' Ak hi ⟨⟨s2,rfl⟩,hz,H5,rfl,G5,F5,h5⟩ ⟨rfl,kv,hkv,rfl⟩;have ep:=a_ hi;have ep5:=FP (λp:Pt=>{ p with row:=p.row++[0] }) ep;obtain⟨qq,eq,k1,k2,k3,k4⟩:=h5.find ep5;rw[qa ep eq]at hkv;cases hkv;have Sa:=nS (λp:Pt=>{ p with row:=p.row++[0] }) (λp:Pt=>p.nm) (λ_=>rfl) st.ah i;have nd5:(((st.ah.take i).map (λp:Pt=>{ p with row:=p.row++[0] })++st.ah.drop i).map (λp:Pt=>p.nm)).Nodup:=by rw[Sa];exact hh.wf.iD
  have z1:=cZ (o:=ob) h5.cY k1 (λk z=>by cases z);have z2:=cZ (o:=ob) h5.cY k2 (λk z=>by cases z);rw[show cu ({ st with own:=st.own++[o],aW:=st.aW++[0],bN:=st.bN++[0],ah:=(st.ah.take i).map (λp:Pt=>{ p with row:=p.row++[0] })++st.ah.drop i }:HS).ah A.qs=cu st.ah A.qs from l7 Sa]at z1 z2;have hrl:((st.ah[i]).row.map V.int).length<sizeLine:=by rw[aH,hh.wf.rows _ (qW hi)];exact fM (by omega)
  refine⟨_,Z,qq.1,T.part,qq.2.1,_,_,Z,z1,X.cP,X.NP,Z,.inl ⟨Z,_,aI.of z2⟩,qq.2.2,_,_,Z,Z,z2,hrl,?_⟩;have na:A.ab≠qq.2.2:=(gT k2 h5.cY (by intro z;cases z)).symm;rw[show(st.ah[i]).row.map V.int++[V.int 0]=((st.ah[i]).row++[0]).map V.int from by rw[b7];rfl];have h6:=h5.TY G5 ((st.ah[i]).row++[0]) ep5 eq nd5;rw[show({ st with own:=st.own++[o],aW:=st.aW++[0],bN:=st.bN++[0],ah:=(st.ah.take i).map (λp:Pt=>{ p with row:=p.row++[0] })++st.ah.drop i }:HS).ah.set i { st.ah[i]with row:=(st.ah[i]).row++[0] }=_ from FQ (λp:Pt=>{ p with row:=p.row++[0] }) ep]at h6;exact⟨⟨_,Z⟩,(ay na).trans hz,_,jj na,G5.wr rfl,F5.trans (Fr.write k4),h6⟩
 .rintro σ H' ⟨_,hz,H5,rfl,G5,F5,h5⟩;have Sa:=nS (λp:Pt=>{ p with row:=p.row++[0] }) (λp:Pt=>p.nm) (λ_=>rfl) st.ah st.ah.length;have e5:cu ({ st with own:=st.own++[o],aW:=st.aW++[0],bN:=st.bN++[0],ah:=(st.ah.take st.ah.length).map (λp:Pt=>{ p with row:=p.row++[0] })++st.ah.drop st.ah.length }:HS).ah A.qs=cu st.ah A.qs:=l7 Sa;have h5':=h5.cY;rw[e5]at h5';refine⟨hz,?_⟩;rw[nL,uA h5'];have es:({ st with own:=st.own++[o],aW:=st.aW++[0],bN:=st.bN++[0],ah:=(st.ah.take st.ah.length).map (λp:Pt=>{ p with row:=p.row++[0] })++st.ah.drop st.ah.length }:HS)=dm st o:=by unfold dm;rw[cG,List.drop_length,pU]
  rw[es]at h5;exact q ρ A H5 ⟨G5,h5,w6 hh.wf hn hl⟩ rfl F5
abbrev qK:Stmt:=inClass (top 30) 2
abbrev oJ:Cl Str:=["self","part","owner","worth","weight"]
abbrev IZ:Cl Str:=oJ.append ["place","tops"]
def qL:aS IZ oJ (aC qK):=dD
theorem Hs{T:TC}(F:jw K T.hold "load" "Hold.load" qK f fd)(X:Txt K T)(lS:Mn P w K mg base 3 T.hold "check_new" jn (Ah T))(gh:Mn P w K mg base 1 T.hold "place_of" iz (BO T))(jq:Mn P w K mg base 1 T.hold "beyond_common" gD (R4 T K))(su:Mn P w K mg base 1 T.hold "stow" oG (NS T))(Ht:Cn P w K mg base 1 "Part" T.part ["self","name","owner","worth","weight","scale","row"] (JW T K))(bg:mg "len"=none):Mn P w K mg base 4 T.hold "load" oJ (NT T):=by
 refine F.oA qL λ_ _ _ _ H _ Q E hr h=>?_
 obtain⟨⟨n,ρ,A,st,x,o,wo,we,rfl,hh,hx,hn,ho,h4,h5,h6,h7,q⟩⟩:=h
 refine⟨_,(@cS.h _ _ _ (ak (dM (dZ lS hr (qv 0) (af (qv 1) aj)))
  (ak (aY (i:=5) qL.nd (dZ gh hr (qv 0) (af (qv 2) aj)))
  (ak (cK (jD (bW.pt (k7 (bf Ln (qv 3) au (bD _)) (jV (bf Ln (qv 4) au (bD _)))))) (az cX) bJ)
  (ak (aY (i:=6) qL.nd (aM VN (jy (af au aj)) (aN ve (by rfl) bg cU (af (aQ K (qv 0)) aj))))
  (ak (Oi (aQ K (aQ K (qv 0))) (Oj (qv 6) (qv 5) set_list))
  (az (dM (dZ su hr (qv 0) (af (Zr Ht hr (af (qv 1) (af (qv 2) (af (qv 3) (af (qv 4) (af au (af (dZ jq hr (qv 0) (af (qv 6) aj)) aj))))))) aj)))))))))),?_⟩
 refine⟨_,Z,A.a,A.dx,_,Z,hh.h.oa,Z,_,Z,⟨⟨n,ρ,A,st,x,Z,hh.h,hx,hn,λH1 g1=>?_⟩⟩⟩
 have jY:=hh.mono g1
 have F1:Fr n ρ H ρ H1:=Fr.of_same g1
 clear hh
 refine⟨_,Z,A.a,A.dx,_,Z,jY.h.oa,Z,_,Z,⟨⟨n,ρ,A,st,o,Z,jY.h,ho,?_⟩⟩⟩
 refine⟨false,⟨_,Z,_,_,Z,Z,_,Z,fQ (λc=>absurd (ff c) (by omega)) λ_=>⟨_,Z,_,_,Z,Z,_,Z,ee (by omega),Z⟩⟩,cL ?_⟩
 refine⟨(kB 1),λp0 hp0=>?_⟩
 have g2:=aD hp0 (.lst [.int 0])
 have yi:=jY.mono g2
 have F2:=F1.trans (Fr.of_same (ρ:=ρ) g2)
 have abS:upd H1 p0 (.lst [.int 0]) p0=some (.lst [.int 0]):=ai
 generalize upd H1 p0 (.lst [.int 0])=H2 at *
 clear jY F1
 have Ky:=p6 st.own 0
 have fk:=yi.wf.mT
 refine⟨_,Z,A.a,T.hold,A.dx,_,_,Z,yi.h.oa,X.cH,X.hpl,Z,A.pl,_,Z,yi.h.ie,p0,_,_,Z,Z,abS,by omega,by rw[Ky];omega,by rw[Ky];show 1*_<=_;rw[qf,Nat.one_mul];exact small (by omega),λp1 hp1=>?_⟩
 rw[Ky,qf,show(List.replicate st.own.length [V.int 0]).flatten=(List.replicate st.own.length (0:Int)).map V.int from by rw[List.map_replicate,List.flatten_replicate_singleton]]
 have g3:=aD hp1 (.lst ((List.replicate st.own.length (0:Int)).map V.int))
 have Du:=yi.mono g3
 have F3:=F2.trans (Fr.of_same (ρ:=ρ) g3)
 have n1:H p1=none:=(g1.trans g2).free hp1
 have c1:ρ p1=none:=yi.g.none hp1
 have B_:upd H2 p1 (.lst ((List.replicate st.own.length (0:Int)).map V.int)) p1=_:=ai
 generalize upd H2 p1 (.lst ((List.replicate st.own.length (0:Int)).map V.int))=H3 at *
 have hi:=List.idxOf_lt_length_iff.mpr ho
 refine⟨_,Z,A.a,T.hold,A.dx,_,_,Z,Du.h.oa,X.cH,X.x_,Z,A.bt,T.bot,A.db,_,_,Z,Du.h.ku,X.cB,X.R1,Z,_,Z,_,Z,p1,_,_,st.own.idxOf o,Z,Z,B_,by rw[aH,jh];exact Tv hi,?_⟩
 rw[show((List.replicate st.own.length (0:Int)).map V.int).set (st.own.idxOf o) (V.int st.prod)=((List.replicate st.own.length (0:Int)).set (st.own.idxOf o) st.prod).map V.int from by rw[List.map_set]]
 have wg:=Du.Ai (o:=.lst (((List.replicate st.own.length (0:Int)).set (st.own.idxOf o) st.prod).map V.int)) c1 B_ rfl rfl
 have F4:=F3.new (o:=.lst (((List.replicate st.own.length (0:Int)).set (st.own.idxOf o) st.prod).map V.int)) n1
 have abT:upd H3 p1 (.lst (((List.replicate st.own.length (0:Int)).set (st.own.idxOf o) st.prod).map V.int)) p1=_:=ai
 have s4:aE H (upd H3 p1 (.lst (((List.replicate st.own.length (0:Int)).set (st.own.idxOf o) st.prod).map V.int))):=((g1.trans g2).trans g3).b9 n1 _
 generalize upd H3 p1 (.lst (((List.replicate st.own.length (0:Int)).set (st.own.idxOf o) st.prod).map V.int))=H4 at *
 clear yi Du F2 F3
 refine⟨_,Z,A.a,A.dx,_,Z,wg.h.oa,Z,_,Z,_,Z,_,Z,_,Z,_,Z,A.a,A.dx,_,Z,wg.h.oa,Z,_,Z,⟨⟨n,ρ,A,st,p1,_,Z,wg.h,aI.of abT,by rw[jI,jh,wg.wf.dQ],by rw[jI,jh];omega,λr H5 g5 hr5 Rh=>?_⟩⟩⟩
 intro y dy hy hdy hyd
 have hr6:upd (upd H5 dy (.own y)) y (.ins T.part dy []) r=some (.lst ((mX st ((List.replicate st.own.length 0).set (st.own.idxOf o) st.prod)).map V.int)):=by rw[ay (aG Rh hy),ay (aG Rh hdy)];exact Rh
 refine⟨⟨y,dy,r,⟨x,o,wo,we,1,mX st ((List.replicate st.own.length 0).set (st.own.idxOf o) st.prod)⟩,Z,ai,aI.of hr6,λrr H6 hrr k6 hy6 abU=>⟨Z,?_⟩⟩⟩
 have Xc:H5 rr=none:=by
  have e1:rr≠y:=λe=>by rw[e,ai]at hrr;cases hrr
  have e2:rr≠dy:=λe=>by rw[e,ay hyd,ai]at hrr;cases hrr
  rw[ay e1,ay e2]at hrr;exact hrr
 have g6:aE H5 H6:=λb u e=>k6 b u (by rw[ay (aG e hy),ay (aG e hdy)];exact e) (aG e hy)
 have tM:=wg.mono g5
 have yj:=tM.mono g6
 have F6:=F4.trans (Fr.of_same (ρ:=ρ) (g5.trans g6))
 exact⟨⟨n,ρ,A,st,(y,dy,rr),_,Z,yj,hy6,abU,tM.g.none hy,tM.g.none Xc,hn,J3 wg.wf hn h6 h7 ho h4 h5,λρ' A' H' a1 a2 a3=>q ρ' A' H' a1 a2 (a3.fr F6 ((s4.trans g5).free hy) ((s4.trans g5).free Xc))⟩⟩
abbrev qM:Stmt:=inClass (top 30) 0
abbrev sy:Cl Str:=["self"]
abbrev I0:Cl Str:=sy
def Hu:aS I0 sy (aC qM):=dD
def Xd{p:Addr}{H0 H:Hp}{ρ0 ρ:gu}{l:Cl (Addr×HO×lZ)}{C dx:Addr}{fs:Cl (Str×V)}(s:Str)(v:V)(M:fm p H0 ρ0 H ρ l)(_hp:H p=some (.ins C dx fs)):∃H',upd H p (.ins C dx (gj s v fs))=H'/\fm p H0 ρ0 H' ρ l/\H' p=some (.ins C dx (gj s v fs)):=⟨_,Z,M.wr rfl,ai⟩
def Kz{p x:Addr}{H0 H:Hp}{ρ0 ρ:gu}{l:Cl (Addr×HO×lZ)}{C dx:Addr}{fs:Cl (Str×V)}(s:Str)(o:HO)(c:lZ)(M:fm p H0 ρ0 H ρ l)(hp:H p=some (.ins C dx fs))(hx:H x=none)(t:isTup o=false):∃H',upd (upd H x o) p (.ins C dx (gj s (.ref x) fs))=H'/\fm p H0 ρ0 H' (fT ρ x c) ((x,o,c)::l)/\H' p=some (.ins C dx (gj s (.ref x) fs)):=Xd s _ (M.new hx t) (by rw[ay (aG hp hx)];exact hp)
def Hv{T:TC}(F:CS K mg "Hold" T.hold "Hold.__init__" qM f fd)(X:Txt K T)(yW:Cn P w K mg base 1 "Bottom" T.bot ["self"] (JV T)):Cn P w K mg base 3 "Hold" T.hold sy (JX T):=by
 refine F.oA Hu λ_ _ _ _ H _ Q E hr h=>?_;obtain⟨⟨p,dx,ρ,n,rfl,hp,g,hρ,q⟩⟩:=h;refine⟨_,(@cS.h _ _ _ (ak (di K (qv 0) nW)
  (ak (di K (qv 0) nW)
  (ak (di K (qv 0) (jy aj))
  (ak (di K (qv 0) nW)
  (ak (di K (qv 0) (Ol yW hr))
  (ak (di K (qv 0) (jy aj))
  (az (di K (qv 0) (jy aj)))))))))),?_⟩
 have M0:fm p H ρ H ρ [] :=⟨(λ_ m=>absurd m (by simp)),λb o e _=>⟨e,Z⟩,g,_,hp⟩
 intro pl hpl;refine⟨_,Z,p,T.hold,dx,_,Z,by rw[ay (aG hp hpl)];exact hp,X.cH,X.hpl,by show 0<1000;decide,?_⟩;obtain⟨H2,e,M2,hp2⟩:=Kz "places" (.dK []) (n,1,⟨#[]⟩) M0 hp hpl rfl;rw[e];intro ab hab;refine⟨_,Z,p,T.hold,dx,_,Z,by rw[ay (aG hp2 hab)];exact hp2,X.cH,X.hab,by show 1<1000;decide,?_⟩;obtain⟨H4,e,M4,Xe⟩:=Kz "aboard" (.dK []) (n,2,⟨#[]⟩) M2 hp2 hab rfl;rw[e];refine⟨(kB 0),λas has=>?_⟩;refine⟨_,Z,p,T.hold,dx,_,Z,by rw[ay (aG Xe has)];exact Xe,X.cH,X.has,by show 2<1000;decide,?_⟩;obtain⟨H6,e,M6,Xf⟩:=Kz "ashore" (.lst []) (n,3,⟨#[]⟩) M4 Xe has rfl;rw[e];intro nm hnm;refine⟨_,Z,p,T.hold,dx,_,Z,by rw[ay (aG Xf hnm)];exact Xf,X.cH,X.hnm,by show 3<1000;decide,?_⟩;obtain⟨H8,e,M8,hp8⟩:=Kz "names" (.dK []) (n,4,⟨#[]⟩) M6 Xf hnm rfl;rw[e];intro bt db x_ hdb hne;refine⟨⟨bt,db,Z,ai,λsp kn H9 rC hkn hsk k9 Xg Xh Xi=>⟨Z,?_⟩⟩⟩;have s9:aE H8 H9:=λb o e=>k9 b o (by rw[ay (aG e x_),ay (aG e hdb)];exact e) (aG e x_);have fr:∀{c:Addr},upd (upd H8 db (.own bt)) bt (.ins T.bot db []) c=none->H8 c=none:=λ{c} e=>by
  have e1:c≠bt:=λz=>by rw[z,ai]at e;cases e
  have e2:c≠db:=λz=>by rw[z,ay hne,ai]at e;cases e
  rw[ay e1,ay e2]at e;exact e
 have Xj:=fr rC;have Xk:=fr hkn;have M9:=M8.same s9;have M10:=M9.add (c:=(n,5,⟨#[]⟩)) Xg rfl M8 x_ (λe he=>aG (M8.m e he).1 x_);have M11:=M10.add (c:=(n,8,⟨#[]⟩)) Xh rfl M8 Xj (λe he=>by
  rcases cV.mp he with rfl|he
  .exact gT Xg Xh (by intro z;cases z)
  .exact aG (M8.m e he).1 Xj)
 have M12:=M11.add (c:=(n,9,⟨#[]⟩)) Xi rfl M8 Xk (λe he=>by
  rcases cV.mp he with rfl|he
  .exact gT Xh Xi (by intro z;cases z)
  rcases cV.mp he with rfl|he
  .exact gT Xg Xi (by intro z;cases z)
  .exact aG (M8.m e he).1 Xk)
 have hp9:=s9 _ _ hp8;refine⟨_,Z,p,T.hold,dx,_,Z,hp9,X.cH,X.x_,by show 4<1000;decide,?_⟩;obtain⟨Sb,e,M13,B_⟩:=Xd "bottom" (.ref bt) M12 hp9;rw[e];refine⟨(kB 0),λcm vz=>?_⟩;refine⟨_,Z,p,T.hold,dx,_,Z,by rw[ay (aG B_ vz)];exact B_,X.cH,X.vz,by show 5<1000;decide,?_⟩;obtain⟨H15,e,M15,Ri⟩:=Kz "common" (.lst []) (n,6,⟨#[]⟩) M13 B_ vz rfl;rw[e];refine⟨(kB 0),λpu FD=>?_⟩;refine⟨_,Z,p,T.hold,dx,_,Z,by rw[ay (aG Ri FD)];exact Ri,X.cH,X.FD,by show 6<1000;decide,?_⟩;obtain⟨Sd,e,Xl,Xm⟩:=Kz "purses" (.lst []) (n,7,⟨#[]⟩) M15 Ri FD rfl;rw[e];have m:=Xl.m;have v9:∀{a:Addr}{o:HO}{c:lZ}{ρ2:gu},(Sd a=some o/\ρ2 a=some c/\a≠p)->Sd a=some o/\fT ρ2 p (n,0,⟨#[]⟩) a=some c:=λh=>⟨h.1,by rw[eZ h.2.2];exact h.2.1⟩
 have a1:=v9 (m _ (.head _));have a2:=v9 (m _ (.tail _ (.head _)));have a3:=v9 (m _ (.tail _ (.tail _ (.head _))));have a4:=v9 (m _ (.tail _ (.tail _ (.tail _ (.head _)))));have a5:=v9 (m _ (.tail _ (.tail _ (.tail _ (.tail _ (.head _))))));have a6:=v9 (m _ (.tail _ (.tail _ (.tail _ (.tail _ (.tail _ (.head _)))))));have a7:=v9 (m _ (.tail _ (.tail _ (.tail _ (.tail _ (.tail _ (.tail _ (.head _))))))));have a8:=v9 (m _ (.tail _ (.tail _ (.tail _ (.tail _ (.tail _ (.tail _ (.tail _ (.head _)))))))));have a9:=v9 (m _ (.tail _ (.tail _ (.tail _ (.tail _ (.tail _ (.tail _ (.tail _ (.tail _ (.head _))))))))));refine q (fT _ p (n,0,⟨#[]⟩)) ⟨p,dx,pl,ab,as,nm,bt,db,cm,pu,sp,kn,[]⟩ Sd rfl ⟨Xl.g.color Xm rfl,⟨Xm,jf,a9.1,a9.2,a8.1,a8.2,⟨[],a7.1,.nil⟩,a7.2,a6.1,a6.2,a5.1,a5.2,a2.1,a2.2,a1.1,a1.2,a4.1,a4.2,⟨[],a3.1,(λx hx=>absurd hx (by simp)),aO _,wH⟩,a3.2,Z,λi x y ex=>by simp[hs0]at ex⟩,Z_⟩ (λb o e hb=>?_);obtain⟨x,y⟩:=Xl.k b o e hb;exact⟨x,by rw[eZ hb];exact y⟩
abbrev lT:Stmt:=inClass (top 30) 27
abbrev jL:Cl Str:=["self","amounts"]
abbrev A0:Cl Str:=jL.append ["lost","sums","name","amount","part","many"]
def dF:aS A0 jL (aC lT):=dD
theorem yX{T:TC}(F:jw K T.hold "given_up" "Hold.given_up" lT f fd)(X:Txt K T)(eY:mg "sum"=none)(gE:mg "zip"=none):Mn P w K mg base 1 T.hold "given_up" jL (J7 T):=by
 refine F.oA dF λ_ _ _ _ H _ Q E hr h=>?_;obtain⟨⟨n,ρ,A,st,d,rs,rfl,h,wf,hd,cd,hle,Xn,q⟩⟩:=h;refine⟨_,(@cS.h _ _ _ (ak (aY (i:=2) dF.nd (aN (CQ rfl) (by rfl) eY tT (af (BZ (qv 1)) aj)))
  (ak (nV (i:=3) ["common","lost"] [none,some 2] dF.nd rfl rfl rfl (fG K (aQ K (qv 0))) (λ_ _ _ _=>(aV (i:=0) (show List.Nodup (["common","lost"] :Cl Str)from by decide +kernel))) (λ_ _ _ _=>(aM lX (qv 1) (qv 0))) rfl (by rfl) (by rfl))
  (ak (tD (fu fH rfl (yL (qv 1)) (i9 K (n:=2) rfl (cM (aV (i:=4) dF.nd) (cM (aV (i:=5) dF.nd) i8))) (ak (aY (i:=6) dF.nd (s_ (iL hr) (aQ K (qv 0)) (qv 4)))
  (ak (aY (i:=7) dF.nd (aM lX (qv 5) (aQ K (qv 6))))
  (az (nV (i:=3) ["old","own","many"] [none,none,some 7] dF.nd rfl rfl rfl (nU K (by rfl) gE (af (qv 3) (af (aQ K (qv 6)) aj))) (λ_ _ _ _=>(i9 K (n:=2) rfl (cM (aV (i:=0) (show List.Nodup (["old","own","many"] :Cl Str)from by decide +kernel)) (cM (aV (i:=1) (show List.Nodup (["old","own","many"] :Cl Str)from by decide +kernel)) i8)))) (λ_ _ _ _=>(aM cQ (qv 0) (aM lX (qv 2) (qv 1)))) rfl (by rfl) (by rfl)))))))
  (az (bB (qv 3))))))),?_⟩
 have hcl:st.aW.length<=100:=by rw[wf.dQ];exact wf.mT
 have zl:Jm.Sz 1100 (aJ rs):=by have:=Jm.Nm (n:=60) (ws:=rs.map (·.2)) (λm hm=>by obtain⟨r,hr,rfl⟩:=bu.mp hm;exact(Xn r hr).1);exact this.mono (by rw[aH];omega)
 have zc:∀c∈st.aW,Jm.Sz 8000 c:=λc hc=>Jm.Sz.kN (by have:=wf.lM c hc;have:=wf.c6;omega) (wf.lM c hc).2 wf.big;refine⟨_,Z,d,_,Z,.inl hd,λv hv=>⟨v,d,_,rs.map (·.2),Z,ai,.inl (by rw[ay (aG hd hv)];exact hd),by unfold fV;rw[gY,gY];rfl,?_⟩⟩;have g1:=aD hv (jJ v d);have hd1:=g1 _ _ hd;have h1:=h.mono g1;generalize upd H v (jJ v d)=H1 at *;refine⟨_,Z,A.a,T.hold,A.dx,_,_,Z,h1.oa,X.cH,X.vz,Z,A.cm,Z,⟨_,aI.of h1.iJ⟩,λl0 Dv=>?_⟩;refine ia (J:=xS K A.cm) (n:=(st.aW.map V.int).length) 0 (λi o H'=>aE H1 H'/\o=((st.aW.take i).map λc=>aJ rs*c).map V.int) (by rw[aH];omega) ⟨aD Dv _,Z⟩ (λi o H' hi _ hp=>⟨_,_,aI.of (hp.1 _ _ h1.iJ),a_ hi⟩) (λo H' _ hp=>⟨_,aI.of (hp.1 _ _ h1.iJ),aO _⟩) ?_ ?_
 .rintro i y o H2 H3 hi fk ha ⟨g,e⟩ ⟨rfl,hy⟩;obtain⟨c,rfl,ec⟩:=fE (hy _ (aI.of (g _ _ h1.iJ)));refine⟨_,Z,_,Z,_,_,Z,Z,j_ zl (zc c (cg ec)),ha,g.b9 Dv _,?_⟩;subst e;rw[take_snoc ec,b7,b7];rfl
 rintro o H2 fk ha ⟨g2,e⟩;rw[aH,cG]at e;subst e;have yk:=g1.trans g2;have hd2:=g2 _ _ hd1;have h2:=h1.mono g2;have hn0:H l0=none:=g1.free Dv;refine⟨d,_,hd2,λob=>⟨_,Z,d,ob,_,Z,ai,?_⟩⟩;have al:=uB rs;refine qp (n:=(fV rs).length) (λi σ H'=>aE (upd H2 d (.dz ob (.dK (fV rs)))) H'/\∃l s4 s5 s6 s7,σ=[some (.ref A.a),some (.ref d),some (.int (aJ rs)),some (.ref l),s4,s5,s6,s7]/\H l=none/\H' l=some (.lst (((rs.take i).foldl (iE st) (st.aW.map λc=>aJ rs*c)).map V.int))/\((rs.take i).foldl (iE st) (st.aW.map λc=>aJ rs*c)).length=st.aW.length)
  ⟨aE.refl _,l0,_,_,_,_,Z,hn0,cZ hd2 ha (λk z=>by cases z),by rw[List.take_zero,List.foldl_nil,aH]⟩ (λi σ H' hi hp=>⟨hp.1 _ _ ai,hi⟩) (λσ H' hp=>⟨hp.1 _ _ ai,aO _⟩) ?_ ?_
 .rintro i x σ H3 H4 hi ⟨g,l,s4,s5,s6,s7,rfl,z8,hl,hsl⟩ ⟨pp,kv,hpp,hkv,rfl,rfl⟩;unfold fV at hkv;rw[cz]at hkv;obtain⟨r,er,rfl⟩:=lE.mp hkv;have hrm:=cg er;obtain⟨zr,p,jA,A4⟩:=Xn r hrm;obtain⟨ip,Dw,OP⟩:=oZ jA;have ep:st.ah[ip]?=some p:=by rw[a_ Dw,OP]
  have epg:bF st r.1=p:=by rw[<-A4];exact J6 wf.iD ep
  have g4:=aD hpp (.tup [.str r.1,.int r.2]);have gg:=g.trans g4;have Xo:∀{b:Addr}{u:HO},H2 b=some u->(∀k,u ≠ .dK k)->upd H3 pp (.tup [.str r.1,.int r.2]) b=some u:=λe k=>gg _ _ (cZ hd2 e k);have nab:A.ab≠d:=(x9 cd h.fL).symm;obtain⟨qq,eq,k1,k2,_,_⟩:=h2.find ep;have hab:upd H3 pp (.tup [.str r.1,.int r.2]) A.ab=some (.dK (cu st.ah A.qs)):=gg _ _ (by rw[ay nab];exact h2.cY);have hv:=sV wf.iD ep eq;have hq1:=Xo k1 (λk z=>by cases z);have hq2:=Xo k2 (λk z=>by cases z);have tN:upd H3 pp (.tup [.str r.1,.int r.2]) pp=some (.tup [.str r.1,.int r.2]):=ai;have Dy:=g4 _ _ hl;have hno:∀{b:Addr},upd H3 pp (.tup [.str r.1,.int r.2]) b=none->H b=none:=λ{b} e=>by have e1:=lN hd2 (gg.free e);exact yk.free e1
  have ha4:upd H3 pp (.tup [.str r.1,.int r.2]) A.a=some (.ins T.hold A.dx (kD A)):=Xo h2.oa (λk z=>by cases z);show yr K 2 _ _ _ (upd H3 pp (.tup [.str r.1,.int r.2])) _;generalize upd H3 pp (.tup [.str r.1,.int r.2])=H4 at *;refine⟨pp,_,Z,bR.of tN,Z,_,_,Z,_,_,Z,Z,?_⟩;refine⟨_,Z,A.a,T.hold,A.dx,_,_,Z,ha4,X.cH,X.hab,Z,_,Z,A.ab,_,Z,by rw[<-A4];exact hv▸iU.k (k:=Sum.inr p.nm) hab,?_⟩;have zs:Jm.Sz 8000 p.sc:=Jm.Sz.kN (by have:=wf.mU p jA;have:=wf.c6;omega) (wf.mU p jA).2 wf.big;refine⟨_,Z,_,Z,qq.1,T.part,qq.2.1,_,_,Z,hq1,X.cP,X.JS,Z,_,_,Z,Z,j_ zr zs,?_⟩;have Xb:p.row.length=st.aW.length:=by rw[wf.rows p jA,wf.dQ]
  generalize eS:(rs.take i).foldl (iE st) (st.aW.map λc=>aJ rs*c)=S at *;refine⟨_,Z,_,Z,qq.1,T.part,qq.2.1,_,_,Z,hq1,X.cP,X.NP,Z,_,_,_,_,_,_,Z,.lst (aI.of Dy),.lst (aI.of hq2),λAp Bi=>?_⟩;refine vv (K:=K) (n:=S.length) [0,1] (λj out H5=>aE H4 H5/\out=(List.zipWith (λold own=>old+(r.2*p.sc)*own) (S.take j) (p.row.take j)).map V.int) (by decide) (by omega) ⟨aD Bi _,Z⟩ (λj out H5 hj _ hp=>⟨aI.of (hp.1 _ _ Dy),aI.of (hp.1 _ _ hq2),by rw[aH];exact hj,by rw[aH];omega⟩)
   (λout H5 _ hp=>⟨aI.of (hp.1 _ _ Dy),aI.of (hp.1 _ _ hq2),.inl (by rw[aH];exact aO _)⟩) ?_ ?_
  .rintro j x out H5 H6 hj Hw ha2 ⟨g5,e5⟩ ⟨p2,x1,y1,hp2,rfl,rfl,e1,e2⟩;obtain⟨t,rfl,et⟩:=fE e1;obtain⟨c,rfl,ec⟩:=fE e2;have g6:=aD hp2 (.tup [.int t,.int c]);have zw:Jm.Sz 8000 c:=Jm.Sz.kN (wf.kF p jA c (cg ec)).1 (wf.kF p jA c (cg ec)).2 wf.big;refine⟨p2,_,Z,bR.of ai,Z,_,Z,_,Z,_,Z,_,_,Z,Z,j_ (zr.mul zs) zw,_,_,Z,Z,g6 _ _ ha2,(g5.trans g6).b9 Bi _,?_⟩;rw[rJ _ et ec,e5,b7];rfl
  rintro out H5 Hw ha2 ⟨g5,e5⟩;rw[cG,hsl,<-Xb,cG]at e5;have eN:(rs.take (i+1)).foldl (iE st) (st.aW.map λc=>aJ rs*c)=List.zipWith (λold own=>old+(r.2*p.sc)*own) S p.row:=by rw[take_snoc er,By,eS];show iE st S r=_;unfold iE;rw[epg]
  refine⟨gg.trans g5,Ap,_,_,_,_,Z,hno Bi,?_,?_⟩
  .rw [eN,ha2,e5]
  .rw [eN,gx];omega
 rintro σ H3 ⟨g,l,s4,s5,s6,s7,rfl,z8,hl,hsl⟩;rw[al,cG]at hl;refine⟨g _ _ ai,_,Z,?_⟩;have nl:l≠d:=λe=>by rw[e,hd]at z8;cases z8
 exact q l _ (yk.trans (nR hd2 g)) z8 (by rw[ay nl];exact hl)
abbrev nZ:Stmt:=inClass (top 30) 23
abbrev lB:Cl Str:=["self","name","amount"]
abbrev DR:Cl Str:=lB.append ["part"]
def tO:aS DR lB (aC nZ):=dD
theorem Ca{T:TC}(F:jw K T.hold "lessen" "Hold.lessen" nZ f fd)(X:Txt K T):Mn P w K mg base 1 T.hold "lessen" lB (N3 T):=by
 refine F.oA tO λ_ _ _ _ H _ Q E hr h=>?_;obtain⟨⟨n,ρ,A,st,r,rfl,hh,⟨p,jA,A4,hle⟩,wf',q⟩⟩:=h;have h:=hh.h;have nd:=hh.wf.iD;refine⟨_,(@cS.h _ _ _ (ak (aY (i:=3) tO.nd (s_ (iL hr) (aQ K (qv 0)) (qv 1)))
  (ak (AE K (qv 3) (qv 2) Vp)
  (az (jU (bf fK (aQ K (qv 3)) au (bD _)) (az (Ud (aQ K (qv 0)) (qv 1))) bJ))))),?_⟩
 obtain⟨ip,Dw,OP⟩:=oZ jA;have ep:st.ah[ip]?=some p:=by rw[a_ Dw,OP]
 obtain⟨qq,eq,k1,k2,k3,k4⟩:=h.find ep;have hv:=sV nd ep eq;refine⟨_,Z,A.a,T.hold,A.dx,_,_,Z,h.oa,X.cH,X.hab,Z,_,Z,A.ab,_,Z,by rw[<-A4];exact hv▸iU.k (k:=Sum.inr p.nm) h.cY,?_⟩;refine⟨_,Z,qq.1,T.part,qq.2.1,_,_,Z,k1,X.cP,X.FE,Z,_,Z,_,_,Z,Z,qq.2.1,_,k1,by show 6<1000;decide,?_⟩;have h1:=h.NO (p1:={ p with wo:=p.wo-r.2 }) hh.g ep eq rfl rfl nd;have g1:=hh.g.wr (a:=qq.1) (o:=.ins T.part qq.2.1 (jS { p with wo:=p.wo-r.2 } qq.2.2)) rfl;have F1:Fr n ρ H ρ (upd H qq.1 (.ins T.part qq.2.1 (jS { p with wo:=p.wo-r.2 } qq.2.2))):=Fr.write k3;show VZ _ _ _ _ _ (upd H qq.1 (.ins T.part qq.2.1 (jS { p with wo:=p.wo-r.2 } qq.2.2)));have KA:upd H qq.1 (.ins T.part qq.2.1 (jS { p with wo:=p.wo-r.2 } qq.2.2)) qq.1=some (.ins T.part qq.2.1 (jS { p with wo:=p.wo-r.2 } qq.2.2)):=ai;generalize upd H qq.1 (.ins T.part qq.2.1 (jS { p with wo:=p.wo-r.2 } qq.2.2))=H1 at *;have el:cE st r={ st with ah:=if p.wo-r.2=0 then st.ah.eraseIdx ip else st.ah.set ip { p with wo:=p.wo-r.2 } }:=by unfold cE;rw[<-A4,F_ nd (λx hx=>by have:=hh.wf.kP x hx;omega) ep]
 rw[el]at wf' q;refine⟨λσ' H'=>Q .b8 H',?_,λ_ _ z=>z⟩;refine⟨_,Z,qq.1,T.part,qq.2.1,_,_,Z,KA,X.cP,X.FE,Z,Z,_,Z,fQ (λc=>?_) (λc=>?_)⟩
 .have c':p.wo-r.2=0:=V.int.inj (ff c);rw[aB c']at wf' q;have nd1:((st.ah.set ip { p with wo:=p.wo-r.2 }).map (λx:Pt=>x.nm)).Nodup:=by rw[List.map_set,show({ p with wo:=p.wo-r.2 }:Pt).nm=p.nm from rfl,CZ (by rw[cz,ep];rfl)];exact nd
  have OQ:(st.ah.set ip { p with wo:=p.wo-r.2 })[ip]?=some { p with wo:=p.wo-r.2 }:=Bs Dw;have dk:=F0 nd1 h1.ql OQ;rw[List.eraseIdx_set_eq]at dk;have hv1:=sV nd1 OQ eq;refine⟨_,Z,A.a,T.hold,A.dx,_,_,Z,h1.oa,X.cH,X.hab,Z,_,Z,A.ab,_,Sum.inr r.1,Z,h1.cY,Z,?_,?_⟩
  .rw [<-A4];show(cJ (cu (st.ah.set ip { p with wo:=p.wo-r.2 }) A.qs) (Sum.inr p.nm)).isSome=true;rw[show cJ (cu (st.ah.set ip { p with wo:=p.wo-r.2 }) A.qs) (Sum.inr p.nm)=_ from hv1];rfl
  .show Q .b8 (upd H1 A.ab (.dK (kX (cu (st.ah.set ip { p with wo:=p.wo-r.2 }) A.qs) (Sum.inr r.1))));rw[<-A4,show kX (cu (st.ah.set ip { p with wo:=p.wo-r.2 }) A.qs) (Sum.inr p.nm)=_ from dk];have hi2:ip<A.qs.length:=by rw[h.ql];exact Dw
   have h2:=h1.NN g1 (st.ah.eraseIdx ip) (A.qs.eraseIdx ip) (by rw[List.length_eraseIdx_of_lt Dw,List.length_eraseIdx_of_lt hi2,h.ql]) (λj x y ex ey=>by rw[<-List.eraseIdx_set_eq (l:=st.ah) (i:=ip) (a:={ p with wo:=p.wo-r.2 })]at ex;obtain⟨k,a1,a2⟩:=Ga ex ey;exact h1.opt k x y a1 a2)
   exact q ρ _ _ ⟨g1.wr rfl,h2,wf'⟩ rfl (F1.trans (Fr.write h1.fL))
 .have c':¬ p.wo-r.2=0:=λe=>c (cI (by rw[e]));rw[aA c']at wf' q;exact q ρ A H1 ⟨g1,h1,wf'⟩ rfl F1
abbrev pL:Stmt:=inClass (top 30) 28
abbrev nu:Cl Str:=["self","kept","whole","added"]
abbrev Hx:Cl Str:=nu.append ["scales","common","shared","part","scale"]
def gU:aS Hx nu (aC pL):=dD
theorem DS{T:TC}(F:jw K T.hold "blend" "Hold.blend" pL f fd)(X:Txt K T)(nv:Dn P w K mg base 2 "factor_of_all" jK (NZ K))(pM:Mn P w K mg base 1 T.bot "grow" lA (N1 T))(gE:mg "zip"=none):Mn P w K mg base 3 T.hold "blend" nu (J8 T K):=by
 refine F.oA gU λ_ _ _ _ H _ Q E hr h=>?_;obtain⟨⟨n,ρ,A,st,kept,whole,la,added,rfl,hh,hla,hal,k0,w0,kz,wz,haz,OR,hsl,wf',q⟩⟩:=h;refine⟨_,(@cS.h _ _ _ (ak (tD (nV (i:=4) ["part","kept"] [none,some 1] gU.nd rfl rfl rfl (sY (aQ K (qv 0))) (λ_ _ _ _=>(aV (i:=0) (show List.Nodup (["part","kept"] :Cl Str)from by decide +kernel))) (λ_ _ _ _=>(aM lX (aQ K (qv 0)) (qv 1))) rfl (by rfl) (by rfl)))
  (ak (nV (i:=5) ["top","more","kept"] [none,none,some 1] gU.nd rfl rfl rfl (nU K (by rfl) gE (af (aQ K (qv 0)) (af (qv 3) aj))) (λ_ _ _ _=>(i9 K (n:=2) rfl (cM (aV (i:=0) (show List.Nodup (["top","more","kept"] :Cl Str)from by decide +kernel)) (cM (aV (i:=1) (show List.Nodup (["top","more","kept"] :Cl Str)from by decide +kernel)) i8)))) (λ_ _ _ _=>(aM cQ (aM lX (qv 0) (qv 2)) (qv 1))) rfl (by rfl) (by rfl))
  (ak (aY (i:=6) gU.nd (bY nv hr (af (qv 2) (af (aM VM (qv 4) (qv 5)) aj))))
  (ak (tD (fu fH rfl (nU K (by rfl) gE (af (BZ (aQ K (qv 0))) (af (qv 4) aj))) (i9 K (n:=2) rfl (cM (aV (i:=7) gU.nd) (cM (aV (i:=8) gU.nd) i8))) (az (di K (qv 7) (aM eX (qv 8) (qv 6))))))
  (ak (di K (qv 0) (gc ["top","shared"] [none,some 6] rfl (fG K (qv 5)) (λ_ _ _ _=>(aV (i:=0) (show List.Nodup (["top","shared"] :Cl Str)from by decide +kernel))) (λ_ _ _ _=>(aM eX (qv 0) (qv 1))) rfl (by rfl)))
  (ak (di K (qv 0) (gc ["purse","whole","shared"] [none,some 2,some 6] rfl (fG K (aQ K (qv 0))) (λ_ _ _ _=>(aV (i:=0) (show List.Nodup (["purse","whole","shared"] :Cl Str)from by decide +kernel))) (λ_ _ _ _=>(aM lX (qv 0) (aM eX (qv 1) (qv 2)))) rfl (by rfl)))
  (az (dM (dZ pM hr (aQ K (qv 0)) (af (aM eX (qv 2) (qv 6)) aj))))))))))),?_⟩
 have hpl:=hh.wf.nQ;have nd:=hh.wf.iD;have hcl:st.aW.length<=100:=by rw[hh.wf.dQ];exact hh.wf.mT
 have zsc:∀p∈st.ah,Jm.Sz 8000 p.sc:=λp hp=>Jm.Sz.kN (by have:=hh.wf.mU p hp;have:=hh.wf.c6;omega) (hh.wf.mU p hp).2 hh.wf.big;have zcm:∀c∈st.aW,Jm.Sz 8000 c:=λc hc=>Jm.Sz.kN (by have:=hh.wf.lM c hc;have:=hh.wf.c6;omega) (hh.wf.lM c hc).2 hh.wf.big;have h:=hh.h;refine⟨A.ab,_,h.cY,λob=>?_⟩;refine⟨_,Z,A.a,T.hold,A.dx,_,_,Z,cZ h.cY h.oa (λk z=>by cases z),X.cH,X.hab,Z,A.ab,ob,_,Z,ai,λl1 hl1=>?_⟩;have el:=qb h.ql;refine ia (n:=st.ah.length) 0 (λi out H1=>aE (upd H A.ab (.dz ob (.dK (cu st.ah A.qs)))) H1/\out=((st.ah.take i).map λp:Pt=>p.sc*kept).map V.int) (by omega) ⟨aD hl1 _,Z⟩ (λi out H1 hi _ hp=>⟨hp.1 _ _ ai,by rw[el];exact hi⟩) (λout H1 _ hp=>⟨hp.1 _ _ ai,by rw[el];exact aO _⟩) ?_ ?_
 .rintro i x out H1 H2 hi fk ha ⟨g,e⟩ ⟨rfl,kv,hkv,rfl⟩;have ep:=a_ hi;obtain⟨qq,eq,k1,k2,_⟩:=h.find ep;rw[qa ep eq]at hkv;cases hkv;have hq:=g _ _ (cZ h.cY k1 (λk z=>by cases z));refine⟨_,Z,qq.1,T.part,qq.2.1,_,_,Z,hq,X.cP,X.JS,Z,_,Z,_,_,Z,Z,j_ (zsc _ (qW hi)) kz,ha,g.b9 hl1 _,?_⟩;subst e;rw[take_snoc ep,b7,b7];rfl
 rintro o1 H1 Cb ha1 ⟨g1,e1⟩;rw[cG]at e1;have hz1:=g1 _ _ (ai (H:=H) (a:=A.ab) (o:=.dz ob (.dK (cu st.ah A.qs))));have na1:l1≠A.ab:=λe=>by rw[e,hz1]at ha1;cases ha1
 refine⟨hz1,?_⟩;have s2:aE H (upd H1 A.ab (.dK (cu st.ah A.qs))):=nR h.cY g1;have aeQ:H l1=none:=lN h.cY hl1;have ha2:upd H1 A.ab (.dK (cu st.ah A.qs)) l1=some (.lst ((gH st kept).map V.int)):=by rw[ay na1,ha1,e1];rfl
 generalize upd H1 A.ab (.dK (cu st.ah A.qs))=H2 at *;clear g1 hz1 ha1 e1;have h2:=h.mono s2;have Mf:=s2.seq hla;refine⟨_,Z,A.a,T.hold,A.dx,_,_,Z,h2.oa,X.cH,X.vz,Z,_,Z,_,_,_,_,_,_,Z,.lst (aI.of h2.iJ),.lst Mf,λl2 hl2=>?_⟩;refine vv (K:=K) (n:=st.aW.length) [0,1] (λi out H3=>aE H2 H3/\out=(List.zipWith (λt m=>t*kept+m) (st.aW.take i) (added.take i)).map V.int) (by decide) (by omega) ⟨aD hl2 _,Z⟩ (λi out H3 hi _ hp=>⟨aI.of (hp.1 _ _ h2.iJ),hp.1.seq Mf,by rw[aH];exact hi,by rw[aH];omega⟩)
  (λout H3 _ hp=>⟨aI.of (hp.1 _ _ h2.iJ),hp.1.seq Mf,.inl (by rw[aH];exact aO _)⟩) ?_ ?_
 .rintro i x out H3 H4 hi fk ha ⟨g,e⟩ ⟨p,x1,y1,hp,rfl,rfl,e1,e2⟩;obtain⟨t,rfl,et⟩:=fE e1;obtain⟨c,rfl,ec⟩:=fE e2;have g1:=aD hp (.tup [.int t,.int c]);refine⟨p,_,Z,bR.of ai,Z,_,Z,_,Z,_,_,Z,Z,j_ (zcm t (cg et)) kz,_,Z,_,_,Z,Z,g1 _ _ ha,(g.trans g1).b9 hl2 _,?_⟩;rw[rJ _ et ec,e,b7];rfl
 rintro o2 H3 Hw OS ⟨g3,e3⟩;rw[cG,<-hal,cG]at e3;have ec3:o2=(dY st kept added).map V.int:=e3;subst ec3;have s3:=s2.trans g3;have h3:=h.mono s3;have Rj:=g3 _ _ ha2;have aeR:H l2=none:=s2.free hl2;have W4:l1≠l2:=λe=>by rw[e,hl2]at ha2;cases ha2
 clear e3 h2 Mf g3 ha2 s2;have lsc:(gH st kept).length=st.ah.length:=by unfold gH;rw[aH]
 have lcm:(dY st kept added).length=st.aW.length:=by unfold dY;rw[gx,hal,ua]
 refine⟨_,Z,_,Z,_,Z,l1,l2,_,_,Z,Z,Rj,OS,by rw[aH,aH,lsc,lcm];exact dj (Nat.add_le_add hpl hcl) (by rw[gQ];decide),λp3 hp3=>?_⟩;rw[<-b7];have g4:=aD hp3 (.lst ((gH st kept++dY st kept added).map V.int));refine⟨⟨whole,p3,_,Z,aI.of ai,by omega,?_,?_⟩⟩
 .intro t ht;rcases eE.mp ht with z|z
  .unfold gH at z;obtain⟨p,hp,rfl⟩:=bu.mp z;exact t9 (by have:=hh.wf.mU p hp;omega) (by omega)
  .obtain ⟨c,hc,m,hm,rfl⟩:=qA (show t∈List.zipWith _ st.aW added from z);have a1:=t9 (hh.wf.lM c hc).1 (by omega:0<=kept);have a2:=(haz m hm).1;omega
 have s4:=s3.trans g4;have h4:=h.mono s4;have G4:=hh.g.same s4;have F4:Fr n ρ H ρ (upd H3 p3 (.lst ((gH st kept++dY st kept added).map V.int))):=Fr.of_same s4;have b1:=g4 _ _ Rj;have b2:=g4 _ _ OS;generalize upd H3 p3 (.lst ((gH st kept++dY st kept added).map V.int))=H4 at *;clear Rj OS s3 h3 g4;obtain⟨sd,Se⟩:∃sd,sd=bq st kept whole added:=⟨_,rfl⟩
 rw[show mY whole (gH st kept++dY st kept added)=sd from Se.symm];have sp:0<sd:=by rw[Se];exact vF _ _ w0
 have N7:sd∣whole:=by rw[Se];exact(vE _ _).1
 have sz:Jm.Sz 60 sd:=wz.dvd w0 (by omega) N7;have wq:0<whole / sd:=Int.ediv_pos_of_pos_of_dvd w0 (by omega) N7;have wqz:Jm.Sz 60 (whole / sd):=wz.ediv sp;have Sf:∀{i:Int},wU i sd:=λ{i}=>qi sp (sz.mono (by decide));refine⟨A.ab,_,h4.cY,λOT=>?_⟩;refine⟨_,Z,A.a,T.hold,A.dx,_,_,Z,cZ h4.cY h4.oa (λk z=>by cases z),X.cH,X.hab,Z,A.ab,_,Z,.inr ⟨OT,ai⟩,λv hv=>?_⟩;have nva:v≠A.ab:=λe=>by rw[e,ai]at hv;cases hv
 have hv4:H4 v=none:=lN h4.cY hv;have g5:=aD hv4 (jJ v A.ab);have hv5:upd H4 v (jJ v A.ab) v=some (jJ v A.ab):=ai;rw[jj (cW nva)];have h5:=h4.mono g5;have G5:=G4.same g5;have F5:=F4.trans (Fr.of_same (ρ:=ρ) g5);have s5:=s4.trans g5;have c1:=g5 _ _ b1;have c2:=g5 _ _ b2;generalize upd H4 v (jJ v A.ab)=H5 at *;clear h4 G4 F4 s4 b1 b2 g5;refine⟨_,Z,_,_,_,_,_,_,Z,.vals (cZ h5.cY hv5 (λk z=>by cases z)) ai,.lst (aI.of (cZ h5.cY c1 (λk z=>by cases z))),?_⟩;have exl:((cu st.ah A.qs).map λp=>p.2).length=st.ah.length:=by rw[aH];exact el
 have eyl:((gH st kept).map V.int).length=st.ah.length:=by rw[aH];exact lsc
 refine qp (n:=st.ah.length) (λi σ H'=>(∃s7 s8,σ=[some (.ref A.a),some (.int kept),some (.int whole),some (.ref la),some (.ref l1),some (.ref l2),some (.int sd),s7,s8])/\∃H6,H'=upd H6 A.ab (.dz OT (.dK (cu st.ah A.qs)))/\Gh ρ H6/\Fr n ρ H ρ H6/\aR T n ρ A H6 { st with ah:=(st.ah.take i).map (λp=>{ p with sc:=p.sc*kept / sd })++st.ah.drop i }/\H6 l1=some (.lst ((gH st kept).map V.int))/\H6 l2=some (.lst ((dY st kept added).map V.int))/\(∀b,H6 b=none->H b=none))
  ⟨⟨_,_,Z⟩,H5,Z,G5,F5,h5,c1,c2,λb e=>s5.free e⟩ ?_ ?_ ?_ ?_
 .rintro i σ H' hi ⟨_,H6,rfl,G6,F6,h6,d1,d2,fr⟩;have e6:cu ({ st with ah:=(st.ah.take i).map (λp:Pt=>{ p with sc:=p.sc*kept / sd })++st.ah.drop i }:HS).ah A.qs=cu st.ah A.qs:=l7 (nS (λp:Pt=>{ p with sc:=p.sc*kept / sd }) (λp:Pt=>p.nm) (λ_=>rfl) st.ah i);have n5:=h6.cY;rw[e6]at n5;exact⟨ai,aI.of (cZ n5 d1 (λk z=>by cases z)),by rw[exl];exact hi,by rw[eyl];exact hi⟩
 .rintro σ H' ⟨_,H6,rfl,G6,F6,h6,d1,d2,fr⟩;have e6:cu ({ st with ah:=(st.ah.take st.ah.length).map (λp:Pt=>{ p with sc:=p.sc*kept / sd })++st.ah.drop st.ah.length }:HS).ah A.qs=cu st.ah A.qs:=l7 (nS (λp:Pt=>{ p with sc:=p.sc*kept / sd }) (λp:Pt=>p.nm) (λ_=>rfl) st.ah _);have n5:=h6.cY;rw[e6]at n5;exact⟨ai,aI.of (cZ n5 d1 (λk z=>by cases z)),.inl (by rw[exl];exact aO _)⟩
 .rintro i x σ H' Ak hi ⟨⟨s7,s8,rfl⟩,H6,rfl,G6,F6,h6,d1,d2,fr⟩ ⟨pp,x1,y1,hpp,rfl,rfl,ex,ey⟩;have ep:=a_ hi;have ep6:=FP (λp:Pt=>{ p with sc:=p.sc*kept / sd }) ep;obtain⟨qq,eq,k1,k2,k3,k4⟩:=h6.find ep6;have nm6:=nS (λp:Pt=>{ p with sc:=p.sc*kept / sd }) (λp:Pt=>p.nm) (λ_=>rfl) st.ah i;have e6:cu ({ st with ah:=(st.ah.take i).map (λp:Pt=>{ p with sc:=p.sc*kept / sd })++st.ah.drop i }:HS).ah A.qs=cu st.ah A.qs:=l7 nm6;have n5:=h6.cY;rw[e6]at n5;rw[cz,qa ep eq]at ex;cases ex;obtain⟨sc,rfl,Xp⟩:=fE ey;have abV:sc=(st.ah[i]).sc*kept:=by unfold gH at Xp;rw[cz,ep]at Xp;exact(fh Xp).symm
  subst abV;have npa:pp≠A.ab:=λe=>by rw[e,ai]at hpp;cases hpp
  have abW:H6 pp=none:=lN n5 hpp;have g7:=aD abW (.tup [.ref qq.1,.int ((st.ah[i]).sc*kept)]);rw[jj (cW npa)];have tN:upd H6 pp (.tup [.ref qq.1,.int ((st.ah[i]).sc*kept)]) pp=some (.tup [.ref qq.1,.int ((st.ah[i]).sc*kept)]):=ai;have h7:=h6.mono g7;have G7:=G6.same g7;have F7:=F6.trans (Fr.of_same (ρ:=ρ) g7);have Rk:=g7 _ _ n5;have f1:=g7 _ _ d1;have f2:=g7 _ _ d2;have Nq:∀b,upd H6 pp (.tup [.ref qq.1,.int ((st.ah[i]).sc*kept)]) b=none->H b=none:=λb e=>fr b (g7.free e);have KA:=g7 _ _ k1;generalize upd H6 pp (.tup [.ref qq.1,.int ((st.ah[i]).sc*kept)])=H7 at *;refine⟨pp,_,Z,bR.of (cZ Rk tN (λk z=>by cases z)),Z,_,_,Z,_,_,Z,Z,?_⟩;refine⟨_,Z,_,Z,_,_,Z,Z,Sf,_,Z,qq.1,T.part,qq.2.1,_,Z,cZ Rk KA (λk z=>by cases z),X.cP,X.JS,by show 6<1000;decide,?_⟩;have nd7:(((st.ah.take i).map (λp:Pt=>{ p with sc:=p.sc*kept / sd })++st.ah.drop i).map (λp:Pt=>p.nm)).Nodup:=by rw[nm6];exact nd
  have h8:=h7.NO (p1:={ st.ah[i]with sc:=(st.ah[i]).sc*kept / sd }) G7 ep6 eq rfl rfl nd7;rw[show({ st with ah:=(st.ah.take i).map (λp:Pt=>{ p with sc:=p.sc*kept / sd })++st.ah.drop i }:HS).ah.set i { st.ah[i]with sc:=(st.ah[i]).sc*kept / sd }=_ from FQ (λp:Pt=>{ p with sc:=p.sc*kept / sd }) ep]at h8;have nqa:A.ab≠qq.1:=(gT KA Rk (by intro z;cases z)).symm;have nq1:l1≠qq.1:=gT f1 KA (by intro z;cases z);have nq2:l2≠qq.1:=gT f2 KA (by intro z;cases z);refine⟨⟨_,_,Z⟩,_,jj nqa,G7.wr rfl,F7.trans (Fr.write k3),h8,by rw[ay nq1];exact f1,by rw[ay nq2];exact f2,λb e=>Nq b ?_⟩;by_cases z:b=qq.1
  .rw [z,ai]at e;cases e
  .rw [ay z]at e;exact e
 rintro σ H' ⟨⟨s7,s8,rfl⟩,H6,rfl,G6,F6,h6,d1,d2,fr⟩;have e6:cu ({ st with ah:=(st.ah.take st.ah.length).map (λp:Pt=>{ p with sc:=p.sc*kept / sd })++st.ah.drop st.ah.length }:HS).ah A.qs=cu st.ah A.qs:=l7 (nS (λp:Pt=>{ p with sc:=p.sc*kept / sd }) (λp:Pt=>p.nm) (λ_=>rfl) st.ah _);have n5:=h6.cY;rw[e6]at n5;refine⟨ai,?_⟩;rw[nL,uA n5];rw[show({ st with ah:=(st.ah.take st.ah.length).map (λp:Pt=>{ p with sc:=p.sc*kept / sd })++st.ah.drop st.ah.length }:HS)={ st with ah:=st.ah.map λp:Pt=>{ p with sc:=p.sc*kept / sd } }from by rw[cG,List.drop_length,pU]]at h6;clear e6 n5 h5 G5 F5 s5 c1 c2 hv5;refine⟨_,Z,l2,Z,⟨_,aI.of d2⟩,λl3 hl3=>?_⟩;refine ia (J:=xS K l2) (n:=((dY st kept added).map V.int).length) 0 (λi o H'=>aE H6 H'/\o=(((dY st kept added).take i).map (· / sd)).map V.int) (by rw[aH];omega) ⟨aD hl3 _,Z⟩ (λi o H' hi _ hp=>⟨_,_,aI.of (hp.1 _ _ d2),a_ hi⟩) (λo H' _ hp=>⟨_,aI.of (hp.1 _ _ d2),aO _⟩) ?_ ?_
 .rintro i y o Ha Hb hi fk ha ⟨g,e⟩ ⟨rfl,hy⟩;obtain⟨c,rfl,ec⟩:=fE (hy _ (aI.of (g _ _ d2)));refine⟨_,Z,_,Z,_,_,Z,Z,Sf,ha,g.b9 hl3 _,?_⟩;subst e;rw[take_snoc ec,b7,b7];rfl
 rintro o3 H8 abX Hy ⟨g8,e8⟩;rw[aH,cG]at e8;subst e8;have h8:=h6.mono g8;have G8:=G6.same g8;have F8:=F6.trans (Fr.of_same (ρ:=ρ) g8);have fr8:∀b,H8 b=none->H b=none:=λb e=>fr b (g8.free e);have c3:ρ l3=none:=G6.none hl3;have n3:H l3=none:=fr l3 hl3;refine⟨_,Z,A.a,T.hold,A.dx,_,Z,h8.oa,X.cH,X.vz,by show 7<1000;decide,?_⟩;obtain⟨h9,G9⟩:=C0 (t:=6) h8 G8 c3 Hy rfl;have F9:Fr n ρ H (fT ρ l3 (n,6,⟨#[]⟩)) H8:=F8.Gb n3;have KC:=h9.Wr G9 l3 _ Hy jf;have G10:=G9.wr (a:=A.a) (o:=.ins T.hold A.dx (kD { A with cm:=l3 })) rfl;have F10:=F9.trans (Fr.write (o:=.ins T.hold A.dx (kD { A with cm:=l3 })) h9.ca);show Li _ _ _ _ (upd H8 A.a (.ins T.hold A.dx (kD { A with cm:=l3 })));have abY:∀b,upd H8 A.a (.ins T.hold A.dx (kD { A with cm:=l3 })) b=none->H b=none:=λb e=>fr8 b (by
  by_cases z:b=A.a
  .rw [z,ai]at e;cases e
  .rw [ay z]at e;exact e)
 generalize upd H8 A.a (.ins T.hold A.dx (kD { A with cm:=l3 }))=z7 at *;clear h6 G6 F6 h8 G8 F8 h9 G9 F9 Hy g8 fr8 fr d1 d2;refine⟨_,Z,A.a,T.hold,A.dx,_,_,Z,KC.oa,X.cH,X.FD,Z,A.pu,Z,⟨_,aI.of KC.nJ⟩,λl4 Dy=>?_⟩;have aeS:st.bN.length<=100:=by rw[hh.wf.qx];exact hh.wf.mT
 refine ia (J:=xS K A.pu) (n:=(st.bN.map V.int).length) 0 (λi o H'=>aE z7 H'/\o=((st.bN.take i).map (·*(whole / sd))).map V.int) (by rw[aH];omega) ⟨aD Dy _,Z⟩ (λi o H' hi _ hp=>⟨_,_,aI.of (hp.1 _ _ KC.nJ),a_ hi⟩) (λo H' _ hp=>⟨_,aI.of (hp.1 _ _ KC.nJ),aO _⟩) ?_ ?_
 .rintro i y o Ha Hb hi fk ha ⟨g,e⟩ ⟨rfl,hy⟩;obtain⟨c,rfl,ec⟩:=fE (hy _ (aI.of (g _ _ KC.nJ)));refine⟨_,Z,_,Z,_,Z,_,_,Z,Z,Sf,_,_,Z,Z,j_ (OR c (cg ec)) wqz,ha,g.b9 Dy _,?_⟩;subst e;rw[take_snoc ec,b7,b7];rfl
 rintro o4 OU aeT Xq ⟨Dz,e11⟩;rw[aH,cG]at e11;subst e11;have h11:=KC.mono Dz;have G11:=G10.same Dz;have F11:=F10.trans (Fr.of_same (ρ:=fT ρ l3 (n,6,⟨#[]⟩)) Dz);have c4:fT ρ l3 (n,6,⟨#[]⟩) l4=none:=G10.none Dy;have n4:H l4=none:=abY l4 Dy;refine⟨_,Z,A.a,T.hold,A.dx,_,Z,h11.oa,X.cH,X.FD,by show 7<1000;decide,?_⟩;obtain⟨h12,G12⟩:=C0 (t:=7) h11 G11 c4 Xq rfl;have F12:Fr n ρ H (fT (fT ρ l3 (n,6,⟨#[]⟩)) l4 (n,7,⟨#[]⟩)) OU:=F11.Gb n4;have Xr:=h12.Ws G12 l4 _ Xq jf;have G13:=G12.wr (a:=A.a) (o:=.ins T.hold A.dx (kD { { A with cm:=l3 }with pu:=l4 })) rfl;have F13:=F12.trans (Fr.write (o:=.ins T.hold A.dx (kD { { A with cm:=l3 }with pu:=l4 })) h12.ca);rw[show gj "purses" (V.ref l4) (kD { A with cm:=l3 })=kD { { A with cm:=l3 }with pu:=l4 }from rfl];generalize upd OU A.a (.ins T.hold A.dx (kD { { A with cm:=l3 }with pu:=l4 }))=Sb at *;refine⟨_,Z,A.a,T.hold,A.dx,_,_,Z,Xr.oa,X.cH,X.x_,Z,A.bt,A.db,_,Z,Xr.ku,Z,_,Z,_,Z,_,_,Z,Z,Sf,?_⟩;refine⟨⟨n,_,{ { A with cm:=l3 }with pu:=l4 },{ st with ah:=st.ah.map (λp:Pt=>{ p with sc:=p.sc*kept / sd }),aW:=(dY st kept added).map (· / sd),bN:=st.bN.map (·*(whole / sd)) },whole / sd,Z,G13,Xr,by show st.stp.length<=1000;omega,hh.wf.big.mono (by decide),wqz.mono (by decide),λρ' A' H' a1 a2 a3 a4=>?_⟩⟩;have eb:aT st kept whole added=dJ { st with ah:=st.ah.map (λp:Pt=>{ p with sc:=p.sc*kept / sd }),aW:=(dY st kept added).map (· / sd),bN:=st.bN.map (·*(whole / sd)) } (whole / sd):=by unfold aT;rw[Se]
 rw[eb]at wf' q;exact q ρ' A' H' ⟨a1,a2,wf'⟩ a3 (F13.trans a4)
abbrev qN:Stmt:=inClass (top 30) 3
abbrev oK:Cl Str:=["self","rows"]
abbrev I_:Cl Str:=oK.append ["amounts","name","amount","whole","lost"]
def fX:aS I_ oK (aC qN):=dD
theorem Hz{T:TC}(F:jw K T.hold "cast" "Hold.cast" qN f fd)(X:Txt K T)(qO:Dn P w K mg base 1 "amounts_of" nh (NY K))(qP:Dn P w K mg base 2 "check_loss" ng R6)(gI:Mn P w K mg base 1 T.hold "part_of" ja (yE T))(jc:Mn P w K mg base 1 T.hold "whole" jX (BP T))(qQ:Mn P w K mg base 3 T.hold "blend" nu (J8 T K))(nA:Mn P w K mg base 1 T.hold "given_up" jL (J7 T))(pO:Mn P w K mg base 1 T.hold "lessen" lB (N3 T))(eY:mg "sum"=none):Mn P w K mg base 4 T.hold "cast" oK (N4 T K):=by
 refine F.oA fX λ_ _ _ _ H _ Q E hr h=>?_;obtain⟨⟨n,ρ,A,st,l,us,rs,rfl,hh,hl,hR,ok,q⟩⟩:=h;have wf:=hh.wf;have nd:=ok.nd;refine⟨_,(@cS.h _ _ _ (ak (aY (i:=2) fX.nd (bY qO hr (af (qv 1) aj)))
  (ak (tD (fu fH rfl (yL (qv 2)) (i9 K (n:=2) rfl (cM (aV (i:=3) fX.nd) (cM (aV (i:=4) fX.nd) i8))) (az (dM (bY qP hr (af (aQ K (dZ gI hr (qv 0) (af (qv 3) aj))) (af (qv 4) aj)))))))
  (ak (aY (i:=5) fX.nd (BY jc hr (qv 0)))
  (ak (aY (i:=6) fX.nd (aN (CQ rfl) (by rfl) eY tT (af (BZ (qv 2)) aj)))
  (ak (cK (bf Lo (qv 6) (qv 5) (bD _)) (az cX) bJ)
  (ak (dM (dZ qQ hr (qv 0) (af (aM oS (qv 5) (qv 6)) (af (qv 5) (af (dZ nA hr (qv 0) (af (qv 2) aj)) aj)))))
  (az (tD (fu fH rfl (yL (qv 2)) (i9 K (n:=2) rfl (cM (aV (i:=3) fX.nd) (cM (aV (i:=4) fX.nd) i8))) (az (dM (dZ pO hr (qv 0) (af (qv 3) (af (qv 4) aj))))))))))))))),?_⟩
 refine⟨_,Z,⟨⟨l,us,rs,Z,hl,hR,nd,ok.ne,ok.len,λd H1 g1 hdn hd1=>?_⟩⟩⟩;have jY:=hh.mono g1;have F1:Fr n ρ H ρ H1:=Fr.of_same g1;have cd:ρ d=none:=hh.g.none hdn;have al:=uB rs;refine⟨d,_,hd1,λob=>⟨_,Z,d,ob,_,Z,ai,?_⟩⟩;refine qp (n:=(fV rs).length) (λi σ H'=>aE (upd H1 d (.dz ob (.dK (fV rs)))) H'/\∃s3 s4 s5 s6,σ=[some (.ref A.a),some (.ref l),some (.ref d),s3,s4,s5,s6])
  ⟨aE.refl _,_,_,_,_,Z⟩ (λi σ H' hi hp=>⟨hp.1 _ _ ai,hi⟩) (λσ H' hp=>⟨hp.1 _ _ ai,aO _⟩) ?_ ?_
 .rintro i x σ H3 H4 hi ⟨g,s3,s4,s5,s6,rfl⟩ ⟨pp,kv,hpp,hkv,rfl,rfl⟩;unfold fV at hkv;rw[cz]at hkv;obtain⟨r,er,rfl⟩:=lE.mp hkv;have hrm:=cg er;obtain⟨r1,zr,p,jA,A4,hle⟩:=ok.row r hrm;obtain⟨ip,Dw,OP⟩:=oZ jA;have ep:st.ah[ip]?=some p:=by rw[a_ Dw,OP]
  have g4:=aD hpp (.tup [.str r.1,.int r.2]);have gg:=g.trans g4;have hf:HH T n ρ A (upd H1 d (.dz ob (.dK (fV rs)))) st:=jY.Ai cd hd1 rfl rfl;have h4:=hf.mono gg;have tN:upd H3 pp (.tup [.str r.1,.int r.2]) pp=some (.tup [.str r.1,.int r.2]):=ai;show yr K 2 _ _ _ (upd H3 pp (.tup [.str r.1,.int r.2])) _;generalize upd H3 pp (.tup [.str r.1,.int r.2])=H4 at *;obtain⟨qq,eq,k1,k2,_,_⟩:=h4.h.find ep;refine⟨pp,_,Z,bR.of tN,Z,_,_,Z,_,_,Z,Z,?_⟩;refine⟨_,Z,A.a,A.dx,_,Z,h4.h.oa,Z,_,Z,⟨⟨n,ρ,A,st,ip,p,qq,by rw[<-A4];rfl,h4.h,wf.iD,ep,eq,?_⟩⟩⟩;refine⟨qq.1,T.part,qq.2.1,_,_,Z,k1,X.cP,X.FE,Z,_,Z,⟨⟨p.wo,r.2,Z,r1,hle,?_⟩⟩⟩;exact⟨gg,_,_,_,_,Z⟩
 rintro σ H2 ⟨g2,s3,s4,s5,s6,rfl⟩;refine⟨g2 _ _ ai,?_⟩;have gB:=nR hd1 g2;have yi:=jY.mono gB;have F2:Fr n ρ H ρ (upd H2 d (.dK (fV rs))):=F1.trans (Fr.of_same gB);have hd2:upd H2 d (.dK (fV rs)) d=some (.dK (fV rs)):=ai;generalize upd H2 d (.dK (fV rs))=H2' at *;refine⟨_,Z,A.a,A.dx,_,Z,yi.h.oa,Z,⟨⟨n,ρ,A,st,Z,yi.h,wf.nQ,λH3 g3=>?_⟩⟩⟩;have Du:=yi.mono g3;have Sg:=g3 _ _ hd2;have F3:=F2.trans (Fr.of_same (ρ:=ρ) g3);refine⟨_,Z,d,_,Z,.inl Sg,λv hv=>⟨v,d,_,rs.map (·.2),Z,ai,.inl (by rw[ay (aG Sg hv)];exact Sg),by unfold fV;rw[gY,gY];rfl,?_⟩⟩;have g4:=aD hv (jJ v d);have wg:=Du.mono g4;have hd4:=g4 _ _ Sg;have F4:=F3.trans (Fr.of_same (ρ:=ρ) g4);generalize upd H3 v (jJ v d)=H4 at *;have bo:=ok.blend wf;refine⟨_,Z,_,Z,_,_,Z,Z,_,Z,fQ (λc=>absurd (ff c) (by have:=ok.lost;show ¬ aq st<=aJ rs;omega)) λ_=>?_⟩;refine⟨_,Z,A.a,A.dx,_,Z,wg.h.oa,Z,_,Z,_,Z,_,_,Z,Z,_,Z,_,Z,A.a,A.dx,_,Z,wg.h.oa,Z,_,Z,⟨⟨n,ρ,A,st,d,rs,Z,wg.h,wf,hd4,cd,ok.len,λr hr=>⟨(ok.row r hr).2.1,by obtain⟨p,hp,e,_⟩:=(ok.row r hr).2.2;exact⟨p,hp,e⟩⟩,λl5 H5 g5 hn5 HB=>?_⟩⟩⟩;have tM:=wg.mono g5;have hd5:=g5 _ _ hd4;have F5:=F4.trans (Fr.of_same (ρ:=ρ) g5);have zk:Jm.Sz 60 (aq st-aJ rs):=bo.big.of_le (by have:=bo.k;have:=bo.l;omega);have zG:∀m∈bP st rs,0<=m/\Jm.Sz 8900 m:=λm hm=>by have h1:=bo.add m hm;have h2:=wf.c6;have zl:Jm.Sz 60 (aJ rs):=bo.big.of_le (by have:=bo.k;have:=bo.l;omega);exact⟨h1.1,Jm.Sz.kN (by have:=t9 bo.l (show 0<=st.prod by omega);omega) h1.2 ((zl.mul bo.prod).mono (by decide))⟩
 refine⟨⟨n,ρ,A,st,aq st-aJ rs,aq st,l5,bP st rs,Z,tM,aI.of HB,bo.len,bo.k,by have:=bo.k;have:=bo.l;omega,zk,bo.big,zG,ok.bN,ok.stp,qC wf bo,λρ6 A6 H6 yj e6 f6=>?_⟩⟩;obtain⟨hd6,Xs⟩:=f6 d _ hd5 (λt x=>by rw[cd];intro z;cases z);rw[cd]at Xs;have F6:=F5.trans f6;refine⟨d,_,hd6,λOT=>⟨_,Z,d,OT,_,Z,ai,?_⟩⟩;generalize eB:aT st (aq st-aJ rs) (aq st) (bP st rs)=yh at *;have abZ:Due yh rs:=by rw[<-eB];exact rN ok.due
 have Zx:bX st rs=rs.foldl cE yh:=by unfold bX;rw[eB]
 refine qp (n:=(fV rs).length) (λi σ H'=>∃ρ' A',HH T n ρ' A' H' ((rs.take i).foldl cE yh)/\A'.a=A.a/\H' d=some (.dz OT (.dK (fV rs)))/\ρ' d=none/\Fr n ρ H ρ' H'/\Due ((rs.take i).foldl cE yh) (rs.drop i)/\∃s3 s4 s5 s6,σ=[some (.ref A.a),some (.ref l),some (.ref d),s3,s4,s5,s6])
  ⟨ρ6,A6,yj.Ai Xs hd6 rfl rfl,e6,ai,Xs,F6.new hdn,abZ,_,_,_,_,Z⟩ (λi σ H' hi hp=>by obtain⟨_,_,_,_,e,_⟩:=hp;exact⟨e,hi⟩) (λσ H' hp=>by obtain⟨_,_,_,_,e,_⟩:=hp;exact⟨e,aO _⟩) ?_ ?_
 .rintro i x σ H7 H8 hi ⟨ρ7,A7,A_,e7,Sh,Si,F7,due,s3,s4,s5,s6,rfl⟩ ⟨pp,kv,hpp,hkv,rfl,rfl⟩;unfold fV at hkv;rw[cz]at hkv;obtain⟨r,er,rfl⟩:=lE.mp hkv;have hir:i<rs.length:=by rw[<-al];exact hi
  have edr:rs.drop i=r::rs.drop (i+1):=by rw[List.drop_eq_getElem_cons hir];rw[a_ hir]at er;rw[fh er]
  rw[edr]at due;have g4:=aD hpp (.tup [.str r.1,.int r.2]);have KD:=A_.mono g4;have hd8:=g4 _ _ Sh;have F8:=F7.trans (Fr.of_same (ρ:=ρ7) g4);have tN:upd H7 pp (.tup [.str r.1,.int r.2]) pp=some (.tup [.str r.1,.int r.2]):=ai;show yr K 2 _ _ _ (upd H7 pp (.tup [.str r.1,.int r.2])) _;generalize upd H7 pp (.tup [.str r.1,.int r.2])=H8 at *;refine⟨pp,_,Z,bR.of tN,Z,_,_,Z,_,_,Z,Z,?_⟩;have eN:(rs.take (i+1)).foldl cE yh=cE ((rs.take i).foldl cE yh) r:=by rw[take_snoc er,By];rfl
  have ndr:((r::rs.drop (i+1)).map (λr:Row=>r.1)).Nodup:=by rw[<-edr,List.map_drop];exact nd.sublist (List.drop_sublist _ _)
  refine⟨_,Z,A.a,A7.dx,_,Z,by rw[<-e7];exact KD.h.oa,Z,_,Z,_,Z,⟨⟨n,ρ7,A7,_,r,by rw[e7];rfl,KD,due r cD,Gf A_.wf due,λρ9 A9 H9 hh9 e9 f9=>?_⟩⟩⟩;obtain⟨hd9,cd9⟩:=f9 d _ hd8 (λt x=>by rw[Si];intro z;cases z);rw[Si]at cd9;rw[<-eN]at hh9;exact⟨ρ9,A9,hh9,e9.trans e7,hd9,cd9,F8.trans f9,by rw[eN];exact yG A_.wf due ndr,_,_,_,_,Z⟩
 rintro σ H7 ⟨ρ7,A7,A_,e7,Sh,Si,F7,due,s3,s4,s5,s6,rfl⟩;rw[al,cG,<-Zx]at A_;exact⟨Sh,q ρ7 A7 _ (A_.Ai Si Sh rfl rfl) e7 (F7.new hdn)⟩
abbrev n6:Stmt:=inClass (top 26) 2
abbrev jB:Cl Str:=["self","top"]
abbrev DT:Cl Str:=jB.append ["rest","step","shared"]
def gJ:aS DT jB (aC n6):=dD
theorem Cc{T:TC}(F:jw K T.bot "over" "Bottom.over" n6 f fd)(X:Txt K T)(gf:Dn P w K mg base 1 "common_factor" iy Qk):Mn P w K mg base 2 T.bot "over" jB (BQ T):=by
 refine F.oA gJ λ_ _ _ _ H _ Q E hr h=>?_;obtain⟨⟨bt,db,sp,kn,stp,prod,top,rfl,hb,hs,ep,h2,hz,q⟩⟩:=h;refine⟨_,(@cS.h _ _ _ (ak (aY (i:=2) gJ.nd (aQ K (qv 0)))
  (ak (fu fH rfl (fG K (aQ K (qv 0))) (aV (i:=3) gJ.nd) (ak (aY (i:=4) gJ.nd (bY gf hr (af (qv 3) (af (aM iS (qv 1) (qv 3)) aj))))
  (az (jU (bf mL (qv 4) au (bD _)) (ak (aY (i:=1) gJ.nd (aM eX (qv 1) (qv 4)))
  (az (aY (i:=2) gJ.nd (aM eX (qv 2) (qv 4))))) bJ))))
  (az (bB (m_ (af (qv 1) (af (qv 2) aj)))))))),?_⟩
 have p1:1<=prod:=by rw[ep];exact FU h2
 refine⟨_,Z,bt,T.bot,db,_,_,Z,hb,X.cB,X.R1,Z,?_⟩;refine⟨_,Z,bt,T.bot,db,_,_,Z,hb,X.cB,X.Wu,Z,sp,Z,⟨_,aI.of hs⟩,?_⟩;refine nN (K:=K) (xs:=stp.map V.int) (λi σ H'=>H'=H/\∃(t r d:Int)(s3 s4:Option V),σ=[some (.ref bt),some (.int t),some (.int r),s3,s4]/\t*prod=top*r/\r=d*(stp.drop i).foldl (·*·) 1/\0<d/\Jm.cf t d=1)
  ⟨Z,top,prod,1,none,none,Z,Z,by rw[List.drop_zero,wL];exact ep,by decide,by unfold Jm.cf;rw[Int.gcd_one];rfl⟩ (λi σ H' _ hp=>by rw[hp.1];exact aI.of hs) ?_ ?_
 .rintro i x σ H' hx ⟨rfl,t,r,d,s3,s4,rfl,e1,e2,d0,c⟩;obtain⟨st,rfl,es⟩:=fE hx;have hm:=cg es;have s2:=h2 st hm;have hi:=(dW.mp es).1;have hdr:stp.drop i=st::stp.drop (i+1):=by rw[List.drop_eq_getElem_cons hi];congr 1;rw[a_ hi]at es;exact fh es
  rw[hdr,BR]at e2;have r0:0<=t % st:=kU _ (by omega);refine⟨_,Z,_,Z,_,Z,_,_,Z,Z,(by show 0<st;omega),st,t % st,Z,by omega,r0,?_⟩;rw[Jm.BF t st (by omega)];obtain⟨o1,o2⟩:=NV d0 (by omega:0<st) c;have gp:0<Jm.cf t st:=Jm.zV t st (.inr (by omega));have gz:Jm.Sz 9000 (Jm.cf t st):=((hz.of_le (by have:=R5 h2 hm;rw[<-ep]at this;omega)).dvd (by omega:0<st) (by omega) (Jm.mP t st)).mono (by decide);obtain⟨u,hu⟩:=Jm.ou t st;obtain⟨v,hv⟩:=Jm.mP t st;have e3:t / Jm.cf t st*prod=top*(r / Jm.cf t st):=by
   have a1:t / Jm.cf t st=u:=by rw[Rz (by omega) hu]
   have a2:r=Jm.cf t st*(d*v*(stp.drop (i+1)).foldl (·*·) 1):=by
    rw[e2]
    conv=>lhs;rw[hv]
    rw[gy (Jm.cf t st),Int.mul_left_comm,gy d]
   have a3:r / Jm.cf t st=d*v*(stp.drop (i+1)).foldl (·*·) 1:=by rw[Rz (by omega) a2]
   rw[a1,a3];have e1':Jm.cf t st*(u*prod)=Jm.cf t st*(top*(d*v*(stp.drop (i+1)).foldl (·*·) 1)):=by
    rw[<-gy,<-hu,e1]
    conv=>lhs;rw[a2]
    rw[Int.mul_left_comm]
   exact KQ (by omega) e1'
  have e4:r / Jm.cf t st=d*(st / Jm.cf t st)*(stp.drop (i+1)).foldl (·*·) 1:=by
   have a4:st / Jm.cf t st=v:=by rw[Rz (by omega) hv]
   have a2:r=Jm.cf t st*(d*v*(stp.drop (i+1)).foldl (·*·) 1):=by
    rw[e2]
    conv=>lhs;rw[hv]
    rw[gy (Jm.cf t st),Int.mul_left_comm,gy d]
   rw[a4,Rz (by omega) a2]
  refine⟨λσ' H2=>H2=H'/\σ'=[some (.ref bt),some (.int (t / Jm.cf t st)),some (.int (r / Jm.cf t st)),some (.int st),some (.int (Jm.cf t st))],?_,?_⟩
  .refine ⟨_,Z,_,_,Z,Z,_,Z,fQ (λc=>?_) (λc=>?_)⟩
   .exact ⟨_,Z,_,Z,_,_,Z,Z,qi gp gz,_,Z,_,Z,_,_,Z,Z,qi gp gz,Z,Z⟩
   .have c':¬ 1<Jm.cf t st:=qe (mC.mpr c);have g1:Jm.cf t st=1:=by omega
    refine⟨Z,?_⟩;rw[g1,rj,rj];rfl
  rintro σ' H2 ⟨rfl,rfl⟩;exact⟨Z,_,_,_,_,_,Z,e3,e4,o2,o1⟩
 rintro σ H' ⟨rfl,t,r,d,s3,s4,rfl,e1,e2,d0,c⟩;rw[List.drop_of_length_le (by rw[aH];exact aO _),List.foldl_nil,mH]at e2;subst e2;refine⟨_,Z,_,Z,(kB 2),λp hp=>?_⟩;refine q p _ (aD hp _) ?_;rw[ai];obtain⟨a1,a2⟩:=Jm.Nk d0 c;have:Jm.fr top prod=Jm.fr t r:=Jm.LC (by omega) d0 e1.symm;unfold lI;rw[this,a1,a2]
abbrev nC:Stmt:=inClass (top 26) 3
abbrev kq:Cl Str:=["self","top"]
abbrev Cd:Cl Str:=kq
def Ba:aS Cd kq (aC nC):=dD
theorem Bb{T:TC}(F:jw K T.bot "share" "Bottom.share" nC f fd)(X:Txt K T)(gW:Mn P w K mg base 2 T.bot "over" jB (BQ T)):Mn P w K mg base 3 T.bot "share" kq (FN T):=by
 refine F.oA Ba λ_ _ _ _ H _ Q E hr h=>?_;obtain⟨⟨bt,db,sp,kn,stp,prod,top,AT,rfl,hb,hs,ep,h2,hz,hk,Xu,kl,knd,q⟩⟩:=h;refine⟨_,(@cS.h _ _ _ (ak (jU (qE (vQ (iL hr) (qv 1) (aQ K (qv 0)))) (az (tE (iL hr) (aQ K (qv 0)) (qv 1) (dZ gW hr (qv 0) (af (qv 1) aj)) rfl)) bJ)
  (az (bB (s_ (iL hr) (aQ K (qv 0)) (qv 1)))))),?_⟩
 refine⟨λσ' H'=>σ'=[some (.ref bt),some (.int top)]/\(∀b o,H b=some o->b≠kn->H' b=some o)/\∃kvs' r,H' kn=some (.dK kvs')/\Fz H' kvs' prod/\kvs'.length<=AT.length+1/\(kvs'.map (·.1)).Nodup/\cJ kvs' (Sum.inl top)=some (.ref r)/\H' r=some (lI (Jm.fr top prod)),?_,?_⟩
 .refine ⟨_,Z,_,Z,bt,T.bot,db,_,_,Z,hb,X.cB,X.NQ,Z,kn,_,Z,iU.k (k:=Sum.inl top) hk,_,Z,?_⟩;cases e:cJ AT (Sum.inl top)with
  | some v=>refine cL ⟨Z,λb o e _=>e,AT,?_⟩;obtain⟨t,r,e2,hr2⟩:=Xu _ (QF e);cases e2;exact⟨r,hk,Xu,Nat.le_succ _,knd,e,hr2⟩
  | none=>
   refine lH ?_;refine⟨_,Z,bt,db,_,Z,hb,Z,_,Z,⟨⟨bt,db,sp,kn,stp,prod,top,Z,hb,hs,ep,h2,hz,λr H1 g1 hr1=>?_⟩⟩⟩;have sl:AT.length<sizeLine:=by rw[gQ];omega
   refine⟨_,Z,bt,T.bot,db,_,_,Z,g1 _ _ hb,X.cB,X.NQ,Z,_,Z,kn,_,Z,um.k (k:=Sum.inl top) (g1 _ _ hk) sl,Z,λb o e hb=>by rw[ay hb];exact g1 _ _ e,_,r,ai,?_,?_,Tj _ knd e,by rw[PX,aB rfl],by rw[ay (gT hr1 (g1 _ _ hk) (by intro z;cases z))];exact hr1⟩
   .rw [lG _ e];intro p hp;rcases eE.mp hp with z|z
    .obtain ⟨t,r',e2,hr2⟩:=Xu p z;exact⟨t,r',e2,by rw[ay (gT (g1 _ _ hr2) (g1 _ _ hk) (by intro z;cases z))];exact g1 _ _ hr2⟩
    .rw [eU.mp z];exact⟨top,r,Z,by rw[ay (gT hr1 (g1 _ _ hk) (by intro z;cases z))];exact hr1⟩
   .rw [lG _ e,cO];exact aO _
 rintro σ' H' ⟨rfl,k1,kvs',r,e1,e2,e3,e4,e5,e6⟩;exact⟨_,Z,bt,T.bot,db,_,_,Z,k1 _ _ hb (gT hb hk (by intro z;cases z)),X.cB,X.NQ,Z,_,Z,kn,_,Z,e5▸iU.k (k:=Sum.inl top) e1,q r H' kvs' k1 e1 e2 e3 e4 e6⟩
abbrev n8:Stmt:=inClass (top 30) 12
abbrev lC:Cl Str:=["self","part"]
abbrev DU:Cl Str:=lC.append ["tops"]
def tQ:aS DU lC (aC n8):=dD
theorem Ce{T:TC}(F:jw K T.hold "shares" "Hold.shares" n8 f fd)(X:Txt K T)(gI:Mn P w K mg base 1 T.hold "part_of" ja (yE T))(n9:Mn P w K mg base 1 T.hold "tops_of" ko (JY T))(n_:Mn P w K mg base 3 T.bot "share" kq (FN T))(gE:mg "zip"=none):Mn P w K mg base 4 T.hold "shares" lC (AI T):=by
 refine F.oA tQ λ_ _ _ _ H _ Q E hr h=>?_;obtain⟨⟨n,ρ,A,st,ip,pt,rfl,hh,ep,hkn,q⟩⟩:=h;obtain⟨qq,eq,k1,k2,k3,k4⟩:=hh.h.find ep;have jA:=cg ep;refine⟨_,(@cS.h _ _ _ (ak (aY (i:=2) tQ.nd (dZ n9 hr (qv 0) (af (dZ gI hr (qv 0) (af (qv 1) aj)) aj)))
  (az (bB (AD (Gw ["owner","top","self"] [none,none,some 0] rfl (nU K (by rfl) gE (af (aQ K (qv 0)) (af (qv 2) aj))) (λ_ _ _ _=>(i9 K (n:=2) rfl (cM (aV (i:=0) (show List.Nodup (["owner","top","self"] :Cl Str)from by decide +kernel)) (cM (aV (i:=1) (show List.Nodup (["owner","top","self"] :Cl Str)from by decide +kernel)) i8)))) (λ_ _ _ _=>(m_ (af (qv 0) (af (dZ n_ hr (aQ K (qv 2)) (af (qv 1) aj)) aj)))) (λ_ _ _ _=>(bf mL (qv 1) au (bD _))) rfl (by rfl))))))),?_⟩
 refine⟨_,Z,A.a,A.dx,_,Z,hh.h.oa,Z,_,Z,A.a,A.dx,_,Z,hh.h.oa,Z,_,Z,⟨⟨n,ρ,A,st,ip,pt,qq,Z,hh.h,hh.wf.iD,ep,eq,?_⟩⟩⟩;refine⟨⟨n,ρ,A,st,ip,pt,qq,Z,hh.h,hh.wf,ep,eq,λl H1 g1 hl hl1=>?_⟩⟩;have jY:=hh.mono g1;have cl:ρ l=none:=hh.g.none hl;have tl:(aL st pt).length=st.own.length:=by unfold aL;rw[gx,hh.wf.rows pt jA,hh.wf.dQ,ua]
 have fk:=hh.wf.mT;refine⟨A.pl,_,jY.h.ie,λob=>?_⟩;have hl2:upd H1 A.pl (.dz ob (.dK (dX 0 st.own))) l=some (.lst ((aL st pt).map V.int)):=cZ jY.h.ie hl1 (λk z=>by cases z);refine⟨_,Z,A.a,T.hold,A.dx,_,_,Z,cZ jY.h.ie jY.h.oa (λk z=>by cases z),X.cH,X.hpl,Z,_,Z,_,_,_,_,_,_,Z,.keys ai,.lst (aI.of hl2),λAp Bi=>?_⟩;have rR:H1 Ap=none:=lN jY.h.ie Bi;have ca:ρ Ap=none:=jY.g.none rR;have KG:Ap≠A.pl:=λe=>by rw[e,ai]at Bi;cases Bi
 have nal:Ap≠l:=λe=>by rw[e,hl1]at rR;cases rR
 refine TQ (K:=K) (n:=st.own.length) [0,1] (λi out Hc=>∃H5,Hc=upd H5 A.pl (.dz ob (.dK (dX 0 st.own)))/\Gh ρ H5/\Fr n ρ H ρ H5/\aR T n ρ A H5 { st with kn:=st.kn+i }/\H5 l=some (.lst ((aL st pt).map V.int))/\jF H5 out (((List.zip st.own (aL st pt)).take i).filterMap λx=>if 0<x.2 then some (x.1,Jm.fr x.2 st.prod) else none))
  (by decide) (by omega) ⟨upd H1 Ap (.lst []),jj (cW KG),jY.g.alloc rR,(Fr.of_same (ρ:=ρ) g1).trans (Fr.of_same (aD rR _)),jY.h.mono (aD rR _),by rw[ay (cW nal)];exact hl1,.nil⟩ ?_ ?_ ?_ ?_
 .rintro i out Hc hi ha ⟨H5,rfl,G5,F5,h5,l5,S5⟩;exact⟨ai,aI.of (cZ h5.ie l5 (λk z=>by cases z)),by rw[aH,p6];exact hi,by rw[aH,tl];exact hi⟩
 .rintro out Hc ha ⟨H5,rfl,G5,F5,h5,l5,S5⟩;exact⟨ai,aI.of (cZ h5.ie l5 (λk z=>by cases z)),.inr (by rw[aH,tl];exact aO _)⟩
 .rintro i x out Hc H2 hi Hw ha ⟨H5,rfl,G5,F5,h5,l5,S5⟩ ⟨pp,x1,y1,hpp,rfl,rfl,e1,e2⟩;obtain⟨t,rfl,et⟩:=fE e2;rw[FH,cz]at e1;obtain⟨o,eo,rfl⟩:=lE.mp e1;have npl:pp≠A.pl:=λe=>by rw[e,ai]at hpp;cases hpp
  have ab0:H5 pp=none:=lN h5.ie hpp;have ez:(List.zip st.own (aL st pt))[i]?=some (o,t):=by rw[List.getElem?_zip_eq_some];exact⟨eo,et⟩
  have g6:=aD ab0 (.tup [.str o,.int t]);have e6:upd (upd H5 A.pl (.dz ob (.dK (dX 0 st.own)))) pp (.tup [.str o,.int t])=upd (upd H5 pp (.tup [.str o,.int t])) A.pl (.dz ob (.dK (dX 0 st.own))):=jj (cW npl);rw[e6];have G6:=G5.same g6;have F6:=F5.trans (Fr.of_same (ρ:=ρ) g6);have h6:=h5.mono g6;have l6:=g6 _ _ l5;have S6:=S5.mono g6.tups;have t6:upd H5 pp (.tup [.str o,.int t]) pp=some (.tup [.str o,.int t]):=ai;have Sj:upd H5 pp (.tup [.str o,.int t]) Ap=some (.lst out):=by rw[ay KG]at ha;exact g6 _ _ ha
  generalize upd H5 pp (.tup [.str o,.int t])=H6 at *;have fz:∀{b:Addr}{u:HO},H6 b=some u->(∀k,u ≠ .dK k)->upd H6 A.pl (.dz ob (.dK (dX 0 st.own))) b=some u:=λe k=>cZ h6.ie e k;refine⟨pp,_,Z,bR.of (fz t6 (λk z=>by cases z)),Z,_,Z,_,_,Z,Z,_,Z,?_⟩;refine fQ (λc=>?_) (λc=>?_)
  .have c':0<t:=ff c;obtain⟨AT,j1,j2,j3,j4⟩:=h6.okn;have Sk:A.kn≠A.pl:=Ae h6.iY h6.iI (by intro z;cases z);refine⟨_,Z,_,Z,A.a,T.hold,A.dx,_,_,Z,fz h6.oa (λk z=>by cases z),X.cH,X.x_,Z,A.bt,A.db,_,Z,fz h6.ku (λk z=>by cases z),Z,_,Z,
    ⟨⟨A.bt,A.db,A.sp,A.kn,st.stp,st.prod,t,AT,Z,fz h6.ku (λk z=>by cases z),fz h6.oU (λk z=>by cases z),hh.wf.mS,hh.wf.qy,hh.wf.big,by rw[ay Sk];exact j1,(λp hp=>let⟨t,r,e,w⟩:=j2 p hp;⟨t,r,e,fz w (λk z=>by cases z)⟩),Bu j3 (by show st.kn+i<_;omega),j4,λr H7 kvs' b1 b2 b3 b4 b5 b6=>?_⟩⟩⟩
   have Sl:H7 A.pl=some (.dz ob (.dK (dX 0 st.own))):=b1 _ _ ai (cW Sk);refine⟨(kB 2),λtt Sm=>?_⟩;have ntp:tt≠A.pl:=λe=>by rw[e,Sl]at Sm;cases Sm
   have k8:∀b u,H6 b=some u->b≠A.kn->upd H7 A.pl (.dK (dX 0 st.own)) b=some u:=λb u e hb=>by
    by_cases z:b=A.pl
    .rw [z]at e ⊢;rw[show H6 A.pl=some (.dK (dX 0 st.own))from h6.ie]at e;cases e;exact ai
    .rw [ay z];exact b1 _ _ (by rw[ay z];exact e) hb
   have h8:=h6.QG (m:=st.kn+i+1) k8 (by rw[ay Sk];exact b2) (λp hp=>let⟨t,r,e,w⟩:=b3 p hp;⟨t,r,e,iZ (.inr ⟨_,Sl,Z⟩) _ _ w⟩) (dj b4 (Nat.succ_le_succ j3)) b5;have G8:Gh ρ (upd H7 A.pl (.dK (dX 0 st.own))):=λb cc e=>by
    by_cases z:b=A.pl
    .rw [z];exact⟨_,ai,Z⟩
    by_cases z2:b=A.kn
    .rw [z2,ay Sk];exact⟨_,b2,Z⟩
    obtain⟨u,a1,a2⟩:=G6 b cc e;exact⟨u,k8 b u a1 z2,a2⟩
   have F8:Fr n ρ H6 ρ (upd H7 A.pl (.dK (dX 0 st.own))):=λb u e k=>⟨k8 b u e (λz=>k 9 ⟨#[]⟩ (by rw[z];exact h6.iY)),Z⟩
   have tp8:∀b xs,H6 b=some (.tup xs)->upd H7 A.pl (.dK (dX 0 st.own)) b=some (.tup xs):=λb xs e=>k8 b _ e (gT e j1 (by intro z;cases z));have ab1:upd H7 A.pl (.dK (dX 0 st.own)) tt=none:=by rw[ay ntp];exact Sm
   have back:H7=upd (upd H7 A.pl (.dK (dX 0 st.own))) A.pl (.dz ob (.dK (dX 0 st.own))):=by rw[nL,uA Sl]
   have hr8:upd H7 A.pl (.dK (dX 0 st.own)) r=some (lI (Jm.fr t st.prod)):=iZ (.inr ⟨_,Sl,Z⟩) _ _ b6;have l8:=k8 _ _ l6 (λz=>by rw[z,j1]at l6;cases l6);have Hy:=k8 _ _ Sj (λz=>by rw[z,j1]at Sj;cases Sj);have S8:=S6.mono tp8;have F08:=F6.trans F8;rw[back]at Sm ⊢;generalize upd H7 A.pl (.dK (dX 0 st.own))=H8 at *;have g9:=aD ab1 (.tup [.str o,.ref r]);rw[jj (cW ntp)];refine⟨by rw[ay KG];exact g9 _ _ Hy,_,jj (cW KG),(G8.same g9).wr rfl,(F08.trans (Fr.of_same (ρ:=ρ) g9)).new (g1.free rR),?_,?_,?_⟩
   .exact (h8.mono g9).same (NU ca (g9 _ _ Hy) rfl)
   .rw [ay (cW nal)];exact g9 _ _ l8
   .rw [take_snoc ez,EI,oY];simp only[c',if_true,List.filterMap_nil];exact((S8.mono g9.tups).snoc ai (g9 _ _ hr8)).mono (iZ (.inr ⟨_,g9 _ _ Hy,Z⟩))
  .have c':¬ 0<t:=qe (mC.mpr c);refine⟨by rw[ay KG];exact Sj,H6,Z,G6,F6,?_,l6,?_⟩
   .obtain ⟨AT,j1,j2,j3,j4⟩:=h6.okn;exact h6.QG (m:=st.kn+i+1) (λb u e _=>e) j1 j2 (Nat.le_succ_of_le j3) j4
   .rw [take_snoc ez,EI,oY];simp only[c',mJ,List.filterMap_nil,pU];exact S6
 .rintro out Hc Hw ha ⟨H5,rfl,G5,F5,h5,l5,S5⟩;rw[KZ (by rw[List.length_zip,tl];omega)]at S5;refine⟨ai,?_⟩;rw[nL,uA (show H5 A.pl=some (.dK (dX 0 st.own))from h5.ie)];rw[ay KG]at ha;obtain⟨AT,j1,j2,j3,j4⟩:=h5.okn;have h9:=h5.QG (m:=st.kn+100) (λb u e _=>e) j1 j2 (dj j3 (by show st.kn+st.own.length<=st.kn+100;omega)) j4;exact q Ap out H5 ⟨G5,h9,Za hh.wf hkn⟩ F5 (g1.free rR) ha ca S5
abbrev kH:Stmt:=inClass (top 30) 26
abbrev jr:Cl Str:=["self","place"]
abbrev yY:Cl Str:=jr.append ["own"]
def pT:aS yY jr (aC kH):=dD
theorem xB{T:TC}(F:jw K T.hold "stake_top" "Hold.stake_top" kH f fd)(X:Txt K T)(jc:Mn P w K mg base 1 T.hold "whole" jX (BP T))(eY:mg "sum"=none):Mn P w K mg base 2 T.hold "stake_top" jr (AK T):=by
 refine F.oA pT λ_ _ _ _ H _ Q E hr h=>?_;obtain⟨⟨n,ρ,A,st,k,rfl,h,ok,hk,q⟩⟩:=h;refine⟨_,(@cS.h _ _ _ (ak (aY (i:=2) pT.nd (aN (jR K rfl) (by rfl) eY tT (af (AD (gc ["part","place"] [none,some 1] rfl (sY (aQ K (qv 0))) (λ_ _ _ _=>(aV (i:=0) (show List.Nodup (["part","place"] :Cl Str)from by decide +kernel))) (λ_ _ _ _=>(aM lX (aM h_ (aQ K (qv 0)) (aQ K (qv 0))) (aU (aZ K) (aQ K (qv 0)) (qv 1)))) rfl (by rfl))) aj)))
  (az (bB (aM cQ (qv 2) (aM h_ (BY jc hr (qv 0)) (aU (aZ K) (aQ K (qv 0)) (qv 1)))))))),?_⟩
 have wf:=ok.wf;have hl:=wf.nQ;refine⟨A.ab,_,h.cY,λo=>?_⟩;refine⟨_,Z,A.a,T.hold,A.dx,_,_,Z,cZ h.cY h.oa (λk z=>by cases z),X.cH,X.hab,Z,A.ab,o,_,Z,ai,λAp Bi=>?_⟩;have el:=qb h.ql;refine ia (n:=st.ah.length) 0 (λi out H1=>aE (upd H A.ab (.dz o (.dK (cu st.ah A.qs)))) H1/\out=((st.ah.take i).map λp:Pt=>p.wo*p.sc*p.row.getD k 0).map V.int) (by omega) ⟨aD Bi _,Z⟩ (λi out H1 hi _ hp=>⟨hp.1 _ _ ai,by rw[el];exact hi⟩) (λout H1 _ hp=>⟨hp.1 _ _ ai,by rw[el];exact aO _⟩) ?_ ?_
 .rintro i x out H1 H2 hi fk ha ⟨g,e⟩ ⟨rfl,kv,hkv,rfl⟩;have ep:=a_ hi;have jA:=qW hi;obtain⟨qq,eq,h1,h2,_⟩:=h.find ep;rw[qa ep eq]at hkv;cases hkv;generalize st.ah[i]=p at *;have hq:=g _ _ (cZ h.cY h1 (λk z=>by cases z));have hrw:=g _ _ (cZ h.cY h2 (λk z=>by cases z));have hkr:k<p.row.length:=by rw[wf.rows p jA];exact hk
  have s1:Jm.Sz 8000 p.sc:=Jm.Sz.kN (by have:=wf.mU p jA;have:=wf.c6;omega) (wf.mU p jA).2 wf.big;have hr0:=wf.kF p jA _ (OD hkr);have s2:Jm.Sz 8000 (p.row.getD k 0):=Jm.Sz.kN hr0.1 hr0.2 wf.big;have s3:=(ok.wo p jA).mul s1;have cm:Lm p.wo p.sc:=.inl (by have:p.wo.natAbs<2 ^ 60:=ok.wo p jA;omega);refine⟨_,Z,qq.1,T.part,qq.2.1,_,_,Z,hq,X.cP,X.FE,Z,_,Z,qq.1,T.part,qq.2.1,_,_,Z,hq,X.cP,X.JS,Z,_,_,Z,Z,cm,_,Z,qq.1,T.part,qq.2.1,_,_,Z,hq,X.cP,X.NP,Z,_,Z,qq.2.2,_,_,_,Z,Z,aI.of hrw,getD_at hkr,_,_,Z,Z,j_ s3 s2,ha,g.b9 Bi _,?_⟩;rw[take_snoc ep,e,b7,b7];rfl
 rintro out H1 fk ha ⟨g,e⟩;rw[cG]at e;have hz:=g _ _ (ai (H:=H) (a:=A.ab) (o:=.dz o (.dK (cu st.ah A.qs))));have na:Ap≠A.ab:=λe=>by rw[e,hz]at ha;cases ha
 refine⟨hz,Ap,st.ah.map (λp:Pt=>p.wo*p.sc*p.row.getD k 0),Z,aI.of (by rw[ay na,ha,e]),?_⟩;have g2:=nR h.cY g;generalize upd H1 A.ab (.dK (cu st.ah A.qs))=H2 at *;have h2:=h.mono g2;have hkc:k<st.aW.length:=by rw[wf.dQ];exact hk
 refine⟨_,Z,_,Z,A.a,A.dx,_,Z,h2.oa,Z,⟨⟨n,ρ,A,st,Z,h2,hl,λH3 g3=>?_⟩⟩⟩;have h3:=h2.mono g3;exact⟨_,Z,A.a,T.hold,A.dx,_,_,Z,h3.oa,X.cH,X.vz,Z,_,Z,A.cm,_,_,_,Z,Z,aI.of h3.iJ,getD_at hkc,_,_,Z,Z,.inl (by have:(aq st).natAbs<2 ^ 60:=ok.wh;omega),_,_,Z,Z,q H3 (g2.trans g3)⟩
abbrev pP:Stmt:=inClass (top 30) 14
abbrev nD:Cl Str:=["self","owner"]
abbrev HC:Cl Str:=nD
def DV:aS HC nD (aC pP):=dD
def DW{T:TC}(F:jw K T.hold "stake" "Hold.stake" pP f fd)(X:Txt K T)(gW:Mn P w K mg base 2 T.bot "over" jB (BQ T))(lU:Mn P w K mg base 2 T.hold "stake_top" jr (AK T))(gh:Mn P w K mg base 1 T.hold "place_of" iz (BO T)):Mn P w K mg base 3 T.hold "stake" nD (GN T):=by refine F.oA DV λ_ _ _ _ H _ Q E hr h=>?_;obtain⟨⟨n,ρ,A,st,o,rfl,h,ok,ho,q⟩⟩:=h;refine⟨_,(@cS.h _ _ _ (az (bB (dZ gW hr (aQ K (qv 0)) (af (dZ lU hr (qv 0) (af (dZ gh hr (qv 0) (af (qv 1) aj)) aj)) aj))))),?_⟩;have wf:=ok.wf;refine⟨_,Z,A.a,T.hold,A.dx,_,_,Z,h.oa,X.cH,X.x_,Z,A.bt,A.db,_,Z,h.ku,Z,_,Z,A.a,A.dx,_,Z,h.oa,Z,_,Z,A.a,A.dx,_,Z,h.oa,Z,_,Z,⟨⟨n,ρ,A,st,o,Z,h,ho,?_⟩⟩⟩;refine⟨⟨n,ρ,A,st,st.own.idxOf o,Z,h,ok,ME ho,λH1 g1=>?_⟩⟩;have h1:=h.mono g1;exact⟨⟨A.bt,A.db,A.sp,A.kn,st.stp,st.prod,_,Z,h1.ku,h1.oU,wf.mS,wf.qy,wf.big,λr H2 g2 hr2=>q r H2 (g1.trans g2) hr2⟩⟩
abbrev Cf:Stmt:=top 22
abbrev Bc:Cl Str:=["thing","kind"]
abbrev Xv:Cl Str:=Bc.append ["least"]
def KH:aS Xv Bc (aC Cf):=dD
def Uy{tk:Tok}(F:At K mg "fits" Cf f fd)(iA:Dn P w K mg base 2 "is_name" mq qm)(bH:mg "isinstance"=none)(oM:mg "str"=none)(nE:mg "int"=none)(HD:mg "MOST"=some (.int 1000000000 tk)):Dn P w K mg base 3 "fits" Bc Gr:=by
 refine F.oA KH λ_ _ _ _ H _ Q E hr h=>?_;obtain⟨⟨t,k,rfl,ok,q⟩⟩:=h;refine⟨_,(@cS.h _ _ _ (ak (cK (bf fK (qv 1) iw (bD _)) (az (bB (vR (aN (c7 K) (by rfl) bH uS (af (qv 0) (af (kZ K6 rfl oM) aj))) (vP (bY iA hr (af (qv 0) aj)))))) bJ)
  (ak (aY (i:=2) KH.nd (QN (bf fK (qv 1) iw (bD _)) au au))
  (az (bB (vR (aN (c7 K) (by rfl) bH uS (af (qv 0) (af (kZ EJ rfl nE) aj))) (vP (Gv Ex Ex (qv 2) (qv 0) (sZ (v:=.int 1000000000) (by rfl) HD ⟨_,Z⟩))))))))),?_⟩
 cases k with
 | nm=>
  refine⟨_,Z,Z,_,Z,?_⟩;rw[cI (show V.str Kd.nm.s=V.str "name" from rfl)];refine lH ?_;cases t with
  | s cs=>refine⟨_,Z,_,_,_,_,Z,eK.str _,gk,_,Z,lH ⟨_,Z,uo (dj (show cs.length<=1000 from ok) (by decide)) λH' g=>q H' g⟩⟩
  | n i=>refine⟨_,Z,_,_,_,_,Z,eK.int _,IP,_,Z,cL (q H (aE.refl _))⟩
 | am=>
  refine⟨_,Z,Z,_,Z,?_⟩;rw[ee (show ¬ V.str Kd.am.s=V.str "name" by decide +kernel)];refine cL ?_;refine⟨_,Z,Z,_,Z,?_⟩;rw[cI (show V.str Kd.am.s=V.str "amount" from rfl)];refine lH ?_;cases t with
  | s cs=>exact⟨_,Z,_,_,_,_,Z,eK.str _,ye,_,Z,cL (q H (aE.refl _))⟩
  | n i=>
   refine⟨_,Z,_,_,_,_,Z,eK.int _,gk,_,Z,lH ?_⟩;have q':Q (.bl (decide (1<=i) && decide (i<=1000000000))) H:=q H (aE.refl _);refine⟨_,Z,_,Z,_,_,Z,Z,_,Z,fQ (λc=>?_) (λc=>?_)⟩
   .rw [c,q_]at q';exact⟨_,_,Z,Z,q'⟩
   .rw [mC.mpr c,tZ]at q';exact q'
 | we=>
  refine⟨_,Z,Z,_,Z,?_⟩;rw[ee (show ¬ V.str Kd.we.s=V.str "name" by decide +kernel)];refine cL ?_;refine⟨_,Z,Z,_,Z,?_⟩;rw[ee (show ¬ V.str Kd.we.s=V.str "amount" by decide +kernel)];refine cL ?_;cases t with
  | s cs=>exact⟨_,Z,_,_,_,_,Z,eK.str _,ye,_,Z,cL (q H (aE.refl _))⟩
  | n i=>
   refine⟨_,Z,_,_,_,_,Z,eK.int _,gk,_,Z,lH ?_⟩;have q':Q (.bl (decide (0<=i) && decide (i<=1000000000))) H:=q H (aE.refl _);refine⟨_,Z,_,Z,_,_,Z,Z,_,Z,fQ (λc=>?_) (λc=>?_)⟩
   .rw [c,q_]at q';exact⟨_,_,Z,Z,q'⟩
   .rw [mC.mpr c,tZ]at q';exact q'
abbrev yZ:Stmt:=top 21
abbrev xr:Cl Str:=["deed"]
abbrev Uz:Cl Str:=xr.append ["form","things"]
def uM:aS Uz xr (aC yZ):=dD
theorem Rl{aF aP:Addr}(F:At K mg "sound" yZ f fd)(HE:Dn P w K mg base 3 "fits" Bc Gr)(bg:mg "len"=none)(Mg:mg "max"=none)(xo:mg "all"=none)(gE:mg "zip"=none)(xu:mg "FORMS"=some (.ref aF))(HF:mg "PAIR"=some (.ref aP))(FG:N9 P w K aF aP):Dn P w K mg base 4 "sound" xr (BW K):=by
 refine F.oA uM λ_ _ _ _ H _ Q E hr h=>?_;obtain⟨⟨d,x,th,rfl,hd,hl,ok,q⟩⟩:=h;refine⟨_,(@cS.h _ _ _ (ak (jU (bf fK (aU (cj K) (qv 0) au) iw (bD _)) (az (aY (i:=1) uM.nd (aM (T_ K) (sZ (v:=.ref aP) (by rfl) HF rfl) (aN (MU rfl) (by rfl) Mg PyProof.Rows.boot_max (af au (af (aM eX (aN (bL K) (by rfl) bg cU (af (qv 0) aj)) au) aj)))))) (az (cK (qE (Ug (aU (cj K) (qv 0) au) (sZ (v:=.ref aF) (by rfl) xu rfl))) (az (aY (i:=1) uM.nd (QO (sZ (v:=.ref aF) (by rfl) xu rfl) (aU (cj K) (qv 0) au) (λ_ _=>rfl)))) (az (bB iM)))))
  (ak (aY (i:=2) uM.nd (Gx (Kc K) (qv 0) (Ke au) Kf))
  (az (bB (vR (tF fK (aN (bL K) (by rfl) bg cU (af (qv 2) aj)) (aN (bL K) (by rfl) bg cU (af (qv 1) aj)) (bD _)) (vP (aN (CN K rfl) (by rfl) xo PyProof.Rows.boot_all (af (gc ["thing","kind"] [none,none] rfl (nU K (by rfl) gE (af (qv 2) (af (qv 1) aj))) (λ_ _ _ _=>(i9 K (n:=2) rfl (cM (aV (i:=0) (show List.Nodup (["thing","kind"] :Cl Str)from by decide +kernel)) (cM (aV (i:=1) (show List.Nodup (["thing","kind"] :Cl Str)from by decide +kernel)) i8)))) (λ_ _ _ _=>(bY HE hr (af (qv 0) (af (qv 1) aj)))) rfl (by rfl)) aj))))))))),?_⟩
 have h0:pR (Gs (.s x::th)) 0=some (.str (tx x)):=bh (j:=0) rfl;have hlen:(Gs (.s x::th)).length=th.length+1:=by unfold Gs;rw[aH];rfl
 refine⟨λσ H1=>aE H H1/\∃(fo:Addr)(ks:Cl Kd),σ=[some (.ref d),some (.ref fo),none]/\bR K H1 fo ((ks.map Kd.s).map V.str)/\formOf (tx x) (th.length+1)=some ks,?_,?_⟩
 .refine ⟨_,Z,d,_,0,_,Z,Z,hd,h0,Z,_,Z,fQ (λc=>?_) (λc=>?_)⟩
  .have hx:tx x = "cast":=V.str.inj (ff c);have hn:(1:Int)<=(if((((th.length+1:Nat):Int)) / 2>(1:Int)) then(((th.length+1:Nat):Int)) / 2 else 1):=by split <;> omega
   have hm:(if((((th.length+1:Nat):Int)) / 2>(1:Int)) then(((th.length+1:Nat):Int)) / 2 else 1).toNat=max 1 ((th.length+1) / 2):=by split <;> omega
   have hks:∀n,((m7 n).map Kd.s).map V.str=(List.replicate n [V.str "name",V.str "amount"]).flatten:=λn=>by unfold m7;rw[List.map_flatten,List.map_flatten,List.map_replicate,List.map_replicate];rfl
   have hfo:formOf (tx x) (th.length+1)=some (m7 (max 1 ((th.length+1) / 2))):=by unfold formOf;rw[aB hx]
   refine⟨_,Z,d,_,Z,.inr hd,?_⟩;rw[hlen];refine⟨_,_,Z,Z,rE (by decide +kernel),_,_,Z,aP,_,_,Z,Z,FG.pair H,(by simp),hn,(by rw[hm,gQ];show 2*_<=_;omega),λe1=>?_,λe1 p hp=>?_⟩
   .refine ⟨aE.refl _,aP,_,Z,?_,hfo⟩;rw[hks,<-hm,e1];exact FG.pair H
   .refine ⟨aD hp _,p,_,Z,?_,hfo⟩;rw[hks,<-hm];exact bR.of ai
  .have hx:¬ tx x = "cast":=λz=>c (cI (by rw[z]));have hfo:formOf (tx x) (th.length+1)=jC vJ (tx x):=by unfold formOf;rw[aA hx]
   obtain⟨r,hr1,hr2⟩:=FG.get (tx x);refine⟨_,Z,d,_,0,_,Z,Z,hd,h0,aF,r,Z,hr1,_,Z,?_⟩;rcases hr2 with⟨rfl,e2⟩|⟨a,ks,rfl,e2,e3⟩
   .refine cL ?_;have:=q H (aE.refl _);unfold oW at this;rw[hfo,e2]at this;exact this
   .refine lH ?_;exact⟨_,Z,d,_,0,_,Z,Z,hd,h0,aF,_,Z,hr1,aE.refl _,a,ks,Z,e3 H,by rw[hfo,e2]⟩
 rintro σ H1 ⟨g,fo,ks,rfl,hf,hfo⟩;have hd1:=g.tup hd;refine⟨_,Z,_,Z,d,_,Z,hd1,?_,λp hp=>?_⟩
 .rintro ⟨z,_⟩;rw[show(1:Int)=((1:Nat):Int)from rfl,HT.JI,hlen]at z;omega
 rw[show(1:Int)=((1:Nat):Int)from rfl,N_];have eO:(Gs (.s x::th)).drop 1=th.map Th.v:=rfl;rw[eO];have g1:=aD hp (.tup (th.map Th.v));generalize hH2:upd H1 p (.tup (th.map Th.v))=H2 at g1;have Sn:bR K H2 p (th.map Th.v):=bR.of (by rw[<-hH2,ai]);have hf2:=g1.tup hf;have e1:(th.map Th.v).length=th.length:=aH _;have e2:((ks.map Kd.s).map V.str).length=ks.length:=by rw[aH,aH]
 have Xw:oW x th=oV th ks:=by unfold oW;rw[hfo]
 refine⟨_,Z,p,_,Z,.inr Sn,_,Z,fo,_,Z,.inr hf2,Z,_,Z,?_⟩;rw[e1,e2];refine fQ (λc=>?_) (λc=>?_)
 .have hlk:th.length=ks.length:=by have:=V.int.inj (ff c);omega
  refine⟨_,Z,_,Z,_,_,_,_,_,_,Z,.tup Sn,.tup hf2,λAp Bi=>?_⟩;refine vv (K:=K) (n:=th.length) [0,1] (λi out H3=>aE H2 H3/\out=(List.zipWith m5 (th.take i) (ks.take i)).map V.bl) (by decide) (by omega) ⟨aD Bi _,Z⟩ (λi out H3 hi _ hp=>⟨hp.1.tup Sn,hp.1.tup hf2,by rw[e1];exact hi,by rw[e2,<-hlk];exact hi⟩)
   (λout H3 _ hp=>⟨hp.1.tup Sn,hp.1.tup hf2,.inl (by rw[e1];exact aO _)⟩) ?_ ?_
  .rintro i x0 out H3 H4 hi fk ha ⟨g3,e⟩ ⟨r,x1,y1,hr0,rfl,rfl,f1,f2⟩;obtain⟨t,rfl,et⟩:=Gq f1;obtain⟨y2,rfl,f3⟩:=Gq f2;obtain⟨k2,rfl,ek⟩:=Gq (g:=Kd.s) f3;have g4:=aD hr0 (.tup [t.v,.str k2.s]);refine⟨r,_,Z,bR.of ai,Z,_,Z,_,Z,QL rfl rfl (ok t (cg et)) λH5 g5=>⟨g5 _ _ (g4 _ _ ha),((g3.trans g4).trans g5).b9 Bi _,?_⟩⟩;rw[Oa et ek,e,b7];rfl
  rintro out H3 fk ha ⟨g3,e⟩;rw[cG,hlk,cG]at e;refine⟨Ap,_,Z,aI.of (by rw[ha,e]),?_⟩;have:=q H3 ((g.trans g1).trans g3);rw[Xw,show oV th ks=(List.zipWith m5 th ks).all id by unfold oV;rw[cI hlk,q_]]at this;exact this
 .have:=q H2 (g.trans g1);have hne:¬ th.length=ks.length:=λz=>c (by rw[z];exact cI rfl);rw[Xw,show oV th ks=false by unfold oV;rw[ee hne,tZ]]at this;exact this
abbrev uN:Stmt:=top 24
abbrev rS:Cl Str:=["deed"]
abbrev OV:Cl Str:=rS
def Mh:aS OV rS (aC uN):=dD
theorem Mi(F:At K mg "rows_of" uN f fd)(bg:mg "len"=none)(bU:mg "range"=none):Dn P w K mg base 1 "rows_of" rS (GS K):=by
 refine F.oA Mh λ_ _ _ _ H _ Q E hr h=>?_;obtain⟨⟨z,rs,rfl,hz,hrl,q⟩⟩:=h;refine⟨_,(@cS.h _ _ _ (az (bB (gc ["at","deed"] [none,some 0] rfl (Of (by rfl) bU (af au (af (aN (bL K) (by rfl) bg cU (af (qv 0) aj)) (af au aj)))) (λ_ _ _ _=>(aV (i:=0) (show List.Nodup (["at","deed"] :Cl Str)from by decide +kernel))) (λ_ _ _ _=>(m_ (af (aU (cj K) (qv 1) (qv 0)) (af (aU (cj K) (qv 1) (aM cQ (qv 0) au)) aj)))) rfl (by rfl))))),?_⟩;refine⟨_,Z,z,_,Z,.inr hz,_,_,_,Z,⟨by decide,by decide,by omega,by rw[GL];omega,by decide,by decide⟩,?_⟩;rw[GL,W0];intro Ap Bi;refine ia (J:=Qx 1 2 rs.length) (n:=rs.length) 0 (λi out H1=>aE H H1/\fU H1 out (rs.take i)) (by omega) ⟨aD Bi _,.nil⟩ (λi o H' hi _ _=>hi) (λo H' _ _=>aO _) ?_ ?_
 .rintro i x out H1 H2 hi fk ha ⟨g,R⟩ ⟨rfl,rfl⟩;have ei:=a_ hi;generalize rs[i]=r at *;obtain⟨c1,c2⟩:=Ur ei;have e1:(1:Int)+(i:Int)*2=((1+2*i:Nat):Int):=by omega
  have e2:((1+2*i:Nat):Int)+1=((2+2*i:Nat):Int):=by omega
  rw[e1];refine⟨_,Z,_,Z,z,_,_,_,Z,Z,g.tup hz,bh c1,_,Z,_,Z,_,_,Z,Z,z,_,_,_,Z,Z,g.tup hz,by rw[e2];exact bh c2,(kB 2),λp hp=>?_⟩;have g6:=aD hp (LQ r);refine⟨g6 _ _ ha,(g.trans g6).b9 Bi _,?_⟩;rw[take_snoc ei];exact((R.mono g6.tups).snoc ai).mono (iZ (.inr ⟨_,g6 _ _ ha,Z⟩))
 rintro out H1 fk ha ⟨g,R⟩;rw[cG]at R;exact q Ap out H1 g Bi ha R
abbrev uO:Stmt:=top 23
abbrev rT:Cl Str:=["hold","deed"]
abbrev OW:Cl Str:=rT.append ["word"]
def Bd:aS OW rT (aC uO):=dD
theorem Mj{T:TC}(F:At K mg "perform" uO f fd)(Cg:Dn P w K mg base 4 "sound" xr (BW K))(wj:Dn P w K mg base 1 "rows_of" rS (GS K))(sH:Mn P w K mg base 4 T.hold "cast" oK (N4 T K)):Dn P w K mg base 5 "perform" rT (Ku T K):=by
 refine F.oA Bd λ_ _ _ _ H _ Q E hr h=>?_;obtain⟨⟨n,ρ,A,st,z,rs,rfl,hz,hh,ok,hrw,hl,q⟩⟩:=h;refine⟨_,(@cS.h _ _ _ (ak (cK (fB (fq (bY Cg hr (af (qv 1) aj)))) (az cX) bJ)
  (ak (aY (i:=2) Bd.nd (aU (cj K) (qv 1) au))
  (az (cK (bf fK (qv 2) iw (bD _)) (az cX) (az (cK (bf fK (qv 2) iw (bD _)) (az (dM (dZ sH hr (qv 0) (af (bY wj hr (af (qv 1) aj)) aj)))) (az (cK (bf fK (qv 2) iw (bD _)) (az cX) (az (cK (bf fK (qv 2) iw (bD _)) (az cX) (az (cK (bf fK (qv 2) iw (bD _)) (az cX) (az (cK (bf fK (qv 2) iw (bD _)) (az cX) (az (cK (bf fK (qv 2) iw (bD _)) (az cX) (az (cK (bf fK (qv 2) iw (bD _)) (az cX) bJ))))))))))))))))))),?_⟩
 have any:=Q9 hrw ok.ne hl;have hz':=hz;rw[Q8]at hz';refine⟨_,Z,Ob hz' (dj any.len (by decide)) (λt ht=>?_) λH1 g1=>?_⟩
 .exact (any.good t ht).ok
 rw[any.snd];refine⟨_,Z,cL ?_⟩;refine⟨_,Z,z,_,_,_,Z,Z,g1.tup hz,bh (j:=0) rfl,?_⟩;refine⟨_,Z,Z,_,Z,fQ (λc=>absurd (V.str.inj (ff c)) (by decide)) (λ_=>?_)⟩;refine⟨_,Z,Z,_,Z,fQ (λ_=>?_) (λc=>absurd (cI rfl) c)⟩;refine⟨_,Z,A.a,A.dx,_,Z,(hh.mono g1).h.oa,Z,_,Z,⟨⟨z,rs,Z,g1.tup hz,by omega,λl us H2 g2 Dv hl2 hR=>⟨⟨n,ρ,A,st,l,us,rs,Z,hh.mono (g1.trans g2),aI.of hl2,hR,ok,λρ' A' H' a1 a2 a3=>q ρ' A' H' a1 a2 ((Fr.of_same (g1.trans g2)).trans a3)⟩⟩⟩⟩⟩
abbrev qR:Stmt:=top 35
abbrev iG:Cl Str:=["_law_script","_law_k","_law_j","_law_many"]
abbrev Ja:Cl Str:=iG.append ["_law_cell","_law_turn","_law_rest","_law_step","_law_one","_law_two"]
def dG:aS Ja iG (aC qR):=dD
theorem HG(F:At K mg "_law_draw" qR f fd)(bg:mg "len"=none)(bU:mg "range"=none):Dn P w K mg base 1 "_law_draw" iG (sS K):=by
 refine F.oA dG λ_ _ _ _ H _ Q E hr h=>?_;obtain⟨⟨a,ns,k,j,BM,rfl,hS,h63,hk,hj,hj2,hm,q⟩⟩:=h;refine⟨_,(@cS.h _ _ _ (ak (aY (i:=4) dG.nd au)
  (ak (aY (i:=5) dG.nd au)
  (ak (jU (bf mL (aN (bL K) (by rfl) bg cU (af (qv 0) aj)) au (bD _)) (ak (aY (i:=4) dG.nd (aU (aZ K) (qv 0) (aM iS (qv 1) (aN (bL K) (by rfl) bg cU (af (qv 0) aj)))))
  (az (aY (i:=5) dG.nd (aM eX (qv 1) (aN (bL K) (by rfl) bg cU (af (qv 0) aj)))))) bJ)
  (ak (aY (i:=6) dG.nd (qv 4))
  (ak (fu fH rfl (d9 (by rfl) bU (af (qv 2) aj)) (aV (i:=7) dG.nd) (az (aY (i:=6) dG.nd (aM eX (qv 6) (aM u7 au au)))))
  (ak (cK (jD (bW.pt (Om (bf fK (qv 5) au (bD _)) (Om (bf Lo (qv 4) (aM u7 au au) (bD _)) (Ue (bf mL (qv 6) au (bD _))))))) (az (bB (aM iS (aM iS (qv 6) (aM u7 au au)) (qv 3)))) bJ)
  (ak (aY (i:=8) dG.nd (aM iS (aM cQ (aM cQ (aM cQ (aM h_ (qv 4) au) (aM h_ (qv 1) au)) (aM h_ (qv 2) au)) au) au))
  (ak (aY (i:=9) dG.nd (aM iS (aM cQ (aM h_ (qv 8) au) (aM eX (qv 4) au)) au))
  (ak (aY (i:=9) dG.nd (aM iS (aM cQ (aM h_ (qv 9) (aM cQ (aM iS (qv 8) au) au)) (qv 2)) au))
  (az (bB (aM iS (aM iS (aM cQ (aM cQ (aM h_ (qv 8) au) (aM h_ (qv 9) au)) (aM eX (qv 9) au)) au) (qv 3)))))))))))))),?_⟩
 have hl:(ns.map V.int).length=ns.length:=aH _;refine⟨λσ H'=>H'=H/\σ=[some (.ref a),some (.int k),some (.int j),some (.int BM),some (.int (Jm.cellOf ns k)),some (.int (Jm.vg ns k)),none,none,none,none],?_,?_⟩
 .refine ⟨_,Z,a,_,Z,.inl hS,_,_,Z,Z,_,Z,?_⟩;refine fQ (λc=>?_) (λc=>?_)
  .have c':0<(((ns.map V.int).length:Nat):Int):=ff c;rw[hl]at c';have i0:0<=k % (ns.length:Int):=kU _ (by omega);have i1:k % (ns.length:Int)<(ns.length:Int):=tV _ c';refine⟨_,Z,_,Z,_,Z,a,_,Z,.inl hS,_,_,Z,Z,(by show(0:Int)<_;rw[hl];exact c'),a,_,_,.int (ns.getD (k % ns.length).toNat 0),Z,Z,hS,?_,?_⟩
   .rw [hl];exact Tq i0 i1
   refine⟨_,Z,_,Z,a,_,Z,.inl hS,_,_,Z,Z,Qj (n:=10) (by rw[hl];exact c') (by rw[hl];omega) (by decide),Z,?_⟩;unfold Jm.cellOf Jm.vg;rw[aB c',aB c',hl];rfl
  .have c':¬ 0<(((ns.map V.int).length:Nat):Int):=qe (mC.mpr c);rw[hl]at c';refine⟨Z,?_⟩;unfold Jm.cellOf Jm.vg;rw[aA c',aA c'];rfl
 rintro σ H' ⟨rfl,rfl⟩;generalize ec:Jm.cellOf ns k=cell at *;generalize et:Jm.vg ns k=turn at *;refine⟨_,Z,_,Z,j,Z,by omega,hj2,?_⟩;refine jP (lo:=0) (n:=j.toNat) (λi σ Ak=>Ak=H'/\∃st:Option V,σ=[some (.ref a),some (.int k),some (.int j),some (.int BM),some (.int cell),some (.int turn),some (.int (Jm.zW cell i)),st,none,none]) ⟨Z,none,Z⟩ ?_ ?_
 .rintro i σ Ak hi ⟨rfl,st,rfl⟩;refine⟨_,Z,_,_,Z,Z,⟨by decide,by decide,by decide⟩,_,_,Z,Z,rE (by decide +kernel),Z,?_⟩;exact⟨_,Z⟩
 rintro σ Ak ⟨rfl,st,rfl⟩;have full:Q (.int (Jm.draw ns k j BM)) Ak:=q;unfold Jm.draw at full;rw[ec,et]at full;generalize er:Jm.zW cell j.toNat=B2 at *;refine⟨decide (turn=0/\1000000000000000000<=cell/\0<B2),?_,?_⟩
 .refine ⟨_,Z,Z,_,Z,?_⟩;by_cases h1:turn=0
  .rw [cI (by rw[h1] :V.int turn=V.int 0)];refine lH ⟨_,Z,_,_,Z,Z,⟨by decide,by decide,by decide⟩,_,_,Z,Z,_,Z,?_⟩;by_cases h2:1000000000000000000<=cell
   .rw [cI (show(10:Int) ^ (18:Int).toNat<=cell from h2)];refine lH ⟨_,Z,_,_,Z,Z,_,Z,?_,Z⟩;by_cases h3:0<B2
    .rw [cI h3,cI ⟨h1,h2,h3⟩]
    .rw [ee h3,ee λz=>h3 z.2.2]
   .rw [ee (show ¬ (10:Int) ^ (18:Int).toNat<=cell from h2)];exact cL ⟨(ee λz=>h2 z.2.1).symm,Z⟩
  .rw [ee (λz=>h1 (V.int.inj z))];exact cL ⟨(ee λz=>h1 z.1).symm,Z⟩
 by_cases h:turn=0/\1000000000000000000<=cell/\0<B2
 .rw [cI h];rw[aB h]at full;refine lH ⟨_,Z,_,_,Z,Z,⟨by decide,by decide,by decide⟩,_,_,Z,Z,(by show(0:Int)<_;decide),_,Z,_,_,Z,Z,hm,?_⟩;exact full
 .rw [ee h];rw[aA h]at full;refine cL ?_;refine⟨_,Z,_,_,Z,Z,.inr ⟨by decide,by decide⟩,_,Z,_,_,Z,Z,.inr ⟨by decide,by decide⟩,_,_,Z,Z,_,Z,_,_,Z,Z,.inr ⟨by decide,by decide⟩,_,_,Z,Z,_,_,Z,Z,_,_,Z,Z,(by show(0:Int)<_;decide),?_⟩;refine⟨_,Z,_,_,Z,Z,.inr ⟨by decide,by decide⟩,_,Z,_,_,Z,Z,rE (by decide +kernel),_,_,Z,Z,_,_,Z,Z,(by show(0:Int)<_;decide),?_⟩;unfold Jm.mixed at full;dsimp only at full ⊢;generalize e1:(cell*7919+k*104729+j*1299709+31) % 1000000007=one at *;generalize e2:(one*48271+cell / 1009) % 998244353=two at *;have b1:0<=one % 9973:=kU _ (by decide);have b2:one % 9973<9973:=tV _ (by decide);refine⟨_,Z,_,Z,_,_,Z,Z,(by show(0:Int)<_;decide),_,_,Z,Z,_,_,Z,Z,.inr ⟨by omega,by omega⟩,_,Z,_,_,Z,Z,_,_,Z,Z,(by show(0:Int)<_;decide),?_⟩;refine⟨_,Z,_,_,Z,Z,.inr ⟨by decide,by decide⟩,_,Z,_,_,Z,Z,.inr ⟨by decide,by decide⟩,_,_,Z,Z,_,Z,_,_,Z,Z,rE (by decide +kernel),_,_,Z,Z,_,_,Z,Z,(by show(0:Int)<_;decide),_,Z,_,_,Z,Z,hm,?_⟩;exact full
abbrev qS:Stmt:=top 36
abbrev oN:Cl Str:=["_law_code","_law_size"]
abbrev Jb:Cl Str:=oN.append ["_law_word","_law_at"]
def jZ:aS Jb oN (aC qS):=dD
theorem HJ(F:At K mg "_law_name" qS f fd)(bU:mg "range"=none):Dn P w K mg base 1 "_law_name" oN BH:=by
 refine F.oA jZ λ_ _ _ _ H _ Q E hr h=>?_;obtain⟨⟨c,n,rfl,hc,hn,q⟩⟩:=h;refine⟨_,(@cS.h _ _ _ (ak (aY (i:=2) jZ.nd iw)
  (ak (fu fH rfl (d9 (by rfl) bU (af (qv 1) aj)) (aV (i:=3) jZ.nd) (ak (aY (i:=2) jZ.nd (aM Lp (qv 2) (aU M_ iw (aM iS (qv 0) au))))
  (az (aY (i:=0) jZ.nd (aM eX (qv 0) au)))))
  (az (bB (qv 2)))))),?_⟩
 refine⟨_,Z,_,Z,by omega,by omega,?_⟩;refine jP (lo:=0) (n:=(n:Int).toNat) (λi σ H'=>H'=H/\∃(s1:Option V),σ=[some (.int (c / 26 ^ i)),some (.int n),some (.str (tx (je c i))),s1]) ⟨Z,none,by rw[Int.pow_zero,rj];rfl⟩ ?_ ?_
 .rintro i σ H' hi ⟨rfl,s1,rfl⟩;have hp:(0:Int)<26 ^ i:=Int.pow_pos (by decide);have hd0:0<=c / 26 ^ i:=Eo hc (zJ hp);have hm0:0<=c / 26 ^ i % 26:=kU _ (by decide);have hm1:c / 26 ^ i % 26<26:=tV _ (by decide);refine⟨_,Z,_,Z,_,_,Z,Z,(by show(0:Int)<26;decide),_,_,_,Z,Z,(by decide +kernel),Nz hm0 hm1,?_⟩;refine⟨_,_,Z,Z,?_,?_⟩
  .rw [vm,p5];show i+1<=sizeLine;exact zH (fM (by omega))
  refine⟨_,Z,_,_,Z,Z,qi (by decide) (mQ (by decide +kernel)),Z,some (.int ((0:Int)+(i:Int))),?_⟩;have e1:c / 26 ^ i / 26=c / 26 ^ (i+1):=by rw[Int.ediv_ediv_of_nonneg (zJ hp),Int.pow_succ]
  have e2:(tx (je c i)++tx [97+(c / 26 ^ i % 26).toNat] :Str)=tx (je c (i+1)):=by rw[V9,Qs]
  rw[<-e1,<-e2];rfl
 rintro σ H' ⟨rfl,s1,rfl⟩;refine⟨_,Z,?_⟩;rw[qf];exact q
abbrev j0:Stmt:=top 37
abbrev iN:Cl Str:=["_law_script","_law_k","_law_many"]
abbrev xC:Cl Str:=iN.append ["_law_size","_law_names","_law_at","_law_code"]
def d_:aS xC iN (aC j0):=dD
theorem wm(F:At K mg "_law_many_names" j0 f fd)(bM:Dn P w K mg base 1 "_law_draw" iG (sS K))(oO:Dn P w K mg base 1 "_law_name" oN BH)(bU:mg "range"=none):Dn P w K mg base 2 "_law_many_names" iN (sf K):=by
 refine F.oA d_ λ_ _ _ _ H _ Q E hr h=>?_;obtain⟨⟨a,ms,k,BM,rfl,hS,h63,hk,hm,q⟩⟩:=h;refine⟨_,(@cS.h _ _ _ (ak (aY (i:=3) d_.nd (aM cQ au (bY bM hr (af (qv 0) (af (qv 1) (af au (af au aj)))))))
  (ak (aY (i:=4) d_.nd (jy aj))
  (ak (fu fH rfl (d9 (by rfl) bU (af (qv 2) aj)) (aV (i:=5) d_.nd) (ak (aY (i:=6) d_.nd (bY bM hr (af (qv 0) (af (aM cQ (qv 1) (qv 5)) (af au (af (aM u7 au au) aj))))))
  (ak (yK fH (bf Nb (bY oO hr (af (qv 6) (af (qv 3) aj))) (qv 4) (by with_unfolding_all rfl)) (az (aY (i:=6) d_.nd (aM cQ (qv 6) au))))
  (az (dM (rP u0 uY uZ gF (qv 4) (af (bY oO hr (af (qv 6) (af (qv 3) aj))) aj)))))))
  (az (bB (qv 4))))))),?_⟩
 have P10:Vg 10 10:=⟨by decide,by decide,by decide +kernel⟩
 refine⟨_,Z,_,Z,d8 hS h63 hk (by decide) (by decide) (by decide) λsd _ s0 s1=>⟨_,_,Z,Z,?_⟩⟩;obtain⟨n,en⟩:∃n:Nat,2+sd=(n:Int):=⟨(2+sd).toNat,by omega⟩
 refine⟨(kB 0),λpn Xx=>?_⟩;have g0:=aD Xx (.lst []);refine⟨_,Z,(BM:Int),Z,by omega,by omega,?_⟩;refine jP (lo:=0) (n:=(BM:Int).toNat) (λi σ H'=>aE H H'/\∃(nss:Cl (Cl Nat))(s1 s2:Option V),σ=[some (.ref a),some (.int k),some (.int BM),some (.int (2+sd)),some (.ref pn),s1,s2]/\H' pn=some (.lst (qo nss))/\nss.length=i/\nss.Nodup/\∀x∈nss,fR x/\2<=x.length)
  ⟨g0,[],none,none,Z,ai,Z,wH,λ_ m=>nomatch m⟩ ?_ ?_
 .rintro i σ H' hi ⟨g,nss,s1,s2,rfl,hn,hnl,hnd,hok⟩;have hsl:(qo nss).length=i:=by unfold qo;rw[aH];exact hnl
  refine⟨_,Z,_,Z,_,Z,_,_,Z,Z,_,_,Z,Z,P10,d8 (g.seq hS) h63 (by omega) (by decide) (by decide) (by decide +kernel) λc0 _ c00 c01=>?_⟩;refine⟨λm σ H2=>H2=H'/\∃t:Nat,m=nss.length+1-t/\t<=nss.length/\σ=[some (.ref a),some (.int k),some (.int BM),some (.int (2+sd)),some (.ref pn),some (.int ((0:Int)+(i:Int))),some (.int (c0+(t:Int)))]/\∀j:Nat,j<t->je (c0+(j:Int)) n∈nss,
   ⟨_,Z,0,Z,gP _,by rw[show c0+((0:Nat):Int)=c0 from by omega];rfl,λj hj=>absurd hj (Nat.not_lt_zero _)⟩,?_⟩
  rintro m σ H2 ⟨rfl,t,rfl,ht,rfl,htr⟩;refine⟨_,Z,_,Z,Fv en (by omega) (by omega) ?_⟩;refine⟨_,Z,pn,_,Z,.inl (aI.of hn),Z,Qv nss,?_⟩;show MR _ (V.bl (if false=true then !JM (.str (tx (je (c0+(t:Int)) n))) (qo nss) else JM (.str (tx (je (c0+(t:Int)) n))) (qo nss))) _;rw[aA d7,TJ];refine⟨_,Z,fQ (λc=>?_) (λc=>?_)⟩
  .have hmem:je (c0+(t:Int)) n∈nss:=ff c;have Xy:∀j:Nat,j<t+1->je (c0+(j:Int)) n∈nss:=λj hj=>by
    rcases Nat.lt_succ_iff_lt_or_eq.mp hj with z|z
    .exact htr j z
    .rw [z];exact hmem
   have hle:=Qw (c:=c0) (n:=n) (t:=t+1) (by omega) (by omega) Xy;refine⟨_,λ_ _ z=>z,?_⟩;refine⟨_,Z,_,_,Z,Z,?_⟩;exact⟨_,(by omega:nss.length+1-(t+1)<nss.length+1-t),Z,t+1,Z,hle,by rw[show c0+((t+1:Nat):Int)=c0+(t:Int)+1 from by omega];rfl,Xy⟩
  .have hnm:je (c0+(t:Int)) n∉nss:=qe (mC.mpr c);refine⟨_,Z,.inl ⟨Z,_,aI.of hn⟩,?_⟩;refine⟨_,Z,_,Z,Fv en (by omega) (by omega) ?_⟩;refine⟨pn,qo nss,_,Z,Z,hn,fM (by omega),g.b9 Xx _,nss++[je (c0+(t:Int)) n],_,_,Z,?_,?_,p_ hnd hnm,λx hx=>?_⟩
   .rw [ai];unfold qo;rw[b7];rfl
   .rw [cO,hnl];rfl
   .rcases eE.mp hx with z|z
    .exact hok x z
    .rw [eU.mp z];exact⟨Wc _ (by omega) (by omega),by rw[p5];omega⟩
 rintro σ H' ⟨g,nss,s1,s2,rfl,hn,hnl,hnd,hok⟩;exact⟨_,Z,q pn nss H' g hn Xx (by omega) hnd hok⟩
abbrev qT:Stmt:=top 38
abbrev oQ:Cl Str:=["_law_script","_law_k","_law_j"]
abbrev Jc:Cl Str:=oQ.append ["_law_size"]
def wu:aS Jc oQ (aC qT):=dD
theorem HK(F:At K mg "_law_much" qT f fd)(bM:Dn P w K mg base 1 "_law_draw" iG (sS K)):Dn P w K mg base 2 "_law_much" oQ (Ft K):=by
 refine F.oA wu λ_ _ _ _ H _ Q E hr h=>?_;obtain⟨⟨a,ns,k,j,rfl,hS,h63,hk,hj,hj2,q⟩⟩:=h;refine⟨_,(@cS.h _ _ _ (ak (aY (i:=3) wu.nd (aU (aZ K) (jy (af au (af au (af au (af (aM u7 au au) aj))))) (bY bM hr (af (qv 0) (af (qv 1) (af (qv 2) (af au aj)))))))
  (az (bB (aM cQ au (bY bM hr (af (qv 0) (af (qv 1) (af (aM cQ (qv 2) au) (af (qv 3) aj)))))))))),?_⟩
 refine⟨_,_,Z,Z,⟨by decide,by decide,by decide⟩,(kB 4),λp1 hp1=>?_⟩;have g1:=aD hp1 (.lst [V.int 9,V.int 40,V.int 1000,V.int (10 ^ (9:Int).toNat)]);refine⟨_,Z,_,Z,_,Z,d8 (g1.seq hS) h63 hk hj (by omega) (by decide) λd _ d0 d1=>?_⟩;obtain⟨B,hB,hB0,hB1⟩:∃B:Int,pR [V.int 9,V.int 40,V.int 1000,V.int (10 ^ (9:Int).toNat)] d=some (.int B)/\0<B/\B<=1000000000:=by
  rcases(by omega:d=0\/d=1\/d=2\/d=3)with e|e|e|e
  .exact ⟨9,by rw[e];rfl,by decide,by decide⟩
  .exact ⟨40,by rw[e];rfl,by decide,by decide⟩
  .exact ⟨1000,by rw[e];rfl,by decide,by decide⟩
  .exact ⟨10 ^ (9:Int).toNat,by rw[e];rfl,by decide,by decide⟩
 refine⟨p1,_,_,_,Z,Z,aI.of ai,hB,?_⟩;refine⟨_,Z,_,Z,_,Z,_,_,Z,Z,_,Z,d8 (g1.seq hS) h63 hk (by omega) (by omega) hB0 λe _ e0 e1=>⟨_,_,Z,Z,?_⟩⟩;exact q (1+e) _ (by omega) (by omega) g1
abbrev nF:Stmt:=top 39
abbrev kr:Cl Str:=["_law_script","_law_k","_law_worths"]
abbrev Ci:Cl Str:=kr.append ["_law_spare","_law_amounts_here","_law_order","_law_at","_law_way","_law_amount"]
def cR:aS Ci kr (aC nF):=dD
theorem Be(F:At K mg "_law_amounts" nF f fd)(bM:Dn P w K mg base 1 "_law_draw" iG (sS K))(bU:mg "range"=none)(jz:mg "list"=none)(bg:mg "len"=none)(eY:mg "sum"=none)(Ml:mg "min"=none):Dn P w K mg base 2 "_law_amounts" kr (vj K):=by
 refine F.oA cR λ_ _ _ _ H _ Q E hr h=>?_
 obtain⟨⟨a,b,ms,ws,k,rfl,hS,h63,hk,hW,hl,hw,hp,q⟩⟩:=h
 refine⟨_,(@cS.h _ _ _ (ak (aY (i:=3) cR.nd (aM oS (aN (jR K rfl) (by rfl) eY tT (af (qv 2) aj)) au))
  (ak (nV (i:=4) ["_law_worth"] [none] cR.nd rfl rfl rfl (fG K (qv 2)) (λ_ _ _ _=>(aV (i:=0) (show List.Nodup (["_law_worth"] :Cl Str)from by decide +kernel))) (λ_ _ _ _=>au) rfl (by rfl) (by rfl))
  (ak (aY (i:=5) cR.nd (mh (DG rfl) (by rfl) jz K1 (af (Og (by rfl) bU (af (aN (bL K) (by rfl) bg cU (af (qv 2) aj)) aj)) aj)))
  (ak (jU (bf fK (bY bM hr (af (qv 0) (af (qv 1) (af au (af au aj))))) au (bD _)) (az (aY (i:=5) cR.nd (WW K (qv 5) (Zp Vh au)))) bJ)
  (ak (fu fH rfl (fG K (qv 5)) (aV (i:=6) cR.nd) (ak (aY (i:=7) cR.nd (bY bM hr (af (qv 0) (af (qv 1) (af (aM cQ au (aM h_ au (qv 6))) (af au aj))))))
  (ak (aY (i:=8) cR.nd (aN (MV rfl) (by rfl) Ml PyProof.Rows.boot_min (af (aU (aZ K) (qv 2) (qv 6)) (af (qv 3) aj))))
  (ak (jU (bf fK (qv 7) au (bD _)) (az (aY (i:=8) cR.nd au)) bJ)
  (ak (jU (bf Lo (qv 7) au (bD _)) (az (aY (i:=8) cR.nd (bY bM hr (af (qv 0) (af (qv 1) (af (aM cQ au (aM h_ au (qv 6))) (af (aM cQ (qv 8) au) aj))))))) bJ)
  (ak (Oi (qv 8) (Oj (qv 4) (qv 6) set_list))
  (az (aY (i:=3) cR.nd (aM oS (qv 3) (qv 8))))))))))
  (az (bB (qv 4))))))))),?_⟩
 refine⟨_,Z,b,ws,Z,hW,_,_,Z,Z,?_⟩
 refine⟨_,Z,b,Z,⟨_,hW⟩,λAp Bi=>?_⟩
 refine Nr (K:=K) (xs:=ws.map V.int) (λi out H1=>aE H H1/\out=(List.replicate i (0:Int)).map V.int) (by rw[aH];omega) ⟨aD Bi _,Z⟩ (λi out H1 _ _ hp=>hp.1.seq hW) ?_ ?_
 . rintro i x out H1 hx fk ha ⟨g,e⟩
   refine⟨ha,g.b9 Bi _,?_⟩
   rw[e,List.replicate_succ',b7]
   rfl
 rintro out H1 fk ha ⟨g,e⟩
 rw[aH]at e
 subst e
 refine⟨_,Z,b,_,Z,.inl (g.seq hW),_,Z,λpr hpr=>?_⟩
 refine⟨pr,ws.length,Z,?_,by omega,λpo Xz=>?_⟩
 . rw[ai,aH]
 have gA:=(aD hpr (.rA 0 (((ws.map V.int).length:Nat):Int))).trans (aD Xz (.lst ((L2.upTo ws.length).map V.int)))
 have hA:=gA _ _ ha
 have gB:=g.trans gA
 have hord:upd (upd H1 pr (.rA 0 (((ws.map V.int).length:Nat):Int))) po (.lst ((L2.upTo ws.length).map V.int)) po=some (.lst ((L2.upTo ws.length).map V.int)):=ai
 generalize upd (upd H1 pr (.rA 0 (((ws.map V.int).length:Nat):Int))) po (.lst ((L2.upTo ws.length).map V.int))=H2 at *
 have nd:(L2.upTo ws.length).Nodup:=by unfold L2.upTo;refine List.Pairwise.map _ (λx y h e=>h (by omega)) List.nodup_range
 have rA:∀x∈L2.upTo ws.length,0<=x/\x<(ws.length:Int):=λx hx=>by unfold L2.upTo at hx;obtain⟨i,hi,rfl⟩:=bu.mp hx;have:=tY.mp hi;omega
 refine⟨λσ H3=>aE H H3/\H3 Ap=some (.lst ((List.replicate ws.length (0:Int)).map V.int))/\∃(pq:Addr)(os:Cl Int),σ=[some (.ref a),some (.int k),some (.ref b),some (.int (ws.sum-1)),some (.ref Ap),some (.ref pq),none,none,none]/\pq≠Ap/\H3 pq=some (.lst (os.map V.int))/\os.Nodup/\∀x∈os,0<=x/\x<(ws.length:Int),?_,?_⟩
 . refine⟨_,Z,_,Z,d8 (gB.seq hS) h63 hk (by decide) (by decide) (by decide) λd _ d0 d1=>⟨Z,_,Z,fQ (λc=>?_) (λc=>?_)⟩⟩
   . refine⟨_,Z,_,Z,Z,po,_,Z,aI.of hord,λpz OR=>?_⟩
     have g3:=aD OR (.lst ((L2.upTo ws.length).map V.int).reverse)
     have hzz:pz≠Ap:=λz=>by rw[z,hA]at OR;cases OR
     exact⟨gB.trans g3,g3 _ _ hA,pz,(L2.upTo ws.length).reverse,Z,hzz,by rw[ai,List.map_reverse],List.pairwise_reverse.mpr (List.Pairwise.imp (λh=>cW h) nd),λx hx=>rA x (List.mem_reverse.mp hx)⟩
   . have hpa:po≠Ap:=λz=>by
      have h1:=(aD hpr (.rA 0 (((ws.map V.int).length:Nat):Int))) _ _ ha
      rw[z,h1]at Xz
      cases Xz
     exact⟨gB,hA,po,L2.upTo ws.length,Z,hpa,hord,nd,rA⟩
 rintro σ H3 ⟨g3,OS,pq,os,rfl,hpa,hos,hnd,hrg⟩
 have XA:∀j:Nat,0<=ws.getD j 0:=λj=>by
  by_cases h:j<ws.length
  .exact hw _ (mem_getD h)
  .rw [dP,rX (by omega)];exact gR 0
 have rep:∀j:Nat,(List.replicate ws.length (0:Int)).getD j 0=0:=λj=>by rw[dP,yl];split <;> rfl
 have rsm:∀n:Nat,(List.replicate n (0:Int)).sum=0:=λn=>by
  induction n with
  | zero=>rfl
  | succ n ih=>rw[u5,bV,ih];rfl
 refine⟨_,Z,pq,Z,⟨_,aI.of hos⟩,?_⟩
 refine nN (xs:=os.map V.int) (λi σ H4=>aE H H4/\H4 pq=some (.lst (os.map V.int))/\∃(as:Cl Int)(sp:Int)(s1 s2 s3:Option V),σ=[some (.ref a),some (.int k),some (.ref b),some (.int sp),some (.ref Ap),some (.ref pq),s1,s2,s3]/\H4 Ap=some (.lst (as.map V.int))/\as.length=ws.length/\
   (∀j:Nat,0<=as.getD j 0/\as.getD j 0<=ws.getD j 0)/\sp=ws.sum-1-as.sum/\0<=sp/\∀j:Nat,((j:Nat):Int)∉os.take i->as.getD j 0=0)
  ⟨g3,hos,_,ws.sum-1,none,none,none,Z,OS,jh,(λj=>by rw[rep];exact⟨gR 0,XA j⟩),by rw[rsm];omega,by omega,λj _=>rep j⟩ ?_ ?_ ?_
 . rintro i σ H4 _ ⟨_,h,_⟩
   exact aI.of h
 . rintro i x σ H4 hx ⟨g4,hq4,as,sp,s1,s2,s3,rfl,has,hal,hab,rC,XC,hun⟩
   rw[cz]at hx
   obtain⟨at',hat,rfl⟩:=lE.mp hx
   obtain⟨t0,t1⟩:=hrg at' (cg hat)
   obtain⟨jt,hjt⟩:∃jt:Nat,((jt:Nat):Int)=at':=⟨at'.toNat,by omega⟩
   subst hjt
   have hjl:jt<ws.length:=by omega
   have hnot:((jt:Nat):Int)∉os.take i:=λm=>by have hi:=(dW.mp hat).1;obtain⟨j,hj,ej⟩:=List.mem_iff_getElem.mp m;rw[List.getElem_take]at ej;rw[jN]at hj;have e2:=(dW.mp hat).2;have:=(List.getElem_inj hnd).mp (ej.trans e2.symm);omega
   have hz:=hun jt hnot
   refine⟨_,Z,_,Z,_,Z,_,_,Z,Z,.inl ⟨by decide,by decide⟩,_,_,Z,Z,d8 (g4.seq hS) h63 hk (by omega) (by omega) (by decide) λway _ w0 w1=>?_⟩
   have hwj:(ws.map V.int)[jt]?=some (.int (ws.getD jt 0)):=by rw[cz,dP,a_ hjl];rfl
   refine⟨_,Z,_,Z,b,_,((jt:Nat):Int),_,Z,Z,g4.seq hW,gG hwj,_,Z,_,_,Z,?_⟩
   have hm:∀m:Int,m=(if sp<ws.getD jt 0 then sp else ws.getD jt 0)->0<=m/\m<=sp/\m<=ws.getD jt 0:=λm e=>by have:=XA jt;split at e <;> omega
   obtain⟨m0,m1,m2⟩:=hm _ rfl
   generalize (if sp<ws.getD jt 0 then sp else ws.getD jt 0)=m at *
   refine⟨λσ H5=>H4=H5/\∃m:Int,0<=m/\m<=sp/\m<=ws.getD jt 0/\σ=[some (.ref a),some (.int k),some (.ref b),some (.int sp),some (.ref Ap),some (.ref pq),some (.int (jt:Int)),some (.int way),some (.int m)],?_,?_⟩
   . refine⟨_,Z,Z,_,Z,fQ (λc=>?_) (λc=>?_)⟩
     . exact⟨Z,0,gR 0,XC,XA jt,Z⟩
     . exact⟨Z,m,m0,m1,m2,Z⟩
   rintro σ H5 ⟨rfl,n,n0,n1,n2,rfl⟩
   refine⟨λσ H5=>H4=H5/\∃m:Int,0<=m/\m<=sp/\m<=ws.getD jt 0/\σ=[some (.ref a),some (.int k),some (.ref b),some (.int sp),some (.ref Ap),some (.ref pq),some (.int (jt:Int)),some (.int way),some (.int m)],?_,?_⟩
   . refine⟨_,Z,_,_,Z,Z,_,Z,fQ (λc=>?_) (λc=>?_)⟩
     . refine⟨_,Z,_,Z,_,Z,_,_,Z,Z,.inl ⟨by decide,by decide⟩,_,_,Z,Z,_,Z,_,_,Z,Z,d8 (g4.seq hS) h63 hk (by omega) (by omega) (by omega) λd _ d0 d1=>⟨Z,d,d0,by omega,by omega,Z⟩⟩
     . exact⟨Z,n,n0,n1,n2,Z⟩
   rintro σ H5 ⟨rfl,o,o0,o1,o2,rfl⟩
   have Rm:jt<as.length:=by omega
   refine⟨_,Z,_,Z,_,Z,Ap,_,((jt:Nat):Int),jt,Z,Z,has,?_,?_⟩
   . unfold xW
     rw[aB t0,aB (by rw[aH];omega)]
     exact fY some (by omega)
   refine⟨_,Z,_,Z,_,_,Z,Z,g4.b9 Bi _,?_,as.set jt o,sp-o,_,_,_,Z,?_,by rw[jI];exact hal,λj=>?_,?_,by omega,λj hj=>?_⟩
   . rw[ay hpa]
     exact hq4
   . rw[ai,List.map_set]
   . rw[yy as jt j o Rm]
     split
     . rename_i ej
       rw[ej]
       exact⟨o0,o2⟩
     . exact hab j
   . rw[sum_set as jt o Rm,hz]
     omega
   . rw[Lf,hat]at hj
     have h1:((j:Nat):Int)∉os.take i:=λm=>hj (yo _ m)
     have h2:j≠jt:=λe=>hj (gi _ (by rw[e];exact eU.mpr rfl))
     rw[yy as jt j o Rm,aA h2]
     exact hun j h1
 rintro σ H4 ⟨g4,hq4,as,sp,s1,s2,s3,rfl,has,hal,hab,rC,XC,hun⟩
 exact⟨_,Z,q Ap as H4 g4 has Bi ⟨hal,λj=>(hab j).1,λj=>(hab j).2,by omega⟩⟩
abbrev sJ:Stmt:=top 41
abbrev nG:Cl Str:=["_law_found"]
abbrev Mm:Cl Str:=nG
def Jd:aS Mm nG (aC sJ):=dD
def Je(F:At K mg "_law_int" sJ f fd)(bH:mg "isinstance"=none)(nE:mg "int"=none)(HL:mg "bool"=none):Dn P w K mg base 1 "_law_int" nG LD:=by refine F.oA Jd λ_ _ _ _ H _ Q E hr h=>?_;obtain⟨i,rfl,q⟩:=h;refine⟨_,(@cS.h _ _ _ (az (bB (vR (aN (c7 K) (by rfl) bH uS (af (qv 0) (af (kZ EJ rfl nE) aj))) (vP (WU (aN (c7 K) (by rfl) bH uS (af (qv 0) (af (kZ PyProof.Rows.boot_bool rfl HL) aj))))))))),?_⟩;refine⟨_,Z,_,_,_,_,Z,eK.int i,gk,_,Z,lH ?_⟩;refine⟨_,Z,_,_,_,_,Z,eK.int i,Fe,_,Z,?_⟩;exact q
abbrev pQ:Stmt:=top 40
abbrev j5:Cl Str:=["_law_top","_law_bottom"]
abbrev HM:Cl Str:=j5.append ["_law_one","_law_other"]
def lD:aS HM j5 (aC pQ):=dD
theorem DX(F:At K mg "_law_least" pQ f fd)(Mp:mg "abs"=none):Dn P w K mg base 1 "_law_least" j5 wX:=by
 refine F.oA lD λ_ _ _ _ H _ Q E hr h=>?_;obtain⟨⟨t,b,rfl,hb,hb2,q⟩⟩:=h;refine⟨_,(@cS.h _ _ _ (ak (aY (i:=2) lD.nd (aN Py (by rfl) Mp PyProof.Rows.boot_abs (af (qv 0) aj)))
  (ak (aY (i:=3) lD.nd (qv 1))
  (ak (yK fH (bf uh (qv 3) au (bD _)) (az (Oh (i:=2) (j:=3) rfl lD.nd rfl rfl (by decide) rfl rfl (af (qv 3) (af (aM iS (qv 2) (qv 3)) aj)) (by rfl))))
  (az (bB (m_ (af (aM eX (qv 0) (qv 2)) (af (aM eX (qv 1) (qv 2)) aj))))))))),?_⟩
 refine⟨_,Z,_,Z,_,Z,?_⟩;refine⟨λm σ H'=>∃x y:Int,m=y.toNat/\σ=[some (.int t),some (.int b),some (.int x),some (.int y)]/\H'=H/\0<=x/\0<=y/\Jm.cf x y=Jm.cf b t,
  ⟨_,(if t<0 then -t else t),b,Z,Z,Z,(by split <;> omega),zJ hb,(by rw[Jm.JQ,Jm.VY])⟩,?_⟩
 rintro m σ H' ⟨x,y,rfl,rfl,rfl,hx,hy,e⟩;refine⟨_,Z,Z,_,Z,fQ (λc=>?_) (λc=>?_)⟩
 .have c1:¬ V.int y=V.int 0:=qe (by simpa using c);have c':0<y:=by have:y≠0:=λz=>c1 (by rw[z]);omega
  refine⟨_,λ_ _ z=>z,?_⟩;refine⟨_,Z,_,Z,_,Z,_,_,Z,Z,c',_,_,Z,?_⟩;have h1:0<=x % y:=kU _ (by omega);have h2:x % y<y:=tV _ c';exact⟨_,(by omega:(x % y).toNat<y.toNat),y,x % y,Z,Z,Z,hy,h1,(Jm.BF x y c').trans e⟩
 .have c1:V.int y=V.int 0:=by simpa using c
  have ey:y=0:=V.int.inj c1;subst ey;rw[Jm.JP x hx]at e;subst e;have g0:0<Jm.cf b t:=Jm.zV _ _ (.inl hb);have g1:Jm.Sz 9000 (Jm.cf b t):=hb2.dvd hb (zJ g0) (Jm.ou b t);have gd:∀i,wU i (Jm.cf b t):=λi=>qi g0 g1;refine⟨_,Z,_,Z,_,_,Z,Z,gd _,_,Z,_,Z,_,_,Z,Z,gd _,(kB 2),λp hp=>?_⟩;refine q p _ (aD hp _) ?_;rw[ai];show some (HO.tup [V.int (t / Jm.cf b t),V.int (b / Jm.cf b t)])=some (HO.tup [V.int (Jm.fr t b).num,V.int ((Jm.fr t b).den:Int)]);rw[Jm.Nj t b hb,Jm.Ff t b hb]
abbrev uP:Stmt:=top 42
abbrev oX:Cl Str:=["_law_found","_law_top","_law_bottom"]
abbrev OX:Cl Str:=oX
def Mq:aS OX oX (aC uP):=dD
def Mr(F:At K mg "_law_is" uP f fd)(iB:Dn P w K mg base 1 "_law_int" nG LD)(jd:Dn P w K mg base 1 "_law_least" j5 wX)(bH:mg "isinstance"=none)(gX:mg "tuple"=none)(bg:mg "len"=none):Dn P w K mg base 2 "_law_is" oX LG:=by
 refine F.oA Mq λ_ _ _ _ H _ Q E hr h=>?_
 obtain⟨⟨p,q,t,b,rfl,hp,h0,h1,e,hq⟩⟩:=h
 refine⟨_,(@cS.h _ _ _ (ak (cK (jD (bW.pt (k7 (fB (fq (aN (c7 K) (by rfl) bH uS (af (qv 0) (af (kZ KY rfl gX) aj))))) (jV (bf uh (aN (bL K) (by rfl) bg cU (af (qv 0) aj)) au (bD _)))))) (az (bB iM)) bJ)
  (ak (cK (jD (bW.pt (k7 (fB (fq (bY iB hr (af (aU (cj K) (qv 0) au) aj)))) (jV (fB (fq (bY iB hr (af (aU (cj K) (qv 0) au) aj)))))))) (az (bB iM)) bJ)
  (az (bB (tF (Tr K hr.units) (qv 0) (bY jd hr (af (qv 1) (af (qv 2) aj))) (bD _))))))),?_⟩
 refine⟨false,?_,cL ?_⟩
 . refine⟨_,Z,_,_,_,_,Z,eK.tup hp,gk,_,Z,cL ?_⟩
   exact⟨_,Z,_,_,Z,.inr (bR.of hp),Z,_,Z,Z,Z⟩
 refine⟨false,?_,cL ?_⟩
 . refine⟨_,Z,p,_,_,_,Z,Z,bR.of hp,Z,_,Z,_,Z,cL ?_⟩
   exact⟨_,Z,p,_,_,_,Z,Z,bR.of hp,Z,_,Z,_,Z,Z,Z⟩
 refine⟨_,Z,_,Z,_,Z,CM h0 h1 λr H1 g1 hr1=>?_⟩
 rw[<-e]at hr1
 refine⟨_,_,Nt (g1 _ _ hp),Nt hr1,x6 _ _,x6 _ _,?_⟩
 rw[Ql]
 exact hq H1 g1
abbrev kI:Stmt:=top 44
abbrev ju:Cl Str:=["_law_found","_law_parts"]
abbrev y9:Cl Str:=ju.append ["_law_at","_law_one"]
def kJ:aS y9 ju (aC kI):=dD
theorem xD(F:At K mg "_law_part_list" kI f fd)(iB:Dn P w K mg base 1 "_law_int" nG LD)(bH:mg "isinstance"=none)(jz:mg "list"=none)(gX:mg "tuple"=none)(oM:mg "str"=none)(bU:mg "range"=none)(bg:mg "len"=none):Dn P w K mg base 2 "_law_part_list" ju (Al K):=by
 refine F.oA kJ λ_ _ _ _ H _ Q E hr h=>?_;obtain⟨⟨r,l,ws,us,ps,rfl,hr0,hP,hl,hR,hN,hle,q⟩⟩:=h;refine⟨_,(@cS.h _ _ _ (ak (cK (jD (bW.pt (k7 (fB (fq (aN (c7 K) (by rfl) bH uS (af (qv 0) (af (kZ K1 rfl jz) aj))))) (jV (bf uh (aN (bL K) (by rfl) bg cU (af (qv 0) aj)) (aN (bL K) (by rfl) bg cU (af (qv 1) aj)) (bD _)))))) (az (bB iM)) bJ)
  (ak (fu fH rfl (d9 (by rfl) bU (af (aN (bL K) (by rfl) bg cU (af (qv 1) aj)) aj)) (aV (i:=2) kJ.nd) (ak (aY (i:=3) kJ.nd (aU (aZ K) (qv 0) (qv 2)))
  (ak (cK (jD (bW.pt (k7 (fB (fq (aN (c7 K) (by rfl) bH uS (af (qv 3) (af (kZ KY rfl gX) aj))))) (jV (bf uh (aN (bL K) (by rfl) bg cU (af (qv 3) aj)) au (bD _)))))) (az (bB iM)) bJ)
  (ak (cK (jD (bW.pt (k7 (fB (fq (aN (c7 K) (by rfl) bH uS (af (aU (cj K) (qv 3) au) (af (kZ K6 rfl oM) aj))))) (jV (fB (fq (aN (c7 K) (by rfl) bH uS (af (aU (cj K) (qv 3) au) (af (kZ K6 rfl oM) aj))))))))) (az (bB iM)) bJ)
  (ak (cK (jD (bW.pt (k7 (fB (fq (bY iB hr (af (aU (cj K) (qv 3) au) aj)))) (jV (fB (fq (bY iB hr (af (aU (cj K) (qv 3) au) aj)))))))) (az (bB iM)) bJ)
  (az (cK (bf (Tt K hr.units) (qv 3) (m_ (af (aU (xg K) (aU (aZ K) (qv 1) (qv 2)) au) (af (aU (xg K) (aU (aZ K) (qv 1) (qv 2)) au) (af (aU (xg K) (aU (aZ K) (qv 1) (qv 2)) au) (af (aU (xg K) (aU (aZ K) (qv 1) (qv 2)) au) aj))))) (bD _)) (az (bB iM)) bJ)))))))
  (az (bB iM))))),?_⟩
 have hwl:=hP.length;have Xa:=hR.len;refine⟨false,?_,cL ?_⟩
 .refine ⟨_,Z,_,_,_,_,Z,eK.lst hr0,gk,_,Z,cL ?_⟩;refine⟨_,Z,_,_,Z,.inl (aI.of hr0),_,Z,_,_,Z,.inl hl,Z,_,Z,?_,Z⟩;show(!decide (V.int (ws.length:Int)=V.int (us.length:Int)))=false;rw[cI (by rw[hwl,Xa])];rfl
 refine⟨_,Z,l,us,Z,.inl hl,_,Z,by omega,by omega,?_⟩;refine jP (lo:=0) (n:=((us.length:Nat):Int).toNat) (λi σ H'=>aE H H'/\∃(s1 s2:Option V),σ=[some (.ref r),some (.ref l),s1,s2]) ⟨aE.refl _,none,none,Z⟩ ?_ ?_
 .rintro i σ H' hi ⟨g,s1,s2,rfl⟩;have e0:(0:Int)+(i:Int)=((i:Nat):Int):=by omega
  rw[e0];have hi':i<ps.length:=by omega
  have ep:=a_ hi';obtain⟨t,et,ht⟩:=hP.get ep;obtain⟨u,xs,eu,hu,x0,x1,x2,x3⟩:=(hR.mono g).at_ i _ ep;have ht':=g _ _ ht;obtain⟨n1,n2⟩:=hN _ (qW hi');have hr1:=g _ _ hr0;have hl1:=g.seq hl;refine⟨_,Z,_,Z,r,ws,i,.ref t,Z,Z,aI.of hr1,gG et,?_⟩;refine⟨false,⟨_,Z,_,_,_,_,Z,eK.tup ht',gk,_,Z,cL ⟨_,Z,_,_,Z,.inr (bR.of ht'),Z,_,Z,Z,Z⟩⟩,cL ?_⟩;refine⟨false,⟨_,Z,t,_,_,_,Z,Z,bR.of ht',Z,_,_,_,_,Z,eK.str _,gk,_,Z,cL ⟨_,Z,t,_,_,_,Z,Z,bR.of ht',Z,_,_,_,_,Z,eK.str _,gk,_,Z,Z,Z⟩⟩,cL ?_⟩;refine⟨false,⟨_,Z,t,_,_,_,Z,Z,bR.of ht',Z,_,Z,_,Z,cL ⟨_,Z,t,_,_,_,Z,Z,bR.of ht',Z,_,Z,_,Z,Z,Z⟩⟩,cL ?_⟩;refine⟨_,Z,_,Z,_,Z,l,us,i,.ref u,Z,Z,hl1,gG eu,hu.ix (i:=0) x0 ?_⟩;refine⟨_,Z,_,Z,l,us,i,.ref u,Z,Z,hl1,gG eu,hu.ix (i:=1) x1 ?_⟩;refine⟨_,Z,_,Z,l,us,i,.ref u,Z,Z,hl1,gG eu,hu.ix (i:=2) x2 ?_⟩;refine⟨_,Z,_,Z,l,us,i,.ref u,Z,Z,hl1,gG eu,hu.ix (i:=3) x3 ?_⟩;refine⟨(kB 4),λp1 hp1=>?_⟩;have g1:=aD hp1 (uz ps[i]);refine⟨_,_,J4 (g1 _ _ ht'),J4 (p:=ps[i]) ai,ya n1 n2,ya n1 n2,_,Z,?_⟩;rw[QH];exact cL ⟨g.trans g1,_,_,Z⟩
 rintro σ H' ⟨g,s1,s2,rfl⟩;exact q H' g
abbrev j6:Stmt:=top 43
abbrev iO:Cl Str:=["_law_found","_law_owners","_law_tops","_law_bottom"]
abbrev xE:Cl Str:=iO.append ["_law_due","_law_at","_law_pair"]
def iC:aS xE iO (aC j6):=dD
theorem wA(F:At K mg "_law_share_list" j6 f fd)(jd:Dn P w K mg base 1 "_law_least" j5 wX)(mw:Dn P w K mg base 2 "_law_is" oX LG)(bH:mg "isinstance"=none)(jz:mg "list"=none)(gX:mg "tuple"=none)(oM:mg "str"=none)(bU:mg "range"=none)(bg:mg "len"=none):Dn P w K mg base 3 "_law_share_list" iO (GR K):=by
 refine F.oA iC λ_ _ _ _ H _ Q E hr h=>?_;obtain⟨⟨r,lo,lt,ws,own,tops,b,rfl,hr0,hS,ho,ht,hlen,hle,b0,bz,q⟩⟩:=h;refine⟨_,(@cS.h _ _ _ (ak (Gz (i:=4) ["_law_at","_law_tops","_law_owners","_law_bottom"] [none,some 2,some 1,some 3] iC.nd rfl rfl rfl (d9 (by rfl) bU (af (aN (bL K) (by rfl) bg cU (af (qv 2) aj)) aj)) (λ_ _ _ _=>(aV (i:=0) (show List.Nodup (["_law_at","_law_tops","_law_owners","_law_bottom"] :Cl Str)from by decide +kernel))) (λ_ _ _ _=>(m_ (af (aU (aZ K) (qv 2) (qv 0)) (af (bY jd hr (af (aU (aZ K) (qv 1) (qv 0)) (af (qv 3) aj))) aj)))) (λ_ _ _ _=>(bf mL (aU (aZ K) (qv 1) (qv 0)) au (bD _))) rfl (by rfl) (by rfl))
  (ak (cK (jD (bW.pt (k7 (fB (fq (aN (c7 K) (by rfl) bH uS (af (qv 0) (af (kZ K1 rfl jz) aj))))) (jV (bf uh (aN (bL K) (by rfl) bg cU (af (qv 0) aj)) (aN (bL K) (by rfl) bg cU (af (qv 4) aj)) (bD _)))))) (az (bB iM)) bJ)
  (ak (fu fH rfl (d9 (by rfl) bU (af (aN (bL K) (by rfl) bg cU (af (qv 4) aj)) aj)) (aV (i:=5) iC.nd) (ak (aY (i:=6) iC.nd (aU (aZ K) (qv 0) (qv 5)))
  (ak (cK (jD (bW.pt (k7 (fB (fq (aN (c7 K) (by rfl) bH uS (af (qv 6) (af (kZ KY rfl gX) aj))))) (k7 (bf uh (aN (bL K) (by rfl) bg cU (af (qv 6) aj)) au (bD _)) (jV (bf uh (aU (cj K) (qv 6) au) (aU (cj K) (aU (aZ K) (qv 4) (qv 5)) au) (bD _))))))) (az (bB iM)) bJ)
  (az (cK (bW.pt (k7 (fB (fq (aN (c7 K) (by rfl) bH uS (af (aU (cj K) (qv 6) au) (af (kZ K6 rfl oM) aj))))) (jV (fB (fq (bY mw hr (af (aU (cj K) (qv 6) au) (af (aU (cj K) (aU (cj K) (aU (aZ K) (qv 4) (qv 5)) au) au) (af (aU (cj K) (aU (cj K) (aU (aZ K) (qv 4) (qv 5)) au) au) aj))))))))) (az (bB iM)) bJ)))))
  (az (bB iM)))))),?_⟩
 have tml:(tops.map V.int).length=tops.length:=aH ..;have OY:(own.map V.str).length=own.length:=aH ..;refine⟨_,Z,lt,_,Z,.inl ht,_,Z,by omega,by omega,λAp Bi=>?_⟩;refine BK (J:=xT 0 _) (n:=tops.length) 0 (λi out H1=>aE H H1/\jF H1 out (cT (own.take i) (tops.take i) b)) (by omega) ⟨aD Bi _,.nil⟩ (λi out H1 hi _ _=>by show i<((tops.map V.int).length:Int).toNat;omega) (λout H1 _ _=>by show((tops.map V.int).length:Int).toNat<=tops.length;omega) ?_ ?_
 .rintro i x out H1 H2 hi fk ha ⟨g,S⟩ ⟨rfl,rfl⟩;have e0:(0:Int)+(i:Int)=((i:Nat):Int):=by omega
  rw[e0];have et:=a_ hi;have eo:=a_ (show i<own.length from by omega);have et':(tops.map V.int)[i]?=some (.int tops[i]):=by rw[cz,et];rfl
  have eo':(own.map V.str)[i]?=some (.str own[i]):=by rw[cz,eo];rfl
  have So:cT (own.take (i+1)) (tops.take (i+1)) b=cT (own.take i) (tops.take i) b++(if 0<tops[i] then[(own[i],Jm.fr tops[i] b)] else[]):=by
   unfold cT;rw[take_snoc eo,take_snoc et,List.zip_append (by rw[jN,jN];omega),EI];congr 1;show List.filterMap _ [(own[i],tops[i])]=_;rw[oY];by_cases c:0<tops[i]
   .simp [c]
   .simp [c]
  refine⟨_,Z,_,Z,lt,_,i,_,Z,Z,g.seq ht,gG et',_,_,Z,Z,_,Z,fQ (λc=>?_) (λc=>?_)⟩
  .have c':0<tops[i] :=ff c;rw[aB c']at So;refine⟨_,Z,_,Z,lo,_,i,_,Z,Z,g.seq ho,gG eo',_,Z,_,Z,lt,_,i,_,Z,Z,g.seq ht,gG et',_,Z,CM b0 bz λp2 H3 g3 hp2=>⟨(kB 2),λp3 hp3=>?_⟩⟩;have g4:=aD hp3 (.tup [.str own[i],.ref p2]);have Ss:=g3.trans g4;refine⟨Ss _ _ ha,(g.trans Ss).b9 Bi _,?_⟩;rw[So];exact((S.mono Ss.tups).snoc ai (g4 _ _ hp2)).mono (iZ (.inr ⟨_,Ss _ _ ha,Z⟩))
  .have c':¬ 0<tops[i] :=qe (mC.mpr c);rw[aA c',pU]at So;exact⟨ha,g,by rw[So];exact S⟩
 rintro du H1 fk ha ⟨g1,D1⟩;rw[cG,Q7]at D1;have hr1:=g1 _ _ hr0;have HN:=hS.mono g1.tups;have l1:=HN.length;have l2:=D1.length;have l3:(cT own tops b).length<=1000:=by unfold cT;refine dj (List.length_filterMap_le _ _) ?_;rw[List.length_zip];omega
 have ab2:∀x q,(x,q)∈cT own tops b->Jm.Sz 9000 (q.den:Int):=λx q m=>DI b0 bz m;generalize cT own tops b=sh at *;refine⟨false,?_,cL ?_⟩
 .refine ⟨_,Z,_,_,_,_,Z,eK.lst hr1,gk,_,Z,cL ?_⟩;refine⟨_,Z,_,_,Z,.inl (aI.of hr1),_,Z,_,_,Z,.inl (aI.of ha),Z,_,Z,?_,Z⟩;show(!decide (V.int (ws.length:Int)=V.int (du.length:Int)))=false;rw[cI (by rw[l1,l2])];rfl
 refine⟨_,Z,Ap,du,Z,.inl (aI.of ha),_,Z,by omega,by omega,?_⟩;refine jP (lo:=0) (n:=((du.length:Nat):Int).toNat) (λi σ H'=>aE H1 H'/\∃(s1 s2:Option V),σ=[some (.ref r),some (.ref lo),some (.ref lt),some (.int b),some (.ref Ap),s1,s2]) ⟨aE.refl _,none,none,Z⟩ ?_ ?_
 .rintro i σ H' hi ⟨g,s1,s2,rfl⟩;have e0:(0:Int)+(i:Int)=((i:Nat):Int):=by omega
  rw[e0];have hi':i<sh.length:=by omega
  obtain⟨xq,XD⟩:∃xq,sh[i]?=some xq:=⟨_,a_ hi'⟩
  obtain⟨x,qq⟩:=xq;obtain⟨r1,f1,a1,a2,a3⟩:=HN.get XD;obtain⟨r2,f2,b1,b2,b3⟩:=D1.get XD;have a2':=g _ _ a2;have a3':=g _ _ a3;have XE:=g _ _ b2;have b3':=g _ _ b3;have Ms:=g _ _ ha;refine⟨_,Z,_,Z,r,ws,i,.ref r1,Z,Z,aI.of (g _ _ hr1),gG a1,?_⟩;refine⟨false,⟨_,Z,_,_,_,_,Z,eK.tup a2',gk,_,Z,cL ⟨_,Z,_,_,Z,.inr (bR.of a2'),Z,_,Z,cL ?_⟩⟩,cL ?_⟩
  .refine ⟨_,Z,r1,_,_,_,Z,Z,bR.of a2',Z,_,Z,_,Z,Ap,du,i,.ref r2,Z,Z,aI.of Ms,gG b1,r2,_,_,_,Z,Z,bR.of XE,Z,Z,_,Z,?_,Z⟩;show(!decide (V.str x=V.str x))=false;rw[cI rfl];rfl
  refine⟨_,Z,r1,_,_,_,Z,Z,bR.of a2',Z,_,_,_,_,Z,eK.str _,gk,_,Z,cL ?_⟩;refine⟨_,Z,r1,_,_,_,Z,Z,bR.of a2',Z,?_⟩;refine⟨_,Z,_,Z,Ap,du,i,.ref r2,Z,Z,aI.of Ms,gG b1,r2,_,_,_,Z,Z,bR.of XE,Z,f2,_,_,_,Z,Z,bR.of b3',Z,?_⟩;refine⟨_,Z,_,Z,Ap,du,i,.ref r2,Z,Z,aI.of Ms,gG b1,r2,_,_,_,Z,Z,bR.of XE,Z,f2,_,_,_,Z,Z,bR.of b3',Z,?_⟩;exact Nu a3' (Jm.den_pos _) (ab2 _ _ (cg XD)) (Jm.Tn _).symm λH3 g3=>⟨_,Z,cL ⟨g.trans g3,_,_,Z⟩⟩
 rintro σ H' ⟨g,s1,s2,rfl⟩;exact q H' (g1.trans g)
abbrev j7:Stmt:=top 45
abbrev iP:Cl Str:=["_law_owners","_law_parts","_law_numbers"]
abbrev xF:Cl Str:=iP
def wB:aS xF iP (aC j7):=dD
theorem wC(F:At K mg "_law_own_stakes" j7 f fd)(bg:mg "len"=none)(bU:mg "range"=none)(eY:mg "sum"=none):Dn P w K mg base 1 "_law_own_stakes" iP (yg K):=by
 refine F.oA wB λ_ _ _ _ H _ Q E hr h=>?_;obtain⟨⟨lo,lp,ln,own,us,ps,ns,rfl,ho,hp,hP,hn,hnl,hl,fk,q⟩⟩:=h;refine⟨_,(@cS.h _ _ _ (az (bB (gc ["_law_owner","_law_parts","_law_numbers"] [none,some 1,some 2] rfl (fG K (qv 0)) (λ_ _ _ _=>(aV (i:=0) (show List.Nodup (["_law_owner","_law_parts","_law_numbers"] :Cl Str)from by decide +kernel))) (λ_ _ _ _=>(aN (jR K rfl) (by rfl) eY tT (af (Gw ["_law_at","_law_parts","_law_owner","_law_numbers"] [none,some 1,some 0,some 2] rfl (d9 (by rfl) bU (af (aN (bL K) (by rfl) bg cU (af (qv 1) aj)) aj)) (λ_ _ _ _=>(aV (i:=0) (show List.Nodup (["_law_at","_law_parts","_law_owner","_law_numbers"] :Cl Str)from by decide +kernel))) (λ_ _ _ _=>(aU (aZ K) (qv 3) (qv 0))) (λ_ _ _ _=>(bf fK (aU (cj K) (aU (aZ K) (qv 1) (qv 0)) au) (qv 2) (bD _))) rfl (by rfl)) aj))) rfl (by rfl))))),?_⟩;have ul:=hP.length;have OY:(own.map V.str).length=own.length:=aH ..;refine⟨_,Z,lo,Z,⟨_,ho⟩,λl0 Dv=>?_⟩;refine ia (J:=xS K lo) (n:=own.length) 0 (λi out H'=>aE H H'/\out=((own.take i).map (i_ ps ns)).map V.int) (by omega) ⟨aD Dv _,Z⟩ (λi o H' hi _ hp=>⟨_,_,hp.1.seq ho,a_ (by rw[OY];exact hi)⟩) (λo H' _ hp=>⟨_,hp.1.seq ho,by rw[OY];exact aO _⟩) ?_ ?_
 .rintro i y out H1 H2 hi ab3 ha ⟨g,e⟩ ⟨rfl,hy⟩;have eo:=a_ hi;generalize own[i]=o at eo;have ey:=hy _ (g.seq ho);rw[cz,eo]at ey;cases ey;refine⟨_,Z,lp,_,Z,.inl (g.seq hp),_,Z,by omega,by omega,λl1 hl1=>?_⟩;refine BK (J:=xT 0 _) (n:=ps.length) 0 (λj out H'=>aE H2 H'/\out=((List.zip (ps.take j) (ns.take j)).filterMap λx=>if x.1.ow=o then some x.2 else none).map V.int) (by omega) ⟨aD hl1 _,Z⟩ (λj o H' hj _ _=>by show j<((us.length:Nat):Int).toNat;omega) (λo H' _ _=>by show((us.length:Nat):Int).toNat<=ps.length;omega) ?_ ?_
  .rintro j x ab4 H3 H4 hj Cb ha1 ⟨g1,e1⟩ ⟨rfl,rfl⟩;have e0:(0:Int)+(j:Int)=((j:Nat):Int):=by omega
   rw[e0];have ep:=a_ hj;generalize ps[j]=p at ep;have en:=a_ (show j<ns.length by omega);generalize ns[j]=v at en;obtain⟨r,er,hr⟩:=hP.get ep;have gg:=g.trans g1;have env:(ns.map V.int)[j]?=some (.int v):=by rw[cz,en];rfl
   have es:(List.zip (ps.take (j+1)) (ns.take (j+1))).filterMap (λx=>if x.1.ow=o then some x.2 else none)=(List.zip (ps.take j) (ns.take j)).filterMap (λx=>if x.1.ow=o then some x.2 else none)++(if p.ow=o then[v] else[]):=by
    rw[take_snoc ep,take_snoc en,List.zip_append (by rw[jN,jN];omega),EI];congr 1;show List.filterMap _ [(p,v)]=_;rw[oY];by_cases c:p.ow=o
    .simp [c]
    .simp [c]
   refine⟨_,Z,_,Z,lp,_,_,_,Z,Z,gg.seq hp,bh er,r,_,_,_,Z,Z,bR.of (gg _ _ hr),bh (j:=1) rfl,_,Z,Z,_,Z,fQ (λc=>?_) (λc=>?_)⟩
   .rw [aB (V.str.inj (ff c))]at es;refine⟨_,Z,_,Z,ln,_,_,_,Z,Z,gg.seq hn,bh env,ha1,g1.b9 hl1 _,?_⟩;rw[es,e1,b7];rfl
   .rw [aA (λz=>c (cI (by rw[z]))),pU]at es;exact⟨ha1,g1,by rw[es,e1]⟩
  rintro ab4 H3 _ ha1 ⟨g1,e1⟩;rw[cG,<-hnl,cG]at e1;subst e1;refine⟨l1,_,Z,aI.of ha1,g1 _ _ ha,(g.trans g1).b9 Dv _,?_⟩;subst e;rw[take_snoc eo,b7,b7];rfl
 rintro out H1 _ ha ⟨g,e⟩;rw[cG]at e;subst e;exact q l0 H1 g Dv ha
abbrev kK:Stmt:=top 46
abbrev jv:Cl Str:=["_law_parts","_law_amounts_here"]
abbrev y_:Cl Str:=jv.append ["_law_things","_law_at"]
def kL:aS y_ jv (aC kK):=dD
theorem xG(F:At K mg "_law_cast_deed" kK f fd)(bg:mg "len"=none)(bU:mg "range"=none)(gX:mg "tuple"=none):Dn P w K mg base 1 "_law_cast_deed" jv (AQ K):=by
 refine F.oA kL λ_ _ _ _ H _ Q E hr h=>?_;obtain⟨⟨lp,la,us,ps,as,rfl,hp,hP,ha,hal,hl,q⟩⟩:=h;refine⟨_,(@cS.h _ _ _ (ak (aY (i:=2) kL.nd (jy (af iw aj)))
  (ak (fu fH rfl (d9 (by rfl) bU (af (aN (bL K) (by rfl) bg cU (af (qv 0) aj)) aj)) (aV (i:=3) kL.nd) (az (jU (bf mL (aU (aZ K) (qv 1) (qv 3)) au (bD _)) (ak (dM (rP u0 uY uZ gF (qv 2) (af (aU (cj K) (aU (aZ K) (qv 0) (qv 3)) au) aj)))
  (az (dM (rP u0 uY uZ gF (qv 2) (af (aU (aZ K) (qv 1) (qv 3)) aj))))) bJ)))
  (az (bB (mh DC (by rfl) gX KY (af (qv 2) aj))))))),?_⟩
 have ul:=hP.length;refine⟨(kB 1),λt ht=>?_⟩;have g0:=aD ht (.lst [.str "cast"]);have h0:upd H t (.lst [.str "cast"]) t=some (.lst (Dd.v (.cast (rowsOf (ps.take 0) (as.take 0))))):=ai;show Li _ _ _ _ (upd H t (.lst [.str "cast"]));generalize upd H t (.lst [.str "cast"])=H0 at *;refine⟨_,Z,lp,_,Z,.inl (g0.seq hp),_,Z,by omega,by omega,?_⟩;refine jP (lo:=0) (n:=((us.length:Nat):Int).toNat) (λi σ H'=>aE H H'/\H' t=some (.lst (Dd.v (.cast (rowsOf (ps.take i) (as.take i)))))/\∃s3,σ=[some (.ref lp),some (.ref la),some (.ref t),s3]) ⟨g0,h0,_,Z⟩ ?_ ?_
 .rintro i σ H1 hi ⟨g,hd,s3,rfl⟩;have e0:(0:Int)+(i:Int)=((i:Nat):Int):=by omega
  rw[e0];have hi:i<ps.length:=by omega
  have ep:=a_ hi;generalize ps[i]=p at ep;have ea:=a_ (show i<as.length by omega);generalize as[i]=a at ea;obtain⟨r,er,hr⟩:=hP.get ep;have hr:=g _ _ hr;have DA:(as.map V.int)[i]?=some (.int a):=by rw[cz,ea];rfl
  have es:=IT ep ea;have rl:=AN (ps.take i) (as.take i);have hlt:(Dd.v (.cast (rowsOf (ps.take i) (as.take i)))).length+1<sizeLine:=by show(f_ _).length+1+1<_;rw[vO,gQ];rw[jN]at rl;exact Bu (show _<=3000 by omega) (by decide)
  have ha1:=g.seq ha;refine⟨λσ H'=>aE H H'/\H' t=some (.lst (Dd.v (.cast (rowsOf (ps.take (i+1)) (as.take (i+1))))))/\∃s3,σ=[some (.ref lp),some (.ref la),some (.ref t),s3],?_,λ_ _ y=>y⟩;refine⟨_,Z,_,Z,la,_,_,_,Z,Z,ha1,bh DA,_,_,Z,Z,_,Z,fQ (λc=>?_) (λc=>?_)⟩
  .rw [aB (ff c)]at es;refine⟨_,Z,.inl ⟨Z,_,aI.of hd⟩,_,Z,_,Z,lp,_,_,_,Z,Z,g.seq hp,bh er,r,_,_,_,Z,Z,bR.of hr,bh (j:=0) rfl,t,_,_,Z,Z,hd,by omega,?_⟩;have g2:aE H (upd H1 t (.lst (Dd.v (.cast (rowsOf (ps.take i) (as.take i)))++[V.str p.nm]))):=g.b9 ht _;refine⟨_,Z,.inl ⟨Z,_,aI.of ai⟩,_,Z,_,Z,la,_,_,_,Z,Z,g2.seq ha,bh DA,t,_,_,Z,Z,ai,by rw[cO];exact hlt,?_⟩;refine⟨by rw[nL];exact g.b9 ht _,?_,_,Z⟩;rw[ai,es];show some (HO.lst ((V.str "cast"::f_ (rowsOf (ps.take i) (as.take i))++[V.str p.nm])++[V.int a]))=some (HO.lst (V.str "cast"::f_ (rowsOf (ps.take i) (as.take i)++[(p.nm,a)])));rw[vN];simp[f_]
  .rw [aA (qe (mC.mpr c)),pU]at es;exact⟨g,by rw[es];exact hd,_,Z⟩
 rintro σ H1 ⟨g,hd,s3,rfl⟩;rw[show((us.length:Nat):Int).toNat=ps.length by omega,cG,<-hal,cG]at hd;refine⟨_,Z,t,_,Z,.inl ⟨aI.of hd,λz hz=>q z _ (g.trans (aD hz _)) ai⟩⟩
abbrev nH:Stmt:=top 47
abbrev Mt:Cl Str:=["_law_script"]
abbrev Zy:Cl Str:=Mt.append ["_law_great","_law_owners","_law_names","_law_hold","_law_owner","_law_parts","_law_at","_law_worths","_law_amounts_here","_law_whole","_law_lost","_law_first","_law_share","_law_left","_law_one","_law_given","_law_tops","_law_seat","_law_ahead"]
def dO:aS Zy Mt (aC nH):=dD
theorem XF{T:TC}(F:At K mg "law" nH f fd)(bM:Dn P w K mg base 1 "_law_draw" iG (sS K))(iQ:Dn P w K mg base 2 "_law_many_names" iN (sf K))(sL:Dn P w K mg base 2 "_law_much" oQ (Ft K))(oh:Dn P w K mg base 2 "_law_amounts" kr (vj K))(HP:Cn P w K mg base 3 "Hold" T.hold ["self"] (JX T))(sM:Mn P w K mg base 3 T.hold "sign" oH (JZ T))(sO:Mn P w K mg base 4 T.hold "load" oJ (NT T))(lV:Dn P w K mg base 1 "_law_cast_deed" jv (AQ K))(wD:Dn P w K mg base 5 "perform" rT (Ku T K))(qU:Mn P w K mg base 1 T.hold "parts" nq (J0 T))(lW:Dn P w K mg base 2 "_law_part_list" ju (Al K))(iR:Dn P w K mg base 1 "_law_own_stakes" iP (yg K))(DY:Mn P w K mg base 4 T.hold "shares" lC (AI T))(kM:Dn P w K mg base 3 "_law_share_list" iO (GR K))(qV:Mn P w K mg base 3 T.hold "stake" nD (GN T))(mw:Dn P w K mg base 2 "_law_is" oX LG)(bg:mg "len"=none)(bU:mg "range"=none)(nE:mg "int"=none)(eY:mg "sum"=none):iT P w K mg base qh 8 f fd Mt (EC K):=by
 refine F.fn.ok dO (λvs H Q E h=>?_) (λ_ _ _ _ H _ Q E hr h=>?_)
 .obtain ⟨a,ns,rfl,_⟩:=h;rfl
 obtain⟨a,ns,rfl,hS,h63,q⟩:=h;refine⟨_,(@cS.h _ _ _ (ak (aY (i:=1) dO.nd (tF fK (bY bM hr (af (qv 0) (af au (af au (af au aj))))) au (bD _)))
  (ak (aY (i:=2) dO.nd (bY iQ hr (af (qv 0) (af au (af (aM cQ au (bY bM hr (af (qv 0) (af au (af au (af (aU (aZ K) (jy (af au (af au aj))) (mh u9 (by rfl) nE EJ (af (qv 1) aj))) aj)))))) aj)))))
  (ak (aY (i:=3) dO.nd (bY iQ hr (af (qv 0) (af au (af (aM cQ au (bY bM hr (af (qv 0) (af au (af au (af (aU (aZ K) (jy (af au (af au aj))) (mh u9 (by rfl) nE EJ (af (qv 1) aj))) aj)))))) aj)))))
  (ak (aY (i:=4) dO.nd (Ol HP hr))
  (ak (fu fH rfl (fG K (qv 2)) (aV (i:=5) dO.nd) (az (dM (dZ sM hr (qv 4) (af (qv 5) aj)))))
  (ak (aY (i:=6) dO.nd (jy aj))
  (ak (fu fH rfl (d9 (by rfl) bU (af (aN (bL K) (by rfl) bg cU (af (qv 3) aj)) aj)) (aV (i:=7) dO.nd) (ak (aY (i:=5) dO.nd (aU (aZ K) (qv 2) (bY bM hr (af (qv 0) (af (aM cQ au (qv 7)) (af au (af (aN (bL K) (by rfl) bg cU (af (qv 2) aj)) aj)))))))
  (ak (dM (rP u0 uY uZ gF (qv 6) (af (m_ (af (aU (aZ K) (qv 3) (qv 7)) (af (qv 5) (af (bY sL hr (af (qv 0) (af (aM cQ au (qv 7)) (af au aj)))) (af (bY bM hr (af (qv 0) (af (aM cQ au (qv 7)) (af au (af au aj))))) aj))))) aj)))
  (az (dM (dZ sO hr (qv 4) (af (aU (cj K) (aU (aZ K) (qv 6) (qv 7)) au) (af (qv 5) (af (aU (cj K) (aU (aZ K) (qv 6) (qv 7)) au) (af (aU (cj K) (aU (aZ K) (qv 6) (qv 7)) au) aj))))))))))
  (ak (aY (i:=8) dO.nd (gc ["_law_part"] [none] rfl (fG K (qv 6)) (λ_ _ _ _=>(aV (i:=0) (show List.Nodup (["_law_part"] :Cl Str)from by decide +kernel))) (λ_ _ _ _=>(aU (cj K) (qv 0) au)) rfl (by rfl)))
  (ak (aY (i:=9) dO.nd (bY oh hr (af (qv 0) (af au (af (qv 8) aj)))))
  (ak (aY (i:=10) dO.nd (aN (jR K rfl) (by rfl) eY tT (af (qv 8) aj)))
  (ak (aY (i:=11) dO.nd (aN (jR K rfl) (by rfl) eY tT (af (qv 9) aj)))
  (ak (aY (i:=12) dO.nd (gc ["_law_at","_law_script","_law_amounts_here"] [none,some 0,some 9] rfl (d9 (by rfl) bU (af (aN (bL K) (by rfl) bg cU (af (qv 6) aj)) aj)) (λ_ _ _ _=>(aV (i:=0) (show List.Nodup (["_law_at","_law_script","_law_amounts_here"] :Cl Str)from by decide +kernel))) (λ_ _ _ _=>(bY bM hr (af (qv 1) (af au (af (aM cQ au (aM h_ au (qv 0))) (af (aM cQ (aU (aZ K) (qv 2) (qv 0)) au) aj)))))) rfl (by rfl)))
  (ak (fu fH rfl (fG K (jy (af (qv 12) (af (gc ["_law_at","_law_amounts_here","_law_first"] [none,some 9,some 12] rfl (d9 (by rfl) bU (af (aN (bL K) (by rfl) bg cU (af (qv 6) aj)) aj)) (λ_ _ _ _=>(aV (i:=0) (show List.Nodup (["_law_at","_law_amounts_here","_law_first"] :Cl Str)from by decide +kernel))) (λ_ _ _ _=>(aM oS (aU (aZ K) (qv 1) (qv 0)) (aU (aZ K) (qv 2) (qv 0)))) rfl (by rfl)) aj)))) (aV (i:=13) dO.nd) (az (jU (bf mL (aN (jR K rfl) (by rfl) eY tT (af (qv 13) aj)) au (bD _)) (az (dM (bY wD hr (af (qv 4) (af (bY lV hr (af (qv 6) (af (qv 13) aj))) aj))))) bJ)))
  (ak (nV (i:=14) ["_law_at","_law_parts","_law_worths","_law_amounts_here"] [none,some 6,some 8,some 9] dO.nd rfl rfl rfl (d9 (by rfl) bU (af (aN (bL K) (by rfl) bg cU (af (qv 6) aj)) aj)) (λ_ _ _ _=>(aV (i:=0) (show List.Nodup (["_law_at","_law_parts","_law_worths","_law_amounts_here"] :Cl Str)from by decide +kernel))) (λ_ _ _ _=>(aM (Ua K) (Gx (Kc K) (aU (aZ K) (qv 1) (qv 0)) Kf (Ke au)) (m_ (af (aM oS (aU (aZ K) (qv 2) (qv 0)) (aU (aZ K) (qv 3) (qv 0))) (af (aU (cj K) (aU (aZ K) (qv 1) (qv 0)) au) aj))))) rfl (by rfl) (by rfl))
  (ak (Gz (i:=14) ["_law_part"] [none] dO.nd rfl rfl rfl (fG K (qv 14)) (λ_ _ _ _=>(aV (i:=0) (show List.Nodup (["_law_part"] :Cl Str)from by decide +kernel))) (λ_ _ _ _=>(qv 0)) (λ_ _ _ _=>(bf mL (aU (cj K) (qv 0) au) au (bD _))) rfl (by rfl) (by rfl))
  (ak (cK (bW.pt (k7 (fB (fq (bY lW hr (af (BY qU hr (qv 4)) (af (qv 14) aj))))) (jV (bf fK (aN (bL K) (by rfl) bg cU (af (qv 14) aj)) au (bD _))))) (az (bB iM)) bJ)
  (ak (aY (i:=15) dO.nd (aU (aZ K) (qv 14) (bY bM hr (af (qv 0) (af au (af au (af (aN (bL K) (by rfl) bg cU (af (qv 14) aj)) aj)))))))
  (ak (aY (i:=16) dO.nd (bY iR hr (af (qv 2) (af (qv 6) (af (qv 9) aj)))))
  (ak (nV (i:=17) ["_law_at","_law_owners","_law_one","_law_whole","_law_lost","_law_given"] [none,some 2,some 15,some 10,some 11,some 16] dO.nd rfl rfl rfl (d9 (by rfl) bU (af (aN (bL K) (by rfl) bg cU (af (qv 2) aj)) aj)) (λ_ _ _ _=>(aV (i:=0) (show List.Nodup (["_law_at","_law_owners","_law_one","_law_whole","_law_lost","_law_given"] :Cl Str)from by decide +kernel))) (λ_ _ _ _=>(aM cQ (aM h_ (mh u9 (by rfl) nE EJ (af (tF fK (aU (aZ K) (qv 1) (qv 0)) (aU (cj K) (qv 2) au) (bD _)) aj)) (aM oS (qv 3) (qv 4))) (aU (aZ K) (qv 5) (qv 0)))) rfl (by rfl) (by rfl))
  (ak (cK (fB (fq (bY kM hr (af (dZ DY hr (qv 4) (af (aU (cj K) (qv 15) au) aj)) (af (qv 2) (af (qv 17) (af (qv 10) aj))))))) (az (bB iM)) bJ)
  (ak (aY (i:=18) dO.nd (bY bM hr (af (qv 0) (af au (af au (af (aN (bL K) (by rfl) bg cU (af (qv 2) aj)) aj))))))
  (ak (aY (i:=19) dO.nd (aU (aZ K) (bY iR hr (af (qv 2) (af (qv 6) (af (qv 8) aj)))) (qv 18)))
  (az (bB (bY mw hr (af (dZ qV hr (qv 4) (af (aU (aZ K) (qv 2) (qv 18)) aj)) (af (aM h_ (qv 19) (aM oS (qv 10) (qv 11))) (af (qv 10) aj))))))))))))))))))))))))))))),?_⟩
 refine⟨_,Z,d8 hS h63 (by decide) (by decide) (by decide) (by decide) λgr _ _ _=>⟨Z,?_⟩⟩;generalize decide (V.int gr=V.int 1)=gb;obtain⟨gt,eg,hgt⟩:∃gt:Nat,(if gb=true then(1:Int) else 0)=(gt:Int)/\gt<2:=by
  split
  .exact ⟨1,Z,by decide⟩
  .exact ⟨0,Z,by decide⟩
 have Mu:∀x y:Int,1<=x->x<=60->1<=y->y<=60->∃n1:Int,pR [V.int x,V.int y] (gt:Int)=some (.int n1)/\1<=n1/\n1<=60:=λx y a1 a2 a3 a4=>by
  rcases(by omega:gt=0\/gt=1)with e|e
  .exact ⟨x,by rw[e];exact bh (j:=0) rfl,a1,a2⟩
  .exact ⟨y,by rw[e];exact bh (j:=1) rfl,a3,a4⟩
 refine⟨_,Z,_,Z,(kB 2),λp1 hp1=>?_⟩;have g1:=aD hp1 (.lst [.int 6,.int 40]);have h1:upd H p1 (.lst [.int 6,.int 40]) p1=some (.lst [.int 6,.int 40]):=ai;show Lk _ _ _ _ _ (upd H p1 (.lst [.int 6,.int 40]));generalize upd H p1 (.lst [.int 6,.int 40])=H1 at *;have HN:=g1.seq hS;obtain⟨n1,R9,n11,W4⟩:=Mu 6 40 (by decide) (by decide) (by decide) (by decide);refine⟨_,Z,.inr ⟨gb,Z,?_⟩⟩;rw[eg];refine⟨p1,_,_,_,Z,Z,aI.of h1,R9,d8 HN h63 (by decide) (by decide) (by omega) (by omega) λod _ o0 o1=>⟨_,_,Z,Z,?_⟩⟩;obtain⟨no,hno⟩:∃no:Nat,1+od=(no:Int):=⟨(1+od).toNat,by omega⟩
 refine uW hno HN h63 (by decide) (by omega) λzo nso H2 g2 HQ _ aeU XG XH=>?_;have hS2:=g2.seq HN;refine⟨_,Z,_,Z,(kB 2),λp3 hp3=>?_⟩;have g3:=aD hp3 (.lst [.int 6,.int 60]);have h3:upd H2 p3 (.lst [.int 6,.int 60]) p3=some (.lst [.int 6,.int 60]):=ai;show Lk _ _ _ _ _ (upd H2 p3 (.lst [.int 6,.int 60]));generalize upd H2 p3 (.lst [.int 6,.int 60])=H3 at *;have Su:=g3.seq hS2;have XI:=g3 _ _ HQ;obtain⟨n2,at2,n21,n22⟩:=Mu 6 60 (by decide) (by decide) (by decide) (by decide);refine⟨_,Z,.inr ⟨gb,Z,?_⟩⟩;rw[eg];refine⟨p3,_,_,_,Z,Z,aI.of h3,at2,d8 Su h63 (by decide) (by decide) (by omega) (by omega) λmd _ m0 m1=>⟨_,_,Z,Z,?_⟩⟩;obtain⟨BM,Zz⟩:∃BM:Nat,1+md=(BM:Int):=⟨(1+md).toNat,by omega⟩
 refine uW Zz Su h63 (by decide) (by omega) λzn nsn H4 g4 XJ _ aeV XM XO=>?_;have hS4:=g4.seq Su;have Rn:=g4 _ _ XI;rw[T6]at Rn XJ;have fk:=J5 nso;have hnl:=J5 nsn;have jT:=CW XG;have Ro:=NX λx hx=>(XH x hx).1;have nmN:=CW XM;have rH:=NX λx hx=>(XO x hx).1;generalize An nso=own at *;generalize An nsn=nms at *;clear XG XH XM XO HQ XI h1 h3 HN hS2 Su hS hp1 hp3 Mu R9 at2 g1 g2 g3 g4;have G4:Gh (λ_=>none) H4:=λb c e=>by cases e
 intro x dx hx hdx hne;refine⟨⟨x,dx,λ_=>none,0,Z,ai,(G4.alloc hdx).alloc (by rw[ay (cW hne)];exact hx),Z,λρ5 A5 H5 ea5 tM k5=>⟨Z,?_⟩⟩⟩;have F5:Fr 0 (λ_=>none) H4 ρ5 H5:=λb o e _=>k5 b o (by rw[ay (aG e hx),ay (aG e hdx)];exact e) (aG e hx);have HQ:=aI.of (K:=K) Rn;refine⟨_,Z,zo,Z,⟨_,F5.seq HQ rfl⟩,?_⟩;refine nN (K:=K) (xs:=own.map V.str) (λi σ H'=>∃ρ' A' s5,σ=[some (.ref a),some (.bl gb),some (.ref zo),some (.ref zn),some (.ref x),s5,none,none,none,none,none,none,none,none,none,none,none,none,none,none]/\A'.a=x/\HH T 0 ρ' A' H' ((own.take i).foldl dm hs0)/\Fr 0 (λ_=>none) H4 ρ' H')
  ⟨ρ5,A5,none,Z,ea5,tM,F5⟩ (λi σ H' _ hp=>by obtain⟨_,_,_,_,_,_,f⟩:=hp;exact f.seq HQ rfl) ?_ ?_
 .rintro i y σ H' hy ⟨ρ',A',s2,rfl,ea',OZ,F'⟩;rw[cz]at hy;obtain⟨o,eo,rfl⟩:=lE.mp hy;have hi:=(dW.mp eo).1;have XQ:((own.take i).foldl dm hs0).own=own.take i:=by rw[rK (own.take i) hs0];rfl
  refine⟨_,Z,x,A'.dx,_,Z,ea'▸OZ.h.oa,Z,_,Z,⟨⟨0,ρ',A',_,o,by rw[ea'];rfl,OZ,(Ro o (cg eo)).isNm,?_,?_,λρ2 A2 H2 h2 e2 F2=>?_⟩⟩⟩
  .rw [XQ];intro m;have h2:(own.take (i+1)).Nodup:=jT.sublist (List.take_sublist _ _);rw[take_snoc eo]at h2;exact(Lg.mp h2).2.2 o m o (eU.mpr rfl) rfl
  .rw [XQ,jN];omega
  .rw [take_snoc eo,By];exact⟨ρ2,A2,_,Z,e2.trans ea',h2,F'.trans F2⟩
 rintro σ H6 ⟨ρ6,A6,s5,rfl,ea6,yj,F6⟩;rw[aH,cG]at yj;have o6:aE (out (λ_=>none) H4) (out ρ6 H6):=F6.out;have fS:=(rO.of hS4).go o6;have fN:=(rO.of (aI.of (K:=K) XJ)).go o6;have fO:=(rO.of HQ).go o6;have yj:HH T 0 ρ6 A6 H6 (mj own):=yj;have gw6:=gw0 jT (by omega) (by omega) (λo ho=>(Ro o ho).isNm);have sm6:ig (mj own):=vD T5 tM.wf (by simpa[hs0]using jT) (by show 0+own.length<=100;omega);have nx6:Nx nms (mj own):=W2 nmN (λx hx=>(rH x hx).isNm);have eo6:=Us own;have O0:=OI own;generalize mj own=st6 at *;clear tM F5 k5 F6 o6 Rn HQ XJ hS4;refine⟨(kB 0),λlp Sv=>?_⟩;have cl:=yj.g.none Sv;have g7:=aD Sv (.lst []);have h7:upd H6 lp (.lst []) lp=some (.lst []):=ai;show Li _ _ _ _ (upd H6 lp (.lst []));generalize upd H6 lp (.lst [])=H7 at *;have OY:(own.map V.str).length=own.length:=aH ..;have nml:(nms.map V.str).length=nms.length:=aH ..;refine⟨_,Z,zn,_,Z,.inl (fN _ _ (lK g7)),_,Z,by omega,by omega,?_⟩;rw[nml];refine jP (lo:=0) (n:=((nms.length:Nat):Int).toNat) (λi σ H'=>∃ρ' A' st' us s5 s7,σ=[some (.ref a),some (.bl gb),some (.ref zo),some (.ref zn),some (.ref x),s5,some (.ref lp),s7,none,none,none,none,none,none,none,none,none,none,none,none]/\A'.a=x/\HH T 0 ρ' A' H' st'/\GW i (100*i) st'/\ig st'/\st'.own=own/\st'.ah.length=i/\st'.nms.length=i/\Nx nms st'/\ρ' lp=none/\H' lp=some (.lst us)/\eF H' us st'.ah/\(∀p∈st'.ah,p.wo<=1000000000/\BS p.nm)/\aE (out ρ6 H6) (out ρ' H')) ⟨ρ6,A6,st6,[],_,_,Z,ea6,yj.mono g7,gw6,sm6,eo6,by rw[O0.1];rfl,by rw[O0.2];rfl,nx6,cl,h7,by rw[O0.1];exact .nil,(λp hp=>by rw[O0.1]at hp;cases hp),lK g7⟩ ?_ ?_
 .rintro i σ H1 hi ⟨ρ1,A1,st1,us,XR,s7,rfl,XS,jY,gw1,sm1,HR,pl1,nl1,nx1,Sw,hl1,hP1,wo1,o1⟩;have e0:(0:Int)+(i:Int)=((i:Nat):Int):=by omega
  rw[e0];have hin:i<nms.length:=by omega
  have ex:=a_ hin;generalize nms[i]=nm at ex;obtain⟨XT,hxs,nxn⟩:=nx1.next (x:=nm) (by rw[nl1];exact ex);have XU:=fS.go o1;have fN1:=fN.go o1;have fO1:=fO.go o1;have r0:=aE.refl (out ρ1 H1);refine⟨_,Z,_,Z,_,Z,_,_,Z,Z,_,Z,zo,_,Z,.inl (fO1 _ _ r0),d8 (XU _ _ r0) h63 (by omega) (by decide) (by omega) (by omega) λd _ d0 d1=>?_⟩;obtain⟨jo,o,ejo,eo,Sx⟩:=FZ (l:=own) d0 (by omega);have XW:o∈own:=cg eo;refine⟨zo,_,_,_,Z,Z,fO1 _ _ r0,Sx,?_⟩;have exv:(nms.map V.str)[i]?=some (.str nm):=by rw[cz,ex];rfl
  refine⟨_,Z,.inl ⟨Z,_,aI.of hl1⟩,_,Z,_,Z,zn,_,_,_,Z,Z,fN1 _ _ r0,bh exv,_,Z,_,Z,_,Z,_,_,Z,Z,Qo (XU _ _ r0) h63 (by omega) (by decide) (by decide) λwo H2 w1 w2 g2=>?_⟩;refine⟨_,Z,_,Z,_,_,Z,Z,d8 (g2.seq (XU _ _ r0)) h63 (by omega) (by decide) (by decide) (by decide) λwe _ v0 v1=>⟨(kB 4),λz hz=>?_⟩⟩;have g3:=aD hz (.tup [.str nm,.str o,.int wo,.int we]);have hz3:upd H2 z (.tup [.str nm,.str o,.int wo,.int we]) z=some (.tup [.str nm,.str o,.int wo,.int we]):=ai;generalize upd H2 z (.tup [.str nm,.str o,.int wo,.int we])=H3 at *;have Sy:=g2.trans g3;have Du:=jY.mono Sy;have hl3:=Sy _ _ hl1;have ul:=hP1.length;refine⟨lp,_,_,Z,Z,hl3,by rw[ul,gQ];exact Bu (show _<=60 by omega) (by decide),?_⟩;have tM:=Du.Ai (o:=.lst (us++[.ref z])) Sw hl3 rfl rfl;have HB:upd H3 lp (.lst (us++[.ref z])) lp=some (.lst (us++[.ref z])):=ai;have tu:=iZ (o:=.lst (us++[.ref z])) (.inr ⟨_,hl3,Z⟩);have SA:=tu _ _ hz3;have hP5:=(hP1.mono Sy.tups).mono tu;have o5:aE (out ρ6 H6) (out ρ1 (upd H3 lp (.lst (us++[.ref z])))):=by rw[T7 Sw];exact(o1.trans (lK Sy)).b9 (QI Sv) _
  generalize upd H3 lp (.lst (us++[.ref z]))=H5 at *;have eu:(us++[V.ref z])[i]?=some (.ref z):=by rw[<-(show us.length=i by omega)];exact List.getElem?_concat_length
  have pl:st1.ah.length<1000:=by omega
  have nl:st1.nms.length<1000:=by omega
  have hr:L3 st1 (.load nm o wo we)=none:=L1 XT hxs (by rw[HR];exact XW) w1 v0;have db:WT (.load nm o wo we):=⟨BX XT,BX (Ro o XW).isNm,⟨by omega,w2⟩,⟨by omega,by omega⟩⟩
  refine⟨_,Z,x,A1.dx,_,Z,XS▸tM.h.oa,Z,_,Z,_,Z,lp,_,_,_,Z,Z,aI.of HB,bh eu,z,_,_,_,Z,Z,bR.of SA,bh (j:=0) rfl,_,Z,_,Z,_,Z,lp,_,_,_,Z,Z,aI.of HB,bh eu,z,_,_,_,Z,Z,bR.of SA,bh (j:=2) rfl,_,Z,_,Z,lp,_,_,_,Z,Z,aI.of HB,bh eu,z,_,_,_,Z,Z,bR.of SA,bh (j:=3) rfl,⟨⟨0,ρ1,A1,st1,nm,o,wo,we,by rw[XS];rfl,tM,XT,hxs,by rw[HR];exact XW,w1,v0,nl,pl,λρ2 A2 H2 h2 e2 F2=>?_⟩⟩⟩;have tz:=F2.tup tM.g;refine⟨ρ2,A2,_,_,_,_,Z,e2.trans XS,h2,gw1.do (d:=.load nm o wo we) (by omega) (by omega) (by rw[HR];omega) hr db.g,IM sm1 _ _ _ _,HR,?_,?_,nxn _ rfl,(F2.at HB Sw).2,(F2.at HB Sw).1,(hP5.mono tz).snoc (tz _ _ SA),?_,o5.trans F2.out⟩
  .show (st1.ah++[_]).length=i+1;rw[cO,pl1];rfl
  .show (st1.nms++[_]).length=i+1;rw[cO,nl1];rfl
  .intro p hp;rcases eE.mp (show p∈st1.ah++[_]from hp)with y|y
   .exact wo1 p y
   .rw [eU.mp y];exact⟨w2,rH nm (cg ex)⟩
 rintro σ H7 ⟨ρ7,A7,st,us,XR,s7,rfl,ea7,A_,SD,sm,KI,XX,nl7,_,cl7,KJ,XY,wo7,o7⟩;rw[qf]at SD XX;have XZ:=fS.go o7;have fO7:=fO.go o7;clear fS fN fO nx6 sm6 gw6 yj O0 g7 h7 nl7 Sv cl o7;have ul:=XY.length;have wf:=SD.wf;have r7:=aE.refl (out ρ7 H7);have bl:=λ(i:Nat)(p:Pt)(h:st.ah[i]?=some p)=>(⟨(wf.kP p (cg h)).1,(wo7 p (cg h)).1⟩:1<=p.wo/\p.wo<=1000000000)
 refine⟨_,Z,lp,Z,⟨_,aI.of KJ⟩,λlw SE=>?_⟩;refine ia (J:=xS K lp) (n:=us.length) 0 (λi out H'=>aE H7 H'/\out=((st.ah.take i).map λp=>p.wo).map V.int) (by omega) ⟨aD SE _,Z⟩ (λi o H' hi _ hp=>⟨_,_,hp.1.seq (aI.of KJ),a_ hi⟩) (λo H' _ hp=>⟨_,hp.1.seq (aI.of KJ),aO _⟩) ?_ ?_
 .rintro i y out H1 H2 hi ab3 ha ⟨g,e⟩ ⟨rfl,hy⟩;have ep:=a_ (show i<st.ah.length by omega);generalize st.ah[i]=p at ep;obtain⟨r,er,hr⟩:=XY.get ep;have ey:=hy _ (g.seq (aI.of KJ));rw[er]at ey;cases ey;refine⟨_,Z,r,_,_,_,Z,Z,bR.of (g _ _ hr),bh (j:=2) rfl,ha,g.b9 SE _,?_⟩;subst e;rw[take_snoc ep,b7,b7];rfl
 rintro out H8 _ SG ⟨g8,e⟩;rw[ul,cG]at e;subst e;have ws0:∀w∈st.ah.map (λp=>p.wo),0<=w:=λw hw=>by obtain⟨p,hp,rfl⟩:=bu.mp hw;have:=(wf.kP p hp).1;omega
 have w0:0<aq st:=OF wf λz=>by rw[z]at XX;simp at XX;omega
 refine⟨_,Z,_,Z,ID (g8.seq (XZ _ _ r7)) h63 (by decide) (aI.of SG) (by rw[aH];omega) ws0 w0 λla as H9 g9 hla ab5 ok=>?_⟩;have hw9:=g9 _ _ SG;refine⟨_,Z,lw,_,Z,aI.of hw9,?_⟩;refine⟨_,Z,la,_,Z,aI.of hla,?_⟩;have eW:(st.ah.map λp=>p.wo).sum=aq st:=rfl;rw[eW];have al:as.length=st.ah.length:=by rw[ok.len,aH]
 have ab:∀(i:Nat)(p:Pt)(a:Int),st.ah[i]?=some p->as[i]?=some a->0<=a/\a<=p.wo:=λi p a h1 h2=>by have l:=ok.lo i;have h:=ok.hi i;rw[dP,h2]at l h;rw[dP,cz,h1]at h;exact⟨l,h⟩
 have HU:=g8.trans g9;have hS9:=HU.seq (XZ _ _ r7);have X0:=HU _ _ KJ;refine⟨_,Z,lp,_,Z,.inl (aI.of X0),_,Z,by omega,by omega,λlf Bf=>?_⟩;refine ia (J:=xT 0 _) (n:=us.length) 0 (λi out H'=>aE H9 H'/\∃fs:Cl Int,out=fs.map V.int/\fs.length=i/\∀(j:Nat)(a f:Int),as[j]?=some a->fs[j]?=some f->0<=f/\f<=a) (by omega) ⟨aD Bf _,[],Z,Z,λj a f _ h=>by simp at h⟩ (λj o H' hj _ _=>by show j<((us.length:Nat):Int).toNat;omega) (λo H' _ _=>by show((us.length:Nat):Int).toNat<=us.length;omega) ?_ ?_
 .rintro i y out H1 H2 hi Cb ha ⟨g,fs,e,fl,fb⟩ ⟨rfl,rfl⟩;have e0:(0:Int)+(i:Int)=((i:Nat):Int):=by omega
  rw[e0];have ea:=a_ (show i<as.length by omega);generalize as[i]=av at ea;have ep:=a_ (show i<st.ah.length by omega);have bb:=ab i _ av ep ea;have DA:(as.map V.int)[i]?=some (.int av):=by rw[cz,ea];rfl
  refine⟨_,Z,_,Z,_,_,Z,Z,.inl ⟨by decide,by decide⟩,_,_,Z,Z,_,Z,_,Z,la,_,_,_,Z,Z,g.seq (aI.of hla),bh DA,_,_,Z,Z,d8 (g.seq hS9) h63 (by decide) (by omega) (by omega) (by omega) λd _ d0 d1=>⟨ha,g.b9 Bf _,fs++[d],by rw[e,b7];rfl,by rw[cO,fl];rfl,λj a f h1 h2=>?_⟩⟩;by_cases c:j<fs.length
  .rw [KO c]at h2;exact fb j a f h1 h2
  .have hj:j<(fs++[d]).length:=(dW.mp h2).1;rw[cO,K3]at hj;have ej:j=i:=by omega
   subst ej;rw[ea]at h1;cases h1;rw[MF (by omega),fl,Nat.sub_self]at h2;cases h2;omega
 rintro out z7 _ Rp ⟨DB,fs,e,fl,fb⟩;subst e;have G:kT st as fs:=⟨al,by omega,λi p a f h1 h2 h3=>⟨(fb i a f h2 h3).1,(fb i a f h2 h3).2,(ab i p a h1 h2).2⟩,ok.less⟩
 have X3:=DB _ _ X0;have SH:=DB _ _ hla;refine⟨_,Z,_,Z,lp,_,Z,.inl (aI.of X3),_,Z,by omega,by omega,λld SI=>?_⟩;have dl:(diff as fs).length=us.length:=by unfold diff;rw[gx];omega
 refine ia (J:=xT 0 _) (n:=us.length) 0 (λi out H'=>aE z7 H'/\out=((diff as fs).take i).map V.int) (by omega) ⟨aD SI _,Z⟩ (λj o H' hj _ _=>by show j<((us.length:Nat):Int).toNat;omega) (λo H' _ _=>by show((us.length:Nat):Int).toNat<=us.length;omega) ?_ ?_
 .rintro i y out H1 H2 hi Cb ha ⟨g,e⟩ ⟨rfl,rfl⟩;have e0:(0:Int)+(i:Int)=((i:Nat):Int):=by omega
  rw[e0];obtain⟨p,av,fv,ep,ea,ef,ed,_⟩:=G.at_ (i:=i) (by omega);have DA:(as.map V.int)[i]?=some (.int av):=by rw[cz,ea];rfl
  have efv:(fs.map V.int)[i]?=some (.int fv):=by rw[cz,ef];rfl
  refine⟨_,Z,_,Z,la,_,_,_,Z,Z,g.seq (aI.of SH),bh DA,_,Z,_,Z,lf,_,_,_,Z,Z,g.seq (aI.of Rp),bh efv,_,_,Z,Z,ha,g.b9 SI _,?_⟩;subst e;rw[take_snoc ed,b7];rfl
 rintro out OU _ X4 ⟨Dz,e⟩;rw[<-dl,cG]at e;subst e;refine⟨(kB 2),λlz X5=>?_⟩;have yk:=aD X5 (.lst [.ref lf,.ref ld]);have Cj:upd OU lz (.lst [.ref lf,.ref ld]) lz=some (.lst [.ref lf,.ref ld]):=ai;refine(λ(k:∀uX,aE OU uX->uX lz=some (.lst [.ref lf,.ref ld])->MM _ _ (V.ref lz) uX)=>k _ yk Cj) ?_;clear yk Cj;intro uX yk Cj;have xw:=(((HU.trans DB).trans Dz).trans yk)
 have gA:=(Dz.trans yk)
 have Mv:=A_.mono xw;have cn:∀{b:Addr},H7 b=none->ρ7 b=none:=λhb=>A_.g.none hb;have O1:∀{H':Hp}{b:Addr},aE H7 H'->H' b=none->H7 b=none:=λ{H' b} g hb=>by
  cases e:H7 b with
  | none=>rfl
  | some o=>have:=g b o e;rw[hb]at this;cases this
 have X6:=XZ.go (lK xw);have X7:=fO7.go (lK xw);have fP:rO K ρ7 uX lp us:=λρ' H' s=>(aI.of (K:=K) (xw _ _ KJ)).outs cl7 s;have fW:rO K ρ7 uX lw ((st.ah.map λp=>p.wo).map V.int):=λρ' H' s=>(aI.of (K:=K) (((g9.trans DB).trans gA) _ _ SG)).outs (cn SE) s;have fZ:rO K ρ7 uX lz [.ref lf,.ref ld] :=λρ' H' s=>(aI.of (K:=K) Cj).outs (cn (O1 ((HU.trans DB).trans Dz) X5)) s;have fF:rO K ρ7 uX lf (fs.map V.int):=λρ' H' s=>(aI.of (K:=K) (gA _ _ Rp)).outs (cn (O1 HU Bf)) s;have fD:rO K ρ7 uX ld ((diff as fs).map V.int):=λρ' H' s=>(aI.of (K:=K) (yk _ _ X4)).outs (cn (O1 (HU.trans DB) SI)) s;have fA:rO K ρ7 uX la (as.map V.int):=λρ' H' s=>(aI.of (K:=K) ((DB.trans gA) _ _ hla)).outs (cn (O1 g8 ab5)) s;have Rq:=XY.mono xw.tups;have ZA:st.own.length<100:=by rw[KI];omega
 refine⟨lz,Z,⟨_,aI.of Cj⟩,?_⟩;refine nN (K:=K) (xs:=[.ref lf,.ref ld]) (λi σ H'=>∃ρ' A' s X8,σ=[some (.ref a),some (.bl gb),some (.ref zo),some (.ref zn),some (.ref x),XR,some (.ref lp),s7,some (.ref lw),some (.ref la),some (.int (aq st)),some (.int as.sum),some (.ref lf),X8,none,none,none,none,none,none]/\A'.a=x/\HH T 0 ρ' A' H' s/\vZ st as fs nms.length (100*nms.length) i s/\aE (out ρ7 uX) (out ρ' H')) ⟨ρ7,A7,st,none,Z,ea7,Mv,abR SD,aE.refl _⟩ (λi σ H' _ ⟨_,_,_,_,_,_,_,_,o'⟩=>fZ _ _ o') ?_ ?_
 .rintro i y σ H' hy ⟨ρ',A',s',X8,rfl,ea',OZ,gs,o'⟩;obtain⟨l,xs,rfl,exs,hsq⟩:∃l xs,y =.ref l/\(shs as fs)[i]?=some xs/\aI K H' l (xs.map V.int):=by
   have hi:i<2:=(dW.mp hy).1;rcases(by omega:i=0\/i=1)with rfl|rfl
   .cases hy;exact⟨_,_,rfl,rfl,fF _ _ o'⟩
   .cases hy;exact⟨_,_,rfl,rfl,fD _ _ o'⟩
  obtain⟨xl,n1',n2'⟩:=gs.next G wf w0 exs (by omega) (by omega) ZA;have Fq:=Rq.mono (GQ Mv.g o');refine⟨λσ H2=>∃ρ2 A2 s2,σ=[some (.ref a),some (.bl gb),some (.ref zo),some (.ref zn),some (.ref x),XR,some (.ref lp),s7,some (.ref lw),some (.ref la),some (.int (aq st)),some (.int as.sum),some (.ref lf),some (.ref l),none,none,none,none,none,none]/\A2.a=x/\HH T 0 ρ2 A2 H2 s2/\vZ st as fs nms.length (100*nms.length) (i+1) s2/\aE (out ρ7 uX) (out ρ2 H2),⟨_,Z,l,_,Z,hsq,_,_,Z,Z,?_⟩,?_⟩
  .refine ⟨_,Z,?_⟩;unfold RQ;by_cases c:0<xs.sum
   .rw [aB (cI c)];obtain⟨ok',gn⟩:=n2' c;refine⟨_,Z,_,Z,_,Z,⟨⟨lp,l,us,st.ah,xs,Z,fP _ _ o',Fq,hsq,xl,by omega,λz H2 g2 hz=>?_⟩⟩⟩;refine⟨⟨0,ρ',A',s',z,rowsOf st.ah xs,by rw[ea'];rfl,bR.of hz,OZ.mono g2,ok',λr hr=>?_,dj (AN _ _) (by omega),λρ3 A3 H3 h3 e3 F3=>⟨ρ3,A3,_,Z,e3.trans ea',h3,gn,o'.trans ((lK g2).trans F3.out)⟩⟩⟩;obtain⟨j,p,v,e1,e2,rfl,e3⟩:=uI hr;have w7:=wo7 p (cg e1);have lw7:=W9 G exs e1 e2;exact⟨w7.2,e3,by show v<=_;omega⟩
   .rw [aA (by simpa using c)];exact⟨ρ',A',s',Z,ea',OZ,n1' c,o'⟩
  .rintro σ' H2 ⟨ρ2,A2,s2,rfl,e2,h2,g2,o2⟩;exact⟨ρ2,A2,s2,_,Z,e2,h2,g2,o2⟩
 rintro σ Sb ⟨ρ8,A8,s,X8,rfl,KL,KD,gs,o8⟩;have gs:vZ st as fs nms.length (100*nms.length) 2 s:=gs;have fS8:=X6.go o8;have SJ:=X7.go o8;have O2:=fP.go o8;have fW8:=fW.go o8;have fA8:=fA.go o8;have X_:=Rq.mono (GQ Mv.g o8);have r8:=aE.refl (out ρ8 Sb);have wl:∀{i:Nat}{p:Pt},st.ah[i]?=some p->(((st.ah.map λp=>p.wo).map V.int))[i]?=some (.int p.wo):=λh=>by rw[cz,cz,h];rfl
 clear X6 X7 fP fW fA fF fD fZ Rq o8 xw gA Mv Cj yk X4 Dz Rp DB hla g9 SG g8 X5 SI Bf SE SH X3 X0 hS9 HU hw9 O1 cn;refine⟨_,Z,lp,_,Z,.inl (O2 _ _ r8),_,Z,by omega,by omega,λlq hlq=>?_⟩;refine ia (J:=xT 0 _) (n:=us.length) 0 (λi out H'=>aE Sb H'/\eF H' out ((jW st.ah as).take i)) (by omega) ⟨aD hlq _,.nil⟩ (λj o H' hj _ _=>by show j<((us.length:Nat):Int).toNat;omega) (λo H' _ _=>by show((us.length:Nat):Int).toNat<=us.length;omega) ?_ ?_
 .rintro i y out H1 H2 hi Cb ha ⟨g,tN⟩ ⟨rfl,rfl⟩;have e0:(0:Int)+(i:Int)=((i:Nat):Int):=by omega
  rw[e0];obtain⟨p,av,fv,ep,ea,ef,ed,_⟩:=G.at_ (i:=i) (by omega);obtain⟨r,er,hr⟩:=X_.get ep;have DA:(as.map V.int)[i]?=some (.int av):=by rw[cz,ea];rfl
  have hsl:¬ (HT.dR (List.length [V.str p.nm,.str p.ow,.int p.wo,.int p.we]) 0 none=0/\HT.dR (List.length [V.str p.nm,.str p.ow,.int p.wo,.int p.we]) (List.length [V.str p.nm,.str p.ow,.int p.wo,.int p.we]) (some 2)=List.length [V.str p.nm,.str p.ow,.int p.wo,.int p.we]):=λz=>absurd z.2 (by show ¬ HT.dR 4 4 (some 2)=4;decide);refine⟨_,Z,_,Z,lp,_,_,_,Z,Z,g.seq (O2 _ _ r8),bh er,2,Z,r,_,Z,bR.of (g _ _ hr),hsl,λp1 hp1=>?_⟩;have q1:=aD hp1 (.tup [.str p.nm,.str p.ow]);have ab6:upd H2 p1 (.tup [.str p.nm,.str p.ow]) p1=some (.tup [.str p.nm,.str p.ow]):=ai;show Lk _ _ _ _ _ (upd H2 p1 (.tup [.str p.nm,.str p.ow]));generalize upd H2 p1 (.tup [.str p.nm,.str p.ow])=H3 at *;have gg:=g.trans q1;refine⟨_,Z,_,Z,lw,_,_,_,Z,Z,gg.seq (fW8 _ _ r8),bh (wl ep),_,Z,_,Z,la,_,_,_,Z,Z,gg.seq (fA8 _ _ r8),bh DA,_,_,Z,Z,_,Z,_,Z,lp,_,_,_,Z,Z,gg.seq (O2 _ _ r8),bh er,r,_,_,_,Z,Z,bR.of (gg _ _ hr),bh (j:=3) rfl,(kB 2),λp2 hp2=>?_⟩;have q2:=aD hp2 (.tup [.int (p.wo-av),.int p.we]);have ab7:upd H3 p2 (.tup [.int (p.wo-av),.int p.we]) p2=some (.tup [.int (p.wo-av),.int p.we]):=ai;show R7 _ _ _ (upd H3 p2 (.tup [.int (p.wo-av),.int p.we])) _;generalize upd H3 p2 (.tup [.int (p.wo-av),.int p.we])=H4 at *;refine⟨p1,p2,_,_,Z,Z,bR.of (q2 _ _ ab6),bR.of ab7,(kB 4),(λz=>nomatch z),(λ_ z=>nomatch z),λ_ _ p3 hp3=>?_⟩;have q3:=aD hp3 (.tup [.str p.nm,.str p.ow,.int (p.wo-av),.int p.we]);have ab8:upd H4 p3 (.tup [.str p.nm,.str p.ow,.int (p.wo-av),.int p.we]) p3=some (uz { p with wo:=p.wo-av }):=ai;show pF _ _ _ _ _ (upd H4 p3 (.tup [.str p.nm,.str p.ow,.int (p.wo-av),.int p.we]));generalize upd H4 p3 (.tup [.str p.nm,.str p.ow,.int (p.wo-av),.int p.we])=H5 at *;have Yb:=(q1.trans q2).trans q3;have ha5:=Yb _ _ ha;have tu:=iZ (o:=.lst (out++[.ref p3])) (.inr ⟨_,ha5,Z⟩);refine⟨ha5,(g.trans Yb).b9 hlq _,?_⟩;rw[take_snoc (Ux ep ea)];exact((tN.mono Yb.tups).mono tu).snoc (tu _ _ ab8)
 rintro out H14 Hw Mw ⟨g14,tN⟩;have lql:=Ra al;rw[show us.length=(jW st.ah as).length by omega,cG]at tN;have ol2:=tN.length;have pN:=wf.iD;refine⟨_,Z,lq,Z,⟨_,aI.of Mw⟩,λlr hlr=>?_⟩;refine BK (J:=xS K lq) (n:=out.length) 0 (λi o H'=>aE H14 H'/\eF H' o (((jW st.ah as).take i).filter λp=>decide (0<p.wo))) (by omega) ⟨aD hlr _,.nil⟩ (λi o H' hi _ hp=>⟨_,_,aI.of (hp.1 _ _ Mw),a_ hi⟩) (λo H' _ hp=>⟨_,aI.of (hp.1 _ _ Mw),aO _⟩) ?_ ?_
 .rintro i y o H1 H2 hi Cb ha ⟨g,hf⟩ ⟨rfl,hy⟩;have ep:=a_ (show i<(jW st.ah as).length by omega);generalize (jW st.ah as)[i]=p at ep;obtain⟨r,er,hr⟩:=tN.get ep;have ey:=hy _ (g.seq (aI.of Mw));rw[er]at ey;cases ey;have es:((jW st.ah as).take (i+1)).filter (λp=>decide (0<p.wo))=((jW st.ah as).take i).filter (λp=>decide (0<p.wo))++[p].filter (λp=>decide (0<p.wo)):=by rw[take_snoc ep,List.filter_append]
  refine⟨_,Z,r,_,_,_,Z,Z,bR.of (g _ _ hr),bh (j:=2) rfl,_,_,Z,Z,_,Z,?_⟩;unfold LF;by_cases c:0<p.wo
  .rw [aB (cI c)];have tu:=iZ (o:=.lst (o++[.ref r])) (.inr ⟨_,ha,Z⟩);refine⟨_,Z,ha,g.b9 hlr _,?_⟩;rw[es,show[p].filter (λp=>decide (0<p.wo))=[p] by simp[c]];exact(hf.mono tu).snoc (tu _ _ (g _ _ hr))
  .rw [aA (by simpa using c)];refine⟨ha,g,?_⟩;rw[es,show[p].filter (λp=>decide (0<p.wo))=[] by simp[c],pU];exact hf
 rintro o H15 abX Yc ⟨g15,Bf⟩;rw[ol2,cG]at Bf;have hb:pS st (k_ st as fs) s:=gs.GZ;have ws:=gs.gw.wf;have whs:aq s=aq st-as.sum:=by rw[hb.wh,G.lost]
 have qd:=G.left wf hb;have less:=G.less;have ol:=Bf.length;have fl2:((jW st.ah as).filter λp=>decide (0<p.wo)).length=s.ah.length:=by
  have:=fY List.length qd;unfold f7 at this
  rwa [aH,aH]at this
 have sp:0<s.ah.length:=by
  rcases Nat.eq_zero_or_pos s.ah.length with z|z
  .have e:s.ah=[] :=List.eq_nil_of_length_eq_zero z;have:aq s=0:=by unfold aq;rw[e];rfl
   omega
  .exact z
 have Yd:L4 s:=⟨ws,gs.gw.g.sz ws (by omega),(gs.gw.g.whole ws (by omega)).2,λo=>by unfold Kr;rw[hb.dN,sm.dN];exact(mQ (by decide +kernel):Jm.Sz 60 (0:Int))⟩
 have Ye:=g14.trans g15;have Yg:=KD.mono Ye;have spl:=gs.gw.g.pl;have nmP:WE s.ah:=λp hp=>⟨AB (gs.gw.g.nk _ (ws.sub p hp)),AB (gs.gw.g.on _ (ws.ow p hp))⟩
 refine⟨_,Z,x,A8.dx,_,Z,KL▸Yg.h.oa,Z,⟨⟨0,ρ8,A8,s,by rw[KL];rfl,Yg.h,by omega,λrp wsP H16 O3 _ ab9 ab_=>?_⟩⟩⟩;refine⟨_,Z,⟨⟨rp,lr,wsP,o,s.ah,Z,ab9,ab_,aI.of (O3 _ _ Yc),OM (Bf.mono O3.tups) qd,nmP,by omega,λSd Yh=>?_⟩⟩⟩;refine⟨_,Z,cL ?_⟩;have Rr:=Yh _ _ (O3 _ _ Yc);refine⟨_,Z,lr,_,Z,.inl (aI.of Rr),?_⟩;have eL:decide (V.int (o.length:Int)=V.int 0)=false:=ee λz=>by injection z;omega
 refine⟨Z,_,Z,?_⟩;unfold RH;rw[eL];refine cL ?_;have Ck:=Ye.trans (O3.trans Yh);have ZC:=Bf.mono (O3.trans Yh).tups;refine⟨_,Z,_,Z,_,Z,lr,_,Z,.inl (aI.of Rr),d8 (Ck.seq (fS8 _ _ r8)) h63 (by decide) (by decide) (by omega) (by omega) λd _ d0 d1=>?_⟩;obtain⟨j,rfl⟩:∃j:Nat,d=(j:Int):=⟨d.toNat,by omega⟩
 have nI:=a_ (show j<s.ah.length by omega);generalize s.ah[j]=p' at nI;obtain⟨p1,OQ,en1,HR,_⟩:=G_ qd nI;obtain⟨r1,er1,hr1⟩:=ZC.get OQ;refine⟨lr,_,_,_,Z,Z,aI.of Rr,bh er1,?_⟩;have eO:=cg nI;refine⟨_,Z,_,Z,_,Z,⟨⟨zo,lp,la,own,us,st.ah,as,Z,Ck.seq (SJ _ _ r8),Ck.seq (O2 _ _ r8),X_.mono Ck.tups,Ck.seq (fA8 _ _ r8),al,by omega,by omega,λlg H18 g18 _ acd=>?_⟩⟩⟩;have Mx:=Ck.trans g18;have Yi:=g18 _ _ hr1;refine⟨_,Z,zo,_,Z,.inl (Mx.seq (SJ _ _ r8)),_,Z,by omega,by omega,λlt hlt=>?_⟩;rw[OY];refine ia (J:=xT 0 _) (n:=own.length) 0 (λi out H'=>aE H18 H'/\out=((oF own st.ah as (aq st-as.sum) p1.ow).take i).map V.int) (by omega) ⟨aD hlt _,Z⟩ (λj o H' hj _ _=>by show j<((own.length:Nat):Int).toNat;omega) (λo H' _ _=>by show((own.length:Nat):Int).toNat<=own.length;omega) ?_ ?_
 .rintro i y out H1 H2 hi Cb ha ⟨g,e⟩ ⟨rfl,rfl⟩;have e0:(0:Int)+(i:Int)=((i:Nat):Int):=by omega
  rw[e0];have eo:=a_ hi;generalize own[i]=o2 at eo;have eov:(own.map V.str)[i]?=some (.str o2):=by rw[cz,eo];rfl
  have Yj:((own.map (i_ st.ah as)).map V.int)[i]?=some (.int (i_ st.ah as o2)):=by rw[cz,cz,eo];rfl
  obtain⟨k1,hk1,hk2⟩:∃k1:Int,(if decide (V.str o2=V.str p1.ow)=true then(1:Int) else 0)=k1/\k1=if o2=p1.ow then 1 else 0:=⟨_,rfl,by
   by_cases c:o2=p1.ow
   .rw [aB c,aB (cI (by rw[c]))]
   .rw [aA c,aA (by simpa using λz:V.str o2=V.str p1.ow=>c (by injection z))]⟩
  refine⟨_,Z,_,Z,zo,_,_,_,Z,Z,(Mx.trans g).seq (SJ _ _ r8),bh eov,_,Z,r1,_,_,_,Z,Z,bR.of (g _ _ Yi),bh (j:=1) rfl,Z,.inr ⟨_,Z,?_⟩⟩;rw[hk1];refine⟨_,Z,_,Z,_,_,Z,Z,_,_,Z,Z,?_,_,Z,_,Z,lg,_,_,_,Z,Z,g.seq (aI.of acd),bh Yj,_,_,Z,Z,ha,g.b9 hlt _,?_⟩
  .rw [hk2];by_cases c:o2=p1.ow
   .rw [aB c];exact .inl ⟨by decide,by decide⟩
   .rw [aA c];exact .inl ⟨by decide,by decide⟩
  subst e;rw[take_snoc (Rg (ps:=st.ah) (as:=as) (k:=aq st-as.sum) (o1:=p1.ow) eo),b7,hk2];rfl
 rintro aeW H19 _ ace ⟨g19,e⟩;have tgl:(oF own st.ah as (aq st-as.sum) p1.ow).length=own.length:=by unfold oF;rw[aH]
 rw[<-tgl,cG]at e;subst e;have Rt:=Mx.trans g19;have Ru:=KD.mono Rt;have wz:=(SD.g.whole wf (by omega)).2;have kn8:=gs.gw.kn;have how:∃p∈st.ah,p.nm=p'.nm/\p.ow=p'.ow:=by obtain⟨p,hp,a1,a2⟩:=Rc (om.mp (cg OQ)).1;exact⟨p,hp,a1.trans en1,a2.trans HR⟩
 have esh:=G.shares wf ws sm w0 hb eO how;rw[KI,<-HR]at esh;refine⟨_,Z,x,A8.dx,_,Z,KL▸Ru.h.oa,Z,_,Z,r1,_,_,_,Z,Z,bR.of (g19 _ _ Yi),bh (j:=0) rfl,⟨⟨0,ρ8,A8,s,j,p',by rw[KL,<-en1];rfl,Ru,nI,by omega,λrs wsS H20 Yk Yl _ acf aeX Ym=>?_⟩⟩⟩;rw[esh]at Ym;have V0:ρ8 lt=none:=(KD.mono Mx).g.none hlt;have acg:=(Yl.at ace V0).1;have SK:=(lK (ρ:=ρ8) Rt).trans Yl.out;have My:=SJ.go SK;have ach:=fS8.go SK;have aci:=O2.go SK;have acj:=fW8.go SK;have ack:=(X_.mono Rt.tups).mono (Yl.tup Ru.g);have HV:=aE.refl (L2.out ρ8 H20);refine⟨_,Z,_,Z,_,Z,⟨⟨rs,zo,lt,wsS,own,_,aq st,Z,acf,Ym,My _ _ HV,aI.of acg,by omega,by omega,w0,wz.mono (by omega),λH21 HW=>⟨_,Z,cL ?_⟩⟩⟩⟩;refine⟨_,Z,_,Z,zo,_,Z,.inl (HW.seq (My _ _ HV)),d8 (HW.seq (ach _ _ HV)) h63 (by decide) (by decide) (by omega) (by omega) λsd _ s0 s1=>?_⟩;obtain⟨js,o2,ejs,O4,Sx⟩:=FZ (l:=own) s0 (by omega);have aeY:=Sx;subst ejs;have Yj:((own.map (i_ st.ah (st.ah.map λp=>p.wo))).map V.int)[js]?=some (.int (i_ st.ah (st.ah.map λp=>p.wo) o2)):=by rw[cz,cz,O4];rfl
 refine⟨_,Z,_,Z,_,Z,⟨⟨zo,lp,lw,own,us,st.ah,st.ah.map λp=>p.wo,Z,HW.seq (My _ _ HV),HW.seq (aci _ _ HV),ack.mono HW.tups,HW.seq (acj _ _ HV),aH ..,by omega,by omega,λlh H22 g22 _ acm=>?_⟩⟩⟩;refine⟨_,Z,lh,_,_,_,Z,Z,aI.of acm,bh Yj,?_⟩;have Yn:=HW.trans g22;have hhA:=Yk.mono Yn;have ho2:o2∈s.own:=by rw[hb.own,KI];exact cg O4
 have ok2:L4 { s with kn:=s.kn+100 }:=⟨Yk.wf,Yd.wo,Yd.wh,Yd.la⟩
 refine⟨_,Z,x,A8.dx,_,Z,KL▸hhA.h.oa,Z,_,Z,_,Z,zo,_,_,_,Z,Z,Yn.seq (My _ _ HV),Sx,⟨⟨0,ρ8,A8,_,o2,by rw[KL];rfl,hhA.h,ok2,ho2,λrr H23 g23 acn=>?_⟩⟩⟩;have hjl:js<st.own.length:=by rw[KI];exact(dW.mp O4).1
 have ejx:s.own.idxOf o2=js:=by rw[hb.own,KI,<-(dW.mp O4).2];exact jT.idxOf_getElem js _
 have P1:0<s.prod:=by have:=ws.c6;omega
 have e1:OB { s with kn:=s.kn+100 } o2=Jm.fr (i_ st.ah (st.ah.map λp=>p.wo) o2*(aq st-as.sum)) (aq st):=by
  show Jm.fr (fC s (s.own.idxOf o2)) s.prod=_;rw[ejx];refine Jm.LC P1 w0 ?_;have h1:=gs.yh js hjl;rw[GY wf sm (o:=o2) (by rw[KI];exact O4),sm.prod,mH,whs]at h1;rw[h1]
  grind
 refine⟨_,Z,_,Z,_,Z,_,_,Z,Z,_,_,Z,Z,?_,_,Z,Nu acn w0 (wz.mono (by omega)) e1 λH24 _=>q H24⟩;have zz:(aq st).natAbs<2 ^ 60:=wz;have as0:0<=as.sum:=(AH λv hv=>by obtain⟨i,hi,e⟩:=oZ hv;have:=ok.lo i;rw[dP,a_ hi,e]at this;exact this).1;exact .inr ⟨by omega,by omega⟩
end
def all_mk{l:PySem.W.OpenLaw}{w:World}{K:Fg}{h:Heap}{mg:SO}{fa:Addr}(X:K.In h)(G:h.Ns mainGlobals mg)(hfa:mg "law"=some (.ref fa)){f:Addr}{od an:Option Addr}{sl:Array (Option Value)}{oc kV dc pm cd ct:Value}(a:PySem.W.nsIn K mainGlobals "law"=some (some (.ref f)))(l1:K.lookup f=some ⟨oc,od,.func (PySem.W.fnOf "law" "law" (dS nH) (cN nH) (aC nH) .none kV dc pm an cd ct),sl⟩)(c:PySem.W.codeIn K cd "law"=true)(k:PySem.W.keepIn K (.ref f)=true)(Bg:dw K "common_factor" lO)(O5:dw K "made_of" uJ)(O6:dw K "is_name" uK)(Cm:dw K "check_amount" nc)(HX:dw K "check_loss" pG)(HY:dw K "amounts_of" pH)(Bh:dw K "factor_of_all" lP)(Yo:dw K "fits" Cf)(UA:dw K "sound" yZ)(O7:dw K "rows_of" uN)(O8:dw K "perform" uO)(Jf:dw K "_law_draw" qR)(Jg:dw K "_law_name" qS)(xH:dw K "_law_many_names" j0)(Jh:dw K "_law_much" qT)(Co:dw K "_law_amounts" nF)(Mz:dw K "_law_int" sJ)(HZ:dw K "_law_least" pQ)(O9:dw K "_law_is" uP)(za:dw K "_law_part_list" kI)(xJ:dw K "_law_share_list" j6)(xK:dw K "_law_own_stakes" j7)(zb:dw K "_law_cast_deed" kK)(ZD:PySem.W.nsIn K mainGlobals "len"=some none)(UB:PySem.W.nsIn K mainGlobals "range"=some none)(ZE:PySem.W.nsIn K mainGlobals "sum"=some none)(Yp:PySem.W.nsIn K mainGlobals "list"=some none)(ZF:PySem.W.nsIn K mainGlobals "zip"=some none)(ZG:PySem.W.nsIn K mainGlobals "all"=some none)(ZH:PySem.W.nsIn K mainGlobals "int"=some none)(Yq:PySem.W.nsIn K mainGlobals "bool"=some none)(ZI:PySem.W.nsIn K mainGlobals "str"=some none)(UC:PySem.W.nsIn K mainGlobals "tuple"=some none)(ZJ:PySem.W.nsIn K mainGlobals "abs"=some none)(H_:PySem.W.nsIn K mainGlobals "isinstance"=some none)(ZK:PySem.W.nsIn K mainGlobals "min"=some none)(ZL:PySem.W.nsIn K mainGlobals "max"=some none){MA:Tok}(O_:PySem.W.nsIn K mainGlobals "LETTERS"=some (some (.str "abcdefghijklmnopqrstuvwxyz" MA))){UD:Tok}(Yr:PySem.W.nsIn K mainGlobals "MOST"=some (some (.int 1000000000 UD))){cy:Addr}(UE:PySem.W.nsIn K mainGlobals "Hold"=some (some (.ref cy)))(UG:PySem.W.plainGet K cy Str.empty=true)(UH:PySem.W.hasDictIn K cy=true)(UI:PySem.W.plainOver K cy=true)(UJ:PySem.W.findIn K (.ref cy) "__setattr__"=some (some (.builtin "object.__setattr__")))(UK:PySem.W.makesIn K cy=true)(UL:PySem.W.keepIn K (.ref cy)=true)(Ji:c9 K cy "__init__" "Hold.__init__" qM)(Bj:c9 K cy "place_of" "Hold.place_of" lR)(Cp:c9 K cy "part_of" "Hold.part_of" nj)(zd:c9 K cy "check_new" "Hold.check_new" kG)(Ia:c9 K cy "parts" "Hold.parts" pJ)(Ib:c9 K cy "whole" "Hold.whole" pK)(uQ:c9 K cy "beyond_common" "Hold.beyond_common" jb)(Cq:c9 K cy "tops_of" "Hold.tops_of" nt)(Jj:c9 K cy "stow" "Hold.stow" qI)(Jk:c9 K cy "sign" "Hold.sign" qJ)(Jl:c9 K cy "load" "Hold.load" qK)(DZ:c9 K cy "shares" "Hold.shares" n8)(Bk:c9 K cy "given_up" "Hold.given_up" lT)(D0:c9 K cy "lessen" "Hold.lessen" nZ)(Ic:c9 K cy "blend" "Hold.blend" pL)(Jo:c9 K cy "cast" "Hold.cast" qN)(ze:c9 K cy "stake_top" "Hold.stake_top" kH)(Ie:c9 K cy "stake" "Hold.stake" pP)(D3:PySem.W.findIn K (.ref cy) "places"=some none)(D4:PySem.W.findIn K (.ref cy) "aboard"=some none)(D5:PySem.W.findIn K (.ref cy) "ashore"=some none)(Ig:PySem.W.findIn K (.ref cy) "names"=some none)(D6:PySem.W.findIn K (.ref cy) "bottom"=some none)(D7:PySem.W.findIn K (.ref cy) "common"=some none)(D8:PySem.W.findIn K (.ref cy) "purses"=some none){gv:Addr}(UM:PySem.W.nsIn K mainGlobals "Part"=some (some (.ref gv)))(UN:PySem.W.plainGet K gv Str.empty=true)(UO:PySem.W.hasDictIn K gv=true)(UP:PySem.W.plainOver K gv=true)(UQ:PySem.W.findIn K (.ref gv) "__setattr__"=some (some (.builtin "object.__setattr__")))(UR:PySem.W.makesIn K gv=true)(US:PySem.W.keepIn K (.ref gv)=true)(Jp:c9 K gv "__init__" "Part.__init__" qH)(Jq:PySem.W.findIn K (.ref gv) "name"=some none)(Ih:PySem.W.findIn K (.ref gv) "owner"=some none)(Ii:PySem.W.findIn K (.ref gv) "worth"=some none)(D9:PySem.W.findIn K (.ref gv) "weight"=some none)(Ij:PySem.W.findIn K (.ref gv) "scale"=some none)(MB:PySem.W.findIn K (.ref gv) "row"=some none){dH:Addr}(Pa:PySem.W.nsIn K mainGlobals "Bottom"=some (some (.ref dH)))(Pb:PySem.W.plainGet K dH Str.empty=true)(Pc:PySem.W.hasDictIn K dH=true)(Pd:PySem.W.plainOver K dH=true)(Pe:PySem.W.findIn K (.ref dH) "__setattr__"=some (some (.builtin "object.__setattr__")))(Pf:PySem.W.makesIn K dH=true)(Pg:PySem.W.keepIn K (.ref dH)=true)(D_:c9 K dH "__init__" "Bottom.__init__" nX)(Ea:c9 K dH "over" "Bottom.over" n6)(Cr:c9 K dH "share" "Bottom.share" nC)(Eb:c9 K dH "grow" "Bottom.grow" nY)(Cs:PySem.W.findIn K (.ref dH) "steps"=some none)(zf:PySem.W.findIn K (.ref dH) "product"=some none)(Ct:PySem.W.findIn K (.ref dH) "known"=some none)(fa_:qc w K)
  :∃fd:FuncData,(∀(s:Shared)(v:Value),BindsTo s fd ⟨[v],[]⟩ [("_law_script",v)])/\∀base:Heap,K.In base->base.Ns mainGlobals mg->iT l.prog w K mg base qh 8 fa fd ["_law_script"] (EC K):=by
 have e:=hfa.symm.trans (t_ X G a)
 cases e
 have ZM:=RP (st:=nH) X G a l1 c k
 have rV:mO K dH:=⟨Pb,Pc,Pd,Pe⟩
 have dU:mO K cy:=⟨UG,UH,UI,UJ⟩
 obtain⟨_,_,Bl⟩:=Bg.at X G
 obtain⟨_,_,Ph⟩:=O5.at X G
 obtain⟨_,_,Pj⟩:=O6.at X G
 obtain⟨_,_,Cu⟩:=Cm.at X G
 obtain⟨_,_,Ik⟩:=HX.at X G
 obtain⟨_,_,Il⟩:=HY.at X G
 obtain⟨_,_,Bm⟩:=Bh.at X G
 obtain⟨_,_,Ys⟩:=Yo.at X G
 obtain⟨_,_,UT⟩:=UA.at X G
 obtain⟨_,_,Pk⟩:=O7.at X G
 obtain⟨_,_,Pn⟩:=O8.at X G
 obtain⟨_,_,Jr⟩:=Jf.at X G
 obtain⟨_,_,Js⟩:=Jg.at X G
 obtain⟨_,_,xM⟩:=xH.at X G
 obtain⟨_,_,Jt⟩:=Jh.at X G
 obtain⟨_,_,Cv⟩:=Co.at X G
 obtain⟨_,_,MC⟩:=Mz.at X G
 obtain⟨_,_,Im⟩:=HZ.at X G
 obtain⟨_,_,Po⟩:=O9.at X G
 obtain⟨_,_,zg⟩:=za.at X G
 obtain⟨_,_,xN⟩:=xJ.at X G
 obtain⟨_,_,xO⟩:=xK.at X G
 obtain⟨_,_,zh⟩:=zb.at X G
 have bg:=mz X G ZD
 have bU:=mz X G UB
 have eY:=mz X G ZE
 have jz:=mz X G Yp
 have gE:=mz X G ZF
 have xo:=mz X G ZG
 have nE:=mz X G ZH
 have HL:=mz X G Yq
 have oM:=mz X G ZI
 have gX:=mz X G UC
 have Mp:=mz X G ZJ
 have bH:=mz X G H_
 have Ml:=mz X G ZK
 have Mg:=mz X G ZL
 have v7:=t_ X G O_
 have HD:=t_ X G Yr
 obtain⟨_,_,Ju⟩:=Ji.made X G UE UK UL
 obtain⟨_,_,Bo⟩:=Bj.at dU
 obtain⟨_,_,Cw⟩:=Cp.at dU
 obtain⟨_,_,zj⟩:=zd.at dU
 obtain⟨_,_,Io⟩:=Ia.at dU
 obtain⟨_,_,Ip⟩:=Ib.at dU
 obtain⟨_,_,uR⟩:=uQ.at dU
 obtain⟨_,_,Cy⟩:=Cq.at dU
 obtain⟨_,_,Jv⟩:=Jj.at dU
 obtain⟨_,_,Jw⟩:=Jk.at dU
 obtain⟨_,_,Jx⟩:=Jl.at dU
 obtain⟨_,_,Ed⟩:=DZ.at dU
 obtain⟨_,_,Bp⟩:=Bk.at dU
 obtain⟨_,_,Ef⟩:=D0.at dU
 obtain⟨_,_,Iq⟩:=Ic.at dU
 obtain⟨_,_,Jy⟩:=Jo.at dU
 obtain⟨_,_,zm⟩:=ze.at dU
 obtain⟨_,_,Ir⟩:=Ie.at dU
 obtain⟨_,_,Jz⟩:=Jp.made X G UM UR US
 obtain⟨_,_,Eg⟩:=D_.made X G Pa Pf Pg
 obtain⟨_,_,Eh⟩:=Ea.at rV
 obtain⟨_,_,Cz⟩:=Cr.at rV
 obtain⟨_,_,Ei⟩:=Eb.at rV
 have TX:Txt K ⟨cy,gv,dH⟩:=⟨dU,⟨UN,UO,UP,UQ⟩,rV,D3,D4,D5,Ig,D6,D7,D8,Jq,Ih,Ii,D9,Ij,MB,Cs,zf,Ct⟩
 obtain⟨aF,aP,xu,HF,FG⟩:=fa_.at (P:=l.prog) X G
 refine⟨PySem.W.fnOf "law" "law" (dS nH) (cN nH) (aC nH) .none kV dc pm an cd ct,λs v=> .of_eq rfl,λbase _ _=>?_⟩
 have gf:=yP (P:=l.prog) (w:=w) (base:=base) (mg:=mg) Bl
 have v5:=Mb (P:=l.prog) (w:=w) (base:=base) (mg:=mg) Ph xo
 have iA:=Me Pj v5 bg v7
 have rW:=yQ (P:=l.prog) (w:=w) (base:=base) (mg:=mg) (e:=⟨0,0,0,0,0,0,0,0,0,0,0⟩) Cu
 have Ej:=B3 Ik rW
 have tH:=W6 rW
 have qP:=W7 Ej
 have qO:=DK (P:=l.prog) (w:=w) (base:=base) (mg:=mg) Il bg
 have nv:=yR Bm gf
 have yW:=B5 (P:=l.prog) (w:=w) (base:=base) (mg:=mg) Eg TX
 have Ht:=Hi (P:=l.prog) (w:=w) (base:=base) (mg:=mg) Jz TX jz
 have HP:=Hv Ju TX yW
 have pM:=B7 (P:=l.prog) (w:=w) (base:=base) (mg:=mg) Ei TX
 have gW:=Cc Eh TX gf
 have n_:=Bb Cz TX gW
 have zq:=xy (P:=l.prog) (w:=w) (base:=base) (mg:=mg) (e:=⟨0,0,0,0,0,0,0,0,0,0,0⟩) Bo TX
 have gh:=Q6 zq
 have Bq:=yU (P:=l.prog) (w:=w) (base:=base) (mg:=mg) (e:=⟨0,0,0,0,0,0,0,0,0,0,0⟩) Cw TX
 have gI:=OG Bq
 have xP:=v8 (e:=⟨0,0,0,0,0,0,0,0,0,0,0⟩) zj TX iA
 have lS:=W5 xP
 have qU:=DO (P:=l.prog) (w:=w) (base:=base) (mg:=mg) Io TX
 have jc:=DQ (P:=l.prog) (w:=w) (base:=base) (mg:=mg) Ip TX eY
 have jq:=tL (P:=l.prog) (w:=w) (base:=base) (mg:=mg) uR TX gE
 have n9:=AZ (P:=l.prog) (w:=w) (base:=base) (mg:=mg) Cy TX gE
 have su:=Hq (P:=l.prog) (w:=w) (base:=base) (mg:=mg) Jv TX
 have sM:=Hr Jw TX iA bg
 have sO:=Hs Jx TX lS gh jq su Ht bg
 have nA:=yX (P:=l.prog) (w:=w) (base:=base) (mg:=mg) Bp TX eY gE
 have pO:=Ca (P:=l.prog) (w:=w) (base:=base) (mg:=mg) Ef TX
 have qQ:=DS Iq TX nv pM gE
 have sH:=Hz Jy TX qO qP gI jc qQ nA pO eY
 have CA:=Ce Ed TX gI n9 n_ gE
 have lU:=xB zm TX jc eY
 have qV:=DW Ir TX gW lU gh
 have HE:=Uy Ys iA bH oM nE HD
 have Cg:=Rl UT HE bg Mg xo gE xu HF FG
 have wj:=Mi (P:=l.prog) (w:=w) (base:=base) (mg:=mg) Pk bg bU
 have wD:=Mj (T:=⟨cy,gv,dH⟩) Pn Cg wj sH
 have bM:=HG (P:=l.prog) (w:=w) (base:=base) (mg:=mg) Jr bg bU
 have oO:=HJ (P:=l.prog) (w:=w) (base:=base) (mg:=mg) Js bU
 have iQ:=wm xM bM oO bU
 have sL:=HK Jt bM
 have oh:=Be Cv bM bU jz bg eY Ml
 have iB:=Je (P:=l.prog) (w:=w) (base:=base) (mg:=mg) MC bH nE HL
 have jd:=DX (P:=l.prog) (w:=w) (base:=base) (mg:=mg) Im Mp
 have mw:=Mr Po iB jd bH gX bg
 have lW:=xD zg iB bH jz gX oM bU bg
 have kM:=wA xN jd mw bH jz gX oM bU bg
 have iR:=wC (P:=l.prog) (w:=w) (base:=base) (mg:=mg) xO bg bU eY
 have lV:=xG (P:=l.prog) (w:=w) (base:=base) (mg:=mg) zh bg bU gX
 exact XF ZM bM iQ sL oh HP sM sO lV wD qU lW iR CA kM qV mw bg bU nE eY
def walk{l:PySem.W.OpenLaw}{q:Program}{loose:Cl Str}{XP:(Str->Option Value)->Heap->Prop}{YP:World->Heap->Prop}{d:DefRec}{K:Params->Fg}(hn:l.most=some 63)(hdf:d.params.defaults=[])(hY:∀(w:World) (h:Heap),YP w h->(K w.params).In h)(F:∀(w:World) (mg:SO) (fa:Addr) (h:Heap),(K w.params).In h->h.Ns mainGlobals mg->mg d.name=some (.ref fa)->
    ∃fd:FuncData,(∀(s:Shared) (u:Value),BindsTo s fd ⟨[u],[]⟩ [("_law_script",u)])/\∀base:Heap,(K w.params).In base->base.Ns mainGlobals mg->iT l.prog w (K w.params) mg base qh 8 fa fd ["_law_script"] (EC (K w.params))):
  PySem.W.WalkO q loose XP YP l.row.toRowW d [] (λf vs=>PySem.call f vs):=
 L2.Ti (n:=63) (k:=8) (x:="_law_script") (CX:=λ_=>qh) (sp:=λw=>EC (K w.params)) hn (by decide) hdf ⟨Z,by decide,by decide⟩ hY F (λ_ _ a ns hl _ hS=>⟨a,ns,Z,hS,hl,λ_=>rfl⟩) λ_ _ _ _ _ z=>z
end W_
namespace PySem.W
set_option genInjectivity false
structure Fast:Prop where(tw1480450062421746227 tw12921708071579009347 tw519364240956196182 tw16682347399162898581 tw3464629043521395002 tw7477002973337867454 tw99681295246413299 tw1570013528612696048 tw4489388095082351037 tw7016538993937059687 tw16313537629902187959 tw11549553038142279064 tw15988882170454744333 tw13929852602516099082 tw10134312584491222126 tw395268485901858739 tw9619636732143068146 tw9842119134984506761 tw11233587802928577818 tw14217649821118639951 tw7161730008459191643 tw5577216681272067257 tw6768596092331951388 tw2183673409932292767 tw12038230782842295216 tw5918870188067623311 tw15213674957243006162 tw13641315432811828684 tw10839928865705889563 tw17332134484975892799 tw14635886523632518879 tw2974638490076739025 tw14302190611394068142 tw7623839300544821359 tw9880032922328926336 tw9584478202599610206 tw8033271381894198709 tw15730641192159205494 tw4406511680593123266 tw5720036109409083376 tw17848207088135037393 tw3725070433175433209 tw9820806009345062408 tw17654218441946939708 tw1158818510318827649 tw936053581222385447 tw15640901420598676628 tw15355221275364870804 tw16535351888708546710 tw16491236259864796718 tw10847562515621209210 tw16491981485994572678 tw5288507406310866280 tw2861195265947047613 tw8640755678076422872 tw2946025268855181186 tw13303798955652449865 tw14413943677953176067 tw18383983524848973967 tw15893476959616301641 tw11059475274955518254 tw6685884671767953354 tw5000707164064935194 tw2070986352358381344 tw11359041065120094491 tw17846358786822029199 tw2926718433760781817 tw13478639351334958478 tw15888404072981485255 tw290357867655490628 tw18168983070663203353 tw17154963427994809859 tw17936137614760022718 tw2095625819022664003 tw18430355879073144188 tw18180574322668504440 tw4275672476339671038 tw2931095642157679640 tw10510694631424326402 tw12641036676401493882 tw11892384574706503142 tw8417636098777370092 tw10471093075133571758 tw4726798575807729560 tw6767837103810420012 tw5080720885409788195 tw4519248468784297966 tw13121485008481944535 tw18183981458635934045 tw1968586074180347723 tw6777167356655009672 tw15369059231054452596 tw11712607985108124189 tw5924763256675481164 tw9245147238188494191 tw16930801251905180174 tw4394601280779235785 tw6396469663356306914 tw4023262245111401340 tw17259654195224852617 tw2975694449632639717 tw9240501025530553734 tw803167940991249707 tw14383542553343036632 tw2871928175038333162 tw7940736270625933214 tw7156578497907181869 tw473531629095363239 tw664397189592286963 tw14921692665423638919 tw8506907071036614302 tw7754299034205828009 tw11908625757710835319 tw14205695750599585982 tw4059844331845378870 tw2689946560550651936 tw17313283148523659153 tw15327515860582209071 tw14220728748307378963 tw17487420470838635782 tw1226100419937569303 tw17874480991550651186 tw7356191270670059108 tw15142085831170521714 tw3566049166076775288 tw12079764377067314390 tw1435928606375563873 tw9358038127416401793 tw10847201282568672942 tw8933933124115467946 tw11186679601218729035 tw2708896750015095919 tw5614609252380069599 tw396981860740711434 tw1211578586146674359 tw4980697035625189225 tw5736269890620285219 tw9060931960888641031 tw5139300547324832989 tw16461219449279052575 tw211365979365644676 tw11501851226745574607 tw7031208276209471490 tw6670041806400243809 tw5996498284522444987 tw10153942540444143633 tw17881938015122894340 tw8868558963658549451 tw15288465292961648188 tw10801364911569068478 tw12124032038865619732 tw6682707185532479007 tw8184027870056340961 tw12037203067448837283 tw8141295947462753720 tw10289838152461416085 tw538734238806547550 tw15422074202578471670 tw9098458570069186069 tw11350534223748902779 tw446161226507151020 tw14451344812072705431 tw10774940931360250056 tw17059660764261983071 tw18149054413598897560 tw9727768054884288841 tw6915569686595005000 tw6377680428781615441 tw17589557197141248677 tw5206179409361488430 tw598370388681137525 tw10159160942829296603 tw885890839909733685 tw8122008858024862493 tw7875741103484517970 tw7196281488395130197 tw7513752259790552639 tw11628142122396396112 tw1447126895096512575 tw5672753490637093164 tw7252389031969265562 tw4327493406141552309 tw14485882126535912228 tw11444944702682933091 tw16252999949845337494 tw17116702745728534777 tw7446028909144395187 tw559719869161165806 tw4183363090460817947 tw4764389595982116727 tw9720117100984070650 tw13135458562084491625 tw5151683339844660250 tw9161013606700748206 tw12215966112843687822 tw14000769441579443994 tw2792034206041333459 tw12400632848629898359 tw17809650612105061053 tw15074955125078940466 tw2827088124420283590 tw17179776153373330930 tw8326380163316270694 tw12519759867733206200 tw15941897699345618461 tw9369572325182500446 tw346742639643288048 tw6286932733318762867 tw17741018938358422734 tw7019758848172896446 tw5794482203930908926 tw3109328838870372618 tw3568928483604636205 tw6871625663740743438 tw15172606821550771927 tw18376759597389597157 tw17102253561612202630 tw7043261337323884052 tw1616106464048410647 tw5180291101062618793 tw17712388286215572068 tw8177070755045778776 tw5332298247985799016 tw15361853346225094837 tw3529571209603978570 tw18410788371633495690 tw6234407812753303171 tw5476777762455250454 tw8858513832055203984 tw1958167578987584792 tw1756078063177670598 tw5086735292414337771 tw5056428653258832154 tw7582369591816755271 tw11595620361190427501 tw4462070943096025346 tw12090747340143517666 tw17989947361375984997 tw10849718116382917997 tw4004711587506179499 tw16768789407870642104 tw14769078670245825217 tw793957901901441928 tw12829210084402001774 tw6686066783825967233 tw16544067960101852628 tw11037944448938608783 tw9882751150058369263 tw17445128368124968328 tw8151964261204289045 tw15540976611118108149 tw13489530853067620833 tw16063908386372201207 tw9650571705788259343 tw17452428761205034979 tw516995556599232454 tw600613166402759425 tw16200291540069855433 tw15866883704628343253 tw18001449162929010896 tw7477103908024311348 tw17773060030620080831 tw11154450590176241821 tw9773344990476548166 tw3293263970847477557 tw5531409818429319326 tw2104399729317482085 tw2900636363483450421 tw4211412516158749390 tw10568270549929444283 tw17405472692463899522 tw3029858746988666437 tw5927796234547469730 tw1733020179556190636 tw14626204168382697456 tw11846462191004887520 tw17630130624715728437 tw12360449517160871286 tw8557727882343026785 tw4069579306556036157 tw9011362805214599711 tw15224096239910060387 tw6313597096651831728 tw15352944498421662623 tw6909623977258943954 tw17061212699552833314 tw3410680378010226126 tw6444212878350334028 tw12371320351408225231 tw9644343070616844425 tw2106942553117075799 tw11458912592293047965 tw1855112257789697671 tw11938967628108420963 tw6626876587284756727 tw12428013989822006987 tw6769481239883879117 tw16446652041467406165 tw14071474854750398491 tw8599823586686976371 tw16215784178675932422 tw3339278209436461701 tw9196702167788829239 tw7948752813856482115 tw10957624160937429986 tw17378479201526475769 tw14491894645182951883 tw940771535080681918 tw3878959072622034407 tw8046579555717178738 tw13302849459781651409 tw7784098347320811101 tw18123943047815341481 tw6095154334209859893 tw11884223422405267849 tw18286651561900475521 tw17742958082750592575 tw11008189123852539876 tw407957696720782219 tw8140320713503970807 tw2654339558036599405 tw14900013957144484476 tw12841674887612485046 tw11696949437895006710 tw13504694009695167594 tw14129490805541594502 tw8293011897887413440 tw12147182466942786746 tw17859718507344229667 tw13111681297798042798 tw7367285925418497180 tw2678201123764793990 tw5183838569018315152 tw6514318903769923465 tw1034985883936891678 tw15854779242251351388 tw14397357888032582823 tw11875693299829930061 tw14902017322562905139 tw9213280411919727426 tw14880534219287525517 tw6498437682884505249 tw14754897739903384197 tw13329775614282950606 tw6256510413617492900 tw6729890270509963660 tw11938685074584398543 tw5420646955829797693 tw8705850398990789092 tw2266165934757229176 tw16669763597525886985 tw14203467642257685512 tw15973496067663907141 tw16339077323509573214 tw16495485224457148703 tw6235280953300169209 tw11906865523457758002 tw17847076530610451665 tw15231467466391588796 tw15699087091654042337 tw18340057059295502299 tw15976030578366726364 tw4366546738480750684 tw5865372984079989692 tw6649921256982441434 tw11591158860127707552 tw1936385740333532290 tw6929590824607714945 tw2477571152552295430 tw7367414871738680790 tw1716458161008946958 tw17327658173930583605 tw3058507580668155056 tw675282863146040840 tw3405088206970919192 tw3350474607303415246 tw2571512059767743770 tw13186930689806086064 tw10981421332096464304 tw13317918721391792012 tw14307466861578931115 tw3360496371238431752 tw10390669252826594672 tw14407223025573822536 tw5430014029060356275 tw5138436753488377099 tw13886379446677047340 tw7062406867934833093 tw6298423550628405076 tw5786898275000214020 tw11664040265089930284 tw8988562559390896130 tw12526650729371782528 tw7213314502200684212 tw5268387706851404372 tw816724605403744224 tw15315937751165206241 tw2648481628085363197 tw3537020952361612189 tw15472567601628661770 tw9176905532688024014 tw4068827965516242419 tw14168932255158938544 tw5344449075477206628 tw8646135504461222627 tw2095356450487264558 tw4389471792530790641 tw4049446860521630041 tw13011436394862925225 tw17375489256767714384 tw17223125575155703072 tw14926506155241480711 tw944669539447994235 tw16906463085194198439 tw11685873324201335030 tw8994110239728215249 tw11827438956755689943 tw2226584049585512537 tw7085682403908904261 tw13446900666293662944 tw14933779787617319661 tw8795932292484183695 tw7503215664805606504 tw13004090545826259328 tw2806122159197284288 tw10107607735994472937 tw4767191081312721546 tw1099864942055845678 tw14225089357857266455 tw2932336240392958509 tw8845900063461188504 tw18199667350512432963 tw13365015875160239952 tw4218276642935628876 tw4814871700118158552 tw1180977905613597833 tw15441048830512500826 tw14479714400231062426 tw15326053167360676321 tw4282578747754887070 tw6373062918019258366 tw8538583015873654756 tw17780370643927072680 tw11147300503337064800 tw8162592327782448225 tw17052375315440154362 tw5999753900321863279 tw955322923280485838 tw12505419091755286624 tw17416878626409801769 tw5607477656206811075 tw15389172494472544430 tw14025853591462661792 tw7513683036277637335 tw11637331413009133651 tw13053954593746718743 tw630602557560951580 tw16778327024943995409 tw11354267291531160214 tw16231787945796059687 tw11748324081956131787 tw14990670855557954810 tw6347977184249488327 tw10471717554455917523 tw10540252011295370762 tw14687591030535128192 tw6017978941819848474 tw4977788675170299012 tw6215426222236554830 tw16740279963882170619 tw17307049929594299347 tw16069238602558615257 tw15737316048696646339 tw15325230137756259878 tw1825919420745279670 tw12564805335291205954 tw16025731135610402011 tw17021292532126148026 tw2211002823559530966 tw17755547416656189393 tw7660967206769202016 tw15530380323317675537 tw5133882931686005701 tw14192564645437990772 tw15853435242572699179 tw10781409144507819229 tw17612348646833615376 tw10125123901814187174 tw10285566821099472758 tw17279949683113939452 tw412676269184251141 tw16518610009566245651 tw1892552888761849087 tw14340348627522523936 tw7388221819514361821 tw18116865892654407834 tw2926623304335107002 tw15673439985340407917 tw18298582234215800537 tw5635238357148039392 tw6199030300408689277 tw14970477685662813026 tw2349857204029880052 tw16627736260100597258 tw17512809713590664099 tw14933075306035623097 tw2675031652904533014 tw11183710921006909201 tw11336894566060876400 tw17007940999997529151 tw153945301572100530 tw17289396521490574205 tw18375260386233350901 tw14324634003554977318 tw5519891437613434166 tw7475022446831278897 tw17603914664200704963 tw1758948611761218422 tw2181668337430667169 tw9760067823751022385 tw13661804590044967333 tw15306688500499210963 tw11266772440676846574 tw1807330257325294273 tw13764447188530694547 tw17758734005557590736 tw4130310990814149381 tw17462302384248699669 tw6086697540096659586 tw2109510745896986227 tw16222693629700837788 tw3732377133071103132 tw17026890861740913056 tw503887523440614598 tw7246432043287466431 tw523412806770945978 tw6324613431418622852 tw14620433719750043122 tw1727094678514721958 tw12304381389206556753 tw7379768255763397931 tw12344839781921038869 tw17320906853915999172 tw1691668006536322181 tw11153442443406775426 tw5774325114482608690 tw3127779641422615496 tw128983312242967259 tw6756459999429756013 tw11719268581074714917 tw13539370144066641047 tw2487961488273870223 tw14620185654539357583 tw4623283631356315723 tw16102962474405280169 tw6765033673552567897 tw1600037838588439626 tw4263598573966824456 tw2146074042193149131 tw15477538166320633256 tw17909051375882608146 tw11771979232481465731 tw16781643443538205336 tw15267385740043577299 tw5600546154605537648 tw16862234288919884739 tw2061867053934648126 tw8838567987649949874 tw9272453871770759393 tw7663955541373503976 tw4671525530601535396 tw17824492554090214588 tw2389123992969070769 tw15113531114633805255 tw13021508276428021523 tw14702934646125133786 tw13984605079273569740 tw4855999147957065430 tw14540158783622616240 tw17717814734191379508 tw7674506138689510951 tw5824999459845091523 tw14418084574339289190 tw10737823364222385530 tw4226435065947778038 tw17328286736174028129 tw6388934920344812708 tw5260344850752554952 tw16202111967730553928 tw14285170508406046254 tw13940590404943463591 tw12678914307725217161 tw3907189578630003616 tw14752908967668783837 tw11544296712720716209 tw518888742394406124 tw1690653086133811761 tw16012130730492514012 tw11520828518403333197 tw2997574652330257858 tw693356484775959455 tw12805050103169642769 tw4465321033219578294 tw10368136805077997550 tw17291861646084792624 tw2505157402967450364 tw2719149027053455749 tw17498254188884621999 tw2035864085250879142 tw5373068119982462066 tw14553788021486259366 tw10251844699315245593 tw15206361630168427667 tw15161209047882147730 tw14851951557435942662 tw2878717348727055076 tw15534255790608645347 tw3309123970066504145 tw9660727073867728726 tw17229069369648721609 tw3118748280990838831 tw14643335256940054272 tw15866897973418799376 tw2588714139552319077 tw10135388128705495036 tw4051863131462649229 tw15540454684204985191 tw13652654178876110155 tw15360438047358718243 tw6946358289568819164 tw9448411463554754127 tw8866859357013569340 tw15561229031414692179 tw17538261323785658389 tw13449183567792791279 tw2057187784268618082 tw5910356679604563643 tw13211085288510041957 tw12245629198503294131 tw11783558365709246866 tw4889051934106820128 tw5390335031908285408 tw12089329713914380327 tw6696739485467904259 tw3525699620675931933 tw7339068773631068484 tw14680746232503111028 tw10043664767845645479 tw1245641791741699930 tw9443321667023760754 tw1183877291781308437 tw8754684764195792407 tw7583620476794448101 tw17207058326765354340 tw8122174155960044936 tw2836761905878888611 tw16922198945009797158 tw16399830284547927378 tw7824527677544955859 tw11170658919048176176 tw11391551612997601806 tw12022413255370286193 tw6165606071423098501 tw8008133143265406872 tw14638322840872735275 tw6104590608143950787 tw15290859965327227429 tw12623584949810914175 tw17529258224854937116:True)
end PySem.W
open PySem PySem.W PyProof.Rows
set_option maxRecDepth 100000 in
set_option maxHeartbeats 0 in
theorem PySem.Challenge.cw_jettison_k62_a_great_hold_holds : PySem.Challenge.rw_jettison_k62_a_great_hold.Holds := by
 w_on;o_law;k_head;(case hw=>w_witness2)
 k_fill
 refine W_.walk (l:=PySem.Challenge.rw_jettison_k62_a_great_hold) rfl rfl (fun w h Y=>PySem.W.kIn_of Y) ?F
 case F=>
  intro w mg fa h KX G hmg
  refine' W_.all_mk KX G hmg ?_ ?_ ?_ ?_ ?_ ?_ ?_ ?_ ?_ ?_ ?_ ?_ ?_ ?_ ?_ ?_ ?_ ?_ ?_ ?_ ?_ ?_ ?_ ?_ ?_ ?_ ?_ ?_ ?_ ?_ ?_ ?_ ?_ ?_ ?_ ?_ ?_ ?_ ?_ ?_ ?_ ?_ ?_ ?_ ?_ ?_ ?_ ?_ ?_ ?_ ?_ ?_ ?_ ?_ ?_ ?_ ?_ ?_ ?_ ?_ ?_ ?_ ?_ ?_ ?_ ?_ ?_ ?_ ?_ ?_ ?_ ?_ ?_ ?_ ?_ ?_ ?_ ?_ ?_ ?_ ?_ ?_ ?_ ?_ ?_ ?_ ?_ ?_ ?_ ?_ ?_ ?_ ?_ ?_ ?_ ?_ ?_ ?_ ?_ ?_ ?_ ?_ ?_ ?_
  any_goals first|(refine' L2.dw.of ?a ?l ?c ?k;(case a=>k_is);(case l=>k_is);(case c=>k_is);(case k=>k_is))|(refine' L2.c9.of ?a ?i ?l ?c ?k;(case a=>k_is);(case i=>k_is);(case l=>k_is);(case c=>k_is);(case k=>k_is))|(refine' L2.qc.of ?h1 ?h2 ?h3 ?h4 ?h5 ?h6 ?t1 ?t2 ?t3 ?t4 ?t5 ?t6 ?t7 ?t8 ?tP;(case h1=>k_is);(case h2=>k_is);(case h3=>k_is);(case h4=>exact ⟨Z,Z,Z⟩);(case h5=>rfl);(case h6=>rfl);(case t1=>refine' L2.TupAt.of ?l ?e;(case l=>k_is);(case e=>exact ⟨Z,Z,by decide⟩));(case t2=>refine' L2.TupAt.of ?l ?e;(case l=>k_is);(case e=>exact ⟨Z,Z,by decide⟩));(case t3=>refine' L2.TupAt.of ?l ?e;(case l=>k_is);(case e=>exact ⟨Z,Z,by decide⟩));(case t4=>refine' L2.TupAt.of ?l ?e;(case l=>k_is);(case e=>exact ⟨Z,Z,by decide⟩));(case t5=>refine' L2.TupAt.of ?l ?e;(case l=>k_is);(case e=>exact ⟨Z,Z,by decide⟩));(case t6=>refine' L2.TupAt.of ?l ?e;(case l=>k_is);(case e=>exact ⟨Z,Z,by decide⟩));(case t7=>refine' L2.TupAt.of ?l ?e;(case l=>k_is);(case e=>exact ⟨Z,Z,by decide⟩));(case t8=>refine' L2.TupAt.of ?l ?e;(case l=>k_is);(case e=>exact ⟨Z,Z,by decide⟩));(case tP=>refine' L2.TupAt.of ?l ?e;(case l=>k_is);(case e=>exact ⟨Z,Z,by decide⟩)))|k_is
