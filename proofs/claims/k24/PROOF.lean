import PyProof.Rows.All
import Wide.All
import OpenK.AllK
import Wide.FinOn
import Lean
import PyProof.EqAt
import PyProof.EqKinds
import PyProof.TupleCall
import PySem.Challenge.RW_jettison_k24_parts_landed
set_option Elab.async false
set_option bootstrap.genMatcherCode false
set_option genSizeOf false
set_option compiler.extract_closed false
set_option genSizeOfSpec false
set_option linter.all false
set_option maxRecDepth 100000
local macro_rules|`(tactic|omega)=>`(tactic|lia)
noncomputable section
abbrev Fg:=PySem.W.Frag
abbrev VS:=PySem.Value->PySem.Shared->Prop
abbrev AO:=List (PySem.Addr×PySem.Obj)
abbrev SO:=PySem.Str->Option PySem.Value
abbrev Da:=@List
set_option autoImplicit true
def Zc:=@PySem.F.slot_dict_valueiterator_next
def Ut:=@Int.mul_le_mul_of_nonneg_right
def Jg:=@Int.mul_le_mul_of_nonneg_left
def Zd:=@PySem.wpAny_typeNameOfWhole_keyiter
def Ze:=@PySem.wpAny_typeNameOfWhole_valiter
def Zf:=@PySem.F.slot_dict_keyiterator_next
def lG:=@PyProof.Rows.boot_isinstance
def Uu:=@PyProof.Rows.callWith_type1
def Zg:=@Int.ediv_eq_of_eq_mul_right
def Jh:=@List.getElem?_append_right
def gT:=@List.getD_eq_getElem?_getD
def R5:=@PySem.F.slot_tuple_iterator_next
def R6:=@List.length_eraseIdx_of_lt
def dZ:=@List.getElem?_eq_some_iff
def Hj:=@List.getElem?_append_left
def R7:=@List.mem_or_eq_of_mem_set
def LC:=@List.drop_eq_getElem_cons
def aY:=@List.getElem?_eq_getElem
def R8:=@PySem.wpAny_comprehension_free
def R9:=@PySem.wpAny_typeNameOf_keyiter
def R_:=@PySem.wpAny_typeNameOf_valiter
def LF:=@List.eq_of_mem_replicate
def Hl:=@Int.mul_ediv_cancel_left
def LG:=@List.idxOf_lt_length_iff
def pG:=@PySem.F.slot_list_append
def pH:=@PySem.F.type_list_append
def Sa:=@List.getElem?_replicate
def AK:=@PySem.wpAny_callSpecial?_slot
def Sb:=@PySem.wpAny_Call_method0_late
def mG:=@PySem.F.plainAttrs_list
def LH:=@PyProof.Rows.boot_tuple
def uc:=@List.getElem?_set_self
def cI:=@PySem.Heap.get?_push_of_some
def LI:=@PySem.Heap.get?_update_other
def mH:=@Option.map_eq_some_iff
def Ho:=@List.take_of_length_le
def ud:=@List.zipWith_cons_cons
def LJ:=@PySem.Calls.callWith_builtin
def vz:=@PyProof.Rows.boot_list
def kC:=@List.mem_append_right
def kD:=@List.length_replicate
def DK:=@PySem.Heap.get?_update_self
def Sd:=@List.length_filter_le
def rR:=@List.getElem?_eq_none
def Se:=@PySem.wpAny_isOneOf_valiter
def Sf:=@List.getElem?_zipWith
def ue:=@PyProof.Rows.boot_sum
def LK:=@PyProof.Rows.boot_str
def LL:=@PySem.W.hideAll_none
def cL:=@List.mem_cons_of_mem
def Hq:=@List.mem_append_left
def y9:=@List.getElem?_set_ne
def bK:=@List.mem_of_getElem?
def mJ:=@Bool.and_eq_true_iff
def Sg:=@PySem.intBits_le_iff
def Hr:=@beq_eq_false_iff_ne
def Sh:=@PySem.W.hideAll_get
def AL:=@List.filterMap_cons
def fj:=@PySem.Heap.get?_push_size
def y_:=@PySem.mem_of_lookup
def ze:=@List.replicate_succ
def Hs:=@Bool.or_eq_true_iff
def Ht:=@PySem.Heap.SameBut.update
def pI:=@List.length_zipWith
def Si:=@List.filter_eq_self
def LM:=@List.map_congr_left
def uf:=@List.getElem_of_mem
def Sj:=@List.filter_sublist
def Sk:=@PySem.evalArgs_none
def lI:=@Nat.lt_of_lt_of_le
def Sl:=@PySem.W.of_hideAll
def cQ:=@List.mem_cons_self
def Hu:=@List.mem_filterMap
def gk:=@Bool.false_ne_true
def Hv:=@PySem.wpAny_Call_Name_kw
def Sm:=@PySem.W.callWith_K
def c8:=@List.length_append
def Sn:=@PySem.tupleKind_room_in1
def LN:=@Nat.lt_of_le_of_lt
def eE:=@List.mem_singleton
def zf:=@Int.emod_lt_of_pos
def Hw:=@Bool.false_eq_true
def Hx:=@PySem.Obj.data_mapFields
def Hy:=@PySem.wpAny_setField_rec
def LO:=@List.set_cons_succ
def LP:=@List.set_cons_zero
def So:=@PySem.F.slot_dict_values
def kF:=@of_decide_eq_false
def qo:=@PySem.W.mg_none_of
def Ss:=@PySem.wpAny_pyIter_list
def bH:=@List.getElem?_map
def ug:=@Int.toNat_natCast
def jc:=@List.size_toArray
def Su:=@List.flatten_cons
def Sv:=@List.append_assoc
def Sw:=@Option.isSome_map
def dH:=@of_decide_eq_true
def Sx:=@Nat.lt_succ_of_lt
def zg:=@PySem.wpAny_newObj_type
def AM:=@PySem.wpAny_truthy_bool
def zh:=@List.length_range
def Lj:=@PySem.wpAny_dictEntries
def EJ:=@List.foldl_append
def Ce:=@List.getElem?_inj
def gX:=@Bool.eq_false_iff
def jm:=@List.length_cons
def kL:=@List.length_take
def EK:=@Bool.and_eq_true
def Lk:=@List.cons_append
def gY:=@List.filter_cons
def zj:=@beq_self_eq_true
def Ll:=@Int.ediv_le_self
def zm:=@Nat.le_add_right
def mQ:=@List.lookup_cons
def qp:=@List.all_eq_true
def uZ:=@List.getElem_mem
def bV:=@List.take_length
def xo:=@PySem.wpAny_call_entry
def EL:=@List.drop_length
def d7:=@decide_eq_false
def gZ:=@Option.some.inj
def lJ:=@List.mem_filter
def fk:=@List.mem_append
def xr:=@Bool.eq_iff_iff
def aD:=@List.length_map
def qt:=@PySem.W.kia_one
def u0:=@List.append_nil
def gO:=@List.nodup_cons
def jV:=@List.length_set
def nM:=@List.foldl_cons
def Lm:=@List.nil_append
def qu:=@List.find?_cons
def Ln:=@Option.map_some
def bw:=@List.map_append
def oX:=@Int.emod_nonneg
def Lo:=@Int.ediv_nonneg
def Lp:=@List.forIn_cons
def Lq:=@PySem.pushCells_keeps
def Lr:=@PySem.wpAny_dictEpoch
def Ls:=@PySem.F.slot_zip_next
def Lu:=@List.sum_append
def zu:=@PySem.wpAny_passesOwn
def zx:=@PySem.wpAny_execs_nil
def fC:=@PySem.PassesOwn.never
def zy:=@List.mem_range
def nN:=@PySem.Heap.size_push
def cy:=@decide_eq_true
def EM:=@Int.natAbs_mul
def EN:=@List.forIn_nil
def xu:=@PySem.wpAny_fieldsOf
def Cf:=@PySem.wpAny_setField
def u6:=@PySem.wpAny_seqItems
def sW:=@List.nodup_nil
def mR:=@Int.mul_nonneg
def c9:=@PySem.boot_len
def jW:=@Nat.lt_irrefl
def c_:=@List.mem_cons
def bP:=@List.map_cons
def EO:=@List.any_cons
def lK:=@PySem.W.mg_of
def c6:=@List.sum_cons
def Cg:=@PySem.wpAny_standAt
def Ci:=@PySem.wpAny_holding
def jK:=@Int.mul_assoc
def Cj:=@List.map_take
def bY:=@PySem.Heap.lt_size
def eO:=@Nat.ne_of_lt
def fZ:=@Nat.le_trans
def ER:=@Nat.le_of_lt
def zz:=@Nat.ne_of_gt
def Ck:=@PySem.codeAny_mono
def bD:=@List.mem_map
def ES:=@Int.ediv_one
def zA:=@Int.le_of_lt
def ET:=@Int.lt_or_le
def xw:=@List.set_set
def Cm:=@Nat.min_self
def f_:=@List.map_map
def Co:=@Nat.sub_self
def qw:=@Int.mul_comm
def u7:=@List.map_set
def EU:=@Int.sub_zero
def u9:=@Sum.inr.inj
def aN:=@Nat.le_refl
def fD:=@Nat.zero_le
def gy:=@PySem.sizeLine_eq
def zC:=@Nat.le_succ
def oY:=@PySem.wpAny_field
def lM:=@Int.le_refl
def qx:=@Int.mul_add
def Cp:=@Int.add_mul
def iM:=@PySem.wpAny_mono
def aW:=@PySem.wpAny_pure
def au:=@PySem.wpAny_bind
def mS:=@beq_iff_eq
def gP:=@congrArg
def nO:=@if_false
def cD:=@Ne.symm
def sX:=@if_true
def aC:=@if_pos
def aB:=@if_neg
def Z{α:Sort _}{a:α}:a=a:=rfl
namespace L2
open PySem PySem.Spec PyProof.Rows
abbrev Key:=Sum Int Str
noncomputable def zH:Key->Value->Bool
 | .inl k,v=>Value.isInt k v
 | .inr x,v=>Value.isStrOf x v
noncomputable def aiN(w:World):Key->Int
 | .inl k=>hashInt k
 | .inr x=>hashStr w x
theorem gW:∀{k:Key}{v:Value},zH k v=true->(∃i t,k=Sum.inl i/\v=Value.int i t)\/(∃x t,k=Sum.inr x/\v=Value.str x t)
 | .inl i,v,h=>by obtain⟨t,e⟩:=Value.isInt_shape (k:=i) (v:=v) h;exact .inl ⟨i,t,Z,e⟩
 | .inr x,v,h=>by obtain⟨t,e⟩:=Value.isStrOf_shape (x:=x) (v:=v) h;exact .inr ⟨x,t,Z,e⟩
def Uv(i:Int)(t:Tok):zH (.inl i) (.int i t)=true:=by simp[zH,Value.isInt]
def Uw(x:Str)(t:Tok):zH (.inr x) (.str x t)=true:=by simp[zH,Value.isStrOf]
def abP(a b:Int):decide ((Sum.inl a:Key)=Sum.inl b)=(a==b):=by
 by_cases e:a=b
 .subst e;simp
 .have h:¬ (Sum.inl a:Key)=Sum.inl b:=λq=>e (Sum.inl.inj q);rw[d7 h];exact(Hr.mpr e).symm
def abQ(a b:Str):decide ((Sum.inr a:Key)=Sum.inr b)=decide (a=b):=by
 by_cases e:a=b
 .subst e;simp
 .have h:¬ (Sum.inr a:Key)=Sum.inr b:=λq=>e (u9 q);rw[d7 h,d7 e]
def abR(a:Int)(b:Str):decide ((Sum.inl a:Key)=Sum.inr b)=false:=d7 (λq=>nomatch q)
def abS(a:Str)(b:Int):decide ((Sum.inr a:Key)=Sum.inl b)=false:=d7 (λq=>nomatch q)
noncomputable def dw(prog:Program)(w:World):PySem.KeyKind prog w Key where
 is:=zH
 hash:=aiN w
 inj:=λv a b ha hb=>by
  rcases gW ha with⟨i,t,rfl,rfl⟩|⟨x,t,rfl,rfl⟩
  .rcases gW hb with⟨j,u,rfl,e⟩|⟨y,u,rfl,e⟩
   .injection e with e1 _;rw[e1]
   .exact nomatch e
  .rcases gW hb with⟨j,u,rfl,e⟩|⟨y,u,rfl,e⟩
   .exact nomatch e
   .injection e with e1 _;rw[e1]
 byValue:=λk v h=>by rcases gW h with⟨i,t,rfl,rfl⟩|⟨x,t,rfl,rfl⟩ <;> rfl
 pyHash:=λhv h=>by
  rcases gW hv with⟨i,t,rfl,rfl⟩|⟨x,t,rfl,rfl⟩
  .exact wpAny_pyHash_int h
  .exact wpAny_pyHash_str h
 eqBool:=λhu hv h=>by
  rcases gW hu with⟨i,t,rfl,rfl⟩|⟨x,t,rfl,rfl⟩
  .rcases gW hv with⟨j,u,rfl,rfl⟩|⟨y,u,rfl,rfl⟩
   .rw [abP]at h;exact wpAny_eqBool_int h
   .rw [abR]at h;exact SeqAt.EqAt.int_str i t y u _ _ _ _ h
  .rcases gW hv with⟨j,u,rfl,rfl⟩|⟨y,u,rfl,rfl⟩
   .rw [abS]at h;exact SeqAt.EqAt.str_int x t j u _ _ _ _ h
   .rw [abQ]at h;exact wpAny_eqBool_str h
 «strs»:=λk x t v h=>by
  rcases gW h with⟨i,u,rfl,e⟩|⟨y,u,rfl,e⟩
  .exact nomatch e
  .injection e with e1 _;subst e1;cases v <;> rfl
def Sy(prog:Program)(w:World)(k:Key)(v:Value):(dw prog w).is k v=zH k v:=rfl
def O8(prog:Program)(w:World)(i:Int)(t:Tok):(dw prog w).is (.inl i) (.int i t)=true:=Uv i t
def O9(prog:Program)(w:World)(x:Str)(t:Tok):(dw prog w).is (.inr x) (.str x t)=true:=Uw x t
inductive V where
 | cu|bl (b:Bool)|int (i:Int)|str (x:Str)|yp (b:Array UInt8)|Ji (b:UInt64)|ref (a:Addr)|ty (n:String)
 deriving DecidableEq
noncomputable def RelV:V->Value->Prop
 | .cu,u=>u=Value.none
 | .bl b,u=>u=Value.bool b
 | .int i,u=>∃t,u=Value.int i t
 | .str x,u=>∃t,u=Value.str x t
 | .yp b,u=>∃t,u=Value.bytes b t
 | .Ji b,u=>∃t,u=Value.float b t
 | .ref a,u=>u=Value.ref a
 | .ty n,u=>u=Value.type n
abbrev Vals:Da V->Da Value->Prop:=Paired RelV
variable {xs:Da V}{us:Da Value}
theorem Vals.length(r:Vals xs us):xs.length=us.length:=Paired.length r
theorem Vals.get:∀{xs:Da V}{us:Da Value}{i:Nat}{x:V},Vals xs us->xs[i]?=some x->∃u,us[i]?=some u/\RelV x u
 | _,_,_,_,.nil,e=>by simp at e
 | _,_,0,_,.cons r _,e=>by simp at e;subst e;exact⟨_,Z,r⟩
 | _,_,i+1,x,.cons _ t,e=>by obtain⟨u,h1,h2⟩:=Vals.get (i:=i) (x:=x) t (by simpa using e);exact⟨u,by simpa using h1,h2⟩
theorem Vals.set{x:V}{u:Value}(r:RelV x u):∀{xs:Da V}{us:Da Value}(i:Nat),Vals xs us->Vals (xs.set i x) (us.set i u)
 | _,_,_,.nil=> .nil
 | _,_,0,.cons _ t=> .cons r t
 | _,_,i+1,.cons q t=> .cons q (Vals.set r i t)
theorem Vals.append:∀{xs ys:Da V}{us ws:Da Value},Vals xs us->Vals ys ws->Vals (xs++ys) (us++ws)
 | _,_,_,_,.nil,s=>s
 | _,_,_,_,.cons r t,s=> .cons r (Vals.append t s)
noncomputable def n_:Option V->Option Value->Prop
 | some v,some u=>RelV v u
 | none,none=>True
 | _,_=>False
def KV{κ:Type}:Da (κ×V)->Da (κ×Value)->Prop:=Paired λ(p:κ×V)(q:κ×Value)=>p.1=q.1/\RelV p.2 q.2
noncomputable def kV:Key->V
 | .inl i=> .int i
 | .inr x=> .str x
inductive HO where
 | lst (xs:Da V)
 | tup (xs:Da V)
 | dK (Ap:Da (Key×V))|dT (Ap:Da (Da Key×V))
 | set (S:Int->Bool) (n:Nat)
 | ins (C dx:Addr) (fs:Da (Str×V))
 | own (x:Addr)
 | xd (fs:Da (Str×V))
 | met (f x:Addr)
 | xx (lo hi:Int)
 | fY (o:Obj) (u:HO)
 | Jj (ps:Array Value)
 | ext (φ:Heap->Prop)
abbrev Hp:=Addr->Option HO
noncomputable def upd(H:Hp)(a:Addr)(o:HO):Hp:=λb=>if b=a then some o else H b
variable {H:Hp}{a:Addr}{o:HO}
def ak:upd H a o a=some o:=by unfold upd;rw[aC rfl]
def av{b:Addr}(h:b≠a):upd H a o b=H b:=by unfold upd;rw[aB h]
def rS{u:HO}:upd (upd H a o) a u=upd H a u:=by funext b;unfold upd;split <;> rfl
def jL{b:Addr}{u:HO}(h:H a=some o)(h':H b=some u)(d:o≠u):a≠b:=by intro e;subst e;rw[h]at h';exact d (gZ h')
def aI{b:Addr}(h:H a=some o)(h':H b=none):a≠b:=by intro e;subst e;rw[h]at h';cases h'
section
variable (P:Program)(w:World)
noncomputable def d8(H:Hp)(h:Heap)(a:Addr):HO->Prop
 | .lst xs=>xs.length<=sizeLine/\∃(Bi:Da Value)(n:Nat),Vals xs Bi/\h.get? a=some { cls:=.type "list",data:=.seq Bi.toArray n }
 | .tup xs=>xs.length<=sizeLine/\∃Bi:Da Value,Vals xs Bi/\IsTup h a Bi.toArray
 | .dK Ap=>Ap.length<=sizeLine/\(a==sysModules)=false/\∃vs,KV Ap vs/\h.DictOf (dw P w) a vs
 | .dT Ap=>Ap.length<=sizeLine/\(a==sysModules)=false/\∃xs:Da (Da Key×Addr×Value),
     Paired (λ(p:Da Key×V)(q:Da Key×Addr×Value)=>p.1=q.1/\H q.2.1=some (.tup (p.1.map kV))/\RelV p.2 q.2.2) Ap xs/\
     ∃o es ep,h.get? a=some o/\o.ExactDict/\o.data =.dict es ep/\es.toList=xs.map (entryOfKey (tupleKind (dw P w)))/\(xs.map (·.1)).Nodup
 | .set S n=>h.SetOf (intKind P w) a S n
 | .ins C dx fs=>H dx=some (.own a)/\fs.length<=1000/\dx≠a/\h.get? a=some (PySem.W.instObj C dx)/\
     ∃mA,h.Ns1 dx mA/\(∀f,n_ (fs.lookup f) (mA f))/\PySem.Within mA (fs.map (·.1))
 | .own _=>∃o,h.get? a=some o
 | .xd fs=>∃mA,h.Ns1 a mA/\∀f,n_ (fs.lookup f) (mA f)
 | .xx lo hi=>∃t u v,h.get? a=some { cls:=.type "range",data:=.fields #[.int lo t,.int hi u,.int 1 v] }
 | .fY o u=>h.get? a=some o/\d8 H h a u
 | .Jj ps=>h.get? a=some { cls:=.none,data:=.fields ps }
 | .met f x=>h.get? a=some (PySem.W.methodObj (.ref f) (.ref x))
 | .ext φ=>φ h/\(∃o,h.get? a=some o)/\∀h1 h2:Heap,φ h1->(∀o,h1.get? a=some o->h2.get? a=some o)->φ h2
def iL(H:Hp)(h:Heap):Prop:=∀a o,H a=some o->d8 P w H h a o
end
section
variable {P:Program}{w:World}{H H':Hp}{h h':Heap}{a:Addr}{o:HO}
theorem d8.lt(x:d8 P w H h a o):a<h.objs.size:=by
 cases o with
 | lst xs=>obtain⟨_,_,_,_,e⟩:=x;exact bY e
 | tup xs=>obtain⟨_,_,_,p⟩:=x;exact p.lt
 | dK Ap=>obtain⟨_,_,_,_,o,_,_,e,_⟩:=x;exact bY e
 | dT Ap=>obtain⟨_,_,_,_,o,_,_,e,_⟩:=x;exact bY e
 | set S n=>obtain⟨o,_,_,_,e,_⟩:=x;exact bY e
 | ins C dx fs=>obtain⟨_,_,_,e,_⟩:=x;exact bY e
 | own y=>obtain⟨_,e⟩:=x;exact bY e
 | xd fs=>obtain⟨_,⟨_,_,_,e,_⟩,_⟩:=x;exact bY e
 | xx lo hi=>obtain⟨_,_,_,e⟩:=x;exact bY e
 | fY ob u=>obtain⟨e,_⟩:=x;exact bY e
 | Jj ps=>exact bY (show h.get? a=some _ from x)
 | met f y=>exact bY (show h.get? a=some _ from x)
 | ext φ=>obtain⟨_,⟨_,e⟩,_⟩:=x;exact bY e
theorem Paired.Xh{α β:Type}{F G:α->β->Prop}:∀{l₁:Da α}{l₂:Da β},Paired F l₁ l₂->(∀a b,F a b->G a b)->Paired G l₁ l₂
 | _,_,.nil,_=> .nil
 | _,_,.cons r t,f=> .cons (f _ _ r) (Paired.Xh t f)
def d8.stay(x:d8 P w H h a o)(k:∀b u,(b=a\/H b=some (.own a))->h.get? b=some u->h'.get? b=some u)(ho:∀b,H b=some (.own a)->H' b=some (.own a))(ht:∀b xs,H b=some (.tup xs)->H' b=some (.tup xs)):d8 P w H' h' a o:=by
 induction o with
 | lst xs=>obtain⟨z,Bi,n,r,e⟩:=x;exact⟨z,Bi,n,r,k _ _ (.inl rfl) e⟩
 | tup xs=>obtain⟨z,Bi,r,ob,e,c⟩:=x;exact⟨z,Bi,r,ob,k _ _ (.inl rfl) e,c⟩
 | dK Ap=>obtain⟨z,y,vs,r,ob,es,ep,e,c⟩:=x;exact⟨z,y,vs,r,ob,es,ep,k _ _ (.inl rfl) e,c⟩
 | dT Ap=>
   obtain⟨z,y,xs,r,ob,es,ep,e,c⟩:=x
   exact⟨z,y,xs,Paired.Xh r λp q z=>⟨z.1,ht _ _ z.2.1,z.2.2⟩,ob,es,ep,k _ _ (.inl rfl) e,c⟩
 | set S n=>obtain⟨ob,es,ep,t,e,c⟩:=x;exact⟨ob,es,ep,t,k _ _ (.inl rfl) e,c⟩
 | ins C dx fs=>
   obtain⟨d,z,ne,e,mA,⟨od,es,ep,e2,c⟩,r⟩:=x
   exact⟨ho _ d,z,ne,k _ _ (.inl rfl) e,mA,⟨od,es,ep,k _ _ (.inr d) e2,c⟩,r⟩
 | own y=>obtain⟨ob,e⟩:=x;exact⟨ob,k _ _ (.inl rfl) e⟩
 | xd fs=>obtain⟨mA,⟨od,es,ep,e,c⟩,r⟩:=x;exact⟨mA,⟨od,es,ep,k _ _ (.inl rfl) e,c⟩,r⟩
 | xx lo hi=>obtain⟨t,u,v,e⟩:=x;exact⟨t,u,v,k _ _ (.inl rfl) e⟩
 | fY ob u ih=>obtain⟨e,q⟩:=x;exact⟨k _ _ (.inl rfl) e,ih q⟩
 | Jj ps=>
   have e:h.get? a=some { cls:=.none,data:=.fields ps }:=x
   show h'.get? a=some { cls:=.none,data:=.fields ps }
   exact k a _ (.inl rfl) e
 | met f y=>
   have e:h.get? a=some (PySem.W.methodObj (.ref f) (.ref y)):=x
   show h'.get? a=some (PySem.W.methodObj (.ref f) (.ref y))
   exact k a _ (.inl rfl) e
 | ext φ=>obtain⟨p,⟨o,e⟩,st⟩:=x;exact⟨st _ _ p λo q=>k _ _ (.inl rfl) q,⟨o,k _ _ (.inl rfl) e⟩,st⟩
theorem iL.lt(x:iL P w H h)(e:H a=some o):a<h.objs.size:=(x a o e).lt
def iL.fresh(x:iL P w H h)(e:h.objs.size<=a):H a=none:=by
 cases q:H a with
 | none=>rfl
 | some u=>exact absurd (lI (x.lt q) e) (jW _)
def iL.kept(x:iL P w H h)(k:∀b u,h.get? b=some u->h'.get? b=some u):iL P w H h':=λa o e=>
 (x a o e).stay (λb u _ q=>k b u q) (λ_ q=>q) λ_ _ q=>q
def iL.laid(x:iL P w H h)(k:∀b u,h.get? b=some u->h'.get? b=some u)(hp:h.objs.size<=a)(new:d8 P w (upd H a o) h' a o):iL P w (upd H a o) h':=λb u e=>by
 have hn:=x.fresh hp;by_cases hb:b=a
 .subst hb;rw[ak]at e;cases e;exact new
 .rw [av hb]at e;exact(x b u e).stay (λc v _ q=>k c v q) (λc q=>by rw[av (aI q hn)];exact q) λc xs q=>by rw[av (aI q hn)];exact q
end
def Rd(H:Hp)(a:Addr)(u:HO):Prop:=H a=some u\/∃o,H a=some (.fY o u)
variable {P:Program}{w:World}{h:Heap}
def Rd.ok{u:HO}(r:Rd H a u)(x:iL P w H h):d8 P w H h a u:=by
 rcases r with r|⟨o,r⟩
 .exact x a u r
 .obtain ⟨_,q⟩:=x a _ r;exact q
noncomputable def Ux:Option HO->Prop
 | some (.lst _)=>True
 | some (.dK _)=>True
 | some (.dT _)=>True
 | some (.set _ _)=>True
 | some (.ins _ _ _)=>True
 | some (.ext _)=>True
 | _=>False
section
variable {P:Program}{w:World}{H:Hp}{h h':Heap}{x e:Addr}{o':HO}
def iL.write(ok:iL P w H h)(mu:Ux (H x))(he:e=x\/H e=some (.own x))(k:∀b u,b≠e->h.get? b=some u->h'.get? b=some u)(QJ:∃u,h'.get? e=some u)(new:d8 P w (upd H x o') h' x o'):iL P w (upd H x o') h':=λb u q=>by
 have abT:∀c y,H c=some (.own y)->c≠x:=λc y r z=>by subst z;rw[r]at mu;exact mu
 have aiO:∀c xs,H c=some (.tup xs)->c≠x:=λc xs r z=>by subst z;rw[r]at mu;exact mu
 by_cases hb:b=x
 . subst hb;rw[ak]at q;cases q;exact new
 . rw[av hb]at q
   by_cases LQ:b=e
   . have q':H b=some (.own x):=by
      rcases he with z|z
      . exact absurd (LQ.trans z) hb
      . rw[LQ];exact z
     rw[q]at q';cases q'
     obtain⟨v,hv⟩:=QJ
     exact⟨v,by rw[LQ];exact hv⟩
   . refine(ok b u q).stay (λc v hc r=>k c v ?_ r) (λc r=>by rw[av (abT c b r)];exact r) λc xs r=>by rw[av (aiO c xs r)];exact r
     rcases hc with rfl|hc
     . exact LQ
     . rintro rfl
       rcases he with z|z
       . exact abT c b hc z
       . rw[hc]at z;cases z;exact hb rfl
end
structure Un(fs ex:Da Addr)(H H':Hp)(h h':Heap):Prop where
 keep:∀b o,h.get? b=some o->H b=none->b∉fs->b∉ex->h'.get? b=some o
 slot:∀b o,h.get? b=some o->H b=none->b∈fs->b∉ex->∃sl,h'.get? b=some { o with slots:=sl }
 free:∀b o,h.get? b=some o->H b=none->b∉ex->H' b=none
 there:∀b o,h.get? b=some o->b∉ex->∃o',h'.get? b=some o'
 tups:∀b xs,H b=some (.tup xs)->H' b=some (.tup xs)
 oh:∀b o u,H b=some (.fY o u)->H' b=some (.fY o u)
 qy:∀b ps,H b=some (.Jj ps)->∃more,H' b=some (.Jj (ps++more))
section
variable {fs fs' ex ex':Da Addr}{H H1 H2:Hp}{h h1 h2 h':Heap}{a x e:Addr}{o:HO}
def Un.any(u:Un fs ex H H1 h h1){b:Addr}(q:h.get? b=some ob)(n:H b=none)(hx:b∉ex):∃sl,h1.get? b=some { ob with slots:=sl }:=by
 by_cases hb:b∈fs
 .exact u.slot b ob q n hb hx
 .exact ⟨ob.slots,u.keep b ob q n hb hx⟩
def Un.kept(k:∀b u,h.get? b=some u->h'.get? b=some u):Un fs ex H H h h':=⟨λb ob q _ _ _=>k b ob q,λb ob q _ _ _=>⟨ob.slots,k b ob q⟩,λ_ _ _ n _=>n,λb ob q _=>⟨ob,k b ob q⟩,λ_ _ q=>q,λ_ _ _ q=>q,λ_ ps q=>⟨#[],by rw[q];simp⟩⟩
def Un.refl:Un fs ex H H h h:=Un.kept λ_ _ q=>q
def Un.laid(k:∀b u,h.get? b=some u->h'.get? b=some u)(hp:h.objs.size<=a)(hn:H a=none):Un fs ex H (upd H a o) h h' where
 keep:=λb u q _ _ _=>k b u q
 slot:=λb u q _ _ _=>⟨u.slots,k b u q⟩
 free:=λb u q n _=>by rw[av (eO (lI (bY q) hp))];exact n
 there:=λb u q _=>⟨u,k b u q⟩
 tups:=λb xs q=>by rw[av (aI q hn)];exact q
 oh:=λb u xs q=>by rw[av (aI q hn)];exact q
 qy:=λb ps q=>⟨#[],by rw[av (aI q hn),q];simp⟩
def Un.write(mu:Ux (H x))(he:e=x\/H e=some (.own x))(k:∀b u,b≠e->h.get? b=some u->h'.get? b=some u)(QJ:∃u,h'.get? e=some u):Un fs ex H (upd H x o) h h':=by
 have hx:∀b,H b=none->b≠x:=λb n z=>by subst z;rw[n]at mu;exact mu
 have hb:∀b,H b=none->b≠e:=λb n z=>by
  subst z;rcases he with r|r
  .exact hx b n r
  .rw [n]at r;cases r
 have hm:∀b u,H b=some u->¬ Ux (some u)->b≠x:=λb u q nm z=>by subst z;rw[q]at mu;exact nm mu
 refine⟨λb u q n _ _=>k b u (hb b n) q,λb u q n _ _=>⟨u.slots,k b u (hb b n) q⟩,λb u q n _=>by rw[av (hx b n)];exact n,λb u q _=>?_,
  λb xs q=>by rw[av (hm b _ q λz=>z)];exact q,λb u xs q=>by rw[av (hm b _ q λz=>z)];exact q,λb ps q=>⟨#[],by rw[av (hm b _ q λz=>z),q];simp⟩⟩
 by_cases LQ:b=e
 .subst LQ;exact QJ
 .exact ⟨u,k b u LQ q⟩
end
noncomputable def Zh(h:Heap)(H:Hp):Da Addr:=(List.range h.objs.size).filter λa=>(H a).isSome
noncomputable def zJ(h:Heap)(H:Hp):Heap:=PySem.W.hideAll h (Zh h H)
def Uy(h:Heap)(H:Hp):(zJ h H).objs.size=h.objs.size:=PySem.W.hideAll_size _ _
def Xi{b:Addr}{o:Obj}(e:h.get? b=some o)(n:H b=none):(zJ h H).get? b=some o:=Sh _ e λhm=>by have q:(H b).isSome=true:=(lJ.mp hm).2;rw[n]at q;simp at q
def aaf{b:Addr}{o:Obj}(e:(zJ h H).get? b=some o):h.get? b=some o/\H b=none:=by
 have e':h.get? b=some o:=Sl (Zh h H) e;refine⟨e',?_⟩;cases q:H b with
 | none=>rfl
 | some x=>have hm:b∈Zh h H:=lJ.mpr ⟨zy.mpr (bY e'),by simp[q]⟩;have z:(zJ h H).get? b=none:=LL (Zh h H) hm;rw[z]at e;cases e
structure Mod(K:Fg)(mg:SO)(base:Heap):Prop where
 QK:K.In base
 glob:base.Ns mainGlobals mg
 blt:∃mb,base.Ns builtinsNs mb/\∀x:Str,x ≠ "__name__"->mb x=bootBuiltins x
 nolimit:base.NoLimit
structure Cx where
 prog:Program
 w:World
 K:Fg
 mg:Str->Option Value
 base:Heap
 A:Around
 N:Da Str
 s₀:Shared
 H₀:Hp
 env:Env
 outer:Da Env
 stack:Da Env
 ex:Da Addr
 fn:Str->Bool
 calm:Bool
 pn:Da (Addr×Obj)
 xe:Value->Shared->Prop
noncomputable def frs(l:Da Env):Da Addr:=l.filterMap (·.frame)
abbrev Cx.fs(X:Cx):Da Addr:=frs X.outer
def Uz(sc:Scope)(x:Str):Prop:=sc.names.lookup x=some .local\/sc.names.lookup x=some .cell\/sc.names.lookup x=some .free
def Loc(sc:Scope)(x:Str):Prop:=sc.names.lookup x=some .local\/sc.names.lookup x=some .cell
def Look(env:Env)(h:Heap)(m:SO)(x:Str)(u:Value):Prop:=(env.kindOf x=some .local/\m x=some u)\/((env.kindOf x=some .cell\/env.kindOf x=some .free)/\∃c,env.cells.lookup x=some c/\h.IsCell c (some u))
structure Cx.Ok(X:Cx):Prop where
 mod:Mod X.K X.mg X.base
 kind:X.env.scope.kind =.function
 glob:X.env.globals=mainGlobals
 blt:X.env.builtins=builtinsNs
 above:X.s₀.heap.objs.size<=X.env.locals
 inj:∀x y c,X.env.cells.lookup x=some c->X.env.cells.lookup y=some c->x=y
 has:∀x,(X.env.kindOf x=some .cell\/X.env.kindOf x=some .free)->∃c,X.env.cells.lookup x=some c
 g_:∀x c,X.fn x=true->X.env.cells.lookup x=some c->X.s₀.heap.objs.size<=c
 hd:X.calm=true->X.A.handled=none
 frames:X.A.frames=some X.stack
 stk:X.stack=X.outer\/(X.stack=X.env::X.outer/\X.env.frame=some X.env.locals)
 LR:∀b∈X.ex,b≠X.env.locals/\∀x c,X.env.cells.lookup x=some c->c≠b
 bs:∀b o,X.base.get? b=some o->X.s₀.heap.get? b=some o/\X.H₀ b=none
 EV:X.base.objs.size<=X.s₀.heap.objs.size
 Hz:∀b o,X.base.get? b=some o->b∉X.ex
 DL:∀b∈X.ex,b∉X.fs
 pJ:X.s₀.heap.FunFrames X.base X.outer
 Jk:∀b∈X.fs,X.H₀ b=none
structure Inv(X:Cx)(AT:AO)(σ:Da (Option V))(H:Hp)(s:Shared):Prop where
 ok:X.Ok
 os:s.os=X.s₀.os
 bare:AllBare s.gens
 base:Un X.fs X.ex X.H₀ H X.s₀.heap s.heap
 loc:∃m,s.heap.Ns X.env.locals m/\∀(i:Nat)(x:Str)(v:V),X.N[i]?=some x->σ[i]?=some (some v)->Uz X.env.scope x->∃u,RelV v u/\Look X.env s.heap m x u
 cell:∀x c,X.env.cells.lookup x=some c->∃v,s.heap.IsCell c v
 free:H X.env.locals=none
 kM:∀x c,X.env.cells.lookup x=some c->H c=none
 pin:∀p∈X.pn++AT,s.heap.get? p.1=some p.2/\H p.1=none/\p.1≠X.env.locals/\p.1∉X.fs/\∀v,p.2.data ≠ .cell v
 hok:iL X.prog X.w H s.heap
 len:σ.length=X.N.length
variable {g':Array GenState}{t' i j:Nat}{ch:Da Addr}{it:Addr}{N:Da Str}{x:Str}{M:Model}{A:Around}{E:VS}{u:Value}{Q:Unit->Shared->Prop}
section
variable {X:Cx}{AT:AO}{σ:Da (Option V)}{H H':Hp}{s:Shared}{h':Heap}
def Cx.Ok.aiP(ok:X.Ok){b:Addr}{o:Obj}(e:X.base.get? b=some o):b∉X.fs:=λhb=>by have:=(ok.pJ.mem hb).1;rw[e]at this;cases this
theorem Inv.bs(I:Inv X AT σ H s):∀b o,X.base.get? b=some o->s.heap.get? b=some o/\H b=none:=λb o e=>
 ⟨I.base.keep b o (I.ok.bs b o e).1 (I.ok.bs b o e).2 (I.ok.aiP e) (I.ok.Hz b o e),I.base.free b o (I.ok.bs b o e).1 (I.ok.bs b o e).2 (I.ok.Hz b o e)⟩
def Inv.bk(I:Inv X AT σ H s):∀b o,X.base.get? b=some o->s.heap.get? b=some o:=λb o e=>(I.bs b o e).1
theorem Inv.mod(I:Inv X AT σ H s):Mod X.K X.mg X.base:=I.ok.mod
def Inv.jB(I:Inv X AT σ H s):X.K.In s.heap:=I.ok.mod.QK.keeps I.bk
theorem Inv.lt(I:Inv X AT σ H s):X.env.locals<s.heap.objs.size:=let⟨_,hn,_⟩:=I.loc;hn.lt
def Inv.sz(I:Inv X AT σ H s):X.s₀.heap.objs.size<=s.heap.objs.size:=fZ I.ok.above (ER I.lt)
def Inv.aiQ(I:Inv X AT σ H s)(h:s.heap.objs.size<=a):a∉X.fs:=λhb=>by obtain⟨_,o,ho,_⟩:=I.ok.pJ.mem hb;exact absurd (lI (bY ho) (fZ I.sz h)) (jW _)
def Inv.Jl(I:Inv X AT σ H s):∀x c,X.env.cells.lookup x=some c->c≠X.env.locals:=λx c e z=>by obtain⟨v,o,ho,hd⟩:=I.cell x c e;obtain⟨m,⟨o',es,ep,ho',hd',_⟩,_⟩:=I.loc;rw[z,ho']at ho;cases ho;rw[hd']at hd;cases hd
theorem Inv.pJ(I:Inv X AT σ H s):s.heap.FunFrames X.base X.outer:=by
 have all:∀(l:Da Env),(∀b∈frs l,b∈X.fs)->X.s₀.heap.FunFrames X.base l->s.heap.FunFrames X.base l:=by
  intro l
  induction l with
  | nil=>intro _ _;trivial
  | cons env r ih=>intro hs hl;obtain⟨hk,⟨L,o,hf,hn,ho,hd⟩,hr⟩:=hl;have hL:L∈X.fs:=hs L (by unfold frs;rw[AL,hf];exact cQ);obtain⟨sl,e⟩:=I.base.slot L o ho (I.ok.Jk L hL) hL λz=>I.ok.DL L z hL;exact⟨hk,⟨L,_,hf,hn,e,hd⟩,ih (λb hb=>hs b (by unfold frs;rw[AL,hf];exact cL _ hb)) hr⟩
 exact all X.outer (λ_ hb=>hb) I.ok.pJ
theorem Inv.stack(I:Inv X AT σ H s):s.heap.FunFrames X.base X.stack:=by
 rcases I.ok.stk with e|⟨e,hf⟩
 .rw [e];exact I.pJ
 .rw [e];obtain⟨m,hn,_⟩:=I.loc;refine .cons (by rw[I.ok.kind];decide) hf hn ?_ I.pJ;exact Heap.get?_none_of_le (fZ I.ok.EV I.ok.above)
def Inv.LS(I:Inv X AT σ H s):∀b∈frs X.stack,b∈X.env.locals::X.fs:=λb hb=>by
 rcases I.ok.stk with e|⟨e,hf⟩
 .rw [e]at hb;exact cL _ hb
 .rw [e]at hb;unfold frs at hb;rw[AL,hf]at hb;exact hb
def Inv.yq(I:Inv X AT σ H s):∀b∈frs X.stack,H b=none:=λb hb=>by
 rcases c_.mp (I.LS b hb)with e|hb
 .rw [e];exact I.free
 .obtain ⟨_,o,ho,_⟩:=I.ok.pJ.mem hb;exact I.base.free b o ho (I.ok.Jk b hb) λz=>I.ok.DL b z hb
def Inv.step{d':Drawn}(I:Inv X AT σ H s)(hch:∀b∈ch,(b∈X.ex\/X.s₀.heap.objs.size<=b)/\b≠X.env.locals/\(∀x c,X.env.cells.lookup x=some c->c≠b)/\∀p∈X.pn++AT,p.1≠b)(keep:∀b o,b≠X.env.locals->b∉X.fs->b∉ch->s.heap.get? b=some o->H b=none->h'.get? b=some o)(slot:∀b o,b≠X.env.locals->b∈X.fs->b∉ch->s.heap.get? b=some o->H b=none->∃sl,h'.get? b=some { o with slots:=sl })(free:∀b o,b∉ch->s.heap.get? b=some o->H b=none->H' b=none)(there:∀b o,b∉ch->s.heap.get? b=some o->∃o',h'.get? b=some o')(tups:∀b xs,H b=some (.tup xs)->H' b=some (.tup xs))(oh:∀b o u,H b=some (.fY o u)->H' b=some (.fY o u))(qy:∀b ps,H b=some (.Jj ps)->∃more,H' b=some (.Jj (ps++more)))(ns:∀m,s.heap.Ns X.env.locals m->h'.Ns X.env.locals m)(hok:iL X.prog X.w H' h')(hg:AllBare g'):
  Inv X AT σ H' { s with heap:=h',gens:=g',drawn:=d',toks:=t' }:=by
 have QL:∀b o,X.s₀.heap.get? b=some o->b≠X.env.locals:=λb o e=>eO (lI (bY e) I.ok.above)
 have Zi:∀b o,X.s₀.heap.get? b=some o->b∉X.ex->b∉ch:=λb o e hx hb=>by
  rcases(hch b hb).1 with z|z
  .exact hx z
  .exact absurd (lI (bY e) z) (jW _)
 have cellK:∀x c,X.env.cells.lookup x=some c->∀v,s.heap.IsCell c v->h'.IsCell c v:=λx c e v ⟨o,ho,hd⟩=>by
  have yr:c∉ch:=λz=>(hch c z).2.2.1 x c e rfl;by_cases hc:c∈X.fs
  .obtain ⟨sl,q⟩:=slot c o (I.Jl x c e) hc yr ho (I.kM x c e);exact⟨_,q,hd⟩
  .exact ⟨o,keep c o (I.Jl x c e) hc yr ho (I.kM x c e),hd⟩
 refine⟨I.ok,I.os,hg,⟨λb o e n hb hx=>?_,λb o e n hb hx=>?_,λb o e n hx=>?_,λb o e hx=>?_,λb xs e=>tups b xs (I.base.tups b xs e),λb o xs e=>oh b o xs (I.base.oh b o xs e),λb ps e=>?_⟩,?_,λx c e=>?_,?_,λx c e=>?_,λp hp=>?_,hok,I.len⟩
 . exact keep b o (QL b o e) hb (Zi b o e hx) (I.base.keep b o e n hb hx) (I.base.free b o e n hx)
 . obtain⟨sl,e1⟩:=I.base.slot b o e n hb hx
   obtain⟨LU,e2⟩:=slot b _ (QL b o e) hb (Zi b o e hx) e1 (I.base.free b o e n hx)
   exact⟨LU,e2⟩
 . obtain⟨o',e1⟩:=I.base.there b o e hx
   exact free b o' (Zi b o e hx) e1 (I.base.free b o e n hx)
 . obtain⟨o',e1⟩:=I.base.there b o e hx
   exact there b o' (Zi b o e hx) e1
 . obtain⟨m1,e1⟩:=I.base.qy b ps e
   obtain⟨m2,e2⟩:=qy b _ e1
   exact⟨m1++m2,by rw[e2,Array.append_assoc]⟩
 . obtain⟨m,hn,hl⟩:=I.loc
   refine⟨m,ns m hn,λi x v e1 e2 e3=>?_⟩
   obtain⟨u,r,l⟩:=hl i x v e1 e2 e3
   refine⟨u,r,?_⟩
   rcases l with l|⟨k,c,e,z⟩
   . exact .inl l
   . exact .inr ⟨k,c,e,cellK x c e _ z⟩
 . obtain⟨v,z⟩:=I.cell x c e
   exact⟨v,cellK x c e v z⟩
 . obtain⟨m,⟨o,_,_,ho,_⟩,_⟩:=I.loc
   exact free _ o (λz=>(hch _ z).2.1 rfl) ho I.free
 . obtain⟨v,o,ho,hd⟩:=I.cell x c e
   exact free c o (λz=>(hch c z).2.2.1 x c e rfl) ho (I.kM x c e)
 . obtain⟨e,n,ne,nf,d⟩:=I.pin p hp
   have yr:p.1∉ch:=λz=>(hch p.1 z).2.2.2 p hp rfl
   exact⟨keep p.1 p.2 ne nf yr e n,free p.1 p.2 yr e n,ne,nf,d⟩
def Inv.un(I:Inv X AT σ H s)(u:Un X.fs [] H H' s.heap h')(hok:iL X.prog X.w H' h'):Inv X AT σ H' { s with heap:=h',toks:=t' }:=by obtain⟨m,⟨o,es,ep,ho,r⟩,_⟩:=id I.loc;obtain⟨sl,hL⟩:=u.any ho I.free (by simp);exact I.step (g':=s.gens) (d':=s.drawn) (ch:=[]) (λ_ z=>nomatch z) (λb o _ hb _ e n=>u.keep b o e n hb (by simp)) (λb o _ hb _ e n=>u.slot b o e n hb (by simp)) (λb o _ e n=>u.free b o e n (by simp)) (λb o _ e=>u.there b o e (by simp)) u.tups u.oh u.qy (λm' hm=>by obtain⟨o',es',yt,ho',r'⟩:=hm;rw[ho]at ho';cases ho';exact⟨_,es',yt,hL,r'⟩) hok I.bare
def Inv.call{d':Drawn}(I:Inv X AT σ H s)(u:Un (frs X.stack) ch H H' s.heap h')(hok:iL X.prog X.w H' h')(hg:AllBare g')(hch:∀b∈ch,(b∈X.ex\/X.s₀.heap.objs.size<=b)/\b≠X.env.locals/\(∀x c,X.env.cells.lookup x=some c->c≠b)/\∀p∈X.pn++AT,p.1≠b):
  Inv X AT σ H' { s with heap:=h',gens:=g',drawn:=d',toks:=t' }:=by
 obtain⟨m,⟨o,es,ep,ho,r⟩,_⟩:=id I.loc
 obtain⟨sl,hL⟩:=u.any ho I.free λz=>(hch _ z).2.1 rfl
 exact I.step (ch:=ch) hch (λb o hL hb hc e n=>u.keep b o e n (λz=>(c_.mp (I.LS b z)).elim hL hb) hc) (λb o _ _ hc e n=>u.any e n hc) (λb o hc e n=>u.free b o e n hc) (λb o hc e=>u.there b o e hc) u.tups u.oh u.qy (λm' hm=>by obtain⟨o',es',yt,ho',r'⟩:=hm;rw[ho]at ho';cases ho';exact⟨_,es',yt,hL,r'⟩) hok hg
def Inv.turned(I:Inv X AT σ H s)(k:∀b o,b≠it->s.heap.get? b=some o->h'.get? b=some o)(hn:H it=none)(hL:it≠X.env.locals)(h1:it∈X.ex\/X.s₀.heap.objs.size<=it)(h2:∀x c,X.env.cells.lookup x=some c->c≠it)(h3:∀p∈X.pn++AT,p.1≠it):Inv X AT σ H { s with heap:=h',toks:=t' }:=by
 have nit:∀b u,H b=some u->b≠it:=λb u e z=>by rw[z,hn]at e;cases e
 refine I.step (g':=s.gens) (d':=s.drawn) (ch:=[it]) (λb hb=>?_) (λb o _ _ hc e _=>k b o (λz=>hc (by simp[z])) e) (λb o _ _ hc e _=>⟨o.slots,k b o (λz=>hc (by simp[z])) e⟩) (λ_ _ _ _ n=>n)
  (λb o hc e=>⟨o,k b o (λz=>hc (by simp[z])) e⟩) (λ_ _ e=>e) (λ_ _ _ e=>e) (λb ps e=>⟨#[],by rw[e];simp⟩) (λm hm=>?_) (λb u e=>?_) I.bare
 . have e:b=it:=by simpa using hb
   subst e
   exact⟨h1,hL,h2,h3⟩
 . obtain⟨o,es,ep,ho,r⟩:=hm
   exact⟨o,es,ep,k _ o (cD hL) ho,r⟩
 . refine(I.hok b u e).stay (λc v hc q=>k c v ?_ q) (λ_ q=>q) λ_ _ q=>q
   rcases hc with z|z
   . rw[z];exact nit b u e
   . exact nit c _ z
def Inv.tok(I:Inv X AT σ H s)(t:Nat):Inv X AT σ H { s with toks:=t }:=I.un (h':=s.heap) (t':=t) Un.refl I.hok
theorem Inv.kept(I:Inv X AT σ H s)(k:∀b u,s.heap.get? b=some u->h'.get? b=some u):Inv X AT σ H { s with heap:=h',toks:=t' }:=I.un (Un.kept k) (I.hok.kept k)
theorem Inv.laid(I:Inv X AT σ H s)(k:∀b u,s.heap.get? b=some u->h'.get? b=some u)(hp:s.heap.objs.size<=a)(new:d8 X.prog X.w (upd H a o) h' a o):Inv X AT σ (upd H a o) { s with heap:=h',toks:=t' }:=I.un (Un.laid k hp (I.hok.fresh hp)) (I.hok.laid k hp new)
theorem Inv.write{x e:Addr}(I:Inv X AT σ H s)(mu:Ux (H x))(he:e=x\/H e=some (.own x))(k:∀b u,b≠e->s.heap.get? b=some u->h'.get? b=some u)(QJ:∃u,h'.get? e=some u)(new:d8 X.prog X.w (upd H x o) h' x o):Inv X AT σ (upd H x o) { s with heap:=h',toks:=t' }:=I.un (Un.write mu he k QJ) (I.hok.write mu he k QJ new)
def Inv.QM{Zj:AO}(I:Inv X AT σ H s)(h:∀p∈Zj,s.heap.get? p.1=some p.2/\H p.1=none/\p.1≠X.env.locals/\p.1∉X.fs/\∀v,p.2.data ≠ .cell v):Inv X Zj σ H s:=⟨I.ok,I.os,I.bare,I.base,I.loc,I.cell,I.free,I.kM,λp hp=>(fk.mp hp).elim (λz=>I.pin p (Hq _ z)) (h p),I.hok,I.len⟩
def zK(hN:N.Nodup)(a:N[i]?=some x)(b:N[j]?=some x):i=j:=by obtain⟨h1,e1⟩:=dZ.mp a;obtain⟨h2,e2⟩:=dZ.mp b;exact(List.getElem_inj hN).mp (e1.trans e2.symm)
def AN{v:V}(I:Inv X AT σ H s)(hN:X.N.Nodup)(hi:X.N[i]?=some x)(hx:Loc X.env.scope x)(r:RelV v u)(h:∀s',Inv X AT (σ.set i (some v)) H s'->(∃a,Heap.SameBut a s.heap s'.heap/\(a=X.env.locals\/X.env.cells.lookup x=some a))->Q () s')(hf:X.fn x=true\/X.env.scope.names.lookup x=some .local:=by first|exact .inl rfl|exact .inr rfl|assumption):wpAny M A (storeName X.env x u) Q E s:=by
 obtain⟨m,hn,hl⟩:=id I.loc
 have hcls:(X.env.scope.kind ==.class || (X.env.scope.kind ==.module && X.env.locals != X.env.globals))=false:=by rw[I.ok.kind];rfl
 have hiσ:i<σ.length:=by rw[I.len];exact(dZ.mp hi).1
 have Jl:=I.Jl
 have tracked:∀{a:Addr}{h':Heap},(∃o,s.heap.get? a=some o/\H a=none)->Heap.SameBut a s.heap h'->iL X.prog X.w H h':=λ{a h'} ha hs b ob e=>by
  obtain⟨_,_,hfree⟩:=ha;refine(I.hok b ob e).stay (λc w' hc q=>(hs.2 c ?_).trans q) (λ_ q=>q) λ_ _ q=>q;rintro rfl;rcases hc with rfl|hc
  .rw [hfree]at e;cases e
  .rw [hfree]at hc;cases hc
 rcases hx with hk|hk
 . refine wpAny_storeName_local hk hn (λh' hn' hs=>?_) hcls
   obtain⟨oL,_,_,hoL,_⟩:=id hn
   refine h _ ⟨I.ok,I.os,I.bare,⟨λb o e n hb hx=>?_,λb o e n hb hx=>?_,I.base.free,λb o e hx=>?_,I.base.tups,I.base.oh,I.base.qy⟩,⟨_,hn',λj y v' e1 e2 e3=>?_⟩,λy c e=>?_,I.free,I.kM,λp hp=>?_,tracked ⟨oL,hoL,I.free⟩ hs,by simpa using I.len⟩ ⟨_,hs,.inl rfl⟩
   . exact(hs.2 b (eO (lI (bY e) I.ok.above))).trans (I.base.keep b o e n hb hx)
   . obtain⟨sl,e1⟩:=I.base.slot b o e n hb hx
     exact⟨sl,(hs.2 b (eO (lI (bY e) I.ok.above))).trans e1⟩
   . obtain⟨o',e1⟩:=I.base.there b o e hx
     exact⟨o',(hs.2 b (eO (lI (bY e) I.ok.above))).trans e1⟩
   . by_cases hj:j=i
     . subst hj
       rw[hi]at e1;cases e1
       rw[uc hiσ]at e2
       cases e2
       exact⟨u,r,.inl ⟨hk,by simp⟩⟩
     . rw[y9 (cD hj)]at e2
       obtain⟨u',r',q⟩:=hl j y v' e1 e2 e3
       refine⟨u',r',?_⟩
       rcases q with⟨k,e⟩|⟨k,c,e,z⟩
       . refine .inl ⟨k,?_⟩
         have:y≠x:=λe=>hj (zK hN e1 (e▸hi))
         simp[this,e]
       . exact .inr ⟨k,c,e,z.sameBut hs (Jl y c e)⟩
   . obtain⟨w',z⟩:=I.cell y c e
     exact⟨w',z.sameBut hs (Jl y c e)⟩
   . obtain⟨e,n,ne,nf,d⟩:=I.pin p hp
     exact⟨(hs.2 p.1 ne).trans e,n,ne,nf,d⟩
 . have hfn:X.fn x=true:=by
    rcases hf with z|z
    . exact z
    . rw[z]at hk;cases hk
   obtain⟨c,hc⟩:=I.ok.has x (.inl hk)
   obtain⟨w',z⟩:=I.cell x c hc
   refine wpAny_storeName_cell I.ok.kind hk hc z (λh' hc' hs=>?_)
   obtain⟨oc,hoc,aiR⟩:=id z
   refine h { s with heap:=h' } ⟨I.ok,I.os,I.bare,⟨λb o e n hb hx=>?_,λb o e n hb hx=>?_,I.base.free,λb o e hx=>?_,I.base.tups,I.base.oh,I.base.qy⟩,⟨m,hn.sameBut hs (cD (Jl x c hc)),λj y v' e1 e2 e3=>?_⟩,λy c' e=>?_,I.free,I.kM,λp hp=>?_,tracked ⟨oc,hoc,I.kM x c hc⟩ hs,by simpa using I.len⟩ ⟨c,hs,.inr hc⟩
   . exact(hs.2 b (eO (lI (bY e) (I.ok.g_ x c hfn hc)))).trans (I.base.keep b o e n hb hx)
   . obtain⟨sl,e1⟩:=I.base.slot b o e n hb hx
     exact⟨sl,(hs.2 b (eO (lI (bY e) (I.ok.g_ x c hfn hc)))).trans e1⟩
   . obtain⟨o',e1⟩:=I.base.there b o e hx
     exact⟨o',(hs.2 b (eO (lI (bY e) (I.ok.g_ x c hfn hc)))).trans e1⟩
   . by_cases hj:j=i
     . subst hj
       rw[hi]at e1;cases e1
       rw[uc hiσ]at e2
       cases e2
       exact⟨u,r,.inr ⟨.inl hk,c,hc,hc'⟩⟩
     . rw[y9 (cD hj)]at e2
       obtain⟨u',r',q⟩:=hl j y v' e1 e2 e3
       refine⟨u',r',?_⟩
       rcases q with q|⟨k,c',e,z'⟩
       . exact .inl q
       . refine .inr ⟨k,c',e,z'.sameBut hs ?_⟩
         rintro rfl
         exact hj (zK hN e1 (I.ok.inj _ _ _ e hc▸hi))
   . by_cases hcc:c'=c
     . subst hcc;exact⟨_,hc'⟩
     . obtain⟨w2,z2⟩:=I.cell y c' e
       exact⟨w2,z2.sameBut hs hcc⟩
   . obtain⟨e,n,ne,nf,d⟩:=I.pin p hp
     refine⟨(hs.2 p.1 ?_).trans e,n,ne,nf,d⟩
     intro q
     rw[q,hoc]at e
     have q':oc=p.2:=gZ e
     exact d w' (by rw[<-q'];exact aiR)
def vA{v:V}(I:Inv X AT σ H s)(hN:X.N.Nodup)(hi:X.N[i]?=some x)(hx:Loc X.env.scope x)(r:RelV v u)(h:∀s',Inv X AT (σ.set i (some v)) H s'->Q () s')(hf:X.fn x=true\/X.env.scope.names.lookup x=some .local:=by first|exact .inl rfl|exact .inr rfl|assumption):wpAny M A (storeName X.env x u) Q E s:=
 AN I hN hi hx r (λs' I' _=>h s' I') hf
def Inv.Lv{s':Shared}(I:Inv X AT σ H s)(ho:s'.os=s.os)(u:Un (frs X.stack) ch H H' s.heap s'.heap)(hok:iL X.prog X.w H' s'.heap)(hg:AllBare s'.gens)(hch:∀b∈ch,(b∈X.ex\/X.s₀.heap.objs.size<=b)/\b≠X.env.locals/\(∀x c,X.env.cells.lookup x=some c->c≠b)/\∀p∈X.pn++AT,p.1≠b):Inv X AT σ H' s':=by
 obtain⟨h',g',d',t',o'⟩:=s'
 have e:o'=s.os:=ho
 subst e
 exact I.call (g':=g') (t':=t') (d':=d') u hok hg hch
end
abbrev XK:=Value->Option Addr->Hp->Prop
abbrev St:=Da (Option V)
abbrev VK:=V->Hp->Prop
abbrev TE:=St->Hp->VK->Prop
abbrev TT:=St->Hp->(Bool->Hp->Prop)->Prop
abbrev TA:=St->Hp->(Da V->Hp->Prop)->Prop
structure Ends where
 nx:St->Hp->Prop
 rt:VK
 bk:St->Hp->Prop:=λ_ _=>False
 ct:St->Hp->Prop:=λ_ _=>False
abbrev TS:=Ends->St->Hp->Prop
def EP(X:Cx)(AT:AO)(σ:St)(Q:VK)(u:Value)(s':Shared):Prop:=∃v H',Inv X AT σ H' s'/\RelV v u/\Q v H'
def TP(X:Cx)(AT:AO)(σ:St)(Q:Bool->Hp->Prop)(b:Bool)(s':Shared):Prop:=∃H',Inv X AT σ H' s'/\Q b H'
def AP(X:Cx)(AT:AO)(σ:St)(Q:Da V->Hp->Prop)(us:Da Value)(s':Shared):Prop:=∃vs H',Inv X AT σ H' s'/\Vals vs us/\Q vs H'
def SP(X:Cx)(AT:AO)(D:Ends)(f:Flow)(s':Shared):Prop:=match f with
 | .next=>∃σ' H',Inv X AT σ' H' s'/\D.nx σ' H'
 | .brk=>∃σ' H',Inv X AT σ' H' s'/\D.bk σ' H'
 | .cont=>∃σ' H',Inv X AT σ' H' s'/\D.ct σ' H'
 | .ret u=>∃v σ' H',Inv X AT σ' H' s'/\RelV v u/\D.rt v H'
def PE(X:Cx)(e:Expr)(t:TE):Prop:=∀(AT:AO)(s:Shared)(σ:St)(H:Hp)(Q:VK),Inv X AT σ H s->t σ H Q->wpAny (model X.prog X.w) X.A (eval e X.env) (EP X AT σ Q) X.xe s
def PT(X:Cx)(e:Expr)(t:TT):Prop:=∀(AT:AO)(s:Shared)(σ:St)(H:Hp)(Q:Bool->Hp->Prop),Inv X AT σ H s->t σ H Q->wpAny (model X.prog X.w) X.A (isTrue e X.env (eval e X.env)) (TP X AT σ Q) X.xe s
def PW(X:Cx)(e:Expr)(t:TT):Prop:=∀(whole:Sem Value)(AT:AO)(s:Shared)(σ:St)(H:Hp)(Q:Bool->Hp->Prop),Inv X AT σ H s->t σ H Q->wpAny (model X.prog X.w) X.A (isTrue e X.env whole) (TP X AT σ Q) X.xe s
variable {X:Cx}{e:Expr}
def PW.pt{t:TT}(h:PW X e t):PT X e t:=h _
def PA(X:Cx)(es:Da Expr)(t:TA):Prop:=∀(pos:Pos)(AT:AO)(s:Shared)(σ:St)(H:Hp)(Q:Da V->Hp->Prop),Inv X AT σ H s->t σ H Q->wpAny (model X.prog X.w) X.A (spliced (backTo pos (starEach es X.env))) (AP X AT σ Q) X.xe s
def PS(X:Cx)(st:Stmt)(t:TS):Prop:=∀(AT:AO)(s:Shared)(σ:St)(H:Hp)(D:Ends),Inv X AT σ H s->t D σ H->wpAny (model X.prog X.w) X.A (exec st X.env) (SP X AT D) X.xe s
def rQ(X:Cx)(st:Da Stmt)(t:TS):Prop:=∀(AT:AO)(s:Shared)(σ:St)(H:Hp)(D:Ends),Inv X AT σ H s->t D σ H->wpAny (model X.prog X.w) X.A (execs st X.env) (SP X AT D) X.xe s
variable {s:Shared}
def br{α:Type}{t:Sem α}{Q Q':α->Shared->Prop}(h:wpAny M A t Q E s)(hQ:∀a s,Q a s->Q' a s):wpAny M A t Q' E s:=iM h hQ λ_ _ x=>x
variable {pos:Pos}{AT:AO}{σ:St}{op:CmpOp}
section
variable {X:Cx}
inductive xW(i:Nat)(σ:St)(H:Hp)(Q:VK):Prop
 |mk(v:_)(_:σ[i]?=some (some v))(_:Q v H)
def tC(v:V):TE:=λ_ H Q=>Q v H
def abU(hN:X.N[i]?=some x)(hv:Uz X.env.scope x)(hd:(x==("__debug__":Str))=false:=by decide)(hcd:(x==("__classdict__":Str))=false:=by decide):PE X (.Name x pos) (xW i):=by
 intro AT s σ H Q I h;obtain⟨v,e,h⟩:=h;obtain⟨m,hn,hl⟩:=I.loc;obtain⟨u,r,l⟩:=hl i x v hN e hv;have fin:EP X AT σ Q u s:=⟨v,H,I,r,h⟩
 rcases l with⟨hk,hm⟩|⟨hk,c,hc,hcell⟩
 .exact wpAny_Name (wpAny_loadName_local I.ok.kind hk hn hm fin) hd
 .rcases hk with hk|hk
  .exact wpAny_Name (wpAny_loadName_cell I.ok.kind hk hc hcell fin) hd
  .exact wpAny_Name (wpAny_loadName_free I.ok.kind hk hc hcell fin hcd) hd
def UA{x j pos}:PE X (.Constant (.str x) j pos) (tC (.str x)):=λ_ _ _ H _ I h=>Calls.Constant_str ⟨.str x,H,I.tok _,⟨_,Z⟩,h⟩
def Gl(X:Cx)(x:Str):Prop:=X.env.kindOf x=some .globalImplicit
def rT{Q:VS}(I:Inv X AT σ H s)(hg:Gl X x)(hm:X.mg x=some u)(h:Q u s)(hd:(x==("__debug__":Str))=false:=by decide):wpAny (model X.prog X.w) X.A (eval (.Name x pos) X.env) Q E s:=
 Calls.Name_function_global I.ok.kind hg (Calls.loadGlobal_global (by rw[I.ok.glob];exact I.mod.glob.keeps I.bk) hm h) hd
def vB{Q:VS}(I:Inv X AT σ H s)(hg:Gl X x)(hm:X.mg x=none)(hv:bootBuiltins x=some u)(h:Q u s)(hn:x ≠ "__name__":=by decide)(hd:(x==("__debug__":Str))=false:=by decide):wpAny (model X.prog X.w) X.A (eval (.Name x pos) X.env) Q E s:=by
 obtain⟨mb,h1,h2⟩:=I.mod.blt
 exact Calls.Name_function_global I.ok.kind hg (Calls.loadGlobal_builtin (by rw[I.ok.glob];exact I.mod.glob.keeps I.bk) hm (by rw[I.ok.blt];exact h1.keeps I.bk) ((h2 x hn).trans hv) h) hd
def aag{v:V}(hg:Gl X x)(hm:X.mg x=none)(hv:bootBuiltins x=some u)(r:RelV v u)(hn:x ≠ "__name__":=by decide)(hd:(x==("__debug__":Str))=false:=by decide):PE X (.Name x pos) (tC v):=λ_ _ _ H _ I h=>vB I hg hm hv ⟨v,H,I,r,h⟩ hn hd
variable {a b:Expr}{ta tb:TE}{pos:Pos}
def PC(X:Cx)(op:CmpOp)(a b:Expr)(t:TE):Prop:=∀(AT:AO)(s:Shared)(σ:St)(H:Hp)(Q:VK),Inv X AT σ H s->t σ H Q->wpAny (model X.prog X.w) X.A (eval a X.env) (λv s₁=>wpAny (model X.prog X.w) X.A (eval b X.env) (λu s₂=>wpAny (model X.prog X.w) X.A (compareOp op v u) (EP X AT σ Q) X.xe s₂) X.xe s₁) X.xe s
def LV(b:Expr)(h:op ≠ .In)(h2:op ≠ .NotIn):behindInMarks op b=false:=by
 have e1:(op==CmpOp.In)=false:=by cases op <;> first|rfl|exact absurd rfl h
 have e2:(op==CmpOp.NotIn)=false:=by cases op <;> first|rfl|exact absurd rfl h2
 cases b <;> simp[behindInMarks,e1,e2]
inductive yTB(Q:Bool->Hp->Prop)(x:V)(H1:Hp):Prop
 |mk(c:_)(_:x =.bl c)(_:Q c H1)
def tB(t:TE):TT:=λσ H Q=>t σ H (yTB Q)
variable {tA Zk:TT}{Cl:Da Expr}
def afn(u:TT)(σ:St)(Q:Bool->Hp->Prop):Bool->Hp->Prop:=λc H1=>if c=true then u σ H1 Q else Q false H1
def aiS(t u:TT):TT:=λσ H Q=>t σ H (afn u σ Q)
def aiT(u:TT)(σ:St)(Q:Bool->Hp->Prop):Bool->Hp->Prop:=λc H1=>if c=true then Q true H1 else u σ H1 Q
def tOr(t u:TT):TT:=λσ H Q=>t σ H (aiT u σ Q)
abbrev afo(Q:Bool->Hp->Prop):Bool->Hp->Prop:=λc H1=>Q (!c) H1
def aiU(t:TT):TT:=λσ H Q=>t σ H (afo Q)
inductive abV(tb:TE)(σ:St)(Q:VK)(x:V)(H1:Hp):Prop
 |mk(c:_)(_:x =.bl c)(_:if c=true then tb σ H1 Q else Q (.bl false) H1)
def afp(ta tb:TE):TE:=λσ H Q=>ta σ H (abV tb σ Q)
inductive abW(Q:VK)(x:V)(H1:Hp):Prop
 |mk(c:_)(_:x =.bl c)(_:Q (.bl (!c)) H1)
def afq(ta:TE):TE:=λσ H Q=>ta σ H (abW Q)
end
def az(K:Fg)(H:Hp)(a:Addr)(xs:Da V):Prop:=Rd H a (.lst xs)\/
  ∃(o:Obj)(Bi:Array Value)(n:Nat),K.lookup a=some o/\o.cls =.type "list"/\o.dict=none/\o.data =.seq Bi n/\Bi.size<=sizeLine/\Vals xs Bi.toList
def cV(K:Fg)(H:Hp)(a:Addr)(xs:Da V):Prop:=Rd H a (.tup xs)\/
  ∃(o:Obj)(Bi:Array Value)(n:Nat),K.lookup a=some o/\o.cls =.type "tuple"/\o.data =.seq Bi n/\Bi.size<=sizeLine/\Vals xs Bi.toList
noncomputable def aiV:Value->Option V
 | .none=>some .cu
 | .bool b=>some (.bl b)
 | .int i _=>some (.int i)
 | .str x _=>some (.str x)
 | .bytes b _=>some (.yp b)
 | .float b _=>some (.Ji b)
 | .ref a=>some (.ref a)
 | .type n=>some (.ty n)
 | _=>none
def RelV.abs{x:V}(r:RelV x u):aiV u=some x:=by
 cases x with
 | cu=>cases r;rfl
 | bl _=>cases r;rfl
 | int _=>obtain⟨t,rfl⟩:=r;rfl
 | str _=>obtain⟨t,rfl⟩:=r;rfl
 | yp _=>obtain⟨t,rfl⟩:=r;rfl
 | Ji _=>obtain⟨t,rfl⟩:=r;rfl
 | ref _=>cases r;rfl
 | ty _=>cases r;rfl
variable {y:V}
def RelV.inj{x:V}(r:RelV x u)(q:RelV y u):x=y:=gZ (r.abs.symm.trans q.abs)
theorem Vals.inj:∀{xs ys:Da V}{us:Da Value},Vals xs us->Vals ys us->xs=ys
 | _,_,_,.nil,.nil=>rfl
 | _,_,_,.cons r t,.cons r' t'=>by rw[r.inj r',Vals.inj t t']
variable {K:Fg}
section
variable {X:Cx}{AT:AO}{σ:St}{H:Hp}{s:Shared}{a:Addr}{xs ys:Da V}
def az.of(h:H a=some (.lst xs)):az K H a xs:=.inl (.inl h)
def cV.of(h:H a=some (.tup xs)):cV K H a xs:=.inl (.inl h)
theorem Inv.list(I:Inv X AT σ H s)(h:az X.K H a xs):∃Bi:Da Value,Vals xs Bi/\PlainL s.heap a Bi.toArray/\xs.length<=sizeLine:=by
 rcases h with h|⟨o,Bi,n,hk,hc,hd,hs,hz,r⟩
 .obtain ⟨z,Bi,n,r,e⟩:=h.ok I.hok;exact⟨Bi,r,⟨_,n,e,Z,Z,Z⟩,z⟩
 .refine ⟨Bi.toList,r,⟨o,n,I.jB a o hk,hc,hd,by simpa using hs⟩,?_⟩;have e:=r.length;simp only[Array.length_toList]at e;omega
theorem Inv.tuple(I:Inv X AT σ H s)(h:cV X.K H a xs):∃Bi:Da Value,Vals xs Bi/\IsTup s.heap a Bi.toArray/\xs.length<=sizeLine:=by
 rcases h with h|⟨o,Bi,n,hk,hc,hs,hz,r⟩
 .obtain ⟨z,Bi,r,p⟩:=h.ok I.hok;exact⟨Bi,r,p,z⟩
 .refine ⟨Bi.toList,r,⟨o,I.jB a o hk,hc,n,by simpa using hs⟩,?_⟩;have e:=r.length;simp only[Array.length_toList]at e;omega
def Inv.Xj(I:Inv X AT σ H s)(h:az X.K H a xs)(h':az X.K H a ys):xs=ys:=by
 obtain⟨Bi,r,⟨o,n,e,_,_,d⟩,_⟩:=I.list h;obtain⟨its',r',⟨o',n',e',_,_,d'⟩,_⟩:=I.list h';rw[e]at e';cases e';rw[d]at d';injection d' with d1 _;have:Bi=its':=by simpa using gP Array.toList d1
 subst this;exact r.inj r'
end
abbrev Cx.xX(X:Cx)(E:VS):Cx:={ X with xe:=E }
abbrev Cx.C9(X:Cx):Cx:=X.xX λ_ _=>False
theorem Cx.Ok.xX(ok:X.Ok)(E:VS):(X.xX E).Ok:=⟨ok.mod,ok.kind,ok.glob,ok.blt,ok.above,ok.inj,ok.has,ok.g_,ok.hd,ok.frames,ok.stk,ok.LR,ok.bs,ok.EV,ok.Hz,ok.DL,ok.pJ,ok.Jk⟩
def Cx.Ok.tT(ok:(X.xX E).Ok):X.Ok:=⟨ok.mod,ok.kind,ok.glob,ok.blt,ok.above,ok.inj,ok.has,ok.g_,ok.hd,ok.frames,ok.stk,ok.LR,ok.bs,ok.EV,ok.Hz,ok.DL,ok.pJ,ok.Jk⟩
variable {D:Ends}
section
variable {X:Cx}{AT:AO}{σ:St}{H:Hp}{s:Shared}{E:VS}
theorem Inv.xX(I:Inv X AT σ H s)(E:VS):Inv (X.xX E) AT σ H s:=⟨I.ok.xX E,I.os,I.bare,I.base,I.loc,I.cell,I.free,I.kM,I.pin,I.hok,I.len⟩
theorem Inv.tT(I:Inv (X.xX E) AT σ H s):Inv X AT σ H s:=⟨I.ok.tT,I.os,I.bare,I.base,I.loc,I.cell,I.free,I.kM,I.pin,I.hok,I.len⟩
theorem SP.tT{f:Flow}(h:SP (X.xX E) AT D f s'):SP X AT D f s':=by
 cases f with
 | next=>obtain⟨σ',H',I,q⟩:=h;exact⟨σ',H',I.tT,q⟩
 | brk=>obtain⟨σ',H',I,q⟩:=h;exact⟨σ',H',I.tT,q⟩
 | cont=>obtain⟨σ',H',I,q⟩:=h;exact⟨σ',H',I.tT,q⟩
 | ret u=>obtain⟨v,σ',H',I,r,q⟩:=h;exact⟨v,σ',H',I.tT,r,q⟩
theorem rQ.C9{st:Da Stmt}{t:TS}(h:rQ X.C9 st t):rQ X st t:=λAT s σ H D I hw=>
 iM (h AT s σ H D (I.xX _) hw) (λ_ _ q=>q.tT) λ_ _ z=>False.elim z
end
variable {tc:TT}
section
variable {X:Cx}{st:Stmt}{Cl:Da Stmt}{t u:TS}{e:Expr}{te:TE}{pos:Pos}
def afr:TS:=λD σ H=>D.nx σ H
def Ends.sq(D:Ends)(u:TS):Ends:={ D with nx:=u D }
def Ends.lp(D:Ends)(N:St->Hp->Prop):Ends:={ D with nx:=N,ct:=N,bk:=D.nx }
def zL(t u:TS):TS:=λD σ H=>t (D.sq u) σ H
def Inv.quiet(I:Inv X AT σ H s):interactive X.env=false:=by simp[interactive,I.ok.kind]
def UB(D:Ends)(σ:St):V->Hp->Prop:=λ_ H1=>D.nx σ H1
def afs(te:TE):TS:=λD σ H=>te σ H (UB D σ)
def aiW(te:TE):TS:=λD σ H=>te σ H D.rt
def aft(t:TS)(u:TS)(D:Ends)(σ:St):Bool->Hp->Prop:=λb H1=>if b=true then t D σ H1 else u D σ H1
def abX(c:TT)(t u:TS):TS:=λD σ H=>c σ H (aft t u D σ)
def Zl{c:Expr}{a b:Da Stmt}(hc:PT X c tc)(ha:rQ X a t)(hb:rQ X b u):PS X (.If c a b pos) (abX tc t u):=by
 intro AT s σ H D I h;refine wpAny_If (br (hc AT s σ H _ I h) λd s1 ⟨H1,I1,q1⟩=>?_);cases d with
 | true=>exact ha AT s1 σ H1 D I1 q1
 | false=>exact hb AT s1 σ H1 D I1 q1
def abY:TS:=λ_ _ _=>False
end
abbrev TG:=V->St->Hp->(St->Hp->Prop)->Prop
abbrev EW:=Da V->St->Hp->(St->Hp->Prop)->Prop
def PG(X:Cx)(target:Expr)(t:TG):Prop:=∀(AT:AO)(s:Shared)(σ:St)(H:Hp)(v:V)(u:Value)(Q:St->Hp->Prop),Inv X AT σ H s->RelV v u->t v σ H Q->wpAny (model X.prog X.w) X.A (assign target X.env u) (λ_ s'=>∃σ' H',Inv X AT σ' H' s'/\Q σ' H') X.xe s
def PGs(X:Cx)(ts:Da Expr)(t:EW):Prop:=∀(AT:AO)(s:Shared)(σ:St)(H:Hp)(vs:Da V)(us:Da Value)(Q:St->Hp->Prop),Inv X AT σ H s->Vals vs us->t vs σ H Q->wpAny (model X.prog X.w) X.A (assignInOrder ((assignEach ts X.env).map (·.2)) us) (λ_ s'=>∃σ' H',Inv X AT σ' H' s'/\Q σ' H') X.xe s
abbrev uh:=V->V->V->Hp->(Hp->Prop)->Prop
def Xk(X:Cx)(t:uh):Prop:=∀(AT:AO)(s:Shared)(σ:St)(H:Hp)(o i v:V)(ov iv u:Value)(Q:Hp->Prop),Inv X AT σ H s->RelV o ov->RelV i iv->RelV v u->t o i v H Q->wpAny (model X.prog X.w) X.A (setItem ov iv u) (λ_ s'=>∃H',Inv X AT σ H' s'/\Q H') X.xe s
abbrev LW:=V->V->Hp->VK->Prop
def PIp(X:Cx)(op:Operator)(t:LW):Prop:=∀(AT:AO)(s:Shared)(σ:St)(H:Hp)(x y:V)(v u:Value)(Q:VK),Inv X AT σ H s->RelV x v->RelV y u->t x y H Q->wpAny (model X.prog X.w) X.A (inplaceOp op v u) (EP X AT σ Q) X.xe s
variable {es:Da Expr}{n:Nat}
section
variable {X:Cx}{pos:Pos}
def iA(i:Nat):TG:=λv σ H Q=>Q (σ.set i (some v)) H
inductive abZ(vs:Da V)(σ:St)(H:Hp)(Q:St->Hp->Prop):Prop
 |mk(_:vs=[])(_:Q σ H)
def ab0(u:EW)(Q:St->Hp->Prop)(r:Da V):St->Hp->Prop:=λσ' H'=>u r σ' H' Q
inductive Zm(t:TG)(u:EW)(vs:Da V)(σ:St)(H:Hp)(Q:St->Hp->Prop):Prop
 |mk(v r:_)(_:vs=v::r)(_:t v σ H (ab0 u Q r))
inductive DM(K:Fg)(n:Nat)(t:EW)(v:V)(σ:St)(H:Hp)(Q:St->Hp->Prop):Prop
 |mk(a xs:_)(_:v =.ref a)(_:cV K H a xs)(_:xs.length=n)(_:t xs σ H Q)
def ab1{k:Nat}{t:EW}(hc:X.calm=true)(h:PGs X es t)(hn:(assignEach es X.env).length=n:=by rfl)(hst:(assignEach es X.env).findIdx? (·.1)=none:=by rfl):PG X (.Tuple es k pos) (DM X.K n t):=by
 intro AT s σ H v u Q I r hw
 obtain⟨a,xs,e1,hq,hl,hw⟩:=hw
 subst e1
 cases r
 obtain⟨Bi,rv,ht,hz⟩:=I.tuple hq
 refine assign_Tuple_tuple (I.ok.hd hc) ht (by simp[hn,<-hl,rv.length]) hst λh' hx=>?_
 have I1:Inv X AT σ H { s with heap:=h' }:=I.kept (t':=s.toks) λb o e=>hx b o (eO (bY e)) e
 exact h AT _ σ H xs _ Q I1 (by simpa using rv) hw
def aah(σ:St)(Q:St->Hp->Prop):Hp->Prop:=λH3=>Q σ H3
def aai(t:uh)(v:V)(σ:St)(Q:St->Hp->Prop)(o:V):V->Hp->Prop:=λi H2=>t o i v H2 (aah σ Q)
def afu(ti:TE)(t:uh)(v:V)(σ:St)(Q:St->Hp->Prop):V->Hp->Prop:=λo H1=>ti σ H1 (aai t v σ Q o)
def aiX(to ti:TE)(t:uh):TG:=λv σ H Q=>to σ H (afu ti t v σ Q)
def afv(g:TG)(D:Ends)(σ:St):V->Hp->Prop:=λx H1=>g x σ H1 D.nx
def AQ(te:TE)(g:TG):TS:=λD σ H=>te σ H (afv g D σ)
inductive afw(i:Nat)(j:Nat)(D:Ends)(σ:St)(vs:Da V)(H1:Hp):Prop
 |mk(v w:_)(_:vs=[v,w])(_:D.nx ((σ.set i (some v)).set j (some w)) H1)
def aiY(i j:Nat)(ta:TA):TS:=λD σ H=>ta σ H (afw i j D σ)
def Xl(D:Ends)(σ:St):Hp->Prop:=λH6=>D.nx σ H6
def Xm(qz:uh)(D:Ends)(σ:St)(o:V)(i:V):V->Hp->Prop:=λz H5=>qz o i z H5 (Xl D σ)
def Xn(Av:LW)(qz:uh)(D:Ends)(σ:St)(o:V)(i:V)(x:V):V->Hp->Prop:=λy H4=>Av x y H4 (Xm qz D σ o i)
def Xo(te:TE)(Av:LW)(qz:uh)(D:Ends)(σ:St)(o:V)(i:V):V->Hp->Prop:=λx H3=>te σ H3 (Xn Av qz D σ o i x)
def Xp(te:TE)(AR:V->V->Hp->VK->Prop)(Av:LW)(qz:uh)(D:Ends)(σ:St)(o:V):V->Hp->Prop:=λi H2=>AR o i H2 (Xo te Av qz D σ o i)
def ab2(ti:TE)(te:TE)(AR:V->V->Hp->VK->Prop)(Av:LW)(qz:uh)(D:Ends)(σ:St):V->Hp->Prop:=λo H1=>ti σ H1 (Xp te AR Av qz D σ o)
def afx(to ti te:TE)(AR:V->V->Hp->VK->Prop)(Av:LW)(qz:uh):TS:=λD σ H=>to σ H (ab2 ti te AR Av qz D σ)
def ab3(X:Cx)(t:V->V->Hp->VK->Prop):Prop:=∀(AT:AO)(s:Shared)(σ:St)(H:Hp)(o i:V)(ov iv:Value)(Q:VK),Inv X AT σ H s->RelV o ov->RelV i iv->t o i H Q->wpAny (model X.prog X.w) X.A (getItem ov iv) (EP X AT σ Q) X.xe s
inductive ipI(f:Int->Int->Int)(x:V)(y:V)(H:Hp)(Q:VK):Prop
 |mk(i j:_)(_:x =.int i)(_:y =.int j)(_:Q (.int (f i j)) H)
def ab4:PIp X .Sub (ipI λi j=>i-j):=by intro AT s σ H x y v u Q I r1 r2 h;obtain⟨i,j,e1,e2,q⟩:=h;subst e1;subst e2;obtain⟨t,rfl⟩:=r1;obtain⟨t',rfl⟩:=r2;exact isub_int ⟨.int _,H,I.tok _,⟨_,Z⟩,q⟩
end
section
variable {X:Cx}{pos:Pos}
def ab5(c:TT)(tb:TS):TS:=λD σ H=>∃W:Nat->St->Hp->Prop,(∃m,W m σ H)/\∀m σ H,W m σ H->c σ H λb H1=>if b=true then ∃N:St->Hp->Prop,(∀σ' H',N σ' H'->∃m',m'<m/\W m' σ' H')/\tb { D with nx:=N,ct:=N,bk:=D.nx } σ H1 else D.nx σ H1
end
structure It where
 go:Nat->Hp->Prop
 EX:Nat->Hp->V->Hp->Prop
 stop:Nat->Hp->Prop
def qA(X:Cx)(AT:AO)(H:Hp)(b:Addr):Prop:=H b=none/\b≠X.env.locals/\b∉X.fs/\(b∈X.ex\/X.s₀.heap.objs.size<=b)/\(∀x c,X.env.cells.lookup x=some c->c≠b)/\∀p∈X.pn++AT,p.1≠b
variable {H':Hp}
def Inv.DN{b:Addr}(I:Inv X AT σ H s)(hb:s.heap.objs.size<=b)(hn:H' b=none):qA X AT H' b:=by
 refine⟨hn,zz (lI I.lt hb),I.aiQ hb,.inr (fZ I.sz hb),λx c e z=>?_,λp hp z=>?_⟩
 .obtain ⟨v,q⟩:=I.cell x c e;exact absurd (lI q.lt (by rw[z];exact hb)) (jW _)
 .exact absurd (lI (bY (I.pin p hp).1) (by rw[z];exact hb)) (jW _)
structure Turn(P:Program)(w:World)(K:Fg)(tg:Expr)(J:It)(fp:Da Addr)(it:Addr)(tn:Nat->Heap->Prop):Prop where
 mem:it∈fp
 obj:∀i h,tn i h->∀b∈fp,∃o,h.get? b=some o/\∀v,o.data ≠ .cell v
 keep:∀i h h',tn i h->(∀b∈fp,∀o,h.get? b=some o->h'.get? b=some o)->tn i h'
 item:∀(X:Cx),X.prog=P->X.w=w->X.K=K->X.calm=true->∀(i:Nat)(AT:AO)(s:Shared)(σ:St)(H:Hp)(E:VS),Inv X AT σ H s->(∀b∈fp,qA X AT H b)->tn i s.heap->J.go i H->
  wpAny (model P w) X.A (pyNext (.ref it)) (λr s1=>∃u,r=some u/\
   wpAny (model P w) X.A (letOwnedTupleGo tg (.ref it) u) (λ_ s2=>∃x H',Inv X AT σ H' s2/\RelV x u/\J.EX i H x H'/\tn (i+1) s2.heap/\∀b∈fp,H' b=none) E s1) E s
 done:∀(X:Cx),X.prog=P->X.w=w->X.K=K->X.calm=true->∀(i:Nat)(AT:AO)(s:Shared)(σ:St)(H:Hp)(E:VS),Inv X AT σ H s->(∀b∈fp,qA X AT H b)->tn i s.heap->J.stop i H->
  wpAny (model P w) X.A (pyNext (.ref it)) (λr s1=>r=none/\Inv X AT σ H s1) E s
 self:∀(A:Around)(i:Nat)(s:Shared)(Q:VS)(E:VS),tn i s.heap->Q (.ref it) s->wpAny (model P w) A (pyIter (.ref it)) Q E s
abbrev TI:=St->Hp->(It->Hp->Prop)->Prop
def PIE(X:Cx)(AT:AO)(σ:St)(tg:Expr)(R:It->Hp->Prop)(itv:Value)(s2:Shared):Prop:=∃(it:Addr)(fp:Da Addr)(tn:Nat->Heap->Prop)(J:It)(H':Hp),itv =.ref it/\Inv X AT σ H' s2/\Turn X.prog X.w X.K tg J fp it tn/\tn 0 s2.heap/\(∀b∈fp,qA X AT H' b)/\R J H'
def PI(X:Cx)(tg Bz:Expr)(wi:TI):Prop:=∀(AT:AO)(s:Shared)(σ:St)(H:Hp)(R:It->Hp->Prop),Inv X AT σ H s->wi σ H R->wpAny (model X.prog X.w) X.A (eval Bz X.env) (λv s1=>wpAny (model X.prog X.w) X.A (pyIter v) (PIE X AT σ tg R) X.xe s1) X.xe s
variable {tg:Expr}
def Cq{o:Obj}{n:String}{vs:Array Value}(ho:s.heap.get? it=some o)(hc:o.cls =.type n)(hd:o.data =.fields vs)(hn:["enumerate","zip","dict_itemiterator","dict_reverseitemiterator","odict_iterator","itertools.zip_longest","itertools.pairwise"].contains n=false)(hQ:Q () s):wpAny M A (letOwnedTupleGo tg (.ref it) u) Q E s:=by
 unfold letOwnedTupleGo
 cases tg <;> first
  | exact aW hQ
  | (cases u <;> first
      | exact aW hQ
      | (refine au (wpAny_load ho ?_)
         rw[hc,hd]
         show wpAny M A (if(["enumerate","zip","dict_itemiterator","dict_reverseitemiterator","odict_iterator","itertools.zip_longest","itertools.pairwise"].contains n && vs[0]?==some (rawInt _))=true then _ else _) Q E s
         rw[aB (by intro h;rw[hn,Bool.false_and]at h;cases h)]
         exact aW hQ))
def tU(K:Fg)(a:Addr):It:=⟨λi H=>∃xs x,az K H a xs/\xs[i]?=some x,λi H x H'=>H'=H/\∀xs,az K H a xs->xs[i]?=some x,λi H=>∃xs,az K H a xs/\xs.length<=i⟩
def Jo(lo:Int)(n:Nat):It:=⟨λi _=>i<n,λi H x H'=>H'=H/\x =.int (lo+i),λi _=>n<=i⟩
theorem UC(a it:Addr):Turn P w K tg (tU K a) [it] it (λi h=>h.IsListIter it a i) where
 mem:=by simp
 obj:=λi h st b hb=>by
  have e:b=it:=by simpa using hb
  subst e;obtain⟨o,e,c,d⟩:=st;exact⟨o,e,λv z=>by rw[d]at z;cases z⟩
 keep:=λi h h' st k=>st.at λo e=>k it (by simp) o e
 item:=by intro X hP hw hK hc i AT s σ H E I hf st hg;subst hP hw hK;obtain⟨xs,x,hq,hx⟩:=hg;obtain⟨Bi,rv,p,hz⟩:=I.list hq;obtain⟨u,hu,ru⟩:=rv.get hx;obtain⟨f0,f1,f2,f3,f4,f5⟩:=hf it (by simp);refine wpAny_pyNext_list_item st p.isList (x:=u) (by simpa using hu) λh' st' sb=>?_;have I1:Inv X AT σ H { s with heap:=h' }:=I.turned (t':=s.toks) (λb o hb e=>(sb.2 b hb).trans e) f0 f1 f3 f4 f5;obtain⟨o,e,c,d⟩:=id st';exact⟨u,Z,Cq (s:={ s with heap:=h' }) e c d (by decide) ⟨x,H,I1,ru,⟨Z,λys hy=>by rw[I.Xj hy hq];exact hx⟩,st',λb hb=>(hf b hb).1⟩⟩
 done:=by intro X hP hw hK hc i AT s σ H E I hf st hg;subst hP hw hK;obtain⟨xs,hq,hx⟩:=hg;obtain⟨Bi,rv,p,hz⟩:=I.list hq;obtain⟨f0,f1,f2,f3,f4,f5⟩:=hf it (by simp);have hl:=rv.length;exact wpAny_pyNext_list_end (I.ok.hd hc) st p.isList (by simp;omega) λh' eb=>⟨Z,I.turned (t':=s.toks) (λb o hb e=>eb b o hb e) f0 f1 f3 f4 f5⟩
 self:=λ_ _ _ _ _ st h=>wpAny_pyIter_listiter st h
theorem SA(it:Addr)(lo:Int)(n:Nat):Turn P w K tg (Jo lo n) [it] it (λi h=>IsRangeIter h it (lo+(i:Nat)*1) ((n:Int)-(i:Nat)) 1) where
 mem:=by simp
 obj:=λi h st b hb=>by
  have e:b=it:=by simpa using hb
  subst e;exact⟨_,st,λv z=>by have z':Data.fields _=Data.cell v:=z;cases z'⟩
 keep:=λi h h' st k=>k it (by simp) _ st
 item:=by intro X hP hw hK hc i AT s σ H E I hf st hg;subst hP hw hK;obtain⟨f0,f1,f2,f3,f4,f5⟩:=hf it (by simp);have W:=Walks.range (prog:=X.prog) (w:=X.w) (I.ok.hd hc) it lo 1 n;refine W.item i s _ _ hg st λv h' tk hv st' kk=>?_;obtain⟨t,rfl⟩:=hv;have I1:Inv X AT σ H { s with heap:=h',toks:=tk }:=I.turned (λb o hb e=>kk b o (by simpa using hb) e) f0 f1 f3 f4 f5;refine⟨_,Z,Cq (s:={ s with heap:=h',toks:=tk }) (n:="range_iterator") st' rfl rfl (by decide) ⟨.int (lo+i),H,I1,⟨t,?_⟩,⟨Z,Z⟩,st',λb hb=>(hf b hb).1⟩⟩;rw[Int.mul_one]
 done:=by intro X hP hw hK hc i AT s σ H E I hf st hg;subst hP hw hK;obtain⟨f0,f1,f2,f3,f4,f5⟩:=hf it (by simp);exact wpAny_pyNext_range_end (I.ok.hd hc) st (by have:n<=i:=hg;omega) λh' eb=>⟨Z,I.turned (t':=s.toks) (λb o hb e=>eb b o hb e) f0 f1 f3 f4 f5⟩
 self:=λ_ _ _ _ _ st h=>wpAny_pyIter_rangeiter st h
variable {tl:TE}{fp:Da Addr}
section
variable {X:Cx}{tg:Expr}
inductive ab6(K:Fg)(R:It->Hp->Prop)(x:V)(H1:Hp):Prop
 |mk(a:_)(_:x =.ref a)(_:(∃xs,az K H1 a xs))(_:R (tU K a:_) H1)
def Zn(K:Fg)(tl:TE):TI:=λσ H R=>tl σ H (ab6 K R)
def aaj{l:Expr}(hl:PE X l tl):PI X tg l (Zn X.K tl):=by
 intro AT s σ H R I h;refine br (hl AT s σ H _ I h) λv s1 ⟨x,H1,I1,r1,q1⟩=>?_;obtain⟨a,e,⟨xs,hq⟩,q⟩:=q1;subst e;cases r1;obtain⟨Bi,rv,p,hz⟩:=I1.list hq;refine Ss p.isList ?_;refine⟨s1.heap.objs.size,[s1.heap.objs.size],_,_,H1,Z,I1.kept (t':=s1.toks) λb o e=>cI _ e,UC a _,⟨_,fj _ rfl,Z,Z⟩,λb hb=>?_,q⟩;have e:b=s1.heap.objs.size:=by simpa using hb
 subst e;exact I1.DN (aN _) (I1.hok.fresh (aN _))
theorem Xq{R:It->Hp->Prop}{lo hi:Int}{t u v:Tok}{tk:Nat}(I:Inv X AT σ H s)(h1:-(2 ^ 62)<=lo)(h2:lo<2 ^ 62)(h3:-(2 ^ 62)<=hi)(h4:hi<2 ^ 62)(q:R (Jo lo (hi-lo).toNat) H):wpAny (model X.prog X.w) X.A (pyIter (.ref s.heap.objs.size)) (PIE X AT σ tg R) E { s with heap:=s.heap.push { cls:=.type "range",data:=.fields #[.int lo t,.int hi u,.int 1 v] },toks:=tk }:=by
 refine wpAny_pyIter_range (IsRange.new ..) (small_one h1 h2 h3 h4) ?_
 have I1:Inv X AT σ H { s with heap:=s.heap.push { cls:=.type "range",data:=.fields #[.int lo t,.int hi u,.int 1 v] },toks:=tk }:=I.kept λb o e=>cI _ e
 refine⟨(s.heap.push { cls:=.type "range",data:=.fields #[.int lo t,.int hi u,.int 1 v] }).objs.size,[(s.heap.push { cls:=.type "range",data:=.fields #[.int lo t,.int hi u,.int 1 v] }).objs.size],_,_,H,Z,
  I1.kept (t':=tk) λb o e=>cI _ e,SA _ lo (hi-lo).toNat,?_,λb hb=>?_,q⟩
 . have e1:lo+((0:Nat):Int)*1=lo:=by simp
   have e2:(((hi-lo).toNat:Nat):Int)-((0:Nat):Int)=Builtin.Range.rangeSize lo hi 1:=by rw[rangeSize_one];split <;> omega
   show IsRangeIter _ _ (lo+((0:Nat):Int)*1) ((((hi-lo).toNat:Nat):Int)-((0:Nat):Int)) 1
   rw[e1,e2]
   exact fj _ rfl
 . have e:b=(s.heap.push { cls:=.type "range",data:=.fields #[.int lo t,.int hi u,.int 1 v] }).objs.size:=by simpa using hb
   subst e
   exact I1.DN (aN _) (I1.hok.fresh (aN _))
inductive ab7(R:It->Hp->Prop)(vs:Da V)(H1:Hp):Prop
 |mk(j:Int)(_:vs=[.int j])(_:-(2 ^ 62)<=j)(_:j<2 ^ 62)(_:R (Jo 0 j.toNat) H1)
def afy(ta:TA):TI:=λσ H R=>ta σ H (ab7 R)
def Lw(g:TG)(tb:TS)(D:Ends)(σ:St):It->Hp->Prop:=λJ H1=>∃W:Nat->Nat->St->Hp->Prop,(∃m,W 0 m σ H1)/\∀i m σ H,W i m σ H->(J.stop i H/\D.nx σ H)\/(J.go i H/\∃N:St->Hp->Prop,(∀σ' H',N σ' H'->∃m',m'<m/\W (i+1) m' σ' H')/\∀x H',J.EX i H x H'->g x σ H' (tb (D.lp N)))
def aiZ(wi:TI)(g:TG)(tb:TS):TS:=λD σ H=>wi σ H (Lw g tb D σ)
noncomputable def EY(fp:Da Addr)(h:Heap):Da (Addr×Obj):=fp.filterMap λb=>(h.get? b).map λo=>(b,o)
def jX{b:Addr}{o:Obj}(hb:b∈fp)(e:h.get? b=some o):(b,o)∈EY fp h:=Hu.mpr ⟨b,hb,by rw[e];rfl⟩
def UD{p:Addr×Obj}(hp:p∈EY fp h):p.1∈fp/\h.get? p.1=some p.2:=by
 obtain⟨b,hb,e⟩:=Hu.mp hp;cases q:h.get? b with
 | none=>rw[q]at e;cases e
 | some o=>rw[q]at e;have e':(b,o)=p:=gZ e;subst e';exact⟨hb,q⟩
def Inv.pinned(I:Inv X AT σ H s)(hf:∀b∈fp,qA X AT H b)(ho:∀b∈fp,∃o,s.heap.get? b=some o/\∀v,o.data ≠ .cell v):Inv X (AT++EY fp s.heap) σ H s:=I.QM λp hp=>(fk.mp hp).elim (λz=>I.pin p (kC _ z)) λz=>by obtain⟨hb,e⟩:=UD z;obtain⟨f0,f1,f2,_⟩:=hf p.1 hb;obtain⟨o,e',d⟩:=ho p.1 hb;rw[e]at e';cases e';exact⟨e,f0,f1,f2,d⟩
def Inv.rV{pl:AO}(I:Inv X (AT++pl) σ H s):Inv X AT σ H s:=I.QM λp hp=>I.pin p (kC _ (Hq _ hp))
end
variable {g:TG}{tb:TS}
theorem jC(Pv:Nat->St->Hp->Prop)(h0:Pv 0 σ H)(hl:∀i σ H,i<=xs.length->Pv i σ H->az K H a xs)(hs:∀i x σ H,xs[i]?=some x->Pv i σ H->g x σ H (tb (D.lp (Pv (i+1)))))(hd:∀σ H,Pv xs.length σ H->D.nx σ H):
  Lw g tb D σ (tU K a) H:=by
 refine⟨λi m σ H=>m=xs.length-i/\i<=xs.length/\Pv i σ H,⟨xs.length,by simp,fD _,h0⟩,?_⟩
 rintro i m σ H ⟨rfl,hi,p⟩
 have q:=hl i σ H hi p
 by_cases hlt:i<xs.length
 . refine .inr ⟨⟨xs,xs[i],q,by simp[hlt]⟩,Pv (i+1),λσ' H' p'=>⟨xs.length-(i+1),by omega,Z,hlt,p'⟩,λx H' y=>?_⟩
   obtain⟨e,y⟩:=y
   subst e
   exact hs i x σ _ (y xs q) p
 . have e:i=xs.length:=by omega
   subst e
   exact .inl ⟨⟨xs,q,aN _⟩,hd σ H p⟩
theorem gh{lo:Int}(Pv:Nat->St->Hp->Prop)(h0:Pv 0 σ H)(hs:∀i σ H,i<n->Pv i σ H->g (.int (lo+i)) σ H (tb (D.lp (Pv (i+1)))))(hd:∀σ H,Pv n σ H->D.nx σ H):
  Lw g tb D σ (Jo lo n) H:=by
 refine⟨λi m σ H=>m=n-i/\i<=n/\Pv i σ H,⟨n,by simp,fD _,h0⟩,?_⟩
 rintro i m σ H ⟨rfl,hi,p⟩
 by_cases hlt:i<n
 . refine .inr ⟨hlt,Pv (i+1),λσ' H' p'=>⟨n-(i+1),by omega,Z,hlt,p'⟩,λx H' y=>?_⟩
   obtain⟨e,y⟩:=y
   subst e y
   exact hs i σ _ hlt p
 . have e:i=n:=by omega
   subst e
   exact .inl ⟨aN _,hd σ H p⟩
abbrev R2:=V->V->Hp->VK->Prop
def ji(X:Cx)(f:Value->Value->Sem Value)(r:R2):Prop:=∀(AT:AO)(s:Shared)(σ:St)(H:Hp)(x y:V)(v u:Value)(Q:VK),Inv X AT σ H s->RelV x v->RelV y u->r x y H Q->wpAny (model X.prog X.w) X.A (f v u) (EP X AT σ Q) X.xe s
def UnR(X:Cx)(f:Value->Sem Value)(r:V->Hp->VK->Prop):Prop:=∀(AT:AO)(s:Shared)(σ:St)(H:Hp)(x:V)(v:Value)(Q:VK),Inv X AT σ H s->RelV x v->r x H Q->wpAny (model X.prog X.w) X.A (f v) (EP X AT σ Q) X.xe s
def iB(X:Cx)(f:Value)(r:Da V->Hp->VK->Prop):Prop:=∀(AT:AO)(s:Shared)(σ:St)(H:Hp)(xs:Da V)(us:Da Value)(Q:VK),Inv X AT σ H s->Vals xs us->r xs H Q->wpAny (model X.prog X.w) X.A (call f us) (EP X AT σ Q) X.xe s
def ab9(r:R2)(Q:VK)(x:V):V->Hp->Prop:=λy H2=>r x y H2 Q
def ai0(r:R2)(tb:TE)(σ:St)(Q:VK):V->Hp->Prop:=λx H1=>tb σ H1 (ab9 r Q x)
def Aw(r:R2)(ta tb:TE):TE:=λσ H Q=>ta σ H (ai0 r tb σ Q)
def ai1(r:V->Hp->VK->Prop)(Q:VK):V->Hp->Prop:=λx H1=>r x H1 Q
def tUn(r:V->Hp->VK->Prop)(ta:TE):TE:=λσ H Q=>ta σ H (ai1 r Q)
inductive rI(C:Int->Int->Prop)(g:Int->Int->V)(x:V)(y:V)(H:Hp)(Q:VK):Prop
 |mk(i j:_)(_:x =.int i)(_:y =.int j)(_:C i j)(_:Q (g i j:_) H)
inductive EZ(g:Int->Int->V)(x:V)(y:V)(H:Hp)(Q:VK):Prop
 |mk(i j:_)(_:x =.int i)(_:y =.int j)(_:Q (g i j:_) H)
inductive rU(g:Int->V)(x:V)(H:Hp)(Q:VK):Prop
 |mk(i:_)(_:x =.int i)(_:Q (g i:_) H)
section
variable {X:Cx}{a b c:Expr}{ta tb tc:TE}{pos:Pos}
def Xr(ha:PE X a ta)(hb:PE X b tb){R:V->V->Hp->Prop}(I:Inv X AT σ H s)(h:ta σ H λx H1=>tb σ H1 λy H2=>R x y H2){Q:VS}{f:Value->Value->Sem Value}(hf:∀v u s2 x y H2,Inv X AT σ H2 s2->RelV x v->RelV y u->R x y H2->wpAny (model X.prog X.w) X.A (f v u) Q X.xe s2):
  wpAny (model X.prog X.w) X.A (eval a X.env) (λv s₁=>wpAny (model X.prog X.w) X.A (eval b X.env) (λu s₂=>wpAny (model X.prog X.w) X.A (f v u) Q X.xe s₂) X.xe s₁) X.xe s:=by
 refine br (ha AT s σ H _ I h) λv s1 ⟨x,H1,I1,r1,q1⟩=>?_
 refine br (hb AT s1 σ H1 _ I1 q1) λu s2 ⟨y,H2,I2,r2,q2⟩=>?_
 exact hf v u s2 x y H2 I2 r1 r2 q2
def UE{f:Value->Value->Sem Value}{C:Int->Int->Prop}{g:Int->Int->Int}(rule:∀(i j:Int) (t u:Tok) (s:Shared) (Q:VS) (E:VS),C i j->Q (.int (g i j) s.toks) { s with toks:=s.toks+1 }->wpAny (model X.prog X.w) X.A (f (.int i t) (.int j u)) Q E s):
  ji X f (rI C λi j=> .int (g i j)):=by
 intro AT s σ H x y v u Q I rx ry h
 obtain⟨i,j,rfl,rfl,hc,q⟩:=h
 obtain⟨t,rfl⟩:=rx
 obtain⟨t',rfl⟩:=ry
 exact rule i j t t' s _ _ hc ⟨.int (g i j),H,I.tok _,⟨_,Z⟩,q⟩
def ab_{f:Value->Value->Sem Value}{g:Int->Int->Int}(rule:∀(i j:Int) (t u:Tok) (s:Shared) (Q:VS) (E:VS),Q (.int (g i j) s.toks) { s with toks:=s.toks+1 }->wpAny (model X.prog X.w) X.A (f (.int i t) (.int j u)) Q E s):
  ji X f (EZ λi j=> .int (g i j)):=by
 intro AT s σ H x y v u Q I rx ry h
 obtain⟨i,j,rfl,rfl,q⟩:=h
 obtain⟨t,rfl⟩:=rx
 obtain⟨t',rfl⟩:=ry
 exact rule i j t t' s _ _ ⟨.int (g i j),H,I.tok _,⟨_,Z⟩,q⟩
def SD{f:Value->Value->Sem Value}{g:Int->Int->Bool}(rule:∀(i j:Int) (t u:Tok) (s:Shared) (Q:VS) (E:VS),Q (.bool (g i j)) s->wpAny (model X.prog X.w) X.A (f (.int i t) (.int j u)) Q E s):
  ji X f (EZ λi j=> .bl (g i j)):=by
 intro AT s σ H x y v u Q I rx ry h
 obtain⟨i,j,rfl,rfl,q⟩:=h
 obtain⟨t,rfl⟩:=rx
 obtain⟨t',rfl⟩:=ry
 exact rule i j t t' s _ _ ⟨.bl (g i j),H,I,Z,q⟩
def acd(i j:Int):Prop:=0<=j/\j<=1000000/\i.natAbs<2 ^ 64
def SE(i j:Int):Prop:=(-(2 ^ 64)<i/\i<2 ^ 64)\/(-(2 ^ 64)<j/\j<2 ^ 64)
def SE.ok{i j:Int}(h:SE i j):IntMulOk i j:=by
 rcases h with⟨h1,h2⟩|⟨h1,h2⟩
 .exact .of_left (intBits_le_64 h1 h2)
 .exact .of_right (intBits_le_64 h1 h2)
def cW:ji X (binaryOp .Add) (EZ λi j=> .int (i+j)):=ab_ λ_ _ _ _ _ _ _ q=>add_int q
def tV:ji X (binaryOp .Sub) (EZ λi j=> .int (i-j)):=ab_ λ_ _ _ _ _ _ _ q=>sub_int q
def iP:ji X (binaryOp .Mult) (rI SE λi j=> .int (i*j)):=UE λ_ _ _ _ _ _ _ hc q=>mul_int q hc.ok
theorem kT:ji X (binaryOp .Mod) (rI (λ_ j=>0<j) λi j=> .int (i % j)):=UE λi j _ _ _ _ _ hc q=>by have h1:(0:Int)<j:=hc;exact mod_int' (by omega) (by rw[Int.fmod_eq_emod_of_nonneg i (by omega)];exact q)
def vC:ji X (binaryOp .Pow) (rI acd λi j=> .int (i ^ j.toNat)):=UE λ_ _ _ _ _ _ _ hc q=>pow_int_small hc.1 hc.2.1 hc.2.2 q
def unI{f:Value->Sem Value}{g:Int->Int}(rule:∀(i:Int) (t:Tok) (s:Shared) (Q:VS) (E:VS),Q (.int (g i) s.toks) { s with toks:=s.toks+1 }->wpAny (model X.prog X.w) X.A (f (.int i t)) Q E s):
  UnR X f (rU λi=> .int (g i)):=by
 intro AT s σ H x v Q I rx h
 obtain⟨i,rfl,q⟩:=h
 obtain⟨t,rfl⟩:=rx
 exact rule i t s _ _ ⟨.int (g i),H,I.tok _,⟨_,Z⟩,q⟩
def vD:UnR X (unaryOp .USub) (rU λi=> .int (-i)):=unI λ_ _ _ _ _ q=>neg_int q
end
noncomputable def ace:V->V->Bool
 | .cu,.cu=>true | .cu,.int _=>true | .int _,.cu=>true | .cu,.bl _=>true | .bl _,.cu=>true | .cu,.str _=>true | .str _,.cu=>true
 | .int _,.int _=>true | .bl _,.bl _=>true | .str _,.str _=>true | .yp _,.yp _=>true
 | .int _,.str _=>true | .str _,.int _=>true | .bl _,.str _=>true | .str _,.bl _=>true
 | _,_=>false
inductive rEq(x:V)(y:V)(H:Hp)(Q:VK):Prop
 |mk(_:ace x y=true)(_:Q (.bl (decide (x=y))) H)
inductive rNe(x:V)(y:V)(H:Hp)(Q:VK):Prop
 |mk(_:ace x y=true)(_:Q (.bl (!decide (x=y))) H)
def QN{i j:Int}:decide (V.int i=V.int j)=(i==j):=by rw[xr];simp
def UG{i j:Bool}:decide (V.bl i=V.bl j)=(i==j):=by rw[xr];simp
def QO{i j:Str}:decide (V.str i=V.str j)=(i==j):=by rw[xr];simp
def QS{i j:Array UInt8}:decide (V.yp i=V.yp j)=(i.toList==j.toList):=by rw[xr];cases i;cases j;simp
section
variable {X:Cx}{a b c:Expr}{ta tb tc:TE}{pos:Pos}
def dI{Q:VK}{k k':Bool}(I:Inv X AT σ H s)(q:Q (.bl k) H)(e:k=k'):EP X AT σ Q (.bool k') s:=by subst e;exact⟨.bl k,H,I,Z,q⟩
def gQ:ji X (compareOp .Eq) rEq:=by
 intro AT s σ H x y v u Q I rx ry h;obtain⟨hs,q⟩:=h;cases x with
 | cu=>
  cases rx;cases y with
  | cu=>cases ry;exact PySem.EqNone.eq_none_none (dI I q (by simp))
  | bl j=>cases ry;exact PySem.EqNone.eq_none_bool (dI I q (by simp))
  | int j=>obtain⟨t',rfl⟩:=ry;exact PySem.EqNone.eq_none_int (dI I q (by simp))
  | str j=>obtain⟨t',rfl⟩:=ry;exact PySem.EqNone.eq_none_str (dI I q (by simp))
  | _=>exact absurd (show false=true from hs) gk
 | bl i=>
  cases rx;cases y with
  | cu=>cases ry;exact PySem.EqNone.eq_bool_none (dI I q (by simp))
  | bl j=>cases ry;exact eq_bool (dI I q UG)
  | str j=>obtain⟨t',rfl⟩:=ry;exact PySem.EqMixed.eq_bool_str (dI I q (by simp))
  | _=>exact absurd (show false=true from hs) gk
 | int i=>
  obtain⟨t,rfl⟩:=rx;cases y with
  | cu=>cases ry;exact PySem.EqNone.eq_int_none (dI I q (by simp))
  | int j=>obtain⟨t',rfl⟩:=ry;exact eq_int (dI I q QN)
  | str j=>obtain⟨t',rfl⟩:=ry;exact PySem.EqMixed.eq_int_str (dI I q (by simp))
  | _=>exact absurd (show false=true from hs) gk
 | str i=>
  obtain⟨t,rfl⟩:=rx;cases y with
  | cu=>cases ry;exact PySem.EqNone.eq_str_none (dI I q (by simp))
  | bl j=>cases ry;exact PySem.EqMixed.eq_str_bool (dI I q (by simp))
  | int j=>obtain⟨t',rfl⟩:=ry;exact PySem.EqMixed.eq_str_int (dI I q (by simp))
  | str j=>obtain⟨t',rfl⟩:=ry;exact eq_str (dI I q QO)
  | _=>exact absurd (show false=true from hs) gk
 | yp i=>
  obtain⟨t,rfl⟩:=rx;cases y with
  | yp j=>obtain⟨t',rfl⟩:=ry;exact PySem.W.eq_bytes (dI I q QS)
  | _=>exact absurd (show false=true from hs) gk
 | _=>cases y <;> exact absurd (show false=true from hs) gk
def sY:ji X (compareOp .NotEq) rNe:=by
 intro AT s σ H x y v u Q I rx ry h;obtain⟨hs,q⟩:=h;cases x with
 | cu=>
  cases rx;cases y with
  | cu=>cases ry;exact PySem.EqNone.ne_none_none (dI I q (by simp))
  | bl j=>cases ry;exact PySem.EqNone.ne_none_bool (dI I q (by simp))
  | int j=>obtain⟨t',rfl⟩:=ry;exact PySem.EqNone.ne_none_int (dI I q (by simp))
  | str j=>obtain⟨t',rfl⟩:=ry;exact PySem.EqNone.ne_none_str (dI I q (by simp))
  | _=>exact absurd (show false=true from hs) gk
 | bl i=>
  cases rx;cases y with
  | cu=>cases ry;exact PySem.EqNone.ne_bool_none (dI I q (by simp))
  | bl j=>cases ry;exact ne_bool (dI I q (gP not UG))
  | str j=>obtain⟨t',rfl⟩:=ry;exact PySem.EqMixed.ne_bool_str (dI I q (by simp))
  | _=>exact absurd (show false=true from hs) gk
 | int i=>
  obtain⟨t,rfl⟩:=rx;cases y with
  | cu=>cases ry;exact PySem.EqNone.ne_int_none (dI I q (by simp))
  | int j=>obtain⟨t',rfl⟩:=ry;exact ne_int (dI I q (gP not QN))
  | str j=>obtain⟨t',rfl⟩:=ry;exact PySem.EqMixed.ne_int_str (dI I q (by simp))
  | _=>exact absurd (show false=true from hs) gk
 | str i=>
  obtain⟨t,rfl⟩:=rx;cases y with
  | cu=>cases ry;exact PySem.EqNone.ne_str_none (dI I q (by simp))
  | bl j=>cases ry;exact PySem.EqMixed.ne_str_bool (dI I q (by simp))
  | int j=>obtain⟨t',rfl⟩:=ry;exact PySem.EqMixed.ne_str_int (dI I q (by simp))
  | str j=>obtain⟨t',rfl⟩:=ry;exact ne_str (dI I q (gP not QO))
  | _=>exact absurd (show false=true from hs) gk
 | yp i=>
  obtain⟨t,rfl⟩:=rx;cases y with
  | yp j=>obtain⟨t',rfl⟩:=ry;exact PySem.W.ne_bytes (dI I q (gP not QS))
  | _=>exact absurd (show false=true from hs) gk
 | _=>cases y <;> exact absurd (show false=true from hs) gk
def zM:ji X (compareOp .Lt) (EZ λi j=> .bl (decide (i<j))):=SD λ_ _ _ _ _ _ _ q=>lt_int q
def Zo:ji X (compareOp .LtE) (EZ λi j=> .bl (decide (i<=j))):=SD λ_ _ _ _ _ _ _ q=>le_int q
def iX:ji X (compareOp .Gt) (EZ λi j=> .bl (decide (j<i))):=SD λ_ _ _ _ _ _ _ q=>gt_int q
def Cr:ji X (compareOp .GtE) (EZ λi j=> .bl (decide (j<=i))):=SD λ_ _ _ _ _ _ _ q=>ge_int q
def UH:ji X (compareOp .In) (λx y H Q=>∃i j,x =.str i/\y =.str j/\Q (.bl (!(Builtin.Str.occurrences j i 0 j.length 1).isEmpty)) H):=by intro AT s σ H x y v u Q I rx ry h;obtain⟨i,j,rfl,rfl,q⟩:=h;obtain⟨t,rfl⟩:=rx;obtain⟨t',rfl⟩:=ry;exact in_str (dI I q rfl)
def aZ(b:Expr)(h:op ≠ .In:=by decide)(h2:op ≠ .NotIn:=by decide):behindInMarks op b=false:=by
 have e1:(op==CmpOp.In)=false:=by cases op <;> first|rfl|exact absurd rfl h
 have e2:(op==CmpOp.NotIn)=false:=by cases op <;> first|rfl|exact absurd rfl h2
 cases b <;> simp[behindInMarks,e1,e2]
inductive UI(Q:Bool->Hp->Prop)(x:V)(H':Hp):Prop
 |mk(k:_)(_:x =.bl k)(_:Q k H')
def Lx(t:TE):TT:=λσ H Q=>t σ H (UI Q)
inductive UJ(r':R2)(tc:TE)(σ:St)(Q:VK)(y:V)(z:V)(H3:Hp):Prop
 |mk(k:_)(_:z =.bl k)(_:(if k=true then tc σ H3 λw' H4=>r' y w' H4 Q else Q (.bl false) H3))
def UK(r:R2)(r':R2)(tc:TE)(σ:St)(Q:VK)(x:V):V->Hp->Prop:=λy H2=>r x y H2 (UJ r' tc σ Q y)
def aak(r:R2)(r':R2)(tb:TE)(tc:TE)(σ:St)(Q:VK):V->Hp->Prop:=λx H1=>tb σ H1 (UK r r' tc σ Q x)
def acg(r r':R2)(ta tb tc:TE):TE:=λσ H Q=>ta σ H (aak r r' tb tc σ Q)
def vE:(sizeLine:Nat)<2 ^ 63:=by rw[gy];decide
def E1:ji X (binaryOp .Add) (λx y H Q=>∃i j,x =.str i/\y =.str j/\i.length+j.length<=sizeLine/\Q (.str (i++j)) H):=by intro AT s σ H x y v u Q I rx ry h;obtain⟨i,j,rfl,rfl,hz,q⟩:=h;obtain⟨t,rfl⟩:=rx;obtain⟨t',rfl⟩:=ry;exact add_str (λt' tk=>⟨.str (i++j),H,I.tok _,⟨_,Z⟩,q⟩) hz
def vals1{x:V}(r:Vals [x] us):∃u,us=[u]/\RelV x u:=by
 cases r with
 | cons r1 r2=>cases r2;exact⟨_,Z,r1⟩
def vals2{x:V}(r:Vals [x,y] us):∃u w',us=[u,w']/\RelV x u/\RelV y w':=by
 cases r with
 | cons r1 r2=>
  cases r2 with
  | cons r3 r4=>cases r4;exact⟨_,_,Z,r1,r3⟩
def Xs:iB X (.builtin "abs") (λxs H Q=>∃i,xs=[.int i]/\Q (.int (if i<0 then -i else i)) H):=by intro AT s σ H xs us Q I r h;obtain⟨i,rfl,q⟩:=h;obtain⟨u,rfl,t,rfl⟩:=vals1 r;exact call_abs_int λu tk=>⟨.int (if i<0 then -i else i),H,I.tok _,⟨_,Z⟩,q⟩
def UL:iB X (.type "int") (λxs H Q=>(∃i,xs=[.int i]/\Q (.int i) H)\/∃k,xs=[.bl k]/\Q (.int (if k then 1 else 0)) H):=by
 intro AT s σ H xs us Q I r h;rcases h with⟨i,rfl,q⟩|⟨k,rfl,q⟩
 .obtain ⟨u,rfl,t,rfl⟩:=vals1 r;exact call_int_int ⟨.int i,H,I,⟨_,Z⟩,q⟩
 .obtain ⟨u,rfl,r1⟩:=vals1 r;cases r1;exact call_int_bool ⟨.int (if k then 1 else 0),H,I.tok _,⟨_,Z⟩,q⟩
end
structure DO(h:Heap)(x dx C:Addr)(mA:SO):Prop where
 obj:h.get? x=some (PySem.W.instObj C dx)
 ns:h.Ns1 dx mA
 ne:dx≠x
def UM{mA:SO}(n:h.Ns1 dx mA):∃od,h.get? dx=some od/\∀name,PySem.W.lookIn name od=some (mA name):=by
 obtain⟨o,es,ep,ho,hd,hk,_,hm⟩:=n;refine⟨o,ho,λname=>?_⟩;have e:=hm name;unfold nsFind findBy at e;rw[<-Array.find?_toList]at e;unfold PySem.W.lookIn;rw[hd];dsimp only;split
 .rename_i y q;rw[q]at e;exact gP some e
 .rename_i q;rw[q]at e;have a:es.toList.any (·.refKey)=false:=by rw[List.any_eq_false];intro y hy;obtain⟨z,t,hkey⟩:=hk y (Array.mem_toList_iff.mp hy);simp[DictEntry.refKey,hkey]
  have a':¬ es.toList.any (·.refKey)=true:=by rw[a];exact gk
  rw[aB a'];exact gP some e
variable {C:Addr}
def DO.look{x dx:Addr}{mA:SO}(I:DO h x dx C mA):∃od,PySem.W.InstAt h x (PySem.W.instObj C dx) C (some od)/\∀name,PySem.W.lookIn name od=some (mA name):=
 let⟨od,ho,hl⟩:=UM I.ns
 ⟨od,⟨I.obj,Z,Z,ho⟩,hl⟩
variable {pl:Sem Bool}{R:Result->Shared->Prop}{kw:Da (Str×Value)}
section
variable {prog:Program}{w:World}{A:Around}{E:VS}{s:Shared}{K:Fg}{x dx C f:Addr}{mA:SO}{name:Str}{v:Value}
def get_map{expr:Bool}{Q:VS}(X:K.In s.heap)(I:DO s.heap x dx C mA)(hg:PySem.W.plainGet K C name=true)(hh:PySem.W.hasDictIn K C=true)(ha:PySem.W.findIn K (.ref C) name=some none)(hv:mA name=some v)(hv':PySem.W.handedIn v=true)(h:Q v { s with toks:=s.toks+1 }):
  wpAny (model prog w) A (getAttr (.ref x) name expr) Q E s:=by
 obtain⟨od,J,hl⟩:=I.look
 exact PySem.W.get_value X J (PySem.W.plainGet_of hg).1 (PySem.W.findObj_own hh ha rfl (by rw[hl,hv])) hv' h
def Xu{Q:Value×Da Value->Shared->Prop}(X:K.In s.heap)(I:DO s.heap x dx C mA)(hg:PySem.W.plainGet K C name=true)(hf:PySem.W.findIn K (.ref C) name=some (some (.ref f)))(ht:PySem.W.isFn K (.ref f)=true)(hv:mA name=none)(h:Q (.ref f,[.ref x]) s):
  wpAny (model prog w) A (getMethod (.ref x) name pl) Q E s:=by
 obtain⟨od,J,hl⟩:=I.look
 exact PySem.W.method_fn X J (PySem.W.plainGet_of hg).1 (PySem.W.plainGet_of hg).2 hf (mS.mp ht) (by show(PySem.W.lookIn name od).map (·.isSome)=some false;rw[hl,hv];rfl) h
theorem aal{ns:Da Str}(X:K.In s.heap)(I:DO s.heap x dx C mA)(hs:PySem.W.findIn K (.ref C) "__setattr__"=some (some (.builtin "object.__setattr__")))(hp:PySem.W.plainOver K C=true)(ht:PySem.W.takerIn K C name=some none)(hh:PySem.W.hasDictIn K C=true)(hw:PySem.Within mA ns)(hsz:ns.length<=sizeLine)(h:∀h',DO h' x dx C (λy=>if y=name then some v else mA y)->Heap.SameBut dx s.heap h'->Q () { s with heap:=h',toks:=s.toks+2 }):
  wpAny (model prog w) A (setAttr (.ref x) name v) Q E s:=by
 obtain⟨od,J,hl⟩:=I.look
 refine PySem.W.set_plain X J hs (PySem.W.osa_open (s:={ s with toks:=s.toks+1 }) (r:=none) X J hp ht λb=>?_)
 obtain⟨cd,hc,hd'⟩:=PySem.W.any_some hh
 have hx:s.heap.get? x=some ⟨.ref C,some dx,.plain,#[]⟩:=I.obj
 refine au (aW (au (au (wpAny_loadPart hx (au (PySem.W.Looks.here (s:={ s with toks:=s.toks+1 }) (PySem.W.looks_clsIn X hc) ?_))))))
 rw[hd']
 refine aW (a:=some dx) (au (aW (au ?_)))
 refine wpAny_nsSet1 (s:={ s with toks:=s.toks+1 }) I.ns λh' hn2 hs2=>?_
 obtain⟨oD,esD,epD,hoD,hdD,hcD⟩:=hn2.count (PySem.Within.cons name v hw)
 refine au (wpAny_lookBehind hoD (by rw[hdD];exact pastItsLine_dict (fZ hcD (by rw[jm];omega))) ?_)
 exact aW (h _ ⟨(hs2.2 _ (cD I.ne)).trans I.obj,hn2,I.ne⟩ hs2)
def Xv{vs:Da Value}(X:K.In s.heap)(hm:PySem.W.makesIn K C=true)(hi:PySem.W.findIn K (.ref C) "__init__"=some (some (.ref f)))(hf:PySem.W.typeIn K (.ref f)=some (.type "function"))(h:codeAny (model prog w) (A.under (.builtin "type.__call__" ⟨.ref C::vs,kw⟩)) (.call (.ref f) ⟨.ref (s.heap.objs.size+1)::vs,kw⟩) (PySem.W.InitBack (s.heap.objs.size+1) R)
    { s with heap:=(s.heap.push PySem.W.emptyDict).push (PySem.W.instObj C s.heap.objs.size) }):
  codeAny (model prog w) A (.call (.ref C) ⟨vs,kw⟩) R s:=by
 obtain⟨hh,g,d,t,os⟩:=s
 exact PySem.W.make_core (PySem.W.makes_of X hm) (PySem.W.looks_findIn X hi) (λself=>PySem.W.bind_fn X self hf) (.inl rfl) h
end
noncomputable def iQ(f:Str)(v:V):Da (Str×V)->Da (Str×V)
 | []=>[(f,v)]
 | (g,x)::r=>if g=f then(g,v)::r else(g,x)::iQ f v r
theorem C_(f g:Str)(v:V):∀fs:Da (Str×V),(iQ f v fs).lookup g=if g=f then some v else fs.lookup g
 | []=>by
  show List.lookup g [(f,v)]=_;by_cases h:g=f
  .have hb:(g==f)=true:=mS.mpr h;simp only[List.lookup,hb,aC h]
  .have hb:(g==f)=false:=Hr.mpr h;simp only[List.lookup,hb,aB h]
 | (k,x)::r=>by
  have ih:=C_ f g v r;rw[show iQ f v ((k,x)::r)=(if k=f then(k,v)::r else(k,x)::iQ f v r)from rfl];by_cases hk:k=f
  .rw [aC hk];by_cases h:g=k
   .have hb:(g==k)=true:=mS.mpr h;simp only[List.lookup,hb,aC (h.trans hk)]
   .have hb:(g==k)=false:=Hr.mpr h;simp only[List.lookup,hb,aB (λe:g=f=>h (e.trans hk.symm))]
  .rw [aB hk];by_cases h:g=k
   .have hb:(g==k)=true:=mS.mpr h;simp only[List.lookup,hb,aB (λe:g=f=>hk (h.symm.trans e))]
   .have hb:(g==k)=false:=Hr.mpr h;simp only[List.lookup,hb];exact ih
theorem AS(f:Str)(v:V):∀fs:Da (Str×V),f∈(iQ f v fs).map (·.1)/\∀g,g∈fs.map (·.1)->g∈(iQ f v fs).map (·.1)
 | []=>⟨by simp[iQ],λg h=>by simp at h⟩
 | (k,x)::r=>by
  obtain⟨i1,i2⟩:=AS f v r;rw[show iQ f v ((k,x)::r)=(if k=f then(k,v)::r else(k,x)::iQ f v r)from rfl];by_cases hk:k=f
  .rw [aC hk];subst hk;exact⟨by simp,λg h=>by simpa using h⟩
  .rw [aB hk];refine⟨?_,λg h=>?_⟩
   .rw [bP];exact cL _ i1
   .rw [bP]at h ⊢;rcases c_.mp h with e|e
    .exact c_.mpr (.inl e)
    .exact cL _ (i2 g e)
theorem Dc(f:Str)(v:V):∀fs:Da (Str×V),(iQ f v fs).length<=fs.length+1
 | []=>by simp[iQ]
 | (k,x)::r=>by
  have ih:=Dc f v r;rw[show iQ f v ((k,x)::r)=(if k=f then(k,v)::r else(k,x)::iQ f v r)from rfl];by_cases hk:k=f
  .rw [aC hk,jm,jm];omega
  .rw [aB hk,jm,jm];omega
def n_.some_of{v:V}{o:Option Value}(r:n_ (some v) o):∃u,o=some u/\RelV v u:=by
 cases o with
 | none=>exact(show False from r).elim
 | some u=>exact⟨u,Z,r⟩
def n_.none_of{o:Option Value}(r:n_ none o):o=none:=by
 cases o with
 | none=>rfl
 | some u=>exact(show False from r).elim
def UN{v:V}(r:RelV v u):PySem.W.handedIn u=true:=by
 cases v with
 | cu=>cases(show u=Value.none from r);rfl
 | bl b=>cases(show u=Value.bool b from r);rfl
 | int i=>obtain⟨t,e⟩:=(show ∃t,u=Value.int i t from r);cases e;rfl
 | str x=>obtain⟨t,e⟩:=(show ∃t,u=Value.str x t from r);cases e;rfl
 | yp b=>obtain⟨t,e⟩:=(show ∃t,u=Value.bytes b t from r);cases e;rfl
 | Ji b=>obtain⟨t,e⟩:=(show ∃t,u=Value.float b t from r);cases e;rfl
 | ref a=>cases(show u=Value.ref a from r);rfl
 | ty n=>cases(show u=Value.type n from r);rfl
section
variable {P:Program}{w:World}{H H':Hp}{h h':Heap}{a C dx:Addr}{fs fs':Da (Str×V)}
def Cs(hok:iL P w H h)(e:H a=some (.ins C dx fs)):∃mA,DO h a dx C mA/\(∀f,n_ (fs.lookup f) (mA f))/\PySem.Within mA (fs.map (·.1))/\fs.length<=1000/\H dx=some (.own a):=by
 obtain⟨d,z,ne,ob,mA,n,r,q⟩:=(show d8 P w H h a (.ins C dx fs)from hok a _ e)
 exact⟨mA,⟨ob,n,ne⟩,r,q,z,d⟩
end
structure p_(K:Fg)(C:Addr):Prop where
 pg:PySem.W.plainGet K C Str.empty=true
 hd:PySem.W.hasDictIn K C=true
 po:PySem.W.plainOver K C=true
 sa:PySem.W.findIn K (.ref C) "__setattr__"=some (some (.builtin "object.__setattr__"))
def p_.get(c:p_ K C)(f:Str):PySem.W.plainGet K C f=true:=c.pg
def fM(K:Fg)(C:Addr)(f:Str):Prop:=PySem.W.findIn K (.ref C) f=some none
def fM.afz{f:Str}(n:fM K C f):PySem.W.takerIn K C f=some none:=by unfold PySem.W.takerIn;rw[show PySem.W.findIn K (.ref C) f=some none from n];rfl
structure Meth(K:Fg)(C:Addr)(m:Str)(f:Addr):Prop where
 at_:PySem.W.findIn K (.ref C) m=some (some (.ref f))
 fn:PySem.W.isFn K (.ref f)=true
 kp:PySem.W.keepIn K (.ref f)=true
variable {env:Env}
section
variable {X:Cx}{AT:AO}{σ:St}{H:Hp}{s:Shared}{a C dx:Addr}{fs:Da (Str×V)}{f:Str}{v:V}{A:Around}{E:VS}
def E2{b:Bool}{Q:VS}(I:Inv X AT σ H s)(e:H a=some (.ins C dx fs))(c:p_ X.K C)(n:fM X.K C f)(l:fs.lookup f=some v)(h:∀u s',Inv X AT σ H s'->RelV v u->Q u s'):wpAny (model X.prog X.w) A (getAttr (.ref a) f b) Q E s:=by
 obtain⟨mA,O,r,_,_,_⟩:=Cs I.hok e
 obtain⟨u,hu,ru⟩:=n_.some_of (v:=v) (o:=mA f) (by rw[<-l];exact r f)
 exact get_map I.jB O (c.get f) c.hd n hu (UN ru) (h u _ (I.tok _) ru)
def E3{m:Str}{g:Addr}{Q:Value×Da Value->Shared->Prop}(I:Inv X AT σ H s)(e:H a=some (.ins C dx fs))(c:p_ X.K C)(k:Meth X.K C m g)(l:fs.lookup m=none)(h:Q (.ref g,[.ref a]) s):wpAny (model X.prog X.w) A (getMethod (.ref a) m pl) Q E s:=by
 obtain⟨mA,O,r,_,_,_⟩:=Cs I.hok e
 have hn:mA m=none:=n_.none_of (by rw[<-l];exact r m)
 exact Xu I.jB O (c.get m) k.at_ k.fn hn h
theorem E4(I:Inv X AT σ H s)(e:H a=some (.ins C dx fs))(c:p_ X.K C)(n:fM X.K C f)(hl:fs.length<1000)(ry:RelV y u)(h:∀s',Inv X AT σ (upd H a (.ins C dx (iQ f y fs))) s'->Q () s'):wpAny (model X.prog X.w) A (setAttr (.ref a) f u) Q E s:=by
 obtain⟨mA,O,r,wi,_,ho⟩:=Cs I.hok e
 have hz:(fs.map (·.1)).length<=sizeLine:=by rw[aD,gy];omega
 refine aal I.jB O c.sa c.po n.afz c.hd wi hz λh' O' sb=>h _ ?_
 have hd:∃o,h'.get? dx=some o:=let⟨o,_,_,e',_⟩:=O'.ns;⟨o,e'⟩
 refine I.write (x:=a) (e:=dx) (by rw[e];exact True.intro) (.inr ho) (λb q hb z=>(sb.2 b hb).trans z) hd ?_
 refine⟨by rw[av O.ne];exact ho,?_,O.ne,O'.obj,_,O'.ns,λg=>?_,λg hg=>?_⟩
 . have:=Dc f y fs;omega
 . show n_ ((iQ f y fs).lookup g) (if g=f then some u else mA g)
   rw[C_]
   by_cases q:g=f
   . rw[aC q,aC q];exact ry
   . rw[aB q,aB q];exact r g
 . by_cases q:g=f
   . rw[q];exact(AS f y fs).1
   . refine(AS f y fs).2 g (wi g λz=>hg ?_)
     show(if g=f then some u else mA g)=none
     rw[aB q];exact z
def Inv.made(I:Inv X AT σ H s):Inv X AT σ (upd (upd H s.heap.objs.size (.own (s.heap.objs.size+1))) (s.heap.objs.size+1) (.ins C s.heap.objs.size []))
  { s with heap:=(s.heap.push PySem.W.emptyDict).push (PySem.W.instObj C s.heap.objs.size) }:=by
 have e1:(s.heap.push PySem.W.emptyDict).get? s.heap.objs.size=some PySem.W.emptyDict:=fj s.heap rfl
 have e2:((s.heap.push PySem.W.emptyDict).push (PySem.W.instObj C s.heap.objs.size)).get? (s.heap.objs.size+1)=some (PySem.W.instObj C s.heap.objs.size):=by
  have:=fj (s.heap.push PySem.W.emptyDict) (o:=PySem.W.instObj C s.heap.objs.size) rfl
  rwa [nN]at this
 have e3:(s.heap.push PySem.W.emptyDict).Ns s.heap.objs.size (λ_=>none):=⟨PySem.W.emptyDict,#[],_,e1,Z,(λe he=>absurd he (by simp)),λ_=>rfl⟩
 have I1:=I.laid (a:=s.heap.objs.size) (o:=.own (s.heap.objs.size+1)) (h':=s.heap.push PySem.W.emptyDict) (t':=s.toks) (λb u q=>cI _ q) (aN _) ⟨_,e1⟩
 refine I1.laid (a:=s.heap.objs.size+1) (o:=.ins C s.heap.objs.size []) (t':=s.toks) (λb u q=>cI _ q) (Nat.le_of_eq (nN _ _)) ?_
 have ne:s.heap.objs.size≠s.heap.objs.size+1:=eO (Nat.lt_succ_self _)
 refine⟨by rw[av ne,ak],fD _,ne,e2,λ_=>none,(Heap.Ns1.of_empty e3).at λo q=>cI _ q,λ_=>True.intro,λy hy=>absurd rfl hy⟩
def aam{prog:Program}{f:Str}{s:Shared}{Q:VS}(hb:attributeBase e f env (eval e env)=eval e env)(h:wpAny (model prog w) A (eval e env) (λo s₁=>wpAny (model prog w) A (getAttr o f true) Q E s₁) E s):wpAny (model prog w) A (eval (.Attribute e f pos) env) Q E s:=
 Attribute_any_ h (by rw[arm_eval_Attribute,hb])
end
inductive afA(K:Fg)(f:Str)(Q:VK)(x:V)(H1:Hp):Prop
 |mk(a C dx fs v:_)(_:x =.ref a)(_:H1 a=some (.ins C dx fs))(_:p_ K C)(_:fM K C f)(_:fs.lookup f=some v)(_:Q v H1)
def ach(K:Fg)(ta:TE)(f:Str):TE:=λσ H Q=>ta σ H (afA K f Q)
inductive aan(K:Fg)(f:Str)(D:Ends)(σ:St)(y:V)(x:V)(H2:Hp):Prop
 |mk(a C dx fs:_)(_:x =.ref a)(_:H2 a=some (.ins C dx fs))(_:p_ K C)(_:fM K C f)(_:fs.length<1000)(_:D.nx σ (upd H2 a (.ins C dx (iQ f y fs))))
def afB(K:Fg)(ta:TE)(f:Str)(D:Ends)(σ:St):V->Hp->Prop:=λy H1=>ta σ H1 (aan K f D σ y)
def aci(K:Fg)(ta tv:TE)(f:Str):TS:=λD σ H=>tv σ H (afB K ta f D σ)
def SG(X:Cx)(op:Operator)(rd:V->V->Hp->VK->Prop):Prop:=∀(AT:AO)(s:Shared)(σ:St)(H:Hp)(x y:V)(u v:Value)(Q:VK),Inv X AT σ H s->RelV x u->RelV y v->rd x y H Q->wpAny (model X.prog X.w) X.A (inplaceOp op u v) (EP X AT σ Q) X.xe s
inductive SH(f:Str)(D:Ends)(σ:St)(a:Addr)(C:Addr)(z:V)(H3:Hp):Prop
 |mk(dx' fs':_)(_:H3 a=some (.ins C dx' fs'))(_:fs'.length<1000)(_:D.nx σ (upd H3 a (.ins C dx' (iQ f z fs'))))
def SI(rd:V->V->Hp->VK->Prop)(f:Str)(D:Ends)(σ:St)(a:Addr)(C:Addr)(v:V):V->Hp->Prop:=λy H2=>rd v y H2 (SH f D σ a C)
inductive Xw(K:Fg)(tv:TE)(rd:V->V->Hp->VK->Prop)(f:Str)(D:Ends)(σ:St)(x:V)(H1:Hp):Prop
 |mk(a C dx fs v:_)(_:x =.ref a)(_:H1 a=some (.ins C dx fs))(_:p_ K C)(_:fM K C f)(_:fs.lookup f=some v)(_:tv σ H1 (SI rd f D σ a C v))
def QT(K:Fg)(ta tv:TE)(rd:V->V->Hp->VK->Prop)(f:Str):TS:=λD σ H=>ta σ H (Xw K tv rd f D σ)
variable {rd:V->V->Hp->VK->Prop}
section
variable {X:Cx}{o e value:Expr}{f:Str}{pos pos' tpos:Pos}{ta tv:TE}
def ack(he:PE X e ta)(hb:attributeBase e f X.env (eval e X.env)=eval e X.env):PE X (.Attribute e f pos) (ach X.K ta f):=by intro AT s σ H Q I h;refine aam hb (br (he AT s σ H _ I h) λu s1 ⟨x,H1,I1,rx,a,C,dx,fs,v,ex,ea,c,n,l,q⟩=>?_);subst ex;obtain rfl:u=Value.ref a:=rx;exact E2 I1 ea c n l λu' s2 I2 ru=>⟨v,H1,I2,ru,q⟩
def acm(ha:PE X o ta)(hv:PE X value tv)(hs:swapsWith value (some (.Attribute o f pos')) pos.line X.env=pure false):PS X (.Assign [.Attribute o f pos'] value pos) (aci X.K ta tv f):=by intro AT s σ H D I h;refine plainObj_wpAny_Assign_Attribute (br (hv AT s σ H _ I h) λu s1 ⟨y,H1,I1,ry,q⟩=>br (ha AT s1 σ H1 _ I1 q) λov s2 ⟨x,H2,I2,rx,a,C,dx,fs,ex,ea,c,n,l,q2⟩=>?_) hs;subst ex;obtain rfl:ov=Value.ref a:=rx;exact E4 I2 ea c n l ry λs3 I3=>⟨σ,_,I3,q2⟩
def UO{op:Operator}(ha:PE X o ta)(hv:PE X value tv)(hop:SG X op rd):PS X (.AugAssign (.Attribute o f tpos) op value pos) (QT X.K ta tv rd f):=by intro AT s σ H D I h;refine wpAny_AugAssign_AttributeAny (br (ha AT s σ H _ I h) λov s1 ⟨x,H1,I1,rx,a,C,dx,fs,v,ex,ea,c,n,l,q⟩=>?_);subst ex;obtain rfl:ov=Value.ref a:=rx;refine E2 I1 ea c n l λu s2 I2 ru=>br (hv AT s2 σ H1 _ I2 q) λw3 s3 ⟨y,H2,I3,ry,q3⟩=>br (hop AT s3 σ H2 v y u w3 _ I3 ru ry q3) λw4 s4 ⟨z,H3,I4,rz,dx',fs',ea',l',q4⟩=>?_;exact E4 I4 ea' c n l' rz λs5 I5=>⟨σ,_,I5,q4⟩
inductive ai2(x:V)(y:V)(H:Hp)(Q:VK):Prop
 |mk(i j:_)(_:x =.int i)(_:y =.int j)(_:Q (.int (i-j)) H)
def acn:SG X .Sub ai2:=by
 rintro AT s σ H x y u v Q I rx ry ⟨i,j,rfl,rfl,q⟩;obtain⟨t,rfl⟩:=(show ∃t,u=Value.int i t from rx)
 obtain⟨t',rfl⟩:=(show ∃t',v=Value.int j t' from ry)
 exact PyProof.Rows.isub_int ⟨.int (i-j),H,I.tok _,⟨_,Z⟩,q⟩
end
section
variable {X:Cx}{AT:AO}{σ:St}{H:Hp}{s:Shared}{A:Around}{E:VS}{Q:VS}{c:Value}{b:Bool}
inductive h_(K:Fg)(H:Hp):V->Value->Prop where
 | cu:h_ K H .cu (.type "NoneType")
 | bl (x:Bool):h_ K H (.bl x) (.type "bool")
 | int (i:Int):h_ K H (.int i) (.type "int")
 | str (x:Str):h_ K H (.str x) (.type "str")
 | Ji (x:UInt64):h_ K H (.Ji x) (.type "float")
 | lst {a:Addr} {xs:Da V} (e:H a=some (.lst xs)):h_ K H (.ref a) (.type "list")
 | fY {a:Addr} {o:Obj} {xs:Da V} (e:H a=some (.fY o (.lst xs))):h_ K H (.ref a) (.type "list")
 | tup {a:Addr} {xs:Da V} (e:H a=some (.tup xs)):h_ K H (.ref a) (.type "tuple")
 | dK {a:Addr} {Ap:Da (Key×V)} (e:H a=some (.dK Ap)):h_ K H (.ref a) (.type "dict")
 | dT {a:Addr} {Ap:Da (Da Key×V)} (e:H a=some (.dT Ap)):h_ K H (.ref a) (.type "dict")
 | ins {a C dx:Addr} {fs:Da (Str×V)} (e:H a=some (.ins C dx fs)) (cl:p_ K C) (ha:PySem.W.findIn K (.ref C) "__class__"=some (some (.builtin "object.__class__")))
    (hn:PySem.W.specialIn K (.builtin "object.__class__") "__get__"=some (some (.builtin "getset_descriptor.__get__"))) (htk:PySem.W.takesIn K (.builtin "object.__class__")=some true)
    (hm:PySem.W.mroIn K C (.type "object")=some true):h_ K H (.ref a) (.ref C)
def UP{x:V}{t:Value}(I:Inv X AT σ H s)(rx:RelV x u)(ty:h_ X.K H x t)(e:PySem.W.kitOne X.K t c=some b)(h:∀tk,Q (.bool b) { s with toks:=tk }):wpAny (model X.prog X.w) A (call (.builtin "isinstance") [u,c]) Q E s:=by
 cases ty with
 | cu=>cases(show u=Value.none from rx);exact qt PySem.W.kitx_none I.jB True.intro e (λz=>nomatch z) h
 | bl y=>cases(show u=Value.bool y from rx);exact qt PySem.W.kitx_bool I.jB True.intro e (λz=>nomatch z) h
 | int i=>obtain⟨t,q⟩:=(show ∃t,u=Value.int i t from rx);cases q;exact qt PySem.W.kitx_int I.jB True.intro e (λz=>nomatch z) h
 | str y=>obtain⟨t,q⟩:=(show ∃t,u=Value.str y t from rx);cases q;exact qt PySem.W.kitx_str I.jB True.intro e (λz=>nomatch z) h
 | Ji y=>obtain⟨t,q⟩:=(show ∃t,u=Value.float y t from rx);cases q;exact qt PySem.W.kitx_float I.jB True.intro e (λz=>nomatch z) h
 | @lst a xs ea=>
  cases(show u=Value.ref a from rx);obtain⟨_,_,n,_,h1⟩:=(show d8 X.prog X.w H s.heap a (.lst xs)from I.hok a _ ea)
  exact qt PySem.W.kitx_list I.jB ⟨_,h1,Z⟩ e (λz=>nomatch z) h
 | @fY a ob xs ea=>
  cases(show u=Value.ref a from rx);obtain⟨_,_,_,n,_,h1⟩:=(show d8 X.prog X.w H s.heap a (.fY ob (.lst xs))from I.hok a _ ea)
  exact qt PySem.W.kitx_list I.jB ⟨_,h1,Z⟩ e (λz=>nomatch z) h
 | @tup a xs ea=>
  cases(show u=Value.ref a from rx);obtain⟨_,_,_,p⟩:=(show d8 X.prog X.w H s.heap a (.tup xs)from I.hok a _ ea)
  obtain⟨o,h1,h2,_⟩:=p;exact qt PySem.W.kitx_tuple I.jB ⟨o,h1,h2⟩ e (λz=>nomatch z) h
 | @dK a Ap ea=>
  cases(show u=Value.ref a from rx);obtain⟨_,_,vs,_,p⟩:=(show d8 X.prog X.w H s.heap a (.dK Ap)from I.hok a _ ea)
  obtain⟨o,es,ep,h1,h2,_⟩:=p;exact qt PySem.W.kitx_dict I.jB ⟨o,h1,h2.1⟩ e (λz=>nomatch z) h
 | @dT a Ap ea=>
  cases(show u=Value.ref a from rx);obtain⟨_,_,xs,_,o,es,ep,h1,h2,_⟩:=(show d8 X.prog X.w H s.heap a (.dT Ap)from I.hok a _ ea)
  exact qt PySem.W.kitx_dict I.jB ⟨o,h1,h2.1⟩ e (λz=>nomatch z) h
 | @ins a C dx fs ea cl ha hn htk hm=>cases(show u=Value.ref a from rx);obtain⟨mA,O,_⟩:=Cs I.hok ea;obtain⟨od,J,_⟩:=O.look;exact qt (PySem.W.kitx_own (cl.get _) cl.hd ha hn htk hm) I.jB J e (λz=>nomatch z) h
end
structure dR(k:Nat)(A:Around):Prop where
 hd:A.handled=none
 dp:A.depth+3*k+5<recursionLimit
 un:A.units+16*k+200<cLine
theorem dR.mono{k:Nat}(r:dR k A)(h:j<=k):dR j A:=⟨r.hd,by have:=r.dp;omega,by have:=r.un;omega⟩
theorem dR.deeper{k:Nat}(r:dR (k+1) A)(env:Env):dR k (A.deeper env):=⟨r.hd,by have:=r.dp;show A.depth+1+3*k+5<_;omega,by have:=r.un;show A.units+3+16*k+200<_;omega⟩
def SJ:(A.under (.builtin "type.__call__" ⟨.ref C::us,kw⟩)).depth=A.depth+1:=by first|rfl|simp[Around.under,Code.weight,Code.isCreation,Code.isGuard,Code.isCaller,Code.frames,Code.isFrame,guardIds]
def SK:(A.under (.builtin "type.__call__" ⟨.ref C::us,kw⟩)).units=A.units+1:=by first|rfl|simp[Around.under,Code.cUnits,Code.frames,Code.isFrame]
theorem dR.make{k:Nat}(r:dR (k+1) A)(C:Addr)(us:Da Value)(kw:Da (Str×Value)):dR k (A.under (.builtin "type.__call__" ⟨.ref C::us,kw⟩)):=⟨r.hd,by have:=r.dp;rw[SJ];omega,by have:=r.un;rw[SK];omega⟩
theorem dR.depth{k:Nat}(r:dR k A):A.depth<recursionLimit:=by have:=r.dp;omega
theorem dR.units{k:Nat}(r:dR k A):A.units+64<cLine:=by have:=r.un;omega
def ng:TA:=λ_ H Q=>Q [] H
def Xx(Q:Da V->Hp->Prop)(x:V):Da V->Hp->Prop:=λxs H2=>Q (x::xs) H2
def aco(tr:TA)(σ:St)(Q:Da V->Hp->Prop):V->Hp->Prop:=λx H1=>tr σ H1 (Xx Q x)
def jY(ta:TE)(tr:TA):TA:=λσ H Q=>ta σ H (aco tr σ Q)
section
variable {X:Cx}{e:Expr}{es:Da Expr}{te:TE}{t:TA}{pos:Pos}
def UQ:PA X [] ng:=λ_ _ _ _ H Q I h=>Calls.spliced_nil ⟨[],H,I,.nil,h⟩
def QU(ha:PE X e te)(hr:PA X es t)(hs:starEach (e::es) X.env=(false,eval e X.env)::starEach es X.env:=by rfl):PA X (e::es) (jY te t):=by intro pos AT s σ H Q I h;rw[hs];show wpAny _ _ (spliced ((false,eval e X.env)::backTo pos (starEach es X.env))) _ _ s;refine Calls.spliced_cons (br (ha AT s σ H _ I h) λu s1 ⟨x,H1,I1,r1,q1⟩=>?_);exact br (hr pos AT s1 σ H1 _ I1 q1) λus s2 ⟨xs,H2,I2,r2,q2⟩=>⟨x::xs,H2,I2,.cons r1 r2,q2⟩
inductive afC(Q:VK)(xs:Da V)(H1:Hp):Prop
 |mk(_:xs.length<=sizeLine)(_:∀p,H1 p=none->Q (.ref p) (upd H1 p (.tup xs)))
def acp(t:TA):TE:=λσ H Q=>t σ H (afC Q)
inductive afD(Q:VK)(xs:Da V)(H1:Hp):Prop
 |mk(_:xs.length<=sizeLine)(_:∀p,H1 p=none->Q (.ref p) (upd H1 p (.lst xs)))
def SM(t:TA):TE:=λσ H Q=>t σ H (afD Q)
end
abbrev Sp:=Da V->Hp->VK->XK->Prop
abbrev Ax:=Da Env->Hp->Shared->XK->Value->Shared->Prop
structure DP(P:Program)(w:World)(K:Fg)(mg:SO)(base:Heap)(A:Around)(outer:Da Env)(s:Shared)(H:Hp):Prop where
 frames:A.frames=some outer
 mod:Mod K mg base
 bs:∀b o,base.get? b=some o->s.heap.get? b=some o/\H b=none
 EV:base.objs.size<=s.heap.objs.size
 pJ:s.heap.FunFrames base outer
 Jk:∀b∈frs outer,H b=none
 hok:iL P w H s.heap
 bare:AllBare s.gens
def CE(outer:Da Env)(P:Program)(w:World)(H:Hp)(s:Shared)(Q:VK)(u:Value)(s':Shared):Prop:=∃v H',s'.os=s.os/\AllBare s'.gens/\Un (frs outer) [] H H' s.heap s'.heap/\iL P w H' s'.heap/\RelV v u/\Q v H'
def CR(CX:Ax)(outer:Da Env)(P:Program)(w:World)(H:Hp)(s:Shared)(Q:VK)(E:XK)(r:Result)(s':Shared):Prop:=match r with
 | .ok (.ret u)=>CE outer P w H s Q u s'
 | .ok _=>False
 | .error e=>CX outer H s E e s'
structure je(P:Program)(w:World)(K:Fg)(mg:SO)(base:Heap)(CX:Ax)(k:Nat)(f:Addr)(fd:FuncData)(ps:Da Str)(sp:Sp):Prop where
 len:∀vs H Q E,sp vs H Q E->vs.length=ps.length
 run:∀(A:Around)(outer:Da Env)(s:Shared)(H:Hp)(args:Args)(us:Da Value)(vs:Da V)(Q:VK)(E:XK),dR k A->DP P w K mg base A outer s H->BindsTo s fd args (ps.zip us)->Vals vs us->sp vs H Q E->
  codeAny (model P w) A (.call (.ref f) args) (CR CX outer P w H s Q E) s
variable {mg:SO}{base:Heap}{CX:Ax}{f:Addr}{fd:FuncData}{ps:Da Str}{sp:Sp}
def je.imp{k:Nat}{UR:Sp}(F:je P w K mg base CX k f fd ps sp)(h:∀vs H Q E,UR vs H Q E->sp vs H Q E):je P w K mg base CX k f fd ps UR:=
 ⟨λvs H Q E q=>F.len vs H Q E (h _ _ _ _ q),λA outer s H args us vs Q E hr he hb hv hs=>F.run A outer s H args us vs Q E hr he hb hv (h _ _ _ _ hs)⟩
def DP.make{outer:Da Env}(e:DP P w K mg base A outer s H)(C:Addr)(us:Da Value)(kw:Da (Str×Value)):DP P w K mg base (A.under (.builtin "type.__call__" ⟨.ref C::us,kw⟩)) outer s H:=⟨by first|exact e.frames|(simpa[Around.under,Code.envs,Code.isFrame,pushEnvs]using e.frames),e.mod,e.bs,e.EV,e.pJ,e.Jk,e.hok,e.bare⟩
section
variable {X:Cx}{AT:AO}{σ:St}{H:Hp}{s s':Shared}
def Inv.Xy(I:Inv X AT σ H s):DP X.prog X.w X.K X.mg X.base X.A X.stack s H:=⟨I.ok.frames,I.ok.mod,I.bs,fZ I.ok.EV I.sz,I.stack,I.yq,I.hok,I.bare⟩
def Inv.after{Q:VK}(I:Inv X AT σ H s)(h:CE X.stack X.prog X.w H s Q u s'):EP X AT σ Q u s':=by obtain⟨v,H',os,bare,un,hok,r,q⟩:=h;obtain⟨hh,g,d,t,os'⟩:=s';obtain rfl:os'=s.os:=os;exact⟨v,H',I.call (h':=hh) (g':=g) (d':=d) (t':=t) (ch:=[]) un hok bare (λb z=>absurd z (by simp)),r,q⟩
end
def acq(sp:Sp)(jD:Da V)(E:XK)(Q:VK):Da V->Hp->Prop:=λvs H1=>sp (vs++jD) H1 Q E
def SN(sp:Sp)(jD:Da V)(E:XK)(t:TA):TE:=λσ H Q=>t σ H (acq sp jD E Q)
def Xz(sp:Sp)(jD:Da V)(E:XK)(Q:VK)(x:V):Da V->Hp->Prop:=λvs H2=>sp (x::(vs++jD)) H2 Q E
inductive acr(C:Addr)(m:Str)(sp:Sp)(jD:Da V)(E:XK)(t:TA)(σ:St)(Q:VK)(x:V)(H1:Hp):Prop
 |mk(a dx fs:_)(_:x =.ref a)(_:H1 a=some (.ins C dx fs))(_:fs.lookup m=none)(_:t σ H1 (Xz sp jD E Q x))
def E5(C:Addr)(m:Str)(sp:Sp)(jD:Da V)(E:XK)(ta:TE)(t:TA):TE:=λσ H Q=>ta σ H (acr C m sp jD E t σ Q)
def acs(C:Addr)(sp:Sp)(jD:Da V)(E:XK)(Q:VK):Da V->Hp->Prop:=λvs H1=>∀x dx,H1 x=none->H1 dx=none->dx≠x->sp (.ref x::(vs++jD)) (upd (upd H1 dx (.own x)) x (.ins C dx [])) (λv H2=>v =.cu/\Q (.ref x) H2) E
def Ly(C:Addr)(sp:Sp)(jD:Da V)(E:XK)(t:TA):TE:=λσ H Q=>t σ H (acs C sp jD E Q)
def Binds(K:Fg)(fd:FuncData)(ps:Da Str)(ds:Da Value):Prop:=∀(s:Shared)(us:Da Value),K.In s.heap->(us++ds).length=ps.length->BindsTo s fd ⟨us,[]⟩ (ps.zip (us++ds))
def Binds.all(h:∀us:Da Value,us.length=ps.length->bindArgs fd ⟨us,[]⟩=pure (ps.zip us)):Binds K fd ps [] :=λs us _ hl=>by rw[u0]at hl ⊢;exact .of_eq (h us hl)
def Passes(CX:Ax)(X:Cx)(E:XK):Prop:=∀(AT:AO)(σ:St)(H:Hp)(s:Shared)(e:Value)(s':Shared),Inv X AT σ H s->CX X.stack H s E e s'->X.xe e s'
variable {vs:Da V}
section
variable {X:Cx}{CX:Ax}{k:Nat}{f C:Addr}{fd:FuncData}{ps:Da Str}{sp:Sp}{jD:Da V}{ds:Da Value}{E:XK}{x m:Str}{p pos B2:Pos}{e o:Expr}{es:Da Expr}{ta:TE}{t:TA}
def LX{Q:VK}(F:je X.prog X.w X.K X.mg X.base CX k f fd ps sp)(hr:dR k X.A)(hb:Binds X.K fd ps ds)(hd:Vals jD ds)(hx:Passes CX X E)(I:Inv X AT σ H s)(r:Vals vs us)(h:sp (vs++jD) H Q E):wpAny (model X.prog X.w) X.A (call (.ref f) us) (EP X AT σ Q) X.xe s:=by
 have r2:Vals (vs++jD) (us++ds):=r.append hd
 have hl:(us++ds).length=ps.length:=by rw[<-r2.length];exact F.len _ _ _ _ h
 refine wpAny_call (Ck (F.run X.A X.stack s H ⟨us,[]⟩ (us++ds) (vs++jD) Q E hr I.Xy (hb s us I.jB hl) r2 h) λr s' hq=>?_)
 cases r with
 | error e=>exact hx AT σ H s e s' I hq
 | ok fl=>
   cases fl with
   | ret u=>exact I.after hq
   | next=>exact False.elim hq
   | brk=>exact False.elim hq
   | cont=>exact False.elim hq
def QV(F:je X.prog X.w X.K X.mg X.base CX k f fd ps sp)(hr:dR k X.A)(hg:Gl X x)(hm:X.mg x=some (.ref f))(hk:PySem.W.keepIn X.K (.ref f)=true)(hb:Binds X.K fd ps ds)(hd:Vals jD ds)(hx:Passes CX X E)(ha:PA X (e::es) t)(hdb:(x==("__debug__":Str))=false:=by decide)(he:starEach (e::es) X.env=(false,eval e X.env)::starEach es X.env:=by rfl)(hpl:(backTo pos (starEach es X.env)).any (·.1)=false:=by rfl):
  PE X (.Call (.Name x p) (e::es) [] pos) (SN sp jD E t):=by
 intro AT s σ H Q I h
 refine Hv (rT I hg hm ?_ hdb)
 refine Sm (h₀:=X.base) I.ok.mod.QK hk (br (ha pos AT s σ H _ I h) λus s1 ⟨vs,H1,I1,r,q⟩=>⟨I1.jB,?_⟩) he hpl
 exact LX F hr hb hd hx I1 r q
def QW(he:PE X o ta)(c:p_ X.K C)(hm:Meth X.K C m f)(F:je X.prog X.w X.K X.mg X.base CX k f fd ps sp)(hr:dR k X.A)(hb:Binds X.K fd ps ds)(hd:Vals jD ds)(hx:Passes CX X E)(ha:PA X (e::es) t)(hst:starEach (e::es) X.env=(false,eval e X.env)::starEach es X.env:=by rfl)(hpl:(backTo pos (starEach es X.env)).any (·.1)=false:=by rfl)(ht:eval (.Call (.Attribute o m B2) (e::es) [] pos) X.env=(do
    let ov <-eval o X.env
    standAt B2.atName
    let(f,first) <-holding [ov] (getMethod ov m pl)
    callWith pos f first (backTo pos (starEach (e::es) X.env)) (backToKw pos (keywordEach [] X.env))):=by rfl):
  PE X (.Call (.Attribute o m B2) (e::es) [] pos) (E5 C m sp jD E ta t):=by
 intro AT s σ H Q I h
 refine PySem.W.methodCall_KW (pl:=pl) (br (he AT s σ H _ I h) λu s1 ⟨x,H1,I1,rx,a,dx,fs,ex,ea,l,q⟩=>?_) ht
 subst ex
 obtain rfl:u=Value.ref a:=rx
 refine E3 I1 ea c hm l ?_
 refine Sm (first:=[.ref a]) (h₀:=X.base) I.ok.mod.QK hm.kp (br (ha pos AT s1 σ H1 _ I1 q) λus s2 ⟨vs,H2,I2,r,q2⟩=>⟨I2.jB,?_⟩) hst hpl
 exact LX (us:=.ref a::us) (vs:=.ref a::vs) F hr hb hd hx I2 (.cons rfl r) q2
def XA(he:PE X o ta)(c:p_ X.K C)(hm:Meth X.K C m f)(F:je X.prog X.w X.K X.mg X.base CX k f fd ps sp)(hr:dR k X.A)(hb:Binds X.K fd ps ds)(hd:Vals jD ds)(hx:Passes CX X E)(ht:eval (.Call (.Attribute o m B2) [] [] pos) X.env=(do
    let ov <-eval o X.env
    standAt B2.atName
    let(f,first) <-holding [ov] (getMethod ov m pl)
    callWith pos f first (backTo pos (starEach [] X.env)) (backToKw pos (keywordEach [] X.env))):=by rfl):
  PE X (.Call (.Attribute o m B2) [] [] pos) (E5 C m sp jD E ta ng):=by
 intro AT s σ H Q I h
 refine PySem.W.methodCall_KW (pl:=pl) (br (he AT s σ H _ I h) λu s1 ⟨x,H1,I1,rx,a,dx,fs,ex,ea,l,q⟩=>?_) ht
 subst ex
 obtain rfl:u=Value.ref a:=rx
 refine E3 I1 ea c hm l ?_
 exact PySem.W.callWith_K0 (first:=[.ref a]) I1.jB hm.kp (LX (us:=[.ref a]) (vs:=[.ref a]) F hr hb hd hx I1 (.cons rfl .nil) q)
structure Mk(K:Fg)(C f:Addr):Prop where
 makes:PySem.W.makesIn K C=true
 init:PySem.W.findIn K (.ref C) "__init__"=some (some (.ref f))
 fn:PySem.W.isFn K (.ref f)=true
 kp:PySem.W.keepIn K (.ref C)=true
theorem LY{Q:VK}(M:Mk X.K C f)(F:je X.prog X.w X.K X.mg X.base CX k f fd ps sp)(hr:dR (k+1) X.A)(hb:Binds X.K fd ps ds)(hd:Vals jD ds)(hx:Passes CX X E)(I:Inv X AT σ H s)(r:Vals vs us)(h:∀x dx,H x=none->H dx=none->dx≠x->sp (.ref x::(vs++jD)) (upd (upd H dx (.own x)) x (.ins C dx [])) (λv H2=>v =.cu/\Q (.ref x) H2) E):
  wpAny (model X.prog X.w) X.A (call (.ref C) us) (EP X AT σ Q) X.xe s:=by
 have hq:=h (s.heap.objs.size+1) s.heap.objs.size (I.hok.fresh (zC _)) (I.hok.fresh (aN _)) (eO (Nat.lt_succ_self _))
 have I2:=Inv.made (C:=C) I
 have r2:Vals (V.ref (s.heap.objs.size+1)::(vs++jD)) (Value.ref (s.heap.objs.size+1)::(us++ds)):=.cons rfl (r.append hd)
 have hl:(Value.ref (s.heap.objs.size+1)::us++ds).length=ps.length:=by have e:=r2.length;rw[F.len _ _ _ _ hq]at e;exact e.symm
 refine wpAny_call (Xv (f:=f) I.jB M.makes M.init (mS.mp M.fn) (Ck (F.run _ X.stack _ _ ⟨Value.ref (s.heap.objs.size+1)::us,[]⟩ (Value.ref (s.heap.objs.size+1)::(us++ds)) _ _ E (hr.make C us [])
  (I2.Xy.make C us []) (hb _ (Value.ref (s.heap.objs.size+1)::us) I2.jB hl) r2 hq) λr s' hq'=>?_))
 cases r with
 | error e=>exact hx AT σ _ _ e s' I2 hq'
 | ok fl=>
   cases fl with
   | ret u=>
     obtain⟨v,H',I3,rv,ev,q3⟩:=I2.after hq'
     subst ev
     exact⟨rv,⟨V.ref (s.heap.objs.size+1),H',I3,Z,q3⟩⟩
   | next=>exact False.elim hq'
   | brk=>exact False.elim hq'
   | cont=>exact False.elim hq'
def aao(M:Mk X.K C f)(F:je X.prog X.w X.K X.mg X.base CX k f fd ps sp)(hr:dR (k+1) X.A)(hg:Gl X x)(hm:X.mg x=some (.ref C))(hb:Binds X.K fd ps ds)(hd:Vals jD ds)(hx:Passes CX X E)(ha:PA X (e::es) t)(hdb:(x==("__debug__":Str))=false:=by decide)(he:starEach (e::es) X.env=(false,eval e X.env)::starEach es X.env:=by rfl)(hpl:(backTo pos (starEach es X.env)).any (·.1)=false:=by rfl):
  PE X (.Call (.Name x p) (e::es) [] pos) (Ly C sp jD E t):=by
 intro AT s σ H Q I h
 refine Hv (rT I hg hm ?_ hdb)
 refine Sm (h₀:=X.base) I.ok.mod.QK M.kp (br (ha pos AT s σ H _ I h) λus s1 ⟨vs,H1,I1,r,q⟩=>⟨I1.jB,?_⟩) he hpl
 exact LY M F hr hb hd hx I1 r q
def XC(M:Mk X.K C f)(F:je X.prog X.w X.K X.mg X.base CX k f fd ps sp)(hr:dR (k+1) X.A)(hg:Gl X x)(hm:X.mg x=some (.ref C))(hb:Binds X.K fd ps ds)(hd:Vals jD ds)(hx:Passes CX X E)(hdb:(x==("__debug__":Str))=false:=by decide):PE X (.Call (.Name x p) [] [] pos) (Ly C sp jD E ng):=by
 intro AT s σ H Q I h
 refine Hv (rT I hg hm ?_ hdb)
 exact PySem.W.callWith_K0 I.jB M.kp (LY (us:=[]) M F hr hb hd hx I .nil h)
end
section
variable {X:Cx}{CX:Ax}{k:Nat}{f C:Addr}{fd:FuncData}{ps ks:Da Str}{sp:Sp}{E:XK}{x m:Str}{p pos B2 kpos:Pos}{e o:Expr}{es:Da Expr}{kws:Da Keyword}{te ta:TE}{t tk:TA}{nm:Option Str}
variable {g:Da Value->Da Value->Da Value}{gV:Da V->Da V->Da V}
end
structure aJ(N P:Da Str)(sc:Scope):Prop where
 kind:sc.kind =.function
 co:sc.isCoroutine=false
 gen:sc.isGenerator=false
 nd:N.Nodup
 pre:N.take P.length=P
 par:∀x∈P,sc.names.lookup x=some .local\/sc.names.lookup x=some .cell
 acu:∀y∈sc.names,y.2 ≠ .free
theorem Jp{kindOf:Str->Option NameKind}{x:Str}:∀{binds:Da (Str×Value)}{m:SO},(∀v,(x,v)∉binds)->bindL kindOf binds m x=m x
 | [],_,_=>rfl
 | (n,v)::r,m,h=>by
  unfold bindL;rw[Jp λw hw=>h w (cL _ hw)];split
  .have:x≠n:=by rintro rfl;exact h v cQ
   simp[this]
  .rfl
theorem Jq{kindOf:Str->Option NameKind}{x:Str}:∀{binds:Da (Str×Value)}{m:SO},(∀v,(x,v)∉binds)->bindC kindOf binds m x=m x
 | [],_,_=>rfl
 | (n,v)::r,m,h=>by
  unfold bindC;rw[Jq λw hw=>h w (cL _ hw)];split
  .rfl
  .have:x≠n:=by rintro rfl;exact h v cQ
   simp[this]
theorem Jr{kindOf:Str->Option NameKind}{x:Str}{v:Value}:∀{P:Da Str}{vs:Da Value}{i:Nat}{m:SO},P.Nodup->P[i]?=some x->vs[i]?=some v->kindOf x=some .local->bindL kindOf (P.zip vs) m x=some v
 | [],_,_,_,_,h,_,_=>by simp at h
 | _::_,[],_,_,_,_,h,_=>by simp at h
 | p::P,w::vs,0,m,nd,h1,h2,hk=>by simp at h1 h2;subst h1;subst h2;show bindL kindOf ((p,w)::P.zip vs) m p=_;unfold bindL;rw[Jp λv hv=>(gO.mp nd).1 (List.of_mem_zip hv).1,aC hk];simp
 | p::P,w::vs,i+1,m,nd,h1,h2,hk=>by show bindL kindOf ((p,w)::P.zip vs) m x=_;unfold bindL;exact Jr (i:=i) (gO.mp nd).2 (by simpa using h1) (by simpa using h2) hk
theorem Js{kindOf:Str->Option NameKind}{x:Str}{v:Value}:∀{P:Da Str}{vs:Da Value}{i:Nat}{m:SO},P.Nodup->P[i]?=some x->vs[i]?=some v->kindOf x≠some .local->bindC kindOf (P.zip vs) m x=some v
 | [],_,_,_,_,h,_,_=>by simp at h
 | _::_,[],_,_,_,_,h,_=>by simp at h
 | p::P,w::vs,0,m,nd,h1,h2,hk=>by simp at h1 h2;subst h1;subst h2;show bindC kindOf ((p,w)::P.zip vs) m p=_;unfold bindC;rw[Jq λv hv=>(gO.mp nd).1 (List.of_mem_zip hv).1,aB hk];simp
 | p::P,w::vs,i+1,m,nd,h1,h2,hk=>by show bindC kindOf ((p,w)::P.zip vs) m x=_;unfold bindC;exact Js (i:=i) (gO.mp nd).2 (by simpa using h1) (by simpa using h2) hk
noncomputable def start(N:Da Str)(vs:Da V):St:=vs.map some++List.replicate (N.length-vs.length) none
noncomputable def cX(CX:Ax)(P:Program)(w:World)(K:Fg)(mg:SO)(base:Heap)(N:Da Str)(qual:Str)(scope:Scope)(f:Addr)(cd:Value)(A:Around)(outer:Da Env)(s:Shared)(H:Hp)(E:XK):Cx where
 prog:=P
 w:=w
 K:=K
 mg:=mg
 base:=base
 A:=A.deeper (envOfC qual scope s.heap.objs.size f cd)
 N:=N
 s₀:=s
 H₀:=H
 env:=envOfC qual scope s.heap.objs.size f cd
 outer:=outer
 stack:=envOfC qual scope s.heap.objs.size f cd::outer
 ex:=[]
 calm:=true
 fn:=λ_=>true
 pn:=[]
 xe:=λe s'=>wpAny (model P w) (A.deeper (envOfC qual scope s.heap.objs.size f cd)) (leaving (envOfC qual scope s.heap.objs.size f cd) e) (λ_ s''=>CX outer H s E e s'') (λe' s''=>CX outer H s E e' s'') s'
def LZ{sc:Scope}(h:sc.names.lookup x=some .cell):∃c,(cellsFrom n sc.names []).lookup x=some c:=by have q:=PySem.W.cellsFrom_some sc.names n [] (.inl h);exact Option.isSome_iff_exists.mp q
variable {qual:Str}{scope:Scope}
theorem US{cd:Value}{outer:Da Env}{s1:Shared}{E:XK}(S:aJ N ps scope)(hd:A.handled=none)(e0:DP P w K mg base A outer s H)(hl:vs.length=ps.length)(r:Vals vs us)(x:InCallC s s.heap.objs.size (bindL (envOfC qual scope s.heap.objs.size f cd).kindOf (ps.zip us) λ_=>none) (cellsFrom (s.heap.objs.size+1) scope.names []) (bindC (envOfC qual scope s.heap.objs.size f cd).kindOf (ps.zip us) λ_=>none) s1):
  Inv (cX CX P w K mg base N qual scope f cd A outer s H E) [] (start N vs) H s1:=by
 have hpl:ps.length<=N.length:=by have:=gP List.length S.pre;rw[kL]at this;omega
 obtain⟨h1,tk,rfl,hk⟩:=x.done
 have UT:∀b:Addr,b∉(cX CX P w K mg base N qual scope f cd A outer s H E).ex:=λb z=>absurd (show b∈([] :Da Addr)from z) (by simp)
 refine⟨⟨e0.mod,S.kind,Z,Z,aN _,λy z c h1 h2=>?_,λy hy=>?_,λy c _ h=>?_,λ_=>hd,Around.frames_deeper e0.frames,.inr ⟨Z,Z⟩,λb z=>absurd z (UT b),e0.bs,e0.EV,λb _ _=>UT b,λb z=>absurd z (UT b),e0.pJ,e0.Jk⟩,
  rfl,e0.bare,Un.kept hk,⟨_,x.toInCall.ns,λi y v h1 h2 h3=>?_⟩,λy c h=>⟨_,x.cell y c h⟩,e0.hok.fresh (aN _),λy c h=>?_,λp hp=>absurd (show p∈([] :AO)from hp) (by simp),e0.hok.kept hk,?_⟩
 . exact name_of_addr x.apart (y_ h1) (y_ h2)
 . have hy:scope.names.lookup y=some .cell\/scope.names.lookup y=some .free:=hy
   rcases hy with hy|hy
   . exact LZ hy
   . exact absurd rfl (S.acu _ (y_ hy))
 . exact ER (x.above y c (y_ h))
 . have hi:i<vs.length:=by
    unfold start at h2
    by_cases hi:i<vs.length
    . exact hi
    . rw[Jh (by simpa using hi)]at h2
      rw[Sa]at h2
      split at h2 <;> cases h2
   have ha:vs[i]?=some v:=by
    unfold start at h2;rw[Hj (by simpa using hi),bH]at h2;cases e:vs[i]? with
    | none=>rw[e]at h2;cases h2
    | some a=>rw[e]at h2;cases h2;rfl
   obtain⟨u,hu,rv⟩:=r.get ha
   have hp:ps[i]?=some y:=by rw[<-S.pre,List.getElem?_take_of_lt (by omega)];exact h1
   have ndP:ps.Nodup:=by rw[<-S.pre];exact S.nd.sublist (List.take_sublist _ _)
   refine⟨u,rv,?_⟩
   rcases S.par y (bK hp)with k|k
   . exact .inl ⟨k,Jr ndP hp hu k⟩
   . obtain⟨c,e⟩:=LZ (n:=s.heap.objs.size+1) k
     refine .inr ⟨.inl k,c,e,?_⟩
     have q:=x.cell y c e
     rw[Js ndP hp hu (by show scope.names.lookup y≠_;rw[k];decide)]at q
     exact q
 . exact e0.hok.fresh (ER (x.above y c (y_ h)))
 . unfold start
   show _=N.length
   rw[c8,aD,kD]
   omega
variable {body:Da Stmt}{doc pm cdv ct oc:Value}{an od:Option Addr}
theorem SQ{k:Nat}{name:Str}{params:Arguments}{dV kV:Value}{osl:Array (Option Value)}{N ps:Da Str}{sp:Sp}(lk:K.lookup f=some ⟨oc,od,.func (PySem.W.fnOf name qual params body scope dV kV doc pm an cdv ct),osl⟩)(hcd:PySem.W.codeIn K cdv qual=true)(S:aJ N ps scope)(len:∀vs H Q E,sp vs H Q E->vs.length=ps.length)(Ch:∀(A:Around) (outer:Da Env) (s:Shared) (H:Hp) (vs:Da V) (Q:VK) (E:XK),dR k (A.deeper (envOfC qual scope s.heap.objs.size f cdv))->sp vs H Q E->
    ∃t,rQ (cX CX P w K mg base N qual scope f cdv A outer s H E) body t/\t { nx:=λ_ H'=>Q .cu H',rt:=Q } (start N vs) H):
  je P w K mg base CX (k+1) f (PySem.W.fnOf name qual params body scope dV kV doc pm an cdv ct) ps sp:=by
 refine⟨len,λA outer s H args us vs Q E hr e0 hb r qB=>?_⟩
 have hl:=len _ _ _ _ qB
 have KX:K.In s.heap:=e0.mod.QK.keeps λb o e=>(e0.bs b o e).1
 have lim:s.heap.NoLimit:=e0.mod.nolimit.keeps λb o e=>(e0.bs b o e).1
 have hkind:∀y∈ps.zip us,scope.names.lookup y.1=some .local\/(scope.names.lookup y.1=some .cell/\((cellsFrom (s.heap.objs.size+1) scope.names []).lookup y.1).isSome=true):=λ⟨n,v⟩ hy=>by
  rcases S.par n (List.of_mem_zip hy).1 with q|q
  .exact .inl q
  .exact .inr ⟨q,PySem.W.cellsFrom_some _ _ _ (.inl q)⟩
 refine codeAny_call_function hr.depth (KX _ _ lk) rfl S.co S.gen rfl (PySem.W.codeRec_of KX hcd) (hb _ _ _ _ ?_)
 refine wpAny_newFunctionEnv_cells S.kind hkind λenv he s1 x=>?_
 subst he
 refine⟨lim.keeps x.toInCall.keep,codeAny_func ?_⟩
 obtain⟨t,ht,hq⟩:=Ch A outer s H vs Q E (hr.deeper _) qB
 have I:Inv (cX CX P w K mg base N qual scope f cdv A outer s H E) [] (start N vs) H s1:=US S hr.hd e0 hl r x
 refine iM (ht [] s1 (start N vs) H _ I hq) (λfl s' hs=>?_) λe s' hs=>hs
 have fin:∀{σ':St}{H':Hp}{v:V}{u:Value},Inv (cX CX P w K mg base N qual scope f cdv A outer s H E) [] σ' H' s'->RelV v u->Q v H'->CE outer P w H s Q u s':=
  λ{σ' H' v u} J rv q=>⟨v,H',J.os,J.bare,J.base,J.hok,rv,q⟩
 cases fl with
 | ret u=>
   obtain⟨v,σ',H',J,rv,q⟩:=hs
   exact fin J rv q
 | next=>
   obtain⟨σ',H',J,q⟩:=hs
   exact fin (v:=V.cu) (u:=Value.none) J rfl q
 | brk=>
   obtain⟨_,_,_,q⟩:=hs
   exact False.elim q
 | cont=>
   obtain⟨_,_,_,q⟩:=hs
   exact False.elim q
section
variable {X:Cx}{x:Str}{p pos:Pos}{e:Expr}{es:Da Expr}{t:TA}{id T:String}{r:Da V->Hp->VK->Prop}
def ai3(r:Da V->Hp->VK->Prop)(Q:VK):Da V->Hp->Prop:=λvs H1=>r vs H1 Q
def Zp(r:Da V->Hp->VK->Prop)(t:TA):TE:=λσ H Q=>t σ H (ai3 r Q)
end
end L2
namespace HT
open PySem PyProof.Rows
section
open PySem.SeqAt
open PySem.AutoSeq1 (wpAny_loadPart')
open PySem.MeetsSeq PySem.MeetsSeq2 PySem.MeetsSeq3
end
section
variable {prog:Program}{w:World}{A:Around}{E:VS}{s:Shared}
noncomputable def vF(n d:Nat):Option Int->Nat
 | none=>d
 | some v=>if v<0 then(v+(n:Int)).toNat else min v.toNat n
def XD(n d:Nat):vF n d none=d:=rfl
theorem aap(n d k:Nat):vF n d (some (k:Int))=min k n:=by show(if(k:Int)<0 then((k:Int)+(n:Int)).toNat else min (k:Int).toNat n)=min k n;rw[aB (by omega),ug]
theorem acv(n d:Nat)(hd:d<=n)(o:Option Int):vF n d o<=n:=by
 cases o with
 | none=>exact hd
 | some v=>
  show(if v<0 then(v+(n:Int)).toNat else min v.toNat n)<=n;by_cases hv:v<0
  .rw [aC hv];omega
  .rw [aB hv];exact Nat.min_le_right _ _
end
end HT
namespace L2
open PySem PySem.Spec PyProof.Rows
abbrev TO:=St->Hp->(Option Int->Hp->Prop)->Prop
def PO(X:Cx)(e:Option Expr)(t:TO):Prop:=∀(AT:AO)(s:Shared)(σ:St)(H:Hp)(Q:Option Int->Hp->Prop),Inv X AT σ H s->t σ H Q->wpAny (model X.prog X.w) X.A (evalPart e X.env) (λu s'=>∃o H',Inv X AT σ H' s'/\IsPart u o/\Q o H') X.xe s
def aaq:TO:=λ_ H Q=>Q none H
inductive acw(Q:Option Int->Hp->Prop)(x:V)(H1:Hp):Prop
 |mk(i:_)(_:x =.int i)(_:Q (some i:_) H1)
def afE(t:TE):TO:=λσ H Q=>t σ H (acw Q)
variable {ns:Da Int}
def intsAre_of:∀{us:Da Value},Vals (ns.map V.int) us->IntsAre us ns:=by
 induction ns with
 | nil=>intro us r;rw[List.map_nil]at r;cases r;exact .nil
 | cons n ns ih=>
  intro us r;rw[bP]at r;cases r with
  | cons r1 r2=>obtain⟨t,e⟩:=r1;subst e;exact .cons n t (ih r2)
section
variable {X:Cx}{e:Expr}{te:TE}{lo hi:Option Expr}{tl th:TO}{pos p2:Pos}
def SlR(X:Cx)(r:V->Option Int->Option Int->Hp->VK->Prop):Prop:=∀(AT:AO)(s:Shared)(σ:St)(H:Hp)(x:V)(v vl vu:Value)(lo hi:Option Int)(sl:Addr)(Q:VK),Inv X AT σ H s->RelV x v->s.heap.IsSliceOf sl vl vu .none->IsPart vl lo->IsPart vu hi->r x lo hi H Q->∃T id,typeLookup (.type T) "__getitem__"=pure (some (.builtin id))/\s.TypeIs v T/\wpAny (model X.prog X.w) X.A (getItem v (.ref sl)) (EP X AT σ Q) X.xe s
def acz(r:V->Option Int->Option Int->Hp->VK->Prop)(Q:VK)(x:V)(l:Option Int):Option Int->Hp->Prop:=λu H3=>r x l u H3 Q
def acA(r:V->Option Int->Option Int->Hp->VK->Prop)(th:TO)(σ:St)(Q:VK)(x:V):Option Int->Hp->Prop:=λl H2=>th σ H2 (acz r Q x l)
def ai4(r:V->Option Int->Option Int->Hp->VK->Prop)(tl:TO)(th:TO)(σ:St)(Q:VK):V->Hp->Prop:=λx H1=>tl σ H1 (acA r th σ Q x)
def tSl(r:V->Option Int->Option Int->Hp->VK->Prop)(te:TE)(tl th:TO):TE:=λσ H Q=>te σ H (ai4 r tl th σ Q)
end
noncomputable def De(n:Nat)(i:Int):Option Nat:=if 0<=i then(if i<n then some i.toNat else none) else if -(n:Int)<=i then some (i+n).toNat else none
noncomputable def qa{α:Type}(xs:Da α)(i:Int):Option α:=(De xs.length i).bind λj=>xs[j]?
variable {n j:Nat}
theorem QX{i:Int}(h:De n i=some j):seqIndex? i n=some j/\j<n/\-(n:Int)<=i/\i<n:=by
 unfold De at h;by_cases h0:0<=i
 .rw [aC h0]at h;by_cases h1:i<n
  .rw [aC h1]at h;have e:i.toNat=j:=gZ h;exact⟨by rw[seqIndex_of h0 h1,e],by omega,by omega,h1⟩
  .rw [aB h1]at h;cases h
 .rw [aB h0]at h;by_cases h1:-(n:Int)<=i
  .rw [aC h1]at h;have e:(i+n).toNat=j:=gZ h;exact⟨by rw[seqIndex_neg (by omega) h1,e],by omega,h1,by omega⟩
  .rw [aB h1]at h;cases h
def Ct{α:Type}{xs:Da α}{i:Int}{v:α}(h:qa xs i=some v):∃j,seqIndex? i xs.length=some j/\xs[j]?=some v/\j<xs.length/\-(xs.length:Int)<=i/\i<xs.length:=by
 unfold qa at h;cases e:De xs.length i with
 | none=>rw[e]at h;cases h
 | some j=>rw[e]at h;obtain⟨h1,h2,h3,h4⟩:=QX e;exact⟨j,h1,h,h2,h3,h4⟩
theorem aO{α:Type}{xs:Da α}{v:α}(h:xs[j]?=some v):qa xs (j:Int)=some v:=by
 have hj:j<xs.length:=(dZ.mp h).1;have e:De xs.length (j:Int)=some j:=by unfold De;rw[aC (by omega),aC (by omega)];simp
 unfold qa;rw[e];exact h
def aar(b:Expr):Prop:=∀o i,subscripted b false o i=operate [o,i] (getItem o i)
def Ay(X:Cx)(r:R2):Prop:=∀(value slice:Expr)(AT:AO)(s:Shared)(σ:St)(H:Hp)(x y:V)(v u:Value)(Q:VK),Inv X AT σ H s->RelV x v->RelV y u->r x y H Q->subscripted slice false v u=operate [v,u] (getItem v u)->wpAny (model X.prog X.w) X.A (subscriptTail value slice v u) (EP X AT σ Q) X.xe s
def MtR(X:Cx)(id:String)(r:V->Da V->Hp->VK->Prop):Prop:=∀(AT:AO)(s:Shared)(σ:St)(H:Hp)(x:V)(xs:Da V)(v:Value)(us:Da Value)(Q:VK),Inv X AT σ H s->RelV x v->Vals xs us->r x xs H Q->wpAny (model X.prog X.w) X.A (call (.builtin id) (v::us)) (EP X AT σ Q) X.xe s
variable {AT:AO}{σ:St}{H:Hp}{s:Shared}{xs ys:Da V}{Bi its':Da Value}{A:Around}{y:V}{u:Value}
section
variable {X:Cx}{a b:Expr}{ta tb:TE}{pos:Pos}
def Ay.or{r r':R2}(h:Ay X r)(h':Ay X r'):Ay X (λx y H Q=>r x y H Q\/r' x y H Q):=by
 intro value slice AT s σ H x y v u Q I rx ry q hs;rcases q with q|q
 .exact h value slice AT s σ H x y v u Q I rx ry q hs
 .exact h' value slice AT s σ H x y v u Q I rx ry q hs
inductive L6(K:Fg)(x:V)(y:V)(H:Hp)(Q:VK):Prop
 |mk(p xs i v:_)(_:x =.ref p)(_:y =.int i)(_:az K H p xs)(_:qa xs i=some v)(_:Q v H)
inductive L7(K:Fg)(x:V)(y:V)(H:Hp)(Q:VK):Prop
 |mk(p xs i v:_)(_:x =.ref p)(_:y =.int i)(_:cV K H p xs)(_:qa xs i=some v)(_:Q v H)
inductive acC(x:V)(y:V)(H:Hp)(Q:VK):Prop
 |mk(z i c:_)(_:x =.str z)(_:y =.int i)(_:z.length<=sizeLine)(_:qa z.cps.toList i=some c)(_:Q (.str ⟨#[c]⟩) H)
theorem QY:Ay X (L6 X.K):=by
 intro value slice AT s σ H x y v u Q I rx ry h hs;obtain⟨p,xs,i,z,rfl,rfl,hq,he,q⟩:=h;cases rx;obtain⟨t,rfl⟩:=ry;obtain⟨Bi,r,pl,hz⟩:=I.list hq;obtain⟨j,h1,h2,h3,h4,h5⟩:=Ct he;obtain⟨w,ew,rw'⟩:=r.get h2;have hl:=r.length;have hn:=vE;have fin:EP X AT σ Q w s:=⟨z,H,I,rw',q⟩
 by_cases h0:0<=i
 .have hj:i.toNat=j:=by rw[seqIndex_of h0 h5]at h1;exact gZ h1
  exact item_listR pl.isList h0 (by omega) (by rw[hj];simpa using ew) fin hs
 .have hj:(i+(Bi.toArray.size:Int)).toNat=j:=by rw[seqIndex_neg (by omega) h4]at h1;rw[jc,<-hl];exact gZ h1
  exact subscriptTail_builtinR (x:=w) pl.isList.typeIs slot_list_getitem.lookup
   (wpAny_getItem_list_neg (Q:=λr s'=>r=w/\EP X AT σ Q r s') pl.isList (by omega) (by rw[jc] <;> omega) (by omega) (by rw[hj];simpa using ew) ⟨Z,fin⟩) hs
theorem UU:Ay X (L7 X.K):=by
 intro value slice AT s σ H x y v u Q I rx ry h hs;obtain⟨p,xs,i,z,rfl,rfl,hq,he,q⟩:=h;cases rx;obtain⟨t,rfl⟩:=ry;obtain⟨Bi,r,pl,hz⟩:=I.tuple hq;obtain⟨j,h1,h2,h3,h4,h5⟩:=Ct he;obtain⟨w,ew,rw'⟩:=r.get h2;have hl:=r.length;have hn:=vE;have fin:EP X AT σ Q w s:=⟨z,H,I,rw',q⟩
 exact subscriptTail_builtinR (x:=w) pl.typeIs slot_tuple_getitem.lookup
  (getItem_tuple (j:=j) (Q:=λr s'=>r=w/\EP X AT σ Q r s') pl (by omega) (by omega) (by rw[jc,<-hl];exact h1) (by simpa using ew) ⟨Z,fin⟩) hs
theorem UW:Ay X acC:=by
 intro value slice AT s σ H x y v u Q I rx ry h hs;obtain⟨z,i,c,rfl,rfl,hz,he,q⟩:=h;obtain⟨t,rfl⟩:=rx;obtain⟨t',rfl⟩:=ry;obtain⟨j,h1,h2,h3,h4,h5⟩:=Ct he;have hl:z.cps.toList.length=z.length:=by simp[Str.length]
 rw[hl]at h1 h4 h5;have hn:=vE;exact tail_any (typeIs_str s z t) slot_str_getitem.lookup (getItem_str (c:=c) (by have e1:decide (i < -(2 ^ 63:Int))=false:=d7 (by omega);have e2:decide (i≥2 ^ 63)=false:=d7 (by omega);rw[e1,e2,Bool.or_false]) (by rw[h1];simpa using h2) ⟨.str ⟨#[c]⟩,H,I.tok _,⟨_,Z⟩,q⟩) hs
noncomputable def rIx(K:Fg):R2:=λx y H Q=>L6 K x y H Q\/L7 K x y H Q\/acC x y H Q
def acE:Ay X (rIx X.K):=QY.or (UU.or UW)
def SR(Bi:Da Value)(n j:Nat)(u:Value):Obj.mapSeq (·.setIfInBounds j u) { cls:=.type "list",data:=.seq Bi.toArray n }={ cls:=.type "list",data:=.seq (Bi.set j u).toArray n }:=by simp[Obj.mapSeq]
theorem Inv.lst{AT:AO}{σ:St}{H:Hp}{s:Shared}{p:Addr}{xs:Da V}(I:Inv X AT σ H s)(h:H p=some (.lst xs)):∃(Bi:Da Value)(n:Nat),Vals xs Bi/\s.heap.get? p=some { cls:=.type "list",data:=.seq Bi.toArray n }/\xs.length<=sizeLine:=by obtain⟨z,Bi,n,r,e⟩:=I.hok p _ h;exact⟨Bi,n,r,e,z⟩
def Inv.acF{p:Addr}{n':Nat}{f:Obj->Obj}(I:Inv X AT σ H s)(h:H p=some (.lst xs))(ho:s.heap.get? p=some { cls:=.type "list",data:=.seq Bi.toArray n })(hf:f { cls:=.type "list",data:=.seq Bi.toArray n }={ cls:=.type "list",data:=.seq its'.toArray n' })(r:Vals ys its')(hz:ys.length<=sizeLine)(t:Nat):
  Inv X AT σ (upd H p (.lst ys)) { s with heap:=s.heap.update p f,toks:=t }:=by
 have e:(s.heap.update p f).get? p=some { cls:=.type "list",data:=.seq its'.toArray n' }:=by rw[DK f ho (by rw[hf] <;> rfl),hf]
 refine I.write (x:=p) (e:=p) (by rw[h];trivial) (.inl rfl) (λb u hb q=>(LI _ _ (cD hb)).trans q) ⟨_,e⟩ ?_
 exact⟨hz,its',n',r,e⟩
inductive afF(o:V)(i:V)(v:V)(H:Hp)(Q:Hp->Prop):Prop
 |mk(p xs k j:_)(_:o =.ref p)(_:i =.int k)(_:H p=some (.lst xs))(_:De xs.length k=some j)(_:Q (upd H p (.lst (xs.set j v))))
theorem set_list:Xk X afF:=by
 intro AT s σ H o i v ov iv u Q I ro ri rv h;obtain⟨p,xs,k,j,rfl,rfl,hp,hj,q⟩:=h;cases ro;obtain⟨t,rfl⟩:=ri;obtain⟨Bi,n,r,ho,hz⟩:=I.lst hp;obtain⟨h1,h2,h3,h4⟩:=QX hj;have hl:=r.length;have hn:=vE;have I':Inv X AT σ (upd H p (.lst (xs.set j v))) { s with heap:=s.heap.update p (Obj.mapSeq (·.setIfInBounds j u)) }:=
  I.acF hp ho (SR Bi n j u) (r.set rv j) (by rw[jV];exact hz) s.toks
 by_cases h0:0<=k
 .have hk:k.toNat=j:=by rw[seqIndex_of h0 h4]at h1;exact gZ h1
  exact PySem.W.ki_setAt ho h0 (by omega) (by rw[jc,<-hl];exact h4) (by rw[hk];exact⟨_,I',q⟩)
 .have hk:(k+(Bi.toArray.size:Int)).toNat=j:=by rw[seqIndex_neg (by omega) h3]at h1;rw[jc,<-hl];exact gZ h1
  exact PySem.W.ki_setBack ho (by omega) (by rw[jc,<-hl];exact h3) (by omega) (by rw[hk];exact⟨_,I',q⟩)
noncomputable def sZ:V->Bool
 | .cu=>true
 | .bl _=>true
 | .int _=>true
 | .str _=>true
 | _=>false
noncomputable def Az:V->V->Bool
 | .cu,.cu=>true
 | .bl a,.bl b=>a==b
 | .bl a,.int b=>(if a then 1 else 0)==b
 | .int a,.bl b=>a==(if b then 1 else 0)
 | .int a,.int b=>a==b
 | .str a,.str b=>a==b
 | _,_=>false
def acG{x:V}{v:Value}(ry:RelV y u)(rx:RelV x v)(fy:sZ y=true)(fx:sZ x=true):SeqAt.EqAt A s u v (Az y x):=by
 cases y with
 | cu=>
  cases ry;cases x with
  | cu=>cases rx;exact SeqAt.EqAt.same _
  | bl b=>cases rx;exact SeqAt.EqAt.none_bool b
  | int b=>obtain⟨t,rfl⟩:=rx;exact SeqAt.EqAt.none_int b t
  | str b=>obtain⟨t,rfl⟩:=rx;exact SeqAt.EqAt.none_str b t
  | _=>exact absurd (show false=true from fx) gk
 | bl a=>
  cases ry;cases x with
  | cu=>cases rx;exact SeqAt.EqAt.bool_none a
  | bl b=>cases rx;exact SeqAt.EqAt.bool_bool a b
  | int b=>obtain⟨t,rfl⟩:=rx;exact SeqAt.EqAt.bool_int a b t
  | str b=>obtain⟨t,rfl⟩:=rx;exact SeqAt.EqAt.bool_str a b t
  | _=>exact absurd (show false=true from fx) gk
 | int a=>
  obtain⟨t',rfl⟩:=ry;cases x with
  | cu=>cases rx;exact SeqAt.EqAt.int_none a t'
  | bl b=>cases rx;exact SeqAt.EqAt.int_bool a t' b
  | int b=>obtain⟨t,rfl⟩:=rx;exact SeqAt.EqAt.int_int a t' b t
  | str b=>obtain⟨t,rfl⟩:=rx;exact SeqAt.EqAt.int_str a t' b t
  | _=>exact absurd (show false=true from fx) gk
 | str a=>
  obtain⟨t',rfl⟩:=ry;cases x with
  | cu=>cases rx;exact SeqAt.EqAt.str_none a t'
  | bl b=>cases rx;exact SeqAt.EqAt.str_bool a t' b
  | int b=>obtain⟨t,rfl⟩:=rx;exact SeqAt.EqAt.str_int a t' b t
  | str b=>obtain⟨t,rfl⟩:=rx;exact SeqAt.EqAt.str_str a t' b t
  | _=>exact absurd (show false=true from fx) gk
 | _=>exact absurd (show false=true from fy) gk
noncomputable def vG(x:V)(u:Value):Bool:=match u with
 | .none=>Az .cu x
 | .bool b=>Az (.bl b) x
 | .int i _=>Az (.int i) x
 | .str z _=>Az (.str z) x
 | _=>false
def UX{x:V}(r:RelV y u)(f:sZ y=true):vG x u=Az y x:=by
 cases y with
 | cu=>cases r;rfl
 | bl b=>cases r;rfl
 | int i=>obtain⟨t,rfl⟩:=r;rfl
 | str z=>obtain⟨t,rfl⟩:=r;rfl
 | _=>exact absurd (show false=true from f) gk
theorem yu{x:V}:∀{xs:Da V}{us:Da Value},Vals xs us->xs.all sZ=true->us.any (vG x)=xs.any λy=>Az y x
 | _,_,.nil,_=>rfl
 | y::xs,u::us,.cons r t,f=>by rw[List.all_cons,EK]at f;rw[EO,EO,UX r f.1,yu t f.2]
theorem vH{A:Around}{s:Shared}{x:V}{v:Value}(rx:RelV x v)(fx:sZ x=true):∀{xs:Da V}{us:Da Value},Vals xs us->xs.all sZ=true->∀u∈us,SeqAt.EqAt A s u v (vG x u)
 | _,_,.nil,_=>λu hu=>by cases hu
 | y::xs,u::us,.cons r t,f=>λu' hu=>by
  rw[List.all_cons,EK]at f;rcases c_.mp hu with rfl|hu
  .rw [UX r f.1];exact acG r rx f.1 fx
  .exact vH rx fx t f.2 u' hu
noncomputable def L8(x:V)(xs:Da V):Bool:=xs.any λy=>Az y x
inductive rIn(K:Fg)(neg:Bool)(x:V)(y:V)(H:Hp)(Q:VK):Prop
 |mk(p xs:_)(_:y =.ref p)(_:(az K H p xs\/cV K H p xs))(_:sZ x=true)(_:xs.all sZ=true)(_:Q (.bl (if neg then !L8 x xs else L8 x xs)) H)
def UY:ji X (compareOp .In) (rIn X.K false):=by
 intro AT s σ H x y v u Q I rx ry h;obtain⟨p,xs,rfl,hq,fx,fs,q⟩:=h;cases ry;rcases hq with hq|hq
 .obtain ⟨Bi,r,pl,hz⟩:=I.list hq;refine SeqAt.in_listAt (vG x) pl.isList (λw hw=>vH rx fx r fs w (by simpa using hw)) ⟨.bl _,H,I,Z,?_⟩;rw[show Bi.toArray.any (vG x)=Bi.any (vG x) by simp,yu r fs];exact q
 .obtain ⟨Bi,r,pl,hz⟩:=I.tuple hq;refine SeqAt.in_tupleAt (vG x) pl (λw hw=>vH rx fx r fs w (by simpa using hw)) ⟨.bl _,H,I,Z,?_⟩;rw[show Bi.toArray.any (vG x)=Bi.any (vG x) by simp,yu r fs];exact q
def AU:ji X (compareOp .NotIn) (rIn X.K true):=by
 intro AT s σ H x y v u Q I rx ry h;obtain⟨p,xs,rfl,hq,fx,fs,q⟩:=h;cases ry;rcases hq with hq|hq
 .obtain ⟨Bi,r,pl,hz⟩:=I.list hq;refine SeqAt.notIn_listAt (vG x) pl.isList (λw hw=>vH rx fx r fs w (by simpa using hw)) ⟨.bl _,H,I,Z,?_⟩;rw[show Bi.toArray.any (vG x)=Bi.any (vG x) by simp,yu r fs];exact q
 .obtain ⟨Bi,r,pl,hz⟩:=I.tuple hq;refine SeqAt.notIn_tupleAt (vG x) pl (λw hw=>vH rx fx r fs w (by simpa using hw)) ⟨.bl _,H,I,Z,?_⟩;rw[show Bi.toArray.any (vG x)=Bi.any (vG x) by simp,yu r fs];exact q
theorem L_:iB X (.builtin "len") (λxs H Q=>∃p ys,xs=[.ref p]/\(az X.K H p ys\/cV X.K H p ys)/\Q (.int ys.length) H):=by
 intro AT s σ H xs us Q I r h;obtain⟨p,ys,rfl,hq,q⟩:=h;obtain⟨u,rfl,rx⟩:=vals1 r;cases rx;have hn:=vE;rcases hq with hq|hq
 .obtain ⟨Bi,r',pl,hz⟩:=I.list hq;have hlen:=r'.length;exact Calls.call_len_list pl.isList (by simp only[jc] <;> omega) ⟨.int ys.length,H,I.tok _,⟨s.toks+1,by rw[jc,hlen]⟩,q⟩
 .obtain ⟨Bi,r',pl,hz⟩:=I.tuple hq;have hlen:=r'.length;exact len_tuple pl (by simp only[jc] <;> omega) ⟨.int ys.length,H,I.tok _,⟨s.toks+1,by rw[jc,hlen]⟩,q⟩
theorem Ma:iB X (.builtin "len") (λxs H Q=>∃z,xs=[.str z]/\z.length<=sizeLine/\Q (.int z.length) H):=by intro AT s σ H xs us Q I r h;obtain⟨z,rfl,hz,q⟩:=h;obtain⟨u,rfl,t,rfl⟩:=vals1 r;have hn:=vE;exact len_str (by omega) ⟨.int z.length,H,I.tok _,⟨_,Z⟩,q⟩
theorem Mb:iB X (.type "list") (λxs H Q=>∃p ys,xs=[.ref p]/\(az X.K H p ys\/cV X.K H p ys)/\∀l,H l=none->Q (.ref l) (upd H l (.lst ys))):=by
 intro AT s σ H xs us Q I r h;obtain⟨p,ys,rfl,hq,q⟩:=h;obtain⟨u,rfl,rx⟩:=vals1 r;cases rx;have fin:∀(Bi:Da Value),Vals ys Bi->ys.length<=sizeLine->∀(h':Heap)(c':Nat),(∀b o',s.heap.get? b=some o'->h'.get? b=some o')->
   h'.get? s.heap.objs.size=some { cls:=.type "list",dict:=none,data:=.seq Bi.toArray c',slots:=#[] }->EP X AT σ Q (.ref s.heap.objs.size) { s with heap:=h' }:=λBi r' hz h' c' kp e=>
  ⟨.ref s.heap.objs.size,_,I.laid (t':=s.toks) kp (aN _) (show d8 X.prog X.w _ h' _ (.lst ys)from⟨hz,Bi,c',r',e⟩),Z,q _ (I.hok.fresh (aN _))⟩
 rcases hq with hq|hq
 .obtain ⟨Bi,r',pl,hz⟩:=I.list hq;have hlen:=r'.length;obtain⟨o,ho,hc,n,hd⟩:=pl.isList;exact call_list_seq p (.inl rfl) ho hc hd (λh' c' kp e=>fin Bi r' hz h' c' kp e) (by simp only[jc] <;> omega)
 .obtain ⟨Bi,r',pl,hz⟩:=I.tuple hq;have hlen:=r'.length;obtain⟨o,ho,hc,n,hd⟩:=pl;exact call_list_seq p (.inr rfl) ho hc hd (λh' c' kp e=>fin Bi r' hz h' c' kp e) (by simp only[jc] <;> omega)
theorem Kg:iB X (.type "tuple") (λxs H Q=>∃p ys,xs=[.ref p]/\((az X.K H p ys/\∀l,H l=none->Q (.ref l) (upd H l (.tup ys)))\/(cV X.K H p ys/\Q (.ref p) H))):=by
 intro AT s σ H xs us Q I r h;obtain⟨p,ys,rfl,h⟩:=h;obtain⟨u,rfl,rx⟩:=vals1 r;cases rx;rcases h with⟨hq,q⟩|⟨hq,q⟩
 .obtain ⟨Bi,r',pl,hz⟩:=I.list hq;have hlen:=r'.length;refine call_tuple_list pl.isList (λh' kp=>?_) (by simp only[jc] <;> omega);have I1:Inv X AT σ H { s with heap:=h' }:=I.kept (t':=s.toks) kp;have I2:Inv X AT σ (upd H h'.objs.size (.tup ys)) { s with heap:=h'.push { cls:=.type "tuple",data:=.seq Bi.toArray } }:=
   I1.laid (t':=s.toks) (λb o e=>cI _ e) (aN _) (show d8 X.prog X.w _ _ _ (.tup ys)from⟨hz,Bi,r',IsTup.new _ _⟩)
  exact⟨.ref h'.objs.size,_,I2,Z,q _ (I1.hok.fresh (aN _))⟩
 .obtain ⟨Bi,r',pl,hz⟩:=I.tuple hq;exact call_tuple_same pl ⟨.ref p,H,I,Z,q⟩
def tyV(K:Fg)(T:String)(x:V)(H:Hp):Prop:=match x with
 | .str _=>T = "str"
 | .int _=>T = "int"
 | .ref p=>(T = "list"/\∃xs,az K H p xs)\/(T = "tuple"/\∃o,K.lookup p=some o/\o.cls =.type "tuple"/\o.dict=none)\/
     (T = "dict"/\((∃Ap,H p=some (.dK Ap))\/∃Ap,H p=some (.dT Ap)))\/(T = "set"/\∃S n,H p=some (.set S n))
 | _=>False
def UZ{T:String}{x:V}{v:Value}(I:Inv X AT σ H s)(r:RelV x v)(ty:tyV X.K T x H):s.TypeIs v T/\∀a,v =.ref a->∃ob,s.heap.get? a=some ob/\ob.dict=none:=by
 cases x with
 | str z=>obtain⟨t,rfl⟩:=r;cases(show T = "str" from ty);exact⟨typeIs_str s z t,λ_ e=>nomatch e⟩
 | int i=>obtain⟨t,rfl⟩:=r;cases(show T = "int" from ty);exact⟨typeIs_int s i t,λ_ e=>nomatch e⟩
 | ref p=>
  cases r;rcases ty with⟨rfl,xs,hq⟩|⟨rfl,o,hk,hc,hd⟩|⟨rfl,hk⟩|⟨rfl,S,n,hk⟩
  .obtain ⟨Bi,_,pl,_⟩:=I.list hq;refine⟨pl.isList.typeIs,λa e=>?_⟩;cases e;obtain⟨o,n,e,c,hd,_⟩:=pl;exact⟨o,e,hd⟩
  .refine ⟨⟨o,I.jB p o hk,hc⟩,λa e=>?_⟩;cases e;exact⟨o,I.jB _ o hk,hd⟩
  .have z:∃o,s.heap.get? p=some o/\o.ExactDict:=by
    rcases hk with⟨Ap,hk⟩|⟨Ap,hk⟩
    .obtain ⟨_,_,_,_,o,_,_,e,ex,_⟩:=I.hok p _ hk;exact⟨o,e,ex⟩
    .obtain ⟨_,_,_,_,o,_,_,e,ex,_⟩:=I.hok p _ hk;exact⟨o,e,ex⟩
   obtain⟨o,e,ex⟩:=z;refine⟨⟨o,e,ex.1⟩,λa e2=>?_⟩;cases e2;exact⟨o,e,ex.2.1⟩
  .obtain ⟨o,_,_,_,e,ex,_⟩:=I.hok p _ hk;refine⟨⟨o,e,ex.1⟩,λa e2=>?_⟩;cases e2;exact⟨o,e,ex.2.1⟩
 | _=>exact False.elim ty
inductive afG(K:Fg)(T:String)(r:V->Da V->Hp->VK->Prop)(Q:VK)(x:V)(H1:Hp):Prop
 |mk(_:tyV K T x H1)(_:r x [] H1 Q)
def ai5(K:Fg)(T:String)(r:V->Da V->Hp->VK->Prop)(to:TE):TE:=λσ H Q=>to σ H (afG K T r Q)
def acI(r:V->Da V->Hp->VK->Prop)(Q:VK)(x:V):Da V->Hp->Prop:=λxs H2=>r x xs H2 Q
inductive ai6(K:Fg)(T:String)(r:V->Da V->Hp->VK->Prop)(t:TA)(σ:St)(Q:VK)(x:V)(H1:Hp):Prop
 |mk(_:tyV K T x H1)(_:t σ H1 (acI r Q x))
def tBM(K:Fg)(T:String)(r:V->Da V->Hp->VK->Prop)(to:TE)(t:TA):TE:=λσ H Q=>to σ H (ai6 K T r t σ Q)
variable {o e:Expr}{es:Da Expr}{to:TE}{t:TA}{name:Str}{B2 cpos:Pos}{T id:String}{r:V->Da V->Hp->VK->Prop}
end
def MtM(X:Cx)(id:String)(r:V->Da V->Hp->VK->Prop):Prop:=∀(AT:AO)(s:Shared)(σ:St)(H:Hp)(x:V)(xs:Da V)(v:Value)(us:Da Value)(Q:VK),Inv X AT σ H s->RelV x v->Vals xs us->r x xs H Q->wpAny (model X.prog X.w) X.A (call (.builtin id) (v::us)) (EP X AT σ Q) X.xe s
theorem Vals.one:∀{x:V}{us:Da Value},Vals [x] us->∃u,us=[u]/\RelV x u
 | _,_,.cons r .nil=>⟨_,Z,r⟩
theorem Vals.zero:∀{us:Da Value},Vals [] us->us=[]
 | _,.nil=>rfl
variable {us:Da Value}
theorem Vals.reverse(h:Vals xs us):Vals xs.reverse us.reverse:=by
 induction h with
 | nil=>exact .nil
 | cons r t ih=>rw[List.reverse_cons,List.reverse_cons];exact Vals.append ih (.cons r .nil)
theorem Vals.rep{xs:Da V}{us:Da Value}(h:Vals xs us):∀k:Nat,Vals (List.replicate k xs).flatten (List.replicate k us).flatten
 | 0=> .nil
 | k+1=>by rw[ze,ze,Su,Su];exact Vals.append h (Vals.rep h k)
theorem foldl_rep(Bi:Da Value):∀(k:Nat)(BM:Da Value),List.foldl (λx1 x2=>x1++x2) BM.toArray (List.replicate k Bi.toArray)=(BM++(List.replicate k Bi).flatten).toArray
 | 0,BM=>by simp
 | k+1,BM=>by
  have e:BM.toArray++Bi.toArray=(BM++Bi).toArray:=by simp
  have e2:(BM++Bi)++(List.replicate k Bi).flatten=BM++(List.replicate (k+1) Bi).flatten:=by rw[ze,Su,Sv]
  rw[<-e2,<-foldl_rep Bi k (BM++Bi),<-e,ze,nM]
variable {t':Nat}
section
variable {X:Cx}{AT:AO}{σ:St}{H:Hp}{s:Shared}{l b:Addr}{xs ys zs:Da V}
def Inv.acJ{f:Array Value->Array Value}(I:Inv X AT σ H s)(hH:H l=some (.lst xs))(e:s.heap.get? l=some { cls:=.type "list",data:=.seq Bi.toArray n })(hf:f Bi.toArray=its'.toArray)(hv:Vals ys its')(hz:ys.length<=sizeLine):
  Inv X AT σ (upd H l (.lst ys)) { s with heap:=s.heap.update l (Obj.mapSeq f),toks:=t' }:=by
 have q:=PySem.IsL.update e f
 rw[hf]at q
 refine I.write (x:=l) (e:=l) (by rw[hH];exact trivial) (.inl rfl) (λb' u hb hu=>(LI s.heap (Obj.mapSeq f) (cD hb)).trans hu) ⟨_,q⟩ ?_
 exact⟨hz,its',_,hv,q⟩
def Inv.acK(I:Inv X AT σ H s)(hv:Vals ys Bi)(hz:ys.length<=sizeLine):Inv X AT σ (upd H s.heap.objs.size (.lst ys)) { s with heap:=s.heap.push { cls:=.type "list",data:=.seq Bi.toArray },toks:=t' }:=I.laid (λ_ _ q=>cI _ q) (aN _) ⟨hz,Bi,0,hv,fj _ rfl⟩
theorem Inv.fresh(I:Inv X AT σ H s):H s.heap.objs.size=none:=I.hok.fresh (aN _)
def Inv.Mc(I:Inv X AT σ H s)(hH:H l=some (.lst xs)):xs.length<=sizeLine/\∃(Bi:Da Value)(n:Nat),Vals xs Bi/\xs.length=Bi.length/\s.heap.get? l=some { cls:=.type "list",data:=.seq Bi.toArray n }:=by obtain⟨z,Bi,n,r,e⟩:=I.hok l _ hH;exact⟨z,Bi,n,r,r.length,e⟩
theorem XE(h:n<=sizeLine):Builtin.List.listTooLong n=false:=by unfold Builtin.List.listTooLong;exact d7 (by omega)
end
section
variable {X:Cx}
inductive aas(x:V)(vs:Da V)(H:Hp)(Q:VK):Prop
 |mk(l xs y:_)(_:x =.ref l)(_:vs=[y])(_:H l=some (.lst xs))(_:xs.length<sizeLine)(_:Q .cu (upd H l (.lst (xs++[y]))))
theorem eX:MtM X "list.append" aas:=by intro AT s σ H x vs v us Q I rx rv h;obtain⟨l,xs,y,rfl,rfl,hH,hz,q⟩:=h;cases rx;obtain⟨u,rfl,ru⟩:=rv.one;obtain⟨z,Bi,n,r,hl,e⟩:=I.Mc hH;refine call_meets F.slot_list_append ⟨_,e,Z⟩ F.entry_list_append (F.args_list_append_2 _ _) (PySem.list_append l Bi.toArray n u (by rw[jc];omega)) ⟨e,?_⟩;refine⟨.cu,_,I.acJ (its':=Bi++[u]) hH e (by simp) (r.append (.cons ru .nil)) ?_,Z,q⟩;rw[c8,List.length_singleton];omega
inductive acL(x:V)(vs:Da V)(H:Hp)(Q:VK):Prop
 |mk(l xs:_)(_:x =.ref l)(_:vs=[])(_:H l=some (.lst xs))(_:Q .cu (upd H l (.lst [])))
theorem Me:MtM X "list.clear" acL:=by intro AT s σ H x vs v us Q I rx rv h;obtain⟨l,xs,rfl,rfl,hH,q⟩:=h;cases rx;have hus:=rv.zero;subst hus;obtain⟨z,Bi,n,r,hl,e⟩:=I.Mc hH;refine call_meets F.slot_list_clear ⟨_,e,Z⟩ F.entry_list_clear (F.args_list_clear_1 _) (AutoSeq1.list_clear_list_0 l Bi.toArray n (by rw[jc];omega)) ⟨e,?_⟩;exact⟨.cu,_,I.acJ (its':=[]) (ys:=[]) hH e rfl .nil (fD _),Z,q⟩
inductive XF(x:V)(y:V)(H:Hp)(Q:VK):Prop
 |mk(l b xs zs:_)(_:x =.ref l)(_:y =.ref b)(_:H l=some (.lst xs))(_:H b=some (.lst zs))(_:xs.length+zs.length<=sizeLine)(_:∀p,H p=none->Q (.ref p) (upd H p (.lst (xs++zs))))
theorem qC:ji X (binaryOp .Add) XF:=by
 intro AT s σ H x y v u Q I rx ry h;obtain⟨l,b,xs,zs,rfl,rfl,hH,hB,hz,q⟩:=h;cases rx;cases ry;obtain⟨z,Bi,n,r,hl,e⟩:=I.Mc hH;obtain⟨z2,its2,n2,r2,hl2,e2⟩:=I.Mc hB;refine PySem.P.add_list e e2 ?_ (by rw[jc,jc];omega);have ea:Bi.toArray++its2.toArray=(Bi++its2).toArray:=by simp
 rw[ea];exact⟨.ref _,_,I.acK (t':=s.toks) (r.append r2) (by rw[c8];omega),Z,q _ I.fresh⟩
inductive ai7(x:V)(y:V)(H:Hp)(Q:VK):Prop
 |mk(l k xs:_)(_:x =.ref l)(_:y =.int k)(_:H l=some (.lst xs))(_:-(2 ^ 63)<=k)(_:k<2 ^ 63)(_:xs.length*k.toNat<=sizeLine)(_:∀p,H p=none->Q (.ref p) (upd H p (.lst (List.replicate k.toNat xs).flatten)))
def len_rep{α:Type}(xs:Da α)(k:Nat):(List.replicate k xs).flatten.length=k*xs.length:=by
 induction k with
 | zero=>simp
 | succ k ih=>rw[ze,Su,c8,ih,Nat.succ_mul,Nat.add_comm]
theorem U0:ji X (binaryOp .Mult) ai7:=by
 intro AT s σ H x y v u Q I rx ry h;obtain⟨l,k,xs,rfl,rfl,hH,h1,h2,hz,q⟩:=h;cases rx;obtain⟨t,rfl⟩:=ry;obtain⟨z,Bi,n,r,hl,e⟩:=I.Mc hH;have hlen:Bi.toArray.size*k.toNat<=sizeLine:=by rw[jc,<-hl];exact hz
 have hcap:¬ Bi.toArray.size*k.toNat>(2 ^ 63-1) / 8:=by
  have:(sizeLine:Nat)<=(2 ^ 63-1) / 8:=by decide
  omega
 have hfit:¬ (!Builtin.List.listFitsIndex k)=true:=by rw[fitsIndex_both h1 h2];exact gk
 have afH:¬ Builtin.List.listTooLong (Bi.toArray.size*k.toNat)=true:=by rw[XE hlen];exact gk
 have hnew:List.foldl (λx1 x2=>x1++x2) #[] (List.replicate (if Bi.toArray.isEmpty=true then 0 else k.toNat) Bi.toArray)=(List.replicate k.toNat Bi).flatten.toArray:=by
  have f0:∀m:Nat,List.foldl (λx1 x2=>x1++x2) #[] (List.replicate m Bi.toArray)=(List.replicate m Bi).flatten.toArray:=λm=>by have:=foldl_rep Bi m [];rw[Lm]at this;exact this
  rw[f0];cases Bi with
  | nil=>simp
  | cons a r'=>rw[aB (by simp)]
 refine wpAny_binaryOp_repeat_ref (T:="list") (U:="int") (by decide) ⟨_,e,Z⟩ (λs'=>typeIs_int s' k t) noFill_list_mul F.fills_int_mul F.slot_int_rmul repeat_list F.slot_int_index.lookup
  (call_meets F.slot_int_rmul (typeIs_int s k t) F.entry_int_rmul (F.args_int_rmul_2 _ _) (int___rmul___int_list k t l Bi.toArray n)
    ⟨e,Z,⟨_,e,Z⟩,call_meets F.slot_list_mul ⟨_,e,Z⟩ F.entry_list_mul (F.args_list_mul_2 _ _) (AutoListH.list___mul___list_int_3 l Bi.toArray n k t hfit hcap afH) ⟨e,?_⟩⟩)
 rw[hnew];exact⟨.ref _,_,I.acK (t':=s.toks) (r.rep k.toNat) (by rw[len_rep,Nat.mul_comm];exact hz),Z,q _ I.fresh⟩
end
section
variable {prog:Program}{w:World}{A:Around}{E:VS}{s:Shared}
set_option maxRecDepth 100000 in
end
section
variable {X:Cx}
end
section
variable {κ:Type}[DecidableEq κ]
noncomputable def eV(Ap:Da (κ×V))(k:κ):Option V:=(Ap.find? λkv=>decide (kv.1=k)).map (·.2)
noncomputable def putK(Ap:Da (κ×V))(k:κ)(v:V):Da (κ×V):=if(Ap.any λkv=>decide (kv.1=k))=true then Ap.map (λkv=>if kv.1=k then(kv.1,v) else kv) else Ap++[(k,v)]
noncomputable def nP(Ap:Da (κ×V))(k:κ):Da (κ×V):=Ap.filter λkv=>decide (kv.1≠k)
def iE{p:κ×V}{r:Da (κ×V)}{k:κ}(e:p.1=k):eV (p::r) k=some p.2:=by simp[eV,qu,e]
def fP{p:κ×V}{r:Da (κ×V)}{k:κ}(e:¬ p.1=k):eV (p::r) k=eV r k:=by simp[eV,qu,e]
theorem rW(k:κ):∀Ap:Da (κ×V),(Ap.any λkv=>decide (kv.1=k))=(eV Ap k).isSome
 | []=>rfl
 | p::r=>by
  rw[EO];by_cases e:p.1=k
  .simp only[iE e,cy e,Bool.true_or,Option.isSome_some]
  .rw [fP e,d7 e,Bool.false_or];exact rW k r
theorem Mf(k j:κ)(y:V):∀Ap:Da (κ×V),eV (Ap.map λkv=>if kv.1=k then(kv.1,y) else kv) j=(eV Ap j).map λx=>if j=k then y else x
 | []=>rfl
 | p::r=>by
  have ih:=Mf k j y r;rw[bP];by_cases h:p.1=k
  .rw [aC h];by_cases e:p.1=j
   .rw [iE (p:=(p.1,y)) e,iE e,Ln,aC (e.symm.trans h)]
   .rw [fP (p:=(p.1,y)) e,fP e,ih]
  .rw [aB h];by_cases e:p.1=j
   .rw [iE (p:=p) e,iE e,Ln,aB (λz=>h (e.trans z))]
   .rw [fP (p:=p) e,fP e,ih]
theorem Jt(k j:κ)(y:V):∀Ap:Da (κ×V),eV Ap k=none->eV (Ap++[(k,y)]) j=if j=k then some y else eV Ap j
 | [],_=>by
  by_cases e:k=j
  .rw [aC e.symm];exact iE (p:=(k,y)) e
  .rw [aB (λz=>e z.symm)];exact fP (p:=(k,y)) e
 | p::r,hn=>by
  rw[Lk];have hk:¬ p.1=k:=λz=>by rw[iE z]at hn;cases hn
  rw[fP hk]at hn;have ih:=Jt k j y r hn;by_cases e:p.1=j
  .rw [iE e,iE e,aB (λz=>hk (e.trans z))]
  .rw [fP e,fP e,ih]
def XG(Ap:Da (κ×V))(k j:κ)(y:V):eV (putK Ap k y) j=if j=k then some y else eV Ap j:=by
 unfold putK;by_cases a:(Ap.any λkv=>decide (kv.1=k))=true
 .rw [aC a,Mf];rw[rW]at a;by_cases e:j=k
  .obtain ⟨x,hx⟩:=Option.isSome_iff_exists.mp a;rw[aC e,e,hx,Ln,aC rfl]
  .rw [aB e];cases eV Ap j with
   | none=>rfl
   | some x=>rw[Ln,aB e]
 .rw [aB a];refine Jt k j y Ap ?_;rw[rW]at a;cases q:eV Ap k with
  | none=>rfl
  | some x=>rw[q]at a;exact(a rfl).elim
theorem xY(Ap:Da (κ×V))(k:κ)(v:V):(putK Ap k v).length<=Ap.length+1:=by
 unfold putK;split
 .rw [aD];omega
 .rw [c8,jm,List.length_nil];omega
def pK{Ap:Da (κ×V)}{k:κ}(v:V)(h:eV Ap k=none):putK Ap k v=Ap++[(k,v)] :=by unfold putK;rw[rW,h];exact aB (by decide)
def n_.qb{o:Option V}{u:Option Value}(r:n_ o u):o.isSome=u.isSome:=by
 cases o with
 | none=>cases u with
   | none=>rfl
   | some _=>exact(show False from r).elim
 | some _=>cases u with
   | none=>exact(show False from r).elim
   | some _=>rfl
def KV.val{Ap:Da (κ×V)}{vs:Da (κ×Value)}(r:KV Ap vs)(k:κ):n_ (eV Ap k) (valueAt vs k):=by
 unfold KV at r
 induction r with
 | nil=>exact True.intro
 | @cons p q ps qs h t ih=>
  obtain⟨h1,h2⟩:=h;by_cases e:p.1=k
  .have e':q.1=k:=h1.symm.trans e;have b:valueAt (q::qs) k=some q.2:=by simp[valueAt,qu,e']
   rw[iE e,b];exact h2
  .have e':¬ q.1=k:=λz=>e (h1.trans z);have b:valueAt (q::qs) k=valueAt qs k:=by simp[valueAt,qu,e']
   rw[fP e,b];exact ih
theorem KV.any{Ap:Da (κ×V)}{vs:Da (κ×Value)}(r:KV Ap vs)(k:κ):(Ap.any λkv=>decide (kv.1=k))=vs.any λkv=>decide (kv.1=k):=by
 unfold KV at r
 induction r with
 | nil=>rfl
 | cons h t ih=>rw[EO,EO,ih,h.1]
def KV.repl{Ap:Da (κ×V)}{vs:Da (κ×Value)}(r:KV Ap vs)(k:κ)(ry:RelV y u):KV (Ap.map λkv=>if kv.1=k then(kv.1,y) else kv) (vs.map λkv=>if kv.1=k then(kv.1,u) else kv):=by
 unfold KV at r ⊢
 induction r with
 | nil=>exact .nil
 | @cons p q ps qs h t ih=>
  rw[bP,bP];refine .cons ?_ ih;obtain⟨h1,h2⟩:=h;by_cases e:p.1=k
  .rw [aC e,aC (h1.symm.trans e)];exact⟨h1,ry⟩
  .rw [aB e,aB (λz=>e (h1.trans z))];exact⟨h1,h2⟩
def KV.put{Ap:Da (κ×V)}{vs:Da (κ×Value)}(r:KV Ap vs)(k:κ)(ry:RelV y u):KV (putK Ap k y) (stored vs k u):=by
 unfold putK stored;rw[r.any k];by_cases e:(vs.any λkv=>decide (kv.1=k))=true
 .rw [aC e,aC e];exact r.repl k ry
 .rw [aB e,aB e];exact Paired.snoc r ⟨Z,ry⟩
def KV.drop{Ap:Da (κ×V)}{vs:Da (κ×Value)}(r:KV Ap vs)(k:κ):KV (nP Ap k) (without vs k):=by
 unfold KV at r ⊢;unfold nP without
 induction r with
 | nil=>exact .nil
 | @cons p q ps qs h t ih=>
  obtain⟨h1,h2⟩:=h;rw[gY,gY];by_cases e:p.1=k
  .have a:¬ decide (p.1≠k)=true:=by simp[e]
   have b:¬ decide (q.1≠k)=true:=by simp[h1.symm.trans e]
   rw[aB a,aB b];exact ih
  .have e':¬ q.1=k:=λz=>e (h1.trans z);have a:decide (p.1≠k)=true:=by simp[e]
   have b:decide (q.1≠k)=true:=by simp[e']
   rw[aC a,aC b];exact .cons ⟨h1,h2⟩ ih
theorem KV.length{Ap:Da (κ×V)}{vs:Da (κ×Value)}(r:KV Ap vs):Ap.length=vs.length:=Paired.length r
def XH(Ap:Da (κ×V))(k:κ):(nP Ap k).length<=Ap.length:=Sd _ _
end
variable {P:Program}{w:World}
def zN{k:Key}(r:RelV (kV k) u):(dw P w).is k u=true:=by
 cases k with
 | inl i=>obtain⟨t,e⟩:=(show ∃t,u=Value.int i t from r);subst e;exact O8 P w i t
 | inr x=>obtain⟨t,e⟩:=(show ∃t,u=Value.str x t from r);subst e;exact O9 P w x t
theorem Ju{P:Program}{w:World}:∀{ks:Da Key}{us:Da Value},Vals (ks.map kV) us->ItemsAre (dw P w) ks us
 | [],_,r=>by rw[List.map_nil]at r;cases r;exact .nil
 | k::ks,_,r=>by
  rw[bP]at r;cases r with
  | cons h t=>exact .cons (zN h) (Ju t)
abbrev KT(H:Hp):Da (Da Key×V)->Da (Da Key×Addr×Value)->Prop:=Paired λp q=>p.1=q.1/\H q.2.1=some (.tup (p.1.map kV))/\RelV p.2 q.2.2
def KT.val{Ap:Da (Da Key×V)}{xs:Da (Da Key×Addr×Value)}(r:KT H Ap xs)(k:Da Key):n_ (eV Ap k) ((atKey xs k).map (·.2)):=by
 induction r with
 | nil=>exact True.intro
 | @cons p q ps qs h t ih=>
  obtain⟨h1,_,h2⟩:=h;by_cases e:p.1=k
  .have e':q.1=k:=h1.symm.trans e;have b:atKey (q::qs) k=some q.2:=by simp[atKey,qu,e']
   rw[iE e,b];exact h2
  .have e':¬ q.1=k:=λz=>e (h1.trans z);have b:atKey (q::qs) k=atKey qs k:=by simp[atKey,qu,e']
   rw[fP e,b];exact ih
def KT.repl{Ap:Da (Da Key×V)}{xs:Da (Da Key×Addr×Value)}(r:KT H Ap xs)(k:Da Key)(ry:RelV y u):KT H (Ap.map λkv=>if kv.1=k then(kv.1,y) else kv) (xs.map (putAt k u)):=by
 induction r with
 | nil=>exact .nil
 | @cons p q ps qs h t ih=>
  rw[bP,bP];refine .cons ?_ ih;obtain⟨h1,h2,h3⟩:=h;unfold putAt;by_cases e:p.1=k
  .rw [aC e,aC (h1.symm.trans e)];exact⟨h1,h2,ry⟩
  .rw [aB e,aB (λz=>e (h1.trans z))];exact⟨h1,h2,h3⟩
def KT.put{Ap:Da (Da Key×V)}{xs:Da (Da Key×Addr×Value)}(r:KT H Ap xs)(k:Da Key){b:Addr}(hb:H b=some (.tup (k.map kV)))(ry:RelV y u):KT H (putK Ap k y) (storedH xs k b u):=by
 have e:(Ap.any λkv=>decide (kv.1=k))=(atKey xs k).isSome:=by rw[rW,(r.val k).qb,Sw]
 unfold putK storedH;rw[e];by_cases q:(atKey xs k).isSome=true
 .rw [aC q,aC q];exact r.repl k ry
 .rw [aB q,aB q];exact Paired.snoc r ⟨Z,hb,ry⟩
variable {H':Hp}
def KT.keeps{Ap:Da (Da Key×V)}{xs:Da (Da Key×Addr×Value)}(r:KT H Ap xs)(ht:∀b ys,H b=some (.tup ys)->H' b=some (.tup ys)):KT H' Ap xs:=Paired.Xh r λ_ _ z=>⟨z.1,ht _ _ z.2.1,z.2.2⟩
variable {Ap:Da (Key×V)}
section
variable {P:Program}{w:World}{H:Hp}{h:Heap}{a:Addr}
def Zq{u:HO}(ok:iL P w H h)(e:Rd H a u):d8 P w H h a u:=e.ok ok
def s_(ok:iL P w H h)(e:Rd H a (.dK Ap)):Ap.length<=sizeLine/\(a==sysModules)=false/\∃vs,KV Ap vs/\h.DictOf (dw P w) a vs:=
 show d8 P w H h a (.dK Ap)from Zq ok e
def E6(ok:iL P w H h)(e:H a=some (.dK Ap)):Ap.length<=sizeLine/\(a==sysModules)=false/\∃vs,KV Ap vs/\h.DictOf (dw P w) a vs:=s_ ok (.inl e)
def AV{ks:Da Key}(ok:iL P w H h)(e:H a=some (.tup (ks.map kV))):(tupleKind (dw P w)).is h ks a:=by
 obtain⟨_,Bi,r,o,h1,h2,n,h3⟩:=(show d8 P w H h a (.tup (ks.map kV))from ok a _ e)
 exact⟨o,Bi.toArray,n,h1,h2,h3,by simpa using Ju r⟩
def Cu{Ap:Da (Da Key×V)}(ok:iL P w H h)(e:Rd H a (.dT Ap)):Ap.length<=sizeLine/\(a==sysModules)=false/\∃xs,KT H Ap xs/\h.DictOfH (tupleKind (dw P w)) a xs:=by
 obtain⟨z,y,xs,r,o,es,ep,h1,h2,h3,h4,h5⟩:=(show d8 P w H h a (.dT Ap)from Zq ok e)
 refine⟨z,y,xs,r,o,es,ep,h1,h2,h3,h4,λx hx=>?_,h5⟩;have all:∀{l:Da (Da Key×V)}{m:Da (Da Key×Addr×Value)},KT H l m->∀x∈m,(tupleKind (dw P w)).is h x.1 x.2.1:=by
  intro l m q
  induction q with
  | nil=>intro x hx;exact nomatch hx
  | @cons p q ps qs hq t ih=>
   intro x hx;rcases c_.mp hx with e|hx
   .subst e;exact AV ok (by rw[<-hq.1];exact hq.2.1)
   .exact ih x hx
 exact all r x hx
def afI{Ap:Da (Da Key×V)}(ok:iL P w H h)(e:H a=some (.dT Ap)):Ap.length<=sizeLine/\(a==sysModules)=false/\∃xs,KT H Ap xs/\h.DictOfH (tupleKind (dw P w)) a xs:=Cu ok (.inl e)
end
def cE(H:Hp)(a:Addr)(y:V)(r:Option V):Prop:=(∃Ap k,Rd H a (.dK Ap)/\y=kV k/\r=eV Ap k)\/∃Ap k b,Rd H a (.dT Ap)/\y =.ref b/\H b=some (.tup (k.map kV))/\r=eV Ap k
def um(H:Hp)(a:Addr)(y v:V)(H':Hp):Prop:=(∃Ap k,H a=some (.dK Ap)/\y=kV k/\Ap.length<sizeLine/\H'=upd H a (.dK (putK Ap k v)))\/
 ∃Ap k b,H a=some (.dT Ap)/\y =.ref b/\H b=some (.tup (k.map kV))/\Ap.length<sizeLine/\H'=upd H a (.dT (putK Ap k v))
variable {a:Addr}
theorem cE.k{k:Key}(e:H a=some (.dK Ap)):cE H a (kV k) (eV Ap k):=.inl ⟨Ap,k,.inl e,Z,Z⟩
theorem um.k{k:Key}{v:V}(e:H a=some (.dK Ap))(hl:Ap.length<sizeLine):um H a (kV k) v (upd H a (.dK (putK Ap k v))):=.inl ⟨Ap,k,e,Z,hl,Z⟩
variable {h':Heap}{Q:Unit->Shared->Prop}
section
variable {X:Cx}{AT:AO}{σ:St}{H:Hp}{s:Shared}{a:Addr}{y v:V}{u r:Value}{o:Option V}{A:Around}{E:VS}
def Inv.big(I:Inv X AT σ H s):sysModules<s.heap.objs.size:=by have h:mainGlobals<s.heap.objs.size:=(I.mod.glob.keeps I.bk).lt;exact Nat.lt_trans (by decide) h
def U1{Q:VS}(hu:A.units+1<cLine)(I:Inv X AT σ H s)(g:cE H a y (some v))(ry:RelV y u)(h:∀w' s',Inv X AT σ H s'->RelV v w'->Q w' s'):wpAny (model X.prog X.w) A (getItem (.ref a) u) Q E s:=by
 rcases g with⟨Ap,k,e,ey,l⟩|⟨Ap,k,b,e,ey,eb,l⟩
 .subst ey;obtain⟨z,hd,vs,rel,dd⟩:=s_ I.hok e;obtain⟨w',hw,rw'⟩:=n_.some_of (v:=v) (o:=valueAt vs k) (by rw[l];exact rel.val k);exact wpAny_getItem_of (zN ry) dd.mapOf hw (h w' _ (I.tok _) rw')
 .subst ey;cases(show u=Value.ref b from ry);obtain⟨z,hd,xs,rel,dd⟩:=Cu I.hok e;obtain⟨w',hw,rw'⟩:=n_.some_of (v:=v) (o:=(atKey xs k).map (·.2)) (by rw[l];exact rel.val k);obtain⟨p,hp,hp2⟩:=mH.mp hw;refine wpAny_getItem_heap (Sn hu) (AV I.hok eb) dd hp ?_;rw[hp2];exact h w' _ (I.tok _) rw'
def ai8{Q:VS}(hu:A.units+1<cLine)(I:Inv X AT σ H s)(g:cE H a y o)(ry:RelV y u)(h:∀s',Inv X AT σ H s'->Q (.bool o.isSome) s'):wpAny (model X.prog X.w) A (compareOp .In u (.ref a)) Q E s:=by
 rcases g with⟨Ap,k,e,ey,l⟩|⟨Ap,k,b,e,ey,eb,l⟩
 .subst ey;obtain⟨z,hd,vs,rel,dd⟩:=s_ I.hok e;refine wpAny_in_of (zN ry) hd dd.mapOf ?_;rw[<-(rel.val k).qb,<-l];exact h _ (I.tok _)
 .subst ey;cases(show u=Value.ref b from ry);obtain⟨z,hd,xs,rel,dd⟩:=Cu I.hok e;refine wpAny_in_heap (Sn hu) (AV I.hok eb) hd dd ?_;have q:=(rel.val k).qb;rw[Sw]at q;rw[<-q,<-l];exact h _ (I.tok _)
def aat{Q:VS}(hu:A.units+1<cLine)(I:Inv X AT σ H s)(g:cE H a y o)(ry:RelV y u)(h:∀s',Inv X AT σ H s'->Q (.bool (!o.isSome)) s'):wpAny (model X.prog X.w) A (compareOp .NotIn u (.ref a)) Q E s:=by
 rcases g with⟨Ap,k,e,ey,l⟩|⟨Ap,k,b,e,ey,eb,l⟩
 .subst ey;obtain⟨z,hd,vs,rel,dd⟩:=s_ I.hok e;refine wpAny_notIn_of (zN ry) hd dd.mapOf ?_;rw[<-(rel.val k).qb,<-l];exact h _ (I.tok _)
 .subst ey;cases(show u=Value.ref b from ry);obtain⟨z,hd,xs,rel,dd⟩:=Cu I.hok e;refine wpAny_notIn_heap (Sn hu) (AV I.hok eb) hd dd ?_;have q:=(rel.val k).qb;rw[Sw]at q;rw[<-q,<-l];exact h _ (I.tok _)
def Cv(I:Inv X AT σ H s)(mu:Ux (H a))(hs:Heap.SameBut a s.heap h')(he:∃q,h'.get? a=some q)(new:d8 X.prog X.w (upd H a ob) h' a ob):Inv X AT σ (upd H a ob) { s with heap:=h',toks:=t' }:=I.write (x:=a) (e:=a) mu (.inl rfl) (λb q hb z=>(hs.2 b hb).trans z) he new
def Mg{vs:Da (Key×Value)}(z:Ap.length<=sizeLine)(hd:(a==sysModules)=false)(rel:KV Ap vs)(dd:h'.DictOf (dw P w) a vs):d8 P w H' h' a (.dK Ap):=⟨z,hd,vs,rel,dd⟩
theorem U3(hu:A.units+1<cLine)(I:Inv X AT σ H s)(g:um H a y v H')(ry:RelV y u)(rv:RelV v r)(h:∀s',Inv X AT σ H' s'->Q () s'):wpAny (model X.prog X.w) A (setItem (.ref a) u r) Q E s:=by
 rcases g with⟨Ap,k,e,ey,l,eH⟩|⟨Ap,k,b,e,ey,eb,l,eH⟩
 .subst ey eH;obtain⟨z,hd,vs,rel,dd⟩:=E6 I.hok e;have hz:vs.length<=sizeLine:=by rw[<-rel.length];exact z
  have hl:(putK Ap k v).length<=sizeLine:=by have:=xY Ap k v;omega
  refine wpAny_setItem_pairs (hsz:=hz) (zN ry) dd λh' Df hs=>h _ ?_;have he:∃q,h'.get? a=some q:=let⟨q,_,_,hq,_⟩:=Df;⟨q,hq⟩;exact Cv I (by rw[e];exact True.intro) hs he (Mg hl hd (rel.put k rv) Df)
 .subst ey eH;cases(show u=Value.ref b from ry);obtain⟨z,hd,xs,rel,dd⟩:=afI I.hok e;have hz:xs.length<=sizeLine:=by rw[<-Paired.length rel];exact z
  have hl:(putK Ap k v).length<=sizeLine:=by have:=xY Ap k v;omega
  refine wpAny_setItem_heap (hsz:=hz) (Sn hu) (AV I.hok eb) dd λh' Df hs=>h _ ?_;obtain⟨q,es,ep,hq,h2,h3,h4,_,h5⟩:=Df;refine Cv I (by rw[e];exact True.intro) hs ⟨q,hq⟩ ⟨hl,hd,_,(rel.put k eb rv).keeps λc ys ec=>?_,q,es,ep,hq,h2,h3,h4,h5⟩;rw[av (jL ec e (λz=>nomatch z))];exact ec
end
section
variable {X:Cx}{AT:AO}{σ:St}{H:Hp}{s:Shared}{a:Addr}{Ap:Da (Key×V)}{k:Key}{u:Value}{A:Around}{E:VS}
def U4(I:Inv X AT σ H s)(e:H a=some (.dK Ap))(ry:RelV (kV k) u)(l:(eV Ap k).isSome=true)(h:∀s',Inv X AT σ (upd H a (.dK (nP Ap k))) s'->Q () s'):wpAny (model X.prog X.w) A (delItem (.ref a) u) Q E s:=by
 obtain⟨z,hd,vs,rel,dd⟩:=E6 I.hok e;refine wpAny_delItem_slot dd.typeIs (by decide) PySem.F.slot_dict_delitem
  (call_meetsIn PySem.F.slot_dict_delitem dd.typeIs PySem.F.entry_dict_delitem (PySem.F.args_dict_delitem_2 _ _) (meets_dict_delitem_pairs (dw X.prog X.w) a (zN ry)) ⟨vs,dd,by rw[<-rel.length];exact z,by rw[<-(rel.val k).qb];exact l,λh' Df hs=>h _ ?_⟩)
 have he:∃q,h'.get? a=some q:=let⟨q,_,_,hq,_⟩:=Df;⟨q,hq⟩;exact Cv I (by rw[e];exact True.intro) hs he (Mg (fZ (XH Ap k) z) hd (rel.drop k) Df)
theorem afJ{Q:VS}(I:Inv X AT σ H s)(e:Rd H a (.dK Ap))(h:∀t s',Inv X AT σ H s'->Q (.int Ap.length t) s'):wpAny (model X.prog X.w) A (call (.builtin "len") [.ref a]) Q E s:=by obtain⟨z,hd,vs,rel,dd⟩:=s_ I.hok e;refine call_len_dict hd dd (by rw[<-rel.length];rw[gy]at z;omega) ?_;rw[<-rel.length];exact h _ _ (I.tok _)
end
def acM(i:Expr):Prop:=∀ov iv,subscripted i false ov iv=operate [ov,iv] (getItem ov iv)
variable {E:VS}{env:Env}{value:Expr}{pos:Pos}{id:String}
theorem aau{prog:Program}{slice:Expr}{T:String}{Q:VS}(hl:typeLookup (.type T) "__getitem__"=pure (some (.builtin id)))(hs:acM slice)(h:wpAny (model prog w) A (eval value env) (λo s₁=>wpAny (model prog w) A (eval slice env) (λi s₂=>s₂.TypeIs o T/\wpAny (model prog w) A (getItem o i) Q E s₂) E s₁) E s):
  wpAny (model prog w) A (eval (.Subscript value slice pos) env) Q E s:=by
 refine Subscript_ (iM h (λo s₁ h₁=>iM h₁ (λi s₂ h₂=>?_) λ_ _ x=>x) λ_ _ x=>x)
 obtain⟨hT,h₂⟩:=h₂
 unfold subscriptTail
 refine au ?_
 rw[getitemInPython_of_ne hT.not_modules]
 refine au (wpAny_specialOf hT hl ?_)
 have fin:wpAny (model prog w) A (subscripted slice false o i) (λr s₃=>wpAny (model prog w) A (letTemporaryGo value o r >>= λ_=>pure r) Q E s₃) E s₂:=by rw[hs o i];exact wpAny_operating (iM h₂ (λr s₃ h₃=>au (wpAny_letTemporaryGo (aW h₃))) λ_ _ x=>x)
 first
  | exact aW (au fin)
  | exact au (aW (au fin))
  | exact au fin
variable {X:Cx}
def O_{o:Option V}(I:Inv X AT σ H s)(g:cE H a y o):s.TypeIs (.ref a) "dict":=by
 rcases g with⟨Ap,k,e,_,_⟩|⟨Ap,k,b,e,_,_,_⟩
 .obtain ⟨_,_,vs,_,dd⟩:=s_ I.hok e;exact dd.typeIs
 .obtain ⟨_,_,xs,_,dd⟩:=Cu I.hok e;exact dd.typeIs
inductive XI(Q:VK)(x:V)(y:V)(H2:Hp):Prop
 |mk(a v:_)(_:x =.ref a)(_:cE H2 a y (some v))(_:Q v H2)
def acN(ty:TE)(σ:St)(Q:VK):V->Hp->Prop:=λx H1=>ty σ H1 (XI Q x)
def Zr(td ty:TE):TE:=λσ H Q=>td σ H (acN ty σ Q)
inductive aav(Q:VK)(y:V)(x:V)(H2:Hp):Prop
 |mk(a o:_)(_:x =.ref a)(_:cE H2 a y o)(_:Q (.bl o.isSome) H2)
def afK(td:TE)(σ:St)(Q:VK):V->Hp->Prop:=λy H1=>td σ H1 (aav Q y)
def ai9(ty td:TE):TE:=λσ H Q=>ty σ H (afK td σ Q)
inductive SS(Q:VK)(y:V)(x:V)(H2:Hp):Prop
 |mk(a o:_)(_:x =.ref a)(_:cE H2 a y o)(_:Q (.bl (!o.isSome)) H2)
def XJ(td:TE)(σ:St)(Q:VK):V->Hp->Prop:=λy H1=>td σ H1 (SS Q y)
def aaw(ty td:TE):TE:=λσ H Q=>ty σ H (XJ td σ Q)
inductive XM(D:Ends)(σ:St)(v:V)(x:V)(y:V)(H3:Hp):Prop
 |mk(a H4:_)(_:x =.ref a)(_:um H3 a y v H4)(_:D.nx σ H4)
def XO(ty:TE)(D:Ends)(σ:St)(v:V):V->Hp->Prop:=λx H2=>ty σ H2 (XM D σ v x)
def acO(td:TE)(ty:TE)(D:Ends)(σ:St):V->Hp->Prop:=λv H1=>td σ H1 (XO ty D σ v)
def afL(td ty tv:TE):TS:=λD σ H=>tv σ H (acO td ty D σ)
inductive XQ(D:Ends)(σ:St)(x:V)(y:V)(H2:Hp):Prop
 |mk(a Ap k:_)(_:x =.ref a)(_:H2 a=some (.dK Ap))(_:y=kV k)(_:(eV Ap k).isSome=true)(_:D.nx σ (upd H2 a (.dK (nP Ap k))))
def acP(ty:TE)(D:Ends)(σ:St):V->Hp->Prop:=λx H1=>ty σ H1 (XQ D σ x)
def afM(td ty:TE):TS:=λD σ H=>td σ H (acP ty D σ)
section
variable {X:Cx}{o i e value:Expr}{pos pos' tpos:Pos}{td ty tv:TE}
end
def Mh(h:Heap)(hb:sysModules<h.objs.size):d8 P w H (h.push { cls:=.type "dict",data:=.dict #[] }) h.objs.size (.dK []):=⟨fD _,Hr.mpr (cD (eO hb)),[],.nil,Heap.DictOf.new h⟩
def acQ:TE:=λ_ H Q=>∀p,H p=none->Q (.ref p) (upd H p (.dK []))
section
variable {X:Cx}{pos:Pos}
end
noncomputable def AW:Da (TE×TE)->St->Hp->(Da (V×V)->Hp->Prop)->Prop
 | [],_,H,Q=>Q [] H
 | (tk,tv)::r,σ,H,Q=>tk σ H λx H1=>tv σ H1 λy H2=>AW r σ H2 λps H3=>Q ((x,y)::ps) H3
abbrev VV:Da (V×V)->Da (Value×Value)->Prop:=Paired λp q=>RelV p.1 q.1/\RelV p.2 q.2
def PPs(X:Cx)(pos:Pos)(keys:Da (Option Expr))(values:Da Expr)(E7:Da (TE×TE)):Prop:=∀(AT:AO)(s:Shared)(σ:St)(H:Hp)(Q:Da (V×V)->Hp->Prop),Inv X AT σ H s->AW E7 σ H Q->wpAny (model X.prog X.w) X.A (evalPairs (pairTrees keys values X.env pos)) (λvs s'=>∃ps H',Inv X AT σ H' s'/\VV ps vs/\Q ps H') X.xe s
noncomputable def yv(Ap more:Da (Key×V)):Da (Key×V):=more.foldl (λBM kv=>putK BM kv.1 kv.2) Ap
def KV.merge:∀{more:Da (Key×V)}{rs:Da (Key×Value)}{Ap:Da (Key×V)}{vs:Da (Key×Value)},KV more rs->KV Ap vs->KV (yv Ap more) (merged vs rs):=by
 intro more rs Ap vs r;unfold KV at r
 induction r generalizing Ap vs with
 | nil=>intro q;exact q
 | @cons p q ps qs h t ih=>
  intro r0;have e:KV (putK Ap p.1 p.2) (stored vs q.1 q.2):=by have:=r0.put p.1 h.2;rw[<-h.1];exact this
  exact ih e
theorem AA:∀(more Ap:Da (Key×V)),(yv Ap more).length<=Ap.length+more.length
 | [],Ap=>by show Ap.length<=Ap.length+0;omega
 | p::r,Ap=>by have h1:=AA r (putK Ap p.1 p.2);have h2:=xY Ap p.1 p.2;show(yv (putK Ap p.1 p.2) r).length<=_;rw[jm];omega
theorem E8{P:Program}{w:World}:∀{Ap:Da (Key×V)}{ws:Da (Value×Value)},VV (Ap.map λkv=>(kV kv.1,kv.2)) ws->∃rs,Carries (dw P w) ws rs/\KV Ap rs
 | [],_,r=>by rw[List.map_nil]at r;cases r;exact⟨[],True.intro,.nil⟩
 | p::Ap,_,r=>by
  rw[bP]at r;cases r with
  | @cons a b as bs h t=>obtain⟨rs,c,q⟩:=E8 (P:=P) (w:=w) t;obtain⟨b1,b2⟩:=b;exact⟨(p.1,b2)::rs,⟨zN h.1,Z,c⟩,.cons ⟨Z,h.2⟩ q⟩
def afN(E7:Da (TE×TE)):TE:=λσ H Q=>∀p,H p=none->AW E7 σ (upd H p (.dK [])) λps H2=>H2 p=some (.dK [])/\∃Ap:Da (Key×V),ps=Ap.map (λkv=>(kV kv.1,kv.2))/\Ap.length<=15/\Q (.ref p) (upd H2 p (.dK (yv [] Ap)))
def IsD(H:Hp)(a:Addr):Prop:=(∃Ap,Rd H a (.dK Ap))\/∃Ap,Rd H a (.dT Ap)
def Mi(I:Inv X AT σ H s)(d:IsD H a):s.TypeIs (.ref a) "dict"/\(∀b,Value.ref a =.ref b->∃ob,s.heap.get? b=some ob/\ob.dict=none)/\(a==sysModules)=false:=by
 rcases d with⟨Ap,e⟩|⟨Ap,e⟩
 .obtain ⟨_,hd,vs,_,dd⟩:=s_ I.hok e;refine⟨dd.typeIs,λb q=>?_,hd⟩;cases q;obtain⟨ob,_,_,h1,h2,_⟩:=dd;exact⟨ob,h1,h2.2.1⟩
 .obtain ⟨_,hd,xs,_,dd⟩:=Cu I.hok e;refine⟨dd.typeIs,λb q=>?_,hd⟩;cases q;obtain⟨ob,_,_,h1,h2,_⟩:=dd;exact⟨ob,h1,h2.2.1⟩
section
variable {X:Cx}{AT:AO}{σ:St}{H:Hp}{s:Shared}{a:Addr}{y d:V}{u r:Value}{o:Option V}{A:Around}{E:VS}
end
section
variable {X:Cx}{o e f:Expr}{B2 cpos:Pos}{td ty tx:TE}
end
section
variable {X:Cx}{AT:AO}{σ:St}{H:Hp}{s:Shared}{a:Addr}{Ap:Da (Key×V)}{A:Around}{E:VS}
end
section
variable {X:Cx}{AT:AO}{σ:St}{H:Hp}{s:Shared}{a:Addr}{y:V}{u:Value}{A:Around}{E:VS}
end
end L2
namespace Att
open PySem PySem.W PySem.Calls PyProof.Rows
def E9{P:Params}{h:Heap}:∀(ns:Da Int)(vs:Da Value),WellAll P h vs (ns.map WData.int)->IntsAre vs ns:=by
 intro ns
 induction ns with
 | nil=>intro vs w;rw[List.map_nil]at w;cases w;exact .nil
 | cons n ns ih=>
  intro vs w;rw[bP]at w;cases w with
  | cons a b=>cases a;exact .cons _ _ (ih _ b)
theorem U5{l:OpenLaw}{n:Nat}(hn:l.most=some n){P:Params}{h:Heap}{args:Da WData}{vals:Da Value}(hpre:l.row.toRowW.claim.pre args=true)(hwl:WellAll P h vals args):
  ∃a vs ns,vals=[Value.ref a]/\args=[WData.list (ns.map WData.int)]/\h.get? a=some { cls:=.type "list",data:=.seq vs.toArray }/\IntsAre vs ns/\ns.length<=n:=by
 have hsh:WShape.hasAll [] args [.list .int]=true:=(pre_splitW hpre).1
 have hc:l.pre.holds [] { args:=args }=true:=(pre_splitW hpre).2
 obtain⟨d,r,rfl,h1,h2⟩:=hasAllW_cons hsh
 obtain rfl:=hasAllW_nil h2
 obtain⟨xs,rfl,h3⟩:=hasW_list h1
 obtain⟨ns,rfl⟩:=items_int h3
 have hlen:ns.length<=n:=by
  unfold OpenLaw.pre at hc;have h4:(WTm.not (.lt (.lit (.int (n:Int))) (.len (.arg 0)))).holds [] { args:=[.list (ns.map .int)] }=true:=by have h4:=(holds_andW hc).1;rw[hn]at h4;exact h4
  have h5:=condW_of h4 (w_not (w_lt w_lit (w_len_list (w_arg rfl))));rw[aD]at h5;refine Nat.le_of_not_lt λq=>?_;have q':(n:Int)<((ns.length:Nat):Int):=by omega
  first
   | (rw[cy q']at h5;exact absurd h5 (by decide))
   | (simp at h5;omega)
 cases hwl with
 | cons w1 w2=>
   cases w2
   cases w1 with
   | list ho hall=>exact⟨_,_,ns,Z,Z,ho,E9 ns _ hall,hlen⟩
def U6(l:OpenLaw)(args:Da WData):l.row.toRowW.claim.post args (.bool true) args=true:=postW_of (r:=l.row.toRowW) (X:=(true==true))
  (show WShape.has [] (.bool true) .bool=true by first|rfl|decide|simp[WShape.has,WShape.arms,WShape.armsAll])
  (show(WTm.eq .res (.lit (.bool true))).value [] { args:=args,res:=some (.bool true),after:=args }=some (.bool (true==true))from w_eq_bool (w_res rfl) w_lit) rfl
def Pa{l:OpenLaw}{n:Nat}{q:Program}{loose:Da Str}{XP:(Str->Option Value)->Heap->Prop}{YP:World->Heap->Prop}{d:DefRec}(hn:l.most=some n)(hdf:d.params.defaults=[])(call:∀(w:World) (s₀ s₁:Shared) (mg mb:SO) (fa:Addr) (o:Obj) (pm cd doc:Value) (a:Addr) (vs:Da Value) (ns:Da Int),
    Ground q loose [] XP w s₀ mg mb s₁.heap->YP w s₁.heap->
    s₁.heap.get? fa=some o->o.data =.func (docDef d.name d.params d.body d.scope pm cd doc)->s₁.heap.CodeRec cd d.name->mg d.name=some (.ref fa)->
    s₁.heap.get? a=some { cls:=.type "list",data:=.seq vs.toArray }->IntsAre vs ns->ns.length<=n->s₁.gens=#[]->
    codeAny (model l.prog w) callerA (.call (.ref fa) ⟨[.ref a],[]⟩) (λr s'=>r =.ok (.ret (.bool true))/\OldK s₁.heap s'.heap/\s'.os=s₁.os/\AllBare s'.gens) s₁):
  WalkO q loose XP YP l.row.toRowW d [] (λf vs=>PySem.call f vs):=by
 intro w s₀ s₁ mg mb G Y fa o pm cd doc dV kV ho hd hcd hD hmg hg args vals as hpre hlay hrd hwl hlo
 obtain rfl:dV =.none:=Dflts.none hD hdf
 obtain rfl:kV =.none:=Dflts.noKw hD
 obtain⟨a,vs,ns,rfl,rfl,hobj,hints,hlen⟩:=U5 hn hpre hwl
 refine enter_call (Ck (call w s₀ s₁ mg mb fa o pm cd doc a vs ns G Y ho (fd_plain hd) hcd hmg hobj hints hlen hg) λr s' hq=>?_)
 obtain⟨rfl,h2,h3,h4⟩:=hq
 exact⟨.inl ⟨.bool true,.bool true,[],Z,λ_=>rfl,.bool true,U6 l _,λ_=>⟨List.Pairwise.nil,λ_ hm=>(nomatch hm)⟩⟩,h2,h3,h4⟩
section
variable {prog:Program}{w:World}{A:Around}{E:VS}{s:Shared}{K:Frag}
end
end Att
namespace L2
open PySem PySem.Spec PyProof.Rows
theorem Jv:∀{vs:Da Value}{ns:Da Int},IntsAre vs ns->Vals (ns.map V.int) vs
 | _,_,.nil=> .nil
 | _,_,.cons n t h=> .cons ⟨t,Z⟩ (Jv h)
def XR(H:Hp):Prop:=∀b,H b=none\/∃o xs,H b=some (.fY o (.lst xs))
variable {P:Program}{w:World}{K:Fg}{mg:SO}{CX:Ax}{a:Addr}{fd:FuncData}{x:Str}{sp:Sp}{ns:Da Int}
def XS{mb:SO}{k:Nat}{fa:Addr}{s₁:Shared}{vs:Da Value}(KX:K.In s₁.heap)(hns:s₁.heap.Ns mainGlobals mg)(hb:s₁.heap.Ns builtinsNs mb)(hbb:∀x:Str,x ≠ "__name__"->mb x=bootBuiltins x)(hlim:s₁.heap.NoLimit)(hg:s₁.gens=#[])(ha:s₁.heap.get? a=some { cls:=.type "list",data:=.seq vs.toArray })(hi:IntsAre vs ns)(hl:ns.length<=sizeLine)(hr:dR k callerA)(F:∀base:Heap,K.In base->base.Ns mainGlobals mg->je P w K mg base CX k fa fd [x] sp)(hbind:∀(s:Shared) (u:Value),BindsTo s fd ⟨[u],[]⟩ [(x,u)])(qB:∀H:Hp,XR H->az K H a (ns.map V.int)->sp [.ref a] H (λv _=>v =.bl true) λ_ _ _=>False)(hCX:∀H e s',CX [] H s₁ (λ_ _ _=>False) e s'->False):
  codeAny (model P w) callerA (.call (.ref fa) ⟨[.ref a],[]⟩) (λr s'=>r =.ok (.ret (.bool true))/\OldK s₁.heap s'.heap/\s'.os=s₁.os/\AllBare s'.gens) s₁:=by
 have rv:=Jv hi
 have ai_:=hi.length
 have core:∀H:Hp,XR H->az K H a (ns.map V.int)->iL P w H s₁.heap->(∀b,H b≠none->b=a)->(H a≠none->K.lookup a=none)->
   codeAny (model P w) callerA (.call (.ref fa) ⟨[.ref a],[]⟩) (λr s'=>r =.ok (.ret (.bool true))/\OldK s₁.heap s'.heap/\s'.os=s₁.os/\AllBare s'.gens) s₁:=by
  intro H hO hS hok hA hK
  have QZ:∀{b:Addr}{o:Obj},s₁.heap.get? b=some o->H b=none->(zJ s₁.heap H).get? b=some o:=λe n=>Xi e n
  have UT:∀{b:Addr}{o:Obj}{es:Array DictEntry}{ep:Nat},s₁.heap.get? b=some o->o.data =.dict es ep->H b=none:=λ{b o es ep} e d=>by
   cases q:H b with
   | none=>rfl
   | some u=>have e':b=a:=hA b (by rw[q];simp);subst e';rw[ha]at e;cases e;have d':Data.seq vs.toArray _=Data.dict es ep:=d;cases d'
  have Zs:∀{b:Addr}{m:SO},s₁.heap.Ns b m->(zJ s₁.heap H).Ns b m:=λ{b m} ⟨o,es,ep,e,d,r⟩=>⟨o,es,ep,QZ e (UT e d),d,r⟩
  have hKb:K.In (zJ s₁.heap H):=λb o e=>QZ (KX b o e) (by
   cases q:H b with
   | none=>rfl
   | some u=>have e':b=a:=hA b (by rw[q];simp);subst e';rw[hK (by rw[q];simp)]at e;cases e)
  have hM:Mod K mg (zJ s₁.heap H):=⟨hKb,Zs hns,⟨mb,Zs hb,hbb⟩,let⟨mc,h1,h2⟩:=hlim;⟨mc,Zs h1,h2⟩⟩
  have e0:DP P w K mg (zJ s₁.heap H) callerA [] s₁ H:=⟨Z,hM,λb o e=>aaf e,Nat.le_of_eq (Uy _ _),trivial,λb hb=>absurd (show b∈([] :Da Addr)from hb) (by simp),hok,.of_eq hg⟩
  refine Ck ((F _ hKb (Zs hns)).run callerA [] s₁ H ⟨[.ref a],[]⟩ [.ref a] [.ref a] _ _ hr e0 (hbind s₁ (.ref a)) (.cons rfl .nil) (qB H hO hS)) λr s' h=>?_
  cases r with
  | error e=>exact(hCX H e s' h).elim
  | ok fl=>
    cases fl with
    | next=>exact False.elim h
    | brk=>exact False.elim h
    | cont=>exact False.elim h
    | ret u=>
      obtain⟨v,H',os,bare,un,aja,r',q⟩:=h
      have q':v =.bl true:=q
      subst q'
      obtain rfl:u=Value.bool true:=r'
      refine⟨Z,OldK.of_keep λb o e=>?_,os,bare⟩
      cases q:H b with
      | none=>exact un.keep b o e q (by intro z;exact absurd (show b∈([] :Da Addr)from z) (by simp)) (by simp)
      | some u=>
        rcases hO b with z|⟨ob,xs,z⟩
        . rw[q]at z;cases z
        . have z2:=un.oh b ob _ z
          obtain⟨e1,_⟩:=hok b _ z
          obtain⟨e2,_⟩:=aja b _ z2
          rw[e]at e1;cases e1
          exact e2
 cases hk:K.lookup a with
 | some o=>
   have e:=KX a o hk
   rw[ha]at e
   cases e
   refine core (λ_=>none) (λ_=> .inl rfl) (.inr ⟨_,vs.toArray,_,hk,Z,Z,Z,by rw[jc,ai_];exact hl,by simpa using rv⟩) (λb u z=>by have z':(none:Option HO)=some u:=z;cases z') (λb z=>absurd rfl z) λz=>absurd rfl z
 | none=>
   refine core (λb=>if b=a then some (.fY { cls:=.type "list",data:=.seq vs.toArray } (.lst (ns.map V.int))) else none) (λb=>?_) (.inl (.inr ⟨{ cls:=.type "list",data:=.seq vs.toArray },aC rfl⟩)) (λb u z=>?_) (λb z=>?_) λ_=>hk
   . by_cases hb:b=a
     . exact .inr ⟨_,_,aC hb⟩
     . exact .inl (aB hb)
   . by_cases hb:b=a
     . have z':=(aC hb).symm.trans z
       cases z'
       subst hb
       exact⟨ha,by rw[aD];exact hl,vs,_,rv,ha⟩
     . have z':=(aB hb).symm.trans z
       cases z'
   . by_cases hb:b=a
     . exact hb
     . exact absurd (aB hb) z
variable {n:Nat}{XP:(Str->Option Value)->Heap->Prop}{YP:World->Heap->Prop}
def aax{l:PySem.W.OpenLaw}{k:Nat}{q:Program}{loose:Da Str}{d:DefRec}{K:Params->Fg}{CX:World->Ax}{sp:World->Sp}(hn:l.most=some n)(hn2:n<=sizeLine)(hdf:d.params.defaults=[])(hr:dR k callerA)(hY:∀(w:World) (h:Heap),YP w h->(K w.params).In h)(F:∀(w:World) (mg:SO) (fa:Addr) (h:Heap),(K w.params).In h->h.Ns mainGlobals mg->mg d.name=some (.ref fa)->
    ∃fd:FuncData,(∀(s:Shared) (u:Value),BindsTo s fd ⟨[u],[]⟩ [(x,u)])/\
     ∀base:Heap,(K w.params).In base->base.Ns mainGlobals mg->je l.prog w (K w.params) mg base (CX w) k fa fd [x] (sp w))(qB:∀(w:World) (H:Hp) (a:Addr) (ns:Da Int),ns.length<=n->XR H->az (K w.params) H a (ns.map V.int)->sp w [.ref a] H (λv _=>v =.bl true) λ_ _ _=>False)(hCX:∀(w:World) (H:Hp) (s:Shared) (e:Value) (s':Shared),CX w [] H s (λ_ _ _=>False) e s'->False):
  PySem.W.WalkO q loose XP YP l.row.toRowW d [] (λf vs=>PySem.call f vs):=by
 refine Att.Pa hn hdf λw s₀ s₁ mg mb fa o pm cd doc a vs ns G Y ho hd hcd hmg hobj hints hlen hg=>?_
 have KX:=hY w _ Y
 obtain⟨fd,hb,hF⟩:=F w mg fa _ KX G.T.g hmg
 exact XS KX G.T.g G.T.b G.T.builtins G.T.nolimit hg hobj hints (fZ hlen hn2) hr hF hb (λH hO hS=>qB w H a ns hlen hO hS) λH e s'=>hCX w H s₁ e s'
noncomputable def inClass(s:Stmt)(j:Nat):Stmt:=match s with
 | .ClassDef _ _ _ body _ _ _ _ _ _ _=>body.getD j (.Pass ⟨0,0,0,0⟩)
 | _=> .Pass ⟨0,0,0,0⟩
noncomputable def fh(s:Stmt):Arguments:=match s with
 | .FunctionDef _ a _ _ _ _ _ _ _ _=>a
 | _=>{ posonlyargs:=[],args:=[],vararg:=none,kwonlyargs:=[],kw_defaults:=[],kwarg:=none,defaults:=[] }
noncomputable def cU(s:Stmt):Da Stmt:=match s with
 | .FunctionDef _ _ b _ _ _ _ _ _ _=>b
 | _=>[]
noncomputable def ay(s:Stmt):Scope:=match s with
 | .FunctionDef _ _ _ _ _ _ sc _ _ _=>sc
 | _=>{ kind:=.function,names:=[],isGenerator:=false,isCoroutine:=false }
abbrev uV:Ax:=λ_ _ _ _ _ _=>False
abbrev E0:XK:=λ_ _ _=>False
structure Jw(K:Fg)(x qual:Str)(st:Stmt)(f:Addr)(fd:FuncData):Prop where
 ex:∃(oc:Value)(od:Option Addr)(kV doc pm:Value)(an:Option Addr)(cdv ct:Value)(osl:Array (Option Value)),
  fd=PySem.W.fnOf x qual (fh st) (cU st) (ay st) .none kV doc pm an cdv ct/\K.lookup f=some ⟨oc,od,.func fd,osl⟩/\PySem.W.codeIn K cdv qual=true
 kp:PySem.W.keepIn K (.ref f)=true
variable {qual:Str}{f:Addr}{N ps:Da Str}{oc doc pm cdv ct:Value}{od an:Option Addr}{osl:Array (Option Value)}
section
variable {P:Program}{w:World}{K:Fg}{mg:SO}{base:Heap}
def Jw.ok{st:Stmt}{k:Nat}(F:Jw K x qual st f fd)(S:aJ N ps (ay st))(len:∀vs H Q E,sp vs H Q E->vs.length=ps.length)(Ch:∀(cdv:Value) (A:Around) (outer:Da Env) (s:Shared) (H:Hp) (vs:Da V) (Q:VK) (E:XK),dR k (A.deeper (envOfC qual (ay st) s.heap.objs.size f cdv))->sp vs H Q E->
    ∃t,rQ (cX uV P w K mg base N qual (ay st) f cdv A outer s H E).C9 (cU st) t/\t { nx:=λ_ H'=>Q .cu H',rt:=Q } (start N vs) H):je P w K mg base uV (k+1) f fd ps sp:=by
 obtain⟨oc,od,kV,doc,pm,an,cdv,ct,osl,rfl,lk,hcd⟩:=F.ex
 refine SQ lk hcd S len λA outer s H vs Q E hr qB=>?_
 obtain⟨t,h,q⟩:=Ch cdv A outer s H vs Q E hr qB
 exact⟨t,h.C9,q⟩
def Jw.binds{st:Stmt}(F:Jw K x qual st f fd)(h:∀(kV doc pm:Value) (an:Option Addr) (cdv ct:Value) (us:Da Value),us.length=ps.length->bindArgs (PySem.W.fnOf x qual (fh st) (cU st) (ay st) .none kV doc pm an cdv ct) ⟨us,[]⟩=pure (ps.zip us)):Binds K fd ps [] :=by
 obtain⟨oc,od,kV,doc,pm,an,cdv,ct,osl,rfl,lk,hcd⟩:=F.ex
 exact .all (h kV doc pm an cdv ct)
def Mj{st:Stmt}{kV:Value}(l:K.lookup f=some ⟨oc,od,.func (PySem.W.fnOf x qual (fh st) (cU st) (ay st) .none kV doc pm an cdv ct),osl⟩)(c:PySem.W.codeIn K cdv qual=true)(k:PySem.W.keepIn K (.ref f)=true):Jw K x qual st f (PySem.W.fnOf x qual (fh st) (cU st) (ay st) .none kV doc pm an cdv ct):=⟨⟨oc,od,kV,doc,pm,an,cdv,ct,osl,Z,l,c⟩,k⟩
end
variable {A:Around}
def bN{k:Nat}(hr:dR k A):A.units+1<cLine:=LN (Nat.add_le_add_left (by decide:1<=64) _) hr.units
def dU(h:n<=1000):n<sizeLine:=LN h (by decide)
section
variable {X:Cx}
end
def cA{A B:Prop}(h:B):if false=true then A else B:=by rw[aB gk];exact h
def jE{A B:Prop}(h:A):if true=true then A else B:=by rw[aC rfl];exact h
def dg{c A B:Prop}[Decidable c](h1:c->A)(h2:¬ c->B):if c then A else B:=by
 by_cases h:c
 .rw [aC h];exact h1 h
 .rw [aB h];exact h2 h
def aE(H H':Hp):Prop:=∀b o,H b=some o->H' b=some o
def aE.refl(H:Hp):aE H H:=λ_ _ h=>h
variable {H H1 H2:Hp}
def aE.trans(a:aE H H1)(b:aE H1 H2):aE H H2:=λc o h=>b c o (a c o h)
variable {H':Hp}
def aE.free(e:aE H H'){l:Addr}(h:H' l=Option.none):H l=Option.none:=by
 cases q:H l with
 | none=>rfl
 | some o=>rw[e l o q]at h;cases h
variable {xs:Da V}
def aE.seq(e:aE H H')(h:az K H a xs):az K H' a xs:=by
 rcases h with(h|⟨o,h⟩)|h
 .exact .inl (.inl (e _ _ h))
 .exact .inl (.inr ⟨o,e _ _ h⟩)
 .exact .inr h
section
variable {X:Cx}
def xy:iB X (.builtin "len") (λxs H Q=>∃a Ap,xs=[V.ref a]/\H a=some (.dK Ap)/\Q (.int Ap.length) H):=by intro AT s σ H xs us Q I r h;obtain⟨a,Ap,rfl,ha,q⟩:=h;obtain⟨u,rfl,ru⟩:=vals1 r;cases ru;exact afJ I (.inl ha) λt s' I'=>⟨.int Ap.length,H,I',⟨t,Z⟩,q⟩
end
section
variable {κ:Type}[DecidableEq κ]
def XT{Ap:Da (κ×V)}{k:κ}(h:eV Ap k=none):¬ k∈Ap.map (·.1):=by intro m;obtain⟨p,hp,e⟩:=bD.mp m;have q:(Ap.any λkv=>decide (kv.1=k))=true:=List.any_eq_true.mpr ⟨p,hp,cy e⟩;rw[rW,h]at q;exact absurd q (by simp)
theorem qc:∀{l:Da κ}{k:κ},l.Nodup->¬ k∈l->(l++[k]).Nodup
 | [],k,_,_=>by simp
 | a::r,k,h,hk=>by
  obtain⟨h1,h2⟩:=gO.mp h;show(a::(r++[k])).Nodup;refine gO.mpr ⟨λm=>?_,qc h2 λm=>hk (c_.mpr (Or.inr m))⟩;rcases fk.mp m with q|q
  .exact h1 q
  .exact hk (c_.mpr (Or.inl (eE.mp q).symm))
def aay{Ap:Da (κ×V)}{k:κ}(v:V)(hn:(Ap.map (·.1)).Nodup)(h:eV Ap k=none):((putK Ap k v).map (·.1)).Nodup:=by rw[pK v h,bw];exact qc hn (XT h)
end
end L2
set_option maxHeartbeats 4000000
namespace L2
open PySem PySem.Spec PyProof.Rows
variable {n:Nat}{K:Fg}
section
variable {X:Cx}
def Cw(_ j:Int):Prop:=0<j/\j.natAbs.log2<9000
theorem iF:ji X (binaryOp .FloorDiv) (rI Cw λi j=> .int (i / j)):=UE λi j _ _ _ _ _ hc q=>by have h1:(0:Int)<j:=hc.1;exact floordiv_int (by omega) (by rw[Int.fdiv_eq_ediv_of_nonneg i (by omega)];exact q) (.inl (PyProof.noPylong_of_log2 hc.2))
def AX{i j:Int}(h:(decide (0<j) && decide (j.natAbs.log2<9000))=true):Cw i j:=by obtain⟨a,b⟩:=mJ.mp h;exact⟨dH a,dH b⟩
theorem XU{i j:Int}(h0:0<j)(h:j<2 ^ n)(hn:n<=9000):Cw i j:=by
 refine⟨h0,?_⟩;have e:(j.natAbs:Int)=j:=by omega
 have h2:j.natAbs<2 ^ n:=by
  have:(j.natAbs:Int)<((2 ^ n:Nat):Int):=by rw[e];simpa using h
  exact Int.ofNat_lt.mp this
 have:=(Nat.log2_lt (n:=j.natAbs) (k:=n) (by omega)).mpr h2;omega
def SV(i j:Int):Prop:=∃m n:Nat,i.natAbs<2 ^ m/\j.natAbs<2 ^ n/\m+n<=134217728
def kU:ji X (binaryOp .Mult) (rI SV λi j=> .int (i*j)):=UE λ_ _ _ _ _ _ _ hc q=>by obtain⟨m,n,h1,h2,h3⟩:=hc;exact mul_int q (IntMulOk.of_le (Sg.mpr h1) (Sg.mpr h2) h3)
def Pb:iB X (.builtin "isinstance") (λxs H Q=>∃x n t b,xs=[x,.ty n]/\h_ X.K H x t/\PySem.W.kitOne X.K t (.type n)=some b/\Q (.bl b) H):=by intro AT s σ H xs us Q I r h;obtain⟨x,n,t,b,rfl,ty,e,q⟩:=h;obtain⟨u,w',rfl,ru,rw'⟩:=vals2 r;have rw2:w'=Value.type n:=rw';subst rw2;exact UP I ru ty e λtk=>⟨.bl b,H,I.tok _,Z,q⟩
def ia{n:String}:PySem.W.kitOne K (.type n) (.type n)=some true:=by unfold PySem.W.kitOne;rw[aC (zj _)]
def Ml:PySem.W.kitOne K (.type "int") (.type "bool")=some false:=by rfl
mutual
inductive Dt(K:Fg)(H:Hp):V->PyData->Prop
 | cu:Dt K H .cu .none
 | bl (b:Bool):Dt K H (.bl b) (.bool b)
 | int (i:Int):Dt K H (.int i) (.int i)
 | str (x:Str):Dt K H (.str x) (.str x)
 | lst {a:Addr} {xs:Da V} {ds:Da PyData}:az K H a xs->yw K H xs ds->Dt K H (.ref a) (.list ds)
 | tup {a:Addr} {xs:Da V} {ds:Da PyData}:cV K H a xs->yw K H xs ds->Dt K H (.ref a) (.tuple ds)
inductive yw(K:Fg)(H:Hp):Da V->Da PyData->Prop
 | nil:yw K H [] []
 | cons {x:V} {xs:Da V} {d:PyData} {ds:Da PyData}:Dt K H x d->yw K H xs ds->yw K H (x::xs) (d::ds)
end
section
variable {AT:AO}{σ:St}{H:Hp}{s:Shared}
mutual
theorem Dt.reads(I:Inv X AT σ H s):∀{x:V}{d:PyData}{u:Value},Dt X.K H x d->RelV x u->∃as,Reads s.heap u d as
 | _,_,u,.cu,r=>by cases(show u=Value.none from r);exact⟨_,.none⟩
 | _,_,u,.bl b,r=>by cases(show u=Value.bool b from r);exact⟨_,.bool b⟩
 | _,_,u,.int i,r=>by obtain⟨t,rfl⟩:=(show ∃t,u=Value.int i t from r);exact⟨_,.int i t⟩
 | _,_,u,.str x,r=>by obtain⟨t,rfl⟩:=(show ∃t,u=Value.str x t from r);exact⟨_,.str x t⟩
 | _,_,u,@Dt.lst _ _ a xs ds h hd,r=>by cases(show u=Value.ref a from r);obtain⟨Bi,rv,⟨o,n,e,c,_,d⟩,hz⟩:=I.list h;obtain⟨as,ra⟩:=yw.reads I hd rv;exact⟨_,.list e c d (by simpa using ra)⟩
 | _,_,u,@Dt.tup _ _ a xs ds h hd,r=>by cases(show u=Value.ref a from r);obtain⟨Bi,rv,⟨o,e,c,n,d⟩,hz⟩:=I.tuple h;obtain⟨as,ra⟩:=yw.reads I hd rv;exact⟨_,.tuple e c d (by simpa using ra)⟩
theorem yw.reads(I:Inv X AT σ H s):∀{xs:Da V}{ds:Da PyData}{us:Da Value},yw X.K H xs ds->Vals xs us->∃as,ReadsAll s.heap us ds as
 | _,_,_,.nil,.nil=>⟨_,.nil⟩
 | _,_,_,.cons h t,.cons r rs=>by obtain⟨as,ra⟩:=Dt.reads I h r;obtain⟨bs,rb⟩:=yw.reads I t rs;exact⟨_,.cons ra rb⟩
end
end
inductive XW(K:Fg)(x:V)(y:V)(H:Hp)(Q:VK):Prop
 |mk(d e:_)(_:Dt K H x d)(_:Dt K H y e)(_:SeqAt.shaped d=true)(_:SeqAt.shaped e=true)(_:Q (.bl (PyData.eqv d e)) H)
inductive SW(K:Fg)(x:V)(y:V)(H:Hp)(Q:VK):Prop
 |mk(d e:_)(_:Dt K H x d)(_:Dt K H y e)(_:SeqAt.shaped d=true)(_:SeqAt.shaped e=true)(_:Q (.bl (!PyData.eqv d e)) H)
def acS(hu:X.A.units+64<cLine):ji X (compareOp .Eq) (XW X.K):=by intro AT s σ H x y v u Q I rx ry h;obtain⟨d,e,hd,he,sd,se,q⟩:=h;obtain⟨as,ra⟩:=hd.reads I rx;obtain⟨bs,rb⟩:=he.reads I ry;exact eq_dataH ra rb sd se hu ⟨.bl _,H,I,Z,q⟩
def acT(hu:X.A.units+64<cLine):ji X (compareOp .NotEq) (SW X.K):=by intro AT s σ H x y v u Q I rx ry h;obtain⟨d,e,hd,he,sd,se,q⟩:=h;obtain⟨as,ra⟩:=hd.reads I rx;obtain⟨bs,rb⟩:=he.reads I ry;exact ne_dataH ra rb sd se hu ⟨.bl _,H,I,Z,q⟩
structure Bx(p:Prop):Prop where
 ex:p
def bx(f:Sp):Sp:=λvs H Q E=>Bx (f vs H Q E)
structure Dn(P:Program)(w:World)(K:Fg)(mg:SO)(base:Heap)(k:Nat)(x:Str)(ps:Da Str)(sp:Sp):Prop where
 ex:∃f fd,je P w K mg base uV k f fd ps sp/\Binds K fd ps []/\PySem.W.keepIn K (.ref f)=true/\mg x=some (.ref f)
end
structure At(K:Fg)(mg:SO)(x:Str)(st:Stmt)(f:Addr)(fd:FuncData):Prop where
 fn:Jw K x x st f fd
 name:mg x=some (.ref f)
variable {P:Program}{w:World}{mg:SO}{base:Heap}{x:Str}{f:Addr}{fd:FuncData}{N ps:Da Str}{sp:Sp}
theorem At.ok{st:Stmt}{k:Nat}(F:At K mg x st f fd)(S:aJ N ps (ay st))(len:∀vs H Q E,sp vs H Q E->vs.length=ps.length)(Ch:∀(cdv:Value) (A:Around) (outer:Da Env) (s:Shared) (H:Hp) (vs:Da V) (Q:VK) (E:XK),dR k (A.deeper (envOfC x (ay st) s.heap.objs.size f cdv))->sp vs H Q E->
    ∃t,rQ (cX uV P w K mg base N x (ay st) f cdv A outer s H E).C9 (cU st) t/\t { nx:=λ_ H'=>Q .cu H',rt:=Q } (start N vs) H)(h:∀(kV doc pm:Value) (an:Option Addr) (cdv ct:Value) (us:Da Value),us.length=ps.length->bindArgs (PySem.W.fnOf x x (fh st) (cU st) (ay st) .none kV doc pm an cdv ct) ⟨us,[]⟩=pure (ps.zip us)):
  Dn P w K mg base (k+1) x ps sp:=⟨f,fd,F.fn.ok S len Ch,F.fn.binds h,F.fn.kp,F.name⟩
variable {h:Heap}{oc doc pm cdv ct:Value}{od an:Option Addr}{osl:Array (Option Value)}
def Zt{st:Stmt}{kV:Value}(X:K.In h)(G:h.Ns mainGlobals mg)(a:PySem.W.nsIn K mainGlobals x=some (some (.ref f)))(l:K.lookup f=some ⟨oc,od,.func (PySem.W.fnOf x x (fh st) (cU st) (ay st) .none kV doc pm an cdv ct),osl⟩)(c:PySem.W.codeIn K cdv x=true)(k:PySem.W.keepIn K (.ref f)=true):At K mg x st f (PySem.W.fnOf x x (fh st) (cU st) (ay st) .none kV doc pm an cdv ct):=⟨Mj l c k,lK X G a⟩
def aE.tup{H H':Hp}{K:Fg}{a:Addr}{xs:Da V}(e:aE H H')(h:cV K H a xs):cV K H' a xs:=by
 rcases h with(h|⟨o,h⟩)|h
 .exact .inl (.inl (e _ _ h))
 .exact .inl (.inr ⟨o,e _ _ h⟩)
 .exact .inr h
variable {H:Hp}
def aA{p:Addr}(h:H p=none)(o:HO):aE H (upd H p o):=λb u q=>by rw[av (aI q h)];exact q
def small(h:n<=1000):n<=sizeLine:=ER (dU h)
end L2
namespace Jm
noncomputable def cf(a b:Int):Int:=(Int.gcd a b:Int)
theorem Q0(a:Int)(h:0<=a):cf a 0=a:=by unfold cf;rw[Int.gcd_zero_right];omega
def HF(a b:Int)(h:0<b):cf b (a % b)=cf a b:=by unfold cf;rw[Int.emod_def,Int.gcd_sub_mul_left_right,Int.gcd_comm]
theorem E_(a b:Int)(h:0<a\/0<b):0<cf a b:=by
 unfold cf;have:0<Int.gcd a b:=by
  rcases h with h|h
  .exact Int.gcd_pos_of_ne_zero_left _ (by omega)
  .exact Int.gcd_pos_of_ne_zero_right _ (by omega)
 omega
def Q2(a b:Int):cf a b=cf b a:=by unfold cf;rw[Int.gcd_comm]
def acU(a b:Int):cf a (if b<0 then -b else b)=cf a b:=by
 unfold cf;split
 .rw [Int.gcd_neg]
 .rfl
abbrev fr(t b:Int):Rat:=Rat.divInt t b
def U7(t b:Int)(h:0<b):(fr t b).num=t / cf b t:=by unfold fr cf;rw[Rat.num_divInt,Int.sign_eq_one_of_pos h,Int.one_mul]
theorem Mm(t b:Int)(h:0<b):((fr t b).den:Int)=b / cf b t:=by unfold fr cf;rw[Rat.den_divInt,aB (by omega)];rw[Int.natCast_ediv];congr 1;omega
def tD(a b:Int):cf a b∣a:=Int.gcd_dvd_left ..
def qD(a b:Int):cf a b∣b:=Int.gcd_dvd_right ..
theorem den_pos(q:Rat):(0:Int)<q.den:=by have:=q.den_pos;omega
def aaz(q:Rat):fr q.num q.den=q:=Rat.num_divInt_den q
theorem Zu{t b t' b':Int}(h:0<b)(h':0<b')(e:t*b'=t'*b):fr t b=fr t' b':=(Rat.divInt_eq_divInt_iff (by omega) (by omega)).mpr e
def U8{n d:Int}(h:0<d)(c:cf n d=1):(fr n d).num=n/\((fr n d).den:Int)=d:=by rw[U7 n d h,Mm n d h,Q2,c,ES,ES];exact⟨Z,Z⟩
def U9(t b:Int)(h:0<b):((fr t b).den:Int)<=b:=by rw[Mm t b h];exact Ll _ (zA h)
def Sz(n:Nat)(x:Int):Prop:=x.natAbs<2 ^ n
def Sz.mono{m n:Nat}{x:Int}(h:Sz m x)(hn:m<=n):Sz n x:=lI h (Nat.pow_le_pow_right (by decide) hn)
def Sz.of_le{n:Nat}{x y:Int}(h:Sz n y)(hx:x.natAbs<=y.natAbs):Sz n x:=LN hx h
theorem Sz.neg{n:Nat}{x:Int}(h:Sz n x):Sz n (-x):=h.of_le (by omega)
def Sz.mul{m n:Nat}{x y:Int}(hx:Sz m x)(hy:Sz n y):Sz (m+n) (x*y):=by unfold Sz at *;rw[EM,Nat.pow_add];exact Nat.mul_lt_mul'' hx hy
theorem Sz.add{m n:Nat}{x y:Int}(hx:Sz m x)(hy:Sz n y):Sz (max m n+1) (x+y):=by have h1:=hx.mono (Nat.le_max_left m n);have h2:=hy.mono (Nat.le_max_right m n);unfold Sz at *;rw[Nat.pow_succ];omega
def Sz.kW{n:Nat}{x y:Int}(hx:Sz n x)(hy:Sz n y):Sz (n+1) (x+y):=by
 have:=hx.add hy
 rwa [Nat.max_self]at this
theorem Sz.oG{n:Nat}{x B:Int}(h0:-B<=x)(h1:x<=B)(hB:Sz n B):Sz n x:=hB.of_le (by omega)
theorem Sz.ediv{n:Nat}{x y:Int}(h:Sz n x)(hy:0<y):Sz n (x / y):=by
 refine h.of_le ?_;have e:=Int.emod_add_mul_ediv x y;have m0:=oX x (b:=y) (by omega);have m1:=zf x hy;rcases ET x 0 with hx|hx
 .have q0:x / y<0:=Int.ediv_neg_of_neg_of_pos hx hy;have z:y*(x / y)<=1*(x / y):=Int.mul_le_mul_of_nonpos_right (by omega) (by omega);rcases ET (x / y) x with k|k
  .exfalso;have z2:y*(x / y)<=y*(x-1):=Jg (by omega) (by omega);have z3:y*(x-1)<=1*(x-1)-(y-1):=by
    have z4:(y-1)*(x-1)<=(y-1)*(-2):=Jg (by omega) (by omega);have z5:y*(x-1)=(y-1)*(x-1)+(x-1):=by grind
    omega
   omega
  .omega
 .have q0:0<=x / y:=Lo hx (by omega);have:=Ll y hx;omega
theorem Sz.dvd{n:Nat}{x y:Int}(h:Sz n y)(hy:0<y)(hx:0<=x)(d:x∣y):Sz n x:=h.of_le (by have:=Int.le_of_dvd hy d;omega)
theorem U_{n:Nat}:∀{ws:Da Int},(∀m∈ws,Sz n m)->Sz (n+ws.length) ws.sum
 | [],_=>by unfold Sz;show 0<_;exact Nat.two_pow_pos _
 | x::r,h=>by have h1:=U_ (ws:=r) λm hm=>h m (cL _ hm);have h2:=((h x cQ).mono (zm n r.length)).kW h1;rw[c6];exact h2.mono (by rw[jm];omega)
noncomputable def Fb(c:Int):Nat->Int
 | 0=>c
 | i+1=>Fb c i / 10000000000
noncomputable def cellOf(ns:Da Int)(k:Int):Int:=if 0<(ns.length:Int) then ns.getD (k % ns.length).toNat 0 else 0
noncomputable def AY(ns:Da Int)(k:Int):Int:=if 0<(ns.length:Int) then k / ns.length else 1
noncomputable def mixed(c k j BT:Int):Int:=
 let one:=(c*7919+k*104729+j*1299709+31) % 1000000007
 let two:=(one*48271+c / 1009) % 998244353
 let three:=(two*(one % 9973+1)+j) % 1000000009
 (one*69621+three*40692+three / 1013) % 2147483647 % BT
noncomputable def draw(ns:Da Int)(k j BT:Int):Int:=if AY ns k=0/\1000000000000000000<=cellOf ns k/\0<Fb (cellOf ns k) j.toNat then Fb (cellOf ns k) j.toNat % 10000000000 % BT
 else mixed (cellOf ns k) k j BT
theorem aaA(ns:Da Int)(k j BT:Int)(h:0<BT):0<=draw ns k j BT:=by
 unfold draw;split
 .exact oX _ (by omega)
 .exact oX _ (by omega)
def aaB(ns:Da Int)(k j BT:Int)(h:0<BT):draw ns k j BT<BT:=by
 unfold draw;split
 .exact zf _ h
 .exact zf _ h
end Jm
namespace L2
open PySem PySem.Spec PyProof.Rows
inductive afO(K:Fg)(vs:Da V)(H:Hp)(Q:VK)(E:XK):Prop
 |mk(a:Addr)(ns:Da Int)(k j BT:Int)(_:vs=[.ref a,.int k,.int j,.int BT])(_:az K H a (ns.map V.int))(_:ns.length<=63)(_:0<=k)(_:0<=j)(_:j<2 ^ 62)(_:0<BT)(_:Q (.int (Jm.draw ns k j BT)) H)
def oH(K:Fg):Sp:=bx (afO K)
variable {K:Fg}{H:Hp}{a:Addr}{ns:Da Int}
def dJ{Q:VK}{E:XK}{k j BT:Int}(hS:az K H a (ns.map V.int))(h63:ns.length<=63)(h1:0<=k)(h2:0<=j)(h3:j<2 ^ 62)(h4:0<BT)(h:∀d:Int,d=Jm.draw ns k j BT->0<=d->d<BT->Q (.int d) H):oH K [.ref a,.int k,.int j,.int BT] H Q E:=
 ⟨a,ns,k,j,BT,Z,hS,h63,h1,h2,h3,h4,h _ rfl (Jm.aaA ns k j BT h4) (Jm.aaB ns k j BT h4)⟩
def XX:Sp:=λvs H Q _=>∃a b:Int,vs=[.int a,.int b]/\0<=a/\0<=b/\Q (.int (Jm.cf a b)) H
abbrev qE(q:Rat):HO:=.tup [.int q.num,.int (q.den:Int)]
def Fc:Sp:=λvs H Q _=>∃i:Int,vs=[.int i]/\Q (.bl true) H
def Lz(K:Fg):Sp:=λvs H Q _=>∃(a:Addr)(ns:Da Int),vs=[.ref a]/\az K H a (ns.map V.int)/\ns.length<=63/\∀H',Q (.bl true) H'
section
variable {X:Cx}{pos:Pos}
def Ends.too(D:Ends)(J:St->Hp->Prop):Ends:={ D with nx:=J }
def afP(t u:TS)(D:Ends)(σ:St)(J:St->Hp->Prop):Bool->Hp->Prop:=λb H1=>if b=true then t (D.too J) σ H1 else u (D.too J) σ H1
inductive acV(c:TT)(t u:TS)(D:Ends)(σ:St)(H:Hp):Prop
 |mk(J:St->Hp->Prop)(_:c σ H (afP t u D σ J))(_:∀σ' H',J σ' H'->D.nx σ' H')
end
theorem vI{i j:Int}(h0:0<j)(h:Jm.Sz 9000 j):Cw i j:=by refine⟨h0,?_⟩;exact(Nat.log2_lt (by omega)).mpr h
variable {m n:Nat}
def jR{i j:Int}(hi:Jm.Sz m i)(hj:Jm.Sz n j)(h:m+n<=134217728:=by decide):SV i j:=⟨m,n,hi,hj,h⟩
def oJ{x:Int}(h:decide (x.natAbs<2 ^ n)=true):Jm.Sz n x:=by unfold Jm.Sz;exact dH h
theorem aaC{k:Int}(h0:0<=k)(h:k<(ns.length:Int)):qa (ns.map V.int) k=some (.int (ns.getD k.toNat 0)):=by
 have hk:k.toNat<ns.length:=by omega
 have ek:k=((k.toNat:Nat):Int):=by omega
 have q:qa (ns.map V.int) ((k.toNat:Nat):Int)=some (.int (ns.getD k.toNat 0)):=aO (by rw[bH,gT,aY hk] <;> rfl);rw[<-ek]at q;exact q
variable {elt Bz:Expr}{scope:Scope}{pos:Pos}{env:Env}
section
variable {prog:Program}{w:World}{A:Around}{R:Result->Shared->Prop}{s:Shared}
theorem Mp{target:Expr}{it BM:Value}(J:Nat->Shared->Prop)(turn:∀n s,J n s->wpAny (model prog w) A (pyNext it) (λr s₁=>match r with
    | none=>R (.ok .next) s₁
    | some v=>wpAny (model prog w) A (letOwnedTupleGo target it v) (λ_ s₂=>wpAny (model prog w) A (assign target env v) (λ_ s₃=>wpAny (model prog w) A (eval elt env) (λx s₄=>
            wpAny (model prog w) A (call (.builtin "list.append") [BM,x]) (λ_ s₅=>∃m,m<n/\J m s₅) (λ_ _=>False) s₄) (λ_ _=>False) s₃) (λ_ _=>False) s₂) (λ_ _=>False) s₁) (λ_ _=>False) s)(n:Nat)(h:J n s):codeAny (model prog w) A (.compLoop (.ListComp elt [⟨target,Bz,[],0⟩] scope pos) 0 it BM env) R s:=by
 refine codeAny_loop rfl J (λn s hI=>?_) n h
 show wpAny _ A ((compTurn (.ListComp elt [⟨target,Bz,[],0⟩] scope pos) 0 it BM env).onRaise (λx=>do noteFrame x env;theTreesLotGoes x)) _ _ s
 refine wpAny_noted ?_
 rw[compTurn_list1]
 refine au (Cg (au (iM (turn n s hI) (λr s₁ h₁=>?_) λ_ _ h'=>h'.elim)))
 cases r with
 | none=>exact aW h₁
 | some v=>
   refine au (iM h₁ (λ_ s₂ h₂=>au (iM h₂ (λ_ s₃ h₃=>?_) λ_ _ h'=>h'.elim)) λ_ _ h'=>h'.elim)
   exact au (au (iM h₃ (λx s₄ h₄=>au (iM h₄ (λ_ s₅ h₅=>aW (aW ⟨Z,h₅⟩)) λ_ _ h'=>h'.elim)) λ_ _ h'=>h'.elim))
end
def u_(h:∀y∈scope.names,y.2 =.free->∃c,env.cells.lookup y.1=some c):∃cl,closureFor scope env=pure cl/\(∀y c,(y,c)∈cl->env.cells.lookup y=some c/\(y,NameKind.free)∈scope.names)/\∀y,(y,NameKind.free)∈scope.names->∃c,(y,c)∈cl:=by
 have gen:∀(names:Da (Str×NameKind))(BM:Da (Str×Addr)),(∀y∈names,y.2 =.free->∃c,env.cells.lookup y.1=some c)->
   ∃cl,(forIn names BM λ(x:Str×NameKind)(cs:Da (Str×Addr))=>(if(x.2==NameKind.free)=true then do let a <-cellOf env x.1;pure (ForInStep.yield ((x.1,a)::cs)) else pure (ForInStep.yield cs):Sem _))=pure cl/\
    (∀y c,(y,c)∈cl->(env.cells.lookup y=some c/\(y,NameKind.free)∈names)\/(y,c)∈BM)/\(∀p∈BM,p∈cl)/\∀y,(y,NameKind.free)∈names->∃c,(y,c)∈cl:=by
  intro names
  induction names with
  | nil=>intro BM _;exact⟨BM,by rw[EN],λy c m=> .inr m,λp hp=>hp,λy m=>nomatch m⟩
  | cons x r ih=>
    intro BM hc
    obtain⟨n,k⟩:=x
    by_cases hk:k =.free
    . subst hk
      obtain⟨c,ec⟩:=hc (n,.free) cQ rfl
      obtain⟨cl,e,h1,h2,h3⟩:=ih ((n,c)::BM) λy hy=>hc y (cL _ hy)
      refine⟨cl,?_,λy d m=>?_,λp hp=>h2 p (cL _ hp),λy m=>?_⟩
      . rw[Lp,<-e]
        have afQ:cellOf env n=pure c:=by unfold cellOf;rw[ec]
        simp only[zj,sX,afQ,pure_bind]
      . rcases h1 y d m with⟨a,b⟩|b
        . exact .inl ⟨a,cL _ b⟩
        . rcases c_.mp b with z|z
          . cases z;exact .inl ⟨ec,cQ⟩
          . exact .inr z
      . rcases c_.mp m with z|z
        . cases z;exact⟨c,h2 _ cQ⟩
        . exact h3 y z
    . obtain⟨cl,e,h1,h2,h3⟩:=ih BM λy hy=>hc y (cL _ hy)
      have hb:(k==NameKind.free)=false:=by simpa using hk
      refine⟨cl,?_,λy d m=>?_,h2,λy m=>?_⟩
      . rw[Lp,<-e]
        simp only[hb,Hw,nO,pure_bind]
      . rcases h1 y d m with⟨a,b⟩|b
        . exact .inl ⟨a,cL _ b⟩
        . exact .inr b
      . rcases c_.mp m with z|z
        . cases z;exact absurd rfl hk
        . exact h3 y z
 obtain⟨cl,e,h1,_,h3⟩:=gen scope.names [] h;refine⟨cl,?_,λy c m=>(h1 y c m).elim id (λz=>nomatch z),h3⟩;have e2:closureFor scope env=((forIn scope.names ([] :Da (Str×Addr)) λ(x:Str×NameKind)(cs:Da (Str×Addr))=>(if(x.2==NameKind.free)=true then do let a <-cellOf env x.1;pure (ForInStep.yield ((x.1,a)::cs)) else pure (ForInStep.yield cs):Sem _)) >>= λr=>pure r):=rfl;rw[e2,e];rfl
def lookup_mem{α:Type}{l:Da (Str×α)}{y:Str}{c:α}(h:(y,c)∈l):∃d,l.lookup y=some d:=by
 induction l with
 | nil=>cases h
 | cons p r ih=>
  obtain⟨k,v⟩:=p;rw[mQ];cases hb:y==k with
  | true=>exact⟨v,Z⟩
  | false=>
   rcases c_.mp h with z|z
   .cases z;simp at hb
   .exact ih z
theorem nQ:∀(names:Da (Str×NameKind))(n:Nat)(BM:Da (Str×Addr)){x:Str}{c:Addr},(cellsFrom n names BM).lookup x=some c->n<=c\/BM.lookup x=some c
 | [],_,_,_,_,h=> .inr h
 | (name,kind)::r,n,BM,x,c,h=>by
  unfold cellsFrom at h;split at h
  .rcases nQ r (n+1) _ h with z|z
   .exact .inl (by omega)
   .rw [mQ]at z;cases hb:x==name with
    | true=>rw[hb]at z;cases z;exact .inl (aN _)
    | false=>rw[hb]at z;exact .inr z
  .exact nQ r n BM h
theorem Kh:∀(names:Da (Str×NameKind))(n n0:Nat)(BM:Da (Str×Addr)){x:Str}{c:Addr},n0<=n->(∀d,BM.lookup x=some d->n0<=d)->(cellsFrom n names BM).lookup x=some c->n0<=c:=by
 intro names n n0 BM x c hn ha h;rcases nQ names n BM h with z|z
 .omega
 .exact ha c z
theorem uo:∀(names:Da (Str×NameKind))(n:Nat)(BM:Da (Str×Addr)){x:Str}{c:Addr},(x,NameKind.cell)∈names->(cellsFrom n names BM).lookup x=some c->n<=c
 | [],_,_,_,_,m,_=>nomatch m
 | (name,kind)::r,n,BM,x,c,m,h=>by
  unfold cellsFrom at h;rcases c_.mp m with z|z
  .cases z;rw[aC (by rfl)]at h;refine Kh r (n+1) n _ (by omega) (λd hd=>?_) h;rw[mQ,zj]at hd;cases hd;exact aN _
  .split at h
   .exact fZ (zC _) (uo r (n+1) _ z h)
   .exact uo r n BM z h
theorem nR:∀(names:Da (Str×NameKind))(n:Nat)(BM:Da (Str×Addr)){x:Str},(∃c,BM.lookup x=some c)->∃c,(cellsFrom n names BM).lookup x=some c
 | [],_,_,_,h=>h
 | (name,kind)::r,n,BM,x,h=>by
  unfold cellsFrom;split
  .refine nR r (n+1) _ ?_;rw[mQ];cases x==name with
   | true=>exact⟨_,Z⟩
   | false=>exact h
  .exact nR r n BM h
theorem uq:∀(names:Da (Str×NameKind))(n:Nat)(BM:Da (Str×Addr)){x:Str},(x,NameKind.cell)∈names->∃c,(cellsFrom n names BM).lookup x=some c
 | [],_,_,_,m=>nomatch m
 | (name,kind)::r,n,BM,x,m=>by
  unfold cellsFrom;rcases c_.mp m with z|z
  .cases z;rw[aC (by rfl)];refine nR r (n+1) _ ⟨n,?_⟩;rw[mQ,zj]
  .split
   .exact uq r (n+1) _ z
   .exact uq r n BM z
theorem ur:∀(names:Da (Str×NameKind))(n:Nat)(BM:Da (Str×Addr)){x:Str},(x,NameKind.cell)∉names->(cellsFrom n names BM).lookup x=BM.lookup x
 | [],_,_,_,_=>rfl
 | (name,kind)::r,n,BM,x,m=>by
  have m2:(x,NameKind.cell)∉r:=λz=>m (cL _ z);unfold cellsFrom;split
  .rename_i hk;rw[ur r (n+1) _ m2,mQ];cases hb:x==name with
   | true=>
    have e1:=mS.mp hb;have e2:kind=NameKind.cell:=by simpa using hk
    subst e1 e2;exact absurd cQ m
   | false=>rfl
  .exact ur r n BM m2
theorem uu:∀(names:Da (Str×NameKind))(n:Nat)(BM:Da (Str×Addr)),(∀x y c,BM.lookup x=some c->BM.lookup y=some c->x=y)->(∀x c,BM.lookup x=some c->c<n)->∀x y c,(cellsFrom n names BM).lookup x=some c->(cellsFrom n names BM).lookup y=some c->x=y
 | [],_,_,h,_=>h
 | (name,kind)::r,n,BM,h,hlt=>by
  intro x y c hx hy;unfold cellsFrom at hx hy;split at hx
  .rename_i hk;rw[aC hk]at hy;refine uu r (n+1) _ (λx y c hx hy=>?_) (λx c hx=>?_) x y c hx hy
   .rw [mQ]at hx hy;cases hb:x==name with
    | true=>
     cases hb2:y==name with
     | true=>rw[mS.mp hb,mS.mp hb2]
     | false=>rw[hb]at hx;rw[hb2]at hy;cases hx;exact absurd (hlt _ _ hy) (jW _)
    | false=>
     cases hb2:y==name with
     | true=>rw[hb]at hx;rw[hb2]at hy;cases hy;exact absurd (hlt _ _ hx) (jW _)
     | false=>rw[hb]at hx;rw[hb2]at hy;exact h x y c hx hy
   .rw [mQ]at hx;cases hb:x==name with
    | true=>rw[hb]at hx;cases hx;exact Nat.lt_succ_self _
    | false=>rw[hb]at hx;exact Sx (hlt _ _ hx)
  .rename_i hk;rw[aB hk]at hy;exact uu r n BM h hlt x y c hx hy
theorem xZ:∀(names:Da (Str×NameKind))(h:Heap)(BM:Da (Str×Addr)),(∀x c,BM.lookup x=some c->∃v,h.IsCell c v)->∀x c,(cellsFrom h.objs.size names BM).lookup x=some c->∃v,(pushCells h names).IsCell c v
 | [],_,_,ha=>ha
 | (name,kind)::r,h,BM,ha=>by
  intro x c hx;unfold cellsFrom at hx;unfold pushCells;split at hx
  .rename_i hk;rw[aC hk];have q:=xZ r (h.push { cls:=.type "cell",data:=.cell none }) ((name,h.objs.size)::BM) (λx c hx=>by
    rw[mQ]at hx;cases hb:x==name with
    | true=>rw[hb]at hx;cases hx;exact⟨none,_,fj _ rfl,Z⟩
    | false=>rw[hb]at hx;obtain⟨v,z⟩:=ha x c hx;exact⟨v,z.keeps λb o e=>cI _ e⟩) x c
   rw[nN]at q;exact q hx
  .rename_i hk;rw[aB hk];exact xZ r h BM ha x c hx
noncomputable def dj(X:Cx)(N2:Da Str)(scope:Scope)(cl:Da (Str×Addr))(s₂:Shared)(H₂:Hp)(fp:Da Addr):Cx where
 prog:=X.prog
 w:=X.w
 K:=X.K
 mg:=X.mg
 base:=X.base
 A:=X.A
 N:=N2
 s₀:=s₂
 H₀:=H₂
 env:={ scope:=relabel scope X.env,locals:=s₂.heap.objs.size,globals:=X.env.globals,cells:=cellsFrom (s₂.heap.objs.size+1) scope.names cl,qual:=X.env.qual,func:=none,code:=X.env.code,frame:=X.env.frame,builtins:=X.env.builtins }
 outer:=X.stack
 stack:=X.stack
 ex:=fp
 fn:=λx=>decide (scope.names.lookup x=some .cell)
 calm:=X.calm
 pn:=[]
 xe:=λ_ _=>False
noncomputable def oK(XN:Da Str)(xn sn:Da (Str×NameKind))(N2:Da Str)(ix:Da (Option Nat)):Bool:=(ix.length==N2.length) &&
 ((ix.zip N2).all λp=>match p.1 with
   | none=>true
   | some j=>XN[j]?==some p.2 && sn.lookup p.2==some .free && (xn.lookup p.2==some .cell || xn.lookup p.2==some .free)) &&
 (sn.all λy=>y.2 !=.free || (xn.lookup y.1==some .cell || xn.lookup y.1==some .free)) &&
 (sn.all λy=>y.2 !=.local || sn.lookup y.1==some .local) &&
 (sn.all λy=>y.2 !=.free || sn.all λz=>z.2 !=.cell || z.1 != y.1)
variable {x:Str}
def Dg{k:NameKind}(h:(relabel scope env).names.lookup x=some k)(hk:k =.cell\/k =.free):(x,NameKind.cell)∈scope.names\/(x,NameKind.free)∈scope.names:=by
 have m:=y_ h;obtain⟨y,hy,e⟩:=bD.mp m;obtain⟨n,k0⟩:=y;dsimp only at e;split at e
 .rename_i hc;cases e;have h1:k0=NameKind.free:=by have:=(mJ.mp (mJ.mp hc).1).1;simpa using this
  subst h1;exact .inr hy
 .cases e;rcases hk with rfl|rfl
  .exact .inl hy
  .exact .inr hy
def Mq:∀{x:Str},scope.names.lookup x=some .free->(relabel scope env).names.lookup x=some .cell\/(relabel scope env).names.lookup x=some .free:=by
 intro x h;have gen:∀(l:Da (Str×NameKind)),l.lookup x=some .free->(l.map λ(n,k)=>if(k==NameKind.free && env.scope.kind ==.function && env.kindOf n==some .cell) then(n,NameKind.cell) else(n,k)).lookup x=some .cell\/
   (l.map λ(n,k)=>if(k==NameKind.free && env.scope.kind ==.function && env.kindOf n==some .cell) then(n,NameKind.cell) else(n,k)).lookup x=some .free:=by
  intro l
  induction l with
  | nil=>intro h;cases h
  | cons p r ih=>
    intro h
    obtain⟨n,k⟩:=p
    rw[mQ]at h
    rw[bP]
    dsimp only
    cases hb:x==n with
    | true=>
      rw[hb]at h
      cases h
      split
      . rw[mQ,hb];exact .inl rfl
      . rw[mQ,hb];exact .inr rfl
    | false=>
      rw[hb]at h
      split
      . rw[mQ,hb];exact ih h
      . rw[mQ,hb];exact ih h
 exact gen scope.names h
variable {X:Cx}{AT:AO}{σ σ2:St}{s:Shared}{N2:Da Str}{cl:Da (Str×Addr)}{fp:Da Addr}
theorem Fd(I:Inv X AT σ H s)(hk:scope.kind =.function)(Mr:∀y c,(y,c)∈cl->X.env.cells.lookup y=some c)(HG:∀y,(y,NameKind.free)∈scope.names->∃c,(y,c)∈cl)(hfp:∀b∈fp,qA X AT H b)(hfo:∀b∈fp,b<s.heap.objs.size)(hl:σ2.length=N2.length)(hσ:∀(i:Nat) (x:Str) (v:V),N2[i]?=some x->σ2[i]?=some (some v)->scope.names.lookup x=some .free/\(X.env.kindOf x=some .cell\/X.env.kindOf x=some .free)/\∃j:Nat,X.N[j]?=some x/\σ[j]?=some (some v))(hd:∀x,(x,NameKind.free)∈scope.names->(x,NameKind.cell)∉scope.names):
  Inv (dj X N2 scope cl s H fp) [] σ2 H { s with heap:=pushCells (s.heap.push { cls:=.type "dict",data:=.dict #[] }) scope.names }:=by
 have keeps:∀b o,s.heap.get? b=some o->(pushCells (s.heap.push { cls:=.type "dict",data:=.dict #[] }) scope.names).get? b=some o:=λb o e=>Lq _ _ b o (cI _ e)
 have hsz:(s.heap.push { cls:=.type "dict",data:=.dict #[] }).objs.size=s.heap.objs.size+1:=nN ..
 have Cy:∀x c,cl.lookup x=some c->X.env.cells.lookup x=some c:=λx c e=>Mr x c (y_ e)
 have clt:∀x c,cl.lookup x=some c->c<s.heap.objs.size:=λx c e=>by obtain⟨v,z⟩:=I.cell x c (Cy x c e);exact z.lt
 have there:=xZ scope.names (s.heap.push { cls:=.type "dict",data:=.dict #[] }) cl (λx c e=>by obtain⟨v,z⟩:=I.cell x c (Cy x c e);exact⟨v,z.keeps λb o e=>cI _ e⟩)
 rw[hsz]at there
 have cells:∀x c,(cellsFrom (s.heap.objs.size+1) scope.names cl).lookup x=some c->s.heap.objs.size+1<=c\/X.env.cells.lookup x=some c:=λx c e=>by
  rcases nQ _ _ _ e with z|z
  .exact .inl z
  .exact .inr (Cy x c z)
 have okY:(dj X N2 scope cl s H fp).Ok:=by
  refine⟨I.ok.mod,hk,I.ok.glob,I.ok.blt,aN _,?_,?_,?_,I.ok.hd,I.ok.frames,.inl rfl,?_,I.bs,fZ I.ok.EV I.sz,?_,?_,I.stack,I.yq⟩
  .exact uu _ _ _ (λx y c hx hy=>I.ok.inj x y c (Cy x c hx) (Cy y c hy)) λx c e=>Sx (clt x c e)
  .intro x hx;have m:(x,NameKind.cell)∈scope.names\/(x,NameKind.free)∈scope.names:=by
    rcases hx with z|z
    .exact Dg z (.inl rfl)
    .exact Dg z (.inr rfl)
   rcases m with m|m
   .exact uq _ _ _ m
   .obtain ⟨c,mc⟩:=HG x m;exact nR _ _ _ (lookup_mem mc)
  .intro x c hf e;have hf':scope.names.lookup x=some .cell:=dH hf;exact fZ (zC _) (uo _ _ _ (y_ hf') e)
  .intro b hb;refine⟨eO (hfo b hb),λx c e z=>?_⟩;have hlt:=hfo b hb;rcases cells x c e with k|k
   .exact absurd (lI hlt (fZ (zC _) (z▸k))) (jW _)
   .exact (hfp b hb).2.2.2.2.1 x c k z
  .intro b o e hb;rcases(hfp b hb).2.2.2.1 with z|z
   .exact I.ok.Hz b o e z
   .exact absurd (lI (bY (I.ok.bs b o e).1) z) (jW _)
  .intro b hb hbs;rcases c_.mp (I.LS b hbs)with z|z
   .exact (hfp b hb).2.1 z
   .exact (hfp b hb).2.2.1 z
 refine⟨okY,Z,I.bare,Un.kept keeps,?_,there,I.hok.fresh (aN _),?_,(λp hp=>nomatch hp),I.hok.kept keeps,hl⟩
 . refine⟨λ_=>none,(Heap.Ns.new s.heap (.type "dict")).keeps (Lq _ _),λi x v e1 e2 _=>?_⟩
   obtain⟨hf,hx,j,j1,j2⟩:=hσ i x v e1 e2
   obtain⟨m,_,hloc⟩:=I.loc
   have hv:Uz X.env.scope x:=hx.elim (λz=> .inr (.inl z)) λz=> .inr (.inr z)
   obtain⟨u,r,lk⟩:=hloc j x v j1 j2 hv
   refine⟨u,r,.inr ⟨Mq hf,?_⟩⟩
   rcases lk with⟨k,_⟩|⟨_,c,ec,ic⟩
   . rcases hx with z|z <;> rw[z]at k <;> cases k
   . refine⟨c,?_,ic.keeps keeps⟩
     have mf:=y_ hf
     show(cellsFrom (s.heap.objs.size+1) scope.names cl).lookup x=some c
     rw[ur _ _ _ (hd x mf)]
     obtain⟨c',mc⟩:=HG x mf
     obtain⟨d,ed⟩:=lookup_mem mc
     rw[ed]
     have:=Cy x d ed
     rw[ec]at this
     exact this.symm
 . intro x c e
   rcases cells x c e with k|k
   . exact I.hok.fresh (by omega)
   . exact I.kM x c k
variable {tg:Expr}{g:TG}{te:TE}{E:VS}
section
variable {X:Cx}
def Cz(J:It)(g:TG)(te:TE)(BM:Addr)(σ₀:St)(H:Hp)(Q:VK):Prop:=∃W:Nat->Nat->St->Hp->Prop,(∃m,W 0 m σ₀ (upd H BM (.lst [])))/\∀i m σ2 H2,W i m σ2 H2->(J.stop i H2/\Q (.ref BM) H2)\/(J.go i H2/\∃(S:St->Prop)(N:V->Hp->Prop),(∀σ3 v H4,S σ3->N v H4->∃xs,H4 BM=some (.lst xs)/\xs.length<sizeLine/\∃m',m'<m/\W (i+1) m' σ3 (upd H4 BM (.lst (xs++[v]))))/\∀x H',J.EX i H2 x H'->g x σ2 H' λσ3 H3=>S σ3/\te σ3 H3 N)
inductive vJ(Pv:Nat->Da V->Hp->Prop)(i:Nat)(BM:Addr)(out:Da V)(v:V)(H4:Hp):Prop
 |mk(_:H4 BM=some (.lst out))(_:Pv (i+1) (out++[v]) (upd H4 BM (.lst (out++[v]))))
def Zv(te:TE)(σ:St)(Pv:Nat->Da V->Hp->Prop)(i:Nat)(BM:Addr)(out:Da V):Bool->Hp->Prop:=λb H2=>if b=true then te σ H2 (vJ Pv i BM out) else H2 BM=some (.lst out)/\Pv (i+1) out H2
noncomputable def pick(ix:Da (Option Nat))(σ:St):St:=ix.map λo=>o.bind λj=>(σ[j]?).join
def acW(ix:Da (Option Nat))(g:TG)(te:TE)(σ:St)(Q:VK):It->Hp->Prop:=λJ H1=>∀BM,H1 BM=none->Cz J g te BM (pick ix σ) H1 Q
def Zw(wi:TI)(ix:Da (Option Nat))(g:TG)(te:TE):TE:=λσ H Q=>wi σ H (acW ix g te σ Q)
def nS{XN:Da Str}{xn sn:Da (Str×NameKind)}{ix:Da (Option Nat)}(h:oK XN xn sn N2 ix=true):ix.length=N2.length/\(∀(i:Nat)(x:Str)(j:Nat),N2[i]?=some x->ix[i]?=some (some j)->XN[j]?=some x/\sn.lookup x=some .free/\(xn.lookup x=some .cell\/xn.lookup x=some .free))/\(∀y∈sn,y.2 =.free->xn.lookup y.1=some .cell\/xn.lookup y.1=some .free)/\(∀y∈sn,y.2 =.local->sn.lookup y.1=some .local)/\∀x,(x,NameKind.free)∈sn->(x,NameKind.cell)∉sn:=by
 unfold oK at h;obtain⟨h,h5⟩:=mJ.mp h;obtain⟨h,h4⟩:=mJ.mp h;obtain⟨h,h3⟩:=mJ.mp h;obtain⟨h1,h2⟩:=mJ.mp h;have e1:ix.length=N2.length:=by simpa using h1
 refine⟨e1,λi x j a b=>?_,λy hy e=>?_,λy hy e=>?_,λx m1 m2=>?_⟩
 .have m:(some j,x)∈ix.zip N2:=by refine bK (i:=i) ?_;rw[List.getElem?_zip_eq_some];exact⟨b,a⟩
  have q:=qp.mp h2 _ m;dsimp only at q;obtain⟨q,q3⟩:=mJ.mp q;obtain⟨q1,q2⟩:=mJ.mp q;exact⟨by simpa using q1,by simpa using q2,(Hs.mp q3).imp (λz=>by simpa using z) λz=>by simpa using z⟩
 .have q:=qp.mp h3 y hy;rcases Hs.mp q with z|z
  .rw [e]at z;simp at z
  .exact (Hs.mp z).imp (λz=>by simpa using z) λz=>by simpa using z
 .have q:=qp.mp h4 y hy;rcases Hs.mp q with z|z
  .rw [e]at z;simp at z
  .simpa using z
 .have q:=qp.mp h5 _ m1;rcases Hs.mp q with z|z
  .simp at z
  .have q2:=qp.mp z _ m2;simp at q2
theorem Fe{ix:Da (Option Nat)}{Q:VK}{RR:Value->Addr->Result->Shared->Prop}(hc:X.calm=true)(hg:∀cl s₂ H₂ fp,PG (dj X N2 scope cl s₂ H₂ fp) tg g)(he:∀cl s₂ H₂ fp,PE (dj X N2 scope cl s₂ H₂ fp) elt te)(hk:scope.kind =.function)(hn:oK X.N X.env.scope.names scope.names N2 ix=true)(Mr:∀y c,(y,c)∈cl->X.env.cells.lookup y=some c)(HG:∀y,(y,NameKind.free)∈scope.names->∃c,(y,c)∈cl){it:Addr}{fp:Da Addr}{tn:Nat->Heap->Prop}{J:It}(I:Inv X AT σ H s)(T:Turn X.prog X.w X.K tg J fp it tn)(st:tn 0 s.heap)(f:∀b∈fp,qA X AT H b)(h:∀BM,H BM=none->Cz J g te BM (ix.map λo=>o.bind λj=>(σ[j]?).join) H Q)(hR:∀BM C H' s' m,Inv X AT σ H' s'->s'.heap.Ns C m->H' C=none->C≠X.env.locals->X.s₀.heap.objs.size<=C->(∀x c,X.env.cells.lookup x=some c->c≠C)->(∀p∈X.pn++AT,p.1≠C)->Q (.ref BM) H'->RR (.ref BM) C (.ok .next) s'):
  wpAny (model X.prog X.w) X.A (newList []) (λBM s₃=>wpAny (model X.prog X.w) X.A (newFunctionEnv scope X.env.globals cl [] X.env.qual none .none (some X.env)) (λcenv s₄=>
   codeAny (model X.prog X.w) X.A (.compStart (.ListComp elt [⟨tg,Bz,[],0⟩] scope pos) 0 (.ref it) BM { cenv with scope:=relabel scope X.env }) (RR BM cenv.locals) s₄) E s₃) E s:=by
 obtain⟨k1,k2,k3,k4,k5⟩:=nS hn
 refine zg ?_
 have I3:Inv X AT σ (upd H s.heap.objs.size (.lst [])) { s with heap:=s.heap.push { cls:=.type "list",data:=.seq ([] :Da Value).toArray } }:=
  I.laid (a:=s.heap.objs.size) (o:=.lst []) (t':=s.toks) (λ_ _ q=>cI _ q) (aN _) ⟨fD _,[],_,.nil,fj _ rfl⟩
 obtain⟨W,⟨m0,w0⟩,turn⟩:=h s.heap.objs.size I.fresh
 have fo:∀b∈fp,b<s.heap.objs.size:=λb hb=>by obtain⟨o,e,_⟩:=T.obj 0 _ st b hb;exact bY e
 have st3:tn 0 (s.heap.push { cls:=.type "list",data:=.seq ([] :Da Value).toArray }):=T.keep _ _ _ st λb _ o e=>cI _ e
 have f3:∀b∈fp,qA X AT (upd H s.heap.objs.size (.lst [])) b:=λb hb=>⟨by rw[av (eO (fo b hb))];exact(f b hb).1,(f b hb).2⟩
 have Va:∀b∈fp,b<(s.heap.push { cls:=.type "list",data:=.seq ([] :Da Value).toArray }).objs.size:=λb hb=>by rw[nN];exact Sx (fo b hb)
 generalize es3:({ s with heap:=s.heap.push { cls:=.type "list",data:=.seq ([] :Da Value).toArray } }:Shared)=s3 at *
 have eh3:s3.heap=s.heap.push { cls:=.type "list",data:=.seq ([] :Da Value).toArray }:=by rw[<-es3]
 rw[<-eh3]at st3 Va
 generalize s.heap.objs.size=BM at *
 generalize eH3:upd H BM (.lst [])=H3 at *
 have IY:=Fd (N2:=N2) (scope:=scope) (cl:=cl) (fp:=fp) (σ2:=ix.map λo=>o.bind λj=>(σ[j]?).join) I3 hk Mr HG f3 Va (by rw[aD];exact k1) (λi x v e1 e2=>by
  rw[bH]at e2;cases ei:ix[i]? with
  | none=>rw[ei]at e2;cases e2
  | some o=>
   rw[ei]at e2;cases o with
   | none=>cases e2
   | some j=>
    obtain⟨a1,a2,a3⟩:=k2 i x j e1 ei;refine⟨a2,a3,j,a1,?_⟩;have e3:(σ[j]?).join=some v:=gZ e2;cases ej:σ[j]? with
    | none=>rw[ej]at e3;cases e3
    | some z=>rw[ej]at e3;exact gP some e3) k5
 have ne:wpAny (model X.prog X.w) X.A (newFunctionEnv scope X.env.globals cl [] X.env.qual none .none (some X.env)) (λcenv s₄=>
   cenv={ scope:=scope,locals:=s3.heap.objs.size,globals:=X.env.globals,cells:=cellsFrom (s3.heap.objs.size+1) scope.names cl,qual:=X.env.qual,func:=none,code:=X.env.code,frame:=X.env.frame,builtins:=X.env.builtins }/\
   s₄={ s3 with heap:=pushCells (s3.heap.push { cls:=.type "dict",data:=.dict #[] }) scope.names }) E s3:=by
  simp only[newFunctionEnv,Option.isSome_some,sX]
  refine au (wpAny_alloc ?_)
  refine au (wpAny_layCells _ (λname kind cells=>by cases hkc:kind==NameKind.cell <;> simp[hkc]) _ _ _ _ ?_)
  rw[EN]
  refine au (aW (aW ⟨?_,Z⟩))
  rw[show({ s3 with heap:=s3.heap.push { cls:=.type "dict",data:=.dict #[] } }:Shared).heap.objs.size=s3.heap.objs.size+1 from nN ..]
 refine br ne λcenv s4 ⟨e1,e2⟩=>?_
 subst e1 e2
 have Vb:tn 0 (pushCells (s3.heap.push { cls:=.type "dict",data:=.dict #[] }) scope.names):=T.keep _ _ _ st3 λb _ o e=>Lq _ _ b o (cI _ e)
 have AZ:s3.heap.objs.size≠X.env.locals:=zz I3.lt
 have vK:∀{H':Hp},(∀b∈fp,H' b=none)->∀b∈fp,qA (dj X N2 scope cl s3 H3 fp) [] H' b:=λ{H'} hn b hb=>
  ⟨hn b hb,(IY.ok.LR b hb).1,IY.ok.DL b hb,.inl hb,(IY.ok.LR b hb).2,λp hp=>nomatch hp⟩
 have loop:codeAny (model X.prog X.w) X.A (.compLoop (.ListComp elt [⟨tg,Bz,[],0⟩] scope pos) 0 (.ref it) (.ref BM) (dj X N2 scope cl s3 H3 fp).env) (RR (.ref BM) s3.heap.objs.size)
   { s3 with heap:=pushCells (s3.heap.push { cls:=.type "dict",data:=.dict #[] }) scope.names }:=by
  refine Mp (λn s'=>∃i σ' H',Inv (dj X N2 scope cl s3 H3 fp) [] σ' H' s'/\tn i s'.heap/\(∀b∈fp,H' b=none)/\W i n σ' H') ?_ m0 ⟨0,_,H3,IY,Vb,λb hb=>(f3 b hb).1,w0⟩
  rintro n s5 ⟨i,σ5,H5,I5,A0,Ms,w5⟩
  rcases turn i n σ5 H5 w5 with⟨stop,qn⟩|⟨go,S,N,hSN,step⟩
  . refine br (T.done (dj X N2 scope cl s3 H3 fp) rfl rfl rfl hc i [] s5 σ5 H5 (λ_ _=>False) I5 (vK Ms) A0 stop) λr s6 ⟨hr,I6⟩=>?_
    subst hr
    obtain⟨m6,ns6,_⟩:=id I6.loc
    have IX:Inv X AT σ H5 s6:=I3.Lv (ch:=fp) I6.os I6.base I6.hok I6.bare λb hb=>⟨(f3 b hb).2.2.2.1,(f3 b hb).2.1,(f3 b hb).2.2.2.2.1,(f3 b hb).2.2.2.2.2⟩
    refine hR BM s3.heap.objs.size H5 s6 m6 IX ns6 I6.free AZ I3.sz (λx c e z=>?_) (λp hp z=>?_) qn
    . obtain⟨v,q⟩:=I3.cell x c e
      exact absurd q.lt (by rw[z];exact jW _)
    . exact absurd (bY (I3.pin p hp).1) (by rw[z];exact jW _)
  . refine br (T.item (dj X N2 scope cl s3 H3 fp) rfl rfl rfl hc i [] s5 σ5 H5 (λ_ _=>False) I5 (vK Ms) A0 go) λr s6 ⟨u,hr,h6⟩=>?_
    subst hr
    refine br h6 λ_ s7 ⟨x,H7,I7,r7,y7,Ff,Vc⟩=>?_
    have I7':=I7.pinned (vK Vc) (T.obj _ _ Ff)
    refine br (hg cl s3 H3 fp _ s7 σ5 H7 x u _ I7' r7 (step x H7 y7)) λ_ s8 ⟨σ8,H8,I8,Zx,q8⟩=>?_
    refine br (he cl s3 H3 fp _ s8 σ8 H8 _ I8 q8) λy s9 ⟨v,H9,I9,r9,q9⟩=>?_
    obtain⟨xs,hxs,hxl,m',hm,w9⟩:=hSN σ8 v H9 Zx q9
    refine br (eX _ s9 σ8 H9 (.ref BM) [v] (.ref BM) [y] (λz Mt=>z =.cu/\Mt=upd H9 BM (.lst (xs++[v]))) I9 rfl (.cons r9 .nil) ⟨BM,xs,v,Z,Z,hxs,hxl,Z,Z⟩) λz s10 ⟨zv,Mt,Mu,r10,ez,eH⟩=>?_
    subst eH
    refine⟨m',hm,i+1,σ8,_,Mu.rV,T.keep _ _ _ Ff λb hb o e=>(Mu.pin (b,o) (kC _ (kC _ (jX hb e)))).1,λb hb=>?_,w9⟩
    obtain⟨o,e,d⟩:=T.obj _ _ Ff b hb
    exact(Mu.pin (b,o) (kC _ (kC _ (jX hb e)))).2.1
 exact codeAny_compStart_list loop (T.self _ 0 _ _ _ Vb loop)
end
variable {BM:Addr}
theorem SX{lo:Int}{k:Nat}{Q:VK}(Pv:Nat->Da V->Hp->Prop)(hn:n<=100000)(h0:Pv 0 [] (upd H BM (.lst [])))(hs:∀(i:Nat) (out:Da V) (H1:Hp),i<n->out.length=i->H1 BM=some (.lst out)->Pv i out H1->te (σ2.set k (some (.int (lo+i)))) H1 (vJ Pv i BM out))(hd:∀(out:Da V) (H1:Hp),out.length=n->H1 BM=some (.lst out)->Pv n out H1->Q (.ref BM) H1):
  Cz (Jo lo n) (iA k) te BM σ2 H Q:=by
 refine⟨λi m σ' H'=>m=n-i/\i<=n/\(∀v,σ'.set k (some v)=σ2.set k (some v))/\∃out,out.length=i/\H' BM=some (.lst out)/\Pv i out H',⟨n,by simp,fD _,λ_=>rfl,[],Z,ak,h0⟩,?_⟩
 rintro i m σ' H' ⟨rfl,hi,hσ,out,ho,ha,p⟩
 by_cases hlt:i<n
 . refine .inr ⟨hlt,λσ3=>∀v,σ3.set k (some v)=σ2.set k (some v),(vJ Pv i BM out),λσ3 v H4 hS ⟨a,b⟩=>?_,λx H1 y=>?_⟩
   . refine⟨out,a,?_,n-(i+1),by omega,Z,hlt,hS,out++[v],by rw[c8,ho];rfl,ak,b⟩
     have:sizeLine=16777216:=gy
     omega
   . obtain⟨e,y⟩:=y
     subst e y
     refine⟨λv=>by rw[xw];exact hσ v,?_⟩
     have q:=hs i out _ hlt ho ha p
     rw[<-hσ]at q
     exact q
 . have e:i=n:=by omega
   subst e
   exact .inl ⟨aN _,hd out H' ho ha p⟩
variable {H':Hp}
def aE.bQ{p:Addr}(e:aE H H')(h:H p=none)(o:HO):aE H (upd H' p o):=λb u q=>by rw[av (aI q h)];exact e b u q
def Dh(n d:Int):SeqAt.shaped (.tuple [.int n,.int d])=true:=rfl
def XY(n d:Int):PyData.eqv (.tuple [.int n,.int d]) (.tuple [.int n,.int d])=true:=by simp[PyData.eqv,PyData.eqvAll]
variable {q:Rat}
def Vd{p:Addr}(h:H p=some (qE q)):Dt K H (.ref p) (.tuple [.int q.num,.int (q.den:Int)]):=.tup (cV.of h) (.cons (.int _) (.cons (.int _) .nil))
inductive ac3(vs:Da V)(H:Hp)(Q:VK)(E:XK):Prop
 |mk(t b:Int)(_:vs=[.int t,.int b])(_:0<b)(_:Jm.Sz 9000 b)(_:∀(r:Addr) (H':Hp),aE H H'->H' r=some (qE (Jm.fr t b))->Q (.ref r) H')
def CA:Sp:=bx (ac3)
def Jx{Q:VK}{E:XK}{t b:Int}(h0:0<b)(h1:Jm.Sz 9000 b)(h:∀(r:Addr) (H':Hp),aE H H'->H' r=some (qE (Jm.fr t b))->Q (.ref r) H'):CA [.int t,.int b] H Q E:=⟨t,b,Z,h0,h1,h⟩
inductive xIs(vs:Da V)(H:Hp)(Q:VK)(E:XK):Prop
 |mk(p:Addr)(q:Rat)(t b:Int)(_:vs=[.ref p,.int t,.int b])(_:H p=some (qE q))(_:0<b)(_:Jm.Sz 9000 b)(_:q=Jm.fr t b)(_:∀H',aE H H'->Q (.bl true) H')
def XZ:Sp:=bx (xIs)
def ac4{Q:VK}{E:XK}{p:Addr}{t b:Int}(hp:H p=some (qE q))(h0:0<b)(h1:Jm.Sz 9000 b)(e:q=Jm.fr t b)(h:∀H',aE H H'->Q (.bl true) H'):XZ [.ref p,.int t,.int b] H Q E:=⟨p,q,t,b,Z,hp,h0,h1,e,h⟩
section
variable {X:Cx}
theorem X0(hc:X.calm=true):iB X (.builtin "sum") (λxs H Q=>∃(a:Addr)(ns:Da Int),xs=[.ref a]/\az X.K H a (ns.map V.int)/\Q (.int ns.sum) H):=by
 intro AT s σ H xs us Q I r h;obtain⟨a,ns,rfl,hS,q⟩:=h;obtain⟨u,rfl,ru⟩:=vals1 r;cases ru;obtain⟨Bi,rv,p,hz⟩:=I.list hS;have hi:=intsAre_of rv;have hl:=p.isList;obtain⟨o,ho,_⟩:=id hl;have hne:a≠s.heap.objs.size:=eO (bY ho);have W:=(Walks.list (prog:=X.prog) (w:=X.w) (A:=X.A.in1) (I.ok.hd hc) s.heap.objs.size a hne Bi.toArray).toS;have Fi:Bi.length=ns.length:=by rw[<-rv.length,aD]
 refine call_sum_walkAnyS (Ss hl ?_);refine⟨s.heap.objs.size,_,_,_,_,_,_,λi=>ns.getD i 0,Z,W,⟨⟨_,fj _ rfl,Z,Z⟩,hl.at λo e=>cI _ e⟩,λb hb=>?_,λi v hP=>?_,λs' t' hm=>?_⟩
 .rcases c_.mp hb with rfl|hb
  .exact bY (fj _ rfl)
  .obtain rfl:=eE.mp hb;exact bY (cI _ ho)
 .have Ve:Bi[i]?=some v:=by simpa using hP
  have hil:i<ns.length:=by have:=(dZ.mp Ve).1;omega
  obtain⟨u,hu,ru⟩:=rv.get (i:=i) (x:=V.int ns[i]) (by rw[bH,aY hil];rfl);rw[Ve]at hu;cases hu;obtain⟨t,e⟩:=ru;refine⟨t,?_⟩;rw[e];show Value.int ns[i] t=Value.int (ns.getD i 0) t;rw[gT,aY hil];rfl
 .obtain ⟨h',g',d',tk',os'⟩:=s';have e1:g'=s.gens:=hm.gens;have e2:d'=s.drawn:=hm.drawn;have e3:os'=s.os:=hm.os;subst e1 e2 e3;have hsz:Bi.toArray.size=ns.length:=by rw[jc,Fi]
  rw[hsz,preSum_getD,Ho (aN _)];exact⟨.int ns.sum,H,I.kept (h':=h') (t':=tk') λb o e=>hm.heap b o (λhb=>absurd (bY e) ((eE.mp hb)▸jW _)) (cI _ e),⟨t',Z⟩,q⟩
theorem X3(hc:X.calm=true):iB X (.builtin "all") (λxs H Q=>∃(a:Addr)(bs:Da Bool),xs=[.ref a]/\az X.K H a (bs.map V.bl)/\Q (.bl (bs.all id)) H):=by
 intro AT s σ H xs us Q I r h;obtain⟨a,bs,rfl,hS,q⟩:=h;obtain⟨u,rfl,ru⟩:=vals1 r;cases ru;obtain⟨Bi,rv,p,hz⟩:=I.list hS;have hl:=p.isList;obtain⟨o,ho,_⟩:=id hl;have hne:a≠s.heap.objs.size:=eO (bY ho);have Fi:Bi.length=bs.length:=by rw[<-rv.length,aD]
 refine call_all_walk (Ss hl ?_);refine⟨s.heap.objs.size,_,_,_,_,_,λi=>bs.getD i false,Z,Walks.list (prog:=X.prog) (w:=X.w) (A:=X.A.in1) (I.ok.hd hc) s.heap.objs.size a hne Bi.toArray,⟨⟨_,fj _ rfl,Z,Z⟩,hl.at λo e=>cI _ e⟩,λi v s' Q' E' hP hQ=>?_,λh' tk hk=>?_⟩
 .have Ve:Bi[i]?=some v:=by simpa using hP
  have hil:i<bs.length:=by have:=(dZ.mp Ve).1;omega
  obtain⟨u,hu,ru⟩:=rv.get (i:=i) (x:=V.bl bs[i]) (by rw[bH,aY hil];rfl);rw[Ve]at hu;cases hu;have e:v=Value.bool bs[i] :=ru;subst e;refine AM ?_;have hQ2:Q' (bs.getD i false) s':=hQ;rw[gT,aY hil]at hQ2;exact hQ2
 .have hsz:Bi.toArray.size=bs.length:=by rw[jc,Fi]
  have e:(List.range Bi.toArray.size).all (λi=>bs.getD i false)=bs.all id:=by
   rw[hsz,xr,qp,qp];refine⟨λz x hx=>?_,λz i hi=>?_⟩
   .obtain ⟨i,hi,e⟩:=List.mem_iff_getElem.mp hx;have:=z i (zy.mpr hi);rw[gT,aY hi]at this;rw[<-e];exact this
   .have hi':=zy.mp hi;rw[gT,aY hi'];exact z _ (uZ hi')
  rw[e];exact⟨.bl (bs.all id),H,I.kept (h':=h') (t':=tk) λb o e=>hk b o (λhb=>absurd (bY e) ((eE.mp hb)▸jW _)) (cI _ e),Z,q⟩
end
section
variable {X:Cx}(K:Fg)
def bM(hK:X.K=K:=by rfl):Ay X (L7 K):=hK▸UU
def aK(hK:X.K=K:=by rfl):Ay X (L6 K):=hK▸QY
def HJ(hu:X.A.units+64<cLine)(hK:X.K=K:=by rfl):ji X (compareOp .Eq) (XW K):=hK▸acS hu
def HK(hu:X.A.units+64<cLine)(hK:X.K=K:=by rfl):ji X (compareOp .NotEq) (SW K):=hK▸acT hu
def ju(hc:X.calm=true)(hK:X.K=K:=by rfl):iB X (.builtin "sum") (λxs H Q=>∃(a:Addr)(ns:Da Int),xs=[.ref a]/\az K H a (ns.map V.int)/\Q (.int ns.sum) H):=hK▸X0 hc
def Vf(hc:X.calm=true)(hK:X.K=K:=by rfl):iB X (.builtin "all") (λxs H Q=>∃(a:Addr)(bs:Da Bool),xs=[.ref a]/\az K H a (bs.map V.bl)/\Q (.bl (bs.all id)) H):=hK▸X3 hc
def bL(hK:X.K=K:=by rfl):iB X (.builtin "len") (λxs H Q=>∃p ys,xs=[.ref p]/\(az K H p ys\/cV K H p ys)/\Q (.int ys.length) H):=hK▸L_
def lZ(hK:X.K=K:=by rfl):iB X (.type "list") (λxs H Q=>∃p ys,xs=[.ref p]/\(az K H p ys\/cV K H p ys)/\∀l,H l=none->Q (.ref l) (upd H l (.lst ys))):=hK▸Mb
def dM(hK:X.K=K:=by rfl):iB X (.builtin "isinstance") (λxs H Q=>∃x n t b,xs=[x,.ty n]/\h_ K H x t/\PySem.W.kitOne K t (.type n)=some b/\Q (.bl b) H):=hK▸Pb
end
theorem Pc{l1 l2:Nat}(h1:l1<n)(h2:l2<n):ZipApart (n+4) (n+2) (n+3) n (n+1) l1 l2:=by
 have nn:∀i j:Nat,i≠j->n+i≠n+j:=λi j h e=>h (Nat.add_left_cancel e);have ne:∀(c k:Nat),c<n->c≠n+k:=λc k h=>by omega
 exact⟨nn 2 4 (by decide),nn 3 4 (by decide),nn 0 4 (by decide),nn 1 4 (by decide),nn 2 3 (by decide),nn 2 0 (by decide),nn 2 1 (by decide),nn 3 0 (by decide),nn 3 1 (by decide),nn 0 1 (by decide),ne _ 4 h1,ne _ 3 h1,ne _ 0 h1,ne _ 1 h1,ne _ 4 h2,ne _ 3 h2,ne _ 0 h2,ne _ 1 h2⟩
section
variable {X:Cx}{DD:Da Expr}{kk:Nat}{tpos:Pos}
end
inductive afR(K:Fg)(vs:Da V)(H:Hp)(Q:VK)(E:XK):Prop
 |mk(a:Addr)(ns:Da Int)(k j:Int)(_:vs=[.ref a,.int k,.int j])(_:az K H a (ns.map V.int))(_:ns.length<=63)(_:0<=k)(_:0<=j)(_:j<2 ^ 61)(_:∀(m:Int) (H':Hp),1<=m->m<=1000000000->aE H H'->Q (.int m) H')
def Mv(K:Fg):Sp:=bx (afR K)
def X4{Q:VK}{E:XK}{k j:Int}(hS:az K H a (ns.map V.int))(h63:ns.length<=63)(h1:0<=k)(h2:0<=j)(h3:j<2 ^ 61)(h:∀(m:Int) (H':Hp),1<=m->m<=1000000000->aE H H'->Q (.int m) H'):Mv K [.ref a,.int k,.int j] H Q E:=⟨a,ns,k,j,Z,hS,h63,h1,h2,h3,h⟩
variable {xs:Da V}{i:Nat}
def iY{v:V}(h:xs[i]?=some v):qa xs (i:Int)=some v:=aO h
section
variable {X:Cx}
inductive afS(Q:VK)(vs:Da V)(H1:Hp):Prop
 |mk(j:Int)(_:vs=[.int j])(_:∀p,H1 p=none->Q (.ref p) (upd H1 p (.xx 0 j)))
def ajb(ta:TA):TE:=λσ H Q=>ta σ H (afS Q)
noncomputable def upTo(n:Nat):Da Int:=(List.range n).map λi=>((i:Nat):Int)
theorem Kl(hc:X.calm=true):iB X (.type "list") (λxs H Q=>∃(r:Addr)(n:Nat),xs=[.ref r]/\H r=some (.xx 0 (n:Int))/\n<=1000/\∀l,H l=none->Q (.ref l) (upd H l (.lst ((upTo n).map V.int)))):=by
 intro AT s σ H xs us Q I r h;obtain⟨a,n,rfl,hr,hn,q⟩:=h;obtain⟨u,rfl,ru⟩:=vals1 r;cases ru;obtain⟨t,t2,t3,e⟩:=(show d8 X.prog X.w H s.heap a (.xx 0 (n:Int))from I.hok a _ hr)
 refine call_list_range (n:=n) (I.ok.hd hc) e (small_one (by decide) (by decide) (by omega) (by omega)) (by rw[rangeSize_one];split <;> omega) (by omega) λh' tk acc' c' hk hS hI=>?_;obtain⟨hsz,hit⟩:=hI;have hv:Vals ((upTo n).map V.int) acc'.toList:=by
  have gen:∀(m:Nat)(us:Da Value)(k:Nat),us.length=m->(∀(j:Nat)(v:Value),us[j]?=some v->∃t,v =.int ((0:Int)+((k+j:Nat):Int)*1) t)->Vals (((List.range' k m).map λi=>((i:Nat):Int)).map V.int) us:=by
   intro m
   induction m with
   | zero=>intro us k hl _;rw[List.length_eq_zero_iff.mp hl];exact .nil
   | succ m ih=>
    intro us k hl hu;cases us with
    | nil=>cases hl
    | cons v r=>
     obtain⟨t,e⟩:=hu 0 v rfl;refine .cons ⟨t,?_⟩ (ih r (k+1) (by simpa using hl) λj v' hj=>?_)
     .rw [e];show Value.int _ t=Value.int ((k:Nat):Int) t;congr 1;omega
     .obtain ⟨t,e⟩:=hu (j+1) v' (by simpa using hj);exact⟨t,by rw[e];congr 1;omega⟩
  have:=gen n acc'.toList 0 (by simpa using hsz) λj v hj=>by obtain⟨t,e⟩:=hit j v (by simpa using hj);exact⟨t,by rw[e];congr 1;omega⟩
  unfold upTo;rw[List.range_eq_range'];exact this
 have hlen:((upTo n).map V.int).length<=sizeLine:=by unfold upTo;simp;exact small (by omega)
 exact⟨.ref s.heap.objs.size,_,I.laid (a:=s.heap.objs.size) (o:=.lst ((upTo n).map V.int)) (h':=h') (t':=tk) hk (aN _) ⟨hlen,acc'.toList,c',hv,by simpa using hS⟩,Z,q _ I.fresh⟩
inductive aaD(K:Fg)(Q:VK)(x:V)(y:V)(H2:Hp):Prop
 |mk(_:y =.int (-1))(a xs:_)(_:x =.ref a)(_:az K H2 a xs)(_:∀p,H2 p=none->Q (.ref p) (upd H2 p (.lst xs.reverse)))
def afT(K:Fg)(ts:TE)(σ:St)(Q:VK):V->Hp->Prop:=λx H1=>ts σ H1 (aaD K Q x)
def ajc(K:Fg)(te ts:TE):TE:=λσ H Q=>te σ H (afT K ts σ Q)
end
theorem vn{k:Nat}(h:k<n):De n (k:Int)=some k:=by unfold De;rw[aC (by omega),aC (by omega)];rfl
abbrev tx(cs:Da Nat):Str:=⟨cs.toArray⟩
def yx(x:Str):tx x.cps.toList=x:=by cases x;rfl
def lH(cs:Da Nat):(tx cs).length=cs.length:=by show cs.toArray.size=_;rw[jc]
def Vg(a b:Da Nat):(tx a++tx b:Str)=tx (a++b):=by show(⟨a.toArray++b.toArray⟩:Str)=_;simp[tx]
def Zy(cs:Da Nat):It:=⟨λi _=>i<cs.length,λi H v H'=>H'=H/\∃c,cs[i]?=some c/\v =.str (tx [c]),λi _=>cs.length<=i⟩
theorem SY{P:Program}{w:World}{K:Fg}{tg:Expr}(x:Str)(t:Tok)(it:Addr):Turn P w K tg (Zy x.cps.toList) [it] it (λi h=>h.IsStrIter it "str_ascii_iterator" x t i) where
 mem:=by simp
 obj:=λi h st b hb=>by
  have e:b=it:=by simpa using hb
  subst e;obtain⟨o,e,c,d⟩:=st;exact⟨o,e,λv z=>by rw[d]at z;cases z⟩
 keep:=λi h h' st k=>let⟨o,ho,r⟩:=st;⟨o,k it (by simp) o ho,r⟩
 item:=by
  intro X hP hw hK hc i AT s σ H E I hf st hg;subst hP hw hK;have hi:i<x.cps.size:=by have hg':i<x.cps.toList.length:=hg;simpa using hg'
  obtain⟨f0,f1,f2,f3,f4,f5⟩:=hf it (by simp);refine wpAny_pyNext_ascii_item st (c:=x.cps[i]) (by simp[hi]) λh' st' sb=>?_;have I1:Inv X AT σ H { s with heap:=h',toks:=s.toks+1 }:=I.turned (t':=s.toks+1) (λb o hb e=>sb.extBut b o hb e) f0 f1 f3 f4 f5;obtain⟨o,e,c,d⟩:=id st';exact⟨_,Z,Cq (s:={ s with heap:=h',toks:=s.toks+1 }) e c d (by decide) ⟨.str (tx [x.cps[i]]),H,I1,⟨_,Z⟩,⟨Z,x.cps[i],by simp[hi],Z⟩,st',λb hb=>(hf b hb).1⟩⟩
 done:=by
  intro X hP hw hK hc i AT s σ H E I hf st hg;subst hP hw hK;have hi:x.cps.size<=i:=by have hg':x.cps.toList.length<=i:=hg;simpa using hg'
  obtain⟨f0,f1,f2,f3,f4,f5⟩:=hf it (by simp);exact wpAny_pyNext_ascii_end (I.ok.hd hc) st (by simp;omega) λh' eb=>⟨Z,I.turned (t':=s.toks) (λb o hb e=>eb b o hb e) f0 f1 f3 f4 f5⟩
 self:=λ_ _ _ _ _ st h=>wpAny_pyIter_striter_ascii st h
theorem Vh{P:Program}{w:World}{K:Fg}{tg:Expr}(x:Str)(t:Tok)(it:Addr):Turn P w K tg (Zy x.cps.toList) [it] it (λi h=>h.IsStrIter it "str_iterator" x t i) where
 mem:=by simp
 obj:=λi h st b hb=>by
  have e:b=it:=by simpa using hb
  subst e;obtain⟨o,e,c,d⟩:=st;exact⟨o,e,λv z=>by rw[d]at z;cases z⟩
 keep:=λi h h' st k=>let⟨o,ho,r⟩:=st;⟨o,k it (by simp) o ho,r⟩
 item:=by
  intro X hP hw hK hc i AT s σ H E I hf st hg;subst hP hw hK;have hi:i<x.cps.size:=by have hg':i<x.cps.toList.length:=hg;simpa using hg'
  obtain⟨f0,f1,f2,f3,f4,f5⟩:=hf it (by simp);refine wpAny_pyNext_wide_item st (c:=x.cps[i]) (by simp[hi]) λh' st' sb=>?_;have I1:Inv X AT σ H { s with heap:=h',toks:=s.toks+1 }:=I.turned (t':=s.toks+1) (λb o hb e=>sb.extBut b o hb e) f0 f1 f3 f4 f5;obtain⟨o,e,c,d⟩:=id st';exact⟨_,Z,Cq (s:={ s with heap:=h',toks:=s.toks+1 }) e c d (by decide) ⟨.str (tx [x.cps[i]]),H,I1,⟨_,Z⟩,⟨Z,x.cps[i],by simp[hi],Z⟩,st',λb hb=>(hf b hb).1⟩⟩
 done:=by
  intro X hP hw hK hc i AT s σ H E I hf st hg;subst hP hw hK;have hi:x.cps.size<=i:=by have hg':x.cps.toList.length<=i:=hg;simpa using hg'
  obtain⟨f0,f1,f2,f3,f4,f5⟩:=hf it (by simp);exact wpAny_pyNext_wide_end (I.ok.hd hc) st (by simp;omega) λh' eb=>⟨Z,I.turned (t':=s.toks) (λb o hb e=>eb b o hb e) f0 f1 f3 f4 f5⟩
 self:=λ_ _ _ _ _ st h=>wpAny_pyIter_striter_wide st h
variable {cs:Da Nat}
section
variable {X:Cx}{tg:Expr}
inductive afU(R:It->Hp->Prop)(x:V)(H1:Hp):Prop
 |mk(cs:Da Nat)(_:x =.str (tx cs))(_:R (Zy cs:_) H1)
def ac5(te:TE):TI:=λσ H R=>te σ H (afU R)
def ac6{l:Expr}{tl:TE}(hl:PE X l tl):PI X tg l (ac5 tl):=by
 intro AT s σ H R I h;refine br (hl AT s σ H _ I h) λv s1 ⟨x,H1,I1,r1,q1⟩=>?_;obtain⟨cs,e,q⟩:=q1;subst e;obtain⟨t,rfl⟩:=r1;have fp:∀b∈[s1.heap.objs.size],qA X AT H1 b:=λb hb=>by
  have e:b=s1.heap.objs.size:=by simpa using hb
  subst e;exact I1.DN (aN _) (I1.hok.fresh (aN _))
 have tw:=@Vh X.prog X.w X.K tg (tx cs) t s1.heap.objs.size;have ta:=@SY X.prog X.w X.K tg (tx cs) t s1.heap.objs.size;cases ha:(tx cs).cps.all (·<128)
 .exact wpAny_pyIter_wide ha ⟨s1.heap.objs.size,[s1.heap.objs.size],_,_,H1,Z,I1.kept (t':=s1.toks) λb o e=>cI _ e,tw,⟨_,fj _ rfl,Z,Z⟩,fp,q⟩
 .exact wpAny_pyIter_ascii ha ⟨s1.heap.objs.size,[s1.heap.objs.size],_,_,H1,Z,I1.kept (t':=s1.toks) λb o e=>cI _ e,ta,⟨_,fj _ rfl,Z,Z⟩,fp,q⟩
theorem X5{k:Nat}{Q:VK}(Pv:Nat->Da V->Hp->Prop)(hn:cs.length<=100000)(h0:Pv 0 [] (upd H BM (.lst [])))(hs:∀(i:Nat) (c:Nat) (out:Da V) (H1:Hp),cs[i]?=some c->out.length=i->H1 BM=some (.lst out)->Pv i out H1->te (σ2.set k (some (.str (tx [c])))) H1 (vJ Pv i BM out))(hd:∀(out:Da V) (H1:Hp),out.length=cs.length->H1 BM=some (.lst out)->Pv cs.length out H1->Q (.ref BM) H1):
  Cz (Zy cs) (iA k) te BM σ2 H Q:=by
 refine⟨λi m σ' H'=>m=cs.length-i/\i<=cs.length/\(∀v,σ'.set k (some v)=σ2.set k (some v))/\∃out,out.length=i/\H' BM=some (.lst out)/\Pv i out H',⟨cs.length,by simp,fD _,λ_=>rfl,[],Z,ak,h0⟩,?_⟩
 rintro i m σ' H' ⟨rfl,hi,hσ,out,ho,ha,p⟩
 by_cases hlt:i<cs.length
 . refine .inr ⟨hlt,λσ3=>∀v,σ3.set k (some v)=σ2.set k (some v),(vJ Pv i BM out),λσ3 v H4 hS ⟨a,b⟩=>?_,λx H1 y=>?_⟩
   . refine⟨out,a,?_,cs.length-(i+1),by omega,Z,hlt,hS,out++[v],by rw[c8,ho];rfl,ak,b⟩
     have:sizeLine=16777216:=gy
     omega
   . obtain⟨e,c,hc,ex⟩:=y
     subst e ex
     refine⟨λv=>by rw[xw];exact hσ v,?_⟩
     have q2:=hs i c out _ hc ho ha p
     rw[<-hσ]at q2
     exact q2
 . have e:i=cs.length:=by omega
   subst e
   exact .inl ⟨aN _,hd out H' ho ha p⟩
noncomputable def x6(cs:Da Nat)(lo hi:Option Int):Da Nat:=(cs.drop (HT.vF cs.length 0 lo)).take (HT.vF cs.length cs.length hi-HT.vF cs.length 0 lo)
theorem Di(cs:Da Nat)(lo hi:Option Int):(x6 cs lo hi).length<=cs.length:=by unfold x6;rw[kL,List.length_drop];omega
theorem S0(cs:Da Nat)(lo hi:Option Int):Builtin.Str.strSliceIndices lo hi 1 cs.length=(List.range (HT.vF cs.length cs.length hi-HT.vF cs.length 0 lo)).map (HT.vF cs.length 0 lo+·):=by
 rw[<-sliceRange_one];unfold Builtin.Str.strSliceIndices;simp only[show((1:Int)>0)=True from by simp,sX];congr 1
 .cases lo with
  | none=>rfl
  | some i=>
   simp only[HT.vF];by_cases h:i<0
   .simp only[h,sX] <;> omega
   .simp only[h,nO] <;> omega
 .cases hi with
  | none=>rfl
  | some i=>
   simp only[HT.vF];by_cases h:i<0
   .simp only[h,sX] <;> omega
   .simp only[h,nO] <;> omega
inductive ajd(x:V)(lo:Option Int)(hi:Option Int)(H:Hp)(Q:VK):Prop
 |mk(cs:_)(_:x =.str (tx cs))(_:cs.length<=sizeLine)(_:Q (.str (tx (x6 cs lo hi))) H)
theorem ac7:SlR X ajd:=by
 intro AT s σ H x v vl vu lo hi sl Q I rx hs pl pu h;obtain⟨cs,rfl,hz,q⟩:=h;obtain⟨t,rfl⟩:=rx;refine⟨"str",_,F.slot_str_getitem.lookup,typeIs_str s _ t,?_⟩;obtain⟨l,rfl,el⟩:∃l:Option (Int×Tok),vl=partValue l/\l.map (·.1)=lo:=by
  cases pl with
  | none=>exact⟨none,Z,Z⟩
  | int i t=>exact⟨some (i,t),Z,Z⟩
 obtain⟨u,rfl,eu⟩:∃u:Option (Int×Tok),vu=partValue u/\u.map (·.1)=hi:=by
  cases pu with
  | none=>exact⟨none,Z,Z⟩
  | int i t=>exact⟨some (i,t),Z,Z⟩
 refine wpAny_getItem_str_slice (l:=l) (u:=u) (st:=none) hs rfl ?_;have e1:slicePicked (tx cs) l u none=(List.range (HT.vF cs.length cs.length hi-HT.vF cs.length 0 lo)).map (HT.vF cs.length 0 lo+·):=by unfold slicePicked;rw[el,eu,lH];exact S0 cs lo hi
 have e2:(slicePicked (tx cs) l u none).filterMap ((tx cs).cps[·]?)=x6 cs lo hi:=by rw[e1,pick_run];rfl
 unfold sliceMade;split
 .rename_i hc;have hl:(slicePicked (tx cs) l u none).length=cs.length:=by have:=(mJ.mp hc).2;rw[lH]at this;simpa using this
  have aje:x6 cs lo hi=cs:=by
   rw[e1,aD,zh]at hl;unfold x6;have h1:=HT.acv cs.length cs.length (aN _) hi;have h0:HT.vF cs.length 0 lo=0\/cs.length=0:=by omega
   rcases h0 with h0|h0
   .rw [h0]at hl ⊢;rw[List.drop_zero,hl,bV]
   .have:cs=[] :=List.length_eq_zero_iff.mp h0;subst this;simp
  rw[aje]at q;exact⟨.str (tx cs),H,I,⟨t,Z⟩,q⟩
 .show (Made.str ⟨_⟩).post _ _;rw[e2];refine⟨?_,.str (tx (x6 cs lo hi)),H,I.tok _,⟨_,Z⟩,q⟩;show(tx (x6 cs lo hi)).length<=sizeLine;rw[lH];exact fZ (Di cs lo hi) hz
end
def aaE(cs:Da Nat)(k:Nat):x6 cs none (some (k:Int))=cs.take k:=by
 unfold x6;rw[HT.XD,HT.aap,List.drop_zero,Nat.sub_zero];rcases Nat.le_total k cs.length with h|h
 .rw [Nat.min_eq_left h]
 .rw [Nat.min_eq_right h,bV,Ho h]
noncomputable def Fj(signs:Str)(c:Nat):Bool:=!(Builtin.Str.occurrences signs (tx [c]) 0 signs.length 1).isEmpty
noncomputable def mT(c:Int)(n:Nat):Da Nat:=(List.range n).map λi=>97+((c / 26 ^ i) % 26).toNat
def zO(c:Int)(n:Nat):(mT c n).length=n:=by unfold mT;rw[aD,zh]
def X6(c:Int)(n:Nat):mT c (n+1)=mT c n++[97+((c / 26 ^ n) % 26).toNat] :=by unfold mT;rw[List.range_succ,bw];rfl
theorem Vi{k:Int}(h0:0<=k)(h1:k<26):qa (("abcdefghijklmnopqrstuvwxyz":Str).cps.toList) k=some (97+k.toNat):=by
 have h:∀n:Nat,n<26->("abcdefghijklmnopqrstuvwxyz":Str).cps.toList[n]?=some (97+n):=by decide +kernel
 have e:k=((k.toNat:Nat):Int):=by omega
 have:=aO (h k.toNat (by omega));rw[<-e]at this;exact this
structure HL(vs:Da V)(H:Hp)(Q:VK)(E:XK):Prop where
 ex:∃(c:Int)(n:Nat),vs=[.int c,.int (n:Int)]/\0<=c/\n<=1000/\Q (.str (tx (mT c n))) H
def Mw{Q:VK}{E:XK}{c ni:Int}(e:ni=(n:Int))(hc:0<=c)(hn:n<=1000)(q:Q (.str (tx (mT c n))) H):HL [.int c,.int ni] H Q E:=by subst e;exact⟨c,n,Z,hc,hn,q⟩
inductive aaF(vs:Da V)(H:Hp)(Q:VK)(E:XK):Prop
 |mk(cs:Da Nat)(signs:Str)(_:vs=[.str (tx cs),.str signs])(_:cs.length<=100000)(_:∀H',aE H H'->Q (.bl (cs.all (Fj signs))) H')
def DQ:Sp:=bx (aaF)
def S3{H:Hp}{Q:VK}{E:XK}{cs:Da Nat}{signs:Str}(hl:cs.length<=100000)(q:∀H',aE H H'->Q (.bl (cs.all (Fj signs))) H'):DQ [.str (tx cs),.str signs] H Q E:=⟨cs,signs,Z,hl,q⟩
noncomputable def isName(cs:Da Nat):Bool:=decide (1<=(cs.length:Int)) && decide ((cs.length:Int)<=8) && cs.all (Fj "abcdefghijklmnopqrstuvwxyz")
inductive aaG(vs:Da V)(H:Hp)(Q:VK)(E:XK):Prop
 |mk(cs:Da Nat)(_:vs=[.str (tx cs)])(_:cs.length<=100000)(_:∀H',aE H H'->Q (.bl (isName cs)) H')
def zP:Sp:=bx (aaG)
def Fl{Q:VK}{E:XK}(hl:cs.length<=100000)(q:∀H',aE H H'->Q (.bl (isName cs)) H'):zP [.str (tx cs)] H Q E:=⟨cs,Z,hl,q⟩
def Fo{p q:Prop}(h:if true=true then p else q):p:=by rwa [aC rfl]at h
def Fp{p q:Prop}(h:if false=true then p else q):q:=by rwa [aB gk]at h
variable {cond:Expr}
section
variable {prog:Program}{w:World}{A:Around}{R:Result->Shared->Prop}{s:Shared}
theorem Km{target:Expr}{it BM:Value}(J:Nat->Shared->Prop)(turn:∀n s,J n s->wpAny (model prog w) A (pyNext it) (λr s₁=>match r with
    | none=>R (.ok .next) s₁
    | some v=>wpAny (model prog w) A (letOwnedTupleGo target it v) (λ_ s₂=>wpAny (model prog w) A (assign target env v) (λ_ s₃=>wpAny (model prog w) A (isTrue cond env (eval cond env)) (λok s₃'=>if ok=true then
       wpAny (model prog w) A (eval elt env) (λx s₄=>wpAny (model prog w) A (call (.builtin "list.append") [BM,x]) (λ_ s₅=>∃m,m<n/\J m s₅) (λ_ _=>False) s₄) (λ_ _=>False) s₃'
       else ∃m,m<n/\J m s₃') (λ_ _=>False) s₃) (λ_ _=>False) s₂) (λ_ _=>False) s₁) (λ_ _=>False) s)(n:Nat)(h:J n s):codeAny (model prog w) A (.compLoop (.ListComp elt [⟨target,Bz,[cond],0⟩] scope pos) 0 it BM env) R s:=by
 refine codeAny_loop rfl J (λn s hI=>?_) n h
 show wpAny _ A ((compTurn (.ListComp elt [⟨target,Bz,[cond],0⟩] scope pos) 0 it BM env).onRaise (λx=>do noteFrame x env;theTreesLotGoes x)) _ _ s
 refine wpAny_noted ?_
 rw[compTurn_list]
 refine au (Cg (au (iM (turn n s hI) (λr s₁ h₁=>?_) λ_ _ h'=>h'.elim)))
 cases r with
 | none=>exact aW h₁
 | some v=>
   refine au (iM h₁ (λ_ s₂ h₂=>au (iM h₂ (λ_ s₃ h₃=>?_) λ_ _ h'=>h'.elim)) λ_ _ h'=>h'.elim)
   refine au (wpAny_tests_one (iM h₃ (λok s₃' h₃'=>?_) λ_ _ h'=>h'.elim))
   cases ok with
   | false=>exact aW ⟨Z,Fp h₃'⟩
   | true=>exact au (au (iM (Fo h₃') (λx s₄ h₄=>au (iM h₄ (λ_ s₅ h₅=>aW (aW ⟨Z,h₅⟩)) λ_ _ h'=>h'.elim)) λ_ _ h'=>h'.elim))
end
variable {tc:TT}{wi:TI}{px pos':Pos}
section
variable {X:Cx}
def A_(J:It)(g:TG)(tc:TT)(te:TE)(BM:Addr)(σ₀:St)(H:Hp)(Q:VK):Prop:=∃W:Nat->Nat->St->Hp->Prop,(∃m,W 0 m σ₀ (upd H BM (.lst [])))/\∀i m σ2 H2,W i m σ2 H2->(J.stop i H2/\Q (.ref BM) H2)\/(J.go i H2/\∃(S:St->Prop)(N:V->Hp->Prop)(N0:Hp->Prop),(∀σ3 v H4,S σ3->N v H4->∃xs,H4 BM=some (.lst xs)/\xs.length<sizeLine/\∃m',m'<m/\W (i+1) m' σ3 (upd H4 BM (.lst (xs++[v]))))/\(∀σ3 H4,S σ3->N0 H4->∃m',m'<m/\W (i+1) m' σ3 H4)/\∀x H',J.EX i H2 x H'->g x σ2 H' λσ3 H3=>S σ3/\tc σ3 H3 λb H4=>if b=true then te σ3 H4 N else N0 H4)
def aaH(ix:Da (Option Nat))(g:TG)(tc:TT)(te:TE)(σ:St)(Q:VK):It->Hp->Prop:=λJ H1=>∀BM,H1 BM=none->A_ J g tc te BM (pick ix σ) H1 Q
def Fq(wi:TI)(ix:Da (Option Nat))(g:TG)(tc:TT)(te:TE):TE:=λσ H Q=>wi σ H (aaH ix g tc te σ Q)
theorem Dj{ix:Da (Option Nat)}{Q:VK}{RR:Value->Addr->Result->Shared->Prop}(hc:X.calm=true)(hg:∀cl s₂ H₂ fp,PG (dj X N2 scope cl s₂ H₂ fp) tg g)(he:∀cl s₂ H₂ fp,PE (dj X N2 scope cl s₂ H₂ fp) elt te)(ht:∀cl s₂ H₂ fp,PT (dj X N2 scope cl s₂ H₂ fp) cond tc)(hk:scope.kind =.function)(hn:oK X.N X.env.scope.names scope.names N2 ix=true)(Mr:∀y c,(y,c)∈cl->X.env.cells.lookup y=some c)(HG:∀y,(y,NameKind.free)∈scope.names->∃c,(y,c)∈cl){it:Addr}{fp:Da Addr}{tn:Nat->Heap->Prop}{J:It}(I:Inv X AT σ H s)(T:Turn X.prog X.w X.K tg J fp it tn)(st:tn 0 s.heap)(f:∀b∈fp,qA X AT H b)(h:∀BM,H BM=none->A_ J g tc te BM (ix.map λo=>o.bind λj=>(σ[j]?).join) H Q)(hR:∀BM C H' s' m,Inv X AT σ H' s'->s'.heap.Ns C m->H' C=none->C≠X.env.locals->X.s₀.heap.objs.size<=C->(∀x c,X.env.cells.lookup x=some c->c≠C)->(∀p∈X.pn++AT,p.1≠C)->Q (.ref BM) H'->RR (.ref BM) C (.ok .next) s'):
  wpAny (model X.prog X.w) X.A (newList []) (λBM s₃=>wpAny (model X.prog X.w) X.A (newFunctionEnv scope X.env.globals cl [] X.env.qual none .none (some X.env)) (λcenv s₄=>
   codeAny (model X.prog X.w) X.A (.compStart (.ListComp elt [⟨tg,Bz,[cond],0⟩] scope pos) 0 (.ref it) BM { cenv with scope:=relabel scope X.env }) (RR BM cenv.locals) s₄) E s₃) E s:=by
 obtain⟨k1,k2,k3,k4,k5⟩:=nS hn
 refine zg ?_
 have I3:Inv X AT σ (upd H s.heap.objs.size (.lst [])) { s with heap:=s.heap.push { cls:=.type "list",data:=.seq ([] :Da Value).toArray } }:=
  I.laid (a:=s.heap.objs.size) (o:=.lst []) (t':=s.toks) (λ_ _ q=>cI _ q) (aN _) ⟨fD _,[],_,.nil,fj _ rfl⟩
 obtain⟨W,⟨m0,w0⟩,turn⟩:=h s.heap.objs.size I.fresh
 have fo:∀b∈fp,b<s.heap.objs.size:=λb hb=>by obtain⟨o,e,_⟩:=T.obj 0 _ st b hb;exact bY e
 have st3:tn 0 (s.heap.push { cls:=.type "list",data:=.seq ([] :Da Value).toArray }):=T.keep _ _ _ st λb _ o e=>cI _ e
 have f3:∀b∈fp,qA X AT (upd H s.heap.objs.size (.lst [])) b:=λb hb=>⟨by rw[av (eO (fo b hb))];exact(f b hb).1,(f b hb).2⟩
 have Va:∀b∈fp,b<(s.heap.push { cls:=.type "list",data:=.seq ([] :Da Value).toArray }).objs.size:=λb hb=>by rw[nN];exact Sx (fo b hb)
 generalize es3:({ s with heap:=s.heap.push { cls:=.type "list",data:=.seq ([] :Da Value).toArray } }:Shared)=s3 at *
 have eh3:s3.heap=s.heap.push { cls:=.type "list",data:=.seq ([] :Da Value).toArray }:=by rw[<-es3]
 rw[<-eh3]at st3 Va
 generalize s.heap.objs.size=BM at *
 generalize eH3:upd H BM (.lst [])=H3 at *
 have IY:=Fd (N2:=N2) (scope:=scope) (cl:=cl) (fp:=fp) (σ2:=ix.map λo=>o.bind λj=>(σ[j]?).join) I3 hk Mr HG f3 Va (by rw[aD];exact k1) (λi x v e1 e2=>by
  rw[bH]at e2;cases ei:ix[i]? with
  | none=>rw[ei]at e2;cases e2
  | some o=>
   rw[ei]at e2;cases o with
   | none=>cases e2
   | some j=>
    obtain⟨a1,a2,a3⟩:=k2 i x j e1 ei;refine⟨a2,a3,j,a1,?_⟩;have e3:(σ[j]?).join=some v:=gZ e2;cases ej:σ[j]? with
    | none=>rw[ej]at e3;cases e3
    | some z=>rw[ej]at e3;exact gP some e3) k5
 have ne:wpAny (model X.prog X.w) X.A (newFunctionEnv scope X.env.globals cl [] X.env.qual none .none (some X.env)) (λcenv s₄=>
   cenv={ scope:=scope,locals:=s3.heap.objs.size,globals:=X.env.globals,cells:=cellsFrom (s3.heap.objs.size+1) scope.names cl,qual:=X.env.qual,func:=none,code:=X.env.code,frame:=X.env.frame,builtins:=X.env.builtins }/\
   s₄={ s3 with heap:=pushCells (s3.heap.push { cls:=.type "dict",data:=.dict #[] }) scope.names }) E s3:=by
  simp only[newFunctionEnv,Option.isSome_some,sX]
  refine au (wpAny_alloc ?_)
  refine au (wpAny_layCells _ (λname kind cells=>by cases hkc:kind==NameKind.cell <;> simp[hkc]) _ _ _ _ ?_)
  rw[EN]
  refine au (aW (aW ⟨?_,Z⟩))
  rw[show({ s3 with heap:=s3.heap.push { cls:=.type "dict",data:=.dict #[] } }:Shared).heap.objs.size=s3.heap.objs.size+1 from nN ..]
 refine br ne λcenv s4 ⟨e1,e2⟩=>?_
 subst e1 e2
 have Vb:tn 0 (pushCells (s3.heap.push { cls:=.type "dict",data:=.dict #[] }) scope.names):=T.keep _ _ _ st3 λb _ o e=>Lq _ _ b o (cI _ e)
 have AZ:s3.heap.objs.size≠X.env.locals:=zz I3.lt
 have vK:∀{H':Hp},(∀b∈fp,H' b=none)->∀b∈fp,qA (dj X N2 scope cl s3 H3 fp) [] H' b:=λ{H'} hn b hb=>
  ⟨hn b hb,(IY.ok.LR b hb).1,IY.ok.DL b hb,.inl hb,(IY.ok.LR b hb).2,λp hp=>nomatch hp⟩
 have loop:codeAny (model X.prog X.w) X.A (.compLoop (.ListComp elt [⟨tg,Bz,[cond],0⟩] scope pos) 0 (.ref it) (.ref BM) (dj X N2 scope cl s3 H3 fp).env) (RR (.ref BM) s3.heap.objs.size)
   { s3 with heap:=pushCells (s3.heap.push { cls:=.type "dict",data:=.dict #[] }) scope.names }:=by
  refine Km (λn s'=>∃i σ' H',Inv (dj X N2 scope cl s3 H3 fp) [] σ' H' s'/\tn i s'.heap/\(∀b∈fp,H' b=none)/\W i n σ' H') ?_ m0 ⟨0,_,H3,IY,Vb,λb hb=>(f3 b hb).1,w0⟩
  rintro n s5 ⟨i,σ5,H5,I5,A0,Ms,w5⟩
  rcases turn i n σ5 H5 w5 with⟨stop,qn⟩|⟨go,S,N,N0,hSN,hS0,step⟩
  . refine br (T.done (dj X N2 scope cl s3 H3 fp) rfl rfl rfl hc i [] s5 σ5 H5 (λ_ _=>False) I5 (vK Ms) A0 stop) λr s6 ⟨hr,I6⟩=>?_
    subst hr
    obtain⟨m6,ns6,_⟩:=id I6.loc
    have IX:Inv X AT σ H5 s6:=I3.Lv (ch:=fp) I6.os I6.base I6.hok I6.bare λb hb=>⟨(f3 b hb).2.2.2.1,(f3 b hb).2.1,(f3 b hb).2.2.2.2.1,(f3 b hb).2.2.2.2.2⟩
    refine hR BM s3.heap.objs.size H5 s6 m6 IX ns6 I6.free AZ I3.sz (λx c e z=>?_) (λp hp z=>?_) qn
    . obtain⟨v,q⟩:=I3.cell x c e
      exact absurd q.lt (by rw[z];exact jW _)
    . exact absurd (bY (I3.pin p hp).1) (by rw[z];exact jW _)
  . refine br (T.item (dj X N2 scope cl s3 H3 fp) rfl rfl rfl hc i [] s5 σ5 H5 (λ_ _=>False) I5 (vK Ms) A0 go) λr s6 ⟨u,hr,h6⟩=>?_
    subst hr
    refine br h6 λ_ s7 ⟨x,H7,I7,r7,y7,Ff,Vc⟩=>?_
    have I7':=I7.pinned (vK Vc) (T.obj _ _ Ff)
    refine br (hg cl s3 H3 fp _ s7 σ5 H7 x u _ I7' r7 (step x H7 y7)) λ_ s8 ⟨σ8,H8,I8,Zx,q8⟩=>?_
    refine br (ht cl s3 H3 fp _ s8 σ8 H8 _ I8 q8) λok s9' ⟨H9',Zz,q9'⟩=>?_
    cases ok with
    | false=>
      obtain⟨m',hm,w9⟩:=hS0 σ8 H9' Zx (Fp q9')
      refine ite_ff ⟨m',hm,i+1,σ8,_,Zz.rV,T.keep _ _ _ Ff λb hb o e=>(Zz.pin (b,o) (kC _ (kC _ (jX hb e)))).1,λb hb=>?_,w9⟩
      obtain⟨o,e,d⟩:=T.obj _ _ Ff b hb
      exact(Zz.pin (b,o) (kC _ (kC _ (jX hb e)))).2.1
    | true=>
      refine ite_tt ?_
      refine br (he cl s3 H3 fp _ s9' σ8 H9' _ Zz (Fo q9')) λy s9 ⟨v,H9,I9,r9,q9⟩=>?_
      obtain⟨xs,hxs,hxl,m',hm,w9⟩:=hSN σ8 v H9 Zx q9
      refine br (eX _ s9 σ8 H9 (.ref BM) [v] (.ref BM) [y] (λz Mt=>z =.cu/\Mt=upd H9 BM (.lst (xs++[v]))) I9 rfl (.cons r9 .nil) ⟨BM,xs,v,Z,Z,hxs,hxl,Z,Z⟩) λz s10 ⟨zv,Mt,Mu,r10,ez,eH⟩=>?_
      subst eH
      refine⟨m',hm,i+1,σ8,_,Mu.rV,T.keep _ _ _ Ff λb hb o e=>(Mu.pin (b,o) (kC _ (kC _ (jX hb e)))).1,λb hb=>?_,w9⟩
      obtain⟨o,e,d⟩:=T.obj _ _ Ff b hb
      exact(Mu.pin (b,o) (kC _ (kC _ (jX hb e)))).2.1
 exact codeAny_compStart_list loop (T.self _ 0 _ _ _ Vb loop)
def X7(N2:Da Str)(ix:Da (Option Nat))(hc:X.calm=true)(hi:PI X tg Bz wi)(hg:∀cl s₂ H₂ fp,PG (dj X N2 scope cl s₂ H₂ fp) tg g)(he:∀cl s₂ H₂ fp,PE (dj X N2 scope cl s₂ H₂ fp) elt te)(ht:∀cl s₂ H₂ fp,PT (dj X N2 scope cl s₂ H₂ fp) cond tc)(hk:scope.kind =.function)(hn:oK X.N X.env.scope.names scope.names N2 ix=true)(hs:∀x,foldedSetIterable Bz X.env x=pure x:=by intro _;rfl):
  PE X (.ListComp elt [⟨tg,Bz,[cond],0⟩] scope pos) (Fq wi ix g tc te):=by
 intro AT s σ H Q I h
 obtain⟨k1,k2,k3,k4,k5⟩:=nS hn
 obtain⟨cl,My,c1,c2⟩:=u_ (scope:=scope) (env:=X.env) λy hy e=>I.ok.has y.1 (k3 y hy e)
 rw[eval_ListComp]
 refine R8 (use:=none) rfl hs My hk k4 (br (hi AT s σ H _ I h) λv s1 h1=>br h1 λitv s2 h2=>?_)
 obtain⟨it,fp,tn,J,H2,e,I2,T,st2,f2,h2⟩:=h2
 subst e
 refine Dj (RR:=λBM C=>compPost (model X.prog X.w) X.A X.xe none (EP X AT σ Q) BM C) (Q:=Q) hc hg he ht hk hn (λy c m=>(c1 y c m).1) c2 I2 T st2 f2 h2 ?_
 intro BM C H' s' m I' ns AZ hL hsz qF zQ q
 exact⟨m,ns,λh' hs'=>⟨.ref BM,H',I'.turned (it:=C) (t':=s'.toks) (λb o hb e=>(hs'.2 b hb).trans e) AZ hL (.inr hsz) qF zQ,Z,q⟩⟩
def X8(N2:Da Str)(ix:Da (Option Nat))(hN:X.N.Nodup)(hi:X.N[i]?=some x)(hx:X.env.scope.names.lookup x=some .local)(hc:X.calm=true)(hit:PI X tg Bz wi)(hg:∀cl s₂ H₂ fp,PG (dj X N2 scope cl s₂ H₂ fp) tg g)(he:∀cl s₂ H₂ fp,PE (dj X N2 scope cl s₂ H₂ fp) elt te)(ht:∀cl s₂ H₂ fp,PT (dj X N2 scope cl s₂ H₂ fp) cond tc)(hk:scope.kind =.function)(hn:oK X.N X.env.scope.names scope.names N2 ix=true)(hw:swapsWith (.ListComp elt [⟨tg,Bz,[cond],0⟩] scope pos) (some (.Name x px)) pos'.line X.env=pure true)(hs:∀x,foldedSetIterable Bz X.env x=pure x:=by intro _;rfl):
  PS X (.Assign [.Name x px] (.ListComp elt [⟨tg,Bz,[cond],0⟩] scope pos) pos') (AQ (Fq wi ix g tc te) (iA i)):=by
 intro AT s σ H D I h
 obtain⟨k1,k2,k3,k4,k5⟩:=nS hn
 obtain⟨cl,My,c1,c2⟩:=u_ (scope:=scope) (env:=X.env) λy hy e=>I.ok.has y.1 (k3 y hy e)
 rw[exec_Assign_Name_used _ _ _ _ hw]
 refine au (Cg (au ?_))
 show wpAny _ X.A (do let _ <-comprehension (.ListComp elt [⟨tg,Bz,[cond],0⟩] scope pos) scope X.env _ (newList []) false (eval Bz X.env) (some (assign (.Name x px) X.env))) _ _ s
 refine au (br (R8 (use:=some (assign (.Name x px) X.env)) (Q:=λ_ s'=>SP X AT D .next s') rfl hs My hk k4 (br (hit AT s σ H _ I h) λv s1 h1=>br h1 λitv s2 h2=>?_)) λ_ s' hq=>aW (aW hq))
 obtain⟨it,fp,tn,J,H2,e,I2,T,st2,f2,h2⟩:=h2
 subst e
 refine Dj (RR:=λBM C=>compPost (model X.prog X.w) X.A X.xe (some (assign (.Name x px) X.env)) (λ_ s'=>SP X AT D .next s') BM C) (Q:=λv H'=>D.nx (σ.set i (some v)) H') hc hg he ht hk hn (λy c m=>(c1 y c m).1) c2 I2 T st2 f2 h2 ?_
 intro BM C H' s' m I' ns AZ hL hsz qF zQ q
 show wpAny _ X.A (assign (.Name x px) X.env (.ref BM)) _ _ _
 refine wpAny_assign_Name (AN I' hN hi (.inl hx) (v:=.ref BM) rfl (λs3 I3 ⟨a,sb,ha⟩=>?_) (.inr hx))
 have ca:C≠a:=by
  rcases ha with z|z
  .rw [z];exact hL
  .exact λe=>qF x a z e.symm
 exact⟨m,ns.sameBut sb ca,λh' hs'=>⟨_,H',I3.turned (it:=C) (t':=s3.toks) (λb o hb e=>(hs'.2 b hb).trans e) AZ hL (.inr hsz) qF zQ,q⟩⟩
end
theorem Mz{α:Type}[DecidableEq α] :∀{l m:Da α},l.Nodup->(∀x∈l,x∈m)->l.length<=m.length
 | [],_,_,_=>fD _
 | x::r,m,h,hs=>by
  have hn:=gO.mp h;have hx:=hs x cQ;have:=Mz (l:=r) (m:=m.erase x) hn.2 λy hy=>by have hne:y≠x:=λe=>hn.1 (e▸hy);exact(List.mem_erase_of_ne hne).mpr (hs y (cL _ hy))
  rw[List.length_erase_of_mem hx]at this;have hp:0<m.length:=List.length_pos_of_mem hx;rw[jm];omega
def Vj(c:Int)(h:i<n):(mT c n)[i]?=some (97+((c / 26 ^ i) % 26).toNat):=by unfold mT;rw[bH,List.getElem?_range h];rfl
theorem aaI{c c':Int}{d:Nat}(h:d<n)(e:mT c n=mT c' n):(c / 26 ^ d) % 26=(c' / 26 ^ d) % 26:=by have h1:=Vj c h;rw[e,Vj c' h]at h1;have h2:=gZ h1;have a0:0<=(c / 26 ^ d) % 26:=oX _ (by decide);have b0:0<=(c' / 26 ^ d) % 26:=oX _ (by decide);omega
structure qG(x:Da Nat):Prop where
 lo:1<=x.length
 hi:x.length<=8
 Q3:∀c∈x,97<=c/\c<123
theorem ac9(c:Int)(h1:1<=n)(h2:n<=8):qG (mT c n):=by refine⟨by rw[zO];exact h1,by rw[zO];exact h2,λx hx=>?_⟩;obtain⟨i,_,rfl⟩:=bD.mp hx;have a0:0<=(c / 26 ^ i) % 26:=oX _ (by decide);have a1:(c / 26 ^ i) % 26<26:=zf _ (by decide);omega
noncomputable def tW(nss:Da (Da Nat)):Da V:=nss.map λx=>V.str (tx x)
def X_(nss:Da (Da Nat)):(tW nss).all sZ=true:=by unfold tW;rw[List.all_map,qp];exact λ_ _=>rfl
def Vk{a b:Da Nat}(h:tx a=tx b):a=b:=by
 have:a.toArray=b.toArray:=by injection h
 simpa using this
def Q5(x:Da Nat)(nss:Da (Da Nat)):L8 (.str (tx x)) (tW nss)=decide (x∈nss):=by
 unfold L8 tW;rw[List.any_map,xr,List.any_eq_true,decide_eq_true_eq];constructor
 .rintro ⟨y,hy,e⟩;have e2:Az (.str (tx y)) (.str (tx x))=true:=e;have e3:tx y=tx x:=by unfold Az at e2;simpa using e2
  rw[<-Vk e3];exact hy
 .intro h;refine⟨x,h,?_⟩;show Az (.str (tx x)) (.str (tx x))=true;unfold Az;simp
def aaJ(x:Str):PyData.eqv (.str x) (.str x)=true:=by unfold PyData.eqv;exact zj x
open PySem.NumText
section
variable {X:Cx}
end
def HM(lo st:Int)(n:Nat):It:=⟨λi _=>i<n,λi H x H'=>H'=H/\x =.int (lo+i*st),λi _=>n<=i⟩
variable {P:Program}{w:World}
theorem Pe(it:Addr)(lo st:Int)(n:Nat):Turn P w K tg (HM lo st n) [it] it (λi h=>IsRangeIter h it (lo+(i:Nat)*st) ((n:Int)-(i:Nat)) st) where
 mem:=by simp
 obj:=λi h st b hb=>by
  have e:b=it:=by simpa using hb
  subst e;exact⟨_,st,λv z=>by have z':Data.fields _=Data.cell v:=z;cases z'⟩
 keep:=λi h h' st k=>k it (by simp) _ st
 item:=by intro X hP hw hK hc i AT s σ H E I hf st' hg;subst hP hw hK;obtain⟨f0,f1,f2,f3,f4,f5⟩:=hf it (by simp);have W:=Walks.range (prog:=X.prog) (w:=X.w) (I.ok.hd hc) it lo st n;refine W.item i s _ _ hg st' λv h' tk hv st2 kk=>?_;obtain⟨t,rfl⟩:=hv;have I1:Inv X AT σ H { s with heap:=h',toks:=tk }:=I.turned (λb o hb e=>kk b o (by simpa using hb) e) f0 f1 f3 f4 f5;exact⟨_,Z,Cq (s:={ s with heap:=h',toks:=tk }) (n:="range_iterator") st2 rfl rfl (by decide) ⟨.int (lo+i*st),H,I1,⟨t,Z⟩,⟨Z,Z⟩,st2,λb hb=>(hf b hb).1⟩⟩
 done:=by intro X hP hw hK hc i AT s σ H E I hf st' hg;subst hP hw hK;obtain⟨f0,f1,f2,f3,f4,f5⟩:=hf it (by simp);exact wpAny_pyNext_range_end (I.ok.hd hc) st' (by have:n<=i:=hg;omega) λh' eb=>⟨Z,I.turned (t':=s.toks) (λb o hb e=>eb b o hb e) f0 f1 f3 f4 f5⟩
 self:=λ_ _ _ _ _ st h=>wpAny_pyIter_rangeiter st h
section
variable {X:Cx}{tg:Expr}
noncomputable def nT(lo hi st:Int):Nat:=(Builtin.Range.rangeSize lo hi st).toNat
inductive ac_(R:It->Hp->Prop)(vs:Da V)(H1:Hp):Prop
 |mk(i j k:Int)(_:vs=[.int i,.int j,.int k])(_:(0<=i/\i<=1000000/\0<=j/\j<=1000000/\0<k/\k<=1000000))(_:R (HM i k (nT i j k)) H1)
def afV(ta:TA):TI:=λσ H R=>ta σ H (ac_ R)
theorem Pf{a b c:Int}(h1:0<=a)(h2:a<=1000000)(h3:0<=b)(h4:b<=1000000)(h5:0<c)(h6:c<=1000000):Builtin.Range.small a b c=true/\0<=Builtin.Range.rangeSize a b c:=by
 have hr:0<=Builtin.Range.rangeSize a b c/\Builtin.Range.rangeSize a b c<=1000001:=by
  unfold Builtin.Range.rangeSize;rw[aC (by omega)];split
  .have e0:0<=(b-a-1) / c:=Lo (by omega) (by omega);have e1:(b-a-1) / c<=b-a-1:=Ll _ (by omega);omega
  .omega
 refine⟨?_,hr.1⟩;unfold Builtin.Range.small;simp only[Builtin.Range.rangeFitsLong,EK,Bool.or_eq_true,decide_eq_true_eq,mS,show c>0 from h5,sX];omega
end
def aaK(signs:Str)(c:Nat):Fj signs c=decide (c∈signs.cps.toList):=PySem.StrLaws.found_one signs c
open Builtin Builtin.Str
section
variable {X:Cx}
end
def Q6(c:Int)(j d:Nat):(c+(j:Int)*26 ^ d) / 26 ^ d=c / 26 ^ d+(j:Int):=by have hp:(26:Int) ^ d≠0:=Int.ne_of_gt (Int.pow_pos (by decide));rw[Int.add_mul_ediv_right _ _ hp]
variable {nss:Da (Da Nat)}{t:Nat}
theorem Vl{c:Int}{d:Nat}(h2:d<n)(ht:t<=26)(h:∀j:Nat,j<t->mT (c+(j:Int)*26 ^ d) n∈nss):t<=nss.length:=by
 have hn:((List.range t).map λj=>mT (c+((j:Nat):Int)*26 ^ d) n).Nodup:=by have:(List.range t).Pairwise (λa b=>a<b):=List.pairwise_lt_range;refine List.Pairwise.map _ ?_ (List.Pairwise.and_mem.mp this);rintro a b ⟨ha,hb,hab⟩ e;have ha':=zy.mp ha;have hb':=zy.mp hb;have:=aaI h2 e;rw[Q6,Q6]at this;omega
 have:=Mz hn λx hx=>by obtain⟨j,hj,rfl⟩:=bD.mp hx;exact h j (zy.mp hj)
 rw[aD,zh]at this;exact this
inductive ada(K:Fg)(vs:Da V)(H:Hp)(Q:VK)(E:XK):Prop
 |mk(a:Addr)(ms:Da Int)(k:Int)(BT:Nat)(_:vs=[.ref a,.int k,.int (BT:Int)])(_:az K H a (ms.map V.int))(_:ms.length<=63)(_:0<=k)(_:BT<=25)(_:∀(z:Addr) (nss:Da (Da Nat)) (H':Hp),aE H H'->H' z=some (.lst (tW nss))->H z=none->nss.length=BT->nss.Nodup->(∀x∈nss,qG x)->Q (.ref z) H')
def HN(K:Fg):Sp:=bx (ada K)
def Jy{Q:VK}{E:XK}{ms:Da Int}{k mi:Int}{BT:Nat}(hmi:mi=(BT:Int))(hS:az K H a (ms.map V.int))(h63:ms.length<=63)(h1:0<=k)(h2:BT<=25)(h:∀(z:Addr) (nss:Da (Da Nat)) (H':Hp),aE H H'->H' z=some (.lst (tW nss))->H z=none->nss.length=BT->nss.Nodup->(∀x∈nss,qG x)->Q (.ref z) H'):HN K [.ref a,.int k,.int mi] H Q E:=by
 subst hmi
 exact⟨a,ms,k,BT,Z,hS,h63,h1,h2,h⟩
def yy{a:Da (Key×V)}{b:Da (Key×Value)}(r:KV a b):∀{j:Nat}{p:Key×V},a[j]?=some p->∃q,b[j]?=some q/\p.1=q.1/\RelV p.2 q.2:=by
 induction r with
 | nil=>intro j p z;simp at z
 | cons r1 _ ih=>
  intro j p z;cases j with
  | zero=>simp at z;subst z;exact⟨_,Z,r1⟩
  | succ j=>simp at z;obtain⟨q,a1,a2⟩:=ih z;exact⟨q,by simpa using a1,a2⟩
abbrev qe(H:Hp)(d:Addr)(o:Obj)(Ap:Da (Key×V)):Prop:=H d=some (.fY o (.dK Ap))
section
variable {X:Cx}{AT:AO}{σ σ':St}{H H':Hp}{s s':Shared}{d:Addr}{Ap:Da (Key×V)}{o:Obj}
def Inv.freeze(I:Inv X AT σ H s)(e:H d=some (.dK Ap))(ho:s.heap.get? d=some o):Inv X AT σ (upd H d (.fY o (.dK Ap))) s:=by
 have nd:∀{b:Addr},H b=none->b≠d:=λh z=>by rw[z,e]at h;cases h
 have dn:∀{b:Addr},H b=none->upd H d (.fY o (.dK Ap)) b=none:=λh=>by rw[av (nd h)];exact h
 have un:∀{b:Addr}{u:HO},H b=some u->(∀k,u ≠ .dK k)->b≠d:=λh k z=>by rw[z,e]at h;cases h;exact k _ rfl
 refine⟨I.ok,I.os,I.bare,⟨I.base.keep,I.base.slot,λb ob q n x=>dn (I.base.free b ob q n x),I.base.there,λb xs q=>?_,λb ob u q=>?_,λb ps q=>?_⟩,I.loc,I.cell,dn I.free,λx c q=>dn (I.kM x c q),λp hp=>?_,λb ob q=>?_,I.len⟩
 .have:=I.base.tups b xs q;rw[av (un this λk z=>by cases z)];exact this
 .have:=I.base.oh b ob u q;rw[av (un this λk z=>by cases z)];exact this
 .obtain ⟨more,this⟩:=I.base.qy b ps q;exact⟨more,by rw[av (un this λk z=>by cases z)];exact this⟩
 .obtain ⟨h1,h2,h3⟩:=I.pin p hp;exact⟨h1,dn h2,h3⟩
 .by_cases hb:b=d
  .subst hb;rw[ak]at q;cases q;have:=I.hok b _ e;exact⟨ho,this⟩
  .rw [av hb]at q;refine(I.hok b ob q).stay (λc u _ z=>z) (λc z=>?_) λc xs z=>?_
   .rw [av (un z λk z=>by cases z)];exact z
   .rw [av (un z λk z=>by cases z)];exact z
def Inv.DR(I:Inv X AT σ H s)(e:qe H d o Ap)(h0:∀o u,X.H₀ d≠some (.fY o u)):Inv X AT σ (upd H d (.dK Ap)) s:=by
 have nd:∀{b:Addr},H b=none->b≠d:=λh z=>by rw[z]at h;exact absurd (h.symm.trans e) (by simp)
 have dn:∀{b:Addr},H b=none->upd H d (.dK Ap) b=none:=λh=>by rw[av (nd h)];exact h
 have un:∀{b:Addr}{u:HO},H b=some u->(∀o k,u ≠ .fY o k)->b≠d:=λh k z=>by rw[z]at h;have:=h.symm.trans e;cases this;exact k _ _ rfl
 refine⟨I.ok,I.os,I.bare,⟨I.base.keep,I.base.slot,λb ob q n x=>dn (I.base.free b ob q n x),I.base.there,λb xs q=>?_,λb ob u q=>?_,λb ps q=>?_⟩,I.loc,I.cell,dn I.free,λx c q=>dn (I.kM x c q),λp hp=>?_,λb ob q=>?_,I.len⟩
 .have:=I.base.tups b xs q;rw[av (un this λ_ k z=>by cases z)];exact this
 .have:=I.base.oh b ob u q;rw[av (λ(z:b=d)=>h0 ob u (by rw[<-z];exact q))];exact this
 .obtain ⟨more,this⟩:=I.base.qy b ps q;exact⟨more,by rw[av (un this λ_ k z=>by cases z)];exact this⟩
 .obtain ⟨h1,h2,h3⟩:=I.pin p hp;exact⟨h1,dn h2,h3⟩
 .by_cases hb:b=d
  .subst hb;rw[ak]at q;cases q;exact(I.hok b _ e).2
  .rw [av hb]at q;refine(I.hok b ob q).stay (λc u _ z=>z) (λc z=>?_) λc xs z=>?_
   .rw [av (un z λ_ k z=>by cases z)];exact z
   .rw [av (un z λ_ k z=>by cases z)];exact z
def Inv.Vm(I:Inv X AT σ H s)(e:H d=some (.dK Ap)):∀o u,X.H₀ d≠some (.fY o u):=λo u z=>by have:=I.base.oh d o u z;rw[e]at this;cases this
def Inv.tE(I:Inv X AT σ H s)(e:qe H d o Ap):s.heap.get? d=some o/\Ap.length<=sizeLine/\(d==sysModules)=false/\∃vs ep,KV Ap vs/\s.heap.DictAt (dw X.prog X.w) d vs ep:=by
 obtain⟨ho,hz,hs,vs,r,dd⟩:=(show d8 X.prog X.w H s.heap d (.fY o (.dK Ap))from I.hok d _ e)
 obtain⟨ep,da⟩:=dd.dictAt;exact⟨ho,hz,hs,vs,ep,r,da⟩
end
noncomputable def Ends.DR(D:Ends)(d:Addr)(o:Obj)(Ap:Da (Key×V)):Ends where
 nx:=λσ H=>qe H d o Ap/\D.nx σ (upd H d (.dK Ap))
 rt:=λv H=>qe H d o Ap/\D.rt v (upd H d (.dK Ap))
 bk:=λσ H=>qe H d o Ap/\D.bk σ (upd H d (.dK Ap))
 ct:=λσ H=>qe H d o Ap/\D.ct σ (upd H d (.dK Ap))
inductive ajf(t:TS)(D:Ends)(σ:St)(H:Hp):Prop
 |mk(d Ap:_)(_:H d=some (.dK Ap))(_:∀o,t (D.DR d o Ap) σ (upd H d (.fY o (.dK Ap))))
def ajg(t:TE):TE:=λσ H Q=>∃d Ap,H d=some (.dK Ap)/\∀o,t σ (upd H d (.fY o (.dK Ap))) λv H'=>qe H' d o Ap/\Q v (upd H' d (.dK Ap))
def Itv(d:Addr)(o:Obj)(Ap:Da (Key×V)):It:=⟨λi H=>qe H d o Ap/\i<Ap.length,λi H x H'=>H'=H/\∃p,Ap[i]?=some p/\x=p.2,λi H=>qe H d o Ap/\Ap.length<=i⟩
def Iti(d:Addr)(o:Obj)(Ap:Da (Key×V)):It:=⟨λi H=>qe H d o Ap/\i<Ap.length,λi H x H'=>∃a p,H a=none/\Ap[i]?=some p/\x =.ref a/\H'=upd H a (.tup [kV p.1,p.2]),λi H=>qe H d o Ap/\Ap.length<=i⟩
variable {h:Heap}{d:Addr}
def CB{vs:Da (Key×Value)}{e1 e2:Nat}{o:Obj}{es:Array DictEntry}(da:h.DictAt (dw P w) d vs e1)(ho:h.get? d=some o)(hd:o.data =.dict es e2):e1=e2:=by obtain⟨o',es',h1,_,h2,_⟩:=da;rw[ho]at h1;cases h1;rw[hd]at h2;cases h2;rfl
def MA{k:Key}{v:Value}(h:(dw P w).is k v=true):RelV (kV k) v:=by
 rw[Sy]at h;rcases gW h with⟨i,t,rfl,rfl⟩|⟨x,t,rfl,rfl⟩
 .exact ⟨t,Z⟩
 .exact ⟨t,Z⟩
variable {it:Addr}{Ap:Da (Key×V)}{ep:Nat}
theorem Vn{o:Obj}{es:Array DictEntry}(hd:o.data =.dict es ep):Turn P w K tg (Itv d o Ap) [it] it (λi h=>h.IsValIter it d i Ap.length ep) where
 mem:=by simp
 obj:=λi h st b hb=>by
  have e:b=it:=by simpa using hb
  subst e;obtain⟨o,e,c,d⟩:=st;exact⟨o,e,λv z=>by rw[d]at z;cases z⟩
 keep:=λi h h' st k=>st.at λo e=>k it (by simp) o e
 item:=by intro X hP hw hK hc i AT s σ H E I hf st hg;subst hP hw hK;obtain⟨hz,hlt⟩:=hg;obtain⟨ho,_,_,vs,yt,r,da⟩:=I.tE hz;cases CB da ho hd;have hl:Ap.length=vs.length:=r.length;obtain⟨q,hq,_,rq⟩:=yy r (aY hlt);obtain⟨qk,qv⟩:=q;rw[hl]at st;obtain⟨f0,f1,f2,f3,f4,f5⟩:=hf it (by simp);refine wpAny_pyNext_values_item st da hq λh' st' sb=>?_;have I1:Inv X AT σ H { s with heap:=h' }:=I.turned (t':=s.toks) (λb o hb e=>(sb.2 b hb).trans e) f0 f1 f3 f4 f5;obtain⟨oi,e,c,dd⟩:=id st';exact⟨_,Z,Cq (s:={ s with heap:=h' }) e c dd (by decide) ⟨Ap[i].2,H,I1,rq,⟨Z,Ap[i],aY hlt,Z⟩,by rw[hl];exact st',λb hb=>(hf b hb).1⟩⟩
 done:=by intro X hP hw hK hc i AT s σ H E I hf st hg;subst hP hw hK;obtain⟨hz,hle⟩:=hg;obtain⟨ho,_,_,vs,yt,r,da⟩:=I.tE hz;cases CB da ho hd;have hl:Ap.length=vs.length:=r.length;rw[hl]at st;obtain⟨f0,f1,f2,f3,f4,f5⟩:=hf it (by simp);exact wpAny_pyNext_values_end (I.ok.hd hc) st da (by rw[rR];omega) λh' eb=>⟨Z,I.turned (t':=s.toks) (λb o hb e=>eb b o hb e) f0 f1 f3 f4 f5⟩
 self:=λ_ _ _ _ _ st h=>wpAny_pyIter_valiter st h
variable {DD:Da Expr}
theorem S4{kk:Nat}{o:Obj}{es:Array DictEntry}(hd:o.data =.dict es ep):Turn P w K (.Tuple DD kk pos) (Iti d o Ap) [it] it (λi h=>∃ok ov,IsItemIter h it d i Ap.length ep ok ov) where
 mem:=by simp
 obj:=λi h st b hb=>by
  have e:b=it:=by simpa using hb
  subst e;obtain⟨ok,ov,e⟩:=st;exact⟨_,e,λv z=>by cases z⟩
 keep:=λi h h' ⟨ok,ov,st⟩ k=>⟨ok,ov,k it (by simp) _ st⟩
 item:=by
  intro X hP hw hK hc i AT s σ H E I hf st hg;subst hP hw hK;obtain⟨hz,hlt⟩:=hg;obtain⟨ok,ov,st⟩:=st;obtain⟨ho,_,_,vs,yt,r,da⟩:=I.tE hz;cases CB da ho hd;have hl:Ap.length=vs.length:=r.length;obtain⟨q,hq,ek,rq⟩:=yy r (aY hlt);obtain⟨qk,qv⟩:=q;rw[hl]at st;obtain⟨f0,f1,f2,f3,f4,f5⟩:=hf it (by simp);refine wpAny_pyNext_items_item st da hq λkey h1 hk st1 ht hsz hkeep=>?_;refine⟨_,Z,wpAny_letOwnedTupleGo_items (s:={ s with heap:=h1 }) st1 λh2 st2 sb=>?_⟩;have rk:RelV (kV Ap[i].1) key:=by rw[ek];exact MA hk
  have hil:it≠s.heap.objs.size:=eO (bY st);have xA:∀b o,b≠it->s.heap.get? b=some o->h2.get? b=some o:=λb o hb e=>sb.extBut b o hb (hkeep b o hb e);have I1:Inv X AT σ (upd H s.heap.objs.size (.tup [kV Ap[i].1,Ap[i].2])) { s with heap:=h2 }:=by
   have J:Inv X AT σ H { s with heap:=h2 }:=I.turned (t':=s.toks) xA f0 f1 f3 f4 f5;have hn:=I.fresh;have J2:Inv X AT σ (upd H s.heap.objs.size (.tup [kV Ap[i].1,Ap[i].2])) { s with heap:=h2,gens:=s.gens,drawn:=s.drawn,toks:=s.toks }:=by
    refine I.step (ch:=[it]) (λb hb=>⟨(hf b hb).2.2.2.1,(hf b hb).2.1,(hf b hb).2.2.2.2.1,(hf b hb).2.2.2.2.2⟩) (λb o _ _ hc' e _=>xA b o (by simpa using hc') e) (λb o _ _ hc' e _=>⟨o.slots,xA b o (by simpa using hc') e⟩) (λb o _ e n=>by rw[av (eO (bY e))];exact n) (λb o hc' e=>⟨o,xA b o (by simpa using hc') e⟩)
     (λb zs q=>by rw[av (aI q hn)];exact q) (λb o zs q=>by rw[av (aI q hn)];exact q) (λb ps q=>⟨#[],by rw[av (aI q hn),q];simp⟩) (λm hm=>?_) (λb ob e=>?_) I.bare
    .obtain ⟨o,es,ep,ho,r⟩:=hm;exact⟨o,es,ep,xA _ o (λq=>f1 q.symm) ho,r⟩
    .by_cases hb:b=s.heap.objs.size
     .subst hb;rw[ak]at e;cases e;exact⟨by show 2<=sizeLine;decide,[key,qv],.cons rk (.cons rq .nil),_,sb.extBut _ _ hil.symm ht,Z,0,Z⟩
     .rw [av hb]at e;refine(I.hok b ob e).stay (λc v Vo q=>?_) (λc q=>by rw[av (aI q hn)];exact q) λc zs q=>by rw[av (aI q hn)];exact q
      refine xA c v (λz=>?_) q;rcases Vo with r|r
      .rw [r]at z;rw[z,f0]at e;cases e
      .rw [z,f0]at r;cases r
   exact J2
  refine⟨.ref s.heap.objs.size,_,I1,Z,⟨_,Ap[i],I.fresh,aY hlt,Z,Z⟩,⟨key,qv,by rw[hl];exact st2⟩,λb hb=>?_⟩;have eb:b=it:=by simpa using hb
  subst eb;rw[av hil];exact f0
 done:=by intro X hP hw hK hc i AT s σ H E I hf st hg;subst hP hw hK;obtain⟨hz,hle⟩:=hg;obtain⟨ok,ov,st⟩:=st;obtain⟨ho,_,_,vs,yt,r,da⟩:=I.tE hz;cases CB da ho hd;have hl:Ap.length=vs.length:=r.length;rw[hl]at st;obtain⟨f0,f1,f2,f3,f4,f5⟩:=hf it (by simp);exact wpAny_pyNext_items_end (I.ok.hd hc) st da (by rw[rR];omega) λh' eb=>⟨Z,I.turned (t':=s.toks) (λb o hb e=>eb b o hb e) f0 f1 f3 f4 f5⟩
 self:=λA i s Q E ⟨ok,ov,st⟩ h=>PySem.W.kcp_self st h
section
variable {X:Cx}{tg:Expr}
inductive adb(R:It->Hp->Prop)(x:V)(H1:Hp):Prop
 |mk(d o Ap:_)(_:x =.ref d)(_:qe H1 d o Ap)(_:R (Itv d o Ap:_) H1)
def afW(td:TE):TI:=λσ H R=>td σ H (adb R)
inductive aaL(R:It->Hp->Prop)(x:V)(H1:Hp):Prop
 |mk(d o Ap:_)(_:x =.ref d)(_:qe H1 d o Ap)(_:R (Iti d o Ap:_) H1)
def ade(td:TE):TI:=λσ H R=>td σ H (aaL R)
end
variable {J:It}{tb:TS}{D:Ends}
theorem vL(Pv:Nat->St->Hp->Prop)(h0:Pv 0 σ H)(hgo:∀i σ H,i<n->Pv i σ H->J.go i H)(hst:∀σ H,Pv n σ H->J.stop n H)(hs:∀i x σ H H',i<n->Pv i σ H->J.EX i H x H'->g x σ H' (tb (D.lp (Pv (i+1)))))(hd:∀σ H,Pv n σ H->D.nx σ H):
  Lw g tb D σ (J) H:=by
 refine⟨λi m σ H=>m=n-i/\i<=n/\Pv i σ H,⟨n,by simp,fD _,h0⟩,?_⟩
 rintro i m σ H ⟨rfl,hi,p⟩
 by_cases hlt:i<n
 . exact .inr ⟨hgo i σ H hlt p,Pv (i+1),λσ' H' p'=>⟨n-(i+1),by omega,Z,hlt,p'⟩,λx H' y=>hs i x σ H H' hlt p y⟩
 . have e:i=n:=by omega
   subst e
   exact .inl ⟨hst σ H p,hd σ H p⟩
section
variable {prog:Program}{w:World}{K:Type}[DecidableEq K]{knd:KeyKind prog w K}{A:Around}{E:VS}{s:Shared}
theorem Pg{Ap:Da (K×Value)}{k:K}{v:Value}{Q:VS}(hit:s.heap.IsKeyIter it d i Ap.length ep)(hm:s.heap.DictAt knd d Ap ep)(hx:Ap[i]?=some (k,v))(hQ:∀key h',knd.is k key=true->h'.IsKeyIter it d (i+1) Ap.length ep->Heap.SameBut it s.heap h'->Q key { s with heap:=h' }):
  wpAny (model prog w) A (Builtin.SmallTypes.nextOf (.ref it)) Q E s:=by
 obtain⟨o,ho,hc,hd⟩:=id hit;obtain⟨od,es,hod,hcd,Ba,hk,hp,hn⟩:=id hm
 unfold Builtin.SmallTypes.nextOf
 refine au (AK (name:=Str.ofString "__next__") hit.typeIs Zf (xo Zf hit.typeIs F.entry_dict_keyiterator_next ?_ (F.args_dict_keyiterator_next_1 _)))
 refine au (aW ?_);refine au (au ?_)
 first|(refine au (Zd hit.typeIs (aW ?_));refine au (xu ho hd ?_))|(refine au (R9 hit.typeIs (aW ?_));refine au (xu ho hd ?_))
 have own:Builtin.Dict_items.ownsTuple "dict_keyiterator"=false:=by decide
 simp only[own,Hw,nO]
 show wpAny _ _ (if(Value.ref d==Value.none)=true then _ else _) _ _ _
 rw[aB (λz=>gk z:¬ ((Value.ref d==Value.none)=true))];refine au (aW ?_)
 have sz:es.size=Ap.length:=by have:=hp.length;simpa using this
 refine au (Lj hod Ba ?_);rw[aB (by rw[sz];simp)]
 refine au (aW ?_);refine au (Lr hod Ba ?_)
 rw[aB (by simp)];refine aW ?_
 have lt:i<Ap.length:=(dZ.mp hx).1
 have lt':i<es.size:=by omega
 have kv:=hp.get? (e:=es[i]) (by simp[lt']) hx
 simp only[show ¬ ((i:Int)<0)from by omega,nO,ug,Array.getElem?_eq_getElem lt'];refine au ?_
 first|(refine au (Zd hit.typeIs (aW ?_));refine au (wpAny_isOneOf_keyiter hit.typeIs ?_))|(refine au (R9 hit.typeIs (aW ?_));refine au (wpAny_isOneOf_keyiter hit.typeIs ?_))
 show wpAny _ _ (setField (.ref it) 1 (rawInt ((i:Int)+1)) >>= _) _ _ _
 refine au (Cf ho hd (by simp) ?_)
 have HP:(s.heap.update it (Obj.mapFields (·.setIfInBounds 1 (rawInt ((i:Int)+1))))).IsKeyIter it d (i+1) Ap.length ep:=⟨_,DK _ ho (Obj.isFreed_of_fields (Hx hd _)),(Obj.cls_mapFields ..).trans hc,by rw[Hx hd];simp[rawInt]⟩
 refine au (Ci (au (wpAny_isOneOf_keyiter (s:={ s with heap:=s.heap.update it (Obj.mapFields (·.setIfInBounds 1 (rawInt ((i:Int)+1)))) }) HP.typeIs ?_)))
 exact aW (aW ⟨_,Z,aW (hQ _ _ kv.1 HP (Ht ..))⟩)
theorem S7{Ap:Da (K×Value)}{Q:VS}(hh:A.handled=none)(hit:s.heap.IsKeyIter it d i Ap.length ep)(hm:s.heap.DictAt knd d Ap ep)(hx:Ap[i]?=none)(hE:∀h' e,Heap.ExtBut it s.heap h'->(∃o,h'.get? e=some o/\o.cls =.type "StopIteration")->E (.ref e) { s with heap:=h' }):
  wpAny (model prog w) A (Builtin.SmallTypes.nextOf (.ref it)) Q E s:=by
 obtain⟨o,ho,hc,hd⟩:=id hit;obtain⟨od,es,hod,hcd,Ba,hk,hp,hn⟩:=id hm
 unfold Builtin.SmallTypes.nextOf
 refine au (AK (name:=Str.ofString "__next__") hit.typeIs Zf (xo Zf hit.typeIs F.entry_dict_keyiterator_next ?_ (F.args_dict_keyiterator_next_1 _)))
 refine au (aW ?_);refine au (au ?_)
 first|(refine au (Zd hit.typeIs (aW ?_));refine au (xu ho hd ?_))|(refine au (R9 hit.typeIs (aW ?_));refine au (xu ho hd ?_))
 have own:Builtin.Dict_items.ownsTuple "dict_keyiterator"=false:=by decide
 simp only[own,Hw,nO]
 show wpAny _ _ (if(Value.ref d==Value.none)=true then _ else _) _ _ _
 rw[aB (λz=>gk z:¬ ((Value.ref d==Value.none)=true))];refine au (aW ?_)
 have sz:es.size=Ap.length:=by have:=hp.length;simpa using this
 refine au (Lj hod Ba ?_);rw[aB (by rw[sz];simp)]
 refine au (aW ?_);refine au (Lr hod Ba ?_)
 rw[aB (by simp)];refine aW ?_
 have ge:es.size<=i:=by rw[sz];simpa using hx
 simp only[show ¬ ((i:Int)<0)from by omega,nO,ug,Array.getElem?_eq_none ge];refine au ?_
 first|(refine au (Zd hit.typeIs (aW ?_));show wpAny _ _ (setField (.ref it) 0 .none >>= _) _ _ _)|(refine au (R9 hit.typeIs (aW ?_));show wpAny _ _ (setField (.ref it) 0 .none >>= _) _ _ _)
 refine au (Cf ho hd (by simp) ?_);show wpAny _ _ (newExc (.type "StopIteration") [] >>= _) _ _ _
 refine au ?_;simp only[newExc,newTuple]
 refine au (zg ?_ (by size_fits));refine au (m:=firstArgMember _ _) (wpAny_of_eq (a:=Value.none) (by first|rfl|(simp only[firstArgMember];rfl)) ?_)
 refine zg ?_ (by size_fits);simp only[raiseNew]
 refine au (wpAny_handled ?_);rw[show A.in1.handled=none from hh]
 exact au (aW (wpAny_throw (hE _ _ (((Ht ..).extBut.push _).push _) ⟨_,fj _ rfl,Z⟩)))
theorem Ph{Ap:Da (K×Value)}{k:K}{v:Value}{Q:VS}(hit:s.heap.IsValIter it d i Ap.length ep)(hm:s.heap.DictAt knd d Ap ep)(hx:Ap[i]?=some (k,v))(hQ:∀h',h'.IsValIter it d (i+1) Ap.length ep->Heap.SameBut it s.heap h'->Q v { s with heap:=h' }):
  wpAny (model prog w) A (Builtin.SmallTypes.nextOf (.ref it)) Q E s:=by
 obtain⟨o,ho,hc,hd⟩:=id hit;obtain⟨od,es,hod,hcd,Ba,hk,hp,hn⟩:=id hm
 unfold Builtin.SmallTypes.nextOf
 refine au (AK (name:=Str.ofString "__next__") hit.typeIs Zc (xo Zc hit.typeIs F.entry_dict_valueiterator_next ?_ (F.args_dict_valueiterator_next_1 _)))
 refine au (aW ?_);refine au (au ?_)
 first|(refine au (Ze hit.typeIs (aW ?_));refine au (xu ho hd ?_))|(refine au (R_ hit.typeIs (aW ?_));refine au (xu ho hd ?_))
 have own:Builtin.Dict_items.ownsTuple "dict_valueiterator"=false:=by decide
 simp only[own,Hw,nO]
 show wpAny _ _ (if(Value.ref d==Value.none)=true then _ else _) _ _ _
 rw[aB (λz=>gk z:¬ ((Value.ref d==Value.none)=true))];refine au (aW ?_)
 have sz:es.size=Ap.length:=by have:=hp.length;simpa using this
 refine au (Lj hod Ba ?_);rw[aB (by rw[sz];simp)]
 refine au (aW ?_);refine au (Lr hod Ba ?_)
 rw[aB (by simp)];refine aW ?_
 have lt:i<Ap.length:=(dZ.mp hx).1
 have lt':i<es.size:=by omega
 have kv:=hp.get? (e:=es[i]) (by simp[lt']) hx
 simp only[show ¬ ((i:Int)<0)from by omega,nO,ug,Array.getElem?_eq_getElem lt'];refine au ?_
 first|(refine au (Ze hit.typeIs (aW ?_));refine au (Se hit.typeIs ?_))|(refine au (R_ hit.typeIs (aW ?_));refine au (Se hit.typeIs ?_))
 show wpAny _ _ (setField (.ref it) 1 (rawInt ((i:Int)+1)) >>= _) _ _ _
 refine au (Cf ho hd (by simp) ?_)
 have HP:(s.heap.update it (Obj.mapFields (·.setIfInBounds 1 (rawInt ((i:Int)+1))))).IsValIter it d (i+1) Ap.length ep:=⟨_,DK _ ho (Obj.isFreed_of_fields (Hx hd _)),(Obj.cls_mapFields ..).trans hc,by rw[Hx hd];simp[rawInt]⟩
 refine au (Ci (au (Se (s:={ s with heap:=s.heap.update it (Obj.mapFields (·.setIfInBounds 1 (rawInt ((i:Int)+1)))) }) HP.typeIs ?_)))
 refine au (Se (s:={ s with heap:=s.heap.update it (Obj.mapFields (·.setIfInBounds 1 (rawInt ((i:Int)+1)))) }) HP.typeIs ?_)
 exact aW (aW ⟨_,Z,aW (kv.2▸hQ _ HP (Ht ..))⟩)
theorem S9{Ap:Da (K×Value)}{Q:VS}(hh:A.handled=none)(hit:s.heap.IsValIter it d i Ap.length ep)(hm:s.heap.DictAt knd d Ap ep)(hx:Ap[i]?=none)(hE:∀h' e,Heap.ExtBut it s.heap h'->(∃o,h'.get? e=some o/\o.cls =.type "StopIteration")->E (.ref e) { s with heap:=h' }):
  wpAny (model prog w) A (Builtin.SmallTypes.nextOf (.ref it)) Q E s:=by
 obtain⟨o,ho,hc,hd⟩:=id hit;obtain⟨od,es,hod,hcd,Ba,hk,hp,hn⟩:=id hm
 unfold Builtin.SmallTypes.nextOf
 refine au (AK (name:=Str.ofString "__next__") hit.typeIs Zc (xo Zc hit.typeIs F.entry_dict_valueiterator_next ?_ (F.args_dict_valueiterator_next_1 _)))
 refine au (aW ?_);refine au (au ?_)
 first|(refine au (Ze hit.typeIs (aW ?_));refine au (xu ho hd ?_))|(refine au (R_ hit.typeIs (aW ?_));refine au (xu ho hd ?_))
 have own:Builtin.Dict_items.ownsTuple "dict_valueiterator"=false:=by decide
 simp only[own,Hw,nO]
 show wpAny _ _ (if(Value.ref d==Value.none)=true then _ else _) _ _ _
 rw[aB (λz=>gk z:¬ ((Value.ref d==Value.none)=true))];refine au (aW ?_)
 have sz:es.size=Ap.length:=by have:=hp.length;simpa using this
 refine au (Lj hod Ba ?_);rw[aB (by rw[sz];simp)]
 refine au (aW ?_);refine au (Lr hod Ba ?_)
 rw[aB (by simp)];refine aW ?_
 have ge:es.size<=i:=by rw[sz];simpa using hx
 simp only[show ¬ ((i:Int)<0)from by omega,nO,ug,Array.getElem?_eq_none ge];refine au ?_
 first|(refine au (Ze hit.typeIs (aW ?_));show wpAny _ _ (setField (.ref it) 0 .none >>= _) _ _ _)|(refine au (R_ hit.typeIs (aW ?_));show wpAny _ _ (setField (.ref it) 0 .none >>= _) _ _ _)
 refine au (Cf ho hd (by simp) ?_);show wpAny _ _ (newExc (.type "StopIteration") [] >>= _) _ _ _
 refine au ?_;simp only[newExc,newTuple]
 refine au (zg ?_ (by size_fits));refine au (m:=firstArgMember _ _) (wpAny_of_eq (a:=Value.none) (by first|rfl|(simp only[firstArgMember];rfl)) ?_)
 refine zg ?_ (by size_fits);simp only[raiseNew]
 refine au (wpAny_handled ?_);rw[show A.in1.handled=none from hh]
 exact au (aW (wpAny_throw (hE _ _ (((Ht ..).extBut.push _).push _) ⟨_,fj _ rfl,Z⟩)))
end
structure Bb(P:Program)(w:World)(K:Fg)(S:Hp->Prop)(xs:Da V)(it l:Addr)(tn:Nat->Heap->Prop)(src:Heap->Prop):Prop where
 obj:∀i h,tn i h->∃o,h.get? it=some o/\∀v,o.data ≠ .cell v
 keep:∀i h h',tn i h->(∀o,h.get? it=some o->h'.get? it=some o)->tn i h'
 xB:∀h h',src h->(∀o,h.get? l=some o->h'.get? l=some o)->src h'
 Jz:∀(X:Cx),X.prog=P->X.w=w->X.K=K->∀(AT:AO)(σ:St)(H:Hp)(s:Shared),Inv X AT σ H s->S H->src s.heap
 item:∀(A:Around)(i:Nat)(x:V)(s:Shared)(Q:VS)(E:VS),tn i s.heap->src s.heap->xs[i]?=some x->(∀u h',RelV x u->tn (i+1) h'->Heap.SameBut it s.heap h'->Q u { s with heap:=h' })->wpAny (model P w) A (Builtin.SmallTypes.nextOf (.ref it)) Q E s
 done:∀(A:Around)(i:Nat)(s:Shared)(Q:VS)(E:VS),A.handled=none->tn i s.heap->src s.heap->xs.length<=i->(∀h' e,Heap.ExtBut it s.heap h'->(∃o,h'.get? e=some o/\o.cls =.type "StopIteration")->E (.ref e) { s with heap:=h' })->wpAny (model P w) A (Builtin.SmallTypes.nextOf (.ref it)) Q E s
theorem Yb{l:Addr}:Bb P w K (λH=>az K H l xs) xs it l (λi h=>h.IsListIter it l i) (λh=>∃Bi:Da Value,Vals xs Bi/\h.IsList l Bi.toArray) where
 obj:=λi h ⟨o,e,c,d⟩=>⟨o,e,λv z=>by rw[d]at z;cases z⟩
 keep:=λi h h' st k=>st.at k
 xB:=λh h' ⟨Bi,r,hl⟩ k=>⟨Bi,r,hl.at k⟩
 Jz:=λX hP hw hK AT σ H s I h=>by subst hP hw hK;obtain⟨Bi,rv,p,_⟩:=I.list h;exact⟨Bi,rv,p.isList⟩
 item:=λA i x s Q E st ⟨Bi,r,hl⟩ hx hQ=>by obtain⟨u,hu,ru⟩:=r.get hx;exact wpAny_nextOf_list_item st hl (by simpa using hu) λh' st' sb=>hQ u h' ru st' sb
 done:=λA i s Q E hh st ⟨Bi,r,hl⟩ hx hE=>wpAny_nextOf_list_end hh st hl (by have:=r.length;simp;omega) hE
theorem Yc{o:Obj}{es:Array DictEntry}(hd:o.data =.dict es ep):Bb P w K (λH=>qe H d o Ap) (Ap.map λp=>kV p.1) it d (λi h=>h.IsKeyIter it d i Ap.length ep) (λh=>∃vs,KV Ap vs/\h.DictAt (dw P w) d vs ep) where
 obj:=λi h ⟨o,e,c,d⟩=>⟨o,e,λv z=>by rw[d]at z;cases z⟩
 keep:=λi h h' st k=>st.at k
 xB:=λh h' ⟨vs,r,hl⟩ k=>⟨vs,r,hl.at' k⟩
 Jz:=λX hP hw hK AT σ H s I h=>by subst hP hw hK;obtain⟨ho,_,_,vs,yt,r,da⟩:=I.tE h;cases CB da ho hd;exact⟨vs,r,da⟩
 item:=λA i x s Q E st ⟨vs,r,da⟩ hx hQ=>by rw[bH]at hx;obtain⟨p,hp,rfl⟩:=mH.mp hx;obtain⟨q,hq,ek,rq⟩:=yy r hp;obtain⟨qk,qv⟩:=q;have hl:Ap.length=vs.length:=r.length;rw[hl]at st;exact Pg st da hq λkey h' hk st' sb=>hQ key h' (by rw[ek];exact MA hk) (by rw[hl];exact st') sb
 done:=λA i s Q E hh st ⟨vs,r,da⟩ hx hE=>by have hl:Ap.length=vs.length:=r.length;rw[aD]at hx;rw[hl]at st;exact S7 hh st da (by rw[rR];omega) hE
theorem Yd{o:Obj}{es:Array DictEntry}(hd:o.data =.dict es ep):Bb P w K (λH=>qe H d o Ap) (Ap.map λp=>p.2) it d (λi h=>h.IsValIter it d i Ap.length ep) (λh=>∃vs,KV Ap vs/\h.DictAt (dw P w) d vs ep) where
 obj:=λi h ⟨o,e,c,d⟩=>⟨o,e,λv z=>by rw[d]at z;cases z⟩
 keep:=λi h h' st k=>st.at k
 xB:=λh h' ⟨vs,r,hl⟩ k=>⟨vs,r,hl.at' k⟩
 Jz:=λX hP hw hK AT σ H s I h=>by subst hP hw hK;obtain⟨ho,_,_,vs,yt,r,da⟩:=I.tE h;cases CB da ho hd;exact⟨vs,r,da⟩
 item:=λA i x s Q E st ⟨vs,r,da⟩ hx hQ=>by rw[bH]at hx;obtain⟨p,hp,rfl⟩:=mH.mp hx;obtain⟨q,hq,ek,rq⟩:=yy r hp;obtain⟨qk,qv⟩:=q;have hl:Ap.length=vs.length:=r.length;rw[hl]at st;exact Ph st da hq λh' st' sb=>hQ qv h' rq (by rw[hl];exact st') sb
 done:=λA i s Q E hh st ⟨vs,r,da⟩ hx hE=>by have hl:Ap.length=vs.length:=r.length;rw[aD]at hx;rw[hl]at st;exact S9 hh st da (by rw[rR];omega) hE
variable {y:V}
section
variable {P:Program}{w:World}{A:Around}{E:VS}{s:Shared}{K:Fg}{S1 S2:Hp->Prop}{xs ys:Da V}{z TI TO i1 i2 l1 l2:Addr}{t1 t2:Nat->Heap->Prop}{c1 c2:Heap->Prop}{i:Nat}
def Vp{x:V}{a b:Value}{Q:VS}(D:ZipApart z TI TO i1 i2 l1 l2)(C1:Bb P w K S1 xs i1 l1 t1 c1)(C2:Bb P w K S2 ys i2 l2 t2 c2)(hz:IsZip s.heap z TI TO .none)(hTI:IsPair s.heap TI (.ref i1) (.ref i2))(hTO:IsPair s.heap TO a b)(h1:t1 i s.heap)(h2:t2 i s.heap)(hc1:c1 s.heap)(hc2:c2 s.heap)(hx:xs[i]?=some x)(hy:ys[i]?=some y)(hQ:∀u v h',RelV x u->RelV y v->IsZip h' z TI TO (rawInt s.heap.objs.size)->IsPair h' TO u v->t1 (i+1) h'->t2 (i+1) h'->IsPair h' s.heap.objs.size u v->h'.objs.size=s.heap.objs.size+1->
    (∀c o,c≠z->c≠TO->c≠i1->c≠i2->s.heap.get? c=some o->h'.get? c=some o)->Q (.ref s.heap.objs.size) { s with heap:=h' }):
  wpAny (model P w) A (Builtin.«zip.__next__» ⟨[.ref z],[]⟩) (λfin s'=>∃v,fin =.done (.ret v)/\Q v s') E s:=by
 show wpAny _ _ (field (.ref z) 2 >>= _) _ _ _
 refine au (oY hz rfl (x:=.bool false) rfl ?_);show wpAny _ _ (field (.ref z) 3 >>= _) _ _ _
 refine au (oY hz rfl (x:=.ref TI) rfl ?_);refine au (u6 hTI rfl ?_)
 show wpAny _ _ (Builtin.SmallTypes.ownedTupleIsFree (.ref z) >>= _) _ _ _
 refine au ?_;unfold Builtin.SmallTypes.ownedTupleIsFree
 refine au (oY hz rfl (x:=.none) rfl (aW ?_));simp only[sX]
 refine au (wpAny_rule ?_);refine au (oY hz rfl (x:=.ref TO) rfl ?_)
 refine au (Hy hz (by simp) λhA JA sA=>?_)
 replace JA:IsZip hA z TI TO .ellipsis:=JA
 refine au ?_;simp only[List.zipIdx_cons,List.zipIdx_nil,Lp,EN]
 refine au (au (wpAny_onRaise ?_));show wpAny _ _ (Builtin.SmallTypes.nextOf (.ref i1) >>= _) _ _ _
 refine au (C1.item _ i x { s with heap:=hA } _ _ (C1.keep _ _ _ h1 λo e=>sA.extBut _ _ D.i1z e) (C1.xB _ _ hc1 λo e=>sA.extBut _ _ D.l1z e) hx λu hB ru h1B sB=>aW ?_)
 have Vq:IsPair hB TO a b:=sB.extBut _ _ D.TOi1 (sA.extBut _ _ D.TOz hTO)
 refine au (u6 Vq rfl ?_);refine au (wpAny_updateSeq_pair Vq λhC ZA sC=>?_)
 replace ZA:IsPair hC TO u b:=ZA
 refine au (wpAny_letGo (aW ?_));refine au (au (wpAny_onRaise ?_))
 show wpAny _ _ (Builtin.SmallTypes.nextOf (.ref i2) >>= _) _ _ _
 refine au (C2.item _ i y { s with heap:=hC } _ _ (C2.keep _ _ _ h2 λo e=>sC.extBut _ _ D.TOi2.symm (sB.extBut _ _ D.i12.symm (sA.extBut _ _ D.i2z e))) (C2.xB _ _ hc2 λo e=>sC.extBut _ _ D.l2TO (sB.extBut _ _ D.l2i1 (sA.extBut _ _ D.l2z e))) hy λv hD rv h2D sD=>aW ?_)
 have TOD:IsPair hD TO u b:=sD.extBut _ _ D.TOi2 ZA
 refine au (u6 TOD rfl ?_);refine au (wpAny_updateSeq_pair TOD λhE ZC sE=>?_)
 replace ZC:IsPair hE TO u v:=ZC
 refine au (wpAny_letGo (aW (aW ?_)));refine au (u6 ZC rfl ?_)
 refine au (wpAny_newTuple ?_)
 have sz:hE.objs.size=s.heap.objs.size:=by rw[sE.1,sD.1,sC.1,sB.1,sA.1]
 have zE:IsZip hE z TI TO .ellipsis:=sE.extBut _ _ D.TOz.symm (sD.extBut _ _ D.i2z.symm (sC.extBut _ _ D.TOz.symm (sB.extBut _ _ D.i1z.symm JA)))
 have kE:∀c o,c≠z->c≠TO->c≠i1->c≠i2->s.heap.get? c=some o->hE.get? c=some o:=λc o c1 c2 c3 c4 e=>sE.extBut _ _ c2 (sD.extBut _ _ c4 (sC.extBut _ _ c2 (sB.extBut _ _ c3 (sA.extBut _ _ c1 e))))
 have t1E:t1 (i+1) hE:=C1.keep _ _ _ h1B λo e=>sE.extBut _ _ D.TOi1.symm (sD.extBut _ _ D.i12 (sC.extBut _ _ D.TOi1.symm e))
 have t2E:t2 (i+1) hE:=C2.keep _ _ _ h2D λo e=>sE.extBut _ _ D.TOi2.symm e
 have zlt:z<hE.objs.size:=bY zE
 show wpAny _ _ (Builtin.SmallTypes.ownedTupleHandOut (.ref z) (.ref hE.objs.size) >>= _) _ _ _
 refine au ?_;unfold Builtin.SmallTypes.ownedTupleHandOut
 have zF:IsZip (hE.push { cls:=.type "tuple",data:=.seq #[u,v] }) z TI TO .ellipsis:=cI _ zE
 refine au (Hy zF (by simp) λhG zG sG=>?_)
 replace zG:IsZip hG z TI TO (rawInt hE.objs.size):=zG
 refine Hy zG (by simp) λhI zI sI=>?_
 replace zI:IsZip hI z TI TO (rawInt hE.objs.size):=zI
 have up:∀c o,c≠z->hE.get? c=some o->hI.get? c=some o:=λc o c1 e=>sI.extBut _ _ c1 (sG.extBut _ _ c1 (cI _ e))
 have TI':IsPair hI hE.objs.size u v:=sI.extBut _ _ (zz zlt) (sG.extBut _ _ (zz zlt) (fj _ rfl))
 have szI:hI.objs.size=hE.objs.size+1:=by rw[sI.1,sG.1,nN]
 rw[sz]at zI TI' szI
 refine aW ⟨_,Z,?_⟩
 show Q (.ref hE.objs.size) _
 rw[sz]
 exact hQ u v hI ru rv zI (up _ _ D.TOz ZC) (C1.keep _ _ _ t1E λo e=>up _ o D.i1z e) (C2.keep _ _ _ t2E λo e=>up _ o D.i2z e) TI' szI λc o c1 c2 c3 c4 e=>up c o c1 (kE c o c1 c2 c3 c4 e)
theorem Ye{a b:Value}{Q:Fin->Shared->Prop}(hh:A.handled=none)(D:ZipApart z TI TO i1 i2 l1 l2)(C1:Bb P w K S1 xs i1 l1 t1 c1)(C2:Bb P w K S2 ys i2 l2 t2 c2)(hz:IsZip s.heap z TI TO .none)(hTI:IsPair s.heap TI (.ref i1) (.ref i2))(hTO:IsPair s.heap TO a b)(h1:t1 i s.heap)(h2:t2 i s.heap)(hc1:c1 s.heap)(hc2:c2 s.heap)(hend:xs.length<=i\/ys.length<=i)(hE:∀h' e,(∀c o,c≠z->c≠TO->c≠i1->c≠i2->s.heap.get? c=some o->h'.get? c=some o)->(∃o,h'.get? e=some o/\o.cls =.type "StopIteration")->E (.ref e) { s with heap:=h' }):
  wpAny (model P w) A (Builtin.«zip.__next__» ⟨[.ref z],[]⟩) Q E s:=by
 show wpAny _ _ (field (.ref z) 2 >>= _) _ _ _
 refine au (oY hz rfl (x:=.bool false) rfl ?_);show wpAny _ _ (field (.ref z) 3 >>= _) _ _ _
 refine au (oY hz rfl (x:=.ref TI) rfl ?_);refine au (u6 hTI rfl ?_)
 show wpAny _ _ (Builtin.SmallTypes.ownedTupleIsFree (.ref z) >>= _) _ _ _
 refine au ?_;unfold Builtin.SmallTypes.ownedTupleIsFree
 refine au (oY hz rfl (x:=.none) rfl (aW ?_));simp only[sX]
 refine au (wpAny_rule ?_);refine au (oY hz rfl (x:=.ref TO) rfl ?_)
 refine au (Hy hz (by simp) λhA JA sA=>?_)
 replace JA:IsZip hA z TI TO .ellipsis:=JA
 refine au ?_;simp only[List.zipIdx_cons,List.zipIdx_nil,Lp,EN]
 refine au (au (wpAny_onRaise ?_));show wpAny _ _ (Builtin.SmallTypes.nextOf (.ref i1) >>= _) _ _ _
 have k1:=C1.keep _ _ _ h1 λo e=>sA.extBut _ _ D.i1z e
 have k2:=C1.xB _ _ hc1 λo e=>sA.extBut _ _ D.l1z e
 by_cases hx:xs.length<=i
 . refine au (C1.done _ i { s with heap:=hA } _ _ hh k1 k2 hx λhB e sB he=>?_)
   obtain⟨oe,Ft,hce⟩:=he
   have zB:IsZip hB z TI TO .ellipsis:=sB _ _ D.i1z.symm JA
   have ez:e≠z:=λx=>by subst x;rw[zB]at Ft;cases Ft;simp at hce
   exact Hy zB (by simp) λhC _ sC=>hE hC e (λc o c1 _ c3 _ x=>sC.extBut _ _ c1 (sB _ _ c3 (sA.extBut _ _ c1 x))) ⟨oe,sC.extBut _ _ ez Ft,hce⟩
 . have hy:ys.length<=i:=hend.resolve_left hx
   refine au (C1.item _ i xs[i] { s with heap:=hA } _ _ k1 k2 (aY (by omega)) λu hB ru h1B sB=>aW ?_)
   have Vq:IsPair hB TO a b:=sB.extBut _ _ D.TOi1 (sA.extBut _ _ D.TOz hTO)
   refine au (u6 Vq rfl ?_);refine au (wpAny_updateSeq_pair Vq λhC ZA sC=>?_)
   refine au (wpAny_letGo (aW ?_));refine au (au (wpAny_onRaise ?_))
   show wpAny _ _ (Builtin.SmallTypes.nextOf (.ref i2) >>= _) _ _ _
   refine au (C2.done _ i { s with heap:=hC } _ _ hh (C2.keep _ _ _ h2 λo e=>sC.extBut _ _ D.TOi2.symm (sB.extBut _ _ D.i12.symm (sA.extBut _ _ D.i2z e))) (C2.xB _ _ hc2 λo e=>sC.extBut _ _ D.l2TO (sB.extBut _ _ D.l2i1 (sA.extBut _ _ D.l2z e))) hy λhD e sD he=>?_)
   obtain⟨oe,Ft,hce⟩:=he
   have zD:IsZip hD z TI TO .ellipsis:=sD _ _ D.i2z.symm (sC.extBut _ _ D.TOz.symm (sB.extBut _ _ D.i1z.symm JA))
   have ez:e≠z:=λx=>by subst x;rw[zD]at Ft;cases Ft;simp at hce
   exact Hy zD (by simp) λhF _ sF=>hE hF e (λc o c1 c2 c3 c4 x=>sF.extBut _ _ c1 (sD _ _ c4 (sC.extBut _ _ c2 (sB.extBut _ _ c3 (sA.extBut _ _ c1 x))))) ⟨oe,sF.extBut _ _ ez Ft,hce⟩
end
def adf(S1 S2:Hp->Prop)(xs ys:Da V):It:=⟨λi H=>S1 H/\S2 H/\i<xs.length/\i<ys.length,λi H v H'=>∃p x y,H p=none/\v =.ref p/\H'=upd H p (.tup [x,y])/\xs[i]?=some x/\ys[i]?=some y,λi H=>S1 H/\S2 H/\(xs.length<=i\/ys.length<=i)⟩
variable {ys:Da V}{z:Addr}
def Vr{kk:Nat}{S1 S2:Hp->Prop}{TI TO i1 i2 l1 l2:Addr}{t1 t2:Nat->Heap->Prop}{c1 c2:Heap->Prop}(D:ZipApart z TI TO i1 i2 l1 l2)(C1:Bb P w K S1 xs i1 l1 t1 c1)(C2:Bb P w K S2 ys i2 l2 t2 c2):
  Turn P w K (.Tuple DD kk pos) (adf S1 S2 xs ys) [z,TI,TO,i1,i2] z (λi h=>IsZip h z TI TO .none/\IsPair h TI (.ref i1) (.ref i2)/\(∃a b,IsPair h TO a b)/\t1 i h/\t2 i h) where
 mem:=by simp
 obj:=λi h st b hb=>by
  obtain⟨hz,hTI,⟨a,b',hTO⟩,h1,h2⟩:=st;have hb':b=z\/b=TI\/b=TO\/b=i1\/b=i2:=by simpa using hb
  rcases hb' with rfl|rfl|rfl|rfl|rfl
  .exact ⟨_,hz,λv q=>by cases q⟩
  .exact ⟨_,hTI,λv q=>by cases q⟩
  .exact ⟨_,hTO,λv q=>by cases q⟩
  .exact C1.obj i h h1
  .exact C2.obj i h h2
 keep:=λi h h' st k=>by obtain⟨hz,hTI,⟨a,b',hTO⟩,h1,h2⟩:=st;exact⟨k z (by simp) _ hz,k TI (by simp) _ hTI,⟨a,b',k TO (by simp) _ hTO⟩,C1.keep _ _ _ h1 λo e=>k i1 (by simp) o e,C2.keep _ _ _ h2 λo e=>k i2 (by simp) o e⟩
 item:=by
  intro X hP hw hK hc i AT s σ H E I hf st hg;subst hP hw hK;obtain⟨hz,hTI,⟨a,b,hTO⟩,h1,h2⟩:=st;obtain⟨g1,g2,lx,ly⟩:=hg;have hT:s.TypeIs (.ref z) "zip":=⟨_,hz,Z⟩
  unfold pyNext;refine au (wpAny_attempt (AK (name:=Str.ofString "__next__") hT Ls (xo Ls hT F.entry_zip_next
   (Vp D C1 C2 hz hTI hTO h1 h2 (C1.Jz X rfl rfl rfl AT σ H s I g1) (C2.Jz X rfl rfl rfl AT σ H s I g2) (aY lx) (aY ly) λu u2 h' ru ru2 a1 a2 a3 a4 a5 a6 hk=>aW ?_) (F.args_zip_next_1 _))))
  refine⟨_,Z,wpAny_letOwnedTupleGo_zip (s:={ s with heap:=h' }) a1 λh'' b1 hs=>?_⟩;have hTz:s.heap.objs.size≠z:=zz (bY hz);have xA:∀c o,c≠z->c≠TO->c≠i1->c≠i2->s.heap.get? c=some o->h''.get? c=some o:=λc o c1 c2 c3 c4 e=>hs.extBut _ _ c1 (hk c o c1 c2 c3 c4 e);have hn:=I.fresh;have nf:∀b u,H b=some u->b≠z/\b≠TO/\b≠i1/\b≠i2:=λb u e=>by
   have g:∀c∈[z,TI,TO,i1,i2],b≠c:=λc hc q=>by have:=(hf c hc).1;rw[<-q,e]at this;cases this
   exact⟨g z (by simp),g TO (by simp),g i1 (by simp),g i2 (by simp)⟩
  have yr:∀c,c∉[z,TI,TO,i1,i2]->c≠z/\c≠TO/\c≠i1/\c≠i2:=λc hc=>⟨λq=>hc (by simp[q]),λq=>hc (by simp[q]),λq=>hc (by simp[q]),λq=>hc (by simp[q])⟩
  have ajh:IsPair h'' s.heap.objs.size u u2:=hs.extBut _ _ hTz a5;have hok:iL X.prog X.w (upd H s.heap.objs.size (.tup [xs[i],ys[i]])) h'':=λb ob e=>by
   by_cases hb:b=s.heap.objs.size
   .subst hb;rw[ak]at e;cases e;exact⟨by show 2<=sizeLine;decide,[u,u2],.cons ru (.cons ru2 .nil),_,ajh,Z,0,Z⟩
   .rw [av hb]at e;refine(I.hok b ob e).stay (λc v Vo q=>?_) (λc q=>by rw[av (aI q hn)];exact q) λc zs q=>by rw[av (aI q hn)];exact q
    rcases Vo with r|r
    .obtain ⟨n1,n2,n3,n4⟩:=nf b ob e;rw[r];rw[r]at q;exact xA b v n1 n2 n3 n4 q
    .obtain ⟨n1,n2,n3,n4⟩:=nf c _ r;exact xA c v n1 n2 n3 n4 q
  have I2:Inv X AT σ (upd H s.heap.objs.size (.tup [xs[i],ys[i]])) { s with heap:=h'',gens:=s.gens,drawn:=s.drawn,toks:=s.toks }:=by
   refine I.step (ch:=[z,TI,TO,i1,i2]) (λb hb=>⟨(hf b hb).2.2.2.1,(hf b hb).2.1,(hf b hb).2.2.2.2.1,(hf b hb).2.2.2.2.2⟩) (λb o _ _ hc' e _=>?_) (λb o _ _ hc' e _=>?_) (λb o _ e n=>?_) (λb o hc' e=>?_)
    (λb zs q=>by rw[av (aI q hn)];exact q) (λb o zs q=>by rw[av (aI q hn)];exact q) (λb ps q=>⟨#[],by rw[av (aI q hn),q];simp⟩) (λm hm=>?_) hok I.bare
   .obtain ⟨n1,n2,n3,n4⟩:=yr b hc';exact xA b o n1 n2 n3 n4 e
   .obtain ⟨n1,n2,n3,n4⟩:=yr b hc';exact⟨o.slots,xA b o n1 n2 n3 n4 e⟩
   .rw [av (eO (bY e))];exact n
   .obtain ⟨n1,n2,n3,n4⟩:=yr b hc';exact⟨o,xA b o n1 n2 n3 n4 e⟩
   .obtain ⟨o,es,ep,ho,r⟩:=hm;have nl:∀c∈[z,TI,TO,i1,i2],X.env.locals≠c:=λc hc' q=>(hf c hc').2.1 q.symm;exact⟨o,es,ep,xA _ o (nl z (by simp)) (nl TO (by simp)) (nl i1 (by simp)) (nl i2 (by simp)) ho,r⟩
  refine⟨.ref s.heap.objs.size,_,I2,Z,⟨s.heap.objs.size,xs[i],ys[i],hn,Z,Z,aY lx,aY ly⟩,⟨b1,?_,⟨u,u2,?_⟩,?_,?_⟩,λb hb=>?_⟩
  .exact xA _ _ D.TIz D.TITO D.TIi1 D.TIi2 hTI
  .exact hs.extBut _ _ D.TOz a2
  .exact C1.keep _ _ _ a3 λo e=>hs.extBut _ _ D.i1z e
  .exact C2.keep _ _ _ a4 λo e=>hs.extBut _ _ D.i2z e
  .have hlt:b≠s.heap.objs.size:=by
    have hb':b=z\/b=TI\/b=TO\/b=i1\/b=i2:=by simpa using hb
    obtain⟨_,e1,_⟩:=C1.obj _ _ h1;obtain⟨_,e2,_⟩:=C2.obj _ _ h2;rcases hb' with rfl|rfl|rfl|rfl|rfl
    .exact eO (bY hz)
    .exact eO (bY hTI)
    .exact eO (bY hTO)
    .exact eO (bY e1)
    .exact eO (bY e2)
   rw[av hlt];exact(hf b hb).1
 done:=by
  intro X hP hw hK hc i AT s σ H E I hf st hg;subst hP hw hK;obtain⟨hz,hTI,⟨a,b,hTO⟩,h1,h2⟩:=st;obtain⟨g1,g2,hend⟩:=hg;have hT:s.TypeIs (.ref z) "zip":=⟨_,hz,Z⟩
  unfold pyNext;refine au (wpAny_attempt (AK (name:=Str.ofString "__next__") hT Ls (xo Ls hT F.entry_zip_next
   (Ye (I.ok.hd hc) D C1 C2 hz hTI hTO h1 h2 (C1.Jz X rfl rfl rfl AT σ H s I g1) (C2.Jz X rfl rfl rfl AT σ H s I g2) hend λh' e hk he=>?_) (F.args_zip_next_1 _))))
  obtain⟨oe,Ft,hce⟩:=he;refine au (wpAny_isInstance (T:="StopIteration") (b:=true) ⟨oe,Ft,hce⟩ isSubtype_stop (aW ⟨Z,?_⟩));have yr:∀c,c∉[z,TI,TO,i1,i2]->c≠z/\c≠TO/\c≠i1/\c≠i2:=λc hc=>⟨λq=>hc (by simp[q]),λq=>hc (by simp[q]),λq=>hc (by simp[q]),λq=>hc (by simp[q])⟩
  have nf:∀b u,H b=some u->b≠z/\b≠TO/\b≠i1/\b≠i2:=λb u e=>by
   have g:∀c∈[z,TI,TO,i1,i2],b≠c:=λc hc q=>by have:=(hf c hc).1;rw[<-q,e]at this;cases this
   exact⟨g z (by simp),g TO (by simp),g i1 (by simp),g i2 (by simp)⟩
  have I2:Inv X AT σ H { s with heap:=h',gens:=s.gens,drawn:=s.drawn,toks:=s.toks }:=by
   refine I.step (ch:=[z,TI,TO,i1,i2]) (λb hb=>⟨(hf b hb).2.2.2.1,(hf b hb).2.1,(hf b hb).2.2.2.2.1,(hf b hb).2.2.2.2.2⟩) (λb o _ _ hc' e _=>?_) (λb o _ _ hc' e _=>?_) (λb o _ e n=>n) (λb o hc' e=>?_)
    (λb zs q=>q) (λb o zs q=>q) (λb ps q=>⟨#[],by rw[q];simp⟩) (λm hm=>?_) (λb ob e=>?_) I.bare
   .obtain ⟨n1,n2,n3,n4⟩:=yr b hc';exact hk b o n1 n2 n3 n4 e
   .obtain ⟨n1,n2,n3,n4⟩:=yr b hc';exact⟨o.slots,hk b o n1 n2 n3 n4 e⟩
   .obtain ⟨n1,n2,n3,n4⟩:=yr b hc';exact⟨o,hk b o n1 n2 n3 n4 e⟩
   .obtain ⟨o,es,ep,ho,r⟩:=hm;have nl:∀c∈[z,TI,TO,i1,i2],X.env.locals≠c:=λc hc' q=>(hf c hc').2.1 q.symm;exact⟨o,es,ep,hk _ o (nl z (by simp)) (nl TO (by simp)) (nl i1 (by simp)) (nl i2 (by simp)) ho,r⟩
   .refine (I.hok b ob e).stay (λc v Vo q=>?_) (λc q=>q) λc zs q=>q;rcases Vo with r|r
    .obtain ⟨n1,n2,n3,n4⟩:=nf b ob e;rw[r];rw[r]at q;exact hk b v n1 n2 n3 n4 q
    .obtain ⟨n1,n2,n3,n4⟩:=nf c _ r;exact hk c v n1 n2 n3 n4 q
  exact I2
 self:=λ_ _ _ _ _ st h=>wpAny_pyIter_zip st.1 h
def MB(P:Program)(w:World)(u:Value)(o:Obj)(pre:Heap->Prop):Prop:=∀(A:Around)(E:VS)(s:Shared)(Q:VS),pre s.heap->Q (.ref s.heap.objs.size) { s with heap:=s.heap.push o }->wpAny (model P w) A (pyIter u) Q E s
def S_{p1 p2:Heap->Prop}(s1:MB P w u1 o1 p1)(s2:MB P w u2 o2 p2):MeetsIn P w (Builtin.«zip.__new__» ⟨[.type "zip",u1,u2],[]⟩) (λ_ R s=>p1 s.heap/\p2 (s.heap.push o1)/\R (.ok (.ret (.ref ((((s.heap.push o1).push o2).push { cls:=.type "tuple",data:=.seq #[.ref s.heap.objs.size,.ref (s.heap.push o1).objs.size] }).push { cls:=.type "tuple",data:=.seq #[.none,.none] }).objs.size)))
     { s with heap:=((((s.heap.push o1).push o2).push { cls:=.type "tuple",data:=.seq #[.ref s.heap.objs.size,.ref (s.heap.push o1).objs.size] }).push { cls:=.type "tuple",data:=.seq #[.none,.none] }).push { cls:=.type "zip",data:=.fields #[.none,.bool false,.bool false,.ref ((s.heap.push o1).push o2).objs.size,.ref (((s.heap.push o1).push o2).push { cls:=.type "tuple",data:=.seq #[.ref s.heap.objs.size,.ref (s.heap.push o1).objs.size] }).objs.size] } }):=
 .of_wp λA R s h=>by
  obtain⟨hp,g,d,tk,os⟩:=s;obtain⟨q1,q2,h⟩:=h;have hsub:=sub_zip;have i1:=λ(A:Around)(E:VS)(Q:VS)=>s1 A E ⟨hp,g,d,tk,os⟩ Q q1;have i2:=λ(A:Around)(E:VS)(Q:VS)=>s2 A E ⟨hp.push o1,g,d,tk,os⟩ Q q2
  wp_walk using i1 _ _ _,i2 _ _ _
  exact⟨_,Z,h⟩
section
variable {prog:Program}{w:World}{A:Around}{E:VS}{s:Shared}{it t:Addr}{i:Nat}{items:Array Value}{Q:VS}
def Pj{x:Value}(hit:s.heap.IsTupleIter it t i)(ht:s.heap.IsTuple t items)(hx:items[i]?=some x)(hQ:∀h',h'.IsTupleIter it t (i+1)->Heap.SameBut it s.heap h'->Q x { s with heap:=h' }):wpAny (model prog w) A (Builtin.SmallTypes.nextOf (.ref it)) Q E s:=by obtain⟨o,ho,hc,hd⟩:=id hit;obtain⟨ol,dY,_,nl,hdl⟩:=ht;unfold Builtin.SmallTypes.nextOf;refine au (AK (name:=Str.ofString "__next__") hit.typeIs R5 (xo R5 hit.typeIs F.entry_tuple_iterator_next ?_ (F.args_tuple_iterator_next_1 _)));show wpAny _ _ (field (.ref it) 0 >>= _) _ _ s;refine au (oY ho hd (x:=.ref t) rfl ?_);show wpAny _ _ (if(Value.ref t==Value.none)=true then _ else _) _ _ s;rw[aB (λz=>gk z:¬ ((Value.ref t==Value.none)=true))];show wpAny _ _ (field (.ref it) 1 >>= _) _ _ s;refine au (oY ho hd (x:=.int i 0) rfl ?_);show wpAny _ _ (seqItems? (.ref t) >>= _) _ _ s;refine au (u6 dY hdl ?_);simp only[ug,hx];refine au (Cf ho hd (by simp) (aW ⟨x,Z,aW (hQ _ ?_ (Ht ..))⟩));refine⟨_,DK _ ho (Obj.isFreed_of_fields (Hx hd _)),(Obj.cls_mapFields ..).trans hc,?_⟩;rw[Hx hd];simp[rawInt]
def Tc(hh:A.handled=none)(hit:s.heap.IsTupleIter it t i)(ht:s.heap.IsTuple t items)(hx:items[i]?=none)(hE:∀h' e,Heap.ExtBut it s.heap h'->(∃o,h'.get? e=some o/\o.cls =.type "StopIteration")->E (.ref e) { s with heap:=h' }):wpAny (model prog w) A (Builtin.SmallTypes.nextOf (.ref it)) Q E s:=by
 obtain⟨o,ho,hc,hd⟩:=id hit;obtain⟨ol,dY,_,nl,hdl⟩:=ht;unfold Builtin.SmallTypes.nextOf;refine au (AK (name:=Str.ofString "__next__") hit.typeIs R5 (xo R5 hit.typeIs F.entry_tuple_iterator_next ?_ (F.args_tuple_iterator_next_1 _)));show wpAny _ _ (field (.ref it) 0 >>= _) _ _ s;refine au (oY ho hd (x:=.ref t) rfl ?_);show wpAny _ _ (if(Value.ref t==Value.none)=true then _ else _) _ _ s;rw[aB (λz=>gk z:¬ ((Value.ref t==Value.none)=true))];show wpAny _ _ (field (.ref it) 1 >>= _) _ _ s;refine au (oY ho hd (x:=.int i 0) rfl ?_);show wpAny _ _ (seqItems? (.ref t) >>= _) _ _ s;refine au (u6 dY hdl ?_);simp only[ug,hx];refine au (wpAny_rule (au (Cf ho hd (by simp) ?_)));show wpAny _ _ (newExc (.type "StopIteration") [] >>= _) _ _ _;refine au ?_;simp only[newExc,newTuple];refine au (zg ?_ (by size_fits));refine au (m:=firstArgMember _ _) (wpAny_of_eq (a:=Value.none) (by first|rfl|(simp only[firstArgMember];rfl)) ?_);refine zg ?_ (by size_fits);simp only[raiseNew];refine au (wpAny_handled ?_);first|rw[show A.in1.handled=none from hh]|rw[hh]
 refine au (aW (wpAny_throw ?_));exact hE _ _ (((Ht ..).extBut.push _).push _) ⟨_,fj _ rfl,Z⟩
end
theorem aaM{l:Addr}:Bb P w K (λH=>cV K H l xs) xs it l (λi h=>h.IsTupleIter it l i) (λh=>∃Bi:Da Value,Vals xs Bi/\h.IsTuple l Bi.toArray) where
 obj:=λi h ⟨o,e,c,d⟩=>⟨o,e,λv z=>by rw[d]at z;cases z⟩
 keep:=λi h h' st k=>st.at k
 xB:=λh h' ⟨Bi,r,o,e,q⟩ k=>⟨Bi,r,o,k o e,q⟩
 Jz:=λX hP hw hK AT σ H s I h=>by subst hP hw hK;obtain⟨Bi,rv,p,_⟩:=I.tuple h;exact⟨Bi,rv,p⟩
 item:=λA i x s Q E st ⟨Bi,r,hl⟩ hx hQ=>by obtain⟨u,hu,ru⟩:=r.get hx;exact Pj st hl (by simpa using hu) λh' st' sb=>hQ u h' ru st' sb
 done:=λA i s Q E hh st ⟨Bi,r,hl⟩ hx hE=>Tc hh st hl (by have:=r.length;simp;omega) hE
def Yg:typeLookup (.type "dict") "__len__"=pure (some (.builtin "dict.__len__")):=by rw[typeLookup_type,builtinLookup_eq_fast];kernel_rfl
variable {R:Result->Shared->Prop}
section
variable {prog:Program}{w:World}{A:Around}{E:VS}{s:Shared}{K:Type}[DecidableEq K]{knd:KeyKind prog w K}
def CO(hh:A.handled=none){Ap:Da (K×Value)}(hd:(d==sysModules)=false)(hm:s.heap.DictAt knd d Ap ep)(S:Addr)(hSd:S≠d)(res:Value)(c₀:Nat)(hS:s.heap.get? S=some { cls:=.type "list",data:=.seq #[] c₀ })(hR:∀h' tk acc' c',(∀b o,b≠S->s.heap.get? b=some o->h'.get? b=some o)->h'.get? S=some { cls:=.type "list",dict:=none,data:=.seq acc' c',slots:=#[] }->
    ItemsOf (λi v=>∃k x,Ap[i]?=some (k,x)/\knd.is k v=true) acc' Ap.length->R (.ok (.ret res)) { s with heap:=h',toks:=tk })(hn:Ap.length<=sizeLine):
  wpAny (model prog w) A.in1 (Builtin.List.listExtendWith (.ref S) (.ref d) res)
   (λfin s'=>match fin with | .done f=>R (.ok f) s' | .again c'=>c'.quiet=true/\codeAny (model prog w) A c' R s') (λe s'=>R (.error e) s') s:=by
 have hSI:S≠s.heap.objs.size:=eO (bY hS)
 have hT:s.TypeIs (.ref d) "dict":=hm.dictOf.typeIs
 unfold Builtin.List.listExtendWith
 refine au (wpAny_typeOf (T:="dict") (v:=.ref d) hT ?_)
 have h1:Builtin.List.listSameRef (.ref S) (.ref d)=false:=by show(S==d)=false;simpa using hSd
 have h2:(Value.type "dict"==Value.type "list")=false:=by decide
 have h3:(Value.type "dict"==Value.type "tuple")=false:=by decide
 simp only[h1,h2,h3,Bool.or_false,Hw,nO]
 refine au (wpAny_pyIter_dict hd hm ?_)
 refine au (Ci ?_)
 unfold Builtin.List.listLengthHint
 have hT2:({ s with heap:=s.heap.push { cls:=.type "dict_keyiterator",data:=.fields #[.ref d,.int 0 0,.int Ap.length 0,.int ep 0] } }:Shared).TypeIs (.ref d) "dict":=(hm.push _).dictOf.typeIs
 refine au (wpAny_specialOf (T:="dict") (v:=.ref d) hT2 Yg ?_)
 wp_delta
 refine au (wpAny_isInstance (T:="dict") (v:=.ref d) (b:=true) hT2 (by rw[isSubtype_type];kernel_rfl) ?_)
 show wpAny _ _ (typeOf (Value.ref d) >>= _) _ _ _
 refine au (wpAny_typeOf (T:="dict") (v:=.ref d) hT2 ?_)
 refine aW ?_
 have hne:d≠s.heap.objs.size:=eO hm.lt_size
 have hSf:S∉[s.heap.objs.size,d] :=λhm'=>by
  rcases c_.mp hm' with z|z
  .exact hSI z
  .exact hSd (eE.mp z)
 show wpAny _ A.in1 (rule "list.extend.makes-room" >>= λ_=>Builtin.List.listTouch (.ref S) >>= λ_=>
  again (.builtin "list.extend.loop" ⟨[.ref S,.ref s.heap.objs.size,res],[]⟩)) _ _ _
 refine au (wpAny_rule ?_)
 refine au ?_
 show wpAny _ A.in1 (updateSeq S (·.push .none) >>= λ_=>updateSeq S (·.pop)) _ _ _
 have hS₁:=cI { cls:=.type "dict_keyiterator",data:=.fields #[.ref d,.int 0 0,.int Ap.length 0,.int ep 0] } hS
 refine au (wpAny_updateSeq hS₁ rfl ?_)
 have ZD:=DK (Obj.mapSeq (·.push Value.none)) hS₁ rfl
 refine wpAny_updateSeq (hz:=by seq_fits) ZD rfl ?_
 have hS₃:=DK (Obj.mapSeq (·.pop)) ZD rfl
 have Q7:∀b o,b≠S->(s.heap.push { cls:=.type "dict_keyiterator",data:=.fields #[.ref d,.int 0 0,.int Ap.length 0,.int ep 0] }).get? b=some o->(((s.heap.push { cls:=.type "dict_keyiterator",data:=.fields #[.ref d,.int 0 0,.int Ap.length 0,.int ep 0] }).update S (Obj.mapSeq (·.push Value.none))).update S (Obj.mapSeq (·.pop))).get? b=some o:=
  λb o hb e=>(LI _ _ (cD hb)).trans ((LI _ _ (cD hb)).trans e)
 refine aW ⟨plainId_quiet F.plain_extend_loop _,codeAny_extend_loopS (Walks.dictKeys (prog:=prog) (w:=w) (A:=A.in1) (knd:=knd) hh s.heap.objs.size d hne Ap ep).toS hn _ hSf _ Ap.length 0 _ _ _ rfl (fD _) ⟨⟨_,Q7 _ _ (cD hSI) (fj _ rfl),Z,Z⟩,(hm.push _).at' λo e=>Q7 d o (cD hSd) e⟩ hS₃ (ItemsOf.nil _) λs' acc' c' hm2 hS' Bn=>?_⟩
 rw[Moved.eq_with hm2]
 refine hR s'.heap s'.toks acc' c' (λb ob hb e=>hm2.heap b ob (λhmem=>?_) (Q7 b ob hb (cI _ e))) hS' Bn
 rcases c_.mp hmem with e'|hmem
 . exact hb e'
 . exact absurd (bY e) (by rw[eE.mp hmem];exact jW _)
def HQ{Q:VS}(hh:A.handled=none){Ap:Da (K×Value)}(hd:(d==sysModules)=false)(hm:s.heap.DictAt knd d Ap ep)(hn:Ap.length<=sizeLine)(hQ:∀h' tk acc' c',(∀b o,s.heap.get? b=some o->h'.get? b=some o)->
    h'.get? s.heap.objs.size=some { cls:=.type "list",dict:=none,data:=.seq acc' c',slots:=#[] }->ItemsOf (λi v=>∃k x,Ap[i]?=some (k,x)/\knd.is k v=true) acc' Ap.length->Q (.ref s.heap.objs.size) { s with heap:=h',toks:=tk }):
  wpAny (model prog w) A (call (.type "list") [.ref d]) Q E s:=by
 refine callType_codes (Q₁:=λobj s₁=>obj =.ref s.heap.objs.size/\s₁={ s with heap:=s.heap.push { cls:=.type "list",data:=.seq #[] } }) F.called_list (F.typeCall_list_1 _) F.entry_list_init
  (code_list_new _ ⟨Z,Z⟩) λobj s₁ h₁=>?_
 obtain⟨rfl,rfl⟩:=h₁
 have hS:(s.heap.push { cls:=.type "list",data:=.seq #[] }).get? s.heap.objs.size=some { cls:=.type "list",data:=.seq #[] }:=fj _ rfl
 have hne:s.heap.objs.size≠d:=zz hm.lt_size
 refine⟨⟨_,hS,Z⟩,F.args_list_init_2 _ _,?_⟩
 show wpAny _ _ (do let old <-Builtin.List.listItems (.ref s.heap.objs.size);Builtin.List.listUpdate (.ref s.heap.objs.size) (λ_=>#[]);letGo old.toList.reverse;Builtin.List.listExtendWith (.ref s.heap.objs.size) (.ref d) .none) _ _ _
 refine au ?_
 unfold Builtin.List.listItems
 refine au (u6 hS rfl (aW ?_))
 show wpAny _ _ (updateSeq s.heap.objs.size (λ_=>#[]) >>= λ_=>letGo (#[] :Array Value).toList.reverse >>= λ_=>Builtin.List.listExtendWith (.ref s.heap.objs.size) (.ref d) .none) _ _ _
 refine au (wpAny_updateSeq hS rfl ?_)
 have ZD:=DK (Obj.mapSeq (λ_=>(#[] :Array Value))) hS rfl
 have Q7:∀b o,b≠s.heap.objs.size->(s.heap.push { cls:=.type "list",data:=.seq #[] }).get? b=some o->((s.heap.push { cls:=.type "list",data:=.seq #[] }).update s.heap.objs.size (Obj.mapSeq (λ_=>(#[] :Array Value)))).get? b=some o:=
  λb o hb e=>(LI _ _ (cD hb)).trans e
 refine au (wpAny_letGo ?_)
 refine CO (A:=A.in1) hh hd (hm.push _ |>.at' λo e=>Q7 d o hne.symm e) s.heap.objs.size hne .none _ ZD (λh' tk acc' c' hk hS' Bn=>?_) hn
 exact⟨Z,hQ h' tk acc' c' (λb o e=>hk b o (eO (bY e)) (Q7 b o (eO (bY e)) (cI _ e))) hS' Bn⟩
end
theorem JB{α β:Type}{F:α->β->Prop}:∀{l₁:Da α}{l₂:Da β},l₁.length=l₂.length->(∀(i:Nat)(x:α)(y:β),l₁[i]?=some x->l₂[i]?=some y->F x y)->Paired F l₁ l₂
 | [],[],_,_=> .nil
 | x::xs,y::ys,h,f=> .cons (f 0 x y rfl rfl) (JB (by simpa using h) λi a b ha hb=>f (i+1) a b (by simpa using ha) (by simpa using hb))
noncomputable def mU(v d:Addr):HO:=.ext λh=>h.IsValuesView v d
section
variable {X:Cx}
inductive adg(Q:VK)(x:V)(H1:Hp):Prop
 |mk(d Ap:_)(_:x =.ref d)(_:Rd H1 d (.dK Ap))(_:∀v,H1 v=none->Q (.ref v) (upd H1 v (mU v d)))
def afX(td:TE):TE:=λσ H Q=>td σ H (adg Q)
inductive Wk(K:Fg)(H:Hp):V->(Hp->Prop)->Da V->Prop
 | lst {l:Addr} {xs:Da V}:az K H l xs->Wk K H (.ref l) (λH=>az K H l xs) xs
 | tup {l:Addr} {xs:Da V}:cV K H l xs->Wk K H (.ref l) (λH=>cV K H l xs) xs
 | keys {d:Addr} {o:Obj} {Ap:Da (Key×V)}:qe H d o Ap->Wk K H (.ref d) (λH=>qe H d o Ap) (Ap.map λp=>kV p.1)
 | vals {v d:Addr} {o:Obj} {Ap:Da (Key×V)}:H v=some (mU v d)->qe H d o Ap->Wk K H (.ref v) (λH=>qe H d o Ap) (Ap.map λp=>p.2)
def Wk.ok{u:V}{S:Hp->Prop}(k:Wk X.K H u S xs)(I:Inv X AT σ H s)(r:RelV u uv):S H/\∃(l:Addr)(o:Obj)(p:Heap->Prop),l<s.heap.objs.size/\p s.heap/\(∀h (ob:Obj),p h->p (h.push ob))/\(∀h:Heap,(h.push o).get? h.objs.size=some o)/\MB X.prog X.w uv o p/\∀it:Addr,∃tn src,Bb X.prog X.w X.K S xs it l tn src/\∀h:Heap,h.get? it=some o->tn 0 h:=by
 cases k with
 | @lst l xs hS=>cases r;obtain⟨Bi,rv,p,_⟩:=I.list hS;obtain⟨ol,dY,_⟩:=id p.isList;refine⟨hS,l,_,λh=>h.IsList l Bi.toArray,bY dY,p.isList,λh ob q=>q.push ob,λh=>fj _ rfl,λA E s Q q h=>Ss q h,λit=>⟨_,_,Yb,λh e=>⟨_,e,Z,Z⟩⟩⟩
 | @tup l xs hS=>cases r;obtain⟨Bi,rv,p,_⟩:=I.tuple hS;obtain⟨ol,dY,q0⟩:=id p;refine⟨hS,l,_,λh=>h.IsTuple l Bi.toArray,bY dY,p,λh ob ⟨o1,a,b⟩=>⟨o1,cI _ a,b⟩,λh=>fj _ rfl,λA E s Q q h=>wpAny_pyIter_tuple q h,λit=>⟨_,_,aaM,λh e=>⟨_,e,Z,Z⟩⟩⟩
 | @keys d o Ap hz=>cases r;obtain⟨ho,hl,hsys,vs,ep,rel,da⟩:=I.tE hz;obtain⟨o',es,h1,_,h2,_⟩:=id da;rw[ho]at h1;cases h1;have el:Ap.length=vs.length:=rel.length;refine⟨hz,d,_,λh=>h.DictAt (dw X.prog X.w) d vs ep,bY ho,da,λh ob q=>q.push ob,λh=>fj _ rfl,λA E s Q q h=>wpAny_pyIter_dict hsys q h,λit=>⟨_,_,Yc h2,λh e=>?_⟩⟩;rw[el];exact⟨_,e,Z,Z⟩
 | @vals v d o Ap hv hz=>
  cases r;obtain⟨ho,hl,hsys,vs,ep,rel,da⟩:=I.tE hz;obtain⟨o',es,h1,_,h2,_⟩:=id da;rw[ho]at h1;cases h1;have el:Ap.length=vs.length:=rel.length;obtain⟨hv',_⟩:=(show d8 X.prog X.w H s.heap v (mU v d)from I.hok v _ hv)
  refine⟨hz,d,_,λh=>h.IsValuesView v d/\h.DictAt (dw X.prog X.w) d vs ep,bY ho,⟨hv',da⟩,λh ob ⟨⟨o1,a,b⟩,q⟩=>⟨⟨o1,cI _ a,b⟩,q.push ob⟩,λh=>fj _ rfl,λA E s Q q h=>wpAny_pyIter_values q.1 q.2 h,λit=>⟨_,_,Yd h2,λh e=>?_⟩⟩;rw[el];exact⟨_,e,Z,Z⟩
variable {DD:Da Expr}{kk:Nat}{tpos:Pos}
inductive adh(K:Fg)(R:It->Hp->Prop)(vs:Da V)(H1:Hp):Prop
 |mk(u1 u2 S1 S2 xs ys:_)(_:vs=[u1,u2])(_:Wk K H1 u1 S1 xs)(_:Wk K H1 u2 S2 ys)(_:R (adf S1 S2 xs ys:_) H1)
def afY(K:Fg)(ta:TA):TI:=λσ H R=>ta σ H (adh K R)
theorem JC(hc:X.calm=true):iB X (.builtin "sum") (λxs H Q=>∃(v d:Addr)(Ap:Da (Key×V))(ns:Da Int),xs=[.ref v]/\H v=some (mU v d)/\Rd H d (.dK Ap)/\Ap.map (·.2)=ns.map V.int/\Q (.int ns.sum) H):=by
 intro AT s σ H xs us Q I r h;obtain⟨v,d,Ap,ns,rfl,hv,hz,en,q⟩:=h;obtain⟨u,rfl,ru⟩:=vals1 r;cases ru;obtain⟨_,hsys,vs,rel,dd⟩:=s_ I.hok hz;obtain⟨ep,da⟩:=dd.dictAt;obtain⟨hv',_⟩:=(show d8 X.prog X.w H s.heap v (mU v d)from I.hok v _ hv)
 have hl:Ap.length=vs.length:=rel.length;have hlt:=da.lt_size;have hne:d≠s.heap.objs.size:=eO hlt;have W:=(Walks.dictValues (prog:=X.prog) (w:=X.w) (A:=X.A.in1) (knd:=dw X.prog X.w) (I.ok.hd hc) s.heap.objs.size d hne vs ep).toS;have Fi:Ap.length=ns.length:=by have:=gP List.length en;simpa using this
 refine call_sum_walkAnyS (wpAny_pyIter_values hv' da ?_);refine⟨s.heap.objs.size,_,_,_,_,_,_,λi=>ns.getD i 0,Z,W,⟨⟨_,fj _ rfl,Z,Z⟩,da.push _⟩,λb hb=>?_,λi x hP=>?_,λs' t' hm=>?_⟩
 .rcases c_.mp hb with rfl|hb
  .exact bY (fj _ rfl)
  .obtain rfl:=eE.mp hb;exact(da.push _).lt_size
 .obtain ⟨k,hk⟩:=hP;have hil:i<ns.length:=by have:=(dZ.mp hk).1;omega
  have hik:i<Ap.length:=by omega
  obtain⟨q',hq',_,rq⟩:=yy rel (aY hik);rw[hk]at hq';cases hq';have e1:Ap[i].2=V.int (ns.getD i 0):=by have:=gP (λl=>l[i]?) en;simp only[bH,aY hik,aY hil]at this;rw[gT,aY hil];exact gZ this
  rw[e1]at rq;exact rq
 .obtain ⟨h',g',d',tk',os'⟩:=s';have e1:g'=s.gens:=hm.gens;have e2:d'=s.drawn:=hm.drawn;have e3:os'=s.os:=hm.os;subst e1 e2 e3;have hsz:vs.length=ns.length:=by omega
  rw[hsz,preSum_getD,Ho (aN _)];exact⟨.int ns.sum,H,I.kept (h':=h') (t':=tk') λb o e=>hm.heap b o (λhb=>absurd (bY e) ((eE.mp hb)▸jW _)) (cI _ e),⟨t',Z⟩,q⟩
theorem Td(hc:X.calm=true):iB X (.type "list") (λxs H Q=>∃(d:Addr)(Ap:Da (Key×V)),xs=[.ref d]/\Rd H d (.dK Ap)/\∀l,H l=none->Q (.ref l) (upd H l (.lst (Ap.map λp=>kV p.1)))):=by
 intro AT s σ H xs us Q I r h;obtain⟨d,Ap,rfl,hz,q⟩:=h;obtain⟨u,rfl,ru⟩:=vals1 r;cases ru;obtain⟨hsz,hsys,vs,rel,dd⟩:=s_ I.hok hz;obtain⟨ep,da⟩:=dd.dictAt;have hl:Ap.length=vs.length:=rel.length;refine HQ (I.ok.hd hc) hsys da (by omega) λh' tk acc' c' kp e it=>?_;refine⟨.ref s.heap.objs.size,_,I.laid (t':=tk) kp (aN _) (show d8 X.prog X.w _ h' _ (.lst (Ap.map λp=>kV p.1))from⟨by rw[aD];exact hsz,acc'.toList,c',?_,by rw[e]⟩),Z,q _ I.fresh⟩;obtain⟨sz,hit⟩:=it;have hA:acc'.toList.length=acc'.size:=by simp
 have hB:(Ap.map λp=>kV p.1).length=acc'.toList.length:=by rw[aD];omega
 refine JB hB λi x y hx hy=>?_;rw[bH]at hx;obtain⟨p,hp,rfl⟩:=mH.mp hx;obtain⟨k,v,hk,hkk⟩:=hit i y (by simpa using hy);obtain⟨q',hq',ek,_⟩:=yy rel hp;rw[hk]at hq';cases hq';rw[ek];exact MA hkk
end
noncomputable def fu:St->Da Nat->Da V->St
 | σ,k::ks,v::vs=>fu (σ.set k (some v)) ks vs
 | σ,_,_=>σ
theorem Fv{k:Nat}{v:Option V}:∀{ks:Da Nat}{vs:Da V}{σ:St},k∉ks->(fu σ ks vs).set k v=fu (σ.set k v) ks vs
 | [],_,_,_=>by unfold fu;rfl
 | _::_,[],_,_=>by unfold fu;rfl
 | j::ks,w::vs,σ,h=>by have hj:k≠j:=λe=>h (by rw[e];exact cQ);show(fu (σ.set j (some w)) ks vs).set k v=fu ((σ.set k v).set j (some w)) ks vs;rw[Fv (λm=>h (cL _ m)),List.set_comm _ _ hj]
theorem vM:∀{ks:Da Nat}{vs ws:Da V}{σ:St},ks.Nodup->vs.length=ks.length->ws.length=ks.length->fu (fu σ ks vs) ks ws=fu σ ks ws
 | [],[],[],_,_,_,_=>rfl
 | k::ks,v::vs,w::ws,σ,nd,h1,h2=>by have nk:=(gO.mp nd).1;show fu ((fu (σ.set k (some v)) ks vs).set k (some w)) ks ws=fu (σ.set k (some w)) ks ws;rw[Fv nk,xw,vM (gO.mp nd).2 (by simpa using h1) (by simpa using h2)]
noncomputable def ZE:Da Nat->EW
 | []=>abZ
 | k::ks=>Zm (iA k) (ZE ks)
theorem MC{Q:St->Hp->Prop}{H:Hp}:∀{ks:Da Nat}{vs:Da V}{σ:St},vs.length=ks.length->Q (fu σ ks vs) H->ZE ks vs σ H Q
 | [],[],_,_,q=>⟨Z,q⟩
 | k::ks,v::vs,σ,h,q=>⟨v,vs,Z,MC (by simpa using h) q⟩
theorem yz(ks:Da Nat){Q:VK}(Pv:Nat->Da V->Hp->Prop)(nd:ks.Nodup)(hn:n<=100000)(h0:Pv 0 [] (upd H BM (.lst [])))(hgo:∀i out H1,i<n->H1 BM=some (.lst out)->Pv i out H1->J.go i H1)(hst:∀out H1,H1 BM=some (.lst out)->Pv n out H1->J.stop n H1)(hs:∀(i:Nat) (x:V) (out:Da V) (H1 H2:Hp),i<n->out.length=i->H1 BM=some (.lst out)->Pv i out H1->J.EX i H1 x H2->
    ∃t vs,x =.ref t/\cV K H2 t vs/\vs.length=ks.length/\te (fu σ2 ks vs) H2 (vJ Pv i BM out))(hd:∀(out:Da V) (H1:Hp),out.length=n->H1 BM=some (.lst out)->Pv n out H1->Q (.ref BM) H1):
  Cz J (DM K ks.length (ZE ks)) te BM σ2 H Q:=by
 refine⟨λi m σ' H'=>m=n-i/\i<=n/\(∀ws,ws.length=ks.length->fu σ' ks ws=fu σ2 ks ws)/\∃out,out.length=i/\H' BM=some (.lst out)/\Pv i out H',⟨n,by simp,fD _,λ_ _=>rfl,[],Z,ak,h0⟩,?_⟩
 rintro i m σ' H' ⟨rfl,hi,hσ,out,ho,ha,p⟩
 by_cases hlt:i<n
 . refine .inr ⟨hgo i out H' hlt ha p,λσ3=>∀ws,ws.length=ks.length->fu σ3 ks ws=fu σ2 ks ws,(vJ Pv i BM out),λσ3 v H4 hS ⟨a,b⟩=>?_,λx H1 y=>?_⟩
   . refine⟨out,a,?_,n-(i+1),by omega,Z,hlt,hS,out++[v],by rw[c8,ho];rfl,ak,b⟩
     have:sizeLine=16777216:=gy
     omega
   . obtain⟨t,vs,rfl,sq,hl,q⟩:=hs i x out H' H1 hlt ho ha p y
     refine⟨t,vs,Z,sq,hl,MC hl ⟨λws hw=>?_,?_⟩⟩
     . rw[vM nd hl hw];exact hσ ws hw
     . rw[hσ vs hl];exact q
 . have e:i=n:=by omega
   subst e
   exact .inl ⟨hst out H' ha p,hd out H' ho ha p⟩
theorem aaN(ks:Da Nat){Q:VK}(Pv:Nat->Da V->Hp->Prop)(nd:ks.Nodup)(hn:n<=100000)(h0:Pv 0 [] (upd H BM (.lst [])))(hgo:∀i out H1,i<n->H1 BM=some (.lst out)->Pv i out H1->J.go i H1)(hst:∀out H1,H1 BM=some (.lst out)->Pv n out H1->J.stop n H1)(hs:∀(i:Nat) (x:V) (out:Da V) (H1 H2:Hp),i<n->out.length<=i->H1 BM=some (.lst out)->Pv i out H1->J.EX i H1 x H2->
    ∃t vs,x =.ref t/\cV K H2 t vs/\vs.length=ks.length/\tc (fu σ2 ks vs) H2 (Zv te (fu σ2 ks vs) Pv i BM out))(hd:∀(out:Da V) (H1:Hp),out.length<=n->H1 BM=some (.lst out)->Pv n out H1->Q (.ref BM) H1):
  A_ J (DM K ks.length (ZE ks)) tc te BM σ2 H Q:=by
 refine⟨λi m σ' H'=>m=n-i/\i<=n/\(∀ws,ws.length=ks.length->fu σ' ks ws=fu σ2 ks ws)/\∃out,out.length<=i/\H' BM=some (.lst out)/\Pv i out H',⟨n,by simp,fD _,λ_ _=>rfl,[],aN _,ak,h0⟩,?_⟩
 rintro i m σ' H' ⟨rfl,hi,hσ,out,ho,ha,p⟩
 by_cases hlt:i<n
 . refine .inr ⟨hgo i out H' hlt ha p,λσ3=>∀ws,ws.length=ks.length->fu σ3 ks ws=fu σ2 ks ws,(vJ Pv i BM out),λH3=>H3 BM=some (.lst out)/\Pv (i+1) out H3,λσ3 v H4 hS ⟨a,b⟩=>?_,λσ3 H4 hS ⟨a,b⟩=>?_,λx H1 y=>?_⟩
   . refine⟨out,a,?_,n-(i+1),by omega,Z,hlt,hS,out++[v],by rw[c8];exact Nat.succ_le_succ ho,ak,b⟩
     have:sizeLine=16777216:=gy
     omega
   . exact⟨n-(i+1),by omega,Z,hlt,hS,out,by omega,a,b⟩
   . obtain⟨t,vs,rfl,sq,hl,q⟩:=hs i x out H' H1 hlt ho ha p y
     refine⟨t,vs,Z,sq,hl,MC hl ⟨λws hw=>?_,?_⟩⟩
     . rw[vM nd hl hw];exact hσ ws hw
     . rw[hσ vs hl];exact q
 . have e:i=n:=by omega
   subst e
   exact .inl ⟨hst out H' ha p,hd out H' ho ha p⟩
theorem gf(k:Nat){Q:VK}(Pv:Nat->Da V->Hp->Prop)(hn:n<=100000)(h0:Pv 0 [] (upd H BM (.lst [])))(hgo:∀i out H1,i<n->H1 BM=some (.lst out)->Pv i out H1->J.go i H1)(hst:∀out H1,H1 BM=some (.lst out)->Pv n out H1->J.stop n H1)(hs:∀(i:Nat) (x:V) (out:Da V) (H1 H2:Hp),i<n->out.length=i->H1 BM=some (.lst out)->Pv i out H1->J.EX i H1 x H2->
    te (σ2.set k (some x)) H2 (vJ Pv i BM out))(hd:∀(out:Da V) (H1:Hp),out.length=n->H1 BM=some (.lst out)->Pv n out H1->Q (.ref BM) H1):
  Cz J (iA k) te BM σ2 H Q:=by
 refine⟨λi m σ' H'=>m=n-i/\i<=n/\(∀w:Option V,σ'.set k w=σ2.set k w)/\∃out,out.length=i/\H' BM=some (.lst out)/\Pv i out H',⟨n,by simp,fD _,λ_=>rfl,[],Z,ak,h0⟩,?_⟩
 rintro i m σ' H' ⟨rfl,hi,hσ,out,ho,ha,p⟩
 by_cases hlt:i<n
 . refine .inr ⟨hgo i out H' hlt ha p,λσ3=>∀w:Option V,σ3.set k w=σ2.set k w,(vJ Pv i BM out),λσ3 v H4 hS ⟨a,b⟩=>?_,λx H1 y=>?_⟩
   . refine⟨out,a,?_,n-(i+1),by omega,Z,hlt,hS,out++[v],by rw[c8,ho];rfl,ak,b⟩
     have:sizeLine=16777216:=gy
     omega
   . refine⟨λw=>by rw[xw];exact hσ w,?_⟩
     rw[hσ]
     exact hs i x out H' H1 hlt ho ha p y
 . have e:i=n:=by omega
   subst e
   exact .inl ⟨hst out H' ha p,hd out H' ho ha p⟩
theorem Q8(k:Nat){Q:VK}(Pv:Nat->Da V->Hp->Prop)(hn:n<=100000)(h0:Pv 0 [] (upd H BM (.lst [])))(hgo:∀i out H1,i<n->H1 BM=some (.lst out)->Pv i out H1->J.go i H1)(hst:∀out H1,H1 BM=some (.lst out)->Pv n out H1->J.stop n H1)(hs:∀(i:Nat) (x:V) (out:Da V) (H1 H2:Hp),i<n->out.length<=i->H1 BM=some (.lst out)->Pv i out H1->J.EX i H1 x H2->
    tc (σ2.set k (some x)) H2 (Zv te (σ2.set k (some x)) Pv i BM out))(hd:∀(out:Da V) (H1:Hp),out.length<=n->H1 BM=some (.lst out)->Pv n out H1->Q (.ref BM) H1):
  A_ J (iA k) tc te BM σ2 H Q:=by
 refine⟨λi m σ' H'=>m=n-i/\i<=n/\(∀w:Option V,σ'.set k w=σ2.set k w)/\∃out,out.length<=i/\H' BM=some (.lst out)/\Pv i out H',⟨n,by simp,fD _,λ_=>rfl,[],aN _,ak,h0⟩,?_⟩
 rintro i m σ' H' ⟨rfl,hi,hσ,out,ho,ha,p⟩
 by_cases hlt:i<n
 . refine .inr ⟨hgo i out H' hlt ha p,λσ3=>∀w:Option V,σ3.set k w=σ2.set k w,(vJ Pv i BM out),λH3=>H3 BM=some (.lst out)/\Pv (i+1) out H3,λσ3 v H4 hS ⟨a,b⟩=>?_,λσ3 H4 hS ⟨a,b⟩=>?_,λx H1 y=>?_⟩
   . refine⟨out,a,?_,n-(i+1),by omega,Z,hlt,hS,out++[v],by rw[c8];exact Nat.succ_le_succ ho,ak,b⟩
     have:sizeLine=16777216:=gy
     omega
   . exact⟨n-(i+1),by omega,Z,hlt,hS,out,by omega,a,b⟩
   . refine⟨λw=>by rw[xw];exact hσ w,?_⟩
     rw[hσ]
     exact hs i x out H' H1 hlt ho ha p y
 . have e:i=n:=by omega
   subst e
   exact .inl ⟨hst out H' ha p,hd out H' ho ha p⟩
structure Mn(P:Program)(w:World)(K:Fg)(mg:SO)(base:Heap)(k:Nat)(C:Addr)(m:Str)(ps:Da Str)(sp:Sp):Prop where
 ex:∃f fd,je P w K mg base uV k f fd ps sp/\Binds K fd ps []/\Meth K C m f/\p_ K C
structure Cn(P:Program)(w:World)(K:Fg)(mg:SO)(base:Heap)(k:Nat)(x:Str)(C:Addr)(ps:Da Str)(sp:Sp):Prop where
 ex:∃f fd,je P w K mg base uV k f fd ps sp/\Binds K fd ps []/\Mk K C f/\mg x=some (.ref C)
section
variable {X:Cx}
inductive afZ(x:V)(y:V)(H:Hp)(Q:VK):Prop
 |mk(i j:_)(_:x =.int i)(_:y =.int j)(_:SV i j)(_:Q (.int (i*j)) H)
def aaO:SG X .Mult afZ:=by
 rintro AT s σ H x y u v Q I rx ry ⟨i,j,rfl,rfl,⟨m,n,h1,h2,h3⟩,q⟩;obtain⟨t,rfl⟩:=(show ∃t,u=Value.int i t from rx)
 obtain⟨t',rfl⟩:=(show ∃t',v=Value.int j t' from ry)
 exact PyProof.Rows.imul_int ⟨.int (i*j),H,I.tok _,⟨_,Z⟩,q⟩ (IntMulOk.of_le (Sg.mpr h1) (Sg.mpr h2) h3)
end
structure jF(K:Fg)(C:Addr)(m qual:Str)(st:Stmt)(f:Addr)(fd:FuncData):Prop where
 fn:Jw K m qual st f fd
 me:Meth K C m f
 cl:p_ K C
variable {mg:SO}{base:Heap}{C f:Addr}{qual:Str}{fd:FuncData}{N ps:Da Str}{sp:Sp}
theorem jF.ok{m:Str}{st:Stmt}{k:Nat}(F:jF K C m qual st f fd)(S:aJ N ps (ay st))(len:∀vs H Q E,sp vs H Q E->vs.length=ps.length)(Ch:∀(cdv:Value) (A:Around) (outer:Da Env) (s:Shared) (H:Hp) (vs:Da V) (Q:VK) (E:XK),dR k (A.deeper (envOfC qual (ay st) s.heap.objs.size f cdv))->sp vs H Q E->
    ∃t,rQ (cX uV P w K mg base N qual (ay st) f cdv A outer s H E).C9 (cU st) t/\t { nx:=λ_ H'=>Q .cu H',rt:=Q } (start N vs) H)(h:∀(kV doc pm:Value) (an:Option Addr) (cdv ct:Value) (us:Da Value),us.length=ps.length->bindArgs (PySem.W.fnOf m qual (fh st) (cU st) (ay st) .none kV doc pm an cdv ct) ⟨us,[]⟩=pure (ps.zip us)):
  Mn P w K mg base (k+1) C m ps sp:=⟨f,fd,F.fn.ok S len Ch,F.fn.binds h,F.me,F.cl⟩
structure JD(K:Fg)(mg:SO)(x:Str)(C:Addr)(qual:Str)(st:Stmt)(f:Addr)(fd:FuncData):Prop where
 fn:Jw K "__init__" qual st f fd
 mks:Mk K C f
 name:mg x=some (.ref C)
theorem JD.ok{st:Stmt}{k:Nat}(F:JD K mg x C qual st f fd)(S:aJ N ps (ay st))(len:∀vs H Q E,sp vs H Q E->vs.length=ps.length)(Ch:∀(cdv:Value) (A:Around) (outer:Da Env) (s:Shared) (H:Hp) (vs:Da V) (Q:VK) (E:XK),dR k (A.deeper (envOfC qual (ay st) s.heap.objs.size f cdv))->sp vs H Q E->
    ∃t,rQ (cX uV P w K mg base N qual (ay st) f cdv A outer s H E).C9 (cU st) t/\t { nx:=λ_ H'=>Q .cu H',rt:=Q } (start N vs) H)(h:∀(kV doc pm:Value) (an:Option Addr) (cdv ct:Value) (us:Da Value),us.length=ps.length->bindArgs (PySem.W.fnOf "__init__" qual (fh st) (cU st) (ay st) .none kV doc pm an cdv ct) ⟨us,[]⟩=pure (ps.zip us)):
  Cn P w K mg base (k+1) x C ps sp:=⟨f,fd,F.fn.ok S len Ch,F.fn.binds h,F.mks,F.name⟩
abbrev nY:=Nat×Nat×Str
abbrev dO:=Addr->Option nY
abbrev col(n t:Nat):Option nY:=some (n,t,(⟨#[]⟩:Str))
noncomputable def isTup:HO->Bool
 | .tup _=>true
 | _=>false
def Gh(ρ:dO)(H:Hp):Prop:=∀b c,ρ b=some c->∃o,H b=some o/\isTup o=false
def Fr(n:Nat)(ρ:dO)(H:Hp)(ρ':dO)(H':Hp):Prop:=∀b o,H b=some o->(∀t x,ρ b≠some (n,t,x))->H' b=some o/\ρ' b=ρ b
noncomputable def b_(ρ:dO)(a:Addr)(c:nY):dO:=λb=>if b=a then some c else ρ b
variable {ρ:dO}
def dz{c:nY}:b_ ρ a c a=some c:=aC rfl
def cC{b:Addr}{c:nY}(h:b≠a):b_ ρ a c b=ρ b:=aB h
noncomputable def out(ρ:dO)(H:Hp):Hp:=λb=>if ρ b=none then H b else none
variable {o:HO}
def Fw{b:Addr}(h:H b=some o)(c:ρ b=none):out ρ H b=some o:=by unfold out;rw[aC c];exact h
def zR{b:Addr}(h:out ρ H b=some o):H b=some o/\ρ b=none:=by
 unfold out at h;split at h
 .next c=>exact⟨h,c⟩
 .cases h
theorem Gh.none(g:Gh ρ H){b:Addr}(h:H b=Option.none):ρ b=Option.none:=by
 cases e:ρ b with
 | none=>rfl
 | some c=>obtain⟨o,q,_⟩:=g b c e;rw[h]at q;cases q
theorem Gh.tup{ρ:dO}{H:Hp}(g:Gh ρ H){b:Addr}{xs:Da V}(h:H b=some (.tup xs)):ρ b=Option.none:=by
 cases e:ρ b with
 | none=>rfl
 | some c=>obtain⟨o,q,t⟩:=g b c e;rw[h]at q;cases q;cases t
def Gh.same(g:Gh ρ H)(s:aE H H'):Gh ρ H':=λb c e=>let⟨o,h,t⟩:=g b c e;⟨o,s b o h,t⟩
def Gh.wr(g:Gh ρ H)(t:isTup o=false):Gh ρ (upd H a o):=λb c e=>by
 by_cases h:b=a
 .rw [h,ak];exact⟨o,Z,t⟩
 .rw [av h];exact g b c e
def Gh.alloc(g:Gh ρ H)(h:H a=Option.none):Gh ρ (upd H a o):=g.same (aA h o)
def Gh.color(g:Gh ρ H){c:nY}(h:H a=some o)(t:isTup o=false):Gh (b_ ρ a c) H:=λb d e=>by
 by_cases z:b=a
 .rw [z];exact⟨o,h,t⟩
 .rw [cC z]at e;exact g b d e
def Fr.refl:Fr n ρ H ρ H:=λ_ _ h _=>⟨h,Z⟩
variable {H1 H2:Hp}
theorem Fr.trans{ρ1 ρ2:dO}(a:Fr n ρ H ρ1 H1)(b:Fr n ρ1 H1 ρ2 H2):Fr n ρ H ρ2 H2:=λc o h k=>by obtain⟨h1,e1⟩:=a c o h k;obtain⟨h2,e2⟩:=b c o h1 (by rw[e1];exact k);exact⟨h2,e2.trans e1⟩
def Fr.of_same(s:aE H H'):Fr n ρ H ρ H':=λb o h _=>⟨s b o h,Z⟩
def Fr.write(c:ρ a=some (n,t,x)):Fr n ρ H ρ (upd H a o):=λb u h k=>by have:b≠a:=λe=>k t x (by rw[e];exact c);rw[av this];exact⟨h,Z⟩
def Fr.color{c:nY}(h:H a=none)(s:aE H H'):Fr n ρ H (b_ ρ a c) H':=λb u e k=>by rw[cC (aI e h)];exact⟨s b u e,Z⟩
variable {ρ':dO}
theorem Fr.out(f:Fr n ρ H ρ' H'):aE (out ρ H) (out ρ' H'):=λb o h=>by obtain⟨h1,c⟩:=zR h;obtain⟨h2,e⟩:=f b o h1 (λt x=>by rw[c];intro z;cases z);exact Fw h2 (e.trans c)
def jf(s:aE H H'):aE (out ρ H) (out ρ H'):=λb o h=>by obtain⟨h1,c⟩:=zR h;exact Fw (s b o h1) c
structure Pt where
 nm:Str
 ow:Str
 wo:Int
 we:Int
 sc:Int
 row:Da Int
structure kX where
 nm:Str
 ow:Str
 wo:Int
 sh:Da (Str×Rat)
structure HS where
 own:Da Str
 ah:Da Pt
 dB:Da kX
 nms:Da Str
 stp:Da Int
 prod:Int
 kn:Nat
 bU:Da Int
 cJ:Da Int
structure HA where
 a:Addr
 dx:Addr
 pl:Addr
 ab:Addr
 as:Addr
 nm:Addr
 bt:Addr
 db:Addr
 cm:Addr
 pu:Addr
 sp:Addr
 kn:Addr
 qs:Da (Addr×Addr×Addr)
structure TC where
 hold:Addr
 part:Addr
 bot:Addr
noncomputable def gq:Nat->Da Str->Da (Key×V)
 | _,[]=>[]
 | i,o::r=>(Sum.inr o,.int i)::gq (i+1) r
noncomputable def c7(ps:Da Pt)(qs:Da (Addr×Addr×Addr)):Da (Key×V):=List.zipWith (λp q=>((Sum.inr p.nm:Key),V.ref q.1)) ps qs
noncomputable def yC(l:Da Str):Da (Key×V):=l.map λx=>(Sum.inr x,.bl true)
noncomputable def kG(A:HA):Da (Str×V):=[("places",.ref A.pl),("aboard",.ref A.ab),("ashore",.ref A.as),("names",.ref A.nm),("bottom",.ref A.bt),("common",.ref A.cm),("purses",.ref A.pu)]
noncomputable def nh(p:Pt)(r:Addr):Da (Str×V):=[("name",.str p.nm),("owner",.str p.ow),("worth",.int p.wo),("weight",.int p.we),("scale",.int p.sc),("row",.ref r)]
noncomputable def zS(sp:Addr)(prod:Int)(kn:Addr):Da (Str×V):=[("steps",.ref sp),("product",.int prod),("known",.ref kn)]
def MD(H:Hp)(Ap:Da (Key×V))(prod:Int):Prop:=∀p∈Ap,∃(t:Int)(r:Addr),p=(Sum.inl t,V.ref r)/\H r=some (qE (Jm.fr t prod))
inductive iR(H:Hp):Da V->Da (Str×Rat)->Prop
 | nil:iR H [] []
 | cons {r f:Addr} {x:Str} {q:Rat} {vs:Da V} {l:Da (Str×Rat)}:H r=some (.tup [.str x,.ref f])->H f=some (qE q)->iR H vs l->iR H (.ref r::vs) ((x,q)::l)
inductive mV(n:Nat)(ρ:dO)(H:Hp):Da V->Da kX->Prop
 | nil:mV n ρ H [] []
 | cons {r l:Addr} {x:kX} {ss:Da V} {vs:Da V} {as:Da kX}:H r=some (.tup [.str x.nm,.str x.ow,.int x.wo,.ref l])->H l=some (.lst ss)->ρ l=some (n,30,⟨#[]⟩)->iR H ss x.sh->mV n ρ H vs as->mV n ρ H (.ref r::vs) (x::as)
structure a_(T:TC)(n:Nat)(ρ:dO)(A:HA)(H:Hp)(st:HS):Prop where
 oa:H A.a=some (.ins T.hold A.dx (kG A))
 ca:ρ A.a=col n 0
 jv:H A.pl=some (.dK (gq 0 st.own))
 jQ:ρ A.pl=col n 1
 fB:H A.ab=some (.dK (c7 st.ah A.qs))
 g_:ρ A.ab=col n 2
 tX:∃vs,H A.as=some (.lst vs)/\mV n ρ H vs st.dB
 jZ:ρ A.as=col n 3
 uW:H A.nm=some (.dK (yC st.nms))
 j0:ρ A.nm=col n 4
 nj:H A.bt=some (.ins T.bot A.db (zS A.sp st.prod A.kn))
 j6:ρ A.bt=col n 5
 kK:H A.cm=some (.lst (st.bU.map V.int))
 kY:ρ A.cm=col n 6
 nZ:H A.pu=some (.lst (st.cJ.map V.int))
 cpu:ρ A.pu=col n 7
 tY:H A.sp=some (.lst (st.stp.map V.int))
 j7:ρ A.sp=col n 8
 okn:∃Ap,H A.kn=some (.dK Ap)/\MD H Ap st.prod/\Ap.length<=st.kn/\(Ap.map (·.1)).Nodup
 j8:ρ A.kn=col n 9
 ql:A.qs.length=st.ah.length
 opt:∀(i:Nat)(p:Pt)(q:Addr×Addr×Addr),st.ah[i]?=some p->A.qs[i]?=some q->H q.1=some (.ins T.part q.2.1 (nh p q.2.2))/\H q.2.2=some (.lst (p.row.map V.int))/\ρ q.1=some (n,20,p.nm)/\ρ q.2.2=some (n,21,p.nm)
def Fx{b:Addr}{c d:nY}(ha:ρ a=some c)(hb:ρ b=some d)(h:c≠d):a≠b:=λe=>by rw[e,hb]at ha;cases ha;exact h rfl
def Dk{b:Addr}{c:nY}(ha:ρ a=none)(hb:ρ b=some c):a≠b:=λe=>by rw[e,hb]at ha;cases ha
variable {vs:Da V}
def iR.mono{l:Da (Str×Rat)}(h:iR H vs l)(g:∀b xs,H b=some (.tup xs)->H' b=some (.tup xs)):iR H' vs l:=by
 induction h with
 | nil=>exact .nil
 | cons a b _ ih=>exact .cons (g _ _ a) (g _ _ b) ih
def Kp(n:Nat)(ρ ρ':dO)(H H':Hp)(ts:Nat->Bool):Prop:=(∀b xs,H b=some (.tup xs)->H' b=some (.tup xs))/\∀b t x o,ts t=true->ρ b=some (n,t,x)->H b=some o->H' b=some o/\ρ' b=some (n,t,x)
variable {l:Da kX}{ts:Nat->Bool}
def mV.keep(h:mV n ρ H vs l)(k:Kp n ρ ρ' H H' ts)(e:ts 30=true):mV n ρ' H' vs l:=by
 induction h with
 | nil=>exact .nil
 | cons a b c d _ ih=>exact .cons (k.1 _ _ a) (k.2 _ _ _ _ e c b).1 (k.2 _ _ _ _ e c b).2 (d.mono k.1) ih
def eF(g:Gh ρ H)(c:ρ a=some (n,t,x)):Kp n ρ ρ H (upd H a o) (λu=>decide (u≠t)):=by
 refine⟨λb xs h=>?_,λb u y w hu hc h=>⟨?_,hc⟩⟩
 .rw [av (Dk (g.tup h) c)];exact h
 .rw [av (Fx hc c (λe=>by cases e;exact absurd hu (by simp)))];exact h
def kz(k:Kp n ρ ρ' H H' ts){b:Addr}(c:ρ b=some (n,t,x))(e:H b=some o)(u:ts t=true:=by decide):H' b=some o:=(k.2 b t x o u c e).1
def Q9(s:aE H H'):Kp n ρ ρ H H' ts:=⟨λb xs h=>s _ _ h,λb u y w _ hc h=>⟨s _ _ h,hc⟩⟩
variable {T:TC}{st:HS}
def a_.same{A:HA}(h:a_ T n ρ A H st)(k:Kp n ρ ρ' H H' λ_=>true):a_ T n ρ' A H' st:=by
 have z:=λ{b:Addr}{t:Nat}{x:Str}{o:HO}(c:ρ b=some (n,t,x))(e:H b=some o)=>k.2 b t x o rfl c e;obtain⟨vs,h1,h2⟩:=h.tX;obtain⟨Ap,k1,k2,k3⟩:=h.okn;exact⟨(z h.ca h.oa).1,(z h.ca h.oa).2,(z h.jQ h.jv).1,(z h.jQ h.jv).2,(z h.g_ h.fB).1,(z h.g_ h.fB).2,⟨vs,(z h.jZ h1).1,h2.keep k rfl⟩,(z h.jZ h1).2,(z h.j0 h.uW).1,(z h.j0 h.uW).2,(z h.j6 h.nj).1,(z h.j6 h.nj).2,
  (z h.kY h.kK).1,(z h.kY h.kK).2,(z h.cpu h.nZ).1,(z h.cpu h.nZ).2,(z h.j7 h.tY).1,(z h.j7 h.tY).2,⟨Ap,(z h.j8 k1).1,λp hp=>let⟨t,r,e,q⟩:=k2 p hp;⟨t,r,e,k.1 _ _ q⟩,k3⟩,(z h.j8 k1).2,h.ql,
  λi p q e1 e2=>let⟨a,b,c,d⟩:=h.opt i p q e1 e2;⟨(z c a).1,(z d b).1,(z c a).2,(z d b).2⟩⟩
def a_.mono{A:HA}(h:a_ T n ρ A H st)(s:aE H H'):a_ T n ρ A H' st:=h.same (Q9 s)
def a_.other{A:HA}(h:a_ T m ρ A H st)(f:Fr n ρ H ρ' H')(g:Gh ρ H)(e:m≠n):a_ T m ρ' A H' st:=h.same ⟨λb xs q=>(f b _ q λt x=>by rw[g.tup q];intro z;cases z).1,λb t x o _ c q=>by
 obtain⟨a,b'⟩:=f b o q λt' x'=>by rw[c];intro z;cases z;exact e rfl
 exact⟨a,b'.trans c⟩⟩
variable {r:Addr}{ss:Da V}
def mV.snoc{as:Da kX}{l:Addr}{x:kX}(h:mV n ρ H vs as)(e1:H r=some (.tup [.str x.nm,.str x.ow,.int x.wo,.ref l]))(e2:H l=some (.lst ss))(e3:ρ l=some (n,30,⟨#[]⟩))(e4:iR H ss x.sh):mV n ρ H (vs++[.ref r]) (as++[x]):=by
 induction h with
 | nil=>exact .cons e1 e2 e3 e4 .nil
 | cons a b c d _ ih=>exact .cons a b c d ih
theorem HR{p0 p1:Pt}:∀{ps:Da Pt}{qs:Da (Addr×Addr×Addr)}{i:Nat},ps[i]?=some p0->p1.nm=p0.nm->c7 (ps.set i p1) qs=c7 ps qs
 | [],_,_,h,_=>by simp at h
 | _::_,[],_,_,_=>by simp[c7]
 | p::ps,q::qs,0,h,e=>by
  have:p=p0:=by simpa using h
  simp[c7,e,this]
 | p::ps,q::qs,i+1,h,e=>by have:=HR (qs:=qs) (by simpa using h:ps[i]?=some p0) e;simp only[c7,LO,ud]at this ⊢;rw[this]
variable {j:Nat}{p:Pt}
def ME{ps:Da Pt}(nd:(ps.map (·.nm)).Nodup){q:Pt}(h1:ps[i]?=some p)(h2:ps[j]?=some q)(e:p.nm=q.nm):i=j:=by
 have a:(ps.map (·.nm))[i]?=some p.nm:=by rw[bH,h1];rfl
 have b:(ps.map (·.nm))[j]?=some p.nm:=by rw[bH,h2,e];rfl
 exact zK nd a b
variable {p0:Pt}{q0:Addr×Addr×Addr}
def aaP{A:HA}(h:a_ T n ρ A H st)(k:Kp n ρ ρ H H' ts)(nd:(st.ah.map (·.nm)).Nodup){p1:Pt}(ep:st.ah[i]?=some p0)(eq:A.qs[i]?=some q0)(e1:p1.nm=p0.nm)(hw:H' q0.1=some (.ins T.part q0.2.1 (nh p1 q0.2.2)))(hs:∀{b:Addr} {t:Nat} {x:Str} {o:HO},ρ b=some (n,t,x)->t≠20\/x≠p0.nm->H b=some o->H' b=some o)(er:(.lst (p0.row.map V.int):HO) =.lst (p1.row.map V.int)):
  ∀(j:Nat)(p:Pt)(q:Addr×Addr×Addr),(st.ah.set i p1)[j]?=some p->A.qs[j]?=some q->H' q.1=some (.ins T.part q.2.1 (nh p q.2.2))/\H' q.2.2=some (.lst (p.row.map V.int))/\ρ q.1=some (n,20,p.nm)/\ρ q.2.2=some (n,21,p.nm):=by
 intro j p q ej eq'
 by_cases hj:i=j
 . subst hj
   rw[eq]at eq';cases eq'
   rw[uc (dZ.mp ep).1]at ej
   cases ej
   obtain⟨a,b,c,d⟩:=h.opt i p0 q0 ep eq
   exact⟨hw,by rw[<-er];exact hs d (.inl (by decide)) b,by rw[e1];exact c,by rw[e1];exact d⟩
 . rw[y9 hj]at ej
   obtain⟨a,b,c,d⟩:=h.opt j p q ej eq'
   exact⟨hs c (.inr λe=>hj (ME nd ep ej e.symm)) a,hs d (.inl (by decide)) b,c,d⟩
def Yh{A:HA}(h:a_ T n ρ A H st)(nd:(st.ah.map (·.nm)).Nodup){l:Da Int}(ep:st.ah[i]?=some p0)(eq:A.qs[i]?=some q0)(hw:H' q0.2.2=some (.lst (l.map V.int)))(hs:∀{b:Addr} {t:Nat} {x:Str} {o:HO},ρ b=some (n,t,x)->t≠21\/x≠p0.nm->H b=some o->H' b=some o):
  ∀(j:Nat)(p:Pt)(q:Addr×Addr×Addr),(st.ah.set i { p0 with row:=l })[j]?=some p->A.qs[j]?=some q->H' q.1=some (.ins T.part q.2.1 (nh p q.2.2))/\H' q.2.2=some (.lst (p.row.map V.int))/\ρ q.1=some (n,20,p.nm)/\ρ q.2.2=some (n,21,p.nm):=by
 intro j p q ej eq'
 by_cases hj:i=j
 . subst hj
   rw[eq]at eq';cases eq'
   rw[uc (dZ.mp ep).1]at ej
   cases ej
   obtain⟨a,b,c,d⟩:=h.opt i p0 q0 ep eq
   exact⟨hs c (.inl (by decide)) a,hw,c,d⟩
 . rw[y9 hj]at ej
   obtain⟨a,b,c,d⟩:=h.opt j p q ej eq'
   exact⟨hs c (.inl (by decide)) a,hs d (.inr λe=>hj (ME nd ep ej e.symm)) b,c,d⟩
def JE(c:ρ a=some (n,t,x)):∀{b:Addr}{u:Nat}{y:Str}{w:HO},ρ b=some (n,u,y)->u≠t\/y≠x->H b=some w->upd H a o b=some w:=λ{b u y w} hc hu h=>by rw[av (Fx hc c (λe=>by cases e;rcases hu with z|z <;> exact z rfl))];exact h
def a_.adi{A:HA}(h:a_ T n ρ A H st)(g:Gh ρ H)(l:Da Str):a_ T n ρ A (upd H A.pl (.dK (gq 0 l))) { st with own:=l }:=by have k:=eF (o:=.dK (gq 0 l)) g h.jQ;obtain⟨vs,h1,h2⟩:=h.tX;obtain⟨Ap,k1,k2,k3⟩:=h.okn;exact⟨kz k h.ca h.oa,h.ca,ak,h.jQ,kz k h.g_ h.fB,h.g_,⟨vs,kz k h.jZ h1,h2.keep k (by decide)⟩,h.jZ,kz k h.j0 h.uW,h.j0,kz k h.j6 h.nj,h.j6,kz k h.kY h.kK,h.kY,kz k h.cpu h.nZ,h.cpu,kz k h.j7 h.tY,h.j7,⟨Ap,kz k h.j8 k1,λp hp=>let⟨t,r,e,q⟩:=k2 p hp;⟨t,r,e,k.1 _ _ q⟩,k3⟩,h.j8,h.ql,λi p q e1 e2=>let⟨a,b,c,d⟩:=h.opt i p q e1 e2;⟨kz k c a,kz k d b,c,d⟩⟩
def a_.MF{A:HA}(h:a_ T n ρ A H st)(g:Gh ρ H)(ps:Da Pt)(qs:Da (Addr×Addr×Addr))(el:qs.length=ps.length)(hp:∀(i:Nat) (p:Pt) (q:Addr×Addr×Addr),ps[i]?=some p->qs[i]?=some q->H q.1=some (.ins T.part q.2.1 (nh p q.2.2))/\H q.2.2=some (.lst (p.row.map V.int))/\ρ q.1=some (n,20,p.nm)/\ρ q.2.2=some (n,21,p.nm)):a_ T n ρ { A with qs:=qs } (upd H A.ab (.dK (c7 ps qs))) { st with ah:=ps }:=by have k:=eF (o:=.dK (c7 ps qs)) g h.g_;obtain⟨vs,h1,h2⟩:=h.tX;obtain⟨Ap,k1,k2,k3⟩:=h.okn;exact⟨kz k h.ca h.oa,h.ca,kz k h.jQ h.jv,h.jQ,ak,h.g_,⟨vs,kz k h.jZ h1,h2.keep k (by decide)⟩,h.jZ,kz k h.j0 h.uW,h.j0,kz k h.j6 h.nj,h.j6,kz k h.kY h.kK,h.kY,kz k h.cpu h.nZ,h.cpu,kz k h.j7 h.tY,h.j7,⟨Ap,kz k h.j8 k1,λp hp=>let⟨t,r,e,q⟩:=k2 p hp;⟨t,r,e,k.1 _ _ q⟩,k3⟩,h.j8,el,λi p q e1 e2=>let⟨a,b,c,d⟩:=hp i p q e1 e2;⟨kz k c a,kz k d b,c,d⟩⟩
def a_.adj{A:HA}(h:a_ T n ρ A H st)(g:Gh ρ H){l:Addr}{x:kX}{Vs:Da V}(hv:H A.as=some (.lst Vs))(e1:H r=some (.tup [.str x.nm,.str x.ow,.int x.wo,.ref l]))(e2:H l=some (.lst ss))(e3:ρ l=some (n,30,⟨#[]⟩))(e4:iR H ss x.sh):a_ T n ρ A (upd H A.as (.lst (Vs++[.ref r]))) { st with dB:=st.dB++[x] }:=by have k:=eF (o:=.lst (Vs++[.ref r])) g h.jZ;obtain⟨vs,h1,h2⟩:=h.tX;obtain⟨Ap,k1,k2,k3⟩:=h.okn;exact⟨kz k h.ca h.oa,h.ca,kz k h.jQ h.jv,h.jQ,kz k h.g_ h.fB,h.g_,⟨_,ak,by rw[hv]at h1;cases h1;exact(h2.keep k (by decide)).snoc (k.1 _ _ e1) (kz k e3 e2) e3 (e4.mono k.1)⟩,h.jZ,kz k h.j0 h.uW,h.j0,kz k h.j6 h.nj,h.j6,kz k h.kY h.kK,h.kY,kz k h.cpu h.nZ,h.cpu,kz k h.j7 h.tY,h.j7,⟨Ap,kz k h.j8 k1,λp hp=>let⟨t,r,e,q⟩:=k2 p hp;⟨t,r,e,k.1 _ _ q⟩,k3⟩,h.j8,h.ql,λi p q e1 e2=>let⟨a,b,c,d⟩:=h.opt i p q e1 e2;⟨kz k c a,kz k d b,c,d⟩⟩
def a_.adk{A:HA}(h:a_ T n ρ A H st)(g:Gh ρ H)(l:Da Str):a_ T n ρ A (upd H A.nm (.dK (yC l))) { st with nms:=l }:=by have k:=eF (o:=.dK (yC l)) g h.j0;obtain⟨vs,h1,h2⟩:=h.tX;obtain⟨Ap,k1,k2,k3⟩:=h.okn;exact⟨kz k h.ca h.oa,h.ca,kz k h.jQ h.jv,h.jQ,kz k h.g_ h.fB,h.g_,⟨vs,kz k h.jZ h1,h2.keep k (by decide)⟩,h.jZ,ak,h.j0,kz k h.j6 h.nj,h.j6,kz k h.kY h.kK,h.kY,kz k h.cpu h.nZ,h.cpu,kz k h.j7 h.tY,h.j7,⟨Ap,kz k h.j8 k1,λp hp=>let⟨t,r,e,q⟩:=k2 p hp;⟨t,r,e,k.1 _ _ q⟩,k3⟩,h.j8,h.ql,λi p q e1 e2=>let⟨a,b,c,d⟩:=h.opt i p q e1 e2;⟨kz k c a,kz k d b,c,d⟩⟩
def a_.adl{A:HA}(h:a_ T n ρ A H st)(g:Gh ρ H)(l:Da Int):a_ T n ρ A (upd H A.cm (.lst (l.map V.int))) { st with bU:=l }:=by have k:=eF (o:=.lst (l.map V.int)) g h.kY;obtain⟨vs,h1,h2⟩:=h.tX;obtain⟨Ap,k1,k2,k3⟩:=h.okn;exact⟨kz k h.ca h.oa,h.ca,kz k h.jQ h.jv,h.jQ,kz k h.g_ h.fB,h.g_,⟨vs,kz k h.jZ h1,h2.keep k (by decide)⟩,h.jZ,kz k h.j0 h.uW,h.j0,kz k h.j6 h.nj,h.j6,ak,h.kY,kz k h.cpu h.nZ,h.cpu,kz k h.j7 h.tY,h.j7,⟨Ap,kz k h.j8 k1,λp hp=>let⟨t,r,e,q⟩:=k2 p hp;⟨t,r,e,k.1 _ _ q⟩,k3⟩,h.j8,h.ql,λi p q e1 e2=>let⟨a,b,c,d⟩:=h.opt i p q e1 e2;⟨kz k c a,kz k d b,c,d⟩⟩
def a_.adm{A:HA}(h:a_ T n ρ A H st)(g:Gh ρ H)(l:Da Int):a_ T n ρ A (upd H A.pu (.lst (l.map V.int))) { st with cJ:=l }:=by have k:=eF (o:=.lst (l.map V.int)) g h.cpu;obtain⟨vs,h1,h2⟩:=h.tX;obtain⟨Ap,k1,k2,k3⟩:=h.okn;exact⟨kz k h.ca h.oa,h.ca,kz k h.jQ h.jv,h.jQ,kz k h.g_ h.fB,h.g_,⟨vs,kz k h.jZ h1,h2.keep k (by decide)⟩,h.jZ,kz k h.j0 h.uW,h.j0,kz k h.j6 h.nj,h.j6,kz k h.kY h.kK,h.kY,ak,h.cpu,kz k h.j7 h.tY,h.j7,⟨Ap,kz k h.j8 k1,λp hp=>let⟨t,r,e,q⟩:=k2 p hp;⟨t,r,e,k.1 _ _ q⟩,k3⟩,h.j8,h.ql,λi p q e1 e2=>let⟨a,b,c,d⟩:=h.opt i p q e1 e2;⟨kz k c a,kz k d b,c,d⟩⟩
def a_.adn{A:HA}(h:a_ T n ρ A H st)(g:Gh ρ H)(l:Da Int):a_ T n ρ A (upd H A.sp (.lst (l.map V.int))) { st with stp:=l }:=by have k:=eF (o:=.lst (l.map V.int)) g h.j7;obtain⟨vs,h1,h2⟩:=h.tX;obtain⟨Ap,k1,k2,k3⟩:=h.okn;exact⟨kz k h.ca h.oa,h.ca,kz k h.jQ h.jv,h.jQ,kz k h.g_ h.fB,h.g_,⟨vs,kz k h.jZ h1,h2.keep k (by decide)⟩,h.jZ,kz k h.j0 h.uW,h.j0,kz k h.j6 h.nj,h.j6,kz k h.kY h.kK,h.kY,kz k h.cpu h.nZ,h.cpu,ak,h.j7,⟨Ap,kz k h.j8 k1,λp hp=>let⟨t,r,e,q⟩:=k2 p hp;⟨t,r,e,k.1 _ _ q⟩,k3⟩,h.j8,h.ql,λi p q e1 e2=>let⟨a,b,c,d⟩:=h.opt i p q e1 e2;⟨kz k c a,kz k d b,c,d⟩⟩
def a_.ado{A:HA}(h:a_ T n ρ A H st)(g:Gh ρ H)(q:Addr)(l:Da Int)(e:H q=some (.lst (l.map V.int)))(c:ρ q=col n 6):a_ T n ρ { A with cm:=q } (upd H A.a (.ins T.hold A.dx (kG { A with cm:=q }))) { st with bU:=l }:=by have k:=eF (o:=.ins T.hold A.dx (kG { A with cm:=q })) g h.ca;obtain⟨vs,h1,h2⟩:=h.tX;obtain⟨Ap,k1,k2,k3⟩:=h.okn;exact⟨ak,h.ca,kz k h.jQ h.jv,h.jQ,kz k h.g_ h.fB,h.g_,⟨vs,kz k h.jZ h1,h2.keep k (by decide)⟩,h.jZ,kz k h.j0 h.uW,h.j0,kz k h.j6 h.nj,h.j6,kz k c e,c,kz k h.cpu h.nZ,h.cpu,kz k h.j7 h.tY,h.j7,⟨Ap,kz k h.j8 k1,λp hp=>let⟨t,r,e,q⟩:=k2 p hp;⟨t,r,e,k.1 _ _ q⟩,k3⟩,h.j8,h.ql,λi p q e1 e2=>let⟨a,b,c,d⟩:=h.opt i p q e1 e2;⟨kz k c a,kz k d b,c,d⟩⟩
def a_.Vt{A:HA}(h:a_ T n ρ A H st)(g:Gh ρ H)(q:Addr)(l:Da Int)(e:H q=some (.lst (l.map V.int)))(c:ρ q=col n 7):a_ T n ρ { A with pu:=q } (upd H A.a (.ins T.hold A.dx (kG { A with pu:=q }))) { st with cJ:=l }:=by have k:=eF (o:=.ins T.hold A.dx (kG { A with pu:=q })) g h.ca;obtain⟨vs,h1,h2⟩:=h.tX;obtain⟨Ap,k1,k2,k3⟩:=h.okn;exact⟨ak,h.ca,kz k h.jQ h.jv,h.jQ,kz k h.g_ h.fB,h.g_,⟨vs,kz k h.jZ h1,h2.keep k (by decide)⟩,h.jZ,kz k h.j0 h.uW,h.j0,kz k h.j6 h.nj,h.j6,kz k h.kY h.kK,h.kY,kz k c e,c,kz k h.j7 h.tY,h.j7,⟨Ap,kz k h.j8 k1,λp hp=>let⟨t,r,e,q⟩:=k2 p hp;⟨t,r,e,k.1 _ _ q⟩,k3⟩,h.j8,h.ql,λi p q e1 e2=>let⟨a,b,c,d⟩:=h.opt i p q e1 e2;⟨kz k c a,kz k d b,c,d⟩⟩
def a_.adp{A:HA}(h:a_ T n ρ A H st)(g:Gh ρ H)(m:Int)(q:Addr)(e:H q=some (.dK []))(c:ρ q=col n 9):a_ T n ρ { A with kn:=q } (upd H A.bt (.ins T.bot A.db (zS A.sp m q))) { st with prod:=m,kn:=0 }:=by have k:=eF (o:=.ins T.bot A.db (zS A.sp m q)) g h.j6;obtain⟨vs,h1,h2⟩:=h.tX;obtain⟨Ap,k1,k2,k3⟩:=h.okn;exact⟨kz k h.ca h.oa,h.ca,kz k h.jQ h.jv,h.jQ,kz k h.g_ h.fB,h.g_,⟨vs,kz k h.jZ h1,h2.keep k (by decide)⟩,h.jZ,kz k h.j0 h.uW,h.j0,ak,h.j6,kz k h.kY h.kK,h.kY,kz k h.cpu h.nZ,h.cpu,kz k h.j7 h.tY,h.j7,⟨[],kz k c e,(λp hp=>absurd hp (by simp)),aN _,sW⟩,c,h.ql,λi p q e1 e2=>let⟨a,b,c,d⟩:=h.opt i p q e1 e2;⟨kz k c a,kz k d b,c,d⟩⟩
def a_.yD{A:HA}(h:a_ T n ρ A H st)(g:Gh ρ H){p1:Pt}(ep:st.ah[i]?=some p0)(eq:A.qs[i]?=some q0)(e1:p1.nm=p0.nm)(e2:p1.row=p0.row)(nd:(st.ah.map (·.nm)).Nodup):a_ T n ρ A (upd H q0.1 (.ins T.part q0.2.1 (nh p1 q0.2.2))) { st with ah:=st.ah.set i p1 }:=by have k:=eF (o:=.ins T.part q0.2.1 (nh p1 q0.2.2)) g (h.opt i p0 q0 ep eq).2.2.1;obtain⟨vs,h1,h2⟩:=h.tX;obtain⟨Ap,k1,k2,k3⟩:=h.okn;exact⟨kz k h.ca h.oa,h.ca,kz k h.jQ h.jv,h.jQ,by rw[HR ep e1];exact kz k h.g_ h.fB,h.g_,⟨vs,kz k h.jZ h1,h2.keep k (by decide)⟩,h.jZ,kz k h.j0 h.uW,h.j0,kz k h.j6 h.nj,h.j6,kz k h.kY h.kK,h.kY,kz k h.cpu h.nZ,h.cpu,kz k h.j7 h.tY,h.j7,⟨Ap,kz k h.j8 k1,λp hp=>let⟨t,r,e,q⟩:=k2 p hp;⟨t,r,e,k.1 _ _ q⟩,k3⟩,h.j8,by rw[jV];exact h.ql,aaP h k nd ep eq e1 ak (JE (h.opt i p0 q0 ep eq).2.2.1) (by rw[e2])⟩
def a_.aaQ{A:HA}(h:a_ T n ρ A H st)(g:Gh ρ H)(l:Da Int)(ep:st.ah[i]?=some p0)(eq:A.qs[i]?=some q0)(nd:(st.ah.map (·.nm)).Nodup):a_ T n ρ A (upd H q0.2.2 (.lst (l.map V.int))) { st with ah:=st.ah.set i { p0 with row:=l } }:=by have k:=eF (o:=.lst (l.map V.int)) g (h.opt i p0 q0 ep eq).2.2.2;obtain⟨vs,h1,h2⟩:=h.tX;obtain⟨Ap,k1,k2,k3⟩:=h.okn;exact⟨kz k h.ca h.oa,h.ca,kz k h.jQ h.jv,h.jQ,by show _=some (HO.dK (c7 (st.ah.set i { p0 with row:=l }) A.qs));rw[HR (p1:={ p0 with row:=l }) ep rfl];exact kz k h.g_ h.fB,h.g_,⟨vs,kz k h.jZ h1,h2.keep k (by decide)⟩,h.jZ,kz k h.j0 h.uW,h.j0,kz k h.j6 h.nj,h.j6,kz k h.kY h.kK,h.kY,kz k h.cpu h.nZ,h.cpu,kz k h.j7 h.tY,h.j7,⟨Ap,kz k h.j8 k1,λp hp=>let⟨t,r,e,q⟩:=k2 p hp;⟨t,r,e,k.1 _ _ q⟩,k3⟩,h.j8,by rw[jV];exact h.ql,Yh h nd ep eq ak (JE (h.opt i p0 q0 ep eq).2.2.2)⟩
structure Txt(K:Fg)(T:TC):Prop where
 cH:p_ K T.hold
 cP:p_ K T.part
 cB:p_ K T.bot
 hpl:fM K T.hold "places"
 hab:fM K T.hold "aboard"
 has:fM K T.hold "ashore"
 hnm:fM K T.hold "names"
 Bc:fM K T.hold "bottom"
 Dl:fM K T.hold "common"
 Fy:fM K T.hold "purses"
 Vu:fM K T.part "name"
 pow:fM K T.part "owner"
 Fz:fM K T.part "worth"
 pwe:fM K T.part "weight"
 Vv:fM K T.part "scale"
 ZF:fM K T.part "row"
 bst:fM K T.bot "steps"
 Q_:fM K T.bot "product"
 Vw:fM K T.bot "known"
structure Wf(st:HS):Prop where
 zT:st.own.Nodup
 DS:st.nms.Nodup
 lN:(st.ah.map (·.nm)).Nodup
 sub:∀p∈st.ah,p.nm∈st.nms
 rows:∀p∈st.ah,p.row.length=st.own.length
 ow:∀p∈st.ah,p.ow∈st.own
 jg:st.bU.length=st.own.length
 vN:st.cJ.length=st.own.length
 iZ:1<=st.prod
 xC:st.prod=st.stp.foldl (·*·) 1
 Bd:∀s∈st.stp,2<=s
 qH:st.own.length<=100
 DT:st.nms.length<=1000
 vO:st.ah.length<=1000
 HU:st.stp.length<=100
 x8:st.dB.length<=1000
 Ra:st.kn<=1000000
 big:Jm.Sz 8000 st.prod
 uw:∀c∈st.bU,0<=c/\c<=st.prod
 yE:∀p∈st.ah,1<=p.sc/\p.sc<=st.prod
 vP:∀p∈st.ah,∀r∈p.row,-st.prod<=r/\r<=st.prod
 Be:∀p∈st.ah,∀t∈List.zipWith (λr c=>p.sc*r+c) p.row st.bU,0<=t/\t<=st.prod
 uX:∀p∈st.ah,1<=p.wo/\0<=p.we
 Te:∀u∈st.cJ,Jm.Sz 9000 u
structure HH(T:TC)(n:Nat)(ρ:dO)(A:HA)(H:Hp)(st:HS):Prop where
 g:Gh ρ H
 h:a_ T n ρ A H st
 wf:Wf st
def zU(T:TC)(n:Nat)(ρ:dO)(A:HA)(H:Hp)(st:HS)(Q:Hp->Prop):Prop:=∀ρ' A' H',HH T n ρ' A' H' st->A'.a=A.a->Fr n ρ H ρ' H'->Q H'
noncomputable def hs0:HS:=⟨[],[],[],[],[],1,0,[],[]⟩
def wf0:Wf hs0:=by refine⟨sW,sW,sW,?_,?_,?_,Z,Z,?_,Z,?_,?_,?_,?_,?_,?_,?_,?_,?_,?_,?_,?_,?_,?_⟩ <;> first|(intro _ h;exact absurd h (by simp[hs0]))|decide|(show Jm.Sz 8000 1;exact oJ (by decide +kernel))
theorem Rb:∀{l:Da Str}{i:Nat}{o:Str},o∈l->eV (gq i l) (Sum.inr o)=some (.int ((i+l.idxOf o:Nat):Int))
 | [],_,_,h=>by simp at h
 | x::l,i,o,h=>by
  by_cases e:x=o
  .subst e;rw[show gq i (x::l)=(Sum.inr x,.int i)::gq (i+1) l from rfl,iE rfl];simp
  .rw [show gq i (x::l)=(Sum.inr x,.int i)::gq (i+1) l from rfl,fP (by intro z;exact e (u9 z))];have hm:o∈l:=by
    rcases c_.mp h with z|z
    .exact absurd z.symm e
    .exact z
   rw[Rb hm];have eb:(x==o)=false:=by simpa using e
   have:(x::l).idxOf o=l.idxOf o+1:=by rw[List.idxOf_cons,eb];rfl
   rw[this];show some (V.int ((i+1+l.idxOf o:Nat):Int))=some (V.int ((i+(l.idxOf o+1):Nat):Int));rw[show i+1+l.idxOf o=i+(l.idxOf o+1)from by omega]
theorem qI:∀{l:Da Str}{i:Nat}{o:Str},o∉l->eV (gq i l) (Sum.inr o)=none
 | [],_,_,_=>rfl
 | x::l,i,o,h=>by rw[show gq i (x::l)=(Sum.inr x,.int i)::gq (i+1) l from rfl,fP (λz=>h (by rw[<-u9 z];exact cQ))];exact qI λm=>h (cL _ m)
theorem qJ:∀(l:Da Str)(i:Nat),(gq i l).length=l.length
 | [],_=>rfl
 | _::l,i=>by rw[show ∀x,gq i (x::l)=(Sum.inr x,.int i)::gq (i+1) l from λ_=>rfl,jm,jm,qJ l]
theorem MG:∀(l:Da Str)(i:Nat)(o:Str),gq i (l++[o])=gq i l++[(Sum.inr o,.int ((i+l.length:Nat):Int))]
 | [],i,o=>rfl
 | x::l,i,o=>by
  show(Sum.inr x,V.int i)::gq (i+1) (l++[o])=_;rw[MG l (i+1) o];show _=(Sum.inr x,V.int i)::(gq (i+1) l++_)
  rw[jm,show i+1+l.length=i+(l.length+1)from by omega]
theorem DU:∀(l:Da Str)(i:Nat),(gq i l).map (λp=>kV p.1)=l.map V.str
 | [],_=>rfl
 | x::l,i=>by show kV (Sum.inr x)::(gq (i+1) l).map _=V.str x::l.map V.str;rw[DU l];rfl
variable {qs:Da (Addr×Addr×Addr)}
def yF{ps:Da Pt}{q:Addr×Addr×Addr}(h1:ps[i]?=some p)(h2:qs[i]?=some q):(c7 ps qs)[i]?=some (Sum.inr p.nm,.ref q.1):=by unfold c7;rw[Sf,h1,h2]
def yG{ps:Da Pt}(h:qs.length=ps.length):(c7 ps qs).length=ps.length:=by unfold c7;rw[pI,h,Cm]
theorem vo:∀{ps:Da Pt}{qs:Da (Addr×Addr×Addr)}{i:Nat}{p:Pt}{q:Addr×Addr×Addr},(ps.map (·.nm)).Nodup->ps[i]?=some p->qs[i]?=some q->eV (c7 ps qs) (Sum.inr p.nm)=some (.ref q.1)
 | [],_,_,_,_,_,h,_=>by simp at h
 | _::_,[],_,_,_,_,_,h=>by simp at h
 | a::ps,b::qs,0,p,q,_,h1,h2=>by
  have e1:a=p:=by simpa using h1
  have e2:b=q:=by simpa using h2
  subst e1 e2;exact iE rfl
 | a::ps,b::qs,i+1,p,q,nd,h1,h2=>by
  have nd':=gO.mp (show(a.nm::ps.map (·.nm)).Nodup from nd);have MH:ps[i]?=some p:=by simpa using h1
  rw[show c7 (a::ps) (b::qs)=(Sum.inr a.nm,.ref b.1)::c7 ps qs from rfl,fP (λz=>nd'.1 (bD.mpr ⟨p,bK MH,(u9 z).symm⟩))];exact vo nd'.2 MH (by simpa using h2)
theorem vQ:∀{ps:Da Pt}{qs:Da (Addr×Addr×Addr)}{x:Str},(∀p∈ps,p.nm≠x)->eV (c7 ps qs) (Sum.inr x)=none
 | [],_,_,_=>rfl
 | _::_,[],_,_=>rfl
 | a::ps,b::qs,x,h=>by rw[show c7 (a::ps) (b::qs)=(Sum.inr a.nm,.ref b.1)::c7 ps qs from rfl,fP (λz=>h a cQ (u9 z))];exact vQ λp hp=>h p (cL _ hp)
def Yi{ps:Da Pt}(h:qs.length=ps.length)(p:Pt)(q:Addr×Addr×Addr):c7 (ps++[p]) (qs++[q])=c7 ps qs++[(Sum.inr p.nm,.ref q.1)] :=by unfold c7;rw[List.zipWith_append h.symm];rfl
def Bf{l:Da Str}(h:x∉l):eV (yC l) (Sum.inr x)=none:=by
 unfold yC
 induction l with
 | nil=>rfl
 | cons a l ih=>rw[bP,fP (λz=>h (by rw[<-u9 z];exact cQ))];exact ih λm=>h (cL _ m)
def a_.find{A:HA}(h:a_ T n ρ A H st)(e:st.ah[i]?=some p):∃q,A.qs[i]?=some q/\H q.1=some (.ins T.part q.2.1 (nh p q.2.2))/\H q.2.2=some (.lst (p.row.map V.int))/\ρ q.1=some (n,20,p.nm)/\ρ q.2.2=some (n,21,p.nm):=by
 have hi:i<A.qs.length:=by rw[h.ql];exact(dZ.mp e).1
 exact⟨A.qs[i],aY hi,h.opt i p _ e (aY hi)⟩
noncomputable def gC(st:HS)(o:Str):HS:={ st with own:=st.own++[o],bU:=st.bU++[0],cJ:=st.cJ++[0],ah:=st.ah.map λp=>{ p with row:=p.row++[0] } }
noncomputable def bR(st:HS)(p:Pt):Da Int:=List.zipWith (λr c=>p.sc*r+c) p.row st.bU
noncomputable def Bg(st:HS)(tops:Da Int):Da Int:=List.zipWith (λt c=>t-c) tops st.bU
noncomputable def CC(st:HS)(p:Pt):HS:={ st with ah:=st.ah++[p],nms:=st.nms++[p.nm] }
noncomputable def zV(st:HS)(x o:Str)(wo we:Int):HS:=CC st ⟨x,o,wo,we,1,Bg st ((List.replicate st.own.length 0).set (st.own.idxOf o) st.prod)⟩
noncomputable def aR(st:HS):Int:=(st.ah.map (·.wo)).sum
noncomputable def oM(st:HS)(p:Pt):Da (Str×Rat):=(List.zip st.own (bR st p)).filterMap λx=>if 0<x.2 then some (x.1,Jm.fr x.2 st.prod) else none
noncomputable def CD(p:Pt):HO:=.tup [.str p.nm,.str p.ow,.int p.wo,.int p.we]
inductive kN(H:Hp):Da V->Da Pt->Prop
 | nil:kN H [] []
 | cons {r:Addr} {p:Pt} {vs:Da V} {ps:Da Pt}:H r=some (CD p)->kN H vs ps->kN H (.ref r::vs) (p::ps)
def MI(n:Nat)(q1 q2:Addr)(ρ:dO)(H:Hp)(ρ':dO)(H':Hp):Prop:=∀b o,H b=some o->(∀t x,ρ b≠some (n,t,x))->b≠q1->b≠q2->H' b=some o/\ρ' b=ρ b
theorem MI.trans{ρ1 ρ2:dO}(a:MI n q1 q2 ρ H ρ1 H1)(b:Fr n ρ1 H1 ρ2 H2):MI n q1 q2 ρ H ρ2 H2:=λc o h k x y=>by obtain⟨h1,e1⟩:=a c o h k x y;obtain⟨h2,e2⟩:=b c o h1 (by rw[e1];exact k);exact⟨h2,e2.trans e1⟩
def MI.fr{ρ1 ρ2:dO}(b:MI n q1 q2 ρ1 H1 ρ2 H2)(a:Fr n ρ H ρ1 H1)(h1:H q1=none)(h2:H q2=none):Fr n ρ H ρ2 H2:=λc o h k=>by obtain⟨e1,e2⟩:=a c o h k;obtain⟨e3,e4⟩:=b c o e1 (by rw[e2];exact k) (aI h h1) (aI h h2);exact⟨e3,e4.trans e2⟩
noncomputable def isNm(o:Str):Bool:=isName o.cps.toList
inductive ads(T:TC)(vs:Da V)(H:Hp)(Q:VK)(E:XK):Prop
 |mk(p dx:_)(_:vs=[.ref p])(_:H p=some (.ins T.bot dx []))(_:∀sp kn H',H sp=none->H kn=none->sp≠kn->(∀b o,H b=some o->b≠p->H' b=some o)->H' p=some (.ins T.bot dx (zS sp 1 kn))->H' sp=some (.lst [])->H' kn=some (.dK [])->Q .cu H')
def Rc(T:TC):Sp:=bx (ads T)
inductive adt(T:TC)(K:Fg)(vs:Da V)(H:Hp)(Q:VK)(E:XK):Prop
 |mk(p dx l:Addr)(pt:Pt)(_:vs=[.ref p,.str pt.nm,.str pt.ow,.int pt.wo,.int pt.we,.int pt.sc,.ref l])(_:H p=some (.ins T.part dx []))(_:az K H l (pt.row.map V.int))(_:∀r H',H r=none->(∀b o,H b=some o->b≠p->H' b=some o)->H' p=some (.ins T.part dx (nh pt r))->H' r=some (.lst (pt.row.map V.int))->Q .cu H')
def Rg(T:TC)(K:Fg):Sp:=bx (adt T K)
inductive adu(T:TC)(vs:Da V)(H:Hp)(Q:VK)(E:XK):Prop
 |mk(p dx ρ n:_)(_:vs=[.ref p])(_:H p=some (.ins T.hold dx []))(_:Gh ρ H)(_:ρ p=none)(_:∀ρ' A H',A.a=p->HH T n ρ' A H' hs0->(∀b o,H b=some o->b≠p->H' b=some o/\ρ' b=ρ b)->Q .cu H')
def Rh(T:TC):Sp:=bx (adu T)
inductive adv(T:TC)(vs:Da V)(H:Hp)(Q:VK)(E:XK):Prop
 |mk(n ρ A st o:_)(_:vs=[.ref A.a,.str o])(_:a_ T n ρ A H st)(_:o∈st.own)(_:Q (.int (st.own.idxOf o:Int)) H)
def HV(T:TC):Sp:=bx (adv T)
inductive aaR(T:TC)(vs:Da V)(H:Hp)(Q:VK)(E:XK):Prop
 |mk(n ρ A st:_)(i:Nat)(p:Pt)(q:Addr×Addr×Addr)(_:vs=[.ref A.a,.str p.nm])(_:a_ T n ρ A H st)(_:(st.ah.map (·.nm)).Nodup)(_:st.ah[i]?=some p)(_:A.qs[i]?=some q)(_:Q (.ref q.1) H)
def MJ(T:TC):Sp:=bx (aaR T)
inductive Vx(T:TC)(vs:Da V)(H:Hp)(Q:VK)(E:XK):Prop
 |mk(n ρ A st x:_)(_:vs=[.ref A.a,.str x])(_:a_ T n ρ A H st)(_:isNm x=true)(_:x∉st.nms)(_:∀H',aE H H'->Q .cu H')
def FA(T:TC):Sp:=bx (Vx T)
inductive aji(T:TC)(K:Fg)(vs:Da V)(H:Hp)(Q:VK)(E:XK):Prop
 |mk(n ρ A st l:_)(tops:Da Int)(_:vs=[.ref A.a,.ref l])(_:a_ T n ρ A H st)(_:az K H l (tops.map V.int))(_:tops.length=st.bU.length)(_:tops.length<=1000)(_:∀r H',aE H H'->H r=none->H' r=some (.lst ((Bg st tops).map V.int))->Q (.ref r) H')
def ZG(T:TC)(K:Fg):Sp:=bx (aji T K)
inductive adw(T:TC)(vs:Da V)(H:Hp)(Q:VK)(E:XK):Prop
 |mk(n ρ A st:_)(i:Nat)(p:Pt)(q:Addr×Addr×Addr)(_:vs=[.ref A.a,.ref q.1])(_:a_ T n ρ A H st)(_:Wf st)(_:st.ah[i]?=some p)(_:A.qs[i]?=some q)(_:∀r H',aE H H'->H r=none->H' r=some (.lst ((bR st p).map V.int))->Q (.ref r) H')
def HW(T:TC):Sp:=bx (adw T)
inductive af0(T:TC)(vs:Da V)(H:Hp)(Q:VK)(E:XK):Prop
 |mk(n ρ A st:_)(q:Addr×Addr×Addr)(p:Pt)(_:vs=[.ref A.a,.ref q.1])(_:HH T n ρ A H st)(_:H q.1=some (.ins T.part q.2.1 (nh p q.2.2)))(_:H q.2.2=some (.lst (p.row.map V.int)))(_:ρ q.1=none)(_:ρ q.2.2=none)(_:p.nm∉st.nms)(_:Wf (CC st p))(_:∀ρ' A' H',HH T n ρ' A' H' (CC st p:_)->A'.a=A.a->MI n q.1 q.2.2 ρ H ρ' H'->Q .cu H')
def Vy(T:TC):Sp:=bx (af0 T)
inductive adx(T:TC)(vs:Da V)(H:Hp)(Q:VK)(E:XK):Prop
 |mk(n ρ A st o:_)(_:vs=[.ref A.a,.str o])(_:HH T n ρ A H st)(_:isNm o=true)(_:o∉st.own)(_:st.own.length<100)(_:zU T n ρ A H (gC st o:_) λH'=>Q .cu H')
def HX(T:TC):Sp:=bx (adx T)
inductive af1(T:TC)(vs:Da V)(H:Hp)(Q:VK)(E:XK):Prop
 |mk(n ρ A st x o wo we:_)(_:vs=[.ref A.a,.str x,.str o,.int wo,.int we])(_:HH T n ρ A H st)(_:isNm x=true)(_:x∉st.nms)(_:o∈st.own)(_:1<=wo)(_:0<=we)(_:st.nms.length<1000)(_:st.ah.length<1000)(_:zU T n ρ A H (zV st x o wo we:_) λH'=>Q .cu H')
def Vz(T:TC):Sp:=bx (af1 T)
inductive ady(T:TC)(vs:Da V)(H:Hp)(Q:VK)(E:XK):Prop
 |mk(n ρ A st:_)(_:vs=[.ref A.a])(_:a_ T n ρ A H st)(_:st.ah.length<=1000)(_:∀r ws H',aE H H'->H r=none->H' r=some (.lst ws)->kN H' ws st.ah->Q (.ref r) H')
def Ri(T:TC):Sp:=bx (ady T)
inductive adz(T:TC)(vs:Da V)(H:Hp)(Q:VK)(E:XK):Prop
 |mk(n ρ A st:_)(_:vs=[.ref A.a])(_:a_ T n ρ A H st)(_:st.ah.length<=1000)(_:∀H',aE H H'->Q (.int (aR st)) H')
def CF(T:TC):Sp:=bx (adz T)
inductive aaS(T:TC)(vs:Da V)(H:Hp)(Q:VK)(E:XK):Prop
 |mk(n ρ A st:_)(_:vs=[.ref A.a])(_:a_ T n ρ A H st)(_:∀r,H r=none->Q (.ref r) (upd H r (.lst (st.own.map V.str))))
def MK(T:TC):Sp:=bx (aaS T)
inductive adA(T:TC)(vs:Da V)(H:Hp)(Q:VK)(E:XK):Prop
 |mk(bt db sp kn:Addr)(stp:Da Int)(prod top:Int)(_:vs=[.ref bt,.int top])(_:H bt=some (.ins T.bot db (zS sp prod kn)))(_:H sp=some (.lst (stp.map V.int)))(_:prod=stp.foldl (·*·) 1)(_:(∀s∈stp,2<=s))(_:Jm.Sz 8000 prod)(_:∀r H',aE H H'->H' r=some (qE (Jm.fr top prod))->Q (.ref r) H')
def Rj(T:TC):Sp:=bx (adA T)
inductive aaT(T:TC)(vs:Da V)(H:Hp)(Q:VK)(E:XK):Prop
 |mk(bt db sp kn:Addr)(stp:Da Int)(prod top:Int)(Ap:Da (Key×V))(_:vs=[.ref bt,.int top])(_:H bt=some (.ins T.bot db (zS sp prod kn)))(_:H sp=some (.lst (stp.map V.int)))(_:prod=stp.foldl (·*·) 1)(_:(∀s∈stp,2<=s))(_:Jm.Sz 8000 prod)(_:H kn=some (.dK Ap))(_:MD H Ap prod)(_:Ap.length<10000000)(_:(Ap.map (·.1)).Nodup)(_:∀r H' kvs',(∀b o,H b=some o->b≠kn->H' b=some o)->H' kn=some (.dK kvs')->MD H' kvs' prod->kvs'.length<=Ap.length+1->(kvs'.map (·.1)).Nodup->H' r=some (qE (Jm.fr top prod))->Q (.ref r) H')
def ML(T:TC):Sp:=bx (aaT T)
inductive Yj(T:TC)(vs:Da V)(H:Hp)(Q:VK)(E:XK):Prop
 |mk(n ρ A st:_)(i:Nat)(p:Pt)(_:vs=[.ref A.a,.str p.nm])(_:HH T n ρ A H st)(_:st.ah[i]?=some p)(_:st.kn+100<=1000000)(_:∀r ws ρ' A' H',HH T n ρ' A' H' { st with kn:=st.kn+100 }->A'.a=A.a->Fr n ρ H ρ' H'->H r=none->H' r=some (.lst ws)->ρ' r=none->iR H' ws (oM st p:_)->Q (.ref r) H')
def JF(T:TC):Sp:=bx (Yj T)
inductive nq(ρ:dO)(H:Hp):Da V->Da kX->Prop
 | nil:nq ρ H [] []
 | cons {r l:Addr} {x:kX} {ss:Da V} {vs:Da V} {as:Da kX}:H r=some (.tup [.str x.nm,.str x.ow,.int x.wo,.ref l])->H l=some (.lst ss)->ρ l=none->iR H ss x.sh->nq ρ H vs as->nq ρ H (.ref r::vs) (x::as)
inductive aaU(T:TC)(vs:Da V)(H:Hp)(Q:VK)(E:XK):Prop
 |mk(n ρ A st:_)(_:vs=[.ref A.a])(_:HH T n ρ A H st)(_:∀r ws H',aE H H'->H r=none->H' r=some (.lst ws)->nq ρ H' ws st.dB->Q (.ref r) H')
def MM(T:TC):Sp:=bx (aaU T)
def kN.mono{l:Da Pt}(h:kN H vs l)(g:∀b xs,H b=some (.tup xs)->H' b=some (.tup xs)):kN H' vs l:=by
 induction h with
 | nil=>exact .nil
 | cons a _ ih=>exact .cons (g _ _ a) ih
def kN.snoc{l:Da Pt}(h:kN H vs l)(e:H r=some (CD p)):kN H (vs++[.ref r]) (l++[p]):=by
 induction h with
 | nil=>exact .cons e .nil
 | cons a _ ih=>exact .cons a ih
def iR.snoc{l:Da (Str×Rat)}(h:iR H vs l)(e:H r=some (.tup [.str x,.ref f]))(e2:H f=some (qE q)):iR H (vs++[.ref r]) (l++[(x,q)]):=by
 induction h with
 | nil=>exact .cons e e2 .nil
 | cons a b _ ih=>exact .cons a b ih
def jw{p:Addr}(h:H p=none\/∃u,H p=some u/\isTup u=false):∀b xs,H b=some (.tup xs)->upd H p o b=some (.tup xs):=λb xs e=>by
 rw[av (λz=>?_)]
 .exact e
 .rw [z]at e;rcases h with h|⟨u,h,t⟩
  .rw [h]at e;cases e
  .rw [h]at e;cases e;cases t
theorem MN(h:isNm x=true):x.cps.toList.length<=100000:=by unfold isNm isName at h;have:=dH (mJ.mp (mJ.mp h).1).2;omega
def vR{o:Obj}(e:H d=some (.dK Ap))(s:aE (upd H d (.fY o (.dK Ap))) H1):aE H (upd H1 d (.dK Ap)):=λb u q=>by
 by_cases h:b=d
 .rw [h,e]at q;cases q;rw[h];exact ak
 .rw [av h];exact s b u (by rw[av h];exact q)
def fQ{b:Addr}{o:Obj}{u:HO}(e:H d=some (.dK Ap))(q:H b=some u)(h:∀k,u ≠ .dK k):upd H d (.fY o (.dK Ap)) b=some u:=by rw[av (λz=>by rw[z,e]at q;cases q;exact h _ rfl)];exact q
def pL{b:Addr}{o:Obj}(e:H d=some (.dK Ap))(q:upd H d (.fY o (.dK Ap)) b=none):H b=none:=by
 by_cases h:b=d
 .rw [h,ak]at q;cases q
 .rw [av h]at q;exact q
def aE.tups(s:aE H H'):∀b xs,H b=some (.tup xs)->H' b=some (.tup xs):=λb xs h=>s b _ h
def take_snoc{α:Type}{l:Da α}{x:α}(h:l[i]?=some x):l.take (i+1)=l.take i++[x] :=by rw[List.take_add_one,h];rfl
theorem nu{α β γ:Type}(f:α->β->γ){xs:Da α}{ys:Da β}{x:α}{y:β}(h1:xs[i]?=some x)(h2:ys[i]?=some y):List.zipWith f (xs.take (i+1)) (ys.take (i+1))=List.zipWith f (xs.take i) (ys.take i)++[f x y] :=by have l1:=(dZ.mp h1).1;have l2:=(dZ.mp h2).1;rw[take_snoc h1,take_snoc h2,List.zipWith_append (by rw[kL,kL];omega)];rfl
def gH{l:Da Int}{v:V}(h:(l.map V.int)[i]?=some v):∃z,v =.int z/\l[i]?=some z:=by rw[bH]at h;obtain⟨z,hz,rfl⟩:=mH.mp h;exact⟨z,Z,hz⟩
theorem HH.mono{A:HA}(h:HH T n ρ A H st)(s:aE H H'):HH T n ρ A H' st:=⟨h.g.same s,h.h.mono s,h.wf⟩
def MO{u:HO}(c:ρ a=none)(h:H a=some u)(t:isTup u=false):Kp n ρ ρ H (upd H a o) ts:=⟨jw (.inr ⟨u,h,t⟩),λb x y w _ hc e=>⟨by rw[av (λz=>by rw[z,c]at hc;cases hc)];exact e,hc⟩⟩
def HH.FE{A:HA}{u:HO}(h:HH T n ρ A H st)(c:ρ a=none)(e:H a=some u)(t:isTup u=false)(t2:isTup o=false):HH T n ρ A (upd H a o) st:=⟨h.g.wr t2,h.h.same (MO c e t),h.wf⟩
def Fr.new(f:Fr n ρ H ρ' H')(h:H a=none):Fr n ρ H ρ' (upd H' a o):=λb u e k=>by rw[av (aI e h)];exact f b u e k
def JG{α β γ:Type}(f:α->β->γ){xs:Da α}{ys:Da β}(h:xs.length=ys.length)(x:α)(y:β):List.zipWith f (xs++[x]) (ys++[y])=List.zipWith f xs ys++[f x y] :=by rw[List.zipWith_append h];rfl
theorem aaV(w:Wf st){o:Str}(h:o∉st.own)(hl:st.own.length<100):Wf (gC st o):=by
 have P:∀p∈(gC st o).ah,∃p0∈st.ah,p={ p0 with row:=p0.row++[0] }:=λp hp=>by obtain⟨p0,h0,rfl⟩:=bD.mp (show p∈st.ah.map _ from hp);exact⟨p0,h0,Z⟩
 have p1:=w.iZ;refine⟨?_,w.DS,?_,λp hp=>?_,λp hp=>?_,λp hp=>?_,?_,?_,w.iZ,w.xC,w.Bd,?_,w.DT,?_,w.HU,w.x8,w.Ra,w.big,λc hc=>?_,λp hp=>?_,λp hp r hr=>?_,λp hp t ht=>?_,λp hp=>?_,λu hu=>?_⟩
 .exact qc w.zT h
 .show ((st.ah.map λp=>{ p with row:=p.row++[0] }).map (·.nm)).Nodup;rw[f_];exact w.lN
 .obtain ⟨p0,h0,rfl⟩:=P p hp;exact w.sub p0 h0
 .obtain ⟨p0,h0,rfl⟩:=P p hp;show(p0.row++[0]).length=(st.own++[o]).length;rw[c8,c8,w.rows p0 h0];rfl
 .obtain ⟨p0,h0,rfl⟩:=P p hp;exact Hq _ (w.ow p0 h0)
 .show (st.bU++[0]).length=(st.own++[o]).length;rw[c8,c8,w.jg];rfl
 .show (st.cJ++[0]).length=(st.own++[o]).length;rw[c8,c8,w.vN];rfl
 .show (st.own++[o]).length<=100;rw[c8];exact hl
 .show (st.ah.map _).length<=1000;rw[aD];exact w.vO
 .rcases fk.mp (show c∈st.bU++[0]from hc)with z|z
  .exact w.uw c z
  .rw [eE.mp z];exact⟨lM _,by show(0:Int)<=st.prod;omega⟩
 .obtain ⟨p0,h0,rfl⟩:=P p hp;exact w.yE p0 h0
 .obtain ⟨p0,h0,rfl⟩:=P p hp;rcases fk.mp (show r∈p0.row++[0]from hr)with z|z
  .exact w.vP p0 h0 r z
  .rw [eE.mp z];show -st.prod<=0/\0<=st.prod;omega
 .obtain ⟨p0,h0,rfl⟩:=P p hp;have el:p0.row.length=st.bU.length:=by rw[w.rows p0 h0,w.jg]
  have ht:t∈List.zipWith (λr c=>p0.sc*r+c) (p0.row++[0]) (st.bU++[0]):=ht;rw[JG _ el _ _]at ht;rcases fk.mp ht with z|z
  .exact w.Be p0 h0 t z
  .rw [eE.mp z];show 0<=p0.sc*0+0/\p0.sc*0+0<=st.prod;omega
 .obtain ⟨p0,h0,rfl⟩:=P p hp;exact w.uX p0 h0
 .rcases fk.mp (show u∈st.cJ++[0]from hu)with z|z
  .exact w.Te u z
  .rw [eE.mp z];exact oJ (by decide +kernel)
def aaW(w:Wf st)(h1:p.nm∉st.nms)(h2:st.nms.length<1000)(h3:st.ah.length<1000)(h4:p.row.length=st.own.length)(h5:p.ow∈st.own)(h6:1<=p.sc/\p.sc<=st.prod)(h7:∀r∈p.row,-st.prod<=r/\r<=st.prod)(h8:∀t∈List.zipWith (λr c=>p.sc*r+c) p.row st.bU,0<=t/\t<=st.prod)(h9:1<=p.wo/\0<=p.we):Wf (CC st p):=by
 have P:∀{M:Pt->Prop},(∀x∈st.ah,M x)->M p->∀x∈st.ah++[p],M x:=λa b x hx=>by
  rcases fk.mp hx with z|z
  .exact a x z
  .rw [eE.mp z];exact b
 refine⟨w.zT,qc w.DS h1,?_,P (λx hx=>Hq _ (w.sub x hx)) (kC _ (eE.mpr rfl)),P w.rows h4,P w.ow h5,w.jg,w.vN,w.iZ,w.xC,w.Bd,w.qH,?_,?_,w.HU,w.x8,w.Ra,w.big,w.uw,P w.yE h6,P w.vP h7,P w.Be h8,P w.uX h9,w.Te⟩
 . show((st.ah++[p]).map (·.nm)).Nodup
   rw[bw]
   refine qc w.lN λm=>?_
   obtain⟨x,hx,e⟩:=bD.mp m
   have e:x.nm=p.nm:=e
   exact h1 (by rw[<-e];exact w.sub x hx)
 . show(st.nms++[p.nm]).length<=1000
   rw[c8];exact h2
 . show(st.ah++[p]).length<=1000
   rw[c8];exact h3
theorem zW{α β γ:Type}{f:α->β->γ}{t:γ}:∀{xs:Da α}{ys:Da β},t∈List.zipWith f xs ys->∃x∈xs,∃y∈ys,t=f x y
 | [],_,h=>by simp at h
 | _::_,[],h=>by simp at h
 | x::xs,y::ys,h=>by
  rcases c_.mp (show t∈f x y::List.zipWith f xs ys from h)with e|m
  .exact ⟨x,cQ,y,cQ,e⟩
  .obtain ⟨a,ha,b,hb,e⟩:=zW m;exact⟨a,cL _ ha,b,cL _ hb,e⟩
theorem DV:∀{ts cs:Da Int},List.zipWith (λr c=>1*r+c) (List.zipWith (λt c=>t-c) ts cs) cs=ts.take cs.length
 | [],_=>by simp
 | _::_,[]=>by simp
 | t::ts,c::cs=>by show(1*(t-c)+c)::List.zipWith _ (List.zipWith _ ts cs) cs=t::ts.take cs.length;rw[DV];congr 1;omega
def zX{b t:Int}(h:t∈(List.replicate n 0).set i b):t=0\/t=b:=by
 rcases R7 h with z|z
 .exact .inl (LF z)
 .exact .inr z
variable {wo we:Int}
theorem aaX(w:Wf st){o:Str}(h1:x∉st.nms)(h2:st.nms.length<1000)(h3:st.ah.length<1000)(ho:o∈st.own)(h4:1<=wo)(h5:0<=we):Wf (zV st x o wo we):=by
 have p1:=w.iZ;refine aaW w h1 h2 h3 ?_ ho ⟨lM 1,w.iZ⟩ (λr hr=>?_) (λt ht=>?_) ⟨h4,h5⟩
 .show (List.zipWith _ ((List.replicate st.own.length 0).set _ _) st.bU).length=_;rw[pI,jV,kD,w.jg,Cm]
 .obtain ⟨t,ht,c,hc,rfl⟩:=zW (show r∈List.zipWith _ _ st.bU from hr);have:=w.uw c hc;rcases zX ht with rfl|rfl <;> omega
 .have e:List.zipWith (λr c=>1*r+c) (Bg st ((List.replicate st.own.length 0).set (st.own.idxOf o) st.prod)) st.bU=_:=DV;have ht:t∈List.zipWith (λr c=>1*r+c) (Bg st ((List.replicate st.own.length 0).set (st.own.idxOf o) st.prod)) st.bU:=ht;rw[e]at ht;rcases zX (List.mem_of_mem_take ht)with rfl|rfl <;> omega
def lO{b:Addr}{u:HO}(h:a≠b):upd (upd H a o) b u=upd (upd H b u) a o:=by
 funext c;unfold upd;by_cases e1:c=b
 .rw [aC e1,aB (λz=>h (z.symm.trans e1)),aC e1]
 .rw [aB e1];by_cases e2:c=a
  .rw [aC e2,aC e2]
  .rw [aB e2,aB e2,aB e1]
def zY(h:H a=some o):upd H a o=H:=by
 funext c;unfold upd;by_cases e:c=a
 .rw [aC e,e,h]
 .rw [aB e]
theorem MP{α:Type}(g:α->α){l:Da α}{p:α}(h:l[i]?=some p):((l.take i).map g++l.drop i)[i]?=some p:=by
 have hi:=(dZ.mp h).1;have e:((l.take i).map g).length=i:=by rw[aD,kL];omega
 rw[Jh (by omega),e,Co,List.getElem?_drop];exact h
theorem MQ{α:Type}(g:α->α){l:Da α}{p:α}(h:l[i]?=some p):((l.take i).map g++l.drop i).set i (g p)=(l.take (i+1)).map g++l.drop (i+1):=by
 have hi:=(dZ.mp h).1;have e:((l.take i).map g).length=i:=by rw[aD,kL];omega
 have ep:l[i]=p:=by rw[aY hi]at h;exact gZ h
 rw[List.set_append_right _ _ (by omega),e,Co,LC hi,LP,take_snoc h,bw,Sv];rfl
def rX{α β:Type}(g:α->α)(f:α->β)(hf:∀x,f (g x)=f x)(l:Da α)(i:Nat):((l.take i).map g++l.drop i).map f=l.map f:=by rw[bw,f_,show f ∘ g=f from funext hf,<-bw,List.take_append_drop]
def qf{ps ps':Da Pt}(h:ps.map (·.nm)=ps'.map (·.nm)):c7 ps qs=c7 ps' qs:=by
 have:∀{ps:Da Pt},c7 ps qs=List.zipWith (λ(x:Str) q=>((Sum.inr x:Key),V.ref q.1)) (ps.map (·.nm)) qs:=λ{ps}=>by unfold c7;rw[List.zipWith_map_left]
 rw[this,this,h]
structure iC(p:Addr)(H:Hp)(ρ:dO)(H':Hp)(ρ':dO)(l:Da (Addr×HO×nY)):Prop where
 m:∀e∈l,H' e.1=some e.2.1/\ρ' e.1=some e.2.2/\e.1≠p
 k:∀b o,H b=some o->b≠p->H' b=some o/\ρ' b=ρ b
 g:Gh ρ' H'
 pp:∃u,H' p=some u
def iC.new{p:Addr}{l:Da (Addr×HO×nY)}{c:nY}(h:iC p H ρ H' ρ' l)(ha:H' a=none)(t:isTup o=false):iC p H ρ (upd H' a o) (b_ ρ' a c) ((a,o,c)::l):=by
 obtain⟨u,hu⟩:=h.pp;refine⟨λe he=>?_,λb w hb hp=>?_,(h.g.alloc ha).color ak t,u,by rw[av (aI hu ha)];exact hu⟩
 .rcases c_.mp he with rfl|he
  .exact ⟨ak,dz,λz=>by rw[show a=p from z,hu]at ha;cases ha⟩
  .obtain ⟨x,y,z⟩:=h.m e he;have:e.1≠a:=aI x ha;rw[av this,cC this];exact⟨x,y,z⟩
 .obtain ⟨x,y⟩:=h.k b w hb hp;have:b≠a:=aI x ha;rw[av this,cC this];exact⟨x,y⟩
theorem iC.wr{p:Addr}{l:Da (Addr×HO×nY)}{u:HO}(h:iC p H ρ H' ρ' l)(t:isTup u=false):iC p H ρ (upd H' p u) ρ' l:=by
 refine⟨λe he=>?_,λb w hb hp=>?_,h.g.wr t,u,ak⟩
 .obtain ⟨x,y,z⟩:=h.m e he;rw[av z];exact⟨x,y,z⟩
 .obtain ⟨x,y⟩:=h.k b w hb hp;rw[av hp];exact⟨x,y⟩
theorem iC.same{p:Addr}{vS:Hp}{l:Da (Addr×HO×nY)}(h:iC p H ρ H' ρ' l)(s:aE H' vS):iC p H ρ vS ρ' l:=by obtain⟨u,hu⟩:=h.pp;exact⟨λe he=>let⟨x,y,z⟩:=h.m e he;⟨s _ _ x,y,z⟩,λb w hb hp=>let⟨x,y⟩:=h.k b w hb hp;⟨s _ _ x,y⟩,h.g.same s,u,s _ _ hu⟩
def iC.add{p:Addr}{H0:Hp}{ρ0:dO}{l l0:Da (Addr×HO×nY)}{c:nY}(h:iC p H ρ H' ρ' l)(ha:H' a=some o)(t:isTup o=false)(h0:iC p H ρ H0 ρ0 l0)(hn:H0 a=none)(hl:∀e∈l,e.1≠a):iC p H ρ H' (b_ ρ' a c) ((a,o,c)::l):=by
 refine⟨λe he=>?_,λb w hb hp=>?_,h.g.color ha t,h.pp⟩
 .rcases c_.mp he with rfl|he
  .obtain ⟨u,hu⟩:=h0.pp;exact⟨ha,dz,λz=>by rw[show a=p from z,hu]at hn;cases hn⟩
  .obtain ⟨x,y,z⟩:=h.m e he;rw[cC (hl e he)];exact⟨x,y,z⟩
 .obtain ⟨x,y⟩:=h.k b w hb hp;obtain⟨x0,_⟩:=h0.k b w hb hp;rw[cC (aI x0 hn)];exact⟨x,y⟩
theorem MR:∀(l:Da Int)(a:Int),l.foldl (·*·) a=a*l.foldl (·*·) 1
 | [],a=>by simp
 | s::l,a=>by rw[nM,MR l (a*s),nM,MR l (1*s),Int.one_mul,jK]
def HY(s:Int)(l:Da Int):(s::l).foldl (·*·) 1=s*l.foldl (·*·) 1:=by rw[nM,MR,Int.one_mul]
def aaY(s:Int)(l:Da Int):(l++[s]).foldl (·*·) 1=l.foldl (·*·) 1*s:=by rw[EJ];rfl
theorem MS:∀{l:Da Int},(∀s∈l,2<=s)->1<=l.foldl (·*·) 1
 | [],_=>by decide
 | s::l,h=>by rw[HY];have h1:=h s cQ;have h2:=MS (l:=l) λx hx=>h x (cL _ hx);have:=Int.mul_le_mul (a:=1) (b:=1) (c:=s) (d:=l.foldl (·*·) 1) (by omega) h2 (by decide) (by omega);omega
theorem ZH:∀{l:Da Int}{s:Int},(∀s∈l,2<=s)->s∈l->s<=l.foldl (·*·) 1
 | [],_,_,h=>by simp at h
 | a::l,s,h,m=>by
  rw[HY];have h1:=h a cQ;have h2:=MS (l:=l) λx hx=>h x (cL _ hx);rcases c_.mp m with rfl|m
  .have:=Jg h2 (by omega:0<=s);omega
  .have h3:=ZH (λx hx=>h x (cL _ hx)) m;have:=Ut (by omega:1<=a) (by omega:0<=l.foldl (·*·) 1);omega
theorem VA{t d s:Int}(hd:0<d)(hs:0<s)(c:Jm.cf t d=1):Jm.cf (t / Jm.cf t s) (d*(s / Jm.cf t s))=1/\0<d*(s / Jm.cf t s):=by
 have gp:0<Jm.cf t s:=Jm.E_ t s (.inr hs);obtain⟨u,hu⟩:=Jm.tD t s;obtain⟨v,hv⟩:=Jm.qD t s;generalize eg:Jm.cf t s=g at *;have e1:t / g=u:=by rw[hu,Hl _ (by omega)]
 have e2:s / g=v:=by rw[hv,Hl _ (by omega)]
 have vp:0<v:=by
  rcases ET 0 v with z|z
  .exact z
  .have:=Jg z (by omega:0<=g);omega
 rw[e1,e2];have c0:Nat.Coprime t.natAbs d.natAbs:=by unfold Jm.cf at c;exact_mod_cast c
 have c1:Nat.Coprime u.natAbs d.natAbs:=Nat.Coprime.coprime_dvd_left ⟨g.natAbs,by rw[hu,EM,Nat.mul_comm]⟩ c0;have c2:Nat.Coprime u.natAbs v.natAbs:=by
  have hg:Int.gcd t s=g.natAbs:=by unfold Jm.cf at eg;omega
  have ZI:Nat.gcd t.natAbs s.natAbs=g.natAbs:=hg;have:=Nat.coprime_div_gcd_div_gcd (m:=t.natAbs) (n:=s.natAbs) (by rw[ZI];omega);rw[ZI]at this;have gn:0<g.natAbs:=by omega
  rw[hu,hv,EM,EM,Nat.mul_div_cancel_left _ gn,Nat.mul_div_cancel_left _ gn]at this;exact this
 refine⟨?_,Int.mul_pos hd vp⟩;have:=Nat.Coprime.mul_right c1 c2;rw[<-EM]at this;unfold Jm.cf;exact_mod_cast this
def Yk{κ:Type}[DecidableEq κ]{Ap:Da (κ×V)}{k:κ}{v:V}(h:eV Ap k=some v):(k,v)∈Ap:=by unfold eV at h;obtain⟨p,hp,rfl⟩:=mH.mp h;have:=List.find?_some hp;have e:p.1=k:=dH this;rw[<-e];exact List.mem_of_find?_eq_some hp
def a_.Yl{A:HA}(h:a_ T n ρ A H st)(k:∀b o,H b=some o->b≠A.kn->H' b=some o)(e1:H' A.kn=some (.dK Ap))(e2:MD H' Ap st.prod)(e3:Ap.length<=m)(e4:(Ap.map (·.1)).Nodup):a_ T n ρ A H' { st with kn:=m }:=by
 obtain⟨kv0,k0,_⟩:=h.okn;have z:=λ{b:Addr}{t:Nat}{x:Str}{o:HO}(u:t≠9)(c:ρ b=some (n,t,x))(e:H b=some o)=>k b o e (Fx c h.j8 (λw=>by cases w;exact u rfl));have tp:∀b xs,H b=some (.tup xs)->H' b=some (.tup xs):=λb xs e=>k b _ e (jL e k0 (by intro w;cases w));obtain⟨vs,h1,h2⟩:=h.tX;have kp:Kp n ρ ρ H H' λt=>decide (t≠9):=⟨tp,λb t x o u c e=>⟨z (dH u) c e,c⟩⟩
 exact⟨z (by decide) h.ca h.oa,h.ca,z (by decide) h.jQ h.jv,h.jQ,z (by decide) h.g_ h.fB,h.g_,⟨vs,z (by decide) h.jZ h1,h2.keep kp (by decide)⟩,h.jZ,z (by decide) h.j0 h.uW,h.j0,z (by decide) h.j6 h.nj,h.j6,z (by decide) h.kY h.kK,h.kY,z (by decide) h.cpu h.nZ,h.cpu,z (by decide) h.j7 h.tY,h.j7,⟨Ap,e1,e2,e3,e4⟩,h.j8,h.ql,
  λi p q a b=>let⟨x,y,c,d⟩:=h.opt i p q a b;⟨z (by decide) c x,z (by decide) d y,c,d⟩⟩
def af2(w:Wf st)(h:m<=1000000):Wf { st with kn:=m }:=⟨w.zT,w.DS,w.lN,w.sub,w.rows,w.ow,w.jg,w.vN,w.iZ,w.xC,w.Bd,w.qH,w.DT,w.vO,w.HU,w.x8,h,w.big,w.uw,w.yE,w.vP,w.Be,w.uX,w.Te⟩
theorem mV.length(h:mV n ρ H vs l):vs.length=l.length:=by
 induction h with
 | nil=>rfl
 | cons _ _ _ _ _ ih=>simp[ih]
def mV.get(h:mV n ρ H vs l):∀{i:Nat}{x:V},vs[i]?=some x->∃r q y ss,x =.ref r/\l[i]?=some y/\H r=some (.tup [.str y.nm,.str y.ow,.int y.wo,.ref q])/\H q=some (.lst ss)/\ρ q=some (n,30,⟨#[]⟩)/\iR H ss y.sh:=by
 induction h with
 | nil=>intro i x e;simp at e
 | @cons r q y ss vs as a b c d _ ih=>
  intro i x e;cases i with
  | zero=>simp at e;subst e;exact⟨r,q,y,ss,Z,Z,a,b,c,d⟩
  | succ i=>simp at e;obtain⟨r',q',y',ss',e1,e2,e3⟩:=ih e;exact⟨r',q',y',ss',e1,by simpa using e2,e3⟩
inductive lP(a:Addr)(ρ:dO)(H:Hp):Da V->Da kX->Prop
 | nil:lP a ρ H [] []
 | cons {r l:Addr} {x:kX} {ss:Da V} {vs:Da V} {as:Da kX}:H r=some (.tup [.str x.nm,.str x.ow,.int x.wo,.ref l])->H l=some (.lst ss)->ρ l=none->l≠a->iR H ss x.sh->lP a ρ H vs as->lP a ρ H (.ref r::vs) (x::as)
def lP.to(h:lP a ρ H vs l):nq ρ H vs l:=by
 induction h with
 | nil=>exact .nil
 | cons x y z _ w _ ih=>exact .cons x y z w ih
theorem lP.mono(h:lP a ρ H vs l)(g:aE H H'):lP a ρ H' vs l:=by
 induction h with
 | nil=>exact .nil
 | cons x y z n w _ ih=>exact .cons (g _ _ x) (g _ _ y) z n (w.mono g.tups) ih
theorem lP.upd(h:lP a ρ H vs l)(ha:H a=some (.lst xs)):lP a ρ (L2.upd H a (.lst ys)) vs l:=by
 induction h with
 | nil=>exact .nil
 | cons x y z n w _ ih=>exact .cons (jw (.inr ⟨_,ha,Z⟩) _ _ x) (by rw[av n];exact y) z n (w.mono (jw (.inr ⟨_,ha,Z⟩))) ih
def lP.snoc{as:Da kX}{l:Addr}{x:kX}(h:lP a ρ H vs as)(e1:H r=some (.tup [.str x.nm,.str x.ow,.int x.wo,.ref l]))(e2:H l=some (.lst ss))(e3:ρ l=none)(e5:l≠a)(e4:iR H ss x.sh):lP a ρ H (vs++[.ref r]) (as++[x]):=by
 induction h with
 | nil=>exact .cons e1 e2 e3 e5 e4 .nil
 | cons x y z n w _ ih=>exact .cons x y z n w ih
theorem nq.length(h:nq ρ H vs l):vs.length=l.length:=by
 induction h with
 | nil=>rfl
 | cons _ _ _ _ _ ih=>simp[ih]
def Sq(K:Fg)(H:Hp)(r:Addr)(xs:Da V):Prop:=az K H r xs\/cV K H r xs
def aE.sq(g:aE H H')(h:Sq K H r xs):Sq K H' r xs:=h.elim (λz=> .inl (g.seq z)) λz=> .inr (g.tup z)
structure Bh(K:Fg)(H:Hp)(us:Da V)(ps:Da Pt):Prop where
 len:us.length=ps.length
 at_:∀(i:Nat)(p:Pt),ps[i]?=some p->∃r xs,us[i]?=some (.ref r)/\Sq K H r xs/\xs[0]?=some (.str p.nm)/\xs[1]?=some (.str p.ow)/\xs[2]?=some (.int p.wo)/\xs[3]?=some (.int p.we)
def Bh.mono{us:Da V}{ps:Da Pt}(h:Bh K H us ps)(g:aE H H'):Bh K H' us ps:=⟨h.len,λi p e=>let⟨r,xs,a,b,c⟩:=h.at_ i p e;⟨r,xs,a,g.sq b,c⟩⟩
def adB(ps:Da Pt):Prop:=∀p∈ps,PyData.strOk p.nm=true/\PyData.strOk p.ow=true
inductive VB(K:Fg)(vs:Da V)(H:Hp)(Q:VK)(E:XK):Prop
 |mk(r l:Addr)(ws us:Da V)(ps:Da Pt)(_:vs=[.ref r,.ref l])(_:H r=some (.lst ws))(_:kN H ws ps)(_:az K H l us)(_:Bh K H us ps)(_:adB ps)(_:ps.length<=1000)(_:∀H',aE H H'->Q (.bl true) H')
def FF(K:Fg):Sp:=bx (VB K)
noncomputable def dD(own:Da Str)(tops:Da Int)(b:Int):Da (Str×Rat):=(List.zip own tops).filterMap λx=>if 0<x.2 then some (x.1,Jm.fr x.2 b) else none
theorem kN.length{l:Da Pt}(h:kN H vs l):vs.length=l.length:=by
 induction h with
 | nil=>rfl
 | cons _ _ ih=>simp[ih]
def kN.get{l:Da Pt}(h:kN H vs l):∀{i:Nat}{p:Pt},l[i]?=some p->∃r,vs[i]?=some (.ref r)/\H r=some (CD p):=by
 induction h with
 | nil=>intro i p e;simp at e
 | @cons r q vs ps a _ ih=>
  intro i p e;cases i with
  | zero=>simp at e;subst e;exact⟨r,Z,a⟩
  | succ i=>simp at e;obtain⟨r',e1,e2⟩:=ih e;exact⟨r',by simpa using e1,e2⟩
theorem iR.length{l:Da (Str×Rat)}(h:iR H vs l):vs.length=l.length:=by
 induction h with
 | nil=>rfl
 | cons _ _ _ ih=>simp[ih]
def iR.get{l:Da (Str×Rat)}(h:iR H vs l):∀{i:Nat}{x:Str}{q:Rat},l[i]?=some (x,q)->∃r f,vs[i]?=some (.ref r)/\H r=some (.tup [.str x,.ref f])/\H f=some (qE q):=by
 induction h with
 | nil=>intro i x q e;simp at e
 | @cons r f x q vs l a b _ ih=>
  intro i y p e;cases i with
  | zero=>simp at e;obtain⟨rfl,rfl⟩:=e;exact⟨r,f,Z,a,b⟩
  | succ i=>simp at e;obtain⟨r',f',e1,e2⟩:=ih e;exact⟨r',f',by simpa using e1,e2⟩
noncomputable def CG(p:Pt):PyData:=.tuple [.str p.nm,.str p.ow,.int p.wo,.int p.we]
def Rk(h:H r=some (CD p)):Dt K H (.ref r) (CG p):=.tup (cV.of h) (.cons (.str _) (.cons (.str _) (.cons (.int _) (.cons (.int _) .nil))))
def Dm(h1:PyData.strOk p.nm=true)(h2:PyData.strOk p.ow=true):SeqAt.shaped (CG p)=true:=by unfold CG SeqAt.shaped;refine mJ.mpr ⟨?_,Z⟩;simp[PyData.canLay0,PyData.canLayAll0,h1,h2]
def Ym(p:Pt):PyData.eqv (CG p) (CG p)=true:=by unfold CG;simp[PyData.eqv,PyData.eqvAll]
def zZ(x:Str):Prop:=qG x.cps.toList
def Tf:∀i:Fin 26,Fj "abcdefghijklmnopqrstuvwxyz" (97+i.val)=true:=by decide +kernel
theorem zZ.isNm(h:zZ x):L2.isNm x=true:=by unfold L2.isNm isName;have h1:=h.lo;have h2:=h.hi;refine mJ.mpr ⟨mJ.mpr ⟨cy (by omega),cy (by omega)⟩,qp.mpr λc hc=>?_⟩;have h3:=h.Q3 c hc;have:=Tf ⟨c-97,by omega⟩;rw[show 97+(c-97)=c from by omega]at this;exact this
theorem zZ.strOk(h:zZ x):PyData.strOk x=true:=by unfold PyData.strOk;rw[Array.all_eq_true'];intro c hc;have:=h.Q3 c (by simpa using hc);exact cy (by omega)
inductive adC(T:TC)(K:Fg)(vs:Da V)(H:Hp)(Q:VK)(E:XK):Prop
 |mk(l:Addr)(own:Da Str)(n:Nat)(ρ:dO)(_:vs=[.ref l])(_:az K H l (own.map V.str))(_:ρ l=none)(_:own.Nodup)(_:(∀o∈own,isNm o=true))(_:own.length<=100)(_:Gh ρ H)(_:∀ρ' A H',HH T n ρ' A H' (own.foldl gC hs0)->Fr n ρ H ρ' H'->Q (.ref A.a) H')
def Rl(T:TC)(K:Fg):Sp:=bx (adC T K)
theorem Bj:∀(l:Da Str)(st:HS),(l.foldl gC st).own=st.own++l
 | [],st=>by simp
 | o::l,st=>by rw[nM,Bj l];show(st.own++[o])++l=_;rw[Sv];rfl
def qg(K:Fg)(hK:X.K=K:=by rfl):Ay X (rIx K):=hK▸acE
def Sq.ix{v:V}{Q:VK}(h:Sq K H r xs)(e:xs[i]?=some v)(q:Q v H):rIx K (.ref r) (.int (i:Int)) H Q:=by
 rcases h with h|h
 .exact .inl ⟨r,xs,i,v,Z,Z,h,aO e,q⟩
 .exact .inr (.inl ⟨r,xs,i,v,Z,Z,h,aO e,q⟩)
variable {own:Da Str}
theorem Kn{tops:Da Int}{b:Int}(hb:0<b)(hz:Jm.Sz m b)(h:(x,q)∈dD own tops b):Jm.Sz m (q.den:Int):=by
 unfold dD at h;obtain⟨y,_,e⟩:=Hu.mp h;by_cases c:0<y.2
 .rw [aC c]at e;cases e;refine hz.of_le ?_;have:=Jm.U9 y.2 b hb;omega
 .rw [aB c]at e;cases e
def Fr.at(f:Fr n ρ H ρ' H'){b:Addr}(e:H b=some o)(c:ρ b=none):H' b=some o/\ρ' b=none:=by obtain⟨a,d⟩:=f b o e (λt x=>by rw[c];intro z;cases z);exact⟨a,d.trans c⟩
def Fr.seq(f:Fr n ρ H ρ' H'){l:Addr}(h:az K H l xs)(c:ρ l=none):az K H' l xs:=by
 rcases h with(h|⟨o,h⟩)|h
 .exact .inl (.inl (f.at h c).1)
 .exact .inl (.inr ⟨o,(f.at h c).1⟩)
 .exact .inr h
theorem Fr.tup{n:Nat}{ρ ρ':dO}{H H':Hp}(f:Fr n ρ H ρ' H')(g:Gh ρ H):∀b xs,H b=some (.tup xs)->H' b=some (.tup xs):=λb xs e=>(f.at e (g.tup e)).1
noncomputable def FG(nss:Da (Da Nat)):Da Str:=nss.map tx
def aaZ(nss:Da (Da Nat)):tW nss=(FG nss).map V.str:=by unfold tW FG;rw[f_];rfl
def JH(h:nss.Nodup):(FG nss).Nodup:=by unfold FG;exact List.Pairwise.map tx (λa b hab e=>hab (Vk e)) h
def VC(h:∀x∈nss,qG x):∀o∈FG nss,zZ o:=λo ho=>by obtain⟨x,hx,rfl⟩:=bD.mp ho;show qG (tx x).cps.toList;rw[show(tx x).cps.toList=x from by simp];exact h x hx
def Rm(nss:Da (Da Nat)):(FG nss).length=nss.length:=by unfold FG;rw[aD]
def MT(x:Str)(l:Da Str):L8 (.str x) (l.map V.str)=decide (x∈l):=by
 have:=Q5 x.cps.toList (l.map λy=>y.cps.toList);rw[yx]at this;rw[show tW (l.map λy=>y.cps.toList)=l.map V.str from by unfold tW;rw[f_];congr 1;]at this;rw[this];congr 1;refine propext ⟨λm=>?_,λm=>bD.mpr ⟨x,m,Z⟩⟩;obtain⟨y,hy,e⟩:=bD.mp m;have:tx y.cps.toList=tx x.cps.toList:=by rw[e]
 rw[yx,yx]at this;rw[<-this];exact hy
def JI(l:Da Str):(l.map V.str).all sZ=true:=by rw[List.all_map];exact qp.mpr λ_ _=>rfl
theorem Yn{l:Da Str}{d:Int}(h0:0<=d)(h1:d<(l.length:Int)):∃(j:Nat)(o:Str),d=(j:Int)/\l[j]?=some o/\qa (l.map V.str) d=some (.str o):=by
 obtain⟨j,rfl⟩:∃j:Nat,d=(j:Int):=⟨d.toNat,by omega⟩
 have hj:j<l.length:=by omega
 exact⟨j,l[j],Z,aY hj,aO (by rw[bH,aY hj];rfl)⟩
section
variable {T:TC}{n:Nat}{L H:Hp}{x lp:Addr}{st:HS}{ps:Da Pt}
end
def kZ{α:Type}{l:Da α}(nd:l.Nodup){x:α}(h:l[i]?=some x):x∉l.take i:=λm=>by have h2:(l.take (i+1)).Nodup:=nd.sublist (List.take_sublist _ _);rw[take_snoc h]at h2;exact(List.nodup_append.mp h2).2.2 x m x (eE.mpr rfl) rfl
abbrev Row:=Str×Int
noncomputable def x9(r:Row):HO:=.tup [.str r.1,.int r.2]
inductive fR(H:Hp):Da V->Da Row->Prop
 | nil:fR H [] []
 | cons {a:Addr} {r:Row} {vs:Da V} {rs:Da Row}:H a=some (x9 r)->fR H vs rs->fR H (.ref a::vs) (r::rs)
def fR.mono{l:Da Row}(h:fR H vs l)(g:∀b xs,H b=some (.tup xs)->H' b=some (.tup xs)):fR H' vs l:=by
 induction h with
 | nil=>exact .nil
 | cons a _ ih=>exact .cons (g _ _ a) ih
theorem fR.length{l:Da Row}(h:fR H vs l):vs.length=l.length:=by
 induction h with
 | nil=>rfl
 | cons _ _ ih=>simp[ih]
def fR.get{l:Da Row}(h:fR H vs l):∀{i:Nat}{x:V},vs[i]?=some x->∃a r,x =.ref a/\l[i]?=some r/\H a=some (x9 r):=by
 induction h with
 | nil=>intro i x e;simp at e
 | @cons a r vs rs e0 _ ih=>
  intro i x e;cases i with
  | zero=>simp at e;subst e;exact⟨a,r,Z,Z,e0⟩
  | succ i=>simp at e;obtain⟨a',r',e1,e2,e3⟩:=ih e;exact⟨a',r',e1,by simpa using e2,e3⟩
def fR.snoc{l:Da Row}{r:Row}(h:fR H vs l)(e:H a=some (x9 r)):fR H (vs++[.ref a]) (l++[r]):=by
 induction h with
 | nil=>exact .cons e .nil
 | cons a _ ih=>exact .cons a ih
noncomputable def iG(rs:Da Row):Da (Key×V):=rs.map λr=>((Sum.inr r.1:Key),V.int r.2)
def z6(rs:Da Row):(iG rs).length=rs.length:=by unfold iG;rw[aD]
variable {rs:Da Row}
def JJ(h:x∉rs.map (·.1)):eV (iG rs) (Sum.inr x)=none:=by
 unfold iG
 induction rs with
 | nil=>rfl
 | cons a l ih=>rw[bP,fP (λz=>h (by rw[bP,<-u9 z];exact cQ))];exact ih λm=>h (by rw[bP];exact cL _ m)
noncomputable def bJ(rs:Da Row):Int:=(rs.map (·.2)).sum
noncomputable def dN(st:HS)(x:Str):Pt:=(st.ah.find? λp=>decide (p.nm=x)).getD ⟨x,x,0,0,1,[]⟩
def Rn(nd:(st.ah.map (·.nm)).Nodup)(h:st.ah[i]?=some p):dN st p.nm=p:=by
 unfold dN;have:st.ah.find? (λq=>decide (q.nm=p.nm))=some p:=by
  generalize st.ah=ps at *
  induction ps generalizing i with
  | nil=>simp at h
  | cons a ps ih=>
   obtain⟨h1,h2⟩:=gO.mp (show(a.nm::ps.map (·.nm)).Nodup from nd);cases i with
   | zero=>
    have:a=p:=by simpa using h
    subst this;rw[qu,cy rfl]
   | succ i=>
    have h':ps[i]?=some p:=by simpa using h
    rw[qu,d7 (λe=>h1 (bD.mpr ⟨p,bK h',e.symm⟩))];exact ih h2 h'
 rw[this];rfl
noncomputable def kH(st:HS)(sums:Da Int)(r:Row):Da Int:=List.zipWith (λold own=>old+(r.2*(dN st r.1).sc)*own) sums (dN st r.1).row
noncomputable def gI(st:HS)(rs:Da Row):Da Int:=rs.foldl (kH st) (st.bU.map λc=>bJ rs*c)
noncomputable def qK(s:Int)(ts:Da Int):Int:=ts.foldl (λs t=>Jm.cf t s) s
noncomputable def jx(st:HS)(kept:Int):Da Int:=st.ah.map λp=>p.sc*kept
noncomputable def gF(st:HS)(kept:Int)(added:Da Int):Da Int:=List.zipWith (λt m=>t*kept+m) st.bU added
noncomputable def cZ(st:HS)(kept whole:Int)(added:Da Int):Int:=qK whole (jx st kept++gF st kept added)
noncomputable def gi(st:HS)(s:Int):HS:=if 1<s then{ st with stp:=st.stp++[s],prod:=st.prod*s,kn:=0 } else st
noncomputable def cK(st:HS)(kept whole:Int)(added:Da Int):HS:=gi { st with ah:=st.ah.map (λp=>{ p with sc:=p.sc*kept / cZ st kept whole added }),bU:=(gF st kept added).map (· / cZ st kept whole added),cJ:=st.cJ.map (·*(whole / cZ st kept whole added)) } (whole / cZ st kept whole added)
noncomputable def oZ(ps:Da Pt)(x:Str)(a:Int):Da Pt:=(ps.map λp=>if p.nm=x then{ p with wo:=p.wo-a } else p).filter λp=>decide (p.wo≠0)
noncomputable def gR(st:HS)(r:Row):HS:={ st with ah:=oZ st.ah r.1 r.2 }
noncomputable def j9(st:HS)(rs:Da Row):HS:=rs.foldl gR (cK st (aR st-bJ rs) (aR st) (gI st rs))
inductive af3(K:Fg)(vs:Da V)(H:Hp)(Q:VK)(E:XK):Prop
 |mk(s:Int)(l:Addr)(ts:Da Int)(_:vs=[.int s,.ref l])(_:az K H l (ts.map V.int))(_:0<=s)(_:(∀t∈ts,0<=t))(_:Q (.int (qK s ts)) H)
def VD(K:Fg):Sp:=bx (af3 K)
inductive af4(T:TC)(vs:Da V)(H:Hp)(Q:VK)(E:XK):Prop
 |mk(n ρ A st s:_)(_:vs=[.ref A.bt,.int s])(_:Gh ρ H)(_:a_ T n ρ A H st)(_:st.stp.length<=1000)(_:Jm.Sz 9000 st.prod)(_:Jm.Sz 9000 s)(_:∀ρ' A' H',Gh ρ' H'->a_ T n ρ' A' H' (gi st s:_)->A'.a=A.a->Fr n ρ H ρ' H'->Q .cu H')
def VE(T:TC):Sp:=bx (af4 T)
inductive adD(T:TC)(vs:Da V)(H:Hp)(Q:VK)(E:XK):Prop
 |mk(n ρ A st:_)(d:Addr)(rs:Da Row)(_:vs=[.ref A.a,.ref d])(_:a_ T n ρ A H st)(_:Wf st)(_:H d=some (.dK (iG rs)))(_:ρ d=none)(_:rs.length<=1000)(_:(∀r∈rs,Jm.Sz 60 r.2/\∃p∈st.ah,p.nm=r.1))(_:∀l H',aE H H'->H l=none->H' l=some (.lst ((gI st rs).map V.int))->Q (.ref l) H')
def Ro(T:TC):Sp:=bx (adD T)
inductive adE(T:TC)(K:Fg)(vs:Da V)(H:Hp)(Q:VK)(E:XK):Prop
 |mk(n ρ A st:_)(kept whole:Int)(l:Addr)(added:Da Int)(_:vs=[.ref A.a,.int kept,.int whole,.ref l])(_:HH T n ρ A H st)(_:az K H l (added.map V.int))(_:added.length=st.bU.length)(_:0<kept)(_:0<whole)(_:Jm.Sz 60 kept)(_:Jm.Sz 60 whole)(_:(∀m∈added,0<=m/\Jm.Sz 8900 m))(_:(∀u∈st.cJ,Jm.Sz 8900 u))(_:st.stp.length<100)(_:Wf (cK st kept whole added))(_:zU T n ρ A H (cK st kept whole added:_) λH'=>Q .cu H')
def HZ(T:TC)(K:Fg):Sp:=bx (adE T K)
inductive af5(T:TC)(vs:Da V)(H:Hp)(Q:VK)(E:XK):Prop
 |mk(n ρ A st:_)(r:Row)(_:vs=[.ref A.a,.str r.1,.int r.2])(_:HH T n ρ A H st)(_:(∃p∈st.ah,p.nm=r.1/\r.2<=p.wo))(_:Wf (gR st r))(_:zU T n ρ A H (gR st r:_) λH'=>Q .cu H')
def VF(T:TC):Sp:=bx (af5 T)
structure k_(st:HS)(rs:Da Row):Prop where
 nd:(rs.map (·.1)).Nodup
 ne:rs≠[]
 len:rs.length<=1000
 row:∀r∈rs,1<=r.2/\Jm.Sz 60 r.2/\∃p∈st.ah,p.nm=r.1/\r.2<=p.wo
 lost:bJ rs<aR st
 big:Jm.Sz 60 (aR st)
 prod:Jm.Sz 7900 st.prod
 cJ:∀u∈st.cJ,Jm.Sz 8900 u
 stp:st.stp.length<100
inductive af6(T:TC)(K:Fg)(vs:Da V)(H:Hp)(Q:VK)(E:XK):Prop
 |mk(n ρ A st:_)(l:Addr)(us:Da V)(rs:Da Row)(_:vs=[.ref A.a,.ref l])(_:HH T n ρ A H st)(_:az K H l us)(_:fR H us rs)(_:k_ st rs)(_:zU T n ρ A H (j9 st rs:_) λH'=>Q .cu H')
def VG(T:TC)(K:Fg):Sp:=bx (af6 T K)
theorem DW:∀{ps:Da Pt}{qs:Da (Addr×Addr×Addr)}{i:Nat}{p:Pt},(ps.map (·.nm)).Nodup->qs.length=ps.length->ps[i]?=some p->nP (c7 ps qs) (Sum.inr p.nm)=c7 (ps.eraseIdx i) (qs.eraseIdx i)
 | [],_,_,_,_,_,h=>by simp at h
 | _::_,[],_,_,_,hl,_=>by simp at hl
 | a::ps,b::qs,0,p,nd,hl,h=>by
  have e:a=p:=by simpa using h
  subst e;obtain⟨h1,h2⟩:=gO.mp (show(a.nm::ps.map (·.nm)).Nodup from nd);show nP ((Sum.inr a.nm,V.ref b.1)::c7 ps qs) (Sum.inr a.nm)=c7 ps qs;unfold nP;rw[gY,aB (by simp)];refine Si.mpr λkv hkv=>?_;unfold c7 at hkv;obtain⟨x,hx,y,hy,rfl⟩:=zW hkv;exact cy λz=>h1 (bD.mpr ⟨x,hx,u9 z⟩)
 | a::ps,b::qs,i+1,p,nd,hl,h=>by
  obtain⟨h1,h2⟩:=gO.mp (show(a.nm::ps.map (·.nm)).Nodup from nd);have h':ps[i]?=some p:=by simpa using h
  have ih:=DW h2 (by simpa using hl) h';show nP ((Sum.inr a.nm,V.ref b.1)::c7 ps qs) (Sum.inr p.nm)=(Sum.inr a.nm,V.ref b.1)::c7 (ps.eraseIdx i) (qs.eraseIdx i);rw[<-ih];unfold nP;have hne:¬ (Sum.inr a.nm:Key)=Sum.inr p.nm:=λz=>h1 (bD.mpr ⟨p,bK h',(u9 z).symm⟩);rw[gY,aC (by simpa using λe:a.nm=p.nm=>hne (by rw[e]))]
theorem MU:∀{ps:Da Pt}{i:Nat}{p:Pt}{a:Int},(ps.map (·.nm)).Nodup->(∀q∈ps,q.wo≠0)->ps[i]?=some p->oZ ps p.nm a=if p.wo-a=0 then ps.eraseIdx i else ps.set i { p with wo:=p.wo-a }
 | [],_,_,_,_,_,h=>by simp at h
 | x::ps,0,p,a,nd,hw,h=>by
  have e:x=p:=by simpa using h
  subst e;obtain⟨h1,h2⟩:=gO.mp (show(x.nm::ps.map (·.nm)).Nodup from nd);have Cl:oZ ps x.nm a=ps:=by
   unfold oZ;rw[show(ps.map λp=>if p.nm=x.nm then{ p with wo:=p.wo-a } else p)=ps from by
    conv=>rhs;rw[<-List.map_id ps]
    exact LM λy hy=>aB λz=>h1 (bD.mpr ⟨y,hy,z⟩)]
   exact Si.mpr λy hy=>cy (hw y (cL _ hy))
  show((x::ps).map λp=>if p.nm=x.nm then{ p with wo:=p.wo-a } else p).filter _=_;rw[bP,aC rfl,gY];by_cases c:x.wo-a=0
  .rw [aC c,aB (by simp[c])];exact Cl
  .rw [aB c,aC (by simpa using c)];show _::oZ ps x.nm a=_;rw[Cl];rfl
 | x::ps,i+1,p,a,nd,hw,h=>by
  obtain⟨h1,h2⟩:=gO.mp (show(x.nm::ps.map (·.nm)).Nodup from nd);have h':ps[i]?=some p:=by simpa using h
  have ih:=MU (a:=a) h2 (λq hq=>hw q (cL _ hq)) h';have xn:¬ x.nm=p.nm:=λz=>h1 (bD.mpr ⟨p,bK h',z.symm⟩);show((x::ps).map λq=>if q.nm=p.nm then{ q with wo:=q.wo-a } else q).filter _=_;rw[bP,aB xn,gY,aC (cy (hw x cQ))];show x::oZ ps p.nm a=_;rw[ih];by_cases c:p.wo-a=0
  .rw [aC c,aC c];rfl
  .rw [aB c,aB c];rfl
theorem xD{α:Type}:∀{l:Da α}{i:Nat}{x:α},l[i]?=some x->l.set i x=l
 | [],_,_,h=>by simp at h
 | a::l,0,x,h=>by
  have:a=x:=by simpa using h
  rw[this];rfl
 | a::l,i+1,x,h=>by rw[LO,xD (by simpa using h)]
def Bl{α β:Type}{l:Da α}{m:Da β}{x:α}{y:β}(h1:(l.eraseIdx i)[j]?=some x)(h2:(m.eraseIdx i)[j]?=some y):∃k:Nat,l[k]?=some x/\m[k]?=some y:=by
 rw[List.getElem?_eraseIdx]at h1 h2;by_cases c:j<i
 .rw [aC c]at h1 h2;exact⟨j,h1,h2⟩
 .rw [aB c]at h1 h2;exact⟨j+1,h1,h2⟩
theorem Bm:∀(ts:Da Int)(s:Int),qK s ts∣s/\∀t∈ts,qK s ts∣t
 | [],s=>⟨Int.dvd_refl _,λ_ h=>absurd h (by simp)⟩
 | t::ts,s=>by
  obtain⟨h1,h2⟩:=Bm ts (Jm.cf t s);refine⟨Int.dvd_trans h1 (Jm.qD t s),λu hu=>?_⟩;rcases c_.mp hu with rfl|hu
  .exact Int.dvd_trans h1 (Jm.tD u s)
  .exact h2 u hu
theorem Bo:∀(ts:Da Int)(s:Int),0<s->0<qK s ts
 | [],_,h=>h
 | t::ts,s,h=>Bo ts _ (Jm.E_ t s (.inr h))
def Bp{A:HA}(h:a_ T n ρ A H st)(g:Gh ρ H)(c:ρ a=none)(e:H a=some o)(ht:isTup o=false):a_ T n (b_ ρ a (n,t,⟨#[]⟩)) A H st/\Gh (b_ ρ a (n,t,⟨#[]⟩)) H:=⟨h.same ⟨λ_ _ e=>e,λb u x w _ hc he=>⟨he,by rw[cC (λz=>by rw[z,c]at hc;cases hc)];exact hc⟩⟩,g.color e ht⟩
def Fr.nv(f:Fr n ρ H ρ' H')(h:H a=none):Fr n ρ H (b_ ρ' a (n,t,x)) H':=λb o e k=>by obtain⟨e1,e2⟩:=f b o e k;exact⟨e1,by rw[cC (aI e h)];exact e2⟩
theorem JK{d a b:Int}(hd:0<d)(h:a<=d*b):a / d<=b:=by
 have:=Int.ediv_le_ediv hd h
 rwa [Hl _ (by omega)]at this
theorem FH{s:Int}(h:1<=s):(gi st s).prod=st.prod*s:=by
 unfold gi;by_cases c:1<s
 .rw [aC c]
 .rw [aB c,show s=1 by omega,Int.mul_one]
def xE(st:HS)(s:Int):(gi st s).ah=st.ah:=by unfold gi;split <;> rfl
def VH(st:HS)(s:Int):(gi st s).bU=st.bU:=by unfold gi;split <;> rfl
def VI(st:HS)(s:Int):(gi st s).cJ=st.cJ:=by unfold gi;split <;> rfl
def JL(st:HS)(s:Int):(gi st s).own=st.own:=by unfold gi;split <;> rfl
def VJ(st:HS)(s:Int):(gi st s).nms=st.nms:=by unfold gi;split <;> rfl
def VL(st:HS)(s:Int):(gi st s).dB=st.dB:=by unfold gi;split <;> rfl
theorem iS{α β γ:Type}{f:α->β->γ}{t:γ}:∀{xs:Da α}{ys:Da β},t∈List.zipWith f xs ys->∃(i:Nat)(x:α)(y:β),xs[i]?=some x/\ys[i]?=some y/\t=f x y:=λ{xs ys} h=>by
 obtain⟨i,hi,e⟩:=uf h;rw[pI]at hi;have h1:i<xs.length:=by omega
 have h2:i<ys.length:=by omega
 exact⟨i,xs[i],ys[i],aY h1,aY h2,by rw[<-e,List.getElem_zipWith]⟩
def Rp{α β γ:Type}{f:α->β->γ}{xs:Da α}{ys:Da β}{x:α}{y:β}(h1:xs[i]?=some x)(h2:ys[i]?=some y):(List.zipWith f xs ys)[i]?=some (f x y):=by rw[Sf,h1,h2]
def DX{a b c:Int}(h:a<=b)(hc:0<=c):a*c<=b*c:=Ut h hc
structure rY(st:HS)(kept whole lost:Int)(added:Da Int):Prop where
 k:0<kept
 l:0<=lost
 w:whole=kept+lost
 len:added.length=st.bU.length
 add:∀m∈added,0<=m/\m<=lost*st.prod
 prod:Jm.Sz 7900 st.prod
 big:Jm.Sz 60 whole
 cJ:∀u∈st.cJ,Jm.Sz 8900 u
 stp:st.stp.length<100
variable {lost:Int}{added:Da Int}
theorem rY.dvds{kept whole:Int}(b:rY st kept whole lost added):0<cZ st kept whole added/\cZ st kept whole added∣whole/\(∀p∈st.ah,cZ st kept whole added∣p.sc*kept)/\∀c∈gF st kept added,cZ st kept whole added∣c:=by
 have hw:0<whole:=by have:=b.k;have:=b.l;have:=b.w;omega
 have d:=Bm (jx st kept++gF st kept added) whole;exact⟨Bo _ _ hw,d.1,λp hp=>d.2 _ (Hq _ (bD.mpr ⟨p,hp,Z⟩)),λc hc=>d.2 _ (kC _ hc)⟩
theorem MV{kept whole:Int}(wf:Wf st)(b:rY st kept whole lost added):Wf (cK st kept whole added):=by
 obtain⟨hs,hsw,qB,hsc⟩:=b.dvds;have hk:=b.k;have hl:=b.l;have hw:=b.w;have p1:=wf.iZ;have eB:cK st kept whole added=gi { st with ah:=st.ah.map (λp=>{ p with sc:=p.sc*kept / cZ st kept whole added }),bU:=(gF st kept added).map (· / cZ st kept whole added),cJ:=st.cJ.map (·*(whole / cZ st kept whole added)) } (whole / cZ st kept whole added):=rfl;rw[eB];generalize cZ st kept whole added=d at *;obtain⟨s,es⟩:=hsw;have hs1:1<=s:=by
  rcases Int.lt_trichotomy s 0 with z|z|z
  .have:=Int.mul_neg_of_pos_of_neg hs z;omega
  .rw [z,Int.mul_zero]at es;omega
  .omega
 have ed:whole / d=s:=by rw[es,Hl _ (by omega)]
 rw[ed];have amI:s<=whole:=by rw[es];have:=Ut (show 1<=d by omega) (show 0<=s by omega);omega
 have zs:Jm.Sz 60 s:=b.big.of_le (by omega);have zp:Jm.Sz 8000 (st.prod*s):=(b.prod.mul zs).mono (by decide);have pp:st.prod<=st.prod*s:=by have:=Jg hs1 (show 0<=st.prod by omega);omega
 have Yo:∀c∈(gF st kept added).map (· / d),0<=c/\c<=st.prod*s:=λc hc=>by
  obtain⟨x,hx,rfl⟩:=bD.mp hc;obtain⟨i,t,m,et,em,rfl⟩:=iS (show x∈List.zipWith (λt m=>t*kept+m) st.bU added from hx);have ht:=wf.uw t (bK et);have hm:=b.add m (bK em);have a1:0<=t*kept:=mR ht.1 (by omega);have a2:t*kept<=st.prod*kept:=DX ht.2 (by omega);have a3:st.prod*kept+lost*st.prod=d*(st.prod*s):=by rw[qw lost,<-qx,<-hw,es,<-jK,<-jK,qw st.prod d]
  exact⟨Lo (by omega) (by omega),JK hs (by omega)⟩
 have sc':∀p∈st.ah,1<=p.sc*kept / d/\p.sc*kept / d<=st.prod*s/\d*(p.sc*kept / d)=p.sc*kept:=λp hp=>by
  have h0:=wf.yE p hp;obtain⟨z,ez⟩:=qB p hp;have a1:0<p.sc*kept:=Int.mul_pos (by omega) hk;have ez':p.sc*kept / d=z:=by rw[ez,Hl _ (by omega)]
  have hz:1<=z:=by
   rcases Int.lt_trichotomy z 0 with y|y|y
   .have:=Int.mul_neg_of_pos_of_neg hs y;omega
   .rw [y,Int.mul_zero]at ez;omega
   .omega
  have a2:p.sc*kept<=st.prod*kept:=DX h0.2 (by omega);have a3:st.prod*kept<=st.prod*whole:=Jg (by omega) (by omega);have a4:st.prod*whole=d*(st.prod*s):=by rw[es,<-jK,<-jK,qw st.prod d]
  refine⟨by rw[ez'];exact hz,JK hs (by omega),by rw[ez',ez]⟩
 have P:∀{M:Pt->Prop},(∀p∈st.ah,M { p with sc:=p.sc*kept / d })->∀p∈st.ah.map (λp=>{ p with sc:=p.sc*kept / d }),M p:=λh p hp=>by obtain⟨x,hx,rfl⟩:=bD.mp hp;exact h x hx
 have top':∀p∈st.ah,∀t∈List.zipWith (λr c=>(p.sc*kept / d)*r+c) p.row ((gF st kept added).map (· / d)),0<=t/\t<=st.prod*s:=λp hp t ht=>by
  obtain⟨i,r,c,er,ec,rfl⟩:=iS ht;rw[bH]at ec;obtain⟨x,ex,rfl⟩:=mH.mp ec;obtain⟨y,ey⟩:=hsc x (bK ex);have eyd:x / d=y:=by rw[ey,Hl _ (by omega)]
  have ex':(List.zipWith (λt m=>t*kept+m) st.bU added)[i]?=some x:=ex;rw[Sf]at ex';cases e1:st.bU[i]? with
  | none=>rw[e1]at ex';simp at ex'
  | some t0=>
   cases e2:added[i]? with
   | none=>rw[e1,e2]at ex';simp at ex'
   | some m=>
    rw[e1,e2]at ex';have ex2:t0*kept+m=x:=by simpa using ex'
    have hm:=b.add m (bK e2);have hT:=wf.Be p hp (p.sc*r+t0) (bK (Rp (f:=λr c=>p.sc*r+c) er e1));have hz:=(sc' p hp).2.2;have key:d*((p.sc*kept / d)*r+x / d)=(p.sc*r+t0)*kept+m:=by rw[qx,<-jK,hz,eyd,<-ey,<-ex2];rw[Cp,jK,jK,qw kept r];omega
    have k1:0<=(p.sc*r+t0)*kept:=mR hT.1 (by omega);have k2:(p.sc*r+t0)*kept<=st.prod*kept:=DX hT.2 (by omega);have a3:st.prod*kept+lost*st.prod=d*(st.prod*s):=by rw[qw lost,<-qx,<-hw,es,<-jK,<-jK,qw st.prod d]
    generalize (p.sc*kept / d)*r+x / d=W at *;constructor
    .rcases ET W 0 with z|z
     .have:=Int.mul_neg_of_pos_of_neg hs z;omega
     .exact z
    .have:d*W<=d*(st.prod*s):=by omega
     exact Int.le_of_mul_le_mul_left this hs
 have nm':(st.ah.map (λp:Pt=>{ p with sc:=p.sc*kept / d })).map (λp:Pt=>p.nm)=st.ah.map (λp:Pt=>p.nm):=by rw[f_];rfl
 have e0:(gF st kept added).length=st.bU.length:=by unfold gF;rw[pI,b.len];omega
 have pu':∀u∈st.cJ.map (·*s),Jm.Sz 9000 u:=λu hu=>by obtain⟨x,hx,rfl⟩:=bD.mp hu;exact((b.cJ x hx).mul zs).mono (by decide)
 have adF:∀p∈st.ah,∀r∈p.row,-(st.prod*s)<=r/\r<=st.prod*s:=λp hp r hr=>by have:=wf.vP p hp r hr;omega
 unfold gi;by_cases c:1<s
 .rw [aC c];refine⟨wf.zT,wf.DS,by rw[nm'];exact wf.lN,P wf.sub,P wf.rows,P wf.ow,?_,?_,by show 1<=st.prod*s;omega,?_,λx hx=>?_,wf.qH,wf.DT,?_,?_,wf.x8,fD _,zp,Yo,P λp hp=>⟨(sc' p hp).1,(sc' p hp).2.1⟩,P adF,P top',P wf.uX,pu'⟩
  .show (List.map _ (gF st kept added)).length=_;rw[aD,e0,wf.jg]
  .show (List.map _ st.cJ).length=_;rw[aD,wf.vN]
  .show st.prod*s=(st.stp++[s]).foldl (·*·) 1;rw[aaY,<-wf.xC]
  .rcases fk.mp (show x∈st.stp++[s]from hx)with z|z
   .exact wf.Bd x z
   .rw [eE.mp z];omega
  .show (List.map _ st.ah).length<=1000;rw[aD];exact wf.vO
  .show (st.stp++[s]).length<=100;rw[c8];exact b.stp
 .rw [aB c];have e1:s=1:=by omega
  subst e1;rw[Int.mul_one]at Yo sc' adF top';refine⟨wf.zT,wf.DS,by rw[nm'];exact wf.lN,P wf.sub,P wf.rows,P wf.ow,?_,?_,wf.iZ,wf.xC,wf.Bd,wf.qH,wf.DT,?_,wf.HU,wf.x8,wf.Ra,wf.big,Yo,P λp hp=>⟨(sc' p hp).1,(sc' p hp).2.1⟩,P wf.vP,P λp hp t ht=>?_,P wf.uX,pu'⟩
  .show (List.map _ (gF st kept added)).length=_;rw[aD,e0,wf.jg]
  .show (List.map _ st.cJ).length=_;rw[aD,wf.vN]
  .show (List.map _ st.ah).length<=1000;rw[aD];exact wf.vO
  .exact top' p hp t ht
noncomputable def z7(st:HS)(BM:Da Int)(rs:Da Row):Da Int:=rs.foldl (λs r=>List.zipWith (λx t=>x+r.2*t) s (bR st (dN st r.1))) BM
theorem JM:∀(BM bU row:Da Int)(a sc L:Int),List.zipWith (λold own=>old+(a*sc)*own) (List.zipWith (λs c=>s+(a+L)*c) BM bU) row=List.zipWith (λs c=>s+L*c) (List.zipWith (λx t=>x+a*t) BM (List.zipWith (λr c=>sc*r+c) row bU)) bU
 | [],_,_,_,_,_=>by simp
 | _::_,[],_,_,_,_=>by simp
 | _::_,_::_,[],_,_,_=>by simp
 | x::BM,c::bU,r::row,a,sc,L=>by
  simp only[ud];rw[JM BM bU row a sc L];congr 1
  grind
theorem MW{st:HS}:∀(rs:Da Row)(BM:Da Int),rs.foldl (kH st) (List.zipWith (λs c=>s+bJ rs*c) BM st.bU)=List.zipWith (λs c=>s+0*c) (z7 st BM rs) st.bU
 | [],BM=>by show List.zipWith _ BM st.bU=_;rfl
 | r::rs,BM=>by
  rw[nM];have e:kH st (List.zipWith (λs c=>s+bJ (r::rs)*c) BM st.bU) r=List.zipWith (λs c=>s+bJ rs*c) (List.zipWith (λx t=>x+r.2*t) BM (bR st (dN st r.1))) st.bU:=by unfold kH;rw[show bJ (r::rs)=r.2+bJ rs from by unfold bJ;rw[bP,c6]];exact JM BM st.bU (dN st r.1).row r.2 (dN st r.1).sc (bJ rs)
  rw[e,MW rs];rfl
theorem JN:∀(l:Da Int)(L:Int),List.zipWith (λs c=>s+L*c) (List.replicate l.length 0) l=l.map λc=>L*c
 | [],_=>rfl
 | x::l,L=>by rw[jm,ze,ud,JN l L,Int.zero_add];rfl
theorem MX:∀(s l:Da Int),s.length<=l.length->List.zipWith (λs c=>s+0*c) s l=s
 | [],_,_=>by simp
 | _::_,[],h=>by simp at h
 | x::s,c::l,h=>by rw[ud,MX s l (by simpa using h),Int.zero_mul,Int.add_zero]
theorem Bq{st:HS}:∀(rs:Da Row)(BM:Da Int),(∀r∈rs,(bR st (dN st r.1)).length=BM.length)->(z7 st BM rs).length=BM.length
 | [],_,_=>rfl
 | r::rs,BM,h=>by
  have e:(List.zipWith (λx t=>x+r.2*t) BM (bR st (dN st r.1))).length=BM.length:=by rw[pI,h r cQ];omega
  show(z7 st (List.zipWith (λx t=>x+r.2*t) BM (bR st (dN st r.1))) rs).length=_;rw[Bq rs _ (λx hx=>by rw[e];exact h x (cL _ hx)),e]
theorem Dp{st:HS}(hP:0<=st.prod):∀(rs:Da Row)(BM:Da Int)(B:Int),(∀r∈rs,0<=r.2/\∀t∈bR st (dN st r.1),0<=t/\t<=st.prod)->(∀x∈BM,0<=x/\x<=B)->∀x∈z7 st BM rs,0<=x/\x<=B+bJ rs*st.prod
 | [],BM,B,_,ha,x,hx=>by have:=ha x hx;show 0<=x/\x<=B+0*st.prod;omega
 | r::rs,BM,B,h,ha,x,hx=>by
  have hr:=h r cQ;have:=Dp hP rs (List.zipWith (λx t=>x+r.2*t) BM (bR st (dN st r.1))) (B+r.2*st.prod) (λy hy=>h y (cL _ hy)) (λy hy=>by obtain⟨i,a,t,ea,et,rfl⟩:=iS hy;have h1:=ha a (bK ea);have h2:=hr.2 t (bK et);have h3:0<=r.2*t:=mR hr.1 h2.1;have h4:r.2*t<=r.2*st.prod:=Jg h2.2 hr.1;omega) x hx
  rw[show bJ (r::rs)=r.2+bJ rs from by unfold bJ;rw[bP,c6],Cp];omega
theorem z8(wf:Wf st)(h:p∈st.ah):(bR st p).length=st.bU.length:=by unfold bR;rw[pI,wf.rows p h,wf.jg];omega
def jh(wf:Wf st)(h:p∈st.ah)(e:p.nm=x):dN st x=p:=by obtain⟨i,hi,ei⟩:=uf h;rw[<-e];exact Rn wf.lN (i:=i) (by rw[aY hi,ei])
def JO(wf:Wf st)(h:∀r∈rs,∃p∈st.ah,p.nm=r.1):gI st rs=z7 st (List.replicate st.bU.length 0) rs:=by
 unfold gI;rw[<-JN st.bU (bJ rs),MW];refine MX _ _ ?_;rw[Bq rs _ (λr hr=>by obtain⟨p,hp,e⟩:=h r hr;rw[jh wf hp e,kD,z8 wf hp]),kD]
 exact aN _
theorem VM(wf:Wf st)(h:∀r∈rs,1<=r.2/\∃p∈st.ah,p.nm=r.1):(gI st rs).length=st.bU.length/\∀m∈gI st rs,0<=m/\m<=bJ rs*st.prod:=by
 rw[JO wf (λr hr=>(h r hr).2)];have p1:=wf.iZ;constructor
 .rw [Bq rs _ (λr hr=>by obtain⟨p,hp,e⟩:=(h r hr).2;rw[jh wf hp e,kD,z8 wf hp]),kD]
 .intro m hm;have:=Dp (st:=st) (by omega) rs (List.replicate st.bU.length 0) 0 (λr hr=>by obtain⟨h1,p,hp,e⟩:=h r hr;refine⟨by omega,?_⟩;rw[jh wf hp e];exact wf.Be p hp) (λx hx=>by rw[(List.mem_replicate.mp hx).2];omega) m hm
  omega
def Tg{ps:Da Pt}{a:Int}(h:p∈ps)(hn:p.nm≠x)(hw:p.wo≠0):p∈oZ ps x a:=lJ.mpr ⟨bD.mpr ⟨p,h,by rw[aB hn]⟩,cy hw⟩
def DY{ps:Da Pt}{a:Int}(h:p∈oZ ps x a):p.wo≠0/\∃q∈ps,p=if q.nm=x then{ q with wo:=q.wo-a } else q:=by obtain⟨h1,h2⟩:=lJ.mp h;obtain⟨q,hq,e⟩:=bD.mp h1;exact⟨dH h2,q,hq,e.symm⟩
def FI{ps:Da Pt}{a:Int}:((oZ ps x a).map (λp:Pt=>p.nm)).Sublist (ps.map (λp:Pt=>p.nm)):=by
 unfold oZ;have e:(ps.map λp=>if p.nm=x then{ p with wo:=p.wo-a } else p).map (λp:Pt=>p.nm)=ps.map (λp:Pt=>p.nm):=by rw[f_];exact LM λp _=>by show(if p.nm=x then _ else p:Pt).nm=p.nm;split <;> rfl
 rw[<-e];exact Sj.map _
theorem aa0(wf:Wf st){r:Row}(h:∀p∈st.ah,p.nm=r.1->r.2<=p.wo):Wf (gR st r):=by
 have P:∀{M:Pt->Prop},(∀p∈st.ah,M p)->(∀(p:Pt)(w:Int),M p->M { p with wo:=w })->∀p∈oZ st.ah r.1 r.2,M p:=λh1 h2 p hp=>by
  obtain⟨_,q,hq,e⟩:=DY hp;rw[e];split
  .exact h2 _ _ (h1 q hq)
  .exact h1 q hq
 refine⟨wf.zT,wf.DS,wf.lN.sublist FI,P wf.sub (λ_ _ z=>z),P wf.rows (λ_ _ z=>z),P wf.ow (λ_ _ z=>z),wf.jg,wf.vN,wf.iZ,wf.xC,wf.Bd,wf.qH,wf.DT,?_,wf.HU,wf.x8,wf.Ra,wf.big,wf.uw,P wf.yE (λ_ _ z=>z),P wf.vP (λ_ _ z=>z),P wf.Be (λ_ _ z=>z),λp hp=>?_,wf.Te⟩
 .have:=FI (ps:=st.ah) (x:=r.1) (a:=r.2) |>.length_le;rw[aD,aD]at this;exact fZ this wf.vO
 .obtain ⟨h0,q,hq,e⟩:=DY hp;have:=wf.uX q hq;by_cases c:q.nm=r.1
  .rw [aC c]at e;subst e;have:=h q hq c;have h0:q.wo-r.2≠0:=h0;exact⟨by show 1<=q.wo-r.2;omega,by show 0<=q.we;omega⟩
  .rw [aB c]at e;rw[e];exact this
def Due(st:HS)(rs:Da Row):Prop:=∀r∈rs,∃p∈st.ah,p.nm=r.1/\r.2<=p.wo
def Rq(wf:Wf st){q:Pt}(hp:p∈st.ah)(hq:q∈st.ah)(e:p.nm=q.nm):p=q:=(jh wf hp rfl).symm.trans (by rw[e];exact jh wf hq rfl)
def adG(wf:Wf st){r:Row}(d:Due st (r::rs)):Wf (gR st r):=by obtain⟨p,hp,e,hle⟩:=d r cQ;exact aa0 wf λq hq eq=>by rw[Rq wf hq hp (eq.trans e.symm)];exact hle
theorem Yp(wf:Wf st){r:Row}(d:Due st (r::rs))(nd:((r::rs).map (λr:Row=>r.1)).Nodup):Due (gR st r) rs:=λx hx=>by obtain⟨p,hp,e,hle⟩:=d x (cL _ hx);have hn:p.nm≠r.1:=λz=>(gO.mp nd).1 (bD.mpr ⟨x,hx,e.symm.trans z⟩);have:=wf.uX p hp;exact⟨p,Tg hp hn (by omega),e,hle⟩
def VN{kept whole:Int}(d:Due st rs):Due (cK st kept whole added) rs:=λr hr=>by obtain⟨p,hp,e,hle⟩:=d r hr;refine⟨{ p with sc:=p.sc*kept / cZ st kept whole added },?_,e,hle⟩;unfold cK;rw[xE];exact bD.mpr ⟨p,hp,Z⟩
def k_.due(c:k_ st rs):Due st rs:=λr hr=>(c.row r hr).2.2
theorem DZ:∀{rs:Da Row},(∀r∈rs,1<=r.2)->0<=bJ rs
 | [],_=>lM _
 | r::rs,h=>by have:=h r cQ;have:=DZ (rs:=rs) λx hx=>h x (cL _ hx);rw[show bJ (r::rs)=r.2+bJ rs from by unfold bJ;rw[bP,c6]];omega
theorem k_.blend(wf:Wf st)(c:k_ st rs):rY st (aR st-bJ rs) (aR st) (bJ rs) (gI st rs):=by have g:=VM wf (rs:=rs) (λr hr=>⟨(c.row r hr).1,by obtain⟨p,hp,e,_⟩:=(c.row r hr).2.2;exact⟨p,hp,e⟩⟩);have l0:=DZ (rs:=rs) λr hr=>(c.row r hr).1;have:=c.lost;exact⟨by omega,l0,by omega,g.1,g.2,c.prod,c.big,c.cJ,c.stp⟩
structure BP where
 nm:Str
 ow:Str
 wo:Int
 we:Int
 tops:Da Int
structure BE where
 nm:Str
 ow:Str
 wo:Int
 tops:Da Int
 bot:Int
structure BS where
 own:Da Str
 ah:Da BP
 bot:Int
 dB:Da BE
 dG:Da Str
structure BA where
 m:Addr
 lo:Addr
 lp:Addr
 la:Addr
 lk:Addr
 qs:Da (Addr×Addr)
noncomputable def fL(B:BA)(bot:Int):Da (Key×V):=[(Sum.inr "owners",.ref B.lo),(Sum.inr "parts",.ref B.lp),(Sum.inr "bottom",.int bot),(Sum.inr "ashore",.ref B.la),(Sum.inr "known",.ref B.lk)]
noncomputable def qh(p:BP)(t:Addr):HO:=.lst [.str p.nm,.str p.ow,.int p.wo,.int p.we,.ref t]
inductive pM(n:Nat)(ρ:dO)(H:Hp):Da V->Da BE->Prop
 | nil:pM n ρ H [] []
 | cons {r t:Addr} {e:BE} {vs:Da V} {es:Da BE}:H r=some (.lst [.str e.nm,.str e.ow,.int e.wo,.ref t,.int e.bot])->ρ r=some (n,27,e.nm)->H t=some (.lst (e.tops.map V.int))->ρ t=some (n,28,e.nm)->pM n ρ H vs es->pM n ρ H (.ref r::vs) (e::es)
structure aV(n:Nat)(ρ:dO)(B:BA)(H:Hp)(b:BS):Prop where
 om:H B.m=some (.dK (fL B b.bot))
 cm:ρ B.m=some (n,20,⟨#[]⟩)
 oo:H B.lo=some (.lst (b.own.map V.str))
 co:ρ B.lo=some (n,21,⟨#[]⟩)
 op:H B.lp=some (.lst (B.qs.map λq=>V.ref q.1))
 cp:ρ B.lp=some (n,22,⟨#[]⟩)
 oa:∃vs,H B.la=some (.lst vs)/\pM n ρ H vs b.dB
 ca:ρ B.la=some (n,25,⟨#[]⟩)
 ok:H B.lk=some (.lst (b.dG.map V.str))
 ck:ρ B.lk=some (n,26,⟨#[]⟩)
 ql:B.qs.length=b.ah.length
 pt:∀(i:Nat)(p:BP)(q:Addr×Addr),b.ah[i]?=some p->B.qs[i]?=some q->H q.1=some (qh p q.2)/\H q.2=some (.lst (p.tops.map V.int))/\ρ q.1=some (n,23,p.nm)/\ρ q.2=some (n,24,p.nm)
def pM.keep{l:Da BE}(h:pM n ρ H vs l)(k:Kp n ρ ρ' H H' ts)(e1:ts 27=true)(e2:ts 28=true):pM n ρ' H' vs l:=by
 induction h with
 | nil=>exact .nil
 | cons a b c d _ ih=>exact .cons (k.2 _ _ _ _ e1 b a).1 (k.2 _ _ _ _ e1 b a).2 (k.2 _ _ _ _ e2 d c).1 (k.2 _ _ _ _ e2 d c).2 ih
variable {B:BA}{b:BS}
def aV.same(h:aV n ρ B H b)(k:Kp n ρ ρ' H H' λ_=>true):aV n ρ' B H' b:=by
 have z:=λ{b:Addr}{t:Nat}{x:Str}{o:HO}(c:ρ b=some (n,t,x))(e:H b=some o)=>k.2 b t x o rfl c e;obtain⟨vs,h1,h2⟩:=h.oa;exact⟨(z h.cm h.om).1,(z h.cm h.om).2,(z h.co h.oo).1,(z h.co h.oo).2,(z h.cp h.op).1,(z h.cp h.op).2,⟨vs,(z h.ca h1).1,h2.keep k rfl rfl⟩,(z h.ca h1).2,(z h.ck h.ok).1,(z h.ck h.ok).2,h.ql,
  λi p q e1 e2=>let⟨a,b,c,d⟩:=h.pt i p q e1 e2;⟨(z c a).1,(z d b).1,(z c a).2,(z d b).2⟩⟩
def aV.mono(h:aV n ρ B H b)(s:aE H H'):aV n ρ B H' b:=h.same (Q9 s)
def aV.other(h:aV m ρ B H b)(f:Fr n ρ H ρ' H')(g:Gh ρ H)(e:m≠n):aV m ρ' B H' b:=h.same ⟨λb xs q=>(f b _ q λt x=>by rw[g.tup q];intro z;cases z).1,λb t x o _ c q=>by
 obtain⟨a,b'⟩:=f b o q λt' x'=>by rw[c];intro z;cases z;exact e rfl
 exact⟨a,b'.trans c⟩⟩
def aV.col(h:aV n ρ B H b)(c:ρ a=none):aV n (b_ ρ a (n,t,x)) B H b:=h.same ⟨λ_ _ e=>e,λb u y w _ hc he=>⟨he,by rw[cC (λz=>by rw[z,c]at hc;cases hc)];exact hc⟩⟩
def aV.find(h:aV n ρ B H b){p:BP}(e:b.ah[i]?=some p):∃q,B.qs[i]?=some q/\H q.1=some (qh p q.2)/\H q.2=some (.lst (p.tops.map V.int))/\ρ q.1=some (n,23,p.nm)/\ρ q.2=some (n,24,p.nm):=by
 have hi:i<B.qs.length:=by rw[h.ql];exact(dZ.mp e).1
 exact⟨B.qs[i],aY hi,h.pt i p _ e (aY hi)⟩
def aV.aa1(h:aV n ρ B H b)(g:Gh ρ H)(x:Int):aV n ρ B (upd H B.m (.dK (fL B x))) { b with bot:=x }:=by
 have k:=eF (o:=.dK (fL B x)) g h.cm;obtain⟨vs,h1,h2⟩:=h.oa;exact⟨ak,h.cm,kz k h.co h.oo,h.co,kz k h.cp h.op,h.cp,⟨vs,kz k h.ca h1,h2.keep k (by decide) (by decide)⟩,h.ca,kz k h.ck h.ok,h.ck,h.ql,
  λi p q e1 e2=>let⟨a,b,c,d⟩:=h.pt i p q e1 e2;⟨kz k c a,kz k d b,c,d⟩⟩
def aV.yD(h:aV n ρ B H b)(g:Gh ρ H){p0 p1:BP}{q0:Addr×Addr}{t1:Addr}(ep:b.ah[i]?=some p0)(eq:B.qs[i]?=some q0)(e1:p1.nm=p0.nm)(nd:(b.ah.map (λp:BP=>p.nm)).Nodup)(ht:H t1=some (.lst (p1.tops.map V.int)))(ct:ρ t1=some (n,24,p1.nm)):aV n ρ { B with qs:=B.qs.set i (q0.1,t1) } (upd H q0.1 (qh p1 t1)) { b with ah:=b.ah.set i p1 }:=by
 obtain⟨x1,x2,x3,x4⟩:=h.pt i p0 q0 ep eq
 have k:=eF (o:=qh p1 t1) g x3
 obtain⟨vs,h1,h2⟩:=h.oa
 have hi:i<B.qs.length:=(dZ.mp eq).1
 have hi2:i<b.ah.length:=(dZ.mp ep).1
 have em:(B.qs.set i (q0.1,t1)).map (λq=>V.ref q.1)=B.qs.map λq=>V.ref q.1:=by rw[u7];exact xD (by rw[bH,eq];rfl)
 refine⟨kz k h.cm h.om,h.cm,kz k h.co h.oo,h.co,?_,h.cp,⟨vs,kz k h.ca h1,h2.keep k (by decide) (by decide)⟩,h.ca,kz k h.ck h.ok,h.ck,?_,λj p q qL Dq=>?_⟩
 . show upd H q0.1 _ B.lp=some (.lst ((B.qs.set i (q0.1,t1)).map _))
   rw[em];exact kz k h.cp h.op
 . show(B.qs.set i (q0.1,t1)).length=(b.ah.set i p1).length
   rw[jV,jV];exact h.ql
 . have qL:(b.ah.set i p1)[j]?=some p:=qL
   have Dq:(B.qs.set i (q0.1,t1))[j]?=some q:=Dq
   by_cases hj:i=j
   . subst hj
     rw[uc hi2]at qL
     rw[uc hi]at Dq
     cases qL;cases Dq
     exact⟨ak,kz k ct ht,by rw[e1];exact x3,ct⟩
   . rw[y9 hj]at qL Dq
     obtain⟨a1,a2,a3,a4⟩:=h.pt j p q qL Dq
     have hnm:p.nm≠p0.nm:=λe=>by
      have hj2:j<b.ah.length:=(dZ.mp qL).1;have r1:(b.ah.map (λp:BP=>p.nm))[j]?=some p.nm:=by rw[bH,qL];rfl
      have r2:(b.ah.map (λp:BP=>p.nm))[i]?=some p0.nm:=by rw[bH,ep];rfl
      have JP:j<(b.ah.map (λp:BP=>p.nm)).length:=by rw[aD];exact hj2
      exact hj ((Ce JP nd).mp (r1.trans (by rw[e];exact r2.symm))).symm
     have hq:q.1≠q0.1:=λe=>by rw[e,x3]at a3;exact hnm (gP (λc:nY=>c.2.2) (gZ a3)).symm
     exact⟨by rw[av hq];exact a1,kz k a4 a2,a3,a4⟩
def aV.adH(h:aV n ρ B H b)(g:Gh ρ H){lp:Addr}{qs:Da (Addr×Addr)}{ps:Da BP}(e:H lp=some (.lst (qs.map λq=>V.ref q.1)))(c:ρ lp=some (n,22,⟨#[]⟩))(hl:qs.length=ps.length)(hp:∀(i:Nat) (p:BP) (q:Addr×Addr),ps[i]?=some p->qs[i]?=some q->H q.1=some (qh p q.2)/\H q.2=some (.lst (p.tops.map V.int))/\ρ q.1=some (n,23,p.nm)/\ρ q.2=some (n,24,p.nm)):
  aV n ρ { { B with lp:=lp }with qs:=qs } (upd H B.m (.dK (fL { B with lp:=lp } b.bot))) { b with ah:=ps }:=by
 have k:=eF (o:=.dK (fL { B with lp:=lp } b.bot)) g h.cm
 obtain⟨vs,h1,h2⟩:=h.oa
 exact⟨ak,h.cm,kz k h.co h.oo,h.co,kz k c e,c,⟨vs,kz k h.ca h1,h2.keep k (by decide) (by decide)⟩,h.ca,kz k h.ck h.ok,h.ck,hl,
  λi p q e1 e2=>let⟨a,b,c,d⟩:=hp i p q e1 e2;⟨kz k c a,kz k d b,c,d⟩⟩
theorem aV.adI(h:aV n ρ B H b)(g:Gh ρ H){p:BP}{q:Addr×Addr}(e1:H q.1=some (qh p q.2))(e2:H q.2=some (.lst (p.tops.map V.int)))(c1:ρ q.1=some (n,23,p.nm))(c2:ρ q.2=some (n,24,p.nm)):aV n ρ { B with qs:=B.qs++[q] } (upd H B.lp (.lst ((B.qs++[q]).map λq=>V.ref q.1))) { b with ah:=b.ah++[p] }:=by
 have k:=eF (o:=.lst ((B.qs++[q]).map λq=>V.ref q.1)) g h.cp;obtain⟨vs,h1,h2⟩:=h.oa;refine⟨kz k h.cm h.om,h.cm,kz k h.co h.oo,h.co,ak,h.cp,⟨vs,kz k h.ca h1,h2.keep k (by decide) (by decide)⟩,h.ca,kz k h.ck h.ok,h.ck,?_,λi x y ex ey=>?_⟩
 .show (B.qs++[q]).length=(b.ah++[p]).length;rw[c8,c8,h.ql];rfl
 .have ex:(b.ah++[p])[i]?=some x:=ex;have ey:(B.qs++[q])[i]?=some y:=ey;by_cases c:i<b.ah.length
  .rw [Hj c]at ex;rw[Hj (by rw[h.ql];exact c)]at ey;obtain⟨a1,a2,a3,a4⟩:=h.pt i x y ex ey;exact⟨kz k a3 a1,kz k a4 a2,a3,a4⟩
  .have hi:i=b.ah.length:=by have:=(dZ.mp ex).1;rw[c8]at this;have:i<b.ah.length+1:=this;omega
   subst hi;rw[Jh (aN _),Co]at ex;rw[Jh (by rw[h.ql];exact aN _),h.ql,Co]at ey;cases ex;cases ey;exact⟨kz k c1 e1,kz k c2 e2,c1,c2⟩
def aV.aa2(h:aV n ρ B H b)(g:Gh ρ H)(l:Da Str):aV n ρ B (upd H B.lk (.lst (l.map V.str))) { b with dG:=l }:=by
 have k:=eF (o:=.lst (l.map V.str)) g h.ck;obtain⟨vs,h1,h2⟩:=h.oa;exact⟨kz k h.cm h.om,h.cm,kz k h.co h.oo,h.co,kz k h.cp h.op,h.cp,⟨vs,kz k h.ca h1,h2.keep k (by decide) (by decide)⟩,h.ca,ak,h.ck,h.ql,
  λi p q e1 e2=>let⟨a,b,c,d⟩:=h.pt i p q e1 e2;⟨kz k c a,kz k d b,c,d⟩⟩
structure Th(K:Fg)(H:Hp)(us:Da V)(ws:Da Row):Prop where
 len:us.length=ws.length
 at_:∀(i:Nat)(r:Row),ws[i]?=some r->∃a xs,us[i]?=some (.ref a)/\Sq K H a xs/\xs[0]?=some (.str r.1)/\xs[2]?=some (.int r.2)
noncomputable def lg(b:BS):Da Row:=b.ah.map λp=>(p.nm,p.wo)
def aV.nw(h:aV n ρ B H b):Th K H (B.qs.map λq=>V.ref q.1) (lg b):=by refine⟨by unfold lg;rw[aD,aD];exact h.ql,λi r e=>?_⟩;unfold lg at e;rw[bH]at e;obtain⟨p,ep,rfl⟩:=mH.mp e;obtain⟨q,eq,a1,_⟩:=h.find ep;exact⟨q.1,_,by rw[bH,eq];rfl,.inl (az.of a1),Z,Z⟩
noncomputable def bu(b:BS):Int:=(b.ah.map λp=>p.wo).sum
theorem JQ:∀{l:Da Str}{o:Str},o∈l->l[l.idxOf o]?=some o
 | [],_,h=>by simp at h
 | x::l,o,h=>by
  by_cases e:x=o
  .subst e;simp
  .have ho:o∈l:=by
    rcases c_.mp h with z|z
    .exact absurd z.symm e
    .exact z
   rw[List.idxOf_cons,show(x==o)=false from Hr.mpr e];simpa using JQ ho
inductive adJ(K:Fg)(vs:Da V)(H:Hp)(Q:VK)(E:XK):Prop
 |mk(l:Addr)(own:Da Str)(n:Nat)(ρ:dO)(_:vs=[.ref l])(_:az K H l (own.map V.str))(_:Gh ρ H)(_:own.length<=1000)(_:∀ρ' B H',Gh ρ' H'->aV n ρ' B H' ⟨own,[],1,[],[]⟩->(∀b o,H b=some o->H' b=some o/\ρ' b=ρ b)->Q (.ref B.m) H')
def Rr(K:Fg):Sp:=bx (adJ K)
inductive af7(K:Fg)(vs:Da V)(H:Hp)(Q:VK)(E:XK):Prop
 |mk(l:Addr)(own:Da Str)(o:Str)(_:vs=[.ref l,.str o])(_:az K H l (own.map V.str))(_:o∈own)(_:own.length<=1000)(_:Q (.int (own.idxOf o:Int)) H)
def MY(K:Fg):Sp:=bx (af7 K)
noncomputable def z9(b:BS)(x o:Str)(wo we:Int):BS:={ b with ah:=b.ah++[⟨x,o,wo,we,(List.replicate b.own.length 0).set (b.own.idxOf o) b.bot⟩],dG:=b.dG++[x] }
inductive Yq(vs:Da V)(H:Hp)(Q:VK)(E:XK):Prop
 |mk(n ρ B b:_)(x o:Str)(wo we:Int)(_:vs=[.ref B.m,.str x,.str o,.int wo,.int we])(_:Gh ρ H)(_:aV n ρ B H b)(_:o∈b.own)(_:b.own.length<=1000)(_:b.ah.length<=1000)(_:b.dG.length<=1000)(_:∀ρ' B' H',Gh ρ' H'->aV n ρ' B' H' (z9 b x o wo we:_)->B'.m=B.m->Fr n ρ H ρ' H'->Q .cu H')
def JR:Sp:=bx (Yq)
inductive ajj(K:Fg)(vs:Da V)(H:Hp)(Q:VK)(E:XK):Prop
 |mk(l:Addr)(us:Da V)(ws:Da Row)(i:Nat)(r:Row)(_:vs=[.ref l,.str r.1])(_:az K H l us)(_:Th K H us ws)(_:(ws.map (λr:Row=>r.1)).Nodup)(_:ws.length<=1000)(_:ws[i]?=some r)(_:Q (.int (i:Int)) H)
def ZJ(K:Fg):Sp:=bx (ajj K)
structure VO(ws rs:Da Row):Prop where
 nd:(rs.map (λr:Row=>r.1)).Nodup
 row:∀r∈rs,1<=r.2/\r.2<=1000000000/\∃w∈ws,w.1=r.1/\r.2<=w.2
 lost:bJ rs<bJ ws\/rs=[]
 len:rs.length<=ws.length
inductive adK(K:Fg)(vs:Da V)(H:Hp)(Q:VK)(E:XK):Prop
 |mk(a l:Addr)(ns:Da Int)(k:Int)(us:Da V)(ws:Da Row)(_:vs=[.ref a,.int k,.ref l])(_:az K H a (ns.map V.int))(_:ns.length<=63)(_:0<=k)(_:k<=1000000)(_:az K H l us)(_:Th K H us ws)(_:(ws.map (λr:Row=>r.1)).Nodup)(_:ws.length<=1000)(_:(∀w∈ws,1<=w.2))(_:∀z zs rs H',aE H H'->H z=none->H' z=some (.lst zs)->fR H' zs rs->VO ws rs->Q (.ref z) H')
def CH(K:Fg):Sp:=bx (adK K)
section
variable {X:Cx}
noncomputable def vU(i j k:Int):Int:=if j<i then(if k<j then k else j) else(if k<i then k else i)
theorem aa3(i j k:Int):vU i j k<=i/\vU i j k<=j/\vU i j k<=k:=by unfold vU;split <;> split <;> omega
theorem aa4{i j k m:Int}(h1:m<=i)(h2:m<=j)(h3:m<=k):m<=vU i j k:=by unfold vU;split <;> split <;> omega
def VP(hc:X.calm=true):iB X (.builtin "min") (λxs H Q=>∃i j k,xs=[.int i,.int j,.int k]/\Q (.int (vU i j k)) H):=by
 intro AT s σ H xs us Q I r h;obtain⟨i,j,k,rfl,q⟩:=h;obtain⟨u,us,rfl,⟨t,rfl⟩,r2⟩:∃u us',us=u::us'/\RelV (.int i) u/\Vals [.int j,.int k] us':=by cases r with|cons a b=>exact⟨_,_,rfl,a,b⟩
 obtain⟨u2,u3,rfl,⟨t',rfl⟩,⟨t'',rfl⟩⟩:=vals2 r2;refine min_three_ints (I.ok.hd hc) λh' tk kk=>⟨_,H,I.kept kk,?_,q⟩
 unfold vU;by_cases hj:j<i
 .rw [aC hj,aC hj];by_cases hk:k<j
  .rw [aC hk,aC hk];exact⟨_,Z⟩
  .rw [aB hk,aB hk];exact⟨_,Z⟩
 .rw [aB hj,aB hj];by_cases hk:k<i
  .rw [aC hk,aC hk];exact⟨_,Z⟩
  .rw [aB hk,aB hk];exact⟨_,Z⟩
end
noncomputable def mK(given:Da Int)(kept:Int)(p:BP)(a:Int):BP:={ p with tops:=List.zipWith (λt g=>t*kept+g) p.tops given,wo:=p.wo-a }
noncomputable def iH(ps:Da BP)(as:Da Int)(i:Nat):Int:=(List.zipWith (λ(p:BP)(a:Int)=>p.tops.getD i 0*a) ps as).sum
noncomputable def gr(b:BS)(as:Da Int):Da Int:=(List.range b.own.length).map (iH b.ah as)
noncomputable def gU(b:BS)(as:Da Int)(seat:Nat)(aw:Int):Da Int:=if 0<aw then(gr b as).set seat ((gr b as).getD seat 0+aw*b.bot) else gr b as
noncomputable def dW(b:BS)(as:Da Int)(seat:Nat)(aw:Int):Da BP:=List.zipWith (mK (gU b as seat aw) (bu b-aw-as.sum)) b.ah as
noncomputable def iN(b:BS)(as:Da Int)(seat:Nat)(aw:Int):BS:={ b with bot:=b.bot*bu b,ah:=(dW b as seat aw).filter λp=>decide (0<p.wo) }
structure vV(b:BS):Prop where
 nd:(b.ah.map (λp:BP=>p.nm)).Nodup
 tl:∀p∈b.ah,p.tops.length=b.own.length
 t0:∀p∈b.ah,∀t∈p.tops,0<=t/\t<=b.bot
 b1:1<=b.bot
 bz:Jm.Sz 7000 b.bot
 w1:∀p∈b.ah,1<=p.wo
 ol:b.own.length<=100
 pl:b.ah.length<=1000
 kl:b.dG.length<=1000
structure j_(b:BS)(as:Da Int)(seat:Nat)(aw:Int):Prop where
 len:as.length=b.ah.length
 a0:∀a∈as,0<=a
 seat:seat<b.own.length
 Dr:0<=aw
 kept:0<bu b-aw-as.sum
 big:Jm.Sz 60 (bu b)
inductive af8(K:Fg)(vs:Da V)(H:Hp)(Q:VK)(E:XK):Prop
 |mk(n ρ B b:_)(l:Addr)(as:Da Int)(seat:Nat)(aw:Int)(_:vs=[.ref B.m,.ref l,.int (seat:Int),.int aw])(_:Gh ρ H)(_:aV n ρ B H b)(_:vV b)(_:az K H l (as.map V.int))(_:ρ l=none)(_:j_ b as seat aw)(_:∀ρ' B' H',Gh ρ' H'->aV n ρ' B' H' (iN b as seat aw:_)->B'.m=B.m->Fr n ρ H ρ' H'->Q .cu H')
def MZ(K:Fg):Sp:=bx (af8 K)
variable {as:Da Int}{seat:Nat}
theorem xF{aw:Int}(h:as.length=b.ah.length):(dW b as seat aw).length=b.ah.length:=by unfold dW;rw[pI,h];omega
def M1{aw:Int}{p:BP}{a:Int}(h1:b.ah[i]?=some p)(h2:as[i]?=some a):(dW b as seat aw)[i]?=some (mK (gU b as seat aw) (bu b-aw-as.sum) p a):=Rp h1 h2
theorem xG(h:∀a∈as,0<=a):∀{x:Int},x∈as->x<=as.sum:=by
 induction as with
 | nil=>intro x hx;simp at hx
 | cons a l ih=>
  intro x hx;have h0:=h a cQ;have hl:0<=l.sum:=by
   clear ih hx;have:∀(l:Da Int),(∀a∈l,0<=a)->0<=l.sum:=λl=>by
    induction l with
    | nil=>intro _;exact lM _
    | cons a l ih=>intro h;rw[c6];have:=h a cQ;have:=ih λx hx=>h x (cL _ hx);omega
   exact this l λx hx=>h x (cL _ hx)
  rw[c6];rcases c_.mp hx with e|e
  .omega
  .have:=ih (λy hy=>h y (cL _ hy)) e;omega
def lQ(b:BS)(as:Da Int):(gr b as).length=b.own.length:=by unfold gr;rw[aD,zh]
def vW(b:BS)(as:Da Int)(seat:Nat)(aw:Int):(gU b as seat aw).length=b.own.length:=by
 unfold gU;split
 .rw [jV,lQ]
 .exact lQ b as
def M3{ps:Da BP}{p:BP}{a:Int}(h1:ps[j]?=some p)(h2:as[j]?=some a):(List.zipWith (λ(p:BP)(a:Int)=>p.tops.getD i 0*a) (ps.take (j+1)) (as.take (j+1)))=List.zipWith (λ(p:BP)(a:Int)=>p.tops.getD i 0*a) (ps.take j) (as.take j)++[p.tops.getD i 0*a] :=nu _ h1 h2
theorem aa5{α:Type}{xs ys:Da α}{p:α}(hx:i<=xs.length)(h:ys[i]?=some p):(xs.take i++ys.drop i)[i]?=some p:=by
 have hl:(xs.take i).length=i:=by rw[kL];omega
 rw[Jh (by omega),hl,Co,List.getElem?_drop];exact h
theorem aa6{α:Type}{xs ys:Da α}{x:α}(hx:xs[i]?=some x)(hy:i<ys.length):(xs.take i++ys.drop i).set i x=xs.take (i+1)++ys.drop (i+1):=by
 have hi:=(dZ.mp hx).1;have hl:(xs.take i).length=i:=by rw[kL];omega
 rw[List.set_append_right _ _ (by omega),hl,Co,LC hy,LP,take_snoc hx,Sv];rfl
def VQ{b:BS}{as:Da Int}{aw:Int}(h:as.length=b.ah.length)(i:Nat):((dW b as seat aw).take i++b.ah.drop i).map (λp:BP=>p.nm)=b.ah.map (λp:BP=>p.nm):=by
 have e:(dW b as seat aw).map (λp:BP=>p.nm)=b.ah.map (λp:BP=>p.nm):=by
  unfold dW;generalize gU b as seat aw=g;generalize bu b-aw-as.sum=k;generalize b.ah=ps at *;clear b
  induction ps generalizing as with
  | nil=>rfl
  | cons p ps ih=>
   cases as with
   | nil=>simp at h
   | cons a as=>rw[ud,bP,bP,ih (by simpa using h)];rfl
 rw[bw,Cj,e,<-Cj,<-bw,List.take_append_drop]
def VR(B:BA)(x y:Int):putK (fL B x) (Sum.inr "bottom") (.int y)=fL B y:=rfl
noncomputable def kO:Da BP->Da (Addr×Addr)->Da (Addr×Addr)
 | p::ps,q::qs=>if 0<p.wo then q::kO ps qs else kO ps qs
 | _,_=>[]
theorem JS:∀{ps:Da BP}{qs:Da (Addr×Addr)},qs.length=ps.length->(kO ps qs).length=(ps.filter λp=>decide (0<p.wo)).length
 | [],[],_=>rfl
 | [],_::_,h=>by simp at h
 | _::_,[],h=>by simp at h
 | p::ps,q::qs,h=>by
  have ih:=JS (ps:=ps) (qs:=qs) (by simpa using h);unfold kO;by_cases c:0<p.wo
  .rw [aC c,gY,aC (cy c),jm,jm,ih]
  .rw [aB c,gY,aB (by simpa using c),ih]
theorem D0:∀{ps:Da BP}{qs:Da (Addr×Addr)}{i:Nat}{p:BP}{q:Addr×Addr},(ps.filter λp=>decide (0<p.wo))[i]?=some p->(kO ps qs)[i]?=some q->qs.length=ps.length->∃j:Nat,ps[j]?=some p/\qs[j]?=some q
 | [],_,_,_,_,h,_,_=>by simp at h
 | _::_,[],_,_,_,_,_,h=>by simp at h
 | x::ps,y::qs,i,p,q,h1,h2,hl=>by
  unfold kO at h2;by_cases c:0<x.wo
  .rw [aC c]at h2;rw[gY,aC (cy c)]at h1;cases i with
   | zero=>simp at h1 h2;exact⟨0,by simpa using h1,by simpa using h2⟩
   | succ i=>obtain⟨j,a,b⟩:=D0 (ps:=ps) (qs:=qs) (i:=i) (by simpa using h1) (by simpa using h2) (by simpa using hl);exact⟨j+1,by simpa using a,by simpa using b⟩
  .rw [aB c]at h2;rw[gY,aB (by simpa using c)]at h1;obtain⟨j,a,b⟩:=D0 (ps:=ps) (qs:=qs) (i:=i) h1 h2 (by simpa using hl);exact⟨j+1,by simpa using a,by simpa using b⟩
theorem FJ:∀{ps:Da BP}{qs:Da (Addr×Addr)}{j:Nat}{p:BP}{q:Addr×Addr},ps[j]?=some p->qs[j]?=some q->kO (ps.take (j+1)) (qs.take (j+1))=kO (ps.take j) (qs.take j)++(if 0<p.wo then[q] else[])
 | [],_,_,_,_,h,_=>by simp at h
 | _::_,[],_,_,_,_,h=>by simp at h
 | x::ps,y::qs,0,p,q,h1,h2=>by
  have e1:x=p:=by simpa using h1
  have e2:y=q:=by simpa using h2
  subst e1 e2;show kO (x::ps.take 0) (y::qs.take 0)=[]++_;unfold kO;split <;> rfl
 | x::ps,y::qs,j+1,p,q,h1,h2=>by have ih:=FJ (ps:=ps) (qs:=qs) (j:=j) (by simpa using h1) (by simpa using h2);show kO (x::ps.take (j+1)) (y::qs.take (j+1))=kO (x::ps.take j) (y::qs.take j)++_;unfold kO;rw[ih];split <;> rfl
noncomputable def dQ(rs:Da Row)(x:Str):Int:=((rs.find? λr=>decide (r.1=x)).map (λr:Row=>r.2)).getD 0
def JT(x:Str):dQ [] x=0:=rfl
def nU(r:Row)(rs:Da Row)(x:Str):dQ (r::rs) x=if r.1=x then r.2 else dQ rs x:=by
 unfold dQ;rw[qu];by_cases c:r.1=x
 .rw [cy c,aC c];rfl
 .rw [d7 c,aB c]
theorem vc:∀{rs:Da Row}{x:Str},x∉rs.map (λr:Row=>r.1)->dQ rs x=0
 | [],_,_=>rfl
 | r::rs,x,h=>by rw[nU,aB (λe=>h (by rw[bP,e];exact cQ))];exact vc λm=>h (by rw[bP];exact cL _ m)
theorem nV:∀{rs:Da Row}{r:Row}{x:Str},r.1∉rs.map (λr:Row=>r.1)->dQ (rs++[r]) x=if r.1=x then r.2 else dQ rs x
 | [],r,x,_=>by rw[Lm,nU]
 | y::rs,r,x,h=>by
  rw[bP]at h;have h1:r.1≠y.1:=λe=>h (by rw[e];exact cQ);rw[Lk,nU,nV (λm=>h (cL _ m)),nU];by_cases c:y.1=x
  .rw [aC c,aC c,aB (λe=>h1 (e.trans c.symm))]
  .rw [aB c,aB c]
theorem Yr(h:∀r∈rs,1<=r.2)(x:Str):0<=dQ rs x:=by
 induction rs with
 | nil=>exact lM _
 | cons r rs ih=>
  rw[nU];split
  .have:=h r cQ;omega
  .exact ih λy hy=>h y (cL _ hy)
noncomputable def di(b:BS)(rs:Da Row):Da Int:=b.ah.map λp=>dQ rs p.nm
def Br(b:BS)(rs:Da Row):(di b rs).length=b.ah.length:=by unfold di;rw[aD]
def FL(nd:(b.ah.map (λp:BP=>p.nm)).Nodup){r:Row}{p:BP}(hp:b.ah[j]?=some p)(e:p.nm=r.1)(h:r.1∉rs.map (λr:Row=>r.1)):di b (rs++[r])=(di b rs).set j r.2/\(di b rs)[j]?=some 0:=by
 have hj:=(dZ.mp hp).1;constructor
 .refine List.ext_getElem? λk=>?_;by_cases c:j=k
  .subst c;rw[uc (by rw[Br];exact hj)];unfold di;rw[bH,hp];show some (dQ (rs++[r]) p.nm)=_;rw[nV h,aC e.symm]
  .rw [y9 c];unfold di;rw[bH,bH];cases ek:b.ah[k]? with
   | none=>rfl
   | some x=>
    show some (dQ (rs++[r]) x.nm)=some (dQ rs x.nm);rw[nV h,aB];intro z;have r1:(b.ah.map (λp:BP=>p.nm))[k]?=some x.nm:=by rw[bH,ek];rfl
    have r2:(b.ah.map (λp:BP=>p.nm))[j]?=some p.nm:=by rw[bH,hp];rfl
    exact c ((Ce (by rw[aD];exact hj) nd).mp (r2.trans (by rw[e,z];exact r1.symm)))
 .unfold di;rw[bH,hp];show some (dQ rs p.nm)=_;rw[e,vc h]
theorem M5:∀{l:Da Int}{j:Nat}{x:Int},l[j]?=some 0->(l.set j x).sum=l.sum+x
 | [],_,_,h=>by simp at h
 | a::l,0,x,h=>by
  have:a=0:=by simpa using h
  rw[LP,c6,c6];omega
 | a::l,j+1,x,h=>by rw[LO,c6,c6,M5 (by simpa using h)];omega
structure tF(b:BS)(rs:Da Row):Prop where
 nd:(rs.map (λr:Row=>r.1)).Nodup
 row:∀r∈rs,1<=r.2/\∃(j:Nat)(p:BP),b.ah[j]?=some p/\p.nm=r.1/\r.2<=p.wo
theorem JU(nd:(b.ah.map (λp:BP=>p.nm)).Nodup)(h:tF b rs):∀i≤rs.length,(di b (rs.take i)).sum=bJ (rs.take i):=by
 intro i
 induction i with
 | zero=>
  intro _;rw[List.take_zero];unfold di;show(b.ah.map λp=>(0:Int)).sum=0;clear nd h;generalize b.ah=ps
  induction ps with
  | nil=>rfl
  | cons p ps ih=>rw[bP,c6,ih];rfl
 | succ i ih=>
  intro hi;have ei:=aY (show i<rs.length by omega);rw[take_snoc ei];obtain⟨_,j,p,hp,e,_⟩:=h.row _ (bK ei);have hn:(rs[i]).1∉(rs.take i).map (λr:Row=>r.1):=by rw[Cj];exact kZ h.nd (by rw[bH,ei];rfl)
  obtain⟨s1,s2⟩:=FL nd hp e hn;rw[s1,M5 s2,ih (by omega)];unfold bJ;rw[bw,Lu];simp
abbrev Q4:=Str×Str×Int×Int
noncomputable def iO(st:HS):Da Q4:=st.ah.map λp=>(p.nm,p.ow,p.wo,p.we)
noncomputable def mW(b:BS):Da Q4:=b.ah.map λp=>(p.nm,p.ow,p.wo,p.we)
noncomputable def tG(qs:Da Q4)(r:Row):Da Q4:=(qs.map λq=>if q.1=r.1 then(q.1,q.2.1,q.2.2.1-r.2,q.2.2.2) else q).filter λq=>decide (q.2.2.1≠0)
noncomputable def oN(rs:Da Row)(qs:Da Q4):Da Q4:=(qs.map λq=>(q.1,q.2.1,q.2.2.1-dQ rs q.1,q.2.2.2)).filter λq=>decide (0<q.2.2.1)
def VT(st:HS)(r:Row):iO (gR st r)=tG (iO st) r:=by
 unfold iO gR oZ tG;generalize st.ah=ps;show List.map _ (List.filter _ (List.map _ ps))=_
 induction ps with
 | nil=>rfl
 | cons p ps ih=>
  rw[bP,bP,bP];by_cases c:p.nm=r.1
  .rw [aC c,aC (show(p.nm,p.ow,p.wo,p.we).1=r.1 from c),gY,gY];by_cases d:p.wo-r.2=0
   .rw [aB (by simpa using d),aB (by simpa using d),ih]
   .rw [aC (by simpa using d),aC (by simpa using d),bP,ih]
  .rw [aB c,aB (show ¬ (p.nm,p.ow,p.wo,p.we).1=r.1 from c),gY,gY];by_cases d:p.wo=0
   .rw [aB (by simpa using d),aB (by simpa using d),ih]
   .rw [aC (by simpa using d),aC (by simpa using d),bP,ih]
def FN(st:HS)(kept whole:Int)(added:Da Int):iO (cK st kept whole added)=iO st:=by unfold iO cK;rw[xE,f_];rfl
theorem FO:∀(rs:Da Row)(st:HS),iO (rs.foldl gR st)=rs.foldl tG (iO st)
 | [],_=>rfl
 | r::rs,st=>by rw[nM,nM,FO rs,VT]
theorem FP:∀(qs:Da Q4)(r:Row)(rs:Da Row),r.1∉rs.map (λr:Row=>r.1)->(∀q∈qs,1<=q.2.2.1)->(∀q∈qs,q.1=r.1->r.2<=q.2.2.1)->oN rs (tG qs r)=oN (r::rs) qs
 | [],_,_,_,_,_=>rfl
 | q::qs,r,rs,hn,h1,h2=>by
  have ih:=FP qs r rs hn (λx hx=>h1 x (cL _ hx)) (λx hx=>h2 x (cL _ hx));have w1:=h1 q cQ;have e1:tG (q::qs) r=(if q.1=r.1 then(if q.2.2.1-r.2=0 then[] else[(q.1,q.2.1,q.2.2.1-r.2,q.2.2.2)]) else[q])++tG qs r:=by
   unfold tG;rw[bP,gY];by_cases c:q.1=r.1
   .rw [aC c,aC c];by_cases d:q.2.2.1-r.2=0
    .rw [aC d,aB (by simpa using d)];rfl
    .rw [aB d,aC (by simpa using d)];rfl
   .rw [aB c,aB c,aC (cy (show q.2.2.1≠0 by omega))];rfl
  have e2:∀(us:Da Row)(x:Q4)(l:Da Q4),oN us (x::l)=(if 0<x.2.2.1-dQ us x.1 then[(x.1,x.2.1,x.2.2.1-dQ us x.1,x.2.2.2)] else[])++oN us l:=λus x l=>by
   unfold oN;rw[bP,gY];by_cases c:0<x.2.2.1-dQ us x.1
   .rw [aC c,aC (cy c)];rfl
   .rw [aB c,aB (by simpa using c)];rfl
  rw[e1,e2 (r::rs),nU];by_cases c:q.1=r.1
  .have am:dQ rs q.1=0:=by rw[c];exact vc hn
   have le:=h2 q cQ c;rw[aC c,aC c.symm];by_cases d:q.2.2.1-r.2=0
   .rw [aC d,aB (by omega),<-ih];rfl
   .rw [aB d,aC (by omega),<-ih,Lk,Lm,e2 rs];show(if 0<q.2.2.1-r.2-dQ rs q.1 then[(q.1,q.2.1,q.2.2.1-r.2-dQ rs q.1,q.2.2.2)] else[])++_=_;rw[am,EU,aC (by omega)]
  .rw [aB c,show(if r.1=q.1 then r.2 else dQ rs q.1)=dQ rs q.1 from aB (λz=>c z.symm),<-ih,Lk,Lm,e2 rs]
def JV{qs:Da Q4}{r:Row}{x:Q4}(h:x∈tG qs r):x.2.2.1≠0/\∃q∈qs,x=if q.1=r.1 then(q.1,q.2.1,q.2.2.1-r.2,q.2.2.2) else q:=by obtain⟨h1,h2⟩:=lJ.mp h;obtain⟨q,hq,e⟩:=bD.mp h1;exact⟨dH h2,q,hq,e.symm⟩
theorem JW:∀(rs:Da Row)(qs:Da Q4),(rs.map (λr:Row=>r.1)).Nodup->(∀q∈qs,1<=q.2.2.1)->(∀r∈rs,∀q∈qs,q.1=r.1->r.2<=q.2.2.1)->rs.foldl tG qs=oN rs qs
 | [],qs,_,h1,_=>by
  show qs=oN [] qs;unfold oN
  induction qs with
  | nil=>rfl
  | cons q qs ih=>have:=h1 q cQ;rw[bP,gY,aC (cy (show 0<q.2.2.1-dQ [] q.1 by rw[JT];omega)),<-ih (λx hx=>h1 x (cL _ hx)) (λr hr=>absurd hr (by simp)),JT,EU]
 | r::rs,qs,nd,h1,h2=>by
  obtain⟨n1,n2⟩:=gO.mp (show(r.1::rs.map (λr:Row=>r.1)).Nodup from nd);rw[nM,JW rs (tG qs r) n2 ?_ ?_]
  .exact FP qs r rs n1 h1 (h2 r cQ)
  .intro x hx;obtain⟨a,q,hq,e⟩:=JV hx;have:=h1 q hq;by_cases c:q.1=r.1
   .rw [aC c]at e;have:=h2 r cQ q hq c;rw[e]at a ⊢;have a:q.2.2.1-r.2≠0:=a;show 1<=q.2.2.1-r.2;omega
   .rw [aB c]at e;rw[e];exact this
  .intro y hy x hx ex;obtain⟨_,q,hq,e⟩:=JV hx;by_cases c:q.1=r.1
   .rw [aC c]at e;rw[e]at ex;exact absurd (bD.mpr ⟨y,hy,ex.symm.trans c⟩) n1
   .rw [aB c]at e;rw[e]at ex ⊢;exact h2 y (cL _ hy) q hq ex
def VU(b:BS)(rs:Da Row)(seat:Nat)(aw:Int):mW (iN b (di b rs) seat aw)=oN rs (mW b):=by
 unfold mW iN dW oN;show List.map _ (List.filter _ (List.zipWith (mK (gU b (di b rs) seat aw) (bu b-aw-(di b rs).sum)) b.ah (di b rs)))=_;generalize gU b (di b rs) seat aw=g;generalize bu b-aw-(di b rs).sum=k;unfold di;generalize b.ah=ps
 induction ps with
 | nil=>rfl
 | cons p ps ih=>
  rw[bP,ud,bP,bP,gY,gY];by_cases c:0<p.wo-dQ rs p.nm
  .rw [aC (cy (show 0<(mK g k p (dQ rs p.nm)).wo from c)),aC (cy (show 0<p.wo-dQ rs p.nm from c)),bP,ih];rfl
  .rw [aB (by simpa using(show ¬ 0<(mK g k p (dQ rs p.nm)).wo from c)),aB (by simpa using c),ih]
structure jG(st:HS)(b:BS):Prop where
 own:st.own=b.own
 qd:iO st=mW b
def Ys(st:HS)(rs:Da Row):(j9 st rs).own=st.own:=by
 unfold j9;have:∀(rs:Da Row)(s:HS),(rs.foldl gR s).own=s.own:=λrs=>by
  induction rs with
  | nil=>intro s;rfl
  | cons r rs ih=>intro s;rw[nM,ih];rfl
 rw[this];unfold cK;rw[JL]
def VW(r:jG st b)(wf:Wf st)(c:k_ st rs):jG (j9 st rs) (iN b (di b rs) 0 0):=by
 refine⟨by rw[Ys,r.own];rfl,?_⟩;rw[VU,<-r.qd];unfold j9;rw[FO,FN];refine JW rs (iO st) c.nd (λq hq=>?_) (λx hx q hq e=>?_)
 .obtain ⟨p,hp,rfl⟩:=bD.mp hq;exact(wf.uX p hp).1
 .obtain ⟨p,hp,rfl⟩:=bD.mp hq;obtain⟨_,_,p',Bs,e',le⟩:=c.row x hx;have:p=p':=Rq wf hp Bs (e.trans e'.symm);rw[this];exact le
def VX(r:jG st b)(x o:Str)(wo we:Int):jG (zV st x o wo we) (z9 b x o wo we):=by refine⟨r.own,?_⟩;unfold iO mW zV CC z9;show List.map _ (st.ah++[_])=List.map _ (b.ah++[_]);rw[bw,bw,show st.ah.map (λp=>(p.nm,p.ow,p.wo,p.we))=b.ah.map (λp=>(p.nm,p.ow,p.wo,p.we))from r.qd];rfl
def jG.whole(r:jG st b):aR st=bu b:=by unfold aR bu;have:=gP (List.map λq:Q4=>q.2.2.1) r.qd;unfold iO mW at this;rw[f_,f_]at this;exact gP List.sum this
def jG.len(r:jG st b):st.ah.length=b.ah.length:=by have:=gP List.length r.qd;unfold iO mW at this;rw[aD,aD]at this;exact this
theorem jG.at(r:jG st b){q:BP}(h:b.ah[i]?=some q):∃p,st.ah[i]?=some p/\p.nm=q.nm/\p.ow=q.ow/\p.wo=q.wo/\p.we=q.we:=by have e:=gP (λl:Da Q4=>l[i]?) r.qd;unfold iO mW at e;have e:(st.ah.map λp=>(p.nm,p.ow,p.wo,p.we))[i]?=(b.ah.map λp=>(p.nm,p.ow,p.wo,p.we))[i]?:=e;rw[bH,bH,h]at e;obtain⟨p,ep,e2⟩:=mH.mp e;have e2:(p.nm,p.ow,p.wo,p.we)=(q.nm,q.ow,q.wo,q.we):=e2;simp only[Prod.mk.injEq]at e2;exact⟨p,ep,e2⟩
def jG.at'(r:jG st b)(h:st.ah[i]?=some p):∃q,b.ah[i]?=some q/\p.nm=q.nm/\p.ow=q.ow/\p.wo=q.wo/\p.we=q.we:=by
 have hi:i<b.ah.length:=by rw[<-r.len];exact(dZ.mp h).1
 have eq:=aY hi;obtain⟨p',e',z⟩:=r.at eq;rw[h]at e';cases e';exact⟨_,eq,z⟩
def jG.rows(r:jG st b)(h:aV n ρ B H b):Bh K H (B.qs.map λq=>V.ref q.1) st.ah:=by
 refine⟨by rw[aD,h.ql,r.len],λi p e=>?_⟩;obtain⟨q,eq,e1,e2,e3,e4⟩:=r.at' e;obtain⟨a,ea,k1,_⟩:=h.find eq;refine⟨a.1,_,by rw[bH,ea];rfl,.inl (az.of k1),?_,?_,?_,?_⟩
 .rw [e1];rfl
 .rw [e2];rfl
 .rw [e3];rfl
 .rw [e4];rfl
theorem JX{B:Int}(hB:0<=B):∀{ps:Da BP}{as:Da Int},(∀p∈ps,∀t∈p.tops,0<=t/\t<=B)->(∀a∈as,0<=a)->∀i,0<=iH ps as i/\iH ps as i<=B*as.sum
 | [],as,_,ha,i=>by
  have:0<=as.sum:=by
   cases as with
   | nil=>exact lM _
   | cons a l=>exact Int.le_trans (ha a cQ) (xG ha cQ)
  exact⟨by show(0:Int)<=0;omega,mR hB this⟩
 | _::_,[],_,_,i=>by show 0<=(0:Int)/\(0:Int)<=B*0;omega
 | p::ps,a::as,h,ha,i=>by
  have ih:=JX hB (ps:=ps) (as:=as) (λx hx=>h x (cL _ hx)) (λx hx=>ha x (cL _ hx)) i;have a0:=ha a cQ;have ht:0<=p.tops.getD i 0/\p.tops.getD i 0<=B:=by
   rw[gT];cases e:p.tops[i]? with
   | none=>exact⟨lM _,hB⟩
   | some t=>exact h p cQ t (bK e)
  have e:iH (p::ps) (a::as) i=p.tops.getD i 0*a+iH ps as i:=by unfold iH;rw[ud,c6]
  have k1:0<=p.tops.getD i 0*a:=mR ht.1 a0;have k2:p.tops.getD i 0*a<=B*a:=Ut ht.2 a0;rw[e,c6,qx];omega
theorem VY(wf:vV b){aw:Int}(ok:j_ b as seat aw):∀g∈gU b as seat aw,0<=g/\g<=b.bot*(as.sum+aw):=by
 have b1:=wf.b1;have cb:=JX (B:=b.bot) (by omega) wf.t0 ok.a0;have Dr:=ok.Dr;have m0:0<=b.bot*aw:=mR (by omega) Dr;have hg:∀g∈gr b as,0<=g/\g<=b.bot*as.sum:=λg h=>by obtain⟨i,_,rfl⟩:=bD.mp h;exact cb i
 intro g h;rw[qx];unfold gU at h;split at h
 .rcases R7 h with z|z
  .have:=hg g z;omega
  .have hs:seat<(gr b as).length:=by rw[lQ];exact ok.seat
   have e:(gr b as).getD seat 0=(gr b as)[seat] :=by rw[gT,aY hs];rfl
   have:=hg _ (uZ hs);rw[z,e,qw aw];omega
 .have:=hg g h;omega
theorem Yt(wf:vV b){aw:Int}(ok:j_ b as seat aw)(hz:Jm.Sz 7000 (b.bot*bu b)):vV (iN b as seat aw):=by
 have b1:=wf.b1;have gb:=VY wf ok;have kp:=ok.kept;have as0:0<=as.sum:=by
  cases has:as with
  | nil=>exact lM _
  | cons a l=>exact Int.le_trans (ok.a0 a (by rw[has];exact cQ)) (by rw[<-has];exact xG ok.a0 (by rw[has];exact cQ))
 have Dr:=ok.Dr;have D3:∀p∈(dW b as seat aw).filter (λp=>decide (0<p.wo)),0<p.wo/\∃p0∈b.ah,∃a,p=mK (gU b as seat aw) (bu b-aw-as.sum) p0 a:=λp hp=>by obtain⟨h1,h2⟩:=lJ.mp hp;obtain⟨i,x,a,ex,_,e⟩:=iS (show p∈List.zipWith (mK (gU b as seat aw) (bu b-aw-as.sum)) b.ah as from h1);exact⟨dH h2,x,bK ex,a,e⟩
 have nmE:(dW b as seat aw).map (λp:BP=>p.nm)=b.ah.map (λp:BP=>p.nm):=by have:=VQ (seat:=seat) (aw:=aw) ok.len b.ah.length;rw[EL,u0,show(dW b as seat aw).take b.ah.length=dW b as seat aw from by rw[<-xF ok.len];exact bV]at this;exact this
 refine⟨?_,λp hp=>?_,λp hp t ht=>?_,?_,hz,λp hp=>?_,wf.ol,?_,wf.kl⟩
 .have:(((dW b as seat aw).filter λp=>decide (0<p.wo)).map (λp:BP=>p.nm)).Sublist ((dW b as seat aw).map (λp:BP=>p.nm)):=Sj.map _;rw[nmE]at this;exact wf.nd.sublist this
 .obtain ⟨_,p0,h0,a,rfl⟩:=D3 p hp;show(List.zipWith _ p0.tops (gU b as seat aw)).length=b.own.length;rw[pI,wf.tl p0 h0,vW];omega
 .obtain ⟨_,p0,h0,a,rfl⟩:=D3 p hp;obtain⟨i,x,g,ex,eg,rfl⟩:=iS (show t∈List.zipWith (λt g=>t*(bu b-aw-as.sum)+g) p0.tops (gU b as seat aw)from ht);have hx:=wf.t0 p0 h0 x (bK ex);have hg:=gb g (bK eg);have k1:0<=x*(bu b-aw-as.sum):=mR hx.1 (by omega);have k2:x*(bu b-aw-as.sum)<=b.bot*(bu b-aw-as.sum):=Ut hx.2 (by omega);have k3:b.bot*(bu b-aw-as.sum)+b.bot*(as.sum+aw)=b.bot*bu b:=by rw[<-qx];congr 1;omega
  exact⟨by omega,by show _<=b.bot*bu b;omega⟩
 .show 1<=b.bot*bu b;have:b.bot*1<=b.bot*bu b:=Jg (by omega) (by omega);omega
 .exact (D3 p hp).1
 .have:=Sd (λp:BP=>decide (0<p.wo)) (dW b as seat aw);rw[xF ok.len]at this;exact fZ this wf.pl
theorem Rt(wf:vV b)(h:tF b rs)(hl:bJ rs<bu b)(ho:0<b.own.length)(hz:Jm.Sz 60 (bu b)):j_ b (di b rs) 0 0:=by have hs:=JU wf.nd h rs.length (aN _);rw[bV]at hs;refine⟨Br b rs,λa ha=>?_,ho,lM _,by rw[hs];omega,hz⟩;obtain⟨p,_,rfl⟩:=bD.mp ha;exact Yr (λr hr=>(h.row r hr).1) p.nm
inductive adM(K:Fg)(vs:Da V)(H:Hp)(Q:VK)(E:XK):Prop
 |mk(n ρ B b:_)(l:Addr)(us:Da V)(rs:Da Row)(_:vs=[.ref B.m,.ref l])(_:Gh ρ H)(_:aV n ρ B H b)(_:vV b)(_:az K H l us)(_:fR H us rs)(_:ρ l=none)(_:tF b rs)(_:rs.length<=1000)(_:j_ b (di b rs:_) 0 0)(_:∀ρ' B' H',Gh ρ' H'->aV n ρ' B' H' (iN b (di b rs:_) 0 0)->B'.m=B.m->Fr n ρ H ρ' H'->Q .cu H')
def H_(K:Fg):Sp:=bx (adM K)
theorem aa7(wf:vV b){o:Str}(h1:x∉b.ah.map (λp:BP=>p.nm))(h2:1<=wo)(h3:b.ah.length<1000)(h4:b.dG.length<1000):vV (z9 b x o wo we):=by
 have P:∀{M:BP->Prop},(∀p∈b.ah,M p)->M ⟨x,o,wo,we,(List.replicate b.own.length 0).set (b.own.idxOf o) b.bot⟩->∀p∈(z9 b x o wo we).ah,M p:=λa c p hp=>by
  rcases fk.mp (show p∈b.ah++[_]from hp)with z|z
  .exact a p z
  .rw [eE.mp z];exact c
 have b1:=wf.b1;refine⟨?_,P wf.tl (by show((List.replicate b.own.length (0:Int)).set _ _).length=_;rw[jV,kD];rfl),P wf.t0 (λt ht=>?_),wf.b1,wf.bz,P wf.w1 h2,wf.ol,?_,?_⟩
 .show ((b.ah++[_]).map (λp:BP=>p.nm)).Nodup;rw[bw];exact qc wf.nd h1
 .rcases zX ht with z|z
  .rw [z];show 0<=0/\0<=b.bot;omega
  .rw [z];show 0<=b.bot/\b.bot<=b.bot;omega
 .show (b.ah++[_]).length<=1000;rw[c8];show b.ah.length+1<=1000;omega
 .show (b.dG++[_]).length<=1000;rw[c8];show b.dG.length+1<=1000;omega
theorem xH:∀(rs:Da Row)(s:HS),rs.foldl gR s={ s with ah:=(rs.foldl gR s).ah }
 | [],_=>rfl
 | r::rs,s=>by rw[nM,xH rs (gR s r)];rfl
def D4(st:HS)(b:BS):Prop:=∀p∈st.ah,∀q∈b.ah,p.nm=q.nm->∀j,q.tops.getD j 0*st.prod=(bR st p).getD j 0*b.bot
theorem rZ{f:Int->Int->Int}(hf:f 0 0=0){xs ys:Da Int}(h:xs.length=ys.length)(j:Nat):(List.zipWith f xs ys).getD j 0=f (xs.getD j 0) (ys.getD j 0):=by
 rw[gT,gT,gT,Sf];by_cases c:j<xs.length
 .rw [aY c,aY (by omega)];rfl
 .rw [rR (by omega),rR (by omega)];exact hf.symm
noncomputable def vX(rs:Da Row)(f:Str->Int):Int:=(rs.map λr=>r.2*f r.1).sum
theorem M7{st:HS}:∀(rs:Da Row)(BM:Da Int),(∀r∈rs,(bR st (dN st r.1)).length=BM.length)->∀j,(z7 st BM rs).getD j 0=BM.getD j 0+vX rs λx=>(bR st (dN st x)).getD j 0
 | [],BM,_,j=>by show BM.getD j 0=_+0;omega
 | r::rs,BM,h,j=>by
  have hr:=h r cQ;have e:(List.zipWith (λx t=>x+r.2*t) BM (bR st (dN st r.1))).length=BM.length:=by rw[pI,hr];omega
  show(z7 st (List.zipWith (λx t=>x+r.2*t) BM (bR st (dN st r.1))) rs).getD j 0=_;rw[M7 rs _ (λx hx=>by rw[e];exact h x (cL _ hx)),rZ (f:=λx t=>x+r.2*t) (by show(0:Int)+r.2*0=0;omega) hr.symm];unfold vX;rw[bP,c6];show BM.getD j 0+r.2*(bR st (dN st r.1)).getD j 0+(rs.map λr=>r.2*(bR st (dN st r.1)).getD j 0).sum=BM.getD j 0+(r.2*(bR st (dN st r.1)).getD j 0+(rs.map λr=>r.2*(bR st (dN st r.1)).getD j 0).sum)
  omega
theorem Ti(nd:(b.ah.map (λp:BP=>p.nm)).Nodup)(h:tF b rs)(f:Str->Int):∀i≤rs.length,(b.ah.map λp=>f p.nm*dQ (rs.take i) p.nm).sum=vX (rs.take i) f:=by
 intro i
 induction i with
 | zero=>
  intro _;rw[List.take_zero];show(b.ah.map λp=>f p.nm*0).sum=0;clear nd h;generalize b.ah=ps
  induction ps with
  | nil=>rfl
  | cons p ps ih=>rw[bP,c6,ih];omega
 | succ i ih=>
  intro hi;have ei:=aY (show i<rs.length by omega);obtain⟨_,j,p,hp,e,_⟩:=h.row _ (bK ei);have hn:(rs[i]).1∉(rs.take i).map (λr:Row=>r.1):=by rw[Cj];exact kZ h.nd (by rw[bH,ei];rfl)
  rw[take_snoc ei];generalize rs[i]=r at *;replace ih:=ih (by omega);generalize rs.take i=us at *;have:vX (us++[r]) f=vX us f+r.2*f r.1:=by unfold vX;rw[bw,Lu];simp
  rw[this,<-ih];clear this ih hi ei;have hm:=bK hp;clear hp;generalize b.ah=ps at *;clear h
  induction ps with
  | nil=>simp at hm
  | cons x ps ihp=>
   obtain⟨n1,n2⟩:=gO.mp (show(x.nm::ps.map (λp:BP=>p.nm)).Nodup from nd);rw[bP,bP,c6,c6];rcases c_.mp hm with z|z
   .subst z;have Cl:(ps.map λp=>f p.nm*dQ (us++[r]) p.nm)=ps.map λp=>f p.nm*dQ us p.nm:=LM λy hy=>by rw[nV hn,aB (λz=>n1 (bD.mpr ⟨y,hy,z.symm.trans e.symm⟩))]
    rw[Cl,nV hn,aC e.symm,e,vc hn,Int.mul_zero,qw r.2];omega
   .have ne:x.nm≠r.1:=λz'=>n1 (bD.mpr ⟨p,z,e.trans z'.symm⟩);rw[ihp n2 z,nV hn,aB (λz=>ne z.symm)];omega
theorem M_:∀(rs:Da Row){s:HS}{p':Pt},p'∈(rs.foldl gR s).ah->∃p∈s.ah,p'.nm=p.nm/\p'.row=p.row/\p'.sc=p.sc
 | [],_,p',h=>⟨p',h,Z,Z,Z⟩
 | r::rs,s,p',h=>by obtain⟨p,hp,e1,e2,e3⟩:=M_ rs (s:=gR s r) h;obtain⟨_,q,hq,e⟩:=DY hp;refine⟨q,hq,?_⟩;rw[e1,e2,e3,e];split <;> exact⟨Z,Z,Z⟩
def aa8{ps:Da BP}(j:Nat):iH ps (ps.map λp=>dQ rs p.nm) j=(ps.map λp=>p.tops.getD j 0*dQ rs p.nm).sum:=by
 unfold iH
 induction ps with
 | nil=>rfl
 | cons p ps ih=>rw[bP,ud,c6,bP,c6,ih]
theorem JY(k:Int){α:Type}(l:Da α)(f g:α->Int)(h:∀x∈l,f x*k=g x):(l.map f).sum*k=(l.map g).sum:=by
 induction l with
 | nil=>show(0:Int)*k=0;omega
 | cons x l ih=>rw[bP,bP,c6,c6,Cp,ih λy hy=>h y (cL _ hy),h x cQ]
theorem JZ{st st':HS}{kept whole:Int}{added:Da Int}(wf:Wf st)(bl:rY st kept whole lost added)(ec:st'.bU=(cK st kept whole added).bU)(ep:st'.prod=(cK st kept whole added).prod){p':Pt}(hp:p∈st.ah)(e2:p'.row=p.row)(e3:p'.sc=p.sc*kept / cZ st kept whole added){t0 gB B:Int}{j:Nat}(tj:t0*st.prod=(bR st p).getD j 0*B)(eB:gB*st.prod=added.getD j 0*B):(t0*kept+gB)*st'.prod=(bR st' p').getD j 0*(B*whole):=by
 obtain⟨hd,hdw,hds,hdc⟩:=bl.dvds
 have ajk:st'.bU=(gF st kept added).map (· / cZ st kept whole added):=by rw[ec];unfold cK;rw[VH]
 have s1:1<=whole / cZ st kept whole added:=by
  have w1:0<whole:=by have:=bl.l;have:=bl.w;have:=bl.k;omega
  have:=Int.le_of_dvd w1 hdw;exact Int.le_ediv_of_mul_le hd (by omega)
 have ZK:st'.prod=st.prod*(whole / cZ st kept whole added):=by rw[ep];unfold cK;rw[FH s1]
 have hds:=hds p hp
 have hrl:=wf.rows p hp
 have hcl:=wf.jg
 have gl:=bl.len
 have ewd:cZ st kept whole added*(whole / cZ st kept whole added)=whole:=Int.mul_ediv_cancel' hdw
 have a5:cZ st kept whole added*p'.sc=p.sc*kept:=by rw[e3];exact Int.mul_ediv_cancel' hds
 rw[ZK]
 clear ec ep ZK e3 bl hdw hds s1
 generalize cZ st kept whole added=d at *
 have etop:d*(bR st' p').getD j 0=(bR st p).getD j 0*kept+added.getD j 0:=by
  have a1:(bR st' p').getD j 0=p'.sc*p.row.getD j 0+((gF st kept added).map (· / d)).getD j 0:=by unfold bR;rw[ajk,e2,rZ (f:=λr c=>p'.sc*r+c) (by show p'.sc*0+0=0;omega)];rw[aD];unfold gF;rw[pI,gl,hrl,hcl];omega
  have a2:(bR st p).getD j 0=p.sc*p.row.getD j 0+st.bU.getD j 0:=by unfold bR;exact rZ (f:=λr c=>p.sc*r+c) (by show p.sc*0+0=0;omega) (by rw[hrl,hcl]) j
  have a3:(gF st kept added).getD j 0=st.bU.getD j 0*kept+added.getD j 0:=by unfold gF;exact rZ (f:=λt m=>t*kept+m) (by show(0:Int)*_+0=0;omega) gl.symm j
  have a4:d*((gF st kept added).map (· / d)).getD j 0=(gF st kept added).getD j 0:=by
   rw[gT,gT,bH];cases ec:(gF st kept added)[j]? with
   | none=>show _*0=(0:Int);omega
   | some x=>exact Int.mul_ediv_cancel' (hdc x (bK ec))
  rw[a1,qx,<-jK,a5,a4,a3,a2]
  grind
 generalize whole / d=VZ at *
 generalize (bR st' p').getD j 0=T' at *
 generalize (bR st p).getD j 0=T at *
 generalize added.getD j 0=gS at *
 refine Int.eq_of_mul_eq_mul_left (a:=d) (by omega) ?_
 have l1:d*((t0*kept+gB)*(st.prod*VZ))=(t0*st.prod*kept+gB*st.prod)*(d*VZ):=by grind
 have l2:d*(T'*(B*whole))=(d*T')*(B*whole):=by grind
 rw[l1,l2,ewd,tj,eB,etop]
 grind
theorem V0(t:D4 st b)(rl:jG st b)(wf:Wf st)(wb:vV b)(c:k_ st rs)(rb:tF b rs)(bo:j_ b (di b rs) 0 0):D4 (j9 st rs) (iN b (di b rs) 0 0):=by
 intro p' Bs q' hq' en j;have bl:=c.blend wf;have ew:=rl.whole;have AD:∀r∈rs,∃p∈st.ah,p.nm=r.1:=λr hr=>by obtain⟨p,hp,e,_⟩:=(c.row r hr).2.2;exact⟨p,hp,e⟩
 have eG:=JO wf AD;have gl:(gI st rs).length=st.bU.length:=bl.len;obtain⟨p1,hp1,e1,e2,e3⟩:=M_ rs (s:=cK st (aR st-bJ rs) (aR st) (gI st rs)) Bs;have eK:=xH rs (cK st (aR st-bJ rs) (aR st) (gI st rs));have ajl:p1∈st.ah.map (λp:Pt=>{ p with sc:=p.sc*(aR st-bJ rs) / cZ st (aR st-bJ rs) (aR st) (gI st rs) }):=by have h:=hp1;unfold cK at h;rw[xE]at h;exact h
 obtain⟨p,hp,rfl⟩:=bD.mp ajl;have e1:p'.nm=p.nm:=e1;have e2:p'.row=p.row:=e2;have e3:p'.sc=p.sc*(aR st-bJ rs) / cZ st (aR st-bJ rs) (aR st) (gI st rs):=e3;have hcl:=wf.jg;obtain⟨h1,_⟩:=lJ.mp (show q'∈(dW b (di b rs) 0 0).filter _ from hq');obtain⟨k,q,a,eq,_,Bt⟩:=iS (show q'∈List.zipWith (mK (gU b (di b rs) 0 0) (bu b-0-(di b rs).sum)) b.ah (di b rs)from h1);have hq:=bK eq;have enq:p.nm=q.nm:=by rw[<-e1,en,Bt];rfl
 have tj:=t p hp q hq enq j;have hs:=JU wb.nd rb rs.length (aN _);rw[bV]at hs;have eqt:q'.tops.getD j 0=q.tops.getD j 0*(bu b-bJ rs)+(gr b (di b rs)).getD j 0:=by rw[Bt];show(List.zipWith _ q.tops (gU b (di b rs) 0 0)).getD j 0=_;rw[rZ (f:=λt g=>t*(bu b-0-(di b rs).sum)+g) (by show(0:Int)*_+0=0;omega) (by rw[wb.tl q hq,vW]),hs,EU];rfl
 have eGj:(gI st rs).getD j 0=vX rs λx=>(bR st (dN st x)).getD j 0:=by
  rw[eG,M7 rs _ (λr hr=>by obtain⟨x,hx,e⟩:=AD r hr;rw[jh wf hx e,kD,z8 wf hx])]
  have:(List.replicate st.bU.length (0:Int)).getD j 0=0:=by rw[gT,Sa];split <;> rfl
  omega
 have eBj:(gr b (di b rs)).getD j 0*st.prod=(gI st rs).getD j 0*b.bot:=by
  have pr:=Ti wb.nd rb (λx=>(bR st (dN st x)).getD j 0) rs.length (aN _);rw[bV]at pr;rw[eGj,<-pr];by_cases cj:j<b.own.length
  .have e:(gr b (di b rs)).getD j 0=(b.ah.map λp=>p.tops.getD j 0*dQ rs p.nm).sum:=by unfold gr;rw[gT,bH,List.getElem?_range cj];exact aa8 j
   rw[e,JY st.prod b.ah (λp=>p.tops.getD j 0*dQ rs p.nm) (λp=>((bR st (dN st p.nm)).getD j 0*dQ rs p.nm)*b.bot) (λx hx=>?_)]
   .exact (JY b.bot b.ah (λp=>(bR st (dN st p.nm)).getD j 0*dQ rs p.nm) _ λx _=>rfl).symm
   .obtain ⟨i,hi,ei⟩:=uf hx;obtain⟨y,hy,ey,_⟩:=rl.at (i:=i) (q:=x) (by rw[aY hi,ei])
    have hy:=bK hy;have:=t y hy x hx ey j;rw[jh wf hy ey,Int.mul_right_comm,this,Int.mul_right_comm]
  .have z1:(gr b (di b rs)).getD j 0=0:=by rw[gT,rR (by rw[lQ];omega)];rfl
   have z2:(gI st rs).getD j 0=0:=by rw[gT,rR (by rw[gl,hcl,rl.own];omega)];rfl
   rw[z1,pr,<-eGj,z2];omega
 rw[eqt,<-ew];show _=(bR (j9 st rs) p').getD j 0*(b.bot*bu b);rw[<-ew];exact JZ wf bl (by unfold j9;rw[eK]) (by unfold j9;rw[eK]) hp e2 e3 tj eBj
theorem V1(t:D4 st b)(rl:jG st b)(wf:Wf st)(wb:vV b){o:Str}(h1:x∉b.ah.map (λp:BP=>p.nm)):D4 (zV st x o wo we) (z9 b x o wo we):=by
 intro p hp q hq en j;have nmE:∀y∈st.ah,y.nm∈b.ah.map (λp:BP=>p.nm):=λy hy=>by obtain⟨i,hi,ei⟩:=uf hy;obtain⟨z,hz,ez,_⟩:=rl.at' (i:=i) (p:=y) (by rw[aY hi,ei]);rw[ez];exact bD.mpr ⟨z,bK hz,Z⟩
 show q.tops.getD j 0*st.prod=(bR st p).getD j 0*b.bot;rcases fk.mp (show p∈st.ah++[_]from hp)with zp|zp
 .rcases fk.mp (show q∈b.ah++[_]from hq)with zq|zq
  .exact t p zp q zq en j
  .rw [eE.mp zq]at en;have en:p.nm=x:=en;exact absurd (by rw[<-en];exact nmE p zp) h1
 .rcases fk.mp (show q∈b.ah++[_]from hq)with zq|zq
  .rw [eE.mp zp]at en;have en:x=q.nm:=en;exact absurd (by rw[en];exact bD.mpr ⟨q,zq,Z⟩) h1
  .rw [eE.mp zp,eE.mp zq];have e1:bR st ⟨x,o,wo,we,1,Bg st ((List.replicate st.own.length 0).set (st.own.idxOf o) st.prod)⟩=(List.replicate st.own.length 0).set (st.own.idxOf o) st.prod:=by show List.zipWith (λr c=>1*r+c) (List.zipWith (λt c=>t-c) ((List.replicate st.own.length 0).set (st.own.idxOf o) st.prod) st.bU) st.bU=_;rw[DV,wf.jg];exact Ho (by rw[jV,kD];exact aN _)
   rw[e1,rl.own];show((List.replicate b.own.length 0).set (b.own.idxOf o) b.bot).getD j 0*st.prod=((List.replicate b.own.length 0).set (b.own.idxOf o) st.prod).getD j 0*b.bot;have key:∀v:Int,((List.replicate b.own.length 0).set (b.own.idxOf o) v).getD j 0=if b.own.idxOf o=j/\j<b.own.length then v else 0:=λv=>by
    rw[gT,List.getElem?_set];by_cases c:b.own.idxOf o=j
    .rw [aC c];by_cases d:b.own.idxOf o<(List.replicate b.own.length (0:Int)).length
     .rw [aC d,aC ⟨c,by rw[kD]at d;omega⟩];rfl
     .rw [aB d,aB (λz=>d (by rw[kD];omega))];rfl
    .rw [aB c,aB (λz=>c z.1),Sa];split <;> rfl
   rw[key,key];split
   .exact qw _ _
   .omega
theorem FQ{st:HS}{b:BS}(t:D4 st b)(rl:jG st b)(wf:Wf st)(wb:vV b){p:Pt}{q:BP}(hp:p∈st.ah)(hq:q∈b.ah)(e:p.nm=q.nm):oM st p=dD b.own q.tops b.bot:=by
 have p1:=wf.iZ;have b1:=wb.b1;have l1:(bR st p).length=b.own.length:=by rw[z8 wf hp,wf.jg,rl.own]
 have l2:q.tops.length=b.own.length:=wb.tl q hq;have tj:=t p hp q hq e;unfold oM dD;rw[rl.own];generalize bR st p=xs at *;generalize q.tops=ys at *;generalize b.own=own at *;have step:∀(own:Da Str)(xs ys:Da Int),xs.length=own.length->ys.length=own.length->(∀j,ys.getD j 0*st.prod=xs.getD j 0*b.bot)->(List.zip own xs).filterMap (λx=>if 0<x.2 then some (x.1,Jm.fr x.2 st.prod) else none)=(List.zip own ys).filterMap λx=>if 0<x.2 then some (x.1,Jm.fr x.2 b.bot) else none:=by
  intro own
  induction own with
  | nil=>intro xs ys _ _ _;simp
  | cons o own ih=>
   intro xs ys h1 h2 h3;cases xs with
   | nil=>simp at h1
   | cons x xs=>
    cases ys with
    | nil=>simp at h2
    | cons y ys=>
     have h0:y*st.prod=x*b.bot:=by simpa using h3 0
     have ih:=ih xs ys (by simpa using h1) (by simpa using h2) (λj=>by simpa using h3 (j+1));rw[List.zip_cons_cons,List.zip_cons_cons,AL,AL,ih];by_cases c:0<x
     .have c2:0<y:=by
       rcases ET 0 y with z|z
       .exact z
       .have k1:y*st.prod<=0:=Int.mul_nonpos_of_nonpos_of_nonneg z (by omega);have k2:0<x*b.bot:=Int.mul_pos c (by omega);omega
      simp only[aC c,aC c2];rw[Jm.Zu (t:=x) (b:=st.prod) (t':=y) (b':=b.bot) (by omega) (by omega) h0.symm]
     .have c2:¬ 0<y:=λz=>by have k1:0<y*st.prod:=Int.mul_pos z (by omega);have k2:x*b.bot<=0:=Int.mul_nonpos_of_nonpos_of_nonneg (by omega) (by omega);omega
      simp only[aB c,aB c2]
 exact step own xs ys l1 l2 tj
theorem Ds{α:Type}(f g:α->Int):∀l:Da α,(l.map λx=>f x+g x).sum=(l.map f).sum+(l.map g).sum
 | []=>rfl
 | a::l=>by rw[bP,bP,bP,c6,c6,c6,Ds f g l];omega
theorem x_{α:Type}(f:α->Int)(k:Int):∀l:Da α,(l.map λx=>f x*k).sum=(l.map f).sum*k
 | []=>by simp
 | a::l=>by rw[bP,bP,c6,c6,x_ f k l,Cp]
theorem Pk:∀(l:Da Int)(n:Nat),l.length=n->(List.range n).map (λi=>l.getD i 0)=l:=λl n h=>by
 refine List.ext_getElem? λi=>?_;rw[bH];by_cases hi:i<n
 .rw [List.getElem?_range hi,aY (by omega)];show some (l.getD i 0)=_;rw[gT,aY (by omega)];rfl
 .rw [rR (by rw[zh];omega),rR (by omega)];rfl
theorem J0{B:Int}{n:Nat}:∀(ps:Da BP)(as:Da Int),(∀p∈ps,p.tops.length=n/\p.tops.sum=B)->as.length=ps.length->((List.range n).map (iH ps as)).sum=B*as.sum
 | [],[],_,_=>by
  have:(List.range n).map (iH [] [])=(List.range n).map λ_=>(0:Int)*0:=by congr 1
  rw[this,x_];simp
 | [],_::_,_,h=>by simp at h
 | _::_,[],_,h=>by simp at h
 | p::ps,a::as,hp,hl=>by
  have e:(List.range n).map (iH (p::ps) (a::as))=(List.range n).map λi=>p.tops.getD i 0*a+iH ps as i:=by congr 1
  obtain⟨h1,h2⟩:=hp p cQ;have ih:=J0 ps as (λx hx=>hp x (cL _ hx)) (by simpa using hl);rw[e,Ds,x_,Pk _ _ h1,ih,h2,c6,qx]
theorem ya:∀{l:Da Int}{i:Nat}{x:Int},i<l.length->(l.set i (l.getD i 0+x)).sum=l.sum+x
 | a::l,0,x,_=>by rw[LP,c6,c6];show a+x+_=_;omega
 | a::l,i+1,x,h=>by rw[LO,c6,c6];have:=ya (l:=l) (i:=i) (x:=x) (by simpa using h);have e:(a::l).getD (i+1) 0=l.getD i 0:=rfl;rw[e,this];omega
 | [],_,_,h=>by simp at h
theorem Ru(k:Int):∀{ts gs:Da Int},ts.length=gs.length->(List.zipWith (λt g=>t*k+g) ts gs).sum=ts.sum*k+gs.sum
 | [],[],_=>by simp
 | t::ts,g::gs,h=>by have:=Ru k (ts:=ts) (gs:=gs) (by simpa using h);rw[ud,c6,c6,c6,this,Cp];omega
 | [],_::_,h=>by simp at h
 | _::_,[],h=>by simp at h
theorem Yu(wf:vV b){aw:Int}(ok:j_ b as seat aw)(hs:∀p∈b.ah,p.tops.sum=b.bot):∀p∈(iN b as seat aw).ah,p.tops.sum=(iN b as seat aw).bot:=λp hp=>by
 obtain⟨h1,_⟩:=lJ.mp (show p∈(dW b as seat aw).filter _ from hp);obtain⟨i,x,a,ex,ea,rfl⟩:=iS (show p∈List.zipWith (mK (gU b as seat aw) (bu b-aw-as.sum)) b.ah as from h1);have hx:=bK ex;show(List.zipWith (λt g=>t*(bu b-aw-as.sum)+g) x.tops (gU b as seat aw)).sum=b.bot*bu b;rw[Ru _ (by rw[wf.tl x hx,vW]),hs x hx];have eg:(gr b as).sum=b.bot*as.sum:=J0 b.ah as (λp hp=>⟨wf.tl p hp,hs p hp⟩) ok.len;have e2:(gU b as seat aw).sum=b.bot*(as.sum+aw):=by
  unfold gU;by_cases h:0<aw
  .rw [aC h,ya (by rw[lQ];exact ok.seat),eg,qx,qw aw]
  .have:aw=0:=by have:=ok.Dr;omega
   rw[aB h,eg,this,Int.add_zero]
 rw[e2,<-qx];congr 1;omega
inductive pN(own:Da Str):Da kX->Da BE->Prop
 | nil:pN own [] []
 | cons {a:kX} {e:BE} {as:Da kX} {es:Da BE}:a.nm=e.nm->a.ow=e.ow->a.wo=e.wo->a.sh=dD own e.tops e.bot->e.tops.length<=own.length->0<e.bot->Jm.Sz 9000 e.bot->PyData.strOk e.nm=true->PyData.strOk e.ow=true->pN own as es->pN own (a::as) (e::es)
def pN.snoc{as:Da kX}{es:Da BE}(h:pN own as es){a:kX}{e:BE}(h1:a.nm=e.nm)(h2:a.ow=e.ow)(h3:a.wo=e.wo)(h4:a.sh=dD own e.tops e.bot)(h5:e.tops.length<=own.length)(h6:0<e.bot)(h7:Jm.Sz 9000 e.bot)(h8:PyData.strOk e.nm=true)(h9:PyData.strOk e.ow=true):pN own (as++[a]) (es++[e]):=by
 induction h with
 | nil=>exact .cons h1 h2 h3 h4 h5 h6 h7 h8 h9 .nil
 | cons a1 a2 a3 a4 a5 a6 a7 a8 a9 _ ih=>exact .cons a1 a2 a3 a4 a5 a6 a7 a8 a9 ih
def aa9{o:Str}:∀{tops:Da Int},tops.length<=own.length->List.zip (own++[o]) tops=List.zip own tops:=by
 induction own with
 | nil=>intro tops h;cases tops with
   | nil=>rfl
   | cons t ts=>exact absurd h (by simp)
 | cons x own ih=>intro tops h;cases tops with
   | nil=>rfl
   | cons t ts=>exact gP _ (ih (by simpa using h))
theorem pN.sign{as:Da kX}{es:Da BE}(h:pN own as es)(o:Str):pN (own++[o]) as es:=by
 induction h with
 | nil=>exact .nil
 | cons a1 a2 a3 a4 a5 a6 a7 a8 a9 _ ih=>exact .cons a1 a2 a3 (by rw[a4];unfold dD;rw[aa9 a5]) (by rw[c8];omega) a6 a7 a8 a9 ih
structure d_(c:Nat)(st:HS)(b:BS):Prop where
 fG:vV b
 rel:jG st b
 yb:D4 st b
 cJ:∀u∈st.cJ,Jm.Sz (60*c+60) u
 stp:st.stp.length<=c
 prod:Jm.Sz (60*c+1) st.prod
 bot:Jm.Sz (60*c+1) b.bot
 wo:∀p∈b.ah,p.wo<=1000000000*((c:Int)+1)
 we:∀p∈b.ah,p.we<=1000000000
 pl:b.ah.length<=50+c
 kl:b.dG.length<=900+c
 own:0<b.own.length
 nm:∀p∈b.ah,PyData.strOk p.nm=true/\PyData.strOk p.ow=true
 dB:pN b.own st.dB b.dB
 dG:st.nms=b.dG
 nk:∀x∈b.dG,isNm x=true
 on:∀o∈b.own,isNm o=true
 sum:∀p∈b.ah,p.tops.sum=b.bot
variable {c:Nat}
theorem d_.mono(g:d_ c st b):d_ (c+1) st b:=⟨g.fG,g.rel,g.yb,λu hu=>(g.cJ u hu).mono (by omega),by have:=g.stp;omega,g.prod.mono (by omega),g.bot.mono (by omega),λp hp=>by have:=g.wo p hp;omega,g.we,by have:=g.pl;omega,by have:=g.kl;omega,g.own,g.nm,g.dB,g.dG,g.nk,g.on,g.sum⟩
def d_.nms(g:d_ c st b):adB st.ah:=λp hp=>by obtain⟨i,hi,e⟩:=uf hp;obtain⟨q,eq,e1,e2,_⟩:=g.rel.at' (i:=i) (p:=p) (by rw[aY hi,e]);rw[e1,e2];exact g.nm q (bK eq)
theorem Du:∀{ps:Da BP}{m:Int},(∀p∈ps,1<=p.wo/\p.wo<=m)->0<=(ps.map λp=>p.wo).sum/\(ps.map λp=>p.wo).sum<=m*(ps.length:Int)
 | [],m,_=>by show 0<=(0:Int)/\(0:Int)<=m*0;omega
 | p::ps,m,h=>by have h0:=h p cQ;have ih:=Du (ps:=ps) (m:=m) λx hx=>h x (cL _ hx);rw[bP,c6,jm,show(((ps.length+1:Nat)):Int)=(ps.length:Int)+1 from by omega,qx,Int.mul_one];omega
theorem d_.whole(g:d_ c st b)(hc:c<=100):0<=bu b/\Jm.Sz 60 (bu b):=by
 have h:=Du (ps:=b.ah) (m:=101000000000) λp hp=>⟨g.fG.w1 p hp,by have:=g.wo p hp;omega⟩
 refine⟨h.1,?_⟩;have hl:=g.pl;have h2:(101000000000:Int)*(b.ah.length:Int)<=15150000000000:=by omega
 have h3:bu b<=15150000000000:=Int.le_trans h.2 h2;have h1:0<=bu b:=h.1;have:Jm.Sz 60 (15150000000000:Int):=oJ (by decide +kernel);exact this.of_le (by omega)
theorem Rv{st':HS}{aw kept:Int}(g:d_ c st b)(bl:rY st kept (aR st) lost added)(bo:j_ b as seat aw)(hc:c<=90)(eC:st'={ cK st kept (aR st) added with ah:=st'.ah })(rw':jG st' (iN b as seat aw))(rt:D4 st' (iN b as seat aw)):d_ (c+1) st' (iN b as seat aw):=by
 have zw:=g.whole (by omega);have ew:=g.rel.whole;obtain⟨hs,hsw,_,_⟩:=bl.dvds;have w1:0<aR st:=by have:=bl.k;have:=bl.l;have:=bl.w;omega
 have s1:1<=aR st / cZ st kept (aR st) added:=by have:=Int.le_of_dvd w1 hsw;exact Int.le_ediv_of_mul_le hs (by omega)
 have s2:aR st / cZ st kept (aR st) added<=aR st:=Ll _ (by omega);have zs:Jm.Sz 60 (aR st / cZ st kept (aR st) added):=by have:=zw.2;rw[<-ew]at this;exact this.of_le (by omega)
 have D3:∀p∈(iN b as seat aw).ah,∃p0∈b.ah,∃a,a∈as/\p=mK (gU b as seat aw) (bu b-aw-as.sum) p0 a:=λp hp=>by obtain⟨h1,_⟩:=lJ.mp (show p∈(dW b as seat aw).filter _ from hp);obtain⟨i,x,a,ex,ea,e⟩:=iS (show p∈List.zipWith (mK (gU b as seat aw) (bu b-aw-as.sum)) b.ah as from h1);exact⟨x,bK ex,a,bK ea,e⟩
 have zb:Jm.Sz (60*(c+1)+1) (b.bot*bu b):=(g.bot.mul zw.2).mono (by omega);refine⟨Yt g.fG bo (zb.mono (by omega)),rw',rt,λu hu=>?_,?_,?_,zb,λp hp=>?_,(λp hp=>by obtain⟨p0,h0,a,_,rfl⟩:=D3 p hp;exact g.we p0 h0),?_,(by show b.dG.length<=_;have:=g.kl;omega),g.own,λp hp=>?_,?_,?_,g.nk,g.on,Yu g.fG bo g.sum⟩
 .rw [eC]at hu;have hu:u∈(cK st kept (aR st) added).cJ:=hu;unfold cK at hu;rw[VI]at hu;obtain⟨x,hx,rfl⟩:=bD.mp hu;exact((g.cJ x hx).mul zs).mono (by omega)
 .rw [eC];show(cK st kept (aR st) added).stp.length<=c+1;unfold cK gi;split
  .show (st.stp++[_]).length<=c+1;rw[c8];have:=g.stp;show st.stp.length+1<=c+1;omega
  .show st.stp.length<=c+1;have:=g.stp;omega
 .rw [eC];show Jm.Sz _ (cK st kept (aR st) added).prod;unfold cK;rw[FH s1];exact(g.prod.mul zs).mono (by omega)
 .obtain ⟨p0,h0,a,ha,rfl⟩:=D3 p hp;have:=g.wo p0 h0;have:=bo.a0 a ha;show p0.wo-a<=1000000000*(((c+1:Nat):Int)+1);omega
 .have:=Sd (λp:BP=>decide (0<p.wo)) (dW b as seat aw);rw[xF bo.len]at this;have:=g.pl;show(List.filter _ _).length<=_;omega
 .obtain ⟨p0,h0,a,_,rfl⟩:=D3 p hp;exact g.nm p0 h0
 .rw [eC];show pN b.own (cK st kept (aR st) added).dB b.dB;unfold cK;rw[VL];exact g.dB
 .rw [eC];show(cK st kept (aR st) added).nms=b.dG;unfold cK;rw[VJ];exact g.dG
def Rw(g:d_ c st b)(wf:Wf st)(ok:k_ st rs)(rb:tF b rs)(bo:j_ b (di b rs) 0 0)(hc:c<=90):d_ (c+1) (j9 st rs) (iN b (di b rs) 0 0):=Rv g (ok.blend wf) bo hc (xH rs (cK st (aR st-bJ rs) (aR st) (gI st rs))) (VW g.rel wf ok) (V0 g.yb g.rel wf g.fG ok rb bo)
def Rx(st:HS)(rs:Da Row):(j9 st rs).kn<=st.kn:=by
 unfold j9;rw[xH];show(cK st (aR st-bJ rs) (aR st) (gI st rs)).kn<=st.kn;unfold cK gi;split
 .exact fD _
 .exact aN _
theorem Ia(h:isNm x=true):PyData.strOk x=true:=by
 unfold PyData.strOk;rw[Array.all_eq_true'];intro c hc;unfold isNm isName at h;have h1:=qp.mp (mJ.mp h).2 c (by simpa using hc);rw[aaK]at h1;have hm:=dH h1;have:∀c∈("abcdefghijklmnopqrstuvwxyz":Str).cps.toList,c<1000:=by decide +kernel
 have:=this c hm;exact cy (by omega)
def z_(n:Nat):(List.replicate n (0:Int)).sum=0:=by
 induction n with
 | zero=>rfl
 | succ n ih=>rw[ze,c6,ih];rfl
theorem aa_(g:d_ c st b)(wf:Wf st){o:Str}(h1:x∉b.ah.map (λp:BP=>p.nm))(h2:1<=wo)(h2':wo<=1000000000)(h3:b.ah.length<50)(h4:b.dG.length<900)(hx:isNm x=true)(ho:o∈b.own)(h5:we<=1000000000):d_ c (zV st x o wo we) (z9 b x o wo we):=by
 have P:∀{M:BP->Prop},(∀p∈b.ah,M p)->M ⟨x,o,wo,we,(List.replicate b.own.length 0).set (b.own.idxOf o) b.bot⟩->∀p∈(z9 b x o wo we).ah,M p:=λa c p hp=>by
  rcases fk.mp (show p∈b.ah++[_]from hp)with z|z
  .exact a p z
  .rw [eE.mp z];exact c
 refine⟨aa7 g.fG h1 h2 (by omega) (by omega),VX g.rel x o wo we,V1 g.yb g.rel wf g.fG h1,g.cJ,g.stp,g.prod,g.bot,P g.wo (by show wo<=_;omega),P g.we h5,by show(b.ah++[_]).length<=50+c;rw[c8];show b.ah.length+1<=50+c;omega,by show(b.dG++[_]).length<=900+c;rw[c8];show b.dG.length+1<=900+c;omega,g.own,P g.nm ⟨Ia hx,Ia (g.on o ho)⟩,g.dB,?_,?_,g.on,P g.sum ?_⟩
 .show st.nms++[x]=b.dG++[x];rw[g.dG]
 .intro y hy;rcases fk.mp (show y∈b.dG++[x]from hy)with z|z
  .exact g.nk y z
  .rw [eE.mp z];exact hx
 .show ((List.replicate b.own.length 0).set (b.own.idxOf o) b.bot).sum=b.bot;have hi:b.own.idxOf o<(List.replicate b.own.length (0:Int)).length:=by rw[kD];exact LG.mpr ho
  have:=ya (x:=b.bot) hi;rw[show(List.replicate b.own.length (0:Int)).getD (b.own.idxOf o) 0=0 from by rw[gT,aY hi,List.getElem_replicate];rfl,Int.zero_add,z_,Int.zero_add]at this;exact this
theorem FT:∀(l:Da Str)(st:HS),st.ah=[]->(∀u∈st.cJ,u=0)->(l.foldl gC st).ah=[]/\(l.foldl gC st).nms=st.nms/\(l.foldl gC st).stp=st.stp/\(l.foldl gC st).prod=st.prod/\(l.foldl gC st).dB=st.dB/\∀u∈(l.foldl gC st).cJ,u=0
 | [],_,h,hp=>⟨h,Z,Z,Z,Z,hp⟩
 | o::l,st,h,hp=>by
  rw[nM];exact FT l (gC st o) (by show st.ah.map _=[];rw[h];rfl) (λu hu=>by
   rcases fk.mp (show u∈st.cJ++[0]from hu)with z|z
   .exact hp u z
   .exact eE.mp z)
def gd0(h0:0<own.length)(h1:own.length<=100)(hon:∀o∈own,isNm o=true):d_ 0 (own.foldl gC hs0) ⟨own,[],1,[],[]⟩/\(own.foldl gC hs0).nms=[] :=by obtain⟨k1,k2,k3,k4,k5,k6⟩:=FT own hs0 rfl (λu hu=>absurd hu (by simp[hs0]));refine⟨⟨⟨sW,λp hp=>absurd hp (by simp),λp hp=>absurd hp (by simp),lM _,(by show Jm.Sz 7000 1;exact oJ (by decide +kernel)),λp hp=>absurd hp (by simp),h1,fD _,fD _⟩,⟨by rw[Bj];rfl,by unfold iO mW;rw[k1];rfl⟩,(λp hp=>by rw[k1]at hp;exact absurd hp (by simp)),(λu hu=>by rw[k6 u hu];exact oJ (by decide +kernel)),by rw[k3];exact aN _,(by rw[k4];show Jm.Sz (60*0+1) 1;exact oJ (by decide +kernel)),(by show Jm.Sz (60*0+1) 1;exact oJ (by decide +kernel)),λp hp=>absurd hp (by simp),λp hp=>absurd hp (by simp),fD _,fD _,h0,λp hp=>absurd hp (by simp),(by rw[k5];exact .nil),k2,(λx hx=>nomatch hx),hon,λp hp=>absurd hp (by simp)⟩,k2⟩
theorem Pn(g:d_ c st b)(wf:Wf st)(h:VO (lg b) rs)(hne:rs≠[])(hc:c<=90):k_ st rs/\tF b rs/\j_ b (di b rs) 0 0:=by
 have eW:bJ (lg b)=bu b:=by unfold bJ lg bu;rw[f_];rfl
 have hl:bJ rs<bu b:=by
  rcases h.lost with z|z
  .rw [<-eW];exact z
  .exact absurd z hne
 have rb:tF b rs:=⟨h.nd,λr hr=>by obtain⟨r1,_,w,hw,e,le⟩:=h.row r hr;obtain⟨p,hp,rfl⟩:=bD.mp hw;obtain⟨j,hj,ej⟩:=uf hp;exact⟨r1,j,p,by rw[aY hj,ej],e,le⟩⟩
 have zw:=g.whole (by omega);refine⟨⟨h.nd,hne,?_,λr hr=>?_,by rw[g.rel.whole];exact hl,by rw[g.rel.whole];exact zw.2,g.prod.mono (by omega),λu hu=>(g.cJ u hu).mono (by omega),by have:=g.stp;omega⟩,rb,Rt g.fG rb hl g.own zw.2⟩
 .have:=h.len;unfold lg at this;rw[aD]at this;have:=g.pl;omega
 .obtain ⟨r1,j,q,hq,e,le⟩:=rb.row r hr;obtain⟨p,hp,e1,_,e3,_⟩:=g.rel.at hq;have r2:=(h.row r hr).2.1;have:Jm.Sz 60 (1000000000:Int):=oJ (by decide +kernel);exact⟨r1,this.of_le (by omega),p,bK hp,e1.trans e,by rw[e3];exact le⟩
def yH(K:Fg)(ρ:dO)(H:Hp)(z:Addr)(xs:Da V):Prop:=∀(ρ':dO)(H':Hp),aE (out ρ H) (out ρ' H')->az K H' z xs
def yH.of(h:az K H z xs):yH K (λ_=>none) H z xs:=λρ' H' s=>by
 rcases h with(h|⟨o,h⟩)|h
 .exact .inl (.inl (zR (s _ _ (Fw h rfl))).1)
 .exact .inl (.inr ⟨o,(zR (s _ _ (Fw h rfl))).1⟩)
 .exact .inr h
def yH.go(h:yH K ρ H z xs)(s:aE (out ρ H) (out ρ' H')):yH K ρ' H' z xs:=λ_ _ s'=>h _ _ (s.trans s')
theorem HH.other{A:HA}(h:HH T n ρ A H st)(f:Fr m ρ H ρ' H')(g:Gh ρ' H')(e:n≠m):HH T n ρ' A H' st:=⟨g,h.h.other f h.g e,h.wf⟩
def ZL(g:d_ c st b)(k:Nat):d_ c { st with kn:=k } b:=⟨g.fG,⟨g.rel.own,g.rel.qd⟩,g.yb,g.cJ,g.stp,g.prod,g.bot,g.wo,g.we,g.pl,g.kl,g.own,g.nm,g.dB,g.dG,g.nk,g.on,g.sum⟩
theorem Na:∀(l:Da Str)(st:HS),(l.foldl gC st).kn=st.kn
 | [],_=>rfl
 | o::l,st=>by rw[nM,Na l];rfl
def Yv(ps:Da Str)(hk:∀r∈ps,PyData.strOk r=true):PyData.canLayAll0 (ps.map PyData.str)=true:=by
 induction ps with
 | nil=>rfl
 | cons q r ih=>rw[bP];unfold PyData.canLayAll0;rw[ih λp hp=>hk p (cL _ hp),Bool.and_true];unfold PyData.canLay0;exact hk q cQ
theorem Tj(ps:Da Str):PyData.depthAll (ps.map PyData.str)<=1:=by
 induction ps with
 | nil=>exact fD _
 | cons q r ih=>rw[bP];unfold PyData.depthAll;have:PyData.depth (.str q)<=1:=Nat.le_of_ble_eq_true rfl;omega
theorem Dv(ps:Da Str)(hk:∀r∈ps,PyData.strOk r=true):SeqAt.shaped (.list (ps.map PyData.str))=true:=by unfold SeqAt.shaped PyData.canLay0 PyData.depth;rw[Yv ps hk];have:=Tj ps;simp only[Bool.true_and,decide_eq_true_eq];omega
def Yw(ps:Da Str):PyData.eqv (.list (ps.map PyData.str)) (.list (ps.map PyData.str))=true:=by
 unfold PyData.eqv
 induction ps with
 | nil=>rfl
 | cons q r ih=>rw[bP];unfold PyData.eqvAll;rw[ih,Bool.and_true];exact aaJ q
theorem Ib{K:Fg}{H:Hp}:∀(l:Da Str),yw K H (l.map V.str) (l.map PyData.str)
 | []=> .nil
 | x::l=> .cons (.str x) (Ib l)
inductive adO(d:Nat)(T:TC)(K:Fg)(vs:Da V)(H:Hp)(Q:VK)(E:XK):Prop
 |mk(n m ρ A B st b:_)(c:Nat)(_:vs=[.ref A.a,.ref B.m])(_:n≠m)(_:HH T n ρ A H st)(_:aV m ρ B H b)(_:d_ c st b)(_:c<=100)(_:(∀o∈b.own,PyData.strOk o=true))(_:st.kn+15000*d<=1000000)(_:∀ρ' A' H' k,HH T n ρ' A' H' { st with kn:=k }->k<=st.kn+15000*d->aV m ρ' B H' b->A'.a=A.a->aE (out ρ H:_) (out ρ' H':_)->Q (.bl true) H')
def vq(d:Nat)(T:TC)(K:Fg):Sp:=bx (adO d T K)
structure cR(K:Fg)(x:Str)(st:Stmt):Prop where
 ex:∃(f:Addr)(oc:Value)(od an:Option Addr)(sl:Array (Option Value))(kV dc pm cd ct:Value),PySem.W.nsIn K mainGlobals x=some (some (.ref f))/\K.lookup f=some ⟨oc,od,.func (PySem.W.fnOf x x (fh st) (cU st) (ay st) .none kV dc pm an cd ct),sl⟩/\PySem.W.codeIn K cd x=true/\PySem.W.keepIn K (.ref f)=true
def cR.at{st:Stmt}(d:cR K x st)(X:K.In h)(G:h.Ns mainGlobals mg):∃f fd,At K mg x st f fd:=by obtain⟨f,oc,od,an,sl,kV,dc,pm,cd,ct,a,l,c,k⟩:=d.ex;exact⟨f,_,Zt X G a l c k⟩
structure eU(K:Fg)(C:Addr)(n qual:Str)(st:Stmt):Prop where
 ex:∃(f:Addr)(oc:Value)(od an:Option Addr)(sl:Array (Option Value))(kV dc pm cd ct:Value),PySem.W.findIn K (.ref C) n=some (some (.ref f))/\PySem.W.isFn K (.ref f)=true/\K.lookup f=some ⟨oc,od,.func (PySem.W.fnOf n qual (fh st) (cU st) (ay st) .none kV dc pm an cd ct),sl⟩/\PySem.W.codeIn K cd qual=true/\PySem.W.keepIn K (.ref f)=true
def eU.at{n:Str}{st:Stmt}(d:eU K C n qual st)(cl:p_ K C):∃f fd,jF K C n qual st f fd:=by obtain⟨f,oc,od,an,sl,kV,dc,pm,cd,ct,a,i,l,c,k⟩:=d.ex;exact⟨f,_,Mj l c k,⟨a,i,k⟩,cl⟩
def eU.made{st:Stmt}(d:eU K C "__init__" qual st)(X:K.In h)(G:h.Ns mainGlobals mg)(a0:PySem.W.nsIn K mainGlobals x=some (some (.ref C)))(m:PySem.W.makesIn K C=true)(kc:PySem.W.keepIn K (.ref C)=true):∃f fd,JD K mg x C qual st f fd:=by obtain⟨f,oc,od,an,sl,kV,dc,pm,cd,ct,a,i,l,c,k⟩:=d.ex;exact⟨f,_,Mj l c k,⟨m,a,i,kc⟩,lK X G a0⟩
variable {oc pm ct:Value}{od an:Option Addr}{sl:Array (Option Value)}
def cR.of{st:Stmt}{kV dc cd:Value}(a:PySem.W.nsIn K mainGlobals x=some (some (.ref f)))(l:K.lookup f=some ⟨oc,od,.func (PySem.W.fnOf x x (fh st) (cU st) (ay st) .none kV dc pm an cd ct),sl⟩)(c:PySem.W.codeIn K cd x=true)(k:PySem.W.keepIn K (.ref f)=true):cR K x st:=⟨⟨_,_,_,_,_,_,_,_,_,_,a,l,c,k⟩⟩
def eU.of{n:Str}{st:Stmt}{kV dc cd:Value}(a:PySem.W.findIn K (.ref C) n=some (some (.ref f)))(i:PySem.W.isFn K (.ref f)=true)(l:K.lookup f=some ⟨oc,od,.func (PySem.W.fnOf n qual (fh st) (cU st) (ay st) .none kV dc pm an cd ct),sl⟩)(c:PySem.W.codeIn K cd qual=true)(k:PySem.W.keepIn K (.ref f)=true):eU K C n qual st:=⟨⟨_,_,_,_,_,_,_,_,_,_,a,i,l,c,k⟩⟩
section
variable {X:Cx}
variable {o i:Expr}{pos:Pos}{td ty:TE}
end
section
variable {a b:Da Nat}{m v:Int}(ha:qG a)(hb:qG b)(hm:1<=m)(hm2:m<=1000000000)(hv:0<=v)(hv2:v<=1000000000)
include ha hb hm hm2 hv hv2 in
end
section
variable {X:Cx}
end
section
variable {X:Cx}
end
inductive af9(x:V)(y:V)(H:Hp)(Q:VK):Prop
 |mk(a b:Da Nat)(_:x =.str (tx a))(_:y =.str (tx b))(_:a.length+b.length<=10000000)(_:Q (.str (tx (a++b))) H)
theorem aba:ji X (binaryOp .Add) af9:=by intro AT s σ H x y v u Q I rx ry h;obtain⟨a,b,rfl,rfl,hz,q⟩:=h;exact E1 AT s σ H _ _ v u Q I rx ry ⟨tx a,tx b,Z,Z,by rw[lH,lH,gy];omega,by rw[Vg];exact q⟩
def Trc(h:Heap)(x T C:Addr):Prop:=∃oe vs a0 oT ts,h.get? x=some oe/\oe.cls =.ref C/\vs[0]?=some a0/\oe.data =.fields vs/\vs[1]?=some (.ref T)/\T≠x/\h.get? T=some oT/\oT.data =.fields ts/\ts[3]?=some .none
noncomputable def gJ(P:Program)(w:World):Ax:=λouter H s E e s'=>∃(x T C:Addr)(H':Hp),e =.ref x/\s'.os=s.os/\AllBare s'.gens/\Un (frs outer) [] H H' s.heap s'.heap/\iL P w H' s'.heap/\Trc s'.heap x T C/\s.heap.get? x=none/\s.heap.get? T=none/\H' x=none/\H' T=none/\E e (some C) H'
variable {h':Heap}
def iL.Nb(x:iL P w H h)(k:∀b o u,H b=some o->h.get? b=some u->h'.get? b=some u):iL P w H h':=λa o e=>
 (x a o e).stay (λb u hb q=>by
  rcases hb with rfl|hb
  .exact k _ _ _ e q
  .exact k _ _ _ hb q) (λ_ q=>q) λ_ _ q=>q
def d8.isAt(x:d8 P w H h a o):∃u,h.get? a=some u:=by
 cases o with
 | lst xs=>obtain⟨_,_,_,_,e⟩:=x;exact⟨_,e⟩
 | tup xs=>obtain⟨_,_,_,p⟩:=x;obtain⟨o,e,_⟩:=p;exact⟨_,e⟩
 | dK Ap=>obtain⟨_,_,_,_,o,_,_,e,_⟩:=x;exact⟨_,e⟩
 | dT Ap=>obtain⟨_,_,_,_,o,_,_,e,_⟩:=x;exact⟨_,e⟩
 | set S n=>obtain⟨o,_,_,_,e,_⟩:=x;exact⟨_,e⟩
 | ins C dx fs=>obtain⟨_,_,_,e,_⟩:=x;exact⟨_,e⟩
 | own y=>obtain⟨_,e⟩:=x;exact⟨_,e⟩
 | xd fs=>obtain⟨_,⟨_,_,_,e,_⟩,_⟩:=x;exact⟨_,e⟩
 | xx lo hi=>obtain⟨_,_,_,e⟩:=x;exact⟨_,e⟩
 | fY ob u=>obtain⟨e,_⟩:=x;exact⟨_,e⟩
 | Jj ps=>exact⟨_,(show h.get? a=some _ from x)⟩
 | met f y=>exact⟨_,(show h.get? a=some _ from x)⟩
 | ext φ=>obtain⟨_,⟨_,e⟩,_⟩:=x;exact⟨_,e⟩
section
variable {P:Program}{w:World}{K:Fg}{mg:SO}{base:Heap}{N:Da Str}{qual:Str}{scope:Scope}{f:Addr}{cd:Value}{A:Around}{outer:Da Env}{s0:Shared}{H0:Hp}{E:XK}{CX:Ax}
def Ry{x:Addr}{a0:Value}{B:Heap}(I:Inv (cX CX P w K mg base N qual scope f cd A outer s0 H0 E) AT σ H s)(hB:∀b o,s.heap.get? b=some o->b∉frs (envOfC qual scope s0.heap.objs.size f cd::outer)->s0.heap.get? b≠none\/H b≠none->B.get? b=some o)(hfl:Heap.FlyingW B outer x (.ref C) a0 h')(hup:s.heap.UpToSlots h')(hx:s0.heap.get? x=none)(Dw:H x=none)(q:E (.ref x) (some C) H):gJ P w outer H0 s0 E (.ref x) { s with heap:=h' }:=by
 obtain⟨st,bx,fr,oe,vs,T,oT,ts,h1,⟨h2,h3⟩,h4,h5,h6,h7,h8,h9,Dy⟩:=hfl
 have LA:T∉frs outer:=λm=>by obtain⟨_,o,ho,hd⟩:=fr.mem m;rw[h8]at ho;cases ho;exact hd _ h9
 have L0:s0.heap.get? s0.heap.objs.size=none:=Heap.get?_none_of_le (aN _)
 have big:∀b o,s0.heap.get? b=some o->b∉frs outer->b∉frs (envOfC qual scope s0.heap.objs.size f cd::outer):=λb o e n m=>by
  have m':b∈s0.heap.objs.size::frs outer:=m;rcases c_.mp m' with z|z
  .rw [z,L0]at e;cases e
  .exact n z
 have hT0:s0.heap.get? T=none:=by
  cases e:s0.heap.get? T with
  | none=>rfl
  | some o=>obtain⟨o',ho'⟩:=I.base.there T o e (by simp[cX]);have:=hB T o' ho' (big T o e LA) (.inl (by rw[e];exact λz=>nomatch z));rw[h6]at this;cases this
 have Bu:H T=none:=by
  cases e:H T with
  | none=>rfl
  | some o=>
   have lt:=I.hok.lt e;have nst:T∉frs (envOfC qual scope s0.heap.objs.size f cd::outer):=λm=>by have:=I.yq T m;rw[e]at this;cases this
   have hob:∃u,s.heap.get? T=some u:=(I.hok T o e).isAt;obtain⟨u,hu⟩:=hob;have:=hB T u hu nst (.inr (by rw[e];exact λz=>nomatch z));rw[h6]at this;cases this
 refine⟨x,T,C,H,Z,I.os,I.bare,⟨λb o e n nf _=>?_,λb o e n m _=>?_,λb o e n _=>?_,λb o e _=>?_,I.base.tups,I.base.oh,I.base.qy⟩,?_,⟨oe,vs,a0,oT,ts,h1,h2,h3,h4,h5,h7,h8,h9,Dy⟩,hx,hT0,Dw,Bu,q⟩
 . exact st b o (hB b o (I.base.keep b o e n nf (by simp[cX])) (big b o e nf) (.inl (by rw[e];exact λz=>nomatch z)))
 . obtain⟨sl,hs⟩:=I.base.slot b o e n m (by simp[cX])
   have fr0:=I.ok.pJ
   obtain⟨_,o',ho',hd'⟩:=fr0.mem m
   obtain⟨LU,hs'⟩:=hup b _ hs (λvs z=>by have ho2:s0.heap.get? b=some o':=ho';rw[e]at ho2;cases ho2;exact hd' vs z)
   exact⟨LU,hs'⟩
 . exact I.base.free b o e n (by simp[cX])
 . obtain⟨o',ho'⟩:=I.base.there b o e (by simp[cX])
   by_cases m:b∈frs outer
   . have fr0:=I.ok.pJ
     obtain⟨_,o2,ho2,hd2⟩:=fr.mem m
     exact⟨o2,ho2⟩
   . exact⟨o',st b o' (hB b o' ho' (big b o e m) (.inl (by rw[e];exact λz=>nomatch z)))⟩
 . exact I.hok.Nb λb o u e hu=>st b u (hB b u hu (λm=>by have:=I.yq b m;rw[e]at this;cases this) (.inr (by rw[e];exact λz=>nomatch z)))
def Yx{x T:Addr}(I:Inv (cX (gJ P w) P w K mg base N qual scope f cd A outer s0 H0 E) AT σ H s)(t:Trc s.heap x T C)(hx:s0.heap.get? x=none)(hT:s0.heap.get? T=none)(Dw:H x=none)(Bu:H T=none)(q:E (.ref x) (some C) H):(cX (gJ P w) P w K mg base N qual scope f cd A outer s0 H0 E).xe (.ref x) s:=by
 obtain⟨oe,vs,a0,oT,ts,h1,h2,h3,h4,h5,h6,h7,h8,h9⟩:=t
 have hst:=I.stack
 have Yy:s.heap.FunFrames base (envOfC qual scope s0.heap.objs.size f cd::outer):=hst
 have hin:∀env∈(envOfC qual scope s0.heap.objs.size f cd::outer),∀b,env.frame=some b->b∈x::T::frs (envOfC qual scope s0.heap.objs.size f cd::outer):=λenv he b hb=>cL _ (cL _ (Hu.mpr ⟨env,he,hb⟩))
 refine wpAny_leaves_onW (base:=PySem.W.hideAll s.heap (x::T::frs (envOfC qual scope s0.heap.objs.size f cd::outer))) (L:=s0.heap.objs.size) (cls:=.ref C) (a0:=a0) (outer:=outer) I.ok.frames rfl ⟨λb o e=>Sl _ e,LL _ cQ,PySem.W.funFrames_hide Yy hin,oe,vs,T,oT,ts,h1,⟨h2,h3⟩,h4,h5,LL _ (cL _ cQ),h6,h7,h8,h9⟩ λh' fl up=>?_
 refine Ry I (λb o e n hb=>Sh _ e λm=>?_) fl up hx Dw q
 rcases c_.mp m with z|m
 . rw[z]at hb
   rcases hb with hb|hb
   . exact hb hx
   . exact hb Dw
 . rcases c_.mp m with z|m
   . rw[z]at hb
     rcases hb with hb|hb
     . exact hb hT
     . exact hb Bu
   . exact n m
def ZM:Passes (gJ P w) (cX (gJ P w) P w K mg base N qual scope f cd A outer s0 H0 E) E:=λAT σ H s e s' I h=>by
 obtain⟨x,T,C,H',rfl,os,bare,un,hok,t,hx,hT,Dw,Bu,q⟩:=h;have I':Inv (cX (gJ P w) P w K mg base N qual scope f cd A outer s0 H0 E) AT σ H' s':=I.Lv (ch:=[]) os un hok bare (λb z=>absurd z (by simp));have old:∀b,s.heap.get? b=none->s0.heap.get? b=none:=λb e=>by
  cases q:s0.heap.get? b with
  | none=>rfl
  | some o=>obtain⟨o',ho'⟩:=I.base.there b o q (by simp[cX]);rw[e]at ho';cases ho'
 exact Yx I' t (old x hx) (old T hT) Dw Bu q
def Tn{x:Addr}{args:Da Value}(I:Inv (cX (gJ P w) P w K mg base N qual scope f cd A outer s0 H0 E) AT σ H s)(hm:Heap.MadeExcOf s.heap h1 x (.ref C) args)(q:E (.ref x) (some C) H):(cX (gJ P w) P w K mg base N qual scope f cd A outer s0 H0 E).xe (.ref x) { s with heap:=h1 }:=by
 have Yy:s.heap.FunFrames base (envOfC qual scope s0.heap.objs.size f cd::outer):=I.stack
 have hin:∀env∈(envOfC qual scope s0.heap.objs.size f cd::outer),∀b,env.frame=some b->b∈frs (envOfC qual scope s0.heap.objs.size f cd::outer):=λenv he b hb=>Hu.mpr ⟨env,he,hb⟩
 have I1:Inv (cX (gJ P w) P w K mg base N qual scope f cd A outer s0 H0 E) AT σ H { s with heap:=h1 }:=I.kept (t':=s.toks) hm.keeps
 have Dw:H x=none:=by
  cases e:H x with
  | none=>rfl
  | some o=>obtain⟨u,hu⟩:=(I.hok x o e).isAt;rw[hm.new]at hu;cases hu
 have V2:s0.heap.get? x=none:=by
  cases e:s0.heap.get? x with
  | none=>rfl
  | some o=>obtain⟨o',ho'⟩:=I.base.there x o e (by simp[cX]);rw[hm.new]at ho';cases ho'
 refine wpAny_leaves_madeW (base:=PySem.W.hideAll s.heap (frs (envOfC qual scope s0.heap.objs.size f cd::outer))) (h:=s.heap) (L:=s0.heap.objs.size) (outer:=outer) I.ok.frames rfl (λb o e=>Sl _ e) (PySem.W.funFrames_hide Yy hin) hm λh' t fl _ _ up=>?_
 refine Ry I1 (λb o e n hb=>Sh _ ?_ n) fl up V2 Dw q
 rcases hb with hb|hb
 . cases e0:s0.heap.get? b with
   | none=>exact absurd e0 hb
   | some o0=>
     obtain⟨o',ho'⟩:=I.base.there b o0 e0 (by simp[cX])
     have e':h1.get? b=some o:=e
     have:=hm.keeps b o' ho'
     rw[e']at this;cases this
     exact ho'
 . cases e0:H b with
   | none=>exact absurd e0 hb
   | some o0=>
     obtain⟨o',ho'⟩:=(I.hok b o0 e0).isAt
     have e':h1.get? b=some o:=e
     have:=hm.keeps b o' ho'
     rw[e']at this;cases this
     exact ho'
end
noncomputable def adQ:Da Value:=[.type "ValueError",.type "Exception",.type "BaseException",.type "object"]
structure jH(K:Fg)(C:Addr):Prop where
 ex:∃(nm q:Str)(N:Addr)(bs bm:Da Value)(hdct:Bool)(sn:Da Str)(sub:Da Value)(ab:Bool)(col:Option Bool)(dd:Option Addr)(k0 k1 k2 k3 k5:Option Value)(mN:SO),mN "__init__"=none/\bm.contains (.type "BaseException")=true/\∀h:Heap,K.In h->
  h.get? C=some (excClassObj nm q C N bs bm hdct sn sub ab col dd k0 k1 k2 k3 k5 "ValueError.__new__")/\h.Ns N mN/\OwnTail h adQ bm
section
variable {P:Program}{w:World}{K:Fg}{mg:SO}{base:Heap}{N:Da Str}{qual:Str}{scope:Scope}{f:Addr}{cd:Value}{A:Around}{outer:Da Env}{s0:Shared}{H0:Hp}{E:XK}
def adR(C:Addr)(E:XK):TS:=λ_ _ H=>∀x,E (.ref x) (some C) H
structure Dx(P:Program)(w:World)(K:Fg)(mg:SO)(base:Heap)(k:Nat)(x:Str)(ps:Da Str)(sp:Sp):Prop where
 ex:∃f fd,je P w K mg base (gJ P w) k f fd ps sp/\Binds K fd ps []/\PySem.W.keepIn K (.ref f)=true/\mg x=some (.ref f)
def At.okX{st:Stmt}{f:Addr}{N:Da Str}{k:Nat}(F:At K mg x st f fd)(S:aJ N ps (ay st))(len:∀vs H Q E,sp vs H Q E->vs.length=ps.length)(Ch:∀(cdv:Value) (A:Around) (outer:Da Env) (s:Shared) (H:Hp) (vs:Da V) (Q:VK) (E:XK),dR k (A.deeper (envOfC x (ay st) s.heap.objs.size f cdv))->sp vs H Q E->
    ∃t,rQ (cX (gJ P w) P w K mg base N x (ay st) f cdv A outer s H E) (cU st) t/\t { nx:=λ_ H'=>Q .cu H',rt:=Q } (start N vs) H)(h:∀(kV doc pm:Value) (an:Option Addr) (cdv ct:Value) (us:Da Value),us.length=ps.length->bindArgs (PySem.W.fnOf x x (fh st) (cU st) (ay st) .none kV doc pm an cdv ct) ⟨us,[]⟩=pure (ps.zip us)):
  Dx P w K mg base (k+1) x ps sp:=by
 refine⟨f,fd,?_,F.fn.binds h,F.fn.kp,F.name⟩
 obtain⟨oc,od,kV,doc,pm,an,cdv,ct,osl,rfl,lk,hcd⟩:=F.fn.ex
 exact SQ lk hcd S len λA outer s H vs Q E hr qB=>Ch cdv A outer s H vs Q E hr qB
end
def ajm(h:Heap)(x T C:Addr)(fl:Value):Prop:=∃oe vs a0 oT ts,h.get? x=some oe/\oe.cls =.ref C/\vs[0]?=some a0/\oe.data =.fields vs/\vs[1]?=some (.ref T)/\T≠x/\h.get? T=some oT/\oT.data =.fields ts/\ts[3]?=some fl
structure vY(X:Cx)(AT:AO)(σ:St)(Hc:Hp)(sc:Shared)(H:Hp)(x C:Addr)(fl:Value)(s:Shared):Prop where
 ic:Inv X AT σ Hc sc
 os:s.os=sc.os
 bare:AllBare s.gens
 un:Un (frs X.stack) [] Hc H sc.heap s.heap
 hok:iL X.prog X.w H s.heap
 nx:sc.heap.get? x=none
 hx:H x=none
 tr:∃T,ajm s.heap x T C fl/\sc.heap.get? T=none/\H T=none
variable {M:Model}{A:Around}{Q:Unit->Shared->Prop}
section
variable {X:Cx}{AT:AO}{σ:St}{Hc H:Hp}{sc s:Shared}{x C:Addr}{fl:Value}
def vY.inv(F:vY X AT σ Hc sc H x C fl s):Inv X AT σ H s:=F.ic.Lv (ch:=[]) F.os F.un F.hok F.bare (λb z=>absurd z (by simp))
def vY.step{B:Heap}{fl' a0:Value}(F:vY X AT σ Hc sc H x C fl s)(hB:∀b o,s.heap.get? b=some o->b∉frs X.stack->sc.heap.get? b≠none\/H b≠none->B.get? b=some o)(st:B.StaysIn h')(fr:h'.FunFrames B X.stack)(tr:h'.TracedAtW B x (.ref C) a0 fl')(up:s.heap.UpToSlots h'):vY X AT σ Hc sc H x C fl' { s with heap:=h' }:=by
 have I:=F.inv
 obtain⟨oe,vs,T,oT,ts,h1,⟨h2,h3⟩,h4,h5,h6,h7,h8,h9,Dy⟩:=tr
 have LA:T∉frs X.stack:=λm=>by obtain⟨_,o,ho,hd⟩:=fr.mem m;rw[h8]at ho;cases ho;exact hd _ h9
 have hT0:sc.heap.get? T=none:=by
  cases e:sc.heap.get? T with
  | none=>rfl
  | some o=>obtain⟨o',ho'⟩:=F.un.there T o e (by simp);have:=hB T o' ho' LA (.inl (by rw[e];exact λz=>nomatch z));rw[h6]at this;cases this
 have Bu:H T=none:=by
  cases e:H T with
  | none=>rfl
  | some o=>obtain⟨u,hu⟩:=(F.hok T o e).isAt;have:=hB T u hu LA (.inr (by rw[e];exact λz=>nomatch z));rw[h6]at this;cases this
 refine⟨F.ic,F.os,F.bare,⟨λb o e n nf _=>?_,λb o e n m _=>?_,F.un.free,λb o e _=>?_,F.un.tups,F.un.oh,F.un.qy⟩,?_,F.nx,F.hx,T,⟨oe,vs,a0,oT,ts,h1,h2,h3,h4,h5,h7,h8,h9,Dy⟩,hT0,Bu⟩
 . exact st b o (hB b o (F.un.keep b o e n nf (by simp)) nf (.inl (by rw[e];exact λz=>nomatch z)))
 . obtain⟨sl,hs⟩:=F.un.slot b o e n m (by simp)
   obtain⟨_,o',ho',hd'⟩:=F.ic.stack.mem m
   obtain⟨LU,hs'⟩:=up b _ hs (λvs z=>by rw[e]at ho';cases ho';exact hd' vs z)
   exact⟨LU,hs'⟩
 . obtain⟨o',ho'⟩:=F.un.there b o e (by simp)
   by_cases m:b∈frs X.stack
   . obtain⟨_,o2,ho2,hd2⟩:=fr.mem m
     exact⟨o2,ho2⟩
   . exact⟨o',st b o' (hB b o' ho' m (.inl (by rw[e];exact λz=>nomatch z)))⟩
 . exact F.hok.Nb λb o u e hu=>st b u (hB b u hu (λm=>by have:=I.yq b m;rw[e]at this;cases this) (.inr (by rw[e];exact λz=>nomatch z)))
def vY.hid(F:vY X AT σ Hc sc H x C fl s):∃(a0:Value)(B:Heap),(∀b o,s.heap.get? b=some o->b∉frs X.stack->sc.heap.get? b≠none\/H b≠none->B.get? b=some o)/\B.StaysIn s.heap/\B.get? x=none/\s.heap.FunFrames B X.stack/\s.heap.TracedAtW B x (.ref C) a0 fl:=by
 obtain⟨T,⟨oe,vs,a0,oT,ts,h1,h2,h3,h4,h5,h6,h7,h8,h9⟩,hT,Bu⟩:=F.tr;have hin:∀env∈X.stack,∀b,env.frame=some b->b∈x::T::frs X.stack:=λenv he b hb=>cL _ (cL _ (Hu.mpr ⟨env,he,hb⟩));refine⟨a0,PySem.W.hideAll s.heap (x::T::frs X.stack),λb o e n hb=>Sh _ e λm=>?_,λb o e=>Sl _ e,LL _ cQ,PySem.W.funFrames_hide F.inv.stack hin,oe,vs,T,oT,ts,h1,⟨h2,h3⟩,h4,h5,LL _ (cL _ cQ),h6,h7,h8,h9⟩;rcases c_.mp m with z|m
 .rw [z]at hb;rcases hb with hb|hb
  .exact hb F.nx
  .exact hb F.hx
 .rcases c_.mp m with z|m
  .rw [z]at hb;rcases hb with hb|hb
   .exact hb hT
   .exact hb Bu
  .exact n m
def Yz(F:vY X AT σ Hc sc H x C .none s)(hA:A.frames=some X.stack)(hs:X.stack=X.env::X.outer)(hf:X.env.frame=some X.env.locals)(h:∀s',vY X AT σ Hc sc H x C (rawInt X.env.locals) s'->Q () s'):wpAny M A (noteFrame (.ref x) X.env) Q E s:=by
 obtain⟨a0,B,hB,st,bx,fr,tr⟩:=F.hid
 rw[hs]at fr hA
 refine wpAny_looks_onW (base:=B) hA hf ⟨st,bx,fr,tr⟩ λh' hh up=>?_
 obtain⟨k1,k2,k3,k4⟩:=hh
 rw[<-hs]at k3
 exact h _ (F.step hB k1 k3 k4 up)
def Nc(F:vY X AT σ Hc sc H x C fl s)(h:∀s',vY X AT σ Hc sc H x C .none s'->Q () s'):wpAny M A (setFlight (.ref x) none) Q E s:=by
 obtain⟨a0,B,hB,st,bx,fr,tr⟩:=F.hid
 refine wpAny_setFlight_noneW (base:=B) st fr tr λh' k1 k2 k3 k4=>h _ (F.step hB k1 k2 k3 λb o hb hn=>⟨o.slots,k4 b o hb hn⟩)
end
noncomputable def D5(x C:Addr):HO:=.ext λh=>∃o,h.get? x=some o/\o.cls =.ref C
variable {e:Expr}{es:Da Expr}{t':Nat}
section
variable {X:Cx}{AT:AO}{σ:St}{Hc H:Hp}{sc s:Shared}{x C:Addr}{fl:Value}
theorem af_{k:Nat}{g:Str}{t:TA}{p:Pos}(D:Dx X.prog X.w X.K X.mg X.base j g ps sp)(hr:dR k X.A)(hno:∀e s,X.xe e s->False)(ha:PA X (e::es) t)(hj:j<=k)(hg:Gl X g)(hdb:(g==("__debug__":Str))=false)(he:starEach (e::es) X.env=(false,eval e X.env)::starEach es X.env)(hpl:(backTo pos (starEach es X.env)).any (·.1)=false){Q:VK}{R:Addr->Hp->Prop}(I:Inv X AT σ H s)(h:t σ H λvs H1=>sp (vs++[]) H1 Q λ_ c H'=>∃C,c=some C/\R C H'):
  wpAny (model X.prog X.w) X.A (eval (.Call (.Name g p) (e::es) [] pos) X.env) (EP X AT σ Q) (λev s'=>∃x C Hc sc H',ev =.ref x/\vY X AT σ Hc sc H' x C .none s'/\R C H') s:=by
 obtain⟨f,fd,F,hb,kp,m⟩:=D.ex
 refine Hv (rT I hg m ?_ hdb)
 refine Sm (h₀:=X.base) I.ok.mod.QK kp (iM (ha pos AT s σ H _ I h) (λus s1 ⟨vs,H1,I1,r,q⟩=>⟨I1.jB,?_⟩) λ_ _ z=>(hno _ _ z).elim) he hpl
 have r2:Vals (vs++[]) (us++[]):=r.append .nil
 have hl:(us++[]).length=ps.length:=by rw[<-r2.length];exact F.len _ _ _ _ q
 refine wpAny_call (Ck (F.run X.A X.stack s1 H1 ⟨us,[]⟩ (us++[]) (vs++[]) Q _ (hr.mono hj) I1.Xy (hb s1 us I1.jB hl) r2 q) λr s' hq=>?_)
 cases r with
 | error e=>
   have hq':gJ X.prog X.w X.stack H1 s1 (λ_ c H'=>∃C,c=some C/\R C H') e s':=hq
   obtain⟨x,T,C,H',rfl,os,bare,un,hok,tr,hx,hT,Dw,Bu,C',ec,hR⟩:=hq'
   cases ec
   exact⟨x,C,H1,s1,H',Z,⟨I1,os,bare,un,hok,hx,Dw,T,tr,hT,Bu⟩,hR⟩
 | ok fl=>
   cases fl with
   | ret u=>exact I1.after hq
   | next=>exact False.elim hq
   | brk=>exact False.elim hq
   | cont=>exact False.elim hq
abbrev Cx.held(X:Cx)(x:Addr):Cx:={ X with A:=X.A.mark (some (.ref x)),calm:=false }
theorem Inv.held(I:Inv X AT σ H s)(x:Addr):Inv (X.held x) AT σ H s:=⟨⟨I.ok.mod,I.ok.kind,I.ok.glob,I.ok.blt,I.ok.above,I.ok.inj,I.ok.has,I.ok.g_,(λz=>nomatch z),I.ok.frames,I.ok.stk,I.ok.LR,I.ok.bs,I.ok.EV,I.ok.Hz,I.ok.DL,I.ok.pJ,I.ok.Jk⟩,I.os,I.bare,I.base,I.loc,I.cell,I.free,I.kM,I.pin,I.hok,I.len⟩
def vY.known(F:vY X AT σ Hc sc H x C fl s):Inv X AT σ (upd H x (D5 x C)) s:=by
 have I:=F.inv;have ne:∀{b o},sc.heap.get? b=some o->b≠x:=λe z=>by rw[z,F.nx]at e;cases e
 have ne0:∀{b o},X.s₀.heap.get? b=some o->b∉X.ex->b≠x:=λ{b o} e n=>by obtain⟨o',ho'⟩:=F.ic.base.there b o e n;exact ne ho'
 have V3:∀{b o},H b=some o->b≠x:=λe z=>by rw[z,F.hx]at e;cases e
 obtain⟨T,⟨oe,vs,a0,oT,ts,h1,h2,_⟩,_⟩:=F.tr;refine⟨I.ok,I.os,I.bare,⟨I.base.keep,I.base.slot,λb o e n nx=>?_,I.base.there,λb xs e=>?_,λb o u e=>?_,λb ps e=>?_⟩,I.loc,I.cell,?_,λy c e=>?_,λp hp=>?_,λb o e=>?_,I.len⟩
 .rw [av (ne0 e nx)];exact I.base.free b o e n nx
 .have z:=I.base.tups b xs e;rw[av (V3 z)];exact z
 .have z:=I.base.oh b o u e;rw[av (V3 z)];exact z
 .obtain ⟨more,z⟩:=I.base.qy b ps e;exact⟨more,by rw[av (V3 z)];exact z⟩
 .obtain ⟨m,⟨o,_,_,ho,_⟩,_⟩:=F.ic.loc;rw[av (ne ho)];exact I.free
 .obtain ⟨v,o,ho,_⟩:=F.ic.cell y c e;rw[av (ne ho)];exact I.kM y c e
 .obtain ⟨a,b,c⟩:=I.pin p hp;obtain⟨a',_⟩:=F.ic.pin p hp;exact⟨a,by rw[av (ne a')];exact b,c⟩
 .by_cases z:b=x
  .subst z;rw[ak]at e;cases e;exact⟨⟨oe,h1,h2⟩,⟨oe,h1⟩,λh1 h2 ⟨o,a,c⟩ k=>⟨o,k o a,c⟩⟩
  .rw [av z]at e;exact(F.hok b o e).stay (λ_ _ _ q=>q) (λc q=>by rw[av (V3 q)];exact q) λc xs q=>by rw[av (V3 q)];exact q
def Inv.gone{n:Str}{v:Option Value}{m:SO}(I:Inv X AT σ H s)(hN:X.N.Nodup)(hj:X.N[j]?=some n)(hm:s.heap.Ns X.env.locals m)(hl:∀(i:Nat) (x:Str) (v:V),X.N[i]?=some x->σ[i]?=some (some v)->Uz X.env.scope x->∃u,RelV v u/\Look X.env s.heap m x u)(hn:h'.Ns X.env.locals (λx=>if x=n then v else m x))(hs:Heap.SameBut X.env.locals s.heap h'):Inv X AT (σ.set j none) H { s with heap:=h',toks:=t' }:=by
 have QL:∀b o,X.s₀.heap.get? b=some o->b≠X.env.locals:=λb o e=>eO (lI (bY e) I.ok.above)
 have kp:∀b o,b≠X.env.locals->s.heap.get? b=some o->h'.get? b=some o:=λb o ne e=>(hs.2 b ne).trans e
 have cellK:∀x c,X.env.cells.lookup x=some c->∀v,s.heap.IsCell c v->h'.IsCell c v:=λx c e v ⟨o,ho,hd⟩=>⟨o,kp c o (I.Jl x c e) ho,hd⟩
 refine⟨I.ok,I.os,I.bare,⟨λb o e n hb hx=>kp b o (QL b o e) (I.base.keep b o e n hb hx),λb o e n hb hx=>?_,I.base.free,λb o e hx=>?_,I.base.tups,I.base.oh,I.base.qy⟩,?_,λx c e=>?_,I.free,I.kM,λp hp=>?_,?_,by rw[jV];exact I.len⟩
 . obtain⟨sl,e1⟩:=I.base.slot b o e n hb hx
   exact⟨sl,kp b _ (QL b o e) e1⟩
 . obtain⟨o',e1⟩:=I.base.there b o e hx
   exact⟨o',kp b o' (QL b o e) e1⟩
 . refine⟨_,hn,λi y w e1 e2 e3=>?_⟩
   by_cases z:i=j
   . subst z
     rw[List.getElem?_set_self']at e2
     cases q:σ[i]? with
     | none=>rw[q]at e2;cases e2
     | some a=>rw[q]at e2;cases e2
   . rw[y9 (cD z)]at e2
     obtain⟨u,r,l⟩:=hl i y w e1 e2 e3
     refine⟨u,r,?_⟩
     rcases l with⟨k,l⟩|⟨k,c,e,zc⟩
     . have hne:y≠n:=λq=>z (zK hN e1 (q▸hj))
       exact .inl ⟨k,by show(if y=n then v else m y)=some u;rw[aB hne];exact l⟩
     . exact .inr ⟨k,c,e,cellK y c e _ zc⟩
 . obtain⟨v,z⟩:=I.cell x c e
   exact⟨v,cellK x c e v z⟩
 . obtain⟨e,n,ne,nf,d⟩:=I.pin p hp
   exact⟨kp p.1 p.2 ne e,n,ne,nf,d⟩
 . exact I.hok.Nb λb o u e hu=>kp b u (λz=>by rw[z,I.free]at e;cases e) hu
end
def FX(X:Cx)(AT:AO)(R:Addr->St->Hp->Prop)(ev:Value)(s:Shared):Prop:=∃x C σ Hc sc H',ev =.ref x/\vY X AT σ Hc sc H' x C .none s/\R C σ H'
abbrev TX:=Ends->(Addr->St->Hp->Prop)->St->Hp->Prop
def PX(X:Cx)(st:Da Stmt)(t:TX):Prop:=∀(AT:AO)(s:Shared)(σ:St)(H:Hp)(D:Ends)(R:Addr->St->Hp->Prop),Inv X AT σ H s->t D R σ H->wpAny (model X.prog X.w) X.A (execs st X.env) (SP X AT D) (FX X AT R) s
noncomputable def aga(sp:Sp)(t:TA):TX:=λD R σ H=>t σ H λvs H1=>sp (vs++[]) H1 (λv H'=>v =.cu/\D.nx σ H') λ_ c H'=>∃C,c=some C/\R C σ H'
def ajn(K:Fg)(J:Addr)(j:Nat)(t:TX)(u:TS):TS:=λD σ H=>
 t D (λC σ' H'=>PySem.W.exmOne K (.ref C) (.ref J)=some true/\∀x,H' x=none->u { nx:=λσ2 H2=>D.nx (σ2.set j none) H2,rt:=D.rt,bk:=λσ2 H2=>D.bk (σ2.set j none) H2,ct:=λσ2 H2=>D.ct (σ2.set j none) H2 } (σ'.set j (some (.ref x))) (upd H' x (D5 x C))) σ H
section
variable {X:Cx}{AT:AO}{σ:St}{Hc H:Hp}{sc s:Shared}{x C:Addr}{fl:Value}
def Inv.adT(I':Inv (X.held x) AT σ H s)(ok:X.Ok):Inv X AT σ H s:=⟨ok,I'.os,I'.bare,I'.base,I'.loc,I'.cell,I'.free,I'.kM,I'.pin,I'.hok,I'.len⟩
end
open PySem.W PySem.Calls Builtin.ObjectAttr Builtin.Getset_descriptor
structure oO(K:Frag)(C:Addr):Prop where
 ga:findIn K (.ref C) "__getattribute__"=some (some (.builtin "BaseException.__getattribute__"))
 gn:findIn K (.ref C) "__getattr__"=some none
 ca:findIn K (.ref C) "__class__"=some (some (.builtin "object.__class__"))
 mo:mroIn K C (.type "object")=some true
 mb:mroIn K C (.type "BaseException")=some true
 is:(clsIn K C).isSome=true
section
variable {prog:Program}{w:World}{A:Around}{E:VS}{h:Heap}{g:Array GenState}{d:Drawn}{t:Nat}{os:OsState}{x C:Addr}{o:Obj}{K:Frag}{R:Result->Shared->Prop}
def FU(hx:h.get? x=some o)(hc:o.cls =.ref C):Looks M h (typeOf (.ref x)) (.ref C):=hc▸(Looks.ld hx).andThen .now
def adU{tp:Value}(X:K.In h)(ec:oO K C)(hx:h.get? x=some o)(hc:o.cls =.ref C)(hq:R (.ok (.ret (.ref C))) ⟨h,g,d,t,os⟩):codeAny (model prog w) A (.call (.builtin "getset_descriptor.__get__") ⟨[.builtin "object.__class__",.ref x,tp],[]⟩) R ⟨h,g,d,t,os⟩:=by
 have L0:=FU (M:=model prog w) hx hc;have L1:=looks_mroIn (M:=model prog w) X ec.mo;refine codeAny_call_builtin KF.slot_gs.plain KF.entry_gs (KF.slot_gs.check _ _ _ _ _ _ _ _ KF.type_class (KF.args_gs _ _ _) ?_);unfold Builtin.«getset_descriptor.__get__» descrGet;rw[dga_obj];refine au (aW ?_);unfold descrGetter descrCheckInstance descrNameAndClass isInstance;simp only[KF.owner_class];repeat lk
 refine⟨Code.quiet_builtin _ (by decide +kernel),codeAny_builtin KF.entry_class ?_⟩;unfold Builtin.«object.__class__» shownTypeOf;repeat lk
 exact hq
def YA{tk:Tok}{Q:Fin->Shared->Prop}(X:K.In h)(ec:oO K C)(hx:h.get? x=some o)(hc:o.cls =.ref C)(hq:Q (.done (.ret (.ref C))) ⟨h,g,d,t,os⟩):wpAny (model prog w) A (Builtin.«object.__getattribute__» ⟨[.ref x,.str "__class__" tk],[]⟩) Q E ⟨h,g,d,t,os⟩:=by
 have L0:=FU (M:=model prog w) hx hc;have L1:=looks_findIn (M:=model prog w) X ec.ca;have hT5:(⟨h,g,d,t,os⟩:Shared).TypeIs (.builtin "object.__class__") "getset_descriptor":=F.typeOf_object_class;have f5:=F.typeOf_object_class;have f6:=F.slot_gs_get.lookup;have f7:=F.slot_gs_set.lookup;repeat (any_goals (first|assumption|with_reducible refine Looks.at L0 ?_|with_reducible refine Looks.at L1 ?_|wp_step))
 refine adU X ec hx hc ?_;repeat (any_goals (first|assumption|wp_step))
def YB{nameV:Value}(X:K.In h)(ec:oO K C)(hx:h.get? x=some o)(hc:o.cls =.ref C)(hq:Q () ⟨h,g,d,t,os⟩):wpAny M A (checkBuiltinCall "BaseException.__getattribute__" ⟨[.ref x,nameV],[]⟩) Q E ⟨h,g,d,t,os⟩:=by
 have hk:builtinKind "BaseException.__getattribute__"=some .slot:=by decide +kernel
 have hsplit:splitId "BaseException.__getattribute__"=some ("BaseException","__getattribute__"):=by decide +kernel
 have L0:=FU (M:=M) hx hc;have L1:=looks_mroIn (M:=M) X ec.mb;have ha:=F.args_bexc_ga (.ref x) nameV;simp only[checkBuiltinCall,hk,hsplit];refine au ?_
 .unfold isInstance;repeat (first|with_reducible refine Looks.at L0 ?_|with_reducible refine Looks.at L1 ?_|wp_step)
  exact hq
def abb{tk:Tok}(X:K.In h)(ec:oO K C)(hx:h.get? x=some o)(hc:o.cls =.ref C)(hq:R (.ok (.ret (.ref C))) ⟨h,g,d,t,os⟩):codeAny (model prog w) A (.call (.builtin "BaseException.__getattribute__") ⟨[.ref x,.str "__class__" tk],[]⟩) R ⟨h,g,d,t,os⟩:=codeAny_call_builtin F.excAttr_ValueError.ga.plain F.entry_bexc_ga (YB X ec hx hc (YA X ec hx hc hq))
def agb{tk:Tok}{fill expr:Bool}{Q:VS}(X:K.In h)(ec:oO K C)(hx:h.get? x=some o)(hc:o.cls =.ref C)(hq:Q (.ref C) ⟨h,g,d,t,os⟩):wpAny (model prog w) A (getAttrBy (.ref x) (.str "__class__" tk) fill expr) Q E ⟨h,g,d,t,os⟩:=by
 have L0:=FU (M:=model prog w) hx hc;have L1:=looks_findIn (M:=model prog w) X ec.ga;have L2:=looks_findIn (M:=model prog w) X ec.gn;have f3:=F.excAttr_ValueError.ga.bind (.ref x);have V2:(expr && onTheHeap (Value.builtin "BaseException.__getattribute__"))=false:=by cases expr <;> rfl
 have hx2:(Value.builtin "BaseException.__getattribute__"==Value.builtin "object.__getattribute__")=false:=by decide +kernel
 have V4:(onTheHeap (Value.ref C) && Value.builtin "BaseException.__getattribute__"==Value.builtin "object.__getattribute__")=false:=by rw[hx2];rfl
 repeat (any_goals (first|assumption|with_reducible refine Looks.at L0 ?_|with_reducible refine Looks.at L1 ?_|with_reducible refine Looks.at L2 ?_|wp_step))
 refine abb X ec hx hc ?_;repeat (any_goals (first|assumption|wp_step))
def abc{Q:Option Value->Shared->Prop}(X:K.In h)(ec:oO K C)(hx:h.get? x=some o)(hc:o.cls =.ref C)(hq:Q (some (.ref C)) ⟨h,g,d,t+1,os⟩):wpAny (model prog w) A (getAttr? (.ref x) "__class__") Q E ⟨h,g,d,t,os⟩:=by unfold getAttr? getAttrBy?;repeat (any_goals (first|assumption|with_reducible apply agb X ec hx hc|wp_step))
def YC(ec:oO K C):KitX K (.ref x) (.ref C) (λh=>∃o,h.get? x=some o/\o.cls =.ref C) where
 ty:=λ_ _ _ ⟨o,hx,hc⟩=>FU hx hc
 it:=λ_ _ X _=>by
  have:=ec.is;unfold clsIn at this;split at this
  .rename_i c' d' cd' LU ho;intro A' Q' E' s' k q;unfold isType loadHead;exact au (wpAny_loadPart (k _ _ (X _ _ ho)) (aW q))
  .cases this
 ne:=λh tp dd Bi n sl X htp=>by
  have:=ec.is;refine gX.mpr λq=>?_;have e:C=tp:=Value.ref.inj (mS.mp q);subst e;unfold clsIn at this;split at this
  .rename_i c' d' cd' LU ho;have z:=(X _ _ ho).symm.trans htp;cases z
  .cases this
 ca:=λ{_ _ _ _ _ s} X ⟨o,hx,hc⟩ k=>by obtain⟨h,g,d,t,os⟩:=s;exact abc X ec hx hc k
end
theorem Nd{K:Frag}{bmB:Da Value}{x:Value}(hb:bmB.contains x=true):∀{l:Da Value},tailIn K bmB l=true->l.contains x=true
 | [],e=>by rw[mS.mp (show(bmB==[])=true from e)]at hb;exact hb
 | v::r,e=>by
  unfold tailIn at e;rcases Hs.mp e with q|q
  .rw [mS.mp q];exact hb
  .split at q
   .split at q
    .simp only[EK]at q;rw[List.contains_cons,Nd hb q.2,Bool.or_true]
    .cases q
   .cases q
noncomputable def yI(K:Frag)(N:Addr)(x:Str):Option Value:=match K.lookup N with
 | some o=>(match o.data with | .dict es _=>nsFind es x|_=>none)
 | none=>none
def To{K:Frag}{N:Addr}(X:K.In h)(e:nsOkIn K N=true):h.nsMap N=yI K N:=by
 unfold nsOkIn at e;split at e
 .rename_i ho;funext x;unfold yI Heap.nsMap;rw[X _ _ ho,ho]
 .cases e
def Nf{K:Frag}{N:Addr}(q:nsIn K N x=some none):yI K N x=none:=by
 unfold nsIn at q;unfold yI;split at q
 .rename_i c d es n sl ho;rw[ho];show nsFind es x=none;split at q
  .cases q
  .rename_i he;unfold nsFind findBy;rw[<-Array.find?_toList,he];rfl
 .cases q
def jH.of{K:Frag}(q:excIn K C adQ "ValueError.__new__"=true):jH K C:=by
 unfold excIn at q;split at q
 .rename_i dd cd sl ho;split at q
  .rename_i C' bm k0 k1 k2 k3 n k5 hm hs;simp only[EK,mS,Bool.not_eq_true']at q;obtain⟨⟨⟨⟨⟨rfl,rfl⟩,adV⟩,ht⟩,hok⟩,hni⟩:=q;obtain⟨nm,bs,mro,ns,qn,hd,sn,sub,ab,col,del⟩:=cd;dsimp only at hm adV hok hni;subst hm adV;have hsl:sl=#[k0,k1,k2,k3,some (.builtin "ValueError.__new__"),k5] :=by obtain⟨l⟩:=sl;simp only at hs;rw[hs]
   subst hsl;refine⟨nm,qn,ns,bs,bm,hd,sn,sub,ab,col,dd,k0,k1,k2,k3,k5,yI K ns,Nf hni,Nd (by decide +kernel) ht,λh X=>⟨X _ _ ho,?_,tail_of_in X ht⟩⟩;have:=Heap.Ns.of_isNs (isNs_of_in X hok);rw[To X hok]at this;exact this
  .cases q
 .cases q
noncomputable def Ng:V->Value
 | .ref a=> .ref a
 | .ty n=> .type n
 | _=> .none
section
variable {X:Cx}
def fT(K:Frag)(hK:X.K=K):iB X (.builtin "isinstance") (λxs H Q=>∃x C c b,xs=[.ref x,c]/\H x=some (D5 x C)/\oO K C/\RelV c (Ng c)/\kitOne K (.ref C) (Ng c)=some b/\Q (.bl b) H):=by
 subst hK;intro AT s σ H xs us Q I r h;obtain⟨x,C,c,b,rfl,hx,ec,rc,e,q⟩:=h;obtain⟨u,w',rfl,ru,rw'⟩:=vals2 r;have e1:u =.ref x:=ru;subst e1;have e2:w'=Ng c:=by
  cases c with
  | ref a=>exact rw'
  | ty n=>exact rw'
  | cu=>exact rw'
  | bl b=>exact nomatch (show Value.none=Value.bool b from rc)
  | int i=>obtain⟨t,z⟩:=(show ∃t,Value.none=Value.int i t from rc);cases z
  | str i=>obtain⟨t,z⟩:=(show ∃t,Value.none=Value.str i t from rc);cases z
  | yp i=>obtain⟨t,z⟩:=(show ∃t,Value.none=Value.bytes i t from rc);cases z
  | Ji i=>obtain⟨t,z⟩:=(show ∃t,Value.none=Value.float i t from rc);cases z
 subst e2;exact kia_one (YC ec) I.jB (I.hok x _ hx).1 e (λz=>nomatch z) λtk=>⟨.bl b,H,I.tok _,Z,q⟩
end
structure Ec where
 (bad twice vd qM FW oQ qN rows Nh FY YD:Addr)
structure Told(K:Frag)(e:Ec)(C:Addr)(i:Nat):Prop where
 ec:oO K C
 jt:exmOne K (.ref C) (.ref e.YD)=some true
 ve:kitOne K (.ref C) (.type "ValueError")=some true
 k0:kitOne K (.ref C) (.ref e.bad)=some (decide (0=i))
 k1:kitOne K (.ref C) (.ref e.twice)=some (decide (1=i))
 k2:kitOne K (.ref C) (.ref e.vd)=some (decide (2=i))
 k3:kitOne K (.ref C) (.ref e.qM)=some (decide (3=i))
 k4:kitOne K (.ref C) (.ref e.FW)=some (decide (4=i))
 k5:kitOne K (.ref C) (.ref e.oQ)=some (decide (5=i))
 k6:kitOne K (.ref C) (.ref e.qN)=some (decide (6=i))
 k7:kitOne K (.ref C) (.ref e.rows)=some (decide (7=i))
 k8:kitOne K (.ref C) (.ref e.Nh)=some (decide (8=i))
 k9:kitOne K (.ref C) (.ref e.FY)=some (decide (9=i))
noncomputable def Ni(i:Nat):Da Bool:=true::(List.range 10).map λk=>decide (k=i)
noncomputable def Ic(i:Nat):Da V:=(Ni i).map V.bl
def Told.of{K:Frag}{e:Ec}{b0 b1 b2 b3 b4 b5 b6 b7 b8 b9:Bool}(ga:findIn K (.ref C) "__getattribute__"=some (some (.builtin "BaseException.__getattribute__")))(gn:findIn K (.ref C) "__getattr__"=some none)(ca:findIn K (.ref C) "__class__"=some (some (.builtin "object.__class__")))(mo:mroIn K C (.type "object")=some true)(mb:mroIn K C (.type "BaseException")=some true)(jt:exmOne K (.ref C) (.ref e.YD)=some true)(ve:kitOne K (.ref C) (.type "ValueError")=some true)(k0:kitOne K (.ref C) (.ref e.bad)=some b0)(k1:kitOne K (.ref C) (.ref e.twice)=some b1)(k2:kitOne K (.ref C) (.ref e.vd)=some b2)(k3:kitOne K (.ref C) (.ref e.qM)=some b3)(k4:kitOne K (.ref C) (.ref e.FW)=some b4)(k5:kitOne K (.ref C) (.ref e.oQ)=some b5)(k6:kitOne K (.ref C) (.ref e.qN)=some b6)(k7:kitOne K (.ref C) (.ref e.rows)=some b7)(k8:kitOne K (.ref C) (.ref e.Nh)=some b8)(k9:kitOne K (.ref C) (.ref e.FY)=some b9)(h:[b0,b1,b2,b3,b4,b5,b6,b7,b8,b9]=(List.range 10).map λk=>decide (k=i)):Told K e C i:=by
 have h':[b0,b1,b2,b3,b4,b5,b6,b7,b8,b9]=[decide (0=i),decide (1=i),decide (2=i),decide (3=i),decide (4=i),decide (5=i),decide (6=i),decide (7=i),decide (8=i),decide (9=i)] :=h
 simp only[List.cons.injEq,and_true]at h'
 obtain⟨rfl,rfl,rfl,rfl,rfl,rfl,rfl,rfl,rfl,rfl⟩:=h'
 have is:(clsIn K C).isSome=true:=by unfold mroIn at mo;obtain⟨cd,a,b⟩:=Option.bind_eq_some_iff.mp mo;rw[a];rfl
 exact⟨⟨ga,gn,ca,mo,mb,is⟩,jt,ve,k0,k1,k2,k3,k4,k5,k6,k7,k8,k9⟩
def vZ(K:Frag)(j:Nat)(c:V):TE:=Zp (λxs H Q=>∃x C c b,xs=[.ref x,c]/\H x=some (D5 x C)/\oO K C/\RelV c (Ng c)/\kitOne K (.ref C) (Ng c)=some b/\Q (.bl b) H) (jY (xW j) (jY (tC c) ng))
def agc(K:Frag)(e:Ec)(i j:Nat):TS:=zL (AQ (SM (jY (vZ K j (.ty "ValueError")) (jY (vZ K j (.ref e.bad)) (jY (vZ K j (.ref e.twice)) (jY (vZ K j (.ref e.vd)) ng))))) (iA i))
  (zL (AQ (Aw XF (xW i) (SM (jY (vZ K j (.ref e.qM)) (jY (vZ K j (.ref e.FW)) (jY (vZ K j (.ref e.oQ)) ng))))) (iA i))
    (AQ (Aw XF (xW i) (SM (jY (vZ K j (.ref e.qN)) (jY (vZ K j (.ref e.rows)) (jY (vZ K j (.ref e.Nh)) (jY (vZ K j (.ref e.FY)) ng)))))) (iA i)))
section
def Tp{K:Frag}{e:Ec}{σ:St}{x:Addr}(to:Told K e C n)(hj:σ[j]?=some (some (.ref x)))(hi:i<σ.length)(hij:i≠j)(hx:H x=some (D5 x C))(q:∀l H',aE H H'->H' l=some (.lst (Ic n))->D.nx (σ.set i (some (.ref l))) H'):agc K e i j D σ H:=by
 have ZN:∀(σ:St)(v:V),i<σ.length->(σ.set i (some v))[i]?=some (some v):=λσ v h=>uc h
 have ZO:∀(σ:St)(v:V),σ[j]?=some (some (.ref x))->(σ.set i (some v))[j]?=some (some (.ref x)):=λσ v h=>by rw[y9 hij];exact h
 refine⟨_,hj,x,C,_,_,Z,hx,to.ec,Z,to.ve,?_⟩
 refine⟨_,hj,x,C,_,_,Z,hx,to.ec,Z,to.k0,?_⟩
 refine⟨_,hj,x,C,_,_,Z,hx,to.ec,Z,to.k1,?_⟩
 refine⟨_,hj,x,C,_,_,Z,hx,to.ec,Z,to.k2,?_⟩
 refine⟨(show 4<=sizeLine from by rw[gy];decide),λp1 hp1=>?_⟩
 generalize hH1:upd H p1 (HO.lst _)=H1
 have YE:upd H p1 (.lst [V.bl true,V.bl (decide (0=n)),V.bl (decide (1=n)),V.bl (decide (2=n))])=H1:=hH1
 have g1:aE H H1:=YE▸aA hp1 _
 have h1:H1 p1=some (.lst [V.bl true,V.bl (decide (0=n)),V.bl (decide (1=n)),V.bl (decide (2=n))]):=by rw[<-YE,ak]
 clear hH1 YE
 have hj1:=ZO σ (.ref p1) hj
 have V4:=g1 _ _ hx
 refine⟨_,ZN _ _ hi,?_⟩
 refine⟨_,hj1,x,C,_,_,Z,V4,to.ec,Z,to.k3,?_⟩
 refine⟨_,hj1,x,C,_,_,Z,V4,to.ec,Z,to.k4,?_⟩
 refine⟨_,hj1,x,C,_,_,Z,V4,to.ec,Z,to.k5,?_⟩
 refine⟨(show 3<=sizeLine from by rw[gy];decide),λp2 hp2=>?_⟩
 generalize hH2:upd H1 p2 (HO.lst _)=H2
 have YF:upd H1 p2 (.lst [V.bl (decide (3=n)),V.bl (decide (4=n)),V.bl (decide (5=n))])=H2:=hH2
 have g2:aE H1 H2:=YF▸aA hp2 _
 have h2:H2 p2=some (.lst [V.bl (decide (3=n)),V.bl (decide (4=n)),V.bl (decide (5=n))]):=by rw[<-YF,ak]
 clear hH2 YF
 refine⟨p1,p2,_,_,Z,Z,g2 _ _ h1,h2,(show 4+3<=sizeLine from by rw[gy];decide),λp3 hp3=>?_⟩
 generalize hH3:upd H2 p3 (HO.lst _)=H3
 have YG:upd H2 p3 (.lst [V.bl true,V.bl (decide (0=n)),V.bl (decide (1=n)),V.bl (decide (2=n)),V.bl (decide (3=n)),V.bl (decide (4=n)),V.bl (decide (5=n))])=H3:=hH3
 have g3:aE H2 H3:=YG▸aA hp3 _
 have h3:H3 p3=some (.lst [V.bl true,V.bl (decide (0=n)),V.bl (decide (1=n)),V.bl (decide (2=n)),V.bl (decide (3=n)),V.bl (decide (4=n)),V.bl (decide (5=n))]):=by rw[<-YG,ak]
 clear hH3 YG
 have JP:=ZO _ (.ref p3) hj1
 have Rz:=g3 _ _ (g2 _ _ V4)
 refine⟨_,ZN _ _ (by rw[jV];exact hi),?_⟩
 refine⟨_,JP,x,C,_,_,Z,Rz,to.ec,Z,to.k6,?_⟩
 refine⟨_,JP,x,C,_,_,Z,Rz,to.ec,Z,to.k7,?_⟩
 refine⟨_,JP,x,C,_,_,Z,Rz,to.ec,Z,to.k8,?_⟩
 refine⟨_,JP,x,C,_,_,Z,Rz,to.ec,Z,to.k9,?_⟩
 refine⟨(show 4<=sizeLine from by rw[gy];decide),λp4 J1=>?_⟩
 generalize hH4:upd H3 p4 (HO.lst _)=H4
 have YH:upd H3 p4 (.lst [V.bl (decide (6=n)),V.bl (decide (7=n)),V.bl (decide (8=n)),V.bl (decide (9=n))])=H4:=hH4
 have g4:aE H3 H4:=YH▸aA J1 _
 have h4:H4 p4=some (.lst [V.bl (decide (6=n)),V.bl (decide (7=n)),V.bl (decide (8=n)),V.bl (decide (9=n))]):=by rw[<-YH,ak]
 clear hH4 YH
 refine⟨p3,p4,_,_,Z,Z,g4 _ _ h3,h4,(show 7+4<=sizeLine from by rw[gy];decide),λp5 hp5=>?_⟩
 have g5:=aA hp5 (.lst (Ic n))
 have:=q p5 (upd H4 p5 (.lst (Ic n))) (g1.trans (g2.trans (g3.trans (g4.trans g5)))) ak
 show D.nx (((σ.set i _).set i _).set i _) _
 rw[xw,xw]
 exact this
end
structure Mx(P:Program)(w:World)(K:Fg)(mg:SO)(base:Heap)(k:Nat)(C:Addr)(m:Str)(ps:Da Str)(sp:Sp):Prop where
 ex:∃f fd,je P w K mg base (gJ P w) k f fd ps sp/\Binds K fd ps []/\Meth K C m f/\p_ K C
def jF.okX{m:Str}{st:Stmt}{k:Nat}(F:jF K C m qual st f fd)(S:aJ N ps (ay st))(len:∀vs H Q E,sp vs H Q E->vs.length=ps.length)(Ch:∀(cdv:Value) (A:Around) (outer:Da Env) (s:Shared) (H:Hp) (vs:Da V) (Q:VK) (E:XK),dR k (A.deeper (envOfC qual (ay st) s.heap.objs.size f cdv))->sp vs H Q E->
    ∃t,rQ (cX (gJ P w) P w K mg base N qual (ay st) f cdv A outer s H E) (cU st) t/\t { nx:=λ_ H'=>Q .cu H',rt:=Q } (start N vs) H)(h:∀(kV doc pm:Value) (an:Option Addr) (cdv ct:Value) (us:Da Value),us.length=ps.length->bindArgs (PySem.W.fnOf m qual (fh st) (cU st) (ay st) .none kV doc pm an cdv ct) ⟨us,[]⟩=pure (ps.zip us)):
  Mx P w K mg base (k+1) C m ps sp:=by
 refine⟨f,fd,?_,F.fn.binds h,F.me,F.cl⟩
 obtain⟨oc,od,kV,doc,pm,an,cdv,ct,osl,rfl,lk,hcd⟩:=F.fn.ex
 exact SQ lk hcd S len λA outer s H vs Q E hr qB=>Ch cdv A outer s H vs Q E hr qB
def je.noX{k:Nat}{J3:Sp}(F:je P w K mg base (gJ P w) k f fd ps sp)(h:∀vs H Q E,J3 vs H Q E->sp vs H Q E0):je P w K mg base uV k f fd ps J3:=⟨λvs H Q E q=>F.len _ _ _ _ (h _ _ _ _ q),λA outer s H args us vs Q E hr he hb hv hs=>Ck (F.run A outer s H args us vs Q E0 hr he hb hv (h _ _ _ _ hs)) λr s' q=>by
 cases r with
 | error e=>
  obtain⟨x,T,C,H',_,_,_,_,_,_,_,_,_,_,z⟩:=(show gJ P w outer H s E0 e s' from q)
  exact z.elim
 | ok fl=>cases fl <;> exact q⟩
def Mx.mn{k:Nat}{m:Str}{J3:Sp}(D:Mx P w K mg base k C m ps sp)(h:∀vs H Q E,J3 vs H Q E->sp vs H Q E0):Mn P w K mg base k C m ps J3:=by obtain⟨f,fd,F,b,me,c⟩:=D.ex;exact⟨f,fd,F.noX h,b,me,c⟩
section
variable {P:Program}{w:World}{K:Fg}{mg:SO}{base:Heap}{N:Da Str}{qual:Str}{scope:Scope}{f:Addr}{cd:Value}{A:Around}{outer:Da Env}{s0:Shared}{H0:Hp}{E:XK}
end
section
variable {X:Cx}
end
noncomputable def Ec.at(e:Ec):Nat->Addr
 | 0=>e.bad|1=>e.twice|2=>e.vd|3=>e.qM|4=>e.FW|5=>e.oQ|6=>e.qN|7=>e.rows|8=>e.Nh|_=>e.FY
def Rf(e:Ec)(E:XK)(H:Hp)(i:Nat):Prop:=∀x H',aE H H'->E (.ref x) (some (e.at i)) H'
def Rf.mono{e:Ec}{E:XK}(r:Rf e E H i)(s:aE H H'):Rf e E H' i:=λx H2 s2=>r x H2 (s.trans s2)
structure RA(T:TC)(e:Ec)(n:Nat)(ρ:dO)(A:HA)(H:Hp)(r:Option Nat)(st':HS)(Q:VK)(E:XK):Prop where
 no:∀i,r=some i->Rf e E H i
 ok:r=none->zU T n ρ A H st' λH'=>Q .cu H'
noncomputable def newR(st:HS)(x:Str):Option Nat:=if isNm x=true then(if x∈st.nms then some 1 else none) else some 0
noncomputable def agd(st:HS)(o:Str):Option Nat:=if isNm o=true then(if o∈st.own then some 1 else none) else some 0
noncomputable def age(st:HS)(x o:Str)(wo we:Int):Option Nat:=match newR st x with
 | some i=>some i
 | none=>if o∈st.own then(if wo<1\/we<0 then some 5 else none) else some 2
inductive abd(T:TC)(e:Ec)(vs:Da V)(H:Hp)(Q:VK)(E:XK):Prop
 |mk(n ρ A st o:_)(_:vs=[.ref A.a,.str o])(_:a_ T n ρ A H st)(_:(o∉st.own->Rf e E H 2))(_:(o∈st.own->Q (.int (st.own.idxOf o:Int)) H))
def D6(T:TC)(e:Ec):Sp:=bx (abd T e)
inductive YI(T:TC)(e:Ec)(vs:Da V)(H:Hp)(Q:VK)(E:XK):Prop
 |mk(n ρ A st x:_)(_:vs=[.ref A.a,.str x])(_:a_ T n ρ A H st)(_:(st.ah.map (·.nm)).Nodup)(_:((∀p∈st.ah,p.nm≠x)->Rf e E H 3))(_:∀(i:Nat) (p:Pt) (q:Addr×Addr×Addr),p.nm=x->st.ah[i]?=some p->A.qs[i]?=some q->Q (.ref q.1) H)
def xJ(T:TC)(e:Ec):Sp:=bx (YI T e)
def RA.of{e:Ec}{A:HA}{r:Option Nat}{Q:VK}(h:r=none)(q:zU T n ρ A H st' λH'=>Q .cu H'):RA T e n ρ A H r st' Q E0:=⟨(λi z=>by rw[h]at z;cases z),λ_=>q⟩
inductive ajo(vs:Da V)(H:Hp)(Q:VK)(E:XK):Prop
 |mk(n:Nat)(_:vs=[.int (n:Int)])(_:∀p H',aE H H'->H' p=some (.lst (Ic n))->Q (.ref p) H')
def Tq:Sp:=bx (ajo)
def abe{Q:VK}{E:XK}{i:Int}(e:i=(n:Int))(q:∀p H',aE H H'->H' p=some (.lst (Ic n))->Q (.ref p) H'):Tq [.int i] H Q E:=⟨n,by rw[e],q⟩
theorem Nj{K:Fg}{H:Hp}:∀bs:Da Bool,yw K H (bs.map V.bl) (bs.map PyData.bool)
 | []=> .nil
 | b::bs=> .cons (.bl b) (Nj bs)
inductive Dd where
 | sign (o:Str)|load (x o:Str) (wo we:Int)|cast (rs:Da Row)|award (o:Str) (a:Int)|mishap (x:Str) (a:Int)|rise (x:Str) (a:Int)|hand (x o:Str)|land (x:Str)|sever (x y:Str) (a we:Int)|still
noncomputable def kg:Da Row->Da V
 | []=>[]
 | r::rs=> .str r.1 :: .int r.2::kg rs
noncomputable def Dd.v:Dd->Da V
 | .sign o=>[.str "sign",.str o]
 | .load x o wo we=>[.str "load",.str x,.str o,.int wo,.int we]
 | .cast rs=> .str "cast"::kg rs
 | .award o a=>[.str "award",.str o,.int a]
 | .mishap x a=>[.str "mishap",.str x,.int a]
 | .rise x a=>[.str "rise",.str x,.int a]
 | .hand x o=>[.str "hand",.str x,.str o]
 | .land x=>[.str "land",.str x]
 | .sever x y a we=>[.str "sever",.str x,.str y,.int a,.int we]
 | .still=>[.str "still"]
noncomputable def jM(st:HS):Da Str:=st.ah.map λp=>p.nm
noncomputable def iT(st:HS)(r:Row):Option Nat:=if r.1∈jM st then(if r.2<1 then some 5 else if(dN st r.1).wo<r.2 then some 6 else none) else some 3
noncomputable def jN(st:HS)(rs:Da Row):Option Nat:=if rs≠[]/\(rs.map λr:Row=>r.1).Nodup then(match rs.findSome? (iT st)with
 | some i=>some i
 | none=>if aR st<=bJ rs then some 6 else none) else some 7
noncomputable def lq(st:HS)(o:Str)(a:Int):Option Nat:=if o∈st.own then(if a<1 then some 5 else if aR st<=a then some 6 else none) else some 2
noncomputable def agf(st:HS)(x:Str)(a:Int):Option Nat:=if x∈jM st then(if a<1 then some 5 else none) else some 3
noncomputable def agg(st:HS)(x o:Str):Option Nat:=if x∈jM st then(if o∈st.own then none else some 2) else some 3
noncomputable def o6(st:HS)(x:Str):Option Nat:=if x∈jM st then none else some 3
noncomputable def adX(st:HS)(x y:Str)(a we:Int):Option Nat:=if x∈jM st then(match newR st y with
 | some i=>some i
 | none=>if a<1\/we<0 then some 5 else if(dN st x).wo<=a\/(dN st x).we<we then some 6 else none) else some 3
noncomputable def kI(st:HS):Dd->Option Nat
 | .sign o=>agd st o
 | .load x o wo we=>age st x o wo we
 | .cast rs=>jN st rs
 | .award o a=>lq st o a
 | .mishap x a=>iT st (x,a)
 | .rise x a=>agf st x a
 | .hand x o=>agg st x o
 | .land x=>o6 st x
 | .sever x y a we=>adX st x y a we
 | .still=>none
noncomputable def FZ(st:HS)(o:Str)(a:Int):HS:=cK st (aR st-a) (aR st) ((List.replicate st.own.length 0).set (st.own.idxOf o) (a*st.prod))
noncomputable def onP(st:HS)(x:Str)(f:Pt->Pt):HS:={ st with ah:=st.ah.map λp=>if p.nm=x then f p else p }
noncomputable def agh(st:HS)(x:Str)(a:Int):HS:=onP st x λp=>{ p with wo:=p.wo+a }
noncomputable def agi(st:HS)(p:Pt)(o:Str):Da Int:=((bR st p).set (st.own.idxOf o) ((bR st p).getD (st.own.idxOf o) 0+(bR st p).getD (st.own.idxOf p.ow) 0)).set (st.own.idxOf p.ow) 0
noncomputable def agj(st:HS)(x o:Str):HS:=if st.own.idxOf o=st.own.idxOf (dN st x).ow then st else onP st x λp=>{ p with ow:=o,sc:=1,row:=Bg st (agi st p o) }
noncomputable def jO(st:HS)(p:Pt):Da Int:=List.zipWith (λu t=>u+p.wo*t) st.cJ (bR st p)
noncomputable def CI(st:HS)(x:Str):HS:={ st with ah:=st.ah.filter (λp=>decide (p.nm≠x)),dB:=st.dB++[⟨x,(dN st x).ow,(dN st x).wo,oM st (dN st x)⟩],kn:=st.kn+100,cJ:=(jO st (dN st x)).set (st.own.idxOf (dN st x).ow) ((jO st (dN st x)).getD (st.own.idxOf (dN st x).ow) 0-(dN st x).wo*st.prod) }
noncomputable def adZ(st:HS)(x y:Str)(a we:Int):HS:=CC (onP st x λp=>{ p with wo:=p.wo-a,we:=p.we-we }) ⟨y,(dN st x).ow,a,we,(dN st x).sc,(dN st x).row⟩
noncomputable def tH(st:HS):Dd->HS
 | .sign o=>gC st o
 | .load x o wo we=>zV st x o wo we
 | .cast rs=>j9 st rs
 | .award o a=>FZ st o a
 | .mishap x a=>gR st (x,a)
 | .rise x a=>agh st x a
 | .hand x o=>agj st x o
 | .land x=>CI st x
 | .sever x y a we=>adZ st x y a we
 | .still=>st
inductive abf(T:TC)(e:Ec)(al:HS->Dd->Prop)(K:Fg)(vs:Da V)(H:Hp)(Q:VK)(E:XK):Prop
 |mk(n ρ A st z d:_)(_:vs=[.ref A.a,.ref z])(_:cV K H z (Dd.v d))(_:HH T n ρ A H st)(_:al st d)(_:RA T e n ρ A H (kI st d:_) (tH st d:_) Q E)
def Nk(T:TC)(e:Ec)(al:HS->Dd->Prop)(K:Fg):Sp:=bx (abf T e al K)
inductive ad0(T:TC)(al:HS->Dd->Prop)(K:Fg)(vs:Da V)(H:Hp)(Q:VK)(E:XK):Prop
 |mk(n ρ A st z d:_)(_:vs=[.ref A.a,.ref z])(_:cV K H z (Dd.v d))(_:HH T n ρ A H st)(_:al st d)(_:(∀i,kI st d=some i->∀l H',aE H H'->H' l=some (.lst (Ic i))->Q (.ref l) H'))(_:(kI st d=none->∀l ρ' A' H',HH T n ρ' A' H' (tH st d:_)->A'.a=A.a->Fr n ρ H ρ' H'->H' l=some (.lst [])->ρ' l=none->H l=none->Q (.ref l) H'))
def Ie(T:TC)(al:HS->Dd->Prop)(K:Fg):Sp:=bx (ad0 T al K)
noncomputable def wl(s:Str):Nat:=s.cps.toList.length
def Tr(cs:Da Nat):wl (tx cs)=cs.length:=by unfold wl;show cs.toArray.toList.length=_;simp
section
variable {X:Cx}
inductive agk(x:V)(y:V)(H:Hp)(Q:VK):Prop
 |mk(i j:Str)(_:x =.str i)(_:y =.str j)(_:wl i+wl j<=10000)(_:∀r:Str,wl r=wl i+wl j->Q (.str r) H)
def r_:ji X (binaryOp .Add) agk:=by intro AT s σ H x y v u Q I rx ry h;obtain⟨i,j,rfl,rfl,hz,q⟩:=h;rw[<-yx i]at rx;rw[<-yx j]at ry;exact aba AT s σ H _ _ v u Q I rx ry ⟨_,_,Z,Z,fZ hz (by decide),q _ (by rw[Tr,c8];rfl)⟩
inductive ajp(x:V)(lo:Option Int)(hi:Option Int)(H:Hp)(Q:VK):Prop
 |mk(i:Str)(_:x =.str i)(_:wl i<=10000)(_:∀r:Str,wl r<=wl i->(∀n:Nat,lo=none->hi=some (n:Int)->wl r<=n)->Q (.str r) H)
theorem yJ:SlR X ajp:=by
 intro AT s σ H x v vl vu lo hi sl Q I rx hs pl pu h;obtain⟨i,rfl,hz,q⟩:=h;rw[<-yx i]at rx;refine ac7 AT s σ H _ v vl vu lo hi sl Q I rx hs pl pu ⟨_,Z,by rw[gy];exact fZ hz (by decide),q _ ?_ ?_⟩
 .rw [Tr];exact Di _ _ _
 .rintro n rfl rfl;rw[Tr,aaE,kL];omega
end
theorem V5{α:Type}{xs:Da α}{i:Int}(h1:-(xs.length:Int)<=i)(h2:i<(xs.length:Int)):∃v∈xs,qa xs i=some v:=by
 unfold qa De;by_cases h0:0<=i
 .rw [aC h0,aC h2];have hj:i.toNat<xs.length:=by omega
  exact⟨xs[i.toNat],uZ hj,aY hj⟩
 .rw [aB h0,aC h1];have hj:(i+xs.length).toNat<xs.length:=by omega
  exact⟨xs[(i+xs.length).toNat],uZ hj,aY hj⟩
def ad1:∀i:Fin 10,SeqAt.shaped (.list ((Ni i.val).map PyData.bool))=true/\PyData.eqv (.list ((Ni i.val).map PyData.bool)) (.list ((Ni i.val).map PyData.bool))=true:=by decide +kernel
noncomputable def told(r:Option Nat):Da Bool:=match r with
 | some i=>Ni i
 | none=>[]
noncomputable def LB(r:Option Nat):Da V:=(told r).map V.bl
def RB(r:Option Nat):yw K H (LB r) ((told r).map PyData.bool):=Nj _
def Ig{r:Option Nat}(h:∀i,r=some i->i<10):SeqAt.shaped (.list ((told r).map PyData.bool))=true/\PyData.eqv (.list ((told r).map PyData.bool)) (.list ((told r).map PyData.bool))=true:=by
 cases r with
 | none=>exact⟨Z,Z⟩
 | some i=>exact ad1 ⟨i,h i rfl⟩
noncomputable def v5(st:HS)(d:Dd):HS:=match kI st d with
 | some _=>st
 | none=>tH st d
def abg{l l':Addr}{r:Option Nat}{Q:VK}(h1:H l=some (.lst (LB r)))(h2:H l'=some (.lst (LB r)))(h:∀i,r=some i->i<10)(q:Q (.bl true) H):XW K (.ref l) (.ref l') H Q:=⟨_,_,.lst (az.of h1) (RB r),.lst (az.of h2) (RB r),(Ig h).1,(Ig h).1,by rw[(Ig h).2];exact q⟩
section
variable {P:Program}{w:World}{K:Fg}{mg:SO}{base:Heap}{k:Nat}{T:TC}{e:Ec}{ps:Da Str}
def YJ(D:Mx P w K mg base k T.hold "place_of" ps (D6 T e)):Mn P w K mg base k T.hold "place_of" ps (HV T):=D.mn λvs H Q E h=>by obtain⟨⟨n,ρ,A,st,o,rfl,hx,ho,q⟩⟩:=h;exact⟨n,ρ,A,st,o,Z,hx,λz=>absurd ho z,λ_=>q⟩
def V6(D:Mx P w K mg base k T.hold "part_of" ps (xJ T e)):Mn P w K mg base k T.hold "part_of" ps (MJ T):=D.mn λvs H Q E h=>by obtain⟨⟨n,ρ,A,st,i,p,qq,rfl,hx,nd,ep,eq,q⟩⟩:=h;refine⟨n,ρ,A,st,p.nm,Z,hx,nd,λz=>absurd rfl (z p (bK ep)),λj p' q' e1 e2 e3=>?_⟩;have:j=i:=ME nd e2 ep e1;subst this;rw[eq]at e3;cases e3;exact q
end
def nB(i:Int):Prop:=-1000000000<=i/\i<=1000000000
noncomputable def J4:Dd->Prop
 | .sign o=>wl o<=20
 | .load x o wo we=>wl x<=20/\wl o<=20/\nB wo/\nB we
 | .cast rs=>rs.length<=60/\∀r∈rs,wl r.1<=20/\nB r.2
 | .award o a=>wl o<=20/\nB a
 | .mishap x a=>wl x<=20/\nB a
 | .rise x a=>wl x<=20/\nB a
 | .hand x o=>wl x<=20/\wl o<=20
 | .land x=>wl x<=20
 | .sever x y a we=>wl x<=20/\wl y<=20/\nB a/\nB we
 | .still=>True
noncomputable def Dd.k:Dd->Nat
 | .sign _=>0 | .load .. =>1 | .cast _=>2 | .award .. =>3 | .mishap .. =>4 | .rise .. =>5 | .hand .. =>6 | .land _=>7 | .sever .. =>8 | .still=>9
structure Bk(b:BS):Prop where
 own:∀x∈b.own,wl x<=20
 dG:∀x∈b.dG,wl x<=20
 ah:∀p∈b.ah,wl p.nm<=20
 wo:∀p∈b.ah,0<=p.wo/\0<=p.we
 ol:b.own.length<=100
 kl:b.dG.length<=1000
 pl:b.ah.length<=1000
inductive Tt(K:Fg)(vs:Da V)(H:Hp)(Q:VK)(E:XK):Prop
 |mk(a:Addr)(ms:Da Int)(k:Int)(n:Nat)(ρ:dO)(B:BA)(b:BS)(x:Str)(_:vs=[.ref a,.int k,.ref B.m,.str x])(_:az K H a (ms.map V.int))(_:ms.length<=63)(_:0<=k)(_:aV n ρ B H b)(_:Bk b)(_:wl x<=20)(_:∀r H',aE H H'->wl r<=20->Q (.str r) H')
def Dz(K:Fg):Sp:=bx (Tt K)
noncomputable def Tu:Option Nat->Int
 | none=>-1
 | some i=>i
inductive ajq(al:HS->Dd->Prop)(K:Fg)(vs:Da V)(H:Hp)(Q:VK)(E:XK):Prop
 |mk(n:Nat)(ρ:dO)(B:BA)(b:BS)(st:HS)(z:Addr)(d:Dd)(_:vs=[.ref B.m,.ref z])(_:cV K H z d.v)(_:aV n ρ B H b)(_:jG st b)(_:Wf st)(_:vV b)(_:st.nms=b.dG)(_:al st d)(_:J4 d)(_:∀H',aE H H'->Q (.int (Tu (kI st d))) H')
def CJ(al:HS->Dd->Prop)(K:Fg):Sp:=bx (ajq al K)
def lu(m:Nat)(vs:Da V):Prop:=∀v∈vs,∃s:Str,v =.str s/\wl s<=m
def lu.nil:lu m [] :=λ_ h=>nomatch h
def lu.cons{m:Nat}{s:Str}{vs:Da V}(h:wl s<=m)(hs:lu m vs):lu m (.str s::vs):=λv hv=>by
 rcases c_.mp hv with rfl|hv
 .exact ⟨s,Z,h⟩
 .exact hs v hv
def lu.append{us:Da V}(h:lu m vs)(hu:lu m us):lu m (vs++us):=λv hv=>(fk.mp hv).elim (h v) (hu v)
theorem lu.map{xs:Da Str}(h:∀x∈xs,wl x<=m):lu m (xs.map V.str):=λv hv=>by obtain⟨x,hx,rfl⟩:=bD.mp hv;exact⟨x,Z,h x hx⟩
theorem Bv:∀(l m:Da Row),kg (l++m)=kg l++kg m
 | [],_=>rfl
 | r::l,m=>by
  show V.str r.1::V.int r.2::kg (l++m)=V.str r.1::V.int r.2::(kg l++kg m)
  rw[Bv l m]
theorem Bw:∀l:Da Row,(kg l).length=2*l.length
 | []=>rfl
 | r::l=>by show(kg l).length+1+1=_;rw[Bw l,jm];omega
theorem Ih(h:isNm x=true):wl x<=20:=by unfold isNm isName at h;have:=dH (mJ.mp (mJ.mp h).1).2;unfold wl;omega
theorem d_.sub(g:d_ c st b)(wf:Wf st){p:BP}(hp:p∈b.ah):p.nm∈b.dG/\p.ow∈b.own/\1<=p.wo/\0<=p.we:=by
 obtain⟨j,hj,ej⟩:=uf hp;obtain⟨p',Bs,e1,e2,e3,e4⟩:=g.rel.at (i:=j) (q:=p) (by rw[aY hj,ej])
 have hm:=bK Bs;have h1:=wf.sub p' hm;have h2:=wf.ow p' hm;have h3:=wf.uX p' hm;rw[e1,g.dG]at h1;rw[e2,g.rel.own]at h2;rw[e3,e4]at h3;exact⟨h1,h2,h3.1,h3.2⟩
theorem d_.bk(g:d_ c st b)(wf:Wf st):Bk b:=⟨λx hx=>Ih (g.on x hx),λx hx=>Ih (g.nk x hx),λp hp=>Ih (g.nk _ (g.sub wf hp).1),λp hp=>⟨by have:=(g.sub wf hp).2.2.1;omega,(g.sub wf hp).2.2.2⟩,g.fG.ol,g.fG.kl,g.fG.pl⟩
end L2
set_option autoImplicit true
namespace L2
open PySem PySem.Spec PyProof.Rows
structure bE(X:Cx)(e:Expr)(t:TE):Prop where h:PE X e t
structure bT(X:Cx)(e:Expr)(t:TT):Prop where h:PT X e t
structure bW(X:Cx)(e:Expr)(t:TT):Prop where h:PW X e t
structure bA(X:Cx)(es:Da Expr)(t:TA):Prop where h:PA X es t
structure bS(X:Cx)(s:Stmt)(t:TS):Prop where h:PS X s t
structure cS(X:Cx)(s:Da Stmt)(t:TS):Prop where h:rQ X s t
structure bC(X:Cx)(op:CmpOp)(a b:Expr)(t:TE):Prop where h:PC X op a b t
structure bG(X:Cx)(e:Expr)(t:TG):Prop where h:PG X e t
structure ZP(X:Cx)(e:Da Expr)(t:EW):Prop where h:PGs X e t
structure bI(X:Cx)(tg Bz:Expr)(wi:TI):Prop where h:PI X tg Bz wi
structure bO(X:Cx)(e:Option Expr)(t:TO):Prop where h:PO X e t
structure bX(X:Cx)(e:Da Stmt)(t:TX):Prop where h:PX X e t
structure ZQ(X:Cx)(pos:Pos)(ks:Da (Option Expr))(vs:Da Expr)(t:Da (TE×TE)):Prop where h:PPs X pos ks vs t
theorem bW.pt{X:Cx}{e:Expr}{t:TT}(h:bW X e t):bT X e t:=⟨h.h.pt⟩
def Nl{op}{t:TE}(h:bE X a t):bE X (.BoolOp op [a] pos) t:=by have h:=h.h;exact⟨λAT s σ H Q I hw=>BoolOp_one (h AT s σ H Q I hw)⟩
def dX{e:Expr}{t:TE}(h:bE X e t)(he:∀whole,isTrue e X.env whole=(do let v <-whole;standAt e.pos;holding [v] (truthy v)):=by intro _;rfl):bT X e (tB t):=by have h:=h.h;constructor;intro AT s σ H Q I hw;refine isTrue_plain (br (h AT s σ H _ I hw) λv s1 ⟨x,H1,I1,r1,q1⟩=>?_) (he _);obtain⟨d,rfl,q⟩:=q1;cases r1;exact AM ⟨H1,I1,q⟩
def aG{r:R2}(hr:Ay X r)(ha:bE X a ta)(hb:bE X b tb)(hs:aar b:=by exact λ_ _=>rfl):bE X (.Subscript a b pos) (Aw r ta tb):=by have ha:=ha.h;have hb:=hb.h;constructor;intro AT s σ H Q I h;exact Subscript_ (Xr ha hb I h λv u s2 x y H2 I2 rx ry q=>hr a b AT s2 σ H2 x y v u Q I2 rx ry q (hs _ _))
def yK(h:bE X e te):bO X (some e) (afE te):=by have h:=h.h;constructor;intro AT s σ H Q I hw;rw[evalPart_some];refine br (h AT s σ H _ I hw) λu s1 ⟨x,H1,I1,r1,q1⟩=>?_;obtain⟨i,rfl,q⟩:=q1;obtain⟨t,rfl⟩:=r1;exact⟨some i,H1,I1,.int i t,q⟩
def i6:ZP X [] abZ:=by constructor;intro AT s σ H vs us Q I r h;obtain⟨e,h⟩:=h;subst e;cases r;exact assignInOrder_nil ⟨σ,H,I,h⟩
def yL:bO X none aaq:=by constructor;intro AT s σ H Q I h;rw[evalPart_none];exact aW ⟨none,H,I,.none,h⟩
def kP{x:Str}{n:String}{pos:Pos}(hv:bootBuiltins x=some (.type n))(hg:Gl X x)(hm:X.mg x=none)(hn:x ≠ "__name__":=by decide)(hd:(x==("__debug__":Str))=false:=by decide):bE X (.Name x pos) (tC (.ty n)):=by exact⟨aag hg hm hv rfl hn hd⟩
def aL{i:Nat}{x:Str}(hN:X.N.Nodup)(hi:X.N[i]?=some x:=by rfl)(hx:Loc X.env.scope x:=by first|exact Or.inl rfl|exact Or.inr rfl)(hf:X.fn x=true\/X.env.scope.names.lookup x=some .local:=by first|exact .inl rfl|exact .inr rfl|assumption):bG X (.Name x pos) (iA i):=by constructor;intro AT s σ H v u Q I r h;exact wpAny_assign_Name (vA I hN hi hx r (λs' I'=>⟨_,H,I',h⟩) hf)
def D7{c:Expr}{body:Da Stmt}{tc:TT}{tb:TS}(hp:PassesOwn (model X.prog X.w) X.A X.env X.xe)(hc:bT X c tc)(hb:cS X body tb):bS X (.While c body [] pos) (ab5 tc tb):=by
 have hc:=hc.h;have hb:=hb.h;constructor;intro AT s σ H D I h;obtain⟨W,⟨m0,w0⟩,turn⟩:=h;refine wpAny_While (codeAny_whileLoop (λn s'=>∃σ' H',Inv X AT σ' H' s'/\W n σ' H') ?_ m0 ⟨σ,H,I,w0⟩);rintro n s1 ⟨σ1,H1,I1,w1⟩;refine zu hp (br (hc AT s1 σ1 H1 _ I1 (turn n σ1 H1 w1)) λb s2 ⟨H2,I2,q2⟩=>?_);cases b with
 | true=>
  obtain⟨N,hN,q2⟩:=q2;rw[aC rfl];refine zu hp (br (hb AT s2 σ1 H2 _ I2 q2) λf s3 q3=>?_);cases f with
  | next=>obtain⟨σ3,H3,I3,n3⟩:=q3;obtain⟨m',hm,w3⟩:=hN σ3 H3 n3;exact⟨m',hm,σ3,H3,I3,w3⟩
  | cont=>obtain⟨σ3,H3,I3,n3⟩:=q3;obtain⟨m',hm,w3⟩:=hN σ3 H3 n3;exact⟨m',hm,σ3,H3,I3,w3⟩
  | brk=>exact q3
  | ret v=>exact q3
 | false=>rw[aB gk];exact zx ⟨σ1,H2,I2,q2⟩
def CK{tg:Expr}{ob:Expr}{td:TE}{B2 cpos:Pos}(hob:bE X ob td)(hbase:attributeBase ob "values" X.env (eval ob X.env)=eval ob X.env:=by rfl)(hline:(B2.endLine==cpos.line)=true:=by rfl):bI X tg (.Call (.Attribute ob "values" B2) [] [] cpos) (afW td):=by
 have hob:=hob.h;constructor;intro AT s σ H R I h;refine Sb hbase hline (br (hob AT s σ H _ I h) λv s1 ⟨x,H1,I1,r1,q1⟩=>?_);obtain⟨d,o,Ap,rfl,e,fin⟩:=q1;cases r1;obtain⟨ho,hz,hsys,vs,ep,rel,da⟩:=I1.tE e;obtain⟨t1,t2,_⟩:=Mi I1 (.inl ⟨Ap,.inr ⟨o,e⟩⟩);have dd:=da.dictOf;refine⟨"dict",_,F.plainAttrs_dict,So,F.type_dict_values,t1,t2,LJ rfl (Sk ?_)⟩;refine call_meetsIn So dd.typeIs F.entry_dict_values (F.args_dict_values_1 _) (meets_dict_values (dw X.prog X.w) d hsys) ⟨⟨vs,dd⟩,?_⟩;refine wpAny_pyIter_values (s:={ s1 with heap:=s1.heap.push { cls:=.type "dict_values",data:=.fields #[.ref d] } }) ⟨_,fj _ rfl,Z,Z⟩ (da.push _) ?_;have Iv:Inv X AT σ H1 { s1 with heap:=s1.heap.push { cls:=.type "dict_values",data:=.fields #[.ref d] } }:=I1.kept (t':=s1.toks) λb o e=>cI _ e;generalize ({ s1 with heap:=s1.heap.push { cls:=.type "dict_values",data:=.fields #[.ref d] } }:Shared)=sv at *;have I2:Inv X AT σ H1 { sv with heap:=sv.heap.push { cls:=.type "dict_valueiterator",data:=.fields #[.ref d,.int 0 0,.int vs.length 0,.int ep 0] } }:=Iv.kept (t':=sv.toks) λb o e=>cI _ e;have hl:Ap.length=vs.length:=rel.length;obtain⟨o',es,h1,_,h2,_⟩:=id da;rw[ho]at h1;cases h1;refine⟨sv.heap.objs.size,[sv.heap.objs.size],_,_,H1,Z,I2,Vn h2,?_,λb hb=>?_,fin⟩
 .rw [hl];exact⟨_,fj _ rfl,Z,Z⟩
 .have eb:b=sv.heap.objs.size:=by simpa using hb
  subst eb;exact Iv.DN (aN _) (Iv.hok.fresh (aN _))
def abh{o i e:Expr}{to ti te:TE}{AR:V->V->Hp->VK->Prop}{Av:LW}{qz:uh}{op:Operator}{tpos:Pos}(ho:bE X o to)(hi:bE X i ti)(hg:ab3 X AR)(he:bE X e te)(hp:PIp X op Av)(hs:Xk X qz)(ha:∀ov iv new,augStore i ov iv new=(do holding [new,ov,iv] (setItem ov iv new);release [new,ov,iv] [];pure .next):=by intros;rfl):bS X (.AugAssign (.Subscript o i tpos) op e pos) (afx to ti te AR Av qz):=by have ho:=ho.h;have hi:=hi.h;have he:=he.h;constructor;intro AT s σ H D I h;refine wpAny_AugAssign_SubscriptAny (br (ho AT s σ H _ I h) λov s1 ⟨x1,H1,I1,r1,q1⟩=>?_) ha;refine br (hi AT s1 σ H1 _ I1 q1) λiv s2 ⟨x2,H2,I2,r2,q2⟩=>?_;refine br (hg AT s2 σ H2 x1 x2 ov iv _ I2 r1 r2 q2) λold s3 ⟨x3,H3,I3,r3,q3⟩=>?_;refine br (he AT s3 σ H3 _ I3 q3) λv s4 ⟨x4,H4,I4,r4,q4⟩=>?_;refine br (hp AT s4 σ H4 x3 x4 old v _ I4 r3 r4 q4) λnew s5 ⟨x5,H5,I5,r5,q5⟩=>?_;exact br (hs AT s5 σ H5 x1 x2 x5 ov iv new _ I5 r1 r2 r5 q5) λ_ s6 ⟨H6,I6,q6⟩=>⟨σ,H6,I6,q6⟩
def kQ{id:String}(pa:PlainAttrs T)(slot:Slot T name id)(hty:typeOf (.builtin id)=pure (.type "method_descriptor"))(hm:MtR X id r)(ho:bE X o to)(ha:bA X (e::es) t)(hbase:attributeBase o name X.env (eval o X.env)=eval o X.env:=by rfl)(hfew:((backTo cpos (starEach (e::es) X.env)).all (λx=>!x.1) && (backToKw cpos (keywordEach [] X.env)).all (λx=>x.1.isSome)
   && decide ((e::es).length+([] :Da Keyword).length+(if([] :Da Keyword).isEmpty then 0 else 1)<30))=true:=by rfl)(hline:(B2.endLine==cpos.line)=true:=by rfl)(hs:starEach (e::es) X.env=(false,eval e X.env)::starEach es X.env:=by rfl)(hplain:(backTo cpos (starEach es X.env)).any (·.1)=false:=by rfl):bE X (.Call (.Attribute o name B2) (e::es) [] cpos) (tBM X.K T r to t):=by
 have ho:=ho.h;have ha:=ha.h;constructor
 intro AT s σ H Q I h
 refine wpAny_Call_method_late hbase hfew hline rfl (br (ho AT s σ H _ I h) λv s1 ⟨x,H1,I1,r1,ty,q1⟩=>?_)
 obtain⟨h1,h2⟩:=UZ I1 r1 ty
 refine⟨T,id,pa,slot,hty,h1,h2,?_⟩
 have hA:=ha cpos AT s1 σ H1 _ I1 q1
 rw[hs]at hA ⊢
 refine LJ (by show(false || (backTo cpos (starEach es X.env)).any (·.1))=false;rw[hplain] <;> rfl) (Calls.evalArgs_plain ?_)
 exact br hA λus s2 ⟨vs,H2,I2,r2,q2⟩=>hm AT s2 σ H2 x vs v us Q I2 r1 r2 q2
def abi{X:Cx}{pos:Pos}:ZQ X pos [] [] [] :=by exact⟨λAT s σ H Q I h=>pairTrees_nil_walk ⟨[],H,I,.nil,h⟩⟩
def Nm{X:Cx}{e:Expr}{t:TE}(h:bE X e t):bE X e (ajg t):=by have h:=h.h;constructor;intro AT s σ H Q I hw;obtain⟨d,Ap,e,hw⟩:=hw;obtain⟨ho,es,ep,h1,_⟩:=(E6 I.hok e).2.2.choose_spec.2;have h0:=I.Vm e;exact br (h AT s σ _ _ (I.freeze e h1) (hw ho)) λu s' ⟨v,H',I',r,q1,q2⟩=>⟨v,_,I'.DR q1 h0,r,q2⟩
def YK{op op':CmpOp}{r r':R2}(ho:ji X (compareOp op) r)(ho':ji X (compareOp op') r')(ha:bE X a ta)(hb:bE X b tb)(hc:bE X c tc)(hm:lastMarks [op,op'] [b,c]=false:=by with_unfolding_all rfl):bE X (.Compare a [op,op'] [b,c] pos) (acg r r' ta tb tc):=by
 have ha:=ha.h;have hb:=hb.h;have hc:=hc.h;constructor;intro AT s σ H Q I h;refine Compare_chain (br (ha AT s σ H _ I h) λv s1 ⟨x,H1,I1,r1,q1⟩=>chain_link (br (hb AT s1 σ H1 _ I1 q1) λu s2 ⟨y,H2,I2,r2,q2⟩=>
  br (ho AT s2 σ H2 x y v u _ I2 r1 r2 q2) λd s3 ⟨z,H3,I3,r3,k,e,q3⟩=>?_)) hm
 subst e;cases r3;refine AM ?_;cases k with
 | false=>exact ite_ff ⟨.bl false,H3,I3,Z,q3⟩
 | true=>exact ite_tt (chain_last (br (hc AT s3 σ H3 _ I3 q3) λw' s4 ⟨z',H4,I4,r4,q4⟩=>ho' AT s4 σ H4 y z' u w' Q I4 r2 r4 q4))
def iU{x1}(h:bA X es t):bE X (.Tuple es x1 pos) (acp t):=by have h:=h.h;constructor;intro AT s σ H Q I hq;refine wpAny_Tuple_spliced (br (h pos AT s σ H _ I hq) λus s1 ⟨xs,H1,I1,r,z,q⟩=>⟨by rw[<-r.length];exact z,?_⟩);have hf:H1 s1.heap.objs.size=none:=I1.hok.fresh (aN _);refine⟨.ref s1.heap.objs.size,upd H1 s1.heap.objs.size (.tup xs),I1.laid (t':=s1.toks) (λb u e=>cI _ e) (aN _) ?_,Z,q _ hf⟩;exact⟨z,us,r,⟨_,fj _ rfl,Z,_,Z⟩⟩
def D8{tg Bz elt cond:Expr}{scope:Scope}{pos:Pos}(N2:Da Str)(ix:Da (Option Nat)){wi:TI}{g:TG}{tc:TT}{te:TE}(hc:X.calm=true)(hi:bI X tg Bz wi)(hg:∀cl s₂ H₂ fp,bG (dj X N2 scope cl s₂ H₂ fp) tg g)(he:∀cl s₂ H₂ fp,bE (dj X N2 scope cl s₂ H₂ fp) elt te)(ht:∀cl s₂ H₂ fp,bT (dj X N2 scope cl s₂ H₂ fp) cond tc)(hk:scope.kind =.function)(hn:oK X.N X.env.scope.names scope.names N2 ix=true)(hs:∀x,foldedSetIterable Bz X.env x=pure x:=by intro _;rfl):bE X (.ListComp elt [⟨tg,Bz,[cond],0⟩] scope pos) (Fq wi ix g tc te):=⟨X7 N2 ix hc hi.h (λcl s₂ H₂ fp=>(hg cl s₂ H₂ fp).h) (λcl s₂ H₂ fp=>(he cl s₂ H₂ fp).h) (λcl s₂ H₂ fp=>(ht cl s₂ H₂ fp).h) hk hn hs⟩
def aH{op:Operator}{r:R2}(ho:ji X (binaryOp op) r)(ha:bE X a ta)(hb:bE X b tb):bE X (.BinOp a op b pos) (Aw r ta tb):=by have ha:=ha.h;have hb:=hb.h;constructor;intro AT s σ H Q I h;exact wpAny_BinOp (Xr ha hb I h λv u s2 x y H2 I2 rx ry q=>ho AT s2 σ H2 x y v u Q I2 rx ry q)
def yM{op:CmpOp}{t:TE}(h:bC X op a b t)(h1:behindInMarks op b=false:=by first|exact LV _ (by decide) (by decide)|rfl):bT X (.Compare a [op] [b] pos) (tB t):=by have h:=h.h;constructor;intro AT s σ H Q I hw;refine wpAny_isTrue_Compare1 (br (h AT s σ H _ I hw) λv s1 h1=>br h1 λu s2 h2=>br h2 λc s3 ⟨x,H1,I1,r1,q1⟩=>?_) h1;obtain⟨d,rfl,q⟩:=q1;cases r1;exact AM ⟨H1,I1,q⟩
def dP{tg:Expr}{Bz:Expr}{body:Da Stmt}{wi:TI}{g:TG}{tb:TS}{pos:Pos}(hp:PassesOwn (model X.prog X.w) X.A X.env X.xe)(hc:X.calm=true)(hi:bI X tg Bz wi)(hg:bG X tg g)(hb:cS X body tb)(hs:∀x,foldedSetIterable Bz X.env x=pure x:=by intro _;rfl):bS X (.For tg Bz body [] pos) (aiZ wi g tb):=by
 have hi:=hi.h;have hg:=hg.h;have hb:=hb.h;constructor;intro AT s σ H D I h;refine wpAny_For (br (hi AT s σ H _ I h) λv s1 h1=>br h1 λitv s2 h2=>?_) hs;obtain⟨it,fp,tn,J,H2,e,I2,T,st2,f2,W,⟨m0,w0⟩,turn⟩:=h2;subst e;have vK:∀{H':Hp},(∀b∈fp,H' b=none)->∀b∈fp,qA X AT H' b:=λhn b hb=>⟨hn b hb,(f2 b hb).2⟩
 refine codeAny_forLoop_any (λn s'=>∃i σ' H',Inv X AT σ' H' s'/\tn i s'.heap/\(∀b∈fp,H' b=none)/\W i n σ' H') ?_ m0 ⟨0,σ,H2,I2,st2,λb hb=>(f2 b hb).1,w0⟩;rintro n s3 ⟨i,σ3,H3,I3,st3,ZR,w3⟩;rcases turn i n σ3 H3 w3 with⟨stop,qn⟩|⟨go,N,hN,step⟩
 .refine zu hp (br (T.done X rfl rfl rfl hc i AT s3 σ3 H3 X.xe I3 (vK ZR) st3 stop) λr s4 ⟨hr,I4⟩=>?_);subst hr;exact zx ⟨σ3,H3,I4,qn⟩
 .refine zu hp (br (T.item X rfl rfl rfl hc i AT s3 σ3 H3 X.xe I3 (vK ZR) st3 go) λr s4 ⟨u,hr,h4⟩=>?_);subst hr;refine zu hp (br h4 λ_ s5 ⟨x,H5,I5,r5,y5,A0,Ms⟩=>?_);have I5':=I5.pinned (vK Ms) (T.obj _ _ A0);refine zu hp (br (hg _ s5 σ3 H5 x u _ I5' r5 (step x H5 y5)) λ_ s6 ⟨σ6,H6,I6,q6⟩=>?_);refine zu hp (br (hb _ s6 σ6 H6 _ I6 q6) λf s7 q7=>?_);have again:∀{σ7:St}{H7:Hp},Inv X (AT++EY fp s5.heap) σ7 H7 s7->N σ7 H7->∃m,m<n/\∃i σ' H',Inv X AT σ' H' s7/\tn i s7.heap/\(∀b∈fp,H' b=none)/\W i m σ' H':=λ{σ7 H7} I7 n7=>by obtain⟨m',hm,w7⟩:=hN σ7 H7 n7;refine⟨m',hm,i+1,σ7,H7,I7.rV,T.keep _ _ _ A0 λb hb o e=>(I7.pin (b,o) (kC _ (kC _ (jX hb e)))).1,λb hb=>?_,w7⟩;obtain⟨o,e,d⟩:=T.obj _ _ A0 b hb;exact(I7.pin (b,o) (kC _ (kC _ (jX hb e)))).2.1
  cases f with
  | next=>obtain⟨σ7,H7,I7,n7⟩:=q7;exact again I7 n7
  | cont=>obtain⟨σ7,H7,I7,n7⟩:=q7;exact again I7 n7
  | brk=>obtain⟨σ7,H7,I7,q7⟩:=q7;exact⟨σ7,H7,I7.rV,q7⟩
  | ret v=>obtain⟨x7,σ7,H7,I7,r7,q7⟩:=q7;exact⟨x7,σ7,H7,I7.rV,r7,q7⟩
def v7{lo:Option Expr}{hi:Option Expr}{r:V->Option Int->Option Int->Hp->VK->Prop}(hr:SlR X r)(he:bE X e te)(hl:bO X lo tl)(hu:bO X hi th):bE X (.Subscript e (.Slice lo hi none p2) pos) (tSl r te tl th):=by have he:=he.h;have hl:=hl.h;have hu:=hu.h;constructor;intro AT s σ H Q I h;refine Subscript_ (br (he AT s σ H _ I h) λv s1 ⟨x,H1,I1,r1,q1⟩=>?_);refine wpAny_Slice (br (hl AT s1 σ H1 _ I1 q1) λvl s2 ⟨l,H2,I2,pl,q2⟩=>br (hu AT s2 σ H2 _ I2 q2) λvu s3 ⟨u,H3,I3,pu,q3⟩=>?_);rw[evalPart_none];refine aW ?_;have I4:Inv X AT σ H3 { s3 with heap:=s3.heap.push { cls:=.type "slice",data:=.fields #[vl,vu,.none] } }:=I3.kept (t':=s3.toks) λb ob q=>cI _ q;obtain⟨T,id,hT,ht,hg⟩:=hr AT { s3 with heap:=s3.heap.push { cls:=.type "slice",data:=.fields #[vl,vu,.none] } } σ H3 x v vl vu l u s3.heap.objs.size Q I4 r1 (Heap.IsSliceOf.new ..) pl pu q3;show wpAny (model X.prog X.w) X.A (subscriptTail e (.Slice lo hi none p2) v (.ref s3.heap.objs.size)) (EP X AT σ Q) X.xe { s3 with heap:=s3.heap.push { cls:=.type "slice",data:=.fields #[vl,vu,.none] } };exact tail_any (ops:=[.ref s3.heap.objs.size,v]) ht hT hg (by with_unfolding_all rfl)
def fJ{tg Bz elt:Expr}{scope:Scope}{pos:Pos}(N2:Da Str)(ix:Da (Option Nat)){wi:TI}{g:TG}{te:TE}(hc:X.calm=true)(hi:bI X tg Bz wi)(hg:∀cl s₂ H₂ fp,bG (dj X N2 scope cl s₂ H₂ fp) tg g)(he:∀cl s₂ H₂ fp,bE (dj X N2 scope cl s₂ H₂ fp) elt te)(hk:scope.kind =.function)(hn:oK X.N X.env.scope.names scope.names N2 ix=true)(hs:∀x,foldedSetIterable Bz X.env x=pure x:=by intro _;rfl):bE X (.ListComp elt [⟨tg,Bz,[],0⟩] scope pos) (Zw wi ix g te):=by have hi:=hi.h;have hg:=λcl s₂ H₂ fp=>(hg cl s₂ H₂ fp).h;have he:=λcl s₂ H₂ fp=>(he cl s₂ H₂ fp).h;constructor;intro AT s σ H Q I h;obtain⟨k1,k2,k3,k4,k5⟩:=nS hn;obtain⟨cl,My,c1,c2⟩:=u_ (scope:=scope) (env:=X.env) λy hy e=>I.ok.has y.1 (k3 y hy e);rw[eval_ListComp];refine R8 (use:=none) rfl hs My hk k4 (br (hi AT s σ H _ I h) λv s1 h1=>br h1 λitv s2 h2=>?_);obtain⟨it,fp,tn,J,H2,e,I2,T,st2,f2,h2⟩:=h2;subst e;refine Fe (RR:=λBM C=>compPost (model X.prog X.w) X.A X.xe none (EP X AT σ Q) BM C) (Q:=Q) hc hg he hk hn (λy c m=>(c1 y c m).1) c2 I2 T st2 f2 h2 ?_;intro BM C H' s' m I' ns AZ hL hsz qF zQ q;exact⟨m,ns,λh' hs'=>⟨.ref BM,H',I'.turned (it:=C) (t':=s'.toks) (λb o hb e=>(hs'.2 b hb).trans e) AZ hL (.inr hsz) qF zQ,Z,q⟩⟩
def Np(hu:X.A.units+1<cLine)(hi:bE X i ty)(ho:bE X o td):bC X .In i o (ai9 ty td):=by have hi:=hi.h;have ho:=ho.h;constructor;intro AT s σ H Q I h;refine br (hi AT s σ H _ I h) λiv s1 ⟨y,H1,I1,ry,q1⟩=>br (ho AT s1 σ H1 _ I1 q1) λu s2 ⟨x,H2,I2,rx,a,ov,ex,g,q2⟩=>?_;subst ex;obtain rfl:u=Value.ref a:=rx;exact ai8 hu I2 g ry λs3 I3=>⟨.bl ov.isSome,H2,I3,Z,q2⟩
def ad2(ha:bE X a ta):bE X (.UnaryOp .Not a pos) (afq ta):=by have ha:=ha.h;constructor;intro AT s σ H Q I h;refine UnaryOp_ (br (ha AT s σ H _ I h) λv s1 ⟨x,H1,I1,r1,q1⟩=>?_);obtain⟨c,rfl,q1⟩:=q1;cases r1;exact not_of (AM ⟨.bl (!c),H1,I1,Z,q1⟩)
def aU{x j pos}:bE X (.Constant (.str x) j pos) (tC (.str x)):=⟨UA⟩
def Aa{op:UnaryOp}{r:V->Hp->VK->Prop}(ho:UnR X (unaryOp op) r)(ha:bE X a ta):bE X (.UnaryOp op a pos) (tUn r ta):=by have ha:=ha.h;constructor;intro AT s σ H Q I h;exact UnaryOp_ (br (ha AT s σ H _ I h) λv s1 ⟨x,H1,I1,r1,q1⟩=>ho AT s1 σ H1 x v Q I1 r1 q1)
def sf(K:Fg){a b:Expr}{ta:TA}{p pos:Pos}(hg:Gl X "zip")(hm:X.mg "zip"=none)(ha:bA X [a,b] ta)(hK:X.K=K:=by rfl)(hs:starEach [a,b] X.env=[(false,eval a X.env),(false,eval b X.env)] :=by rfl)(hs2:starEach [b] X.env=[(false,eval b X.env)] :=by rfl):bI X (.Tuple DD kk tpos) (.Call (.Name "zip" p) [a,b] [] pos) (afY K ta):=by
 have ha:=ha.h;constructor;subst hK;intro AT s σ H R I h;refine Call_ (vB I hg hm boot_zip (Uu (br (ha pos AT s σ H _ I h) λus s1 ⟨vs,H1,I1,r1,q1⟩=>?_) (by rw[hs,hs2]) (by rw[hs2];rfl)));obtain⟨u1,u2,S1,S2,xs,ys,e,k1,k2,q⟩:=q1;subst e;obtain⟨u,w',rfl,ru,rw'⟩:=vals2 r1;obtain⟨g1,l1,o1,p1,lt1,b1,amH,at1,st1,c1⟩:=k1.ok I1 ru;obtain⟨g2,l2,o2,p2,lt2,b2,agl,at2,st2,c2⟩:=k2.ok I1 rw';refine callType_newIn F.called_zip (by decide) (F.typeCall_zip_2 _ _) (F.newCall_zip_2 _ _) (λobj=>F.args_object_init_3 obj _ _) F.entry_zip_new (S_ st1 st2) ⟨b1,agl _ _ b2,?_⟩;have z1:(s1.heap.push o1).objs.size=s1.heap.objs.size+1:=nN ..;have z2:((s1.heap.push o1).push o2).objs.size=s1.heap.objs.size+2:=by rw[nN,z1]
 generalize e3:({ cls:=.type "tuple",data:=.seq #[.ref s1.heap.objs.size,.ref (s1.heap.push o1).objs.size] }:Obj)=o3;have z3:(((s1.heap.push o1).push o2).push o3).objs.size=s1.heap.objs.size+3:=by rw[nN,z2]
 generalize e4:({ cls:=.type "tuple",data:=.seq #[.none,.none] }:Obj)=o4;have z4:((((s1.heap.push o1).push o2).push o3).push o4).objs.size=s1.heap.objs.size+4:=by rw[nN,z3]
 generalize e5:({ cls:=.type "zip",data:=.fields #[.none,.bool false,.bool false,.ref ((s1.heap.push o1).push o2).objs.size,.ref (((s1.heap.push o1).push o2).push o3).objs.size] }:Obj)=o5;have g5:(((((s1.heap.push o1).push o2).push o3).push o4).push o5).get? ((((s1.heap.push o1).push o2).push o3).push o4).objs.size=some o5:=fj _ (by rw[<-e5];rfl);have g4:(((((s1.heap.push o1).push o2).push o3).push o4).push o5).get? (((s1.heap.push o1).push o2).push o3).objs.size=some o4:=cI _ (fj _ (by rw[<-e4];rfl));have g3:(((((s1.heap.push o1).push o2).push o3).push o4).push o5).get? ((s1.heap.push o1).push o2).objs.size=some o3:=cI _ (cI _ (fj _ (by rw[<-e3];rfl)));have g2':(((((s1.heap.push o1).push o2).push o3).push o4).push o5).get? (s1.heap.push o1).objs.size=some o2:=cI _ (cI _ (cI _ (at2 _)));have g1':(((((s1.heap.push o1).push o2).push o3).push o4).push o5).get? s1.heap.objs.size=some o1:=cI _ (cI _ (cI _ (cI _ (at1 _))));have kp:∀c o,s1.heap.get? c=some o->(((((s1.heap.push o1).push o2).push o3).push o4).push o5).get? c=some o:=λc o x=>cI _ (cI _ (cI _ (cI _ (cI _ x))));rw[z4]at g5 ⊢;rw[z3]at g4 e5;rw[z2]at g3 e5;rw[z1]at g2' e3;generalize (((((s1.heap.push o1).push o2).push o3).push o4).push o5)=hN at *;show _/\_;subst e3 e4 e5;refine⟨⟨_,g5,Z⟩,wpAny_pyIter_zip (s:={ s1 with heap:=hN }) g5 ?_⟩;have I2:Inv X AT σ H1 { s1 with heap:=hN }:=I1.kept (t':=s1.toks) kp;obtain⟨t1,amJ,C1,n1⟩:=c1 s1.heap.objs.size;obtain⟨t2,amK,C2,n2⟩:=c2 (s1.heap.objs.size+1);refine⟨s1.heap.objs.size+4,[s1.heap.objs.size+4,s1.heap.objs.size+2,s1.heap.objs.size+3,s1.heap.objs.size,s1.heap.objs.size+1],_,_,H1,Z,I2,Vr (Pc lt1 lt2) C1 C2,⟨g5,g3,⟨_,_,g4⟩,n1 _ g1',n2 _ g2'⟩,λb hb=>?_,q⟩;have hb':b=s1.heap.objs.size+4\/b=s1.heap.objs.size+2\/b=s1.heap.objs.size+3\/b=s1.heap.objs.size\/b=s1.heap.objs.size+1:=by simpa using hb
 have le:s1.heap.objs.size<=b:=by
  rcases hb' with r|r|r|r|r
  .rw [r];exact zm _ _
  .rw [r];exact zm _ _
  .rw [r];exact zm _ _
  .rw [r];exact aN _
  .rw [r];exact zm _ _
 exact I1.DN le (I1.hok.fresh le)
def V7{id:String}(pa:PlainAttrs T)(slot:Slot T name id)(hty:typeOf (.builtin id)=pure (.type "method_descriptor"))(hm:MtR X id r)(ho:bE X o to)(hbase:attributeBase o name X.env (eval o X.env)=eval o X.env:=by rfl)(hline:(B2.endLine==cpos.line)=true:=by rfl):bE X (.Call (.Attribute o name B2) [] [] cpos) (ai5 X.K T r to):=by have ho:=ho.h;constructor;intro AT s σ H Q I h;refine Sb hbase hline (br (ho AT s σ H _ I h) λv s1 ⟨x,H1,I1,r1,ty,q1⟩=>?_);obtain⟨h1,h2⟩:=UZ I1 r1 ty;exact⟨T,id,pa,slot,hty,h1,h2,LJ rfl (Sk (hm AT s1 σ H1 x [] v [] Q I1 r1 .nil q1))⟩
def aP{op:CmpOp}{r:R2}(ho:ji X (compareOp op) r)(ha:bE X a ta)(hb:bE X b tb)(hm:behindInMarks op b=false):bT X (.Compare a [op] [b] pos) (Lx (Aw r ta tb)):=by
 have ha:=ha.h;have hb:=hb.h;constructor;intro AT s σ H Q I h;refine wpAny_isTrue_Compare1 (br (ha AT s σ H _ I h) λv s1 ⟨x,H1,I1,r1,q1⟩=>br (hb AT s1 σ H1 _ I1 q1) λu s2 ⟨y,H2,I2,r2,q2⟩=>
  br (ho AT s2 σ H2 x y v u _ I2 r1 r2 q2) λc s3 ⟨z,H3,I3,r3,k,e,q3⟩=>?_) hm
 subst e;cases r3;exact AM ⟨H3,I3,q3⟩
def aX{i:Nat}{x:Str}{e:Expr}{te:TE}{pos':Pos}(hN:X.N.Nodup)(he:bE X e te)(hi:X.N[i]?=some x:=by rfl)(hx:Loc X.env.scope x:=by first|exact Or.inl rfl|exact Or.inr rfl)(hs:swapsWith e (some (.Name x pos')) pos.line X.env=pure false:=by rfl)(hf:X.fn x=true\/X.env.scope.names.lookup x=some .local:=by first|exact .inl rfl|exact .inr rfl|assumption):bS X (.Assign [.Name x pos'] e pos) (AQ te (iA i)):=by have he:=he.h;constructor;intro AT s σ H D I h;refine wpAny_Assign_Name (br (he AT s σ H _ I h) λv s1 ⟨y,H1,I1,r1,q1⟩=>?_) hs;exact vA I1 hN hi hx r1 (λs2 I2=>⟨_,H1,I2,q1⟩) hf
theorem abj{X:Cx}{pos:Pos}{keys:Da (Option Expr)}{values:Da Expr}{E7:Da (TE×TE)}(h:ZQ X pos keys values E7)(hall:keys.all (·.isSome)=true)(hl:keys.length=values.length)(h0:keys≠[])(h15:keys.length<=15):bE X (.Dict keys values pos) (afN E7):=by
 have h:=h.h;constructor;intro AT s σ H Q I q;have hn:=I.hok.fresh (aN s.heap.objs.size);have I1:=I.laid (a:=s.heap.objs.size) (o:=.dK []) (h':=s.heap.push { cls:=.type "dict",data:=.dict #[] }) (t':=s.toks) (λ_ _ q=>cI _ q) (aN _) (Mh s.heap I.big);refine wpAny_Dict_walk (knd:=dw X.prog X.w) hall hl h0 h15 (br (h AT _ σ _ _ I1 (q _ hn)) λws s2 ⟨ps,H2,I2,rel,e,Ap,ep,lk,q2⟩=>?_);subst ep;obtain⟨rs,c,rk⟩:=E8 (P:=X.prog) (w:=X.w) rel;obtain⟨z,hd,Vs,r0,dd⟩:=E6 I2.hok e;cases r0;refine⟨rs,c,dd,λh' Df hs=>⟨.ref s.heap.objs.size,_,?_,Z,q2⟩⟩;have hz:(yv [] Ap).length<=sizeLine:=by have h1:=AA Ap [];rw[List.length_nil]at h1;rw[gy];omega
 have he:∃q,h'.get? s.heap.objs.size=some q:=let⟨q,_,_,hq,_⟩:=Df;⟨q,hq⟩;exact Cv I2 (by rw[e];exact True.intro) hs he (Mg hz hd (rk.merge .nil) Df)
def cY(K:Fg){tg l:Expr}{tl:TE}(hl:bE X l tl)(hK:X.K=K:=by rfl):bI X tg l (Zn K tl):=by have hl:=hl.h;exact⟨hK▸aaj hl⟩
def gK{X:Cx}{e:Expr}{t:TT}(h:bT X e t):bT X e (λσ H Q=>∃b:Bool,t σ H (λb' H'=>b'=b/\H'=H)/\Q b H):=by have h:=h.h;constructor;intro AT s σ H Q I hw;obtain⟨b,hb,q⟩:=hw;refine br (h AT s σ H _ I hb) λb' s' ⟨H',I',e1,e2⟩=>?_;subst e1 e2;exact⟨_,I',q⟩
def aq{st:Stmt}(h1:bS X st t):cS X [st] t:=by
 have h1:=h1.h;constructor;intro AT s σ H D I h;refine wpAny_execs_cons (br (h1 AT s σ H D I h) λf s1 q=>?_);cases f with
 | next=>exact zx q
 | ret v=>exact q
 | brk=>exact q
 | cont=>exact q
def RC(ho:bE X o td)(hi:bE X i ty):bS X (.Delete [.Subscript o i tpos] pos) (afM td ty):=by have ho:=ho.h;have hi:=hi.h;constructor;intro AT s σ H D I h;refine wpAny_Delete (wpAny_deleteEach_cons (wpAny_delete_Subscript (br (ho AT s σ H _ I h) λu s1 ⟨x,H1,I1,rx,q1⟩=>br (hi AT s1 σ H1 _ I1 q1) λiv s2 ⟨y,H2,I2,ry,a,Ap,k,ex,e,ey,l,q2⟩=>?_)));subst ex ey;obtain rfl:u=Value.ref a:=rx;exact U4 I2 e ry l λs3 I3=>wpAny_deleteEach_nil ⟨σ,_,I3,q2⟩
def d9(ha:bT X a tA):bT X (.UnaryOp .Not a pos) (aiU tA):=by have ha:=ha.h;constructor;intro AT s σ H Q I h;exact isTrue_not (ha AT s σ H (λc H1=>Q (!c) H1) I h)
def cg(he:bE X e te)(hs:swapsWith e none pos.line X.env=pure false:=by rfl):bS X (.Expr e pos) (afs te):=by have he:=he.h;constructor;intro AT s σ H D I h;exact wpAny_Expr_any (br (he AT s σ H _ I h) λv s1 ⟨x,H1,I1,r1,q1⟩=>⟨σ,H1,I1,q1⟩) I.quiet hs
def gu{pl:Sem Bool}{j k:Nat}{C:Addr}{m:Str}{ps:Da Str}{sp:Sp}{o e:Expr}{es:Da Expr}{ta:TE}{t:TA}{B2 pos:Pos}(D:Mn X.prog X.w X.K X.mg X.base j C m ps sp)(hr:dR k X.A)(ho:bE X o ta)(ha:bA X (e::es) t)(hj:j<=k:=by decide)(hst:starEach (e::es) X.env=(false,eval e X.env)::starEach es X.env:=by rfl)(hpl:(backTo pos (starEach es X.env)).any (·.1)=false:=by rfl)(ht:eval (.Call (.Attribute o m B2) (e::es) [] pos) X.env=(do
   let ov <-eval o X.env
   standAt B2.atName
   let(f,first) <-holding [ov] (getMethod ov m pl)
   callWith pos f first (backTo pos (starEach (e::es) X.env)) (backToKw pos (keywordEach [] X.env))):=by rfl):bE X (.Call (.Attribute o m B2) (e::es) [] pos) (E5 C m sp [] E0 ta t):=by
 have ho:=ho.h;have ha:=ha.h;constructor
 obtain⟨f,fd,F,b,hm,c⟩:=D.ex
 exact QW (pl:=pl) ho c hm F (hr.mono hj) b .nil (λ_ _ _ _ _ _ _ h=>h.elim) ha hst hpl ht
def cM{e:Expr}{es:Da Expr}{t:TG}{u:EW}(h1:bG X e t)(h2:ZP X es u)(hs:(assignEach (e::es) X.env).map (·.2)=assign e X.env::(assignEach es X.env).map (·.2):=by rfl):ZP X (e::es) (Zm t u):=by
 have h1:=h1.h;have h2:=h2.h;constructor;intro AT s σ H vs us Q I r h;obtain⟨v,vr,e1,h⟩:=h;subst e1;cases r with
 | cons r rr=>rw[hs];refine assignInOrder_cons (br (h1 AT s σ H _ _ _ I r h) λ_ s1 ⟨σ1,H1,I1,q1⟩=>?_);exact h2 AT s1 σ1 H1 _ _ Q I1 rr q1
def mz{i:Nat}{x:Str}{px pos':Pos}{tg Bz elt:Expr}{scope:Scope}{pos:Pos}(N2:Da Str)(ix:Da (Option Nat)){wi:TI}{g:TG}{te:TE}(hN:X.N.Nodup)(hi:X.N[i]?=some x)(hx:X.env.scope.names.lookup x=some .local)(hc:X.calm=true)(hit:bI X tg Bz wi)(hg:∀cl s₂ H₂ fp,bG (dj X N2 scope cl s₂ H₂ fp) tg g)(he:∀cl s₂ H₂ fp,bE (dj X N2 scope cl s₂ H₂ fp) elt te)(hk:scope.kind =.function)(hn:oK X.N X.env.scope.names scope.names N2 ix=true)(hw:swapsWith (.ListComp elt [⟨tg,Bz,[],0⟩] scope pos) (some (.Name x px)) pos'.line X.env=pure true)(hs:∀x,foldedSetIterable Bz X.env x=pure x:=by intro _;rfl):bS X (.Assign [.Name x px] (.ListComp elt [⟨tg,Bz,[],0⟩] scope pos) pos') (AQ (Zw wi ix g te) (iA i)):=by
 have hit:=hit.h;have hg:=λcl s₂ H₂ fp=>(hg cl s₂ H₂ fp).h;have he:=λcl s₂ H₂ fp=>(he cl s₂ H₂ fp).h;constructor;intro AT s σ H D I h;obtain⟨k1,k2,k3,k4,k5⟩:=nS hn;obtain⟨cl,My,c1,c2⟩:=u_ (scope:=scope) (env:=X.env) λy hy e=>I.ok.has y.1 (k3 y hy e);rw[exec_Assign_Name_used _ _ _ _ hw];refine au (Cg (au ?_));show wpAny _ X.A (do let _ <-comprehension (.ListComp elt [⟨tg,Bz,[],0⟩] scope pos) scope X.env _ (newList []) false (eval Bz X.env) (some (assign (.Name x px) X.env))) _ _ s;refine au (br (R8 (use:=some (assign (.Name x px) X.env)) (Q:=λ_ s'=>SP X AT D .next s') rfl hs My hk k4 (br (hit AT s σ H _ I h) λv s1 h1=>br h1 λitv s2 h2=>?_)) λ_ s' hq=>aW (aW hq));obtain⟨it,fp,tn,J,H2,e,I2,T,st2,f2,h2⟩:=h2;subst e;refine Fe (RR:=λBM C=>compPost (model X.prog X.w) X.A X.xe (some (assign (.Name x px) X.env)) (λ_ s'=>SP X AT D .next s') BM C) (Q:=λv H'=>D.nx (σ.set i (some v)) H') hc hg he hk hn (λy c m=>(c1 y c m).1) c2 I2 T st2 f2 h2 ?_;intro BM C H' s' m I' ns AZ hL hsz qF zQ q;show wpAny _ X.A (assign (.Name x px) X.env (.ref BM)) _ _ _;refine wpAny_assign_Name (AN I' hN hi (.inl hx) (v:=.ref BM) rfl (λs3 I3 ⟨a,sb,ha⟩=>?_) (.inr hx));have ca:C≠a:=by
  rcases ha with z|z
  .rw [z];exact hL
  .exact λe=>qF x a z e.symm
 exact⟨m,ns.sameBut sb ca,λh' hs'=>⟨_,H',I3.turned (it:=C) (t':=s3.toks) (λb o hb e=>(hs'.2 b hb).trans e) AZ hL (.inr hsz) qF zQ,q⟩⟩
def v8{X:Cx}{pos:Pos}{k v:Expr}{ks:Da (Option Expr)}{vs:Da Expr}{tk tv:TE}{E7:Da (TE×TE)}(hk:bE X k tk)(hv:bE X v tv)(hr:ZQ X pos ks vs E7):ZQ X pos (some k::ks) (v::vs) ((tk,tv)::E7):=by
 have hk:=hk.h;have hv:=hv.h;have hr:=hr.h;exact⟨λAT s σ H Q I h=>
 pairTrees_cons_walk (br (hk AT s σ H _ I h) λu s1 ⟨x,H1,I1,rx,q1⟩=>br (hv AT s1 σ H1 _ I1 q1) λw2 s2 ⟨y,H2,I2,ry,q2⟩=>
  br (hr AT s2 σ H2 _ I2 q2) λws s3 ⟨ps,H3,I3,rel,q3⟩=>⟨(x,y)::ps,H3,I3,.cons ⟨rx,ry⟩ rel,q3⟩)⟩
def By(hu:X.A.units+1<cLine)(hi:bE X i ty)(ho:bE X o td):bC X .NotIn i o (aaw ty td):=by have hi:=hi.h;have ho:=ho.h;constructor;intro AT s σ H Q I h;refine br (hi AT s σ H _ I h) λiv s1 ⟨y,H1,I1,ry,q1⟩=>br (ho AT s1 σ H1 _ I1 q1) λu s2 ⟨x,H2,I2,rx,a,ov,ex,g,q2⟩=>?_;subst ex;obtain rfl:u=Value.ref a:=rx;exact aat hu I2 g ry λs3 I3=>⟨.bl (!ov.isSome),H2,I3,Z,q2⟩
def gc{b j pos}:bE X (.Constant (.bool b) j pos) (tC (.bl b)):=by exact⟨λ_ _ _ H _ I h=>Constant_bool ⟨.bl b,H,I,Z,h⟩⟩
def sj{pl:Sem Bool}{j k:Nat}{C:Addr}{m:Str}{ps:Da Str}{sp:Sp}{o:Expr}{ta:TE}{B2 pos:Pos}(D:Mn X.prog X.w X.K X.mg X.base j C m ps sp)(hr:dR k X.A)(ho:bE X o ta)(hj:j<=k:=by decide)(ht:eval (.Call (.Attribute o m B2) [] [] pos) X.env=(do
   let ov <-eval o X.env
   standAt B2.atName
   let(f,first) <-holding [ov] (getMethod ov m pl)
   callWith pos f first (backTo pos (starEach [] X.env)) (backToKw pos (keywordEach [] X.env))):=by rfl):bE X (.Call (.Attribute o m B2) [] [] pos) (E5 C m sp [] E0 ta ng):=by
 have ho:=ho.h;constructor
 obtain⟨f,fd,F,b,hm,c⟩:=D.ex
 exact XA (pl:=pl) ho c hm F (hr.mono hj) b .nil (λ_ _ _ _ _ _ _ h=>h.elim) ht
def aM(he:bE X e te):bS X (.Return (some e) pos) (aiW te):=by have he:=he.h;constructor;intro AT s σ H D I h;exact wpAny_Return_some (br (he AT s σ H _ I h) λv s1 ⟨x,H1,I1,r1,q1⟩=>⟨x,σ,H1,I1,r1,q1⟩)
theorem ef{tg:Expr}{a:Expr}{ta:TA}{p pos:Pos}(hg:Gl X "range")(hm:X.mg "range"=none)(ha:bA X [a] ta)(hs:starEach [a] X.env=[(false,eval a X.env)] :=by rfl):bI X tg (.Call (.Name "range" p) [a] [] pos) (afy ta):=by
 have ha:=ha.h;constructor;intro AT s σ H R I h;refine Call_ (vB I hg hm boot_range (Uu (br (ha pos AT s σ H _ I h) λus s1 ⟨vs,H1,I1,r1,q1⟩=>?_) hs rfl));obtain⟨j,e,q1,q2,q⟩:=q1;subst e;cases r1 with
 | cons r rr=>cases rr;obtain⟨t,rfl⟩:=r;exact call_range_1 (Xq I1 (by omega) (by omega) q1 q2 (by simpa using q))
def ad3{j:Nat}{n J:Str}{Ja:Addr}{t:TX}{u:TS}{body:Da Stmt}{b0:Stmt}{suite:Da Stmt}{p hp pos:Pos}(hN:X.N.Nodup)(hj:X.N[j]?=some n)(hl:X.env.scope.names.lookup n=some .local)(hno:∀e s,X.xe e s->False)(hst:X.stack=X.env::X.outer)(hfr:X.env.frame=some X.env.locals)(hb:bX X body t)(hg:Gl X J)(hm:X.mg J=some (.ref Ja))(hs:∀x,cS (X.held x) (b0::suite) u)(hd:(J==("__debug__":Str))=false:=by decide):bS X (.Try body [.ExceptHandler (some (.Name J p)) (some n) (b0::suite) hp] [] [] pos) (ajn X.K Ja j t u):=by
 have hb:=hb.h;have hs:=λx=>(hs x).h;constructor;intro AT s σ H D I h;refine wpAny_Try_except (iM (hb AT s σ H _ _ I h) (λf s1 q=>?_) λev s1 q=>?_)
 .cases f with
  | next=>exact zx q
  | brk=>exact q
  | cont=>exact q
  | ret u=>exact q
 .obtain ⟨x,C,σ',Hc,sc,H',rfl,F,hk,hR⟩:=q;refine Yz F I.ok.frames hst hfr λs2 F2=>Nc F2 λs3 F3=>?_;have I3:Inv (X.held x) AT σ' H' s3:=F3.inv.held x;refine wpAny_handleBy_cons (codeAny_handlers_test (rT (X:=X.held x) I3 hg hm ?_ hd)) (by intro z;cases z);obtain⟨T,⟨oe,vs,a0,oT,ts,h1,h2,_⟩,_⟩:=F3.tr;have LT:PySem.W.Looks (model X.prog X.w) s3.heap (typeOf (.ref x)) (.ref C):=by have:=(PySem.W.Looks.ld (M:=model X.prog X.w) (part:=none) h1).andThen (f:=λo=>(pure o.cls:Sem Value)) (PySem.W.Looks.now);rw[h2]at this;exact this
  refine(PySem.W.exm_one I3.jB LT hk).here ?_;refine codeAny_handlers_suite_as (Nc F3 λs4 F4=>?_);have I4:Inv (X.held x) AT σ' (upd H' x (D5 x C)) s4:=F4.known.held x;refine vA (X:=X.held x) I4 hN hj (.inl hl) (v:=.ref x) rfl (λs5 I5=>?_) (.inr hl);refine iM (hs x AT s5 _ _ _ I5 (hR x F4.hx)) (λf s6 q=>?_) λe s6 z=>(hno e s6 z).elim;have goes:∀{σ2 H2}{Q:Prop}{G:Shared->Prop}{p:Pos},Inv (X.held x) AT σ2 H2 s6->(∀s',Inv X AT (σ2.set j none) H2 s'->G s')->wpAny (model X.prog X.w) X.A (do bindName X.env n .none;unbindBehindTheSuite X.env n p) (λ_ s'=>G s') X.xe s6:=by intro σ2 H2 _ G p I6 k;have I7:=I6.adT I.ok;obtain⟨m,hm,hlo⟩:=I7.loc;refine wpAny_nameGoes_keeps (m:=m) (by unfold Env.kindOf;exact hl) hm (by rw[I.ok.kind];rfl) λh' v hn hs=>k _ (I7.gone hN hj hm hlo hn hs)
  cases f with
  | next=>obtain⟨σ2,H2,I6,q⟩:=q;exact goes (Q:=True) I6 λs' I'=>⟨_,H2,I',q⟩
  | brk=>obtain⟨σ2,H2,I6,q⟩:=q;exact goes (Q:=True) I6 λs' I'=>⟨_,H2,I',q⟩
  | cont=>obtain⟨σ2,H2,I6,q⟩:=q;exact goes (Q:=True) I6 λs' I'=>⟨_,H2,I',q⟩
  | ret u=>obtain⟨v,σ2,H2,I6,r,q⟩:=q;exact goes (Q:=True) I6 λs' I'=>⟨v,_,H2,I',r,q⟩
def aQ:cS X [] afr:=by exact⟨λ_ _ σ H _ I h=>zx ⟨σ,H,I,h⟩⟩
def fF(K:Fg){o value:Expr}{f:Str}{ta tv:TE}{pos pos':Pos}(ha:bE X o ta)(hv:bE X value tv)(hs:swapsWith value (some (.Attribute o f pos')) pos.line X.env=pure false:=by rfl)(hK:X.K=K:=by rfl):bS X (.Assign [.Attribute o f pos'] value pos) (aci K ta tv f):=by have ha:=ha.h;have hv:=hv.h;exact⟨hK▸acm ha hv hs⟩
def ad4{j k:Nat}{g:Str}{ps:Da Str}{sp:Sp}{e:Expr}{es:Da Expr}{t:TA}{p pos p2 p3 p4:Pos}{kd:Nat}{body:Da Stmt}(D:Dx X.prog X.w X.K X.mg X.base j g ps sp)(hr:dR k X.A)(hno:∀e s,X.xe e s->False)(ha:bA X (e::es) t)(hj:j<=k:=by decide)(hg:Gl X g:=by rfl)(hdb:(g==("__debug__":Str))=false:=by decide)(he:starEach (e::es) X.env=(false,eval e X.env)::starEach es X.env:=by rfl)(hpl:(backTo pos (starEach es X.env)).any (·.1)=false:=by rfl):bX X [.If (.Compare (.Call (.Name g p) (e::es) [] pos) [.IsNot] [.Constant .none kd p2] p3) body [] p4] (aga sp t):=by have ha:=ha.h;constructor;intro AT s σ H Dn R I h;refine wpAny_execs_cons (wpAny_If (wpAny_isTrue_Compare1 (iM (af_ D hr hno ha hj hg hdb he hpl I h) (λv s1 ⟨y,H1,I1,r1,ey,q1⟩=>?_) λev s1 ⟨x,C,Hc,sc,H',ev',F,hR⟩=>⟨x,C,σ,Hc,sc,H',ev',F,hR⟩) (LV _ (by decide) (by decide))));subst ey;cases r1;exact Constant_none (isnot_none_gen (AM (zx (zx ⟨_,H1,I1,q1⟩))))
theorem xK{tg:Expr}{a b c:Expr}{ta:TA}{p pos:Pos}(hg:Gl X "range")(hm:X.mg "range"=none)(ha:bA X [a,b,c] ta)(hs:starEach [a,b,c] X.env=[(false,eval a X.env),(false,eval b X.env),(false,eval c X.env)] :=by rfl)(hs2:starEach [b,c] X.env=[(false,eval b X.env),(false,eval c X.env)] :=by rfl):bI X tg (.Call (.Name "range" p) [a,b,c] [] pos) (afV ta):=by
 have ha:=ha.h;constructor;intro AT s σ H R I h;refine Call_ (vB I hg hm boot_range (Uu (br (ha pos AT s σ H _ I h) λus s1 ⟨vs,H1,I1,r1,q1⟩=>?_) (by rw[hs,hs2]) (by rw[hs2];rfl)));obtain⟨i,j,k,e,⟨q1,q2,q3,q4,q5,q6⟩,q⟩:=q1;subst e;cases r1 with
 | cons r rr=>
  cases rr with
  | cons r' rr=>
   cases rr with
   | cons r'' rr=>
    cases rr;obtain⟨t,rfl⟩:=r;obtain⟨t',rfl⟩:=r';obtain⟨t'',rfl⟩:=r'';obtain⟨sm,sz⟩:=Pf q1 q2 q3 q4 q5 q6;refine call_range_3 (by omega) ?_ (Or.inl (PyProof.noPylong_small (by omega)));refine wpAny_pyIter_range (IsRange.new ..) sm ?_;have I2:Inv X AT σ H1 { s1 with heap:=s1.heap.push { cls:=.type "range",data:=.fields #[.int i t,.int j t',.int k t''] },toks:=s1.toks }:=I1.kept λb o e=>cI _ e;refine⟨(s1.heap.push { cls:=.type "range",data:=.fields #[.int i t,.int j t',.int k t''] }).objs.size,[(s1.heap.push { cls:=.type "range",data:=.fields #[.int i t,.int j t',.int k t''] }).objs.size],_,_,H1,Z,
     I2.kept (t':=s1.toks) λb o e=>cI _ e,Pe _ i k (nT i j k),?_,λb hb=>?_,q⟩
    .have e1:i+((0:Nat):Int)*k=i:=by simp
     have e2:((nT i j k:Nat):Int)-((0:Nat):Int)=Builtin.Range.rangeSize i j k:=by unfold nT;omega
     show IsRangeIter _ _ (i+((0:Nat):Int)*k) (((nT i j k:Nat):Int)-((0:Nat):Int)) k;rw[e1,e2];exact fj _ rfl
    .have e:b=(s1.heap.push { cls:=.type "range",data:=.fields #[.int i t,.int j t',.int k t''] }).objs.size:=by simpa using hb
     subst e;exact I2.DN (aN _) (I2.hok.fresh (aN _))
def V8{a:Expr}{ta:TA}{p pos:Pos}(hg:Gl X "range")(hm:X.mg "range"=none)(ha:bA X [a] ta)(hs:starEach [a] X.env=[(false,eval a X.env)] :=by rfl):bE X (.Call (.Name "range" p) [a] [] pos) (ajb ta):=by have ha:=ha.h;constructor;intro AT s σ H Q I h;refine Call_ (vB I hg hm boot_range (Uu (br (ha pos AT s σ H _ I h) λus s1 ⟨vs,H1,I1,r1,q1⟩=>?_) hs rfl));obtain⟨j,e,q⟩:=q1;subst e;obtain⟨u,rfl,ru⟩:=vals1 r1;obtain⟨t,rfl⟩:=ru;exact call_range_1 ⟨.ref s1.heap.objs.size,_,I1.laid (a:=s1.heap.objs.size) (o:=.xx 0 j) (λb o e=>cI _ e) (aN _) ⟨_,_,_,fj _ rfl⟩,Z,q _ I1.fresh⟩
def eY(h:bA X es t):bE X (.List es pos) (SM t):=by have h:=h.h;constructor;intro AT s σ H Q I hq;refine wpAny_List_spliced (br (h pos AT s σ H _ I hq) λus s1 ⟨xs,H1,I1,r,z,q⟩=>⟨by rw[<-r.length];exact z,?_⟩);have hf:H1 s1.heap.objs.size=none:=I1.hok.fresh (aN _);refine⟨.ref s1.heap.objs.size,upd H1 s1.heap.objs.size (.lst xs),I1.laid (t':=s1.toks) (λb u e=>cI _ e) (aN _) ?_,Z,q _ hf⟩;exact⟨z,us,0,r,fj _ rfl⟩
def F0(K:Fg){o value:Expr}{f:Str}{ta tv:TE}{pos tpos:Pos}{op:Operator}{rd:V->V->Hp->VK->Prop}(ha:bE X o ta)(hv:bE X value tv)(hop:SG X op rd)(hK:X.K=K:=by rfl):bS X (.AugAssign (.Attribute o f tpos) op value pos) (QT K ta tv rd f):=by have ha:=ha.h;have hv:=hv.h;exact⟨hK▸UO ha hv hop⟩
def ad5{j pos}:bE X (.Constant .none j pos) (tC .cu):=by exact⟨λ_ _ _ H _ I h=>Constant_none ⟨.cu,H,I,Z,h⟩⟩
def YL{i:Nat}{x:Str}{px pos':Pos}{tg Bz elt cond:Expr}{scope:Scope}{pos:Pos}(N2:Da Str)(ix:Da (Option Nat)){wi:TI}{g:TG}{tc:TT}{te:TE}(hN:X.N.Nodup)(hi:X.N[i]?=some x)(hx:X.env.scope.names.lookup x=some .local)(hc:X.calm=true)(hit:bI X tg Bz wi)(hg:∀cl s₂ H₂ fp,bG (dj X N2 scope cl s₂ H₂ fp) tg g)(he:∀cl s₂ H₂ fp,bE (dj X N2 scope cl s₂ H₂ fp) elt te)(ht:∀cl s₂ H₂ fp,bT (dj X N2 scope cl s₂ H₂ fp) cond tc)(hk:scope.kind =.function)(hn:oK X.N X.env.scope.names scope.names N2 ix=true)(hw:swapsWith (.ListComp elt [⟨tg,Bz,[cond],0⟩] scope pos) (some (.Name x px)) pos'.line X.env=pure true)(hs:∀x,foldedSetIterable Bz X.env x=pure x:=by intro _;rfl):bS X (.Assign [.Name x px] (.ListComp elt [⟨tg,Bz,[cond],0⟩] scope pos) pos') (AQ (Fq wi ix g tc te) (iA i)):=⟨X8 N2 ix hN hi hx hc hit.h (λcl s₂ H₂ fp=>(hg cl s₂ H₂ fp).h) (λcl s₂ H₂ fp=>(he cl s₂ H₂ fp).h) (λcl s₂ H₂ fp=>(ht cl s₂ H₂ fp).h) hk hn hw hs⟩
def Ii{ob:Expr}{td:TE}{B2 cpos:Pos}(hob:bE X ob td)(hbase:attributeBase ob "values" X.env (eval ob X.env)=eval ob X.env:=by rfl)(hline:(B2.endLine==cpos.line)=true:=by rfl):bE X (.Call (.Attribute ob "values" B2) [] [] cpos) (afX td):=by have hob:=hob.h;constructor;intro AT s σ H Q I h;refine Sb hbase hline (br (hob AT s σ H _ I h) λv s1 ⟨x,H1,I1,r1,q1⟩=>?_);obtain⟨d,Ap,rfl,e,fin⟩:=q1;cases r1;obtain⟨t1,t2,hsys⟩:=Mi I1 (.inl ⟨Ap,e⟩);obtain⟨hz,_,vs,rel,dd⟩:=s_ I1.hok e;refine⟨"dict",_,F.plainAttrs_dict,So,F.type_dict_values,t1,t2,LJ rfl (Sk ?_)⟩;refine call_meetsIn So dd.typeIs F.entry_dict_values (F.args_dict_values_1 _) (meets_dict_values (dw X.prog X.w) d hsys) ⟨⟨vs,dd⟩,?_⟩;refine⟨.ref s1.heap.objs.size,_,I1.laid (t':=s1.toks) (o:=mU s1.heap.objs.size d) (λb u e=>cI _ e) (aN _) ?_,Z,fin _ I1.fresh⟩;refine⟨⟨_,fj _ rfl,Z,Z⟩,⟨_,fj _ rfl⟩,λh1 h2 ⟨o,a,b⟩ k=>⟨o,k o a,b⟩⟩
def agm{j k:Nat}{x:Str}{C:Addr}{ps:Da Str}{sp:Sp}{e:Expr}{es:Da Expr}{t:TA}{p pos:Pos}(D:Cn X.prog X.w X.K X.mg X.base j x C ps sp)(hr:dR k X.A)(ha:bA X (e::es) t)(hj:j+1<=k:=by decide)(hg:Gl X x:=by rfl)(hdb:(x==("__debug__":Str))=false:=by decide)(he:starEach (e::es) X.env=(false,eval e X.env)::starEach es X.env:=by rfl)(hpl:(backTo pos (starEach es X.env)).any (·.1)=false:=by rfl):bE X (.Call (.Name x p) (e::es) [] pos) (Ly C sp [] E0 t):=by have ha:=ha.h;constructor;obtain⟨f,fd,F,b,M,m⟩:=D.ex;exact aao M F (hr.mono hj) hg m b .nil (λ_ _ _ _ _ _ _ h=>h.elim) ha hdb he hpl
def lz{x:Str}{v:V}{u:Value}{pos:Pos}(hg:Gl X x)(hm:X.mg x=some u)(r:RelV v u)(hd:(x==("__debug__":Str))=false:=by decide):bE X (.Name x pos) (tC v):=by exact⟨λ_ _ _ H _ I h=>rT I hg hm ⟨v,H,I,r,h⟩ hd⟩
def kh(hc:iB X (.type T) r)(hg:Gl X x)(hm:X.mg x=none)(hv:bootBuiltins x=some (.type T))(ha:bA X (e::es) t)(hn:x ≠ "__name__":=by decide)(hdb:(x==("__debug__":Str))=false:=by decide)(he:starEach (e::es) X.env=(false,eval e X.env)::starEach es X.env:=by rfl)(hpl:(backTo pos (starEach es X.env)).any (·.1)=false:=by rfl):bE X (.Call (.Name x p) (e::es) [] pos) (Zp r t):=by have ha:=ha.h;constructor;intro AT s σ H Q I h;refine Hv (vB I hg hm hv ?_ hn hdb);exact Uu (br (ha pos AT s σ H _ I h) λus s1 ⟨vs,H1,I1,r1,q1⟩=>hc AT s1 σ H1 vs us Q I1 r1 q1) he hpl
def ki{Cl:Da Expr}(ha:bT X a tA)(hb:bW X (.BoolOp .Or (b::Cl) pos) Zk):bW X (.BoolOp .Or (a::b::Cl) pos) (tOr tA Zk):=by
 have ha:=ha.h;have hb:=hb.h;constructor;intro wh AT s σ H Q I h;refine isTrue_or (br (ha AT s σ H _ I h) λc s1 ⟨H1,I1,q1⟩=>?_);cases c with
 | true=>exact⟨H1,I1,q1⟩
 | false=>exact hb wh AT s1 σ H1 Q I1 q1
def vt(ha:bT X a tA):bW X (.BoolOp .And [a] pos) tA:=by
 have ha:=ha.h;constructor;intro wh AT s σ H Q I h;refine isTrue_and (br (ha AT s σ H Q I h) λc s1 e=>?_);cases c with
 | true=>exact isTrue_and_nil e
 | false=>exact e
def bZ{c:Expr}{a b:Da Stmt}{tc:TT}(hc:bT X c tc)(ha:cS X a t)(hb:cS X b u):bS X (.If c a b pos) (abX tc t u):=⟨Zl hc.h ha.h hb.h⟩
def V9{i j:Nat}{x y:Str}{a b:Expr}{ta:TA}{px py pt:Pos}{kt k2 pt2}(hc:X.calm=true)(hN:X.N.Nodup)(hi:X.N[i]?=some x)(hj:X.N[j]?=some y)(hij:i≠j)(hx:X.env.scope.names.lookup x=some .local)(hy:X.env.scope.names.lookup y=some .local)(ha:bA X [a,b] ta)(hw:swappedStores [.Tuple [.Name x px,.Name y py] kt pt] (.Tuple [a,b] k2 pt2) X.env=pure (some [x,y]))(hs:swapsWithSole [.Tuple [.Name x px,.Name y py] kt pt] (.Tuple [a,b] k2 pt2) pos.line X.env=pure false:=by rfl):bS X (.Assign [.Tuple [.Name x px,.Name y py] kt pt] (.Tuple [a,b] k2 pt2) pos) (aiY i j ta):=by
 have ha:=ha.h;constructor;intro AT s σ H D I h;rw[exec_Assign_arm];refine au (Cg ?_);rw[hs];refine au (aW ?_);rw[aB (by decide)];refine au (Tuple_ (br (ha _ AT s σ H _ I h) λus s1 ⟨vs,H1,I1,r1,q1⟩=>?_));obtain⟨v,w,e1,q1⟩:=q1;subst e1;obtain⟨u1,u2,rfl,rv,rw'⟩:∃u1 u2,us=[u1,u2]/\RelV v u1/\RelV w u2:=by
  cases r1 with
  | cons p q=>
   cases q with
   | cons p' q'=>cases q';exact⟨_,_,Z,p,p'⟩
 refine zg ?_ (by show 2<=sizeLine;decide);have I2:Inv X AT σ H1 { s1 with heap:=s1.heap.push { cls:=.type "tuple",data:=.seq [u1,u2].toArray } }:=I1.kept (t':=s1.toks) λb o e=>cI _ e;rw[hw];refine au (aW ?_);show wpAny (model X.prog X.w) X.A (do rule "assign.swapped-stores";let items <-unpackItems (.ref s1.heap.objs.size) 2 none;assignInOrder [λv=>bindName X.env y v,λv=>bindName X.env x v] items.reverse;pure Flow.next) _ _ _;refine au (wpAny_rule (au (unpackItems_tuple (items:=#[u1,u2]) (I.ok.hd hc) (IsTup.new s1.heap _) λh' hx'=>?_)));have I3:=I2.kept (h':=h') (t':=s1.toks) λb o e=>hx' b o (eO (bY e)) e;show wpAny _ _ (assignInOrder [λv=>bindName X.env y v,λv=>bindName X.env x v] [u2,u1] >>= λ_=>pure Flow.next) _ _ _;refine au (assignInOrder_cons (wpAny_bindName (vA I3 hN hj (.inl hy) rw' (λs2 I4=>?_) (.inr hy))));refine assignInOrder_cons (wpAny_bindName (vA I4 hN hi (.inl hx) rv (λs3 I5=>assignInOrder_nil (aW ?_)) (.inr hx)));rw[List.set_comm _ _ (cD hij)]at I5;exact⟨_,H1,I5,q1⟩
def jj{c:Expr}{a b:Da Stmt}{tc:TT}{t u:TS}(hc:bT X c tc)(ha:cS X a t)(hb:cS X b u):bS X (.If c a b pos) (acV tc t u):=by
 have hc:=hc.h;have ha:=ha.h;have hb:=hb.h;constructor;intro AT s σ H D I h;obtain⟨J,h,hJ⟩:=h;refine br (Zl hc ha hb AT s σ H { D with nx:=J } I h) λf s' q=>?_;cases f with
 | next=>obtain⟨σ',H',I',q⟩:=q;exact⟨σ',H',I',hJ _ _ q⟩
 | cont=>exact q
 | brk=>exact q
 | ret v=>exact q
def aj{st:Stmt}{Cl:Da Stmt}(h1:bS X st t)(h2:cS X Cl u):cS X (st::Cl) (zL t u):=by
 have h1:=h1.h;have h2:=h2.h;constructor;intro AT s σ H D I h;refine wpAny_execs_cons (br (h1 AT s σ H { D with nx:=u D } I h) λf s1 q=>?_);cases f with
 | next=>obtain⟨σ',H',I',q⟩:=q;exact h2 AT s1 σ' H' D I' q
 | ret v=>exact q
 | brk=>exact q
 | cont=>exact q
theorem ad7(K:Fg){e st:Expr}{te ts:TE}{pos p2:Pos}(he:bE X e te)(hst:bE X st ts)(hK:X.K=K:=by rfl):bE X (.Subscript e (.Slice none none (some st) p2) pos) (ajc K te ts):=by have he:=he.h;have hst:=hst.h;constructor;subst hK;intro AT s σ H Q I h;refine Subscript_ (br (he AT s σ H _ I h) λv s1 ⟨x,H1,I1,r1,q1⟩=>?_);refine wpAny_Slice ?_;rw[evalPart_none];refine aW (aW ?_);rw[evalPart_some];refine br (hst AT s1 σ H1 _ I1 q1) λw3 s3 ⟨y,H3,I3,r3,q3⟩=>?_;obtain⟨ey,a,xs,rfl,hx,q⟩:=q3;subst ey;obtain⟨t,rfl⟩:=r3;cases r1;have I4:Inv X AT σ H3 { s3 with heap:=s3.heap.push { cls:=.type "slice",data:=.fields #[.none,.none,.int (-1) t] } }:=I3.kept (t':=s3.toks) λb ob q=>cI _ q;obtain⟨Bi,r,ht,hz⟩:=I4.list hx;have hlen:=r.length;refine tail_any (ops:=[.ref a,.ref s3.heap.objs.size]) ht.isList.typeIs slot_list_getitem.lookup ?_ (by with_unfolding_all rfl);refine wpAny_getItem_list_slice ht.isList (Heap.IsSliceOf.new ..) .none .none (.int (-1) t) (by decide) ?_ (by rw[jc] <;> omega);rw[PySem.W.krv_pick];refine⟨.ref _,_,I4.laid (t':=s3.toks) (o:=.lst xs.reverse) (λb ob q=>cI _ q) (aN _) ?_,Z,q _ I4.fresh⟩;exact⟨by rw[List.length_reverse];exact hz,Bi.reverse,0,r.reverse,fj _ rfl⟩
def i7(K:Fg){X:Cx}{es:Da Expr}{k:Nat}{t:EW}{n:Nat}{pos:Pos}(hc:X.calm=true)(h:ZP X es t)(hK:X.K=K:=by rfl)(hn:(assignEach es X.env).length=n:=by rfl)(hst:(assignEach es X.env).findIdx? (·.1)=none:=by rfl):bG X (.Tuple es k pos) (DM K n t):=by have h:=h.h;exact⟨hK▸ab1 hc h hn hst⟩
def F_{K:Fg}{j k:Nat}{x:Str}{ps:Da Str}{sp:Sp}{e:Expr}{es:Da Expr}{t:TA}{p pos:Pos}(D:Dx P w K mg base j x ps sp)(hr:dR k (cX (gJ P w) P w K mg base N qual scope f cd A outer s0 H0 E).A)(ha:bA (cX (gJ P w) P w K mg base N qual scope f cd A outer s0 H0 E) (e::es) t)(hj:j<=k:=by decide)(hg:Gl (cX (gJ P w) P w K mg base N qual scope f cd A outer s0 H0 E) x:=by rfl)(hdb:(x==("__debug__":Str))=false:=by decide)(he:starEach (e::es) (cX (gJ P w) P w K mg base N qual scope f cd A outer s0 H0 E).env=(false,eval e (cX (gJ P w) P w K mg base N qual scope f cd A outer s0 H0 E).env)::starEach es (cX (gJ P w) P w K mg base N qual scope f cd A outer s0 H0 E).env:=by rfl)(hpl:(backTo pos (starEach es (cX (gJ P w) P w K mg base N qual scope f cd A outer s0 H0 E).env)).any (·.1)=false:=by rfl):bE (cX (gJ P w) P w K mg base N qual scope f cd A outer s0 H0 E) (.Call (.Name x p) (e::es) [] pos) (SN sp [] E t):=by have ha:=ha.h;constructor;obtain⟨f',fd,F,b,kp,m⟩:=D.ex;exact QV F (hr.mono hj) hg m kp b .nil ZM ha hdb he hpl
def bF(hu:X.A.units+1<cLine)(ho:bE X o td)(hi:bE X i ty)(hs:acM i:=by exact λ_ _=>rfl):bE X (.Subscript o i pos) (Zr td ty):=by have ho:=ho.h;have hi:=hi.h;constructor;intro AT s σ H Q I h;refine aau PySem.F.slot_dict_getitem.lookup hs (br (ho AT s σ H _ I h) λu s1 ⟨x,H1,I1,rx,q1⟩=>br (hi AT s1 σ H1 _ I1 q1) λiv s2 ⟨y,H2,I2,ry,a,v,ex,g,q2⟩=>?_);subst ex;obtain rfl:u=Value.ref a:=rx;exact⟨O_ I2 g,U1 hu I2 g ry λw' s3 I3 rw'=>⟨v,H2,I3,rw',q2⟩⟩
def ai:bA X [] ng:=⟨UQ⟩
def vv{K:Fg}{pl:Sem Bool}{j k:Nat}{C:Addr}{m:Str}{ps:Da Str}{sp:Sp}{o e:Expr}{es:Da Expr}{ta:TE}{t:TA}{B2 pos:Pos}(D:Mx P w K mg base j C m ps sp)(hr:dR k (cX (gJ P w) P w K mg base N qual scope f cd A outer s0 H0 E).A)(ho:bE (cX (gJ P w) P w K mg base N qual scope f cd A outer s0 H0 E) o ta)(ha:bA (cX (gJ P w) P w K mg base N qual scope f cd A outer s0 H0 E) (e::es) t)(hj:j<=k:=by decide)(hst:starEach (e::es) (cX (gJ P w) P w K mg base N qual scope f cd A outer s0 H0 E).env=(false,eval e (cX (gJ P w) P w K mg base N qual scope f cd A outer s0 H0 E).env)::starEach es (cX (gJ P w) P w K mg base N qual scope f cd A outer s0 H0 E).env:=by rfl)(hpl:(backTo pos (starEach es (cX (gJ P w) P w K mg base N qual scope f cd A outer s0 H0 E).env)).any (·.1)=false:=by rfl)(ht:eval (.Call (.Attribute o m B2) (e::es) [] pos) (cX (gJ P w) P w K mg base N qual scope f cd A outer s0 H0 E).env=(do
   let ov <-eval o (cX (gJ P w) P w K mg base N qual scope f cd A outer s0 H0 E).env
   standAt B2.atName
   let(f2,first) <-holding [ov] (getMethod ov m pl)
   callWith pos f2 first (backTo pos (starEach (e::es) (cX (gJ P w) P w K mg base N qual scope f cd A outer s0 H0 E).env)) (backToKw pos (keywordEach [] (cX (gJ P w) P w K mg base N qual scope f cd A outer s0 H0 E).env))):=by rfl):bE (cX (gJ P w) P w K mg base N qual scope f cd A outer s0 H0 E) (.Call (.Attribute o m B2) (e::es) [] pos) (E5 C m sp [] E ta t):=by
 have ho:=ho.h;have ha:=ha.h;constructor
 obtain⟨f',fd,F,b,hm,c⟩:=D.ex
 exact QW (pl:=pl) ho c hm F (hr.mono hj) b .nil ZM ha hst hpl ht
def ao{i j pos}:bE X (.Constant (.int i) j pos) (tC (.int i)):=by exact⟨λ_ _ _ H _ I h=>wpAny_Constant_int ⟨.int i,H,I.tok _,⟨_,Z⟩,h⟩⟩
def Nq{Cl:Da Expr}(ha:bE X a ta)(hb:bE X (.BoolOp .And (b::Cl) pos) tb):bE X (.BoolOp .And (a::b::Cl) pos) (afp ta tb):=by
 have ha:=ha.h;have hb:=hb.h;constructor;intro AT s σ H Q I h;refine BoolOp_and (br (ha AT s σ H _ I h) λv s1 ⟨x,H1,I1,r1,q1⟩=>?_);obtain⟨c,rfl,q1⟩:=q1;cases r1;refine AM ?_;cases c with
 | true=>exact hb AT s1 σ H1 Q I1 q1
 | false=>exact⟨.bl false,H1,I1,Z,q1⟩
def sr:bE X (.Dict [] [] pos) acQ:=by
 exact⟨λAT s σ H Q I h=>
 wpAny_Dict_empty ⟨.ref s.heap.objs.size,_,I.laid (a:=s.heap.objs.size) (o:=.dK []) (t':=s.toks) (λ_ _ q=>cI _ q) (aN _) (Mh s.heap I.big),Z,h _ (I.hok.fresh (aN _))⟩⟩
def tZ{tg e:Expr}{te:TE}{g:TG}(he:bE X e te)(hg:bG X tg g)(hs:swapsWithSole [tg] e pos.line X.env=pure false:=by rfl)(hw:swappedStores [tg] e X.env=pure none:=by rfl)(h1:(assignEach [tg] X.env).map (·.2)=[assign tg X.env] :=by rfl):bS X (.Assign [tg] e pos) (AQ te g):=by have he:=he.h;have hg:=hg.h;constructor;intro AT s σ H D I h;refine wpAny_Assign_stores (br (he AT s σ H _ I h) λv s1 ⟨x,H1,I1,r1,q1⟩=>?_) hs hw;rw[h1];exact br (hg AT s1 σ H1 x v _ I1 r1 q1) λ_ s2 q=>q
def D9{DD:Da Expr}{kk:Nat}{tpos:Pos}{ob:Expr}{td:TE}{B2 cpos:Pos}(hob:bE X ob td)(hbase:attributeBase ob "items" X.env (eval ob X.env)=eval ob X.env:=by rfl)(hline:(B2.endLine==cpos.line)=true:=by rfl):bI X (.Tuple DD kk tpos) (.Call (.Attribute ob "items" B2) [] [] cpos) (ade td):=by
 have hob:=hob.h;constructor;intro AT s σ H R I h;refine Sb hbase hline (br (hob AT s σ H _ I h) λv s1 ⟨x,H1,I1,r1,q1⟩=>?_);obtain⟨d,o,Ap,rfl,e,fin⟩:=q1;cases r1;obtain⟨ho,hz,hsys,vs,ep,rel,da⟩:=I1.tE e;obtain⟨t1,t2,_⟩:=Mi I1 (.inl ⟨Ap,.inr ⟨o,e⟩⟩);have dd:=da.dictOf;refine⟨"dict",_,F.plainAttrs_dict,F.slot_dict_items,F.type_dict_items,t1,t2,LJ rfl (Sk ?_)⟩;refine call_meetsIn F.slot_dict_items dd.typeIs F.entry_dict_items (F.args_dict_items_1 _) (meets_dict_items (dw X.prog X.w) d hsys) ⟨⟨vs,dd⟩,?_⟩;refine wpAny_pyIter_items (s:={ s1 with heap:=s1.heap.push { cls:=.type "dict_items",data:=.fields #[.ref d] } }) ⟨_,fj _ rfl,Z,Z⟩ (da.push _) ?_;have Iv:Inv X AT σ H1 { s1 with heap:=s1.heap.push { cls:=.type "dict_items",data:=.fields #[.ref d] } }:=I1.kept (t':=s1.toks) λb o e=>cI _ e;generalize ({ s1 with heap:=s1.heap.push { cls:=.type "dict_items",data:=.fields #[.ref d] } }:Shared)=sv at *;have I2:Inv X AT σ H1 { sv with heap:=sv.heap.push { cls:=.type "dict_itemiterator",data:=.fields #[.none,.bool false,.ref d,.int 0 0,.int vs.length 0,.int ep 0,.none,.none] } }:=Iv.kept (t':=sv.toks) λb o e=>cI _ e;have hl:Ap.length=vs.length:=rel.length;obtain⟨o',es,h1,_,h2,_⟩:=id da;rw[ho]at h1;cases h1;refine⟨sv.heap.objs.size,[sv.heap.objs.size],_,_,H1,Z,I2,S4 h2,?_,λb hb=>?_,fin⟩
 .rw [hl];exact⟨_,_,fj _ rfl⟩
 .have eb:b=sv.heap.objs.size:=by simpa using hb
  subst eb;exact Iv.DN (aN _) (Iv.hok.fresh (aN _))
def ad8{tg:Expr}{l:Expr}{tl:TE}(hl:bE X l tl):bI X tg l (ac5 tl):=⟨ac6 hl.h⟩
def jI(ha:bT X a tA):bW X (.BoolOp .Or [a] pos) tA:=by
 have ha:=ha.h;constructor;intro wh AT s σ H Q I h;refine isTrue_or (br (ha AT s σ H Q I h) λc s1 e=>?_);cases c with
 | false=>exact isTrue_or_nil e
 | true=>exact e
def yN{X:Cx}{st:Stmt}{t:TS}(h:bS X st t):bS X st (ajf t):=by
 have h:=h.h;constructor;intro AT s σ H D I hw;obtain⟨d,Ap,e,hw⟩:=hw;obtain⟨ho,es,ep,h1,_⟩:=(E6 I.hok e).2.2.choose_spec.2;have h0:=I.Vm e;refine br (h AT s σ _ _ (I.freeze e h1) (hw ho)) λf s' q=>?_;cases f with
 | next=>obtain⟨σ',H',I',q1,q2⟩:=q;exact⟨σ',_,I'.DR q1 h0,q2⟩
 | brk=>obtain⟨σ',H',I',q1,q2⟩:=q;exact⟨σ',_,I'.DR q1 h0,q2⟩
 | cont=>obtain⟨σ',H',I',q1,q2⟩:=q;exact⟨σ',_,I'.DR q1 h0,q2⟩
 | ret u=>obtain⟨v,σ',H',I',r,q1,q2⟩:=q;exact⟨v,σ',_,I'.DR q1 h0,r,q2⟩
def qi(hu:X.A.units+1<cLine)(ho:bE X o td)(hi:bE X i ty)(hv:bE X value tv)(hs:swapsWith value (some (.Subscript o i pos')) pos.line X.env=pure false):bS X (.Assign [.Subscript o i pos'] value pos) (afL td ty tv):=by have ho:=ho.h;have hi:=hi.h;have hv:=hv.h;constructor;intro AT s σ H D I h;refine wpAny_Assign_Subscript (br (hv AT s σ H _ I h) λr s1 ⟨v,H1,I1,rv,q1⟩=>br (ho AT s1 σ H1 _ I1 q1) λu s2 ⟨x,H2,I2,rx,q2⟩=>br (hi AT s2 σ H2 _ I2 q2) λiv s3 ⟨y,H3,I3,ry,a,H4,ex,g,q3⟩=>?_) hs;subst ex;obtain rfl:u=Value.ref a:=rx;exact U3 hu I3 g ry rv λs4 I4=>⟨σ,H4,I4,q3⟩
def qv(i:Nat){x:Str}{pos:Pos}(hN:X.N[i]?=some x:=by rfl)(hv:Uz X.env.scope x:=by first|exact Or.inl rfl|exact Or.inr (Or.inl rfl)|exact Or.inr (Or.inr rfl))(hd:(x==("__debug__":Str))=false:=by decide)(hcd:(x==("__classdict__":Str))=false:=by decide):bE X (.Name x pos) (xW i):=by exact⟨abU hN hv hd hcd⟩
def aF{id:String}(hc:iB X (.builtin id) r)(hg:Gl X x)(hm:X.mg x=none)(hv:bootBuiltins x=some (.builtin id))(ha:bA X (e::es) t)(hn:x ≠ "__name__":=by decide)(hdb:(x==("__debug__":Str))=false:=by decide)(he:starEach (e::es) X.env=(false,eval e X.env)::starEach es X.env:=by rfl)(hpl:(backTo pos (starEach es X.env)).any (·.1)=false:=by rfl):bE X (.Call (.Name x p) (e::es) [] pos) (Zp r t):=by have ha:=ha.h;constructor;intro AT s σ H Q I h;refine Hv (vB I hg hm hv ?_ hn hdb);exact PyProof.Rows.callWith_builtin1 (br (ha pos AT s σ H _ I h) λus s1 ⟨vs,H1,I1,r1,q1⟩=>hc AT s1 σ H1 vs us Q I1 r1 q1) he hpl
def ny{K:Fg}{x:Str}{C:Addr}{t:Str}{kd:Nat}{p0 p1 cpos pos:Pos}(oc:jH K C)(hg:Gl (cX (gJ P w) P w K mg base N qual scope f cd A outer s0 H0 E) x)(hm:mg x=some (.ref C))(hd:(x==("__debug__":Str))=false:=by decide):bS (cX (gJ P w) P w K mg base N qual scope f cd A outer s0 H0 E) (.Raise (some (.Call (.Name x p0) [.Constant (.str t) kd p1] [] cpos)) none pos) (adR C E):=by constructor;intro AT s σ H D I h;obtain⟨nm,q,Nn,bs,bm,hdct,sn,sub,ab,col,dd,k0,k1,k2,k3,k5,mN,hni,hb,fx⟩:=oc.ex;refine wpAny_Raise_call_subT (bm:=bm) (C:=C) (nm:=nm) (q:=q) (N:=Nn) (bs:=bs) (hdct:=hdct) (sn:=sn) (sub:=sub) (ab:=ab) (col:=col) (dd:=dd) (k0:=k0) (k1:=k1) (k2:=k2) (k3:=k3) (k5:=k5) F.excBase_ValueError hb (I.ok.hd rfl) rfl hni ?_;refine rT I hg hm ⟨Z,?_⟩ hd;have pa:PA (cX (gJ P w) P w K mg base N qual scope f cd A outer s0 H0 E) [.Constant (.str t) kd p1] (jY (tC (.str t)) ng):=QU UA UQ;refine PySem.Calls.evalArgs_plain (br (pa cpos AT s σ H (λvs H1=>vs.length=1/\H1=H) I ⟨Z,Z⟩) λus s1 ⟨vs,H1,I1,r,hv,e⟩=>?_);subst e;obtain⟨hC,hN,T⟩:=fx s1.heap I1.jB;exact⟨Z,by show us.length<=sizeLine;rw[<-r.length,hv,gy];decide,hC,hN,T,λh' e hm=>Tn I1 hm (h e)⟩
def t8{o i:Expr}{to ti:TE}{t:uh}(ho:bE X o to)(hi:bE X i ti)(hs:Xk X t)(ha:∀v,assign (.Subscript o i pos) X.env v=(do
   let ov <-holding [v] (eval o X.env)
   let iv <-holding [v,ov] (eval i X.env)
   standAt pos
   holding [v,ov,iv] (setItem ov iv v)
   release [v,ov,iv] []):=by intro _;rfl):bG X (.Subscript o i pos) (aiX to ti t):=by
 have ho:=ho.h;have hi:=hi.h;constructor
 intro AT s σ H v u Q I r h
 rw[ha]
 refine au (Ci (br (ho AT s σ H _ I h) λov s1 ⟨x,H1,I1,r1,q1⟩=>?_))
 refine au (Ci (br (hi AT s1 σ H1 _ I1 q1) λiv s2 ⟨y,H2,I2,r2,q2⟩=>?_))
 refine au (Cg (au (Ci (br (hs AT s2 σ H2 x y v ov iv u _ I2 r1 r2 r q2) λ_ s3 ⟨H3,I3,q3⟩=>?_))))
 exact wpAny_release ⟨σ,H3,I3,q3⟩
def v9{st:Stmt}:bS X st abY:=by exact⟨λ_ _ _ _ _ _ h=>h.elim⟩
def V_{j k:Nat}{x:Str}{C:Addr}{ps:Da Str}{sp:Sp}{p pos:Pos}(D:Cn X.prog X.w X.K X.mg X.base j x C ps sp)(hr:dR k X.A)(hj:j+1<=k:=by decide)(hg:Gl X x:=by rfl)(hdb:(x==("__debug__":Str))=false:=by decide):bE X (.Call (.Name x p) [] [] pos) (Ly C sp [] E0 ng):=by constructor;obtain⟨f,fd,F,b,M,m⟩:=D.ex;exact XC M F (hr.mono hj) hg m b .nil (λ_ _ _ _ _ _ _ h=>h.elim) hdb
def af(ha:bE X e te)(hr:bA X es t)(hs:starEach (e::es) X.env=(false,eval e X.env)::starEach es X.env:=by rfl):bA X (e::es) (jY te t):=⟨QU ha.h hr.h hs⟩
def aT(K:Fg){e:Expr}{f:Str}{ta:TE}{pos:Pos}(he:bE X e ta)(hb:attributeBase e f X.env (eval e X.env)=eval e X.env:=by rfl)(hK:X.K=K:=by rfl):bE X (.Attribute e f pos) (ach K ta f):=by have he:=he.h;exact⟨hK▸ack he hb⟩
def su{op:CmpOp}{r:R2}(ho:ji X (compareOp op) r)(ha:bE X a ta)(hb:bE X b tb)(hm:behindInMarks op b=false):bE X (.Compare a [op] [b] pos) (Aw r ta tb):=by have ha:=ha.h;have hb:=hb.h;constructor;intro AT s σ H Q I h;exact wpAny_Compare1 (Xr ha hb I h λv u s2 x y H2 I2 rx ry q=>ho AT s2 σ H2 x y v u Q I2 rx ry q) hm
def bh{j k:Nat}{x:Str}{ps:Da Str}{sp:Sp}{e:Expr}{es:Da Expr}{t:TA}{p pos:Pos}(D:Dn X.prog X.w X.K X.mg X.base j x ps sp)(hr:dR k X.A)(ha:bA X (e::es) t)(hj:j<=k:=by decide)(hg:Gl X x:=by rfl)(hdb:(x==("__debug__":Str))=false:=by decide)(he:starEach (e::es) X.env=(false,eval e X.env)::starEach es X.env:=by rfl)(hpl:(backTo pos (starEach es X.env)).any (·.1)=false:=by rfl):bE X (.Call (.Name x p) (e::es) [] pos) (SN sp [] E0 t):=by have ha:=ha.h;constructor;obtain⟨f,fd,F,b,kp,m⟩:=D.ex;exact QV F (hr.mono hj) hg m kp b .nil (λ_ _ _ _ _ _ _ h=>h.elim) ha hdb he hpl
def v_{Cl:Da Expr}(ha:bT X a tA)(hb:bW X (.BoolOp .And (b::Cl) pos) Zk):bW X (.BoolOp .And (a::b::Cl) pos) (aiS tA Zk):=by
 have ha:=ha.h;have hb:=hb.h;constructor;intro wh AT s σ H Q I h;refine isTrue_and (br (ha AT s σ H _ I h) λc s1 ⟨H1,I1,q1⟩=>?_);cases c with
 | true=>exact hb wh AT s1 σ H1 Q I1 q1
 | false=>exact⟨H1,I1,q1⟩
section
variable {P:Program}{w:World}{K:Fg}{mg:SO}{base:Heap}{f C:Addr}{fd:FuncData}{N ps:Da Str}{k:Nat}{sp:Sp}{x m qual:Str}{st:Stmt}
def dh{N P:Da Str}{sc:Scope}(a:sc.kind =.function:=by rfl)(b:sc.isCoroutine=false:=by rfl)(c:sc.isGenerator=false:=by rfl)(d:N.Nodup:=by decide +kernel)(e:N.take P.length=P:=by rfl)(f:∀x∈P,sc.names.lookup x=some .local\/sc.names.lookup x=some .cell:=by decide +kernel)(g:∀y∈sc.names,y.2 ≠ .free:=by decide +kernel):aJ N P sc:=⟨a,b,c,d,e,f,g⟩
def At.oA(F:At K mg x st f fd)(S:aJ N ps (ay st))(Ch:∀(cdv:Value) (A:Around) (outer:Da Env) (s:Shared) (H:Hp) (vs:Da V) (Q:VK) (E:XK),dR k (A.deeper (envOfC x (ay st) s.heap.objs.size f cdv))->sp vs H Q E->
    ∃t,rQ (cX uV P w K mg base N x (ay st) f cdv A outer s H E).C9 (cU st) t/\t { nx:=λ_ H'=>Q .cu H',rt:=Q } (start N vs) H)(len:∀vs H Q E,sp vs H Q E->vs.length=ps.length:=by intro vs H Q E h;first|(cases h.ex;subst_vars;rfl)|(have h:=h.ex;(repeat first|(obtain⟨rfl,_⟩:=h;rfl)|(obtain⟨_,h⟩:=h));done)|(repeat first|(obtain⟨rfl,_⟩:=h;rfl)|(obtain⟨_,h⟩:=h)))(h:∀(kV doc pm:Value) (an:Option Addr) (cdv ct:Value) (us:Da Value),us.length=ps.length->bindArgs (PySem.W.fnOf x x (fh st) (cU st) (ay st) .none kV doc pm an cdv ct) ⟨us,[]⟩=pure (ps.zip us):=by intro _ _ _ _ _ _ us hl;repeat' (first|rfl|(simp at hl;done)|(rcases us with _|⟨_,us⟩))):Dn P w K mg base (k+1) x ps sp:=F.ok S len Ch h
def At.DA(F:At K mg x st f fd)(S:aJ N ps (ay st))(Ch:∀(cdv:Value) (A:Around) (outer:Da Env) (s:Shared) (H:Hp) (vs:Da V) (Q:VK) (E:XK),dR k (A.deeper (envOfC x (ay st) s.heap.objs.size f cdv))->sp vs H Q E->
    ∃t,rQ (cX (gJ P w) P w K mg base N x (ay st) f cdv A outer s H E) (cU st) t/\t { nx:=λ_ H'=>Q .cu H',rt:=Q } (start N vs) H)(len:∀vs H Q E,sp vs H Q E->vs.length=ps.length:=by intro vs H Q E h;first|(cases h.ex;subst_vars;rfl)|(have h:=h.ex;(repeat first|(obtain⟨rfl,_⟩:=h;rfl)|(obtain⟨_,h⟩:=h));done)|(repeat first|(obtain⟨rfl,_⟩:=h;rfl)|(obtain⟨_,h⟩:=h)))(h:∀(kV doc pm:Value) (an:Option Addr) (cdv ct:Value) (us:Da Value),us.length=ps.length->bindArgs (PySem.W.fnOf x x (fh st) (cU st) (ay st) .none kV doc pm an cdv ct) ⟨us,[]⟩=pure (ps.zip us):=by intro _ _ _ _ _ _ us hl;repeat' (first|rfl|(simp at hl;done)|(rcases us with _|⟨_,us⟩))):Dx P w K mg base (k+1) x ps sp:=F.okX S len Ch h
def jF.oA(F:jF K C m qual st f fd)(S:aJ N ps (ay st))(Ch:∀(cdv:Value) (A:Around) (outer:Da Env) (s:Shared) (H:Hp) (vs:Da V) (Q:VK) (E:XK),dR k (A.deeper (envOfC qual (ay st) s.heap.objs.size f cdv))->sp vs H Q E->
    ∃t,rQ (cX uV P w K mg base N qual (ay st) f cdv A outer s H E).C9 (cU st) t/\t { nx:=λ_ H'=>Q .cu H',rt:=Q } (start N vs) H)(len:∀vs H Q E,sp vs H Q E->vs.length=ps.length:=by intro vs H Q E h;first|(cases h.ex;subst_vars;rfl)|(have h:=h.ex;(repeat first|(obtain⟨rfl,_⟩:=h;rfl)|(obtain⟨_,h⟩:=h));done)|(repeat first|(obtain⟨rfl,_⟩:=h;rfl)|(obtain⟨_,h⟩:=h)))(h:∀(kV doc pm:Value) (an:Option Addr) (cdv ct:Value) (us:Da Value),us.length=ps.length->bindArgs (PySem.W.fnOf m qual (fh st) (cU st) (ay st) .none kV doc pm an cdv ct) ⟨us,[]⟩=pure (ps.zip us):=by intro _ _ _ _ _ _ us hl;repeat' (first|rfl|(simp at hl;done)|(rcases us with _|⟨_,us⟩))):Mn P w K mg base (k+1) C m ps sp:=F.ok S len Ch h
def jF.DA(F:jF K C m qual st f fd)(S:aJ N ps (ay st))(Ch:∀(cdv:Value) (A:Around) (outer:Da Env) (s:Shared) (H:Hp) (vs:Da V) (Q:VK) (E:XK),dR k (A.deeper (envOfC qual (ay st) s.heap.objs.size f cdv))->sp vs H Q E->
    ∃t,rQ (cX (gJ P w) P w K mg base N qual (ay st) f cdv A outer s H E) (cU st) t/\t { nx:=λ_ H'=>Q .cu H',rt:=Q } (start N vs) H)(len:∀vs H Q E,sp vs H Q E->vs.length=ps.length:=by intro vs H Q E h;first|(cases h.ex;subst_vars;rfl)|(have h:=h.ex;(repeat first|(obtain⟨rfl,_⟩:=h;rfl)|(obtain⟨_,h⟩:=h));done)|(repeat first|(obtain⟨rfl,_⟩:=h;rfl)|(obtain⟨_,h⟩:=h)))(h:∀(kV doc pm:Value) (an:Option Addr) (cdv ct:Value) (us:Da Value),us.length=ps.length->bindArgs (PySem.W.fnOf m qual (fh st) (cU st) (ay st) .none kV doc pm an cdv ct) ⟨us,[]⟩=pure (ps.zip us):=by intro _ _ _ _ _ _ us hl;repeat' (first|rfl|(simp at hl;done)|(rcases us with _|⟨_,us⟩))):Mx P w K mg base (k+1) C m ps sp:=F.okX S len Ch h
def JD.oA(F:JD K mg x C qual st f fd)(S:aJ N ps (ay st))(Ch:∀(cdv:Value) (A:Around) (outer:Da Env) (s:Shared) (H:Hp) (vs:Da V) (Q:VK) (E:XK),dR k (A.deeper (envOfC qual (ay st) s.heap.objs.size f cdv))->sp vs H Q E->
    ∃t,rQ (cX uV P w K mg base N qual (ay st) f cdv A outer s H E).C9 (cU st) t/\t { nx:=λ_ H'=>Q .cu H',rt:=Q } (start N vs) H)(len:∀vs H Q E,sp vs H Q E->vs.length=ps.length:=by intro vs H Q E h;first|(cases h.ex;subst_vars;rfl)|(have h:=h.ex;(repeat first|(obtain⟨rfl,_⟩:=h;rfl)|(obtain⟨_,h⟩:=h));done)|(repeat first|(obtain⟨rfl,_⟩:=h;rfl)|(obtain⟨_,h⟩:=h)))(h:∀(kV doc pm:Value) (an:Option Addr) (cdv ct:Value) (us:Da Value),us.length=ps.length->bindArgs (PySem.W.fnOf "__init__" qual (fh st) (cU st) (ay st) .none kV doc pm an cdv ct) ⟨us,[]⟩=pure (ps.zip us):=by intro _ _ _ _ _ _ us hl;repeat' (first|rfl|(simp at hl;done)|(rcases us with _|⟨_,us⟩))):Cn P w K mg base (k+1) x C ps sp:=F.ok S len Ch h
end
noncomputable def J5(b:BS)(x:Str)(F:BP->BP):BS:={ b with ah:=(b.ah.map λp=>if p.nm=x then F p else p).filter λp=>decide (0<p.wo) }
noncomputable def Ab(b:BS)(x:Str):BP:=(b.ah.find? λp=>decide (p.nm=x)).getD ⟨x,x,0,0,[]⟩
noncomputable def agn(b:BS)(o:Str)(p:BP):BP:={ p with ow:=o,tops:=(p.tops.set (b.own.idxOf p.ow) 0).set (b.own.idxOf o) ((p.tops.set (b.own.idxOf p.ow) 0).getD (b.own.idxOf o) 0+p.tops.getD (b.own.idxOf p.ow) 0) }
noncomputable def ad9(b:BS)(x y:Str)(a we:Int):BS:={ b with
 ah:=((b.ah.map λp:BP=>if p.nm=x then{ p with wo:=p.wo-a,we:=p.we-we } else p)++[BP.mk y (Ab b x).ow a we (Ab b x).tops]).filter λp=>decide (0<p.wo)
 dG:=b.dG++[y] }
noncomputable def CL(b:BS)(x:Str):BS:={ J5 b x λp=>{ p with wo:=0 }with dB:=b.dB++[⟨x,(Ab b x).ow,(Ab b x).wo,(Ab b x).tops,b.bot⟩] }
noncomputable def vf(b:BS):Dd->BS
 | .sign _=>b
 | .load x o wo we=>z9 b x o wo we
 | .cast rs=>iN b (di b rs) 0 0
 | .award o a=>iN b (List.replicate b.ah.length 0) (b.own.idxOf o) a
 | .mishap x a=>J5 b x λp=>{ p with wo:=p.wo-a }
 | .rise x a=>J5 b x λp=>{ p with wo:=p.wo+a }
 | .hand x o=>J5 b x (agn b o)
 | .land x=>CL b x
 | .sever x y a we=>ad9 b x y a we
 | .still=>b
def Wa(b:BS)(d:Dd):(vf b d).own=b.own:=by cases d <;> rfl
inductive ago(e:Ec)(vs:Da V)(H:Hp)(Q:VK)(E:XK):Prop
 |mk(a:Int)(_:vs=[.int a])(_:(a<1->Rf e E H 5))(_:(1<=a->Q .cu H))
def Nr(e:Ec):Sp:=bx (ago e)
inductive agp(e:Ec)(vs:Da V)(H:Hp)(Q:VK)(E:XK):Prop
 |mk(m a:Int)(_:vs=[.int m,.int a])(_:(a<1->Rf e E H 5))(_:(1<=a->m<a->Rf e E H 6))(_:(1<=a->a<=m->Q .cu H))
def Wb(e:Ec):Sp:=bx (agp e)
inductive agq(K:Fg)(vs:Da V)(H:Hp)(Q:VK)(E:XK):Prop
 |mk(l:Addr)(us:Da V)(ws:Da Row)(x:Str)(_:vs=[.ref l,.str x])(_:az K H l us)(_:Th K H us ws)(_:(ws.map (λr:Row=>r.1)).Nodup)(_:ws.length<=1000)(_:(∀(i:Nat) (r:Row),ws[i]?=some r->r.1=x->Q (.int (i:Int)) H))(_:((∀r∈ws,r.1≠x)->Q (.int (-1)) H))
def yO(K:Fg):Sp:=bx (agq K)
inductive YM(al:HS->Dd->Prop)(K:Fg)(vs:Da V)(H:Hp)(Q:VK)(E:XK):Prop
 |mk(n c:Nat)(ρ:dO)(B:BA)(b:BS)(st:HS)(z:Addr)(d:Dd)(_:vs=[.ref B.m,.ref z])(_:H z=some (.tup d.v))(_:Gh ρ H)(_:aV n ρ B H b)(_:d_ c st b)(_:c<=90)(_:Wf st)(_:al st d)(_:J4 d)(_:kI st d=none)(_:∀ρ' B' H',Gh ρ' H'->aV n ρ' B' H' (vf b d:_)->B'.m=B.m->Fr n ρ H ρ' H'->Q .cu H')
def xM(al:HS->Dd->Prop)(K:Fg):Sp:=bx (YM al K)
inductive abk(T:TC)(al:HS->Dd->Prop)(K:Fg)(vs:Da V)(H:Hp)(Q:VK)(E:XK):Prop
 |mk(n m c:Nat)(ρ:dO)(A:HA)(B:BA)(st:HS)(b:BS)(v0 v1:V)(z:Addr)(d:Dd)(_:vs=[v0,v1,.ref A.a,.ref B.m,.ref z])(_:n≠m)(_:H z=some (.tup d.v))(_:HH T n ρ A H st)(_:aV m ρ B H b)(_:d_ c st b)(_:c<=90)(_:al st d)(_:J4 d)(_:∀ρ' A' B' H' st' b',HH T n ρ' A' H' st'->aV m ρ' B' H' b'->d_ (c+1) st' b'->A'.a=A.a->B'.m=B.m->b'.own=b.own->st'.kn<=st.kn+100->(b'=b\/(kI st d=none/\b'=vf b d))->aE (out ρ H:_) (out ρ' H':_)->Q (.bl true) H')
def Nt(T:TC)(al:HS->Dd->Prop)(K:Fg):Sp:=bx (abk T al K)
theorem Dn.imp{P:Program}{w:World}{K:Fg}{mg:SO}{base:Heap}{k:Nat}{x:Str}{ps:Da Str}{sp UR:Sp}(D:Dn P w K mg base k x ps sp)(h:∀vs H Q E,UR vs H Q E->sp vs H Q E):Dn P w K mg base k x ps UR:=by obtain⟨f,fd,F,b,kp,m⟩:=D.ex;exact⟨f,fd,F.imp h,b,kp,m⟩
def ad_{P:Program}{w:World}{K:Fg}{mg:SO}{base:Heap}{k:Nat}{ps:Da Str}(D:Dn P w K mg base k "_law_at" ps (yO K)):Dn P w K mg base k "_law_at" ps (ZJ K):=D.imp λvs H Q E h=>by
 obtain⟨⟨l,us,ws,j,r,rfl,hl,hW,nd,hle,ej,q⟩⟩:=h;refine⟨l,us,ws,r.1,Z,hl,hW,nd,hle,λi r' e1 e2=>?_,λz=>absurd rfl (z r (bK ej))⟩;have hi:i<ws.length:=(dZ.mp e1).1;have r1:(ws.map (λr:Row=>r.1))[i]?=some r'.1:=by rw[bH,e1];rfl
 have r2:(ws.map (λr:Row=>r.1))[j]?=some r.1:=by rw[bH,ej];rfl
 have:i=j:=(Ce (by rw[aD];exact hi) nd).mp (r1.trans (by rw[e2];exact r2.symm));rw[this];exact q
def Ga{st:HS}{x:Str}(h:x∈jM st):∃(i:Nat)(p:Pt),st.ah[i]?=some p/\p.nm=x:=by obtain⟨p,hp,e⟩:=bD.mp h;obtain⟨i,hi,ei⟩:=uf hp;exact⟨i,p,by rw[aY hi,ei],e⟩
def ZS{st:HS}{i:Nat}{p:Pt}(h:st.ah[i]?=some p):p.nm∈jM st:=bD.mpr ⟨p,bK h,Z⟩
theorem Gb{α:Type}{nm:α->Str}{f:α->α}:∀{l:Da α}{i:Nat}{p:α},(l.map nm).Nodup->l[i]?=some p->(l.map λq=>if nm q=nm p then f q else q)=l.set i (f p)
 | [],_,_,_,h=>by simp at h
 | a::l,0,p,nd,h=>by
  have e:a=p:=by simpa using h
  subst e;obtain⟨h1,_⟩:=gO.mp (show(nm a::l.map nm).Nodup from nd);rw[bP,aC rfl,LP];congr 1;refine(LM (g:=id) (λq hq=>aB λz=>h1 (bD.mpr ⟨q,hq,z⟩))).trans (List.map_id l)
 | a::l,i+1,p,nd,h=>by
  obtain⟨h1,h2⟩:=gO.mp (show(nm a::l.map nm).Nodup from nd);have h':l[i]?=some p:=by simpa using h
  rw[bP,aB (λz=>h1 (bD.mpr ⟨p,bK h',z.symm⟩)),LO,Gb h2 h']
noncomputable def ajr(p:BP):Q4:=(p.nm,p.ow,p.wo,p.we)
theorem agr{c:Nat}{st:HS}{b:BS}(g:d_ c st b){ps:Da Pt}{bs:Da BP}(qd:iO { st with ah:=ps }=mW { b with ah:=bs })(hp:∀p'∈ps,∃p∈st.ah,p'.nm=p.nm/\p'.sc=p.sc/\p'.row=p.row)(hb:∀q'∈bs,∃q∈b.ah,q'.nm=q.nm/\q'.ow=q.ow/\q'.tops=q.tops/\1<=q'.wo/\q'.wo<=q.wo+1000000000/\q'.we<=q.we)(sb:(bs.map λp:BP=>p.nm).Sublist (b.ah.map λp:BP=>p.nm)):d_ (c+1) { st with ah:=ps } { b with ah:=bs }:=by
 have hl:bs.length<=b.ah.length:=by have:=sb.length_le;rwa [aD,aD]at this
 have wb:=g.fG
 refine⟨⟨wb.nd.sublist sb,λq hq=>?_,λq hq=>?_,wb.b1,wb.bz,λq hq=>?_,wb.ol,fZ hl wb.pl,wb.kl⟩,⟨g.rel.own,qd⟩,λp Bs q hq e j=>?_,λu hu=>(g.cJ u hu).mono (by omega),fZ g.stp (by omega),g.prod.mono (by omega),g.bot.mono (by omega),λq hq=>?_,(λq hq=>by obtain⟨q0,h0,e1,e2,e3,e4,e5,e6⟩:=hb q hq;have:=g.we q0 h0;omega),(by have:=g.pl;show bs.length<=_;omega),(by have:=g.kl;show b.dG.length<=_;omega),g.own,λq hq=>?_,g.dB,g.dG,g.nk,g.on,λq hq=>?_⟩
 . obtain⟨q0,h0,e1,e2,e3,e4,e5⟩:=hb q hq;rw[e3];exact wb.tl q0 h0
 . obtain⟨q0,h0,e1,e2,e3,e4,e5⟩:=hb q hq;rw[e3];exact wb.t0 q0 h0
 . obtain⟨q0,h0,e1,e2,e3,e4,e5⟩:=hb q hq;exact e4
 . obtain⟨q0,h0,e1,e2,e3,e4,e5⟩:=hb q hq
   obtain⟨p0,k0,k1,k2,k3⟩:=hp p Bs
   have:=g.yb p0 k0 q0 h0 (by rw[<-k1,<-e1];exact e) j
   rw[e3]
   show _=(bR { st with ah:=ps } p).getD j 0*b.bot
   have et:bR { st with ah:=ps } p=bR st p0:=by unfold bR;rw[k2,k3]
   rw[et];exact this
 . obtain⟨q0,h0,e1,e2,e3,e4,e5⟩:=hb q hq
   have:=g.wo q0 h0
   omega
 . obtain⟨q0,h0,e1,e2,e3,e4,e5⟩:=hb q hq;rw[e1,e2];exact g.nm q0 h0
 . obtain⟨q0,h0,e1,e2,e3,e4,e5⟩:=hb q hq;rw[e3];exact g.sum q0 h0
def YN{c:Nat}{st:HS}{b:BS}(g:d_ c st b):st.ah.map (λp=>((p.nm,p.ow,p.wo,p.we):Q4))=b.ah.map ajr:=g.rel.qd
def Tv{st:HS}{r:Row}{i:Nat}(h:iT st r=some i):i=3\/i=5\/i=6:=by
 unfold iT at h;split at h
 .split at h
  .cases h;exact .inr (.inl rfl)
  .split at h <;> cases h;exact .inr (.inr rfl)
 .cases h;exact .inl rfl
def D_{st:HS}{b:BS}(r:jG st b)(wf:Wf st){x:Str}(h:x∈jM st):∃(i:Nat)(p:Pt)(q:BP),st.ah[i]?=some p/\b.ah[i]?=some q/\p.nm=x/\q.nm=x/\q.ow=p.ow/\q.wo=p.wo/\q.we=p.we/\dN st x=p:=by obtain⟨i,p,h1,h2⟩:=Ga h;obtain⟨q,k1,k2,k3,k4,k5⟩:=r.at' h1;exact⟨i,p,q,h1,k1,h2,k2.symm.trans h2,k3.symm,k4.symm,k5.symm,jh wf (bK h1) h2⟩
def Nu{st:HS}{b:BS}(r:jG st b):(lg b).map (λr:Row=>r.1)=jM st:=by
 have:(iO st).map (λq:Q4=>q.1)=(mW b).map (λq:Q4=>q.1):=by rw[r.qd]
 unfold iO mW at this;rw[f_,f_]at this;unfold lg jM;rw[f_];exact this.symm
def Ij{K:Fg}{H:Hp}{Q:VK}{E:XK}{n:Nat}{ρ:dO}{B:BA}{b:BS}{st:HS}{x:Str}(hb:aV n ρ B H b)(r:jG st b)(wf:Wf st)(wb:vV b)(q:∀(i:Nat) (p:Pt) (q:BP),st.ah[i]?=some p->b.ah[i]?=some q->p.nm=x->q.nm=x->q.ow=p.ow->q.wo=p.wo->q.we=p.we->dN st x=p->x∈jM st->Q (.int (i:Int)) H)(q2:x∉jM st->Q (.int (-1)) H):yO K [.ref B.lp,.str x] H Q E:=by
 have nd:((lg b).map (λr:Row=>r.1)).Nodup:=by unfold lg;rw[f_];exact wb.nd
 refine⟨B.lp,_,lg b,x,Z,az.of hb.op,hb.nw,nd,by unfold lg;rw[aD];exact wb.pl,λi r' e1 e2=>?_,λh=>q2 λz=>?_⟩
 . have hm:x∈jM st:=by rw[<-Nu r];exact bD.mpr ⟨r',bK e1,e2⟩
   obtain⟨j,p,q',k1,k2,k3,k4,k5,k6,k7,k8⟩:=D_ r wf hm
   have r1:((lg b).map (λr:Row=>r.1))[i]?=some x:=by rw[bH,e1];show some r'.1=_;rw[e2]
   have r2:((lg b).map (λr:Row=>r.1))[j]?=some x:=by unfold lg;rw[f_,bH,k2];show some q'.nm=_;rw[k4]
   have:i=j:=(Ce (dZ.mp r1).1 nd).mp (r1.trans r2.symm)
   subst this
   exact q i p q' k1 k2 k3 k4 k5 k6 k7 k8 hm
 . rw[<-Nu r]at z
   obtain⟨r',hr',e⟩:=bD.mp z
   exact h r' hr' e
def Tw{T:TC}{al:HS->Dd->Prop}{K:Fg}{H:Hp}{Q:VK}{E:XK}{n:Nat}{ρ:dO}{A:HA}{st:HS}{x z:Addr}{d:Dd}(ea:A.a=x)(hz:cV K H z (Dd.v d))(hh:HH T n ρ A H st)(ha:al st d)(q:∀l ρ' A' H',HH T n ρ' A' H' (v5 st d)->A'.a=x->Fr n ρ H ρ' H'->(kI st d=none->ρ' l=none)->H' l=some (.lst (LB (kI st d)))->Q (.ref l) H'):Ie T al K [.ref x,.ref z] H Q E:=by
 subst ea
 refine⟨n,ρ,A,st,z,d,Z,hz,hh,ha,λi hi l H' g hl=>q l ρ A H' ?_ rfl (Fr.of_same g) (λz=>by rw[hi]at z;cases z) ?_,λhi l ρ' A' H' Gd ea' F hl cl _=>q l ρ' A' H' ?_ ea' F (λ_=>cl) ?_⟩
 . unfold v5;rw[hi];exact hh.mono g
 . rw[hi];exact hl
 . unfold v5;rw[hi];exact Gd
 . rw[hi];exact hl
theorem Ge:∀{l:Da Int},0<l.sum->∃x∈l,0<x
 | [],h=>by simp at h
 | a::l,h=>by
  by_cases c:0<a
  .exact ⟨a,cQ,c⟩
  .rw [c6]at h;obtain⟨x,hx,h2⟩:=Ge (l:=l) (by omega);exact⟨x,cL _ hx,h2⟩
theorem DB:∀{ps:Da BP}{as:Da Int},as.length=ps.length->(List.zipWith (λ(p:BP)(a:Int)=>p.wo-a) ps as).sum=(ps.map λp=>p.wo).sum-as.sum
 | [],[],_=>rfl
 | p::ps,a::as,h=>by rw[ud,c6,bP,c6,c6,DB (by simpa using h)];omega
 | [],_::_,h=>by simp at h
 | _::_,[],h=>by simp at h
theorem Wc{b:BS}{as:Da Int}{seat:Nat}{aw:Int}(ok:j_ b as seat aw):0<(iN b as seat aw).ah.length:=by
 have h1:=DB ok.len;have h2:0<(List.zipWith (λ(p:BP)(a:Int)=>p.wo-a) b.ah as).sum:=by rw[h1];have:=ok.kept;have:=ok.Dr;unfold bu at this;have k:bu b=(b.ah.map λp=>p.wo).sum:=rfl;omega
 obtain⟨x,hx,h3⟩:=Ge h2;obtain⟨i,p,a,ep,ea,rfl⟩:=iS hx;have hm:mK (gU b as seat aw) (bu b-aw-as.sum) p a∈(iN b as seat aw).ah:=lJ.mpr ⟨bK (M1 ep ea),cy h3⟩;exact List.length_pos_of_mem hm
structure BC(st:HS):Prop where
 big:Jm.Sz 60 (aR st)
 prod:Jm.Sz 7900 st.prod
 cJ:∀u∈st.cJ,Jm.Sz 8900 u
 stp:st.stp.length<100
noncomputable def kW(st:HS)(o:Str)(a:Int):Da Int:=(List.replicate st.own.length 0).set (st.own.idxOf o) (a*st.prod)
inductive abl(T:TC)(e:Ec)(vs:Da V)(H:Hp)(Q:VK)(E:XK):Prop
 |mk(n ρ A st o a:_)(_:vs=[.ref A.a,.str o,.int a])(_:HH T n ρ A H st)(_:BC st)(_:RA T e n ρ A H (lq st o a:_) (FZ st o a:_) Q E)
def Nv(T:TC)(e:Ec):Sp:=bx (abl T e)
noncomputable def YO(st:HS):Dd->Prop
 | .award _ _=>BC st
 | _=>False
def BF{st:HS}{o:Str}{a:Int}{i:Nat}(h:lq st o a=some i):i=2\/i=5\/i=6:=by
 unfold lq at h;split at h
 .split at h
  .cases h;exact .inr (.inl rfl)
  .split at h <;> cases h;exact .inr (.inr rfl)
 .cases h;exact .inl rfl
theorem Gf{st:HS}{o:Str}{a:Int}(h:lq st o a=none):o∈st.own/\1<=a/\a<aR st:=by
 unfold lq at h;split at h
 .split at h
  .cases h
  .split at h
   .cases h
   .exact ⟨by assumption,by omega,by omega⟩
 .cases h
def Wd{K:Fg}{e:Ec}{st:HS}{d:Dd}{i:Nat}(t2:Told K e e.vd 2)(t5:Told K e e.oQ 5)(t6:Told K e e.qN 6)(ha:YO st d)(hr:kI st d=some i):Told K e (e.at i) i:=by
 cases d with
 | award o a=>rcases BF hr with rfl|rfl|rfl <;> assumption
 | _=>exact ha.elim
def abm(st:HS)(d:Dd)(i:Nat)(ha:YO st d)(h:kI st d=some i):i<10:=by
 cases d with
 | award o a=>rcases BF h with rfl|rfl|rfl <;> decide
 | _=>exact ha.elim
def YQ{st:HS}{o:Str}{a m:Int}(h:m∈kW st o a):m=0\/m=a*st.prod:=by
 rcases R7 h with z|z
 .exact .inl (LF z)
 .exact .inr z
def YR(st:HS)(o:Str)(a:Int):(kW st o a).length=st.own.length:=by unfold kW;rw[jV,kD]
theorem BC.blend{st:HS}{o:Str}{a:Int}(w:BC st)(wf:Wf st)(h1:1<=a)(h2:a<aR st):rY st (aR st-a) (aR st) a (kW st o a):=by have p1:=wf.iZ;refine⟨by omega,by omega,by omega,by rw[YR,wf.jg],λm hm=>?_,w.prod,w.big,w.cJ,w.stp⟩;have:0<=a*st.prod:=mR (by omega) (by omega);rcases YQ hm with z|z <;> omega
def Nx{l:Da Int}{i j:Nat}{x:Int}(h:i<l.length):(l.set i x).getD j 0=if i=j then x else l.getD j 0:=by
 rw[gT,List.getElem?_set];by_cases e:i=j
 .subst e;rw[aC rfl,aC rfl,aC h];rfl
 .rw [aB e,aB e,gT]
def YS(n j:Nat):(List.replicate n (0:Int)).getD j 0=0:=by rw[gT,Sa];split <;> rfl
theorem Ny:∀(ps:Da BP)(i:Nat),iH ps (List.replicate ps.length 0) i=0
 | [],_=>rfl
 | p::ps,i=>by have:=Ny ps i;unfold iH at this ⊢;rw[jm,ze,ud,c6,this,Int.mul_zero];rfl
def Gg(b:BS)(j:Nat):(gr b (List.replicate b.ah.length 0)).getD j 0=0:=by
 unfold gr;rw[gT,bH];cases(List.range b.own.length)[j]? with
 | none=>rfl
 | some i=>exact Ny b.ah i
def aea{b:BS}{seat:Nat}{a:Int}{p:BP}(h:p∈(iN b (List.replicate b.ah.length 0) seat a).ah):∃q∈b.ah,p=mK (gU b (List.replicate b.ah.length 0) seat a) (bu b-a) q 0:=by obtain⟨h1,_⟩:=lJ.mp (show p∈(dW b (List.replicate b.ah.length 0) seat a).filter _ from h);obtain⟨i,x,y,ex,ey,e⟩:=iS (show p∈List.zipWith (mK (gU b (List.replicate b.ah.length 0) seat a) (bu b-a-(List.replicate b.ah.length (0:Int)).sum)) b.ah (List.replicate b.ah.length 0)from h1);rw[z_,EU,LF (bK ey)]at e;exact⟨x,bK ex,e⟩
theorem RD{k:BP->Int->BP}:∀(ps:Da BP),List.zipWith k ps (List.replicate ps.length 0)=ps.map λp=>k p 0
 | []=>rfl
 | p::ps=>by rw[jm,ze,ud,bP,RD ps]
theorem YT{c:Nat}{st:HS}{b:BS}{o:Str}{a:Int}(g:d_ c st b)(wf:Wf st)(w:BC st)(hc:c<=90)(ho:o∈st.own)(h1:1<=a)(h2:a<aR st):d_ (c+1) (FZ st o a) (iN b (List.replicate b.ah.length 0) (b.own.idxOf o) a):=by
 have ew:=g.rel.whole;have eo:=g.rel.own;have bl:=w.blend (o:=o) wf h1 h2;have hi:b.own.idxOf o<b.own.length:=LG.mpr (by rw[<-eo];exact ho);have bo:j_ b (List.replicate b.ah.length 0) (b.own.idxOf o) a:=⟨kD,λx hx=>by rw[LF hx];exact lM _,hi,by omega,by rw[z_];omega,by rw[<-ew];exact w.big⟩
 refine Rv g bl bo hc rfl ⟨?_,?_⟩ ?_
 .show (cK st _ _ _).own=b.own;unfold cK;rw[JL];exact eo
 .rw [show iO (FZ st o a)=iO st from FN _ _ _ _,g.rel.qd];unfold mW iN dW;rw[RD];show _=List.map _ (List.filter _ (List.map _ b.ah));rw[Si.mpr (λq hq=>by obtain⟨p,hp,rfl⟩:=bD.mp hq;exact cy (by show 0<p.wo-0;have:=g.fG.w1 p hp;omega)),f_]
  refine LM λp _=>?_;show(p.nm,p.ow,p.wo,p.we)=(p.nm,p.ow,p.wo-0,p.we)
  rw[EU]
 .intro p' Bs q' hq' en j;obtain⟨q,hq,rfl⟩:=aea hq';have hp1:p'∈st.ah.map (λp:Pt=>{ p with sc:=p.sc*(aR st-a) / cZ st (aR st-a) (aR st) (kW st o a) }):=by have h:p'∈(cK st (aR st-a) (aR st) (kW st o a)).ah:=Bs;unfold cK at h;rw[xE]at h;exact h
  obtain⟨p,hp,rfl⟩:=bD.mp hp1;have tj:=g.yb p hp q hq en j;show(List.zipWith _ q.tops (gU b _ _ a)).getD j 0*_=_*(b.bot*bu b);rw[rZ (f:=λt g=>t*(bu b-a)+g) (by show(0:Int)*_+0=0;omega) (by rw[g.fG.tl q hq,vW]),<-ew];refine JZ (p':={ p with sc:=p.sc*(aR st-a) / cZ st (aR st-a) (aR st) (kW st o a) }) wf bl rfl rfl hp rfl rfl tj ?_;unfold gU kW;rw[aC (by omega),Nx (by rw[lQ];exact hi),Nx (by rw[kD,eo];exact hi),Gg,Gg,YS,eo];by_cases e:b.own.idxOf o=j
  .rw [aC e,aC e,Int.zero_add,jK,jK,qw b.bot]
  .rw [aB e,aB e,Int.zero_mul,Int.zero_mul]
theorem d_.aw{c:Nat}{st:HS}{b:BS}(g:d_ c st b)(hc:c<=90):BC st:=⟨by rw[g.rel.whole];exact(g.whole (by omega)).2,g.prod.mono (by omega),λu hu=>(g.cJ u hu).mono (by omega),by have:=g.stp;omega⟩
def We(c:Nat)(st:HS)(b:BS)(d:Dd)(g:d_ c st b)(hc:c<=90)(wf:Wf st)(ha:YO st d)(db:J4 d)(hr:kI st d=none):d_ (c+1) (tH st d) (vf b d)/\(tH st d).kn<=st.kn+100:=by
 cases d with
 | award o a=>
  obtain⟨ho,h1,h2⟩:=Gf hr;refine⟨YT g wf ha hc ho h1 h2,?_⟩;show(cK st _ _ _).kn<=_;unfold cK gi;split
  .exact fD _
  .exact zm _ _
 | _=>exact ha.elim
def Nz{H:Hp}{a b:Addr}{o:HO}(h:upd H a o b=none):H b=none:=by
 by_cases z:b=a
 .rw [z,ak]at h;cases h
 .rw [av z]at h;exact h
theorem Ik:∀{l:Da BP}{i:Nat}{q:BP},(l.map λp:BP=>p.nm).Nodup->l[i]?=some q->(l.find? λp=>decide (p.nm=q.nm))=some q
 | [],_,_,_,h=>by simp at h
 | p::l,0,q,_,h=>by
  have e:p=q:=by simpa using h
  subst e;rw[qu,cy rfl]
 | p::l,i+1,q,nd,h=>by
  obtain⟨h1,h2⟩:=gO.mp (show(p.nm::l.map λp:BP=>p.nm).Nodup from nd);have h':l[i]?=some q:=by simpa using h
  rw[qu,d7 (λe=>h1 (bD.mpr ⟨q,bK h',e.symm⟩))];exact Ik h2 h'
theorem Gi:∀{l:Da Int},(∀t∈l,0<=t)->0<=l.sum/\∀t∈l,t<=l.sum
 | [],_=>⟨lM _,λt h=>by cases h⟩
 | a::l,h=>by
  obtain⟨h1,h2⟩:=Gi (l:=l) λt ht=>h t (cL _ ht);have h0:=h a cQ;refine⟨by show 0<=a+l.sum;omega,λt ht=>?_⟩;show t<=a+l.sum;rcases c_.mp ht with rfl|ht
  .omega
  .have:=h2 t ht;omega
def tpL{st:HS}(wf:Wf st){p:Pt}(hp:p∈st.ah):(bR st p).length=st.own.length:=by unfold bR;rw[pI,wf.rows p hp,wf.jg,Cm]
theorem YU{X:Cx}:ab3 X (L6 X.K):=by
 intro AT s σ H x y v u Q I rx ry h;obtain⟨p,xs,i,z,rfl,rfl,hq,he,q⟩:=h;cases rx;obtain⟨t,rfl⟩:=ry;obtain⟨Bi,r,pl,hz⟩:=I.list hq;obtain⟨j,h1,h2,h3,h4,h5⟩:=Ct he;obtain⟨w,ew,rw'⟩:=r.get h2;have hl:=r.length;have hn:=vE;have fin:EP X AT σ Q w s:=⟨z,H,I,rw',q⟩
 by_cases h0:0<=i
 .have hj:i.toNat=j:=by rw[seqIndex_of h0 h5]at h1;exact gZ h1
  exact wpAny_getItem_list pl.isList h0 (by omega) (by rw[hj];simpa using ew) fin
 .have hj:(i+(Bi.toArray.size:Int)).toNat=j:=by rw[seqIndex_neg (by omega) h4]at h1;rw[jc,<-hl];exact gZ h1
  exact wpAny_getItem_list_neg pl.isList (by omega) (by rw[jc] <;> omega) (by omega) (by rw[hj];simpa using ew) fin
def aV.YV{n:Nat}{ρ:dO}{B:BA}{H:Hp}{b:BS}(h:aV n ρ B H b)(g:Gh ρ H){i:Nat}{p0:BP}{q0:Addr×Addr}(l:Da Int)(ep:b.ah[i]?=some p0)(eq:B.qs[i]?=some q0)(nd:(b.ah.map (λp:BP=>p.nm)).Nodup):aV n ρ B (upd H q0.2 (.lst (l.map V.int))) { b with ah:=b.ah.set i { p0 with tops:=l } }:=by
 obtain⟨x1,x2,x3,x4⟩:=h.pt i p0 q0 ep eq;have k:=eF (o:=.lst (l.map V.int)) g x4;obtain⟨vs,h1,h2⟩:=h.oa;have hi2:i<b.ah.length:=(dZ.mp ep).1;refine⟨kz k h.cm h.om,h.cm,kz k h.co h.oo,h.co,kz k h.cp h.op,h.cp,⟨vs,kz k h.ca h1,h2.keep k (by decide) (by decide)⟩,h.ca,kz k h.ck h.ok,h.ck,?_,λj p q qL Dq=>?_⟩
 .show B.qs.length=(b.ah.set i _).length;rw[jV];exact h.ql
 .have qL:(b.ah.set i { p0 with tops:=l })[j]?=some p:=qL;by_cases hj:i=j
  .subst hj;rw[uc hi2]at qL;rw[eq]at Dq;cases qL;cases Dq;exact⟨kz k x3 x1,ak,x3,x4⟩
  .rw [y9 hj]at qL;obtain⟨a1,a2,a3,a4⟩:=h.pt j p q qL Dq;have hnm:p.nm≠p0.nm:=λe=>by
    have hj2:j<b.ah.length:=(dZ.mp qL).1;have r1:(b.ah.map (λp:BP=>p.nm))[j]?=some p.nm:=by rw[bH,qL];rfl
    have r2:(b.ah.map (λp:BP=>p.nm))[i]?=some p0.nm:=by rw[bH,ep];rfl
    have JP:j<(b.ah.map (λp:BP=>p.nm)).length:=by rw[aD];exact hj2
    exact hj ((Ce JP nd).mp (r1.trans (by rw[e];exact r2.symm))).symm
   have hq:q.2≠q0.2:=λe=>by rw[e,x4]at a4;exact hnm (gP (λc:nY=>c.2.2) (gZ a4)).symm
   exact⟨kz k a3 a1,by rw[av hq];exact a2,a3,a4⟩
inductive Wg(T:TC)(vs:Da V)(H:Hp)(Q:VK)(E:XK):Prop
 |mk(n ρ A st:_)(i:Nat)(p:Pt)(_:vs=[.ref A.a,.str p.nm])(_:HH T n ρ A H st)(_:st.ah[i]?=some p)(_:st.kn+100<=1000000)(_:∀r ws H',HH T n ρ A H' { st with kn:=st.kn+100 }->Fr n ρ H ρ H'->H r=none->H' r=some (.lst ws)->ρ r=none->iR H' ws (oM st p:_)->Q (.ref r) H')
def Ac(T:TC):Sp:=bx (Wg T)
theorem Mn.imp{P:Program}{w:World}{K:Fg}{mg:SO}{base:Heap}{k:Nat}{C:Addr}{m:Str}{ps:Da Str}{sp J3:Sp}(D:Mn P w K mg base k C m ps sp)(h:∀vs H Q E,J3 vs H Q E->sp vs H Q E):Mn P w K mg base k C m ps J3:=by obtain⟨f,fd,F,r⟩:=D.ex;exact⟨f,fd,F.imp h,r⟩
def Wh{P:Program}{w:World}{K:Fg}{mg:SO}{base:Heap}{k:Nat}{T:TC}{ps:Da Str}(D:Mn P w K mg base k T.hold "shares" ps (Ac T)):Mn P w K mg base k T.hold "shares" ps (JF T):=D.imp λvs H Q E h=>by obtain⟨⟨n,ρ,A,st,i,p,rfl,hh,ep,hk,q⟩⟩:=h;exact⟨n,ρ,A,st,i,p,Z,hh,ep,hk,λr ws H' a b c d e f=>q r ws ρ A H' a rfl b c d e f⟩
structure NB(st:HS):Prop where
 kn:st.kn+100<=1000000
 dB:st.dB.length<1000
 wo:∀p∈st.ah,Jm.Sz 60 p.wo
 prod:Jm.Sz 7900 st.prod
 cJ:∀u∈st.cJ,Jm.Sz 8900 u
inductive aeb(T:TC)(e:Ec)(vs:Da V)(H:Hp)(Q:VK)(E:XK):Prop
 |mk(n ρ A st x:_)(_:vs=[.ref A.a,.str x])(_:HH T n ρ A H st)(_:NB st)(_:RA T e n ρ A H (o6 st x:_) (CI st x:_) Q E)
def RE(T:TC)(e:Ec):Sp:=bx (aeb T e)
def BG{st:HS}{x:Str}(h:o6 st x=none):x∈jM st:=by
 unfold o6 at h;split at h
 .assumption
 .cases h
def Fr.ags{n:Nat}{ρ:dO}{H H':Hp}(f:Fr n ρ H ρ H')(g:Gh ρ H'){b:Addr}(h:H' b=none):H b=none:=by
 cases e:H b with
 | none=>rfl
 | some o=>have:=(f b o e λt x z=>by rw[g.none h]at z;cases z).1;rw[h]at this;cases this
theorem BH:∀{l:Da Pt}{i:Nat}{p:Pt},(l.map (·.nm)).Nodup->l[i]?=some p->l.filter (λq=>decide (q.nm≠p.nm))=l.eraseIdx i
 | [],_,_,_,h=>by simp at h
 | x::l,0,p,nd,h=>by
  obtain⟨h1,h2⟩:=gO.mp (show(x.nm::l.map (·.nm)).Nodup from nd);have e:x=p:=by simpa using h
  subst e;rw[gY,aB (by simp)];exact Si.mpr λy hy=>cy λz=>h1 (bD.mpr ⟨y,hy,z⟩)
 | x::l,i+1,p,nd,h=>by
  obtain⟨h1,h2⟩:=gO.mp (show(x.nm::l.map (·.nm)).Nodup from nd);have h':l[i]?=some p:=by simpa using h
  rw[gY,aC (by simpa using λz:x.nm=p.nm=>h1 (bD.mpr ⟨p,bK h',z.symm⟩)),BH h2 h'];rfl
noncomputable def ux(st:HS)(p:Pt):Da Int:=(jO st p).set (st.own.idxOf p.ow) ((jO st p).getD (st.own.idxOf p.ow) 0-p.wo*st.prod)
theorem YW{st:HS}(wf:Wf st){p:Pt}(hp:p∈st.ah){m:Nat}(h1:Jm.Sz 60 p.wo)(h2:Jm.Sz m st.prod)(h3:∀u∈st.cJ,Jm.Sz (m+60) u):∀u∈jO st p,Jm.Sz (m+61) u:=λu hu=>by obtain⟨i,a,t,ea,et,rfl⟩:=iS (show u∈List.zipWith (λu t=>u+p.wo*t) st.cJ (bR st p)from hu);have ht:=wf.Be p hp t (bK et);have zt:Jm.Sz m t:=h2.of_le (by omega);exact(h3 a (bK ea)).kW ((h1.mul zt).mono (by omega))
theorem RG{st:HS}(wf:Wf st){p:Pt}(hp:p∈st.ah){m:Nat}(h1:Jm.Sz 60 p.wo)(h2:Jm.Sz m st.prod)(h3:∀u∈st.cJ,Jm.Sz (m+60) u):∀u∈ux st p,Jm.Sz (m+62) u:=λu hu=>by
 have g:=YW wf hp h1 h2 h3;rcases R7 (show u∈(jO st p).set _ _ from hu)with z|z
 .exact (g u z).mono (by omega)
 .rw [z];have z0:Jm.Sz (m+61) ((jO st p).getD (st.own.idxOf p.ow) 0):=by
   rw[gT];cases e:(jO st p)[st.own.idxOf p.ow]? with
   | none=>exact(by show Jm.Sz (m+61) 0;unfold Jm.Sz;exact Nat.pow_pos (by decide))
   | some y=>exact g y (bK e)
  have:=z0.kW (((h1.mul h2).mono (by omega:60+m<=m+61)).neg);rw[Int.sub_eq_add_neg];exact this
def J6{st:HS}(wf:Wf st){p:Pt}(hp:p∈st.ah):(jO st p).length=st.own.length:=by unfold jO;rw[pI,tpL wf hp,wf.vN,Cm]
def Ea{st:HS}(wf:Wf st){p:Pt}(hp:p∈st.ah):CI st p.nm={ st with ah:=st.ah.filter (λq=>decide (q.nm≠p.nm)),dB:=st.dB++[⟨p.nm,p.ow,p.wo,oM st p⟩],kn:=st.kn+100,cJ:=ux st p }:=by unfold CI ux;rw[jh wf hp rfl]
theorem abn{st:HS}{x:Str}(wf:Wf st)(h:o6 st x=none)(l:NB st):Wf (CI st x):=by
 obtain⟨i,p,e1,rfl⟩:=Ga (BG h);have hp:=bK e1;rw[Ea wf hp];have S:∀{M:Pt->Prop},(∀x∈st.ah,M x)->∀x∈st.ah.filter (λq=>decide (q.nm≠p.nm)),M x:=λh x hx=>h x (lJ.mp hx).1;have hf:=Sd (λq:Pt=>decide (q.nm≠p.nm)) st.ah;refine⟨wf.zT,wf.DS,List.Nodup.sublist (List.Sublist.map _ Sj) wf.lN,S wf.sub,S wf.rows,S wf.ow,wf.jg,?_,wf.iZ,wf.xC,wf.Bd,wf.qH,wf.DT,?_,wf.HU,?_,l.kn,wf.big,wf.uw,S wf.yE,S wf.vP,S wf.Be,S wf.uX,?_⟩
 .show (ux st p).length=_;unfold ux;rw[jV,J6 wf hp]
 .have:=wf.vO;show(List.filter _ _).length<=1000;omega
 .show (st.dB++[_]).length<=1000;rw[c8];exact l.dB
 .exact λu hu=>(RG wf hp (m:=8840) (l.wo p hp) (l.prod.mono (by decide)) (λu hu=>(l.cJ u hu).mono (by decide)) u hu).mono (by decide)
theorem NC{st:HS}{r:Row}(h:iT st r=none):r.1∈jM st/\1<=r.2/\r.2<=(dN st r.1).wo:=by
 unfold iT at h;split at h
 .split at h
  .cases h
  .split at h
   .cases h
   .exact ⟨by assumption,by omega,by omega⟩
 .cases h
theorem J7{st:HS}{rs:Da Row}(h:jN st rs=none):rs≠[]/\(rs.map λr:Row=>r.1).Nodup/\(∀r∈rs,iT st r=none)/\bJ rs<aR st:=by
 unfold jN at h;split at h
 .next c=>
  split at h
  .cases h
  .next e=>
   split at h
   .cases h
   .exact ⟨c.1,c.2,λr hr=>List.findSome?_eq_none_iff.mp e r hr,by omega⟩
 .cases h
inductive agt(K:Fg)(vs:Da V)(H:Hp)(Q:VK)(E:XK):Prop
 |mk(l:Addr)(us:Da V)(rs:Da Row)(_:vs=[.ref l])(_:az K H l us)(_:fR H us rs)(_:rs.length<=1000)(_:∀z H',aE H H'->H' z=some (.tup (Dd.v (.cast rs)))->Q (.ref z) H')
def Wi(K:Fg):Sp:=bx (agt K)
theorem RH:∀{rs:Da Row}{i:Nat}{r:Row},rs[i]?=some r->(kg rs)[2*i]?=some (.str r.1)/\(kg rs)[2*i+1]?=some (.int r.2)
 | [],_,_,h=>by simp at h
 | x::rs,0,r,h=>by
  have e:x=r:=by simpa using h
  subst e;exact⟨Z,Z⟩
 | x::rs,i+1,r,h=>by obtain⟨a,b⟩:=RH (rs:=rs) (i:=i) (by simpa using h);rw[show 2*(i+1)=2*i+1+1 by omega];exact⟨a,b⟩
theorem CM{rs:Da Row}{i:Nat}{r:Row}(h:rs[i]?=some r):(Dd.v (.cast rs))[1+2*i]?=some (.str r.1)/\(Dd.v (.cast rs))[2+2*i]?=some (.int r.2):=by obtain⟨a,b⟩:=RH h;rw[show 1+2*i=2*i+1 by omega,show 2+2*i=2*i+1+1 by omega];exact⟨a,b⟩
def nC(rs:Da Row):(Dd.v (.cast rs)).length=2*rs.length+1:=by show(kg rs).length+1=_;rw[Bw]
theorem ND(m:Nat):nT 1 ((2*m+1:Nat):Int) 2=m:=by unfold nT Builtin.Range.rangeSize;rw[aC (by decide)];split <;> omega
section
variable {X:Cx}
end
section
variable {prog:Program}{w:World}{A:Around}{R:Result->Shared->Prop}{s:Shared}
end
section
variable {X:Cx}
end
section
variable {X:Cx}
end
section
variable {T:TC}{n m:Nat}{ρ ρ1:dO}{H H1:Hp}{A B:HA}{st s1:HS}{x:Addr}
end
section
variable {T:TC}{n m:Nat}{ρ ρ1:dO}{H H1:Hp}{A B:HA}{st s1:HS}{x:Addr}
end
inductive YX(T:TC)(vs:Da V)(H:Hp)(Q:VK)(E:XK):Prop
 |mk(n ρ A st:_)(_:vs=[.ref A.a])(_:HH T n ρ A H st)(_:∀r ws H',aE H H'->H r=none->H' r=some (.lst ws)->nq ρ H' ws st.dB->(∀w∈ws,∃t xs,w =.ref t/\H' t=some (.tup xs)/\∀b,V.ref b∈xs->H b=none/\b≠r)->Q (.ref r) H')
def BI(T:TC):Sp:=bx (YX T)
def Wj{P:Program}{w:World}{K:Fg}{mg:SO}{base:Heap}{k:Nat}{T:TC}{ps:Da Str}(D:Mn P w K mg base k T.hold "landed" ps (BI T)):Mn P w K mg base k T.hold "landed" ps (MM T):=D.imp λvs H Q E h=>by obtain⟨⟨n,ρ,A,st,rfl,hh,q⟩⟩:=h;exact⟨n,ρ,A,st,Z,hh,λr ws H' a b c d _=>q r ws H' a b c d⟩
inductive Pd:PyData->Nat->Prop
 | str {x:Str} {n:Nat}:PyData.strOk x=true->Pd (.str x) n
 | int {i:Int} {n:Nat}:Pd (.int i) n
 | list {ds:Da PyData} {n:Nat}:(∀d∈ds,Pd d n)->Pd (.list ds) (n+1)
 | tuple {ds:Da PyData} {n:Nat}:(∀d∈ds,Pd d n)->Pd (.tuple ds) (n+1)
theorem NF:∀{ds:Da PyData},(∀d∈ds,PyData.canLay0 d=true)->PyData.canLayAll0 ds=true
 | [],_=>rfl
 | d::r,h=>by unfold PyData.canLayAll0;rw[h d cQ,NF λd hd=>h d (cL _ hd)];rfl
theorem Eb{n:Nat}:∀{ds:Da PyData},(∀d∈ds,PyData.depth d<=n)->PyData.depthAll ds<=n
 | [],_=>fD _
 | d::r,h=>by unfold PyData.depthAll;have h1:=h d cQ;have h2:=Eb λd hd=>h d (cL _ hd);omega
theorem NG:∀{ds:Da PyData},(∀d∈ds,PyData.eqv d d=true)->PyData.eqvAll ds ds=true
 | [],_=>rfl
 | d::r,h=>by unfold PyData.eqvAll;rw[h d cQ,NG λd hd=>h d (cL _ hd)];rfl
theorem Pd.facts{d:PyData}{n:Nat}(h:Pd d n):PyData.canLay0 d=true/\PyData.depth d<=n/\PyData.eqv d d=true:=by
 induction h with
 | str e=>exact⟨by unfold PyData.canLay0;exact e,fD _,by unfold PyData.eqv;exact zj _⟩
 | int=>exact⟨Z,fD _,by unfold PyData.eqv;exact zj _⟩
 | list _ ih=>
  refine⟨?_,?_,?_⟩
  .unfold PyData.canLay0;exact NF λd hd=>(ih d hd).1
  .unfold PyData.depth;have:=Eb λd hd=>(ih d hd).2.1;omega
  .unfold PyData.eqv;exact NG λd hd=>(ih d hd).2.2
 | tuple _ ih=>
  refine⟨?_,?_,?_⟩
  .unfold PyData.canLay0;exact NF λd hd=>(ih d hd).1
  .unfold PyData.depth;have:=Eb λd hd=>(ih d hd).2.1;omega
  .unfold PyData.eqv;exact NG λd hd=>(ih d hd).2.2
theorem Pd.shaped{d:PyData}{n:Nat}(h:Pd d n)(hn:n<=64):SeqAt.shaped d=true:=by unfold SeqAt.shaped;rw[h.facts.1];exact cy (fZ h.facts.2.1 hn)
theorem Pd.eqv{d:PyData}{n:Nat}(h:Pd d n):PyData.eqv d d=true:=h.facts.2.2
def ne_data{K:Fg}{H:Hp}{x y:V}{d:PyData}{n:Nat}{Q:VK}(h1:Dt K H x d)(h2:Dt K H y d)(p:Pd d n)(hn:n<=64)(q:Q (.bl false) H):SW K x y H Q:=⟨d,d,h1,h2,p.shaped hn,p.shaped hn,by rw[p.eqv];exact q⟩
section
variable {K:Fg}{H:Hp}
end
section
variable {a:Addr}{ρ:dO}{H:Hp}
end
noncomputable def Tz(x:Str):Value->Bool
 | .str y _=>decide (y=x)
 | _=>false
section
variable {P:Program}{w:World}{K:Fg}{mg:SO}{base:Heap}{k:Nat}{T:TC}{e:Ec}{ps:Da Str}
end
def Gj{K:Fg}{σ:St}{H:Hp}{j:Nat}{z:Addr}{xs:Da V}{w x:Str}{Q:Bool->Hp->Prop}(hz:cV K H z xs)(e:xs[0]?=some (.str w))(hx:w≠x)(hj:σ[j]?=some (some (.ref z)))(q:Q false H):Lx (Aw rEq (Aw (L7 K) (xW j) (tC (.int 0))) (tC (.str x))) σ H Q:=by have f:decide (V.str w=V.str x)=false:=d7 λz=>hx (V.str.inj z);refine⟨_,hj,z,_,_,_,Z,Z,hz,aO (j:=0) e,Z,_,Z,?_⟩;rw[f];exact q
def NH{K:Fg}{σ:St}{H:Hp}{j:Nat}{z:Addr}{xs:Da V}{x:Str}{Q:Bool->Hp->Prop}(hz:cV K H z xs)(e:xs[0]?=some (.str x))(hj:σ[j]?=some (some (.ref z)))(q:Q true H):Lx (Aw rEq (Aw (L7 K) (xW j) (tC (.int 0))) (tC (.str x))) σ H Q:=by have f:decide (V.str x=V.str x)=true:=cy rfl;refine⟨_,hj,z,_,_,_,Z,Z,hz,aO (j:=0) e,Z,_,Z,?_⟩;rw[f];exact q
def agu{b:BS}{i:Nat}{q:BP}{x:Str}{F:BP->BP}(k2:b.ah[i]?=some q)(k4:q.nm=x)(nd:(b.ah.map λp:BP=>p.nm).Nodup):J5 b x F={ ({ b with ah:=b.ah.set i (F q) }:BS)with ah:=(b.ah.set i (F q)).filter λp=>decide (0<p.wo) }:=by unfold J5;rw[<-k4,Gb (nm:=λp:BP=>p.nm) (f:=F) nd k2]
theorem Wl{K:Fg}{n:Nat}{ρ:dO}{B:BA}{H:Hp}{b:BS}{lp:Addr}{Q:VK}(h:aV n ρ B H b)(G:Gh ρ H)(pl:b.ah.length<=1000)(wc:H lp=none)(q:∀ρ' H7,H7 B.m=some (.dK (fL B b.bot))->Gh ρ' (upd H7 B.m (.dK (fL { B with lp:=lp } b.bot)))->aV n ρ' { { B with lp:=lp }with qs:=kO b.ah B.qs } (upd H7 B.m (.dK (fL { B with lp:=lp } b.bot))) { b with ah:=b.ah.filter λp=>decide (0<p.wo) }->Fr n ρ H ρ' (upd H7 B.m (.dK (fL { B with lp:=lp } b.bot)))->Q (.ref lp) H7):A_ (tU K B.lp) (iA 0) (Lx (Aw (EZ λi j=>V.bl (decide (j<i))) (Aw (L6 K) (xW 0) (tC (.int 2))) (tC (.int 0)))) (xW 0) lp [none] H Q:=by
 have ql:=h.ql;have qml:(B.qs.map λq=>V.ref q.1).length=b.ah.length:=by rw[aD];exact ql
 have op:=h.op;refine Q8 (n:=b.ah.length) 0 (λi o H'=>aE H H'/\o=(kO (b.ah.take i) (B.qs.take i)).map λq=>V.ref q.1) (by omega) ⟨aA wc _,Z⟩ (λi o H' hi _ hp=>⟨_,_,az.of (hp.1 _ _ op),aY (by rw[qml];exact hi)⟩) (λo H' _ hp=>⟨_,az.of (hp.1 _ _ op),by rw[qml];exact aN _⟩) ?_ ?_
 .rintro i y o H7 H8 hi dY ha ⟨g,e⟩ ⟨rfl,hy⟩;have ei:=aY hi;obtain⟨qq,eq,k1,k2,_,_⟩:=h.find ei;have ey:=hy _ (az.of (g _ _ op));rw[bH,eq]at ey;cases ey;have es:=FJ ei eq;refine⟨_,Z,qq.1,_,_,_,Z,Z,az.of (g _ _ k1),aO (j:=2) rfl,_,_,Z,Z,_,Z,dg (λc=>?_) (λc=>?_)⟩
  .rw [aC (dH c)]at es;refine⟨_,Z,ha,g.bQ wc _,?_⟩;rw[es,e,bw];rfl
  .rw [aB (kF (gX.mpr c))]at es;exact⟨ha,g,by rw[es,e,u0]⟩
 rintro o H7 _ ha ⟨g7,e⟩;rw[bV,<-ql,bV]at e;subst e;have h8:=(h.mono g7).col (t:=22) (x:=⟨#[]⟩) (G.none wc);have G8:Gh (b_ ρ lp (n,22,⟨#[]⟩)) H7:=(G.same g7).color ha rfl;have h9:=h8.adH G8 (lp:=lp) (qs:=kO b.ah B.qs) (ps:=b.ah.filter λp=>decide (0<p.wo)) ha dz (JS ql) (λi x y ex ey=>by obtain⟨j,a1,a2⟩:=D0 ex ey ql;exact h8.pt j x y a1 a2)
 exact q _ _ h8.om (G8.wr rfl) h9 ((Fr.color wc g7).trans (Fr.write h8.cm))
theorem Wm{c:Nat}{st:HS}{b:BS}(g:d_ c st b)(x:Str):(J5 b x λp=>{ p with wo:=0 }).ah=b.ah.filter λp=>decide (p.nm≠x):=by
 unfold J5;show List.filter _ (b.ah.map _)=_;have w:=g.fG.w1;generalize b.ah=ps at w
 induction ps with
 | nil=>rfl
 | cons p ps ih=>
  have w1:=w p cQ;have ih:=ih λq hq=>w q (cL _ hq);rw[bP,gY,gY,ih];by_cases e:p.nm=x
  .rw [aC e];simp[e]
  .rw [aB e];simp[e];omega
theorem abo{c:Nat}{st:HS}{b:BS}{x:Str}(g:d_ c st b)(wf:Wf st)(hc:c<=90)(h:o6 st x=none):d_ (c+1) (CI st x) (CL b x):=by
 obtain⟨i,p0,q0,e1,e2,k1,k2,k3,k4,k5,k6⟩:=D_ g.rel wf (BG h);have hp:=bK e1;have hq:=bK e2;have z0:Jm.Sz 60 p0.wo:=by
  have:=(g.whole (by omega)).2;have w0:=(wf.uX p0 hp).1;have le:p0.wo<=bu b:=by rw[<-g.rel.whole];unfold aR;exact(Gi λx hx=>by obtain⟨q,hq,rfl⟩:=bD.mp hx;have:=(wf.uX q hq).1;omega).2 _ (bD.mpr ⟨p0,hp,Z⟩)
  exact this.of_le (by omega)
 have eb:Ab b x=q0:=by unfold Ab;rw[<-k2,Ik g.fG.nd e2];rfl
 have eB:CL b x={ b with ah:=b.ah.filter (λp=>decide (p.nm≠x)),dB:=b.dB++[⟨x,q0.ow,q0.wo,q0.tops,b.bot⟩] }:=by unfold CL;rw[eb,<-Wm g x];rfl
 have eS:=Ea wf hp;rw[k1]at eS;rw[eB,eS];have g1:d_ (c+1) { st with ah:=st.ah.filter λq=>decide (q.nm≠x) } { b with ah:=b.ah.filter λp=>decide (p.nm≠x) }:=by refine agr g ?_ (λp hp=>⟨p,(lJ.mp hp).1,Z,Z,Z⟩) (λq hq=>⟨q,(lJ.mp hq).1,Z,Z,Z,g.fG.w1 q (lJ.mp hq).1,by omega,lM _⟩) ((Sj).map _);have e:=gP (List.filter λq:Q4=>decide (q.1≠x)) (YN g);rw[List.filter_map,List.filter_map]at e;exact e
 have hs:=FQ g.yb g.rel wf g.fG hp hq (k1.trans k2.symm);have nm0:=g.nm q0 hq;rw[k2]at nm0;refine⟨⟨g1.fG.nd,g1.fG.tl,g1.fG.t0,g1.fG.b1,g1.fG.bz,g1.fG.w1,g1.fG.ol,g1.fG.pl,g1.fG.kl⟩,⟨g1.rel.own,g1.rel.qd⟩,g1.yb,λu hu=>?_,g1.stp,g1.prod,g1.bot,g1.wo,g1.we,g1.pl,g1.kl,g1.own,g1.nm,?_,g1.dG,g1.nk,g1.on,g1.sum⟩
 .exact (RG wf hp (m:=60*c+1) z0 g.prod (λu hu=>(g.cJ u hu).mono (by omega)) u hu).mono (by omega)
 .exact g.dB.snoc rfl k3.symm k4.symm (by rw[<-hs]) (by show q0.tops.length<=b.own.length;rw[g.fG.tl q0 hq];exact aN _) (by have:=g.fG.b1;show 0<b.bot;omega) (g.fG.bz.mono (by omega)) nm0.1 nm0.2
noncomputable def Gk(b:BS)(o:Str):BS:={ b with own:=b.own++[o],ah:=b.ah.map λp=>{ p with tops:=p.tops++[0] } }
theorem Gm(l:Da Int)(j:Nat):(l++[0]).getD j 0=l.getD j 0:=by
 rw[gT,gT];rcases Nat.lt_or_ge j l.length with c|c
 .rw [Hj c]
 .rw [Jh c,rR (l:=l) c];rcases Nat.eq_zero_or_pos (j-l.length)with z|z
  .rw [z];rfl
  .rw [rR (by simp;omega)]
theorem abp{c:Nat}{st:HS}{b:BS}{o:Str}(g:d_ c st b)(wf:Wf st)(h:isNm o=true)(hl:b.own.length<100):d_ (c+1) (gC st o) (Gk b o):=by
 have gm:=g.mono;have wb:=g.fG;have S:∀{M:Pt->Prop},(∀p∈st.ah,M { p with row:=p.row++[0] })->∀p∈(gC st o).ah,M p:=λh p hp=>by obtain⟨p0,h0,rfl⟩:=bD.mp (show p∈st.ah.map _ from hp);exact h p0 h0
 have B:∀{M:BP->Prop},(∀p∈b.ah,M { p with tops:=p.tops++[0] })->∀p∈(Gk b o).ah,M p:=λh p hp=>by obtain⟨p0,h0,rfl⟩:=bD.mp (show p∈b.ah.map _ from hp);exact h p0 h0
 have ln:(Gk b o).ah.length=b.ah.length:=aD ..;refine⟨⟨?_,B λp hp=>?_,B λp hp t ht=>?_,wb.b1,wb.bz,B wb.w1,?_,by rw[ln];exact wb.pl,wb.kl⟩,⟨?_,?_⟩,?_,λu hu=>?_,gm.stp,gm.prod,gm.bot,B gm.wo,B gm.we,by rw[ln];exact gm.pl,gm.kl,?_,B gm.nm,g.dB.sign o,gm.dG,gm.nk,λx hx=>?_,B λp hp=>?_⟩
 .show ((b.ah.map _).map _).Nodup;rw[f_];exact wb.nd
 .show (p.tops++[0]).length=(b.own++[o]).length;rw[c8,c8,wb.tl p hp];rfl
 .rcases fk.mp (show t∈p.tops++[0]from ht)with z|z
  .exact wb.t0 p hp t z
  .rw [eE.mp z];have:=wb.b1;show(0:Int)<=0/\0<=b.bot;omega
 .show (b.own++[o]).length<=100;rw[c8];exact hl
 .show st.own++[o]=b.own++[o]
  rw[g.rel.own]
 .have:=g.rel.qd;unfold iO mW at this ⊢;show(st.ah.map _).map _=(b.ah.map _).map _;rw[f_,f_];exact this
 .intro p hp q hq e j;obtain⟨p0,h0,rfl⟩:=bD.mp (show p∈st.ah.map _ from hp);obtain⟨q0,k0,rfl⟩:=bD.mp (show q∈b.ah.map _ from hq);show(q0.tops++[0]).getD j 0*st.prod=(List.zipWith (λr c=>p0.sc*r+c) (p0.row++[0]) (st.bU++[0])).getD j 0*b.bot;rw[JG _ (by rw[wf.rows p0 h0,wf.jg]),show p0.sc*0+0=0 by omega,Gm,Gm];exact g.yb p0 h0 q0 k0 e j
 .rcases fk.mp (show u∈st.cJ++[0]from hu)with z|z
  .exact gm.cJ u z
  .rw [eE.mp z];exact(show Jm.Sz 1 (0:Int)from oJ (by decide +kernel)).mono (by omega)
 .show 0<(b.own++[o]).length;rw[c8];exact lI g.own (zm _ _)
 .rcases fk.mp (show x∈b.own++[o]from hx)with z|z
  .exact g.on x z
  .rw [eE.mp z];exact h
 .show (p.tops++[0]).sum=b.bot;rw[Lu,g.sum p hp];simp
def pM.snoc{n:Nat}{ρ:dO}{H:Hp}{vs:Da V}{l:Da BE}(h:pM n ρ H vs l){r t:Addr}{e:BE}(a:H r=some (.lst [.str e.nm,.str e.ow,.int e.wo,.ref t,.int e.bot]))(b:ρ r=some (n,27,e.nm))(c:H t=some (.lst (e.tops.map V.int)))(d:ρ t=some (n,28,e.nm)):pM n ρ H (vs++[.ref r]) (l++[e]):=by
 induction h with
 | nil=>exact .cons a b c d .nil
 | cons a1 a2 a3 a4 _ ih=>exact .cons a1 a2 a3 a4 ih
theorem pM.length{n:Nat}{ρ:dO}{H:Hp}{vs:Da V}{l:Da BE}(h:pM n ρ H vs l):vs.length=l.length:=by
 induction h with
 | nil=>rfl
 | cons _ _ _ _ _ ih=>simp[ih]
def pM.get{n:Nat}{ρ:dO}{H:Hp}{vs:Da V}{l:Da BE}(h:pM n ρ H vs l):∀{i:Nat}{v:V},vs[i]?=some v->∃r t e,v =.ref r/\l[i]?=some e/\H r=some (.lst [.str e.nm,.str e.ow,.int e.wo,.ref t,.int e.bot])/\H t=some (.lst (e.tops.map V.int)):=by
 induction h with
 | nil=>intro i v e;simp at e
 | @cons r t e vs es a1 a2 a3 a4 _ ih=>
  intro i v h;cases i with
  | zero=>simp at h;subst h;exact⟨r,t,e,Z,Z,a1,a3⟩
  | succ i=>simp at h;obtain⟨r',t',e',f1,f2,f3⟩:=ih h;exact⟨r',t',e',f1,by simpa using f2,f3⟩
def aV.abq{n:Nat}{ρ:dO}{B:BA}{H:Hp}{b:BS}{vs:Da V}(h:aV n ρ B H b)(g:Gh ρ H)(h1:H B.la=some (.lst vs))(h2:pM n ρ H vs b.dB){r t:Addr}{e:BE}(a:H r=some (.lst [.str e.nm,.str e.ow,.int e.wo,.ref t,.int e.bot]))(b':ρ r=some (n,27,e.nm))(c:H t=some (.lst (e.tops.map V.int)))(d:ρ t=some (n,28,e.nm)):aV n ρ B (upd H B.la (.lst (vs++[.ref r]))) { b with dB:=b.dB++[e] }:=by
 have k:=eF (o:=.lst (vs++[.ref r])) g h.ca;exact⟨kz k h.cm h.om,h.cm,kz k h.co h.oo,h.co,kz k h.cp h.op,h.cp,⟨_,ak,(h2.snoc a b' c d).keep k (by decide) (by decide)⟩,h.ca,kz k h.ck h.ok,h.ck,h.ql,
  λi p q e1 e2=>let⟨a,b,c,d⟩:=h.pt i p q e1 e2;⟨kz k c a,kz k d b,c,d⟩⟩
theorem pN.length{own:Da Str}{as:Da kX}{es:Da BE}(h:pN own as es):as.length=es.length:=by
 induction h with
 | nil=>rfl
 | cons _ _ _ _ _ _ _ _ _ _ ih=>simp[ih]
theorem NI{c:Nat}{st:HS}{b:BS}{rs:Da Row}(g:d_ c st b)(wf:Wf st)(hc:c<=90)(hr:jN st rs=none):tF b rs/\j_ b (di b rs) 0 0:=by
 obtain⟨_,nd,Ad,hl⟩:=J7 hr;have rb:tF b rs:=⟨nd,λr hr=>by obtain⟨m,r1,r2⟩:=NC (Ad r hr);obtain⟨i,p0,q0,e1,e2,k1,k2,k3,k4,k5,k6⟩:=D_ g.rel wf m;exact⟨r1,i,q0,e2,k2,by rw[k4,<-k6];exact r2⟩⟩
 exact⟨rb,Rt g.fG rb (by rw[<-g.rel.whole];exact hl) g.own (g.whole (by omega)).2⟩
inductive abr(K:Fg)(vs:Da V)(H:Hp)(Q:VK)(E:XK):Prop
 |mk(r lo lt:Addr)(ws:Da V)(own:Da Str)(tops:Da Int)(b:Int)(_:vs=[.ref r,.ref lo,.ref lt,.int b])(_:H r=some (.lst ws))(_:iR H ws (dD own tops b))(_:az K H lo (own.map V.str))(_:az K H lt (tops.map V.int))(_:tops.length<=own.length)(_:own.length<=1000)(_:0<b)(_:Jm.Sz 9000 b)(_:∀H',aE H H'->Q (.bl true) H')
def Ed(K:Fg):Sp:=bx (abr K)
def YY{own:Da Str}{tops:Da Int}{b:Int}:dD (own.take tops.length) tops b=dD own tops b:=by
 unfold dD;congr 1
 induction own generalizing tops with
 | nil=>rw[List.take_nil]
 | cons x own ih=>cases tops with
   | nil=>rfl
   | cons t ts=>exact gP _ ih
def pN.get{own:Da Str}{as:Da kX}{es:Da BE}(h:pN own as es):∀{i:Nat}{a:kX}{e:BE},as[i]?=some a->es[i]?=some e->a.nm=e.nm/\a.ow=e.ow/\a.wo=e.wo/\a.sh=dD own e.tops e.bot/\e.tops.length<=own.length/\0<e.bot/\Jm.Sz 9000 e.bot/\PyData.strOk e.nm=true/\PyData.strOk e.ow=true:=by
 induction h with
 | nil=>intro i a e h1;simp at h1
 | cons a1 a2 a3 a4 a5 a6 a7 a8 a9 _ ih=>
  intro i a e h1 h2;cases i with
  | zero=>simp at h1 h2;subst h1;subst h2;exact⟨a1,a2,a3,a4,a5,a6,a7,a8,a9⟩
  | succ i=>simp at h1 h2;exact ih h1 h2
def nq.got{ρ:dO}{H:Hp}{vs:Da V}{l:Da kX}(h:nq ρ H vs l):∀{i:Nat}{v:V},vs[i]?=some v->∃r s x ss,v =.ref r/\l[i]?=some x/\H r=some (.tup [.str x.nm,.str x.ow,.int x.wo,.ref s])/\H s=some (.lst ss)/\ρ s=none/\iR H ss x.sh:=by
 induction h with
 | nil=>intro i v e;simp at e
 | @cons r s x ss vs as a1 a2 a3 a4 _ ih=>
  intro i v e;cases i with
  | zero=>simp at e;subst e;exact⟨r,s,x,ss,Z,Z,a1,a2,a3,a4⟩
  | succ i=>simp at e;obtain⟨r',s',x',ss',f1,f2,f3⟩:=ih e;exact⟨r',s',x',ss',f1,by simpa using f2,f3⟩
def aV.set_own{n:Nat}{ρ:dO}{B:BA}{H:Hp}{b:BS}(h:aV n ρ B H b)(g:Gh ρ H)(l:Da Str):aV n ρ B (upd H B.lo (.lst (l.map V.str))) { b with own:=l }:=by
 have k:=eF (o:=.lst (l.map V.str)) g h.co;obtain⟨vs,h1,h2⟩:=h.oa;exact⟨kz k h.cm h.om,h.cm,ak,h.co,kz k h.cp h.op,h.cp,⟨vs,kz k h.ca h1,h2.keep k (by decide) (by decide)⟩,h.ca,kz k h.ck h.ok,h.ck,h.ql,
  λi p q e1 e2=>let⟨a,b,c,d⟩:=h.pt i p q e1 e2;⟨kz k c a,kz k d b,c,d⟩⟩
noncomputable def J8(i:Nat)(ps:Da BP):Da BP:=(ps.take i).map (λp:BP=>{ p with tops:=p.tops++[0] })++ps.drop i
theorem Wn:∀{ps:Da BP}{i:Nat}{p:BP},ps[i]?=some p->(J8 i ps)[i]?=some p
 | [],i,p,h=>by simp at h
 | q::ps,0,p,h=>h
 | q::ps,i+1,p,h=>Wn (ps:=ps) (i:=i) (by simpa using h)
theorem RI:∀{ps:Da BP}{i:Nat}{p:BP},ps[i]?=some p->(J8 i ps).set i { p with tops:=p.tops++[0] }=J8 (i+1) ps
 | [],i,p,h=>by simp at h
 | q::ps,0,p,h=>by simp at h;subst h;rfl
 | q::ps,i+1,p,h=>gP _ (RI (ps:=ps) (i:=i) (by simpa using h))
theorem Wo:∀(ps:Da BP)(i:Nat),(J8 i ps).map (λp:BP=>p.nm)=ps.map λp:BP=>p.nm
 | [],i=>by cases i <;> rfl
 | q::ps,0=>rfl
 | q::ps,i+1=>gP (List.cons q.nm) (Wo ps i)
def abt(ps:Da BP):J8 ps.length ps=ps.map λp:BP=>{ p with tops:=p.tops++[0] }:=by unfold J8;rw[bV,EL,u0]
inductive aed(K:Fg)(e:Ec)(vs:Da V)(H:Hp)(Q:VK)(E:XK):Prop
 |mk(l:Addr)(us:Da V)(rs:Da Row)(_:vs=[.ref l])(_:az K H l us)(_:fR H us rs)(_:rs.length<=1000)(_:¬ (rs≠[]/\(rs.map λr:Row=>r.1).Nodup)->Rf e E H 7)(_:rs≠[]->(rs.map λr:Row=>r.1).Nodup->∀d H',aE H H'->H d=none->H' d=some (.dK (iG rs))->Q (.ref d) H')
def RJ(K:Fg)(e:Ec):Sp:=bx (aed K e)
inductive aee(T:TC)(K:Fg)(e:Ec)(vs:Da V)(H:Hp)(Q:VK)(E:XK):Prop
 |mk(n:Nat)(ρ:dO)(A:HA)(st:HS)(l:Addr)(us:Da V)(rs:Da Row)(_:vs=[.ref A.a,.ref l])(_:HH T n ρ A H st)(_:az K H l us)(_:fR H us rs)(_:rs.length<=1000)(_:jN st rs=none->k_ st rs)(_:RA T e n ρ A H (jN st rs:_) (j9 st rs:_) Q E)
def Il(T:TC)(K:Fg)(e:Ec):Sp:=bx (aee T K e)
def BJ{st:HS}{rs:Da Row}(h:¬ (rs≠[]/\(rs.map λr:Row=>r.1).Nodup)):jN st rs=some 7:=aB h
def J9{st:HS}{rs:Da Row}{i k:Nat}{r:Row}(ne:rs≠[])(nd:(rs.map λr:Row=>r.1).Nodup)(h0:∀r'∈rs.take i,iT st r'=none)(er:rs[i]?=some r)(hk:iT st r=some k):jN st rs=some k:=by
 have hi:=(dZ.mp er).1;have e1:rs=rs.take i++r::rs.drop (i+1):=by have:=List.take_append_drop i rs;rw[LC hi,(dZ.mp er).2]at this;exact this.symm
 have e2:rs.findSome? (iT st)=some k:=by rw[e1,List.findSome?_append,List.findSome?_eq_none_iff.mpr h0,List.findSome?_cons,hk];rfl
 unfold jN;rw[aC ⟨ne,nd⟩,e2]
def xN{st:HS}{rs:Da Row}(ne:rs≠[])(nd:(rs.map λr:Row=>r.1).Nodup)(h0:∀r'∈rs,iT st r'=none):jN st rs=if aR st<=bJ rs then some 6 else none:=by unfold jN;rw[aC ⟨ne,nd⟩,List.findSome?_eq_none_iff.mpr h0]
def Wq{rs:Da Row}{x:Str}(h:x∈rs.map (λr:Row=>r.1)):(eV (iG rs) (Sum.inr x)).isSome=true:=by obtain⟨r,hr,e⟩:=bD.mp h;unfold eV;rw[Sw,List.find?_isSome];exact⟨_,bD.mpr ⟨r,hr,Z⟩,cy (by rw[<-e])⟩
theorem Wr{X:Cx}(K:Fg)(hK:X.K=K:=by rfl):MtR X "list.count" (λx vs H Q=>∃(a:Addr)(xs:Da Str)(n:Str),x =.ref a/\vs=[.str n]/\az K H a (xs.map V.str)/\Q (.int ((xs.count n:Nat):Int)) H):=by
 intro AT s σ H x vs v us Q I rx rv h;obtain⟨a,xs,n,rfl,rfl,hl,q⟩:=h;cases rx;obtain⟨u,rfl,t',rfl⟩:=vals1 rv;subst hK;obtain⟨Bi,r,hp,hz⟩:=I.list hl;obtain⟨⟨c,d,da,sl⟩,m,hp,e1,e2,e3⟩:=hp;cases e1;cases e2;cases e3;have hlen:Bi.length=xs.length:=by have:=r.length;simpa using this.symm
 have hget:∀(i:Nat)(hi:i<Bi.length),∃t,Bi[i] =.str (xs[i]'(by omega)) t:=λi hi=>by obtain⟨w,e,t,rfl⟩:=r.get (i:=i) (x:=.str (xs[i]'(by omega))) (by rw[bH,aY (by omega)];rfl);rw[aY hi]at e;exact⟨t,gZ e⟩
 refine call_meets PySem.F.slot_list_count ⟨_,hp,Z⟩ PySem.F.entry_list_count (PySem.F.args_list_count_2 _ _) (PySem.SeqAt.list_countAt a Bi.toArray m none sl (.str n t') (Tz n)) ⟨hp,?_,?_⟩
 .intro y hy;obtain⟨i,hi,rfl⟩:=uf (by simpa using hy);obtain⟨t,e⟩:=hget i hi;rw[e];have:=PySem.SeqAt.EqAt.str_str (A:=X.A.in1) (s:=s) (xs[i]'(by omega)) t n t';exact this
 .have e:List.countP (Tz n) Bi=List.count n xs:=by
   have e1:Bi.map (Tz n)=xs.map (λx=>x==n):=List.ext_getElem (by rw[aD,aD];exact hlen) λi h1 h2=>by rw[List.getElem_map,List.getElem_map];obtain⟨t,e⟩:=hget i (by rw[aD]at h1;exact h1);rw[e];show decide _=_;rw[xr,decide_eq_true_iff,mS]
   have e2:=gP (List.countP id) e1;rw[List.countP_map,List.countP_map]at e2;exact e2
  show wants _ _ (Except.ok (Flow.ret (Value.int (↑(List.countP (Tz n) Bi)) s.toks))) _;rw[e];exact⟨.int _,H,I.tok _,⟨_,Z⟩,q⟩
noncomputable def TF(st:HS):Dd->Prop
 | .cast rs=>rs.length<=1000/\(jN st rs=none->k_ st rs)
 | _=>False
def DC{st:HS}{rs:Da Row}{i:Nat}(h:jN st rs=some i):i=3\/i=5\/i=6\/i=7:=by
 unfold jN at h;split at h
 .split at h
  .rename_i k hk;cases h;obtain⟨r,_,hr⟩:=List.exists_of_findSome?_eq_some hk;rcases Tv hr with rfl|rfl|rfl
   .exact .inl rfl
   .exact .inr (.inl rfl)
   .exact .inr (.inr (.inl rfl))
  .split at h <;> cases h;exact .inr (.inr (.inl rfl))
 .cases h;exact .inr (.inr (.inr rfl))
def Ws{K:Fg}{e:Ec}{st:HS}{d:Dd}{i:Nat}(t3:Told K e e.qM 3)(t5:Told K e e.oQ 5)(t6:Told K e e.qN 6)(t7:Told K e e.rows 7)(ha:TF st d)(hr:kI st d=some i):Told K e (e.at i) i:=by
 cases d with
 | cast rs=>rcases DC hr with rfl|rfl|rfl|rfl <;> assumption
 | _=>exact ha.elim
theorem Wt{c:Nat}{st:HS}{b:BS}{rs:Da Row}(g:d_ c st b)(wf:Wf st)(hc:c<=90)(hl:rs.length<=1000)(h:jN st rs=none):k_ st rs:=by obtain⟨h1,h2,h3,h4⟩:=J7 h;have aw:=g.aw hc;refine⟨h2,h1,hl,λr hr=>?_,h4,aw.big,aw.prod,aw.cJ,aw.stp⟩;obtain⟨a1,a2,a3⟩:=NC (h3 r hr);obtain⟨i,p,e1,e2⟩:=Ga a1;have hp:=bK e1;rw[jh wf hp e2]at a3;have hw:p.wo<=aR st:=(Gi (l:=st.ah.map λp:Pt=>p.wo) (λt ht=>by obtain⟨q,hq,rfl⟩:=bD.mp ht;have:=(wf.uX q hq).1;show 0<=q.wo;omega)).2 _ (bD.mpr ⟨p,hp,Z⟩);exact⟨a2,aw.big.of_le (by omega),p,hp,e2,a3⟩
theorem aef(m:Nat):nT 2 ((2*m+1:Nat):Int) 2=m:=by unfold nT Builtin.Range.rangeSize;rw[aC (by decide)];split <;> omega
theorem Ef:∀{l:Da Str},l.Nodup↔∀x,l.count x<=1
 | []=>⟨λ_ _=>fD _,λ_=>sW⟩
 | a::l=>by
  rw[gO,Ef (l:=l)];constructor
  .rintro ⟨h1,h2⟩ x;rw[List.count_cons];have:=h2 x;by_cases e:a=x
   .subst e;rw[List.count_eq_zero_of_not_mem h1];split <;> omega
   .rw [aB (by simpa using e)];omega
  .intro h;refine⟨λm=>?_,λx=>?_⟩
   .have:=h a;rw[List.count_cons_self]at this;have:=List.count_pos_iff.mpr m;omega
   .have:=h x;rw[List.count_cons]at this;omega
noncomputable def Ae(st:HS):Dd->Prop
 | .cast rs=>TF st (.cast rs)
 | .award _ _=>BC st
 | .land _=>NB st
 | _=>False
noncomputable def aeg(_:HS):Dd->Prop
 | .land _=>True
 | _=>False
noncomputable def aeh(st:HS):Dd->Prop
 | .land _=>NB st
 | _=>False
def DE{st:HS}{x:Str}{i:Nat}(h:o6 st x=some i):i=3:=by unfold o6 at h;split at h <;> cases h;rfl
def Wu{K:Fg}{e:Ec}{st:HS}{d:Dd}{i:Nat}(t2:Told K e e.vd 2)(t3:Told K e e.qM 3)(t5:Told K e e.oQ 5)(t6:Told K e e.qN 6)(t7:Told K e e.rows 7)(ha:Ae st d)(hr:kI st d=some i):Told K e (e.at i) i:=by
 cases d with
 | cast rs=>exact Ws (d:=.cast rs) t3 t5 t6 t7 (st:=st) ha hr
 | award o a=>exact Wd (d:=.award o a) (st:=st) t2 t5 t6 ha hr
 | land x=>cases DE hr;exact t3
 | _=>exact ha.elim
def abu(st:HS)(d:Dd)(i:Nat)(ha:Ae st d)(h:kI st d=some i):i<10:=by
 cases d with
 | cast rs=>rcases DC h with rfl|rfl|rfl|rfl <;> decide
 | award o a=>exact abm st (.award o a) i ha h
 | land x=>cases DE h;decide
 | _=>exact ha.elim
theorem Wv(c:Nat)(st:HS)(b:BS)(d:Dd)(g:d_ c st b)(hc:c<=90)(wf:Wf st)(ha:Ae st d)(db:J4 d)(hr:kI st d=none):d_ (c+1) (tH st d) (vf b d)/\(tH st d).kn<=st.kn+100:=by
 cases d with
 | cast rs=>obtain⟨rb,bo⟩:=NI g wf hc hr;exact⟨Rw g wf (ha.2 hr) rb bo hc,by have:=Rx st rs;show(j9 st rs).kn<=_;omega⟩
 | award o a=>exact We c st b (.award o a) g hc wf ha db hr
 | land x=>exact⟨abo g wf hc hr,aN _⟩
 | _=>exact ha.elim
def YZ(d:Dd):Prop:=(d.k=2\/d.k=3\/d.k=7)/\J4 d
theorem abv{c:Nat}{st:HS}{b:BS}{d:Dd}(g:d_ c st b)(hc:c<=90)(wf:Wf st)(hk:st.kn+100<=1000000)(hl:b.dB.length<1000)(h:YZ d):Ae st d:=by
 have aw:=g.aw hc;cases d with
 | cast rs=>exact⟨by have:=h.2.1;omega,λh0=>Wt g wf hc (by have:=h.2.1;omega) h0⟩
 | award o a=>exact aw
 | land x=>exact⟨hk,by rw[g.dB.length];exact hl,λp hp=>by have hw:p.wo<=aR st:=(Gi (l:=st.ah.map λp:Pt=>p.wo) (λt ht=>by obtain⟨q,hq,rfl⟩:=bD.mp ht;have:=(wf.uX q hq).1;show 0<=q.wo;omega)).2 _ (bD.mpr ⟨p,hp,Z⟩);have:=(wf.uX p hp).1;exact aw.big.of_le (by omega),aw.prod,aw.cJ⟩
 | _=>rcases h.1 with h|h|h <;> simp[Dd.k]at h
inductive agv(K:Fg)(vs:Da V)(H:Hp)(Q:VK)(E:XK):Prop
 |mk(a:Addr)(ns:Da Int)(k:Int)(n c:Nat)(ρ:dO)(B:BA)(b:BS)(st:HS)(_:vs=[.ref a,.int k,.ref B.m])(_:az K H a (ns.map V.int))(_:ns.length<=63)(_:0<=k)(_:k<=1000000)(_:aV n ρ B H b)(_:d_ c st b)(_:c<=10)(_:Wf st)(_:b.dG≠[])(_:∀z d H',aE H H'->H' z=some (.tup (Dd.v d))->YZ d->Q (.ref z) H')
def Ww(K:Fg):Sp:=bx (agv K)
inductive Wx(T:TC)(K:Fg)(vs:Da V)(H:Hp)(Q:VK)(E:XK):Prop
 |mk(c:Nat)(ρ:dO)(A:HA)(B:BA)(st:HS)(b:BS)(v0:V)(_:vs=[v0,.ref A.a,.ref B.m])(_:HH T 0 ρ A H st)(_:aV 1 ρ B H b)(_:d_ c st b)(_:c<=90)(_:b.own.length<=90)(_:∀ρ' A' B' H' st' b',HH T 0 ρ' A' H' st'->aV 1 ρ' B' H' b'->d_ (c+1) st' b'->A'.a=A.a->B'.m=B.m->(∀o∈b'.own,o∈b.own\/o = "aboarded")->b'.own.length<=b.own.length+1->st'.kn=st.kn->b'.dB=b.dB->b'.dG=b.dG->aE (out ρ H:_) (out ρ' H':_)->Q .cu H')
def Gn(T:TC)(K:Fg):Sp:=bx (Wx T K)
def ajs{b:BS}{d:Dd}(h:YZ d):(vf b d).dB.length<=b.dB.length+1/\(vf b d).dG=b.dG:=by
 cases d with
 | cast rs=>exact⟨zC _,Z⟩
 | award o a=>exact⟨zC _,Z⟩
 | land x=>exact⟨by show(b.dB++[_]).length<=_;rw[c8];exact aN _,Z⟩
 | _=>rcases h.1 with h|h|h <;> simp[Dd.k]at h
def Wy(H0 H:Hp)(r:Addr)(ws:Da V):Prop:=aE H0 H/\H r=some (.lst ws)/\∀w∈ws,∃t x y z l ys,w =.ref t/\H t=some (.tup [.str x,.str y,.int z,.ref l])/\H0 l=none/\l≠r/\H l=some (.lst ys)
def aei{ρ:dO}{H0 H:Hp}{r:Addr}{ws:Da V}{as:Da kX}(g:aE H0 H)(hr:H r=some (.lst ws))(h:nq ρ H ws as)(fr:∀w∈ws,∃t xs,w =.ref t/\H t=some (.tup xs)/\∀b,V.ref b∈xs->H0 b=none/\b≠r):Wy H0 H r ws:=by
 refine⟨g,hr,?_⟩;clear hr
 induction h with
 | nil=>intro w hw;cases hw
 | @cons t l x ss vs as h1 h2 h3 h4 h5 ih=>
  intro w hw;rcases c_.mp hw with rfl|hw'
  .obtain ⟨t',xs,e,ht,hf⟩:=fr _ hw;cases e;rw[h1]at ht;cases ht;obtain⟨f1,f2⟩:=hf l (by simp);exact⟨t,_,_,_,l,ss,Z,h1,f1,f2,h2⟩
  .exact ih (λw hw=>fr w (cL _ hw)) w hw'
def Wy.step{H0 H:Hp}{r l:Addr}{ws ys:Da V}(h:Wy H0 H r ws)(hl:H0 l=none)(hr:l≠r)(e:H l=some (.lst ys)):Wy H0 (upd H l (.lst [])) r ws:=by
 refine⟨h.1.bQ hl _,by rw[av (cD hr)];exact h.2.1,λw hw=>?_⟩;obtain⟨t,x,y,z,l',ys',rfl,k1,k2,k3,k4⟩:=h.2.2 w hw;have nt:t≠l:=λz=>by rw[z,e]at k1;cases k1
 by_cases el:l'=l
 .subst el;exact⟨t,x,y,z,l',[],Z,by rw[av nt];exact k1,k2,k3,ak⟩
 .exact ⟨t,x,y,z,l',ys',Z,by rw[av nt];exact k1,k2,k3,by rw[av el];exact k4⟩
theorem Y0{st:HS}{rs:Da Row}(wf:Wf st)(ok:k_ st rs):jN st rs=none:=by rw[xN ok.ne ok.nd λr hr=>?_,aB (by have:=ok.lost;omega)];obtain⟨h1,_,p,hp,e,h2⟩:=ok.row r hr;unfold iT;rw[aC (show r.1∈jM st from bD.mpr ⟨p,hp,e⟩),aB (by omega),jh wf hp e,aB (by omega)]
def abw{P:Program}{w:World}{K:Fg}{mg:SO}{base:Heap}{k:Nat}{T:TC}{e:Ec}{ps:Da Str}(D:Mx P w K mg base k T.hold "cast" ps (Il T K e)):Mn P w K mg base k T.hold "cast" ps (VG T K):=D.mn λvs H Q E h=>by obtain⟨⟨n,ρ,A,st,l,us,rs,rfl,hh,hl,hR,ok,q⟩⟩:=h;exact⟨n,ρ,A,st,l,us,rs,Z,hh,hl,hR,ok.len,λ_=>ok,.of (Y0 hh.wf ok) q⟩
inductive abx(T:TC)(K:Fg)(vs:Da V)(H:Hp)(Q:VK)(E:XK):Prop
 |mk(n m ρ A B st b:_)(a ln:Addr)(ns:Da Int)(k:Int)(nms:Da Str)(BT:Nat)(_:vs=[.ref a,.int k,.ref A.a,.ref B.m,.ref ln,.int (BT:Int)])(_:n≠m)(_:HH T n ρ A H st)(_:aV m ρ B H b)(_:d_ 0 st b)(_:yH K ρ H a (ns.map V.int))(_:ns.length<=63)(_:0<=k)(_:k<=1000000)(_:yH K ρ H ln (nms.map V.str))(_:nms.Nodup)(_:(∀x∈nms,zZ x))(_:(∀o∈b.own,zZ o))(_:BT<=nms.length)(_:BT<=50)(_:st.nms=[])(_:b.ah=[])(_:b.dG=[])(_:∀ρ' A' B' H' st' b',HH T n ρ' A' H' st'->aV m ρ' B' H' b'->d_ 0 st' b'->A'.a=A.a->B'.m=B.m->b'.own=b.own->b'.dB=b.dB->b'.ah.length=BT->st'.kn=st.kn->aE (out ρ H:_) (out ρ' H':_)->Q .cu H')
def NJ(T:TC)(K:Fg):Sp:=bx (abx T K)
inductive aej(T:TC)(K:Fg)(vs:Da V)(H:Hp)(Q:VK)(E:XK):Prop
 |mk(n m ρ A B st b:_)(a ln:Addr)(ns:Da Int)(nms:Da Str)(_:vs=[.ref a,.ref A.a,.ref B.m,.ref ln])(_:n≠m)(_:HH T n ρ A H st)(_:aV m ρ B H b)(_:d_ 0 st b)(_:yH K ρ H a (ns.map V.int))(_:ns.length<=63)(_:yH K ρ H ln (nms.map V.str))(_:nms.Nodup)(_:(∀x∈nms,zZ x))(_:(∀o∈b.own,zZ o))(_:nms.length=6)(_:st.nms=[])(_:b.ah=[])(_:b.dG=[])(_:∀ρ' A' B' H' st' b',HH T n ρ' A' H' st'->aV m ρ' B' H' b'->d_ 1 st' b'->A'.a=A.a->B'.m=B.m->b'.own=b.own->b'.dB=b.dB->st'.kn<=st.kn->0<b'.ah.length->aE (out ρ H:_) (out ρ' H':_)->Q .cu H')
def RK(T:TC)(K:Fg):Sp:=bx (aej T K)
inductive Y3(T:TC)(K:Fg)(a x mm:Addr)(ns:Da Int)(i kb:Nat)(H:Hp):Prop
 |mk(ρ:dO)(A:HA)(B:BA)(st:HS)(b:BS)(c:Nat)(_:HH T 0 ρ A H st)(_:aV 1 ρ B H b)(_:d_ c st b)(_:c<=2+i)(_:i<=1->c<=1+i)(_:A.a=x)(_:B.m=mm)(_:∀o∈b.own,PyData.strOk o=true)(_:b.own.length<=4+i)(_:st.kn<=kb)(_:b.dB.length<=i)(_:b.dG≠[])(_:yH K ρ H a (ns.map V.int))
inductive IvR(H:Hp)(ws:Da Row)(os:Da Int)(a l pq z:Addr)(k:Int)(i:Nat)(σ:St)(H':Hp):Prop
 |mk(_:aE H H')(_:H' pq=some (.lst (os.map V.int)))(zs:Da V)(rs:Da Row)(sp:Int)(s6 s7 s8:Option V)(_:σ=[some (.ref a),some (.int k),some (.ref l),some (.int sp),some (.ref pq),some (.ref z),s6,s7,s8])(_:H' z=some (.lst zs))(_:fR H' zs rs)(_:rs.length<=i)(_:(rs.map (λr:Row=>r.1)).Nodup)(_:sp=bJ ws-1-bJ rs)(_:ws≠[]->0<=sp)(_:∀r∈rs,1<=r.2/\r.2<=1000000000/\∃j:Nat,((j:Nat):Int)∈os.take i/\∃w,ws[j]?=some w/\w.1=r.1/\r.2<=w.2)
inductive IvB(n:Nat)(ρ:dO)(H:Hp)(B:BA)(b:BS)(as given:Da Int)(seat:Nat)(aw kept:Int)(l gv:Addr)(i:Nat)(σ:St)(H':Hp):Prop
 |mk(ρ':dO)(B':BA)(s8 s9:Option V)(_:σ=[some (.ref B.m),some (.ref l),some (.int (seat:Int)),some (.int aw),some (.ref B.lp),some (.int (bu b)),some (.int kept),some (.ref gv),s8,s9])(_:Gh ρ' H')(_:aV n ρ' B' H' { b with ah:=(dW b as seat aw).take i++b.ah.drop i })(_:B'.m=B.m)(_:B'.lp=B.lp)(_:Fr n ρ H ρ' H')(_:H' gv=some (.lst (given.map V.int)))(_:ρ' gv=none)
inductive IvL(T:TC)(n:Nat)(ρ:dO)(A:HA)(H:Hp)(st:HS)(kept whole sd:Int)(added:Da Int)(la l1 l2:Addr)(NK:Obj)(i:Nat)(σ:St)(H':Hp):Prop
 |mk(_:∃s7 s8,σ=[some (.ref A.a),some (.int kept),some (.int whole),some (.ref la),some (.ref l1),some (.ref l2),some (.int sd),s7,s8])(H6:Hp)(_:H'=upd H6 A.ab (.fY NK (.dK (c7 st.ah A.qs))))(_:Gh ρ H6)(_:Fr n ρ H ρ H6)(_:a_ T n ρ A H6 { st with ah:=(st.ah.take i).map (λp=>{ p with sc:=p.sc*kept / sd })++st.ah.drop i })(_:H6 l1=some (.lst ((jx st kept).map V.int)))(_:H6 l2=some (.lst ((gF st kept added).map V.int)))(_:∀b,H6 b=none->H b=none)
end L2
set_option autoImplicit false
namespace Law
open PySem L2
theorem gM(n:Nat)(h:n<=1000:=by decide):n<=sizeLine:=by rw[gy];omega
noncomputable def top(i:Nat):Stmt:=PySem.Challenge.pw_jettison_k24_parts_landed.main.body.getD i (.Pass ⟨0,0,0,0⟩)
section
variable {P:Program}{w:World}{K:Fg}{mg:SO}{base:Heap}{f:Addr}{fd:FuncData}
abbrev pO:Stmt:=top 2
abbrev kj:Da Str:=["one","other"]
abbrev Gp:Da Str:=kj
def wg:aJ Gp kj (ay pO):=dh
theorem Eg(F:At K mg "common_factor" pO f fd):Dn P w K mg base 1 "common_factor" kj XX:=by
 refine F.oA wg λ_ _ _ _ H _ Q E hr h=>?_;obtain⟨a,b,rfl,ha,hb,q⟩:=h;refine⟨_,(@cS.h _ _ _ (aj (D7 fC (aP iX (qv 1) ao (aZ _)) (aq (V9 (i:=0) (j:=1) rfl wg.nd rfl rfl (by decide) rfl rfl (af (qv 1) (af (aH kT (qv 0) (qv 1)) ai)) (by rfl))))
  (aq (aM (qv 0))))),?_⟩
 refine⟨λm σ H'=>∃x y:Int,m=y.toNat/\σ=[some (.int x),some (.int y)]/\H'=H/\0<=x/\0<=y/\Jm.cf x y=Jm.cf a b,⟨_,a,b,Z,Z,Z,ha,hb,Z⟩,?_⟩;rintro m σ H' ⟨x,y,rfl,rfl,rfl,hx,hy,e⟩;refine⟨_,Z,_,_,Z,Z,_,Z,?_⟩;refine dg (λc=>?_) (λc=>?_)
 .have c':0<y:=dH c;refine⟨_,λ_ _ z=>z,?_⟩;refine⟨_,Z,_,Z,_,Z,_,_,Z,Z,c',_,_,Z,?_⟩;have h1:0<=x % y:=oX _ (by omega);have h2:x % y<y:=zf _ c';exact⟨_,(by omega:(x % y).toNat<y.toNat),y,x % y,Z,Z,Z,hy,h1,(Jm.HF x y c').trans e⟩
 .have c':¬ 0<y:=kF (gX.mpr c);have ey:y=0:=by omega
  subst ey;rw[Jm.Q0 x hx]at e;refine⟨_,Z,?_⟩;rw[e];exact q
abbrev Af:Stmt:=top 21
abbrev xO:Da Str:=["text","signs"]
abbrev Wz:Da Str:=xO
def TH:aJ Wz xO (ay Af):=dh
def TJ(F:At K mg "made_of" Af f fd)(TL:mg "all"=none):Dn P w K mg base 1 "made_of" xO DQ:=by
 refine F.oA TH λ_ _ _ _ H _ Q E hr h=>?_;obtain⟨⟨cs,signs,rfl,hl,q⟩⟩:=h;refine⟨_,(@cS.h _ _ _ (aq (aM (aF (Vf K rfl) (by rfl) TL PyProof.Rows.boot_all (af (fJ ["sign","signs"] [none,some 1] rfl (ad8 (qv 0)) (λ_ _ _ _=>(aL (i:=0) (show List.Nodup (["sign","signs"] :Da Str)from by decide +kernel))) (λ_ _ _ _=>(su UH (qv 0) (qv 1) (by with_unfolding_all rfl))) rfl (by rfl)) ai))))),?_⟩;refine⟨_,Z,cs,Z,λBM Bn=>?_⟩;refine X5 (λi out H1=>aE H H1/\out=((cs.take i).map (Fj signs)).map V.bl) hl ⟨aA Bn _,Z⟩ ?_ ?_
 .rintro i c out H1 hx dY ha ⟨g,e⟩;refine⟨_,Z,_,Z,_,_,Z,Z,ha,g.bQ Bn _,?_⟩;rw[e,List.take_add_one,hx,bw,bw];rfl
 rintro out H1 dY ha ⟨g,e⟩;rw[bV]at e;refine⟨BM,cs.map (Fj signs),Z,az.of (by rw[ha,e]),?_⟩;have e2:(cs.map (Fj signs)).all id=cs.all (Fj signs):=by rw[List.all_map];rfl
 rw[e2];exact q H1 g
abbrev Ag:Stmt:=top 20
abbrev t9:Da Str:=["text"]
abbrev WA:Da Str:=t9
def TM:aJ WA t9 (ay Ag):=dh
theorem TN{tk:Tok}(F:At K mg "is_name" Ag f fd)(BK:Dn P w K mg base 1 "made_of" xO DQ)(bg:mg "len"=none)(BL:mg "LETTERS"=some (.str "abcdefghijklmnopqrstuvwxyz" tk)):Dn P w K mg base 2 "is_name" t9 zP:=by
 refine F.oA TM λ_ _ _ _ H _ Q E hr h=>?_;obtain⟨⟨cs,rfl,hl,q⟩⟩:=h;refine⟨_,(@cS.h _ _ _ (aq (aM (Nq (YK Zo Zo ao (aF Ma (by rfl) bg c9 (af (qv 0) ai)) ao) (Nl (bh BK hr (af (qv 0) (af (lz (v:=.str "abcdefghijklmnopqrstuvwxyz") (by rfl) BL ⟨_,Z⟩) ai)))))))),?_⟩;have hz:(tx cs).length<=sizeLine:=by rw[lH,gy];omega
 refine⟨_,Z,_,Z,hz,_,_,Z,Z,_,Z,?_⟩;rw[lH];refine dg (λc=>?_) (λc=>?_)
 .refine ⟨_,_,Z,Z,_,Z,dg (λc2=>?_) (λc2=>?_)⟩
  .refine ⟨_,Z,S3 hl λH' g=>?_⟩;have:=q H' g;unfold isName at this;rw[c,c2,Bool.true_and,Bool.true_and]at this;exact this
  .have:=q H (aE.refl _);unfold isName at this;rw[c,gX.mpr c2,Bool.true_and,Bool.false_and]at this;exact this
 .have:=q H (aE.refl _);unfold isName at this;rw[gX.mpr c,Bool.false_and,Bool.false_and]at this;exact⟨_,Z,cA this⟩
abbrev qO:Stmt:=top 26
abbrev lA:Da Str:=["amount"]
abbrev Im:Da Str:=lA
def Gq:aJ Im lA (ay qO):=dh
theorem Eh{e:Ec}(F:At K mg "check_amount" qO f fd)(wk:jH K e.oQ)(mC:mg "BadNumber"=some (.ref e.oQ)):Dx P w K mg base 1 "check_amount" lA (Nr e):=by refine F.DA Gq λ_ _ _ _ H _ Q E hr h=>?_;obtain⟨⟨a,rfl,h5,q⟩⟩:=h;refine⟨_,(@cS.h _ _ _ (aq (bZ (aP zM (qv 0) ao (aZ _)) (aq (ny wk (by rfl) mC)) aQ))),?_⟩;exact⟨_,Z,_,_,Z,Z,_,Z,dg (λc=>λx=>h5 (dH c) x H (aE.refl _)) λc=>q (by have:=kF (gX.mpr c);omega)⟩
abbrev uy:Stmt:=top 27
abbrev qP:Da Str:=["most","amount"]
abbrev NL:Da Str:=qP
def Ko:aJ NL qP (ay uy):=dh
theorem Io{e:Ec}(F:At K mg "check_loss" uy f fd)(i8:Dx P w K mg base 1 "check_amount" lA (Nr e))(jn:jH K e.qN)(iz:mg "TooMuch"=some (.ref e.qN)):Dx P w K mg base 2 "check_loss" qP (Wb e):=by
 refine F.DA Ko λ_ _ _ _ H _ Q E hr h=>?_;obtain⟨⟨m,a,rfl,h5,h6,q⟩⟩:=h;refine⟨_,(@cS.h _ _ _ (aj (cg (F_ i8 hr (af (qv 1) ai)))
  (aq (bZ (aP iX (qv 1) (qv 0) (aZ _)) (aq (ny jn (by rfl) iz)) aQ)))),?_⟩
 exact⟨_,Z,⟨⟨a,Z,h5,λh1=>⟨_,Z,_,Z,_,_,Z,Z,_,Z,dg (λc=>λx=>h6 h1 (dH c) x H (aE.refl _)) λc=>q h1 (by have:=kF (gX.mpr c);omega)⟩⟩⟩⟩
abbrev uz:Stmt:=top 25
abbrev qQ:Da Str:=["rows"]
abbrev NN:Da Str:=qQ.append ["amounts","name","amount"]
def o7:aJ NN qQ (ay uz):=dh
theorem Ip{e:Ec}(F:At K mg "amounts_of" uz f fd)(bg:mg "len"=none)(vg:jH K e.rows)(nD:mg "BadRows"=some (.ref e.rows)):Dx P w K mg base 1 "amounts_of" qQ (RJ K e):=by
 refine F.DA o7 λ_ _ _ _ H _ Q E hr h=>?_;obtain⟨⟨l,us,rs,rfl,hl,hR,hle,h7,q⟩⟩:=h;refine⟨_,(@cS.h _ _ _ (aj (aX (i:=1) o7.nd sr)
  (aj (dP PassesOwn.leaving rfl (cY K (qv 0)) (i7 K (n:=2) rfl (cM (aL (i:=2) o7.nd) (cM (aL (i:=3) o7.nd) i6))) (aj (bZ (yM (Np (bN hr) (qv 2) (qv 1))) (aq (ny vg (by rfl) nD)) aQ)
  (aq (qi (bN hr) (qv 1) (qv 2) (qv 3) rfl))))
  (aj (bZ (aP gQ (aF xy (by rfl) bg c9 (af (qv 1) ai)) ao (aZ _)) (aq (ny vg (by rfl) nD)) aQ)
  (aq (aM (qv 1))))))),?_⟩
 intro d hd;have g0:=aA hd (.dK []);have hd0:upd H d (.dK []) d=some (.dK (iG (rs.take 0))):=ak;generalize upd H d (.dK [])=H0 at *;have NO:=hR.length;refine⟨_,Z,l,Z,⟨us,g0.seq hl⟩,?_⟩;refine jC (K:=K) (xs:=us) (λi σ H'=>aE H H'/\H' d=some (.dK (iG (rs.take i)))/\((rs.take i).map λr:Row=>r.1).Nodup/\∃s2 s3,σ=[some (.ref l),some (.ref d),s2,s3]) ⟨g0,hd0,sW,_,_,Z⟩ (λi σ H' _ hp=>hp.1.seq hl) ?_ ?_
 .rintro i x σ H' hx ⟨g,hd',nd,s2,s3,rfl⟩;obtain⟨a,r,rfl,er,ha⟩:=hR.get hx;have hlt:(iG (rs.take i)).length<sizeLine:=by rw[z6,kL];exact dU (by omega)
  refine⟨a,_,Z,cV.of (g _ _ ha),Z,_,_,Z,_,_,Z,Z,?_⟩;refine⟨_,Z,_,Z,d,_,Z,cE.k (k:=Sum.inr r.1) hd',_,Z,?_⟩;have eS:(rs.take (i+1)).map (λr:Row=>r.1)=(rs.take i).map (λr:Row=>r.1)++[r.1] :=by rw[take_snoc er,bw];rfl
  by_cases hn:r.1∈(rs.take i).map (λr:Row=>r.1)
  .rw [Wq hn];exact jE λy=>h7 (λz=>kZ z.2 (by rw[bH,er];rfl) (by rw[<-Cj];exact hn)) y H' g
  have hnot:=hn;rw[JJ hnot];refine cA ?_;refine⟨_,Z,_,Z,_,Z,d,_,Z,um.k (k:=Sum.inr r.1) hd' hlt,g.bQ hd _,?_,?_,_,_,Z⟩
  .rw [ak,pK _ (JJ hnot),take_snoc er];unfold iG;rw[bw];rfl
  .rw [eS];exact List.nodup_append.mpr ⟨nd,(by simp),λa ha b hb e=>hn (by rw[eE.mp hb]at e;rw[<-e];exact ha)⟩
 rintro σ H' ⟨g,hd',nd,s2,s3,rfl⟩;rw[NO,bV]at hd' nd;refine⟨_,Z,d,_,Z,hd',Z,_,Z,?_⟩;rw[z6];by_cases hne:rs=[]
 .subst hne;exact jE λy=>h7 (λz=>z.1 rfl) y H' g
 have hpos:0<rs.length:=List.length_pos_iff.mpr hne;rw[d7 (λe=>by have:=V.int.inj e;omega)];exact cA ⟨_,Z,q hne nd d H' g hd hd'⟩
abbrev pP:Stmt:=top 5
abbrev mX:Da Str:=["step","tops"]
abbrev Gr:Da Str:=mX.append ["top"]
def pQ:aJ Gr mX (ay pP):=dh
theorem Ei(F:At K mg "factor_of_all" pP f fd)(i9:Dn P w K mg base 1 "common_factor" kj XX):Dn P w K mg base 2 "factor_of_all" mX (VD K):=by
 refine F.oA pQ λ_ _ _ _ H _ Q E hr h=>?_;obtain⟨⟨s,l,ts,rfl,hl,h0,h1,q⟩⟩:=h;refine⟨_,(@cS.h _ _ _ (aj (dP fC rfl (cY K (qv 1)) (aL (i:=2) pQ.nd) (aq (aX (i:=0) pQ.nd (bh i9 hr (af (qv 2) (af (qv 0) ai))))))
  (aq (aM (qv 0))))),?_⟩
 refine⟨_,Z,l,Z,⟨_,hl⟩,?_⟩;refine jC (K:=K) (xs:=ts.map V.int) (λi σ H'=>H'=H/\0<=qK s (ts.take i)/\∃s2,σ=[some (.int (qK s (ts.take i))),some (.ref l),s2]) ⟨Z,h0,_,Z⟩ (λi σ H' _ hp=>by rw[hp.1];exact hl) ?_ ?_
 .rintro i x σ H' hx ⟨rfl,hf,s2,rfl⟩;obtain⟨t,rfl,et⟩:=gH hx;have e1:qK s (ts.take (i+1))=Jm.cf t (qK s (ts.take i)):=by unfold qK;rw[take_snoc et,EJ];rfl
  refine⟨_,Z,_,Z,t,_,Z,h1 t (bK et),hf,Z,?_,some (.int t),?_⟩
  .rw [e1];unfold Jm.cf;omega
  .rw [e1];rfl
 rintro σ H' ⟨rfl,hf,s2,rfl⟩;rw[aD,bV];exact⟨_,Z,q⟩
abbrev sy:Stmt:=inClass (top 4) 0
abbrev uA:Da Str:=["self"]
abbrev Kq:Da Str:=uA
def Iq:aJ Kq uA (ay sy):=dh
def Ir{T:TC}(F:JD K mg "Bottom" T.bot "Bottom.__init__" sy f fd)(X:Txt K T):Cn P w K mg base 1 "Bottom" T.bot uA (Rc T):=by
 refine F.oA Iq λ_ _ _ _ H _ Q E hr h=>?_;obtain⟨⟨p,dx,rfl,hp,q⟩⟩:=h;refine⟨_,(@cS.h _ _ _ (aj (fF K (qv 0) (eY ai))
  (aj (fF K (qv 0) ao)
  (aq (fF K (qv 0) sr))))),?_⟩
 refine⟨(gM 0),λl hl=>?_⟩;have n1:p≠l:=aI hp hl;refine⟨_,Z,p,T.bot,dx,_,Z,by rw[av n1];exact hp,X.cB,X.bst,by show 0<1000;decide,?_⟩;refine⟨_,Z,p,T.bot,dx,_,Z,ak,X.cB,X.Q_,by show 1<1000;decide,?_⟩;intro d hd;have n2:d≠p:=λe=>by rw[e,ak]at hd;cases hd
 have n3:d≠l:=λe=>by rw[e,av (cD n1),av (cD n1),ak]at hd;cases hd
 have hd0:H d=none:=by rw[av n2,av n2,av n3]at hd;exact hd
 refine⟨_,Z,p,T.bot,dx,_,Z,by rw[av (cD n2)];exact ak,X.cB,X.Vw,by show 2<1000;decide,?_⟩;refine q l d _ hl hd0 (cD n3) (λb o e hb=>?_) ak ?_ ?_
 .rw [av hb,av (aI e hd0),av hb,av hb,av (aI e hl)];exact e
 .rw [av (cD n1),av (cD n3),av (cD n1),av (cD n1)];exact ak
 .rw [av n2];exact ak
abbrev wm:Stmt:=inClass (top 23) 0
abbrev yc:Da Str:=["self","name","owner","worth","weight","scale","row"]
abbrev Po:Da Str:=yc
def NP:aJ Po yc (ay wm):=dh
def NQ{T:TC}(F:JD K mg "Part" T.part "Part.__init__" wm f fd)(X:Txt K T)(dm:mg "list"=none):Cn P w K mg base 1 "Part" T.part yc (Rg T K):=by
 refine F.oA NP λ_ _ _ _ H _ Q E hr h=>?_;obtain⟨⟨p,dx,l,pt,rfl,hp,hl,q⟩⟩:=h;refine⟨_,(@cS.h _ _ _ (aj (fF K (qv 0) (qv 1))
  (aj (fF K (qv 0) (qv 2))
  (aj (fF K (qv 0) (qv 3))
  (aj (fF K (qv 0) (qv 4))
  (aj (fF K (qv 0) (qv 5))
  (aq (fF K (qv 0) (kh (lZ K) (by rfl) dm vz (af (qv 6) ai)))))))))),?_⟩
 refine⟨_,Z,_,Z,p,T.part,dx,_,Z,hp,X.cP,X.Vu,by show 0<1000;decide,?_⟩;refine⟨_,Z,_,Z,p,T.part,dx,_,Z,ak,X.cP,X.pow,by show 1<1000;decide,?_⟩;refine⟨_,Z,_,Z,p,T.part,dx,_,Z,ak,X.cP,X.Fz,by show 2<1000;decide,?_⟩;refine⟨_,Z,_,Z,p,T.part,dx,_,Z,ak,X.cP,X.pwe,by show 3<1000;decide,?_⟩;refine⟨_,Z,_,Z,p,T.part,dx,_,Z,ak,X.cP,X.Vv,by show 4<1000;decide,?_⟩;simp only[rS];have hl1:∀o,az K (upd H p o) l (pt.row.map V.int):=λo=>by
  rcases hl with(h|⟨ob,h⟩)|h
  .exact .inl (.inl (by rw[av (jL h hp (by intro z;cases z))];exact h))
  .exact .inl (.inr ⟨ob,by rw[av (jL h hp (by intro z;cases z))];exact h⟩)
  .exact .inr h
 refine⟨_,Z,l,_,Z,.inl (hl1 _),λr hr2=>?_⟩;have n1:r≠p:=λe=>by rw[e,ak]at hr2;cases hr2
 refine⟨_,Z,p,T.part,dx,_,Z,by rw[av (cD n1)];exact ak,X.cP,X.ZF,by show 5<1000;decide,?_⟩;have hr0:H r=none:=by rw[av n1]at hr2;exact hr2
 refine q r _ hr0 (λb o e hb=>?_) ak ?_
 .rw [av hb,av (aI e hr0),av hb];exact e
 .rw [av n1];exact ak
abbrev sH:Stmt:=inClass (top 4) 1
abbrev o_:Da Str:=["self","step"]
abbrev Kr:Da Str:=o_
def Iu:aJ Kr o_ (ay sH):=dh
def Iw{T:TC}(F:jF K T.bot "grow" "Bottom.grow" sH f fd)(X:Txt K T):Mn P w K mg base 1 T.bot "grow" o_ (VE T):=by
 refine F.oA Iu λ_ _ _ _ H _ Q E hr h=>?_;obtain⟨⟨n,ρ,A,st,s,rfl,g,h,hl,z1,z2,q⟩⟩:=h;refine⟨_,(@cS.h _ _ _ (aq (jj (aP iX (qv 1) ao (aZ _)) (aj (cg (kQ mG pG pH eX (aT K (qv 0)) (af (qv 1) ai)))
  (aj (F0 K (qv 0) (qv 1) aaO)
  (aq (fF K (qv 0) sr)))) aQ))),?_⟩
 refine⟨λσ' H'=>Q .cu H',⟨_,Z,_,_,Z,Z,_,Z,dg (λc=>?_) (λc=>?_)⟩,λ_ _ z=>z⟩
 .have c':1<s:=dH c;refine⟨_,Z,A.bt,T.bot,A.db,_,_,Z,h.nj,X.cB,X.bst,Z,.inl ⟨Z,_,az.of h.tY⟩,_,Z,A.sp,_,_,Z,Z,h.tY,by rw[aD];exact dU hl,?_⟩;rw[show st.stp.map V.int++[V.int s]=(st.stp++[s]).map V.int from by rw[bw];rfl];have h1:=h.adn g (st.stp++[s]);have g1:=g.wr (a:=A.sp) (o:=.lst ((st.stp++[s]).map V.int)) rfl;have F1:Fr n ρ H ρ (upd H A.sp (.lst ((st.stp++[s]).map V.int))):=Fr.write h.j7;generalize upd H A.sp (.lst ((st.stp++[s]).map V.int))=H1 at *;refine⟨_,Z,A.bt,T.bot,A.db,_,_,Z,h1.nj,X.cB,X.Q_,Z,_,Z,_,_,Z,Z,jR z1 z2,A.db,_,h1.nj,by show 3<1000;decide,?_⟩;intro kn hkn;have nb:kn≠A.bt:=λe=>by rw[e,ak]at hkn;cases hkn
  have Ej:H1 kn=none:=by rw[av nb]at hkn;exact hkn
  have j8:ρ kn=none:=g1.none Ej;refine⟨_,Z,A.bt,T.bot,A.db,_,Z,by rw[av (cD nb)];exact ak,X.cB,X.Vw,by show 3<1000;decide,?_⟩;have eH:upd (upd (upd H1 A.bt (.ins T.bot A.db (iQ "product" (.int (st.prod*s)) (zS A.sp st.prod A.kn)))) kn (.dK [])) A.bt (.ins T.bot A.db (iQ "known" (.ref kn) (iQ "product" (.int (st.prod*s)) (zS A.sp st.prod A.kn))))=upd (upd H1 kn (.dK [])) A.bt (.ins T.bot A.db (zS A.sp (st.prod*s) kn)):=by rw[lO (cD nb),rS];rfl
  have k2:Kp n ρ (b_ ρ kn (n,9,⟨#[]⟩)) H1 (upd H1 kn (.dK [])) (λ_=>true):=⟨(aA Ej _).tups,λb t x o _ c e=>⟨aA Ej _ _ _ e,by rw[cC (aI e Ej)];exact c⟩⟩
  have h2:=h1.same k2;have g2:Gh (b_ ρ kn (n,9,⟨#[]⟩)) (upd H1 kn (.dK [])):=(g1.alloc Ej).color ak rfl;have F2:Fr n ρ H1 (b_ ρ kn (n,9,⟨#[]⟩)) (upd H1 kn (.dK [])):=Fr.color Ej (aA Ej _);have h3:=h2.adp g2 (st.prod*s) kn ak dz;have es:gi st s={ { st with stp:=st.stp++[s] }with prod:=st.prod*s,kn:=0 }:=by unfold gi;rw[aC c']
  rw[es]at q;show Q .cu _;refine(show _=_ from eH)▸?_;exact q _ _ _ (g2.wr rfl) h3 rfl (F1.trans (F2.trans (Fr.write h2.j6)))
 .have c':¬ 1<s:=kF (gX.mpr c);have es:gi st s=st:=by unfold gi;rw[aB c']
  rw[es]at q;exact q ρ A H g h rfl Fr.refl
abbrev pR:Stmt:=inClass (top 24) 19
abbrev i_:Da Str:=["self","owner"]
abbrev Gs:Da Str:=i_
def Ek:aJ Gs i_ (ay pR):=dh
def CP{T:TC}{e:Ec}(F:jF K T.hold "place_of" "Hold.place_of" pR f fd)(X:Txt K T)(Ah:jH K e.vd)(qj:mg "NoOwner"=some (.ref e.vd)):Mx P w K mg base 1 T.hold "place_of" i_ (D6 T e):=by
 refine F.DA Ek λ_ _ _ _ H _ Q E hr h=>?_;obtain⟨⟨n,ρ,A,st,o,rfl,h,q2,q⟩⟩:=h;refine⟨_,(@cS.h _ _ _ (aj (bZ (yM (By (bN hr) (qv 1) (aT K (qv 0)))) (aq (ny Ah (by rfl) qj)) aQ)
  (aq (aM (bF (bN hr) (aT K (qv 0)) (qv 1)))))),?_⟩
 refine⟨_,Z,_,Z,A.a,T.hold,A.dx,_,_,Z,h.oa,X.cH,X.hpl,Z,A.pl,_,Z,cE.k (k:=Sum.inr o) h.jv,_,Z,?_⟩;by_cases ho:o∈st.own
 .have hv:=Rb (i:=0) ho;rw[hv];refine cA ?_;refine⟨_,Z,A.a,T.hold,A.dx,_,_,Z,h.oa,X.cH,X.hpl,Z,_,Z,A.pl,_,Z,hv▸cE.k (k:=Sum.inr o) h.jv,?_⟩;rw[Nat.zero_add];exact q ho
 .rw [qI ho];exact jE λx=>q2 ho x H (aE.refl _)
abbrev qR:Stmt:=inClass (top 24) 20
abbrev jy:Da Str:=["self","name"]
abbrev Iz:Da Str:=jy
def Gu:aJ Iz jy (ay qR):=dh
def El{T:TC}{e:Ec}(F:jF K T.hold "part_of" "Hold.part_of" qR f fd)(X:Txt K T)(BN:jH K e.qM)(sJ:mg "NoPart"=some (.ref e.qM)):Mx P w K mg base 1 T.hold "part_of" jy (xJ T e):=by
 refine F.DA Gu λ_ _ _ _ H _ Q E hr h=>?_;obtain⟨⟨n,ρ,A,st,x,rfl,hA,nd,q2,k⟩⟩:=h;refine⟨_,(@cS.h _ _ _ (aj (bZ (yM (By (bN hr) (qv 1) (aT K (qv 0)))) (aq (ny BN (by rfl) sJ)) aQ)
  (aq (aM (bF (bN hr) (aT K (qv 0)) (qv 1)))))),?_⟩
 refine⟨_,Z,_,Z,A.a,T.hold,A.dx,_,_,Z,hA.oa,X.cH,X.hab,Z,A.ab,_,Z,cE.k (k:=Sum.inr x) hA.fB,_,Z,?_⟩;by_cases hx:∃p∈st.ah,p.nm=x
 .obtain ⟨p,hp,rfl⟩:=hx;obtain⟨i,hi,ep⟩:=List.mem_iff_getElem.mp hp;have yt:st.ah[i]?=some p:=by rw[aY hi,ep]
  obtain⟨qq,eq,_⟩:=hA.find yt;have hv:=vo nd yt eq;rw[hv];refine cA ?_;exact⟨_,Z,A.a,T.hold,A.dx,_,_,Z,hA.oa,X.cH,X.hab,Z,_,Z,A.ab,_,Z,hv▸cE.k (k:=Sum.inr p.nm) hA.fB,k i p qq rfl yt eq⟩
 .have hn:∀p∈st.ah,p.nm≠x:=λp hp z=>hx ⟨p,hp,z⟩;rw[vQ hn];exact jE λy=>q2 hn y H (aE.refl _)
abbrev oj:Stmt:=inClass (top 24) 21
abbrev lR:Da Str:=["self","name"]
abbrev Em:Da Str:=lR
def CQ:aJ Em lR (ay oj):=dh
def CS{T:TC}(F:jF K T.hold "check_new" "Hold.check_new" oj f fd)(X:Txt K T)(qm:Dn P w K mg base 2 "is_name" t9 zP):Mn P w K mg base 3 T.hold "check_new" lR (FA T):=by
 refine F.oA CQ λ_ _ _ _ H _ Q E hr h=>?_;obtain⟨⟨n,ρ,A,st,x,rfl,h,hx,hn,q⟩⟩:=h;refine⟨_,(@cS.h _ _ _ (aj (bZ (d9 (dX (bh qm hr (af (qv 1) ai)))) (aq v9) aQ)
  (aq (bZ (yM (Np (bN hr) (qv 1) (aT K (qv 0)))) (aq v9) aQ)))),?_⟩
 refine⟨_,Z,Fl (cs:=x.cps.toList) (MN hx) λH1 g1=>⟨_,Z,?_⟩⟩;rw[show isName x.cps.toList=true from hx];refine cA ?_;have h1:=h.mono g1;refine⟨_,Z,_,Z,A.a,T.hold,A.dx,_,_,Z,h1.oa,X.cH,X.hnm,Z,A.nm,_,Z,cE.k (k:=Sum.inr x) h1.uW,_,Z,?_⟩;rw[Bf hn];exact cA (q H1 g1)
abbrev sL:Stmt:=inClass (top 24) 10
abbrev pe:Da Str:=["self"]
abbrev Ks:Da Str:=pe
def IA:aJ Ks pe (ay sL):=dh
def IB{T:TC}(F:jF K T.hold "roster" "Hold.roster" sL f fd)(X:Txt K T)(dm:mg "list"=none):Mn P w K mg base 1 T.hold "roster" pe (MK T):=by refine F.oA IA λ_ _ _ _ H _ Q E hr h=>?_;obtain⟨⟨n,ρ,A,st,rfl,h,q⟩⟩:=h;refine⟨_,(@cS.h _ _ _ (aq (aM (kh (Td rfl) (by rfl) dm vz (af (aT K (qv 0)) ai))))),?_⟩;refine⟨_,Z,A.a,T.hold,A.dx,_,_,Z,h.oa,X.cH,X.hpl,Z,A.pl,_,Z,.inl h.jv,λl hl=>?_⟩;rw[DU];exact q l hl
abbrev uB:Stmt:=inClass (top 24) 11
abbrev qS:Da Str:=["self"]
abbrev NR:Da Str:=qS
def Ku:aJ NR qS (ay uB):=dh
theorem Kv{T:TC}(F:jF K T.hold "parts" "Hold.parts" uB f fd)(X:Txt K T):Mn P w K mg base 1 T.hold "parts" qS (Ri T):=by
 refine F.oA Ku λ_ _ _ _ H _ Q E hr h=>?_;obtain⟨⟨n,ρ,A,st,rfl,h,hl,q⟩⟩:=h;refine⟨_,(@cS.h _ _ _ (aq (aM (Nm (fJ ["part"] [none] rfl (CK (aT K (qv 0))) (λ_ _ _ _=>(aL (i:=0) (show List.Nodup (["part"] :Da Str)from by decide +kernel))) (λ_ _ _ _=>(iU (af (aT K (qv 0)) (af (aT K (qv 0)) (af (aT K (qv 0)) (af (aT K (qv 0)) ai)))))) rfl (by rfl)))))),?_⟩;refine⟨A.ab,_,h.fB,λo=>?_⟩;refine⟨_,Z,A.a,T.hold,A.dx,_,_,Z,fQ h.fB h.oa (λk z=>by cases z),X.cH,X.hab,Z,A.ab,o,_,Z,ak,λBM Bn=>?_⟩;have el:=yG h.ql;refine gf (n:=st.ah.length) 0 (λi out H1=>aE (upd H A.ab (.fY o (.dK (c7 st.ah A.qs)))) H1/\kN H1 out (st.ah.take i)) (by omega) ⟨aA Bn _,.nil⟩ (λi out H1 hi _ hp=>⟨hp.1 _ _ ak,by rw[el];exact hi⟩) (λout H1 _ hp=>⟨hp.1 _ _ ak,by rw[el];exact aN _⟩) ?_ ?_
 .rintro i x out H1 H2 hi dY ha ⟨g,hP⟩ ⟨rfl,kv,hkv,rfl⟩;have ep:=aY hi;obtain⟨qq,eq,h1,h2,_⟩:=h.find ep;rw[yF ep eq]at hkv;cases hkv;have hq:=g _ _ (fQ h.fB h1 (λk z=>by cases z));refine⟨_,Z,qq.1,T.part,qq.2.1,_,_,Z,hq,X.cP,X.Vu,Z,_,Z,qq.1,T.part,qq.2.1,_,_,Z,hq,X.cP,X.pow,Z,_,Z,qq.1,T.part,qq.2.1,_,_,Z,hq,X.cP,X.Fz,Z,_,Z,qq.1,T.part,qq.2.1,_,_,Z,hq,X.cP,X.pwe,Z,(gM 4),λt ht=>?_⟩;have g1:=aA ht (CD st.ah[i]);refine⟨g1 _ _ ha,(g.trans g1).bQ Bn _,?_⟩;rw[take_snoc ep];exact((hP.mono g1.tups).snoc ak).mono (jw (.inr ⟨_,g1 _ _ ha,Z⟩))
 rintro out H1 dY ha ⟨g,hP⟩;rw[bV]at hP;have hz:=g _ _ (ak (H:=H) (a:=A.ab) (o:=.fY o (.dK (c7 st.ah A.qs))));have na:BM≠A.ab:=λe=>by rw[e,hz]at ha;cases ha
 exact⟨hz,q BM out _ (vR h.fB g) (pL h.fB Bn) (by rw[av na];exact ha) (hP.mono (jw (.inr ⟨_,hz,Z⟩)))⟩
abbrev uC:Stmt:=inClass (top 24) 13
abbrev lB:Da Str:=["self"]
abbrev NS:Da Str:=lB
def Kw:aJ NS lB (ay uC):=dh
theorem Ky{T:TC}(F:jF K T.hold "whole" "Hold.whole" uC f fd)(X:Txt K T)(fE:mg "sum"=none):Mn P w K mg base 1 T.hold "whole" lB (CF T):=by
 refine F.oA Kw λ_ _ _ _ H _ Q E hr h=>?_;obtain⟨⟨n,ρ,A,st,rfl,h,hl,q⟩⟩:=h;refine⟨_,(@cS.h _ _ _ (aq (aM (aF (ju K rfl) (by rfl) fE ue (af (Nm (fJ ["part"] [none] rfl (CK (aT K (qv 0))) (λ_ _ _ _=>(aL (i:=0) (show List.Nodup (["part"] :Da Str)from by decide +kernel))) (λ_ _ _ _=>(aT K (qv 0))) rfl (by rfl))) ai))))),?_⟩;refine⟨A.ab,_,h.fB,λo=>?_⟩;refine⟨_,Z,A.a,T.hold,A.dx,_,_,Z,fQ h.fB h.oa (λk z=>by cases z),X.cH,X.hab,Z,A.ab,o,_,Z,ak,λBM Bn=>?_⟩;have el:=yG h.ql;refine gf (n:=st.ah.length) 0 (λi out H1=>aE (upd H A.ab (.fY o (.dK (c7 st.ah A.qs)))) H1/\out=((st.ah.take i).map (·.wo)).map V.int) (by omega) ⟨aA Bn _,Z⟩ (λi out H1 hi _ hp=>⟨hp.1 _ _ ak,by rw[el];exact hi⟩) (λout H1 _ hp=>⟨hp.1 _ _ ak,by rw[el];exact aN _⟩) ?_ ?_
 .rintro i x out H1 H2 hi dY ha ⟨g,e⟩ ⟨rfl,kv,hkv,rfl⟩;have ep:=aY hi;obtain⟨qq,eq,h1,h2,_⟩:=h.find ep;rw[yF ep eq]at hkv;cases hkv;have hq:=g _ _ (fQ h.fB h1 (λk z=>by cases z));refine⟨_,Z,qq.1,T.part,qq.2.1,_,_,Z,hq,X.cP,X.Fz,Z,ha,g.bQ Bn _,?_⟩;rw[take_snoc ep,e,bw,bw];rfl
 rintro out H1 dY ha ⟨g,e⟩;rw[bV]at e;have hz:=g _ _ (ak (H:=H) (a:=A.ab) (o:=.fY o (.dK (c7 st.ah A.qs))));have na:BM≠A.ab:=λe=>by rw[e,hz]at ha;cases ha
 exact⟨hz,BM,st.ah.map (λp:Pt=>p.wo),Z,az.of (by rw[av na,ha,e]),q _ (vR h.fB g)⟩
abbrev lC:Stmt:=inClass (top 24) 25
abbrev jq:Da Str:=["self","tops"]
abbrev Ai:Da Str:=jq
def yP:aJ Ai jq (ay lC):=dh
theorem yQ{T:TC}(F:jF K T.hold "beyond_common" "Hold.beyond_common" lC f fd)(X:Txt K T)(jr:mg "zip"=none):Mn P w K mg base 1 T.hold "beyond_common" jq (ZG T K):=by
 refine F.oA yP λ_ _ _ _ H _ Q E hr h=>?_;obtain⟨⟨n,ρ,A,st,l,tops,rfl,h,hS,ZT,hle,q⟩⟩:=h;refine⟨_,(@cS.h _ _ _ (aq (aM (fJ ["top","common"] [none,none] rfl (sf K (by rfl) jr (af (qv 1) (af (aT K (qv 0)) ai))) (λ_ _ _ _=>(i7 K (n:=2) rfl (cM (aL (i:=0) (show List.Nodup (["top","common"] :Da Str)from by decide +kernel)) (cM (aL (i:=1) (show List.Nodup (["top","common"] :Da Str)from by decide +kernel)) i6)))) (λ_ _ _ _=>(aH tV (qv 0) (qv 1))) rfl (by rfl))))),?_⟩;refine⟨_,Z,_,Z,A.a,T.hold,A.dx,_,_,Z,h.oa,X.cH,X.Dl,Z,_,_,_,_,_,_,Z,.lst hS,.lst (az.of h.kK),λBM Bn=>?_⟩;refine yz (K:=K) (n:=tops.length) [0,1] (λi out H1=>aE H H1/\out=(List.zipWith (λt c=>t-c) (tops.take i) (st.bU.take i)).map V.int) (by decide) (by omega) ⟨aA Bn _,Z⟩ (λi out H1 hi _ hp=>⟨hp.1.seq hS,hp.1.seq (az.of h.kK),by rw[aD];exact hi,by rw[aD];omega⟩)
  (λout H1 _ hp=>⟨hp.1.seq hS,hp.1.seq (az.of h.kK),.inl (by rw[aD];exact aN _)⟩) ?_ ?_
 .rintro i x out H1 H2 hi dY ha ⟨g,e⟩ ⟨p,x1,y1,hp,rfl,rfl,e1,e2⟩;obtain⟨t,rfl,et⟩:=gH e1;obtain⟨c,rfl,ec⟩:=gH e2;have g1:=aA hp (.tup [.int t,.int c]);refine⟨p,_,Z,cV.of ak,Z,_,Z,_,Z,_,_,Z,Z,g1 _ _ ha,(g.trans g1).bQ Bn _,?_⟩;rw[nu _ et ec,e,bw];rfl
 rintro out H1 dY ha ⟨g,e⟩;rw[bV,ZT,bV]at e;exact q BM H1 g Bn (by rw[ha,e];rfl)
abbrev qT:Stmt:=inClass (top 24) 24
abbrev lD:Da Str:=["self","part"]
abbrev IC:Da Str:=lD
def Gv:aJ IC lD (ay qT):=dh
theorem Gw{T:TC}(F:jF K T.hold "tops_of" "Hold.tops_of" qT f fd)(X:Txt K T)(jr:mg "zip"=none):Mn P w K mg base 1 T.hold "tops_of" lD (HW T):=by
 refine F.oA Gv λ_ _ _ _ H _ Q E hr h=>?_;obtain⟨⟨n,ρ,A,st,ip,pt,qq,rfl,h,wf,ep,eq,q⟩⟩:=h;obtain⟨h1,h2,_⟩:=h.opt ip pt qq ep eq;have ja:=bK ep;refine⟨_,(@cS.h _ _ _ (aq (aM (fJ ["own","common","part"] [none,none,some 1] rfl (sf K (by rfl) jr (af (aT K (qv 1)) (af (aT K (qv 0)) ai))) (λ_ _ _ _=>(i7 K (n:=2) rfl (cM (aL (i:=0) (show List.Nodup (["own","common","part"] :Da Str)from by decide +kernel)) (cM (aL (i:=1) (show List.Nodup (["own","common","part"] :Da Str)from by decide +kernel)) i6)))) (λ_ _ _ _=>(aH cW (aH kU (aT K (qv 2)) (qv 0)) (qv 1))) rfl (by rfl))))),?_⟩;have erl:pt.row.length=st.bU.length:=by rw[wf.rows pt ja,wf.jg]
 have hcl:st.bU.length<=100:=by rw[wf.jg];exact wf.qH
 refine⟨_,Z,qq.1,T.part,qq.2.1,_,_,Z,h1,X.cP,X.ZF,Z,_,Z,A.a,T.hold,A.dx,_,_,Z,h.oa,X.cH,X.Dl,Z,_,_,_,_,_,_,Z,.lst (az.of h2),.lst (az.of h.kK),λBM Bn=>?_⟩;refine yz (K:=K) (n:=pt.row.length) [0,1] (λi out H1=>aE H H1/\out=(List.zipWith (λr c=>pt.sc*r+c) (pt.row.take i) (st.bU.take i)).map V.int) (by decide) (by omega) ⟨aA Bn _,Z⟩ (λi out H1 hi _ hp=>⟨hp.1.seq (az.of h2),hp.1.seq (az.of h.kK),by rw[aD];exact hi,by rw[aD];omega⟩)
  (λout H1 _ hp=>⟨hp.1.seq (az.of h2),hp.1.seq (az.of h.kK),.inl (by rw[aD];exact aN _)⟩) ?_ ?_
 .rintro i x out H1 H2 hi dY ha ⟨g,e⟩ ⟨p,x1,y1,hp,rfl,rfl,e1,e2⟩;obtain⟨t,rfl,et⟩:=gH e1;obtain⟨c,rfl,ec⟩:=gH e2;have g1:=aA hp (.tup [.int t,.int c]);have s1:Jm.Sz 8000 pt.sc:=Jm.Sz.oG (by have:=wf.yE pt ja;have:=wf.iZ;omega) (wf.yE pt ja).2 wf.big;have s2:Jm.Sz 8000 t:=Jm.Sz.oG (wf.vP pt ja t (bK et)).1 (wf.vP pt ja t (bK et)).2 wf.big;refine⟨p,_,Z,cV.of ak,Z,_,Z,qq.1,T.part,qq.2.1,_,_,Z,(g.trans g1) _ _ h1,X.cP,X.Vv,Z,_,Z,_,_,Z,Z,jR s1 s2,_,Z,_,_,Z,Z,g1 _ _ ha,(g.trans g1).bQ Bn _,?_⟩;rw[nu _ et ec,e,bw];rfl
 rintro out H1 dY ha ⟨g,e⟩;rw[bV,erl,bV]at e;exact q BM H1 g Bn (by rw[ha,e];rfl)
abbrev wu:Stmt:=inClass (top 24) 22
abbrev tK:Da Str:=["self","part"]
abbrev Pp:Da Str:=tK
def NT:aJ Pp tK (ay wu):=dh
theorem NU{T:TC}(F:jF K T.hold "stow" "Hold.stow" wu f fd)(X:Txt K T):Mn P w K mg base 1 T.hold "stow" tK (Vy T):=by
 refine F.oA NT λ_ _ _ _ H _ Q E hr h=>?_;obtain⟨⟨n,ρ,A,st,qq,p,rfl,hh,h1,h2,c1,c2,hn,wf',q⟩⟩:=h;have h:=hh.h;refine⟨_,(@cS.h _ _ _ (aj (qi (bN hr) (aT K (qv 0)) (aT K (qv 1)) (qv 1) rfl)
  (aq (qi (bN hr) (aT K (qv 0)) (aT K (qv 1)) gc rfl)))),?_⟩
 have BO:∀x∈st.ah,x.nm≠p.nm:=λx hx e=>hn (by rw[<-e];exact hh.wf.sub x hx);have lab:(c7 st.ah A.qs).length<sizeLine:=by rw[yG h.ql];exact dU hh.wf.vO
 refine⟨_,Z,_,Z,A.a,T.hold,A.dx,_,_,Z,h.oa,X.cH,X.hab,Z,_,Z,qq.1,T.part,qq.2.1,_,_,Z,h1,X.cP,X.Vu,Z,A.ab,_,Z,um.k (k:=Sum.inr p.nm) h.fB lab,?_⟩;rw[pK _ (vQ BO),<-Yi h.ql p qq];have k1:qq.1≠qq.2.2:=jL h1 h2 (by intro z;cases z);have f1:Kp n ρ (b_ (b_ ρ qq.1 (n,20,p.nm)) qq.2.2 (n,21,p.nm)) H H (λ_=>true):=⟨λ_ _ e=>e,λb t x o _ c e=>⟨e,by rw[cC (λz=>by rw[z,c2]at c;cases c),cC (λz=>by rw[z,c1]at c;cases c)];exact c⟩⟩
 have hc:=h.same f1;have g1:Gh (b_ (b_ ρ qq.1 (n,20,p.nm)) qq.2.2 (n,21,p.nm)) H:=(hh.g.color h1 rfl).color h2 rfl;have fr1:MI n qq.1 qq.2.2 ρ H (b_ (b_ ρ qq.1 (n,20,p.nm)) qq.2.2 (n,21,p.nm)) H:=λb o e k n1 n2=>⟨e,by rw[cC n2,cC n1]⟩
 have hs:=hc.MF g1 (st.ah++[p]) (A.qs++[qq]) (by rw[c8,c8,h.ql];rfl) (λi x y ex ey=>by
  by_cases hi:i<st.ah.length
  .rw [Hj hi]at ex;rw[Hj (by rw[h.ql];exact hi)]at ey;exact hc.opt i x y ex ey
  .rw [Jh (by omega)]at ex;rw[Jh (by rw[h.ql];omega),h.ql]at ey;have e0:i-st.ah.length=0:=by
    rcases Nat.eq_zero_or_pos (i-st.ah.length)with z|z
    .exact z
    .rw [rR (by show 1<=_;exact z)]at ex;cases ex
   rw[e0]at ex ey;cases ex;cases ey;exact⟨h1,h2,by rw[cC k1];exact dz,dz⟩)
 have g2:=g1.wr (a:=A.ab) (o:=.dK (c7 (st.ah++[p]) (A.qs++[qq]))) rfl;have fr2:Fr n _ H _ (upd H A.ab (.dK (c7 (st.ah++[p]) (A.qs++[qq])))):=Fr.write hc.g_;have MH:upd H A.ab (.dK (c7 (st.ah++[p]) (A.qs++[qq]))) qq.1=some (.ins T.part qq.2.1 (nh p qq.2.2)):=by rw[av (jL h1 h.fB (by intro z;cases z))];exact h1
 refine⟨_,Z,A.a,T.hold,A.dx,_,_,Z,hs.oa,X.cH,X.hnm,Z,_,Z,qq.1,T.part,qq.2.1,_,_,Z,MH,X.cP,X.Vu,Z,A.nm,_,Z,um.k (k:=Sum.inr p.nm) hs.uW (by unfold yC;rw[aD];exact dU hh.wf.DT),?_⟩;rw[pK _ (Bf hn),show yC st.nms++[(Sum.inr p.nm,V.bl true)]=yC (st.nms++[p.nm])from by unfold yC;rw[bw];rfl];have hs2:=hs.adk g2 (st.nms++[p.nm]);exact q _ _ _ ⟨g2.wr rfl,hs2,wf'⟩ rfl (fr1.trans (fr2.trans (Fr.write hs.j0)))
abbrev wA:Stmt:=inClass (top 24) 1
abbrev oR:Da Str:=["self","owner"]
abbrev Pq:Da Str:=oR.append ["part"]
def BQ:aJ Pq oR (ay wA):=dh
theorem NV{T:TC}(F:jF K T.hold "sign" "Hold.sign" wA f fd)(X:Txt K T)(qm:Dn P w K mg base 2 "is_name" t9 zP)(bg:mg "len"=none):Mn P w K mg base 3 T.hold "sign" oR (HX T):=by
 refine F.oA BQ λ_ _ _ _ H _ Q E hr h=>?_;obtain⟨⟨n,ρ,A,st,o,rfl,hh,hx,hn,hl,q⟩⟩:=h;refine⟨_,(@cS.h _ _ _ (aj (bZ (d9 (dX (bh qm hr (af (qv 1) ai)))) (aq v9) aQ)
  (aj (bZ (yM (Np (bN hr) (qv 1) (aT K (qv 0)))) (aq v9) aQ)
  (aj (qi (bN hr) (aT K (qv 0)) (qv 1) (aF xy (by rfl) bg c9 (af (aT K (qv 0)) ai)) rfl)
  (aj (cg (kQ mG pG pH eX (aT K (qv 0)) (af ao ai)))
  (aj (cg (kQ mG pG pH eX (aT K (qv 0)) (af ao ai)))
  (aq (yN (dP fC rfl (CK (aT K (qv 0))) (aL (i:=2) BQ.nd) (aq (cg (kQ mG pG pH eX (aT K (qv 2)) (af ao ai))))))))))))),?_⟩
 refine⟨_,Z,Fl (cs:=o.cps.toList) (MN hx) λH1 g1=>⟨_,Z,?_⟩⟩;rw[show isName o.cps.toList=true from hx];refine cA ?_;have gj:=hh.mono g1;have h1:=gj.h;have F1:Fr n ρ H ρ H1:=Fr.of_same g1;refine⟨_,Z,_,Z,A.a,T.hold,A.dx,_,_,Z,h1.oa,X.cH,X.hpl,Z,A.pl,_,Z,cE.k (k:=Sum.inr o) h1.jv,_,Z,?_⟩;rw[qI hn];refine cA ?_;have DF:=qJ st.own 0;refine⟨_,Z,A.a,T.hold,A.dx,_,_,Z,h1.oa,X.cH,X.hpl,Z,A.pl,_,Z,h1.jv,_,Z,A.a,T.hold,A.dx,_,_,Z,h1.oa,X.cH,X.hpl,Z,_,Z,A.pl,_,Z,um.k (k:=Sum.inr o) h1.jv (dU (by rw[DF];omega)),?_⟩;rw[pK _ (qI hn),DF,show gq 0 st.own++[(Sum.inr o,V.int (st.own.length:Int))]=gq 0 (st.own++[o])from by rw[MG,Nat.zero_add]];have h2:=h1.adi gj.g (st.own++[o]);have G2:=gj.g.wr (a:=A.pl) (o:=.dK (gq 0 (st.own++[o]))) rfl;have F2:=F1.trans (Fr.write (o:=.dK (gq 0 (st.own++[o]))) h1.jQ);generalize upd H1 A.pl (.dK (gq 0 (st.own++[o])))=H2 at *;have lcm:(st.bU.map V.int).length<sizeLine:=by rw[aD,hh.wf.jg];exact dU (by omega)
 refine⟨_,Z,A.a,T.hold,A.dx,_,_,Z,h2.oa,X.cH,X.Dl,Z,.inl ⟨Z,_,az.of h2.kK⟩,A.cm,_,_,Z,Z,h2.kK,lcm,?_⟩;rw[show st.bU.map V.int++[V.int 0]=(st.bU++[0]).map V.int from by rw[bw];rfl];have h3:=h2.adl G2 (st.bU++[0]);have G3:=G2.wr (a:=A.cm) (o:=.lst ((st.bU++[0]).map V.int)) rfl;have F3:=F2.trans (Fr.write (o:=.lst ((st.bU++[0]).map V.int)) h2.kY);generalize upd H2 A.cm (.lst ((st.bU++[0]).map V.int))=H3 at *;have lpu:(st.cJ.map V.int).length<sizeLine:=by rw[aD,hh.wf.vN];exact dU (by omega)
 refine⟨_,Z,A.a,T.hold,A.dx,_,_,Z,h3.oa,X.cH,X.Fy,Z,.inl ⟨Z,_,az.of h3.nZ⟩,A.pu,_,_,Z,Z,h3.nZ,lpu,?_⟩;rw[show st.cJ.map V.int++[V.int 0]=(st.cJ++[0]).map V.int from by rw[bw];rfl];have h4:=h3.adm G3 (st.cJ++[0]);have G4:=G3.wr (a:=A.pu) (o:=.lst ((st.cJ++[0]).map V.int)) rfl;have F4:=F3.trans (Fr.write (o:=.lst ((st.cJ++[0]).map V.int)) h3.cpu);generalize upd H3 A.pu (.lst ((st.cJ++[0]).map V.int))=H4 at *;clear h1 h2 h3 G2 G3 F2 F3 gj;have hpl:=hh.wf.vO;refine⟨A.ab,_,h4.fB,λob=>?_⟩;refine⟨_,Z,A.a,T.hold,A.dx,_,_,Z,fQ h4.fB h4.oa (λk z=>by cases z),X.cH,X.hab,Z,A.ab,ob,_,Z,ak,?_⟩;have el:=yG h4.ql;have el0:(c7 st.ah A.qs).length=st.ah.length:=el;refine vL (n:=st.ah.length) (λi σ H'=>(∃s2,σ=[some (.ref A.a),some (.str o),s2])/\qe H' A.ab ob (c7 st.ah A.qs)/\∃H5,H'=upd H5 A.ab (.fY ob (.dK (c7 st.ah A.qs)))/\Gh ρ H5/\Fr n ρ H ρ H5/\
   a_ T n ρ A H5 { st with own:=st.own++[o],bU:=st.bU++[0],cJ:=st.cJ++[0],ah:=(st.ah.take i).map (λp=>{ p with row:=p.row++[0] })++st.ah.drop i })
  ⟨⟨_,Z⟩,ak,H4,Z,G4,F4,h4⟩ (λi σ H' hi hp=>⟨hp.2.1,by rw[el0];exact hi⟩) (λσ H' hp=>⟨hp.2.1,by rw[el0];exact aN _⟩) ?_ ?_
 .rintro i x σ H' vS hi ⟨⟨s2,rfl⟩,hz,H5,rfl,G5,F5,h5⟩ ⟨rfl,kv,hkv,rfl⟩;have ep:=aY hi;have DG:=MP (λp:Pt=>{ p with row:=p.row++[0] }) ep;obtain⟨qq,eq,k1,k2,k3,k4⟩:=h5.find DG;rw[yF ep eq]at hkv;cases hkv;have ZU:=rX (λp:Pt=>{ p with row:=p.row++[0] }) (λp:Pt=>p.nm) (λ_=>rfl) st.ah i;have nd5:(((st.ah.take i).map (λp:Pt=>{ p with row:=p.row++[0] })++st.ah.drop i).map (λp:Pt=>p.nm)).Nodup:=by rw[ZU];exact hh.wf.lN
  have z1:=fQ (o:=ob) h5.fB k1 (λk z=>by cases z);have z2:=fQ (o:=ob) h5.fB k2 (λk z=>by cases z);rw[show c7 ({ st with own:=st.own++[o],bU:=st.bU++[0],cJ:=st.cJ++[0],ah:=(st.ah.take i).map (λp:Pt=>{ p with row:=p.row++[0] })++st.ah.drop i }:HS).ah A.qs=c7 st.ah A.qs from qf ZU]at z1 z2;have hrl:((st.ah[i]).row.map V.int).length<sizeLine:=by rw[aD,hh.wf.rows _ (uZ hi)];exact dU (by omega)
  refine⟨_,Z,qq.1,T.part,qq.2.1,_,_,Z,z1,X.cP,X.ZF,Z,.inl ⟨Z,_,az.of z2⟩,qq.2.2,_,_,Z,Z,z2,hrl,?_⟩;have na:A.ab≠qq.2.2:=(jL k2 h5.fB (by intro z;cases z)).symm;rw[show(st.ah[i]).row.map V.int++[V.int 0]=((st.ah[i]).row++[0]).map V.int from by rw[bw];rfl];have h6:=h5.aaQ G5 ((st.ah[i]).row++[0]) DG eq nd5;rw[show({ st with own:=st.own++[o],bU:=st.bU++[0],cJ:=st.cJ++[0],ah:=(st.ah.take i).map (λp:Pt=>{ p with row:=p.row++[0] })++st.ah.drop i }:HS).ah.set i { st.ah[i]with row:=(st.ah[i]).row++[0] }=_ from MQ (λp:Pt=>{ p with row:=p.row++[0] }) ep]at h6;exact⟨⟨_,Z⟩,(av na).trans hz,_,lO na,G5.wr rfl,F5.trans (Fr.write k4),h6⟩
 .rintro σ H' ⟨_,hz,H5,rfl,G5,F5,h5⟩;have ZU:=rX (λp:Pt=>{ p with row:=p.row++[0] }) (λp:Pt=>p.nm) (λ_=>rfl) st.ah st.ah.length;have e5:c7 ({ st with own:=st.own++[o],bU:=st.bU++[0],cJ:=st.cJ++[0],ah:=(st.ah.take st.ah.length).map (λp:Pt=>{ p with row:=p.row++[0] })++st.ah.drop st.ah.length }:HS).ah A.qs=c7 st.ah A.qs:=qf ZU;have h5':=h5.fB;rw[e5]at h5';refine⟨hz,?_⟩;rw[rS,zY h5'];have es:({ st with own:=st.own++[o],bU:=st.bU++[0],cJ:=st.cJ++[0],ah:=(st.ah.take st.ah.length).map (λp:Pt=>{ p with row:=p.row++[0] })++st.ah.drop st.ah.length }:HS)=gC st o:=by unfold gC;rw[bV,EL,u0]
  rw[es]at h5;exact q ρ A H5 ⟨G5,h5,aaV hh.wf hn hl⟩ rfl F5
abbrev wB:Stmt:=inClass (top 24) 2
abbrev tL:Da Str:=["self","part","owner","worth","weight"]
abbrev Pr:Da Str:=tL.append ["place","tops"]
def wC:aJ Pr tL (ay wB):=dh
theorem NW{T:TC}(F:jF K T.hold "load" "Hold.load" wB f fd)(X:Txt K T)(pS:Mn P w K mg base 3 T.hold "check_new" lR (FA T))(jb:Mn P w K mg base 1 T.hold "place_of" i_ (HV T))(lS:Mn P w K mg base 1 T.hold "beyond_common" jq (ZG T K))(yd:Mn P w K mg base 1 T.hold "stow" tK (Vy T))(NX:Cn P w K mg base 1 "Part" T.part ["self","name","owner","worth","weight","scale","row"] (Rg T K))(bg:mg "len"=none):Mn P w K mg base 4 T.hold "load" tL (Vz T):=by
 refine F.oA wC λ_ _ _ _ H _ Q E hr h=>?_
 obtain⟨⟨n,ρ,A,st,x,o,wo,we,rfl,hh,hx,hn,ho,h4,h5,h6,h7,q⟩⟩:=h
 refine⟨_,(@cS.h _ _ _ (aj (cg (gu pS hr (qv 0) (af (qv 1) ai)))
  (aj (aX (i:=5) wC.nd (gu jb hr (qv 0) (af (qv 2) ai)))
  (aj (bZ (gK (bW.pt (ki (aP zM (qv 3) ao (aZ _)) (jI (aP zM (qv 4) ao (aZ _)))))) (aq v9) aQ)
  (aj (aX (i:=6) wC.nd (aH U0 (eY (af ao ai)) (aF xy (by rfl) bg c9 (af (aT K (qv 0)) ai))))
  (aj (tZ (aT K (aT K (qv 0))) (t8 (qv 6) (qv 5) set_list))
  (aq (cg (gu yd hr (qv 0) (af (agm NX hr (af (qv 1) (af (qv 2) (af (qv 3) (af (qv 4) (af ao (af (gu lS hr (qv 0) (af (qv 6) ai)) ai))))))) ai)))))))))),?_⟩
 refine⟨_,Z,A.a,A.dx,_,Z,hh.h.oa,Z,_,Z,⟨⟨n,ρ,A,st,x,Z,hh.h,hx,hn,λH1 g1=>?_⟩⟩⟩
 have gj:=hh.mono g1
 have F1:Fr n ρ H ρ H1:=Fr.of_same g1
 clear hh
 refine⟨_,Z,A.a,A.dx,_,Z,gj.h.oa,Z,_,Z,⟨⟨n,ρ,A,st,o,Z,gj.h,ho,?_⟩⟩⟩
 refine⟨false,⟨_,Z,_,_,Z,Z,_,Z,dg (λc=>absurd (dH c) (by omega)) λ_=>⟨_,Z,_,_,Z,Z,_,Z,d7 (by omega),Z⟩⟩,cA ?_⟩
 refine⟨(gM 1),λp0 hp0=>?_⟩
 have g2:=aA hp0 (.lst [.int 0])
 have iV:=gj.mono g2
 have F2:=F1.trans (Fr.of_same (ρ:=ρ) g2)
 have Y4:upd H1 p0 (.lst [.int 0]) p0=some (.lst [.int 0]):=ak
 generalize upd H1 p0 (.lst [.int 0])=H2 at *
 clear gj F1
 have DF:=qJ st.own 0
 have dY:=iV.wf.qH
 refine⟨_,Z,A.a,T.hold,A.dx,_,_,Z,iV.h.oa,X.cH,X.hpl,Z,A.pl,_,Z,iV.h.jv,p0,_,_,Z,Z,Y4,by omega,by rw[DF];omega,by rw[DF];show 1*_<=_;rw[ug,Nat.one_mul];exact small (by omega),λp1 hp1=>?_⟩
 rw[DF,ug,show(List.replicate st.own.length [V.int 0]).flatten=(List.replicate st.own.length (0:Int)).map V.int from by rw[List.map_replicate,List.flatten_replicate_singleton]]
 have g3:=aA hp1 (.lst ((List.replicate st.own.length (0:Int)).map V.int))
 have mY:=iV.mono g3
 have F3:=F2.trans (Fr.of_same (ρ:=ρ) g3)
 have n1:H p1=none:=(g1.trans g2).free hp1
 have c1:ρ p1=none:=iV.g.none hp1
 have Aj:upd H2 p1 (.lst ((List.replicate st.own.length (0:Int)).map V.int)) p1=_:=ak
 generalize upd H2 p1 (.lst ((List.replicate st.own.length (0:Int)).map V.int))=H3 at *
 have hi:=LG.mpr ho
 refine⟨_,Z,A.a,T.hold,A.dx,_,_,Z,mY.h.oa,X.cH,X.Bc,Z,A.bt,T.bot,A.db,_,_,Z,mY.h.nj,X.cB,X.Q_,Z,_,Z,_,Z,p1,_,_,st.own.idxOf o,Z,Z,Aj,by rw[aD,kD];exact vn hi,?_⟩
 rw[show((List.replicate st.own.length (0:Int)).map V.int).set (st.own.idxOf o) (V.int st.prod)=((List.replicate st.own.length (0:Int)).set (st.own.idxOf o) st.prod).map V.int from by rw[u7]]
 have mZ:=mY.FE (o:=.lst (((List.replicate st.own.length (0:Int)).set (st.own.idxOf o) st.prod).map V.int)) c1 Aj rfl rfl
 have F4:=F3.new (o:=.lst (((List.replicate st.own.length (0:Int)).set (st.own.idxOf o) st.prod).map V.int)) n1
 have Y5:upd H3 p1 (.lst (((List.replicate st.own.length (0:Int)).set (st.own.idxOf o) st.prod).map V.int)) p1=_:=ak
 have s4:aE H (upd H3 p1 (.lst (((List.replicate st.own.length (0:Int)).set (st.own.idxOf o) st.prod).map V.int))):=((g1.trans g2).trans g3).bQ n1 _
 generalize upd H3 p1 (.lst (((List.replicate st.own.length (0:Int)).set (st.own.idxOf o) st.prod).map V.int))=H4 at *
 clear iV mY F2 F3
 refine⟨_,Z,A.a,A.dx,_,Z,mZ.h.oa,Z,_,Z,_,Z,_,Z,_,Z,_,Z,A.a,A.dx,_,Z,mZ.h.oa,Z,_,Z,⟨⟨n,ρ,A,st,p1,_,Z,mZ.h,az.of Y5,by rw[jV,kD,mZ.wf.jg],by rw[jV,kD];omega,λr H5 g5 hr5 Y6=>?_⟩⟩⟩
 intro y dy hy hdy hyd
 have hr6:upd (upd H5 dy (.own y)) y (.ins T.part dy []) r=some (.lst ((Bg st ((List.replicate st.own.length 0).set (st.own.idxOf o) st.prod)).map V.int)):=by rw[av (aI Y6 hy),av (aI Y6 hdy)];exact Y6
 refine⟨⟨y,dy,r,⟨x,o,wo,we,1,Bg st ((List.replicate st.own.length 0).set (st.own.idxOf o) st.prod)⟩,Z,ak,az.of hr6,λrr H6 hrr k6 hy6 ajt=>⟨Z,?_⟩⟩⟩
 have aep:H5 rr=none:=by
  have e1:rr≠y:=λe=>by rw[e,ak]at hrr;cases hrr
  have e2:rr≠dy:=λe=>by rw[e,av hyd,ak]at hrr;cases hrr
  rw[av e1,av e2]at hrr;exact hrr
 have g6:aE H5 H6:=λb u e=>k6 b u (by rw[av (aI e hy),av (aI e hdy)];exact e) (aI e hy)
 have wD:=mZ.mono g5
 have xP:=wD.mono g6
 have F6:=F4.trans (Fr.of_same (ρ:=ρ) (g5.trans g6))
 exact⟨⟨n,ρ,A,st,(y,dy,rr),_,Z,xP,hy6,ajt,wD.g.none hy,wD.g.none aep,hn,aaX mZ.wf hn h6 h7 ho h4 h5,λρ' A' H' a1 a2 a3=>q ρ' A' H' a1 a2 (a3.fr F6 ((s4.trans g5).free hy) ((s4.trans g5).free aep))⟩⟩
abbrev wF:Stmt:=inClass (top 24) 0
abbrev ye:Da Str:=["self"]
abbrev Pu:Da Str:=ye
def NY:aJ Pu ye (ay wF):=dh
def aeq{p:Addr}{H0 H:Hp}{ρ0 ρ:dO}{l:Da (Addr×HO×nY)}{C dx:Addr}{fs:Da (Str×V)}(s:Str)(v:V)(M:iC p H0 ρ0 H ρ l)(_hp:H p=some (.ins C dx fs)):∃H',upd H p (.ins C dx (iQ s v fs))=H'/\iC p H0 ρ0 H' ρ l/\H' p=some (.ins C dx (iQ s v fs)):=⟨_,Z,M.wr rfl,ak⟩
def RL{p x:Addr}{H0 H:Hp}{ρ0 ρ:dO}{l:Da (Addr×HO×nY)}{C dx:Addr}{fs:Da (Str×V)}(s:Str)(o:HO)(c:nY)(M:iC p H0 ρ0 H ρ l)(hp:H p=some (.ins C dx fs))(hx:H x=none)(t:isTup o=false):∃H',upd (upd H x o) p (.ins C dx (iQ s (.ref x) fs))=H'/\iC p H0 ρ0 H' (b_ ρ x c) ((x,o,c)::l)/\H' p=some (.ins C dx (iQ s (.ref x) fs)):=aeq s _ (M.new hx t) (by rw[av (aI hp hx)];exact hp)
def NZ{T:TC}(F:JD K mg "Hold" T.hold "Hold.__init__" wF f fd)(X:Txt K T)(En:Cn P w K mg base 1 "Bottom" T.bot ["self"] (Rc T)):Cn P w K mg base 3 "Hold" T.hold ye (Rh T):=by
 refine F.oA NY λ_ _ _ _ H _ Q E hr h=>?_;obtain⟨⟨p,dx,ρ,n,rfl,hp,g,hρ,q⟩⟩:=h;refine⟨_,(@cS.h _ _ _ (aj (fF K (qv 0) sr)
  (aj (fF K (qv 0) sr)
  (aj (fF K (qv 0) (eY ai))
  (aj (fF K (qv 0) sr)
  (aj (fF K (qv 0) (V_ En hr))
  (aj (fF K (qv 0) (eY ai))
  (aq (fF K (qv 0) (eY ai)))))))))),?_⟩
 have M0:iC p H ρ H ρ [] :=⟨(λ_ m=>absurd m (by simp)),λb o e _=>⟨e,Z⟩,g,_,hp⟩
 intro pl hpl;refine⟨_,Z,p,T.hold,dx,_,Z,by rw[av (aI hp hpl)];exact hp,X.cH,X.hpl,by show 0<1000;decide,?_⟩;obtain⟨H2,e,M2,hp2⟩:=RL "places" (.dK []) (n,1,⟨#[]⟩) M0 hp hpl rfl;rw[e];intro ab hab;refine⟨_,Z,p,T.hold,dx,_,Z,by rw[av (aI hp2 hab)];exact hp2,X.cH,X.hab,by show 1<1000;decide,?_⟩;obtain⟨H4,e,M4,J1⟩:=RL "aboard" (.dK []) (n,2,⟨#[]⟩) M2 hp2 hab rfl;rw[e];refine⟨(gM 0),λas has=>?_⟩;refine⟨_,Z,p,T.hold,dx,_,Z,by rw[av (aI J1 has)];exact J1,X.cH,X.has,by show 2<1000;decide,?_⟩;obtain⟨H6,e,M6,N1⟩:=RL "ashore" (.lst []) (n,3,⟨#[]⟩) M4 J1 has rfl;rw[e];intro nm hnm;refine⟨_,Z,p,T.hold,dx,_,Z,by rw[av (aI N1 hnm)];exact N1,X.cH,X.hnm,by show 3<1000;decide,?_⟩;obtain⟨H8,e,M8,WB⟩:=RL "names" (.dK []) (n,4,⟨#[]⟩) M6 N1 hnm rfl;rw[e];intro bt db Bc hdb hne;refine⟨⟨bt,db,Z,ak,λsp kn H9 qB hkn hsk k9 yR hs9 hk9=>⟨Z,?_⟩⟩⟩;have s9:aE H8 H9:=λb o e=>k9 b o (by rw[av (aI e Bc),av (aI e hdb)];exact e) (aI e Bc);have fr:∀{c:Addr},upd (upd H8 db (.own bt)) bt (.ins T.bot db []) c=none->H8 c=none:=λ{c} e=>by
  have e1:c≠bt:=λz=>by rw[z,ak]at e;cases e
  have e2:c≠db:=λz=>by rw[z,av hne,ak]at e;cases e
  rw[av e1,av e2]at e;exact e
 have aet:=fr qB;have aeu:=fr hkn;have M9:=M8.same s9;have M10:=M9.add (c:=(n,5,⟨#[]⟩)) yR rfl M8 Bc (λe he=>aI (M8.m e he).1 Bc);have M11:=M10.add (c:=(n,8,⟨#[]⟩)) hs9 rfl M8 aet (λe he=>by
  rcases c_.mp he with rfl|he
  .exact jL yR hs9 (by intro z;cases z)
  .exact aI (M8.m e he).1 aet)
 have M12:=M11.add (c:=(n,9,⟨#[]⟩)) hk9 rfl M8 aeu (λe he=>by
  rcases c_.mp he with rfl|he
  .exact jL hs9 hk9 (by intro z;cases z)
  rcases c_.mp he with rfl|he
  .exact jL yR hk9 (by intro z;cases z)
  .exact aI (M8.m e he).1 aeu)
 have hp9:=s9 _ _ WB;refine⟨_,Z,p,T.hold,dx,_,Z,hp9,X.cH,X.Bc,by show 4<1000;decide,?_⟩;obtain⟨H13,e,M13,Aj⟩:=aeq "bottom" (.ref bt) M12 hp9;rw[e];refine⟨(gM 0),λcm Dl=>?_⟩;refine⟨_,Z,p,T.hold,dx,_,Z,by rw[av (aI Aj Dl)];exact Aj,X.cH,X.Dl,by show 5<1000;decide,?_⟩;obtain⟨H15,e,M15,Y7⟩:=RL "common" (.lst []) (n,6,⟨#[]⟩) M13 Aj Dl rfl;rw[e];refine⟨(gM 0),λpu Fy=>?_⟩;refine⟨_,Z,p,T.hold,dx,_,Z,by rw[av (aI Y7 Fy)];exact Y7,X.cH,X.Fy,by show 6<1000;decide,?_⟩;obtain⟨H17,e,M17,aex⟩:=RL "purses" (.lst []) (n,7,⟨#[]⟩) M15 Y7 Fy rfl;rw[e];have m:=M17.m;have BO:∀{a:Addr}{o:HO}{c:nY}{ρ2:dO},(H17 a=some o/\ρ2 a=some c/\a≠p)->H17 a=some o/\b_ ρ2 p (n,0,⟨#[]⟩) a=some c:=λh=>⟨h.1,by rw[cC h.2.2];exact h.2.1⟩
 have a1:=BO (m _ (.head _));have a2:=BO (m _ (.tail _ (.head _)));have a3:=BO (m _ (.tail _ (.tail _ (.head _))));have a4:=BO (m _ (.tail _ (.tail _ (.tail _ (.head _)))));have a5:=BO (m _ (.tail _ (.tail _ (.tail _ (.tail _ (.head _))))));have a6:=BO (m _ (.tail _ (.tail _ (.tail _ (.tail _ (.tail _ (.head _)))))));have a7:=BO (m _ (.tail _ (.tail _ (.tail _ (.tail _ (.tail _ (.tail _ (.head _))))))));have a8:=BO (m _ (.tail _ (.tail _ (.tail _ (.tail _ (.tail _ (.tail _ (.tail _ (.head _)))))))));have a9:=BO (m _ (.tail _ (.tail _ (.tail _ (.tail _ (.tail _ (.tail _ (.tail _ (.tail _ (.head _))))))))));refine q (b_ _ p (n,0,⟨#[]⟩)) ⟨p,dx,pl,ab,as,nm,bt,db,cm,pu,sp,kn,[]⟩ H17 rfl ⟨M17.g.color aex rfl,⟨aex,dz,a9.1,a9.2,a8.1,a8.2,⟨[],a7.1,.nil⟩,a7.2,a6.1,a6.2,a5.1,a5.2,a2.1,a2.2,a1.1,a1.2,a4.1,a4.2,⟨[],a3.1,(λx hx=>absurd hx (by simp)),aN _,sW⟩,a3.2,Z,λi x y ex=>by simp[hs0]at ex⟩,wf0⟩ (λb o e hb=>?_);obtain⟨x,y⟩:=M17.k b o e hb;exact⟨x,by rw[cC hb];exact y⟩
abbrev pT:Stmt:=inClass (top 24) 27
abbrev m7:Da Str:=["self","amounts"]
abbrev Gx:Da Str:=m7.append ["lost","sums","name","amount","part","many"]
def fU:aJ Gx m7 (ay pT):=dh
theorem Eo{T:TC}(F:jF K T.hold "given_up" "Hold.given_up" pT f fd)(X:Txt K T)(fE:mg "sum"=none)(jr:mg "zip"=none):Mn P w K mg base 1 T.hold "given_up" m7 (Ro T):=by
 refine F.oA fU λ_ _ _ _ H _ Q E hr h=>?_;obtain⟨⟨n,ρ,A,st,d,rs,rfl,h,wf,hd,cd,hle,Ad,q⟩⟩:=h;refine⟨_,(@cS.h _ _ _ (aj (aX (i:=2) fU.nd (aF (JC rfl) (by rfl) fE ue (af (Ii (qv 1)) ai)))
  (aj (mz (i:=3) ["common","lost"] [none,some 2] fU.nd rfl rfl rfl (cY K (aT K (qv 0))) (λ_ _ _ _=>(aL (i:=0) (show List.Nodup (["common","lost"] :Da Str)from by decide +kernel))) (λ_ _ _ _=>(aH kU (qv 1) (qv 0))) rfl (by rfl) (by rfl))
  (aj (yN (dP fC rfl (D9 (qv 1)) (i7 K (n:=2) rfl (cM (aL (i:=4) fU.nd) (cM (aL (i:=5) fU.nd) i6))) (aj (aX (i:=6) fU.nd (bF (bN hr) (aT K (qv 0)) (qv 4)))
  (aj (aX (i:=7) fU.nd (aH kU (qv 5) (aT K (qv 6))))
  (aq (mz (i:=3) ["old","own","many"] [none,none,some 7] fU.nd rfl rfl rfl (sf K (by rfl) jr (af (qv 3) (af (aT K (qv 6)) ai))) (λ_ _ _ _=>(i7 K (n:=2) rfl (cM (aL (i:=0) (show List.Nodup (["old","own","many"] :Da Str)from by decide +kernel)) (cM (aL (i:=1) (show List.Nodup (["old","own","many"] :Da Str)from by decide +kernel)) i6)))) (λ_ _ _ _=>(aH cW (qv 0) (aH kU (qv 2) (qv 1)))) rfl (by rfl) (by rfl)))))))
  (aq (aM (qv 3))))))),?_⟩
 have hcl:st.bU.length<=100:=by rw[wf.jg];exact wf.qH
 have zl:Jm.Sz 1100 (bJ rs):=by have:=Jm.U_ (n:=60) (ws:=rs.map (·.2)) (λm hm=>by obtain⟨r,hr,rfl⟩:=bD.mp hm;exact(Ad r hr).1);exact this.mono (by rw[aD];omega)
 have zc:∀c∈st.bU,Jm.Sz 8000 c:=λc hc=>Jm.Sz.oG (by have:=wf.uw c hc;have:=wf.iZ;omega) (wf.uw c hc).2 wf.big;refine⟨_,Z,d,_,Z,.inl hd,λv hv=>⟨v,d,_,rs.map (·.2),Z,ak,.inl (by rw[av (aI hd hv)];exact hd),by unfold iG;rw[f_,f_];rfl,?_⟩⟩;have g1:=aA hv (mU v d);have hd1:=g1 _ _ hd;have h1:=h.mono g1;generalize upd H v (mU v d)=H1 at *;refine⟨_,Z,A.a,T.hold,A.dx,_,_,Z,h1.oa,X.cH,X.Dl,Z,A.cm,Z,⟨_,az.of h1.kK⟩,λl0 iD=>?_⟩;refine gf (J:=tU K A.cm) (n:=(st.bU.map V.int).length) 0 (λi o H'=>aE H1 H'/\o=((st.bU.take i).map λc=>bJ rs*c).map V.int) (by rw[aD];omega) ⟨aA iD _,Z⟩ (λi o H' hi _ hp=>⟨_,_,az.of (hp.1 _ _ h1.kK),aY hi⟩) (λo H' _ hp=>⟨_,az.of (hp.1 _ _ h1.kK),aN _⟩) ?_ ?_
 .rintro i y o H2 H3 hi dY ha ⟨g,e⟩ ⟨rfl,hy⟩;obtain⟨c,rfl,ec⟩:=gH (hy _ (az.of (g _ _ h1.kK)));refine⟨_,Z,_,Z,_,_,Z,Z,jR zl (zc c (bK ec)),ha,g.bQ iD _,?_⟩;subst e;rw[take_snoc ec,bw,bw];rfl
 rintro o H2 dY ha ⟨g2,e⟩;rw[aD,bV]at e;subst e;have WC:=g1.trans g2;have hd2:=g2 _ _ hd1;have h2:=h1.mono g2;have hn0:H l0=none:=g1.free iD;refine⟨d,_,hd2,λob=>⟨_,Z,d,ob,_,Z,ak,?_⟩⟩;have al:=z6 rs;refine vL (n:=(iG rs).length) (λi σ H'=>aE (upd H2 d (.fY ob (.dK (iG rs)))) H'/\∃l s4 s5 s6 s7,σ=[some (.ref A.a),some (.ref d),some (.int (bJ rs)),some (.ref l),s4,s5,s6,s7]/\H l=none/\H' l=some (.lst (((rs.take i).foldl (kH st) (st.bU.map λc=>bJ rs*c)).map V.int))/\((rs.take i).foldl (kH st) (st.bU.map λc=>bJ rs*c)).length=st.bU.length)
  ⟨aE.refl _,l0,_,_,_,_,Z,hn0,fQ hd2 ha (λk z=>by cases z),by rw[List.take_zero,List.foldl_nil,aD]⟩ (λi σ H' hi hp=>⟨hp.1 _ _ ak,hi⟩) (λσ H' hp=>⟨hp.1 _ _ ak,aN _⟩) ?_ ?_
 .rintro i x σ H3 H4 hi ⟨g,l,s4,s5,s6,s7,rfl,Fi,hl,hsl⟩ ⟨pp,kv,hpp,hkv,rfl,rfl⟩;unfold iG at hkv;rw[bH]at hkv;obtain⟨r,er,rfl⟩:=mH.mp hkv;have hrm:=bK er;obtain⟨zr,p,ja,N3⟩:=Ad r hrm;obtain⟨ip,DH,eip⟩:=uf ja;have ep:st.ah[ip]?=some p:=by rw[aY DH,eip]
  have epg:dN st r.1=p:=by rw[<-N3];exact Rn wf.lN ep
  have g4:=aA hpp (.tup [.str r.1,.int r.2]);have gg:=g.trans g4;have h2z:∀{b:Addr}{u:HO},H2 b=some u->(∀k,u ≠ .dK k)->upd H3 pp (.tup [.str r.1,.int r.2]) b=some u:=λe k=>gg _ _ (fQ hd2 e k);have nab:A.ab≠d:=(Dk cd h.g_).symm;obtain⟨qq,eq,k1,k2,_,_⟩:=h2.find ep;have hab:upd H3 pp (.tup [.str r.1,.int r.2]) A.ab=some (.dK (c7 st.ah A.qs)):=gg _ _ (by rw[av nab];exact h2.fB);have hv:=vo wf.lN ep eq;have hq1:=h2z k1 (λk z=>by cases z);have hq2:=h2z k2 (λk z=>by cases z);have N4:upd H3 pp (.tup [.str r.1,.int r.2]) pp=some (.tup [.str r.1,.int r.2]):=ak;have J_:=g4 _ _ hl;have hno:∀{b:Addr},upd H3 pp (.tup [.str r.1,.int r.2]) b=none->H b=none:=λ{b} e=>by have e1:=pL hd2 (gg.free e);exact WC.free e1
  have WD:upd H3 pp (.tup [.str r.1,.int r.2]) A.a=some (.ins T.hold A.dx (kG A)):=h2z h2.oa (λk z=>by cases z);show DM K 2 _ _ _ (upd H3 pp (.tup [.str r.1,.int r.2])) _;generalize upd H3 pp (.tup [.str r.1,.int r.2])=H4 at *;refine⟨pp,_,Z,cV.of N4,Z,_,_,Z,_,_,Z,Z,?_⟩;refine⟨_,Z,A.a,T.hold,A.dx,_,_,Z,WD,X.cH,X.hab,Z,_,Z,A.ab,_,Z,by rw[<-N3];exact hv▸cE.k (k:=Sum.inr p.nm) hab,?_⟩;have zs:Jm.Sz 8000 p.sc:=Jm.Sz.oG (by have:=wf.yE p ja;have:=wf.iZ;omega) (wf.yE p ja).2 wf.big;refine⟨_,Z,_,Z,qq.1,T.part,qq.2.1,_,_,Z,hq1,X.cP,X.Vv,Z,_,_,Z,Z,jR zr zs,?_⟩;have erl:p.row.length=st.bU.length:=by rw[wf.rows p ja,wf.jg]
  generalize eS:(rs.take i).foldl (kH st) (st.bU.map λc=>bJ rs*c)=S at *;refine⟨_,Z,_,Z,qq.1,T.part,qq.2.1,_,_,Z,hq1,X.cP,X.ZF,Z,_,_,_,_,_,_,Z,.lst (az.of J_),.lst (az.of hq2),λBM Bn=>?_⟩;refine yz (K:=K) (n:=S.length) [0,1] (λj out H5=>aE H4 H5/\out=(List.zipWith (λold own=>old+(r.2*p.sc)*own) (S.take j) (p.row.take j)).map V.int) (by decide) (by omega) ⟨aA Bn _,Z⟩ (λj out H5 hj _ hp=>⟨az.of (hp.1 _ _ J_),az.of (hp.1 _ _ hq2),by rw[aD];exact hj,by rw[aD];omega⟩)
   (λout H5 _ hp=>⟨az.of (hp.1 _ _ J_),az.of (hp.1 _ _ hq2),.inl (by rw[aD];exact aN _)⟩) ?_ ?_
  .rintro j x out H5 H6 hj ID ha2 ⟨g5,e5⟩ ⟨p2,x1,y1,hp2,rfl,rfl,e1,e2⟩;obtain⟨t,rfl,et⟩:=gH e1;obtain⟨c,rfl,ec⟩:=gH e2;have g6:=aA hp2 (.tup [.int t,.int c]);have zw:Jm.Sz 8000 c:=Jm.Sz.oG (wf.vP p ja c (bK ec)).1 (wf.vP p ja c (bK ec)).2 wf.big;refine⟨p2,_,Z,cV.of ak,Z,_,Z,_,Z,_,Z,_,_,Z,Z,jR (zr.mul zs) zw,_,_,Z,Z,g6 _ _ ha2,(g5.trans g6).bQ Bn _,?_⟩;rw[nu _ et ec,e5,bw];rfl
  rintro out H5 ID ha2 ⟨g5,e5⟩;rw[bV,hsl,<-erl,bV]at e5;have eN:(rs.take (i+1)).foldl (kH st) (st.bU.map λc=>bJ rs*c)=List.zipWith (λold own=>old+(r.2*p.sc)*own) S p.row:=by rw[take_snoc er,EJ,eS];show kH st S r=_;unfold kH;rw[epg]
  refine⟨gg.trans g5,BM,_,_,_,_,Z,hno Bn,?_,?_⟩
  .rw [eN,ha2,e5]
  .rw [eN,pI];omega
 rintro σ H3 ⟨g,l,s4,s5,s6,s7,rfl,Fi,hl,hsl⟩;rw[al,bV]at hl;refine⟨g _ _ ak,_,Z,?_⟩;have nl:l≠d:=λe=>by rw[e,hd]at Fi;cases Fi
 exact q l _ (WC.trans (vR hd2 g)) Fi (by rw[av nl];exact hl)
abbrev sM:Stmt:=inClass (top 24) 23
abbrev pA:Da Str:=["self","name","amount"]
abbrev Kz:Da Str:=pA.append ["part"]
def yS:aJ Kz pA (ay sM):=dh
theorem IE{T:TC}(F:jF K T.hold "lessen" "Hold.lessen" sM f fd)(X:Txt K T):Mn P w K mg base 1 T.hold "lessen" pA (VF T):=by
 refine F.oA yS λ_ _ _ _ H _ Q E hr h=>?_;obtain⟨⟨n,ρ,A,st,r,rfl,hh,⟨p,ja,N3,hle⟩,wf',q⟩⟩:=h;have h:=hh.h;have nd:=hh.wf.lN;refine⟨_,(@cS.h _ _ _ (aj (aX (i:=3) yS.nd (bF (bN hr) (aT K (qv 0)) (qv 1)))
  (aj (F0 K (qv 3) (qv 2) acn)
  (aq (jj (aP gQ (aT K (qv 3)) ao (aZ _)) (aq (RC (aT K (qv 0)) (qv 1))) aQ))))),?_⟩
 obtain⟨ip,DH,eip⟩:=uf ja;have ep:st.ah[ip]?=some p:=by rw[aY DH,eip]
 obtain⟨qq,eq,k1,k2,k3,k4⟩:=h.find ep;have hv:=vo nd ep eq;refine⟨_,Z,A.a,T.hold,A.dx,_,_,Z,h.oa,X.cH,X.hab,Z,_,Z,A.ab,_,Z,by rw[<-N3];exact hv▸cE.k (k:=Sum.inr p.nm) h.fB,?_⟩;refine⟨_,Z,qq.1,T.part,qq.2.1,_,_,Z,k1,X.cP,X.Fz,Z,_,Z,_,_,Z,Z,qq.2.1,_,k1,by show 6<1000;decide,?_⟩;have h1:=h.yD (p1:={ p with wo:=p.wo-r.2 }) hh.g ep eq rfl rfl nd;have g1:=hh.g.wr (a:=qq.1) (o:=.ins T.part qq.2.1 (nh { p with wo:=p.wo-r.2 } qq.2.2)) rfl;have F1:Fr n ρ H ρ (upd H qq.1 (.ins T.part qq.2.1 (nh { p with wo:=p.wo-r.2 } qq.2.2))):=Fr.write k3;show acV _ _ _ _ _ (upd H qq.1 (.ins T.part qq.2.1 (nh { p with wo:=p.wo-r.2 } qq.2.2)));have RM:upd H qq.1 (.ins T.part qq.2.1 (nh { p with wo:=p.wo-r.2 } qq.2.2)) qq.1=some (.ins T.part qq.2.1 (nh { p with wo:=p.wo-r.2 } qq.2.2)):=ak;generalize upd H qq.1 (.ins T.part qq.2.1 (nh { p with wo:=p.wo-r.2 } qq.2.2))=H1 at *;have el:gR st r={ st with ah:=if p.wo-r.2=0 then st.ah.eraseIdx ip else st.ah.set ip { p with wo:=p.wo-r.2 } }:=by unfold gR;rw[<-N3,MU nd (λx hx=>by have:=hh.wf.uX x hx;omega) ep]
 rw[el]at wf' q;refine⟨λσ' H'=>Q .cu H',?_,λ_ _ z=>z⟩;refine⟨_,Z,qq.1,T.part,qq.2.1,_,_,Z,RM,X.cP,X.Fz,Z,Z,_,Z,dg (λc=>?_) (λc=>?_)⟩
 .have c':p.wo-r.2=0:=V.int.inj (dH c);rw[aC c']at wf' q;have nd1:((st.ah.set ip { p with wo:=p.wo-r.2 }).map (λx:Pt=>x.nm)).Nodup:=by rw[u7,show({ p with wo:=p.wo-r.2 }:Pt).nm=p.nm from rfl,xD (by rw[bH,ep];rfl)];exact nd
  have ep1:(st.ah.set ip { p with wo:=p.wo-r.2 })[ip]?=some { p with wo:=p.wo-r.2 }:=uc DH;have dk:=DW nd1 h1.ql ep1;rw[List.eraseIdx_set_eq]at dk;have hv1:=vo nd1 ep1 eq;refine⟨_,Z,A.a,T.hold,A.dx,_,_,Z,h1.oa,X.cH,X.hab,Z,_,Z,A.ab,_,Sum.inr r.1,Z,h1.fB,Z,?_,?_⟩
  .rw [<-N3];show(eV (c7 (st.ah.set ip { p with wo:=p.wo-r.2 }) A.qs) (Sum.inr p.nm)).isSome=true;rw[show eV (c7 (st.ah.set ip { p with wo:=p.wo-r.2 }) A.qs) (Sum.inr p.nm)=_ from hv1];rfl
  .show Q .cu (upd H1 A.ab (.dK (nP (c7 (st.ah.set ip { p with wo:=p.wo-r.2 }) A.qs) (Sum.inr r.1))));rw[<-N3,show nP (c7 (st.ah.set ip { p with wo:=p.wo-r.2 }) A.qs) (Sum.inr p.nm)=_ from dk];have hi2:ip<A.qs.length:=by rw[h.ql];exact DH
   have h2:=h1.MF g1 (st.ah.eraseIdx ip) (A.qs.eraseIdx ip) (by rw[R6 DH,R6 hi2,h.ql]) (λj x y ex ey=>by rw[<-List.eraseIdx_set_eq (l:=st.ah) (i:=ip) (a:={ p with wo:=p.wo-r.2 })]at ex;obtain⟨k,a1,a2⟩:=Bl ex ey;exact h1.opt k x y a1 a2)
   exact q ρ _ _ ⟨g1.wr rfl,h2,wf'⟩ rfl (F1.trans (Fr.write h1.g_))
 .have c':¬ p.wo-r.2=0:=λe=>c (cy (by rw[e]));rw[aB c']at wf' q;exact q ρ A H1 ⟨g1,h1,wf'⟩ rfl F1
abbrev uD:Stmt:=inClass (top 24) 28
abbrev nE:Da Str:=["self","kept","whole","added"]
abbrev N5:Da Str:=nE.append ["scales","common","shared","part","scale"]
def jS:aJ N5 nE (ay uD):=dh
theorem KA{T:TC}(F:jF K T.hold "blend" "Hold.blend" uD f fd)(X:Txt K T)(qU:Dn P w K mg base 2 "factor_of_all" mX (VD K))(uE:Mn P w K mg base 1 T.bot "grow" o_ (VE T))(jr:mg "zip"=none):Mn P w K mg base 3 T.hold "blend" nE (HZ T K):=by
 refine F.oA jS λ_ _ _ _ H _ Q E hr h=>?_;obtain⟨⟨n,ρ,A,st,kept,whole,la,added,rfl,hh,hla,hal,k0,w0,kz,wz,haz,hpz,hsl,wf',q⟩⟩:=h;refine⟨_,(@cS.h _ _ _ (aj (yN (mz (i:=4) ["part","kept"] [none,some 1] jS.nd rfl rfl rfl (CK (aT K (qv 0))) (λ_ _ _ _=>(aL (i:=0) (show List.Nodup (["part","kept"] :Da Str)from by decide +kernel))) (λ_ _ _ _=>(aH kU (aT K (qv 0)) (qv 1))) rfl (by rfl) (by rfl)))
  (aj (mz (i:=5) ["top","more","kept"] [none,none,some 1] jS.nd rfl rfl rfl (sf K (by rfl) jr (af (aT K (qv 0)) (af (qv 3) ai))) (λ_ _ _ _=>(i7 K (n:=2) rfl (cM (aL (i:=0) (show List.Nodup (["top","more","kept"] :Da Str)from by decide +kernel)) (cM (aL (i:=1) (show List.Nodup (["top","more","kept"] :Da Str)from by decide +kernel)) i6)))) (λ_ _ _ _=>(aH cW (aH kU (qv 0) (qv 2)) (qv 1))) rfl (by rfl) (by rfl))
  (aj (aX (i:=6) jS.nd (bh qU hr (af (qv 2) (af (aH qC (qv 4) (qv 5)) ai))))
  (aj (yN (dP fC rfl (sf K (by rfl) jr (af (Ii (aT K (qv 0))) (af (qv 4) ai))) (i7 K (n:=2) rfl (cM (aL (i:=7) jS.nd) (cM (aL (i:=8) jS.nd) i6))) (aq (fF K (qv 7) (aH iF (qv 8) (qv 6))))))
  (aj (fF K (qv 0) (fJ ["top","shared"] [none,some 6] rfl (cY K (qv 5)) (λ_ _ _ _=>(aL (i:=0) (show List.Nodup (["top","shared"] :Da Str)from by decide +kernel))) (λ_ _ _ _=>(aH iF (qv 0) (qv 1))) rfl (by rfl)))
  (aj (fF K (qv 0) (fJ ["purse","whole","shared"] [none,some 2,some 6] rfl (cY K (aT K (qv 0))) (λ_ _ _ _=>(aL (i:=0) (show List.Nodup (["purse","whole","shared"] :Da Str)from by decide +kernel))) (λ_ _ _ _=>(aH kU (qv 0) (aH iF (qv 1) (qv 2)))) rfl (by rfl)))
  (aq (cg (gu uE hr (aT K (qv 0)) (af (aH iF (qv 2) (qv 6)) ai))))))))))),?_⟩
 have hpl:=hh.wf.vO;have nd:=hh.wf.lN;have hcl:st.bU.length<=100:=by rw[hh.wf.jg];exact hh.wf.qH
 have zsc:∀p∈st.ah,Jm.Sz 8000 p.sc:=λp hp=>Jm.Sz.oG (by have:=hh.wf.yE p hp;have:=hh.wf.iZ;omega) (hh.wf.yE p hp).2 hh.wf.big;have zcm:∀c∈st.bU,Jm.Sz 8000 c:=λc hc=>Jm.Sz.oG (by have:=hh.wf.uw c hc;have:=hh.wf.iZ;omega) (hh.wf.uw c hc).2 hh.wf.big;have h:=hh.h;refine⟨A.ab,_,h.fB,λob=>?_⟩;refine⟨_,Z,A.a,T.hold,A.dx,_,_,Z,fQ h.fB h.oa (λk z=>by cases z),X.cH,X.hab,Z,A.ab,ob,_,Z,ak,λl1 hl1=>?_⟩;have el:=yG h.ql;refine gf (n:=st.ah.length) 0 (λi out H1=>aE (upd H A.ab (.fY ob (.dK (c7 st.ah A.qs)))) H1/\out=((st.ah.take i).map λp:Pt=>p.sc*kept).map V.int) (by omega) ⟨aA hl1 _,Z⟩ (λi out H1 hi _ hp=>⟨hp.1 _ _ ak,by rw[el];exact hi⟩) (λout H1 _ hp=>⟨hp.1 _ _ ak,by rw[el];exact aN _⟩) ?_ ?_
 .rintro i x out H1 H2 hi dY ha ⟨g,e⟩ ⟨rfl,kv,hkv,rfl⟩;have ep:=aY hi;obtain⟨qq,eq,k1,k2,_⟩:=h.find ep;rw[yF ep eq]at hkv;cases hkv;have hq:=g _ _ (fQ h.fB k1 (λk z=>by cases z));refine⟨_,Z,qq.1,T.part,qq.2.1,_,_,Z,hq,X.cP,X.Vv,Z,_,Z,_,_,Z,Z,jR (zsc _ (uZ hi)) kz,ha,g.bQ hl1 _,?_⟩;subst e;rw[take_snoc ep,bw,bw];rfl
 rintro o1 H1 amL ha1 ⟨g1,e1⟩;rw[bV]at e1;have hz1:=g1 _ _ (ak (H:=H) (a:=A.ab) (o:=.fY ob (.dK (c7 st.ah A.qs))));have na1:l1≠A.ab:=λe=>by rw[e,hz1]at ha1;cases ha1
 refine⟨hz1,?_⟩;have s2:aE H (upd H1 A.ab (.dK (c7 st.ah A.qs))):=vR h.fB g1;have amM:H l1=none:=pL h.fB hl1;have ha2:upd H1 A.ab (.dK (c7 st.ah A.qs)) l1=some (.lst ((jx st kept).map V.int)):=by rw[av na1,ha1,e1];rfl
 generalize upd H1 A.ab (.dK (c7 st.ah A.qs))=H2 at *;clear g1 hz1 ha1 e1;have h2:=h.mono s2;have TQ:=s2.seq hla;refine⟨_,Z,A.a,T.hold,A.dx,_,_,Z,h2.oa,X.cH,X.Dl,Z,_,Z,_,_,_,_,_,_,Z,.lst (az.of h2.kK),.lst TQ,λl2 hl2=>?_⟩;refine yz (K:=K) (n:=st.bU.length) [0,1] (λi out H3=>aE H2 H3/\out=(List.zipWith (λt m=>t*kept+m) (st.bU.take i) (added.take i)).map V.int) (by decide) (by omega) ⟨aA hl2 _,Z⟩ (λi out H3 hi _ hp=>⟨az.of (hp.1 _ _ h2.kK),hp.1.seq TQ,by rw[aD];exact hi,by rw[aD];omega⟩)
  (λout H3 _ hp=>⟨az.of (hp.1 _ _ h2.kK),hp.1.seq TQ,.inl (by rw[aD];exact aN _)⟩) ?_ ?_
 .rintro i x out H3 H4 hi dY ha ⟨g,e⟩ ⟨p,x1,y1,hp,rfl,rfl,e1,e2⟩;obtain⟨t,rfl,et⟩:=gH e1;obtain⟨c,rfl,ec⟩:=gH e2;have g1:=aA hp (.tup [.int t,.int c]);refine⟨p,_,Z,cV.of ak,Z,_,Z,_,Z,_,_,Z,Z,jR (zcm t (bK et)) kz,_,Z,_,_,Z,Z,g1 _ _ ha,(g.trans g1).bQ hl2 _,?_⟩;rw[nu _ et ec,e,bw];rfl
 rintro o2 H3 ID WE ⟨g3,e3⟩;rw[bV,<-hal,bV]at e3;have ec3:o2=(gF st kept added).map V.int:=e3;subst ec3;have s3:=s2.trans g3;have h3:=h.mono s3;have Y8:=g3 _ _ ha2;have amN:H l2=none:=s2.free hl2;have n12:l1≠l2:=λe=>by rw[e,hl2]at ha2;cases ha2
 clear e3 h2 TQ g3 ha2 s2;have lsc:(jx st kept).length=st.ah.length:=by unfold jx;rw[aD]
 have lcm:(gF st kept added).length=st.bU.length:=by unfold gF;rw[pI,hal,Cm]
 refine⟨_,Z,_,Z,_,Z,l1,l2,_,_,Z,Z,Y8,WE,by rw[aD,aD,lsc,lcm];exact fZ (Nat.add_le_add hpl hcl) (by rw[gy];decide),λp3 hp3=>?_⟩;rw[<-bw];have g4:=aA hp3 (.lst ((jx st kept++gF st kept added).map V.int));refine⟨⟨whole,p3,_,Z,az.of ak,by omega,?_,?_⟩⟩
 .intro t ht;rcases fk.mp ht with z|z
  .unfold jx at z;obtain⟨p,hp,rfl⟩:=bD.mp z;exact mR (by have:=hh.wf.yE p hp;omega) (by omega)
  .obtain ⟨c,hc,m,hm,rfl⟩:=zW (show t∈List.zipWith _ st.bU added from z);have a1:=mR (hh.wf.uw c hc).1 (by omega:0<=kept);have a2:=(haz m hm).1;omega
 have s4:=s3.trans g4;have h4:=h.mono s4;have G4:=hh.g.same s4;have F4:Fr n ρ H ρ (upd H3 p3 (.lst ((jx st kept++gF st kept added).map V.int))):=Fr.of_same s4;have b1:=g4 _ _ Y8;have b2:=g4 _ _ WE;generalize upd H3 p3 (.lst ((jx st kept++gF st kept added).map V.int))=H4 at *;clear Y8 WE s3 h3 g4;obtain⟨sd,ZV⟩:∃sd,sd=cZ st kept whole added:=⟨_,rfl⟩
 rw[show qK whole (jx st kept++gF st kept added)=sd from ZV.symm];have sp:0<sd:=by rw[ZV];exact Bo _ _ w0
 have VZ:sd∣whole:=by rw[ZV];exact(Bm _ _).1
 have sz:Jm.Sz 60 sd:=wz.dvd w0 (by omega) VZ;have wq:0<whole / sd:=Int.ediv_pos_of_pos_of_dvd w0 (by omega) VZ;have wqz:Jm.Sz 60 (whole / sd):=wz.ediv sp;have ZW:∀{i:Int},Cw i sd:=λ{i}=>vI sp (sz.mono (by decide));refine⟨A.ab,_,h4.fB,λNK=>?_⟩;refine⟨_,Z,A.a,T.hold,A.dx,_,_,Z,fQ h4.fB h4.oa (λk z=>by cases z),X.cH,X.hab,Z,A.ab,_,Z,.inr ⟨NK,ak⟩,λv hv=>?_⟩;have nva:v≠A.ab:=λe=>by rw[e,ak]at hv;cases hv
 have ZX:H4 v=none:=pL h4.fB hv;have g5:=aA ZX (mU v A.ab);have hv5:upd H4 v (mU v A.ab) v=some (mU v A.ab):=ak;rw[lO (cD nva)];have h5:=h4.mono g5;have G5:=G4.same g5;have F5:=F4.trans (Fr.of_same (ρ:=ρ) g5);have s5:=s4.trans g5;have c1:=g5 _ _ b1;have c2:=g5 _ _ b2;generalize upd H4 v (mU v A.ab)=H5 at *;clear h4 G4 F4 s4 b1 b2 g5;refine⟨_,Z,_,_,_,_,_,_,Z,.vals (fQ h5.fB hv5 (λk z=>by cases z)) ak,.lst (az.of (fQ h5.fB c1 (λk z=>by cases z))),?_⟩;have exl:((c7 st.ah A.qs).map λp=>p.2).length=st.ah.length:=by rw[aD];exact el
 have eyl:((jx st kept).map V.int).length=st.ah.length:=by rw[aD];exact lsc
 refine vL (n:=st.ah.length) (IvL T n ρ A H st kept whole sd added la l1 l2 NK)
  ⟨⟨_,_,Z⟩,H5,Z,G5,F5,h5,c1,c2,λb e=>s5.free e⟩ ?_ ?_ ?_ ?_
 .rintro i σ H' hi ⟨_,H6,rfl,G6,F6,h6,d1,d2,fr⟩;have e6:c7 ({ st with ah:=(st.ah.take i).map (λp:Pt=>{ p with sc:=p.sc*kept / sd })++st.ah.drop i }:HS).ah A.qs=c7 st.ah A.qs:=qf (rX (λp:Pt=>{ p with sc:=p.sc*kept / sd }) (λp:Pt=>p.nm) (λ_=>rfl) st.ah i);have sN:=h6.fB;rw[e6]at sN;exact⟨ak,az.of (fQ sN d1 (λk z=>by cases z)),by rw[exl];exact hi,by rw[eyl];exact hi⟩
 .rintro σ H' ⟨_,H6,rfl,G6,F6,h6,d1,d2,fr⟩;have e6:c7 ({ st with ah:=(st.ah.take st.ah.length).map (λp:Pt=>{ p with sc:=p.sc*kept / sd })++st.ah.drop st.ah.length }:HS).ah A.qs=c7 st.ah A.qs:=qf (rX (λp:Pt=>{ p with sc:=p.sc*kept / sd }) (λp:Pt=>p.nm) (λ_=>rfl) st.ah _);have sN:=h6.fB;rw[e6]at sN;exact⟨ak,az.of (fQ sN d1 (λk z=>by cases z)),.inl (by rw[exl];exact aN _)⟩
 .rintro i x σ H' vS hi ⟨⟨s7,s8,rfl⟩,H6,rfl,G6,F6,h6,d1,d2,fr⟩ ⟨pp,x1,y1,hpp,rfl,rfl,ex,ey⟩;have ep:=aY hi;have ep6:=MP (λp:Pt=>{ p with sc:=p.sc*kept / sd }) ep;obtain⟨qq,eq,k1,k2,k3,k4⟩:=h6.find ep6;have nm6:=rX (λp:Pt=>{ p with sc:=p.sc*kept / sd }) (λp:Pt=>p.nm) (λ_=>rfl) st.ah i;have e6:c7 ({ st with ah:=(st.ah.take i).map (λp:Pt=>{ p with sc:=p.sc*kept / sd })++st.ah.drop i }:HS).ah A.qs=c7 st.ah A.qs:=qf nm6;have sN:=h6.fB;rw[e6]at sN;rw[bH,yF ep eq]at ex;cases ex;obtain⟨sc,rfl,esc⟩:=gH ey;have aju:sc=(st.ah[i]).sc*kept:=by unfold jx at esc;rw[bH,ep]at esc;exact(gZ esc).symm
  subst aju;have npa:pp≠A.ab:=λe=>by rw[e,ak]at hpp;cases hpp
  have ajv:H6 pp=none:=pL sN hpp;have g7:=aA ajv (.tup [.ref qq.1,.int ((st.ah[i]).sc*kept)]);rw[lO (cD npa)];have N4:upd H6 pp (.tup [.ref qq.1,.int ((st.ah[i]).sc*kept)]) pp=some (.tup [.ref qq.1,.int ((st.ah[i]).sc*kept)]):=ak;have h7:=h6.mono g7;have G7:=G6.same g7;have F7:=F6.trans (Fr.of_same (ρ:=ρ) g7);have Y9:=g7 _ _ sN;have f1:=g7 _ _ d1;have f2:=g7 _ _ d2;have Vc:∀b,upd H6 pp (.tup [.ref qq.1,.int ((st.ah[i]).sc*kept)]) b=none->H b=none:=λb e=>fr b (g7.free e);have RM:=g7 _ _ k1;generalize upd H6 pp (.tup [.ref qq.1,.int ((st.ah[i]).sc*kept)])=H7 at *;refine⟨pp,_,Z,cV.of (fQ Y9 N4 (λk z=>by cases z)),Z,_,_,Z,_,_,Z,Z,?_⟩;refine⟨_,Z,_,Z,_,_,Z,Z,ZW,_,Z,qq.1,T.part,qq.2.1,_,Z,fQ Y9 RM (λk z=>by cases z),X.cP,X.Vv,by show 6<1000;decide,?_⟩;have nd7:(((st.ah.take i).map (λp:Pt=>{ p with sc:=p.sc*kept / sd })++st.ah.drop i).map (λp:Pt=>p.nm)).Nodup:=by rw[nm6];exact nd
  have h8:=h7.yD (p1:={ st.ah[i]with sc:=(st.ah[i]).sc*kept / sd }) G7 ep6 eq rfl rfl nd7;rw[show({ st with ah:=(st.ah.take i).map (λp:Pt=>{ p with sc:=p.sc*kept / sd })++st.ah.drop i }:HS).ah.set i { st.ah[i]with sc:=(st.ah[i]).sc*kept / sd }=_ from MQ (λp:Pt=>{ p with sc:=p.sc*kept / sd }) ep]at h8;have nqa:A.ab≠qq.1:=(jL RM Y9 (by intro z;cases z)).symm;have nq1:l1≠qq.1:=jL f1 RM (by intro z;cases z);have nq2:l2≠qq.1:=jL f2 RM (by intro z;cases z);refine⟨⟨_,_,Z⟩,_,lO nqa,G7.wr rfl,F7.trans (Fr.write k3),h8,by rw[av nq1];exact f1,by rw[av nq2];exact f2,λb e=>Vc b ?_⟩;by_cases z:b=qq.1
  .rw [z,ak]at e;cases e
  .rw [av z]at e;exact e
 rintro σ H' ⟨⟨s7,s8,rfl⟩,H6,rfl,G6,F6,h6,d1,d2,fr⟩;have e6:c7 ({ st with ah:=(st.ah.take st.ah.length).map (λp:Pt=>{ p with sc:=p.sc*kept / sd })++st.ah.drop st.ah.length }:HS).ah A.qs=c7 st.ah A.qs:=qf (rX (λp:Pt=>{ p with sc:=p.sc*kept / sd }) (λp:Pt=>p.nm) (λ_=>rfl) st.ah _);have sN:=h6.fB;rw[e6]at sN;refine⟨ak,?_⟩;rw[rS,zY sN];rw[show({ st with ah:=(st.ah.take st.ah.length).map (λp:Pt=>{ p with sc:=p.sc*kept / sd })++st.ah.drop st.ah.length }:HS)={ st with ah:=st.ah.map λp:Pt=>{ p with sc:=p.sc*kept / sd } }from by rw[bV,EL,u0]]at h6;clear e6 sN h5 G5 F5 s5 c1 c2 hv5;refine⟨_,Z,l2,Z,⟨_,az.of d2⟩,λl3 hl3=>?_⟩;refine gf (J:=tU K l2) (n:=((gF st kept added).map V.int).length) 0 (λi o H'=>aE H6 H'/\o=(((gF st kept added).take i).map (· / sd)).map V.int) (by rw[aD];omega) ⟨aA hl3 _,Z⟩ (λi o H' hi _ hp=>⟨_,_,az.of (hp.1 _ _ d2),aY hi⟩) (λo H' _ hp=>⟨_,az.of (hp.1 _ _ d2),aN _⟩) ?_ ?_
 .rintro i y o Ha Hb hi dY ha ⟨g,e⟩ ⟨rfl,hy⟩;obtain⟨c,rfl,ec⟩:=gH (hy _ (az.of (g _ _ d2)));refine⟨_,Z,_,Z,_,_,Z,Z,ZW,ha,g.bQ hl3 _,?_⟩;subst e;rw[take_snoc ec,bw,bw];rfl
 rintro o3 H8 amO N6 ⟨g8,e8⟩;rw[aD,bV]at e8;subst e8;have h8:=h6.mono g8;have G8:=G6.same g8;have F8:=F6.trans (Fr.of_same (ρ:=ρ) g8);have fr8:∀b,H8 b=none->H b=none:=λb e=>fr b (g8.free e);have c3:ρ l3=none:=G6.none hl3;have n3:H l3=none:=fr l3 hl3;refine⟨_,Z,A.a,T.hold,A.dx,_,Z,h8.oa,X.cH,X.Dl,by show 7<1000;decide,?_⟩;obtain⟨h9,G9⟩:=Bp (t:=6) h8 G8 c3 N6 rfl;have F9:Fr n ρ H (b_ ρ l3 (n,6,⟨#[]⟩)) H8:=F8.nv n3;have Dy:=h9.ado G9 l3 _ N6 dz;have G10:=G9.wr (a:=A.a) (o:=.ins T.hold A.dx (kG { A with cm:=l3 })) rfl;have F10:=F9.trans (Fr.write (o:=.ins T.hold A.dx (kG { A with cm:=l3 })) h9.ca);show zL _ _ _ _ (upd H8 A.a (.ins T.hold A.dx (kG { A with cm:=l3 })));have ajw:∀b,upd H8 A.a (.ins T.hold A.dx (kG { A with cm:=l3 })) b=none->H b=none:=λb e=>fr8 b (by
  by_cases z:b=A.a
  .rw [z,ak]at e;cases e
  .rw [av z]at e;exact e)
 generalize upd H8 A.a (.ins T.hold A.dx (kG { A with cm:=l3 }))=Mt at *;clear h6 G6 F6 h8 G8 F8 h9 G9 F9 N6 g8 fr8 fr d1 d2;refine⟨_,Z,A.a,T.hold,A.dx,_,_,Z,Dy.oa,X.cH,X.Fy,Z,A.pu,Z,⟨_,az.of Dy.nZ⟩,λl4 J_=>?_⟩;have amP:st.cJ.length<=100:=by rw[hh.wf.vN];exact hh.wf.qH
 refine gf (J:=tU K A.pu) (n:=(st.cJ.map V.int).length) 0 (λi o H'=>aE Mt H'/\o=((st.cJ.take i).map (·*(whole / sd))).map V.int) (by rw[aD];omega) ⟨aA J_ _,Z⟩ (λi o H' hi _ hp=>⟨_,_,az.of (hp.1 _ _ Dy.nZ),aY hi⟩) (λo H' _ hp=>⟨_,az.of (hp.1 _ _ Dy.nZ),aN _⟩) ?_ ?_
 .rintro i y o Ha Hb hi dY ha ⟨g,e⟩ ⟨rfl,hy⟩;obtain⟨c,rfl,ec⟩:=gH (hy _ (az.of (g _ _ Dy.nZ)));refine⟨_,Z,_,Z,_,Z,_,_,Z,Z,ZW,_,_,Z,Z,jR (hpz c (bK ec)) wqz,ha,g.bQ J_ _,?_⟩;subst e;rw[take_snoc ec,bw,bw];rfl
 rintro o4 H11 amQ aeC ⟨g11,e11⟩;rw[aD,bV]at e11;subst e11;have h11:=Dy.mono g11;have G11:=G10.same g11;have F11:=F10.trans (Fr.of_same (ρ:=b_ ρ l3 (n,6,⟨#[]⟩)) g11);have c4:b_ ρ l3 (n,6,⟨#[]⟩) l4=none:=G10.none J_;have n4:H l4=none:=ajw l4 J_;refine⟨_,Z,A.a,T.hold,A.dx,_,Z,h11.oa,X.cH,X.Fy,by show 7<1000;decide,?_⟩;obtain⟨h12,G12⟩:=Bp (t:=7) h11 G11 c4 aeC rfl;have F12:Fr n ρ H (b_ (b_ ρ l3 (n,6,⟨#[]⟩)) l4 (n,7,⟨#[]⟩)) H11:=F11.nv n4;have RN:=h12.Vt G12 l4 _ aeC dz;have G13:=G12.wr (a:=A.a) (o:=.ins T.hold A.dx (kG { { A with cm:=l3 }with pu:=l4 })) rfl;have F13:=F12.trans (Fr.write (o:=.ins T.hold A.dx (kG { { A with cm:=l3 }with pu:=l4 })) h12.ca);rw[show iQ "purses" (V.ref l4) (kG { A with cm:=l3 })=kG { { A with cm:=l3 }with pu:=l4 }from rfl];generalize upd H11 A.a (.ins T.hold A.dx (kG { { A with cm:=l3 }with pu:=l4 }))=H13 at *;refine⟨_,Z,A.a,T.hold,A.dx,_,_,Z,RN.oa,X.cH,X.Bc,Z,A.bt,A.db,_,Z,RN.nj,Z,_,Z,_,Z,_,_,Z,Z,ZW,?_⟩;refine⟨⟨n,_,{ { A with cm:=l3 }with pu:=l4 },{ st with ah:=st.ah.map (λp:Pt=>{ p with sc:=p.sc*kept / sd }),bU:=(gF st kept added).map (· / sd),cJ:=st.cJ.map (·*(whole / sd)) },whole / sd,Z,G13,RN,by show st.stp.length<=1000;omega,hh.wf.big.mono (by decide),wqz.mono (by decide),λρ' A' H' a1 a2 a3 a4=>?_⟩⟩;have eb:cK st kept whole added=gi { st with ah:=st.ah.map (λp:Pt=>{ p with sc:=p.sc*kept / sd }),bU:=(gF st kept added).map (· / sd),cJ:=st.cJ.map (·*(whole / sd)) } (whole / sd):=by unfold cK;rw[ZV]
 rw[eb]at wf' q;exact q ρ' A' H' ⟨a1,a2,wf'⟩ a3 (F13.trans a4)
abbrev wG:Stmt:=inClass (top 24) 3
abbrev oS:Da Str:=["self","rows"]
abbrev Pw:Da Str:=oS.append ["amounts","name","amount","whole","lost"]
def iW:aJ Pw oS (ay wG):=dh
theorem KC{T:TC}{e:Ec}(F:jF K T.hold "cast" "Hold.cast" wG f fd)(X:Txt K T)(uF:Dx P w K mg base 1 "amounts_of" qQ (RJ K e))(uG:Dx P w K mg base 2 "check_loss" qP (Wb e))(ie:Mx P w K mg base 1 T.hold "part_of" jy (xJ T e))(ig:Mn P w K mg base 1 T.hold "whole" lB (CF T))(lE:Mn P w K mg base 3 T.hold "blend" nE (HZ T K))(qV:Mn P w K mg base 1 T.hold "given_up" m7 (Ro T))(uH:Mn P w K mg base 1 T.hold "lessen" pA (VF T))(fE:mg "sum"=none)(jn:jH K e.qN)(iz:mg "TooMuch"=some (.ref e.qN)):Mx P w K mg base 4 T.hold "cast" oS (Il T K e):=by
 refine F.DA iW λ_ _ _ _ H _ Q E hr h=>?_;obtain⟨⟨n,ρ,A,st,l,us,rs,rfl,hh,hl,hR,len,okI,dq⟩⟩:=h;have wf:=hh.wf;refine⟨_,(@cS.h _ _ _ (aj (aX (i:=2) iW.nd (F_ uF hr (af (qv 1) ai)))
  (aj (yN (dP PassesOwn.leaving rfl (D9 (qv 2)) (i7 K (n:=2) rfl (cM (aL (i:=3) iW.nd) (cM (aL (i:=4) iW.nd) i6))) (aq (cg (F_ uG hr (af (aT K (vv ie hr (qv 0) (af (qv 3) ai))) (af (qv 4) ai)))))))
  (aj (aX (i:=5) iW.nd (sj ig hr (qv 0)))
  (aj (aX (i:=6) iW.nd (aF (JC rfl) (by rfl) fE ue (af (Ii (qv 2)) ai)))
  (aj (bZ (aP Cr (qv 6) (qv 5) (aZ _)) (aq (ny jn (by rfl) iz)) aQ)
  (aj (cg (gu lE hr (qv 0) (af (aH tV (qv 5) (qv 6)) (af (qv 5) (af (gu qV hr (qv 0) (af (qv 2) ai)) ai)))))
  (aq (yN (dP PassesOwn.leaving rfl (D9 (qv 2)) (i7 K (n:=2) rfl (cM (aL (i:=3) iW.nd) (cM (aL (i:=4) iW.nd) i6))) (aq (cg (gu uH hr (qv 0) (af (qv 3) (af (qv 4) ai))))))))))))))),?_⟩
 refine⟨_,Z,⟨⟨l,us,rs,Z,hl,hR,len,λhb=>dq.no 7 (BJ hb),λne nd d H1 g1 hdn hd1=>?_⟩⟩⟩;have gj:=hh.mono g1;have F1:Fr n ρ H ρ H1:=Fr.of_same g1;have cd:ρ d=none:=hh.g.none hdn;have al:=z6 rs;refine⟨d,_,hd1,λob=>⟨_,Z,d,ob,_,Z,ak,?_⟩⟩;refine vL (n:=(iG rs).length) (λi σ H'=>aE (upd H1 d (.fY ob (.dK (iG rs)))) H'/\(∀r∈rs.take i,iT st r=none)/\∃s3 s4 s5 s6,σ=[some (.ref A.a),some (.ref l),some (.ref d),s3,s4,s5,s6])
  ⟨aE.refl _,(λr hr=>nomatch hr),_,_,_,_,Z⟩ (λi σ H' hi hp=>⟨hp.1 _ _ ak,hi⟩) (λσ H' hp=>⟨hp.1 _ _ ak,aN _⟩) ?_ ?_
 .rintro i x σ H3 H4 hi ⟨g,h0,s3,s4,s5,s6,rfl⟩ ⟨pp,kv,hpp,hkv,rfl,rfl⟩;unfold iG at hkv;rw[bH]at hkv;obtain⟨r,er,rfl⟩:=mH.mp hkv;have g4:=aA hpp (.tup [.str r.1,.int r.2]);have gg:=g.trans g4;have hf:HH T n ρ A (upd H1 d (.fY ob (.dK (iG rs)))) st:=gj.FE cd hd1 rfl rfl;have h4:=hf.mono gg;have N4:upd H3 pp (.tup [.str r.1,.int r.2]) pp=some (.tup [.str r.1,.int r.2]):=ak;show DM K 2 _ _ _ (upd H3 pp (.tup [.str r.1,.int r.2])) _;generalize upd H3 pp (.tup [.str r.1,.int r.2])=H4 at *;have gA:aE H H4:=(g1.bQ hdn _).trans gg;have no:∀k,iT st r=some k->Rf e E H4 k:=λk hk=>(dq.no k (J9 ne nd h0 er hk)).mono gA;refine⟨pp,_,Z,cV.of N4,Z,_,_,Z,_,_,Z,Z,?_⟩;refine⟨_,Z,A.a,A.dx,_,Z,h4.h.oa,Z,_,Z,⟨⟨n,ρ,A,st,r.1,Z,h4.h,wf.lN,λhn=>no 3 ?_,λip p qq e1 e2 e3=>?_⟩⟩⟩
  .unfold iT;rw[aB (λz=>?_)];obtain⟨j,p,h1,h2⟩:=Ga z;exact hn p (bK h1) h2
  obtain⟨k1,_⟩:=h4.h.opt ip p qq e2 e3;have hm:r.1∈jM st:=by rw[<-e1];exact ZS e2
  have ja:=bK e2;have ew:(dN st r.1).wo=p.wo:=by rw[jh wf ja e1]
  refine⟨qq.1,T.part,qq.2.1,_,_,Z,k1,X.cP,X.Fz,Z,_,Z,⟨⟨p.wo,r.2,Z,λh5=>no 5 ?_,λh1 h6=>no 6 ?_,λh1 h2=>?_⟩⟩⟩
  .unfold iT;rw[aC hm,aC h5]
  .unfold iT;rw[aC hm,aB (show ¬ r.2<1 by omega),ew,aC h6]
  have hN:iT st r=none:=by unfold iT;rw[aC hm,aB (show ¬ r.2<1 by omega),ew,aB (by omega)]
  refine⟨gg,λr' hr'=>?_,_,_,_,_,Z⟩;rw[take_snoc er]at hr';rcases fk.mp hr' with h|h
  .exact h0 _ h
  .rw [eE.mp h];exact hN
 rintro σ H2 ⟨g2,h0,s3,s4,s5,s6,rfl⟩;rw[al,bV]at h0;refine⟨g2 _ _ ak,?_⟩;have gB:=vR hd1 g2;have iV:=gj.mono gB;have F2:Fr n ρ H ρ (upd H2 d (.dK (iG rs))):=F1.trans (Fr.of_same gB);have hd2:upd H2 d (.dK (iG rs)) d=some (.dK (iG rs)):=ak;generalize upd H2 d (.dK (iG rs))=H2' at *;refine⟨_,Z,A.a,A.dx,_,Z,iV.h.oa,Z,⟨⟨n,ρ,A,st,Z,iV.h,wf.vO,λH3 g3=>?_⟩⟩⟩;have mY:=iV.mono g3;have RO:=g3 _ _ hd2;have F3:=F2.trans (Fr.of_same (ρ:=ρ) g3);refine⟨_,Z,d,_,Z,.inl RO,λv hv=>⟨v,d,_,rs.map (·.2),Z,ak,.inl (by rw[av (aI RO hv)];exact RO),by unfold iG;rw[f_,f_];rfl,?_⟩⟩;have g4:=aA hv (mU v d);have mZ:=mY.mono g4;have hd4:=g4 _ _ RO;have F4:=F3.trans (Fr.of_same (ρ:=ρ) g4);generalize upd H3 v (mU v d)=H4 at *;refine⟨_,Z,_,Z,_,_,Z,Z,_,Z,dg (λc=>λy=>(dq.no 6 (by rw[xN ne nd h0,aC (show aR st<=bJ rs from dH c)])) y H4 ?_) λc=>?_⟩
 .exact ((g1.trans gB).trans g3).trans g4
 have cN:jN st rs=none:=by rw[xN ne nd h0,aB (show ¬ aR st<=bJ rs from kF (gX.mpr c))]
 have ok:=okI cN;have q:=dq.ok cN;have bo:=ok.blend wf;refine⟨_,Z,A.a,A.dx,_,Z,mZ.h.oa,Z,_,Z,_,Z,_,_,Z,Z,_,Z,_,Z,A.a,A.dx,_,Z,mZ.h.oa,Z,_,Z,⟨⟨n,ρ,A,st,d,rs,Z,mZ.h,wf,hd4,cd,ok.len,λr hr=>⟨(ok.row r hr).2.1,by obtain⟨p,hp,e,_⟩:=(ok.row r hr).2.2;exact⟨p,hp,e⟩⟩,λl5 H5 g5 hn5 hl5=>?_⟩⟩⟩;have wD:=mZ.mono g5;have hd5:=g5 _ _ hd4;have F5:=F4.trans (Fr.of_same (ρ:=ρ) g5);have zk:Jm.Sz 60 (aR st-bJ rs):=bo.big.of_le (by have:=bo.k;have:=bo.l;omega);have zG:∀m∈gI st rs,0<=m/\Jm.Sz 8900 m:=λm hm=>by have h1:=bo.add m hm;have h2:=wf.iZ;have zl:Jm.Sz 60 (bJ rs):=bo.big.of_le (by have:=bo.k;have:=bo.l;omega);exact⟨h1.1,Jm.Sz.oG (by have:=mR bo.l (show 0<=st.prod by omega);omega) h1.2 ((zl.mul bo.prod).mono (by decide))⟩
 refine⟨⟨n,ρ,A,st,aR st-bJ rs,aR st,l5,gI st rs,Z,wD,az.of hl5,bo.len,bo.k,by have:=bo.k;have:=bo.l;omega,zk,bo.big,zG,ok.cJ,ok.stp,MV wf bo,λρ6 A6 H6 xP e6 f6=>?_⟩⟩;obtain⟨hd6,cd6⟩:=f6 d _ hd5 (λt x=>by rw[cd];intro z;cases z);rw[cd]at cd6;have F6:=F5.trans f6;refine⟨d,_,hd6,λNK=>⟨_,Z,d,NK,_,Z,ak,?_⟩⟩;generalize eB:cK st (aR st-bJ rs) (aR st) (gI st rs)=RP at *;have ajx:Due RP rs:=by rw[<-eB];exact VN ok.due
 have agw:j9 st rs=rs.foldl gR RP:=by unfold j9;rw[eB]
 refine vL (n:=(iG rs).length) (λi σ H'=>∃ρ' A',HH T n ρ' A' H' ((rs.take i).foldl gR RP)/\A'.a=A.a/\H' d=some (.fY NK (.dK (iG rs)))/\ρ' d=none/\Fr n ρ H ρ' H'/\Due ((rs.take i).foldl gR RP) (rs.drop i)/\∃s3 s4 s5 s6,σ=[some (.ref A.a),some (.ref l),some (.ref d),s3,s4,s5,s6])
  ⟨ρ6,A6,xP.FE cd6 hd6 rfl rfl,e6,ak,cd6,F6.new hdn,ajx,_,_,_,_,Z⟩ (λi σ H' hi hp=>by obtain⟨_,_,_,_,e,_⟩:=hp;exact⟨e,hi⟩) (λσ H' hp=>by obtain⟨_,_,_,_,e,_⟩:=hp;exact⟨e,aN _⟩) ?_ ?_
 .rintro i x σ H7 H8 hi ⟨ρ7,A7,yT,e7,ZY,ZZ,F7,due,s3,s4,s5,s6,rfl⟩ ⟨pp,kv,hpp,hkv,rfl,rfl⟩;unfold iG at hkv;rw[bH]at hkv;obtain⟨r,er,rfl⟩:=mH.mp hkv;have hir:i<rs.length:=by rw[<-al];exact hi
  have edr:rs.drop i=r::rs.drop (i+1):=by rw[LC hir];rw[aY hir]at er;rw[gZ er]
  rw[edr]at due;have g4:=aA hpp (.tup [.str r.1,.int r.2]);have Ka:=yT.mono g4;have hd8:=g4 _ _ ZY;have F8:=F7.trans (Fr.of_same (ρ:=ρ7) g4);have N4:upd H7 pp (.tup [.str r.1,.int r.2]) pp=some (.tup [.str r.1,.int r.2]):=ak;show DM K 2 _ _ _ (upd H7 pp (.tup [.str r.1,.int r.2])) _;generalize upd H7 pp (.tup [.str r.1,.int r.2])=H8 at *;refine⟨pp,_,Z,cV.of N4,Z,_,_,Z,_,_,Z,Z,?_⟩;have eN:(rs.take (i+1)).foldl gR RP=gR ((rs.take i).foldl gR RP) r:=by rw[take_snoc er,EJ];rfl
  have ndr:((r::rs.drop (i+1)).map (λr:Row=>r.1)).Nodup:=by rw[<-edr,List.map_drop];exact nd.sublist (List.drop_sublist _ _)
  refine⟨_,Z,A.a,A7.dx,_,Z,by rw[<-e7];exact Ka.h.oa,Z,_,Z,_,Z,⟨⟨n,ρ7,A7,_,r,by rw[e7];rfl,Ka,due r cQ,adG yT.wf due,λρ9 A9 H9 RQ e9 f9=>?_⟩⟩⟩;obtain⟨hd9,cd9⟩:=f9 d _ hd8 (λt x=>by rw[ZZ];intro z;cases z);rw[ZZ]at cd9;rw[<-eN]at RQ;exact⟨ρ9,A9,RQ,e9.trans e7,hd9,cd9,F8.trans f9,by rw[eN];exact Yp yT.wf due ndr,_,_,_,_,Z⟩
 rintro σ H7 ⟨ρ7,A7,yT,e7,ZY,ZZ,F7,due,s3,s4,s5,s6,rfl⟩;rw[al,bV,<-agw]at yT;exact⟨ZY,q ρ7 A7 _ (yT.FE ZZ ZY rfl rfl) e7 (F7.new hdn)⟩
abbrev sO:Stmt:=inClass (top 4) 2
abbrev pB:Da Str:=["self","top"]
abbrev KD:Da Str:=pB.append ["rest","step","shared"]
def jz:aJ KD pB (ay sO):=dh
theorem IF{T:TC}(F:jF K T.bot "over" "Bottom.over" sO f fd)(X:Txt K T)(i9:Dn P w K mg base 1 "common_factor" kj XX):Mn P w K mg base 2 T.bot "over" pB (Rj T):=by
 refine F.oA jz λ_ _ _ _ H _ Q E hr h=>?_;obtain⟨⟨bt,db,sp,kn,stp,prod,top,rfl,hb,hs,ep,h2,hz,q⟩⟩:=h;refine⟨_,(@cS.h _ _ _ (aj (aX (i:=2) jz.nd (aT K (qv 0)))
  (aj (dP fC rfl (cY K (aT K (qv 0))) (aL (i:=3) jz.nd) (aj (aX (i:=4) jz.nd (bh i9 hr (af (qv 3) (af (aH kT (qv 1) (qv 3)) ai))))
  (aq (jj (aP iX (qv 4) ao (aZ _)) (aj (aX (i:=1) jz.nd (aH iF (qv 1) (qv 4)))
  (aq (aX (i:=2) jz.nd (aH iF (qv 2) (qv 4))))) aQ))))
  (aq (aM (iU (af (qv 1) (af (qv 2) ai)))))))),?_⟩
 have p1:1<=prod:=by rw[ep];exact MS h2
 refine⟨_,Z,bt,T.bot,db,_,_,Z,hb,X.cB,X.Q_,Z,?_⟩;refine⟨_,Z,bt,T.bot,db,_,_,Z,hb,X.cB,X.bst,Z,sp,Z,⟨_,az.of hs⟩,?_⟩;refine jC (K:=K) (xs:=stp.map V.int) (λi σ H'=>H'=H/\∃(t r d:Int)(s3 s4:Option V),σ=[some (.ref bt),some (.int t),some (.int r),s3,s4]/\t*prod=top*r/\r=d*(stp.drop i).foldl (·*·) 1/\0<d/\Jm.cf t d=1)
  ⟨Z,top,prod,1,none,none,Z,Z,by rw[List.drop_zero,Int.one_mul];exact ep,by decide,by unfold Jm.cf;rw[Int.gcd_one];rfl⟩ (λi σ H' _ hp=>by rw[hp.1];exact az.of hs) ?_ ?_
 .rintro i x σ H' hx ⟨rfl,t,r,d,s3,s4,rfl,e1,e2,d0,c⟩;obtain⟨st,rfl,es⟩:=gH hx;have hm:=bK es;have s2:=h2 st hm;have hi:=(dZ.mp es).1;have hdr:stp.drop i=st::stp.drop (i+1):=by rw[LC hi];congr 1;rw[aY hi]at es;exact gZ es
  rw[hdr,HY]at e2;have r0:0<=t % st:=oX _ (by omega);refine⟨_,Z,_,Z,_,Z,_,_,Z,Z,(by show 0<st;omega),st,t % st,Z,by omega,r0,?_⟩;rw[Jm.HF t st (by omega)];obtain⟨o1,o2⟩:=VA d0 (by omega:0<st) c;have gp:0<Jm.cf t st:=Jm.E_ t st (.inr (by omega));have gz:Jm.Sz 9000 (Jm.cf t st):=((hz.of_le (by have:=ZH h2 hm;rw[<-ep]at this;omega)).dvd (by omega:0<st) (by omega) (Jm.qD t st)).mono (by decide);obtain⟨u,hu⟩:=Jm.tD t st;obtain⟨v,hv⟩:=Jm.qD t st;have e3:t / Jm.cf t st*prod=top*(r / Jm.cf t st):=by
   have a1:t / Jm.cf t st=u:=by rw[Zg (by omega) hu]
   have a2:r=Jm.cf t st*(d*v*(stp.drop (i+1)).foldl (·*·) 1):=by
    rw[e2]
    conv=>lhs;rw[hv]
    rw[jK (Jm.cf t st),Int.mul_left_comm,jK d]
   have a3:r / Jm.cf t st=d*v*(stp.drop (i+1)).foldl (·*·) 1:=by rw[Zg (by omega) a2]
   rw[a1,a3];have qL:Jm.cf t st*(u*prod)=Jm.cf t st*(top*(d*v*(stp.drop (i+1)).foldl (·*·) 1)):=by
    rw[<-jK,<-hu,e1]
    conv=>lhs;rw[a2]
    rw[Int.mul_left_comm]
   exact Int.eq_of_mul_eq_mul_left (by omega) qL
  have e4:r / Jm.cf t st=d*(st / Jm.cf t st)*(stp.drop (i+1)).foldl (·*·) 1:=by
   have a4:st / Jm.cf t st=v:=by rw[Zg (by omega) hv]
   have a2:r=Jm.cf t st*(d*v*(stp.drop (i+1)).foldl (·*·) 1):=by
    rw[e2]
    conv=>lhs;rw[hv]
    rw[jK (Jm.cf t st),Int.mul_left_comm,jK d]
   rw[a4,Zg (by omega) a2]
  refine⟨λσ' H2=>H2=H'/\σ'=[some (.ref bt),some (.int (t / Jm.cf t st)),some (.int (r / Jm.cf t st)),some (.int st),some (.int (Jm.cf t st))],?_,?_⟩
  .refine ⟨_,Z,_,_,Z,Z,_,Z,dg (λc=>?_) (λc=>?_)⟩
   .exact ⟨_,Z,_,Z,_,_,Z,Z,vI gp gz,_,Z,_,Z,_,_,Z,Z,vI gp gz,Z,Z⟩
   .have c':¬ 1<Jm.cf t st:=kF (gX.mpr c);have g1:Jm.cf t st=1:=by omega
    refine⟨Z,?_⟩;rw[g1,ES,ES];rfl
  rintro σ' H2 ⟨rfl,rfl⟩;exact⟨Z,_,_,_,_,_,Z,e3,e4,o2,o1⟩
 rintro σ H' ⟨rfl,t,r,d,s3,s4,rfl,e1,e2,d0,c⟩;rw[List.drop_of_length_le (by rw[aD];exact aN _),List.foldl_nil,Int.mul_one]at e2;subst e2;refine⟨_,Z,_,Z,(gM 2),λp hp=>?_⟩;refine q p _ (aA hp _) ?_;rw[ak];obtain⟨a1,a2⟩:=Jm.U8 d0 c;have:Jm.fr top prod=Jm.fr t r:=Jm.Zu (by omega) d0 e1.symm;unfold qE;rw[this,a1,a2]
abbrev qW:Stmt:=inClass (top 4) 3
abbrev nW:Da Str:=["self","top"]
abbrev IG:Da Str:=nW
def Gy:aJ IG nW (ay qW):=dh
theorem Gz{T:TC}(F:jF K T.bot "share" "Bottom.share" qW f fd)(X:Txt K T)(uI:Mn P w K mg base 2 T.bot "over" pB (Rj T)):Mn P w K mg base 3 T.bot "share" nW (ML T):=by
 refine F.oA Gy λ_ _ _ _ H _ Q E hr h=>?_;obtain⟨⟨bt,db,sp,kn,stp,prod,top,Ap,rfl,hb,hs,ep,h2,hz,hk,kat,kl,knd,q⟩⟩:=h;refine⟨_,(@cS.h _ _ _ (aj (jj (yM (By (bN hr) (qv 1) (aT K (qv 0)))) (aq (qi (bN hr) (aT K (qv 0)) (qv 1) (gu uI hr (qv 0) (af (qv 1) ai)) rfl)) aQ)
  (aq (aM (bF (bN hr) (aT K (qv 0)) (qv 1)))))),?_⟩
 refine⟨λσ' H'=>σ'=[some (.ref bt),some (.int top)]/\(∀b o,H b=some o->b≠kn->H' b=some o)/\∃kvs' r,H' kn=some (.dK kvs')/\MD H' kvs' prod/\kvs'.length<=Ap.length+1/\(kvs'.map (·.1)).Nodup/\eV kvs' (Sum.inl top)=some (.ref r)/\H' r=some (qE (Jm.fr top prod)),?_,?_⟩
 .refine ⟨_,Z,_,Z,bt,T.bot,db,_,_,Z,hb,X.cB,X.Vw,Z,kn,_,Z,cE.k (k:=Sum.inl top) hk,_,Z,?_⟩;cases e:eV Ap (Sum.inl top)with
  | some v=>refine cA ⟨Z,λb o e _=>e,Ap,?_⟩;obtain⟨t,r,e2,hr2⟩:=kat _ (Yk e);cases e2;exact⟨r,hk,kat,zC _,knd,e,hr2⟩
  | none=>
   refine jE ?_;refine⟨_,Z,bt,db,_,Z,hb,Z,_,Z,⟨⟨bt,db,sp,kn,stp,prod,top,Z,hb,hs,ep,h2,hz,λr H1 g1 hr1=>?_⟩⟩⟩;have sl:Ap.length<sizeLine:=by rw[gy];omega
   refine⟨_,Z,bt,T.bot,db,_,_,Z,g1 _ _ hb,X.cB,X.Vw,Z,_,Z,kn,_,Z,um.k (k:=Sum.inl top) (g1 _ _ hk) sl,Z,λb o e hb=>by rw[av hb];exact g1 _ _ e,_,r,ak,?_,?_,aay _ knd e,by rw[XG,aC rfl],by rw[av (jL hr1 (g1 _ _ hk) (by intro z;cases z))];exact hr1⟩
   .rw [pK _ e];intro p hp;rcases fk.mp hp with z|z
    .obtain ⟨t,r',e2,hr2⟩:=kat p z;exact⟨t,r',e2,by rw[av (jL (g1 _ _ hr2) (g1 _ _ hk) (by intro z;cases z))];exact g1 _ _ hr2⟩
    .rw [eE.mp z];exact⟨top,r,Z,by rw[av (jL hr1 (g1 _ _ hk) (by intro z;cases z))];exact hr1⟩
   .rw [pK _ e,c8];exact aN _
 rintro σ' H' ⟨rfl,k1,kvs',r,e1,e2,e3,e4,e5,e6⟩;exact⟨_,Z,bt,T.bot,db,_,_,Z,k1 _ _ hb (jL hb hk (by intro z;cases z)),X.cB,X.Vw,Z,_,Z,kn,_,Z,e5▸cE.k (k:=Sum.inl top) e1,q r H' kvs' k1 e1 e2 e3 e4 e6⟩
abbrev sP:Stmt:=inClass (top 24) 12
abbrev l_:Da Str:=["self","part"]
abbrev KG:Da Str:=l_.append ["tops"]
def yU:aJ KG l_ (ay sP):=dh
theorem II{T:TC}(F:jF K T.hold "shares" "Hold.shares" sP f fd)(X:Txt K T)(sQ:Mn P w K mg base 1 T.hold "part_of" jy (MJ T))(jA:Mn P w K mg base 1 T.hold "tops_of" lD (HW T))(sR:Mn P w K mg base 3 T.bot "share" nW (ML T))(jr:mg "zip"=none):Mn P w K mg base 4 T.hold "shares" l_ (Ac T):=by
 refine F.oA yU λ_ _ _ _ H _ Q E hr h=>?_;obtain⟨⟨n,ρ,A,st,ip,pt,rfl,hh,ep,hkn,q⟩⟩:=h;obtain⟨qq,eq,k1,k2,k3,k4⟩:=hh.h.find ep;have ja:=bK ep;refine⟨_,(@cS.h _ _ _ (aj (aX (i:=2) yU.nd (gu jA hr (qv 0) (af (gu sQ hr (qv 0) (af (qv 1) ai)) ai)))
  (aq (aM (Nm (D8 ["owner","top","self"] [none,none,some 0] rfl (sf K (by rfl) jr (af (aT K (qv 0)) (af (qv 2) ai))) (λ_ _ _ _=>(i7 K (n:=2) rfl (cM (aL (i:=0) (show List.Nodup (["owner","top","self"] :Da Str)from by decide +kernel)) (cM (aL (i:=1) (show List.Nodup (["owner","top","self"] :Da Str)from by decide +kernel)) i6)))) (λ_ _ _ _=>(iU (af (qv 0) (af (gu sR hr (aT K (qv 2)) (af (qv 1) ai)) ai)))) (λ_ _ _ _=>(aP iX (qv 1) ao (aZ _))) rfl (by rfl))))))),?_⟩
 refine⟨_,Z,A.a,A.dx,_,Z,hh.h.oa,Z,_,Z,A.a,A.dx,_,Z,hh.h.oa,Z,_,Z,⟨⟨n,ρ,A,st,ip,pt,qq,Z,hh.h,hh.wf.lN,ep,eq,?_⟩⟩⟩;refine⟨⟨n,ρ,A,st,ip,pt,qq,Z,hh.h,hh.wf,ep,eq,λl H1 g1 hl hl1=>?_⟩⟩;have gj:=hh.mono g1;have cl:ρ l=none:=hh.g.none hl;have tl:(bR st pt).length=st.own.length:=by unfold bR;rw[pI,hh.wf.rows pt ja,hh.wf.jg,Cm]
 have dY:=hh.wf.qH;refine⟨A.pl,_,gj.h.jv,λob=>?_⟩;have hl2:upd H1 A.pl (.fY ob (.dK (gq 0 st.own))) l=some (.lst ((bR st pt).map V.int)):=fQ gj.h.jv hl1 (λk z=>by cases z);refine⟨_,Z,A.a,T.hold,A.dx,_,_,Z,fQ gj.h.jv gj.h.oa (λk z=>by cases z),X.cH,X.hpl,Z,_,Z,_,_,_,_,_,_,Z,.keys ak,.lst (az.of hl2),λBM Bn=>?_⟩;have xQ:H1 BM=none:=pL gj.h.jv Bn;have ca:ρ BM=none:=gj.g.none xQ;have RS:BM≠A.pl:=λe=>by rw[e,ak]at Bn;cases Bn
 have nal:BM≠l:=λe=>by rw[e,hl1]at xQ;cases xQ
 refine aaN (K:=K) (n:=st.own.length) [0,1] (λi out Hc=>∃H5,Hc=upd H5 A.pl (.fY ob (.dK (gq 0 st.own)))/\Gh ρ H5/\Fr n ρ H ρ H5/\a_ T n ρ A H5 { st with kn:=st.kn+i }/\H5 l=some (.lst ((bR st pt).map V.int))/\iR H5 out (((List.zip st.own (bR st pt)).take i).filterMap λx=>if 0<x.2 then some (x.1,Jm.fr x.2 st.prod) else none))
  (by decide) (by omega) ⟨upd H1 BM (.lst []),lO (cD RS),gj.g.alloc xQ,(Fr.of_same (ρ:=ρ) g1).trans (Fr.of_same (aA xQ _)),gj.h.mono (aA xQ _),by rw[av (cD nal)];exact hl1,.nil⟩ ?_ ?_ ?_ ?_
 .rintro i out Hc hi ha ⟨H5,rfl,G5,F5,h5,l5,S5⟩;exact⟨ak,az.of (fQ h5.jv l5 (λk z=>by cases z)),by rw[aD,qJ];exact hi,by rw[aD,tl];exact hi⟩
 .rintro out Hc ha ⟨H5,rfl,G5,F5,h5,l5,S5⟩;exact⟨ak,az.of (fQ h5.jv l5 (λk z=>by cases z)),.inr (by rw[aD,tl];exact aN _)⟩
 .rintro i x out Hc H2 hi ID ha ⟨H5,rfl,G5,F5,h5,l5,S5⟩ ⟨pp,x1,y1,hpp,rfl,rfl,e1,e2⟩;obtain⟨t,rfl,et⟩:=gH e2;rw[DU,bH]at e1;obtain⟨o,eo,rfl⟩:=mH.mp e1;have npl:pp≠A.pl:=λe=>by rw[e,ak]at hpp;cases hpp
  have ajy:H5 pp=none:=pL h5.jv hpp;have ez:(List.zip st.own (bR st pt))[i]?=some (o,t):=by rw[List.getElem?_zip_eq_some];exact⟨eo,et⟩
  have g6:=aA ajy (.tup [.str o,.int t]);have e6:upd (upd H5 A.pl (.fY ob (.dK (gq 0 st.own)))) pp (.tup [.str o,.int t])=upd (upd H5 pp (.tup [.str o,.int t])) A.pl (.fY ob (.dK (gq 0 st.own))):=lO (cD npl);rw[e6];have G6:=G5.same g6;have F6:=F5.trans (Fr.of_same (ρ:=ρ) g6);have h6:=h5.mono g6;have l6:=g6 _ _ l5;have S6:=S5.mono g6.tups;have t6:upd H5 pp (.tup [.str o,.int t]) pp=some (.tup [.str o,.int t]):=ak;have yV:upd H5 pp (.tup [.str o,.int t]) BM=some (.lst out):=by rw[av RS]at ha;exact g6 _ _ ha
  generalize upd H5 pp (.tup [.str o,.int t])=H6 at *;have fz:∀{b:Addr}{u:HO},H6 b=some u->(∀k,u ≠ .dK k)->upd H6 A.pl (.fY ob (.dK (gq 0 st.own))) b=some u:=λe k=>fQ h6.jv e k;refine⟨pp,_,Z,cV.of (fz t6 (λk z=>by cases z)),Z,_,Z,_,_,Z,Z,_,Z,?_⟩;refine dg (λc=>?_) (λc=>?_)
  .have c':0<t:=dH c;obtain⟨Ap,j1,j2,j3,j4⟩:=h6.okn;have Z0:A.kn≠A.pl:=Fx h6.j8 h6.jQ (by intro z;cases z);refine⟨_,Z,_,Z,A.a,T.hold,A.dx,_,_,Z,fz h6.oa (λk z=>by cases z),X.cH,X.Bc,Z,A.bt,A.db,_,Z,fz h6.nj (λk z=>by cases z),Z,_,Z,
    ⟨⟨A.bt,A.db,A.sp,A.kn,st.stp,st.prod,t,Ap,Z,fz h6.nj (λk z=>by cases z),fz h6.tY (λk z=>by cases z),hh.wf.xC,hh.wf.Bd,hh.wf.big,by rw[av Z0];exact j1,(λp hp=>let⟨t,r,e,w⟩:=j2 p hp;⟨t,r,e,fz w (λk z=>by cases z)⟩),LN j3 (by show st.kn+i<_;omega),j4,λr H7 kvs' b1 b2 b3 b4 b5 b6=>?_⟩⟩⟩
   have GA:H7 A.pl=some (.fY ob (.dK (gq 0 st.own))):=b1 _ _ ak (cD Z0);refine⟨(gM 2),λtt Z1=>?_⟩;have ntp:tt≠A.pl:=λe=>by rw[e,GA]at Z1;cases Z1
   have k8:∀b u,H6 b=some u->b≠A.kn->upd H7 A.pl (.dK (gq 0 st.own)) b=some u:=λb u e hb=>by
    by_cases z:b=A.pl
    .rw [z]at e ⊢;rw[show H6 A.pl=some (.dK (gq 0 st.own))from h6.jv]at e;cases e;exact ak
    .rw [av z];exact b1 _ _ (by rw[av z];exact e) hb
   have h8:=h6.Yl (m:=st.kn+i+1) k8 (by rw[av Z0];exact b2) (λp hp=>let⟨t,r,e,w⟩:=b3 p hp;⟨t,r,e,jw (.inr ⟨_,GA,Z⟩) _ _ w⟩) (fZ b4 (Nat.succ_le_succ j3)) b5;have G8:Gh ρ (upd H7 A.pl (.dK (gq 0 st.own))):=λb cc e=>by
    by_cases z:b=A.pl
    .rw [z];exact⟨_,ak,Z⟩
    by_cases z2:b=A.kn
    .rw [z2,av Z0];exact⟨_,b2,Z⟩
    obtain⟨u,a1,a2⟩:=G6 b cc e;exact⟨u,k8 b u a1 z2,a2⟩
   have F8:Fr n ρ H6 ρ (upd H7 A.pl (.dK (gq 0 st.own))):=λb u e k=>⟨k8 b u e (λz=>k 9 ⟨#[]⟩ (by rw[z];exact h6.j8)),Z⟩
   have tp8:∀b xs,H6 b=some (.tup xs)->upd H7 A.pl (.dK (gq 0 st.own)) b=some (.tup xs):=λb xs e=>k8 b _ e (jL e j1 (by intro z;cases z));have ajz:upd H7 A.pl (.dK (gq 0 st.own)) tt=none:=by rw[av ntp];exact Z1
   have back:H7=upd (upd H7 A.pl (.dK (gq 0 st.own))) A.pl (.fY ob (.dK (gq 0 st.own))):=by rw[rS,zY GA]
   have hr8:upd H7 A.pl (.dK (gq 0 st.own)) r=some (qE (Jm.fr t st.prod)):=jw (.inr ⟨_,GA,Z⟩) _ _ b6;have l8:=k8 _ _ l6 (λz=>by rw[z,j1]at l6;cases l6);have N6:=k8 _ _ yV (λz=>by rw[z,j1]at yV;cases yV);have S8:=S6.mono tp8;have F08:=F6.trans F8;rw[back]at Z1 ⊢;generalize upd H7 A.pl (.dK (gq 0 st.own))=H8 at *;have g9:=aA ajz (.tup [.str o,.ref r]);rw[lO (cD ntp)];refine⟨by rw[av RS];exact g9 _ _ N6,_,lO (cD RS),(G8.same g9).wr rfl,(F08.trans (Fr.of_same (ρ:=ρ) g9)).new (g1.free xQ),?_,?_,?_⟩
   .exact (h8.mono g9).same (MO ca (g9 _ _ N6) rfl)
   .rw [av (cD nal)];exact g9 _ _ l8
   .rw [take_snoc ez,List.filterMap_append,AL];simp only[c',sX,List.filterMap_nil];exact((S8.mono g9.tups).snoc ak (g9 _ _ hr8)).mono (jw (.inr ⟨_,g9 _ _ N6,Z⟩))
  .have c':¬ 0<t:=kF (gX.mpr c);refine⟨by rw[av RS];exact yV,H6,Z,G6,F6,?_,l6,?_⟩
   .obtain ⟨Ap,j1,j2,j3,j4⟩:=h6.okn;exact h6.Yl (m:=st.kn+i+1) (λb u e _=>e) j1 j2 (Nat.le_succ_of_le j3) j4
   .rw [take_snoc ez,List.filterMap_append,AL];simp only[c',nO,List.filterMap_nil,u0];exact S6
 .rintro out Hc ID ha ⟨H5,rfl,G5,F5,h5,l5,S5⟩;rw[Ho (by rw[List.length_zip,tl];omega)]at S5;refine⟨ak,?_⟩;rw[rS,zY (show H5 A.pl=some (.dK (gq 0 st.own))from h5.jv)];rw[av RS]at ha;obtain⟨Ap,j1,j2,j3,j4⟩:=h5.okn;have h9:=h5.Yl (m:=st.kn+100) (λb u e _=>e) j1 j2 (fZ j3 (by show st.kn+st.own.length<=st.kn+100;omega)) j4;exact q BM out H5 ⟨G5,h9,af2 hh.wf hkn⟩ F5 (g1.free xQ) ha ca S5
abbrev sS:Stmt:=inClass (top 24) 17
abbrev mh:Da Str:=["self"]
abbrev KH:Da Str:=mh
def IJ:aJ KH mh (ay sS):=dh
theorem IK{T:TC}(F:jF K T.hold "landed" "Hold.landed" sS f fd)(X:Txt K T)(dm:mg "list"=none):Mn P w K mg base 1 T.hold "landed" mh (BI T):=by
 refine F.oA IJ λ_ _ _ _ H _ Q E hr h=>?_;obtain⟨⟨n,ρ,A,st,rfl,hh,q⟩⟩:=h;obtain⟨ws,hw,hA⟩:=hh.h.tX;have hl:=hA.length;have hal:=hh.wf.x8;refine⟨_,(@cS.h _ _ _ (aq (aM (fJ ["name","owner","worth","shares"] [none,none,none,none] rfl (cY K (aT K (qv 0))) (λ_ _ _ _=>(i7 K (n:=4) rfl (cM (aL (i:=0) (show List.Nodup (["name","owner","worth","shares"] :Da Str)from by decide +kernel)) (cM (aL (i:=1) (show List.Nodup (["name","owner","worth","shares"] :Da Str)from by decide +kernel)) (cM (aL (i:=2) (show List.Nodup (["name","owner","worth","shares"] :Da Str)from by decide +kernel)) (cM (aL (i:=3) (show List.Nodup (["name","owner","worth","shares"] :Da Str)from by decide +kernel)) i6)))))) (λ_ _ _ _=>(iU (af (qv 0) (af (qv 1) (af (qv 2) (af (kh (lZ K) (by rfl) dm vz (af (qv 3) ai)) ai)))))) rfl (by rfl))))),?_⟩;refine⟨_,Z,A.a,T.hold,A.dx,_,_,Z,hh.h.oa,X.cH,X.has,Z,A.as,Z,⟨_,az.of hw⟩,λBM Bn=>?_⟩;refine yz (K:=K) (n:=ws.length) [0,1,2,3] (λi out H1=>aE H H1/\lP BM ρ H1 out (st.dB.take i)/\∀w∈out,∃t xs,w =.ref t/\H1 t=some (.tup xs)/\∀b,V.ref b∈xs->H b=none/\b≠BM) (by decide) (by omega) ⟨aA Bn _,.nil,λw hw=>nomatch hw⟩ (λi out H1 hi _ hp=>⟨ws,_,az.of (hp.1 _ _ hw),aY hi⟩) (λout H1 _ hp=>⟨ws,az.of (hp.1 _ _ hw),aN _⟩) ?_ ?_
 .rintro i x out H1 H2 hi dY ha ⟨g,hL,hF⟩ ⟨rfl,hy⟩;have ex:=hy ws (az.of (g _ _ hw));obtain⟨r,l,y,ss,rfl,ey,a1,a2,a3,a4⟩:=hA.get ex;refine⟨r,_,Z,cV.of (g _ _ a1),Z,_,Z,_,Z,_,Z,_,Z,l,ss,Z,.inl (az.of (g _ _ a2)),λl2 hl2=>⟨(gM 4),λt ht=>?_⟩⟩;have g2:=aA hl2 (.lst ss);have g3:=aA ht (.tup [.str y.nm,.str y.ow,.int y.wo,.ref l2]);have hl3:upd H2 l2 (.lst ss) l2=some (.lst ss):=ak;have c2:ρ l2=none:=hh.g.none (g.free hl2);have tu:=jw (o:=.lst (out++[.ref t])) (.inr ⟨_,(g2.trans g3) _ _ ha,Z⟩);refine⟨(g2.trans g3) _ _ ha,((g.trans g2).trans g3).bQ Bn _,?_,λw hw=>?_⟩;rotate_left
  .rcases fk.mp hw with z|z
   .obtain ⟨t',xs,e1,e2,e3⟩:=hF w z;exact⟨t',xs,e1,tu _ _ ((g2.trans g3) _ _ e2),e3⟩
   .rw [eE.mp z];refine⟨t,_,Z,tu _ _ ak,λb hb=>?_⟩;have:b=l2:=by simpa using hb
    rw[this];exact⟨g.free hl2,λe=>by rw[e,ha]at hl2;cases hl2⟩
  rw[take_snoc ey];have n1:l2≠BM:=λe=>by rw[e,ha]at hl2;cases hl2
  exact((hL.mono (g2.trans g3)).snoc (x:=y) ak (g3 _ _ hl3) c2 n1 (a4.mono ((g.trans g2).trans g3).tups)).upd ((g2.trans g3) _ _ ha)
 rintro out H1 dY ha ⟨g,hL,hF⟩;rw[hl,bV]at hL;exact q BM out H1 g Bn ha hL.to hF
abbrev uJ:Stmt:=inClass (top 24) 4
abbrev qX:Da Str:=["self","owner","amount"]
abbrev N7:Da Str:=qX.append ["place","whole","added"]
def pC:aJ N7 qX (ay uJ):=dh
theorem IL{T:TC}{e:Ec}(F:jF K T.hold "award" "Hold.award" uJ f fd)(X:Txt K T)(lT:Mx P w K mg base 1 T.hold "place_of" i_ (D6 T e))(i8:Dx P w K mg base 1 "check_amount" lA (Nr e))(ig:Mn P w K mg base 1 T.hold "whole" lB (CF T))(lE:Mn P w K mg base 3 T.hold "blend" nE (HZ T K))(bg:mg "len"=none)(jn:jH K e.qN)(iz:mg "TooMuch"=some (.ref e.qN)):Mx P w K mg base 4 T.hold "award" qX (Nv T e):=by
 refine F.DA pC λ_ _ _ _ H _ Q E hr h=>?_;obtain⟨⟨n,ρ,A,st,o,a,rfl,hh,aw,dq⟩⟩:=h;refine⟨_,(@cS.h _ _ _ (aj (aX (i:=3) pC.nd (vv lT hr (qv 0) (af (qv 1) ai)))
  (aj (cg (F_ i8 hr (af (qv 2) ai)))
  (aj (aX (i:=4) pC.nd (sj ig hr (qv 0)))
  (aj (bZ (aP Cr (qv 2) (qv 4) (aZ _)) (aq (ny jn (by rfl) iz)) aQ)
  (aj (aX (i:=5) pC.nd (aH U0 (eY (af ao ai)) (aF xy (by rfl) bg c9 (af (aT K (qv 0)) ai))))
  (aj (tZ (aH iP (qv 2) (aT K (aT K (qv 0)))) (t8 (qv 5) (qv 3) set_list))
  (aq (cg (gu lE hr (qv 0) (af (aH tV (qv 4) (qv 2)) (af (qv 4) (af (qv 5) ai))))))))))))),?_⟩
 have wf:=hh.wf;refine⟨_,Z,A.a,A.dx,_,Z,hh.h.oa,Z,_,Z,⟨⟨n,ρ,A,st,o,Z,hh.h,λho=>dq.no 2 (by unfold lq;exact aB ho),λho=>?_⟩⟩⟩;refine⟨_,Z,⟨⟨a,Z,λh5=>dq.no 5 (by unfold lq;rw[aC ho,aC h5]),λh1=>?_⟩⟩⟩;refine⟨_,Z,A.a,A.dx,_,Z,hh.h.oa,Z,⟨⟨n,ρ,A,st,Z,hh.h,wf.vO,λH1 g1=>?_⟩⟩⟩;refine⟨_,Z,_,Z,_,_,Z,Z,_,Z,dg (λc=>?_) (λc=>?_)⟩
 .have c':aR st<=a:=dH c;exact λy=>dq.no 6 (by unfold lq;rw[aC ho,aB (show ¬ a<1 by omega),aC c']) y H1 g1
 have c':¬ aR st<=a:=kF (gX.mpr c);have q:=dq.ok (by unfold lq;rw[aC ho,aB (show ¬ a<1 by omega),aB c']);have gj:=hh.mono g1;have F1:Fr n ρ H ρ H1:=Fr.of_same g1;clear hh;refine⟨(gM 1),λp0 hp0=>?_⟩;have g2:=aA hp0 (.lst [.int 0]);have iV:=gj.mono g2;have F2:=F1.trans (Fr.of_same (ρ:=ρ) g2);have Y4:upd H1 p0 (.lst [.int 0]) p0=some (.lst [.int 0]):=ak;generalize upd H1 p0 (.lst [.int 0])=H2 at *;clear gj F1;have DF:=qJ st.own 0;have dY:=iV.wf.qH;refine⟨_,Z,A.a,T.hold,A.dx,_,_,Z,iV.h.oa,X.cH,X.hpl,Z,A.pl,_,Z,iV.h.jv,p0,_,_,Z,Z,Y4,by omega,by rw[DF];omega,by rw[DF];show 1*_<=_;rw[ug,Nat.one_mul];exact small (by omega),λp1 hp1=>?_⟩;rw[DF,ug,show(List.replicate st.own.length [V.int 0]).flatten=(List.replicate st.own.length (0:Int)).map V.int from by rw[List.map_replicate,List.flatten_replicate_singleton]];have g3:=aA hp1 (.lst ((List.replicate st.own.length (0:Int)).map V.int));have mY:=iV.mono g3;have F3:=F2.trans (Fr.of_same (ρ:=ρ) g3);have n1:H p1=none:=(g1.trans g2).free hp1;have c1:ρ p1=none:=iV.g.none hp1;have Aj:upd H2 p1 (.lst ((List.replicate st.own.length (0:Int)).map V.int)) p1=_:=ak;generalize upd H2 p1 (.lst ((List.replicate st.own.length (0:Int)).map V.int))=H3 at *;have hi:=LG.mpr ho;have bo:=aw.blend (o:=o) wf h1 (by omega);have za:SE a st.prod:=.inl (by have:(aR st).natAbs<2 ^ 60:=aw.big;omega);refine⟨_,Z,_,Z,A.a,T.hold,A.dx,_,_,Z,mY.h.oa,X.cH,X.Bc,Z,A.bt,T.bot,A.db,_,_,Z,mY.h.nj,X.cB,X.Q_,Z,_,_,Z,Z,za,_,Z,_,Z,p1,_,_,st.own.idxOf o,Z,Z,Aj,by rw[aD,kD];exact vn hi,?_⟩;rw[show((List.replicate st.own.length (0:Int)).map V.int).set (st.own.idxOf o) (V.int (a*st.prod))=(kW st o a).map V.int from by unfold kW;rw[u7]];have mZ:=mY.FE (o:=.lst ((kW st o a).map V.int)) c1 Aj rfl rfl;have F4:=F3.new (o:=.lst ((kW st o a).map V.int)) n1;have Y5:upd H3 p1 (.lst ((kW st o a).map V.int)) p1=_:=ak;generalize upd H3 p1 (.lst ((kW st o a).map V.int))=H4 at *;have zk:Jm.Sz 60 (aR st-a):=bo.big.of_le (by omega);have zG:∀m∈kW st o a,0<=m/\Jm.Sz 8900 m:=λm hm=>by have MH:=bo.add m hm;have h2:=wf.iZ;have zl:Jm.Sz 60 a:=bo.big.of_le (by omega);exact⟨MH.1,Jm.Sz.oG (by have:=mR bo.l (show 0<=st.prod by omega);omega) MH.2 ((zl.mul bo.prod).mono (by decide))⟩
 exact⟨_,Z,A.a,A.dx,_,Z,mZ.h.oa,Z,_,Z,_,Z,_,_,Z,Z,_,Z,_,Z,⟨⟨n,ρ,A,st,aR st-a,aR st,p1,kW st o a,Z,mZ,az.of Y5,bo.len,bo.k,by omega,zk,bo.big,zG,aw.cJ,aw.stp,MV wf bo,λρ6 A6 H6 xP e6 f6=>q ρ6 A6 H6 xP e6 (F4.trans f6)⟩⟩⟩
abbrev wH:Stmt:=inClass (top 24) 8
abbrev tM:Da Str:=["self","part"]
abbrev Px:Da Str:=tM.append ["leaving","gains"]
def wI:aJ Px tM (ay wH):=dh
theorem KI{T:TC}{e:Ec}(F:jF K T.hold "land" "Hold.land" wH f fd)(X:Txt K T)(ie:Mx P w K mg base 1 T.hold "part_of" jy (xJ T e))(jb:Mn P w K mg base 1 T.hold "place_of" i_ (HV T))(jA:Mn P w K mg base 1 T.hold "tops_of" lD (HW T))(mj:Mn P w K mg base 4 T.hold "shares" l_ (Ac T))(jr:mg "zip"=none):Mx P w K mg base 5 T.hold "land" tM (RE T e):=by
 refine F.DA wI λ_ _ _ _ H _ Q E hr h=>?_;obtain⟨⟨n,ρ,A,st,x,rfl,hh,ld,dq⟩⟩:=h;refine⟨_,(@cS.h _ _ _ (aj (aX (i:=2) wI.nd (vv ie hr (qv 0) (af (qv 1) ai)))
  (aj (cg (kQ mG pG pH eX (aT K (qv 0)) (af (iU (af (aT K (qv 2)) (af (aT K (qv 2)) (af (aT K (qv 2)) (af (gu mj hr (qv 0) (af (qv 1) ai)) ai))))) ai)))
  (aj (mz (i:=3) ["purse","top","leaving"] [none,none,some 2] wI.nd rfl rfl rfl (sf K (by rfl) jr (af (aT K (qv 0)) (af (gu jA hr (qv 0) (af (qv 2) ai)) ai))) (λ_ _ _ _=>(i7 K (n:=2) rfl (cM (aL (i:=0) (show List.Nodup (["purse","top","leaving"] :Da Str)from by decide +kernel)) (cM (aL (i:=1) (show List.Nodup (["purse","top","leaving"] :Da Str)from by decide +kernel)) i6)))) (λ_ _ _ _=>(aH cW (qv 0) (aH iP (aT K (qv 2)) (qv 1)))) rfl (by rfl) (by rfl))
  (aj (abh (qv 3) (gu jb hr (qv 0) (af (aT K (qv 2)) ai)) YU (aH iP (aT K (qv 2)) (aT K (aT K (qv 0)))) ab4 set_list)
  (aj (fF K (qv 0) (qv 3))
  (aq (RC (aT K (qv 0)) (qv 1))))))))),?_⟩
 refine⟨_,Z,A.a,A.dx,_,Z,hh.h.oa,Z,_,Z,⟨⟨n,ρ,A,st,x,Z,hh.h,hh.wf.lN,λhn=>dq.no 3 ?_,λi p qq e1 e2 e3=>?_⟩⟩⟩
 .unfold o6;rw[aB (λz=>?_)];obtain⟨j,p,h1,h2⟩:=Ga z;exact hn p (bK h1) h2
 subst e1;have wf:=hh.wf;have ja:=bK e2;have eR:o6 st p.nm=none:=aC (ZS e2);have q:=dq.ok eR;have wS:=abn wf eR ld;rw[Ea wf ja]at q wS;obtain⟨k1,k2,k3,k4⟩:=hh.h.opt i p qq e2 e3;obtain⟨Vs,hv0,hA0⟩:=hh.h.tX;refine⟨_,Z,A.a,T.hold,A.dx,_,_,Z,hh.h.oa,X.cH,X.has,Z,.inl ⟨Z,_,az.of hv0⟩,_,Z,qq.1,T.part,qq.2.1,_,_,Z,k1,X.cP,X.Vu,Z,_,Z,qq.1,T.part,qq.2.1,_,_,Z,k1,X.cP,X.pow,Z,_,Z,qq.1,T.part,qq.2.1,_,_,Z,k1,X.cP,X.Fz,Z,_,Z,A.a,A.dx,_,Z,hh.h.oa,Z,_,Z,⟨⟨n,ρ,A,st,i,p,Z,hh,e2,ld.kn,λr ws H1 gj F1 hr0 hr1 cr1 sh1=>?_⟩⟩⟩;have hi:i<st.ah.length:=(dZ.mp e2).1;refine⟨(gM 4),λt ht=>?_⟩;have g2:=aA ht (.tup [.str p.nm,.str p.ow,.int p.wo,.ref r]);have fr1:∀b,H1 b=none->H b=none:=λb hb=>F1.ags gj.g hb;have fr2:∀b,upd H1 t (.tup [.str p.nm,.str p.ow,.int p.wo,.ref r]) b=none->H b=none:=λb hb=>fr1 b (Nz hb);have iV:=gj.mono g2;have F2:=F1.trans (Fr.of_same (ρ:=ρ) g2);have hr2:=g2 _ _ hr1;have sh2:=sh1.mono g2.tups;have ht2:upd H1 t (.tup [.str p.nm,.str p.ow,.int p.wo,.ref r]) t=some (.tup [.str p.nm,.str p.ow,.int p.wo,.ref r]):=ak;show ng _ (upd H1 t (.tup [.str p.nm,.str p.ow,.int p.wo,.ref r])) _;generalize upd H1 t (.tup [.str p.nm,.str p.ow,.int p.wo,.ref r])=H2 at *;clear g2 sh1 hr1 F1;have cH:a_ T n (b_ ρ r (n,30,⟨#[]⟩)) A H2 { st with kn:=st.kn+100 }:=iV.h.same ⟨λ_ _ e=>e,λb u x w _ hc he=>⟨he,by rw[cC (λz=>by rw[z,cr1]at hc;cases hc)];exact hc⟩⟩;have cG:Gh (b_ ρ r (n,30,⟨#[]⟩)) H2:=iV.g.color hr2 rfl;have cF:Fr n ρ H (b_ ρ r (n,30,⟨#[]⟩)) H2:=F2.nv hr0;have cr2:b_ ρ r (n,30,⟨#[]⟩) r=some (n,30,⟨#[]⟩):=dz;generalize b_ ρ r (n,30,⟨#[]⟩)=ρ2 at *;clear iV F2;obtain⟨Kc,hv2,hA2⟩:=cH.tX;have hal:Kc.length<1000:=by rw[show Kc.length=st.dB.length from hA2.length];exact ld.dB
 refine⟨A.as,Kc,_,Z,Z,hv2,dU (by omega),?_⟩;have h3:a_ T n ρ2 A (upd H2 A.as (.lst (Kc++[.ref t]))) { st with dB:=st.dB++[⟨p.nm,p.ow,p.wo,oM st p⟩],kn:=st.kn+100 }:=cH.adj (x:=⟨p.nm,p.ow,p.wo,oM st p⟩) cG hv2 ht2 hr2 cr2 sh2;have G3:=cG.wr (a:=A.as) (o:=.lst (Kc++[.ref t])) rfl;have F3:=cF.trans (Fr.write (o:=.lst (Kc++[.ref t])) cH.jZ);have ZR:∀b,upd H2 A.as (.lst (Kc++[.ref t])) b=none->H b=none:=λb hb=>fr2 b (Nz hb);have wf3:Wf { st with dB:=st.dB++[⟨p.nm,p.ow,p.wo,oM st p⟩],kn:=st.kn+100 }:={ wf with x8:=wS.x8,Ra:=wS.Ra }
 generalize upd H2 A.as (.lst (Kc++[.ref t]))=H3 at *;clear cH cG cF hv2 hA2 ht2 hr2 sh2;obtain⟨j1,j2,_,_⟩:=h3.opt i p qq e2 e3;refine⟨_,Z,A.a,T.hold,A.dx,_,_,Z,h3.oa,X.cH,X.Fy,Z,_,Z,A.a,A.dx,_,Z,h3.oa,Z,_,Z,⟨⟨n,ρ2,A,_,i,p,qq,Z,h3,wf3,e2,e3,λl H4 g4 iD hl1=>?_⟩⟩⟩;have hl1:H4 l=some (.lst ((bR st p).map V.int)):=hl1;have tl:=tpL wf ja;have dY:=wf.qH;have vN:=wf.vN;have j4:=g4 _ _ j1;have zw:=ld.wo p ja;refine⟨_,_,_,_,_,_,Z,.lst (az.of (g4 _ _ h3.nZ)),.lst (az.of hl1),λBM Bn=>?_⟩;refine yz (K:=K) (n:=st.cJ.length) [0,1] (λi out H5=>aE H4 H5/\out=(List.zipWith (λu t=>u+p.wo*t) (st.cJ.take i) ((bR st p).take i)).map V.int) (by decide) (by omega) ⟨aA Bn _,Z⟩ (λi out H5 hi _ hp=>⟨az.of (hp.1 _ _ (g4 _ _ h3.nZ)),az.of (hp.1 _ _ hl1),by rw[aD];exact hi,by rw[aD,tl];omega⟩)
  (λout H5 _ hp=>⟨az.of (hp.1 _ _ (g4 _ _ h3.nZ)),az.of (hp.1 _ _ hl1),.inl (by rw[aD];exact aN _)⟩) ?_ ?_
 .rintro k x out H5 H6 hk ajA ha ⟨g5,e5⟩ ⟨pp,x1,y1,hpp,rfl,rfl,e6,e7⟩;obtain⟨u,rfl,eu⟩:=gH e6;obtain⟨c,rfl,ec⟩:=gH e7;have g6:=aA hpp (.tup [.int u,.int c]);refine⟨pp,_,Z,cV.of ak,Z,_,Z,_,Z,qq.1,T.part,qq.2.1,_,_,Z,(g5.trans g6) _ _ j4,X.cP,X.Fz,Z,_,Z,_,_,Z,Z,.inl (by have:p.wo.natAbs<2 ^ 60:=zw;omega),_,_,Z,Z,g6 _ _ ha,(g5.trans g6).bQ Bn _,?_⟩;rw[nu _ eu ec,e5,bw];rfl
 rintro out H5 ajA ha5 ⟨g5,e5⟩;rw[bV,show st.cJ.length=(bR st p).length by omega,bV]at e5;have e5:out=(jO st p).map V.int:=e5;subst e5;have aeH:H3 BM=none:=g4.free Bn;have g35:=g4.trans g5;have h5:=h3.mono g35;have G5:=G3.same g35;have F5:=F3.trans (Fr.of_same (ρ:=ρ2) g35);have ca:ρ2 BM=none:=G3.none aeH;have j5:=g5 _ _ j4;have hown:=wf.ow p ja;have gl:=J6 wf ja;have hix:st.own.idxOf p.ow<(jO st p).length:=by rw[gl];exact List.idxOf_lt_length_of_mem hown
 refine⟨_,Z,_,Z,A.a,A.dx,_,Z,h5.oa,Z,_,Z,qq.1,T.part,qq.2.1,_,_,Z,j5,X.cP,X.pow,Z,⟨⟨n,ρ2,A,_,p.ow,Z,h5,hown,?_⟩⟩⟩;have at':qa ((jO st p).map V.int) ((st.own.idxOf p.ow:Nat):Int)=some (.int ((jO st p).getD (st.own.idxOf p.ow) 0)):=aO (by rw[bH,gT,aY hix];rfl);refine⟨BM,_,_,_,Z,Z,az.of ha5,at',_,Z,qq.1,T.part,qq.2.1,_,_,Z,j5,X.cP,X.Fz,Z,_,Z,A.a,T.hold,A.dx,_,_,Z,h5.oa,X.cH,X.Bc,Z,A.bt,T.bot,A.db,_,_,Z,h5.nj,X.cB,X.Q_,Z,_,_,Z,Z,.inl (by have:p.wo.natAbs<2 ^ 60:=zw;omega),_,_,Z,Z,BM,_,_,st.own.idxOf p.ow,Z,Z,ha5,by rw[aD];exact vn hix,?_⟩;have m1:((jO st p).map V.int).set (st.own.idxOf p.ow) (.int ((jO st p).getD (st.own.idxOf p.ow) 0-p.wo*st.prod))=(ux st p).map V.int:=u7.symm;have G6:=G5.wr (a:=BM) (o:=.lst ((ux st p).map V.int)) rfl;have h6:=h5.same (MO (o:=.lst ((ux st p).map V.int)) ca ha5 rfl);have n6:H BM=none:=ZR BM aeH;have F6:=F5.new (o:=.lst ((ux st p).map V.int)) n6;show zL _ _ _ _ (upd H5 BM (.lst (((jO st p).map V.int).set (st.own.idxOf p.ow) (.int ((jO st p).getD (st.own.idxOf p.ow) 0-p.wo*st.prod)))));rw[m1];have yV:upd H5 BM (.lst ((ux st p).map V.int)) BM=some (.lst ((ux st p).map V.int)):=ak;generalize upd H5 BM (.lst ((ux st p).map V.int))=H6 at *;refine⟨_,Z,_,Z,A.a,T.hold,A.dx,_,Z,h6.oa,X.cH,X.Fy,by show 7<1000;decide,?_⟩;obtain⟨h7,G7⟩:=Bp (t:=7) h6 G6 ca yV rfl;have F7:Fr n ρ H (b_ ρ2 BM (n,7,⟨#[]⟩)) H6:=F6.nv n6;have h8:=h7.Vt G7 BM _ yV dz;have G8:=G7.wr (a:=A.a) (o:=.ins T.hold A.dx (kG { A with pu:=BM })) rfl;have F8:=F7.trans (Fr.write (o:=.ins T.hold A.dx (kG { A with pu:=BM })) h7.ca);rw[show iQ "purses" (V.ref BM) (kG A)=kG { A with pu:=BM }from rfl];generalize upd H6 A.a (.ins T.hold A.dx (kG { A with pu:=BM }))=H8 at *;have hv8:=vo wf.lN e2 e3;have dk:=DW wf.lN hh.h.ql e2;refine⟨_,Z,A.a,T.hold,A.dx,_,_,Z,h8.oa,X.cH,X.hab,Z,_,Z,A.ab,_,Sum.inr p.nm,Z,h8.fB,Z,?_,?_⟩
 .show (eV (c7 st.ah A.qs) (Sum.inr p.nm)).isSome=true;rw[hv8];rfl
 show Q .cu (upd H8 A.ab (.dK (nP (c7 st.ah A.qs) (Sum.inr p.nm))));rw[dk];have hi2:i<A.qs.length:=by rw[hh.h.ql];exact hi
 have h9:=h8.MF G8 (st.ah.eraseIdx i) (A.qs.eraseIdx i) (by rw[R6 hi,R6 hi2,hh.h.ql]) (λj x y ex ey=>by obtain⟨k,a1,a2⟩:=Bl ex ey;exact h8.opt k x y a1 a2)
 rw[BH wf.lN e2]at q wS;exact q _ { { A with pu:=BM }with qs:=A.qs.eraseIdx i } _ ⟨G8.wr rfl,h9,wS⟩ rfl (F8.trans (Fr.write h8.g_))
abbrev wJ:Stmt:=top 29
abbrev gw:Da Str:=["_law_script","_law_k","_law_j","_law_many"]
abbrev Py:Da Str:=gw.append ["_law_cell","_law_turn","_law_rest","_law_step","_law_one","_law_two"]
def fV:aJ Py gw (ay wJ):=dh
theorem N8(F:At K mg "_law_draw" wJ f fd)(bg:mg "len"=none)(bq:mg "range"=none):Dn P w K mg base 1 "_law_draw" gw (oH K):=by
 refine F.oA fV λ_ _ _ _ H _ Q E hr h=>?_;obtain⟨⟨a,ns,k,j,BT,rfl,hS,h63,hk,hj,hj2,hm,q⟩⟩:=h;refine⟨_,(@cS.h _ _ _ (aj (aX (i:=4) fV.nd ao)
  (aj (aX (i:=5) fV.nd ao)
  (aj (jj (aP iX (aF (bL K) (by rfl) bg c9 (af (qv 0) ai)) ao (aZ _)) (aj (aX (i:=4) fV.nd (aG (aK K) (qv 0) (aH kT (qv 1) (aF (bL K) (by rfl) bg c9 (af (qv 0) ai)))))
  (aq (aX (i:=5) fV.nd (aH iF (qv 1) (aF (bL K) (by rfl) bg c9 (af (qv 0) ai)))))) aQ)
  (aj (aX (i:=6) fV.nd (qv 4))
  (aj (dP fC rfl (ef (by rfl) bq (af (qv 2) ai)) (aL (i:=7) fV.nd) (aq (aX (i:=6) fV.nd (aH iF (qv 6) (aH vC ao ao)))))
  (aj (bZ (gK (bW.pt (v_ (aP gQ (qv 5) ao (aZ _)) (v_ (aP Cr (qv 4) (aH vC ao ao) (aZ _)) (vt (aP iX (qv 6) ao (aZ _))))))) (aq (aM (aH kT (aH kT (qv 6) (aH vC ao ao)) (qv 3)))) aQ)
  (aj (aX (i:=8) fV.nd (aH kT (aH cW (aH cW (aH cW (aH iP (qv 4) ao) (aH iP (qv 1) ao)) (aH iP (qv 2) ao)) ao) ao))
  (aj (aX (i:=9) fV.nd (aH kT (aH cW (aH iP (qv 8) ao) (aH iF (qv 4) ao)) ao))
  (aj (aX (i:=9) fV.nd (aH kT (aH cW (aH iP (qv 9) (aH cW (aH kT (qv 8) ao) ao)) (qv 2)) ao))
  (aq (aM (aH kT (aH kT (aH cW (aH cW (aH iP (qv 8) ao) (aH iP (qv 9) ao)) (aH iF (qv 9) ao)) ao) (qv 3)))))))))))))),?_⟩
 have hl:(ns.map V.int).length=ns.length:=aD _;refine⟨λσ H'=>H'=H/\σ=[some (.ref a),some (.int k),some (.int j),some (.int BT),some (.int (Jm.cellOf ns k)),some (.int (Jm.AY ns k)),none,none,none,none],?_,?_⟩
 .refine ⟨_,Z,a,_,Z,.inl hS,_,_,Z,Z,_,Z,?_⟩;refine dg (λc=>?_) (λc=>?_)
  .have c':0<(((ns.map V.int).length:Nat):Int):=dH c;rw[hl]at c';have i0:0<=k % (ns.length:Int):=oX _ (by omega);have i1:k % (ns.length:Int)<(ns.length:Int):=zf _ c';refine⟨_,Z,_,Z,_,Z,a,_,Z,.inl hS,_,_,Z,Z,(by show(0:Int)<_;rw[hl];exact c'),a,_,_,.int (ns.getD (k % ns.length).toNat 0),Z,Z,hS,?_,?_⟩
   .rw [hl];exact aaC i0 i1
   refine⟨_,Z,_,Z,a,_,Z,.inl hS,_,_,Z,Z,XU (n:=10) (by rw[hl];exact c') (by rw[hl];omega) (by decide),Z,?_⟩;unfold Jm.cellOf Jm.AY;rw[aC c',aC c',hl];rfl
  .have c':¬ 0<(((ns.map V.int).length:Nat):Int):=kF (gX.mpr c);rw[hl]at c';refine⟨Z,?_⟩;unfold Jm.cellOf Jm.AY;rw[aB c',aB c'];rfl
 rintro σ H' ⟨rfl,rfl⟩;generalize ec:Jm.cellOf ns k=cell at *;generalize et:Jm.AY ns k=turn at *;refine⟨_,Z,_,Z,j,Z,by omega,hj2,?_⟩;refine gh (lo:=0) (n:=j.toNat) (λi σ vS=>vS=H'/\∃st:Option V,σ=[some (.ref a),some (.int k),some (.int j),some (.int BT),some (.int cell),some (.int turn),some (.int (Jm.Fb cell i)),st,none,none]) ⟨Z,none,Z⟩ ?_ ?_
 .rintro i σ vS hi ⟨rfl,st,rfl⟩;refine⟨_,Z,_,_,Z,Z,⟨by decide,by decide,by decide⟩,_,_,Z,Z,AX (by decide +kernel),Z,?_⟩;exact⟨_,Z⟩
 rintro σ vS ⟨rfl,st,rfl⟩;have full:Q (.int (Jm.draw ns k j BT)) vS:=q;unfold Jm.draw at full;rw[ec,et]at full;generalize er:Jm.Fb cell j.toNat=Cl at *;refine⟨decide (turn=0/\1000000000000000000<=cell/\0<Cl),?_,?_⟩
 .refine ⟨_,Z,Z,_,Z,?_⟩;by_cases h1:turn=0
  .rw [cy (by rw[h1] :V.int turn=V.int 0)];refine jE ⟨_,Z,_,_,Z,Z,⟨by decide,by decide,by decide⟩,_,_,Z,Z,_,Z,?_⟩;by_cases h2:1000000000000000000<=cell
   .rw [cy (show(10:Int) ^ (18:Int).toNat<=cell from h2)];refine jE ⟨_,Z,_,_,Z,Z,_,Z,?_,Z⟩;by_cases h3:0<Cl
    .rw [cy h3,cy ⟨h1,h2,h3⟩]
    .rw [d7 h3,d7 λz=>h3 z.2.2]
   .rw [d7 (show ¬ (10:Int) ^ (18:Int).toNat<=cell from h2)];exact cA ⟨(d7 λz=>h2 z.2.1).symm,Z⟩
  .rw [d7 (λz=>h1 (V.int.inj z))];exact cA ⟨(d7 λz=>h1 z.1).symm,Z⟩
 by_cases h:turn=0/\1000000000000000000<=cell/\0<Cl
 .rw [cy h];rw[aC h]at full;refine jE ⟨_,Z,_,_,Z,Z,⟨by decide,by decide,by decide⟩,_,_,Z,Z,(by show(0:Int)<_;decide),_,Z,_,_,Z,Z,hm,?_⟩;exact full
 .rw [d7 h];rw[aB h]at full;refine cA ?_;refine⟨_,Z,_,_,Z,Z,.inr ⟨by decide,by decide⟩,_,Z,_,_,Z,Z,.inr ⟨by decide,by decide⟩,_,_,Z,Z,_,Z,_,_,Z,Z,.inr ⟨by decide,by decide⟩,_,_,Z,Z,_,_,Z,Z,_,_,Z,Z,(by show(0:Int)<_;decide),?_⟩;refine⟨_,Z,_,_,Z,Z,.inr ⟨by decide,by decide⟩,_,Z,_,_,Z,Z,AX (by decide +kernel),_,_,Z,Z,_,_,Z,Z,(by show(0:Int)<_;decide),?_⟩;unfold Jm.mixed at full;dsimp only at full ⊢;generalize e1:(cell*7919+k*104729+j*1299709+31) % 1000000007=one at *;generalize e2:(one*48271+cell / 1009) % 998244353=two at *;have b1:0<=one % 9973:=oX _ (by decide);have b2:one % 9973<9973:=zf _ (by decide);refine⟨_,Z,_,Z,_,_,Z,Z,(by show(0:Int)<_;decide),_,_,Z,Z,_,_,Z,Z,.inr ⟨by omega,by omega⟩,_,Z,_,_,Z,Z,_,_,Z,Z,(by show(0:Int)<_;decide),?_⟩;refine⟨_,Z,_,_,Z,Z,.inr ⟨by decide,by decide⟩,_,Z,_,_,Z,Z,.inr ⟨by decide,by decide⟩,_,_,Z,Z,_,Z,_,_,Z,Z,AX (by decide +kernel),_,_,Z,Z,_,_,Z,Z,(by show(0:Int)<_;decide),_,Z,_,_,Z,Z,hm,?_⟩;exact full
abbrev wK:Stmt:=top 30
abbrev tN:Da Str:=["_law_code","_law_size"]
abbrev Pz:Da Str:=tN.append ["_law_word","_law_at_here"]
def nF:aJ Pz tN (ay wK):=dh
theorem N9(F:At K mg "_law_name" wK f fd)(bq:mg "range"=none):Dn P w K mg base 1 "_law_name" tN HL:=by
 refine F.oA nF λ_ _ _ _ H _ Q E hr h=>?_;obtain⟨⟨c,n,rfl,hc,hn,q⟩⟩:=h;refine⟨_,(@cS.h _ _ _ (aj (aX (i:=2) nF.nd aU)
  (aj (dP fC rfl (ef (by rfl) bq (af (qv 1) ai)) (aL (i:=3) nF.nd) (aj (aX (i:=2) nF.nd (aH E1 (qv 2) (aG UW aU (aH kT (qv 0) ao))))
  (aq (aX (i:=0) nF.nd (aH iF (qv 0) ao)))))
  (aq (aM (qv 2)))))),?_⟩
 refine⟨_,Z,_,Z,by omega,by omega,?_⟩;refine gh (lo:=0) (n:=(n:Int).toNat) (λi σ H'=>H'=H/\∃(s1:Option V),σ=[some (.int (c / 26 ^ i)),some (.int n),some (.str (tx (mT c i))),s1]) ⟨Z,none,by rw[Int.pow_zero,ES];rfl⟩ ?_ ?_
 .rintro i σ H' hi ⟨rfl,s1,rfl⟩;have hp:(0:Int)<26 ^ i:=Int.pow_pos (by decide);have hd0:0<=c / 26 ^ i:=Lo hc (zA hp);have hm0:0<=c / 26 ^ i % 26:=oX _ (by decide);have hm1:c / 26 ^ i % 26<26:=zf _ (by decide);refine⟨_,Z,_,Z,_,_,Z,Z,(by show(0:Int)<26;decide),_,_,_,Z,Z,(by decide +kernel),Vi hm0 hm1,?_⟩;refine⟨_,_,Z,Z,?_,?_⟩
  .rw [lH,zO];show i+1<=sizeLine;exact ER (dU (by omega))
  refine⟨_,Z,_,_,Z,Z,vI (by decide) (oJ (by decide +kernel)),Z,some (.int ((0:Int)+(i:Int))),?_⟩;have e1:c / 26 ^ i / 26=c / 26 ^ (i+1):=by rw[Int.ediv_ediv_of_nonneg (zA hp),Int.pow_succ]
  have e2:(tx (mT c i)++tx [97+(c / 26 ^ i % 26).toNat] :Str)=tx (mT c (i+1)):=by rw[Vg,X6]
  rw[<-e1,<-e2];rfl
 rintro σ H' ⟨rfl,s1,rfl⟩;refine⟨_,Z,?_⟩;rw[ug];exact q
abbrev uK:Stmt:=top 31
abbrev qY:Da Str:=["_law_script","_law_k","_law_many"]
abbrev N_:Da Str:=qY.append ["_law_alike","_law_size","_law_first","_law_shift","_law_at_here","_law_names_here","_law_code"]
def dS:aJ N_ qY (ay uK):=dh
theorem KJ(F:At K mg "_law_names" uK f fd)(bf:Dn P w K mg base 1 "_law_draw" gw (oH K))(tO:Dn P w K mg base 1 "_law_name" tN HL)(bq:mg "range"=none):Dn P w K mg base 2 "_law_names" qY (HN K):=by
 refine F.oA dS λ_ _ _ _ H _ Q E hr h=>?_;obtain⟨⟨a,ms,k,BT,rfl,hS,h63,hk,hm,q⟩⟩:=h;refine⟨_,(@cS.h _ _ _ (aj (aX (i:=3) dS.nd (su gQ (bh bf hr (af (qv 0) (af (qv 1) (af ao (af ao ai))))) ao (aZ _)))
  (aj (aX (i:=4) dS.nd (aH cW ao (bh bf hr (af (qv 0) (af (qv 1) (af ao (af ao ai)))))))
  (aj (aX (i:=5) dS.nd (bh bf hr (af (qv 0) (af (qv 1) (af ao (af (aH vC ao ao) ai))))))
  (aj (aX (i:=6) dS.nd ao)
  (aj (jj (dX (qv 3)) (aq (dP fC rfl (ef (by rfl) bq (af (bh bf hr (af (qv 0) (af (qv 1) (af ao (af (qv 4) ai))))) ai)) (aL (i:=7) dS.nd) (aq (aX (i:=6) dS.nd (aH iP (qv 6) ao))))) aQ)
  (aj (aX (i:=8) dS.nd (eY ai))
  (aj (dP fC rfl (ef (by rfl) bq (af (qv 2) ai)) (aL (i:=7) dS.nd) (aj (aX (i:=9) dS.nd (aH cW (qv 5) (aH iP (qv 6) (bh bf hr (af (qv 0) (af (qv 1) (af (aH cW ao (aH iP ao (qv 7))) (af ao ai))))))))
  (aj (jj (d9 (dX (qv 3))) (aj (aX (i:=4) dS.nd (aH cW ao (bh bf hr (af (qv 0) (af (qv 1) (af (aH cW ao (aH iP ao (qv 7))) (af ao ai)))))))
  (aq (aX (i:=9) dS.nd (bh bf hr (af (qv 0) (af (qv 1) (af (aH cW ao (aH iP ao (qv 7))) (af (aH vC ao ao) ai)))))))) aQ)
  (aj (D7 fC (aP UY (bh tO hr (af (qv 9) (af (qv 4) ai))) (qv 8) (by with_unfolding_all rfl)) (aq (aX (i:=9) dS.nd (aH cW (qv 9) (qv 6)))))
  (aq (cg (kQ mG pG pH eX (qv 8) (af (bh tO hr (af (qv 9) (af (qv 4) ai))) ai))))))))
  (aq (aM (qv 8))))))))))),?_⟩
 have P10:acd 10 10:=⟨by decide,by decide,by decide +kernel⟩
 refine⟨_,Z,_,Z,dJ hS h63 hk (by decide) (by decide) (by decide) λal _ _ _=>⟨Z,?_⟩⟩;refine⟨_,Z,_,Z,dJ hS h63 hk (by decide) (by decide) (by decide) λsd _ s0 s1=>⟨_,_,Z,Z,?_⟩⟩;refine⟨_,Z,_,Z,_,_,Z,Z,P10,dJ hS h63 hk (by decide) (by decide) (by decide +kernel) λfc _ f0 f1=>?_⟩;generalize hal:decide (V.int al=V.int 0)=alike;obtain⟨n0,en0⟩:∃n:Nat,1+sd=(n:Int):=⟨(1+sd).toNat,by omega⟩
 refine⟨λσ H'=>H'=H/\∃(d:Nat)(s7:Option V),(alike=true->d<n0)/\(alike=false->d=0)/\d<8/\σ=[some (.ref a),some (.int k),some (.int BT),some (.bl alike),some (.int (1+sd)),some (.int fc),some (.int ((26:Int) ^ d)),s7,none,none],?_,?_⟩
 .refine ⟨_,Z,_,Z,dg (λc=>?_) (λc=>?_)⟩
  .refine ⟨_,Z,_,Z,_,Z,dJ hS h63 hk (by decide) (by decide) (by omega) λdd _ d0 d1=>⟨dd,Z,by omega,by omega,?_⟩⟩;refine gh (lo:=0) (n:=dd.toNat) (λi σ H'=>H'=H/\∃s7:Option V,σ=[some (.ref a),some (.int k),some (.int BT),some (.bl alike),some (.int (1+sd)),some (.int fc),some (.int ((26:Int) ^ i)),s7,none,none]) ⟨Z,none,Z⟩ ?_ ?_
   .rintro i σ H' hi ⟨rfl,s7,rfl⟩;refine⟨_,Z,_,_,Z,Z,.inr ⟨by decide,by decide⟩,Z,some (.int ((0:Int)+(i:Int))),?_⟩;rw[Int.pow_succ];rfl
   .rintro σ H' ⟨rfl,s7,rfl⟩;exact⟨Z,dd.toNat,s7,λ_=>by omega,λz=>absurd c (by rw[z];exact gk),by omega,Z⟩
  .exact ⟨Z,0,none,λz=>absurd z c,λ_=>rfl,by decide,Z⟩
 rintro σ H' ⟨rfl,d,s7,hd1,hd2,hd8,rfl⟩;refine⟨(gM 0),λpn AD=>?_⟩;have g0:=aA AD (.lst []);refine⟨_,Z,(BT:Int),Z,by omega,by omega,?_⟩;refine gh (lo:=0) (n:=(BT:Int).toNat) (λi σ H2=>aE H' H2/\∃(nss:Da (Da Nat))(n:Nat)(s1 s2:Option V),d<n/\n<=8/\σ=[some (.ref a),some (.int k),some (.int BT),some (.bl alike),some (.int (n:Int)),some (.int fc),some (.int ((26:Int) ^ d)),s1,some (.ref pn),s2]/\H2 pn=some (.lst (tW nss))/\nss.length=i/\nss.Nodup/\∀x∈nss,qG x)
  ⟨g0,[],n0,s7,none,?_,by omega,by rw[<-en0];rfl,ak,Z,sW,λ_ m=>nomatch m⟩ ?_ ?_
 .cases alike with
  | true=>exact hd1 rfl
  | false=>rw[hd2 rfl];omega
 .rintro i σ H2 hi ⟨g,nss,n,s1,s2,hdn,RT,rfl,hn,hnl,hnd,hok⟩;have hsl:(tW nss).length=i:=by unfold tW;rw[aD];exact hnl
  have hSg:=g.seq hS;have hp:(0:Int)<26 ^ d:=Int.pow_pos (by decide);have WB:(26:Int) ^ d<2 ^ 64:=by rcases(by omega:d=0\/d=1\/d=2\/d=3\/d=4\/d=5\/d=6\/d=7)with e|e|e|e|e|e|e|e <;> (rw[e];decide +kernel)
  refine⟨_,Z,_,Z,_,Z,_,Z,_,Z,_,_,Z,Z,.inl ⟨by decide,by decide⟩,_,_,Z,Z,dJ hSg h63 hk (by omega) (by omega) (by decide) λcd _ c0 c1=>⟨_,_,Z,Z,.inl ⟨by omega,WB⟩,_,_,Z,Z,?_⟩⟩;have hcode:0<=fc+26 ^ d*cd:=Int.add_nonneg f0 (mR (zA hp) c0);refine⟨λσ H3=>H3=H2/\∃(n:Nat)(c:Int),0<=c/\d<n/\n<=8/\σ=[some (.ref a),some (.int k),some (.int BT),some (.bl alike),some (.int (n:Int)),some (.int fc),some (.int ((26:Int) ^ d)),some (.int ((0:Int)+(i:Int))),some (.ref pn),some (.int c)],?_,?_⟩
  .refine ⟨_,Z,_,Z,?_⟩;cases hb:alike with
   | true=>exact cA ⟨Z,n,_,hcode,hdn,RT,Z⟩
   | false=>refine jE ?_;have hd0:=hd2 hb;refine⟨_,Z,_,Z,_,Z,_,_,Z,Z,.inl ⟨by decide,by decide⟩,_,_,Z,Z,dJ hSg h63 hk (by omega) (by omega) (by decide) λzd _ z0 z1=>⟨_,_,Z,Z,?_⟩⟩;refine⟨_,Z,_,Z,_,Z,_,_,Z,Z,.inl ⟨by decide,by decide⟩,_,_,Z,Z,_,_,Z,Z,P10,dJ hSg h63 hk (by omega) (by omega) (by decide +kernel) λcd2 _ e0 _=>?_⟩;refine⟨Z,(1+zd).toNat,cd2,e0,by omega,by omega,?_⟩;rw[show(((1+zd).toNat:Nat):Int)=1+zd from by omega];rfl
  clear hdn RT hcode;rintro σ H3 ⟨rfl,n,xR,cc0,hdn,RT,rfl⟩;refine⟨λm σ H4=>H4=H3/\∃t:Nat,m=nss.length+1-t/\t<=nss.length/\σ=[some (.ref a),some (.int k),some (.int BT),some (.bl alike),some (.int (n:Int)),some (.int fc),some (.int ((26:Int) ^ d)),some (.int ((0:Int)+(i:Int))),some (.ref pn),some (.int (xR+(t:Int)*26 ^ d))]/\∀j:Nat,j<t->mT (xR+(j:Int)*26 ^ d) n∈nss,
   ⟨_,Z,0,Z,fD _,by rw[show xR+((0:Nat):Int)*26 ^ d=xR from by simp],λj hj=>absurd hj (Nat.not_lt_zero _)⟩,?_⟩
  rintro m σ H4 ⟨rfl,t,rfl,ht,rfl,htr⟩;have hct:0<=xR+(t:Int)*26 ^ d:=Int.add_nonneg cc0 (mR (by omega) (zA hp));refine⟨_,Z,_,Z,Mw rfl hct (by omega) ?_⟩;refine⟨_,Z,pn,_,Z,.inl (az.of hn),Z,X_ nss,?_⟩;show UI _ (V.bl (if false=true then !L8 (.str (tx (mT (xR+(t:Int)*26 ^ d) n))) (tW nss) else L8 (.str (tx (mT (xR+(t:Int)*26 ^ d) n))) (tW nss))) _;rw[aB gk,Q5];refine⟨_,Z,dg (λc=>?_) (λc=>?_)⟩
  .have hmem:mT (xR+(t:Int)*26 ^ d) n∈nss:=dH c;have aeK:∀j:Nat,j<t+1->mT (xR+(j:Int)*26 ^ d) n∈nss:=λj hj=>by
    rcases Nat.lt_succ_iff_lt_or_eq.mp hj with z|z
    .exact htr j z
    .rw [z];exact hmem
   have hle:=Vl (c:=xR) (n:=n) (t:=t+1) hdn (by omega) aeK;refine⟨_,λ_ _ z=>z,?_⟩;refine⟨_,Z,_,Z,_,_,Z,Z,?_⟩;refine⟨_,(by omega:nss.length+1-(t+1)<nss.length+1-t),Z,t+1,Z,hle,?_,aeK⟩;rw[show xR+((t+1:Nat):Int)*26 ^ d=xR+(t:Int)*26 ^ d+26 ^ d from by rw[Int.natCast_add,Cp];show _+(_+1*_)=_;rw[Int.one_mul,Int.add_assoc]];rfl
  .have hnm:mT (xR+(t:Int)*26 ^ d) n∉nss:=kF (gX.mpr c);refine⟨_,Z,.inl ⟨Z,_,az.of hn⟩,?_⟩;refine⟨_,Z,_,Z,Mw rfl hct (by omega) ?_⟩;refine⟨pn,tW nss,_,Z,Z,hn,dU (by omega),g.bQ AD _,nss++[mT (xR+(t:Int)*26 ^ d) n],n,_,_,hdn,RT,Z,?_,?_,qc hnd hnm,λx hx=>?_⟩
   .rw [ak];unfold tW;rw[bw];rfl
   .rw [c8,hnl];rfl
   .rcases fk.mp hx with z|z
    .exact hok x z
    .rw [eE.mp z];exact ac9 _ (by omega) RT
 rintro σ H2 ⟨g,nss,n,s1,s2,hdn,RT,rfl,hn,hnl,hnd,hok⟩;exact⟨_,Z,q pn nss H2 g hn AD (by omega) hnd hok⟩
abbrev wL:Stmt:=top 33
abbrev tP:Da Str:=["_law_script","_law_k","_law_j"]
abbrev PB:Da Str:=tP.append ["_law_size"]
def BR:aJ PB tP (ay wL):=dh
theorem Oa(F:At K mg "_law_much" wL f fd)(bf:Dn P w K mg base 1 "_law_draw" gw (oH K)):Dn P w K mg base 2 "_law_much" tP (Mv K):=by
 refine F.oA BR λ_ _ _ _ H _ Q E hr h=>?_;obtain⟨⟨a,ns,k,j,rfl,hS,h63,hk,hj,hj2,q⟩⟩:=h;refine⟨_,(@cS.h _ _ _ (aj (aX (i:=3) BR.nd (aG (aK K) (eY (af ao (af ao (af ao (af (aH vC ao ao) ai))))) (bh bf hr (af (qv 0) (af (qv 1) (af (qv 2) (af ao ai)))))))
  (aq (aM (aH cW ao (bh bf hr (af (qv 0) (af (qv 1) (af (aH cW (qv 2) ao) (af (qv 3) ai)))))))))),?_⟩
 refine⟨_,_,Z,Z,⟨by decide,by decide,by decide⟩,(gM 4),λp1 hp1=>?_⟩;have g1:=aA hp1 (.lst [V.int 9,V.int 40,V.int 1000,V.int (10 ^ (9:Int).toNat)]);refine⟨_,Z,_,Z,_,Z,dJ (g1.seq hS) h63 hk hj (by omega) (by decide) λd _ d0 d1=>?_⟩;obtain⟨B,hB,hB0,hB1⟩:∃B:Int,qa [V.int 9,V.int 40,V.int 1000,V.int (10 ^ (9:Int).toNat)] d=some (.int B)/\0<B/\B<=1000000000:=by
  rcases(by omega:d=0\/d=1\/d=2\/d=3)with e|e|e|e
  .exact ⟨9,by rw[e];rfl,by decide,by decide⟩
  .exact ⟨40,by rw[e];rfl,by decide,by decide⟩
  .exact ⟨1000,by rw[e];rfl,by decide,by decide⟩
  .exact ⟨10 ^ (9:Int).toNat,by rw[e];rfl,by decide,by decide⟩
 refine⟨p1,_,_,_,Z,Z,az.of ak,hB,?_⟩;refine⟨_,Z,_,Z,_,Z,_,_,Z,Z,_,Z,dJ (g1.seq hS) h63 hk (by omega) (by omega) hB0 λe _ e0 e1=>⟨_,_,Z,Z,?_⟩⟩;exact q (1+e) _ (by omega) (by omega) g1
abbrev yf:Stmt:=top 52
abbrev lU:Da Str:=["_law_found"]
abbrev TR:Da Str:=lU
def PD:aJ TR lU (ay yf):=dh
def PF(F:At K mg "_law_int" yf f fd)(aS:mg "isinstance"=none)(CN:mg "int"=none)(Ob:mg "bool"=none):Dn P w K mg base 1 "_law_int" lU Fc:=by refine F.oA PD λ_ _ _ _ H _ Q E hr h=>?_;obtain⟨i,rfl,q⟩:=h;refine⟨_,(@cS.h _ _ _ (aq (aM (Nq (aF (dM K) (by rfl) aS lG (af (qv 0) (af (kP PyProof.Rows.boot_int rfl CN) ai))) (Nl (ad2 (aF (dM K) (by rfl) aS lG (af (qv 0) (af (kP PyProof.Rows.boot_bool rfl Ob) ai))))))))),?_⟩;refine⟨_,Z,_,_,_,_,Z,h_.int i,ia,_,Z,jE ?_⟩;refine⟨_,Z,_,_,_,_,Z,h_.int i,Ml,_,Z,?_⟩;exact q
abbrev uL:Stmt:=top 54
abbrev nG:Da Str:=["_law_top","_law_bottom"]
abbrev Oc:Da Str:=nG.append ["_law_one","_law_other"]
def pD:aJ Oc nG (ay uL):=dh
theorem KL(F:At K mg "_law_least" uL f fd)(TU:mg "abs"=none):Dn P w K mg base 1 "_law_least" nG CA:=by
 refine F.oA pD λ_ _ _ _ H _ Q E hr h=>?_;obtain⟨⟨t,b,rfl,hb,hb2,q⟩⟩:=h;refine⟨_,(@cS.h _ _ _ (aj (aX (i:=2) pD.nd (aF Xs (by rfl) TU PyProof.Rows.boot_abs (af (qv 0) ai)))
  (aj (aX (i:=3) pD.nd (qv 1))
  (aj (D7 fC (aP sY (qv 3) ao (aZ _)) (aq (V9 (i:=2) (j:=3) rfl pD.nd rfl rfl (by decide) rfl rfl (af (qv 3) (af (aH kT (qv 2) (qv 3)) ai)) (by rfl))))
  (aq (aM (iU (af (aH iF (qv 0) (qv 2)) (af (aH iF (qv 1) (qv 2)) ai))))))))),?_⟩
 refine⟨_,Z,_,Z,_,Z,?_⟩;refine⟨λm σ H'=>∃x y:Int,m=y.toNat/\σ=[some (.int t),some (.int b),some (.int x),some (.int y)]/\H'=H/\0<=x/\0<=y/\Jm.cf x y=Jm.cf b t,
  ⟨_,(if t<0 then -t else t),b,Z,Z,Z,(by split <;> omega),zA hb,(by rw[Jm.Q2,Jm.acU])⟩,?_⟩
 rintro m σ H' ⟨x,y,rfl,rfl,rfl,hx,hy,e⟩;refine⟨_,Z,Z,_,Z,dg (λc=>?_) (λc=>?_)⟩
 .have c1:¬ V.int y=V.int 0:=kF (by simpa using c);have c':0<y:=by have:y≠0:=λz=>c1 (by rw[z]);omega
  refine⟨_,λ_ _ z=>z,?_⟩;refine⟨_,Z,_,Z,_,Z,_,_,Z,Z,c',_,_,Z,?_⟩;have h1:0<=x % y:=oX _ (by omega);have h2:x % y<y:=zf _ c';exact⟨_,(by omega:(x % y).toNat<y.toNat),y,x % y,Z,Z,Z,hy,h1,(Jm.HF x y c').trans e⟩
 .have c1:V.int y=V.int 0:=by simpa using c
  have ey:y=0:=V.int.inj c1;subst ey;rw[Jm.Q0 x hx]at e;subst e;have g0:0<Jm.cf b t:=Jm.E_ _ _ (.inl hb);have g1:Jm.Sz 9000 (Jm.cf b t):=hb2.dvd hb (zA g0) (Jm.tD b t);have gd:∀i,Cw i (Jm.cf b t):=λi=>vI g0 g1;refine⟨_,Z,_,Z,_,_,Z,Z,gd _,_,Z,_,Z,_,_,Z,Z,gd _,(gM 2),λp hp=>?_⟩;refine q p _ (aA hp _) ?_;rw[ak];show some (HO.tup [V.int (t / Jm.cf b t),V.int (b / Jm.cf b t)])=some (HO.tup [V.int (Jm.fr t b).num,V.int ((Jm.fr t b).den:Int)]);rw[Jm.U7 t b hb,Jm.Mm t b hb]
abbrev Ak:Stmt:=top 55
abbrev xS:Da Str:=["_law_found","_law_top","_law_bottom"]
abbrev WG:Da Str:=xS
def TV:aJ WG xS (ay Ak):=dh
def TY(F:At K mg "_law_is" Ak f fd)(fH:Dn P w K mg base 1 "_law_int" lU Fc)(lF:Dn P w K mg base 1 "_law_least" nG CA)(aS:mg "isinstance"=none)(iI:mg "tuple"=none)(bg:mg "len"=none):Dn P w K mg base 2 "_law_is" xS XZ:=by
 refine F.oA TV λ_ _ _ _ H _ Q E hr h=>?_
 obtain⟨⟨p,q,t,b,rfl,hp,h0,h1,e,hq⟩⟩:=h
 refine⟨_,(@cS.h _ _ _ (aj (bZ (gK (bW.pt (ki (d9 (dX (aF (dM K) (by rfl) aS lG (af (qv 0) (af (kP LH rfl iI) ai))))) (jI (aP sY (aF (bL K) (by rfl) bg c9 (af (qv 0) ai)) ao (aZ _)))))) (aq (aM gc)) aQ)
  (aj (bZ (gK (bW.pt (ki (d9 (dX (bh fH hr (af (aG (bM K) (qv 0) ao) ai)))) (jI (d9 (dX (bh fH hr (af (aG (bM K) (qv 0) ao) ai)))))))) (aq (aM gc)) aQ)
  (aq (aM (su (HJ K hr.units) (qv 0) (bh lF hr (af (qv 1) (af (qv 2) ai))) (aZ _))))))),?_⟩
 refine⟨false,?_,cA ?_⟩
 . refine⟨_,Z,_,_,_,_,Z,h_.tup hp,ia,_,Z,cA ?_⟩
   exact⟨_,Z,_,_,Z,.inr (cV.of hp),Z,_,Z,Z,Z⟩
 refine⟨false,?_,cA ?_⟩
 . refine⟨_,Z,p,_,_,_,Z,Z,cV.of hp,Z,_,Z,_,Z,cA ?_⟩
   exact⟨_,Z,p,_,_,_,Z,Z,cV.of hp,Z,_,Z,_,Z,Z,Z⟩
 refine⟨_,Z,_,Z,_,Z,Jx h0 h1 λr H1 g1 hr1=>?_⟩
 rw[<-e]at hr1
 refine⟨_,_,Vd (g1 _ _ hp),Vd hr1,Dh _ _,Dh _ _,?_⟩
 rw[XY]
 exact hq H1 g1
abbrev oq:Stmt:=top 53
abbrev lV:Da Str:=["_law_found","_law_parts"]
abbrev Ep:Da Str:=lV.append ["_law_at_here","_law_one"]
def ou:aJ Ep lV (ay oq):=dh
theorem CT(F:At K mg "_law_part_list" oq f fd)(fH:Dn P w K mg base 1 "_law_int" lU Fc)(aS:mg "isinstance"=none)(dm:mg "list"=none)(iI:mg "tuple"=none)(qZ:mg "str"=none)(bq:mg "range"=none)(bg:mg "len"=none):Dn P w K mg base 2 "_law_part_list" lV (FF K):=by
 refine F.oA ou λ_ _ _ _ H _ Q E hr h=>?_;obtain⟨⟨r,l,ws,us,ps,rfl,hr0,hP,hl,hR,hN,hle,q⟩⟩:=h;refine⟨_,(@cS.h _ _ _ (aj (bZ (gK (bW.pt (ki (d9 (dX (aF (dM K) (by rfl) aS lG (af (qv 0) (af (kP vz rfl dm) ai))))) (jI (aP sY (aF (bL K) (by rfl) bg c9 (af (qv 0) ai)) (aF (bL K) (by rfl) bg c9 (af (qv 1) ai)) (aZ _)))))) (aq (aM gc)) aQ)
  (aj (dP fC rfl (ef (by rfl) bq (af (aF (bL K) (by rfl) bg c9 (af (qv 1) ai)) ai)) (aL (i:=2) ou.nd) (aj (aX (i:=3) ou.nd (aG (aK K) (qv 0) (qv 2)))
  (aj (bZ (gK (bW.pt (ki (d9 (dX (aF (dM K) (by rfl) aS lG (af (qv 3) (af (kP LH rfl iI) ai))))) (jI (aP sY (aF (bL K) (by rfl) bg c9 (af (qv 3) ai)) ao (aZ _)))))) (aq (aM gc)) aQ)
  (aj (bZ (gK (bW.pt (ki (d9 (dX (aF (dM K) (by rfl) aS lG (af (aG (bM K) (qv 3) ao) (af (kP LK rfl qZ) ai))))) (jI (d9 (dX (aF (dM K) (by rfl) aS lG (af (aG (bM K) (qv 3) ao) (af (kP LK rfl qZ) ai))))))))) (aq (aM gc)) aQ)
  (aj (bZ (gK (bW.pt (ki (d9 (dX (bh fH hr (af (aG (bM K) (qv 3) ao) ai)))) (jI (d9 (dX (bh fH hr (af (aG (bM K) (qv 3) ao) ai)))))))) (aq (aM gc)) aQ)
  (aq (bZ (aP (HK K hr.units) (qv 3) (iU (af (aG (qg K) (aG (aK K) (qv 1) (qv 2)) ao) (af (aG (qg K) (aG (aK K) (qv 1) (qv 2)) ao) (af (aG (qg K) (aG (aK K) (qv 1) (qv 2)) ao) (af (aG (qg K) (aG (aK K) (qv 1) (qv 2)) ao) ai))))) (aZ _)) (aq (aM gc)) aQ)))))))
  (aq (aM gc))))),?_⟩
 have hwl:=hP.length;have NO:=hR.len;refine⟨false,?_,cA ?_⟩
 .refine ⟨_,Z,_,_,_,_,Z,h_.lst hr0,ia,_,Z,cA ?_⟩;refine⟨_,Z,_,_,Z,.inl (az.of hr0),_,Z,_,_,Z,.inl hl,Z,_,Z,?_,Z⟩;show(!decide (V.int (ws.length:Int)=V.int (us.length:Int)))=false;rw[cy (by rw[hwl,NO])];rfl
 refine⟨_,Z,l,us,Z,.inl hl,_,Z,by omega,by omega,?_⟩;refine gh (lo:=0) (n:=((us.length:Nat):Int).toNat) (λi σ H'=>aE H H'/\∃(s1 s2:Option V),σ=[some (.ref r),some (.ref l),s1,s2]) ⟨aE.refl _,none,none,Z⟩ ?_ ?_
 .rintro i σ H' hi ⟨g,s1,s2,rfl⟩;have e0:(0:Int)+(i:Int)=((i:Nat):Int):=by omega
  rw[e0];have hi':i<ps.length:=by omega
  have ep:=aY hi';obtain⟨t,et,ht⟩:=hP.get ep;obtain⟨u,xs,eu,hu,x0,x1,x2,x3⟩:=(hR.mono g).at_ i _ ep;have ht':=g _ _ ht;obtain⟨n1,n2⟩:=hN _ (uZ hi');have hr1:=g _ _ hr0;have hl1:=g.seq hl;refine⟨_,Z,_,Z,r,ws,i,.ref t,Z,Z,az.of hr1,iY et,?_⟩;refine⟨false,⟨_,Z,_,_,_,_,Z,h_.tup ht',ia,_,Z,cA ⟨_,Z,_,_,Z,.inr (cV.of ht'),Z,_,Z,Z,Z⟩⟩,cA ?_⟩;refine⟨false,⟨_,Z,t,_,_,_,Z,Z,cV.of ht',Z,_,_,_,_,Z,h_.str _,ia,_,Z,cA ⟨_,Z,t,_,_,_,Z,Z,cV.of ht',Z,_,_,_,_,Z,h_.str _,ia,_,Z,Z,Z⟩⟩,cA ?_⟩;refine⟨false,⟨_,Z,t,_,_,_,Z,Z,cV.of ht',Z,_,Z,_,Z,cA ⟨_,Z,t,_,_,_,Z,Z,cV.of ht',Z,_,Z,_,Z,Z,Z⟩⟩,cA ?_⟩;refine⟨_,Z,_,Z,_,Z,l,us,i,.ref u,Z,Z,hl1,iY eu,hu.ix (i:=0) x0 ?_⟩;refine⟨_,Z,_,Z,l,us,i,.ref u,Z,Z,hl1,iY eu,hu.ix (i:=1) x1 ?_⟩;refine⟨_,Z,_,Z,l,us,i,.ref u,Z,Z,hl1,iY eu,hu.ix (i:=2) x2 ?_⟩;refine⟨_,Z,_,Z,l,us,i,.ref u,Z,Z,hl1,iY eu,hu.ix (i:=3) x3 ?_⟩;refine⟨(gM 4),λp1 hp1=>?_⟩;have g1:=aA hp1 (CD ps[i]);refine⟨_,_,Rk (g1 _ _ ht'),Rk (p:=ps[i]) ak,Dm n1 n2,Dm n1 n2,_,Z,?_⟩;rw[Ym];exact cA ⟨g.trans g1,_,_,Z⟩
 rintro σ H' ⟨g,s1,s2,rfl⟩;exact q H' g
abbrev nH:Stmt:=top 56
abbrev jk:Da Str:=["_law_found","_law_owners","_law_tops","_law_bottom"]
abbrev CU:Da Str:=jk.append ["_law_due_here","_law_at_here","_law_pair"]
def ko:aJ CU jk (ay nH):=dh
theorem BU(F:At K mg "_law_share_list" nH f fd)(lF:Dn P w K mg base 1 "_law_least" nG CA)(BV:Dn P w K mg base 2 "_law_is" xS XZ)(aS:mg "isinstance"=none)(dm:mg "list"=none)(iI:mg "tuple"=none)(qZ:mg "str"=none)(bq:mg "range"=none)(bg:mg "len"=none):Dn P w K mg base 3 "_law_share_list" jk (Ed K):=by
 refine F.oA ko λ_ _ _ _ H _ Q E hr h=>?_;obtain⟨⟨r,lo,lt,ws,own,tops,b,rfl,hr0,hS,ho,ht,hlen,hle,b0,bz,q⟩⟩:=h;refine⟨_,(@cS.h _ _ _ (aj (YL (i:=4) ["_law_at_here","_law_tops","_law_owners","_law_bottom"] [none,some 2,some 1,some 3] ko.nd rfl rfl rfl (ef (by rfl) bq (af (aF (bL K) (by rfl) bg c9 (af (qv 2) ai)) ai)) (λ_ _ _ _=>(aL (i:=0) (show List.Nodup (["_law_at_here","_law_tops","_law_owners","_law_bottom"] :Da Str)from by decide +kernel))) (λ_ _ _ _=>(iU (af (aG (aK K) (qv 2) (qv 0)) (af (bh lF hr (af (aG (aK K) (qv 1) (qv 0)) (af (qv 3) ai))) ai)))) (λ_ _ _ _=>(aP iX (aG (aK K) (qv 1) (qv 0)) ao (aZ _))) rfl (by rfl) (by rfl))
  (aj (bZ (gK (bW.pt (ki (d9 (dX (aF (dM K) (by rfl) aS lG (af (qv 0) (af (kP vz rfl dm) ai))))) (jI (aP sY (aF (bL K) (by rfl) bg c9 (af (qv 0) ai)) (aF (bL K) (by rfl) bg c9 (af (qv 4) ai)) (aZ _)))))) (aq (aM gc)) aQ)
  (aj (dP fC rfl (ef (by rfl) bq (af (aF (bL K) (by rfl) bg c9 (af (qv 4) ai)) ai)) (aL (i:=5) ko.nd) (aj (aX (i:=6) ko.nd (aG (aK K) (qv 0) (qv 5)))
  (aj (bZ (gK (bW.pt (ki (d9 (dX (aF (dM K) (by rfl) aS lG (af (qv 6) (af (kP LH rfl iI) ai))))) (ki (aP sY (aF (bL K) (by rfl) bg c9 (af (qv 6) ai)) ao (aZ _)) (jI (aP sY (aG (bM K) (qv 6) ao) (aG (bM K) (aG (aK K) (qv 4) (qv 5)) ao) (aZ _))))))) (aq (aM gc)) aQ)
  (aq (bZ (bW.pt (ki (d9 (dX (aF (dM K) (by rfl) aS lG (af (aG (bM K) (qv 6) ao) (af (kP LK rfl qZ) ai))))) (jI (d9 (dX (bh BV hr (af (aG (bM K) (qv 6) ao) (af (aG (bM K) (aG (bM K) (aG (aK K) (qv 4) (qv 5)) ao) ao) (af (aG (bM K) (aG (bM K) (aG (aK K) (qv 4) (qv 5)) ao) ao) ai))))))))) (aq (aM gc)) aQ)))))
  (aq (aM gc)))))),?_⟩
 have tml:(tops.map V.int).length=tops.length:=aD ..;have oml:(own.map V.str).length=own.length:=aD ..;refine⟨_,Z,lt,_,Z,.inl ht,_,Z,by omega,by omega,λBM Bn=>?_⟩;refine Q8 (J:=Jo 0 _) (n:=tops.length) 0 (λi out H1=>aE H H1/\iR H1 out (dD (own.take i) (tops.take i) b)) (by omega) ⟨aA Bn _,.nil⟩ (λi out H1 hi _ _=>by show i<((tops.map V.int).length:Int).toNat;omega) (λout H1 _ _=>by show((tops.map V.int).length:Int).toNat<=tops.length;omega) ?_ ?_
 .rintro i x out H1 H2 hi dY ha ⟨g,S⟩ ⟨rfl,rfl⟩;have e0:(0:Int)+(i:Int)=((i:Nat):Int):=by omega
  rw[e0];have et:=aY hi;have eo:=aY (show i<own.length from by omega);have et':(tops.map V.int)[i]?=some (.int tops[i]):=by rw[bH,et];rfl
  have eo':(own.map V.str)[i]?=some (.str own[i]):=by rw[bH,eo];rfl
  have Z2:dD (own.take (i+1)) (tops.take (i+1)) b=dD (own.take i) (tops.take i) b++(if 0<tops[i] then[(own[i],Jm.fr tops[i] b)] else[]):=by
   unfold dD;rw[take_snoc eo,take_snoc et,List.zip_append (by rw[kL,kL];omega),List.filterMap_append];congr 1;show List.filterMap _ [(own[i],tops[i])]=_;rw[AL];by_cases c:0<tops[i]
   .simp [c]
   .simp [c]
  refine⟨_,Z,_,Z,lt,_,i,_,Z,Z,g.seq ht,iY et',_,_,Z,Z,_,Z,dg (λc=>?_) (λc=>?_)⟩
  .have c':0<tops[i] :=dH c;rw[aC c']at Z2;refine⟨_,Z,_,Z,lo,_,i,_,Z,Z,g.seq ho,iY eo',_,Z,_,Z,lt,_,i,_,Z,Z,g.seq ht,iY et',_,Z,Jx b0 bz λp2 H3 g3 hp2=>⟨(gM 2),λp3 hp3=>?_⟩⟩;have g4:=aA hp3 (.tup [.str own[i],.ref p2]);have wM:=g3.trans g4;refine⟨wM _ _ ha,(g.trans wM).bQ Bn _,?_⟩;rw[Z2];exact((S.mono wM.tups).snoc ak (g4 _ _ hp2)).mono (jw (.inr ⟨_,wM _ _ ha,Z⟩))
  .have c':¬ 0<tops[i] :=kF (gX.mpr c);rw[aB c',u0]at Z2;exact⟨ha,g,by rw[Z2];exact S⟩
 rintro du H1 dY ha ⟨g1,D1⟩;rw[bV,YY]at D1;have hr1:=g1 _ _ hr0;have yW:=hS.mono g1.tups;have l1:=yW.length;have l2:=D1.length;have l3:(dD own tops b).length<=1000:=by unfold dD;refine fZ (List.length_filterMap_le _ _) ?_;rw[List.length_zip];omega
 have ajB:∀x q,(x,q)∈dD own tops b->Jm.Sz 9000 (q.den:Int):=λx q m=>Kn b0 bz m;generalize dD own tops b=sh at *;refine⟨false,?_,cA ?_⟩
 .refine ⟨_,Z,_,_,_,_,Z,h_.lst hr1,ia,_,Z,cA ?_⟩;refine⟨_,Z,_,_,Z,.inl (az.of hr1),_,Z,_,_,Z,.inl (az.of ha),Z,_,Z,?_,Z⟩;show(!decide (V.int (ws.length:Int)=V.int (du.length:Int)))=false;rw[cy (by rw[l1,l2])];rfl
 refine⟨_,Z,BM,du,Z,.inl (az.of ha),_,Z,by omega,by omega,?_⟩;refine gh (lo:=0) (n:=((du.length:Nat):Int).toNat) (λi σ H'=>aE H1 H'/\∃(s1 s2:Option V),σ=[some (.ref r),some (.ref lo),some (.ref lt),some (.int b),some (.ref BM),s1,s2]) ⟨aE.refl _,none,none,Z⟩ ?_ ?_
 .rintro i σ H' hi ⟨g,s1,s2,rfl⟩;have e0:(0:Int)+(i:Int)=((i:Nat):Int):=by omega
  rw[e0];have hi':i<sh.length:=by omega
  obtain⟨xq,exq⟩:∃xq,sh[i]?=some xq:=⟨_,aY hi'⟩
  obtain⟨x,qq⟩:=xq;obtain⟨r1,f1,a1,a2,a3⟩:=yW.get exq;obtain⟨r2,f2,b1,b2,b3⟩:=D1.get exq;have a2':=g _ _ a2;have a3':=g _ _ a3;have b2':=g _ _ b2;have b3':=g _ _ b3;have TZ:=g _ _ ha;refine⟨_,Z,_,Z,r,ws,i,.ref r1,Z,Z,az.of (g _ _ hr1),iY a1,?_⟩;refine⟨false,⟨_,Z,_,_,_,_,Z,h_.tup a2',ia,_,Z,cA ⟨_,Z,_,_,Z,.inr (cV.of a2'),Z,_,Z,cA ?_⟩⟩,cA ?_⟩
  .refine ⟨_,Z,r1,_,_,_,Z,Z,cV.of a2',Z,_,Z,_,Z,BM,du,i,.ref r2,Z,Z,az.of TZ,iY b1,r2,_,_,_,Z,Z,cV.of b2',Z,Z,_,Z,?_,Z⟩;show(!decide (V.str x=V.str x))=false;rw[cy rfl];rfl
  refine⟨_,Z,r1,_,_,_,Z,Z,cV.of a2',Z,_,_,_,_,Z,h_.str _,ia,_,Z,cA ?_⟩;refine⟨_,Z,r1,_,_,_,Z,Z,cV.of a2',Z,?_⟩;refine⟨_,Z,_,Z,BM,du,i,.ref r2,Z,Z,az.of TZ,iY b1,r2,_,_,_,Z,Z,cV.of b2',Z,f2,_,_,_,Z,Z,cV.of b3',Z,?_⟩;refine⟨_,Z,_,Z,BM,du,i,.ref r2,Z,Z,az.of TZ,iY b1,r2,_,_,_,Z,Z,cV.of b2',Z,f2,_,_,_,Z,Z,cV.of b3',Z,?_⟩;exact ac4 a3' (Jm.den_pos _) (ajB _ _ (bK exq)) (Jm.aaz _).symm λH3 g3=>⟨_,Z,cA ⟨g.trans g3,_,_,Z⟩⟩
 rintro σ H' ⟨g,s1,s2,rfl⟩;exact q H' (g1.trans g)
abbrev uM:Stmt:=top 32
abbrev q_:Da Str:=["_law_owners"]
abbrev Od:Da Str:=q_
def KN:aJ Od q_ (ay uM):=dh
def KO(F:At K mg "_law_model" uM f fd)(dm:mg "list"=none):Dn P w K mg base 1 "_law_model" q_ (Rr K):=by
 refine F.oA KN λ_ _ _ _ H _ Q E hr h=>?_;obtain⟨⟨l,own,n,ρ,rfl,hl,G,hle,q⟩⟩:=h;refine⟨_,(@cS.h _ _ _ (aq (aM (abj (v8 aU (kh (lZ K) (by rfl) dm vz (af (qv 0) ai)) (v8 aU (eY ai) (v8 aU ao (v8 aU (eY ai) (v8 aU (eY ai) abi))))) (by rfl) (by rfl) (λz=>nomatch z) (by with_unfolding_all decide))))),?_⟩;intro m hm;have g0:=aA hm (.dK []);have em0:upd H m (.dK []) m=some (.dK []):=ak;have iD:=g0.seq hl;generalize upd H m (.dK [])=H0 at *;refine⟨_,Z,l,_,Z,.inl iD,λlo hlo=>?_⟩;have g1:=aA hlo (.lst (own.map V.str));have DI:upd H0 lo (.lst (own.map V.str)) lo=some (.lst (own.map V.str)):=ak;have xT:=g1 _ _ em0;generalize upd H0 lo (.lst (own.map V.str))=H1 at *;refine⟨(gM 0),λlp wc=>?_⟩;have g2:=aA wc (.lst []);have ep2:upd H1 lp (.lst []) lp=some (.lst []):=ak;have eo2:=g2 _ _ DI;have em2:=g2 _ _ xT;show AW _ _ (upd H1 lp (.lst [])) _;generalize upd H1 lp (.lst [])=H2 at *;refine⟨(gM 0),λla hla=>?_⟩;have g3:=aA hla (.lst []);have Z3:upd H2 la (.lst []) la=some (.lst []):=ak;have ep3:=g3 _ _ ep2;have eo3:=g3 _ _ eo2;have em3:=g3 _ _ em2;show AW _ _ (upd H2 la (.lst [])) _;generalize upd H2 la (.lst [])=H3 at *;refine⟨(gM 0),λlk hlk=>?_⟩;have g4:=aA hlk (.lst []);have ek4:upd H3 lk (.lst []) lk=some (.lst []):=ak;have WH:=g4 _ _ Z3;have ep4:=g4 _ _ ep3;have eo4:=g4 _ _ eo3;have WI:=g4 _ _ em3;show upd H3 lk (.lst []) m=_/\_;generalize upd H3 lk (.lst [])=H4 at *;have gA:=((g0.trans g1).trans g2).trans (g3.trans g4);have n1:lo≠m:=λe=>by rw[e,em0]at hlo;cases hlo
 have n2:lp≠m:=λe=>by rw[e,xT]at wc;cases wc
 have n3:lp≠lo:=λe=>by rw[e,DI]at wc;cases wc
 have n4:la≠m:=λe=>by rw[e,em2]at hla;cases hla
 have n5:la≠lo:=λe=>by rw[e,eo2]at hla;cases hla
 have n6:la≠lp:=λe=>by rw[e,ep2]at hla;cases hla
 have n7:lk≠m:=λe=>by rw[e,em3]at hlk;cases hlk
 have n8:lk≠lo:=λe=>by rw[e,eo3]at hlk;cases hlk
 have n9:lk≠lp:=λe=>by rw[e,ep3]at hlk;cases hlk
 have nA:lk≠la:=λe=>by rw[e,Z3]at hlk;cases hlk
 refine⟨WI,[(Sum.inr "owners",.ref lo),(Sum.inr "parts",.ref lp),(Sum.inr "bottom",.int 1),(Sum.inr "ashore",.ref la),(Sum.inr "known",.ref lk)],Z,by show 5<=15;decide,?_⟩;have eK:yv [] [(Sum.inr "owners",.ref lo),(Sum.inr "parts",.ref lp),(Sum.inr "bottom",.int 1),(Sum.inr "ashore",.ref la),(Sum.inr "known",.ref lk)]=fL ⟨m,lo,lp,la,lk,[]⟩ 1:=rfl;rw[eK];have u1:upd H4 m (.dK (fL ⟨m,lo,lp,la,lk,[]⟩ 1)) m=some (.dK (fL ⟨m,lo,lp,la,lk,[]⟩ 1)):=ak;have u2:upd H4 m (.dK (fL ⟨m,lo,lp,la,lk,[]⟩ 1)) lo=some (.lst (own.map V.str)):=by rw[av n1];exact eo4
 have u3:upd H4 m (.dK (fL ⟨m,lo,lp,la,lk,[]⟩ 1)) lp=some (.lst []):=by rw[av n2];exact ep4
 have u4:upd H4 m (.dK (fL ⟨m,lo,lp,la,lk,[]⟩ 1)) la=some (.lst []):=by rw[av n4];exact WH
 have u5:upd H4 m (.dK (fL ⟨m,lo,lp,la,lk,[]⟩ 1)) lk=some (.lst []):=by rw[av n7];exact ek4
 have G4:=(G.same gA).wr (a:=m) (o:=.dK (fL ⟨m,lo,lp,la,lk,[]⟩ 1)) rfl;have hz:∀b o,H b=some o->upd H4 m (.dK (fL ⟨m,lo,lp,la,lk,[]⟩ 1)) b=some o:=λb o e=>by rw[av (λz=>by rw[z,hm]at e;cases e)];exact gA _ _ e
 have y1:H lo=none:=g0.free hlo;have y2:H lp=none:=(g0.trans g1).free wc;have y3:H la=none:=((g0.trans g1).trans g2).free hla;have y4:H lk=none:=(((g0.trans g1).trans g2).trans g3).free hlk;generalize upd H4 m (.dK (fL ⟨m,lo,lp,la,lk,[]⟩ 1))=H5 at *;refine q (b_ (b_ (b_ (b_ (b_ ρ m (n,20,⟨#[]⟩)) lo (n,21,⟨#[]⟩)) lp (n,22,⟨#[]⟩)) la (n,25,⟨#[]⟩)) lk (n,26,⟨#[]⟩)) ⟨m,lo,lp,la,lk,[]⟩ H5 (((((G4.color u1 rfl).color u2 rfl).color u3 rfl).color u4 rfl).color u5 rfl) ⟨u1,?_,u2,?_,u3,?_,⟨[],u4,.nil⟩,?_,u5,dz,Z,λi p q e=>by simp at e⟩ (λb o e=>⟨hz b o e,?_⟩)
 .show b_ _ lk _ m=_;rw[cC (cD n7),cC (cD n4),cC (cD n2),cC (cD n1),dz]
 .show b_ _ lk _ lo=_;rw[cC (cD n8),cC (cD n5),cC (cD n3),dz]
 .show b_ _ lk _ lp=_;rw[cC (cD n9),cC (cD n6),dz]
 .show b_ _ lk _ la=_;rw[cC (cD nA),dz]
 .rw [cC (aI e y4),cC (aI e y3),cC (aI e y2),cC (aI e y1),cC (aI e hm)]
abbrev wN:Stmt:=top 34
abbrev oU:Da Str:=["_law_owners","_law_name_here"]
abbrev PJ:Da Str:=oU.append ["_law_at_here"]
def BW:aJ PJ oU (ay wN):=dh
theorem Oe(F:At K mg "_law_seat" wN f fd)(bg:mg "len"=none)(bq:mg "range"=none):Dn P w K mg base 1 "_law_seat" oU (MY K):=by
 refine F.oA BW λ_ _ _ _ H _ Q E hr h=>?_;obtain⟨⟨l,own,o,rfl,hl,ho,hle,q⟩⟩:=h;refine⟨_,(@cS.h _ _ _ (aj (dP fC rfl (ef (by rfl) bq (af (aF (bL K) (by rfl) bg c9 (af (qv 0) ai)) ai)) (aL (i:=2) BW.nd) (aq (bZ (aP gQ (aG (aK K) (qv 0) (qv 2)) (qv 1) (aZ _)) (aq (aM (qv 2))) aQ)))
  (aq (aM (Aa vD ao))))),?_⟩
 have ll:(own.map V.str).length=own.length:=aD _;refine⟨_,Z,l,_,Z,.inl hl,_,Z,by omega,by omega,?_⟩;refine gh (lo:=0) (n:=(((own.map V.str).length:Nat):Int).toNat) (λi σ H'=>H'=H/\o∉own.take i/\∃s2,σ=[some (.ref l),some (.str o),s2]) ⟨Z,by simp,_,Z⟩ ?_ ?_
 .rintro i σ H' hi ⟨rfl,hn,s2,rfl⟩;have e0:(0:Int)+(i:Int)=((i:Nat):Int):=by omega
  rw[e0];have hio:i<own.length:=by omega
  have ei:=aY hio;refine⟨_,Z,_,Z,l,_,_,_,Z,Z,hl,aO (by rw[bH,ei];rfl),_,Z,Z,_,Z,dg (λc=>?_) (λc=>?_)⟩
  .have c':own[i]=o:=V.str.inj (dH c);refine⟨_,Z,?_⟩;have:own.idxOf o=i:=by
    have h1:own.idxOf o<=i:=by
     rcases Nat.lt_or_ge i (own.idxOf o)with z|z
     .exact absurd c' (by simpa using List.not_of_lt_findIdx z)
     .exact z
    rcases Nat.lt_or_ge (own.idxOf o) i with z|z
    .exact absurd (bK (i:=own.idxOf o) (by rw[List.getElem?_take,aC z];exact JQ ho)) hn
    .omega
   rw[<-this];exact q
  .refine ⟨Z,λm=>?_,_,Z⟩;rw[take_snoc ei]at m;rcases fk.mp m with z|z
   .exact hn z
   .exact c (cy (by rw[eE.mp z]))
 rintro σ H' ⟨rfl,hn,s2,rfl⟩;rw[show(((own.map V.str).length:Nat):Int).toNat=own.length from by omega,bV]at hn;exact absurd ho hn
abbrev pU:Stmt:=top 35
abbrev m8:Da Str:=["_law_model_here","_law_name_here","_law_owner","_law_worth","_law_weight"]
abbrev GB:Da Str:=m8.append ["_law_tops"]
def wO:aJ GB m8 (ay pU):=dh
theorem Er(F:At K mg "_law_new_part" pU f fd)(mD:Dn P w K mg base 1 "_law_seat" oU (MY K)):Dn P w K mg base 2 "_law_new_part" m8 JR:=by
 refine F.oA wO λ_ _ _ _ H _ Q E hr h=>?_;obtain⟨⟨n,ρ,B,b,x,o,wo,we,rfl,G,h,ho,dY,hpl,hkl,q⟩⟩:=h;refine⟨_,(@cS.h _ _ _ (aj (mz (i:=5) ["_law_one"] [none] wO.nd rfl rfl rfl (cY K (bF (bN hr) (qv 0) aU)) (λ_ _ _ _=>(aL (i:=0) (show List.Nodup (["_law_one"] :Da Str)from by decide +kernel))) (λ_ _ _ _=>ao) rfl (by rfl) (by rfl))
  (aj (tZ (bF (bN hr) (qv 0) aU) (t8 (qv 5) (bh mD hr (af (bF (bN hr) (qv 0) aU) (af (qv 2) ai))) set_list))
  (aj (cg (kQ mG pG pH eX (bF (bN hr) (qv 0) aU) (af (eY (af (qv 1) (af (qv 2) (af (qv 3) (af (qv 4) (af (qv 5) ai)))))) ai)))
  (aq (cg (kQ mG pG pH eX (bF (bN hr) (qv 0) aU) (af (qv 1) ai)))))))),?_⟩
 refine⟨_,Z,B.m,_,Z,cE.k (k:=Sum.inr "owners") h.om,B.lo,Z,⟨_,az.of h.oo⟩,λl0 iD=>?_⟩;have ID:(b.own.map V.str).length=b.own.length:=aD _;refine gf (J:=tU K B.lo) (n:=(b.own.map V.str).length) 0 (λi o H'=>aE H H'/\o=(List.replicate i (0:Int)).map V.int) (by omega) ⟨aA iD _,Z⟩ (λi o H' hi _ hp=>⟨_,_,az.of (hp.1 _ _ h.oo),aY hi⟩) (λo H' _ hp=>⟨_,az.of (hp.1 _ _ h.oo),aN _⟩) ?_ ?_
 .rintro i y o H2 H3 hi dY ha ⟨g,e⟩ ⟨rfl,hy⟩;refine⟨ha,g.bQ iD _,?_⟩;subst e;rw[List.replicate_succ',bw];rfl
 rintro o1 H1 _ ha ⟨g1,e⟩;subst e;rw[ID]at ha;have h1:=h.mono g1;have il:b.own.idxOf o<b.own.length:=List.idxOf_lt_length_of_mem ho;have rl:((List.replicate b.own.length (0:Int)).map V.int).length=b.own.length:=by rw[aD,kD]
 refine⟨_,Z,B.m,_,Z,cE.k (k:=Sum.inr "bottom") h1.om,_,Z,_,Z,B.m,_,Z,cE.k (k:=Sum.inr "owners") h1.om,_,Z,⟨⟨B.lo,b.own,o,Z,az.of h1.oo,ho,dY,?_⟩⟩⟩;refine⟨l0,_,_,_,Z,Z,ha,by rw[rl];exact vn il,?_⟩;rw[<-u7];have g2:=g1.bQ iD (.lst (((List.replicate b.own.length (0:Int)).set (b.own.idxOf o) b.bot).map V.int));have ha2:upd H1 l0 (.lst (((List.replicate b.own.length (0:Int)).set (b.own.idxOf o) b.bot).map V.int)) l0=some (.lst (((List.replicate b.own.length (0:Int)).set (b.own.idxOf o) b.bot).map V.int)):=ak;show zL _ _ _ _ (upd H1 l0 (.lst (((List.replicate b.own.length (0:Int)).set (b.own.idxOf o) b.bot).map V.int)));generalize upd H1 l0 (.lst (((List.replicate b.own.length (0:Int)).set (b.own.idxOf o) b.bot).map V.int))=H2 at *;have h2:=h.mono g2;refine⟨_,Z,B.m,_,Z,cE.k (k:=Sum.inr "parts") h2.om,.inl ⟨Z,_,az.of h2.op⟩,_,Z,_,Z,_,Z,_,Z,_,Z,(gM 5),λp hp=>?_⟩;have g3:=aA hp (qh ⟨x,o,wo,we,(List.replicate b.own.length (0:Int)).set (b.own.idxOf o) b.bot⟩ l0);have hp3:upd H2 p (qh ⟨x,o,wo,we,(List.replicate b.own.length (0:Int)).set (b.own.idxOf o) b.bot⟩ l0) p=some (qh ⟨x,o,wo,we,(List.replicate b.own.length (0:Int)).set (b.own.idxOf o) b.bot⟩ l0):=ak;show ng _ (upd H2 p (qh ⟨x,o,wo,we,(List.replicate b.own.length (0:Int)).set (b.own.idxOf o) b.bot⟩ l0)) _;generalize upd H2 p (qh ⟨x,o,wo,we,(List.replicate b.own.length (0:Int)).set (b.own.idxOf o) b.bot⟩ l0)=H3 at *;have AD:H p=none:=g2.free hp;have Of:=g2.trans g3;have cl0:ρ l0=none:=G.none iD;have np:p≠l0:=λe=>by rw[e,ha2]at hp;cases hp
 have cp:b_ ρ l0 (n,24,x) p=none:=by rw[cC np];exact G.none AD
 have h3:aV n (b_ (b_ ρ l0 (n,24,x)) p (n,23,x)) B H3 b:=((h.mono Of).col cl0).col cp;have G3:Gh (b_ (b_ ρ l0 (n,24,x)) p (n,23,x)) H3:=((G.same Of).color (g3 _ _ ha2) rfl).color hp3 rfl;have F3:Fr n ρ H (b_ (b_ ρ l0 (n,24,x)) p (n,23,x)) H3:=((Fr.of_same Of).nv iD).nv AD;have c1:b_ (b_ ρ l0 (n,24,x)) p (n,23,x) p=some (n,23,x):=dz;have c2:b_ (b_ ρ l0 (n,24,x)) p (n,23,x) l0=some (n,24,x):=by rw[cC (cD np),dz]
 have WE:=g3 _ _ ha2;refine⟨B.lp,_,_,Z,Z,h3.op,by rw[aD,h.ql];exact dU hpl,?_⟩;rw[show B.qs.map (λq=>V.ref q.1)++[V.ref p]=(B.qs++[(p,l0)]).map (λq=>V.ref q.1)from by rw[bw];rfl];have h4:=h3.adI G3 (p:=⟨x,o,wo,we,(List.replicate b.own.length (0:Int)).set (b.own.idxOf o) b.bot⟩) (q:=(p,l0)) hp3 WE c1 c2;have G4:=G3.wr (a:=B.lp) (o:=.lst ((B.qs++[(p,l0)]).map λq=>V.ref q.1)) rfl;have F4:=F3.trans (Fr.write (o:=.lst ((B.qs++[(p,l0)]).map λq=>V.ref q.1)) h3.cp);generalize upd H3 B.lp (.lst ((B.qs++[(p,l0)]).map λq=>V.ref q.1))=H4 at *;refine⟨_,Z,B.m,_,Z,cE.k (k:=Sum.inr "known") h4.om,.inl ⟨Z,_,az.of h4.ok⟩,_,Z,B.lk,_,_,Z,Z,h4.ok,by rw[aD];exact dU hkl,?_⟩;rw[show b.dG.map V.str++[V.str x]=(b.dG++[x]).map V.str from by rw[bw];rfl];exact q _ _ _ (G4.wr rfl) (h4.aa2 G4 (b.dG++[x])) rfl (F4.trans (Fr.write h4.ck))
abbrev mL:Stmt:=top 57
abbrev kq:Da Str:=["_law_hold","_law_model_here"]
abbrev BX:Da Str:=kq.append ["_law_whole","_law_part"]
def mO:aJ BX kq (ay mL):=dh
theorem AG{T:TC}(F:At K mg "_law_tells_parts" mL f fd)(fH:Dn P w K mg base 1 "_law_int" lU Fc)(pV:Dn P w K mg base 2 "_law_part_list" lV (FF K))(iw:Dn P w K mg base 3 "_law_share_list" jk (Ed K))(wQ:Mn P w K mg base 1 T.hold "parts" qS (Ri T))(ig:Mn P w K mg base 1 T.hold "whole" lB (CF T))(mj:Mn P w K mg base 4 T.hold "shares" l_ (JF T))(fE:mg "sum"=none):Dn P w K mg base 5 "_law_tells_parts" kq (vq 1 T K):=by
 refine F.oA mO λ_ _ _ _ H _ Q E hr h=>?_
 obtain⟨⟨n,m,ρ,A,B,st,b,c,rfl,nm,hh,hb,gd,hc,GC,hkn,q⟩⟩:=h
 refine⟨_,(@cS.h _ _ _ (aj (aX (i:=2) mO.nd (sj ig hr (qv 0)))
  (aj (bZ (bW.pt (ki (d9 (dX (bh fH hr (af (qv 2) ai)))) (jI (aP sY (qv 2) (aF (ju K rfl) (by rfl) fE ue (af (fJ ["_law_part"] [none] rfl (cY K (bF (bN hr) (qv 1) aU)) (λ_ _ _ _=>(aL (i:=0) (show List.Nodup (["_law_part"] :Da Str)from by decide +kernel))) (λ_ _ _ _=>(aG (aK K) (qv 0) ao)) rfl (by rfl)) ai)) (aZ _))))) (aq (aM gc)) aQ)
  (aj (bZ (d9 (dX (bh pV hr (af (sj wQ hr (qv 0)) (af (bF (bN hr) (qv 1) aU) ai))))) (aq (aM gc)) aQ)
  (aj (dP fC rfl (cY K (bF (bN hr) (qv 1) aU)) (aL (i:=3) mO.nd) (aq (bZ (d9 (dX (bh iw hr (af (gu mj hr (qv 0) (af (aG (aK K) (qv 3) ao) ai)) (af (bF (bN hr) (qv 1) aU) (af (aG (aK K) (qv 3) ao) (af (bF (bN hr) (qv 1) aU) ai))))))) (aq (aM gc)) aQ)))
  (aq (aM gc))))))),?_⟩
 have pl:=gd.pl
 have rl:=gd.rel.len
 have wl:=gd.rel.whole
 refine⟨_,Z,A.a,A.dx,_,Z,hh.h.oa,Z,⟨⟨n,ρ,A,st,Z,hh.h,by omega,λH1 g1=>?_⟩⟩⟩
 have gj:=hh.mono g1
 have hb1:=hb.mono g1
 have WJ:=hb1.op
 have mq:(B.qs.map λq=>V.ref q.1).length=b.ah.length:=by rw[aD];exact hb.ql
 refine⟨_,Z,_,Z,_,Z,cA ?_⟩
 refine⟨_,Z,_,Z,B.m,_,Z,cE.k (k:=Sum.inr "parts") hb1.om,B.lp,Z,⟨_,az.of WJ⟩,λac hac=>?_⟩
 refine gf (J:=tU K B.lp) (n:=b.ah.length) 0 (λi o H'=>aE H1 H'/\o=((b.ah.take i).map (λp:BP=>p.wo)).map V.int) (by omega) ⟨aA hac _,Z⟩ (λi o H' hi _ hp=>⟨_,_,az.of (hp.1 _ _ WJ),aY (by rw[mq];exact hi)⟩) (λo H' _ hp=>⟨_,az.of (hp.1 _ _ WJ),by rw[mq];exact aN _⟩) ?_ ?_
 . rintro j y o H2 H3 hj dY ha ⟨g,e⟩ ⟨rfl,hy⟩
   have ej:=aY hj
   obtain⟨qq,eq,k1,k2,_,_⟩:=hb1.find ej
   have ey:=hy _ (az.of (g _ _ WJ))
   rw[bH,eq]at ey
   cases ey
   refine⟨_,Z,qq.1,_,_,_,Z,Z,az.of (g _ _ k1),aO (j:=2) rfl,ha,g.bQ hac _,?_⟩
   subst e
   rw[take_snoc ej,bw,bw]
   rfl
 rintro o H2 _ ha ⟨g2,e⟩
 rw[bV]at e
 subst e
 refine⟨ac,b.ah.map (λp:BP=>p.wo),Z,az.of ha,Z,_,Z,?_⟩
 have ew:aR st=(b.ah.map (λp:BP=>p.wo)).sum:=wl
 rw[show(!decide (V.int (aR st)=V.int (b.ah.map (λp:BP=>p.wo)).sum))=false from by rw[cy (by rw[ew])];rfl]
 refine cA ?_
 have iV:=gj.mono g2
 have hb2:=hb1.mono g2
 refine⟨_,Z,A.a,A.dx,_,Z,iV.h.oa,Z,⟨⟨n,ρ,A,st,Z,iV.h,by omega,λr ws H3 g3 hr hw3 hP3=>?_⟩⟩⟩
 have BY:=hb2.mono g3
 refine⟨_,Z,B.m,_,Z,cE.k (k:=Sum.inr "parts") BY.om,⟨⟨r,B.lp,ws,_,st.ah,Z,hw3,hP3,az.of BY.op,gd.rel.rows BY,gd.nms,by omega,λH4 g4=>⟨_,Z,cA ?_⟩⟩⟩⟩
 have mZ:=(iV.mono g3).mono g4
 have yX:=BY.mono g4
 have o4:aE (out ρ H) (out ρ H4):=jf (((g1.trans g2).trans g3).trans g4)
 clear gj hb1 iV hb2 BY hw3 hP3 ha hac hr g1 g2 g3 g4 WJ
 refine⟨_,Z,B.m,_,Z,cE.k (k:=Sum.inr "parts") yX.om,B.lp,Z,⟨_,az.of yX.op⟩,?_⟩
 refine jC (K:=K) (xs:=B.qs.map λq=>V.ref q.1) (λi σ H'=>∃ρ' A' s3,σ=[some (.ref A.a),some (.ref B.m),some (.int (aR st)),s3]/\HH T n ρ' A' H' { st with kn:=st.kn+100*i }/\aV m ρ' B H' b/\A'.a=A.a/\aE (out ρ H) (out ρ' H'))
  ⟨ρ,A,_,Z,mZ,yX,Z,o4⟩ (λi σ H' _ hp=>by obtain⟨_,_,_,_,_,h,_⟩:=hp;exact az.of h.op) ?_ ?_
 . rintro i y σ H5 hy ⟨ρ5,A5,s3,rfl,wD,GF,GG,o5⟩
   rw[bH]at hy
   obtain⟨qq,eq,rfl⟩:=mH.mp hy
   have hib:i<b.ah.length:=by rw[<-hb.ql];exact(dZ.mp eq).1
   have ei:=aY hib
   obtain⟨p,ep,e1,e2,_⟩:=gd.rel.at ei
   have ja:=bK ep
   have hqm:=bK ei
   obtain⟨k1,k2,_,_⟩:=GF.pt i _ qq ei eq
   refine⟨_,Z,A.a,A5.dx,_,Z,by rw[<-GG];exact wD.h.oa,Z,_,Z,qq.1,_,_,_,Z,Z,az.of k1,aO (j:=0) rfl,⟨⟨n,ρ5,A5,_,i,p,by rw[GG,e1];rfl,wD,ep,by show st.kn+100*i+100<=1000000;omega,λr ws ρ6 A6 H6 xP GH f6 hr hr6 cr hSh=>?_⟩⟩⟩
   have BZ:=GF.other f6 wD.g (cD nm)
   obtain⟨k16,k26,_,_⟩:=BZ.pt i _ qq ei eq
   have esh:oM { st with kn:=st.kn+100*i } p=dD b.own (b.ah[i]).tops b.bot:=FQ gd.yb gd.rel hh.wf gd.fG ja hqm e1
   rw[esh]at hSh
   have b1:=gd.fG.b1
   refine⟨_,Z,B.m,_,Z,cE.k (k:=Sum.inr "owners") BZ.om,_,Z,qq.1,_,_,_,Z,Z,az.of k16,aO (j:=4) rfl,_,Z,B.m,_,Z,cE.k (k:=Sum.inr "bottom") BZ.om,⟨⟨r,B.lo,qq.2,ws,b.own,(b.ah[i]).tops,b.bot,Z,hr6,hSh,az.of BZ.oo,az.of k26,Nat.le_of_eq (gd.fG.tl _ hqm),by have:=gd.fG.ol;omega,by omega,gd.fG.bz.mono (by decide),λH7 g7=>⟨_,Z,cA ?_⟩⟩⟩⟩
   refine⟨ρ6,A6,_,Z,?_,BZ.mono g7,GH.trans GG,(o5.trans f6.out).trans (jf g7)⟩
   have:=xP.mono g7
   rw[show st.kn+100*(i+1)=st.kn+100*i+100 by omega]
   exact this
 rintro σ H5 ⟨ρ5,A5,s3,rfl,wD,GF,GG,o5⟩
 refine q ρ5 A5 H5 _ wD ?_ GF GG o5
 rw[mq];omega
abbrev lW:Stmt:=top 58
abbrev jP:Da Str:=["_law_hold","_law_model_here"]
abbrev AH:Da Str:=jP.append ["_law_found","_law_at_here","_law_one","_law_due_here"]
def ir:aJ AH jP (ay lW):=dh
theorem Al{T:TC}(F:At K mg "_law_tells_landed" lW f fd)(fH:Dn P w K mg base 1 "_law_int" lU Fc)(iw:Dn P w K mg base 3 "_law_share_list" jk (Ed K))(jT:Mn P w K mg base 1 T.hold "landed" mh (MM T))(aS:mg "isinstance"=none)(dm:mg "list"=none)(iI:mg "tuple"=none)(qZ:mg "str"=none)(bq:mg "range"=none)(bg:mg "len"=none):Dn P w K mg base 4 "_law_tells_landed" jP (vq 1 T K):=by
 refine F.oA ir λ_ _ _ _ H _ Q E hr h=>?_;obtain⟨⟨n,m,ρ,A,B,st,b,c,rfl,nm,hh,hb,gd,hc,GC,hkn,q⟩⟩:=h;refine⟨_,(@cS.h _ _ _ (aj (aX (i:=2) ir.nd (sj jT hr (qv 0)))
  (aj (bZ (gK (bW.pt (ki (d9 (dX (aF (dM K) (by rfl) aS lG (af (qv 2) (af (kP vz rfl dm) ai))))) (jI (aP sY (aF (bL K) (by rfl) bg c9 (af (qv 2) ai)) (aF (bL K) (by rfl) bg c9 (af (bF (bN hr) (qv 1) aU) ai)) (aZ _)))))) (aq (aM gc)) aQ)
  (aj (dP fC rfl (ef (by rfl) bq (af (aF (bL K) (by rfl) bg c9 (af (qv 2) ai)) ai)) (aL (i:=3) ir.nd) (aj (aX (i:=4) ir.nd (aG (aK K) (qv 2) (qv 3)))
  (aj (aX (i:=5) ir.nd (aG (aK K) (bF (bN hr) (qv 1) aU) (qv 3)))
  (aj (bZ (gK (bW.pt (ki (d9 (dX (aF (dM K) (by rfl) aS lG (af (qv 4) (af (kP LH rfl iI) ai))))) (ki (aP sY (aF (bL K) (by rfl) bg c9 (af (qv 4) ai)) ao (aZ _)) (jI (d9 (dX (bh fH hr (af (aG (bM K) (qv 4) ao) ai))))))))) (aq (aM gc)) aQ)
  (aj (bZ (gK (bW.pt (ki (d9 (dX (aF (dM K) (by rfl) aS lG (af (aG (bM K) (qv 4) ao) (af (kP LK rfl qZ) ai))))) (jI (d9 (dX (aF (dM K) (by rfl) aS lG (af (aG (bM K) (qv 4) ao) (af (kP LK rfl qZ) ai))))))))) (aq (aM gc)) aQ)
  (aj (bZ (aP (HK K hr.units) (iU (af (aG (bM K) (qv 4) ao) (af (aG (bM K) (qv 4) ao) (af (aG (bM K) (qv 4) ao) ai)))) (iU (af (aG (aK K) (qv 5) ao) (af (aG (aK K) (qv 5) ao) (af (aG (aK K) (qv 5) ao) ai)))) (aZ _)) (aq (aM gc)) aQ)
  (aq (bZ (d9 (dX (bh iw hr (af (aG (bM K) (qv 4) ao) (af (bF (bN hr) (qv 1) aU) (af (aG (aK K) (qv 5) ao) (af (aG (aK K) (qv 5) ao) ai))))))) (aq (aM gc)) aQ))))))))
  (aq (aM gc)))))),?_⟩
 refine⟨_,Z,A.a,A.dx,_,Z,hh.h.oa,Z,⟨⟨n,ρ,A,st,Z,hh,λr ws H1 g1 hr hr1 hL=>?_⟩⟩⟩;have hb1:=hb.mono g1;obtain⟨vs,hv,hA⟩:=hb1.oa;have l1:=hL.length;have l2:=hA.length;have l3:=gd.dB.length;have l4:=hh.wf.x8;refine⟨false,?_,cA ?_⟩
 .refine ⟨_,Z,_,_,_,_,Z,h_.lst hr1,ia,_,Z,cA ?_⟩;refine⟨_,Z,_,_,Z,.inl (az.of hr1),_,Z,B.m,_,Z,cE.k (k:=Sum.inr "ashore") hb1.om,_,_,Z,.inl (az.of hv),Z,_,Z,?_,Z⟩;show(!decide (V.int (ws.length:Int)=V.int (vs.length:Int)))=false;rw[cy (by rw[l1,l2,l3])];rfl
 refine⟨_,Z,r,_,Z,.inl (az.of hr1),_,Z,by omega,by omega,?_⟩;refine gh (lo:=0) (n:=((ws.length:Nat):Int).toNat) (λi σ H'=>aE H1 H'/\∃s3 s4 s5,σ=[some (.ref A.a),some (.ref B.m),some (.ref r),s3,s4,s5]) ⟨aE.refl _,_,_,_,Z⟩ ?_ ?_
 .rintro i σ H2 hi ⟨g2,s3,s4,s5,rfl⟩;have e0:(0:Int)+(i:Int)=((i:Nat):Int):=by omega
  rw[e0];have hi:i<ws.length:=by omega
  have ew:=aY hi;obtain⟨t,s,x,ss,e1,ex,t1,t2,_,t4⟩:=hL.got ew;rw[e1]at ew;have ev:=aY (show i<vs.length by omega);obtain⟨u,lt,e,e2,ee,u1,u2⟩:=hA.get ev;rw[e2]at ev;obtain⟨a1,a2,a3,a4,a5,a6,a7,a8,a9⟩:=gd.dB.get ex ee;have hb2:=hb1.mono g2;have t1:=g2 _ _ t1;have t2:=g2 _ _ t2;have t4:=t4.mono g2.tups;have u1:=g2 _ _ u1;have u2:=g2 _ _ u2;rw[a4]at t4;rw[a1,a2,a3]at t1;refine⟨_,Z,_,Z,r,ws,i,.ref t,Z,Z,az.of (g2 _ _ hr1),iY ew,?_⟩;refine⟨_,Z,B.m,_,Z,cE.k (k:=Sum.inr "ashore") hb2.om,_,Z,B.la,vs,i,.ref u,Z,Z,az.of (g2 _ _ hv),iY ev,?_⟩;refine⟨false,⟨_,Z,_,_,_,_,Z,h_.tup t1,ia,_,Z,cA ⟨_,Z,_,_,Z,.inr (cV.of t1),Z,_,Z,cA ⟨_,Z,t,_,_,_,Z,Z,cV.of t1,Z,_,Z,_,Z,Z,Z⟩⟩⟩,cA ?_⟩;refine⟨false,⟨_,Z,t,_,_,_,Z,Z,cV.of t1,Z,_,_,_,_,Z,h_.str _,ia,_,Z,cA ⟨_,Z,t,_,_,_,Z,Z,cV.of t1,Z,_,_,_,_,Z,h_.str _,ia,_,Z,Z,Z⟩⟩,cA ?_⟩;refine⟨_,Z,t,_,_,_,Z,Z,cV.of t1,Z,_,Z,t,_,_,_,Z,Z,cV.of t1,Z,_,Z,t,_,_,_,Z,Z,cV.of t1,Z,(gM 3),λp1 hp1=>?_⟩;have g3:=aA hp1 (.tup [.str e.nm,.str e.ow,.int e.wo]);have h3:upd H2 p1 (.tup [.str e.nm,.str e.ow,.int e.wo]) p1=some (.tup [.str e.nm,.str e.ow,.int e.wo]):=ak;show acp _ _ (upd H2 p1 (.tup [.str e.nm,.str e.ow,.int e.wo])) _;generalize upd H2 p1 (.tup [.str e.nm,.str e.ow,.int e.wo])=H3 at *;have u13:=g3 _ _ u1;refine⟨_,Z,u,_,_,_,Z,Z,az.of u13,Z,_,Z,u,_,_,_,Z,Z,az.of u13,Z,_,Z,u,_,_,_,Z,Z,az.of u13,Z,(gM 3),λp2 hp2=>?_⟩;have g4:=aA hp2 (.tup [.str e.nm,.str e.ow,.int e.wo]);have h4:upd H3 p2 (.tup [.str e.nm,.str e.ow,.int e.wo]) p2=some (.tup [.str e.nm,.str e.ow,.int e.wo]):=ak;show SW K _ _ (upd H3 p2 (.tup [.str e.nm,.str e.ow,.int e.wo])) _;generalize upd H3 p2 (.tup [.str e.nm,.str e.ow,.int e.wo])=H4 at *;have D:∀{p:Addr},H4 p=some (.tup [.str e.nm,.str e.ow,.int e.wo])->Dt K H4 (.ref p) (.tuple [.str e.nm,.str e.ow,.int e.wo]):=λh=> .tup (cV.of h) (.cons (.str _) (.cons (.str _) (.cons (.int _) .nil)));have pd:Pd (.tuple [.str e.nm,.str e.ow,.int e.wo]) 2:=.tuple λd hd=>by
   rcases c_.mp hd with rfl|hd
   .exact .str a8
   rcases c_.mp hd with rfl|hd
   .exact .str a9
   rw[eE.mp hd];exact .int
  refine ne_data (D (g4 _ _ h3)) (D h4) pd (by decide) ⟨_,Z,cA ?_⟩;have wM:=g3.trans g4;have yX:=hb2.mono wM;exact⟨_,Z,t,_,_,_,Z,Z,cV.of (wM _ _ t1),Z,_,Z,B.m,_,Z,cE.k (k:=Sum.inr "owners") yX.om,_,Z,u,_,_,_,Z,Z,az.of (wM _ _ u1),Z,_,Z,u,_,_,_,Z,Z,az.of (wM _ _ u1),Z,⟨⟨s,B.lo,lt,ss,b.own,e.tops,e.bot,Z,wM _ _ t2,t4.mono wM.tups,az.of yX.oo,az.of (wM _ _ u2),a5,by have:=gd.fG.ol;omega,a6,a7,λH5 g5=>⟨_,Z,cA ⟨(g2.trans wM).trans g5,_,_,_,Z⟩⟩⟩⟩⟩
 rintro σ H2 ⟨g2,s3,s4,s5,rfl⟩;exact q ρ A H2 st.kn (hh.mono (g1.trans g2)) (by omega) (hb1.mono g2) rfl (jf (g1.trans g2))
abbrev uN:Stmt:=top 59
abbrev rj:Da Str:=["_law_hold","_law_model_here"]
abbrev Og:Da Str:=rj.append ["_law_roster"]
def AE:aJ Og rj (ay uN):=dh
theorem KP{T:TC}(F:At K mg "_law_tells" uN f fd)(nI:Dn P w K mg base 5 "_law_tells_parts" kq (vq 1 T K))(mP:Dn P w K mg base 4 "_law_tells_landed" jP (vq 1 T K))(uO:Mn P w K mg base 1 T.hold "roster" pe (MK T))(aS:mg "isinstance"=none)(dm:mg "list"=none):Dn P w K mg base 6 "_law_tells" rj (vq 2 T K):=by
 refine F.oA AE λ_ _ _ _ H _ Q E hr h=>?_;obtain⟨⟨n,m,ρ,A,B,st,b,c,rfl,nm,hh,hb,gd,hc,GC,hkn,q⟩⟩:=h;refine⟨_,(@cS.h _ _ _ (aj (aX (i:=2) AE.nd (sj uO hr (qv 0)))
  (aj (bZ (gK (bW.pt (ki (d9 (dX (aF (dM K) (by rfl) aS lG (af (qv 2) (af (kP vz rfl dm) ai))))) (jI (aP (HK K hr.units) (qv 2) (bF (bN hr) (qv 1) aU) (aZ _)))))) (aq (aM gc)) aQ)
  (aq (aM (Nq (bh nI hr (af (qv 0) (af (qv 1) ai))) (Nl (bh mP hr (af (qv 0) (af (qv 1) ai)))))))))),?_⟩
 refine⟨_,Z,A.a,A.dx,_,Z,hh.h.oa,Z,⟨⟨n,ρ,A,st,Z,hh.h,λr hr=>?_⟩⟩⟩;have g1:=aA hr (.lst (st.own.map V.str));have hr1:upd H r (.lst (st.own.map V.str)) r=some (.lst (st.own.map V.str)):=ak;have gj:=hh.mono g1;have hb1:=hb.mono g1;have eo:=gd.rel.own;show iA 2 (.ref r) _ (upd H r (.lst (st.own.map V.str))) _;generalize upd H r (.lst (st.own.map V.str))=H1 at *;rw[eo]at hr1;refine⟨false,?_,cA ?_⟩
 .refine ⟨_,Z,_,_,_,_,Z,h_.lst hr1,ia,_,Z,cA ?_⟩;refine⟨_,Z,_,Z,B.m,_,Z,cE.k (k:=Sum.inr "owners") hb1.om,_,_,.lst (az.of hr1) (Ib b.own),.lst (az.of hb1.oo) (Ib b.own),Dv b.own GC,Dv b.own GC,_,Z,?_,Z⟩;rw[Yw];rfl
 refine⟨_,Z,_,Z,⟨⟨n,m,ρ,A,B,st,b,c,Z,nm,gj,hb1,gd,hc,GC,by omega,λρ2 A2 H2 k iV hk hb2 ea2 o2=>⟨true,Z,jE ?_⟩⟩⟩⟩;refine⟨_,Z,_,Z,⟨⟨n,m,ρ2,A2,B,_,b,c,by rw[ea2];rfl,nm,iV,hb2,ZL gd k,hc,GC,by show k+15000*1<=1000000;omega,λρ3 A3 H3 k3 mY hk3 BY Z3 o3=>?_⟩⟩⟩;have hk3:k3<=k+15000*1:=hk3;exact q ρ3 A3 H3 k3 mY (by omega) BY (Z3.trans ea2) (((jf g1).trans o2).trans o3)
abbrev uP:Stmt:=top 60
abbrev rm:Da Str:=["_law_owners"]
abbrev Oh:Da Str:=rm.append ["_law_hold","_law_owner"]
def uQ:aJ Oh rm (ay uP):=dh
theorem KQ{T:TC}(F:At K mg "_law_begin" uP f fd)(Oi:Cn P w K mg base 3 "Hold" T.hold ["self"] (Rh T))(mE:Mn P w K mg base 3 T.hold "sign" oR (HX T)):Dn P w K mg base 5 "_law_begin" rm (Rl T K):=by
 refine F.oA uQ λ_ _ _ _ H _ Q E hr h=>?_;obtain⟨⟨l,own,n,ρ,rfl,hl,cl,nd,hnm,hle,g,q⟩⟩:=h;refine⟨_,(@cS.h _ _ _ (aj (aX (i:=1) uQ.nd (V_ Oi hr))
  (aj (dP fC rfl (cY K (qv 0)) (aL (i:=2) uQ.nd) (aq (cg (gu mE hr (qv 1) (af (qv 2) ai)))))
  (aq (aM (qv 1)))))),?_⟩
 intro x dx hx hdx hne;refine⟨⟨x,dx,ρ,n,Z,ak,(g.alloc hdx).alloc (by rw[av (cD hne)];exact hx),g.none hx,λρ1 A H1 ea hh k=>⟨Z,?_⟩⟩⟩;have F1:Fr n ρ H ρ1 H1:=λb o e _=>k b o (by rw[av (aI e hx),av (aI e hdx)];exact e) (aI e hx);refine⟨_,Z,l,Z,⟨_,F1.seq hl cl⟩,?_⟩;refine jC (K:=K) (xs:=own.map V.str) (λi σ H'=>∃ρ' A' s2,σ=[some (.ref l),some (.ref x),s2]/\A'.a=x/\HH T n ρ' A' H' ((own.take i).foldl gC hs0)/\Fr n ρ H ρ' H')
  ⟨ρ1,A,none,Z,ea,hh,F1⟩ (λi σ H' _ hp=>by obtain⟨_,_,_,_,_,_,f⟩:=hp;exact f.seq hl cl) ?_ ?_
 .rintro i y σ H' hy ⟨ρ',A',s2,rfl,ea',Gd,F'⟩;rw[bH]at hy;obtain⟨o,eo,rfl⟩:=mH.mp hy;have hi:=(dZ.mp eo).1;have hos:=Bj (own.take i) hs0;have aeQ:((own.take i).foldl gC hs0).own=own.take i:=by rw[hos];rfl
  refine⟨_,Z,x,A'.dx,_,Z,ea'▸Gd.h.oa,Z,_,Z,⟨⟨n,ρ',A',_,o,by rw[ea'];rfl,Gd,hnm o (bK eo),?_,?_,λρ2 A2 H2 h2 e2 F2=>?_⟩⟩⟩
  .rw [aeQ];intro m;have h2:(own.take (i+1)).Nodup:=nd.sublist (List.take_sublist _ _);rw[take_snoc eo]at h2;exact(List.nodup_append.mp h2).2.2 o m o (eE.mpr rfl) rfl
  .rw [aeQ,kL];omega
  .rw [take_snoc eo,EJ];exact⟨ρ2,A2,_,Z,e2.trans ea',h2,F'.trans F2⟩
 rintro σ H' ⟨ρ',A',s2,rfl,ea',Gd,F'⟩;rw[aD,bV]at Gd;have:=q ρ' A' H' Gd F';rw[ea']at this;exact⟨_,Z,this⟩
abbrev yg:Stmt:=top 47
abbrev vh:Da Str:=["_law_at_here"]
abbrev T3:Da Str:=vh
def PK:aJ T3 vh (ay yg):=dh
theorem PL(F:At K mg "_law_hot" yg f fd)(bq:mg "range"=none):Dn P w K mg base 1 "_law_hot" vh Tq:=by
 refine F.oA PK λ_ _ _ _ H _ Q E hr h=>?_;obtain⟨⟨n,rfl,q⟩⟩:=h;refine⟨_,(@cS.h _ _ _ (aq (aM (aH qC (eY (af gc ai)) (fJ ["_law_k","_law_at_here"] [none,some 0] rfl (ef (by rfl) bq (af ao ai)) (λ_ _ _ _=>(aL (i:=0) (show List.Nodup (["_law_k","_law_at_here"] :Da Str)from by decide +kernel))) (λ_ _ _ _=>(su gQ (qv 0) (qv 1) (aZ _))) rfl (by rfl)))))),?_⟩;refine⟨(gM 1),λp1 hp1=>?_⟩;have g1:aE H (upd H p1 (.lst [.bl true])):=aA hp1 _;have h1:upd H p1 (.lst [.bl true]) p1=some (.lst [.bl true]):=ak;generalize upd H p1 (.lst [.bl true])=H1 at g1 h1;refine⟨10,Z,(by decide),(by decide),λBM Bn=>?_⟩;refine SX (n:=(10:Int).toNat) (λi out H'=>aE H1 H'/\out=((List.range i).map λk=>V.bl (decide (k=n)))) (by decide) ⟨aA Bn _,Z⟩ ?_ ?_
 .rintro i out H' hi dY ha ⟨g,e⟩;refine⟨_,Z,_,Z,Z,ha,g.bQ Bn _,?_⟩;rw[List.range_succ,bw,e];congr 1;show[V.bl (decide (V.int (0+(i:Int))=V.int (n:Int)))]=[V.bl (decide (i=n))]
  congr 2;exact decide_eq_decide.mpr ⟨λz=>by have:=V.int.inj z;omega,λz=>by rw[z];congr 1;omega⟩
 rintro out H' dY ha ⟨g,e⟩;refine⟨p1,BM,_,_,Z,Z,g _ _ h1,ha,(by rw[dY,gy];decide),λp hp=>q p _ (g1.trans (g.trans (aA hp _))) ?_⟩;rw[ak,e];show some (HO.lst (V.bl true::_))=some (HO.lst ((true::(List.range 10).map λk=>decide (k=n)).map V.bl));rw[bP,f_];rfl
abbrev Am:Stmt:=top 38
abbrev nJ:Da Str:=["_law_parts","_law_name_here"]
abbrev WK:Da Str:=nJ.append ["_law_at_here"]
def GI:aJ WK nJ (ay Am):=dh
theorem T4(F:At K mg "_law_at" Am f fd)(bg:mg "len"=none)(bq:mg "range"=none):Dn P w K mg base 1 "_law_at" nJ (yO K):=by
 refine F.oA GI λ_ _ _ _ H _ Q E hr h=>?_;obtain⟨⟨l,us,ws,x,rfl,hl,hW,nd,hle,q,q2⟩⟩:=h;refine⟨_,(@cS.h _ _ _ (aj (dP fC rfl (ef (by rfl) bq (af (aF (bL K) (by rfl) bg c9 (af (qv 0) ai)) ai)) (aL (i:=2) GI.nd) (aq (bZ (aP gQ (aG (qg K) (aG (aK K) (qv 0) (qv 2)) ao) (qv 1) (aZ _)) (aq (aM (qv 2))) aQ)))
  (aq (aM (Aa vD ao))))),?_⟩
 have ll:=hW.len;refine⟨_,Z,l,_,Z,.inl hl,_,Z,by omega,by omega,?_⟩;refine gh (lo:=0) (n:=((us.length:Nat):Int).toNat) (λi σ H'=>H'=H/\(∀r∈ws.take i,r.1≠x)/\∃s2,σ=[some (.ref l),some (.str x),s2]) ⟨Z,(λ_ m=>nomatch m),_,Z⟩ ?_ ?_
 .rintro i σ H' hi ⟨rfl,hn,s2,rfl⟩;have e0:(0:Int)+(i:Int)=((i:Nat):Int):=by omega
  rw[e0];have hio:i<ws.length:=by omega
  have ei:=aY hio;obtain⟨a,xs,ea,RU,x0,_⟩:=hW.at_ i _ ei;refine⟨_,Z,_,Z,l,_,_,_,Z,Z,hl,aO ea,RU.ix (i:=0) x0 ?_⟩;refine⟨_,Z,Z,_,Z,dg (λc=>?_) (λc=>?_)⟩
  .exact ⟨_,Z,q i _ ei (V.str.inj (dH c))⟩
  .refine ⟨Z,λr hr=>?_,_,Z⟩;rw[take_snoc ei]at hr;rcases fk.mp hr with z|z
   .exact hn r z
   .rw [eE.mp z];intro e;exact c (cy (by rw[e]))
 rintro σ H' ⟨rfl,hn,s2,rfl⟩;refine⟨1,Z,q2 λr hr=>hn r ?_⟩;rw[Ho (by omega)];exact hr
abbrev wR:Stmt:=top 37
abbrev oV:Da Str:=["_law_script","_law_k","_law_parts"]
abbrev PM:Da Str:=oV.append ["_law_spare","_law_order","_law_rows_here","_law_at_here","_law_way","_law_amount"]
def gx:aJ PM oV (ay wR):=dh
theorem Oj(F:At K mg "_law_rows" wR f fd)(bf:Dn P w K mg base 1 "_law_draw" gw (oH K))(bg:mg "len"=none)(bq:mg "range"=none)(dm:mg "list"=none)(fE:mg "sum"=none)(T5:mg "min"=none):Dn P w K mg base 2 "_law_rows" oV (CH K):=by
 refine F.oA gx λ_ _ _ _ H _ Q E hr h=>?_;obtain⟨⟨a,l,ns,k,us,ws,rfl,hS,h63,hk0,hk1,hl,hW,nd,hle,hw1,q⟩⟩:=h;refine⟨_,(@cS.h _ _ _ (aj (aX (i:=3) gx.nd (aH tV (aF (ju K rfl) (by rfl) fE ue (af (fJ ["_law_part"] [none] rfl (cY K (qv 2)) (λ_ _ _ _=>(aL (i:=0) (show List.Nodup (["_law_part"] :Da Str)from by decide +kernel))) (λ_ _ _ _=>(aG (qg K) (qv 0) ao)) rfl (by rfl)) ai)) ao))
  (aj (aX (i:=4) gx.nd (kh (Kl rfl) (by rfl) dm vz (af (V8 (by rfl) bq (af (aF (bL K) (by rfl) bg c9 (af (qv 2) ai)) ai)) ai)))
  (aj (jj (aP gQ (bh bf hr (af (qv 0) (af (qv 1) (af ao (af ao ai))))) ao (aZ _)) (aq (aX (i:=4) gx.nd (ad7 K (qv 4) (Aa vD ao)))) aQ)
  (aj (aX (i:=5) gx.nd (eY ai))
  (aj (dP fC rfl (cY K (qv 4)) (aL (i:=6) gx.nd) (aj (aX (i:=7) gx.nd (bh bf hr (af (qv 0) (af (qv 1) (af (aH cW ao (aH iP ao (qv 6))) (af ao ai))))))
  (aj (aX (i:=8) gx.nd (aF (VP rfl) (by rfl) T5 PyProof.Rows.boot_min (af (aG (qg K) (aG (aK K) (qv 2) (qv 6)) ao) (af (qv 3) (af (aH vC ao ao) ai)))))
  (aj (jj (gK (bW.pt (v_ (aP gQ (qv 7) ao (aZ _)) (vt (aP iX (qv 8) ao (aZ _)))))) (aq (aX (i:=8) gx.nd (aH cW ao (bh bf hr (af (qv 0) (af (qv 1) (af (aH cW ao (aH iP ao (qv 6))) (af (qv 8) ai)))))))) aQ)
  (aq (jj (gK (bW.pt (v_ (aP iX (qv 7) ao (aZ _)) (vt (aP iX (qv 8) ao (aZ _)))))) (aj (cg (kQ mG pG pH eX (qv 5) (af (iU (af (aG (qg K) (aG (aK K) (qv 2) (qv 6)) ao) (af (qv 8) ai))) ai)))
  (aq (aX (i:=3) gx.nd (aH tV (qv 3) (qv 8))))) aQ))))))
  (aq (aM (qv 5))))))))),?_⟩
 have ll:=hW.len;refine⟨_,Z,l,Z,⟨_,hl⟩,λl0 iD=>?_⟩;refine gf (J:=tU K l) (n:=us.length) 0 (λi o H'=>aE H H'/\o=((ws.take i).map (λr:Row=>r.2)).map V.int) (by omega) ⟨aA iD _,Z⟩ (λi o H' hi _ hp=>⟨_,_,hp.1.seq hl,aY hi⟩) (λo H' _ hp=>⟨_,hp.1.seq hl,aN _⟩) ?_ ?_
 .rintro i y o H2 H3 hi dY ha ⟨g,e⟩ ⟨rfl,hy⟩;have hiw:i<ws.length:=by omega
  have ei:=aY hiw;obtain⟨ar,xs,ea,RU,x0,x2⟩:=hW.at_ i _ ei;have ey:=hy _ (g.seq hl);rw[ea]at ey;cases ey;refine⟨_,Z,(g.sq RU).ix (i:=2) x2 ?_⟩;refine⟨ha,g.bQ iD _,?_⟩;subst e;rw[take_snoc ei,bw,bw];rfl
 rintro o1 H1 _ ha ⟨g1,e⟩;rw[ll,bV]at e;subst e;refine⟨l0,ws.map (λr:Row=>r.2),Z,az.of ha,_,_,Z,Z,?_⟩;show iA 3 (.int (bJ ws-1)) _ _ _;refine⟨_,Z,l,_,Z,.inl (g1.seq hl),_,Z,λpr hpr=>?_⟩;refine⟨pr,ws.length,Z,?_,by omega,λpo hpo=>?_⟩
 .rw [ak,ll]
 have gA:=(aA hpr (.xx 0 ((us.length:Nat):Int))).trans (aA hpo (.lst ((L2.upTo ws.length).map V.int)));have gB:=g1.trans gA;have hord:upd (upd H1 pr (.xx 0 ((us.length:Nat):Int))) po (.lst ((L2.upTo ws.length).map V.int)) po=some (.lst ((L2.upTo ws.length).map V.int)):=ak;generalize upd (upd H1 pr (.xx 0 ((us.length:Nat):Int))) po (.lst ((L2.upTo ws.length).map V.int))=H2 at *;have ndo:(L2.upTo ws.length).Nodup:=by unfold L2.upTo;refine List.Pairwise.map _ (λx y h e=>h (by omega)) List.nodup_range
 have xx:∀x∈L2.upTo ws.length,0<=x/\x<(ws.length:Int):=λx hx=>by unfold L2.upTo at hx;obtain⟨i,hi,rfl⟩:=bD.mp hx;have:=zy.mp hi;omega
 have lup:(L2.upTo ws.length).length=ws.length:=by unfold L2.upTo;rw[aD,zh]
 refine⟨λσ H3=>aE H H3/\∃(pq:Addr)(os:Da Int),σ=[some (.ref a),some (.int k),some (.ref l),some (.int (bJ ws-1)),some (.ref pq),none,none,none,none]/\H3 pq=some (.lst (os.map V.int))/\os.Nodup/\os.length=ws.length/\∀x∈os,0<=x/\x<(ws.length:Int),?_,?_⟩
 .refine ⟨_,Z,_,Z,dJ (gB.seq hS) h63 hk0 (by decide) (by decide) (by decide) λd _ d0 d1=>⟨Z,_,Z,dg (λc=>?_) (λc=>?_)⟩⟩
  .refine ⟨_,Z,_,Z,Z,po,_,Z,az.of hord,λpz hpz=>?_⟩;have g3:=aA hpz (.lst ((L2.upTo ws.length).map V.int).reverse);exact⟨gB.trans g3,pz,(L2.upTo ws.length).reverse,Z,by rw[ak,List.map_reverse],List.pairwise_reverse.mpr (List.Pairwise.imp (λh=>cD h) ndo),by rw[List.length_reverse,lup],λx hx=>xx x (List.mem_reverse.mp hx)⟩
  .exact ⟨gB,po,L2.upTo ws.length,Z,hord,ndo,lup,xx⟩
 rintro σ H3 ⟨g3,pq,os,rfl,hos,hnd,dY,hrg⟩;refine⟨(gM 0),λz hz=>?_⟩;have g4:=aA hz (.lst []);have hzz:upd H3 z (.lst []) z=some (.lst []):=ak;have aeR:=g4 _ _ hos;have nz:pq≠z:=λe=>by rw[e,hz]at hos;cases hos
 have hzH:H z=none:=g3.free hz;have wM:=g3.trans g4;show zL _ _ _ _ (upd H3 z (.lst []));generalize upd H3 z (.lst [])=H4 at *;have w1:ws≠[]->1<=bJ ws:=λhne=>by
  cases ws with
  | nil=>exact absurd rfl hne
  | cons r rs=>have h1:=hw1 r cQ;have h2:=DZ (rs:=rs) λx hx=>hw1 x (cL _ hx);rw[show bJ (r::rs)=r.2+bJ rs from by unfold bJ;rw[bP,c6]];omega
 refine⟨_,Z,pq,Z,⟨_,az.of aeR⟩,?_⟩;refine jC (K:=K) (xs:=os.map V.int) (IvR H ws os a l pq z k)
  ⟨wM,aeR,[],[],bJ ws-1,none,none,none,Z,hzz,.nil,aN _,sW,by show _=bJ ws-1-0;omega,λhne=>by have:=w1 hne;omega,λr hr=>absurd hr (by simp)⟩ ?_ ?_ ?_
 .rintro i σ H' _ ⟨_,h,_⟩;exact az.of h
 .rintro i x σ H5 hx ⟨g5,hq5,zs,rs,sp,s6,s7,s8,rfl,RV,hR,hrl,RW,qB,T6,Ad⟩;rw[bH]at hx;obtain⟨at',hat,rfl⟩:=mH.mp hx;have hio:=(dZ.mp hat).1;obtain⟨t0,t1⟩:=hrg at' (bK hat);obtain⟨jt,hjt⟩:∃jt:Nat,((jt:Nat):Int)=at':=⟨at'.toNat,by omega⟩
  subst hjt;have hjl:jt<ws.length:=by omega
  have hne:ws≠[] :=λe=>by rw[e]at hjl;simp at hjl
  have ajC:=T6 hne;have hnot:((jt:Nat):Int)∉os.take i:=λm=>by obtain⟨j,hj,ej⟩:=List.mem_iff_getElem.mp m;rw[List.getElem_take]at ej;rw[kL]at hj;have e2:=(dZ.mp hat).2;have:=(List.getElem_inj hnd).mp (ej.trans e2.symm);omega
  have ej:=aY hjl;have hwj:=hw1 _ (bK ej);generalize ws[jt]=wj at *;obtain⟨ar,xs,ea,RU,x0,x2⟩:=hW.at_ jt _ ej;refine⟨_,Z,_,Z,_,Z,_,_,Z,Z,.inl ⟨by decide,by decide⟩,_,_,Z,Z,dJ (g5.seq hS) h63 hk0 (by omega) (by omega) (by decide) λway _ v0 v1=>?_⟩;refine⟨_,Z,_,Z,l,_,_,_,Z,Z,g5.seq hl,aO ea,(g5.sq RU).ix (i:=2) x2 ?_⟩;refine⟨_,Z,_,_,Z,Z,⟨by decide,by decide,by decide⟩,_,_,_,Z,?_⟩;obtain⟨m1,m2,m3⟩:=aa3 wj.2 sp ((10:Int) ^ (9:Int).toNat);have m0:0<=vU wj.2 sp ((10:Int) ^ (9:Int).toNat):=aa4 (by omega) ajC (by decide);have m3:vU wj.2 sp ((10:Int) ^ (9:Int).toNat)<=1000000000:=m3;generalize vU wj.2 sp ((10:Int) ^ (9:Int).toNat)=m at *;refine⟨λσ H6=>H5=H6/\∃m:Int,0<=m/\m<=sp/\m<=wj.2/\m<=1000000000/\σ=[some (.ref a),some (.int k),some (.ref l),some (.int sp),some (.ref pq),some (.ref z),some (.int (jt:Int)),some (.int way),some (.int m)],?_,?_⟩
  .refine ⟨decide (way=2/\0<m),?_,?_⟩
   .refine ⟨_,Z,Z,_,Z,?_⟩;by_cases h1:way=2
    .rw [cy (by rw[h1] :V.int way=V.int 2)];refine jE ⟨_,Z,_,_,Z,Z,_,Z,?_,Z⟩;by_cases h2:0<m
     .rw [cy h2,cy ⟨h1,h2⟩]
     .rw [d7 h2,d7 λz=>h2 z.2]
    .rw [d7 (λz=>h1 (V.int.inj z))];exact cA ⟨(d7 λz=>h1 z.1).symm,Z⟩
   refine dg (λc=>?_) (λc=>?_)
   .obtain ⟨_,c2⟩:=dH c;refine⟨_,Z,_,Z,_,Z,_,_,Z,Z,.inl ⟨by decide,by decide⟩,_,_,Z,Z,_,Z,dJ (g5.seq hS) h63 hk0 (by omega) (by omega) c2 λd _ d0 d1=>⟨_,_,Z,Z,Z,1+d,by omega,by omega,by omega,by omega,Z⟩⟩
   .exact ⟨Z,m,m0,m2,m1,m3,Z⟩
  rintro σ H6 ⟨rfl,o,o0,o1,o2,o3,rfl⟩;have grow:∀r∈rs,1<=r.2/\r.2<=1000000000/\∃j:Nat,((j:Nat):Int)∈os.take (i+1)/\∃w,ws[j]?=some w/\w.1=r.1/\r.2<=w.2:=λr hr=>by obtain⟨a1,a2,j,a3,a4⟩:=Ad r hr;exact⟨a1,a2,j,by rw[take_snoc hat];exact Hq _ a3,a4⟩
  refine⟨IvR H ws os a l pq z k (i+1),?_,λ_ _ h=>h⟩;refine⟨decide (0<way/\0<o),?_,?_⟩
  .refine ⟨_,Z,_,_,Z,Z,_,Z,?_⟩;by_cases h1:0<way
   .rw [cy h1];refine jE ⟨_,Z,_,_,Z,Z,_,Z,?_,Z⟩;by_cases h2:0<o
    .rw [cy h2,cy ⟨h1,h2⟩]
    .rw [d7 h2,d7 λz=>h2 z.2]
   .rw [d7 h1];exact cA ⟨(d7 λz=>h1 z.1).symm,Z⟩
  refine dg (λc=>?_) (λc=>?_)
  .obtain ⟨_,c2⟩:=dH c;refine⟨_,Z,.inl ⟨Z,_,az.of RV⟩,_,Z,_,Z,l,_,_,_,Z,Z,g5.seq hl,aO ea,(g5.sq RU).ix (i:=0) x0 ?_⟩;refine⟨_,Z,(gM 2),λp hp=>?_⟩;have g6:=aA hp (x9 (wj.1,o));have hz6:=g6 _ _ RV;have hq6:=g6 _ _ hq5;have N1:upd H5 p (x9 (wj.1,o)) p=some (x9 (wj.1,o)):=ak;have ajD:=hR.length;show ng _ (upd H5 p (x9 (wj.1,o))) _;generalize upd H5 p (x9 (wj.1,o))=H6 at *;refine⟨z,_,_,Z,Z,hz6,by rw[ajD];exact dU (by omega),?_⟩;have np:p≠z:=λe=>by rw[e,RV]at hp;cases hp
   have tu:∀b ys,H6 b=some (.tup ys)->upd H6 z (.lst (zs++[.ref p])) b=some (.tup ys):=jw (.inr ⟨_,hz6,Z⟩);refine⟨_,Z,_,Z,_,_,Z,Z,(g5.trans g6).bQ hzH _,by rw[av nz];exact hq6,zs++[.ref p],rs++[(wj.1,o)],sp-o,_,_,_,Z,ak,((hR.mono g6.tups).snoc N1).mono tu,by rw[c8];show rs.length+1<=i+1;omega,?_,?_,λ_=>by omega,?_⟩
   .rw [bw];refine qc RW λhm=>?_;obtain⟨r,hr,er⟩:=bD.mp hm;obtain⟨_,_,j,hj,w,aeT,e1,_⟩:=Ad r hr;have hj2:j<ws.length:=(dZ.mp aeT).1;have r1:(ws.map (λr:Row=>r.1))[j]?=some w.1:=by rw[bH,aeT];rfl
    have r2:(ws.map (λr:Row=>r.1))[jt]?=some wj.1:=by rw[bH,ej];rfl
    have er:r.1=wj.1:=er;have:j=jt:=(Ce (by rw[aD];exact hj2) nd).mp (r1.trans (by rw[e1,er];exact r2.symm));rw[this]at hj;exact hnot hj
   .rw [show bJ (rs++[(wj.1,o)])=bJ rs+o from by unfold bJ;rw[bw,Lu];simp];omega
   .intro r hr;rcases fk.mp hr with h1|h1
    .exact grow r h1
    .rw [eE.mp h1];exact⟨by show 1<=o;omega,o3,jt,by rw[take_snoc hat];exact kC _ (eE.mpr rfl),wj,ej,Z,o2⟩
  .exact ⟨g5,hq5,zs,rs,sp,_,_,_,Z,RV,hR,by omega,RW,qB,T6,grow⟩
 rintro σ H5 ⟨g5,hq5,zs,rs,sp,s6,s7,s8,rfl,RV,hR,hrl,RW,qB,T6,Ad⟩;rw[aD,dY]at hrl;refine⟨_,Z,q z zs rs H5 g5 hzH RV hR ⟨RW,λr hr=>?_,?_,hrl⟩⟩
 .obtain ⟨a1,a2,j,_,w,hw,e1,e2⟩:=Ad r hr;exact⟨a1,a2,w,bK hw,e1,e2⟩
 .by_cases c:ws=[]
  .right;rw[c]at hrl;exact List.length_eq_zero_iff.mp (by simpa using hrl)
  .left;have:=T6 c;omega
abbrev wU:Stmt:=top 39
abbrev oW:Da Str:=["_law_model_here","_law_amounts","_law_seat_here","_law_award"]
abbrev PN:Da Str:=oW.append ["_law_parts","_law_whole","_law_kept","_law_given","_law_at_here","_law_k"]
def jJ:aJ PN oW (ay wU):=dh
theorem Ol(F:At K mg "_law_bear" wU f fd)(bg:mg "len"=none)(bq:mg "range"=none)(fE:mg "sum"=none):Dn P w K mg base 1 "_law_bear" oW (MZ K):=by
 refine F.oA jJ λ_ _ _ _ H _ Q E hr h=>?_;obtain⟨⟨n,ρ,B,b,l,as,seat,aw,rfl,G,h,wf,hl,cl,ok,q⟩⟩:=h;refine⟨_,(@cS.h _ _ _ (aj (aX (i:=4) jJ.nd (bF (bN hr) (qv 0) aU))
  (aj (aX (i:=5) jJ.nd (aF (ju K rfl) (by rfl) fE ue (af (fJ ["_law_part"] [none] rfl (cY K (qv 4)) (λ_ _ _ _=>(aL (i:=0) (show List.Nodup (["_law_part"] :Da Str)from by decide +kernel))) (λ_ _ _ _=>(aG (aK K) (qv 0) ao)) rfl (by rfl)) ai)))
  (aj (aX (i:=6) jJ.nd (aH tV (aH tV (qv 5) (qv 3)) (aF (ju K rfl) (by rfl) fE ue (af (qv 1) ai))))
  (aj (aX (i:=7) jJ.nd (eY ai))
  (aj (dP fC rfl (ef (by rfl) bq (af (aF (bL K) (by rfl) bg c9 (af (bF (bN hr) (qv 0) aU) ai)) ai)) (aL (i:=8) jJ.nd) (aq (cg (kQ mG pG pH eX (qv 7) (af (aF (ju K rfl) (by rfl) fE ue (af (fJ ["_law_k","_law_parts","_law_at_here","_law_amounts"] [none,some 4,some 8,some 1] rfl (ef (by rfl) bq (af (aF (bL K) (by rfl) bg c9 (af (qv 4) ai)) ai)) (λ_ _ _ _=>(aL (i:=0) (show List.Nodup (["_law_k","_law_parts","_law_at_here","_law_amounts"] :Da Str)from by decide +kernel))) (λ_ _ _ _=>(aH kU (aG (aK K) (aG (aK K) (aG (aK K) (qv 1) (qv 0)) ao) (qv 2)) (aG (aK K) (qv 3) (qv 0)))) rfl (by rfl)) ai)) ai)))))
  (aj (jj (aP iX (qv 3) ao (aZ _)) (aq (tZ (aH cW (aG (aK K) (qv 7) (qv 2)) (aH kU (qv 3) (bF (bN hr) (qv 0) aU))) (t8 (qv 7) (qv 2) set_list))) aQ)
  (aj (dP fC rfl (ef (by rfl) bq (af (aF (bL K) (by rfl) bg c9 (af (qv 4) ai)) ai)) (aL (i:=9) jJ.nd) (aj (tZ (fJ ["_law_at_here","_law_parts","_law_k","_law_kept","_law_given"] [none,some 4,some 9,some 6,some 7] rfl (ef (by rfl) bq (af (aF (bL K) (by rfl) bg c9 (af (qv 7) ai)) ai)) (λ_ _ _ _=>(aL (i:=0) (show List.Nodup (["_law_at_here","_law_parts","_law_k","_law_kept","_law_given"] :Da Str)from by decide +kernel))) (λ_ _ _ _=>(aH cW (aH kU (aG (aK K) (aG (aK K) (aG (aK K) (qv 1) (qv 2)) ao) (qv 0)) (qv 3)) (aG (aK K) (qv 4) (qv 0)))) rfl (by rfl)) (t8 (aG (aK K) (qv 4) (qv 9)) ao set_list))
  (aq (tZ (aH tV (aG (aK K) (aG (aK K) (qv 4) (qv 9)) ao) (aG (aK K) (qv 1) (qv 9))) (t8 (aG (aK K) (qv 4) (qv 9)) ao set_list)))))
  (aj (qi (bN hr) (qv 0) aU (aH kU (bF (bN hr) (qv 0) aU) (qv 5)) rfl)
  (aq (qi (bN hr) (qv 0) aU (D8 ["_law_part"] [none] rfl (cY K (qv 4)) (λ_ _ _ _=>(aL (i:=0) (show List.Nodup (["_law_part"] :Da Str)from by decide +kernel))) (λ_ _ _ _=>(qv 0)) (λ_ _ _ _=>(aP iX (aG (aK K) (qv 0) ao) ao (aZ _))) rfl (by rfl)) rfl))))))))))),?_⟩
 have pl:=wf.pl;have mq:(B.qs.map λq=>V.ref q.1).length=b.ah.length:=by rw[aD];exact h.ql
 refine⟨_,Z,B.m,_,Z,cE.k (k:=Sum.inr "parts") h.om,?_⟩;refine⟨_,Z,B.lp,Z,⟨_,az.of h.op⟩,λl0 iD=>?_⟩;refine gf (J:=tU K B.lp) (n:=b.ah.length) 0 (λi o H'=>aE H H'/\o=((b.ah.take i).map (λp:BP=>p.wo)).map V.int) (by omega) ⟨aA iD _,Z⟩ (λi o H' hi _ hp=>⟨_,_,az.of (hp.1 _ _ h.op),aY (by rw[mq];exact hi)⟩) (λo H' _ hp=>⟨_,az.of (hp.1 _ _ h.op),by rw[mq];exact aN _⟩) ?_ ?_
 .rintro i y o H2 H3 hi dY ha ⟨g,e⟩ ⟨rfl,hy⟩;have ei:=aY hi;obtain⟨qq,eq,k1,k2,_,_⟩:=h.find ei;have ey:=hy _ (az.of (g _ _ h.op));rw[bH,eq]at ey;cases ey;refine⟨_,Z,qq.1,_,_,_,Z,Z,az.of (g _ _ k1),aO (j:=2) rfl,ha,g.bQ iD _,?_⟩;subst e;rw[take_snoc ei,bw,bw];rfl
 rintro o1 H1 _ ha ⟨g1,e⟩;rw[bV]at e;subst e;refine⟨l0,b.ah.map (λp:BP=>p.wo),Z,az.of ha,?_⟩;show iA 5 (.int (bu b)) _ _ _;refine⟨_,Z,_,Z,_,_,Z,Z,_,Z,l,as,Z,g1.seq hl,_,_,Z,Z,?_⟩;show iA 6 (.int (bu b-aw-as.sum)) _ _ _;generalize ekp:bu b-aw-as.sum=kept at *;have hkp:0<kept:=by rw[<-ekp];exact ok.kept
 have zw:=ok.big;have as0:0<=as.sum:=by
  cases has:as with
  | nil=>exact lM _
  | cons a l=>exact Int.le_trans (ok.a0 a (by rw[has];exact cQ)) (by rw[<-has];exact xG ok.a0 (by rw[has];exact cQ))
 have zk:Jm.Sz 60 kept:=zw.of_le (by have:=ok.Dr;omega);have za:∀a∈as,Jm.Sz 60 a:=λa hm=>zw.of_le (by have:=ok.a0 a hm;have:=xG ok.a0 hm;have:=ok.Dr;omega);have zaw:Jm.Sz 60 aw:=zw.of_le (by have:=ok.Dr;omega);have zt:∀p∈b.ah,∀t∈p.tops,Jm.Sz 7000 t:=λp hp t ht=>Jm.Sz.oG (by have:=wf.t0 p hp t ht;have:=wf.b1;omega) (wf.t0 p hp t ht).2 wf.bz;have h1:=h.mono g1;have hl1:=g1.seq hl;refine⟨(gM 0),λgv hgv=>?_⟩;have g2:=aA hgv (.lst []);have ZI:upd H1 gv (.lst []) gv=some (.lst []):=ak;have Y_:H gv=none:=g1.free hgv;have WC:=g1.trans g2;show zL _ _ _ _ (upd H1 gv (.lst []));generalize upd H1 gv (.lst [])=H2 at *;have h2:=h.mono WC;have ol:=wf.ol;have oml:(b.own.map V.str).length=b.own.length:=aD _;refine⟨_,Z,B.m,_,Z,cE.k (k:=Sum.inr "owners") h2.om,B.lo,_,Z,.inl (az.of h2.oo),_,Z,by omega,by omega,?_⟩;refine gh (lo:=0) (n:=(((b.own.map V.str).length:Nat):Int).toNat) (λi σ H'=>aE H H'/\H' gv=some (.lst (((List.range i).map (iH b.ah as)).map V.int))/\∃s8,σ=[some (.ref B.m),some (.ref l),some (.int (seat:Int)),some (.int aw),some (.ref B.lp),some (.int (bu b)),some (.int kept),some (.ref gv),s8,none])
  ⟨WC,ZI,_,Z⟩ ?_ ?_
 .rintro i σ H3 hi ⟨g3,GJ,s8,rfl⟩;have e0:(0:Int)+(i:Int)=((i:Nat):Int):=by omega
  rw[e0];have hio:i<b.own.length:=by omega
  refine⟨_,Z,.inl ⟨Z,_,az.of GJ⟩,_,Z,B.lp,_,Z,.inl (az.of (g3 _ _ h.op)),_,Z,by omega,by omega,λc hc=>?_⟩;refine gf (J:=Jo 0 _) (n:=b.ah.length) 0 (λj o H'=>aE H3 H'/\o=(List.zipWith (λ(p:BP)(a:Int)=>p.tops.getD i 0*a) (b.ah.take j) (as.take j)).map V.int) (by omega) ⟨aA hc _,Z⟩ (λj o H' hj _ _=>by show j<(((B.qs.map λq=>V.ref q.1).length:Nat):Int).toNat;omega) (λo H' _ _=>by show(((B.qs.map λq=>V.ref q.1).length:Nat):Int).toNat<=b.ah.length;omega) ?_ ?_
  .rintro j x o H4 H5 hj dY WD ⟨g4,e4⟩ ⟨rfl,rfl⟩;have e0:(0:Int)+(j:Int)=((j:Nat):Int):=by omega
   rw[e0];have ej:=aY hj;have hja:j<as.length:=by rw[ok.len];exact hj
   have ea:=aY hja;obtain⟨qq,eq,k1,k2,_,_⟩:=h.find ej;have gg:=g3.trans g4;have hti:i<(b.ah[j]).tops.length:=by rw[wf.tl _ (bK ej)];exact hio
   have et:=aY hti;have eD:(b.ah[j]).tops.getD i 0=(b.ah[j]).tops[i] :=by rw[gT,et];rfl
   refine⟨_,Z,_,Z,B.lp,_,_,_,Z,Z,az.of (gg _ _ h.op),aO (by rw[bH,eq];rfl),qq.1,_,_,_,Z,Z,az.of (gg _ _ k1),aO (j:=4) rfl,_,Z,qq.2,_,_,_,Z,Z,az.of (gg _ _ k2),aO (by rw[bH,et];rfl),?_⟩;refine⟨_,Z,_,Z,l,_,_,_,Z,Z,gg.seq hl,aO (by rw[bH,ea];rfl),_,_,Z,Z,jR (zt _ (bK ej) _ (bK et)) (za _ (bK ea)),WD,g4.bQ hc _,?_⟩;rw[M3 ej ea,e4,bw,eD];rfl
  rintro o H4 _ WD ⟨g4,e4⟩;have e5:List.zipWith (λ(p:BP)(a:Int)=>p.tops.getD i 0*a) (b.ah.take b.ah.length) (as.take b.ah.length)=List.zipWith (λ(p:BP)(a:Int)=>p.tops.getD i 0*a) b.ah as:=by rw[bV,<-ok.len,bV]
  rw[e5]at e4;subst e4;refine⟨c,_,Z,az.of WD,gv,_,_,Z,Z,g4 _ _ GJ,by rw[aD,aD,zh];exact dU (by omega),(g3.trans g4).bQ Y_ _,?_,_,Z⟩;rw[ak,List.range_succ,bw,bw];rfl
 rintro σ H3 ⟨g3,GJ,s8,rfl⟩;rw[show(((b.own.map V.str).length:Nat):Int).toNat=b.own.length from by omega]at GJ;have GJ:H3 gv=some (.lst ((gr b as).map V.int)):=GJ;have h3:=h.mono g3;have gl:=lQ b as;refine⟨λσ H'=>aE H H'/\H' gv=some (.lst ((gU b as seat aw).map V.int))/\σ=[some (.ref B.m),some (.ref l),some (.int (seat:Int)),some (.int aw),some (.ref B.lp),some (.int (bu b)),some (.int kept),some (.ref gv),s8,none],?_,?_⟩
 .refine ⟨_,Z,_,_,Z,Z,_,Z,dg (λc=>?_) (λc=>?_)⟩
  .have c':0<aw:=dH c;have hsl:seat<(gr b as).length:=by rw[gl];exact ok.seat
   have es:=aY hsl;have eD:(gr b as).getD seat 0=(gr b as)[seat] :=by rw[gT,es];rfl
   refine⟨_,Z,_,Z,gv,_,_,_,Z,Z,az.of GJ,aO (by rw[bH,es];rfl),_,Z,_,Z,B.m,_,Z,cE.k (k:=Sum.inr "bottom") h3.om,_,_,Z,Z,jR zaw wf.bz,_,_,Z,Z,_,Z,_,Z,gv,_,_,_,Z,Z,GJ,by rw[aD];exact vn hsl,g3.bQ Y_ _,?_,Z⟩;rw[ak];unfold gU;rw[aC c',u7,eD]
  .have c':¬ 0<aw:=kF (gX.mpr c);refine⟨g3,?_,Z⟩;unfold gU;rw[aB c'];exact GJ
 rintro σ H4 ⟨g4,hg4,rfl⟩;have gvl:=vW b as seat aw;generalize egv:gU b as seat aw=given at *;have h4:=h.mono g4;have gmn:(given.map V.int).length=b.own.length:=by rw[aD];exact gvl
 have cgv:ρ gv=none:=G.none Y_;have bl:(dW b as seat aw).length=b.ah.length:=xF ok.len;refine⟨_,Z,B.lp,_,Z,.inl (az.of h4.op),_,Z,by omega,by omega,?_⟩;refine gh (lo:=0) (n:=(((B.qs.map λq=>V.ref q.1).length:Nat):Int).toNat) (IvB n ρ H B b as given seat aw kept l gv)
  ⟨ρ,B,_,_,Z,G.same g4,h4,Z,Z,Fr.of_same g4,hg4,cgv⟩ ?_ ?_
 .rintro i σ H5 hi ⟨ρ5,B5,s8,s9,rfl,G5,h5,AF,DG,F5,RX,cg5⟩;have e0:(0:Int)+(i:Int)=((i:Nat):Int):=by omega
  rw[e0];have DH:i<b.ah.length:=by omega
  have ei:=aY DH;have ja:=bK ei;have hia:i<as.length:=by rw[ok.len];exact DH
  have ea:=aY hia;have em:((dW b as seat aw).take i++b.ah.drop i)[i]?=some b.ah[i] :=aa5 (by omega) ei;have ebp:=M1 (seat:=seat) (aw:=aw) ei ea;rw[egv,ekp]at ebp;have ZT:=wf.tl _ ja;have yY:=zt _ ja;generalize b.ah[i]=p at *;have hza:=za _ (bK ea);generalize as[i]=a at *;obtain⟨qq,eq,k1,k2,c1,c2⟩:=h5.find em;have op5:H5 B.lp=some (.lst (B5.qs.map λq=>V.ref q.1)):=by rw[<-DG];exact h5.op
  have Kd:(B5.qs.map λq=>V.ref q.1)[i]?=some (.ref qq.1):=by rw[bH,eq];rfl
  refine⟨_,Z,gv,_,Z,.inl (az.of RX),_,Z,by omega,by omega,λt1 ht1=>?_⟩;refine gf (J:=Jo 0 _) (n:=b.own.length) 0 (λj o H'=>aE H5 H'/\o=(List.zipWith (λt g=>t*kept+g) (p.tops.take j) (given.take j)).map V.int) (by omega) ⟨aA ht1 _,Z⟩ (λj o H' hj _ _=>by show j<(((given.map V.int).length:Nat):Int).toNat;omega) (λo H' _ _=>by show(((given.map V.int).length:Nat):Int).toNat<=b.own.length;omega) ?_ ?_
  .rintro j x o H6 H7 hj dY yV ⟨g6,e6⟩ ⟨rfl,rfl⟩;have e0:(0:Int)+(j:Int)=((j:Nat):Int):=by omega
   rw[e0];have et:=aY (show j<p.tops.length by rw[ZT];exact hj);have eg:=aY (show j<given.length by rw[gvl];exact hj);refine⟨_,Z,_,Z,B.lp,_,_,_,Z,Z,az.of (g6 _ _ op5),aO Kd,qq.1,_,_,_,Z,Z,az.of (g6 _ _ k1),aO (j:=4) rfl,_,Z,qq.2,_,_,_,Z,Z,az.of (g6 _ _ k2),aO (by rw[bH,et];rfl),?_⟩;refine⟨_,Z,_,_,Z,Z,jR (yY _ (bK et)) zk,_,Z,_,Z,gv,_,_,_,Z,Z,az.of (g6 _ _ RX),aO (by rw[bH,eg];rfl),_,_,Z,Z,yV,g6.bQ ht1 _,?_⟩;rw[nu _ et eg,e6,bw];rfl
  rintro o H6 _ yV ⟨g6,e6⟩;rw[show p.tops.take b.own.length=p.tops from by rw[<-ZT];exact bV,show given.take b.own.length=given from by rw[<-gvl];exact bV]at e6;subst e6;have h6:=h5.mono g6;have G6:=G5.same g6;have ct1:ρ5 t1=none:=G5.none ht1;have h7:aV n (b_ ρ5 t1 (n,24,p.nm)) B5 H6 { b with ah:=(dW b as seat aw).take i++b.ah.drop i }:=h6.col ct1;have G7:Gh (b_ ρ5 t1 (n,24,p.nm)) H6:=G6.color yV rfl;have F7:Fr n ρ H (b_ ρ5 t1 (n,24,p.nm)) H6:=F5.trans (Fr.color ht1 g6);have ct:b_ ρ5 t1 (n,24,p.nm) t1=some (n,24,p.nm):=dz;have cg7:b_ ρ5 t1 (n,24,p.nm) gv=none:=by rw[cC (λz=>by rw[z]at RX;rw[RX]at ht1;cases ht1)];exact cg5
  have hg6:=g6 _ _ RX;have op6:=g6 _ _ op5;have k16:=g6 _ _ k1;have WL:b_ ρ5 t1 (n,24,p.nm) qq.1=some (n,23,p.nm):=by rw[cC (aI k1 ht1)];exact c1
  generalize b_ ρ5 t1 (n,24,p.nm)=ρ7 at *;have ndm:(((dW b as seat aw).take i++b.ah.drop i).map (λp:BP=>p.nm)).Nodup:=by rw[VQ ok.len];exact wf.nd
  have nqg:gv≠qq.1:=λz=>by rw[z,WL]at cg7;cases cg7
  generalize eT:List.zipWith (λt g=>t*kept+g) p.tops given=T at *;refine⟨_,Z,_,Z,B.lp,_,_,_,Z,Z,az.of op6,aO Kd,qq.1,_,_,4,Z,Z,k16,Z,?_⟩;have h8:=h7.yD G7 (p1:={ p with tops:=T }) (t1:=t1) em eq rfl ndm yV ct;have G8:=G7.wr (a:=qq.1) (o:=qh { p with tops:=T } t1) rfl;have F8:=F7.trans (Fr.write (o:=qh { p with tops:=T } t1) WL);have k18:upd H6 qq.1 (qh { p with tops:=T } t1) qq.1=some (qh { p with tops:=T } t1):=ak;have hg8:upd H6 qq.1 (qh { p with tops:=T } t1) gv=some (.lst (given.map V.int)):=by rw[av nqg];exact hg6
  have nlp:B.lp≠qq.1:=λz=>by have:=h7.cp;rw[DG,z,WL]at this;cases this
  have op8:upd H6 qq.1 (qh { p with tops:=T } t1) B.lp=some (.lst (B5.qs.map λq=>V.ref q.1)):=by rw[av nlp];exact op6
  have ntq:t1≠qq.1:=λz=>by rw[z,WL]at ct;cases ct
  have ht8:upd H6 qq.1 (qh { p with tops:=T } t1) t1=some (.lst (T.map V.int)):=by rw[av ntq];exact yV
  generalize hH8:upd H6 qq.1 (HO.lst _)=H8;have aeY:upd H6 qq.1 (qh { p with tops:=T } t1)=H8:=hH8;rw[aeY]at h8 G8 F8 k18 hg8 op8 ht8;clear hH8 aeY;refine⟨_,Z,_,Z,B.lp,_,_,_,Z,Z,az.of op8,aO Kd,qq.1,_,_,_,Z,Z,az.of k18,aO (j:=2) rfl,?_⟩;refine⟨_,Z,_,Z,l,_,_,_,Z,Z,F8.seq hl cl,aO (by rw[bH,ea];rfl),_,_,Z,Z,?_⟩;refine⟨_,Z,_,Z,B.lp,_,_,_,Z,Z,az.of op8,aO Kd,qq.1,_,_,2,Z,Z,k18,Z,?_⟩;have hiq:i<B5.qs.length:=(dZ.mp eq).1;have him:i<((dW b as seat aw).take i++b.ah.drop i).length:=(dZ.mp em).1;have h9:=h8.yD G8 (i:=i) (p0:={ p with tops:=T }) (p1:=mK given kept p a) (q0:=(qq.1,t1)) (t1:=t1) (uc him) (uc hiq) rfl (by show((((dW b as seat aw).take i++b.ah.drop i).set i { p with tops:=T }).map (λp:BP=>p.nm)).Nodup;rw[u7,xD (by rw[bH,em];rfl)];exact ndm) (by show H8 t1=some (.lst ((List.zipWith (λt g=>t*kept+g) p.tops given).map V.int));rw[eT];exact ht8) ct
  have e9:(((dW b as seat aw).take i++b.ah.drop i).set i { p with tops:=T }).set i (mK given kept p a)=(dW b as seat aw).take (i+1)++b.ah.drop (i+1):=by rw[xw];exact aa6 ebp DH
  have h9':aV n ρ7 { B5 with qs:=(B5.qs.set i (qq.1,t1)).set i (qq.1,t1) } (upd H8 qq.1 (qh (mK given kept p a) t1)) { b with ah:=(((dW b as seat aw).take i++b.ah.drop i).set i { p with tops:=T }).set i (mK given kept p a) }:=h9;rw[e9]at h9';exact⟨ρ7,{ B5 with qs:=(B5.qs.set i (qq.1,t1)).set i (qq.1,t1) },_,_,Z,G8.wr rfl,h9',AF,DG,F8.trans (Fr.write WL),by rw[av nqg];exact hg8,cg7⟩
 rintro σ H5 ⟨ρ5,B5,s8,s9,rfl,G5,h5,AF,DG,F5,RX,cg5⟩;rw[show(((B.qs.map λq=>V.ref q.1).length:Nat):Int).toNat=b.ah.length from by omega,show(dW b as seat aw).take b.ah.length=dW b as seat aw from by rw[<-bl];exact bV,EL,u0]at h5;obtain⟨m5,RY,lp5,RZ,R0,R1⟩:=B5;have AF:m5=B.m:=AF;have DG:lp5=B.lp:=DG;subst AF DG;refine⟨_,Z,B.m,_,Z,cE.k (k:=Sum.inr "bottom") h5.om,_,Z,_,_,Z,Z,jR wf.bz zw,_,Z,B.m,_,Z,um.k (k:=Sum.inr "bottom") h5.om (by show 5<sizeLine;decide),?_⟩;rw[VR];have h6:=h5.aa1 G5 (b.bot*bu b);have G6:=G5.wr (a:=B.m) (o:=.dK (fL ⟨B.m,RY,B.lp,RZ,R0,R1⟩ (b.bot*bu b))) rfl;have F6:=F5.trans (Fr.write (o:=.dK (fL ⟨B.m,RY,B.lp,RZ,R0,R1⟩ (b.bot*bu b))) h5.cm);generalize hH6:upd H5 B.m (HO.dK _)=H6;have aeZ:upd H5 B.m (.dK (fL ⟨B.m,RY,B.lp,RZ,R0,R1⟩ (b.bot*bu b)))=H6:=hH6;have h6:aV n ρ5 ⟨B.m,RY,B.lp,RZ,R0,R1⟩ (upd H5 B.m (.dK (fL ⟨B.m,RY,B.lp,RZ,R0,R1⟩ (b.bot*bu b)))) { b with ah:=dW b as seat aw,bot:=b.bot*bu b }:=h6;rw[aeZ]at h6 G6 F6;clear hH6 aeZ;refine⟨_,Z,B.lp,Z,⟨_,az.of h6.op⟩,λlp wc=>Wl (B:=⟨B.m,RY,B.lp,RZ,R0,R1⟩) h6 G6 (by show(dW b as seat aw).length<=1000;omega) wc λρ8 H7 Z4 G9 h9 F9=>?_⟩;exact⟨_,Z,B.m,_,Z,um.k (k:=Sum.inr "parts") Z4 (by show 5<sizeLine;decide),q _ _ _ G9 h9 rfl (F6.trans F9)⟩
abbrev nK:Stmt:=top 40
abbrev jl:Da Str:=["_law_model_here","_law_rows_here"]
abbrev CV:Da Str:=jl.append ["_law_amounts","_law_name_here","_law_amount"]
def kr:aJ CV jl (ay nK):=dh
theorem B0(F:At K mg "_law_model_cast" nK f fd)(ku:Dn P w K mg base 1 "_law_at" nJ (ZJ K))(mF:Dn P w K mg base 1 "_law_bear" oW (MZ K)):Dn P w K mg base 2 "_law_model_cast" jl (H_ K):=by
 refine F.oA kr λ_ _ _ _ H _ Q E hr h=>?_;obtain⟨⟨n,ρ,B,b,l,us,rs,rfl,G,h,wf,hl,hR,cl,rb,hle,bo,q⟩⟩:=h;refine⟨_,(@cS.h _ _ _ (aj (mz (i:=2) ["_law_part"] [none] kr.nd rfl rfl rfl (cY K (bF (bN hr) (qv 0) aU)) (λ_ _ _ _=>(aL (i:=0) (show List.Nodup (["_law_part"] :Da Str)from by decide +kernel))) (λ_ _ _ _=>ao) rfl (by rfl) (by rfl))
  (aj (dP fC rfl (cY K (qv 1)) (i7 K (n:=2) rfl (cM (aL (i:=3) kr.nd) (cM (aL (i:=4) kr.nd) i6))) (aq (tZ (qv 4) (t8 (qv 2) (bh ku hr (af (bF (bN hr) (qv 0) aU) (af (qv 3) ai))) set_list))))
  (aq (cg (bh mF hr (af (qv 0) (af (qv 2) (af ao (af ao ai)))))))))),?_⟩
 have pl:=wf.pl;have mq:(B.qs.map λq=>V.ref q.1).length=b.ah.length:=by rw[aD];exact h.ql
 refine⟨_,Z,B.m,_,Z,cE.k (k:=Sum.inr "parts") h.om,B.lp,Z,⟨_,az.of h.op⟩,λl0 iD=>?_⟩;refine gf (J:=tU K B.lp) (n:=b.ah.length) 0 (λi o H'=>aE H H'/\o=((b.ah.take i).map λ_=>(0:Int)).map V.int) (by omega) ⟨aA iD _,Z⟩ (λi o H' hi _ hp=>⟨_,_,az.of (hp.1 _ _ h.op),aY (by rw[mq];exact hi)⟩) (λo H' _ hp=>⟨_,az.of (hp.1 _ _ h.op),by rw[mq];exact aN _⟩) ?_ ?_
 .rintro i y o H2 H3 hi dY ha ⟨g,e⟩ ⟨rfl,hy⟩;refine⟨ha,g.bQ iD _,?_⟩;subst e;rw[take_snoc (aY hi),bw,bw];rfl
 rintro o1 H1 _ ha ⟨g1,e⟩;rw[bV]at e;subst e;have NO:=hR.length;refine⟨_,Z,l,Z,⟨us,g1.seq hl⟩,?_⟩;refine jC (K:=K) (xs:=us) (λi σ H'=>aE H H'/\H' l0=some (.lst ((di b (rs.take i)).map V.int))/\∃s3 s4,σ=[some (.ref B.m),some (.ref l),some (.ref l0),s3,s4]) ⟨g1,ha,_,_,Z⟩ (λi σ H' _ hp=>hp.1.seq hl) ?_ ?_
 .rintro i x σ H2 hx ⟨g2,ha2,s3,s4,rfl⟩;obtain⟨a,r,rfl,er,har⟩:=hR.get hx;obtain⟨r1,j,p,hp,e,le⟩:=rb.row r (bK er);have hj:=(dZ.mp hp).1;have hn:r.1∉(rs.take i).map (λr:Row=>r.1):=by rw[Cj];exact kZ rb.nd (by rw[bH,er];rfl)
  obtain⟨s1,s2⟩:=FL wf.nd hp e hn;have h2:=h.mono g2;refine⟨a,_,Z,cV.of (g2 _ _ har),Z,_,_,Z,_,_,Z,Z,?_⟩;refine⟨_,Z,_,Z,_,Z,B.m,_,Z,cE.k (k:=Sum.inr "parts") h2.om,_,Z,⟨⟨B.lp,_,lg b,j,(p.nm,p.wo),by rw[<-e];rfl,az.of h2.op,h2.nw,?_,by unfold lg;rw[aD];exact pl,by unfold lg;rw[bH,hp];rfl,?_⟩⟩⟩
  .unfold lg;rw[f_];exact wf.nd
  .refine ⟨l0,_,_,j,Z,Z,ha2,by rw[aD,Br];exact vn hj,g2.bQ iD _,?_,_,_,Z⟩;rw[ak,take_snoc er,s1,u7]
 rintro σ H2 ⟨g2,ha2,s3,s4,rfl⟩;rw[NO,bV]at ha2;refine⟨_,Z,_,Z,⟨⟨n,ρ,B,b,l0,di b rs,0,0,Z,G.same g2,h.mono g2,wf,az.of ha2,G.none iD,bo,λρ' B' H' a1 a2 a3 a4=>q ρ' B' H' a1 a2 a3 ((Fr.of_same g2).trans a4)⟩⟩⟩
abbrev uR:Stmt:=top 36
abbrev rA:Da Str:=["_law_script","_law_k","_law_hold","_law_model_here","_law_names_here","_law_many"]
abbrev Om:Da Str:=rA.append ["_law_at_here","_law_owner","_law_worth","_law_weight"]
def mw:aJ Om rA (ay uR):=dh
theorem KR{T:TC}(F:At K mg "_law_loads" uR f fd)(bf:Dn P w K mg base 1 "_law_draw" gw (oH K))(yh:Dn P w K mg base 2 "_law_much" tP (Mv K))(rB:Dn P w K mg base 2 "_law_new_part" m8 JR)(yi:Mn P w K mg base 4 T.hold "load" tL (Vz T))(bg:mg "len"=none)(bq:mg "range"=none):Dn P w K mg base 5 "_law_loads" rA (NJ T K):=by
 refine F.oA mw λ_ _ _ _ H _ Q E hr h=>?_
 obtain⟨⟨n,m,ρ,A,B,st,b,a,ln,ns,k,nms,BT,rfl,nm,hh,hb,gd,hS,h63,hk0,hk1,hN,WM,yC,GC,hml,amR,en,ep,ek,q⟩⟩:=h
 refine⟨_,(@cS.h _ _ _ (aq (dP fC rfl (ef (by rfl) bq (af (qv 5) ai)) (aL (i:=6) mw.nd) (aj (aX (i:=7) mw.nd (aG (aK K) (bF (bN hr) (qv 3) aU) (bh bf hr (af (qv 0) (af (aH cW (qv 1) (qv 6)) (af ao (af (aF (bL K) (by rfl) bg c9 (af (bF (bN hr) (qv 3) aU) ai)) ai)))))))
  (aj (aX (i:=8) mw.nd (bh yh hr (af (qv 0) (af (aH cW (qv 1) (qv 6)) (af ao ai)))))
  (aj (aX (i:=9) mw.nd (bh bf hr (af (qv 0) (af (aH cW (qv 1) (qv 6)) (af ao (af ao ai))))))
  (aj (cg (gu yi hr (qv 2) (af (aG (aK K) (qv 4) (qv 6)) (af (qv 7) (af (qv 8) (af (qv 9) ai))))))
  (aq (cg (bh rB hr (af (qv 3) (af (aG (aK K) (qv 4) (qv 6)) (af (qv 7) (af (qv 8) (af (qv 9) ai))))))))))))))),?_⟩
 refine⟨_,Z,_,Z,by omega,by omega,?_⟩
 refine gh (lo:=0) (n:=((BT:Nat):Int).toNat) (λi σ H'=>∃ρ' A' B' st' b' s6 s7 s8 s9,σ=[some (.ref a),some (.int k),some (.ref A.a),some (.ref B.m),some (.ref ln),some (.int (BT:Int)),s6,s7,s8,s9]/\HH T n ρ' A' H' st'/\aV m ρ' B' H' b'/\d_ 0 st' b'/\A'.a=A.a/\B'.m=B.m/\b'.own=b.own/\b'.dB=b.dB/\b'.ah.length=i/\b'.dG.length=i/\st'.nms=nms.take i/\st'.kn=st.kn/\aE (out ρ H) (out ρ' H'))
  ⟨ρ,A,B,st,b,_,_,_,_,Z,hh,hb,gd,Z,Z,Z,Z,by rw[ep];rfl,by rw[ek];rfl,by rw[en];rfl,Z,aE.refl _⟩ ?_ ?_
 . rintro i σ H1 hi ⟨ρ1,A1,B1,st1,b1,s6,s7,s8,s9,rfl,gj,hb1,t_,B3,xT,DI,B7,Z5,ekl,Z6,ekn,o1⟩
   have e0:(0:Int)+(i:Int)=((i:Nat):Int):=by omega
   rw[e0]
   have him:i<BT:=by omega
   have hin:i<nms.length:=by omega
   have ex:=aY hin
   have exm:=bK ex
   have V2:=yC _ exm
   have hxn:nms[i]∉nms.take i:=kZ WM ex
   generalize nms[i]=x at *
   have yW:=hS _ _ o1
   have hN1:=hN _ _ o1
   have omH:H1 B.m=some (.dK (fL B1 b1.bot)):=by rw[<-xT];exact hb1.om
   have ol1:(b1.own.map V.str).length=b1.own.length:=aD _
   have ow0:=t_.own
   refine⟨_,Z,B.m,_,Z,cE.k (k:=Sum.inr "owners") omH,_,Z,_,Z,_,Z,_,_,Z,Z,_,Z,B.m,_,Z,cE.k (k:=Sum.inr "owners") omH,B1.lo,_,Z,.inl (az.of hb1.oo),dJ yW h63 (by omega) (by decide) (by decide) (by omega) λd _ d0 d1=>?_⟩
   obtain⟨jo,o,ejo,eo,eat⟩:=Yn (l:=b1.own) d0 (by omega)
   have hom:o∈b1.own:=bK eo
   refine⟨B1.lo,_,_,_,Z,Z,az.of hb1.oo,eat,?_⟩
   refine⟨_,Z,_,Z,_,Z,_,_,Z,Z,X4 yW h63 (by omega) (by decide) (by decide) λwo H2 w1 w2 g2=>?_⟩
   refine⟨_,Z,_,Z,_,Z,_,_,Z,Z,dJ (g2.seq yW) h63 (by omega) (by decide) (by decide) (by decide) λwe _ v0 v1=>?_⟩
   have iV:=gj.mono g2
   have o2:=o1.trans (jf (ρ:=ρ1) g2)
   have hN2:=hN _ _ o2
   have exv:(nms.map V.str)[i]?=some (.str x):=by rw[bH,ex];rfl
   have hxs:x∉st1.nms:=by rw[Z6];exact hxn
   have eow:=t_.rel.own
   have hnl:st1.nms.length=i:=by rw[Z6,kL];omega
   refine⟨_,Z,A.a,A1.dx,_,Z,by rw[<-B3];exact iV.h.oa,Z,_,Z,_,Z,ln,_,_,_,Z,Z,hN2,aO exv,_,Z,_,Z,_,Z,⟨⟨n,ρ1,A1,st1,x,o,wo,we,by rw[B3];rfl,iV,V2.isNm,hxs,by rw[eow];exact hom,w1,v0,by omega,by rw[t_.rel.len];omega,λρ3 A3 H3 mY e3 f3=>?_⟩⟩⟩
   have BY:=(hb1.mono g2).other f3 iV.g (cD nm)
   have o3:=o2.trans f3.out
   have hN3:=hN _ _ o3
   refine⟨_,Z,_,Z,_,Z,ln,_,_,_,Z,Z,hN3,aO exv,_,Z,_,Z,_,Z,⟨⟨m,ρ3,B1,b1,x,o,wo,we,by rw[xT];rfl,mY.g,BY,hom,by have:=t_.fG.ol;omega,by omega,by omega,λρ4 B4 H4 G4 yX e4 f4=>?_⟩⟩⟩
   have mZ:=mY.other f4 G4 nm
   refine⟨ρ4,A3,B4,_,_,_,_,_,_,Z,mZ,yX,aa_ t_ gj.wf ?_ w1 w2 (by omega) (by omega) V2.isNm hom (by omega),e3.trans B3,e4.trans xT,DI,B7,?_,?_,?_,ekn,o3.trans f4.out⟩
   . intro hm
     obtain⟨p,hp,e⟩:=bD.mp hm
     obtain⟨j,hj,ej⟩:=uf hp
     obtain⟨p',Bs,e1,_⟩:=t_.rel.at (i:=j) (q:=p) (by rw[aY hj,ej])
     have:=gj.wf.sub p' (bK Bs)
     rw[e1]at this
     have e:p.nm=x:=e
     rw[e]at this
     exact hxs this
   . show(b1.ah++[_]).length=i+1
     rw[c8,Z5];rfl
   . show(b1.dG++[_]).length=i+1
     rw[c8,ekl];rfl
   . show st1.nms++[x]=nms.take (i+1)
     rw[Z6,take_snoc ex]
 rintro σ H1 ⟨ρ1,A1,B1,st1,b1,s6,s7,s8,s9,rfl,gj,hb1,t_,B3,xT,DI,B7,Z5,ekl,Z6,ekn,o1⟩
 exact q ρ1 A1 B1 H1 st1 b1 gj hb1 t_ B3 xT DI B7 (by rw[Z5];omega) ekn o1
abbrev wV:Stmt:=top 41
abbrev tQ:Da Str:=["_law_script","_law_hold","_law_model_here","_law_names_here"]
abbrev PR:Da Str:=tQ.append ["_law_rows_here"]
def B_:aJ PR tQ (ay wV):=dh
theorem Oo{T:TC}(F:At K mg "_law_prep" wV f fd)(bf:Dn P w K mg base 1 "_law_draw" gw (oH K))(wW:Dn P w K mg base 5 "_law_loads" rA (NJ T K))(kJ:Dn P w K mg base 2 "_law_rows" oV (CH K))(iy:Dn P w K mg base 2 "_law_model_cast" jl (H_ K))(yj:Mn P w K mg base 4 T.hold "cast" oS (VG T K))(bg:mg "len"=none)(dm:mg "list"=none):Dn P w K mg base 6 "_law_prep" tQ (RK T K):=by
 refine F.oA B_ λ_ _ _ _ H _ Q E hr h=>?_;obtain⟨⟨n,m,ρ,A,B,st,b,a,ln,ns,nms,rfl,nm,hh,hb,gd,hS,h63,hN,WM,yC,GC,h6,en,ep,ek,q⟩⟩:=h;refine⟨_,(@cS.h _ _ _ (aj (cg (bh wW hr (af (qv 0) (af ao (af (qv 1) (af (qv 2) (af (qv 3) (af (aH cW ao (bh bf hr (af (qv 0) (af ao (af ao (af ao ai)))))) ai))))))))
  (aq (jj (aP iX (bh bf hr (af (qv 0) (af ao (af ao (af ao ai))))) ao (aZ _)) (aj (aX (i:=4) B_.nd (bh kJ hr (af (qv 0) (af ao (af (bF (bN hr) (qv 2) aU) ai)))))
  (aq (jj (aP iX (aF (bL K) (by rfl) bg c9 (af (qv 4) ai)) ao (aZ _)) (aj (cg (gu yj hr (qv 1) (af (kh (lZ K) (by rfl) dm vz (af (qv 4) ai)) ai)))
  (aq (cg (bh iy hr (af (qv 2) (af (qv 4) ai)))))) aQ))) aQ)))),?_⟩
 refine⟨_,Z,_,Z,_,Z,_,Z,_,Z,dJ (hS _ _ (aE.refl _)) h63 (by decide) (by decide) (by decide) (by decide) λmd _ m0 m1=>⟨_,_,Z,Z,?_⟩⟩;obtain⟨BT,agx⟩:∃BT:Nat,2+md=(BT:Int):=⟨(2+md).toNat,by omega⟩
 refine⟨⟨n,m,ρ,A,B,st,b,a,ln,ns,4,nms,BT,by rw[<-agx];rfl,nm,hh,hb,gd,hS,h63,by decide,by decide,hN,WM,yC,GC,by omega,by omega,en,ep,ek,λρ1 A1 B1 H1 st1 b1 gj hb1 t_ B3 xT DI B7 Z5 ek1 o1=>?_⟩⟩;have yW:=hS _ _ o1;have pl:=t_.pl;refine⟨λσ' H'=>Q .cu H',?_,λ_ _ y=>y⟩;refine⟨_,Z,dJ yW h63 (by decide) (by decide) (by decide) (by decide) λcd _ _ _=>⟨_,_,Z,Z,_,Z,dg (λ_=>?_) (λ_=>?_)⟩⟩;rotate_left
 .exact q ρ1 A1 B1 H1 st1 b1 gj hb1 t_.mono B3 xT DI B7 (by omega) (by omega) o1
 have om1:H1 B.m=some (.dK (fL B1 b1.bot)):=by rw[<-xT];exact hb1.om
 refine⟨_,Z,_,Z,B.m,_,Z,cE.k (k:=Sum.inr "parts") om1,⟨⟨a,B1.lp,ns,10,_,lg b1,Z,yW,h63,by decide,by decide,az.of hb1.op,hb1.nw,by unfold lg;rw[f_];exact t_.fG.nd,by unfold lg;rw[aD];omega,λw hw=>by obtain⟨p,hp,rfl⟩:=bD.mp hw;exact t_.fG.w1 p hp,λz zs rs H2 g2 hz hz2 hR Z7=>?_⟩⟩⟩;have zl:=hR.length;have iV:=gj.mono g2;have hb2:=hb1.mono g2;have cz:ρ1 z=none:=gj.g.none hz;refine⟨λσ' H'=>Q .cu H',?_,λ_ _ y=>y⟩;refine⟨_,Z,z,_,Z,.inl (az.of hz2),_,_,Z,Z,_,Z,dg (λc0=>?_) (λc0=>?_)⟩;rotate_left
 .exact q ρ1 A1 B1 H2 st1 b1 iV hb2 t_.mono B3 xT DI B7 (by omega) (by omega) (o1.trans (jf g2))
 have c1:0<rs.length:=by have:(0:Int)<((zs.length:Nat):Int):=dH c0;omega
 have hne:rs≠[] :=λe=>by rw[e]at c1;simp at c1
 obtain⟨cok,rb,bo⟩:=Pn t_ gj.wf Z7 hne (by decide);refine⟨_,Z,A.a,A1.dx,_,Z,by rw[<-B3];exact iV.h.oa,Z,_,Z,z,_,Z,.inl (az.of hz2),λhd hhd=>?_⟩;have g3:=aA hhd (.lst zs);have RO:upd H2 hd (.lst zs) hd=some (.lst zs):=ak;have hz3:=g3 _ _ hz2;have hR3:=hR.mono g3.tups;have mY:=iV.mono g3;have BY:=hb2.mono g3;have o3:aE (out ρ H) (out ρ1 (upd H2 hd (.lst zs))):=o1.trans (jf (g2.trans g3));show ng _ (upd H2 hd (.lst zs)) _;generalize upd H2 hd (.lst zs)=H3 at *;refine⟨⟨n,ρ1,A1,st1,hd,zs,rs,by rw[B3];rfl,mY,az.of RO,hR3,cok,λρ4 A4 H4 mZ e4 f4=>?_⟩⟩;have yX:=BY.other f4 mY.g (cD nm);obtain⟨ez,cz4⟩:=f4.at hz3 cz;have hR4:=hR3.mono (f4.tup mY.g);refine⟨_,Z,_,Z,⟨⟨m,ρ4,B1,b1,z,zs,rs,by rw[xT];rfl,mZ.g,yX,t_.fG,az.of ez,hR4,cz4,rb,cok.len,bo,λρ5 B5 H5 G5 GF e5 f5=>?_⟩⟩⟩;exact q ρ5 A4 B5 H5 _ _ (mZ.other f5 G5 nm) GF (Rw t_ gj.wf cok rb bo (by decide)) (e4.trans B3) (e5.trans xT) DI B7 (by have:=Rx st1 rs;omega) (Wc bo) ((o3.trans f4.out).trans f5.out)
abbrev wX:Stmt:=top 61
abbrev tR:Da Str:=["_law_rows_here"]
abbrev PU:Da Str:=tR.append ["_law_things","_law_name_here","_law_amount"]
def rC:aJ PU tR (ay wX):=dh
theorem Oq(F:At K mg "_law_flat" wX f fd)(iI:mg "tuple"=none):Dn P w K mg base 1 "_law_flat" tR (Wi K):=by
 refine F.oA rC λ_ _ _ _ H _ Q E hr h=>?_;obtain⟨⟨l,us,rs,rfl,hl,hR,hle,q⟩⟩:=h;refine⟨_,(@cS.h _ _ _ (aj (aX (i:=1) rC.nd (eY (af aU ai)))
  (aj (dP fC rfl (cY K (qv 0)) (i7 K (n:=2) rfl (cM (aL (i:=2) rC.nd) (cM (aL (i:=3) rC.nd) i6))) (aj (cg (kQ mG pG pH eX (qv 1) (af (qv 2) ai)))
  (aq (cg (kQ mG pG pH eX (qv 1) (af (qv 3) ai))))))
  (aq (aM (kh Kg (by rfl) iI LH (af (qv 1) ai))))))),?_⟩
 have NO:=hR.length;refine⟨(gM 1),λt ht=>?_⟩;have g0:=aA ht (.lst [.str "cast"]);have h0:upd H t (.lst [.str "cast"]) t=some (.lst (Dd.v (.cast (rs.take 0)))):=ak;show zL _ _ _ _ (upd H t (.lst [.str "cast"]));generalize upd H t (.lst [.str "cast"])=H0 at *;refine⟨_,Z,l,Z,⟨us,g0.seq hl⟩,?_⟩;refine jC (K:=K) (xs:=us) (λi σ H'=>aE H H'/\H' t=some (.lst (Dd.v (.cast (rs.take i))))/\∃s2 s3,σ=[some (.ref l),some (.ref t),s2,s3]) ⟨g0,h0,_,_,Z⟩ (λi σ H' _ hp=>hp.1.seq hl) ?_ ?_
 .rintro i x σ H' hx ⟨g,hd',s2,s3,rfl⟩;obtain⟨a,r,rfl,er,ha⟩:=hR.get hx;have hlt:(Dd.v (.cast (rs.take i))).length+1<sizeLine:=by show(kg (rs.take i)).length+1+1<_;rw[Bw,kL,gy];exact LN (show _<=3000 by omega) (by decide)
  refine⟨a,_,Z,cV.of (g _ _ ha),Z,_,_,Z,_,_,Z,Z,?_⟩;refine⟨_,Z,.inl ⟨Z,_,az.of hd'⟩,_,Z,t,_,_,Z,Z,hd',by omega,?_⟩;refine⟨_,Z,.inl ⟨Z,_,az.of ak⟩,_,Z,t,_,_,Z,Z,ak,by rw[c8];exact hlt,?_⟩;refine⟨?_,?_,_,_,Z⟩
  .rw [rS];exact g.bQ ht _
  .rw [ak,take_snoc er];show some (HO.lst ((V.str "cast"::kg (rs.take i)++[V.str r.1])++[V.int r.2]))=some (HO.lst (V.str "cast"::kg (rs.take i++[r])));rw[Bv];simp[kg]
 rintro σ H' ⟨g,hd',s2,s3,rfl⟩;rw[NO,bV]at hd';refine⟨_,Z,t,_,Z,.inl ⟨az.of hd',λz hz=>q z _ (g.trans (aA hz _)) ak⟩⟩
abbrev pW:Stmt:=top 42
abbrev m9:Da Str:=["_law_model_here","_law_deed"]
abbrev GK:Da Str:=m9.append ["_law_named","_law_asked","_law_name_here","_law_k","_law_at_here"]
def iJ:aJ GK m9 (ay pW):=dh
theorem Es(F:At K mg "_law_due_cast" pW f fd)(ku:Dn P w K mg base 1 "_law_at" nJ (yO K))(bg:mg "len"=none)(bq:mg "range"=none)(fE:mg "sum"=none):Dn P w K mg base 2 "_law_due_cast" m9 (CJ TF K):=by
 refine F.oA iJ λ_ _ _ _ H _ Q E hr h=>?_;obtain⟨⟨n,ρ,B,b,st,z,d,rfl,hz,hb,rl,wf,wb,kn,ha,db,q⟩⟩:=h;refine⟨_,(@cS.h _ _ _ (aj (mz (i:=2) ["_law_k","_law_deed"] [none,some 1] iJ.nd rfl rfl rfl (xK (by rfl) bq (af ao (af (aF (bL K) (by rfl) bg c9 (af (qv 1) ai)) (af ao ai)))) (λ_ _ _ _=>(aL (i:=0) (show List.Nodup (["_law_k","_law_deed"] :Da Str)from by decide +kernel))) (λ_ _ _ _=>(aG (bM K) (qv 1) (qv 0))) rfl (by rfl) (by rfl))
  (aj (mz (i:=3) ["_law_k","_law_deed"] [none,some 1] iJ.nd rfl rfl rfl (xK (by rfl) bq (af ao (af (aF (bL K) (by rfl) bg c9 (af (qv 1) ai)) (af ao ai)))) (λ_ _ _ _=>(aL (i:=0) (show List.Nodup (["_law_k","_law_deed"] :Da Str)from by decide +kernel))) (λ_ _ _ _=>(aG (bM K) (qv 1) (qv 0))) rfl (by rfl) (by rfl))
  (aj (bZ (aP gQ (aF (bL K) (by rfl) bg c9 (af (qv 2) ai)) ao (aZ _)) (aq (aM ao)) aQ)
  (aj (dP fC rfl (cY K (qv 2)) (aL (i:=4) iJ.nd) (aq (bZ (aP iX (kQ mG PySem.F.slot_list_count PySem.F.type_list_count (Wr K) (qv 2) (af (qv 4) ai)) ao (aZ _)) (aq (aM ao)) aQ)))
  (aj (dP fC rfl (ef (by rfl) bq (af (aF (bL K) (by rfl) bg c9 (af (qv 2) ai)) ai)) (aL (i:=5) iJ.nd) (aj (aX (i:=6) iJ.nd (bh ku hr (af (bF (bN hr) (qv 0) aU) (af (aG (aK K) (qv 2) (qv 5)) ai))))
  (aj (bZ (aP zM (qv 6) ao (aZ _)) (aq (aM ao)) aQ)
  (aj (bZ (aP zM (aG (aK K) (qv 3) (qv 5)) ao (aZ _)) (aq (aM ao)) aQ)
  (aq (bZ (aP iX (aG (aK K) (qv 3) (qv 5)) (aG (aK K) (aG (aK K) (bF (bN hr) (qv 0) aU) (qv 6)) ao) (aZ _)) (aq (aM ao)) aQ))))))
  (aj (bZ (aP Cr (aF (ju K rfl) (by rfl) fE ue (af (qv 3) ai)) (aF (ju K rfl) (by rfl) fE ue (af (fJ ["_law_part"] [none] rfl (cY K (bF (bN hr) (qv 0) aU)) (λ_ _ _ _=>(aL (i:=0) (show List.Nodup (["_law_part"] :Da Str)from by decide +kernel))) (λ_ _ _ _=>(aG (aK K) (qv 0) ao)) rfl (by rfl)) ai)) (aZ _)) (aq (aM ao)) aQ)
  (aq (aM (Aa vD ao)))))))))),?_⟩
 obtain⟨rs,rfl⟩:∃rs,d =.cast rs:=by
  cases d with
  | cast rs=>exact⟨rs,Z⟩
  | _=>exact ha.elim
 have q0:∀H',aE H H'->Q (.int (Tu (jN st rs))) H':=q;have hrl:=ha.1;refine⟨_,Z,z,_,Z,.inr hz,_,_,_,Z,⟨by decide,by decide,by omega,by rw[nC];omega,by decide,by decide⟩,?_⟩;rw[nC,ND];intro l1 n1;refine gf (J:=HM 1 2 rs.length) (n:=rs.length) 0 (λi out H1=>aE H H1/\out=((rs.take i).map λr:Row=>r.1).map V.str) (by omega) ⟨aA n1 _,Z⟩ (λi o H' hi _ _=>hi) (λo H' _ _=>aN _) ?_ ?_
 .rintro i x out H1 H2 hi dY ha1 ⟨g,e⟩ ⟨rfl,rfl⟩;have ei:=aY hi;generalize rs[i]=r at *;obtain⟨c1,c2⟩:=CM ei;have e1:(1:Int)+(i:Int)*2=((1+2*i:Nat):Int):=by omega
  rw[e1];refine⟨_,Z,_,Z,z,_,_,_,Z,Z,g.tup hz,aO c1,ha1,g.bQ n1 _,?_⟩;rw[e,take_snoc ei,bw,bw];rfl
 rintro o1 H1 _ hl1 ⟨g1,e⟩;rw[bV]at e;subst e;have hz1:=g1.tup hz;refine⟨_,Z,z,_,Z,.inr hz1,_,_,_,Z,⟨by decide,by decide,by omega,by rw[nC];omega,by decide,by decide⟩,?_⟩;rw[nC,aef];intro l2 n2;refine gf (J:=HM 2 2 rs.length) (n:=rs.length) 0 (λi out H2=>aE H1 H2/\out=((rs.take i).map λr:Row=>r.2).map V.int) (by omega) ⟨aA n2 _,Z⟩ (λi o H' hi _ _=>hi) (λo H' _ _=>aN _) ?_ ?_
 .rintro i x out H2 H3 hi dY ha1 ⟨g,e⟩ ⟨rfl,rfl⟩;have ei:=aY hi;generalize rs[i]=r at *;obtain⟨c1,c2⟩:=CM ei;have e1:(2:Int)+(i:Int)*2=((2+2*i:Nat):Int):=by omega
  rw[e1];refine⟨_,Z,_,Z,z,_,_,_,Z,Z,g.tup hz1,aO c2,ha1,g.bQ n2 _,?_⟩;rw[e,take_snoc ei,bw,bw];rfl
 rintro o2 H2 _ hl2 ⟨g2,e⟩;rw[bV]at e;subst e;have hs1:az K H2 l1 ((rs.map λr:Row=>r.1).map V.str):=az.of (g2 _ _ hl1);have hs2:az K H2 l2 ((rs.map λr:Row=>r.2).map V.int):=az.of hl2;have gA:=g1.trans g2;have q2:=q0 H2 gA;have hb2:=hb.mono gA;clear hb hz hz1 hl1 hl2 q;refine⟨_,Z,l1,_,Z,.inl hs1,Z,_,Z,?_⟩;by_cases ne:rs=[]
 .subst ne;exact jE (by rw[BJ (λz=>z.1 rfl)]at q2;exact q2)
 have hpos:0<rs.length:=List.length_pos_iff.mpr ne;rw[d7 (λe=>by have:=V.int.inj e;rw[aD,aD]at this;omega)];refine cA ?_;refine⟨_,Z,l1,Z,⟨_,hs1⟩,?_⟩;refine jC (K:=K) (xs:=(rs.map λr:Row=>r.1).map V.str) (λi σ H'=>H'=H2/\(∀x∈(rs.map λr:Row=>r.1).take i,(rs.map λr:Row=>r.1).count x<=1)/\∃s4 s5 s6,σ=[some (.ref B.m),some (.ref z),some (.ref l1),some (.ref l2),s4,s5,s6]) ⟨Z,(λx hx=>nomatch hx),_,_,_,Z⟩ (λi σ H' _ hp=>by rw[hp.1];exact hs1) ?_ ?_
 .rintro i x σ H' hx ⟨rfl,h0,s4,s5,s6,rfl⟩;rw[bH]at hx;obtain⟨y,ey,rfl⟩:=mH.mp hx;refine⟨_,Z,.inl ⟨Z,_,hs1⟩,_,Z,l1,_,y,Z,Z,hs1,_,_,Z,Z,_,Z,dg (λc=>?_) (λc=>?_)⟩
  .have c':(1:Int)<((rs.map λr:Row=>r.1).count y:Nat):=dH c;rw[BJ (λz=>by have:=Ef.mp z.2 y;omega)]at q2;exact q2
  have c':¬ (1:Int)<((rs.map λr:Row=>r.1).count y:Nat):=kF (gX.mpr c);refine⟨Z,λx hx=>?_,_,_,_,Z⟩;rw[take_snoc ey]at hx;rcases fk.mp hx with h|h
  .exact h0 _ h
  .rw [eE.mp h];omega
 rintro σ H' ⟨rfl,h0,s4,s5,s6,rfl⟩;rw[aD,bV]at h0;have nd:(rs.map λr:Row=>r.1).Nodup:=Ef.mpr λx=>by
  by_cases m:x∈rs.map λr:Row=>r.1
  .exact h0 x m
  .rw [List.count_eq_zero_of_not_mem m];omega
 have ln:((((rs.map λr:Row=>r.1).map V.str).length:Nat):Int).toNat=rs.length:=by rw[aD,aD];omega
 refine⟨_,Z,l1,_,Z,.inl hs1,_,Z,by omega,by rw[aD,aD];omega,?_⟩;refine gh (lo:=0) (n:=((((rs.map λr:Row=>r.1).map V.str).length:Nat):Int).toNat) (λi σ vS=>vS=H'/\(∀r∈rs.take i,iT st r=none)/\∃s4 s5 s6,σ=[some (.ref B.m),some (.ref z),some (.ref l1),some (.ref l2),s4,s5,s6]) ⟨Z,(λr hr=>nomatch hr),_,_,_,Z⟩ ?_ ?_
 .rintro i σ vS hi ⟨rfl,h0,s4,s5,s6,rfl⟩;have e0:(0:Int)+(i:Int)=((i:Nat):Int):=by omega
  rw[e0];rw[ln]at hi;have er:=aY hi;generalize rs[i]=r at *;have no:∀k,iT st r=some k->Q (.int (k:Nat)) vS:=λk hk=>by rw[J9 ne nd h0 er hk]at q2;exact q2
  refine⟨_,Z,B.m,_,Z,cE.k (k:=Sum.inr "parts") hb2.om,_,Z,_,Z,l1,_,_,_,Z,Z,hs1,aO (by rw[bH,bH,er];rfl),Ij hb2 rl wf wb (λip p q' k1 k2 k3 k4 k5 k6 k7 k8 hm=>?_) λhm=>?_⟩;rotate_left
  .refine ⟨_,Z,_,_,Z,Z,_,Z,dg (λ_=>?_) (λc=>absurd (cy (by show(-1:Int)<0;decide)) c)⟩;exact no 3 (by unfold iT;rw[aB hm])
  refine⟨_,Z,_,_,Z,Z,_,Z,dg (λc=>absurd (dH c) (by show ¬ (ip:Int)<0;omega)) (λ_=>?_)⟩;have ea:qa ((rs.map λr:Row=>r.2).map V.int) (i:Int)=some (.int r.2):=aO (by rw[bH,bH,er];rfl);refine⟨_,Z,_,Z,l2,_,_,_,Z,Z,hs2,ea,_,_,Z,Z,_,Z,dg (λc=>?_) (λc=>?_)⟩
  .exact no 5 (by unfold iT;rw[aC hm,aC (dH c)])
  have c5:¬ r.2<1:=kF (gX.mpr c);obtain⟨qq,Bt,r1,_⟩:=hb2.find k2;have Kd:qa (B.qs.map λq=>V.ref q.1) (ip:Int)=some (.ref qq.1):=aO (by rw[bH,Bt];rfl);refine⟨_,Z,_,Z,l2,_,_,_,Z,Z,hs2,ea,_,Z,B.m,_,Z,cE.k (k:=Sum.inr "parts") hb2.om,_,Z,B.lp,_,_,_,Z,Z,az.of hb2.op,Kd,qq.1,_,_,_,Z,Z,az.of r1,aO (j:=2) rfl,_,_,Z,Z,_,Z,dg (λc=>?_) (λc=>?_)⟩
  .have c':q'.wo<r.2:=dH c;exact no 6 (by unfold iT;rw[aC hm,aB c5,k8,<-k6,aC c'])
  have c':¬ q'.wo<r.2:=kF (gX.mpr c);have hN:iT st r=none:=by unfold iT;rw[aC hm,aB c5,k8,<-k6,aB c']
  refine⟨Z,λr' hr'=>?_,_,_,_,Z⟩;rw[take_snoc er]at hr';rcases fk.mp hr' with h|h
  .exact h0 _ h
  .rw [eE.mp h];exact hN
 rintro σ vS ⟨rfl,h0,s4,s5,s6,rfl⟩;rw[ln,bV]at h0;clear q2;have mq:(B.qs.map λq=>V.ref q.1).length=b.ah.length:=by rw[aD];exact hb2.ql
 have pl:=wb.pl;refine⟨_,Z,l2,_,Z,hs2,_,Z,B.m,_,Z,cE.k (k:=Sum.inr "parts") hb2.om,B.lp,Z,⟨_,az.of hb2.op⟩,λac hac=>?_⟩;refine gf (J:=tU K B.lp) (n:=b.ah.length) 0 (λi o H'=>aE vS H'/\o=((b.ah.take i).map (λp:BP=>p.wo)).map V.int) (by omega) ⟨aA hac _,Z⟩ (λi o H' hi _ hp=>⟨_,_,az.of (hp.1 _ _ hb2.op),aY (by rw[mq];exact hi)⟩) (λo H' _ hp=>⟨_,az.of (hp.1 _ _ hb2.op),by rw[mq];exact aN _⟩) ?_ ?_
 .rintro j y o H2 H3 hj dY ha ⟨g,e⟩ ⟨rfl,hy⟩;have ej:=aY hj;obtain⟨qq,eq,k1,k2,_,_⟩:=hb2.find ej;have ey:=hy _ (az.of (g _ _ hb2.op));rw[bH,eq]at ey;cases ey;refine⟨_,Z,qq.1,_,_,_,Z,Z,az.of (g _ _ k1),aO (j:=2) rfl,ha,g.bQ hac _,?_⟩;subst e;rw[take_snoc ej,bw,bw];rfl
 rintro o1 H2 _ ha1 ⟨g3,e⟩;rw[bV]at e;subst e;have ew:aR st=(b.ah.map (λp:BP=>p.wo)).sum:=rl.whole;have q3:=q0 H2 (gA.trans g3);rw[xN ne nd h0]at q3;refine⟨ac,b.ah.map (λp:BP=>p.wo),Z,az.of ha1,_,_,Z,Z,_,Z,dg (λc=>?_) (λc=>?_)⟩
 .have c':aR st<=bJ rs:=by rw[ew];exact dH c
  rw[aC c']at q3;exact q3
 .have c':¬ aR st<=bJ rs:=by rw[ew];exact kF (gX.mpr c)
  rw[aB c']at q3;exact⟨1,Z,q3⟩
abbrev pX:Stmt:=top 43
abbrev m_:Da Str:=["_law_model_here","_law_deed"]
abbrev GL:Da Str:=m_.append ["_law_at_here"]
def wY:aJ GL m_ (ay pX):=dh
theorem Et(F:At K mg "_law_due_part" pX f fd)(ku:Dn P w K mg base 1 "_law_at" nJ (yO K)):Dn P w K mg base 2 "_law_due_part" m_ (CJ aeg K):=by
 refine F.oA wY λ_ _ _ _ H _ Q E hr h=>?_;obtain⟨⟨n,ρ,B,b,st,z,d,rfl,hz,hb,rl,wf,wb,kn,ha,db,q⟩⟩:=h;refine⟨_,(@cS.h _ _ _ (aj (aX (i:=2) wY.nd (bh ku hr (af (bF (bN hr) (qv 0) aU) (af (aG (bM K) (qv 1) ao) ai))))
  (aj (bZ (aP zM (qv 2) ao (aZ _)) (aq (aM ao)) aQ)
  (aq (aM (Aa vD ao)))))),?_⟩
 obtain⟨x,rfl⟩:∃x,d =.land x:=by
  cases d with
  | land x=>exact⟨x,Z⟩
  | _=>exact ha.elim
 have q:Q (.int (Tu (o6 st x))) H:=q H (aE.refl _);unfold o6 at q;refine⟨_,Z,B.m,_,Z,cE.k (k:=Sum.inr "parts") hb.om,_,Z,z,_,_,_,Z,Z,hz,aO (j:=1) rfl,Ij hb rl wf wb (λi p q' k1 k2 k3 k4 k5 k6 k7 k8 hm=>?_) λhm=>?_⟩
 .rw [aC hm]at q;exact⟨_,Z,_,_,Z,Z,_,Z,dg (λc=>absurd (dH c) (by show ¬ (i:Int)<0;omega)) (λ_=>⟨1,Z,q⟩)⟩
 .rw [aB hm]at q;exact⟨_,Z,_,_,Z,Z,_,Z,dg (λ_=>q) (λc=>absurd (cy (by show(-1:Int)<0;decide)) c)⟩
abbrev yk:Stmt:=top 44
abbrev vj:Da Str:=["_law_model_here","_law_deed"]
abbrev T7:Da Str:=vj
def PV:aJ T7 vj (ay yk):=dh
theorem PY(F:At K mg "_law_due" yk f fd)(rD:Dn P w K mg base 2 "_law_due_cast" m9 (CJ TF K))(rE:Dn P w K mg base 2 "_law_due_part" m_ (CJ aeg K))(fE:mg "sum"=none)(CN:mg "int"=none):Dn P w K mg base 5 "_law_due" vj (CJ Ae K):=by
 refine F.oA PV λ_ _ _ _ H _ Q E hr h=>?_;obtain⟨⟨n,ρ,B,b,st,z,d,rfl,hz,hb,rl,wf,wb,kn,ha,db,q⟩⟩:=h;refine⟨_,(@cS.h _ _ _ (aj (bZ (aP gQ (aG (bM K) (qv 1) ao) aU (aZ _)) (aq (aM (bh rD hr (af (qv 0) (af (qv 1) ai))))) aQ)
  (aj (bZ (aP gQ (aG (bM K) (qv 1) ao) aU (aZ _)) (aj (bZ (aP AU (aG (bM K) (qv 1) ao) (bF (bN hr) (qv 0) aU) (by with_unfolding_all rfl)) (aq (aM ao)) aQ)
  (aj (bZ (aP zM (aG (bM K) (qv 1) ao) ao (aZ _)) (aq (aM ao)) aQ)
  (aq (aM (aG (aK K) (eY (af (Aa vD ao) (af ao ai))) (kh UL (by rfl) CN PyProof.Rows.boot_int (af (su Cr (aG (bM K) (qv 1) ao) (aF (ju K rfl) (by rfl) fE ue (af (fJ ["_law_part"] [none] rfl (cY K (bF (bN hr) (qv 0) aU)) (λ_ _ _ _=>(aL (i:=0) (show List.Nodup (["_law_part"] :Da Str)from by decide +kernel))) (λ_ _ _ _=>(aG (aK K) (qv 0) ao)) rfl (by rfl)) ai)) (aZ _)) ai))))))) aQ)
  (aq (aM (bh rE hr (af (qv 0) (af (qv 1) ai)))))))),?_⟩
 rcases(show(∃rs,d =.cast rs)\/(∃o a,d =.award o a)\/∃x,d =.land x by cases d <;> first|exact .inl ⟨_,rfl⟩|exact .inr (.inl ⟨_,_,rfl⟩)|exact .inr (.inr ⟨_,rfl⟩)|exact ha.elim)with⟨rs,rfl⟩|⟨o,a,rfl⟩|⟨x,rfl⟩
 .refine NH hz rfl rfl (jE ?_);exact⟨_,Z,_,Z,⟨⟨n,ρ,B,b,st,z,.cast rs,Z,hz,hb,rl,wf,wb,kn,ha,db,q⟩⟩⟩
 rotate_left
 .refine Gj hz rfl (by decide) rfl (cA ?_);refine Gj hz rfl (by decide) rfl (cA ?_);exact⟨_,Z,_,Z,⟨⟨n,ρ,B,b,st,z,.land x,Z,hz,hb,rl,wf,wb,kn,True.intro,db,q⟩⟩⟩
 refine Gj hz rfl (by decide) rfl (cA ?_);refine NH hz rfl rfl (jE ?_);have q:∀H',aE H H'->Q (.int (Tu (lq st o a))) H':=q;refine⟨_,Z,z,_,_,_,Z,Z,hz,aO (j:=1) rfl,_,Z,B.m,_,Z,cE.k (k:=Sum.inr "owners") hb.om,B.lo,_,Z,.inl (az.of hb.oo),Z,JI _,_,Z,?_⟩;rw[MT];by_cases ho:o∈b.own;rotate_left
 .rw [d7 ho];refine jE ?_;have q:=q H (aE.refl _);unfold lq at q;rw[aB (by rw[rl.own];exact ho)]at q;exact q
 rw[cy ho];refine cA ?_;unfold lq at q;rw[aC (by rw[rl.own];exact ho)]at q;refine⟨_,Z,z,_,_,_,Z,Z,hz,aO (j:=2) rfl,_,_,Z,Z,_,Z,dg (λc=>?_) (λc=>?_)⟩
 .rw [aC (dH c)]at q;exact q H (aE.refl _)
 rw[aB (kF (gX.mpr c))]at q;have mq:(B.qs.map λq=>V.ref q.1).length=b.ah.length:=by rw[aD];exact hb.ql
 have pl:=wb.pl;refine⟨1,Z,(gM 2),λl0 iD=>?_⟩;have g0:=aA iD (.lst [.int (-1),.int 6]);have h0:upd H l0 (.lst [.int (-1),.int 6]) l0=some (.lst [.int (-1),.int 6]):=ak;show Zp _ _ _ (upd H l0 (.lst [.int (-1),.int 6])) _;generalize upd H l0 (.lst [.int (-1),.int 6])=H0 at *;have hb:=hb.mono g0;refine⟨_,Z,z,_,_,_,Z,Z,g0.tup hz,aO (j:=2) rfl,_,Z,B.m,_,Z,cE.k (k:=Sum.inr "parts") hb.om,B.lp,Z,⟨_,az.of hb.op⟩,λac hac=>?_⟩;refine gf (J:=tU K B.lp) (n:=b.ah.length) 0 (λi o H'=>aE H0 H'/\o=((b.ah.take i).map (λp:BP=>p.wo)).map V.int) (by omega) ⟨aA hac _,Z⟩ (λi o H' hi _ hp=>⟨_,_,az.of (hp.1 _ _ hb.op),aY (by rw[mq];exact hi)⟩) (λo H' _ hp=>⟨_,az.of (hp.1 _ _ hb.op),by rw[mq];exact aN _⟩) ?_ ?_
 .rintro j y o H2 H3 hj dY ha ⟨g,e⟩ ⟨rfl,hy⟩;have ej:=aY hj;obtain⟨qq,eq,k1,k2,_,_⟩:=hb.find ej;have ey:=hy _ (az.of (g _ _ hb.op));rw[bH,eq]at ey;cases ey;refine⟨_,Z,qq.1,_,_,_,Z,Z,az.of (g _ _ k1),aO (j:=2) rfl,ha,g.bQ hac _,?_⟩;subst e;rw[take_snoc ej,bw,bw];rfl
 rintro o1 H2 _ ha1 ⟨g2,e⟩;rw[bV]at e;subst e;have ew:aR st=(b.ah.map (λp:BP=>p.wo)).sum:=rl.whole;have q:=q H2 (g0.trans g2);refine⟨ac,b.ah.map (λp:BP=>p.wo),Z,az.of ha1,_,_,Z,Z,.inr ⟨_,Z,?_⟩⟩;rw[ew]at q;by_cases cw:(b.ah.map (λp:BP=>p.wo)).sum<=a
 .rw [aC cw]at q;rw[aC (cy cw)];exact⟨l0,_,_,_,Z,Z,az.of (g2 _ _ h0),aO (j:=1) rfl,q⟩
 .rw [aB cw]at q;rw[aB (λz=>cw (dH z))];exact⟨l0,_,_,_,Z,Z,az.of (g2 _ _ h0),aO (j:=0) rfl,q⟩
abbrev rF:Stmt:=top 45
abbrev nX:Da Str:=["_law_hold","_law_deed"]
abbrev IM:Da Str:=nX
def GN:aJ IM nX (ay rF):=dh
theorem GO{T:TC}{e:Ec}(F:At K mg "_law_hold_do" rF f fd)(rG:Mx P w K mg base 4 T.hold "cast" oS (Il T K e))(uS:Mx P w K mg base 4 T.hold "award" qX (Nv T e))(wZ:Mx P w K mg base 5 T.hold "land" tM (RE T e))(bg:mg "len"=none)(bq:mg "range"=none):Dx P w K mg base 6 "_law_hold_do" nX (Nk T e Ae K):=by
 refine F.DA GN λ_ _ _ _ H _ Q E hr h=>?_;obtain⟨⟨n,ρ,A,st,z,d,rfl,hz,hh,ha,dq⟩⟩:=h;refine⟨_,(@cS.h _ _ _ (aj (bZ (aP gQ (aG (bM K) (qv 1) ao) aU (aZ _)) (aq (aM (vv rG hr (qv 0) (af (fJ ["_law_k","_law_deed"] [none,some 1] rfl (xK (by rfl) bq (af ao (af (aF (bL K) (by rfl) bg c9 (af (qv 1) ai)) (af ao ai)))) (λ_ _ _ _=>(aL (i:=0) (show List.Nodup (["_law_k","_law_deed"] :Da Str)from by decide +kernel))) (λ_ _ _ _=>(iU (af (aG (bM K) (qv 1) (qv 0)) (af (aG (bM K) (qv 1) (aH cW (qv 0) ao)) ai)))) rfl (by rfl)) ai)))) (aq (bZ (aP gQ (aG (bM K) (qv 1) ao) aU (aZ _)) (aq (aM (vv uS hr (qv 0) (af (aG (bM K) (qv 1) ao) (af (aG (bM K) (qv 1) ao) ai))))) (aq (bZ (aP gQ (aG (bM K) (qv 1) ao) aU (aZ _)) (aq (aM (vv wZ hr (qv 0) (af (aG (bM K) (qv 1) ao) ai)))) aQ)))))
  (aq (aM ad5)))),?_⟩
 cases d with
 | cast rs=>
  obtain⟨hrl,ok⟩:=ha;refine⟨_,Z,z,_,_,_,Z,Z,hz,aO (j:=0) rfl,Z,_,Z,dg (λc=>?_) (λc=>absurd (cy rfl) c)⟩;refine⟨_,Z,A.a,A.dx,_,Z,hh.h.oa,Z,_,Z,z,_,Z,.inr hz,_,_,_,Z,⟨by decide,by decide,by omega,by rw[nC];omega,by decide,by decide⟩,?_⟩;rw[nC,ND];intro BM Bn;refine gf (J:=HM 1 2 rs.length) (n:=rs.length) 0 (λi out H1=>aE H H1/\fR H1 out (rs.take i)) (by omega) ⟨aA Bn _,.nil⟩ (λi o H' hi _ _=>hi) (λo H' _ _=>aN _) ?_ ?_
  .rintro i x out H1 H2 hi dY ha ⟨g,R⟩ ⟨rfl,rfl⟩;have ei:=aY hi;generalize rs[i]=r at *;obtain⟨c1,c2⟩:=CM ei;have e1:(1:Int)+(i:Int)*2=((1+2*i:Nat):Int):=by omega
   have e2:((1+2*i:Nat):Int)+1=((2+2*i:Nat):Int):=by omega
   rw[e1];refine⟨_,Z,_,Z,z,_,_,_,Z,Z,g.tup hz,aO c1,_,Z,_,Z,_,_,Z,Z,z,_,_,_,Z,Z,g.tup hz,by rw[e2];exact aO c2,(gM 2),λp hp=>?_⟩;have g6:=aA hp (x9 r);refine⟨g6 _ _ ha,(g.trans g6).bQ Bn _,?_⟩;rw[take_snoc ei];exact((R.mono g6.tups).snoc ak).mono (jw (.inr ⟨_,g6 _ _ ha,Z⟩))
  rintro out H1 dY ha ⟨g,R⟩;rw[bV]at R;exact⟨⟨n,ρ,A,st,BM,out,rs,Z,hh.mono g,az.of ha,R,hrl,ok,⟨λi hi=>(dq.no i hi).mono g,λh0 ρ' A' H' a1 a2 a3=>dq.ok h0 ρ' A' H' a1 a2 ((Fr.of_same g).trans a3)⟩⟩⟩
 | award o a=>refine Gj hz rfl (by decide) rfl (cA ?_);refine NH hz rfl rfl (jE ?_);exact⟨_,Z,A.a,A.dx,_,Z,hh.h.oa,Z,_,Z,z,_,_,_,Z,Z,hz,aO (j:=1) rfl,_,Z,z,_,_,_,Z,Z,hz,aO (j:=2) rfl,⟨⟨n,ρ,A,st,o,a,Z,hh,ha,dq⟩⟩⟩
 | land x=>refine Gj hz rfl (by decide) rfl (cA ?_);refine Gj hz rfl (by decide) rfl (cA ?_);refine NH hz rfl rfl (jE ?_);exact⟨_,Z,A.a,A.dx,_,Z,hh.h.oa,Z,_,Z,z,_,_,_,Z,Z,hz,aO (j:=1) rfl,⟨⟨n,ρ,A,st,x,Z,hh,ha,dq⟩⟩⟩
 | _=>exact ha.elim
abbrev uT:Stmt:=top 46
abbrev rH:Da Str:=["_law_hold","_law_deed"]
abbrev Ot:Da Str:=rH.append ["_law_told","e"]
def jU:aJ Ot rH (ay uT):=dh
def KS{T:TC}{e:Ec}{al:HS->Dd->Prop}(F:At K mg "_law_tried" uT f fd)(rJ:Dx P w K mg base 6 "_law_hold_do" nX (Nk T e al K))(to:∀st d i,al st d->kI st d=some i->Told K e (e.at i) i)(aS:mg "isinstance"=none)(w6:mg "ValueError"=none)(Ca:mg "BadName"=some (.ref e.bad))(IP:mg "Twice"=some (.ref e.twice))(qj:mg "NoOwner"=some (.ref e.vd))(sJ:mg "NoPart"=some (.ref e.qM))(An:mg "NoVoyage"=some (.ref e.FW))(mC:mg "BadNumber"=some (.ref e.oQ))(iz:mg "TooMuch"=some (.ref e.qN))(nD:mg "BadRows"=some (.ref e.rows))(Eu:mg "NoDeed"=some (.ref e.Nh))(Ao:mg "BadPaper"=some (.ref e.FY))(rK:mg "JettisonError"=some (.ref e.YD)):Dn P w K mg base 7 "_law_tried" rH (Ie T al K):=by
 refine F.oA jU λ_ _ _ _ H _ Q E hr h=>?_
 obtain⟨⟨n,ρ,A,st,z,d,rfl,hz,hh,ha,q2,q⟩⟩:=h
 refine⟨_,(@cS.h _ _ _ (aj (aX (i:=2) jU.nd (eY ai))
  (aj (ad3 (j:=3) jU.nd rfl rfl (λ_ _ z=>z) rfl rfl (ad4 rJ hr (λ_ _ z=>z) (af (qv 0) (af (qv 1) ai))) (by rfl) rK (λ_=>(aj (aX (i:=2) jU.nd (eY (af (aF (fT K rfl) (by rfl) aS lG (af (qv 3) (af (kP (n:="ValueError") (by rfl) rfl w6) ai))) (af (aF (fT K rfl) (by rfl) aS lG (af (qv 3) (af (lz (v:=.ref _) (by rfl) Ca rfl) ai))) (af (aF (fT K rfl) (by rfl) aS lG (af (qv 3) (af (lz (v:=.ref _) (by rfl) IP rfl) ai))) (af (aF (fT K rfl) (by rfl) aS lG (af (qv 3) (af (lz (v:=.ref _) (by rfl) qj rfl) ai))) ai))))))
  (aj (aX (i:=2) jU.nd (aH qC (qv 2) (eY (af (aF (fT K rfl) (by rfl) aS lG (af (qv 3) (af (lz (v:=.ref _) (by rfl) sJ rfl) ai))) (af (aF (fT K rfl) (by rfl) aS lG (af (qv 3) (af (lz (v:=.ref _) (by rfl) An rfl) ai))) (af (aF (fT K rfl) (by rfl) aS lG (af (qv 3) (af (lz (v:=.ref _) (by rfl) mC rfl) ai))) ai))))))
  (aq (aX (i:=2) jU.nd (aH qC (qv 2) (eY (af (aF (fT K rfl) (by rfl) aS lG (af (qv 3) (af (lz (v:=.ref _) (by rfl) iz rfl) ai))) (af (aF (fT K rfl) (by rfl) aS lG (af (qv 3) (af (lz (v:=.ref _) (by rfl) nD rfl) ai))) (af (aF (fT K rfl) (by rfl) aS lG (af (qv 3) (af (lz (v:=.ref _) (by rfl) Eu rfl) ai))) (af (aF (fT K rfl) (by rfl) aS lG (af (qv 3) (af (lz (v:=.ref _) (by rfl) Ao rfl) ai))) ai))))))))))))
  (aq (aM (qv 2)))))),?_⟩
 refine⟨fD _,λl0 iD=>?_⟩
 have g0:aE H (upd H l0 (.lst [])):=aA iD _
 have h0:upd H l0 (.lst []) l0=some (.lst []):=ak
 generalize upd H l0 (.lst [])=H0 at g0 h0
 refine⟨_,Z,_,Z,⟨⟨n,ρ,A,st,z,d,Z,g0.tup hz,hh.mono g0,ha,⟨λi hi x H1 g1=>⟨_,Z,(to st d i ha hi).jt,λy hy=>?_⟩,λhn ρ' A' H' Gd ea F'=>⟨Z,?_⟩⟩⟩⟩⟩
 . have g2:=aA hy (D5 y (e.at i))
   refine Tp (i:=2) (j:=3) (to st d i ha hi) rfl (show 2<4 from by decide) (by decide) ak λl H2 g3 hl2=>?_
   exact⟨_,Z,q2 i hi l _ (g0.trans (g1.trans (g2.trans g3))) hl2⟩
 . obtain⟨a1,a2⟩:=F'.at h0 (hh.g.none iD)
   exact⟨_,Z,q hn l0 ρ' A' H' Gd ea ((Fr.of_same g0).trans F') a1 a2 iD⟩
abbrev oz:Stmt:=top 48
abbrev lX:Da Str:=["_law_model_here","_law_deed"]
abbrev Ew:Da Str:=lX.append ["_law_at_here","_law_part"]
def oB:aJ Ew lX (ay oz):=dh
theorem CW(F:At K mg "_law_model_one" oz f fd)(ku:Dn P w K mg base 1 "_law_at" nJ (yO K))(dm:mg "list"=none):Dn P w K mg base 4 "_law_model_one" lX (xM aeh K):=by
 refine F.oA oB λ_ _ _ _ H _ Q E hr h=>?_;obtain⟨⟨n,c,ρ,B,b,st,z,d,rfl,hz,G,hb,gd,hc,wf,al,db,hr0,q⟩⟩:=h;refine⟨_,(@cS.h _ _ _ (aj (aX (i:=2) oB.nd (bh ku hr (af (bF (bN hr) (qv 0) aU) (af (aG (bM K) (qv 1) ao) ai))))
  (aj (aX (i:=3) oB.nd (aG (aK K) (bF (bN hr) (qv 0) aU) (qv 2)))
  (aj (jj (aP gQ (aG (bM K) (qv 1) ao) aU (aZ _)) (aj (cg (kQ mG pG pH eX (bF (bN hr) (qv 0) aU) (af (eY (af (aG (aK K) (qv 3) ao) (af (aG (aK K) (qv 3) ao) (af (aG (aK K) (qv 3) ao) (af (kh (lZ K) (by rfl) dm vz (af (aG (aK K) (qv 3) ao) ai)) (af (bF (bN hr) (qv 0) aU) ai)))))) ai)))
  (aq (tZ ao (t8 (qv 3) ao set_list)))) aQ)
  (aq (qi (bN hr) (qv 0) aU (D8 ["_law_one"] [none] rfl (cY K (bF (bN hr) (qv 0) aU)) (λ_ _ _ _=>(aL (i:=0) (show List.Nodup (["_law_one"] :Da Str)from by decide +kernel))) (λ_ _ _ _=>(qv 0)) (λ_ _ _ _=>(aP iX (aG (aK K) (qv 0) ao) ao (aZ _))) rfl (by rfl)) rfl)))))),?_⟩
 have rl:=gd.rel;have wb:=gd.fG;have yY:cV K H z (Dd.v d):=cV.of hz;obtain⟨x,rfl⟩:∃x,d =.land x:=by
  cases d with
  | land x=>exact⟨x,Z⟩
  | _=>exact al.elim
 have al:NB st:=al;have hm:x∈jM st:=BG hr0;refine⟨_,Z,B.m,_,Z,cE.k (k:=Sum.inr "parts") hb.om,_,Z,z,_,_,_,Z,Z,yY,aO (j:=1) rfl,Ij hb rl wf wb (λi p q' k1 k2 k3 k4 k5 k6 k7 k8 _=>?_) λhn=>absurd hm hn⟩;obtain⟨qq,Bt,r1,r2,c1,c2⟩:=hb.find k2;have Kd:qa (B.qs.map λq=>V.ref q.1) (i:Int)=some (.ref qq.1):=aO (by rw[bH,Bt];rfl);refine⟨_,Z,B.m,_,Z,cE.k (k:=Sum.inr "parts") hb.om,_,Z,B.lp,_,_,_,Z,Z,az.of hb.op,Kd,?_⟩;have bl:=wb.pl;have pl5:∀y:BP,(b.ah.set i y).length<=1000:=λy=>by rw[jV];omega
 have hi:i<b.ah.length:=(dZ.mp k2).1;have hiq:i<B.qs.length:=(dZ.mp Bt).1;refine⟨λσ' H'=>∃ρ5 B5 bb,σ'=[some (.ref B.m),some (.ref z),some (.int (i:Int)),some (.ref qq.1)]/\vf b (.land x)={ bb with ah:=bb.ah.filter λp=>decide (0<p.wo) }/\bb.ah.length<=1000/\Gh ρ5 H'/\aV n ρ5 B5 H' bb/\B5.m=B.m/\Fr n ρ H ρ5 H',?_,?_⟩
 .refine NH yY rfl rfl (jE ?_);have eb:Ab b x=q':=by unfold Ab;rw[<-k4,Ik wb.nd k2];rfl
  obtain⟨vs,hv,hA⟩:=hb.oa;refine⟨_,Z,B.m,_,Z,cE.k (k:=Sum.inr "ashore") hb.om,.inl ⟨Z,_,az.of hv⟩,_,Z,qq.1,_,_,_,Z,Z,az.of r1,aO (j:=0) rfl,_,Z,qq.1,_,_,_,Z,Z,az.of r1,aO (j:=1) rfl,_,Z,qq.1,_,_,_,Z,Z,az.of r1,aO (j:=2) rfl,_,Z,qq.1,_,_,_,Z,Z,az.of r1,aO (j:=4) rfl,qq.2,_,Z,.inl (az.of r2),λl0 iD=>?_⟩;have g3:=aA iD (.lst (q'.tops.map V.int));have ha2:upd H l0 (.lst (q'.tops.map V.int)) l0=some (.lst (q'.tops.map V.int)):=ak;show jY (Zr (xW 0) (tC (.str "bottom"))) ng _ (upd H l0 (.lst (q'.tops.map V.int))) _;generalize upd H l0 (.lst (q'.tops.map V.int))=H3 at *;refine⟨_,Z,B.m,_,Z,cE.k (k:=Sum.inr "bottom") (g3 _ _ hb.om),(gM 5),λp hp=>?_⟩;have g4:=aA hp (.lst [.str q'.nm,.str q'.ow,.int q'.wo,.ref l0,.int b.bot]);have hp3:upd H3 p (.lst [.str q'.nm,.str q'.ow,.int q'.wo,.ref l0,.int b.bot]) p=some (.lst [.str q'.nm,.str q'.ow,.int q'.wo,.ref l0,.int b.bot]):=ak;show ng _ (upd H3 p (.lst [.str q'.nm,.str q'.ow,.int q'.wo,.ref l0,.int b.bot])) _;generalize upd H3 p (.lst [.str q'.nm,.str q'.ow,.int q'.wo,.ref l0,.int b.bot])=H4 at *;have AD:H p=none:=g3.free hp;have Of:=g3.trans g4;have cl0:ρ l0=none:=G.none iD;have np:p≠l0:=λe=>by rw[e,ha2]at hp;cases hp
  have cp:b_ ρ l0 (n,28,q'.nm) p=none:=by rw[cC np];exact G.none AD
  have h3:aV n (b_ (b_ ρ l0 (n,28,q'.nm)) p (n,27,q'.nm)) B H4 b:=((hb.mono Of).col cl0).col cp;have G3:Gh (b_ (b_ ρ l0 (n,28,q'.nm)) p (n,27,q'.nm)) H4:=((G.same Of).color (g4 _ _ ha2) rfl).color hp3 rfl;have F3:Fr n ρ H (b_ (b_ ρ l0 (n,28,q'.nm)) p (n,27,q'.nm)) H4:=((Fr.of_same Of).nv iD).nv AD;have cc1:b_ (b_ ρ l0 (n,28,q'.nm)) p (n,27,q'.nm) p=some (n,27,q'.nm):=dz;have cc2:b_ (b_ ρ l0 (n,28,q'.nm)) p (n,27,q'.nm) l0=some (n,28,q'.nm):=by rw[cC (cD np),dz]
  obtain⟨Z8,ZX,hA4⟩:=h3.oa;have al9:Z8.length<1000:=by rw[hA4.length,<-gd.dB.length];exact al.dB
  refine⟨B.la,_,_,Z,Z,ZX,dU (by omega),?_⟩;have h4:=h3.abq G3 ZX hA4 (e:=⟨q'.nm,q'.ow,q'.wo,q'.tops,b.bot⟩) hp3 cc1 (g4 _ _ ha2) cc2;have G4:=G3.wr (a:=B.la) (o:=.lst (Z8++[.ref p])) rfl;have F4:=F3.trans (Fr.write (o:=.lst (Z8++[.ref p])) h3.ca);obtain⟨r41,r42,c41,c42⟩:=h4.pt i q' qq k2 Bt;generalize upd H4 B.la (.lst (Z8++[.ref p]))=H5 at *;refine⟨_,Z,qq.1,_,_,2,Z,Z,r41,Z,?_⟩;have h5:=h4.yD (i:=i) (p1:={ q' with wo:=0 }) (t1:=qq.2) G4 k2 Bt rfl wb.nd r42 c42;exact⟨_,_,_,Z,(by show CL b x=_;unfold CL;rw[eb,agu (F:=λp=>{ p with wo:=0 }) k2 k4 wb.nd,k4]),pl5 _,G4.wr rfl,h5,Z,F4.trans (Fr.write c41)⟩
 rintro σ H5 ⟨ρ5,B5,bb,rfl,ebq,pl5,G5,h5,AF,F5⟩;rw[ebq]at q;have om6:H5 B.m=some (.dK (fL B5 bb.bot)):=by rw[<-AF];exact h5.om
 refine⟨_,Z,B.m,_,Z,cE.k (k:=Sum.inr "parts") om6,B5.lp,Z,⟨_,az.of h5.op⟩,λlp wc=>Wl h5 G5 pl5 wc λρ8 H7 Z4 G9 h9 F9=>?_⟩;rw[AF]at Z4 G9 h9 F9;exact⟨_,Z,B.m,_,Z,um.k (k:=Sum.inr "parts") Z4 (by show 5<sizeLine;decide),q _ _ _ G9 h9 rfl (F5.trans F9)⟩
abbrev pY:Stmt:=top 49
abbrev nc:Da Str:=["_law_model_here","_law_deed"]
abbrev GP:Da Str:=nc.append ["_law_nought"]
def w_:aJ GP nc (ay pY):=dh
theorem Ex(F:At K mg "_law_model_do" pY f fd)(pZ:Dn P w K mg base 4 "_law_model_one" lX (xM aeh K))(iy:Dn P w K mg base 2 "_law_model_cast" jl (H_ K))(mF:Dn P w K mg base 1 "_law_bear" oW (MZ K))(mD:Dn P w K mg base 1 "_law_seat" oU (MY K))(bg:mg "len"=none)(bq:mg "range"=none):Dn P w K mg base 5 "_law_model_do" nc (xM Ae K):=by
 refine F.oA w_ λ_ _ _ _ H _ Q E hr h=>?_;obtain⟨⟨n,c,ρ,B,b,st,z,d,rfl,hz,G,hb,gd,hc,wf,al,db,hr0,q⟩⟩:=h;refine⟨_,(@cS.h _ _ _ (aq (bZ (aP gQ (aG (bM K) (qv 1) ao) aU (aZ _)) (aq (cg (bh iy hr (af (qv 0) (af (fJ ["_law_k","_law_deed"] [none,some 1] rfl (xK (by rfl) bq (af ao (af (aF (bL K) (by rfl) bg c9 (af (qv 1) ai)) (af ao ai)))) (λ_ _ _ _=>(aL (i:=0) (show List.Nodup (["_law_k","_law_deed"] :Da Str)from by decide +kernel))) (λ_ _ _ _=>(iU (af (aG (bM K) (qv 1) (qv 0)) (af (aG (bM K) (qv 1) (aH cW (qv 0) ao)) ai)))) rfl (by rfl)) ai))))) (aq (bZ (aP gQ (aG (bM K) (qv 1) ao) aU (aZ _)) (aj (mz (i:=2) ["_law_part"] [none] w_.nd rfl rfl rfl (cY K (bF (bN hr) (qv 0) aU)) (λ_ _ _ _=>(aL (i:=0) (show List.Nodup (["_law_part"] :Da Str)from by decide +kernel))) (λ_ _ _ _=>ao) rfl (by rfl) (by rfl))
  (aq (cg (bh mF hr (af (qv 0) (af (qv 2) (af (bh mD hr (af (bF (bN hr) (qv 0) aU) (af (aG (bM K) (qv 1) ao) ai))) (af (aG (bM K) (qv 1) ao) ai)))))))) (aq (cg (bh pZ hr (af (qv 0) (af (qv 1) ai)))))))))),?_⟩
 have wb:=gd.fG;have yY:cV K H z (Dd.v d):=cV.of hz;cases d with
 | cast rs=>
  refine NH yY rfl rfl (jE ?_);have hrl:rs.length<=1000:=al.1;obtain⟨rb,bo⟩:=NI gd wf hc hr0;refine⟨_,Z,_,Z,z,_,Z,.inr yY,_,_,_,Z,⟨by decide,by decide,by omega,by rw[nC];omega,by decide,by decide⟩,?_⟩;rw[nC,ND];intro BM Bn;refine gf (J:=HM 1 2 rs.length) (n:=rs.length) 0 (λi out H1=>aE H H1/\fR H1 out (rs.take i)) (by omega) ⟨aA Bn _,.nil⟩ (λi o H' hi _ _=>hi) (λo H' _ _=>aN _) ?_ ?_
  .rintro i x out H1 H2 hi dY ha ⟨g,R⟩ ⟨rfl,rfl⟩;have ei:=aY hi;generalize rs[i]=r at *;obtain⟨c1,c2⟩:=CM ei;have e1:(1:Int)+(i:Int)*2=((1+2*i:Nat):Int):=by omega
   have e2:((1+2*i:Nat):Int)+1=((2+2*i:Nat):Int):=by omega
   rw[e1];refine⟨_,Z,_,Z,z,_,_,_,Z,Z,g.tup yY,aO c1,_,Z,_,Z,_,_,Z,Z,z,_,_,_,Z,Z,g.tup yY,by rw[e2];exact aO c2,(gM 2),λp hp=>?_⟩;have g6:=aA hp (x9 r);refine⟨g6 _ _ ha,(g.trans g6).bQ Bn _,?_⟩;rw[take_snoc ei];exact((R.mono g6.tups).snoc ak).mono (jw (.inr ⟨_,g6 _ _ ha,Z⟩))
  rintro out H1 dY ha ⟨g,R⟩;rw[bV]at R;exact⟨⟨n,ρ,B,b,BM,out,rs,Z,G.same g,hb.mono g,wb,az.of ha,R,G.none Bn,rb,hrl,bo,λρ' B' H' a1 a2 a3 a4=>q ρ' B' H' a1 a2 a3 ((Fr.of_same g).trans a4)⟩⟩
 | award o a=>
  refine Gj yY rfl (by decide) rfl (cA ?_);refine NH yY rfl rfl (jE ?_);obtain⟨ho,h1,h2⟩:=Gf hr0;have ha:BC st:=al;have pl:=wb.pl;have ew:=gd.rel.whole;have eo:=gd.rel.own;rw[eo]at ho;have hi:b.own.idxOf o<b.own.length:=LG.mpr ho;have mq:(B.qs.map λq=>V.ref q.1).length=b.ah.length:=by rw[aD];exact hb.ql
  refine⟨_,Z,B.m,_,Z,cE.k (k:=Sum.inr "parts") hb.om,B.lp,Z,⟨_,az.of hb.op⟩,λl0 iD=>?_⟩;refine gf (J:=tU K B.lp) (n:=b.ah.length) 0 (λi o H'=>aE H H'/\o=(List.replicate i (0:Int)).map V.int) (by omega) ⟨aA iD _,Z⟩ (λi o H' hi _ hp=>⟨_,_,az.of (hp.1 _ _ hb.op),aY (by rw[mq];exact hi)⟩) (λo H' _ hp=>⟨_,az.of (hp.1 _ _ hb.op),by rw[mq];exact aN _⟩) ?_ ?_
  .rintro i y o H2 H3 hi dY ha ⟨g,e⟩ ⟨rfl,hy⟩;refine⟨ha,g.bQ iD _,?_⟩;subst e;rw[List.replicate_succ',bw];rfl
  rintro o1 H1 _ ha1 ⟨g1,e⟩;subst e;have hb1:=hb.mono g1;have hz1:cV K H1 z (Dd.v (.award o a)):=cV.of (g1 _ _ hz);have bo:j_ b (List.replicate b.ah.length 0) (b.own.idxOf o) a:=⟨kD,λx hx=>by rw[LF hx];exact lM _,hi,by omega,by rw[z_];omega,by rw[<-ew];exact ha.big⟩
  exact⟨_,Z,_,Z,_,Z,B.m,_,Z,cE.k (k:=Sum.inr "owners") hb1.om,_,Z,z,_,_,_,Z,Z,hz1,aO (j:=1) rfl,⟨⟨B.lo,b.own,o,Z,az.of hb1.oo,ho,by have:=wb.ol;omega,_,Z,z,_,_,_,Z,Z,hz1,aO (j:=2) rfl,⟨⟨n,ρ,B,b,l0,List.replicate b.ah.length 0,b.own.idxOf o,a,Z,G.same g1,hb1,wb,az.of ha1,G.none iD,bo,λρ' B' H' a1 a2 a3 a4=>q ρ' B' H' a1 a2 a3 ((Fr.of_same g1).trans a4)⟩⟩⟩⟩⟩
 | land x=>refine Gj yY rfl (by decide) rfl (cA ?_);refine Gj yY rfl (by decide) rfl (cA ?_);exact⟨_,Z,_,Z,⟨⟨n,c,ρ,B,b,st,z,.land x,Z,hz,G,hb,gd,hc,wf,al,db,hr0,q⟩⟩⟩
 | _=>exact al.elim
abbrev sU:Stmt:=top 50
abbrev pF:Da Str:=["_law_script","_law_k","_law_hold","_law_model_here","_law_deed"]
abbrev KU:Da Str:=pF.append ["_law_due_here","_law_found"]
def sV:aJ KU pF (ay sU):=dh
theorem IQ{T:TC}{al:HS->Dd->Prop}(hlt:∀st d i,al st d->kI st d=some i->i<10)(agy:∀c st b d,d_ c st b->c<=90->Wf st->al st d->J4 d->kI st d=none->d_ (c+1) (tH st d) (vf b d)/\(tH st d).kn<=st.kn+100)(F:At K mg "_law_single" sU f fd)(Aq:Dn P w K mg base 5 "_law_due" vj (CJ al K))(xg:Dn P w K mg base 7 "_law_tried" rH (Ie T al K))(Ar:Dn P w K mg base 1 "_law_hot" vh Tq)(rL:Dn P w K mg base 5 "_law_model_do" nc (xM al K)):Dn P w K mg base 8 "_law_single" pF (Nt T al K):=by
 refine F.oA sV λ_ _ _ _ H _ Q E hr h=>?_;obtain⟨⟨n,m,c,ρ,A,B,st,b,v0,v1,z,d,rfl,nm,hz,hh,hb,gd,hc,ha,db,q⟩⟩:=h;refine⟨_,(@cS.h _ _ _ (aj (aX (i:=5) sV.nd (bh Aq hr (af (qv 3) (af (qv 4) ai))))
  (aj (aX (i:=6) sV.nd (bh xg hr (af (qv 2) (af (qv 4) ai))))
  (aj (bZ (aP Cr (qv 5) ao (aZ _)) (aq (aM (su (HJ K hr.units) (qv 6) (bh Ar hr (af (qv 5) ai)) (aZ _)))) aQ)
  (aj (cg (bh rL hr (af (qv 3) (af (qv 4) ai))))
  (aq (aM (su (HJ K hr.units) (qv 6) (eY ai) (aZ _))))))))),?_⟩
 refine⟨_,Z,_,Z,⟨⟨m,ρ,B,b,st,z,d,Z,cV.of hz,hb,gd.rel,hh.wf,gd.fG,gd.dG,ha,db,λHB gB=>?_⟩⟩⟩;have hzB:=gB _ _ hz;have WN:=hh.mono gB;refine⟨_,Z,_,Z,Tw rfl (cV.of hzB) WN ha λl ρC AC HC DJ WO FC sC Z9=>?_⟩;have oC:aE (out ρ H) (out ρC HC):=(jf gB).trans FC.out;have WQ:=(hb.mono gB).other FC WN.g (cD nm);have hzC:=FC.tup WN.g _ _ hzB;show iA 6 (.ref l) _ _ _;cases hr:kI st d with
 | some j=>
  have eaf:v5 st d=st:=by unfold v5;rw[hr]
  rw[eaf]at DJ;rw[hr]at Z9;refine⟨_,Z,_,_,Z,Z,_,Z,dg (λ_=>?_) (λc=>absurd (cy (by show(0:Int)<=(j:Int);omega)) c)⟩;refine⟨_,Z,_,Z,abe (n:=j) rfl λp HD gD hpD=>abg (r:=some j) (gD _ _ Z9) hpD (λi hi=>by cases hi;exact hlt st d _ ha hr) ?_⟩;exact q ρC AC B HD st b (DJ.mono gD) (WQ.mono gD) gd.mono WO rfl rfl (by omega) (.inl rfl) (oC.trans (jf gD))
 | none=>
  have eaf:v5 st d=tH st d:=by unfold v5;rw[hr]
  rw[eaf]at DJ;rw[hr]at Z9;obtain⟨gd',hk⟩:=agy c st b d gd hc hh.wf ha db hr;refine⟨_,Z,_,_,Z,Z,_,Z,dg (λc=>absurd (dH c) (by show ¬ (0:Int)<=-1;decide)) (λ_=>?_)⟩;have cl:ρC l=none:=sC hr;refine⟨_,Z,_,Z,⟨⟨m,c,ρC,B,b,st,z,d,Z,hzC,DJ.g,WQ,gd,hc,hh.wf,ha,db,hr,λρD BD HD GD hbD emD FD=>?_⟩⟩⟩;obtain⟨hlD,_⟩:=FD.at Z9 cl;refine⟨_,Z,(gM 0),λp1 hp1=>?_⟩;have gE:=aA hp1 (.lst []);refine⟨.list [],.list [],.lst (az.of (gE _ _ hlD)) .nil,.lst (az.of ak) .nil,Z,Z,?_⟩;exact q ρD AC BD _ _ _ ((DJ.other FD GD nm).mono gE) (hbD.mono gE) gd' WO emD (Wa b d) hk (.inr ⟨hr,Z⟩) ((oC.trans FD.out).trans (jf gE))
abbrev nL:Stmt:=top 51
abbrev kR:Da Str:=["_law_script","_law_k","_law_model_here","_law_word"]
abbrev CY:Da Str:=kR.append ["_law_some"]
def kB:aJ CY kR (ay nL):=dh
theorem Cb(F:At K mg "_law_other_word" nL f fd)(bf:Dn P w K mg base 1 "_law_draw" gw (oH K))(bg:mg "len"=none):Dn P w K mg base 2 "_law_other_word" kR (Dz K):=by
 refine F.oA kB λ_ _ _ _ H _ Q E hr h=>?_;obtain⟨⟨a,ms,k,n,ρ,B,b,x,rfl,hS,h63,hk,hb,bk,hx,q⟩⟩:=h;refine⟨_,(@cS.h _ _ _ (aj (aX (i:=4) kB.nd (aH qC (aH qC (aH qC (bF (bN hr) (qv 2) aU) (fJ ["_law_part"] [none] rfl (cY K (bF (bN hr) (qv 2) aU)) (λ_ _ _ _=>(aL (i:=0) (show List.Nodup (["_law_part"] :Da Str)from by decide +kernel))) (λ_ _ _ _=>(aG (aK K) (qv 0) ao)) rfl (by rfl))) (bF (bN hr) (qv 2) aU)) (eY (af aU ai))))
  (aj (aX (i:=4) kB.nd (aH qC (qv 4) (eY (af (aH r_ (qv 3) aU) (af (v7 yJ (qv 3) yL (yK ao)) (af (v7 yJ (qv 3) (yK ao) yL) (af (aH r_ (qv 3) aU) (af (aH r_ aU (v7 yJ (qv 3) (yK ao) yL)) (af (aH r_ (aH r_ (qv 3) (qv 3)) aU) ai)))))))))
  (aj (aX (i:=4) kB.nd (aH qC (qv 4) (eY (af (aH r_ aU (qv 3)) (af aU (af (aH r_ (v7 yJ (qv 3) yL (yK ao)) aU) ai))))))
  (aq (aM (v7 yJ (aG (aK K) (qv 4) (bh bf hr (af (qv 0) (af (qv 1) (af ao (af (aF (bL K) (by rfl) bg c9 (af (qv 4) ai)) ai)))))) yL (yK ao)))))))),?_⟩
 have mq:(B.qs.map λq=>V.ref q.1).length=b.ah.length:=by rw[aD];exact hb.ql
 have pl:=bk.pl;have kl:=bk.kl;have ol:=bk.ol;refine⟨_,Z,B.m,_,Z,cE.k (k:=Sum.inr "known") hb.om,?_⟩;refine⟨_,Z,B.m,_,Z,cE.k (k:=Sum.inr "parts") hb.om,B.lp,Z,⟨_,az.of hb.op⟩,λac hac=>?_⟩;refine gf (J:=tU K B.lp) (n:=b.ah.length) 0 (λi o H'=>aE H H'/\o=((b.ah.take i).map (λp:BP=>p.nm)).map V.str) (by omega) ⟨aA hac _,Z⟩ (λi o H' hi _ hp=>⟨_,_,az.of (hp.1 _ _ hb.op),aY (by rw[mq];exact hi)⟩) (λo H' _ hp=>⟨_,az.of (hp.1 _ _ hb.op),by rw[mq];exact aN _⟩) ?_ ?_
 .rintro j y o H2 H3 hj dY ha ⟨g,e⟩ ⟨rfl,hy⟩;have ej:=aY hj;obtain⟨qq,eq,k1,k2,_,_⟩:=hb.find ej;have ey:=hy _ (az.of (g _ _ hb.op));rw[bH,eq]at ey;cases ey;refine⟨_,Z,qq.1,_,_,_,Z,Z,az.of (g _ _ k1),aO (j:=0) rfl,ha,g.bQ hac _,?_⟩;subst e;rw[take_snoc ej,bw,bw];rfl
 rintro o H2 _ ha ⟨g2,e⟩;rw[bV]at e;subst e;have sz:∀n:Nat,n<=5000->n<=sizeLine:=λn h=>by rw[gy];omega
 refine⟨B.lk,ac,_,_,Z,Z,g2 _ _ hb.ok,ha,sz _ (by rw[aD,aD,aD];omega),λp1 hp1=>?_⟩;have g3:=aA hp1 (.lst (b.dG.map V.str++(b.ah.map (λp:BP=>p.nm)).map V.str));have RN:upd H2 p1 (.lst (b.dG.map V.str++(b.ah.map (λp:BP=>p.nm)).map V.str)) p1=some (.lst (b.dG.map V.str++(b.ah.map (λp:BP=>p.nm)).map V.str)):=ak;generalize upd H2 p1 (.lst (b.dG.map V.str++(b.ah.map (λp:BP=>p.nm)).map V.str))=H3 at g3 RN;have g03:=g2.trans g3;refine⟨_,Z,B.m,_,Z,cE.k (k:=Sum.inr "owners") (g03 _ _ hb.om),?_⟩;refine⟨p1,B.lo,_,_,Z,Z,RN,g03 _ _ hb.oo,sz _ (by rw[c8,aD,aD,aD,aD];omega),λp2 hp2=>?_⟩;have W2:lu 100 (b.dG.map V.str++(b.ah.map (λp:BP=>p.nm)).map V.str++b.own.map V.str):=((lu.map λx hx=>fZ (bk.dG x hx) (by decide)).append (lu.map λx hx=>by obtain⟨p,hp,rfl⟩:=bD.mp hx;exact fZ (bk.ah p hp) (by decide))).append (lu.map λx hx=>fZ (bk.own x hx) (by decide))
 have l2:(b.dG.map V.str++(b.ah.map (λp:BP=>p.nm)).map V.str++b.own.map V.str).length<=2100:=by rw[c8,c8,aD,aD,aD,aD];omega
 generalize b.dG.map V.str++(b.ah.map (λp:BP=>p.nm)).map V.str++b.own.map V.str=xU at *;have g4:=aA hp2 (.lst xU);have h24:upd H3 p2 (.lst xU) p2=some (.lst xU):=ak;generalize upd H3 p2 (.lst xU)=H4 at g4 h24;refine⟨(gM 1),λp3 hp3=>?_⟩;have g5:=aA hp3 (.lst [.str ""]);refine⟨p2,p3,_,_,Z,Z,g5 _ _ h24,ak,sz _ (by show xU.length+1<=_;omega),λp4 J1=>?_⟩;have g6:=aA J1 (.lst (xU++[.str ""]));have h46:upd (upd H4 p3 (.lst [.str ""])) p4 (.lst (xU++[.str ""])) p4=some (.lst (xU++[.str ""])):=ak;have W3:lu 100 (xU++[.str ""]):=W2.append (lu.cons (by decide +kernel) lu.nil);have l3:(xU++[V.str ""]).length<=2101:=by rw[c8];show xU.length+1<=_;omega
 have g06:=g03.trans (g4.trans (g5.trans g6));show iA 4 (.ref p4) _ (upd (upd H4 p3 (.lst [.str ""])) p4 (.lst (xU++[.str ""]))) _;generalize upd (upd H4 p3 (.lst [.str ""])) p4 (.lst (xU++[.str ""]))=H6 at g06 h46;generalize xU++[V.str ""]=L3 at *;clear g6 J1 hp3 g5 h24 g4 hp2 W2 l2;have l1:wl "a"<=10:=by decide +kernel
 have l22:wl "-"<=10:=by decide +kernel
 have l33:wl "A"<=10:=by decide +kernel
 have l4:wl "abcdefgh"<=10:=by decide +kernel
 have l5:wl " "<=10:=by decide +kernel
 have l6:wl "zzzzzzz"<=10:=by decide +kernel
 have l7:wl "\n"<=10:=by decide +kernel
 refine⟨_,Z,_,Z,_,_,Z,Z,by omega,λr1 h1=>?_⟩;refine⟨_,Z,_,Z,_,Z,by omega,λr2 h2 _=>?_⟩;refine⟨_,Z,_,Z,_,Z,by omega,λr3 h3 _=>?_⟩;refine⟨_,Z,_,_,Z,Z,by omega,λr4 h4=>?_⟩;refine⟨_,Z,_,Z,_,Z,by omega,λr5 h5 _=>⟨_,_,Z,Z,by omega,λr6 h6=>?_⟩⟩;refine⟨_,Z,_,Z,_,_,Z,Z,by omega,λr7 h7=>⟨_,_,Z,Z,by omega,λr8 h8=>?_⟩⟩;refine⟨(gM 6),λp5 hp5=>?_⟩;have g7:=aA hp5 (.lst [.str r1,.str r2,.str r3,.str r4,.str r6,.str r8]);refine⟨p4,p5,_,_,Z,Z,g7 _ _ h46,ak,sz _ (by show L3.length+6<=_;omega),λp6 N1=>?_⟩;have g8:=aA N1 (.lst (L3++[.str r1,.str r2,.str r3,.str r4,.str r6,.str r8]));have h68:upd (upd H6 p5 (.lst [.str r1,.str r2,.str r3,.str r4,.str r6,.str r8])) p6 (.lst (L3++[.str r1,.str r2,.str r3,.str r4,.str r6,.str r8])) p6=some (.lst (L3++[.str r1,.str r2,.str r3,.str r4,.str r6,.str r8])):=ak;have W4:lu 100 (L3++[.str r1,.str r2,.str r3,.str r4,.str r6,.str r8]):=W3.append (.cons (by omega) (.cons (by omega) (.cons (by omega) (.cons (by omega) (.cons (by omega) (.cons (by omega) .nil))))));have l8:(L3++[V.str r1,.str r2,.str r3,.str r4,.str r6,.str r8]).length<=2107:=by rw[c8];show L3.length+6<=_;omega
 have g08:=g06.trans (g7.trans g8);show iA 4 (.ref p6) _ (upd (upd H6 p5 (.lst [.str r1,.str r2,.str r3,.str r4,.str r6,.str r8])) p6 (.lst (L3++[.str r1,.str r2,.str r3,.str r4,.str r6,.str r8]))) _;generalize upd (upd H6 p5 (.lst [.str r1,.str r2,.str r3,.str r4,.str r6,.str r8])) p6 (.lst (L3++[.str r1,.str r2,.str r3,.str r4,.str r6,.str r8]))=H8 at g08 h68;generalize L3++[V.str r1,.str r2,.str r3,.str r4,.str r6,.str r8]=L4 at *;refine⟨_,Z,_,Z,_,_,Z,Z,by omega,λt1 k1=>?_⟩;refine⟨_,Z,_,Z,_,Z,by omega,λt2 k2 _=>⟨_,_,Z,Z,by omega,λt3 k3=>?_⟩⟩;refine⟨(gM 3),λp7 hp7=>?_⟩;have g9:=aA hp7 (.lst [.str t1,.str "zzzzzzz",.str t3]);refine⟨p6,p7,_,_,Z,Z,g9 _ _ h68,ak,sz _ (by show L4.length+3<=_;omega),λp8 WB=>?_⟩;have g10:=aA WB (.lst (L4++[.str t1,.str "zzzzzzz",.str t3]));have hA:upd (upd H8 p7 (.lst [.str t1,.str "zzzzzzz",.str t3])) p8 (.lst (L4++[.str t1,.str "zzzzzzz",.str t3])) p8=some (.lst (L4++[.str t1,.str "zzzzzzz",.str t3])):=ak;have W5:lu 100 (L4++[.str t1,.str "zzzzzzz",.str t3]):=W4.append (.cons (by omega) (.cons (by omega) (.cons (by omega) .nil)));have l9:(L4++[V.str t1,.str "zzzzzzz",.str t3]).length<=2110/\0<(L4++[V.str t1,.str "zzzzzzz",.str t3]).length:=by rw[c8];show L4.length+3<=_/\0<L4.length+3;omega
 have g0A:=g08.trans (g9.trans g10);show iA 4 (.ref p8) _ (upd (upd H8 p7 (.lst [.str t1,.str "zzzzzzz",.str t3])) p8 (.lst (L4++[.str t1,.str "zzzzzzz",.str t3]))) _;generalize upd (upd H8 p7 (.lst [.str t1,.str "zzzzzzz",.str t3])) p8 (.lst (L4++[.str t1,.str "zzzzzzz",.str t3]))=HA at g0A hA;generalize L4++[V.str t1,.str "zzzzzzz",.str t3]=L5 at *;refine⟨_,Z,_,Z,_,Z,_,Z,p8,_,Z,.inl (az.of hA),dJ (g0A.seq hS) h63 hk (by decide) (by decide) (by omega) λd _ d0 d1=>?_⟩;obtain⟨v,hv,hat⟩:=V5 (xs:=L5) (i:=d) (by omega) d1;obtain⟨sv,rfl,hsv⟩:=W5 v hv;exact⟨p8,_,_,_,Z,Z,az.of hA,hat,_,Z,sv,Z,by omega,λr hr1 hr2=>q r _ g0A (hr2 20 rfl rfl)⟩
abbrev xh:Stmt:=top 62
abbrev tS:Da Str:=["_law_script","_law_k","_law_model_here"]
abbrev PZ:Da Str:=tS.append ["_law_parts","_law_way","_law_part"]
def rM:aJ PZ tS (ay xh):=dh
theorem Ou(F:At K mg "_law_next" xh f fd)(bf:Dn P w K mg base 1 "_law_draw" gw (oH K))(kJ:Dn P w K mg base 2 "_law_rows" oV (CH K))(yl:Dn P w K mg base 1 "_law_flat" tR (Wi K))(oE:Dn P w K mg base 2 "_law_other_word" kR (Dz K))(bg:mg "len"=none)(fE:mg "sum"=none):Dn P w K mg base 3 "_law_next" tS (Ww K):=by
 refine F.oA rM λ_ _ _ _ H _ Q E hr h=>?_;obtain⟨⟨a,ns,k,n,c,ρ,B,b,st,rfl,hS,h63,hk,hk1,hb,gd,hc,wf,kn,q⟩⟩:=h;refine⟨_,(@cS.h _ _ _ (aj (aX (i:=3) rM.nd (bF (bN hr) (qv 2) aU))
  (aj (aX (i:=4) rM.nd (bh bf hr (af (qv 0) (af (qv 1) (af ao (af ao ai))))))
  (aj (bZ (aP gQ (aF (bL K) (by rfl) bg c9 (af (qv 3) ai)) ao (aZ _)) (aq (aM (iU (af aU (af (aG (aK K) (bF (bN hr) (qv 2) aU) ao) ai))))) aQ)
  (aj (aX (i:=5) rM.nd (aG (aK K) (qv 3) (bh bf hr (af (qv 0) (af (qv 1) (af ao (af (aF (bL K) (by rfl) bg c9 (af (qv 3) ai)) ai)))))))
  (aj (bZ (bW.pt (v_ (aP gQ (qv 4) ao (aZ _)) (vt (aP iX (aF (bL K) (by rfl) bg c9 (af (bh kJ hr (af (qv 0) (af (qv 1) (af (qv 3) ai)))) ai)) ao (aZ _))))) (aq (aM (bh yl hr (af (bh kJ hr (af (qv 0) (af (qv 1) (af (qv 3) ai)))) ai)))) aQ)
  (aj (bZ (bW.pt (v_ (aP gQ (qv 4) ao (aZ _)) (vt (aP iX (aF (ju K rfl) (by rfl) fE ue (af (fJ ["_law_one"] [none] rfl (cY K (qv 3)) (λ_ _ _ _=>(aL (i:=0) (show List.Nodup (["_law_one"] :Da Str)from by decide +kernel))) (λ_ _ _ _=>(aG (aK K) (qv 0) ao)) rfl (by rfl)) ai)) ao (aZ _))))) (aq (aM (iU (af aU (af (aG (aK K) (bF (bN hr) (qv 2) aU) (Aa vD ao)) (af (aH cW ao (bh bf hr (af (qv 0) (af (qv 1) (af ao (af ao ai)))))) ai)))))) aQ)
  (aj (bZ (aP gQ (qv 4) ao (aZ _)) (aq (aM (iU (af aU (af (bh oE hr (af (qv 0) (af (qv 1) (af (qv 2) (af (aG (aK K) (qv 5) ao) ai))))) ai))))) aQ)
  (aq (aM (iU (af aU (af (aG (aK K) (qv 5) ao) ai))))))))))))),?_⟩
 have bk:=gd.bk wf;have pl:=gd.pl;have mq:(B.qs.map λq=>V.ref q.1).length=b.ah.length:=by rw[aD];exact hb.ql
 refine⟨_,Z,B.m,_,Z,cE.k (k:=Sum.inr "parts") hb.om,?_⟩;refine⟨_,Z,_,Z,dJ hS h63 (by omega) (by decide) (by decide) (by decide) λway _ y0 y1=>?_⟩;refine⟨_,Z,B.lp,_,Z,.inl (az.of hb.op),Z,_,Z,dg (λc=>?_) (λc=>?_)⟩
 ·
  obtain⟨x0,ks,ek⟩:∃x0 ks,b.dG=x0::ks:=by
   cases e:b.dG with
   | nil=>exact absurd e kn
   | cons x0 ks=>exact⟨x0,ks,Z⟩
  have hat:qa (b.dG.map V.str) 0=some (.str x0):=by rw[ek];exact aO (j:=0) rfl
  refine⟨_,Z,B.m,_,Z,cE.k (k:=Sum.inr "known") hb.om,B.lk,_,_,_,Z,Z,az.of hb.ok,hat,(gM 2),λz hz=>?_⟩
  exact q z (.land x0) _ (aA hz _) ak ⟨.inr (.inr rfl),bk.dG x0 (by rw[ek];exact cQ)⟩
 have cp:0<b.ah.length:=by
  have:¬ V.int (((B.qs.map λq=>V.ref q.1).length:Nat):Int)=V.int 0:=kF (gX.mpr c);rw[mq]at this;rcases Nat.eq_zero_or_pos b.ah.length with e|e
  .rw [e]at this;exact absurd rfl this
  .exact e
 clear c;refine⟨_,Z,_,Z,_,Z,_,Z,B.lp,_,Z,.inl (az.of hb.op),dJ hS h63 (by omega) (by decide) (by decide) (by omega) λd _ d0 d1=>?_⟩;obtain⟨jd,ejd⟩:∃jd:Nat,d=(jd:Int):=⟨d.toNat,by omega⟩
 subst ejd;have hjd:jd<b.ah.length:=by omega
 have ja:=uZ hjd;have ejp:=aY hjd;generalize b.ah[jd]=p at *;obtain⟨qq,Bt,r1,r2,_,_⟩:=hb.find ejp;refine⟨B.lp,_,_,_,Z,Z,az.of hb.op,aO (by rw[bH,Bt];rfl),?_⟩;have fin:∀{H1:Hp}{z:Addr}{x:Str},aE H H1->H1 z=none->wl x<=20->Q (.ref z) (upd H1 z (.tup [.str "land",.str x])):=λg hz hx=>q _ (.land _) _ (g.trans (aA hz _)) ak ⟨.inr (.inr rfl),hx⟩;by_cases w1:way=1
 .subst w1;have rws:∀{H1:Hp}{Q':VK}{E':XK},aE H H1->(∀z zs rs H',aE H1 H'->H' z=some (.lst zs)->fR H' zs rs->J4 (.cast rs)->Q' (.ref z) H')->CH K [.ref a,.int k,.ref B.lp] H1 Q' E':=λg kk=>⟨⟨a,B.lp,ns,_,_,lg b,Z,g.seq hS,h63,by omega,by omega,az.of (g _ _ hb.op),(hb.mono g).nw,by unfold lg;rw[f_];exact gd.fG.nd,by unfold lg;rw[aD];omega,λw hw=>by obtain⟨p,hp,rfl⟩:=bD.mp hw;exact gd.fG.w1 p hp,λz zs rs H7 g7 hz GA hR Z7=>kk z zs rs H7 g7 GA hR ⟨by have:=Z7.len;unfold lg at this;rw[aD]at this;omega,λr hr=>by obtain⟨a1,a2,w,hw,e,_⟩:=Z7.row r hr;obtain⟨p,hp,rfl⟩:=bD.mp hw;exact⟨by rw[<-e];exact bk.ah p hp,by unfold nB;omega⟩⟩⟩⟩
  refine⟨_,Z,Z,_,Z,dg (λ_=>?_) (λc=>absurd (cy rfl) c)⟩;refine⟨_,Z,_,Z,_,Z,rws (aE.refl _) λz zs rs H1 g1 hz hR db=>?_⟩;refine⟨z,_,Z,.inl (az.of hz),_,_,Z,Z,_,Z,dg (λ_=>?_) (λ_=>?_)⟩
  .refine ⟨_,Z,_,Z,_,Z,rws g1 λz zs rs H2 g2 hz hR db=>?_⟩;exact⟨⟨z,zs,rs,Z,az.of hz,hR,by have:=db.1;omega,λz' H3 g3 hz3=>q z' _ H3 ((g1.trans g2).trans g3) hz3 ⟨.inl rfl,db⟩⟩⟩
  .refine ⟨_,Z,Z,_,Z,dg (λc=>absurd (dH c) (by decide)) (λ_=>cA ?_)⟩;refine⟨_,Z,Z,_,Z,dg (λc=>absurd (dH c) (by decide)) (λ_=>?_)⟩;exact⟨_,Z,qq.1,_,_,_,Z,Z,az.of (g1 _ _ r1),aO (j:=0) rfl,(gM 2),λz hz=>fin g1 hz (bk.ah p ja)⟩
 have n1:¬ (V.int way=V.int 1):=λe=>w1 (V.int.inj e);refine⟨_,Z,Z,_,Z,dg (λc=>absurd (dH c) n1) (λ_=>cA ?_)⟩;by_cases w2:way=2
 .subst w2;refine⟨_,Z,Z,_,Z,dg (λ_=>?_) (λc=>absurd (cy rfl) c)⟩;refine⟨_,Z,B.lp,Z,⟨_,az.of hb.op⟩,λac hac=>?_⟩;refine gf (J:=tU K B.lp) (n:=b.ah.length) 0 (λi o H'=>aE H H'/\o=((b.ah.take i).map (λp:BP=>p.wo)).map V.int) (by omega) ⟨aA hac _,Z⟩ (λi o H' hi _ hp=>⟨_,_,az.of (hp.1 _ _ hb.op),aY (by rw[mq];exact hi)⟩) (λo H' _ hp=>⟨_,az.of (hp.1 _ _ hb.op),by rw[mq];exact aN _⟩) ?_ ?_
  .rintro j y o H2 H3 hj dY ha ⟨g,e⟩ ⟨rfl,hy⟩;have ej:=aY hj;obtain⟨qq,eq,k1,k2,_,_⟩:=hb.find ej;have ey:=hy _ (az.of (g _ _ hb.op));rw[bH,eq]at ey;cases ey;refine⟨_,Z,qq.1,_,_,_,Z,Z,az.of (g _ _ k1),aO (j:=2) rfl,ha,g.bQ hac _,?_⟩;subst e;rw[take_snoc ej,bw,bw];rfl
  rintro o1 H2 _ ha1 ⟨g2,e⟩;rw[bV]at e;subst e;have hb2:=hb.mono g2;refine⟨ac,b.ah.map (λp:BP=>p.wo),Z,az.of ha1,_,_,Z,Z,_,Z,dg (λ_=>?_) (λ_=>?_)⟩
  .have ol:=gd.own;obtain⟨v,hv,hat⟩:=V5 (xs:=b.own.map V.str) (i:=-1) (by rw[aD];omega) (by rw[aD];omega);obtain⟨o,ho,rfl⟩:=bD.mp hv;refine⟨_,Z,B.m,_,Z,cE.k (k:=Sum.inr "owners") hb2.om,1,Z,B.lo,_,_,_,Z,Z,az.of hb2.oo,hat,_,Z,_,Z,dJ (g2.seq hS) h63 (by omega) (by decide) (by decide) (by decide) λe _ e0 e1=>⟨_,_,Z,Z,(gM 3),λz hz=>?_⟩⟩;exact q z (.award o (1+e)) _ (g2.trans (aA hz _)) ak ⟨.inr (.inl rfl),bk.own o ho,by unfold nB;omega⟩
  .refine ⟨_,Z,Z,_,Z,dg (λc=>absurd (dH c) (by decide)) (λ_=>?_)⟩;exact⟨_,Z,qq.1,_,_,_,Z,Z,az.of (g2 _ _ r1),aO (j:=0) rfl,(gM 2),λz hz=>fin g2 hz (bk.ah p ja)⟩
 have n2:¬ (V.int way=V.int 2):=λe=>w2 (V.int.inj e);refine⟨_,Z,Z,_,Z,dg (λc=>absurd (dH c) n2) (λ_=>cA ?_)⟩;refine⟨_,Z,Z,_,Z,dg (λ_=>?_) (λ_=>?_)⟩
 .refine ⟨_,Z,_,Z,_,Z,_,Z,qq.1,_,_,_,Z,Z,az.of r1,aO (j:=0) rfl,⟨⟨a,ns,k,n,ρ,B,b,p.nm,Z,hS,h63,hk,hb,bk,bk.ah p ja,λr H1 g1 hr1=>⟨(gM 2),λz hz=>fin g1 hz hr1⟩⟩⟩⟩
 .exact ⟨_,Z,qq.1,_,_,_,Z,Z,az.of r1,aO (j:=0) rfl,(gM 2),λz hz=>fin (aE.refl _) hz (bk.ah p ja)⟩
abbrev oF:Stmt:=top 63
abbrev lY:Da Str:=["_law_script","_law_hold","_law_model_here"]
abbrev Ey:Da Str:=lY.append ["_law_part"]
def uY:aJ Ey lY (ay oF):=dh
theorem CZ{T:TC}(F:At K mg "_law_sign_more" oF f fd)(mE:Mn P w K mg base 3 T.hold "sign" oR (HX T)):Dn P w K mg base 4 "_law_sign_more" lY (Gn T K):=by
 refine F.oA uY λ_ _ _ _ H _ Q E hr h=>?_;obtain⟨⟨c,ρ,A,B,st,b,v0,rfl,hh,hb,gd,hc,ol,q⟩⟩:=h;refine⟨_,(@cS.h _ _ _ (aq (jj (aP AU aU (bF (bN hr) (qv 2) aU) (by with_unfolding_all rfl)) (aj (cg (gu mE hr (qv 1) (af aU ai)))
  (aj (cg (kQ mG pG pH eX (bF (bN hr) (qv 2) aU) (af aU ai)))
  (aq (dP fC rfl (cY K (bF (bN hr) (qv 2) aU)) (aL (i:=3) uY.nd) (aq (cg (kQ mG pG pH eX (aG (aK K) (qv 3) ao) (af ao ai)))))))) aQ))),?_⟩
 refine⟨λ_ H'=>Q .cu H',?_,λ_ _ y=>y⟩;refine⟨_,Z,B.m,_,Z,cE.k (k:=Sum.inr "owners") hb.om,B.lo,_,Z,.inl (az.of hb.oo),Z,JI _,_,Z,?_⟩;rw[MT];by_cases ho:("aboarded":Str)∈b.own
 .rw [cy ho];refine cA ?_;exact q ρ A B H st b hh hb gd.mono rfl rfl (λo h=> .inl h) (by omega) rfl rfl rfl (aE.refl _)
 rw[d7 ho];refine jE ?_;have late:isNm "aboarded"=true:=by decide +kernel
 have es:=gd.rel.own;refine⟨_,Z,A.a,A.dx,_,Z,hh.h.oa,Z,⟨⟨0,ρ,A,st,"aboarded",Z,hh,late,by rw[es];exact ho,by rw[es];omega,λρ7 A7 H7 yT ea7 F7=>?_⟩⟩⟩;have Ke:=hb.other F7 hh.g (by decide);refine⟨_,Z,B.m,_,Z,cE.k (k:=Sum.inr "owners") Ke.om,.inl ⟨Z,_,az.of Ke.oo⟩,B.lo,_,_,Z,Z,Ke.oo,by rw[aD];exact dU (by omega),?_⟩;rw[show b.own.map V.str++[V.str "aboarded"]=(b.own++[("aboarded":Str)]).map V.str from by rw[bw];rfl];have Ov:=Ke.set_own yT.g (b.own++[("aboarded":Str)]);have G8:=yT.g.wr (a:=B.lo) (o:=.lst ((b.own++[("aboarded":Str)]).map V.str)) rfl;have F8:Fr 1 ρ7 H7 ρ7 (upd H7 B.lo (.lst ((b.own++[("aboarded":Str)]).map V.str))):=Fr.write Ke.co;have Ka:=yT.other F8 G8 (by decide);show UB _ _ _ (upd H7 B.lo (.lst ((b.own++[("aboarded":Str)]).map V.str)));generalize upd H7 B.lo (.lst ((b.own++[("aboarded":Str)]).map V.str))=H8 at *;refine⟨_,Z,B.m,_,Z,cE.k (k:=Sum.inr "parts") Ov.om,B.lp,Z,⟨_,az.of Ov.op⟩,?_⟩;refine jC (K:=K) (xs:=B.qs.map λq=>V.ref q.1) (λi σ H'=>∃s3,σ=[some v0,some (.ref A.a),some (.ref B.m),s3]/\Gh ρ7 H'/\aV 1 ρ7 B H' { b with own:=b.own++[("aboarded":Str)],ah:=J8 i b.ah }/\Fr 1 ρ7 H8 ρ7 H') ⟨_,Z,G8,Ov,Fr.refl⟩ (λi σ H' _ hp=>by obtain⟨_,_,_,h,_⟩:=hp;exact az.of h.op) ?_ ?_
 .rintro i y σ H9 hy ⟨s7,rfl,G9,yR,F9⟩;rw[bH]at hy;obtain⟨qq,eq,rfl⟩:=mH.mp hy;have hib:i<b.ah.length:=by rw[<-hb.ql];exact(dZ.mp eq).1
  obtain⟨p,ei⟩:∃p,b.ah[i]?=some p:=⟨_,aY hib⟩
  have ei':=Wn ei;obtain⟨r1,r2,c1,c2⟩:=yR.pt i p qq ei' eq;have tl:=gd.fG.tl p (bK ei);refine⟨_,Z,qq.1,_,_,_,Z,Z,az.of r1,aO (j:=4) rfl,.inl ⟨Z,_,az.of r2⟩,qq.2,_,_,Z,Z,r2,by rw[aD,tl];exact dU (by omega),?_⟩;rw[show p.tops.map V.int++[V.int 0]=(p.tops++[0]).map V.int from by rw[bw];rfl];have s:=yR.YV G9 (p.tops++[0]) ei' eq (by show((J8 i b.ah).map _).Nodup;rw[Wo];exact gd.fG.nd);have es:=RI ei;exact⟨_,Z,G9.wr rfl,by rw[<-es];exact s,F9.trans (Fr.write c2)⟩
 rintro σ H9 ⟨s7,rfl,G9,yR,F9⟩;rw[aD,hb.ql,abt]at yR;have yR:aV 1 ρ7 B H9 (Gk b "aboarded"):=yR;have RQ:=Ka.other F9 G9 (by decide);exact q ρ7 A7 B H9 (gC st "aboarded") (Gk b "aboarded") RQ yR (abp gd hh.wf late (by omega)) ea7 rfl (λo ho=>by
  rcases fk.mp (show o∈b.own++[("aboarded":Str)]from ho)with z|z
  .exact .inl z
  .exact .inr (eE.mp z)) (by show(b.own++[("aboarded":Str)]).length<=_;rw[c8];exact aN _) rfl rfl rfl ((F7.out.trans F8.out).trans F9.out)
abbrev rN:Stmt:=top 64
abbrev T8:Da Str:=["_law_script"]
abbrev agz:Da Str:=T8.append ["_law_owners","_law_names_here","_law_hold","_law_model_here","_law_at_here","_law_found","_law_one"]
def ua:aJ agz T8 (ay rN):=dh
theorem ae9{T:TC}(F:At K mg "law" rN f fd)(bf:Dn P w K mg base 1 "_law_draw" gw (oH K))(rO:Dn P w K mg base 2 "_law_names" qY (HN K))(rP:Dn P w K mg base 6 "_law_tells" rj (vq 2 T K))(xj:Dn P w K mg base 5 "_law_begin" rm (Rl T K))(xm:Dn P w K mg base 1 "_law_model" q_ (Rr K))(ym:Dn P w K mg base 6 "_law_prep" tQ (RK T K))(yo:Dn P w K mg base 3 "_law_next" tS (Ww K))(p9:Dn P w K mg base 4 "_law_sign_more" lY (Gn T K))(uU:Dn P w K mg base 8 "_law_single" pF (Nt T Ae K))(jT:Mn P w K mg base 1 T.hold "landed" mh (BI T))(bq:mg "range"=none):je P w K mg base uV 9 f fd T8 (Lz K):=by
 refine F.fn.ok ua (λvs H Q E h=>?_) (λ_ _ _ _ H _ Q E hr h=>?_)
 . obtain⟨a,ns,rfl,_⟩:=h
   rfl
 obtain⟨a,ns,rfl,hS,h63,q⟩:=h
 refine⟨_,(@cS.h _ _ _ (aj (aX (i:=1) ua.nd (bh rO hr (af (qv 0) (af ao (af (aH cW ao (bh bf hr (af (qv 0) (af ao (af ao (af ao ai)))))) ai)))))
  (aj (aX (i:=2) ua.nd (bh rO hr (af (qv 0) (af ao (af ao ai)))))
  (aj (aX (i:=3) ua.nd (bh xj hr (af (qv 1) ai)))
  (aj (aX (i:=4) ua.nd (bh xm hr (af (qv 1) ai)))
  (aj (cg (bh ym hr (af (qv 0) (af (qv 3) (af (qv 4) (af (qv 2) ai))))))
  (aj (dP fC rfl (ef (by rfl) bq (af (aH cW ao (bh bf hr (af (qv 0) (af ao (af ao (af ao ai)))))) ai)) (aL (i:=5) ua.nd) (aj (bZ (d9 (dX (bh uU hr (af (qv 0) (af (aH cW ao (qv 5)) (af (qv 3) (af (qv 4) (af (bh yo hr (af (qv 0) (af (aH cW ao (qv 5)) (af (qv 4) ai)))) ai)))))))) (aq (aM gc)) aQ)
  (aj (jj (gK (bW.pt (v_ (aP gQ (qv 5) ao (aZ _)) (vt (aP gQ (bh bf hr (af (qv 0) (af ao (af ao (af ao ai))))) ao (aZ _)))))) (aq (cg (bh p9 hr (af (qv 0) (af (qv 3) (af (qv 4) ai)))))) aQ)
  (aj (bZ (d9 (dX (bh rP hr (af (qv 3) (af (qv 4) ai))))) (aq (aM gc)) aQ)
  (aj (aX (i:=6) ua.nd (sj jT hr (qv 3)))
  (aj (dP fC rfl (cY K (qv 6)) (aL (i:=7) ua.nd) (aq (cg (V7 mG PySem.F.slot_list_clear PySem.F.type_list_clear Me (aG (bM K) (qv 7) ao)))))
  (aq (cg (V7 mG PySem.F.slot_list_clear PySem.F.type_list_clear Me (qv 6))))))))))
  (aq (aM (bh rP hr (af (qv 3) (af (qv 4) ai)))))))))))),?_⟩
 refine⟨_,Z,_,Z,dJ hS h63 (by decide) (by decide) (by decide) (by decide) λod _ o0 o1=>⟨_,_,Z,Z,?_⟩⟩
 obtain⟨no,hno⟩:∃no:Nat,1+od=(no:Int):=⟨(1+od).toNat,by omega⟩
 refine Jy hno hS h63 (by decide) (by omega) λzo nso H1 g1 hzo _ amS ae_ afa=>?_
 have yW:=g1.seq hS
 refine⟨_,Z,Jy (show(6:Int)=((6:Nat):Int)from rfl) yW h63 (by decide) (by decide) λzn nsn H2 g2 hzn _ amT afc afd=>?_⟩
 have hS2:=g2.seq yW
 have Ow:=g2 _ _ hzo
 rw[aaZ]at Ow hzn
 have dY:=Rm nso
 have hnl:=Rm nsn
 have zT:=JH ae_
 have T9:=VC afa
 have WM:=JH afc
 have ajE:=VC afd
 generalize FG nso=own at *
 generalize FG nsn=nms at *
 clear ae_ afa afc afd hzo
 refine⟨_,Z,⟨⟨zo,own,0,λ_=>none,Z,az.of Ow,Z,zT,λo ho=>(T9 o ho).isNm,by omega,(λb c e=>by cases e),λρ3 A3 H3 mY F3=>?_⟩⟩⟩
 have o3:aE (out (λ_=>none) H2) (out ρ3 H3):=F3.out
 have Rz:=mY
 refine⟨_,Z,⟨⟨zo,own,1,ρ3,Z,F3.seq (az.of Ow) rfl,mY.g,by omega,λρ4 B4 H4 G4 yX k4=>?_⟩⟩⟩
 have F4:Fr 1 ρ3 H3 ρ4 H4:=λb o e _=>k4 b o e
 have mZ:=mY.other F4 G4 (by decide)
 have o4:=o3.trans F4.out
 have fS:=(yH.of hS2).go o4
 have fN:=(yH.of (az.of (K:=K) hzn)).go o4
 have hS4:=fS _ _ (aE.refl _)
 have ajF:(own.foldl gC hs0).kn=0:=Na own hs0
 obtain⟨gd4,en4⟩:=gd0 (own:=own) (by omega) (by omega) (λo ho=>(T9 o ho).isNm)
 generalize own.foldl gC hs0=st4 at *
 generalize WH:A3.a=x
 generalize WI:B4.m=mm
 have fO:=(yH.of (az.of (K:=K) Ow)).go o4
 have owS:∀o∈own,PyData.strOk o=true:=λo ho=>(T9 o ho).strOk
 clear Rz mY o3 F4 k4 o4 F3 hS4 hS2 yW Ow hzn
 refine⟨_,Z,_,Z,_,Z,_,Z,⟨⟨0,1,ρ4,A3,B4,st4,_,a,zn,ns,nms,by rw[WH,WI];rfl,by decide,mZ,yX,gd4,fS,h63,fN,WM,ajE,T9,by omega,en4,Z,Z,λρ5 A5 B5 H5 A0 b5 wD GF gd5 GG AF WR B7 ek5 ajG o5=>?_⟩⟩⟩
 rw[WH]at GG
 rw[WI]at AF
 have WR:b5.own=own:=WR
 have fS5:=fS.go o5
 have fN5:=fN.go o5
 have fO5:=fO.go o5
 rw[ajF]at ek5
 clear mZ yX gd4 fS fN fO o5 WH WI
 refine⟨_,Z,dJ (fS5 _ _ (aE.refl _)) h63 (by decide) (by decide) (by decide) (by decide) λcd _ c0 c1=>⟨_,_,Z,Z,?_⟩⟩
 refine⟨_,Z,by omega,by omega,?_⟩
 clear fN5 fO5
 have kn5:b5.dG≠[] :=λe=>by have:=(gd5.sub wD.wf (uZ ajG)).1;rw[e]at this;cases this
 refine gh (lo:=0) (n:=(1+cd).toNat) (λi σ H'=>Y3 T K a x mm ns i (40000*i) H'/\∃s5 s6 s7,σ=[some (.ref a),some (.ref zo),some (.ref zn),some (.ref x),some (.ref mm),s5,s6,s7])
  ⟨⟨ρ5,A5,B5,A0,b5,1,wD,GF,gd5,by omega,λ_=>aN _,GG,AF,by rw[WR];exact owS,by rw[WR];omega,by omega,by rw[B7];exact aN _,kn5,fS5⟩,_,_,_,Z⟩ ?_ ?_
 . clear wD GF gd5 fS5 GG AF WR kn5
   rintro i σ H6 hi ⟨⟨ρ6,A6,B6,Z_,b6,c,xP,BZ,R3,hc1,hc2,GH,Kf,ow6,ol6,ek6,al6,WS,fS6⟩,s5,s6,s7,rfl⟩
   have e0:(0:Int)+(i:Int)=((i:Nat):Int):=by omega
   rw[e0]
   have hS6:=fS6 _ _ (aE.refl _)
   refine⟨_,Z,_,Z,_,_,Z,Z,_,Z,_,Z,_,Z,_,Z,_,_,Z,Z,_,Z,⟨⟨a,ns,11+(i:Int),1,c,ρ6,B6,b6,Z_,by rw[Kf];rfl,hS6,h63,by omega,by omega,BZ,R3,by omega,xP.wf,WS,λz d H7 g7 GA okd=>?_⟩⟩⟩
   have yT:=xP.mono g7
   have Ke:=BZ.mono g7
   have ad:=abv R3 (by omega) xP.wf (by omega) (by omega) okd
   refine⟨⟨0,1,c,ρ6,A6,B6,Z_,b6,_,_,z,d,by rw[GH,Kf];rfl,by decide,GA,yT,Ke,R3,by omega,ad,okd.2,λρ8 A8 B8 H8 st8 b8 Ka Ov gd8 ea8 em8 R4 ek8 dn8 o8=>⟨_,Z,cA ?_⟩⟩⟩
   have o8:=(jf g7).trans o8
   have fS8:=fS6.go o8
   obtain⟨al8,kn8⟩:b8.dB.length<=i+1/\b8.dG≠[] :=by
    rcases dn8 with e|⟨_,e⟩
    .rw [e];exact⟨by omega,WS⟩
    .obtain ⟨d1,d2⟩:=ajs (b:=b6) okd;rw[e,d2];exact⟨by omega,WS⟩
   clear yT Ke xP BZ R3 fS6 dn8 ad GA g7 WS o8
   refine⟨λσ' H'=>Y3 T K a x mm ns (i+1) (40000*i+100) H'/\σ'=[some (.ref a),some (.ref zo),some (.ref zn),some (.ref x),some (.ref mm),some (.int (i:Int)),s6,s7],?_,?_⟩
   . have no:Y3 T K a x mm ns (i+1) (40000*i+100) H8:=⟨ρ8,A8,B8,st8,b8,c+1,Ka,Ov,gd8,by omega,λ_=>by have:=hc2 (by omega);omega,ea8.trans GH,em8.trans Kf,by rw[R4];exact ow6,by rw[R4];omega,by omega,al8,kn8,fS8⟩
     refine⟨decide (i=1/\Jm.draw ns 0 4 2=1),⟨_,Z,Z,_,Z,dg (λc=>?_) (λc=>?_)⟩,dg (λcc=>?_) (λ_=>⟨no,Z⟩)⟩
     . have c':i=1:=by have:=V.int.inj (dH c);omega
       refine⟨_,Z,dJ (fS8 _ _ (aE.refl _)) h63 (by decide) (by decide) (by decide) (by decide) λv hv _ _=>⟨Z,_,Z,?_,Z⟩⟩
       rw[xr,decide_eq_true_iff,decide_eq_true_iff]
       exact⟨λh=>⟨c',by rw[<-hv];exact V.int.inj h⟩,λh=>by rw[hv,h.2]⟩
     . exact⟨(d7 λh=>kF (gX.mpr c) (by rw[h.1];rfl)).symm,Z⟩
     . have i1:i=1:=(dH cc).1
       have hc3:=hc2 (by omega)
       refine⟨_,Z,_,Z,_,Z,⟨⟨c+1,ρ8,A8,B8,st8,b8,_,by rw[ea8,GH,em8,Kf];rfl,Ka,Ov,gd8,by omega,by rw[R4];omega,λρ9 A9 B9 H9 st9 b9 RQ yR gd9 B7 em9 ow9 ol9 ek9 al9 kn9 o9=>?_⟩⟩⟩
       refine⟨⟨ρ9,A9,B9,st9,b9,c+2,RQ,yR,gd9,by omega,λh=>by omega,B7.trans (ea8.trans GH),em9.trans (em8.trans Kf),λo ho=>?_,by rw[R4]at ol9;omega,by omega,by rw[al9];exact al8,by rw[kn9];exact kn8,fS8.go o9⟩,Z⟩
       rcases ow9 o ho with h|h
       . rw[R4]at h;exact ow6 o h
       . rw[h];exact Ia (by decide +kernel)
   clear Ka Ov gd8 fS8 al8 kn8 ea8 em8 R4 GH Kf
   rintro σ HB ⟨⟨ρB,AB,BB,stB,bB,cB,WN,hbB,gdB,hB1,hB2,eaB,emB,owB,olB,ekB,alB,knB,fSB⟩,rfl⟩
   refine⟨_,Z,_,Z,⟨⟨0,1,ρB,AB,BB,stB,bB,cB,by rw[eaB,emB];rfl,by decide,WN,hbB,gdB,by omega,owB,by omega,λρC AC HC k DJ hk WQ WO oC=>⟨_,Z,cA ?_⟩⟩⟩⟩
   have Za:=WO.trans eaB
   refine⟨_,Z,x,AC.dx,_,Z,by rw[<-Za];exact DJ.h.oa,Z,⟨⟨0,ρC,AC,_,by rw[Za];rfl,DJ,λr ws HD gD RW hrD LD fr=>?_⟩⟩⟩
   have C0:=aei gD hrD LD fr
   refine⟨_,Z,r,Z,⟨ws,az.of hrD⟩,?_⟩
   refine jC (K:=K) (xs:=ws) (λj σ H'=>Wy HC H' r ws/\∃s7,σ=[some (.ref a),some (.ref zo),some (.ref zn),some (.ref x),some (.ref mm),some (.int (i:Int)),some (.ref r),s7]) ⟨C0,_,Z⟩ (λj σ H' _ hp=>az.of hp.1.2.1) ?_ ?_
   . rintro j w σ HE hw ⟨CE,s7',rfl⟩
     obtain⟨t,u1,u2,u3,l,ys,rfl,k1,k2,k3,k4⟩:=CE.2.2 w (bK hw)
     refine⟨_,Z,t,_,_,_,Z,Z,cV.of k1,aO (j:=3) rfl,.inl ⟨Z,_,az.of k4⟩,l,_,Z,Z,k4,?_⟩
     exact⟨CE.step k2 k3 k4,_,Z⟩
   rintro σ HE ⟨CE,s7',rfl⟩
   refine⟨_,Z,.inl ⟨Z,_,az.of CE.2.1⟩,r,_,Z,Z,CE.2.1,?_⟩
   have gE:aE HC (upd HE r (.lst [])):=CE.1.bQ RW _
   exact⟨⟨ρC,AC,BB,_,bB,cB,DJ.mono gE,WQ.mono gE,ZL gdB k,hB1,hB2,Za,emB,owB,olB,by show k<=_;omega,alB,knB,(fSB.go oC).go (jf gE)⟩,_,_,_,Z⟩
 rintro σ H6 ⟨⟨ρ6,A6,B6,Z_,b6,c,xP,BZ,R3,hc1,hc2,GH,Kf,ow6,ol6,ek6,al6,WS,fS6⟩,s5,s6,s7,rfl⟩
 exact⟨_,Z,_,Z,⟨⟨0,1,ρ6,A6,B6,Z_,b6,c,by rw[GH,Kf];rfl,by decide,xP,BZ,R3,by omega,ow6,by omega,λρC AC HC k DJ hk WQ WO oC=>q HC⟩⟩⟩
end
def all_mk{l:PySem.W.OpenLaw}{w:World}{K:Fg}{h:Heap}{mg:SO}{fa:Addr}(X:K.In h)(G:h.Ns mainGlobals mg)(hfa:mg "law"=some (.ref fa)){f:Addr}{od an:Option Addr}{sl:Array (Option Value)}{oc kV dc pm cd ct:Value}(a:PySem.W.nsIn K mainGlobals "law"=some (some (.ref f)))(l1:K.lookup f=some ⟨oc,od,.func (PySem.W.fnOf "law" "law" (fh rN) (cU rN) (ay rN) .none kV dc pm an cd ct),sl⟩)(c:PySem.W.codeIn K cd "law"=true)(k:PySem.W.keepIn K (.ref f)=true)(GQ:cR K "common_factor" pO)(WT:cR K "made_of" Af)(WU:cR K "is_name" Ag)(IS:cR K "check_amount" qO)(Ox:cR K "check_loss" uy)(Oz:cR K "amounts_of" uz)(GR:cR K "factor_of_all" pP)(P0:cR K "_law_draw" wJ)(P_:cR K "_law_name" wK)(OA:cR K "_law_names" uK)(Qa:cR K "_law_much" wL)(T_:cR K "_law_int" yf)(OB:cR K "_law_least" uL)(WV:cR K "_law_is" Ak)(Ez:cR K "_law_part_list" oq)(C3:cR K "_law_share_list" nH)(OC:cR K "_law_model" uM)(Qc:cR K "_law_seat" wN)(GS:cR K "_law_new_part" pU)(Cc:cR K "_law_tells_parts" mL)(AI:cR K "_law_tells_landed" lW)(OD:cR K "_law_tells" uN)(OE:cR K "_law_begin" uP)(Ua:cR K "_law_hot" yg)(WW:cR K "_law_at" Am)(Qd:cR K "_law_rows" wR)(Qe:cR K "_law_bear" wU)(C4:cR K "_law_model_cast" nK)(OF:cR K "_law_loads" uR)(Qf:cR K "_law_prep" wV)(Qg:cR K "_law_flat" wX)(GU:cR K "_law_due_cast" pW)(GV:cR K "_law_due_part" pX)(Ub:cR K "_law_due" yk)(IT:cR K "_law_hold_do" rF)(OG:cR K "_law_tried" uT)(EA:cR K "_law_model_one" oz)(GW:cR K "_law_model_do" pY)(KW:cR K "_law_single" sU)(C5:cR K "_law_other_word" nL)(Qh:cR K "_law_next" xh)(EB:cR K "_law_sign_more" oF)(agA:PySem.W.nsIn K mainGlobals "len"=some none)(aby:PySem.W.nsIn K mainGlobals "range"=some none)(agB:PySem.W.nsIn K mainGlobals "sum"=some none)(afk:PySem.W.nsIn K mainGlobals "list"=some none)(agC:PySem.W.nsIn K mainGlobals "zip"=some none)(agD:PySem.W.nsIn K mainGlobals "all"=some none)(agE:PySem.W.nsIn K mainGlobals "int"=some none)(afl:PySem.W.nsIn K mainGlobals "bool"=some none)(agF:PySem.W.nsIn K mainGlobals "str"=some none)(abz:PySem.W.nsIn K mainGlobals "tuple"=some none)(agG:PySem.W.nsIn K mainGlobals "abs"=some none)(OH:PySem.W.nsIn K mainGlobals "isinstance"=some none)(agH:PySem.W.nsIn K mainGlobals "min"=some none)(OI:PySem.W.nsIn K mainGlobals "ValueError"=some none){Uc:Tok}(WX:PySem.W.nsIn K mainGlobals "LETTERS"=some (some (.str "abcdefghijklmnopqrstuvwxyz" Uc))){cO:Addr}(abA:PySem.W.nsIn K mainGlobals "Hold"=some (some (.ref cO)))(abB:PySem.W.plainGet K cO Str.empty=true)(abC:PySem.W.hasDictIn K cO=true)(abD:PySem.W.plainOver K cO=true)(abE:PySem.W.findIn K (.ref cO) "__setattr__"=some (some (.builtin "object.__setattr__")))(abF:PySem.W.makesIn K cO=true)(abG:PySem.W.keepIn K (.ref cO)=true)(Qi:eU K cO "__init__" "Hold.__init__" wF)(GX:eU K cO "place_of" "Hold.place_of" pR)(IU:eU K cO "part_of" "Hold.part_of" qR)(EC:eU K cO "check_new" "Hold.check_new" oj)(KY:eU K cO "roster" "Hold.roster" sL)(OJ:eU K cO "parts" "Hold.parts" uB)(OL:eU K cO "whole" "Hold.whole" uC)(As:eU K cO "beyond_common" "Hold.beyond_common" lC)(IV:eU K cO "tops_of" "Hold.tops_of" qT)(Qj:eU K cO "stow" "Hold.stow" wu)(Qk:eU K cO "sign" "Hold.sign" wA)(Ql:eU K cO "load" "Hold.load" wB)(KZ:eU K cO "shares" "Hold.shares" sP)(K0:eU K cO "landed" "Hold.landed" sS)(GY:eU K cO "given_up" "Hold.given_up" pT)(K1:eU K cO "lessen" "Hold.lessen" sM)(OM:eU K cO "blend" "Hold.blend" uD)(Qm:eU K cO "cast" "Hold.cast" wG)(ON:eU K cO "award" "Hold.award" uJ)(Qn:eU K cO "land" "Hold.land" wH)(K2:PySem.W.findIn K (.ref cO) "places"=some none)(K3:PySem.W.findIn K (.ref cO) "aboard"=some none)(K4:PySem.W.findIn K (.ref cO) "ashore"=some none)(OO:PySem.W.findIn K (.ref cO) "names"=some none)(K5:PySem.W.findIn K (.ref cO) "bottom"=some none)(K6:PySem.W.findIn K (.ref cO) "common"=some none)(K7:PySem.W.findIn K (.ref cO) "purses"=some none){iu:Addr}(abH:PySem.W.nsIn K mainGlobals "Part"=some (some (.ref iu)))(abI:PySem.W.plainGet K iu Str.empty=true)(abJ:PySem.W.hasDictIn K iu=true)(abL:PySem.W.plainOver K iu=true)(abM:PySem.W.findIn K (.ref iu) "__setattr__"=some (some (.builtin "object.__setattr__")))(abN:PySem.W.makesIn K iu=true)(abO:PySem.W.keepIn K (.ref iu)=true)(Qo:eU K iu "__init__" "Part.__init__" wm)(Qp:PySem.W.findIn K (.ref iu) "name"=some none)(OP:PySem.W.findIn K (.ref iu) "owner"=some none)(OQ:PySem.W.findIn K (.ref iu) "worth"=some none)(K8:PySem.W.findIn K (.ref iu) "weight"=some none)(OR:PySem.W.findIn K (.ref iu) "scale"=some none)(Ud:PySem.W.findIn K (.ref iu) "row"=some none){eL:Addr}(WY:PySem.W.nsIn K mainGlobals "Bottom"=some (some (.ref eL)))(WZ:PySem.W.plainGet K eL Str.empty=true)(W0:PySem.W.hasDictIn K eL=true)(W6:PySem.W.plainOver K eL=true)(W7:PySem.W.findIn K (.ref eL) "__setattr__"=some (some (.builtin "object.__setattr__")))(W8:PySem.W.makesIn K eL=true)(W9:PySem.W.keepIn K (.ref eL)=true)(K9:eU K eL "__init__" "Bottom.__init__" sy)(K_:eU K eL "over" "Bottom.over" sO)(IW:eU K eL "share" "Bottom.share" qW)(La:eU K eL "grow" "Bottom.grow" sH)(IZ:PySem.W.findIn K (.ref eL) "steps"=some none)(ED:PySem.W.findIn K (.ref eL) "product"=some none)(I0:PySem.W.findIn K (.ref eL) "known"=some none){fW iK eZ fX fm dF e_ ff gG fq cT:Addr}(Ue:PySem.W.nsIn K mainGlobals "BadName"=some (some (.ref fW)))(Zb:PySem.W.nsIn K mainGlobals "Twice"=some (some (.ref iK)))(Ug:PySem.W.nsIn K mainGlobals "NoOwner"=some (some (.ref eZ)))(W_:PySem.W.nsIn K mainGlobals "NoPart"=some (some (.ref fX)))(Qq:PySem.W.nsIn K mainGlobals "NoVoyage"=some (some (.ref fm)))(OS:PySem.W.nsIn K mainGlobals "BadNumber"=some (some (.ref dF)))(Uh:PySem.W.nsIn K mainGlobals "TooMuch"=some (some (.ref e_)))(Ui:PySem.W.nsIn K mainGlobals "BadRows"=some (some (.ref ff)))(Xa:PySem.W.nsIn K mainGlobals "NoDeed"=some (some (.ref gG)))(Qs:PySem.W.nsIn K mainGlobals "BadPaper"=some (some (.ref fq)))(EE:PySem.W.nsIn K mainGlobals "JettisonError"=some (some (.ref cT)))(Uj:Told K (Ec.mk fW iK eZ fX fm dF e_ ff gG fq cT) eZ 2)(Uk:PySem.W.excIn K eZ [.type "ValueError",.type "Exception",.type "BaseException",.type "object"] "ValueError.__new__"=true)(Xb:Told K (Ec.mk fW iK eZ fX fm dF e_ ff gG fq cT) fX 3)(Xc:PySem.W.excIn K fX [.type "ValueError",.type "Exception",.type "BaseException",.type "object"] "ValueError.__new__"=true)(OT:Told K (Ec.mk fW iK eZ fX fm dF e_ ff gG fq cT) dF 5)(OU:PySem.W.excIn K dF [.type "ValueError",.type "Exception",.type "BaseException",.type "object"] "ValueError.__new__"=true)(Ul:Told K (Ec.mk fW iK eZ fX fm dF e_ ff gG fq cT) e_ 6)(Um:PySem.W.excIn K e_ [.type "ValueError",.type "Exception",.type "BaseException",.type "object"] "ValueError.__new__"=true)(Uo:Told K (Ec.mk fW iK eZ fX fm dF e_ ff gG fq cT) ff 7)(Up:PySem.W.excIn K ff [.type "ValueError",.type "Exception",.type "BaseException",.type "object"] "ValueError.__new__"=true)
  :∃fd:FuncData,(∀(s:Shared)(v:Value),BindsTo s fd ⟨[v],[]⟩ [("_law_script",v)])/\∀base:Heap,K.In base->base.Ns mainGlobals mg->je l.prog w K mg base uV 9 fa fd ["_law_script"] (Lz K):=by
 have e:=hfa.symm.trans (lK X G a)
 cases e
 have agI:=Zt (st:=rN) X G a l1 c k
 have xV:p_ K eL:=⟨WZ,W0,W6,W7⟩
 have fK:p_ K cO:=⟨abB,abC,abD,abE⟩
 obtain⟨_,_,GZ⟩:=GQ.at X G
 obtain⟨_,_,Xd⟩:=WT.at X G
 obtain⟨_,_,Xe⟩:=WU.at X G
 obtain⟨_,_,I_⟩:=IS.at X G
 obtain⟨_,_,OV⟩:=Ox.at X G
 obtain⟨_,_,OW⟩:=Oz.at X G
 obtain⟨_,_,G0⟩:=GR.at X G
 obtain⟨_,_,Qt⟩:=P0.at X G
 obtain⟨_,_,Qu⟩:=P_.at X G
 obtain⟨_,_,OX⟩:=OA.at X G
 obtain⟨_,_,Qv⟩:=Qa.at X G
 obtain⟨_,_,Uq⟩:=T_.at X G
 obtain⟨_,_,OY⟩:=OB.at X G
 obtain⟨_,_,Xf⟩:=WV.at X G
 obtain⟨_,_,EF⟩:=Ez.at X G
 obtain⟨_,_,C6⟩:=C3.at X G
 obtain⟨_,_,OZ⟩:=OC.at X G
 obtain⟨_,_,Qw⟩:=Qc.at X G
 obtain⟨_,_,G1⟩:=GS.at X G
 obtain⟨_,_,Cd⟩:=Cc.at X G
 obtain⟨_,_,AJ⟩:=AI.at X G
 obtain⟨_,_,O0⟩:=OD.at X G
 obtain⟨_,_,O1⟩:=OE.at X G
 obtain⟨_,_,Ur⟩:=Ua.at X G
 obtain⟨_,_,Xg⟩:=WW.at X G
 obtain⟨_,_,Qx⟩:=Qd.at X G
 obtain⟨_,_,Qy⟩:=Qe.at X G
 obtain⟨_,_,C7⟩:=C4.at X G
 obtain⟨_,_,O2⟩:=OF.at X G
 obtain⟨_,_,Qz⟩:=Qf.at X G
 obtain⟨_,_,QA⟩:=Qg.at X G
 obtain⟨_,_,G_⟩:=GU.at X G
 obtain⟨_,_,Hf⟩:=GV.at X G
 obtain⟨_,_,Us⟩:=Ub.at X G
 obtain⟨_,_,Jb⟩:=IT.at X G
 obtain⟨_,_,O3⟩:=OG.at X G
 obtain⟨_,_,EG⟩:=EA.at X G
 obtain⟨_,_,Hg⟩:=GW.at X G
 obtain⟨_,_,Lb⟩:=KW.at X G
 obtain⟨_,_,C8⟩:=C5.at X G
 obtain⟨_,_,QB⟩:=Qh.at X G
 obtain⟨_,_,EH⟩:=EB.at X G
 have bg:=qo X G agA
 have bq:=qo X G aby
 have fE:=qo X G agB
 have dm:=qo X G afk
 have jr:=qo X G agC
 have TL:=qo X G agD
 have CN:=qo X G agE
 have Ob:=qo X G afl
 have qZ:=qo X G agF
 have iI:=qo X G abz
 have TU:=qo X G agG
 have aS:=qo X G OH
 have T5:=qo X G agH
 have w6:=qo X G OI
 have BL:=lK X G WX
 obtain⟨_,_,QC⟩:=Qi.made X G abA abF abG
 obtain⟨_,_,Hh⟩:=GX.at fK
 obtain⟨_,_,Jc⟩:=IU.at fK
 obtain⟨_,_,EI⟩:=EC.at fK
 obtain⟨_,_,Lc⟩:=KY.at fK
 obtain⟨_,_,O4⟩:=OJ.at fK
 obtain⟨_,_,O5⟩:=OL.at fK
 obtain⟨_,_,Au⟩:=As.at fK
 obtain⟨_,_,Jd⟩:=IV.at fK
 obtain⟨_,_,QD⟩:=Qj.at fK
 obtain⟨_,_,QE⟩:=Qk.at fK
 obtain⟨_,_,QF⟩:=Ql.at fK
 obtain⟨_,_,Ld⟩:=KZ.at fK
 obtain⟨_,_,Le⟩:=K0.at fK
 obtain⟨_,_,Hi⟩:=GY.at fK
 obtain⟨_,_,Lf⟩:=K1.at fK
 obtain⟨_,_,O6⟩:=OM.at fK
 obtain⟨_,_,QG⟩:=Qm.at fK
 obtain⟨_,_,O7⟩:=ON.at fK
 obtain⟨_,_,QH⟩:=Qn.at fK
 obtain⟨_,_,QI⟩:=Qo.made X G abH abN abO
 obtain⟨_,_,Lg⟩:=K9.made X G WY W8 W9
 obtain⟨_,_,Lh⟩:=K_.at xV
 obtain⟨_,_,Je⟩:=IW.at xV
 obtain⟨_,_,Li⟩:=La.at xV
 have TX:Txt K ⟨cO,iu,eL⟩:=⟨fK,⟨abI,abJ,abL,abM⟩,xV,K2,K3,K4,OO,K5,K6,K7,Qp,OP,OQ,K8,OR,Ud,IZ,ED,I0⟩
 have Ca:=lK X G Ue
 have IP:=lK X G Zb
 have qj:=lK X G Ug
 have sJ:=lK X G W_
 have An:=lK X G Qq
 have mC:=lK X G OS
 have iz:=lK X G Uh
 have nD:=lK X G Ui
 have Eu:=lK X G Xa
 have Ao:=lK X G Qs
 have rK:=lK X G EE
 have Ah:=jH.of Uk
 have BN:=jH.of Xc
 have wk:=jH.of OU
 have jn:=jH.of Um
 have vg:=jH.of Up
 refine⟨PySem.W.fnOf "law" "law" (fh rN) (cU rN) (ay rN) .none kV dc pm an cd ct,λs v=> .of_eq rfl,λbase _ _=>?_⟩
 have i9:=Eg (P:=l.prog) (w:=w) (base:=base) (mg:=mg) GZ
 have BK:=TJ (P:=l.prog) (w:=w) (base:=base) (mg:=mg) Xd TL
 have qm:=TN Xe BK bg BL
 have i8:=Eh (P:=l.prog) (w:=w) (base:=base) (mg:=mg) (e:=⟨fW,iK,eZ,fX,fm,dF,e_,ff,gG,fq,cT⟩) I_ wk mC
 have uG:=Io OV i8 jn iz
 have uF:=Ip (P:=l.prog) (w:=w) (base:=base) (mg:=mg) (e:=⟨fW,iK,eZ,fX,fm,dF,e_,ff,gG,fq,cT⟩) OW bg vg nD
 have qU:=Ei G0 i9
 have En:=Ir (P:=l.prog) (w:=w) (base:=base) (mg:=mg) Lg TX
 have NX:=NQ (P:=l.prog) (w:=w) (base:=base) (mg:=mg) QI TX dm
 have Oi:=NZ QC TX En
 have uE:=Iw (P:=l.prog) (w:=w) (base:=base) (mg:=mg) Li TX
 have uI:=IF Lh TX i9
 have sR:=Gz Je TX uI
 have lT:=CP (P:=l.prog) (w:=w) (base:=base) (mg:=mg) (e:=⟨fW,iK,eZ,fX,fm,dF,e_,ff,gG,fq,cT⟩) Hh TX Ah qj
 have jb:=YJ lT
 have ie:=El (P:=l.prog) (w:=w) (base:=base) (mg:=mg) (e:=⟨fW,iK,eZ,fX,fm,dF,e_,ff,gG,fq,cT⟩) Jc TX BN sJ
 have sQ:=V6 ie
 have pS:=CS EI TX qm
 have uO:=IB (P:=l.prog) (w:=w) (base:=base) (mg:=mg) Lc TX dm
 have wQ:=Kv (P:=l.prog) (w:=w) (base:=base) (mg:=mg) O4 TX
 have ig:=Ky (P:=l.prog) (w:=w) (base:=base) (mg:=mg) O5 TX fE
 have lS:=yQ (P:=l.prog) (w:=w) (base:=base) (mg:=mg) Au TX jr
 have jA:=Gw (P:=l.prog) (w:=w) (base:=base) (mg:=mg) Jd TX jr
 have yd:=NU (P:=l.prog) (w:=w) (base:=base) (mg:=mg) QD TX
 have mE:=NV QE TX qm bg
 have yi:=NW QF TX pS jb lS yd NX bg
 have qV:=Eo (P:=l.prog) (w:=w) (base:=base) (mg:=mg) Hi TX fE jr
 have uH:=IE (P:=l.prog) (w:=w) (base:=base) (mg:=mg) Lf TX
 have lE:=KA O6 TX qU uE jr
 have rG:=KC (e:=⟨fW,iK,eZ,fX,fm,dF,e_,ff,gG,fq,cT⟩) QG TX uF uG ie ig lE qV uH fE jn iz
 have yj:=abw rG
 have yZ:=II Ld TX sQ jA sR jr
 have mj:=Wh yZ
 have jT:=IK (P:=l.prog) (w:=w) (base:=base) (mg:=mg) Le TX dm
 have Jf:=Wj jT
 have uS:=IL (e:=⟨fW,iK,eZ,fX,fm,dF,e_,ff,gG,fq,cT⟩) O7 TX lT i8 ig lE bg jn iz
 have wZ:=KI (e:=⟨fW,iK,eZ,fX,fm,dF,e_,ff,gG,fq,cT⟩) QH TX ie jb jA yZ jr
 have bf:=N8 (P:=l.prog) (w:=w) (base:=base) (mg:=mg) Qt bg bq
 have tO:=N9 (P:=l.prog) (w:=w) (base:=base) (mg:=mg) Qu bq
 have rO:=KJ OX bf tO bq
 have yh:=Oa Qv bf
 have fH:=PF (P:=l.prog) (w:=w) (base:=base) (mg:=mg) Uq aS CN Ob
 have lF:=KL (P:=l.prog) (w:=w) (base:=base) (mg:=mg) OY TU
 have BV:=TY Xf fH lF aS iI bg
 have pV:=CT EF fH aS dm iI qZ bq bg
 have iw:=BU C6 lF BV aS dm iI qZ bq bg
 have xm:=KO (P:=l.prog) (w:=w) (base:=base) (mg:=mg) OZ dm
 have mD:=Oe (P:=l.prog) (w:=w) (base:=base) (mg:=mg) Qw bg bq
 have rB:=Er G1 mD
 have nI:=AG Cd fH pV iw wQ ig mj fE
 have mP:=Al AJ fH iw Jf aS dm iI qZ bq bg
 have rP:=KP O0 nI mP uO aS dm
 have xj:=KQ (T:=⟨cO,iu,eL⟩) O1 Oi mE
 have Ar:=PL (P:=l.prog) (w:=w) (base:=base) (mg:=mg) Ur bq
 have vm:=T4 (P:=l.prog) (w:=w) (base:=base) (mg:=mg) Xg bg bq
 have ku:=ad_ vm
 have kJ:=Oj Qx bf bg bq dm fE T5
 have mF:=Ol (P:=l.prog) (w:=w) (base:=base) (mg:=mg) Qy bg bq fE
 have iy:=B0 C7 ku mF
 have wW:=KR O2 bf yh rB yi bg bq
 have ym:=Oo (T:=⟨cO,iu,eL⟩) Qz bf wW kJ iy yj bg dm
 have yl:=Oq (P:=l.prog) (w:=w) (base:=base) (mg:=mg) QA iI
 have rD:=Es G_ vm bg bq fE
 have rE:=Et Hf vm
 have Aq:=PY Us rD rE fE CN
 have rJ:=GO Jb rG uS wZ bg bq
 have afm:∀st d i,Ae st d->kI st d=some i->Told K (Ec.mk fW iK eZ fX fm dF e_ ff gG fq cT) ((Ec.mk fW iK eZ fX fm dF e_ ff gG fq cT).at i) i:=λst d i ha hr=>Wu Uj Xb OT Ul Uo ha hr
 have xg:=KS O3 rJ afm aS w6 Ca IP qj sJ An mC iz nD Eu Ao rK
 have pZ:=CW EG vm dm
 have rL:=Ex Hg pZ iy mF mD bg bq
 have uU:=IQ abu Wv Lb Aq xg Ar rL
 have oE:=Cb C8 bf bg
 have yo:=Ou QB bf kJ yl oE bg fE
 have p9:=CZ (T:=⟨cO,iu,eL⟩) EH mE
 exact ae9 (T:=⟨cO,iu,eL⟩) agI bf rO rP xj xm ym yo p9 uU jT bq
def walk{l:PySem.W.OpenLaw}{q:Program}{loose:Da Str}{XP:(Str->Option Value)->Heap->Prop}{YP:World->Heap->Prop}{d:DefRec}{K:Params->Fg}(hn:l.most=some 63)(hdf:d.params.defaults=[])(hY:∀(w:World) (h:Heap),YP w h->(K w.params).In h)(F:∀(w:World) (mg:SO) (fa:Addr) (h:Heap),(K w.params).In h->h.Ns mainGlobals mg->mg d.name=some (.ref fa)->
    ∃fd:FuncData,(∀(s:Shared) (u:Value),BindsTo s fd ⟨[u],[]⟩ [("_law_script",u)])/\∀base:Heap,(K w.params).In base->base.Ns mainGlobals mg->je l.prog w (K w.params) mg base uV 9 fa fd ["_law_script"] (Lz (K w.params))):
  PySem.W.WalkO q loose XP YP l.row.toRowW d [] (λf vs=>PySem.call f vs):=
 L2.aax (n:=63) (k:=9) (x:="_law_script") (CX:=λ_=>uV) (sp:=λw=>Lz (K w.params)) hn (by decide) hdf ⟨Z,by decide,by decide⟩ hY F (λ_ _ a ns hl _ hS=>⟨a,ns,Z,hS,hl,λ_=>rfl⟩) λ_ _ _ _ _ z=>z
end Law
end
namespace PySem.W
set_option genInjectivity false
structure Fast:Prop where(tw11076008739333685439 tw13162323028955541938 tw9123835160503737799 tw4810307931790357491 tw1864385410388109148 tw5924957817938436343 tw1812245838412334532 tw16549033733602671566 tw7262505415016976278 tw16544872338830574910 tw17052401469798609981 tw6841101710042612553 tw2989238430620120208 tw12516007327310267867 tw9225692481370880089 tw7394146313995342985 tw7221524921612954848 tw6281441118914130943 tw16968140928802729145 tw5335478977687782748 tw9518676996917810239 tw2952566230687151240 tw16735487829484088090 tw8846383924950529320 tw12590897139445601519 tw17133546897759359620 tw16742983734238074739 tw17582161366282011991 tw10061121944297890866 tw9719115368288294175 tw13024773877071109014 tw12151976631244323058 tw6508215514415404255 tw13451421041767622041 tw2873218890178011168 tw7699450791204095813 tw2641338280844391343 tw228682375383316965 tw7384366133212679272 tw14940066936386220866 tw12406209703908608824 tw4750832871511575411 tw4512938751724553262 tw2306568203492457600 tw8120923271876627291 tw16126863745790439344 tw5140809962203193869 tw7947187593953036188 tw4724696176915505335 tw9809744869824459945 tw8250596696370559753 tw1672450903864858582 tw12774091176662268816 tw7480009770973328009 tw1145933353884240550 tw5629516172902638048 tw7912294594639931950 tw7774161099285773264 tw3366372245007265113 tw13700449945175065033 tw11269263232471343014 tw11410683424664063462 tw5309949365506823218 tw17968524616580464530 tw6793047970678274269 tw770486485903945173 tw5797272287683883371 tw16639354361713739608 tw13172407458920289896 tw17552988617705095927 tw15785557092171526932 tw307981463425727058 tw15647343550380476140 tw13045879861317561461 tw16378510422554104242 tw18035029529123742360 tw5161314621881041613 tw13028708739042244169 tw7469758922052221995 tw8189935709941727913 tw14744284301653493631 tw12432164485038362262 tw17806749402921360561 tw7622050675845742151 tw521286474784213408 tw17998635349721491193 tw1147417889370892256 tw13138059059484548775 tw4266011355451873003 tw12096535210642219483 tw3333967380873545339 tw10903811171146181716 tw2255938947999851920 tw479110019232699503 tw5246294984685163644 tw13747516426544839889 tw7503138766430869411 tw10182081115000894056 tw3533046838868927581 tw9026102075179373247 tw11228938123711467554 tw11571244722088214602 tw7756838501120945741 tw4275322014603235037 tw4545057772339062257 tw5363271060916863539 tw5689691011637359666 tw13002994597046534610 tw15474098571940339664 tw14283099979928268832 tw11356094789855731153 tw11238257300970735416 tw553113504977153328 tw17436677599637455837 tw13944228992818707815 tw851203282568502233 tw13624906857223086796 tw16263307868198610432 tw10888910201559826398 tw4008727364813909393 tw6005472465679460895 tw8251109200915970704 tw14163393781410367966 tw1850822128155924234 tw9878774180036686588 tw8970391354159867193 tw18067282549508037525 tw17772143262779051335 tw931672633037270796 tw4654172399581406796 tw3428237762132358577 tw14455710880652360429 tw11419981144131621966 tw2676689952656635108 tw9139366982780453500 tw10068314736214377981 tw15949348284067278949 tw17448817525106003622 tw16147665105157431171 tw1390622685182025597 tw9363156619149489152 tw15541815331605153130 tw14297745849959550567 tw15811665048936235069 tw9667350382477715504 tw11259726066011054563 tw39292175106644167 tw16507433055633304271 tw10478863621870031888 tw1852928019393900946 tw16378741480163082995 tw11620522650804173376 tw16958479460622033815 tw9264934685070376921 tw3019434912514065362 tw12995026918122100160 tw16907756579788092370 tw245900593542010070 tw9455571906578150095 tw12741144542500382005 tw18124404120078335 tw7144573233743924976 tw4885308599655323598 tw9091217297661813864 tw2545917822708590497 tw8847664735028051325 tw7491369559808398980 tw11298936313887562001 tw18092120877043201457 tw14530434429905504249 tw11080880175179242951 tw5986544478705433066 tw4542222384337412506 tw9074945660639220045 tw917934624379645266 tw320279071363878879 tw17607318386625252974 tw591386302163184185 tw3662150945867607589 tw1699272700928030899 tw2047174165065177332 tw15504459174457477033 tw12529566676360326001 tw3971761289270373611 tw8950633226700264450 tw727953620563242601 tw1474498514549472263 tw456587428031417413 tw446216646194435431 tw3931774976323620337 tw5965713438234037869 tw300760435779775959 tw7038540102888236356 tw5688245148212416060 tw14198234213234087148 tw8976382321848597762 tw16690929378182903596 tw15590522429874408171 tw7418333397034477895 tw17239122683663166773 tw2312269739930285955 tw1771770080721439641 tw4496229216692766064 tw2372106458891112482 tw14152686590545656719 tw8463379874882778479 tw16113317851343647207 tw9787728034208288259 tw5823695112840946424 tw4004289512616205214 tw1402352851081671781 tw6603142859099313629 tw195194040752273001 tw7064889271313904250 tw4182940758477922666 tw2753189546213908882 tw1928427980269417274 tw11032934806827776646 tw10141370505540332870 tw15511643921593163023 tw12434956608490673173 tw1962226182410050049 tw11770650358893537860 tw12750961152067833938 tw7958065657398703754 tw2383507345107248286 tw272204585587752260 tw9188643406238295437 tw2955584913699439154 tw18144705063512502546 tw2797975515103369718 tw7032365338116704640 tw2593740657039163264 tw11612994918439478104 tw1515169029947149638 tw11662258728816321496 tw10704213968952921193 tw18224640299764853200 tw14050540214749931993 tw8716855250709027788 tw2681000398296105052 tw11909860018373593712 tw1715691912768389442 tw14971941514224757031 tw7507610952979739406 tw3250644132086535895 tw15475310207728876248 tw8761972580063612724 tw616217581889014367 tw17825505511177388347 tw4681533590906137662 tw17418821558267341456 tw14336370219897330402 tw13691978850512259248 tw8566167366474220142 tw9112288016469968284 tw14410578506680958783 tw10435410736790982670 tw14091603541570369113 tw14410669944748366940 tw3693281412822094198 tw325945271939629171 tw11654194618726092975 tw3907352059989113344 tw11651684110194795108 tw4602794248853256849 tw6888057442541191923 tw11280715468135511858 tw8319576971899569736 tw7420731159566830075 tw6551437032241708012 tw11847612430508359173 tw15976971551402551725 tw9658561750388569642 tw3277231573098856468 tw775639069352823903 tw2883786687127709838 tw11970159027944089771 tw14979830485249975004 tw13172504487145231555 tw4613700936945207682 tw2476049428447362164 tw9475737068799627252 tw16207254337241075384 tw10386420169226567836 tw7675658589884146078 tw12248577792167366250 tw12246193596183980075 tw16622833454160234308 tw391906642828701146 tw13863287041390325744 tw12838075202076993417 tw9005186388465979073 tw2691932648959664794 tw12494496229147090463 tw14353603257090337855 tw10962321185591709147 tw13216826805771006396 tw11991081222768576900 tw9270851241535070434 tw7791748830362785003 tw14495271448138611770 tw1284860322011687964 tw4011725222197222629 tw11245923324658066129 tw13930700309692358274 tw13604668363535184497 tw8415011871368889043 tw3057059977684177080 tw2068845393836940562 tw4205549066080917234 tw6301246125976768230 tw16637325809970742433 tw11547164715884242223 tw17019095216645954097 tw17154461907465635199 tw13362976803090632505 tw5102457177632023030 tw4877110124481653414 tw12791241843645297790 tw1320974855725791984 tw1861365857248429411 tw4833283602455057276 tw3195995353918830063 tw13314019988859003707 tw1538051083621016512 tw4940228254926225378 tw8587239004224713843 tw9104155301456466251 tw11823832481308045582 tw17532794722031170801 tw2388562051300555143 tw4213417074044117158 tw15658088154234085505 tw14415867686721331189 tw2295607083676311788 tw1775295853365918387 tw18090734524112797031 tw11888121787854157722 tw16114192418461060485 tw9453160440158753581 tw13148661917282467366 tw15498263061054928319 tw7584059622790221638 tw14732973603978300721 tw16008616227207027702 tw11444292289481684892 tw11036273546958032469 tw13481460389217035175 tw16448888627050938932 tw15961317411341657662 tw11229984161453025152 tw4933345072387601623 tw17708512284248146574 tw2751891428224704478 tw16440106623927149425 tw7291480450860473886 tw16987484629565708392 tw5422718371898692426 tw11160690531269058756 tw5212272249842771451 tw6069288594829446460 tw11793089725878651651 tw11598564320309686671 tw15409627702456809317 tw1448635402566405593 tw5048489072940840554 tw9861560177628626391 tw3751394182673887064 tw2053388874088915201 tw7363735564969629930 tw11535595322751478687 tw8591142413192835395 tw14437294354997290199 tw8477107556315585284 tw12712239312567774033 tw12405686876768204527 tw5978225245575016390 tw8280524938797928923 tw15162658215058679080 tw3182731535417337719 tw5640469367680135293 tw12196842711349335271 tw11538716891398704680 tw17066184962690370376 tw16676427920040996938 tw5626610763512595442 tw3750704753417634444 tw1082169780174550808 tw3305817270380176219 tw1559036867665448583 tw16240146422311561302 tw12991474522610002750 tw1254471077011879364 tw311089170340128154 tw8565586677885632167 tw4925397722524381501 tw16504753347148577920 tw3011962506912338471 tw15203611372426194999 tw14437156715374657526 tw616352725563847543 tw3163510546688259643 tw14377420509444146621 tw6620078941823130594 tw11486035981710439199 tw2134784485538498646 tw4441398338866239608 tw5570020137567346363 tw6091639350811536521 tw1356769606172504472 tw1353037174676520414 tw9107513732082314979 tw5347102676099988748 tw8348584508287750587 tw11389812809404274984 tw17071519355609353946 tw7741138984472131069 tw12651022865905095203 tw12026987928718485991 tw15126371859888529309 tw5493213679970920905 tw2443633220912014841 tw5288081594623039222 tw2385240865159823305 tw16944863075406942316 tw14867778604109846973 tw7931920531811946783 tw9035179908794819271 tw7408034820780715173 tw16616650569388279863 tw11527405652148866786 tw754895541111994137 tw1546349521208423478 tw14980905501160799303 tw2001009978293839165 tw16655301521089769789 tw8889062934901581989 tw17261831260414129000 tw10614812945441081261 tw10859093047587965630 tw1011650777276636173 tw8549307445601473452 tw1627534090550942850 tw1872153033057201338 tw4547581346072238300 tw12895466079050442773 tw3047297383413034004 tw2933559026060130724 tw15864145663768586510 tw1957077500875753946 tw15799979945104614494 tw10575387787648848946 tw12799567408061803196 tw304517554476354256 tw1375360123534438529 tw7298896432395705546 tw10238075063239062469 tw4956821137320311587 tw1687647893371373503 tw14613809965551037472 tw8717789509636815281 tw2421473820873709150 tw9058455629189641624 tw13493979466174062883 tw13173380830015925399 tw12976948965416155850 tw16930113256011808697 tw10667798130551536137 tw12586051927345469750 tw9714141390301050372 tw9300434844068832089 tw6811492014739407850 tw15349710021611768224 tw13051744726544618240 tw15439119169577596026 tw7906181460081015745 tw16122002894590869612 tw11744105021839897627 tw5113113180085256539 tw15285913937883969009 tw15691829272104895314 tw13409366113947358369 tw11186598558607769048 tw4033007404559093606 tw16532735827254252113 tw8982394338691422840 tw1372916031098949554 tw13389373088151688929 tw16463829812530621157 tw8507345839988604756 tw4371228392012596885 tw2749735434912607217 tw11681530959977689973 tw1937073026746734509 tw3904234031857163416 tw14494054520141023297 tw11850616836159028111 tw603083183538776582 tw3620521534873271650 tw8134915327207061142 tw5824284670399134557 tw13542481152690220395 tw5933551213544012046 tw12287256683009350285 tw6359586043870439599 tw10125075900335795148 tw13754906622105176113 tw18034385072070960050 tw171514351425035362 tw2386545876627489169 tw8836103958441037200 tw13827051393742708594 tw11369158838412299132 tw5072888433599827387 tw10212440805968046659 tw254815827277417350 tw155826942085504396 tw10045415779357518315 tw10266137246521139938 tw12936390624996358032 tw5410533251508406939 tw2166344297622116742 tw5462799469676664770 tw4924723919957955626 tw8653610371268607360 tw10067057088862747136 tw15813866750710986726 tw5533115964245727938 tw14419030988822309189 tw5619714934767890577 tw15743536958601236097 tw2206213874322651633 tw16235356571349652344 tw18101309837028227611 tw175054235858500512 tw17672864674580361477 tw9661261656513031860 tw4227754845665203938 tw11967538497376799795 tw18352404887560006556 tw14926718395799908347 tw1524921803700648807 tw9460722998421688850 tw5565444056856488090 tw2206540437442932854 tw2783673369886264598 tw10787292827328538211 tw16939319773627948782 tw5484388698117390806 tw17898989793182718058 tw13930560087819679910 tw17229544042511706938 tw9323217415513152067 tw8348242252624912341 tw10894348637011420688 tw15991973275493304089 tw13762809690679106123 tw16724121139513645383 tw16986533948271173118 tw7256581102776084613 tw3212237829623610101 tw1900775502581598943 tw7479636462386544489 tw11871721032230618727 tw4402071532404617368 tw7515754167374513801 tw14827868611215208903 tw15644556851846677185 tw11116288864126084124 tw16750296393248453080 tw5517109416513996025 tw10858459845749276854 tw15587948118882588760 tw15235638901709727485 tw15828049160809929390 tw11026531005018347116 tw13380868579621684421 tw9392200047028572187 tw16930482902169258968 tw17857476296059686787 tw2910976135811946781 tw5116048073640610941 tw16091718944941174614 tw6926894932609931397 tw6849197158688264910 tw15749408446863189380 tw10795403134657433 tw12312948087938764031 tw11735625231702708850 tw16869694990809233238 tw8300714555652524001 tw10761604799636926141 tw3982291599494707139 tw13856369407451534319 tw18135159420869326609 tw2035037553187278437 tw16871905769665407028 tw4785426074982438344 tw8239539554412139138 tw15389241546063267207 tw3017334668127775200 tw5907500804875205483 tw2357760606968822551 tw14858910501430698192 tw4422491569345516259 tw10219177023550058374 tw4828486002560894387 tw4517190713354854486 tw6958983795757722625 tw5551778386196527304 tw10967273264421015780 tw8246885755356944765 tw15158452445521853075 tw6955477636987325894 tw2928777608146442570 tw6518103231333731477 tw14503195981855263650 tw14481466161025938738 tw818170070358449508 tw16265265097048190758 tw3929822509234176730 tw7214458359763059456 tw17652164797821698049 tw9452799975152712972 tw6196521492400324893 tw10262602176253927383 tw581879667358864327 tw8881322745517012449 tw12969894455407949772 tw14083865247544976306 tw11166504956408245749 tw18139609330007966951 tw421003221168325959 tw4808055633936713502 tw16104641663143352780 tw16329911092633565444 tw5718459401556849157 tw15159191420166332018 tw6697231390250663635 tw967054434699125936 tw6320199897458932630 tw6171594738051112632 tw8398929383867200944 tw15222166035929728890 tw16685150690195283321 tw3984201324433823962 tw17199586886836723646 tw14465604064835121062 tw4834418784593167107 tw8287805121426280519 tw10032820364733722609 tw1015709844492207842 tw13479391162889630176 tw13929894329444416236 tw17337927559338844990 tw1158181714958472814 tw14773499134840867401 tw4631137643151597255 tw16041419203168221857 tw16088361644883334818 tw5623574176041935232 tw4448385186433826367 tw10454241371427036308 tw3226157769615903948 tw8971978978326337835 tw6894886487929645034 tw324681528065822006 tw89644117257837787 tw3193927633464743769 tw17056963856675797988 tw12922357859027679822 tw2365622359966815454 tw6198921699776082509 tw3684123962837463026 tw665115728030704455 tw1250054815329950279 tw13737701780811232642 tw16156306106554201083 tw8217961910573644559 tw2209235879286475783 tw7874995396018338192 tw11304446712584663983 tw9040087506341712030 tw2298083677909785606 tw16196138973359350775 tw4403894739275482758 tw15322807008999472124 tw14603448683312080918 tw2356804317663162014 tw11873345351334291568 tw9241806042767179087 tw12475130192530939070 tw9529308525378696091 tw3247194209244562031 tw13850690201125632106 tw12266133667459318408 tw7719671392393901526 tw12458672432190974055 tw15464224301852216962 tw5962631956365284404 tw14446119013058286389 tw12075088735166498581 tw5755779043014447333 tw15234712053730959480 tw15500710490041527567 tw5191430935315447542 tw15027578425431348111 tw9314762330507226146 tw10577207790370355137 tw1898292274675202855 tw13783538598114514813 tw50514468207170730 tw1824240427204030872 tw16080679611519298827 tw12334166729632597602 tw17290848688648021038 tw2156821020530757017 tw6837334485870434165 tw1591353476694515143:True)
end PySem.W
open PySem PySem.W PyProof.Rows
set_option maxRecDepth 100000 in
set_option maxHeartbeats 0 in
theorem PySem.Challenge.cw_jettison_k24_parts_landed_holds : PySem.Challenge.rw_jettison_k24_parts_landed.Holds := by
 w_on;o_law;k_head;(case hw=>w_witness2)
 k_fill
 refine Law.walk (l:=PySem.Challenge.rw_jettison_k24_parts_landed) rfl rfl (fun w h Y=>PySem.W.kIn_of Y) ?F
 case F=>
  intro w mg fa h KX G hmg
  refine' Law.all_mk KX G hmg ?_ ?_ ?_ ?_ ?_ ?_ ?_ ?_ ?_ ?_ ?_ ?_ ?_ ?_ ?_ ?_ ?_ ?_ ?_ ?_ ?_ ?_ ?_ ?_ ?_ ?_ ?_ ?_ ?_ ?_ ?_ ?_ ?_ ?_ ?_ ?_ ?_ ?_ ?_ ?_ ?_ ?_ ?_ ?_ ?_ ?_ ?_ ?_ ?_ ?_ ?_ ?_ ?_ ?_ ?_ ?_ ?_ ?_ ?_ ?_ ?_ ?_ ?_ ?_ ?_ ?_ ?_ ?_ ?_ ?_ ?_ ?_ ?_ ?_ ?_ ?_ ?_ ?_ ?_ ?_ ?_ ?_ ?_ ?_ ?_ ?_ ?_ ?_ ?_ ?_ ?_ ?_ ?_ ?_ ?_ ?_ ?_ ?_ ?_ ?_ ?_ ?_ ?_ ?_ ?_ ?_ ?_ ?_ ?_ ?_ ?_ ?_ ?_ ?_ ?_ ?_ ?_ ?_ ?_ ?_ ?_ ?_ ?_ ?_ ?_ ?_ ?_ ?_ ?_ ?_ ?_ ?_ ?_ ?_ ?_ ?_ ?_ ?_ ?_ ?_ ?_ ?_ ?_ ?_
  any_goals first|(refine' L2.cR.of ?a ?l ?c ?k;(case a=>k_is);(case l=>k_is);(case c=>k_is);(case k=>k_is))|(refine' L2.eU.of ?a ?i ?l ?c ?k;(case a=>k_is);(case i=>k_is);(case l=>k_is);(case c=>k_is);(case k=>k_is))|(refine' L2.Told.of ?ga ?gn ?ca ?mo ?mb ?jt ?ve ?k0 ?k1 ?k2 ?k3 ?k4 ?k5 ?k6 ?k7 ?k8 ?k9 ?h;(case ga=>k_is);(case gn=>k_is);(case ca=>k_is);(case mo=>k_is);(case mb=>k_is);(case jt=>kts_exm);(case ve=>kit_is);(case k0=>kit_is);(case k1=>kit_is);(case k2=>kit_is);(case k3=>kit_is);(case k4=>kit_is);(case k5=>kit_is);(case k6=>kit_is);(case k7=>kit_is);(case k8=>kit_is);(case k9=>kit_is);(case h=>rfl))|k_is|k_exc
