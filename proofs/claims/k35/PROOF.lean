import PyProof.Rows.All
import Wide.All
import OpenK.AllK
import Wide.FinOn
import Lean
import PyProof.EqAt
import PyProof.EqKinds
import PyProof.TupleCall
import PySem.Challenge.RW_jettison_k35_whole_casts_in_any_order
set_option Elab.async false
set_option bootstrap.genMatcherCode false
set_option genSizeOf false
set_option genSizeOfSpec false
set_option linter.all false
set_option maxRecDepth 100000
local macro_rules|`(tactic|omega)=>`(tactic|lia)
abbrev Fg:=PySem.W.Frag
abbrev VS:=PySem.Value->PySem.Shared->Prop
abbrev AO:=List (PySem.Addr×PySem.Obj)
abbrev SO:=PySem.Str->Option PySem.Value
set_option autoImplicit true
def We:=@PySem.F.slot_dict_valueiterator_next
def JA:=@Int.mul_le_mul_of_nonneg_left
def Wg:=@PySem.wpAny_typeNameOfWhole_keyiter
def Wh:=@PySem.wpAny_typeNameOfWhole_valiter
def Wi:=@PySem.F.slot_dict_keyiterator_next
def RB:=@PyProof.Rows.callWith_type1
def v7:=@List.idxOf_lt_length_of_mem
def Wj:=@Int.ediv_eq_of_eq_mul_right
def CQ:=@List.getElem?_append_right
def lu:=@List.getD_eq_getElem?_getD
def PX:=@PySem.F.slot_tuple_iterator_next
def PY:=@List.length_eraseIdx_of_lt
def dY:=@List.getElem?_eq_some_iff
def zN:=@List.getElem?_append_left
def PZ:=@List.mem_or_eq_of_mem_set
def BP:=@Int.eq_of_mul_eq_mul_left
def bM:=@List.getElem?_eq_getElem
def P_:=@PySem.wpAny_comprehension_free
def Qa:=@PySem.wpAny_typeNameOf_keyiter
def Qc:=@PySem.wpAny_typeNameOf_valiter
def EB:=@Int.mul_ediv_cancel_left
def oJ:=@PySem.F.slot_list_append
def oK:=@PySem.F.type_list_append
def Qd:=@List.getElem?_replicate
def zO:=@PySem.wpAny_callSpecial?_slot
def oM:=@PySem.F.plainAttrs_list
def qM:=@List.getElem?_set_self
def b9:=@PySem.Heap.get?_push_of_some
def JB:=@PySem.Heap.get?_update_other
def nH:=@Option.map_eq_some_iff
def JC:=@List.take_of_length_le
def EC:=@List.zipWith_cons_cons
def Qe:=@PySem.Calls.callWith_builtin
def zP:=@PyProof.Rows.boot_list
def gG:=@List.mem_append_right
def jV:=@List.length_replicate
def BQ:=@PySem.Heap.get?_update_self
def BR:=@List.getElem?_eq_none
def Qf:=@PySem.wpAny_isOneOf_valiter
def Qg:=@List.getElem?_zipWith
def JD:=@PyProof.Rows.boot_sum
def Qh:=@PyProof.Rows.boot_min
def cA:=@List.mem_cons_of_mem
def zQ:=@List.mem_append_left
def zR:=@List.getElem?_set_ne
def cu:=@List.mem_of_getElem?
def nI:=@Bool.and_eq_true_iff
def Qi:=@PySem.intBits_le_iff
def BS:=@beq_eq_false_iff_ne
def BU:=@List.filterMap_cons
def eT:=@PySem.Heap.get?_push_size
def yo:=@PySem.mem_of_lookup
def BV:=@List.replicate_succ
def JE:=@Bool.or_eq_true_iff
def ED:=@PySem.Heap.SameBut.update
def lR:=@List.length_zipWith
def EE:=@List.filter_eq_self
def oN:=@List.map_congr_left
def yp:=@List.getElem_of_mem
def Qj:=@List.flatten_append
def lS:=@Nat.lt_of_lt_of_le
def cU:=@List.mem_cons_self
def Qk:=@List.mem_filterMap
def iD:=@Bool.false_ne_true
def JF:=@PySem.wpAny_Call_Name_kw
def dD:=@List.length_append
def Ql:=@Option.isSome_some
def Qm:=@PySem.tupleKind_room_in1
def JG:=@Nat.lt_of_le_of_lt
def eX:=@List.mem_singleton
def zS:=@Int.emod_lt_of_pos
def EF:=@Bool.false_eq_true
def EG:=@PySem.Obj.data_mapFields
def EH:=@PySem.wpAny_setField_rec
def JH:=@List.set_cons_succ
def Qn:=@List.set_cons_zero
def Qo:=@PySem.F.slot_dict_values
def JI:=@List.zip_cons_cons
def uP:=@of_decide_eq_false
def pK:=@PySem.W.mg_none_of
def Qp:=@PySem.wpAny_pyIter_list
def cN:=@List.getElem?_map
def Qq:=@List.take_sublist
def tL:=@Int.toNat_natCast
def iE:=@List.size_toArray
def EI:=@List.reverse_cons
def JJ:=@List.flatten_cons
def Qs:=@List.append_assoc
def eF:=@of_decide_eq_true
def JK:=@Nat.lt_succ_of_lt
def xq:=@PySem.wpAny_newObj_type
def EJ:=@PySem.wpAny_truthy_bool
def Qt:=@PySem.wpAny_dictEntries
def BW:=@List.foldl_append
def Qu:=@List.nodup_append
def Qv:=@List.getElem?_inj
def qN:=@Bool.eq_false_iff
def kM:=@List.length_cons
def kN:=@List.length_take
def JL:=@List.length_drop
def Jf:=@List.cons_append
def e_:=@List.filter_cons
def rP:=@Nat.le_add_right
def CS:=@beq_self_eq_true
def lW:=@List.lookup_cons
def pM:=@List.all_eq_true
def Jg:=@List.getElem_mem
def v9:=@PySem.wpAny_call_entry
def cO:=@List.take_length
def Jh:=@List.map_reverse
def dF:=@decide_eq_false
def fE:=@Option.some.inj
def mZ:=@List.mem_filter
def fu:=@List.mem_append
def AX:=@Bool.eq_iff_iff
def aH:=@List.length_map
def CT:=@List.append_nil
def fX:=@List.nodup_cons
def CU:=@List.of_mem_zip
def iw:=@List.length_set
def j7:=@List.foldl_cons
def Ji:=@List.nil_append
def uz:=@List.find?_cons
def Jj:=@Option.map_some
def bV:=@List.map_append
def pN:=@Int.emod_nonneg
def Jk:=@Int.ediv_nonneg
def Jl:=@List.forIn_cons
def CV:=@PySem.pushCells_keeps
def Jo:=@PySem.wpAny_dictEpoch
def Jp:=@PySem.F.slot_zip_next
def yq:=@PySem.wpAny_passesOwn
def Jq:=@PySem.wpAny_execs_nil
def AY:=@List.sum_append
def gc:=@PySem.PassesOwn.never
def yr:=@List.mem_range
def kO:=@PySem.Heap.size_push
def br:=@decide_eq_true
def CW:=@Int.natAbs_mul
def yt:=@List.forIn_nil
def v_:=@PySem.wpAny_fieldsOf
def AZ:=@PySem.wpAny_setField
def uA:=@PySem.wpAny_seqItems
def uB:=@List.nodup_nil
def rQ:=@Int.mul_nonneg
def gf:=@PySem.boot_len
def i7:=@Nat.lt_irrefl
def cK:=@List.mem_cons
def bz:=@List.map_cons
def CY:=@List.any_cons
def c_:=@List.sum_cons
def yu:=@PySem.wpAny_standAt
def wc:=@PySem.wpAny_holding
def iy:=@Int.mul_assoc
def CZ:=@List.map_take
def bU:=@PySem.Heap.lt_size
def d8:=@Nat.ne_of_lt
def gh:=@Nat.le_trans
def A0:=@Nat.le_of_lt
def wg:=@Nat.ne_of_gt
def a_:=@List.mem_map
def C0:=@Int.ediv_one
def wm:=@List.set_set
def yv:=@Nat.min_self
def gj:=@List.map_map
def A1:=@Nat.sub_self
def pO:=@Int.mul_comm
def wu:=@Int.zero_add
def pP:=@Int.zero_mul
def A3:=@Int.sub_zero
def uC:=@List.map_set
def rR:=@Sum.inr.inj
def uD:=@Int.mul_one
def aO:=@Nat.le_refl
def fM:=@Nat.zero_le
def kP:=@PySem.sizeLine_eq
def A_:=@Nat.le_succ
def n_:=@PySem.wpAny_field
def kQ:=@Int.le_refl
def wC:=@Int.mul_pos
def wD:=@Int.mul_add
def kR:=@Int.add_mul
def gH:=@PySem.wpAny_mono
def aT:=@PySem.wpAny_pure
def az:=@PySem.wpAny_bind
def uE:=@beq_iff_eq
def ff:=@congrArg
def m5:=@if_false
def bX:=@Ne.symm
def m7:=@if_true
def aC:=@if_pos
def aB:=@if_neg
theorem Z{α:Sort _}{a:α}:a=a:=rfl
namespace L2
open PySem PySem.Spec PyProof.Rows
abbrev Key:=Sum Int Str
def yw:Key->Value->Bool
 | .inl k,v=>Value.isInt k v
 | .inr x,v=>Value.isStrOf x v
def agq(w:World):Key->Int
 | .inl k=>hashInt k
 | .inr x=>hashStr w x
theorem gF:∀{k:Key}{v:Value},yw k v=true->(∃i t,k=Sum.inl i/\v=Value.int i t)\/(∃x t,k=Sum.inr x/\v=Value.str x t)
 | .inl i,v,h=>by obtain⟨t,e⟩:=Value.isInt_shape (k:=i) (v:=v) h;exact .inl ⟨i,t,Z,e⟩
 | .inr x,v,h=>by obtain⟨t,e⟩:=Value.isStrOf_shape (x:=x) (v:=v) h;exact .inr ⟨x,t,Z,e⟩
theorem RC(i:Int)(t:Tok):yw (.inl i) (.int i t)=true:=by simp[yw,Value.isInt]
theorem RD(x:Str)(t:Tok):yw (.inr x) (.str x t)=true:=by simp[yw,Value.isStrOf]
theorem Zd(a b:Int):decide ((Sum.inl a:Key)=Sum.inl b)=(a==b):=by
 by_cases e:a=b
 .subst e;simp
 .have h:¬ (Sum.inl a:Key)=Sum.inl b:=λq=>e (Sum.inl.inj q);rw[dF h];exact(BS.mpr e).symm
theorem Ze(a b:Str):decide ((Sum.inr a:Key)=Sum.inr b)=decide (a=b):=by
 by_cases e:a=b
 .subst e;simp
 .have h:¬ (Sum.inr a:Key)=Sum.inr b:=λq=>e (rR q);rw[dF h,dF e]
theorem Zf(a:Int)(b:Str):decide ((Sum.inl a:Key)=Sum.inr b)=false:=dF (λq=>nomatch q)
theorem Zg(a:Str)(b:Int):decide ((Sum.inr a:Key)=Sum.inl b)=false:=dF (λq=>nomatch q)
def di(prog:Program)(w:World):PySem.KeyKind prog w Key where
 is:=yw
 hash:=agq w
 inj:=λv a b ha hb=>by
  rcases gF ha with⟨i,t,rfl,rfl⟩|⟨x,t,rfl,rfl⟩
  .rcases gF hb with⟨j,u,rfl,e⟩|⟨y,u,rfl,e⟩
   .injection e with e1 _;rw[e1]
   .exact nomatch e
  .rcases gF hb with⟨j,u,rfl,e⟩|⟨y,u,rfl,e⟩
   .exact nomatch e
   .injection e with e1 _;rw[e1]
 byValue:=λk v h=>by rcases gF h with⟨i,t,rfl,rfl⟩|⟨x,t,rfl,rfl⟩ <;> rfl
 pyHash:=λhv h=>by
  rcases gF hv with⟨i,t,rfl,rfl⟩|⟨x,t,rfl,rfl⟩
  .exact wpAny_pyHash_int h
  .exact wpAny_pyHash_str h
 eqBool:=λhu hv h=>by
  rcases gF hu with⟨i,t,rfl,rfl⟩|⟨x,t,rfl,rfl⟩
  .rcases gF hv with⟨j,u,rfl,rfl⟩|⟨y,u,rfl,rfl⟩
   .rw [Zd]at h;exact wpAny_eqBool_int h
   .rw [Zf]at h;exact SeqAt.EqAt.int_str i t y u _ _ _ _ h
  .rcases gF hv with⟨j,u,rfl,rfl⟩|⟨y,u,rfl,rfl⟩
   .rw [Zg]at h;exact SeqAt.EqAt.str_int x t j u _ _ _ _ h
   .rw [Ze]at h;exact wpAny_eqBool_str h
 «strs»:=λk x t v h=>by
  rcases gF h with⟨i,u,rfl,e⟩|⟨y,u,rfl,e⟩
  .exact nomatch e
  .injection e with e1 _;subst e1;cases v <;> rfl
theorem Qw(prog:Program)(w:World)(k:Key)(v:Value):(di prog w).is k v=yw k v:=rfl
theorem MX(prog:Program)(w:World)(i:Int)(t:Tok):(di prog w).is (.inl i) (.int i t)=true:=RC i t
theorem MY(prog:Program)(w:World)(x:Str)(t:Tok):(di prog w).is (.inr x) (.str x t)=true:=RD x t
inductive V where
 | cW|bl (b:Bool)|int (i:Int)|str (x:Str)|By (b:Array UInt8)|Wl (b:UInt64)|ref (a:Addr)|ty (n:String)
 deriving DecidableEq
def RelV:V->Value->Prop
 | .cW,u=>u=Value.none
 | .bl b,u=>u=Value.bool b
 | .int i,u=>∃t,u=Value.int i t
 | .str x,u=>∃t,u=Value.str x t
 | .By b,u=>∃t,u=Value.bytes b t
 | .Wl b,u=>∃t,u=Value.float b t
 | .ref a,u=>u=Value.ref a
 | .ty n,u=>u=Value.type n
abbrev Vals:List V->List Value->Prop:=Paired RelV
variable {xs:List V}{us:List Value}
theorem Vals.length(r:Vals xs us):xs.length=us.length:=Paired.length r
theorem Vals.get:∀{xs:List V}{us:List Value}{i:Nat}{x:V},Vals xs us->xs[i]?=some x->∃u,us[i]?=some u/\RelV x u
 | _,_,_,_,.nil,e=>by simp at e
 | _,_,0,_,.cons r _,e=>by simp at e;subst e;exact⟨_,Z,r⟩
 | _,_,i+1,x,.cons _ t,e=>by obtain⟨u,h1,h2⟩:=Vals.get (i:=i) (x:=x) t (by simpa using e);exact⟨u,by simpa using h1,h2⟩
theorem Vals.set{x:V}{u:Value}(r:RelV x u):∀{xs:List V}{us:List Value}(i:Nat),Vals xs us->Vals (xs.set i x) (us.set i u)
 | _,_,_,.nil=> .nil
 | _,_,0,.cons _ t=> .cons r t
 | _,_,i+1,.cons q t=> .cons q (Vals.set r i t)
theorem Vals.append:∀{xs ys:List V}{us ws:List Value},Vals xs us->Vals ys ws->Vals (xs++ys) (us++ws)
 | _,_,_,_,.nil,s=>s
 | _,_,_,_,.cons r t,s=> .cons r (Vals.append t s)
theorem Vals.take:∀{xs:List V}{us:List Value}(n:Nat),Vals xs us->Vals (xs.take n) (us.take n)
 | _,_,0,_=> .nil
 | _,_,_+1,.nil=> .nil
 | _,_,n+1,.cons r t=> .cons r (Vals.take n t)
theorem Vals.drop:∀{xs:List V}{us:List Value}(n:Nat),Vals xs us->Vals (xs.drop n) (us.drop n)
 | _,_,0,r=>r
 | _,_,_+1,.nil=> .nil
 | _,_,n+1,.cons _ t=>Vals.drop n t
def nJ:Option V->Option Value->Prop
 | some v,some u=>RelV v u
 | none,none=>True
 | _,_=>False
def KV{κ:Type}:List (κ×V)->List (κ×Value)->Prop:=Paired λ(p:κ×V)(q:κ×Value)=>p.1=q.1/\RelV p.2 q.2
def kV:Key->V
 | .inl i=> .int i
 | .inr x=> .str x
inductive HO where
 | lst (xs:List V)
 | tup (xs:List V)
 | dK (kvs:List (Key×V))|dT (kvs:List (List Key×V))
 | set (S:Int->Bool) (n:Nat)
 | ins (C dx:Addr) (fs:List (Str×V))
 | own (x:Addr)
 | xd (fs:List (Str×V))
 | met (f x:Addr)
 | xQ (lo hi:Int)
 | fB (o:Obj) (u:HO)
 | JM (ps:Array Value)
 | ext (φ:Heap->Prop)
abbrev Hp:=Addr->Option HO
def upd(H:Hp)(a:Addr)(o:HO):Hp:=λb=>if b=a then some o else H b
variable {H:Hp}{a:Addr}{o:HO}
theorem ai:upd H a o a=some o:=by unfold upd;rw[aC rfl]
variable {b:Addr}
theorem ay(h:b≠a):upd H a o b=H b:=by unfold upd;rw[aB h]
theorem lH{u:HO}:upd (upd H a o) a u=upd H a u:=by funext b;unfold upd;split <;> rfl
theorem i8{u:HO}(h:H a=some o)(h':H b=some u)(d:o≠u):a≠b:=by intro e;subst e;rw[h]at h';exact d (fE h')
theorem aD(h:H a=some o)(h':H b=none):a≠b:=by intro e;subst e;rw[h]at h';cases h'
section
variable (P:Program)(w:World)
def fP(H:Hp)(h:Heap)(a:Addr):HO->Prop
 | .lst xs=>xs.length<=sizeLine/\∃(its:List Value)(n:Nat),Vals xs its/\h.get? a=some { cls:=.type "list",data:=.seq its.toArray n }
 | .tup xs=>xs.length<=sizeLine/\∃its:List Value,Vals xs its/\IsTup h a its.toArray
 | .dK kvs=>kvs.length<=sizeLine/\(a==sysModules)=false/\∃vs,KV kvs vs/\h.DictOf (di P w) a vs
 | .dT kvs=>kvs.length<=sizeLine/\(a==sysModules)=false/\∃xs:List (List Key×Addr×Value),
     Paired (λ(p:List Key×V)(q:List Key×Addr×Value)=>p.1=q.1/\H q.2.1=some (.tup (p.1.map kV))/\RelV p.2 q.2.2) kvs xs/\
     ∃o es ep,h.get? a=some o/\o.ExactDict/\o.data =.dict es ep/\es.toList=xs.map (entryOfKey (tupleKind (di P w)))/\(xs.map (·.1)).Nodup
 | .set S n=>h.SetOf (intKind P w) a S n
 | .ins C dx fs=>H dx=some (.own a)/\fs.length<=1000/\dx≠a/\h.get? a=some (PySem.W.instObj C dx)/\
     ∃mA,h.Ns1 dx mA/\(∀f,nJ (fs.lookup f) (mA f))/\PySem.Within mA (fs.map (·.1))
 | .own _=>∃o,h.get? a=some o
 | .xd fs=>∃mA,h.Ns1 a mA/\∀f,nJ (fs.lookup f) (mA f)
 | .xQ lo hi=>∃t u v,h.get? a=some { cls:=.type "range",data:=.fields #[.int lo t,.int hi u,.int 1 v] }
 | .fB o u=>h.get? a=some o/\fP H h a u
 | .JM ps=>h.get? a=some { cls:=.none,data:=.fields ps }
 | .met f x=>h.get? a=some (PySem.W.methodObj (.ref f) (.ref x))
 | .ext φ=>φ h/\(∃o,h.get? a=some o)/\∀h1 h2:Heap,φ h1->(∀o,h1.get? a=some o->h2.get? a=some o)->φ h2
def jj(H:Hp)(h:Heap):Prop:=∀a o,H a=some o->fP P w H h a o
end
section
variable {P:Program}{w:World}{H H':Hp}{h h':Heap}{a:Addr}{o:HO}
theorem fP.lt(x:fP P w H h a o):a<h.objs.size:=by
 cases o with
 | lst xs=>obtain⟨_,_,_,_,e⟩:=x;exact bU e
 | tup xs=>obtain⟨_,_,_,p⟩:=x;exact p.lt
 | dK kvs=>obtain⟨_,_,_,_,o,_,_,e,_⟩:=x;exact bU e
 | dT kvs=>obtain⟨_,_,_,_,o,_,_,e,_⟩:=x;exact bU e
 | set S n=>obtain⟨o,_,_,_,e,_⟩:=x;exact bU e
 | ins C dx fs=>obtain⟨_,_,_,e,_⟩:=x;exact bU e
 | own y=>obtain⟨_,e⟩:=x;exact bU e
 | xd fs=>obtain⟨_,⟨_,_,_,e,_⟩,_⟩:=x;exact bU e
 | xQ lo hi=>obtain⟨_,_,_,e⟩:=x;exact bU e
 | fB ob u=>obtain⟨e,_⟩:=x;exact bU e
 | JM ps=>exact bU (show h.get? a=some _ from x)
 | met f y=>exact bU (show h.get? a=some _ from x)
 | ext φ=>obtain⟨_,⟨_,e⟩,_⟩:=x;exact bU e
theorem Paired.Uw{α β:Type}{F G:α->β->Prop}:∀{l₁:List α}{l₂:List β},Paired F l₁ l₂->(∀a b,F a b->G a b)->Paired G l₁ l₂
 | _,_,.nil,_=> .nil
 | _,_,.cons r t,f=> .cons (f _ _ r) (Paired.Uw t f)
theorem fP.stay(x:fP P w H h a o)(k:∀b u,(b=a\/H b=some (.own a))->h.get? b=some u->h'.get? b=some u)(ho:∀b,H b=some (.own a)->H' b=some (.own a))(ht:∀b xs,H b=some (.tup xs)->H' b=some (.tup xs)):fP P w H' h' a o:=by
 induction o with
 | lst xs=>obtain⟨z,its,n,r,e⟩:=x;exact⟨z,its,n,r,k _ _ (.inl rfl) e⟩
 | tup xs=>obtain⟨z,its,r,ob,e,c⟩:=x;exact⟨z,its,r,ob,k _ _ (.inl rfl) e,c⟩
 | dK kvs=>obtain⟨z,y,vs,r,ob,es,ep,e,c⟩:=x;exact⟨z,y,vs,r,ob,es,ep,k _ _ (.inl rfl) e,c⟩
 | dT kvs=>
   obtain⟨z,y,xs,r,ob,es,ep,e,c⟩:=x
   exact⟨z,y,xs,Paired.Uw r λp q z=>⟨z.1,ht _ _ z.2.1,z.2.2⟩,ob,es,ep,k _ _ (.inl rfl) e,c⟩
 | set S n=>obtain⟨ob,es,ep,t,e,c⟩:=x;exact⟨ob,es,ep,t,k _ _ (.inl rfl) e,c⟩
 | ins C dx fs=>
   obtain⟨d,z,ne,e,mA,⟨od,es,ep,e2,c⟩,r⟩:=x
   exact⟨ho _ d,z,ne,k _ _ (.inl rfl) e,mA,⟨od,es,ep,k _ _ (.inr d) e2,c⟩,r⟩
 | own y=>obtain⟨ob,e⟩:=x;exact⟨ob,k _ _ (.inl rfl) e⟩
 | xd fs=>obtain⟨mA,⟨od,es,ep,e,c⟩,r⟩:=x;exact⟨mA,⟨od,es,ep,k _ _ (.inl rfl) e,c⟩,r⟩
 | xQ lo hi=>obtain⟨t,u,v,e⟩:=x;exact⟨t,u,v,k _ _ (.inl rfl) e⟩
 | fB ob u ih=>obtain⟨e,q⟩:=x;exact⟨k _ _ (.inl rfl) e,ih q⟩
 | JM ps=>
   have e:h.get? a=some { cls:=.none,data:=.fields ps }:=x
   show h'.get? a=some { cls:=.none,data:=.fields ps }
   exact k a _ (.inl rfl) e
 | met f y=>
   have e:h.get? a=some (PySem.W.methodObj (.ref f) (.ref y)):=x
   show h'.get? a=some (PySem.W.methodObj (.ref f) (.ref y))
   exact k a _ (.inl rfl) e
 | ext φ=>obtain⟨p,⟨o,e⟩,st⟩:=x;exact⟨st _ _ p λo q=>k _ _ (.inl rfl) q,⟨o,k _ _ (.inl rfl) e⟩,st⟩
theorem jj.lt(x:jj P w H h)(e:H a=some o):a<h.objs.size:=(x a o e).lt
theorem jj.fresh(x:jj P w H h)(e:h.objs.size<=a):H a=none:=by
 cases q:H a with
 | none=>rfl
 | some u=>exact absurd (lS (x.lt q) e) (i7 _)
theorem jj.kept(x:jj P w H h)(k:∀b u,h.get? b=some u->h'.get? b=some u):jj P w H h':=λa o e=>
 (x a o e).stay (λb u _ q=>k b u q) (λ_ q=>q) λ_ _ q=>q
theorem jj.laid(x:jj P w H h)(k:∀b u,h.get? b=some u->h'.get? b=some u)(hp:h.objs.size<=a)(new:fP P w (upd H a o) h' a o):jj P w (upd H a o) h':=λb u e=>by
 have hn:=x.fresh hp;by_cases hb:b=a
 .subst hb;rw[ai]at e;cases e;exact new
 .rw [ay hb]at e;exact(x b u e).stay (λc v _ q=>k c v q) (λc q=>by rw[ay (aD q hn)];exact q) λc xs q=>by rw[ay (aD q hn)];exact q
end
def Rd(H:Hp)(a:Addr)(u:HO):Prop:=H a=some u\/∃o,H a=some (.fB o u)
variable {P:Program}{h:Heap}
theorem Rd.ok{w:World}{u:HO}(r:Rd H a u)(x:jj P w H h):fP P w H h a u:=by
 rcases r with r|⟨o,r⟩
 .exact x a u r
 .obtain ⟨_,q⟩:=x a _ r;exact q
def RE:Option HO->Prop
 | some (.lst _)=>True
 | some (.dK _)=>True
 | some (.dT _)=>True
 | some (.set _ _)=>True
 | some (.ins _ _ _)=>True
 | some (.ext _)=>True
 | _=>False
section
variable {P:Program}{w:World}{H:Hp}{h h':Heap}{x e:Addr}{o':HO}
theorem jj.write(ok:jj P w H h)(mu:RE (H x))(he:e=x\/H e=some (.own x))(k:∀b u,b≠e->h.get? b=some u->h'.get? b=some u)(OA:∃u,h'.get? e=some u)(new:fP P w (upd H x o') h' x o'):jj P w (upd H x o') h':=λb u q=>by
 have Zh:∀c y,H c=some (.own y)->c≠x:=λc y r z=>by subst z;rw[r]at mu;exact mu
 have agr:∀c xs,H c=some (.tup xs)->c≠x:=λc xs r z=>by subst z;rw[r]at mu;exact mu
 by_cases hb:b=x
 . subst hb;rw[ai]at q;cases q;exact new
 . rw[ay hb]at q
   by_cases JN:b=e
   . have q':H b=some (.own x):=by
      rcases he with z|z
      . exact absurd (JN.trans z) hb
      . rw[JN];exact z
     rw[q]at q';cases q'
     obtain⟨v,hv⟩:=OA
     exact⟨v,by rw[JN];exact hv⟩
   . refine(ok b u q).stay (λc v hc r=>k c v ?_ r) (λc r=>by rw[ay (Zh c b r)];exact r) λc xs r=>by rw[ay (agr c xs r)];exact r
     rcases hc with rfl|hc
     . exact JN
     . rintro rfl
       rcases he with z|z
       . exact Zh c b hc z
       . rw[hc]at z;cases z;exact hb rfl
end
structure Un(fs ex:List Addr)(H H':Hp)(h h':Heap):Prop where
 keep:∀b o,h.get? b=some o->H b=none->b∉fs->b∉ex->h'.get? b=some o
 slot:∀b o,h.get? b=some o->H b=none->b∈fs->b∉ex->∃sl,h'.get? b=some { o with slots:=sl }
 free:∀b o,h.get? b=some o->H b=none->b∉ex->H' b=none
 there:∀b o,h.get? b=some o->b∉ex->∃o',h'.get? b=some o'
 tups:∀b xs,H b=some (.tup xs)->H' b=some (.tup xs)
 tM:∀b o u,H b=some (.fB o u)->H' b=some (.fB o u)
 xr:∀b ps,H b=some (.JM ps)->∃more,H' b=some (.JM (ps++more))
section
variable {fs fs' ex ex':List Addr}{H H1 H2:Hp}{h h1 h2 h':Heap}{a x e:Addr}{o:HO}
theorem Un.any(u:Un fs ex H H1 h h1)(q:h.get? b=some ob)(n:H b=none)(hx:b∉ex):∃sl,h1.get? b=some { ob with slots:=sl }:=by
 by_cases hb:b∈fs
 .exact u.slot b ob q n hb hx
 .exact ⟨ob.slots,u.keep b ob q n hb hx⟩
theorem Un.kept(k:∀b u,h.get? b=some u->h'.get? b=some u):Un fs ex H H h h':=⟨λb ob q _ _ _=>k b ob q,λb ob q _ _ _=>⟨ob.slots,k b ob q⟩,λ_ _ _ n _=>n,λb ob q _=>⟨ob,k b ob q⟩,λ_ _ q=>q,λ_ _ _ q=>q,λ_ ps q=>⟨#[],by rw[q];simp⟩⟩
theorem Un.refl:Un fs ex H H h h:=Un.kept λ_ _ q=>q
theorem Un.laid(k:∀b u,h.get? b=some u->h'.get? b=some u)(hp:h.objs.size<=a)(hn:H a=none):Un fs ex H (upd H a o) h h' where
 keep:=λb u q _ _ _=>k b u q
 slot:=λb u q _ _ _=>⟨u.slots,k b u q⟩
 free:=λb u q n _=>by rw[ay (d8 (lS (bU q) hp))];exact n
 there:=λb u q _=>⟨u,k b u q⟩
 tups:=λb xs q=>by rw[ay (aD q hn)];exact q
 tM:=λb u xs q=>by rw[ay (aD q hn)];exact q
 xr:=λb ps q=>⟨#[],by rw[ay (aD q hn),q];simp⟩
theorem Un.write(mu:RE (H x))(he:e=x\/H e=some (.own x))(k:∀b u,b≠e->h.get? b=some u->h'.get? b=some u)(OA:∃u,h'.get? e=some u):Un fs ex H (upd H x o) h h':=by
 have hx:∀b,H b=none->b≠x:=λb n z=>by subst z;rw[n]at mu;exact mu
 have hb:∀b,H b=none->b≠e:=λb n z=>by
  subst z;rcases he with r|r
  .exact hx b n r
  .rw [n]at r;cases r
 have hm:∀b u,H b=some u->¬ RE (some u)->b≠x:=λb u q nm z=>by subst z;rw[q]at mu;exact nm mu
 refine⟨λb u q n _ _=>k b u (hb b n) q,λb u q n _ _=>⟨u.slots,k b u (hb b n) q⟩,λb u q n _=>by rw[ay (hx b n)];exact n,λb u q _=>?_,
  λb xs q=>by rw[ay (hm b _ q λz=>z)];exact q,λb u xs q=>by rw[ay (hm b _ q λz=>z)];exact q,λb ps q=>⟨#[],by rw[ay (hm b _ q λz=>z),q];simp⟩⟩
 by_cases JN:b=e
 .subst JN;exact OA
 .exact ⟨u,k b u JN q⟩
end
def Wm(h:Heap)(H:Hp):List Addr:=(List.range h.objs.size).filter λa=>(H a).isSome
def yx(h:Heap)(H:Hp):Heap:=PySem.W.hideAll h (Wm h H)
theorem RG(h:Heap)(H:Hp):(yx h H).objs.size=h.objs.size:=PySem.W.hideAll_size _ _
theorem Ux{o:Obj}(e:h.get? b=some o)(n:H b=none):(yx h H).get? b=some o:=PySem.W.hideAll_get _ e λhm=>by have q:(H b).isSome=true:=(mZ.mp hm).2;rw[n]at q;simp at q
theorem Xy{o:Obj}(e:(yx h H).get? b=some o):h.get? b=some o/\H b=none:=by
 have e':h.get? b=some o:=PySem.W.of_hideAll (Wm h H) e;refine⟨e',?_⟩;cases q:H b with
 | none=>rfl
 | some x=>have hm:b∈Wm h H:=mZ.mpr ⟨yr.mpr (bU e'),by simp[q]⟩;have z:(yx h H).get? b=none:=PySem.W.hideAll_none (Wm h H) hm;rw[z]at e;cases e
structure Mod(K:Fg)(mg:SO)(base:Heap):Prop where
 RH:K.In base
 glob:base.Ns mainGlobals mg
 blt:∃mb,base.Ns builtinsNs mb/\∀x:Str,x ≠ "__name__"->mb x=bootBuiltins x
 nolimit:base.NoLimit
structure Cx where
 prog:Program
 w:World
 K:Fg
 mg:Str->Option Value
 base:Heap
 A:Around
 N:List Str
 s₀:Shared
 H₀:Hp
 env:Env
 outer:List Env
 stack:List Env
 ex:List Addr
 fn:Str->Bool
 calm:Bool
 pn:List (Addr×Obj)
 xe:Value->Shared->Prop
def frs(l:List Env):List Addr:=l.filterMap (·.frame)
abbrev Cx.fs(X:Cx):List Addr:=frs X.outer
def Wn(sc:Scope)(x:Str):Prop:=sc.names.lookup x=some .local\/sc.names.lookup x=some .cell\/sc.names.lookup x=some .free
def Loc(sc:Scope)(x:Str):Prop:=sc.names.lookup x=some .local\/sc.names.lookup x=some .cell
def Look(env:Env)(h:Heap)(m:SO)(x:Str)(u:Value):Prop:=(env.kindOf x=some .local/\m x=some u)\/((env.kindOf x=some .cell\/env.kindOf x=some .free)/\∃c,env.cells.lookup x=some c/\h.IsCell c (some u))
structure Cx.Ok(X:Cx):Prop where
 mod:Mod X.K X.mg X.base
 kind:X.env.scope.kind =.function
 glob:X.env.globals=mainGlobals
 blt:X.env.builtins=builtinsNs
 above:X.s₀.heap.objs.size<=X.env.locals
 inj:∀x y c,X.env.cells.lookup x=some c->X.env.cells.lookup y=some c->x=y
 has:∀x,(X.env.kindOf x=some .cell\/X.env.kindOf x=some .free)->∃c,X.env.cells.lookup x=some c
 fD:∀x c,X.fn x=true->X.env.cells.lookup x=some c->X.s₀.heap.objs.size<=c
 hd:X.calm=true->X.A.handled=none
 frames:X.A.frames=some X.stack
 stk:X.stack=X.outer\/(X.stack=X.env::X.outer/\X.env.frame=some X.env.locals)
 Gk:∀b∈X.ex,b≠X.env.locals/\∀x c,X.env.cells.lookup x=some c->c≠b
 bs:∀b o,X.base.get? b=some o->X.s₀.heap.get? b=some o/\X.H₀ b=none
 Gm:X.base.objs.size<=X.s₀.heap.objs.size
 JO:∀b o,X.base.get? b=some o->b∉X.ex
 BX:∀b∈X.ex,b∉X.fs
 tN:X.s₀.heap.FunFrames X.base X.outer
 JP:∀b∈X.fs,X.H₀ b=none
structure Inv(X:Cx)(pins:AO)(σ:List (Option V))(H:Hp)(s:Shared):Prop where
 ok:X.Ok
 os:s.os=X.s₀.os
 bare:AllBare s.gens
 base:Un X.fs X.ex X.H₀ H X.s₀.heap s.heap
 loc:∃m,s.heap.Ns X.env.locals m/\∀(i:Nat)(x:Str)(v:V),X.N[i]?=some x->σ[i]?=some (some v)->Wn X.env.scope x->∃u,RelV v u/\Look X.env s.heap m x u
 cell:∀x c,X.env.cells.lookup x=some c->∃v,s.heap.IsCell c v
 free:H X.env.locals=none
 oh:∀x c,X.env.cells.lookup x=some c->H c=none
 pin:∀p∈X.pn++pins,s.heap.get? p.1=some p.2/\H p.1=none/\p.1≠X.env.locals/\p.1∉X.fs/\∀v,p.2.data ≠ .cell v
 hok:jj X.prog X.w H s.heap
 len:σ.length=X.N.length
variable {g':Array GenState}{t' i j:Nat}{ch:List Addr}{it:Addr}{N:List Str}{x:Str}{M:Model}{E:VS}{u:Value}{Q:Unit->Shared->Prop}
section
variable {X:Cx}{pins:AO}{σ:List (Option V)}{H H':Hp}{s:Shared}{h':Heap}
theorem Cx.Ok.ags(ok:X.Ok){o:Obj}(e:X.base.get? b=some o):b∉X.fs:=λhb=>by have:=(ok.tN.mem hb).1;rw[e]at this;cases this
theorem Inv.bs(I:Inv X pins σ H s):∀b o,X.base.get? b=some o->s.heap.get? b=some o/\H b=none:=λb o e=>
 ⟨I.base.keep b o (I.ok.bs b o e).1 (I.ok.bs b o e).2 (I.ok.ags e) (I.ok.JO b o e),I.base.free b o (I.ok.bs b o e).1 (I.ok.bs b o e).2 (I.ok.JO b o e)⟩
theorem Inv.bk(I:Inv X pins σ H s):∀b o,X.base.get? b=some o->s.heap.get? b=some o:=λb o e=>(I.bs b o e).1
theorem Inv.mod(I:Inv X pins σ H s):Mod X.K X.mg X.base:=I.ok.mod
theorem Inv.uQ(I:Inv X pins σ H s):X.K.In s.heap:=I.ok.mod.RH.keeps I.bk
theorem Inv.lt(I:Inv X pins σ H s):X.env.locals<s.heap.objs.size:=let⟨_,hn,_⟩:=I.loc;hn.lt
theorem Inv.sz(I:Inv X pins σ H s):X.s₀.heap.objs.size<=s.heap.objs.size:=gh I.ok.above (A0 I.lt)
theorem Inv.agt(I:Inv X pins σ H s)(h:s.heap.objs.size<=a):a∉X.fs:=λhb=>by obtain⟨_,o,ho,_⟩:=I.ok.tN.mem hb;exact absurd (lS (bU ho) (gh I.sz h)) (i7 _)
theorem Inv.JQ(I:Inv X pins σ H s):∀x c,X.env.cells.lookup x=some c->c≠X.env.locals:=λx c e z=>by obtain⟨v,o,ho,hd⟩:=I.cell x c e;obtain⟨m,⟨o',es,ep,ho',hd',_⟩,_⟩:=I.loc;rw[z,ho']at ho;cases ho;rw[hd']at hd;cases hd
theorem Inv.tN(I:Inv X pins σ H s):s.heap.FunFrames X.base X.outer:=by
 have all:∀(l:List Env),(∀b∈frs l,b∈X.fs)->X.s₀.heap.FunFrames X.base l->s.heap.FunFrames X.base l:=by
  intro l
  induction l with
  | nil=>intro _ _;trivial
  | cons env r ih=>intro hs hl;obtain⟨hk,⟨L,o,hf,hn,ho,hd⟩,hr⟩:=hl;have hL:L∈X.fs:=hs L (by unfold frs;rw[BU,hf];exact cU);obtain⟨sl,e⟩:=I.base.slot L o ho (I.ok.JP L hL) hL λz=>I.ok.BX L z hL;exact⟨hk,⟨L,_,hf,hn,e,hd⟩,ih (λb hb=>hs b (by unfold frs;rw[BU,hf];exact cA _ hb)) hr⟩
 exact all X.outer (λ_ hb=>hb) I.ok.tN
theorem Inv.stack(I:Inv X pins σ H s):s.heap.FunFrames X.base X.stack:=by
 rcases I.ok.stk with e|⟨e,hf⟩
 .rw [e];exact I.tN
 .rw [e];obtain⟨m,hn,_⟩:=I.loc;refine .cons (by rw[I.ok.kind];decide) hf hn ?_ I.tN;exact Heap.get?_none_of_le (gh I.ok.Gm I.ok.above)
theorem Inv.JR(I:Inv X pins σ H s):∀b∈frs X.stack,b∈X.env.locals::X.fs:=λb hb=>by
 rcases I.ok.stk with e|⟨e,hf⟩
 .rw [e]at hb;exact cA _ hb
 .rw [e]at hb;unfold frs at hb;rw[BU,hf]at hb;exact hb
theorem Inv.OB(I:Inv X pins σ H s):∀b∈frs X.stack,H b=none:=λb hb=>by
 rcases cK.mp (I.JR b hb)with e|hb
 .rw [e];exact I.free
 .obtain ⟨_,o,ho,_⟩:=I.ok.tN.mem hb;exact I.base.free b o ho (I.ok.JP b hb) λz=>I.ok.BX b z hb
theorem Inv.step{d':Drawn}(I:Inv X pins σ H s)(hch:∀b∈ch,(b∈X.ex\/X.s₀.heap.objs.size<=b)/\b≠X.env.locals/\(∀x c,X.env.cells.lookup x=some c->c≠b)/\∀p∈X.pn++pins,p.1≠b)(keep:∀b o,b≠X.env.locals->b∉X.fs->b∉ch->s.heap.get? b=some o->H b=none->h'.get? b=some o)(slot:∀b o,b≠X.env.locals->b∈X.fs->b∉ch->s.heap.get? b=some o->H b=none->∃sl,h'.get? b=some { o with slots:=sl })(free:∀b o,b∉ch->s.heap.get? b=some o->H b=none->H' b=none)(there:∀b o,b∉ch->s.heap.get? b=some o->∃o',h'.get? b=some o')(tups:∀b xs,H b=some (.tup xs)->H' b=some (.tup xs))(tM:∀b o u,H b=some (.fB o u)->H' b=some (.fB o u))(xr:∀b ps,H b=some (.JM ps)->∃more,H' b=some (.JM (ps++more)))(ns:∀m,s.heap.Ns X.env.locals m->h'.Ns X.env.locals m)(hok:jj X.prog X.w H' h')(hg:AllBare g'):
  Inv X pins σ H' { s with heap:=h',gens:=g',drawn:=d',toks:=t' }:=by
 have neL:∀b o,X.s₀.heap.get? b=some o->b≠X.env.locals:=λb o e=>d8 (lS (bU e) I.ok.above)
 have Wo:∀b o,X.s₀.heap.get? b=some o->b∉X.ex->b∉ch:=λb o e hx hb=>by
  rcases(hch b hb).1 with z|z
  .exact hx z
  .exact absurd (lS (bU e) z) (i7 _)
 have cellK:∀x c,X.env.cells.lookup x=some c->∀v,s.heap.IsCell c v->h'.IsCell c v:=λx c e v ⟨o,ho,hd⟩=>by
  have xR:c∉ch:=λz=>(hch c z).2.2.1 x c e rfl;by_cases hc:c∈X.fs
  .obtain ⟨sl,q⟩:=slot c o (I.JQ x c e) hc xR ho (I.oh x c e);exact⟨_,q,hd⟩
  .exact ⟨o,keep c o (I.JQ x c e) hc xR ho (I.oh x c e),hd⟩
 refine⟨I.ok,I.os,hg,⟨λb o e n hb hx=>?_,λb o e n hb hx=>?_,λb o e n hx=>?_,λb o e hx=>?_,λb xs e=>tups b xs (I.base.tups b xs e),λb o xs e=>tM b o xs (I.base.tM b o xs e),λb ps e=>?_⟩,?_,λx c e=>?_,?_,λx c e=>?_,λp hp=>?_,hok,I.len⟩
 . exact keep b o (neL b o e) hb (Wo b o e hx) (I.base.keep b o e n hb hx) (I.base.free b o e n hx)
 . obtain⟨sl,e1⟩:=I.base.slot b o e n hb hx
   obtain⟨sl',e2⟩:=slot b _ (neL b o e) hb (Wo b o e hx) e1 (I.base.free b o e n hx)
   exact⟨sl',e2⟩
 . obtain⟨o',e1⟩:=I.base.there b o e hx
   exact free b o' (Wo b o e hx) e1 (I.base.free b o e n hx)
 . obtain⟨o',e1⟩:=I.base.there b o e hx
   exact there b o' (Wo b o e hx) e1
 . obtain⟨m1,e1⟩:=I.base.xr b ps e
   obtain⟨m2,e2⟩:=xr b _ e1
   exact⟨m1++m2,by rw[e2,Array.append_assoc]⟩
 . obtain⟨m,hn,hl⟩:=I.loc
   refine⟨m,ns m hn,λi x v e1 e2 e3=>?_⟩
   obtain⟨u,r,l⟩:=hl i x v e1 e2 e3
   refine⟨u,r,?_⟩
   rcases l with l|⟨k,c,e,z⟩
   . exact .inl l
   . exact .inr ⟨k,c,e,cellK x c e _ z⟩
 . obtain⟨v,z⟩:=I.cell x c e
   exact⟨v,cellK x c e v z⟩
 . obtain⟨m,⟨o,_,_,ho,_⟩,_⟩:=I.loc
   exact free _ o (λz=>(hch _ z).2.1 rfl) ho I.free
 . obtain⟨v,o,ho,hd⟩:=I.cell x c e
   exact free c o (λz=>(hch c z).2.2.1 x c e rfl) ho (I.oh x c e)
 . obtain⟨e,n,ne,nf,d⟩:=I.pin p hp
   have xR:p.1∉ch:=λz=>(hch p.1 z).2.2.2 p hp rfl
   exact⟨keep p.1 p.2 ne nf xR e n,free p.1 p.2 xR e n,ne,nf,d⟩
theorem Inv.un(I:Inv X pins σ H s)(u:Un X.fs [] H H' s.heap h')(hok:jj X.prog X.w H' h'):Inv X pins σ H' { s with heap:=h',toks:=t' }:=by obtain⟨m,⟨o,es,ep,ho,r⟩,_⟩:=id I.loc;obtain⟨sl,hL⟩:=u.any ho I.free (by simp);exact I.step (g':=s.gens) (d':=s.drawn) (ch:=[]) (λ_ z=>nomatch z) (λb o _ hb _ e n=>u.keep b o e n hb (by simp)) (λb o _ hb _ e n=>u.slot b o e n hb (by simp)) (λb o _ e n=>u.free b o e n (by simp)) (λb o _ e=>u.there b o e (by simp)) u.tups u.tM u.xr (λm' hm=>by obtain⟨o',es',xS,ho',r'⟩:=hm;rw[ho]at ho';cases ho';exact⟨_,es',xS,hL,r'⟩) hok I.bare
theorem Inv.call{d':Drawn}(I:Inv X pins σ H s)(u:Un (frs X.stack) ch H H' s.heap h')(hok:jj X.prog X.w H' h')(hg:AllBare g')(hch:∀b∈ch,(b∈X.ex\/X.s₀.heap.objs.size<=b)/\b≠X.env.locals/\(∀x c,X.env.cells.lookup x=some c->c≠b)/\∀p∈X.pn++pins,p.1≠b):
  Inv X pins σ H' { s with heap:=h',gens:=g',drawn:=d',toks:=t' }:=by
 obtain⟨m,⟨o,es,ep,ho,r⟩,_⟩:=id I.loc
 obtain⟨sl,hL⟩:=u.any ho I.free λz=>(hch _ z).2.1 rfl
 exact I.step (ch:=ch) hch (λb o hL hb hc e n=>u.keep b o e n (λz=>(cK.mp (I.JR b z)).elim hL hb) hc) (λb o _ _ hc e n=>u.any e n hc) (λb o hc e n=>u.free b o e n hc) (λb o hc e=>u.there b o e hc) u.tups u.tM u.xr (λm' hm=>by obtain⟨o',es',xS,ho',r'⟩:=hm;rw[ho]at ho';cases ho';exact⟨_,es',xS,hL,r'⟩) hok hg
theorem Inv.turned(I:Inv X pins σ H s)(k:∀b o,b≠it->s.heap.get? b=some o->h'.get? b=some o)(hn:H it=none)(hL:it≠X.env.locals)(h1:it∈X.ex\/X.s₀.heap.objs.size<=it)(h2:∀x c,X.env.cells.lookup x=some c->c≠it)(h3:∀p∈X.pn++pins,p.1≠it):Inv X pins σ H { s with heap:=h',toks:=t' }:=by
 have nit:∀b u,H b=some u->b≠it:=λb u e z=>by rw[z,hn]at e;cases e
 refine I.step (g':=s.gens) (d':=s.drawn) (ch:=[it]) (λb hb=>?_) (λb o _ _ hc e _=>k b o (λz=>hc (by simp[z])) e) (λb o _ _ hc e _=>⟨o.slots,k b o (λz=>hc (by simp[z])) e⟩) (λ_ _ _ _ n=>n)
  (λb o hc e=>⟨o,k b o (λz=>hc (by simp[z])) e⟩) (λ_ _ e=>e) (λ_ _ _ e=>e) (λb ps e=>⟨#[],by rw[e];simp⟩) (λm hm=>?_) (λb u e=>?_) I.bare
 . have e:b=it:=by simpa using hb
   subst e
   exact⟨h1,hL,h2,h3⟩
 . obtain⟨o,es,ep,ho,r⟩:=hm
   exact⟨o,es,ep,k _ o (bX hL) ho,r⟩
 . refine(I.hok b u e).stay (λc v hc q=>k c v ?_ q) (λ_ q=>q) λ_ _ q=>q
   rcases hc with z|z
   . rw[z];exact nit b u e
   . exact nit c _ z
theorem Inv.tok(I:Inv X pins σ H s)(t:Nat):Inv X pins σ H { s with toks:=t }:=I.un (h':=s.heap) (t':=t) Un.refl I.hok
theorem Inv.kept(I:Inv X pins σ H s)(k:∀b u,s.heap.get? b=some u->h'.get? b=some u):Inv X pins σ H { s with heap:=h',toks:=t' }:=I.un (Un.kept k) (I.hok.kept k)
theorem Inv.laid(I:Inv X pins σ H s)(k:∀b u,s.heap.get? b=some u->h'.get? b=some u)(hp:s.heap.objs.size<=a)(new:fP X.prog X.w (upd H a o) h' a o):Inv X pins σ (upd H a o) { s with heap:=h',toks:=t' }:=I.un (Un.laid k hp (I.hok.fresh hp)) (I.hok.laid k hp new)
theorem Inv.write{x e:Addr}(I:Inv X pins σ H s)(mu:RE (H x))(he:e=x\/H e=some (.own x))(k:∀b u,b≠e->s.heap.get? b=some u->h'.get? b=some u)(OA:∃u,h'.get? e=some u)(new:fP X.prog X.w (upd H x o) h' x o):Inv X pins σ (upd H x o) { s with heap:=h',toks:=t' }:=I.un (Un.write mu he k OA) (I.hok.write mu he k OA new)
theorem Inv.OC{Wq:AO}(I:Inv X pins σ H s)(h:∀p∈Wq,s.heap.get? p.1=some p.2/\H p.1=none/\p.1≠X.env.locals/\p.1∉X.fs/\∀v,p.2.data ≠ .cell v):Inv X Wq σ H s:=⟨I.ok,I.os,I.bare,I.base,I.loc,I.cell,I.free,I.oh,λp hp=>(fu.mp hp).elim (λz=>I.pin p (zQ _ z)) (h p),I.hok,I.len⟩
theorem BY(hN:N.Nodup)(a:N[i]?=some x)(b:N[j]?=some x):i=j:=by obtain⟨h1,e1⟩:=dY.mp a;obtain⟨h2,e2⟩:=dY.mp b;exact(List.getElem_inj hN).mp (e1.trans e2.symm)
theorem Gn{A:Around}{v:V}(I:Inv X pins σ H s)(hN:X.N.Nodup)(hi:X.N[i]?=some x)(hx:Loc X.env.scope x)(r:RelV v u)(h:∀s',Inv X pins (σ.set i (some v)) H s'->(∃a,Heap.SameBut a s.heap s'.heap/\(a=X.env.locals\/X.env.cells.lookup x=some a))->Q () s')(hf:X.fn x=true\/X.env.scope.names.lookup x=some .local:=by first|exact .inl rfl|exact .inr rfl|assumption):wpAny M A (storeName X.env x u) Q E s:=by
 obtain⟨m,hn,hl⟩:=id I.loc
 have hcls:(X.env.scope.kind ==.class || (X.env.scope.kind ==.module && X.env.locals != X.env.globals))=false:=by rw[I.ok.kind];rfl
 have hiσ:i<σ.length:=by rw[I.len];exact(dY.mp hi).1
 have JQ:=I.JQ
 have tracked:∀{a:Addr}{h':Heap},(∃o,s.heap.get? a=some o/\H a=none)->Heap.SameBut a s.heap h'->jj X.prog X.w H h':=λ{a h'} ha hs b ob e=>by
  obtain⟨_,_,hfree⟩:=ha;refine(I.hok b ob e).stay (λc w' hc q=>(hs.2 c ?_).trans q) (λ_ q=>q) λ_ _ q=>q;rintro rfl;rcases hc with rfl|hc
  .rw [hfree]at e;cases e
  .rw [hfree]at hc;cases hc
 rcases hx with hk|hk
 . refine wpAny_storeName_local hk hn (λh' hn' hs=>?_) hcls
   obtain⟨oL,_,_,hoL,_⟩:=id hn
   refine h _ ⟨I.ok,I.os,I.bare,⟨λb o e n hb hx=>?_,λb o e n hb hx=>?_,I.base.free,λb o e hx=>?_,I.base.tups,I.base.tM,I.base.xr⟩,⟨_,hn',λj y v' e1 e2 e3=>?_⟩,λy c e=>?_,I.free,I.oh,λp hp=>?_,tracked ⟨oL,hoL,I.free⟩ hs,by simpa using I.len⟩ ⟨_,hs,.inl rfl⟩
   . exact(hs.2 b (d8 (lS (bU e) I.ok.above))).trans (I.base.keep b o e n hb hx)
   . obtain⟨sl,e1⟩:=I.base.slot b o e n hb hx
     exact⟨sl,(hs.2 b (d8 (lS (bU e) I.ok.above))).trans e1⟩
   . obtain⟨o',e1⟩:=I.base.there b o e hx
     exact⟨o',(hs.2 b (d8 (lS (bU e) I.ok.above))).trans e1⟩
   . by_cases hj:j=i
     . subst hj
       rw[hi]at e1;cases e1
       rw[qM hiσ]at e2
       cases e2
       exact⟨u,r,.inl ⟨hk,by simp⟩⟩
     . rw[zR (bX hj)]at e2
       obtain⟨u',r',q⟩:=hl j y v' e1 e2 e3
       refine⟨u',r',?_⟩
       rcases q with⟨k,e⟩|⟨k,c,e,z⟩
       . refine .inl ⟨k,?_⟩
         have:y≠x:=λe=>hj (BY hN e1 (e▸hi))
         simp[this,e]
       . exact .inr ⟨k,c,e,z.sameBut hs (JQ y c e)⟩
   . obtain⟨w',z⟩:=I.cell y c e
     exact⟨w',z.sameBut hs (JQ y c e)⟩
   . obtain⟨e,n,ne,nf,d⟩:=I.pin p hp
     exact⟨(hs.2 p.1 ne).trans e,n,ne,nf,d⟩
 . have hfn:X.fn x=true:=by
    rcases hf with z|z
    . exact z
    . rw[z]at hk;cases hk
   obtain⟨c,hc⟩:=I.ok.has x (.inl hk)
   obtain⟨w',z⟩:=I.cell x c hc
   refine wpAny_storeName_cell I.ok.kind hk hc z (λh' hc' hs=>?_)
   obtain⟨oc,hoc,agu⟩:=id z
   refine h { s with heap:=h' } ⟨I.ok,I.os,I.bare,⟨λb o e n hb hx=>?_,λb o e n hb hx=>?_,I.base.free,λb o e hx=>?_,I.base.tups,I.base.tM,I.base.xr⟩,⟨m,hn.sameBut hs (bX (JQ x c hc)),λj y v' e1 e2 e3=>?_⟩,λy c' e=>?_,I.free,I.oh,λp hp=>?_,tracked ⟨oc,hoc,I.oh x c hc⟩ hs,by simpa using I.len⟩ ⟨c,hs,.inr hc⟩
   . exact(hs.2 b (d8 (lS (bU e) (I.ok.fD x c hfn hc)))).trans (I.base.keep b o e n hb hx)
   . obtain⟨sl,e1⟩:=I.base.slot b o e n hb hx
     exact⟨sl,(hs.2 b (d8 (lS (bU e) (I.ok.fD x c hfn hc)))).trans e1⟩
   . obtain⟨o',e1⟩:=I.base.there b o e hx
     exact⟨o',(hs.2 b (d8 (lS (bU e) (I.ok.fD x c hfn hc)))).trans e1⟩
   . by_cases hj:j=i
     . subst hj
       rw[hi]at e1;cases e1
       rw[qM hiσ]at e2
       cases e2
       exact⟨u,r,.inr ⟨.inl hk,c,hc,hc'⟩⟩
     . rw[zR (bX hj)]at e2
       obtain⟨u',r',q⟩:=hl j y v' e1 e2 e3
       refine⟨u',r',?_⟩
       rcases q with q|⟨k,c',e,z'⟩
       . exact .inl q
       . refine .inr ⟨k,c',e,z'.sameBut hs ?_⟩
         rintro rfl
         exact hj (BY hN e1 (I.ok.inj _ _ _ e hc▸hi))
   . by_cases hcc:c'=c
     . subst hcc;exact⟨_,hc'⟩
     . obtain⟨w2,z2⟩:=I.cell y c' e
       exact⟨w2,z2.sameBut hs hcc⟩
   . obtain⟨e,n,ne,nf,d⟩:=I.pin p hp
     refine⟨(hs.2 p.1 ?_).trans e,n,ne,nf,d⟩
     intro q
     rw[q,hoc]at e
     have q':oc=p.2:=fE e
     exact d w' (by rw[<-q'];exact agu)
theorem yy{A:Around}{v:V}(I:Inv X pins σ H s)(hN:X.N.Nodup)(hi:X.N[i]?=some x)(hx:Loc X.env.scope x)(r:RelV v u)(h:∀s',Inv X pins (σ.set i (some v)) H s'->Q () s')(hf:X.fn x=true\/X.env.scope.names.lookup x=some .local:=by first|exact .inl rfl|exact .inr rfl|assumption):wpAny M A (storeName X.env x u) Q E s:=
 Gn I hN hi hx r (λs' I' _=>h s' I') hf
theorem Inv.Qx{s':Shared}(I:Inv X pins σ H s)(ho:s'.os=s.os)(u:Un (frs X.stack) ch H H' s.heap s'.heap)(hok:jj X.prog X.w H' s'.heap)(hg:AllBare s'.gens)(hch:∀b∈ch,(b∈X.ex\/X.s₀.heap.objs.size<=b)/\b≠X.env.locals/\(∀x c,X.env.cells.lookup x=some c->c≠b)/\∀p∈X.pn++pins,p.1≠b):Inv X pins σ H' s':=by
 obtain⟨h',g',d',t',o'⟩:=s'
 have e:o'=s.os:=ho
 subst e
 exact I.call (g':=g') (t':=t') (d':=d') u hok hg hch
end
abbrev XK:=Value->Option Addr->Hp->Prop
abbrev St:=List (Option V)
abbrev VK:=V->Hp->Prop
abbrev TE:=St->Hp->VK->Prop
abbrev TT:=St->Hp->(Bool->Hp->Prop)->Prop
abbrev TA:=St->Hp->(List V->Hp->Prop)->Prop
structure Ends where
 nx:St->Hp->Prop
 rt:VK
 bk:St->Hp->Prop:=λ_ _=>False
 ct:St->Hp->Prop:=λ_ _=>False
abbrev TS:=Ends->St->Hp->Prop
def EP(X:Cx)(pins:AO)(σ:St)(Q:VK)(u:Value)(s':Shared):Prop:=∃v H',Inv X pins σ H' s'/\RelV v u/\Q v H'
def TP(X:Cx)(pins:AO)(σ:St)(Q:Bool->Hp->Prop)(b:Bool)(s':Shared):Prop:=∃H',Inv X pins σ H' s'/\Q b H'
def AP(X:Cx)(pins:AO)(σ:St)(Q:List V->Hp->Prop)(us:List Value)(s':Shared):Prop:=∃vs H',Inv X pins σ H' s'/\Vals vs us/\Q vs H'
def SP(X:Cx)(pins:AO)(D:Ends)(f:Flow)(s':Shared):Prop:=match f with
 | .next=>∃σ' H',Inv X pins σ' H' s'/\D.nx σ' H'
 | .brk=>∃σ' H',Inv X pins σ' H' s'/\D.bk σ' H'
 | .cont=>∃σ' H',Inv X pins σ' H' s'/\D.ct σ' H'
 | .ret u=>∃v σ' H',Inv X pins σ' H' s'/\RelV v u/\D.rt v H'
def PE(X:Cx)(e:Expr)(t:TE):Prop:=∀(pins:AO)(s:Shared)(σ:St)(H:Hp)(Q:VK),Inv X pins σ H s->t σ H Q->wpAny (model X.prog X.w) X.A (eval e X.env) (EP X pins σ Q) X.xe s
def PT(X:Cx)(e:Expr)(t:TT):Prop:=∀(pins:AO)(s:Shared)(σ:St)(H:Hp)(Q:Bool->Hp->Prop),Inv X pins σ H s->t σ H Q->wpAny (model X.prog X.w) X.A (isTrue e X.env (eval e X.env)) (TP X pins σ Q) X.xe s
def PW(X:Cx)(e:Expr)(t:TT):Prop:=∀(whole:Sem Value)(pins:AO)(s:Shared)(σ:St)(H:Hp)(Q:Bool->Hp->Prop),Inv X pins σ H s->t σ H Q->wpAny (model X.prog X.w) X.A (isTrue e X.env whole) (TP X pins σ Q) X.xe s
variable {X:Cx}{e:Expr}
theorem PW.pt{t:TT}(h:PW X e t):PT X e t:=h _
def PA(X:Cx)(es:List Expr)(t:TA):Prop:=∀(pos:Pos)(pins:AO)(s:Shared)(σ:St)(H:Hp)(Q:List V->Hp->Prop),Inv X pins σ H s->t σ H Q->wpAny (model X.prog X.w) X.A (spliced (backTo pos (starEach es X.env))) (AP X pins σ Q) X.xe s
def PS(X:Cx)(st:Stmt)(t:TS):Prop:=∀(pins:AO)(s:Shared)(σ:St)(H:Hp)(D:Ends),Inv X pins σ H s->t D σ H->wpAny (model X.prog X.w) X.A (exec st X.env) (SP X pins D) X.xe s
def wF(X:Cx)(st:List Stmt)(t:TS):Prop:=∀(pins:AO)(s:Shared)(σ:St)(H:Hp)(D:Ends),Inv X pins σ H s->t D σ H->wpAny (model X.prog X.w) X.A (execs st X.env) (SP X pins D) X.xe s
variable {s:Shared}
theorem bh{α:Type}{t:Sem α}{Q Q':α->Shared->Prop}{A:Around}(h:wpAny M A t Q E s)(hQ:∀a s,Q a s->Q' a s):wpAny M A t Q' E s:=gH h hQ λ_ _ x=>x
variable {pos:Pos}{pins:AO}{σ:St}
section
variable {X:Cx}
inductive EK(i:Nat)(σ:St)(H:Hp)(Q:VK):Prop
 |mk(v:_)(_:σ[i]?=some (some v))(_:Q v H)
def tC(v:V):TE:=λ_ H Q=>Q v H
theorem Zi(hN:X.N[i]?=some x)(hv:Wn X.env.scope x)(hd:(x==("__debug__":Str))=false:=by decide)(hcd:(x==("__classdict__":Str))=false:=by decide):PE X (.Name x pos) (EK i):=by
 intro pins s σ H Q I h;obtain⟨v,e,h⟩:=h;obtain⟨m,hn,hl⟩:=I.loc;obtain⟨u,r,l⟩:=hl i x v hN e hv;have fin:EP X pins σ Q u s:=⟨v,H,I,r,h⟩
 rcases l with⟨hk,hm⟩|⟨hk,c,hc,hcell⟩
 .exact wpAny_Name (wpAny_loadName_local I.ok.kind hk hn hm fin) hd
 .rcases hk with hk|hk
  .exact wpAny_Name (wpAny_loadName_cell I.ok.kind hk hc hcell fin) hd
  .exact wpAny_Name (wpAny_loadName_free I.ok.kind hk hc hcell fin hcd) hd
def Gl(X:Cx)(x:Str):Prop:=X.env.kindOf x=some .globalImplicit
theorem Ba{Q:VS}(I:Inv X pins σ H s)(hg:Gl X x)(hm:X.mg x=some u)(h:Q u s)(hd:(x==("__debug__":Str))=false:=by decide):wpAny (model X.prog X.w) X.A (eval (.Name x pos) X.env) Q E s:=
 Calls.Name_function_global I.ok.kind hg (Calls.loadGlobal_global (by rw[I.ok.glob];exact I.mod.glob.keeps I.bk) hm h) hd
theorem xT{Q:VS}(I:Inv X pins σ H s)(hg:Gl X x)(hm:X.mg x=none)(hv:bootBuiltins x=some u)(h:Q u s)(hn:x ≠ "__name__":=by decide)(hd:(x==("__debug__":Str))=false:=by decide):wpAny (model X.prog X.w) X.A (eval (.Name x pos) X.env) Q E s:=by
 obtain⟨mb,h1,h2⟩:=I.mod.blt
 exact Calls.Name_function_global I.ok.kind hg (Calls.loadGlobal_builtin (by rw[I.ok.glob];exact I.mod.glob.keeps I.bk) hm (by rw[I.ok.blt];exact h1.keeps I.bk) ((h2 x hn).trans hv) h) hd
variable {a b:Expr}{ta tb:TE}{pos:Pos}
def PC(X:Cx)(op:CmpOp)(a b:Expr)(t:TE):Prop:=∀(pins:AO)(s:Shared)(σ:St)(H:Hp)(Q:VK),Inv X pins σ H s->t σ H Q->wpAny (model X.prog X.w) X.A (eval a X.env) (λv s₁=>wpAny (model X.prog X.w) X.A (eval b X.env) (λu s₂=>wpAny (model X.prog X.w) X.A (compareOp op v u) (EP X pins σ Q) X.xe s₂) X.xe s₁) X.xe s
inductive yTB(Q:Bool->Hp->Prop)(x:V)(H1:Hp):Prop
 |mk(c:_)(_:x =.bl c)(_:Q c H1)
def tB(t:TE):TT:=λσ H Q=>t σ H (yTB Q)
variable {tA Wr:TT}{rest:List Expr}
def acQ(u:TT)(σ:St)(Q:Bool->Hp->Prop):Bool->Hp->Prop:=λc H1=>if c=true then u σ H1 Q else Q false H1
def agv(t u:TT):TT:=λσ H Q=>t σ H (acQ u σ Q)
def agw(u:TT)(σ:St)(Q:Bool->Hp->Prop):Bool->Hp->Prop:=λc H1=>if c=true then Q true H1 else u σ H1 Q
def tOr(t u:TT):TT:=λσ H Q=>t σ H (agw u σ Q)
abbrev acR(Q:Bool->Hp->Prop):Bool->Hp->Prop:=λc H1=>Q (!c) H1
def agx(t:TT):TT:=λσ H Q=>t σ H (acR Q)
inductive Zj(tb:TE)(σ:St)(Q:VK)(x:V)(H1:Hp):Prop
 |mk(c:_)(_:x =.bl c)(_:if c=true then tb σ H1 Q else Q (.bl false) H1)
def acS(ta tb:TE):TE:=λσ H Q=>ta σ H (Zj tb σ Q)
end
def aJ(K:Fg)(H:Hp)(a:Addr)(xs:List V):Prop:=Rd H a (.lst xs)\/
  ∃(o:Obj)(its:Array Value)(n:Nat),K.lookup a=some o/\o.cls =.type "list"/\o.dict=none/\o.data =.seq its n/\its.size<=sizeLine/\Vals xs its.toList
def dG(K:Fg)(H:Hp)(a:Addr)(xs:List V):Prop:=Rd H a (.tup xs)\/
  ∃(o:Obj)(its:Array Value)(n:Nat),K.lookup a=some o/\o.cls =.type "tuple"/\o.data =.seq its n/\its.size<=sizeLine/\Vals xs its.toList
def agy:Value->Option V
 | .none=>some .cW
 | .bool b=>some (.bl b)
 | .int i _=>some (.int i)
 | .str x _=>some (.str x)
 | .bytes b _=>some (.By b)
 | .float b _=>some (.Wl b)
 | .ref a=>some (.ref a)
 | .type n=>some (.ty n)
 | _=>none
theorem RelV.abs{x:V}(r:RelV x u):agy u=some x:=by
 cases x with
 | cW=>cases r;rfl
 | bl _=>cases r;rfl
 | int _=>obtain⟨t,rfl⟩:=r;rfl
 | str _=>obtain⟨t,rfl⟩:=r;rfl
 | By _=>obtain⟨t,rfl⟩:=r;rfl
 | Wl _=>obtain⟨t,rfl⟩:=r;rfl
 | ref _=>cases r;rfl
 | ty _=>cases r;rfl
variable {y:V}
theorem RelV.inj{x:V}(r:RelV x u)(q:RelV y u):x=y:=fE (r.abs.symm.trans q.abs)
theorem Vals.inj:∀{xs ys:List V}{us:List Value},Vals xs us->Vals ys us->xs=ys
 | _,_,_,.nil,.nil=>rfl
 | _,_,_,.cons r t,.cons r' t'=>by rw[r.inj r',Vals.inj t t']
variable {K:Fg}
section
variable {X:Cx}{pins:AO}{σ:St}{H:Hp}{s:Shared}{a:Addr}{xs ys:List V}
theorem aJ.of(h:H a=some (.lst xs)):aJ K H a xs:=.inl (.inl h)
theorem dG.of(h:H a=some (.tup xs)):dG K H a xs:=.inl (.inl h)
theorem Inv.list(I:Inv X pins σ H s)(h:aJ X.K H a xs):∃its:List Value,Vals xs its/\PlainL s.heap a its.toArray/\xs.length<=sizeLine:=by
 rcases h with h|⟨o,its,n,hk,hc,hd,hs,hz,r⟩
 .obtain ⟨z,its,n,r,e⟩:=h.ok I.hok;exact⟨its,r,⟨_,n,e,Z,Z,Z⟩,z⟩
 .refine ⟨its.toList,r,⟨o,n,I.uQ a o hk,hc,hd,by simpa using hs⟩,?_⟩;have e:=r.length;simp only[Array.length_toList]at e;omega
theorem Inv.tuple(I:Inv X pins σ H s)(h:dG X.K H a xs):∃its:List Value,Vals xs its/\IsTup s.heap a its.toArray/\xs.length<=sizeLine:=by
 rcases h with h|⟨o,its,n,hk,hc,hs,hz,r⟩
 .obtain ⟨z,its,r,p⟩:=h.ok I.hok;exact⟨its,r,p,z⟩
 .refine ⟨its.toList,r,⟨o,I.uQ a o hk,hc,n,by simpa using hs⟩,?_⟩;have e:=r.length;simp only[Array.length_toList]at e;omega
theorem Inv.Uy(I:Inv X pins σ H s)(h:aJ X.K H a xs)(h':aJ X.K H a ys):xs=ys:=by
 obtain⟨its,r,⟨o,n,e,_,_,d⟩,_⟩:=I.list h;obtain⟨its',r',⟨o',n',e',_,_,d'⟩,_⟩:=I.list h';rw[e]at e';cases e';rw[d]at d';injection d' with d1 _;have:its=its':=by simpa using ff Array.toList d1
 subst this;exact r.inj r'
end
abbrev Cx.xu(X:Cx)(E:VS):Cx:={ X with xe:=E }
abbrev Cx.BA(X:Cx):Cx:=X.xu λ_ _=>False
theorem Cx.Ok.xu(ok:X.Ok)(E:VS):(X.xu E).Ok:=⟨ok.mod,ok.kind,ok.glob,ok.blt,ok.above,ok.inj,ok.has,ok.fD,ok.hd,ok.frames,ok.stk,ok.Gk,ok.bs,ok.Gm,ok.JO,ok.BX,ok.tN,ok.JP⟩
theorem Cx.Ok.sM(ok:(X.xu E).Ok):X.Ok:=⟨ok.mod,ok.kind,ok.glob,ok.blt,ok.above,ok.inj,ok.has,ok.fD,ok.hd,ok.frames,ok.stk,ok.Gk,ok.bs,ok.Gm,ok.JO,ok.BX,ok.tN,ok.JP⟩
variable {D:Ends}
section
variable {X:Cx}{pins:AO}{σ:St}{H:Hp}{s:Shared}{E:VS}
theorem Inv.xu(I:Inv X pins σ H s)(E:VS):Inv (X.xu E) pins σ H s:=⟨I.ok.xu E,I.os,I.bare,I.base,I.loc,I.cell,I.free,I.oh,I.pin,I.hok,I.len⟩
theorem Inv.sM(I:Inv (X.xu E) pins σ H s):Inv X pins σ H s:=⟨I.ok.sM,I.os,I.bare,I.base,I.loc,I.cell,I.free,I.oh,I.pin,I.hok,I.len⟩
theorem SP.sM{f:Flow}{s':Shared}(h:SP (X.xu E) pins D f s'):SP X pins D f s':=by
 cases f with
 | next=>obtain⟨σ',H',I,q⟩:=h;exact⟨σ',H',I.sM,q⟩
 | brk=>obtain⟨σ',H',I,q⟩:=h;exact⟨σ',H',I.sM,q⟩
 | cont=>obtain⟨σ',H',I,q⟩:=h;exact⟨σ',H',I.sM,q⟩
 | ret u=>obtain⟨v,σ',H',I,r,q⟩:=h;exact⟨v,σ',H',I.sM,r,q⟩
theorem wF.BA{st:List Stmt}{t:TS}(h:wF X.BA st t):wF X st t:=λpins s σ H D I hw=>
 gH (h pins s σ H D (I.xu _) hw) (λ_ _ q=>q.sM) λ_ _ z=>False.elim z
end
variable {tc:TT}
section
variable {X:Cx}{st:Stmt}{rest:List Stmt}{t u:TS}{e:Expr}{te:TE}{pos:Pos}
def acT:TS:=λD σ H=>D.nx σ H
def Ends.sq(D:Ends)(u:TS):Ends:={ D with nx:=u D }
def Ends.lp(D:Ends)(N:St->Hp->Prop):Ends:={ D with nx:=N,ct:=N,bk:=D.nx }
def i9(t u:TS):TS:=λD σ H=>t (D.sq u) σ H
theorem Inv.quiet(I:Inv X pins σ H s):interactive X.env=false:=by simp[interactive,I.ok.kind]
def RI(D:Ends)(σ:St):V->Hp->Prop:=λ_ H1=>D.nx σ H1
def acU(te:TE):TS:=λD σ H=>te σ H (RI D σ)
def agz(te:TE):TS:=λD σ H=>te σ H D.rt
def acV:TS:=λD _ H=>D.rt .cW H
def acW(t:TS)(u:TS)(D:Ends)(σ:St):Bool->Hp->Prop:=λb H1=>if b=true then t D σ H1 else u D σ H1
def Zk(c:TT)(t u:TS):TS:=λD σ H=>c σ H (acW t u D σ)
theorem Ws{c:Expr}{a b:List Stmt}(hc:PT X c tc)(ha:wF X a t)(hb:wF X b u):PS X (.If c a b pos) (Zk tc t u):=by
 intro pins s σ H D I h;refine wpAny_If (bh (hc pins s σ H _ I h) λd s1 ⟨H1,I1,q1⟩=>?_);cases d with
 | true=>exact ha pins s1 σ H1 D I1 q1
 | false=>exact hb pins s1 σ H1 D I1 q1
def Zl:TS:=λ_ _ _=>False
end
abbrev TG:=V->St->Hp->(St->Hp->Prop)->Prop
abbrev C4:=List V->St->Hp->(St->Hp->Prop)->Prop
def PG(X:Cx)(target:Expr)(t:TG):Prop:=∀(pins:AO)(s:Shared)(σ:St)(H:Hp)(v:V)(u:Value)(Q:St->Hp->Prop),Inv X pins σ H s->RelV v u->t v σ H Q->wpAny (model X.prog X.w) X.A (assign target X.env u) (λ_ s'=>∃σ' H',Inv X pins σ' H' s'/\Q σ' H') X.xe s
def PGs(X:Cx)(ts:List Expr)(t:C4):Prop:=∀(pins:AO)(s:Shared)(σ:St)(H:Hp)(vs:List V)(us:List Value)(Q:St->Hp->Prop),Inv X pins σ H s->Vals vs us->t vs σ H Q->wpAny (model X.prog X.w) X.A (assignInOrder ((assignEach ts X.env).map (·.2)) us) (λ_ s'=>∃σ' H',Inv X pins σ' H' s'/\Q σ' H') X.xe s
abbrev tO:=V->V->V->Hp->(Hp->Prop)->Prop
def Uz(X:Cx)(t:tO):Prop:=∀(pins:AO)(s:Shared)(σ:St)(H:Hp)(o i v:V)(ov iv u:Value)(Q:Hp->Prop),Inv X pins σ H s->RelV o ov->RelV i iv->RelV v u->t o i v H Q->wpAny (model X.prog X.w) X.A (setItem ov iv u) (λ_ s'=>∃H',Inv X pins σ H' s'/\Q H') X.xe s
abbrev JS:=V->V->Hp->VK->Prop
def Zm(X:Cx)(op:Operator)(t:JS):Prop:=∀(pins:AO)(s:Shared)(σ:St)(H:Hp)(x y:V)(v u:Value)(Q:VK),Inv X pins σ H s->RelV x v->RelV y u->t x y H Q->wpAny (model X.prog X.w) X.A (inplaceOp op v u) (EP X pins σ Q) X.xe s
variable {n:Nat}
section
variable {X:Cx}{pos:Pos}
def rS(i:Nat):TG:=λv σ H Q=>Q (σ.set i (some v)) H
inductive Zn(vs:List V)(σ:St)(H:Hp)(Q:St->Hp->Prop):Prop
 |mk(_:vs=[])(_:Q σ H)
def Zo(u:C4)(Q:St->Hp->Prop)(r:List V):St->Hp->Prop:=λσ' H'=>u r σ' H' Q
inductive Wt(t:TG)(u:C4)(vs:List V)(σ:St)(H:Hp)(Q:St->Hp->Prop):Prop
 |mk(v r:_)(_:vs=v::r)(_:t v σ H (Zo u Q r))
inductive zT(K:Fg)(n:Nat)(t:C4)(v:V)(σ:St)(H:Hp)(Q:St->Hp->Prop):Prop
 |mk(a xs:_)(_:v =.ref a)(_:dG K H a xs)(_:xs.length=n)(_:t xs σ H Q)
theorem Zp{es:List Expr}{k:Nat}{t:C4}(hc:X.calm=true)(h:PGs X es t)(hn:(assignEach es X.env).length=n:=by rfl)(hst:(assignEach es X.env).findIdx? (·.1)=none:=by rfl):PG X (.Tuple es k pos) (zT X.K n t):=by
 intro pins s σ H v u Q I r hw
 obtain⟨a,xs,e1,hq,hl,hw⟩:=hw
 subst e1
 cases r
 obtain⟨its,rv,ht,hz⟩:=I.tuple hq
 refine assign_Tuple_tuple (I.ok.hd hc) ht (by simp[hn,<-hl,rv.length]) hst λh' hx=>?_
 have I1:Inv X pins σ H { s with heap:=h' }:=I.kept (t':=s.toks) λb o e=>hx b o (d8 (bU e)) e
 exact h pins _ σ H xs _ Q I1 (by simpa using rv) hw
def Xz(σ:St)(Q:St->Hp->Prop):Hp->Prop:=λH3=>Q σ H3
def XA(t:tO)(v:V)(σ:St)(Q:St->Hp->Prop)(o:V):V->Hp->Prop:=λi H2=>t o i v H2 (Xz σ Q)
def acX(ti:TE)(t:tO)(v:V)(σ:St)(Q:St->Hp->Prop):V->Hp->Prop:=λo H1=>ti σ H1 (XA t v σ Q o)
def agA(to ti:TE)(t:tO):TG:=λv σ H Q=>to σ H (acX ti t v σ Q)
def acY(g:TG)(D:Ends)(σ:St):V->Hp->Prop:=λx H1=>g x σ H1 D.nx
def UA(te:TE)(g:TG):TS:=λD σ H=>te σ H (acY g D σ)
inductive acZ(i:Nat)(j:Nat)(D:Ends)(σ:St)(vs:List V)(H1:Hp):Prop
 |mk(v w:_)(_:vs=[v,w])(_:D.nx ((σ.set i (some v)).set j (some w)) H1)
def agB(i j:Nat)(ta:TA):TS:=λD σ H=>ta σ H (acZ i j D σ)
def UB(D:Ends)(σ:St):Hp->Prop:=λH6=>D.nx σ H6
def UC(pQ:tO)(D:Ends)(σ:St)(o:V)(i:V):V->Hp->Prop:=λz H5=>pQ o i z H5 (UB D σ)
def UD(zq:JS)(pQ:tO)(D:Ends)(σ:St)(o:V)(i:V)(x:V):V->Hp->Prop:=λy H4=>zq x y H4 (UC pQ D σ o i)
def UE(te:TE)(zq:JS)(pQ:tO)(D:Ends)(σ:St)(o:V)(i:V):V->Hp->Prop:=λx H3=>te σ H3 (UD zq pQ D σ o i x)
def UG(te:TE)(zU:V->V->Hp->VK->Prop)(zq:JS)(pQ:tO)(D:Ends)(σ:St)(o:V):V->Hp->Prop:=λi H2=>zU o i H2 (UE te zq pQ D σ o i)
def Zq(ti:TE)(te:TE)(zU:V->V->Hp->VK->Prop)(zq:JS)(pQ:tO)(D:Ends)(σ:St):V->Hp->Prop:=λo H1=>ti σ H1 (UG te zU zq pQ D σ o)
def ac0(to ti te:TE)(zU:V->V->Hp->VK->Prop)(zq:JS)(pQ:tO):TS:=λD σ H=>to σ H (Zq ti te zU zq pQ D σ)
def Zr(X:Cx)(t:V->V->Hp->VK->Prop):Prop:=∀(pins:AO)(s:Shared)(σ:St)(H:Hp)(o i:V)(ov iv:Value)(Q:VK),Inv X pins σ H s->RelV o ov->RelV i iv->t o i H Q->wpAny (model X.prog X.w) X.A (getItem ov iv) (EP X pins σ Q) X.xe s
inductive ipI(f:Int->Int->Int)(x:V)(y:V)(H:Hp)(Q:VK):Prop
 |mk(i j:_)(_:x =.int i)(_:y =.int j)(_:Q (.int (f i j)) H)
theorem Zs:Zm X .Add (ipI λi j=>i+j):=by intro pins s σ H x y v u Q I r1 r2 h;obtain⟨i,j,e1,e2,q⟩:=h;subst e1;subst e2;obtain⟨t,rfl⟩:=r1;obtain⟨t',rfl⟩:=r2;exact iadd_int ⟨.int _,H,I.tok _,⟨_,Z⟩,q⟩
theorem Zt:Zm X .Sub (ipI λi j=>i-j):=by intro pins s σ H x y v u Q I r1 r2 h;obtain⟨i,j,e1,e2,q⟩:=h;subst e1;subst e2;obtain⟨t,rfl⟩:=r1;obtain⟨t',rfl⟩:=r2;exact isub_int ⟨.int _,H,I.tok _,⟨_,Z⟩,q⟩
end
section
variable {X:Cx}{pos:Pos}
def Zu(c:TT)(tb:TS):TS:=λD σ H=>∃W:Nat->St->Hp->Prop,(∃m,W m σ H)/\∀m σ H,W m σ H->c σ H λb H1=>if b=true then ∃N:St->Hp->Prop,(∀σ' H',N σ' H'->∃m',m'<m/\W m' σ' H')/\tb { D with nx:=N,ct:=N,bk:=D.nx } σ H1 else D.nx σ H1
end
structure It where
 go:Nat->Hp->Prop
 zV:Nat->Hp->V->Hp->Prop
 stop:Nat->Hp->Prop
def mz(X:Cx)(pins:AO)(H:Hp)(b:Addr):Prop:=H b=none/\b≠X.env.locals/\b∉X.fs/\(b∈X.ex\/X.s₀.heap.objs.size<=b)/\(∀x c,X.env.cells.lookup x=some c->c≠b)/\∀p∈X.pn++pins,p.1≠b
variable {H':Hp}
theorem Inv.BZ(I:Inv X pins σ H s)(hb:s.heap.objs.size<=b)(hn:H' b=none):mz X pins H' b:=by
 refine⟨hn,wg (lS I.lt hb),I.agt hb,.inr (gh I.sz hb),λx c e z=>?_,λp hp z=>?_⟩
 .obtain ⟨v,q⟩:=I.cell x c e;exact absurd (lS q.lt (by rw[z];exact hb)) (i7 _)
 .exact absurd (lS (bU (I.pin p hp).1) (by rw[z];exact hb)) (i7 _)
structure Turn(P:Program)(w:World)(K:Fg)(tg:Expr)(J:It)(fp:List Addr)(it:Addr)(tn:Nat->Heap->Prop):Prop where
 mem:it∈fp
 obj:∀i h,tn i h->∀b∈fp,∃o,h.get? b=some o/\∀v,o.data ≠ .cell v
 keep:∀i h h',tn i h->(∀b∈fp,∀o,h.get? b=some o->h'.get? b=some o)->tn i h'
 item:∀(X:Cx),X.prog=P->X.w=w->X.K=K->X.calm=true->∀(i:Nat)(pins:AO)(s:Shared)(σ:St)(H:Hp)(E:VS),Inv X pins σ H s->(∀b∈fp,mz X pins H b)->tn i s.heap->J.go i H->
  wpAny (model P w) X.A (pyNext (.ref it)) (λr s1=>∃u,r=some u/\
   wpAny (model P w) X.A (letOwnedTupleGo tg (.ref it) u) (λ_ s2=>∃x H',Inv X pins σ H' s2/\RelV x u/\J.zV i H x H'/\tn (i+1) s2.heap/\∀b∈fp,H' b=none) E s1) E s
 done:∀(X:Cx),X.prog=P->X.w=w->X.K=K->X.calm=true->∀(i:Nat)(pins:AO)(s:Shared)(σ:St)(H:Hp)(E:VS),Inv X pins σ H s->(∀b∈fp,mz X pins H b)->tn i s.heap->J.stop i H->
  wpAny (model P w) X.A (pyNext (.ref it)) (λr s1=>r=none/\Inv X pins σ H s1) E s
 self:∀(A:Around)(i:Nat)(s:Shared)(Q:VS)(E:VS),tn i s.heap->Q (.ref it) s->wpAny (model P w) A (pyIter (.ref it)) Q E s
abbrev TI:=St->Hp->(It->Hp->Prop)->Prop
def PIE(X:Cx)(pins:AO)(σ:St)(tg:Expr)(R:It->Hp->Prop)(itv:Value)(s2:Shared):Prop:=∃(it:Addr)(fp:List Addr)(tn:Nat->Heap->Prop)(J:It)(H':Hp),itv =.ref it/\Inv X pins σ H' s2/\Turn X.prog X.w X.K tg J fp it tn/\tn 0 s2.heap/\(∀b∈fp,mz X pins H' b)/\R J H'
def PI(X:Cx)(tg iter:Expr)(wi:TI):Prop:=∀(pins:AO)(s:Shared)(σ:St)(H:Hp)(R:It->Hp->Prop),Inv X pins σ H s->wi σ H R->wpAny (model X.prog X.w) X.A (eval iter X.env) (λv s1=>wpAny (model X.prog X.w) X.A (pyIter v) (PIE X pins σ tg R) X.xe s1) X.xe s
variable {tg:Expr}
theorem Bb{A:Around}{o:Obj}{n:String}{vs:Array Value}(ho:s.heap.get? it=some o)(hc:o.cls =.type n)(hd:o.data =.fields vs)(hn:["enumerate","zip","dict_itemiterator","dict_reverseitemiterator","odict_iterator","itertools.zip_longest","itertools.pairwise"].contains n=false)(hQ:Q () s):wpAny M A (letOwnedTupleGo tg (.ref it) u) Q E s:=by
 unfold letOwnedTupleGo
 cases tg <;> first
  | exact aT hQ
  | (cases u <;> first
      | exact aT hQ
      | (refine az (wpAny_load ho ?_)
         rw[hc,hd]
         show wpAny M A (if(["enumerate","zip","dict_itemiterator","dict_reverseitemiterator","odict_iterator","itertools.zip_longest","itertools.pairwise"].contains n && vs[0]?==some (rawInt _))=true then _ else _) Q E s
         rw[aB (by intro h;rw[hn,Bool.false_and]at h;cases h)]
         exact aT hQ))
def zW(K:Fg)(a:Addr):It:=⟨λi H=>∃xs x,aJ K H a xs/\xs[i]?=some x,λi H x H'=>H'=H/\∀xs,aJ K H a xs->xs[i]?=some x,λi H=>∃xs,aJ K H a xs/\xs.length<=i⟩
def Wu(lo:Int)(n:Nat):It:=⟨λi _=>i<n,λi H x H'=>H'=H/\x =.int (lo+i),λi _=>n<=i⟩
theorem RJ{w:World}(a it:Addr):Turn P w K tg (zW K a) [it] it (λi h=>h.IsListIter it a i) where
 mem:=by simp
 obj:=λi h st b hb=>by
  have e:b=it:=by simpa using hb
  subst e;obtain⟨o,e,c,d⟩:=st;exact⟨o,e,λv z=>by rw[d]at z;cases z⟩
 keep:=λi h h' st k=>st.at λo e=>k it (by simp) o e
 item:=by intro X hP hw hK hc i pins s σ H E I hf st hg;subst hP hw hK;obtain⟨xs,x,hq,hx⟩:=hg;obtain⟨its,rv,p,hz⟩:=I.list hq;obtain⟨u,hu,ru⟩:=rv.get hx;obtain⟨f0,f1,f2,f3,f4,f5⟩:=hf it (by simp);refine wpAny_pyNext_list_item st p.isList (x:=u) (by simpa using hu) λh' st' sb=>?_;have I1:Inv X pins σ H { s with heap:=h' }:=I.turned (t':=s.toks) (λb o hb e=>(sb.2 b hb).trans e) f0 f1 f3 f4 f5;obtain⟨o,e,c,d⟩:=id st';exact⟨u,Z,Bb (s:={ s with heap:=h' }) e c d (by decide) ⟨x,H,I1,ru,⟨Z,λys hy=>by rw[I.Uy hy hq];exact hx⟩,st',λb hb=>(hf b hb).1⟩⟩
 done:=by intro X hP hw hK hc i pins s σ H E I hf st hg;subst hP hw hK;obtain⟨xs,hq,hx⟩:=hg;obtain⟨its,rv,p,hz⟩:=I.list hq;obtain⟨f0,f1,f2,f3,f4,f5⟩:=hf it (by simp);have hl:=rv.length;exact wpAny_pyNext_list_end (I.ok.hd hc) st p.isList (by simp;omega) λh' eb=>⟨Z,I.turned (t':=s.toks) (λb o hb e=>eb b o hb e) f0 f1 f3 f4 f5⟩
 self:=λ_ _ _ _ _ st h=>wpAny_pyIter_listiter st h
theorem Qy{w:World}(it:Addr)(lo:Int)(n:Nat):Turn P w K tg (Wu lo n) [it] it (λi h=>IsRangeIter h it (lo+(i:Nat)*1) ((n:Int)-(i:Nat)) 1) where
 mem:=by simp
 obj:=λi h st b hb=>by
  have e:b=it:=by simpa using hb
  subst e;exact⟨_,st,λv z=>by have z':Data.fields _=Data.cell v:=z;cases z'⟩
 keep:=λi h h' st k=>k it (by simp) _ st
 item:=by intro X hP hw hK hc i pins s σ H E I hf st hg;subst hP hw hK;obtain⟨f0,f1,f2,f3,f4,f5⟩:=hf it (by simp);have W:=Walks.range (prog:=X.prog) (w:=X.w) (I.ok.hd hc) it lo 1 n;refine W.item i s _ _ hg st λv h' tk hv st' kk=>?_;obtain⟨t,rfl⟩:=hv;have I1:Inv X pins σ H { s with heap:=h',toks:=tk }:=I.turned (λb o hb e=>kk b o (by simpa using hb) e) f0 f1 f3 f4 f5;refine⟨_,Z,Bb (s:={ s with heap:=h',toks:=tk }) (n:="range_iterator") st' rfl rfl (by decide) ⟨.int (lo+i),H,I1,⟨t,?_⟩,⟨Z,Z⟩,st',λb hb=>(hf b hb).1⟩⟩;rw[uD]
 done:=by intro X hP hw hK hc i pins s σ H E I hf st hg;subst hP hw hK;obtain⟨f0,f1,f2,f3,f4,f5⟩:=hf it (by simp);exact wpAny_pyNext_range_end (I.ok.hd hc) st (by have:n<=i:=hg;omega) λh' eb=>⟨Z,I.turned (t':=s.toks) (λb o hb e=>eb b o hb e) f0 f1 f3 f4 f5⟩
 self:=λ_ _ _ _ _ st h=>wpAny_pyIter_rangeiter st h
variable {tl:TE}{fp:List Addr}
section
variable {X:Cx}{tg:Expr}
inductive RK(K:Fg)(R:It->Hp->Prop)(x:V)(H1:Hp):Prop
 |mk(a:_)(_:x =.ref a)(_:(∃xs,aJ K H1 a xs))(_:R (zW K a:_) H1)
def Wv(K:Fg)(tl:TE):TI:=λσ H R=>tl σ H (RK K R)
theorem XC{l:Expr}(hl:PE X l tl):PI X tg l (Wv X.K tl):=by
 intro pins s σ H R I h;refine bh (hl pins s σ H _ I h) λv s1 ⟨x,H1,I1,r1,q1⟩=>?_;obtain⟨a,e,⟨xs,hq⟩,q⟩:=q1;subst e;cases r1;obtain⟨its,rv,p,hz⟩:=I1.list hq;refine Qp p.isList ?_;refine⟨s1.heap.objs.size,[s1.heap.objs.size],_,_,H1,Z,I1.kept (t':=s1.toks) λb o e=>b9 _ e,RJ a _,⟨_,eT _ rfl,Z,Z⟩,λb hb=>?_,q⟩;have e:b=s1.heap.objs.size:=by simpa using hb
 subst e;exact I1.BZ (aO _) (I1.hok.fresh (aO _))
theorem UH{R:It->Hp->Prop}{lo hi:Int}{t u v:Tok}{tk:Nat}(I:Inv X pins σ H s)(h1:-(2 ^ 62)<=lo)(h2:lo<2 ^ 62)(h3:-(2 ^ 62)<=hi)(h4:hi<2 ^ 62)(q:R (Wu lo (hi-lo).toNat) H):wpAny (model X.prog X.w) X.A (pyIter (.ref s.heap.objs.size)) (PIE X pins σ tg R) E { s with heap:=s.heap.push { cls:=.type "range",data:=.fields #[.int lo t,.int hi u,.int 1 v] },toks:=tk }:=by
 refine wpAny_pyIter_range (IsRange.new ..) (small_one h1 h2 h3 h4) ?_
 have I1:Inv X pins σ H { s with heap:=s.heap.push { cls:=.type "range",data:=.fields #[.int lo t,.int hi u,.int 1 v] },toks:=tk }:=I.kept λb o e=>b9 _ e
 refine⟨(s.heap.push { cls:=.type "range",data:=.fields #[.int lo t,.int hi u,.int 1 v] }).objs.size,[(s.heap.push { cls:=.type "range",data:=.fields #[.int lo t,.int hi u,.int 1 v] }).objs.size],_,_,H,Z,
  I1.kept (t':=tk) λb o e=>b9 _ e,Qy _ lo (hi-lo).toNat,?_,λb hb=>?_,q⟩
 . have e1:lo+((0:Nat):Int)*1=lo:=by simp
   have e2:(((hi-lo).toNat:Nat):Int)-((0:Nat):Int)=Builtin.Range.rangeSize lo hi 1:=by rw[rangeSize_one];split <;> omega
   show IsRangeIter _ _ (lo+((0:Nat):Int)*1) ((((hi-lo).toNat:Nat):Int)-((0:Nat):Int)) 1
   rw[e1,e2]
   exact eT _ rfl
 . have e:b=(s.heap.push { cls:=.type "range",data:=.fields #[.int lo t,.int hi u,.int 1 v] }).objs.size:=by simpa using hb
   subst e
   exact I1.BZ (aO _) (I1.hok.fresh (aO _))
inductive Zv(R:It->Hp->Prop)(vs:List V)(H1:Hp):Prop
 |mk(j:Int)(_:vs=[.int j])(_:-(2 ^ 62)<=j)(_:j<2 ^ 62)(_:R (Wu 0 j.toNat) H1)
def ac1(ta:TA):TI:=λσ H R=>ta σ H (Zv R)
def C5(g:TG)(tb:TS)(D:Ends)(σ:St):It->Hp->Prop:=λJ H1=>∃W:Nat->Nat->St->Hp->Prop,(∃m,W 0 m σ H1)/\∀i m σ H,W i m σ H->(J.stop i H/\D.nx σ H)\/(J.go i H/\∃N:St->Hp->Prop,(∀σ' H',N σ' H'->∃m',m'<m/\W (i+1) m' σ' H')/\∀x H',J.zV i H x H'->g x σ H' (tb (D.lp N)))
def agC(wi:TI)(g:TG)(tb:TS):TS:=λD σ H=>wi σ H (C5 g tb D σ)
def C6(fp:List Addr)(h:Heap):List (Addr×Obj):=fp.filterMap λb=>(h.get? b).map λo=>(b,o)
theorem iz{o:Obj}(hb:b∈fp)(e:h.get? b=some o):(b,o)∈C6 fp h:=Qk.mpr ⟨b,hb,by rw[e];rfl⟩
theorem RL{p:Addr×Obj}(hp:p∈C6 fp h):p.1∈fp/\h.get? p.1=some p.2:=by
 obtain⟨b,hb,e⟩:=Qk.mp hp;cases q:h.get? b with
 | none=>rw[q]at e;cases e
 | some o=>rw[q]at e;have e':(b,o)=p:=fE e;subst e';exact⟨hb,q⟩
theorem Inv.pinned(I:Inv X pins σ H s)(hf:∀b∈fp,mz X pins H b)(ho:∀b∈fp,∃o,s.heap.get? b=some o/\∀v,o.data ≠ .cell v):Inv X (pins++C6 fp s.heap) σ H s:=I.OC λp hp=>(fu.mp hp).elim (λz=>I.pin p (gG _ z)) λz=>by obtain⟨hb,e⟩:=RL z;obtain⟨f0,f1,f2,_⟩:=hf p.1 hb;obtain⟨o,e',d⟩:=ho p.1 hb;rw[e]at e';cases e';exact⟨e,f0,f1,f2,d⟩
theorem Inv.oO{pl:AO}(I:Inv X (pins++pl) σ H s):Inv X pins σ H s:=I.OC λp hp=>I.pin p (gG _ (zQ _ hp))
end
variable {tb:TS}
theorem jW{g:TG}(Pv:Nat->St->Hp->Prop)(h0:Pv 0 σ H)(hl:∀i σ H,i<=xs.length->Pv i σ H->aJ K H a xs)(hs:∀i x σ H,xs[i]?=some x->Pv i σ H->g x σ H (tb (D.lp (Pv (i+1)))))(hd:∀σ H,Pv xs.length σ H->D.nx σ H):
  C5 g tb D σ (zW K a) H:=by
 refine⟨λi m σ H=>m=xs.length-i/\i<=xs.length/\Pv i σ H,⟨xs.length,by simp,fM _,h0⟩,?_⟩
 rintro i m σ H ⟨rfl,hi,p⟩
 have q:=hl i σ H hi p
 by_cases hlt:i<xs.length
 . refine .inr ⟨⟨xs,xs[i],q,by simp[hlt]⟩,Pv (i+1),λσ' H' p'=>⟨xs.length-(i+1),by omega,Z,hlt,p'⟩,λx H' y=>?_⟩
   obtain⟨e,y⟩:=y
   subst e
   exact hs i x σ _ (y xs q) p
 . have e:i=xs.length:=by omega
   subst e
   exact .inl ⟨⟨xs,q,aO _⟩,hd σ H p⟩
theorem mC{lo:Int}{g:TG}(Pv:Nat->St->Hp->Prop)(h0:Pv 0 σ H)(hs:∀i σ H,i<n->Pv i σ H->g (.int (lo+i)) σ H (tb (D.lp (Pv (i+1)))))(hd:∀σ H,Pv n σ H->D.nx σ H):
  C5 g tb D σ (Wu lo n) H:=by
 refine⟨λi m σ H=>m=n-i/\i<=n/\Pv i σ H,⟨n,by simp,fM _,h0⟩,?_⟩
 rintro i m σ H ⟨rfl,hi,p⟩
 by_cases hlt:i<n
 . refine .inr ⟨hlt,Pv (i+1),λσ' H' p'=>⟨n-(i+1),by omega,Z,hlt,p'⟩,λx H' y=>?_⟩
   obtain⟨e,y⟩:=y
   subst e y
   exact hs i σ _ hlt p
 . have e:i=n:=by omega
   subst e
   exact .inl ⟨aO _,hd σ H p⟩
abbrev R2:=V->V->Hp->VK->Prop
def jz(X:Cx)(f:Value->Value->Sem Value)(r:R2):Prop:=∀(pins:AO)(s:Shared)(σ:St)(H:Hp)(x y:V)(v u:Value)(Q:VK),Inv X pins σ H s->RelV x v->RelV y u->r x y H Q->wpAny (model X.prog X.w) X.A (f v u) (EP X pins σ Q) X.xe s
def Zw(X:Cx)(f:Value->Sem Value)(r:V->Hp->VK->Prop):Prop:=∀(pins:AO)(s:Shared)(σ:St)(H:Hp)(x:V)(v:Value)(Q:VK),Inv X pins σ H s->RelV x v->r x H Q->wpAny (model X.prog X.w) X.A (f v) (EP X pins σ Q) X.xe s
def i_(X:Cx)(f:Value)(r:List V->Hp->VK->Prop):Prop:=∀(pins:AO)(s:Shared)(σ:St)(H:Hp)(xs:List V)(us:List Value)(Q:VK),Inv X pins σ H s->Vals xs us->r xs H Q->wpAny (model X.prog X.w) X.A (call f us) (EP X pins σ Q) X.xe s
def Zx(r:R2)(Q:VK)(x:V):V->Hp->Prop:=λy H2=>r x y H2 Q
def agD(r:R2)(tb:TE)(σ:St)(Q:VK):V->Hp->Prop:=λx H1=>tb σ H1 (Zx r Q x)
def Gp(r:R2)(ta tb:TE):TE:=λσ H Q=>ta σ H (agD r tb σ Q)
def agE(r:V->Hp->VK->Prop)(Q:VK):V->Hp->Prop:=λx H1=>r x H1 Q
def tUn(r:V->Hp->VK->Prop)(ta:TE):TE:=λσ H Q=>ta σ H (agE r Q)
inductive rI(C:Int->Int->Prop)(g:Int->Int->V)(x:V)(y:V)(H:Hp)(Q:VK):Prop
 |mk(i j:_)(_:x =.int i)(_:y =.int j)(_:C i j)(_:Q (g i j:_) H)
inductive BB(g:Int->Int->V)(x:V)(y:V)(H:Hp)(Q:VK):Prop
 |mk(i j:_)(_:x =.int i)(_:y =.int j)(_:Q (g i j:_) H)
inductive rU(g:Int->V)(x:V)(H:Hp)(Q:VK):Prop
 |mk(i:_)(_:x =.int i)(_:Q (g i:_) H)
section
variable {X:Cx}{a b c:Expr}{ta tb tc:TE}{pos:Pos}
theorem UI(ha:PE X a ta)(hb:PE X b tb){R:V->V->Hp->Prop}(I:Inv X pins σ H s)(h:ta σ H λx H1=>tb σ H1 λy H2=>R x y H2){Q:VS}{f:Value->Value->Sem Value}(hf:∀v u s2 x y H2,Inv X pins σ H2 s2->RelV x v->RelV y u->R x y H2->wpAny (model X.prog X.w) X.A (f v u) Q X.xe s2):
  wpAny (model X.prog X.w) X.A (eval a X.env) (λv s₁=>wpAny (model X.prog X.w) X.A (eval b X.env) (λu s₂=>wpAny (model X.prog X.w) X.A (f v u) Q X.xe s₂) X.xe s₁) X.xe s:=by
 refine bh (ha pins s σ H _ I h) λv s1 ⟨x,H1,I1,r1,q1⟩=>?_
 refine bh (hb pins s1 σ H1 _ I1 q1) λu s2 ⟨y,H2,I2,r2,q2⟩=>?_
 exact hf v u s2 x y H2 I2 r1 r2 q2
theorem RM{f:Value->Value->Sem Value}{C:Int->Int->Prop}{g:Int->Int->Int}(rule:∀(i j:Int) (t u:Tok) (s:Shared) (Q:VS) (E:VS),C i j->Q (.int (g i j) s.toks) { s with toks:=s.toks+1 }->wpAny (model X.prog X.w) X.A (f (.int i t) (.int j u)) Q E s):
  jz X f (rI C λi j=> .int (g i j)):=by
 intro pins s σ H x y v u Q I rx ry h
 obtain⟨i,j,rfl,rfl,hc,q⟩:=h
 obtain⟨t,rfl⟩:=rx
 obtain⟨t',rfl⟩:=ry
 exact rule i j t t' s _ _ hc ⟨.int (g i j),H,I.tok _,⟨_,Z⟩,q⟩
theorem Zy{f:Value->Value->Sem Value}{g:Int->Int->Int}(rule:∀(i j:Int) (t u:Tok) (s:Shared) (Q:VS) (E:VS),Q (.int (g i j) s.toks) { s with toks:=s.toks+1 }->wpAny (model X.prog X.w) X.A (f (.int i t) (.int j u)) Q E s):
  jz X f (BB λi j=> .int (g i j)):=by
 intro pins s σ H x y v u Q I rx ry h
 obtain⟨i,j,rfl,rfl,q⟩:=h
 obtain⟨t,rfl⟩:=rx
 obtain⟨t',rfl⟩:=ry
 exact rule i j t t' s _ _ ⟨.int (g i j),H,I.tok _,⟨_,Z⟩,q⟩
theorem Qz{f:Value->Value->Sem Value}{g:Int->Int->Bool}(rule:∀(i j:Int) (t u:Tok) (s:Shared) (Q:VS) (E:VS),Q (.bool (g i j)) s->wpAny (model X.prog X.w) X.A (f (.int i t) (.int j u)) Q E s):
  jz X f (BB λi j=> .bl (g i j)):=by
 intro pins s σ H x y v u Q I rx ry h
 obtain⟨i,j,rfl,rfl,q⟩:=h
 obtain⟨t,rfl⟩:=rx
 obtain⟨t',rfl⟩:=ry
 exact rule i j t t' s _ _ ⟨.bl (g i j),H,I,Z,q⟩
def UJ(i j:Int):Prop:=0<=j/\j<=1000000/\i.natAbs<2 ^ 64
def QA(i j:Int):Prop:=(-(2 ^ 64)<i/\i<2 ^ 64)\/(-(2 ^ 64)<j/\j<2 ^ 64)
theorem QA.ok{i j:Int}(h:QA i j):IntMulOk i j:=by
 rcases h with⟨h1,h2⟩|⟨h1,h2⟩
 .exact .of_left (intBits_le_64 h1 h2)
 .exact .of_right (intBits_le_64 h1 h2)
theorem c7:jz X (binaryOp .Add) (BB λi j=> .int (i+j)):=Zy λ_ _ _ _ _ _ _ q=>add_int q
theorem mD:jz X (binaryOp .Sub) (BB λi j=> .int (i-j)):=Zy λ_ _ _ _ _ _ _ q=>sub_int q
theorem iF:jz X (binaryOp .Mult) (rI QA λi j=> .int (i*j)):=RM λ_ _ _ _ _ _ _ hc q=>mul_int q hc.ok
theorem lz:jz X (binaryOp .Mod) (rI (λ_ j=>0<j) λi j=> .int (i % j)):=RM λi j _ _ _ _ _ hc q=>by have h1:(0:Int)<j:=hc;exact mod_int' (by omega) (by rw[Int.fmod_eq_emod_of_nonneg i (by omega)];exact q)
theorem nO:jz X (binaryOp .Pow) (rI UJ λi j=> .int (i ^ j.toNat)):=RM λ_ _ _ _ _ _ _ hc q=>pow_int_small hc.1 hc.2.1 hc.2.2 q
theorem unI{f:Value->Sem Value}{g:Int->Int}(rule:∀(i:Int) (t:Tok) (s:Shared) (Q:VS) (E:VS),Q (.int (g i) s.toks) { s with toks:=s.toks+1 }->wpAny (model X.prog X.w) X.A (f (.int i t)) Q E s):
  Zw X f (rU λi=> .int (g i)):=by
 intro pins s σ H x v Q I rx h
 obtain⟨i,rfl,q⟩:=h
 obtain⟨t,rfl⟩:=rx
 exact rule i t s _ _ ⟨.int (g i),H,I.tok _,⟨_,Z⟩,q⟩
theorem C7:Zw X (unaryOp .USub) (rU λi=> .int (-i)):=unI λ_ _ _ _ _ q=>neg_int q
end
def agF:V->V->Bool
 | .cW,.cW=>true | .cW,.int _=>true | .int _,.cW=>true | .cW,.bl _=>true | .bl _,.cW=>true | .cW,.str _=>true | .str _,.cW=>true
 | .int _,.int _=>true | .bl _,.bl _=>true | .str _,.str _=>true | .By _,.By _=>true
 | .int _,.str _=>true | .str _,.int _=>true | .bl _,.str _=>true | .str _,.bl _=>true
 | _,_=>false
inductive rEq(x:V)(y:V)(H:Hp)(Q:VK):Prop
 |mk(_:agF x y=true)(_:Q (.bl (decide (x=y))) H)
theorem XD{i j:Int}:decide (V.int i=V.int j)=(i==j):=by rw[AX];simp
theorem Zz{i j:Bool}:decide (V.bl i=V.bl j)=(i==j):=by rw[AX];simp
theorem XE{i j:Str}:decide (V.str i=V.str j)=(i==j):=by rw[AX];simp
theorem XF{i j:Array UInt8}:decide (V.By i=V.By j)=(i.toList==j.toList):=by rw[AX];cases i;cases j;simp
variable {op:CmpOp}
section
variable {X:Cx}{a b c:Expr}{ta tb tc:TE}{pos:Pos}
theorem iX{Q:VK}{k k':Bool}(I:Inv X pins σ H s)(q:Q (.bl k) H)(e:k=k'):EP X pins σ Q (.bool k') s:=by subst e;exact⟨.bl k,H,I,Z,q⟩
theorem eO:jz X (compareOp .Eq) rEq:=by
 intro pins s σ H x y v u Q I rx ry h;obtain⟨hs,q⟩:=h;cases x with
 | cW=>
  cases rx;cases y with
  | cW=>cases ry;exact PySem.EqNone.eq_none_none (iX I q (by simp))
  | bl j=>cases ry;exact PySem.EqNone.eq_none_bool (iX I q (by simp))
  | int j=>obtain⟨t',rfl⟩:=ry;exact PySem.EqNone.eq_none_int (iX I q (by simp))
  | str j=>obtain⟨t',rfl⟩:=ry;exact PySem.EqNone.eq_none_str (iX I q (by simp))
  | _=>exact absurd (show false=true from hs) iD
 | bl i=>
  cases rx;cases y with
  | cW=>cases ry;exact PySem.EqNone.eq_bool_none (iX I q (by simp))
  | bl j=>cases ry;exact eq_bool (iX I q Zz)
  | str j=>obtain⟨t',rfl⟩:=ry;exact PySem.EqMixed.eq_bool_str (iX I q (by simp))
  | _=>exact absurd (show false=true from hs) iD
 | int i=>
  obtain⟨t,rfl⟩:=rx;cases y with
  | cW=>cases ry;exact PySem.EqNone.eq_int_none (iX I q (by simp))
  | int j=>obtain⟨t',rfl⟩:=ry;exact eq_int (iX I q XD)
  | str j=>obtain⟨t',rfl⟩:=ry;exact PySem.EqMixed.eq_int_str (iX I q (by simp))
  | _=>exact absurd (show false=true from hs) iD
 | str i=>
  obtain⟨t,rfl⟩:=rx;cases y with
  | cW=>cases ry;exact PySem.EqNone.eq_str_none (iX I q (by simp))
  | bl j=>cases ry;exact PySem.EqMixed.eq_str_bool (iX I q (by simp))
  | int j=>obtain⟨t',rfl⟩:=ry;exact PySem.EqMixed.eq_str_int (iX I q (by simp))
  | str j=>obtain⟨t',rfl⟩:=ry;exact eq_str (iX I q XE)
  | _=>exact absurd (show false=true from hs) iD
 | By i=>
  obtain⟨t,rfl⟩:=rx;cases y with
  | By j=>obtain⟨t',rfl⟩:=ry;exact PySem.W.eq_bytes (iX I q XF)
  | _=>exact absurd (show false=true from hs) iD
 | _=>cases y <;> exact absurd (show false=true from hs) iD
theorem rT:jz X (compareOp .Lt) (BB λi j=> .bl (decide (i<j))):=Qz λ_ _ _ _ _ _ _ q=>lt_int q
theorem Ww:jz X (compareOp .LtE) (BB λi j=> .bl (decide (i<=j))):=Qz λ_ _ _ _ _ _ _ q=>le_int q
theorem j8:jz X (compareOp .Gt) (BB λi j=> .bl (decide (j<i))):=Qz λ_ _ _ _ _ _ _ q=>gt_int q
theorem Jr:jz X (compareOp .GtE) (BB λi j=> .bl (decide (j<=i))):=Qz λ_ _ _ _ _ _ _ q=>ge_int q
theorem RN:jz X (compareOp .In) (λx y H Q=>∃i j,x =.str i/\y =.str j/\Q (.bl (!(Builtin.Str.occurrences j i 0 j.length 1).isEmpty)) H):=by intro pins s σ H x y v u Q I rx ry h;obtain⟨i,j,rfl,rfl,q⟩:=h;obtain⟨t,rfl⟩:=rx;obtain⟨t',rfl⟩:=ry;exact in_str (iX I q rfl)
theorem bu(b:Expr)(h:op ≠ .In:=by decide)(h2:op ≠ .NotIn:=by decide):behindInMarks op b=false:=by
 have e1:(op==CmpOp.In)=false:=by cases op <;> first|rfl|exact absurd rfl h
 have e2:(op==CmpOp.NotIn)=false:=by cases op <;> first|rfl|exact absurd rfl h2
 cases b <;> simp[behindInMarks,e1,e2]
inductive RO(Q:Bool->Hp->Prop)(x:V)(H':Hp):Prop
 |mk(k:_)(_:x =.bl k)(_:Q k H')
def Js(t:TE):TT:=λσ H Q=>t σ H (RO Q)
inductive RP(r':R2)(tc:TE)(σ:St)(Q:VK)(y:V)(z:V)(H3:Hp):Prop
 |mk(k:_)(_:z =.bl k)(_:(if k=true then tc σ H3 λw' H4=>r' y w' H4 Q else Q (.bl false) H3))
def RQ(r:R2)(r':R2)(tc:TE)(σ:St)(Q:VK)(x:V):V->Hp->Prop:=λy H2=>r x y H2 (RP r' tc σ Q y)
def XG(r:R2)(r':R2)(tb:TE)(tc:TE)(σ:St)(Q:VK):V->Hp->Prop:=λx H1=>tb σ H1 (RQ r r' tc σ Q x)
def ZA(r r':R2)(ta tb tc:TE):TE:=λσ H Q=>ta σ H (XG r r' tb tc σ Q)
theorem uR:(sizeLine:Nat)<2 ^ 63:=by rw[kP];decide
theorem QB:jz X (binaryOp .Add) (λx y H Q=>∃i j,x =.str i/\y =.str j/\i.length+j.length<=sizeLine/\Q (.str (i++j)) H):=by intro pins s σ H x y v u Q I rx ry h;obtain⟨i,j,rfl,rfl,hz,q⟩:=h;obtain⟨t,rfl⟩:=rx;obtain⟨t',rfl⟩:=ry;exact add_str (λt' tk=>⟨.str (i++j),H,I.tok _,⟨_,Z⟩,q⟩) hz
theorem vals1{x:V}(r:Vals [x] us):∃u,us=[u]/\RelV x u:=by
 cases r with
 | cons r1 r2=>cases r2;exact⟨_,Z,r1⟩
theorem vals2{x:V}(r:Vals [x,y] us):∃u w',us=[u,w']/\RelV x u/\RelV y w':=by
 cases r with
 | cons r1 r2=>
  cases r2 with
  | cons r3 r4=>cases r4;exact⟨_,_,Z,r1,r3⟩
theorem zX(hc:X.calm=true):i_ X (.builtin "min") (λxs H Q=>∃i j,xs=[.int i,.int j]/\Q (.int (if j<i then j else i)) H):=by
 intro pins s σ H xs us Q I r h;obtain⟨i,j,rfl,q⟩:=h;obtain⟨u,w',rfl,⟨t,rfl⟩,⟨t',rfl⟩⟩:=vals2 r;refine min_two_ints (I.ok.hd hc) λh' tk k=>⟨_,H,I.kept k,?_,q⟩
 by_cases hj:j<i
 .rw [aC hj,aC hj];exact⟨_,Z⟩
 .rw [aB hj,aB hj];exact⟨_,Z⟩
end
structure B0(h:Heap)(x dx C:Addr)(mA:SO):Prop where
 obj:h.get? x=some (PySem.W.instObj C dx)
 ns:h.Ns1 dx mA
 ne:dx≠x
theorem RS{mA:SO}(n:h.Ns1 dx mA):∃od,h.get? dx=some od/\∀name,PySem.W.lookIn name od=some (mA name):=by
 obtain⟨o,es,ep,ho,hd,hk,_,hm⟩:=n;refine⟨o,ho,λname=>?_⟩;have e:=hm name;unfold nsFind findBy at e;rw[<-Array.find?_toList]at e;unfold PySem.W.lookIn;rw[hd];dsimp only;split
 .rename_i y q;rw[q]at e;exact ff some e
 .rename_i q;rw[q]at e;have a:es.toList.any (·.refKey)=false:=by rw[List.any_eq_false];intro y hy;obtain⟨z,t,hkey⟩:=hk y (Array.mem_toList_iff.mp hy);simp[DictEntry.refKey,hkey]
  have a':¬ es.toList.any (·.refKey)=true:=by rw[a];exact iD
  rw[aB a'];exact ff some e
variable {C:Addr}
theorem B0.look{x dx:Addr}{mA:SO}(I:B0 h x dx C mA):∃od,PySem.W.InstAt h x (PySem.W.instObj C dx) C (some od)/\∀name,PySem.W.lookIn name od=some (mA name):=
 let⟨od,ho,hl⟩:=RS I.ns
 ⟨od,⟨I.obj,Z,Z,ho⟩,hl⟩
variable {R:Result->Shared->Prop}{kw:List (Str×Value)}
section
variable {prog:Program}{w:World}{A:Around}{E:VS}{s:Shared}{K:Fg}{x dx C f:Addr}{mA:SO}{name:Str}{v:Value}
theorem get_map{expr:Bool}{Q:VS}(X:K.In s.heap)(I:B0 s.heap x dx C mA)(hg:PySem.W.plainGet K C name=true)(hh:PySem.W.hasDictIn K C=true)(ha:PySem.W.findIn K (.ref C) name=some none)(hv:mA name=some v)(hv':PySem.W.handedIn v=true)(h:Q v { s with toks:=s.toks+1 }):
  wpAny (model prog w) A (getAttr (.ref x) name expr) Q E s:=by
 obtain⟨od,J,hl⟩:=I.look
 exact PySem.W.get_value X J (PySem.W.plainGet_of hg).1 (PySem.W.findObj_own hh ha rfl (by rw[hl,hv])) hv' h
theorem UK{pl:Sem Bool}{Q:Value×List Value->Shared->Prop}(X:K.In s.heap)(I:B0 s.heap x dx C mA)(hg:PySem.W.plainGet K C name=true)(hf:PySem.W.findIn K (.ref C) name=some (some (.ref f)))(ht:PySem.W.isFn K (.ref f)=true)(hv:mA name=none)(h:Q (.ref f,[.ref x]) s):
  wpAny (model prog w) A (getMethod (.ref x) name pl) Q E s:=by
 obtain⟨od,J,hl⟩:=I.look
 exact PySem.W.method_fn X J (PySem.W.plainGet_of hg).1 (PySem.W.plainGet_of hg).2 hf (uE.mp ht) (by show(PySem.W.lookIn name od).map (·.isSome)=some false;rw[hl,hv];rfl) h
theorem XH{ns:List Str}(X:K.In s.heap)(I:B0 s.heap x dx C mA)(hs:PySem.W.findIn K (.ref C) "__setattr__"=some (some (.builtin "object.__setattr__")))(hp:PySem.W.plainOver K C=true)(ht:PySem.W.takerIn K C name=some none)(hh:PySem.W.hasDictIn K C=true)(hw:PySem.Within mA ns)(hsz:ns.length<=sizeLine)(h:∀h',B0 h' x dx C (λy=>if y=name then some v else mA y)->Heap.SameBut dx s.heap h'->Q () { s with heap:=h',toks:=s.toks+2 }):
  wpAny (model prog w) A (setAttr (.ref x) name v) Q E s:=by
 obtain⟨od,J,hl⟩:=I.look
 refine PySem.W.set_plain X J hs (PySem.W.osa_open (s:={ s with toks:=s.toks+1 }) (r:=none) X J hp ht λb=>?_)
 obtain⟨cd,hc,hd'⟩:=PySem.W.any_some hh
 have hx:s.heap.get? x=some ⟨.ref C,some dx,.plain,#[]⟩:=I.obj
 refine az (aT (az (az (wpAny_loadPart hx (az (PySem.W.Looks.here (s:={ s with toks:=s.toks+1 }) (PySem.W.looks_clsIn X hc) ?_))))))
 rw[hd']
 refine aT (a:=some dx) (az (aT (az ?_)))
 refine wpAny_nsSet1 (s:={ s with toks:=s.toks+1 }) I.ns λh' hn2 hs2=>?_
 obtain⟨oD,esD,epD,hoD,hdD,hcD⟩:=hn2.count (PySem.Within.cons name v hw)
 refine az (wpAny_lookBehind hoD (by rw[hdD];exact pastItsLine_dict (gh hcD (by rw[kM];omega))) ?_)
 exact aT (h _ ⟨(hs2.2 _ (bX I.ne)).trans I.obj,hn2,I.ne⟩ hs2)
theorem UL{vs:List Value}(X:K.In s.heap)(hm:PySem.W.makesIn K C=true)(hi:PySem.W.findIn K (.ref C) "__init__"=some (some (.ref f)))(hf:PySem.W.typeIn K (.ref f)=some (.type "function"))(h:codeAny (model prog w) (A.under (.builtin "type.__call__" ⟨.ref C::vs,kw⟩)) (.call (.ref f) ⟨.ref (s.heap.objs.size+1)::vs,kw⟩) (PySem.W.InitBack (s.heap.objs.size+1) R)
    { s with heap:=(s.heap.push PySem.W.emptyDict).push (PySem.W.instObj C s.heap.objs.size) }):
  codeAny (model prog w) A (.call (.ref C) ⟨vs,kw⟩) R s:=by
 obtain⟨hh,g,d,t,os⟩:=s
 exact PySem.W.make_core (PySem.W.makes_of X hm) (PySem.W.looks_findIn X hi) (λself=>PySem.W.bind_fn X self hf) (.inl rfl) h
end
def aZ(f:Str)(v:V):List (Str×V)->List (Str×V)
 | []=>[(f,v)]
 | (g,x)::r=>if g=f then(g,v)::r else(g,x)::aZ f v r
theorem BC(f g:Str)(v:V):∀fs:List (Str×V),(aZ f v fs).lookup g=if g=f then some v else fs.lookup g
 | []=>by
  show List.lookup g [(f,v)]=_;by_cases h:g=f
  .have hb:(g==f)=true:=uE.mpr h;simp only[List.lookup,hb,aC h]
  .have hb:(g==f)=false:=BS.mpr h;simp only[List.lookup,hb,aB h]
 | (k,x)::r=>by
  have ih:=BC f g v r;rw[show aZ f v ((k,x)::r)=(if k=f then(k,v)::r else(k,x)::aZ f v r)from rfl];by_cases hk:k=f
  .rw [aC hk];by_cases h:g=k
   .have hb:(g==k)=true:=uE.mpr h;simp only[List.lookup,hb,aC (h.trans hk)]
   .have hb:(g==k)=false:=BS.mpr h;simp only[List.lookup,hb,aB (λe:g=f=>h (e.trans hk.symm))]
  .rw [aB hk];by_cases h:g=k
   .have hb:(g==k)=true:=uE.mpr h;simp only[List.lookup,hb,aB (λe:g=f=>hk (h.symm.trans e))]
   .have hb:(g==k)=false:=BS.mpr h;simp only[List.lookup,hb];exact ih
theorem zY(f:Str)(v:V):∀fs:List (Str×V),f∈(aZ f v fs).map (·.1)/\∀g,g∈fs.map (·.1)->g∈(aZ f v fs).map (·.1)
 | []=>⟨by simp[aZ],λg h=>by simp at h⟩
 | (k,x)::r=>by
  obtain⟨i1,i2⟩:=zY f v r;rw[show aZ f v ((k,x)::r)=(if k=f then(k,v)::r else(k,x)::aZ f v r)from rfl];by_cases hk:k=f
  .rw [aC hk];subst hk;exact⟨by simp,λg h=>by simpa using h⟩
  .rw [aB hk];refine⟨?_,λg h=>?_⟩
   .rw [bz];exact cA _ i1
   .rw [bz]at h ⊢;rcases cK.mp h with e|e
    .exact cK.mpr (.inl e)
    .exact cA _ (i2 g e)
theorem BD(f:Str)(v:V):∀fs:List (Str×V),(aZ f v fs).length<=fs.length+1
 | []=>by simp[aZ]
 | (k,x)::r=>by
  have ih:=BD f v r;rw[show aZ f v ((k,x)::r)=(if k=f then(k,v)::r else(k,x)::aZ f v r)from rfl];by_cases hk:k=f
  .rw [aC hk,kM,kM];omega
  .rw [aB hk,kM,kM];omega
theorem nJ.some_of{v:V}{o:Option Value}(r:nJ (some v) o):∃u,o=some u/\RelV v u:=by
 cases o with
 | none=>exact(show False from r).elim
 | some u=>exact⟨u,Z,r⟩
theorem nJ.none_of{o:Option Value}(r:nJ none o):o=none:=by
 cases o with
 | none=>rfl
 | some u=>exact(show False from r).elim
theorem RT{v:V}(r:RelV v u):PySem.W.handedIn u=true:=by
 cases v with
 | cW=>cases(show u=Value.none from r);rfl
 | bl b=>cases(show u=Value.bool b from r);rfl
 | int i=>obtain⟨t,e⟩:=(show ∃t,u=Value.int i t from r);cases e;rfl
 | str x=>obtain⟨t,e⟩:=(show ∃t,u=Value.str x t from r);cases e;rfl
 | By b=>obtain⟨t,e⟩:=(show ∃t,u=Value.bytes b t from r);cases e;rfl
 | Wl b=>obtain⟨t,e⟩:=(show ∃t,u=Value.float b t from r);cases e;rfl
 | ref a=>cases(show u=Value.ref a from r);rfl
 | ty n=>cases(show u=Value.type n from r);rfl
section
variable {P:Program}{w:World}{H H':Hp}{h h':Heap}{a C dx:Addr}{fs fs':List (Str×V)}
theorem EL(hok:jj P w H h)(e:H a=some (.ins C dx fs)):∃mA,B0 h a dx C mA/\(∀f,nJ (fs.lookup f) (mA f))/\PySem.Within mA (fs.map (·.1))/\fs.length<=1000/\H dx=some (.own a):=by
 obtain⟨d,z,ne,ob,mA,n,r,q⟩:=(show fP P w H h a (.ins C dx fs)from hok a _ e)
 exact⟨mA,⟨ob,n,ne⟩,r,q,z,d⟩
end
structure qK(K:Fg)(C:Addr):Prop where
 pg:PySem.W.plainGet K C Str.empty=true
 hd:PySem.W.hasDictIn K C=true
 po:PySem.W.plainOver K C=true
 sa:PySem.W.findIn K (.ref C) "__setattr__"=some (some (.builtin "object.__setattr__"))
theorem qK.get(c:qK K C)(f:Str):PySem.W.plainGet K C f=true:=c.pg
def fF(K:Fg)(C:Addr)(f:Str):Prop:=PySem.W.findIn K (.ref C) f=some none
theorem fF.taker{f:Str}(n:fF K C f):PySem.W.takerIn K C f=some none:=by unfold PySem.W.takerIn;rw[show PySem.W.findIn K (.ref C) f=some none from n];rfl
structure Meth(K:Fg)(C:Addr)(m:Str)(f:Addr):Prop where
 at_:PySem.W.findIn K (.ref C) m=some (some (.ref f))
 fn:PySem.W.isFn K (.ref f)=true
 kp:PySem.W.keepIn K (.ref f)=true
variable {env:Env}
section
variable {X:Cx}{pins:AO}{σ:St}{H:Hp}{s:Shared}{a C dx:Addr}{fs:List (Str×V)}{f:Str}{v:V}{A:Around}{E:VS}
theorem C9{b:Bool}{Q:VS}(I:Inv X pins σ H s)(e:H a=some (.ins C dx fs))(c:qK X.K C)(n:fF X.K C f)(l:fs.lookup f=some v)(h:∀u s',Inv X pins σ H s'->RelV v u->Q u s'):wpAny (model X.prog X.w) A (getAttr (.ref a) f b) Q E s:=by
 obtain⟨mA,O,r,_,_,_⟩:=EL I.hok e
 obtain⟨u,hu,ru⟩:=nJ.some_of (v:=v) (o:=mA f) (by rw[<-l];exact r f)
 exact get_map I.uQ O (c.get f) c.hd n hu (RT ru) (h u _ (I.tok _) ru)
theorem C_{m:Str}{g:Addr}{pl:Sem Bool}{Q:Value×List Value->Shared->Prop}(I:Inv X pins σ H s)(e:H a=some (.ins C dx fs))(c:qK X.K C)(k:Meth X.K C m g)(l:fs.lookup m=none)(h:Q (.ref g,[.ref a]) s):wpAny (model X.prog X.w) A (getMethod (.ref a) m pl) Q E s:=by
 obtain⟨mA,O,r,_,_,_⟩:=EL I.hok e
 have hn:mA m=none:=nJ.none_of (by rw[<-l];exact r m)
 exact UK I.uQ O (c.get m) k.at_ k.fn hn h
theorem Dc(I:Inv X pins σ H s)(e:H a=some (.ins C dx fs))(c:qK X.K C)(n:fF X.K C f)(hl:fs.length<1000)(ry:RelV y u)(h:∀s',Inv X pins σ (upd H a (.ins C dx (aZ f y fs))) s'->Q () s'):wpAny (model X.prog X.w) A (setAttr (.ref a) f u) Q E s:=by
 obtain⟨mA,O,r,wi,_,ho⟩:=EL I.hok e
 have hz:(fs.map (·.1)).length<=sizeLine:=by rw[aH,kP];omega
 refine XH I.uQ O c.sa c.po n.taker c.hd wi hz λh' O' sb=>h _ ?_
 have hd:∃o,h'.get? dx=some o:=let⟨o,_,_,e',_⟩:=O'.ns;⟨o,e'⟩
 refine I.write (x:=a) (e:=dx) (by rw[e];exact True.intro) (.inr ho) (λb q hb z=>(sb.2 b hb).trans z) hd ?_
 refine⟨by rw[ay O.ne];exact ho,?_,O.ne,O'.obj,_,O'.ns,λg=>?_,λg hg=>?_⟩
 . have:=BD f y fs;omega
 . show nJ ((aZ f y fs).lookup g) (if g=f then some u else mA g)
   rw[BC]
   by_cases q:g=f
   . rw[aC q,aC q];exact ry
   . rw[aB q,aB q];exact r g
 . by_cases q:g=f
   . rw[q];exact(zY f y fs).1
   . refine(zY f y fs).2 g (wi g λz=>hg ?_)
     show(if g=f then some u else mA g)=none
     rw[aB q];exact z
theorem Inv.made(I:Inv X pins σ H s):Inv X pins σ (upd (upd H s.heap.objs.size (.own (s.heap.objs.size+1))) (s.heap.objs.size+1) (.ins C s.heap.objs.size []))
  { s with heap:=(s.heap.push PySem.W.emptyDict).push (PySem.W.instObj C s.heap.objs.size) }:=by
 have e1:(s.heap.push PySem.W.emptyDict).get? s.heap.objs.size=some PySem.W.emptyDict:=eT s.heap rfl
 have e2:((s.heap.push PySem.W.emptyDict).push (PySem.W.instObj C s.heap.objs.size)).get? (s.heap.objs.size+1)=some (PySem.W.instObj C s.heap.objs.size):=by
  have:=eT (s.heap.push PySem.W.emptyDict) (o:=PySem.W.instObj C s.heap.objs.size) rfl
  rwa [kO]at this
 have e3:(s.heap.push PySem.W.emptyDict).Ns s.heap.objs.size (λ_=>none):=⟨PySem.W.emptyDict,#[],_,e1,Z,(λe he=>absurd he (by simp)),λ_=>rfl⟩
 have I1:=I.laid (a:=s.heap.objs.size) (o:=.own (s.heap.objs.size+1)) (h':=s.heap.push PySem.W.emptyDict) (t':=s.toks) (λb u q=>b9 _ q) (aO _) ⟨_,e1⟩
 refine I1.laid (a:=s.heap.objs.size+1) (o:=.ins C s.heap.objs.size []) (t':=s.toks) (λb u q=>b9 _ q) (Nat.le_of_eq (kO _ _)) ?_
 have ne:s.heap.objs.size≠s.heap.objs.size+1:=d8 (Nat.lt_succ_self _)
 refine⟨by rw[ay ne,ai],fM _,ne,e2,λ_=>none,(Heap.Ns1.of_empty e3).at λo q=>b9 _ q,λ_=>True.intro,λy hy=>absurd rfl hy⟩
theorem XI{prog:Program}{w:World}{f:Str}{s:Shared}{Q:VS}(hb:attributeBase e f env (eval e env)=eval e env)(h:wpAny (model prog w) A (eval e env) (λo s₁=>wpAny (model prog w) A (getAttr o f true) Q E s₁) E s):wpAny (model prog w) A (eval (.Attribute e f pos) env) Q E s:=
 Attribute_any_ h (by rw[arm_eval_Attribute,hb])
end
inductive ac2(K:Fg)(f:Str)(Q:VK)(x:V)(H1:Hp):Prop
 |mk(a C dx fs v:_)(_:x =.ref a)(_:H1 a=some (.ins C dx fs))(_:qK K C)(_:fF K C f)(_:fs.lookup f=some v)(_:Q v H1)
def ZC(K:Fg)(ta:TE)(f:Str):TE:=λσ H Q=>ta σ H (ac2 K f Q)
inductive XJ(K:Fg)(f:Str)(D:Ends)(σ:St)(y:V)(x:V)(H2:Hp):Prop
 |mk(a C dx fs:_)(_:x =.ref a)(_:H2 a=some (.ins C dx fs))(_:qK K C)(_:fF K C f)(_:fs.length<1000)(_:D.nx σ (upd H2 a (.ins C dx (aZ f y fs))))
def ac3(K:Fg)(ta:TE)(f:Str)(D:Ends)(σ:St):V->Hp->Prop:=λy H1=>ta σ H1 (XJ K f D σ y)
def ZD(K:Fg)(ta tv:TE)(f:Str):TS:=λD σ H=>tv σ H (ac3 K ta f D σ)
def JT(X:Cx)(op:Operator)(rd:V->V->Hp->VK->Prop):Prop:=∀(pins:AO)(s:Shared)(σ:St)(H:Hp)(x y:V)(u v:Value)(Q:VK),Inv X pins σ H s->RelV x u->RelV y v->rd x y H Q->wpAny (model X.prog X.w) X.A (inplaceOp op u v) (EP X pins σ Q) X.xe s
inductive QC(f:Str)(D:Ends)(σ:St)(a:Addr)(C:Addr)(z:V)(H3:Hp):Prop
 |mk(ZE fs':_)(_:H3 a=some (.ins C ZE fs'))(_:fs'.length<1000)(_:D.nx σ (upd H3 a (.ins C ZE (aZ f z fs'))))
def QD(rd:V->V->Hp->VK->Prop)(f:Str)(D:Ends)(σ:St)(a:Addr)(C:Addr)(v:V):V->Hp->Prop:=λy H2=>rd v y H2 (QC f D σ a C)
inductive UM(K:Fg)(tv:TE)(rd:V->V->Hp->VK->Prop)(f:Str)(D:Ends)(σ:St)(x:V)(H1:Hp):Prop
 |mk(a C dx fs v:_)(_:x =.ref a)(_:H1 a=some (.ins C dx fs))(_:qK K C)(_:fF K C f)(_:fs.lookup f=some v)(_:tv σ H1 (QD rd f D σ a C v))
def OD(K:Fg)(ta tv:TE)(rd:V->V->Hp->VK->Prop)(f:Str):TS:=λD σ H=>ta σ H (UM K tv rd f D σ)
variable {rd:V->V->Hp->VK->Prop}
section
variable {X:Cx}{o e value:Expr}{f:Str}{pos pos' tpos:Pos}{ta tv:TE}
theorem ZF(he:PE X e ta)(hb:attributeBase e f X.env (eval e X.env)=eval e X.env):PE X (.Attribute e f pos) (ZC X.K ta f):=by intro pins s σ H Q I h;refine XI hb (bh (he pins s σ H _ I h) λu s1 ⟨x,H1,I1,rx,a,C,dx,fs,v,ex,ea,c,n,l,q⟩=>?_);subst ex;obtain rfl:u=Value.ref a:=rx;exact C9 I1 ea c n l λu' s2 I2 ru=>⟨v,H1,I2,ru,q⟩
theorem ZG(ha:PE X o ta)(hv:PE X value tv)(hs:swapsWith value (some (.Attribute o f pos')) pos.line X.env=pure false):PS X (.Assign [.Attribute o f pos'] value pos) (ZD X.K ta tv f):=by intro pins s σ H D I h;refine plainObj_wpAny_Assign_Attribute (bh (hv pins s σ H _ I h) λu s1 ⟨y,H1,I1,ry,q⟩=>bh (ha pins s1 σ H1 _ I1 q) λov s2 ⟨x,H2,I2,rx,a,C,dx,fs,ex,ea,c,n,l,q2⟩=>?_) hs;subst ex;obtain rfl:ov=Value.ref a:=rx;exact Dc I2 ea c n l ry λs3 I3=>⟨σ,_,I3,q2⟩
theorem RU{op:Operator}(ha:PE X o ta)(hv:PE X value tv)(hop:JT X op rd):PS X (.AugAssign (.Attribute o f tpos) op value pos) (OD X.K ta tv rd f):=by intro pins s σ H D I h;refine wpAny_AugAssign_AttributeAny (bh (ha pins s σ H _ I h) λov s1 ⟨x,H1,I1,rx,a,C,dx,fs,v,ex,ea,c,n,l,q⟩=>?_);subst ex;obtain rfl:ov=Value.ref a:=rx;refine C9 I1 ea c n l λu s2 I2 ru=>bh (hv pins s2 σ H1 _ I2 q) λw3 s3 ⟨y,H2,I3,ry,q3⟩=>bh (hop pins s3 σ H2 v y u w3 _ I3 ru ry q3) λw4 s4 ⟨z,H3,I4,rz,ZE,fs',ea',l',q4⟩=>?_;exact Dc I4 ea' c n l' rz λs5 I5=>⟨σ,_,I5,q4⟩
inductive agG(x:V)(y:V)(H:Hp)(Q:VK):Prop
 |mk(i j:_)(_:x =.int i)(_:y =.int j)(_:Q (.int (i+j)) H)
inductive agH(x:V)(y:V)(H:Hp)(Q:VK):Prop
 |mk(i j:_)(_:x =.int i)(_:y =.int j)(_:Q (.int (i-j)) H)
theorem ZH:JT X .Add agG:=by
 rintro pins s σ H x y u v Q I rx ry ⟨i,j,rfl,rfl,q⟩;obtain⟨t,rfl⟩:=(show ∃t,u=Value.int i t from rx)
 obtain⟨t',rfl⟩:=(show ∃t',v=Value.int j t' from ry)
 exact PyProof.Rows.iadd_int ⟨.int (i+j),H,I.tok _,⟨_,Z⟩,q⟩
theorem JU:JT X .Sub agH:=by
 rintro pins s σ H x y u v Q I rx ry ⟨i,j,rfl,rfl,q⟩;obtain⟨t,rfl⟩:=(show ∃t,u=Value.int i t from rx)
 obtain⟨t',rfl⟩:=(show ∃t',v=Value.int j t' from ry)
 exact PyProof.Rows.isub_int ⟨.int (i-j),H,I.tok _,⟨_,Z⟩,q⟩
end
section
variable {X:Cx}{pins:AO}{σ:St}{H:Hp}{s:Shared}{A:Around}{E:VS}{Q:VS}{c:Value}{b:Bool}
end
structure fm(k:Nat)(A:Around):Prop where
 hd:A.handled=none
 dp:A.depth+3*k+5<recursionLimit
 un:A.units+16*k+200<cLine
theorem fm.mono{k:Nat}{A:Around}(r:fm k A)(h:j<=k):fm j A:=⟨r.hd,by have:=r.dp;omega,by have:=r.un;omega⟩
theorem fm.deeper{k:Nat}{A:Around}(r:fm (k+1) A)(env:Env):fm k (A.deeper env):=⟨r.hd,by have:=r.dp;show A.depth+1+3*k+5<_;omega,by have:=r.un;show A.units+3+16*k+200<_;omega⟩
theorem QE{A:Around}:(A.under (.builtin "type.__call__" ⟨.ref C::us,kw⟩)).depth=A.depth+1:=by first|rfl|simp[Around.under,Code.weight,Code.isCreation,Code.isGuard,Code.isCaller,Code.frames,Code.isFrame,guardIds]
theorem QF{A:Around}:(A.under (.builtin "type.__call__" ⟨.ref C::us,kw⟩)).units=A.units+1:=by first|rfl|simp[Around.under,Code.cUnits,Code.frames,Code.isFrame]
theorem fm.make{k:Nat}{A:Around}(r:fm (k+1) A)(C:Addr)(us:List Value)(kw:List (Str×Value)):fm k (A.under (.builtin "type.__call__" ⟨.ref C::us,kw⟩)):=⟨r.hd,by have:=r.dp;rw[QE];omega,by have:=r.un;rw[QF];omega⟩
theorem fm.depth{k:Nat}{A:Around}(r:fm k A):A.depth<recursionLimit:=by have:=r.dp;omega
theorem fm.units{k:Nat}{A:Around}(r:fm k A):A.units+64<cLine:=by have:=r.un;omega
def xw:TA:=λ_ H Q=>Q [] H
def UN(Q:List V->Hp->Prop)(x:V):List V->Hp->Prop:=λxs H2=>Q (x::xs) H2
def ZI(tr:TA)(σ:St)(Q:List V->Hp->Prop):V->Hp->Prop:=λx H1=>tr σ H1 (UN Q x)
def QG(ta:TE)(tr:TA):TA:=λσ H Q=>ta σ H (ZI tr σ Q)
section
variable {X:Cx}{e:Expr}{es:List Expr}{te:TE}{t:TA}{pos:Pos}
inductive ac4(Q:VK)(xs:List V)(H1:Hp):Prop
 |mk(_:xs.length<=sizeLine)(_:∀p,H1 p=none->Q (.ref p) (upd H1 p (.tup xs)))
def agI(t:TA):TE:=λσ H Q=>t σ H (ac4 Q)
inductive ac5(Q:VK)(xs:List V)(H1:Hp):Prop
 |mk(_:xs.length<=sizeLine)(_:∀p,H1 p=none->Q (.ref p) (upd H1 p (.lst xs)))
def agJ(t:TA):TE:=λσ H Q=>t σ H (ac5 Q)
end
abbrev Sp:=List V->Hp->VK->XK->Prop
abbrev zZ:=List Env->Hp->Shared->XK->Value->Shared->Prop
structure B4(P:Program)(w:World)(K:Fg)(mg:SO)(base:Heap)(A:Around)(outer:List Env)(s:Shared)(H:Hp):Prop where
 frames:A.frames=some outer
 mod:Mod K mg base
 bs:∀b o,base.get? b=some o->s.heap.get? b=some o/\H b=none
 Gm:base.objs.size<=s.heap.objs.size
 tN:s.heap.FunFrames base outer
 JP:∀b∈frs outer,H b=none
 hok:jj P w H s.heap
 bare:AllBare s.gens
def CE(outer:List Env)(P:Program)(w:World)(H:Hp)(s:Shared)(Q:VK)(u:Value)(s':Shared):Prop:=∃v H',s'.os=s.os/\AllBare s'.gens/\Un (frs outer) [] H H' s.heap s'.heap/\jj P w H' s'.heap/\RelV v u/\Q v H'
def CR(CX:zZ)(outer:List Env)(P:Program)(w:World)(H:Hp)(s:Shared)(Q:VK)(E:XK)(r:Result)(s':Shared):Prop:=match r with
 | .ok (.ret u)=>CE outer P w H s Q u s'
 | .ok _=>False
 | .error e=>CX outer H s E e s'
structure j_(P:Program)(w:World)(K:Fg)(mg:SO)(base:Heap)(CX:zZ)(k:Nat)(f:Addr)(fd:FuncData)(ps:List Str)(sp:Sp):Prop where
 len:∀vs H Q E,sp vs H Q E->vs.length=ps.length
 run:∀(A:Around)(outer:List Env)(s:Shared)(H:Hp)(args:Args)(us:List Value)(vs:List V)(Q:VK)(E:XK),fm k A->B4 P w K mg base A outer s H->BindsTo s fd args (ps.zip us)->Vals vs us->sp vs H Q E->
  codeAny (model P w) A (.call (.ref f) args) (CR CX outer P w H s Q E) s
variable {mg:SO}{base:Heap}{CX:zZ}{f:Addr}{fd:FuncData}{ps:List Str}{sp:Sp}
theorem j_.imp{w:World}{k:Nat}{RV:Sp}(F:j_ P w K mg base CX k f fd ps sp)(h:∀vs H Q E,RV vs H Q E->sp vs H Q E):j_ P w K mg base CX k f fd ps RV:=
 ⟨λvs H Q E q=>F.len vs H Q E (h _ _ _ _ q),λA outer s H args us vs Q E hr he hb hv hs=>F.run A outer s H args us vs Q E hr he hb hv (h _ _ _ _ hs)⟩
theorem B4.make{w:World}{A:Around}{outer:List Env}(e:B4 P w K mg base A outer s H)(C:Addr)(us:List Value)(kw:List (Str×Value)):B4 P w K mg base (A.under (.builtin "type.__call__" ⟨.ref C::us,kw⟩)) outer s H:=⟨by first|exact e.frames|(simpa[Around.under,Code.envs,Code.isFrame,pushEnvs]using e.frames),e.mod,e.bs,e.Gm,e.tN,e.JP,e.hok,e.bare⟩
section
variable {X:Cx}{pins:AO}{σ:St}{H:Hp}{s s':Shared}
theorem Inv.ZJ(I:Inv X pins σ H s):B4 X.prog X.w X.K X.mg X.base X.A X.stack s H:=⟨I.ok.frames,I.ok.mod,I.bs,gh I.ok.Gm I.sz,I.stack,I.OB,I.hok,I.bare⟩
theorem Inv.after{Q:VK}(I:Inv X pins σ H s)(h:CE X.stack X.prog X.w H s Q u s'):EP X pins σ Q u s':=by obtain⟨v,H',os,bare,un,hok,r,q⟩:=h;obtain⟨hh,g,d,t,os'⟩:=s';obtain rfl:os'=s.os:=os;exact⟨v,H',I.call (h':=hh) (g':=g) (d':=d) (t':=t) (ch:=[]) un hok bare (λb z=>absurd z (by simp)),r,q⟩
end
def ZK(sp:Sp)(jk:List V)(E:XK)(Q:VK):List V->Hp->Prop:=λvs H1=>sp (vs++jk) H1 Q E
def Wx(sp:Sp)(jk:List V)(E:XK)(t:TA):TE:=λσ H Q=>t σ H (ZK sp jk E Q)
def UO(sp:Sp)(jk:List V)(E:XK)(Q:VK)(x:V):List V->Hp->Prop:=λvs H2=>sp (x::(vs++jk)) H2 Q E
inductive ZL(C:Addr)(m:Str)(sp:Sp)(jk:List V)(E:XK)(t:TA)(σ:St)(Q:VK)(x:V)(H1:Hp):Prop
 |mk(a dx fs:_)(_:x =.ref a)(_:H1 a=some (.ins C dx fs))(_:fs.lookup m=none)(_:t σ H1 (UO sp jk E Q x))
def Jt(C:Addr)(m:Str)(sp:Sp)(jk:List V)(E:XK)(ta:TE)(t:TA):TE:=λσ H Q=>ta σ H (ZL C m sp jk E t σ Q)
def ZM(C:Addr)(sp:Sp)(jk:List V)(E:XK)(Q:VK):List V->Hp->Prop:=λvs H1=>∀x dx,H1 x=none->H1 dx=none->dx≠x->sp (.ref x::(vs++jk)) (upd (upd H1 dx (.own x)) x (.ins C dx [])) (λv H2=>v =.cW/\Q (.ref x) H2) E
def Ju(C:Addr)(sp:Sp)(jk:List V)(E:XK)(t:TA):TE:=λσ H Q=>t σ H (ZM C sp jk E Q)
def Binds(K:Fg)(fd:FuncData)(ps:List Str)(ds:List Value):Prop:=∀(s:Shared)(us:List Value),K.In s.heap->(us++ds).length=ps.length->BindsTo s fd ⟨us,[]⟩ (ps.zip (us++ds))
theorem Binds.all(h:∀us:List Value,us.length=ps.length->bindArgs fd ⟨us,[]⟩=pure (ps.zip us)):Binds K fd ps [] :=λs us _ hl=>by rw[CT]at hl ⊢;exact .of_eq (h us hl)
def Passes(CX:zZ)(X:Cx)(E:XK):Prop:=∀(pins:AO)(σ:St)(H:Hp)(s:Shared)(e:Value)(s':Shared),Inv X pins σ H s->CX X.stack H s E e s'->X.xe e s'
variable {vs:List V}
section
variable {X:Cx}{CX:zZ}{k:Nat}{f C:Addr}{fd:FuncData}{ps:List Str}{sp:Sp}{jk:List V}{ds:List Value}{E:XK}{x m:Str}{p pos apos:Pos}{e o:Expr}{es:List Expr}{ta:TE}{t:TA}
theorem JV{Q:VK}(F:j_ X.prog X.w X.K X.mg X.base CX k f fd ps sp)(hr:fm k X.A)(hb:Binds X.K fd ps ds)(hd:Vals jk ds)(hx:Passes CX X E)(I:Inv X pins σ H s)(r:Vals vs us)(h:sp (vs++jk) H Q E):wpAny (model X.prog X.w) X.A (call (.ref f) us) (EP X pins σ Q) X.xe s:=by
 have r2:Vals (vs++jk) (us++ds):=r.append hd
 have hl:(us++ds).length=ps.length:=by rw[<-r2.length];exact F.len _ _ _ _ h
 refine wpAny_call (codeAny_mono (F.run X.A X.stack s H ⟨us,[]⟩ (us++ds) (vs++jk) Q E hr I.ZJ (hb s us I.uQ hl) r2 h) λr s' hq=>?_)
 cases r with
 | error e=>exact hx pins σ H s e s' I hq
 | ok fl=>
   cases fl with
   | ret u=>exact I.after hq
   | next=>exact False.elim hq
   | brk=>exact False.elim hq
   | cont=>exact False.elim hq
theorem XM(F:j_ X.prog X.w X.K X.mg X.base CX k f fd ps sp)(hr:fm k X.A)(hg:Gl X x)(hm:X.mg x=some (.ref f))(hk:PySem.W.keepIn X.K (.ref f)=true)(hb:Binds X.K fd ps ds)(hd:Vals jk ds)(hx:Passes CX X E)(ha:PA X (e::es) t)(hdb:(x==("__debug__":Str))=false:=by decide)(he:starEach (e::es) X.env=(false,eval e X.env)::starEach es X.env:=by rfl)(hpl:(backTo pos (starEach es X.env)).any (·.1)=false:=by rfl):
  PE X (.Call (.Name x p) (e::es) [] pos) (Wx sp jk E t):=by
 intro pins s σ H Q I h
 refine JF (Ba I hg hm ?_ hdb)
 refine PySem.W.callWith_K (h₀:=X.base) I.ok.mod.RH hk (bh (ha pos pins s σ H _ I h) λus s1 ⟨vs,H1,I1,r,q⟩=>⟨I1.uQ,?_⟩) he hpl
 exact JV F hr hb hd hx I1 r q
theorem XO{pl:Sem Bool}(he:PE X o ta)(c:qK X.K C)(hm:Meth X.K C m f)(F:j_ X.prog X.w X.K X.mg X.base CX k f fd ps sp)(hr:fm k X.A)(hb:Binds X.K fd ps ds)(hd:Vals jk ds)(hx:Passes CX X E)(ha:PA X (e::es) t)(hst:starEach (e::es) X.env=(false,eval e X.env)::starEach es X.env:=by rfl)(hpl:(backTo pos (starEach es X.env)).any (·.1)=false:=by rfl)(ht:eval (.Call (.Attribute o m apos) (e::es) [] pos) X.env=(do
    let ov <-eval o X.env
    standAt apos.atName
    let(f,first) <-holding [ov] (getMethod ov m pl)
    callWith pos f first (backTo pos (starEach (e::es) X.env)) (backToKw pos (keywordEach [] X.env))):=by rfl):
  PE X (.Call (.Attribute o m apos) (e::es) [] pos) (Jt C m sp jk E ta t):=by
 intro pins s σ H Q I h
 refine PySem.W.methodCall_KW (pl:=pl) (bh (he pins s σ H _ I h) λu s1 ⟨x,H1,I1,rx,a,dx,fs,ex,ea,l,q⟩=>?_) ht
 subst ex
 obtain rfl:u=Value.ref a:=rx
 refine C_ I1 ea c hm l ?_
 refine PySem.W.callWith_K (first:=[.ref a]) (h₀:=X.base) I.ok.mod.RH hm.kp (bh (ha pos pins s1 σ H1 _ I1 q) λus s2 ⟨vs,H2,I2,r,q2⟩=>⟨I2.uQ,?_⟩) hst hpl
 exact JV (us:=.ref a::us) (vs:=.ref a::vs) F hr hb hd hx I2 (.cons rfl r) q2
theorem UP{pl:Sem Bool}(he:PE X o ta)(c:qK X.K C)(hm:Meth X.K C m f)(F:j_ X.prog X.w X.K X.mg X.base CX k f fd ps sp)(hr:fm k X.A)(hb:Binds X.K fd ps ds)(hd:Vals jk ds)(hx:Passes CX X E)(ht:eval (.Call (.Attribute o m apos) [] [] pos) X.env=(do
    let ov <-eval o X.env
    standAt apos.atName
    let(f,first) <-holding [ov] (getMethod ov m pl)
    callWith pos f first (backTo pos (starEach [] X.env)) (backToKw pos (keywordEach [] X.env))):=by rfl):
  PE X (.Call (.Attribute o m apos) [] [] pos) (Jt C m sp jk E ta xw):=by
 intro pins s σ H Q I h
 refine PySem.W.methodCall_KW (pl:=pl) (bh (he pins s σ H _ I h) λu s1 ⟨x,H1,I1,rx,a,dx,fs,ex,ea,l,q⟩=>?_) ht
 subst ex
 obtain rfl:u=Value.ref a:=rx
 refine C_ I1 ea c hm l ?_
 exact PySem.W.callWith_K0 (first:=[.ref a]) I1.uQ hm.kp (JV (us:=[.ref a]) (vs:=[.ref a]) F hr hb hd hx I1 (.cons rfl .nil) q)
structure Mk(K:Fg)(C f:Addr):Prop where
 makes:PySem.W.makesIn K C=true
 init:PySem.W.findIn K (.ref C) "__init__"=some (some (.ref f))
 fn:PySem.W.isFn K (.ref f)=true
 kp:PySem.W.keepIn K (.ref C)=true
theorem JW{Q:VK}(M:Mk X.K C f)(F:j_ X.prog X.w X.K X.mg X.base CX k f fd ps sp)(hr:fm (k+1) X.A)(hb:Binds X.K fd ps ds)(hd:Vals jk ds)(hx:Passes CX X E)(I:Inv X pins σ H s)(r:Vals vs us)(h:∀x dx,H x=none->H dx=none->dx≠x->sp (.ref x::(vs++jk)) (upd (upd H dx (.own x)) x (.ins C dx [])) (λv H2=>v =.cW/\Q (.ref x) H2) E):
  wpAny (model X.prog X.w) X.A (call (.ref C) us) (EP X pins σ Q) X.xe s:=by
 have hq:=h (s.heap.objs.size+1) s.heap.objs.size (I.hok.fresh (A_ _)) (I.hok.fresh (aO _)) (d8 (Nat.lt_succ_self _))
 have I2:=Inv.made (C:=C) I
 have r2:Vals (V.ref (s.heap.objs.size+1)::(vs++jk)) (Value.ref (s.heap.objs.size+1)::(us++ds)):=.cons rfl (r.append hd)
 have hl:(Value.ref (s.heap.objs.size+1)::us++ds).length=ps.length:=by have e:=r2.length;rw[F.len _ _ _ _ hq]at e;exact e.symm
 refine wpAny_call (UL (f:=f) I.uQ M.makes M.init (uE.mp M.fn) (codeAny_mono (F.run _ X.stack _ _ ⟨Value.ref (s.heap.objs.size+1)::us,[]⟩ (Value.ref (s.heap.objs.size+1)::(us++ds)) _ _ E (hr.make C us [])
  (I2.ZJ.make C us []) (hb _ (Value.ref (s.heap.objs.size+1)::us) I2.uQ hl) r2 hq) λr s' hq'=>?_))
 cases r with
 | error e=>exact hx pins σ _ _ e s' I2 hq'
 | ok fl=>
   cases fl with
   | ret u=>
     obtain⟨v,H',I3,rv,ev,q3⟩:=I2.after hq'
     subst ev
     exact⟨rv,⟨V.ref (s.heap.objs.size+1),H',I3,Z,q3⟩⟩
   | next=>exact False.elim hq'
   | brk=>exact False.elim hq'
   | cont=>exact False.elim hq'
theorem XQ(M:Mk X.K C f)(F:j_ X.prog X.w X.K X.mg X.base CX k f fd ps sp)(hr:fm (k+1) X.A)(hg:Gl X x)(hm:X.mg x=some (.ref C))(hb:Binds X.K fd ps ds)(hd:Vals jk ds)(hx:Passes CX X E)(ha:PA X (e::es) t)(hdb:(x==("__debug__":Str))=false:=by decide)(he:starEach (e::es) X.env=(false,eval e X.env)::starEach es X.env:=by rfl)(hpl:(backTo pos (starEach es X.env)).any (·.1)=false:=by rfl):
  PE X (.Call (.Name x p) (e::es) [] pos) (Ju C sp jk E t):=by
 intro pins s σ H Q I h
 refine JF (Ba I hg hm ?_ hdb)
 refine PySem.W.callWith_K (h₀:=X.base) I.ok.mod.RH M.kp (bh (ha pos pins s σ H _ I h) λus s1 ⟨vs,H1,I1,r,q⟩=>⟨I1.uQ,?_⟩) he hpl
 exact JW M F hr hb hd hx I1 r q
theorem UQ(M:Mk X.K C f)(F:j_ X.prog X.w X.K X.mg X.base CX k f fd ps sp)(hr:fm (k+1) X.A)(hg:Gl X x)(hm:X.mg x=some (.ref C))(hb:Binds X.K fd ps ds)(hd:Vals jk ds)(hx:Passes CX X E)(hdb:(x==("__debug__":Str))=false:=by decide):PE X (.Call (.Name x p) [] [] pos) (Ju C sp jk E xw):=by
 intro pins s σ H Q I h
 refine JF (Ba I hg hm ?_ hdb)
 exact PySem.W.callWith_K0 I.uQ M.kp (JW (us:=[]) M F hr hb hd hx I .nil h)
end
section
variable {X:Cx}{CX:zZ}{k:Nat}{f C:Addr}{fd:FuncData}{ps ks:List Str}{sp:Sp}{E:XK}{x m:Str}{p pos apos kpos:Pos}{e o:Expr}{es:List Expr}{kws:List Keyword}{te ta:TE}{t tk:TA}{nm:Option Str}
variable {g:List Value->List Value->List Value}{gV:List V->List V->List V}
end
structure aS(N P:List Str)(sc:Scope):Prop where
 kind:sc.kind =.function
 co:sc.isCoroutine=false
 gen:sc.isGenerator=false
 nd:N.Nodup
 pre:N.take P.length=P
 par:∀x∈P,sc.names.lookup x=some .local\/sc.names.lookup x=some .cell
 ZN:∀y∈sc.names,y.2 ≠ .free
theorem Gq{kindOf:Str->Option NameKind}{x:Str}:∀{binds:List (Str×Value)}{m:SO},(∀v,(x,v)∉binds)->bindL kindOf binds m x=m x
 | [],_,_=>rfl
 | (n,v)::r,m,h=>by
  unfold bindL;rw[Gq λw hw=>h w (cA _ hw)];split
  .have:x≠n:=by rintro rfl;exact h v cU
   simp[this]
  .rfl
theorem Gr{kindOf:Str->Option NameKind}{x:Str}:∀{binds:List (Str×Value)}{m:SO},(∀v,(x,v)∉binds)->bindC kindOf binds m x=m x
 | [],_,_=>rfl
 | (n,v)::r,m,h=>by
  unfold bindC;rw[Gr λw hw=>h w (cA _ hw)];split
  .rfl
  .have:x≠n:=by rintro rfl;exact h v cU
   simp[this]
theorem Gs{kindOf:Str->Option NameKind}{x:Str}{v:Value}:∀{P:List Str}{vs:List Value}{i:Nat}{m:SO},P.Nodup->P[i]?=some x->vs[i]?=some v->kindOf x=some .local->bindL kindOf (P.zip vs) m x=some v
 | [],_,_,_,_,h,_,_=>by simp at h
 | _::_,[],_,_,_,_,h,_=>by simp at h
 | p::P,w::vs,0,m,nd,h1,h2,hk=>by simp at h1 h2;subst h1;subst h2;show bindL kindOf ((p,w)::P.zip vs) m p=_;unfold bindL;rw[Gq λv hv=>(fX.mp nd).1 (CU hv).1,aC hk];simp
 | p::P,w::vs,i+1,m,nd,h1,h2,hk=>by show bindL kindOf ((p,w)::P.zip vs) m x=_;unfold bindL;exact Gs (i:=i) (fX.mp nd).2 (by simpa using h1) (by simpa using h2) hk
theorem Gu{kindOf:Str->Option NameKind}{x:Str}{v:Value}:∀{P:List Str}{vs:List Value}{i:Nat}{m:SO},P.Nodup->P[i]?=some x->vs[i]?=some v->kindOf x≠some .local->bindC kindOf (P.zip vs) m x=some v
 | [],_,_,_,_,h,_,_=>by simp at h
 | _::_,[],_,_,_,_,h,_=>by simp at h
 | p::P,w::vs,0,m,nd,h1,h2,hk=>by simp at h1 h2;subst h1;subst h2;show bindC kindOf ((p,w)::P.zip vs) m p=_;unfold bindC;rw[Gr λv hv=>(fX.mp nd).1 (CU hv).1,aB hk];simp
 | p::P,w::vs,i+1,m,nd,h1,h2,hk=>by show bindC kindOf ((p,w)::P.zip vs) m x=_;unfold bindC;exact Gu (i:=i) (fX.mp nd).2 (by simpa using h1) (by simpa using h2) hk
def start(N:List Str)(vs:List V):St:=vs.map some++List.replicate (N.length-vs.length) none
def tP(CX:zZ)(P:Program)(w:World)(K:Fg)(mg:SO)(base:Heap)(N:List Str)(qual:Str)(scope:Scope)(f:Addr)(cd:Value)(A:Around)(outer:List Env)(s:Shared)(H:Hp)(E:XK):Cx where
 prog:=P
 w:=w
 K:=K
 mg:=mg
 base:=base
 A:=A.deeper (envOfC qual scope s.heap.objs.size f cd)
 N:=N
 s₀:=s
 H₀:=H
 env:=envOfC qual scope s.heap.objs.size f cd
 outer:=outer
 stack:=envOfC qual scope s.heap.objs.size f cd::outer
 ex:=[]
 calm:=true
 fn:=λ_=>true
 pn:=[]
 xe:=λe s'=>wpAny (model P w) (A.deeper (envOfC qual scope s.heap.objs.size f cd)) (leaving (envOfC qual scope s.heap.objs.size f cd) e) (λ_ s''=>CX outer H s E e s'') (λe' s''=>CX outer H s E e' s'') s'
theorem JX{sc:Scope}(h:sc.names.lookup x=some .cell):∃c,(cellsFrom n sc.names []).lookup x=some c:=by have q:=PySem.W.cellsFrom_some sc.names n [] (.inl h);exact Option.isSome_iff_exists.mp q
variable {qual:Str}{scope:Scope}
theorem RW{w:World}{cd:Value}{A:Around}{outer:List Env}{s1:Shared}{E:XK}(S:aS N ps scope)(hd:A.handled=none)(e0:B4 P w K mg base A outer s H)(hl:vs.length=ps.length)(r:Vals vs us)(x:InCallC s s.heap.objs.size (bindL (envOfC qual scope s.heap.objs.size f cd).kindOf (ps.zip us) λ_=>none) (cellsFrom (s.heap.objs.size+1) scope.names []) (bindC (envOfC qual scope s.heap.objs.size f cd).kindOf (ps.zip us) λ_=>none) s1):
  Inv (tP CX P w K mg base N qual scope f cd A outer s H E) [] (start N vs) H s1:=by
 have hpl:ps.length<=N.length:=by have:=ff List.length S.pre;rw[kN]at this;omega
 obtain⟨h1,tk,rfl,hk⟩:=x.done
 have RX:∀b:Addr,b∉(tP CX P w K mg base N qual scope f cd A outer s H E).ex:=λb z=>absurd (show b∈([] :List Addr)from z) (by simp)
 refine⟨⟨e0.mod,S.kind,Z,Z,aO _,λy z c h1 h2=>?_,λy hy=>?_,λy c _ h=>?_,λ_=>hd,Around.frames_deeper e0.frames,.inr ⟨Z,Z⟩,λb z=>absurd z (RX b),e0.bs,e0.Gm,λb _ _=>RX b,λb z=>absurd z (RX b),e0.tN,e0.JP⟩,
  rfl,e0.bare,Un.kept hk,⟨_,x.toInCall.ns,λi y v h1 h2 h3=>?_⟩,λy c h=>⟨_,x.cell y c h⟩,e0.hok.fresh (aO _),λy c h=>?_,λp hp=>absurd (show p∈([] :AO)from hp) (by simp),e0.hok.kept hk,?_⟩
 . exact name_of_addr x.apart (yo h1) (yo h2)
 . have hy:scope.names.lookup y=some .cell\/scope.names.lookup y=some .free:=hy
   rcases hy with hy|hy
   . exact JX hy
   . exact absurd rfl (S.ZN _ (yo hy))
 . exact A0 (x.above y c (yo h))
 . have hi:i<vs.length:=by
    unfold start at h2
    by_cases hi:i<vs.length
    . exact hi
    . rw[CQ (by simpa using hi)]at h2
      rw[Qd]at h2
      split at h2 <;> cases h2
   have ha:vs[i]?=some v:=by
    unfold start at h2;rw[zN (by simpa using hi),cN]at h2;cases e:vs[i]? with
    | none=>rw[e]at h2;cases h2
    | some a=>rw[e]at h2;cases h2;rfl
   obtain⟨u,hu,rv⟩:=r.get ha
   have hp:ps[i]?=some y:=by rw[<-S.pre,List.getElem?_take_of_lt (by omega)];exact h1
   have ndP:ps.Nodup:=by rw[<-S.pre];exact S.nd.sublist (Qq _ _)
   refine⟨u,rv,?_⟩
   rcases S.par y (cu hp)with k|k
   . exact .inl ⟨k,Gs ndP hp hu k⟩
   . obtain⟨c,e⟩:=JX (n:=s.heap.objs.size+1) k
     refine .inr ⟨.inl k,c,e,?_⟩
     have q:=x.cell y c e
     rw[Gu ndP hp hu (by show scope.names.lookup y≠_;rw[k];decide)]at q
     exact q
 . exact e0.hok.fresh (A0 (x.above y c (yo h)))
 . unfold start
   show _=N.length
   rw[dD,aH,jV]
   omega
variable {body:List Stmt}{doc pm cdv ct oc:Value}{an od:Option Addr}
theorem ac6{w:World}{k:Nat}{name:Str}{params:Arguments}{dV kV:Value}{osl:Array (Option Value)}{N ps:List Str}{sp:Sp}(lk:K.lookup f=some ⟨oc,od,.func (PySem.W.fnOf name qual params body scope dV kV doc pm an cdv ct),osl⟩)(hcd:PySem.W.codeIn K cdv qual=true)(S:aS N ps scope)(len:∀vs H Q E,sp vs H Q E->vs.length=ps.length)(hbody:∀(A:Around) (outer:List Env) (s:Shared) (H:Hp) (vs:List V) (Q:VK) (E:XK),fm k (A.deeper (envOfC qual scope s.heap.objs.size f cdv))->sp vs H Q E->
    ∃t,wF (tP CX P w K mg base N qual scope f cdv A outer s H E) body t/\t { nx:=λ_ H'=>Q .cW H',rt:=Q } (start N vs) H):
  j_ P w K mg base CX (k+1) f (PySem.W.fnOf name qual params body scope dV kV doc pm an cdv ct) ps sp:=by
 refine⟨len,λA outer s H args us vs Q E hr e0 hb r uS=>?_⟩
 have hl:=len _ _ _ _ uS
 have KX:K.In s.heap:=e0.mod.RH.keeps λb o e=>(e0.bs b o e).1
 have lim:s.heap.NoLimit:=e0.mod.nolimit.keeps λb o e=>(e0.bs b o e).1
 have hkind:∀y∈ps.zip us,scope.names.lookup y.1=some .local\/(scope.names.lookup y.1=some .cell/\((cellsFrom (s.heap.objs.size+1) scope.names []).lookup y.1).isSome=true):=λ⟨n,v⟩ hy=>by
  rcases S.par n (CU hy).1 with q|q
  .exact .inl q
  .exact .inr ⟨q,PySem.W.cellsFrom_some _ _ _ (.inl q)⟩
 refine codeAny_call_function hr.depth (KX _ _ lk) rfl S.co S.gen rfl (PySem.W.codeRec_of KX hcd) (hb _ _ _ _ ?_)
 refine wpAny_newFunctionEnv_cells S.kind hkind λenv he s1 x=>?_
 subst he
 refine⟨lim.keeps x.toInCall.keep,codeAny_func ?_⟩
 obtain⟨t,ht,hq⟩:=hbody A outer s H vs Q E (hr.deeper _) uS
 have I:Inv (tP CX P w K mg base N qual scope f cdv A outer s H E) [] (start N vs) H s1:=RW S hr.hd e0 hl r x
 refine gH (ht [] s1 (start N vs) H _ I hq) (λfl s' hs=>?_) λe s' hs=>hs
 have fin:∀{σ':St}{H':Hp}{v:V}{u:Value},Inv (tP CX P w K mg base N qual scope f cdv A outer s H E) [] σ' H' s'->RelV v u->Q v H'->CE outer P w H s Q u s':=
  λ{σ' H' v u} J rv q=>⟨v,H',J.os,J.bare,J.base,J.hok,rv,q⟩
 cases fl with
 | ret u=>
   obtain⟨v,σ',H',J,rv,q⟩:=hs
   exact fin J rv q
 | next=>
   obtain⟨σ',H',J,q⟩:=hs
   exact fin (v:=V.cW) (u:=Value.none) J rfl q
 | brk=>
   obtain⟨_,_,_,q⟩:=hs
   exact False.elim q
 | cont=>
   obtain⟨_,_,_,q⟩:=hs
   exact False.elim q
section
variable {X:Cx}{x:Str}{p pos:Pos}{e:Expr}{es:List Expr}{t:TA}{id T:String}{r:List V->Hp->VK->Prop}
def agK(r:List V->Hp->VK->Prop)(Q:VK):List V->Hp->Prop:=λvs H1=>r vs H1 Q
def ZO(r:List V->Hp->VK->Prop)(t:TA):TE:=λσ H Q=>t σ H (agK r Q)
end
end L2
namespace HT
open PySem PyProof.Rows
section
open PySem.SeqAt
open PySem.AutoSeq1 (wpAny_loadPart')
open PySem.MeetsSeq PySem.MeetsSeq2 PySem.MeetsSeq3
end
section
variable {prog:Program}{w:World}{A:Around}{E:VS}{s:Shared}
def sO(n d:Nat):Option Int->Nat
 | none=>d
 | some v=>if v<0 then(v+(n:Int)).toNat else min v.toNat n
theorem JY(n d:Nat):sO n d none=d:=rfl
theorem OE(n d k:Nat):sO n d (some (k:Int))=min k n:=by show(if(k:Int)<0 then((k:Int)+(n:Int)).toNat else min (k:Int).toNat n)=min k n;rw[aB (by omega),tL]
end
end HT
namespace L2
open PySem PySem.Spec PyProof.Rows
abbrev TO:=St->Hp->(Option Int->Hp->Prop)->Prop
def PO(X:Cx)(e:Option Expr)(t:TO):Prop:=∀(pins:AO)(s:Shared)(σ:St)(H:Hp)(Q:Option Int->Hp->Prop),Inv X pins σ H s->t σ H Q->wpAny (model X.prog X.w) X.A (evalPart e X.env) (λu s'=>∃o H',Inv X pins σ H' s'/\IsPart u o/\Q o H') X.xe s
def XR:TO:=λ_ H Q=>Q none H
inductive ZP(Q:Option Int->Hp->Prop)(x:V)(H1:Hp):Prop
 |mk(i:_)(_:x =.int i)(_:Q (some i:_) H1)
def ac7(t:TE):TO:=λσ H Q=>t σ H (ZP Q)
variable {ns:List Int}
theorem intsAre_of:∀{us:List Value},Vals (ns.map V.int) us->IntsAre us ns:=by
 induction ns with
 | nil=>intro us r;rw[List.map_nil]at r;cases r;exact .nil
 | cons n ns ih=>
  intro us r;rw[bz]at r;cases r with
  | cons r1 r2=>obtain⟨t,e⟩:=r1;subst e;exact .cons n t (ih r2)
section
variable {X:Cx}{e:Expr}{te:TE}{lo hi:Option Expr}{tl th:TO}{pos p2:Pos}
def SlR(X:Cx)(r:V->Option Int->Option Int->Hp->VK->Prop):Prop:=∀(pins:AO)(s:Shared)(σ:St)(H:Hp)(x:V)(v vl vu:Value)(lo hi:Option Int)(sl:Addr)(Q:VK),Inv X pins σ H s->RelV x v->s.heap.IsSliceOf sl vl vu .none->IsPart vl lo->IsPart vu hi->r x lo hi H Q->∃T id,typeLookup (.type T) "__getitem__"=pure (some (.builtin id))/\s.TypeIs v T/\wpAny (model X.prog X.w) X.A (getItem v (.ref sl)) (EP X pins σ Q) X.xe s
def ZQ(r:V->Option Int->Option Int->Hp->VK->Prop)(Q:VK)(x:V)(l:Option Int):Option Int->Hp->Prop:=λu H3=>r x l u H3 Q
def ZR(r:V->Option Int->Option Int->Hp->VK->Prop)(th:TO)(σ:St)(Q:VK)(x:V):Option Int->Hp->Prop:=λl H2=>th σ H2 (ZQ r Q x l)
def agL(r:V->Option Int->Option Int->Hp->VK->Prop)(tl:TO)(th:TO)(σ:St)(Q:VK):V->Hp->Prop:=λx H1=>tl σ H1 (ZR r th σ Q x)
def tSl(r:V->Option Int->Option Int->Hp->VK->Prop)(te:TE)(tl th:TO):TE:=λσ H Q=>te σ H (agL r tl th σ Q)
def z6(xs:List V)(lo hi:Option Int):List V:=(xs.drop (HT.sO xs.length 0 lo)).take (HT.sO xs.length xs.length hi-HT.sO xs.length 0 lo)
theorem MZ(xs:List V)(lo hi:Option Int):(z6 xs lo hi).length<=xs.length:=by unfold z6;rw[kN,JL];omega
end
def De(n:Nat)(i:Int):Option Nat:=if 0<=i then(if i<n then some i.toNat else none) else if -(n:Int)<=i then some (i+n).toNat else none
def sP{α:Type}(xs:List α)(i:Int):Option α:=(De xs.length i).bind λj=>xs[j]?
variable {n j:Nat}
theorem OF{i:Int}(h:De n i=some j):seqIndex? i n=some j/\j<n/\-(n:Int)<=i/\i<n:=by
 unfold De at h;by_cases h0:0<=i
 .rw [aC h0]at h;by_cases h1:i<n
  .rw [aC h1]at h;have e:i.toNat=j:=fE h;exact⟨by rw[seqIndex_of h0 h1,e],by omega,by omega,h1⟩
  .rw [aB h1]at h;cases h
 .rw [aB h0]at h;by_cases h1:-(n:Int)<=i
  .rw [aC h1]at h;have e:(i+n).toNat=j:=fE h;exact⟨by rw[seqIndex_neg (by omega) h1,e],by omega,h1,by omega⟩
  .rw [aB h1]at h;cases h
theorem Bc{α:Type}{xs:List α}{i:Int}{v:α}(h:sP xs i=some v):∃j,seqIndex? i xs.length=some j/\xs[j]?=some v/\j<xs.length/\-(xs.length:Int)<=i/\i<xs.length:=by
 unfold sP at h;cases e:De xs.length i with
 | none=>rw[e]at h;cases h
 | some j=>rw[e]at h;obtain⟨h1,h2,h3,h4⟩:=OF e;exact⟨j,h1,h,h2,h3,h4⟩
theorem aM{α:Type}{xs:List α}{v:α}(h:xs[j]?=some v):sP xs (j:Int)=some v:=by
 have hj:j<xs.length:=(dY.mp h).1;have e:De xs.length (j:Int)=some j:=by unfold De;rw[aC (by omega),aC (by omega)];simp
 unfold sP;rw[e];exact h
def XS(b:Expr):Prop:=∀o i,subscripted b false o i=operate [o,i] (getItem o i)
def zu(X:Cx)(r:R2):Prop:=∀(value slice:Expr)(pins:AO)(s:Shared)(σ:St)(H:Hp)(x y:V)(v u:Value)(Q:VK),Inv X pins σ H s->RelV x v->RelV y u->r x y H Q->subscripted slice false v u=operate [v,u] (getItem v u)->wpAny (model X.prog X.w) X.A (subscriptTail value slice v u) (EP X pins σ Q) X.xe s
def MtR(X:Cx)(id:String)(r:V->List V->Hp->VK->Prop):Prop:=∀(pins:AO)(s:Shared)(σ:St)(H:Hp)(x:V)(xs:List V)(v:Value)(us:List Value)(Q:VK),Inv X pins σ H s->RelV x v->Vals xs us->r x xs H Q->wpAny (model X.prog X.w) X.A (call (.builtin id) (v::us)) (EP X pins σ Q) X.xe s
variable {pins:AO}{σ:St}{H:Hp}{s:Shared}{xs ys:List V}{its its':List Value}{y:V}{u:Value}
section
variable {X:Cx}{a b:Expr}{ta tb:TE}{pos:Pos}
theorem zu.or{r r':R2}(h:zu X r)(h':zu X r'):zu X (λx y H Q=>r x y H Q\/r' x y H Q):=by
 intro value slice pins s σ H x y v u Q I rx ry q hs;rcases q with q|q
 .exact h value slice pins s σ H x y v u Q I rx ry q hs
 .exact h' value slice pins s σ H x y v u Q I rx ry q hs
inductive QH(K:Fg)(x:V)(y:V)(H:Hp)(Q:VK):Prop
 |mk(p xs i v:_)(_:x =.ref p)(_:y =.int i)(_:aJ K H p xs)(_:sP xs i=some v)(_:Q v H)
inductive QI(K:Fg)(x:V)(y:V)(H:Hp)(Q:VK):Prop
 |mk(p xs i v:_)(_:x =.ref p)(_:y =.int i)(_:dG K H p xs)(_:sP xs i=some v)(_:Q v H)
inductive ZS(x:V)(y:V)(H:Hp)(Q:VK):Prop
 |mk(z i c:_)(_:x =.str z)(_:y =.int i)(_:z.length<=sizeLine)(_:sP z.cps.toList i=some c)(_:Q (.str ⟨#[c]⟩) H)
theorem OG:zu X (QH X.K):=by
 intro value slice pins s σ H x y v u Q I rx ry h hs;obtain⟨p,xs,i,z,rfl,rfl,hq,he,q⟩:=h;cases rx;obtain⟨t,rfl⟩:=ry;obtain⟨its,r,pl,hz⟩:=I.list hq;obtain⟨j,h1,h2,h3,h4,h5⟩:=Bc he;obtain⟨w,ew,rw'⟩:=r.get h2;have hl:=r.length;have hn:=uR;have fin:EP X pins σ Q w s:=⟨z,H,I,rw',q⟩
 by_cases h0:0<=i
 .have hj:i.toNat=j:=by rw[seqIndex_of h0 h5]at h1;exact fE h1
  exact item_listR pl.isList h0 (by omega) (by rw[hj];simpa using ew) fin hs
 .have hj:(i+(its.toArray.size:Int)).toNat=j:=by rw[seqIndex_neg (by omega) h4]at h1;rw[iE,<-hl];exact fE h1
  exact subscriptTail_builtinR (x:=w) pl.isList.typeIs slot_list_getitem.lookup
   (wpAny_getItem_list_neg (Q:=λr s'=>r=w/\EP X pins σ Q r s') pl.isList (by omega) (by rw[iE] <;> omega) (by omega) (by rw[hj];simpa using ew) ⟨Z,fin⟩) hs
theorem RY:zu X (QI X.K):=by
 intro value slice pins s σ H x y v u Q I rx ry h hs;obtain⟨p,xs,i,z,rfl,rfl,hq,he,q⟩:=h;cases rx;obtain⟨t,rfl⟩:=ry;obtain⟨its,r,pl,hz⟩:=I.tuple hq;obtain⟨j,h1,h2,h3,h4,h5⟩:=Bc he;obtain⟨w,ew,rw'⟩:=r.get h2;have hl:=r.length;have hn:=uR;have fin:EP X pins σ Q w s:=⟨z,H,I,rw',q⟩
 exact subscriptTail_builtinR (x:=w) pl.typeIs slot_tuple_getitem.lookup
  (getItem_tuple (j:=j) (Q:=λr s'=>r=w/\EP X pins σ Q r s') pl (by omega) (by omega) (by rw[iE,<-hl];exact h1) (by simpa using ew) ⟨Z,fin⟩) hs
theorem RZ:zu X ZS:=by
 intro value slice pins s σ H x y v u Q I rx ry h hs;obtain⟨z,i,c,rfl,rfl,hz,he,q⟩:=h;obtain⟨t,rfl⟩:=rx;obtain⟨t',rfl⟩:=ry;obtain⟨j,h1,h2,h3,h4,h5⟩:=Bc he;have hl:z.cps.toList.length=z.length:=by simp[Str.length]
 rw[hl]at h1 h4 h5;have hn:=uR;exact tail_any (typeIs_str s z t) slot_str_getitem.lookup (getItem_str (c:=c) (by have e1:decide (i < -(2 ^ 63:Int))=false:=dF (by omega);have e2:decide (i≥2 ^ 63)=false:=dF (by omega);rw[e1,e2,Bool.or_false]) (by rw[h1];simpa using h2) ⟨.str ⟨#[c]⟩,H,I.tok _,⟨_,Z⟩,q⟩) hs
def ZT(K:Fg):R2:=λx y H Q=>QH K x y H Q\/QI K x y H Q\/ZS x y H Q
theorem ZU:zu X (ZT X.K):=OG.or (RY.or RZ)
theorem QJ(its:List Value)(n j:Nat)(u:Value):Obj.mapSeq (·.setIfInBounds j u) { cls:=.type "list",data:=.seq its.toArray n }={ cls:=.type "list",data:=.seq (its.set j u).toArray n }:=by simp[Obj.mapSeq]
theorem Inv.lst{pins:AO}{σ:St}{H:Hp}{s:Shared}{p:Addr}{xs:List V}(I:Inv X pins σ H s)(h:H p=some (.lst xs)):∃(its:List Value)(n:Nat),Vals xs its/\s.heap.get? p=some { cls:=.type "list",data:=.seq its.toArray n }/\xs.length<=sizeLine:=by obtain⟨z,its,n,r,e⟩:=I.hok p _ h;exact⟨its,n,r,e,z⟩
theorem Inv.ZV{p:Addr}{n':Nat}{f:Obj->Obj}(I:Inv X pins σ H s)(h:H p=some (.lst xs))(ho:s.heap.get? p=some { cls:=.type "list",data:=.seq its.toArray n })(hf:f { cls:=.type "list",data:=.seq its.toArray n }={ cls:=.type "list",data:=.seq its'.toArray n' })(r:Vals ys its')(hz:ys.length<=sizeLine)(t:Nat):
  Inv X pins σ (upd H p (.lst ys)) { s with heap:=s.heap.update p f,toks:=t }:=by
 have e:(s.heap.update p f).get? p=some { cls:=.type "list",data:=.seq its'.toArray n' }:=by rw[BQ f ho (by rw[hf] <;> rfl),hf]
 refine I.write (x:=p) (e:=p) (by rw[h];trivial) (.inl rfl) (λb u hb q=>(JB _ _ (bX hb)).trans q) ⟨_,e⟩ ?_
 exact⟨hz,its',n',r,e⟩
inductive ac8(o:V)(i:V)(v:V)(H:Hp)(Q:Hp->Prop):Prop
 |mk(p xs k j:_)(_:o =.ref p)(_:i =.int k)(_:H p=some (.lst xs))(_:De xs.length k=some j)(_:Q (upd H p (.lst (xs.set j v))))
theorem set_list:Uz X ac8:=by
 intro pins s σ H o i v ov iv u Q I ro ri rv h;obtain⟨p,xs,k,j,rfl,rfl,hp,hj,q⟩:=h;cases ro;obtain⟨t,rfl⟩:=ri;obtain⟨its,n,r,ho,hz⟩:=I.lst hp;obtain⟨h1,h2,h3,h4⟩:=OF hj;have hl:=r.length;have hn:=uR;have I':Inv X pins σ (upd H p (.lst (xs.set j v))) { s with heap:=s.heap.update p (Obj.mapSeq (·.setIfInBounds j u)) }:=
  I.ZV hp ho (QJ its n j u) (r.set rv j) (by rw[iw];exact hz) s.toks
 by_cases h0:0<=k
 .have hk:k.toNat=j:=by rw[seqIndex_of h0 h4]at h1;exact fE h1
  exact PySem.W.ki_setAt ho h0 (by omega) (by rw[iE,<-hl];exact h4) (by rw[hk];exact⟨_,I',q⟩)
 .have hk:(k+(its.toArray.size:Int)).toNat=j:=by rw[seqIndex_neg (by omega) h3]at h1;rw[iE,<-hl];exact fE h1
  exact PySem.W.ki_setBack ho (by omega) (by rw[iE,<-hl];exact h3) (by omega) (by rw[hk];exact⟨_,I',q⟩)
theorem JZ(lo hi:Option Int)(n:Nat):(sliceBounds lo hi none n).1=((HT.sO n 0 lo:Nat):Int)/\(sliceBounds lo hi none n).2.1=((HT.sO n n hi:Nat):Int)/\(sliceBounds lo hi none n).2.2=1:=by
 refine⟨?_,?_,Z⟩
 .cases lo with
  | none=>simp[sliceBounds,HT.sO]
  | some i=>
   simp only[sliceBounds,HT.sO,Option.getD_none,show(1:Int)>0 by decide,m7];by_cases h:i<0
   .simp only[h,m7] <;> omega
   .simp only[h,m5] <;> omega
 .cases hi with
  | none=>simp[sliceBounds,HT.sO]
  | some i=>
   simp only[sliceBounds,HT.sO,Option.getD_none,show(1:Int)>0 by decide,m7];by_cases h:i<0
   .simp only[h,m7] <;> omega
   .simp only[h,m5] <;> omega
theorem HG(its:List Value)(lo hi:Option Int):slicePick its.toArray lo hi none=((its.drop (HT.sO its.length 0 lo)).take (HT.sO its.length its.length hi-HT.sO its.length 0 lo)).toArray:=by obtain⟨h1,h2,h3⟩:=JZ lo hi its.toArray.size;unfold slicePick;rw[h1,h2,h3];simp only[sliceRange_one,pick_run,iE] <;> rfl
inductive agM(K:Fg)(x:V)(lo:Option Int)(hi:Option Int)(H:Hp)(Q:VK):Prop
 |mk(a xs:_)(_:x =.ref a)(_:aJ K H a xs)(_:∀p,H p=none->Q (.ref p) (upd H p (.lst (z6 xs lo hi))))
theorem OH:SlR X (agM X.K):=by intro pins s σ H x v vl vu lo hi sl Q I rx hs pl pu h;obtain⟨a,xs,rfl,hx,q⟩:=h;cases rx;obtain⟨its,r,ht,hz⟩:=I.list hx;have hlen:=r.length;refine⟨"list",_,slot_list_getitem.lookup,ht.isList.typeIs,?_⟩;refine wpAny_getItem_list_slice ht.isList hs pl pu .none (by simp) ?_ (by rw[iE] <;> omega);rw[HG,<-hlen];refine⟨.ref s.heap.objs.size,_,I.laid (t':=s.toks) (o:=.lst (z6 xs lo hi)) (λb ob q=>b9 _ q) (aO _) ?_,Z,q _ (I.hok.fresh (aO _))⟩;exact⟨gh (MZ xs lo hi) hz,_,0,(r.drop (HT.sO xs.length 0 lo)).take (HT.sO xs.length xs.length hi-HT.sO xs.length 0 lo),eT _ rfl⟩
def rV:V->Bool
 | .cW=>true
 | .bl _=>true
 | .int _=>true
 | .str _=>true
 | _=>false
def zx:V->V->Bool
 | .cW,.cW=>true
 | .bl a,.bl b=>a==b
 | .bl a,.int b=>(if a then 1 else 0)==b
 | .int a,.bl b=>a==(if b then 1 else 0)
 | .int a,.int b=>a==b
 | .str a,.str b=>a==b
 | _,_=>false
theorem ZW{A:Around}{x:V}{v:Value}(ry:RelV y u)(rx:RelV x v)(fy:rV y=true)(fx:rV x=true):SeqAt.EqAt A s u v (zx y x):=by
 cases y with
 | cW=>
  cases ry;cases x with
  | cW=>cases rx;exact SeqAt.EqAt.same _
  | bl b=>cases rx;exact SeqAt.EqAt.none_bool b
  | int b=>obtain⟨t,rfl⟩:=rx;exact SeqAt.EqAt.none_int b t
  | str b=>obtain⟨t,rfl⟩:=rx;exact SeqAt.EqAt.none_str b t
  | _=>exact absurd (show false=true from fx) iD
 | bl a=>
  cases ry;cases x with
  | cW=>cases rx;exact SeqAt.EqAt.bool_none a
  | bl b=>cases rx;exact SeqAt.EqAt.bool_bool a b
  | int b=>obtain⟨t,rfl⟩:=rx;exact SeqAt.EqAt.bool_int a b t
  | str b=>obtain⟨t,rfl⟩:=rx;exact SeqAt.EqAt.bool_str a b t
  | _=>exact absurd (show false=true from fx) iD
 | int a=>
  obtain⟨t',rfl⟩:=ry;cases x with
  | cW=>cases rx;exact SeqAt.EqAt.int_none a t'
  | bl b=>cases rx;exact SeqAt.EqAt.int_bool a t' b
  | int b=>obtain⟨t,rfl⟩:=rx;exact SeqAt.EqAt.int_int a t' b t
  | str b=>obtain⟨t,rfl⟩:=rx;exact SeqAt.EqAt.int_str a t' b t
  | _=>exact absurd (show false=true from fx) iD
 | str a=>
  obtain⟨t',rfl⟩:=ry;cases x with
  | cW=>cases rx;exact SeqAt.EqAt.str_none a t'
  | bl b=>cases rx;exact SeqAt.EqAt.str_bool a t' b
  | int b=>obtain⟨t,rfl⟩:=rx;exact SeqAt.EqAt.str_int a t' b t
  | str b=>obtain⟨t,rfl⟩:=rx;exact SeqAt.EqAt.str_str a t' b t
  | _=>exact absurd (show false=true from fx) iD
 | _=>exact absurd (show false=true from fy) iD
def uT(x:V)(u:Value):Bool:=match u with
 | .none=>zx .cW x
 | .bool b=>zx (.bl b) x
 | .int i _=>zx (.int i) x
 | .str z _=>zx (.str z) x
 | _=>false
theorem R0{x:V}(r:RelV y u)(f:rV y=true):uT x u=zx y x:=by
 cases y with
 | cW=>cases r;rfl
 | bl b=>cases r;rfl
 | int i=>obtain⟨t,rfl⟩:=r;rfl
 | str z=>obtain⟨t,rfl⟩:=r;rfl
 | _=>exact absurd (show false=true from f) iD
theorem xU{x:V}:∀{xs:List V}{us:List Value},Vals xs us->xs.all rV=true->us.any (uT x)=xs.any λy=>zx y x
 | _,_,.nil,_=>rfl
 | y::xs,u::us,.cons r t,f=>by rw[List.all_cons,Bool.and_eq_true]at f;rw[CY,CY,R0 r f.1,xU t f.2]
theorem uU{A:Around}{s:Shared}{x:V}{v:Value}(rx:RelV x v)(fx:rV x=true):∀{xs:List V}{us:List Value},Vals xs us->xs.all rV=true->∀u∈us,SeqAt.EqAt A s u v (uT x u)
 | _,_,.nil,_=>λu hu=>by cases hu
 | y::xs,u::us,.cons r t,f=>λu' hu=>by
  rw[List.all_cons,Bool.and_eq_true]at f;rcases cK.mp hu with rfl|hu
  .rw [R0 r f.1];exact ZW r rx f.1 fx
  .exact uU rx fx t f.2 u' hu
def Gv(x:V)(xs:List V):Bool:=xs.any λy=>zx y x
inductive rIn(K:Fg)(neg:Bool)(x:V)(y:V)(H:Hp)(Q:VK):Prop
 |mk(p xs:_)(_:y =.ref p)(_:(aJ K H p xs\/dG K H p xs))(_:rV x=true)(_:xs.all rV=true)(_:Q (.bl (if neg then !Gv x xs else Gv x xs)) H)
theorem R1:jz X (compareOp .In) (rIn X.K false):=by
 intro pins s σ H x y v u Q I rx ry h;obtain⟨p,xs,rfl,hq,fx,fs,q⟩:=h;cases ry;rcases hq with hq|hq
 .obtain ⟨its,r,pl,hz⟩:=I.list hq;refine SeqAt.in_listAt (uT x) pl.isList (λw hw=>uU rx fx r fs w (by simpa using hw)) ⟨.bl _,H,I,Z,?_⟩;rw[show its.toArray.any (uT x)=its.any (uT x) by simp,xU r fs];exact q
 .obtain ⟨its,r,pl,hz⟩:=I.tuple hq;refine SeqAt.in_tupleAt (uT x) pl (λw hw=>uU rx fx r fs w (by simpa using hw)) ⟨.bl _,H,I,Z,?_⟩;rw[show its.toArray.any (uT x)=its.any (uT x) by simp,xU r fs];exact q
theorem J0:jz X (compareOp .NotIn) (rIn X.K true):=by
 intro pins s σ H x y v u Q I rx ry h;obtain⟨p,xs,rfl,hq,fx,fs,q⟩:=h;cases ry;rcases hq with hq|hq
 .obtain ⟨its,r,pl,hz⟩:=I.list hq;refine SeqAt.notIn_listAt (uT x) pl.isList (λw hw=>uU rx fx r fs w (by simpa using hw)) ⟨.bl _,H,I,Z,?_⟩;rw[show its.toArray.any (uT x)=its.any (uT x) by simp,xU r fs];exact q
 .obtain ⟨its,r,pl,hz⟩:=I.tuple hq;refine SeqAt.notIn_tupleAt (uT x) pl (λw hw=>uU rx fx r fs w (by simpa using hw)) ⟨.bl _,H,I,Z,?_⟩;rw[show its.toArray.any (uT x)=its.any (uT x) by simp,xU r fs];exact q
theorem J1:i_ X (.builtin "len") (λxs H Q=>∃p ys,xs=[.ref p]/\(aJ X.K H p ys\/dG X.K H p ys)/\Q (.int ys.length) H):=by
 intro pins s σ H xs us Q I r h;obtain⟨p,ys,rfl,hq,q⟩:=h;obtain⟨u,rfl,rx⟩:=vals1 r;cases rx;have hn:=uR;rcases hq with hq|hq
 .obtain ⟨its,r',pl,hz⟩:=I.list hq;have hlen:=r'.length;exact Calls.call_len_list pl.isList (by simp only[iE] <;> omega) ⟨.int ys.length,H,I.tok _,⟨s.toks+1,by rw[iE,hlen]⟩,q⟩
 .obtain ⟨its,r',pl,hz⟩:=I.tuple hq;have hlen:=r'.length;exact len_tuple pl (by simp only[iE] <;> omega) ⟨.int ys.length,H,I.tok _,⟨s.toks+1,by rw[iE,hlen]⟩,q⟩
theorem J3:i_ X (.builtin "len") (λxs H Q=>∃z,xs=[.str z]/\z.length<=sizeLine/\Q (.int z.length) H):=by intro pins s σ H xs us Q I r h;obtain⟨z,rfl,hz,q⟩:=h;obtain⟨u,rfl,t,rfl⟩:=vals1 r;have hn:=uR;exact len_str (by omega) ⟨.int z.length,H,I.tok _,⟨_,Z⟩,q⟩
theorem J4:i_ X (.type "list") (λxs H Q=>∃p ys,xs=[.ref p]/\(aJ X.K H p ys\/dG X.K H p ys)/\∀l,H l=none->Q (.ref l) (upd H l (.lst ys))):=by
 intro pins s σ H xs us Q I r h;obtain⟨p,ys,rfl,hq,q⟩:=h;obtain⟨u,rfl,rx⟩:=vals1 r;cases rx;have fin:∀(its:List Value),Vals ys its->ys.length<=sizeLine->∀(h':Heap)(c':Nat),(∀b o',s.heap.get? b=some o'->h'.get? b=some o')->
   h'.get? s.heap.objs.size=some { cls:=.type "list",dict:=none,data:=.seq its.toArray c',slots:=#[] }->EP X pins σ Q (.ref s.heap.objs.size) { s with heap:=h' }:=λits r' hz h' c' kp e=>
  ⟨.ref s.heap.objs.size,_,I.laid (t':=s.toks) kp (aO _) (show fP X.prog X.w _ h' _ (.lst ys)from⟨hz,its,c',r',e⟩),Z,q _ (I.hok.fresh (aO _))⟩
 rcases hq with hq|hq
 .obtain ⟨its,r',pl,hz⟩:=I.list hq;have hlen:=r'.length;obtain⟨o,ho,hc,n,hd⟩:=pl.isList;exact call_list_seq p (.inl rfl) ho hc hd (λh' c' kp e=>fin its r' hz h' c' kp e) (by simp only[iE] <;> omega)
 .obtain ⟨its,r',pl,hz⟩:=I.tuple hq;have hlen:=r'.length;obtain⟨o,ho,hc,n,hd⟩:=pl;exact call_list_seq p (.inr rfl) ho hc hd (λh' c' kp e=>fin its r' hz h' c' kp e) (by simp only[iE] <;> omega)
theorem HJ:i_ X (.type "tuple") (λxs H Q=>∃p ys,xs=[.ref p]/\((aJ X.K H p ys/\∀l,H l=none->Q (.ref l) (upd H l (.tup ys)))\/(dG X.K H p ys/\Q (.ref p) H))):=by
 intro pins s σ H xs us Q I r h;obtain⟨p,ys,rfl,h⟩:=h;obtain⟨u,rfl,rx⟩:=vals1 r;cases rx;rcases h with⟨hq,q⟩|⟨hq,q⟩
 .obtain ⟨its,r',pl,hz⟩:=I.list hq;have hlen:=r'.length;refine call_tuple_list pl.isList (λh' kp=>?_) (by simp only[iE] <;> omega);have I1:Inv X pins σ H { s with heap:=h' }:=I.kept (t':=s.toks) kp;have I2:Inv X pins σ (upd H h'.objs.size (.tup ys)) { s with heap:=h'.push { cls:=.type "tuple",data:=.seq its.toArray } }:=
   I1.laid (t':=s.toks) (λb o e=>b9 _ e) (aO _) (show fP X.prog X.w _ _ _ (.tup ys)from⟨hz,its,r',IsTup.new _ _⟩)
  exact⟨.ref h'.objs.size,_,I2,Z,q _ (I1.hok.fresh (aO _))⟩
 .obtain ⟨its,r',pl,hz⟩:=I.tuple hq;exact call_tuple_same pl ⟨.ref p,H,I,Z,q⟩
def tyV(K:Fg)(T:String)(x:V)(H:Hp):Prop:=match x with
 | .str _=>T = "str"
 | .int _=>T = "int"
 | .ref p=>(T = "list"/\∃xs,aJ K H p xs)\/(T = "tuple"/\∃o,K.lookup p=some o/\o.cls =.type "tuple"/\o.dict=none)\/
     (T = "dict"/\((∃kvs,H p=some (.dK kvs))\/∃kvs,H p=some (.dT kvs)))\/(T = "set"/\∃S n,H p=some (.set S n))
 | _=>False
theorem ZX{T:String}{x:V}{v:Value}(I:Inv X pins σ H s)(r:RelV x v)(ty:tyV X.K T x H):s.TypeIs v T/\∀a,v =.ref a->∃ob,s.heap.get? a=some ob/\ob.dict=none:=by
 cases x with
 | str z=>obtain⟨t,rfl⟩:=r;cases(show T = "str" from ty);exact⟨typeIs_str s z t,λ_ e=>nomatch e⟩
 | int i=>obtain⟨t,rfl⟩:=r;cases(show T = "int" from ty);exact⟨typeIs_int s i t,λ_ e=>nomatch e⟩
 | ref p=>
  cases r;rcases ty with⟨rfl,xs,hq⟩|⟨rfl,o,hk,hc,hd⟩|⟨rfl,hk⟩|⟨rfl,S,n,hk⟩
  .obtain ⟨its,_,pl,_⟩:=I.list hq;refine⟨pl.isList.typeIs,λa e=>?_⟩;cases e;obtain⟨o,n,e,c,hd,_⟩:=pl;exact⟨o,e,hd⟩
  .refine ⟨⟨o,I.uQ p o hk,hc⟩,λa e=>?_⟩;cases e;exact⟨o,I.uQ _ o hk,hd⟩
  .have z:∃o,s.heap.get? p=some o/\o.ExactDict:=by
    rcases hk with⟨kvs,hk⟩|⟨kvs,hk⟩
    .obtain ⟨_,_,_,_,o,_,_,e,ex,_⟩:=I.hok p _ hk;exact⟨o,e,ex⟩
    .obtain ⟨_,_,_,_,o,_,_,e,ex,_⟩:=I.hok p _ hk;exact⟨o,e,ex⟩
   obtain⟨o,e,ex⟩:=z;refine⟨⟨o,e,ex.1⟩,λa e2=>?_⟩;cases e2;exact⟨o,e,ex.2.1⟩
  .obtain ⟨o,_,_,_,e,ex,_⟩:=I.hok p _ hk;refine⟨⟨o,e,ex.1⟩,λa e2=>?_⟩;cases e2;exact⟨o,e,ex.2.1⟩
 | _=>exact False.elim ty
def ZY(r:V->List V->Hp->VK->Prop)(Q:VK)(x:V):List V->Hp->Prop:=λxs H2=>r x xs H2 Q
inductive agN(K:Fg)(T:String)(r:V->List V->Hp->VK->Prop)(t:TA)(σ:St)(Q:VK)(x:V)(H1:Hp):Prop
 |mk(_:tyV K T x H1)(_:t σ H1 (ZY r Q x))
def tBM(K:Fg)(T:String)(r:V->List V->Hp->VK->Prop)(to:TE)(t:TA):TE:=λσ H Q=>to σ H (agN K T r t σ Q)
variable {o e:Expr}{es:List Expr}{to:TE}{t:TA}{name:Str}{apos cpos:Pos}{T id:String}{r:V->List V->Hp->VK->Prop}
end
def MtM(X:Cx)(id:String)(r:V->List V->Hp->VK->Prop):Prop:=∀(pins:AO)(s:Shared)(σ:St)(H:Hp)(x:V)(xs:List V)(v:Value)(us:List Value)(Q:VK),Inv X pins σ H s->RelV x v->Vals xs us->r x xs H Q->wpAny (model X.prog X.w) X.A (call (.builtin id) (v::us)) (EP X pins σ Q) X.xe s
theorem Vals.one:∀{x:V}{us:List Value},Vals [x] us->∃u,us=[u]/\RelV x u
 | _,_,.cons r .nil=>⟨_,Z,r⟩
variable {us:List Value}
theorem Vals.reverse(h:Vals xs us):Vals xs.reverse us.reverse:=by
 induction h with
 | nil=>exact .nil
 | cons r t ih=>rw[EI,EI];exact Vals.append ih (.cons r .nil)
theorem Vals.rep{xs:List V}{us:List Value}(h:Vals xs us):∀k:Nat,Vals (List.replicate k xs).flatten (List.replicate k us).flatten
 | 0=> .nil
 | k+1=>by rw[BV,BV,JJ,JJ];exact Vals.append h (Vals.rep h k)
theorem foldl_rep(its:List Value):∀(k:Nat)(acc:List Value),List.foldl (λx1 x2=>x1++x2) acc.toArray (List.replicate k its.toArray)=(acc++(List.replicate k its).flatten).toArray
 | 0,acc=>by simp
 | k+1,acc=>by
  have e:acc.toArray++its.toArray=(acc++its).toArray:=by simp
  have e2:(acc++its)++(List.replicate k its).flatten=acc++(List.replicate (k+1) its).flatten:=by rw[BV,JJ,Qs]
  rw[<-e2,<-foldl_rep its k (acc++its),<-e,BV,j7]
variable {t':Nat}
section
variable {X:Cx}{pins:AO}{σ:St}{H:Hp}{s:Shared}{l b:Addr}{xs ys zs:List V}
theorem Inv.agO{f:Array Value->Array Value}(I:Inv X pins σ H s)(hH:H l=some (.lst xs))(e:s.heap.get? l=some { cls:=.type "list",data:=.seq its.toArray n })(hf:f its.toArray=its'.toArray)(hv:Vals ys its')(hz:ys.length<=sizeLine):
  Inv X pins σ (upd H l (.lst ys)) { s with heap:=s.heap.update l (Obj.mapSeq f),toks:=t' }:=by
 have q:=PySem.IsL.update e f
 rw[hf]at q
 refine I.write (x:=l) (e:=l) (by rw[hH];exact trivial) (.inl rfl) (λb' u hb hu=>(JB s.heap (Obj.mapSeq f) (bX hb)).trans hu) ⟨_,q⟩ ?_
 exact⟨hz,its',_,hv,q⟩
theorem Inv.ZZ(I:Inv X pins σ H s)(hv:Vals ys its)(hz:ys.length<=sizeLine):Inv X pins σ (upd H s.heap.objs.size (.lst ys)) { s with heap:=s.heap.push { cls:=.type "list",data:=.seq its.toArray },toks:=t' }:=I.laid (λ_ _ q=>b9 _ q) (aO _) ⟨hz,its,0,hv,eT _ rfl⟩
theorem Inv.fresh(I:Inv X pins σ H s):H s.heap.objs.size=none:=I.hok.fresh (aO _)
theorem Inv.QK(I:Inv X pins σ H s)(hH:H l=some (.lst xs)):xs.length<=sizeLine/\∃(its:List Value)(n:Nat),Vals xs its/\xs.length=its.length/\s.heap.get? l=some { cls:=.type "list",data:=.seq its.toArray n }:=by obtain⟨z,its,n,r,e⟩:=I.hok l _ hH;exact⟨z,its,n,r,r.length,e⟩
theorem UR(h:n<=sizeLine):Builtin.List.listTooLong n=false:=by unfold Builtin.List.listTooLong;exact dF (by omega)
end
section
variable {X:Cx}
inductive XT(x:V)(vs:List V)(H:Hp)(Q:VK):Prop
 |mk(l xs y:_)(_:x =.ref l)(_:vs=[y])(_:H l=some (.lst xs))(_:xs.length<sizeLine)(_:Q .cW (upd H l (.lst (xs++[y]))))
theorem eU:MtM X "list.append" XT:=by intro pins s σ H x vs v us Q I rx rv h;obtain⟨l,xs,y,rfl,rfl,hH,hz,q⟩:=h;cases rx;obtain⟨u,rfl,ru⟩:=rv.one;obtain⟨z,its,n,r,hl,e⟩:=I.QK hH;refine call_meets F.slot_list_append ⟨_,e,Z⟩ F.entry_list_append (F.args_list_append_2 _ _) (PySem.list_append l its.toArray n u (by rw[iE];omega)) ⟨e,?_⟩;refine⟨.cW,_,I.agO (its':=its++[u]) hH e (by simp) (r.append (.cons ru .nil)) ?_,Z,q⟩;rw[dD,List.length_singleton];omega
inductive agP(x:V)(y:V)(H:Hp)(Q:VK):Prop
 |mk(l b xs zs:_)(_:x =.ref l)(_:y =.ref b)(_:H l=some (.lst xs))(_:H b=some (.lst zs))(_:xs.length+zs.length<=sizeLine)(_:∀p,H p=none->Q (.ref p) (upd H p (.lst (xs++zs))))
theorem R5:jz X (binaryOp .Add) agP:=by
 intro pins s σ H x y v u Q I rx ry h;obtain⟨l,b,xs,zs,rfl,rfl,hH,hB,hz,q⟩:=h;cases rx;cases ry;obtain⟨z,its,n,r,hl,e⟩:=I.QK hH;obtain⟨z2,its2,n2,r2,hl2,e2⟩:=I.QK hB;refine PySem.P.add_list e e2 ?_ (by rw[iE,iE];omega);have ea:its.toArray++its2.toArray=(its++its2).toArray:=by simp
 rw[ea];exact⟨.ref _,_,I.ZZ (t':=s.toks) (r.append r2) (by rw[dD];omega),Z,q _ I.fresh⟩
inductive agQ(x:V)(y:V)(H:Hp)(Q:VK):Prop
 |mk(l k xs:_)(_:x =.ref l)(_:y =.int k)(_:H l=some (.lst xs))(_:-(2 ^ 63)<=k)(_:k<2 ^ 63)(_:xs.length*k.toNat<=sizeLine)(_:∀p,H p=none->Q (.ref p) (upd H p (.lst (List.replicate k.toNat xs).flatten)))
theorem len_rep{α:Type}(xs:List α)(k:Nat):(List.replicate k xs).flatten.length=k*xs.length:=by
 induction k with
 | zero=>simp
 | succ k ih=>rw[BV,JJ,dD,ih,Nat.succ_mul,Nat.add_comm]
theorem R6:jz X (binaryOp .Mult) agQ:=by
 intro pins s σ H x y v u Q I rx ry h;obtain⟨l,k,xs,rfl,rfl,hH,h1,h2,hz,q⟩:=h;cases rx;obtain⟨t,rfl⟩:=ry;obtain⟨z,its,n,r,hl,e⟩:=I.QK hH;have hlen:its.toArray.size*k.toNat<=sizeLine:=by rw[iE,<-hl];exact hz
 have hcap:¬ its.toArray.size*k.toNat>(2 ^ 63-1) / 8:=by
  have:(sizeLine:Nat)<=(2 ^ 63-1) / 8:=by decide
  omega
 have hfit:¬ (!Builtin.List.listFitsIndex k)=true:=by rw[fitsIndex_both h1 h2];exact iD
 have ac9:¬ Builtin.List.listTooLong (its.toArray.size*k.toNat)=true:=by rw[UR hlen];exact iD
 have hnew:List.foldl (λx1 x2=>x1++x2) #[] (List.replicate (if its.toArray.isEmpty=true then 0 else k.toNat) its.toArray)=(List.replicate k.toNat its).flatten.toArray:=by
  have f0:∀m:Nat,List.foldl (λx1 x2=>x1++x2) #[] (List.replicate m its.toArray)=(List.replicate m its).flatten.toArray:=λm=>by have:=foldl_rep its m [];rw[Ji]at this;exact this
  rw[f0];cases its with
  | nil=>simp
  | cons a r'=>rw[aB (by simp)]
 refine wpAny_binaryOp_repeat_ref (T:="list") (U:="int") (by decide) ⟨_,e,Z⟩ (λs'=>typeIs_int s' k t) noFill_list_mul F.fills_int_mul F.slot_int_rmul repeat_list F.slot_int_index.lookup
  (call_meets F.slot_int_rmul (typeIs_int s k t) F.entry_int_rmul (F.args_int_rmul_2 _ _) (int___rmul___int_list k t l its.toArray n)
    ⟨e,Z,⟨_,e,Z⟩,call_meets F.slot_list_mul ⟨_,e,Z⟩ F.entry_list_mul (F.args_list_mul_2 _ _) (AutoListH.list___mul___list_int_3 l its.toArray n k t hfit hcap ac9) ⟨e,?_⟩⟩)
 rw[hnew];exact⟨.ref _,_,I.ZZ (t':=s.toks) (r.rep k.toNat) (by rw[len_rep,Nat.mul_comm];exact hz),Z,q _ I.fresh⟩
end
section
variable {prog:Program}{w:World}{A:Around}{E:VS}{s:Shared}
set_option maxRecDepth 100000 in
end
section
variable {X:Cx}
end
section
variable {κ:Type}[DecidableEq κ]
def dZ(kvs:List (κ×V))(k:κ):Option V:=(kvs.find? λkv=>decide (kv.1=k)).map (·.2)
def putK(kvs:List (κ×V))(k:κ)(v:V):List (κ×V):=if(kvs.any λkv=>decide (kv.1=k))=true then kvs.map (λkv=>if kv.1=k then(kv.1,v) else kv) else kvs++[(k,v)]
def m8(kvs:List (κ×V))(k:κ):List (κ×V):=kvs.filter λkv=>decide (kv.1≠k)
theorem gI{p:κ×V}{r:List (κ×V)}{k:κ}(e:p.1=k):dZ (p::r) k=some p.2:=by simp[dZ,uz,e]
theorem fq{p:κ×V}{r:List (κ×V)}{k:κ}(e:¬ p.1=k):dZ (p::r) k=dZ r k:=by simp[dZ,uz,e]
theorem qO(k:κ):∀kvs:List (κ×V),(kvs.any λkv=>decide (kv.1=k))=(dZ kvs k).isSome
 | []=>rfl
 | p::r=>by
  rw[CY];by_cases e:p.1=k
  .simp only[gI e,br e,Bool.true_or,Ql]
  .rw [fq e,dF e,Bool.false_or];exact qO k r
theorem J5(k j:κ)(y:V):∀kvs:List (κ×V),dZ (kvs.map λkv=>if kv.1=k then(kv.1,y) else kv) j=(dZ kvs j).map λx=>if j=k then y else x
 | []=>rfl
 | p::r=>by
  have ih:=J5 k j y r;rw[bz];by_cases h:p.1=k
  .rw [aC h];by_cases e:p.1=j
   .rw [gI (p:=(p.1,y)) e,gI e,Jj,aC (e.symm.trans h)]
   .rw [fq (p:=(p.1,y)) e,fq e,ih]
  .rw [aB h];by_cases e:p.1=j
   .rw [gI (p:=p) e,gI e,Jj,aB (λz=>h (e.trans z))]
   .rw [fq (p:=p) e,fq e,ih]
theorem Gw(k j:κ)(y:V):∀kvs:List (κ×V),dZ kvs k=none->dZ (kvs++[(k,y)]) j=if j=k then some y else dZ kvs j
 | [],_=>by
  by_cases e:k=j
  .rw [aC e.symm];exact gI (p:=(k,y)) e
  .rw [aB (λz=>e z.symm)];exact fq (p:=(k,y)) e
 | p::r,hn=>by
  rw[Jf];have hk:¬ p.1=k:=λz=>by rw[gI z]at hn;cases hn
  rw[fq hk]at hn;have ih:=Gw k j y r hn;by_cases e:p.1=j
  .rw [gI e,gI e,aB (λz=>hk (e.trans z))]
  .rw [fq e,fq e,ih]
theorem US(kvs:List (κ×V))(k j:κ)(y:V):dZ (putK kvs k y) j=if j=k then some y else dZ kvs j:=by
 unfold putK;by_cases a:(kvs.any λkv=>decide (kv.1=k))=true
 .rw [aC a,J5];rw[qO]at a;by_cases e:j=k
  .obtain ⟨x,hx⟩:=Option.isSome_iff_exists.mp a;rw[aC e,e,hx,Jj,aC rfl]
  .rw [aB e];cases dZ kvs j with
   | none=>rfl
   | some x=>rw[Jj,aB e]
 .rw [aB a];refine Gw k j y kvs ?_;rw[qO]at a;cases q:dZ kvs k with
  | none=>rfl
  | some x=>rw[q]at a;exact(a rfl).elim
theorem nP(kvs:List (κ×V))(k:κ)(v:V):(putK kvs k v).length<=kvs.length+1:=by
 unfold putK;split
 .rw [aH];omega
 .rw [dD,kM,List.length_nil];omega
theorem mE{kvs:List (κ×V)}{k:κ}(v:V)(h:dZ kvs k=none):putK kvs k v=kvs++[(k,v)] :=by unfold putK;rw[qO,h];exact aB (by decide)
theorem nJ.pB{o:Option V}{u:Option Value}(r:nJ o u):o.isSome=u.isSome:=by
 cases o with
 | none=>cases u with
   | none=>rfl
   | some _=>exact(show False from r).elim
 | some _=>cases u with
   | none=>exact(show False from r).elim
   | some _=>rfl
theorem KV.val{kvs:List (κ×V)}{vs:List (κ×Value)}(r:KV kvs vs)(k:κ):nJ (dZ kvs k) (valueAt vs k):=by
 unfold KV at r
 induction r with
 | nil=>exact True.intro
 | @cons p q ps qs h t ih=>
  obtain⟨h1,h2⟩:=h;by_cases e:p.1=k
  .have e':q.1=k:=h1.symm.trans e;have b:valueAt (q::qs) k=some q.2:=by simp[valueAt,uz,e']
   rw[gI e,b];exact h2
  .have e':¬ q.1=k:=λz=>e (h1.trans z);have b:valueAt (q::qs) k=valueAt qs k:=by simp[valueAt,uz,e']
   rw[fq e,b];exact ih
theorem KV.any{kvs:List (κ×V)}{vs:List (κ×Value)}(r:KV kvs vs)(k:κ):(kvs.any λkv=>decide (kv.1=k))=vs.any λkv=>decide (kv.1=k):=by
 unfold KV at r
 induction r with
 | nil=>rfl
 | cons h t ih=>rw[CY,CY,ih,h.1]
theorem KV.repl{kvs:List (κ×V)}{vs:List (κ×Value)}(r:KV kvs vs)(k:κ)(ry:RelV y u):KV (kvs.map λkv=>if kv.1=k then(kv.1,y) else kv) (vs.map λkv=>if kv.1=k then(kv.1,u) else kv):=by
 unfold KV at r ⊢
 induction r with
 | nil=>exact .nil
 | @cons p q ps qs h t ih=>
  rw[bz,bz];refine .cons ?_ ih;obtain⟨h1,h2⟩:=h;by_cases e:p.1=k
  .rw [aC e,aC (h1.symm.trans e)];exact⟨h1,ry⟩
  .rw [aB e,aB (λz=>e (h1.trans z))];exact⟨h1,h2⟩
theorem KV.put{kvs:List (κ×V)}{vs:List (κ×Value)}(r:KV kvs vs)(k:κ)(ry:RelV y u):KV (putK kvs k y) (stored vs k u):=by
 unfold putK stored;rw[r.any k];by_cases e:(vs.any λkv=>decide (kv.1=k))=true
 .rw [aC e,aC e];exact r.repl k ry
 .rw [aB e,aB e];exact Paired.snoc r ⟨Z,ry⟩
theorem KV.drop{kvs:List (κ×V)}{vs:List (κ×Value)}(r:KV kvs vs)(k:κ):KV (m8 kvs k) (without vs k):=by
 unfold KV at r ⊢;unfold m8 without
 induction r with
 | nil=>exact .nil
 | @cons p q ps qs h t ih=>
  obtain⟨h1,h2⟩:=h;rw[e_,e_];by_cases e:p.1=k
  .have a:¬ decide (p.1≠k)=true:=by simp[e]
   have b:¬ decide (q.1≠k)=true:=by simp[h1.symm.trans e]
   rw[aB a,aB b];exact ih
  .have e':¬ q.1=k:=λz=>e (h1.trans z);have a:decide (p.1≠k)=true:=by simp[e]
   have b:decide (q.1≠k)=true:=by simp[e']
   rw[aC a,aC b];exact .cons ⟨h1,h2⟩ ih
theorem KV.length{kvs:List (κ×V)}{vs:List (κ×Value)}(r:KV kvs vs):kvs.length=vs.length:=Paired.length r
theorem UT(kvs:List (κ×V))(k:κ):(m8 kvs k).length<=kvs.length:=List.length_filter_le _ _
end
variable {P:Program}
theorem wG{w:World}{k:Key}(r:RelV (kV k) u):(di P w).is k u=true:=by
 cases k with
 | inl i=>obtain⟨t,e⟩:=(show ∃t,u=Value.int i t from r);subst e;exact MX P w i t
 | inr x=>obtain⟨t,e⟩:=(show ∃t,u=Value.str x t from r);subst e;exact MY P w x t
theorem Gx{P:Program}{w:World}:∀{ks:List Key}{us:List Value},Vals (ks.map kV) us->ItemsAre (di P w) ks us
 | [],_,r=>by rw[List.map_nil]at r;cases r;exact .nil
 | k::ks,_,r=>by
  rw[bz]at r;cases r with
  | cons h t=>exact .cons (wG h) (Gx t)
abbrev KT(H:Hp):List (List Key×V)->List (List Key×Addr×Value)->Prop:=Paired λp q=>p.1=q.1/\H q.2.1=some (.tup (p.1.map kV))/\RelV p.2 q.2.2
theorem KT.val{kvs:List (List Key×V)}{xs:List (List Key×Addr×Value)}(r:KT H kvs xs)(k:List Key):nJ (dZ kvs k) ((atKey xs k).map (·.2)):=by
 induction r with
 | nil=>exact True.intro
 | @cons p q ps qs h t ih=>
  obtain⟨h1,_,h2⟩:=h;by_cases e:p.1=k
  .have e':q.1=k:=h1.symm.trans e;have b:atKey (q::qs) k=some q.2:=by simp[atKey,uz,e']
   rw[gI e,b];exact h2
  .have e':¬ q.1=k:=λz=>e (h1.trans z);have b:atKey (q::qs) k=atKey qs k:=by simp[atKey,uz,e']
   rw[fq e,b];exact ih
theorem KT.repl{kvs:List (List Key×V)}{xs:List (List Key×Addr×Value)}(r:KT H kvs xs)(k:List Key)(ry:RelV y u):KT H (kvs.map λkv=>if kv.1=k then(kv.1,y) else kv) (xs.map (putAt k u)):=by
 induction r with
 | nil=>exact .nil
 | @cons p q ps qs h t ih=>
  rw[bz,bz];refine .cons ?_ ih;obtain⟨h1,h2,h3⟩:=h;unfold putAt;by_cases e:p.1=k
  .rw [aC e,aC (h1.symm.trans e)];exact⟨h1,h2,ry⟩
  .rw [aB e,aB (λz=>e (h1.trans z))];exact⟨h1,h2,h3⟩
variable {b:Addr}
theorem KT.put{kvs:List (List Key×V)}{xs:List (List Key×Addr×Value)}(r:KT H kvs xs)(k:List Key)(hb:H b=some (.tup (k.map kV)))(ry:RelV y u):KT H (putK kvs k y) (storedH xs k b u):=by
 have e:(kvs.any λkv=>decide (kv.1=k))=(atKey xs k).isSome:=by rw[qO,(r.val k).pB,Option.isSome_map]
 unfold putK storedH;rw[e];by_cases q:(atKey xs k).isSome=true
 .rw [aC q,aC q];exact r.repl k ry
 .rw [aB q,aB q];exact Paired.snoc r ⟨Z,hb,ry⟩
variable {H':Hp}
theorem KT.keeps{kvs:List (List Key×V)}{xs:List (List Key×Addr×Value)}(r:KT H kvs xs)(ht:∀b ys,H b=some (.tup ys)->H' b=some (.tup ys)):KT H' kvs xs:=Paired.Uw r λ_ _ z=>⟨z.1,ht _ _ z.2.1,z.2.2⟩
variable {kvs:List (Key×V)}
section
variable {P:Program}{w:World}{H:Hp}{h:Heap}{a:Addr}
theorem Wy{u:HO}(ok:jj P w H h)(e:Rd H a u):fP P w H h a u:=e.ok ok
theorem rW(ok:jj P w H h)(e:Rd H a (.dK kvs)):kvs.length<=sizeLine/\(a==sysModules)=false/\∃vs,KV kvs vs/\h.DictOf (di P w) a vs:=
 show fP P w H h a (.dK kvs)from Wy ok e
theorem yz(ok:jj P w H h)(e:H a=some (.dK kvs)):kvs.length<=sizeLine/\(a==sysModules)=false/\∃vs,KV kvs vs/\h.DictOf (di P w) a vs:=rW ok (.inl e)
theorem z7{ks:List Key}(ok:jj P w H h)(e:H a=some (.tup (ks.map kV))):(tupleKind (di P w)).is h ks a:=by
 obtain⟨_,its,r,o,h1,h2,n,h3⟩:=(show fP P w H h a (.tup (ks.map kV))from ok a _ e)
 exact⟨o,its.toArray,n,h1,h2,h3,by simpa using Gx r⟩
theorem Bd{kvs:List (List Key×V)}(ok:jj P w H h)(e:Rd H a (.dT kvs)):kvs.length<=sizeLine/\(a==sysModules)=false/\∃xs,KT H kvs xs/\h.DictOfH (tupleKind (di P w)) a xs:=by
 obtain⟨z,y,xs,r,o,es,ep,h1,h2,h3,h4,h5⟩:=(show fP P w H h a (.dT kvs)from Wy ok e)
 refine⟨z,y,xs,r,o,es,ep,h1,h2,h3,h4,λx hx=>?_,h5⟩;have all:∀{l:List (List Key×V)}{m:List (List Key×Addr×Value)},KT H l m->∀x∈m,(tupleKind (di P w)).is h x.1 x.2.1:=by
  intro l m q
  induction q with
  | nil=>intro x hx;exact nomatch hx
  | @cons p q ps qs hq t ih=>
   intro x hx;rcases cK.mp hx with e|hx
   .subst e;exact z7 ok (by rw[<-hq.1];exact hq.2.1)
   .exact ih x hx
 exact all r x hx
theorem ac_{kvs:List (List Key×V)}(ok:jj P w H h)(e:H a=some (.dT kvs)):kvs.length<=sizeLine/\(a==sysModules)=false/\∃xs,KT H kvs xs/\h.DictOfH (tupleKind (di P w)) a xs:=Bd ok (.inl e)
end
def eY(H:Hp)(a:Addr)(y:V)(r:Option V):Prop:=(∃kvs k,Rd H a (.dK kvs)/\y=kV k/\r=dZ kvs k)\/∃kvs k b,Rd H a (.dT kvs)/\y =.ref b/\H b=some (.tup (k.map kV))/\r=dZ kvs k
def xx(H:Hp)(a:Addr)(y v:V)(H':Hp):Prop:=(∃kvs k,H a=some (.dK kvs)/\y=kV k/\kvs.length<sizeLine/\H'=upd H a (.dK (putK kvs k v)))\/
 ∃kvs k b,H a=some (.dT kvs)/\y =.ref b/\H b=some (.tup (k.map kV))/\kvs.length<sizeLine/\H'=upd H a (.dT (putK kvs k v))
variable {a:Addr}
theorem eY.k{k:Key}(e:H a=some (.dK kvs)):eY H a (kV k) (dZ kvs k):=.inl ⟨kvs,k,.inl e,Z,Z⟩
theorem xx.k{k:Key}{v:V}(e:H a=some (.dK kvs))(hl:kvs.length<sizeLine):xx H a (kV k) v (upd H a (.dK (putK kvs k v))):=.inl ⟨kvs,k,e,Z,hl,Z⟩
variable {Q:Unit->Shared->Prop}
section
variable {X:Cx}{pins:AO}{σ:St}{H:Hp}{s:Shared}{a:Addr}{y v:V}{u r:Value}{o:Option V}{A:Around}{E:VS}
theorem Inv.big(I:Inv X pins σ H s):sysModules<s.heap.objs.size:=by have h:mainGlobals<s.heap.objs.size:=(I.mod.glob.keeps I.bk).lt;exact Nat.lt_trans (by decide) h
theorem R7{Q:VS}(hu:A.units+1<cLine)(I:Inv X pins σ H s)(g:eY H a y (some v))(ry:RelV y u)(h:∀w' s',Inv X pins σ H s'->RelV v w'->Q w' s'):wpAny (model X.prog X.w) A (getItem (.ref a) u) Q E s:=by
 rcases g with⟨kvs,k,e,ey,l⟩|⟨kvs,k,b,e,ey,eb,l⟩
 .subst ey;obtain⟨z,hd,vs,rel,dd⟩:=rW I.hok e;obtain⟨w',hw,rw'⟩:=nJ.some_of (v:=v) (o:=valueAt vs k) (by rw[l];exact rel.val k);exact wpAny_getItem_of (wG ry) dd.mapOf hw (h w' _ (I.tok _) rw')
 .subst ey;cases(show u=Value.ref b from ry);obtain⟨z,hd,xs,rel,dd⟩:=Bd I.hok e;obtain⟨w',hw,rw'⟩:=nJ.some_of (v:=v) (o:=(atKey xs k).map (·.2)) (by rw[l];exact rel.val k);obtain⟨p,hp,hp2⟩:=nH.mp hw;refine wpAny_getItem_heap (Qm hu) (z7 I.hok eb) dd hp ?_;rw[hp2];exact h w' _ (I.tok _) rw'
theorem agR{Q:VS}(hu:A.units+1<cLine)(I:Inv X pins σ H s)(g:eY H a y o)(ry:RelV y u)(h:∀s',Inv X pins σ H s'->Q (.bool o.isSome) s'):wpAny (model X.prog X.w) A (compareOp .In u (.ref a)) Q E s:=by
 rcases g with⟨kvs,k,e,ey,l⟩|⟨kvs,k,b,e,ey,eb,l⟩
 .subst ey;obtain⟨z,hd,vs,rel,dd⟩:=rW I.hok e;refine wpAny_in_of (wG ry) hd dd.mapOf ?_;rw[<-(rel.val k).pB,<-l];exact h _ (I.tok _)
 .subst ey;cases(show u=Value.ref b from ry);obtain⟨z,hd,xs,rel,dd⟩:=Bd I.hok e;refine wpAny_in_heap (Qm hu) (z7 I.hok eb) hd dd ?_;have q:=(rel.val k).pB;rw[Option.isSome_map]at q;rw[<-q,<-l];exact h _ (I.tok _)
theorem XU{Q:VS}(hu:A.units+1<cLine)(I:Inv X pins σ H s)(g:eY H a y o)(ry:RelV y u)(h:∀s',Inv X pins σ H s'->Q (.bool (!o.isSome)) s'):wpAny (model X.prog X.w) A (compareOp .NotIn u (.ref a)) Q E s:=by
 rcases g with⟨kvs,k,e,ey,l⟩|⟨kvs,k,b,e,ey,eb,l⟩
 .subst ey;obtain⟨z,hd,vs,rel,dd⟩:=rW I.hok e;refine wpAny_notIn_of (wG ry) hd dd.mapOf ?_;rw[<-(rel.val k).pB,<-l];exact h _ (I.tok _)
 .subst ey;cases(show u=Value.ref b from ry);obtain⟨z,hd,xs,rel,dd⟩:=Bd I.hok e;refine wpAny_notIn_heap (Qm hu) (z7 I.hok eb) hd dd ?_;have q:=(rel.val k).pB;rw[Option.isSome_map]at q;rw[<-q,<-l];exact h _ (I.tok _)
theorem xV(I:Inv X pins σ H s)(mu:RE (H a))(hs:Heap.SameBut a s.heap h')(he:∃q,h'.get? a=some q)(new:fP X.prog X.w (upd H a ob) h' a ob):Inv X pins σ (upd H a ob) { s with heap:=h',toks:=t' }:=I.write (x:=a) (e:=a) mu (.inl rfl) (λb q hb z=>(hs.2 b hb).trans z) he new
theorem z8{w:World}{h':Heap}{vs:List (Key×Value)}(z:kvs.length<=sizeLine)(hd:(a==sysModules)=false)(rel:KV kvs vs)(dd:h'.DictOf (di P w) a vs):fP P w H' h' a (.dK kvs):=⟨z,hd,vs,rel,dd⟩
theorem R8(hu:A.units+1<cLine)(I:Inv X pins σ H s)(g:xx H a y v H')(ry:RelV y u)(rv:RelV v r)(h:∀s',Inv X pins σ H' s'->Q () s'):wpAny (model X.prog X.w) A (setItem (.ref a) u r) Q E s:=by
 rcases g with⟨kvs,k,e,ey,l,eH⟩|⟨kvs,k,b,e,ey,eb,l,eH⟩
 .subst ey eH;obtain⟨z,hd,vs,rel,dd⟩:=yz I.hok e;have hz:vs.length<=sizeLine:=by rw[<-rel.length];exact z
  have hl:(putK kvs k v).length<=sizeLine:=by have:=nP kvs k v;omega
  refine wpAny_setItem_pairs (hsz:=hz) (wG ry) dd λh' uV hs=>h _ ?_;have he:∃q,h'.get? a=some q:=let⟨q,_,_,hq,_⟩:=uV;⟨q,hq⟩;exact xV I (by rw[e];exact True.intro) hs he (z8 hl hd (rel.put k rv) uV)
 .subst ey eH;cases(show u=Value.ref b from ry);obtain⟨z,hd,xs,rel,dd⟩:=ac_ I.hok e;have hz:xs.length<=sizeLine:=by rw[<-Paired.length rel];exact z
  have hl:(putK kvs k v).length<=sizeLine:=by have:=nP kvs k v;omega
  refine wpAny_setItem_heap (hsz:=hz) (Qm hu) (z7 I.hok eb) dd λh' uV hs=>h _ ?_;obtain⟨q,es,ep,hq,h2,h3,h4,_,h5⟩:=uV;refine xV I (by rw[e];exact True.intro) hs ⟨q,hq⟩ ⟨hl,hd,_,(rel.put k eb rv).keeps λc ys ec=>?_,q,es,ep,hq,h2,h3,h4,h5⟩;rw[ay (i8 ec e (λz=>nomatch z))];exact ec
end
section
variable {X:Cx}{pins:AO}{σ:St}{H:Hp}{s:Shared}{a:Addr}{kvs:List (Key×V)}{k:Key}{u:Value}{A:Around}{E:VS}
theorem R9(I:Inv X pins σ H s)(e:H a=some (.dK kvs))(ry:RelV (kV k) u)(l:(dZ kvs k).isSome=true)(h:∀s',Inv X pins σ (upd H a (.dK (m8 kvs k))) s'->Q () s'):wpAny (model X.prog X.w) A (delItem (.ref a) u) Q E s:=by
 obtain⟨z,hd,vs,rel,dd⟩:=yz I.hok e;refine wpAny_delItem_slot dd.typeIs (by decide) PySem.F.slot_dict_delitem
  (call_meetsIn PySem.F.slot_dict_delitem dd.typeIs PySem.F.entry_dict_delitem (PySem.F.args_dict_delitem_2 _ _) (meets_dict_delitem_pairs (di X.prog X.w) a (wG ry)) ⟨vs,dd,by rw[<-rel.length];exact z,by rw[<-(rel.val k).pB];exact l,λh' uV hs=>h _ ?_⟩)
 have he:∃q,h'.get? a=some q:=let⟨q,_,_,hq,_⟩:=uV;⟨q,hq⟩;exact xV I (by rw[e];exact True.intro) hs he (z8 (gh (UT kvs k) z) hd (rel.drop k) uV)
theorem ada{Q:VS}(I:Inv X pins σ H s)(e:Rd H a (.dK kvs))(h:∀t s',Inv X pins σ H s'->Q (.int kvs.length t) s'):wpAny (model X.prog X.w) A (call (.builtin "len") [.ref a]) Q E s:=by obtain⟨z,hd,vs,rel,dd⟩:=rW I.hok e;refine call_len_dict hd dd (by rw[<-rel.length];rw[kP]at z;omega) ?_;rw[<-rel.length];exact h _ _ (I.tok _)
end
def Z0(i:Expr):Prop:=∀ov iv,subscripted i false ov iv=operate [ov,iv] (getItem ov iv)
variable {E:VS}{env:Env}{value:Expr}{pos:Pos}
theorem XW{prog:Program}{w:World}{A:Around}{slice:Expr}{T id:String}{Q:VS}(hl:typeLookup (.type T) "__getitem__"=pure (some (.builtin id)))(hs:Z0 slice)(h:wpAny (model prog w) A (eval value env) (λo s₁=>wpAny (model prog w) A (eval slice env) (λi s₂=>s₂.TypeIs o T/\wpAny (model prog w) A (getItem o i) Q E s₂) E s₁) E s):
  wpAny (model prog w) A (eval (.Subscript value slice pos) env) Q E s:=by
 refine Subscript_ (gH h (λo s₁ h₁=>gH h₁ (λi s₂ h₂=>?_) λ_ _ x=>x) λ_ _ x=>x)
 obtain⟨hT,h₂⟩:=h₂
 unfold subscriptTail
 refine az ?_
 rw[getitemInPython_of_ne hT.not_modules]
 refine az (wpAny_specialOf hT hl ?_)
 have fin:wpAny (model prog w) A (subscripted slice false o i) (λr s₃=>wpAny (model prog w) A (letTemporaryGo value o r >>= λ_=>pure r) Q E s₃) E s₂:=by rw[hs o i];exact wpAny_operating (gH h₂ (λr s₃ h₃=>az (wpAny_letTemporaryGo (aT h₃))) λ_ _ x=>x)
 first
  | exact aT (az fin)
  | exact az (aT (az fin))
  | exact az fin
variable {X:Cx}
theorem M_{o:Option V}(I:Inv X pins σ H s)(g:eY H a y o):s.TypeIs (.ref a) "dict":=by
 rcases g with⟨kvs,k,e,_,_⟩|⟨kvs,k,b,e,_,_,_⟩
 .obtain ⟨_,_,vs,_,dd⟩:=rW I.hok e;exact dd.typeIs
 .obtain ⟨_,_,xs,_,dd⟩:=Bd I.hok e;exact dd.typeIs
inductive UU(Q:VK)(x:V)(y:V)(H2:Hp):Prop
 |mk(a v:_)(_:x =.ref a)(_:eY H2 a y (some v))(_:Q v H2)
def Z1(ty:TE)(σ:St)(Q:VK):V->Hp->Prop:=λx H1=>ty σ H1 (UU Q x)
def Wz(td ty:TE):TE:=λσ H Q=>td σ H (Z1 ty σ Q)
inductive XX(Q:VK)(y:V)(x:V)(H2:Hp):Prop
 |mk(a o:_)(_:x =.ref a)(_:eY H2 a y o)(_:Q (.bl o.isSome) H2)
def adb(td:TE)(σ:St)(Q:VK):V->Hp->Prop:=λy H1=>td σ H1 (XX Q y)
def agS(ty td:TE):TE:=λσ H Q=>ty σ H (adb td σ Q)
inductive QL(Q:VK)(y:V)(x:V)(H2:Hp):Prop
 |mk(a o:_)(_:x =.ref a)(_:eY H2 a y o)(_:Q (.bl (!o.isSome)) H2)
def UW(td:TE)(σ:St)(Q:VK):V->Hp->Prop:=λy H1=>td σ H1 (QL Q y)
def XY(ty td:TE):TE:=λσ H Q=>ty σ H (UW td σ Q)
inductive UX(D:Ends)(σ:St)(v:V)(x:V)(y:V)(H3:Hp):Prop
 |mk(a H4:_)(_:x =.ref a)(_:xx H3 a y v H4)(_:D.nx σ H4)
def UY(ty:TE)(D:Ends)(σ:St)(v:V):V->Hp->Prop:=λx H2=>ty σ H2 (UX D σ v x)
def Z2(td:TE)(ty:TE)(D:Ends)(σ:St):V->Hp->Prop:=λv H1=>td σ H1 (UY ty D σ v)
def ade(td ty tv:TE):TS:=λD σ H=>tv σ H (Z2 td ty D σ)
inductive UZ(D:Ends)(σ:St)(x:V)(y:V)(H2:Hp):Prop
 |mk(a kvs k:_)(_:x =.ref a)(_:H2 a=some (.dK kvs))(_:y=kV k)(_:(dZ kvs k).isSome=true)(_:D.nx σ (upd H2 a (.dK (m8 kvs k))))
def Z3(ty:TE)(D:Ends)(σ:St):V->Hp->Prop:=λx H1=>ty σ H1 (UZ D σ x)
def adf(td ty:TE):TS:=λD σ H=>td σ H (Z3 ty D σ)
section
variable {X:Cx}{o i e value:Expr}{pos pos' tpos:Pos}{td ty tv:TE}
end
theorem B8{w:World}(h:Heap)(hb:sysModules<h.objs.size):fP P w H (h.push { cls:=.type "dict",data:=.dict #[] }) h.objs.size (.dK []):=⟨fM _,BS.mpr (bX (d8 hb)),[],.nil,Heap.DictOf.new h⟩
def Z4:TE:=λ_ H Q=>∀p,H p=none->Q (.ref p) (upd H p (.dK []))
section
variable {X:Cx}{pos:Pos}
end
def Df:List (TE×TE)->St->Hp->(List (V×V)->Hp->Prop)->Prop
 | [],_,H,Q=>Q [] H
 | (tk,tv)::r,σ,H,Q=>tk σ H λx H1=>tv σ H1 λy H2=>Df r σ H2 λps H3=>Q ((x,y)::ps) H3
abbrev VV:List (V×V)->List (Value×Value)->Prop:=Paired λp q=>RelV p.1 q.1/\RelV p.2 q.2
def PPs(X:Cx)(pos:Pos)(keys:List (Option Expr))(values:List Expr)(Dg:List (TE×TE)):Prop:=∀(pins:AO)(s:Shared)(σ:St)(H:Hp)(Q:List (V×V)->Hp->Prop),Inv X pins σ H s->Df Dg σ H Q->wpAny (model X.prog X.w) X.A (evalPairs (pairTrees keys values X.env pos)) (λvs s'=>∃ps H',Inv X pins σ H' s'/\VV ps vs/\Q ps H') X.xe s
def xW(kvs more:List (Key×V)):List (Key×V):=more.foldl (λacc kv=>putK acc kv.1 kv.2) kvs
theorem KV.merge:∀{more:List (Key×V)}{rs:List (Key×Value)}{kvs:List (Key×V)}{vs:List (Key×Value)},KV more rs->KV kvs vs->KV (xW kvs more) (merged vs rs):=by
 intro more rs kvs vs r;unfold KV at r
 induction r generalizing kvs vs with
 | nil=>intro q;exact q
 | @cons p q ps qs h t ih=>
  intro r0;have e:KV (putK kvs p.1 p.2) (stored vs q.1 q.2):=by have:=r0.put p.1 h.2;rw[<-h.1];exact this
  exact ih e
theorem zy:∀(more kvs:List (Key×V)),(xW kvs more).length<=kvs.length+more.length
 | [],kvs=>by show kvs.length<=kvs.length+0;omega
 | p::r,kvs=>by have h1:=zy r (putK kvs p.1 p.2);have h2:=nP kvs p.1 p.2;show(xW (putK kvs p.1 p.2) r).length<=_;rw[kM];omega
theorem Dh{P:Program}{w:World}:∀{kvs:List (Key×V)}{ws:List (Value×Value)},VV (kvs.map λkv=>(kV kv.1,kv.2)) ws->∃rs,Carries (di P w) ws rs/\KV kvs rs
 | [],_,r=>by rw[List.map_nil]at r;cases r;exact⟨[],True.intro,.nil⟩
 | p::kvs,_,r=>by
  rw[bz]at r;cases r with
  | @cons a b as bs h t=>obtain⟨rs,c,q⟩:=Dh (P:=P) (w:=w) t;obtain⟨b1,b2⟩:=b;exact⟨(p.1,b2)::rs,⟨wG h.1,Z,c⟩,.cons ⟨Z,h.2⟩ q⟩
def adg(Dg:List (TE×TE)):TE:=λσ H Q=>∀p,H p=none->Df Dg σ (upd H p (.dK [])) λps H2=>H2 p=some (.dK [])/\∃kvs:List (Key×V),ps=kvs.map (λkv=>(kV kv.1,kv.2))/\kvs.length<=15/\Q (.ref p) (upd H2 p (.dK (xW [] kvs)))
def IsD(H:Hp)(a:Addr):Prop:=(∃kvs,Rd H a (.dK kvs))\/∃kvs,Rd H a (.dT kvs)
theorem J6(I:Inv X pins σ H s)(d:IsD H a):s.TypeIs (.ref a) "dict"/\(∀b,Value.ref a =.ref b->∃ob,s.heap.get? b=some ob/\ob.dict=none)/\(a==sysModules)=false:=by
 rcases d with⟨kvs,e⟩|⟨kvs,e⟩
 .obtain ⟨_,hd,vs,_,dd⟩:=rW I.hok e;refine⟨dd.typeIs,λb q=>?_,hd⟩;cases q;obtain⟨ob,_,_,h1,h2,_⟩:=dd;exact⟨ob,h1,h2.2.1⟩
 .obtain ⟨_,hd,xs,_,dd⟩:=Bd I.hok e;refine⟨dd.typeIs,λb q=>?_,hd⟩;cases q;obtain⟨ob,_,_,h1,h2,_⟩:=dd;exact⟨ob,h1,h2.2.1⟩
section
variable {X:Cx}{pins:AO}{σ:St}{H:Hp}{s:Shared}{a:Addr}{y d:V}{u r:Value}{o:Option V}{A:Around}{E:VS}
end
section
variable {X:Cx}{o e f:Expr}{apos cpos:Pos}{td ty tx:TE}
end
section
variable {X:Cx}{pins:AO}{σ:St}{H:Hp}{s:Shared}{a:Addr}{kvs:List (Key×V)}{A:Around}{E:VS}
end
section
variable {X:Cx}{pins:AO}{σ:St}{H:Hp}{s:Shared}{a:Addr}{y:V}{u:Value}{A:Around}{E:VS}
end
end L2
namespace Att
open PySem PySem.W PySem.Calls PyProof.Rows
theorem Di{P:Params}{h:Heap}:∀(ns:List Int)(vs:List Value),WellAll P h vs (ns.map WData.int)->IntsAre vs ns:=by
 intro ns
 induction ns with
 | nil=>intro vs w;rw[List.map_nil]at w;cases w;exact .nil
 | cons n ns ih=>
  intro vs w;rw[bz]at w;cases w with
  | cons a b=>cases a;exact .cons _ _ (ih _ b)
theorem R_{l:OpenLaw}{n:Nat}(hn:l.most=some n){P:Params}{h:Heap}{args:List WData}{vals:List Value}(hpre:l.row.toRowW.claim.pre args=true)(hwl:WellAll P h vals args):
  ∃a vs ns,vals=[Value.ref a]/\args=[WData.list (ns.map WData.int)]/\h.get? a=some { cls:=.type "list",data:=.seq vs.toArray }/\IntsAre vs ns/\ns.length<=n:=by
 have hsh:WShape.hasAll [] args [.list .int]=true:=(pre_splitW hpre).1
 have hc:l.pre.holds [] { args:=args }=true:=(pre_splitW hpre).2
 obtain⟨d,r,rfl,h1,h2⟩:=hasAllW_cons hsh
 obtain rfl:=hasAllW_nil h2
 obtain⟨xs,rfl,h3⟩:=hasW_list h1
 obtain⟨ns,rfl⟩:=items_int h3
 have hlen:ns.length<=n:=by
  unfold OpenLaw.pre at hc;have h4:(WTm.not (.lt (.lit (.int (n:Int))) (.len (.arg 0)))).holds [] { args:=[.list (ns.map .int)] }=true:=by have h4:=(holds_andW hc).1;rw[hn]at h4;exact h4
  have h5:=condW_of h4 (w_not (w_lt w_lit (w_len_list (w_arg rfl))));rw[aH]at h5;refine Nat.le_of_not_lt λq=>?_;have q':(n:Int)<((ns.length:Nat):Int):=by omega
  first
   | (rw[br q']at h5;exact absurd h5 (by decide))
   | (simp at h5;omega)
 cases hwl with
 | cons w1 w2=>
   cases w2
   cases w1 with
   | list ho hall=>exact⟨_,_,ns,Z,Z,ho,Di ns _ hall,hlen⟩
theorem Sa(l:OpenLaw)(args:List WData):l.row.toRowW.claim.post args (.bool true) args=true:=postW_of (r:=l.row.toRowW) (X:=(true==true))
  (show WShape.has [] (.bool true) .bool=true by first|rfl|decide|simp[WShape.has,WShape.arms,WShape.armsAll])
  (show(WTm.eq .res (.lit (.bool true))).value [] { args:=args,res:=some (.bool true),after:=args }=some (.bool (true==true))from w_eq_bool (w_res rfl) w_lit) rfl
theorem Na{l:OpenLaw}{n:Nat}{q:Program}{loose:List Str}{XP:(Str->Option Value)->Heap->Prop}{YP:World->Heap->Prop}{d:DefRec}(hn:l.most=some n)(hdf:d.params.defaults=[])(call:∀(w:World) (s₀ s₁:Shared) (mg mb:SO) (fa:Addr) (o:Obj) (pm cd doc:Value) (a:Addr) (vs:List Value) (ns:List Int),
    Ground q loose [] XP w s₀ mg mb s₁.heap->YP w s₁.heap->
    s₁.heap.get? fa=some o->o.data =.func (docDef d.name d.params d.body d.scope pm cd doc)->s₁.heap.CodeRec cd d.name->mg d.name=some (.ref fa)->
    s₁.heap.get? a=some { cls:=.type "list",data:=.seq vs.toArray }->IntsAre vs ns->ns.length<=n->s₁.gens=#[]->
    codeAny (model l.prog w) callerA (.call (.ref fa) ⟨[.ref a],[]⟩) (λr s'=>r =.ok (.ret (.bool true))/\OldK s₁.heap s'.heap/\s'.os=s₁.os/\AllBare s'.gens) s₁):
  WalkO q loose XP YP l.row.toRowW d [] (λf vs=>PySem.call f vs):=by
 intro w s₀ s₁ mg mb G Y fa o pm cd doc dV kV ho hd hcd hD hmg hg args vals as hpre hlay hrd hwl hlo
 obtain rfl:dV =.none:=Dflts.none hD hdf
 obtain rfl:kV =.none:=Dflts.noKw hD
 obtain⟨a,vs,ns,rfl,rfl,hobj,hints,hlen⟩:=R_ hn hpre hwl
 refine enter_call (codeAny_mono (call w s₀ s₁ mg mb fa o pm cd doc a vs ns G Y ho (fd_plain hd) hcd hmg hobj hints hlen hg) λr s' hq=>?_)
 obtain⟨rfl,h2,h3,h4⟩:=hq
 exact⟨.inl ⟨.bool true,.bool true,[],Z,λ_=>rfl,.bool true,Sa l _,λ_=>⟨List.Pairwise.nil,λ_ hm=>(nomatch hm)⟩⟩,h2,h3,h4⟩
section
variable {prog:Program}{w:World}{A:Around}{E:VS}{s:Shared}{K:Frag}
end
end Att
namespace L2
open PySem PySem.Spec PyProof.Rows
theorem Gy:∀{vs:List Value}{ns:List Int},IntsAre vs ns->Vals (ns.map V.int) vs
 | _,_,.nil=> .nil
 | _,_,.cons n t h=> .cons ⟨t,Z⟩ (Gy h)
def U0(H:Hp):Prop:=∀b,H b=none\/∃o xs,H b=some (.fB o (.lst xs))
variable {P:Program}{K:Fg}{mg:SO}{CX:zZ}{a:Addr}{fd:FuncData}{x:Str}{sp:Sp}{ns:List Int}
theorem U1{w:World}{mb:SO}{k:Nat}{fa:Addr}{s₁:Shared}{vs:List Value}(KX:K.In s₁.heap)(hns:s₁.heap.Ns mainGlobals mg)(hb:s₁.heap.Ns builtinsNs mb)(hbb:∀x:Str,x ≠ "__name__"->mb x=bootBuiltins x)(hlim:s₁.heap.NoLimit)(hg:s₁.gens=#[])(ha:s₁.heap.get? a=some { cls:=.type "list",data:=.seq vs.toArray })(hi:IntsAre vs ns)(hl:ns.length<=sizeLine)(hr:fm k callerA)(F:∀base:Heap,K.In base->base.Ns mainGlobals mg->j_ P w K mg base CX k fa fd [x] sp)(hbind:∀(s:Shared) (u:Value),BindsTo s fd ⟨[u],[]⟩ [(x,u)])(uS:∀H:Hp,U0 H->aJ K H a (ns.map V.int)->sp [.ref a] H (λv _=>v =.bl true) λ_ _ _=>False)(Z5:∀H e s',CX [] H s₁ (λ_ _ _=>False) e s'->False):
  codeAny (model P w) callerA (.call (.ref fa) ⟨[.ref a],[]⟩) (λr s'=>r =.ok (.ret (.bool true))/\OldK s₁.heap s'.heap/\s'.os=s₁.os/\AllBare s'.gens) s₁:=by
 have rv:=Gy hi
 have agT:=hi.length
 have core:∀H:Hp,U0 H->aJ K H a (ns.map V.int)->jj P w H s₁.heap->(∀b,H b≠none->b=a)->(H a≠none->K.lookup a=none)->
   codeAny (model P w) callerA (.call (.ref fa) ⟨[.ref a],[]⟩) (λr s'=>r =.ok (.ret (.bool true))/\OldK s₁.heap s'.heap/\s'.os=s₁.os/\AllBare s'.gens) s₁:=by
  intro H hO hS hok hA hK
  have OI:∀{b:Addr}{o:Obj},s₁.heap.get? b=some o->H b=none->(yx s₁.heap H).get? b=some o:=λe n=>Ux e n
  have RX:∀{b:Addr}{o:Obj}{es:Array DictEntry}{ep:Nat},s₁.heap.get? b=some o->o.data =.dict es ep->H b=none:=λ{b o es ep} e d=>by
   cases q:H b with
   | none=>rfl
   | some u=>have e':b=a:=hA b (by rw[q];simp);subst e';rw[ha]at e;cases e;have d':Data.seq vs.toArray _=Data.dict es ep:=d;cases d'
  have WA:∀{b:Addr}{m:SO},s₁.heap.Ns b m->(yx s₁.heap H).Ns b m:=λ{b m} ⟨o,es,ep,e,d,r⟩=>⟨o,es,ep,OI e (RX e d),d,r⟩
  have hKb:K.In (yx s₁.heap H):=λb o e=>OI (KX b o e) (by
   cases q:H b with
   | none=>rfl
   | some u=>have e':b=a:=hA b (by rw[q];simp);subst e';rw[hK (by rw[q];simp)]at e;cases e)
  have hM:Mod K mg (yx s₁.heap H):=⟨hKb,WA hns,⟨mb,WA hb,hbb⟩,let⟨mc,h1,h2⟩:=hlim;⟨mc,WA h1,h2⟩⟩
  have e0:B4 P w K mg (yx s₁.heap H) callerA [] s₁ H:=⟨Z,hM,λb o e=>Xy e,Nat.le_of_eq (RG _ _),trivial,λb hb=>absurd (show b∈([] :List Addr)from hb) (by simp),hok,.of_eq hg⟩
  refine codeAny_mono ((F _ hKb (WA hns)).run callerA [] s₁ H ⟨[.ref a],[]⟩ [.ref a] [.ref a] _ _ hr e0 (hbind s₁ (.ref a)) (.cons rfl .nil) (uS H hO hS)) λr s' h=>?_
  cases r with
  | error e=>exact(Z5 H e s' h).elim
  | ok fl=>
    cases fl with
    | next=>exact False.elim h
    | brk=>exact False.elim h
    | cont=>exact False.elim h
    | ret u=>
      obtain⟨v,H',os,bare,un,agU,r',q⟩:=h
      have q':v =.bl true:=q
      subst q'
      obtain rfl:u=Value.bool true:=r'
      refine⟨Z,OldK.of_keep λb o e=>?_,os,bare⟩
      cases q:H b with
      | none=>exact un.keep b o e q (by intro z;exact absurd (show b∈([] :List Addr)from z) (by simp)) (by simp)
      | some u=>
        rcases hO b with z|⟨ob,xs,z⟩
        . rw[q]at z;cases z
        . have z2:=un.tM b ob _ z
          obtain⟨e1,_⟩:=hok b _ z
          obtain⟨e2,_⟩:=agU b _ z2
          rw[e]at e1;cases e1
          exact e2
 cases hk:K.lookup a with
 | some o=>
   have e:=KX a o hk
   rw[ha]at e
   cases e
   refine core (λ_=>none) (λ_=> .inl rfl) (.inr ⟨_,vs.toArray,_,hk,Z,Z,Z,by rw[iE,agT];exact hl,by simpa using rv⟩) (λb u z=>by have z':(none:Option HO)=some u:=z;cases z') (λb z=>absurd rfl z) λz=>absurd rfl z
 | none=>
   refine core (λb=>if b=a then some (.fB { cls:=.type "list",data:=.seq vs.toArray } (.lst (ns.map V.int))) else none) (λb=>?_) (.inl (.inr ⟨{ cls:=.type "list",data:=.seq vs.toArray },aC rfl⟩)) (λb u z=>?_) (λb z=>?_) λ_=>hk
   . by_cases hb:b=a
     . exact .inr ⟨_,_,aC hb⟩
     . exact .inl (aB hb)
   . by_cases hb:b=a
     . have z':=(aC hb).symm.trans z
       cases z'
       subst hb
       exact⟨ha,by rw[aH];exact hl,vs,_,rv,ha⟩
     . have z':=(aB hb).symm.trans z
       cases z'
   . by_cases hb:b=a
     . exact hb
     . exact absurd (aB hb) z
variable {n:Nat}{XP:(Str->Option Value)->Heap->Prop}{YP:World->Heap->Prop}
theorem XZ{l:PySem.W.OpenLaw}{k:Nat}{q:Program}{loose:List Str}{d:DefRec}{K:Params->Fg}{CX:World->zZ}{sp:World->Sp}(hn:l.most=some n)(hn2:n<=sizeLine)(hdf:d.params.defaults=[])(hr:fm k callerA)(hY:∀(w:World) (h:Heap),YP w h->(K w.params).In h)(F:∀(w:World) (mg:SO) (fa:Addr) (h:Heap),(K w.params).In h->h.Ns mainGlobals mg->mg d.name=some (.ref fa)->
    ∃fd:FuncData,(∀(s:Shared) (u:Value),BindsTo s fd ⟨[u],[]⟩ [(x,u)])/\
     ∀base:Heap,(K w.params).In base->base.Ns mainGlobals mg->j_ l.prog w (K w.params) mg base (CX w) k fa fd [x] (sp w))(uS:∀(w:World) (H:Hp) (a:Addr) (ns:List Int),ns.length<=n->U0 H->aJ (K w.params) H a (ns.map V.int)->sp w [.ref a] H (λv _=>v =.bl true) λ_ _ _=>False)(Z5:∀(w:World) (H:Hp) (s:Shared) (e:Value) (s':Shared),CX w [] H s (λ_ _ _=>False) e s'->False):
  PySem.W.WalkO q loose XP YP l.row.toRowW d [] (λf vs=>PySem.call f vs):=by
 refine Att.Na hn hdf λw s₀ s₁ mg mb fa o pm cd doc a vs ns G Y ho hd hcd hmg hobj hints hlen hg=>?_
 have KX:=hY w _ Y
 obtain⟨fd,hb,hF⟩:=F w mg fa _ KX G.T.g hmg
 exact U1 KX G.T.g G.T.b G.T.builtins G.T.nolimit hg hobj hints (gh hlen hn2) hr hF hb (λH hO hS=>uS w H a ns hlen hO hS) λH e s'=>Z5 w H s₁ e s'
def inClass(s:Stmt)(j:Nat):Stmt:=match s with
 | .ClassDef _ _ _ body _ _ _ _ _ _ _=>body.getD j (.Pass ⟨0,0,0,0⟩)
 | _=> .Pass ⟨0,0,0,0⟩
def fZ(s:Stmt):Arguments:=match s with
 | .FunctionDef _ a _ _ _ _ _ _ _ _=>a
 | _=>{ posonlyargs:=[],args:=[],vararg:=none,kwonlyargs:=[],kw_defaults:=[],kwarg:=none,defaults:=[] }
def dR(s:Stmt):List Stmt:=match s with
 | .FunctionDef _ _ b _ _ _ _ _ _ _=>b
 | _=>[]
def aF(s:Stmt):Scope:=match s with
 | .FunctionDef _ _ _ _ _ _ sc _ _ _=>sc
 | _=>{ kind:=.function,names:=[],isGenerator:=false,isCoroutine:=false }
abbrev uW:zZ:=λ_ _ _ _ _ _=>False
abbrev E0:XK:=λ_ _ _=>False
structure Gz(K:Fg)(x qual:Str)(st:Stmt)(f:Addr)(fd:FuncData):Prop where
 ex:∃(oc:Value)(od:Option Addr)(kV doc pm:Value)(an:Option Addr)(cdv ct:Value)(osl:Array (Option Value)),
  fd=PySem.W.fnOf x qual (fZ st) (dR st) (aF st) .none kV doc pm an cdv ct/\K.lookup f=some ⟨oc,od,.func fd,osl⟩/\PySem.W.codeIn K cdv qual=true
 kp:PySem.W.keepIn K (.ref f)=true
variable {qual:Str}{f:Addr}{N ps:List Str}{oc doc pm cdv ct:Value}{od an:Option Addr}{osl:Array (Option Value)}
section
variable {P:Program}{w:World}{K:Fg}{mg:SO}{base:Heap}
theorem Gz.ok{st:Stmt}{k:Nat}(F:Gz K x qual st f fd)(S:aS N ps (aF st))(len:∀vs H Q E,sp vs H Q E->vs.length=ps.length)(hbody:∀(cdv:Value) (A:Around) (outer:List Env) (s:Shared) (H:Hp) (vs:List V) (Q:VK) (E:XK),fm k (A.deeper (envOfC qual (aF st) s.heap.objs.size f cdv))->sp vs H Q E->
    ∃t,wF (tP uW P w K mg base N qual (aF st) f cdv A outer s H E).BA (dR st) t/\t { nx:=λ_ H'=>Q .cW H',rt:=Q } (start N vs) H):j_ P w K mg base uW (k+1) f fd ps sp:=by
 obtain⟨oc,od,kV,doc,pm,an,cdv,ct,osl,rfl,lk,hcd⟩:=F.ex
 refine ac6 lk hcd S len λA outer s H vs Q E hr uS=>?_
 obtain⟨t,h,q⟩:=hbody cdv A outer s H vs Q E hr uS
 exact⟨t,h.BA,q⟩
theorem Gz.binds{st:Stmt}(F:Gz K x qual st f fd)(h:∀(kV doc pm:Value) (an:Option Addr) (cdv ct:Value) (us:List Value),us.length=ps.length->bindArgs (PySem.W.fnOf x qual (fZ st) (dR st) (aF st) .none kV doc pm an cdv ct) ⟨us,[]⟩=pure (ps.zip us)):Binds K fd ps [] :=by
 obtain⟨oc,od,kV,doc,pm,an,cdv,ct,osl,rfl,lk,hcd⟩:=F.ex
 exact .all (h kV doc pm an cdv ct)
theorem J7{st:Stmt}{kV:Value}(l:K.lookup f=some ⟨oc,od,.func (PySem.W.fnOf x qual (fZ st) (dR st) (aF st) .none kV doc pm an cdv ct),osl⟩)(c:PySem.W.codeIn K cdv qual=true)(k:PySem.W.keepIn K (.ref f)=true):Gz K x qual st f (PySem.W.fnOf x qual (fZ st) (dR st) (aF st) .none kV doc pm an cdv ct):=⟨⟨oc,od,kV,doc,pm,an,cdv,ct,osl,Z,l,c⟩,k⟩
end
theorem d9{A:Around}{k:Nat}(hr:fm k A):A.units+1<cLine:=JG (Nat.add_le_add_left (by decide:1<=64) _) hr.units
theorem dH(h:n<=1000):n<sizeLine:=JG h (by decide)
section
variable {X:Cx}
end
theorem bL{A B:Prop}(h:B):if false=true then A else B:=by rw[aB iD];exact h
theorem nK{A B:Prop}(h:A):if true=true then A else B:=by rw[aC rfl];exact h
theorem cD{c A B:Prop}[Decidable c](h1:c->A)(h2:¬ c->B):if c then A else B:=by
 by_cases h:c
 .rw [aC h];exact h1 h
 .rw [aB h];exact h2 h
def aR(H H':Hp):Prop:=∀b o,H b=some o->H' b=some o
theorem aR.refl(H:Hp):aR H H:=λ_ _ h=>h
variable {H H1 H2:Hp}
theorem aR.trans(a:aR H H1)(b:aR H1 H2):aR H H2:=λc o h=>b c o (a c o h)
variable {H':Hp}
theorem aR.free(e:aR H H'){l:Addr}(h:H' l=Option.none):H l=Option.none:=by
 cases q:H l with
 | none=>rfl
 | some o=>rw[e l o q]at h;cases h
variable {xs:List V}
theorem aR.seq(e:aR H H')(h:aJ K H a xs):aJ K H' a xs:=by
 rcases h with(h|⟨o,h⟩)|h
 .exact .inl (.inl (e _ _ h))
 .exact .inl (.inr ⟨o,e _ _ h⟩)
 .exact .inr h
section
variable {X:Cx}
theorem wH:i_ X (.builtin "len") (λxs H Q=>∃a kvs,xs=[V.ref a]/\H a=some (.dK kvs)/\Q (.int kvs.length) H):=by intro pins s σ H xs us Q I r h;obtain⟨a,kvs,rfl,ha,q⟩:=h;obtain⟨u,rfl,ru⟩:=vals1 r;cases ru;exact ada I (.inl ha) λt s' I'=>⟨.int kvs.length,H,I',⟨t,Z⟩,q⟩
end
section
variable {κ:Type}[DecidableEq κ]
theorem U3{kvs:List (κ×V)}{k:κ}(h:dZ kvs k=none):¬ k∈kvs.map (·.1):=by intro m;obtain⟨p,hp,e⟩:=a_.mp m;have q:(kvs.any λkv=>decide (kv.1=k))=true:=List.any_eq_true.mpr ⟨p,hp,br e⟩;rw[qO,h]at q;exact absurd q (by simp)
theorem pC:∀{l:List κ}{k:κ},l.Nodup->¬ k∈l->(l++[k]).Nodup
 | [],k,_,_=>by simp
 | a::r,k,h,hk=>by
  obtain⟨h1,h2⟩:=fX.mp h;show(a::(r++[k])).Nodup;refine fX.mpr ⟨λm=>?_,pC h2 λm=>hk (cK.mpr (Or.inr m))⟩;rcases fu.mp m with q|q
  .exact h1 q
  .exact hk (cK.mpr (Or.inl (eX.mp q).symm))
theorem X0{kvs:List (κ×V)}{k:κ}(v:V)(hn:(kvs.map (·.1)).Nodup)(h:dZ kvs k=none):((putK kvs k v).map (·.1)).Nodup:=by rw[mE v h,bV];exact pC hn (U3 h)
end
end L2
set_option maxHeartbeats 4000000
namespace L2
open PySem PySem.Spec PyProof.Rows
variable {n:Nat}
section
variable {X:Cx}
def Dj(_ j:Int):Prop:=0<j/\j.natAbs.log2<9000
theorem jl:jz X (binaryOp .FloorDiv) (rI Dj λi j=> .int (i / j)):=RM λi j _ _ _ _ _ hc q=>by have h1:(0:Int)<j:=hc.1;exact floordiv_int (by omega) (by rw[Int.fdiv_eq_ediv_of_nonneg i (by omega)];exact q) (.inl (PyProof.noPylong_of_log2 hc.2))
theorem z9{i j:Int}(h:(decide (0<j) && decide (j.natAbs.log2<9000))=true):Dj i j:=by obtain⟨a,b⟩:=nI.mp h;exact⟨eF a,eF b⟩
theorem U4{i j:Int}(h0:0<j)(h:j<2 ^ n)(hn:n<=9000):Dj i j:=by
 refine⟨h0,?_⟩;have e:(j.natAbs:Int)=j:=by omega
 have h2:j.natAbs<2 ^ n:=by
  have:(j.natAbs:Int)<((2 ^ n:Nat):Int):=by rw[e];simpa using h
  exact Int.ofNat_lt.mp this
 have:=(Nat.log2_lt (n:=j.natAbs) (k:=n) (by omega)).mpr h2;omega
def QM(i j:Int):Prop:=∃m n:Nat,i.natAbs<2 ^ m/\j.natAbs<2 ^ n/\m+n<=134217728
theorem qP:jz X (binaryOp .Mult) (rI QM λi j=> .int (i*j)):=RM λ_ _ _ _ _ _ _ hc q=>by obtain⟨m,n,h1,h2,h3⟩:=hc;exact mul_int q (IntMulOk.of_le (Qi.mpr h1) (Qi.mpr h2) h3)
mutual
inductive Dt(K:Fg)(H:Hp):V->PyData->Prop
 | cW:Dt K H .cW .none
 | bl (b:Bool):Dt K H (.bl b) (.bool b)
 | int (i:Int):Dt K H (.int i) (.int i)
 | str (x:Str):Dt K H (.str x) (.str x)
 | lst {a:Addr} {xs:List V} {ds:List PyData}:aJ K H a xs->uw K H xs ds->Dt K H (.ref a) (.list ds)
 | tup {a:Addr} {xs:List V} {ds:List PyData}:dG K H a xs->uw K H xs ds->Dt K H (.ref a) (.tuple ds)
inductive uw(K:Fg)(H:Hp):List V->List PyData->Prop
 | nil:uw K H [] []
 | cons {x:V} {xs:List V} {d:PyData} {ds:List PyData}:Dt K H x d->uw K H xs ds->uw K H (x::xs) (d::ds)
end
section
variable {pins:AO}{σ:St}{H:Hp}{s:Shared}
mutual
theorem Dt.reads(I:Inv X pins σ H s):∀{x:V}{d:PyData}{u:Value},Dt X.K H x d->RelV x u->∃as,Reads s.heap u d as
 | _,_,u,.cW,r=>by cases(show u=Value.none from r);exact⟨_,.none⟩
 | _,_,u,.bl b,r=>by cases(show u=Value.bool b from r);exact⟨_,.bool b⟩
 | _,_,u,.int i,r=>by obtain⟨t,rfl⟩:=(show ∃t,u=Value.int i t from r);exact⟨_,.int i t⟩
 | _,_,u,.str x,r=>by obtain⟨t,rfl⟩:=(show ∃t,u=Value.str x t from r);exact⟨_,.str x t⟩
 | _,_,u,@Dt.lst _ _ a xs ds h hd,r=>by cases(show u=Value.ref a from r);obtain⟨its,rv,⟨o,n,e,c,_,d⟩,hz⟩:=I.list h;obtain⟨as,ra⟩:=uw.reads I hd rv;exact⟨_,.list e c d (by simpa using ra)⟩
 | _,_,u,@Dt.tup _ _ a xs ds h hd,r=>by cases(show u=Value.ref a from r);obtain⟨its,rv,⟨o,e,c,n,d⟩,hz⟩:=I.tuple h;obtain⟨as,ra⟩:=uw.reads I hd rv;exact⟨_,.tuple e c d (by simpa using ra)⟩
theorem uw.reads(I:Inv X pins σ H s):∀{xs:List V}{ds:List PyData}{us:List Value},uw X.K H xs ds->Vals xs us->∃as,ReadsAll s.heap us ds as
 | _,_,_,.nil,.nil=>⟨_,.nil⟩
 | _,_,_,.cons h t,.cons r rs=>by obtain⟨as,ra⟩:=Dt.reads I h r;obtain⟨bs,rb⟩:=uw.reads I t rs;exact⟨_,.cons ra rb⟩
end
end
inductive Z6(K:Fg)(x:V)(y:V)(H:Hp)(Q:VK):Prop
 |mk(d e:_)(_:Dt K H x d)(_:Dt K H y e)(_:SeqAt.shaped d=true)(_:SeqAt.shaped e=true)(_:Q (.bl (PyData.eqv d e)) H)
inductive U5(K:Fg)(x:V)(y:V)(H:Hp)(Q:VK):Prop
 |mk(d e:_)(_:Dt K H x d)(_:Dt K H y e)(_:SeqAt.shaped d=true)(_:SeqAt.shaped e=true)(_:Q (.bl (!PyData.eqv d e)) H)
theorem Z7(hu:X.A.units+64<cLine):jz X (compareOp .Eq) (Z6 X.K):=by intro pins s σ H x y v u Q I rx ry h;obtain⟨d,e,hd,he,sd,se,q⟩:=h;obtain⟨as,ra⟩:=hd.reads I rx;obtain⟨bs,rb⟩:=he.reads I ry;exact eq_dataH ra rb sd se hu ⟨.bl _,H,I,Z,q⟩
theorem Z8(hu:X.A.units+64<cLine):jz X (compareOp .NotEq) (U5 X.K):=by intro pins s σ H x y v u Q I rx ry h;obtain⟨d,e,hd,he,sd,se,q⟩:=h;obtain⟨as,ra⟩:=hd.reads I rx;obtain⟨bs,rb⟩:=he.reads I ry;exact ne_dataH ra rb sd se hu ⟨.bl _,H,I,Z,q⟩
structure Bx(p:Prop):Prop where
 ex:p
def bx(f:Sp):Sp:=λvs H Q E=>Bx (f vs H Q E)
structure Dn(P:Program)(w:World)(K:Fg)(mg:SO)(base:Heap)(k:Nat)(x:Str)(ps:List Str)(sp:Sp):Prop where
 ex:∃f fd,j_ P w K mg base uW k f fd ps sp/\Binds K fd ps []/\PySem.W.keepIn K (.ref f)=true/\mg x=some (.ref f)
end
structure At(K:Fg)(mg:SO)(x:Str)(st:Stmt)(f:Addr)(fd:FuncData):Prop where
 fn:Gz K x x st f fd
 name:mg x=some (.ref f)
variable {P:Program}{K:Fg}{mg:SO}{base:Heap}{x:Str}{f:Addr}{fd:FuncData}{N ps:List Str}{sp:Sp}
theorem At.ok{w:World}{st:Stmt}{k:Nat}(F:At K mg x st f fd)(S:aS N ps (aF st))(len:∀vs H Q E,sp vs H Q E->vs.length=ps.length)(hbody:∀(cdv:Value) (A:Around) (outer:List Env) (s:Shared) (H:Hp) (vs:List V) (Q:VK) (E:XK),fm k (A.deeper (envOfC x (aF st) s.heap.objs.size f cdv))->sp vs H Q E->
    ∃t,wF (tP uW P w K mg base N x (aF st) f cdv A outer s H E).BA (dR st) t/\t { nx:=λ_ H'=>Q .cW H',rt:=Q } (start N vs) H)(h:∀(kV doc pm:Value) (an:Option Addr) (cdv ct:Value) (us:List Value),us.length=ps.length->bindArgs (PySem.W.fnOf x x (fZ st) (dR st) (aF st) .none kV doc pm an cdv ct) ⟨us,[]⟩=pure (ps.zip us)):
  Dn P w K mg base (k+1) x ps sp:=⟨f,fd,F.fn.ok S len hbody,F.fn.binds h,F.fn.kp,F.name⟩
variable {h:Heap}{oc doc pm cdv ct:Value}{od an:Option Addr}{osl:Array (Option Value)}
theorem WB{st:Stmt}{kV:Value}(X:K.In h)(G:h.Ns mainGlobals mg)(a:PySem.W.nsIn K mainGlobals x=some (some (.ref f)))(l:K.lookup f=some ⟨oc,od,.func (PySem.W.fnOf x x (fZ st) (dR st) (aF st) .none kV doc pm an cdv ct),osl⟩)(c:PySem.W.codeIn K cdv x=true)(k:PySem.W.keepIn K (.ref f)=true):At K mg x st f (PySem.W.fnOf x x (fZ st) (dR st) (aF st) .none kV doc pm an cdv ct):=⟨J7 l c k,PySem.W.mg_of X G a⟩
theorem aR.tup{H H':Hp}{K:Fg}{a:Addr}{xs:List V}(e:aR H H')(h:dG K H a xs):dG K H' a xs:=by
 rcases h with(h|⟨o,h⟩)|h
 .exact .inl (.inl (e _ _ h))
 .exact .inl (.inr ⟨o,e _ _ h⟩)
 .exact .inr h
variable {H:Hp}
theorem aG{p:Addr}(h:H p=none)(o:HO):aR H (upd H p o):=λb u q=>by rw[ay (aD q h)];exact q
theorem small(h:n<=1000):n<=sizeLine:=A0 (dH h)
end L2
namespace Jm
def cf(a b:Int):Int:=(Int.gcd a b:Int)
theorem X3(a:Int)(h:0<=a):cf a 0=a:=by unfold cf;rw[Int.gcd_zero_right];omega
theorem OJ(a b:Int)(h:0<b):cf b (a % b)=cf a b:=by unfold cf;rw[Int.emod_def,Int.gcd_sub_mul_left_right,Int.gcd_comm]
theorem J8(a b:Int)(h:0<a\/0<b):0<cf a b:=by
 unfold cf;have:0<Int.gcd a b:=by
  rcases h with h|h
  .exact Int.gcd_pos_of_ne_zero_left _ (by omega)
  .exact Int.gcd_pos_of_ne_zero_right _ (by omega)
 omega
theorem X4(a b:Int):cf a b=cf b a:=by unfold cf;rw[Int.gcd_comm]
abbrev fr(t b:Int):Rat:=Rat.divInt t b
theorem Z9(t b:Int)(h:0<b):(fr t b).num=t / cf b t:=by unfold fr cf;rw[Rat.num_divInt,Int.sign_eq_one_of_pos h,Int.one_mul]
theorem Z_(t b:Int)(h:0<b):((fr t b).den:Int)=b / cf b t:=by unfold fr cf;rw[Rat.den_divInt,aB (by omega)];rw[Int.natCast_ediv];congr 1;omega
theorem xy(a b:Int):cf a b∣a:=Int.gcd_dvd_left ..
theorem pR(a b:Int):cf a b∣b:=Int.gcd_dvd_right ..
theorem QN{t b t' b':Int}(h:0<b)(h':0<b')(e:t*b'=t'*b):fr t b=fr t' b':=(Rat.divInt_eq_divInt_iff (by omega) (by omega)).mpr e
theorem Sb{n d:Int}(h:0<d)(c:cf n d=1):(fr n d).num=n/\((fr n d).den:Int)=d:=by rw[Z9 n d h,Z_ n d h,X4,c,C0,C0];exact⟨Z,Z⟩
def Sz(n:Nat)(x:Int):Prop:=x.natAbs<2 ^ n
theorem Sz.mono{m n:Nat}{x:Int}(h:Sz m x)(hn:m<=n):Sz n x:=lS h (Nat.pow_le_pow_right (by decide) hn)
theorem Sz.of_le{n:Nat}{x y:Int}(h:Sz n y)(hx:x.natAbs<=y.natAbs):Sz n x:=JG hx h
theorem Sz.neg{n:Nat}{x:Int}(h:Sz n x):Sz n (-x):=h.of_le (by omega)
theorem Sz.mul{m n:Nat}{x y:Int}(hx:Sz m x)(hy:Sz n y):Sz (m+n) (x*y):=by unfold Sz at *;rw[CW,Nat.pow_add];exact Nat.mul_lt_mul'' hx hy
theorem Sz.add{m n:Nat}{x y:Int}(hx:Sz m x)(hy:Sz n y):Sz (max m n+1) (x+y):=by have h1:=hx.mono (Nat.le_max_left m n);have h2:=hy.mono (Nat.le_max_right m n);unfold Sz at *;rw[Nat.pow_succ];omega
theorem Sz.jX{n:Nat}{x y:Int}(hx:Sz n x)(hy:Sz n y):Sz (n+1) (x+y):=by
 have:=hx.add hy
 rwa [Nat.max_self]at this
theorem Sz.pS{n:Nat}{x B:Int}(h0:-B<=x)(h1:x<=B)(hB:Sz n B):Sz n x:=hB.of_le (by omega)
theorem Sz.ediv{n:Nat}{x y:Int}(h:Sz n x)(hy:0<y):Sz n (x / y):=by
 refine h.of_le ?_;have e:=Int.emod_add_mul_ediv x y;have m0:=pN x (b:=y) (by omega);have m1:=zS x hy;rcases Int.lt_or_le x 0 with hx|hx
 .have q0:x / y<0:=Int.ediv_neg_of_neg_of_pos hx hy;have z:y*(x / y)<=1*(x / y):=Int.mul_le_mul_of_nonpos_right (by omega) (by omega);rcases Int.lt_or_le (x / y) x with k|k
  .exfalso;have z2:y*(x / y)<=y*(x-1):=JA (by omega) (by omega);have z3:y*(x-1)<=1*(x-1)-(y-1):=by
    have z4:(y-1)*(x-1)<=(y-1)*(-2):=JA (by omega) (by omega);have z5:y*(x-1)=(y-1)*(x-1)+(x-1):=by grind
    omega
   omega
  .omega
 .have q0:0<=x / y:=Jk hx (by omega);have:=Int.ediv_le_self y hx;omega
theorem Sz.dvd{n:Nat}{x y:Int}(h:Sz n y)(hy:0<y)(hx:0<=x)(d:x∣y):Sz n x:=h.of_le (by have:=Int.le_of_dvd hy d;omega)
theorem Sd{n:Nat}:∀{ws:List Int},(∀m∈ws,Sz n m)->Sz (n+ws.length) ws.sum
 | [],_=>by unfold Sz;show 0<_;exact Nat.two_pow_pos _
 | x::r,h=>by have h1:=Sd (ws:=r) λm hm=>h m (cA _ hm);have h2:=((h x cU).mono (rP n r.length)).jX h1;rw[c_];exact h2.mono (by rw[kM];omega)
def Dk(c:Int):Nat->Int
 | 0=>c
 | i+1=>Dk c i / 10000000000
def cellOf(ns:List Int)(k:Int):Int:=if 0<(ns.length:Int) then ns.getD (k % ns.length).toNat 0 else 0
def z_(ns:List Int)(k:Int):Int:=if 0<(ns.length:Int) then k / ns.length else 1
def mixed(c k j many:Int):Int:=
 let one:=(c*7919+k*104729+j*1299709+31) % 1000000007
 let two:=(one*48271+c / 1009) % 998244353
 let three:=(two*(one % 9973+1)+j) % 1000000009
 (one*69621+three*40692+three / 1013) % 2147483647 % many
def draw(ns:List Int)(k j many:Int):Int:=if z_ ns k=0/\1000000000000000000<=cellOf ns k/\0<Dk (cellOf ns k) j.toNat then Dk (cellOf ns k) j.toNat % 10000000000 % many
 else mixed (cellOf ns k) k j many
theorem X5(ns:List Int)(k j many:Int)(h:0<many):0<=draw ns k j many:=by
 unfold draw;split
 .exact pN _ (by omega)
 .exact pN _ (by omega)
theorem X6(ns:List Int)(k j many:Int)(h:0<many):draw ns k j many<many:=by
 unfold draw;split
 .exact zS _ h
 .exact zS _ h
end Jm
namespace L2
open PySem PySem.Spec PyProof.Rows
inductive adh(K:Fg)(vs:List V)(H:Hp)(Q:VK)(E:XK):Prop
 |mk(a:Addr)(ns:List Int)(k j many:Int)(_:vs=[.ref a,.int k,.int j,.int many])(_:aJ K H a (ns.map V.int))(_:ns.length<=63)(_:0<=k)(_:0<=j)(_:j<2 ^ 62)(_:0<many)(_:Q (.int (Jm.draw ns k j many)) H)
def sQ(K:Fg):Sp:=bx (adh K)
variable {K:Fg}{H:Hp}{a:Addr}{ns:List Int}
theorem cZ{Q:VK}{E:XK}{k j many:Int}(hS:aJ K H a (ns.map V.int))(h63:ns.length<=63)(h1:0<=k)(h2:0<=j)(h3:j<2 ^ 62)(h4:0<many)(h:∀d:Int,d=Jm.draw ns k j many->0<=d->d<many->Q (.int d) H):sQ K [.ref a,.int k,.int j,.int many] H Q E:=
 ⟨a,ns,k,j,many,Z,hS,h63,h1,h2,h3,h4,h _ rfl (Jm.X5 ns k j many h4) (Jm.X6 ns k j many h4)⟩
def U6:Sp:=λvs H Q _=>∃a b:Int,vs=[.int a,.int b]/\0<=a/\0<=b/\Q (.int (Jm.cf a b)) H
abbrev tQ(q:Rat):HO:=.tup [.int q.num,.int (q.den:Int)]
def Jv(K:Fg):Sp:=λvs H Q _=>∃(a:Addr)(ns:List Int),vs=[.ref a]/\aJ K H a (ns.map V.int)/\ns.length<=63/\∀H',Q (.bl true) H'
section
variable {X:Cx}{pos:Pos}
def Ends.too(D:Ends)(J:St->Hp->Prop):Ends:={ D with nx:=J }
def adi(t u:TS)(D:Ends)(σ:St)(J:St->Hp->Prop):Bool->Hp->Prop:=λb H1=>if b=true then t (D.too J) σ H1 else u (D.too J) σ H1
inductive aaa(c:TT)(t u:TS)(D:Ends)(σ:St)(H:Hp):Prop
 |mk(J:St->Hp->Prop)(_:c σ H (adi t u D σ J))(_:∀σ' H',J σ' H'->D.nx σ' H')
end
theorem yC{i j:Int}(h0:0<j)(h:Jm.Sz 9000 j):Dj i j:=by refine⟨h0,?_⟩;exact(Nat.log2_lt (by omega)).mpr h
variable {m n:Nat}
theorem pD{i j:Int}(hi:Jm.Sz m i)(hj:Jm.Sz n j)(h:m+n<=134217728:=by decide):QM i j:=⟨m,n,hi,hj,h⟩
theorem pT{x:Int}(h:decide (x.natAbs<2 ^ n)=true):Jm.Sz n x:=by unfold Jm.Sz;exact eF h
theorem X7{k:Int}(h0:0<=k)(h:k<(ns.length:Int)):sP (ns.map V.int) k=some (.int (ns.getD k.toNat 0)):=by
 have hk:k.toNat<ns.length:=by omega
 have ek:k=((k.toNat:Nat):Int):=by omega
 have q:sP (ns.map V.int) ((k.toNat:Nat):Int)=some (.int (ns.getD k.toNat 0)):=aM (by rw[cN,lu,bM hk] <;> rfl);rw[<-ek]at q;exact q
variable {elt target iter:Expr}{scope:Scope}{pos:Pos}{env:Env}
section
variable {prog:Program}{w:World}{A:Around}{R:Result->Shared->Prop}{s:Shared}
theorem J9{it acc:Value}(J:Nat->Shared->Prop)(turn:∀n s,J n s->wpAny (model prog w) A (pyNext it) (λr s₁=>match r with
    | none=>R (.ok .next) s₁
    | some v=>wpAny (model prog w) A (letOwnedTupleGo target it v) (λ_ s₂=>wpAny (model prog w) A (assign target env v) (λ_ s₃=>wpAny (model prog w) A (eval elt env) (λx s₄=>
            wpAny (model prog w) A (call (.builtin "list.append") [acc,x]) (λ_ s₅=>∃m,m<n/\J m s₅) (λ_ _=>False) s₄) (λ_ _=>False) s₃) (λ_ _=>False) s₂) (λ_ _=>False) s₁) (λ_ _=>False) s)(n:Nat)(h:J n s):codeAny (model prog w) A (.compLoop (.ListComp elt [⟨target,iter,[],0⟩] scope pos) 0 it acc env) R s:=by
 refine codeAny_loop rfl J (λn s hI=>?_) n h
 show wpAny _ A ((compTurn (.ListComp elt [⟨target,iter,[],0⟩] scope pos) 0 it acc env).onRaise (λx=>do noteFrame x env;theTreesLotGoes x)) _ _ s
 refine wpAny_noted ?_
 rw[compTurn_list1]
 refine az (yu (az (gH (turn n s hI) (λr s₁ h₁=>?_) λ_ _ h'=>h'.elim)))
 cases r with
 | none=>exact aT h₁
 | some v=>
   refine az (gH h₁ (λ_ s₂ h₂=>az (gH h₂ (λ_ s₃ h₃=>?_) λ_ _ h'=>h'.elim)) λ_ _ h'=>h'.elim)
   exact az (az (gH h₃ (λx s₄ h₄=>az (gH h₄ (λ_ s₅ h₅=>aT (aT ⟨Z,h₅⟩)) λ_ _ h'=>h'.elim)) λ_ _ h'=>h'.elim))
end
theorem uF(h:∀y∈scope.names,y.2 =.free->∃c,env.cells.lookup y.1=some c):∃cl,closureFor scope env=pure cl/\(∀y c,(y,c)∈cl->env.cells.lookup y=some c/\(y,NameKind.free)∈scope.names)/\∀y,(y,NameKind.free)∈scope.names->∃c,(y,c)∈cl:=by
 have gen:∀(names:List (Str×NameKind))(acc:List (Str×Addr)),(∀y∈names,y.2 =.free->∃c,env.cells.lookup y.1=some c)->
   ∃cl,(forIn names acc λ(x:Str×NameKind)(cs:List (Str×Addr))=>(if(x.2==NameKind.free)=true then do let a <-cellOf env x.1;pure (ForInStep.yield ((x.1,a)::cs)) else pure (ForInStep.yield cs):Sem _))=pure cl/\
    (∀y c,(y,c)∈cl->(env.cells.lookup y=some c/\(y,NameKind.free)∈names)\/(y,c)∈acc)/\(∀p∈acc,p∈cl)/\∀y,(y,NameKind.free)∈names->∃c,(y,c)∈cl:=by
  intro names
  induction names with
  | nil=>intro acc _;exact⟨acc,by rw[yt],λy c m=> .inr m,λp hp=>hp,λy m=>nomatch m⟩
  | cons x r ih=>
    intro acc hc
    obtain⟨n,k⟩:=x
    by_cases hk:k =.free
    . subst hk
      obtain⟨c,ec⟩:=hc (n,.free) cU rfl
      obtain⟨cl,e,h1,h2,h3⟩:=ih ((n,c)::acc) λy hy=>hc y (cA _ hy)
      refine⟨cl,?_,λy d m=>?_,λp hp=>h2 p (cA _ hp),λy m=>?_⟩
      . rw[Jl,<-e]
        have adj:cellOf env n=pure c:=by unfold cellOf;rw[ec]
        simp only[CS,m7,adj,pure_bind]
      . rcases h1 y d m with⟨a,b⟩|b
        . exact .inl ⟨a,cA _ b⟩
        . rcases cK.mp b with z|z
          . cases z;exact .inl ⟨ec,cU⟩
          . exact .inr z
      . rcases cK.mp m with z|z
        . cases z;exact⟨c,h2 _ cU⟩
        . exact h3 y z
    . obtain⟨cl,e,h1,h2,h3⟩:=ih acc λy hy=>hc y (cA _ hy)
      have hb:(k==NameKind.free)=false:=by simpa using hk
      refine⟨cl,?_,λy d m=>?_,h2,λy m=>?_⟩
      . rw[Jl,<-e]
        simp only[hb,EF,m5,pure_bind]
      . rcases h1 y d m with⟨a,b⟩|b
        . exact .inl ⟨a,cA _ b⟩
        . exact .inr b
      . rcases cK.mp m with z|z
        . cases z;exact absurd rfl hk
        . exact h3 y z
 obtain⟨cl,e,h1,_,h3⟩:=gen scope.names [] h;refine⟨cl,?_,λy c m=>(h1 y c m).elim id (λz=>nomatch z),h3⟩;have e2:closureFor scope env=((forIn scope.names ([] :List (Str×Addr)) λ(x:Str×NameKind)(cs:List (Str×Addr))=>(if(x.2==NameKind.free)=true then do let a <-cellOf env x.1;pure (ForInStep.yield ((x.1,a)::cs)) else pure (ForInStep.yield cs):Sem _)) >>= λr=>pure r):=rfl;rw[e2,e];rfl
theorem lookup_mem{α:Type}{l:List (Str×α)}{y:Str}{c:α}(h:(y,c)∈l):∃d,l.lookup y=some d:=by
 induction l with
 | nil=>cases h
 | cons p r ih=>
  obtain⟨k,v⟩:=p;rw[lW];cases hb:y==k with
  | true=>exact⟨v,Z⟩
  | false=>
   rcases cK.mp h with z|z
   .cases z;simp at hb
   .exact ih z
theorem m9:∀(names:List (Str×NameKind))(n:Nat)(acc:List (Str×Addr)){x:Str}{c:Addr},(cellsFrom n names acc).lookup x=some c->n<=c\/acc.lookup x=some c
 | [],_,_,_,_,h=> .inr h
 | (name,kind)::r,n,acc,x,c,h=>by
  unfold cellsFrom at h;split at h
  .rcases m9 r (n+1) _ h with z|z
   .exact .inl (by omega)
   .rw [lW]at z;cases hb:x==name with
    | true=>rw[hb]at z;cases z;exact .inl (aO _)
    | false=>rw[hb]at z;exact .inr z
  .exact m9 r n acc h
theorem HK:∀(names:List (Str×NameKind))(n n0:Nat)(acc:List (Str×Addr)){x:Str}{c:Addr},n0<=n->(∀d,acc.lookup x=some d->n0<=d)->(cellsFrom n names acc).lookup x=some c->n0<=c:=by
 intro names n n0 acc x c hn ha h;rcases m9 names n acc h with z|z
 .omega
 .exact ha c z
theorem tR:∀(names:List (Str×NameKind))(n:Nat)(acc:List (Str×Addr)){x:Str}{c:Addr},(x,NameKind.cell)∈names->(cellsFrom n names acc).lookup x=some c->n<=c
 | [],_,_,_,_,m,_=>nomatch m
 | (name,kind)::r,n,acc,x,c,m,h=>by
  unfold cellsFrom at h;rcases cK.mp m with z|z
  .cases z;rw[aC (by rfl)]at h;refine HK r (n+1) n _ (by omega) (λd hd=>?_) h;rw[lW,CS]at hd;cases hd;exact aO _
  .split at h
   .exact gh (A_ _) (tR r (n+1) _ z h)
   .exact tR r n acc z h
theorem m_:∀(names:List (Str×NameKind))(n:Nat)(acc:List (Str×Addr)){x:Str},(∃c,acc.lookup x=some c)->∃c,(cellsFrom n names acc).lookup x=some c
 | [],_,_,_,h=>h
 | (name,kind)::r,n,acc,x,h=>by
  unfold cellsFrom;split
  .refine m_ r (n+1) _ ?_;rw[lW];cases x==name with
   | true=>exact⟨_,Z⟩
   | false=>exact h
  .exact m_ r n acc h
theorem tS:∀(names:List (Str×NameKind))(n:Nat)(acc:List (Str×Addr)){x:Str},(x,NameKind.cell)∈names->∃c,(cellsFrom n names acc).lookup x=some c
 | [],_,_,_,m=>nomatch m
 | (name,kind)::r,n,acc,x,m=>by
  unfold cellsFrom;rcases cK.mp m with z|z
  .cases z;rw[aC (by rfl)];refine m_ r (n+1) _ ⟨n,?_⟩;rw[lW,CS]
  .split
   .exact tS r (n+1) _ z
   .exact tS r n acc z
theorem tT:∀(names:List (Str×NameKind))(n:Nat)(acc:List (Str×Addr)){x:Str},(x,NameKind.cell)∉names->(cellsFrom n names acc).lookup x=acc.lookup x
 | [],_,_,_,_=>rfl
 | (name,kind)::r,n,acc,x,m=>by
  have m2:(x,NameKind.cell)∉r:=λz=>m (cA _ z);unfold cellsFrom;split
  .rename_i hk;rw[tT r (n+1) _ m2,lW];cases hb:x==name with
   | true=>
    have e1:=uE.mp hb;have e2:kind=NameKind.cell:=by simpa using hk
    subst e1 e2;exact absurd cU m
   | false=>rfl
  .exact tT r n acc m2
theorem tU:∀(names:List (Str×NameKind))(n:Nat)(acc:List (Str×Addr)),(∀x y c,acc.lookup x=some c->acc.lookup y=some c->x=y)->(∀x c,acc.lookup x=some c->c<n)->∀x y c,(cellsFrom n names acc).lookup x=some c->(cellsFrom n names acc).lookup y=some c->x=y
 | [],_,_,h,_=>h
 | (name,kind)::r,n,acc,h,hlt=>by
  intro x y c hx hy;unfold cellsFrom at hx hy;split at hx
  .rename_i hk;rw[aC hk]at hy;refine tU r (n+1) _ (λx y c hx hy=>?_) (λx c hx=>?_) x y c hx hy
   .rw [lW]at hx hy;cases hb:x==name with
    | true=>
     cases hb2:y==name with
     | true=>rw[uE.mp hb,uE.mp hb2]
     | false=>rw[hb]at hx;rw[hb2]at hy;cases hx;exact absurd (hlt _ _ hy) (i7 _)
    | false=>
     cases hb2:y==name with
     | true=>rw[hb]at hx;rw[hb2]at hy;cases hy;exact absurd (hlt _ _ hx) (i7 _)
     | false=>rw[hb]at hx;rw[hb2]at hy;exact h x y c hx hy
   .rw [lW]at hx;cases hb:x==name with
    | true=>rw[hb]at hx;cases hx;exact Nat.lt_succ_self _
    | false=>rw[hb]at hx;exact JK (hlt _ _ hx)
  .rename_i hk;rw[aB hk]at hy;exact tU r n acc h hlt x y c hx hy
theorem xA:∀(names:List (Str×NameKind))(h:Heap)(acc:List (Str×Addr)),(∀x c,acc.lookup x=some c->∃v,h.IsCell c v)->∀x c,(cellsFrom h.objs.size names acc).lookup x=some c->∃v,(pushCells h names).IsCell c v
 | [],_,_,ha=>ha
 | (name,kind)::r,h,acc,ha=>by
  intro x c hx;unfold cellsFrom at hx;unfold pushCells;split at hx
  .rename_i hk;rw[aC hk];have q:=xA r (h.push { cls:=.type "cell",data:=.cell none }) ((name,h.objs.size)::acc) (λx c hx=>by
    rw[lW]at hx;cases hb:x==name with
    | true=>rw[hb]at hx;cases hx;exact⟨none,_,eT _ rfl,Z⟩
    | false=>rw[hb]at hx;obtain⟨v,z⟩:=ha x c hx;exact⟨v,z.keeps λb o e=>b9 _ e⟩) x c
   rw[kO]at q;exact q hx
  .rename_i hk;rw[aB hk];exact xA r h acc ha x c hx
def cQ(X:Cx)(N2:List Str)(scope:Scope)(cl:List (Str×Addr))(s₂:Shared)(H₂:Hp)(fp:List Addr):Cx where
 prog:=X.prog
 w:=X.w
 K:=X.K
 mg:=X.mg
 base:=X.base
 A:=X.A
 N:=N2
 s₀:=s₂
 H₀:=H₂
 env:={ scope:=relabel scope X.env,locals:=s₂.heap.objs.size,globals:=X.env.globals,cells:=cellsFrom (s₂.heap.objs.size+1) scope.names cl,qual:=X.env.qual,func:=none,code:=X.env.code,frame:=X.env.frame,builtins:=X.env.builtins }
 outer:=X.stack
 stack:=X.stack
 ex:=fp
 fn:=λx=>decide (scope.names.lookup x=some .cell)
 calm:=X.calm
 pn:=[]
 xe:=λ_ _=>False
def nQ(XN:List Str)(xn sn:List (Str×NameKind))(N2:List Str)(ix:List (Option Nat)):Bool:=(ix.length==N2.length) &&
 ((ix.zip N2).all λp=>match p.1 with
   | none=>true
   | some j=>XN[j]?==some p.2 && sn.lookup p.2==some .free && (xn.lookup p.2==some .cell || xn.lookup p.2==some .free)) &&
 (sn.all λy=>y.2 !=.free || (xn.lookup y.1==some .cell || xn.lookup y.1==some .free)) &&
 (sn.all λy=>y.2 !=.local || sn.lookup y.1==some .local) &&
 (sn.all λy=>y.2 !=.free || sn.all λz=>z.2 !=.cell || z.1 != y.1)
variable {x:Str}
theorem BE{k:NameKind}(h:(relabel scope env).names.lookup x=some k)(hk:k =.cell\/k =.free):(x,NameKind.cell)∈scope.names\/(x,NameKind.free)∈scope.names:=by
 have m:=yo h;obtain⟨y,hy,e⟩:=a_.mp m;obtain⟨n,k0⟩:=y;dsimp only at e;split at e
 .rename_i hc;cases e;have h1:k0=NameKind.free:=by have:=(nI.mp (nI.mp hc).1).1;simpa using this
  subst h1;exact .inr hy
 .cases e;rcases hk with rfl|rfl
  .exact .inl hy
  .exact .inr hy
theorem J_:∀{x:Str},scope.names.lookup x=some .free->(relabel scope env).names.lookup x=some .cell\/(relabel scope env).names.lookup x=some .free:=by
 intro x h;have gen:∀(l:List (Str×NameKind)),l.lookup x=some .free->(l.map λ(n,k)=>if(k==NameKind.free && env.scope.kind ==.function && env.kindOf n==some .cell) then(n,NameKind.cell) else(n,k)).lookup x=some .cell\/
   (l.map λ(n,k)=>if(k==NameKind.free && env.scope.kind ==.function && env.kindOf n==some .cell) then(n,NameKind.cell) else(n,k)).lookup x=some .free:=by
  intro l
  induction l with
  | nil=>intro h;cases h
  | cons p r ih=>
    intro h
    obtain⟨n,k⟩:=p
    rw[lW]at h
    rw[bz]
    dsimp only
    cases hb:x==n with
    | true=>
      rw[hb]at h
      cases h
      split
      . rw[lW,hb];exact .inl rfl
      . rw[lW,hb];exact .inr rfl
    | false=>
      rw[hb]at h
      split
      . rw[lW,hb];exact ih h
      . rw[lW,hb];exact ih h
 exact gen scope.names h
variable {X:Cx}{pins:AO}{σ σ2:St}{s:Shared}{N2:List Str}{cl:List (Str×Addr)}{fp:List Addr}
theorem yD(I:Inv X pins σ H s)(hk:scope.kind =.function)(B_:∀y c,(y,c)∈cl->X.env.cells.lookup y=some c)(Aa:∀y,(y,NameKind.free)∈scope.names->∃c,(y,c)∈cl)(hfp:∀b∈fp,mz X pins H b)(hfo:∀b∈fp,b<s.heap.objs.size)(hl:σ2.length=N2.length)(hσ:∀(i:Nat) (x:Str) (v:V),N2[i]?=some x->σ2[i]?=some (some v)->scope.names.lookup x=some .free/\(X.env.kindOf x=some .cell\/X.env.kindOf x=some .free)/\∃j:Nat,X.N[j]?=some x/\σ[j]?=some (some v))(hd:∀x,(x,NameKind.free)∈scope.names->(x,NameKind.cell)∉scope.names):
  Inv (cQ X N2 scope cl s H fp) [] σ2 H { s with heap:=pushCells (s.heap.push { cls:=.type "dict",data:=.dict #[] }) scope.names }:=by
 have keeps:∀b o,s.heap.get? b=some o->(pushCells (s.heap.push { cls:=.type "dict",data:=.dict #[] }) scope.names).get? b=some o:=λb o e=>CV _ _ b o (b9 _ e)
 have hsz:(s.heap.push { cls:=.type "dict",data:=.dict #[] }).objs.size=s.heap.objs.size+1:=kO ..
 have Be:∀x c,cl.lookup x=some c->X.env.cells.lookup x=some c:=λx c e=>B_ x c (yo e)
 have clt:∀x c,cl.lookup x=some c->c<s.heap.objs.size:=λx c e=>by obtain⟨v,z⟩:=I.cell x c (Be x c e);exact z.lt
 have there:=xA scope.names (s.heap.push { cls:=.type "dict",data:=.dict #[] }) cl (λx c e=>by obtain⟨v,z⟩:=I.cell x c (Be x c e);exact⟨v,z.keeps λb o e=>b9 _ e⟩)
 rw[hsz]at there
 have cells:∀x c,(cellsFrom (s.heap.objs.size+1) scope.names cl).lookup x=some c->s.heap.objs.size+1<=c\/X.env.cells.lookup x=some c:=λx c e=>by
  rcases m9 _ _ _ e with z|z
  .exact .inl z
  .exact .inr (Be x c z)
 have okY:(cQ X N2 scope cl s H fp).Ok:=by
  refine⟨I.ok.mod,hk,I.ok.glob,I.ok.blt,aO _,?_,?_,?_,I.ok.hd,I.ok.frames,.inl rfl,?_,I.bs,gh I.ok.Gm I.sz,?_,?_,I.stack,I.OB⟩
  .exact tU _ _ _ (λx y c hx hy=>I.ok.inj x y c (Be x c hx) (Be y c hy)) λx c e=>JK (clt x c e)
  .intro x hx;have m:(x,NameKind.cell)∈scope.names\/(x,NameKind.free)∈scope.names:=by
    rcases hx with z|z
    .exact BE z (.inl rfl)
    .exact BE z (.inr rfl)
   rcases m with m|m
   .exact tS _ _ _ m
   .obtain ⟨c,mc⟩:=Aa x m;exact m_ _ _ _ (lookup_mem mc)
  .intro x c hf e;have hf':scope.names.lookup x=some .cell:=eF hf;exact gh (A_ _) (tR _ _ _ (yo hf') e)
  .intro b hb;refine⟨d8 (hfo b hb),λx c e z=>?_⟩;have hlt:=hfo b hb;rcases cells x c e with k|k
   .exact absurd (lS hlt (gh (A_ _) (z▸k))) (i7 _)
   .exact (hfp b hb).2.2.2.2.1 x c k z
  .intro b o e hb;rcases(hfp b hb).2.2.2.1 with z|z
   .exact I.ok.JO b o e z
   .exact absurd (lS (bU (I.ok.bs b o e).1) z) (i7 _)
  .intro b hb hbs;rcases cK.mp (I.JR b hbs)with z|z
   .exact (hfp b hb).2.1 z
   .exact (hfp b hb).2.2.1 z
 refine⟨okY,Z,I.bare,Un.kept keeps,?_,there,I.hok.fresh (aO _),?_,(λp hp=>nomatch hp),I.hok.kept keeps,hl⟩
 . refine⟨λ_=>none,(Heap.Ns.new s.heap (.type "dict")).keeps (CV _ _),λi x v e1 e2 _=>?_⟩
   obtain⟨hf,hx,j,j1,j2⟩:=hσ i x v e1 e2
   obtain⟨m,_,hloc⟩:=I.loc
   have hv:Wn X.env.scope x:=hx.elim (λz=> .inr (.inl z)) λz=> .inr (.inr z)
   obtain⟨u,r,lk⟩:=hloc j x v j1 j2 hv
   refine⟨u,r,.inr ⟨J_ hf,?_⟩⟩
   rcases lk with⟨k,_⟩|⟨_,c,ec,ic⟩
   . rcases hx with z|z <;> rw[z]at k <;> cases k
   . refine⟨c,?_,ic.keeps keeps⟩
     have mf:=yo hf
     show(cellsFrom (s.heap.objs.size+1) scope.names cl).lookup x=some c
     rw[tT _ _ _ (hd x mf)]
     obtain⟨c',mc⟩:=Aa x mf
     obtain⟨d,ed⟩:=lookup_mem mc
     rw[ed]
     have:=Be x d ed
     rw[ec]at this
     exact this.symm
 . intro x c e
   rcases cells x c e with k|k
   . exact I.hok.fresh (by omega)
   . exact I.oh x c k
variable {tg:Expr}{te:TE}{E:VS}
section
variable {X:Cx}
def Dl(J:It)(g:TG)(te:TE)(acc:Addr)(σ₀:St)(H:Hp)(Q:VK):Prop:=∃W:Nat->Nat->St->Hp->Prop,(∃m,W 0 m σ₀ (upd H acc (.lst [])))/\∀i m σ2 H2,W i m σ2 H2->(J.stop i H2/\Q (.ref acc) H2)\/(J.go i H2/\∃(S:St->Prop)(N:V->Hp->Prop),(∀σ3 v H4,S σ3->N v H4->∃xs,H4 acc=some (.lst xs)/\xs.length<sizeLine/\∃m',m'<m/\W (i+1) m' σ3 (upd H4 acc (.lst (xs++[v]))))/\∀x H',J.zV i H2 x H'->g x σ2 H' λσ3 H3=>S σ3/\te σ3 H3 N)
inductive yE(Pv:Nat->List V->Hp->Prop)(i:Nat)(acc:Addr)(out:List V)(v:V)(H4:Hp):Prop
 |mk(_:H4 acc=some (.lst out))(_:Pv (i+1) (out++[v]) (upd H4 acc (.lst (out++[v]))))
def WC(te:TE)(σ:St)(Pv:Nat->List V->Hp->Prop)(i:Nat)(acc:Addr)(out:List V):Bool->Hp->Prop:=λb H2=>if b=true then te σ H2 (yE Pv i acc out) else H2 acc=some (.lst out)/\Pv (i+1) out H2
def pick(ix:List (Option Nat))(σ:St):St:=ix.map λo=>o.bind λj=>(σ[j]?).join
def aab(ix:List (Option Nat))(g:TG)(te:TE)(σ:St)(Q:VK):It->Hp->Prop:=λJ H1=>∀acc,H1 acc=none->Dl J g te acc (pick ix σ) H1 Q
def WD(wi:TI)(ix:List (Option Nat))(g:TG)(te:TE):TE:=λσ H Q=>wi σ H (aab ix g te σ Q)
theorem kT{XN:List Str}{xn sn:List (Str×NameKind)}{ix:List (Option Nat)}(h:nQ XN xn sn N2 ix=true):ix.length=N2.length/\(∀(i:Nat)(x:Str)(j:Nat),N2[i]?=some x->ix[i]?=some (some j)->XN[j]?=some x/\sn.lookup x=some .free/\(xn.lookup x=some .cell\/xn.lookup x=some .free))/\(∀y∈sn,y.2 =.free->xn.lookup y.1=some .cell\/xn.lookup y.1=some .free)/\(∀y∈sn,y.2 =.local->sn.lookup y.1=some .local)/\∀x,(x,NameKind.free)∈sn->(x,NameKind.cell)∉sn:=by
 unfold nQ at h;obtain⟨h,h5⟩:=nI.mp h;obtain⟨h,h4⟩:=nI.mp h;obtain⟨h,h3⟩:=nI.mp h;obtain⟨h1,h2⟩:=nI.mp h;have e1:ix.length=N2.length:=by simpa using h1
 refine⟨e1,λi x j a b=>?_,λy hy e=>?_,λy hy e=>?_,λx m1 m2=>?_⟩
 .have m:(some j,x)∈ix.zip N2:=by refine cu (i:=i) ?_;rw[List.getElem?_zip_eq_some];exact⟨b,a⟩
  have q:=pM.mp h2 _ m;dsimp only at q;obtain⟨q,q3⟩:=nI.mp q;obtain⟨q1,q2⟩:=nI.mp q;exact⟨by simpa using q1,by simpa using q2,(JE.mp q3).imp (λz=>by simpa using z) λz=>by simpa using z⟩
 .have q:=pM.mp h3 y hy;rcases JE.mp q with z|z
  .rw [e]at z;simp at z
  .exact (JE.mp z).imp (λz=>by simpa using z) λz=>by simpa using z
 .have q:=pM.mp h4 y hy;rcases JE.mp q with z|z
  .rw [e]at z;simp at z
  .simpa using z
 .have q:=pM.mp h5 _ m1;rcases JE.mp q with z|z
  .simp at z
  .have q2:=pM.mp z _ m2;simp at q2
theorem Dm{ix:List (Option Nat)}{g:TG}{Q:VK}{RR:Value->Addr->Result->Shared->Prop}(hc:X.calm=true)(hg:∀cl s₂ H₂ fp,PG (cQ X N2 scope cl s₂ H₂ fp) tg g)(he:∀cl s₂ H₂ fp,PE (cQ X N2 scope cl s₂ H₂ fp) elt te)(hk:scope.kind =.function)(hn:nQ X.N X.env.scope.names scope.names N2 ix=true)(B_:∀y c,(y,c)∈cl->X.env.cells.lookup y=some c)(Aa:∀y,(y,NameKind.free)∈scope.names->∃c,(y,c)∈cl){it:Addr}{fp:List Addr}{tn:Nat->Heap->Prop}{J:It}(I:Inv X pins σ H s)(T:Turn X.prog X.w X.K tg J fp it tn)(st:tn 0 s.heap)(f:∀b∈fp,mz X pins H b)(h:∀acc,H acc=none->Dl J g te acc (ix.map λo=>o.bind λj=>(σ[j]?).join) H Q)(hR:∀acc C H' s' m,Inv X pins σ H' s'->s'.heap.Ns C m->H' C=none->C≠X.env.locals->X.s₀.heap.objs.size<=C->(∀x c,X.env.cells.lookup x=some c->c≠C)->(∀p∈X.pn++pins,p.1≠C)->Q (.ref acc) H'->RR (.ref acc) C (.ok .next) s'):
  wpAny (model X.prog X.w) X.A (newList []) (λacc s₃=>wpAny (model X.prog X.w) X.A (newFunctionEnv scope X.env.globals cl [] X.env.qual none .none (some X.env)) (λcenv s₄=>
   codeAny (model X.prog X.w) X.A (.compStart (.ListComp elt [⟨tg,iter,[],0⟩] scope pos) 0 (.ref it) acc { cenv with scope:=relabel scope X.env }) (RR acc cenv.locals) s₄) E s₃) E s:=by
 obtain⟨k1,k2,k3,k4,k5⟩:=kT hn
 refine xq ?_
 have I3:Inv X pins σ (upd H s.heap.objs.size (.lst [])) { s with heap:=s.heap.push { cls:=.type "list",data:=.seq ([] :List Value).toArray } }:=
  I.laid (a:=s.heap.objs.size) (o:=.lst []) (t':=s.toks) (λ_ _ q=>b9 _ q) (aO _) ⟨fM _,[],_,.nil,eT _ rfl⟩
 obtain⟨W,⟨m0,w0⟩,turn⟩:=h s.heap.objs.size I.fresh
 have fo:∀b∈fp,b<s.heap.objs.size:=λb hb=>by obtain⟨o,e,_⟩:=T.obj 0 _ st b hb;exact bU e
 have st3:tn 0 (s.heap.push { cls:=.type "list",data:=.seq ([] :List Value).toArray }):=T.keep _ _ _ st λb _ o e=>b9 _ e
 have f3:∀b∈fp,mz X pins (upd H s.heap.objs.size (.lst [])) b:=λb hb=>⟨by rw[ay (d8 (fo b hb))];exact(f b hb).1,(f b hb).2⟩
 have GA:∀b∈fp,b<(s.heap.push { cls:=.type "list",data:=.seq ([] :List Value).toArray }).objs.size:=λb hb=>by rw[kO];exact JK (fo b hb)
 generalize Se:({ s with heap:=s.heap.push { cls:=.type "list",data:=.seq ([] :List Value).toArray } }:Shared)=s3 at *
 have Sf:s3.heap=s.heap.push { cls:=.type "list",data:=.seq ([] :List Value).toArray }:=by rw[<-Se]
 rw[<-Sf]at st3 GA
 generalize s.heap.objs.size=acc at *
 generalize eH3:upd H acc (.lst [])=H3 at *
 have IY:=yD (N2:=N2) (scope:=scope) (cl:=cl) (fp:=fp) (σ2:=ix.map λo=>o.bind λj=>(σ[j]?).join) I3 hk B_ Aa f3 GA (by rw[aH];exact k1) (λi x v e1 e2=>by
  rw[cN]at e2;cases ei:ix[i]? with
  | none=>rw[ei]at e2;cases e2
  | some o=>
   rw[ei]at e2;cases o with
   | none=>cases e2
   | some j=>
    obtain⟨a1,a2,a3⟩:=k2 i x j e1 ei;refine⟨a2,a3,j,a1,?_⟩;have e3:(σ[j]?).join=some v:=fE e2;cases ej:σ[j]? with
    | none=>rw[ej]at e3;cases e3
    | some z=>rw[ej]at e3;exact ff some e3) k5
 have ne:wpAny (model X.prog X.w) X.A (newFunctionEnv scope X.env.globals cl [] X.env.qual none .none (some X.env)) (λcenv s₄=>
   cenv={ scope:=scope,locals:=s3.heap.objs.size,globals:=X.env.globals,cells:=cellsFrom (s3.heap.objs.size+1) scope.names cl,qual:=X.env.qual,func:=none,code:=X.env.code,frame:=X.env.frame,builtins:=X.env.builtins }/\
   s₄={ s3 with heap:=pushCells (s3.heap.push { cls:=.type "dict",data:=.dict #[] }) scope.names }) E s3:=by
  simp only[newFunctionEnv,Ql,m7]
  refine az (wpAny_alloc ?_)
  refine az (wpAny_layCells _ (λname kind cells=>by cases hkc:kind==NameKind.cell <;> simp[hkc]) _ _ _ _ ?_)
  rw[yt]
  refine az (aT (aT ⟨?_,Z⟩))
  rw[show({ s3 with heap:=s3.heap.push { cls:=.type "dict",data:=.dict #[] } }:Shared).heap.objs.size=s3.heap.objs.size+1 from kO ..]
 refine bh ne λcenv s4 ⟨e1,e2⟩=>?_
 subst e1 e2
 have GB:tn 0 (pushCells (s3.heap.push { cls:=.type "dict",data:=.dict #[] }) scope.names):=T.keep _ _ _ st3 λb _ o e=>CV _ _ b o (b9 _ e)
 have xX:s3.heap.objs.size≠X.env.locals:=wg I3.lt
 have oQ:∀{H':Hp},(∀b∈fp,H' b=none)->∀b∈fp,mz (cQ X N2 scope cl s3 H3 fp) [] H' b:=λ{H'} hn b hb=>
  ⟨hn b hb,(IY.ok.Gk b hb).1,IY.ok.BX b hb,.inl hb,(IY.ok.Gk b hb).2,λp hp=>nomatch hp⟩
 have loop:codeAny (model X.prog X.w) X.A (.compLoop (.ListComp elt [⟨tg,iter,[],0⟩] scope pos) 0 (.ref it) (.ref acc) (cQ X N2 scope cl s3 H3 fp).env) (RR (.ref acc) s3.heap.objs.size)
   { s3 with heap:=pushCells (s3.heap.push { cls:=.type "dict",data:=.dict #[] }) scope.names }:=by
  refine J9 (λn s'=>∃i σ' H',Inv (cQ X N2 scope cl s3 H3 fp) [] σ' H' s'/\tn i s'.heap/\(∀b∈fp,H' b=none)/\W i n σ' H') ?_ m0 ⟨0,_,H3,IY,GB,λb hb=>(f3 b hb).1,w0⟩
  rintro n s5 ⟨i,σ5,H5,I5,zz,BF,w5⟩
  rcases turn i n σ5 H5 w5 with⟨stop,qn⟩|⟨go,S,N,Sg,step⟩
  . refine bh (T.done (cQ X N2 scope cl s3 H3 fp) rfl rfl rfl hc i [] s5 σ5 H5 (λ_ _=>False) I5 (oQ BF) zz stop) λr s6 ⟨hr,I6⟩=>?_
    subst hr
    obtain⟨m6,Sh,_⟩:=id I6.loc
    have IX:Inv X pins σ H5 s6:=I3.Qx (ch:=fp) I6.os I6.base I6.hok I6.bare λb hb=>⟨(f3 b hb).2.2.2.1,(f3 b hb).2.1,(f3 b hb).2.2.2.2.1,(f3 b hb).2.2.2.2.2⟩
    refine hR acc s3.heap.objs.size H5 s6 m6 IX Sh I6.free xX I3.sz (λx c e z=>?_) (λp hp z=>?_) qn
    . obtain⟨v,q⟩:=I3.cell x c e
      exact absurd q.lt (by rw[z];exact i7 _)
    . exact absurd (bU (I3.pin p hp).1) (by rw[z];exact i7 _)
  . refine bh (T.item (cQ X N2 scope cl s3 H3 fp) rfl rfl rfl hc i [] s5 σ5 H5 (λ_ _=>False) I5 (oQ BF) zz go) λr s6 ⟨u,hr,h6⟩=>?_
    subst hr
    refine bh h6 λ_ s7 ⟨x,H7,I7,r7,y7,xY,Ka⟩=>?_
    have Si:=I7.pinned (oQ Ka) (T.obj _ _ xY)
    refine bh (hg cl s3 H3 fp _ s7 σ5 H7 x u _ Si r7 (step x H7 y7)) λ_ s8 ⟨σ8,H8,I8,OL,q8⟩=>?_
    refine bh (he cl s3 H3 fp _ s8 σ8 H8 _ I8 q8) λy s9 ⟨v,H9,I9,r9,q9⟩=>?_
    obtain⟨xs,hxs,Sj,m',hm,w9⟩:=Sg σ8 v H9 OL q9
    refine bh (eU _ s9 σ8 H9 (.ref acc) [v] (.ref acc) [y] (λz zA=>z =.cW/\zA=upd H9 acc (.lst (xs++[v]))) I9 rfl (.cons r9 .nil) ⟨acc,xs,v,Z,Z,hxs,Sj,Z,Z⟩) λz s10 ⟨zv,zA,Ab,r10,ez,eH⟩=>?_
    subst eH
    refine⟨m',hm,i+1,σ8,_,Ab.oO,T.keep _ _ _ xY λb hb o e=>(Ab.pin (b,o) (gG _ (gG _ (iz hb e)))).1,λb hb=>?_,w9⟩
    obtain⟨o,e,d⟩:=T.obj _ _ xY b hb
    exact(Ab.pin (b,o) (gG _ (gG _ (iz hb e)))).2.1
 exact codeAny_compStart_list loop (T.self _ 0 _ _ _ GB loop)
end
variable {H':Hp}
theorem aR.dI{p:Addr}(e:aR H H')(h:H p=none)(o:HO):aR H (upd H' p o):=λb u q=>by rw[ay (aD q h)];exact e b u q
theorem Sk{p:Addr}{q:Rat}(h:H p=some (tQ q)):Dt K H (.ref p) (.tuple [.int q.num,.int (q.den:Int)]):=.tup (dG.of h) (.cons (.int _) (.cons (.int _) .nil))
section
variable {X:Cx}
theorem U7(hc:X.calm=true):i_ X (.builtin "sum") (λxs H Q=>∃(a:Addr)(ns:List Int),xs=[.ref a]/\aJ X.K H a (ns.map V.int)/\Q (.int ns.sum) H):=by
 intro pins s σ H xs us Q I r h;obtain⟨a,ns,rfl,hS,q⟩:=h;obtain⟨u,rfl,ru⟩:=vals1 r;cases ru;obtain⟨its,rv,p,hz⟩:=I.list hS;have hi:=intsAre_of rv;have hl:=p.isList;obtain⟨o,ho,_⟩:=id hl;have hne:a≠s.heap.objs.size:=d8 (bU ho);have W:=(Walks.list (prog:=X.prog) (w:=X.w) (A:=X.A.in1) (I.ok.hd hc) s.heap.objs.size a hne its.toArray).toS;have Dp:its.length=ns.length:=by rw[<-rv.length,aH]
 refine call_sum_walkAnyS (Qp hl ?_);refine⟨s.heap.objs.size,_,_,_,_,_,_,λi=>ns.getD i 0,Z,W,⟨⟨_,eT _ rfl,Z,Z⟩,hl.at λo e=>b9 _ e⟩,λb hb=>?_,λi v hP=>?_,λs' t' hm=>?_⟩
 .rcases cK.mp hb with rfl|hb
  .exact bU (eT _ rfl)
  .obtain rfl:=eX.mp hb;exact bU (b9 _ ho)
 .have Sl:its[i]?=some v:=by simpa using hP
  have hil:i<ns.length:=by have:=(dY.mp Sl).1;omega
  obtain⟨u,hu,ru⟩:=rv.get (i:=i) (x:=V.int ns[i]) (by rw[cN,bM hil];rfl);rw[Sl]at hu;cases hu;obtain⟨t,e⟩:=ru;refine⟨t,?_⟩;rw[e];show Value.int ns[i] t=Value.int (ns.getD i 0) t;rw[lu,bM hil];rfl
 .obtain ⟨h',g',d',tk',os'⟩:=s';have e1:g'=s.gens:=hm.gens;have e2:d'=s.drawn:=hm.drawn;have e3:os'=s.os:=hm.os;subst e1 e2 e3;have hsz:its.toArray.size=ns.length:=by rw[iE,Dp]
  rw[hsz,preSum_getD,JC (aO _)];exact⟨.int ns.sum,H,I.kept (h':=h') (t':=tk') λb o e=>hm.heap b o (λhb=>absurd (bU e) ((eX.mp hb)▸i7 _)) (b9 _ e),⟨t',Z⟩,q⟩
theorem U8(hc:X.calm=true):i_ X (.builtin "all") (λxs H Q=>∃(a:Addr)(bs:List Bool),xs=[.ref a]/\aJ X.K H a (bs.map V.bl)/\Q (.bl (bs.all id)) H):=by
 intro pins s σ H xs us Q I r h;obtain⟨a,bs,rfl,hS,q⟩:=h;obtain⟨u,rfl,ru⟩:=vals1 r;cases ru;obtain⟨its,rv,p,hz⟩:=I.list hS;have hl:=p.isList;obtain⟨o,ho,_⟩:=id hl;have hne:a≠s.heap.objs.size:=d8 (bU ho);have Dp:its.length=bs.length:=by rw[<-rv.length,aH]
 refine call_all_walk (Qp hl ?_);refine⟨s.heap.objs.size,_,_,_,_,_,λi=>bs.getD i false,Z,Walks.list (prog:=X.prog) (w:=X.w) (A:=X.A.in1) (I.ok.hd hc) s.heap.objs.size a hne its.toArray,⟨⟨_,eT _ rfl,Z,Z⟩,hl.at λo e=>b9 _ e⟩,λi v s' Q' E' hP hQ=>?_,λh' tk hk=>?_⟩
 .have Sl:its[i]?=some v:=by simpa using hP
  have hil:i<bs.length:=by have:=(dY.mp Sl).1;omega
  obtain⟨u,hu,ru⟩:=rv.get (i:=i) (x:=V.bl bs[i]) (by rw[cN,bM hil];rfl);rw[Sl]at hu;cases hu;have e:v=Value.bool bs[i] :=ru;subst e;refine EJ ?_;have hQ2:Q' (bs.getD i false) s':=hQ;rw[lu,bM hil]at hQ2;exact hQ2
 .have hsz:its.toArray.size=bs.length:=by rw[iE,Dp]
  have e:(List.range its.toArray.size).all (λi=>bs.getD i false)=bs.all id:=by
   rw[hsz,AX,pM,pM];refine⟨λz x hx=>?_,λz i hi=>?_⟩
   .obtain ⟨i,hi,e⟩:=List.mem_iff_getElem.mp hx;have:=z i (yr.mpr hi);rw[lu,bM hi]at this;rw[<-e];exact this
   .have hi':=yr.mp hi;rw[lu,bM hi'];exact z _ (Jg hi')
  rw[e];exact⟨.bl (bs.all id),H,I.kept (h':=h') (t':=tk) λb o e=>hk b o (λhb=>absurd (bU e) ((eX.mp hb)▸i7 _)) (b9 _ e),Z,q⟩
end
section
variable {X:Cx}(K:Fg)
theorem bq(hK:X.K=K:=by rfl):zu X (QI K):=hK▸RY
theorem d7(hK:X.K=K:=by rfl):zu X (QH K):=hK▸OG
theorem X8(hu:X.A.units+64<cLine)(hK:X.K=K:=by rfl):jz X (compareOp .Eq) (Z6 K):=hK▸Z7 hu
theorem X_(hu:X.A.units+64<cLine)(hK:X.K=K:=by rfl):jz X (compareOp .NotEq) (U5 K):=hK▸Z8 hu
theorem Ac(hc:X.calm=true)(hK:X.K=K:=by rfl):i_ X (.builtin "sum") (λxs H Q=>∃(a:Addr)(ns:List Int),xs=[.ref a]/\aJ K H a (ns.map V.int)/\Q (.int ns.sum) H):=hK▸U7 hc
theorem Sm(hc:X.calm=true)(hK:X.K=K:=by rfl):i_ X (.builtin "all") (λxs H Q=>∃(a:Addr)(bs:List Bool),xs=[.ref a]/\aJ K H a (bs.map V.bl)/\Q (.bl (bs.all id)) H):=hK▸U8 hc
theorem dJ(hK:X.K=K:=by rfl):i_ X (.builtin "len") (λxs H Q=>∃p ys,xs=[.ref p]/\(aJ K H p ys\/dG K H p ys)/\Q (.int ys.length) H):=hK▸J1
theorem jC(hK:X.K=K:=by rfl):i_ X (.type "list") (λxs H Q=>∃p ys,xs=[.ref p]/\(aJ K H p ys\/dG K H p ys)/\∀l,H l=none->Q (.ref l) (upd H l (.lst ys))):=hK▸J4
end
inductive lT(H:Hp):List V->List Rat->Prop
 | nil:lT H [] []
 | cons {r:Addr} {q:Rat} {vs:List V} {qs:List Rat}:H r=some (tQ q)->lT H vs qs->lT H (.ref r::vs) (q::qs)
variable {vs:List V}
theorem lT.mono{qs:List Rat}(h:lT H vs qs)(g:aR H H'):lT H' vs qs:=by
 induction h with
 | nil=>exact .nil
 | cons e _ ih=>exact .cons (g _ _ e) ih
variable {xs ys:List V}
theorem lT.Yb{qs:List Rat}(h:lT H vs qs)(ha:H a=some (.lst xs)):lT (upd H a (.lst ys)) vs qs:=by
 induction h with
 | nil=>exact .nil
 | cons e _ ih=>exact .cons (by rw[ay (i8 e ha (by intro z;cases z))];exact e) ih
theorem lT.snoc{qs:List Rat}{r:Addr}{q:Rat}(h:lT H vs qs)(e:H r=some (tQ q)):lT H (vs++[.ref r]) (qs++[q]):=by
 induction h with
 | nil=>exact .cons e .nil
 | cons e2 _ ih=>exact .cons e2 ih
def aac(q:Rat):PyData:=.tuple [.int q.num,.int (q.den:Int)]
theorem lT.dt{qs:List Rat}(h:lT H vs qs):uw K H vs (qs.map aac):=by
 induction h with
 | nil=>exact .nil
 | cons e _ ih=>exact .cons (Sk e) ih
theorem Nb{l1 l2:Nat}(h1:l1<n)(h2:l2<n):ZipApart (n+4) (n+2) (n+3) n (n+1) l1 l2:=by
 have nn:∀i j:Nat,i≠j->n+i≠n+j:=λi j h e=>h (Nat.add_left_cancel e);have ne:∀(c k:Nat),c<n->c≠n+k:=λc k h=>by omega
 exact⟨nn 2 4 (by decide),nn 3 4 (by decide),nn 0 4 (by decide),nn 1 4 (by decide),nn 2 3 (by decide),nn 2 0 (by decide),nn 2 1 (by decide),nn 3 0 (by decide),nn 3 1 (by decide),nn 0 1 (by decide),ne _ 4 h1,ne _ 3 h1,ne _ 0 h1,ne _ 1 h1,ne _ 4 h2,ne _ 3 h2,ne _ 0 h2,ne _ 1 h2⟩
section
variable {X:Cx}{elts:List Expr}{kk:Nat}{tpos:Pos}
end
inductive adk(K:Fg)(vs:List V)(H:Hp)(Q:VK)(E:XK):Prop
 |mk(a:Addr)(ns:List Int)(k j:Int)(_:vs=[.ref a,.int k,.int j])(_:aJ K H a (ns.map V.int))(_:ns.length<=63)(_:0<=k)(_:0<=j)(_:j<2 ^ 61)(_:∀(m:Int) (H':Hp),1<=m->m<=1000000000->aR H H'->Q (.int m) H')
def Dq(K:Fg):Sp:=bx (adk K)
theorem Kc{Q:VK}{E:XK}{k j:Int}(hS:aJ K H a (ns.map V.int))(h63:ns.length<=63)(h1:0<=k)(h2:0<=j)(h3:j<2 ^ 61)(h:∀(m:Int) (H':Hp),1<=m->m<=1000000000->aR H H'->Q (.int m) H'):Dq K [.ref a,.int k,.int j] H Q E:=⟨a,ns,k,j,Z,hS,h63,h1,h2,h3,h⟩
section
variable {X:Cx}
inductive adl(Q:VK)(vs:List V)(H1:Hp):Prop
 |mk(j:Int)(_:vs=[.int j])(_:∀p,H1 p=none->Q (.ref p) (upd H1 p (.xQ 0 j)))
def agV(ta:TA):TE:=λσ H Q=>ta σ H (adl Q)
def upTo(n:Nat):List Int:=(List.range n).map λi=>((i:Nat):Int)
theorem HL(hc:X.calm=true):i_ X (.type "list") (λxs H Q=>∃(r:Addr)(n:Nat),xs=[.ref r]/\H r=some (.xQ 0 (n:Int))/\n<=1000/\∀l,H l=none->Q (.ref l) (upd H l (.lst ((upTo n).map V.int)))):=by
 intro pins s σ H xs us Q I r h;obtain⟨a,n,rfl,hr,hn,q⟩:=h;obtain⟨u,rfl,ru⟩:=vals1 r;cases ru;obtain⟨t,t2,t3,e⟩:=(show fP X.prog X.w H s.heap a (.xQ 0 (n:Int))from I.hok a _ hr)
 refine call_list_range (n:=n) (I.ok.hd hc) e (small_one (by decide) (by decide) (by omega) (by omega)) (by rw[rangeSize_one];split <;> omega) (by omega) λh' tk acc' c' hk hS hI=>?_;obtain⟨hsz,hit⟩:=hI;have hv:Vals ((upTo n).map V.int) acc'.toList:=by
  have gen:∀(m:Nat)(us:List Value)(k:Nat),us.length=m->(∀(j:Nat)(v:Value),us[j]?=some v->∃t,v =.int ((0:Int)+((k+j:Nat):Int)*1) t)->Vals (((List.range' k m).map λi=>((i:Nat):Int)).map V.int) us:=by
   intro m
   induction m with
   | zero=>intro us k hl _;rw[List.length_eq_zero_iff.mp hl];exact .nil
   | succ m ih=>
    intro us k hl hu;cases us with
    | nil=>cases hl
    | cons v r=>
     obtain⟨t,e⟩:=hu 0 v rfl;refine .cons ⟨t,?_⟩ (ih r (k+1) (by simpa using hl) λj v' hj=>?_)
     .rw [e];show Value.int _ t=Value.int ((k:Nat):Int) t;congr 1;omega
     .obtain ⟨t,e⟩:=hu (j+1) v' (by simpa using hj);exact⟨t,by rw[e];congr 1;omega⟩
  have:=gen n acc'.toList 0 (by simpa using hsz) λj v hj=>by obtain⟨t,e⟩:=hit j v (by simpa using hj);exact⟨t,by rw[e];congr 1;omega⟩
  unfold upTo;rw[List.range_eq_range'];exact this
 have hlen:((upTo n).map V.int).length<=sizeLine:=by unfold upTo;simp;exact small (by omega)
 exact⟨.ref s.heap.objs.size,_,I.laid (a:=s.heap.objs.size) (o:=.lst ((upTo n).map V.int)) (h':=h') (t':=tk) hk (aO _) ⟨hlen,acc'.toList,c',hv,by simpa using hS⟩,Z,q _ I.fresh⟩
inductive Yc(K:Fg)(Q:VK)(x:V)(y:V)(H2:Hp):Prop
 |mk(_:y =.int (-1))(a xs:_)(_:x =.ref a)(_:aJ K H2 a xs)(_:∀p,H2 p=none->Q (.ref p) (upd H2 p (.lst xs.reverse)))
def adm(K:Fg)(ts:TE)(σ:St)(Q:VK):V->Hp->Prop:=λx H1=>ts σ H1 (Yc K Q x)
def agW(K:Fg)(te ts:TE):TE:=λσ H Q=>te σ H (adm K ts σ Q)
end
theorem sum_set:∀(as:List Int)(j:Nat)(x:Int),j<as.length->(as.set j x).sum=as.sum-as.getD j 0+x
 | [],j,_,h=>absurd h (Nat.not_lt_zero _)
 | a::r,0,x,_=>by show(x::r).sum=(a::r).sum-a+x;rw[c_,c_];omega
 | a::r,j+1,x,h=>by show(a::r.set j x).sum=(a::r).sum-r.getD j 0+x;rw[c_,c_,sum_set r j x (by simpa using h)];omega
theorem U9(as:List Int)(j k:Nat)(x:Int)(h:j<as.length):(as.set j x).getD k 0=if k=j then x else as.getD k 0:=by
 rw[lu,List.getElem?_set];by_cases e:j=k
 .subst e;rw[aC rfl,aC h,aC rfl];rfl
 .rw [aB e,aB (bX e),<-lu]
theorem xZ{k:Nat}(h:k<n):De n (k:Int)=some k:=by unfold De;rw[aC (by omega),aC (by omega)];rfl
abbrev tx(cs:List Nat):Str:=⟨cs.toArray⟩
theorem Kd(x:Str):tx x.cps.toList=x:=by cases x;rfl
theorem Ad(cs:List Nat):(tx cs).length=cs.length:=by show cs.toArray.size=_;rw[iE]
theorem aad(a b:List Nat):(tx a++tx b:Str)=tx (a++b):=by show(⟨a.toArray++b.toArray⟩:Str)=_;simp[tx]
def WE(cs:List Nat):It:=⟨λi _=>i<cs.length,λi H v H'=>H'=H/\∃c,cs[i]?=some c/\v =.str (tx [c]),λi _=>cs.length<=i⟩
theorem QO{P:Program}{w:World}{K:Fg}{tg:Expr}(x:Str)(t:Tok)(it:Addr):Turn P w K tg (WE x.cps.toList) [it] it (λi h=>h.IsStrIter it "str_ascii_iterator" x t i) where
 mem:=by simp
 obj:=λi h st b hb=>by
  have e:b=it:=by simpa using hb
  subst e;obtain⟨o,e,c,d⟩:=st;exact⟨o,e,λv z=>by rw[d]at z;cases z⟩
 keep:=λi h h' st k=>let⟨o,ho,r⟩:=st;⟨o,k it (by simp) o ho,r⟩
 item:=by
  intro X hP hw hK hc i pins s σ H E I hf st hg;subst hP hw hK;have hi:i<x.cps.size:=by have hg':i<x.cps.toList.length:=hg;simpa using hg'
  obtain⟨f0,f1,f2,f3,f4,f5⟩:=hf it (by simp);refine wpAny_pyNext_ascii_item st (c:=x.cps[i]) (by simp[hi]) λh' st' sb=>?_;have I1:Inv X pins σ H { s with heap:=h',toks:=s.toks+1 }:=I.turned (t':=s.toks+1) (λb o hb e=>sb.extBut b o hb e) f0 f1 f3 f4 f5;obtain⟨o,e,c,d⟩:=id st';exact⟨_,Z,Bb (s:={ s with heap:=h',toks:=s.toks+1 }) e c d (by decide) ⟨.str (tx [x.cps[i]]),H,I1,⟨_,Z⟩,⟨Z,x.cps[i],by simp[hi],Z⟩,st',λb hb=>(hf b hb).1⟩⟩
 done:=by
  intro X hP hw hK hc i pins s σ H E I hf st hg;subst hP hw hK;have hi:x.cps.size<=i:=by have hg':x.cps.toList.length<=i:=hg;simpa using hg'
  obtain⟨f0,f1,f2,f3,f4,f5⟩:=hf it (by simp);exact wpAny_pyNext_ascii_end (I.ok.hd hc) st (by simp;omega) λh' eb=>⟨Z,I.turned (t':=s.toks) (λb o hb e=>eb b o hb e) f0 f1 f3 f4 f5⟩
 self:=λ_ _ _ _ _ st h=>wpAny_pyIter_striter_ascii st h
theorem Sn{P:Program}{w:World}{K:Fg}{tg:Expr}(x:Str)(t:Tok)(it:Addr):Turn P w K tg (WE x.cps.toList) [it] it (λi h=>h.IsStrIter it "str_iterator" x t i) where
 mem:=by simp
 obj:=λi h st b hb=>by
  have e:b=it:=by simpa using hb
  subst e;obtain⟨o,e,c,d⟩:=st;exact⟨o,e,λv z=>by rw[d]at z;cases z⟩
 keep:=λi h h' st k=>let⟨o,ho,r⟩:=st;⟨o,k it (by simp) o ho,r⟩
 item:=by
  intro X hP hw hK hc i pins s σ H E I hf st hg;subst hP hw hK;have hi:i<x.cps.size:=by have hg':i<x.cps.toList.length:=hg;simpa using hg'
  obtain⟨f0,f1,f2,f3,f4,f5⟩:=hf it (by simp);refine wpAny_pyNext_wide_item st (c:=x.cps[i]) (by simp[hi]) λh' st' sb=>?_;have I1:Inv X pins σ H { s with heap:=h',toks:=s.toks+1 }:=I.turned (t':=s.toks+1) (λb o hb e=>sb.extBut b o hb e) f0 f1 f3 f4 f5;obtain⟨o,e,c,d⟩:=id st';exact⟨_,Z,Bb (s:={ s with heap:=h',toks:=s.toks+1 }) e c d (by decide) ⟨.str (tx [x.cps[i]]),H,I1,⟨_,Z⟩,⟨Z,x.cps[i],by simp[hi],Z⟩,st',λb hb=>(hf b hb).1⟩⟩
 done:=by
  intro X hP hw hK hc i pins s σ H E I hf st hg;subst hP hw hK;have hi:x.cps.size<=i:=by have hg':x.cps.toList.length<=i:=hg;simpa using hg'
  obtain⟨f0,f1,f2,f3,f4,f5⟩:=hf it (by simp);exact wpAny_pyNext_wide_end (I.ok.hd hc) st (by simp;omega) λh' eb=>⟨Z,I.turned (t':=s.toks) (λb o hb e=>eb b o hb e) f0 f1 f3 f4 f5⟩
 self:=λ_ _ _ _ _ st h=>wpAny_pyIter_striter_wide st h
variable {acc:Addr}
section
variable {X:Cx}{tg:Expr}
inductive adn(R:It->Hp->Prop)(x:V)(H1:Hp):Prop
 |mk(cs:List Nat)(_:x =.str (tx cs))(_:R (WE cs:_) H1)
def aae(te:TE):TI:=λσ H R=>te σ H (adn R)
theorem aaf{l:Expr}{tl:TE}(hl:PE X l tl):PI X tg l (aae tl):=by
 intro pins s σ H R I h;refine bh (hl pins s σ H _ I h) λv s1 ⟨x,H1,I1,r1,q1⟩=>?_;obtain⟨cs,e,q⟩:=q1;subst e;obtain⟨t,rfl⟩:=r1;have fp:∀b∈[s1.heap.objs.size],mz X pins H1 b:=λb hb=>by
  have e:b=s1.heap.objs.size:=by simpa using hb
  subst e;exact I1.BZ (aO _) (I1.hok.fresh (aO _))
 have tw:=@Sn X.prog X.w X.K tg (tx cs) t s1.heap.objs.size;have ta:=@QO X.prog X.w X.K tg (tx cs) t s1.heap.objs.size;cases ha:(tx cs).cps.all (·<128)
 .exact wpAny_pyIter_wide ha ⟨s1.heap.objs.size,[s1.heap.objs.size],_,_,H1,Z,I1.kept (t':=s1.toks) λb o e=>b9 _ e,tw,⟨_,eT _ rfl,Z,Z⟩,fp,q⟩
 .exact wpAny_pyIter_ascii ha ⟨s1.heap.objs.size,[s1.heap.objs.size],_,_,H1,Z,I1.kept (t':=s1.toks) λb o e=>b9 _ e,ta,⟨_,eT _ rfl,Z,Z⟩,fp,q⟩
theorem U_{cs:List Nat}{k:Nat}{Q:VK}(Pv:Nat->List V->Hp->Prop)(hn:cs.length<=100000)(h0:Pv 0 [] (upd H acc (.lst [])))(hs:∀(i:Nat) (c:Nat) (out:List V) (H1:Hp),cs[i]?=some c->out.length=i->H1 acc=some (.lst out)->Pv i out H1->te (σ2.set k (some (.str (tx [c])))) H1 (yE Pv i acc out))(hd:∀(out:List V) (H1:Hp),out.length=cs.length->H1 acc=some (.lst out)->Pv cs.length out H1->Q (.ref acc) H1):
  Dl (WE cs) (rS k) te acc σ2 H Q:=by
 refine⟨λi m σ' H'=>m=cs.length-i/\i<=cs.length/\(∀v,σ'.set k (some v)=σ2.set k (some v))/\∃out,out.length=i/\H' acc=some (.lst out)/\Pv i out H',⟨cs.length,by simp,fM _,λ_=>rfl,[],Z,ai,h0⟩,?_⟩
 rintro i m σ' H' ⟨rfl,hi,hσ,out,ho,ha,p⟩
 by_cases hlt:i<cs.length
 . refine .inr ⟨hlt,λσ3=>∀v,σ3.set k (some v)=σ2.set k (some v),(yE Pv i acc out),λσ3 v H4 hS ⟨a,b⟩=>?_,λx H1 y=>?_⟩
   . refine⟨out,a,?_,cs.length-(i+1),by omega,Z,hlt,hS,out++[v],by rw[dD,ho];rfl,ai,b⟩
     have:sizeLine=16777216:=kP
     omega
   . obtain⟨e,c,hc,ex⟩:=y
     subst e ex
     refine⟨λv=>by rw[wm];exact hσ v,?_⟩
     have q2:=hs i c out _ hc ho ha p
     rw[<-hσ]at q2
     exact q2
 . have e:i=cs.length:=by omega
   subst e
   exact .inl ⟨aO _,hd out H' ho ha p⟩
end
def Dr(signs:Str)(c:Nat):Bool:=!(Builtin.Str.occurrences signs (tx [c]) 0 signs.length 1).isEmpty
def lX(c:Int)(n:Nat):List Nat:=(List.range n).map λi=>97+((c / 26 ^ i) % 26).toNat
theorem yF(c:Int)(n:Nat):(lX c n).length=n:=by unfold lX;rw[aH,List.length_range]
theorem Va(c:Int)(n:Nat):lX c (n+1)=lX c n++[97+((c / 26 ^ n) % 26).toNat] :=by unfold lX;rw[List.range_succ,bV];rfl
theorem So{k:Int}(h0:0<=k)(h1:k<26):sP (("abcdefghijklmnopqrstuvwxyz":Str).cps.toList) k=some (97+k.toNat):=by
 have h:∀n:Nat,n<26->("abcdefghijklmnopqrstuvwxyz":Str).cps.toList[n]?=some (97+n):=by decide +kernel
 have e:k=((k.toNat:Nat):Int):=by omega
 have:=aM (h k.toNat (by omega));rw[<-e]at this;exact this
structure EM(vs:List V)(H:Hp)(Q:VK)(E:XK):Prop where
 ex:∃(c:Int)(n:Nat),vs=[.int c,.int (n:Int)]/\0<=c/\n<=1000/\Q (.str (tx (lX c n))) H
theorem Ke{Q:VK}{E:XK}{c ni:Int}(e:ni=(n:Int))(hc:0<=c)(hn:n<=1000)(q:Q (.str (tx (lX c n))) H):EM [.int c,.int ni] H Q E:=by subst e;exact⟨c,n,Z,hc,hn,q⟩
inductive Yd(vs:List V)(H:Hp)(Q:VK)(E:XK):Prop
 |mk(cs:List Nat)(signs:Str)(_:vs=[.str (tx cs),.str signs])(_:cs.length<=100000)(_:∀H',aR H H'->Q (.bl (cs.all (Dr signs))) H')
def Ca:Sp:=bx (Yd)
theorem QS{H:Hp}{Q:VK}{E:XK}{cs:List Nat}{signs:Str}(hl:cs.length<=100000)(q:∀H',aR H H'->Q (.bl (cs.all (Dr signs))) H'):Ca [.str (tx cs),.str signs] H Q E:=⟨cs,signs,Z,hl,q⟩
def isName(cs:List Nat):Bool:=decide (1<=(cs.length:Int)) && decide ((cs.length:Int)<=8) && cs.all (Dr "abcdefghijklmnopqrstuvwxyz")
inductive Ye(vs:List V)(H:Hp)(Q:VK)(E:XK):Prop
 |mk(cs:List Nat)(_:vs=[.str (tx cs)])(_:cs.length<=100000)(_:∀H',aR H H'->Q (.bl (isName cs)) H')
def yG:Sp:=bx (Ye)
theorem Ds{Q:VK}{E:XK}{cs:List Nat}(hl:cs.length<=100000)(q:∀H',aR H H'->Q (.bl (isName cs)) H'):yG [.str (tx cs)] H Q E:=⟨cs,Z,hl,q⟩
theorem Du{p q:Prop}(h:if true=true then p else q):p:=by rwa [aC rfl]at h
theorem Dv{p q:Prop}(h:if false=true then p else q):q:=by rwa [aB iD]at h
variable {cond:Expr}
section
variable {prog:Program}{w:World}{A:Around}{R:Result->Shared->Prop}{s:Shared}
theorem HM{it acc:Value}(J:Nat->Shared->Prop)(turn:∀n s,J n s->wpAny (model prog w) A (pyNext it) (λr s₁=>match r with
    | none=>R (.ok .next) s₁
    | some v=>wpAny (model prog w) A (letOwnedTupleGo target it v) (λ_ s₂=>wpAny (model prog w) A (assign target env v) (λ_ s₃=>wpAny (model prog w) A (isTrue cond env (eval cond env)) (λok s₃'=>if ok=true then
       wpAny (model prog w) A (eval elt env) (λx s₄=>wpAny (model prog w) A (call (.builtin "list.append") [acc,x]) (λ_ s₅=>∃m,m<n/\J m s₅) (λ_ _=>False) s₄) (λ_ _=>False) s₃'
       else ∃m,m<n/\J m s₃') (λ_ _=>False) s₃) (λ_ _=>False) s₂) (λ_ _=>False) s₁) (λ_ _=>False) s)(n:Nat)(h:J n s):codeAny (model prog w) A (.compLoop (.ListComp elt [⟨target,iter,[cond],0⟩] scope pos) 0 it acc env) R s:=by
 refine codeAny_loop rfl J (λn s hI=>?_) n h
 show wpAny _ A ((compTurn (.ListComp elt [⟨target,iter,[cond],0⟩] scope pos) 0 it acc env).onRaise (λx=>do noteFrame x env;theTreesLotGoes x)) _ _ s
 refine wpAny_noted ?_
 rw[compTurn_list]
 refine az (yu (az (gH (turn n s hI) (λr s₁ h₁=>?_) λ_ _ h'=>h'.elim)))
 cases r with
 | none=>exact aT h₁
 | some v=>
   refine az (gH h₁ (λ_ s₂ h₂=>az (gH h₂ (λ_ s₃ h₃=>?_) λ_ _ h'=>h'.elim)) λ_ _ h'=>h'.elim)
   refine az (wpAny_tests_one (gH h₃ (λok s₃' h₃'=>?_) λ_ _ h'=>h'.elim))
   cases ok with
   | false=>exact aT ⟨Z,Dv h₃'⟩
   | true=>exact az (az (gH (Du h₃') (λx s₄ h₄=>az (gH h₄ (λ_ s₅ h₅=>aT (aT ⟨Z,h₅⟩)) λ_ _ h'=>h'.elim)) λ_ _ h'=>h'.elim))
end
variable {tc:TT}{wi:TI}
section
variable {X:Cx}
def Dw(J:It)(g:TG)(tc:TT)(te:TE)(acc:Addr)(σ₀:St)(H:Hp)(Q:VK):Prop:=∃W:Nat->Nat->St->Hp->Prop,(∃m,W 0 m σ₀ (upd H acc (.lst [])))/\∀i m σ2 H2,W i m σ2 H2->(J.stop i H2/\Q (.ref acc) H2)\/(J.go i H2/\∃(S:St->Prop)(N:V->Hp->Prop)(N0:Hp->Prop),(∀σ3 v H4,S σ3->N v H4->∃xs,H4 acc=some (.lst xs)/\xs.length<sizeLine/\∃m',m'<m/\W (i+1) m' σ3 (upd H4 acc (.lst (xs++[v]))))/\(∀σ3 H4,S σ3->N0 H4->∃m',m'<m/\W (i+1) m' σ3 H4)/\∀x H',J.zV i H2 x H'->g x σ2 H' λσ3 H3=>S σ3/\tc σ3 H3 λb H4=>if b=true then te σ3 H4 N else N0 H4)
def Yg(ix:List (Option Nat))(g:TG)(tc:TT)(te:TE)(σ:St)(Q:VK):It->Hp->Prop:=λJ H1=>∀acc,H1 acc=none->Dw J g tc te acc (pick ix σ) H1 Q
def Ss(wi:TI)(ix:List (Option Nat))(g:TG)(tc:TT)(te:TE):TE:=λσ H Q=>wi σ H (Yg ix g tc te σ Q)
theorem Nc{ix:List (Option Nat)}{g:TG}{Q:VK}{RR:Value->Addr->Result->Shared->Prop}(hc:X.calm=true)(hg:∀cl s₂ H₂ fp,PG (cQ X N2 scope cl s₂ H₂ fp) tg g)(he:∀cl s₂ H₂ fp,PE (cQ X N2 scope cl s₂ H₂ fp) elt te)(ht:∀cl s₂ H₂ fp,PT (cQ X N2 scope cl s₂ H₂ fp) cond tc)(hk:scope.kind =.function)(hn:nQ X.N X.env.scope.names scope.names N2 ix=true)(B_:∀y c,(y,c)∈cl->X.env.cells.lookup y=some c)(Aa:∀y,(y,NameKind.free)∈scope.names->∃c,(y,c)∈cl){it:Addr}{fp:List Addr}{tn:Nat->Heap->Prop}{J:It}(I:Inv X pins σ H s)(T:Turn X.prog X.w X.K tg J fp it tn)(st:tn 0 s.heap)(f:∀b∈fp,mz X pins H b)(h:∀acc,H acc=none->Dw J g tc te acc (ix.map λo=>o.bind λj=>(σ[j]?).join) H Q)(hR:∀acc C H' s' m,Inv X pins σ H' s'->s'.heap.Ns C m->H' C=none->C≠X.env.locals->X.s₀.heap.objs.size<=C->(∀x c,X.env.cells.lookup x=some c->c≠C)->(∀p∈X.pn++pins,p.1≠C)->Q (.ref acc) H'->RR (.ref acc) C (.ok .next) s'):
  wpAny (model X.prog X.w) X.A (newList []) (λacc s₃=>wpAny (model X.prog X.w) X.A (newFunctionEnv scope X.env.globals cl [] X.env.qual none .none (some X.env)) (λcenv s₄=>
   codeAny (model X.prog X.w) X.A (.compStart (.ListComp elt [⟨tg,iter,[cond],0⟩] scope pos) 0 (.ref it) acc { cenv with scope:=relabel scope X.env }) (RR acc cenv.locals) s₄) E s₃) E s:=by
 obtain⟨k1,k2,k3,k4,k5⟩:=kT hn
 refine xq ?_
 have I3:Inv X pins σ (upd H s.heap.objs.size (.lst [])) { s with heap:=s.heap.push { cls:=.type "list",data:=.seq ([] :List Value).toArray } }:=
  I.laid (a:=s.heap.objs.size) (o:=.lst []) (t':=s.toks) (λ_ _ q=>b9 _ q) (aO _) ⟨fM _,[],_,.nil,eT _ rfl⟩
 obtain⟨W,⟨m0,w0⟩,turn⟩:=h s.heap.objs.size I.fresh
 have fo:∀b∈fp,b<s.heap.objs.size:=λb hb=>by obtain⟨o,e,_⟩:=T.obj 0 _ st b hb;exact bU e
 have st3:tn 0 (s.heap.push { cls:=.type "list",data:=.seq ([] :List Value).toArray }):=T.keep _ _ _ st λb _ o e=>b9 _ e
 have f3:∀b∈fp,mz X pins (upd H s.heap.objs.size (.lst [])) b:=λb hb=>⟨by rw[ay (d8 (fo b hb))];exact(f b hb).1,(f b hb).2⟩
 have GA:∀b∈fp,b<(s.heap.push { cls:=.type "list",data:=.seq ([] :List Value).toArray }).objs.size:=λb hb=>by rw[kO];exact JK (fo b hb)
 generalize Se:({ s with heap:=s.heap.push { cls:=.type "list",data:=.seq ([] :List Value).toArray } }:Shared)=s3 at *
 have Sf:s3.heap=s.heap.push { cls:=.type "list",data:=.seq ([] :List Value).toArray }:=by rw[<-Se]
 rw[<-Sf]at st3 GA
 generalize s.heap.objs.size=acc at *
 generalize eH3:upd H acc (.lst [])=H3 at *
 have IY:=yD (N2:=N2) (scope:=scope) (cl:=cl) (fp:=fp) (σ2:=ix.map λo=>o.bind λj=>(σ[j]?).join) I3 hk B_ Aa f3 GA (by rw[aH];exact k1) (λi x v e1 e2=>by
  rw[cN]at e2;cases ei:ix[i]? with
  | none=>rw[ei]at e2;cases e2
  | some o=>
   rw[ei]at e2;cases o with
   | none=>cases e2
   | some j=>
    obtain⟨a1,a2,a3⟩:=k2 i x j e1 ei;refine⟨a2,a3,j,a1,?_⟩;have e3:(σ[j]?).join=some v:=fE e2;cases ej:σ[j]? with
    | none=>rw[ej]at e3;cases e3
    | some z=>rw[ej]at e3;exact ff some e3) k5
 have ne:wpAny (model X.prog X.w) X.A (newFunctionEnv scope X.env.globals cl [] X.env.qual none .none (some X.env)) (λcenv s₄=>
   cenv={ scope:=scope,locals:=s3.heap.objs.size,globals:=X.env.globals,cells:=cellsFrom (s3.heap.objs.size+1) scope.names cl,qual:=X.env.qual,func:=none,code:=X.env.code,frame:=X.env.frame,builtins:=X.env.builtins }/\
   s₄={ s3 with heap:=pushCells (s3.heap.push { cls:=.type "dict",data:=.dict #[] }) scope.names }) E s3:=by
  simp only[newFunctionEnv,Ql,m7]
  refine az (wpAny_alloc ?_)
  refine az (wpAny_layCells _ (λname kind cells=>by cases hkc:kind==NameKind.cell <;> simp[hkc]) _ _ _ _ ?_)
  rw[yt]
  refine az (aT (aT ⟨?_,Z⟩))
  rw[show({ s3 with heap:=s3.heap.push { cls:=.type "dict",data:=.dict #[] } }:Shared).heap.objs.size=s3.heap.objs.size+1 from kO ..]
 refine bh ne λcenv s4 ⟨e1,e2⟩=>?_
 subst e1 e2
 have GB:tn 0 (pushCells (s3.heap.push { cls:=.type "dict",data:=.dict #[] }) scope.names):=T.keep _ _ _ st3 λb _ o e=>CV _ _ b o (b9 _ e)
 have xX:s3.heap.objs.size≠X.env.locals:=wg I3.lt
 have oQ:∀{H':Hp},(∀b∈fp,H' b=none)->∀b∈fp,mz (cQ X N2 scope cl s3 H3 fp) [] H' b:=λ{H'} hn b hb=>
  ⟨hn b hb,(IY.ok.Gk b hb).1,IY.ok.BX b hb,.inl hb,(IY.ok.Gk b hb).2,λp hp=>nomatch hp⟩
 have loop:codeAny (model X.prog X.w) X.A (.compLoop (.ListComp elt [⟨tg,iter,[cond],0⟩] scope pos) 0 (.ref it) (.ref acc) (cQ X N2 scope cl s3 H3 fp).env) (RR (.ref acc) s3.heap.objs.size)
   { s3 with heap:=pushCells (s3.heap.push { cls:=.type "dict",data:=.dict #[] }) scope.names }:=by
  refine HM (λn s'=>∃i σ' H',Inv (cQ X N2 scope cl s3 H3 fp) [] σ' H' s'/\tn i s'.heap/\(∀b∈fp,H' b=none)/\W i n σ' H') ?_ m0 ⟨0,_,H3,IY,GB,λb hb=>(f3 b hb).1,w0⟩
  rintro n s5 ⟨i,σ5,H5,I5,zz,BF,w5⟩
  rcases turn i n σ5 H5 w5 with⟨stop,qn⟩|⟨go,S,N,N0,Sg,hS0,step⟩
  . refine bh (T.done (cQ X N2 scope cl s3 H3 fp) rfl rfl rfl hc i [] s5 σ5 H5 (λ_ _=>False) I5 (oQ BF) zz stop) λr s6 ⟨hr,I6⟩=>?_
    subst hr
    obtain⟨m6,Sh,_⟩:=id I6.loc
    have IX:Inv X pins σ H5 s6:=I3.Qx (ch:=fp) I6.os I6.base I6.hok I6.bare λb hb=>⟨(f3 b hb).2.2.2.1,(f3 b hb).2.1,(f3 b hb).2.2.2.2.1,(f3 b hb).2.2.2.2.2⟩
    refine hR acc s3.heap.objs.size H5 s6 m6 IX Sh I6.free xX I3.sz (λx c e z=>?_) (λp hp z=>?_) qn
    . obtain⟨v,q⟩:=I3.cell x c e
      exact absurd q.lt (by rw[z];exact i7 _)
    . exact absurd (bU (I3.pin p hp).1) (by rw[z];exact i7 _)
  . refine bh (T.item (cQ X N2 scope cl s3 H3 fp) rfl rfl rfl hc i [] s5 σ5 H5 (λ_ _=>False) I5 (oQ BF) zz go) λr s6 ⟨u,hr,h6⟩=>?_
    subst hr
    refine bh h6 λ_ s7 ⟨x,H7,I7,r7,y7,xY,Ka⟩=>?_
    have Si:=I7.pinned (oQ Ka) (T.obj _ _ xY)
    refine bh (hg cl s3 H3 fp _ s7 σ5 H7 x u _ Si r7 (step x H7 y7)) λ_ s8 ⟨σ8,H8,I8,OL,q8⟩=>?_
    refine bh (ht cl s3 H3 fp _ s8 σ8 H8 _ I8 q8) λok s9' ⟨H9',WG,q9'⟩=>?_
    cases ok with
    | false=>
      obtain⟨m',hm,w9⟩:=hS0 σ8 H9' OL (Dv q9')
      refine ite_ff ⟨m',hm,i+1,σ8,_,WG.oO,T.keep _ _ _ xY λb hb o e=>(WG.pin (b,o) (gG _ (gG _ (iz hb e)))).1,λb hb=>?_,w9⟩
      obtain⟨o,e,d⟩:=T.obj _ _ xY b hb
      exact(WG.pin (b,o) (gG _ (gG _ (iz hb e)))).2.1
    | true=>
      refine ite_tt ?_
      refine bh (he cl s3 H3 fp _ s9' σ8 H9' _ WG (Du q9')) λy s9 ⟨v,H9,I9,r9,q9⟩=>?_
      obtain⟨xs,hxs,Sj,m',hm,w9⟩:=Sg σ8 v H9 OL q9
      refine bh (eU _ s9 σ8 H9 (.ref acc) [v] (.ref acc) [y] (λz zA=>z =.cW/\zA=upd H9 acc (.lst (xs++[v]))) I9 rfl (.cons r9 .nil) ⟨acc,xs,v,Z,Z,hxs,Sj,Z,Z⟩) λz s10 ⟨zv,zA,Ab,r10,ez,eH⟩=>?_
      subst eH
      refine⟨m',hm,i+1,σ8,_,Ab.oO,T.keep _ _ _ xY λb hb o e=>(Ab.pin (b,o) (gG _ (gG _ (iz hb e)))).1,λb hb=>?_,w9⟩
      obtain⟨o,e,d⟩:=T.obj _ _ xY b hb
      exact(Ab.pin (b,o) (gG _ (gG _ (iz hb e)))).2.1
 exact codeAny_compStart_list loop (T.self _ 0 _ _ _ GB loop)
theorem Vb(N2:List Str)(ix:List (Option Nat)){g:TG}(hc:X.calm=true)(hi:PI X tg iter wi)(hg:∀cl s₂ H₂ fp,PG (cQ X N2 scope cl s₂ H₂ fp) tg g)(he:∀cl s₂ H₂ fp,PE (cQ X N2 scope cl s₂ H₂ fp) elt te)(ht:∀cl s₂ H₂ fp,PT (cQ X N2 scope cl s₂ H₂ fp) cond tc)(hk:scope.kind =.function)(hn:nQ X.N X.env.scope.names scope.names N2 ix=true)(hs:∀x,foldedSetIterable iter X.env x=pure x:=by intro _;rfl):
  PE X (.ListComp elt [⟨tg,iter,[cond],0⟩] scope pos) (Ss wi ix g tc te):=by
 intro pins s σ H Q I h
 obtain⟨k1,k2,k3,k4,k5⟩:=kT hn
 obtain⟨cl,Kf,c1,c2⟩:=uF (scope:=scope) (env:=X.env) λy hy e=>I.ok.has y.1 (k3 y hy e)
 rw[eval_ListComp]
 refine P_ (use:=none) rfl hs Kf hk k4 (bh (hi pins s σ H _ I h) λv s1 h1=>bh h1 λitv s2 h2=>?_)
 obtain⟨it,fp,tn,J,H2,e,I2,T,st2,f2,h2⟩:=h2
 subst e
 refine Nc (RR:=λacc C=>compPost (model X.prog X.w) X.A X.xe none (EP X pins σ Q) acc C) (Q:=Q) hc hg he ht hk hn (λy c m=>(c1 y c m).1) c2 I2 T st2 f2 h2 ?_
 intro acc C H' s' m I' ns xX hL hsz sR yH q
 exact⟨m,ns,λh' hs'=>⟨.ref acc,H',I'.turned (it:=C) (t':=s'.toks) (λb o hb e=>(hs'.2 b hb).trans e) xX hL (.inr hsz) sR yH,Z,q⟩⟩
end
theorem uX{α:Type}[DecidableEq α] :∀{l m:List α},l.Nodup->(∀x∈l,x∈m)->l.length<=m.length
 | [],_,_,_=>fM _
 | x::r,m,h,hs=>by
  have hn:=fX.mp h;have hx:=hs x cU;have:=uX (l:=r) (m:=m.erase x) hn.2 λy hy=>by have hne:y≠x:=λe=>hn.1 (e▸hy);exact(List.mem_erase_of_ne hne).mpr (hs y (cA _ hy))
  rw[List.length_erase_of_mem hx]at this;have hp:0<m.length:=List.length_pos_of_mem hx;rw[kM];omega
variable {i:Nat}
theorem Su(c:Int)(h:i<n):(lX c n)[i]?=some (97+((c / 26 ^ i) % 26).toNat):=by unfold lX;rw[cN,List.getElem?_range h];rfl
theorem Yh{c c':Int}{d:Nat}(h:d<n)(e:lX c n=lX c' n):(c / 26 ^ d) % 26=(c' / 26 ^ d) % 26:=by have h1:=Su c h;rw[e,Su c' h]at h1;have h2:=fE h1;have a0:0<=(c / 26 ^ d) % 26:=pN _ (by decide);have b0:0<=(c' / 26 ^ d) % 26:=pN _ (by decide);omega
structure pU(x:List Nat):Prop where
 lo:1<=x.length
 hi:x.length<=8
 Yi:∀c∈x,97<=c/\c<123
theorem aah(c:Int)(h1:1<=n)(h2:n<=8):pU (lX c n):=by refine⟨by rw[yF];exact h1,by rw[yF];exact h2,λx hx=>?_⟩;obtain⟨i,_,rfl⟩:=a_.mp hx;have a0:0<=(c / 26 ^ i) % 26:=pN _ (by decide);have a1:(c / 26 ^ i) % 26<26:=zS _ (by decide);omega
def sS(nss:List (List Nat)):List V:=nss.map λx=>V.str (tx x)
theorem Vc(nss:List (List Nat)):(sS nss).all rV=true:=by unfold sS;rw[List.all_map,pM];exact λ_ _=>rfl
theorem Sv{a b:List Nat}(h:tx a=tx b):a=b:=by
 have:a.toArray=b.toArray:=by injection h
 simpa using this
theorem OM(x:List Nat)(nss:List (List Nat)):Gv (.str (tx x)) (sS nss)=decide (x∈nss):=by
 unfold Gv sS;rw[List.any_map,AX,List.any_eq_true,decide_eq_true_eq];constructor
 .rintro ⟨y,hy,e⟩;have e2:zx (.str (tx y)) (.str (tx x))=true:=e;have e3:tx y=tx x:=by unfold zx at e2;simpa using e2
  rw[<-Sv e3];exact hy
 .intro h;refine⟨x,h,?_⟩;show zx (.str (tx x)) (.str (tx x))=true;unfold zx;simp
open PySem.NumText
section
variable {X:Cx}
end
def QT(lo st:Int)(n:Nat):It:=⟨λi _=>i<n,λi H x H'=>H'=H/\x =.int (lo+i*st),λi _=>n<=i⟩
variable {P:Program}
theorem Nd{w:World}(it:Addr)(lo st:Int)(n:Nat):Turn P w K tg (QT lo st n) [it] it (λi h=>IsRangeIter h it (lo+(i:Nat)*st) ((n:Int)-(i:Nat)) st) where
 mem:=by simp
 obj:=λi h st b hb=>by
  have e:b=it:=by simpa using hb
  subst e;exact⟨_,st,λv z=>by have z':Data.fields _=Data.cell v:=z;cases z'⟩
 keep:=λi h h' st k=>k it (by simp) _ st
 item:=by intro X hP hw hK hc i pins s σ H E I hf st' hg;subst hP hw hK;obtain⟨f0,f1,f2,f3,f4,f5⟩:=hf it (by simp);have W:=Walks.range (prog:=X.prog) (w:=X.w) (I.ok.hd hc) it lo st n;refine W.item i s _ _ hg st' λv h' tk hv st2 kk=>?_;obtain⟨t,rfl⟩:=hv;have I1:Inv X pins σ H { s with heap:=h',toks:=tk }:=I.turned (λb o hb e=>kk b o (by simpa using hb) e) f0 f1 f3 f4 f5;exact⟨_,Z,Bb (s:={ s with heap:=h',toks:=tk }) (n:="range_iterator") st2 rfl rfl (by decide) ⟨.int (lo+i*st),H,I1,⟨t,Z⟩,⟨Z,Z⟩,st2,λb hb=>(hf b hb).1⟩⟩
 done:=by intro X hP hw hK hc i pins s σ H E I hf st' hg;subst hP hw hK;obtain⟨f0,f1,f2,f3,f4,f5⟩:=hf it (by simp);exact wpAny_pyNext_range_end (I.ok.hd hc) st' (by have:n<=i:=hg;omega) λh' eb=>⟨Z,I.turned (t':=s.toks) (λb o hb e=>eb b o hb e) f0 f1 f3 f4 f5⟩
 self:=λ_ _ _ _ _ st h=>wpAny_pyIter_rangeiter st h
variable {tb:TS}{D:Ends}
section
variable {X:Cx}{tg:Expr}
def qQ(lo hi st:Int):Nat:=(Builtin.Range.rangeSize lo hi st).toNat
inductive aai(R:It->Hp->Prop)(vs:List V)(H1:Hp):Prop
 |mk(i j k:Int)(_:vs=[.int i,.int j,.int k])(_:(0<=i/\i<=1000000/\0<=j/\j<=1000000/\0<k/\k<=1000000))(_:R (QT i k (qQ i j k)) H1)
def ado(ta:TA):TI:=λσ H R=>ta σ H (aai R)
theorem Nf{a b c:Int}(h1:0<=a)(h2:a<=1000000)(h3:0<=b)(h4:b<=1000000)(h5:0<c)(h6:c<=1000000):Builtin.Range.small a b c=true/\0<=Builtin.Range.rangeSize a b c:=by
 have hr:0<=Builtin.Range.rangeSize a b c/\Builtin.Range.rangeSize a b c<=1000001:=by
  unfold Builtin.Range.rangeSize;rw[aC (by omega)];split
  .have e0:0<=(b-a-1) / c:=Jk (by omega) (by omega);have e1:(b-a-1) / c<=b-a-1:=Int.ediv_le_self _ (by omega);omega
  .omega
 refine⟨?_,hr.1⟩;unfold Builtin.Range.small;simp only[Builtin.Range.rangeFitsLong,Bool.and_eq_true,Bool.or_eq_true,decide_eq_true_eq,uE,show c>0 from h5,m7];omega
theorem QU{lo st:Int}{g:TG}(Pv:Nat->St->Hp->Prop)(h0:Pv 0 σ H)(hs:∀i σ H,i<n->Pv i σ H->g (.int (lo+i*st)) σ H (tb (D.lp (Pv (i+1)))))(hd:∀σ H,Pv n σ H->D.nx σ H):
  C5 g tb D σ (QT lo st n) H:=by
 refine⟨λi m σ H=>m=n-i/\i<=n/\Pv i σ H,⟨n,by simp,fM _,h0⟩,?_⟩
 rintro i m σ H ⟨rfl,hi,p⟩
 by_cases hlt:i<n
 . refine .inr ⟨hlt,λσ' H'=>Pv (i+1) σ' H',λσ' H' q=>⟨n-(i+1),by omega,Z,hlt,q⟩,?_⟩
   rintro x H' ⟨rfl,rfl⟩
   exact hs i σ _ hlt p
 . have e:i=n:=by omega
   subst e
   exact .inl ⟨aO _,hd σ H p⟩
end
theorem Yj(signs:Str)(c:Nat):Dr signs c=decide (c∈signs.cps.toList):=PySem.StrLaws.found_one signs c
open Builtin Builtin.Str
section
variable {X:Cx}
end
theorem ON(c:Int)(j d:Nat):(c+(j:Int)*26 ^ d) / 26 ^ d=c / 26 ^ d+(j:Int):=by have hp:(26:Int) ^ d≠0:=Int.ne_of_gt (Int.pow_pos (by decide));rw[Int.add_mul_ediv_right _ _ hp]
variable {nss:List (List Nat)}{t:Nat}
theorem Sw{c:Int}{d:Nat}(h2:d<n)(ht:t<=26)(h:∀j:Nat,j<t->lX (c+(j:Int)*26 ^ d) n∈nss):t<=nss.length:=by
 have hn:((List.range t).map λj=>lX (c+((j:Nat):Int)*26 ^ d) n).Nodup:=by have:(List.range t).Pairwise (λa b=>a<b):=List.pairwise_lt_range;refine List.Pairwise.map _ ?_ (List.Pairwise.and_mem.mp this);rintro a b ⟨ha,hb,hab⟩ e;have ha':=yr.mp ha;have hb':=yr.mp hb;have:=Yh h2 e;rw[ON,ON]at this;omega
 have:=uX hn λx hx=>by obtain⟨j,hj,rfl⟩:=a_.mp hx;exact h j (yr.mp hj)
 rw[aH,List.length_range]at this;exact this
inductive aaj(K:Fg)(vs:List V)(H:Hp)(Q:VK)(E:XK):Prop
 |mk(a:Addr)(ms:List Int)(k:Int)(many:Nat)(_:vs=[.ref a,.int k,.int (many:Int)])(_:aJ K H a (ms.map V.int))(_:ms.length<=63)(_:0<=k)(_:many<=25)(_:∀(z:Addr) (nss:List (List Nat)) (H':Hp),aR H H'->H' z=some (.lst (sS nss))->H z=none->nss.length=many->nss.Nodup->(∀x∈nss,pU x)->Q (.ref z) H')
def EN(K:Fg):Sp:=bx (aaj K)
theorem GD{Q:VK}{E:XK}{ms:List Int}{k mi:Int}{many:Nat}(hmi:mi=(many:Int))(hS:aJ K H a (ms.map V.int))(h63:ms.length<=63)(h1:0<=k)(h2:many<=25)(h:∀(z:Addr) (nss:List (List Nat)) (H':Hp),aR H H'->H' z=some (.lst (sS nss))->H z=none->nss.length=many->nss.Nodup->(∀x∈nss,pU x)->Q (.ref z) H'):EN K [.ref a,.int k,.int mi] H Q E:=by
 subst hmi
 exact⟨a,ms,k,many,Z,hS,h63,h1,h2,h⟩
theorem x6{a:List (Key×V)}{b:List (Key×Value)}(r:KV a b):∀{j:Nat}{p:Key×V},a[j]?=some p->∃q,b[j]?=some q/\p.1=q.1/\RelV p.2 q.2:=by
 induction r with
 | nil=>intro j p z;simp at z
 | cons r1 _ ih=>
  intro j p z;cases j with
  | zero=>simp at z;subst z;exact⟨_,Z,r1⟩
  | succ j=>simp at z;obtain⟨q,a1,a2⟩:=ih z;exact⟨q,by simpa using a1,a2⟩
abbrev pF(H:Hp)(d:Addr)(o:Obj)(kvs:List (Key×V)):Prop:=H d=some (.fB o (.dK kvs))
section
variable {X:Cx}{pins:AO}{σ σ':St}{H H':Hp}{s s':Shared}{d:Addr}{kvs:List (Key×V)}{o:Obj}
theorem Inv.freeze(I:Inv X pins σ H s)(e:H d=some (.dK kvs))(ho:s.heap.get? d=some o):Inv X pins σ (upd H d (.fB o (.dK kvs))) s:=by
 have nd:∀{b:Addr},H b=none->b≠d:=λh z=>by rw[z,e]at h;cases h
 have dn:∀{b:Addr},H b=none->upd H d (.fB o (.dK kvs)) b=none:=λh=>by rw[ay (nd h)];exact h
 have un:∀{b:Addr}{u:HO},H b=some u->(∀k,u ≠ .dK k)->b≠d:=λh k z=>by rw[z,e]at h;cases h;exact k _ rfl
 refine⟨I.ok,I.os,I.bare,⟨I.base.keep,I.base.slot,λb ob q n x=>dn (I.base.free b ob q n x),I.base.there,λb xs q=>?_,λb ob u q=>?_,λb ps q=>?_⟩,I.loc,I.cell,dn I.free,λx c q=>dn (I.oh x c q),λp hp=>?_,λb ob q=>?_,I.len⟩
 .have:=I.base.tups b xs q;rw[ay (un this λk z=>by cases z)];exact this
 .have:=I.base.tM b ob u q;rw[ay (un this λk z=>by cases z)];exact this
 .obtain ⟨more,this⟩:=I.base.xr b ps q;exact⟨more,by rw[ay (un this λk z=>by cases z)];exact this⟩
 .obtain ⟨h1,h2,h3⟩:=I.pin p hp;exact⟨h1,dn h2,h3⟩
 .by_cases hb:b=d
  .subst hb;rw[ai]at q;cases q;have:=I.hok b _ e;exact⟨ho,this⟩
  .rw [ay hb]at q;refine(I.hok b ob q).stay (λc u _ z=>z) (λc z=>?_) λc xs z=>?_
   .rw [ay (un z λk z=>by cases z)];exact z
   .rw [ay (un z λk z=>by cases z)];exact z
theorem Inv.Cb(I:Inv X pins σ H s)(e:pF H d o kvs)(h0:∀o u,X.H₀ d≠some (.fB o u)):Inv X pins σ (upd H d (.dK kvs)) s:=by
 have nd:∀{b:Addr},H b=none->b≠d:=λh z=>by rw[z]at h;exact absurd (h.symm.trans e) (by simp)
 have dn:∀{b:Addr},H b=none->upd H d (.dK kvs) b=none:=λh=>by rw[ay (nd h)];exact h
 have un:∀{b:Addr}{u:HO},H b=some u->(∀o k,u ≠ .fB o k)->b≠d:=λh k z=>by rw[z]at h;have:=h.symm.trans e;cases this;exact k _ _ rfl
 refine⟨I.ok,I.os,I.bare,⟨I.base.keep,I.base.slot,λb ob q n x=>dn (I.base.free b ob q n x),I.base.there,λb xs q=>?_,λb ob u q=>?_,λb ps q=>?_⟩,I.loc,I.cell,dn I.free,λx c q=>dn (I.oh x c q),λp hp=>?_,λb ob q=>?_,I.len⟩
 .have:=I.base.tups b xs q;rw[ay (un this λ_ k z=>by cases z)];exact this
 .have:=I.base.tM b ob u q;rw[ay (λ(z:b=d)=>h0 ob u (by rw[<-z];exact q))];exact this
 .obtain ⟨more,this⟩:=I.base.xr b ps q;exact⟨more,by rw[ay (un this λ_ k z=>by cases z)];exact this⟩
 .obtain ⟨h1,h2,h3⟩:=I.pin p hp;exact⟨h1,dn h2,h3⟩
 .by_cases hb:b=d
  .subst hb;rw[ai]at q;cases q;exact(I.hok b _ e).2
  .rw [ay hb]at q;refine(I.hok b ob q).stay (λc u _ z=>z) (λc z=>?_) λc xs z=>?_
   .rw [ay (un z λ_ k z=>by cases z)];exact z
   .rw [ay (un z λ_ k z=>by cases z)];exact z
theorem Inv.Sx(I:Inv X pins σ H s)(e:H d=some (.dK kvs)):∀o u,X.H₀ d≠some (.fB o u):=λo u z=>by have:=I.base.tM d o u z;rw[e]at this;cases this
theorem Inv.rX(I:Inv X pins σ H s)(e:pF H d o kvs):s.heap.get? d=some o/\kvs.length<=sizeLine/\(d==sysModules)=false/\∃vs ep,KV kvs vs/\s.heap.DictAt (di X.prog X.w) d vs ep:=by
 obtain⟨ho,hz,hs,vs,r,dd⟩:=(show fP X.prog X.w H s.heap d (.fB o (.dK kvs))from I.hok d _ e)
 obtain⟨ep,da⟩:=dd.dictAt;exact⟨ho,hz,hs,vs,ep,r,da⟩
end
def Ends.Cb(D:Ends)(d:Addr)(o:Obj)(kvs:List (Key×V)):Ends where
 nx:=λσ H=>pF H d o kvs/\D.nx σ (upd H d (.dK kvs))
 rt:=λv H=>pF H d o kvs/\D.rt v (upd H d (.dK kvs))
 bk:=λσ H=>pF H d o kvs/\D.bk σ (upd H d (.dK kvs))
 ct:=λσ H=>pF H d o kvs/\D.ct σ (upd H d (.dK kvs))
inductive agX(t:TS)(D:Ends)(σ:St)(H:Hp):Prop
 |mk(d kvs:_)(_:H d=some (.dK kvs))(_:∀o,t (D.Cb d o kvs) σ (upd H d (.fB o (.dK kvs))))
def agY(t:TE):TE:=λσ H Q=>∃d kvs,H d=some (.dK kvs)/\∀o,t σ (upd H d (.fB o (.dK kvs))) λv H'=>pF H' d o kvs/\Q v (upd H' d (.dK kvs))
def Itv(d:Addr)(o:Obj)(kvs:List (Key×V)):It:=⟨λi H=>pF H d o kvs/\i<kvs.length,λi H x H'=>H'=H/\∃p,kvs[i]?=some p/\x=p.2,λi H=>pF H d o kvs/\kvs.length<=i⟩
def Iti(d:Addr)(o:Obj)(kvs:List (Key×V)):It:=⟨λi H=>pF H d o kvs/\i<kvs.length,λi H x H'=>∃a p,H a=none/\kvs[i]?=some p/\x =.ref a/\H'=upd H a (.tup [kV p.1,p.2]),λi H=>pF H d o kvs/\kvs.length<=i⟩
variable {h:Heap}{d:Addr}{es:Array DictEntry}
theorem Bf{w:World}{vs:List (Key×Value)}{e1 e2:Nat}{o:Obj}(da:h.DictAt (di P w) d vs e1)(ho:h.get? d=some o)(hd:o.data =.dict es e2):e1=e2:=by obtain⟨o',es',h1,_,h2,_⟩:=da;rw[ho]at h1;cases h1;rw[hd]at h2;cases h2;rfl
theorem Kg{w:World}{k:Key}{v:Value}(h:(di P w).is k v=true):RelV (kV k) v:=by
 rw[Qw]at h;rcases gF h with⟨i,t,rfl,rfl⟩|⟨x,t,rfl,rfl⟩
 .exact ⟨t,Z⟩
 .exact ⟨t,Z⟩
variable {it:Addr}{kvs:List (Key×V)}{ep:Nat}
theorem Sy{w:World}{o:Obj}(hd:o.data =.dict es ep):Turn P w K tg (Itv d o kvs) [it] it (λi h=>h.IsValIter it d i kvs.length ep) where
 mem:=by simp
 obj:=λi h st b hb=>by
  have e:b=it:=by simpa using hb
  subst e;obtain⟨o,e,c,d⟩:=st;exact⟨o,e,λv z=>by rw[d]at z;cases z⟩
 keep:=λi h h' st k=>st.at λo e=>k it (by simp) o e
 item:=by intro X hP hw hK hc i pins s σ H E I hf st hg;subst hP hw hK;obtain⟨hz,hlt⟩:=hg;obtain⟨ho,_,_,vs,xS,r,da⟩:=I.rX hz;cases Bf da ho hd;have hl:kvs.length=vs.length:=r.length;obtain⟨q,hq,_,rq⟩:=x6 r (bM hlt);obtain⟨qk,qv⟩:=q;rw[hl]at st;obtain⟨f0,f1,f2,f3,f4,f5⟩:=hf it (by simp);refine wpAny_pyNext_values_item st da hq λh' st' sb=>?_;have I1:Inv X pins σ H { s with heap:=h' }:=I.turned (t':=s.toks) (λb o hb e=>(sb.2 b hb).trans e) f0 f1 f3 f4 f5;obtain⟨oi,e,c,dd⟩:=id st';exact⟨_,Z,Bb (s:={ s with heap:=h' }) e c dd (by decide) ⟨kvs[i].2,H,I1,rq,⟨Z,kvs[i],bM hlt,Z⟩,by rw[hl];exact st',λb hb=>(hf b hb).1⟩⟩
 done:=by intro X hP hw hK hc i pins s σ H E I hf st hg;subst hP hw hK;obtain⟨hz,hle⟩:=hg;obtain⟨ho,_,_,vs,xS,r,da⟩:=I.rX hz;cases Bf da ho hd;have hl:kvs.length=vs.length:=r.length;rw[hl]at st;obtain⟨f0,f1,f2,f3,f4,f5⟩:=hf it (by simp);exact wpAny_pyNext_values_end (I.ok.hd hc) st da (by rw[BR];omega) λh' eb=>⟨Z,I.turned (t':=s.toks) (λb o hb e=>eb b o hb e) f0 f1 f3 f4 f5⟩
 self:=λ_ _ _ _ _ st h=>wpAny_pyIter_valiter st h
variable {elts:List Expr}
theorem QV{w:World}{kk:Nat}{o:Obj}(hd:o.data =.dict es ep):Turn P w K (.Tuple elts kk pos) (Iti d o kvs) [it] it (λi h=>∃ok ov,IsItemIter h it d i kvs.length ep ok ov) where
 mem:=by simp
 obj:=λi h st b hb=>by
  have e:b=it:=by simpa using hb
  subst e;obtain⟨ok,ov,e⟩:=st;exact⟨_,e,λv z=>by cases z⟩
 keep:=λi h h' ⟨ok,ov,st⟩ k=>⟨ok,ov,k it (by simp) _ st⟩
 item:=by
  intro X hP hw hK hc i pins s σ H E I hf st hg;subst hP hw hK;obtain⟨hz,hlt⟩:=hg;obtain⟨ok,ov,st⟩:=st;obtain⟨ho,_,_,vs,xS,r,da⟩:=I.rX hz;cases Bf da ho hd;have hl:kvs.length=vs.length:=r.length;obtain⟨q,hq,ek,rq⟩:=x6 r (bM hlt);obtain⟨qk,qv⟩:=q;rw[hl]at st;obtain⟨f0,f1,f2,f3,f4,f5⟩:=hf it (by simp);refine wpAny_pyNext_items_item st da hq λkey h1 hk st1 ht hsz hkeep=>?_;refine⟨_,Z,wpAny_letOwnedTupleGo_items (s:={ s with heap:=h1 }) st1 λh2 st2 sb=>?_⟩;have rk:RelV (kV kvs[i].1) key:=by rw[ek];exact Kg hk
  have hil:it≠s.heap.objs.size:=d8 (bU st);have wI:∀b o,b≠it->s.heap.get? b=some o->h2.get? b=some o:=λb o hb e=>sb.extBut b o hb (hkeep b o hb e);have I1:Inv X pins σ (upd H s.heap.objs.size (.tup [kV kvs[i].1,kvs[i].2])) { s with heap:=h2 }:=by
   have J:Inv X pins σ H { s with heap:=h2 }:=I.turned (t':=s.toks) wI f0 f1 f3 f4 f5;have hn:=I.fresh;have J2:Inv X pins σ (upd H s.heap.objs.size (.tup [kV kvs[i].1,kvs[i].2])) { s with heap:=h2,gens:=s.gens,drawn:=s.drawn,toks:=s.toks }:=by
    refine I.step (ch:=[it]) (λb hb=>⟨(hf b hb).2.2.2.1,(hf b hb).2.1,(hf b hb).2.2.2.2.1,(hf b hb).2.2.2.2.2⟩) (λb o _ _ hc' e _=>wI b o (by simpa using hc') e) (λb o _ _ hc' e _=>⟨o.slots,wI b o (by simpa using hc') e⟩) (λb o _ e n=>by rw[ay (d8 (bU e))];exact n) (λb o hc' e=>⟨o,wI b o (by simpa using hc') e⟩)
     (λb zs q=>by rw[ay (aD q hn)];exact q) (λb o zs q=>by rw[ay (aD q hn)];exact q) (λb ps q=>⟨#[],by rw[ay (aD q hn),q];simp⟩) (λm hm=>?_) (λb ob e=>?_) I.bare
    .obtain ⟨o,es,ep,ho,r⟩:=hm;exact⟨o,es,ep,wI _ o (λq=>f1 q.symm) ho,r⟩
    .by_cases hb:b=s.heap.objs.size
     .subst hb;rw[ai]at e;cases e;exact⟨by show 2<=sizeLine;decide,[key,qv],.cons rk (.cons rq .nil),_,sb.extBut _ _ hil.symm ht,Z,0,Z⟩
     .rw [ay hb]at e;refine(I.hok b ob e).stay (λc v SA q=>?_) (λc q=>by rw[ay (aD q hn)];exact q) λc zs q=>by rw[ay (aD q hn)];exact q
      refine wI c v (λz=>?_) q;rcases SA with r|r
      .rw [r]at z;rw[z,f0]at e;cases e
      .rw [z,f0]at r;cases r
   exact J2
  refine⟨.ref s.heap.objs.size,_,I1,Z,⟨_,kvs[i],I.fresh,bM hlt,Z,Z⟩,⟨key,qv,by rw[hl];exact st2⟩,λb hb=>?_⟩;have eb:b=it:=by simpa using hb
  subst eb;rw[ay hil];exact f0
 done:=by intro X hP hw hK hc i pins s σ H E I hf st hg;subst hP hw hK;obtain⟨hz,hle⟩:=hg;obtain⟨ok,ov,st⟩:=st;obtain⟨ho,_,_,vs,xS,r,da⟩:=I.rX hz;cases Bf da ho hd;have hl:kvs.length=vs.length:=r.length;rw[hl]at st;obtain⟨f0,f1,f2,f3,f4,f5⟩:=hf it (by simp);exact wpAny_pyNext_items_end (I.ok.hd hc) st da (by rw[BR];omega) λh' eb=>⟨Z,I.turned (t':=s.toks) (λb o hb e=>eb b o hb e) f0 f1 f3 f4 f5⟩
 self:=λA i s Q E ⟨ok,ov,st⟩ h=>PySem.W.kcp_self st h
section
variable {X:Cx}{tg:Expr}
inductive aak(R:It->Hp->Prop)(x:V)(H1:Hp):Prop
 |mk(d o kvs:_)(_:x =.ref d)(_:pF H1 d o kvs)(_:R (Itv d o kvs:_) H1)
def adp(td:TE):TI:=λσ H R=>td σ H (aak R)
inductive Yk(R:It->Hp->Prop)(x:V)(H1:Hp):Prop
 |mk(d o kvs:_)(_:x =.ref d)(_:pF H1 d o kvs)(_:R (Iti d o kvs:_) H1)
def aal(td:TE):TI:=λσ H R=>td σ H (Yk R)
end
variable {J:It}
theorem uY{g:TG}(Pv:Nat->St->Hp->Prop)(h0:Pv 0 σ H)(hgo:∀i σ H,i<n->Pv i σ H->J.go i H)(hst:∀σ H,Pv n σ H->J.stop n H)(hs:∀i x σ H H',i<n->Pv i σ H->J.zV i H x H'->g x σ H' (tb (D.lp (Pv (i+1)))))(hd:∀σ H,Pv n σ H->D.nx σ H):
  C5 g tb D σ (J) H:=by
 refine⟨λi m σ H=>m=n-i/\i<=n/\Pv i σ H,⟨n,by simp,fM _,h0⟩,?_⟩
 rintro i m σ H ⟨rfl,hi,p⟩
 by_cases hlt:i<n
 . exact .inr ⟨hgo i σ H hlt p,Pv (i+1),λσ' H' p'=>⟨n-(i+1),by omega,Z,hlt,p'⟩,λx H' y=>hs i x σ H H' hlt p y⟩
 . have e:i=n:=by omega
   subst e
   exact .inl ⟨hst σ H p,hd σ H p⟩
section
variable {prog:Program}{w:World}{K:Type}[DecidableEq K]{knd:KeyKind prog w K}{A:Around}{E:VS}{s:Shared}
theorem Ng{kvs:List (K×Value)}{k:K}{v:Value}{Q:VS}(hit:s.heap.IsKeyIter it d i kvs.length ep)(hm:s.heap.DictAt knd d kvs ep)(hx:kvs[i]?=some (k,v))(hQ:∀key h',knd.is k key=true->h'.IsKeyIter it d (i+1) kvs.length ep->Heap.SameBut it s.heap h'->Q key { s with heap:=h' }):
  wpAny (model prog w) A (Builtin.SmallTypes.nextOf (.ref it)) Q E s:=by
 obtain⟨o,ho,hc,hd⟩:=id hit;obtain⟨od,es,hod,hcd,Ae,hk,hp,hn⟩:=id hm
 unfold Builtin.SmallTypes.nextOf
 refine az (zO (name:=Str.ofString "__next__") hit.typeIs Wi (v9 Wi hit.typeIs F.entry_dict_keyiterator_next ?_ (F.args_dict_keyiterator_next_1 _)))
 refine az (aT ?_);refine az (az ?_)
 first|(refine az (Wg hit.typeIs (aT ?_));refine az (v_ ho hd ?_))|(refine az (Qa hit.typeIs (aT ?_));refine az (v_ ho hd ?_))
 have own:Builtin.Dict_items.ownsTuple "dict_keyiterator"=false:=by decide
 simp only[own,EF,m5]
 show wpAny _ _ (if(Value.ref d==Value.none)=true then _ else _) _ _ _
 rw[aB (λz=>iD z:¬ ((Value.ref d==Value.none)=true))];refine az (aT ?_)
 have sz:es.size=kvs.length:=by have:=hp.length;simpa using this
 refine az (Qt hod Ae ?_);rw[aB (by rw[sz];simp)]
 refine az (aT ?_);refine az (Jo hod Ae ?_)
 rw[aB (by simp)];refine aT ?_
 have lt:i<kvs.length:=(dY.mp hx).1
 have lt':i<es.size:=by omega
 have kv:=hp.get? (e:=es[i]) (by simp[lt']) hx
 simp only[show ¬ ((i:Int)<0)from by omega,m5,tL,Array.getElem?_eq_getElem lt'];refine az ?_
 first|(refine az (Wg hit.typeIs (aT ?_));refine az (wpAny_isOneOf_keyiter hit.typeIs ?_))|(refine az (Qa hit.typeIs (aT ?_));refine az (wpAny_isOneOf_keyiter hit.typeIs ?_))
 show wpAny _ _ (setField (.ref it) 1 (rawInt ((i:Int)+1)) >>= _) _ _ _
 refine az (AZ ho hd (by simp) ?_)
 have EO:(s.heap.update it (Obj.mapFields (·.setIfInBounds 1 (rawInt ((i:Int)+1))))).IsKeyIter it d (i+1) kvs.length ep:=⟨_,BQ _ ho (Obj.isFreed_of_fields (EG hd _)),(Obj.cls_mapFields ..).trans hc,by rw[EG hd];simp[rawInt]⟩
 refine az (wc (az (wpAny_isOneOf_keyiter (s:={ s with heap:=s.heap.update it (Obj.mapFields (·.setIfInBounds 1 (rawInt ((i:Int)+1)))) }) EO.typeIs ?_)))
 exact aT (aT ⟨_,Z,aT (hQ _ _ kv.1 EO (ED ..))⟩)
theorem QW{kvs:List (K×Value)}{Q:VS}(hh:A.handled=none)(hit:s.heap.IsKeyIter it d i kvs.length ep)(hm:s.heap.DictAt knd d kvs ep)(hx:kvs[i]?=none)(hE:∀h' e,Heap.ExtBut it s.heap h'->(∃o,h'.get? e=some o/\o.cls =.type "StopIteration")->E (.ref e) { s with heap:=h' }):
  wpAny (model prog w) A (Builtin.SmallTypes.nextOf (.ref it)) Q E s:=by
 obtain⟨o,ho,hc,hd⟩:=id hit;obtain⟨od,es,hod,hcd,Ae,hk,hp,hn⟩:=id hm
 unfold Builtin.SmallTypes.nextOf
 refine az (zO (name:=Str.ofString "__next__") hit.typeIs Wi (v9 Wi hit.typeIs F.entry_dict_keyiterator_next ?_ (F.args_dict_keyiterator_next_1 _)))
 refine az (aT ?_);refine az (az ?_)
 first|(refine az (Wg hit.typeIs (aT ?_));refine az (v_ ho hd ?_))|(refine az (Qa hit.typeIs (aT ?_));refine az (v_ ho hd ?_))
 have own:Builtin.Dict_items.ownsTuple "dict_keyiterator"=false:=by decide
 simp only[own,EF,m5]
 show wpAny _ _ (if(Value.ref d==Value.none)=true then _ else _) _ _ _
 rw[aB (λz=>iD z:¬ ((Value.ref d==Value.none)=true))];refine az (aT ?_)
 have sz:es.size=kvs.length:=by have:=hp.length;simpa using this
 refine az (Qt hod Ae ?_);rw[aB (by rw[sz];simp)]
 refine az (aT ?_);refine az (Jo hod Ae ?_)
 rw[aB (by simp)];refine aT ?_
 have ge:es.size<=i:=by rw[sz];simpa using hx
 simp only[show ¬ ((i:Int)<0)from by omega,m5,tL,Array.getElem?_eq_none ge];refine az ?_
 first|(refine az (Wg hit.typeIs (aT ?_));show wpAny _ _ (setField (.ref it) 0 .none >>= _) _ _ _)|(refine az (Qa hit.typeIs (aT ?_));show wpAny _ _ (setField (.ref it) 0 .none >>= _) _ _ _)
 refine az (AZ ho hd (by simp) ?_);show wpAny _ _ (newExc (.type "StopIteration") [] >>= _) _ _ _
 refine az ?_;simp only[newExc,newTuple]
 refine az (xq ?_ (by size_fits));refine az (m:=firstArgMember _ _) (wpAny_of_eq (a:=Value.none) (by first|rfl|(simp only[firstArgMember];rfl)) ?_)
 refine xq ?_ (by size_fits);simp only[raiseNew]
 refine az (wpAny_handled ?_);rw[show A.in1.handled=none from hh]
 exact az (aT (wpAny_throw (hE _ _ (((ED ..).extBut.push _).push _) ⟨_,eT _ rfl,Z⟩)))
theorem Nh{kvs:List (K×Value)}{k:K}{v:Value}{Q:VS}(hit:s.heap.IsValIter it d i kvs.length ep)(hm:s.heap.DictAt knd d kvs ep)(hx:kvs[i]?=some (k,v))(hQ:∀h',h'.IsValIter it d (i+1) kvs.length ep->Heap.SameBut it s.heap h'->Q v { s with heap:=h' }):
  wpAny (model prog w) A (Builtin.SmallTypes.nextOf (.ref it)) Q E s:=by
 obtain⟨o,ho,hc,hd⟩:=id hit;obtain⟨od,es,hod,hcd,Ae,hk,hp,hn⟩:=id hm
 unfold Builtin.SmallTypes.nextOf
 refine az (zO (name:=Str.ofString "__next__") hit.typeIs We (v9 We hit.typeIs F.entry_dict_valueiterator_next ?_ (F.args_dict_valueiterator_next_1 _)))
 refine az (aT ?_);refine az (az ?_)
 first|(refine az (Wh hit.typeIs (aT ?_));refine az (v_ ho hd ?_))|(refine az (Qc hit.typeIs (aT ?_));refine az (v_ ho hd ?_))
 have own:Builtin.Dict_items.ownsTuple "dict_valueiterator"=false:=by decide
 simp only[own,EF,m5]
 show wpAny _ _ (if(Value.ref d==Value.none)=true then _ else _) _ _ _
 rw[aB (λz=>iD z:¬ ((Value.ref d==Value.none)=true))];refine az (aT ?_)
 have sz:es.size=kvs.length:=by have:=hp.length;simpa using this
 refine az (Qt hod Ae ?_);rw[aB (by rw[sz];simp)]
 refine az (aT ?_);refine az (Jo hod Ae ?_)
 rw[aB (by simp)];refine aT ?_
 have lt:i<kvs.length:=(dY.mp hx).1
 have lt':i<es.size:=by omega
 have kv:=hp.get? (e:=es[i]) (by simp[lt']) hx
 simp only[show ¬ ((i:Int)<0)from by omega,m5,tL,Array.getElem?_eq_getElem lt'];refine az ?_
 first|(refine az (Wh hit.typeIs (aT ?_));refine az (Qf hit.typeIs ?_))|(refine az (Qc hit.typeIs (aT ?_));refine az (Qf hit.typeIs ?_))
 show wpAny _ _ (setField (.ref it) 1 (rawInt ((i:Int)+1)) >>= _) _ _ _
 refine az (AZ ho hd (by simp) ?_)
 have EO:(s.heap.update it (Obj.mapFields (·.setIfInBounds 1 (rawInt ((i:Int)+1))))).IsValIter it d (i+1) kvs.length ep:=⟨_,BQ _ ho (Obj.isFreed_of_fields (EG hd _)),(Obj.cls_mapFields ..).trans hc,by rw[EG hd];simp[rawInt]⟩
 refine az (wc (az (Qf (s:={ s with heap:=s.heap.update it (Obj.mapFields (·.setIfInBounds 1 (rawInt ((i:Int)+1)))) }) EO.typeIs ?_)))
 refine az (Qf (s:={ s with heap:=s.heap.update it (Obj.mapFields (·.setIfInBounds 1 (rawInt ((i:Int)+1)))) }) EO.typeIs ?_)
 exact aT (aT ⟨_,Z,aT (kv.2▸hQ _ EO (ED ..))⟩)
theorem QX{kvs:List (K×Value)}{Q:VS}(hh:A.handled=none)(hit:s.heap.IsValIter it d i kvs.length ep)(hm:s.heap.DictAt knd d kvs ep)(hx:kvs[i]?=none)(hE:∀h' e,Heap.ExtBut it s.heap h'->(∃o,h'.get? e=some o/\o.cls =.type "StopIteration")->E (.ref e) { s with heap:=h' }):
  wpAny (model prog w) A (Builtin.SmallTypes.nextOf (.ref it)) Q E s:=by
 obtain⟨o,ho,hc,hd⟩:=id hit;obtain⟨od,es,hod,hcd,Ae,hk,hp,hn⟩:=id hm
 unfold Builtin.SmallTypes.nextOf
 refine az (zO (name:=Str.ofString "__next__") hit.typeIs We (v9 We hit.typeIs F.entry_dict_valueiterator_next ?_ (F.args_dict_valueiterator_next_1 _)))
 refine az (aT ?_);refine az (az ?_)
 first|(refine az (Wh hit.typeIs (aT ?_));refine az (v_ ho hd ?_))|(refine az (Qc hit.typeIs (aT ?_));refine az (v_ ho hd ?_))
 have own:Builtin.Dict_items.ownsTuple "dict_valueiterator"=false:=by decide
 simp only[own,EF,m5]
 show wpAny _ _ (if(Value.ref d==Value.none)=true then _ else _) _ _ _
 rw[aB (λz=>iD z:¬ ((Value.ref d==Value.none)=true))];refine az (aT ?_)
 have sz:es.size=kvs.length:=by have:=hp.length;simpa using this
 refine az (Qt hod Ae ?_);rw[aB (by rw[sz];simp)]
 refine az (aT ?_);refine az (Jo hod Ae ?_)
 rw[aB (by simp)];refine aT ?_
 have ge:es.size<=i:=by rw[sz];simpa using hx
 simp only[show ¬ ((i:Int)<0)from by omega,m5,tL,Array.getElem?_eq_none ge];refine az ?_
 first|(refine az (Wh hit.typeIs (aT ?_));show wpAny _ _ (setField (.ref it) 0 .none >>= _) _ _ _)|(refine az (Qc hit.typeIs (aT ?_));show wpAny _ _ (setField (.ref it) 0 .none >>= _) _ _ _)
 refine az (AZ ho hd (by simp) ?_);show wpAny _ _ (newExc (.type "StopIteration") [] >>= _) _ _ _
 refine az ?_;simp only[newExc,newTuple]
 refine az (xq ?_ (by size_fits));refine az (m:=firstArgMember _ _) (wpAny_of_eq (a:=Value.none) (by first|rfl|(simp only[firstArgMember];rfl)) ?_)
 refine xq ?_ (by size_fits);simp only[raiseNew]
 refine az (wpAny_handled ?_);rw[show A.in1.handled=none from hh]
 exact az (aT (wpAny_throw (hE _ _ (((ED ..).extBut.push _).push _) ⟨_,eT _ rfl,Z⟩)))
end
structure Af(P:Program)(w:World)(K:Fg)(S:Hp->Prop)(xs:List V)(it l:Addr)(tn:Nat->Heap->Prop)(src:Heap->Prop):Prop where
 obj:∀i h,tn i h->∃o,h.get? it=some o/\∀v,o.data ≠ .cell v
 keep:∀i h h',tn i h->(∀o,h.get? it=some o->h'.get? it=some o)->tn i h'
 wJ:∀h h',src h->(∀o,h.get? l=some o->h'.get? l=some o)->src h'
 GF:∀(X:Cx),X.prog=P->X.w=w->X.K=K->∀(pins:AO)(σ:St)(H:Hp)(s:Shared),Inv X pins σ H s->S H->src s.heap
 item:∀(A:Around)(i:Nat)(x:V)(s:Shared)(Q:VS)(E:VS),tn i s.heap->src s.heap->xs[i]?=some x->(∀u h',RelV x u->tn (i+1) h'->Heap.SameBut it s.heap h'->Q u { s with heap:=h' })->wpAny (model P w) A (Builtin.SmallTypes.nextOf (.ref it)) Q E s
 done:∀(A:Around)(i:Nat)(s:Shared)(Q:VS)(E:VS),A.handled=none->tn i s.heap->src s.heap->xs.length<=i->(∀h' e,Heap.ExtBut it s.heap h'->(∃o,h'.get? e=some o/\o.cls =.type "StopIteration")->E (.ref e) { s with heap:=h' })->wpAny (model P w) A (Builtin.SmallTypes.nextOf (.ref it)) Q E s
theorem Vd{w:World}{l:Addr}:Af P w K (λH=>aJ K H l xs) xs it l (λi h=>h.IsListIter it l i) (λh=>∃its:List Value,Vals xs its/\h.IsList l its.toArray) where
 obj:=λi h ⟨o,e,c,d⟩=>⟨o,e,λv z=>by rw[d]at z;cases z⟩
 keep:=λi h h' st k=>st.at k
 wJ:=λh h' ⟨its,r,hl⟩ k=>⟨its,r,hl.at k⟩
 GF:=λX hP hw hK pins σ H s I h=>by subst hP hw hK;obtain⟨its,rv,p,_⟩:=I.list h;exact⟨its,rv,p.isList⟩
 item:=λA i x s Q E st ⟨its,r,hl⟩ hx hQ=>by obtain⟨u,hu,ru⟩:=r.get hx;exact wpAny_nextOf_list_item st hl (by simpa using hu) λh' st' sb=>hQ u h' ru st' sb
 done:=λA i s Q E hh st ⟨its,r,hl⟩ hx hE=>wpAny_nextOf_list_end hh st hl (by have:=r.length;simp;omega) hE
theorem Ve{w:World}{o:Obj}(hd:o.data =.dict es ep):Af P w K (λH=>pF H d o kvs) (kvs.map λp=>kV p.1) it d (λi h=>h.IsKeyIter it d i kvs.length ep) (λh=>∃vs,KV kvs vs/\h.DictAt (di P w) d vs ep) where
 obj:=λi h ⟨o,e,c,d⟩=>⟨o,e,λv z=>by rw[d]at z;cases z⟩
 keep:=λi h h' st k=>st.at k
 wJ:=λh h' ⟨vs,r,hl⟩ k=>⟨vs,r,hl.at' k⟩
 GF:=λX hP hw hK pins σ H s I h=>by subst hP hw hK;obtain⟨ho,_,_,vs,xS,r,da⟩:=I.rX h;cases Bf da ho hd;exact⟨vs,r,da⟩
 item:=λA i x s Q E st ⟨vs,r,da⟩ hx hQ=>by rw[cN]at hx;obtain⟨p,hp,rfl⟩:=nH.mp hx;obtain⟨q,hq,ek,rq⟩:=x6 r hp;obtain⟨qk,qv⟩:=q;have hl:kvs.length=vs.length:=r.length;rw[hl]at st;exact Ng st da hq λkey h' hk st' sb=>hQ key h' (by rw[ek];exact Kg hk) (by rw[hl];exact st') sb
 done:=λA i s Q E hh st ⟨vs,r,da⟩ hx hE=>by have hl:kvs.length=vs.length:=r.length;rw[aH]at hx;rw[hl]at st;exact QW hh st da (by rw[BR];omega) hE
theorem Vf{w:World}{o:Obj}(hd:o.data =.dict es ep):Af P w K (λH=>pF H d o kvs) (kvs.map λp=>p.2) it d (λi h=>h.IsValIter it d i kvs.length ep) (λh=>∃vs,KV kvs vs/\h.DictAt (di P w) d vs ep) where
 obj:=λi h ⟨o,e,c,d⟩=>⟨o,e,λv z=>by rw[d]at z;cases z⟩
 keep:=λi h h' st k=>st.at k
 wJ:=λh h' ⟨vs,r,hl⟩ k=>⟨vs,r,hl.at' k⟩
 GF:=λX hP hw hK pins σ H s I h=>by subst hP hw hK;obtain⟨ho,_,_,vs,xS,r,da⟩:=I.rX h;cases Bf da ho hd;exact⟨vs,r,da⟩
 item:=λA i x s Q E st ⟨vs,r,da⟩ hx hQ=>by rw[cN]at hx;obtain⟨p,hp,rfl⟩:=nH.mp hx;obtain⟨q,hq,ek,rq⟩:=x6 r hp;obtain⟨qk,qv⟩:=q;have hl:kvs.length=vs.length:=r.length;rw[hl]at st;exact Nh st da hq λh' st' sb=>hQ qv h' rq (by rw[hl];exact st') sb
 done:=λA i s Q E hh st ⟨vs,r,da⟩ hx hE=>by have hl:kvs.length=vs.length:=r.length;rw[aH]at hx;rw[hl]at st;exact QX hh st da (by rw[BR];omega) hE
variable {y:V}
section
variable {P:Program}{w:World}{A:Around}{E:VS}{s:Shared}{K:Fg}{S1 S2:Hp->Prop}{xs ys:List V}{z TI TO i1 i2 l1 l2:Addr}{t1 t2:Nat->Heap->Prop}{c1 c2:Heap->Prop}{i:Nat}
theorem SD{x:V}{a b:Value}{Q:VS}(D:ZipApart z TI TO i1 i2 l1 l2)(C1:Af P w K S1 xs i1 l1 t1 c1)(C2:Af P w K S2 ys i2 l2 t2 c2)(hz:IsZip s.heap z TI TO .none)(hTI:IsPair s.heap TI (.ref i1) (.ref i2))(hTO:IsPair s.heap TO a b)(h1:t1 i s.heap)(h2:t2 i s.heap)(hc1:c1 s.heap)(hc2:c2 s.heap)(hx:xs[i]?=some x)(hy:ys[i]?=some y)(hQ:∀u v h',RelV x u->RelV y v->IsZip h' z TI TO (rawInt s.heap.objs.size)->IsPair h' TO u v->t1 (i+1) h'->t2 (i+1) h'->IsPair h' s.heap.objs.size u v->h'.objs.size=s.heap.objs.size+1->
    (∀c o,c≠z->c≠TO->c≠i1->c≠i2->s.heap.get? c=some o->h'.get? c=some o)->Q (.ref s.heap.objs.size) { s with heap:=h' }):
  wpAny (model P w) A (Builtin.«zip.__next__» ⟨[.ref z],[]⟩) (λfin s'=>∃v,fin =.done (.ret v)/\Q v s') E s:=by
 show wpAny _ _ (field (.ref z) 2 >>= _) _ _ _
 refine az (n_ hz rfl (x:=.bool false) rfl ?_);show wpAny _ _ (field (.ref z) 3 >>= _) _ _ _
 refine az (n_ hz rfl (x:=.ref TI) rfl ?_);refine az (uA hTI rfl ?_)
 show wpAny _ _ (Builtin.SmallTypes.ownedTupleIsFree (.ref z) >>= _) _ _ _
 refine az ?_;unfold Builtin.SmallTypes.ownedTupleIsFree
 refine az (n_ hz rfl (x:=.none) rfl (aT ?_));simp only[m7]
 refine az (wpAny_rule ?_);refine az (n_ hz rfl (x:=.ref TO) rfl ?_)
 refine az (EH hz (by simp) λhA GG sA=>?_)
 replace GG:IsZip hA z TI TO .ellipsis:=GG
 refine az ?_;simp only[List.zipIdx_cons,List.zipIdx_nil,Jl,yt]
 refine az (az (wpAny_onRaise ?_));show wpAny _ _ (Builtin.SmallTypes.nextOf (.ref i1) >>= _) _ _ _
 refine az (C1.item _ i x { s with heap:=hA } _ _ (C1.keep _ _ _ h1 λo e=>sA.extBut _ _ D.i1z e) (C1.wJ _ _ hc1 λo e=>sA.extBut _ _ D.l1z e) hx λu hB ru h1B sB=>aT ?_)
 have SE:IsPair hB TO a b:=sB.extBut _ _ D.TOi1 (sA.extBut _ _ D.TOz hTO)
 refine az (uA SE rfl ?_);refine az (wpAny_updateSeq_pair SE λhC WH sC=>?_)
 replace WH:IsPair hC TO u b:=WH
 refine az (wpAny_letGo (aT ?_));refine az (az (wpAny_onRaise ?_))
 show wpAny _ _ (Builtin.SmallTypes.nextOf (.ref i2) >>= _) _ _ _
 refine az (C2.item _ i y { s with heap:=hC } _ _ (C2.keep _ _ _ h2 λo e=>sC.extBut _ _ D.TOi2.symm (sB.extBut _ _ D.i12.symm (sA.extBut _ _ D.i2z e))) (C2.wJ _ _ hc2 λo e=>sC.extBut _ _ D.l2TO (sB.extBut _ _ D.l2i1 (sA.extBut _ _ D.l2z e))) hy λv hD rv h2D sD=>aT ?_)
 have TOD:IsPair hD TO u b:=sD.extBut _ _ D.TOi2 WH
 refine az (uA TOD rfl ?_);refine az (wpAny_updateSeq_pair TOD λhE WI sE=>?_)
 replace WI:IsPair hE TO u v:=WI
 refine az (wpAny_letGo (aT (aT ?_)));refine az (uA WI rfl ?_)
 refine az (wpAny_newTuple ?_)
 have sz:hE.objs.size=s.heap.objs.size:=by rw[sE.1,sD.1,sC.1,sB.1,sA.1]
 have zE:IsZip hE z TI TO .ellipsis:=sE.extBut _ _ D.TOz.symm (sD.extBut _ _ D.i2z.symm (sC.extBut _ _ D.TOz.symm (sB.extBut _ _ D.i1z.symm GG)))
 have kE:∀c o,c≠z->c≠TO->c≠i1->c≠i2->s.heap.get? c=some o->hE.get? c=some o:=λc o c1 c2 c3 c4 e=>sE.extBut _ _ c2 (sD.extBut _ _ c4 (sC.extBut _ _ c2 (sB.extBut _ _ c3 (sA.extBut _ _ c1 e))))
 have t1E:t1 (i+1) hE:=C1.keep _ _ _ h1B λo e=>sE.extBut _ _ D.TOi1.symm (sD.extBut _ _ D.i12 (sC.extBut _ _ D.TOi1.symm e))
 have t2E:t2 (i+1) hE:=C2.keep _ _ _ h2D λo e=>sE.extBut _ _ D.TOi2.symm e
 have zlt:z<hE.objs.size:=bU zE
 show wpAny _ _ (Builtin.SmallTypes.ownedTupleHandOut (.ref z) (.ref hE.objs.size) >>= _) _ _ _
 refine az ?_;unfold Builtin.SmallTypes.ownedTupleHandOut
 have zF:IsZip (hE.push { cls:=.type "tuple",data:=.seq #[u,v] }) z TI TO .ellipsis:=b9 _ zE
 refine az (EH zF (by simp) λhG zG sG=>?_)
 replace zG:IsZip hG z TI TO (rawInt hE.objs.size):=zG
 refine EH zG (by simp) λhI zI sI=>?_
 replace zI:IsZip hI z TI TO (rawInt hE.objs.size):=zI
 have up:∀c o,c≠z->hE.get? c=some o->hI.get? c=some o:=λc o c1 e=>sI.extBut _ _ c1 (sG.extBut _ _ c1 (b9 _ e))
 have TI':IsPair hI hE.objs.size u v:=sI.extBut _ _ (wg zlt) (sG.extBut _ _ (wg zlt) (eT _ rfl))
 have szI:hI.objs.size=hE.objs.size+1:=by rw[sI.1,sG.1,kO]
 rw[sz]at zI TI' szI
 refine aT ⟨_,Z,?_⟩
 show Q (.ref hE.objs.size) _
 rw[sz]
 exact hQ u v hI ru rv zI (up _ _ D.TOz WI) (C1.keep _ _ _ t1E λo e=>up _ o D.i1z e) (C2.keep _ _ _ t2E λo e=>up _ o D.i2z e) TI' szI λc o c1 c2 c3 c4 e=>up c o c1 (kE c o c1 c2 c3 c4 e)
theorem Vg{a b:Value}{Q:Fin->Shared->Prop}(hh:A.handled=none)(D:ZipApart z TI TO i1 i2 l1 l2)(C1:Af P w K S1 xs i1 l1 t1 c1)(C2:Af P w K S2 ys i2 l2 t2 c2)(hz:IsZip s.heap z TI TO .none)(hTI:IsPair s.heap TI (.ref i1) (.ref i2))(hTO:IsPair s.heap TO a b)(h1:t1 i s.heap)(h2:t2 i s.heap)(hc1:c1 s.heap)(hc2:c2 s.heap)(hend:xs.length<=i\/ys.length<=i)(hE:∀h' e,(∀c o,c≠z->c≠TO->c≠i1->c≠i2->s.heap.get? c=some o->h'.get? c=some o)->(∃o,h'.get? e=some o/\o.cls =.type "StopIteration")->E (.ref e) { s with heap:=h' }):
  wpAny (model P w) A (Builtin.«zip.__next__» ⟨[.ref z],[]⟩) Q E s:=by
 show wpAny _ _ (field (.ref z) 2 >>= _) _ _ _
 refine az (n_ hz rfl (x:=.bool false) rfl ?_);show wpAny _ _ (field (.ref z) 3 >>= _) _ _ _
 refine az (n_ hz rfl (x:=.ref TI) rfl ?_);refine az (uA hTI rfl ?_)
 show wpAny _ _ (Builtin.SmallTypes.ownedTupleIsFree (.ref z) >>= _) _ _ _
 refine az ?_;unfold Builtin.SmallTypes.ownedTupleIsFree
 refine az (n_ hz rfl (x:=.none) rfl (aT ?_));simp only[m7]
 refine az (wpAny_rule ?_);refine az (n_ hz rfl (x:=.ref TO) rfl ?_)
 refine az (EH hz (by simp) λhA GG sA=>?_)
 replace GG:IsZip hA z TI TO .ellipsis:=GG
 refine az ?_;simp only[List.zipIdx_cons,List.zipIdx_nil,Jl,yt]
 refine az (az (wpAny_onRaise ?_));show wpAny _ _ (Builtin.SmallTypes.nextOf (.ref i1) >>= _) _ _ _
 have k1:=C1.keep _ _ _ h1 λo e=>sA.extBut _ _ D.i1z e
 have k2:=C1.wJ _ _ hc1 λo e=>sA.extBut _ _ D.l1z e
 by_cases hx:xs.length<=i
 . refine az (C1.done _ i { s with heap:=hA } _ _ hh k1 k2 hx λhB e sB he=>?_)
   obtain⟨oe,Dy,hce⟩:=he
   have zB:IsZip hB z TI TO .ellipsis:=sB _ _ D.i1z.symm GG
   have ez:e≠z:=λx=>by subst x;rw[zB]at Dy;cases Dy;simp at hce
   exact EH zB (by simp) λhC _ sC=>hE hC e (λc o c1 _ c3 _ x=>sC.extBut _ _ c1 (sB _ _ c3 (sA.extBut _ _ c1 x))) ⟨oe,sC.extBut _ _ ez Dy,hce⟩
 . have hy:ys.length<=i:=hend.resolve_left hx
   refine az (C1.item _ i xs[i] { s with heap:=hA } _ _ k1 k2 (bM (by omega)) λu hB ru h1B sB=>aT ?_)
   have SE:IsPair hB TO a b:=sB.extBut _ _ D.TOi1 (sA.extBut _ _ D.TOz hTO)
   refine az (uA SE rfl ?_);refine az (wpAny_updateSeq_pair SE λhC WH sC=>?_)
   refine az (wpAny_letGo (aT ?_));refine az (az (wpAny_onRaise ?_))
   show wpAny _ _ (Builtin.SmallTypes.nextOf (.ref i2) >>= _) _ _ _
   refine az (C2.done _ i { s with heap:=hC } _ _ hh (C2.keep _ _ _ h2 λo e=>sC.extBut _ _ D.TOi2.symm (sB.extBut _ _ D.i12.symm (sA.extBut _ _ D.i2z e))) (C2.wJ _ _ hc2 λo e=>sC.extBut _ _ D.l2TO (sB.extBut _ _ D.l2i1 (sA.extBut _ _ D.l2z e))) hy λhD e sD he=>?_)
   obtain⟨oe,Dy,hce⟩:=he
   have zD:IsZip hD z TI TO .ellipsis:=sD _ _ D.i2z.symm (sC.extBut _ _ D.TOz.symm (sB.extBut _ _ D.i1z.symm GG))
   have ez:e≠z:=λx=>by subst x;rw[zD]at Dy;cases Dy;simp at hce
   exact EH zD (by simp) λhF _ sF=>hE hF e (λc o c1 c2 c3 c4 x=>sF.extBut _ _ c1 (sD _ _ c4 (sC.extBut _ _ c2 (sB.extBut _ _ c3 (sA.extBut _ _ c1 x))))) ⟨oe,sF.extBut _ _ ez Dy,hce⟩
end
def aam(S1 S2:Hp->Prop)(xs ys:List V):It:=⟨λi H=>S1 H/\S2 H/\i<xs.length/\i<ys.length,λi H v H'=>∃p x y,H p=none/\v =.ref p/\H'=upd H p (.tup [x,y])/\xs[i]?=some x/\ys[i]?=some y,λi H=>S1 H/\S2 H/\(xs.length<=i\/ys.length<=i)⟩
variable {z:Addr}
theorem SG{w:World}{kk:Nat}{S1 S2:Hp->Prop}{TI TO i1 i2 l1 l2:Addr}{t1 t2:Nat->Heap->Prop}{c1 c2:Heap->Prop}(D:ZipApart z TI TO i1 i2 l1 l2)(C1:Af P w K S1 xs i1 l1 t1 c1)(C2:Af P w K S2 ys i2 l2 t2 c2):
  Turn P w K (.Tuple elts kk pos) (aam S1 S2 xs ys) [z,TI,TO,i1,i2] z (λi h=>IsZip h z TI TO .none/\IsPair h TI (.ref i1) (.ref i2)/\(∃a b,IsPair h TO a b)/\t1 i h/\t2 i h) where
 mem:=by simp
 obj:=λi h st b hb=>by
  obtain⟨hz,hTI,⟨a,b',hTO⟩,h1,h2⟩:=st;have hb':b=z\/b=TI\/b=TO\/b=i1\/b=i2:=by simpa using hb
  rcases hb' with rfl|rfl|rfl|rfl|rfl
  .exact ⟨_,hz,λv q=>by cases q⟩
  .exact ⟨_,hTI,λv q=>by cases q⟩
  .exact ⟨_,hTO,λv q=>by cases q⟩
  .exact C1.obj i h h1
  .exact C2.obj i h h2
 keep:=λi h h' st k=>by obtain⟨hz,hTI,⟨a,b',hTO⟩,h1,h2⟩:=st;exact⟨k z (by simp) _ hz,k TI (by simp) _ hTI,⟨a,b',k TO (by simp) _ hTO⟩,C1.keep _ _ _ h1 λo e=>k i1 (by simp) o e,C2.keep _ _ _ h2 λo e=>k i2 (by simp) o e⟩
 item:=by
  intro X hP hw hK hc i pins s σ H E I hf st hg;subst hP hw hK;obtain⟨hz,hTI,⟨a,b,hTO⟩,h1,h2⟩:=st;obtain⟨g1,g2,lx,ly⟩:=hg;have hT:s.TypeIs (.ref z) "zip":=⟨_,hz,Z⟩
  unfold pyNext;refine az (wpAny_attempt (zO (name:=Str.ofString "__next__") hT Jp (v9 Jp hT F.entry_zip_next
   (SD D C1 C2 hz hTI hTO h1 h2 (C1.GF X rfl rfl rfl pins σ H s I g1) (C2.GF X rfl rfl rfl pins σ H s I g2) (bM lx) (bM ly) λu u2 h' ru ru2 a1 a2 a3 a4 a5 a6 hk=>aT ?_) (F.args_zip_next_1 _))))
  refine⟨_,Z,wpAny_letOwnedTupleGo_zip (s:={ s with heap:=h' }) a1 λh'' b1 hs=>?_⟩;have hTz:s.heap.objs.size≠z:=wg (bU hz);have wI:∀c o,c≠z->c≠TO->c≠i1->c≠i2->s.heap.get? c=some o->h''.get? c=some o:=λc o c1 c2 c3 c4 e=>hs.extBut _ _ c1 (hk c o c1 c2 c3 c4 e);have hn:=I.fresh;have nf:∀b u,H b=some u->b≠z/\b≠TO/\b≠i1/\b≠i2:=λb u e=>by
   have g:∀c∈[z,TI,TO,i1,i2],b≠c:=λc hc q=>by have:=(hf c hc).1;rw[<-q,e]at this;cases this
   exact⟨g z (by simp),g TO (by simp),g i1 (by simp),g i2 (by simp)⟩
  have xR:∀c,c∉[z,TI,TO,i1,i2]->c≠z/\c≠TO/\c≠i1/\c≠i2:=λc hc=>⟨λq=>hc (by simp[q]),λq=>hc (by simp[q]),λq=>hc (by simp[q]),λq=>hc (by simp[q])⟩
  have agZ:IsPair h'' s.heap.objs.size u u2:=hs.extBut _ _ hTz a5;have hok:jj X.prog X.w (upd H s.heap.objs.size (.tup [xs[i],ys[i]])) h'':=λb ob e=>by
   by_cases hb:b=s.heap.objs.size
   .subst hb;rw[ai]at e;cases e;exact⟨by show 2<=sizeLine;decide,[u,u2],.cons ru (.cons ru2 .nil),_,agZ,Z,0,Z⟩
   .rw [ay hb]at e;refine(I.hok b ob e).stay (λc v SA q=>?_) (λc q=>by rw[ay (aD q hn)];exact q) λc zs q=>by rw[ay (aD q hn)];exact q
    rcases SA with r|r
    .obtain ⟨n1,n2,n3,n4⟩:=nf b ob e;rw[r];rw[r]at q;exact wI b v n1 n2 n3 n4 q
    .obtain ⟨n1,n2,n3,n4⟩:=nf c _ r;exact wI c v n1 n2 n3 n4 q
  have I2:Inv X pins σ (upd H s.heap.objs.size (.tup [xs[i],ys[i]])) { s with heap:=h'',gens:=s.gens,drawn:=s.drawn,toks:=s.toks }:=by
   refine I.step (ch:=[z,TI,TO,i1,i2]) (λb hb=>⟨(hf b hb).2.2.2.1,(hf b hb).2.1,(hf b hb).2.2.2.2.1,(hf b hb).2.2.2.2.2⟩) (λb o _ _ hc' e _=>?_) (λb o _ _ hc' e _=>?_) (λb o _ e n=>?_) (λb o hc' e=>?_)
    (λb zs q=>by rw[ay (aD q hn)];exact q) (λb o zs q=>by rw[ay (aD q hn)];exact q) (λb ps q=>⟨#[],by rw[ay (aD q hn),q];simp⟩) (λm hm=>?_) hok I.bare
   .obtain ⟨n1,n2,n3,n4⟩:=xR b hc';exact wI b o n1 n2 n3 n4 e
   .obtain ⟨n1,n2,n3,n4⟩:=xR b hc';exact⟨o.slots,wI b o n1 n2 n3 n4 e⟩
   .rw [ay (d8 (bU e))];exact n
   .obtain ⟨n1,n2,n3,n4⟩:=xR b hc';exact⟨o,wI b o n1 n2 n3 n4 e⟩
   .obtain ⟨o,es,ep,ho,r⟩:=hm;have nl:∀c∈[z,TI,TO,i1,i2],X.env.locals≠c:=λc hc' q=>(hf c hc').2.1 q.symm;exact⟨o,es,ep,wI _ o (nl z (by simp)) (nl TO (by simp)) (nl i1 (by simp)) (nl i2 (by simp)) ho,r⟩
  refine⟨.ref s.heap.objs.size,_,I2,Z,⟨s.heap.objs.size,xs[i],ys[i],hn,Z,Z,bM lx,bM ly⟩,⟨b1,?_,⟨u,u2,?_⟩,?_,?_⟩,λb hb=>?_⟩
  .exact wI _ _ D.TIz D.TITO D.TIi1 D.TIi2 hTI
  .exact hs.extBut _ _ D.TOz a2
  .exact C1.keep _ _ _ a3 λo e=>hs.extBut _ _ D.i1z e
  .exact C2.keep _ _ _ a4 λo e=>hs.extBut _ _ D.i2z e
  .have hlt:b≠s.heap.objs.size:=by
    have hb':b=z\/b=TI\/b=TO\/b=i1\/b=i2:=by simpa using hb
    obtain⟨_,e1,_⟩:=C1.obj _ _ h1;obtain⟨_,e2,_⟩:=C2.obj _ _ h2;rcases hb' with rfl|rfl|rfl|rfl|rfl
    .exact d8 (bU hz)
    .exact d8 (bU hTI)
    .exact d8 (bU hTO)
    .exact d8 (bU e1)
    .exact d8 (bU e2)
   rw[ay hlt];exact(hf b hb).1
 done:=by
  intro X hP hw hK hc i pins s σ H E I hf st hg;subst hP hw hK;obtain⟨hz,hTI,⟨a,b,hTO⟩,h1,h2⟩:=st;obtain⟨g1,g2,hend⟩:=hg;have hT:s.TypeIs (.ref z) "zip":=⟨_,hz,Z⟩
  unfold pyNext;refine az (wpAny_attempt (zO (name:=Str.ofString "__next__") hT Jp (v9 Jp hT F.entry_zip_next
   (Vg (I.ok.hd hc) D C1 C2 hz hTI hTO h1 h2 (C1.GF X rfl rfl rfl pins σ H s I g1) (C2.GF X rfl rfl rfl pins σ H s I g2) hend λh' e hk he=>?_) (F.args_zip_next_1 _))))
  obtain⟨oe,Dy,hce⟩:=he;refine az (wpAny_isInstance (T:="StopIteration") (b:=true) ⟨oe,Dy,hce⟩ isSubtype_stop (aT ⟨Z,?_⟩));have xR:∀c,c∉[z,TI,TO,i1,i2]->c≠z/\c≠TO/\c≠i1/\c≠i2:=λc hc=>⟨λq=>hc (by simp[q]),λq=>hc (by simp[q]),λq=>hc (by simp[q]),λq=>hc (by simp[q])⟩
  have nf:∀b u,H b=some u->b≠z/\b≠TO/\b≠i1/\b≠i2:=λb u e=>by
   have g:∀c∈[z,TI,TO,i1,i2],b≠c:=λc hc q=>by have:=(hf c hc).1;rw[<-q,e]at this;cases this
   exact⟨g z (by simp),g TO (by simp),g i1 (by simp),g i2 (by simp)⟩
  have I2:Inv X pins σ H { s with heap:=h',gens:=s.gens,drawn:=s.drawn,toks:=s.toks }:=by
   refine I.step (ch:=[z,TI,TO,i1,i2]) (λb hb=>⟨(hf b hb).2.2.2.1,(hf b hb).2.1,(hf b hb).2.2.2.2.1,(hf b hb).2.2.2.2.2⟩) (λb o _ _ hc' e _=>?_) (λb o _ _ hc' e _=>?_) (λb o _ e n=>n) (λb o hc' e=>?_)
    (λb zs q=>q) (λb o zs q=>q) (λb ps q=>⟨#[],by rw[q];simp⟩) (λm hm=>?_) (λb ob e=>?_) I.bare
   .obtain ⟨n1,n2,n3,n4⟩:=xR b hc';exact hk b o n1 n2 n3 n4 e
   .obtain ⟨n1,n2,n3,n4⟩:=xR b hc';exact⟨o.slots,hk b o n1 n2 n3 n4 e⟩
   .obtain ⟨n1,n2,n3,n4⟩:=xR b hc';exact⟨o,hk b o n1 n2 n3 n4 e⟩
   .obtain ⟨o,es,ep,ho,r⟩:=hm;have nl:∀c∈[z,TI,TO,i1,i2],X.env.locals≠c:=λc hc' q=>(hf c hc').2.1 q.symm;exact⟨o,es,ep,hk _ o (nl z (by simp)) (nl TO (by simp)) (nl i1 (by simp)) (nl i2 (by simp)) ho,r⟩
   .refine (I.hok b ob e).stay (λc v SA q=>?_) (λc q=>q) λc zs q=>q;rcases SA with r|r
    .obtain ⟨n1,n2,n3,n4⟩:=nf b ob e;rw[r];rw[r]at q;exact hk b v n1 n2 n3 n4 q
    .obtain ⟨n1,n2,n3,n4⟩:=nf c _ r;exact hk c v n1 n2 n3 n4 q
  exact I2
 self:=λ_ _ _ _ _ st h=>wpAny_pyIter_zip st.1 h
def Kh(P:Program)(w:World)(u:Value)(o:Obj)(pre:Heap->Prop):Prop:=∀(A:Around)(E:VS)(s:Shared)(Q:VS),pre s.heap->Q (.ref s.heap.objs.size) { s with heap:=s.heap.push o }->wpAny (model P w) A (pyIter u) Q E s
theorem QY{w:World}{p1 p2:Heap->Prop}(s1:Kh P w u1 o1 p1)(s2:Kh P w u2 o2 p2):MeetsIn P w (Builtin.«zip.__new__» ⟨[.type "zip",u1,u2],[]⟩) (λ_ R s=>p1 s.heap/\p2 (s.heap.push o1)/\R (.ok (.ret (.ref ((((s.heap.push o1).push o2).push { cls:=.type "tuple",data:=.seq #[.ref s.heap.objs.size,.ref (s.heap.push o1).objs.size] }).push { cls:=.type "tuple",data:=.seq #[.none,.none] }).objs.size)))
     { s with heap:=((((s.heap.push o1).push o2).push { cls:=.type "tuple",data:=.seq #[.ref s.heap.objs.size,.ref (s.heap.push o1).objs.size] }).push { cls:=.type "tuple",data:=.seq #[.none,.none] }).push { cls:=.type "zip",data:=.fields #[.none,.bool false,.bool false,.ref ((s.heap.push o1).push o2).objs.size,.ref (((s.heap.push o1).push o2).push { cls:=.type "tuple",data:=.seq #[.ref s.heap.objs.size,.ref (s.heap.push o1).objs.size] }).objs.size] } }):=
 .of_wp λA R s h=>by
  obtain⟨hp,g,d,tk,os⟩:=s;obtain⟨q1,q2,h⟩:=h;have hsub:=sub_zip;have i1:=λ(A:Around)(E:VS)(Q:VS)=>s1 A E ⟨hp,g,d,tk,os⟩ Q q1;have i2:=λ(A:Around)(E:VS)(Q:VS)=>s2 A E ⟨hp.push o1,g,d,tk,os⟩ Q q2
  wp_walk using i1 _ _ _,i2 _ _ _
  exact⟨_,Z,h⟩
section
variable {prog:Program}{w:World}{A:Around}{E:VS}{s:Shared}{it t:Addr}{i:Nat}{items:Array Value}{Q:VS}
theorem Ni{x:Value}(hit:s.heap.IsTupleIter it t i)(ht:s.heap.IsTuple t items)(hx:items[i]?=some x)(hQ:∀h',h'.IsTupleIter it t (i+1)->Heap.SameBut it s.heap h'->Q x { s with heap:=h' }):wpAny (model prog w) A (Builtin.SmallTypes.nextOf (.ref it)) Q E s:=by obtain⟨o,ho,hc,hd⟩:=id hit;obtain⟨ol,gD,_,nl,hdl⟩:=ht;unfold Builtin.SmallTypes.nextOf;refine az (zO (name:=Str.ofString "__next__") hit.typeIs PX (v9 PX hit.typeIs F.entry_tuple_iterator_next ?_ (F.args_tuple_iterator_next_1 _)));show wpAny _ _ (field (.ref it) 0 >>= _) _ _ s;refine az (n_ ho hd (x:=.ref t) rfl ?_);show wpAny _ _ (if(Value.ref t==Value.none)=true then _ else _) _ _ s;rw[aB (λz=>iD z:¬ ((Value.ref t==Value.none)=true))];show wpAny _ _ (field (.ref it) 1 >>= _) _ _ s;refine az (n_ ho hd (x:=.int i 0) rfl ?_);show wpAny _ _ (seqItems? (.ref t) >>= _) _ _ s;refine az (uA gD hdl ?_);simp only[tL,hx];refine az (AZ ho hd (by simp) (aT ⟨x,Z,aT (hQ _ ?_ (ED ..))⟩));refine⟨_,BQ _ ho (Obj.isFreed_of_fields (EG hd _)),(Obj.cls_mapFields ..).trans hc,?_⟩;rw[EG hd];simp[rawInt]
theorem QZ(hh:A.handled=none)(hit:s.heap.IsTupleIter it t i)(ht:s.heap.IsTuple t items)(hx:items[i]?=none)(hE:∀h' e,Heap.ExtBut it s.heap h'->(∃o,h'.get? e=some o/\o.cls =.type "StopIteration")->E (.ref e) { s with heap:=h' }):wpAny (model prog w) A (Builtin.SmallTypes.nextOf (.ref it)) Q E s:=by
 obtain⟨o,ho,hc,hd⟩:=id hit;obtain⟨ol,gD,_,nl,hdl⟩:=ht;unfold Builtin.SmallTypes.nextOf;refine az (zO (name:=Str.ofString "__next__") hit.typeIs PX (v9 PX hit.typeIs F.entry_tuple_iterator_next ?_ (F.args_tuple_iterator_next_1 _)));show wpAny _ _ (field (.ref it) 0 >>= _) _ _ s;refine az (n_ ho hd (x:=.ref t) rfl ?_);show wpAny _ _ (if(Value.ref t==Value.none)=true then _ else _) _ _ s;rw[aB (λz=>iD z:¬ ((Value.ref t==Value.none)=true))];show wpAny _ _ (field (.ref it) 1 >>= _) _ _ s;refine az (n_ ho hd (x:=.int i 0) rfl ?_);show wpAny _ _ (seqItems? (.ref t) >>= _) _ _ s;refine az (uA gD hdl ?_);simp only[tL,hx];refine az (wpAny_rule (az (AZ ho hd (by simp) ?_)));show wpAny _ _ (newExc (.type "StopIteration") [] >>= _) _ _ _;refine az ?_;simp only[newExc,newTuple];refine az (xq ?_ (by size_fits));refine az (m:=firstArgMember _ _) (wpAny_of_eq (a:=Value.none) (by first|rfl|(simp only[firstArgMember];rfl)) ?_);refine xq ?_ (by size_fits);simp only[raiseNew];refine az (wpAny_handled ?_);first|rw[show A.in1.handled=none from hh]|rw[hh]
 refine az (aT (wpAny_throw ?_));exact hE _ _ (((ED ..).extBut.push _).push _) ⟨_,eT _ rfl,Z⟩
end
theorem Yl{w:World}{l:Addr}:Af P w K (λH=>dG K H l xs) xs it l (λi h=>h.IsTupleIter it l i) (λh=>∃its:List Value,Vals xs its/\h.IsTuple l its.toArray) where
 obj:=λi h ⟨o,e,c,d⟩=>⟨o,e,λv z=>by rw[d]at z;cases z⟩
 keep:=λi h h' st k=>st.at k
 wJ:=λh h' ⟨its,r,o,e,q⟩ k=>⟨its,r,o,k o e,q⟩
 GF:=λX hP hw hK pins σ H s I h=>by subst hP hw hK;obtain⟨its,rv,p,_⟩:=I.tuple h;exact⟨its,rv,p⟩
 item:=λA i x s Q E st ⟨its,r,hl⟩ hx hQ=>by obtain⟨u,hu,ru⟩:=r.get hx;exact Ni st hl (by simpa using hu) λh' st' sb=>hQ u h' ru st' sb
 done:=λA i s Q E hh st ⟨its,r,hl⟩ hx hE=>QZ hh st hl (by have:=r.length;simp;omega) hE
theorem Vh:typeLookup (.type "dict") "__len__"=pure (some (.builtin "dict.__len__")):=by rw[typeLookup_type,builtinLookup_eq_fast];kernel_rfl
variable {R:Result->Shared->Prop}
section
variable {prog:Program}{w:World}{A:Around}{E:VS}{s:Shared}{K:Type}[DecidableEq K]{knd:KeyKind prog w K}
theorem Bt(hh:A.handled=none){kvs:List (K×Value)}(hd:(d==sysModules)=false)(hm:s.heap.DictAt knd d kvs ep)(S:Addr)(hSd:S≠d)(res:Value)(c₀:Nat)(hS:s.heap.get? S=some { cls:=.type "list",data:=.seq #[] c₀ })(hR:∀h' tk acc' c',(∀b o,b≠S->s.heap.get? b=some o->h'.get? b=some o)->h'.get? S=some { cls:=.type "list",dict:=none,data:=.seq acc' c',slots:=#[] }->
    ItemsOf (λi v=>∃k x,kvs[i]?=some (k,x)/\knd.is k v=true) acc' kvs.length->R (.ok (.ret res)) { s with heap:=h',toks:=tk })(hn:kvs.length<=sizeLine):
  wpAny (model prog w) A.in1 (Builtin.List.listExtendWith (.ref S) (.ref d) res)
   (λfin s'=>match fin with | .done f=>R (.ok f) s' | .again c'=>c'.quiet=true/\codeAny (model prog w) A c' R s') (λe s'=>R (.error e) s') s:=by
 have hSI:S≠s.heap.objs.size:=d8 (bU hS)
 have hT:s.TypeIs (.ref d) "dict":=hm.dictOf.typeIs
 unfold Builtin.List.listExtendWith
 refine az (wpAny_typeOf (T:="dict") (v:=.ref d) hT ?_)
 have h1:Builtin.List.listSameRef (.ref S) (.ref d)=false:=by show(S==d)=false;simpa using hSd
 have h2:(Value.type "dict"==Value.type "list")=false:=by decide
 have h3:(Value.type "dict"==Value.type "tuple")=false:=by decide
 simp only[h1,h2,h3,Bool.or_false,EF,m5]
 refine az (wpAny_pyIter_dict hd hm ?_)
 refine az (wc ?_)
 unfold Builtin.List.listLengthHint
 have hT2:({ s with heap:=s.heap.push { cls:=.type "dict_keyiterator",data:=.fields #[.ref d,.int 0 0,.int kvs.length 0,.int ep 0] } }:Shared).TypeIs (.ref d) "dict":=(hm.push _).dictOf.typeIs
 refine az (wpAny_specialOf (T:="dict") (v:=.ref d) hT2 Vh ?_)
 wp_delta
 refine az (wpAny_isInstance (T:="dict") (v:=.ref d) (b:=true) hT2 (by rw[isSubtype_type];kernel_rfl) ?_)
 show wpAny _ _ (typeOf (Value.ref d) >>= _) _ _ _
 refine az (wpAny_typeOf (T:="dict") (v:=.ref d) hT2 ?_)
 refine aT ?_
 have hne:d≠s.heap.objs.size:=d8 hm.lt_size
 have hSf:S∉[s.heap.objs.size,d] :=λhm'=>by
  rcases cK.mp hm' with z|z
  .exact hSI z
  .exact hSd (eX.mp z)
 show wpAny _ A.in1 (rule "list.extend.makes-room" >>= λ_=>Builtin.List.listTouch (.ref S) >>= λ_=>
  again (.builtin "list.extend.loop" ⟨[.ref S,.ref s.heap.objs.size,res],[]⟩)) _ _ _
 refine az (wpAny_rule ?_)
 refine az ?_
 show wpAny _ A.in1 (updateSeq S (·.push .none) >>= λ_=>updateSeq S (·.pop)) _ _ _
 have hS₁:=b9 { cls:=.type "dict_keyiterator",data:=.fields #[.ref d,.int 0 0,.int kvs.length 0,.int ep 0] } hS
 refine az (wpAny_updateSeq hS₁ rfl ?_)
 have WJ:=BQ (Obj.mapSeq (·.push Value.none)) hS₁ rfl
 refine wpAny_updateSeq (hz:=by seq_fits) WJ rfl ?_
 have hS₃:=BQ (Obj.mapSeq (·.pop)) WJ rfl
 have OO:∀b o,b≠S->(s.heap.push { cls:=.type "dict_keyiterator",data:=.fields #[.ref d,.int 0 0,.int kvs.length 0,.int ep 0] }).get? b=some o->(((s.heap.push { cls:=.type "dict_keyiterator",data:=.fields #[.ref d,.int 0 0,.int kvs.length 0,.int ep 0] }).update S (Obj.mapSeq (·.push Value.none))).update S (Obj.mapSeq (·.pop))).get? b=some o:=
  λb o hb e=>(JB _ _ (bX hb)).trans ((JB _ _ (bX hb)).trans e)
 refine aT ⟨plainId_quiet F.plain_extend_loop _,codeAny_extend_loopS (Walks.dictKeys (prog:=prog) (w:=w) (A:=A.in1) (knd:=knd) hh s.heap.objs.size d hne kvs ep).toS hn _ hSf _ kvs.length 0 _ _ _ rfl (fM _) ⟨⟨_,OO _ _ (bX hSI) (eT _ rfl),Z,Z⟩,(hm.push _).at' λo e=>OO d o (bX hSd) e⟩ hS₃ (ItemsOf.nil _) λs' acc' c' hm2 hS' hacc=>?_⟩
 rw[Moved.eq_with hm2]
 refine hR s'.heap s'.toks acc' c' (λb ob hb e=>hm2.heap b ob (λhmem=>?_) (OO b ob hb (b9 _ e))) hS' hacc
 rcases cK.mp hmem with e'|hmem
 . exact hb e'
 . exact absurd (bU e) (by rw[eX.mp hmem];exact i7 _)
theorem ER{Q:VS}(hh:A.handled=none){kvs:List (K×Value)}(hd:(d==sysModules)=false)(hm:s.heap.DictAt knd d kvs ep)(hn:kvs.length<=sizeLine)(hQ:∀h' tk acc' c',(∀b o,s.heap.get? b=some o->h'.get? b=some o)->
    h'.get? s.heap.objs.size=some { cls:=.type "list",dict:=none,data:=.seq acc' c',slots:=#[] }->ItemsOf (λi v=>∃k x,kvs[i]?=some (k,x)/\knd.is k v=true) acc' kvs.length->Q (.ref s.heap.objs.size) { s with heap:=h',toks:=tk }):
  wpAny (model prog w) A (call (.type "list") [.ref d]) Q E s:=by
 refine callType_codes (Q₁:=λobj s₁=>obj =.ref s.heap.objs.size/\s₁={ s with heap:=s.heap.push { cls:=.type "list",data:=.seq #[] } }) F.called_list (F.typeCall_list_1 _) F.entry_list_init
  (code_list_new _ ⟨Z,Z⟩) λobj s₁ h₁=>?_
 obtain⟨rfl,rfl⟩:=h₁
 have hS:(s.heap.push { cls:=.type "list",data:=.seq #[] }).get? s.heap.objs.size=some { cls:=.type "list",data:=.seq #[] }:=eT _ rfl
 have hne:s.heap.objs.size≠d:=wg hm.lt_size
 refine⟨⟨_,hS,Z⟩,F.args_list_init_2 _ _,?_⟩
 show wpAny _ _ (do let old <-Builtin.List.listItems (.ref s.heap.objs.size);Builtin.List.listUpdate (.ref s.heap.objs.size) (λ_=>#[]);letGo old.toList.reverse;Builtin.List.listExtendWith (.ref s.heap.objs.size) (.ref d) .none) _ _ _
 refine az ?_
 unfold Builtin.List.listItems
 refine az (uA hS rfl (aT ?_))
 show wpAny _ _ (updateSeq s.heap.objs.size (λ_=>#[]) >>= λ_=>letGo (#[] :Array Value).toList.reverse >>= λ_=>Builtin.List.listExtendWith (.ref s.heap.objs.size) (.ref d) .none) _ _ _
 refine az (wpAny_updateSeq hS rfl ?_)
 have WJ:=BQ (Obj.mapSeq (λ_=>(#[] :Array Value))) hS rfl
 have OO:∀b o,b≠s.heap.objs.size->(s.heap.push { cls:=.type "list",data:=.seq #[] }).get? b=some o->((s.heap.push { cls:=.type "list",data:=.seq #[] }).update s.heap.objs.size (Obj.mapSeq (λ_=>(#[] :Array Value)))).get? b=some o:=
  λb o hb e=>(JB _ _ (bX hb)).trans e
 refine az (wpAny_letGo ?_)
 refine Bt (A:=A.in1) hh hd (hm.push _ |>.at' λo e=>OO d o hne.symm e) s.heap.objs.size hne .none _ WJ (λh' tk acc' c' hk hS' hacc=>?_) hn
 exact⟨Z,hQ h' tk acc' c' (λb o e=>hk b o (d8 (bU e)) (OO b o (d8 (bU e)) (b9 _ e))) hS' hacc⟩
end
theorem GH{α β:Type}{F:α->β->Prop}:∀{l₁:List α}{l₂:List β},l₁.length=l₂.length->(∀(i:Nat)(x:α)(y:β),l₁[i]?=some x->l₂[i]?=some y->F x y)->Paired F l₁ l₂
 | [],[],_,_=> .nil
 | x::xs,y::ys,h,f=> .cons (f 0 x y rfl rfl) (GH (by simpa using h) λi a b ha hb=>f (i+1) a b (by simpa using ha) (by simpa using hb))
def lY(v d:Addr):HO:=.ext λh=>h.IsValuesView v d
section
variable {X:Cx}
inductive aan(Q:VK)(x:V)(H1:Hp):Prop
 |mk(d kvs:_)(_:x =.ref d)(_:Rd H1 d (.dK kvs))(_:∀v,H1 v=none->Q (.ref v) (upd H1 v (lY v d)))
def adq(td:TE):TE:=λσ H Q=>td σ H (aan Q)
inductive Wk(K:Fg)(H:Hp):V->(Hp->Prop)->List V->Prop
 | lst {l:Addr} {xs:List V}:aJ K H l xs->Wk K H (.ref l) (λH=>aJ K H l xs) xs
 | tup {l:Addr} {xs:List V}:dG K H l xs->Wk K H (.ref l) (λH=>dG K H l xs) xs
 | keys {d:Addr} {o:Obj} {kvs:List (Key×V)}:pF H d o kvs->Wk K H (.ref d) (λH=>pF H d o kvs) (kvs.map λp=>kV p.1)
 | vals {v d:Addr} {o:Obj} {kvs:List (Key×V)}:H v=some (lY v d)->pF H d o kvs->Wk K H (.ref v) (λH=>pF H d o kvs) (kvs.map λp=>p.2)
theorem Wk.ok{u:V}{S:Hp->Prop}(k:Wk X.K H u S xs)(I:Inv X pins σ H s)(r:RelV u uv):S H/\∃(l:Addr)(o:Obj)(p:Heap->Prop),l<s.heap.objs.size/\p s.heap/\(∀h (ob:Obj),p h->p (h.push ob))/\(∀h:Heap,(h.push o).get? h.objs.size=some o)/\Kh X.prog X.w uv o p/\∀it:Addr,∃tn src,Af X.prog X.w X.K S xs it l tn src/\∀h:Heap,h.get? it=some o->tn 0 h:=by
 cases k with
 | @lst l xs hS=>cases r;obtain⟨its,rv,p,_⟩:=I.list hS;obtain⟨ol,gD,_⟩:=id p.isList;refine⟨hS,l,_,λh=>h.IsList l its.toArray,bU gD,p.isList,λh ob q=>q.push ob,λh=>eT _ rfl,λA E s Q q h=>Qp q h,λit=>⟨_,_,Vd,λh e=>⟨_,e,Z,Z⟩⟩⟩
 | @tup l xs hS=>cases r;obtain⟨its,rv,p,_⟩:=I.tuple hS;obtain⟨ol,gD,q0⟩:=id p;refine⟨hS,l,_,λh=>h.IsTuple l its.toArray,bU gD,p,λh ob ⟨o1,a,b⟩=>⟨o1,b9 _ a,b⟩,λh=>eT _ rfl,λA E s Q q h=>wpAny_pyIter_tuple q h,λit=>⟨_,_,Yl,λh e=>⟨_,e,Z,Z⟩⟩⟩
 | @keys d o kvs hz=>cases r;obtain⟨ho,hl,hsys,vs,ep,rel,da⟩:=I.rX hz;obtain⟨o',es,h1,_,h2,_⟩:=id da;rw[ho]at h1;cases h1;have el:kvs.length=vs.length:=rel.length;refine⟨hz,d,_,λh=>h.DictAt (di X.prog X.w) d vs ep,bU ho,da,λh ob q=>q.push ob,λh=>eT _ rfl,λA E s Q q h=>wpAny_pyIter_dict hsys q h,λit=>⟨_,_,Ve h2,λh e=>?_⟩⟩;rw[el];exact⟨_,e,Z,Z⟩
 | @vals v d o kvs hv hz=>
  cases r;obtain⟨ho,hl,hsys,vs,ep,rel,da⟩:=I.rX hz;obtain⟨o',es,h1,_,h2,_⟩:=id da;rw[ho]at h1;cases h1;have el:kvs.length=vs.length:=rel.length;obtain⟨hv',_⟩:=(show fP X.prog X.w H s.heap v (lY v d)from I.hok v _ hv)
  refine⟨hz,d,_,λh=>h.IsValuesView v d/\h.DictAt (di X.prog X.w) d vs ep,bU ho,⟨hv',da⟩,λh ob ⟨⟨o1,a,b⟩,q⟩=>⟨⟨o1,b9 _ a,b⟩,q.push ob⟩,λh=>eT _ rfl,λA E s Q q h=>wpAny_pyIter_values q.1 q.2 h,λit=>⟨_,_,Vf h2,λh e=>?_⟩⟩;rw[el];exact⟨_,e,Z,Z⟩
variable {elts:List Expr}{kk:Nat}{tpos:Pos}
inductive aao(K:Fg)(R:It->Hp->Prop)(vs:List V)(H1:Hp):Prop
 |mk(u1 u2 S1 S2 xs ys:_)(_:vs=[u1,u2])(_:Wk K H1 u1 S1 xs)(_:Wk K H1 u2 S2 ys)(_:R (aam S1 S2 xs ys:_) H1)
def ads(K:Fg)(ta:TA):TI:=λσ H R=>ta σ H (aao K R)
theorem GI(hc:X.calm=true):i_ X (.builtin "sum") (λxs H Q=>∃(v d:Addr)(kvs:List (Key×V))(ns:List Int),xs=[.ref v]/\H v=some (lY v d)/\Rd H d (.dK kvs)/\kvs.map (·.2)=ns.map V.int/\Q (.int ns.sum) H):=by
 intro pins s σ H xs us Q I r h;obtain⟨v,d,kvs,ns,rfl,hv,hz,en,q⟩:=h;obtain⟨u,rfl,ru⟩:=vals1 r;cases ru;obtain⟨_,hsys,vs,rel,dd⟩:=rW I.hok hz;obtain⟨ep,da⟩:=dd.dictAt;obtain⟨hv',_⟩:=(show fP X.prog X.w H s.heap v (lY v d)from I.hok v _ hv)
 have hl:kvs.length=vs.length:=rel.length;have hlt:=da.lt_size;have hne:d≠s.heap.objs.size:=d8 hlt;have W:=(Walks.dictValues (prog:=X.prog) (w:=X.w) (A:=X.A.in1) (knd:=di X.prog X.w) (I.ok.hd hc) s.heap.objs.size d hne vs ep).toS;have Dp:kvs.length=ns.length:=by have:=ff List.length en;simpa using this
 refine call_sum_walkAnyS (wpAny_pyIter_values hv' da ?_);refine⟨s.heap.objs.size,_,_,_,_,_,_,λi=>ns.getD i 0,Z,W,⟨⟨_,eT _ rfl,Z,Z⟩,da.push _⟩,λb hb=>?_,λi x hP=>?_,λs' t' hm=>?_⟩
 .rcases cK.mp hb with rfl|hb
  .exact bU (eT _ rfl)
  .obtain rfl:=eX.mp hb;exact(da.push _).lt_size
 .obtain ⟨k,hk⟩:=hP;have hil:i<ns.length:=by have:=(dY.mp hk).1;omega
  have hik:i<kvs.length:=by omega
  obtain⟨q',hq',_,rq⟩:=x6 rel (bM hik);rw[hk]at hq';cases hq';have e1:kvs[i].2=V.int (ns.getD i 0):=by have:=ff (λl=>l[i]?) en;simp only[cN,bM hik,bM hil]at this;rw[lu,bM hil];exact fE this
  rw[e1]at rq;exact rq
 .obtain ⟨h',g',d',tk',os'⟩:=s';have e1:g'=s.gens:=hm.gens;have e2:d'=s.drawn:=hm.drawn;have e3:os'=s.os:=hm.os;subst e1 e2 e3;have hsz:vs.length=ns.length:=by omega
  rw[hsz,preSum_getD,JC (aO _)];exact⟨.int ns.sum,H,I.kept (h':=h') (t':=tk') λb o e=>hm.heap b o (λhb=>absurd (bU e) ((eX.mp hb)▸i7 _)) (b9 _ e),⟨t',Z⟩,q⟩
theorem Q0(hc:X.calm=true):i_ X (.type "list") (λxs H Q=>∃(d:Addr)(kvs:List (Key×V)),xs=[.ref d]/\Rd H d (.dK kvs)/\∀l,H l=none->Q (.ref l) (upd H l (.lst (kvs.map λp=>kV p.1)))):=by
 intro pins s σ H xs us Q I r h;obtain⟨d,kvs,rfl,hz,q⟩:=h;obtain⟨u,rfl,ru⟩:=vals1 r;cases ru;obtain⟨hsz,hsys,vs,rel,dd⟩:=rW I.hok hz;obtain⟨ep,da⟩:=dd.dictAt;have hl:kvs.length=vs.length:=rel.length;refine ER (I.ok.hd hc) hsys da (by omega) λh' tk acc' c' kp e it=>?_;refine⟨.ref s.heap.objs.size,_,I.laid (t':=tk) kp (aO _) (show fP X.prog X.w _ h' _ (.lst (kvs.map λp=>kV p.1))from⟨by rw[aH];exact hsz,acc'.toList,c',?_,by rw[e]⟩),Z,q _ I.fresh⟩;obtain⟨sz,hit⟩:=it;have hA:acc'.toList.length=acc'.size:=by simp
 have hB:(kvs.map λp=>kV p.1).length=acc'.toList.length:=by rw[aH];omega
 refine GH hB λi x y hx hy=>?_;rw[cN]at hx;obtain⟨p,hp,rfl⟩:=nH.mp hx;obtain⟨k,v,hk,hkk⟩:=hit i y (by simpa using hy);obtain⟨q',hq',ek,_⟩:=x6 rel hp;rw[hk]at hq';cases hq';rw[ek];exact Kg hkk
end
def dz:St->List Nat->List V->St
 | σ,k::ks,v::vs=>dz (σ.set k (some v)) ks vs
 | σ,_,_=>σ
theorem Dz{k:Nat}{v:Option V}:∀{ks:List Nat}{vs:List V}{σ:St},k∉ks->(dz σ ks vs).set k v=dz (σ.set k v) ks vs
 | [],_,_,_=>by unfold dz;rfl
 | _::_,[],_,_=>by unfold dz;rfl
 | j::ks,w::vs,σ,h=>by have hj:k≠j:=λe=>h (by rw[e];exact cU);show(dz (σ.set j (some w)) ks vs).set k v=dz ((σ.set k v).set j (some w)) ks vs;rw[Dz (λm=>h (cA _ m)),List.set_comm _ _ hj]
theorem pV:∀{ks:List Nat}{vs ws:List V}{σ:St},ks.Nodup->vs.length=ks.length->ws.length=ks.length->dz (dz σ ks vs) ks ws=dz σ ks ws
 | [],[],[],_,_,_,_=>rfl
 | k::ks,v::vs,w::ws,σ,nd,h1,h2=>by have nk:=(fX.mp nd).1;show dz ((dz (σ.set k (some v)) ks vs).set k (some w)) ks ws=dz (σ.set k (some w)) ks ws;rw[Dz nk,wm,pV (fX.mp nd).2 (by simpa using h1) (by simpa using h2)]
def SH:List Nat->C4
 | []=>Zn
 | k::ks=>Wt (rS k) (SH ks)
theorem DA{Q:St->Hp->Prop}{H:Hp}:∀{ks:List Nat}{vs:List V}{σ:St},vs.length=ks.length->Q (dz σ ks vs) H->SH ks vs σ H Q
 | [],[],_,_,q=>⟨Z,q⟩
 | k::ks,v::vs,σ,h,q=>⟨v,vs,Z,DA (by simpa using h) q⟩
theorem x8(ks:List Nat){Q:VK}(Pv:Nat->List V->Hp->Prop)(nd:ks.Nodup)(hn:n<=100000)(h0:Pv 0 [] (upd H acc (.lst [])))(hgo:∀i out H1,i<n->H1 acc=some (.lst out)->Pv i out H1->J.go i H1)(hst:∀out H1,H1 acc=some (.lst out)->Pv n out H1->J.stop n H1)(hs:∀(i:Nat) (x:V) (out:List V) (H1 H2:Hp),i<n->out.length=i->H1 acc=some (.lst out)->Pv i out H1->J.zV i H1 x H2->
    ∃t vs,x =.ref t/\dG K H2 t vs/\vs.length=ks.length/\te (dz σ2 ks vs) H2 (yE Pv i acc out))(hd:∀(out:List V) (H1:Hp),out.length=n->H1 acc=some (.lst out)->Pv n out H1->Q (.ref acc) H1):
  Dl J (zT K ks.length (SH ks)) te acc σ2 H Q:=by
 refine⟨λi m σ' H'=>m=n-i/\i<=n/\(∀ws,ws.length=ks.length->dz σ' ks ws=dz σ2 ks ws)/\∃out,out.length=i/\H' acc=some (.lst out)/\Pv i out H',⟨n,by simp,fM _,λ_ _=>rfl,[],Z,ai,h0⟩,?_⟩
 rintro i m σ' H' ⟨rfl,hi,hσ,out,ho,ha,p⟩
 by_cases hlt:i<n
 . refine .inr ⟨hgo i out H' hlt ha p,λσ3=>∀ws,ws.length=ks.length->dz σ3 ks ws=dz σ2 ks ws,(yE Pv i acc out),λσ3 v H4 hS ⟨a,b⟩=>?_,λx H1 y=>?_⟩
   . refine⟨out,a,?_,n-(i+1),by omega,Z,hlt,hS,out++[v],by rw[dD,ho];rfl,ai,b⟩
     have:sizeLine=16777216:=kP
     omega
   . obtain⟨t,vs,rfl,sq,hl,q⟩:=hs i x out H' H1 hlt ho ha p y
     refine⟨t,vs,Z,sq,hl,DA hl ⟨λws hw=>?_,?_⟩⟩
     . rw[pV nd hl hw];exact hσ ws hw
     . rw[hσ vs hl];exact q
 . have e:i=n:=by omega
   subst e
   exact .inl ⟨hst out H' ha p,hd out H' ho ha p⟩
theorem Ym(ks:List Nat){Q:VK}(Pv:Nat->List V->Hp->Prop)(nd:ks.Nodup)(hn:n<=100000)(h0:Pv 0 [] (upd H acc (.lst [])))(hgo:∀i out H1,i<n->H1 acc=some (.lst out)->Pv i out H1->J.go i H1)(hst:∀out H1,H1 acc=some (.lst out)->Pv n out H1->J.stop n H1)(hs:∀(i:Nat) (x:V) (out:List V) (H1 H2:Hp),i<n->out.length<=i->H1 acc=some (.lst out)->Pv i out H1->J.zV i H1 x H2->
    ∃t vs,x =.ref t/\dG K H2 t vs/\vs.length=ks.length/\tc (dz σ2 ks vs) H2 (WC te (dz σ2 ks vs) Pv i acc out))(hd:∀(out:List V) (H1:Hp),out.length<=n->H1 acc=some (.lst out)->Pv n out H1->Q (.ref acc) H1):
  Dw J (zT K ks.length (SH ks)) tc te acc σ2 H Q:=by
 refine⟨λi m σ' H'=>m=n-i/\i<=n/\(∀ws,ws.length=ks.length->dz σ' ks ws=dz σ2 ks ws)/\∃out,out.length<=i/\H' acc=some (.lst out)/\Pv i out H',⟨n,by simp,fM _,λ_ _=>rfl,[],aO _,ai,h0⟩,?_⟩
 rintro i m σ' H' ⟨rfl,hi,hσ,out,ho,ha,p⟩
 by_cases hlt:i<n
 . refine .inr ⟨hgo i out H' hlt ha p,λσ3=>∀ws,ws.length=ks.length->dz σ3 ks ws=dz σ2 ks ws,(yE Pv i acc out),λH3=>H3 acc=some (.lst out)/\Pv (i+1) out H3,λσ3 v H4 hS ⟨a,b⟩=>?_,λσ3 H4 hS ⟨a,b⟩=>?_,λx H1 y=>?_⟩
   . refine⟨out,a,?_,n-(i+1),by omega,Z,hlt,hS,out++[v],by rw[dD];exact Nat.succ_le_succ ho,ai,b⟩
     have:sizeLine=16777216:=kP
     omega
   . exact⟨n-(i+1),by omega,Z,hlt,hS,out,by omega,a,b⟩
   . obtain⟨t,vs,rfl,sq,hl,q⟩:=hs i x out H' H1 hlt ho ha p y
     refine⟨t,vs,Z,sq,hl,DA hl ⟨λws hw=>?_,?_⟩⟩
     . rw[pV nd hl hw];exact hσ ws hw
     . rw[hσ vs hl];exact q
 . have e:i=n:=by omega
   subst e
   exact .inl ⟨hst out H' ha p,hd out H' ho ha p⟩
theorem mF(k:Nat){Q:VK}(Pv:Nat->List V->Hp->Prop)(hn:n<=100000)(h0:Pv 0 [] (upd H acc (.lst [])))(hgo:∀i out H1,i<n->H1 acc=some (.lst out)->Pv i out H1->J.go i H1)(hst:∀out H1,H1 acc=some (.lst out)->Pv n out H1->J.stop n H1)(hs:∀(i:Nat) (x:V) (out:List V) (H1 H2:Hp),i<n->out.length=i->H1 acc=some (.lst out)->Pv i out H1->J.zV i H1 x H2->
    te (σ2.set k (some x)) H2 (yE Pv i acc out))(hd:∀(out:List V) (H1:Hp),out.length=n->H1 acc=some (.lst out)->Pv n out H1->Q (.ref acc) H1):
  Dl J (rS k) te acc σ2 H Q:=by
 refine⟨λi m σ' H'=>m=n-i/\i<=n/\(∀w:Option V,σ'.set k w=σ2.set k w)/\∃out,out.length=i/\H' acc=some (.lst out)/\Pv i out H',⟨n,by simp,fM _,λ_=>rfl,[],Z,ai,h0⟩,?_⟩
 rintro i m σ' H' ⟨rfl,hi,hσ,out,ho,ha,p⟩
 by_cases hlt:i<n
 . refine .inr ⟨hgo i out H' hlt ha p,λσ3=>∀w:Option V,σ3.set k w=σ2.set k w,(yE Pv i acc out),λσ3 v H4 hS ⟨a,b⟩=>?_,λx H1 y=>?_⟩
   . refine⟨out,a,?_,n-(i+1),by omega,Z,hlt,hS,out++[v],by rw[dD,ho];rfl,ai,b⟩
     have:sizeLine=16777216:=kP
     omega
   . refine⟨λw=>by rw[wm];exact hσ w,?_⟩
     rw[hσ]
     exact hs i x out H' H1 hlt ho ha p y
 . have e:i=n:=by omega
   subst e
   exact .inl ⟨hst out H' ha p,hd out H' ho ha p⟩
theorem Yn(k:Nat){Q:VK}(Pv:Nat->List V->Hp->Prop)(hn:n<=100000)(h0:Pv 0 [] (upd H acc (.lst [])))(hgo:∀i out H1,i<n->H1 acc=some (.lst out)->Pv i out H1->J.go i H1)(hst:∀out H1,H1 acc=some (.lst out)->Pv n out H1->J.stop n H1)(hs:∀(i:Nat) (x:V) (out:List V) (H1 H2:Hp),i<n->out.length<=i->H1 acc=some (.lst out)->Pv i out H1->J.zV i H1 x H2->
    tc (σ2.set k (some x)) H2 (WC te (σ2.set k (some x)) Pv i acc out))(hd:∀(out:List V) (H1:Hp),out.length<=n->H1 acc=some (.lst out)->Pv n out H1->Q (.ref acc) H1):
  Dw J (rS k) tc te acc σ2 H Q:=by
 refine⟨λi m σ' H'=>m=n-i/\i<=n/\(∀w:Option V,σ'.set k w=σ2.set k w)/\∃out,out.length<=i/\H' acc=some (.lst out)/\Pv i out H',⟨n,by simp,fM _,λ_=>rfl,[],aO _,ai,h0⟩,?_⟩
 rintro i m σ' H' ⟨rfl,hi,hσ,out,ho,ha,p⟩
 by_cases hlt:i<n
 . refine .inr ⟨hgo i out H' hlt ha p,λσ3=>∀w:Option V,σ3.set k w=σ2.set k w,(yE Pv i acc out),λH3=>H3 acc=some (.lst out)/\Pv (i+1) out H3,λσ3 v H4 hS ⟨a,b⟩=>?_,λσ3 H4 hS ⟨a,b⟩=>?_,λx H1 y=>?_⟩
   . refine⟨out,a,?_,n-(i+1),by omega,Z,hlt,hS,out++[v],by rw[dD];exact Nat.succ_le_succ ho,ai,b⟩
     have:sizeLine=16777216:=kP
     omega
   . exact⟨n-(i+1),by omega,Z,hlt,hS,out,by omega,a,b⟩
   . refine⟨λw=>by rw[wm];exact hσ w,?_⟩
     rw[hσ]
     exact hs i x out H' H1 hlt ho ha p y
 . have e:i=n:=by omega
   subst e
   exact .inl ⟨hst out H' ha p,hd out H' ho ha p⟩
structure Mn(P:Program)(w:World)(K:Fg)(mg:SO)(base:Heap)(k:Nat)(C:Addr)(m:Str)(ps:List Str)(sp:Sp):Prop where
 ex:∃f fd,j_ P w K mg base uW k f fd ps sp/\Binds K fd ps []/\Meth K C m f/\qK K C
structure Cn(P:Program)(w:World)(K:Fg)(mg:SO)(base:Heap)(k:Nat)(x:Str)(C:Addr)(ps:List Str)(sp:Sp):Prop where
 ex:∃f fd,j_ P w K mg base uW k f fd ps sp/\Binds K fd ps []/\Mk K C f/\mg x=some (.ref C)
section
variable {X:Cx}
inductive adt(x:V)(y:V)(H:Hp)(Q:VK):Prop
 |mk(i j:_)(_:x =.int i)(_:y =.int j)(_:QM i j)(_:Q (.int (i*j)) H)
theorem Yo:JT X .Mult adt:=by
 rintro pins s σ H x y u v Q I rx ry ⟨i,j,rfl,rfl,⟨m,n,h1,h2,h3⟩,q⟩;obtain⟨t,rfl⟩:=(show ∃t,u=Value.int i t from rx)
 obtain⟨t',rfl⟩:=(show ∃t',v=Value.int j t' from ry)
 exact PyProof.Rows.imul_int ⟨.int (i*j),H,I.tok _,⟨_,Z⟩,q⟩ (IntMulOk.of_le (Qi.mpr h1) (Qi.mpr h2) h3)
end
structure iG(K:Fg)(C:Addr)(m qual:Str)(st:Stmt)(f:Addr)(fd:FuncData):Prop where
 fn:Gz K m qual st f fd
 me:Meth K C m f
 cl:qK K C
variable {mg:SO}{base:Heap}{C f:Addr}{qual:Str}{fd:FuncData}{N ps:List Str}{sp:Sp}
theorem iG.ok{w:World}{m:Str}{st:Stmt}{k:Nat}(F:iG K C m qual st f fd)(S:aS N ps (aF st))(len:∀vs H Q E,sp vs H Q E->vs.length=ps.length)(hbody:∀(cdv:Value) (A:Around) (outer:List Env) (s:Shared) (H:Hp) (vs:List V) (Q:VK) (E:XK),fm k (A.deeper (envOfC qual (aF st) s.heap.objs.size f cdv))->sp vs H Q E->
    ∃t,wF (tP uW P w K mg base N qual (aF st) f cdv A outer s H E).BA (dR st) t/\t { nx:=λ_ H'=>Q .cW H',rt:=Q } (start N vs) H)(h:∀(kV doc pm:Value) (an:Option Addr) (cdv ct:Value) (us:List Value),us.length=ps.length->bindArgs (PySem.W.fnOf m qual (fZ st) (dR st) (aF st) .none kV doc pm an cdv ct) ⟨us,[]⟩=pure (ps.zip us)):
  Mn P w K mg base (k+1) C m ps sp:=⟨f,fd,F.fn.ok S len hbody,F.fn.binds h,F.me,F.cl⟩
structure GJ(K:Fg)(mg:SO)(x:Str)(C:Addr)(qual:Str)(st:Stmt)(f:Addr)(fd:FuncData):Prop where
 fn:Gz K "__init__" qual st f fd
 mks:Mk K C f
 name:mg x=some (.ref C)
theorem GJ.ok{w:World}{st:Stmt}{k:Nat}(F:GJ K mg x C qual st f fd)(S:aS N ps (aF st))(len:∀vs H Q E,sp vs H Q E->vs.length=ps.length)(hbody:∀(cdv:Value) (A:Around) (outer:List Env) (s:Shared) (H:Hp) (vs:List V) (Q:VK) (E:XK),fm k (A.deeper (envOfC qual (aF st) s.heap.objs.size f cdv))->sp vs H Q E->
    ∃t,wF (tP uW P w K mg base N qual (aF st) f cdv A outer s H E).BA (dR st) t/\t { nx:=λ_ H'=>Q .cW H',rt:=Q } (start N vs) H)(h:∀(kV doc pm:Value) (an:Option Addr) (cdv ct:Value) (us:List Value),us.length=ps.length->bindArgs (PySem.W.fnOf "__init__" qual (fZ st) (dR st) (aF st) .none kV doc pm an cdv ct) ⟨us,[]⟩=pure (ps.zip us)):
  Cn P w K mg base (k+1) x C ps sp:=⟨f,fd,F.fn.ok S len hbody,F.fn.binds h,F.mks,F.name⟩
abbrev qL:=Nat×Nat×Str
abbrev cg:=Addr->Option qL
abbrev col(n t:Nat):Option qL:=some (n,t,(⟨#[]⟩:Str))
def isTup:HO->Bool
 | .tup _=>true
 | _=>false
def Gh(ρ:cg)(H:Hp):Prop:=∀b c,ρ b=some c->∃o,H b=some o/\isTup o=false
def Fr(n:Nat)(ρ:cg)(H:Hp)(ρ':cg)(H':Hp):Prop:=∀b o,H b=some o->(∀t x,ρ b≠some (n,t,x))->H' b=some o/\ρ' b=ρ b
def c8(ρ:cg)(a:Addr)(c:qL):cg:=λb=>if b=a then some c else ρ b
variable {ρ:cg}
theorem cC{c:qL}:c8 ρ a c a=some c:=aC rfl
variable {b:Addr}
theorem bB{c:qL}(h:b≠a):c8 ρ a c b=ρ b:=aB h
def out(ρ:cg)(H:Hp):Hp:=λb=>if ρ b=none then H b else none
variable {o:HO}
theorem kg(h:H b=some o)(c:ρ b=none):out ρ H b=some o:=by unfold out;rw[aC c];exact h
theorem ie(h:out ρ H b=some o):H b=some o/\ρ b=none:=by
 unfold out at h;split at h
 .next c=>exact⟨h,c⟩
 .cases h
theorem Gh.none(g:Gh ρ H)(h:H b=Option.none):ρ b=Option.none:=by
 cases e:ρ b with
 | none=>rfl
 | some c=>obtain⟨o,q,_⟩:=g b c e;rw[h]at q;cases q
theorem Gh.tup{ρ:cg}{H:Hp}(g:Gh ρ H){b:Addr}{xs:List V}(h:H b=some (.tup xs)):ρ b=Option.none:=by
 cases e:ρ b with
 | none=>rfl
 | some c=>obtain⟨o,q,t⟩:=g b c e;rw[h]at q;cases q;cases t
theorem Gh.same(g:Gh ρ H)(s:aR H H'):Gh ρ H':=λb c e=>let⟨o,h,t⟩:=g b c e;⟨o,s b o h,t⟩
theorem Gh.wr(g:Gh ρ H)(t:isTup o=false):Gh ρ (upd H a o):=λb c e=>by
 by_cases h:b=a
 .rw [h,ai];exact⟨o,Z,t⟩
 .rw [ay h];exact g b c e
theorem Gh.alloc(g:Gh ρ H)(h:H a=Option.none):Gh ρ (upd H a o):=g.same (aG h o)
theorem Gh.color(g:Gh ρ H){c:qL}(h:H a=some o)(t:isTup o=false):Gh (c8 ρ a c) H:=λb d e=>by
 by_cases z:b=a
 .rw [z];exact⟨o,h,t⟩
 .rw [bB z]at e;exact g b d e
theorem Fr.refl:Fr n ρ H ρ H:=λ_ _ h _=>⟨h,Z⟩
variable {ρ1:cg}{H1 H2:Hp}
theorem Fr.trans{ρ2:cg}(a:Fr n ρ H ρ1 H1)(b:Fr n ρ1 H1 ρ2 H2):Fr n ρ H ρ2 H2:=λc o h k=>by obtain⟨h1,e1⟩:=a c o h k;obtain⟨h2,e2⟩:=b c o h1 (by rw[e1];exact k);exact⟨h2,e2.trans e1⟩
theorem Fr.of_same(s:aR H H'):Fr n ρ H ρ H':=λb o h _=>⟨s b o h,Z⟩
theorem Fr.write(c:ρ a=some (n,t,x)):Fr n ρ H ρ (upd H a o):=λb u h k=>by have:b≠a:=λe=>k t x (by rw[e];exact c);rw[ay this];exact⟨h,Z⟩
theorem Fr.color{c:qL}(h:H a=none)(s:aR H H'):Fr n ρ H (c8 ρ a c) H':=λb u e k=>by rw[bB (aD e h)];exact⟨s b u e,Z⟩
variable {ρ':cg}
theorem Fr.out(f:Fr n ρ H ρ' H'):aR (out ρ H) (out ρ' H'):=λb o h=>by obtain⟨h1,c⟩:=ie h;obtain⟨h2,e⟩:=f b o h1 (λt x=>by rw[c];intro z;cases z);exact kg h2 (e.trans c)
theorem Cc(s:aR H H'):aR (out ρ H) (out ρ H'):=λb o h=>by obtain⟨h1,c⟩:=ie h;exact kg (s b o h1) c
structure Pt where
 nm:Str
 ow:Str
 wo:Int
 we:Int
 sc:Int
 row:List Int
structure kI where
 nm:Str
 ow:Str
 wo:Int
 sh:List (Str×Rat)
structure HS where
 own:List Str
 aj:List Pt
 bN:List kI
 nms:List Str
 stp:List Int
 prod:Int
 kn:Nat
 bD:List Int
 bF:List Int
structure HA where
 a:Addr
 dx:Addr
 pl:Addr
 ab:Addr
 as:Addr
 nm:Addr
 bt:Addr
 db:Addr
 cm:Addr
 pu:Addr
 sp:Addr
 kn:Addr
 qs:List (Addr×Addr×Addr)
structure TC where
 hold:Addr
 part:Addr
 bot:Addr
def fT:Nat->List Str->List (Key×V)
 | _,[]=>[]
 | i,o::r=>(Sum.inr o,.int i)::fT (i+1) r
def b8(ps:List Pt)(qs:List (Addr×Addr×Addr)):List (Key×V):=List.zipWith (λp q=>((Sum.inr p.nm:Key),V.ref q.1)) ps qs
def x9(l:List Str):List (Key×V):=l.map λx=>(Sum.inr x,.bl true)
def dU(A:HA):List (Str×V):=[("places",.ref A.pl),("aboard",.ref A.ab),("ashore",.ref A.as),("names",.ref A.nm),("bottom",.ref A.bt),("common",.ref A.cm),("purses",.ref A.pu)]
def c9(p:Pt)(r:Addr):List (Str×V):=[("name",.str p.nm),("owner",.str p.ow),("worth",.int p.wo),("weight",.int p.we),("scale",.int p.sc),("row",.ref r)]
def jY(sp:Addr)(prod:Int)(kn:Addr):List (Str×V):=[("steps",.ref sp),("product",.int prod),("known",.ref kn)]
def Kl(H:Hp)(kvs:List (Key×V))(prod:Int):Prop:=∀p∈kvs,∃(t:Int)(r:Addr),p=(Sum.inl t,V.ref r)/\H r=some (tQ (Jm.fr t prod))
inductive jm(H:Hp):List V->List (Str×Rat)->Prop
 | nil:jm H [] []
 | cons {r f:Addr} {x:Str} {q:Rat} {vs:List V} {l:List (Str×Rat)}:H r=some (.tup [.str x,.ref f])->H f=some (tQ q)->jm H vs l->jm H (.ref r::vs) ((x,q)::l)
inductive j9(n:Nat)(ρ:cg)(H:Hp):List V->List kI->Prop
 | nil:j9 n ρ H [] []
 | cons {r l:Addr} {x:kI} {ss:List V} {vs:List V} {as:List kI}:H r=some (.tup [.str x.nm,.str x.ow,.int x.wo,.ref l])->H l=some (.lst ss)->ρ l=some (n,30,⟨#[]⟩)->jm H ss x.sh->j9 n ρ H vs as->j9 n ρ H (.ref r::vs) (x::as)
structure aL(T:TC)(n:Nat)(ρ:cg)(A:HA)(H:Hp)(st:HS):Prop where
 oa:H A.a=some (.ins T.hold A.dx (dU A))
 ca:ρ A.a=col n 0
 g_:H A.pl=some (.dK (fT 0 st.own))
 gE:ρ A.pl=col n 1
 dB:H A.ab=some (.dK (b8 st.aj A.qs))
 fD:ρ A.ab=col n 2
 nt:∃vs,H A.as=some (.lst vs)/\j9 n ρ H vs st.bN
 gJ:ρ A.as=col n 3
 nu:H A.nm=some (.dK (x9 st.nms))
 gK:ρ A.nm=col n 4
 jc:H A.bt=some (.ins T.bot A.db (jY A.sp st.prod A.kn))
 gM:ρ A.bt=col n 5
 iH:H A.cm=some (.lst (st.bD.map V.int))
 gO:ρ A.cm=col n 6
 jA:H A.pu=some (.lst (st.bF.map V.int))
 cpu:ρ A.pu=col n 7
 lZ:H A.sp=some (.lst (st.stp.map V.int))
 gP:ρ A.sp=col n 8
 okn:∃kvs,H A.kn=some (.dK kvs)/\Kl H kvs st.prod/\kvs.length<=st.kn/\(kvs.map (·.1)).Nodup
 gQ:ρ A.kn=col n 9
 ql:A.qs.length=st.aj.length
 opt:∀(i:Nat)(p:Pt)(q:Addr×Addr×Addr),st.aj[i]?=some p->A.qs[i]?=some q->H q.1=some (.ins T.part q.2.1 (c9 p q.2.2))/\H q.2.2=some (.lst (p.row.map V.int))/\ρ q.1=some (n,20,p.nm)/\ρ q.2.2=some (n,21,p.nm)
theorem DB{c d:qL}(ha:ρ a=some c)(hb:ρ b=some d)(h:c≠d):a≠b:=λe=>by rw[e,hb]at ha;cases ha;exact h rfl
theorem BG{c:qL}(ha:ρ a=none)(hb:ρ b=some c):a≠b:=λe=>by rw[e,hb]at ha;cases ha
theorem jm.mono{l:List (Str×Rat)}(h:jm H vs l)(g:∀b xs,H b=some (.tup xs)->H' b=some (.tup xs)):jm H' vs l:=by
 induction h with
 | nil=>exact .nil
 | cons a b _ ih=>exact .cons (g _ _ a) (g _ _ b) ih
def Kp(n:Nat)(ρ ρ':cg)(H H':Hp)(ts:Nat->Bool):Prop:=(∀b xs,H b=some (.tup xs)->H' b=some (.tup xs))/\∀b t x o,ts t=true->ρ b=some (n,t,x)->H b=some o->H' b=some o/\ρ' b=some (n,t,x)
variable {l:List kI}{ts:Nat->Bool}
theorem j9.keep(h:j9 n ρ H vs l)(k:Kp n ρ ρ' H H' ts)(e:ts 30=true):j9 n ρ' H' vs l:=by
 induction h with
 | nil=>exact .nil
 | cons a b c d _ ih=>exact .cons (k.1 _ _ a) (k.2 _ _ _ _ e c b).1 (k.2 _ _ _ _ e c b).2 (d.mono k.1) ih
theorem dP(g:Gh ρ H)(c:ρ a=some (n,t,x)):Kp n ρ ρ H (upd H a o) (λu=>decide (u≠t)):=by
 refine⟨λb xs h=>?_,λb u y w hu hc h=>⟨?_,hc⟩⟩
 .rw [ay (BG (g.tup h) c)];exact h
 .rw [ay (DB hc c (λe=>by cases e;exact absurd hu (by simp)))];exact h
theorem kz(k:Kp n ρ ρ' H H' ts)(c:ρ b=some (n,t,x))(e:H b=some o)(u:ts t=true:=by decide):H' b=some o:=(k.2 b t x o u c e).1
theorem OP(s:aR H H'):Kp n ρ ρ H H' ts:=⟨λb xs h=>s _ _ h,λb u y w _ hc h=>⟨s _ _ h,hc⟩⟩
variable {T:TC}{A:HA}
theorem aL.same{st:HS}(h:aL T n ρ A H st)(k:Kp n ρ ρ' H H' λ_=>true):aL T n ρ' A H' st:=by
 have z:=λ{b:Addr}{t:Nat}{x:Str}{o:HO}(c:ρ b=some (n,t,x))(e:H b=some o)=>k.2 b t x o rfl c e;obtain⟨vs,h1,h2⟩:=h.nt;obtain⟨kvs,k1,k2,k3⟩:=h.okn;exact⟨(z h.ca h.oa).1,(z h.ca h.oa).2,(z h.gE h.g_).1,(z h.gE h.g_).2,(z h.fD h.dB).1,(z h.fD h.dB).2,⟨vs,(z h.gJ h1).1,h2.keep k rfl⟩,(z h.gJ h1).2,(z h.gK h.nu).1,(z h.gK h.nu).2,(z h.gM h.jc).1,(z h.gM h.jc).2,
  (z h.gO h.iH).1,(z h.gO h.iH).2,(z h.cpu h.jA).1,(z h.cpu h.jA).2,(z h.gP h.lZ).1,(z h.gP h.lZ).2,⟨kvs,(z h.gQ k1).1,λp hp=>let⟨t,r,e,q⟩:=k2 p hp;⟨t,r,e,k.1 _ _ q⟩,k3⟩,(z h.gQ k1).2,h.ql,
  λi p q e1 e2=>let⟨a,b,c,d⟩:=h.opt i p q e1 e2;⟨(z c a).1,(z d b).1,(z c a).2,(z d b).2⟩⟩
theorem aL.mono{st:HS}(h:aL T n ρ A H st)(s:aR H H'):aL T n ρ A H' st:=h.same (OP s)
theorem aL.other{st:HS}(h:aL T m ρ A H st)(f:Fr n ρ H ρ' H')(g:Gh ρ H)(e:m≠n):aL T m ρ' A H' st:=h.same ⟨λb xs q=>(f b _ q λt x=>by rw[g.tup q];intro z;cases z).1,λb t x o _ c q=>by
 obtain⟨a,b'⟩:=f b o q λt' x'=>by rw[c];intro z;cases z;exact e rfl
 exact⟨a,b'.trans c⟩⟩
variable {ss:List V}
theorem j9.snoc{as:List kI}{r l:Addr}{x:kI}(h:j9 n ρ H vs as)(e1:H r=some (.tup [.str x.nm,.str x.ow,.int x.wo,.ref l]))(e2:H l=some (.lst ss))(e3:ρ l=some (n,30,⟨#[]⟩))(e4:jm H ss x.sh):j9 n ρ H (vs++[.ref r]) (as++[x]):=by
 induction h with
 | nil=>exact .cons e1 e2 e3 e4 .nil
 | cons a b c d _ ih=>exact .cons a b c d ih
theorem Bg{p0 p1:Pt}:∀{ps:List Pt}{qs:List (Addr×Addr×Addr)}{i:Nat},ps[i]?=some p0->p1.nm=p0.nm->b8 (ps.set i p1) qs=b8 ps qs
 | [],_,_,h,_=>by simp at h
 | _::_,[],_,_,_=>by simp[b8]
 | p::ps,q::qs,0,h,e=>by
  have:p=p0:=by simpa using h
  simp[b8,e,this]
 | p::ps,q::qs,i+1,h,e=>by have:=Bg (qs:=qs) (by simpa using h:ps[i]?=some p0) e;simp only[b8,JH,EC]at this ⊢;rw[this]
variable {j:Nat}{p:Pt}
theorem DC{ps:List Pt}(nd:(ps.map (·.nm)).Nodup){q:Pt}(h1:ps[i]?=some p)(h2:ps[j]?=some q)(e:p.nm=q.nm):i=j:=by
 have a:(ps.map (·.nm))[i]?=some p.nm:=by rw[cN,h1];rfl
 have b:(ps.map (·.nm))[j]?=some p.nm:=by rw[cN,h2,e];rfl
 exact BY nd a b
variable {p0 p1:Pt}{q0:Addr×Addr×Addr}
theorem Yp{st:HS}(h:aL T n ρ A H st)(k:Kp n ρ ρ H H' ts)(nd:(st.aj.map (·.nm)).Nodup)(ep:st.aj[i]?=some p0)(eq:A.qs[i]?=some q0)(e1:p1.nm=p0.nm)(hw:H' q0.1=some (.ins T.part q0.2.1 (c9 p1 q0.2.2)))(hs:∀{b:Addr} {t:Nat} {x:Str} {o:HO},ρ b=some (n,t,x)->t≠20\/x≠p0.nm->H b=some o->H' b=some o)(er:(.lst (p0.row.map V.int):HO) =.lst (p1.row.map V.int)):
  ∀(j:Nat)(p:Pt)(q:Addr×Addr×Addr),(st.aj.set i p1)[j]?=some p->A.qs[j]?=some q->H' q.1=some (.ins T.part q.2.1 (c9 p q.2.2))/\H' q.2.2=some (.lst (p.row.map V.int))/\ρ q.1=some (n,20,p.nm)/\ρ q.2.2=some (n,21,p.nm):=by
 intro j p q ej eq'
 by_cases hj:i=j
 . subst hj
   rw[eq]at eq';cases eq'
   rw[qM (dY.mp ep).1]at ej
   cases ej
   obtain⟨a,b,c,d⟩:=h.opt i p0 q0 ep eq
   exact⟨hw,by rw[<-er];exact hs d (.inl (by decide)) b,by rw[e1];exact c,by rw[e1];exact d⟩
 . rw[zR hj]at ej
   obtain⟨a,b,c,d⟩:=h.opt j p q ej eq'
   exact⟨hs c (.inr λe=>hj (DC nd ep ej e.symm)) a,hs d (.inl (by decide)) b,c,d⟩
theorem Vi{st:HS}(h:aL T n ρ A H st)(nd:(st.aj.map (·.nm)).Nodup){l:List Int}(ep:st.aj[i]?=some p0)(eq:A.qs[i]?=some q0)(hw:H' q0.2.2=some (.lst (l.map V.int)))(hs:∀{b:Addr} {t:Nat} {x:Str} {o:HO},ρ b=some (n,t,x)->t≠21\/x≠p0.nm->H b=some o->H' b=some o):
  ∀(j:Nat)(p:Pt)(q:Addr×Addr×Addr),(st.aj.set i { p0 with row:=l })[j]?=some p->A.qs[j]?=some q->H' q.1=some (.ins T.part q.2.1 (c9 p q.2.2))/\H' q.2.2=some (.lst (p.row.map V.int))/\ρ q.1=some (n,20,p.nm)/\ρ q.2.2=some (n,21,p.nm):=by
 intro j p q ej eq'
 by_cases hj:i=j
 . subst hj
   rw[eq]at eq';cases eq'
   rw[qM (dY.mp ep).1]at ej
   cases ej
   obtain⟨a,b,c,d⟩:=h.opt i p0 q0 ep eq
   exact⟨hs c (.inl (by decide)) a,hw,c,d⟩
 . rw[zR hj]at ej
   obtain⟨a,b,c,d⟩:=h.opt j p q ej eq'
   exact⟨hs c (.inl (by decide)) a,hs d (.inr λe=>hj (DC nd ep ej e.symm)) b,c,d⟩
theorem Ag(c:ρ a=some (n,t,x)):∀{b:Addr}{u:Nat}{y:Str}{w:HO},ρ b=some (n,u,y)->u≠t\/y≠x->H b=some w->upd H a o b=some w:=λ{b u y w} hc hu h=>by rw[ay (DB hc c (λe=>by cases e;rcases hu with z|z <;> exact z rfl))];exact h
theorem aL.aap{st:HS}(h:aL T n ρ A H st)(g:Gh ρ H)(l:List Str):aL T n ρ A (upd H A.pl (.dK (fT 0 l))) { st with own:=l }:=by have k:=dP (o:=.dK (fT 0 l)) g h.gE;obtain⟨vs,h1,h2⟩:=h.nt;obtain⟨kvs,k1,k2,k3⟩:=h.okn;exact⟨kz k h.ca h.oa,h.ca,ai,h.gE,kz k h.fD h.dB,h.fD,⟨vs,kz k h.gJ h1,h2.keep k (by decide)⟩,h.gJ,kz k h.gK h.nu,h.gK,kz k h.gM h.jc,h.gM,kz k h.gO h.iH,h.gO,kz k h.cpu h.jA,h.cpu,kz k h.gP h.lZ,h.gP,⟨kvs,kz k h.gQ k1,λp hp=>let⟨t,r,e,q⟩:=k2 p hp;⟨t,r,e,k.1 _ _ q⟩,k3⟩,h.gQ,h.ql,λi p q e1 e2=>let⟨a,b,c,d⟩:=h.opt i p q e1 e2;⟨kz k c a,kz k d b,c,d⟩⟩
theorem aL.Km{st:HS}(h:aL T n ρ A H st)(g:Gh ρ H)(ps:List Pt)(qs:List (Addr×Addr×Addr))(el:qs.length=ps.length)(hp:∀(i:Nat) (p:Pt) (q:Addr×Addr×Addr),ps[i]?=some p->qs[i]?=some q->H q.1=some (.ins T.part q.2.1 (c9 p q.2.2))/\H q.2.2=some (.lst (p.row.map V.int))/\ρ q.1=some (n,20,p.nm)/\ρ q.2.2=some (n,21,p.nm)):aL T n ρ { A with qs:=qs } (upd H A.ab (.dK (b8 ps qs))) { st with aj:=ps }:=by have k:=dP (o:=.dK (b8 ps qs)) g h.fD;obtain⟨vs,h1,h2⟩:=h.nt;obtain⟨kvs,k1,k2,k3⟩:=h.okn;exact⟨kz k h.ca h.oa,h.ca,kz k h.gE h.g_,h.gE,ai,h.fD,⟨vs,kz k h.gJ h1,h2.keep k (by decide)⟩,h.gJ,kz k h.gK h.nu,h.gK,kz k h.gM h.jc,h.gM,kz k h.gO h.iH,h.gO,kz k h.cpu h.jA,h.cpu,kz k h.gP h.lZ,h.gP,⟨kvs,kz k h.gQ k1,λp hp=>let⟨t,r,e,q⟩:=k2 p hp;⟨t,r,e,k.1 _ _ q⟩,k3⟩,h.gQ,el,λi p q e1 e2=>let⟨a,b,c,d⟩:=hp i p q e1 e2;⟨kz k c a,kz k d b,c,d⟩⟩
theorem aL.aaq{st:HS}(h:aL T n ρ A H st)(g:Gh ρ H){r l:Addr}{x:kI}{SI:List V}(hv:H A.as=some (.lst SI))(e1:H r=some (.tup [.str x.nm,.str x.ow,.int x.wo,.ref l]))(e2:H l=some (.lst ss))(e3:ρ l=some (n,30,⟨#[]⟩))(e4:jm H ss x.sh):aL T n ρ A (upd H A.as (.lst (SI++[.ref r]))) { st with bN:=st.bN++[x] }:=by have k:=dP (o:=.lst (SI++[.ref r])) g h.gJ;obtain⟨vs,h1,h2⟩:=h.nt;obtain⟨kvs,k1,k2,k3⟩:=h.okn;exact⟨kz k h.ca h.oa,h.ca,kz k h.gE h.g_,h.gE,kz k h.fD h.dB,h.fD,⟨_,ai,by rw[hv]at h1;cases h1;exact(h2.keep k (by decide)).snoc (k.1 _ _ e1) (kz k e3 e2) e3 (e4.mono k.1)⟩,h.gJ,kz k h.gK h.nu,h.gK,kz k h.gM h.jc,h.gM,kz k h.gO h.iH,h.gO,kz k h.cpu h.jA,h.cpu,kz k h.gP h.lZ,h.gP,⟨kvs,kz k h.gQ k1,λp hp=>let⟨t,r,e,q⟩:=k2 p hp;⟨t,r,e,k.1 _ _ q⟩,k3⟩,h.gQ,h.ql,λi p q e1 e2=>let⟨a,b,c,d⟩:=h.opt i p q e1 e2;⟨kz k c a,kz k d b,c,d⟩⟩
theorem aL.aar{st:HS}(h:aL T n ρ A H st)(g:Gh ρ H)(l:List Str):aL T n ρ A (upd H A.nm (.dK (x9 l))) { st with nms:=l }:=by have k:=dP (o:=.dK (x9 l)) g h.gK;obtain⟨vs,h1,h2⟩:=h.nt;obtain⟨kvs,k1,k2,k3⟩:=h.okn;exact⟨kz k h.ca h.oa,h.ca,kz k h.gE h.g_,h.gE,kz k h.fD h.dB,h.fD,⟨vs,kz k h.gJ h1,h2.keep k (by decide)⟩,h.gJ,ai,h.gK,kz k h.gM h.jc,h.gM,kz k h.gO h.iH,h.gO,kz k h.cpu h.jA,h.cpu,kz k h.gP h.lZ,h.gP,⟨kvs,kz k h.gQ k1,λp hp=>let⟨t,r,e,q⟩:=k2 p hp;⟨t,r,e,k.1 _ _ q⟩,k3⟩,h.gQ,h.ql,λi p q e1 e2=>let⟨a,b,c,d⟩:=h.opt i p q e1 e2;⟨kz k c a,kz k d b,c,d⟩⟩
theorem aL.aas{st:HS}(h:aL T n ρ A H st)(g:Gh ρ H)(l:List Int):aL T n ρ A (upd H A.cm (.lst (l.map V.int))) { st with bD:=l }:=by have k:=dP (o:=.lst (l.map V.int)) g h.gO;obtain⟨vs,h1,h2⟩:=h.nt;obtain⟨kvs,k1,k2,k3⟩:=h.okn;exact⟨kz k h.ca h.oa,h.ca,kz k h.gE h.g_,h.gE,kz k h.fD h.dB,h.fD,⟨vs,kz k h.gJ h1,h2.keep k (by decide)⟩,h.gJ,kz k h.gK h.nu,h.gK,kz k h.gM h.jc,h.gM,ai,h.gO,kz k h.cpu h.jA,h.cpu,kz k h.gP h.lZ,h.gP,⟨kvs,kz k h.gQ k1,λp hp=>let⟨t,r,e,q⟩:=k2 p hp;⟨t,r,e,k.1 _ _ q⟩,k3⟩,h.gQ,h.ql,λi p q e1 e2=>let⟨a,b,c,d⟩:=h.opt i p q e1 e2;⟨kz k c a,kz k d b,c,d⟩⟩
theorem aL.aat{st:HS}(h:aL T n ρ A H st)(g:Gh ρ H)(l:List Int):aL T n ρ A (upd H A.pu (.lst (l.map V.int))) { st with bF:=l }:=by have k:=dP (o:=.lst (l.map V.int)) g h.cpu;obtain⟨vs,h1,h2⟩:=h.nt;obtain⟨kvs,k1,k2,k3⟩:=h.okn;exact⟨kz k h.ca h.oa,h.ca,kz k h.gE h.g_,h.gE,kz k h.fD h.dB,h.fD,⟨vs,kz k h.gJ h1,h2.keep k (by decide)⟩,h.gJ,kz k h.gK h.nu,h.gK,kz k h.gM h.jc,h.gM,kz k h.gO h.iH,h.gO,ai,h.cpu,kz k h.gP h.lZ,h.gP,⟨kvs,kz k h.gQ k1,λp hp=>let⟨t,r,e,q⟩:=k2 p hp;⟨t,r,e,k.1 _ _ q⟩,k3⟩,h.gQ,h.ql,λi p q e1 e2=>let⟨a,b,c,d⟩:=h.opt i p q e1 e2;⟨kz k c a,kz k d b,c,d⟩⟩
theorem aL.aau{st:HS}(h:aL T n ρ A H st)(g:Gh ρ H)(l:List Int):aL T n ρ A (upd H A.sp (.lst (l.map V.int))) { st with stp:=l }:=by have k:=dP (o:=.lst (l.map V.int)) g h.gP;obtain⟨vs,h1,h2⟩:=h.nt;obtain⟨kvs,k1,k2,k3⟩:=h.okn;exact⟨kz k h.ca h.oa,h.ca,kz k h.gE h.g_,h.gE,kz k h.fD h.dB,h.fD,⟨vs,kz k h.gJ h1,h2.keep k (by decide)⟩,h.gJ,kz k h.gK h.nu,h.gK,kz k h.gM h.jc,h.gM,kz k h.gO h.iH,h.gO,kz k h.cpu h.jA,h.cpu,ai,h.gP,⟨kvs,kz k h.gQ k1,λp hp=>let⟨t,r,e,q⟩:=k2 p hp;⟨t,r,e,k.1 _ _ q⟩,k3⟩,h.gQ,h.ql,λi p q e1 e2=>let⟨a,b,c,d⟩:=h.opt i p q e1 e2;⟨kz k c a,kz k d b,c,d⟩⟩
theorem aL.SJ{st:HS}(h:aL T n ρ A H st)(g:Gh ρ H)(q:Addr)(l:List Int)(e:H q=some (.lst (l.map V.int)))(c:ρ q=col n 6):aL T n ρ { A with cm:=q } (upd H A.a (.ins T.hold A.dx (dU { A with cm:=q }))) { st with bD:=l }:=by have k:=dP (o:=.ins T.hold A.dx (dU { A with cm:=q })) g h.ca;obtain⟨vs,h1,h2⟩:=h.nt;obtain⟨kvs,k1,k2,k3⟩:=h.okn;exact⟨ai,h.ca,kz k h.gE h.g_,h.gE,kz k h.fD h.dB,h.fD,⟨vs,kz k h.gJ h1,h2.keep k (by decide)⟩,h.gJ,kz k h.gK h.nu,h.gK,kz k h.gM h.jc,h.gM,kz k c e,c,kz k h.cpu h.jA,h.cpu,kz k h.gP h.lZ,h.gP,⟨kvs,kz k h.gQ k1,λp hp=>let⟨t,r,e,q⟩:=k2 p hp;⟨t,r,e,k.1 _ _ q⟩,k3⟩,h.gQ,h.ql,λi p q e1 e2=>let⟨a,b,c,d⟩:=h.opt i p q e1 e2;⟨kz k c a,kz k d b,c,d⟩⟩
theorem aL.Kn{st:HS}(h:aL T n ρ A H st)(g:Gh ρ H)(q:Addr)(l:List Int)(e:H q=some (.lst (l.map V.int)))(c:ρ q=col n 7):aL T n ρ { A with pu:=q } (upd H A.a (.ins T.hold A.dx (dU { A with pu:=q }))) { st with bF:=l }:=by have k:=dP (o:=.ins T.hold A.dx (dU { A with pu:=q })) g h.ca;obtain⟨vs,h1,h2⟩:=h.nt;obtain⟨kvs,k1,k2,k3⟩:=h.okn;exact⟨ai,h.ca,kz k h.gE h.g_,h.gE,kz k h.fD h.dB,h.fD,⟨vs,kz k h.gJ h1,h2.keep k (by decide)⟩,h.gJ,kz k h.gK h.nu,h.gK,kz k h.gM h.jc,h.gM,kz k h.gO h.iH,h.gO,kz k c e,c,kz k h.gP h.lZ,h.gP,⟨kvs,kz k h.gQ k1,λp hp=>let⟨t,r,e,q⟩:=k2 p hp;⟨t,r,e,k.1 _ _ q⟩,k3⟩,h.gQ,h.ql,λi p q e1 e2=>let⟨a,b,c,d⟩:=h.opt i p q e1 e2;⟨kz k c a,kz k d b,c,d⟩⟩
theorem aL.aav{st:HS}(h:aL T n ρ A H st)(g:Gh ρ H)(m:Int)(q:Addr)(e:H q=some (.dK []))(c:ρ q=col n 9):aL T n ρ { A with kn:=q } (upd H A.bt (.ins T.bot A.db (jY A.sp m q))) { st with prod:=m,kn:=0 }:=by have k:=dP (o:=.ins T.bot A.db (jY A.sp m q)) g h.gM;obtain⟨vs,h1,h2⟩:=h.nt;obtain⟨kvs,k1,k2,k3⟩:=h.okn;exact⟨kz k h.ca h.oa,h.ca,kz k h.gE h.g_,h.gE,kz k h.fD h.dB,h.fD,⟨vs,kz k h.gJ h1,h2.keep k (by decide)⟩,h.gJ,kz k h.gK h.nu,h.gK,ai,h.gM,kz k h.gO h.iH,h.gO,kz k h.cpu h.jA,h.cpu,kz k h.gP h.lZ,h.gP,⟨[],kz k c e,(λp hp=>absurd hp (by simp)),aO _,uB⟩,c,h.ql,λi p q e1 e2=>let⟨a,b,c,d⟩:=h.opt i p q e1 e2;⟨kz k c a,kz k d b,c,d⟩⟩
theorem aL.jn{st:HS}(h:aL T n ρ A H st)(g:Gh ρ H)(ep:st.aj[i]?=some p0)(eq:A.qs[i]?=some q0)(e1:p1.nm=p0.nm)(e2:p1.row=p0.row)(nd:(st.aj.map (·.nm)).Nodup):aL T n ρ A (upd H q0.1 (.ins T.part q0.2.1 (c9 p1 q0.2.2))) { st with aj:=st.aj.set i p1 }:=by have k:=dP (o:=.ins T.part q0.2.1 (c9 p1 q0.2.2)) g (h.opt i p0 q0 ep eq).2.2.1;obtain⟨vs,h1,h2⟩:=h.nt;obtain⟨kvs,k1,k2,k3⟩:=h.okn;exact⟨kz k h.ca h.oa,h.ca,kz k h.gE h.g_,h.gE,by rw[Bg ep e1];exact kz k h.fD h.dB,h.fD,⟨vs,kz k h.gJ h1,h2.keep k (by decide)⟩,h.gJ,kz k h.gK h.nu,h.gK,kz k h.gM h.jc,h.gM,kz k h.gO h.iH,h.gO,kz k h.cpu h.jA,h.cpu,kz k h.gP h.lZ,h.gP,⟨kvs,kz k h.gQ k1,λp hp=>let⟨t,r,e,q⟩:=k2 p hp;⟨t,r,e,k.1 _ _ q⟩,k3⟩,h.gQ,by rw[iw];exact h.ql,Yp h k nd ep eq e1 ai (Ag (h.opt i p0 q0 ep eq).2.2.1) (by rw[e2])⟩
theorem aL.Yq{st:HS}(h:aL T n ρ A H st)(g:Gh ρ H)(l:List Int)(ep:st.aj[i]?=some p0)(eq:A.qs[i]?=some q0)(nd:(st.aj.map (·.nm)).Nodup):aL T n ρ A (upd H q0.2.2 (.lst (l.map V.int))) { st with aj:=st.aj.set i { p0 with row:=l } }:=by have k:=dP (o:=.lst (l.map V.int)) g (h.opt i p0 q0 ep eq).2.2.2;obtain⟨vs,h1,h2⟩:=h.nt;obtain⟨kvs,k1,k2,k3⟩:=h.okn;exact⟨kz k h.ca h.oa,h.ca,kz k h.gE h.g_,h.gE,by show _=some (HO.dK (b8 (st.aj.set i { p0 with row:=l }) A.qs));rw[Bg (p1:={ p0 with row:=l }) ep rfl];exact kz k h.fD h.dB,h.fD,⟨vs,kz k h.gJ h1,h2.keep k (by decide)⟩,h.gJ,kz k h.gK h.nu,h.gK,kz k h.gM h.jc,h.gM,kz k h.gO h.iH,h.gO,kz k h.cpu h.jA,h.cpu,kz k h.gP h.lZ,h.gP,⟨kvs,kz k h.gQ k1,λp hp=>let⟨t,r,e,q⟩:=k2 p hp;⟨t,r,e,k.1 _ _ q⟩,k3⟩,h.gQ,by rw[iw];exact h.ql,Vi h nd ep eq ai (Ag (h.opt i p0 q0 ep eq).2.2.2)⟩
structure Txt(K:Fg)(T:TC):Prop where
 cH:qK K T.hold
 cP:qK K T.part
 cB:qK K T.bot
 hpl:fF K T.hold "places"
 hab:fF K T.hold "aboard"
 has:fF K T.hold "ashore"
 hnm:fF K T.hold "names"
 wK:fF K T.hold "bottom"
 wL:fF K T.hold "common"
 zC:fF K T.hold "purses"
 OQ:fF K T.part "name"
 pow:fF K T.part "owner"
 uZ:fF K T.part "worth"
 OR:fF K T.part "weight"
 GK:fF K T.part "scale"
 Ko:fF K T.part "row"
 SK:fF K T.bot "steps"
 GL:fF K T.bot "product"
 SM:fF K T.bot "known"
structure Wf(st:HS):Prop where
 oR:st.own.Nodup
 yI:st.nms.Nodup
 dN:(st.aj.map (·.nm)).Nodup
 sub:∀p∈st.aj,p.nm∈st.nms
 rows:∀p∈st.aj,p.row.length=st.own.length
 ow:∀p∈st.aj,p.ow∈st.own
 gC:st.bD.length=st.own.length
 mG:st.bF.length=st.own.length
 eE:1<=st.prod
 pW:st.prod=st.stp.foldl (·*·) 1
 u0:∀s∈st.stp,2<=s
 kh:st.own.length<=100
 yJ:st.nms.length<=1000
 mH:st.aj.length<=1000
 Ah:st.stp.length<=100
 u6:st.bN.length<=1000
 GN:st.kn<=1000000
 big:Jm.Sz 8000 st.prod
 oS:∀c∈st.bD,0<=c/\c<=st.prod
 sU:∀p∈st.aj,1<=p.sc/\p.sc<=st.prod
 oU:∀p∈st.aj,∀r∈p.row,-st.prod<=r/\r<=st.prod
 pX:∀p∈st.aj,∀t∈List.zipWith (λr c=>p.sc*r+c) p.row st.bD,0<=t/\t<=st.prod
 jI:∀p∈st.aj,1<=p.wo/\0<=p.we
 ES:∀u∈st.bF,Jm.Sz 9000 u
structure HH(T:TC)(n:Nat)(ρ:cg)(A:HA)(H:Hp)(st:HS):Prop where
 g:Gh ρ H
 h:aL T n ρ A H st
 wf:Wf st
def wM(T:TC)(n:Nat)(ρ:cg)(A:HA)(H:Hp)(st:HS)(Q:Hp->Prop):Prop:=∀ρ' A' H',HH T n ρ' A' H' st->A'.a=A.a->Fr n ρ H ρ' H'->Q H'
def hs0:HS:=⟨[],[],[],[],[],1,0,[],[]⟩
theorem wf0:Wf hs0:=by refine⟨uB,uB,uB,?_,?_,?_,Z,Z,?_,Z,?_,?_,?_,?_,?_,?_,?_,?_,?_,?_,?_,?_,?_,?_⟩ <;> first|(intro _ h;exact absurd h (by simp[hs0]))|decide|(show Jm.Sz 8000 1;exact pT (by decide +kernel))
theorem OS:∀{l:List Str}{i:Nat}{o:Str},o∈l->dZ (fT i l) (Sum.inr o)=some (.int ((i+l.idxOf o:Nat):Int))
 | [],_,_,h=>by simp at h
 | x::l,i,o,h=>by
  by_cases e:x=o
  .subst e;rw[show fT i (x::l)=(Sum.inr x,.int i)::fT (i+1) l from rfl,gI rfl];simp
  .rw [show fT i (x::l)=(Sum.inr x,.int i)::fT (i+1) l from rfl,fq (by intro z;exact e (rR z))];have hm:o∈l:=by
    rcases cK.mp h with z|z
    .exact absurd z.symm e
    .exact z
   rw[OS hm];have eb:(x==o)=false:=by simpa using e
   have:(x::l).idxOf o=l.idxOf o+1:=by rw[List.idxOf_cons,eb];rfl
   rw[this];show some (V.int ((i+1+l.idxOf o:Nat):Int))=some (V.int ((i+(l.idxOf o+1):Nat):Int));rw[show i+1+l.idxOf o=i+(l.idxOf o+1)from by omega]
theorem pY:∀{l:List Str}{i:Nat}{o:Str},o∉l->dZ (fT i l) (Sum.inr o)=none
 | [],_,_,_=>rfl
 | x::l,i,o,h=>by rw[show fT i (x::l)=(Sum.inr x,.int i)::fT (i+1) l from rfl,fq (λz=>h (by rw[<-rR z];exact cU))];exact pY λm=>h (cA _ m)
theorem pZ:∀(l:List Str)(i:Nat),(fT i l).length=l.length
 | [],_=>rfl
 | _::l,i=>by rw[show ∀x,fT i (x::l)=(Sum.inr x,.int i)::fT (i+1) l from λ_=>rfl,kM,kM,pZ l]
theorem Kq:∀(l:List Str)(i:Nat)(o:Str),fT i (l++[o])=fT i l++[(Sum.inr o,.int ((i+l.length:Nat):Int))]
 | [],i,o=>rfl
 | x::l,i,o=>by
  show(Sum.inr x,V.int i)::fT (i+1) (l++[o])=_;rw[Kq l (i+1) o];show _=(Sum.inr x,V.int i)::(fT (i+1) l++_)
  rw[kM,show i+1+l.length=i+(l.length+1)from by omega]
theorem Cd:∀(l:List Str)(i:Nat),(fT i l).map (λp=>kV p.1)=l.map V.str
 | [],_=>rfl
 | x::l,i=>by show kV (Sum.inr x)::(fT (i+1) l).map _=V.str x::l.map V.str;rw[Cd l];rfl
variable {qs:List (Addr×Addr×Addr)}
theorem uI{ps:List Pt}{q:Addr×Addr×Addr}(h1:ps[i]?=some p)(h2:qs[i]?=some q):(b8 ps qs)[i]?=some (Sum.inr p.nm,.ref q.1):=by unfold b8;rw[Qg,h1,h2]
theorem uJ{ps:List Pt}(h:qs.length=ps.length):(b8 ps qs).length=ps.length:=by unfold b8;rw[lR,h,yv]
theorem uK:∀{ps:List Pt}{qs:List (Addr×Addr×Addr)}{i:Nat}{p:Pt}{q:Addr×Addr×Addr},(ps.map (·.nm)).Nodup->ps[i]?=some p->qs[i]?=some q->dZ (b8 ps qs) (Sum.inr p.nm)=some (.ref q.1)
 | [],_,_,_,_,_,h,_=>by simp at h
 | _::_,[],_,_,_,_,_,h=>by simp at h
 | a::ps,b::qs,0,p,q,_,h1,h2=>by
  have e1:a=p:=by simpa using h1
  have e2:b=q:=by simpa using h2
  subst e1 e2;exact gI rfl
 | a::ps,b::qs,i+1,p,q,nd,h1,h2=>by
  have nd':=fX.mp (show(a.nm::ps.map (·.nm)).Nodup from nd);have DE:ps[i]?=some p:=by simpa using h1
  rw[show b8 (a::ps) (b::qs)=(Sum.inr a.nm,.ref b.1)::b8 ps qs from rfl,fq (λz=>nd'.1 (a_.mpr ⟨p,cu DE,(rR z).symm⟩))];exact uK nd'.2 DE (by simpa using h2)
theorem p5:∀{ps:List Pt}{qs:List (Addr×Addr×Addr)}{x:Str},(∀p∈ps,p.nm≠x)->dZ (b8 ps qs) (Sum.inr x)=none
 | [],_,_,_=>rfl
 | _::_,[],_,_=>rfl
 | a::ps,b::qs,x,h=>by rw[show b8 (a::ps) (b::qs)=(Sum.inr a.nm,.ref b.1)::b8 ps qs from rfl,fq (λz=>h a cU (rR z))];exact p5 λp hp=>h p (cA _ hp)
theorem Kr{ps:List Pt}(h:qs.length=ps.length)(p:Pt)(q:Addr×Addr×Addr):b8 (ps++[p]) (qs++[q])=b8 ps qs++[(Sum.inr p.nm,.ref q.1)] :=by unfold b8;rw[List.zipWith_append h.symm];rfl
theorem Ai{l:List Str}(h:x∉l):dZ (x9 l) (Sum.inr x)=none:=by
 unfold x9
 induction l with
 | nil=>rfl
 | cons a l ih=>rw[bz,fq (λz=>h (by rw[<-rR z];exact cU))];exact ih λm=>h (cA _ m)
theorem Ks{l:List Str}(h:x∈l):dZ (x9 l) (Sum.inr x)=some (.bl true):=by
 unfold x9
 induction l with
 | nil=>simp at h
 | cons a l ih=>
  rw[bz];by_cases e:a=x
  .exact gI (by rw[e])
  .rw [fq (λz=>e (rR z))];exact ih ((cK.mp h).resolve_left λz=>e z.symm)
theorem aL.find{st:HS}(h:aL T n ρ A H st)(e:st.aj[i]?=some p):∃q,A.qs[i]?=some q/\H q.1=some (.ins T.part q.2.1 (c9 p q.2.2))/\H q.2.2=some (.lst (p.row.map V.int))/\ρ q.1=some (n,20,p.nm)/\ρ q.2.2=some (n,21,p.nm):=by
 have hi:i<A.qs.length:=by rw[h.ql];exact(dY.mp e).1
 exact⟨A.qs[i],bM hi,h.opt i p _ e (bM hi)⟩
def h_(st:HS)(o:Str):HS:={ st with own:=st.own++[o],bD:=st.bD++[0],bF:=st.bF++[0],aj:=st.aj.map λp=>{ p with row:=p.row++[0] } }
def aK(st:HS)(p:Pt):List Int:=List.zipWith (λr c=>p.sc*r+c) p.row st.bD
def lU(st:HS)(tops:List Int):List Int:=List.zipWith (λt c=>t-c) tops st.bD
def wN(st:HS)(p:Pt):HS:={ st with aj:=st.aj++[p],nms:=st.nms++[p.nm] }
def Bh(st:HS)(x o:Str)(wo we:Int):HS:=wN st ⟨x,o,wo,we,1,lU st ((List.replicate st.own.length 0).set (st.own.idxOf o) st.prod)⟩
def aE(st:HS):Int:=(st.aj.map (·.wo)).sum
def gR(st:HS)(p:Pt):List (Str×Rat):=(List.zip st.own (aK st p)).filterMap λx=>if 0<x.2 then some (x.1,Jm.fr x.2 st.prod) else none
def DF(p:Pt):HO:=.tup [.str p.nm,.str p.ow,.int p.wo,.int p.we]
inductive jw(H:Hp):List V->List Pt->Prop
 | nil:jw H [] []
 | cons {r:Addr} {p:Pt} {vs:List V} {ps:List Pt}:H r=some (DF p)->jw H vs ps->jw H (.ref r::vs) (p::ps)
def Ku(n:Nat)(q1 q2:Addr)(ρ:cg)(H:Hp)(ρ':cg)(H':Hp):Prop:=∀b o,H b=some o->(∀t x,ρ b≠some (n,t,x))->b≠q1->b≠q2->H' b=some o/\ρ' b=ρ b
theorem Ku.trans{ρ2:cg}(a:Ku n q1 q2 ρ H ρ1 H1)(b:Fr n ρ1 H1 ρ2 H2):Ku n q1 q2 ρ H ρ2 H2:=λc o h k x y=>by obtain⟨h1,e1⟩:=a c o h k x y;obtain⟨h2,e2⟩:=b c o h1 (by rw[e1];exact k);exact⟨h2,e2.trans e1⟩
theorem Ku.fr{ρ2:cg}(b:Ku n q1 q2 ρ1 H1 ρ2 H2)(a:Fr n ρ H ρ1 H1)(h1:H q1=none)(h2:H q2=none):Fr n ρ H ρ2 H2:=λc o h k=>by obtain⟨e1,e2⟩:=a c o h k;obtain⟨e3,e4⟩:=b c o e1 (by rw[e2];exact k) (aD h h1) (aD h h2);exact⟨e3,e4.trans e2⟩
def isNm(o:Str):Bool:=isName o.cps.toList
inductive aaw(T:TC)(vs:List V)(H:Hp)(Q:VK)(E:XK):Prop
 |mk(p dx:_)(_:vs=[.ref p])(_:H p=some (.ins T.bot dx []))(_:∀sp kn H',H sp=none->H kn=none->sp≠kn->(∀b o,H b=some o->b≠p->H' b=some o)->H' p=some (.ins T.bot dx (jY sp 1 kn))->H' sp=some (.lst [])->H' kn=some (.dK [])->Q .cW H')
def ET(T:TC):Sp:=bx (aaw T)
inductive aax(T:TC)(K:Fg)(vs:List V)(H:Hp)(Q:VK)(E:XK):Prop
 |mk(p dx l:Addr)(pt:Pt)(_:vs=[.ref p,.str pt.nm,.str pt.ow,.int pt.wo,.int pt.we,.int pt.sc,.ref l])(_:H p=some (.ins T.part dx []))(_:aJ K H l (pt.row.map V.int))(_:∀r H',H r=none->(∀b o,H b=some o->b≠p->H' b=some o)->H' p=some (.ins T.part dx (c9 pt r))->H' r=some (.lst (pt.row.map V.int))->Q .cW H')
def Bj(T:TC)(K:Fg):Sp:=bx (aax T K)
inductive aay(T:TC)(vs:List V)(H:Hp)(Q:VK)(E:XK):Prop
 |mk(p dx ρ n:_)(_:vs=[.ref p])(_:H p=some (.ins T.hold dx []))(_:Gh ρ H)(_:ρ p=none)(_:∀ρ' A H',A.a=p->HH T n ρ' A H' hs0->(∀b o,H b=some o->b≠p->H' b=some o/\ρ' b=ρ b)->Q .cW H')
def EU(T:TC):Sp:=bx (aay T)
inductive aaz(T:TC)(vs:List V)(H:Hp)(Q:VK)(E:XK):Prop
 |mk(n ρ A st o:_)(_:vs=[.ref A.a,.str o])(_:aL T n ρ A H st)(_:o∈st.own)(_:Q (.int (st.own.idxOf o:Int)) H)
def Bk(T:TC):Sp:=bx (aaz T)
inductive Yr(T:TC)(vs:List V)(H:Hp)(Q:VK)(E:XK):Prop
 |mk(n ρ A st:_)(i:Nat)(p:Pt)(q:Addr×Addr×Addr)(_:vs=[.ref A.a,.str p.nm])(_:aL T n ρ A H st)(_:(st.aj.map (·.nm)).Nodup)(_:st.aj[i]?=some p)(_:A.qs[i]?=some q)(_:Q (.ref q.1) H)
def Ce(T:TC):Sp:=bx (Yr T)
inductive SN(T:TC)(vs:List V)(H:Hp)(Q:VK)(E:XK):Prop
 |mk(n ρ A st x:_)(_:vs=[.ref A.a,.str x])(_:aL T n ρ A H st)(_:isNm x=true)(_:x∉st.nms)(_:∀H',aR H H'->Q .cW H')
def DG(T:TC):Sp:=bx (SN T)
inductive ag0(T:TC)(K:Fg)(vs:List V)(H:Hp)(Q:VK)(E:XK):Prop
 |mk(n ρ A st l:_)(tops:List Int)(_:vs=[.ref A.a,.ref l])(_:aL T n ρ A H st)(_:aJ K H l (tops.map V.int))(_:tops.length=st.bD.length)(_:tops.length<=1000)(_:∀r H',aR H H'->H r=none->H' r=some (.lst ((lU st tops).map V.int))->Q (.ref r) H')
def Q2(T:TC)(K:Fg):Sp:=bx (ag0 T K)
inductive aaA(T:TC)(vs:List V)(H:Hp)(Q:VK)(E:XK):Prop
 |mk(n ρ A st:_)(i:Nat)(p:Pt)(q:Addr×Addr×Addr)(_:vs=[.ref A.a,.ref q.1])(_:aL T n ρ A H st)(_:Wf st)(_:st.aj[i]?=some p)(_:A.qs[i]?=some q)(_:∀r H',aR H H'->H r=none->H' r=some (.lst ((aK st p).map V.int))->Q (.ref r) H')
def Bl(T:TC):Sp:=bx (aaA T)
inductive adu(T:TC)(vs:List V)(H:Hp)(Q:VK)(E:XK):Prop
 |mk(n ρ A st:_)(q:Addr×Addr×Addr)(p:Pt)(_:vs=[.ref A.a,.ref q.1])(_:HH T n ρ A H st)(_:H q.1=some (.ins T.part q.2.1 (c9 p q.2.2)))(_:H q.2.2=some (.lst (p.row.map V.int)))(_:ρ q.1=none)(_:ρ q.2.2=none)(_:p.nm∉st.nms)(_:Wf (wN st p))(_:∀ρ' A' H',HH T n ρ' A' H' (wN st p:_)->A'.a=A.a->Ku n q.1 q.2.2 ρ H ρ' H'->Q .cW H')
def Kv(T:TC):Sp:=bx (adu T)
inductive aaB(T:TC)(vs:List V)(H:Hp)(Q:VK)(E:XK):Prop
 |mk(n ρ A st o:_)(_:vs=[.ref A.a,.str o])(_:HH T n ρ A H st)(_:isNm o=true)(_:o∉st.own)(_:st.own.length<100)(_:wM T n ρ A H (h_ st o:_) λH'=>Q .cW H')
def EV(T:TC):Sp:=bx (aaB T)
inductive adv(T:TC)(vs:List V)(H:Hp)(Q:VK)(E:XK):Prop
 |mk(n ρ A st x o wo we:_)(_:vs=[.ref A.a,.str x,.str o,.int wo,.int we])(_:HH T n ρ A H st)(_:isNm x=true)(_:x∉st.nms)(_:o∈st.own)(_:1<=wo)(_:0<=we)(_:st.nms.length<1000)(_:st.aj.length<1000)(_:wM T n ρ A H (Bh st x o wo we:_) λH'=>Q .cW H')
def SQ(T:TC):Sp:=bx (adv T)
inductive aaC(T:TC)(vs:List V)(H:Hp)(Q:VK)(E:XK):Prop
 |mk(n ρ A st:_)(_:vs=[.ref A.a])(_:aL T n ρ A H st)(_:st.aj.length<=1000)(_:∀r ws H',aR H H'->H r=none->H' r=some (.lst ws)->jw H' ws st.aj->Q (.ref r) H')
def OT(T:TC):Sp:=bx (aaC T)
inductive aaD(T:TC)(vs:List V)(H:Hp)(Q:VK)(E:XK):Prop
 |mk(n ρ A st:_)(_:vs=[.ref A.a])(_:aL T n ρ A H st)(_:st.aj.length<=1000)(_:∀H',aR H H'->Q (.int (aE st)) H')
def Bm(T:TC):Sp:=bx (aaD T)
inductive Ys(T:TC)(vs:List V)(H:Hp)(Q:VK)(E:XK):Prop
 |mk(n ρ A st:_)(_:vs=[.ref A.a])(_:aL T n ρ A H st)(_:∀r,H r=none->Q (.ref r) (upd H r (.lst (st.own.map V.str))))
def Kw(T:TC):Sp:=bx (Ys T)
inductive aaE(T:TC)(vs:List V)(H:Hp)(Q:VK)(E:XK):Prop
 |mk(bt db sp kn:Addr)(stp:List Int)(prod top:Int)(_:vs=[.ref bt,.int top])(_:H bt=some (.ins T.bot db (jY sp prod kn)))(_:H sp=some (.lst (stp.map V.int)))(_:prod=stp.foldl (·*·) 1)(_:(∀s∈stp,2<=s))(_:Jm.Sz 8000 prod)(_:∀r H',aR H H'->H' r=some (tQ (Jm.fr top prod))->Q (.ref r) H')
def EW(T:TC):Sp:=bx (aaE T)
inductive Yt(T:TC)(vs:List V)(H:Hp)(Q:VK)(E:XK):Prop
 |mk(bt db sp kn:Addr)(stp:List Int)(prod top:Int)(kvs:List (Key×V))(_:vs=[.ref bt,.int top])(_:H bt=some (.ins T.bot db (jY sp prod kn)))(_:H sp=some (.lst (stp.map V.int)))(_:prod=stp.foldl (·*·) 1)(_:(∀s∈stp,2<=s))(_:Jm.Sz 8000 prod)(_:H kn=some (.dK kvs))(_:Kl H kvs prod)(_:kvs.length<10000000)(_:(kvs.map (·.1)).Nodup)(_:∀r H' kvs',(∀b o,H b=some o->b≠kn->H' b=some o)->H' kn=some (.dK kvs')->Kl H' kvs' prod->kvs'.length<=kvs.length+1->(kvs'.map (·.1)).Nodup->H' r=some (tQ (Jm.fr top prod))->Q (.ref r) H')
def Ky(T:TC):Sp:=bx (Yt T)
inductive ki(ρ:cg)(H:Hp):List V->List kI->Prop
 | nil:ki ρ H [] []
 | cons {r l:Addr} {x:kI} {ss:List V} {vs:List V} {as:List kI}:H r=some (.tup [.str x.nm,.str x.ow,.int x.wo,.ref l])->H l=some (.lst ss)->ρ l=none->jm H ss x.sh->ki ρ H vs as->ki ρ H (.ref r::vs) (x::as)
inductive Yu(T:TC)(vs:List V)(H:Hp)(Q:VK)(E:XK):Prop
 |mk(n ρ A st:_)(_:vs=[.ref A.a])(_:HH T n ρ A H st)(_:∀r ws H',aR H H'->H r=none->H' r=some (.lst ws)->ki ρ H' ws st.bN->Q (.ref r) H')
def Kz(T:TC):Sp:=bx (Yu T)
theorem jw.mono{l:List Pt}(h:jw H vs l)(g:∀b xs,H b=some (.tup xs)->H' b=some (.tup xs)):jw H' vs l:=by
 induction h with
 | nil=>exact .nil
 | cons a _ ih=>exact .cons (g _ _ a) ih
theorem jw.snoc{l:List Pt}{r:Addr}(h:jw H vs l)(e:H r=some (DF p)):jw H (vs++[.ref r]) (l++[p]):=by
 induction h with
 | nil=>exact .cons e .nil
 | cons a _ ih=>exact .cons a ih
theorem jm.snoc{l:List (Str×Rat)}{r:Addr}{q:Rat}(h:jm H vs l)(e:H r=some (.tup [.str x,.ref f]))(e2:H f=some (tQ q)):jm H (vs++[.ref r]) (l++[(x,q)]):=by
 induction h with
 | nil=>exact .cons e e2 .nil
 | cons a b _ ih=>exact .cons a b ih
theorem ig{p:Addr}(h:H p=none\/∃u,H p=some u/\isTup u=false):∀b xs,H b=some (.tup xs)->upd H p o b=some (.tup xs):=λb xs e=>by
 rw[ay (λz=>?_)]
 .exact e
 .rw [z]at e;rcases h with h|⟨u,h,t⟩
  .rw [h]at e;cases e
  .rw [h]at e;cases e;cases t
theorem KA(h:isNm x=true):x.cps.toList.length<=100000:=by unfold isNm isName at h;have:=eF (nI.mp (nI.mp h).1).2;omega
theorem qR{o:Obj}(e:H d=some (.dK kvs))(s:aR (upd H d (.fB o (.dK kvs))) H1):aR H (upd H1 d (.dK kvs)):=λb u q=>by
 by_cases h:b=d
 .rw [h,e]at q;cases q;rw[h];exact ai
 .rw [ay h];exact s b u (by rw[ay h];exact q)
theorem eZ{o:Obj}{u:HO}(e:H d=some (.dK kvs))(q:H b=some u)(h:∀k,u ≠ .dK k):upd H d (.fB o (.dK kvs)) b=some u:=by rw[ay (λz=>by rw[z,e]at q;cases q;exact h _ rfl)];exact q
theorem jq{o:Obj}(e:H d=some (.dK kvs))(q:upd H d (.fB o (.dK kvs)) b=none):H b=none:=by
 by_cases h:b=d
 .rw [h,ai]at q;cases q
 .rw [ay h]at q;exact q
theorem aR.tups(s:aR H H'):∀b xs,H b=some (.tup xs)->H' b=some (.tup xs):=λb xs h=>s b _ h
theorem take_snoc{α:Type}{l:List α}{x:α}(h:l[i]?=some x):l.take (i+1)=l.take i++[x] :=by rw[List.take_add_one,h];rfl
theorem sV{α β γ:Type}(f:α->β->γ){xs:List α}{ys:List β}{x:α}{y:β}(h1:xs[i]?=some x)(h2:ys[i]?=some y):List.zipWith f (xs.take (i+1)) (ys.take (i+1))=List.zipWith f (xs.take i) (ys.take i)++[f x y] :=by have l1:=(dY.mp h1).1;have l2:=(dY.mp h2).1;rw[take_snoc h1,take_snoc h2,List.zipWith_append (by rw[kN,kN];omega)];rfl
theorem gu{l:List Int}{v:V}(h:(l.map V.int)[i]?=some v):∃z,v =.int z/\l[i]?=some z:=by rw[cN]at h;obtain⟨z,hz,rfl⟩:=nH.mp h;exact⟨z,Z,hz⟩
theorem HH.mono{st:HS}(h:HH T n ρ A H st)(s:aR H H'):HH T n ρ A H' st:=⟨h.g.same s,h.h.mono s,h.wf⟩
theorem sW{u:HO}(c:ρ a=none)(h:H a=some u)(t:isTup u=false):Kp n ρ ρ H (upd H a o) ts:=⟨ig (.inr ⟨u,h,t⟩),λb x y w _ hc e=>⟨by rw[ay (λz=>by rw[z,c]at hc;cases hc)];exact e,hc⟩⟩
theorem HH.DH{st:HS}{u:HO}(h:HH T n ρ A H st)(c:ρ a=none)(e:H a=some u)(t:isTup u=false)(t2:isTup o=false):HH T n ρ A (upd H a o) st:=⟨h.g.wr t2,h.h.same (sW c e t),h.wf⟩
theorem Fr.new(f:Fr n ρ H ρ' H')(h:H a=none):Fr n ρ H ρ' (upd H' a o):=λb u e k=>by rw[ay (aD e h)];exact f b u e k
theorem GO{α β γ:Type}(f:α->β->γ){xs:List α}{ys:List β}(h:xs.length=ys.length)(x:α)(y:β):List.zipWith f (xs++[x]) (ys++[y])=List.zipWith f xs ys++[f x y] :=by rw[List.zipWith_append h];rfl
theorem EX{st:HS}(w:Wf st){o:Str}(h:o∉st.own)(hl:st.own.length<100):Wf (h_ st o):=by
 have P:∀p∈(h_ st o).aj,∃p0∈st.aj,p={ p0 with row:=p0.row++[0] }:=λp hp=>by obtain⟨p0,h0,rfl⟩:=a_.mp (show p∈st.aj.map _ from hp);exact⟨p0,h0,Z⟩
 have p1:=w.eE;refine⟨?_,w.yI,?_,λp hp=>?_,λp hp=>?_,λp hp=>?_,?_,?_,w.eE,w.pW,w.u0,?_,w.yJ,?_,w.Ah,w.u6,w.GN,w.big,λc hc=>?_,λp hp=>?_,λp hp r hr=>?_,λp hp t ht=>?_,λp hp=>?_,λu hu=>?_⟩
 .exact pC w.oR h
 .show ((st.aj.map λp=>{ p with row:=p.row++[0] }).map (·.nm)).Nodup;rw[gj];exact w.dN
 .obtain ⟨p0,h0,rfl⟩:=P p hp;exact w.sub p0 h0
 .obtain ⟨p0,h0,rfl⟩:=P p hp;show(p0.row++[0]).length=(st.own++[o]).length;rw[dD,dD,w.rows p0 h0];rfl
 .obtain ⟨p0,h0,rfl⟩:=P p hp;exact zQ _ (w.ow p0 h0)
 .show (st.bD++[0]).length=(st.own++[o]).length;rw[dD,dD,w.gC];rfl
 .show (st.bF++[0]).length=(st.own++[o]).length;rw[dD,dD,w.mG];rfl
 .show (st.own++[o]).length<=100;rw[dD];exact hl
 .show (st.aj.map _).length<=1000;rw[aH];exact w.mH
 .rcases fu.mp (show c∈st.bD++[0]from hc)with z|z
  .exact w.oS c z
  .rw [eX.mp z];exact⟨kQ _,by show(0:Int)<=st.prod;omega⟩
 .obtain ⟨p0,h0,rfl⟩:=P p hp;exact w.sU p0 h0
 .obtain ⟨p0,h0,rfl⟩:=P p hp;rcases fu.mp (show r∈p0.row++[0]from hr)with z|z
  .exact w.oU p0 h0 r z
  .rw [eX.mp z];show -st.prod<=0/\0<=st.prod;omega
 .obtain ⟨p0,h0,rfl⟩:=P p hp;have el:p0.row.length=st.bD.length:=by rw[w.rows p0 h0,w.gC]
  have ht:t∈List.zipWith (λr c=>p0.sc*r+c) (p0.row++[0]) (st.bD++[0]):=ht;rw[GO _ el _ _]at ht;rcases fu.mp ht with z|z
  .exact w.pX p0 h0 t z
  .rw [eX.mp z];show 0<=p0.sc*0+0/\p0.sc*0+0<=st.prod;omega
 .obtain ⟨p0,h0,rfl⟩:=P p hp;exact w.jI p0 h0
 .rcases fu.mp (show u∈st.bF++[0]from hu)with z|z
  .exact w.ES u z
  .rw [eX.mp z];exact pT (by decide +kernel)
theorem OU{st:HS}(w:Wf st)(h1:p.nm∉st.nms)(h2:st.nms.length<1000)(h3:st.aj.length<1000)(h4:p.row.length=st.own.length)(h5:p.ow∈st.own)(h6:1<=p.sc/\p.sc<=st.prod)(h7:∀r∈p.row,-st.prod<=r/\r<=st.prod)(h8:∀t∈List.zipWith (λr c=>p.sc*r+c) p.row st.bD,0<=t/\t<=st.prod)(h9:1<=p.wo/\0<=p.we):Wf (wN st p):=by
 have P:∀{M:Pt->Prop},(∀x∈st.aj,M x)->M p->∀x∈st.aj++[p],M x:=λa b x hx=>by
  rcases fu.mp hx with z|z
  .exact a x z
  .rw [eX.mp z];exact b
 refine⟨w.oR,pC w.yI h1,?_,P (λx hx=>zQ _ (w.sub x hx)) (gG _ (eX.mpr rfl)),P w.rows h4,P w.ow h5,w.gC,w.mG,w.eE,w.pW,w.u0,w.kh,?_,?_,w.Ah,w.u6,w.GN,w.big,w.oS,P w.sU h6,P w.oU h7,P w.pX h8,P w.jI h9,w.ES⟩
 . show((st.aj++[p]).map (·.nm)).Nodup
   rw[bV]
   refine pC w.dN λm=>?_
   obtain⟨x,hx,e⟩:=a_.mp m
   have e:x.nm=p.nm:=e
   exact h1 (by rw[<-e];exact w.sub x hx)
 . show(st.nms++[p.nm]).length<=1000
   rw[dD];exact h2
 . show(st.aj++[p]).length<=1000
   rw[dD];exact h3
theorem u7{α β γ:Type}{f:α->β->γ}{t:γ}:∀{xs:List α}{ys:List β},t∈List.zipWith f xs ys->∃x∈xs,∃y∈ys,t=f x y
 | [],_,h=>by simp at h
 | _::_,[],h=>by simp at h
 | x::xs,y::ys,h=>by
  rcases cK.mp (show t∈f x y::List.zipWith f xs ys from h)with e|m
  .exact ⟨x,cU,y,cU,e⟩
  .obtain ⟨a,ha,b,hb,e⟩:=u7 m;exact⟨a,cA _ ha,b,cA _ hb,e⟩
theorem KC:∀{ts cs:List Int},List.zipWith (λr c=>1*r+c) (List.zipWith (λt c=>t-c) ts cs) cs=ts.take cs.length
 | [],_=>by simp
 | _::_,[]=>by simp
 | t::ts,c::cs=>by show(1*(t-c)+c)::List.zipWith _ (List.zipWith _ ts cs) cs=t::ts.take cs.length;rw[KC];congr 1;omega
theorem DI{b t:Int}(h:t∈(List.replicate n 0).set i b):t=0\/t=b:=by
 rcases PZ h with z|z
 .exact .inl (List.eq_of_mem_replicate z)
 .exact .inr z
variable {wo we:Int}
theorem OV{st:HS}(w:Wf st){o:Str}(h1:x∉st.nms)(h2:st.nms.length<1000)(h3:st.aj.length<1000)(ho:o∈st.own)(h4:1<=wo)(h5:0<=we):Wf (Bh st x o wo we):=by
 have p1:=w.eE;refine OU w h1 h2 h3 ?_ ho ⟨kQ 1,w.eE⟩ (λr hr=>?_) (λt ht=>?_) ⟨h4,h5⟩
 .show (List.zipWith _ ((List.replicate st.own.length 0).set _ _) st.bD).length=_;rw[lR,iw,jV,w.gC,yv]
 .obtain ⟨t,ht,c,hc,rfl⟩:=u7 (show r∈List.zipWith _ _ st.bD from hr);have:=w.oS c hc;rcases DI ht with rfl|rfl <;> omega
 .have e:List.zipWith (λr c=>1*r+c) (lU st ((List.replicate st.own.length 0).set (st.own.idxOf o) st.prod)) st.bD=_:=KC;have ht:t∈List.zipWith (λr c=>1*r+c) (lU st ((List.replicate st.own.length 0).set (st.own.idxOf o) st.prod)) st.bD:=ht;rw[e]at ht;rcases DI (List.mem_of_mem_take ht)with rfl|rfl <;> omega
theorem iV{u:HO}(h:a≠b):upd (upd H a o) b u=upd (upd H b u) a o:=by
 funext c;unfold upd;by_cases e1:c=b
 .rw [aC e1,aB (λz=>h (z.symm.trans e1)),aC e1]
 .rw [aB e1];by_cases e2:c=a
  .rw [aC e2,aC e2]
  .rw [aB e2,aB e2,aB e1]
theorem qS(h:H a=some o):upd H a o=H:=by
 funext c;unfold upd;by_cases e:c=a
 .rw [aC e,e,h]
 .rw [aB e]
theorem KD{α:Type}(g:α->α){l:List α}{p:α}(h:l[i]?=some p):((l.take i).map g++l.drop i)[i]?=some p:=by
 have hi:=(dY.mp h).1;have e:((l.take i).map g).length=i:=by rw[aH,kN];omega
 rw[CQ (by omega),e,A1,List.getElem?_drop];exact h
theorem KG{α:Type}(g:α->α){l:List α}{p:α}(h:l[i]?=some p):((l.take i).map g++l.drop i).set i (g p)=(l.take (i+1)).map g++l.drop (i+1):=by
 have hi:=(dY.mp h).1;have e:((l.take i).map g).length=i:=by rw[aH,kN];omega
 have ep:l[i]=p:=by rw[bM hi]at h;exact fE h
 rw[List.set_append_right _ _ (by omega),e,A1,List.drop_eq_getElem_cons hi,Qn,take_snoc h,bV,Qs];rfl
theorem qT{α β:Type}(g:α->α)(f:α->β)(hf:∀x,f (g x)=f x)(l:List α)(i:Nat):((l.take i).map g++l.drop i).map f=l.map f:=by rw[bV,gj,show f ∘ g=f from funext hf,<-bV,List.take_append_drop]
theorem pG{ps ps':List Pt}(h:ps.map (·.nm)=ps'.map (·.nm)):b8 ps qs=b8 ps' qs:=by
 have:∀{ps:List Pt},b8 ps qs=List.zipWith (λ(x:Str) q=>((Sum.inr x:Key),V.ref q.1)) (ps.map (·.nm)) qs:=λ{ps}=>by unfold b8;rw[List.zipWith_map_left]
 rw[this,this,h]
structure jJ(p:Addr)(H:Hp)(ρ:cg)(H':Hp)(ρ':cg)(l:List (Addr×HO×qL)):Prop where
 m:∀e∈l,H' e.1=some e.2.1/\ρ' e.1=some e.2.2/\e.1≠p
 k:∀b o,H b=some o->b≠p->H' b=some o/\ρ' b=ρ b
 g:Gh ρ' H'
 pp:∃u,H' p=some u
theorem jJ.new{p:Addr}{l:List (Addr×HO×qL)}{c:qL}(h:jJ p H ρ H' ρ' l)(ha:H' a=none)(t:isTup o=false):jJ p H ρ (upd H' a o) (c8 ρ' a c) ((a,o,c)::l):=by
 obtain⟨u,hu⟩:=h.pp;refine⟨λe he=>?_,λb w hb hp=>?_,(h.g.alloc ha).color ai t,u,by rw[ay (aD hu ha)];exact hu⟩
 .rcases cK.mp he with rfl|he
  .exact ⟨ai,cC,λz=>by rw[show a=p from z,hu]at ha;cases ha⟩
  .obtain ⟨x,y,z⟩:=h.m e he;have:e.1≠a:=aD x ha;rw[ay this,bB this];exact⟨x,y,z⟩
 .obtain ⟨x,y⟩:=h.k b w hb hp;have:b≠a:=aD x ha;rw[ay this,bB this];exact⟨x,y⟩
theorem jJ.wr{p:Addr}{l:List (Addr×HO×qL)}{u:HO}(h:jJ p H ρ H' ρ' l)(t:isTup u=false):jJ p H ρ (upd H' p u) ρ' l:=by
 refine⟨λe he=>?_,λb w hb hp=>?_,h.g.wr t,u,ai⟩
 .obtain ⟨x,y,z⟩:=h.m e he;rw[ay z];exact⟨x,y,z⟩
 .obtain ⟨x,y⟩:=h.k b w hb hp;rw[ay hp];exact⟨x,y⟩
theorem jJ.same{p:Addr}{zH:Hp}{l:List (Addr×HO×qL)}(h:jJ p H ρ H' ρ' l)(s:aR H' zH):jJ p H ρ zH ρ' l:=by obtain⟨u,hu⟩:=h.pp;exact⟨λe he=>let⟨x,y,z⟩:=h.m e he;⟨s _ _ x,y,z⟩,λb w hb hp=>let⟨x,y⟩:=h.k b w hb hp;⟨s _ _ x,y⟩,h.g.same s,u,s _ _ hu⟩
theorem jJ.add{p:Addr}{H0:Hp}{ρ0:cg}{l l0:List (Addr×HO×qL)}{c:qL}(h:jJ p H ρ H' ρ' l)(ha:H' a=some o)(t:isTup o=false)(h0:jJ p H ρ H0 ρ0 l0)(hn:H0 a=none)(hl:∀e∈l,e.1≠a):jJ p H ρ H' (c8 ρ' a c) ((a,o,c)::l):=by
 refine⟨λe he=>?_,λb w hb hp=>?_,h.g.color ha t,h.pp⟩
 .rcases cK.mp he with rfl|he
  .obtain ⟨u,hu⟩:=h0.pp;exact⟨ha,cC,λz=>by rw[show a=p from z,hu]at hn;cases hn⟩
  .obtain ⟨x,y,z⟩:=h.m e he;rw[bB (hl e he)];exact⟨x,y,z⟩
 .obtain ⟨x,y⟩:=h.k b w hb hp;obtain⟨x0,_⟩:=h0.k b w hb hp;rw[bB (aD x0 hn)];exact⟨x,y⟩
theorem KH:∀(l:List Int)(a:Int),l.foldl (·*·) a=a*l.foldl (·*·) 1
 | [],a=>by simp
 | s::l,a=>by rw[j7,KH l (a*s),j7,KH l (1*s),Int.one_mul,iy]
theorem EY(s:Int)(l:List Int):(s::l).foldl (·*·) 1=s*l.foldl (·*·) 1:=by rw[j7,KH,Int.one_mul]
theorem Yv(s:Int)(l:List Int):(l++[s]).foldl (·*·) 1=l.foldl (·*·) 1*s:=by rw[BW];rfl
theorem KI:∀{l:List Int},(∀s∈l,2<=s)->1<=l.foldl (·*·) 1
 | [],_=>by decide
 | s::l,h=>by rw[EY];have h1:=h s cU;have h2:=KI (l:=l) λx hx=>h x (cA _ hx);have:=Int.mul_le_mul (a:=1) (b:=1) (c:=s) (d:=l.foldl (·*·) 1) (by omega) h2 (by decide) (by omega);omega
theorem WK:∀{l:List Int}{s:Int},(∀s∈l,2<=s)->s∈l->s<=l.foldl (·*·) 1
 | [],_,_,h=>by simp at h
 | a::l,s,h,m=>by
  rw[EY];have h1:=h a cU;have h2:=KI (l:=l) λx hx=>h x (cA _ hx);rcases cK.mp m with rfl|m
  .have:=JA h2 (by omega:0<=s);omega
  .have h3:=WK (λx hx=>h x (cA _ hx)) m;have:=Int.mul_le_mul_of_nonneg_right (by omega:1<=a) (by omega:0<=l.foldl (·*·) 1);omega
theorem SR{t d s:Int}(hd:0<d)(hs:0<s)(c:Jm.cf t d=1):Jm.cf (t / Jm.cf t s) (d*(s / Jm.cf t s))=1/\0<d*(s / Jm.cf t s):=by
 have gp:0<Jm.cf t s:=Jm.J8 t s (.inr hs);obtain⟨u,hu⟩:=Jm.xy t s;obtain⟨v,hv⟩:=Jm.pR t s;generalize eg:Jm.cf t s=g at *;have e1:t / g=u:=by rw[hu,EB _ (by omega)]
 have e2:s / g=v:=by rw[hv,EB _ (by omega)]
 have vp:0<v:=by
  rcases Int.lt_or_le 0 v with z|z
  .exact z
  .have:=JA z (by omega:0<=g);omega
 rw[e1,e2];have c0:Nat.Coprime t.natAbs d.natAbs:=by unfold Jm.cf at c;exact_mod_cast c
 have c1:Nat.Coprime u.natAbs d.natAbs:=Nat.Coprime.coprime_dvd_left ⟨g.natAbs,by rw[hu,CW,Nat.mul_comm]⟩ c0;have c2:Nat.Coprime u.natAbs v.natAbs:=by
  have hg:Int.gcd t s=g.natAbs:=by unfold Jm.cf at eg;omega
  have hg2:Nat.gcd t.natAbs s.natAbs=g.natAbs:=hg;have:=Nat.coprime_div_gcd_div_gcd (m:=t.natAbs) (n:=s.natAbs) (by rw[hg2];omega);rw[hg2]at this;have gn:0<g.natAbs:=by omega
  rw[hu,hv,CW,CW,Nat.mul_div_cancel_left _ gn,Nat.mul_div_cancel_left _ gn]at this;exact this
 refine⟨?_,wC hd vp⟩;have:=Nat.Coprime.mul_right c1 c2;rw[<-CW]at this;unfold Jm.cf;exact_mod_cast this
theorem Vj{κ:Type}[DecidableEq κ]{kvs:List (κ×V)}{k:κ}{v:V}(h:dZ kvs k=some v):(k,v)∈kvs:=by unfold dZ at h;obtain⟨p,hp,rfl⟩:=nH.mp h;have:=List.find?_some hp;have e:p.1=k:=eF this;rw[<-e];exact List.mem_of_find?_eq_some hp
theorem aL.Vk{st:HS}(h:aL T n ρ A H st)(k:∀b o,H b=some o->b≠A.kn->H' b=some o)(e1:H' A.kn=some (.dK kvs))(e2:Kl H' kvs st.prod)(e3:kvs.length<=m)(e4:(kvs.map (·.1)).Nodup):aL T n ρ A H' { st with kn:=m }:=by
 obtain⟨kv0,k0,_⟩:=h.okn;have z:=λ{b:Addr}{t:Nat}{x:Str}{o:HO}(u:t≠9)(c:ρ b=some (n,t,x))(e:H b=some o)=>k b o e (DB c h.gQ (λw=>by cases w;exact u rfl));have tp:∀b xs,H b=some (.tup xs)->H' b=some (.tup xs):=λb xs e=>k b _ e (i8 e k0 (by intro w;cases w));obtain⟨vs,h1,h2⟩:=h.nt;have kp:Kp n ρ ρ H H' λt=>decide (t≠9):=⟨tp,λb t x o u c e=>⟨z (eF u) c e,c⟩⟩
 exact⟨z (by decide) h.ca h.oa,h.ca,z (by decide) h.gE h.g_,h.gE,z (by decide) h.fD h.dB,h.fD,⟨vs,z (by decide) h.gJ h1,h2.keep kp (by decide)⟩,h.gJ,z (by decide) h.gK h.nu,h.gK,z (by decide) h.gM h.jc,h.gM,z (by decide) h.gO h.iH,h.gO,z (by decide) h.cpu h.jA,h.cpu,z (by decide) h.gP h.lZ,h.gP,⟨kvs,e1,e2,e3,e4⟩,h.gQ,h.ql,
  λi p q a b=>let⟨x,y,c,d⟩:=h.opt i p q a b;⟨z (by decide) c x,z (by decide) d y,c,d⟩⟩
theorem Q3{st:HS}(w:Wf st)(h:m<=1000000):Wf { st with kn:=m }:=⟨w.oR,w.yI,w.dN,w.sub,w.rows,w.ow,w.gC,w.mG,w.eE,w.pW,w.u0,w.kh,w.yJ,w.mH,w.Ah,w.u6,h,w.big,w.oS,w.sU,w.oU,w.pX,w.jI,w.ES⟩
theorem j9.length(h:j9 n ρ H vs l):vs.length=l.length:=by
 induction h with
 | nil=>rfl
 | cons _ _ _ _ _ ih=>simp[ih]
theorem j9.get(h:j9 n ρ H vs l):∀{i:Nat}{x:V},vs[i]?=some x->∃r q y ss,x =.ref r/\l[i]?=some y/\H r=some (.tup [.str y.nm,.str y.ow,.int y.wo,.ref q])/\H q=some (.lst ss)/\ρ q=some (n,30,⟨#[]⟩)/\jm H ss y.sh:=by
 induction h with
 | nil=>intro i x e;simp at e
 | @cons r q y ss vs as a b c d _ ih=>
  intro i x e;cases i with
  | zero=>simp at e;subst e;exact⟨r,q,y,ss,Z,Z,a,b,c,d⟩
  | succ i=>simp at e;obtain⟨r',q',y',ss',e1,e2,e3⟩:=ih e;exact⟨r',q',y',ss',e1,by simpa using e2,e3⟩
inductive kU(a:Addr)(ρ:cg)(H:Hp):List V->List kI->Prop
 | nil:kU a ρ H [] []
 | cons {r l:Addr} {x:kI} {ss:List V} {vs:List V} {as:List kI}:H r=some (.tup [.str x.nm,.str x.ow,.int x.wo,.ref l])->H l=some (.lst ss)->ρ l=none->l≠a->jm H ss x.sh->kU a ρ H vs as->kU a ρ H (.ref r::vs) (x::as)
theorem kU.to(h:kU a ρ H vs l):ki ρ H vs l:=by
 induction h with
 | nil=>exact .nil
 | cons x y z _ w _ ih=>exact .cons x y z w ih
theorem kU.mono(h:kU a ρ H vs l)(g:aR H H'):kU a ρ H' vs l:=by
 induction h with
 | nil=>exact .nil
 | cons x y z n w _ ih=>exact .cons (g _ _ x) (g _ _ y) z n (w.mono g.tups) ih
theorem kU.upd(h:kU a ρ H vs l)(ha:H a=some (.lst xs)):kU a ρ (L2.upd H a (.lst ys)) vs l:=by
 induction h with
 | nil=>exact .nil
 | cons x y z n w _ ih=>exact .cons (ig (.inr ⟨_,ha,Z⟩) _ _ x) (by rw[ay n];exact y) z n (w.mono (ig (.inr ⟨_,ha,Z⟩))) ih
theorem kU.snoc{as:List kI}{r l:Addr}{x:kI}(h:kU a ρ H vs as)(e1:H r=some (.tup [.str x.nm,.str x.ow,.int x.wo,.ref l]))(e2:H l=some (.lst ss))(e3:ρ l=none)(e5:l≠a)(e4:jm H ss x.sh):kU a ρ H (vs++[.ref r]) (as++[x]):=by
 induction h with
 | nil=>exact .cons e1 e2 e3 e5 e4 .nil
 | cons x y z n w _ ih=>exact .cons x y z n w ih
def Sq(K:Fg)(H:Hp)(r:Addr)(xs:List V):Prop:=aJ K H r xs\/dG K H r xs
theorem aR.sq{r:Addr}(g:aR H H')(h:Sq K H r xs):Sq K H' r xs:=h.elim (λz=> .inl (g.seq z)) λz=> .inr (g.tup z)
structure u9(K:Fg)(H:Hp)(us:List V)(ps:List Pt):Prop where
 len:us.length=ps.length
 at_:∀(i:Nat)(p:Pt),ps[i]?=some p->∃r xs,us[i]?=some (.ref r)/\Sq K H r xs/\xs[0]?=some (.str p.nm)/\xs[1]?=some (.str p.ow)/\xs[2]?=some (.int p.wo)/\xs[3]?=some (.int p.we)
theorem u9.mono{us:List V}{ps:List Pt}(h:u9 K H us ps)(g:aR H H'):u9 K H' us ps:=⟨h.len,λi p e=>let⟨r,xs,a,b,c⟩:=h.at_ i p e;⟨r,xs,a,g.sq b,c⟩⟩
def jK(own:List Str)(tops:List Int)(b:Int):List (Str×Rat):=(List.zip own tops).filterMap λx=>if 0<x.2 then some (x.1,Jm.fr x.2 b) else none
theorem jw.length{l:List Pt}(h:jw H vs l):vs.length=l.length:=by
 induction h with
 | nil=>rfl
 | cons _ _ ih=>simp[ih]
theorem jw.get{l:List Pt}(h:jw H vs l):∀{i:Nat}{p:Pt},l[i]?=some p->∃r,vs[i]?=some (.ref r)/\H r=some (DF p):=by
 induction h with
 | nil=>intro i p e;simp at e
 | @cons r q vs ps a _ ih=>
  intro i p e;cases i with
  | zero=>simp at e;subst e;exact⟨r,Z,a⟩
  | succ i=>simp at e;obtain⟨r',e1,e2⟩:=ih e;exact⟨r',by simpa using e1,e2⟩
def Vl(x:Str):Prop:=pU x.cps.toList
theorem Q5:∀i:Fin 26,Dr "abcdefghijklmnopqrstuvwxyz" (97+i.val)=true:=by decide +kernel
theorem Vl.isNm(h:Vl x):L2.isNm x=true:=by unfold L2.isNm isName;have h1:=h.lo;have h2:=h.hi;refine nI.mpr ⟨nI.mpr ⟨br (by omega),br (by omega)⟩,pM.mpr λc hc=>?_⟩;have h3:=h.Yi c hc;have:=Q5 ⟨c-97,by omega⟩;rw[show 97+(c-97)=c from by omega]at this;exact this
theorem wO:∀(l:List Str)(st:HS),(l.foldl h_ st).own=st.own++l
 | [],st=>by simp
 | o::l,st=>by rw[j7,wO l];show(st.own++[o])++l=_;rw[Qs];rfl
theorem iQ(K:Fg)(hK:X.K=K:=by rfl):zu X (ZT K):=hK▸ZU
theorem Sq.ix{r:Addr}{v:V}{Q:VK}(h:Sq K H r xs)(e:xs[i]?=some v)(q:Q v H):ZT K (.ref r) (.int (i:Int)) H Q:=by
 rcases h with h|h
 .exact .inl ⟨r,xs,i,v,Z,Z,h,aM e,q⟩
 .exact .inr (.inl ⟨r,xs,i,v,Z,Z,h,aM e,q⟩)
theorem Fr.at(f:Fr n ρ H ρ' H')(e:H b=some o)(c:ρ b=none):H' b=some o/\ρ' b=none:=by obtain⟨a,d⟩:=f b o e (λt x=>by rw[c];intro z;cases z);exact⟨a,d.trans c⟩
theorem Fr.seq(f:Fr n ρ H ρ' H'){l:Addr}(h:aJ K H l xs)(c:ρ l=none):aJ K H' l xs:=by
 rcases h with(h|⟨o,h⟩)|h
 .exact .inl (.inl (f.at h c).1)
 .exact .inl (.inr ⟨o,(f.at h c).1⟩)
 .exact .inr h
def DJ(nss:List (List Nat)):List Str:=nss.map tx
theorem Yw(nss:List (List Nat)):sS nss=(DJ nss).map V.str:=by unfold sS DJ;rw[gj];rfl
theorem GP(h:nss.Nodup):(DJ nss).Nodup:=by unfold DJ;exact List.Pairwise.map tx (λa b hab e=>hab (Sv e)) h
theorem SS(h:∀x∈nss,pU x):∀o∈DJ nss,Vl o:=λo ho=>by obtain⟨x,hx,rfl⟩:=a_.mp ho;show pU (tx x).cps.toList;rw[show(tx x).cps.toList=x from by simp];exact h x hx
theorem OW(nss:List (List Nat)):(DJ nss).length=nss.length:=by unfold DJ;rw[aH]
theorem Vm(x:Str)(l:List Str):Gv (.str x) (l.map V.str)=decide (x∈l):=by
 have:=OM x.cps.toList (l.map λy=>y.cps.toList);rw[Kd]at this;rw[show sS (l.map λy=>y.cps.toList)=l.map V.str from by unfold sS;rw[gj];congr 1;]at this;rw[this];congr 1;refine propext ⟨λm=>?_,λm=>a_.mpr ⟨x,m,Z⟩⟩;obtain⟨y,hy,e⟩:=a_.mp m;have:tx y.cps.toList=tx x.cps.toList:=by rw[e]
 rw[Kd,Kd]at this;rw[<-this];exact hy
theorem Aj(l:List Str):(l.map V.str).all rV=true:=by rw[List.all_map];exact pM.mpr λ_ _=>rfl
theorem KJ{l:List Str}{d:Int}(h0:0<=d)(h1:d<(l.length:Int)):∃(j:Nat)(o:Str),d=(j:Int)/\l[j]?=some o/\sP (l.map V.str) d=some (.str o):=by
 obtain⟨j,rfl⟩:∃j:Nat,d=(j:Int):=⟨d.toNat,by omega⟩
 have hj:j<l.length:=by omega
 exact⟨j,l[j],Z,bM hj,aM (by rw[cN,bM hj];rfl)⟩
section
variable {T:TC}{n:Nat}{L H:Hp}{x lp:Addr}{st:HS}{ps:List Pt}
end
theorem qU{α:Type}{l:List α}(nd:l.Nodup){x:α}(h:l[i]?=some x):x∉l.take i:=λm=>by have h2:(l.take (i+1)).Nodup:=nd.sublist (Qq _ _);rw[take_snoc h]at h2;exact(Qu.mp h2).2.2 x m x (eX.mpr rfl) rfl
abbrev Row:=Str×Int
def yK(r:Row):HO:=.tup [.str r.1,.int r.2]
inductive ee(H:Hp):List V->List Row->Prop
 | nil:ee H [] []
 | cons {a:Addr} {r:Row} {vs:List V} {rs:List Row}:H a=some (yK r)->ee H vs rs->ee H (.ref a::vs) (r::rs)
theorem ee.mono{l:List Row}(h:ee H vs l)(g:∀b xs,H b=some (.tup xs)->H' b=some (.tup xs)):ee H' vs l:=by
 induction h with
 | nil=>exact .nil
 | cons a _ ih=>exact .cons (g _ _ a) ih
theorem ee.length{l:List Row}(h:ee H vs l):vs.length=l.length:=by
 induction h with
 | nil=>rfl
 | cons _ _ ih=>simp[ih]
theorem ee.get{l:List Row}(h:ee H vs l):∀{i:Nat}{x:V},vs[i]?=some x->∃a r,x =.ref a/\l[i]?=some r/\H a=some (yK r):=by
 induction h with
 | nil=>intro i x e;simp at e
 | @cons a r vs rs e0 _ ih=>
  intro i x e;cases i with
  | zero=>simp at e;subst e;exact⟨a,r,Z,Z,e0⟩
  | succ i=>simp at e;obtain⟨a',r',e1,e2,e3⟩:=ih e;exact⟨a',r',e1,by simpa using e2,e3⟩
variable {r:Row}
theorem ee.snoc{l:List Row}(h:ee H vs l)(e:H a=some (yK r)):ee H (vs++[.ref a]) (l++[r]):=by
 induction h with
 | nil=>exact .cons e .nil
 | cons a _ ih=>exact .cons a ih
def iI(rs:List Row):List (Key×V):=rs.map λr=>((Sum.inr r.1:Key),V.int r.2)
theorem yL(rs:List Row):(iI rs).length=rs.length:=by unfold iI;rw[aH]
variable {rs:List Row}
theorem GQ(h:x∉rs.map (·.1)):dZ (iI rs) (Sum.inr x)=none:=by
 unfold iI
 induction rs with
 | nil=>rfl
 | cons a l ih=>rw[bz,fq (λz=>h (by rw[bz,<-rR z];exact cU))];exact ih λm=>h (by rw[bz];exact cA _ m)
def aQ(rs:List Row):Int:=(rs.map (·.2)).sum
def bH(st:HS)(x:Str):Pt:=(st.aj.find? λp=>decide (p.nm=x)).getD ⟨x,x,0,0,1,[]⟩
theorem OX{st:HS}(nd:(st.aj.map (·.nm)).Nodup)(h:st.aj[i]?=some p):bH st p.nm=p:=by
 unfold bH;have:st.aj.find? (λq=>decide (q.nm=p.nm))=some p:=by
  generalize st.aj=ps at *
  induction ps generalizing i with
  | nil=>simp at h
  | cons a ps ih=>
   obtain⟨h1,h2⟩:=fX.mp (show(a.nm::ps.map (·.nm)).Nodup from nd);cases i with
   | zero=>
    have:a=p:=by simpa using h
    subst this;rw[uz,br rfl]
   | succ i=>
    have h':ps[i]?=some p:=by simpa using h
    rw[uz,dF (λe=>h1 (a_.mpr ⟨p,cu h',e.symm⟩))];exact ih h2 h'
 rw[this];rfl
def jZ(st:HS)(sums:List Int)(r:Row):List Int:=List.zipWith (λold own=>old+(r.2*(bH st r.1).sc)*own) sums (bH st r.1).row
def dW(st:HS)(rs:List Row):List Int:=rs.foldl (jZ st) (st.bD.map λc=>aQ rs*c)
def p6(s:Int)(ts:List Int):Int:=ts.foldl (λs t=>Jm.cf t s) s
def jd(st:HS)(kept:Int):List Int:=st.aj.map λp=>p.sc*kept
def f7(st:HS)(kept:Int)(added:List Int):List Int:=List.zipWith (λt m=>t*kept+m) st.bD added
def cy(st:HS)(kept whole:Int)(added:List Int):Int:=p6 whole (jd st kept++f7 st kept added)
def fh(st:HS)(s:Int):HS:=if 1<s then{ st with stp:=st.stp++[s],prod:=st.prod*s,kn:=0 } else st
def aN(st:HS)(kept whole:Int)(added:List Int):HS:=fh { st with aj:=st.aj.map (λp=>{ p with sc:=p.sc*kept / cy st kept whole added }),bD:=(f7 st kept added).map (· / cy st kept whole added),bF:=st.bF.map (·*(whole / cy st kept whole added)) } (whole / cy st kept whole added)
def jL(ps:List Pt)(x:Str)(a:Int):List Pt:=(ps.map λp=>if p.nm=x then{ p with wo:=p.wo-a } else p).filter λp=>decide (p.wo≠0)
def cT(st:HS)(r:Row):HS:={ st with aj:=jL st.aj r.1 r.2 }
def cV(st:HS)(rs:List Row):HS:=rs.foldl cT (aN st (aE st-aQ rs) (aE st) (dW st rs))
inductive ag1(vs:List V)(H:Hp)(Q:VK)(E:XK):Prop
 |mk(a:Int)(_:vs=[.int a])(_:1<=a)(_:Q .cW H)
def adw:Sp:=bx (ag1)
inductive ag2(vs:List V)(H:Hp)(Q:VK)(E:XK):Prop
 |mk(m a:Int)(_:vs=[.int m,.int a])(_:1<=a)(_:a<=m)(_:Q .cW H)
def WL:Sp:=bx (ag2)
inductive adx(K:Fg)(vs:List V)(H:Hp)(Q:VK)(E:XK):Prop
 |mk(l:Addr)(us:List V)(rs:List Row)(_:vs=[.ref l])(_:aJ K H l us)(_:ee H us rs)(_:(rs.map (·.1)).Nodup)(_:rs≠[])(_:rs.length<=1000)(_:∀d H',aR H H'->H d=none->H' d=some (.dK (iI rs))->Q (.ref d) H')
def SV(K:Fg):Sp:=bx (adx K)
inductive ady(K:Fg)(vs:List V)(H:Hp)(Q:VK)(E:XK):Prop
 |mk(s:Int)(l:Addr)(ts:List Int)(_:vs=[.int s,.ref l])(_:aJ K H l (ts.map V.int))(_:0<=s)(_:(∀t∈ts,0<=t))(_:Q (.int (p6 s ts)) H)
def SW(K:Fg):Sp:=bx (ady K)
inductive adz(T:TC)(vs:List V)(H:Hp)(Q:VK)(E:XK):Prop
 |mk(n ρ A st s:_)(_:vs=[.ref A.bt,.int s])(_:Gh ρ H)(_:aL T n ρ A H st)(_:st.stp.length<=1000)(_:Jm.Sz 9000 st.prod)(_:Jm.Sz 9000 s)(_:∀ρ' A' H',Gh ρ' H'->aL T n ρ' A' H' (fh st s:_)->A'.a=A.a->Fr n ρ H ρ' H'->Q .cW H')
def SX(T:TC):Sp:=bx (adz T)
inductive aaF(T:TC)(vs:List V)(H:Hp)(Q:VK)(E:XK):Prop
 |mk(n ρ A st:_)(d:Addr)(rs:List Row)(_:vs=[.ref A.a,.ref d])(_:aL T n ρ A H st)(_:Wf st)(_:H d=some (.dK (iI rs)))(_:ρ d=none)(_:rs.length<=1000)(_:(∀r∈rs,Jm.Sz 60 r.2/\∃p∈st.aj,p.nm=r.1))(_:∀l H',aR H H'->H l=none->H' l=some (.lst ((dW st rs).map V.int))->Q (.ref l) H')
def OY(T:TC):Sp:=bx (aaF T)
inductive aaG(T:TC)(K:Fg)(vs:List V)(H:Hp)(Q:VK)(E:XK):Prop
 |mk(n ρ A st:_)(kept whole:Int)(l:Addr)(added:List Int)(_:vs=[.ref A.a,.int kept,.int whole,.ref l])(_:HH T n ρ A H st)(_:aJ K H l (added.map V.int))(_:added.length=st.bD.length)(_:0<kept)(_:0<whole)(_:Jm.Sz 60 kept)(_:Jm.Sz 60 whole)(_:(∀m∈added,0<=m/\Jm.Sz 8900 m))(_:(∀u∈st.bF,Jm.Sz 8900 u))(_:st.stp.length<100)(_:Wf (aN st kept whole added))(_:wM T n ρ A H (aN st kept whole added:_) λH'=>Q .cW H')
def EZ(T:TC)(K:Fg):Sp:=bx (aaG T K)
inductive adA(T:TC)(vs:List V)(H:Hp)(Q:VK)(E:XK):Prop
 |mk(n ρ A st:_)(r:Row)(_:vs=[.ref A.a,.str r.1,.int r.2])(_:HH T n ρ A H st)(_:(∃p∈st.aj,p.nm=r.1/\r.2<=p.wo))(_:Wf (cT st r))(_:wM T n ρ A H (cT st r:_) λH'=>Q .cW H')
def KL(T:TC):Sp:=bx (adA T)
structure jM(st:HS)(rs:List Row):Prop where
 nd:(rs.map (·.1)).Nodup
 ne:rs≠[]
 len:rs.length<=1000
 row:∀r∈rs,1<=r.2/\Jm.Sz 60 r.2/\∃p∈st.aj,p.nm=r.1/\r.2<=p.wo
 lost:aQ rs<aE st
 big:Jm.Sz 60 (aE st)
 prod:Jm.Sz 7900 st.prod
 bF:∀u∈st.bF,Jm.Sz 8900 u
 stp:st.stp.length<100
inductive adB(T:TC)(K:Fg)(vs:List V)(H:Hp)(Q:VK)(E:XK):Prop
 |mk(n ρ A st:_)(l:Addr)(us:List V)(rs:List Row)(_:vs=[.ref A.a,.ref l])(_:HH T n ρ A H st)(_:aJ K H l us)(_:ee H us rs)(_:jM st rs)(_:wM T n ρ A H (cV st rs:_) λH'=>Q .cW H')
def KN(T:TC)(K:Fg):Sp:=bx (adB T K)
theorem Cf:∀{ps:List Pt}{qs:List (Addr×Addr×Addr)}{i:Nat}{p:Pt},(ps.map (·.nm)).Nodup->qs.length=ps.length->ps[i]?=some p->m8 (b8 ps qs) (Sum.inr p.nm)=b8 (ps.eraseIdx i) (qs.eraseIdx i)
 | [],_,_,_,_,_,h=>by simp at h
 | _::_,[],_,_,_,hl,_=>by simp at hl
 | a::ps,b::qs,0,p,nd,hl,h=>by
  have e:a=p:=by simpa using h
  subst e;obtain⟨h1,h2⟩:=fX.mp (show(a.nm::ps.map (·.nm)).Nodup from nd);show m8 ((Sum.inr a.nm,V.ref b.1)::b8 ps qs) (Sum.inr a.nm)=b8 ps qs;unfold m8;rw[e_,aB (by simp)];refine EE.mpr λkv hkv=>?_;unfold b8 at hkv;obtain⟨x,hx,y,hy,rfl⟩:=u7 hkv;exact br λz=>h1 (a_.mpr ⟨x,hx,rR z⟩)
 | a::ps,b::qs,i+1,p,nd,hl,h=>by
  obtain⟨h1,h2⟩:=fX.mp (show(a.nm::ps.map (·.nm)).Nodup from nd);have h':ps[i]?=some p:=by simpa using h
  have ih:=Cf h2 (by simpa using hl) h';show m8 ((Sum.inr a.nm,V.ref b.1)::b8 ps qs) (Sum.inr p.nm)=(Sum.inr a.nm,V.ref b.1)::b8 (ps.eraseIdx i) (qs.eraseIdx i);rw[<-ih];unfold m8;have hne:¬ (Sum.inr a.nm:Key)=Sum.inr p.nm:=λz=>h1 (a_.mpr ⟨p,cu h',(rR z).symm⟩);rw[e_,aC (by simpa using λe:a.nm=p.nm=>hne (by rw[e]))]
theorem Cg:∀{ps:List Pt}{i:Nat}{p:Pt}{a:Int},(ps.map (·.nm)).Nodup->(∀q∈ps,q.wo≠0)->ps[i]?=some p->jL ps p.nm a=if p.wo-a=0 then ps.eraseIdx i else ps.set i { p with wo:=p.wo-a }
 | [],_,_,_,_,_,h=>by simp at h
 | x::ps,0,p,a,nd,hw,h=>by
  have e:x=p:=by simpa using h
  subst e;obtain⟨h1,h2⟩:=fX.mp (show(x.nm::ps.map (·.nm)).Nodup from nd);have rest:jL ps x.nm a=ps:=by
   unfold jL;rw[show(ps.map λp=>if p.nm=x.nm then{ p with wo:=p.wo-a } else p)=ps from by
    conv=>rhs;rw[<-List.map_id ps]
    exact oN λy hy=>aB λz=>h1 (a_.mpr ⟨y,hy,z⟩)]
   exact EE.mpr λy hy=>br (hw y (cA _ hy))
  show((x::ps).map λp=>if p.nm=x.nm then{ p with wo:=p.wo-a } else p).filter _=_;rw[bz,aC rfl,e_];by_cases c:x.wo-a=0
  .rw [aC c,aB (by simp[c])];exact rest
  .rw [aB c,aC (by simpa using c)];show _::jL ps x.nm a=_;rw[rest];rfl
 | x::ps,i+1,p,a,nd,hw,h=>by
  obtain⟨h1,h2⟩:=fX.mp (show(x.nm::ps.map (·.nm)).Nodup from nd);have h':ps[i]?=some p:=by simpa using h
  have ih:=Cg (a:=a) h2 (λq hq=>hw q (cA _ hq)) h';have xn:¬ x.nm=p.nm:=λz=>h1 (a_.mpr ⟨p,cu h',z.symm⟩);show((x::ps).map λq=>if q.nm=p.nm then{ q with wo:=q.wo-a } else q).filter _=_;rw[bz,aB xn,e_,aC (br (hw x cU))];show x::jL ps p.nm a=_;rw[ih];by_cases c:p.wo-a=0
  .rw [aC c,aC c];rfl
  .rw [aB c,aB c];rfl
theorem sX{α:Type}:∀{l:List α}{i:Nat}{x:α},l[i]?=some x->l.set i x=l
 | [],_,_,h=>by simp at h
 | a::l,0,x,h=>by
  have:a=x:=by simpa using h
  rw[this];rfl
 | a::l,i+1,x,h=>by rw[JH,sX (by simpa using h)]
theorem Ak{α β:Type}{l:List α}{m:List β}{x:α}{y:β}(h1:(l.eraseIdx i)[j]?=some x)(h2:(m.eraseIdx i)[j]?=some y):∃k:Nat,l[k]?=some x/\m[k]?=some y:=by
 rw[List.getElem?_eraseIdx]at h1 h2;by_cases c:j<i
 .rw [aC c]at h1 h2;exact⟨j,h1,h2⟩
 .rw [aB c]at h1 h2;exact⟨j+1,h1,h2⟩
theorem Al:∀(ts:List Int)(s:Int),p6 s ts∣s/\∀t∈ts,p6 s ts∣t
 | [],s=>⟨Int.dvd_refl _,λ_ h=>absurd h (by simp)⟩
 | t::ts,s=>by
  obtain⟨h1,h2⟩:=Al ts (Jm.cf t s);refine⟨Int.dvd_trans h1 (Jm.pR t s),λu hu=>?_⟩;rcases cK.mp hu with rfl|hu
  .exact Int.dvd_trans h1 (Jm.xy u s)
  .exact h2 u hu
theorem Am:∀(ts:List Int)(s:Int),0<s->0<p6 s ts
 | [],_,h=>h
 | t::ts,s,h=>Am ts _ (Jm.J8 t s (.inr h))
theorem Ao{st:HS}(h:aL T n ρ A H st)(g:Gh ρ H)(c:ρ a=none)(e:H a=some o)(ht:isTup o=false):aL T n (c8 ρ a (n,t,⟨#[]⟩)) A H st/\Gh (c8 ρ a (n,t,⟨#[]⟩)) H:=⟨h.same ⟨λ_ _ e=>e,λb u x w _ hc he=>⟨he,by rw[bB (λz=>by rw[z,c]at hc;cases hc)];exact hc⟩⟩,g.color e ht⟩
theorem Fr.oV(f:Fr n ρ H ρ' H')(h:H a=none):Fr n ρ H (c8 ρ' a (n,t,x)) H':=λb o e k=>by obtain⟨e1,e2⟩:=f b o e k;exact⟨e1,by rw[bB (aD e h)];exact e2⟩
theorem GR{d a b:Int}(hd:0<d)(h:a<=d*b):a / d<=b:=by
 have:=Int.ediv_le_ediv hd h
 rwa [EB _ (by omega)]at this
theorem yM{st:HS}{s:Int}(h:1<=s):(fh st s).prod=st.prod*s:=by
 unfold fh;by_cases c:1<s
 .rw [aC c]
 .rw [aB c,show s=1 by omega,uD]
theorem kJ(st:HS)(s:Int):(fh st s).aj=st.aj:=by unfold fh;split <;> rfl
theorem GS(st:HS)(s:Int):(fh st s).bD=st.bD:=by unfold fh;split <;> rfl
theorem Aq(st:HS)(s:Int):(fh st s).bF=st.bF:=by unfold fh;split <;> rfl
theorem kK(st:HS)(s:Int):(fh st s).own=st.own:=by unfold fh;split <;> rfl
theorem mJ(st:HS)(s:Int):(fh st s).nms=st.nms:=by unfold fh;split <;> rfl
theorem kL(st:HS)(s:Int):(fh st s).bN=st.bN:=by unfold fh;split <;> rfl
theorem wQ{α β γ:Type}{f:α->β->γ}{t:γ}:∀{xs:List α}{ys:List β},t∈List.zipWith f xs ys->∃(i:Nat)(x:α)(y:β),xs[i]?=some x/\ys[i]?=some y/\t=f x y:=λ{xs ys} h=>by
 obtain⟨i,hi,e⟩:=yp h;rw[lR]at hi;have h1:i<xs.length:=by omega
 have h2:i<ys.length:=by omega
 exact⟨i,xs[i],ys[i],bM h1,bM h2,by rw[<-e,List.getElem_zipWith]⟩
theorem Yx{α β γ:Type}{f:α->β->γ}{xs:List α}{ys:List β}{x:α}{y:β}(h1:xs[i]?=some x)(h2:ys[i]?=some y):(List.zipWith f xs ys)[i]?=some (f x y):=by rw[Qg,h1,h2]
theorem Ci{a b c:Int}(h:a<=b)(hc:0<=c):a*c<=b*c:=Int.mul_le_mul_of_nonneg_right h hc
structure jD(st:HS)(kept whole lost:Int)(added:List Int):Prop where
 k:0<kept
 l:0<=lost
 w:whole=kept+lost
 len:added.length=st.bD.length
 add:∀m∈added,0<=m/\m<=lost*st.prod
 prod:Jm.Sz 7900 st.prod
 big:Jm.Sz 60 whole
 bF:∀u∈st.bF,Jm.Sz 8900 u
 stp:st.stp.length<100
variable {lost:Int}{added:List Int}
theorem jD.dvds{st:HS}{kept whole:Int}(b:jD st kept whole lost added):0<cy st kept whole added/\cy st kept whole added∣whole/\(∀p∈st.aj,cy st kept whole added∣p.sc*kept)/\∀c∈f7 st kept added,cy st kept whole added∣c:=by
 have hw:0<whole:=by have:=b.k;have:=b.l;have:=b.w;omega
 have d:=Al (jd st kept++f7 st kept added) whole;exact⟨Am _ _ hw,d.1,λp hp=>d.2 _ (zQ _ (a_.mpr ⟨p,hp,Z⟩)),λc hc=>d.2 _ (gG _ hc)⟩
theorem u_{st:HS}{kept whole:Int}(wf:Wf st)(b:jD st kept whole lost added):Wf (aN st kept whole added):=by
 obtain⟨hs,hsw,uS,hsc⟩:=b.dvds;have hk:=b.k;have hl:=b.l;have hw:=b.w;have p1:=wf.eE;have eB:aN st kept whole added=fh { st with aj:=st.aj.map (λp=>{ p with sc:=p.sc*kept / cy st kept whole added }),bD:=(f7 st kept added).map (· / cy st kept whole added),bF:=st.bF.map (·*(whole / cy st kept whole added)) } (whole / cy st kept whole added):=rfl;rw[eB];generalize cy st kept whole added=d at *;obtain⟨s,es⟩:=hsw;have hs1:1<=s:=by
  rcases Int.lt_trichotomy s 0 with z|z|z
  .have:=Int.mul_neg_of_pos_of_neg hs z;omega
  .rw [z,Int.mul_zero]at es;omega
  .omega
 have ed:whole / d=s:=by rw[es,EB _ (by omega)]
 rw[ed];have ajX:s<=whole:=by rw[es];have:=Int.mul_le_mul_of_nonneg_right (show 1<=d by omega) (show 0<=s by omega);omega
 have zs:Jm.Sz 60 s:=b.big.of_le (by omega);have zp:Jm.Sz 8000 (st.prod*s):=(b.prod.mul zs).mono (by decide);have pp:st.prod<=st.prod*s:=by have:=JA hs1 (show 0<=st.prod by omega);omega
 have Vn:∀c∈(f7 st kept added).map (· / d),0<=c/\c<=st.prod*s:=λc hc=>by
  obtain⟨x,hx,rfl⟩:=a_.mp hc;obtain⟨i,t,m,et,em,rfl⟩:=wQ (show x∈List.zipWith (λt m=>t*kept+m) st.bD added from hx);have ht:=wf.oS t (cu et);have hm:=b.add m (cu em);have a1:0<=t*kept:=rQ ht.1 (by omega);have a2:t*kept<=st.prod*kept:=Ci ht.2 (by omega);have a3:st.prod*kept+lost*st.prod=d*(st.prod*s):=by rw[pO lost,<-wD,<-hw,es,<-iy,<-iy,pO st.prod d]
  exact⟨Jk (by omega) (by omega),GR hs (by omega)⟩
 have sc':∀p∈st.aj,1<=p.sc*kept / d/\p.sc*kept / d<=st.prod*s/\d*(p.sc*kept / d)=p.sc*kept:=λp hp=>by
  have h0:=wf.sU p hp;obtain⟨z,ez⟩:=uS p hp;have a1:0<p.sc*kept:=wC (by omega) hk;have ez':p.sc*kept / d=z:=by rw[ez,EB _ (by omega)]
  have hz:1<=z:=by
   rcases Int.lt_trichotomy z 0 with y|y|y
   .have:=Int.mul_neg_of_pos_of_neg hs y;omega
   .rw [y,Int.mul_zero]at ez;omega
   .omega
  have a2:p.sc*kept<=st.prod*kept:=Ci h0.2 (by omega);have a3:st.prod*kept<=st.prod*whole:=JA (by omega) (by omega);have a4:st.prod*whole=d*(st.prod*s):=by rw[es,<-iy,<-iy,pO st.prod d]
  refine⟨by rw[ez'];exact hz,GR hs (by omega),by rw[ez',ez]⟩
 have P:∀{M:Pt->Prop},(∀p∈st.aj,M { p with sc:=p.sc*kept / d })->∀p∈st.aj.map (λp=>{ p with sc:=p.sc*kept / d }),M p:=λh p hp=>by obtain⟨x,hx,rfl⟩:=a_.mp hp;exact h x hx
 have top':∀p∈st.aj,∀t∈List.zipWith (λr c=>(p.sc*kept / d)*r+c) p.row ((f7 st kept added).map (· / d)),0<=t/\t<=st.prod*s:=λp hp t ht=>by
  obtain⟨i,r,c,er,ec,rfl⟩:=wQ ht;rw[cN]at ec;obtain⟨x,ex,rfl⟩:=nH.mp ec;obtain⟨y,ey⟩:=hsc x (cu ex);have eyd:x / d=y:=by rw[ey,EB _ (by omega)]
  have ex':(List.zipWith (λt m=>t*kept+m) st.bD added)[i]?=some x:=ex;rw[Qg]at ex';cases e1:st.bD[i]? with
  | none=>rw[e1]at ex';simp at ex'
  | some t0=>
   cases e2:added[i]? with
   | none=>rw[e1,e2]at ex';simp at ex'
   | some m=>
    rw[e1,e2]at ex';have ex2:t0*kept+m=x:=by simpa using ex'
    have hm:=b.add m (cu e2);have hT:=wf.pX p hp (p.sc*r+t0) (cu (Yx (f:=λr c=>p.sc*r+c) er e1));have hz:=(sc' p hp).2.2;have key:d*((p.sc*kept / d)*r+x / d)=(p.sc*r+t0)*kept+m:=by rw[wD,<-iy,hz,eyd,<-ey,<-ex2];rw[kR,iy,iy,pO kept r];omega
    have k1:0<=(p.sc*r+t0)*kept:=rQ hT.1 (by omega);have k2:(p.sc*r+t0)*kept<=st.prod*kept:=Ci hT.2 (by omega);have a3:st.prod*kept+lost*st.prod=d*(st.prod*s):=by rw[pO lost,<-wD,<-hw,es,<-iy,<-iy,pO st.prod d]
    generalize (p.sc*kept / d)*r+x / d=W at *;constructor
    .rcases Int.lt_or_le W 0 with z|z
     .have:=Int.mul_neg_of_pos_of_neg hs z;omega
     .exact z
    .have:d*W<=d*(st.prod*s):=by omega
     exact Int.le_of_mul_le_mul_left this hs
 have nm':(st.aj.map (λp:Pt=>{ p with sc:=p.sc*kept / d })).map (λp:Pt=>p.nm)=st.aj.map (λp:Pt=>p.nm):=by rw[gj];rfl
 have e0:(f7 st kept added).length=st.bD.length:=by unfold f7;rw[lR,b.len];omega
 have pu':∀u∈st.bF.map (·*s),Jm.Sz 9000 u:=λu hu=>by obtain⟨x,hx,rfl⟩:=a_.mp hu;exact((b.bF x hx).mul zs).mono (by decide)
 have aaH:∀p∈st.aj,∀r∈p.row,-(st.prod*s)<=r/\r<=st.prod*s:=λp hp r hr=>by have:=wf.oU p hp r hr;omega
 unfold fh;by_cases c:1<s
 .rw [aC c];refine⟨wf.oR,wf.yI,by rw[nm'];exact wf.dN,P wf.sub,P wf.rows,P wf.ow,?_,?_,by show 1<=st.prod*s;omega,?_,λx hx=>?_,wf.kh,wf.yJ,?_,?_,wf.u6,fM _,zp,Vn,P λp hp=>⟨(sc' p hp).1,(sc' p hp).2.1⟩,P aaH,P top',P wf.jI,pu'⟩
  .show (List.map _ (f7 st kept added)).length=_;rw[aH,e0,wf.gC]
  .show (List.map _ st.bF).length=_;rw[aH,wf.mG]
  .show st.prod*s=(st.stp++[s]).foldl (·*·) 1;rw[Yv,<-wf.pW]
  .rcases fu.mp (show x∈st.stp++[s]from hx)with z|z
   .exact wf.u0 x z
   .rw [eX.mp z];omega
  .show (List.map _ st.aj).length<=1000;rw[aH];exact wf.mH
  .show (st.stp++[s]).length<=100;rw[dD];exact b.stp
 .rw [aB c];have e1:s=1:=by omega
  subst e1;rw[uD]at Vn sc' aaH top';refine⟨wf.oR,wf.yI,by rw[nm'];exact wf.dN,P wf.sub,P wf.rows,P wf.ow,?_,?_,wf.eE,wf.pW,wf.u0,wf.kh,wf.yJ,?_,wf.Ah,wf.u6,wf.GN,wf.big,Vn,P λp hp=>⟨(sc' p hp).1,(sc' p hp).2.1⟩,P wf.oU,P λp hp t ht=>?_,P wf.jI,pu'⟩
  .show (List.map _ (f7 st kept added)).length=_;rw[aH,e0,wf.gC]
  .show (List.map _ st.bF).length=_;rw[aH,wf.mG]
  .show (List.map _ st.aj).length<=1000;rw[aH];exact wf.mH
  .exact top' p hp t ht
def uG(st:HS)(acc:List Int)(rs:List Row):List Int:=rs.foldl (λs r=>List.zipWith (λx t=>x+r.2*t) s (aK st (bH st r.1))) acc
theorem GU:∀(acc bD row:List Int)(a sc L:Int),List.zipWith (λold own=>old+(a*sc)*own) (List.zipWith (λs c=>s+(a+L)*c) acc bD) row=List.zipWith (λs c=>s+L*c) (List.zipWith (λx t=>x+a*t) acc (List.zipWith (λr c=>sc*r+c) row bD)) bD
 | [],_,_,_,_,_=>by simp
 | _::_,[],_,_,_,_=>by simp
 | _::_,_::_,[],_,_,_=>by simp
 | x::acc,c::bD,r::row,a,sc,L=>by
  simp only[EC];rw[GU acc bD row a sc L];congr 1
  grind
theorem KO{st:HS}:∀(rs:List Row)(acc:List Int),rs.foldl (jZ st) (List.zipWith (λs c=>s+aQ rs*c) acc st.bD)=List.zipWith (λs c=>s+0*c) (uG st acc rs) st.bD
 | [],acc=>by show List.zipWith _ acc st.bD=_;rfl
 | r::rs,acc=>by
  rw[j7];have e:jZ st (List.zipWith (λs c=>s+aQ (r::rs)*c) acc st.bD) r=List.zipWith (λs c=>s+aQ rs*c) (List.zipWith (λx t=>x+r.2*t) acc (aK st (bH st r.1))) st.bD:=by unfold jZ;rw[show aQ (r::rs)=r.2+aQ rs from by unfold aQ;rw[bz,c_]];exact GU acc st.bD (bH st r.1).row r.2 (bH st r.1).sc (aQ rs)
  rw[e,KO rs];rfl
theorem GV:∀(l:List Int)(L:Int),List.zipWith (λs c=>s+L*c) (List.replicate l.length 0) l=l.map λc=>L*c
 | [],_=>rfl
 | x::l,L=>by rw[kM,BV,EC,GV l L,wu];rfl
theorem KP:∀(s l:List Int),s.length<=l.length->List.zipWith (λs c=>s+0*c) s l=s
 | [],_,_=>by simp
 | _::_,[],h=>by simp at h
 | x::s,c::l,h=>by rw[EC,KP s l (by simpa using h),pP,Int.add_zero]
theorem Ar{st:HS}:∀(rs:List Row)(acc:List Int),(∀r∈rs,(aK st (bH st r.1)).length=acc.length)->(uG st acc rs).length=acc.length
 | [],_,_=>rfl
 | r::rs,acc,h=>by
  have e:(List.zipWith (λx t=>x+r.2*t) acc (aK st (bH st r.1))).length=acc.length:=by rw[lR,h r cU];omega
  show(uG st (List.zipWith (λx t=>x+r.2*t) acc (aK st (bH st r.1))) rs).length=_;rw[Ar rs _ (λx hx=>by rw[e];exact h x (cA _ hx)),e]
theorem BH{st:HS}(hP:0<=st.prod):∀(rs:List Row)(acc:List Int)(B:Int),(∀r∈rs,0<=r.2/\∀t∈aK st (bH st r.1),0<=t/\t<=st.prod)->(∀x∈acc,0<=x/\x<=B)->∀x∈uG st acc rs,0<=x/\x<=B+aQ rs*st.prod
 | [],acc,B,_,ha,x,hx=>by have:=ha x hx;show 0<=x/\x<=B+0*st.prod;omega
 | r::rs,acc,B,h,ha,x,hx=>by
  have hr:=h r cU;have:=BH hP rs (List.zipWith (λx t=>x+r.2*t) acc (aK st (bH st r.1))) (B+r.2*st.prod) (λy hy=>h y (cA _ hy)) (λy hy=>by obtain⟨i,a,t,ea,et,rfl⟩:=wQ hy;have h1:=ha a (cu ea);have h2:=hr.2 t (cu et);have h3:0<=r.2*t:=rQ hr.1 h2.1;have h4:r.2*t<=r.2*st.prod:=JA h2.2 hr.1;omega) x hx
  rw[show aQ (r::rs)=r.2+aQ rs from by unfold aQ;rw[bz,c_],kR];omega
theorem qV{st:HS}(wf:Wf st)(h:p∈st.aj):(aK st p).length=st.bD.length:=by unfold aK;rw[lR,wf.rows p h,wf.gC];omega
theorem bQ{st:HS}(wf:Wf st)(h:p∈st.aj)(e:p.nm=x):bH st x=p:=by obtain⟨i,hi,ei⟩:=yp h;rw[<-e];exact OX wf.dN (i:=i) (by rw[bM hi,ei])
theorem wR{st:HS}(wf:Wf st)(h:∀r∈rs,∃p∈st.aj,p.nm=r.1):dW st rs=uG st (List.replicate st.bD.length 0) rs:=by
 unfold dW;rw[<-GV st.bD (aQ rs),KO];refine KP _ _ ?_;rw[Ar rs _ (λr hr=>by obtain⟨p,hp,e⟩:=h r hr;rw[bQ wf hp e,jV,qV wf hp]),jV]
 exact aO _
theorem SY{st:HS}(wf:Wf st)(h:∀r∈rs,1<=r.2/\∃p∈st.aj,p.nm=r.1):(dW st rs).length=st.bD.length/\∀m∈dW st rs,0<=m/\m<=aQ rs*st.prod:=by
 rw[wR wf (λr hr=>(h r hr).2)];have p1:=wf.eE;constructor
 .rw [Ar rs _ (λr hr=>by obtain⟨p,hp,e⟩:=(h r hr).2;rw[bQ wf hp e,jV,qV wf hp]),jV]
 .intro m hm;have:=BH (st:=st) (by omega) rs (List.replicate st.bD.length 0) 0 (λr hr=>by obtain⟨h1,p,hp,e⟩:=h r hr;refine⟨by omega,?_⟩;rw[bQ wf hp e];exact wf.pX p hp) (λx hx=>by rw[(List.mem_replicate.mp hx).2];omega) m hm
  omega
theorem DK{ps:List Pt}{a:Int}(h:p∈ps)(hn:p.nm≠x)(hw:p.wo≠0):p∈jL ps x a:=mZ.mpr ⟨a_.mpr ⟨p,h,by rw[aB hn]⟩,br hw⟩
theorem qW{ps:List Pt}{a:Int}(h:p∈jL ps x a):p.wo≠0/\∃q∈ps,p=if q.nm=x then{ q with wo:=q.wo-a } else q:=by obtain⟨h1,h2⟩:=mZ.mp h;obtain⟨q,hq,e⟩:=a_.mp h1;exact⟨eF h2,q,hq,e.symm⟩
theorem uH{ps:List Pt}{a:Int}:((jL ps x a).map (λp:Pt=>p.nm)).Sublist (ps.map (λp:Pt=>p.nm)):=by
 unfold jL;have e:(ps.map λp=>if p.nm=x then{ p with wo:=p.wo-a } else p).map (λp:Pt=>p.nm)=ps.map (λp:Pt=>p.nm):=by rw[gj];exact oN λp _=>by show(if p.nm=x then _ else p:Pt).nm=p.nm;split <;> rfl
 rw[<-e];exact List.filter_sublist.map _
theorem E1{st:HS}(wf:Wf st)(h:∀p∈st.aj,p.nm=r.1->r.2<=p.wo):Wf (cT st r):=by
 have P:∀{M:Pt->Prop},(∀p∈st.aj,M p)->(∀(p:Pt)(w:Int),M p->M { p with wo:=w })->∀p∈jL st.aj r.1 r.2,M p:=λh1 h2 p hp=>by
  obtain⟨_,q,hq,e⟩:=qW hp;rw[e];split
  .exact h2 _ _ (h1 q hq)
  .exact h1 q hq
 refine⟨wf.oR,wf.yI,wf.dN.sublist uH,P wf.sub (λ_ _ z=>z),P wf.rows (λ_ _ z=>z),P wf.ow (λ_ _ z=>z),wf.gC,wf.mG,wf.eE,wf.pW,wf.u0,wf.kh,wf.yJ,?_,wf.Ah,wf.u6,wf.GN,wf.big,wf.oS,P wf.sU (λ_ _ z=>z),P wf.oU (λ_ _ z=>z),P wf.pX (λ_ _ z=>z),λp hp=>?_,wf.ES⟩
 .have:=uH (ps:=st.aj) (x:=r.1) (a:=r.2) |>.length_le;rw[aH,aH]at this;exact gh this wf.mH
 .obtain ⟨h0,q,hq,e⟩:=qW hp;have:=wf.jI q hq;by_cases c:q.nm=r.1
  .rw [aC c]at e;subst e;have:=h q hq c;have h0:q.wo-r.2≠0:=h0;exact⟨by show 1<=q.wo-r.2;omega,by show 0<=q.we;omega⟩
  .rw [aB c]at e;rw[e];exact this
def Due(st:HS)(rs:List Row):Prop:=∀r∈rs,∃p∈st.aj,p.nm=r.1/\r.2<=p.wo
theorem uL{st:HS}(wf:Wf st){q:Pt}(hp:p∈st.aj)(hq:q∈st.aj)(e:p.nm=q.nm):p=q:=(bQ wf hp rfl).symm.trans (by rw[e];exact bQ wf hq rfl)
theorem KQ{st:HS}(wf:Wf st)(d:Due st (r::rs)):Wf (cT st r):=by obtain⟨p,hp,e,hle⟩:=d r cU;exact E1 wf λq hq eq=>by rw[uL wf hq hp (eq.trans e.symm)];exact hle
theorem Cj{st:HS}(wf:Wf st)(d:Due st (r::rs))(nd:((r::rs).map (λr:Row=>r.1)).Nodup):Due (cT st r) rs:=λx hx=>by obtain⟨p,hp,e,hle⟩:=d x (cA _ hx);have hn:p.nm≠r.1:=λz=>(fX.mp nd).1 (a_.mpr ⟨x,hx,e.symm.trans z⟩);have:=wf.jI p hp;exact⟨p,DK hp hn (by omega),e,hle⟩
theorem KR:∀{rs:List Row}{st:HS},Wf st->Due st rs->(rs.map (λr:Row=>r.1)).Nodup->Wf (rs.foldl cT st)
 | [],_,wf,_,_=>wf
 | r::rs,st,wf,d,nd=>show Wf (rs.foldl cT (cT st r))from KR (KQ wf d) (Cj wf d nd) (fX.mp nd).2
theorem As{st:HS}{kept whole:Int}(d:Due st rs):Due (aN st kept whole added) rs:=λr hr=>by obtain⟨p,hp,e,hle⟩:=d r hr;refine⟨{ p with sc:=p.sc*kept / cy st kept whole added },?_,e,hle⟩;unfold aN;rw[kJ];exact a_.mpr ⟨p,hp,Z⟩
theorem jM.due{st:HS}(c:jM st rs):Due st rs:=λr hr=>(c.row r hr).2.2
theorem qX:∀{rs:List Row},(∀r∈rs,1<=r.2)->0<=aQ rs
 | [],_=>kQ _
 | r::rs,h=>by have:=h r cU;have:=qX (rs:=rs) λx hx=>h x (cA _ hx);rw[show aQ (r::rs)=r.2+aQ rs from by unfold aQ;rw[bz,c_]];omega
theorem jM.blend{st:HS}(wf:Wf st)(c:jM st rs):jD st (aE st-aQ rs) (aE st) (aQ rs) (dW st rs):=by have g:=SY wf (rs:=rs) (λr hr=>⟨(c.row r hr).1,by obtain⟨p,hp,e,_⟩:=(c.row r hr).2.2;exact⟨p,hp,e⟩⟩);have l0:=qX (rs:=rs) λr hr=>(c.row r hr).1;have:=c.lost;exact⟨by omega,l0,by omega,g.1,g.2,c.prod,c.big,c.bF,c.stp⟩
theorem Yy{st:HS}(wf:Wf st)(c:jM st rs):Wf (cV st rs):=KR (u_ wf (c.blend wf)) (As c.due) c.nd
structure Q6(K:Fg)(H:Hp)(us:List V)(ws:List Row):Prop where
 len:us.length=ws.length
 at_:∀(i:Nat)(r:Row),ws[i]?=some r->∃a xs,us[i]?=some (.ref a)/\Sq K H a xs/\xs[0]?=some (.str r.1)/\xs[2]?=some (.int r.2)
theorem Au:∀{l:List Str}{o:Str},o∈l->l[l.idxOf o]?=some o
 | [],_,h=>by simp at h
 | x::l,o,h=>by
  by_cases e:x=o
  .subst e;simp
  .have ho:o∈l:=by
    rcases cK.mp h with z|z
    .exact absurd z.symm e
    .exact z
   rw[List.idxOf_cons,show(x==o)=false from BS.mpr e];simpa using Au ho
inductive ag3(K:Fg)(vs:List V)(H:Hp)(Q:VK)(E:XK):Prop
 |mk(l:Addr)(us:List V)(ws:List Row)(i:Nat)(r:Row)(_:vs=[.ref l,.str r.1])(_:aJ K H l us)(_:Q6 K H us ws)(_:(ws.map (λr:Row=>r.1)).Nodup)(_:ws.length<=1000)(_:ws[i]?=some r)(_:Q (.int (i:Int)) H)
def WM(K:Fg):Sp:=bx (ag3 K)
structure KS(ws rs:List Row):Prop where
 nd:(rs.map (λr:Row=>r.1)).Nodup
 row:∀r∈rs,1<=r.2/\r.2<=1000000000/\∃w∈ws,w.1=r.1/\r.2<=w.2
 lost:aQ rs<aQ ws\/rs=[]
 len:rs.length<=ws.length
inductive aaI(K:Fg)(vs:List V)(H:Hp)(Q:VK)(E:XK):Prop
 |mk(a l:Addr)(ns:List Int)(k:Int)(us:List V)(ws:List Row)(_:vs=[.ref a,.int k,.ref l])(_:aJ K H a (ns.map V.int))(_:ns.length<=63)(_:0<=k)(_:k<=1000000)(_:aJ K H l us)(_:Q6 K H us ws)(_:(ws.map (λr:Row=>r.1)).Nodup)(_:ws.length<=1000)(_:(∀w∈ws,1<=w.2))(_:∀z zs rs H',aR H H'->H z=none->H' z=some (.lst zs)->ee H' zs rs->KS ws rs->Q (.ref z) H')
def E2(K:Fg):Sp:=bx (aaI K)
section
variable {X:Cx}
def vc(i j k:Int):Int:=if j<i then(if k<j then k else j) else(if k<i then k else i)
theorem Yz(i j k:Int):vc i j k<=i/\vc i j k<=j/\vc i j k<=k:=by unfold vc;split <;> split <;> omega
theorem YA{i j k m:Int}(h1:m<=i)(h2:m<=j)(h3:m<=k):m<=vc i j k:=by unfold vc;split <;> split <;> omega
theorem S0(hc:X.calm=true):i_ X (.builtin "min") (λxs H Q=>∃i j k,xs=[.int i,.int j,.int k]/\Q (.int (vc i j k)) H):=by
 intro pins s σ H xs us Q I r h;obtain⟨i,j,k,rfl,q⟩:=h;obtain⟨u,us,rfl,⟨t,rfl⟩,r2⟩:∃u us',us=u::us'/\RelV (.int i) u/\Vals [.int j,.int k] us':=by cases r with|cons a b=>exact⟨_,_,rfl,a,b⟩
 obtain⟨u2,u3,rfl,⟨t',rfl⟩,⟨t'',rfl⟩⟩:=vals2 r2;refine min_three_ints (I.ok.hd hc) λh' tk kk=>⟨_,H,I.kept kk,?_,q⟩
 unfold vc;by_cases hj:j<i
 .rw [aC hj,aC hj];by_cases hk:k<j
  .rw [aC hk,aC hk];exact⟨_,Z⟩
  .rw [aB hk,aB hk];exact⟨_,Z⟩
 .rw [aB hj,aB hj];by_cases hk:k<i
  .rw [aC hk,aC hk];exact⟨_,Z⟩
  .rw [aB hk,aB hk];exact⟨_,Z⟩
end
def gT(rs:List Row)(x:Str):Int:=((rs.find? λr=>decide (r.1=x)).map (λr:Row=>r.2)).getD 0
theorem Av(x:Str):gT [] x=0:=rfl
theorem p7(r:Row)(rs:List Row)(x:Str):gT (r::rs) x=if r.1=x then r.2 else gT rs x:=by
 unfold gT;rw[uz];by_cases c:r.1=x
 .rw [br c,aC c];rfl
 .rw [dF c,aB c]
theorem yN:∀{rs:List Row}{x:Str},x∉rs.map (λr:Row=>r.1)->gT rs x=0
 | [],_,_=>rfl
 | r::rs,x,h=>by rw[p7,aB (λe=>h (by rw[bz,e];exact cU))];exact yN λm=>h (by rw[bz];exact cA _ m)
theorem yO:∀{rs:List Row}{r:Row}{x:Str},r.1∉rs.map (λr:Row=>r.1)->gT (rs++[r]) x=if r.1=x then r.2 else gT rs x
 | [],r,x,_=>by rw[Ji,p7]
 | y::rs,r,x,h=>by
  rw[bz]at h;have h1:r.1≠y.1:=λe=>h (by rw[e];exact cU);rw[Jf,p7,yO (λm=>h (cA _ m)),p7];by_cases c:y.1=x
  .rw [aC c,aC c,aB (λe=>h1 (e.trans c.symm))]
  .rw [aB c,aB c]
abbrev Q4:=Str×Str×Int×Int
def aV(st:HS):List Q4:=st.aj.map λp=>(p.nm,p.ow,p.wo,p.we)
def ja(qs:List Q4)(r:Row):List Q4:=(qs.map λq=>if q.1=r.1 then(q.1,q.2.1,q.2.2.1-r.2,q.2.2.2) else q).filter λq=>decide (q.2.2.1≠0)
def p8(rs:List Row)(qs:List Q4):List Q4:=(qs.map λq=>(q.1,q.2.1,q.2.2.1-gT rs q.1,q.2.2.2)).filter λq=>decide (0<q.2.2.1)
theorem Aw(st:HS)(r:Row):aV (cT st r)=ja (aV st) r:=by
 unfold aV cT jL ja;generalize st.aj=ps;show List.map _ (List.filter _ (List.map _ ps))=_
 induction ps with
 | nil=>rfl
 | cons p ps ih=>
  rw[bz,bz,bz];by_cases c:p.nm=r.1
  .rw [aC c,aC (show(p.nm,p.ow,p.wo,p.we).1=r.1 from c),e_,e_];by_cases d:p.wo-r.2=0
   .rw [aB (by simpa using d),aB (by simpa using d),ih]
   .rw [aC (by simpa using d),aC (by simpa using d),bz,ih]
  .rw [aB c,aB (show ¬ (p.nm,p.ow,p.wo,p.we).1=r.1 from c),e_,e_];by_cases d:p.wo=0
   .rw [aB (by simpa using d),aB (by simpa using d),ih]
   .rw [aC (by simpa using d),aC (by simpa using d),bz,ih]
theorem kW(st:HS)(kept whole:Int)(added:List Int):aV (aN st kept whole added)=aV st:=by unfold aV aN;rw[kJ,gj];rfl
theorem p_:∀(rs:List Row)(st:HS),aV (rs.foldl cT st)=rs.foldl ja (aV st)
 | [],_=>rfl
 | r::rs,st=>by rw[j7,j7,p_ rs,Aw]
theorem DL:∀(qs:List Q4)(r:Row)(rs:List Row),r.1∉rs.map (λr:Row=>r.1)->(∀q∈qs,1<=q.2.2.1)->(∀q∈qs,q.1=r.1->r.2<=q.2.2.1)->p8 rs (ja qs r)=p8 (r::rs) qs
 | [],_,_,_,_,_=>rfl
 | q::qs,r,rs,hn,h1,h2=>by
  have ih:=DL qs r rs hn (λx hx=>h1 x (cA _ hx)) (λx hx=>h2 x (cA _ hx));have w1:=h1 q cU;have e1:ja (q::qs) r=(if q.1=r.1 then(if q.2.2.1-r.2=0 then[] else[(q.1,q.2.1,q.2.2.1-r.2,q.2.2.2)]) else[q])++ja qs r:=by
   unfold ja;rw[bz,e_];by_cases c:q.1=r.1
   .rw [aC c,aC c];by_cases d:q.2.2.1-r.2=0
    .rw [aC d,aB (by simpa using d)];rfl
    .rw [aB d,aC (by simpa using d)];rfl
   .rw [aB c,aB c,aC (br (show q.2.2.1≠0 by omega))];rfl
  have e2:∀(us:List Row)(x:Q4)(l:List Q4),p8 us (x::l)=(if 0<x.2.2.1-gT us x.1 then[(x.1,x.2.1,x.2.2.1-gT us x.1,x.2.2.2)] else[])++p8 us l:=λus x l=>by
   unfold p8;rw[bz,e_];by_cases c:0<x.2.2.1-gT us x.1
   .rw [aC c,aC (br c)];rfl
   .rw [aB c,aB (by simpa using c)];rfl
  rw[e1,e2 (r::rs),p7];by_cases c:q.1=r.1
  .have am:gT rs q.1=0:=by rw[c];exact yN hn
   have le:=h2 q cU c;rw[aC c,aC c.symm];by_cases d:q.2.2.1-r.2=0
   .rw [aC d,aB (by omega),<-ih];rfl
   .rw [aB d,aC (by omega),<-ih,Jf,Ji,e2 rs];show(if 0<q.2.2.1-r.2-gT rs q.1 then[(q.1,q.2.1,q.2.2.1-r.2-gT rs q.1,q.2.2.2)] else[])++_=_;rw[am,A3,aC (by omega)]
  .rw [aB c,show(if r.1=q.1 then r.2 else gT rs q.1)=gT rs q.1 from aB (λz=>c z.symm),<-ih,Jf,Ji,e2 rs]
theorem GX{qs:List Q4}{x:Q4}(h:x∈ja qs r):x.2.2.1≠0/\∃q∈qs,x=if q.1=r.1 then(q.1,q.2.1,q.2.2.1-r.2,q.2.2.2) else q:=by obtain⟨h1,h2⟩:=mZ.mp h;obtain⟨q,hq,e⟩:=a_.mp h1;exact⟨eF h2,q,hq,e.symm⟩
theorem GY:∀(rs:List Row)(qs:List Q4),(rs.map (λr:Row=>r.1)).Nodup->(∀q∈qs,1<=q.2.2.1)->(∀r∈rs,∀q∈qs,q.1=r.1->r.2<=q.2.2.1)->rs.foldl ja qs=p8 rs qs
 | [],qs,_,h1,_=>by
  show qs=p8 [] qs;unfold p8
  induction qs with
  | nil=>rfl
  | cons q qs ih=>have:=h1 q cU;rw[bz,e_,aC (br (show 0<q.2.2.1-gT [] q.1 by rw[Av];omega)),<-ih (λx hx=>h1 x (cA _ hx)) (λr hr=>absurd hr (by simp)),Av,A3]
 | r::rs,qs,nd,h1,h2=>by
  obtain⟨n1,n2⟩:=fX.mp (show(r.1::rs.map (λr:Row=>r.1)).Nodup from nd);rw[j7,GY rs (ja qs r) n2 ?_ ?_]
  .exact DL qs r rs n1 h1 (h2 r cU)
  .intro x hx;obtain⟨a,q,hq,e⟩:=GX hx;have:=h1 q hq;by_cases c:q.1=r.1
   .rw [aC c]at e;have:=h2 r cU q hq c;rw[e]at a ⊢;have a:q.2.2.1-r.2≠0:=a;show 1<=q.2.2.1-r.2;omega
   .rw [aB c]at e;rw[e];exact this
  .intro y hy x hx ex;obtain⟨_,q,hq,e⟩:=GX hx;by_cases c:q.1=r.1
   .rw [aC c]at e;rw[e]at ex;exact absurd (a_.mpr ⟨y,hy,ex.symm.trans c⟩) n1
   .rw [aB c]at e;rw[e]at ex ⊢;exact h2 y (cA _ hy) q hq ex
theorem qY(st:HS)(rs:List Row):(cV st rs).own=st.own:=by
 unfold cV;have:∀(rs:List Row)(s:HS),(rs.foldl cT s).own=s.own:=λrs=>by
  induction rs with
  | nil=>intro s;rfl
  | cons r rs ih=>intro s;rw[j7,ih];rfl
 rw[this];unfold aN;rw[kK]
theorem jN:∀(rs:List Row)(s:HS),rs.foldl cT s={ s with aj:=(rs.foldl cT s).aj }
 | [],_=>rfl
 | r::rs,s=>by rw[j7,jN rs (cT s r)];rfl
theorem oW{f:Int->Int->Int}(hf:f 0 0=0){xs ys:List Int}(h:xs.length=ys.length)(j:Nat):(List.zipWith f xs ys).getD j 0=f (xs.getD j 0) (ys.getD j 0):=by
 rw[lu,lu,lu,Qg];by_cases c:j<xs.length
 .rw [bM c,bM (by omega)];rfl
 .rw [BR (by omega),BR (by omega)];exact hf.symm
def cI(rs:List Row)(f:Str->Int):Int:=(rs.map λr=>r.2*f r.1).sum
theorem Ck{st:HS}:∀(rs:List Row)(acc:List Int),(∀r∈rs,(aK st (bH st r.1)).length=acc.length)->∀j,(uG st acc rs).getD j 0=acc.getD j 0+cI rs λx=>(aK st (bH st x)).getD j 0
 | [],acc,_,j=>by show acc.getD j 0=_+0;omega
 | r::rs,acc,h,j=>by
  have hr:=h r cU;have e:(List.zipWith (λx t=>x+r.2*t) acc (aK st (bH st r.1))).length=acc.length:=by rw[lR,hr];omega
  show(uG st (List.zipWith (λx t=>x+r.2*t) acc (aK st (bH st r.1))) rs).getD j 0=_;rw[Ck rs _ (λx hx=>by rw[e];exact h x (cA _ hx)),oW (f:=λx t=>x+r.2*t) (by show(0:Int)+r.2*0=0;omega) hr.symm];unfold cI;rw[bz,c_];show acc.getD j 0+r.2*(aK st (bH st r.1)).getD j 0+(rs.map λr=>r.2*(aK st (bH st r.1)).getD j 0).sum=acc.getD j 0+(r.2*(aK st (bH st r.1)).getD j 0+(rs.map λr=>r.2*(aK st (bH st r.1)).getD j 0).sum)
  omega
theorem yP:∀(rs:List Row){s:HS}{p':Pt},p'∈(rs.foldl cT s).aj->∃p∈s.aj,p'.nm=p.nm/\p'.row=p.row/\p'.sc=p.sc
 | [],_,p',h=>⟨p',h,Z,Z,Z⟩
 | r::rs,s,p',h=>by obtain⟨p,hp,e1,e2,e3⟩:=yP rs (s:=cT s r) h;obtain⟨_,q,hq,e⟩:=qW hp;refine⟨q,hq,?_⟩;rw[e1,e2,e3,e];split <;> exact⟨Z,Z,Z⟩
theorem wU{st st':HS}{kept whole:Int}{added:List Int}(wf:Wf st)(bl:jD st kept whole lost added)(ec:st'.bD=(aN st kept whole added).bD)(ep:st'.prod=(aN st kept whole added).prod){p':Pt}(hp:p∈st.aj)(e2:p'.row=p.row)(e3:p'.sc=p.sc*kept / cy st kept whole added){t0 gB B:Int}{j:Nat}(tj:t0*st.prod=(aK st p).getD j 0*B)(eB:gB*st.prod=added.getD j 0*B):(t0*kept+gB)*st'.prod=(aK st' p').getD j 0*(B*whole):=by
 obtain⟨hd,GZ,hds,hdc⟩:=bl.dvds
 have ag4:st'.bD=(f7 st kept added).map (· / cy st kept whole added):=by rw[ec];unfold aN;rw[GS]
 have s1:1<=whole / cy st kept whole added:=by
  have w1:0<whole:=by have:=bl.l;have:=bl.w;have:=bl.k;omega
  have:=Int.le_of_dvd w1 GZ;exact Int.le_ediv_of_mul_le hd (by omega)
 have WN:st'.prod=st.prod*(whole / cy st kept whole added):=by rw[ep];unfold aN;rw[yM s1]
 have hds:=hds p hp
 have hrl:=wf.rows p hp
 have hcl:=wf.gC
 have gl:=bl.len
 have ewd:cy st kept whole added*(whole / cy st kept whole added)=whole:=Int.mul_ediv_cancel' GZ
 have a5:cy st kept whole added*p'.sc=p.sc*kept:=by rw[e3];exact Int.mul_ediv_cancel' hds
 rw[WN]
 clear ec ep WN e3 bl GZ hds s1
 generalize cy st kept whole added=d at *
 have etop:d*(aK st' p').getD j 0=(aK st p).getD j 0*kept+added.getD j 0:=by
  have a1:(aK st' p').getD j 0=p'.sc*p.row.getD j 0+((f7 st kept added).map (· / d)).getD j 0:=by unfold aK;rw[ag4,e2,oW (f:=λr c=>p'.sc*r+c) (by show p'.sc*0+0=0;omega)];rw[aH];unfold f7;rw[lR,gl,hrl,hcl];omega
  have a2:(aK st p).getD j 0=p.sc*p.row.getD j 0+st.bD.getD j 0:=by unfold aK;exact oW (f:=λr c=>p.sc*r+c) (by show p.sc*0+0=0;omega) (by rw[hrl,hcl]) j
  have a3:(f7 st kept added).getD j 0=st.bD.getD j 0*kept+added.getD j 0:=by unfold f7;exact oW (f:=λt m=>t*kept+m) (by show(0:Int)*_+0=0;omega) gl.symm j
  have a4:d*((f7 st kept added).map (· / d)).getD j 0=(f7 st kept added).getD j 0:=by
   rw[lu,lu,cN];cases ec:(f7 st kept added)[j]? with
   | none=>show _*0=(0:Int);omega
   | some x=>exact Int.mul_ediv_cancel' (hdc x (cu ec))
  rw[a1,wD,<-iy,a5,a4,a3,a2]
  grind
 generalize whole / d=S3 at *
 generalize (aK st' p').getD j 0=T' at *
 generalize (aK st p).getD j 0=T at *
 generalize added.getD j 0=gS at *
 refine BP (a:=d) (by omega) ?_
 have l1:d*((t0*kept+gB)*(st.prod*S3))=(t0*st.prod*kept+gB*st.prod)*(d*S3):=by grind
 have l2:d*(T'*(B*whole))=(d*T')*(B*whole):=by grind
 rw[l1,l2,ewd,tj,eB,etop]
 grind
theorem BI{α:Type}(f:α->Int)(k:Int):∀l:List α,(l.map λx=>f x*k).sum=(l.map f).sum*k
 | []=>by simp
 | a::l=>by rw[bz,bz,c_,c_,BI f k l,kR]
theorem xB:∀{l:List Int}{i:Nat}{x:Int},i<l.length->(l.set i (l.getD i 0+x)).sum=l.sum+x
 | a::l,0,x,_=>by rw[Qn,c_,c_];show a+x+_=_;omega
 | a::l,i+1,x,h=>by rw[JH,c_,c_];have:=xB (l:=l) (i:=i) (x:=x) (by simpa using h);have e:(a::l).getD (i+1) 0=l.getD i 0:=rfl;rw[e,this];omega
 | [],_,_,h=>by simp at h
theorem OZ(k:Int):∀{ts gs:List Int},ts.length=gs.length->(List.zipWith (λt g=>t*k+g) ts gs).sum=ts.sum*k+gs.sum
 | [],[],_=>by simp
 | t::ts,g::gs,h=>by have:=OZ k (ts:=ts) (gs:=gs) (by simpa using h);rw[EC,c_,c_,c_,this,kR];omega
 | [],_::_,h=>by simp at h
 | _::_,[],h=>by simp at h
theorem YB(st:HS)(rs:List Row):(cV st rs).kn<=st.kn:=by
 unfold cV;rw[jN];show(aN st (aE st-aQ rs) (aE st) (dW st rs)).kn<=st.kn;unfold aN fh;split
 .exact fM _
 .exact aO _
theorem KU(n:Nat):(List.replicate n (0:Int)).sum=0:=by
 induction n with
 | zero=>rfl
 | succ n ih=>rw[BV,c_,ih];rfl
theorem nc:∀(l:List Str)(st:HS),st.aj=[]->(∀u∈st.bF,u=0)->(l.foldl h_ st).aj=[]/\(l.foldl h_ st).nms=st.nms/\(l.foldl h_ st).stp=st.stp/\(l.foldl h_ st).prod=st.prod/\(l.foldl h_ st).bN=st.bN/\∀u∈(l.foldl h_ st).bF,u=0
 | [],_,h,hp=>⟨h,Z,Z,Z,Z,hp⟩
 | o::l,st,h,hp=>by
  rw[j7];exact nc l (h_ st o) (by show st.aj.map _=[];rw[h];rfl) (λu hu=>by
   rcases fu.mp (show u∈st.bF++[0]from hu)with z|z
   .exact hp u z
   .exact eX.mp z)
def x_(K:Fg)(ρ:cg)(H:Hp)(z:Addr)(xs:List V):Prop:=∀(ρ':cg)(H':Hp),aR (out ρ H) (out ρ' H')->aJ K H' z xs
theorem x_.of(h:aJ K H z xs):x_ K (λ_=>none) H z xs:=λρ' H' s=>by
 rcases h with(h|⟨o,h⟩)|h
 .exact .inl (.inl (ie (s _ _ (kg h rfl))).1)
 .exact .inl (.inr ⟨o,(ie (s _ _ (kg h rfl))).1⟩)
 .exact .inr h
theorem x_.go(h:x_ K ρ H z xs)(s:aR (out ρ H) (out ρ' H')):x_ K ρ' H' z xs:=λ_ _ s'=>h _ _ (s.trans s')
theorem aJ.outs(h:aJ K H z xs)(c:ρ z=none)(s:aR (out ρ H) (out ρ' H')):aJ K H' z xs:=by
 rcases h with(h|⟨o,h⟩)|h
 .exact .inl (.inl (ie (s _ _ (kg h c))).1)
 .exact .inl (.inr ⟨o,(ie (s _ _ (kg h c))).1⟩)
 .exact .inr h
theorem HH.other{st:HS}(h:HH T n ρ A H st)(f:Fr m ρ H ρ' H')(g:Gh ρ' H')(e:n≠m):HH T n ρ' A H' st:=⟨g,h.h.other f h.g e,h.wf⟩
theorem KW:∀(l:List Str)(st:HS),(l.foldl h_ st).kn=st.kn
 | [],_=>rfl
 | o::l,st=>by rw[j7,KW l];rfl
structure fC(K:Fg)(x:Str)(st:Stmt):Prop where
 ex:∃(f:Addr)(oc:Value)(od an:Option Addr)(sl:Array (Option Value))(kV dc pm cd ct:Value),PySem.W.nsIn K mainGlobals x=some (some (.ref f))/\K.lookup f=some ⟨oc,od,.func (PySem.W.fnOf x x (fZ st) (dR st) (aF st) .none kV dc pm an cd ct),sl⟩/\PySem.W.codeIn K cd x=true/\PySem.W.keepIn K (.ref f)=true
theorem fC.at{st:Stmt}(d:fC K x st)(X:K.In h)(G:h.Ns mainGlobals mg):∃f fd,At K mg x st f fd:=by obtain⟨f,oc,od,an,sl,kV,dc,pm,cd,ct,a,l,c,k⟩:=d.ex;exact⟨f,_,WB X G a l c k⟩
structure dh(K:Fg)(C:Addr)(n qual:Str)(st:Stmt):Prop where
 ex:∃(f:Addr)(oc:Value)(od an:Option Addr)(sl:Array (Option Value))(kV dc pm cd ct:Value),PySem.W.findIn K (.ref C) n=some (some (.ref f))/\PySem.W.isFn K (.ref f)=true/\K.lookup f=some ⟨oc,od,.func (PySem.W.fnOf n qual (fZ st) (dR st) (aF st) .none kV dc pm an cd ct),sl⟩/\PySem.W.codeIn K cd qual=true/\PySem.W.keepIn K (.ref f)=true
theorem dh.at{n:Str}{st:Stmt}(d:dh K C n qual st)(cl:qK K C):∃f fd,iG K C n qual st f fd:=by obtain⟨f,oc,od,an,sl,kV,dc,pm,cd,ct,a,i,l,c,k⟩:=d.ex;exact⟨f,_,J7 l c k,⟨a,i,k⟩,cl⟩
theorem dh.made{st:Stmt}(d:dh K C "__init__" qual st)(X:K.In h)(G:h.Ns mainGlobals mg)(a0:PySem.W.nsIn K mainGlobals x=some (some (.ref C)))(m:PySem.W.makesIn K C=true)(kc:PySem.W.keepIn K (.ref C)=true):∃f fd,GJ K mg x C qual st f fd:=by obtain⟨f,oc,od,an,sl,kV,dc,pm,cd,ct,a,i,l,c,k⟩:=d.ex;exact⟨f,_,J7 l c k,⟨m,a,i,kc⟩,PySem.W.mg_of X G a0⟩
variable {oc pm ct:Value}{od an:Option Addr}{sl:Array (Option Value)}
theorem fC.of{st:Stmt}{kV dc cd:Value}(a:PySem.W.nsIn K mainGlobals x=some (some (.ref f)))(l:K.lookup f=some ⟨oc,od,.func (PySem.W.fnOf x x (fZ st) (dR st) (aF st) .none kV dc pm an cd ct),sl⟩)(c:PySem.W.codeIn K cd x=true)(k:PySem.W.keepIn K (.ref f)=true):fC K x st:=⟨⟨_,_,_,_,_,_,_,_,_,_,a,l,c,k⟩⟩
theorem dh.of{n:Str}{st:Stmt}{kV dc cd:Value}(a:PySem.W.findIn K (.ref C) n=some (some (.ref f)))(i:PySem.W.isFn K (.ref f)=true)(l:K.lookup f=some ⟨oc,od,.func (PySem.W.fnOf n qual (fZ st) (dR st) (aF st) .none kV dc pm an cd ct),sl⟩)(c:PySem.W.codeIn K cd qual=true)(k:PySem.W.keepIn K (.ref f)=true):dh K C n qual st:=⟨⟨_,_,_,_,_,_,_,_,_,_,a,i,l,c,k⟩⟩
section
variable {X:Cx}
variable {o i:Expr}{pos:Pos}{td ty:TE}
end
theorem YC(xs:List V)(k:Nat):z6 xs none (some (k:Int))=xs.take k:=by
 unfold z6;rw[HT.JY,HT.OE,List.drop_zero,Nat.sub_zero];rcases Nat.le_total k xs.length with h|h
 .rw [Nat.min_eq_left h]
 .rw [Nat.min_eq_right h,cO,JC h]
theorem S7(xs:List V)(k:Nat):z6 xs (some (k:Int)) none=xs.drop k:=by
 unfold z6;rw[HT.JY,HT.OE];rcases Nat.le_total k xs.length with h|h
 .rw [Nat.min_eq_left h];exact JC (by rw[JL];omega)
 .rw [Nat.min_eq_right h,List.drop_length,List.drop_of_length_le h,List.take_nil]
section
variable {a b:List Nat}{m v:Int}(ha:pU a)(hb:pU b)(hm:1<=m)(hm2:m<=1000000000)(hv:0<=v)(hv2:v<=1000000000)
include ha hb hm hm2 hv hv2 in
end
section
variable {X:Cx}
end
section
variable {X:Cx}
end
section
variable {P:Program}{w:World}{K:Fg}{mg:SO}{base:Heap}{N:List Str}{qual:Str}{scope:Scope}{f:Addr}{cd:Value}{A:Around}{outer:List Env}{s0:Shared}{H0:Hp}{E:XK}{CX:zZ}
end
section
variable {P:Program}{w:World}{K:Fg}{mg:SO}{base:Heap}{N:List Str}{qual:Str}{scope:Scope}{f:Addr}{cd:Value}{A:Around}{outer:List Env}{s0:Shared}{H0:Hp}{E:XK}
end
section
variable {X:Cx}{pins:AO}{σ:St}{Hc H:Hp}{sc s:Shared}{x C:Addr}{fl:Value}
end
section
variable {X:Cx}{pins:AO}{σ:St}{Hc H:Hp}{sc s:Shared}{x C:Addr}{fl:Value}
end
section
variable {X:Cx}{pins:AO}{σ:St}{Hc H:Hp}{sc s:Shared}{x C:Addr}{fl:Value}
end
open PySem.W PySem.Calls Builtin.ObjectAttr Builtin.Getset_descriptor
section
variable {prog:Program}{w:World}{A:Around}{E:VS}{h:Heap}{g:Array GenState}{d:Drawn}{t:Nat}{os:OsState}{x C:Addr}{o:Obj}{K:Frag}{R:Result->Shared->Prop}
end
section
variable {X:Cx}
end
structure Ec where
 (bad twice adC aaJ adD aaK ag5 rows ag6 adE ajY:Addr)
section
end
section
variable {P:Program}{w:World}{K:Fg}{mg:SO}{base:Heap}{N:List Str}{qual:Str}{scope:Scope}{f:Addr}{cd:Value}{A:Around}{outer:List Env}{s0:Shared}{H0:Hp}{E:XK}
end
section
variable {X:Cx}
end
def Ec.at(e:Ec):Nat->Addr
 | 0=>e.bad|1=>e.twice|2=>e.adC|3=>e.aaJ|4=>e.adD|5=>e.aaK|6=>e.ag5|7=>e.rows|8=>e.ag6|_=>e.adE
def Rf(e:Ec)(E:XK)(H:Hp)(i:Nat):Prop:=∀x H',aR H H'->E (.ref x) (some (e.at i)) H'
structure G_(T:TC)(e:Ec)(n:Nat)(ρ:cg)(A:HA)(H:Hp)(r:Option Nat)(st':HS)(Q:VK)(E:XK):Prop where
 no:∀i,r=some i->Rf e E H i
 ok:r=none->wM T n ρ A H st' λH'=>Q .cW H'
def newR(st:HS)(x:Str):Option Nat:=if isNm x=true then(if x∈st.nms then some 1 else none) else some 0
def rY(st:HS)(o:Str):Option Nat:=if isNm o=true then(if o∈st.own then some 1 else none) else some 0
def wV(st:HS)(x o:Str)(wo we:Int):Option Nat:=match newR st x with
 | some i=>some i
 | none=>if o∈st.own then(if wo<1\/we<0 then some 5 else none) else some 2
inductive YD(T:TC)(e:Ec)(vs:List V)(H:Hp)(Q:VK)(E:XK):Prop
 |mk(n ρ A st o:_)(_:vs=[.ref A.a,.str o])(_:aL T n ρ A H st)(_:(o∉st.own->Rf e E H 2))(_:(o∈st.own->Q (.int (st.own.idxOf o:Int)) H))
def yQ(T:TC)(e:Ec):Sp:=bx (YD T e)
inductive Vo(T:TC)(e:Ec)(vs:List V)(H:Hp)(Q:VK)(E:XK):Prop
 |mk(n ρ A st x:_)(_:vs=[.ref A.a,.str x])(_:aL T n ρ A H st)(_:(st.aj.map (·.nm)).Nodup)(_:((∀p∈st.aj,p.nm≠x)->Rf e E H 3))(_:∀(i:Nat) (p:Pt) (q:Addr×Addr×Addr),p.nm=x->st.aj[i]?=some p->A.qs[i]?=some q->Q (.ref q.1) H)
def mK(T:TC)(e:Ec):Sp:=bx (Vo T e)
inductive Q7(T:TC)(e:Ec)(vs:List V)(H:Hp)(Q:VK)(E:XK):Prop
 |mk(n ρ A st x:_)(_:vs=[.ref A.a,.str x])(_:aL T n ρ A H st)(_:x.cps.toList.length<=100000)(_:(∀i,newR st x=some i->Rf e E H i))(_:(newR st x=none->∀H',aR H H'->Q .cW H'))
def xC(T:TC)(e:Ec):Sp:=bx (Q7 T e)
theorem Ax{st:HS}(h1:isNm x=true)(h2:x∉st.nms):newR st x=none:=by unfold newR;rw[aC h1,aB h2]
theorem Q8{st:HS}{o:Str}(h1:isNm x=true)(h2:x∉st.nms)(h3:o∈st.own)(h4:1<=wo)(h5:0<=we):wV st x o wo we=none:=by unfold wV;rw[Ax h1 h2];show(if o∈st.own then _ else _)=_;rw[aC h3,aB (by omega)]
variable {st':HS}
theorem G_.of{e:Ec}{r:Option Nat}{Q:VK}(h:r=none)(q:wM T n ρ A H st' λH'=>Q .cW H'):G_ T e n ρ A H r st' Q E0:=⟨(λi z=>by rw[h]at z;cases z),λ_=>q⟩
inductive Dd where
 | sign (o:Str)|load (x o:Str) (wo we:Int)|cast (rs:List Row)|award (o:Str) (a:Int)|mishap (x:Str) (a:Int)|rise (x:Str) (a:Int)|hand (x o:Str)|land (x:Str)|sever (x y:Str) (a we:Int)|still
def jO:List Row->List V
 | []=>[]
 | r::rs=> .str r.1 :: .int r.2::jO rs
def Dd.v:Dd->List V
 | .sign o=>[.str "sign",.str o]
 | .load x o wo we=>[.str "load",.str x,.str o,.int wo,.int we]
 | .cast rs=> .str "cast"::jO rs
 | .award o a=>[.str "award",.str o,.int a]
 | .mishap x a=>[.str "mishap",.str x,.int a]
 | .rise x a=>[.str "rise",.str x,.int a]
 | .hand x o=>[.str "hand",.str x,.str o]
 | .land x=>[.str "land",.str x]
 | .sever x y a we=>[.str "sever",.str x,.str y,.int a,.int we]
 | .still=>[.str "still"]
def d_(st:HS):List Str:=st.aj.map λp=>p.nm
def iW(st:HS)(r:Row):Option Nat:=if r.1∈d_ st then(if r.2<1 then some 5 else if(bH st r.1).wo<r.2 then some 6 else none) else some 3
def jP(st:HS)(rs:List Row):Option Nat:=if rs≠[]/\(rs.map λr:Row=>r.1).Nodup then(match rs.findSome? (iW st)with
 | some i=>some i
 | none=>if aE st<=aQ rs then some 6 else none) else some 7
def jQ(st:HS)(o:Str)(a:Int):Option Nat:=if o∈st.own then(if a<1 then some 5 else if aE st<=a then some 6 else none) else some 2
def kX(st:HS)(x:Str)(a:Int):Option Nat:=if x∈d_ st then(if a<1 then some 5 else none) else some 3
def jx(st:HS)(x o:Str):Option Nat:=if x∈d_ st then(if o∈st.own then none else some 2) else some 3
def qa(st:HS)(x:Str):Option Nat:=if x∈d_ st then none else some 3
def iJ(st:HS)(x y:Str)(a we:Int):Option Nat:=if x∈d_ st then(match newR st y with
 | some i=>some i
 | none=>if a<1\/we<0 then some 5 else if(bH st x).wo<=a\/(bH st x).we<we then some 6 else none) else some 3
def jr(st:HS):Dd->Option Nat
 | .sign o=>rY st o
 | .load x o wo we=>wV st x o wo we
 | .cast rs=>jP st rs
 | .award o a=>jQ st o a
 | .mishap x a=>iW st (x,a)
 | .rise x a=>kX st x a
 | .hand x o=>jx st x o
 | .land x=>qa st x
 | .sever x y a we=>iJ st x y a we
 | .still=>none
def qb(st:HS)(o:Str)(a:Int):HS:=aN st (aE st-a) (aE st) ((List.replicate st.own.length 0).set (st.own.idxOf o) (a*st.prod))
def kj(st:HS)(x:Str)(f:Pt->Pt):HS:={ st with aj:=st.aj.map λp=>if p.nm=x then f p else p }
def Jw(st:HS)(x:Str)(a:Int):HS:=kj st x λp=>{ p with wo:=p.wo+a }
def ng(st:HS)(p:Pt)(o:Str):List Int:=((aK st p).set (st.own.idxOf o) ((aK st p).getD (st.own.idxOf o) 0+(aK st p).getD (st.own.idxOf p.ow) 0)).set (st.own.idxOf p.ow) 0
def fj(st:HS)(x o:Str):HS:=if st.own.idxOf o=st.own.idxOf (bH st x).ow then st else kj st x λp=>{ p with ow:=o,sc:=1,row:=lU st (ng st p o) }
def gv(st:HS)(p:Pt):List Int:=List.zipWith (λu t=>u+p.wo*t) st.bF (aK st p)
def rZ(st:HS)(x:Str):HS:={ st with aj:=st.aj.filter (λp=>decide (p.nm≠x)),bN:=st.bN++[⟨x,(bH st x).ow,(bH st x).wo,gR st (bH st x)⟩],kn:=st.kn+100,bF:=(gv st (bH st x)).set (st.own.idxOf (bH st x).ow) ((gv st (bH st x)).getD (st.own.idxOf (bH st x).ow) 0-(bH st x).wo*st.prod) }
def lC(st:HS)(x y:Str)(a we:Int):HS:=wN (kj st x λp=>{ p with wo:=p.wo-a,we:=p.we-we }) ⟨y,(bH st x).ow,a,we,(bH st x).sc,(bH st x).row⟩
def iA(st:HS):Dd->HS
 | .sign o=>h_ st o
 | .load x o wo we=>Bh st x o wo we
 | .cast rs=>cV st rs
 | .award o a=>qb st o a
 | .mishap x a=>cT st (x,a)
 | .rise x a=>Jw st x a
 | .hand x o=>fj st x o
 | .land x=>rZ st x
 | .sever x y a we=>lC st x y a we
 | .still=>st
def wl(s:Str):Nat:=s.cps.toList.length
section
variable {X:Cx}
end
theorem yR(h:isNm x=true):PyData.strOk x=true:=by
 unfold PyData.strOk;rw[Array.all_eq_true'];intro c hc;unfold isNm isName at h;have h1:=pM.mp (nI.mp h).2 c (by simpa using hc);rw[Yj]at h1;have hm:=eF h1;have:∀c∈("abcdefghijklmnopqrstuvwxyz":Str).cps.toList,c<1000:=by decide +kernel
 have:=this c hm;exact br (by omega)
section
variable {P:Program}{w:World}{K:Fg}{mg:SO}{base:Heap}{k:Nat}{T:TC}{e:Ec}{ps:List Str}
end
def nB(i:Int):Prop:=-1000000000<=i/\i<=1000000000
def KY:Dd->Prop
 | .sign o=>wl o<=20
 | .load x o wo we=>wl x<=20/\wl o<=20/\nB wo/\nB we
 | .cast rs=>rs.length<=60/\∀r∈rs,wl r.1<=20/\nB r.2
 | .award o a=>wl o<=20/\nB a
 | .mishap x a=>wl x<=20/\nB a
 | .rise x a=>wl x<=20/\nB a
 | .hand x o=>wl x<=20/\wl o<=20
 | .land x=>wl x<=20
 | .sever x y a we=>wl x<=20/\wl y<=20/\nB a/\nB we
 | .still=>True
def Dd.k:Dd->Nat
 | .sign _=>0 | .load .. =>1 | .cast _=>2 | .award .. =>3 | .mishap .. =>4 | .rise .. =>5 | .hand .. =>6 | .land _=>7 | .sever .. =>8 | .still=>9
def Q9(n:Nat):Str:=(["sign","load","cast","award","mishap","rise","hand","land","sever","still"] :List Str).getD n "still"
def Dd.w(d:Dd):Str:=Q9 d.k
theorem Dd.v0(d:Dd):d.v[0]?=some (.str d.w):=by cases d <;> rfl
theorem Dd.k_lt(d:Dd):d.k<10:=by cases d <;> simp[Dd.k]
theorem adF:∀m n:Fin 10,m≠n->Q9 m.val≠Q9 n.val:=by decide +kernel
theorem Dd.Q_{d:Dd}(h:d.k≠n)(hn:n<10):d.w≠Q9 n:=adF ⟨d.k,d.k_lt⟩ ⟨n,hn⟩ λe=>h (ff Fin.val e)
theorem S_:∀{l:List Int},(∀x∈l,0<=x)->0<=l.sum
 | [],_=>kQ _
 | a::l,h=>by rw[c_];have:=h a cU;have:=S_ (l:=l) λx hx=>h x (cA _ hx);omega
theorem Ay:∀(l m:List Row),jO (l++m)=jO l++jO m
 | [],_=>rfl
 | r::l,m=>by
  show V.str r.1::V.int r.2::jO (l++m)=V.str r.1::V.int r.2::(jO l++jO m)
  rw[Ay l m]
theorem Az:∀l:List Row,(jO l).length=2*l.length
 | []=>rfl
 | r::l=>by show(jO l).length+1+1=_;rw[Az l,kM];omega
theorem pH(h:isNm x=true):wl x<=20:=by unfold isNm isName at h;have:=eF (nI.mp (nI.mp h).1).2;unfold wl;omega
theorem sY{st:HS}{o:Str}(h:wV st x o wo we=none):isNm x=true/\x∉st.nms/\o∈st.own/\1<=wo/\0<=we:=by
 unfold wV at h;cases hn:newR st x with
 | some j=>rw[hn]at h;cases h
 | none=>
  rw[hn]at h;have h':(if o∈st.own then(if wo<1\/we<0 then some 5 else none) else some 2)=none:=h;have hx:isNm x=true/\x∉st.nms:=by
   unfold newR at hn;by_cases c:isNm x=true
   .rw [aC c]at hn;by_cases m:x∈st.nms
    .rw [aC m]at hn;cases hn
    .exact ⟨c,m⟩
   .rw [aB c]at hn;cases hn
  by_cases ho:o∈st.own
  .rw [aC ho]at h';by_cases hb:wo<1\/we<0
   .rw [aC hb]at h';cases h'
   .exact ⟨hx.1,hx.2,ho,by omega,by omega⟩
  .rw [aB ho]at h';cases h'
end L2
set_option autoImplicit true
namespace L2
open PySem PySem.Spec PyProof.Rows
structure bE(X:Cx)(e:Expr)(t:TE):Prop where h:PE X e t
structure bT(X:Cx)(e:Expr)(t:TT):Prop where h:PT X e t
structure bW(X:Cx)(e:Expr)(t:TT):Prop where h:PW X e t
structure bA(X:Cx)(es:List Expr)(t:TA):Prop where h:PA X es t
structure bS(X:Cx)(s:Stmt)(t:TS):Prop where h:PS X s t
structure dg(X:Cx)(s:List Stmt)(t:TS):Prop where h:wF X s t
structure bC(X:Cx)(op:CmpOp)(a b:Expr)(t:TE):Prop where h:PC X op a b t
structure bG(X:Cx)(e:Expr)(t:TG):Prop where h:PG X e t
structure WO(X:Cx)(e:List Expr)(t:C4):Prop where h:PGs X e t
structure bI(X:Cx)(tg iter:Expr)(wi:TI):Prop where h:PI X tg iter wi
structure bO(X:Cx)(e:Option Expr)(t:TO):Prop where h:PO X e t
structure WQ(X:Cx)(pos:Pos)(ks:List (Option Expr))(vs:List Expr)(t:List (TE×TE)):Prop where h:PPs X pos ks vs t
theorem bW.pt{X:Cx}{e:Expr}{t:TT}(h:bW X e t):bT X e t:=⟨h.h.pt⟩
theorem aaL{op}{t:TE}(h:bE X a t):bE X (.BoolOp op [a] pos) t:=by have h:=h.h;exact⟨λpins s σ H Q I hw=>BoolOp_one (h pins s σ H Q I hw)⟩
theorem AA{e:Expr}{t:TE}(h:bE X e t)(he:∀whole,isTrue e X.env whole=(do let v <-whole;standAt e.pos;holding [v] (truthy v)):=by intro _;rfl):bT X e (tB t):=by have h:=h.h;constructor;intro pins s σ H Q I hw;refine isTrue_plain (bh (h pins s σ H _ I hw) λv s1 ⟨x,H1,I1,r1,q1⟩=>?_) (he _);obtain⟨d,rfl,q⟩:=q1;cases r1;exact EJ ⟨H1,I1,q⟩
theorem aU{r:R2}(hr:zu X r)(ha:bE X a ta)(hb:bE X b tb)(hs:XS b:=by exact λ_ _=>rfl):bE X (.Subscript a b pos) (Gp r ta tb):=by have ha:=ha.h;have hb:=hb.h;constructor;intro pins s σ H Q I h;exact Subscript_ (UI ha hb I h λv u s2 x y H2 I2 rx ry q=>hr a b pins s2 σ H2 x y v u Q I2 rx ry q (hs _ _))
theorem O0(h:bE X e te):bO X (some e) (ac7 te):=by have h:=h.h;constructor;intro pins s σ H Q I hw;rw[evalPart_some];refine bh (h pins s σ H _ I hw) λu s1 ⟨x,H1,I1,r1,q1⟩=>?_;obtain⟨i,rfl,q⟩:=q1;obtain⟨t,rfl⟩:=r1;exact⟨some i,H1,I1,.int i t,q⟩
theorem iR:WO X [] Zn:=by constructor;intro pins s σ H vs us Q I r h;obtain⟨e,h⟩:=h;subst e;cases r;exact assignInOrder_nil ⟨σ,H,I,h⟩
theorem O1:bO X none XR:=by constructor;intro pins s σ H Q I h;rw[evalPart_none];exact aT ⟨none,H,I,.none,h⟩
theorem bg{i:Nat}{x:Str}(hN:X.N.Nodup)(hi:X.N[i]?=some x:=by rfl)(hx:Loc X.env.scope x:=by first|exact Or.inl rfl|exact Or.inr rfl)(hf:X.fn x=true\/X.env.scope.names.lookup x=some .local:=by first|exact .inl rfl|exact .inr rfl|assumption):bG X (.Name x pos) (rS i):=by constructor;intro pins s σ H v u Q I r h;exact wpAny_assign_Name (yy I hN hi hx r (λs' I'=>⟨_,H,I',h⟩) hf)
theorem KZ{c:Expr}{body:List Stmt}{tc:TT}{tb:TS}(hp:PassesOwn (model X.prog X.w) X.A X.env X.xe)(hc:bT X c tc)(hb:dg X body tb):bS X (.While c body [] pos) (Zu tc tb):=by
 have hc:=hc.h;have hb:=hb.h;constructor;intro pins s σ H D I h;obtain⟨W,⟨m0,w0⟩,turn⟩:=h;refine wpAny_While (codeAny_whileLoop (λn s'=>∃σ' H',Inv X pins σ' H' s'/\W n σ' H') ?_ m0 ⟨σ,H,I,w0⟩);rintro n s1 ⟨σ1,H1,I1,w1⟩;refine yq hp (bh (hc pins s1 σ1 H1 _ I1 (turn n σ1 H1 w1)) λb s2 ⟨H2,I2,q2⟩=>?_);cases b with
 | true=>
  obtain⟨N,hN,q2⟩:=q2;rw[aC rfl];refine yq hp (bh (hb pins s2 σ1 H2 _ I2 q2) λf s3 q3=>?_);cases f with
  | next=>obtain⟨σ3,H3,I3,n3⟩:=q3;obtain⟨m',hm,w3⟩:=hN σ3 H3 n3;exact⟨m',hm,σ3,H3,I3,w3⟩
  | cont=>obtain⟨σ3,H3,I3,n3⟩:=q3;obtain⟨m',hm,w3⟩:=hN σ3 H3 n3;exact⟨m',hm,σ3,H3,I3,w3⟩
  | brk=>exact q3
  | ret v=>exact q3
 | false=>rw[aB iD];exact Jq ⟨σ1,H2,I2,q2⟩
theorem Bo{tg:Expr}{ob:Expr}{td:TE}{apos cpos:Pos}(hob:bE X ob td)(hbase:attributeBase ob "values" X.env (eval ob X.env)=eval ob X.env:=by rfl)(hline:(apos.endLine==cpos.line)=true:=by rfl):bI X tg (.Call (.Attribute ob "values" apos) [] [] cpos) (adp td):=by
 have hob:=hob.h;constructor;intro pins s σ H R I h;refine wpAny_Call_method0_late hbase hline (bh (hob pins s σ H _ I h) λv s1 ⟨x,H1,I1,r1,q1⟩=>?_);obtain⟨d,o,kvs,rfl,e,fin⟩:=q1;cases r1;obtain⟨ho,hz,hsys,vs,ep,rel,da⟩:=I1.rX e;obtain⟨t1,t2,_⟩:=J6 I1 (.inl ⟨kvs,.inr ⟨o,e⟩⟩);have dd:=da.dictOf;refine⟨"dict",_,F.plainAttrs_dict,Qo,F.type_dict_values,t1,t2,Qe rfl (PySem.evalArgs_none ?_)⟩;refine call_meetsIn Qo dd.typeIs F.entry_dict_values (F.args_dict_values_1 _) (meets_dict_values (di X.prog X.w) d hsys) ⟨⟨vs,dd⟩,?_⟩;refine wpAny_pyIter_values (s:={ s1 with heap:=s1.heap.push { cls:=.type "dict_values",data:=.fields #[.ref d] } }) ⟨_,eT _ rfl,Z,Z⟩ (da.push _) ?_;have Iv:Inv X pins σ H1 { s1 with heap:=s1.heap.push { cls:=.type "dict_values",data:=.fields #[.ref d] } }:=I1.kept (t':=s1.toks) λb o e=>b9 _ e;generalize ({ s1 with heap:=s1.heap.push { cls:=.type "dict_values",data:=.fields #[.ref d] } }:Shared)=sv at *;have I2:Inv X pins σ H1 { sv with heap:=sv.heap.push { cls:=.type "dict_valueiterator",data:=.fields #[.ref d,.int 0 0,.int vs.length 0,.int ep 0] } }:=Iv.kept (t':=sv.toks) λb o e=>b9 _ e;have hl:kvs.length=vs.length:=rel.length;obtain⟨o',es,h1,_,h2,_⟩:=id da;rw[ho]at h1;cases h1;refine⟨sv.heap.objs.size,[sv.heap.objs.size],_,_,H1,Z,I2,Sy h2,?_,λb hb=>?_,fin⟩
 .rw [hl];exact⟨_,eT _ rfl,Z,Z⟩
 .have eb:b=sv.heap.objs.size:=by simpa using hb
  subst eb;exact Iv.BZ (aO _) (Iv.hok.fresh (aO _))
theorem O2{o i e:Expr}{to ti te:TE}{zU:V->V->Hp->VK->Prop}{zq:JS}{pQ:tO}{op:Operator}{tpos:Pos}(ho:bE X o to)(hi:bE X i ti)(hg:Zr X zU)(he:bE X e te)(hp:Zm X op zq)(hs:Uz X pQ)(ha:∀ov iv new,augStore i ov iv new=(do holding [new,ov,iv] (setItem ov iv new);release [new,ov,iv] [];pure .next):=by intros;rfl):bS X (.AugAssign (.Subscript o i tpos) op e pos) (ac0 to ti te zU zq pQ):=by have ho:=ho.h;have hi:=hi.h;have he:=he.h;constructor;intro pins s σ H D I h;refine wpAny_AugAssign_SubscriptAny (bh (ho pins s σ H _ I h) λov s1 ⟨x1,H1,I1,r1,q1⟩=>?_) ha;refine bh (hi pins s1 σ H1 _ I1 q1) λiv s2 ⟨x2,H2,I2,r2,q2⟩=>?_;refine bh (hg pins s2 σ H2 x1 x2 ov iv _ I2 r1 r2 q2) λold s3 ⟨x3,H3,I3,r3,q3⟩=>?_;refine bh (he pins s3 σ H3 _ I3 q3) λv s4 ⟨x4,H4,I4,r4,q4⟩=>?_;refine bh (hp pins s4 σ H4 x3 x4 old v _ I4 r3 r4 q4) λnew s5 ⟨x5,H5,I5,r5,q5⟩=>?_;exact bh (hs pins s5 σ H5 x1 x2 x5 ov iv new _ I5 r1 r2 r5 q5) λ_ s6 ⟨H6,I6,q6⟩=>⟨σ,H6,I6,q6⟩
theorem kY{id:String}(pa:PlainAttrs T)(slot:Slot T name id)(hty:typeOf (.builtin id)=pure (.type "method_descriptor"))(hm:MtR X id r)(ho:bE X o to)(ha:bA X (e::es) t)(hbase:attributeBase o name X.env (eval o X.env)=eval o X.env:=by rfl)(hfew:((backTo cpos (starEach (e::es) X.env)).all (λx=>!x.1) && (backToKw cpos (keywordEach [] X.env)).all (λx=>x.1.isSome)
   && decide ((e::es).length+([] :List Keyword).length+(if([] :List Keyword).isEmpty then 0 else 1)<30))=true:=by rfl)(hline:(apos.endLine==cpos.line)=true:=by rfl)(hs:starEach (e::es) X.env=(false,eval e X.env)::starEach es X.env:=by rfl)(hplain:(backTo cpos (starEach es X.env)).any (·.1)=false:=by rfl):bE X (.Call (.Attribute o name apos) (e::es) [] cpos) (tBM X.K T r to t):=by
 have ho:=ho.h;have ha:=ha.h;constructor
 intro pins s σ H Q I h
 refine wpAny_Call_method_late hbase hfew hline rfl (bh (ho pins s σ H _ I h) λv s1 ⟨x,H1,I1,r1,ty,q1⟩=>?_)
 obtain⟨h1,h2⟩:=ZX I1 r1 ty
 refine⟨T,id,pa,slot,hty,h1,h2,?_⟩
 have hA:=ha cpos pins s1 σ H1 _ I1 q1
 rw[hs]at hA ⊢
 refine Qe (by show(false || (backTo cpos (starEach es X.env)).any (·.1))=false;rw[hplain] <;> rfl) (Calls.evalArgs_plain ?_)
 exact bh hA λus s2 ⟨vs,H2,I2,r2,q2⟩=>hm pins s2 σ H2 x vs v us Q I2 r1 r2 q2
theorem YE{X:Cx}{pos:Pos}:WQ X pos [] [] [] :=by exact⟨λpins s σ H Q I h=>pairTrees_nil_walk ⟨[],H,I,.nil,h⟩⟩
theorem DM{X:Cx}{e:Expr}{t:TE}(h:bE X e t):bE X e (agY t):=by have h:=h.h;constructor;intro pins s σ H Q I hw;obtain⟨d,kvs,e,hw⟩:=hw;obtain⟨ho,es,ep,h1,_⟩:=(yz I.hok e).2.2.choose_spec.2;have h0:=I.Sx e;exact bh (h pins s σ _ _ (I.freeze e h1) (hw ho)) λu s' ⟨v,H',I',r,q1,q2⟩=>⟨v,_,I'.Cb q1 h0,r,q2⟩
theorem Vp{op op':CmpOp}{r r':R2}(ho:jz X (compareOp op) r)(ho':jz X (compareOp op') r')(ha:bE X a ta)(hb:bE X b tb)(hc:bE X c tc)(hm:lastMarks [op,op'] [b,c]=false:=by with_unfolding_all rfl):bE X (.Compare a [op,op'] [b,c] pos) (ZA r r' ta tb tc):=by
 have ha:=ha.h;have hb:=hb.h;have hc:=hc.h;constructor;intro pins s σ H Q I h;refine Compare_chain (bh (ha pins s σ H _ I h) λv s1 ⟨x,H1,I1,r1,q1⟩=>chain_link (bh (hb pins s1 σ H1 _ I1 q1) λu s2 ⟨y,H2,I2,r2,q2⟩=>
  bh (ho pins s2 σ H2 x y v u _ I2 r1 r2 q2) λd s3 ⟨z,H3,I3,r3,k,e,q3⟩=>?_)) hm
 subst e;cases r3;refine EJ ?_;cases k with
 | false=>exact ite_ff ⟨.bl false,H3,I3,Z,q3⟩
 | true=>exact ite_tt (chain_last (bh (hc pins s3 σ H3 _ I3 q3) λw' s4 ⟨z',H4,I4,r4,q4⟩=>ho' pins s4 σ H4 y z' u w' Q I4 r2 r4 q4))
theorem iY{x1}(h:bA X es t):bE X (.Tuple es x1 pos) (agI t):=by have h:=h.h;constructor;intro pins s σ H Q I hq;refine wpAny_Tuple_spliced (bh (h pos pins s σ H _ I hq) λus s1 ⟨xs,H1,I1,r,z,q⟩=>⟨by rw[<-r.length];exact z,?_⟩);have hf:H1 s1.heap.objs.size=none:=I1.hok.fresh (aO _);refine⟨.ref s1.heap.objs.size,upd H1 s1.heap.objs.size (.tup xs),I1.laid (t':=s1.toks) (λb u e=>b9 _ e) (aO _) ?_,Z,q _ hf⟩;exact⟨z,us,r,⟨_,eT _ rfl,Z,_,Z⟩⟩
theorem K0{tg iter elt cond:Expr}{scope:Scope}{pos:Pos}(N2:List Str)(ix:List (Option Nat)){wi:TI}{g:TG}{tc:TT}{te:TE}(hc:X.calm=true)(hi:bI X tg iter wi)(hg:∀cl s₂ H₂ fp,bG (cQ X N2 scope cl s₂ H₂ fp) tg g)(he:∀cl s₂ H₂ fp,bE (cQ X N2 scope cl s₂ H₂ fp) elt te)(ht:∀cl s₂ H₂ fp,bT (cQ X N2 scope cl s₂ H₂ fp) cond tc)(hk:scope.kind =.function)(hn:nQ X.N X.env.scope.names scope.names N2 ix=true)(hs:∀x,foldedSetIterable iter X.env x=pure x:=by intro _;rfl):bE X (.ListComp elt [⟨tg,iter,[cond],0⟩] scope pos) (Ss wi ix g tc te):=⟨Vb N2 ix hc hi.h (λcl s₂ H₂ fp=>(hg cl s₂ H₂ fp).h) (λcl s₂ H₂ fp=>(he cl s₂ H₂ fp).h) (λcl s₂ H₂ fp=>(ht cl s₂ H₂ fp).h) hk hn hs⟩
theorem aP{op:Operator}{r:R2}(ho:jz X (binaryOp op) r)(ha:bE X a ta)(hb:bE X b tb):bE X (.BinOp a op b pos) (Gp r ta tb):=by have ha:=ha.h;have hb:=hb.h;constructor;intro pins s σ H Q I h;exact wpAny_BinOp (UI ha hb I h λv u s2 x y H2 I2 rx ry q=>ho pins s2 σ H2 x y v u Q I2 rx ry q)
theorem ya{op:CmpOp}{t:TE}(h:bC X op a b t)(h1:behindInMarks op b=false:=by first|exact ag7 _ (by decide) (by decide)|rfl):bT X (.Compare a [op] [b] pos) (tB t):=by have h:=h.h;constructor;intro pins s σ H Q I hw;refine wpAny_isTrue_Compare1 (bh (h pins s σ H _ I hw) λv s1 h1=>bh h1 λu s2 h2=>bh h2 λc s3 ⟨x,H1,I1,r1,q1⟩=>?_) h1;obtain⟨d,rfl,q⟩:=q1;cases r1;exact EJ ⟨H1,I1,q⟩
theorem fG{tg:Expr}{iter:Expr}{body:List Stmt}{wi:TI}{g:TG}{tb:TS}{pos:Pos}(hp:PassesOwn (model X.prog X.w) X.A X.env X.xe)(hc:X.calm=true)(hi:bI X tg iter wi)(hg:bG X tg g)(hb:dg X body tb)(hs:∀x,foldedSetIterable iter X.env x=pure x:=by intro _;rfl):bS X (.For tg iter body [] pos) (agC wi g tb):=by
 have hi:=hi.h;have hg:=hg.h;have hb:=hb.h;constructor;intro pins s σ H D I h;refine wpAny_For (bh (hi pins s σ H _ I h) λv s1 h1=>bh h1 λitv s2 h2=>?_) hs;obtain⟨it,fp,tn,J,H2,e,I2,T,st2,f2,W,⟨m0,w0⟩,turn⟩:=h2;subst e;have oQ:∀{H':Hp},(∀b∈fp,H' b=none)->∀b∈fp,mz X pins H' b:=λhn b hb=>⟨hn b hb,(f2 b hb).2⟩
 refine codeAny_forLoop_any (λn s'=>∃i σ' H',Inv X pins σ' H' s'/\tn i s'.heap/\(∀b∈fp,H' b=none)/\W i n σ' H') ?_ m0 ⟨0,σ,H2,I2,st2,λb hb=>(f2 b hb).1,w0⟩;rintro n s3 ⟨i,σ3,H3,I3,st3,WR,w3⟩;rcases turn i n σ3 H3 w3 with⟨stop,qn⟩|⟨go,N,hN,step⟩
 .refine yq hp (bh (T.done X rfl rfl rfl hc i pins s3 σ3 H3 X.xe I3 (oQ WR) st3 stop) λr s4 ⟨hr,I4⟩=>?_);subst hr;exact Jq ⟨σ3,H3,I4,qn⟩
 .refine yq hp (bh (T.item X rfl rfl rfl hc i pins s3 σ3 H3 X.xe I3 (oQ WR) st3 go) λr s4 ⟨u,hr,h4⟩=>?_);subst hr;refine yq hp (bh h4 λ_ s5 ⟨x,H5,I5,r5,y5,zz,BF⟩=>?_);have I5':=I5.pinned (oQ BF) (T.obj _ _ zz);refine yq hp (bh (hg _ s5 σ3 H5 x u _ I5' r5 (step x H5 y5)) λ_ s6 ⟨σ6,H6,I6,q6⟩=>?_);refine yq hp (bh (hb _ s6 σ6 H6 _ I6 q6) λf s7 q7=>?_);have again:∀{σ7:St}{H7:Hp},Inv X (pins++C6 fp s5.heap) σ7 H7 s7->N σ7 H7->∃m,m<n/\∃i σ' H',Inv X pins σ' H' s7/\tn i s7.heap/\(∀b∈fp,H' b=none)/\W i m σ' H':=λ{σ7 H7} I7 n7=>by obtain⟨m',hm,w7⟩:=hN σ7 H7 n7;refine⟨m',hm,i+1,σ7,H7,I7.oO,T.keep _ _ _ zz λb hb o e=>(I7.pin (b,o) (gG _ (gG _ (iz hb e)))).1,λb hb=>?_,w7⟩;obtain⟨o,e,d⟩:=T.obj _ _ zz b hb;exact(I7.pin (b,o) (gG _ (gG _ (iz hb e)))).2.1
  cases f with
  | next=>obtain⟨σ7,H7,I7,n7⟩:=q7;exact again I7 n7
  | cont=>obtain⟨σ7,H7,I7,n7⟩:=q7;exact again I7 n7
  | brk=>obtain⟨σ7,H7,I7,q7⟩:=q7;exact⟨σ7,H7,I7.oO,q7⟩
  | ret v=>obtain⟨x7,σ7,H7,I7,r7,q7⟩:=q7;exact⟨x7,σ7,H7,I7.oO,r7,q7⟩
theorem K2{lo:Option Expr}{hi:Option Expr}{r:V->Option Int->Option Int->Hp->VK->Prop}(hr:SlR X r)(he:bE X e te)(hl:bO X lo tl)(hu:bO X hi th):bE X (.Subscript e (.Slice lo hi none p2) pos) (tSl r te tl th):=by have he:=he.h;have hl:=hl.h;have hu:=hu.h;constructor;intro pins s σ H Q I h;refine Subscript_ (bh (he pins s σ H _ I h) λv s1 ⟨x,H1,I1,r1,q1⟩=>?_);refine wpAny_Slice (bh (hl pins s1 σ H1 _ I1 q1) λvl s2 ⟨l,H2,I2,pl,q2⟩=>bh (hu pins s2 σ H2 _ I2 q2) λvu s3 ⟨u,H3,I3,pu,q3⟩=>?_);rw[evalPart_none];refine aT ?_;have I4:Inv X pins σ H3 { s3 with heap:=s3.heap.push { cls:=.type "slice",data:=.fields #[vl,vu,.none] } }:=I3.kept (t':=s3.toks) λb ob q=>b9 _ q;obtain⟨T,id,hT,ht,hg⟩:=hr pins { s3 with heap:=s3.heap.push { cls:=.type "slice",data:=.fields #[vl,vu,.none] } } σ H3 x v vl vu l u s3.heap.objs.size Q I4 r1 (Heap.IsSliceOf.new ..) pl pu q3;show wpAny (model X.prog X.w) X.A (subscriptTail e (.Slice lo hi none p2) v (.ref s3.heap.objs.size)) (EP X pins σ Q) X.xe { s3 with heap:=s3.heap.push { cls:=.type "slice",data:=.fields #[vl,vu,.none] } };exact tail_any (ops:=[.ref s3.heap.objs.size,v]) ht hT hg (by with_unfolding_all rfl)
theorem YF:bS X (.Return none pos) acV:=by exact⟨λ_ _ σ H _ I h=>wpAny_Return_none ⟨.cW,σ,H,I,Z,h⟩⟩
theorem ko{tg iter elt:Expr}{scope:Scope}{pos:Pos}(N2:List Str)(ix:List (Option Nat)){wi:TI}{g:TG}{te:TE}(hc:X.calm=true)(hi:bI X tg iter wi)(hg:∀cl s₂ H₂ fp,bG (cQ X N2 scope cl s₂ H₂ fp) tg g)(he:∀cl s₂ H₂ fp,bE (cQ X N2 scope cl s₂ H₂ fp) elt te)(hk:scope.kind =.function)(hn:nQ X.N X.env.scope.names scope.names N2 ix=true)(hs:∀x,foldedSetIterable iter X.env x=pure x:=by intro _;rfl):bE X (.ListComp elt [⟨tg,iter,[],0⟩] scope pos) (WD wi ix g te):=by have hi:=hi.h;have hg:=λcl s₂ H₂ fp=>(hg cl s₂ H₂ fp).h;have he:=λcl s₂ H₂ fp=>(he cl s₂ H₂ fp).h;constructor;intro pins s σ H Q I h;obtain⟨k1,k2,k3,k4,k5⟩:=kT hn;obtain⟨cl,Kf,c1,c2⟩:=uF (scope:=scope) (env:=X.env) λy hy e=>I.ok.has y.1 (k3 y hy e);rw[eval_ListComp];refine P_ (use:=none) rfl hs Kf hk k4 (bh (hi pins s σ H _ I h) λv s1 h1=>bh h1 λitv s2 h2=>?_);obtain⟨it,fp,tn,J,H2,e,I2,T,st2,f2,h2⟩:=h2;subst e;refine Dm (RR:=λacc C=>compPost (model X.prog X.w) X.A X.xe none (EP X pins σ Q) acc C) (Q:=Q) hc hg he hk hn (λy c m=>(c1 y c m).1) c2 I2 T st2 f2 h2 ?_;intro acc C H' s' m I' ns xX hL hsz sR yH q;exact⟨m,ns,λh' hs'=>⟨.ref acc,H',I'.turned (it:=C) (t':=s'.toks) (λb o hb e=>(hs'.2 b hb).trans e) xX hL (.inr hsz) sR yH,Z,q⟩⟩
theorem K3(hu:X.A.units+1<cLine)(hi:bE X i ty)(ho:bE X o td):bC X .In i o (agS ty td):=by have hi:=hi.h;have ho:=ho.h;constructor;intro pins s σ H Q I h;refine bh (hi pins s σ H _ I h) λiv s1 ⟨y,H1,I1,ry,q1⟩=>bh (ho pins s1 σ H1 _ I1 q1) λu s2 ⟨x,H2,I2,rx,a,ov,ex,g,q2⟩=>?_;subst ex;obtain rfl:u=Value.ref a:=rx;exact agR hu I2 g ry λs3 I3=>⟨.bl ov.isSome,H2,I3,Z,q2⟩
theorem bR{x j pos}:bE X (.Constant (.str x) j pos) (tC (.str x)):=by exact⟨λ_ _ _ H _ I h=>Calls.Constant_str ⟨.str x,H,I.tok _,⟨_,Z⟩,h⟩⟩
theorem Jx{op:UnaryOp}{r:V->Hp->VK->Prop}(ho:Zw X (unaryOp op) r)(ha:bE X a ta):bE X (.UnaryOp op a pos) (tUn r ta):=by have ha:=ha.h;constructor;intro pins s σ H Q I h;exact UnaryOp_ (bh (ha pins s σ H _ I h) λv s1 ⟨x,H1,I1,r1,q1⟩=>ho pins s1 σ H1 x v Q I1 r1 q1)
theorem qZ(K:Fg){a b:Expr}{ta:TA}{p pos:Pos}(hg:Gl X "zip")(hm:X.mg "zip"=none)(ha:bA X [a,b] ta)(hK:X.K=K:=by rfl)(hs:starEach [a,b] X.env=[(false,eval a X.env),(false,eval b X.env)] :=by rfl)(hs2:starEach [b] X.env=[(false,eval b X.env)] :=by rfl):bI X (.Tuple elts kk tpos) (.Call (.Name "zip" p) [a,b] [] pos) (ads K ta):=by
 have ha:=ha.h;constructor;subst hK;intro pins s σ H R I h;refine Call_ (xT I hg hm boot_zip (RB (bh (ha pos pins s σ H _ I h) λus s1 ⟨vs,H1,I1,r1,q1⟩=>?_) (by rw[hs,hs2]) (by rw[hs2];rfl)));obtain⟨u1,u2,S1,S2,xs,ys,e,k1,k2,q⟩:=q1;subst e;obtain⟨u,w',rfl,ru,rw'⟩:=vals2 r1;obtain⟨g1,l1,o1,p1,lt1,b1,ajT,at1,st1,c1⟩:=k1.ok I1 ru;obtain⟨g2,l2,o2,p2,lt2,b2,adG,at2,st2,c2⟩:=k2.ok I1 rw';refine callType_newIn F.called_zip (by decide) (F.typeCall_zip_2 _ _) (F.newCall_zip_2 _ _) (λobj=>F.args_object_init_3 obj _ _) F.entry_zip_new (QY st1 st2) ⟨b1,adG _ _ b2,?_⟩;have z1:(s1.heap.push o1).objs.size=s1.heap.objs.size+1:=kO ..;have z2:((s1.heap.push o1).push o2).objs.size=s1.heap.objs.size+2:=by rw[kO,z1]
 generalize e3:({ cls:=.type "tuple",data:=.seq #[.ref s1.heap.objs.size,.ref (s1.heap.push o1).objs.size] }:Obj)=o3;have z3:(((s1.heap.push o1).push o2).push o3).objs.size=s1.heap.objs.size+3:=by rw[kO,z2]
 generalize e4:({ cls:=.type "tuple",data:=.seq #[.none,.none] }:Obj)=o4;have z4:((((s1.heap.push o1).push o2).push o3).push o4).objs.size=s1.heap.objs.size+4:=by rw[kO,z3]
 generalize e5:({ cls:=.type "zip",data:=.fields #[.none,.bool false,.bool false,.ref ((s1.heap.push o1).push o2).objs.size,.ref (((s1.heap.push o1).push o2).push o3).objs.size] }:Obj)=o5;have g5:(((((s1.heap.push o1).push o2).push o3).push o4).push o5).get? ((((s1.heap.push o1).push o2).push o3).push o4).objs.size=some o5:=eT _ (by rw[<-e5];rfl);have g4:(((((s1.heap.push o1).push o2).push o3).push o4).push o5).get? (((s1.heap.push o1).push o2).push o3).objs.size=some o4:=b9 _ (eT _ (by rw[<-e4];rfl));have g3:(((((s1.heap.push o1).push o2).push o3).push o4).push o5).get? ((s1.heap.push o1).push o2).objs.size=some o3:=b9 _ (b9 _ (eT _ (by rw[<-e3];rfl)));have g2':(((((s1.heap.push o1).push o2).push o3).push o4).push o5).get? (s1.heap.push o1).objs.size=some o2:=b9 _ (b9 _ (b9 _ (at2 _)));have g1':(((((s1.heap.push o1).push o2).push o3).push o4).push o5).get? s1.heap.objs.size=some o1:=b9 _ (b9 _ (b9 _ (b9 _ (at1 _))));have kp:∀c o,s1.heap.get? c=some o->(((((s1.heap.push o1).push o2).push o3).push o4).push o5).get? c=some o:=λc o x=>b9 _ (b9 _ (b9 _ (b9 _ (b9 _ x))));rw[z4]at g5 ⊢;rw[z3]at g4 e5;rw[z2]at g3 e5;rw[z1]at g2' e3;generalize (((((s1.heap.push o1).push o2).push o3).push o4).push o5)=hN at *;show _/\_;subst e3 e4 e5;refine⟨⟨_,g5,Z⟩,wpAny_pyIter_zip (s:={ s1 with heap:=hN }) g5 ?_⟩;have I2:Inv X pins σ H1 { s1 with heap:=hN }:=I1.kept (t':=s1.toks) kp;obtain⟨t1,ajZ,C1,n1⟩:=c1 s1.heap.objs.size;obtain⟨t2,aj0,C2,n2⟩:=c2 (s1.heap.objs.size+1);refine⟨s1.heap.objs.size+4,[s1.heap.objs.size+4,s1.heap.objs.size+2,s1.heap.objs.size+3,s1.heap.objs.size,s1.heap.objs.size+1],_,_,H1,Z,I2,SG (Nb lt1 lt2) C1 C2,⟨g5,g3,⟨_,_,g4⟩,n1 _ g1',n2 _ g2'⟩,λb hb=>?_,q⟩;have hb':b=s1.heap.objs.size+4\/b=s1.heap.objs.size+2\/b=s1.heap.objs.size+3\/b=s1.heap.objs.size\/b=s1.heap.objs.size+1:=by simpa using hb
 have le:s1.heap.objs.size<=b:=by
  rcases hb' with r|r|r|r|r
  .rw [r];exact rP _ _
  .rw [r];exact rP _ _
  .rw [r];exact rP _ _
  .rw [r];exact aO _
  .rw [r];exact rP _ _
 exact I1.BZ le (I1.hok.fresh le)
theorem aX{op:CmpOp}{r:R2}(ho:jz X (compareOp op) r)(ha:bE X a ta)(hb:bE X b tb)(hm:behindInMarks op b=false):bT X (.Compare a [op] [b] pos) (Js (Gp r ta tb)):=by
 have ha:=ha.h;have hb:=hb.h;constructor;intro pins s σ H Q I h;refine wpAny_isTrue_Compare1 (bh (ha pins s σ H _ I h) λv s1 ⟨x,H1,I1,r1,q1⟩=>bh (hb pins s1 σ H1 _ I1 q1) λu s2 ⟨y,H2,I2,r2,q2⟩=>
  bh (ho pins s2 σ H2 x y v u _ I2 r1 r2 q2) λc s3 ⟨z,H3,I3,r3,k,e,q3⟩=>?_) hm
 subst e;cases r3;exact EJ ⟨H3,I3,q3⟩
theorem aW{i:Nat}{x:Str}{e:Expr}{te:TE}{pos':Pos}(hN:X.N.Nodup)(he:bE X e te)(hi:X.N[i]?=some x:=by rfl)(hx:Loc X.env.scope x:=by first|exact Or.inl rfl|exact Or.inr rfl)(hs:swapsWith e (some (.Name x pos')) pos.line X.env=pure false:=by rfl)(hf:X.fn x=true\/X.env.scope.names.lookup x=some .local:=by first|exact .inl rfl|exact .inr rfl|assumption):bS X (.Assign [.Name x pos'] e pos) (UA te (rS i)):=by have he:=he.h;constructor;intro pins s σ H D I h;refine wpAny_Assign_Name (bh (he pins s σ H _ I h) λv s1 ⟨y,H1,I1,r1,q1⟩=>?_) hs;exact yy I1 hN hi hx r1 (λs2 I2=>⟨_,H1,I2,q1⟩) hf
theorem YG{X:Cx}{pos:Pos}{keys:List (Option Expr)}{values:List Expr}{Dg:List (TE×TE)}(h:WQ X pos keys values Dg)(hall:keys.all (·.isSome)=true)(hl:keys.length=values.length)(h0:keys≠[])(h15:keys.length<=15):bE X (.Dict keys values pos) (adg Dg):=by
 have h:=h.h;constructor;intro pins s σ H Q I q;have hn:=I.hok.fresh (aO s.heap.objs.size);have I1:=I.laid (a:=s.heap.objs.size) (o:=.dK []) (h':=s.heap.push { cls:=.type "dict",data:=.dict #[] }) (t':=s.toks) (λ_ _ q=>b9 _ q) (aO _) (B8 s.heap I.big);refine wpAny_Dict_walk (knd:=di X.prog X.w) hall hl h0 h15 (bh (h pins _ σ _ _ I1 (q _ hn)) λws s2 ⟨ps,H2,I2,rel,e,kvs,ep,lk,q2⟩=>?_);subst ep;obtain⟨rs,c,rk⟩:=Dh (P:=X.prog) (w:=X.w) rel;obtain⟨z,hd,SI,r0,dd⟩:=yz I2.hok e;cases r0;refine⟨rs,c,dd,λh' uV hs=>⟨.ref s.heap.objs.size,_,?_,Z,q2⟩⟩;have hz:(xW [] kvs).length<=sizeLine:=by have h1:=zy kvs [];rw[List.length_nil]at h1;rw[kP];omega
 have he:∃q,h'.get? s.heap.objs.size=some q:=let⟨q,_,_,hq,_⟩:=uV;⟨q,hq⟩;exact xV I2 (by rw[e];exact True.intro) hs he (z8 hz hd (rk.merge .nil) uV)
theorem eW(K:Fg){tg l:Expr}{tl:TE}(hl:bE X l tl)(hK:X.K=K:=by rfl):bI X tg l (Wv K tl):=by have hl:=hl.h;exact⟨hK▸XC hl⟩
theorem lI{X:Cx}{e:Expr}{t:TT}(h:bT X e t):bT X e (λσ H Q=>∃b:Bool,t σ H (λb' H'=>b'=b/\H'=H)/\Q b H):=by have h:=h.h;constructor;intro pins s σ H Q I hw;obtain⟨b,hb,q⟩:=hw;refine bh (h pins s σ H _ I hb) λb' s' ⟨H',I',e1,e2⟩=>?_;subst e1 e2;exact⟨_,I',q⟩
theorem aA{st:Stmt}(h1:bS X st t):dg X [st] t:=by
 have h1:=h1.h;constructor;intro pins s σ H D I h;refine wpAny_execs_cons (bh (h1 pins s σ H D I h) λf s1 q=>?_);cases f with
 | next=>exact Jq q
 | ret v=>exact q
 | brk=>exact q
 | cont=>exact q
theorem O3(ho:bE X o td)(hi:bE X i ty):bS X (.Delete [.Subscript o i tpos] pos) (adf td ty):=by have ho:=ho.h;have hi:=hi.h;constructor;intro pins s σ H D I h;refine wpAny_Delete (wpAny_deleteEach_cons (wpAny_delete_Subscript (bh (ho pins s σ H _ I h) λu s1 ⟨x,H1,I1,rx,q1⟩=>bh (hi pins s1 σ H1 _ I1 q1) λiv s2 ⟨y,H2,I2,ry,a,kvs,k,ex,e,ey,l,q2⟩=>?_)));subst ex ey;obtain rfl:u=Value.ref a:=rx;exact R9 I2 e ry l λs3 I3=>wpAny_deleteEach_nil ⟨σ,_,I3,q2⟩
theorem K4(ha:bT X a tA):bT X (.UnaryOp .Not a pos) (agx tA):=by have ha:=ha.h;constructor;intro pins s σ H Q I h;exact isTrue_not (ha pins s σ H (λc H1=>Q (!c) H1) I h)
theorem b_(he:bE X e te)(hs:swapsWith e none pos.line X.env=pure false:=by rfl):bS X (.Expr e pos) (acU te):=by have he:=he.h;constructor;intro pins s σ H D I h;exact wpAny_Expr_any (bh (he pins s σ H _ I h) λv s1 ⟨x,H1,I1,r1,q1⟩=>⟨σ,H1,I1,q1⟩) I.quiet hs
theorem b7{pl:Sem Bool}{j k:Nat}{C:Addr}{m:Str}{ps:List Str}{sp:Sp}{o e:Expr}{es:List Expr}{ta:TE}{t:TA}{apos pos:Pos}(D:Mn X.prog X.w X.K X.mg X.base j C m ps sp)(hr:fm k X.A)(ho:bE X o ta)(ha:bA X (e::es) t)(hj:j<=k:=by decide)(hst:starEach (e::es) X.env=(false,eval e X.env)::starEach es X.env:=by rfl)(hpl:(backTo pos (starEach es X.env)).any (·.1)=false:=by rfl)(ht:eval (.Call (.Attribute o m apos) (e::es) [] pos) X.env=(do
   let ov <-eval o X.env
   standAt apos.atName
   let(f,first) <-holding [ov] (getMethod ov m pl)
   callWith pos f first (backTo pos (starEach (e::es) X.env)) (backToKw pos (keywordEach [] X.env))):=by rfl):bE X (.Call (.Attribute o m apos) (e::es) [] pos) (Jt C m sp [] E0 ta t):=by
 have ho:=ho.h;have ha:=ha.h;constructor
 obtain⟨f,fd,F,b,hm,c⟩:=D.ex
 exact XO (pl:=pl) ho c hm F (hr.mono hj) b .nil (λ_ _ _ _ _ _ _ h=>h.elim) ha hst hpl ht
theorem cM{e:Expr}{es:List Expr}{t:TG}{u:C4}(h1:bG X e t)(h2:WO X es u)(hs:(assignEach (e::es) X.env).map (·.2)=assign e X.env::(assignEach es X.env).map (·.2):=by rfl):WO X (e::es) (Wt t u):=by
 have h1:=h1.h;have h2:=h2.h;constructor;intro pins s σ H vs us Q I r h;obtain⟨v,vr,e1,h⟩:=h;subst e1;cases r with
 | cons r rr=>rw[hs];refine assignInOrder_cons (bh (h1 pins s σ H _ _ _ I r h) λ_ s1 ⟨σ1,H1,I1,q1⟩=>?_);exact h2 pins s1 σ1 H1 _ _ Q I1 rr q1
theorem q_{i:Nat}{x:Str}{px pos':Pos}{tg iter elt:Expr}{scope:Scope}{pos:Pos}(N2:List Str)(ix:List (Option Nat)){wi:TI}{g:TG}{te:TE}(hN:X.N.Nodup)(hi:X.N[i]?=some x)(hx:X.env.scope.names.lookup x=some .local)(hc:X.calm=true)(hit:bI X tg iter wi)(hg:∀cl s₂ H₂ fp,bG (cQ X N2 scope cl s₂ H₂ fp) tg g)(he:∀cl s₂ H₂ fp,bE (cQ X N2 scope cl s₂ H₂ fp) elt te)(hk:scope.kind =.function)(hn:nQ X.N X.env.scope.names scope.names N2 ix=true)(hw:swapsWith (.ListComp elt [⟨tg,iter,[],0⟩] scope pos) (some (.Name x px)) pos'.line X.env=pure true)(hs:∀x,foldedSetIterable iter X.env x=pure x:=by intro _;rfl):bS X (.Assign [.Name x px] (.ListComp elt [⟨tg,iter,[],0⟩] scope pos) pos') (UA (WD wi ix g te) (rS i)):=by
 have hit:=hit.h;have hg:=λcl s₂ H₂ fp=>(hg cl s₂ H₂ fp).h;have he:=λcl s₂ H₂ fp=>(he cl s₂ H₂ fp).h;constructor;intro pins s σ H D I h;obtain⟨k1,k2,k3,k4,k5⟩:=kT hn;obtain⟨cl,Kf,c1,c2⟩:=uF (scope:=scope) (env:=X.env) λy hy e=>I.ok.has y.1 (k3 y hy e);rw[exec_Assign_Name_used _ _ _ _ hw];refine az (yu (az ?_));show wpAny _ X.A (do let _ <-comprehension (.ListComp elt [⟨tg,iter,[],0⟩] scope pos) scope X.env _ (newList []) false (eval iter X.env) (some (assign (.Name x px) X.env))) _ _ s;refine az (bh (P_ (use:=some (assign (.Name x px) X.env)) (Q:=λ_ s'=>SP X pins D .next s') rfl hs Kf hk k4 (bh (hit pins s σ H _ I h) λv s1 h1=>bh h1 λitv s2 h2=>?_)) λ_ s' hq=>aT (aT hq));obtain⟨it,fp,tn,J,H2,e,I2,T,st2,f2,h2⟩:=h2;subst e;refine Dm (RR:=λacc C=>compPost (model X.prog X.w) X.A X.xe (some (assign (.Name x px) X.env)) (λ_ s'=>SP X pins D .next s') acc C) (Q:=λv H'=>D.nx (σ.set i (some v)) H') hc hg he hk hn (λy c m=>(c1 y c m).1) c2 I2 T st2 f2 h2 ?_;intro acc C H' s' m I' ns xX hL hsz sR yH q;show wpAny _ X.A (assign (.Name x px) X.env (.ref acc)) _ _ _;refine wpAny_assign_Name (Gn I' hN hi (.inl hx) (v:=.ref acc) rfl (λs3 I3 ⟨a,sb,ha⟩=>?_) (.inr hx));have ca:C≠a:=by
  rcases ha with z|z
  .rw [z];exact hL
  .exact λe=>sR x a z e.symm
 exact⟨m,ns.sameBut sb ca,λh' hs'=>⟨_,H',I3.turned (it:=C) (t':=s3.toks) (λb o hb e=>(hs'.2 b hb).trans e) xX hL (.inr hsz) sR yH,q⟩⟩
theorem Cm{X:Cx}{pos:Pos}{k v:Expr}{ks:List (Option Expr)}{vs:List Expr}{tk tv:TE}{Dg:List (TE×TE)}(hk:bE X k tk)(hv:bE X v tv)(hr:WQ X pos ks vs Dg):WQ X pos (some k::ks) (v::vs) ((tk,tv)::Dg):=by
 have hk:=hk.h;have hv:=hv.h;have hr:=hr.h;exact⟨λpins s σ H Q I h=>
 pairTrees_cons_walk (bh (hk pins s σ H _ I h) λu s1 ⟨x,H1,I1,rx,q1⟩=>bh (hv pins s1 σ H1 _ I1 q1) λw2 s2 ⟨y,H2,I2,ry,q2⟩=>
  bh (hr pins s2 σ H2 _ I2 q2) λws s3 ⟨ps,H3,I3,rel,q3⟩=>⟨(x,y)::ps,H3,I3,.cons ⟨rx,ry⟩ rel,q3⟩)⟩
theorem AB(hu:X.A.units+1<cLine)(hi:bE X i ty)(ho:bE X o td):bC X .NotIn i o (XY ty td):=by have hi:=hi.h;have ho:=ho.h;constructor;intro pins s σ H Q I h;refine bh (hi pins s σ H _ I h) λiv s1 ⟨y,H1,I1,ry,q1⟩=>bh (ho pins s1 σ H1 _ I1 q1) λu s2 ⟨x,H2,I2,rx,a,ov,ex,g,q2⟩=>?_;subst ex;obtain rfl:u=Value.ref a:=rx;exact XU hu I2 g ry λs3 I3=>⟨.bl (!ov.isSome),H2,I3,Z,q2⟩
theorem WS{b j pos}:bE X (.Constant (.bool b) j pos) (tC (.bl b)):=by exact⟨λ_ _ _ H _ I h=>Constant_bool ⟨.bl b,H,I,Z,h⟩⟩
theorem kq{pl:Sem Bool}{j k:Nat}{C:Addr}{m:Str}{ps:List Str}{sp:Sp}{o:Expr}{ta:TE}{apos pos:Pos}(D:Mn X.prog X.w X.K X.mg X.base j C m ps sp)(hr:fm k X.A)(ho:bE X o ta)(hj:j<=k:=by decide)(ht:eval (.Call (.Attribute o m apos) [] [] pos) X.env=(do
   let ov <-eval o X.env
   standAt apos.atName
   let(f,first) <-holding [ov] (getMethod ov m pl)
   callWith pos f first (backTo pos (starEach [] X.env)) (backToKw pos (keywordEach [] X.env))):=by rfl):bE X (.Call (.Attribute o m apos) [] [] pos) (Jt C m sp [] E0 ta xw):=by
 have ho:=ho.h;constructor
 obtain⟨f,fd,F,b,hm,c⟩:=D.ex
 exact UP (pl:=pl) ho c hm F (hr.mono hj) b .nil (λ_ _ _ _ _ _ _ h=>h.elim) ht
theorem bJ(he:bE X e te):bS X (.Return (some e) pos) (agz te):=by have he:=he.h;constructor;intro pins s σ H D I h;exact wpAny_Return_some (bh (he pins s σ H _ I h) λv s1 ⟨x,H1,I1,r1,q1⟩=>⟨x,σ,H1,I1,r1,q1⟩)
theorem mL{tg:Expr}{a:Expr}{ta:TA}{p pos:Pos}(hg:Gl X "range")(hm:X.mg "range"=none)(ha:bA X [a] ta)(hs:starEach [a] X.env=[(false,eval a X.env)] :=by rfl):bI X tg (.Call (.Name "range" p) [a] [] pos) (ac1 ta):=by
 have ha:=ha.h;constructor;intro pins s σ H R I h;refine Call_ (xT I hg hm boot_range (RB (bh (ha pos pins s σ H _ I h) λus s1 ⟨vs,H1,I1,r1,q1⟩=>?_) hs rfl));obtain⟨j,e,q1,q2,q⟩:=q1;subst e;cases r1 with
 | cons r rr=>cases rr;obtain⟨t,rfl⟩:=r;exact call_range_1 (UH I1 (by omega) (by omega) q1 q2 (by simpa using q))
theorem bP:dg X [] acT:=by exact⟨λ_ _ σ H _ I h=>Jq ⟨σ,H,I,h⟩⟩
theorem cR(K:Fg){o value:Expr}{f:Str}{ta tv:TE}{pos pos':Pos}(ha:bE X o ta)(hv:bE X value tv)(hs:swapsWith value (some (.Attribute o f pos')) pos.line X.env=pure false:=by rfl)(hK:X.K=K:=by rfl):bS X (.Assign [.Attribute o f pos'] value pos) (ZD K ta tv f):=by have ha:=ha.h;have hv:=hv.h;exact⟨hK▸ZG ha hv hs⟩
theorem Hf{tg:Expr}{a b c:Expr}{ta:TA}{p pos:Pos}(hg:Gl X "range")(hm:X.mg "range"=none)(ha:bA X [a,b,c] ta)(hs:starEach [a,b,c] X.env=[(false,eval a X.env),(false,eval b X.env),(false,eval c X.env)] :=by rfl)(hs2:starEach [b,c] X.env=[(false,eval b X.env),(false,eval c X.env)] :=by rfl):bI X tg (.Call (.Name "range" p) [a,b,c] [] pos) (ado ta):=by
 have ha:=ha.h;constructor;intro pins s σ H R I h;refine Call_ (xT I hg hm boot_range (RB (bh (ha pos pins s σ H _ I h) λus s1 ⟨vs,H1,I1,r1,q1⟩=>?_) (by rw[hs,hs2]) (by rw[hs2];rfl)));obtain⟨i,j,k,e,⟨q1,q2,q3,q4,q5,q6⟩,q⟩:=q1;subst e;cases r1 with
 | cons r rr=>
  cases rr with
  | cons r' rr=>
   cases rr with
   | cons r'' rr=>
    cases rr;obtain⟨t,rfl⟩:=r;obtain⟨t',rfl⟩:=r';obtain⟨t'',rfl⟩:=r'';obtain⟨sm,sz⟩:=Nf q1 q2 q3 q4 q5 q6;refine call_range_3 (by omega) ?_ (Or.inl (PyProof.noPylong_small (by omega)));refine wpAny_pyIter_range (IsRange.new ..) sm ?_;have I2:Inv X pins σ H1 { s1 with heap:=s1.heap.push { cls:=.type "range",data:=.fields #[.int i t,.int j t',.int k t''] },toks:=s1.toks }:=I1.kept λb o e=>b9 _ e;refine⟨(s1.heap.push { cls:=.type "range",data:=.fields #[.int i t,.int j t',.int k t''] }).objs.size,[(s1.heap.push { cls:=.type "range",data:=.fields #[.int i t,.int j t',.int k t''] }).objs.size],_,_,H1,Z,
     I2.kept (t':=s1.toks) λb o e=>b9 _ e,Nd _ i k (qQ i j k),?_,λb hb=>?_,q⟩
    .have e1:i+((0:Nat):Int)*k=i:=by simp
     have e2:((qQ i j k:Nat):Int)-((0:Nat):Int)=Builtin.Range.rangeSize i j k:=by unfold qQ;omega
     show IsRangeIter _ _ (i+((0:Nat):Int)*k) (((qQ i j k:Nat):Int)-((0:Nat):Int)) k;rw[e1,e2];exact eT _ rfl
    .have e:b=(s1.heap.push { cls:=.type "range",data:=.fields #[.int i t,.int j t',.int k t''] }).objs.size:=by simpa using hb
     subst e;exact I2.BZ (aO _) (I2.hok.fresh (aO _))
theorem Tc{a:Expr}{ta:TA}{p pos:Pos}(hg:Gl X "range")(hm:X.mg "range"=none)(ha:bA X [a] ta)(hs:starEach [a] X.env=[(false,eval a X.env)] :=by rfl):bE X (.Call (.Name "range" p) [a] [] pos) (agV ta):=by have ha:=ha.h;constructor;intro pins s σ H Q I h;refine Call_ (xT I hg hm boot_range (RB (bh (ha pos pins s σ H _ I h) λus s1 ⟨vs,H1,I1,r1,q1⟩=>?_) hs rfl));obtain⟨j,e,q⟩:=q1;subst e;obtain⟨u,rfl,ru⟩:=vals1 r1;obtain⟨t,rfl⟩:=ru;exact call_range_1 ⟨.ref s1.heap.objs.size,_,I1.laid (a:=s1.heap.objs.size) (o:=.xQ 0 j) (λb o e=>b9 _ e) (aO _) ⟨_,_,_,eT _ rfl⟩,Z,q _ I1.fresh⟩
theorem iK(h:bA X es t):bE X (.List es pos) (agJ t):=by have h:=h.h;constructor;intro pins s σ H Q I hq;refine wpAny_List_spliced (bh (h pos pins s σ H _ I hq) λus s1 ⟨xs,H1,I1,r,z,q⟩=>⟨by rw[<-r.length];exact z,?_⟩);have hf:H1 s1.heap.objs.size=none:=I1.hok.fresh (aO _);refine⟨.ref s1.heap.objs.size,upd H1 s1.heap.objs.size (.lst xs),I1.laid (t':=s1.toks) (λb u e=>b9 _ e) (aO _) ?_,Z,q _ hf⟩;exact⟨z,us,0,r,eT _ rfl⟩
theorem qc(K:Fg){o value:Expr}{f:Str}{ta tv:TE}{pos tpos:Pos}{op:Operator}{rd:V->V->Hp->VK->Prop}(ha:bE X o ta)(hv:bE X value tv)(hop:JT X op rd)(hK:X.K=K:=by rfl):bS X (.AugAssign (.Attribute o f tpos) op value pos) (OD K ta tv rd f):=by have ha:=ha.h;have hv:=hv.h;exact⟨hK▸RU ha hv hop⟩
theorem aaM{j pos}:bE X (.Constant .none j pos) (tC .cW):=by exact⟨λ_ _ _ H _ I h=>Constant_none ⟨.cW,H,I,Z,h⟩⟩
theorem E3{ob:Expr}{td:TE}{apos cpos:Pos}(hob:bE X ob td)(hbase:attributeBase ob "values" X.env (eval ob X.env)=eval ob X.env:=by rfl)(hline:(apos.endLine==cpos.line)=true:=by rfl):bE X (.Call (.Attribute ob "values" apos) [] [] cpos) (adq td):=by have hob:=hob.h;constructor;intro pins s σ H Q I h;refine wpAny_Call_method0_late hbase hline (bh (hob pins s σ H _ I h) λv s1 ⟨x,H1,I1,r1,q1⟩=>?_);obtain⟨d,kvs,rfl,e,fin⟩:=q1;cases r1;obtain⟨t1,t2,hsys⟩:=J6 I1 (.inl ⟨kvs,e⟩);obtain⟨hz,_,vs,rel,dd⟩:=rW I1.hok e;refine⟨"dict",_,F.plainAttrs_dict,Qo,F.type_dict_values,t1,t2,Qe rfl (PySem.evalArgs_none ?_)⟩;refine call_meetsIn Qo dd.typeIs F.entry_dict_values (F.args_dict_values_1 _) (meets_dict_values (di X.prog X.w) d hsys) ⟨⟨vs,dd⟩,?_⟩;refine⟨.ref s1.heap.objs.size,_,I1.laid (t':=s1.toks) (o:=lY s1.heap.objs.size d) (λb u e=>b9 _ e) (aO _) ?_,Z,fin _ I1.fresh⟩;refine⟨⟨_,eT _ rfl,Z,Z⟩,⟨_,eT _ rfl⟩,λh1 h2 ⟨o,a,b⟩ k=>⟨o,k o a,b⟩⟩
theorem Ra{j k:Nat}{x:Str}{C:Addr}{ps:List Str}{sp:Sp}{e:Expr}{es:List Expr}{t:TA}{p pos:Pos}(D:Cn X.prog X.w X.K X.mg X.base j x C ps sp)(hr:fm k X.A)(ha:bA X (e::es) t)(hj:j+1<=k:=by decide)(hg:Gl X x:=by rfl)(hdb:(x==("__debug__":Str))=false:=by decide)(he:starEach (e::es) X.env=(false,eval e X.env)::starEach es X.env:=by rfl)(hpl:(backTo pos (starEach es X.env)).any (·.1)=false:=by rfl):bE X (.Call (.Name x p) (e::es) [] pos) (Ju C sp [] E0 t):=by have ha:=ha.h;constructor;obtain⟨f,fd,F,b,M,m⟩:=D.ex;exact XQ M F (hr.mono hj) hg m b .nil (λ_ _ _ _ _ _ _ h=>h.elim) ha hdb he hpl
theorem YH{x:Str}{v:V}{u:Value}{pos:Pos}(hg:Gl X x)(hm:X.mg x=some u)(r:RelV v u)(hd:(x==("__debug__":Str))=false:=by decide):bE X (.Name x pos) (tC v):=by exact⟨λ_ _ _ H _ I h=>Ba I hg hm ⟨v,H,I,r,h⟩ hd⟩
theorem iL(hc:i_ X (.type T) r)(hg:Gl X x)(hm:X.mg x=none)(hv:bootBuiltins x=some (.type T))(ha:bA X (e::es) t)(hn:x ≠ "__name__":=by decide)(hdb:(x==("__debug__":Str))=false:=by decide)(he:starEach (e::es) X.env=(false,eval e X.env)::starEach es X.env:=by rfl)(hpl:(backTo pos (starEach es X.env)).any (·.1)=false:=by rfl):bE X (.Call (.Name x p) (e::es) [] pos) (ZO r t):=by have ha:=ha.h;constructor;intro pins s σ H Q I h;refine JF (xT I hg hm hv ?_ hn hdb);exact RB (bh (ha pos pins s σ H _ I h) λus s1 ⟨vs,H1,I1,r1,q1⟩=>hc pins s1 σ H1 vs us Q I1 r1 q1) he hpl
theorem Jy{rest:List Expr}(ha:bT X a tA)(hb:bW X (.BoolOp .Or (b::rest) pos) Wr):bW X (.BoolOp .Or (a::b::rest) pos) (tOr tA Wr):=by
 have ha:=ha.h;have hb:=hb.h;constructor;intro wh pins s σ H Q I h;refine isTrue_or (bh (ha pins s σ H _ I h) λc s1 ⟨H1,I1,q1⟩=>?_);cases c with
 | true=>exact⟨H1,I1,q1⟩
 | false=>exact hb wh pins s1 σ H1 Q I1 q1
theorem uM(ha:bT X a tA):bW X (.BoolOp .And [a] pos) tA:=by
 have ha:=ha.h;constructor;intro wh pins s σ H Q I h;refine isTrue_and (bh (ha pins s σ H Q I h) λc s1 e=>?_);cases c with
 | true=>exact isTrue_and_nil e
 | false=>exact e
theorem cX{c:Expr}{a b:List Stmt}{tc:TT}(hc:bT X c tc)(ha:dg X a t)(hb:dg X b u):bS X (.If c a b pos) (Zk tc t u):=⟨Ws hc.h ha.h hb.h⟩
theorem aaN{i j:Nat}{x y:Str}{a b:Expr}{ta:TA}{px py pt:Pos}{kt k2 pt2}(hc:X.calm=true)(hN:X.N.Nodup)(hi:X.N[i]?=some x)(hj:X.N[j]?=some y)(hij:i≠j)(hx:X.env.scope.names.lookup x=some .local)(hy:X.env.scope.names.lookup y=some .local)(ha:bA X [a,b] ta)(hw:swappedStores [.Tuple [.Name x px,.Name y py] kt pt] (.Tuple [a,b] k2 pt2) X.env=pure (some [x,y]))(hs:swapsWithSole [.Tuple [.Name x px,.Name y py] kt pt] (.Tuple [a,b] k2 pt2) pos.line X.env=pure false:=by rfl):bS X (.Assign [.Tuple [.Name x px,.Name y py] kt pt] (.Tuple [a,b] k2 pt2) pos) (agB i j ta):=by
 have ha:=ha.h;constructor;intro pins s σ H D I h;rw[exec_Assign_arm];refine az (yu ?_);rw[hs];refine az (aT ?_);rw[aB (by decide)];refine az (Tuple_ (bh (ha _ pins s σ H _ I h) λus s1 ⟨vs,H1,I1,r1,q1⟩=>?_));obtain⟨v,w,e1,q1⟩:=q1;subst e1;obtain⟨u1,u2,rfl,rv,rw'⟩:∃u1 u2,us=[u1,u2]/\RelV v u1/\RelV w u2:=by
  cases r1 with
  | cons p q=>
   cases q with
   | cons p' q'=>cases q';exact⟨_,_,Z,p,p'⟩
 refine xq ?_ (by show 2<=sizeLine;decide);have I2:Inv X pins σ H1 { s1 with heap:=s1.heap.push { cls:=.type "tuple",data:=.seq [u1,u2].toArray } }:=I1.kept (t':=s1.toks) λb o e=>b9 _ e;rw[hw];refine az (aT ?_);show wpAny (model X.prog X.w) X.A (do rule "assign.swapped-stores";let items <-unpackItems (.ref s1.heap.objs.size) 2 none;assignInOrder [λv=>bindName X.env y v,λv=>bindName X.env x v] items.reverse;pure Flow.next) _ _ _;refine az (wpAny_rule (az (unpackItems_tuple (items:=#[u1,u2]) (I.ok.hd hc) (IsTup.new s1.heap _) λh' hx'=>?_)));have I3:=I2.kept (h':=h') (t':=s1.toks) λb o e=>hx' b o (d8 (bU e)) e;show wpAny _ _ (assignInOrder [λv=>bindName X.env y v,λv=>bindName X.env x v] [u2,u1] >>= λ_=>pure Flow.next) _ _ _;refine az (assignInOrder_cons (wpAny_bindName (yy I3 hN hj (.inl hy) rw' (λs2 I4=>?_) (.inr hy))));refine assignInOrder_cons (wpAny_bindName (yy I4 hN hi (.inl hx) rv (λs3 I5=>assignInOrder_nil (aT ?_)) (.inr hx)));rw[List.set_comm _ _ (bX hij)]at I5;exact⟨_,H1,I5,q1⟩
theorem jR{c:Expr}{a b:List Stmt}{tc:TT}{t u:TS}(hc:bT X c tc)(ha:dg X a t)(hb:dg X b u):bS X (.If c a b pos) (aaa tc t u):=by
 have hc:=hc.h;have ha:=ha.h;have hb:=hb.h;constructor;intro pins s σ H D I h;obtain⟨J,h,hJ⟩:=h;refine bh (Ws hc ha hb pins s σ H { D with nx:=J } I h) λf s' q=>?_;cases f with
 | next=>obtain⟨σ',H',I',q⟩:=q;exact⟨σ',H',I',hJ _ _ q⟩
 | cont=>exact q
 | brk=>exact q
 | ret v=>exact q
theorem ak{st:Stmt}{rest:List Stmt}(h1:bS X st t)(h2:dg X rest u):dg X (st::rest) (i9 t u):=by
 have h1:=h1.h;have h2:=h2.h;constructor;intro pins s σ H D I h;refine wpAny_execs_cons (bh (h1 pins s σ H { D with nx:=u D } I h) λf s1 q=>?_);cases f with
 | next=>obtain⟨σ',H',I',q⟩:=q;exact h2 pins s1 σ' H' D I' q
 | ret v=>exact q
 | brk=>exact q
 | cont=>exact q
theorem K5(K:Fg){e st:Expr}{te ts:TE}{pos p2:Pos}(he:bE X e te)(hst:bE X st ts)(hK:X.K=K:=by rfl):bE X (.Subscript e (.Slice none none (some st) p2) pos) (agW K te ts):=by have he:=he.h;have hst:=hst.h;constructor;subst hK;intro pins s σ H Q I h;refine Subscript_ (bh (he pins s σ H _ I h) λv s1 ⟨x,H1,I1,r1,q1⟩=>?_);refine wpAny_Slice ?_;rw[evalPart_none];refine aT (aT ?_);rw[evalPart_some];refine bh (hst pins s1 σ H1 _ I1 q1) λw3 s3 ⟨y,H3,I3,r3,q3⟩=>?_;obtain⟨ey,a,xs,rfl,hx,q⟩:=q3;subst ey;obtain⟨t,rfl⟩:=r3;cases r1;have I4:Inv X pins σ H3 { s3 with heap:=s3.heap.push { cls:=.type "slice",data:=.fields #[.none,.none,.int (-1) t] } }:=I3.kept (t':=s3.toks) λb ob q=>b9 _ q;obtain⟨its,r,ht,hz⟩:=I4.list hx;have hlen:=r.length;refine tail_any (ops:=[.ref a,.ref s3.heap.objs.size]) ht.isList.typeIs slot_list_getitem.lookup ?_ (by with_unfolding_all rfl);refine wpAny_getItem_list_slice ht.isList (Heap.IsSliceOf.new ..) .none .none (.int (-1) t) (by decide) ?_ (by rw[iE] <;> omega);rw[PySem.W.krv_pick];refine⟨.ref _,_,I4.laid (t':=s3.toks) (o:=.lst xs.reverse) (λb ob q=>b9 _ q) (aO _) ?_,Z,q _ I4.fresh⟩;exact⟨by rw[List.length_reverse];exact hz,its.reverse,0,r.reverse,eT _ rfl⟩
theorem iS(K:Fg){X:Cx}{es:List Expr}{k:Nat}{t:C4}{n:Nat}{pos:Pos}(hc:X.calm=true)(h:WO X es t)(hK:X.K=K:=by rfl)(hn:(assignEach es X.env).length=n:=by rfl)(hst:(assignEach es X.env).findIdx? (·.1)=none:=by rfl):bG X (.Tuple es k pos) (zT K n t):=by have h:=h.h;exact⟨hK▸Zp hc h hn hst⟩
theorem eV(hu:X.A.units+1<cLine)(ho:bE X o td)(hi:bE X i ty)(hs:Z0 i:=by exact λ_ _=>rfl):bE X (.Subscript o i pos) (Wz td ty):=by have ho:=ho.h;have hi:=hi.h;constructor;intro pins s σ H Q I h;refine XW PySem.F.slot_dict_getitem.lookup hs (bh (ho pins s σ H _ I h) λu s1 ⟨x,H1,I1,rx,q1⟩=>bh (hi pins s1 σ H1 _ I1 q1) λiv s2 ⟨y,H2,I2,ry,a,v,ex,g,q2⟩=>?_);subst ex;obtain rfl:u=Value.ref a:=rx;exact⟨M_ I2 g,R7 hu I2 g ry λw' s3 I3 rw'=>⟨v,H2,I3,rw',q2⟩⟩
theorem au:bA X [] xw:=by exact⟨λ_ _ _ _ H Q I h=>Calls.spliced_nil ⟨[],H,I,.nil,h⟩⟩
theorem aq{i j pos}:bE X (.Constant (.int i) j pos) (tC (.int i)):=by exact⟨λ_ _ _ H _ I h=>wpAny_Constant_int ⟨.int i,H,I.tok _,⟨_,Z⟩,h⟩⟩
theorem aaP{rest:List Expr}(ha:bE X a ta)(hb:bE X (.BoolOp .And (b::rest) pos) tb):bE X (.BoolOp .And (a::b::rest) pos) (acS ta tb):=by
 have ha:=ha.h;have hb:=hb.h;constructor;intro pins s σ H Q I h;refine BoolOp_and (bh (ha pins s σ H _ I h) λv s1 ⟨x,H1,I1,r1,q1⟩=>?_);obtain⟨c,rfl,q1⟩:=q1;cases r1;refine EJ ?_;cases c with
 | true=>exact hb pins s1 σ H1 Q I1 q1
 | false=>exact⟨.bl false,H1,I1,Z,q1⟩
theorem rj:bE X (.Dict [] [] pos) Z4:=by
 exact⟨λpins s σ H Q I h=>
 wpAny_Dict_empty ⟨.ref s.heap.objs.size,_,I.laid (a:=s.heap.objs.size) (o:=.dK []) (t':=s.toks) (λ_ _ q=>b9 _ q) (aO _) (B8 s.heap I.big),Z,h _ (I.hok.fresh (aO _))⟩⟩
theorem nR{tg e:Expr}{te:TE}{g:TG}(he:bE X e te)(hg:bG X tg g)(hs:swapsWithSole [tg] e pos.line X.env=pure false:=by rfl)(hw:swappedStores [tg] e X.env=pure none:=by rfl)(h1:(assignEach [tg] X.env).map (·.2)=[assign tg X.env] :=by rfl):bS X (.Assign [tg] e pos) (UA te g):=by have he:=he.h;have hg:=hg.h;constructor;intro pins s σ H D I h;refine wpAny_Assign_stores (bh (he pins s σ H _ I h) λv s1 ⟨x,H1,I1,r1,q1⟩=>?_) hs hw;rw[h1];exact bh (hg pins s1 σ H1 x v _ I1 r1 q1) λ_ s2 q=>q
theorem yS{elts:List Expr}{kk:Nat}{tpos:Pos}{ob:Expr}{td:TE}{apos cpos:Pos}(hob:bE X ob td)(hbase:attributeBase ob "items" X.env (eval ob X.env)=eval ob X.env:=by rfl)(hline:(apos.endLine==cpos.line)=true:=by rfl):bI X (.Tuple elts kk tpos) (.Call (.Attribute ob "items" apos) [] [] cpos) (aal td):=by
 have hob:=hob.h;constructor;intro pins s σ H R I h;refine wpAny_Call_method0_late hbase hline (bh (hob pins s σ H _ I h) λv s1 ⟨x,H1,I1,r1,q1⟩=>?_);obtain⟨d,o,kvs,rfl,e,fin⟩:=q1;cases r1;obtain⟨ho,hz,hsys,vs,ep,rel,da⟩:=I1.rX e;obtain⟨t1,t2,_⟩:=J6 I1 (.inl ⟨kvs,.inr ⟨o,e⟩⟩);have dd:=da.dictOf;refine⟨"dict",_,F.plainAttrs_dict,F.slot_dict_items,F.type_dict_items,t1,t2,Qe rfl (PySem.evalArgs_none ?_)⟩;refine call_meetsIn F.slot_dict_items dd.typeIs F.entry_dict_items (F.args_dict_items_1 _) (meets_dict_items (di X.prog X.w) d hsys) ⟨⟨vs,dd⟩,?_⟩;refine wpAny_pyIter_items (s:={ s1 with heap:=s1.heap.push { cls:=.type "dict_items",data:=.fields #[.ref d] } }) ⟨_,eT _ rfl,Z,Z⟩ (da.push _) ?_;have Iv:Inv X pins σ H1 { s1 with heap:=s1.heap.push { cls:=.type "dict_items",data:=.fields #[.ref d] } }:=I1.kept (t':=s1.toks) λb o e=>b9 _ e;generalize ({ s1 with heap:=s1.heap.push { cls:=.type "dict_items",data:=.fields #[.ref d] } }:Shared)=sv at *;have I2:Inv X pins σ H1 { sv with heap:=sv.heap.push { cls:=.type "dict_itemiterator",data:=.fields #[.none,.bool false,.ref d,.int 0 0,.int vs.length 0,.int ep 0,.none,.none] } }:=Iv.kept (t':=sv.toks) λb o e=>b9 _ e;have hl:kvs.length=vs.length:=rel.length;obtain⟨o',es,h1,_,h2,_⟩:=id da;rw[ho]at h1;cases h1;refine⟨sv.heap.objs.size,[sv.heap.objs.size],_,_,H1,Z,I2,QV h2,?_,λb hb=>?_,fin⟩
 .rw [hl];exact⟨_,_,eT _ rfl⟩
 .have eb:b=sv.heap.objs.size:=by simpa using hb
  subst eb;exact Iv.BZ (aO _) (Iv.hok.fresh (aO _))
theorem aaQ{tg:Expr}{l:Expr}{tl:TE}(hl:bE X l tl):bI X tg l (aae tl):=⟨aaf hl.h⟩
theorem DN(ha:bT X a tA):bW X (.BoolOp .Or [a] pos) tA:=by
 have ha:=ha.h;constructor;intro wh pins s σ H Q I h;refine isTrue_or (bh (ha pins s σ H Q I h) λc s1 e=>?_);cases c with
 | false=>exact isTrue_or_nil e
 | true=>exact e
theorem yb{X:Cx}{st:Stmt}{t:TS}(h:bS X st t):bS X st (agX t):=by
 have h:=h.h;constructor;intro pins s σ H D I hw;obtain⟨d,kvs,e,hw⟩:=hw;obtain⟨ho,es,ep,h1,_⟩:=(yz I.hok e).2.2.choose_spec.2;have h0:=I.Sx e;refine bh (h pins s σ _ _ (I.freeze e h1) (hw ho)) λf s' q=>?_;cases f with
 | next=>obtain⟨σ',H',I',q1,q2⟩:=q;exact⟨σ',_,I'.Cb q1 h0,q2⟩
 | brk=>obtain⟨σ',H',I',q1,q2⟩:=q;exact⟨σ',_,I'.Cb q1 h0,q2⟩
 | cont=>obtain⟨σ',H',I',q1,q2⟩:=q;exact⟨σ',_,I'.Cb q1 h0,q2⟩
 | ret u=>obtain⟨v,σ',H',I',r,q1,q2⟩:=q;exact⟨v,σ',_,I'.Cb q1 h0,r,q2⟩
theorem uN(hu:X.A.units+1<cLine)(ho:bE X o td)(hi:bE X i ty)(hv:bE X value tv)(hs:swapsWith value (some (.Subscript o i pos')) pos.line X.env=pure false):bS X (.Assign [.Subscript o i pos'] value pos) (ade td ty tv):=by have ho:=ho.h;have hi:=hi.h;have hv:=hv.h;constructor;intro pins s σ H D I h;refine wpAny_Assign_Subscript (bh (hv pins s σ H _ I h) λr s1 ⟨v,H1,I1,rv,q1⟩=>bh (ho pins s1 σ H1 _ I1 q1) λu s2 ⟨x,H2,I2,rx,q2⟩=>bh (hi pins s2 σ H2 _ I2 q2) λiv s3 ⟨y,H3,I3,ry,a,H4,ex,g,q3⟩=>?_) hs;subst ex;obtain rfl:u=Value.ref a:=rx;exact R8 hu I3 g ry rv λs4 I4=>⟨σ,H4,I4,q3⟩
theorem qv(i:Nat){x:Str}{pos:Pos}(hN:X.N[i]?=some x:=by rfl)(hv:Wn X.env.scope x:=by first|exact Or.inl rfl|exact Or.inr (Or.inl rfl)|exact Or.inr (Or.inr rfl))(hd:(x==("__debug__":Str))=false:=by decide)(hcd:(x==("__classdict__":Str))=false:=by decide):bE X (.Name x pos) (EK i):=by exact⟨Zi hN hv hd hcd⟩
theorem bZ{id:String}(hc:i_ X (.builtin id) r)(hg:Gl X x)(hm:X.mg x=none)(hv:bootBuiltins x=some (.builtin id))(ha:bA X (e::es) t)(hn:x ≠ "__name__":=by decide)(hdb:(x==("__debug__":Str))=false:=by decide)(he:starEach (e::es) X.env=(false,eval e X.env)::starEach es X.env:=by rfl)(hpl:(backTo pos (starEach es X.env)).any (·.1)=false:=by rfl):bE X (.Call (.Name x p) (e::es) [] pos) (ZO r t):=by have ha:=ha.h;constructor;intro pins s σ H Q I h;refine JF (xT I hg hm hv ?_ hn hdb);exact PyProof.Rows.callWith_builtin1 (bh (ha pos pins s σ H _ I h) λus s1 ⟨vs,H1,I1,r1,q1⟩=>hc pins s1 σ H1 vs us Q I1 r1 q1) he hpl
theorem nS{o i:Expr}{to ti:TE}{t:tO}(ho:bE X o to)(hi:bE X i ti)(hs:Uz X t)(ha:∀v,assign (.Subscript o i pos) X.env v=(do
   let ov <-holding [v] (eval o X.env)
   let iv <-holding [v,ov] (eval i X.env)
   standAt pos
   holding [v,ov,iv] (setItem ov iv v)
   release [v,ov,iv] []):=by intro _;rfl):bG X (.Subscript o i pos) (agA to ti t):=by
 have ho:=ho.h;have hi:=hi.h;constructor
 intro pins s σ H v u Q I r h
 rw[ha]
 refine az (wc (bh (ho pins s σ H _ I h) λov s1 ⟨x,H1,I1,r1,q1⟩=>?_))
 refine az (wc (bh (hi pins s1 σ H1 _ I1 q1) λiv s2 ⟨y,H2,I2,r2,q2⟩=>?_))
 refine az (yu (az (wc (bh (hs pins s2 σ H2 x y v ov iv u _ I2 r1 r2 r q2) λ_ s3 ⟨H3,I3,q3⟩=>?_))))
 exact wpAny_release ⟨σ,H3,I3,q3⟩
theorem gr{st:Stmt}:bS X st Zl:=by exact⟨λ_ _ _ _ _ _ h=>h.elim⟩
theorem DO{j k:Nat}{x:Str}{C:Addr}{ps:List Str}{sp:Sp}{p pos:Pos}(D:Cn X.prog X.w X.K X.mg X.base j x C ps sp)(hr:fm k X.A)(hj:j+1<=k:=by decide)(hg:Gl X x:=by rfl)(hdb:(x==("__debug__":Str))=false:=by decide):bE X (.Call (.Name x p) [] [] pos) (Ju C sp [] E0 xw):=by constructor;obtain⟨f,fd,F,b,M,m⟩:=D.ex;exact UQ M F (hr.mono hj) hg m b .nil (λ_ _ _ _ _ _ _ h=>h.elim) hdb
theorem ah(ha:bE X e te)(hr:bA X es t)(hs:starEach (e::es) X.env=(false,eval e X.env)::starEach es X.env:=by rfl):bA X (e::es) (QG te t):=by have ha:=ha.h;have hr:=hr.h;constructor;intro pos pins s σ H Q I h;rw[hs];show wpAny _ _ (spliced ((false,eval e X.env)::backTo pos (starEach es X.env))) _ _ s;refine Calls.spliced_cons (bh (ha pins s σ H _ I h) λu s1 ⟨x,H1,I1,r1,q1⟩=>?_);exact bh (hr pos pins s1 σ H1 _ I1 q1) λus s2 ⟨xs,H2,I2,r2,q2⟩=>⟨x::xs,H2,I2,.cons r1 r2,q2⟩
theorem aI(K:Fg){e:Expr}{f:Str}{ta:TE}{pos:Pos}(he:bE X e ta)(hb:attributeBase e f X.env (eval e X.env)=eval e X.env:=by rfl)(hK:X.K=K:=by rfl):bE X (.Attribute e f pos) (ZC K ta f):=by have he:=he.h;exact⟨hK▸ZF he hb⟩
theorem Bp{op:CmpOp}{r:R2}(ho:jz X (compareOp op) r)(ha:bE X a ta)(hb:bE X b tb)(hm:behindInMarks op b=false):bE X (.Compare a [op] [b] pos) (Gp r ta tb):=by have ha:=ha.h;have hb:=hb.h;constructor;intro pins s σ H Q I h;exact wpAny_Compare1 (UI ha hb I h λv u s2 x y H2 I2 rx ry q=>ho pins s2 σ H2 x y v u Q I2 rx ry q) hm
theorem bK{j k:Nat}{x:Str}{ps:List Str}{sp:Sp}{e:Expr}{es:List Expr}{t:TA}{p pos:Pos}(D:Dn X.prog X.w X.K X.mg X.base j x ps sp)(hr:fm k X.A)(ha:bA X (e::es) t)(hj:j<=k:=by decide)(hg:Gl X x:=by rfl)(hdb:(x==("__debug__":Str))=false:=by decide)(he:starEach (e::es) X.env=(false,eval e X.env)::starEach es X.env:=by rfl)(hpl:(backTo pos (starEach es X.env)).any (·.1)=false:=by rfl):bE X (.Call (.Name x p) (e::es) [] pos) (Wx sp [] E0 t):=by have ha:=ha.h;constructor;obtain⟨f,fd,F,b,kp,m⟩:=D.ex;exact XM F (hr.mono hj) hg m kp b .nil (λ_ _ _ _ _ _ _ h=>h.elim) ha hdb he hpl
theorem sZ{rest:List Expr}(ha:bT X a tA)(hb:bW X (.BoolOp .And (b::rest) pos) Wr):bW X (.BoolOp .And (a::b::rest) pos) (agv tA Wr):=by
 have ha:=ha.h;have hb:=hb.h;constructor;intro wh pins s σ H Q I h;refine isTrue_and (bh (ha pins s σ H _ I h) λc s1 ⟨H1,I1,q1⟩=>?_);cases c with
 | true=>exact hb wh pins s1 σ H1 Q I1 q1
 | false=>exact⟨H1,I1,q1⟩
section
variable {P:Program}{w:World}{K:Fg}{mg:SO}{base:Heap}{f C:Addr}{fd:FuncData}{N ps:List Str}{k:Nat}{sp:Sp}{x m qual:Str}{st:Stmt}
theorem dX{N P:List Str}{sc:Scope}(a:sc.kind =.function:=by rfl)(b:sc.isCoroutine=false:=by rfl)(c:sc.isGenerator=false:=by rfl)(d:N.Nodup:=by decide +kernel)(e:N.take P.length=P:=by rfl)(f:∀x∈P,sc.names.lookup x=some .local\/sc.names.lookup x=some .cell:=by decide +kernel)(g:∀y∈sc.names,y.2 ≠ .free:=by decide +kernel):aS N P sc:=⟨a,b,c,d,e,f,g⟩
theorem At.oA(F:At K mg x st f fd)(S:aS N ps (aF st))(hbody:∀(cdv:Value) (A:Around) (outer:List Env) (s:Shared) (H:Hp) (vs:List V) (Q:VK) (E:XK),fm k (A.deeper (envOfC x (aF st) s.heap.objs.size f cdv))->sp vs H Q E->
    ∃t,wF (tP uW P w K mg base N x (aF st) f cdv A outer s H E).BA (dR st) t/\t { nx:=λ_ H'=>Q .cW H',rt:=Q } (start N vs) H)(len:∀vs H Q E,sp vs H Q E->vs.length=ps.length:=by intro vs H Q E h;first|(cases h.ex;subst_vars;rfl)|(have h:=h.ex;(repeat first|(obtain⟨rfl,_⟩:=h;rfl)|(obtain⟨_,h⟩:=h));done)|(repeat first|(obtain⟨rfl,_⟩:=h;rfl)|(obtain⟨_,h⟩:=h)))(h:∀(kV doc pm:Value) (an:Option Addr) (cdv ct:Value) (us:List Value),us.length=ps.length->bindArgs (PySem.W.fnOf x x (fZ st) (dR st) (aF st) .none kV doc pm an cdv ct) ⟨us,[]⟩=pure (ps.zip us):=by intro _ _ _ _ _ _ us hl;repeat' (first|rfl|(simp at hl;done)|(rcases us with _|⟨_,us⟩))):Dn P w K mg base (k+1) x ps sp:=F.ok S len hbody h
theorem iG.oA(F:iG K C m qual st f fd)(S:aS N ps (aF st))(hbody:∀(cdv:Value) (A:Around) (outer:List Env) (s:Shared) (H:Hp) (vs:List V) (Q:VK) (E:XK),fm k (A.deeper (envOfC qual (aF st) s.heap.objs.size f cdv))->sp vs H Q E->
    ∃t,wF (tP uW P w K mg base N qual (aF st) f cdv A outer s H E).BA (dR st) t/\t { nx:=λ_ H'=>Q .cW H',rt:=Q } (start N vs) H)(len:∀vs H Q E,sp vs H Q E->vs.length=ps.length:=by intro vs H Q E h;first|(cases h.ex;subst_vars;rfl)|(have h:=h.ex;(repeat first|(obtain⟨rfl,_⟩:=h;rfl)|(obtain⟨_,h⟩:=h));done)|(repeat first|(obtain⟨rfl,_⟩:=h;rfl)|(obtain⟨_,h⟩:=h)))(h:∀(kV doc pm:Value) (an:Option Addr) (cdv ct:Value) (us:List Value),us.length=ps.length->bindArgs (PySem.W.fnOf m qual (fZ st) (dR st) (aF st) .none kV doc pm an cdv ct) ⟨us,[]⟩=pure (ps.zip us):=by intro _ _ _ _ _ _ us hl;repeat' (first|rfl|(simp at hl;done)|(rcases us with _|⟨_,us⟩))):Mn P w K mg base (k+1) C m ps sp:=F.ok S len hbody h
theorem GJ.oA(F:GJ K mg x C qual st f fd)(S:aS N ps (aF st))(hbody:∀(cdv:Value) (A:Around) (outer:List Env) (s:Shared) (H:Hp) (vs:List V) (Q:VK) (E:XK),fm k (A.deeper (envOfC qual (aF st) s.heap.objs.size f cdv))->sp vs H Q E->
    ∃t,wF (tP uW P w K mg base N qual (aF st) f cdv A outer s H E).BA (dR st) t/\t { nx:=λ_ H'=>Q .cW H',rt:=Q } (start N vs) H)(len:∀vs H Q E,sp vs H Q E->vs.length=ps.length:=by intro vs H Q E h;first|(cases h.ex;subst_vars;rfl)|(have h:=h.ex;(repeat first|(obtain⟨rfl,_⟩:=h;rfl)|(obtain⟨_,h⟩:=h));done)|(repeat first|(obtain⟨rfl,_⟩:=h;rfl)|(obtain⟨_,h⟩:=h)))(h:∀(kV doc pm:Value) (an:Option Addr) (cdv ct:Value) (us:List Value),us.length=ps.length->bindArgs (PySem.W.fnOf "__init__" qual (fZ st) (dR st) (aF st) .none kV doc pm an cdv ct) ⟨us,[]⟩=pure (ps.zip us):=by intro _ _ _ _ _ _ us hl;repeat' (first|rfl|(simp at hl;done)|(rcases us with _|⟨_,us⟩))):Cn P w K mg base (k+1) x C ps sp:=F.ok S len hbody h
end
inductive adH(e:Ec)(vs:List V)(H:Hp)(Q:VK)(E:XK):Prop
 |mk(a:Int)(_:vs=[.int a])(_:(a<1->Rf e E H 5))(_:(1<=a->Q .cW H))
def AD(e:Ec):Sp:=bx (adH e)
inductive adI(e:Ec)(vs:List V)(H:Hp)(Q:VK)(E:XK):Prop
 |mk(m a:Int)(_:vs=[.int m,.int a])(_:(a<1->Rf e E H 5))(_:(1<=a->m<a->Rf e E H 6))(_:(1<=a->a<=m->Q .cW H))
def K6(e:Ec):Sp:=bx (adI e)
inductive Vq(T:TC)(e:Ec)(vs:List V)(H:Hp)(Q:VK)(E:XK):Prop
 |mk(n ρ A st x a:_)(_:vs=[.ref A.a,.str x,.int a])(_:HH T n ρ A H st)(_:G_ T e n ρ A H (iW st (x,a)) (cT st (x,a)) Q E)
def Hg(T:TC)(e:Ec):Sp:=bx (Vq T e)
inductive aaR(T:TC)(e:Ec)(vs:List V)(H:Hp)(Q:VK)(E:XK):Prop
 |mk(n ρ A st x a:_)(_:vs=[.ref A.a,.str x,.int a])(_:HH T n ρ A H st)(_:G_ T e n ρ A H (kX st x a:_) (Jw st x a:_) Q E)
def O4(T:TC)(e:Ec):Sp:=bx (aaR T e)
theorem Dn.imp{P:Program}{w:World}{K:Fg}{mg:SO}{base:Heap}{k:Nat}{x:Str}{ps:List Str}{sp RV:Sp}(D:Dn P w K mg base k x ps sp)(h:∀vs H Q E,RV vs H Q E->sp vs H Q E):Dn P w K mg base k x ps RV:=by obtain⟨f,fd,F,b,kp,m⟩:=D.ex;exact⟨f,fd,F.imp h,b,kp,m⟩
theorem jy{st:HS}{x:Str}(h:x∈d_ st):∃(i:Nat)(p:Pt),st.aj[i]?=some p/\p.nm=x:=by obtain⟨p,hp,e⟩:=a_.mp h;obtain⟨i,hi,ei⟩:=yp hp;exact⟨i,p,by rw[bM hi,ei],e⟩
theorem Bq{st:HS}{i:Nat}{p:Pt}(h:st.aj[i]?=some p):p.nm∈d_ st:=a_.mpr ⟨p,cu h,Z⟩
theorem DP{α:Type}{nm:α->Str}{f:α->α}:∀{l:List α}{i:Nat}{p:α},(l.map nm).Nodup->l[i]?=some p->(l.map λq=>if nm q=nm p then f q else q)=l.set i (f p)
 | [],_,_,_,h=>by simp at h
 | a::l,0,p,nd,h=>by
  have e:a=p:=by simpa using h
  subst e;obtain⟨h1,_⟩:=fX.mp (show(nm a::l.map nm).Nodup from nd);rw[bz,aC rfl,Qn];congr 1;refine(oN (g:=id) (λq hq=>aB λz=>h1 (a_.mpr ⟨q,hq,z⟩))).trans (List.map_id l)
 | a::l,i+1,p,nd,h=>by
  obtain⟨h1,h2⟩:=fX.mp (show(nm a::l.map nm).Nodup from nd);have h':l[i]?=some p:=by simpa using h
  rw[bz,aB (λz=>h1 (a_.mpr ⟨p,cu h',z.symm⟩)),JH,DP h2 h']
theorem rm{st:HS}(nd:(st.aj.map (·.nm)).Nodup){i:Nat}{p:Pt}(h:st.aj[i]?=some p)(f:Pt->Pt):kj st p.nm f={ st with aj:=st.aj.set i (f p) }:=by unfold kj;rw[DP (nm:=λp:Pt=>p.nm) nd h]
theorem AE{st:HS}(wf:Wf st){x:Str}{f:Pt->Pt}(h:∀p∈st.aj,p.nm=x->(f p).nm=p.nm/\(f p).ow=p.ow/\(f p).sc=p.sc/\(f p).row=p.row/\1<=(f p).wo/\0<=(f p).we):Wf (kj st x f):=by
 have P:∀{M:Pt->Prop},(∀p∈st.aj,p.nm=x->M (f p))->(∀p∈st.aj,M p)->∀p∈(kj st x f).aj,M p:=λa c p hp=>by
  obtain⟨q,hq,rfl⟩:=a_.mp (show p∈st.aj.map _ from hp);by_cases e:q.nm=x
  .rw [aC e];exact a q hq e
  .rw [aB e];exact c q hq
 have en:(kj st x f).aj.map (λp:Pt=>p.nm)=st.aj.map (λp:Pt=>p.nm):=by
  show(st.aj.map _).map _=_;rw[gj];refine oN λp hp=>?_;show(if p.nm=x then f p else p).nm=p.nm;by_cases e:p.nm=x
  .rw [aC e];exact(h p hp e).1
  .rw [aB e]
 refine⟨wf.oR,wf.yI,?_,P (λp hp e=>?_) wf.sub,P (λp hp e=>?_) wf.rows,P (λp hp e=>?_) wf.ow,wf.gC,wf.mG,wf.eE,wf.pW,wf.u0,wf.kh,wf.yJ,?_,wf.Ah,wf.u6,wf.GN,wf.big,wf.oS,P (λp hp e=>?_) wf.sU,P (λp hp e=>?_) wf.oU,P (λp hp e=>?_) wf.pX,P (λp hp e=>?_) wf.jI,wf.ES⟩
 .show ((kj st x f).aj.map (λp:Pt=>p.nm)).Nodup;rw[en];exact wf.dN
 .show (f p).nm∈st.nms;rw[(h p hp e).1];exact wf.sub p hp
 .rw [(h p hp e).2.2.2.1];exact wf.rows p hp
 .show (f p).ow∈st.own;rw[(h p hp e).2.1];exact wf.ow p hp
 .show (st.aj.map _).length<=1000;rw[aH];exact wf.mH
 .rw [(h p hp e).2.2.1];exact wf.sU p hp
 .rw [(h p hp e).2.2.2.1];exact wf.oU p hp
 .rw [(h p hp e).2.2.2.1,(h p hp e).2.2.1];exact wf.pX p hp
 .exact (h p hp e).2.2.2.2
theorem AF{st:HS}{x:Str}{a:Int}(h:kX st x a=none):x∈d_ st/\1<=a:=by
 unfold kX at h;by_cases hm:x∈d_ st
 .rw [aC hm]at h;by_cases c:a<1
  .rw [aC c]at h;cases h
  .exact ⟨hm,by omega⟩
 .rw [aB hm]at h;cases h
structure E4(st:HS):Prop where
 big:Jm.Sz 60 (aE st)
 prod:Jm.Sz 7900 st.prod
 bF:∀u∈st.bF,Jm.Sz 8900 u
 stp:st.stp.length<100
def jX(st:HS)(o:Str)(a:Int):List Int:=(List.replicate st.own.length 0).set (st.own.idxOf o) (a*st.prod)
inductive YI(T:TC)(e:Ec)(vs:List V)(H:Hp)(Q:VK)(E:XK):Prop
 |mk(n ρ A st o a:_)(_:vs=[.ref A.a,.str o,.int a])(_:HH T n ρ A H st)(_:E4 st)(_:G_ T e n ρ A H (jQ st o a:_) (qb st o a:_) Q E)
def K7(T:TC)(e:Ec):Sp:=bx (YI T e)
theorem yT{st:HS}{o:Str}{a:Int}(h:jQ st o a=none):o∈st.own/\1<=a/\a<aE st:=by
 unfold jQ at h;split at h
 .split at h
  .cases h
  .split at h
   .cases h
   .exact ⟨by assumption,by omega,by omega⟩
 .cases h
theorem Vr{st:HS}{o:Str}{a m:Int}(h:m∈jX st o a):m=0\/m=a*st.prod:=by
 rcases PZ h with z|z
 .exact .inl (List.eq_of_mem_replicate z)
 .exact .inr z
theorem Vs(st:HS)(o:Str)(a:Int):(jX st o a).length=st.own.length:=by unfold jX;rw[iw,jV]
theorem E4.blend{st:HS}{o:Str}{a:Int}(w:E4 st)(wf:Wf st)(h1:1<=a)(h2:a<aE st):jD st (aE st-a) (aE st) a (jX st o a):=by have p1:=wf.eE;refine⟨by omega,by omega,by omega,by rw[Vs,wf.gC],λm hm=>?_,w.prod,w.big,w.bF,w.stp⟩;have:0<=a*st.prod:=rQ (by omega) (by omega);rcases Vr hm with z|z <;> omega
theorem mO{l:List Int}{i j:Nat}{x:Int}(h:i<l.length):(l.set i x).getD j 0=if i=j then x else l.getD j 0:=by
 rw[lu,List.getElem?_set];by_cases e:i=j
 .subst e;rw[aC rfl,aC rfl,aC h];rfl
 .rw [aB e,aB e,lu]
theorem Co(n j:Nat):(List.replicate n (0:Int)).getD j 0=0:=by rw[lu,Qd];split <;> rfl
inductive YJ(T:TC)(e:Ec)(vs:List V)(H:Hp)(Q:VK)(E:XK):Prop
 |mk(n ρ A st x y a we:_)(_:vs=[.ref A.a,.str x,.str y,.int a,.int we])(_:HH T n ρ A H st)(_:y.cps.toList.length<=100000)(_:st.nms.length<1000)(_:st.aj.length<1000)(_:G_ T e n ρ A H (iJ st x y a we:_) (lC st x y a we:_) Q E)
def K8(T:TC)(e:Ec):Sp:=bx (YJ T e)
theorem gU{H:Hp}{a b:Addr}{o:HO}(h:upd H a o b=none):H b=none:=by
 by_cases z:b=a
 .rw [z,ai]at h;cases h
 .rw [ay z]at h;exact h
theorem Vt{st:HS}{y:Str}(h:newR st y=none):isNm y=true/\y∉st.nms:=by
 unfold newR at h;split at h
 .split at h
  .cases h
  .exact ⟨by assumption,by assumption⟩
 .cases h
theorem kZ{st:HS}{x y:Str}{a we:Int}(h:iJ st x y a we=none):x∈d_ st/\(isNm y=true/\y∉st.nms)/\1<=a/\0<=we/\a<(bH st x).wo/\we<=(bH st x).we:=by
 unfold iJ at h;split at h
 .cases hf:newR st y with
  | some j=>rw[hf]at h;cases h
  | none=>
   rw[hf]at h;have h':(if a<1\/we<0 then some 5 else if(bH st x).wo<=a\/(bH st x).we<we then some 6 else none)=none:=h;split at h'
   .cases h'
   .split at h'
    .cases h'
    .exact ⟨by assumption,Vt hf,by omega,by omega,by omega,by omega⟩
 .cases h
theorem K9{st:HS}{x y:Str}{a we:Int}(wf:Wf st)(h:iJ st x y a we=none)(h2:st.nms.length<1000)(h3:st.aj.length<1000):Wf (lC st x y a we):=by
 obtain⟨hx,⟨_,hy⟩,h4,h5,h6,h7⟩:=kZ h;obtain⟨i,p0,ei,e0⟩:=jy hx;have hp:=cu ei;have eg:=bQ wf hp e0;have w1:Wf (kj st x λp=>{ p with wo:=p.wo-a,we:=p.we-we }):=AE wf λp dO e=>by rw[uL wf dO hp (e.trans e0.symm)];rw[eg]at h6 h7;exact⟨Z,Z,Z,Z,by show 1<=p0.wo-a;omega,by show 0<=p0.we-we;omega⟩
 unfold lC;rw[eg];exact OU w1 hy h2 (by show(st.aj.map _).length<1000;rw[aH];exact h3) (wf.rows p0 hp) (wf.ow p0 hp) (wf.sU p0 hp) (wf.oU p0 hp) (wf.pX p0 hp) ⟨h4,h5⟩
inductive aaS(T:TC)(e:Ec)(vs:List V)(H:Hp)(Q:VK)(E:XK):Prop
 |mk(n ρ A st x o:_)(_:vs=[.ref A.a,.str x,.str o])(_:HH T n ρ A H st)(_:∀p∈st.aj,(aK st p).sum=st.prod)(_:G_ T e n ρ A H (jx st x o:_) (fj st x o:_) Q E)
def O5(T:TC)(e:Ec):Sp:=bx (aaS T e)
theorem wW{st:HS}{x o:Str}(h:jx st x o=none):x∈d_ st/\o∈st.own:=by
 unfold jx at h;split at h
 .split at h
  .exact ⟨by assumption,by assumption⟩
  .cases h
 .cases h
theorem Td:∀{l:List Int},(∀t∈l,0<=t)->0<=l.sum/\∀t∈l,t<=l.sum
 | [],_=>⟨kQ _,λt h=>by cases h⟩
 | a::l,h=>by
  obtain⟨h1,h2⟩:=Td (l:=l) λt ht=>h t (cA _ ht);have h0:=h a cU;refine⟨by show 0<=a+l.sum;omega,λt ht=>?_⟩;show t<=a+l.sum;rcases cK.mp ht with rfl|ht
  .omega
  .have:=h2 t ht;omega
theorem WT{l:List Int}{i:Nat}{v:Int}(h:∀t∈l,0<=t)(hv:0<=v):∀t∈l.set i v,0<=t:=λt ht=>by
 rcases PZ ht with z|z
 .exact h t z
 .rw [z];exact hv
theorem K_{l:List Int}(h:∀t∈l,0<=t)(i:Nat):0<=l.getD i 0:=by
 rw[lu];cases e:l[i]? with
 | none=>exact kQ _
 | some v=>exact h v (cu e)
def Hh(l:List Int)(i j:Nat):List Int:=(l.set j (l.getD j 0+l.getD i 0)).set i 0
theorem E5(l:List Int)(i j:Nat):(Hh l i j).length=l.length:=by unfold Hh;rw[iw,iw]
theorem YK{l:List Int}{i j:Nat}(hi:i<l.length)(hj:j<l.length)(ne:i≠j):(Hh l i j).sum=l.sum:=by unfold Hh;rw[sum_set _ _ _ (by rw[iw];exact hi),sum_set _ _ _ hj,U9 _ _ _ _ hj,aB ne];omega
theorem YL{l:List Int}{i j:Nat}(h:∀t∈l,0<=t):∀t∈Hh l i j,0<=t:=WT (WT h (Int.add_nonneg (K_ h _) (K_ h _))) (kQ _)
theorem Cp{st:HS}{tops:List Int}(h:tops.length=st.bD.length):List.zipWith (λr c=>(1:Int)*r+c) (lU st tops) st.bD=tops:=by
 unfold lU;generalize st.bD=cs at h
 induction tops generalizing cs with
 | nil=>rfl
 | cons t ts ih=>
  cases cs with
  | nil=>cases h
  | cons c cs=>have:=ih cs (Nat.succ.inj h);show(1*(t-c)+c)::_=t::ts;rw[this];congr 1;omega
theorem wX{st:HS}(wf:Wf st){p:Pt}(hp:p∈st.aj):(aK st p).length=st.own.length:=by unfold aK;rw[lR,wf.rows p hp,wf.gC,yv]
def nh(st:HS)(o:Str)(p:Pt):Pt:={ p with ow:=o,sc:=1,row:=lU st (ng st p o) }
theorem rA(st:HS)(p:Pt)(o:Str):ng st p o=Hh (aK st p) (st.own.idxOf p.ow) (st.own.idxOf o):=rfl
theorem wY{st:HS}(wf:Wf st){p:Pt}(hp:p∈st.aj)(o:Str):aK st (nh st o p)=ng st p o:=by
 have:(ng st p o).length=st.bD.length:=by rw[rA,E5,wX wf hp,wf.gC]
 exact Cp this
theorem La{st:HS}(wf:Wf st){p:Pt}(hp:p∈st.aj){o:Str}(ho:o∈st.own)(ne:st.own.idxOf o≠st.own.idxOf p.ow)(hs:(aK st p).sum=st.prod):(∀t∈ng st p o,0<=t/\t<=st.prod)/\(ng st p o).sum=st.prod:=by
 have hl:=wX wf hp;have h1:st.own.idxOf p.ow<(aK st p).length:=by rw[hl];exact v7 (wf.ow p hp)
 have h2:st.own.idxOf o<(aK st p).length:=by rw[hl];exact v7 ho
 have hp0:=YL (i:=st.own.idxOf p.ow) (j:=st.own.idxOf o) λt ht=>(wf.pX p hp t ht).1;have hsum:=(YK h1 h2 (bX ne)).trans hs;rw[rA];exact⟨λt ht=>⟨hp0 t ht,by rw[<-hsum];exact(Td hp0).2 t ht⟩,hsum⟩
theorem O6{st:HS}{x o:Str}(wf:Wf st)(h:jx st x o=none)(hs:∀p∈st.aj,(aK st p).sum=st.prod):Wf (fj st x o):=by
 obtain⟨hx,ho⟩:=wW h;obtain⟨i,p0,ei,e0⟩:=jy hx;have hp:=cu ei;have eg:=bQ wf hp e0;unfold fj;by_cases ne:st.own.idxOf o=st.own.idxOf (bH st x).ow
 .rw [aC ne];exact wf
 rw[aB ne];rw[eg]at ne;obtain⟨ft,_⟩:=La wf hp ho ne (hs p0 hp);have uq:∀p∈st.aj,p.nm=x->p=p0:=λp dO e=>uL wf dO hp (e.trans e0.symm);have P:∀{M:Pt->Prop},M (nh st o p0)->(∀p∈st.aj,M p)->∀p∈(kj st x (nh st o)).aj,M p:=λa c p dO=>by
  obtain⟨q,hq,rfl⟩:=a_.mp (show p∈st.aj.map _ from dO);by_cases e:q.nm=x
  .rw [aC e,uq q hq e];exact a
  .rw [aB e];exact c q hq
 have hl:(ng st p0 o).length=st.own.length:=by rw[rA,E5,wX wf hp]
 have en:(kj st x (nh st o)).aj.map (λp:Pt=>p.nm)=st.aj.map λp:Pt=>p.nm:=by
  show(st.aj.map _).map _=_;rw[gj];refine oN λp _=>?_;show(if p.nm=x then nh st o p else p).nm=p.nm;by_cases e:p.nm=x
  .rw [aC e];rfl
  .rw [aB e]
 have p1:=wf.eE;refine⟨wf.oR,wf.yI,?_,P (wf.sub p0 hp) wf.sub,P ?_ wf.rows,P ho wf.ow,wf.gC,wf.mG,wf.eE,wf.pW,wf.u0,wf.kh,wf.yJ,?_,wf.Ah,wf.u6,wf.GN,wf.big,wf.oS,P ⟨kQ _,p1⟩ wf.sU,P ?_ wf.oU,P ?_ wf.pX,P (wf.jI p0 hp) wf.jI,wf.ES⟩
 .show ((kj st x (nh st o)).aj.map (λp:Pt=>p.nm)).Nodup;rw[en];exact wf.dN
 .show (lU st (ng st p0 o)).length=st.own.length;unfold lU;rw[lR,hl,wf.gC,yv]
 .show (st.aj.map _).length<=1000;rw[aH];exact wf.mH
 .intro r hr;obtain⟨t,ht,c,hc,rfl⟩:=u7 (show r∈List.zipWith (λt c=>t-c) (ng st p0 o) st.bD from hr);have a1:=ft t ht;have a2:=wf.oS c hc;exact⟨by show -st.prod<=t-c;omega,by show t-c<=st.prod;omega⟩
 .intro t ht;have:t∈ng st p0 o:=by rw[<-wY wf hp];exact ht
  exact ft t this
theorem O7:∀{l m:List Int}{a b:Int},l.length=m.length->(∀j,l.getD j 0*a=m.getD j 0*b)->l.sum*a=m.sum*b
 | [],[],_,_,_,_=>by show(0:Int)*_=0*_;rw[pP,pP]
 | x::l,y::m,a,b,e,h=>by have h0:x*a=y*b:=h 0;have:=O7 (l:=l) (m:=m) (Nat.succ.inj e) λj=>h (j+1);show(x+l.sum)*a=(y+m.sum)*b;rw[kR,kR,h0,this]
theorem Lb{q0 q1:Addr×Addr×Addr}:∀{ps:List Pt}{qs:List (Addr×Addr×Addr)}{i:Nat},qs[i]?=some q0->q1.1=q0.1->b8 ps (qs.set i q1)=b8 ps qs
 | [],_,_,_,_=>by simp[b8]
 | _::_,[],_,h,_=>by simp at h
 | p::ps,q::qs,0,h,e=>by
  have:q=q0:=by simpa using h
  subst this;show(_,V.ref q1.1)::_=(_,V.ref q.1)::_;rw[e]
 | p::ps,q::qs,i+1,h,e=>by have:=Lb (ps:=ps) (qs:=qs) (i:=i) (q1:=q1) (by simpa using h) e;show _::b8 ps (qs.set i q1)=_::b8 ps qs;rw[this]
theorem aL.Vu{T:TC}{n:Nat}{ρ:cg}{A:HA}{H:Hp}{st:HS}(h:aL T n ρ A H st)(g:Gh ρ H){i:Nat}{p0 p1:Pt}{q0:Addr×Addr×Addr}{r:Addr}(ep:st.aj[i]?=some p0)(eq:A.qs[i]?=some q0)(e1:p1.nm=p0.nm)(cr:ρ r=some (n,21,p0.nm))(hr:H r=some (.lst (p1.row.map V.int)))(nd:(st.aj.map (·.nm)).Nodup):aL T n ρ { A with qs:=A.qs.set i (q0.1,q0.2.1,r) } (upd H q0.1 (.ins T.part q0.2.1 (c9 p1 r))) { st with aj:=st.aj.set i p1 }:=by
 have c0:=(h.opt i p0 q0 ep eq).2.2.1;have k:=dP (o:=.ins T.part q0.2.1 (c9 p1 r)) g c0;have k2':=λ{b:Addr}{u:Nat}{y:Str}{w:HO}=>Ag (H:=H) (o:=.ins T.part q0.2.1 (c9 p1 r)) c0 (b:=b) (u:=u) (y:=y) (w:=w);obtain⟨vs,h1,h2⟩:=h.nt;obtain⟨kvs,k1,k2,k3⟩:=h.okn;refine⟨kz k h.ca h.oa,h.ca,kz k h.gE h.g_,h.gE,?_,h.fD,⟨vs,kz k h.gJ h1,h2.keep k (by decide)⟩,h.gJ,kz k h.gK h.nu,h.gK,kz k h.gM h.jc,h.gM,kz k h.gO h.iH,h.gO,kz k h.cpu h.jA,h.cpu,kz k h.gP h.lZ,h.gP,⟨kvs,kz k h.gQ k1,λp hp=>let⟨t,r,e,q⟩:=k2 p hp;⟨t,r,e,k.1 _ _ q⟩,k3⟩,h.gQ,?_,?_⟩
 .show _=some (HO.dK (b8 (st.aj.set i p1) (A.qs.set i (q0.1,q0.2.1,r))));rw[Lb (q1:=(q0.1,q0.2.1,r)) eq rfl,Bg ep e1];exact kz k h.fD h.dB
 .show (A.qs.set i _).length=(st.aj.set i _).length;rw[iw,iw];exact h.ql
 .intro j p q hp hq;have hi:=(dY.mp ep).1;have hi':=(dY.mp eq).1;by_cases e:i=j
  .subst e;rw[show({ st with aj:=st.aj.set i p1 }:HS).aj=st.aj.set i p1 from rfl,qM hi]at hp;rw[show({ A with qs:=A.qs.set i (q0.1,q0.2.1,r) }:HA).qs=A.qs.set i (q0.1,q0.2.1,r)from rfl,qM hi']at hq;cases hp;cases hq;exact⟨ai,k2' cr (.inl (by decide)) hr,by rw[e1];exact c0,by rw[e1];exact cr⟩
  .rw [show({ st with aj:=st.aj.set i p1 }:HS).aj=st.aj.set i p1 from rfl,zR e]at hp;rw[show({ A with qs:=A.qs.set i (q0.1,q0.2.1,r) }:HA).qs=A.qs.set i (q0.1,q0.2.1,r)from rfl,zR e]at hq;obtain⟨a1,a2,a3,a4⟩:=h.opt j p q hp hq;exact⟨k2' a3 (.inr λz=>e (DC nd ep hp z.symm)) a1,k2' a4 (.inl (by decide)) a2,a3,a4⟩
theorem Lc{X:Cx}:Zr X (QH X.K):=by
 intro pins s σ H x y v u Q I rx ry h;obtain⟨p,xs,i,z,rfl,rfl,hq,he,q⟩:=h;cases rx;obtain⟨t,rfl⟩:=ry;obtain⟨its,r,pl,hz⟩:=I.list hq;obtain⟨j,h1,h2,h3,h4,h5⟩:=Bc he;obtain⟨w,ew,rw'⟩:=r.get h2;have hl:=r.length;have hn:=uR;have fin:EP X pins σ Q w s:=⟨z,H,I,rw',q⟩
 by_cases h0:0<=i
 .have hj:i.toNat=j:=by rw[seqIndex_of h0 h5]at h1;exact fE h1
  exact wpAny_getItem_list pl.isList h0 (by omega) (by rw[hj];simpa using ew) fin
 .have hj:(i+(its.toArray.size:Int)).toNat=j:=by rw[seqIndex_neg (by omega) h4]at h1;rw[iE,<-hl];exact fE h1
  exact wpAny_getItem_list_neg pl.isList (by omega) (by rw[iE] <;> omega) (by omega) (by rw[hj];simpa using ew) fin
inductive Te(T:TC)(vs:List V)(H:Hp)(Q:VK)(E:XK):Prop
 |mk(n ρ A st:_)(i:Nat)(p:Pt)(_:vs=[.ref A.a,.str p.nm])(_:HH T n ρ A H st)(_:st.aj[i]?=some p)(_:st.kn+100<=1000000)(_:∀r ws H',HH T n ρ A H' { st with kn:=st.kn+100 }->Fr n ρ H ρ H'->H r=none->H' r=some (.lst ws)->ρ r=none->jm H' ws (gR st p:_)->Q (.ref r) H')
def yU(T:TC):Sp:=bx (Te T)
theorem Mn.imp{P:Program}{w:World}{K:Fg}{mg:SO}{base:Heap}{k:Nat}{C:Addr}{m:Str}{ps:List Str}{sp sp0:Sp}(D:Mn P w K mg base k C m ps sp)(h:∀vs H Q E,sp0 vs H Q E->sp vs H Q E):Mn P w K mg base k C m ps sp0:=by obtain⟨f,fd,F,r⟩:=D.ex;exact⟨f,fd,F.imp h,r⟩
structure Vv(st:HS):Prop where
 kn:st.kn+100<=1000000
 bN:st.bN.length<1000
 wo:∀p∈st.aj,Jm.Sz 60 p.wo
 prod:Jm.Sz 7900 st.prod
 bF:∀u∈st.bF,Jm.Sz 8900 u
inductive aaU(T:TC)(e:Ec)(vs:List V)(H:Hp)(Q:VK)(E:XK):Prop
 |mk(n ρ A st x:_)(_:vs=[.ref A.a,.str x])(_:HH T n ρ A H st)(_:Vv st)(_:G_ T e n ρ A H (qa st x:_) (rZ st x:_) Q E)
def O8(T:TC)(e:Ec):Sp:=bx (aaU T e)
theorem pI{st:HS}{x:Str}(h:qa st x=none):x∈d_ st:=by
 unfold qa at h;split at h
 .assumption
 .cases h
theorem Fr.adJ{n:Nat}{ρ:cg}{H H':Hp}(f:Fr n ρ H ρ H')(g:Gh ρ H'){b:Addr}(h:H' b=none):H b=none:=by
 cases e:H b with
 | none=>rfl
 | some o=>have:=(f b o e λt x z=>by rw[g.none h]at z;cases z).1;rw[h]at this;cases this
theorem vd:∀{l:List Pt}{i:Nat}{p:Pt},(l.map (·.nm)).Nodup->l[i]?=some p->l.filter (λq=>decide (q.nm≠p.nm))=l.eraseIdx i
 | [],_,_,_,h=>by simp at h
 | x::l,0,p,nd,h=>by
  obtain⟨h1,h2⟩:=fX.mp (show(x.nm::l.map (·.nm)).Nodup from nd);have e:x=p:=by simpa using h
  subst e;rw[e_,aB (by simp)];exact EE.mpr λy hy=>br λz=>h1 (a_.mpr ⟨y,hy,z⟩)
 | x::l,i+1,p,nd,h=>by
  obtain⟨h1,h2⟩:=fX.mp (show(x.nm::l.map (·.nm)).Nodup from nd);have h':l[i]?=some p:=by simpa using h
  rw[e_,aC (by simpa using λz:x.nm=p.nm=>h1 (a_.mpr ⟨p,cu h',z.symm⟩)),vd h2 h'];rfl
def lV(st:HS)(p:Pt):List Int:=(gv st p).set (st.own.idxOf p.ow) ((gv st p).getD (st.own.idxOf p.ow) 0-p.wo*st.prod)
theorem Vw{st:HS}(wf:Wf st){p:Pt}(hp:p∈st.aj){m:Nat}(h1:Jm.Sz 60 p.wo)(h2:Jm.Sz m st.prod)(h3:∀u∈st.bF,Jm.Sz (m+60) u):∀u∈gv st p,Jm.Sz (m+61) u:=λu hu=>by obtain⟨i,a,t,ea,et,rfl⟩:=wQ (show u∈List.zipWith (λu t=>u+p.wo*t) st.bF (aK st p)from hu);have ht:=wf.pX p hp t (cu et);have zt:Jm.Sz m t:=h2.of_le (by omega);exact(h3 a (cu ea)).jX ((h1.mul zt).mono (by omega))
theorem O9{st:HS}(wf:Wf st){p:Pt}(hp:p∈st.aj){m:Nat}(h1:Jm.Sz 60 p.wo)(h2:Jm.Sz m st.prod)(h3:∀u∈st.bF,Jm.Sz (m+60) u):∀u∈lV st p,Jm.Sz (m+62) u:=λu hu=>by
 have g:=Vw wf hp h1 h2 h3;rcases PZ (show u∈(gv st p).set _ _ from hu)with z|z
 .exact (g u z).mono (by omega)
 .rw [z];have z0:Jm.Sz (m+61) ((gv st p).getD (st.own.idxOf p.ow) 0):=by
   rw[lu];cases e:(gv st p)[st.own.idxOf p.ow]? with
   | none=>exact(by show Jm.Sz (m+61) 0;unfold Jm.Sz;exact Nat.pow_pos (by decide))
   | some y=>exact g y (cu e)
  have:=z0.jX (((h1.mul h2).mono (by omega:60+m<=m+61)).neg);rw[Int.sub_eq_add_neg];exact this
theorem s_{st:HS}(wf:Wf st){p:Pt}(hp:p∈st.aj):(gv st p).length=st.own.length:=by unfold gv;rw[lR,wX wf hp,wf.mG,yv]
theorem oX{st:HS}(wf:Wf st){p:Pt}(hp:p∈st.aj):rZ st p.nm={ st with aj:=st.aj.filter (λq=>decide (q.nm≠p.nm)),bN:=st.bN++[⟨p.nm,p.ow,p.wo,gR st p⟩],kn:=st.kn+100,bF:=lV st p }:=by unfold rZ lV;rw[bQ wf hp rfl]
theorem O_{st:HS}{x:Str}(wf:Wf st)(h:qa st x=none)(l:Vv st):Wf (rZ st x):=by
 obtain⟨i,p,e1,rfl⟩:=jy (pI h);have hp:=cu e1;rw[oX wf hp];have S:∀{M:Pt->Prop},(∀x∈st.aj,M x)->∀x∈st.aj.filter (λq=>decide (q.nm≠p.nm)),M x:=λh x hx=>h x (mZ.mp hx).1;have hf:=List.length_filter_le (λq:Pt=>decide (q.nm≠p.nm)) st.aj;refine⟨wf.oR,wf.yI,List.Nodup.sublist (List.Sublist.map _ List.filter_sublist) wf.dN,S wf.sub,S wf.rows,S wf.ow,wf.gC,?_,wf.eE,wf.pW,wf.u0,wf.kh,wf.yJ,?_,wf.Ah,?_,l.kn,wf.big,wf.oS,S wf.sU,S wf.oU,S wf.pX,S wf.jI,?_⟩
 .show (lV st p).length=_;unfold lV;rw[iw,s_ wf hp]
 .have:=wf.mH;show(List.filter _ _).length<=1000;omega
 .show (st.bN++[_]).length<=1000;rw[dD];exact l.bN
 .exact λu hu=>(O9 wf hp (m:=8840) (l.wo p hp) (l.prod.mono (by decide)) (λu hu=>(l.bF u hu).mono (by decide)) u hu).mono (by decide)
inductive Ld(c:Nat)(own:List Str)(sh:List (Str×Rat)):Prop
 |mk(Le:List Str)(tops:List Int)(b:Int)(_:Le <+:own)(_:Le.length=tops.length)(_:sh=jK Le tops b)(_:∀t∈tops,0<=t)(_:tops.sum=b)(_:1<=b)(_:Jm.Sz (64*c+1) b)
theorem Ld.mono{c c':Nat}{own own':List Str}{sh:List (Str×Rat)}(h:Ld c own sh)(hc:c<=c')(ho:own <+:own'):Ld c' own' sh:=by obtain⟨o0,ts,b,h1,h2,h3,h4,h5,h6,h7⟩:=h;exact⟨o0,ts,b,h1.trans ho,h2,h3,h4,h5,h6,h7.mono (by omega)⟩
structure Go(c:Nat)(st:HS):Prop where
 bF:∀u∈st.bF,Jm.Sz (64*c+61) u
 stp:st.stp.length<=c
 prod:Jm.Sz (64*c+1) st.prod
 wo:∀p∈st.aj,p.wo<=1000000000000*((c:Int)+1)
 we:∀p∈st.aj,p.we<=1000000000
 pl:st.aj.length<=c
 kl:st.nms.length<=c
 ol:0<st.own.length
 nk:∀x∈st.nms,isNm x=true
 on:∀o∈st.own,isNm o=true
 sum:∀p∈st.aj,(aK st p).sum=st.prod
 al:st.bN.length<=c
 bN:∀a∈st.bN,Ld c st.own a.sh
theorem Go.kn{c:Nat}{st:HS}(g:Go c st)(k:Nat):Go c { st with kn:=k }:=⟨g.bF,g.stp,g.prod,g.wo,g.we,g.pl,g.kl,g.ol,g.nk,g.on,g.sum,g.al,g.bN⟩
theorem Go.mono{c:Nat}{st:HS}(g:Go c st):Go (c+1) st:=⟨λu hu=>(g.bF u hu).mono (by omega),by have:=g.stp;omega,g.prod.mono (by omega),λp hp=>by have:=g.wo p hp;omega,g.we,by have:=g.pl;omega,by have:=g.kl;omega,g.ol,g.nk,g.on,g.sum,by have:=g.al;omega,λa ha=>(g.bN a ha).mono (by omega) (List.prefix_refl _)⟩
theorem Pa:∀{ps:List Pt}{m:Int},(∀p∈ps,1<=p.wo/\p.wo<=m)->0<=(ps.map (·.wo)).sum/\(ps.map (·.wo)).sum<=m*(ps.length:Int)
 | [],m,_=>by show 0<=(0:Int)/\(0:Int)<=m*0;omega
 | p::ps,m,h=>by have h0:=h p cU;have ih:=Pa (ps:=ps) (m:=m) λx hx=>h x (cA _ hx);rw[bz,c_,kM,show(((ps.length+1:Nat)):Int)=(ps.length:Int)+1 from by omega,wD,uD];omega
theorem Go.whole{c:Nat}{st:HS}(g:Go c st)(wf:Wf st)(hc:c<=91):0<=aE st/\Jm.Sz 60 (aE st):=by
 have h:=Pa (ps:=st.aj) (m:=92000000000000) λp hp=>⟨(wf.jI p hp).1,by have:=g.wo p hp;omega⟩
 have hl:=g.pl;have h2:(92000000000000:Int)*(st.aj.length:Int)<=92000000000000*91:=by omega
 have h3:aE st<=92000000000000*91:=Int.le_trans h.2 h2;have h1:0<=aE st:=h.1;exact⟨h1,(show Jm.Sz 60 (92000000000000*91:Int)from pT (by decide +kernel)).of_le (by omega)⟩
theorem Go.aw{c:Nat}{st:HS}(g:Go c st)(wf:Wf st)(hc:c<=91):E4 st:=⟨(g.whole wf hc).2,g.prod.mono (by omega),λu hu=>(g.bF u hu).mono (by omega),by have:=g.stp;omega⟩
theorem Go.sz{c:Nat}{st:HS}(g:Go c st)(wf:Wf st)(hc:c<=91):∀p∈st.aj,Jm.Sz 60 p.wo:=λp hp=>by have h:=g.wo p hp;have h1:=(wf.jI p hp).1;exact(show Jm.Sz 60 (92000000000000:Int)from pT (by decide +kernel)).of_le (by omega)
theorem Go.ld{c:Nat}{st:HS}(g:Go c st)(wf:Wf st)(hc:c<=91)(hk:st.kn+100<=1000000):Vv st:=⟨hk,by have:=g.al;omega,g.sz wf hc,g.prod.mono (by omega),λu hu=>(g.bF u hu).mono (by omega)⟩
theorem DQ{c:Nat}{st:HS}(g:Go c st){ps:List Pt}{ns:List Str}(h:∀p∈ps,(aK st p).sum=st.prod/\p.wo<=1000000000000*((c:Int)+2)/\p.we<=1000000000)(hl:ps.length<=c+1)(hn:ns.length<=c+1)(hk:∀x∈ns,isNm x=true):Go (c+1) { st with aj:=ps,nms:=ns }:=⟨g.mono.bF,g.mono.stp,g.mono.prod,λp hp=>by have:=(h p hp).2.1;omega,λp hp=>(h p hp).2.2,hl,hn,g.ol,hk,g.on,λp hp=>(h p hp).1,g.mono.al,g.mono.bN⟩
theorem Go.same{c:Nat}{st:HS}(g:Go c st){ps:List Pt}(h:∀p'∈ps,∃p∈st.aj,p'.row=p.row/\p'.sc=p.sc/\p'.wo<=p.wo+1000000000000/\p'.we<=p.we)(hl:ps.length<=c+1):Go (c+1) { st with aj:=ps }:=DQ g (ns:=st.nms) (λp' dO=>by obtain⟨p,hp,e1,e2,e3,e4⟩:=h p' dO;have w:=g.wo p hp;have v:=g.we p hp;exact⟨by have:=g.sum p hp;unfold aK at this ⊢;rw[e1,e2];exact this,by omega,by omega⟩) hl g.mono.kl g.nk
theorem Lf{c:Nat}{st st':HS}{kept lost:Int}{added:List Int}(g:Go c st)(wf:Wf st)(bl:jD st kept (aE st) lost added)(hs:added.sum=lost*st.prod)(hc:c<=90)(eC:st'={ aN st kept (aE st) added with aj:=st'.aj })(hp:∀p'∈st'.aj,∃p∈st.aj,p'.row=p.row/\p'.sc=p.sc*kept / cy st kept (aE st) added/\p'.wo<=p.wo/\p'.we=p.we)(hl:st'.aj.length<=st.aj.length):Go (c+1) st':=by
 have zw:=g.whole wf (by omega)
 obtain⟨hd,hsw,_,_⟩:=bl.dvds
 have w1:0<aE st:=by have:=bl.k;have:=bl.l;have:=bl.w;omega
 have s1:1<=aE st / cy st kept (aE st) added:=by have:=Int.le_of_dvd w1 hsw;exact Int.le_ediv_of_mul_le hd (by omega)
 have s2:aE st / cy st kept (aE st) added<=aE st:=Int.ediv_le_self _ (by omega)
 have zs:Jm.Sz 60 (aE st / cy st kept (aE st) added):=zw.2.of_le (by omega)
 have ep:st'.prod=(aN st kept (aE st) added).prod:=by rw[eC]
 have ec:st'.bD=(aN st kept (aE st) added).bD:=by rw[eC]
 have epr:st'.prod=st.prod*(aE st / cy st kept (aE st) added):=by rw[ep];unfold aN;rw[yM s1]
 have en:st'.nms=st.nms:=by rw[eC];show(aN st kept (aE st) added).nms=_;unfold aN;rw[mJ]
 have eo:st'.own=st.own:=by rw[eC];show(aN st kept (aE st) added).own=_;unfold aN;rw[kK]
 have ea:st'.bN=st.bN:=by rw[eC];show(aN st kept (aE st) added).bN=_;unfold aN;rw[kL]
 have p1:=wf.eE
 have gm:=g.mono
 refine⟨λu hu=>?_,?_,?_,λp' dO=>?_,λp' dO=>?_,by have:=g.pl;omega,by rw[en];exact gm.kl,by rw[eo];exact g.ol,by rw[en];exact g.nk,by rw[eo];exact g.on,λp' dO=>?_,by rw[ea];exact gm.al,by rw[ea,eo];exact gm.bN⟩
 . rw[eC]at hu
   have hu:u∈(aN st kept (aE st) added).bF:=hu
   unfold aN at hu
   rw[Aq]at hu
   obtain⟨x,hx,rfl⟩:=a_.mp hu
   exact((g.bF x hx).mul zs).mono (by omega)
 . rw[eC]
   show(aN st kept (aE st) added).stp.length<=c+1
   unfold aN fh
   split
   . show(st.stp++[_]).length<=c+1
     rw[dD];have:=g.stp;show st.stp.length+1<=c+1;omega
   . exact gm.stp
 . rw[epr];exact(g.prod.mul zs).mono (by omega)
 . obtain⟨p,h0,_,_,e3,_⟩:=hp p' dO
   have:=gm.wo p h0
   omega
 . obtain⟨p,h0,_,_,_,e4⟩:=hp p' dO
   rw[e4];exact g.we p h0
 . obtain⟨p,h0,e1,e2,_,_⟩:=hp p' dO
   have tl:=qV wf h0
   have tl':(aK st' p').length=st.bD.length:=by unfold aK;rw[lR,e1,wf.rows p h0,<-wf.gC,ec];unfold aN f7;rw[GS,aH,lR,bl.len];omega
   have r:=O7 (l:=List.zipWith (λt m=>t*kept+m) (aK st p) added) (m:=aK st' p') (a:=st'.prod) (b:=st.prod*aE st) (by rw[lR,tl,tl',bl.len];omega) λj=>by rw[oW (f:=λt m=>t*kept+m) (by show(0:Int)*_+0=0;omega) (by rw[tl,bl.len])];exact wU wf bl ec ep h0 e1 e2 (B:=st.prod) rfl rfl
   rw[OZ _ (by rw[tl,bl.len]),g.sum p h0,hs,pO lost,<-wD,<-bl.w,pO _ st'.prod]at r
   exact(Int.eq_of_mul_eq_mul_right (Int.ne_of_gt (wC (by omega) w1)) r).symm
theorem Hi:∀(rs:List Row)(s:HS),(∀r∈rs,1<=r.2)->∀p'∈(rs.foldl cT s).aj,∃p∈s.aj,∃w,p'={ p with wo:=w }/\w<=p.wo
 | [],s,_,p',h=>⟨p',h,p'.wo,Z,kQ _⟩
 | r::rs,s,h1,p',h=>by
  obtain⟨p,hp,w,e,le⟩:=Hi rs (cT s r) (λx hx=>h1 x (cA _ hx)) p' h;obtain⟨_,q,hq,e2⟩:=qW hp;have:=h1 r cU;split at e2
  .subst e2;have le:w<=q.wo-r.2:=le;exact⟨q,hq,w,e,by omega⟩
  .subst e2;exact⟨p,hq,w,e,le⟩
theorem Hj:∀(rs:List Row)(s:HS),(rs.foldl cT s).aj.length<=s.aj.length
 | [],s=>aO _
 | r::rs,s=>by have:=Hj rs (cT s r);have h:=uH (ps:=s.aj) (x:=r.1) (a:=r.2) |>.length_le;rw[aH,aH]at h;exact gh this h
theorem Cq(k:Int):∀{xs ts:List Int},xs.length=ts.length->(List.zipWith (λx t=>x+k*t) xs ts).sum=xs.sum+k*ts.sum
 | [],[],_=>by simp
 | x::xs,t::ts,h=>by rw[EC,c_,c_,c_,Cq k (by simpa using h),wD];omega
 | [],_::_,h=>by simp at h
 | _::_,[],h=>by simp at h
theorem Hl{st:HS}:∀(rs:List Row)(acc:List Int),(∀r∈rs,(aK st (bH st r.1)).length=acc.length/\(aK st (bH st r.1)).sum=st.prod)->(uG st acc rs).sum=acc.sum+aQ rs*st.prod
 | [],acc,_=>by show acc.sum=acc.sum+0*_;omega
 | r::rs,acc,h=>by
  obtain⟨h1,h2⟩:=h r cU;have e:(List.zipWith (λx t=>x+r.2*t) acc (aK st (bH st r.1))).length=acc.length:=by rw[lR,h1];omega
  show(uG st (List.zipWith (λx t=>x+r.2*t) acc (aK st (bH st r.1))) rs).sum=_;rw[Hl rs _ (λx hx=>by rw[e];exact h x (cA _ hx)),Cq _ h1.symm,h2,show aQ (r::rs)=r.2+aQ rs from by unfold aQ;rw[bz,c_],kR];omega
theorem j0{st:HS}{r:Row}(h:iW st r=none):r.1∈d_ st/\1<=r.2/\r.2<=(bH st r.1).wo:=by
 unfold iW at h;split at h
 .split at h
  .cases h
  .split at h
   .cases h
   .exact ⟨by assumption,by omega,by omega⟩
 .cases h
theorem tD{st:HS}{rs:List Row}(h:jP st rs=none):rs≠[]/\(rs.map λr:Row=>r.1).Nodup/\(∀r∈rs,iW st r=none)/\aQ rs<aE st:=by
 unfold jP at h;split at h
 .next c=>
  split at h
  .cases h
  .next e=>
   split at h
   .cases h
   .exact ⟨c.1,c.2,λr hr=>List.findSome?_eq_none_iff.mp e r hr,by omega⟩
 .cases h
theorem Go.tE{c:Nat}{st:HS}(g:Go c st)(wf:Wf st)(hc:c<=91){rs:List Row}(h:jP st rs=none):jM st rs:=by
 obtain⟨h1,h2,h3,h4⟩:=tD h;have aw:=g.aw wf hc;refine⟨h2,h1,?_,λr hr=>?_,h4,aw.big,aw.prod,aw.bF,aw.stp⟩
 .have:=uX h2 (m:=d_ st) (λx hx=>by obtain⟨r,hr,rfl⟩:=a_.mp hx;exact(j0 (h3 r hr)).1);rw[aH]at this;unfold d_ at this;rw[aH]at this;have:=g.pl;omega
 .obtain ⟨a1,a2,a3⟩:=j0 (h3 r hr);obtain⟨i,p,e1,e2⟩:=jy a1;have hp:=cu e1;rw[bQ wf hp e2]at a3;have:=g.sz wf hc p hp;exact⟨a2,this.of_le (by omega),p,hp,e2,a3⟩
def WU:Dd->Prop
 | .load _ _ wo we=>wo<=1000000000000/\we<=1000000000
 | .rise _ a=>a<=1000000000000
 | _=>True
theorem Ho(st:HS)(p q:Pt):aK (wN st p) q=aK st q:=rfl
theorem Pb{n i:Nat}{b:Int}(h:i<n):((List.replicate n (0:Int)).set i b).sum=b:=by
 have:=xB (l:=List.replicate n (0:Int)) (x:=b) (by rw[jV];exact h)
 rwa [Co,wu,KU,wu]at this
theorem YM{c:Nat}{st:HS}(g:Go c st)(wf:Wf st){x o:Str}{wo we:Int}(hx:isNm x=true)(ho:o∈st.own)(h1:wo<=1000000000000)(h2:we<=1000000000):Go (c+1) (Bh st x o wo we):=by
 refine DQ g (λp hp=>?_) (by rw[dD];have:=g.pl;show st.aj.length+1<=_;omega) (by rw[dD];have:=g.kl;show st.nms.length+1<=_;omega) (λy hy=>?_)
 .rcases fu.mp hp with z|z
  .have:=g.wo p z;exact⟨g.sum p z,by omega,g.we p z⟩
  .rw [eX.mp z];refine⟨?_,by show wo<=_;omega,h2⟩;unfold aK;show(List.zipWith (λr c=>(1:Int)*r+c) (lU st _) st.bD).sum=_;rw[Cp (by rw[iw,jV,wf.gC])];exact Pb (v7 ho)
 .rcases fu.mp hy with z|z
  .exact g.nk y z
  .rw [eX.mp z];exact hx
theorem YN{c:Nat}{st:HS}(g:Go c st)(wf:Wf st)(hc:c<=90){rs:List Row}(h:jP st rs=none):Go (c+1) (cV st rs):=by
 have ok:=g.tE wf (by omega) h;have h1:∀r∈rs,1<=r.2:=λr hr=>(ok.row r hr).1;refine Lf g wf (ok.blend wf) ?_ hc (jN rs _) (λp' dO=>?_) ?_
 .have ex:∀r∈rs,∃p∈st.aj,p.nm=r.1:=λr hr=>by obtain⟨p,hp,e,_⟩:=(ok.row r hr).2.2;exact⟨p,hp,e⟩
  rw[wR wf ex,Hl,KU,wu];intro r hr;obtain⟨p,hp,e⟩:=ex r hr;rw[bQ wf hp e,jV];exact⟨qV wf hp,g.sum p hp⟩
 .obtain ⟨p1,hp1,w,rfl,le⟩:=Hi rs _ h1 p' dO;unfold aN at hp1;rw[kJ]at hp1;obtain⟨p,hp,rfl⟩:=a_.mp hp1;exact⟨p,hp,Z,Z,le,Z⟩
 .refine gh (Hj rs _) ?_;unfold aN;rw[kJ,aH];exact aO _
theorem Vx{c:Nat}{st:HS}(g:Go c st)(wf:Wf st)(hc:c<=90){o:Str}{a:Int}(h:jQ st o a=none):Go (c+1) (qb st o a):=by
 obtain⟨ho,h1,h2⟩:=yT h;refine Lf g wf ((g.aw wf (by omega)).blend (o:=o) wf h1 h2) (Pb (v7 ho)) hc rfl (λp' dO=>?_) ?_
 .have dO:p'∈(aN st _ _ _).aj:=dO;unfold aN at dO;rw[kJ]at dO;obtain⟨p,hp,rfl⟩:=a_.mp dO;exact⟨p,hp,Z,Z,kQ _,Z⟩
 .show (aN st _ _ _).aj.length<=_;unfold aN;rw[kJ,aH];exact aO _
theorem Tf{st:HS}(wf:Wf st){c:Nat}(g:Go c st){p:Pt}(hp:p∈st.aj):Ld c st.own (gR st p):=⟨st.own,aK st p,st.prod,List.prefix_refl _,(wX wf hp).symm,Z,λt ht=>(wf.pX p hp t ht).1,g.sum p hp,wf.eE,g.prod⟩
theorem YO{c:Nat}{st:HS}(g:Go c st)(wf:Wf st)(hc:c<=91){x:Str}(h:qa st x=none):Go (c+1) (rZ st x):=by
 obtain⟨i,p,e1,rfl⟩:=jy (pI h);have hp:=cu e1;rw[oX wf hp];have S:∀{M:Pt->Prop},(∀x∈st.aj,M x)->∀x∈st.aj.filter (λq=>decide (q.nm≠p.nm)),M x:=λh x hx=>h x (mZ.mp hx).1;have hf:=List.length_filter_le (λq:Pt=>decide (q.nm≠p.nm)) st.aj;have gm:=g.mono;refine⟨λu hu=>?_,gm.stp,gm.prod,S gm.wo,S g.we,gh hf gm.pl,gm.kl,g.ol,g.nk,g.on,S g.sum,?_,λa ha=>?_⟩
 .exact (O9 wf hp (m:=64*c+1) (g.sz wf hc p hp) g.prod (λu hu=>(g.bF u hu).mono (by omega)) u hu).mono (by omega)
 .show (st.bN++[_]).length<=_;rw[dD];have:=g.al;show st.bN.length+1<=_;omega
 .rcases fu.mp (show a∈st.bN++[_]from ha)with z|z
  .exact gm.bN a z
  .rw [eX.mp z];exact(Tf wf g hp).mono (by omega) (List.prefix_refl _)
theorem YQ{c:Nat}{st:HS}(g:Go c st)(wf:Wf st){o:Str}(h:isNm o=true):Go (c+1) (h_ st o):=by
 have gm:=g.mono;have P:∀p∈(h_ st o).aj,∃p0∈st.aj,p={ p0 with row:=p0.row++[0] }:=λp hp=>by obtain⟨p0,h0,rfl⟩:=a_.mp (show p∈st.aj.map _ from hp);exact⟨p0,h0,Z⟩
 refine⟨λu hu=>?_,gm.stp,gm.prod,λp hp=>?_,λp hp=>?_,?_,gm.kl,?_,g.nk,λx hx=>?_,λp hp=>?_,gm.al,λa ha=>(gm.bN a ha).mono (aO _) (List.prefix_append _ _)⟩
 .rcases fu.mp (show u∈st.bF++[0]from hu)with z|z
  .exact gm.bF u z
  .rw [eX.mp z];exact(show Jm.Sz 1 (0:Int)from pT (by decide +kernel)).mono (by omega)
 .obtain ⟨p0,h0,rfl⟩:=P p hp;exact gm.wo p0 h0
 .obtain ⟨p0,h0,rfl⟩:=P p hp;exact g.we p0 h0
 .show (st.aj.map _).length<=_;rw[aH];exact gm.pl
 .show 0<(st.own++[o]).length;rw[dD];exact lS g.ol (rP _ _)
 .rcases fu.mp (show x∈st.own++[o]from hx)with z|z
  .exact g.on x z
  .rw [eX.mp z];exact h
 .obtain ⟨p0,h0,rfl⟩:=P p hp;show(List.zipWith (λr c=>p0.sc*r+c) (p0.row++[0]) (st.bD++[0])).sum=st.prod;rw[GO _ (by rw[wf.rows p0 h0,wf.gC]),AY,show(List.zipWith (λr c=>p0.sc*r+c) p0.row st.bD).sum=st.prod from g.sum p0 h0];simp
theorem yV{l:List Pt}{x:Str}{f:Pt->Pt}{p':Pt}(h:p'∈l.map λp=>if p.nm=x then f p else p):∃p∈l,(p.nm=x/\p'=f p)\/p'=p:=by
 obtain⟨p,hp,e⟩:=a_.mp h;by_cases c:p.nm=x
 .exact ⟨p,hp,.inl ⟨c,by rw[aC c]at e;exact e.symm⟩⟩
 .exact ⟨p,hp,.inr (by rw[aB c]at e;exact e.symm)⟩
theorem adK{c:Nat}{st:HS}(g:Go c st)(wf:Wf st)(hc:c<=90){d:Dd}(hr:jr st d=none)(db:WU d):Go (c+1) (iA st d):=by
 have hl:=g.pl;cases d with
 | sign o=>
  have:rY st o=none:=hr;unfold rY at this;split at this
  .exact YQ g wf (by assumption)
  .cases this
 | load x o wo we=>obtain⟨h1,_,h3,_,_⟩:=sY hr;exact YM g wf h1 h3 db.1 db.2
 | cast rs=>exact YN g wf hc hr
 | award o a=>exact Vx g wf hc hr
 | mishap x a=>
  obtain⟨_,h1,_⟩:=j0 (show iW st (x,a)=none from hr);have h1:1<=a:=h1;refine g.same (ps:=jL st.aj x a) (λp' dO=>?_) ?_
  .obtain ⟨_,p,hp,e⟩:=qW dO;split at e
   .exact ⟨p,hp,by rw[e],by rw[e],by rw[e];show p.wo-a<=_;omega,by rw[e];exact kQ _⟩
   .exact ⟨p,hp,by rw[e],by rw[e],by rw[e];omega,by rw[e];exact kQ _⟩
  .have h:=uH (ps:=st.aj) (x:=x) (a:=a) |>.length_le;rw[aH,aH]at h;omega
 | rise x a=>
  have ha:a<=1000000000000:=db;refine g.same (λp' dO=>?_) (by rw[aH];omega);obtain⟨p,hp,⟨_,e⟩|e⟩:=yV dO
  .exact ⟨p,hp,by rw[e],by rw[e],by rw[e];show p.wo+a<=_;omega,by rw[e];exact kQ _⟩
  .exact ⟨p,hp,by rw[e],by rw[e],by rw[e];omega,by rw[e];exact kQ _⟩
 | hand x o=>
  obtain⟨hx,ho⟩:=wW hr;show Go (c+1) (fj st x o);unfold fj;split
  .exact g.mono
  .next ne=>
   refine DQ g (ns:=st.nms) (λp' dO=>?_) (by rw[aH];omega) g.mono.kl g.nk;obtain⟨p,hp,⟨en,e⟩|e⟩:=yV dO
   .rw [bQ wf hp en]at ne;have:=g.wo p hp;refine⟨?_,by rw[e];show p.wo<=_;omega,by rw[e];exact g.we p hp⟩;rw[e,show aK st { p with ow:=o,sc:=1,row:=lU st (ng st p o) }=_ from wY wf hp o];exact(La wf hp ho ne (g.sum p hp)).2
   .rw [e];have:=g.wo p hp;exact⟨g.sum p hp,by omega,g.we p hp⟩
 | land x=>exact YO g wf (by omega) hr
 | sever x y a we=>
  obtain⟨hx,hy,h1,h2,h3,h4⟩:=kZ hr;obtain⟨i,p0,e1,en⟩:=jy hx;have hp0:=cu e1;have w0:=g.wo p0 hp0;have v0:=g.we p0 hp0;show Go (c+1) (lC st x y a we);unfold lC;rw[bQ wf hp0 en]at h3 h4 ⊢;refine DQ g (λp' dO=>?_) (by rw[dD];show(List.map _ st.aj).length+1<=_;rw[aH];omega) (by rw[dD];have:=g.kl;show st.nms.length+1<=_;omega) (λz hz=>?_)
  .rcases fu.mp dO with z|z
   .obtain ⟨p,hp,⟨_,e⟩|e⟩:=yV z
    .rw [e];have:=g.wo p hp;have:=g.we p hp;exact⟨g.sum p hp,by show p.wo-a<=_;omega,by show p.we-we<=_;omega⟩
    .rw [e];have:=g.wo p hp;exact⟨g.sum p hp,by omega,g.we p hp⟩
   .rw [eX.mp z];exact⟨g.sum p0 hp0,by show a<=_;omega,by show we<=_;omega⟩
  .rcases fu.mp hz with w|w
   .exact g.nk z w
   .rw [eX.mp w];exact hy.1
 | still=>exact g.mono
theorem adL{c:Nat}{st:HS}(g:Go c st)(wf:Wf st)(hc:c<=90)(hk:st.kn+100<=1000000)(ho:st.own.length<100){d:Dd}(hr:jr st d=none):Wf (iA st d):=by
 have hl:=g.pl;have hn:=g.kl;cases d with
 | sign o=>
  have:rY st o=none:=hr;unfold rY at this;split at this
  .split at this
   .cases this
   .exact EX wf (by assumption) ho
  .cases this
 | load x o wo we=>obtain⟨_,h2,h3,h4,h5⟩:=sY hr;exact OV wf h2 (by omega) (by omega) h3 h4 h5
 | cast rs=>exact Yy wf (g.tE wf (by omega) hr)
 | award o a=>obtain⟨h0,h1,h2⟩:=yT hr;exact u_ wf ((g.aw wf (by omega)).blend (o:=o) wf h1 h2)
 | mishap x a=>obtain⟨_,_,h1⟩:=j0 (show iW st (x,a)=none from hr);exact E1 wf λp hp e=>by rw[bQ wf hp e]at h1;exact h1
 | rise x a=>have h1:=(AF (show kX st x a=none from hr)).2;exact AE wf λq hq _=>⟨Z,Z,Z,Z,by have:=(wf.jI q hq).1;show 1<=q.wo+a;omega,(wf.jI q hq).2⟩
 | hand x o=>exact O6 wf hr g.sum
 | land x=>exact O_ wf hr (g.ld wf (by omega) hk)
 | sever x y a we=>exact K9 wf hr (by omega) (by omega)
 | still=>exact wf
theorem YR(st:HS)(s:Int):(fh st s).kn<=st.kn:=by
 unfold fh;split
 .exact fM _
 .exact aO _
theorem adM(st:HS)(d:Dd):(iA st d).kn<=st.kn+100:=by
 cases d with
 | cast rs=>exact gh (YB st rs) (rP _ _)
 | award o a=>exact gh (YR _ _) (rP _ _)
 | hand x o=>show(fj st x o).kn<=_;unfold fj;split <;> exact rP _ _
 | land x=>exact aO _
 | _=>exact rP _ _
def nC(a b:HS):Prop:=a={ b with kn:=a.kn }
theorem nC.refl(a:HS):nC a a:=rfl
theorem nC.set{a b:HS}(h:nC a b)(k:Nat):nC { a with kn:=k } b:=by rw[h];rfl
theorem nC.ref{a b:HS}(h:nC a b)(d:Dd):jr a d=jr b d:=by rw[h];cases d <;> rfl
theorem Vy{a b:HS}(h:nC a b)(s:Int):nC (fh a s) (fh b s):=by unfold fh;rw[h];split <;> rfl
theorem Lg:∀(rs:List Row){a b:HS},nC a b->nC (rs.foldl cT a) (rs.foldl cT b)
 | [],_,_,h=>h
 | r::rs,a,b,h=>by rw[j7,j7];exact Lg rs (by rw[h];rfl)
theorem Hq{a b:HS}(h:nC a b)(kept whole:Int)(added:List Int):nC (aN a kept whole added) (aN b kept whole added):=by generalize ek:a.kn=k at *;unfold nC at h;rw[ek]at h;subst h;unfold aN;refine Vy ?_ _;rfl
theorem nC.do{a b:HS}(h:nC a b)(d:Dd):nC (iA a d) (iA b d):=by
 generalize ek:a.kn=k at *;unfold nC at h;rw[ek]at h;subst h;cases d with
 | cast rs=>exact Lg rs (Hq (a:={ b with kn:=k }) rfl _ _ _)
 | award o a=>exact Hq (a:={ b with kn:=k }) rfl _ _ _
 | hand x o=>show nC (fj { b with kn:=k } x o) (fj b x o);unfold fj;show nC (if b.own.idxOf o=b.own.idxOf (bH b x).ow then _ else _) _;split <;> rfl
 | _=>rfl
structure LS where
 own:List Str
 aj:List Q4
 DR:List Str
structure LA where
 m:Addr
 lo:Addr
 lp:Addr
 lk:Addr
 qs:List Addr
def jS(B:LA):List (Key×V):=[(Sum.inr "owners",.ref B.lo),(Sum.inr "parts",.ref B.lp),(Sum.inr "known",.ref B.lk)]
def iZ(q:Q4):List V:=[.str q.1,.str q.2.1,.int q.2.2.1,.int q.2.2.2]
def nx:Str:=⟨#[]⟩
structure bY(n:Nat)(ρ:cg)(B:LA)(H:Hp)(l:LS):Prop where
 om:H B.m=some (.dK (jS B))
 cm:ρ B.m=some (n,40,nx)
 oo:H B.lo=some (.lst (l.own.map V.str))
 co:ρ B.lo=some (n,41,nx)
 op:H B.lp=some (.lst (B.qs.map V.ref))
 cp:ρ B.lp=some (n,42,nx)
 ok:H B.lk=some (.lst (l.DR.map V.str))
 ck:ρ B.lk=some (n,43,nx)
 nd:B.qs.Nodup
 ql:B.qs.length=l.aj.length
 pt:∀(i:Nat)(q:Q4)(a:Addr),l.aj[i]?=some q->B.qs[i]?=some a->H a=some (.lst (iZ q))/\ρ a=some (n,44,nx)
def ef(st:HS):LS:=⟨st.own,aV st,st.nms⟩
theorem bY.same{n:Nat}{ρ ρ':cg}{B:LA}{H H':Hp}{l:LS}(h:bY n ρ B H l)(k:Kp n ρ ρ' H H' λ_=>true):bY n ρ' B H' l:=by have z:=λ{b:Addr}{t:Nat}{x:Str}{o:HO}(c:ρ b=some (n,t,x))(e:H b=some o)=>k.2 b t x o rfl c e;exact⟨(z h.cm h.om).1,(z h.cm h.om).2,(z h.co h.oo).1,(z h.co h.oo).2,(z h.cp h.op).1,(z h.cp h.op).2,(z h.ck h.ok).1,(z h.ck h.ok).2,h.nd,h.ql,λi q a e1 e2=>let⟨x,y⟩:=h.pt i q a e1 e2;z y x⟩
theorem bY.mono{n:Nat}{ρ:cg}{B:LA}{H H':Hp}{l:LS}(h:bY n ρ B H l)(s:aR H H'):bY n ρ B H' l:=h.same (OP s)
theorem bY.other{n m:Nat}{ρ ρ':cg}{B:LA}{H H':Hp}{l:LS}(h:bY m ρ B H l)(f:Fr n ρ H ρ' H')(g:Gh ρ H)(e:m≠n):bY m ρ' B H' l:=h.same ⟨λb xs q=>(f b _ q λt x=>by rw[g.tup q];intro z;cases z).1,λb t x o _ c q=>by
 obtain⟨a,b'⟩:=f b o q λt' x'=>by rw[c];intro z;cases z;exact e rfl
 exact⟨a,b'.trans c⟩⟩
theorem bY.col{n t:Nat}{x:Str}{ρ:cg}{B:LA}{H:Hp}{l:LS}{a:Addr}(h:bY n ρ B H l)(c:ρ a=none):bY n (c8 ρ a (n,t,x)) B H l:=h.same ⟨λ_ _ e=>e,λb u y w _ hc he=>⟨he,by rw[bB (λz=>by rw[z,c]at hc;cases hc)];exact hc⟩⟩
theorem bY.find{n:Nat}{ρ:cg}{B:LA}{H:Hp}{l:LS}(h:bY n ρ B H l){i:Nat}{q:Q4}(e:l.aj[i]?=some q):∃a,B.qs[i]?=some a/\H a=some (.lst (iZ q))/\ρ a=some (n,44,nx):=by
 have hi:i<B.qs.length:=by rw[h.ql];exact(dY.mp e).1
 exact⟨B.qs[i],bM hi,h.pt i q _ e (bM hi)⟩
theorem bY.jn{n:Nat}{ρ:cg}{B:LA}{H:Hp}{l:LS}(h:bY n ρ B H l)(g:Gh ρ H){i:Nat}{a:Addr}(q1:Q4)(ea:B.qs[i]?=some a):bY n ρ B (upd H a (.lst (iZ q1))) { l with aj:=l.aj.set i q1 }:=by
 have hi:i<l.aj.length:=by rw[<-h.ql];exact(dY.mp ea).1
 obtain⟨x1,x2⟩:=h.pt i _ a (bM hi) ea;have k:=dP (o:=.lst (iZ q1)) g x2;refine⟨kz k h.cm h.om,h.cm,kz k h.co h.oo,h.co,kz k h.cp h.op,h.cp,kz k h.ck h.ok,h.ck,h.nd,by show _=(l.aj.set i q1).length;rw[iw];exact h.ql,λj q b e1 e2=>?_⟩;have e1:(l.aj.set i q1)[j]?=some q:=e1;by_cases hj:i=j
 .subst hj;rw[qM hi]at e1;rw[ea]at e2;cases e1;cases e2;exact⟨ai,x2⟩
 .rw [zR hj]at e1;obtain⟨y1,y2⟩:=h.pt j q b e1 e2;have hb:b≠a:=λe=>hj ((Qv (dY.mp ea).1 h.nd).mp (by rw[ea,e2,e]));exact⟨by rw[ay hb];exact y1,y2⟩
theorem bY.aaV{n:Nat}{ρ:cg}{B:LA}{H:Hp}{l:LS}(h:bY n ρ B H l)(g:Gh ρ H){lp:Addr}{qs:List Addr}{ps:List Q4}(e:H lp=some (.lst (qs.map V.ref)))(c:ρ lp=some (n,42,nx))(nd:qs.Nodup)(hl:qs.length=ps.length)(hp:∀(i:Nat) (q:Q4) (a:Addr),ps[i]?=some q->qs[i]?=some a->H a=some (.lst (iZ q))/\ρ a=some (n,44,nx)):bY n ρ { { B with lp:=lp }with qs:=qs } (upd H B.m (.dK (jS { B with lp:=lp }))) { l with aj:=ps }:=by
 have k:=dP (o:=.dK (jS { B with lp:=lp })) g h.cm
 exact⟨ai,h.cm,kz k h.co h.oo,h.co,kz k c e,c,kz k h.ck h.ok,h.ck,nd,hl,λi q a e1 e2=>let⟨x,y⟩:=hp i q a e1 e2;⟨kz k y x,y⟩⟩
theorem bY.Tg{n:Nat}{ρ:cg}{B:LA}{H:Hp}{l:LS}(h:bY n ρ B H l)(g:Gh ρ H){q:Q4}{a:Addr}(e:H a=some (.lst (iZ q)))(c:ρ a=some (n,44,nx))(hn:a∉B.qs):bY n ρ { B with qs:=B.qs++[a] } (upd H B.lp (.lst ((B.qs++[a]).map V.ref))) { l with aj:=l.aj++[q] }:=by
 have k:=dP (o:=.lst ((B.qs++[a]).map V.ref)) g h.cp;refine⟨kz k h.cm h.om,h.cm,kz k h.co h.oo,h.co,ai,h.cp,kz k h.ck h.ok,h.ck,pC h.nd hn,?_,λi x y ex ey=>?_⟩
 .show (B.qs++[a]).length=(l.aj++[q]).length;rw[dD,dD,h.ql];rfl
 .have ex:(l.aj++[q])[i]?=some x:=ex;have ey:(B.qs++[a])[i]?=some y:=ey;by_cases d:i<l.aj.length
  .rw [zN d]at ex;rw[zN (by rw[h.ql];exact d)]at ey;obtain⟨a1,a2⟩:=h.pt i x y ex ey;exact⟨kz k a2 a1,a2⟩
  .have hi:i=l.aj.length:=by have:=(dY.mp ex).1;rw[dD]at this;have:i<l.aj.length+1:=this;omega
   subst hi;rw[CQ (aO _),A1]at ex;rw[CQ (by rw[h.ql];exact aO _),h.ql,A1]at ey;cases ex;cases ey;exact⟨kz k c e,c⟩
theorem bY.Pc{n:Nat}{ρ:cg}{B:LA}{H:Hp}{l:LS}(h:bY n ρ B H l)(g:Gh ρ H)(ks:List Str):bY n ρ B (upd H B.lk (.lst (ks.map V.str))) { l with DR:=ks }:=by have k:=dP (o:=.lst (ks.map V.str)) g h.ck;exact⟨kz k h.cm h.om,h.cm,kz k h.co h.oo,h.co,kz k h.cp h.op,h.cp,ai,h.ck,h.nd,h.ql,λi q a e1 e2=>let⟨x,y⟩:=h.pt i q a e1 e2;⟨kz k y x,y⟩⟩
inductive QAt(K:Fg)(H:Hp)(m:Addr)(st:HS):Prop
 |mk(kvs:List (Key×V))(lo lp lk:Addr)(us:List V)(_:H m=some (.dK kvs))(_:dZ kvs (Sum.inr "owners")=some (.ref lo))(_:dZ kvs (Sum.inr "parts")=some (.ref lp))(_:dZ kvs (Sum.inr "known")=some (.ref lk))(_:aJ K H lo (st.own.map V.str))(_:aJ K H lp us)(_:u9 K H us st.aj)(_:aJ K H lk (st.nms.map V.str))
theorem yc{st:HS}{i:Nat}{p:Pt}(h:st.aj[i]?=some p):(aV st)[i]?=some (p.nm,p.ow,p.wo,p.we):=by unfold aV;rw[cN,h];rfl
theorem bY.rows{K:Fg}{n:Nat}{ρ:cg}{B:LA}{H:Hp}{st:HS}(h:bY n ρ B H (ef st)):u9 K H (B.qs.map V.ref) st.aj:=by refine⟨by rw[aH,h.ql];show(aV st).length=_;unfold aV;rw[aH],λi p e=>?_⟩;obtain⟨a,ea,k1,_⟩:=h.find (yc e);exact⟨a,_,by rw[cN,ea];rfl,.inl (aJ.of k1),Z,Z,Z,Z⟩
theorem bY.q{K:Fg}{n:Nat}{ρ:cg}{B:LA}{H:Hp}{st:HS}(h:bY n ρ B H (ef st)):QAt K H B.m st:=⟨_,B.lo,B.lp,B.lk,_,h.om,Z,Z,Z,aJ.of h.oo,aJ.of h.op,h.rows,aJ.of h.ok⟩
def mP(st:HS):List Row:=st.aj.map λp=>(p.nm,p.wo)
theorem u9.nw{K:Fg}{H:Hp}{us:List V}{st:HS}(h:u9 K H us st.aj):Q6 K H us (mP st):=by refine⟨by unfold mP;rw[aH];exact h.len,λi r e=>?_⟩;unfold mP at e;rw[cN]at e;obtain⟨p,ep,rfl⟩:=nH.mp e;obtain⟨a,xs,e1,e2,e3,_,e5,_⟩:=h.at_ i p ep;exact⟨a,xs,e1,e2,e3,e5⟩
structure Nx(nms:List Str)(st:HS):Prop where
 t:st.nms=nms.take st.nms.length
 nd:nms.Nodup
 ok:∀x∈nms,isNm x=true
theorem Nx.next{nms:List Str}{st:HS}(h:Nx nms st){x:Str}(e:nms[st.nms.length]?=some x):isNm x=true/\x∉st.nms/\∀st':HS,st'.nms=st.nms++[x]->Nx nms st':=by
 refine⟨h.ok x (cu e),?_,λst' e'=>⟨?_,h.nd,h.ok⟩⟩
 .rw [h.t];exact qU h.nd e
 .rw [e',dD,show st.nms.length+[x].length=st.nms.length+1 from rfl,take_snoc e,<-h.t]
theorem Nx.keep{nms:List Str}{st st':HS}(h:Nx nms st)(e:st'.nms=st.nms):Nx nms st':=⟨by rw[e];exact h.t,h.nd,h.ok⟩
theorem Lh{st:HS}{d:Dd}(h:d.k≠1)(h':d.k≠8):(iA st d).nms=st.nms:=by
 cases d with
 | load=>exact absurd rfl h
 | sever=>exact absurd rfl h'
 | cast rs=>show(cV st rs).nms=_;unfold cV;rw[jN];show(aN st _ _ _).nms=_;unfold aN;rw[mJ]
 | award o a=>show(aN st _ _ _).nms=_;unfold aN;rw[mJ]
 | hand x o=>show(fj st x o).nms=_;unfold fj;split <;> rfl
 | _=>rfl
def Dd.pl:Dd->Bool
 | .sign _=>false | .load .. =>false | .sever .. =>false|_=>true
theorem Dd.Vz{d:Dd}(h:d.pl=true):d.k≠1/\d.k≠8/\d.k≠0:=by cases d <;> first|(exact Bool.noConfusion h)|(refine⟨?_,?_,?_⟩ <;> simp[Dd.k])
theorem DS{st:HS}(wf:Wf st){rs:List Row}(h:KS (mP st) rs)(hne:rs≠[]):jP st rs=none:=by
 have hl:aQ rs<aE st:=by
  rcases h.lost with z|z
  .have e:aQ (mP st)=aE st:=by unfold aQ mP aE;rw[gj];rfl
   rw[<-e];exact z
  .exact absurd z hne
 have hr:∀r∈rs,iW st r=none:=λr hr=>by obtain⟨r1,_,w,hw,e,le⟩:=h.row r hr;obtain⟨p,hp,rfl⟩:=a_.mp hw;have e:p.nm=r.1:=e;have le:r.2<=p.wo:=le;unfold iW;rw[aC (show r.1∈d_ st from a_.mpr ⟨p,hp,e⟩),aB (by omega),bQ wf hp e,aB (by omega)]
 unfold jP;rw[aC ⟨hne,h.nd⟩,List.findSome?_eq_none_iff.mpr hr];exact aB (by omega)
theorem Nx.pl{nms:List Str}{st:HS}(h:Nx nms st)(wf:Wf st):st.aj.length<=nms.length:=by
 have a:=uX (l:=st.aj.map (·.nm)) (m:=nms) wf.dN (λx hx=>by obtain⟨p,hp,rfl⟩:=a_.mp hx;have:=wf.sub p hp;rw[h.t]at this;exact List.mem_of_mem_take this)
 rwa [aH]at a
inductive adN(K:Fg)(vs:List V)(H:Hp)(Q:VK)(E:XK):Prop
 |mk(l:Addr)(us:List V)(rs:List Row)(_:vs=[.ref l])(_:aJ K H l us)(_:ee H us rs)(_:rs.length<=1000)(_:∀z H',aR H H'->H' z=some (.tup (Dd.v (.cast rs)))->Q (.ref z) H')
def Li(K:Fg):Sp:=bx (adN K)
inductive Br(nms:List Str)(st:HS)(d:Dd):Prop
 |mk(_:jr st d=none)(_:KY d)(_:Nx nms (iA st d))(_:d.k≠0)
inductive adO(K:Fg)(vs:List V)(H:Hp)(Q:VK)(E:XK):Prop
 |mk(a m ln:Addr)(ns:List Int)(k:Int)(nms:List Str)(c:Nat)(st:HS)(_:vs=[.ref a,.int k,.ref m,.ref ln])(_:aJ K H a (ns.map V.int))(_:ns.length<=63)(_:0<=k)(_:k<=1000000)(_:QAt K H m st)(_:aJ K H ln (nms.map V.str))(_:Nx nms st)(_:nms.length<=50)(_:Wf st)(_:Go c st)(_:c<=90)(_:∀z d H',aR H H'->H' z=some (.tup (Dd.v d))->Br nms st d->Q (.ref z) H')
def Th(K:Fg):Sp:=bx (adO K)
inductive Ti(K:Fg)(vs:List V)(H:Hp)(Q:VK)(E:XK):Prop
 |mk(a m ln:Addr)(ns:List Int)(k way:Int)(nms:List Str)(c:Nat)(st:HS)(_:vs=[.ref a,.int k,.ref m,.ref ln,.int way])(_:aJ K H a (ns.map V.int))(_:ns.length<=63)(_:0<=k)(_:k<=1000000)(_:QAt K H m st)(_:aJ K H ln (nms.map V.str))(_:Nx nms st)(_:nms.length<=50)(_:Wf st)(_:Go c st)(_:c<=90)(_:0<st.aj.length)(_:∀z d H',aR H H'->H' z=some (.tup (Dd.v d))->Br nms st d->Q (.ref z) H')
def DT(K:Fg):Sp:=bx (Ti K)
def kr(ps:List Q4)(qs:List Addr):List Addr:=((List.zip ps qs).filter λx=>decide (0<x.1.2.2.1)).map λx=>x.2
theorem Nj{ps:List Q4}{qs:List Addr}{i:Nat}{p:Q4}{a:Addr}(h1:ps[i]?=some p)(h2:qs[i]?=some a):kr (ps.take (i+1)) (qs.take (i+1))=kr (ps.take i) (qs.take i)++if 0<p.2.2.1 then[a] else[] :=by
 have l1:=(dY.mp h1).1;have l2:=(dY.mp h2).1;unfold kr;rw[take_snoc h1,take_snoc h2,List.zip_append (by rw[kN,kN];omega),List.filter_append,bV];congr 1;show List.map _ (List.filter _ [(p,a)])=_;by_cases c:0<p.2.2.1
 .simp [c]
 .simp [c]
theorem DU:∀{ps:List Q4}{qs:List Addr},qs.length=ps.length->(kr ps qs).length=(ps.filter λp=>decide (0<p.2.2.1)).length
 | [],[],_=>rfl
 | p::ps,a::qs,h=>by
  have ih:=DU (ps:=ps) (qs:=qs) (by simpa using h);unfold kr at ih ⊢;rw[JI,e_,e_];by_cases c:0<p.2.2.1
  .rw [aC (br c),aC (br c),bz,kM,kM,ih]
  .rw [aB (by simpa using c),aB (by simpa using c),ih]
 | [],_::_,h=>by simp at h
 | _::_,[],h=>by simp at h
theorem AG:∀{ps:List Q4}{qs:List Addr}{i:Nat}{q:Q4}{a:Addr},qs.length=ps.length->(ps.filter λp=>decide (0<p.2.2.1))[i]?=some q->(kr ps qs)[i]?=some a->∃j:Nat,ps[j]?=some q/\qs[j]?=some a
 | [],[],_,_,_,_,h,_=>by simp at h
 | p::ps,b::qs,i,q,a,hl,h1,h2=>by
  unfold kr at h2;rw[JI,e_]at h2;rw[e_]at h1;by_cases c:0<p.2.2.1
  .rw [aC (br c)]at h1 h2;rw[bz]at h2;cases i with
   | zero=>exact⟨0,by simpa using h1,by simpa using h2⟩
   | succ i=>obtain⟨j,a1,a2⟩:=AG (ps:=ps) (qs:=qs) (i:=i) (by simpa using hl) (by simpa using h1) (by simpa[kr]using h2);exact⟨j+1,by simpa using a1,by simpa using a2⟩
  .rw [aB (by simpa using c)]at h1 h2;obtain⟨j,a1,a2⟩:=AG (ps:=ps) (qs:=qs) (i:=i) (by simpa using hl) h1 h2;exact⟨j+1,by simpa using a1,by simpa using a2⟩
 | [],_::_,_,_,_,h,_,_=>by simp at h
 | _::_,[],_,_,_,h,_,_=>by simp at h
theorem yW:∀{ps:List Q4}{qs:List Addr},(kr ps qs).Sublist qs
 | [],_=>List.nil_sublist _
 | _::_,[]=>List.Sublist.refl _
 | p::ps,a::qs=>by
  unfold kr;rw[JI,e_];by_cases c:0<p.2.2.1
  .rw [aC (br c),bz];exact List.Sublist.cons_cons _ yW
  .rw [aB (by simpa using c)];exact List.Sublist.cons _ yW
def Rb(l:LS):LS:={ l with aj:=l.aj.filter λq=>decide (0<q.2.2.1) }
def mQ(rs:List Row)(qs:List Q4):List Q4:=qs.map λq=>(q.1,q.2.1,q.2.2.1-gT rs q.1,q.2.2.2)
def VA(l:LS)(i:Nat)(p:Pt):Dd->LS
 | .mishap _ a=>{ l with aj:=l.aj.set i (p.nm,p.ow,p.wo-a,p.we) }
 | .rise _ a=>{ l with aj:=l.aj.set i (p.nm,p.ow,p.wo+a,p.we) }
 | .hand _ o=>{ l with aj:=l.aj.set i (p.nm,o,p.wo,p.we) }
 | .land _=>{ l with aj:=l.aj.set i (p.nm,p.ow,0,p.we) }
 | .sever _ y a we=>{ l with aj:=l.aj.set i (p.nm,p.ow,p.wo-a,p.we-we)++[(y,p.ow,a,we)],DR:=l.DR++[y] }
 | _=>l
def Dd.part:Dd->Option Str
 | .mishap x _=>some x
 | .rise x _=>some x
 | .hand x _=>some x
 | .land x=>some x
 | .sever x _ _ _=>some x
 | _=>none
theorem uO:∀{l:List Q4}{i:Nat}{q:Q4},(∀x∈l,0<x.2.2.1)->i<l.length->(l.set i q).filter (λq=>decide (0<q.2.2.1))=if 0<q.2.2.1 then l.set i q else l.eraseIdx i
 | [],_,_,_,h=>by simp at h
 | x::l,0,q,hp,_=>by
  rw[Qn,e_,EE.mpr (λy hy=>br (hp y (cA _ hy)))];by_cases c:0<q.2.2.1
  .rw [aC c,aC (br c)]
  .rw [aB c,aB (by simpa using c)];rfl
 | x::l,i+1,q,hp,h=>by
  rw[JH,e_,aC (br (hp x cU)),uO (λy hy=>hp y (cA _ hy)) (by simpa using h)];by_cases c:0<q.2.2.1
  .rw [aC c,aC c]
  .rw [aB c,aB c];rfl
theorem Hr{α β:Type}(f:α->β):∀(l:List α)(i:Nat),(l.eraseIdx i).map f=(l.map f).eraseIdx i
 | [],_=>rfl
 | _::_,0=>rfl
 | x::l,i+1=>by show f x::(l.eraseIdx i).map f=f x::(l.map f).eraseIdx i;rw[Hr f l i]
theorem yX(st:HS)(i:Nat)(p:Pt):aV { st with aj:=st.aj.set i p }=(aV st).set i (p.nm,p.ow,p.wo,p.we):=uC
theorem DV(st:HS)(i:Nat):aV { st with aj:=st.aj.eraseIdx i }=(aV st).eraseIdx i:=Hr _ _ _
theorem LS.ext'{a b:LS}(h1:a.own=b.own)(h2:a.aj=b.aj)(h3:a.DR=b.DR):a=b:=by cases a;cases b;cases h1;cases h2;cases h3;rfl
theorem vf{st:HS}(wf:Wf st):∀x∈aV st,0<x.2.2.1:=λx hx=>by obtain⟨p,hp,rfl⟩:=a_.mp hx;exact(wf.jI p hp).1
theorem VB{st:HS}(wf:Wf st){d:Dd}{i:Nat}{p:Pt}(hr:jr st d=none)(ep:st.aj[i]?=some p)(hd:d.part=some p.nm):Rb (VA (ef st) i p d)=ef (iA st d):=by
 have hp:=cu ep;have hi:i<(aV st).length:=by unfold aV;rw[aH];exact(dY.mp ep).1
 have hP:=vf wf;have eg:bH st p.nm=p:=bQ wf hp rfl;have w1:=(wf.jI p hp).1;cases d with
 | mishap x a=>
  have e:x=p.nm:=fE hd;subst e;refine LS.ext' rfl ?_ rfl;show((aV st).set i _).filter _=aV { st with aj:=jL st.aj p.nm a };obtain⟨_,h1,h2⟩:=j0 (show iW st (p.nm,a)=none from hr);rw[show(bH st (p.nm,a).1).wo=p.wo by rw[eg]]at h2;have h1:1<=a:=h1;have h2:a<=p.wo:=h2;rw[uO hP hi,Cg wf.dN (λq hq=>by have:=(wf.jI q hq).1;omega) ep];show(if 0<p.wo-a then _ else _)=_;by_cases c:p.wo-a=0
  .rw [aB (by omega),aC c,DV]
  .rw [aC (by omega),aB c,yX]
 | rise x a=>have e:x=p.nm:=fE hd;subst e;have h1:=(AF (show kX st p.nm a=none from hr)).2;refine LS.ext' rfl ?_ rfl;show((aV st).set i _).filter _=aV (kj st p.nm _);rw[uO hP hi,rm wf.dN ep,yX];exact aC (by show 0<p.wo+a;omega)
 | hand x o=>
  have e:x=p.nm:=fE hd;subst e;have e1:(fj st p.nm o).own=st.own:=by unfold fj;split <;> rfl
  have e2:(fj st p.nm o).nms=st.nms:=by unfold fj;split <;> rfl
  refine LS.ext' e1.symm ?_ e2.symm;show((aV st).set i _).filter _=aV (fj st p.nm o);rw[uO hP hi];refine(aC (by show 0<p.wo;omega)).trans ?_;unfold fj;rw[eg];split
  .next c=>
   have ho:=(wW (show jx st p.nm o=none from hr)).2;have e3:o=p.ow:=by have a1:=Au ho;have a2:=Au (wf.ow p hp);rw[c,a2]at a1;exact(fE a1).symm
   rw[e3];exact sX (yc ep)
  .rw [rm wf.dN ep,yX]
 | land x=>have e:x=p.nm:=fE hd;subst e;refine LS.ext' rfl ?_ rfl;show((aV st).set i _).filter _=aV (rZ st p.nm);rw[uO hP hi,oX wf hp,vd wf.dN ep];exact(aB (by show ¬ (0:Int)<0;omega)).trans (DV st i).symm
 | sever x y a we=>
  have e:x=p.nm:=fE hd;subst e;obtain⟨_,_,h1,_,h3,_⟩:=kZ (show iJ st p.nm y a we=none from hr);rw[eg]at h3;refine LS.ext' rfl ?_ rfl;show((aV st).set i _++[_]).filter _=aV (lC st p.nm y a we);unfold lC;rw[eg,rm wf.dN ep,List.filter_append,uO hP hi];show(if 0<p.wo-a then _ else _)++_=List.map _ (st.aj.set i _++[_]);rw[aC (by omega),bV];congr 1
  .exact (yX st i { p with wo:=p.wo-a,we:=p.we-we }).symm
  .show List.filter _ [((y,p.ow,a,we):Q4)]=[(y,p.ow,a,we)]
   rw[e_,aC (br (show 0<a by omega))];rfl
 | _=>exact absurd hd (by simp[Dd.part])
def ag8(st:HS):Dd->LS
 | .load x o wo we=>{ ef st with aj:=aV st++[(x,o,wo,we)],DR:=st.nms++[x] }
 | .cast rs=>{ ef st with aj:=mQ rs (aV st) }
 | _=>ef st
theorem yY{st:HS}(wf:Wf st){d:Dd}(hr:jr st d=none)(hd:d.part=none)(hs:d.k≠0):Rb (ag8 st d)=ef (iA st d):=by
 have hP:=vf wf;have all:(aV st).filter (λq=>decide (0<q.2.2.1))=aV st:=EE.mpr λx hx=>br (hP x hx);cases d with
 | load x o wo we=>
  obtain⟨_,_,_,h4,_⟩:=sY hr;refine LS.ext' rfl ?_ rfl;show(aV st++[(x,o,wo,we)]).filter _=List.map _ (st.aj++[_]);rw[List.filter_append,all,bV];congr 1;show List.filter _ [((x,o,wo,we):Q4)]=[(x,o,wo,we)]
  rw[e_,aC (br (show 0<wo by omega))];rfl
 | cast rs=>obtain⟨h1,h2,h3,h4⟩:=tD hr;refine LS.ext' (qY st rs).symm ?_ (Lh (d:=.cast rs) (by simp[Dd.k]) (by simp[Dd.k])).symm;show p8 rs (aV st)=aV (cV st rs);unfold cV;rw[p_,kW];refine(GY rs (aV st) h2 (λq hq=>hP q hq) (λx hx q hq e=>?_)).symm;obtain⟨p,hp,rfl⟩:=a_.mp hq;have:=(j0 (h3 x hx)).2.2;rw[bQ wf hp e]at this;exact this
 | award o a=>
  refine LS.ext' ?_ ?_ ?_
  .show st.own=(aN st _ _ _).own;unfold aN;rw[kK]
  .show List.filter _ (aV st)=aV (aN st _ _ _);rw[kW,all]
  .show st.nms=(aN st _ _ _).nms;unfold aN;rw[mJ]
 | still=>exact LS.ext' rfl all rfl
 | sign o=>exact absurd rfl hs
 | _=>exact absurd hd (by simp[Dd.part])
inductive adP(K:Fg)(vs:List V)(H:Hp)(Q:VK)(E:XK):Prop
 |mk(l:Addr)(own:List Str)(n:Nat)(ρ:cg)(_:vs=[.ref l])(_:aJ K H l (own.map V.str))(_:Gh ρ H)(_:own.length<=1000)(_:∀ρ' B H',Gh ρ' H'->bY n ρ' B H' ⟨own,[],[]⟩->(∀b o,H b=some o->H' b=some o/\ρ' b=ρ b)->Q (.ref B.m) H')
def Tj(K:Fg):Sp:=bx (adP K)
inductive VC(K:Fg)(vs:List V)(H:Hp)(Q:VK)(E:XK):Prop
 |mk(n:Nat)(ρ:cg)(B:LA)(st:HS)(i:Nat)(p:Pt)(a z:Addr)(d:Dd)(_:vs=[.ref B.m,.ref a,.ref z])(_:H z=some (.tup d.v))(_:Gh ρ H)(_:bY n ρ B H (ef st))(_:st.aj[i]?=some p)(_:B.qs[i]?=some a)(_:d.part=some p.nm)(_:st.aj.length<1000)(_:st.nms.length<1000)(_:∀ρ' B' H',Gh ρ' H'->bY n ρ' B' H' (VA (ef st:_) i p d)->B'.m=B.m->Fr n ρ H ρ' H'->Q .cW H')
def Hs(K:Fg):Sp:=bx (VC K)
inductive YS(K:Fg)(vs:List V)(H:Hp)(Q:VK)(E:XK):Prop
 |mk(n c:Nat)(ρ:cg)(B:LA)(st:HS)(z:Addr)(d:Dd)(_:vs=[.ref B.m,.ref z])(_:H z=some (.tup d.v))(_:Gh ρ H)(_:bY n ρ B H (ef st))(_:Wf st)(_:Go c st)(_:c<=90)(_:jr st d=none)(_:d.k≠0)(_:∀ρ' B' H',Gh ρ' H'->bY n ρ' B' H' (ef (iA st d))->B'.m=B.m->Fr n ρ H ρ' H'->Q .cW H')
def Cr(K:Fg):Sp:=bx (YS K)
inductive YT(T:TC)(K:Fg)(vs:List V)(H:Hp)(Q:VK)(E:XK):Prop
 |mk(n c:Nat)(ρ:cg)(A:HA)(st:HS)(z:Addr)(d:Dd)(_:vs=[.ref A.a,.ref z])(_:dG K H z d.v)(_:HH T n ρ A H st)(_:Go c st)(_:c<=90)(_:st.kn+100<=1000000)(_:st.own.length<100)(_:jr st d=none)(_:wM T n ρ A H (iA st d:_) λH'=>Q .cW H')
def Cs(T:TC)(K:Fg):Sp:=bx (YT T K)
theorem VD(B:LA)(l:Addr):putK (jS B) (Sum.inr "parts") (.ref l)=jS { B with lp:=l }:=rfl
theorem Pe:∀{rs:List Row}{i:Nat}{r:Row},rs[i]?=some r->(jO rs)[2*i]?=some (.str r.1)/\(jO rs)[2*i+1]?=some (.int r.2)
 | [],_,_,h=>by simp at h
 | x::rs,0,r,h=>by
  have e:x=r:=by simpa using h
  subst e;exact⟨Z,Z⟩
 | x::rs,i+1,r,h=>by obtain⟨a,b⟩:=Pe (rs:=rs) (i:=i) (by simpa using h);rw[show 2*(i+1)=2*i+1+1 by omega];exact⟨a,b⟩
theorem Pf{rs:List Row}{i:Nat}{r:Row}(h:rs[i]?=some r):(Dd.v (.cast rs))[1+2*i]?=some (.str r.1)/\(Dd.v (.cast rs))[2+2*i]?=some (.int r.2):=by obtain⟨a,b⟩:=Pe h;rw[show 1+2*i=2*i+1 by omega,show 2+2*i=2*i+1+1 by omega];exact⟨a,b⟩
theorem yZ(rs:List Row):(Dd.v (.cast rs)).length=2*rs.length+1:=by show(jO rs).length+1=_;rw[Az]
theorem Tn(m:Nat):qQ 1 ((2*m+1:Nat):Int) 2=m:=by unfold qQ Builtin.Range.rangeSize;rw[aC (by decide)];split <;> omega
theorem To{qs:List Q4}(nd:(qs.map λq:Q4=>q.1).Nodup){rs:List Row}{r:Row}{j:Nat}{q:Q4}(hq:qs[j]?=some q)(e:q.1=r.1)(h:r.1∉rs.map (λr:Row=>r.1)):mQ (rs++[r]) qs=(mQ rs qs).set j (q.1,q.2.1,q.2.2.1-r.2,q.2.2.2)/\(mQ rs qs)[j]?=some q:=by
 have hj:=(dY.mp hq).1;constructor
 .refine List.ext_getElem? λk=>?_;by_cases c:j=k
  .subst c;rw[qM (by unfold mQ;rw[aH];exact hj)];unfold mQ;rw[cN,hq];show some (q.1,q.2.1,q.2.2.1-gT (rs++[r]) q.1,q.2.2.2)=_;rw[yO h,aC e.symm]
  .rw [zR c];unfold mQ;rw[cN,cN];cases ek:qs[k]? with
   | none=>rfl
   | some x=>
    show some (x.1,x.2.1,x.2.2.1-gT (rs++[r]) x.1,x.2.2.2)=some (x.1,x.2.1,x.2.2.1-gT rs x.1,x.2.2.2);rw[yO h,aB];intro z;have r1:(qs.map λq:Q4=>q.1)[k]?=some x.1:=by rw[cN,ek];rfl
    have r2:(qs.map λq:Q4=>q.1)[j]?=some q.1:=by rw[cN,hq];rfl
    exact c ((Qv (by rw[aH];exact hj) nd).mp (r2.trans (by rw[e,z];exact r1.symm)))
 .unfold mQ;rw[cN,hq];show some (q.1,q.2.1,q.2.2.1-gT rs q.1,q.2.2.2)=some q;rw[e,yN h,A3,<-e]
theorem VF(qs:List Q4):mQ [] qs=qs:=by unfold mQ;rw[show(λq:Q4=>(q.1,q.2.1,q.2.2.1-gT [] q.1,q.2.2.2))=id from funext λq=>by rw[Av,A3];rfl,List.map_id]
theorem Lj(rs:List Row)(qs:List Q4):(mQ rs qs).length=qs.length:=by unfold mQ;rw[aH]
theorem Rc(rs:List Row)(qs:List Q4):(mQ rs qs).map (λq:Q4=>q.1)=qs.map λq:Q4=>q.1:=by unfold mQ;rw[gj];rfl
theorem y9(st:HS):(aV st).map (λq:Q4=>q.1)=d_ st:=by unfold aV d_;rw[gj];rfl
def yd(qs:List Q4):List Row:=qs.map λq=>(q.1,q.2.2.1)
theorem Ht(qs:List Q4):(yd qs).map (λr:Row=>r.1)=qs.map λq:Q4=>q.1:=by unfold yd;rw[gj];rfl
theorem bY.nw{K:Fg}{n:Nat}{ρ:cg}{B:LA}{H:Hp}{l:LS}(h:bY n ρ B H l):Q6 K H (B.qs.map V.ref) (yd l.aj):=by refine⟨by unfold yd;rw[aH,aH];exact h.ql,λi r e=>?_⟩;unfold yd at e;rw[cN]at e;obtain⟨q,eq,rfl⟩:=nH.mp e;obtain⟨a,ea,k1,_⟩:=h.find eq;exact⟨a,_,by rw[cN,ea];rfl,.inl (aJ.of k1),Z,Z⟩
theorem Dd.aaX{d:Dd}{x:Str}(h:d.part=some x):d.v[1]?=some (.str x)/\d.k≠1/\d.k≠2/\d.k≠3/\d.k≠9:=by cases d <;> first|(cases h;refine⟨rfl,?_,?_,?_,?_⟩ <;> simp[Dd.k])|(cases h)
theorem YU{st:HS}{d:Dd}{x:Str}(h:d.part=some x)(hr:jr st d=none):x∈d_ st:=by
 cases d with
 | mishap y a=>cases h;exact(j0 (show iW st (x,a)=none from hr)).1
 | rise y a=>cases h;exact(AF (show kX st x a=none from hr)).1
 | hand y o=>cases h;exact(wW (show jx st x o=none from hr)).1
 | land y=>cases h;exact pI hr
 | sever y z a we=>cases h;exact(kZ (show iJ st x z a we=none from hr)).1
 | _=>cases h
theorem VG(l:LS)(i:Nat)(p:Pt)(d:Dd):(VA l i p d).aj.length<=l.aj.length+1:=by cases d <;> first|(show(List.set _ _ _).length<=_;rw[iw];omega)|(show(List.set _ _ _++[_]).length<=_;rw[dD,iw];exact aO _)|exact A_ _
def cL(st:HS)(ds:List Dd):HS:=ds.foldl iA st
inductive nL(H:Hp):List V->List Dd->Prop
 | nil:nL H [] []
 | cons {a:Addr} {d:Dd} {vs:List V} {ds:List Dd}:H a=some (.tup d.v)->nL H vs ds->nL H (.ref a::vs) (d::ds)
theorem nL.mono{H H':Hp}{vs:List V}{l:List Dd}(h:nL H vs l)(g:∀b xs,H b=some (.tup xs)->H' b=some (.tup xs)):nL H' vs l:=by
 induction h with
 | nil=>exact .nil
 | cons a _ ih=>exact .cons (g _ _ a) ih
theorem nL.length{H:Hp}{vs:List V}{l:List Dd}(h:nL H vs l):vs.length=l.length:=by
 induction h with
 | nil=>rfl
 | cons _ _ ih=>simp[ih]
theorem nL.get{H:Hp}{vs:List V}{l:List Dd}(h:nL H vs l):∀{i:Nat}{x:V},vs[i]?=some x->∃a d,x =.ref a/\l[i]?=some d/\H a=some (.tup d.v):=by
 induction h with
 | nil=>intro i x e;simp at e
 | @cons a r vs rs e0 _ ih=>
  intro i x e;cases i with
  | zero=>simp at e;subst e;exact⟨a,r,Z,Z,e0⟩
  | succ i=>simp at e;obtain⟨a',r',e1,e2,e3⟩:=ih e;exact⟨a',r',e1,by simpa using e2,e3⟩
theorem nL.snoc{H:Hp}{vs:List V}{l:List Dd}{a:Addr}{d:Dd}(h:nL H vs l)(e:H a=some (.tup d.v)):nL H (vs++[.ref a]) (l++[d]):=by
 induction h with
 | nil=>exact .cons e .nil
 | cons a _ ih=>exact .cons a ih
def nD(st:HS)(ds:List Dd):Prop:=∀(i:Nat)(d:Dd),ds[i]?=some d->jr (cL st (ds.take i)) d=none/\KY d/\d.k≠0
theorem nD.nil(st:HS):nD st [] :=λi d h=>by simp at h
theorem nD.snoc{st:HS}{ds:List Dd}{d:Dd}(h:nD st ds)(h1:jr (cL st ds) d=none)(h2:KY d)(h3:d.k≠0):nD st (ds++[d]):=λi x e=>by
 rcases Nat.lt_or_ge i ds.length with c|c
 .rw [zN c]at e;rw[List.take_append_of_le_length (by omega)];exact h i x e
 .have hi:i=ds.length:=by have:=(dY.mp e).1;rw[dD]at this;have:i<ds.length+1:=this;omega
  subst hi;rw[CQ (aO _),A1]at e;cases e;rw[List.take_left']
  .exact ⟨h1,h2,h3⟩
  .rfl
theorem iB(st:HS)(ds:List Dd)(d:Dd):cL st (ds++[d])=iA (cL st ds) d:=by unfold cL;rw[BW];rfl
theorem KY.g{d:Dd}(h:KY d):WU d:=by
 cases d with
 | load x o wo we=>obtain⟨_,_,⟨_,h1⟩,⟨_,h2⟩⟩:=h;exact⟨by omega,h2⟩
 | rise x a=>obtain⟨_,⟨_,h1⟩⟩:=h;show a<=_;omega
 | _=>exact True.intro
theorem Lk{st:HS}{d:Dd}(h:d.k≠0):(iA st d).own=st.own:=by
 cases d with
 | sign o=>exact absurd rfl h
 | cast rs=>exact qY st rs
 | award o a=>show(aN st _ _ _).own=_;unfold aN;rw[kK]
 | hand x o=>show(fj st x o).own=_;unfold fj;split <;> rfl
 | _=>rfl
structure GW(c m:Nat)(st:HS):Prop where
 g:Go c st
 wf:Wf st
 kn:st.kn<=m
theorem GW.do{c m:Nat}{st:HS}(h:GW c m st)(hc:c<=90)(hm:m+100<=1000000)(ho:st.own.length<100){d:Dd}(hr:jr st d=none)(hb:WU d):GW (c+1) (m+100) (iA st d):=⟨adK h.g h.wf hc hr hb,adL h.g h.wf hc (by have:=h.kn;omega) ho hr,by have:=h.kn;have:=adM st d;omega⟩
theorem nD.go{c m:Nat}{st:HS}{ds:List Dd}(h:nD st ds)(g:GW c m st)(hc:c+ds.length<=91)(hm:m+100*ds.length<=1000000)(ho:st.own.length<100):∀i≤ds.length,GW (c+i) (m+100*i) (cL st (ds.take i))/\(cL st (ds.take i)).own=st.own:=by
 intro i
 induction i with
 | zero=>intro _;exact⟨g,Z⟩
 | succ i ih=>intro hi;obtain⟨g1,e1⟩:=ih (by omega);have ei:=bM (show i<ds.length by omega);obtain⟨h1,h2,h3⟩:=h i _ ei;rw[take_snoc ei,iB];have:=g1.do (by omega) (by omega) (by rw[e1];exact ho) h1 h2.g;exact⟨by rw[show c+(i+1)=c+i+1 by omega,show m+100*(i+1)=m+100*i+100 by omega];exact this,by rw[Lk h3,e1]⟩
inductive aaY(K:Fg)(vs:List V)(H:Hp)(Q:VK)(E:XK):Prop
 |mk(n c m:Nat)(ρ:cg)(B:LA)(st:HS)(a ln:Addr)(ns:List Int)(k:Int)(nms:List Str)(many:Nat)(_:vs=[.ref a,.int k,.ref B.m,.ref ln,.int (many:Int)])(_:Gh ρ H)(_:bY n ρ B H (ef st))(_:GW c m st)(_:c+many<=91)(_:m+100*many<=1000000)(_:st.own.length<100)(_:x_ K ρ H a (ns.map V.int))(_:ns.length<=63)(_:0<=k)(_:k<=100000)(_:x_ K ρ H ln (nms.map V.str))(_:Nx nms st)(_:nms.length<=50)(_:∀l zs ds ρ' B' H',Gh ρ' H'->bY n ρ' B' H' (ef (cL st ds))->B'.m=B.m->Fr n ρ H ρ' H'->H' l=some (.lst zs)->ρ' l=none->nL H' zs ds->nD st ds->ds.length=many->Nx nms (cL st ds)->Q (.ref l) H')
def Pg(K:Fg):Sp:=bx (aaY K)
def sN(sp:Sp):Sp:=λvs H Q _=>sp vs H Q E0
theorem Tp{st:HS}{o:Str}(h:rY st o=none):isNm o=true/\o∉st.own:=by
 unfold rY at h;split at h
 .split at h
  .cases h
  .exact ⟨by assumption,by assumption⟩
 .cases h
def iM(own:List Str):HS:=own.foldl h_ hs0
theorem Hu:∀(l:List Str)(st:HS),Wf st->(st.own++l).Nodup->st.own.length+l.length<=100->Wf (l.foldl h_ st)
 | [],_,w,_,_=>w
 | o::l,st,w,nd,hl=>by
  rw[j7];rw[kM]at hl;have h1:o∉st.own:=λm=>(Qu.mp nd).2.2 o m o cU rfl;refine Hu l (h_ st o) (EX w h1 (by omega)) ?_ ?_
  .show ((st.own++[o])++l).Nodup;rw[Qs];exact nd
  .show (st.own++[o]).length+l.length<=100;rw[dD];show st.own.length+1+l.length<=100;omega
theorem gw0{own:List Str}(nd:own.Nodup)(h0:0<own.length)(h1:own.length<=100)(hon:∀o∈own,isNm o=true):GW 0 0 (iM own):=by
 obtain⟨k1,k2,k3,k4,k5,k6⟩:=nc own hs0 rfl (λu hu=>absurd hu (by simp[hs0]));have eo:(iM own).own=own:=by unfold iM;rw[wO];rfl
 have k1:(iM own).aj=[] :=k1;have k2:(iM own).nms=[] :=k2;have k3:(iM own).stp=[] :=k3;have k4:(iM own).prod=1:=k4;have k5:(iM own).bN=[] :=k5;have k6:∀u∈(iM own).bF,u=0:=k6;refine⟨⟨λu hu=>?_,by rw[k3];exact aO _,?_,λp hp=>?_,λp hp=>?_,by rw[k1];exact aO _,by rw[k2];exact aO _,by rw[eo];exact h0,λx hx=>?_,by rw[eo];exact hon,λp hp=>?_,by rw[k5];exact aO _,λa ha=>?_⟩,Hu own hs0 wf0 nd (by show 0+_<=_;omega),?_⟩
 .rw [k6 u hu];exact pT (by decide +kernel)
 .rw [k4];exact pT (by decide +kernel)
 .rw [k1]at hp;cases hp
 .rw [k1]at hp;cases hp
 .rw [k2]at hx;cases hx
 .rw [k1]at hp;cases hp
 .rw [k5]at ha;cases ha
 .rw [show(iM own).kn=0 from KW own hs0];exact aO _
theorem E6(own:List Str):(iM own).own=own:=by unfold iM;rw[wO];rfl
theorem VH(own:List Str):ef (iM own)=⟨own,[],[]⟩:=by obtain⟨k1,k2,_⟩:=nc own hs0 rfl (λu hu=>absurd hu (by simp[hs0]));have k1:(iM own).aj=[] :=k1;exact LS.ext' (E6 own) (by show List.map _ (iM own).aj=[];rw[k1];rfl) k2
theorem aaZ{own nms:List Str}(nd:nms.Nodup)(h:∀x∈nms,isNm x=true):Nx nms (iM own):=by obtain⟨_,k2,_⟩:=nc own hs0 rfl (λu hu=>absurd hu (by simp[hs0]));have k2:(iM own).nms=[] :=k2;exact⟨by rw[k2];rfl,nd,h⟩
def E7(st:HS)(o:Str):Int:=((st.bN.filter λa=>decide (a.ow=o)).map λa=>a.wo).sum
def tF(st:HS)(o:Str):Rat:=Jm.fr (st.bF.getD (st.own.idxOf o) 0) st.prod
structure ag9(st:HS):Prop where
 wf:Wf st
 wo:∀p∈st.aj,Jm.Sz 60 p.wo
 wh:Jm.Sz 60 (aE st)
 la:∀o,Jm.Sz 60 (E7 st o)
inductive aa0(T:TC)(vs:List V)(H:Hp)(Q:VK)(E:XK):Prop
 |mk(n ρ A st o:_)(_:vs=[.ref A.a,.str o])(_:aL T n ρ A H st)(_:Wf st)(_:o∈st.own)(_:∀r H',aR H H'->H' r=some (tQ (tF st o))->Q (.ref r) H')
def Ph(T:TC):Sp:=bx (aa0 T)
theorem getD_at{l:List Int}{i:Nat}(h:i<l.length):sP (l.map V.int) (i:Int)=some (.int (l.getD i 0)):=aM (by rw[cN,lu,bM h];rfl)
section
variable {X:Cx}
end
structure Mo(c:Nat)(st:HS):Prop where
 pz:st.bF.sum=0
 ao:∀a∈st.bN,a.ow∈st.own
 aw:∀a∈st.bN,1<=a.wo/\a.wo<=1000000000000*((c:Int)+1)
theorem Mo.mono{c:Nat}{st:HS}(m:Mo c st):Mo (c+1) st:=⟨m.pz,m.ao,λa ha=>by have:=m.aw a ha;omega⟩
theorem Ll{c:Nat}{st:HS}(m:Mo c st)(kept whole:Int)(added:List Int):Mo (c+1) (aN st kept whole added):=by
 unfold aN;refine⟨?_,?_,?_⟩
 .rw [Aq];show(st.bF.map λx=>x*_).sum=0;rw[BI (λx=>x),List.map_id',m.pz,pP]
 .rw [kL,kK];exact m.ao
 .rw [kL];exact m.mono.aw
theorem VI{st:HS}(wf:Wf st){p:Pt}(hp:p∈st.aj)(hs:(aK st p).sum=st.prod):(lV st p).sum=st.bF.sum:=by
 have e:=xB (l:=gv st p) (i:=st.own.idxOf p.ow) (x:=-(p.wo*st.prod)) (by rw[s_ wf hp];exact v7 (wf.ow p hp));have e2:(gv st p).sum=st.bF.sum+p.wo*st.prod:=by unfold gv;rw[Cq _ (by rw[wX wf hp,wf.mG]),hs]
 unfold lV;rw[Int.sub_eq_add_neg,e,e2];omega
theorem Rg{c:Nat}{st:HS}(m:Mo c st)(g:Go c st)(wf:Wf st){d:Dd}(hr:jr st d=none):Mo (c+1) (iA st d):=by
 cases d with
 | sign o=>refine⟨?_,λa ha=>zQ _ (m.ao a ha),m.mono.aw⟩;show(st.bF++[0]).sum=0;rw[AY,m.pz];rfl
 | cast rs=>show Mo (c+1) (cV st rs);unfold cV;rw[jN];have:=Ll m (aE st-aQ rs) (aE st) (dW st rs);exact⟨this.pz,this.ao,this.aw⟩
 | award o a=>exact Ll m _ _ _
 | hand x o=>show Mo (c+1) (fj st x o);unfold fj;split <;> exact⟨m.pz,m.ao,m.mono.aw⟩
 | land x=>
  obtain⟨i,p,e1,rfl⟩:=jy (pI hr);have hp:=cu e1;show Mo (c+1) (rZ st p.nm);rw[oX wf hp];have S:∀{M:kI->Prop},(∀a∈st.bN,M a)->M ⟨p.nm,p.ow,p.wo,gR st p⟩->∀a∈st.bN++[⟨p.nm,p.ow,p.wo,gR st p⟩],M a:=λh1 h2 a ha=>by
   rcases fu.mp ha with z|z
   .exact h1 a z
   .rw [eX.mp z];exact h2
  have w:=g.wo p hp;exact⟨by show(lV st p).sum=0;rw[VI wf hp (g.sum p hp),m.pz],S m.ao (wf.ow p hp),S m.mono.aw ⟨(wf.jI p hp).1,by show p.wo<=_;omega⟩⟩
 | _=>exact⟨m.pz,m.ao,m.mono.aw⟩
theorem zJ:∀{l:List kI}{m:Int}(f:kI->Bool),(∀a∈l,1<=a.wo/\a.wo<=m)->0<=((l.filter f).map λa=>a.wo).sum/\((l.filter f).map λa=>a.wo).sum<=m*(l.length:Int)
 | [],m,_,_=>by show 0<=(0:Int)/\(0:Int)<=m*0;omega
 | a::l,m,f,h=>by
  have h0:=h a cU;have ih:=zJ (l:=l) (m:=m) f λx hx=>h x (cA _ hx);rw[e_,kM,show(((l.length+1:Nat)):Int)=(l.length:Int)+1 from by omega,wD,uD];by_cases c:f a=true
  .rw [aC c,bz,c_];omega
  .rw [aB c];omega
theorem Go.st{c:Nat}{st:HS}(g:Go c st)(m:Mo c st)(wf:Wf st)(hc:c<=91):ag9 st:=by
 refine⟨wf,g.sz wf hc,(g.whole wf hc).2,λo=>?_⟩;have h:=zJ (m:=92000000000000) (λa:kI=>decide (a.ow=o)) λa ha=>by have:=m.aw a ha;omega
 have hl:=g.al;have h2:(92000000000000:Int)*(st.bN.length:Int)<=92000000000000*91:=by omega
 have h3:E7 st o<=92000000000000*91:=Int.le_trans h.2 h2;have h1:0<=E7 st o:=h.1;exact(show Jm.Sz 60 (92000000000000*91:Int)from pT (by decide +kernel)).of_le (by omega)
theorem mo0{own:List Str}:Mo 0 (iM own):=by
 obtain⟨_,_,_,_,k5,k6⟩:=nc own hs0 rfl (λu hu=>absurd hu (by simp[hs0]));have k5:(iM own).bN=[] :=k5;have k6:∀u∈(iM own).bF,u=0:=k6;refine⟨?_,(λa ha=>by rw[k5]at ha;cases ha),λa ha=>by rw[k5]at ha;cases ha⟩;generalize (iM own).bF=l at *
 induction l with
 | nil=>rfl
 | cons a l ih=>rw[c_,k6 a cU,ih λu hu=>k6 u (cA _ hu)];rfl
theorem YV(st:HS):(aV st).map (λq:Q4=>q.2.2.1)=st.aj.map λp=>p.wo:=by unfold aV;rw[gj];rfl
section
variable {prog:Program}{w:World}{A:Around}{R:Result->Shared->Prop}{s:Shared}
theorem HN{kx vx target iter:Expr}{scope:Scope}{pos:Pos}{it:Value}{D:Addr}{env:Env}(J:Nat->Shared->Prop)(turn:∀n s,J n s->wpAny (model prog w) A (pyNext it) (λr s₁=>match r with
    | none=>R (.ok .next) s₁
    | some v=>wpAny (model prog w) A (letOwnedTupleGo target it v) (λ_ s₂=>wpAny (model prog w) A (assign target env v) (λ_ s₃=>wpAny (model prog w) A (eval kx env) (λkv s₄=>wpAny (model prog w) A (eval vx env) (λvv s₅=>
            wpAny (model prog w) A (dictSet D kv vv) (λ_ s₆=>∃m,m<n/\J m s₆) (λ_ _=>False) s₅) (λ_ _=>False) s₄) (λ_ _=>False) s₃) (λ_ _=>False) s₂) (λ_ _=>False) s₁) (λ_ _=>False) s)(n:Nat)(h:J n s):codeAny (model prog w) A (.compLoop (.DictComp kx vx [⟨target,iter,[],0⟩] scope pos) 0 it (.ref D) env) R s:=by
 refine codeAny_loop rfl J (λn s hI=>?_) n h
 show wpAny _ A ((compTurn (.DictComp kx vx [⟨target,iter,[],0⟩] scope pos) 0 it (.ref D) env).onRaise (λx=>do noteFrame x env;theTreesLotGoes x)) _ _ s
 refine wpAny_noted ?_
 rw[compTurn_dict]
 refine az (yu (az (gH (turn n s hI) (λr s₁ h₁=>?_) λ_ _ h'=>h'.elim)))
 cases r with
 | none=>exact aT h₁
 | some v=>
   refine az (gH h₁ (λ_ s₂ h₂=>az (gH h₂ (λ_ s₃ h₃=>?_) λ_ _ h'=>h'.elim)) λ_ _ h'=>h'.elim)
   simp only[yt,pure_bind,m7]
   refine az (az (gH h₃ (λkv s₄ h₄=>az (wc (gH h₄ (λvv s₅ h₅=>az (yu (wc (gH h₅ (λ_ s₆ h₆=>?_) λ_ _ h'=>h'.elim)))) λ_ _ h'=>h'.elim))) λ_ _ h'=>h'.elim))
   exact aT ⟨Z,h₆⟩
end
section
variable {X:Cx}
theorem E8{M:Model}{A:Around}{Q:VS}{E:VS}{s:Shared}(h:Q (.ref s.heap.objs.size) { s with heap:=s.heap.push { cls:=.type "dict",data:=.dict #[] } }):wpAny M A newDict Q E s:=by unfold newDict;exact xq h
theorem aa1{pins:AO}{σ:St}{H:Hp}{s:Shared}{a:Addr}{kvs:List (Key×V)}{k:Key}{v:V}{u r:Value}{A:Around}{E:VS}{Q:Unit->Shared->Prop}(I:Inv X pins σ H s)(e:H a=some (.dK kvs))(l:kvs.length<sizeLine)(ry:RelV (kV k) u)(rv:RelV v r)(h:∀s',Inv X pins σ (upd H a (.dK (putK kvs k v))) s'->Q () s'):wpAny (model X.prog X.w) A (dictSet a u r) Q E s:=by
 obtain⟨z,hd,vs,rel,dd⟩:=yz I.hok e;have hz:vs.length<=sizeLine:=by rw[<-rel.length];exact z
 have hl:(putK kvs k v).length<=sizeLine:=by have:=nP kvs k v;omega
 refine wpAny_dictSet_pairs (hsz:=hz) (wG ry) dd λh' uV hs=>h _ ?_;have he:∃q,h'.get? a=some q:=let⟨q,_,_,hq,_⟩:=uV;⟨q,hq⟩;exact xV I (by rw[e];exact True.intro) hs he (z8 hl hd (rel.put k rv) uV)
def WV(tv:TE)(σ:St)(N:Key->V->Hp->Prop)(kv:V)(H4:Hp):Prop:=∃k:Key,kv=kV k/\tv σ H4 λv H5=>N k v H5
def Rh(J:It)(g:TG)(tk tv:TE)(acc:Addr)(σ₀:St)(H:Hp)(Q:VK):Prop:=∃W:Nat->Nat->St->Hp->Prop,(∃m,W 0 m σ₀ (upd H acc (.dK [])))/\∀i m σ2 H2,W i m σ2 H2->(J.stop i H2/\Q (.ref acc) H2)\/(J.go i H2/\∃(S:St->Prop)(N:Key->V->Hp->Prop),(∀σ3 k v H4,S σ3->N k v H4->∃kvs,H4 acc=some (.dK kvs)/\kvs.length<sizeLine/\∃m',m'<m/\W (i+1) m' σ3 (upd H4 acc (.dK (putK kvs k v))))/\∀x H',J.zV i H2 x H'->g x σ2 H' λσ3 H3=>S σ3/\tk σ3 H3 (WV tv σ3 N))
def YW(ix:List (Option Nat))(g:TG)(tk tv:TE)(σ:St)(Q:VK):It->Hp->Prop:=λJ H1=>∀acc,H1 acc=none->Rh J g tk tv acc (pick ix σ) H1 Q
def aa2(wi:TI)(ix:List (Option Nat))(g:TG)(tk tv:TE):TE:=λσ H Q=>wi σ H (YW ix g tk tv σ Q)
theorem Nk{tg iter kx vx:Expr}{scope:Scope}{pos:Pos}{N2:List Str}{ix:List (Option Nat)}{g:TG}{tk tv:TE}{cl:List (Str×Addr)}{pins:AO}{σ:St}{H:Hp}{s:Shared}{E:VS}{Q:VK}{RR:Value->Addr->Result->Shared->Prop}(hc:X.calm=true)(hg:∀cl s₂ H₂ fp,PG (cQ X N2 scope cl s₂ H₂ fp) tg g)(he:∀cl s₂ H₂ fp,PE (cQ X N2 scope cl s₂ H₂ fp) kx tk)(hv:∀cl s₂ H₂ fp,PE (cQ X N2 scope cl s₂ H₂ fp) vx tv)(hk:scope.kind =.function)(hn:nQ X.N X.env.scope.names scope.names N2 ix=true)(B_:∀y c,(y,c)∈cl->X.env.cells.lookup y=some c)(Aa:∀y,(y,NameKind.free)∈scope.names->∃c,(y,c)∈cl){it:Addr}{fp:List Addr}{tn:Nat->Heap->Prop}{J:It}(I:Inv X pins σ H s)(T:Turn X.prog X.w X.K tg J fp it tn)(st:tn 0 s.heap)(f:∀b∈fp,mz X pins H b)(h:∀acc,H acc=none->Rh J g tk tv acc (ix.map λo=>o.bind λj=>(σ[j]?).join) H Q)(hR:∀acc C H' s' m,Inv X pins σ H' s'->s'.heap.Ns C m->H' C=none->C≠X.env.locals->X.s₀.heap.objs.size<=C->(∀x c,X.env.cells.lookup x=some c->c≠C)->(∀p∈X.pn++pins,p.1≠C)->Q (.ref acc) H'->RR (.ref acc) C (.ok .next) s'):
  wpAny (model X.prog X.w) X.A newDict (λacc s₃=>wpAny (model X.prog X.w) X.A (newFunctionEnv scope X.env.globals cl [] X.env.qual none .none (some X.env)) (λcenv s₄=>
   codeAny (model X.prog X.w) X.A (.compStart (.DictComp kx vx [⟨tg,iter,[],0⟩] scope pos) 0 (.ref it) acc { cenv with scope:=relabel scope X.env }) (RR acc cenv.locals) s₄) E s₃) E s:=by
 obtain⟨k1,k2,k3,k4,k5⟩:=kT hn
 refine E8 ?_
 have I3:Inv X pins σ (upd H s.heap.objs.size (.dK [])) { s with heap:=s.heap.push { cls:=.type "dict",data:=.dict #[] } }:=
  I.laid (a:=s.heap.objs.size) (o:=.dK []) (t':=s.toks) (λ_ _ q=>b9 _ q) (aO _) (B8 s.heap I.big)
 obtain⟨W,⟨m0,w0⟩,turn⟩:=h s.heap.objs.size I.fresh
 have fo:∀b∈fp,b<s.heap.objs.size:=λb hb=>by obtain⟨o,e,_⟩:=T.obj 0 _ st b hb;exact bU e
 have st3:tn 0 (s.heap.push { cls:=.type "dict",data:=.dict #[] }):=T.keep _ _ _ st λb _ o e=>b9 _ e
 have f3:∀b∈fp,mz X pins (upd H s.heap.objs.size (.dK [])) b:=λb hb=>⟨by rw[ay (d8 (fo b hb))];exact(f b hb).1,(f b hb).2⟩
 have GA:∀b∈fp,b<(s.heap.push { cls:=.type "dict",data:=.dict #[] }).objs.size:=λb hb=>by rw[kO];exact JK (fo b hb)
 generalize Se:({ s with heap:=s.heap.push { cls:=.type "dict",data:=.dict #[] } }:Shared)=s3 at *
 have Sf:s3.heap=s.heap.push { cls:=.type "dict",data:=.dict #[] }:=by rw[<-Se]
 rw[<-Sf]at st3 GA
 generalize s.heap.objs.size=acc at *
 generalize eH3:upd H acc (.dK [])=H3 at *
 have IY:=yD (N2:=N2) (scope:=scope) (cl:=cl) (fp:=fp) (σ2:=ix.map λo=>o.bind λj=>(σ[j]?).join) I3 hk B_ Aa f3 GA (by rw[aH];exact k1) (λi x v e1 e2=>by
  rw[cN]at e2;cases ei:ix[i]? with
  | none=>rw[ei]at e2;cases e2
  | some o=>
   rw[ei]at e2;cases o with
   | none=>cases e2
   | some j=>
    obtain⟨a1,a2,a3⟩:=k2 i x j e1 ei;refine⟨a2,a3,j,a1,?_⟩;have e3:(σ[j]?).join=some v:=fE e2;cases ej:σ[j]? with
    | none=>rw[ej]at e3;cases e3
    | some z=>rw[ej]at e3;exact ff some e3) k5
 have ne:wpAny (model X.prog X.w) X.A (newFunctionEnv scope X.env.globals cl [] X.env.qual none .none (some X.env)) (λcenv s₄=>
   cenv={ scope:=scope,locals:=s3.heap.objs.size,globals:=X.env.globals,cells:=cellsFrom (s3.heap.objs.size+1) scope.names cl,qual:=X.env.qual,func:=none,code:=X.env.code,frame:=X.env.frame,builtins:=X.env.builtins }/\
   s₄={ s3 with heap:=pushCells (s3.heap.push { cls:=.type "dict",data:=.dict #[] }) scope.names }) E s3:=by
  simp only[newFunctionEnv,Ql,m7]
  refine az (wpAny_alloc ?_)
  refine az (wpAny_layCells _ (λname kind cells=>by cases hkc:kind==NameKind.cell <;> simp[hkc]) _ _ _ _ ?_)
  rw[yt]
  refine az (aT (aT ⟨?_,Z⟩))
  rw[show({ s3 with heap:=s3.heap.push { cls:=.type "dict",data:=.dict #[] } }:Shared).heap.objs.size=s3.heap.objs.size+1 from kO ..]
 refine bh ne λcenv s4 ⟨e1,e2⟩=>?_
 subst e1 e2
 have GB:tn 0 (pushCells (s3.heap.push { cls:=.type "dict",data:=.dict #[] }) scope.names):=T.keep _ _ _ st3 λb _ o e=>CV _ _ b o (b9 _ e)
 have xX:s3.heap.objs.size≠X.env.locals:=wg I3.lt
 have oQ:∀{H':Hp},(∀b∈fp,H' b=none)->∀b∈fp,mz (cQ X N2 scope cl s3 H3 fp) [] H' b:=λ{H'} hn b hb=>
  ⟨hn b hb,(IY.ok.Gk b hb).1,IY.ok.BX b hb,.inl hb,(IY.ok.Gk b hb).2,λp hp=>nomatch hp⟩
 have loop:codeAny (model X.prog X.w) X.A (.compLoop (.DictComp kx vx [⟨tg,iter,[],0⟩] scope pos) 0 (.ref it) (.ref acc) (cQ X N2 scope cl s3 H3 fp).env) (RR (.ref acc) s3.heap.objs.size)
   { s3 with heap:=pushCells (s3.heap.push { cls:=.type "dict",data:=.dict #[] }) scope.names }:=by
  refine HN (λn s'=>∃i σ' H',Inv (cQ X N2 scope cl s3 H3 fp) [] σ' H' s'/\tn i s'.heap/\(∀b∈fp,H' b=none)/\W i n σ' H') ?_ m0 ⟨0,_,H3,IY,GB,λb hb=>(f3 b hb).1,w0⟩
  rintro n s5 ⟨i,σ5,H5,I5,zz,BF,w5⟩
  rcases turn i n σ5 H5 w5 with⟨stop,qn⟩|⟨go,S,N,Sg,step⟩
  . refine bh (T.done (cQ X N2 scope cl s3 H3 fp) rfl rfl rfl hc i [] s5 σ5 H5 (λ_ _=>False) I5 (oQ BF) zz stop) λr s6 ⟨hr,I6⟩=>?_
    subst hr
    obtain⟨m6,Sh,_⟩:=id I6.loc
    have IX:Inv X pins σ H5 s6:=I3.Qx (ch:=fp) I6.os I6.base I6.hok I6.bare λb hb=>⟨(f3 b hb).2.2.2.1,(f3 b hb).2.1,(f3 b hb).2.2.2.2.1,(f3 b hb).2.2.2.2.2⟩
    refine hR acc s3.heap.objs.size H5 s6 m6 IX Sh I6.free xX I3.sz (λx c e z=>?_) (λp hp z=>?_) qn
    . obtain⟨v,q⟩:=I3.cell x c e
      exact absurd q.lt (by rw[z];exact i7 _)
    . exact absurd (bU (I3.pin p hp).1) (by rw[z];exact i7 _)
  . refine bh (T.item (cQ X N2 scope cl s3 H3 fp) rfl rfl rfl hc i [] s5 σ5 H5 (λ_ _=>False) I5 (oQ BF) zz go) λr s6 ⟨u,hr,h6⟩=>?_
    subst hr
    refine bh h6 λ_ s7 ⟨x,H7,I7,r7,y7,xY,Ka⟩=>?_
    have Si:=I7.pinned (oQ Ka) (T.obj _ _ xY)
    refine bh (hg cl s3 H3 fp _ s7 σ5 H7 x u _ Si r7 (step x H7 y7)) λ_ s8 ⟨σ8,H8,I8,OL,q8⟩=>?_
    refine bh (he cl s3 H3 fp _ s8 σ8 H8 _ I8 q8) λkk s9 ⟨kv,H9,I9,r9,k,ek,q9⟩=>?_
    subst ek
    refine bh (hv cl s3 H3 fp _ s9 σ8 H9 _ I9 q9) λy s11 ⟨v,DW,I11,r11,q11⟩=>?_
    obtain⟨kvs,hxs,Sj,m',hm,w9⟩:=Sg σ8 k v DW OL q11
    refine aa1 (X:=cQ X N2 scope cl s3 H3 fp) I11 hxs Sj r9 r11 λs10 Ab=>?_
    refine⟨m',hm,i+1,σ8,_,Ab.oO,T.keep _ _ _ xY λb hb o e=>(Ab.pin (b,o) (gG _ (gG _ (iz hb e)))).1,λb hb=>?_,w9⟩
    obtain⟨o,e,d⟩:=T.obj _ _ xY b hb
    exact(Ab.pin (b,o) (gG _ (gG _ (iz hb e)))).2.1
 exact codeAny_compStart_dict loop (T.self _ 0 _ _ _ GB loop)
inductive WW(Pv:Nat->List (Key×V)->Hp->Prop)(i:Nat)(acc:Addr)(out:List (Key×V))(k:Key)(v:V)(H4:Hp):Prop
 |mk(_:H4 acc=some (.dK out))(_:Pv (i+1) (putK out k v:_) (upd H4 acc (.dK (putK out k v))))
theorem YX{K:Fg}{J:It}{n:Nat}(ks:List Nat){tk tv:TE}{σ2:St}{H:Hp}{acc:Addr}{Q:VK}(Pv:Nat->List (Key×V)->Hp->Prop)(nd:ks.Nodup)(hn:n<=100000)(h0:Pv 0 [] (upd H acc (.dK [])))(hgo:∀i out H1,i<n->H1 acc=some (.dK out)->Pv i out H1->J.go i H1)(hst:∀out H1,H1 acc=some (.dK out)->Pv n out H1->J.stop n H1)(hs:∀(i:Nat) (x:V) (out:List (Key×V)) (H1 H2:Hp),i<n->out.length<=i->H1 acc=some (.dK out)->Pv i out H1->J.zV i H1 x H2->
    ∃t vs,x =.ref t/\dG K H2 t vs/\vs.length=ks.length/\tk (dz σ2 ks vs) H2 (WV tv (dz σ2 ks vs) (WW Pv i acc out)))(hd:∀(out:List (Key×V)) (H1:Hp),H1 acc=some (.dK out)->Pv n out H1->Q (.ref acc) H1):
  Rh J (zT K ks.length (SH ks)) tk tv acc σ2 H Q:=by
 refine⟨λi m σ' H'=>m=n-i/\i<=n/\(∀ws,ws.length=ks.length->dz σ' ks ws=dz σ2 ks ws)/\∃out,out.length<=i/\H' acc=some (.dK out)/\Pv i out H',⟨n,by simp,fM _,λ_ _=>rfl,[],aO _,ai,h0⟩,?_⟩
 rintro i m σ' H' ⟨rfl,hi,hσ,out,ho,ha,p⟩
 by_cases hlt:i<n
 . refine .inr ⟨hgo i out H' hlt ha p,λσ3=>∀ws,ws.length=ks.length->dz σ3 ks ws=dz σ2 ks ws,(WW Pv i acc out),λσ3 k v H4 hS ⟨a,b⟩=>?_,λx H1 y=>?_⟩
   . have:=nP out k v
     refine⟨out,a,?_,n-(i+1),by omega,Z,hlt,hS,putK out k v,by omega,ai,b⟩
     have:sizeLine=16777216:=kP
     omega
   . obtain⟨t,vs,rfl,sq,hl,q⟩:=hs i x out H' H1 hlt ho ha p y
     refine⟨t,vs,Z,sq,hl,DA hl ⟨λws hw=>?_,?_⟩⟩
     . rw[pV nd hl hw];exact hσ ws hw
     . rw[hσ vs hl];exact q
 . have e:i=n:=by omega
   subst e
   exact .inl ⟨hst out H' ha p,hd out H' ha p⟩
inductive aa3(xs:List V)(H:Hp)(Q:VK):Prop
 |mk(a:Addr)(kvs:List (Key×V))(_:xs=[.ref a])(_:H a=some (.dK kvs))(_:∀l,H l=none->Q (.ref l) (upd H l (.dK kvs)))
theorem DX:i_ X (.type "dict") aa3:=by intro pins s σ H xs us Q I r h;obtain⟨a,kvs,rfl,e,q⟩:=h;obtain⟨u,rfl,ru⟩:=vals1 r;cases ru;obtain⟨z,hd,vs,rel,dd⟩:=yz I.hok e;refine kt_call_dict hd dd (by rw[<-rel.length];exact z) λh' uV sb=>?_;have fr:=I.fresh;refine⟨.ref s.heap.objs.size,_,I.laid (a:=s.heap.objs.size) (o:=.dK kvs) (t':=s.toks) (λb o hb=>(sb.2 b (d8 (bU hb))).trans (b9 _ hb)) (aO _) (z8 z (BS.mpr (bX (d8 I.big))) rel uV),Z,q _ fr⟩
end
section
variable {X:Cx}
theorem VJ{tg iter kx vx:Expr}{scope:Scope}{pos:Pos}(N2:List Str)(ix:List (Option Nat)){wi:TI}{g:TG}{tk tv:TE}(hc:X.calm=true)(hi:bI X tg iter wi)(hg:∀cl s₂ H₂ fp,bG (cQ X N2 scope cl s₂ H₂ fp) tg g)(he:∀cl s₂ H₂ fp,bE (cQ X N2 scope cl s₂ H₂ fp) kx tk)(hv:∀cl s₂ H₂ fp,bE (cQ X N2 scope cl s₂ H₂ fp) vx tv)(hk:scope.kind =.function)(hn:nQ X.N X.env.scope.names scope.names N2 ix=true)(hs:∀x,foldedSetIterable iter X.env x=pure x:=by intro _;rfl):bE X (.DictComp kx vx [⟨tg,iter,[],0⟩] scope pos) (aa2 wi ix g tk tv):=by have hi:=hi.h;have hg:=λcl s₂ H₂ fp=>(hg cl s₂ H₂ fp).h;have he:=λcl s₂ H₂ fp=>(he cl s₂ H₂ fp).h;have hv:=λcl s₂ H₂ fp=>(hv cl s₂ H₂ fp).h;constructor;intro pins s σ H Q I h;obtain⟨k1,k2,k3,k4,k5⟩:=kT hn;obtain⟨cl,Kf,c1,c2⟩:=uF (scope:=scope) (env:=X.env) λy hy e=>I.ok.has y.1 (k3 y hy e);rw[arm_eval_DictComp];refine P_ (use:=none) rfl hs Kf hk k4 (bh (hi pins s σ H _ I h) λv s1 h1=>bh h1 λitv s2 h2=>?_);obtain⟨it,fp,tn,J,H2,e,I2,T,st2,f2,h2⟩:=h2;subst e;refine Nk (RR:=λacc C=>compPost (model X.prog X.w) X.A X.xe none (EP X pins σ Q) acc C) (Q:=Q) hc hg he hv hk hn (λy c m=>(c1 y c m).1) c2 I2 T st2 f2 h2 ?_;intro acc C H' s' m I' ns xX hL hsz sR yH q;exact⟨m,ns,λh' hs'=>⟨.ref acc,H',I'.turned (it:=C) (t':=s'.toks) (λb o hb e=>(hs'.2 b hb).trans e) xX hL (.inr hsz) sR yH,Z,q⟩⟩
end
inductive aa4(T:TC)(K:Fg)(vs:List V)(H:Hp)(Q:VK)(E:XK):Prop
 |mk(a d r:Addr)(p:Pt)(_:vs=[.ref a])(_:H a=some (.ins T.part d (c9 p r)))(_:H r=some (.lst (p.row.map V.int)))(_:∀v dv rr H',aR H H'->H v=none->H rr=none->v≠rr->H' v=some (.ins T.part dv (c9 p rr))->H' rr=some (.lst (p.row.map V.int))->Q (.ref v) H')
def Pj(T:TC)(K:Fg):Sp:=bx (aa4 T K)
inductive aa5(T:TC)(K:Fg)(vs:List V)(H:Hp)(Q:VK)(E:XK):Prop
 |mk(bt db sp kn:Addr)(stp:List Int)(prod:Int)(_:vs=[.ref bt])(_:H bt=some (.ins T.bot db (jY sp prod kn)))(_:H sp=some (.lst (stp.map V.int)))(_:∀b2 d2 s2 k2 H',aR H H'->H b2=none->H s2=none->H k2=none->b2≠s2->b2≠k2->s2≠k2->H' b2=some (.ins T.bot d2 (jY s2 prod k2))->H' s2=some (.lst (stp.map V.int))->H' k2=some (.dK [])->Q (.ref b2) H')
def Pk(T:TC)(K:Fg):Sp:=bx (aa5 T K)
def Kept(ρ:cg)(H:Hp)(ρ':cg)(H':Hp):Prop:=∀b o,H b=some o->H' b=some o/\ρ' b=ρ b
theorem Kept.fr{n:Nat}{ρ ρ':cg}{H H':Hp}(k:Kept ρ H ρ' H'):Fr n ρ H ρ' H':=λb o e _=>k b o e
inductive aa6(T:TC)(vs:List V)(H:Hp)(Q:VK)(E:XK):Prop
 |mk(n m ρ A st:_)(_:vs=[.ref A.a])(_:n≠m)(_:HH T n ρ A H st)(_:∀ρ' A' H',HH T m ρ' A' H' { st with kn:=0 }->Kept ρ H ρ' H'->Q (.ref A'.a) H')
def Pn(T:TC):Sp:=bx (aa6 T)
theorem aL.aa7{T:TC}{n:Nat}{ρ:cg}{A:HA}{H:Hp}{st:HS}(h:aL T n ρ A H st)(g:Gh ρ H)(q:Addr)(l:List Str)(e:H q=some (.dK (fT 0 l)))(c:ρ q=col n 1):aL T n ρ { A with pl:=q } (upd H A.a (.ins T.hold A.dx (dU { A with pl:=q }))) { st with own:=l }:=by have k:=dP (o:=.ins T.hold A.dx (dU { A with pl:=q })) g h.ca;obtain⟨vs,h1,h2⟩:=h.nt;obtain⟨kvs,k1,k2,k3⟩:=h.okn;exact⟨ai,h.ca,kz k c e,c,kz k h.fD h.dB,h.fD,⟨vs,kz k h.gJ h1,h2.keep k (by decide)⟩,h.gJ,kz k h.gK h.nu,h.gK,kz k h.gM h.jc,h.gM,kz k h.gO h.iH,h.gO,kz k h.cpu h.jA,h.cpu,kz k h.gP h.lZ,h.gP,⟨kvs,kz k h.gQ k1,λp hp=>let⟨t,r,e,q⟩:=k2 p hp;⟨t,r,e,k.1 _ _ q⟩,k3⟩,h.gQ,h.ql,λi p q e1 e2=>let⟨a,b,c,d⟩:=h.opt i p q e1 e2;⟨kz k c a,kz k d b,c,d⟩⟩
theorem aL.aa8{T:TC}{n:Nat}{ρ:cg}{A:HA}{H:Hp}{st:HS}(h:aL T n ρ A H st)(g:Gh ρ H)(q:Addr)(l:List Str)(e:H q=some (.dK (x9 l)))(c:ρ q=col n 4):aL T n ρ { A with nm:=q } (upd H A.a (.ins T.hold A.dx (dU { A with nm:=q }))) { st with nms:=l }:=by have k:=dP (o:=.ins T.hold A.dx (dU { A with nm:=q })) g h.ca;obtain⟨vs,h1,h2⟩:=h.nt;obtain⟨kvs,k1,k2,k3⟩:=h.okn;exact⟨ai,h.ca,kz k h.gE h.g_,h.gE,kz k h.fD h.dB,h.fD,⟨vs,kz k h.gJ h1,h2.keep k (by decide)⟩,h.gJ,kz k c e,c,kz k h.gM h.jc,h.gM,kz k h.gO h.iH,h.gO,kz k h.cpu h.jA,h.cpu,kz k h.gP h.lZ,h.gP,⟨kvs,kz k h.gQ k1,λp hp=>let⟨t,r,e,q⟩:=k2 p hp;⟨t,r,e,k.1 _ _ q⟩,k3⟩,h.gQ,h.ql,λi p q e1 e2=>let⟨a,b,c,d⟩:=h.opt i p q e1 e2;⟨kz k c a,kz k d b,c,d⟩⟩
theorem aL.aa9{T:TC}{n:Nat}{ρ:cg}{A:HA}{H:Hp}{st:HS}(h:aL T n ρ A H st)(g:Gh ρ H)(q:Addr)(l:List kI){ws:List V}(e:H q=some (.lst ws))(c:ρ q=col n 3)(ha:j9 n ρ H ws l):aL T n ρ { A with as:=q } (upd H A.a (.ins T.hold A.dx (dU { A with as:=q }))) { st with bN:=l }:=by have k:=dP (o:=.ins T.hold A.dx (dU { A with as:=q })) g h.ca;obtain⟨kvs,k1,k2,k3⟩:=h.okn;exact⟨ai,h.ca,kz k h.gE h.g_,h.gE,kz k h.fD h.dB,h.fD,⟨ws,kz k c e,ha.keep k (by decide)⟩,c,kz k h.gK h.nu,h.gK,kz k h.gM h.jc,h.gM,kz k h.gO h.iH,h.gO,kz k h.cpu h.jA,h.cpu,kz k h.gP h.lZ,h.gP,⟨kvs,kz k h.gQ k1,λp hp=>let⟨t,r,e,q⟩:=k2 p hp;⟨t,r,e,k.1 _ _ q⟩,k3⟩,h.gQ,h.ql,λi p q e1 e2=>let⟨a,b,c,d⟩:=h.opt i p q e1 e2;⟨kz k c a,kz k d b,c,d⟩⟩
theorem aL.aa_{T:TC}{n:Nat}{ρ:cg}{A:HA}{H:Hp}{st:HS}(h:aL T n ρ A H st)(g:Gh ρ H)(q:Addr)(ps:List Pt)(qs:List (Addr×Addr×Addr))(e:H q=some (.dK (b8 ps qs)))(c:ρ q=col n 2)(el:qs.length=ps.length)(hp:∀(i:Nat) (p:Pt) (q:Addr×Addr×Addr),ps[i]?=some p->qs[i]?=some q->H q.1=some (.ins T.part q.2.1 (c9 p q.2.2))/\H q.2.2=some (.lst (p.row.map V.int))/\ρ q.1=some (n,20,p.nm)/\ρ q.2.2=some (n,21,p.nm)):aL T n ρ { { A with ab:=q }with qs:=qs } (upd H A.a (.ins T.hold A.dx (dU { A with ab:=q }))) { st with aj:=ps }:=by have k:=dP (o:=.ins T.hold A.dx (dU { A with ab:=q })) g h.ca;obtain⟨vs,h1,h2⟩:=h.nt;obtain⟨kvs,k1,k2,k3⟩:=h.okn;exact⟨ai,h.ca,kz k h.gE h.g_,h.gE,kz k c e,c,⟨vs,kz k h.gJ h1,h2.keep k (by decide)⟩,h.gJ,kz k h.gK h.nu,h.gK,kz k h.gM h.jc,h.gM,kz k h.gO h.iH,h.gO,kz k h.cpu h.jA,h.cpu,kz k h.gP h.lZ,h.gP,⟨kvs,kz k h.gQ k1,λp hp=>let⟨t,r,e,q⟩:=k2 p hp;⟨t,r,e,k.1 _ _ q⟩,k3⟩,h.gQ,el,λi p q e1 e2=>let⟨a,b,c,d⟩:=hp i p q e1 e2;⟨kz k c a,kz k d b,c,d⟩⟩
theorem aL.aba{T:TC}{n:Nat}{ρ:cg}{A:HA}{H:Hp}{st:HS}(h:aL T n ρ A H st)(g:Gh ρ H)(b d s k0:Addr)(stp:List Int)(m:Int)(e1:H b=some (.ins T.bot d (jY s m k0)))(e2:H s=some (.lst (stp.map V.int)))(e3:H k0=some (.dK []))(c1:ρ b=col n 5)(c2:ρ s=col n 8)(c3:ρ k0=col n 9):aL T n ρ { A with bt:=b,db:=d,sp:=s,kn:=k0 } (upd H A.a (.ins T.hold A.dx (dU { A with bt:=b }))) { st with stp:=stp,prod:=m,kn:=0 }:=by have k:=dP (o:=.ins T.hold A.dx (dU { A with bt:=b })) g h.ca;obtain⟨vs,h1,h2⟩:=h.nt;exact⟨ai,h.ca,kz k h.gE h.g_,h.gE,kz k h.fD h.dB,h.fD,⟨vs,kz k h.gJ h1,h2.keep k (by decide)⟩,h.gJ,kz k h.gK h.nu,h.gK,kz k c1 e1,c1,kz k h.gO h.iH,h.gO,kz k h.cpu h.jA,h.cpu,kz k c2 e2,c2,⟨[],kz k c3 e3,(λp hp=>absurd hp (by simp)),aO _,uB⟩,c3,h.ql,λi p q e1 e2=>let⟨a,b,c,d⟩:=h.opt i p q e1 e2;⟨kz k c a,kz k d b,c,d⟩⟩
structure ku(T:TC)(n m:Nat)(ρ:cg)(H:Hp)(A:HA)(st:HS)(x:Addr)(ρ1:cg)(H1:Hp)(B:HA)(s1:HS):Prop where
 nm:n≠m
 hx:H x=none
 hs:aL T n ρ1 A H1 st
 ht:aL T m ρ1 B H1 s1
 g:Gh ρ1 H1
 k:Kept ρ H ρ1 H1
 ea:B.a=x
section
variable {T:TC}{n m:Nat}{ρ ρ1:cg}{H H1:Hp}{A B:HA}{st s1:HS}{x:Addr}
theorem ku.free(h:ku T n m ρ H A st x ρ1 H1 B s1){b:Addr}(e:H1 b=none):H b=none:=by
 cases e2:H b with
 | none=>rfl
 | some o=>rw[(h.k b o e2).1]at e;cases e
theorem ku.same(h:ku T n m ρ H A st x ρ1 H1 B s1){H2:Hp}(s:aR H1 H2):ku T n m ρ H A st x ρ1 H2 B s1:=⟨h.nm,h.hx,h.hs.mono s,h.ht.mono s,h.g.same s,λb o e=>⟨s _ _ (h.k b o e).1,(h.k b o e).2⟩,h.ea⟩
theorem ku.col(h:ku T n m ρ H A st x ρ1 H1 B s1){l:Addr}{o:HO}{c:qL}(e:H1 l=some o)(t:isTup o=false)(cl:ρ1 l=none)(hl:H l=none):ku T n m ρ H A st x (c8 ρ1 l c) H1 B s1:=by
 have z:∀{j:Nat},Kp j ρ1 (c8 ρ1 l c) H1 H1 λ_=>true:=λ{j}=>⟨λ_ _ e=>e,λb u y w _ hc he=>⟨he,by rw[bB (λz=>by rw[z,cl]at hc;cases hc)];exact hc⟩⟩
 exact⟨h.nm,h.hx,h.hs.same z,h.ht.same z,h.g.color e t,λb o e=>⟨(h.k b o e).1,by rw[bB (aD e hl)];exact(h.k b o e).2⟩,h.ea⟩
theorem ku.set(h:ku T n m ρ H A st x ρ1 H1 B s1){B':HA}{s':HS}{o:HO}(t:isTup o=false)(ht:aL T m ρ1 B' (upd H1 B.a o) s')(ea:B'.a=B.a):ku T n m ρ H A st x ρ1 (upd H1 x o) B' s':=by have e:=h.ea;have hx:=h.hx;subst e;exact⟨h.nm,hx,h.hs.other (Fr.write h.ht.ca) h.g h.nm,ht,h.g.wr t,λb u e=>⟨by rw[ay (λz=>by rw[z,hx]at e;cases e)];exact(h.k b u e).1,(h.k b u e).2⟩,ea⟩
end
theorem VL{T:TC}{n m:Nat}{ρ:cg}{H:Hp}{A B:HA}{st s1:HS}{x:Addr}{ws:List V}{l:List kI}{ρ1:cg}{H1:Hp}(h:ku T n m ρ H A st x ρ1 H1 B s1)(hL:ki ρ1 H1 ws l)(hf:∀b ss,H1 b=some (.lst ss)->ρ1 b=none->(∃w∈ws,∃r xs,w =.ref r/\H1 r=some (.tup xs)/\V.ref b∈xs)->H b=none):∃ρ2,ku T n m ρ H A st x ρ2 H1 B s1/\j9 m ρ2 H1 ws l/\∀b,ρ2 b=ρ1 b\/(ρ1 b=none/\ρ2 b=some (m,30,⟨#[]⟩)/\∃w∈ws,∃r xs,w =.ref r/\H1 r=some (.tup xs)/\V.ref b∈xs):=by
 induction hL with
 | nil=>exact⟨ρ1,h,.nil,λb=> .inl rfl⟩
 | @cons r t y ss vs as a b c d hL ih=>
  obtain⟨ρ2,h2,hA,hc⟩:=ih λb ss e1 e2 ⟨w,hw,z⟩=>hf b ss e1 e2 ⟨w,cA _ hw,z⟩;have ht:H t=none:=hf t ss b c ⟨.ref r,cU,r,_,Z,a,by simp⟩;have up:∀b,ρ2 b=ρ1 b\/(ρ1 b=none/\ρ2 b=some (m,30,⟨#[]⟩)/\∃w∈V.ref r::vs,∃r xs,w =.ref r/\H1 r=some (.tup xs)/\V.ref b∈xs):=λb=>(hc b).imp (λz=>z) λ⟨z1,z2,w,hw,z3⟩=>⟨z1,z2,w,cA _ hw,z3⟩
  rcases hc t with e|⟨_,e,_⟩
  .rw [c]at e;have h3:=h2.col (c:=(m,30,⟨#[]⟩)) b rfl e ht;refine⟨_,h3,.cons a b cC d ?_,λb'=>?_⟩
   .exact hA.keep (ts:=λ_=>true) ⟨λ_ _ e=>e,λb u y w _ hc he=>⟨he,by rw[bB (λz=>by rw[z,e]at hc;cases hc)];exact hc⟩⟩ rfl
   .by_cases z:b'=t
    .rw [z];exact .inr ⟨c,cC,.ref r,cU,r,_,Z,a,by simp⟩
    .rw [bB z];exact up b'
  .exact ⟨ρ2,h2,.cons a b e d hA,up⟩
section
variable {T:TC}{n m:Nat}{ρ ρ1:cg}{H H1:Hp}{A B:HA}{st s1:HS}{x:Addr}
theorem ku.wrO(h:ku T n m ρ H A st x ρ1 H1 B s1){a:Addr}{o u:HO}(c:ρ1 a=none)(e:H1 a=some u)(tu:isTup u=false)(t:isTup o=false)(ha:H a=none):ku T n m ρ H A st x ρ1 (upd H1 a o) B s1:=⟨h.nm,h.hx,h.hs.same (sW c e tu),h.ht.same (sW c e tu),h.g.wr t,λb w q=>⟨by rw[ay (aD q ha)];exact(h.k b w q).1,(h.k b w q).2⟩,h.ea⟩
theorem ku.fld(h:ku T n m ρ H A st x ρ1 H1 B s1){l:Addr}{o:HO}{k:Nat}{B':HA}{s':HS}(hl:H1 l=none)(t:isTup o=false)(hn:∀{ρ2:cg} {H2:Hp},aL T m ρ2 B H2 s1->Gh ρ2 H2->H2 l=some o->ρ2 l=L2.col m k->aL T m ρ2 B' (upd H2 B.a (.ins T.hold B.dx (dU B'))) s')(ea:B'.a=B.a):upd H1 l o x=some (.ins T.hold B.dx (dU B))/\∃ρ2,ku T n m ρ H A st x ρ2 (upd (upd H1 l o) x (.ins T.hold B.dx (dU B'))) B' s':=by have t2:=(h.same (aG hl o)).col (c:=(m,k,⟨#[]⟩)) ai t (h.g.none hl) (h.free hl);refine⟨h.ea▸t2.ht.oa,c8 ρ1 l (m,k,⟨#[]⟩),?_⟩;exact t2.set (o:=.ins T.hold B.dx (dU B')) rfl (hn t2.ht t2.g ai cC) ea
end
inductive VM(T:TC)(vs:List V)(H:Hp)(Q:VK)(E:XK):Prop
 |mk(n ρ A st:_)(_:vs=[.ref A.a])(_:HH T n ρ A H st)(_:∀r ws H',aR H H'->H r=none->H' r=some (.lst ws)->ki ρ H' ws st.bN->(∀w∈ws,∃t xs,w =.ref t/\H' t=some (.tup xs)/\∀b,V.ref b∈xs->H b=none/\b≠r)->Q (.ref r) H')
def AH(T:TC):Sp:=bx (VM T)
theorem Tq{P:Program}{w:World}{K:Fg}{mg:SO}{base:Heap}{k:Nat}{T:TC}{ps:List Str}(D:Mn P w K mg base k T.hold "landed" ps (AH T)):Mn P w K mg base k T.hold "landed" ps (Kz T):=D.imp λvs H Q E h=>by obtain⟨⟨n,ρ,A,st,rfl,hh,q⟩⟩:=h;exact⟨n,ρ,A,st,Z,hh,λr ws H' a b c d _=>q r ws H' a b c d⟩
theorem Lm(f:Pt->Int):∀ps:List Pt,((ps.filter λp=>decide (p.wo≠0)).map λp=>p.wo*f p).sum=(ps.map λp=>p.wo*f p).sum
 | []=>rfl
 | p::ps=>by
  rw[e_,bz,c_,<-Lm f ps];by_cases c:p.wo=0
  .rw [aB (by simpa using c),c,pP,wu]
  .rw [aC (by simpa using c),bz,c_]
theorem VN(f:Pt->Int)(hf:∀(p:Pt) (w:Int),f { p with wo:=w }=f p){x:Str}{a:Int}{p0:Pt}(e:p0.nm=x):∀{ps:List Pt},(ps.map λp:Pt=>p.nm).Nodup->p0∈ps->((jL ps x a).map λp=>p.wo*f p).sum=(ps.map λp=>p.wo*f p).sum-a*f p0:=by
 intro ps nd h;unfold jL;rw[Lm];have out:∀{l:List Pt},(∀p∈l,p.nm≠x)->l.map (λp=>if p.nm=x then{ p with wo:=p.wo-a } else p)=l:=λ{l} h=>by refine(oN (g:=id) λp hp=>aB (h p hp)).trans (List.map_id _)
 induction ps with
 | nil=>cases h
 | cons p ps ih=>
  obtain⟨n1,n2⟩:=fX.mp nd;by_cases c:p.nm=x
  .have ep:p0=p:=by
    rcases cK.mp h with z|z
    .exact z
    .exact absurd (a_.mpr ⟨p0,z,e.trans c.symm⟩) n1
   subst ep;rw[bz,aC c,out λq hq z=>n1 (a_.mpr ⟨q,hq,z.trans c.symm⟩),bz,bz,c_,c_,hf];show(p0.wo-a)*f p0+_=_;rw[Int.sub_mul];omega
  .have hm:p0∈ps:=(cK.mp h).resolve_left λz=>c (by rw[<-z];exact e);rw[bz,aB c,bz,bz,c_,c_,ih n2 hm];omega
theorem Hv(f:Pt->Int)(hf:∀(p:Pt) (w:Int),f { p with wo:=w }=f p):∀(rs:List Row){st:HS},Wf st->Due st rs->(rs.map λr:Row=>r.1).Nodup->((rs.foldl cT st).aj.map λp=>p.wo*f p).sum=(st.aj.map λp=>p.wo*f p).sum-cI rs λx=>f (bH st x)
 | [],st,_,_,_=>by show _=_-(0:Int);rw[A3];rfl
 | r::rs,st,wf,d,nd=>by
  have n2:=(fX.mp nd).2;have n1:=(fX.mp nd).1;have wf1:=KQ wf d;have d1:=Cj wf d nd;obtain⟨p,hp,e,_⟩:=d r cU;show((rs.foldl cT (cT st r)).aj.map λp=>p.wo*f p).sum=_;rw[Hv f hf rs wf1 d1 n2];have h1:((cT st r).aj.map λp=>p.wo*f p).sum=(st.aj.map λp=>p.wo*f p).sum-r.2*f (bH st r.1):=by rw[bQ wf hp e];exact VN f hf e wf.dN hp
  have h2:cI rs (λx=>f (bH (cT st r) x))=cI rs λx=>f (bH st x):=by
   unfold cI;congr 1;refine oN λy hy=>?_;obtain⟨q,hq,eq,_⟩:=d y (cA _ hy);have ny:q.nm≠r.1:=λz=>n1 (a_.mpr ⟨y,hy,eq.symm.trans z⟩);have hw:q.wo≠0:=by have:=(wf.jI q hq).1;omega
   show y.2*f (bH (cT st r) y.1)=y.2*f (bH st y.1);rw[bQ wf hq eq,bQ wf1 (DK hq ny hw) eq]
  rw[h1,h2];unfold cI;rw[bz,c_];show _=_-(r.2*f (bH st r.1)+_);omega
theorem Ri{rs:List Row}{st:HS}(wf:Wf st)(d:Due st rs)(nd:(rs.map λr:Row=>r.1).Nodup):aE (rs.foldl cT st)=aE st-aQ rs:=by have h:=Hv (λ_=>1) (λ_ _=>rfl) rs wf d nd;unfold cI at h;unfold aE aQ;have z:∀{α:Type}(g:α->Int)(l:List α),l.map (λp=>g p*1)=l.map g:=λg l=>oN λp _=>uD _;rw[z,z,z]at h;exact h
theorem Rj{st:HS}{rs:List Row}(wf:Wf st)(c:jM st rs):aE (cV st rs)=aE st-aQ rs:=by unfold cV;rw[Ri (u_ wf (c.blend wf)) (As c.due) c.nd];congr 1;unfold aE aN;rw[kJ];show((st.aj.map _).map _).sum=_;rw[gj];rfl
theorem VO{st:HS}(wf:Wf st){rs:List Row}(nd:(rs.map λr:Row=>r.1).Nodup)(row:∀r∈rs,1<=r.2/\∃w∈mP st,w.1=r.1/\r.2<=w.2)(hl:aQ rs<aE st)(hne:rs≠[]):jP st rs=none:=by
 unfold jP;rw[aC ⟨hne,nd⟩];have e:rs.findSome? (iW st)=none:=List.findSome?_eq_none_iff.mpr λr hr=>by obtain⟨h1,w,hw,e1,e2⟩:=row r hr;unfold mP at hw;obtain⟨p,hp,rfl⟩:=a_.mp hw;have e1:p.nm=r.1:=e1;have e2:r.2<=p.wo:=e2;unfold iW;rw[aC (by unfold d_;exact a_.mpr ⟨p,hp,e1⟩),aB (by omega),bQ wf hp e1,aB (by omega)]
 rw[e];show(if aE st<=aQ rs then some 6 else none)=none;rw[aB (by omega)]
theorem nD.mo{c m:Nat}{st:HS}{ds:List Dd}(h:nD st ds)(g:GW c m st)(mo:Mo c st)(hc:c+ds.length<=91)(hm:m+100*ds.length<=1000000)(ho:st.own.length<100):∀i≤ds.length,Mo (c+i) (cL st (ds.take i)):=by
 intro i
 induction i with
 | zero=>intro _;exact mo
 | succ i ih=>intro hi;have ei:=bM (show i<ds.length by omega);obtain⟨h1,h2,h3⟩:=h i _ ei;have gi:=(h.go g hc hm ho i (by omega)).1;rw[take_snoc ei,iB];exact Rg (ih (by omega)) gi.g gi.wf h1
theorem lT.tups{H H':Hp}{vs:List V}{qs:List Rat}(h:lT H vs qs)(g:∀b xs,H b=some (.tup xs)->H' b=some (.tup xs)):lT H' vs qs:=by
 induction h with
 | nil=>exact .nil
 | cons a _ ih=>exact .cons (g _ _ a) ih
theorem VP(st:HS):yd (aV st)=mP st:=by unfold yd aV mP;rw[gj];rfl
theorem y_(m:Int)(l:List Int)(i:Nat):(l.map (·*m)).getD i 0=l.getD i 0*m:=by
 rw[lu,lu,cN];cases l[i]? with
 | none=>show(0:Int)=0*m;omega
 | some x=>rfl
inductive Pd:PyData->Nat->Prop
 | str {x:Str} {n:Nat}:PyData.strOk x=true->Pd (.str x) n
 | int {i:Int} {n:Nat}:Pd (.int i) n
 | list {ds:List PyData} {n:Nat}:(∀d∈ds,Pd d n)->Pd (.list ds) (n+1)
 | tuple {ds:List PyData} {n:Nat}:(∀d∈ds,Pd d n)->Pd (.tuple ds) (n+1)
theorem Ln:∀{ds:List PyData},(∀d∈ds,PyData.canLay0 d=true)->PyData.canLayAll0 ds=true
 | [],_=>rfl
 | d::r,h=>by unfold PyData.canLayAll0;rw[h d cU,Ln λd hd=>h d (cA _ hd)];rfl
theorem Ct{n:Nat}:∀{ds:List PyData},(∀d∈ds,PyData.depth d<=n)->PyData.depthAll ds<=n
 | [],_=>fM _
 | d::r,h=>by unfold PyData.depthAll;have h1:=h d cU;have h2:=Ct λd hd=>h d (cA _ hd);omega
theorem Lo:∀{ds:List PyData},(∀d∈ds,PyData.eqv d d=true)->PyData.eqvAll ds ds=true
 | [],_=>rfl
 | d::r,h=>by unfold PyData.eqvAll;rw[h d cU,Lo λd hd=>h d (cA _ hd)];rfl
theorem Pd.facts{d:PyData}{n:Nat}(h:Pd d n):PyData.canLay0 d=true/\PyData.depth d<=n/\PyData.eqv d d=true:=by
 induction h with
 | str e=>exact⟨by unfold PyData.canLay0;exact e,fM _,by unfold PyData.eqv;exact CS _⟩
 | int=>exact⟨Z,fM _,by unfold PyData.eqv;exact CS _⟩
 | list _ ih=>
  refine⟨?_,?_,?_⟩
  .unfold PyData.canLay0;exact Ln λd hd=>(ih d hd).1
  .unfold PyData.depth;have:=Ct λd hd=>(ih d hd).2.1;omega
  .unfold PyData.eqv;exact Lo λd hd=>(ih d hd).2.2
 | tuple _ ih=>
  refine⟨?_,?_,?_⟩
  .unfold PyData.canLay0;exact Ln λd hd=>(ih d hd).1
  .unfold PyData.depth;have:=Ct λd hd=>(ih d hd).2.1;omega
  .unfold PyData.eqv;exact Lo λd hd=>(ih d hd).2.2
theorem Pd.shaped{d:PyData}{n:Nat}(h:Pd d n)(hn:n<=64):SeqAt.shaped d=true:=by unfold SeqAt.shaped;rw[h.facts.1];exact br (gh h.facts.2.1 hn)
theorem Pd.eqv{d:PyData}{n:Nat}(h:Pd d n):PyData.eqv d d=true:=h.facts.2.2
theorem ne_data{K:Fg}{H:Hp}{x y:V}{d:PyData}{n:Nat}{Q:VK}(h1:Dt K H x d)(h2:Dt K H y d)(p:Pd d n)(hn:n<=64)(q:Q (.bl false) H):U5 K x y H Q:=⟨d,d,h1,h2,p.shaped hn,p.shaped hn,by rw[p.eqv];exact q⟩
def Po(x:Str×Rat):PyData:=.tuple [.str x.1,.tuple [.int x.2.num,.int (x.2.den:Int)]]
def Tr(p:Pt):PyData:=.tuple [.str p.nm,.str p.ow,.int p.wo,.int p.we]
def VQ(a:kI):PyData:=.tuple [.str a.nm,.str a.ow,.int a.wo,.list (a.sh.map Po)]
section
variable {K:Fg}{H:Hp}
theorem jm.dt{vs:List V}{l:List (Str×Rat)}(h:jm H vs l):uw K H vs (l.map Po):=by
 induction h with
 | nil=>exact .nil
 | cons a b _ ih=>exact .cons (.tup (dG.of a) (.cons (.str _) (.cons (Sk b) .nil))) ih
theorem jw.dt{vs:List V}{l:List Pt}(h:jw H vs l):uw K H vs (l.map Tr):=by
 induction h with
 | nil=>exact .nil
 | cons a _ ih=>exact .cons (.tup (dG.of a) (.cons (.str _) (.cons (.str _) (.cons (.int _) (.cons (.int _) .nil))))) ih
theorem ki.dt{ρ:cg}{vs:List V}{l:List kI}(h:ki ρ H vs l):uw K H vs (l.map VQ):=by
 induction h with
 | nil=>exact .nil
 | cons a b _ d _ ih=>exact .cons (.tup (dG.of a) (.cons (.str _) (.cons (.str _) (.cons (.int _) (.cons (.lst (aJ.of b) d.dt) .nil))))) ih
end
theorem pd4{a b c d:PyData}{n:Nat}(h1:Pd a n)(h2:Pd b n)(h3:Pd c n)(h4:Pd d n):Pd (.tuple [a,b,c,d]) (n+1):=.tuple λx hx=>by
 rcases cK.mp hx with rfl|hx
 .exact h1
 rcases cK.mp hx with rfl|hx
 .exact h2
 rcases cK.mp hx with rfl|hx
 .exact h3
 rcases cK.mp hx with rfl|hx
 .exact h4
 cases hx
theorem pd2{a b:PyData}{n:Nat}(h1:Pd a n)(h2:Pd b n):Pd (.tuple [a,b]) (n+1):=.tuple λx hx=>by
 rcases cK.mp hx with rfl|hx
 .exact h1
 rcases cK.mp hx with rfl|hx
 .exact h2
 cases hx
theorem vg{α:Type}{f:α->PyData}{n:Nat}{l:List α}(h:∀x∈l,Pd (f x) n):Pd (.list (l.map f)) (n+1):=.list λd hd=>by obtain⟨x,hx,rfl⟩:=a_.mp hd;exact h x hx
theorem Tt{x:Str×Rat}(h:PyData.strOk x.1=true):Pd (Po x) 2:=pd2 (.str h) (pd2 .int .int)
theorem abd{p:Pt}(h1:PyData.strOk p.nm=true)(h2:PyData.strOk p.ow=true):Pd (Tr p) 1:=pd4 (.str h1) (.str h2) .int .int
theorem YY{a:kI}(h1:PyData.strOk a.nm=true)(h2:PyData.strOk a.ow=true)(h3:∀x∈a.sh,PyData.strOk x.1=true):Pd (VQ a) 4:=pd4 (.str h1) (.str h2) .int (vg λx hx=>Tt (h3 x hx))
theorem Nl{st:HS}{p:Pt}{x:Str×Rat}(h:x∈gR st p):x.1∈st.own:=by
 unfold gR at h;obtain⟨y,hy,e⟩:=Qk.mp h;split at e
 .cases e;exact(CU hy).1
 .cases e
theorem Ld.names{c:Nat}{own:List Str}{sh:List (Str×Rat)}(h:Ld c own sh){x:Str×Rat}(hx:x∈sh):x.1∈own:=by
 obtain⟨o0,ts,b,h1,h2,rfl,_⟩:=h;unfold jK at hx;obtain⟨y,hy,e⟩:=Qk.mp hx;split at e
 .cases e;exact h1.subset (CU hy).1
 .cases e
def An(st:HS):Prop:=∀a∈st.bN,isNm a.nm=true
theorem WX{c:Nat}{st:HS}(h:An st)(g:Go c st)(wf:Wf st){d:Dd}(hr:jr st d=none):An (iA st d):=by
 cases d with
 | cast rs=>show An (cV st rs);unfold cV;rw[jN];unfold An aN;rw[kL];exact h
 | award o a=>show An (qb st o a);unfold qb An aN;rw[kL];exact h
 | hand x o=>show An (fj st x o);unfold fj;split <;> exact h
 | land x=>
  intro a ha;rcases fu.mp (show a∈st.bN++[_]from ha)with z|z
  .exact h a z
  .rw [eX.mp z];obtain⟨i,p,e1,rfl⟩:=jy (pI hr);exact g.nk _ (wf.sub p (cu e1))
 | _=>exact h
def WY(st:HS)(ds:List Dd):Prop:=∀(i:Nat)(d:Dd),ds[i]?=some d->jr (cL st (ds.take i)) d=none/\WU d/\d.k≠0
theorem nD.toG{st:HS}{ds:List Dd}(h:nD st ds):WY st ds:=λi d e=>let⟨a,b,c⟩:=h i d e;⟨a,b.g,c⟩
theorem WY.go{c m:Nat}{st:HS}{ds:List Dd}(h:WY st ds)(g:GW c m st)(mo:Mo c st)(an:An st)(hc:c+ds.length<=91)(hm:m+100*ds.length<=1000000)(ho:st.own.length<100):∀i≤ds.length,GW (c+i) (m+100*i) (cL st (ds.take i))/\(cL st (ds.take i)).own=st.own/\Mo (c+i) (cL st (ds.take i))/\An (cL st (ds.take i)):=by
 intro i
 induction i with
 | zero=>intro _;exact⟨g,Z,mo,an⟩
 | succ i ih=>intro hi;obtain⟨g1,e1,m1,a1⟩:=ih (by omega);have ei:=bM (show i<ds.length by omega);obtain⟨h1,h2,h3⟩:=h i _ ei;rw[take_snoc ei,iB];have:=g1.do (by omega) (by omega) (by rw[e1];exact ho) h1 h2;exact⟨by rw[show c+(i+1)=c+i+1 by omega,show m+100*(i+1)=m+100*i+100 by omega];exact this,by rw[Lk h3,e1],Rg m1 g1.g g1.wf h1,WX a1 g1.g g1.wf h1⟩
inductive adQ(T:TC)(K:Fg)(vs:List V)(H:Hp)(Q:VK)(E:XK):Prop
 |mk(n:Nat)(ρ:cg)(zo l:Addr)(own:List Str)(zs:List V)(ds:List Dd)(_:vs=[.ref zo,.ref l])(_:Gh ρ H)(_:x_ K ρ H zo (own.map V.str))(_:x_ K ρ H l zs)(_:nL H zs ds)(_:WY (iM own:_) ds)(_:own.Nodup)(_:0<own.length)(_:own.length<100)(_:∀o∈own,isNm o=true)(_:ds.length<=91)(_:∀ρ' A' H',HH T n ρ' A' H' (cL (iM own) ds)->GW ds.length (100*ds.length) (cL (iM own) ds)->(cL (iM own) ds).own=own->Mo ds.length (cL (iM own) ds)->An (cL (iM own) ds)->Fr n ρ H ρ' H'->Q (.ref A'.a) H')
def Tu(T:TC)(K:Fg):Sp:=bx (adQ T K)
structure VE(a b:HS):Prop where
 own:a.own=b.own
 nms:a.nms=b.nms
 bN:a.bN=b.bN
 qd:aV a=aV b
 sh:∀p∈a.aj,∀q∈b.aj,p.nm=q.nm->∀j,(aK a p).getD j 0*b.prod=(aK b q).getD j 0*a.prod
 pu:∀j,a.bF.getD j 0*b.prod=b.bF.getD j 0*a.prod
theorem VE.part{a b:HS}(h:VE a b){p:Pt}(hp:p∈a.aj):∃q∈b.aj,q.nm=p.nm/\q.ow=p.ow/\q.wo=p.wo/\q.we=p.we:=by
 have m:((p.nm,p.ow,p.wo,p.we):Q4)∈aV b:=by rw[<-h.qd];exact a_.mpr ⟨p,hp,Z⟩
 obtain⟨q,hq,e⟩:=a_.mp m;have e1:=ff (λz:Q4=>z.1) e;have e2:=ff (λz:Q4=>z.2.1) e;have e3:=ff (λz:Q4=>z.2.2.1) e;have e4:=ff (λz:Q4=>z.2.2.2) e;exact⟨q,hq,e1,e2,e3,e4⟩
theorem VE.names{a b:HS}(h:VE a b):d_ a=d_ b:=by rw[<-y9,<-y9,h.qd]
theorem VE.whole{a b:HS}(h:VE a b):aE a=aE b:=by have e:=ff (λl:List Q4=>(l.map λq:Q4=>q.2.2.1).sum) h.qd;simp only[YV]at e;exact e
theorem VE.pg{a b:HS}(h:VE a b)(x:Str):(bH a x).nm=(bH b x).nm/\(bH a x).ow=(bH b x).ow/\(bH a x).wo=(bH b x).wo/\(bH a x).we=(bH b x).we:=by
 have e:=ff (List.find? λq:Q4=>decide (q.1=x)) h.qd;unfold aV at e;rw[List.find?_map,List.find?_map]at e;have e:(a.aj.find? λp=>decide (p.nm=x)).map (λp:Pt=>((p.nm,p.ow,p.wo,p.we):Q4))=(b.aj.find? λp=>decide (p.nm=x)).map (λp:Pt=>((p.nm,p.ow,p.wo,p.we):Q4)):=e;unfold bH;cases ha:a.aj.find? (λp=>decide (p.nm=x))with
 | none=>
  rw[ha]at e;cases hb:b.aj.find? (λp=>decide (p.nm=x))with
  | none=>exact⟨Z,Z,Z,Z⟩
  | some q=>rw[hb]at e;cases e
 | some p=>
  rw[ha]at e;cases hb:b.aj.find? (λp=>decide (p.nm=x))with
  | none=>rw[hb]at e;cases e
  | some q=>rw[hb]at e;have e:=fE e;exact⟨ff (λz:Q4=>z.1) e,ff (λz:Q4=>z.2.1) e,ff (λz:Q4=>z.2.2.1) e,ff (λz:Q4=>z.2.2.2) e⟩
theorem VE.row{a b:HS}(h:VE a b)(r:Row):iW a r=iW b r:=by unfold iW;rw[h.names,(h.pg r.1).2.2.1]
theorem VE.ref{a b:HS}(h:VE a b)(d:Dd):jr a d=jr b d:=by
 cases d with
 | sign o=>show rY a o=rY b o;unfold rY;rw[h.own]
 | load x o wo we=>show wV a x o wo we=wV b x o wo we;unfold wV newR;rw[h.own,h.nms]
 | cast rs=>show jP a rs=jP b rs;unfold jP;rw[h.whole,show iW a=iW b from funext h.row]
 | award o x=>show jQ a o x=jQ b o x;unfold jQ;rw[h.own,h.whole]
 | mishap x y=>exact h.row _
 | rise x y=>show kX a x y=kX b x y;unfold kX;rw[h.names]
 | hand x o=>show jx a x o=jx b x o;unfold jx;rw[h.names,h.own]
 | land x=>show qa a x=qa b x;unfold qa;rw[h.names]
 | sever x y u we=>show iJ a x y u we=iJ b x y u we;unfold iJ newR;rw[h.names,h.nms,(h.pg x).2.2.1,(h.pg x).2.2.2]
 | still=>rfl
theorem Hw{x y:Int}(hx:0<x)(hy:0<y):∀(own:List Str)(ts us:List Int),ts.length=us.length->(∀j,ts.getD j 0*y=us.getD j 0*x)->jK own ts x=jK own us y
 | [],_,_,_,_=>by unfold jK;simp
 | _::_,[],[],_,_=>by unfold jK;simp
 | o::own,t::ts,u::us,hl,h=>by
  have ih:=Hw hx hy own ts us (by simpa using hl) λj=>by have:=h (j+1);simpa using this
  have h0:t*y=u*x:=by have:=h 0;simpa using this
  unfold jK at ih ⊢;rw[JI,JI,BU,BU];have c:0<t↔0<u:=by
   constructor
   .intro z;have:=wC z hy;rw[h0,pO]at this;exact Int.pos_of_mul_pos_right this hx
   .intro z;have:=wC z hx;rw[<-h0,pO]at this;exact Int.pos_of_mul_pos_right this hy
  have e:Jm.fr t x=Jm.fr u y:=Jm.QN hx hy h0;by_cases z:0<t
  .have z2:=c.mp z;simp only[aC z,aC z2,e];rw[ih]
  .have z2:¬ 0<u:=λw=>z (c.mpr w);simp only[aB z,aB z2];exact ih
theorem VE.share{a b:HS}(h:VE a b)(wa:Wf a)(wb:Wf b){p q:Pt}(hp:p∈a.aj)(hq:q∈b.aj)(e:p.nm=q.nm):gR a p=gR b q:=by have:=Hw (show 0<a.prod by have:=wa.eE;omega) (show 0<b.prod by have:=wb.eE;omega) a.own (aK a p) (aK b q) (by rw[wX wa hp,wX wb hq,h.own]) (h.sh p hp q hq e);show jK a.own (aK a p) a.prod=jK b.own (aK b q) b.prod;rw[this,h.own]
theorem VE.tF{a b:HS}(h:VE a b)(wa:Wf a)(wb:Wf b)(o:Str):L2.tF a o=L2.tF b o:=by unfold L2.tF;rw[<-h.own];exact Jm.QN (by have:=wa.eE;omega) (by have:=wb.eE;omega) (h.pu _)
theorem VE.blend{a b:HS}(h:VE a b)(wa:Wf a)(wb:Wf b){kept whole lost:Int}{ga gb:List Int}(ba:jD a kept whole lost ga)(bb:jD b kept whole lost gb)(hg:∀j,ga.getD j 0*b.prod=gb.getD j 0*a.prod){a' b':HS}(eca:a'.bD=(aN a kept whole ga).bD)(epa:a'.prod=(aN a kept whole ga).prod)(ecb:b'.bD=(aN b kept whole gb).bD)(epb:b'.prod=(aN b kept whole gb).prod){p p' q q':Pt}(hp:p∈a.aj)(hq:q∈b.aj)(e:p.nm=q.nm)(ra:p'.row=p.row)(sa:p'.sc=p.sc*kept / cy a kept whole ga)(rb:q'.row=q.row)(sb:q'.sc=q.sc*kept / cy b kept whole gb)(j:Nat):(aK a' p').getD j 0*b'.prod=(aK b' q').getD j 0*a'.prod:=by
 have t1:=wU wa ba eca epa hp ra sa (j:=j) (t0:=(aK b q).getD j 0) (gB:=gb.getD j 0) (B:=b.prod) (h.sh p hp q hq e j).symm (hg j).symm;have t2:=wU wb bb ecb epb hq rb sb (j:=j) (t0:=(aK b q).getD j 0) (gB:=gb.getD j 0) (B:=b.prod) rfl rfl;have w1:0<whole:=by have:=ba.l;have:=ba.w;have:=ba.k;omega
 have b1:0<b.prod:=by have:=wb.eE;omega
 have bw:0<b.prod*whole:=wC b1 w1;refine BP (a:=b.prod*whole) (by omega) ?_;generalize (aK a' p').getD j 0=x at *;generalize (aK b' q').getD j 0=y at *;have l1:b.prod*whole*(x*b'.prod)=x*(b.prod*whole)*b'.prod:=by grind
 have l2:b.prod*whole*(y*a'.prod)=y*(b.prod*whole)*a'.prod:=by grind
 rw[l1,l2,<-t1,<-t2]
 grind
theorem Cu{a:HS}{kept whole lost:Int}{ga:List Int}(ba:jD a kept whole lost ga):(aN a kept whole ga).bF=a.bF.map (·*(whole / cy a kept whole ga))/\(aN a kept whole ga).prod=a.prod*(whole / cy a kept whole ga):=by
 obtain⟨hd,GZ,_⟩:=ba.dvds;have w1:0<whole:=by have:=ba.l;have:=ba.w;have:=ba.k;omega
 have s1:1<=whole / cy a kept whole ga:=Int.le_ediv_of_mul_le hd (by have:=Int.le_of_dvd w1 GZ;omega);unfold aN;rw[Aq,yM s1];exact⟨Z,Z⟩
theorem VE.Tv{a b:HS}(h:VE a b){kept whole lost:Int}{ga gb:List Int}(ba:jD a kept whole lost ga)(bb:jD b kept whole lost gb)(j:Nat):(aN a kept whole ga).bF.getD j 0*(aN b kept whole gb).prod=(aN b kept whole gb).bF.getD j 0*(aN a kept whole ga).prod:=by
 obtain⟨a1,a2⟩:=Cu ba;obtain⟨b1,b2⟩:=Cu bb;rw[a1,a2,b1,b2,y_,y_];have:=h.pu j;generalize a.bF.getD j 0=x at *;generalize b.bF.getD j 0=y at *;generalize whole / cy a kept whole ga=s at *;generalize whole / cy b kept whole gb=t at *;have l1:x*s*(b.prod*t)=(x*b.prod)*(s*t):=by grind
 rw[l1,this]
 grind
theorem tG{a:HS}{kept whole:Int}{ga:List Int}{p':Pt}(h:p'∈(aN a kept whole ga).aj):∃p∈a.aj,p'.nm=p.nm/\p'.row=p.row/\p'.sc=p.sc*kept / cy a kept whole ga:=by unfold aN at h;rw[kJ]at h;obtain⟨p,hp,rfl⟩:=a_.mp h;exact⟨p,hp,Z,Z,Z⟩
theorem VE.given{a b:HS}(h:VE a b)(wa:Wf a)(wb:Wf b){rs:List Row}(ca:jM a rs)(cb:jM b rs)(j:Nat):(dW a rs).getD j 0*b.prod=(dW b rs).getD j 0*a.prod:=by
 have G:∀{s:HS},Wf s->jM s rs->(dW s rs).getD j 0=cI rs λx=>(aK s (bH s x)).getD j 0:=λ{s} wf c=>by
  have ex:∀r∈rs,∃p∈s.aj,p.nm=r.1:=λr hr=>let⟨_,_,p,hp,e,_⟩:=c.row r hr;⟨p,hp,e⟩;rw[wR wf ex,Ck rs _ (λr hr=>by obtain⟨p,hp,e⟩:=ex r hr;rw[bQ wf hp e,jV,qV wf hp])]
  have:(List.replicate s.bD.length (0:Int)).getD j 0=0:=by rw[lu,Qd];split <;> rfl
  rw[this,wu]
 rw[G wa ca,G wb cb];have R:∀r∈rs,(aK a (bH a r.1)).getD j 0*b.prod=(aK b (bH b r.1)).getD j 0*a.prod:=λr hr=>by obtain⟨_,_,p,hp,e,_⟩:=ca.row r hr;obtain⟨_,_,q,hq,e2,_⟩:=cb.row r hr;rw[bQ wa hp e,bQ wb hq e2];exact h.sh p hp q hq (e.trans e2.symm) j
 unfold cI;clear ca cb G
 induction rs with
 | nil=>show(0:Int)*_=0*_;omega
 | cons r rs ih=>have:=R r cU;rw[bz,bz,c_,c_,kR,kR,ih λx hx=>R x (cA _ hx),iy,this,iy]
theorem VE.cast{a b:HS}(h:VE a b)(wa:Wf a)(wb:Wf b){rs:List Row}(ca:jM a rs)(cb:jM b rs):VE (cV a rs) (cV b rs):=by
 have ba:=ca.blend wa;have bb:=cb.blend wb;rw[<-h.whole]at bb;have eA:cV a rs={ aN a (aE a-aQ rs) (aE a) (dW a rs)with aj:=(cV a rs).aj }:=jN rs _;have eB:cV b rs={ aN b (aE a-aQ rs) (aE a) (dW b rs)with aj:=(cV b rs).aj }:=by rw[h.whole];exact jN rs _
 have bN:∀(s:HS)(k w:Int)(g:List Int),(aN s k w g).bN=s.bN/\(aN s k w g).own=s.own/\(aN s k w g).nms=s.nms:=λs k w g=>by unfold aN;rw[kL,kK,mJ];exact⟨Z,Z,Z⟩
 refine⟨by rw[qY,qY,h.own],?_,?_,?_,λp' dO q' hq' e j=>?_,λj=>?_⟩
 .rw [eA,eB];exact((bN _ _ _ _).2.2.trans h.nms).trans (bN _ _ _ _).2.2.symm
 .rw [eA,eB];exact((bN _ _ _ _).1.trans h.bN).trans (bN _ _ _ _).1.symm
 .unfold cV;rw[p_,p_,kW,kW,h.qd]
 .obtain ⟨p1,hp1,n1,r1,s1⟩:=yP rs dO;obtain⟨p,hp,n2,r2,s2⟩:=tG hp1;obtain⟨q1,hq1,m1,u1,v1⟩:=yP rs hq';obtain⟨q,hq,m2,u2,v2⟩:=tG hq1;rw[<-h.whole]at v2;exact h.blend wa wb ba bb (h.given wa wb ca cb) (by rw[eA]) (by rw[eA]) (by rw[eB]) (by rw[eB]) hp hq (by rw[<-n2,<-n1,e,m1,m2]) (r1.trans r2) (s1.trans s2) (u1.trans u2) (v1.trans v2) j
 .rw [show(cV a rs).bF=(aN a (aE a-aQ rs) (aE a) (dW a rs)).bF by rw[eA],show(cV b rs).prod=(aN b (aE a-aQ rs) (aE a) (dW b rs)).prod by rw[eB],show(cV b rs).bF=(aN b (aE a-aQ rs) (aE a) (dW b rs)).bF by rw[eB],show(cV a rs).prod=(aN a (aE a-aQ rs) (aE a) (dW a rs)).prod by rw[eA]];exact h.Tv ba bb j
theorem VE.award{a b:HS}(h:VE a b)(wa:Wf a)(wb:Wf b)(aa:E4 a)(ab:E4 b){o:Str}{x:Int}(ho:o∈a.own)(h1:1<=x)(h2:x<aE a):VE (qb a o x) (qb b o x):=by
 have ba:=aa.blend (o:=o) wa h1 h2;have bb:=ab.blend (o:=o) wb h1 (by rw[<-h.whole];exact h2);have eA:qb a o x=aN a (aE a-x) (aE a) (jX a o x):=rfl;have eB:qb b o x=aN b (aE b-x) (aE b) (jX b o x):=rfl;rw[<-h.whole]at bb eB;rw[eA,eB];have bN:∀(s:HS)(k w:Int)(g:List Int),(aN s k w g).bN=s.bN/\(aN s k w g).own=s.own/\(aN s k w g).nms=s.nms:=λs k w g=>by unfold aN;rw[kL,kK,mJ];exact⟨Z,Z,Z⟩
 have hi:=v7 ho;have hg:∀j,(jX a o x).getD j 0*b.prod=(jX b o x).getD j 0*a.prod:=λj=>by
  unfold jX;rw[<-h.own,mO (by rw[jV];exact hi),mO (by rw[jV];exact hi)];split
  .grind
  .rw [Co,pP,pP]
 refine⟨((bN _ _ _ _).2.1.trans h.own).trans (bN _ _ _ _).2.1.symm,((bN _ _ _ _).2.2.trans h.nms).trans (bN _ _ _ _).2.2.symm,((bN _ _ _ _).1.trans h.bN).trans (bN _ _ _ _).1.symm,by rw[kW,kW,h.qd],λp' dO q' hq' e j=>?_,λj=>h.Tv ba bb j⟩;obtain⟨p,hp,n2,r2,s2⟩:=tG dO;obtain⟨q,hq,m2,u2,v2⟩:=tG hq';exact h.blend wa wb ba bb hg rfl rfl rfl rfl hp hq (by rw[<-n2,e,m2]) r2 s2 u2 v2 j
theorem VE.same{a b:HS}(h:VE a b){pa pb:List Pt}(hq:(pa.map λp:Pt=>((p.nm,p.ow,p.wo,p.we):Q4))=(pb.map λp:Pt=>((p.nm,p.ow,p.wo,p.we):Q4)))(ha:∀p'∈pa,∃p∈a.aj,p'.nm=p.nm/\p'.row=p.row/\p'.sc=p.sc)(hb:∀p'∈pb,∃p∈b.aj,p'.nm=p.nm/\p'.row=p.row/\p'.sc=p.sc):VE { a with aj:=pa } { b with aj:=pb }:=by
 refine⟨h.own,h.nms,h.bN,hq,λp' dO q' hq' e j=>?_,h.pu⟩;obtain⟨p,hp,n1,r1,s1⟩:=ha p' dO;obtain⟨q,hq,n2,r2,s2⟩:=hb q' hq';have t1:aK { a with aj:=pa } p'=aK a p:=by show List.zipWith (λr c=>p'.sc*r+c) p'.row a.bD=_;rw[r1,s1];rfl
 have t2:aK { b with aj:=pb } q'=aK b q:=by show List.zipWith (λr c=>q'.sc*r+c) q'.row b.bD=_;rw[r2,s2];rfl
 rw[t1,t2];exact h.sh p hp q hq (by rw[<-n1,e,n2]) j
theorem VE.less{a b:HS}(h:VE a b)(r:Row):VE (cT a r) (cT b r):=by
 have m:∀{s:HS},∀p'∈(cT s r).aj,∃p∈s.aj,p'.nm=p.nm/\p'.row=p.row/\p'.sc=p.sc:=λ{s} p' dO=>by obtain⟨_,q,hq,e⟩:=qW (show p'∈jL s.aj r.1 r.2 from dO);refine⟨q,hq,?_⟩;rw[e];split <;> exact⟨Z,Z,Z⟩
 refine h.same (pa:=(cT a r).aj) (pb:=(cT b r).aj) ?_ m m;have:=Aw a r;rw[h.qd,<-Aw b r]at this;exact this
theorem zb(s:HS)(x:Str)(f:Pt->Pt)(g:Q4->Q4)(hf:∀p:Pt,((f p).nm,(f p).ow,(f p).wo,(f p).we)=g (p.nm,p.ow,p.wo,p.we)):aV (kj s x f)=(aV s).map λq=>if q.1=x then g q else q:=by
 unfold aV kj;show(s.aj.map _).map _=(s.aj.map _).map _;rw[gj,gj];refine oN λp _=>?_;show((λp:Pt=>((p.nm,p.ow,p.wo,p.we):Q4)) (if p.nm=x then f p else p))=(if p.nm=x then g (p.nm,p.ow,p.wo,p.we) else(p.nm,p.ow,p.wo,p.we))
 split
 .exact hf p
 .rfl
theorem Lp{s:HS}{x:Str}{f:Pt->Pt}(hf:∀p:Pt,(f p).nm=p.nm/\(f p).row=p.row/\(f p).sc=p.sc):∀p'∈(kj s x f).aj,∃p∈s.aj,p'.nm=p.nm/\p'.row=p.row/\p'.sc=p.sc:=λp' dO=>by
 obtain⟨p,hp,rfl⟩:=a_.mp (show p'∈s.aj.map λp=>if p.nm=x then f p else p from dO);refine⟨p,hp,?_⟩;split
 .exact hf p
 .exact ⟨Z,Z,Z⟩
theorem VE.on{a b:HS}(h:VE a b)(x:Str)(f:Pt->Pt)(g:Q4->Q4)(hf:∀p:Pt,(f p).nm=p.nm/\(f p).row=p.row/\(f p).sc=p.sc)(hg:∀p:Pt,((f p).nm,(f p).ow,(f p).wo,(f p).we)=g (p.nm,p.ow,p.wo,p.we)):VE (kj a x f) (kj b x f):=by refine h.same (pa:=(kj a x f).aj) (pb:=(kj b x f).aj) ?_ (Lp hf) (Lp hf);have:=zb a x f g hg;rw[h.qd,<-zb b x f g hg]at this;exact this
theorem VE.stow{a b:HS}(h:VE a b)(sa:∀p∈a.aj,p.nm∈a.nms)(sb:∀p∈b.aj,p.nm∈b.nms){p q:Pt}(e1:p.nm=q.nm)(e2:p.ow=q.ow)(e3:p.wo=q.wo)(e4:p.we=q.we)(hn:p.nm∉a.nms)(ht:∀j,(aK a p).getD j 0*b.prod=(aK b q).getD j 0*a.prod):VE (wN a p) (wN b q):=by
 refine⟨h.own,by show a.nms++_=b.nms++_;rw[h.nms,e1],h.bN,?_,λp' dO q' hq' e j=>?_,h.pu⟩
 .have:=h.qd;unfold aV at this ⊢;show(a.aj++[p]).map _=(b.aj++[q]).map _;rw[bV,bV,this,bz,bz,e1,e2,e3,e4]
 .rw [Ho,Ho];show(aK a p').getD j 0*b.prod=(aK b q').getD j 0*a.prod;rcases fu.mp (show p'∈a.aj++[p]from dO)with z|z
  .rcases fu.mp (show q'∈b.aj++[q]from hq')with y|y
   .exact h.sh p' z q' y e j
   .rw [eX.mp y]at e;exact absurd (sa p' z) (by rw[e,<-e1];exact hn)
  .rcases fu.mp (show q'∈b.aj++[q]from hq')with y|y
   .rw [eX.mp z]at e;exact absurd (sb q' y) (by rw[<-e,<-h.nms];exact hn)
   .rw [eX.mp z,eX.mp y];exact ht j
theorem VE.load{a b:HS}(h:VE a b)(wa:Wf a)(wb:Wf b){x o:Str}{wo we:Int}(hn:x∉a.nms)(ho:o∈a.own):VE (Bh a x o wo we) (Bh b x o wo we):=by
 refine h.stow wa.sub wb.sub rfl rfl rfl rfl hn λj=>?_;have T:∀{s:HS},Wf s->aK s ⟨x,o,wo,we,1,lU s ((List.replicate s.own.length 0).set (s.own.idxOf o) s.prod)⟩=(List.replicate s.own.length 0).set (s.own.idxOf o) s.prod:=λ{s} wf=>Cp (by rw[iw,jV,wf.gC]);rw[T wa,T wb,<-h.own];have hi:=v7 ho;rw[mO (by rw[jV];exact hi),mO (by rw[jV];exact hi)];split
 .exact pO _ _
 .rw [Co,pP,pP]
theorem VE.sever{a b:HS}(h:VE a b)(wa:Wf a)(wb:Wf b){x y:Str}{u we:Int}(hx:x∈d_ a)(hn:y∉a.nms):VE (lC a x y u we) (lC b x y u we):=by
 obtain⟨i,p,e1,rfl⟩:=jy hx;have hp:=cu e1;obtain⟨q,hq,n1,n2,n3,n4⟩:=h.part hp;have o1:=h.on p.nm (λp=>{ p with wo:=p.wo-u,we:=p.we-we }) (λq=>(q.1,q.2.1,q.2.2.1-u,q.2.2.2-we)) (λp=>⟨Z,Z,Z⟩) (λp=>rfl);unfold lC;rw[bQ wa hp rfl,bQ wb hq n1];have S:∀{s:HS},Wf s->∀p'∈(kj s p.nm λp=>{ p with wo:=p.wo-u,we:=p.we-we }).aj,p'.nm∈s.nms:=λ{s} wf p' dO=>by obtain⟨z,hz,e,_⟩:=Lp (f:=λp=>{ p with wo:=p.wo-u,we:=p.we-we }) (λp=>⟨Z,Z,Z⟩) p' dO;rw[e];exact wf.sub z hz
 refine o1.stow (S wa) (S wb) rfl n2.symm rfl rfl hn λj=>?_;exact h.sh p hp q hq n1.symm j
theorem VE.land{a b:HS}(h:VE a b)(wa:Wf a)(wb:Wf b){x:Str}(hx:x∈d_ a):VE (rZ a x) (rZ b x):=by
 obtain⟨i,p,e1,rfl⟩:=jy hx;have hp:=cu e1;obtain⟨q,hq,n1,n2,n3,n4⟩:=h.part hp;have hs:=h.share wa wb hp hq n1.symm;have e2:=oX wb hq;rw[n1]at e2;rw[oX wa hp,e2];have hF:∀{l:List Pt},(l.filter λq:Pt=>decide (q.nm≠p.nm)).map (λp:Pt=>((p.nm,p.ow,p.wo,p.we):Q4))=(l.map λp:Pt=>((p.nm,p.ow,p.wo,p.we):Q4)).filter λz=>decide (z.1≠p.nm):=λ{l}=>by rw[List.filter_map];rfl
 refine⟨h.own,h.nms,?_,?_,λp' dO q' hq' e j=>?_,λj=>?_⟩
 .show a.bN++_=b.bN++_;rw[h.bN,hs,n2,n3]
 .show (a.aj.filter _).map _=(b.aj.filter _).map _;rw[hF,hF];exact ff (List.filter _) h.qd
 .exact h.sh p' ((mZ.mp dO).1) q' ((mZ.mp hq').1) e j
 .show (lV a p).getD j 0*b.prod=(lV b q).getD j 0*a.prod;have hi:a.own.idxOf p.ow<a.own.length:=v7 (wa.ow p hp);have L:∀j,(gv a p).getD j 0*b.prod=(gv b q).getD j 0*a.prod:=λj=>by unfold gv;rw[oW (f:=λu t=>u+p.wo*t) (by show(0:Int)+p.wo*0=0;omega) (by rw[wX wa hp,wa.mG]),oW (f:=λu t=>u+q.wo*t) (by show(0:Int)+q.wo*0=0;omega) (by rw[wX wb hq,wb.mG]),n3];have x1:=h.pu j;have x2:=h.sh p hp q hq n1.symm j;rw[kR,kR,x1,iy,x2,iy]
  unfold lV;rw[n2,n3,<-h.own,mO (by rw[s_ wa hp];exact hi),mO (by rw[s_ wb hq,<-h.own];exact hi)];split
  .have:=L (a.own.idxOf p.ow);rw[Int.sub_mul,Int.sub_mul,this]
   grind
  .exact L j
theorem Pp{l:List Int}{i j k:Nat}(hi:i<l.length)(hj:j<l.length):(Hh l i j).getD k 0=if i=k then 0 else if j=k then l.getD j 0+l.getD i 0 else l.getD k 0:=by
 unfold Hh;rw[mO (by rw[iw];exact hi)];split
 .rfl
 .exact mO hj
theorem VE.hand{a b:HS}(h:VE a b)(wa:Wf a)(wb:Wf b){x o:Str}(hx:x∈d_ a)(ho:o∈a.own):VE (fj a x o) (fj b x o):=by
 unfold fj;rw[<-h.own,<-(h.pg x).2.1];split
 .exact h
 refine⟨h.own,h.nms,h.bN,?_,λp' dO q' hq' e j=>?_,h.pu⟩
 .have:=zb a x (nh a o) (λq=>(q.1,o,q.2.2.1,q.2.2.2)) (λp=>rfl);rw[h.qd,<-zb b x (nh b o) (λq=>(q.1,o,q.2.2.1,q.2.2.2)) (λp=>rfl)]at this;exact this
 .obtain ⟨p,hp,rfl⟩:=a_.mp (show p'∈a.aj.map λp=>if p.nm=x then nh a o p else p from dO);obtain⟨q,hq,rfl⟩:=a_.mp (show q'∈b.aj.map λp=>if p.nm=x then nh b o p else p from hq');have nm:∀{s:HS}{p:Pt},(if p.nm=x then nh s o p else p).nm=p.nm:=λ{s p}=>by split <;> rfl
  rw[nm,nm]at e;show(aK a (if p.nm=x then nh a o p else p)).getD j 0*b.prod=(aK b (if q.nm=x then nh b o q else q)).getD j 0*a.prod;by_cases c:p.nm=x
  .rw [aC c,aC (e▸c),wY wa hp,wY wb hq,rA,rA];obtain⟨q2,hq2,n1,n2,_⟩:=h.part hp;have eq:q2=q:=by rw[<-bQ wb hq2 rfl,<-bQ wb hq rfl,n1,e]
   subst eq;rw[n2,<-h.own];have hi:a.own.idxOf p.ow<a.own.length:=v7 (wa.ow p hp);have hj:a.own.idxOf o<a.own.length:=v7 ho;have S:=h.sh p hp q2 hq e;have la:=wX wa hp;have lb:=wX wb hq;rw[<-h.own]at lb;rw[Pp (by rw[la];exact hi) (by rw[la];exact hj),Pp (by rw[lb];exact hi) (by rw[lb];exact hj)];split
   .rw [pP,pP]
   .split
    .rw [kR,kR,S,S]
    .exact S j
  .rw [aB c,aB (λz=>c (e.trans z))];exact h.sh p hp q hq e j
theorem VE.do{c c':Nat}{a b:HS}(h:VE a b)(wa:Wf a)(wb:Wf b)(ga:Go c a)(gb:Go c' b)(hc:c<=91)(hc':c'<=91){d:Dd}(hr:jr a d=none)(hk:d.k≠0):VE (iA a d) (iA b d):=by
 have hr2:jr b d=none:=(h.ref d)▸hr;cases d with
 | sign o=>exact absurd rfl hk
 | load x o wo we=>obtain⟨_,l2,l3,_⟩:=sY hr;exact h.load wa wb l2 l3
 | cast rs=>exact h.cast wa wb (ga.tE wa hc hr) (gb.tE wb hc' hr2)
 | award o x=>obtain⟨h1,h2,h3⟩:=yT hr;exact h.award wa wb (ga.aw wa hc) (gb.aw wb hc') h1 h2 h3
 | mishap x y=>exact h.less (x,y)
 | rise x y=>exact h.on x _ (λq=>(q.1,q.2.1,q.2.2.1+y,q.2.2.2)) (λp=>⟨Z,Z,Z⟩) (λp=>rfl)
 | hand x o=>
  have e:jx a x o=none:=hr;unfold jx at e;split at e
  .next hx=>
   split at e
   .next ho=>exact h.hand wa wb hx ho
   .cases e
  .cases e
 | land x=>exact h.land wa wb (pI hr)
 | sever x y u we=>obtain⟨h1,⟨_,h3⟩,_⟩:=kZ hr;exact h.sever wa wb h1 h3
 | still=>exact h
def Rk(rs rs':List Row):Prop:=∀f:Str->Int,cI rs f=cI rs' f
theorem k7(rs rs':List Row)(f:Str->Int):cI (rs++rs') f=cI rs f+cI rs' f:=by unfold cI;rw[bV,AY]
theorem xD(r:Row)(rs:List Row)(f:Str->Int):cI (r::rs) f=r.2*f r.1+cI rs f:=by unfold cI;rw[bz,c_]
theorem fV(rs:List Row):aQ rs=cI rs λ_=>1:=by unfold aQ cI;exact ff List.sum (oN λr _=>(uD _).symm)
def gW(rs:List Row)(x:Str):Int:=cI rs λy=>if y=x then 1 else 0
theorem mR(r:Row)(rs:List Row)(x:Str):gW (r::rs) x=(if r.1=x then r.2 else 0)+gW rs x:=by
 unfold gW;rw[xD];split
 .rw [uD]
 .rw [Int.mul_zero]
theorem Bs{rs:List Row}(h:∀r∈rs,1<=r.2)(x:Str):0<=gW rs x:=by
 induction rs with
 | nil=>exact kQ 0
 | cons r rs ih=>rw[mR];have:=ih λy hy=>h y (cA _ hy);have:=h r cU;split <;> omega
theorem abe{rs:List Row}(h:∀r∈rs,1<=r.2){r:Row}(hr:r∈rs):r.2<=gW rs r.1:=by
 induction rs with
 | nil=>cases hr
 | cons y rs ih=>
  rw[mR];have h0:=Bs (λz hz=>h z (cA _ hz)) r.1;have hy:=h y cU;rcases cK.mp hr with z|z
  .subst z;rw[aC rfl];omega
  .have:=ih (λz hz=>h z (cA _ hz)) z;split <;> omega
theorem E9(rs rs':List Row)(x:Str):gW (rs++rs') x=gW rs x+gW rs' x:=k7 _ _ _
def AI(q:Q4):Bool:=decide (q.2.2.1≠0)
theorem Lq{A B:Q4->Q4}:∀(qs:List Q4),(∀q∈qs,(A q).2.2.1=0->(B (A q)).2.2.1=0)->(((qs.map A).filter AI).map B).filter AI=(qs.map λq=>B (A q)).filter AI
 | [],_=>rfl
 | q::qs,h=>by
  have ih:=Lq qs λx hx=>h x (cA _ hx);rw[bz,bz,e_];by_cases c:(A q).2.2.1=0
  .have z:=h q cU c;rw[aB (by unfold AI;simpa using c),e_,aB (by unfold AI;simpa using z)];exact ih
  .rw [aC (by unfold AI;simpa using c),bz,e_,e_,ih]
theorem vh:∀(rs:List Row)(qs:List Q4),(∀q∈qs,0<q.2.2.1)->(∀r∈rs,1<=r.2)->(∀q∈qs,gW rs q.1<=q.2.2.1)->rs.foldl ja qs=(qs.map λq:Q4=>((q.1,q.2.1,q.2.2.1-gW rs q.1,q.2.2.2):Q4)).filter AI
 | [],qs,h0,_,_=>by
  show qs=_;have e:qs.map (λq:Q4=>((q.1,q.2.1,q.2.2.1-gW [] q.1,q.2.2.2):Q4))=qs:=by refine(oN (g:=id) λq _=>?_).trans (List.map_id _);show(q.1,q.2.1,q.2.2.1-0,q.2.2.2)=q;rw[A3]
  rw[e,EE.mpr λq hq=>by unfold AI;have:=h0 q hq;exact br (by omega)]
 | r::rs,qs,h0,h1,h2=>by
  have r1:=h1 r cU;have hs:∀y∈rs,1<=y.2:=λy hy=>h1 y (cA _ hy);have eL:ja qs r=(qs.map λq:Q4=>if q.1=r.1 then((q.1,q.2.1,q.2.2.1-r.2,q.2.2.2):Q4) else q).filter AI:=rfl;have L:∀q'∈ja qs r,0<q'.2.2.1/\gW rs q'.1<=q'.2.2.1:=λq' hq'=>by
   rw[eL]at hq';obtain⟨m,nz⟩:=mZ.mp hq';obtain⟨q,hq,rfl⟩:=a_.mp m;have a:=h2 q hq;have b:=h0 q hq;have t0:=Bs hs q.1;rw[mR]at a;have nz:(if q.1=r.1 then((q.1,q.2.1,q.2.2.1-r.2,q.2.2.2):Q4) else q).2.2.1≠0:=by unfold AI at nz;exact eF nz
   by_cases c:q.1=r.1
   .rw [aC c]at nz ⊢;rw[aC c.symm]at a;have nz:q.2.2.1-r.2≠0:=nz;show 0<q.2.2.1-r.2/\gW rs q.1<=q.2.2.1-r.2;omega
   .rw [aB c];rw[aB (λz=>c z.symm)]at a;omega
  show rs.foldl ja (ja qs r)=_;rw[vh rs _ (λq hq=>(L q hq).1) hs (λq hq=>(L q hq).2),eL,Lq]
  .congr 1;refine oN λq _=>?_;rw[mR];by_cases c:q.1=r.1
   .rw [aC c,aC c.symm];show(q.1,q.2.1,q.2.2.1-r.2-gW rs q.1,q.2.2.2)=(q.1,q.2.1,q.2.2.1-(r.2+gW rs q.1),q.2.2.2)
    rw[Int.sub_sub]
   .rw [aB c,aB (λz=>c z.symm),wu]
  .intro q hq;have a:=h2 q hq;have b:=h0 q hq;have t0:=Bs hs q.1;rw[mR]at a;by_cases c:q.1=r.1
   .rw [aC c];rw[aC c.symm]at a;show q.2.2.1-r.2=0->q.2.2.1-r.2-gW rs q.1=0;omega
   .rw [aB c];intro z;omega
theorem DY{f g:Str->Int}{x y z u:Int}:∀(rs:List Row),(∀r∈rs,f r.1*x=(g r.1*y+z)*u)->cI rs f*x=(cI rs g*y+aQ rs*z)*u
 | [],_=>by show(0:Int)*x=(0*y+0*z)*u;grind
 | r::rs,R=>by
  have h1:=R r cU;have h2:=DY rs λw hw=>R w (cA _ hw);rw[xD,xD,show aQ (r::rs)=r.2+aQ rs from by unfold aQ;rw[bz,c_],kR,h2,iy,h1]
  grind
structure vj(st:HS)(rs:List Row):Prop where
 row:∀r∈rs,1<=r.2/\r.1∈d_ st
 tot:∀p∈st.aj,gW rs p.nm<=p.wo
 lost:aQ rs<aE st
theorem vj.abf{st:HS}{rs rs':List Row}(h:vj st rs)(a:Rk rs rs')(row:∀r∈rs',1<=r.2/\r.1∈d_ st):vj st rs':=⟨row,λp hp=>by unfold gW;rw[<-a];exact h.tot p hp,by rw[fV,<-a,<-fV];exact h.lost⟩
theorem vj.left{st:HS}{rs rs':List Row}(h:vj st (rs++rs')):vj st rs:=by
 have l0:0<=aQ rs':=qX λx hx=>(h.row x (gG _ hx)).1;refine⟨λr hr=>h.row r (zQ _ hr),λp hp=>?_,?_⟩
 .have:=h.tot p hp;rw[E9]at this;have:=Bs (rs:=rs') (λx hx=>(h.row x (gG _ hx)).1) p.nm;omega
 .have:=h.lost;rw[fV,k7,<-fV,<-fV]at this;omega
structure nT(st:HS)(rs:List Row)(s:HS):Prop where
 own:s.own=st.own
 nms:s.nms=st.nms
 bN:s.bN=st.bN
 qd:aV s=rs.foldl ja (aV st)
 wh:aE s=aE st-aQ rs
 sh:∀p∈st.aj,∀p'∈s.aj,p'.nm=p.nm->∀j,(aK s p').getD j 0*(st.prod*aE st)=((aK st p).getD j 0*(aE st-aQ rs)+cI rs (λx=>(aK st (bH st x)).getD j 0))*s.prod
 pu:∀j,s.bF.getD j 0*st.prod=st.bF.getD j 0*s.prod
theorem nT.nil{st:HS}(wf:Wf st):nT st [] st:=by
 refine⟨Z,Z,Z,Z,by show _=_-(0:Int);omega,λp hp p' dO e j=>?_,λj=>rfl⟩;have:p'=p:=by rw[<-bQ wf dO rfl,<-bQ wf hp rfl,e]
 rw[this];show _=(_*(aE st-0)+0)*_
 grind
theorem ye:∀(rs:List Row)(qs:List Q4),∀q'∈rs.foldl ja qs,∃q∈qs,q.1=q'.1
 | [],qs,q',h=>⟨q',h,Z⟩
 | r::rs,qs,q',h=>by obtain⟨q1,h1,e1⟩:=ye rs (ja qs r) q' h;obtain⟨q,hq,e⟩:=a_.mp (mZ.mp h1).1;refine⟨q,hq,?_⟩;rw[<-e1,<-e];split <;> rfl
theorem nT.sub{st:HS}{rs:List Row}{s:HS}(b:nT st rs s){p':Pt}(dO:p'∈s.aj):∃p∈st.aj,p.nm=p'.nm:=by have m:((p'.nm,p'.ow,p'.wo,p'.we):Q4)∈aV s:=a_.mpr ⟨p',dO,Z⟩;rw[b.qd]at m;obtain⟨q,hq,e⟩:=ye _ _ _ m;obtain⟨p,hp,rfl⟩:=a_.mp hq;exact⟨p,hp,e⟩
theorem nT.cast{st:HS}{nU rs:List Row}{s:HS}(b:nT st nU s)(wf:Wf st)(ws:Wf s)(w0:0<aE st)(c:jM s rs):nT st (nU++rs) (cV s rs):=by
 have bl:=c.blend ws;have eA:cV s rs={ aN s (aE s-aQ rs) (aE s) (dW s rs)with aj:=(cV s rs).aj }:=jN rs _;have la:aQ (nU++rs)=aQ nU+aQ rs:=by rw[fV,k7,<-fV,<-fV]
 have bN:∀(s:HS)(k w:Int)(g:List Int),(aN s k w g).bN=s.bN/\(aN s k w g).own=s.own/\(aN s k w g).nms=s.nms:=λs k w g=>by unfold aN;rw[kL,kK,mJ];exact⟨Z,Z,Z⟩
 have P0:0<st.prod:=by have:=wf.eE;omega
 have P1:0<s.prod:=by have:=ws.eE;omega
 refine⟨(qY s rs).trans b.own,?_,?_,?_,by rw[Rj ws c,b.wh,la];omega,λp hp p2 hp2 e j=>?_,λj=>?_⟩
 .rw [eA];exact(bN _ _ _ _).2.2.trans b.nms
 .rw [eA];exact(bN _ _ _ _).1.trans b.bN
 .show aV (cV s rs)=_;unfold cV;rw[p_,kW,b.qd,BW]
 .obtain ⟨pa,hpa,n1,r1,s1⟩:=yP rs hp2;obtain⟨p1,hp1,n2,r2,s2⟩:=tG hpa;have n12:p1.nm=p.nm:=by rw[<-n2,<-n1,e]
  have t:=wU ws bl (show(cV s rs).bD=_ by rw[eA]) (show(cV s rs).prod=_ by rw[eA]) hp1 (r1.trans r2) (s1.trans s2) (j:=j) (t0:=(aK s p1).getD j 0) (gB:=(dW s rs).getD j 0) (B:=s.prod) rfl rfl;have hs1:=b.sh p hp p1 hp1 n12 j;have ex:∀r∈rs,∃q∈s.aj,q.nm=r.1:=λr hr=>let⟨_,_,q,hq,e,_⟩:=c.row r hr;⟨q,hq,e⟩;have eG:(dW s rs).getD j 0=cI rs λx=>(aK s (bH s x)).getD j 0:=by
   rw[wR ws ex,Ck rs _ (λr hr=>by obtain⟨q,hq,e⟩:=ex r hr;rw[bQ ws hq e,jV,qV ws hq])]
   have:(List.replicate s.bD.length (0:Int)).getD j 0=0:=by rw[lu,Qd];split <;> rfl
   rw[this,wu]
  have R:∀r∈rs,(aK s (bH s r.1)).getD j 0*(st.prod*aE st)=((aK st (bH st r.1)).getD j 0*(aE st-aQ nU)+cI nU (λx=>(aK st (bH st x)).getD j 0))*s.prod:=λr hr=>by obtain⟨q,hq,e⟩:=ex r hr;obtain⟨q0,hq0,e0⟩:=b.sub hq;rw[bQ ws hq e,bQ wf hq0 (e0.trans e)];exact b.sh q0 hq0 q hq e0.symm j
  have g1:(dW s rs).getD j 0*(st.prod*aE st)=(cI rs (λx=>(aK st (bH st x)).getD j 0)*(aE st-aQ nU)+aQ rs*cI nU (λx=>(aK st (bH st x)).getD j 0))*s.prod:=by rw[eG];exact DY rs R
  rw[k7,la];have wk:aE s=aE st-aQ nU:=b.wh;rw[wk]at t;have W1:0<aE st-aQ nU:=by have:=bl.k;have:=bl.l;have:=bl.w;omega
  generalize (aK (cV s rs) p2).getD j 0=T2 at *;generalize (aK s p1).getD j 0=T1 at *;generalize (aK st p).getD j 0=T0 at *;generalize (dW s rs).getD j 0=G1 at *;generalize cI nU (λx=>(aK st (bH st x)).getD j 0)=G0 at *;generalize cI rs (λx=>(aK st (bH st x)).getD j 0)=G at *;generalize (cV s rs).prod=P2 at *;have bw:0<s.prod*(aE st-aQ nU):=wC P1 W1;refine BP (a:=s.prod*(aE st-aQ nU)) (by omega) ?_;generalize aE st=W at *;generalize aQ nU=L0 at *;generalize aQ rs=L at *;have l1:s.prod*(W-L0)*(T2*(st.prod*W))=(T2*(s.prod*(W-L0)))*(st.prod*W):=by grind
  rw[l1,<-t];have l2:(T1*(W-L0-L)+G1)*P2*(st.prod*W)=((T1*(st.prod*W))*(W-L0-L)+G1*(st.prod*W))*P2:=by grind
  rw[l2,hs1,g1]
  grind
 .obtain ⟨a1,a2⟩:=Cu bl;rw[show(cV s rs).bF=(aN s (aE s-aQ rs) (aE s) (dW s rs)).bF by rw[eA],show(cV s rs).prod=(aN s (aE s-aQ rs) (aE s) (dW s rs)).prod by rw[eA],a1,a2,y_];have:=b.pu j;generalize s.bF.getD j 0=x at *;generalize st.bF.getD j 0=y at *;generalize aE s / cy s (aE s-aQ rs) (aE s) (dW s rs)=z at *;have l1:x*z*st.prod=(x*st.prod)*z:=by grind
  rw[l1,this]
  grind
theorem nT.alike{st:HS}{rs rs':List Row}{s s':HS}(b:nT st rs s)(b':nT st rs' s')(wf:Wf st)(w0:0<aE st)(f:vj st rs)(f':vj st rs')(a:Rk rs rs'):VE s s':=by
 have P0:0<st.prod:=by have:=wf.eE;omega
 have lo:aQ rs=aQ rs':=by rw[fV,fV];exact a _
 have qp:∀q∈aV st,0<q.2.2.1:=vf wf;have T:∀{rs:List Row},vj st rs->∀q∈aV st,gW rs q.1<=q.2.2.1:=λ{rs} f q hq=>by obtain⟨p,hp,rfl⟩:=a_.mp hq;exact f.tot p hp
 refine⟨b.own.trans b'.own.symm,b.nms.trans b'.nms.symm,b.bN.trans b'.bN.symm,?_,λp hp q hq e j=>?_,λj=>?_⟩
 .rw [b.qd,b'.qd,vh rs _ qp (λr hr=>(f.row r hr).1) (T f),vh rs' _ qp (λr hr=>(f'.row r hr).1) (T f')];congr 1;refine oN λq _=>?_;rw[show gW rs q.1=gW rs' q.1 from a _]
 .obtain ⟨p0,hp0,e0⟩:=b.sub hp;have h1:=b.sh p0 hp0 p hp e0.symm j;have h2:=b'.sh p0 hp0 q hq (e.symm.trans e0.symm) j;rw[<-lo,<-a]at h2;have bw:0<st.prod*aE st:=wC P0 w0;refine BP (a:=st.prod*aE st) (by omega) ?_;generalize (aK s p).getD j 0=x at *;generalize (aK s' q).getD j 0=y at *;have l1:st.prod*aE st*(x*s'.prod)=x*(st.prod*aE st)*s'.prod:=by grind
  have l2:st.prod*aE st*(y*s.prod)=y*(st.prod*aE st)*s.prod:=by grind
  rw[l1,l2,h1,h2]
  grind
 .have h1:=b.pu j;have h2:=b'.pu j;refine BP (a:=st.prod) (by omega) ?_;generalize s.bF.getD j 0=x at *;generalize s'.bF.getD j 0=y at *;have l1:st.prod*(x*s'.prod)=(x*st.prod)*s'.prod:=by grind
  have l2:st.prod*(y*s.prod)=(y*st.prod)*s.prod:=by grind
  rw[l1,l2,h1,h2]
  grind
theorem nT.jP{st:HS}{nU rs:List Row}{s:HS}(b:nT st nU s)(wf:Wf st)(ws:Wf s)(f:vj st (nU++rs))(nd:(rs.map λr:Row=>r.1).Nodup)(ne:rs≠[]):L2.jP s rs=none:=by
 have f0:=f.left;have r1:∀r∈rs,1<=r.2:=λr hr=>(f.row r (gG _ hr)).1;refine VO ws nd (λr hr=>⟨r1 r hr,?_⟩) ?_ ne
 .obtain ⟨_,hm⟩:=f.row r (gG _ hr);obtain⟨i,p,e1,en⟩:=jy hm;have hp:=cu e1;have t:=f.tot p hp;rw[E9,en]at t;have g:=abe r1 hr;have rr:=r1 r hr;have eq:=vh nU (aV st) (vf wf) (λx hx=>(f0.row x hx).1) (λq hq=>by obtain⟨z,hz,rfl⟩:=a_.mp hq;exact f0.tot z hz);have m:((p.nm,p.ow,p.wo-gW nU p.nm,p.we):Q4)∈aV s:=by rw[b.qd,eq];refine mZ.mpr ⟨a_.mpr ⟨(p.nm,p.ow,p.wo,p.we),a_.mpr ⟨p,hp,Z⟩,Z⟩,?_⟩;unfold AI;exact br (by show p.wo-gW nU p.nm≠0;rw[en];omega)
  obtain⟨q,hq,e⟩:=a_.mp m;have e3:q.nm=p.nm:=ff (λz:Q4=>z.1) e;have e4:q.wo=p.wo-gW nU p.nm:=ff (λz:Q4=>z.2.2.1) e;exact⟨(q.nm,q.wo),a_.mpr ⟨q,hq,Z⟩,e3.trans en,by show r.2<=q.wo;rw[e4,en];omega⟩
 .have:=f.lost;rw[fV,k7,<-fV,<-fV]at this;rw[b.wh];omega
def DZ(st:HS):PyData:=.list [.list (st.own.map PyData.str),.list (st.aj.map Tr),.list (st.aj.map λp=> .list ((gR st p).map Po)),.list (st.bN.map VQ),.int (aE st),.list ((st.own.map (tF st)).map aac)]
theorem Cv{α:Type}{f g:Pt->α}:∀{ps qs:List Pt},(ps.map λp:Pt=>((p.nm,p.ow,p.wo,p.we):Q4))=(qs.map λp:Pt=>((p.nm,p.ow,p.wo,p.we):Q4))->(∀p∈ps,∀q∈qs,p.nm=q.nm->p.ow=q.ow->p.wo=q.wo->p.we=q.we->f p=g q)->ps.map f=qs.map g
 | [],[],_,_=>rfl
 | [],_::_,h,_=>by cases h
 | _::_,[],h,_=>by cases h
 | p::ps,q::qs,h,hh=>by rw[bz,bz]at h;have h1:=List.head_eq_of_cons_eq h;have ih:=Cv (List.tail_eq_of_cons_eq h) λa ha b hb=>hh a (cA _ ha) b (cA _ hb);rw[bz,bz,ih,hh p cU q cU (ff (λz:Q4=>z.1) h1) (ff (λz:Q4=>z.2.1) h1) (ff (λz:Q4=>z.2.2.1) h1) (ff (λz:Q4=>z.2.2.2) h1)]
theorem VE.snap{a b:HS}(h:VE a b)(wa:Wf a)(wb:Wf b):DZ a=DZ b:=by unfold DZ;rw[Cv (g:=Tr) h.qd λp _ q _ e1 e2 e3 e4=>by unfold Tr;rw[e1,e2,e3,e4],Cv (g:=λq=>PyData.list ((gR b q).map Po)) h.qd λp hp q hq e _ _ _=>by rw[h.share wa wb hp hq e],h.own,h.bN,h.whole,oN λo _=>h.tF wa wb o]
theorem Pq{c:Nat}{st:HS}(g:Go c st)(wf:Wf st)(mo:Mo c st)(an:An st):Pd (DZ st) 8:=by
 have up:∀{d:PyData}{n m:Nat},Pd d n->n<=m->Pd d m:=λ{d n m} h=>by
  induction h generalizing m with
  | str e=>exact λ_=> .str e
  | int=>exact λ_=> .int
  | list _ ih=>intro hm;obtain⟨k,e⟩:∃k,m=k+1:=⟨m-1,by omega⟩;subst e;exact .list λd hd=>ih d hd (by omega)
  | tuple _ ih=>intro hm;obtain⟨k,e⟩:∃k,m=k+1:=⟨m-1,by omega⟩;subst e;exact .tuple λd hd=>ih d hd (by omega)
 have Lr:∀o∈st.own,PyData.strOk o=true:=λo ho=>yR (g.on o ho);have ag_:∀p∈st.aj,PyData.strOk p.nm=true:=λp hp=>yR (g.nk _ (wf.sub p hp));refine .list λd hd=>?_;rcases cK.mp hd with rfl|hd
 .exact up (vg (n:=0) λx hx=> .str (Lr x hx)) (by omega)
 rcases cK.mp hd with rfl|hd
 .exact up (vg λp hp=>abd (ag_ p hp) (Lr _ (wf.ow p hp))) (by omega)
 rcases cK.mp hd with rfl|hd
 .exact up (vg λp hp=>vg λx hx=>Tt (Lr _ (Nl (st:=st) (p:=p) hx))) (by omega)
 rcases cK.mp hd with rfl|hd
 .exact up (vg λa ha=>YY (yR (an a ha)) (Lr _ (mo.ao a ha)) λz hz=>Lr _ ((g.bN a ha).names hz)) (by omega)
 rcases cK.mp hd with rfl|hd
 .exact .int
 rcases cK.mp hd with rfl|hd
 .exact up (vg λq _=>pd2 (n:=0) .int .int) (by omega)
 cases hd
theorem oY{ρ ρ':cg}{H H':Hp}(G:Gh ρ H)(s:aR (out ρ H) (out ρ' H')):∀b xs,H b=some (.tup xs)->H' b=some (.tup xs):=λb xs e=>(ie (s _ _ (kg e (G.tup e)))).1
inductive vm(a:Addr)(ρ:cg)(H:Hp)(st:HS):List V->List Pt->Prop
 | nil:vm a ρ H st [] []
 | cons {z:Addr} {us vs:List V} {p:Pt} {ps:List Pt}:H z=some (.lst us)->ρ z=none->z≠a->jm H us (gR st p)->vm a ρ H st vs ps->vm a ρ H st (.ref z::vs) (p::ps)
theorem vm.keep{a:Addr}{ρ ρ':cg}{H H':Hp}{st:HS}{vs:List V}{ps:List Pt}(h:vm a ρ H st vs ps)(hl:∀z us,H z=some (.lst us)->ρ z=none->z≠a->H' z=some (.lst us)/\ρ' z=none)(ht:∀b xs,H b=some (.tup xs)->H' b=some (.tup xs)):vm a ρ' H' st vs ps:=by
 induction h with
 | nil=>exact .nil
 | cons e1 e2 e3 e4 _ ih=>obtain⟨x,y⟩:=hl _ _ e1 e2 e3;exact .cons x y e3 (e4.mono ht) ih
theorem vm.snoc{a:Addr}{ρ:cg}{H:Hp}{st:HS}{vs us:List V}{ps:List Pt}{z:Addr}{p:Pt}(h:vm a ρ H st vs ps)(e1:H z=some (.lst us))(e2:ρ z=none)(e3:z≠a)(e4:jm H us (gR st p)):vm a ρ H st (vs++[.ref z]) (ps++[p]):=by
 induction h with
 | nil=>exact .cons e1 e2 e3 e4 .nil
 | cons a b c d _ ih=>exact .cons a b c d ih
theorem vm.dt{K:Fg}{a:Addr}{ρ:cg}{H:Hp}{st:HS}{vs:List V}{ps:List Pt}(h:vm a ρ H st vs ps):uw K H vs (ps.map λp=> .list ((gR st p).map Po)):=by
 induction h with
 | nil=>exact .nil
 | cons e1 _ _ e4 _ ih=>exact .cons (.lst (aJ.of e1) e4.dt) ih
theorem ki.outs{ρ ρ':cg}{H H':Hp}{vs:List V}{l:List kI}(h:ki ρ H vs l)(G:Gh ρ H)(s:aR (out ρ H) (out ρ' H')):ki ρ' H' vs l:=by
 induction h with
 | nil=>exact .nil
 | cons a b c d _ ih=>exact .cons (oY G s _ _ a) (ie (s _ _ (kg b c))).1 (ie (s _ _ (kg b c))).2 (d.mono (oY G s)) ih
theorem HH.wrO{T:TC}{n:Nat}{ρ:cg}{A:HA}{H:Hp}{st:HS}(h:HH T n ρ A H st){a:Addr}{o u:HO}(c:ρ a=none)(e:H a=some u)(tu:isTup u=false)(t:isTup o=false):HH T n ρ A (upd H a o) st:=⟨h.g.wr t,h.h.same (sW c e tu),h.wf⟩
inductive adR(T:TC)(K:Fg)(vs:List V)(H:Hp)(Q:VK)(E:XK):Prop
 |mk(n:Nat)(ρ:cg)(A:HA)(st:HS)(_:vs=[.ref A.a])(_:HH T n ρ A H st)(_:st.kn+100*st.aj.length<=1000000)(_:∀r k H',HH T n ρ A H' { st with kn:=k }->k<=st.kn+100*st.aj.length->Fr n ρ H ρ H'->(∀ρ' zH,aR (out ρ H':_) (out ρ' zH:_)->Dt K zH (.ref r) (DZ st))->Q (.ref r) H')
def Tw(T:TC)(K:Fg):Sp:=bx (adR T K)
inductive iN(a:Addr)(ρ:cg)(H:Hp):List V->List (List Row)->Prop
 | nil:iN a ρ H [] []
 | cons {z:Addr} {zs vs:List V} {rs:List Row} {cs:List (List Row)}:H z=some (.lst zs)->ρ z=none->z≠a->ee H zs rs->iN a ρ H vs cs->iN a ρ H (.ref z::vs) (rs::cs)
theorem iN.keep{a:Addr}{ρ ρ':cg}{H H':Hp}{vs:List V}{cs:List (List Row)}(h:iN a ρ H vs cs)(hl:∀z us,H z=some (.lst us)->ρ z=none->z≠a->H' z=some (.lst us)/\ρ' z=none)(ht:∀b xs,H b=some (.tup xs)->H' b=some (.tup xs)):iN a ρ' H' vs cs:=by
 induction h with
 | nil=>exact .nil
 | cons e1 e2 e3 e4 _ ih=>obtain⟨x,y⟩:=hl _ _ e1 e2 e3;exact .cons x y e3 (e4.mono ht) ih
theorem iN.outs{a:Addr}{ρ ρ':cg}{H H':Hp}{vs:List V}{cs:List (List Row)}(h:iN a ρ H vs cs)(G:Gh ρ H)(s:aR (out ρ H) (out ρ' H')):iN a ρ' H' vs cs:=h.keep (λ_ _ e c _=>ie (s _ _ (kg e c))) (oY G s)
theorem iN.snoc{a:Addr}{ρ:cg}{H:Hp}{vs zs:List V}{cs:List (List Row)}{z:Addr}{rs:List Row}(h:iN a ρ H vs cs)(e1:H z=some (.lst zs))(e2:ρ z=none)(e3:z≠a)(e4:ee H zs rs):iN a ρ H (vs++[.ref z]) (cs++[rs]):=by
 induction h with
 | nil=>exact .cons e1 e2 e3 e4 .nil
 | cons a b c d _ ih=>exact .cons a b c d ih
theorem iN.length{a:Addr}{ρ:cg}{H:Hp}{vs:List V}{cs:List (List Row)}(h:iN a ρ H vs cs):vs.length=cs.length:=by
 induction h with
 | nil=>rfl
 | cons _ _ _ _ _ ih=>simp[ih]
theorem iN.get{a:Addr}{ρ:cg}{H:Hp}{vs:List V}{cs:List (List Row)}(h:iN a ρ H vs cs):∀{i:Nat}{x:V},vs[i]?=some x->∃z zs rs,x =.ref z/\cs[i]?=some rs/\H z=some (.lst zs)/\ρ z=none/\z≠a/\ee H zs rs:=by
 induction h with
 | nil=>intro i x e;simp at e
 | @cons z zs vs rs cs e1 e2 e3 e4 _ ih=>
  intro i x e;cases i with
  | zero=>simp at e;subst e;exact⟨z,zs,rs,Z,Z,e1,e2,e3,e4⟩
  | succ i=>simp at e;obtain⟨z',zs',rs',f1,f2,f3⟩:=ih e;exact⟨z',zs',rs',f1,by simpa using f2,f3⟩
inductive abg(K:Fg)(vs:List V)(H:Hp)(Q:VK)(E:XK):Prop
 |mk(n c m:Nat)(ρ:cg)(B:LA)(st:HS)(a:Addr)(ns:List Int)(k:Int)(nms:List Str)(many:Nat)(_:vs=[.ref a,.int k,.ref B.m,.int (many:Int)])(_:Gh ρ H)(_:bY n ρ B H (ef st))(_:GW c m st)(_:c+many<=91)(_:m+100*many<=1000000)(_:st.own.length<100)(_:x_ K ρ H a (ns.map V.int))(_:ns.length<=63)(_:0<=k)(_:k<=100000)(_:Nx nms st)(_:nms.length<=50)(_:∀l ws cs ρ' B' H',Gh ρ' H'->bY n ρ' B' H' (ef (cL st (cs.map Dd.cast)))->B'.m=B.m->Fr n ρ H ρ' H'->H' l=some (.lst ws)->ρ' l=none->iN l ρ' H' ws cs->nD st (cs.map Dd.cast)->cs.length<=many->Nx nms (cL st (cs.map Dd.cast))->Q (.ref l) H')
def Pr(K:Fg):Sp:=bx (abg K)
theorem VR{c:Nat}{st:HS}(g:Go c st){rs:List Row}(h:KS (mP st) rs)(hp:st.aj.length<=50)(wf:Wf st):KY (.cast rs):=by refine⟨by have:=h.len;unfold mP at this;rw[aH]at this;omega,λr hr=>?_⟩;obtain⟨r1,r2,w,hw,e,_⟩:=h.row r hr;obtain⟨p,hp,rfl⟩:=a_.mp hw;have e:p.nm=r.1:=e;exact⟨by rw[<-e];exact pH (g.nk _ (wf.sub p hp)),by unfold nB;omega⟩
section
variable {a:Addr}{ρ:cg}{H:Hp}
theorem iN.app{vs vs':List V}{cs cs':List (List Row)}(h:iN a ρ H vs cs)(h':iN a ρ H vs' cs'):iN a ρ H (vs++vs') (cs++cs'):=by
 induction h with
 | nil=>exact h'
 | cons e1 e2 e3 e4 _ ih=>exact .cons e1 e2 e3 e4 ih
theorem iN.drop{vs:List V}{cs:List (List Row)}(h:iN a ρ H vs cs)(k:Nat):iN a ρ H (vs.drop k) (cs.drop k):=by
 induction h generalizing k with
 | nil=>rw[List.drop_nil,List.drop_nil];exact .nil
 | cons e1 e2 e3 e4 h ih=>
  cases k with
  | zero=>exact .cons e1 e2 e3 e4 h
  | succ k=>exact ih k
theorem iN.take{vs:List V}{cs:List (List Row)}(h:iN a ρ H vs cs)(k:Nat):iN a ρ H (vs.take k) (cs.take k):=by
 induction h generalizing k with
 | nil=>rw[List.take_nil,List.take_nil];exact .nil
 | cons e1 e2 e3 e4 h ih=>
  cases k with
  | zero=>exact .nil
  | succ k=>exact .cons e1 e2 e3 e4 (ih k)
theorem iN.rev{vs:List V}{cs:List (List Row)}(h:iN a ρ H vs cs):iN a ρ H vs.reverse cs.reverse:=by
 induction h with
 | nil=>exact .nil
 | cons e1 e2 e3 e4 _ ih=>rw[EI,EI];exact ih.snoc e1 e2 e3 e4
end
theorem ee.rev{H:Hp}{vs:List V}{rs:List Row}(h:ee H vs rs):ee H vs.reverse rs.reverse:=by
 induction h with
 | nil=>exact .nil
 | cons e _ ih=>rw[EI,EI];exact ih.snoc e
theorem Rl(rs:List Row)(f:Str->Int):cI rs.reverse f=cI rs f:=by unfold cI;rw[Jh,List.sum_reverse]
theorem BJ(cs:List (List Row))(f:Str->Int):cI cs.flatten f=(cs.map λrs=>cI rs f).sum:=by
 induction cs with
 | nil=>rfl
 | cons rs cs ih=>rw[JJ,k7,ih,bz,c_]
def mS(b:Bool)(rs:List Row):List Row:=if b=true then rs.reverse else rs
theorem Tz(b:Bool)(rs:List Row)(f:Str->Int):cI (mS b rs) f=cI rs f:=by unfold mS;split;exact Rl _ _;rfl
def gX(k:Nat)(cs:List (List Row)):List (List Row):=if k=0 then(cs.drop k++cs.take k).reverse else cs.drop k++cs.take k
theorem Ls{k:Nat}{cs:List (List Row)}{rs:List Row}(h:rs∈gX k cs):rs∈cs:=by
 unfold gX at h;have:∀{x},x∈cs.drop k++cs.take k->x∈cs:=λhx=>(fu.mp hx).elim List.mem_of_mem_drop List.mem_of_mem_take;split at h
 .exact this (List.mem_reverse.mp h)
 .exact this h
theorem Cw(k:Nat)(cs:List (List Row)):(gX k cs).length=cs.length:=by
 unfold gX;split
 .rw [List.length_reverse,dD,JL,kN];omega
 .rw [dD,JL,kN];omega
theorem AJ(k:Nat)(b:Bool)(cs:List (List Row)):Rk cs.flatten ((gX k cs).map (mS b)).flatten:=λf=>by
 rw[BJ,BJ,gj];have e:(gX k cs).map ((λrs=>cI rs f) ∘ mS b)=(gX k cs).map λrs=>cI rs f:=oN λrs _=>Tz b rs f;rw[e];have e2:((cs.drop k++cs.take k).map λrs=>cI rs f).sum=(cs.map λrs=>cI rs f).sum:=by rw[bV,AY,Int.add_comm,<-AY,<-bV,List.take_append_drop]
 unfold gX;split
 .rw [Jh,List.sum_reverse,e2]
 .exact e2.symm
theorem nD.cs{st:HS}{cs:List (List Row)}(h:nD st (cs.map Dd.cast)):∀(i:Nat)(rs:List Row),cs[i]?=some rs->jP (cL st ((cs.take i).map Dd.cast)) rs=none:=λi rs e=>by have:=(h i (.cast rs) (by rw[cN,e];rfl)).1;rw[<-CZ]at this;exact this
theorem abh{rs:List Row}(nd:(rs.map λr:Row=>r.1).Nodup){r:Row}(hr:r∈rs):gW rs r.1=r.2:=by
 induction rs with
 | nil=>cases hr
 | cons y rs ih=>
  obtain⟨n1,n2⟩:=fX.mp nd;rw[mR];have z:∀{l:List Row}{x:Str},x∉(l.map λr:Row=>r.1)->gW l x=0:=λ{l x} h=>by
   induction l with
   | nil=>rfl
   | cons w l ih=>rw[mR,aB (λe=>h (by rw[bz];exact cK.mpr (.inl e.symm))),ih λe=>h (by rw[bz];exact cA _ e)];rfl
  rcases cK.mp hr with e|e
  .subst e;rw[aC rfl,z n1];omega
  .rw [aB (λw=>n1 (by show y.1∈_;rw[w];exact a_.mpr ⟨r,e,Z⟩)),ih n2 e];omega
theorem YZ{l:List Row}{x:Str}(h:x∉(l.map λr:Row=>r.1)):gW l x=0:=by
 induction l with
 | nil=>rfl
 | cons w l ih=>rw[mR,aB (λe=>h (by rw[bz];exact cK.mpr (.inl e.symm))),ih λe=>h (by rw[bz];exact cA _ e)];rfl
theorem Cy{c m:Nat}{st:HS}{cs:List (List Row)}(h:nD st (cs.map Dd.cast))(g:GW c m st)(hc:c+cs.length<=91)(hm:m+100*cs.length<=1000000)(ho:st.own.length<100):∀i≤cs.length,nT st (cs.take i).flatten (cL st ((cs.take i).map Dd.cast))/\(∀r∈(cs.take i).flatten,1<=r.2/\r.1∈d_ st)/\(∀p∈st.aj,gW (cs.take i).flatten p.nm<=p.wo)/\(0<i->aQ (cs.take i).flatten<aE st/\0<aE st):=by
 intro i
 induction i with
 | zero=>exact λ_=>⟨nT.nil g.wf,λr hr=>absurd hr (by simp),λp hp=>by show(0:Int)<=_;have:=(g.wf.jI p hp).1;omega,λz=>absurd z (by omega)⟩
 | succ i ih=>
  intro hi;obtain⟨b,r1,t1,l1⟩:=ih (by omega);have ei:=bM (show i<cs.length by omega);generalize cs[i]=rs at ei;have cr:=h.cs i rs ei;have gi:=(h.go g (by rw[aH];exact hc) (by rw[aH];exact hm) ho i (by rw[aH];omega)).1;rw[<-CZ]at gi;have ok:=gi.g.tE gi.wf (by omega) cr;obtain⟨_,nd,rw',hl⟩:=tD cr;have r0:∀r∈rs,1<=r.2:=λr hr=>(j0 (rw' r hr)).2.1;have lr:0<=aQ rs:=qX r0;have l0:0<=aQ (cs.take i).flatten:=qX λx hx=>(r1 x hx).1;have w0:0<aE st:=by rw[b.wh]at hl;omega
  have la:aQ ((cs.take i).flatten++rs)=aQ (cs.take i).flatten+aQ rs:=by rw[fV,k7,<-fV,<-fV]
  have e:(cs.take (i+1)).flatten=(cs.take i).flatten++rs:=by rw[take_snoc ei,Qj];simp
  have e2:cL st ((cs.take (i+1)).map Dd.cast)=cV (cL st ((cs.take i).map Dd.cast)) rs:=by rw[take_snoc ei,bV];exact iB _ _ _
  rw[e,e2];refine⟨b.cast g.wf gi.wf w0 ok,λr hr=>?_,λp hp=>?_,λ_=>⟨?_,w0⟩⟩
  .rcases fu.mp hr with z|z
   .exact r1 r z
   .obtain ⟨_,_,q,hq,eq,_⟩:=ok.row r z;obtain⟨p,hp,ep⟩:=b.sub hq;exact⟨r0 r z,a_.mpr ⟨p,hp,ep.trans eq⟩⟩
  .rw [E9];by_cases hx:p.nm∈rs.map λr:Row=>r.1
   .obtain ⟨r,hr,er⟩:=a_.mp hx;have er:r.1=p.nm:=er;obtain⟨_,_,q,hq,eq,hle⟩:=ok.row r hr;have ft:=vh (cs.take i).flatten (aV st) (vf g.wf) (λx hx=>(r1 x hx).1) (λq hq=>by obtain⟨z,hz,rfl⟩:=a_.mp hq;exact t1 z hz);have mq:((q.nm,q.ow,q.wo,q.we):Q4)∈aV (cL st ((cs.take i).map Dd.cast)):=a_.mpr ⟨q,hq,Z⟩;rw[b.qd,ft]at mq;obtain⟨y,hy,ey⟩:=a_.mp (mZ.mp mq).1;obtain⟨p2,hp2,rfl⟩:=a_.mp hy;have n1:p2.nm=q.nm:=ff (λz:Q4=>z.1) ey;have n3:p2.wo-gW (cs.take i).flatten p2.nm=q.wo:=ff (λz:Q4=>z.2.2.1) ey;have pp:p2=p:=by rw[<-bQ g.wf hp2 rfl,<-bQ g.wf hp rfl,n1,eq,er]
    subst pp;rw[<-er,abh nd hr,er];omega
   .rw [YZ hx];have:=t1 p hp;omega
  .rw [la];rw[b.wh]at hl;omega
theorem Hx{st:HS}(wf:Wf st)(h:st.aj≠[]):0<aE st:=by
 unfold aE;have w:=wf.jI;cases hp:st.aj with
 | nil=>exact absurd hp h
 | cons p ps=>
  rw[hp]at w;have a:=(w p cU).1;have b:0<=(ps.map λp=>p.wo).sum:=S_ λx hx=>by obtain⟨q,hq,rfl⟩:=a_.mp hx;have:=(w q (cA _ hq)).1;omega
  rw[bz,c_];show 0<p.wo+_;omega
theorem Lu:∀rs:List Row,rs.foldl ja []=[]
 | []=>rfl
 | r::rs=>Lu rs
theorem Nm{st:HS}{rs rs':List Row}{s s':HS}(b:nT st rs s)(b':nT st rs' s')(wf:Wf st)(h1:st.aj≠[]->vj st rs)(h2:st.aj≠[]->vj st rs')(a:Rk rs rs'):VE s s':=by
 by_cases e:st.aj=[]
 .have q0:aV st=[] :=by unfold aV;rw[e];rfl
  have z:∀{rs:List Row}{s:HS},nT st rs s->aV s=[]/\s.aj=[] :=λ{rs s} b=>by have:=b.qd;rw[q0,Lu]at this;exact⟨this,by unfold aV at this;exact List.map_eq_nil_iff.mp this⟩
  have P0:0<st.prod:=by have:=wf.eE;omega
  refine⟨b.own.trans b'.own.symm,b.nms.trans b'.nms.symm,b.bN.trans b'.bN.symm,by rw[(z b).1,(z b').1],λp hp=>?_,λj=>?_⟩
  .rw [(z b).2]at hp;cases hp
  .have h1:=b.pu j;have h2:=b'.pu j;refine BP (a:=st.prod) (by omega) ?_;generalize s.bF.getD j 0=x at *;generalize s'.bF.getD j 0=y at *;have l1:st.prod*(x*s'.prod)=(x*st.prod)*s'.prod:=by grind
   have l2:st.prod*(y*s.prod)=(y*st.prod)*s.prod:=by grind
   rw[l1,l2,h1,h2]
   grind
 .exact b.alike b' wf (Hx wf e) (h1 e) (h2 e) a
theorem Hy{k:Nat}{bb:Bool}{cs:List (List Row)}{r:Row}(h:r∈((gX k cs).map (mS bb)).flatten):r∈cs.flatten:=by
 obtain⟨l,hl,hr⟩:=List.mem_flatten.mp h;obtain⟨rs,hrs,rfl⟩:=a_.mp hl;refine List.mem_flatten.mpr ⟨rs,Ls hrs,?_⟩;unfold mS at hr;split at hr
 .exact List.mem_reverse.mp hr
 .exact hr
theorem TF{c m:Nat}{st:HS}{cs:List (List Row)}(h:nD st (cs.map Dd.cast))(g:GW c m st)(hc:c+cs.length<=91)(hm:m+100*cs.length<=1000000)(ho:st.own.length<100){k:Nat}{bb:Bool}{i:Nat}{rs:List Row}(er:(gX k cs)[i]?=some rs){s:HS}(b:nT st (((gX k cs).take i).map (mS bb)).flatten s)(ws:Wf s):jP s (mS bb rs)=none/\0<aE st:=by
 obtain⟨_,r1,t1,l1⟩:=Cy h g hc hm ho cs.length (aO _);rw[cO]at r1 t1 l1;have hm:=cu er;have hin:=Ls hm;have c0:0<cs.length:=List.length_pos_of_mem hin;obtain⟨l2,w0⟩:=l1 c0;have fit:vj st ((gX k cs).map (mS bb)).flatten:=(vj.mk r1 t1 l2).abf (AJ k bb cs) λr hr=>r1 r (Hy hr);have e:((gX k cs).map (mS bb)).flatten=((((gX k cs).take i).map (mS bb)).flatten++mS bb rs)++(((gX k cs).drop (i+1)).map (mS bb)).flatten:=by
  have:gX k cs=((gX k cs).take i++[rs])++(gX k cs).drop (i+1):=by rw[<-take_snoc er,List.take_append_drop]
  conv=>lhs;rw[this]
  rw[bV,bV,Qj,Qj];simp
 rw[e]at fit;obtain⟨j,hj,ej⟩:=yp hin;have cr:=h.cs j rs (by rw[bM hj,ej]);obtain⟨ne,nd,_⟩:=tD cr;refine⟨b.jP g.wf ws fit.left ?_ ?_,w0⟩
 .unfold mS;split
  .rw [Jh];exact List.pairwise_reverse.mpr (nd.imp λh=>bX h)
  .exact nd
 .unfold mS;split
  .exact λz=>ne (List.reverse_eq_nil_iff.mp z)
  .exact ne
theorem Rm{c m:Nat}{st:HS}{cs:List (List Row)}(h:nD st (cs.map Dd.cast))(g:GW c m st)(hc:c+cs.length<=91)(hm:m+100*cs.length<=1000000)(ho:st.own.length<100){k:Nat}{bb:Bool}{s:HS}(b:nT st ((gX k cs).map (mS bb)).flatten s):VE (cL st (cs.map Dd.cast)) s:=by
 obtain⟨b1,r1,t1,l1⟩:=Cy h g hc hm ho cs.length (aO _);rw[cO]at b1 r1 t1 l1;have f1:st.aj≠[]->vj st cs.flatten:=λhp=>⟨r1,t1,by
  by_cases z:cs.length=0
  .have:cs=[] :=List.length_eq_zero_iff.mp z;subst this;exact Hx g.wf hp
  .exact (l1 (by omega)).1⟩
 exact Nm b1 b g.wf f1 (λhp=>(f1 hp).abf (AJ k bb cs) λr hr=>r1 r (Hy hr)) (AJ k bb cs)
section
variable {P:Program}{w:World}{K:Fg}{mg:SO}{base:Heap}{k:Nat}{T:TC}{e:Ec}{ps:List Str}
theorem VT(D:Mn P w K mg base k T.hold "place_of" ps (sN (yQ T e))):Mn P w K mg base k T.hold "place_of" ps (Bk T):=D.imp λvs H Q E h=>by obtain⟨⟨n,ρ,A,st,o,rfl,hx,ho,q⟩⟩:=h;exact⟨n,ρ,A,st,o,Z,hx,λz=>absurd ho z,λ_=>q⟩
theorem TH(D:Mn P w K mg base k T.hold "part_of" ps (sN (mK T e))):Mn P w K mg base k T.hold "part_of" ps (Ce T):=D.imp λvs H Q E h=>by obtain⟨⟨n,ρ,A,st,i,p,qq,rfl,hx,nd,ep,eq,q⟩⟩:=h;refine⟨n,ρ,A,st,p.nm,Z,hx,nd,λz=>absurd rfl (z p (cu ep)),λj p' q' e1 e2 e3=>?_⟩;have:j=i:=DC nd e2 ep e1;subst this;rw[eq]at e3;cases e3;exact q
theorem abi(D:Mn P w K mg base k T.hold "check_new" ps (sN (xC T e))):Mn P w K mg base k T.hold "check_new" ps (DG T):=D.imp λvs H Q E h=>by
 obtain⟨⟨n,ρ,A,st,x,rfl,h,h1,h2,q⟩⟩:=h;have hn:newR st x=none:=by unfold newR;rw[aC h1,aB h2]
 refine⟨n,ρ,A,st,x,Z,h,gh (pH h1) (by decide),λi hi=>?_,λ_=>q⟩;rw[hn]at hi;cases hi
theorem abj(D:Dn P w K mg base k "check_amount" ps (sN (AD e))):Dn P w K mg base k "check_amount" ps adw:=D.imp λvs H Q E h=>by obtain⟨⟨a,rfl,h1,q⟩⟩:=h;exact⟨a,Z,λz=>absurd z (by omega),λ_=>q⟩
theorem abk(D:Dn P w K mg base k "check_loss" ps (sN (K6 e))):Dn P w K mg base k "check_loss" ps WL:=D.imp λvs H Q E h=>by obtain⟨⟨m,a,rfl,h1,h2,q⟩⟩:=h;exact⟨m,a,Z,λz=>absurd z (by omega),λ_ z=>absurd z (by omega),λ_ _=>q⟩
end
theorem dQ{K:Fg}{σ:St}{H:Hp}{j:Nat}{z:Addr}{xs:List V}{w x:Str}{Q:Bool->Hp->Prop}(hz:dG K H z xs)(e:xs[0]?=some (.str w))(hx:w≠x)(hj:σ[j]?=some (some (.ref z)))(q:Q false H):Js (Gp rEq (Gp (QI K) (EK j) (tC (.int 0))) (tC (.str x))) σ H Q:=by have f:decide (V.str w=V.str x)=false:=dF λz=>hx (V.str.inj z);refine⟨_,hj,z,_,_,_,Z,Z,hz,aM (j:=0) e,Z,_,Z,?_⟩;rw[f];exact q
end L2
set_option autoImplicit false
namespace Law
open PySem L2
theorem iO(n:Nat)(h:n<=1000:=by decide):n<=sizeLine:=by rw[kP];omega
def top(i:Nat):Stmt:=PySem.Challenge.pw_jettison_k35_whole_casts_in_any_order.main.body.getD i (.Pass ⟨0,0,0,0⟩)
section
variable {P:Program}{w:World}{K:Fg}{mg:SO}{base:Heap}{f:Addr}{fd:FuncData}
abbrev oZ:Stmt:=top 2
abbrev jT:List Str:=["one","other"]
abbrev D0:List Str:=jT
theorem vq:aS D0 jT (aF oZ):=dX
theorem Cz(F:At K mg "common_factor" oZ f fd):Dn P w K mg base 1 "common_factor" jT U6:=by
 refine F.oA vq λcdv A outer s H vs Q E hr h=>?_;obtain⟨a,b,rfl,ha,hb,q⟩:=h;refine⟨_,(@dg.h _ _ _ (ak (KZ gc (aX j8 (qv 1) aq (bu _)) (aA (aaN (i:=0) (j:=1) rfl vq.nd rfl rfl (by decide) rfl rfl (ah (qv 1) (ah (aP lz (qv 0) (qv 1)) au)) (by rfl))))
  (aA (bJ (qv 0))))),?_⟩
 refine⟨λm σ H'=>∃x y:Int,m=y.toNat/\σ=[some (.int x),some (.int y)]/\H'=H/\0<=x/\0<=y/\Jm.cf x y=Jm.cf a b,⟨_,a,b,Z,Z,Z,ha,hb,Z⟩,?_⟩;rintro m σ H' ⟨x,y,rfl,rfl,rfl,hx,hy,e⟩;refine⟨_,Z,_,_,Z,Z,_,Z,?_⟩;refine cD (λc=>?_) (λc=>?_)
 .have c':0<y:=eF c;refine⟨_,λ_ _ z=>z,?_⟩;refine⟨_,Z,_,Z,_,Z,_,_,Z,Z,c',_,_,Z,?_⟩;have h1:0<=x % y:=pN _ (by omega);have h2:x % y<y:=zS _ c';exact⟨_,(by omega:(x % y).toNat<y.toNat),y,x % y,Z,Z,Z,hy,h1,(Jm.OJ x y c').trans e⟩
 .have c':¬ 0<y:=uP (qN.mpr c);have ey:y=0:=by omega
  subst ey;rw[Jm.X3 x hx]at e;refine⟨_,Z,?_⟩;rw[e];exact q
abbrev ze:Stmt:=top 18
abbrev wZ:List Str:=["text","signs"]
abbrev TJ:List Str:=wZ
theorem Rn:aS TJ wZ (aF ze):=dX
theorem Ro(F:At K mg "made_of" ze f fd)(Rp:mg "all"=none):Dn P w K mg base 1 "made_of" wZ Ca:=by
 refine F.oA Rn λcdv A outer s H vs Q E hr h=>?_;obtain⟨⟨cs,signs,rfl,hl,q⟩⟩:=h;refine⟨_,(@dg.h _ _ _ (aA (bJ (bZ (Sm K rfl) (by rfl) Rp PyProof.Rows.boot_all (ah (ko ["sign","signs"] [none,some 1] rfl (aaQ (qv 0)) (λ_ _ _ _=>(bg (i:=0) (show List.Nodup (["sign","signs"] :List Str)from by decide +kernel))) (λ_ _ _ _=>(Bp RN (qv 0) (qv 1) (by with_unfolding_all rfl))) rfl (by rfl)) au))))),?_⟩;refine⟨_,Z,cs,Z,λacc hacc=>?_⟩;refine U_ (λi out H1=>aR H H1/\out=((cs.take i).map (Dr signs)).map V.bl) hl ⟨aG hacc _,Z⟩ ?_ ?_
 .rintro i c out H1 hx gD ha ⟨g,e⟩;refine⟨_,Z,_,Z,_,_,Z,Z,ha,g.dI hacc _,?_⟩;rw[e,List.take_add_one,hx,bV,bV];rfl
 rintro out H1 gD ha ⟨g,e⟩;rw[cO]at e;refine⟨acc,cs.map (Dr signs),Z,aJ.of (by rw[ha,e]),?_⟩;have e2:(cs.map (Dr signs)).all id=cs.all (Dr signs):=by rw[List.all_map];rfl
 rw[e2];exact q H1 g
abbrev zf:Stmt:=top 17
abbrev tH:List Str:=["text"]
abbrev TL:List Str:=tH
theorem Rq:aS TL tH (aF zf):=dX
theorem Rr{tk:Tok}(F:At K mg "is_name" zf f fd)(AK:Dn P w K mg base 1 "made_of" wZ Ca)(cE:mg "len"=none)(AL:mg "LETTERS"=some (.str "abcdefghijklmnopqrstuvwxyz" tk)):Dn P w K mg base 2 "is_name" tH yG:=by
 refine F.oA Rq λcdv A outer s H vs Q E hr h=>?_;obtain⟨⟨cs,rfl,hl,q⟩⟩:=h;refine⟨_,(@dg.h _ _ _ (aA (bJ (aaP (Vp Ww Ww aq (bZ J3 (by rfl) cE gf (ah (qv 0) au)) aq) (aaL (bK AK hr (ah (qv 0) (ah (YH (v:=.str "abcdefghijklmnopqrstuvwxyz") (by rfl) AL ⟨_,Z⟩) au)))))))),?_⟩;have hz:(tx cs).length<=sizeLine:=by rw[Ad,kP];omega
 refine⟨_,Z,_,Z,hz,_,_,Z,Z,_,Z,?_⟩;rw[Ad];refine cD (λc=>?_) (λc=>?_)
 .refine ⟨_,_,Z,Z,_,Z,cD (λc2=>?_) (λc2=>?_)⟩
  .refine ⟨_,Z,QS hl λH' g=>?_⟩;have:=q H' g;unfold isName at this;rw[c,c2,Bool.true_and,Bool.true_and]at this;exact this
  .have:=q H (aR.refl _);unfold isName at this;rw[c,qN.mpr c2,Bool.true_and,Bool.false_and]at this;exact this
 .have:=q H (aR.refl _);unfold isName at this;rw[qN.mpr c,Bool.false_and,Bool.false_and]at this;exact⟨_,Z,bL this⟩
abbrev qe:Stmt:=top 23
abbrev je:List Str:=["amount"]
abbrev E_:List Str:=je
theorem D5:aS E_ je (aF qe):=dX
theorem CA{e:Ec}(F:At K mg "check_amount" qe f fd):Dn P w K mg base 1 "check_amount" je (sN (AD e)):=by refine F.oA D5 λcdv A outer s H vs Q E hr h=>?_;obtain⟨⟨a,rfl,h5,q⟩⟩:=h;refine⟨_,(@dg.h _ _ _ (aA (cX (aX rT (qv 0) aq (bu _)) (aA gr) bP))),?_⟩;exact⟨_,Z,_,_,Z,Z,_,Z,cD (λc=>h5 (eF c) 0 H (aR.refl _)) λc=>q (by have:=uP (qN.mpr c);omega)⟩
abbrev tV:Stmt:=top 24
abbrev mT:List Str:=["most","amount"]
abbrev Lv:List Str:=mT
theorem HP:aS Lv mT (aF tV):=dX
theorem Fb{e:Ec}(F:At K mg "check_loss" tV f fd)(jf:Dn P w K mg base 1 "check_amount" je (sN (AD e))):Dn P w K mg base 2 "check_loss" mT (sN (K6 e)):=by
 refine F.oA HP λcdv A outer s H vs Q E hr h=>?_;obtain⟨⟨m,a,rfl,h5,h6,q⟩⟩:=h;refine⟨_,(@dg.h _ _ _ (ak (b_ (bK jf hr (ah (qv 1) au)))
  (aA (cX (aX j8 (qv 1) (qv 0) (bu _)) (aA gr) bP)))),?_⟩
 exact⟨_,Z,⟨⟨a,Z,h5,λh1=>⟨_,Z,_,Z,_,_,Z,Z,_,Z,cD (λc=>h6 h1 (eF c) 0 H (aR.refl _)) λc=>q h1 (by have:=uP (qN.mpr c);omega)⟩⟩⟩⟩
abbrev tW:Stmt:=top 22
abbrev qf:List Str:=["rows"]
abbrev Lw:List Str:=qf.append ["amounts","name","amount"]
theorem oj:aS Lw qf (aF tW):=dX
theorem HQ(F:At K mg "amounts_of" tW f fd)(cE:mg "len"=none):Dn P w K mg base 1 "amounts_of" qf (SV K):=by
 refine F.oA oj λcdv A outer s H vs Q E hr h=>?_;obtain⟨⟨l,us,rs,rfl,hl,hR,nd,hne,hle,q⟩⟩:=h;refine⟨_,(@dg.h _ _ _ (ak (aW (i:=1) oj.nd rj)
  (ak (fG gc rfl (eW K (qv 0)) (iS K (n:=2) rfl (cM (bg (i:=2) oj.nd) (cM (bg (i:=3) oj.nd) iR))) (ak (cX (ya (K3 (d9 hr) (qv 2) (qv 1))) (aA gr) bP)
  (aA (uN (d9 hr) (qv 1) (qv 2) (qv 3) rfl))))
  (ak (cX (aX eO (bZ wH (by rfl) cE gf (ah (qv 1) au)) aq (bu _)) (aA gr) bP)
  (aA (bJ (qv 1))))))),?_⟩
 intro d hd;have g0:=aG hd (.dK []);have hd0:upd H d (.dK []) d=some (.dK (iI (rs.take 0))):=ai;generalize upd H d (.dK [])=H0 at *;have hul:=hR.length;refine⟨_,Z,l,Z,⟨us,g0.seq hl⟩,?_⟩;refine jW (K:=K) (xs:=us) (λi σ H'=>aR H H'/\H' d=some (.dK (iI (rs.take i)))/\∃s2 s3,σ=[some (.ref l),some (.ref d),s2,s3]) ⟨g0,hd0,_,_,Z⟩ (λi σ H' _ hp=>hp.1.seq hl) ?_ ?_
 .rintro i x σ H' hx ⟨g,hd',s2,s3,rfl⟩;obtain⟨a,r,rfl,er,ha⟩:=hR.get hx;have hnot:r.1∉(rs.take i).map (·.1):=by rw[CZ];exact qU nd (by rw[cN,er];rfl)
  have hlt:(iI (rs.take i)).length<sizeLine:=by rw[yL,kN];exact dH (by omega)
  refine⟨a,_,Z,dG.of (g _ _ ha),Z,_,_,Z,_,_,Z,Z,?_⟩;refine⟨_,Z,_,Z,d,_,Z,eY.k (k:=Sum.inr r.1) hd',_,Z,?_⟩;rw[GQ hnot];refine bL ?_;refine⟨_,Z,_,Z,_,Z,d,_,Z,xx.k (k:=Sum.inr r.1) hd' hlt,g.dI hd _,?_,_,_,Z⟩;rw[ai,mE _ (GQ hnot),take_snoc er];unfold iI;rw[bV];rfl
 rintro σ H' ⟨g,hd',s2,s3,rfl⟩;rw[hul,cO]at hd';refine⟨_,Z,d,_,Z,hd',Z,_,Z,?_⟩;rw[yL];have hpos:0<rs.length:=List.length_pos_iff.mpr hne;rw[dF (λe=>by have:=V.int.inj e;omega)];exact bL ⟨_,Z,q d H' g hd hd'⟩
abbrev o6:Stmt:=top 5
abbrev l7:List Str:=["step","tops"]
abbrev D6:List Str:=l7.append ["top"]
theorem o7:aS D6 l7 (aF o6):=dX
theorem CB(F:At K mg "factor_of_all" o6 f fd)(iT:Dn P w K mg base 1 "common_factor" jT U6):Dn P w K mg base 2 "factor_of_all" l7 (SW K):=by
 refine F.oA o7 λcdv A outer s H vs Q E hr h=>?_;obtain⟨⟨s,l,ts,rfl,hl,h0,h1,q⟩⟩:=h;refine⟨_,(@dg.h _ _ _ (ak (fG gc rfl (eW K (qv 1)) (bg (i:=2) o7.nd) (aA (aW (i:=0) o7.nd (bK iT hr (ah (qv 2) (ah (qv 0) au))))))
  (aA (bJ (qv 0))))),?_⟩
 refine⟨_,Z,l,Z,⟨_,hl⟩,?_⟩;refine jW (K:=K) (xs:=ts.map V.int) (λi σ H'=>H'=H/\0<=p6 s (ts.take i)/\∃s2,σ=[some (.int (p6 s (ts.take i))),some (.ref l),s2]) ⟨Z,h0,_,Z⟩ (λi σ H' _ hp=>by rw[hp.1];exact hl) ?_ ?_
 .rintro i x σ H' hx ⟨rfl,hf,s2,rfl⟩;obtain⟨t,rfl,et⟩:=gu hx;have e1:p6 s (ts.take (i+1))=Jm.cf t (p6 s (ts.take i)):=by unfold p6;rw[take_snoc et,BW];rfl
  refine⟨_,Z,_,Z,t,_,Z,h1 t (cu et),hf,Z,?_,some (.int t),?_⟩
  .rw [e1];unfold Jm.cf;omega
  .rw [e1];rfl
 rintro σ H' ⟨rfl,hf,s2,rfl⟩;rw[aH,cO];exact⟨_,Z,q⟩
abbrev rB:Stmt:=inClass (top 4) 0
abbrev tX:List Str:=["self"]
abbrev HR:List Str:=tX
theorem Fc:aS HR tX (aF rB):=dX
theorem Fd{T:TC}(F:GJ K mg "Bottom" T.bot "Bottom.__init__" rB f fd)(X:Txt K T):Cn P w K mg base 1 "Bottom" T.bot tX (ET T):=by
 refine F.oA Fc λcdv A outer s H vs Q E hr h=>?_;obtain⟨⟨p,dx,rfl,hp,q⟩⟩:=h;refine⟨_,(@dg.h _ _ _ (ak (cR K (qv 0) (iK au))
  (ak (cR K (qv 0) aq)
  (aA (cR K (qv 0) rj))))),?_⟩
 refine⟨(iO 0),λl hl=>?_⟩;have n1:p≠l:=aD hp hl;refine⟨_,Z,p,T.bot,dx,_,Z,by rw[ay n1];exact hp,X.cB,X.SK,by show 0<1000;decide,?_⟩;refine⟨_,Z,p,T.bot,dx,_,Z,ai,X.cB,X.GL,by show 1<1000;decide,?_⟩;intro d hd;have n2:d≠p:=λe=>by rw[e,ai]at hd;cases hd
 have n3:d≠l:=λe=>by rw[e,ay (bX n1),ay (bX n1),ai]at hd;cases hd
 have hd0:H d=none:=by rw[ay n2,ay n2,ay n3]at hd;exact hd
 refine⟨_,Z,p,T.bot,dx,_,Z,by rw[ay (bX n2)];exact ai,X.cB,X.SM,by show 2<1000;decide,?_⟩;refine q l d _ hl hd0 (bX n3) (λb o e hb=>?_) ai ?_ ?_
 .rw [ay hb,ay (aD e hd0),ay hb,ay hb,ay (aD e hl)];exact e
 .rw [ay (bX n1),ay (bX n3),ay (bX n1),ay (bX n1)];exact ai
 .rw [ay n2];exact ai
abbrev vt:Stmt:=inClass (top 20) 0
abbrev xE:List Str:=["self","name","owner","worth","weight","scale","row"]
abbrev Nn:List Str:=xE
theorem Lx:aS Nn xE (aF vt):=dX
theorem Ly{T:TC}(F:GJ K mg "Part" T.part "Part.__init__" vt f fd)(X:Txt K T)(fU:mg "list"=none):Cn P w K mg base 1 "Part" T.part xE (Bj T K):=by
 refine F.oA Lx λcdv A outer s H vs Q E hr h=>?_;obtain⟨⟨p,dx,l,pt,rfl,hp,hl,q⟩⟩:=h;refine⟨_,(@dg.h _ _ _ (ak (cR K (qv 0) (qv 1))
  (ak (cR K (qv 0) (qv 2))
  (ak (cR K (qv 0) (qv 3))
  (ak (cR K (qv 0) (qv 4))
  (ak (cR K (qv 0) (qv 5))
  (aA (cR K (qv 0) (iL (jC K) (by rfl) fU zP (ah (qv 6) au)))))))))),?_⟩
 refine⟨_,Z,_,Z,p,T.part,dx,_,Z,hp,X.cP,X.OQ,by show 0<1000;decide,?_⟩;refine⟨_,Z,_,Z,p,T.part,dx,_,Z,ai,X.cP,X.pow,by show 1<1000;decide,?_⟩;refine⟨_,Z,_,Z,p,T.part,dx,_,Z,ai,X.cP,X.uZ,by show 2<1000;decide,?_⟩;refine⟨_,Z,_,Z,p,T.part,dx,_,Z,ai,X.cP,X.OR,by show 3<1000;decide,?_⟩;refine⟨_,Z,_,Z,p,T.part,dx,_,Z,ai,X.cP,X.GK,by show 4<1000;decide,?_⟩;simp only[lH];have hl1:∀o,aJ K (upd H p o) l (pt.row.map V.int):=λo=>by
  rcases hl with(h|⟨ob,h⟩)|h
  .exact .inl (.inl (by rw[ay (i8 h hp (by intro z;cases z))];exact h))
  .exact .inl (.inr ⟨ob,by rw[ay (i8 h hp (by intro z;cases z))];exact h⟩)
  .exact .inr h
 refine⟨_,Z,l,_,Z,.inl (hl1 _),λr hr2=>?_⟩;have n1:r≠p:=λe=>by rw[e,ai]at hr2;cases hr2
 refine⟨_,Z,p,T.part,dx,_,Z,by rw[ay (bX n1)];exact ai,X.cP,X.Ko,by show 5<1000;decide,?_⟩;have hr0:H r=none:=by rw[ay n1]at hr2;exact hr2
 refine q r _ hr0 (λb o e hb=>?_) ai ?_
 .rw [ay hb,ay (aD e hr0),ay hb];exact e
 .rw [ay n1];exact ai
abbrev rC:Stmt:=inClass (top 4) 1
abbrev oq:List Str:=["self","step"]
abbrev HU:List Str:=oq
theorem Fe:aS HU oq (aF rC):=dX
theorem Ff{T:TC}(F:iG K T.bot "grow" "Bottom.grow" rC f fd)(X:Txt K T):Mn P w K mg base 1 T.bot "grow" oq (SX T):=by
 refine F.oA Fe λcdv A outer s H vs Q E hr h=>?_;obtain⟨⟨n,ρ,A,st,s,rfl,g,h,hl,z1,z2,q⟩⟩:=h;refine⟨_,(@dg.h _ _ _ (aA (jR (aX j8 (qv 1) aq (bu _)) (ak (b_ (kY oM oJ oK eU (aI K (qv 0)) (ah (qv 1) au)))
  (ak (qc K (qv 0) (qv 1) Yo)
  (aA (cR K (qv 0) rj)))) bP))),?_⟩
 refine⟨λσ' H'=>Q .cW H',⟨_,Z,_,_,Z,Z,_,Z,cD (λc=>?_) (λc=>?_)⟩,λ_ _ z=>z⟩
 .have c':1<s:=eF c;refine⟨_,Z,A.bt,T.bot,A.db,_,_,Z,h.jc,X.cB,X.SK,Z,.inl ⟨Z,_,aJ.of h.lZ⟩,_,Z,A.sp,_,_,Z,Z,h.lZ,by rw[aH];exact dH hl,?_⟩;rw[show st.stp.map V.int++[V.int s]=(st.stp++[s]).map V.int from by rw[bV];rfl];have h1:=h.aau g (st.stp++[s]);have g1:=g.wr (a:=A.sp) (o:=.lst ((st.stp++[s]).map V.int)) rfl;have F1:Fr n ρ H ρ (upd H A.sp (.lst ((st.stp++[s]).map V.int))):=Fr.write h.gP;generalize upd H A.sp (.lst ((st.stp++[s]).map V.int))=H1 at *;refine⟨_,Z,A.bt,T.bot,A.db,_,_,Z,h1.jc,X.cB,X.GL,Z,_,Z,_,_,Z,Z,pD z1 z2,A.db,_,h1.jc,by show 3<1000;decide,?_⟩;intro kn hkn;have nb:kn≠A.bt:=λe=>by rw[e,ai]at hkn;cases hkn
  have CC:H1 kn=none:=by rw[ay nb]at hkn;exact hkn
  have gQ:ρ kn=none:=g1.none CC;refine⟨_,Z,A.bt,T.bot,A.db,_,Z,by rw[ay (bX nb)];exact ai,X.cB,X.SM,by show 3<1000;decide,?_⟩;have eH:upd (upd (upd H1 A.bt (.ins T.bot A.db (aZ "product" (.int (st.prod*s)) (jY A.sp st.prod A.kn)))) kn (.dK [])) A.bt (.ins T.bot A.db (aZ "known" (.ref kn) (aZ "product" (.int (st.prod*s)) (jY A.sp st.prod A.kn))))=upd (upd H1 kn (.dK [])) A.bt (.ins T.bot A.db (jY A.sp (st.prod*s) kn)):=by rw[iV (bX nb),lH];rfl
  have k2:Kp n ρ (c8 ρ kn (n,9,⟨#[]⟩)) H1 (upd H1 kn (.dK [])) (λ_=>true):=⟨(aG CC _).tups,λb t x o _ c e=>⟨aG CC _ _ _ e,by rw[bB (aD e CC)];exact c⟩⟩
  have h2:=h1.same k2;have g2:Gh (c8 ρ kn (n,9,⟨#[]⟩)) (upd H1 kn (.dK [])):=(g1.alloc CC).color ai rfl;have F2:Fr n ρ H1 (c8 ρ kn (n,9,⟨#[]⟩)) (upd H1 kn (.dK [])):=Fr.color CC (aG CC _);have h3:=h2.aav g2 (st.prod*s) kn ai cC;have es:fh st s={ { st with stp:=st.stp++[s] }with prod:=st.prod*s,kn:=0 }:=by unfold fh;rw[aC c']
  rw[es]at q;show Q .cW _;refine(show _=_ from eH)▸?_;exact q _ _ _ (g2.wr rfl) h3 rfl (F1.trans (F2.trans (Fr.write h2.gM)))
 .have c':¬ 1<s:=uP (qN.mpr c);have es:fh st s=st:=by unfold fh;rw[aB c']
  rw[es]at q;exact q ρ A H g h rfl Fr.refl
abbrev o8:Stmt:=inClass (top 21) 19
abbrev fY:List Str:=["self","owner"]
abbrev D7:List Str:=fY
theorem CD:aS D7 fY (aF o8):=dX
theorem Bu{T:TC}{e:Ec}(F:iG K T.hold "place_of" "Hold.place_of" o8 f fd)(X:Txt K T):Mn P w K mg base 1 T.hold "place_of" fY (sN (yQ T e)):=by
 refine F.oA CD λcdv A outer s H vs Q E hr h=>?_;obtain⟨⟨n,ρ,A,st,o,rfl,h,q2,q⟩⟩:=h;refine⟨_,(@dg.h _ _ _ (ak (cX (ya (AB (d9 hr) (qv 1) (aI K (qv 0)))) (aA gr) bP)
  (aA (bJ (eV (d9 hr) (aI K (qv 0)) (qv 1)))))),?_⟩
 refine⟨_,Z,_,Z,A.a,T.hold,A.dx,_,_,Z,h.oa,X.cH,X.hpl,Z,A.pl,_,Z,eY.k (k:=Sum.inr o) h.g_,_,Z,?_⟩;by_cases ho:o∈st.own
 .have hv:=OS (i:=0) ho;rw[hv];refine bL ?_;refine⟨_,Z,A.a,T.hold,A.dx,_,_,Z,h.oa,X.cH,X.hpl,Z,_,Z,A.pl,_,Z,hv▸eY.k (k:=Sum.inr o) h.g_,?_⟩;rw[Nat.zero_add];exact q ho
 .rw [pY ho];exact nK <| q2 ho 0 H (aR.refl _)
abbrev qg:Stmt:=inClass (top 21) 20
abbrev fk:List Str:=["self","name"]
abbrev Fi:List Str:=fk
theorem D8:aS Fi fk (aF qg):=dX
theorem CF{T:TC}{e:Ec}(F:iG K T.hold "part_of" "Hold.part_of" qg f fd)(X:Txt K T):Mn P w K mg base 1 T.hold "part_of" fk (sN (mK T e)):=by
 refine F.oA D8 λcdv A outer s H vs Q E hr h=>?_;obtain⟨⟨n,ρ,A,st,x,rfl,hA,nd,q2,k⟩⟩:=h;refine⟨_,(@dg.h _ _ _ (ak (cX (ya (AB (d9 hr) (qv 1) (aI K (qv 0)))) (aA gr) bP)
  (aA (bJ (eV (d9 hr) (aI K (qv 0)) (qv 1)))))),?_⟩
 refine⟨_,Z,_,Z,A.a,T.hold,A.dx,_,_,Z,hA.oa,X.cH,X.hab,Z,A.ab,_,Z,eY.k (k:=Sum.inr x) hA.dB,_,Z,?_⟩;by_cases hx:∃p∈st.aj,p.nm=x
 .obtain ⟨p,hp,rfl⟩:=hx;obtain⟨i,hi,ep⟩:=List.mem_iff_getElem.mp hp;have xS:st.aj[i]?=some p:=by rw[bM hi,ep]
  obtain⟨qq,eq,_⟩:=hA.find xS;have hv:=uK nd xS eq;rw[hv];refine bL ?_;exact⟨_,Z,A.a,T.hold,A.dx,_,_,Z,hA.oa,X.cH,X.hab,Z,_,Z,A.ab,_,Z,hv▸eY.k (k:=Sum.inr p.nm) hA.dB,k i p qq rfl xS eq⟩
 .have hn:∀p∈st.aj,p.nm≠x:=λp hp z=>hx ⟨p,hp,z⟩;rw[p5 hn];exact nK <| q2 hn 0 H (aR.refl _)
abbrev nM:Stmt:=inClass (top 21) 21
abbrev ju:List Str:=["self","name"]
abbrev CG:List Str:=ju
theorem Bv:aS CG ju (aF nM):=dX
theorem AM{T:TC}{e:Ec}(F:iG K T.hold "check_new" "Hold.check_new" nM f fd)(X:Txt K T)(pJ:Dn P w K mg base 2 "is_name" tH yG):Mn P w K mg base 3 T.hold "check_new" ju (sN (xC T e)):=by
 refine F.oA Bv λcdv A outer s H vs Q E hr h=>?_;obtain⟨⟨n,ρ,A,st,x,rfl,h,hx,q2,q⟩⟩:=h;refine⟨_,(@dg.h _ _ _ (ak (cX (K4 (AA (bK pJ hr (ah (qv 1) au)))) (aA gr) bP)
  (aA (cX (ya (K3 (d9 hr) (qv 1) (aI K (qv 0)))) (aA gr) bP)))),?_⟩
 refine⟨_,Z,Ds (cs:=x.cps.toList) hx λH1 g1=>⟨_,Z,?_⟩⟩;cases hn:isName x.cps.toList with
 | false=>exact nK <| q2 0 (by unfold newR isNm;rw[hn];rfl) 0 H1 g1
 | true=>
  refine bL ?_;have h1:=h.mono g1;refine⟨_,Z,_,Z,A.a,T.hold,A.dx,_,_,Z,h1.oa,X.cH,X.hnm,Z,A.nm,_,Z,eY.k (k:=Sum.inr x) h1.nu,_,Z,?_⟩;by_cases hm:x∈st.nms
  .rw [Ks hm];exact nK <| q2 1 (by unfold newR isNm;rw[hn,aC rfl,aC hm]) 0 H1 g1
  .rw [Ai hm];exact bL (q (Ax hn hm) H1 g1)
abbrev tY:Stmt:=inClass (top 21) 11
abbrev qh:List Str:=["self"]
abbrev Lz:List Str:=qh
theorem HV:aS Lz qh (aF tY):=dX
theorem HW{T:TC}(F:iG K T.hold "parts" "Hold.parts" tY f fd)(X:Txt K T):Mn P w K mg base 1 T.hold "parts" qh (OT T):=by
 refine F.oA HV λcdv A outer s H vs Q E hr h=>?_;obtain⟨⟨n,ρ,A,st,rfl,h,hl,q⟩⟩:=h;refine⟨_,(@dg.h _ _ _ (aA (bJ (DM (ko ["part"] [none] rfl (Bo (aI K (qv 0))) (λ_ _ _ _=>(bg (i:=0) (show List.Nodup (["part"] :List Str)from by decide +kernel))) (λ_ _ _ _=>(iY (ah (aI K (qv 0)) (ah (aI K (qv 0)) (ah (aI K (qv 0)) (ah (aI K (qv 0)) au)))))) rfl (by rfl)))))),?_⟩;refine⟨A.ab,_,h.dB,λo=>?_⟩;refine⟨_,Z,A.a,T.hold,A.dx,_,_,Z,eZ h.dB h.oa (λk z=>by cases z),X.cH,X.hab,Z,A.ab,o,_,Z,ai,λacc hacc=>?_⟩;have el:=uJ h.ql;refine mF (n:=st.aj.length) 0 (λi out H1=>aR (upd H A.ab (.fB o (.dK (b8 st.aj A.qs)))) H1/\jw H1 out (st.aj.take i)) (by omega) ⟨aG hacc _,.nil⟩ (λi out H1 hi _ hp=>⟨hp.1 _ _ ai,by rw[el];exact hi⟩) (λout H1 _ hp=>⟨hp.1 _ _ ai,by rw[el];exact aO _⟩) ?_ ?_
 .rintro i x out H1 H2 hi gD ha ⟨g,hP⟩ ⟨rfl,kv,hkv,rfl⟩;have ep:=bM hi;obtain⟨qq,eq,h1,h2,_⟩:=h.find ep;rw[uI ep eq]at hkv;cases hkv;have hq:=g _ _ (eZ h.dB h1 (λk z=>by cases z));refine⟨_,Z,qq.1,T.part,qq.2.1,_,_,Z,hq,X.cP,X.OQ,Z,_,Z,qq.1,T.part,qq.2.1,_,_,Z,hq,X.cP,X.pow,Z,_,Z,qq.1,T.part,qq.2.1,_,_,Z,hq,X.cP,X.uZ,Z,_,Z,qq.1,T.part,qq.2.1,_,_,Z,hq,X.cP,X.OR,Z,(iO 4),λt ht=>?_⟩;have g1:=aG ht (DF st.aj[i]);refine⟨g1 _ _ ha,(g.trans g1).dI hacc _,?_⟩;rw[take_snoc ep];exact((hP.mono g1.tups).snoc ai).mono (ig (.inr ⟨_,g1 _ _ ha,Z⟩))
 rintro out H1 gD ha ⟨g,hP⟩;rw[cO]at hP;have hz:=g _ _ (ai (H:=H) (a:=A.ab) (o:=.fB o (.dK (b8 st.aj A.qs))));have na:acc≠A.ab:=λe=>by rw[e,hz]at ha;cases ha
 exact⟨hz,q acc out _ (qR h.dB g) (jq h.dB hacc) (by rw[ay na];exact ha) (hP.mono (ig (.inr ⟨_,hz,Z⟩)))⟩
abbrev tZ:Stmt:=inClass (top 21) 13
abbrev kC:List Str:=["self"]
abbrev LB:List Str:=kC
theorem HX:aS LB kC (aF tZ):=dX
theorem HY{T:TC}(F:iG K T.hold "whole" "Hold.whole" tZ f fd)(X:Txt K T)(k_:mg "sum"=none):Mn P w K mg base 1 T.hold "whole" kC (Bm T):=by
 refine F.oA HX λcdv A outer s H vs Q E hr h=>?_;obtain⟨⟨n,ρ,A,st,rfl,h,hl,q⟩⟩:=h;refine⟨_,(@dg.h _ _ _ (aA (bJ (bZ (Ac K rfl) (by rfl) k_ JD (ah (DM (ko ["part"] [none] rfl (Bo (aI K (qv 0))) (λ_ _ _ _=>(bg (i:=0) (show List.Nodup (["part"] :List Str)from by decide +kernel))) (λ_ _ _ _=>(aI K (qv 0))) rfl (by rfl))) au))))),?_⟩;refine⟨A.ab,_,h.dB,λo=>?_⟩;refine⟨_,Z,A.a,T.hold,A.dx,_,_,Z,eZ h.dB h.oa (λk z=>by cases z),X.cH,X.hab,Z,A.ab,o,_,Z,ai,λacc hacc=>?_⟩;have el:=uJ h.ql;refine mF (n:=st.aj.length) 0 (λi out H1=>aR (upd H A.ab (.fB o (.dK (b8 st.aj A.qs)))) H1/\out=((st.aj.take i).map (·.wo)).map V.int) (by omega) ⟨aG hacc _,Z⟩ (λi out H1 hi _ hp=>⟨hp.1 _ _ ai,by rw[el];exact hi⟩) (λout H1 _ hp=>⟨hp.1 _ _ ai,by rw[el];exact aO _⟩) ?_ ?_
 .rintro i x out H1 H2 hi gD ha ⟨g,e⟩ ⟨rfl,kv,hkv,rfl⟩;have ep:=bM hi;obtain⟨qq,eq,h1,h2,_⟩:=h.find ep;rw[uI ep eq]at hkv;cases hkv;have hq:=g _ _ (eZ h.dB h1 (λk z=>by cases z));refine⟨_,Z,qq.1,T.part,qq.2.1,_,_,Z,hq,X.cP,X.uZ,Z,ha,g.dI hacc _,?_⟩;rw[take_snoc ep,e,bV,bV];rfl
 rintro out H1 gD ha ⟨g,e⟩;rw[cO]at e;have hz:=g _ _ (ai (H:=H) (a:=A.ab) (o:=.fB o (.dK (b8 st.aj A.qs))));have na:acc≠A.ab:=λe=>by rw[e,hz]at ha;cases ha
 exact⟨hz,acc,st.aj.map (λp:Pt=>p.wo),Z,aJ.of (by rw[ay na,ha,e]),q _ (qR h.dB g)⟩
abbrev kD:Stmt:=inClass (top 21) 25
abbrev gY:List Str:=["self","tops"]
abbrev zg:List Str:=gY
theorem yf:aS zg gY (aF kD):=dX
theorem yg{T:TC}(F:iG K T.hold "beyond_common" "Hold.beyond_common" kD f fd)(X:Txt K T)(jb:mg "zip"=none):Mn P w K mg base 1 T.hold "beyond_common" gY (Q2 T K):=by
 refine F.oA yf λcdv A outer s H vs Q E hr h=>?_;obtain⟨⟨n,ρ,A,st,l,tops,rfl,h,hS,htl,hle,q⟩⟩:=h;refine⟨_,(@dg.h _ _ _ (aA (bJ (ko ["top","common"] [none,none] rfl (qZ K (by rfl) jb (ah (qv 1) (ah (aI K (qv 0)) au))) (λ_ _ _ _=>(iS K (n:=2) rfl (cM (bg (i:=0) (show List.Nodup (["top","common"] :List Str)from by decide +kernel)) (cM (bg (i:=1) (show List.Nodup (["top","common"] :List Str)from by decide +kernel)) iR)))) (λ_ _ _ _=>(aP mD (qv 0) (qv 1))) rfl (by rfl))))),?_⟩;refine⟨_,Z,_,Z,A.a,T.hold,A.dx,_,_,Z,h.oa,X.cH,X.wL,Z,_,_,_,_,_,_,Z,.lst hS,.lst (aJ.of h.iH),λacc hacc=>?_⟩;refine x8 (K:=K) (n:=tops.length) [0,1] (λi out H1=>aR H H1/\out=(List.zipWith (λt c=>t-c) (tops.take i) (st.bD.take i)).map V.int) (by decide) (by omega) ⟨aG hacc _,Z⟩ (λi out H1 hi _ hp=>⟨hp.1.seq hS,hp.1.seq (aJ.of h.iH),by rw[aH];exact hi,by rw[aH];omega⟩)
  (λout H1 _ hp=>⟨hp.1.seq hS,hp.1.seq (aJ.of h.iH),.inl (by rw[aH];exact aO _)⟩) ?_ ?_
 .rintro i x out H1 H2 hi gD ha ⟨g,e⟩ ⟨p,x1,y1,hp,rfl,rfl,e1,e2⟩;obtain⟨t,rfl,et⟩:=gu e1;obtain⟨c,rfl,ec⟩:=gu e2;have g1:=aG hp (.tup [.int t,.int c]);refine⟨p,_,Z,dG.of ai,Z,_,Z,_,Z,_,_,Z,Z,g1 _ _ ha,(g.trans g1).dI hacc _,?_⟩;rw[sV _ et ec,e,bV];rfl
 rintro out H1 gD ha ⟨g,e⟩;rw[cO,htl,cO]at e;exact q acc H1 g hacc (by rw[ha,e];rfl)
abbrev qi:Stmt:=inClass (top 21) 24
abbrev jg:List Str:=["self","part"]
abbrev Fj:List Str:=jg
theorem D9:aS Fj jg (aF qi):=dX
theorem D_{T:TC}(F:iG K T.hold "tops_of" "Hold.tops_of" qi f fd)(X:Txt K T)(jb:mg "zip"=none):Mn P w K mg base 1 T.hold "tops_of" jg (Bl T):=by
 refine F.oA D9 λcdv A outer s H vs Q E hr h=>?_;obtain⟨⟨n,ρ,A,st,ip,pt,qq,rfl,h,wf,ep,eq,q⟩⟩:=h;obtain⟨h1,h2,_⟩:=h.opt ip pt qq ep eq;have gq:=cu ep;refine⟨_,(@dg.h _ _ _ (aA (bJ (ko ["own","common","part"] [none,none,some 1] rfl (qZ K (by rfl) jb (ah (aI K (qv 1)) (ah (aI K (qv 0)) au))) (λ_ _ _ _=>(iS K (n:=2) rfl (cM (bg (i:=0) (show List.Nodup (["own","common","part"] :List Str)from by decide +kernel)) (cM (bg (i:=1) (show List.Nodup (["own","common","part"] :List Str)from by decide +kernel)) iR)))) (λ_ _ _ _=>(aP c7 (aP qP (aI K (qv 2)) (qv 0)) (qv 1))) rfl (by rfl))))),?_⟩;have erl:pt.row.length=st.bD.length:=by rw[wf.rows pt gq,wf.gC]
 have hcl:st.bD.length<=100:=by rw[wf.gC];exact wf.kh
 refine⟨_,Z,qq.1,T.part,qq.2.1,_,_,Z,h1,X.cP,X.Ko,Z,_,Z,A.a,T.hold,A.dx,_,_,Z,h.oa,X.cH,X.wL,Z,_,_,_,_,_,_,Z,.lst (aJ.of h2),.lst (aJ.of h.iH),λacc hacc=>?_⟩;refine x8 (K:=K) (n:=pt.row.length) [0,1] (λi out H1=>aR H H1/\out=(List.zipWith (λr c=>pt.sc*r+c) (pt.row.take i) (st.bD.take i)).map V.int) (by decide) (by omega) ⟨aG hacc _,Z⟩ (λi out H1 hi _ hp=>⟨hp.1.seq (aJ.of h2),hp.1.seq (aJ.of h.iH),by rw[aH];exact hi,by rw[aH];omega⟩)
  (λout H1 _ hp=>⟨hp.1.seq (aJ.of h2),hp.1.seq (aJ.of h.iH),.inl (by rw[aH];exact aO _)⟩) ?_ ?_
 .rintro i x out H1 H2 hi gD ha ⟨g,e⟩ ⟨p,x1,y1,hp,rfl,rfl,e1,e2⟩;obtain⟨t,rfl,et⟩:=gu e1;obtain⟨c,rfl,ec⟩:=gu e2;have g1:=aG hp (.tup [.int t,.int c]);have s1:Jm.Sz 8000 pt.sc:=Jm.Sz.pS (by have:=wf.sU pt gq;have:=wf.eE;omega) (wf.sU pt gq).2 wf.big;have s2:Jm.Sz 8000 t:=Jm.Sz.pS (wf.oU pt gq t (cu et)).1 (wf.oU pt gq t (cu et)).2 wf.big;refine⟨p,_,Z,dG.of ai,Z,_,Z,qq.1,T.part,qq.2.1,_,_,Z,(g.trans g1) _ _ h1,X.cP,X.GK,Z,_,Z,_,_,Z,Z,pD s1 s2,_,Z,_,_,Z,Z,g1 _ _ ha,(g.trans g1).dI hacc _,?_⟩;rw[sV _ et ec,e,bV];rfl
 rintro out H1 gD ha ⟨g,e⟩;rw[cO,erl,cO]at e;exact q acc H1 g hacc (by rw[ha,e];rfl)
abbrev vz:Stmt:=inClass (top 21) 22
abbrev nV:List Str:=["self","part"]
abbrev Np:List Str:=nV
theorem LC:aS Np nV (aF vz):=dX
theorem LD{T:TC}(F:iG K T.hold "stow" "Hold.stow" vz f fd)(X:Txt K T):Mn P w K mg base 1 T.hold "stow" nV (Kv T):=by
 refine F.oA LC λcdv A outer s H vs Q E hr h=>?_;obtain⟨⟨n,ρ,A,st,qq,p,rfl,hh,h1,h2,c1,c2,hn,wf',q⟩⟩:=h;have h:=hh.h;refine⟨_,(@dg.h _ _ _ (ak (uN (d9 hr) (aI K (qv 0)) (aI K (qv 1)) (qv 1) rfl)
  (aA (uN (d9 hr) (aI K (qv 0)) (aI K (qv 1)) WS rfl)))),?_⟩
 have AN:∀x∈st.aj,x.nm≠p.nm:=λx hx e=>hn (by rw[<-e];exact hh.wf.sub x hx);have lab:(b8 st.aj A.qs).length<sizeLine:=by rw[uJ h.ql];exact dH hh.wf.mH
 refine⟨_,Z,_,Z,A.a,T.hold,A.dx,_,_,Z,h.oa,X.cH,X.hab,Z,_,Z,qq.1,T.part,qq.2.1,_,_,Z,h1,X.cP,X.OQ,Z,A.ab,_,Z,xx.k (k:=Sum.inr p.nm) h.dB lab,?_⟩;rw[mE _ (p5 AN),<-Kr h.ql p qq];have k1:qq.1≠qq.2.2:=i8 h1 h2 (by intro z;cases z);have f1:Kp n ρ (c8 (c8 ρ qq.1 (n,20,p.nm)) qq.2.2 (n,21,p.nm)) H H (λ_=>true):=⟨λ_ _ e=>e,λb t x o _ c e=>⟨e,by rw[bB (λz=>by rw[z,c2]at c;cases c),bB (λz=>by rw[z,c1]at c;cases c)];exact c⟩⟩
 have hc:=h.same f1;have g1:Gh (c8 (c8 ρ qq.1 (n,20,p.nm)) qq.2.2 (n,21,p.nm)) H:=(hh.g.color h1 rfl).color h2 rfl;have fr1:Ku n qq.1 qq.2.2 ρ H (c8 (c8 ρ qq.1 (n,20,p.nm)) qq.2.2 (n,21,p.nm)) H:=λb o e k n1 n2=>⟨e,by rw[bB n2,bB n1]⟩
 have hs:=hc.Km g1 (st.aj++[p]) (A.qs++[qq]) (by rw[dD,dD,h.ql];rfl) (λi x y ex ey=>by
  by_cases hi:i<st.aj.length
  .rw [zN hi]at ex;rw[zN (by rw[h.ql];exact hi)]at ey;exact hc.opt i x y ex ey
  .rw [CQ (by omega)]at ex;rw[CQ (by rw[h.ql];omega),h.ql]at ey;have e0:i-st.aj.length=0:=by
    rcases Nat.eq_zero_or_pos (i-st.aj.length)with z|z
    .exact z
    .rw [BR (by show 1<=_;exact z)]at ex;cases ex
   rw[e0]at ex ey;cases ex;cases ey;exact⟨h1,h2,by rw[bB k1];exact cC,cC⟩)
 have g2:=g1.wr (a:=A.ab) (o:=.dK (b8 (st.aj++[p]) (A.qs++[qq]))) rfl;have fr2:Fr n _ H _ (upd H A.ab (.dK (b8 (st.aj++[p]) (A.qs++[qq])))):=Fr.write hc.fD;have DE:upd H A.ab (.dK (b8 (st.aj++[p]) (A.qs++[qq]))) qq.1=some (.ins T.part qq.2.1 (c9 p qq.2.2)):=by rw[ay (i8 h1 h.dB (by intro z;cases z))];exact h1
 refine⟨_,Z,A.a,T.hold,A.dx,_,_,Z,hs.oa,X.cH,X.hnm,Z,_,Z,qq.1,T.part,qq.2.1,_,_,Z,DE,X.cP,X.OQ,Z,A.nm,_,Z,xx.k (k:=Sum.inr p.nm) hs.nu (by unfold x9;rw[aH];exact dH hh.wf.yJ),?_⟩;rw[mE _ (Ai hn),show x9 st.nms++[(Sum.inr p.nm,V.bl true)]=x9 (st.nms++[p.nm])from by unfold x9;rw[bV];rfl];have hs2:=hs.aar g2 (st.nms++[p.nm]);exact q _ _ _ ⟨g2.wr rfl,hs2,wf'⟩ rfl (fr1.trans (fr2.trans (Fr.write hs.gK)))
abbrev vA:Stmt:=inClass (top 21) 1
abbrev nW:List Str:=["self","owner"]
abbrev Nq:List Str:=nW.append ["part"]
theorem AQ:aS Nq nW (aF vA):=dX
theorem LF{T:TC}(F:iG K T.hold "sign" "Hold.sign" vA f fd)(X:Txt K T)(pJ:Dn P w K mg base 2 "is_name" tH yG)(cE:mg "len"=none):Mn P w K mg base 3 T.hold "sign" nW (EV T):=by
 refine F.oA AQ λcdv A outer s H vs Q E hr h=>?_;obtain⟨⟨n,ρ,A,st,o,rfl,hh,hx,hn,hl,q⟩⟩:=h;refine⟨_,(@dg.h _ _ _ (ak (cX (K4 (AA (bK pJ hr (ah (qv 1) au)))) (aA gr) bP)
  (ak (cX (ya (K3 (d9 hr) (qv 1) (aI K (qv 0)))) (aA gr) bP)
  (ak (uN (d9 hr) (aI K (qv 0)) (qv 1) (bZ wH (by rfl) cE gf (ah (aI K (qv 0)) au)) rfl)
  (ak (b_ (kY oM oJ oK eU (aI K (qv 0)) (ah aq au)))
  (ak (b_ (kY oM oJ oK eU (aI K (qv 0)) (ah aq au)))
  (aA (yb (fG gc rfl (Bo (aI K (qv 0))) (bg (i:=2) AQ.nd) (aA (b_ (kY oM oJ oK eU (aI K (qv 2)) (ah aq au))))))))))))),?_⟩
 refine⟨_,Z,Ds (cs:=o.cps.toList) (KA hx) λH1 g1=>⟨_,Z,?_⟩⟩;rw[show isName o.cps.toList=true from hx];refine bL ?_;have iu:=hh.mono g1;have h1:=iu.h;have F1:Fr n ρ H ρ H1:=Fr.of_same g1;refine⟨_,Z,_,Z,A.a,T.hold,A.dx,_,_,Z,h1.oa,X.cH,X.hpl,Z,A.pl,_,Z,eY.k (k:=Sum.inr o) h1.g_,_,Z,?_⟩;rw[pY hn];refine bL ?_;have BK:=pZ st.own 0;refine⟨_,Z,A.a,T.hold,A.dx,_,_,Z,h1.oa,X.cH,X.hpl,Z,A.pl,_,Z,h1.g_,_,Z,A.a,T.hold,A.dx,_,_,Z,h1.oa,X.cH,X.hpl,Z,_,Z,A.pl,_,Z,xx.k (k:=Sum.inr o) h1.g_ (dH (by rw[BK];omega)),?_⟩;rw[mE _ (pY hn),BK,show fT 0 st.own++[(Sum.inr o,V.int (st.own.length:Int))]=fT 0 (st.own++[o])from by rw[Kq,Nat.zero_add]];have h2:=h1.aap iu.g (st.own++[o]);have G2:=iu.g.wr (a:=A.pl) (o:=.dK (fT 0 (st.own++[o]))) rfl;have F2:=F1.trans (Fr.write (o:=.dK (fT 0 (st.own++[o]))) h1.gE);generalize upd H1 A.pl (.dK (fT 0 (st.own++[o])))=H2 at *;have lcm:(st.bD.map V.int).length<sizeLine:=by rw[aH,hh.wf.gC];exact dH (by omega)
 refine⟨_,Z,A.a,T.hold,A.dx,_,_,Z,h2.oa,X.cH,X.wL,Z,.inl ⟨Z,_,aJ.of h2.iH⟩,A.cm,_,_,Z,Z,h2.iH,lcm,?_⟩;rw[show st.bD.map V.int++[V.int 0]=(st.bD++[0]).map V.int from by rw[bV];rfl];have h3:=h2.aas G2 (st.bD++[0]);have G3:=G2.wr (a:=A.cm) (o:=.lst ((st.bD++[0]).map V.int)) rfl;have F3:=F2.trans (Fr.write (o:=.lst ((st.bD++[0]).map V.int)) h2.gO);generalize upd H2 A.cm (.lst ((st.bD++[0]).map V.int))=H3 at *;have lpu:(st.bF.map V.int).length<sizeLine:=by rw[aH,hh.wf.mG];exact dH (by omega)
 refine⟨_,Z,A.a,T.hold,A.dx,_,_,Z,h3.oa,X.cH,X.zC,Z,.inl ⟨Z,_,aJ.of h3.jA⟩,A.pu,_,_,Z,Z,h3.jA,lpu,?_⟩;rw[show st.bF.map V.int++[V.int 0]=(st.bF++[0]).map V.int from by rw[bV];rfl];have h4:=h3.aat G3 (st.bF++[0]);have G4:=G3.wr (a:=A.pu) (o:=.lst ((st.bF++[0]).map V.int)) rfl;have F4:=F3.trans (Fr.write (o:=.lst ((st.bF++[0]).map V.int)) h3.cpu);generalize upd H3 A.pu (.lst ((st.bF++[0]).map V.int))=H4 at *;clear h1 h2 h3 G2 G3 F2 F3 iu;have hpl:=hh.wf.mH;refine⟨A.ab,_,h4.dB,λob=>?_⟩;refine⟨_,Z,A.a,T.hold,A.dx,_,_,Z,eZ h4.dB h4.oa (λk z=>by cases z),X.cH,X.hab,Z,A.ab,ob,_,Z,ai,?_⟩;have el:=uJ h4.ql;have el0:(b8 st.aj A.qs).length=st.aj.length:=el;refine uY (n:=st.aj.length) (λi σ H'=>(∃s2,σ=[some (.ref A.a),some (.str o),s2])/\pF H' A.ab ob (b8 st.aj A.qs)/\∃H5,H'=upd H5 A.ab (.fB ob (.dK (b8 st.aj A.qs)))/\Gh ρ H5/\Fr n ρ H ρ H5/\
   aL T n ρ A H5 { st with own:=st.own++[o],bD:=st.bD++[0],bF:=st.bF++[0],aj:=(st.aj.take i).map (λp=>{ p with row:=p.row++[0] })++st.aj.drop i })
  ⟨⟨_,Z⟩,ai,H4,Z,G4,F4,h4⟩ (λi σ H' hi hp=>⟨hp.2.1,by rw[el0];exact hi⟩) (λσ H' hp=>⟨hp.2.1,by rw[el0];exact aO _⟩) ?_ ?_
 .rintro i x σ H' zH hi ⟨⟨s2,rfl⟩,hz,H5,rfl,G5,F5,h5⟩ ⟨rfl,kv,hkv,rfl⟩;have ep:=bM hi;have ep5:=KD (λp:Pt=>{ p with row:=p.row++[0] }) ep;obtain⟨qq,eq,k1,k2,k3,k4⟩:=h5.find ep5;rw[uI ep eq]at hkv;cases hkv;have WZ:=qT (λp:Pt=>{ p with row:=p.row++[0] }) (λp:Pt=>p.nm) (λ_=>rfl) st.aj i;have nd5:(((st.aj.take i).map (λp:Pt=>{ p with row:=p.row++[0] })++st.aj.drop i).map (λp:Pt=>p.nm)).Nodup:=by rw[WZ];exact hh.wf.dN
  have z1:=eZ (o:=ob) h5.dB k1 (λk z=>by cases z);have z2:=eZ (o:=ob) h5.dB k2 (λk z=>by cases z);rw[show b8 ({ st with own:=st.own++[o],bD:=st.bD++[0],bF:=st.bF++[0],aj:=(st.aj.take i).map (λp:Pt=>{ p with row:=p.row++[0] })++st.aj.drop i }:HS).aj A.qs=b8 st.aj A.qs from pG WZ]at z1 z2;have hrl:((st.aj[i]).row.map V.int).length<sizeLine:=by rw[aH,hh.wf.rows _ (Jg hi)];exact dH (by omega)
  refine⟨_,Z,qq.1,T.part,qq.2.1,_,_,Z,z1,X.cP,X.Ko,Z,.inl ⟨Z,_,aJ.of z2⟩,qq.2.2,_,_,Z,Z,z2,hrl,?_⟩;have na:A.ab≠qq.2.2:=(i8 k2 h5.dB (by intro z;cases z)).symm;rw[show(st.aj[i]).row.map V.int++[V.int 0]=((st.aj[i]).row++[0]).map V.int from by rw[bV];rfl];have h6:=h5.Yq G5 ((st.aj[i]).row++[0]) ep5 eq nd5;rw[show({ st with own:=st.own++[o],bD:=st.bD++[0],bF:=st.bF++[0],aj:=(st.aj.take i).map (λp:Pt=>{ p with row:=p.row++[0] })++st.aj.drop i }:HS).aj.set i { st.aj[i]with row:=(st.aj[i]).row++[0] }=_ from KG (λp:Pt=>{ p with row:=p.row++[0] }) ep]at h6;exact⟨⟨_,Z⟩,(ay na).trans hz,_,iV na,G5.wr rfl,F5.trans (Fr.write k4),h6⟩
 .rintro σ H' ⟨_,hz,H5,rfl,G5,F5,h5⟩;have WZ:=qT (λp:Pt=>{ p with row:=p.row++[0] }) (λp:Pt=>p.nm) (λ_=>rfl) st.aj st.aj.length;have e5:b8 ({ st with own:=st.own++[o],bD:=st.bD++[0],bF:=st.bF++[0],aj:=(st.aj.take st.aj.length).map (λp:Pt=>{ p with row:=p.row++[0] })++st.aj.drop st.aj.length }:HS).aj A.qs=b8 st.aj A.qs:=pG WZ;have h5':=h5.dB;rw[e5]at h5';refine⟨hz,?_⟩;rw[lH,qS h5'];have es:({ st with own:=st.own++[o],bD:=st.bD++[0],bF:=st.bF++[0],aj:=(st.aj.take st.aj.length).map (λp:Pt=>{ p with row:=p.row++[0] })++st.aj.drop st.aj.length }:HS)=h_ st o:=by unfold h_;rw[cO,List.drop_length,CT]
  rw[es]at h5;exact q ρ A H5 ⟨G5,h5,EX hh.wf hn hl⟩ rfl F5
abbrev vB:Stmt:=inClass (top 21) 2
abbrev r_:List Str:=["self","part","owner","worth","weight"]
abbrev Nr:List Str:=r_.append ["place","tops"]
theorem vC:aS Nr r_ (aF vB):=dX
theorem LG{T:TC}(F:iG K T.hold "load" "Hold.load" vB f fd)(X:Txt K T)(jv:Mn P w K mg base 3 T.hold "check_new" ju (DG T))(cY:Mn P w K mg base 1 T.hold "place_of" fY (Bk T))(fQ:Mn P w K mg base 1 T.hold "beyond_common" gY (Q2 T K))(lJ:Mn P w K mg base 1 T.hold "stow" nV (Kv T))(qj:Cn P w K mg base 1 "Part" T.part ["self","name","owner","worth","weight","scale","row"] (Bj T K))(cE:mg "len"=none):Mn P w K mg base 4 T.hold "load" r_ (SQ T):=by
 refine F.oA vC λcdv A outer s H vs Q E hr h=>?_
 obtain⟨⟨n,ρ,A,st,x,o,wo,we,rfl,hh,hx,hn,ho,h4,h5,h6,h7,q⟩⟩:=h
 refine⟨_,(@dg.h _ _ _ (ak (b_ (b7 jv hr (qv 0) (ah (qv 1) au)))
  (ak (aW (i:=5) vC.nd (b7 cY hr (qv 0) (ah (qv 2) au)))
  (ak (cX (lI (bW.pt (Jy (aX rT (qv 3) aq (bu _)) (DN (aX rT (qv 4) aq (bu _)))))) (aA gr) bP)
  (ak (aW (i:=6) vC.nd (aP R6 (iK (ah aq au)) (bZ wH (by rfl) cE gf (ah (aI K (qv 0)) au))))
  (ak (nR (aI K (aI K (qv 0))) (nS (qv 6) (qv 5) set_list))
  (aA (b_ (b7 lJ hr (qv 0) (ah (Ra qj hr (ah (qv 1) (ah (qv 2) (ah (qv 3) (ah (qv 4) (ah aq (ah (b7 fQ hr (qv 0) (ah (qv 6) au)) au))))))) au)))))))))),?_⟩
 refine⟨_,Z,A.a,A.dx,_,Z,hh.h.oa,Z,_,Z,⟨⟨n,ρ,A,st,x,Z,hh.h,hx,hn,λH1 g1=>?_⟩⟩⟩
 have iu:=hh.mono g1
 have F1:Fr n ρ H ρ H1:=Fr.of_same g1
 clear hh
 refine⟨_,Z,A.a,A.dx,_,Z,iu.h.oa,Z,_,Z,⟨⟨n,ρ,A,st,o,Z,iu.h,ho,?_⟩⟩⟩
 refine⟨false,⟨_,Z,_,_,Z,Z,_,Z,cD (λc=>absurd (eF c) (by omega)) λ_=>⟨_,Z,_,_,Z,Z,_,Z,dF (by omega),Z⟩⟩,bL ?_⟩
 refine⟨(iO 1),λp0 hp0=>?_⟩
 have g2:=aG hp0 (.lst [.int 0])
 have nE:=iu.mono g2
 have F2:=F1.trans (Fr.of_same (ρ:=ρ) g2)
 have VU:upd H1 p0 (.lst [.int 0]) p0=some (.lst [.int 0]):=ai
 generalize upd H1 p0 (.lst [.int 0])=H2 at *
 clear iu F1
 have BK:=pZ st.own 0
 have gD:=nE.wf.kh
 refine⟨_,Z,A.a,T.hold,A.dx,_,_,Z,nE.h.oa,X.cH,X.hpl,Z,A.pl,_,Z,nE.h.g_,p0,_,_,Z,Z,VU,by omega,by rw[BK];omega,by rw[BK];show 1*_<=_;rw[tL,Nat.one_mul];exact small (by omega),λp1 hp1=>?_⟩
 rw[BK,tL,show(List.replicate st.own.length [V.int 0]).flatten=(List.replicate st.own.length (0:Int)).map V.int from by rw[List.map_replicate,List.flatten_replicate_singleton]]
 have g3:=aG hp1 (.lst ((List.replicate st.own.length (0:Int)).map V.int))
 have l9:=nE.mono g3
 have F3:=F2.trans (Fr.of_same (ρ:=ρ) g3)
 have n1:H p1=none:=(g1.trans g2).free hp1
 have c1:ρ p1=none:=nE.g.none hp1
 have AR:upd H2 p1 (.lst ((List.replicate st.own.length (0:Int)).map V.int)) p1=_:=ai
 generalize upd H2 p1 (.lst ((List.replicate st.own.length (0:Int)).map V.int))=H3 at *
 have hi:=List.idxOf_lt_length_iff.mpr ho
 refine⟨_,Z,A.a,T.hold,A.dx,_,_,Z,l9.h.oa,X.cH,X.wK,Z,A.bt,T.bot,A.db,_,_,Z,l9.h.jc,X.cB,X.GL,Z,_,Z,_,Z,p1,_,_,st.own.idxOf o,Z,Z,AR,by rw[aH,jV];exact xZ hi,?_⟩
 rw[show((List.replicate st.own.length (0:Int)).map V.int).set (st.own.idxOf o) (V.int st.prod)=((List.replicate st.own.length (0:Int)).set (st.own.idxOf o) st.prod).map V.int from by rw[uC]]
 have nF:=l9.DH (o:=.lst (((List.replicate st.own.length (0:Int)).set (st.own.idxOf o) st.prod).map V.int)) c1 AR rfl rfl
 have F4:=F3.new (o:=.lst (((List.replicate st.own.length (0:Int)).set (st.own.idxOf o) st.prod).map V.int)) n1
 have VW:upd H3 p1 (.lst (((List.replicate st.own.length (0:Int)).set (st.own.idxOf o) st.prod).map V.int)) p1=_:=ai
 have s4:aR H (upd H3 p1 (.lst (((List.replicate st.own.length (0:Int)).set (st.own.idxOf o) st.prod).map V.int))):=((g1.trans g2).trans g3).dI n1 _
 generalize upd H3 p1 (.lst (((List.replicate st.own.length (0:Int)).set (st.own.idxOf o) st.prod).map V.int))=H4 at *
 clear nE l9 F2 F3
 refine⟨_,Z,A.a,A.dx,_,Z,nF.h.oa,Z,_,Z,_,Z,_,Z,_,Z,_,Z,A.a,A.dx,_,Z,nF.h.oa,Z,_,Z,⟨⟨n,ρ,A,st,p1,_,Z,nF.h,aJ.of VW,by rw[iw,jV,nF.wf.gC],by rw[iw,jV];omega,λr H5 g5 hr5 VX=>?_⟩⟩⟩
 intro y dy hy hdy hyd
 have AS:upd (upd H5 dy (.own y)) y (.ins T.part dy []) r=some (.lst ((lU st ((List.replicate st.own.length 0).set (st.own.idxOf o) st.prod)).map V.int)):=by rw[ay (aD VX hy),ay (aD VX hdy)];exact VX
 refine⟨⟨y,dy,r,⟨x,o,wo,we,1,lU st ((List.replicate st.own.length 0).set (st.own.idxOf o) st.prod)⟩,Z,ai,aJ.of AS,λrr H6 hrr k6 hy6 VY=>⟨Z,?_⟩⟩⟩
 have LH:H5 rr=none:=by
  have e1:rr≠y:=λe=>by rw[e,ai]at hrr;cases hrr
  have e2:rr≠dy:=λe=>by rw[e,ay hyd,ai]at hrr;cases hrr
  rw[ay e1,ay e2]at hrr;exact hrr
 have g6:aR H5 H6:=λb u e=>k6 b u (by rw[ay (aD e hy),ay (aD e hdy)];exact e) (aD e hy)
 have vD:=nF.mono g5
 have w6:=vD.mono g6
 have F6:=F4.trans (Fr.of_same (ρ:=ρ) (g5.trans g6))
 exact⟨⟨n,ρ,A,st,(y,dy,rr),_,Z,w6,hy6,VY,vD.g.none hy,vD.g.none LH,hn,OV nF.wf hn h6 h7 ho h4 h5,λρ' A' H' a1 a2 a3=>q ρ' A' H' a1 a2 (a3.fr F6 ((s4.trans g5).free hy) ((s4.trans g5).free LH))⟩⟩
abbrev vE:Stmt:=inClass (top 21) 0
abbrev xF:List Str:=["self"]
abbrev Nt:List Str:=xF
theorem LI:aS Nt xF (aF vE):=dX
theorem LJ{T:TC}(F:GJ K mg "Hold" T.hold "Hold.__init__" vE f fd)(X:Txt K T)(rD:Cn P w K mg base 1 "Bottom" T.bot ["self"] (ET T)):Cn P w K mg base 3 "Hold" T.hold xF (EU T):=by
 refine F.oA LI λcdv A outer s H vs Q E hr h=>?_;obtain⟨⟨p,dx,ρ,n,rfl,hp,g,hρ,q⟩⟩:=h;refine⟨_,(@dg.h _ _ _ (ak (cR K (qv 0) rj)
  (ak (cR K (qv 0) rj)
  (ak (cR K (qv 0) (iK au))
  (ak (cR K (qv 0) rj)
  (ak (cR K (qv 0) (DO rD hr))
  (ak (cR K (qv 0) (iK au))
  (aA (cR K (qv 0) (iK au)))))))))),?_⟩
 have M0:jJ p H ρ H ρ [] :=⟨(λ_ m=>absurd m (by simp)),λb o e _=>⟨e,Z⟩,g,_,hp⟩
 intro pl hpl;have M1:=(M0.new (o:=.dK []) (c:=(n,1,⟨#[]⟩)) hpl rfl)
 refine⟨_,Z,p,T.hold,dx,_,Z,by rw[ay (aD hp hpl)];exact hp,X.cH,X.hpl,by show 0<1000;decide,?_⟩;have M2:=M1.wr (u:=.ins T.hold dx (aZ "places" (.ref pl) [])) rfl;have hp2:upd (upd H pl (.dK [])) p (.ins T.hold dx (aZ "places" (.ref pl) [])) p=_:=ai;generalize upd (upd H pl (.dK [])) p (.ins T.hold dx (aZ "places" (.ref pl) []))=H2 at *;clear M0 M1;intro ab hab;have M3:=(M2.new (o:=.dK []) (c:=(n,2,⟨#[]⟩)) hab rfl)
 refine⟨_,Z,p,T.hold,dx,_,Z,by rw[ay (aD hp2 hab)];exact hp2,X.cH,X.hab,by show 1<1000;decide,?_⟩;have M4:=M3.wr (u:=.ins T.hold dx (aZ "aboard" (.ref ab) (aZ "places" (.ref pl) []))) rfl;have LK:upd (upd H2 ab (.dK [])) p (.ins T.hold dx (aZ "aboard" (.ref ab) (aZ "places" (.ref pl) []))) p=_:=ai;generalize upd (upd H2 ab (.dK [])) p (.ins T.hold dx (aZ "aboard" (.ref ab) (aZ "places" (.ref pl) [])))=H4 at *;clear M2 M3;refine⟨(iO 0),λas has=>?_⟩;have M5:=(M4.new (o:=.lst []) (c:=(n,3,⟨#[]⟩)) has rfl)
 refine⟨_,Z,p,T.hold,dx,_,Z,by rw[ay (aD LK has)];exact LK,X.cH,X.has,by show 2<1000;decide,?_⟩;have M6:=M5.wr (u:=.ins T.hold dx (aZ "ashore" (.ref as) (aZ "aboard" (.ref ab) (aZ "places" (.ref pl) [])))) rfl;have W0:upd (upd H4 as (.lst [])) p (.ins T.hold dx (aZ "ashore" (.ref as) (aZ "aboard" (.ref ab) (aZ "places" (.ref pl) [])))) p=_:=ai;generalize upd (upd H4 as (.lst [])) p (.ins T.hold dx (aZ "ashore" (.ref as) (aZ "aboard" (.ref ab) (aZ "places" (.ref pl) []))))=H6 at *;clear M4 M5;intro nm hnm;have M7:=(M6.new (o:=.dK []) (c:=(n,4,⟨#[]⟩)) hnm rfl)
 refine⟨_,Z,p,T.hold,dx,_,Z,by rw[ay (aD W0 hnm)];exact W0,X.cH,X.hnm,by show 3<1000;decide,?_⟩;have M8:=M7.wr (u:=.ins T.hold dx (aZ "names" (.ref nm) (aZ "ashore" (.ref as) (aZ "aboard" (.ref ab) (aZ "places" (.ref pl) []))))) rfl;have hp8:upd (upd H6 nm (.dK [])) p (.ins T.hold dx (aZ "names" (.ref nm) (aZ "ashore" (.ref as) (aZ "aboard" (.ref ab) (aZ "places" (.ref pl) []))))) p=_:=ai;generalize upd (upd H6 nm (.dK [])) p (.ins T.hold dx (aZ "names" (.ref nm) (aZ "ashore" (.ref as) (aZ "aboard" (.ref ab) (aZ "places" (.ref pl) [])))))=H8 at *;clear M6 M7;intro bt db wK hdb hne;refine⟨⟨bt,db,Z,ai,λsp kn H9 uS hkn hsk k9 Pu hs9 hk9=>⟨Z,?_⟩⟩⟩;have s9:aR H8 H9:=λb o e=>k9 b o (by rw[ay (aD e wK),ay (aD e hdb)];exact e) (aD e wK);have fr:∀{c:Addr},upd (upd H8 db (.own bt)) bt (.ins T.bot db []) c=none->H8 c=none:=λ{c} e=>by
  have e1:c≠bt:=λz=>by rw[z,ai]at e;cases e
  have e2:c≠db:=λz=>by rw[z,ay hne,ai]at e;cases e
  rw[ay e1,ay e2]at e;exact e
 have abv:=fr uS;have abw:=fr hkn;have M9:=M8.same s9;have M10:=M9.add (c:=(n,5,⟨#[]⟩)) Pu rfl M8 wK (λe he=>aD (M8.m e he).1 wK);have M11:=M10.add (c:=(n,8,⟨#[]⟩)) hs9 rfl M8 abv (λe he=>by
  rcases cK.mp he with rfl|he
  .exact i8 Pu hs9 (by intro z;cases z)
  .exact aD (M8.m e he).1 abv)
 have M12:=M11.add (c:=(n,9,⟨#[]⟩)) hk9 rfl M8 abw (λe he=>by
  rcases cK.mp he with rfl|he
  .exact i8 hs9 hk9 (by intro z;cases z)
  rcases cK.mp he with rfl|he
  .exact i8 Pu hk9 (by intro z;cases z)
  .exact aD (M8.m e he).1 abw)
 have hp9:=s9 _ _ hp8;refine⟨_,Z,p,T.hold,dx,_,Z,hp9,X.cH,X.wK,by show 4<1000;decide,?_⟩;have M13:=M12.wr (u:=.ins T.hold dx (aZ "bottom" (.ref bt) (aZ "names" (.ref nm) (aZ "ashore" (.ref as) (aZ "aboard" (.ref ab) (aZ "places" (.ref pl) [])))))) rfl;have AR:upd H9 p (.ins T.hold dx (aZ "bottom" (.ref bt) (aZ "names" (.ref nm) (aZ "ashore" (.ref as) (aZ "aboard" (.ref ab) (aZ "places" (.ref pl) [])))))) p=_:=ai;generalize upd H9 p (.ins T.hold dx (aZ "bottom" (.ref bt) (aZ "names" (.ref nm) (aZ "ashore" (.ref as) (aZ "aboard" (.ref ab) (aZ "places" (.ref pl) []))))))=LL at *;clear M8 M9 M10 M11 M12;refine⟨(iO 0),λcm wL=>?_⟩;have M14:=(M13.new (o:=.lst []) (c:=(n,6,⟨#[]⟩)) wL rfl)
 refine⟨_,Z,p,T.hold,dx,_,Z,by rw[ay (aD AR wL)];exact AR,X.cH,X.wL,by show 5<1000;decide,?_⟩;have M15:=M14.wr (u:=.ins T.hold dx (aZ "common" (.ref cm) (aZ "bottom" (.ref bt) (aZ "names" (.ref nm) (aZ "ashore" (.ref as) (aZ "aboard" (.ref ab) (aZ "places" (.ref pl) []))))))) rfl;have abx:upd (upd LL cm (.lst [])) p (.ins T.hold dx (aZ "common" (.ref cm) (aZ "bottom" (.ref bt) (aZ "names" (.ref nm) (aZ "ashore" (.ref as) (aZ "aboard" (.ref ab) (aZ "places" (.ref pl) []))))))) p=_:=ai;generalize upd (upd LL cm (.lst [])) p (.ins T.hold dx (aZ "common" (.ref cm) (aZ "bottom" (.ref bt) (aZ "names" (.ref nm) (aZ "ashore" (.ref as) (aZ "aboard" (.ref ab) (aZ "places" (.ref pl) [])))))))=H15 at *;clear M13 M14;refine⟨(iO 0),λpu zC=>?_⟩;have M16:=(M15.new (o:=.lst []) (c:=(n,7,⟨#[]⟩)) zC rfl)
 refine⟨_,Z,p,T.hold,dx,_,Z,by rw[ay (aD abx zC)];exact abx,X.cH,X.zC,by show 6<1000;decide,?_⟩;have M17:=M16.wr (u:=.ins T.hold dx (aZ "purses" (.ref pu) (aZ "common" (.ref cm) (aZ "bottom" (.ref bt) (aZ "names" (.ref nm) (aZ "ashore" (.ref as) (aZ "aboard" (.ref ab) (aZ "places" (.ref pl) [])))))))) rfl;have abA:upd (upd H15 pu (.lst [])) p (.ins T.hold dx (aZ "purses" (.ref pu) (aZ "common" (.ref cm) (aZ "bottom" (.ref bt) (aZ "names" (.ref nm) (aZ "ashore" (.ref as) (aZ "aboard" (.ref ab) (aZ "places" (.ref pl) [])))))))) p=_:=ai;generalize upd (upd H15 pu (.lst [])) p (.ins T.hold dx (aZ "purses" (.ref pu) (aZ "common" (.ref cm) (aZ "bottom" (.ref bt) (aZ "names" (.ref nm) (aZ "ashore" (.ref as) (aZ "aboard" (.ref ab) (aZ "places" (.ref pl) []))))))))=Hz at *;clear M15 M16;have m:=M17.m;have AN:∀{a:Addr}{o:HO}{c:qL}{ρ2:cg},(Hz a=some o/\ρ2 a=some c/\a≠p)->Hz a=some o/\c8 ρ2 p (n,0,⟨#[]⟩) a=some c:=λh=>⟨h.1,by rw[bB h.2.2];exact h.2.1⟩
 have a1:=AN (m _ (.head _));have a2:=AN (m _ (.tail _ (.head _)));have a3:=AN (m _ (.tail _ (.tail _ (.head _))));have a4:=AN (m _ (.tail _ (.tail _ (.tail _ (.head _)))));have a5:=AN (m _ (.tail _ (.tail _ (.tail _ (.tail _ (.head _))))));have a6:=AN (m _ (.tail _ (.tail _ (.tail _ (.tail _ (.tail _ (.head _)))))));have a7:=AN (m _ (.tail _ (.tail _ (.tail _ (.tail _ (.tail _ (.tail _ (.head _))))))));have a8:=AN (m _ (.tail _ (.tail _ (.tail _ (.tail _ (.tail _ (.tail _ (.tail _ (.head _)))))))));have a9:=AN (m _ (.tail _ (.tail _ (.tail _ (.tail _ (.tail _ (.tail _ (.tail _ (.tail _ (.head _))))))))));refine q (c8 _ p (n,0,⟨#[]⟩)) ⟨p,dx,pl,ab,as,nm,bt,db,cm,pu,sp,kn,[]⟩ Hz rfl ⟨M17.g.color abA rfl,⟨abA,cC,a9.1,a9.2,a8.1,a8.2,⟨[],a7.1,.nil⟩,a7.2,a6.1,a6.2,a5.1,a5.2,a2.1,a2.2,a1.1,a1.2,a4.1,a4.2,⟨[],a3.1,(λx hx=>absurd hx (by simp)),aO _,uB⟩,a3.2,Z,λi x y ex=>by simp[hs0]at ex⟩,wf0⟩ (λb o e hb=>?_);obtain⟨x,y⟩:=M17.k b o e hb;exact⟨x,by rw[bB hb];exact y⟩
abbrev o9:Stmt:=inClass (top 21) 27
abbrev l_:List Str:=["self","amounts"]
abbrev Ea:List Str:=l_.append ["lost","sums","name","amount","part","many"]
theorem fH:aS Ea l_ (aF o9):=dX
theorem CH{T:TC}(F:iG K T.hold "given_up" "Hold.given_up" o9 f fd)(X:Txt K T)(k_:mg "sum"=none)(jb:mg "zip"=none):Mn P w K mg base 1 T.hold "given_up" l_ (OY T):=by
 refine F.oA fH λcdv A outer s H vs Q E hr h=>?_;obtain⟨⟨n,ρ,A,st,d,rs,rfl,h,wf,hd,cd,hle,xG,q⟩⟩:=h;refine⟨_,(@dg.h _ _ _ (ak (aW (i:=2) fH.nd (bZ (GI rfl) (by rfl) k_ JD (ah (E3 (qv 1)) au)))
  (ak (q_ (i:=3) ["common","lost"] [none,some 2] fH.nd rfl rfl rfl (eW K (aI K (qv 0))) (λ_ _ _ _=>(bg (i:=0) (show List.Nodup (["common","lost"] :List Str)from by decide +kernel))) (λ_ _ _ _=>(aP qP (qv 1) (qv 0))) rfl (by rfl) (by rfl))
  (ak (yb (fG gc rfl (yS (qv 1)) (iS K (n:=2) rfl (cM (bg (i:=4) fH.nd) (cM (bg (i:=5) fH.nd) iR))) (ak (aW (i:=6) fH.nd (eV (d9 hr) (aI K (qv 0)) (qv 4)))
  (ak (aW (i:=7) fH.nd (aP qP (qv 5) (aI K (qv 6))))
  (aA (q_ (i:=3) ["old","own","many"] [none,none,some 7] fH.nd rfl rfl rfl (qZ K (by rfl) jb (ah (qv 3) (ah (aI K (qv 6)) au))) (λ_ _ _ _=>(iS K (n:=2) rfl (cM (bg (i:=0) (show List.Nodup (["old","own","many"] :List Str)from by decide +kernel)) (cM (bg (i:=1) (show List.Nodup (["old","own","many"] :List Str)from by decide +kernel)) iR)))) (λ_ _ _ _=>(aP c7 (qv 0) (aP qP (qv 2) (qv 1)))) rfl (by rfl) (by rfl)))))))
  (aA (bJ (qv 3))))))),?_⟩
 have hcl:st.bD.length<=100:=by rw[wf.gC];exact wf.kh
 have zl:Jm.Sz 1100 (aQ rs):=by have:=Jm.Sd (n:=60) (ws:=rs.map (·.2)) (λm hm=>by obtain⟨r,hr,rfl⟩:=a_.mp hm;exact(xG r hr).1);exact this.mono (by rw[aH];omega)
 have zc:∀c∈st.bD,Jm.Sz 8000 c:=λc hc=>Jm.Sz.pS (by have:=wf.oS c hc;have:=wf.eE;omega) (wf.oS c hc).2 wf.big;refine⟨_,Z,d,_,Z,.inl hd,λv hv=>⟨v,d,_,rs.map (·.2),Z,ai,.inl (by rw[ay (aD hd hv)];exact hd),by unfold iI;rw[gj,gj];rfl,?_⟩⟩;have g1:=aG hv (lY v d);have hd1:=g1 _ _ hd;have h1:=h.mono g1;generalize upd H v (lY v d)=H1 at *;refine⟨_,Z,A.a,T.hold,A.dx,_,_,Z,h1.oa,X.cH,X.wL,Z,A.cm,Z,⟨_,aJ.of h1.iH⟩,λl0 qm=>?_⟩;refine mF (J:=zW K A.cm) (n:=(st.bD.map V.int).length) 0 (λi o H'=>aR H1 H'/\o=((st.bD.take i).map λc=>aQ rs*c).map V.int) (by rw[aH];omega) ⟨aG qm _,Z⟩ (λi o H' hi _ hp=>⟨_,_,aJ.of (hp.1 _ _ h1.iH),bM hi⟩) (λo H' _ hp=>⟨_,aJ.of (hp.1 _ _ h1.iH),aO _⟩) ?_ ?_
 .rintro i y o H2 H3 hi gD ha ⟨g,e⟩ ⟨rfl,hy⟩;obtain⟨c,rfl,ec⟩:=gu (hy _ (aJ.of (g _ _ h1.iH)));refine⟨_,Z,_,Z,_,_,Z,Z,pD zl (zc c (cu ec)),ha,g.dI qm _,?_⟩;subst e;rw[take_snoc ec,bV,bV];rfl
 rintro o H2 gD ha ⟨g2,e⟩;rw[aH,cO]at e;subst e;have g12:=g1.trans g2;have hd2:=g2 _ _ hd1;have h2:=h1.mono g2;have hn0:H l0=none:=g1.free qm;refine⟨d,_,hd2,λob=>⟨_,Z,d,ob,_,Z,ai,?_⟩⟩;have al:=yL rs;refine uY (n:=(iI rs).length) (λi σ H'=>aR (upd H2 d (.fB ob (.dK (iI rs)))) H'/\∃l s4 s5 s6 s7,σ=[some (.ref A.a),some (.ref d),some (.int (aQ rs)),some (.ref l),s4,s5,s6,s7]/\H l=none/\H' l=some (.lst (((rs.take i).foldl (jZ st) (st.bD.map λc=>aQ rs*c)).map V.int))/\((rs.take i).foldl (jZ st) (st.bD.map λc=>aQ rs*c)).length=st.bD.length)
  ⟨aR.refl _,l0,_,_,_,_,Z,hn0,eZ hd2 ha (λk z=>by cases z),by rw[List.take_zero,List.foldl_nil,aH]⟩ (λi σ H' hi hp=>⟨hp.1 _ _ ai,hi⟩) (λσ H' hp=>⟨hp.1 _ _ ai,aO _⟩) ?_ ?_
 .rintro i x σ H3 H4 hi ⟨g,l,s4,s5,s6,s7,rfl,Dp,hl,hsl⟩ ⟨pp,kv,hpp,hkv,rfl,rfl⟩;unfold iI at hkv;rw[cN]at hkv;obtain⟨r,er,rfl⟩:=nH.mp hkv;have hrm:=cu er;obtain⟨zr,p,gq,Eb⟩:=xG r hrm;obtain⟨ip,HB,TM⟩:=yp gq;have ep:st.aj[ip]?=some p:=by rw[bM HB,TM]
  have epg:bH st r.1=p:=by rw[<-Eb];exact OX wf.dN ep
  have g4:=aG hpp (.tup [.str r.1,.int r.2]);have gg:=g.trans g4;have h2z:∀{b:Addr}{u:HO},H2 b=some u->(∀k,u ≠ .dK k)->upd H3 pp (.tup [.str r.1,.int r.2]) b=some u:=λe k=>gg _ _ (eZ hd2 e k);have nab:A.ab≠d:=(BG cd h.fD).symm;obtain⟨qq,eq,k1,k2,_,_⟩:=h2.find ep;have hab:upd H3 pp (.tup [.str r.1,.int r.2]) A.ab=some (.dK (b8 st.aj A.qs)):=gg _ _ (by rw[ay nab];exact h2.dB);have hv:=uK wf.dN ep eq;have hq1:=h2z k1 (λk z=>by cases z);have hq2:=h2z k2 (λk z=>by cases z);have LM:upd H3 pp (.tup [.str r.1,.int r.2]) pp=some (.tup [.str r.1,.int r.2]):=ai;have HC:=g4 _ _ hl;have hno:∀{b:Addr},upd H3 pp (.tup [.str r.1,.int r.2]) b=none->H b=none:=λ{b} e=>by have e1:=jq hd2 (gg.free e);exact g12.free e1
  have LN:upd H3 pp (.tup [.str r.1,.int r.2]) A.a=some (.ins T.hold A.dx (dU A)):=h2z h2.oa (λk z=>by cases z);show zT K 2 _ _ _ (upd H3 pp (.tup [.str r.1,.int r.2])) _;generalize upd H3 pp (.tup [.str r.1,.int r.2])=H4 at *;refine⟨pp,_,Z,dG.of LM,Z,_,_,Z,_,_,Z,Z,?_⟩;refine⟨_,Z,A.a,T.hold,A.dx,_,_,Z,LN,X.cH,X.hab,Z,_,Z,A.ab,_,Z,by rw[<-Eb];exact hv▸eY.k (k:=Sum.inr p.nm) hab,?_⟩;have zs:Jm.Sz 8000 p.sc:=Jm.Sz.pS (by have:=wf.sU p gq;have:=wf.eE;omega) (wf.sU p gq).2 wf.big;refine⟨_,Z,_,Z,qq.1,T.part,qq.2.1,_,_,Z,hq1,X.cP,X.GK,Z,_,_,Z,Z,pD zr zs,?_⟩;have erl:p.row.length=st.bD.length:=by rw[wf.rows p gq,wf.gC]
  generalize eS:(rs.take i).foldl (jZ st) (st.bD.map λc=>aQ rs*c)=S at *;refine⟨_,Z,_,Z,qq.1,T.part,qq.2.1,_,_,Z,hq1,X.cP,X.Ko,Z,_,_,_,_,_,_,Z,.lst (aJ.of HC),.lst (aJ.of hq2),λacc hacc=>?_⟩;refine x8 (K:=K) (n:=S.length) [0,1] (λj out H5=>aR H4 H5/\out=(List.zipWith (λold own=>old+(r.2*p.sc)*own) (S.take j) (p.row.take j)).map V.int) (by decide) (by omega) ⟨aG hacc _,Z⟩ (λj out H5 hj _ hp=>⟨aJ.of (hp.1 _ _ HC),aJ.of (hp.1 _ _ hq2),by rw[aH];exact hj,by rw[aH];omega⟩)
   (λout H5 _ hp=>⟨aJ.of (hp.1 _ _ HC),aJ.of (hp.1 _ _ hq2),.inl (by rw[aH];exact aO _)⟩) ?_ ?_
  .rintro j x out H5 H6 hj Fl ha2 ⟨g5,e5⟩ ⟨p2,x1,y1,hp2,rfl,rfl,e1,e2⟩;obtain⟨t,rfl,et⟩:=gu e1;obtain⟨c,rfl,ec⟩:=gu e2;have g6:=aG hp2 (.tup [.int t,.int c]);have zw:Jm.Sz 8000 c:=Jm.Sz.pS (wf.oU p gq c (cu ec)).1 (wf.oU p gq c (cu ec)).2 wf.big;refine⟨p2,_,Z,dG.of ai,Z,_,Z,_,Z,_,Z,_,_,Z,Z,pD (zr.mul zs) zw,_,_,Z,Z,g6 _ _ ha2,(g5.trans g6).dI hacc _,?_⟩;rw[sV _ et ec,e5,bV];rfl
  rintro out H5 Fl ha2 ⟨g5,e5⟩;rw[cO,hsl,<-erl,cO]at e5;have eN:(rs.take (i+1)).foldl (jZ st) (st.bD.map λc=>aQ rs*c)=List.zipWith (λold own=>old+(r.2*p.sc)*own) S p.row:=by rw[take_snoc er,BW,eS];show jZ st S r=_;unfold jZ;rw[epg]
  refine⟨gg.trans g5,acc,_,_,_,_,Z,hno hacc,?_,?_⟩
  .rw [eN,ha2,e5]
  .rw [eN,lR];omega
 rintro σ H3 ⟨g,l,s4,s5,s6,s7,rfl,Dp,hl,hsl⟩;rw[al,cO]at hl;refine⟨g _ _ ai,_,Z,?_⟩;have nl:l≠d:=λe=>by rw[e,hd]at Dp;cases Dp
 exact q l _ (g12.trans (qR hd2 g)) Dp (by rw[ay nl];exact hl)
abbrev rE:Stmt:=inClass (top 21) 23
abbrev lD:List Str:=["self","name","amount"]
abbrev HZ:List Str:=lD.append ["part"]
theorem yh:aS HZ lD (aF rE):=dX
theorem Fo{T:TC}(F:iG K T.hold "lessen" "Hold.lessen" rE f fd)(X:Txt K T):Mn P w K mg base 1 T.hold "lessen" lD (KL T):=by
 refine F.oA yh λcdv A outer s H vs Q E hr h=>?_;obtain⟨⟨n,ρ,A,st,r,rfl,hh,⟨p,gq,Eb,hle⟩,wf',q⟩⟩:=h;have h:=hh.h;have nd:=hh.wf.dN;refine⟨_,(@dg.h _ _ _ (ak (aW (i:=3) yh.nd (eV (d9 hr) (aI K (qv 0)) (qv 1)))
  (ak (qc K (qv 3) (qv 2) JU)
  (aA (jR (aX eO (aI K (qv 3)) aq (bu _)) (aA (O3 (aI K (qv 0)) (qv 1))) bP))))),?_⟩
 obtain⟨ip,HB,TM⟩:=yp gq;have ep:st.aj[ip]?=some p:=by rw[bM HB,TM]
 obtain⟨qq,eq,k1,k2,k3,k4⟩:=h.find ep;have hv:=uK nd ep eq;refine⟨_,Z,A.a,T.hold,A.dx,_,_,Z,h.oa,X.cH,X.hab,Z,_,Z,A.ab,_,Z,by rw[<-Eb];exact hv▸eY.k (k:=Sum.inr p.nm) h.dB,?_⟩;refine⟨_,Z,qq.1,T.part,qq.2.1,_,_,Z,k1,X.cP,X.uZ,Z,_,Z,_,_,Z,Z,qq.2.1,_,k1,by show 6<1000;decide,?_⟩;have h1:=h.jn (p1:={ p with wo:=p.wo-r.2 }) hh.g ep eq rfl rfl nd;have g1:=hh.g.wr (a:=qq.1) (o:=.ins T.part qq.2.1 (c9 { p with wo:=p.wo-r.2 } qq.2.2)) rfl;have F1:Fr n ρ H ρ (upd H qq.1 (.ins T.part qq.2.1 (c9 { p with wo:=p.wo-r.2 } qq.2.2))):=Fr.write k3;show aaa _ _ _ _ _ (upd H qq.1 (.ins T.part qq.2.1 (c9 { p with wo:=p.wo-r.2 } qq.2.2)));have Pw:upd H qq.1 (.ins T.part qq.2.1 (c9 { p with wo:=p.wo-r.2 } qq.2.2)) qq.1=some (.ins T.part qq.2.1 (c9 { p with wo:=p.wo-r.2 } qq.2.2)):=ai;generalize upd H qq.1 (.ins T.part qq.2.1 (c9 { p with wo:=p.wo-r.2 } qq.2.2))=H1 at *;have el:cT st r={ st with aj:=if p.wo-r.2=0 then st.aj.eraseIdx ip else st.aj.set ip { p with wo:=p.wo-r.2 } }:=by unfold cT;rw[<-Eb,Cg nd (λx hx=>by have:=hh.wf.jI x hx;omega) ep]
 rw[el]at wf' q;refine⟨λσ' H'=>Q .cW H',?_,λ_ _ z=>z⟩;refine⟨_,Z,qq.1,T.part,qq.2.1,_,_,Z,Pw,X.cP,X.uZ,Z,Z,_,Z,cD (λc=>?_) (λc=>?_)⟩
 .have c':p.wo-r.2=0:=V.int.inj (eF c);rw[aC c']at wf' q;have nd1:((st.aj.set ip { p with wo:=p.wo-r.2 }).map (λx:Pt=>x.nm)).Nodup:=by rw[uC,show({ p with wo:=p.wo-r.2 }:Pt).nm=p.nm from rfl,sX (by rw[cN,ep];rfl)];exact nd
  have ep1:(st.aj.set ip { p with wo:=p.wo-r.2 })[ip]?=some { p with wo:=p.wo-r.2 }:=qM HB;have dk:=Cf nd1 h1.ql ep1;rw[List.eraseIdx_set_eq]at dk;have hv1:=uK nd1 ep1 eq;refine⟨_,Z,A.a,T.hold,A.dx,_,_,Z,h1.oa,X.cH,X.hab,Z,_,Z,A.ab,_,Sum.inr r.1,Z,h1.dB,Z,?_,?_⟩
  .rw [<-Eb];show(dZ (b8 (st.aj.set ip { p with wo:=p.wo-r.2 }) A.qs) (Sum.inr p.nm)).isSome=true;rw[show dZ (b8 (st.aj.set ip { p with wo:=p.wo-r.2 }) A.qs) (Sum.inr p.nm)=_ from hv1];rfl
  .show Q .cW (upd H1 A.ab (.dK (m8 (b8 (st.aj.set ip { p with wo:=p.wo-r.2 }) A.qs) (Sum.inr r.1))));rw[<-Eb,show m8 (b8 (st.aj.set ip { p with wo:=p.wo-r.2 }) A.qs) (Sum.inr p.nm)=_ from dk];have hi2:ip<A.qs.length:=by rw[h.ql];exact HB
   have h2:=h1.Km g1 (st.aj.eraseIdx ip) (A.qs.eraseIdx ip) (by rw[PY HB,PY hi2,h.ql]) (λj x y ex ey=>by rw[<-List.eraseIdx_set_eq (l:=st.aj) (i:=ip) (a:={ p with wo:=p.wo-r.2 })]at ex;obtain⟨k,a1,a2⟩:=Ak ex ey;exact h1.opt k x y a1 a2)
   exact q ρ _ _ ⟨g1.wr rfl,h2,wf'⟩ rfl (F1.trans (Fr.write h1.fD))
 .have c':¬ p.wo-r.2=0:=λe=>c (br (by rw[e]));rw[aB c']at wf' q;exact q ρ A H1 ⟨g1,h1,wf'⟩ rfl F1
abbrev t_:Stmt:=inClass (top 21) 28
abbrev mU:List Str:=["self","kept","whole","added"]
abbrev LO:List Str:=mU.append ["scales","common","shared","part","scale"]
theorem jE:aS LO mU (aF t_):=dX
theorem H_{T:TC}(F:iG K T.hold "blend" "Hold.blend" t_ f fd)(X:Txt K T)(qo:Dn P w K mg base 2 "factor_of_all" l7 (SW K))(ua:Mn P w K mg base 1 T.bot "grow" oq (SX T))(jb:mg "zip"=none):Mn P w K mg base 3 T.hold "blend" mU (EZ T K):=by
 refine F.oA jE λcdv A outer s H vs Q E hr h=>?_;obtain⟨⟨n,ρ,A,st,kept,whole,la,added,rfl,hh,hla,hal,k0,w0,kz,wz,haz,hpz,hsl,wf',q⟩⟩:=h;refine⟨_,(@dg.h _ _ _ (ak (yb (q_ (i:=4) ["part","kept"] [none,some 1] jE.nd rfl rfl rfl (Bo (aI K (qv 0))) (λ_ _ _ _=>(bg (i:=0) (show List.Nodup (["part","kept"] :List Str)from by decide +kernel))) (λ_ _ _ _=>(aP qP (aI K (qv 0)) (qv 1))) rfl (by rfl) (by rfl)))
  (ak (q_ (i:=5) ["top","more","kept"] [none,none,some 1] jE.nd rfl rfl rfl (qZ K (by rfl) jb (ah (aI K (qv 0)) (ah (qv 3) au))) (λ_ _ _ _=>(iS K (n:=2) rfl (cM (bg (i:=0) (show List.Nodup (["top","more","kept"] :List Str)from by decide +kernel)) (cM (bg (i:=1) (show List.Nodup (["top","more","kept"] :List Str)from by decide +kernel)) iR)))) (λ_ _ _ _=>(aP c7 (aP qP (qv 0) (qv 2)) (qv 1))) rfl (by rfl) (by rfl))
  (ak (aW (i:=6) jE.nd (bK qo hr (ah (qv 2) (ah (aP R5 (qv 4) (qv 5)) au))))
  (ak (yb (fG gc rfl (qZ K (by rfl) jb (ah (E3 (aI K (qv 0))) (ah (qv 4) au))) (iS K (n:=2) rfl (cM (bg (i:=7) jE.nd) (cM (bg (i:=8) jE.nd) iR))) (aA (cR K (qv 7) (aP jl (qv 8) (qv 6))))))
  (ak (cR K (qv 0) (ko ["top","shared"] [none,some 6] rfl (eW K (qv 5)) (λ_ _ _ _=>(bg (i:=0) (show List.Nodup (["top","shared"] :List Str)from by decide +kernel))) (λ_ _ _ _=>(aP jl (qv 0) (qv 1))) rfl (by rfl)))
  (ak (cR K (qv 0) (ko ["purse","whole","shared"] [none,some 2,some 6] rfl (eW K (aI K (qv 0))) (λ_ _ _ _=>(bg (i:=0) (show List.Nodup (["purse","whole","shared"] :List Str)from by decide +kernel))) (λ_ _ _ _=>(aP qP (qv 0) (aP jl (qv 1) (qv 2)))) rfl (by rfl)))
  (aA (b_ (b7 ua hr (aI K (qv 0)) (ah (aP jl (qv 2) (qv 6)) au))))))))))),?_⟩
 have hpl:=hh.wf.mH;have nd:=hh.wf.dN;have hcl:st.bD.length<=100:=by rw[hh.wf.gC];exact hh.wf.kh
 have zsc:∀p∈st.aj,Jm.Sz 8000 p.sc:=λp hp=>Jm.Sz.pS (by have:=hh.wf.sU p hp;have:=hh.wf.eE;omega) (hh.wf.sU p hp).2 hh.wf.big;have zcm:∀c∈st.bD,Jm.Sz 8000 c:=λc hc=>Jm.Sz.pS (by have:=hh.wf.oS c hc;have:=hh.wf.eE;omega) (hh.wf.oS c hc).2 hh.wf.big;have h:=hh.h;refine⟨A.ab,_,h.dB,λob=>?_⟩;refine⟨_,Z,A.a,T.hold,A.dx,_,_,Z,eZ h.dB h.oa (λk z=>by cases z),X.cH,X.hab,Z,A.ab,ob,_,Z,ai,λl1 hl1=>?_⟩;have el:=uJ h.ql;refine mF (n:=st.aj.length) 0 (λi out H1=>aR (upd H A.ab (.fB ob (.dK (b8 st.aj A.qs)))) H1/\out=((st.aj.take i).map λp:Pt=>p.sc*kept).map V.int) (by omega) ⟨aG hl1 _,Z⟩ (λi out H1 hi _ hp=>⟨hp.1 _ _ ai,by rw[el];exact hi⟩) (λout H1 _ hp=>⟨hp.1 _ _ ai,by rw[el];exact aO _⟩) ?_ ?_
 .rintro i x out H1 H2 hi gD ha ⟨g,e⟩ ⟨rfl,kv,hkv,rfl⟩;have ep:=bM hi;obtain⟨qq,eq,k1,k2,_⟩:=h.find ep;rw[uI ep eq]at hkv;cases hkv;have hq:=g _ _ (eZ h.dB k1 (λk z=>by cases z));refine⟨_,Z,qq.1,T.part,qq.2.1,_,_,Z,hq,X.cP,X.GK,Z,_,Z,_,_,Z,Z,pD (zsc _ (Jg hi)) kz,ha,g.dI hl1 _,?_⟩;subst e;rw[take_snoc ep,bV,bV];rfl
 rintro o1 H1 aj1 ha1 ⟨g1,e1⟩;rw[cO]at e1;have hz1:=g1 _ _ (ai (H:=H) (a:=A.ab) (o:=.fB ob (.dK (b8 st.aj A.qs))));have na1:l1≠A.ab:=λe=>by rw[e,hz1]at ha1;cases ha1
 refine⟨hz1,?_⟩;have s2:aR H (upd H1 A.ab (.dK (b8 st.aj A.qs))):=qR h.dB g1;have aj2:H l1=none:=jq h.dB hl1;have ha2:upd H1 A.ab (.dK (b8 st.aj A.qs)) l1=some (.lst ((jd st kept).map V.int)):=by rw[ay na1,ha1,e1];rfl
 generalize upd H1 A.ab (.dK (b8 st.aj A.qs))=H2 at *;clear g1 hz1 ha1 e1;have h2:=h.mono s2;have Rt:=s2.seq hla;refine⟨_,Z,A.a,T.hold,A.dx,_,_,Z,h2.oa,X.cH,X.wL,Z,_,Z,_,_,_,_,_,_,Z,.lst (aJ.of h2.iH),.lst Rt,λl2 hl2=>?_⟩;refine x8 (K:=K) (n:=st.bD.length) [0,1] (λi out H3=>aR H2 H3/\out=(List.zipWith (λt m=>t*kept+m) (st.bD.take i) (added.take i)).map V.int) (by decide) (by omega) ⟨aG hl2 _,Z⟩ (λi out H3 hi _ hp=>⟨aJ.of (hp.1 _ _ h2.iH),hp.1.seq Rt,by rw[aH];exact hi,by rw[aH];omega⟩)
  (λout H3 _ hp=>⟨aJ.of (hp.1 _ _ h2.iH),hp.1.seq Rt,.inl (by rw[aH];exact aO _)⟩) ?_ ?_
 .rintro i x out H3 H4 hi gD ha ⟨g,e⟩ ⟨p,x1,y1,hp,rfl,rfl,e1,e2⟩;obtain⟨t,rfl,et⟩:=gu e1;obtain⟨c,rfl,ec⟩:=gu e2;have g1:=aG hp (.tup [.int t,.int c]);refine⟨p,_,Z,dG.of ai,Z,_,Z,_,Z,_,_,Z,Z,pD (zcm t (cu et)) kz,_,Z,_,_,Z,Z,g1 _ _ ha,(g.trans g1).dI hl2 _,?_⟩;rw[sV _ et ec,e,bV];rfl
 rintro o2 H3 Fl ha3 ⟨g3,e3⟩;rw[cO,<-hal,cO]at e3;have TN:o2=(f7 st kept added).map V.int:=e3;subst TN;have s3:=s2.trans g3;have h3:=h.mono s3;have VZ:=g3 _ _ ha2;have aj3:H l2=none:=s2.free hl2;have n12:l1≠l2:=λe=>by rw[e,hl2]at ha2;cases ha2
 clear e3 h2 Rt g3 ha2 s2;have lsc:(jd st kept).length=st.aj.length:=by unfold jd;rw[aH]
 have lcm:(f7 st kept added).length=st.bD.length:=by unfold f7;rw[lR,hal,yv]
 refine⟨_,Z,_,Z,_,Z,l1,l2,_,_,Z,Z,VZ,ha3,by rw[aH,aH,lsc,lcm];exact gh (Nat.add_le_add hpl hcl) (by rw[kP];decide),λp3 hp3=>?_⟩;rw[<-bV];have g4:=aG hp3 (.lst ((jd st kept++f7 st kept added).map V.int));refine⟨⟨whole,p3,_,Z,aJ.of ai,by omega,?_,?_⟩⟩
 .intro t ht;rcases fu.mp ht with z|z
  .unfold jd at z;obtain⟨p,hp,rfl⟩:=a_.mp z;exact rQ (by have:=hh.wf.sU p hp;omega) (by omega)
  .obtain ⟨c,hc,m,hm,rfl⟩:=u7 (show t∈List.zipWith _ st.bD added from z);have a1:=rQ (hh.wf.oS c hc).1 (by omega:0<=kept);have a2:=(haz m hm).1;omega
 have s4:=s3.trans g4;have h4:=h.mono s4;have G4:=hh.g.same s4;have F4:Fr n ρ H ρ (upd H3 p3 (.lst ((jd st kept++f7 st kept added).map V.int))):=Fr.of_same s4;have b1:=g4 _ _ VZ;have b2:=g4 _ _ ha3;generalize upd H3 p3 (.lst ((jd st kept++f7 st kept added).map V.int))=H4 at *;clear VZ ha3 s3 h3 g4;obtain⟨sd,W2⟩:∃sd,sd=cy st kept whole added:=⟨_,rfl⟩
 rw[show p6 whole (jd st kept++f7 st kept added)=sd from W2.symm];have sp:0<sd:=by rw[W2];exact Am _ _ w0
 have S3:sd∣whole:=by rw[W2];exact(Al _ _).1
 have sz:Jm.Sz 60 sd:=wz.dvd w0 (by omega) S3;have wq:0<whole / sd:=Int.ediv_pos_of_pos_of_dvd w0 (by omega) S3;have wqz:Jm.Sz 60 (whole / sd):=wz.ediv sp;have W3:∀{i:Int},Dj i sd:=λ{i}=>yC sp (sz.mono (by decide));refine⟨A.ab,_,h4.dB,λTQ=>?_⟩;refine⟨_,Z,A.a,T.hold,A.dx,_,_,Z,eZ h4.dB h4.oa (λk z=>by cases z),X.cH,X.hab,Z,A.ab,_,Z,.inr ⟨TQ,ai⟩,λv hv=>?_⟩;have nva:v≠A.ab:=λe=>by rw[e,ai]at hv;cases hv
 have hv4:H4 v=none:=jq h4.dB hv;have g5:=aG hv4 (lY v A.ab);have hv5:upd H4 v (lY v A.ab) v=some (lY v A.ab):=ai;rw[iV (bX nva)];have h5:=h4.mono g5;have G5:=G4.same g5;have F5:=F4.trans (Fr.of_same (ρ:=ρ) g5);have s5:=s4.trans g5;have c1:=g5 _ _ b1;have c2:=g5 _ _ b2;generalize upd H4 v (lY v A.ab)=H5 at *;clear h4 G4 F4 s4 b1 b2 g5;refine⟨_,Z,_,_,_,_,_,_,Z,.vals (eZ h5.dB hv5 (λk z=>by cases z)) ai,.lst (aJ.of (eZ h5.dB c1 (λk z=>by cases z))),?_⟩;have exl:((b8 st.aj A.qs).map λp=>p.2).length=st.aj.length:=by rw[aH];exact el
 have eyl:((jd st kept).map V.int).length=st.aj.length:=by rw[aH];exact lsc
 refine uY (n:=st.aj.length) (λi σ H'=>(∃s7 s8,σ=[some (.ref A.a),some (.int kept),some (.int whole),some (.ref la),some (.ref l1),some (.ref l2),some (.int sd),s7,s8])/\∃H6,H'=upd H6 A.ab (.fB TQ (.dK (b8 st.aj A.qs)))/\Gh ρ H6/\Fr n ρ H ρ H6/\aL T n ρ A H6 { st with aj:=(st.aj.take i).map (λp=>{ p with sc:=p.sc*kept / sd })++st.aj.drop i }/\H6 l1=some (.lst ((jd st kept).map V.int))/\H6 l2=some (.lst ((f7 st kept added).map V.int))/\(∀b,H6 b=none->H b=none))
  ⟨⟨_,_,Z⟩,H5,Z,G5,F5,h5,c1,c2,λb e=>s5.free e⟩ ?_ ?_ ?_ ?_
 .rintro i σ H' hi ⟨_,H6,rfl,G6,F6,h6,d1,d2,fr⟩;have e6:b8 ({ st with aj:=(st.aj.take i).map (λp:Pt=>{ p with sc:=p.sc*kept / sd })++st.aj.drop i }:HS).aj A.qs=b8 st.aj A.qs:=pG (qT (λp:Pt=>{ p with sc:=p.sc*kept / sd }) (λp:Pt=>p.nm) (λ_=>rfl) st.aj i);have rF:=h6.dB;rw[e6]at rF;exact⟨ai,aJ.of (eZ rF d1 (λk z=>by cases z)),by rw[exl];exact hi,by rw[eyl];exact hi⟩
 .rintro σ H' ⟨_,H6,rfl,G6,F6,h6,d1,d2,fr⟩;have e6:b8 ({ st with aj:=(st.aj.take st.aj.length).map (λp:Pt=>{ p with sc:=p.sc*kept / sd })++st.aj.drop st.aj.length }:HS).aj A.qs=b8 st.aj A.qs:=pG (qT (λp:Pt=>{ p with sc:=p.sc*kept / sd }) (λp:Pt=>p.nm) (λ_=>rfl) st.aj _);have rF:=h6.dB;rw[e6]at rF;exact⟨ai,aJ.of (eZ rF d1 (λk z=>by cases z)),.inl (by rw[exl];exact aO _)⟩
 .rintro i x σ H' zH hi ⟨⟨s7,s8,rfl⟩,H6,rfl,G6,F6,h6,d1,d2,fr⟩ ⟨pp,x1,y1,hpp,rfl,rfl,ex,ey⟩;have ep:=bM hi;have ep6:=KD (λp:Pt=>{ p with sc:=p.sc*kept / sd }) ep;obtain⟨qq,eq,k1,k2,k3,k4⟩:=h6.find ep6;have nm6:=qT (λp:Pt=>{ p with sc:=p.sc*kept / sd }) (λp:Pt=>p.nm) (λ_=>rfl) st.aj i;have e6:b8 ({ st with aj:=(st.aj.take i).map (λp:Pt=>{ p with sc:=p.sc*kept / sd })++st.aj.drop i }:HS).aj A.qs=b8 st.aj A.qs:=pG nm6;have rF:=h6.dB;rw[e6]at rF;rw[cN,uI ep eq]at ex;cases ex;obtain⟨sc,rfl,esc⟩:=gu ey;have aha:sc=(st.aj[i]).sc*kept:=by unfold jd at esc;rw[cN,ep]at esc;exact(fE esc).symm
  subst aha;have npa:pp≠A.ab:=λe=>by rw[e,ai]at hpp;cases hpp
  have ahb:H6 pp=none:=jq rF hpp;have g7:=aG ahb (.tup [.ref qq.1,.int ((st.aj[i]).sc*kept)]);rw[iV (bX npa)];have LM:upd H6 pp (.tup [.ref qq.1,.int ((st.aj[i]).sc*kept)]) pp=some (.tup [.ref qq.1,.int ((st.aj[i]).sc*kept)]):=ai;have h7:=h6.mono g7;have G7:=G6.same g7;have F7:=F6.trans (Fr.of_same (ρ:=ρ) g7);have V0:=g7 _ _ rF;have f1:=g7 _ _ d1;have f2:=g7 _ _ d2;have Ka:∀b,upd H6 pp (.tup [.ref qq.1,.int ((st.aj[i]).sc*kept)]) b=none->H b=none:=λb e=>fr b (g7.free e);have Pw:=g7 _ _ k1;generalize upd H6 pp (.tup [.ref qq.1,.int ((st.aj[i]).sc*kept)])=H7 at *;refine⟨pp,_,Z,dG.of (eZ V0 LM (λk z=>by cases z)),Z,_,_,Z,_,_,Z,Z,?_⟩;refine⟨_,Z,_,Z,_,_,Z,Z,W3,_,Z,qq.1,T.part,qq.2.1,_,Z,eZ V0 Pw (λk z=>by cases z),X.cP,X.GK,by show 6<1000;decide,?_⟩;have nd7:(((st.aj.take i).map (λp:Pt=>{ p with sc:=p.sc*kept / sd })++st.aj.drop i).map (λp:Pt=>p.nm)).Nodup:=by rw[nm6];exact nd
  have h8:=h7.jn (p1:={ st.aj[i]with sc:=(st.aj[i]).sc*kept / sd }) G7 ep6 eq rfl rfl nd7;rw[show({ st with aj:=(st.aj.take i).map (λp:Pt=>{ p with sc:=p.sc*kept / sd })++st.aj.drop i }:HS).aj.set i { st.aj[i]with sc:=(st.aj[i]).sc*kept / sd }=_ from KG (λp:Pt=>{ p with sc:=p.sc*kept / sd }) ep]at h8;have nqa:A.ab≠qq.1:=(i8 Pw V0 (by intro z;cases z)).symm;have nq1:l1≠qq.1:=i8 f1 Pw (by intro z;cases z);have nq2:l2≠qq.1:=i8 f2 Pw (by intro z;cases z);refine⟨⟨_,_,Z⟩,_,iV nqa,G7.wr rfl,F7.trans (Fr.write k3),h8,by rw[ay nq1];exact f1,by rw[ay nq2];exact f2,λb e=>Ka b ?_⟩;by_cases z:b=qq.1
  .rw [z,ai]at e;cases e
  .rw [ay z]at e;exact e
 rintro σ H' ⟨⟨s7,s8,rfl⟩,H6,rfl,G6,F6,h6,d1,d2,fr⟩;have e6:b8 ({ st with aj:=(st.aj.take st.aj.length).map (λp:Pt=>{ p with sc:=p.sc*kept / sd })++st.aj.drop st.aj.length }:HS).aj A.qs=b8 st.aj A.qs:=pG (qT (λp:Pt=>{ p with sc:=p.sc*kept / sd }) (λp:Pt=>p.nm) (λ_=>rfl) st.aj _);have rF:=h6.dB;rw[e6]at rF;refine⟨ai,?_⟩;rw[lH,qS rF];rw[show({ st with aj:=(st.aj.take st.aj.length).map (λp:Pt=>{ p with sc:=p.sc*kept / sd })++st.aj.drop st.aj.length }:HS)={ st with aj:=st.aj.map λp:Pt=>{ p with sc:=p.sc*kept / sd } }from by rw[cO,List.drop_length,CT]]at h6;clear e6 rF h5 G5 F5 s5 c1 c2 hv5;refine⟨_,Z,l2,Z,⟨_,aJ.of d2⟩,λl3 hl3=>?_⟩;refine mF (J:=zW K l2) (n:=((f7 st kept added).map V.int).length) 0 (λi o H'=>aR H6 H'/\o=(((f7 st kept added).take i).map (· / sd)).map V.int) (by rw[aH];omega) ⟨aG hl3 _,Z⟩ (λi o H' hi _ hp=>⟨_,_,aJ.of (hp.1 _ _ d2),bM hi⟩) (λo H' _ hp=>⟨_,aJ.of (hp.1 _ _ d2),aO _⟩) ?_ ?_
 .rintro i y o Ha Hb hi gD ha ⟨g,e⟩ ⟨rfl,hy⟩;obtain⟨c,rfl,ec⟩:=gu (hy _ (aJ.of (g _ _ d2)));refine⟨_,Z,_,Z,_,_,Z,Z,W3,ha,g.dI hl3 _,?_⟩;subst e;rw[take_snoc ec,bV,bV];rfl
 rintro o3 H8 aj4 LP ⟨g8,e8⟩;rw[aH,cO]at e8;subst e8;have h8:=h6.mono g8;have G8:=G6.same g8;have F8:=F6.trans (Fr.of_same (ρ:=ρ) g8);have fr8:∀b,H8 b=none->H b=none:=λb e=>fr b (g8.free e);have c3:ρ l3=none:=G6.none hl3;have n3:H l3=none:=fr l3 hl3;refine⟨_,Z,A.a,T.hold,A.dx,_,Z,h8.oa,X.cH,X.wL,by show 7<1000;decide,?_⟩;obtain⟨h9,G9⟩:=Ao (t:=6) h8 G8 c3 LP rfl;have F9:Fr n ρ H (c8 ρ l3 (n,6,⟨#[]⟩)) H8:=F8.oV n3;have BL:=h9.SJ G9 l3 _ LP cC;have G10:=G9.wr (a:=A.a) (o:=.ins T.hold A.dx (dU { A with cm:=l3 })) rfl;have BN:=F9.trans (Fr.write (o:=.ins T.hold A.dx (dU { A with cm:=l3 })) h9.ca);show i9 _ _ _ _ (upd H8 A.a (.ins T.hold A.dx (dU { A with cm:=l3 })));have ahc:∀b,upd H8 A.a (.ins T.hold A.dx (dU { A with cm:=l3 })) b=none->H b=none:=λb e=>fr8 b (by
  by_cases z:b=A.a
  .rw [z,ai]at e;cases e
  .rw [ay z]at e;exact e)
 generalize upd H8 A.a (.ins T.hold A.dx (dU { A with cm:=l3 }))=zA at *;clear h6 G6 F6 h8 G8 F8 h9 G9 F9 LP g8 fr8 fr d1 d2;refine⟨_,Z,A.a,T.hold,A.dx,_,_,Z,BL.oa,X.cH,X.zC,Z,A.pu,Z,⟨_,aJ.of BL.jA⟩,λl4 HC=>?_⟩;have aj5:st.bF.length<=100:=by rw[hh.wf.mG];exact hh.wf.kh
 refine mF (J:=zW K A.pu) (n:=(st.bF.map V.int).length) 0 (λi o H'=>aR zA H'/\o=((st.bF.take i).map (·*(whole / sd))).map V.int) (by rw[aH];omega) ⟨aG HC _,Z⟩ (λi o H' hi _ hp=>⟨_,_,aJ.of (hp.1 _ _ BL.jA),bM hi⟩) (λo H' _ hp=>⟨_,aJ.of (hp.1 _ _ BL.jA),aO _⟩) ?_ ?_
 .rintro i y o Ha Hb hi gD ha ⟨g,e⟩ ⟨rfl,hy⟩;obtain⟨c,rfl,ec⟩:=gu (hy _ (aJ.of (g _ _ BL.jA)));refine⟨_,Z,_,Z,_,Z,_,_,Z,Z,W3,_,_,Z,Z,pD (hpz c (cu ec)) wqz,ha,g.dI HC _,?_⟩;subst e;rw[take_snoc ec,bV,bV];rfl
 rintro o4 DW aj6 abF ⟨g11,e11⟩;rw[aH,cO]at e11;subst e11;have h11:=BL.mono g11;have G11:=G10.same g11;have F11:=BN.trans (Fr.of_same (ρ:=c8 ρ l3 (n,6,⟨#[]⟩)) g11);have c4:c8 ρ l3 (n,6,⟨#[]⟩) l4=none:=G10.none HC;have n4:H l4=none:=ahc l4 HC;refine⟨_,Z,A.a,T.hold,A.dx,_,Z,h11.oa,X.cH,X.zC,by show 7<1000;decide,?_⟩;obtain⟨h12,G12⟩:=Ao (t:=7) h11 G11 c4 abF rfl;have F12:Fr n ρ H (c8 (c8 ρ l3 (n,6,⟨#[]⟩)) l4 (n,7,⟨#[]⟩)) DW:=F11.oV n4;have h13:=h12.Kn G12 l4 _ abF cC;have G13:=G12.wr (a:=A.a) (o:=.ins T.hold A.dx (dU { { A with cm:=l3 }with pu:=l4 })) rfl;have F13:=F12.trans (Fr.write (o:=.ins T.hold A.dx (dU { { A with cm:=l3 }with pu:=l4 })) h12.ca);rw[show aZ "purses" (V.ref l4) (dU { A with cm:=l3 })=dU { { A with cm:=l3 }with pu:=l4 }from rfl];generalize upd DW A.a (.ins T.hold A.dx (dU { { A with cm:=l3 }with pu:=l4 }))=LL at *;refine⟨_,Z,A.a,T.hold,A.dx,_,_,Z,h13.oa,X.cH,X.wK,Z,A.bt,A.db,_,Z,h13.jc,Z,_,Z,_,Z,_,_,Z,Z,W3,?_⟩;refine⟨⟨n,_,{ { A with cm:=l3 }with pu:=l4 },{ st with aj:=st.aj.map (λp:Pt=>{ p with sc:=p.sc*kept / sd }),bD:=(f7 st kept added).map (· / sd),bF:=st.bF.map (·*(whole / sd)) },whole / sd,Z,G13,h13,by show st.stp.length<=1000;omega,hh.wf.big.mono (by decide),wqz.mono (by decide),λρ' A' H' a1 a2 a3 a4=>?_⟩⟩;have eb:aN st kept whole added=fh { st with aj:=st.aj.map (λp:Pt=>{ p with sc:=p.sc*kept / sd }),bD:=(f7 st kept added).map (· / sd),bF:=st.bF.map (·*(whole / sd)) } (whole / sd):=by unfold aN;rw[W2]
 rw[eb]at wf' q;exact q ρ' A' H' ⟨a1,a2,wf'⟩ a3 (F13.trans a4)
abbrev vF:Stmt:=inClass (top 21) 3
abbrev nX:List Str:=["self","rows"]
abbrev Nu:List Str:=nX.append ["amounts","name","amount","whole","lost"]
theorem iP:aS Nu nX (aF vF):=dX
theorem LQ{T:TC}(F:iG K T.hold "cast" "Hold.cast" vF f fd)(X:Txt K T)(vG:Dn P w K mg base 1 "amounts_of" qf (SV K))(mV:Dn P w K mg base 2 "check_loss" mT WL)(cS:Mn P w K mg base 1 T.hold "part_of" fk (Ce T))(gZ:Mn P w K mg base 1 T.hold "whole" kC (Bm T))(kF:Mn P w K mg base 3 T.hold "blend" mU (EZ T K))(qt:Mn P w K mg base 1 T.hold "given_up" l_ (OY T))(jF:Mn P w K mg base 1 T.hold "lessen" lD (KL T))(k_:mg "sum"=none):Mn P w K mg base 4 T.hold "cast" nX (KN T K):=by
 refine F.oA iP λcdv A outer s H vs Q E hr h=>?_;obtain⟨⟨n,ρ,A,st,l,us,rs,rfl,hh,hl,hR,ok,q⟩⟩:=h;have wf:=hh.wf;have nd:=ok.nd;refine⟨_,(@dg.h _ _ _ (ak (aW (i:=2) iP.nd (bK vG hr (ah (qv 1) au)))
  (ak (yb (fG gc rfl (yS (qv 2)) (iS K (n:=2) rfl (cM (bg (i:=3) iP.nd) (cM (bg (i:=4) iP.nd) iR))) (aA (b_ (bK mV hr (ah (aI K (b7 cS hr (qv 0) (ah (qv 3) au))) (ah (qv 4) au)))))))
  (ak (aW (i:=5) iP.nd (kq gZ hr (qv 0)))
  (ak (aW (i:=6) iP.nd (bZ (GI rfl) (by rfl) k_ JD (ah (E3 (qv 2)) au)))
  (ak (cX (aX Jr (qv 6) (qv 5) (bu _)) (aA gr) bP)
  (ak (b_ (b7 kF hr (qv 0) (ah (aP mD (qv 5) (qv 6)) (ah (qv 5) (ah (b7 qt hr (qv 0) (ah (qv 2) au)) au)))))
  (aA (yb (fG gc rfl (yS (qv 2)) (iS K (n:=2) rfl (cM (bg (i:=3) iP.nd) (cM (bg (i:=4) iP.nd) iR))) (aA (b_ (b7 jF hr (qv 0) (ah (qv 3) (ah (qv 4) au))))))))))))))),?_⟩
 refine⟨_,Z,⟨⟨l,us,rs,Z,hl,hR,nd,ok.ne,ok.len,λd H1 g1 hdn hd1=>?_⟩⟩⟩;have iu:=hh.mono g1;have F1:Fr n ρ H ρ H1:=Fr.of_same g1;have cd:ρ d=none:=hh.g.none hdn;have al:=yL rs;refine⟨d,_,hd1,λob=>⟨_,Z,d,ob,_,Z,ai,?_⟩⟩;refine uY (n:=(iI rs).length) (λi σ H'=>aR (upd H1 d (.fB ob (.dK (iI rs)))) H'/\∃s3 s4 s5 s6,σ=[some (.ref A.a),some (.ref l),some (.ref d),s3,s4,s5,s6])
  ⟨aR.refl _,_,_,_,_,Z⟩ (λi σ H' hi hp=>⟨hp.1 _ _ ai,hi⟩) (λσ H' hp=>⟨hp.1 _ _ ai,aO _⟩) ?_ ?_
 .rintro i x σ H3 H4 hi ⟨g,s3,s4,s5,s6,rfl⟩ ⟨pp,kv,hpp,hkv,rfl,rfl⟩;unfold iI at hkv;rw[cN]at hkv;obtain⟨r,er,rfl⟩:=nH.mp hkv;have hrm:=cu er;obtain⟨r1,zr,p,gq,Eb,hle⟩:=ok.row r hrm;obtain⟨ip,HB,TM⟩:=yp gq;have ep:st.aj[ip]?=some p:=by rw[bM HB,TM]
  have g4:=aG hpp (.tup [.str r.1,.int r.2]);have gg:=g.trans g4;have hf:HH T n ρ A (upd H1 d (.fB ob (.dK (iI rs)))) st:=iu.DH cd hd1 rfl rfl;have h4:=hf.mono gg;have LM:upd H3 pp (.tup [.str r.1,.int r.2]) pp=some (.tup [.str r.1,.int r.2]):=ai;show zT K 2 _ _ _ (upd H3 pp (.tup [.str r.1,.int r.2])) _;generalize upd H3 pp (.tup [.str r.1,.int r.2])=H4 at *;obtain⟨qq,eq,k1,k2,_,_⟩:=h4.h.find ep;refine⟨pp,_,Z,dG.of LM,Z,_,_,Z,_,_,Z,Z,?_⟩;refine⟨_,Z,A.a,A.dx,_,Z,h4.h.oa,Z,_,Z,⟨⟨n,ρ,A,st,ip,p,qq,by rw[<-Eb];rfl,h4.h,wf.dN,ep,eq,?_⟩⟩⟩;refine⟨qq.1,T.part,qq.2.1,_,_,Z,k1,X.cP,X.uZ,Z,_,Z,⟨⟨p.wo,r.2,Z,r1,hle,?_⟩⟩⟩;exact⟨gg,_,_,_,_,Z⟩
 rintro σ H2 ⟨g2,s3,s4,s5,s6,rfl⟩;refine⟨g2 _ _ ai,?_⟩;have gB:=qR hd1 g2;have nE:=iu.mono gB;have F2:Fr n ρ H ρ (upd H2 d (.dK (iI rs))):=F1.trans (Fr.of_same gB);have hd2:upd H2 d (.dK (iI rs)) d=some (.dK (iI rs)):=ai;generalize upd H2 d (.dK (iI rs))=H2' at *;refine⟨_,Z,A.a,A.dx,_,Z,nE.h.oa,Z,⟨⟨n,ρ,A,st,Z,nE.h,wf.mH,λH3 g3=>?_⟩⟩⟩;have l9:=nE.mono g3;have W4:=g3 _ _ hd2;have F3:=F2.trans (Fr.of_same (ρ:=ρ) g3);refine⟨_,Z,d,_,Z,.inl W4,λv hv=>⟨v,d,_,rs.map (·.2),Z,ai,.inl (by rw[ay (aD W4 hv)];exact W4),by unfold iI;rw[gj,gj];rfl,?_⟩⟩;have g4:=aG hv (lY v d);have nF:=l9.mono g4;have hd4:=g4 _ _ W4;have F4:=F3.trans (Fr.of_same (ρ:=ρ) g4);generalize upd H3 v (lY v d)=H4 at *;have bo:=ok.blend wf;refine⟨_,Z,_,Z,_,_,Z,Z,_,Z,cD (λc=>absurd (eF c) (by have:=ok.lost;show ¬ aE st<=aQ rs;omega)) λ_=>?_⟩;refine⟨_,Z,A.a,A.dx,_,Z,nF.h.oa,Z,_,Z,_,Z,_,_,Z,Z,_,Z,_,Z,A.a,A.dx,_,Z,nF.h.oa,Z,_,Z,⟨⟨n,ρ,A,st,d,rs,Z,nF.h,wf,hd4,cd,ok.len,λr hr=>⟨(ok.row r hr).2.1,by obtain⟨p,hp,e,_⟩:=(ok.row r hr).2.2;exact⟨p,hp,e⟩⟩,λl5 H5 g5 hn5 hl5=>?_⟩⟩⟩;have vD:=nF.mono g5;have hd5:=g5 _ _ hd4;have F5:=F4.trans (Fr.of_same (ρ:=ρ) g5);have zk:Jm.Sz 60 (aE st-aQ rs):=bo.big.of_le (by have:=bo.k;have:=bo.l;omega);have zG:∀m∈dW st rs,0<=m/\Jm.Sz 8900 m:=λm hm=>by have h1:=bo.add m hm;have h2:=wf.eE;have zl:Jm.Sz 60 (aQ rs):=bo.big.of_le (by have:=bo.k;have:=bo.l;omega);exact⟨h1.1,Jm.Sz.pS (by have:=rQ bo.l (show 0<=st.prod by omega);omega) h1.2 ((zl.mul bo.prod).mono (by decide))⟩
 refine⟨⟨n,ρ,A,st,aE st-aQ rs,aE st,l5,dW st rs,Z,vD,aJ.of hl5,bo.len,bo.k,by have:=bo.k;have:=bo.l;omega,zk,bo.big,zG,ok.bF,ok.stp,u_ wf bo,λρ6 A6 H6 w6 e6 f6=>?_⟩⟩;obtain⟨hd6,cd6⟩:=f6 d _ hd5 (λt x=>by rw[cd];intro z;cases z);rw[cd]at cd6;have F6:=F5.trans f6;refine⟨d,_,hd6,λTQ=>⟨_,Z,d,TQ,_,Z,ai,?_⟩⟩;generalize eB:aN st (aE st-aQ rs) (aE st) (dW st rs)=Px at *;have ahd:Due Px rs:=by rw[<-eB];exact As ok.due
 have adS:cV st rs=rs.foldl cT Px:=by unfold cV;rw[eB]
 refine uY (n:=(iI rs).length) (λi σ H'=>∃ρ' A',HH T n ρ' A' H' ((rs.take i).foldl cT Px)/\A'.a=A.a/\H' d=some (.fB TQ (.dK (iI rs)))/\ρ' d=none/\Fr n ρ H ρ' H'/\Due ((rs.take i).foldl cT Px) (rs.drop i)/\∃s3 s4 s5 s6,σ=[some (.ref A.a),some (.ref l),some (.ref d),s3,s4,s5,s6])
  ⟨ρ6,A6,w6.DH cd6 hd6 rfl rfl,e6,ai,cd6,F6.new hdn,ahd,_,_,_,_,Z⟩ (λi σ H' hi hp=>by obtain⟨_,_,_,_,e,_⟩:=hp;exact⟨e,hi⟩) (λσ H' hp=>by obtain⟨_,_,_,_,e,_⟩:=hp;exact⟨e,aO _⟩) ?_ ?_
 .rintro i x σ H7 H8 hi ⟨ρ7,A7,w_,e7,W5,W6,F7,due,s3,s4,s5,s6,rfl⟩ ⟨pp,kv,hpp,hkv,rfl,rfl⟩;unfold iI at hkv;rw[cN]at hkv;obtain⟨r,er,rfl⟩:=nH.mp hkv;have hir:i<rs.length:=by rw[<-al];exact hi
  have edr:rs.drop i=r::rs.drop (i+1):=by rw[List.drop_eq_getElem_cons hir];rw[bM hir]at er;rw[fE er]
  rw[edr]at due;have g4:=aG hpp (.tup [.str r.1,.int r.2]);have vH:=w_.mono g4;have hd8:=g4 _ _ W5;have F8:=F7.trans (Fr.of_same (ρ:=ρ7) g4);have LM:upd H7 pp (.tup [.str r.1,.int r.2]) pp=some (.tup [.str r.1,.int r.2]):=ai;show zT K 2 _ _ _ (upd H7 pp (.tup [.str r.1,.int r.2])) _;generalize upd H7 pp (.tup [.str r.1,.int r.2])=H8 at *;refine⟨pp,_,Z,dG.of LM,Z,_,_,Z,_,_,Z,Z,?_⟩;have eN:(rs.take (i+1)).foldl cT Px=cT ((rs.take i).foldl cT Px) r:=by rw[take_snoc er,BW];rfl
  have W7:((r::rs.drop (i+1)).map (λr:Row=>r.1)).Nodup:=by rw[<-edr,List.map_drop];exact nd.sublist (List.drop_sublist _ _)
  refine⟨_,Z,A.a,A7.dx,_,Z,by rw[<-e7];exact vH.h.oa,Z,_,Z,_,Z,⟨⟨n,ρ7,A7,_,r,by rw[e7];rfl,vH,due r cU,KQ w_.wf due,λρ9 A9 H9 TR e9 f9=>?_⟩⟩⟩;obtain⟨hd9,cd9⟩:=f9 d _ hd8 (λt x=>by rw[W6];intro z;cases z);rw[W6]at cd9;rw[<-eN]at TR;exact⟨ρ9,A9,TR,e9.trans e7,hd9,cd9,F8.trans f9,by rw[eN];exact Cj w_.wf due W7,_,_,_,_,Z⟩
 rintro σ H7 ⟨ρ7,A7,w_,e7,W5,W6,F7,due,s3,s4,s5,s6,rfl⟩;rw[al,cO,<-adS]at w_;exact⟨W5,q ρ7 A7 _ (w_.DH W6 W5 rfl rfl) e7 (F7.new hdn)⟩
abbrev rG:Stmt:=inClass (top 4) 2
abbrev lE:List Str:=["self","top"]
abbrev Ia:List Str:=lE.append ["rest","step","shared"]
theorem jh:aS Ia lE (aF rG):=dX
theorem Fp{T:TC}(F:iG K T.bot "over" "Bottom.over" rG f fd)(X:Txt K T)(iT:Dn P w K mg base 1 "common_factor" jT U6):Mn P w K mg base 2 T.bot "over" lE (EW T):=by
 refine F.oA jh λcdv A outer s H vs Q E hr h=>?_;obtain⟨⟨bt,db,sp,kn,stp,prod,top,rfl,hb,hs,ep,h2,hz,q⟩⟩:=h;refine⟨_,(@dg.h _ _ _ (ak (aW (i:=2) jh.nd (aI K (qv 0)))
  (ak (fG gc rfl (eW K (aI K (qv 0))) (bg (i:=3) jh.nd) (ak (aW (i:=4) jh.nd (bK iT hr (ah (qv 3) (ah (aP lz (qv 1) (qv 3)) au))))
  (aA (jR (aX j8 (qv 4) aq (bu _)) (ak (aW (i:=1) jh.nd (aP jl (qv 1) (qv 4)))
  (aA (aW (i:=2) jh.nd (aP jl (qv 2) (qv 4))))) bP))))
  (aA (bJ (iY (ah (qv 1) (ah (qv 2) au)))))))),?_⟩
 have p1:1<=prod:=by rw[ep];exact KI h2
 refine⟨_,Z,bt,T.bot,db,_,_,Z,hb,X.cB,X.GL,Z,?_⟩;refine⟨_,Z,bt,T.bot,db,_,_,Z,hb,X.cB,X.SK,Z,sp,Z,⟨_,aJ.of hs⟩,?_⟩;refine jW (K:=K) (xs:=stp.map V.int) (λi σ H'=>H'=H/\∃(t r d:Int)(s3 s4:Option V),σ=[some (.ref bt),some (.int t),some (.int r),s3,s4]/\t*prod=top*r/\r=d*(stp.drop i).foldl (·*·) 1/\0<d/\Jm.cf t d=1)
  ⟨Z,top,prod,1,none,none,Z,Z,by rw[List.drop_zero,Int.one_mul];exact ep,by decide,by unfold Jm.cf;rw[Int.gcd_one];rfl⟩ (λi σ H' _ hp=>by rw[hp.1];exact aJ.of hs) ?_ ?_
 .rintro i x σ H' hx ⟨rfl,t,r,d,s3,s4,rfl,e1,e2,d0,c⟩;obtain⟨st,rfl,es⟩:=gu hx;have hm:=cu es;have s2:=h2 st hm;have hi:=(dY.mp es).1;have hdr:stp.drop i=st::stp.drop (i+1):=by rw[List.drop_eq_getElem_cons hi];congr 1;rw[bM hi]at es;exact fE es
  rw[hdr,EY]at e2;have r0:0<=t % st:=pN _ (by omega);refine⟨_,Z,_,Z,_,Z,_,_,Z,Z,(by show 0<st;omega),st,t % st,Z,by omega,r0,?_⟩;rw[Jm.OJ t st (by omega)];obtain⟨o1,o2⟩:=SR d0 (by omega:0<st) c;have gp:0<Jm.cf t st:=Jm.J8 t st (.inr (by omega));have gz:Jm.Sz 9000 (Jm.cf t st):=((hz.of_le (by have:=WK h2 hm;rw[<-ep]at this;omega)).dvd (by omega:0<st) (by omega) (Jm.pR t st)).mono (by decide);obtain⟨u,hu⟩:=Jm.xy t st;obtain⟨v,hv⟩:=Jm.pR t st;have e3:t / Jm.cf t st*prod=top*(r / Jm.cf t st):=by
   have a1:t / Jm.cf t st=u:=by rw[Wj (by omega) hu]
   have a2:r=Jm.cf t st*(d*v*(stp.drop (i+1)).foldl (·*·) 1):=by
    rw[e2]
    conv=>lhs;rw[hv]
    rw[iy (Jm.cf t st),Int.mul_left_comm,iy d]
   have a3:r / Jm.cf t st=d*v*(stp.drop (i+1)).foldl (·*·) 1:=by rw[Wj (by omega) a2]
   rw[a1,a3];have e1':Jm.cf t st*(u*prod)=Jm.cf t st*(top*(d*v*(stp.drop (i+1)).foldl (·*·) 1)):=by
    rw[<-iy,<-hu,e1]
    conv=>lhs;rw[a2]
    rw[Int.mul_left_comm]
   exact BP (by omega) e1'
  have e4:r / Jm.cf t st=d*(st / Jm.cf t st)*(stp.drop (i+1)).foldl (·*·) 1:=by
   have a4:st / Jm.cf t st=v:=by rw[Wj (by omega) hv]
   have a2:r=Jm.cf t st*(d*v*(stp.drop (i+1)).foldl (·*·) 1):=by
    rw[e2]
    conv=>lhs;rw[hv]
    rw[iy (Jm.cf t st),Int.mul_left_comm,iy d]
   rw[a4,Wj (by omega) a2]
  refine⟨λσ' H2=>H2=H'/\σ'=[some (.ref bt),some (.int (t / Jm.cf t st)),some (.int (r / Jm.cf t st)),some (.int st),some (.int (Jm.cf t st))],?_,?_⟩
  .refine ⟨_,Z,_,_,Z,Z,_,Z,cD (λc=>?_) (λc=>?_)⟩
   .exact ⟨_,Z,_,Z,_,_,Z,Z,yC gp gz,_,Z,_,Z,_,_,Z,Z,yC gp gz,Z,Z⟩
   .have c':¬ 1<Jm.cf t st:=uP (qN.mpr c);have g1:Jm.cf t st=1:=by omega
    refine⟨Z,?_⟩;rw[g1,C0,C0];rfl
  rintro σ' H2 ⟨rfl,rfl⟩;exact⟨Z,_,_,_,_,_,Z,e3,e4,o2,o1⟩
 rintro σ H' ⟨rfl,t,r,d,s3,s4,rfl,e1,e2,d0,c⟩;rw[List.drop_of_length_le (by rw[aH];exact aO _),List.foldl_nil,uD]at e2;subst e2;refine⟨_,Z,_,Z,(iO 2),λp hp=>?_⟩;refine q p _ (aG hp _) ?_;rw[ai];obtain⟨a1,a2⟩:=Jm.Sb d0 c;have:Jm.fr top prod=Jm.fr t r:=Jm.QN (by omega) d0 e1.symm;unfold tQ;rw[this,a1,a2]
abbrev qu:Stmt:=inClass (top 4) 3
abbrev nj:List Str:=["self","top"]
abbrev Fq:List Str:=nj
theorem Ed:aS Fq nj (aF qu):=dX
theorem Ef{T:TC}(F:iG K T.bot "share" "Bottom.share" qu f fd)(X:Txt K T)(jG:Mn P w K mg base 2 T.bot "over" lE (EW T)):Mn P w K mg base 3 T.bot "share" nj (Ky T):=by
 refine F.oA Ed λcdv A outer s H vs Q E hr h=>?_;obtain⟨⟨bt,db,sp,kn,stp,prod,top,kvs,rfl,hb,hs,ep,h2,hz,hk,kat,kl,knd,q⟩⟩:=h;refine⟨_,(@dg.h _ _ _ (ak (jR (ya (AB (d9 hr) (qv 1) (aI K (qv 0)))) (aA (uN (d9 hr) (aI K (qv 0)) (qv 1) (b7 jG hr (qv 0) (ah (qv 1) au)) rfl)) bP)
  (aA (bJ (eV (d9 hr) (aI K (qv 0)) (qv 1)))))),?_⟩
 refine⟨λσ' H'=>σ'=[some (.ref bt),some (.int top)]/\(∀b o,H b=some o->b≠kn->H' b=some o)/\∃kvs' r,H' kn=some (.dK kvs')/\Kl H' kvs' prod/\kvs'.length<=kvs.length+1/\(kvs'.map (·.1)).Nodup/\dZ kvs' (Sum.inl top)=some (.ref r)/\H' r=some (tQ (Jm.fr top prod)),?_,?_⟩
 .refine ⟨_,Z,_,Z,bt,T.bot,db,_,_,Z,hb,X.cB,X.SM,Z,kn,_,Z,eY.k (k:=Sum.inl top) hk,_,Z,?_⟩;cases e:dZ kvs (Sum.inl top)with
  | some v=>refine bL ⟨Z,λb o e _=>e,kvs,?_⟩;obtain⟨t,r,e2,hr2⟩:=kat _ (Vj e);cases e2;exact⟨r,hk,kat,A_ _,knd,e,hr2⟩
  | none=>
   refine nK ?_;refine⟨_,Z,bt,db,_,Z,hb,Z,_,Z,⟨⟨bt,db,sp,kn,stp,prod,top,Z,hb,hs,ep,h2,hz,λr H1 g1 hr1=>?_⟩⟩⟩;have sl:kvs.length<sizeLine:=by rw[kP];omega
   refine⟨_,Z,bt,T.bot,db,_,_,Z,g1 _ _ hb,X.cB,X.SM,Z,_,Z,kn,_,Z,xx.k (k:=Sum.inl top) (g1 _ _ hk) sl,Z,λb o e hb=>by rw[ay hb];exact g1 _ _ e,_,r,ai,?_,?_,X0 _ knd e,by rw[US,aC rfl],by rw[ay (i8 hr1 (g1 _ _ hk) (by intro z;cases z))];exact hr1⟩
   .rw [mE _ e];intro p hp;rcases fu.mp hp with z|z
    .obtain ⟨t,r',e2,hr2⟩:=kat p z;exact⟨t,r',e2,by rw[ay (i8 (g1 _ _ hr2) (g1 _ _ hk) (by intro z;cases z))];exact g1 _ _ hr2⟩
    .rw [eX.mp z];exact⟨top,r,Z,by rw[ay (i8 hr1 (g1 _ _ hk) (by intro z;cases z))];exact hr1⟩
   .rw [mE _ e,dD];exact aO _
 rintro σ' H' ⟨rfl,k1,kvs',r,e1,e2,e3,e4,e5,e6⟩;exact⟨_,Z,bt,T.bot,db,_,_,Z,k1 _ _ hb (i8 hb hk (by intro z;cases z)),X.cB,X.SM,Z,_,Z,kn,_,Z,e5▸eY.k (k:=Sum.inl top) e1,q r H' kvs' k1 e1 e2 e3 e4 e6⟩
abbrev rH:Stmt:=inClass (top 21) 12
abbrev lF:List Str:=["self","part"]
abbrev Ib:List Str:=lF.append ["tops"]
theorem yi:aS Ib lF (aF rH):=dX
theorem Ft{T:TC}(F:iG K T.hold "shares" "Hold.shares" rH f fd)(X:Txt K T)(cS:Mn P w K mg base 1 T.hold "part_of" fk (Ce T))(fR:Mn P w K mg base 1 T.hold "tops_of" jg (Bl T))(rJ:Mn P w K mg base 3 T.bot "share" nj (Ky T))(jb:mg "zip"=none):Mn P w K mg base 4 T.hold "shares" lF (yU T):=by
 refine F.oA yi λcdv A outer s H vs Q E hr h=>?_;obtain⟨⟨n,ρ,A,st,ip,pt,rfl,hh,ep,hkn,q⟩⟩:=h;obtain⟨qq,eq,k1,k2,k3,k4⟩:=hh.h.find ep;have gq:=cu ep;refine⟨_,(@dg.h _ _ _ (ak (aW (i:=2) yi.nd (b7 fR hr (qv 0) (ah (b7 cS hr (qv 0) (ah (qv 1) au)) au)))
  (aA (bJ (DM (K0 ["owner","top","self"] [none,none,some 0] rfl (qZ K (by rfl) jb (ah (aI K (qv 0)) (ah (qv 2) au))) (λ_ _ _ _=>(iS K (n:=2) rfl (cM (bg (i:=0) (show List.Nodup (["owner","top","self"] :List Str)from by decide +kernel)) (cM (bg (i:=1) (show List.Nodup (["owner","top","self"] :List Str)from by decide +kernel)) iR)))) (λ_ _ _ _=>(iY (ah (qv 0) (ah (b7 rJ hr (aI K (qv 2)) (ah (qv 1) au)) au)))) (λ_ _ _ _=>(aX j8 (qv 1) aq (bu _))) rfl (by rfl))))))),?_⟩
 refine⟨_,Z,A.a,A.dx,_,Z,hh.h.oa,Z,_,Z,A.a,A.dx,_,Z,hh.h.oa,Z,_,Z,⟨⟨n,ρ,A,st,ip,pt,qq,Z,hh.h,hh.wf.dN,ep,eq,?_⟩⟩⟩;refine⟨⟨n,ρ,A,st,ip,pt,qq,Z,hh.h,hh.wf,ep,eq,λl H1 g1 hl hl1=>?_⟩⟩;have iu:=hh.mono g1;have cl:ρ l=none:=hh.g.none hl;have tl:(aK st pt).length=st.own.length:=by unfold aK;rw[lR,hh.wf.rows pt gq,hh.wf.gC,yv]
 have gD:=hh.wf.kh;refine⟨A.pl,_,iu.h.g_,λob=>?_⟩;have hl2:upd H1 A.pl (.fB ob (.dK (fT 0 st.own))) l=some (.lst ((aK st pt).map V.int)):=eZ iu.h.g_ hl1 (λk z=>by cases z);refine⟨_,Z,A.a,T.hold,A.dx,_,_,Z,eZ iu.h.g_ iu.h.oa (λk z=>by cases z),X.cH,X.hpl,Z,_,Z,_,_,_,_,_,_,Z,.keys ai,.lst (aJ.of hl2),λacc hacc=>?_⟩;have xg:H1 acc=none:=jq iu.h.g_ hacc;have ca:ρ acc=none:=iu.g.none xg;have Py:acc≠A.pl:=λe=>by rw[e,ai]at hacc;cases hacc
 have nal:acc≠l:=λe=>by rw[e,hl1]at xg;cases xg
 refine Ym (K:=K) (n:=st.own.length) [0,1] (λi out Hc=>∃H5,Hc=upd H5 A.pl (.fB ob (.dK (fT 0 st.own)))/\Gh ρ H5/\Fr n ρ H ρ H5/\aL T n ρ A H5 { st with kn:=st.kn+i }/\H5 l=some (.lst ((aK st pt).map V.int))/\jm H5 out (((List.zip st.own (aK st pt)).take i).filterMap λx=>if 0<x.2 then some (x.1,Jm.fr x.2 st.prod) else none))
  (by decide) (by omega) ⟨upd H1 acc (.lst []),iV (bX Py),iu.g.alloc xg,(Fr.of_same (ρ:=ρ) g1).trans (Fr.of_same (aG xg _)),iu.h.mono (aG xg _),by rw[ay (bX nal)];exact hl1,.nil⟩ ?_ ?_ ?_ ?_
 .rintro i out Hc hi ha ⟨H5,rfl,G5,F5,h5,l5,S5⟩;exact⟨ai,aJ.of (eZ h5.g_ l5 (λk z=>by cases z)),by rw[aH,pZ];exact hi,by rw[aH,tl];exact hi⟩
 .rintro out Hc ha ⟨H5,rfl,G5,F5,h5,l5,S5⟩;exact⟨ai,aJ.of (eZ h5.g_ l5 (λk z=>by cases z)),.inr (by rw[aH,tl];exact aO _)⟩
 .rintro i x out Hc H2 hi Fl ha ⟨H5,rfl,G5,F5,h5,l5,S5⟩ ⟨pp,x1,y1,hpp,rfl,rfl,e1,e2⟩;obtain⟨t,rfl,et⟩:=gu e2;rw[Cd,cN]at e1;obtain⟨o,eo,rfl⟩:=nH.mp e1;have npl:pp≠A.pl:=λe=>by rw[e,ai]at hpp;cases hpp
  have Fv:H5 pp=none:=jq h5.g_ hpp;have ez:(List.zip st.own (aK st pt))[i]?=some (o,t):=by rw[List.getElem?_zip_eq_some];exact⟨eo,et⟩
  have g6:=aG Fv (.tup [.str o,.int t]);have e6:upd (upd H5 A.pl (.fB ob (.dK (fT 0 st.own)))) pp (.tup [.str o,.int t])=upd (upd H5 pp (.tup [.str o,.int t])) A.pl (.fB ob (.dK (fT 0 st.own))):=iV (bX npl);rw[e6];have G6:=G5.same g6;have F6:=F5.trans (Fr.of_same (ρ:=ρ) g6);have h6:=h5.mono g6;have l6:=g6 _ _ l5;have S6:=S5.mono g6.tups;have t6:upd H5 pp (.tup [.str o,.int t]) pp=some (.tup [.str o,.int t]):=ai;have LR:upd H5 pp (.tup [.str o,.int t]) acc=some (.lst out):=by rw[ay Py]at ha;exact g6 _ _ ha
  generalize upd H5 pp (.tup [.str o,.int t])=H6 at *;have fz:∀{b:Addr}{u:HO},H6 b=some u->(∀k,u ≠ .dK k)->upd H6 A.pl (.fB ob (.dK (fT 0 st.own))) b=some u:=λe k=>eZ h6.g_ e k;refine⟨pp,_,Z,dG.of (fz t6 (λk z=>by cases z)),Z,_,Z,_,_,Z,Z,_,Z,?_⟩;refine cD (λc=>?_) (λc=>?_)
  .have c':0<t:=eF c;obtain⟨kvs,j1,j2,j3,j4⟩:=h6.okn;have W8:A.kn≠A.pl:=DB h6.gQ h6.gE (by intro z;cases z);refine⟨_,Z,_,Z,A.a,T.hold,A.dx,_,_,Z,fz h6.oa (λk z=>by cases z),X.cH,X.wK,Z,A.bt,A.db,_,Z,fz h6.jc (λk z=>by cases z),Z,_,Z,
    ⟨⟨A.bt,A.db,A.sp,A.kn,st.stp,st.prod,t,kvs,Z,fz h6.jc (λk z=>by cases z),fz h6.lZ (λk z=>by cases z),hh.wf.pW,hh.wf.u0,hh.wf.big,by rw[ay W8];exact j1,(λp hp=>let⟨t,r,e,w⟩:=j2 p hp;⟨t,r,e,fz w (λk z=>by cases z)⟩),JG j3 (by show st.kn+i<_;omega),j4,λr H7 kvs' b1 b2 b3 b4 b5 b6=>?_⟩⟩⟩
   have HD:H7 A.pl=some (.fB ob (.dK (fT 0 st.own))):=b1 _ _ ai (bX W8);refine⟨(iO 2),λtt W9=>?_⟩;have ntp:tt≠A.pl:=λe=>by rw[e,HD]at W9;cases W9
   have k8:∀b u,H6 b=some u->b≠A.kn->upd H7 A.pl (.dK (fT 0 st.own)) b=some u:=λb u e hb=>by
    by_cases z:b=A.pl
    .rw [z]at e ⊢;rw[show H6 A.pl=some (.dK (fT 0 st.own))from h6.g_]at e;cases e;exact ai
    .rw [ay z];exact b1 _ _ (by rw[ay z];exact e) hb
   have h8:=h6.Vk (m:=st.kn+i+1) k8 (by rw[ay W8];exact b2) (λp hp=>let⟨t,r,e,w⟩:=b3 p hp;⟨t,r,e,ig (.inr ⟨_,HD,Z⟩) _ _ w⟩) (gh b4 (Nat.succ_le_succ j3)) b5;have G8:Gh ρ (upd H7 A.pl (.dK (fT 0 st.own))):=λb cc e=>by
    by_cases z:b=A.pl
    .rw [z];exact⟨_,ai,Z⟩
    by_cases z2:b=A.kn
    .rw [z2,ay W8];exact⟨_,b2,Z⟩
    obtain⟨u,a1,a2⟩:=G6 b cc e;exact⟨u,k8 b u a1 z2,a2⟩
   have F8:Fr n ρ H6 ρ (upd H7 A.pl (.dK (fT 0 st.own))):=λb u e k=>⟨k8 b u e (λz=>k 9 ⟨#[]⟩ (by rw[z];exact h6.gQ)),Z⟩
   have tp8:∀b xs,H6 b=some (.tup xs)->upd H7 A.pl (.dK (fT 0 st.own)) b=some (.tup xs):=λb xs e=>k8 b _ e (i8 e j1 (by intro z;cases z));have ahe:upd H7 A.pl (.dK (fT 0 st.own)) tt=none:=by rw[ay ntp];exact W9
   have back:H7=upd (upd H7 A.pl (.dK (fT 0 st.own))) A.pl (.fB ob (.dK (fT 0 st.own))):=by rw[lH,qS HD]
   have hr8:upd H7 A.pl (.dK (fT 0 st.own)) r=some (tQ (Jm.fr t st.prod)):=ig (.inr ⟨_,HD,Z⟩) _ _ b6;have l8:=k8 _ _ l6 (λz=>by rw[z,j1]at l6;cases l6);have LP:=k8 _ _ LR (λz=>by rw[z,j1]at LR;cases LR);have S8:=S6.mono tp8;have F08:=F6.trans F8;rw[back]at W9 ⊢;generalize upd H7 A.pl (.dK (fT 0 st.own))=H8 at *;have g9:=aG ahe (.tup [.str o,.ref r]);rw[iV (bX ntp)];refine⟨by rw[ay Py];exact g9 _ _ LP,_,iV (bX Py),(G8.same g9).wr rfl,(F08.trans (Fr.of_same (ρ:=ρ) g9)).new (g1.free xg),?_,?_,?_⟩
   .exact (h8.mono g9).same (sW ca (g9 _ _ LP) rfl)
   .rw [ay (bX nal)];exact g9 _ _ l8
   .rw [take_snoc ez,List.filterMap_append,BU];simp only[c',m7,List.filterMap_nil];exact((S8.mono g9.tups).snoc ai (g9 _ _ hr8)).mono (ig (.inr ⟨_,g9 _ _ LP,Z⟩))
  .have c':¬ 0<t:=uP (qN.mpr c);refine⟨by rw[ay Py];exact LR,H6,Z,G6,F6,?_,l6,?_⟩
   .obtain ⟨kvs,j1,j2,j3,j4⟩:=h6.okn;exact h6.Vk (m:=st.kn+i+1) (λb u e _=>e) j1 j2 (Nat.le_succ_of_le j3) j4
   .rw [take_snoc ez,List.filterMap_append,BU];simp only[c',m5,List.filterMap_nil,CT];exact S6
 .rintro out Hc Fl ha ⟨H5,rfl,G5,F5,h5,l5,S5⟩;rw[JC (by rw[List.length_zip,tl];omega)]at S5;refine⟨ai,?_⟩;rw[lH,qS (show H5 A.pl=some (.dK (fT 0 st.own))from h5.g_)];rw[ay Py]at ha;obtain⟨kvs,j1,j2,j3,j4⟩:=h5.okn;have h9:=h5.Vk (m:=st.kn+100) (λb u e _=>e) j1 j2 (gh j3 (by show st.kn+st.own.length<=st.kn+100;omega)) j4;exact q acc out H5 ⟨G5,h9,Q3 hh.wf hkn⟩ F5 (g1.free xg) ha ca S5
abbrev uc:Stmt:=inClass (top 21) 4
abbrev qw:List Str:=["self","owner","amount"]
abbrev LU:List Str:=qw.append ["place","whole","added"]
theorem ou:aS LU qw (aF uc):=dX
theorem Fw{T:TC}{e:Ec}(F:iG K T.hold "award" "Hold.award" uc f fd)(X:Txt K T)(cY:Mn P w K mg base 1 T.hold "place_of" fY (sN (yQ T e)))(jf:Dn P w K mg base 1 "check_amount" je (sN (AD e)))(gZ:Mn P w K mg base 1 T.hold "whole" kC (Bm T))(kF:Mn P w K mg base 3 T.hold "blend" mU (EZ T K))(cE:mg "len"=none):Mn P w K mg base 4 T.hold "award" qw (sN (K7 T e)):=by
 refine F.oA ou λcdv A outer s H vs Q E hr h=>?_;obtain⟨⟨n,ρ,A,st,o,a,rfl,hh,aw,dq⟩⟩:=h;refine⟨_,(@dg.h _ _ _ (ak (aW (i:=3) ou.nd (b7 cY hr (qv 0) (ah (qv 1) au)))
  (ak (b_ (bK jf hr (ah (qv 2) au)))
  (ak (aW (i:=4) ou.nd (kq gZ hr (qv 0)))
  (ak (cX (aX Jr (qv 2) (qv 4) (bu _)) (aA gr) bP)
  (ak (aW (i:=5) ou.nd (aP R6 (iK (ah aq au)) (bZ wH (by rfl) cE gf (ah (aI K (qv 0)) au))))
  (ak (nR (aP iF (qv 2) (aI K (aI K (qv 0)))) (nS (qv 5) (qv 3) set_list))
  (aA (b_ (b7 kF hr (qv 0) (ah (aP mD (qv 4) (qv 2)) (ah (qv 4) (ah (qv 5) au))))))))))))),?_⟩
 have wf:=hh.wf;refine⟨_,Z,A.a,A.dx,_,Z,hh.h.oa,Z,_,Z,⟨⟨n,ρ,A,st,o,Z,hh.h,λho=>dq.no 2 (by unfold jQ;exact aB ho),λho=>?_⟩⟩⟩;refine⟨_,Z,⟨⟨a,Z,λh5=>dq.no 5 (by unfold jQ;rw[aC ho,aC h5]),λh1=>?_⟩⟩⟩;refine⟨_,Z,A.a,A.dx,_,Z,hh.h.oa,Z,⟨⟨n,ρ,A,st,Z,hh.h,wf.mH,λH1 g1=>?_⟩⟩⟩;refine⟨_,Z,_,Z,_,_,Z,Z,_,Z,cD (λc=>?_) (λc=>?_)⟩
 .have c':aE st<=a:=eF c;exact dq.no 6 (by unfold jQ;rw[aC ho,aB (show ¬ a<1 by omega),aC c']) 0 H1 g1
 have c':¬ aE st<=a:=uP (qN.mpr c);have q:=dq.ok (by unfold jQ;rw[aC ho,aB (show ¬ a<1 by omega),aB c']);have iu:=hh.mono g1;have F1:Fr n ρ H ρ H1:=Fr.of_same g1;clear hh;refine⟨(iO 1),λp0 hp0=>?_⟩;have g2:=aG hp0 (.lst [.int 0]);have nE:=iu.mono g2;have F2:=F1.trans (Fr.of_same (ρ:=ρ) g2);have VU:upd H1 p0 (.lst [.int 0]) p0=some (.lst [.int 0]):=ai;generalize upd H1 p0 (.lst [.int 0])=H2 at *;clear iu F1;have BK:=pZ st.own 0;have gD:=nE.wf.kh;refine⟨_,Z,A.a,T.hold,A.dx,_,_,Z,nE.h.oa,X.cH,X.hpl,Z,A.pl,_,Z,nE.h.g_,p0,_,_,Z,Z,VU,by omega,by rw[BK];omega,by rw[BK];show 1*_<=_;rw[tL,Nat.one_mul];exact small (by omega),λp1 hp1=>?_⟩;rw[BK,tL,show(List.replicate st.own.length [V.int 0]).flatten=(List.replicate st.own.length (0:Int)).map V.int from by rw[List.map_replicate,List.flatten_replicate_singleton]];have g3:=aG hp1 (.lst ((List.replicate st.own.length (0:Int)).map V.int));have l9:=nE.mono g3;have F3:=F2.trans (Fr.of_same (ρ:=ρ) g3);have n1:H p1=none:=(g1.trans g2).free hp1;have c1:ρ p1=none:=nE.g.none hp1;have AR:upd H2 p1 (.lst ((List.replicate st.own.length (0:Int)).map V.int)) p1=_:=ai;generalize upd H2 p1 (.lst ((List.replicate st.own.length (0:Int)).map V.int))=H3 at *;have hi:=List.idxOf_lt_length_iff.mpr ho;have bo:=aw.blend (o:=o) wf h1 (by omega);have za:QA a st.prod:=.inl (by have:(aE st).natAbs<2 ^ 60:=aw.big;omega);refine⟨_,Z,_,Z,A.a,T.hold,A.dx,_,_,Z,l9.h.oa,X.cH,X.wK,Z,A.bt,T.bot,A.db,_,_,Z,l9.h.jc,X.cB,X.GL,Z,_,_,Z,Z,za,_,Z,_,Z,p1,_,_,st.own.idxOf o,Z,Z,AR,by rw[aH,jV];exact xZ hi,?_⟩;rw[show((List.replicate st.own.length (0:Int)).map V.int).set (st.own.idxOf o) (V.int (a*st.prod))=(jX st o a).map V.int from by unfold jX;rw[uC]];have nF:=l9.DH (o:=.lst ((jX st o a).map V.int)) c1 AR rfl rfl;have F4:=F3.new (o:=.lst ((jX st o a).map V.int)) n1;have VW:upd H3 p1 (.lst ((jX st o a).map V.int)) p1=_:=ai;generalize upd H3 p1 (.lst ((jX st o a).map V.int))=H4 at *;have zk:Jm.Sz 60 (aE st-a):=bo.big.of_le (by omega);have zG:∀m∈jX st o a,0<=m/\Jm.Sz 8900 m:=λm hm=>by have DE:=bo.add m hm;have h2:=wf.eE;have zl:Jm.Sz 60 a:=bo.big.of_le (by omega);exact⟨DE.1,Jm.Sz.pS (by have:=rQ bo.l (show 0<=st.prod by omega);omega) DE.2 ((zl.mul bo.prod).mono (by decide))⟩
 exact⟨_,Z,A.a,A.dx,_,Z,nF.h.oa,Z,_,Z,_,Z,_,_,Z,Z,_,Z,_,Z,⟨⟨n,ρ,A,st,aE st-a,aE st,p1,jX st o a,Z,nF,aJ.of VW,bo.len,bo.k,by omega,zk,bo.big,zG,aw.bF,aw.stp,u_ wf bo,λρ6 A6 H6 w6 e6 f6=>q ρ6 A6 H6 w6 e6 (F4.trans f6)⟩⟩⟩
abbrev rK:Stmt:=inClass (top 21) 5
abbrev oz:List Str:=["self","part","amount"]
abbrev Ic:List Str:=oz
theorem Fx:aS Ic oz (aF rK):=dX
theorem Eg{T:TC}{e:Ec}(F:iG K T.hold "mishap" "Hold.mishap" rK f fd)(X:Txt K T)(cS:Mn P w K mg base 1 T.hold "part_of" fk (sN (mK T e)))(mV:Dn P w K mg base 2 "check_loss" mT (sN (K6 e)))(jF:Mn P w K mg base 1 T.hold "lessen" lD (KL T)):Mn P w K mg base 3 T.hold "mishap" oz (sN (Hg T e)):=by
 refine F.oA Fx λcdv A outer s H vs Q E hr h=>?_;obtain⟨⟨n,ρ,A,st,x,a,rfl,hh,dq⟩⟩:=h;refine⟨_,(@dg.h _ _ _ (ak (b_ (bK mV hr (ah (aI K (b7 cS hr (qv 0) (ah (qv 1) au))) (ah (qv 2) au))))
  (aA (b_ (b7 jF hr (qv 0) (ah (qv 1) (ah (qv 2) au))))))),?_⟩
 refine⟨_,Z,A.a,A.dx,_,Z,hh.h.oa,Z,_,Z,⟨⟨n,ρ,A,st,x,Z,hh.h,hh.wf.dN,λhn=>dq.no 3 ?_,λi p qq e1 e2 e3=>?_⟩⟩⟩
 .unfold iW;rw[aB (λz=>?_)];obtain⟨j,p,h1,h2⟩:=jy z;exact hn p (cu h1) h2
 obtain⟨k1,_⟩:=hh.h.opt i p qq e2 e3;have hm:x∈d_ st:=by rw[<-e1];exact Bq e2
 have gq:=cu e2;have ew:(bH st x).wo=p.wo:=by rw[bQ hh.wf gq e1]
 refine⟨qq.1,T.part,qq.2.1,_,_,Z,k1,X.cP,X.uZ,Z,_,Z,⟨⟨p.wo,a,Z,λh5=>dq.no 5 ?_,λh1 h6=>dq.no 6 ?_,λh1 h2=>?_⟩⟩⟩
 .unfold iW;rw[aC hm,aC h5]
 .unfold iW;rw[aC hm,aB (show ¬ a<1 by omega)];show(if(bH st x).wo<a then _ else _)=_;rw[ew,aC h6]
 have ho:=dq.ok (by unfold iW;rw[aC hm,aB (show ¬ a<1 by omega)];show(if(bH st x).wo<a then _ else _)=_;rw[ew,aB (by omega)]);exact⟨_,Z,A.a,A.dx,_,Z,hh.h.oa,Z,_,Z,_,Z,⟨⟨n,ρ,A,st,(x,a),Z,hh,⟨p,gq,e1,h2⟩,E1 hh.wf (λp' dO e'=>by rw[uL hh.wf dO gq (e'.trans e1.symm)];exact h2),ho⟩⟩⟩
abbrev vI:Stmt:=inClass (top 21) 6
abbrev sf:List Str:=["self","part","amount"]
abbrev Nv:List Str:=sf.append ["risen"]
theorem AU:aS Nv sf (aF vI):=dX
theorem Ie{T:TC}{e:Ec}(F:iG K T.hold "rise" "Hold.rise" vI f fd)(X:Txt K T)(cS:Mn P w K mg base 1 T.hold "part_of" fk (sN (mK T e)))(jf:Dn P w K mg base 1 "check_amount" je (sN (AD e))):Mn P w K mg base 2 T.hold "rise" sf (sN (O4 T e)):=by
 refine F.oA AU λcdv A outer s H vs Q E hr h=>?_;obtain⟨⟨n,ρ,A,st,x,a,rfl,hh,dq⟩⟩:=h;refine⟨_,(@dg.h _ _ _ (ak (aW (i:=3) AU.nd (b7 cS hr (qv 0) (ah (qv 1) au)))
  (ak (b_ (bK jf hr (ah (qv 2) au)))
  (aA (qc K (qv 3) (qv 2) ZH))))),?_⟩
 refine⟨_,Z,A.a,A.dx,_,Z,hh.h.oa,Z,_,Z,⟨⟨n,ρ,A,st,x,Z,hh.h,hh.wf.dN,λhn=>dq.no 3 ?_,λi p qq e1 e2 e3=>?_⟩⟩⟩
 .unfold kX;rw[aB (λz=>?_)];obtain⟨j,p,h1,h2⟩:=jy z;exact hn p (cu h1) h2
 subst e1;obtain⟨k1,k2,k3,k4⟩:=hh.h.opt i p qq e2 e3;have hm:=Bq e2;refine⟨_,Z,⟨⟨a,Z,λh5=>dq.no 5 ?_,λh1=>?_⟩⟩⟩
 .unfold kX;rw[aC hm,aC h5]
 have ho:=dq.ok (by unfold kX;rw[aC hm,aB (show ¬ a<1 by omega)]);refine⟨_,Z,qq.1,T.part,qq.2.1,_,_,Z,k1,X.cP,X.uZ,Z,_,Z,_,_,Z,Z,qq.2.1,_,k1,by show 6<1000;decide,?_⟩;have DE:=hh.h.jn (p1:={ p with wo:=p.wo+a }) hh.g e2 e3 rfl rfl hh.wf.dN;have hw:Wf (Jw st p.nm a):=AE hh.wf λq hq _=>⟨Z,Z,Z,Z,by have:=(hh.wf.jI q hq).1;show 1<=q.wo+a;omega,(hh.wf.jI q hq).2⟩
 have es:Jw st p.nm a={ st with aj:=st.aj.set i { p with wo:=p.wo+a } }:=rm hh.wf.dN e2 _;rw[es]at ho hw;exact ho ρ A _ ⟨hh.g.wr rfl,DE,hw⟩ rfl (Fr.write k3)
abbrev vJ:Stmt:=inClass (top 21) 7
abbrev sj:List Str:=["self","part","taker"]
abbrev Ny:List Str:=sj.append ["handed","to","at","tops"]
theorem mW:aS Ny sj (aF vJ):=dX
theorem Ig{T:TC}{e:Ec}(F:iG K T.hold "hand" "Hold.hand" vJ f fd)(X:Txt K T)(cS:Mn P w K mg base 1 T.hold "part_of" fk (sN (mK T e)))(cY:Mn P w K mg base 1 T.hold "place_of" fY (sN (yQ T e)))(fR:Mn P w K mg base 1 T.hold "tops_of" jg (Bl T))(fQ:Mn P w K mg base 1 T.hold "beyond_common" gY (Q2 T K)):Mn P w K mg base 2 T.hold "hand" sj (sN (O5 T e)):=by
 refine F.oA mW λcdv A outer s H vs Q E hr h=>?_;obtain⟨⟨n,ρ,A,st,x,o,rfl,hh,hs,dq⟩⟩:=h;refine⟨_,(@dg.h _ _ _ (ak (aW (i:=3) mW.nd (b7 cS hr (qv 0) (ah (qv 1) au)))
  (ak (aW (i:=4) mW.nd (b7 cY hr (qv 0) (ah (qv 2) au)))
  (ak (aW (i:=5) mW.nd (b7 cY hr (qv 0) (ah (aI K (qv 3)) au)))
  (ak (cX (aX eO (qv 4) (qv 5) (bu _)) (aA YF) bP)
  (ak (aW (i:=6) mW.nd (b7 fR hr (qv 0) (ah (qv 3) au)))
  (ak (O2 (qv 6) (qv 4) Lc (aU (d7 K) (qv 6) (qv 5)) Zs set_list)
  (ak (nR aq (nS (qv 6) (qv 5) set_list))
  (ak (cR K (qv 3) (qv 2))
  (ak (cR K (qv 3) aq)
  (aA (cR K (qv 3) (b7 fQ hr (qv 0) (ah (qv 6) au)))))))))))))),?_⟩
 have wf:=hh.wf;refine⟨_,Z,A.a,A.dx,_,Z,hh.h.oa,Z,_,Z,⟨⟨n,ρ,A,st,x,Z,hh.h,wf.dN,λhn=>dq.no 3 ?_,λi p qq e1 e2 e3=>?_⟩⟩⟩
 .unfold jx;rw[aB (λz=>?_)];obtain⟨j,p,h1,h2⟩:=jy z;exact hn p (cu h1) h2
 have gq:=cu e2;have eg:bH st x=p:=bQ wf gq e1;subst e1;have hm:=Bq e2;refine⟨_,Z,A.a,A.dx,_,Z,hh.h.oa,Z,_,Z,⟨⟨n,ρ,A,st,o,Z,hh.h,λho=>dq.no 2 (by unfold jx;rw[aC hm,aB ho]),λho=>?_⟩⟩⟩;have eR:jx st p.nm o=none:=by unfold jx;rw[aC hm,aC ho]
 have q:=dq.ok eR;have wS:=O6 wf eR hs;obtain⟨k1,k2,k3,k4⟩:=hh.h.opt i p qq e2 e3;have W_:=wf.ow p gq;refine⟨_,Z,A.a,A.dx,_,Z,hh.h.oa,Z,_,Z,qq.1,T.part,qq.2.1,_,_,Z,k1,X.cP,X.pow,Z,⟨⟨n,ρ,A,st,p.ow,Z,hh.h,λz=>absurd W_ z,λ_=>?_⟩⟩⟩;refine⟨_,Z,_,Z,Z,_,Z,cD (λc=>?_) (λc=>?_)⟩
 .have c':st.own.idxOf o=st.own.idxOf p.ow:=by have:=V.int.inj (eF c);omega
  unfold fj at q;rw[eg,aC c']at q;exact q ρ A H hh rfl Fr.refl
 have ne:st.own.idxOf o≠st.own.idxOf p.ow:=λz=>c (br (by rw[z]));have hl:=wX wf gq;have ha:st.own.idxOf p.ow<(aK st p).length:=by rw[hl];exact v7 W_
 have hb:st.own.idxOf o<(aK st p).length:=by rw[hl];exact v7 ho
 have at':∀{l:List Int}{j:Nat},j<l.length->sP (l.map V.int) (j:Int)=some (.int (l.getD j 0)):=λ{l j} h=>aM (by rw[cN,lu,bM h];rfl);unfold fj at q wS;rw[eg,aB ne,rm wf.dN e2]at q wS;generalize hTT:ng st p o=TT at *;rw[rA]at hTT;refine⟨_,Z,A.a,A.dx,_,Z,hh.h.oa,Z,_,Z,⟨⟨n,ρ,A,st,i,p,qq,Z,hh.h,wf,e2,e3,λl H1 g1 qm hl1=>?_⟩⟩⟩;have cl:ρ l=none:=hh.g.none qm;refine⟨_,Z,_,Z,l,_,_,_,Z,Z,aJ.of hl1,at' hb,_,Z,_,Z,l,_,_,_,Z,Z,aJ.of hl1,at' ha,_,_,Z,Z,l,_,_,st.own.idxOf o,Z,Z,hl1,by rw[aH];exact xZ hb,?_⟩;have m1:(List.map V.int (aK st p)).set (st.own.idxOf o) (.int ((aK st p).getD (st.own.idxOf o) 0+(aK st p).getD (st.own.idxOf p.ow) 0))=((aK st p).set (st.own.idxOf o) ((aK st p).getD (st.own.idxOf o) 0+(aK st p).getD (st.own.idxOf p.ow) 0)).map V.int:=uC.symm;rw[m1];refine⟨_,Z,_,Z,l,_,_,st.own.idxOf p.ow,Z,Z,ai,by rw[aH,iw];exact xZ ha,?_⟩;have m2:(((aK st p).set (st.own.idxOf o) ((aK st p).getD (st.own.idxOf o) 0+(aK st p).getD (st.own.idxOf p.ow) 0)).map V.int).set (st.own.idxOf p.ow) (.int 0)=TT.map V.int:=by rw[<-hTT];exact uC.symm
 rw[m2,lH];have g3:aR H (upd H1 l (.lst (TT.map V.int))):=g1.dI qm _;have hl3:upd H1 l (.lst (TT.map V.int)) l=some (.lst (TT.map V.int)):=ai;generalize upd H1 l (.lst (TT.map V.int))=H3 at *;have l9:=hh.mono g3;have c3:=g3 _ _ k1;have hi:i<st.aj.length:=(dY.mp e2).1;have tl:TT.length=st.own.length:=by rw[<-hTT,E5,hl]
 clear hl1 g1 m1 m2;refine⟨_,Z,_,Z,qq.1,T.part,qq.2.1,_,Z,c3,X.cP,X.pow,by show 6<1000;decide,?_⟩;have hA:=l9.h.jn (p1:={ p with ow:=o }) l9.g e2 e3 rfl rfl wf.dN;have gA:Gh ρ (upd H3 qq.1 (.ins T.part qq.2.1 (c9 { p with ow:=o } qq.2.2))):=l9.g.wr rfl;have FA:Fr n ρ H ρ (upd H3 qq.1 (.ins T.part qq.2.1 (c9 { p with ow:=o } qq.2.2))):=(Fr.of_same g3).trans (Fr.write k3);have kA:upd H3 qq.1 (.ins T.part qq.2.1 (c9 { p with ow:=o } qq.2.2)) qq.1=some (.ins T.part qq.2.1 (c9 { p with ow:=o } qq.2.2)):=ai;have nA:∀b,upd H3 qq.1 (.ins T.part qq.2.1 (c9 { p with ow:=o } qq.2.2)) b=none->H b=none:=λb h=>g3.free (gU h);have lA:upd H3 qq.1 (.ins T.part qq.2.1 (c9 { p with ow:=o } qq.2.2)) l=some (.lst (TT.map V.int)):=by rw[ay (λz=>by rw[z,k3]at cl;cases cl)];exact hl3
 show i9 _ _ _ _ (upd H3 qq.1 (.ins T.part qq.2.1 (c9 { p with ow:=o } qq.2.2)));generalize upd H3 qq.1 (.ins T.part qq.2.1 (c9 { p with ow:=o } qq.2.2))=H4 at *;refine⟨_,Z,qq.1,T.part,qq.2.1,_,Z,kA,X.cP,X.GK,by show 6<1000;decide,?_⟩;have ndA:((st.aj.set i { p with ow:=o }).map (·.nm)).Nodup:=by rw[uC,sX (by rw[cN,e2];rfl)];exact wf.dN
 have hB:=hA.jn (i:=i) (p1:={ p with ow:=o,sc:=1 }) gA (qM hi) e3 rfl rfl ndA;have gB:Gh ρ (upd H4 qq.1 (.ins T.part qq.2.1 (c9 { p with ow:=o,sc:=1 } qq.2.2))):=gA.wr rfl;have FB:Fr n ρ H ρ (upd H4 qq.1 (.ins T.part qq.2.1 (c9 { p with ow:=o,sc:=1 } qq.2.2))):=FA.trans (Fr.write k3);have kB:upd H4 qq.1 (.ins T.part qq.2.1 (c9 { p with ow:=o,sc:=1 } qq.2.2)) qq.1=some (.ins T.part qq.2.1 (c9 { p with ow:=o,sc:=1 } qq.2.2)):=ai;have lB:upd H4 qq.1 (.ins T.part qq.2.1 (c9 { p with ow:=o,sc:=1 } qq.2.2)) l=some (.lst (TT.map V.int)):=by rw[ay (λz=>by rw[z,k3]at cl;cases cl)];exact lA
 have nB:∀b,upd H4 qq.1 (.ins T.part qq.2.1 (c9 { p with ow:=o,sc:=1 } qq.2.2)) b=none->H b=none:=λb h=>nA b (gU h);have Xa:(st.aj.set i { p with ow:=o }).set i { p with ow:=o,sc:=1 }=st.aj.set i { p with ow:=o,sc:=1 }:=wm ..;have hB:aL T n ρ A (upd H4 qq.1 (.ins T.part qq.2.1 (c9 { p with ow:=o,sc:=1 } qq.2.2))) { st with aj:=st.aj.set i { p with ow:=o,sc:=1 } }:=by rw[<-Xa];exact hB
 generalize hH5:upd H4 qq.1 (HO.ins T.part qq.2.1 (aZ _ _ _))=H5;have ahf:upd H4 qq.1 (.ins T.part qq.2.1 (c9 { p with ow:=o,sc:=1 } qq.2.2))=H5:=hH5;rw[ahf]at hB gB FB kB lB nB;clear hA gA FA kA nA lA;have ol:=wf.kh;refine⟨_,Z,A.a,A.dx,_,Z,hB.oa,Z,_,Z,⟨⟨n,ρ,A,_,l,TT,Z,hB,aJ.of lB,by show _=st.bD.length;rw[tl,wf.gC],by omega,λr H6 g6 hr0 hr1=>?_⟩⟩⟩;have cr:ρ r=none:=gB.none hr0;have h6:=hB.mono g6;have G6:=gB.same g6;have F6:Fr n ρ H (c8 ρ r (n,21,p.nm)) H6:=(FB.trans (Fr.of_same (ρ:=ρ) g6)).oV (nB _ hr0);have hC:aL T n (c8 ρ r (n,21,p.nm)) A H6 _:=h6.same ⟨λ_ _ e=>e,λb u x w _ hc he=>⟨he,by rw[bB (λz=>by rw[z,cr]at hc;cases hc)];exact hc⟩⟩;have GC:Gh (c8 ρ r (n,21,p.nm)) H6:=G6.color hr1 rfl;have ndB:((st.aj.set i { p with ow:=o,sc:=1 }).map (·.nm)).Nodup:=by rw[uC,sX (by rw[cN,e2];rfl)];exact wf.dN
 have hD:=hC.Vu (p1:={ p with ow:=o,sc:=1,row:=lU st TT }) GC (qM hi) e3 rfl cC hr1 ndB;refine⟨_,Z,qq.1,T.part,qq.2.1,_,Z,g6 _ _ kB,X.cP,X.Ko,by show 6<1000;decide,?_⟩;refine q _ { A with qs:=A.qs.set i (qq.1,qq.2.1,r) } _ ⟨GC.wr rfl,?_,wS⟩ rfl (F6.trans (Fr.write (t:=20) (x:=p.nm) (by rw[bB (λz=>by rw[<-z,k3]at cr;cases cr)];exact k3)));have eS2:(st.aj.set i { p with ow:=o,sc:=1 }).set i { p with ow:=o,sc:=1,row:=lU st TT }=st.aj.set i { p with ow:=o,sc:=1,row:=lU st TT }:=wm ..;rw[<-eS2];exact hD
abbrev vK:Stmt:=inClass (top 21) 8
abbrev sr:List Str:=["self","part"]
abbrev Nz:List Str:=sr.append ["leaving","gains"]
theorem vL:aS Nz sr (aF vK):=dX
theorem Ih{T:TC}{e:Ec}(F:iG K T.hold "land" "Hold.land" vK f fd)(X:Txt K T)(cS:Mn P w K mg base 1 T.hold "part_of" fk (sN (mK T e)))(cY:Mn P w K mg base 1 T.hold "place_of" fY (Bk T))(fR:Mn P w K mg base 1 T.hold "tops_of" jg (Bl T))(ud:Mn P w K mg base 4 T.hold "shares" lF (yU T))(jb:mg "zip"=none):Mn P w K mg base 5 T.hold "land" sr (sN (O8 T e)):=by
 refine F.oA vL λcdv A outer s H vs Q E hr h=>?_;obtain⟨⟨n,ρ,A,st,x,rfl,hh,ld,dq⟩⟩:=h;refine⟨_,(@dg.h _ _ _ (ak (aW (i:=2) vL.nd (b7 cS hr (qv 0) (ah (qv 1) au)))
  (ak (b_ (kY oM oJ oK eU (aI K (qv 0)) (ah (iY (ah (aI K (qv 2)) (ah (aI K (qv 2)) (ah (aI K (qv 2)) (ah (b7 ud hr (qv 0) (ah (qv 1) au)) au))))) au)))
  (ak (q_ (i:=3) ["purse","top","leaving"] [none,none,some 2] vL.nd rfl rfl rfl (qZ K (by rfl) jb (ah (aI K (qv 0)) (ah (b7 fR hr (qv 0) (ah (qv 2) au)) au))) (λ_ _ _ _=>(iS K (n:=2) rfl (cM (bg (i:=0) (show List.Nodup (["purse","top","leaving"] :List Str)from by decide +kernel)) (cM (bg (i:=1) (show List.Nodup (["purse","top","leaving"] :List Str)from by decide +kernel)) iR)))) (λ_ _ _ _=>(aP c7 (qv 0) (aP iF (aI K (qv 2)) (qv 1)))) rfl (by rfl) (by rfl))
  (ak (O2 (qv 3) (b7 cY hr (qv 0) (ah (aI K (qv 2)) au)) Lc (aP iF (aI K (qv 2)) (aI K (aI K (qv 0)))) Zt set_list)
  (ak (cR K (qv 0) (qv 3))
  (aA (O3 (aI K (qv 0)) (qv 1))))))))),?_⟩
 refine⟨_,Z,A.a,A.dx,_,Z,hh.h.oa,Z,_,Z,⟨⟨n,ρ,A,st,x,Z,hh.h,hh.wf.dN,λhn=>dq.no 3 ?_,λi p qq e1 e2 e3=>?_⟩⟩⟩
 .unfold qa;rw[aB (λz=>?_)];obtain⟨j,p,h1,h2⟩:=jy z;exact hn p (cu h1) h2
 subst e1;have wf:=hh.wf;have gq:=cu e2;have eR:qa st p.nm=none:=aC (Bq e2);have q:=dq.ok eR;have wS:=O_ wf eR ld;rw[oX wf gq]at q wS;obtain⟨k1,k2,k3,k4⟩:=hh.h.opt i p qq e2 e3;obtain⟨SI,hv0,hA0⟩:=hh.h.nt;refine⟨_,Z,A.a,T.hold,A.dx,_,_,Z,hh.h.oa,X.cH,X.has,Z,.inl ⟨Z,_,aJ.of hv0⟩,_,Z,qq.1,T.part,qq.2.1,_,_,Z,k1,X.cP,X.OQ,Z,_,Z,qq.1,T.part,qq.2.1,_,_,Z,k1,X.cP,X.pow,Z,_,Z,qq.1,T.part,qq.2.1,_,_,Z,k1,X.cP,X.uZ,Z,_,Z,A.a,A.dx,_,Z,hh.h.oa,Z,_,Z,⟨⟨n,ρ,A,st,i,p,Z,hh,e2,ld.kn,λr ws H1 iu F1 hr0 hr1 cr1 sh1=>?_⟩⟩⟩;have hi:i<st.aj.length:=(dY.mp e2).1;refine⟨(iO 4),λt ht=>?_⟩;have g2:=aG ht (.tup [.str p.nm,.str p.ow,.int p.wo,.ref r]);have fr1:∀b,H1 b=none->H b=none:=λb hb=>F1.adJ iu.g hb;have fr2:∀b,upd H1 t (.tup [.str p.nm,.str p.ow,.int p.wo,.ref r]) b=none->H b=none:=λb hb=>fr1 b (gU hb);have nE:=iu.mono g2;have F2:=F1.trans (Fr.of_same (ρ:=ρ) g2);have hr2:=g2 _ _ hr1;have sh2:=sh1.mono g2.tups;have ht2:upd H1 t (.tup [.str p.nm,.str p.ow,.int p.wo,.ref r]) t=some (.tup [.str p.nm,.str p.ow,.int p.wo,.ref r]):=ai;show xw _ (upd H1 t (.tup [.str p.nm,.str p.ow,.int p.wo,.ref r])) _;generalize upd H1 t (.tup [.str p.nm,.str p.ow,.int p.wo,.ref r])=H2 at *;clear g2 sh1 hr1 F1;have cH:aL T n (c8 ρ r (n,30,⟨#[]⟩)) A H2 { st with kn:=st.kn+100 }:=nE.h.same ⟨λ_ _ e=>e,λb u x w _ hc he=>⟨he,by rw[bB (λz=>by rw[z,cr1]at hc;cases hc)];exact hc⟩⟩;have cG:Gh (c8 ρ r (n,30,⟨#[]⟩)) H2:=nE.g.color hr2 rfl;have cF:Fr n ρ H (c8 ρ r (n,30,⟨#[]⟩)) H2:=F2.oV hr0;have cr2:c8 ρ r (n,30,⟨#[]⟩) r=some (n,30,⟨#[]⟩):=cC;generalize c8 ρ r (n,30,⟨#[]⟩)=ρ2 at *;clear nE F2;obtain⟨HE,hv2,hA2⟩:=cH.nt;have hal:HE.length<1000:=by rw[show HE.length=st.bN.length from hA2.length];exact ld.bN
 refine⟨A.as,HE,_,Z,Z,hv2,dH (by omega),?_⟩;have h3:aL T n ρ2 A (upd H2 A.as (.lst (HE++[.ref t]))) { st with bN:=st.bN++[⟨p.nm,p.ow,p.wo,gR st p⟩],kn:=st.kn+100 }:=cH.aaq (x:=⟨p.nm,p.ow,p.wo,gR st p⟩) cG hv2 ht2 hr2 cr2 sh2;have G3:=cG.wr (a:=A.as) (o:=.lst (HE++[.ref t])) rfl;have F3:=cF.trans (Fr.write (o:=.lst (HE++[.ref t])) cH.gJ);have WR:∀b,upd H2 A.as (.lst (HE++[.ref t])) b=none->H b=none:=λb hb=>fr2 b (gU hb);have wf3:Wf { st with bN:=st.bN++[⟨p.nm,p.ow,p.wo,gR st p⟩],kn:=st.kn+100 }:={ wf with u6:=wS.u6,GN:=wS.GN }
 generalize upd H2 A.as (.lst (HE++[.ref t]))=H3 at *;clear cH cG cF hv2 hA2 ht2 hr2 sh2;obtain⟨j1,j2,_,_⟩:=h3.opt i p qq e2 e3;refine⟨_,Z,A.a,T.hold,A.dx,_,_,Z,h3.oa,X.cH,X.zC,Z,_,Z,A.a,A.dx,_,Z,h3.oa,Z,_,Z,⟨⟨n,ρ2,A,_,i,p,qq,Z,h3,wf3,e2,e3,λl H4 g4 qm hl1=>?_⟩⟩⟩;have hl1:H4 l=some (.lst ((aK st p).map V.int)):=hl1;have tl:=wX wf gq;have gD:=wf.kh;have mG:=wf.mG;have j4:=g4 _ _ j1;have zw:=ld.wo p gq;refine⟨_,_,_,_,_,_,Z,.lst (aJ.of (g4 _ _ h3.jA)),.lst (aJ.of hl1),λacc hacc=>?_⟩;refine x8 (K:=K) (n:=st.bF.length) [0,1] (λi out H5=>aR H4 H5/\out=(List.zipWith (λu t=>u+p.wo*t) (st.bF.take i) ((aK st p).take i)).map V.int) (by decide) (by omega) ⟨aG hacc _,Z⟩ (λi out H5 hi _ hp=>⟨aJ.of (hp.1 _ _ (g4 _ _ h3.jA)),aJ.of (hp.1 _ _ hl1),by rw[aH];exact hi,by rw[aH,tl];omega⟩)
  (λout H5 _ hp=>⟨aJ.of (hp.1 _ _ (g4 _ _ h3.jA)),aJ.of (hp.1 _ _ hl1),.inl (by rw[aH];exact aO _)⟩) ?_ ?_
 .rintro k x out H5 H6 hk ahg ha ⟨g5,e5⟩ ⟨pp,x1,y1,hpp,rfl,rfl,e6,e7⟩;obtain⟨u,rfl,eu⟩:=gu e6;obtain⟨c,rfl,ec⟩:=gu e7;have g6:=aG hpp (.tup [.int u,.int c]);refine⟨pp,_,Z,dG.of ai,Z,_,Z,_,Z,qq.1,T.part,qq.2.1,_,_,Z,(g5.trans g6) _ _ j4,X.cP,X.uZ,Z,_,Z,_,_,Z,Z,.inl (by have:p.wo.natAbs<2 ^ 60:=zw;omega),_,_,Z,Z,g6 _ _ ha,(g5.trans g6).dI hacc _,?_⟩;rw[sV _ eu ec,e5,bV];rfl
 rintro out H5 ahg ha5 ⟨g5,e5⟩;rw[cO,show st.bF.length=(aK st p).length by omega,cO]at e5;have e5:out=(gv st p).map V.int:=e5;subst e5;have LV:H3 acc=none:=g4.free hacc;have g35:=g4.trans g5;have h5:=h3.mono g35;have G5:=G3.same g35;have F5:=F3.trans (Fr.of_same (ρ:=ρ2) g35);have ca:ρ2 acc=none:=G3.none LV;have j5:=g5 _ _ j4;have hown:=wf.ow p gq;have gl:=s_ wf gq;have hix:st.own.idxOf p.ow<(gv st p).length:=by rw[gl];exact v7 hown
 refine⟨_,Z,_,Z,A.a,A.dx,_,Z,h5.oa,Z,_,Z,qq.1,T.part,qq.2.1,_,_,Z,j5,X.cP,X.pow,Z,⟨⟨n,ρ2,A,_,p.ow,Z,h5,hown,?_⟩⟩⟩;have at':sP ((gv st p).map V.int) ((st.own.idxOf p.ow:Nat):Int)=some (.int ((gv st p).getD (st.own.idxOf p.ow) 0)):=aM (by rw[cN,lu,bM hix];rfl);refine⟨acc,_,_,_,Z,Z,aJ.of ha5,at',_,Z,qq.1,T.part,qq.2.1,_,_,Z,j5,X.cP,X.uZ,Z,_,Z,A.a,T.hold,A.dx,_,_,Z,h5.oa,X.cH,X.wK,Z,A.bt,T.bot,A.db,_,_,Z,h5.jc,X.cB,X.GL,Z,_,_,Z,Z,.inl (by have:p.wo.natAbs<2 ^ 60:=zw;omega),_,_,Z,Z,acc,_,_,st.own.idxOf p.ow,Z,Z,ha5,by rw[aH];exact xZ hix,?_⟩;have m1:((gv st p).map V.int).set (st.own.idxOf p.ow) (.int ((gv st p).getD (st.own.idxOf p.ow) 0-p.wo*st.prod))=(lV st p).map V.int:=uC.symm;have G6:=G5.wr (a:=acc) (o:=.lst ((lV st p).map V.int)) rfl;have h6:=h5.same (sW (o:=.lst ((lV st p).map V.int)) ca ha5 rfl);have n6:H acc=none:=WR acc LV;have F6:=F5.new (o:=.lst ((lV st p).map V.int)) n6;show i9 _ _ _ _ (upd H5 acc (.lst (((gv st p).map V.int).set (st.own.idxOf p.ow) (.int ((gv st p).getD (st.own.idxOf p.ow) 0-p.wo*st.prod)))));rw[m1];have LR:upd H5 acc (.lst ((lV st p).map V.int)) acc=some (.lst ((lV st p).map V.int)):=ai;generalize upd H5 acc (.lst ((lV st p).map V.int))=H6 at *;refine⟨_,Z,_,Z,A.a,T.hold,A.dx,_,Z,h6.oa,X.cH,X.zC,by show 7<1000;decide,?_⟩;obtain⟨h7,G7⟩:=Ao (t:=7) h6 G6 ca LR rfl;have F7:Fr n ρ H (c8 ρ2 acc (n,7,⟨#[]⟩)) H6:=F6.oV n6;have h8:=h7.Kn G7 acc _ LR cC;have G8:=G7.wr (a:=A.a) (o:=.ins T.hold A.dx (dU { A with pu:=acc })) rfl;have F8:=F7.trans (Fr.write (o:=.ins T.hold A.dx (dU { A with pu:=acc })) h7.ca);rw[show aZ "purses" (V.ref acc) (dU A)=dU { A with pu:=acc }from rfl];generalize upd H6 A.a (.ins T.hold A.dx (dU { A with pu:=acc }))=H8 at *;have hv8:=uK wf.dN e2 e3;have dk:=Cf wf.dN hh.h.ql e2;refine⟨_,Z,A.a,T.hold,A.dx,_,_,Z,h8.oa,X.cH,X.hab,Z,_,Z,A.ab,_,Sum.inr p.nm,Z,h8.dB,Z,?_,?_⟩
 .show (dZ (b8 st.aj A.qs) (Sum.inr p.nm)).isSome=true;rw[hv8];rfl
 show Q .cW (upd H8 A.ab (.dK (m8 (b8 st.aj A.qs) (Sum.inr p.nm))));rw[dk];have hi2:i<A.qs.length:=by rw[hh.h.ql];exact hi
 have h9:=h8.Km G8 (st.aj.eraseIdx i) (A.qs.eraseIdx i) (by rw[PY hi,PY hi2,hh.h.ql]) (λj x y ex ey=>by obtain⟨k,a1,a2⟩:=Ak ex ey;exact h8.opt k x y a1 a2)
 rw[vd wf.dN e2]at q wS;exact q _ { { A with pu:=acc }with qs:=A.qs.eraseIdx i } _ ⟨G8.wr rfl,h9,wS⟩ rfl (F8.trans (Fr.write h8.fD))
abbrev ue:Stmt:=inClass (top 21) 9
abbrev qx:List Str:=["self","part","name","amount","weight"]
abbrev LW:List Str:=qx.append ["source"]
theorem zK:aS LW qx (aF ue):=dX
theorem Fy{T:TC}{e:Ec}(F:iG K T.hold "sever" "Hold.sever" ue f fd)(X:Txt K T)(cS:Mn P w K mg base 1 T.hold "part_of" fk (sN (mK T e)))(jv:Mn P w K mg base 3 T.hold "check_new" ju (sN (xC T e)))(lJ:Mn P w K mg base 1 T.hold "stow" nV (Kv T))(qj:Cn P w K mg base 1 "Part" T.part ["self","name","owner","worth","weight","scale","row"] (Bj T K)):Mn P w K mg base 4 T.hold "sever" qx (sN (K8 T e)):=by
 refine F.oA zK λcdv A outer s H vs Q E hr h=>?_;obtain⟨⟨n,ρ,A,st,x,y,a,we,rfl,LX,hy0,hl1,hl2,dq⟩⟩:=h;refine⟨_,(@dg.h _ _ _ (ak (aW (i:=5) zK.nd (b7 cS hr (qv 0) (ah (qv 1) au)))
  (ak (b_ (b7 jv hr (qv 0) (ah (qv 2) au)))
  (ak (cX (lI (bW.pt (Jy (aX rT (qv 3) aq (bu _)) (DN (aX rT (qv 4) aq (bu _)))))) (aA gr) bP)
  (ak (cX (lI (bW.pt (Jy (aX Jr (qv 3) (aI K (qv 5)) (bu _)) (DN (aX j8 (qv 4) (aI K (qv 5)) (bu _)))))) (aA gr) bP)
  (ak (qc K (qv 5) (qv 3) JU)
  (ak (qc K (qv 5) (qv 4) JU)
  (aA (b_ (b7 lJ hr (qv 0) (ah (Ra qj hr (ah (qv 2) (ah (aI K (qv 5)) (ah (qv 3) (ah (qv 4) (ah (aI K (qv 5)) (ah (aI K (qv 5)) au))))))) au))))))))))),?_⟩
 refine⟨_,Z,A.a,A.dx,_,Z,LX.h.oa,Z,_,Z,⟨⟨n,ρ,A,st,x,Z,LX.h,LX.wf.dN,λhn=>dq.no 3 ?_,λi p qq e1 e2 e3=>?_⟩⟩⟩
 .unfold iJ;rw[aB (λz=>?_)];obtain⟨j,p,h1,h2⟩:=jy z;exact hn p (cu h1) h2
 have gq:=cu e2;have eg:bH st x=p:=bQ LX.wf gq e1;subst e1;have hm:=Bq e2;have eR:iJ st p.nm y a we=match newR st y with
  | some i=>some i
  | none=>if a<1\/we<0 then some 5 else if p.wo<=a\/p.we<we then some 6 else none:=by unfold iJ;rw[aC hm,eg];first|done|(cases newR st y <;> rfl)
 refine⟨_,Z,A.a,A.dx,_,Z,LX.h.oa,Z,_,Z,⟨⟨n,ρ,A,st,y,Z,LX.h,hy0,λi hi=>dq.no i (by rw[eR,hi]),λhnew H1 g1=>?_⟩⟩⟩;rw[hnew]at eR;have eR:iJ st p.nm y a we=if a<1\/we<0 then some 5 else if p.wo<=a\/p.we<we then some 6 else none:=eR;have hh:=LX.mono g1;obtain⟨k1,k2,k3,k4⟩:=hh.h.opt i p qq e2 e3;by_cases hb:a<1\/we<0
 .have rq:=dq.no 5 (by rw[eR,aC hb]);refine⟨true,⟨_,Z,_,_,Z,Z,_,Z,cD (λc=>⟨Z,Z⟩) λc=>⟨_,Z,_,_,Z,Z,_,Z,br (hb.resolve_left λz=>c (br z)),Z⟩⟩,nK (rq 0 H1 g1)⟩
 rw[aB hb]at eR;refine⟨false,⟨_,Z,_,_,Z,Z,_,Z,cD (λc=>absurd (eF c) (by omega)) λ_=>⟨_,Z,_,_,Z,Z,_,Z,dF (by omega),Z⟩⟩,bL ?_⟩;by_cases hb2:p.wo<=a\/p.we<we
 .have rq:=dq.no 6 (by rw[eR,aC hb2]);refine⟨true,⟨_,Z,_,Z,qq.1,T.part,qq.2.1,_,_,Z,k1,X.cP,X.uZ,Z,_,_,Z,Z,_,Z,cD (λc=>⟨Z,Z⟩) λc=>⟨_,Z,_,Z,qq.1,T.part,qq.2.1,_,_,Z,k1,X.cP,X.OR,Z,_,_,Z,Z,_,Z,br (hb2.resolve_left λz=>c (br z)),Z⟩⟩,nK (rq 0 H1 g1)⟩
 rw[aB hb2]at eR;have q:=dq.ok eR;refine⟨false,⟨_,Z,_,Z,qq.1,T.part,qq.2.1,_,_,Z,k1,X.cP,X.uZ,Z,_,_,Z,Z,_,Z,cD (λc=>absurd (eF c) (by show ¬ p.wo<=a;omega)) λ_=>⟨_,Z,_,Z,qq.1,T.part,qq.2.1,_,_,Z,k1,X.cP,X.OR,Z,_,_,Z,Z,_,Z,dF (by show ¬ p.we<we;omega),Z⟩⟩,bL ?_⟩;refine⟨_,Z,qq.1,T.part,qq.2.1,_,_,Z,k1,X.cP,X.uZ,Z,_,Z,_,_,Z,Z,qq.2.1,_,k1,by show 6<1000;decide,?_⟩;have wA:Wf (kj st p.nm λp=>{ p with wo:=p.wo-a }):=AE hh.wf λp' dO e=>by rw[uL hh.wf dO gq e];exact⟨Z,Z,Z,Z,by show 1<=p.wo-a;omega,(hh.wf.jI p gq).2⟩
 have wB:Wf (kj st p.nm λp=>{ p with wo:=p.wo-a,we:=p.we-we }):=AE hh.wf λp' dO e=>by rw[uL hh.wf dO gq e];exact⟨Z,Z,Z,Z,by show 1<=p.wo-a;omega,by show 0<=p.we-we;omega⟩
 have wS:=K9 hh.wf eR hl1 hl2;have esA:kj st p.nm (λp=>{ p with wo:=p.wo-a })={ st with aj:=st.aj.set i { p with wo:=p.wo-a } }:=rm hh.wf.dN e2 _;have esB:kj st p.nm (λp=>{ p with wo:=p.wo-a,we:=p.we-we })={ st with aj:=st.aj.set i { p with wo:=p.wo-a,we:=p.we-we } }:=rm hh.wf.dN e2 _;have hi:i<st.aj.length:=(dY.mp e2).1;have hA:=hh.h.jn (p1:={ p with wo:=p.wo-a }) hh.g e2 e3 rfl rfl hh.wf.dN;have gA:Gh ρ (upd H1 qq.1 (.ins T.part qq.2.1 (c9 { p with wo:=p.wo-a } qq.2.2))):=hh.g.wr rfl;have FA:Fr n ρ H ρ (upd H1 qq.1 (.ins T.part qq.2.1 (c9 { p with wo:=p.wo-a } qq.2.2))):=(Fr.of_same g1).trans (Fr.write k3);have kA:upd H1 qq.1 (.ins T.part qq.2.1 (c9 { p with wo:=p.wo-a } qq.2.2)) qq.1=some (.ins T.part qq.2.1 (c9 { p with wo:=p.wo-a } qq.2.2)):=ai;have nA:∀b,upd H1 qq.1 (.ins T.part qq.2.1 (c9 { p with wo:=p.wo-a } qq.2.2)) b=none->H b=none:=λb h=>g1.free (gU h);show i9 _ _ _ _ (upd H1 qq.1 (.ins T.part qq.2.1 (c9 { p with wo:=p.wo-a } qq.2.2)));generalize upd H1 qq.1 (.ins T.part qq.2.1 (c9 { p with wo:=p.wo-a } qq.2.2))=H2 at *;refine⟨_,Z,qq.1,T.part,qq.2.1,_,_,Z,kA,X.cP,X.OR,Z,_,Z,_,_,Z,Z,qq.2.1,_,kA,by show 6<1000;decide,?_⟩;have hB:=hA.jn (i:=i) (p1:={ p with wo:=p.wo-a,we:=p.we-we }) gA (qM hi) e3 rfl rfl (by have:=wA.dN;rw[esA]at this;exact this);have Xa:(st.aj.set i { p with wo:=p.wo-a }).set i { p with wo:=p.wo-a,we:=p.we-we }=st.aj.set i { p with wo:=p.wo-a,we:=p.we-we }:=wm ..;have gB:Gh ρ (upd H2 qq.1 (.ins T.part qq.2.1 (c9 { p with wo:=p.wo-a,we:=p.we-we } qq.2.2))):=gA.wr rfl;have FB:Fr n ρ H ρ (upd H2 qq.1 (.ins T.part qq.2.1 (c9 { p with wo:=p.wo-a,we:=p.we-we } qq.2.2))):=FA.trans (Fr.write k3);have kB:upd H2 qq.1 (.ins T.part qq.2.1 (c9 { p with wo:=p.wo-a,we:=p.we-we } qq.2.2)) qq.1=some (.ins T.part qq.2.1 (c9 { p with wo:=p.wo-a,we:=p.we-we } qq.2.2)):=ai;generalize hH3:upd H2 qq.1 (HO.ins T.part qq.2.1 (aZ _ _ _))=H3;have V1:upd H2 qq.1 (.ins T.part qq.2.1 (c9 { p with wo:=p.wo-a,we:=p.we-we } qq.2.2))=H3:=hH3;have nB:∀b,H3 b=none->H b=none:=λb h=>nA b (gU (by rw[V1];exact h));rw[V1]at hB gB FB kB;have l9:HH T n ρ A H3 (kj st p.nm λp=>{ p with wo:=p.wo-a,we:=p.we-we }):=⟨gB,by rw[esB,<-Xa];exact hB,wB⟩
 obtain⟨_,r3,_,_⟩:=hB.opt i { p with wo:=p.wo-a,we:=p.we-we } qq (by show((st.aj.set i _).set i _)[i]?=_;rw[Xa];exact qM hi) e3;clear hA hB gA FA kA hH3 V1;refine⟨_,Z,A.a,A.dx,_,Z,l9.h.oa,Z,_,Z,_,Z,qq.1,T.part,qq.2.1,_,_,Z,kB,X.cP,X.pow,Z,_,Z,_,Z,_,Z,qq.1,T.part,qq.2.1,_,_,Z,kB,X.cP,X.GK,Z,_,Z,qq.1,T.part,qq.2.1,_,_,Z,kB,X.cP,X.Ko,Z,?_⟩;intro v dv hv LY hvd;have AS:upd (upd H3 dv (.own v)) v (.ins T.part dv []) qq.2.2=some (.lst (p.row.map V.int)):=by rw[ay (aD r3 hv),ay (aD r3 LY)];exact r3
 refine⟨⟨v,dv,qq.2.2,⟨y,p.ow,a,we,p.sc,p.row⟩,Z,ai,aJ.of AS,λrr H6 hrr k6 hy6 VY=>⟨Z,?_⟩⟩⟩;have LH:H3 rr=none:=gU (gU hrr);have g6:aR H3 H6:=λb u e=>k6 b u (by rw[ay (aD e hv),ay (aD e LY)];exact e) (aD e hv);have w6:=l9.mono g6;have F6:=FB.trans (Fr.of_same (ρ:=ρ) g6);unfold lC at wS q;rw[eg]at wS q;exact⟨⟨n,ρ,A,_,(v,dv,rr),_,Z,w6,hy6,VY,l9.g.none hv,l9.g.none LH,(kZ eR).2.1.2,wS,λρ' A' H' a1 a2 a3=>q ρ' A' H' a1 a2 (a3.fr F6 (nB _ hv) (nB _ LH))⟩⟩
abbrev uf:Stmt:=inClass (top 21) 15
abbrev qy:List Str:=["self","owner"]
abbrev LZ:List Str:=qy
theorem Ii:aS LZ qy (aF uf):=dX
theorem Ij{T:TC}(F:iG K T.hold "purse" "Hold.purse" uf f fd)(X:Txt K T)(jG:Mn P w K mg base 2 T.bot "over" lE (EW T))(cY:Mn P w K mg base 1 T.hold "place_of" fY (Bk T)):Mn P w K mg base 3 T.hold "purse" qy (Ph T):=by
 refine F.oA Ii λcdv A outer s H vs Q E hr h=>?_;obtain⟨⟨n,ρ,A,st,o,rfl,h,wf,ho,q⟩⟩:=h;refine⟨_,(@dg.h _ _ _ (aA (bJ (b7 jG hr (aI K (qv 0)) (ah (aU (d7 K) (aI K (qv 0)) (b7 cY hr (qv 0) (ah (qv 1) au))) au))))),?_⟩;have hk:st.own.idxOf o<st.bF.length:=by rw[wf.mG];exact v7 ho
 refine⟨_,Z,A.a,T.hold,A.dx,_,_,Z,h.oa,X.cH,X.wK,Z,A.bt,A.db,_,Z,h.jc,Z,_,Z,A.a,T.hold,A.dx,_,_,Z,h.oa,X.cH,X.zC,Z,_,Z,A.a,A.dx,_,Z,h.oa,Z,_,Z,⟨⟨n,ρ,A,st,o,Z,h,ho,?_⟩⟩⟩;refine⟨A.pu,_,_,_,Z,Z,aJ.of h.jA,getD_at hk,?_⟩;exact⟨⟨A.bt,A.db,A.sp,A.kn,st.stp,st.prod,_,Z,h.jc,h.lZ,wf.pW,wf.u0,wf.big,λr H2 g2 hr2=>q r H2 g2 hr2⟩⟩
abbrev rL:Stmt:=inClass (top 21) 10
abbrev oB:List Str:=["self"]
abbrev Ik:List Str:=oB
theorem Fz:aS Ik oB (aF rL):=dX
theorem FD{T:TC}(F:iG K T.hold "roster" "Hold.roster" rL f fd)(X:Txt K T)(fU:mg "list"=none):Mn P w K mg base 1 T.hold "roster" oB (Kw T):=by refine F.oA Fz λcdv A outer s H vs Q E hr h=>?_;obtain⟨⟨n,ρ,A,st,rfl,h,q⟩⟩:=h;refine⟨_,(@dg.h _ _ _ (aA (bJ (iL (Q0 rfl) (by rfl) fU zP (ah (aI K (qv 0)) au))))),?_⟩;refine⟨_,Z,A.a,T.hold,A.dx,_,_,Z,h.oa,X.cH,X.hpl,Z,A.pl,_,Z,.inl h.g_,λl hl=>?_⟩;rw[Cd];exact q l hl
abbrev rM:Stmt:=inClass (top 21) 17
abbrev lG:List Str:=["self"]
abbrev Il:List Str:=lG
theorem FE:aS Il lG (aF rM):=dX
theorem FF{T:TC}(F:iG K T.hold "landed" "Hold.landed" rM f fd)(X:Txt K T)(fU:mg "list"=none):Mn P w K mg base 1 T.hold "landed" lG (AH T):=by
 refine F.oA FE λcdv A outer s H vs Q E hr h=>?_;obtain⟨⟨n,ρ,A,st,rfl,hh,q⟩⟩:=h;obtain⟨ws,hw,hA⟩:=hh.h.nt;have hl:=hA.length;have hal:=hh.wf.u6;refine⟨_,(@dg.h _ _ _ (aA (bJ (ko ["name","owner","worth","shares"] [none,none,none,none] rfl (eW K (aI K (qv 0))) (λ_ _ _ _=>(iS K (n:=4) rfl (cM (bg (i:=0) (show List.Nodup (["name","owner","worth","shares"] :List Str)from by decide +kernel)) (cM (bg (i:=1) (show List.Nodup (["name","owner","worth","shares"] :List Str)from by decide +kernel)) (cM (bg (i:=2) (show List.Nodup (["name","owner","worth","shares"] :List Str)from by decide +kernel)) (cM (bg (i:=3) (show List.Nodup (["name","owner","worth","shares"] :List Str)from by decide +kernel)) iR)))))) (λ_ _ _ _=>(iY (ah (qv 0) (ah (qv 1) (ah (qv 2) (ah (iL (jC K) (by rfl) fU zP (ah (qv 3) au)) au)))))) rfl (by rfl))))),?_⟩;refine⟨_,Z,A.a,T.hold,A.dx,_,_,Z,hh.h.oa,X.cH,X.has,Z,A.as,Z,⟨_,aJ.of hw⟩,λacc hacc=>?_⟩;refine x8 (K:=K) (n:=ws.length) [0,1,2,3] (λi out H1=>aR H H1/\kU acc ρ H1 out (st.bN.take i)/\∀w∈out,∃t xs,w =.ref t/\H1 t=some (.tup xs)/\∀b,V.ref b∈xs->H b=none/\b≠acc) (by decide) (by omega) ⟨aG hacc _,.nil,λw hw=>nomatch hw⟩ (λi out H1 hi _ hp=>⟨ws,_,aJ.of (hp.1 _ _ hw),bM hi⟩) (λout H1 _ hp=>⟨ws,aJ.of (hp.1 _ _ hw),aO _⟩) ?_ ?_
 .rintro i x out H1 H2 hi gD ha ⟨g,hL,hF⟩ ⟨rfl,hy⟩;have ex:=hy ws (aJ.of (g _ _ hw));obtain⟨r,l,y,ss,rfl,ey,a1,a2,a3,a4⟩:=hA.get ex;refine⟨r,_,Z,dG.of (g _ _ a1),Z,_,Z,_,Z,_,Z,_,Z,l,ss,Z,.inl (aJ.of (g _ _ a2)),λl2 hl2=>⟨(iO 4),λt ht=>?_⟩⟩;have g2:=aG hl2 (.lst ss);have g3:=aG ht (.tup [.str y.nm,.str y.ow,.int y.wo,.ref l2]);have hl3:upd H2 l2 (.lst ss) l2=some (.lst ss):=ai;have c2:ρ l2=none:=hh.g.none (g.free hl2);have tu:=ig (o:=.lst (out++[.ref t])) (.inr ⟨_,(g2.trans g3) _ _ ha,Z⟩);refine⟨(g2.trans g3) _ _ ha,((g.trans g2).trans g3).dI hacc _,?_,λw hw=>?_⟩;rotate_left
  .rcases fu.mp hw with z|z
   .obtain ⟨t',xs,e1,e2,e3⟩:=hF w z;exact⟨t',xs,e1,tu _ _ ((g2.trans g3) _ _ e2),e3⟩
   .rw [eX.mp z];refine⟨t,_,Z,tu _ _ ai,λb hb=>?_⟩;have:b=l2:=by simpa using hb
    rw[this];exact⟨g.free hl2,λe=>by rw[e,ha]at hl2;cases hl2⟩
  rw[take_snoc ey];have n1:l2≠acc:=λe=>by rw[e,ha]at hl2;cases hl2
  exact((hL.mono (g2.trans g3)).snoc (x:=y) ai (g3 _ _ hl3) c2 n1 (a4.mono ((g.trans g2).trans g3).tups)).upd ((g2.trans g3) _ _ ha)
 rintro out H1 gD ha ⟨g,hL,hF⟩;rw[hl,cO]at hL;exact q acc out H1 g hacc ha hL.to hF
abbrev vM:Stmt:=inClass (top 20) 1
abbrev xH:List Str:=["self"]
abbrev NB:List Str:=xH
theorem L1:aS NB xH (aF vM):=dX
theorem L3{T:TC}(F:iG K T.part "twin" "Part.twin" vM f fd)(X:Txt K T)(qj:Cn P w K mg base 1 "Part" T.part ["self","name","owner","worth","weight","scale","row"] (Bj T K)):Mn P w K mg base 3 T.part "twin" xH (Pj T K):=by
 refine F.oA L1 λcdv A outer s H vs Q E hr h=>?_;obtain⟨⟨a,d,r,p,rfl,ha,hr1,q⟩⟩:=h;refine⟨_,(@dg.h _ _ _ (aA (bJ (Ra qj hr (ah (aI K (qv 0)) (ah (aI K (qv 0)) (ah (aI K (qv 0)) (ah (aI K (qv 0)) (ah (aI K (qv 0)) (ah (aI K (qv 0)) au)))))))))),?_⟩;refine⟨_,Z,a,T.part,d,_,_,Z,ha,X.cP,X.OQ,Z,_,Z,a,T.part,d,_,_,Z,ha,X.cP,X.pow,Z,_,Z,a,T.part,d,_,_,Z,ha,X.cP,X.uZ,Z,_,Z,a,T.part,d,_,_,Z,ha,X.cP,X.OR,Z,_,Z,a,T.part,d,_,_,Z,ha,X.cP,X.GK,Z,_,Z,a,T.part,d,_,_,Z,ha,X.cP,X.Ko,Z,?_⟩;intro v dv hv LY hvd;have hr2:upd (upd H dv (.own v)) v (.ins T.part dv []) r=some (.lst (p.row.map V.int)):=by rw[ay (aD hr1 hv),ay (aD hr1 LY)];exact hr1
 refine⟨⟨v,dv,r,p,Z,ai,aJ.of hr2,λrr H2 hrr k2 hv2 ahh=>⟨Z,?_⟩⟩⟩;have hrv:v≠rr:=λe=>by rw[<-e,ai]at hrr;cases hrr
 exact q v dv rr H2 (λb u e=>k2 b u (by rw[ay (aD e hv),ay (aD e LY)];exact e) (aD e hv)) hv (gU (gU hrr)) hrv hv2 ahh
abbrev rN:Stmt:=inClass (top 4) 4
abbrev ug:List Str:=["self"]
abbrev Im:List Str:=ug.append ["other"]
theorem yj:aS Im ug (aF rN):=dX
theorem FG{T:TC}(F:iG K T.bot "twin" "Bottom.twin" rN f fd)(X:Txt K T)(rD:Cn P w K mg base 1 "Bottom" T.bot ["self"] (ET T))(fU:mg "list"=none):Mn P w K mg base 3 T.bot "twin" ug (Pk T K):=by
 refine F.oA yj λcdv A outer s H vs Q E hr h=>?_;obtain⟨⟨bt,db,sp,kn,stp,prod,rfl,hb,hs,q⟩⟩:=h;refine⟨_,(@dg.h _ _ _ (ak (aW (i:=1) yj.nd (DO rD hr))
  (ak (cR K (qv 1) (iL (jC K) (by rfl) fU zP (ah (aI K (qv 0)) au)))
  (ak (cR K (qv 1) (aI K (qv 0)))
  (aA (bJ (qv 1))))))),?_⟩
 intro v dv hv LY hvd;refine⟨⟨v,dv,Z,ai,λs0 k0 H1 hs0 hk0 hsk k1 hv1 hs1 hk1=>⟨Z,?_⟩⟩⟩;have g1:aR H H1:=λb u e=>k1 b u (by rw[ay (aD e hv),ay (aD e LY)];exact e) (aD e hv);have kv:k0≠v:=λe=>by rw[e,ai]at hk0;cases hk0
 refine⟨_,Z,bt,T.bot,db,_,_,Z,g1 _ _ hb,X.cB,X.SK,Z,sp,_,Z,.inl (aJ.of (g1 _ _ hs)),λs2 hs2=>?_⟩;have g2:=aG hs2 (.lst (stp.map V.int));have s2v:upd H1 s2 (.lst (stp.map V.int)) s2=some (.lst (stp.map V.int)):=ai;have v2:=g2 _ _ hv1;have k2:=g2 _ _ hk1;have b2:=g2 _ _ (g1 _ _ hb);have n1:s2≠v:=λe=>by rw[e,hv1]at hs2;cases hs2
 have n2:s2≠k0:=λe=>by rw[e,hk1]at hs2;cases hs2
 have nb:bt≠v:=aD hb hv;generalize upd H1 s2 (.lst (stp.map V.int))=H2 at *;refine⟨_,Z,v,T.bot,dv,_,Z,v2,X.cB,X.SK,by show 3<1000;decide,?_⟩;have b3:upd H2 v (.ins T.bot dv (jY s2 1 k0)) bt=some (.ins T.bot db (jY sp prod kn)):=by rw[ay nb];exact b2
 have v3:upd H2 v (.ins T.bot dv (jY s2 1 k0)) v=some (.ins T.bot dv (jY s2 1 k0)):=ai;have g3:aR H (upd H2 v (.ins T.bot dv (jY s2 1 k0))):=(g1.trans g2).dI hv _;have s3:upd H2 v (.ins T.bot dv (jY s2 1 k0)) s2=some (.lst (stp.map V.int)):=by rw[ay n1];exact s2v
 have k3:upd H2 v (.ins T.bot dv (jY s2 1 k0)) k0=some (.dK []):=by rw[ay kv];exact k2
 show i9 _ _ _ _ (upd H2 v (.ins T.bot dv (jY s2 1 k0)));generalize upd H2 v (.ins T.bot dv (jY s2 1 k0))=H3 at *;refine⟨_,Z,bt,T.bot,db,_,_,Z,b3,X.cB,X.GL,Z,_,Z,v,T.bot,dv,_,Z,v3,X.cB,X.GL,by show 3<1000;decide,?_⟩;exact⟨_,Z,q v dv s2 k0 _ (g3.dI hv _) hv (g1.free hs2) (gU (gU hk0)) (bX n1) (bX kv) n2 ai (by rw[ay n1];exact s3) (by rw[ay kv];exact k3)⟩
abbrev vN:Stmt:=inClass (top 21) 18
abbrev lK:List Str:=["self"]
abbrev NC:List Str:=lK.append ["other"]
theorem AV:aS NC lK (aF vN):=dX
theorem L4{T:TC}(F:iG K T.hold "twin" "Hold.twin" vN f fd)(X:Txt K T)(yk:Cn P w K mg base 3 "Hold" T.hold ["self"] (EU T))(xJ:Mn P w K mg base 3 T.part "twin" lK (Pj T K))(uh:Mn P w K mg base 3 T.bot "twin" lK (Pk T K))(jH:Mn P w K mg base 1 T.hold "landed" lG (AH T))(fU:mg "list"=none)(Eh:mg "dict"=none):Mn P w K mg base 5 T.hold "twin" lK (Pn T):=by
 refine F.oA AV λcdv A outer s H vs Q E hr h=>?_;obtain⟨⟨n,m,ρ,A,st,rfl,hnm,hh,q⟩⟩:=h;refine⟨_,(@dg.h _ _ _ (ak (aW (i:=1) AV.nd (DO yk hr))
  (ak (cR K (qv 1) (iL DX (by rfl) Eh PyProof.Rows.boot_dict (ah (aI K (qv 0)) au)))
  (ak (cR K (qv 1) (DM (VJ ["name","part"] [none,none] rfl (yS (aI K (qv 0))) (λ_ _ _ _=>(iS K (n:=2) rfl (cM (bg (i:=0) (show List.Nodup (["name","part"] :List Str)from by decide +kernel)) (cM (bg (i:=1) (show List.Nodup (["name","part"] :List Str)from by decide +kernel)) iR)))) (λ_ _ _ _=>(qv 0)) (λ_ _ _ _=>(kq xJ hr (qv 1))) rfl (by rfl))))
  (ak (cR K (qv 1) (kq jH hr (qv 0)))
  (ak (cR K (qv 1) (iL DX (by rfl) Eh PyProof.Rows.boot_dict (ah (aI K (qv 0)) au)))
  (ak (cR K (qv 1) (kq uh hr (aI K (qv 0))))
  (ak (cR K (qv 1) (iL (jC K) (by rfl) fU zP (ah (aI K (qv 0)) au)))
  (ak (cR K (qv 1) (iL (jC K) (by rfl) fU zP (ah (aI K (qv 0)) au)))
  (aA (bJ (qv 1)))))))))))),?_⟩
 intro x dx hx hdx hne;refine⟨⟨x,dx,ρ,m,Z,ai,(hh.g.alloc hdx).alloc (by rw[ay (bX hne)];exact hx),hh.g.none hx,λρ1 B1 H1 ea1 iu k1=>⟨Z,?_⟩⟩⟩;have K1:Kept ρ H ρ1 H1:=λb o e=>k1 b o (by rw[ay (aD e hx),ay (aD e hdx)];exact e) (aD e hx);have t1:ku T n m ρ H A st x ρ1 H1 B1 hs0:=⟨hnm,hx,hh.h.same ⟨λb xs e=>(K1 b _ e).1,λb t y o _ c e=>⟨(K1 b o e).1,(K1 b o e).2.trans c⟩⟩,iu.h,iu.g,K1,ea1⟩
 clear iu k1 K1 ea1 hdx hne;refine⟨_,Z,A.a,T.hold,A.dx,_,_,Z,t1.hs.oa,X.cH,X.hpl,Z,A.pl,_,Z,t1.hs.g_,λl hl=>?_⟩;obtain⟨e2,ρ2,t2⟩:=t1.fld (k:=1) (B':={ B1 with pl:=l }) hl rfl (λh g e c=>h.aa7 g l st.own e c) rfl;refine⟨_,Z,x,T.hold,B1.dx,_,Z,e2,X.cH,X.hpl,by show 7<1000;decide,?_⟩;show i9 _ _ _ _ (upd (upd H1 l (.dK (fT 0 st.own))) x (.ins T.hold B1.dx (dU { B1 with pl:=l })));refine(λ(k:∀(r2:cg) (h2:Hp) (b2:HA),ku T n m ρ H A st x r2 h2 b2 ⟨st.own,[],[],[],[],1,0,[],[]⟩->i9 _ _ _ _ h2)=>k _ _ _ t2) ?_;clear t2;intro ρ2 H2 B2 t2;clear t1 e2 hl;have hpl:=hh.wf.mH;have nd:=hh.wf.dN;refine⟨A.ab,_,t2.hs.dB,λob=>?_⟩;refine⟨_,Z,A.a,T.hold,A.dx,_,_,Z,eZ t2.hs.dB t2.hs.oa (λk z=>by cases z),X.cH,X.hab,Z,A.ab,ob,_,Z,ai,λacc hacc=>?_⟩;have Jz:H2 acc=none:=jq t2.hs.dB hacc;have LV:H acc=none:=t2.free Jz;have nab:acc≠A.ab:=λe=>by rw[e,ai]at hacc;cases hacc
 have el:=uJ t2.hs.ql;refine YX (K:=K) (n:=st.aj.length) [0,1] (λi out Hc=>∃H5 ρ5 qs,Hc=upd H5 A.ab (.fB ob (.dK (b8 st.aj A.qs)))/\ku T n m ρ H A st x ρ5 H5 B2 ⟨st.own,[],[],[],[],1,0,[],[]⟩/\ρ5 acc=none/\H5 acc=some (.dK out)/\out=b8 (st.aj.take i) qs/\qs.length=i/\∀(j:Nat)(p:Pt)(y:Addr×Addr×Addr),(st.aj.take i)[j]?=some p->qs[j]?=some y->H5 y.1=some (.ins T.part y.2.1 (c9 p y.2.2))/\H5 y.2.2=some (.lst (p.row.map V.int))/\ρ5 y.1=some (m,20,p.nm)/\ρ5 y.2.2=some (m,21,p.nm))
  (by decide) (by omega) ⟨upd H2 acc (.dK []),ρ2,[],iV (bX nab),t2.same (aG Jz _),t2.g.none Jz,ai,Z,Z,λj p y e=>by simp at e⟩ ?_ ?_ ?_ ?_
 .rintro i out Hc hi ha ⟨H5,ρ5,qs,rfl,_⟩;exact⟨ai,by rw[el];exact hi⟩
 .rintro out Hc ha ⟨H5,ρ5,qs,rfl,_⟩;exact⟨ai,by rw[el];exact aO _⟩
 .rintro i y out Hc H6 hi gD ha ⟨H5,ρ5,qs,rfl,t5,HF,a5,eo,ql,hq⟩ ⟨pp,kv,hpp,hkv,rfl,rfl⟩;have ep:=bM hi;generalize st.aj[i]=p at ep;obtain⟨qq,eq,k1,k2,k3,k4⟩:=t5.hs.find ep;rw[uI ep eq]at hkv;cases hkv;have npl:pp≠A.ab:=λe=>by rw[e,ai]at hpp;cases hpp
  have Fv:H5 pp=none:=jq t5.hs.dB hpp;have e6:upd (upd H5 A.ab (.fB ob (.dK (b8 st.aj A.qs)))) pp (.tup [.str p.nm,.ref qq.1])=upd (upd H5 pp (.tup [.str p.nm,.ref qq.1])) A.ab (.fB ob (.dK (b8 st.aj A.qs))):=iV (bX npl);show ∃t vs,V.ref pp =.ref t/\dG K (upd (upd H5 A.ab (.fB ob (.dK (b8 st.aj A.qs)))) pp (.tup [.str p.nm,.ref qq.1])) t vs/\vs.length=2/\EK 0 (dz _ [0,1] vs) (upd (upd H5 A.ab (.fB ob (.dK (b8 st.aj A.qs)))) pp (.tup [.str p.nm,.ref qq.1])) _;rw[e6];have t6:=t5.same (aG Fv (.tup [.str p.nm,.ref qq.1]));have g6:=aG Fv (.tup [.str p.nm,.ref qq.1]);have tt6:upd H5 pp (.tup [.str p.nm,.ref qq.1]) pp=some (.tup [.str p.nm,.ref qq.1]):=ai;have a6:=g6 _ _ a5;have k16:=g6 _ _ k1;have k26:=g6 _ _ k2;have Xb:∀(j:Nat)(u:Pt)(y:Addr×Addr×Addr),(st.aj.take i)[j]?=some u->qs[j]?=some y->upd H5 pp (.tup [.str p.nm,.ref qq.1]) y.1=some (.ins T.part y.2.1 (c9 u y.2.2))/\upd H5 pp (.tup [.str p.nm,.ref qq.1]) y.2.2=some (.lst (u.row.map V.int))/\ρ5 y.1=some (m,20,u.nm)/\ρ5 y.2.2=some (m,21,u.nm):=λj p' y' e1 e2=>by obtain⟨z1,z2,z3,z4⟩:=hq j p' y' e1 e2;exact⟨by rw[ay (aD z1 Fv)];exact z1,by rw[ay (aD z2 Fv)];exact z2,z3,z4⟩
  clear e6 k1 k2 hq a5 hpp;generalize upd H5 pp (.tup [.str p.nm,.ref qq.1])=H6 at t6 g6 tt6 a6 k16 k26 Xb ⊢;have fz:∀{b:Addr}{u:HO},H6 b=some u->(∀k,u ≠ .dK k)->upd H6 A.ab (.fB ob (.dK (b8 st.aj A.qs))) b=some u:=λe k=>eZ t6.hs.dB e k;refine⟨pp,_,Z,dG.of (fz tt6 (λk z=>by cases z)),Z,_,Z,Sum.inr p.nm,Z,?_⟩;refine⟨_,Z,qq.1,qq.2.1,_,Z,fz k16 (λk z=>by cases z),Z,⟨⟨qq.1,qq.2.1,qq.2.2,p,Z,fz k16 (λk z=>by cases z),fz k26 (λk z=>by cases z),λv dv rr H7 g7 hv hrr hvr hv7 ahi=>?_⟩⟩⟩;have HD:H7 A.ab=some (.fB ob (.dK (b8 st.aj A.qs))):=g7 _ _ ai;have bk:=qR t6.hs.dB g7;have TU:H6 v=none:=jq t6.hs.dB hv;have AS:H6 rr=none:=jq t6.hs.dB hrr;have nv:v≠A.ab:=λe=>by rw[e,ai]at hv;cases hv
  have nr:rr≠A.ab:=λe=>by rw[e,ai]at hrr;cases hrr
  have av:acc≠v:=aD a6 TU;have ar:acc≠rr:=aD a6 AS;have ha7:H7 acc=some (.dK out):=g7 _ _ (by rw[ay nab];exact a6);have e7:H7=upd (upd H7 A.ab (.dK (b8 st.aj A.qs))) A.ab (.fB ob (.dK (b8 st.aj A.qs))):=by rw[lH,qS HD]
  have v8:upd H7 A.ab (.dK (b8 st.aj A.qs)) v=some (.ins T.part dv (c9 p rr)):=by rw[ay nv];exact hv7
  have r8:upd H7 A.ab (.dK (b8 st.aj A.qs)) rr=some (.lst (p.row.map V.int)):=by rw[ay nr];exact ahi
  have a8:upd H7 A.ab (.dK (b8 st.aj A.qs)) acc=some (.dK out):=by rw[ay nab];exact ha7
  have t8:=t6.same bk;refine⟨ha7,?_⟩;rw[e7];generalize upd H7 A.ab (.dK (b8 st.aj A.qs))=H8 at v8 r8 a8 t8 bk ⊢;have t9:=t8.col (c:=(m,20,p.nm)) v8 rfl (t6.g.none TU) (t6.free TU);have Pz:=t9.col (c:=(m,21,p.nm)) r8 rfl (by rw[bB (bX hvr)];exact t6.g.none AS) (t6.free AS);have ca:c8 (c8 ρ5 v (m,20,p.nm)) rr (m,21,p.nm) acc=none:=by rw[bB ar,bB av];exact HF
  have vn:dZ out (Sum.inr p.nm)=none:=by rw[eo];refine p5 λp' dO e=>?_;have h2:((st.aj.take (i+1)).map (·.nm)).Nodup:=nd.sublist ((Qq _ _).map _);rw[take_snoc ep,bV]at h2;exact(Qu.mp h2).2.2 p.nm (a_.mpr ⟨p',dO,e⟩) p.nm (eX.mpr rfl) rfl
  have el2:qs.length=(st.aj.take i).length:=by rw[kN];omega
  have Xc:putK out (Sum.inr p.nm) (.ref v)=b8 (st.aj.take (i+1)) (qs++[(v,dv,rr)]):=by rw[mE _ vn,take_snoc ep,Kr el2,eo]
  rw[iV (bX nab)];refine⟨upd H8 acc (.dK (putK out (Sum.inr p.nm) (.ref v))),_,qs++[(v,dv,rr)],Z,Pz.wrO ca a8 rfl rfl LV,ca,ai,Xc,by rw[dD,ql];rfl,λj p' y' e1 e2=>?_⟩;have wr:∀{b:Addr}{u:HO},H8 b=some u->b≠acc->upd H8 acc (.dK (putK out (Sum.inr p.nm) (.ref v))) b=some u:=λe z=>by rw[ay z];exact e
  rw[take_snoc ep]at e1;by_cases cj:j<i
  .rw [zN (by rw[kN];omega)]at e1;rw[zN (by omega)]at e2;obtain⟨z1,z2,z3,z4⟩:=Xb j p' y' e1 e2;have y1:y'.1≠acc:=λe=>by rw[e,HF]at z3;cases z3
   have y2:y'.2.2≠acc:=λe=>by rw[e,HF]at z4;cases z4
   exact⟨wr (bk _ _ z1) y1,wr (bk _ _ z2) y2,by rw[bB (aD z1 AS),bB (aD z1 TU)];exact z3,by rw[bB (aD z2 AS),bB (aD z2 TU)];exact z4⟩
  .have hj:j=i:=by have:=(dY.mp e2).1;rw[dD,ql]at this;have:j<i+1:=this;omega
   subst hj;rw[CQ (by rw[kN];omega),kN,show j-min j st.aj.length=0 by omega]at e1;rw[CQ (by omega),ql,A1]at e2;cases e1;cases e2;exact⟨wr v8 (bX av),wr r8 (bX ar),by rw[bB hvr,cC],cC⟩
 rintro out Hc ha ⟨H5,ρ5,qs,rfl,t5,HF,a5,eo,ql,hq⟩;rw[cO]at eo hq;subst eo;refine⟨ai,?_⟩;rw[lH,qS t5.hs.dB];have t6:=t5.col (c:=(m,2,⟨#[]⟩)) a5 rfl HF LV;have t7:=t6.set (o:=.ins T.hold B2.dx (dU { B2 with ab:=acc })) rfl (t6.ht.aa_ t6.g acc st.aj qs a5 cC ql (λi p y e1 e2=>by obtain⟨z1,z2,z3,z4⟩:=hq i p y e1 e2;exact⟨z1,z2,by rw[bB (λe=>by rw[e,HF]at z3;cases z3)];exact z3,by rw[bB (λe=>by rw[e,HF]at z4;cases z4)];exact z4⟩)) rfl
 refine⟨_,Z,x,T.hold,B2.dx,_,Z,t5.ea▸t5.ht.oa,X.cH,X.hab,by show 7<1000;decide,?_⟩;show i9 _ _ _ _ (upd H5 x (.ins T.hold B2.dx (dU { B2 with ab:=acc })));refine(λ(k:∀(r2:cg) (h2:Hp) (b2:HA),ku T n m ρ H A st x r2 h2 b2 ⟨st.own,st.aj,[],[],[],1,0,[],[]⟩->i9 _ _ _ _ h2)=>k _ _ _ t7) ?_;clear t7;intro ρ7 H7 B7 t7;clear t2 t5 t6 hq a5 HF hacc Jz ha;refine⟨_,Z,A.a,A.dx,_,Z,t7.hs.oa,Z,⟨⟨n,ρ7,A,st,Z,⟨t7.g,t7.hs,hh.wf⟩,λr ws H8 g8 hr0 hr1 hL hF=>?_⟩⟩⟩;have t8:=t7.same g8;obtain⟨ρ9,t9,hA9,TV⟩:=VL t8 hL (λb ss _ _ ⟨w,hw,t,xs,e1,e2,e3⟩=>by obtain⟨t',xs',f1,f2,f3⟩:=hF w hw;rw[e1]at f1;cases f1;rw[e2]at f2;cases f2;exact t7.free (f3 b e3).1)
 have cr:ρ9 r=none:=by
  rcases TV r with z|⟨_,_,w,hw,t,xs,e1,e2,e3⟩
  .rw [z];exact t7.g.none hr0
  .obtain ⟨t',xs',f1,f2,f3⟩:=hF w hw;rw[e1]at f1;cases f1;rw[e2]at f2;cases f2;exact absurd rfl (f3 r e3).2
 have Pz:=t9.col (c:=(m,3,⟨#[]⟩)) hr1 rfl cr (t7.free hr0);have L5:=Pz.set (o:=.ins T.hold B7.dx (dU { B7 with as:=r })) rfl (Pz.ht.aa9 Pz.g r st.bN hr1 cC (hA9.keep (ts:=λ_=>true) ⟨λ_ _ e=>e,λb u y w _ hc he=>⟨he,by rw[bB (λz=>by rw[z,cr]at hc;cases hc)];exact hc⟩⟩ rfl)) rfl;refine⟨_,Z,x,T.hold,B7.dx,_,Z,t7.ea▸t8.ht.oa,X.cH,X.has,by show 7<1000;decide,?_⟩;show i9 _ _ _ _ (upd H8 x (.ins T.hold B7.dx (dU { B7 with as:=r })));refine(λ(k:∀(r2:cg) (h2:Hp) (b2:HA),ku T n m ρ H A st x r2 h2 b2 ⟨st.own,st.aj,st.bN,[],[],1,0,[],[]⟩->i9 _ _ _ _ h2)=>k _ _ _ L5) ?_;clear L5;intro ρ11 DW Xd L5;clear t7 t8 t9 Pz hA9 TV hL hF hr0 hr1 g8 cr;refine⟨_,Z,A.a,T.hold,A.dx,_,_,Z,L5.hs.oa,X.cH,X.hnm,Z,A.nm,_,Z,L5.hs.nu,λl hl=>?_⟩;obtain⟨e2,ρ12,ux⟩:=L5.fld (k:=4) (B':={ Xd with nm:=l }) hl rfl (λh g e c=>h.aa8 g l st.nms e c) rfl;refine⟨_,Z,x,T.hold,Xd.dx,_,Z,e2,X.cH,X.hnm,by show 7<1000;decide,?_⟩;show i9 _ _ _ _ (upd (upd DW l (.dK (x9 st.nms))) x (.ins T.hold Xd.dx (dU { Xd with nm:=l })));refine(λ(k:∀(r2:cg) (h2:Hp) (b2:HA),ku T n m ρ H A st x r2 h2 b2 ⟨st.own,st.aj,st.bN,st.nms,[],1,0,[],[]⟩->i9 _ _ _ _ h2)=>k _ _ _ ux) ?_;clear ux;intro ρ12 Xe TY ux;clear L5 e2 hl;refine⟨_,Z,A.a,T.hold,A.dx,_,_,Z,ux.hs.oa,X.cH,X.wK,Z,A.bt,A.db,_,Z,ux.hs.jc,Z,⟨⟨A.bt,A.db,A.sp,A.kn,st.stp,st.prod,Z,ux.hs.jc,ux.hs.lZ,λb2 d2 s2 k2 LL g13 hb hs hk n1 n2 n3 e1 e2 e3=>?_⟩⟩⟩;have t13:=ux.same g13;have t14:=t13.col (c:=(m,5,⟨#[]⟩)) e1 rfl (ux.g.none hb) (ux.free hb);have t15:=t14.col (c:=(m,8,⟨#[]⟩)) e2 rfl (by rw[bB (bX n1)];exact ux.g.none hs) (ux.free hs);have Xf:=t15.col (c:=(m,9,⟨#[]⟩)) e3 rfl (by rw[bB (bX n3),bB (bX n2)];exact ux.g.none hk) (ux.free hk);have L6:=Xf.set (o:=.ins T.hold TY.dx (dU { TY with bt:=b2 })) rfl (Xf.ht.aba Xf.g b2 d2 s2 k2 st.stp st.prod e1 e2 e3 (by rw[bB n2,bB n1,cC]) (by rw[bB n3,cC]) cC) rfl;refine⟨_,Z,x,T.hold,TY.dx,_,Z,ux.ea▸t13.ht.oa,X.cH,X.wK,by show 7<1000;decide,?_⟩;show i9 _ _ _ _ (upd LL x (.ins T.hold TY.dx (dU { TY with bt:=b2 })));refine(λ(k:∀(r2:cg) (h2:Hp) (b2:HA),ku T n m ρ H A st x r2 h2 b2 ⟨st.own,st.aj,st.bN,st.nms,st.stp,st.prod,0,[],[]⟩->i9 _ _ _ _ h2)=>k _ _ _ L6) ?_;clear L6;intro ρ17 Hz Xg L6;clear ux t13 t14 t15 Xf;refine⟨_,Z,A.a,T.hold,A.dx,_,_,Z,L6.hs.oa,X.cH,X.wL,Z,A.cm,_,Z,.inl (aJ.of L6.hs.iH),λl hl=>?_⟩;obtain⟨f2,Xh,PB⟩:=L6.fld (k:=6) (B':={ Xg with cm:=l }) hl rfl (λh g e c=>h.SJ g l st.bD e c) rfl;refine⟨_,Z,x,T.hold,Xg.dx,_,Z,f2,X.cH,X.wL,by show 7<1000;decide,?_⟩;show i9 _ _ _ _ (upd (upd Hz l (.lst (st.bD.map V.int))) x (.ins T.hold Xg.dx (dU { Xg with cm:=l })));refine(λ(k:∀(r2:cg) (h2:Hp) (b2:HA),ku T n m ρ H A st x r2 h2 b2 ⟨st.own,st.aj,st.bN,st.nms,st.stp,st.prod,0,st.bD,[]⟩->i9 _ _ _ _ h2)=>k _ _ _ PB) ?_;clear PB;intro Xh H18 B18 PB;clear L6 f2 hl;refine⟨_,Z,A.a,T.hold,A.dx,_,_,Z,PB.hs.oa,X.cH,X.zC,Z,A.pu,_,Z,.inl (aJ.of PB.hs.jA),λl hl=>?_⟩;obtain⟨f2,PD,Xi⟩:=PB.fld (k:=7) (B':={ B18 with pu:=l }) hl rfl (λh g e c=>h.Kn g l st.bF e c) rfl;refine⟨_,Z,x,T.hold,B18.dx,_,Z,f2,X.cH,X.zC,by show 7<1000;decide,_,Z,?_⟩;have:=q PD _ _ ⟨Xi.g,Xi.ht,Q3 hh.wf (fM _)⟩ Xi.k;rw[Xi.ea]at this;exact this
abbrev vO:Stmt:=top 26
abbrev iC:List Str:=["_law_script","_law_k","_law_j","_law_many"]
abbrev ND:List Str:=iC.append ["_law_cell","_law_turn","_law_rest","_law_step","_law_one","_law_two"]
theorem fJ:aS ND iC (aF vO):=dX
theorem L7(F:At K mg "_law_draw" vO f fd)(cE:mg "len"=none)(dj:mg "range"=none):Dn P w K mg base 1 "_law_draw" iC (sQ K):=by
 refine F.oA fJ λcdv A outer s H vs Q E hr h=>?_;obtain⟨⟨a,ns,k,j,many,rfl,hS,h63,hk,hj,hj2,hm,q⟩⟩:=h;refine⟨_,(@dg.h _ _ _ (ak (aW (i:=4) fJ.nd aq)
  (ak (aW (i:=5) fJ.nd aq)
  (ak (jR (aX j8 (bZ (dJ K) (by rfl) cE gf (ah (qv 0) au)) aq (bu _)) (ak (aW (i:=4) fJ.nd (aU (d7 K) (qv 0) (aP lz (qv 1) (bZ (dJ K) (by rfl) cE gf (ah (qv 0) au)))))
  (aA (aW (i:=5) fJ.nd (aP jl (qv 1) (bZ (dJ K) (by rfl) cE gf (ah (qv 0) au)))))) bP)
  (ak (aW (i:=6) fJ.nd (qv 4))
  (ak (fG gc rfl (mL (by rfl) dj (ah (qv 2) au)) (bg (i:=7) fJ.nd) (aA (aW (i:=6) fJ.nd (aP jl (qv 6) (aP nO aq aq)))))
  (ak (cX (lI (bW.pt (sZ (aX eO (qv 5) aq (bu _)) (sZ (aX Jr (qv 4) (aP nO aq aq) (bu _)) (uM (aX j8 (qv 6) aq (bu _))))))) (aA (bJ (aP lz (aP lz (qv 6) (aP nO aq aq)) (qv 3)))) bP)
  (ak (aW (i:=8) fJ.nd (aP lz (aP c7 (aP c7 (aP c7 (aP iF (qv 4) aq) (aP iF (qv 1) aq)) (aP iF (qv 2) aq)) aq) aq))
  (ak (aW (i:=9) fJ.nd (aP lz (aP c7 (aP iF (qv 8) aq) (aP jl (qv 4) aq)) aq))
  (ak (aW (i:=9) fJ.nd (aP lz (aP c7 (aP iF (qv 9) (aP c7 (aP lz (qv 8) aq) aq)) (qv 2)) aq))
  (aA (bJ (aP lz (aP lz (aP c7 (aP c7 (aP iF (qv 8) aq) (aP iF (qv 9) aq)) (aP jl (qv 9) aq)) aq) (qv 3)))))))))))))),?_⟩
 have hl:(ns.map V.int).length=ns.length:=aH _;refine⟨λσ H'=>H'=H/\σ=[some (.ref a),some (.int k),some (.int j),some (.int many),some (.int (Jm.cellOf ns k)),some (.int (Jm.z_ ns k)),none,none,none,none],?_,?_⟩
 .refine ⟨_,Z,a,_,Z,.inl hS,_,_,Z,Z,_,Z,?_⟩;refine cD (λc=>?_) (λc=>?_)
  .have c':0<(((ns.map V.int).length:Nat):Int):=eF c;rw[hl]at c';have i0:0<=k % (ns.length:Int):=pN _ (by omega);have i1:k % (ns.length:Int)<(ns.length:Int):=zS _ c';refine⟨_,Z,_,Z,_,Z,a,_,Z,.inl hS,_,_,Z,Z,(by show(0:Int)<_;rw[hl];exact c'),a,_,_,.int (ns.getD (k % ns.length).toNat 0),Z,Z,hS,?_,?_⟩
   .rw [hl];exact X7 i0 i1
   refine⟨_,Z,_,Z,a,_,Z,.inl hS,_,_,Z,Z,U4 (n:=10) (by rw[hl];exact c') (by rw[hl];omega) (by decide),Z,?_⟩;unfold Jm.cellOf Jm.z_;rw[aC c',aC c',hl];rfl
  .have c':¬ 0<(((ns.map V.int).length:Nat):Int):=uP (qN.mpr c);rw[hl]at c';refine⟨Z,?_⟩;unfold Jm.cellOf Jm.z_;rw[aB c',aB c'];rfl
 rintro σ H' ⟨rfl,rfl⟩;generalize ec:Jm.cellOf ns k=cell at *;generalize et:Jm.z_ ns k=turn at *;refine⟨_,Z,_,Z,j,Z,by omega,hj2,?_⟩;refine mC (lo:=0) (n:=j.toNat) (λi σ zH=>zH=H'/\∃st:Option V,σ=[some (.ref a),some (.int k),some (.int j),some (.int many),some (.int cell),some (.int turn),some (.int (Jm.Dk cell i)),st,none,none]) ⟨Z,none,Z⟩ ?_ ?_
 .rintro i σ zH hi ⟨rfl,st,rfl⟩;refine⟨_,Z,_,_,Z,Z,⟨by decide,by decide,by decide⟩,_,_,Z,Z,z9 (by decide +kernel),Z,?_⟩;exact⟨_,Z⟩
 rintro σ zH ⟨rfl,st,rfl⟩;have full:Q (.int (Jm.draw ns k j many)) zH:=q;unfold Jm.draw at full;rw[ec,et]at full;generalize er:Jm.Dk cell j.toNat=rest at *;refine⟨decide (turn=0/\1000000000000000000<=cell/\0<rest),?_,?_⟩
 .refine ⟨_,Z,Z,_,Z,?_⟩;by_cases h1:turn=0
  .rw [br (by rw[h1] :V.int turn=V.int 0)];refine nK ⟨_,Z,_,_,Z,Z,⟨by decide,by decide,by decide⟩,_,_,Z,Z,_,Z,?_⟩;by_cases h2:1000000000000000000<=cell
   .rw [br (show(10:Int) ^ (18:Int).toNat<=cell from h2)];refine nK ⟨_,Z,_,_,Z,Z,_,Z,?_,Z⟩;by_cases h3:0<rest
    .rw [br h3,br ⟨h1,h2,h3⟩]
    .rw [dF h3,dF λz=>h3 z.2.2]
   .rw [dF (show ¬ (10:Int) ^ (18:Int).toNat<=cell from h2)];exact bL ⟨(dF λz=>h2 z.2.1).symm,Z⟩
  .rw [dF (λz=>h1 (V.int.inj z))];exact bL ⟨(dF λz=>h1 z.1).symm,Z⟩
 by_cases h:turn=0/\1000000000000000000<=cell/\0<rest
 .rw [br h];rw[aC h]at full;refine nK ⟨_,Z,_,_,Z,Z,⟨by decide,by decide,by decide⟩,_,_,Z,Z,(by show(0:Int)<_;decide),_,Z,_,_,Z,Z,hm,?_⟩;exact full
 .rw [dF h];rw[aB h]at full;refine bL ?_;refine⟨_,Z,_,_,Z,Z,.inr ⟨by decide,by decide⟩,_,Z,_,_,Z,Z,.inr ⟨by decide,by decide⟩,_,_,Z,Z,_,Z,_,_,Z,Z,.inr ⟨by decide,by decide⟩,_,_,Z,Z,_,_,Z,Z,_,_,Z,Z,(by show(0:Int)<_;decide),?_⟩;refine⟨_,Z,_,_,Z,Z,.inr ⟨by decide,by decide⟩,_,Z,_,_,Z,Z,z9 (by decide +kernel),_,_,Z,Z,_,_,Z,Z,(by show(0:Int)<_;decide),?_⟩;unfold Jm.mixed at full;dsimp only at full ⊢;generalize e1:(cell*7919+k*104729+j*1299709+31) % 1000000007=one at *;generalize e2:(one*48271+cell / 1009) % 998244353=two at *;have b1:0<=one % 9973:=pN _ (by decide);have b2:one % 9973<9973:=zS _ (by decide);refine⟨_,Z,_,Z,_,_,Z,Z,(by show(0:Int)<_;decide),_,_,Z,Z,_,_,Z,Z,.inr ⟨by omega,by omega⟩,_,Z,_,_,Z,Z,_,_,Z,Z,(by show(0:Int)<_;decide),?_⟩;refine⟨_,Z,_,_,Z,Z,.inr ⟨by decide,by decide⟩,_,Z,_,_,Z,Z,.inr ⟨by decide,by decide⟩,_,_,Z,Z,_,Z,_,_,Z,Z,z9 (by decide +kernel),_,_,Z,Z,_,_,Z,Z,(by show(0:Int)<_;decide),_,Z,_,_,Z,Z,hm,?_⟩;exact full
abbrev vP:Stmt:=top 27
abbrev su:List Str:=["_law_code","_law_size"]
abbrev NF:List Str:=su.append ["_law_word","_law_at_here"]
theorem mX:aS NF su (aF vP):=dX
theorem L_(F:At K mg "_law_name" vP f fd)(dj:mg "range"=none):Dn P w K mg base 1 "_law_name" su EM:=by
 refine F.oA mX λcdv A outer s H vs Q E hr h=>?_;obtain⟨⟨c,n,rfl,hc,hn,q⟩⟩:=h;refine⟨_,(@dg.h _ _ _ (ak (aW (i:=2) mX.nd bR)
  (ak (fG gc rfl (mL (by rfl) dj (ah (qv 1) au)) (bg (i:=3) mX.nd) (ak (aW (i:=2) mX.nd (aP QB (qv 2) (aU RZ bR (aP lz (qv 0) aq))))
  (aA (aW (i:=0) mX.nd (aP jl (qv 0) aq)))))
  (aA (bJ (qv 2)))))),?_⟩
 refine⟨_,Z,_,Z,by omega,by omega,?_⟩;refine mC (lo:=0) (n:=(n:Int).toNat) (λi σ H'=>H'=H/\∃(s1:Option V),σ=[some (.int (c / 26 ^ i)),some (.int n),some (.str (tx (lX c i))),s1]) ⟨Z,none,by rw[Int.pow_zero,C0];rfl⟩ ?_ ?_
 .rintro i σ H' hi ⟨rfl,s1,rfl⟩;have hp:(0:Int)<26 ^ i:=Int.pow_pos (by decide);have hd0:0<=c / 26 ^ i:=Jk hc (Int.le_of_lt hp);have hm0:0<=c / 26 ^ i % 26:=pN _ (by decide);have hm1:c / 26 ^ i % 26<26:=zS _ (by decide);refine⟨_,Z,_,Z,_,_,Z,Z,(by show(0:Int)<26;decide),_,_,_,Z,Z,(by decide +kernel),So hm0 hm1,?_⟩;refine⟨_,_,Z,Z,?_,?_⟩
  .rw [Ad,yF];show i+1<=sizeLine;exact A0 (dH (by omega))
  refine⟨_,Z,_,_,Z,Z,yC (by decide) (pT (by decide +kernel)),Z,some (.int ((0:Int)+(i:Int))),?_⟩;have e1:c / 26 ^ i / 26=c / 26 ^ (i+1):=by rw[Int.ediv_ediv_of_nonneg (Int.le_of_lt hp),Int.pow_succ]
  have e2:(tx (lX c i)++tx [97+(c / 26 ^ i % 26).toNat] :Str)=tx (lX c (i+1)):=by rw[aad,Va]
  rw[<-e1,<-e2];rfl
 rintro σ H' ⟨rfl,s1,rfl⟩;refine⟨_,Z,?_⟩;rw[tL];exact q
abbrev um:Stmt:=top 28
abbrev qz:List Str:=["_law_script","_law_k","_law_many"]
abbrev Ma:List Str:=qz.append ["_law_alike","_law_size","_law_first","_law_shift","_law_at_here","_law_names_here","_law_code"]
theorem dS:aS Ma qz (aF um):=dX
theorem Io(F:At K mg "_law_names" um f fd)(aY:Dn P w K mg base 1 "_law_draw" iC (sQ K))(sy:Dn P w K mg base 1 "_law_name" su EM)(dj:mg "range"=none):Dn P w K mg base 2 "_law_names" qz (EN K):=by
 refine F.oA dS λcdv A outer s H vs Q E hr h=>?_;obtain⟨⟨a,ms,k,many,rfl,hS,h63,hk,hm,q⟩⟩:=h;refine⟨_,(@dg.h _ _ _ (ak (aW (i:=3) dS.nd (Bp eO (bK aY hr (ah (qv 0) (ah (qv 1) (ah aq (ah aq au))))) aq (bu _)))
  (ak (aW (i:=4) dS.nd (aP c7 aq (bK aY hr (ah (qv 0) (ah (qv 1) (ah aq (ah aq au)))))))
  (ak (aW (i:=5) dS.nd (bK aY hr (ah (qv 0) (ah (qv 1) (ah aq (ah (aP nO aq aq) au))))))
  (ak (aW (i:=6) dS.nd aq)
  (ak (jR (AA (qv 3)) (aA (fG gc rfl (mL (by rfl) dj (ah (bK aY hr (ah (qv 0) (ah (qv 1) (ah aq (ah (qv 4) au))))) au)) (bg (i:=7) dS.nd) (aA (aW (i:=6) dS.nd (aP iF (qv 6) aq))))) bP)
  (ak (aW (i:=8) dS.nd (iK au))
  (ak (fG gc rfl (mL (by rfl) dj (ah (qv 2) au)) (bg (i:=7) dS.nd) (ak (aW (i:=9) dS.nd (aP c7 (qv 5) (aP iF (qv 6) (bK aY hr (ah (qv 0) (ah (qv 1) (ah (aP c7 aq (aP iF aq (qv 7))) (ah aq au))))))))
  (ak (jR (K4 (AA (qv 3))) (ak (aW (i:=4) dS.nd (aP c7 aq (bK aY hr (ah (qv 0) (ah (qv 1) (ah (aP c7 aq (aP iF aq (qv 7))) (ah aq au)))))))
  (aA (aW (i:=9) dS.nd (bK aY hr (ah (qv 0) (ah (qv 1) (ah (aP c7 aq (aP iF aq (qv 7))) (ah (aP nO aq aq) au)))))))) bP)
  (ak (KZ gc (aX R1 (bK sy hr (ah (qv 9) (ah (qv 4) au))) (qv 8) (by with_unfolding_all rfl)) (aA (aW (i:=9) dS.nd (aP c7 (qv 9) (qv 6)))))
  (aA (b_ (kY oM oJ oK eU (qv 8) (ah (bK sy hr (ah (qv 9) (ah (qv 4) au))) au))))))))
  (aA (bJ (qv 8))))))))))),?_⟩
 have P10:UJ 10 10:=⟨by decide,by decide,by decide +kernel⟩
 refine⟨_,Z,_,Z,cZ hS h63 hk (by decide) (by decide) (by decide) λal _ _ _=>⟨Z,?_⟩⟩;refine⟨_,Z,_,Z,cZ hS h63 hk (by decide) (by decide) (by decide) λsd _ s0 s1=>⟨_,_,Z,Z,?_⟩⟩;refine⟨_,Z,_,Z,_,_,Z,Z,P10,cZ hS h63 hk (by decide) (by decide) (by decide +kernel) λfc _ f0 f1=>?_⟩;generalize hal:decide (V.int al=V.int 0)=alike;obtain⟨n0,en0⟩:∃n:Nat,1+sd=(n:Int):=⟨(1+sd).toNat,by omega⟩
 refine⟨λσ H'=>H'=H/\∃(d:Nat)(s7:Option V),(alike=true->d<n0)/\(alike=false->d=0)/\d<8/\σ=[some (.ref a),some (.int k),some (.int many),some (.bl alike),some (.int (1+sd)),some (.int fc),some (.int ((26:Int) ^ d)),s7,none,none],?_,?_⟩
 .refine ⟨_,Z,_,Z,cD (λc=>?_) (λc=>?_)⟩
  .refine ⟨_,Z,_,Z,_,Z,cZ hS h63 hk (by decide) (by decide) (by omega) λdd _ d0 d1=>⟨dd,Z,by omega,by omega,?_⟩⟩;refine mC (lo:=0) (n:=dd.toNat) (λi σ H'=>H'=H/\∃s7:Option V,σ=[some (.ref a),some (.int k),some (.int many),some (.bl alike),some (.int (1+sd)),some (.int fc),some (.int ((26:Int) ^ i)),s7,none,none]) ⟨Z,none,Z⟩ ?_ ?_
   .rintro i σ H' hi ⟨rfl,s7,rfl⟩;refine⟨_,Z,_,_,Z,Z,.inr ⟨by decide,by decide⟩,Z,some (.int ((0:Int)+(i:Int))),?_⟩;rw[Int.pow_succ];rfl
   .rintro σ H' ⟨rfl,s7,rfl⟩;exact⟨Z,dd.toNat,s7,λ_=>by omega,λz=>absurd c (by rw[z];exact iD),by omega,Z⟩
  .exact ⟨Z,0,none,λz=>absurd z c,λ_=>rfl,by decide,Z⟩
 rintro σ H' ⟨rfl,d,s7,hd1,hd2,hd8,rfl⟩;refine⟨(iO 0),λpn hpn=>?_⟩;have g0:=aG hpn (.lst []);refine⟨_,Z,(many:Int),Z,by omega,by omega,?_⟩;refine mC (lo:=0) (n:=(many:Int).toNat) (λi σ H2=>aR H' H2/\∃(nss:List (List Nat))(n:Nat)(s1 s2:Option V),d<n/\n<=8/\σ=[some (.ref a),some (.int k),some (.int many),some (.bl alike),some (.int (n:Int)),some (.int fc),some (.int ((26:Int) ^ d)),s1,some (.ref pn),s2]/\H2 pn=some (.lst (sS nss))/\nss.length=i/\nss.Nodup/\∀x∈nss,pU x)
  ⟨g0,[],n0,s7,none,?_,by omega,by rw[<-en0];rfl,ai,Z,uB,λ_ m=>nomatch m⟩ ?_ ?_
 .cases alike with
  | true=>exact hd1 rfl
  | false=>rw[hd2 rfl];omega
 .rintro i σ H2 hi ⟨g,nss,n,s1,s2,hdn,PF,rfl,hn,hnl,hnd,hok⟩;have hsl:(sS nss).length=i:=by unfold sS;rw[aH];exact hnl
  have hSg:=g.seq hS;have hp:(0:Int)<26 ^ d:=Int.pow_pos (by decide);have hp8:(26:Int) ^ d<2 ^ 64:=by rcases(by omega:d=0\/d=1\/d=2\/d=3\/d=4\/d=5\/d=6\/d=7)with e|e|e|e|e|e|e|e <;> (rw[e];decide +kernel)
  refine⟨_,Z,_,Z,_,Z,_,Z,_,Z,_,_,Z,Z,.inl ⟨by decide,by decide⟩,_,_,Z,Z,cZ hSg h63 hk (by omega) (by omega) (by decide) λcd _ c0 c1=>⟨_,_,Z,Z,.inl ⟨by omega,hp8⟩,_,_,Z,Z,?_⟩⟩;have hcode:0<=fc+26 ^ d*cd:=Int.add_nonneg f0 (rQ (Int.le_of_lt hp) c0);refine⟨λσ H3=>H3=H2/\∃(n:Nat)(c:Int),0<=c/\d<n/\n<=8/\σ=[some (.ref a),some (.int k),some (.int many),some (.bl alike),some (.int (n:Int)),some (.int fc),some (.int ((26:Int) ^ d)),some (.int ((0:Int)+(i:Int))),some (.ref pn),some (.int c)],?_,?_⟩
  .refine ⟨_,Z,_,Z,?_⟩;cases hb:alike with
   | true=>exact bL ⟨Z,n,_,hcode,hdn,PF,Z⟩
   | false=>refine nK ?_;have hd0:=hd2 hb;refine⟨_,Z,_,Z,_,Z,_,_,Z,Z,.inl ⟨by decide,by decide⟩,_,_,Z,Z,cZ hSg h63 hk (by omega) (by omega) (by decide) λzd _ z0 z1=>⟨_,_,Z,Z,?_⟩⟩;refine⟨_,Z,_,Z,_,Z,_,_,Z,Z,.inl ⟨by decide,by decide⟩,_,_,Z,Z,_,_,Z,Z,P10,cZ hSg h63 hk (by omega) (by omega) (by decide +kernel) λcd2 _ e0 _=>?_⟩;refine⟨Z,(1+zd).toNat,cd2,e0,by omega,by omega,?_⟩;rw[show(((1+zd).toNat:Nat):Int)=1+zd from by omega];rfl
  clear hdn PF hcode;rintro σ H3 ⟨rfl,n,xh,cc0,hdn,PF,rfl⟩;refine⟨λm σ H4=>H4=H3/\∃t:Nat,m=nss.length+1-t/\t<=nss.length/\σ=[some (.ref a),some (.int k),some (.int many),some (.bl alike),some (.int (n:Int)),some (.int fc),some (.int ((26:Int) ^ d)),some (.int ((0:Int)+(i:Int))),some (.ref pn),some (.int (xh+(t:Int)*26 ^ d))]/\∀j:Nat,j<t->lX (xh+(j:Int)*26 ^ d) n∈nss,
   ⟨_,Z,0,Z,fM _,by rw[show xh+((0:Nat):Int)*26 ^ d=xh from by simp],λj hj=>absurd hj (Nat.not_lt_zero _)⟩,?_⟩
  rintro m σ H4 ⟨rfl,t,rfl,ht,rfl,htr⟩;have hct:0<=xh+(t:Int)*26 ^ d:=Int.add_nonneg cc0 (rQ (by omega) (Int.le_of_lt hp));refine⟨_,Z,_,Z,Ke rfl hct (by omega) ?_⟩;refine⟨_,Z,pn,_,Z,.inl (aJ.of hn),Z,Vc nss,?_⟩;show RO _ (V.bl (if false=true then !Gv (.str (tx (lX (xh+(t:Int)*26 ^ d) n))) (sS nss) else Gv (.str (tx (lX (xh+(t:Int)*26 ^ d) n))) (sS nss))) _;rw[aB iD,OM];refine⟨_,Z,cD (λc=>?_) (λc=>?_)⟩
  .have hmem:lX (xh+(t:Int)*26 ^ d) n∈nss:=eF c;have abV:∀j:Nat,j<t+1->lX (xh+(j:Int)*26 ^ d) n∈nss:=λj hj=>by
    rcases Nat.lt_succ_iff_lt_or_eq.mp hj with z|z
    .exact htr j z
    .rw [z];exact hmem
   have hle:=Sw (c:=xh) (n:=n) (t:=t+1) hdn (by omega) abV;refine⟨_,λ_ _ z=>z,?_⟩;refine⟨_,Z,_,Z,_,_,Z,Z,?_⟩;refine⟨_,(by omega:nss.length+1-(t+1)<nss.length+1-t),Z,t+1,Z,hle,?_,abV⟩;rw[show xh+((t+1:Nat):Int)*26 ^ d=xh+(t:Int)*26 ^ d+26 ^ d from by rw[Int.natCast_add,kR];show _+(_+1*_)=_;rw[Int.one_mul,Int.add_assoc]];rfl
  .have hnm:lX (xh+(t:Int)*26 ^ d) n∉nss:=uP (qN.mpr c);refine⟨_,Z,.inl ⟨Z,_,aJ.of hn⟩,?_⟩;refine⟨_,Z,_,Z,Ke rfl hct (by omega) ?_⟩;refine⟨pn,sS nss,_,Z,Z,hn,dH (by omega),g.dI hpn _,nss++[lX (xh+(t:Int)*26 ^ d) n],n,_,_,hdn,PF,Z,?_,?_,pC hnd hnm,λx hx=>?_⟩
   .rw [ai];unfold sS;rw[bV];rfl
   .rw [dD,hnl];rfl
   .rcases fu.mp hx with z|z
    .exact hok x z
    .rw [eX.mp z];exact aah _ (by omega) PF
 rintro σ H2 ⟨g,nss,n,s1,s2,hdn,PF,rfl,hn,hnl,hnd,hok⟩;exact⟨_,Z,q pn nss H2 g hn hpn (by omega) hnd hok⟩
abbrev vQ:Stmt:=top 29
abbrev sH:List Str:=["_law_owners"]
abbrev NG:List Str:=sH
theorem Mb:aS NG sH (aF vQ):=dX
theorem Mc(F:At K mg "_law_lite" vQ f fd)(fU:mg "list"=none):Dn P w K mg base 1 "_law_lite" sH (Tj K):=by
 refine F.oA Mb λcdv A outer s H vs Q E hr h=>?_;obtain⟨⟨l,own,n,ρ,rfl,hl,G,hle,q⟩⟩:=h;refine⟨_,(@dg.h _ _ _ (aA (bJ (YG (Cm bR (iL (jC K) (by rfl) fU zP (ah (qv 0) au)) (Cm bR (iK au) (Cm bR (iK au) YE))) (by rfl) (by rfl) (λz=>nomatch z) (by with_unfolding_all decide))))),?_⟩;intro m hm;have g0:=aG hm (.dK []);have em0:upd H m (.dK []) m=some (.dK []):=ai;have qm:=g0.seq hl;generalize upd H m (.dK [])=H0 at *;refine⟨_,Z,l,_,Z,.inl qm,λlo hlo=>?_⟩;have g1:=aG hlo (.lst (own.map V.str));have eo1:upd H0 lo (.lst (own.map V.str)) lo=some (.lst (own.map V.str)):=ai;have em1:=g1 _ _ em0;generalize upd H0 lo (.lst (own.map V.str))=H1 at *;refine⟨(iO 0),λlp vR=>?_⟩;have g2:=aG vR (.lst []);have ep2:upd H1 lp (.lst []) lp=some (.lst []):=ai;have Xc:=g2 _ _ eo1;have em2:=g2 _ _ em1;show Df _ _ (upd H1 lp (.lst [])) _;generalize upd H1 lp (.lst [])=H2 at *;refine⟨(iO 0),λlk hlk=>?_⟩;have g4:=aG hlk (.lst []);have ek4:upd H2 lk (.lst []) lk=some (.lst []):=ai;have ep4:=g4 _ _ ep2;have eo4:=g4 _ _ Xc;have em4:=g4 _ _ em2;show upd H2 lk (.lst []) m=_/\_;generalize upd H2 lk (.lst [])=H4 at *;have gA:=((g0.trans g1).trans g2).trans g4;have n1:lo≠m:=λe=>by rw[e,em0]at hlo;cases hlo
 have n2:lp≠m:=λe=>by rw[e,em1]at vR;cases vR
 have n3:lp≠lo:=λe=>by rw[e,eo1]at vR;cases vR
 have n7:lk≠m:=λe=>by rw[e,em2]at hlk;cases hlk
 have n8:lk≠lo:=λe=>by rw[e,Xc]at hlk;cases hlk
 have n9:lk≠lp:=λe=>by rw[e,ep2]at hlk;cases hlk
 refine⟨em4,[(Sum.inr "owners",.ref lo),(Sum.inr "parts",.ref lp),(Sum.inr "known",.ref lk)],Z,by show 3<=15;decide,?_⟩;have eK:xW [] [(Sum.inr "owners",.ref lo),(Sum.inr "parts",.ref lp),(Sum.inr "known",.ref lk)]=jS ⟨m,lo,lp,lk,[]⟩:=rfl;rw[eK];have u1:upd H4 m (.dK (jS ⟨m,lo,lp,lk,[]⟩)) m=some (.dK (jS ⟨m,lo,lp,lk,[]⟩)):=ai;have u2:upd H4 m (.dK (jS ⟨m,lo,lp,lk,[]⟩)) lo=some (.lst (own.map V.str)):=by rw[ay n1];exact eo4
 have u3:upd H4 m (.dK (jS ⟨m,lo,lp,lk,[]⟩)) lp=some (.lst []):=by rw[ay n2];exact ep4
 have u5:upd H4 m (.dK (jS ⟨m,lo,lp,lk,[]⟩)) lk=some (.lst []):=by rw[ay n7];exact ek4
 have G4:=(G.same gA).wr (a:=m) (o:=.dK (jS ⟨m,lo,lp,lk,[]⟩)) rfl;have hz:∀b o,H b=some o->upd H4 m (.dK (jS ⟨m,lo,lp,lk,[]⟩)) b=some o:=λb o e=>by rw[ay (λz=>by rw[z,hm]at e;cases e)];exact gA _ _ e
 have y1:H lo=none:=g0.free hlo;have y2:H lp=none:=(g0.trans g1).free vR;have y4:H lk=none:=((g0.trans g1).trans g2).free hlk;generalize upd H4 m (.dK (jS ⟨m,lo,lp,lk,[]⟩))=H5 at *;refine q (c8 (c8 (c8 (c8 ρ m (n,40,nx)) lo (n,41,nx)) lp (n,42,nx)) lk (n,43,nx)) ⟨m,lo,lp,lk,[]⟩ H5 ((((G4.color u1 rfl).color u2 rfl).color u3 rfl).color u5 rfl) ⟨u1,?_,u2,?_,u3,?_,u5,cC,uB,Z,λi p q e=>by simp at e⟩ (λb o e=>⟨hz b o e,?_⟩)
 .show c8 _ lk _ m=_;rw[bB (bX n7),bB (bX n2),bB (bX n1),cC]
 .show c8 _ lk _ lo=_;rw[bB (bX n8),bB (bX n3),cC]
 .show c8 _ lk _ lp=_;rw[bB (bX n9),cC]
 .rw [bB (aD e y4),bB (aD e y2),bB (aD e y1),bB (aD e hm)]
abbrev vS:Stmt:=top 30
abbrev nY:List Str:=["_law_script","_law_k","_law_j"]
abbrev NH:List Str:=nY.append ["_law_size"]
theorem AW:aS NH nY (aF vS):=dX
theorem Me(F:At K mg "_law_much" vS f fd)(aY:Dn P w K mg base 1 "_law_draw" iC (sQ K)):Dn P w K mg base 2 "_law_much" nY (Dq K):=by
 refine F.oA AW λcdv A outer s H vs Q E hr h=>?_;obtain⟨⟨a,ns,k,j,rfl,hS,h63,hk,hj,hj2,q⟩⟩:=h;refine⟨_,(@dg.h _ _ _ (ak (aW (i:=3) AW.nd (aU (d7 K) (iK (ah aq (ah aq (ah aq (ah (aP nO aq aq) au))))) (bK aY hr (ah (qv 0) (ah (qv 1) (ah (qv 2) (ah aq au)))))))
  (aA (bJ (aP c7 aq (bK aY hr (ah (qv 0) (ah (qv 1) (ah (aP c7 (qv 2) aq) (ah (qv 3) au)))))))))),?_⟩
 refine⟨_,_,Z,Z,⟨by decide,by decide,by decide⟩,(iO 4),λp1 hp1=>?_⟩;have g1:=aG hp1 (.lst [V.int 9,V.int 40,V.int 1000,V.int (10 ^ (9:Int).toNat)]);refine⟨_,Z,_,Z,_,Z,cZ (g1.seq hS) h63 hk hj (by omega) (by decide) λd _ d0 d1=>?_⟩;obtain⟨B,hB,hB0,hB1⟩:∃B:Int,sP [V.int 9,V.int 40,V.int 1000,V.int (10 ^ (9:Int).toNat)] d=some (.int B)/\0<B/\B<=1000000000:=by
  rcases(by omega:d=0\/d=1\/d=2\/d=3)with e|e|e|e
  .exact ⟨9,by rw[e];rfl,by decide,by decide⟩
  .exact ⟨40,by rw[e];rfl,by decide,by decide⟩
  .exact ⟨1000,by rw[e];rfl,by decide,by decide⟩
  .exact ⟨10 ^ (9:Int).toNat,by rw[e];rfl,by decide,by decide⟩
 refine⟨p1,_,_,_,Z,Z,aJ.of ai,hB,?_⟩;refine⟨_,Z,_,Z,_,Z,_,_,Z,Z,_,Z,cZ (g1.seq hS) h63 hk (by omega) (by omega) hB0 λe _ e0 e1=>⟨_,_,Z,Z,?_⟩⟩;exact q (1+e) _ (by omega) (by omega) g1
abbrev vU:Stmt:=top 31
abbrev nZ:List Str:=["_law_script","_law_k","_law_parts"]
abbrev NI:List Str:=nZ.append ["_law_spare","_law_order","_law_rows_here","_law_at_here","_law_way","_law_amount"]
theorem f_:aS NI nZ (aF vU):=dX
theorem Mf(F:At K mg "_law_rows" vU f fd)(aY:Dn P w K mg base 1 "_law_draw" iC (sQ K))(cE:mg "len"=none)(dj:mg "range"=none)(fU:mg "list"=none)(k_:mg "sum"=none)(xj:mg "min"=none):Dn P w K mg base 2 "_law_rows" nZ (E2 K):=by
 refine F.oA f_ λcdv A outer s H vs Q E hr h=>?_;obtain⟨⟨a,l,ns,k,us,ws,rfl,hS,h63,hk0,hk1,hl,hW,nd,hle,hw1,q⟩⟩:=h;refine⟨_,(@dg.h _ _ _ (ak (aW (i:=3) f_.nd (aP mD (bZ (Ac K rfl) (by rfl) k_ JD (ah (ko ["_law_part"] [none] rfl (eW K (qv 2)) (λ_ _ _ _=>(bg (i:=0) (show List.Nodup (["_law_part"] :List Str)from by decide +kernel))) (λ_ _ _ _=>(aU (iQ K) (qv 0) aq)) rfl (by rfl)) au)) aq))
  (ak (aW (i:=4) f_.nd (iL (HL rfl) (by rfl) fU zP (ah (Tc (by rfl) dj (ah (bZ (dJ K) (by rfl) cE gf (ah (qv 2) au)) au)) au)))
  (ak (jR (aX eO (bK aY hr (ah (qv 0) (ah (qv 1) (ah aq (ah aq au))))) aq (bu _)) (aA (aW (i:=4) f_.nd (K5 K (qv 4) (Jx C7 aq)))) bP)
  (ak (aW (i:=5) f_.nd (iK au))
  (ak (fG gc rfl (eW K (qv 4)) (bg (i:=6) f_.nd) (ak (aW (i:=7) f_.nd (bK aY hr (ah (qv 0) (ah (qv 1) (ah (aP c7 aq (aP iF aq (qv 6))) (ah aq au))))))
  (ak (aW (i:=8) f_.nd (bZ (S0 rfl) (by rfl) xj Qh (ah (aU (iQ K) (aU (d7 K) (qv 2) (qv 6)) aq) (ah (qv 3) (ah (aP nO aq aq) au)))))
  (ak (jR (lI (bW.pt (sZ (aX eO (qv 7) aq (bu _)) (uM (aX j8 (qv 8) aq (bu _)))))) (aA (aW (i:=8) f_.nd (aP c7 aq (bK aY hr (ah (qv 0) (ah (qv 1) (ah (aP c7 aq (aP iF aq (qv 6))) (ah (qv 8) au)))))))) bP)
  (aA (jR (lI (bW.pt (sZ (aX j8 (qv 7) aq (bu _)) (uM (aX j8 (qv 8) aq (bu _)))))) (ak (b_ (kY oM oJ oK eU (qv 5) (ah (iY (ah (aU (iQ K) (aU (d7 K) (qv 2) (qv 6)) aq) (ah (qv 8) au))) au)))
  (aA (aW (i:=3) f_.nd (aP mD (qv 3) (qv 8))))) bP))))))
  (aA (bJ (qv 5))))))))),?_⟩
 have ll:=hW.len;refine⟨_,Z,l,Z,⟨_,hl⟩,λl0 qm=>?_⟩;refine mF (J:=zW K l) (n:=us.length) 0 (λi o H'=>aR H H'/\o=((ws.take i).map (λr:Row=>r.2)).map V.int) (by omega) ⟨aG qm _,Z⟩ (λi o H' hi _ hp=>⟨_,_,hp.1.seq hl,bM hi⟩) (λo H' _ hp=>⟨_,hp.1.seq hl,aO _⟩) ?_ ?_
 .rintro i y o H2 H3 hi gD ha ⟨g,e⟩ ⟨rfl,hy⟩;have hiw:i<ws.length:=by omega
  have ei:=bM hiw;obtain⟨ar,xs,ea,BO,x0,x2⟩:=hW.at_ i _ ei;have ey:=hy _ (g.seq hl);rw[ea]at ey;cases ey;refine⟨_,Z,(g.sq BO).ix (i:=2) x2 ?_⟩;refine⟨ha,g.dI qm _,?_⟩;subst e;rw[take_snoc ei,bV,bV];rfl
 rintro o1 H1 _ ha ⟨g1,e⟩;rw[ll,cO]at e;subst e;refine⟨l0,ws.map (λr:Row=>r.2),Z,aJ.of ha,_,_,Z,Z,?_⟩;show rS 3 (.int (aQ ws-1)) _ _ _;refine⟨_,Z,l,_,Z,.inl (g1.seq hl),_,Z,λpr hpr=>?_⟩;refine⟨pr,ws.length,Z,?_,by omega,λpo W_=>?_⟩
 .rw [ai,ll]
 have gA:=(aG hpr (.xQ 0 ((us.length:Nat):Int))).trans (aG W_ (.lst ((L2.upTo ws.length).map V.int)));have gB:=g1.trans gA;have hord:upd (upd H1 pr (.xQ 0 ((us.length:Nat):Int))) po (.lst ((L2.upTo ws.length).map V.int)) po=some (.lst ((L2.upTo ws.length).map V.int)):=ai;generalize upd (upd H1 pr (.xQ 0 ((us.length:Nat):Int))) po (.lst ((L2.upTo ws.length).map V.int))=H2 at *;have ndo:(L2.upTo ws.length).Nodup:=by unfold L2.upTo;refine List.Pairwise.map _ (λx y h e=>h (by omega)) List.nodup_range
 have xQ:∀x∈L2.upTo ws.length,0<=x/\x<(ws.length:Int):=λx hx=>by unfold L2.upTo at hx;obtain⟨i,hi,rfl⟩:=a_.mp hx;have:=yr.mp hi;omega
 have lup:(L2.upTo ws.length).length=ws.length:=by unfold L2.upTo;rw[aH,List.length_range]
 refine⟨λσ H3=>aR H H3/\∃(pq:Addr)(os:List Int),σ=[some (.ref a),some (.int k),some (.ref l),some (.int (aQ ws-1)),some (.ref pq),none,none,none,none]/\H3 pq=some (.lst (os.map V.int))/\os.Nodup/\os.length=ws.length/\∀x∈os,0<=x/\x<(ws.length:Int),?_,?_⟩
 .refine ⟨_,Z,_,Z,cZ (gB.seq hS) h63 hk0 (by decide) (by decide) (by decide) λd _ d0 d1=>⟨Z,_,Z,cD (λc=>?_) (λc=>?_)⟩⟩
  .refine ⟨_,Z,_,Z,Z,po,_,Z,aJ.of hord,λpz hpz=>?_⟩;have g3:=aG hpz (.lst ((L2.upTo ws.length).map V.int).reverse);exact⟨gB.trans g3,pz,(L2.upTo ws.length).reverse,Z,by rw[ai,Jh],List.pairwise_reverse.mpr (List.Pairwise.imp (λh=>bX h) ndo),by rw[List.length_reverse,lup],λx hx=>xQ x (List.mem_reverse.mp hx)⟩
  .exact ⟨gB,po,L2.upTo ws.length,Z,hord,ndo,lup,xQ⟩
 rintro σ H3 ⟨g3,pq,os,rfl,hos,hnd,gD,hrg⟩;refine⟨(iO 0),λz hz=>?_⟩;have g4:=aG hz (.lst []);have hzz:upd H3 z (.lst []) z=some (.lst []):=ai;have abX:=g4 _ _ hos;have nz:pq≠z:=λe=>by rw[e,hz]at hos;cases hos
 have hzH:H z=none:=g3.free hz;have g34:=g3.trans g4;show i9 _ _ _ _ (upd H3 z (.lst []));generalize upd H3 z (.lst [])=H4 at *;have w1:ws≠[]->1<=aQ ws:=λhne=>by
  cases ws with
  | nil=>exact absurd rfl hne
  | cons r rs=>have h1:=hw1 r cU;have h2:=qX (rs:=rs) λx hx=>hw1 x (cA _ hx);rw[show aQ (r::rs)=r.2+aQ rs from by unfold aQ;rw[bz,c_]];omega
 refine⟨_,Z,pq,Z,⟨_,aJ.of abX⟩,?_⟩;refine jW (K:=K) (xs:=os.map V.int) (λi σ H'=>aR H H'/\H' pq=some (.lst (os.map V.int))/\∃(zs:List V)(rs:List Row)(sp:Int)(s6 s7 s8:Option V),σ=[some (.ref a),some (.int k),some (.ref l),some (.int sp),some (.ref pq),some (.ref z),s6,s7,s8]/\H' z=some (.lst zs)/\ee H' zs rs/\rs.length<=i/\(rs.map (λr:Row=>r.1)).Nodup/\
   sp=aQ ws-1-aQ rs/\(ws≠[]->0<=sp)/\∀r∈rs,1<=r.2/\r.2<=1000000000/\∃j:Nat,((j:Nat):Int)∈os.take i/\∃w,ws[j]?=some w/\w.1=r.1/\r.2<=w.2)
  ⟨g34,abX,[],[],aQ ws-1,none,none,none,Z,hzz,.nil,aO _,uB,by show _=aQ ws-1-0;omega,λhne=>by have:=w1 hne;omega,λr hr=>absurd hr (by simp)⟩ ?_ ?_ ?_
 .rintro i σ H' _ ⟨_,h,_⟩;exact aJ.of h
 .rintro i x σ H5 hx ⟨g5,hq5,zs,rs,sp,s6,s7,s8,rfl,PJ,hR,hrl,Xj,uS,Ru,xG⟩;rw[cN]at hx;obtain⟨at',hat,rfl⟩:=nH.mp hx;have hio:=(dY.mp hat).1;obtain⟨t0,t1⟩:=hrg at' (cu hat);obtain⟨jt,hjt⟩:∃jt:Nat,((jt:Nat):Int)=at':=⟨at'.toNat,by omega⟩
  subst hjt;have hjl:jt<ws.length:=by omega
  have hne:ws≠[] :=λe=>by rw[e]at hjl;simp at hjl
  have ahj:=Ru hne;have hnot:((jt:Nat):Int)∉os.take i:=λm=>by obtain⟨j,hj,ej⟩:=List.mem_iff_getElem.mp m;rw[List.getElem_take]at ej;rw[kN]at hj;have e2:=(dY.mp hat).2;have:=(List.getElem_inj hnd).mp (ej.trans e2.symm);omega
  have ej:=bM hjl;have hwj:=hw1 _ (cu ej);generalize ws[jt]=wj at *;obtain⟨ar,xs,ea,BO,x0,x2⟩:=hW.at_ jt _ ej;refine⟨_,Z,_,Z,_,Z,_,_,Z,Z,.inl ⟨by decide,by decide⟩,_,_,Z,Z,cZ (g5.seq hS) h63 hk0 (by omega) (by omega) (by decide) λway _ v0 v1=>?_⟩;refine⟨_,Z,_,Z,l,_,_,_,Z,Z,g5.seq hl,aM ea,(g5.sq BO).ix (i:=2) x2 ?_⟩;refine⟨_,Z,_,_,Z,Z,⟨by decide,by decide,by decide⟩,_,_,_,Z,?_⟩;obtain⟨m1,m2,m3⟩:=Yz wj.2 sp ((10:Int) ^ (9:Int).toNat);have m0:0<=vc wj.2 sp ((10:Int) ^ (9:Int).toNat):=YA (by omega) ahj (by decide);have m3:vc wj.2 sp ((10:Int) ^ (9:Int).toNat)<=1000000000:=m3;generalize vc wj.2 sp ((10:Int) ^ (9:Int).toNat)=m at *;refine⟨λσ H6=>H5=H6/\∃m:Int,0<=m/\m<=sp/\m<=wj.2/\m<=1000000000/\σ=[some (.ref a),some (.int k),some (.ref l),some (.int sp),some (.ref pq),some (.ref z),some (.int (jt:Int)),some (.int way),some (.int m)],?_,?_⟩
  .refine ⟨decide (way=2/\0<m),?_,?_⟩
   .refine ⟨_,Z,Z,_,Z,?_⟩;by_cases h1:way=2
    .rw [br (by rw[h1] :V.int way=V.int 2)];refine nK ⟨_,Z,_,_,Z,Z,_,Z,?_,Z⟩;by_cases h2:0<m
     .rw [br h2,br ⟨h1,h2⟩]
     .rw [dF h2,dF λz=>h2 z.2]
    .rw [dF (λz=>h1 (V.int.inj z))];exact bL ⟨(dF λz=>h1 z.1).symm,Z⟩
   refine cD (λc=>?_) (λc=>?_)
   .obtain ⟨_,c2⟩:=eF c;refine⟨_,Z,_,Z,_,Z,_,_,Z,Z,.inl ⟨by decide,by decide⟩,_,_,Z,Z,_,Z,cZ (g5.seq hS) h63 hk0 (by omega) (by omega) c2 λd _ d0 d1=>⟨_,_,Z,Z,Z,1+d,by omega,by omega,by omega,by omega,Z⟩⟩
   .exact ⟨Z,m,m0,m2,m1,m3,Z⟩
  rintro σ H6 ⟨rfl,o,o0,o1,o2,o3,rfl⟩;have grow:∀r∈rs,1<=r.2/\r.2<=1000000000/\∃j:Nat,((j:Nat):Int)∈os.take (i+1)/\∃w,ws[j]?=some w/\w.1=r.1/\r.2<=w.2:=λr hr=>by obtain⟨a1,a2,j,a3,a4⟩:=xG r hr;exact⟨a1,a2,j,by rw[take_snoc hat];exact zQ _ a3,a4⟩
  refine⟨λσ H6=>aR H H6/\H6 pq=some (.lst (os.map V.int))/\∃(zs:List V)(rs:List Row)(sp:Int)(s6 s7 s8:Option V),σ=[some (.ref a),some (.int k),some (.ref l),some (.int sp),some (.ref pq),some (.ref z),s6,s7,s8]/\H6 z=some (.lst zs)/\ee H6 zs rs/\rs.length<=i+1/\(rs.map (λr:Row=>r.1)).Nodup/\
   sp=aQ ws-1-aQ rs/\(ws≠[]->0<=sp)/\∀r∈rs,1<=r.2/\r.2<=1000000000/\∃j:Nat,((j:Nat):Int)∈os.take (i+1)/\∃w,ws[j]?=some w/\w.1=r.1/\r.2<=w.2,?_,λ_ _ h=>h⟩
  refine⟨decide (0<way/\0<o),?_,?_⟩
  .refine ⟨_,Z,_,_,Z,Z,_,Z,?_⟩;by_cases h1:0<way
   .rw [br h1];refine nK ⟨_,Z,_,_,Z,Z,_,Z,?_,Z⟩;by_cases h2:0<o
    .rw [br h2,br ⟨h1,h2⟩]
    .rw [dF h2,dF λz=>h2 z.2]
   .rw [dF h1];exact bL ⟨(dF λz=>h1 z.1).symm,Z⟩
  refine cD (λc=>?_) (λc=>?_)
  .obtain ⟨_,c2⟩:=eF c;refine⟨_,Z,.inl ⟨Z,_,aJ.of PJ⟩,_,Z,_,Z,l,_,_,_,Z,Z,g5.seq hl,aM ea,(g5.sq BO).ix (i:=0) x0 ?_⟩;refine⟨_,Z,(iO 2),λp hp=>?_⟩;have g6:=aG hp (yK (wj.1,o));have hz6:=g6 _ _ PJ;have Xb:=g6 _ _ hq5;have W0:upd H5 p (yK (wj.1,o)) p=some (yK (wj.1,o)):=ai;have ahk:=hR.length;show xw _ (upd H5 p (yK (wj.1,o))) _;generalize upd H5 p (yK (wj.1,o))=H6 at *;refine⟨z,_,_,Z,Z,hz6,by rw[ahk];exact dH (by omega),?_⟩;have np:p≠z:=λe=>by rw[e,PJ]at hp;cases hp
   have tu:∀b ys,H6 b=some (.tup ys)->upd H6 z (.lst (zs++[.ref p])) b=some (.tup ys):=ig (.inr ⟨_,hz6,Z⟩);refine⟨_,Z,_,Z,_,_,Z,Z,(g5.trans g6).dI hzH _,by rw[ay nz];exact Xb,zs++[.ref p],rs++[(wj.1,o)],sp-o,_,_,_,Z,ai,((hR.mono g6.tups).snoc W0).mono tu,by rw[dD];show rs.length+1<=i+1;omega,?_,?_,λ_=>by omega,?_⟩
   .rw [bV];refine pC Xj λhm=>?_;obtain⟨r,hr,er⟩:=a_.mp hm;obtain⟨_,_,j,hj,w,abZ,e1,_⟩:=xG r hr;have hj2:j<ws.length:=(dY.mp abZ).1;have r1:(ws.map (λr:Row=>r.1))[j]?=some w.1:=by rw[cN,abZ];rfl
    have r2:(ws.map (λr:Row=>r.1))[jt]?=some wj.1:=by rw[cN,ej];rfl
    have er:r.1=wj.1:=er;have:j=jt:=(Qv (by rw[aH];exact hj2) nd).mp (r1.trans (by rw[e1,er];exact r2.symm));rw[this]at hj;exact hnot hj
   .rw [show aQ (rs++[(wj.1,o)])=aQ rs+o from by unfold aQ;rw[bV,AY];simp];omega
   .intro r hr;rcases fu.mp hr with h1|h1
    .exact grow r h1
    .rw [eX.mp h1];exact⟨by show 1<=o;omega,o3,jt,by rw[take_snoc hat];exact gG _ (eX.mpr rfl),wj,ej,Z,o2⟩
  .exact ⟨g5,hq5,zs,rs,sp,_,_,_,Z,PJ,hR,by omega,Xj,uS,Ru,grow⟩
 rintro σ H5 ⟨g5,hq5,zs,rs,sp,s6,s7,s8,rfl,PJ,hR,hrl,Xj,uS,Ru,xG⟩;rw[aH,gD]at hrl;refine⟨_,Z,q z zs rs H5 g5 hzH PJ hR ⟨Xj,λr hr=>?_,?_,hrl⟩⟩
 .obtain ⟨a1,a2,j,_,w,hw,e1,e2⟩:=xG r hr;exact⟨a1,a2,w,cu hw,e1,e2⟩
 .by_cases c:ws=[]
  .right;rw[c]at hrl;exact List.length_eq_zero_iff.mp (by simpa using hrl)
  .left;have:=Ru c;omega
abbrev vV:Stmt:=top 32
abbrev n5:List Str:=["_law_rows_here"]
abbrev NJ:List Str:=n5.append ["_law_things","_law_name_here","_law_amount"]
theorem qA:aS NJ n5 (aF vV):=dX
theorem Mg(F:At K mg "_law_flat" vV f fd)(FH:mg "tuple"=none):Dn P w K mg base 1 "_law_flat" n5 (Li K):=by
 refine F.oA qA λcdv A outer s H vs Q E hr h=>?_;obtain⟨⟨l,us,rs,rfl,hl,hR,hle,q⟩⟩:=h;refine⟨_,(@dg.h _ _ _ (ak (aW (i:=1) qA.nd (iK (ah bR au)))
  (ak (fG gc rfl (eW K (qv 0)) (iS K (n:=2) rfl (cM (bg (i:=2) qA.nd) (cM (bg (i:=3) qA.nd) iR))) (ak (b_ (kY oM oJ oK eU (qv 1) (ah (qv 2) au)))
  (aA (b_ (kY oM oJ oK eU (qv 1) (ah (qv 3) au))))))
  (aA (bJ (iL HJ (by rfl) FH PyProof.Rows.boot_tuple (ah (qv 1) au))))))),?_⟩
 have hul:=hR.length;refine⟨(iO 1),λt ht=>?_⟩;have g0:=aG ht (.lst [.str "cast"]);have h0:upd H t (.lst [.str "cast"]) t=some (.lst (Dd.v (.cast (rs.take 0)))):=ai;show i9 _ _ _ _ (upd H t (.lst [.str "cast"]));generalize upd H t (.lst [.str "cast"])=H0 at *;refine⟨_,Z,l,Z,⟨us,g0.seq hl⟩,?_⟩;refine jW (K:=K) (xs:=us) (λi σ H'=>aR H H'/\H' t=some (.lst (Dd.v (.cast (rs.take i))))/\∃s2 s3,σ=[some (.ref l),some (.ref t),s2,s3]) ⟨g0,h0,_,_,Z⟩ (λi σ H' _ hp=>hp.1.seq hl) ?_ ?_
 .rintro i x σ H' hx ⟨g,hd',s2,s3,rfl⟩;obtain⟨a,r,rfl,er,ha⟩:=hR.get hx;have hlt:(Dd.v (.cast (rs.take i))).length+1<sizeLine:=by show(jO (rs.take i)).length+1+1<_;rw[Az,kN,kP];exact JG (show _<=3000 by omega) (by decide)
  refine⟨a,_,Z,dG.of (g _ _ ha),Z,_,_,Z,_,_,Z,Z,?_⟩;refine⟨_,Z,.inl ⟨Z,_,aJ.of hd'⟩,_,Z,t,_,_,Z,Z,hd',by omega,?_⟩;refine⟨_,Z,.inl ⟨Z,_,aJ.of ai⟩,_,Z,t,_,_,Z,Z,ai,by rw[dD];exact hlt,?_⟩;refine⟨?_,?_,_,_,Z⟩
  .rw [lH];exact g.dI ht _
  .rw [ai,take_snoc er];show some (HO.lst ((V.str "cast"::jO (rs.take i)++[V.str r.1])++[V.int r.2]))=some (HO.lst (V.str "cast"::jO (rs.take i++[r])));rw[Ay];simp[jO]
 rintro σ H' ⟨g,hd',s2,s3,rfl⟩;rw[hul,cO]at hd';refine⟨_,Z,t,_,Z,.inl ⟨aJ.of hd',λz hz=>q z _ (g.trans (aG hz _)) ai⟩⟩
abbrev nN:Stmt:=top 33
abbrev lg:List Str:=["_law_script","_law_k","_law_model","_law_names_here","_law_way"]
abbrev CI:List Str:=lg.append ["_law_parts","_law_part","_law_owner","_law_whole","_law_rows_here","_law_amount"]
theorem fW:aS CI lg (aF nN):=dX
theorem Bw(F:At K mg "_law_part_deed" nN f fd)(aY:Dn P w K mg base 1 "_law_draw" iC (sQ K))(lM:Dn P w K mg base 2 "_law_much" nY (Dq K))(lN:Dn P w K mg base 2 "_law_rows" nZ (E2 K))(lO:Dn P w K mg base 1 "_law_flat" n5 (Li K))(cE:mg "len"=none)(k_:mg "sum"=none)(xj:mg "min"=none):Dn P w K mg base 3 "_law_part_deed" lg (DT K):=by
 refine F.oA fW λcdv A outer s H vs Q E hr h=>?_;obtain⟨⟨a,m,ln,ns,k,way,nms,c,st,rfl,hS,h63,hk0,hk1,hq,hN,nx,hnl,wf,g,hc,hp0,q⟩⟩:=h;refine⟨_,(@dg.h _ _ _ (ak (aW (i:=5) fW.nd (eV (d9 hr) (qv 2) bR))
  (ak (aW (i:=6) fW.nd (aU (d7 K) (qv 5) (bK aY hr (ah (qv 0) (ah (qv 1) (ah aq (ah (bZ (dJ K) (by rfl) cE gf (ah (qv 5) au)) au)))))))
  (ak (aW (i:=7) fW.nd (aU (d7 K) (eV (d9 hr) (qv 2) bR) (bK aY hr (ah (qv 0) (ah (qv 1) (ah aq (ah (bZ (dJ K) (by rfl) cE gf (ah (eV (d9 hr) (qv 2) bR) au)) au)))))))
  (ak (aW (i:=8) fW.nd (bZ (Ac K rfl) (by rfl) k_ JD (ah (ko ["_law_one"] [none] rfl (eW K (qv 5)) (λ_ _ _ _=>(bg (i:=0) (show List.Nodup (["_law_one"] :List Str)from by decide +kernel))) (λ_ _ _ _=>(aU (iQ K) (qv 0) aq)) rfl (by rfl)) au)))
  (ak (jR (aX rT (qv 4) aq (bu _)) (ak (aW (i:=9) fW.nd (bK lN hr (ah (qv 0) (ah (qv 1) (ah (qv 5) au)))))
  (aA (cX (aX j8 (bZ (dJ K) (by rfl) cE gf (ah (qv 9) au)) aq (bu _)) (aA (bJ (bK lO hr (ah (qv 9) au)))) bP))) bP)
  (ak (cX (aX eO (qv 4) aq (bu _)) (aA (bJ (iY (ah bR (ah (aU (iQ K) (qv 6) aq) (ah (qv 7) au)))))) bP)
  (ak (cX (aX eO (qv 4) aq (bu _)) (aA (bJ (iY (ah bR (ah (aU (iQ K) (qv 6) aq) au))))) bP)
  (ak (cX (lI (bW.pt (sZ (aX eO (qv 4) aq (bu _)) (uM (aX j8 (qv 8) aq (bu _)))))) (aA (bJ (iY (ah bR (ah (qv 7) (ah (aP c7 aq (bK aY hr (ah (qv 0) (ah (qv 1) (ah aq (ah (bZ (zX rfl) (by rfl) xj Qh (ah (aP mD (qv 8) aq) (ah (aP nO aq aq) au))) au)))))) au)))))) bP)
  (ak (cX (lI (bW.pt (sZ (aX eO (qv 4) aq (bu _)) (sZ (aX j8 (aU (iQ K) (qv 6) aq) aq (bu _)) (uM (aX rT (bZ (dJ K) (by rfl) cE gf (ah (eV (d9 hr) (qv 2) bR) au)) (bZ (dJ K) (by rfl) cE gf (ah (qv 3) au)) (bu _))))))) (ak (aW (i:=10) fW.nd (aP c7 aq (bK aY hr (ah (qv 0) (ah (qv 1) (ah aq (ah (bZ (zX rfl) (by rfl) xj Qh (ah (aP mD (aU (iQ K) (qv 6) aq) aq) (ah (aP nO aq aq) au))) au)))))))
  (aA (bJ (iY (ah bR (ah (aU (iQ K) (qv 6) aq) (ah (aU (d7 K) (qv 3) (bZ (dJ K) (by rfl) cE gf (ah (eV (d9 hr) (qv 2) bR) au))) (ah (qv 10) (ah (bK aY hr (ah (qv 0) (ah (qv 1) (ah aq (ah (aP c7 (aU (iQ K) (qv 6) aq) aq) au))))) au))))))))) bP)
  (ak (cX (aX eO (qv 4) aq (bu _)) (aA (bJ (iY (ah bR (ah (aU (iQ K) (qv 6) aq) (ah (aP c7 aq (bK aY hr (ah (qv 0) (ah (qv 1) (ah aq (ah (bZ (zX rfl) (by rfl) xj Qh (ah (aU (iQ K) (qv 6) aq) (ah (aP nO aq aq) au))) au)))))) au)))))) bP)
  (aA (bJ (iY (ah bR (ah (aU (iQ K) (qv 6) aq) (ah (bK lM hr (ah (qv 0) (ah (qv 1) (ah aq au)))) au))))))))))))))))),?_⟩
 obtain⟨kvs,lo,lp,lk,us,om,vo,vp,vk,oo,op,rw',ok⟩:=hq;have ll:=rw'.len;have hpl:=g.pl;have gD:=wf.kh;have ahl:=g.ol;refine⟨_,Z,m,_,Z,vp▸eY.k (k:=Sum.inr "parts") om,?_⟩;refine⟨_,Z,_,Z,_,Z,_,Z,_,us,Z,.inl op,cZ hS h63 hk0 (by decide) (by decide) (by omega) λd _ d0 d1=>?_⟩;obtain⟨j,rfl⟩:∃j:Nat,d=(j:Int):=⟨d.toNat,by omega⟩
 have hj:j<st.aj.length:=by omega
 have ep:=bM hj;have gq:=Jg hj;generalize st.aj[j]=p at *;obtain⟨ap,xs,ea,BO,x0,x1,x2,x3⟩:=rw'.at_ j p ep;refine⟨lp,_,_,_,Z,Z,op,aM ea,?_⟩;refine⟨_,Z,m,_,Z,vo▸eY.k (k:=Sum.inr "owners") om,_,Z,_,Z,_,Z,m,_,Z,vo▸eY.k (k:=Sum.inr "owners") om,lo,_,Z,.inl oo,cZ hS h63 hk0 (by decide) (by decide) (by rw[aH];omega) λwd _ w0 w1=>?_⟩;rw[aH]at w1;obtain⟨jo,o,ejo,eo,eat⟩:=KJ (l:=st.own) (d:=wd) w0 w1;refine⟨lo,_,_,_,Z,Z,oo,eat,?_⟩;have how:=cu eo;have wol:wl o<=20:=pH (g.on o how);have TZ:wl p.nm<=20:=pH (g.nk _ (wf.sub p gq));have hw0:=wf.jI p gq;have eg:bH st p.nm=p:=bQ wf gq rfl;have hin:p.nm∈d_ st:=Bq ep;refine⟨_,Z,lp,Z,⟨_,op⟩,λl0 qm=>?_⟩;refine mF (J:=zW K lp) (n:=us.length) 0 (λi o H'=>aR H H'/\o=((st.aj.take i).map (λp:Pt=>p.wo)).map V.int) (by omega) ⟨aG qm _,Z⟩ (λi o H' hi _ hp=>⟨_,_,hp.1.seq op,bM hi⟩) (λo H' _ hp=>⟨_,hp.1.seq op,aO _⟩) ?_ ?_
 .rintro i y o H2 H3 hi gD ha ⟨g,e⟩ ⟨rfl,hy⟩;have hiw:i<st.aj.length:=by omega
  have ei:=bM hiw;obtain⟨ar,xs,ea,BO,_,_,x2,_⟩:=rw'.at_ i _ ei;have ey:=hy _ (g.seq op);rw[ea]at ey;cases ey;refine⟨_,Z,(g.sq BO).ix (i:=2) x2 ?_⟩;refine⟨ha,g.dI qm _,?_⟩;subst e;rw[take_snoc ei,bV,bV];rfl
 rintro o1 H1 _ ha ⟨g1,e⟩;rw[ll,cO]at e;subst e;refine⟨l0,st.aj.map (λp:Pt=>p.wo),Z,aJ.of ha,?_⟩;show rS 8 (.int (aE st)) _ _ _;have ret:∀(t:Addr)(d:Dd)(H2:Hp),aR H H2->H2 t=none->Br nms st d->Q (.ref t) (upd H2 t (.tup (Dd.v d))):=λt d H2 g2 ht hd=>q t d _ (g2.trans (aG ht _)) ai hd;have keep:∀d:Dd,jr st d=none->KY d->d.pl=true->Br nms st d:=λd h1 h2 h3=>⟨h1,h2,nx.keep (Lh (Dd.Vz h3).1 (Dd.Vz h3).2.1),(Dd.Vz h3).2.2⟩
 refine⟨λσ' H'=>aR H H'/\∃s9,σ'=[some (.ref a),some (.int k),some (.ref m),some (.ref ln),some (.int way),some (.ref lp),some (.ref ap),some (.str o),some (.int (aE st)),s9,none],?_,?_⟩
 .refine ⟨_,Z,_,_,Z,Z,_,Z,cD (λ_=>?_) (λ_=>⟨g1,_,Z⟩)⟩;have hw1:∀w∈mP st,1<=w.2:=λw hw=>by obtain⟨p,hp,rfl⟩:=a_.mp hw;exact(wf.jI p hp).1
  have nwN:((mP st).map (λr:Row=>r.1)).Nodup:=by unfold mP;rw[gj];exact wf.dN
  have nwL:(mP st).length=st.aj.length:=by unfold mP;rw[aH]
  refine⟨_,Z,_,Z,_,Z,⟨⟨a,lp,ns,k,us,mP st,Z,g1.seq hS,h63,hk0,hk1,g1.seq op,(rw'.mono g1).nw,nwN,by omega,hw1,λz zs rs H2 g2 hz0 hz1 hR hro=>?_⟩⟩⟩;have zl:=hR.length;refine⟨_,Z,z,zs,Z,.inl (aJ.of hz1),_,_,Z,Z,_,Z,cD (λc=>?_) (λc=>⟨g1.trans g2,_,Z⟩)⟩;have c':(0:Int)<(zs.length:Int):=eF c;have hne:rs≠[] :=λe=>by rw[zl,e]at c';simp at c'
  have rl:=hro.len;have:=nx.pl wf;refine⟨_,Z,⟨⟨z,zs,rs,Z,aJ.of hz1,hR,by omega,λt H3 g3 ht=>q t (.cast rs) H3 ((g1.trans g2).trans g3) ht (keep _ (DS wf hro hne) ⟨by omega,λr hr=>?_⟩ rfl)⟩⟩⟩;obtain⟨r1,r2,w,hw,e,_⟩:=hro.row r hr;obtain⟨p',dO,rfl⟩:=a_.mp hw;have e:p'.nm=r.1:=e;exact⟨by rw[<-e];exact pH (g.nk _ (wf.sub p' dO)),by omega,r2⟩
 rintro σ H2 ⟨g2,s9,rfl⟩;have xK:=g2.sq BO;have Mh:=g2.seq hS;have P9:UJ 10 9:=⟨by decide,by decide,by decide +kernel⟩
 have p9:(10:Int) ^ (9:Int).toNat=1000000000:=by decide +kernel
 have mn:∀w:Int,0<w->0<(if(10:Int) ^ (9:Int).toNat<w then(10:Int) ^ (9:Int).toNat else w)/\(if(10:Int) ^ (9:Int).toNat<w then(10:Int) ^ (9:Int).toNat else w)<=w/\(if(10:Int) ^ (9:Int).toNat<w then(10:Int) ^ (9:Int).toNat else w)<=1000000000:=λw h=>by rw[p9];split <;> omega
 refine⟨_,Z,Z,_,Z,cD (λ_=>?_) (λ_=>?_)⟩
 .exact ⟨_,Z,xK.ix (i:=0) x0 ⟨_,Z,(iO 3),λt ht=>ret t (.hand p.nm o) H2 g2 ht (keep _ (by show jx st p.nm o=none;unfold jx;rw[aC hin,aC how]) ⟨TZ,wol⟩ rfl)⟩⟩
 refine⟨_,Z,Z,_,Z,cD (λ_=>?_) (λ_=>?_)⟩
 .exact ⟨_,Z,xK.ix (i:=0) x0 ⟨(iO 2),λt ht=>ret t (.land p.nm) H2 g2 ht (keep _ (aC hin) TZ rfl)⟩⟩
 by_cases BL:way=10/\1<aE st
 .refine ⟨true,⟨_,Z,Z,_,Z,cD (λ_=>⟨_,Z,_,_,Z,Z,_,Z,br BL.2,Z⟩) (λc=>absurd (br (by rw[BL.1])) c)⟩,nK ?_⟩;obtain⟨m0,m1,m2⟩:=mn (aE st-1) (by omega);refine⟨_,Z,_,Z,_,Z,_,Z,_,_,Z,Z,_,_,Z,Z,P9,_,_,Z,cZ Mh h63 hk0 (by decide) (by decide) m0 λd _ d0 d1=>⟨_,_,Z,Z,(iO 3),λt ht=>ret t (.award o (1+d)) H2 g2 ht (keep _ ?_ ⟨wol,by omega,by omega⟩ rfl)⟩⟩;show jQ st o (1+d)=none;unfold jQ;rw[aC how,aB (by omega),aB (by omega)]
 refine⟨false,⟨_,Z,Z,_,Z,cD (λc=>⟨_,Z,_,_,Z,Z,_,Z,dF (λz=>BL ⟨V.int.inj (eF c),z⟩),Z⟩) (λc=>⟨Z,Z⟩)⟩,bL ?_⟩;have Rv:((nms.map V.str).length:Int)=(nms.length:Int):=by rw[aH]
 have Rw:((st.nms.map V.str).length:Int)=(st.nms.length:Int):=by rw[aH]
 by_cases h11:way=11/\1<p.wo/\st.nms.length<nms.length
 .refine ⟨true,⟨_,Z,Z,_,Z,cD (λ_=>⟨_,Z,xK.ix (i:=2) x2 ⟨_,_,Z,Z,_,Z,cD (λ_=>⟨_,Z,m,_,Z,vk▸eY.k (k:=Sum.inr "known") (g2 _ _ om),lk,_,Z,.inl (g2.seq ok),_,Z,ln,_,Z,.inl (g2.seq hN),_,_,Z,Z,_,Z,br (by rw[Rv,Rw];omega),Z⟩) (λc=>absurd (br h11.2.1) c)⟩⟩) (λc=>absurd (br (by rw[h11.1])) c)⟩,nK ?_⟩;obtain⟨m0,m1,m2⟩:=mn (p.wo-1) (by omega);have ey:=bM h11.2.2;obtain⟨y1,y2,y3⟩:=nx.next ey;generalize nms[st.nms.length]=y at *;have eyv:sP (nms.map V.str) ((st.nms.length:Nat):Int)=some (.str y):=aM (by rw[cN,ey];rfl);refine⟨_,Z,_,Z,_,Z,xK.ix (i:=2) x2 ⟨_,_,Z,Z,_,_,Z,Z,P9,_,_,Z,cZ Mh h63 hk0 (by decide) (by decide) m0 λd _ d0 d1=>⟨_,_,Z,Z,?_⟩⟩⟩;refine⟨_,Z,xK.ix (i:=0) x0 ⟨_,Z,_,Z,m,_,Z,vk▸eY.k (k:=Sum.inr "known") (g2 _ _ om),lk,_,Z,.inl (g2.seq ok),ln,_,_,_,Z,Z,g2.seq hN,by rw[aH];exact eyv,_,Z,_,Z,_,Z,_,Z,xK.ix (i:=3) x3 ⟨_,_,Z,Z,cZ Mh h63 hk0 (by decide) (by decide) (by omega) λv _ v0 v1=>⟨(iO 5),λt ht=>ret t (.sever p.nm y (1+d) v) H2 g2 ht ⟨?_,⟨TZ,pH y1,⟨by omega,by omega⟩,⟨by omega,?_⟩⟩,y3 _ rfl,by show(8:Nat)≠0;decide⟩⟩⟩⟩⟩
  .show iJ st p.nm y (1+d) v=none;unfold iJ;rw[aC hin,Ax y1 y2,eg];show(if _ then _ else _)=none;rw[aB (by omega),aB (by omega)]
  .have:=g.we p gq;omega
 refine⟨false,⟨_,Z,Z,_,Z,cD (λc=>⟨_,Z,xK.ix (i:=2) x2 ⟨_,_,Z,Z,_,Z,cD (λc2=>⟨_,Z,m,_,Z,vk▸eY.k (k:=Sum.inr "known") (g2 _ _ om),lk,_,Z,.inl (g2.seq ok),_,Z,ln,_,Z,.inl (g2.seq hN),_,_,Z,Z,_,Z,dF (λz=>h11 ⟨V.int.inj (eF c),eF c2,by rw[Rv,Rw]at z;omega⟩),Z⟩) (λc=>⟨Z,Z⟩)⟩⟩) (λc=>⟨Z,Z⟩)⟩,bL ?_⟩;refine⟨_,Z,Z,_,Z,cD (λ_=>?_) (λ_=>?_)⟩
 .obtain ⟨m0,m1,m2⟩:=mn p.wo (by omega);refine⟨_,Z,xK.ix (i:=0) x0 ⟨_,Z,_,Z,_,Z,xK.ix (i:=2) x2 ⟨_,_,Z,Z,P9,_,_,Z,cZ Mh h63 hk0 (by decide) (by decide) m0 λd _ d0 d1=>⟨_,_,Z,Z,(iO 3),λt ht=>ret t (.mishap p.nm (1+d)) H2 g2 ht (keep _ ?_ ⟨TZ,by omega,by omega⟩ rfl)⟩⟩⟩⟩;show iW st (p.nm,1+d)=none;unfold iW;show(if p.nm∈d_ st then(if 1+d<1 then _ else if(bH st p.nm).wo<1+d then _ else _) else _)=none;rw[aC hin,aB (by omega),eg,aB (by omega)]
 refine⟨_,Z,xK.ix (i:=0) x0 ⟨_,Z,_,Z,Kc Mh h63 hk0 (by decide) (by decide) λw H3 w1 w2 g3=>⟨(iO 3),λt ht=>ret t (.rise p.nm w) H3 (g2.trans g3) ht (keep _ ?_ ⟨TZ,by omega,by omega⟩ rfl)⟩⟩⟩;show kX st p.nm w=none;unfold kX;rw[aC hin,aB (by omega)]
abbrev vW:Stmt:=top 34
abbrev sJ:List Str:=["_law_script","_law_k","_law_model","_law_names_here"]
abbrev NK:List Str:=sJ.append ["_law_way","_law_more","_law_owner","_law_worth"]
theorem mY:aS NK sJ (aF vW):=dX
theorem Mi(F:At K mg "_law_deed" vW f fd)(aY:Dn P w K mg base 1 "_law_draw" iC (sQ K))(lM:Dn P w K mg base 2 "_law_much" nY (Dq K))(o_:Dn P w K mg base 3 "_law_part_deed" lg (DT K))(cE:mg "len"=none):Dn P w K mg base 4 "_law_deed" sJ (Th K):=by
 refine F.oA mY λcdv A outer s H vs Q E hr h=>?_;obtain⟨⟨a,m,ln,ns,k,nms,c,st,rfl,hS,h63,hk0,hk1,hq,hN,nx,hnl,wf,g,hc,q⟩⟩:=h;refine⟨_,(@dg.h _ _ _ (ak (aW (i:=4) mY.nd (bK aY hr (ah (qv 0) (ah (qv 1) (ah aq (ah aq au))))))
  (ak (aW (i:=5) mY.nd (Bp rT (bZ (dJ K) (by rfl) cE gf (ah (eV (d9 hr) (qv 2) bR) au)) (bZ (dJ K) (by rfl) cE gf (ah (qv 3) au)) (bu _)))
  (ak (cX (lI (bW.pt (sZ (AA (qv 5)) (uM (lI (bW.pt (Jy (aX rT (qv 4) aq (bu _)) (DN (aX rT (bZ (dJ K) (by rfl) cE gf (ah (eV (d9 hr) (qv 2) bR) au)) aq (bu _)))))))))) (ak (aW (i:=6) mY.nd (aU (d7 K) (eV (d9 hr) (qv 2) bR) (bK aY hr (ah (qv 0) (ah (qv 1) (ah aq (ah (bZ (dJ K) (by rfl) cE gf (ah (eV (d9 hr) (qv 2) bR) au)) au)))))))
  (ak (aW (i:=7) mY.nd (bK lM hr (ah (qv 0) (ah (qv 1) (ah aq au)))))
  (aA (bJ (iY (ah bR (ah (aU (d7 K) (qv 3) (bZ (dJ K) (by rfl) cE gf (ah (eV (d9 hr) (qv 2) bR) au))) (ah (qv 6) (ah (qv 7) (ah (bK aY hr (ah (qv 0) (ah (qv 1) (ah aq (ah aq au))))) au)))))))))) bP)
  (ak (cX (aX eO (bZ (dJ K) (by rfl) cE gf (ah (eV (d9 hr) (qv 2) bR) au)) aq (bu _)) (aA (bJ (iY (ah bR au)))) bP)
  (aA (bJ (bK o_ hr (ah (qv 0) (ah (qv 1) (ah (qv 2) (ah (qv 3) (ah (qv 4) au))))))))))))),?_⟩
 obtain⟨kvs,lo,lp,lk,us,om,vo,vp,vk,oo,op,rw',ok⟩:=id hq;have ll:=rw'.len;have hpl:=g.pl;have gD:=wf.kh;have ahl:=g.ol;have Rv:((nms.map V.str).length:Int)=(nms.length:Int):=by rw[aH]
 have Rw:((st.nms.map V.str).length:Int)=(st.nms.length:Int):=by rw[aH]
 refine⟨_,Z,_,Z,cZ hS h63 hk0 (by decide) (by decide) (by decide) λway _ v0 v1=>?_⟩;refine⟨_,Z,m,_,Z,vk▸eY.k (k:=Sum.inr "known") om,lk,_,Z,.inl ok,_,Z,ln,_,Z,.inl hN,_,_,Z,Z,?_⟩;rw[Rv,Rw];have orR:∀b:Bool,b=decide (way<3\/st.aj.length<2)->(tOr (Js (Gp (BB λi j=>V.bl (decide (i<j))) (EK 4) (tC (V.int 3)))) (Js (Gp (BB λi j=>V.bl (decide (i<j))) (ZO (λxs H Q=>∃p ys,xs=[V.ref p]/\(aJ K H p ys\/dG K H p ys)/\Q (V.int ↑ys.length) H) (QG (Wz (EK 2) (tC (V.str "parts"))) xw)) (tC (V.int 2))))) [some (.ref a),some (.int k),some (.ref m),some (.ref ln),some (.int way),some (.bl (decide ((st.nms.length:Int)<(nms.length:Int)))),none,none] H (λb' H'=>b'=b/\H'=H):=λb eb=>by
  refine⟨_,Z,_,_,Z,Z,_,Z,cD (λc=>⟨?_,Z⟩) (λc=>⟨_,Z,m,_,Z,vp▸eY.k (k:=Sum.inr "parts") om,lp,_,Z,.inl op,_,_,Z,Z,_,Z,?_,Z⟩)⟩
  .rw [eb];exact(br (.inl (eF c))).symm
  .have c':¬ way<3:=uP (qN.mpr c);rw[eb];by_cases h2:st.aj.length<2
   .rw [br (.inr h2:way<3\/st.aj.length<2)];exact br (by omega)
   .rw [dF (λz=>z.elim c' h2:¬ (way<3\/st.aj.length<2))];exact dF (by omega)
 by_cases hL:st.nms.length<nms.length/\(way<3\/st.aj.length<2)
 .refine ⟨true,⟨_,Z,_,Z,cD (λ_=>⟨true,orR true (br hL.2).symm,Z,Z⟩) (λc=>absurd (br (by omega)) c)⟩,nK ?_⟩;have ey:=bM hL.1;obtain⟨y1,y2,y3⟩:=nx.next ey;generalize nms[st.nms.length]=y at *;have eyv:sP (nms.map V.str) ((st.nms.length:Nat):Int)=some (.str y):=aM (by rw[cN,ey];rfl);refine⟨_,Z,m,_,Z,vo▸eY.k (k:=Sum.inr "owners") om,_,Z,_,Z,_,Z,m,_,Z,vo▸eY.k (k:=Sum.inr "owners") om,lo,_,Z,.inl oo,cZ hS h63 hk0 (by decide) (by decide) (by rw[aH];omega) λwd _ w0 w1=>?_⟩;rw[aH]at w1;obtain⟨jo,o,ejo,eo,eat⟩:=KJ (l:=st.own) (d:=wd) w0 w1;have how:=cu eo;refine⟨lo,_,_,_,Z,Z,oo,eat,?_⟩;refine⟨_,Z,_,Z,Kc hS h63 hk0 (by decide) (by decide) λw H1 w1 w2 g1=>?_⟩;refine⟨_,Z,_,Z,m,_,Z,vk▸eY.k (k:=Sum.inr "known") (g1 _ _ om),lk,_,Z,.inl (g1.seq ok),ln,_,_,_,Z,Z,g1.seq hN,by rw[aH];exact eyv,_,Z,_,Z,_,Z,_,Z,cZ (g1.seq hS) h63 hk0 (by decide) (by decide) (by decide) λv _ v0 v1=>⟨(iO 5),λt ht=>q t (.load y o w v) _ (g1.trans (aG ht _)) ai ⟨Q8 y1 y2 how w1 v0,⟨pH y1,pH (g.on o how),⟨by omega,by omega⟩,⟨by omega,by omega⟩⟩,y3 _ rfl,by show(1:Nat)≠0;decide⟩⟩⟩
 refine⟨false,⟨_,Z,_,Z,cD (λc=>⟨false,orR false (dF (λz=>hL ⟨by have:=eF c;omega,z⟩)).symm,Z,Z⟩) (λc=>⟨Z,Z⟩)⟩,bL ?_⟩;refine⟨_,Z,m,_,Z,vp▸eY.k (k:=Sum.inr "parts") om,lp,_,Z,.inl op,Z,_,Z,cD (λc=>?_) (λcz=>?_)⟩
 .exact ⟨(iO 1),λt ht=>q t .still _ (aG ht _) ai ⟨Z,True.intro,nx,by show(9:Nat)≠0;decide⟩⟩
 have c':0<st.aj.length:=Nat.pos_of_ne_zero λz=>cz (br (by rw[ll,z];rfl));exact⟨_,Z,_,Z,_,Z,_,Z,_,Z,⟨⟨a,m,ln,ns,k,way,nms,c,st,Z,hS,h63,hk0,hk1,hq,hN,nx,hnl,wf,g,hc,c',q⟩⟩⟩
abbrev zh:Stmt:=top 35
abbrev xm:List Str:=["_law_parts","_law_name_here"]
abbrev T3:List Str:=xm.append ["_law_at_here"]
theorem Ei:aS T3 xm (aF zh):=dX
theorem Rx(F:At K mg "_law_at" zh f fd)(cE:mg "len"=none)(dj:mg "range"=none):Dn P w K mg base 1 "_law_at" xm (WM K):=by
 refine F.oA Ei λcdv A outer s H vs Q E hr h=>?_;obtain⟨⟨l,us,ws,j,r,rfl,hl,hW,nd,hle,ej,q⟩⟩:=h;refine⟨_,(@dg.h _ _ _ (ak (fG gc rfl (mL (by rfl) dj (ah (bZ (dJ K) (by rfl) cE gf (ah (qv 0) au)) au)) (bg (i:=2) Ei.nd) (aA (cX (aX eO (aU (iQ K) (aU (d7 K) (qv 0) (qv 2)) aq) (qv 1) (bu _)) (aA (bJ (qv 2))) bP)))
  (aA (bJ (Jx C7 aq))))),?_⟩
 have ll:=hW.len;have hj:j<ws.length:=(dY.mp ej).1;refine⟨_,Z,l,_,Z,.inl hl,_,Z,by omega,by omega,?_⟩;refine mC (lo:=0) (n:=((us.length:Nat):Int).toNat) (λi σ H'=>H'=H/\i<=j/\∃s2,σ=[some (.ref l),some (.str r.1),s2]) ⟨Z,fM _,_,Z⟩ ?_ ?_
 .rintro i σ H' hi ⟨rfl,hn,s2,rfl⟩;have e0:(0:Int)+(i:Int)=((i:Nat):Int):=by omega
  rw[e0];have hio:i<ws.length:=by omega
  have ei:=bM hio;obtain⟨a,xs,ea,BO,x0,_⟩:=hW.at_ i _ ei;refine⟨_,Z,_,Z,l,_,_,_,Z,Z,hl,aM ea,BO.ix (i:=0) x0 ?_⟩;refine⟨_,Z,Z,_,Z,cD (λc=>?_) (λc=>?_)⟩
  .have c':(ws[i]).1=r.1:=V.str.inj (eF c);have:i=j:=by
    have r1:(ws.map (λr:Row=>r.1))[i]?=some (ws[i]).1:=by rw[cN,ei];rfl
    have r2:(ws.map (λr:Row=>r.1))[j]?=some r.1:=by rw[cN,ej];rfl
    exact(Qv (by rw[aH];exact hio) nd).mp (r1.trans (by rw[c'];exact r2.symm))
   subst this;exact⟨_,Z,q⟩
  .refine ⟨Z,?_,_,Z⟩;rcases Nat.lt_or_ge i j with z|z
   .exact z
   .have:i=j:=by omega
    subst this;rw[ei]at ej;cases ej;exact absurd (br rfl) c
 rintro σ H' ⟨rfl,hn,s2,rfl⟩;omega
abbrev pe:Stmt:=top 36
abbrev mh:List Str:=["_law_model","_law_part","_law_deed_here"]
abbrev Ej:List Str:=mh
theorem CJ:aS Ej mh (aF pe):=dX
theorem CK(F:At K mg "_law_lite_one" pe f fd):Dn P w K mg base 1 "_law_lite_one" mh (Hs K):=by
 refine F.oA CJ λcdv A outer s H vs Q E hr h=>?_;obtain⟨⟨n,ρ,B,st,i,p,a,z,d,rfl,hz,G,hb,ep,ea,hd,hpl,hkl,q⟩⟩:=h;refine⟨_,(@dg.h _ _ _ (aA (cX (aX eO (aU (bq K) (qv 2) aq) bR (bu _)) (aA (nR (aP mD (aU (d7 K) (qv 1) aq) (aU (bq K) (qv 2) aq)) (nS (qv 1) aq set_list))) (aA (cX (aX eO (aU (bq K) (qv 2) aq) bR (bu _)) (aA (nR (aP c7 (aU (d7 K) (qv 1) aq) (aU (bq K) (qv 2) aq)) (nS (qv 1) aq set_list))) (aA (cX (aX eO (aU (bq K) (qv 2) aq) bR (bu _)) (aA (nR (aU (bq K) (qv 2) aq) (nS (qv 1) aq set_list))) (aA (cX (aX eO (aU (bq K) (qv 2) aq) bR (bu _)) (aA (nR aq (nS (qv 1) aq set_list))) (aA (cX (aX eO (aU (bq K) (qv 2) aq) bR (bu _)) (ak (nR (aP mD (aU (d7 K) (qv 1) aq) (aU (bq K) (qv 2) aq)) (nS (qv 1) aq set_list))
  (ak (nR (aP mD (aU (d7 K) (qv 1) aq) (aU (bq K) (qv 2) aq)) (nS (qv 1) aq set_list))
  (ak (b_ (kY oM oJ oK eU (eV (d9 hr) (qv 0) bR) (ah (iK (ah (aU (bq K) (qv 2) aq) (ah (aU (d7 K) (qv 1) aq) (ah (aU (bq K) (qv 2) aq) (ah (aU (bq K) (qv 2) aq) au))))) au)))
  (aA (b_ (kY oM oJ oK eU (eV (d9 hr) (qv 0) bR) (ah (aU (bq K) (qv 2) aq) au))))))) bP))))))))))),?_⟩
 obtain⟨ha,ca⟩:=hb.pt i _ a (yc ep) ea;have ha:H a=some (.lst [.str p.nm,.str p.ow,.int p.wo,.int p.we]):=ha;have ia:dG K H z d.v:=dG.of hz;have za:z≠a:=λe=>by rw[e,ha]at hz;cases hz
 cases d with
 | mishap x m=>refine⟨_,Z,z,_,_,_,Z,Z,ia,aM (j:=0) rfl,Z,_,Z,cD (λ_=>?_) (λc=>absurd (br rfl) c)⟩;refine⟨_,Z,a,_,_,_,Z,Z,aJ.of ha,aM (j:=2) rfl,_,Z,z,_,_,_,Z,Z,ia,aM (j:=2) rfl,_,_,Z,Z,_,Z,a,_,_,2,Z,Z,ha,Z,?_⟩;exact q _ _ _ (G.wr rfl) (hb.jn G (p.nm,p.ow,p.wo-m,p.we) ea) rfl (Fr.write ca)
 | rise x m=>refine dQ ia rfl (by decide) rfl (bL ?_);refine⟨_,Z,z,_,_,_,Z,Z,ia,aM (j:=0) rfl,Z,_,Z,cD (λ_=>?_) (λc=>absurd (br rfl) c)⟩;refine⟨_,Z,a,_,_,_,Z,Z,aJ.of ha,aM (j:=2) rfl,_,Z,z,_,_,_,Z,Z,ia,aM (j:=2) rfl,_,_,Z,Z,_,Z,a,_,_,2,Z,Z,ha,Z,?_⟩;exact q _ _ _ (G.wr rfl) (hb.jn G (p.nm,p.ow,p.wo+m,p.we) ea) rfl (Fr.write ca)
 | hand x o=>refine dQ ia rfl (by decide) rfl (bL ?_);refine dQ ia rfl (by decide) rfl (bL ?_);refine⟨_,Z,z,_,_,_,Z,Z,ia,aM (j:=0) rfl,Z,_,Z,cD (λ_=>?_) (λc=>absurd (br rfl) c)⟩;refine⟨_,Z,z,_,_,_,Z,Z,ia,aM (j:=2) rfl,_,Z,a,_,_,1,Z,Z,ha,Z,?_⟩;exact q _ _ _ (G.wr rfl) (hb.jn G (p.nm,o,p.wo,p.we) ea) rfl (Fr.write ca)
 | land x=>refine dQ ia rfl (by decide) rfl (bL ?_);refine dQ ia rfl (by decide) rfl (bL ?_);refine dQ ia rfl (by decide) rfl (bL ?_);refine⟨_,Z,z,_,_,_,Z,Z,ia,aM (j:=0) rfl,Z,_,Z,cD (λ_=>?_) (λc=>absurd (br rfl) c)⟩;refine⟨_,Z,a,_,_,2,Z,Z,ha,Z,?_⟩;exact q _ _ _ (G.wr rfl) (hb.jn G (p.nm,p.ow,0,p.we) ea) rfl (Fr.write ca)
 | sever x y m we=>
  refine dQ ia rfl (by decide) rfl (bL ?_);refine dQ ia rfl (by decide) rfl (bL ?_);refine dQ ia rfl (by decide) rfl (bL ?_);refine dQ ia rfl (by decide) rfl (bL ?_);refine⟨_,Z,z,_,_,_,Z,Z,ia,aM (j:=0) rfl,Z,_,Z,cD (λ_=>?_) (λc=>absurd (br rfl) c)⟩;refine⟨_,Z,a,_,_,_,Z,Z,aJ.of ha,aM (j:=2) rfl,_,Z,z,_,_,_,Z,Z,ia,aM (j:=3) rfl,_,_,Z,Z,_,Z,a,_,_,2,Z,Z,ha,Z,?_⟩;have h1:=hb.jn G (p.nm,p.ow,p.wo-m,p.we) ea;have G1:=G.wr (a:=a) (o:=.lst (iZ (p.nm,p.ow,p.wo-m,p.we))) rfl;have F1:Fr n ρ H ρ (upd H a (.lst (iZ (p.nm,p.ow,p.wo-m,p.we)))):=Fr.write ca;have z1:upd H a (.lst (iZ (p.nm,p.ow,p.wo-m,p.we))) z=some (.tup (Dd.v (.sever x y m we))):=by rw[ay za];exact hz
  have a1:upd H a (.lst (iZ (p.nm,p.ow,p.wo-m,p.we))) a=some (.lst (iZ (p.nm,p.ow,p.wo-m,p.we))):=ai;have n1:∀b,upd H a (.lst (iZ (p.nm,p.ow,p.wo-m,p.we))) b=none->H b=none:=λb=>gU;show i9 _ _ _ _ (upd H a (.lst (iZ (p.nm,p.ow,p.wo-m,p.we))));generalize upd H a (.lst (iZ (p.nm,p.ow,p.wo-m,p.we)))=H1 at *;refine⟨_,Z,a,_,_,_,Z,Z,aJ.of a1,aM (j:=3) rfl,_,Z,z,_,_,_,Z,Z,dG.of z1,aM (j:=4) rfl,_,_,Z,Z,_,Z,a,_,_,3,Z,Z,a1,Z,?_⟩;have h2:bY n ρ B (upd H1 a (.lst (iZ (p.nm,p.ow,p.wo-m,p.we-we)))) { ef st with aj:=(aV st).set i (p.nm,p.ow,p.wo-m,p.we-we) }:=by have:=h1.jn G1 (p.nm,p.ow,p.wo-m,p.we-we) ea;have e:((aV st).set i (p.nm,p.ow,p.wo-m,p.we)).set i (p.nm,p.ow,p.wo-m,p.we-we)=(aV st).set i (p.nm,p.ow,p.wo-m,p.we-we):=wm ..;rw[<-e];exact this
  have G2:=G1.wr (a:=a) (o:=.lst (iZ (p.nm,p.ow,p.wo-m,p.we-we))) rfl;have F2:=F1.trans (Fr.write (o:=.lst (iZ (p.nm,p.ow,p.wo-m,p.we-we))) ca);have z2:upd H1 a (.lst (iZ (p.nm,p.ow,p.wo-m,p.we-we))) z=some (.tup (Dd.v (.sever x y m we))):=by rw[ay za];exact z1
  have a2:upd H1 a (.lst (iZ (p.nm,p.ow,p.wo-m,p.we-we))) a=some (.lst (iZ (p.nm,p.ow,p.wo-m,p.we-we))):=ai;have n2:∀b,upd H1 a (.lst (iZ (p.nm,p.ow,p.wo-m,p.we-we))) b=none->H b=none:=λb h=>n1 b (gU h);show i9 _ _ _ _ (upd H1 a (.lst (iZ (p.nm,p.ow,p.wo-m,p.we-we))));generalize upd H1 a (.lst (iZ (p.nm,p.ow,p.wo-m,p.we-we)))=H2 at *;refine⟨_,Z,B.m,_,Z,eY.k (k:=Sum.inr "parts") h2.om,.inl ⟨Z,_,aJ.of h2.op⟩,_,Z,z,_,_,_,Z,Z,dG.of z2,aM (j:=2) rfl,_,Z,a,_,_,_,Z,Z,aJ.of a2,aM (j:=1) rfl,_,Z,z,_,_,_,Z,Z,dG.of z2,aM (j:=3) rfl,_,Z,z,_,_,_,Z,Z,dG.of z2,aM (j:=4) rfl,(iO 4),λt ht=>?_⟩;have g3:=aG ht (.lst (iZ (y,p.ow,m,we)));have t3:upd H2 t (.lst (iZ (y,p.ow,m,we))) t=some (.lst (iZ (y,p.ow,m,we))):=ai;show xw _ (upd H2 t (.lst (iZ (y,p.ow,m,we)))) _;generalize upd H2 t (.lst (iZ (y,p.ow,m,we)))=H3 at *;have tn:H t=none:=n2 t ht;have ct:ρ t=none:=G2.none ht;have h3:=(h2.mono g3).col (t:=44) (x:=nx) ct;have G3:Gh (c8 ρ t (n,44,nx)) H3:=(G2.same g3).color t3 rfl;have F3:Fr n ρ H (c8 ρ t (n,44,nx)) H3:=(F2.trans (Fr.of_same (ρ:=ρ) g3)).oV tn;have tq:t∉B.qs:=λmem=>by
   obtain⟨j,hj,ej⟩:=yp mem;have hj2:j<((aV st).set i (p.nm,p.ow,p.wo-m,p.we-we)).length:=by rw[iw,<-show B.qs.length=(aV st).length from hb.ql];exact hj
   have:=(h2.pt j _ t (bM hj2) (by rw[bM hj,ej])).1;rw[ht]at this;cases this
  have ql:(aV st).length=st.aj.length:=by unfold aV;rw[aH]
  have lq:(B.qs.map V.ref).length<1000:=by rw[aH,hb.ql];show(aV st).length<1000;rw[ql];exact hpl
  refine⟨B.lp,_,_,Z,Z,h3.op,dH (by omega),?_⟩;rw[show B.qs.map V.ref++[V.ref t]=(B.qs++[t]).map V.ref from by rw[bV];rfl];have h4:=h3.Tg G3 (q:=(y,p.ow,m,we)) t3 cC tq;have G4:=G3.wr (a:=B.lp) (o:=.lst ((B.qs++[t]).map V.ref)) rfl;have F4:=F3.trans (Fr.write (o:=.lst ((B.qs++[t]).map V.ref)) h3.cp);have nz:z≠B.lp:=λe=>by have:=h3.op;rw[<-e,g3 _ _ z2]at this;cases this
  have z4:upd H3 B.lp (.lst ((B.qs++[t]).map V.ref)) z=some (.tup (Dd.v (.sever x y m we))):=by rw[ay nz];exact g3 _ _ z2
  generalize upd H3 B.lp (.lst ((B.qs++[t]).map V.ref))=H4 at *;refine⟨_,Z,B.m,_,Z,eY.k (k:=Sum.inr "known") h4.om,.inl ⟨Z,_,aJ.of h4.ok⟩,_,Z,z,_,_,_,Z,Z,dG.of z4,aM (j:=2) rfl,B.lk,_,_,Z,Z,h4.ok,by rw[aH];exact dH (by show st.nms.length<=1000;omega),?_⟩;rw[show List.map V.str (ef st).DR++[V.str y]=(st.nms++[y]).map V.str from by rw[bV];rfl];exact q _ _ _ (G4.wr rfl) (h4.Pc G4 (st.nms++[y])) rfl (F4.trans (Fr.write h4.ck))
 | _=>exact absurd hd (by simp[Dd.part])
abbrev qB:Stmt:=top 37
abbrev kG:List Str:=["_law_model","_law_deed_here"]
abbrev FI:List Str:=kG.append ["_law_parts","_law_k","_law_part"]
theorem mj:aS FI kG (aF qB):=dX
theorem Ek(F:At K mg "_law_lite_do" qB f fd)(xo:Dn P w K mg base 1 "_law_at" xm (WM K))(qC:Dn P w K mg base 1 "_law_lite_one" mh (Hs K))(cE:mg "len"=none)(dj:mg "range"=none):Dn P w K mg base 2 "_law_lite_do" kG (Cr K):=by
 refine F.oA mj λcdv A outer s H vs Q E hr h=>?_;obtain⟨⟨n,c,ρ,B,st,z,d,rfl,hz,G,hb,wf,g,hc,hr0,hk,q⟩⟩:=h;refine⟨_,(@dg.h _ _ _ (ak (aW (i:=2) mj.nd (eV (d9 hr) (qv 0) bR))
  (ak (jR (aX eO (aU (bq K) (qv 1) aq) bR (bu _)) (ak (b_ (kY oM oJ oK eU (qv 2) (ah (iK (ah (aU (bq K) (qv 1) aq) (ah (aU (bq K) (qv 1) aq) (ah (aU (bq K) (qv 1) aq) (ah (aU (bq K) (qv 1) aq) au))))) au)))
  (aA (b_ (kY oM oJ oK eU (eV (d9 hr) (qv 0) bR) (ah (aU (bq K) (qv 1) aq) au))))) (aA (cX (aX eO (aU (bq K) (qv 1) aq) bR (bu _)) (aA (fG gc rfl (Hf (by rfl) dj (ah aq (ah (bZ (dJ K) (by rfl) cE gf (ah (qv 1) au)) (ah aq au)))) (bg (i:=3) mj.nd) (ak (aW (i:=4) mj.nd (aU (d7 K) (qv 2) (bK xo hr (ah (qv 2) (ah (aU (bq K) (qv 1) (qv 3)) au)))))
  (aA (nR (aP mD (aU (d7 K) (qv 4) aq) (aU (bq K) (qv 1) (aP c7 (qv 3) aq))) (nS (qv 4) aq set_list)))))) (aA (cX (aX J0 (aU (bq K) (qv 1) aq) (iY (ah bR (ah bR au))) (by with_unfolding_all rfl)) (aA (b_ (bK qC hr (ah (qv 0) (ah (aU (d7 K) (qv 2) (bK xo hr (ah (qv 2) (ah (aU (bq K) (qv 1) aq) au)))) (ah (qv 1) au)))))) bP)))))
  (aA (uN (d9 hr) (qv 0) bR (K0 ["_law_part"] [none] rfl (eW K (eV (d9 hr) (qv 0) bR)) (λ_ _ _ _=>(bg (i:=0) (show List.Nodup (["_law_part"] :List Str)from by decide +kernel))) (λ_ _ _ _=>(qv 0)) (λ_ _ _ _=>(aX j8 (aU (d7 K) (qv 0) aq) aq (bu _))) rfl (by rfl)) rfl))))),?_⟩
 have ia:dG K H z d.v:=dG.of hz;have hpl:=g.pl;have hkl:=g.kl;refine⟨_,Z,B.m,_,Z,eY.k (k:=Sum.inr "parts") hb.om,?_⟩;refine⟨λσ' H'=>∃ρ5 B5 l5 s2 s3 s4,σ'=[some (.ref B.m),some (.ref z),s2,s3,s4]/\Gh ρ5 H'/\bY n ρ5 B5 H' l5/\l5.aj.length<=1000/\Rb l5=ef (iA st d)/\B5.m=B.m/\Fr n ρ H ρ5 H',?_,?_⟩
 .have ql:(aV st).length=st.aj.length:=by unfold aV;rw[aH]
  have bql:B.qs.length=st.aj.length:=by rw[<-ql];exact hb.ql
  have ndQ:((aV st).map λq:Q4=>q.1).Nodup:=by rw[y9];exact wf.dN
  have lq:(B.qs.map V.ref).length<1000:=by rw[aH];omega
  by_cases hp:d.part=none;rotate_left
  ·
   obtain⟨x,hx⟩:=Option.ne_none_iff_exists'.mp hp
   obtain⟨e1,k1,k2,k3,k9⟩:=Dd.aaX hx
   obtain⟨j,p,ep,en⟩:=jy (YU hx hr0)
   subst en
   refine⟨_,Z,z,_,_,_,Z,Z,ia,aM d.v0,Z,_,Z,cD (λc=>absurd (V.str.inj (eF c)) (d.Q_ k1 (by decide))) (λ_=>?_)⟩
   refine⟨_,Z,z,_,_,_,Z,Z,ia,aM d.v0,Z,_,Z,cD (λc=>absurd (V.str.inj (eF c)) (d.Q_ k2 (by decide))) (λ_=>?_)⟩
   have hin:(!Gv (.str d.w) ((["award","still"] :List Str).map V.str))=true:=by rw[Vm,dF (λm=>by rcases cK.mp m with w|w;exact d.Q_ k3 (by decide) w;exact d.Q_ k9 (by decide) (eX.mp w))];rfl
   refine⟨_,Z,z,_,_,_,Z,Z,ia,aM d.v0,(iO 2),λt ht=>⟨t,_,Z,.inr (dG.of ai),Z,Aj ["award","still"],_,Z,cD (λ_=>?_) (λc=>absurd hin c)⟩⟩
   have g1:=aG ht (.tup [.str "award",.str "still"])
   have G1:=G.same g1
   have h1:=hb.mono g1
   have z1:=g1 _ _ hz
   generalize upd H t (.tup [.str "award",.str "still"])=H1 at *
   have jB:j<B.qs.length:=by rw[bql];exact(dY.mp ep).1
   have ea:=bM jB
   generalize B.qs[j]=a at *
   refine⟨_,Z,_,Z,_,Z,_,Z,z,_,_,_,Z,Z,dG.of z1,aM e1,⟨⟨B.lp,_,yd (aV st),j,(p.nm,p.wo),Z,aJ.of h1.op,h1.nw,by rw[Ht];exact ndQ,by unfold yd;rw[aH];omega,by unfold yd;rw[cN,yc ep];rfl,?_⟩⟩⟩
   refine⟨B.lp,_,_,_,Z,Z,aJ.of h1.op,aM (by rw[cN,ea];rfl),_,Z,⟨⟨n,ρ,B,st,j,p,a,z,d,Z,z1,G1,h1,ep,ea,hx,by omega,by omega,λρ' B' H' G' h' em F'=>?_⟩⟩⟩
   exact⟨ρ',B',_,_,_,_,Z,G',h',gh (VG _ _ _ _) (by show(aV st).length+1<=1000;omega),VB wf hr0 ep hx,em,(Fr.of_same g1).trans F'⟩
  cases d with
  | load x o wo we=>
   refine⟨_,Z,z,_,_,_,Z,Z,ia,aM (j:=0) rfl,Z,_,Z,cD (λ_=>?_) (λc=>absurd (br rfl) c)⟩;refine⟨_,Z,.inl ⟨Z,_,aJ.of hb.op⟩,_,Z,z,_,_,_,Z,Z,ia,aM (j:=1) rfl,_,Z,z,_,_,_,Z,Z,ia,aM (j:=2) rfl,_,Z,z,_,_,_,Z,Z,ia,aM (j:=3) rfl,_,Z,z,_,_,_,Z,Z,ia,aM (j:=4) rfl,(iO 4),λt ht=>?_⟩;have g3:=aG ht (.lst (iZ (x,o,wo,we)));have t3:upd H t (.lst (iZ (x,o,wo,we))) t=some (.lst (iZ (x,o,wo,we))):=ai;show xw _ (upd H t (.lst (iZ (x,o,wo,we)))) _;generalize upd H t (.lst (iZ (x,o,wo,we)))=H3 at *;have ct:ρ t=none:=G.none ht;have h3:=(hb.mono g3).col (t:=44) (x:=nx) ct;have G3:Gh (c8 ρ t (n,44,nx)) H3:=(G.same g3).color t3 rfl;have F3:Fr n ρ H (c8 ρ t (n,44,nx)) H3:=(Fr.of_same (ρ:=ρ) g3).oV ht;have tq:t∉B.qs:=λmem=>by
    obtain⟨j,hj,ej⟩:=yp mem;have hj2:j<(aV st).length:=by omega
    have:=(hb.pt j _ t (bM hj2) (by rw[bM hj,ej])).1;rw[ht]at this;cases this
   refine⟨B.lp,_,_,Z,Z,h3.op,dH (by omega),?_⟩;rw[show B.qs.map V.ref++[V.ref t]=(B.qs++[t]).map V.ref from by rw[bV];rfl];have h4:=h3.Tg G3 (q:=(x,o,wo,we)) t3 cC tq;have G4:=G3.wr (a:=B.lp) (o:=.lst ((B.qs++[t]).map V.ref)) rfl;have F4:=F3.trans (Fr.write (o:=.lst ((B.qs++[t]).map V.ref)) h3.cp);have nz:z≠B.lp:=λe=>by have:=h3.op;rw[<-e,g3 _ _ hz]at this;cases this
   have z4:upd H3 B.lp (.lst ((B.qs++[t]).map V.ref)) z=some (.tup (Dd.v (.load x o wo we))):=by rw[ay nz];exact g3 _ _ hz
   generalize upd H3 B.lp (.lst ((B.qs++[t]).map V.ref))=H4 at *;refine⟨_,Z,B.m,_,Z,eY.k (k:=Sum.inr "known") h4.om,.inl ⟨Z,_,aJ.of h4.ok⟩,_,Z,z,_,_,_,Z,Z,dG.of z4,aM (j:=1) rfl,B.lk,_,_,Z,Z,h4.ok,by rw[aH];exact dH (by show st.nms.length<=1000;omega),?_⟩;rw[show List.map V.str (ef st).DR++[V.str x]=(st.nms++[x]).map V.str from by rw[bV];rfl];exact⟨_,_,_,_,_,_,Z,G4.wr rfl,h4.Pc G4 (st.nms++[x]),by show(aV st++[_]).length<=1000;rw[dD];show(aV st).length+1<=1000;omega,yY (d:=.load x o wo we) wf hr0 rfl hk,Z,F4.trans (Fr.write h4.ck)⟩
  | cast rs=>
   refine dQ ia rfl (by decide) rfl (bL ?_);refine⟨_,Z,z,_,_,_,Z,Z,ia,aM (j:=0) rfl,Z,_,Z,cD (λ_=>?_) (λc=>absurd (br rfl) c)⟩;obtain⟨_,W7,xG,_⟩:=tD hr0;have hrl:rs.length<=st.aj.length:=by
    have:=uX (l:=rs.map λr:Row=>r.1) (m:=d_ st) W7 (λx hx=>by obtain⟨r,hr,rfl⟩:=a_.mp hx;exact(j0 (xG r hr)).1)
    rwa [aH,show(d_ st).length=st.aj.length by unfold d_;rw[aH]]at this
   refine⟨_,Z,z,_,Z,.inr ia,_,_,_,Z,⟨by decide,by decide,by omega,by rw[yZ];omega,by decide,by decide⟩,?_⟩;rw[yZ,Tn];refine QU (lo:=1) (st:=2) (n:=rs.length) (λi σ H'=>∃s3 s4,σ=[some (.ref B.m),some (.ref z),some (.ref B.lp),s3,s4]/\Gh ρ H'/\bY n ρ B H' { ef st with aj:=mQ (rs.take i) (aV st) }/\Fr n ρ H ρ H'/\H' z=some (.tup (Dd.v (.cast rs)))) ⟨_,_,Z,G,by rw[List.take_zero,VF];exact hb,Fr.refl,hz⟩ ?_ ?_
   .rintro i σ H' hi ⟨s3,s4,rfl,G',h',F',z'⟩;have ei:=bM hi;generalize rs[i]=r at *;obtain⟨c1,c2⟩:=Pf ei;obtain⟨j,p,ep,en⟩:=jy (j0 (xG r (cu ei))).1;have jB:j<B.qs.length:=by rw[bql];exact(dY.mp ep).1
    have ea:=bM jB;generalize B.qs[j]=a at *;have hn:r.1∉(rs.take i).map (λr:Row=>r.1):=by rw[CZ];exact qU W7 (by rw[cN,ei];rfl)
    obtain⟨m1,m2⟩:=To (rs:=rs.take i) (r:=r) ndQ (yc ep) en hn;obtain⟨ha,ca⟩:=h'.pt j _ a m2 ea;have ha:H' a=some (.lst [.str p.nm,.str p.ow,.int p.wo,.int p.we]):=ha;have e1:(1:Int)+(i:Int)*2=((1+2*i:Nat):Int):=by omega
    have e2:((1+2*i:Nat):Int)+1=((2+2*i:Nat):Int):=by omega
    rw[e1];refine⟨_,Z,_,Z,_,Z,_,Z,z,_,_,_,Z,Z,dG.of z',aM c1,⟨⟨B.lp,_,yd (mQ (rs.take i) (aV st)),j,(r.1,p.wo),Z,aJ.of h'.op,h'.nw,by rw[Ht,Rc];exact ndQ,by unfold yd;rw[aH,Lj];omega,by unfold yd;rw[cN,m2,<-en];rfl,?_⟩⟩⟩;refine⟨B.lp,_,_,_,Z,Z,aJ.of h'.op,aM (by rw[cN,ea];rfl),?_⟩;refine⟨_,Z,a,_,_,_,Z,Z,aJ.of ha,aM (j:=2) rfl,_,Z,_,Z,_,_,Z,Z,z,_,_,_,Z,Z,dG.of z',by rw[e2];exact aM c2,_,_,Z,Z,_,Z,a,_,_,2,Z,Z,ha,Z,?_⟩;have za:z≠a:=λe=>by rw[e,ha]at z';cases z'
    refine⟨_,_,Z,G'.wr rfl,?_,F'.trans (Fr.write ca),by rw[ay za];exact z'⟩;rw[take_snoc ei,m1];exact h'.jn G' (p.nm,p.ow,p.wo-r.2,p.we) ea
   rintro σ H' ⟨s3,s4,rfl,G',h',F',z'⟩;rw[cO]at h';exact⟨ρ,B,_,_,_,_,Z,G',h',by show(mQ rs (aV st)).length<=1000;rw[Lj];omega,yY (d:=.cast rs) wf hr0 rfl hk,Z,F'⟩
  | award o a=>refine dQ ia rfl (by decide) rfl (bL ?_);refine dQ ia rfl (by decide) rfl (bL ?_);exact⟨_,Z,z,_,_,_,Z,Z,ia,aM (j:=0) rfl,(iO 2),λt ht=>⟨t,_,Z,.inr (dG.of ai),Z,Aj ["award","still"],_,Z,cD (λc=>absurd c (by decide +kernel)) (λ_=>⟨ρ,B,ef st,_,_,_,Z,G.same (aG ht _),hb.mono (aG ht _),by show(aV st).length<=1000;omega,yY (d:=.award o a) wf hr0 rfl hk,Z,Fr.of_same (aG ht _)⟩)⟩⟩
  | still=>refine dQ ia rfl (by decide) rfl (bL ?_);refine dQ ia rfl (by decide) rfl (bL ?_);exact⟨_,Z,z,_,_,_,Z,Z,ia,aM (j:=0) rfl,(iO 2),λt ht=>⟨t,_,Z,.inr (dG.of ai),Z,Aj ["award","still"],_,Z,cD (λc=>absurd c (by decide +kernel)) (λ_=>⟨ρ,B,ef st,_,_,_,Z,G.same (aG ht _),hb.mono (aG ht _),by show(aV st).length<=1000;omega,yY (d:=.still) wf hr0 rfl hk,Z,Fr.of_same (aG ht _)⟩)⟩⟩
  | sign o=>exact absurd rfl hk
  | _=>exact absurd hp (by simp[Dd.part])
 rintro σ H5 ⟨ρ5,B5,l5,s2,s3,s4,rfl,G5,h5,pl5,el5,T4,F5⟩;have Xk:=h5.ql;have qml:(B5.qs.map V.ref).length=l5.aj.length:=by rw[aH];exact Xk
 have om6:H5 B.m=some (.dK (jS B5)):=by rw[<-T4];exact h5.om
 refine⟨_,Z,B.m,_,Z,eY.k (k:=Sum.inr "parts") om6,B5.lp,Z,⟨_,aJ.of h5.op⟩,λlp vR=>?_⟩;refine Yn (J:=zW K B5.lp) (n:=l5.aj.length) 0 (λi o H'=>aR H5 H'/\o=(kr (l5.aj.take i) (B5.qs.take i)).map V.ref) (by omega) ⟨aG vR _,Z⟩ (λi o H' hi _ hp=>⟨_,_,aJ.of (hp.1 _ _ h5.op),bM (by rw[qml];exact hi)⟩) (λo H' _ hp=>⟨_,aJ.of (hp.1 _ _ h5.op),by rw[qml];exact aO _⟩) ?_ ?_
 .rintro i y o H7 H8 hi gD ha ⟨g,e⟩ ⟨rfl,hy⟩;have ei:=bM hi;obtain⟨qq,eq,k1,_⟩:=h5.find ei;have ey:=hy _ (aJ.of (g _ _ h5.op));rw[cN,eq]at ey;cases ey;have es:=Nj ei eq;refine⟨_,Z,qq,_,_,_,Z,Z,aJ.of (g _ _ k1),aM (j:=2) rfl,_,_,Z,Z,_,Z,cD (λc=>?_) (λc=>?_)⟩
  .rw [aC (eF c)]at es;refine⟨_,Z,ha,g.dI vR _,?_⟩;rw[es,e,bV];rfl
  .rw [aB (uP (qN.mpr c))]at es;exact⟨ha,g,by rw[es,e,CT]⟩
 rintro o H7 _ ha ⟨g7,e⟩;rw[cO,<-Xk,cO]at e;subst e;have h7:=h5.mono g7;have G7:=G5.same g7;have clp:ρ5 lp=none:=G5.none vR;have h8:=h7.col (t:=42) (x:=nx) clp;have G8:Gh (c8 ρ5 lp (n,42,nx)) H7:=G7.color ha rfl;have F8:Fr n ρ H (c8 ρ5 lp (n,42,nx)) H7:=F5.trans (Fr.color vR g7);have h9:bY n (c8 ρ5 lp (n,42,nx)) { { B5 with lp:=lp }with qs:=kr l5.aj B5.qs } (upd H7 B5.m (.dK (jS { B5 with lp:=lp }))) (Rb l5):=h8.aaV G8 (lp:=lp) (qs:=kr l5.aj B5.qs) (ps:=l5.aj.filter λp=>decide (0<p.2.2.1)) ha cC (h5.nd.sublist yW) (DU Xk) (λi x y ex ey=>by obtain⟨j,a1,a2⟩:=AG Xk ex ey;exact h8.pt j x y a1 a2)
 have cm8:=h8.cm;rw[T4]at h9 cm8;refine⟨_,Z,B.m,_,Z,xx.k (k:=Sum.inr "parts") (by rw[<-T4];exact h7.om) (by show 3<sizeLine;decide),?_⟩;rw[VD];rw[el5]at h9;exact q _ _ _ (G8.wr rfl) h9 rfl (F8.trans (Fr.write cm8))
abbrev uo:Stmt:=top 38
abbrev qD:List Str:=["_law_script","_law_k","_law_model","_law_names_here","_law_many"]
abbrev Mj:List Str:=qD.append ["_law_deeds_here","_law_at_here","_law_deed_here"]
theorem oE:aS Mj qD (aF uo):=dX
theorem Ip(F:At K mg "_law_deeds" uo f fd)(xM:Dn P w K mg base 4 "_law_deed" sJ (Th K))(ji:Dn P w K mg base 2 "_law_lite_do" kG (Cr K))(dj:mg "range"=none):Dn P w K mg base 5 "_law_deeds" qD (Pg K):=by
 refine F.oA oE λcdv A outer s H vs Q E hr h=>?_;obtain⟨⟨n,c,m,ρ,B,st,a,ln,ns,k,nms,many,rfl,G,hb,gw,hc,hm,ho,fS,h63,hk0,hk1,fN,nx,hnl,q⟩⟩:=h;refine⟨_,(@dg.h _ _ _ (ak (aW (i:=5) oE.nd (iK au))
  (ak (fG gc rfl (mL (by rfl) dj (ah (qv 4) au)) (bg (i:=6) oE.nd) (ak (aW (i:=7) oE.nd (bK xM hr (ah (qv 0) (ah (aP c7 (qv 1) (qv 6)) (ah (qv 2) (ah (qv 3) au))))))
  (ak (b_ (bK ji hr (ah (qv 2) (ah (qv 7) au))))
  (aA (b_ (kY oM oJ oK eU (qv 5) (ah (qv 7) au)))))))
  (aA (bJ (qv 5)))))),?_⟩
 refine⟨(iO 0),λl hl=>?_⟩;have g0:=aG hl (.lst []);have qm:upd H l (.lst []) l=some (.lst []):=ai;show i9 _ _ _ _ (upd H l (.lst []));have F0:Fr n ρ H ρ (upd H l (.lst [])):=Fr.of_same g0;have cl0:ρ l=none:=G.none hl;have G0:=G.same g0;have hb0:=hb.mono g0;generalize upd H l (.lst [])=H0 at *;refine⟨_,Z,_,Z,by omega,by omega,?_⟩;refine mC (lo:=0) (n:=((many:Nat):Int).toNat) (λi σ H'=>∃ρ' B' zs ds s6 s7,σ=[some (.ref a),some (.int k),some (.ref B.m),some (.ref ln),some (.int (many:Int)),some (.ref l),s6,s7]/\Gh ρ' H'/\bY n ρ' B' H' (ef (cL st ds))/\B'.m=B.m/\Fr n ρ H ρ' H'/\H' l=some (.lst zs)/\ρ' l=none/\nL H' zs ds/\nD st ds/\ds.length=i/\Nx nms (cL st ds))
  ⟨ρ,B,[],[],_,_,Z,G0,hb0,Z,F0,qm,cl0,.nil,nD.nil st,Z,nx⟩ ?_ ?_
 .rintro i σ H1 hi ⟨ρ1,B1,zs,ds,s6,s7,rfl,G1,h1,em,F1,hl1,zL,hD,hC,hdl,El⟩;have hi:i<many:=by omega
  have e0:(0:Int)+(i:Int)=((i:Nat):Int):=by omega
  rw[e0];obtain⟨nG,eo⟩:=hC.go gw (by omega) (by omega) ho ds.length (aO _);rw[cO]at nG eo;have o1:=F1.out;have Xl:=fS _ _ o1;have hN1:=fN _ _ o1;refine⟨_,Z,_,Z,_,Z,_,_,Z,Z,_,Z,_,Z,⟨⟨a,B.m,ln,ns,k+i,nms,c+ds.length,cL st ds,Z,Xl,h63,by omega,by omega,by rw[<-em];exact h1.q,hN1,El,hnl,nG.wf,nG.g,by omega,λz d H2 g2 hz hd=>?_⟩⟩⟩;obtain⟨d1,d2,d3,d4⟩:=hd;have G2:=G1.same g2;refine⟨_,Z,_,Z,⟨⟨n,c+ds.length,ρ1,B1,cL st ds,z,d,by rw[em];rfl,hz,G2,h1.mono g2,nG.wf,nG.g,by omega,d1,d4,λρ3 B3 H3 G3 h3 em3 F3=>?_⟩⟩⟩;obtain⟨hl3,cl3⟩:=F3 l _ (g2 _ _ hl1) (λt x e=>by rw[zL]at e;cases e);have tu:∀b xs,H2 b=some (.tup xs)->H3 b=some (.tup xs):=λb xs e=>(F3 b _ e (λt x z=>by rw[G2.tup e]at z;cases z)).1;have zl:=hD.length;refine⟨_,Z,.inl ⟨Z,_,aJ.of hl3⟩,_,Z,l,_,_,Z,Z,hl3,dH (by omega),?_⟩;have F13:=(F1.trans (Fr.of_same (ρ:=ρ1) g2)).trans F3;have tl:∀b xs,H3 b=some (.tup xs)->upd H3 l (.lst (zs++[.ref z])) b=some (.tup xs):=ig (.inr ⟨_,hl3,Z⟩);have ab6:ρ3 l=none:=cl3.trans zL;refine⟨ρ3,B3,zs++[.ref z],ds++[d],_,_,Z,G3.wr rfl,?_,em3.trans em,F13.new hl,ai,ab6,((((hD.mono g2.tups).mono tu).snoc (tu _ _ hz)).mono tl),hC.snoc d1 d2 d4,by rw[dD];show ds.length+1=i+1;omega,by rw[iB];exact d3⟩;rw[iB];exact h3.same (sW ab6 hl3 rfl)
 rintro σ H1 ⟨ρ1,B1,zs,ds,s6,s7,rfl,G1,h1,em,F1,hl1,zL,hD,hC,hdl,El⟩;exact⟨_,Z,q l zs ds ρ1 B1 H1 G1 h1 em F1 hl1 zL hD hC (by omega) El⟩
abbrev qE:Stmt:=top 39
abbrev kH:List Str:=["_law_hold","_law_deed_here"]
abbrev FJ:List Str:=kH
theorem Em:aS FJ kH (aF qE):=dX
theorem En{T:TC}{e:Ec}(F:At K mg "_law_hold_do" qE f fd)(lP:Mn P w K mg base 3 T.hold "sign" nW (EV T))(xN:Mn P w K mg base 4 T.hold "load" r_ (SQ T))(j6:Mn P w K mg base 4 T.hold "cast" nX (KN T K))(Ml:Mn P w K mg base 4 T.hold "award" qw (sN (K7 T e)))(Iq:Mn P w K mg base 3 T.hold "mishap" oz (sN (Hg T e)))(NL:Mn P w K mg base 2 T.hold "rise" sf (sN (O4 T e)))(NN:Mn P w K mg base 2 T.hold "hand" sj (sN (O5 T e)))(NO:Mn P w K mg base 5 T.hold "land" sr (sN (O8 T e)))(Mm:Mn P w K mg base 4 T.hold "sever" qx (sN (K8 T e)))(cE:mg "len"=none)(dj:mg "range"=none):Dn P w K mg base 6 "_law_hold_do" kH (Cs T K):=by
 refine F.oA Em λcdv A outer s H vs Q E hr h=>?_;obtain⟨⟨n,c,ρ,A,st,z,d,rfl,hz,hh,gg,hc,hk,ho,hr0,q⟩⟩:=h;refine⟨_,(@dg.h _ _ _ (ak (cX (aX eO (aU (bq K) (qv 1) aq) bR (bu _)) (aA (bJ (b7 lP hr (qv 0) (ah (aU (bq K) (qv 1) aq) au)))) (aA (cX (aX eO (aU (bq K) (qv 1) aq) bR (bu _)) (aA (bJ (b7 xN hr (qv 0) (ah (aU (bq K) (qv 1) aq) (ah (aU (bq K) (qv 1) aq) (ah (aU (bq K) (qv 1) aq) (ah (aU (bq K) (qv 1) aq) au))))))) (aA (cX (aX eO (aU (bq K) (qv 1) aq) bR (bu _)) (aA (bJ (b7 j6 hr (qv 0) (ah (ko ["_law_k","_law_deed_here"] [none,some 1] rfl (Hf (by rfl) dj (ah aq (ah (bZ (dJ K) (by rfl) cE gf (ah (qv 1) au)) (ah aq au)))) (λ_ _ _ _=>(bg (i:=0) (show List.Nodup (["_law_k","_law_deed_here"] :List Str)from by decide +kernel))) (λ_ _ _ _=>(iY (ah (aU (bq K) (qv 1) (qv 0)) (ah (aU (bq K) (qv 1) (aP c7 (qv 0) aq)) au)))) rfl (by rfl)) au)))) (aA (cX (aX eO (aU (bq K) (qv 1) aq) bR (bu _)) (aA (bJ (b7 Ml hr (qv 0) (ah (aU (bq K) (qv 1) aq) (ah (aU (bq K) (qv 1) aq) au))))) (aA (cX (aX eO (aU (bq K) (qv 1) aq) bR (bu _)) (aA (bJ (b7 Iq hr (qv 0) (ah (aU (bq K) (qv 1) aq) (ah (aU (bq K) (qv 1) aq) au))))) (aA (cX (aX eO (aU (bq K) (qv 1) aq) bR (bu _)) (aA (bJ (b7 NL hr (qv 0) (ah (aU (bq K) (qv 1) aq) (ah (aU (bq K) (qv 1) aq) au))))) (aA (cX (aX eO (aU (bq K) (qv 1) aq) bR (bu _)) (aA (bJ (b7 NN hr (qv 0) (ah (aU (bq K) (qv 1) aq) (ah (aU (bq K) (qv 1) aq) au))))) (aA (cX (aX eO (aU (bq K) (qv 1) aq) bR (bu _)) (aA (bJ (b7 NO hr (qv 0) (ah (aU (bq K) (qv 1) aq) au)))) (aA (cX (aX eO (aU (bq K) (qv 1) aq) bR (bu _)) (aA (bJ (b7 Mm hr (qv 0) (ah (aU (bq K) (qv 1) aq) (ah (aU (bq K) (qv 1) aq) (ah (aU (bq K) (qv 1) aq) (ah (aU (bq K) (qv 1) aq) au))))))) bP)))))))))))))))))
  (aA (bJ aaM)))),?_⟩
 have wf:=hh.wf;have hpl:=gg.pl;have hkl:=gg.kl;cases d with
 | sign o=>obtain⟨s1,s2⟩:=Tp hr0;refine⟨_,Z,z,_,_,_,Z,Z,hz,aM (j:=0) rfl,Z,_,Z,cD (λ_=>?_) (λc=>absurd (br rfl) c)⟩;refine⟨_,Z,A.a,A.dx,_,Z,hh.h.oa,Z,_,Z,z,_,_,_,Z,Z,hz,aM (j:=1) rfl,⟨⟨n,ρ,A,st,o,Z,hh,s1,s2,ho,q⟩⟩⟩
 | load x o wo we=>obtain⟨l1,l2,l3,l4,l5⟩:=sY hr0;refine dQ hz rfl (by decide) rfl (bL ?_);refine⟨_,Z,z,_,_,_,Z,Z,hz,aM (j:=0) rfl,Z,_,Z,cD (λ_=>?_) (λc=>absurd (br rfl) c)⟩;refine⟨_,Z,A.a,A.dx,_,Z,hh.h.oa,Z,_,Z,z,_,_,_,Z,Z,hz,aM (j:=1) rfl,_,Z,z,_,_,_,Z,Z,hz,aM (j:=2) rfl,_,Z,z,_,_,_,Z,Z,hz,aM (j:=3) rfl,_,Z,z,_,_,_,Z,Z,hz,aM (j:=4) rfl,⟨⟨n,ρ,A,st,x,o,wo,we,Z,hh,l1,l2,l3,l4,l5,by omega,by omega,q⟩⟩⟩
 | cast rs=>
  refine dQ hz rfl (by decide) rfl (bL ?_);refine dQ hz rfl (by decide) rfl (bL ?_);refine⟨_,Z,z,_,_,_,Z,Z,hz,aM (j:=0) rfl,Z,_,Z,cD (λ_=>?_) (λc=>absurd (br rfl) c)⟩;have ok:=gg.tE wf (by omega) hr0;have hrl:rs.length<=1000:=ok.len;refine⟨_,Z,A.a,A.dx,_,Z,hh.h.oa,Z,_,Z,z,_,Z,.inr hz,_,_,_,Z,⟨by decide,by decide,by omega,by rw[yZ];omega,by decide,by decide⟩,?_⟩;rw[yZ,Tn];intro acc hacc;refine mF (J:=QT 1 2 rs.length) (n:=rs.length) 0 (λi out H1=>aR H H1/\ee H1 out (rs.take i)) (by omega) ⟨aG hacc _,.nil⟩ (λi o H' hi _ _=>hi) (λo H' _ _=>aO _) ?_ ?_
  .rintro i x out H1 H2 hi gD ha ⟨g,R⟩ ⟨rfl,rfl⟩;have ei:=bM hi;generalize rs[i]=r at *;obtain⟨c1,c2⟩:=Pf ei;have e1:(1:Int)+(i:Int)*2=((1+2*i:Nat):Int):=by omega
   have e2:((1+2*i:Nat):Int)+1=((2+2*i:Nat):Int):=by omega
   rw[e1];refine⟨_,Z,_,Z,z,_,_,_,Z,Z,g.tup hz,aM c1,_,Z,_,Z,_,_,Z,Z,z,_,_,_,Z,Z,g.tup hz,by rw[e2];exact aM c2,(iO 2),λp hp=>?_⟩;have g6:=aG hp (yK r);refine⟨g6 _ _ ha,(g.trans g6).dI hacc _,?_⟩;rw[take_snoc ei];exact((R.mono g6.tups).snoc ai).mono (ig (.inr ⟨_,g6 _ _ ha,Z⟩))
  rintro out H1 gD ha ⟨g,R⟩;rw[cO]at R;exact⟨⟨n,ρ,A,st,acc,out,rs,Z,hh.mono g,aJ.of ha,R,ok,λρ' A' H' a1 a2 a3=>q ρ' A' H' a1 a2 ((Fr.of_same g).trans a3)⟩⟩
 | award o a=>refine dQ hz rfl (by decide) rfl (bL ?_);refine dQ hz rfl (by decide) rfl (bL ?_);refine dQ hz rfl (by decide) rfl (bL ?_);refine⟨_,Z,z,_,_,_,Z,Z,hz,aM (j:=0) rfl,Z,_,Z,cD (λ_=>?_) (λc=>absurd (br rfl) c)⟩;refine⟨_,Z,A.a,A.dx,_,Z,hh.h.oa,Z,_,Z,z,_,_,_,Z,Z,hz,aM (j:=1) rfl,_,Z,z,_,_,_,Z,Z,hz,aM (j:=2) rfl,⟨⟨n,ρ,A,st,o,a,Z,hh,gg.aw wf (by omega),.of hr0 q⟩⟩⟩
 | mishap x a=>refine dQ hz rfl (by decide) rfl (bL ?_);refine dQ hz rfl (by decide) rfl (bL ?_);refine dQ hz rfl (by decide) rfl (bL ?_);refine dQ hz rfl (by decide) rfl (bL ?_);refine⟨_,Z,z,_,_,_,Z,Z,hz,aM (j:=0) rfl,Z,_,Z,cD (λ_=>?_) (λc=>absurd (br rfl) c)⟩;refine⟨_,Z,A.a,A.dx,_,Z,hh.h.oa,Z,_,Z,z,_,_,_,Z,Z,hz,aM (j:=1) rfl,_,Z,z,_,_,_,Z,Z,hz,aM (j:=2) rfl,⟨⟨n,ρ,A,st,x,a,Z,hh,.of hr0 q⟩⟩⟩
 | rise x a=>refine dQ hz rfl (by decide) rfl (bL ?_);refine dQ hz rfl (by decide) rfl (bL ?_);refine dQ hz rfl (by decide) rfl (bL ?_);refine dQ hz rfl (by decide) rfl (bL ?_);refine dQ hz rfl (by decide) rfl (bL ?_);refine⟨_,Z,z,_,_,_,Z,Z,hz,aM (j:=0) rfl,Z,_,Z,cD (λ_=>?_) (λc=>absurd (br rfl) c)⟩;refine⟨_,Z,A.a,A.dx,_,Z,hh.h.oa,Z,_,Z,z,_,_,_,Z,Z,hz,aM (j:=1) rfl,_,Z,z,_,_,_,Z,Z,hz,aM (j:=2) rfl,⟨⟨n,ρ,A,st,x,a,Z,hh,.of hr0 q⟩⟩⟩
 | hand x o=>refine dQ hz rfl (by decide) rfl (bL ?_);refine dQ hz rfl (by decide) rfl (bL ?_);refine dQ hz rfl (by decide) rfl (bL ?_);refine dQ hz rfl (by decide) rfl (bL ?_);refine dQ hz rfl (by decide) rfl (bL ?_);refine dQ hz rfl (by decide) rfl (bL ?_);refine⟨_,Z,z,_,_,_,Z,Z,hz,aM (j:=0) rfl,Z,_,Z,cD (λ_=>?_) (λc=>absurd (br rfl) c)⟩;refine⟨_,Z,A.a,A.dx,_,Z,hh.h.oa,Z,_,Z,z,_,_,_,Z,Z,hz,aM (j:=1) rfl,_,Z,z,_,_,_,Z,Z,hz,aM (j:=2) rfl,⟨⟨n,ρ,A,st,x,o,Z,hh,gg.sum,.of hr0 q⟩⟩⟩
 | land x=>refine dQ hz rfl (by decide) rfl (bL ?_);refine dQ hz rfl (by decide) rfl (bL ?_);refine dQ hz rfl (by decide) rfl (bL ?_);refine dQ hz rfl (by decide) rfl (bL ?_);refine dQ hz rfl (by decide) rfl (bL ?_);refine dQ hz rfl (by decide) rfl (bL ?_);refine dQ hz rfl (by decide) rfl (bL ?_);refine⟨_,Z,z,_,_,_,Z,Z,hz,aM (j:=0) rfl,Z,_,Z,cD (λ_=>?_) (λc=>absurd (br rfl) c)⟩;refine⟨_,Z,A.a,A.dx,_,Z,hh.h.oa,Z,_,Z,z,_,_,_,Z,Z,hz,aM (j:=1) rfl,⟨⟨n,ρ,A,st,x,Z,hh,gg.ld wf (by omega) hk,.of hr0 q⟩⟩⟩
 | sever x y a we=>refine dQ hz rfl (by decide) rfl (bL ?_);refine dQ hz rfl (by decide) rfl (bL ?_);refine dQ hz rfl (by decide) rfl (bL ?_);refine dQ hz rfl (by decide) rfl (bL ?_);refine dQ hz rfl (by decide) rfl (bL ?_);refine dQ hz rfl (by decide) rfl (bL ?_);refine dQ hz rfl (by decide) rfl (bL ?_);refine dQ hz rfl (by decide) rfl (bL ?_);refine⟨_,Z,z,_,_,_,Z,Z,hz,aM (j:=0) rfl,Z,_,Z,cD (λ_=>?_) (λc=>absurd (br rfl) c)⟩;refine⟨_,Z,A.a,A.dx,_,Z,hh.h.oa,Z,_,Z,z,_,_,_,Z,Z,hz,aM (j:=1) rfl,_,Z,z,_,_,_,Z,Z,hz,aM (j:=2) rfl,_,Z,z,_,_,_,Z,Z,hz,aM (j:=3) rfl,_,Z,z,_,_,_,Z,Z,hz,aM (j:=4) rfl,⟨⟨n,ρ,A,st,x,y,a,we,Z,hh,KA (kZ (show iJ st x y a we=none from hr0)).2.1.1,by omega,by omega,.of hr0 q⟩⟩⟩
 | still=>refine dQ hz rfl (by decide) rfl (bL ?_);refine dQ hz rfl (by decide) rfl (bL ?_);refine dQ hz rfl (by decide) rfl (bL ?_);refine dQ hz rfl (by decide) rfl (bL ?_);refine dQ hz rfl (by decide) rfl (bL ?_);refine dQ hz rfl (by decide) rfl (bL ?_);refine dQ hz rfl (by decide) rfl (bL ?_);refine dQ hz rfl (by decide) rfl (bL ?_);refine dQ hz rfl (by decide) rfl (bL ?_);exact q ρ A H hh rfl Fr.refl
abbrev rO:Stmt:=top 40
abbrev oF:List Str:=["_law_owners","_law_deeds_here"]
abbrev Ir:List Str:=oF.append ["_law_hold","_law_owner","_law_deed_here"]
theorem nq:aS Ir oF (aF rO):=dX
theorem FL{T:TC}(F:At K mg "_law_behind" rO f fd)(yk:Cn P w K mg base 3 "Hold" T.hold ["self"] (EU T))(lP:Mn P w K mg base 3 T.hold "sign" nW (EV T))(ir:Dn P w K mg base 6 "_law_hold_do" kH (Cs T K)):Dn P w K mg base 7 "_law_behind" oF (Tu T K):=by
 refine F.oA nq λcdv A outer s H vs Q E hr h=>?_;obtain⟨⟨n,ρ,zo,l,own,zs,ds,rfl,G,fO,fL,hD,hC,oR,Le,aj7,Mp,hdl,q⟩⟩:=h;refine⟨_,(@dg.h _ _ _ (ak (aW (i:=2) nq.nd (DO yk hr))
  (ak (fG gc rfl (eW K (qv 0)) (bg (i:=3) nq.nd) (aA (b_ (b7 lP hr (qv 2) (ah (qv 3) au)))))
  (ak (fG gc rfl (eW K (qv 1)) (bg (i:=4) nq.nd) (aA (b_ (bK ir hr (ah (qv 2) (ah (qv 4) au))))))
  (aA (bJ (qv 2))))))),?_⟩
 intro x dx hx hdx hne;refine⟨⟨x,dx,ρ,n,Z,ai,(G.alloc hdx).alloc (by rw[ay (bX hne)];exact hx),G.none hx,λρ4 A4 H4 ea4 nF k4=>⟨Z,?_⟩⟩⟩;have F4:Fr n ρ H ρ4 H4:=λb o e _=>k4 b o (by rw[ay (aD e hx),ay (aD e hdx)];exact e) (aD e hx);refine⟨_,Z,zo,Z,⟨_,fO _ _ F4.out⟩,?_⟩;refine jW (K:=K) (xs:=own.map V.str) (λi σ H'=>∃ρ' A' s5,σ=[some (.ref zo),some (.ref l),some (.ref x),s5,none]/\A'.a=x/\HH T n ρ' A' H' ((own.take i).foldl h_ hs0)/\Fr n ρ H ρ' H')
  ⟨ρ4,A4,none,Z,ea4,nF,F4⟩ (λi σ H' _ hp=>by obtain⟨_,_,_,_,_,_,f⟩:=hp;exact fO _ _ f.out) ?_ ?_
 .rintro i y σ H' hy ⟨ρ',A',s2,rfl,ea',T5,F'⟩;rw[cN]at hy;obtain⟨o,eo,rfl⟩:=nH.mp hy;have hi:=(dY.mp eo).1;have ab7:((own.take i).foldl h_ hs0).own=own.take i:=by rw[wO];rfl
  refine⟨_,Z,x,A'.dx,_,Z,ea'▸T5.h.oa,Z,_,Z,⟨⟨n,ρ',A',_,o,by rw[ea'];rfl,T5,Mp o (cu eo),?_,?_,λρ2 A2 H2 h2 e2 F2=>?_⟩⟩⟩
  .rw [ab7];intro m;have h2:(own.take (i+1)).Nodup:=oR.sublist (Qq _ _);rw[take_snoc eo]at h2;exact(Qu.mp h2).2.2 o m o (eX.mpr rfl) rfl
  .rw [ab7,kN];omega
  .rw [take_snoc eo,BW];exact⟨ρ2,A2,_,Z,e2.trans ea',h2,F'.trans F2⟩
 rintro σ H5 ⟨ρ5,A5,s5,rfl,ea5,vD,F5⟩;rw[aH,cO]at vD;have vD:HH T n ρ5 A5 H5 (iM own):=vD;clear nF k4 F4;have gw:=gw0 oR Le (by omega) Mp;have PK:=E6 own;have an0:An (iM own):=λx hx=>by rw[show(iM own).bN=[]from(nc own hs0 rfl (λu hu=>absurd hu (by simp[hs0]))).2.2.2.2.1]at hx;cases hx
 have chg:=hC.go gw mo0 an0 (by omega) (by omega) (by rw[PK];omega);have zl:=hD.length;refine⟨_,Z,l,Z,⟨zs,fL _ _ F5.out⟩,?_⟩;refine jW (K:=K) (xs:=zs) (λi σ H'=>∃ρ' A' s3 s4,σ=[some (.ref zo),some (.ref l),some (.ref x),s3,s4]/\HH T n ρ' A' H' (cL (iM own) (ds.take i))/\A'.a=x/\Fr n ρ H ρ' H')
  ⟨ρ5,A5,_,_,Z,vD,ea5,F5⟩ (λi σ H' _ hp=>by obtain⟨_,_,_,_,_,_,_,f⟩:=hp;exact fL _ _ f.out) ?_ ?_
 .rintro i y σ H7 hy ⟨ρ7,A7,s3,s4,rfl,w_,ea7,F7⟩;obtain⟨z,d,rfl,ed,hz⟩:=hD.get hy;have hi:=(dY.mp ed).1;obtain⟨yl,eo7,_⟩:=chg i (by omega);obtain⟨d1,d2,d3⟩:=hC i d ed;rw[PK]at eo7;have HD:H7 z=some (.tup d.v):=(ie (F7.out _ _ (kg hz (G.tup hz)))).1;have kn7:=yl.kn;refine⟨_,Z,_,Z,⟨⟨n,0+i,ρ7,A7,_,z,d,by rw[ea7];rfl,dG.of HD,w_,yl.g,by omega,by omega,by rw[eo7];omega,d1,λρ8 A8 H8 vH ea8 F8=>?_⟩⟩⟩;rw[<-iB,<-take_snoc ed]at vH;exact⟨ρ8,A8,_,_,Z,vH,ea8.trans ea7,F7.trans F8⟩
 rintro σ H8 ⟨ρ8,A8,s3,s4,rfl,vH,ea8,F8⟩;rw[zl,cO]at vH;have ch:=chg ds.length (aO _);rw[cO]at ch;refine⟨_,Z,?_⟩;rw[Nat.zero_add,Nat.zero_add]at ch;have:=q ρ8 A8 H8 vH ch.1 (ch.2.1.trans PK) ch.2.2.1 ch.2.2.2 F8;rw[ea8]at this;exact this
abbrev ur:Stmt:=top 41
abbrev qF:List Str:=["_law_script","_law_k","_law_model","_law_many"]
abbrev Mq:List Str:=qF.append ["_law_casts_here","_law_at_here","_law_rows_here"]
theorem oG:aS Mq qF (aF ur):=dX
theorem Iu(F:At K mg "_law_casts" ur f fd)(lN:Dn P w K mg base 2 "_law_rows" nZ (E2 K))(lO:Dn P w K mg base 1 "_law_flat" n5 (Li K))(ji:Dn P w K mg base 2 "_law_lite_do" kG (Cr K))(cE:mg "len"=none)(dj:mg "range"=none):Dn P w K mg base 3 "_law_casts" qF (Pr K):=by
 refine F.oA oG λcdv A outer s H vs Q E hr h=>?_;obtain⟨⟨n,c,m,ρ,B,st,a,ns,k,nms,many,rfl,G,hb,gw,hc,hm,ho,fS,h63,hk0,hk1,nx,hnl,q⟩⟩:=h;refine⟨_,(@dg.h _ _ _ (ak (aW (i:=4) oG.nd (iK au))
  (ak (fG gc rfl (mL (by rfl) dj (ah (qv 3) au)) (bg (i:=5) oG.nd) (ak (aW (i:=6) oG.nd (bK lN hr (ah (qv 0) (ah (aP c7 (qv 1) (qv 5)) (ah (eV (d9 hr) (qv 2) bR) au)))))
  (aA (cX (aX j8 (bZ (dJ K) (by rfl) cE gf (ah (qv 6) au)) aq (bu _)) (ak (b_ (kY oM oJ oK eU (qv 4) (ah (qv 6) au)))
  (aA (b_ (bK ji hr (ah (qv 2) (ah (bK lO hr (ah (qv 6) au)) au)))))) bP))))
  (aA (bJ (qv 4)))))),?_⟩
 refine⟨(iO 0),λl hl=>?_⟩;have g0:=aG hl (.lst []);have qm:upd H l (.lst []) l=some (.lst []):=ai;show i9 _ _ _ _ (upd H l (.lst []));have F0:Fr n ρ H ρ (upd H l (.lst [])):=Fr.of_same g0;have cl0:ρ l=none:=G.none hl;have G0:=G.same g0;have hb0:=hb.mono g0;generalize upd H l (.lst [])=H0 at *;refine⟨_,Z,_,Z,by omega,by omega,?_⟩;refine mC (lo:=0) (n:=((many:Nat):Int).toNat) (λi σ H'=>∃(ρ':cg)(B':LA)(ws:List V)(cs:List (List Row))(s5 s6:Option V),σ=[some (.ref a),some (.int k),some (.ref B.m),some (.int (many:Int)),some (.ref l),s5,s6]/\Gh ρ' H'/\bY n ρ' B' H' (ef (cL st (cs.map Dd.cast)))/\B'.m=B.m/\Fr n ρ H ρ' H'/\H' l=some (.lst ws)/\ρ' l=none/\iN l ρ' H' ws cs/\nD st (cs.map Dd.cast)/\cs.length<=i/\Nx nms (cL st (cs.map Dd.cast)))
  ⟨ρ,B,[],[],_,_,Z,G0,hb0,Z,F0,qm,cl0,.nil,nD.nil st,aO _,nx⟩ ?_ ?_
 .rintro i σ H1 hi ⟨ρ1,B1,ws,cs,s5,s6,rfl,G1,h1,em,F1,hl1,zL,hD,hC,hdl,El⟩;have e0:(0:Int)+(i:Int)=((i:Nat):Int):=by omega
  rw[e0];have gwi:=hC.go gw (by rw[aH];omega) (by rw[aH];omega) ho cs.length (by rw[aH];exact aO _);rw[show(cs.map Dd.cast).take cs.length=cs.map Dd.cast by rw[<-aH (f:=Dd.cast)];exact cO]at gwi;obtain⟨nG,ow1⟩:=gwi;have om1:H1 B.m=some (.dK (jS B1)):=by rw[<-em];exact h1.om
  have nw1:=h1.nw (K:=K);rw[show(ef (cL st (cs.map Dd.cast))).aj=aV (cL st (cs.map Dd.cast))from rfl,VP]at nw1;have pl1:=El.pl nG.wf;have nwl:(mP (cL st (cs.map Dd.cast))).length<=1000:=by unfold mP;rw[aH];omega
  have fS1:=fS.go F1.out;refine⟨_,Z,_,Z,_,Z,_,_,Z,Z,_,Z,B.m,_,Z,eY.k (k:=Sum.inr "parts") om1,⟨⟨a,B1.lp,ns,k+i,_,mP (cL st (cs.map Dd.cast)),Z,fS1 _ _ (aR.refl _),h63,by omega,by omega,aJ.of h1.op,nw1,by unfold mP;rw[gj];exact nG.wf.dN,nwl,(λw hw=>by unfold mP at hw;obtain⟨p,hp,rfl⟩:=a_.mp hw;exact(nG.wf.jI p hp).1),λz zs rs H2 g2 hz0 hz2 hR rok=>?_⟩⟩⟩;have FN:=g2 _ _ hl1;have nzl:z≠l:=λe=>by rw[e,hl1]at hz0;cases hz0
  have zl:=hR.length;have h2:=h1.mono g2;have G2:=G1.same g2;have F2:=F1.trans (Fr.of_same (ρ:=ρ1) g2);have D2:iN l ρ1 H2 ws cs:=hD.keep (λz us e c _=>⟨g2 _ _ e,c⟩) g2.tups;have wl:=hD.length;refine⟨_,Z,z,_,Z,.inl (aJ.of hz2),_,_,Z,Z,_,Z,cD (λcc=>?_) (λcc=>?_)⟩
  .have hne:rs≠[] :=λe=>by have:=eF cc;rw[zl,e]at this;exact absurd this (by decide)
   have r1:=DS nG.wf rok hne;refine⟨_,Z,.inl ⟨Z,_,aJ.of FN⟩,_,Z,l,_,_,Z,Z,FN,by rw[wl];exact dH (by omega),?_⟩;have h3:=h2.same (sW (o:=.lst (ws++[.ref z])) zL FN rfl);have G3:=G2.wr (a:=l) (o:=.lst (ws++[.ref z])) rfl;have D3:iN l ρ1 (upd H2 l (.lst (ws++[.ref z]))) (ws++[.ref z]) (cs++[rs]):=(D2.snoc hz2 (G1.none hz0) nzl hR).keep (λz us e c n=>⟨by rw[ay n];exact e,c⟩) (ig (.inr ⟨_,FN,Z⟩));have hl3:upd H2 l (.lst (ws++[.ref z])) l=some (.lst (ws++[.ref z])):=ai;have hz3:upd H2 l (.lst (ws++[.ref z])) z=some (.lst zs):=by rw[ay nzl];exact hz2
   have R3:ee (upd H2 l (.lst (ws++[.ref z]))) zs rs:=hR.mono (ig (.inr ⟨_,FN,Z⟩));have F3:Fr n ρ H ρ1 (upd H2 l (.lst (ws++[.ref z]))):=λb o e hb=>let⟨x,y⟩:=F2 b o e hb;⟨by rw[ay (aD e hl)];exact x,y⟩;show RI _ _ _ (upd H2 l (.lst (ws++[.ref z])));generalize upd H2 l (.lst (ws++[.ref z]))=H3 at *;refine⟨_,Z,_,Z,⟨⟨z,zs,rs,Z,aJ.of hz3,R3,by have:=rok.len;omega,λt H4 g4 ht=>⟨⟨n,c+cs.length,ρ1,B1,cL st (cs.map Dd.cast),t,.cast rs,by rw[em];rfl,ht,G3.same g4,h3.mono g4,nG.wf,nG.g,by omega,r1,(λz=>nomatch z),λρ5 B5 H5 G5 h5 T4 F5=>?_⟩⟩⟩⟩⟩;have Xm:Fr n ρ1 H3 ρ5 H5:=(Fr.of_same (ρ:=ρ1) g4).trans F5;have eC:cL st ((cs++[rs]).map Dd.cast)=iA (cL st (cs.map Dd.cast)) (.cast rs):=by rw[bV];exact iB _ _ _
   refine⟨ρ5,B5,ws++[.ref z],cs++[rs],_,_,Z,G5,by rw[eC];exact h5,T4.trans em,F3.trans Xm,?_,?_,D3.outs G3 Xm.out,?_,by rw[dD];show cs.length+1<=i+1;omega,?_⟩
   .exact (Xm l _ hl3 (λt y e=>by rw[zL]at e;cases e)).1
   .exact (Xm l _ hl3 (λt y e=>by rw[zL]at e;cases e)).2.trans zL
   .rw [bV];exact hC.snoc r1 (VR nG.g rok (by omega) nG.wf) (λz=>nomatch z)
   .rw [eC];exact El.keep (Lh (d:=.cast rs) (λz=>nomatch z) (λz=>nomatch z))
  .exact ⟨ρ1,B1,ws,cs,_,_,Z,G2,h2,em,F2,FN,zL,D2,hC,by omega,El⟩
 rintro σ H1 ⟨ρ1,B1,ws,cs,s5,s6,rfl,G1,h1,em,F1,hl1,zL,hD,hC,hdl,El⟩;exact⟨_,Z,q l ws cs ρ1 B1 H1 G1 h1 em F1 hl1 zL hD hC (by omega) El⟩
abbrev vX:Stmt:=top 42
abbrev sL:List Str:=["_law_hold"]
abbrev NP:List Str:=sL.append ["_law_parts","_law_shares","_law_purses"]
theorem qG:aS NP sL (aF vX):=dX
theorem Mr{T:TC}(F:At K mg "_law_snap" vX f fd)(vY:Mn P w K mg base 1 T.hold "parts" qh (OT T))(ud:Mn P w K mg base 4 T.hold "shares" lF (yU T))(vZ:Mn P w K mg base 3 T.hold "purse" qy (Ph T))(oH:Mn P w K mg base 1 T.hold "roster" oB (Kw T))(jH:Mn P w K mg base 1 T.hold "landed" lG (Kz T))(gZ:Mn P w K mg base 1 T.hold "whole" kC (Bm T)):Dn P w K mg base 5 "_law_snap" sL (Tw T K):=by
 refine F.oA qG λcdv A outer s H vs Q E hr h=>?_;obtain⟨⟨n,ρ,A,st,rfl,hh,hk,q⟩⟩:=h;refine⟨_,(@dg.h _ _ _ (ak (aW (i:=1) qG.nd (kq vY hr (qv 0)))
  (ak (q_ (i:=2) ["_law_part","_law_hold"] [none,some 0] qG.nd rfl rfl rfl (eW K (qv 1)) (λ_ _ _ _=>(bg (i:=0) (show List.Nodup (["_law_part","_law_hold"] :List Str)from by decide +kernel))) (λ_ _ _ _=>(b7 ud hr (qv 1) (ah (aU (bq K) (qv 0) aq) au))) rfl (by rfl) (by rfl))
  (ak (q_ (i:=3) ["_law_owner","_law_hold"] [none,some 0] qG.nd rfl rfl rfl (eW K (kq oH hr (qv 0))) (λ_ _ _ _=>(bg (i:=0) (show List.Nodup (["_law_owner","_law_hold"] :List Str)from by decide +kernel))) (λ_ _ _ _=>(b7 vZ hr (qv 1) (ah (qv 0) au))) rfl (by rfl) (by rfl))
  (aA (bJ (iK (ah (kq oH hr (qv 0)) (ah (qv 1) (ah (qv 2) (ah (kq jH hr (qv 0)) (ah (kq gZ hr (qv 0)) (ah (qv 3) au))))))))))))),?_⟩
 have wf:=hh.wf;have pL:=wf.mH;refine⟨_,Z,A.a,A.dx,_,Z,hh.h.oa,Z,⟨⟨n,ρ,A,st,Z,hh.h,wf.mH,λr0 ws0 H1 g1 hr0 hr1 hP=>?_⟩⟩⟩;have iu:=hh.mono g1;have c0:ρ r0=none:=hh.g.none hr0;have wl:=hP.length;refine⟨_,Z,r0,Z,⟨_,aJ.of hr1⟩,λla hla=>?_⟩;have cla:ρ la=none:=iu.g.none hla;refine mF (J:=zW K r0) (n:=st.aj.length) 0 (λi out H'=>∃k,HH T n ρ A H' { st with kn:=k }/\k<=st.kn+100*i/\Fr n ρ H1 ρ H'/\vm la ρ H' st out (st.aj.take i)) (by omega) ⟨st.kn,iu.mono (aG hla _),aO _,Fr.of_same (aG hla _),.nil⟩ (λi o H' hi _ hp=>by obtain⟨_,_,_,f,_⟩:=hp;exact⟨_,_,f.seq (aJ.of hr1) c0,bM (by omega)⟩) (λo H' _ hp=>by obtain⟨_,_,_,f,_⟩:=hp;exact⟨_,f.seq (aJ.of hr1) c0,by omega⟩) ?_ ?_
 .rintro j y out H2 H3 hj Fl ha ⟨k,h2,hk2,F2,S⟩ ⟨rfl,hy⟩;have ep:=bM hj;generalize st.aj[j]=p at ep;obtain⟨t,et,ht⟩:=hP.get ep;have ey:=hy _ (F2.seq (aJ.of hr1) c0);rw[et]at ey;cases ey;have ht':H3 t=some (DF p):=(F2 t _ ht (λt' x' z'=>by rw[iu.g.tup ht]at z';cases z')).1;refine⟨_,Z,A.a,A.dx,_,Z,h2.h.oa,Z,_,Z,t,_,_,_,Z,Z,dG.of ht',aM (j:=0) rfl,⟨⟨n,ρ,A,_,j,p,Z,h2,ep,by show k+100<=1000000;omega,λz us H4 h4 F4 hz0 hz cz hsh=>?_⟩⟩⟩;have LN:H4 la=some (.lst out):=(F4 la _ ha (λt y e=>by rw[cla]at e;cases e)).1;have nz:z≠la:=λe=>by rw[e,ha]at hz0;cases hz0
  have hsh:jm H4 us (gR st p):=hsh;refine⟨LN,k+100,h4.wrO cla LN rfl rfl,by omega,?_,?_⟩
  .exact λb o e hb=>let⟨x,y⟩:=(F2.trans F4) b o e hb;⟨by rw[ay (aD e hla)];exact x,y⟩
  .rw [take_snoc ep];have S4:vm la ρ H4 st out (st.aj.take j):=S.keep (λz us e c _=>⟨(F4 z _ e (λt y e=>by rw[c]at e;cases e)).1,c⟩) λb xs e=>(F4 b _ e (λt y z=>by rw[h2.g.tup e]at z;cases z)).1;exact(S4.snoc hz cz nz hsh).keep (λz us e c n=>⟨by rw[ay n];exact e,c⟩) (ig (.inr ⟨_,LN,Z⟩))
 rintro wa H2 wal ha2 ⟨k,h2,hk2,F2,S2⟩;rw[cO]at S2;refine⟨_,Z,A.a,A.dx,_,Z,h2.h.oa,Z,⟨⟨n,ρ,A,_,Z,h2.h,λr1 ace=>?_⟩⟩⟩;have g3:=aG ace (.lst (st.own.map V.str));have Xn:upd H2 r1 (.lst (st.own.map V.str)) r1=some (.lst (st.own.map V.str)):=ai;have l9:=h2.mono g3;have cr1:ρ r1=none:=h2.g.none ace;show RK K _ (.ref r1) (upd H2 r1 (.lst (st.own.map V.str)));generalize upd H2 r1 (.lst (st.own.map V.str))=H3 at *;refine⟨r1,Z,⟨_,aJ.of Xn⟩,λlp vR=>?_⟩;have oL:=wf.kh;refine mF (J:=zW K r1) (n:=st.own.length) 0 (λi out H'=>aR H3 H'/\lT H' out ((st.own.take i).map (tF st))) (by omega) ⟨aG vR _,.nil⟩ (λi o H' hi _ hp=>⟨_,_,aJ.of (hp.1 _ _ Xn),by rw[cN,bM hi];rfl⟩) (λo H' _ hp=>⟨_,aJ.of (hp.1 _ _ Xn),by rw[aH];exact aO _⟩) ?_ ?_
 .rintro j y out H5 H6 hj Fl ha ⟨g,R⟩ ⟨rfl,hy⟩;have ey:=hy _ (aJ.of (g _ _ Xn));rw[cN]at ey;obtain⟨o,eo,rfl⟩:=nH.mp ey;have h5:=l9.h.mono g;refine⟨_,Z,A.a,A.dx,_,Z,h5.oa,Z,_,Z,⟨⟨n,ρ,A,_,o,Z,h5,l9.wf,cu eo,λr H7 g7 hr7=>⟨g7 _ _ ha,(g.trans g7).dI vR _,?_⟩⟩⟩⟩;rw[take_snoc eo,bV];exact((R.mono g7).snoc hr7).Yb (g7 _ _ ha)
 rintro wp H4 _ LN ⟨g4,R4⟩;rw[cO]at R4;have nF:=l9.mono g4;have clp:ρ lp=none:=l9.g.none vR;refine⟨_,Z,A.a,A.dx,_,Z,nF.h.oa,Z,⟨⟨n,ρ,A,_,Z,nF.h,λr5 acf=>?_⟩⟩⟩;have g5:=aG acf (.lst (st.own.map V.str));have hr5:upd H4 r5 (.lst (st.own.map V.str)) r5=some (.lst (st.own.map V.str)):=ai;have vD:=nF.mono g5;have c5:ρ r5=none:=nF.g.none acf;show QG _ _ _ (upd H4 r5 (.lst (st.own.map V.str))) _;generalize upd H4 r5 (.lst (st.own.map V.str))=H5 at *;refine⟨_,Z,_,Z,_,Z,A.a,A.dx,_,Z,vD.h.oa,Z,⟨⟨n,ρ,A,_,Z,vD,λr6 ws6 H6 g6 ahm AS hL=>?_⟩⟩⟩;have w6:=vD.mono g6;have c6:ρ r6=none:=vD.g.none ahm;refine⟨_,Z,A.a,A.dx,_,Z,w6.h.oa,Z,⟨⟨n,ρ,A,_,Z,w6.h,w6.wf.mH,λH7 g7=>⟨_,Z,(iO 6),λr hr=>?_⟩⟩⟩⟩;have g8:=aG hr (.lst [.ref r5,.ref r0,.ref la,.ref r6,.int (aE st),.ref lp]);have hr8:upd H7 r (.lst [.ref r5,.ref r0,.ref la,.ref r6,.int (aE st),.ref lp]) r=some (.lst [.ref r5,.ref r0,.ref la,.ref r6,.int (aE st),.ref lp]):=ai;have vH:=(w6.mono g7).mono g8;have cr:ρ r=none:=(w6.mono g7).g.none hr;show Q (.ref r) (upd H7 r (.lst [.ref r5,.ref r0,.ref la,.ref r6,.int (aE st),.ref lp]));generalize upd H7 r (.lst [.ref r5,.ref r0,.ref la,.ref r6,.int (aE st),.ref lp])=H8 at *;have Xo:aR H2 H8:=((((g3.trans g4).trans g5).trans g6).trans g7).trans g8;have s58:aR H5 H8:=(g6.trans g7).trans g8;have s68:aR H6 H8:=g7.trans g8;have s48:aR H4 H8:=g5.trans s58;have F8:Fr n ρ H1 ρ H8:=F2.trans (Fr.of_same Xo);refine q r k H8 vH hk2 ((Fr.of_same g1).trans F8) λρ' H9 s9=>?_;have tu:=oY vH.g s9;have li:∀{z:Addr}{xs:List V},H8 z=some (.lst xs)->ρ z=none->aJ K H9 z xs:=λe c=>(aJ.of (K:=K) e).outs c s9;have h0:H8 r0=some (.lst ws0):=(F8 r0 _ hr1 (λt y e=>by rw[c0]at e;cases e)).1;have P8:jw H8 ws0 st.aj:=hP.mono λb xs e=>(F8 b _ e (λt y z=>by rw[iu.g.tup e]at z;cases z)).1;have S8:vm la ρ H8 st wa st.aj:=S2.keep (λz us e c _=>⟨Xo _ _ e,c⟩) Xo.tups;have S9:vm la ρ' H9 st wa st.aj:=S8.keep (λz us e c _=>ie (s9 _ _ (kg e c))) tu;have L8:ki ρ H8 ws6 st.bN:=hL.outs w6.g (Cc s68);have L9:=L8.outs vH.g s9;have str:∀(l:List Str),uw K H9 (l.map V.str) (l.map PyData.str):=λl=>by
  induction l with
  | nil=>exact .nil
  | cons o l ih=>exact .cons (.str _) ih
 exact .lst (li hr8 cr) (.cons (.lst (li (s58 _ _ hr5) c5) (str _)) (.cons (.lst (li h0 c0) (P8.mono tu).dt) (.cons (.lst (li (Xo _ _ ha2) cla) S9.dt) (.cons (.lst (li (s68 _ _ AS) c6) L9.dt) (.cons (.int _) (.cons (.lst (li (s48 _ _ LN) clp) ((R4.mono s48).tups tu).dt) .nil))))))
abbrev qH:Stmt:=top 43
abbrev Ry:List Str:=["_law_script"]
abbrev adT:List Str:=Ry.append ["_law_owners","_law_names_here","_law_model","_law_one","_law_other","_law_casts_here","_law_rows_here","_law_turn","_law_deed_here"]
theorem jU:aS adT Ry (aF qH):=dX
theorem acg{T:TC}(F:At K mg "law" qH f fd)(aY:Dn P w K mg base 1 "_law_draw" iC (sQ K))(qI:Dn P w K mg base 2 "_law_names" qz (EN K))(xO:Dn P w K mg base 1 "_law_lite" sH (Tj K))(qJ:Dn P w K mg base 5 "_law_deeds" qD (Pg K))(uu:Dn P w K mg base 7 "_law_behind" oF (Tu T K))(xP:Mn P w K mg base 5 T.hold "twin" lK (Pn T))(v5:Dn P w K mg base 3 "_law_casts" qF (Pr K))(j6:Mn P w K mg base 4 T.hold "cast" nX (KN T K))(lQ:Dn P w K mg base 5 "_law_snap" sL (Tw T K))(ir:Dn P w K mg base 6 "_law_hold_do" kH (Cs T K)):j_ P w K mg base uW 8 f fd Ry (Jv K):=by
 refine F.fn.ok jU (λvs H Q E h=>?_) (λcdv A outer s H vs Q E hr h=>?_)
 .obtain ⟨a,ns,rfl,_⟩:=h;rfl
 obtain⟨a,ns,rfl,hS,h63,q⟩:=h;refine⟨_,(@dg.h _ _ _ (ak (aW (i:=1) jU.nd (bK qI hr (ah (qv 0) (ah aq (ah (aP c7 aq (bK aY hr (ah (qv 0) (ah aq (ah aq (ah aq au)))))) au)))))
  (ak (aW (i:=2) jU.nd (bK qI hr (ah (qv 0) (ah aq (ah aq au)))))
  (ak (aW (i:=3) jU.nd (bK xO hr (ah (qv 1) au)))
  (ak (aW (i:=4) jU.nd (bK uu hr (ah (qv 1) (ah (bK qJ hr (ah (qv 0) (ah aq (ah (qv 3) (ah (qv 2) (ah (aP c7 aq (bK aY hr (ah (qv 0) (ah aq (ah aq (ah aq au)))))) au)))))) au))))
  (ak (aW (i:=5) jU.nd (kq xP hr (qv 4)))
  (ak (aW (i:=6) jU.nd (bK v5 hr (ah (qv 0) (ah aq (ah (qv 3) (ah (aP c7 aq (bK aY hr (ah (qv 0) (ah aq (ah aq (ah aq au)))))) au))))))
  (ak (fG gc rfl (eW K (qv 6)) (bg (i:=7) jU.nd) (aA (b_ (b7 j6 hr (qv 4) (ah (qv 7) au)))))
  (ak (aW (i:=8) jU.nd (bK aY hr (ah (qv 0) (ah aq (ah aq (ah aq au))))))
  (ak (aW (i:=6) jU.nd (aP R5 (K2 OH (qv 6) (O0 (qv 8)) O1) (K2 OH (qv 6) O1 (O0 (qv 8)))))
  (ak (jR (aX eO (qv 8) aq (bu _)) (aA (aW (i:=6) jU.nd (K5 K (qv 6) (Jx C7 aq)))) bP)
  (ak (fG gc rfl (eW K (qv 6)) (bg (i:=7) jU.nd) (ak (jR (aX eO (bK aY hr (ah (qv 0) (ah aq (ah aq (ah aq au))))) aq (bu _)) (aA (aW (i:=7) jU.nd (K5 K (qv 7) (Jx C7 aq)))) bP)
  (aA (b_ (b7 j6 hr (qv 5) (ah (qv 7) au))))))
  (ak (cX (aX (X_ K hr.units) (bK lQ hr (ah (qv 4) au)) (bK lQ hr (ah (qv 5) au)) (bu _)) (aA (bJ WS)) bP)
  (ak (fG gc rfl (eW K (bK qJ hr (ah (qv 0) (ah aq (ah (qv 3) (ah (qv 2) (ah (bK aY hr (ah (qv 0) (ah aq (ah aq (ah aq au))))) au))))))) (bg (i:=9) jU.nd) (ak (b_ (bK ir hr (ah (qv 4) (ah (qv 9) au))))
  (aA (b_ (bK ir hr (ah (qv 5) (ah (qv 9) au)))))))
  (aA (bJ (Bp (X8 K hr.units) (bK lQ hr (ah (qv 4) au)) (bK lQ hr (ah (qv 5) au)) (bu _)))))))))))))))))),?_⟩
 refine⟨_,Z,_,Z,cZ hS h63 (by decide) (by decide) (by decide) (by decide) λod _ o0 o1=>⟨_,_,Z,Z,?_⟩⟩;obtain⟨no,hno⟩:∃no:Nat,1+od=(no:Int):=⟨(1+od).toNat,by omega⟩
 refine GD hno hS h63 (by decide) (by omega) λzo nso H1 g1 hzo _ aj8 ach aci=>?_;have Xl:=g1.seq hS;refine⟨_,Z,GD (show(6:Int)=((6:Nat):Int)from rfl) Xl h63 (by decide) (by decide) λzn nsn H2 g2 hzn _ aj9 acj ack=>?_⟩;have Mh:=g2.seq Xl;have V2:=g2 _ _ hzo;rw[Yw]at V2 hzn;have gD:=OW nso;have hnl:=OW nsn;have oR:=GP ach;have Mp:=SS aci;have nmN:=GP acj;have ahn:=SS ack;generalize DJ nso=own at *;generalize DJ nsn=nms at *;clear ach aci acj ack hzo;have fS0:=x_.of Mh;have fN0:=x_.of (aJ.of (K:=K) hzn);have fO0:=x_.of (aJ.of (K:=K) V2);refine⟨_,Z,⟨⟨zo,own,1,λ_=>none,Z,aJ.of V2,(λb c e=>by cases e),by omega,λρ3 B3 H3 G3 T6 k3=>?_⟩⟩⟩;have F3:Fr 1 (λ_=>none) H2 ρ3 H3:=λb o e _=>k3 b o e;have Xp:=fS0.go F3.out;have fN3:=fN0.go F3.out;have fO3:=fO0.go F3.out;have gw:=gw0 oR (by omega) (by omega) (λo ho=>(Mp o ho).isNm);have PK:=E6 own;have nx0:Nx nms (iM own):=aaZ nmN (λx hx=>(ahn x hx).isNm);rw[<-VH]at T6;have T6:bY 1 ρ3 B3 H3 (ef (iM own)):=T6;refine⟨_,Z,_,Z,_,Z,_,Z,_,Z,cZ (Xp _ _ (aR.refl _)) h63 (by decide) (by decide) (by decide) (by decide) λmd _ m0 m1=>⟨_,_,Z,Z,?_⟩⟩;obtain⟨many,adU⟩:∃many:Nat,2+md=(many:Int):=⟨(2+md).toNat,by omega⟩
 rw[adU];refine⟨⟨1,0,0,ρ3,B3,iM own,a,zn,ns,4,nms,many,Z,G3,T6,gw,by omega,by omega,by rw[PK];omega,Xp,h63,by decide,by decide,fN3,nx0,by omega,λl zs ds ρ6 B6 H6 G6 hb6 em6 F6 hl6 cl6 hD hC hdl nx6=>?_⟩⟩;have fS6:=Xp.go F6.out;have fO6:=fO3.go F6.out;have fN6:=fN3.go F6.out;refine⟨⟨0,ρ6,zo,l,own,zs,ds,Z,G6,fO6,(λρ' H' s=>(aJ.of (K:=K) hl6).outs cl6 s),hD,hC.toG,oR,by omega,by omega,(λo ho=>(Mp o ho).isNm),by omega,λρ7 A7 H7 w_ yl ow7 mo6 an6 F7=>?_⟩⟩;have hb7:=hb6.other F7 G6 (by decide);have fS7:=fS6.go F7.out;have fO7:=fO6.go F7.out;have fN7:=fN6.go F7.out;clear hD hC hl6 cl6 fS6 fO6 Xp fN3 fO3 T6 hb6 gw nx0 F6 F7 k3 F3 fS0 fN0 fO0 PK;have hc7:ds.length<=10:=by omega
 generalize ds.length=c at *;generalize cL (iM own) ds=st at *;subst ow7;refine⟨_,Z,A7.a,A7.dx,_,Z,w_.h.oa,Z,⟨⟨0,2,ρ7,A7,st,Z,by decide,w_,λρ8 C8 H8 Xq k8=>?_⟩⟩⟩;have vH:=w_.other (k8.fr (n:=2)) Xq.g (by decide);have hb8:=hb7.other (k8.fr (n:=2)) w_.g (by decide);have Xr:aR (out ρ7 H7) (out ρ8 H8):=(k8.fr (n:=2)).out;have Xs:=fS7.go Xr;have fO8:=fO7.go Xr;have fN8:=fN7.go Xr;clear w_ hb7 fS7 fO7 k8 Xr;have ok:=yl.g.st mo6 yl.wf (by omega);have G8:=Xq.g;have wf:=yl.wf;have ol:st.own.length<=10:=by omega
 refine⟨_,Z,_,Z,_,Z,cZ (Xs _ _ (aR.refl _)) h63 (by decide) (by decide) (by decide) (by decide) λcd _ cd0 cd1=>⟨_,_,Z,Z,?_⟩⟩;obtain⟨cm,wL⟩:∃cm:Nat,2+cd=(cm:Int):=⟨(2+cd).toNat,by omega⟩
 rw[wL];refine⟨⟨1,c,100*c,ρ8,B6,st,a,ns,12,nms,cm,by rw[em6];rfl,G8,hb8,yl,by omega,by omega,by omega,Xs,h63,by decide,by decide,nx6,by omega,λlc ws cs ρ9 B9 H9 G9 Pu em9 F9 T7 Xu Xv Ms hcl nx9=>?_⟩⟩;have TR:=vH.other F9 G9 (by decide);have TV:=Xq.other F9 G9 (by decide);have fS9:=Xs.go F9.out;have fN9:=fN8.go F9.out;have wl:=Xv.length;have bf:=Cy Ms yl (by omega) (by omega) (by omega);have chg:=Ms.go yl (by rw[aH];omega) (by rw[aH];omega) (by omega);clear vH Xq hb8 Xs fO8 fN8 F9 G8;refine⟨_,Z,lc,Z,⟨_,aJ.of T7⟩,?_⟩;refine jW (K:=K) (xs:=ws) (λi σ H'=>∃ρ' A' s7,σ=[some (.ref a),some (.ref zo),some (.ref zn),some (.ref B3.m),some (.ref A'.a),some (.ref C8.a),some (.ref lc),s7,none,none]/\HH T 0 ρ' A' H' (cL st ((cs.take i).map Dd.cast))/\Fr 0 ρ9 H9 ρ' H') ⟨ρ9,A7,_,Z,TR,Fr.refl⟩ (λi σ H' _ hp=>by obtain⟨_,_,_,_,_,f⟩:=hp;exact(aJ.of (K:=K) T7).outs Xu f.out) ?_ ?_
 .rintro i x σ H' hx ⟨ρ',A',s7,rfl,T5,F'⟩;obtain⟨z,zs,rs,rfl,er,hz,cz,_,hR⟩:=Xv.get hx;have hi:=(dY.mp er).1;have gi:=(chg i (by rw[aH];omega)).1;rw[<-CZ]at gi;have ok:=gi.g.tE gi.wf (by omega) (Ms.cs i rs er);refine⟨_,Z,A'.a,A'.dx,_,Z,T5.h.oa,Z,_,Z,⟨⟨0,ρ',A',_,z,zs,rs,Z,T5,(aJ.of hz).outs cz F'.out,hR.mono (oY G9 F'.out),ok,λρ2 A2 H2 nE ea2 F2=>?_⟩⟩⟩;refine⟨ρ2,A2,_,by rw[ea2];rfl,?_,F'.trans F2⟩;rw[take_snoc er,bV];rw[show cL st ((cs.take i).map Dd.cast++[rs].map Dd.cast)=cV (cL st ((cs.take i).map Dd.cast)) rs from iB _ _ _];exact nE
 rintro σ zA ⟨Eo,T8,s7,rfl,FO,BN⟩;rw[wl,cO]at FO;have acp:=TV.other BN FO.g (by decide);have acq:=Pu.other BN G9 (by decide);have V3:=fS9.go BN.out;have acr:=fN9.go BN.out;have V4:=Xv.outs G9 BN.out;have V5:zA lc=some (.lst ws):=(BN lc _ T7 (λt y e=>by rw[Xu]at e;cases e)).1;have aj_:Eo lc=none:=(BN lc _ T7 (λt y e=>by rw[Xu]at e;cases e)).2.trans Xu;clear TR TV Pu fS9 fN9 Xv T7 BN;have gwl:=chg cs.length (by rw[aH];exact aO _);rw[show(cs.map Dd.cast).take cs.length=cs.map Dd.cast by rw[<-aH (f:=Dd.cast)];exact cO]at gwl;obtain⟨nG,ow1⟩:=gwl;have T9:=Ms.mo yl mo6 (by rw[aH];omega) (by rw[aH];omega) (by omega) (cs.map Dd.cast).length (aO _);rw[cO,aH]at T9;have an1:An (cL st (cs.map Dd.cast)):=λx hx=>by have e:=(bf cs.length (aO _)).1.bN;rw[cO]at e;rw[e]at hx;exact an6 x hx
 refine⟨_,Z,cZ (V3 _ _ (aR.refl _)) h63 (by decide) (by decide) (by decide) (by decide) λtn _ tn0 tn1=>?_⟩;obtain⟨tk,htk⟩:∃tk:Nat,tn=(tk:Int):=⟨tn.toNat,by omega⟩
 subst htk;refine⟨_,Z,_,Z,_,Z,lc,_,Z,aJ.of V5,λp1 hp1=>?_⟩;rw[S7];have g1:=aG hp1 (.lst (ws.drop tk));have h1:upd zA p1 (.lst (ws.drop tk)) p1=some (.lst (ws.drop tk)):=ai;generalize upd zA p1 (.lst (ws.drop tk))=DW at *;refine⟨_,Z,_,Z,_,Z,lc,_,Z,aJ.of (g1 _ _ V5),λp2 hp2=>?_⟩;rw[YC];have g2:=aG hp2 (.lst (ws.take tk));have h2:upd DW p2 (.lst (ws.take tk)) p2=some (.lst (ws.take tk)):=ai;have h12:=g2 _ _ h1;generalize upd DW p2 (.lst (ws.take tk))=Xe at *;refine⟨p1,p2,_,_,Z,Z,h12,h2,?_,λp3 hp3=>?_⟩
 .rw [JL,kN];exact A0 (dH (by omega))
 have g3:=aG hp3 (.lst (ws.drop tk++ws.take tk));have h3:upd Xe p3 (.lst (ws.drop tk++ws.take tk)) p3=some (.lst (ws.drop tk++ws.take tk)):=ai;have PL:=(g1.trans g2).trans g3;have cp3:Eo p3=none:=FO.g.none ((g1.trans g2).free hp3);show rS 6 (.ref p3) _ (upd Xe p3 (.lst (ws.drop tk++ws.take tk))) _;generalize upd Xe p3 (.lst (ws.drop tk++ws.take tk))=LL at *;refine⟨λσ H'=>aR zA H'/\∃l2 Xw,σ=[some (.ref a),some (.ref zo),some (.ref zn),some (.ref B3.m),some (.ref T8.a),some (.ref C8.a),some (.ref l2),s7,some (.int (tk:Int)),none]/\H' l2=some (.lst Xw)/\Eo l2=none/\iN lc Eo H' Xw (gX tk cs),?_,?_⟩
 .have C13:iN lc Eo LL (ws.drop tk++ws.take tk) (cs.drop tk++cs.take tk):=((V4.drop tk).app (V4.take tk)).keep (λz us e c _=>⟨PL _ _ e,c⟩) PL.tups;refine⟨_,Z,Z,_,Z,cD (λcc=>?_) (λcc=>?_)⟩
  .have t0:tk=0:=by have:=eF cc;have:=V.int.inj this;omega
   refine⟨_,Z,_,Z,Z,p3,_,Z,aJ.of h3,λp4 LK=>?_⟩;have g4:=aG LK (.lst (ws.drop tk++ws.take tk).reverse);refine⟨PL.trans g4,p4,_,Z,ai,FO.g.none (PL.free LK),?_⟩;unfold gX;rw[aC t0];exact C13.rev.keep (λz us e c _=>⟨g4 _ _ e,c⟩) g4.tups
  .have t0:tk≠0:=λe=>cc (br (by rw[e];rfl));refine⟨PL,p3,_,Z,h3,cp3,?_⟩;unfold gX;rw[aB t0];exact C13
 rintro σ H14 ⟨T_,l2,Xw,rfl,hl2,cl2,Cs2⟩;have V6:=FO.mono T_;have acu:=acp.mono T_;have acv:=acq.mono T_;have V7:=V3.go (Cc (ρ:=Eo) T_);have acw:=acr.go (Cc (ρ:=Eo) T_);have w2:=Cs2.length;rw[Cw]at w2;have G14:=V6.g;clear FO acp acq V3 acr V4 V5 h1 h2 h3 h12 hp1 hp2 hp3 g1 g2 g3 PL;have gk:GW c (100*c) { st with kn:=0 }:=⟨yl.g.kn 0,Q3 wf (fM _),fM _⟩
 refine⟨_,Z,l2,Z,⟨_,aJ.of hl2⟩,?_⟩;refine jW (K:=K) (xs:=Xw) (λi σ H'=>∃ρ' C' s' s7,σ=[some (.ref a),some (.ref zo),some (.ref zn),some (.ref B3.m),some (.ref T8.a),some (.ref C'.a),some (.ref l2),s7,some (.int (tk:Int)),none]/\HH T 2 ρ' C' H' s'/\GW (c+i) (100*c+100*i) s'/\s'.own=st.own/\nT st (((gX tk cs).take i).map (mS (decide (Jm.draw ns 0 5 2=1)))).flatten s'/\Fr 2 Eo H14 ρ' H') ⟨Eo,C8,_,s7,Z,acu,gk,Z,(let b:=nT.nil wf;⟨b.own,b.nms,b.bN,b.qd,b.wh,b.sh,b.pu⟩),Fr.refl⟩ (λi σ H' _ hp=>by obtain⟨_,_,_,_,_,_,_,_,_,f⟩:=hp;exact(aJ.of (K:=K) hl2).outs cl2 f.out) ?_ ?_
 .rintro i x σ H' hx ⟨ρ',C',s',s7',rfl,hc',Ua,ow',b',F'⟩;obtain⟨z,zs,rs,rfl,er,hz,cz,_,hR⟩:=Cs2.get hx;have hi:=(dY.mp er).1;rw[Cw]at hi;have G':=hc'.g;have fS':=V7.go F'.out;have hz':=(ie (F'.out _ _ (kg hz cz)))
  have hR':=hR.mono (oY G14 F'.out);refine⟨λσ H2=>aR H' H2/\∃z2 zs2,σ=[some (.ref a),some (.ref zo),some (.ref zn),some (.ref B3.m),some (.ref T8.a),some (.ref C'.a),some (.ref l2),some (.ref z2),some (.int (tk:Int)),none]/\H2 z2=some (.lst zs2)/\ee H2 zs2 (mS (decide (Jm.draw ns 0 5 2=1)) rs),?_,?_⟩
  .refine ⟨_,Z,cZ (fS' _ _ (aR.refl _)) h63 (by decide) (by decide) (by decide) (by decide) λdw GZ dw0 dw1=>⟨Z,_,Z,cD (λcc=>?_) (λcc=>?_)⟩⟩
   .have e1:Jm.draw ns 0 5 2=1:=by rw[<-GZ];exact V.int.inj (eF cc)
    refine⟨_,Z,_,Z,Z,z,_,Z,aJ.of hz'.1,λp4 LK=>?_⟩;have g4:=aG LK (.lst zs.reverse);refine⟨g4,p4,_,Z,ai,?_⟩;rw[br e1];exact hR'.rev.mono g4.tups
   .have e1:Jm.draw ns 0 5 2≠1:=λe=>cc (br (by rw[GZ,e]));refine⟨aR.refl _,z,zs,Z,hz'.1,?_⟩;rw[dF e1];exact hR'
  rintro σ H2 ⟨g2,z2,zs2,rfl,hz2,hR2⟩;generalize decide (Jm.draw ns 0 5 2=1)=bb at *;obtain⟨cr,w0⟩:=TF Ms yl (by omega) (by omega) (by omega) er b' Ua.wf;have ok:=Ua.g.tE Ua.wf (by omega) cr;refine⟨_,Z,C'.a,C'.dx,_,Z,(hc'.mono g2).h.oa,Z,_,Z,⟨⟨2,ρ',C',s',z2,zs2,mS bb rs,Z,hc'.mono g2,aJ.of hz2,hR2,ok,λρ3 C3 H3 hc3 TN F3=>?_⟩⟩⟩;have gd:=Ua.do (d:=.cast (mS bb rs)) (by omega) (by omega) (by rw[ow'];omega) cr True.intro;have b3:=b'.cast wf Ua.wf w0 ok;refine⟨ρ3,C3,cV s' (mS bb rs),_,by rw[TN],hc3,gd,(qY _ _).trans ow',?_,F'.trans ((Fr.of_same (ρ:=ρ') g2).trans F3)⟩;rw[take_snoc er,bV,Qj];rw[show([rs].map (mS bb)).flatten=mS bb rs by simp];exact b3
 rintro σ H15 ⟨Ub,C15,s2,s7',rfl,V8,Uc,ow2,b2,Ud⟩;rw[w2,<-Cw tk cs,cO]at b2;rw[w2]at Uc;have ve:=Rm Ms yl (by omega) (by omega) (by omega) b2;have V9:=V6.other Ud V8.g (by decide);have acy:=acv.other Ud G14 (by decide);have acz:=V7.go Ud.out;have acA:=acw.go Ud.out;clear V6 acu acv V7 acw Ud Cs2 hl2 b2 bf chg Ms;generalize cL st (cs.map Dd.cast)=s1 at *;have pl1:=nG.g.pl;have pl2:=Uc.g.pl;have kn1:=nG.kn;have kn2:=Uc.kn;have pd1:=(Pq nG.g nG.wf T9 an1)
 refine⟨_,Z,⟨⟨0,Ub,T8,s1,Z,V9,by omega,λr1 k1 H16 V_ hk1 Xx D1=>?_⟩⟩⟩;have Wa:=V8.other Xx V_.g (by decide);have acB:=acy.other Xx V9.g (by decide);refine⟨_,Z,⟨⟨2,Ub,C15,s2,Z,Wa,by omega,λr2 k2 Hz Wb hk2 Ue D2=>?_⟩⟩⟩;have Wc:=V_.other Ue Wb.g (by decide);have acC:=acB.other Ue Wa.g (by decide);have o17:=Xx.out.trans Ue.out;have Wd:=acz.go o17;have acE:=acA.go o17;refine ne_data (n:=8) (D1 Ub Hz Ue.out) (by rw[ve.snap nG.wf Uc.wf];exact D2 Ub Hz (aR.refl _)) pd1 (by decide) ⟨_,Z,bL ?_⟩;clear V9 V8 acy V_ Wa acB acz acA D1 D2 Xx Ue o17;refine⟨_,Z,_,Z,_,Z,_,Z,cZ (Wd _ _ (aR.refl _)) h63 (by decide) (by decide) (by decide) (by decide) λdd _ dd0 dd1=>?_⟩;obtain⟨dm,hdm⟩:∃dm:Nat,dd=(dm:Int):=⟨dd.toNat,by omega⟩
 subst hdm;have G17:=Wc.g;refine⟨⟨1,c+cs.length,100*c+100*cs.length,Ub,B9,s1,a,zn,ns,20,nms,dm,by rw[em9,em6];rfl,G17,acC,nG,by omega,by omega,by rw[ow1];omega,Wd,h63,by decide,by decide,acE,nx9,by omega,λld zd dds Xh B18 H18 G18 aho aka F18 acH ahp hD hC akb akc=>?_⟩⟩;have acI:=Wc.other F18 G18 (by decide);have acJ:=Wb.other F18 G18 (by decide);have zdl:=hD.length;have ve0:VE { s1 with kn:=k1 } { s2 with kn:=k2 }:=⟨ve.own,ve.nms,ve.bN,ve.qd,ve.sh,ve.pu⟩
 have ga0:GW (c+cs.length) 5000 { s1 with kn:=k1 }:=⟨nG.g.kn k1,acI.wf,by show k1<=5000;omega⟩
 have gb0:GW (c+cs.length) 5000 { s2 with kn:=k2 }:=⟨Uc.g.kn k2,acJ.wf,by show k2<=5000;omega⟩
 have ahq:Mo (c+cs.length) { s1 with kn:=k1 }:=⟨T9.pz,T9.ao,T9.aw⟩
 clear Wc Wb acC aho Wd acE F18 G17;refine⟨ld,Z,⟨_,aJ.of acH⟩,?_⟩;refine jW (K:=K) (xs:=zd) (λi σ H'=>∃ρ' A' C' x y s9,σ=[some (.ref a),some (.ref zo),some (.ref zn),some (.ref B3.m),some (.ref A'.a),some (.ref C'.a),some (.ref l2),s7',some (.int (tk:Int)),s9]/\HH T 0 ρ' A' H' x/\HH T 2 ρ' C' H' y/\VE x y/\nC x (cL s1 (dds.take i))/\GW (c+cs.length+i) (5000+100*i) x/\GW (c+cs.length+i) (5000+100*i) y/\Mo (c+cs.length+i) x/\An x/\x.own=st.own/\aR (out Xh H18) (out ρ' H')) ⟨Xh,T8,C15,_,_,_,Z,acI,acJ,ve0,(nC.refl s1).set k1,ga0,gb0,ahq,an1,ow1,aR.refl _⟩ (λi σ H' _ hp=>by obtain⟨_,_,_,_,_,_,_,_,_,_,_,_,_,_,_,_,s⟩:=hp;exact(aJ.of (K:=K) acH).outs ahp s) ?_ ?_
 .rintro i v σ H' hv ⟨ρ',A',C',x,y,s9,rfl,hx,hy,PM,ek,gx,gy,mx,ax,Ug,so⟩;obtain⟨z,d,rfl,ed,hz⟩:=hD.get hv;have hi:=(dY.mp ed).1;obtain⟨d1,d2,d3⟩:=hC i d ed;have rx:jr x d=none:=by rw[ek.ref];exact d1
  have ry:jr y d=none:=by rw[<-PM.ref];exact rx
  have hz':H' z=some (.tup d.v):=oY G18 so _ _ hz;have knx:=gx.kn;have kny:=gy.kn;have owy:y.own=st.own:=PM.own.symm.trans Ug;refine⟨_,Z,_,Z,⟨⟨0,c+cs.length+i,ρ',A',x,z,d,Z,dG.of hz',hx,gx.g,by omega,by omega,by rw[Ug];omega,rx,λρ2 A2 H2 h2 ea2 F2=>?_⟩⟩⟩;have hy2:=hy.other F2 h2.g (by decide);have hz2:H2 z=some (.tup d.v):=(F2 z _ hz' (λt w e=>by rw[hx.g.tup hz']at e;cases e)).1;refine⟨_,Z,_,Z,⟨⟨2,c+cs.length+i,ρ2,C',y,z,d,Z,dG.of hz2,hy2,gy.g,by omega,by omega,by rw[owy];omega,ry,λρ3 C3 H3 h3 TN F3=>?_⟩⟩⟩;have h23:=h2.other F3 h3.g (by decide);have ek2:=ek.do d;rw[<-iB,<-take_snoc ed]at ek2;exact⟨ρ3,A2,C3,_,_,_,by rw[ea2,TN];rfl,h23,h3,PM.do gx.wf gy.wf gx.g gy.g (by omega) (by omega) rx d3,ek2,gx.do (by omega) (by omega) (by rw[Ug];omega) rx d2.g,gy.do (by omega) (by omega) (by rw[owy];omega) ry d2.g,Rg mx gx.g gx.wf rx,WX ax gx.g gx.wf rx,(Lk d3).trans Ug,(so.trans F2.out).trans F3.out⟩
 rintro σ H19 ⟨PD,A19,C19,x,y,s9,rfl,hx,hy,PM,ek,gx,gy,mx,ax,Ug,so⟩;have knx:=gx.kn;have kny:=gy.kn;have plx:=gx.g.pl;have ply:=gy.g.pl;refine⟨_,Z,⟨⟨0,PD,A19,x,Z,hx,by omega,λr3 k3 H20 ahr hk3 F20 D3=>?_⟩⟩⟩;have ahs:=hy.other F20 ahr.g (by decide);refine⟨_,Z,⟨⟨2,PD,C19,y,Z,ahs,by omega,λr4 k4 H21 akd hk4 F21 D4=>?_⟩⟩⟩;have pdx:=Pq gx.g gx.wf mx ax;refine⟨_,_,D3 PD H21 F21.out,D4 PD H21 (aR.refl _),pdx.shaped (by decide),by rw[<-PM.snap gx.wf gy.wf];exact pdx.shaped (by decide),?_⟩;rw[<-PM.snap gx.wf gy.wf,pdx.eqv];exact q H21
end
theorem all_mk{l:PySem.W.OpenLaw}{w:World}{K:Fg}{h:Heap}{mg:SO}{fa:Addr}(X:K.In h)(G:h.Ns mainGlobals mg)(hfa:mg "law"=some (.ref fa)){f:Addr}{od an:Option Addr}{sl:Array (Option Value)}{oc kV dc pm cd ct:Value}(a:PySem.W.nsIn K mainGlobals "law"=some (some (.ref f)))(l1:K.lookup f=some ⟨oc,od,.func (PySem.W.fnOf "law" "law" (fZ qH) (dR qH) (aF qH) .none kV dc pm an cd ct),sl⟩)(c:PySem.W.codeIn K cd "law"=true)(k:PySem.W.keepIn K (.ref f)=true)(Ep:fC K "common_factor" oZ)(Uh:fC K "made_of" ze)(Ui:fC K "is_name" zf)(FP:fC K "check_amount" qe)(Mt:fC K "check_loss" tV)(Mu:fC K "amounts_of" tW)(Er:fC K "factor_of_all" o6)(NQ:fC K "_law_draw" vO)(NR:fC K "_law_name" vP)(Mv:fC K "_law_names" um)(NS:fC K "_law_lite" vQ)(NT:fC K "_law_much" vS)(NU:fC K "_law_rows" vU)(NV:fC K "_law_flat" vV)(CL:fC K "_law_part_deed" nN)(NW:fC K "_law_deed" vW)(Uj:fC K "_law_at" zh)(Es:fC K "_law_lite_one" pe)(FQ:fC K "_law_lite_do" qB)(Mw:fC K "_law_deeds" uo)(FT:fC K "_law_hold_do" qE)(Iw:fC K "_law_behind" rO)(Mx:fC K "_law_casts" ur)(NX:fC K "_law_snap" vX)(adV:PySem.W.nsIn K mainGlobals "len"=some none)(Y0:PySem.W.nsIn K mainGlobals "range"=some none)(adW:PySem.W.nsIn K mainGlobals "sum"=some none)(acM:PySem.W.nsIn K mainGlobals "list"=some none)(adX:PySem.W.nsIn K mainGlobals "zip"=some none)(adY:PySem.W.nsIn K mainGlobals "all"=some none)(adZ:PySem.W.nsIn K mainGlobals "int"=some none)(acN:PySem.W.nsIn K mainGlobals "bool"=some none)(ad0:PySem.W.nsIn K mainGlobals "str"=some none)(Y3:PySem.W.nsIn K mainGlobals "tuple"=some none)(ad1:PySem.W.nsIn K mainGlobals "abs"=some none)(My:PySem.W.nsIn K mainGlobals "isinstance"=some none)(ad2:PySem.W.nsIn K mainGlobals "min"=some none)(acO:PySem.W.nsIn K mainGlobals "dict"=some none){Rz:Tok}(Uk:PySem.W.nsIn K mainGlobals "LETTERS"=some (some (.str "abcdefghijklmnopqrstuvwxyz" Rz))){cJ:Addr}(Y4:PySem.W.nsIn K mainGlobals "Hold"=some (some (.ref cJ)))(Y5:PySem.W.plainGet K cJ Str.empty=true)(Y6:PySem.W.hasDictIn K cJ=true)(Y7:PySem.W.plainOver K cJ=true)(Y8:PySem.W.findIn K (.ref cJ) "__setattr__"=some (some (.builtin "object.__setattr__")))(Y9:PySem.W.makesIn K cJ=true)(Y_:PySem.W.keepIn K (.ref cJ)=true)(NY:dh K cJ "__init__" "Hold.__init__" vE)(Et:dh K cJ "place_of" "Hold.place_of" o8)(FU:dh K cJ "part_of" "Hold.part_of" qg)(CM:dh K cJ "check_new" "Hold.check_new" nM)(Mz:dh K cJ "parts" "Hold.parts" tY)(MA:dh K cJ "whole" "Hold.whole" tZ)(zj:dh K cJ "beyond_common" "Hold.beyond_common" kD)(FW:dh K cJ "tops_of" "Hold.tops_of" qi)(NZ:dh K cJ "stow" "Hold.stow" vz)(N1:dh K cJ "sign" "Hold.sign" vA)(N3:dh K cJ "load" "Hold.load" vB)(Iz:dh K cJ "shares" "Hold.shares" rH)(IA:dh K cJ "landed" "Hold.landed" rM)(Eu:dh K cJ "given_up" "Hold.given_up" o9)(IB:dh K cJ "lessen" "Hold.lessen" rE)(MB:dh K cJ "blend" "Hold.blend" t_)(N4:dh K cJ "cast" "Hold.cast" vF)(MC:dh K cJ "award" "Hold.award" uc)(IC:dh K cJ "mishap" "Hold.mishap" rK)(N5:dh K cJ "rise" "Hold.rise" vI)(N6:dh K cJ "hand" "Hold.hand" vJ)(N7:dh K cJ "land" "Hold.land" vK)(MD:dh K cJ "sever" "Hold.sever" ue)(ME:dh K cJ "purse" "Hold.purse" uf)(ID:dh K cJ "roster" "Hold.roster" rL)(N8:dh K cJ "twin" "Hold.twin" vN)(IE:PySem.W.findIn K (.ref cJ) "places"=some none)(IF:PySem.W.findIn K (.ref cJ) "aboard"=some none)(IG:PySem.W.findIn K (.ref cJ) "ashore"=some none)(MF:PySem.W.findIn K (.ref cJ) "names"=some none)(II:PySem.W.findIn K (.ref cJ) "bottom"=some none)(IJ:PySem.W.findIn K (.ref cJ) "common"=some none)(IK:PySem.W.findIn K (.ref cJ) "purses"=some none){i6:Addr}(Za:PySem.W.nsIn K mainGlobals "Part"=some (some (.ref i6)))(PN:PySem.W.plainGet K i6 Str.empty=true)(PR:PySem.W.hasDictIn K i6=true)(PU:PySem.W.plainOver K i6=true)(PV:PySem.W.findIn K (.ref i6) "__setattr__"=some (some (.builtin "object.__setattr__")))(Zb:PySem.W.makesIn K i6=true)(Zc:PySem.W.keepIn K (.ref i6)=true)(N9:dh K i6 "__init__" "Part.__init__" vt)(N_:dh K i6 "twin" "Part.twin" vM)(Oa:PySem.W.findIn K (.ref i6) "name"=some none)(MG:PySem.W.findIn K (.ref i6) "owner"=some none)(MH:PySem.W.findIn K (.ref i6) "worth"=some none)(IL:PySem.W.findIn K (.ref i6) "weight"=some none)(MI:PySem.W.findIn K (.ref i6) "scale"=some none)(RA:PySem.W.findIn K (.ref i6) "row"=some none){fK:Addr}(Ul:PySem.W.nsIn K mainGlobals "Bottom"=some (some (.ref fK)))(Um:PySem.W.plainGet K fK Str.empty=true)(Uo:PySem.W.hasDictIn K fK=true)(Up:PySem.W.plainOver K fK=true)(Uq:PySem.W.findIn K (.ref fK) "__setattr__"=some (some (.builtin "object.__setattr__")))(Ur:PySem.W.makesIn K fK=true)(Us:PySem.W.keepIn K (.ref fK)=true)(IM:dh K fK "__init__" "Bottom.__init__" rB)(IP:dh K fK "over" "Bottom.over" rG)(FY:dh K fK "share" "Bottom.share" qu)(IQ:dh K fK "grow" "Bottom.grow" rC)(IS:dh K fK "twin" "Bottom.twin" rN)(FZ:PySem.W.findIn K (.ref fK) "steps"=some none)(CN:PySem.W.findIn K (.ref fK) "product"=some none)(F_:PySem.W.findIn K (.ref fK) "known"=some none)
  :∃fd:FuncData,(∀(s:Shared)(v:Value),BindsTo s fd ⟨[v],[]⟩ [("_law_script",v)])/\∀base:Heap,K.In base->base.Ns mainGlobals mg->j_ l.prog w K mg base uW 8 fa fd ["_law_script"] (Jv K):=by
 have e:=hfa.symm.trans (PySem.W.mg_of X G a)
 cases e
 have ad3:=WB (st:=qH) X G a l1 c k
 have tK:qK K fK:=⟨Um,Uo,Up,Uq⟩
 have dM:qK K cJ:=⟨Y5,Y6,Y7,Y8⟩
 obtain⟨_,_,Ew⟩:=Ep.at X G
 obtain⟨_,_,Ut⟩:=Uh.at X G
 obtain⟨_,_,Uu⟩:=Ui.at X G
 obtain⟨_,_,Ga⟩:=FP.at X G
 obtain⟨_,_,MJ⟩:=Mt.at X G
 obtain⟨_,_,MK⟩:=Mu.at X G
 obtain⟨_,_,Ex⟩:=Er.at X G
 obtain⟨_,_,Ob⟩:=NQ.at X G
 obtain⟨_,_,Oc⟩:=NR.at X G
 obtain⟨_,_,ML⟩:=Mv.at X G
 obtain⟨_,_,Od⟩:=NS.at X G
 obtain⟨_,_,Oe⟩:=NT.at X G
 obtain⟨_,_,Of⟩:=NU.at X G
 obtain⟨_,_,Og⟩:=NV.at X G
 obtain⟨_,_,CO⟩:=CL.at X G
 obtain⟨_,_,Oh⟩:=NW.at X G
 obtain⟨_,_,Uv⟩:=Uj.at X G
 obtain⟨_,_,Ey⟩:=Es.at X G
 obtain⟨_,_,Gb⟩:=FQ.at X G
 obtain⟨_,_,MM⟩:=Mw.at X G
 obtain⟨_,_,Gd⟩:=FT.at X G
 obtain⟨_,_,IT⟩:=Iw.at X G
 obtain⟨_,_,MN⟩:=Mx.at X G
 obtain⟨_,_,Oi⟩:=NX.at X G
 have cE:=pK X G adV
 have dj:=pK X G Y0
 have k_:=pK X G adW
 have fU:=pK X G acM
 have jb:=pK X G adX
 have Rp:=pK X G adY
 have ajU:=pK X G adZ
 have ajS:=pK X G acN
 have ajV:=pK X G ad0
 have FH:=pK X G Y3
 have ajW:=pK X G ad1
 have acP:=pK X G My
 have xj:=pK X G ad2
 have Eh:=pK X G acO
 have AL:=PySem.W.mg_of X G Uk
 obtain⟨_,_,Oj⟩:=NY.made X G Y4 Y9 Y_
 obtain⟨_,_,Ez⟩:=Et.at dM
 obtain⟨_,_,Ge⟩:=FU.at dM
 obtain⟨_,_,CP⟩:=CM.at dM
 obtain⟨_,_,MO⟩:=Mz.at dM
 obtain⟨_,_,MP⟩:=MA.at dM
 obtain⟨_,_,zm⟩:=zj.at dM
 obtain⟨_,_,Gf⟩:=FW.at dM
 obtain⟨_,_,Ol⟩:=NZ.at dM
 obtain⟨_,_,Om⟩:=N1.at dM
 obtain⟨_,_,Oo⟩:=N3.at dM
 obtain⟨_,_,IU⟩:=Iz.at dM
 obtain⟨_,_,IV⟩:=IA.at dM
 obtain⟨_,_,EA⟩:=Eu.at dM
 obtain⟨_,_,IW⟩:=IB.at dM
 obtain⟨_,_,MQ⟩:=MB.at dM
 obtain⟨_,_,Oq⟩:=N4.at dM
 obtain⟨_,_,MR⟩:=MC.at dM
 obtain⟨_,_,IZ⟩:=IC.at dM
 obtain⟨_,_,Ot⟩:=N5.at dM
 obtain⟨_,_,Ou⟩:=N6.at dM
 obtain⟨_,_,Ov⟩:=N7.at dM
 obtain⟨_,_,MS⟩:=MD.at dM
 obtain⟨_,_,MT⟩:=ME.at dM
 obtain⟨_,_,I0⟩:=ID.at dM
 obtain⟨_,_,Ow⟩:=N8.at dM
 obtain⟨_,_,Ox⟩:=N9.made X G Za Zb Zc
 obtain⟨_,_,Oz⟩:=N_.at ⟨PN,PR,PU,PV⟩
 obtain⟨_,_,I_⟩:=IM.made X G Ul Ur Us
 obtain⟨_,_,Ja⟩:=IP.at tK
 obtain⟨_,_,Gg⟩:=FY.at tK
 obtain⟨_,_,Jb⟩:=IQ.at tK
 obtain⟨_,_,Jc⟩:=IS.at tK
 have TX:Txt K ⟨cJ,i6,fK⟩:=⟨dM,⟨PN,PR,PU,PV⟩,tK,IE,IF,IG,MF,II,IJ,IK,Oa,MG,MH,IL,MI,RA,FZ,CN,F_⟩
 refine⟨PySem.W.fnOf "law" "law" (fZ qH) (dR qH) (aF qH) .none kV dc pm an cd ct,λs v=> .of_eq rfl,λbase _ _=>?_⟩
 have iT:=Cz (P:=l.prog) (w:=w) (base:=base) (mg:=mg) Ew
 have AK:=Ro (P:=l.prog) (w:=w) (base:=base) (mg:=mg) Ut Rp
 have pJ:=Rr Uu AK cE AL
 have mw:=CA (P:=l.prog) (w:=w) (base:=base) (mg:=mg) (e:=⟨0,0,0,0,0,0,0,0,0,0,0⟩) Ga
 have zM:=Fb MJ mw
 have jf:=abj mw
 have mV:=abk zM
 have vG:=HQ (P:=l.prog) (w:=w) (base:=base) (mg:=mg) MK cE
 have qo:=CB Ex iT
 have rD:=Fd (P:=l.prog) (w:=w) (base:=base) (mg:=mg) I_ TX
 have qj:=Ly (P:=l.prog) (w:=w) (base:=base) (mg:=mg) Ox TX fU
 have yk:=LJ Oj TX rD
 have ua:=Ff (P:=l.prog) (w:=w) (base:=base) (mg:=mg) Jb TX
 have jG:=Fp Ja TX iT
 have rJ:=Ef Gg TX jG
 have pA:=Bu (P:=l.prog) (w:=w) (base:=base) (mg:=mg) (e:=⟨0,0,0,0,0,0,0,0,0,0,0⟩) Ez TX
 have cY:=VT pA
 have iU:=CF (P:=l.prog) (w:=w) (base:=base) (mg:=mg) (e:=⟨0,0,0,0,0,0,0,0,0,0,0⟩) Ge TX
 have cS:=TH iU
 have uy:=AM (e:=⟨0,0,0,0,0,0,0,0,0,0,0⟩) CP TX pJ
 have jv:=abi uy
 have vY:=HW (P:=l.prog) (w:=w) (base:=base) (mg:=mg) MO TX
 have gZ:=HY (P:=l.prog) (w:=w) (base:=base) (mg:=mg) MP TX k_
 have fQ:=yg (P:=l.prog) (w:=w) (base:=base) (mg:=mg) zm TX jb
 have fR:=D_ (P:=l.prog) (w:=w) (base:=base) (mg:=mg) Gf TX jb
 have lJ:=LD (P:=l.prog) (w:=w) (base:=base) (mg:=mg) Ol TX
 have lP:=LF Om TX pJ cE
 have xN:=LG Oo TX jv cY fQ lJ qj cE
 have qt:=CH (P:=l.prog) (w:=w) (base:=base) (mg:=mg) EA TX k_ jb
 have jF:=Fo (P:=l.prog) (w:=w) (base:=base) (mg:=mg) IW TX
 have kF:=H_ MQ TX qo ua jb
 have j6:=LQ Oq TX vG mV cS gZ kF qt jF k_
 have ym:=Ft IU TX cS fR rJ jb
 have Jd:=Fw (e:=⟨0,0,0,0,0,0,0,0,0,0,0⟩) MR TX pA mw gZ kF cE
 have Gi:=Eg (e:=⟨0,0,0,0,0,0,0,0,0,0,0⟩) IZ TX iU zM jF
 have MU:=Ie (e:=⟨0,0,0,0,0,0,0,0,0,0,0⟩) Ot TX iU mw
 have MV:=Ig (e:=⟨0,0,0,0,0,0,0,0,0,0,0⟩) Ou TX iU pA fR fQ
 have MW:=Ih (e:=⟨0,0,0,0,0,0,0,0,0,0,0⟩) Ov TX iU cY fR ym jb
 have Je:=Fy (e:=⟨0,0,0,0,0,0,0,0,0,0,0⟩) MS TX iU uy lJ qj
 have vZ:=Ij MT TX jG cY
 have oH:=FD (P:=l.prog) (w:=w) (base:=base) (mg:=mg) I0 TX fU
 have jH:=FF (P:=l.prog) (w:=w) (base:=base) (mg:=mg) IV TX fU
 have xJ:=L3 Oz TX qj
 have uh:=FG Jc TX rD fU
 have xP:=L4 Ow TX yk xJ uh jH fU Eh
 have Gj:=Tq jH
 have aY:=L7 (P:=l.prog) (w:=w) (base:=base) (mg:=mg) Ob cE dj
 have sy:=L_ (P:=l.prog) (w:=w) (base:=base) (mg:=mg) Oc dj
 have qI:=Io ML aY sy dj
 have xO:=Mc (P:=l.prog) (w:=w) (base:=base) (mg:=mg) Od fU
 have lM:=Me Oe aY
 have lN:=Mf Of aY cE dj fU k_ xj
 have lO:=Mg (P:=l.prog) (w:=w) (base:=base) (mg:=mg) Og FH
 have o_:=Bw CO aY lM lN lO cE k_ xj
 have xM:=Mi Oh aY lM o_ cE
 have xo:=Rx (P:=l.prog) (w:=w) (base:=base) (mg:=mg) Uv cE dj
 have qC:=CK (P:=l.prog) (w:=w) (base:=base) (mg:=mg) Ey
 have ji:=Ek Gb xo qC cE dj
 have qJ:=Ip MM xM ji dj
 have ir:=En Gd lP xN j6 Jd Gi MU MV MW Je cE dj
 have uu:=FL IT yk lP ir
 have v5:=Iu MN lN lO ji cE dj
 have lQ:=Mr Oi vY ym vZ oH Gj gZ
 exact acg ad3 aY qI xO qJ uu xP v5 j6 lQ ir
theorem walk{l:PySem.W.OpenLaw}{q:Program}{loose:List Str}{XP:(Str->Option Value)->Heap->Prop}{YP:World->Heap->Prop}{d:DefRec}{K:Params->Fg}(hn:l.most=some 63)(hdf:d.params.defaults=[])(hY:∀(w:World) (h:Heap),YP w h->(K w.params).In h)(F:∀(w:World) (mg:SO) (fa:Addr) (h:Heap),(K w.params).In h->h.Ns mainGlobals mg->mg d.name=some (.ref fa)->
    ∃fd:FuncData,(∀(s:Shared) (u:Value),BindsTo s fd ⟨[u],[]⟩ [("_law_script",u)])/\∀base:Heap,(K w.params).In base->base.Ns mainGlobals mg->j_ l.prog w (K w.params) mg base uW 8 fa fd ["_law_script"] (Jv (K w.params))):
  PySem.W.WalkO q loose XP YP l.row.toRowW d [] (λf vs=>PySem.call f vs):=
 L2.XZ (n:=63) (k:=8) (x:="_law_script") (CX:=λ_=>uW) (sp:=λw=>Jv (K w.params)) hn (by decide) hdf ⟨Z,by decide,by decide⟩ hY F (λ_ _ a ns hl _ hS=>⟨a,ns,Z,hS,hl,λ_=>rfl⟩) λ_ _ _ _ _ z=>z
end Law
namespace PySem.W.Fast
abbrev A:=True
theorem a:A:=⟨⟩
theorem tw5527914472657999570:A:=a
theorem tw10961510846740910691:A:=a
theorem tw5427643613849331318:A:=a
theorem tw12846566922287155556:A:=a
theorem tw11572462570536958238:A:=a
theorem tw1824616310613496592:A:=a
theorem tw5648704739810816761:A:=a
theorem tw1949679930006039909:A:=a
theorem tw13491572738857846129:A:=a
theorem tw17161169224505570844:A:=a
theorem tw9389249187967195752:A:=a
theorem tw12567650603538639160:A:=a
theorem tw3706371584867935969:A:=a
theorem tw9340998768632836118:A:=a
theorem tw2376163347175119880:A:=a
theorem tw4442905475203897701:A:=a
theorem tw13074486576358267606:A:=a
theorem tw5799331900564313401:A:=a
theorem tw1514234022987826427:A:=a
theorem tw2759057227287649689:A:=a
theorem tw16885055699765783212:A:=a
theorem tw15627650216830729543:A:=a
theorem tw18444032371190694990:A:=a
theorem tw876682653712636920:A:=a
theorem tw1085285563634871265:A:=a
theorem tw9278637185786242802:A:=a
theorem tw5352503043465217691:A:=a
theorem tw4776345505218609619:A:=a
theorem tw2546479842307384996:A:=a
theorem tw14926539866787742515:A:=a
theorem tw15855503743158221361:A:=a
theorem tw14166553092041990407:A:=a
theorem tw18412489934644758323:A:=a
theorem tw15462991807773329718:A:=a
theorem tw14362274827309672350:A:=a
theorem tw8583586684978957132:A:=a
theorem tw14314642343762345593:A:=a
theorem tw15328850250839531598:A:=a
theorem tw5613422587048713110:A:=a
theorem tw10639467122252097472:A:=a
theorem tw2048381437941374645:A:=a
theorem tw16803379135849484777:A:=a
theorem tw4565318184433894244:A:=a
theorem tw17147685180076632703:A:=a
theorem tw6466383168643935530:A:=a
theorem tw10653279446018947280:A:=a
theorem tw528904597379679877:A:=a
theorem tw7495989969552383065:A:=a
theorem tw7789983666303463406:A:=a
theorem tw524873771827115821:A:=a
theorem tw4622534557446603058:A:=a
theorem tw4824407533724749016:A:=a
theorem tw3193574032370836591:A:=a
theorem tw8773897057059794543:A:=a
theorem tw15283473572762648724:A:=a
theorem tw7831812915393175866:A:=a
theorem tw13413892930652539678:A:=a
theorem tw1333395017582850659:A:=a
theorem tw15870014468436489277:A:=a
theorem tw15614264085894629221:A:=a
theorem tw3264963733914387977:A:=a
theorem tw7689588182162522062:A:=a
theorem tw6259143637210281638:A:=a
theorem tw7591469326059678634:A:=a
theorem tw7813539762634391641:A:=a
theorem tw18368235701967150796:A:=a
theorem tw8165508574733052302:A:=a
theorem tw3002610111297351914:A:=a
theorem tw6464055737767538812:A:=a
theorem tw1574456858427410093:A:=a
theorem tw10259459545061218711:A:=a
theorem tw13803624903711318468:A:=a
theorem tw12201977389437121009:A:=a
theorem tw12776956618128100828:A:=a
theorem tw16457796021379352499:A:=a
theorem tw14763607376605696637:A:=a
theorem tw13140953043872619519:A:=a
theorem tw4637024941732094934:A:=a
theorem tw12984179766160772211:A:=a
theorem tw4820028690841259228:A:=a
theorem tw1725836233449625557:A:=a
theorem tw15000862145438998495:A:=a
theorem tw4409880016448099677:A:=a
theorem tw8921327264826226884:A:=a
theorem tw3912646756133995264:A:=a
theorem tw10289131344196789277:A:=a
theorem tw14584203646372386109:A:=a
theorem tw14144023401724408150:A:=a
theorem tw18438104019182077528:A:=a
theorem tw14720972188050397673:A:=a
theorem tw4015440467706900084:A:=a
theorem tw16737403099129898582:A:=a
theorem tw2084736882487160993:A:=a
theorem tw6575939783520214838:A:=a
theorem tw17568475827958111985:A:=a
theorem tw2512184187947999881:A:=a
theorem tw15922859771314672302:A:=a
theorem tw13866498729772712156:A:=a
theorem tw7942156321188277301:A:=a
theorem tw8264293030837720666:A:=a
theorem tw5789692886782027312:A:=a
theorem tw9602548950328023286:A:=a
theorem tw13075298869861324737:A:=a
theorem tw14233748165980892169:A:=a
theorem tw681965334885629473:A:=a
theorem tw11667362968852876232:A:=a
theorem tw5449858820562836302:A:=a
theorem tw4694192971953736655:A:=a
theorem tw1205114737438700353:A:=a
theorem tw3294187109779492130:A:=a
theorem tw15526613583500382230:A:=a
theorem tw18305310328887309990:A:=a
theorem tw2130739180831656208:A:=a
theorem tw13036299544234214981:A:=a
theorem tw13431491539109490609:A:=a
theorem tw8576673380482736881:A:=a
theorem tw16506023975307507251:A:=a
theorem tw5326267239561068562:A:=a
theorem tw2587436778747189650:A:=a
theorem tw12286475178807038118:A:=a
theorem tw10108996856815978565:A:=a
theorem tw17596376151716780454:A:=a
theorem tw2734769938090463031:A:=a
theorem tw8354746856884605699:A:=a
theorem tw11356649656747187099:A:=a
theorem tw9819939000135653347:A:=a
theorem tw16486473277283075344:A:=a
theorem tw452370408327923698:A:=a
theorem tw14291809649829351244:A:=a
theorem tw17109122074529776336:A:=a
theorem tw16815029061342884041:A:=a
theorem tw78523499200474179:A:=a
theorem tw17835357000407424292:A:=a
theorem tw2908364832176047825:A:=a
theorem tw5923165985772058556:A:=a
theorem tw5316762120937089823:A:=a
theorem tw10312711666459329328:A:=a
theorem tw7683879396839000291:A:=a
theorem tw359882246381925052:A:=a
theorem tw1967422424972724256:A:=a
theorem tw6605732767154513733:A:=a
theorem tw16614115015716048447:A:=a
theorem tw8114464079564117541:A:=a
theorem tw7650618008803048518:A:=a
theorem tw13429850770796399113:A:=a
theorem tw1190312113359395187:A:=a
theorem tw13094044664812658863:A:=a
theorem tw11936503959868298067:A:=a
theorem tw6674984349960943224:A:=a
theorem tw14763788327573596783:A:=a
theorem tw9536075817343982:A:=a
theorem tw2457201929212066625:A:=a
theorem tw9335583325865886275:A:=a
theorem tw14000757827269005447:A:=a
theorem tw15030010731530296289:A:=a
theorem tw13450148167430098543:A:=a
theorem tw1175567331030825169:A:=a
theorem tw1095949365891926193:A:=a
theorem tw2314413198292083065:A:=a
theorem tw3088152474971064509:A:=a
theorem tw5736025953165711965:A:=a
theorem tw10957492507256581490:A:=a
theorem tw3037612695161906426:A:=a
theorem tw7878348139888225191:A:=a
theorem tw3225513849347789005:A:=a
theorem tw15519387706045941973:A:=a
theorem tw2745043449843155754:A:=a
theorem tw9923569157837926549:A:=a
theorem tw4130300785476033358:A:=a
theorem tw7944467937646978195:A:=a
theorem tw2386334991699458121:A:=a
theorem tw13828073369870020870:A:=a
theorem tw15855669866822553968:A:=a
theorem tw10825471836312919438:A:=a
theorem tw1898108836769579645:A:=a
theorem tw2073959347367850366:A:=a
theorem tw10981069625552378902:A:=a
theorem tw4260944904771421398:A:=a
theorem tw327245859500633167:A:=a
theorem tw7991632893906175554:A:=a
theorem tw6338535790152328215:A:=a
theorem tw18440902219970239987:A:=a
theorem tw18409345592331184006:A:=a
theorem tw11703448139247545652:A:=a
theorem tw16287561093606074064:A:=a
theorem tw16344710854584097066:A:=a
theorem tw13015517294459278199:A:=a
theorem tw14234016160854473516:A:=a
theorem tw2084882641622159391:A:=a
theorem tw11258723936131600744:A:=a
theorem tw11488881880939852338:A:=a
theorem tw11766762556709987008:A:=a
theorem tw13378904108152789332:A:=a
theorem tw9537341911490650415:A:=a
theorem tw9234377288898346066:A:=a
theorem tw10558971241502782583:A:=a
theorem tw539154303360723774:A:=a
theorem tw1926642445452677728:A:=a
theorem tw9756983473556267747:A:=a
theorem tw15264653032866223953:A:=a
theorem tw174752993640706856:A:=a
theorem tw18212484593409275774:A:=a
theorem tw5661309290711838194:A:=a
theorem tw5488611489692224647:A:=a
theorem tw8398868326974915997:A:=a
theorem tw14852433259644064056:A:=a
theorem tw9107724995366480068:A:=a
theorem tw9206487180606690497:A:=a
theorem tw18109502985437381773:A:=a
theorem tw5556776984519656374:A:=a
theorem tw6366433954957172529:A:=a
theorem tw6279120478708236305:A:=a
theorem tw12693021592330379738:A:=a
theorem tw10650585644338437683:A:=a
theorem tw15364209412361045462:A:=a
theorem tw11221838804699340807:A:=a
theorem tw14439440501364400229:A:=a
theorem tw5442909719230961951:A:=a
theorem tw15004409182918910831:A:=a
theorem tw18093045721868426232:A:=a
theorem tw9153194469972821352:A:=a
theorem tw13067576324808352705:A:=a
theorem tw15972540158154190472:A:=a
theorem tw10195925999750292255:A:=a
theorem tw12565213280576564254:A:=a
theorem tw16713076287086859202:A:=a
theorem tw4246986150140599326:A:=a
theorem tw7985468971902648084:A:=a
theorem tw15717457114701790494:A:=a
theorem tw11190128699375655559:A:=a
theorem tw17454188930308073817:A:=a
theorem tw16106059491418623053:A:=a
theorem tw1373408835243976421:A:=a
theorem tw15725766834277382665:A:=a
theorem tw8669041792996419365:A:=a
theorem tw13316882101854651474:A:=a
theorem tw1743284952095912298:A:=a
theorem tw16857429547135558007:A:=a
theorem tw17968738048959853995:A:=a
theorem tw3759881710270033582:A:=a
theorem tw5780117682847097938:A:=a
theorem tw13249613594983822651:A:=a
theorem tw16628499008801746012:A:=a
theorem tw1299701813675448705:A:=a
theorem tw15279425175396112849:A:=a
theorem tw7523620394116074552:A:=a
theorem tw14928470193167273083:A:=a
theorem tw6245622705641030902:A:=a
theorem tw15828940968552409861:A:=a
theorem tw2480561103376235306:A:=a
theorem tw10750284900912817203:A:=a
theorem tw8855460997410849494:A:=a
theorem tw7762352846082320603:A:=a
theorem tw3628852825535337125:A:=a
theorem tw2418271875362394352:A:=a
theorem tw7061902119986851243:A:=a
theorem tw16780009003623200747:A:=a
theorem tw3611971471726853775:A:=a
theorem tw9327966407196285772:A:=a
theorem tw15221407910049076951:A:=a
theorem tw1212585601367798262:A:=a
theorem tw12185073400021423078:A:=a
theorem tw3395455585109192851:A:=a
theorem tw10088136963232407931:A:=a
theorem tw11114271906394530363:A:=a
theorem tw4736287501059861690:A:=a
theorem tw4835839433059771406:A:=a
theorem tw6619491363019996579:A:=a
theorem tw5668644042506525094:A:=a
theorem tw3637000350628067013:A:=a
theorem tw15610332446333379914:A:=a
theorem tw9534348335483431898:A:=a
theorem tw4618105650481694455:A:=a
theorem tw5733434970228288957:A:=a
theorem tw10564543273583622974:A:=a
theorem tw6291085345534654485:A:=a
theorem tw1245322440351483672:A:=a
theorem tw8056500086639636075:A:=a
theorem tw451527053676521792:A:=a
theorem tw2840908549905814728:A:=a
theorem tw17694338391389820051:A:=a
theorem tw12159429440690717353:A:=a
theorem tw412821395878258570:A:=a
theorem tw9656693894227038281:A:=a
theorem tw5956865884115029420:A:=a
theorem tw12410911639049083971:A:=a
theorem tw18034397608194209741:A:=a
theorem tw12474707353869595119:A:=a
theorem tw8459306941834037178:A:=a
theorem tw17568459701184886223:A:=a
theorem tw5567435649845856465:A:=a
theorem tw15463731599503084753:A:=a
theorem tw2924085502149207336:A:=a
theorem tw12901473077206512271:A:=a
theorem tw17657005553722812666:A:=a
theorem tw14231116031379367994:A:=a
theorem tw9404623881469648738:A:=a
theorem tw14344553900385281335:A:=a
theorem tw13481073327363334791:A:=a
theorem tw4480017385270856254:A:=a
theorem tw17532481346742677041:A:=a
theorem tw11817054791541340835:A:=a
theorem tw9973800011114049210:A:=a
theorem tw10882313072187101062:A:=a
theorem tw18299823956066239011:A:=a
theorem tw4421010335173252920:A:=a
theorem tw2834503379072613143:A:=a
theorem tw7547835030710424153:A:=a
theorem tw9326575389482489472:A:=a
theorem tw11452677346756017116:A:=a
theorem tw3984655906191338471:A:=a
theorem tw6078227211602420603:A:=a
theorem tw847571061255111607:A:=a
theorem tw12760783645789207674:A:=a
theorem tw3989950944558293710:A:=a
theorem tw11106080440441180831:A:=a
theorem tw101116182801071504:A:=a
theorem tw15448346893968554773:A:=a
theorem tw3794634054847218962:A:=a
theorem tw6340821013292621190:A:=a
theorem tw12396119304793004788:A:=a
theorem tw12871457712962410857:A:=a
theorem tw2881627263298858815:A:=a
theorem tw8964032359590798422:A:=a
theorem tw17925678546724819937:A:=a
theorem tw3013462017746427440:A:=a
theorem tw2380020310485318367:A:=a
theorem tw7625025832469107100:A:=a
theorem tw4910444742252529577:A:=a
theorem tw487191629452962817:A:=a
theorem tw15917382414767010158:A:=a
theorem tw12612876166886161749:A:=a
theorem tw7410229076686506410:A:=a
theorem tw9887399121671183822:A:=a
theorem tw18234951759453295097:A:=a
theorem tw14249092003962892686:A:=a
theorem tw4009926485590428138:A:=a
theorem tw6924068355894796787:A:=a
theorem tw5229681793802635249:A:=a
theorem tw3847070063088345784:A:=a
theorem tw5483131382389392259:A:=a
theorem tw13126071840255265568:A:=a
theorem tw452710317923121766:A:=a
theorem tw6144432278188827042:A:=a
theorem tw13233946253666613159:A:=a
theorem tw11552124524725451678:A:=a
theorem tw10062286967590685661:A:=a
theorem tw16738173184591233188:A:=a
theorem tw12602901726695008078:A:=a
theorem tw13598994913341501230:A:=a
theorem tw1800696940379776113:A:=a
theorem tw16873688541767077050:A:=a
theorem tw4552219763561558614:A:=a
theorem tw11150681440660679619:A:=a
theorem tw15741067623296098812:A:=a
theorem tw2528944877303105052:A:=a
theorem tw5357430668552353412:A:=a
theorem tw10918804044439004840:A:=a
theorem tw7846166140505204142:A:=a
theorem tw12048385035815027271:A:=a
theorem tw14003545624678675732:A:=a
theorem tw13170222684311095836:A:=a
theorem tw15782347849887374046:A:=a
theorem tw2427989460336219828:A:=a
theorem tw8065927590001026391:A:=a
theorem tw15853946997606528277:A:=a
theorem tw8135964721597656789:A:=a
theorem tw16996259302648731308:A:=a
theorem tw3051407192897611971:A:=a
theorem tw383748886734307634:A:=a
theorem tw10711298135555342145:A:=a
theorem tw15066444936179492735:A:=a
theorem tw11430860479051600901:A:=a
theorem tw7205974889124703908:A:=a
theorem tw13527700772112096878:A:=a
theorem tw145128370511761739:A:=a
theorem tw4672855684258922492:A:=a
theorem tw10492249406381218089:A:=a
theorem tw10231918443675893958:A:=a
theorem tw15513534758825865009:A:=a
theorem tw11615080988136671561:A:=a
theorem tw7128345931779243851:A:=a
theorem tw8502366143346595406:A:=a
theorem tw15118479896326185604:A:=a
theorem tw2866966647657795256:A:=a
theorem tw17083254263337435942:A:=a
theorem tw230364868227153963:A:=a
theorem tw8696056275699556095:A:=a
theorem tw12207366396783050273:A:=a
theorem tw4660457197053612612:A:=a
theorem tw9332917106922278656:A:=a
theorem tw12718912497527500747:A:=a
theorem tw6420885594723242432:A:=a
theorem tw15020388593619756633:A:=a
theorem tw10034593608761854901:A:=a
theorem tw1479623813945889063:A:=a
theorem tw8951589907683818545:A:=a
theorem tw2432992172208661541:A:=a
theorem tw10661115615378984559:A:=a
theorem tw12908258058796524032:A:=a
theorem tw5164882619898672237:A:=a
theorem tw2517426439992001812:A:=a
theorem tw8438212534219816668:A:=a
theorem tw16488329497041322096:A:=a
theorem tw1682401673768815916:A:=a
theorem tw1585440789902818105:A:=a
theorem tw6757970729953802839:A:=a
theorem tw1116249511069420108:A:=a
theorem tw3048548740464745680:A:=a
theorem tw15224787412015966614:A:=a
theorem tw9455407293965297542:A:=a
theorem tw6258284145975657999:A:=a
theorem tw832985410138037472:A:=a
theorem tw5122571407783792819:A:=a
theorem tw4821744099276544620:A:=a
theorem tw9757780092004208974:A:=a
theorem tw15653708247138232123:A:=a
theorem tw8353912799695907627:A:=a
theorem tw13288916574961739622:A:=a
theorem tw16536931947970161552:A:=a
theorem tw17705108816138206453:A:=a
theorem tw6682184090739280995:A:=a
theorem tw7621909918465852754:A:=a
theorem tw6755908313668687245:A:=a
theorem tw14613607878857274729:A:=a
theorem tw14309801829335937719:A:=a
theorem tw12581140031449241027:A:=a
theorem tw7616770255870048047:A:=a
theorem tw2554669746734090154:A:=a
theorem tw1792465747695423530:A:=a
theorem tw4542437705998881980:A:=a
theorem tw12101594779433448847:A:=a
theorem tw7084905556657949107:A:=a
theorem tw9095037181141345217:A:=a
theorem tw2939085138815067149:A:=a
theorem tw5994136059806631403:A:=a
theorem tw3353647203954799996:A:=a
theorem tw13102929651911086446:A:=a
theorem tw1959982711759172576:A:=a
theorem tw6971044475334334547:A:=a
theorem tw2509520340242086192:A:=a
theorem tw14194125383883855905:A:=a
theorem tw9651049316825082618:A:=a
theorem tw18155456662732844864:A:=a
theorem tw14726121493812347443:A:=a
theorem tw11694327151338459027:A:=a
theorem tw17963400105049559589:A:=a
theorem tw17211288605240811034:A:=a
theorem tw15132926751544322222:A:=a
theorem tw17558944606072457219:A:=a
theorem tw18221965644116550463:A:=a
theorem tw7128111598450293371:A:=a
theorem tw8151474417579799682:A:=a
theorem tw6584099372691257570:A:=a
theorem tw16825902496163212399:A:=a
theorem tw12204231551616358363:A:=a
theorem tw7781614624448511804:A:=a
theorem tw1928212462196523697:A:=a
theorem tw5316058047643894838:A:=a
theorem tw13360848598397432812:A:=a
theorem tw17030063393928366546:A:=a
theorem tw17633547521253594570:A:=a
theorem tw2534388003422877352:A:=a
theorem tw111539070001254239:A:=a
theorem tw5645472305864685545:A:=a
theorem tw7700537879436904792:A:=a
theorem tw6384799445022650965:A:=a
theorem tw15654118137210237870:A:=a
theorem tw4002255077559733:A:=a
theorem tw16889304658565482318:A:=a
theorem tw10663493145005720376:A:=a
theorem tw1766002840396813671:A:=a
theorem tw369392939915831:A:=a
theorem tw4655587068981287368:A:=a
theorem tw17379799477426987898:A:=a
theorem tw8110319249965283648:A:=a
theorem tw11671493176687462275:A:=a
theorem tw11094029220254877289:A:=a
theorem tw14077998571183965714:A:=a
theorem tw8827703613688150268:A:=a
theorem tw8931930569349658845:A:=a
theorem tw14534109213451103632:A:=a
theorem tw14632614236534942414:A:=a
theorem tw16878808854086790441:A:=a
theorem tw14052523974704613523:A:=a
theorem tw11791333444977975048:A:=a
theorem tw10670580788122374182:A:=a
theorem tw1963658266176767686:A:=a
theorem tw10638420874942244293:A:=a
theorem tw15027324076039946431:A:=a
theorem tw8030985160914603298:A:=a
theorem tw14461426691613372979:A:=a
theorem tw2795049095289147637:A:=a
theorem tw10257232567776193092:A:=a
theorem tw6740077306456589508:A:=a
theorem tw15624182934175699678:A:=a
theorem tw6924063201546997291:A:=a
theorem tw12458615007862527941:A:=a
theorem tw18226571477754813239:A:=a
theorem tw3759628277212489718:A:=a
theorem tw1471125302063320473:A:=a
theorem tw13444378323742144925:A:=a
theorem tw9016353244381322793:A:=a
theorem tw1960810334187642984:A:=a
theorem tw5736498075480794045:A:=a
theorem tw10420681447560774034:A:=a
theorem tw14257079291700978756:A:=a
theorem tw564339153799528009:A:=a
theorem tw18054896501757943025:A:=a
theorem tw3076814059416583677:A:=a
theorem tw15241602399933746988:A:=a
theorem tw1269896899707708643:A:=a
theorem tw7540930839596719598:A:=a
theorem tw1042522439854412999:A:=a
theorem tw12585597668054674746:A:=a
theorem tw1719721735377866402:A:=a
theorem tw3750742697307429724:A:=a
theorem tw4011444439613509241:A:=a
theorem tw7029043691638960539:A:=a
theorem tw17531439844500393085:A:=a
theorem tw4963840816338519233:A:=a
theorem tw17923717103789664692:A:=a
theorem tw7400733306001225568:A:=a
theorem tw5330207969880229719:A:=a
theorem tw12161810162271709399:A:=a
theorem tw1279881006224705091:A:=a
theorem tw6796822294551563830:A:=a
theorem tw7652383882652179743:A:=a
theorem tw13634246686442353867:A:=a
theorem tw16563710040812006883:A:=a
theorem tw16791373563339652309:A:=a
theorem tw8990042332774315479:A:=a
theorem tw6504400824038998032:A:=a
theorem tw3825589004210228048:A:=a
theorem tw5631921533674051191:A:=a
theorem tw14639140583985854525:A:=a
theorem tw9121821413776023271:A:=a
theorem tw6241930888443697726:A:=a
theorem tw17434796084542035763:A:=a
theorem tw14560889548209798234:A:=a
theorem tw14330319785163770607:A:=a
theorem tw9441578379270035922:A:=a
theorem tw1291847926378088697:A:=a
theorem tw10779919268840333857:A:=a
theorem tw9524630690614186670:A:=a
theorem tw8444195680453549089:A:=a
theorem tw18298392712375688349:A:=a
theorem tw7142205390257909318:A:=a
theorem tw11456312359557581197:A:=a
theorem tw17317259620535610819:A:=a
theorem tw10380690155213507064:A:=a
theorem tw4445091407627902865:A:=a
theorem tw13344654077119549274:A:=a
theorem tw12785430020212846618:A:=a
theorem tw14964922045692602952:A:=a
theorem tw17581493690605340197:A:=a
theorem tw8382740080672821211:A:=a
theorem tw10107262458810737895:A:=a
theorem tw5243256190203097967:A:=a
theorem tw13908021635894739522:A:=a
theorem tw8329120549671024527:A:=a
theorem tw6524927479520996823:A:=a
theorem tw8116985346224379276:A:=a
theorem tw17276289528608333637:A:=a
theorem tw9524579576627671951:A:=a
theorem tw17529411685062772946:A:=a
theorem tw5206836226669335213:A:=a
theorem tw2819521105501240403:A:=a
theorem tw14253135593568360046:A:=a
theorem tw15818622183311222127:A:=a
theorem tw8207436954833216731:A:=a
theorem tw7288815572356398140:A:=a
theorem tw11839614948696216797:A:=a
theorem tw7395848096615309659:A:=a
theorem tw2863194429017980324:A:=a
theorem tw15669574526551199081:A:=a
theorem tw3238197419166652030:A:=a
theorem tw17102419897568660968:A:=a
theorem tw16452071549207814604:A:=a
theorem tw3525066476705685603:A:=a
theorem tw17962424608370573604:A:=a
theorem tw8327399301825484675:A:=a
theorem tw1006793903340989459:A:=a
theorem tw1802781600652680139:A:=a
theorem tw1636410022885628590:A:=a
theorem tw273336306900419720:A:=a
theorem tw526571557105435308:A:=a
theorem tw5632324530461310848:A:=a
theorem tw1354940335537268725:A:=a
theorem tw11283289943528669941:A:=a
theorem tw1365973549464157572:A:=a
theorem tw16194907705531805110:A:=a
theorem tw10106764223299599426:A:=a
theorem tw15445988825848912981:A:=a
theorem tw7765044425711747633:A:=a
theorem tw16469258024361688528:A:=a
theorem tw4076751850323603260:A:=a
theorem tw17033704999721508154:A:=a
theorem tw18022384257498270333:A:=a
theorem tw8509719132491279337:A:=a
theorem tw4022447890612476075:A:=a
theorem tw17841030115969164789:A:=a
theorem tw11355776807776715014:A:=a
theorem tw15364072937330926114:A:=a
theorem tw5953499961273483239:A:=a
theorem tw3557232661994513401:A:=a
theorem tw16517675220603440848:A:=a
theorem tw5676305519202742248:A:=a
theorem tw3794071415566483172:A:=a
theorem tw4963274399546638657:A:=a
theorem tw3734515324312208185:A:=a
theorem tw1851969037121847551:A:=a
theorem tw15061487770023712683:A:=a
theorem tw13155597412325129650:A:=a
theorem tw13547104809619541506:A:=a
theorem tw3351393440948729908:A:=a
theorem tw4895061571022970355:A:=a
theorem tw16472720791345562330:A:=a
theorem tw9363738947109816847:A:=a
theorem tw7460787307167771892:A:=a
theorem tw2354936261752695054:A:=a
theorem tw4792526911073978253:A:=a
theorem tw12163928114697358610:A:=a
theorem tw18419878273878492164:A:=a
theorem tw17466551428659813127:A:=a
theorem tw7860083657425269539:A:=a
theorem tw11817723355245363830:A:=a
theorem tw16800661771956452816:A:=a
theorem tw575186126115141547:A:=a
theorem tw11982181234911908068:A:=a
theorem tw17212422480893418022:A:=a
theorem tw17971512113055397163:A:=a
theorem tw10310170552772201552:A:=a
theorem tw14372515598268374208:A:=a
theorem tw76357454224220438:A:=a
theorem tw3228302917942643103:A:=a
theorem tw12929742083976223489:A:=a
theorem tw13594125488381753948:A:=a
theorem tw8004237361818158592:A:=a
theorem tw6488867924262775334:A:=a
theorem tw9933410914938789638:A:=a
theorem tw2260284276347345760:A:=a
theorem tw18296632131416874186:A:=a
theorem tw3391853751316583450:A:=a
theorem tw11888109496753127616:A:=a
theorem tw1882376974018544468:A:=a
theorem tw3820777080045195997:A:=a
theorem tw17587437904374180815:A:=a
theorem tw12300590646640109525:A:=a
end PySem.W.Fast
open PySem PySem.W PyProof.Rows
set_option maxRecDepth 100000 in
set_option maxHeartbeats 0 in
theorem PySem.Challenge.cw_jettison_k35_whole_casts_in_any_order_holds : PySem.Challenge.rw_jettison_k35_whole_casts_in_any_order.Holds := by
 w_on;o_law;k_head;(case hw=>w_witness2)
 k_fill
 refine Law.walk (l:=PySem.Challenge.rw_jettison_k35_whole_casts_in_any_order) rfl rfl (fun w h Y=>PySem.W.kIn_of Y) ?F
 case F=>
  intro w mg fa h KX G hmg
  refine' Law.all_mk KX G hmg ?_ ?_ ?_ ?_ ?_ ?_ ?_ ?_ ?_ ?_ ?_ ?_ ?_ ?_ ?_ ?_ ?_ ?_ ?_ ?_ ?_ ?_ ?_ ?_ ?_ ?_ ?_ ?_ ?_ ?_ ?_ ?_ ?_ ?_ ?_ ?_ ?_ ?_ ?_ ?_ ?_ ?_ ?_ ?_ ?_ ?_ ?_ ?_ ?_ ?_ ?_ ?_ ?_ ?_ ?_ ?_ ?_ ?_ ?_ ?_ ?_ ?_ ?_ ?_ ?_ ?_ ?_ ?_ ?_ ?_ ?_ ?_ ?_ ?_ ?_ ?_ ?_ ?_ ?_ ?_ ?_ ?_ ?_ ?_ ?_ ?_ ?_ ?_ ?_ ?_ ?_ ?_ ?_ ?_ ?_ ?_ ?_ ?_ ?_ ?_ ?_ ?_ ?_ ?_ ?_ ?_ ?_ ?_ ?_ ?_ ?_ ?_ ?_
  any_goals first|(refine' L2.fC.of ?a ?l ?c ?k;(case a=>k_is);(case l=>k_is);(case c=>k_is);(case k=>k_is))|(refine' L2.dh.of ?a ?i ?l ?c ?k;(case a=>k_is);(case i=>k_is);(case l=>k_is);(case c=>k_is);(case k=>k_is))|k_is
