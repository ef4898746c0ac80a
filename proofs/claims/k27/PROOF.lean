import PyProof.Rows.All
import Wide.All
import OpenK.AllK
import Wide.FinOn
import Lean
import PyProof.EqAt
import PyProof.EqKinds
import PyProof.TupleCall
import PySem.Challenge.RW_jettison_k27_stakes_told
set_option Elab.async false
set_option bootstrap.genMatcherCode false
set_option genSizeOf false
set_option genSizeOfSpec false
set_option linter.all false
set_option maxRecDepth 100000
local macro_rules|`(tactic|omega)=>`(tactic|lia)
abbrev Fg:=PySem.W.Frag
abbrev VS:=PySem.Value->PySem.Shared->Prop
abbrev AO:=List (PySem.Addr×PySem.Obj)
abbrev SO:=PySem.Str->Option PySem.Value
set_option autoImplicit true
def We:=@PySem.F.slot_dict_valueiterator_next
def OG:=@Int.mul_le_mul_of_nonneg_right
def GQ:=@Int.mul_le_mul_of_nonneg_left
def Wg:=@PySem.wpAny_typeNameOfWhole_keyiter
def Wh:=@PySem.wpAny_typeNameOfWhole_valiter
def Wi:=@PySem.F.slot_dict_keyiterator_next
def RC:=@PyProof.Rows.callWith_type1
def lR:=@List.idxOf_lt_length_of_mem
def Wj:=@Int.ediv_eq_of_eq_mul_right
def De:=@List.getElem?_append_right
def dG:=@List.getD_eq_getElem?_getD
def PZ:=@PySem.F.slot_tuple_iterator_next
def P_:=@List.length_eraseIdx_of_lt
def dj:=@List.getElem?_eq_some_iff
def E8:=@List.getElem?_append_left
def JR:=@List.mem_or_eq_of_mem_set
def Qa:=@List.drop_eq_getElem_cons
def a_:=@List.getElem?_eq_getElem
def Qc:=@PySem.wpAny_typeNameOf_keyiter
def Qd:=@PySem.wpAny_typeNameOf_valiter
def JS:=@List.eq_of_mem_replicate
def E9:=@Int.mul_ediv_cancel_left
def JT:=@List.idxOf_lt_length_iff
def oR:=@PySem.F.slot_list_append
def oS:=@PySem.F.type_list_append
def Qe:=@List.getElem?_replicate
def zZ:=@PySem.wpAny_callSpecial?_slot
def Qf:=@List.filter_cons_of_pos
def oU:=@PySem.F.plainAttrs_list
def h_:=@List.getElem?_set_self
def cV:=@PySem.Heap.get?_push_of_some
def mj:=@Option.map_eq_some_iff
def JU:=@List.take_of_length_le
def tY:=@List.zipWith_cons_cons
def Qg:=@PySem.Calls.callWith_builtin
def JV:=@PyProof.Rows.boot_list
def jW:=@List.mem_append_right
def iW:=@List.length_replicate
def Qh:=@PySem.Heap.get?_update_self
def E_:=@List.length_filter_le
def rA:=@List.getElem?_eq_none
def Qi:=@PySem.wpAny_isOneOf_valiter
def Qj:=@List.getElem?_zipWith
def Qk:=@Int.le_ediv_of_mul_le
def tZ:=@PyProof.Rows.boot_sum
def JW:=@PyProof.Rows.boot_min
def cR:=@List.mem_cons_of_mem
def Ck:=@List.mem_append_left
def xJ:=@List.getElem?_set_ne
def aY:=@List.mem_of_getElem?
def nH:=@Bool.and_eq_true_iff
def Ql:=@PySem.intBits_le_iff
def Fb:=@beq_eq_false_iff_ne
def Cm:=@List.filterMap_cons
def fC:=@PySem.Heap.get?_push_size
def yz:=@PySem.mem_of_lookup
def yC:=@List.replicate_succ
def JX:=@Bool.or_eq_true_iff
def Fc:=@PySem.Heap.SameBut.update
def jX:=@List.length_zipWith
def z6:=@List.filter_eq_self
def p5:=@List.map_congr_left
def oV:=@List.getElem_of_mem
def JY:=@List.filter_sublist
def lN:=@Nat.lt_of_lt_of_le
def cQ:=@List.mem_cons_self
def gC:=@Bool.false_ne_true
def JZ:=@PySem.wpAny_Call_Name_kw
def c7:=@List.length_append
def Qm:=@PySem.tupleKind_room_in1
def Fd:=@Nat.lt_of_le_of_lt
def dS:=@List.mem_singleton
def yD:=@Int.emod_lt_of_pos
def J0:=@Bool.false_eq_true
def Fe:=@PySem.Obj.data_mapFields
def Ff:=@PySem.wpAny_setField_rec
def J1:=@List.set_cons_succ
def J3:=@List.set_cons_zero
def Qn:=@PySem.F.slot_dict_values
def Qo:=@List.filter_append
def p6:=@of_decide_eq_false
def rB:=@PySem.W.mg_none_of
def Qp:=@PySem.wpAny_pyIter_list
def bQ:=@List.getElem?_map
def iX:=@List.size_toArray
def Qq:=@List.flatten_cons
def J4:=@List.append_assoc
def dW:=@of_decide_eq_true
def Qs:=@Nat.lt_succ_of_lt
def yE:=@PySem.wpAny_newObj_type
def Co:=@PySem.wpAny_truthy_bool
def Qt:=@List.getElem?_set
def Fi:=@List.length_range
def Qu:=@PySem.wpAny_dictEntries
def t7:=@Int.toNat_natCast
def Fj:=@List.foldl_append
def Fl:=@List.getElem?_inj
def oW:=@Bool.eq_false_iff
def iY:=@List.length_cons
def t8:=@List.length_take
def Jy:=@List.cons_append
def fL:=@List.filter_cons
def Jz:=@beq_self_eq_true
def JA:=@Int.ediv_le_self
def sy:=@Nat.le_add_right
def lS:=@List.lookup_cons
def sH:=@List.all_eq_true
def yF:=@List.getElem_mem
def wN:=@PySem.wpAny_call_entry
def JB:=@List.drop_length
def cM:=@List.take_length
def dB:=@decide_eq_false
def gH:=@Option.some.inj
def iz:=@List.mem_filter
def dI:=@List.mem_append
def Bc:=@Bool.eq_iff_iff
def aE:=@List.length_map
def p7:=@PySem.W.kia_one
def sJ:=@List.append_nil
def gP:=@List.nodup_cons
def eX:=@List.length_set
def j8:=@List.foldl_cons
def JC:=@List.nil_append
def p8:=@List.find?_cons
def JD:=@Option.map_some
def bL:=@List.map_append
def oj:=@Int.emod_nonneg
def JE:=@Int.ediv_nonneg
def JF:=@List.forIn_cons
def JG:=@PySem.pushCells_keeps
def JH:=@PySem.wpAny_dictEpoch
def JI:=@PySem.F.slot_zip_next
def Df:=@List.sum_append
def yG:=@PySem.wpAny_passesOwn
def JJ:=@PySem.wpAny_execs_nil
def fM:=@PySem.PassesOwn.never
def sL:=@List.mem_range
def mW:=@PySem.Heap.size_push
def br:=@decide_eq_true
def Dg:=@Int.natAbs_mul
def Dh:=@List.forIn_nil
def wO:=@PySem.wpAny_fieldsOf
def Bd:=@PySem.wpAny_setField
def wQ:=@PySem.wpAny_seqItems
def wR:=@List.nodup_nil
def j9:=@Int.mul_nonneg
def eY:=@PySem.boot_len
def j_:=@Nat.lt_irrefl
def eZ:=@List.mem_cons
def bF:=@List.map_cons
def Di:=@List.any_cons
def Dj:=@Int.le_of_dvd
def b8:=@List.sum_cons
def Dk:=@PySem.wpAny_standAt
def Dl:=@PySem.wpAny_holding
def iG:=@Int.mul_assoc
def Be:=@List.map_take
def cu:=@PySem.Heap.lt_size
def fY:=@Nat.ne_of_lt
def fZ:=@Nat.le_trans
def Bf:=@Nat.le_of_lt
def Bg:=@Nat.ne_of_gt
def aX:=@List.mem_map
def Dm:=@Int.ediv_one
def Dp:=@Int.lt_or_le
def oq:=@List.set_set
def yH:=@Nat.min_self
def fu:=@List.map_map
def wU:=@Nat.sub_self
def kN:=@Int.mul_comm
def wV:=@Int.zero_add
def mX:=@Int.zero_mul
def jI:=@List.map_set
def wW:=@Int.sub_zero
def Bh:=@Int.le_trans
def Bj:=@Int.le_of_lt
def sM:=@Sum.inr.inj
def ou:=@Int.mul_one
def aL:=@Nat.le_refl
def iA:=@Nat.zero_le
def lT:=@PySem.sizeLine_eq
def oz:=@PySem.wpAny_field
def dZ:=@Int.le_refl
def wX:=@Int.mul_pos
def kO:=@Int.mul_add
def mY:=@Int.add_mul
def jJ:=@PySem.wpAny_mono
def bu:=@PySem.wpAny_pure
def aA:=@PySem.wpAny_bind
def uP:=@beq_iff_eq
def iZ:=@congrArg
def sO:=@if_false
def cO:=@Ne.symm
def ay:=@if_pos
def av:=@if_neg
theorem Z{α:Sort _}{a:α}:a=a:=rfl
namespace L2
open PySem PySem.Spec PyProof.Rows
abbrev Key:=Sum Int Str
def yI:Key->Value->Bool
 | .inl k,v=>Value.isInt k v
 | .inr x,v=>Value.isStrOf x v
def afJ(w:World):Key->Int
 | .inl k=>hashInt k
 | .inr x=>hashStr w x
theorem gR:∀{k:Key}{v:Value},yI k v=true->(∃i t,k=Sum.inl i/\v=Value.int i t)\/(∃x t,k=Sum.inr x/\v=Value.str x t)
 | .inl i,v,h=>by obtain⟨t,e⟩:=Value.isInt_shape (k:=i) (v:=v) h;exact .inl ⟨i,t,Z,e⟩
 | .inr x,v,h=>by obtain⟨t,e⟩:=Value.isStrOf_shape (x:=x) (v:=v) h;exact .inr ⟨x,t,Z,e⟩
theorem RD(i:Int)(t:Tok):yI (.inl i) (.int i t)=true:=by simp[yI,Value.isInt]
theorem RE(x:Str)(t:Tok):yI (.inr x) (.str x t)=true:=by simp[yI,Value.isStrOf]
theorem Y7(a b:Int):decide ((Sum.inl a:Key)=Sum.inl b)=(a==b):=by
 by_cases e:a=b
 .subst e;simp
 .have h:¬ (Sum.inl a:Key)=Sum.inl b:=λq=>e (Sum.inl.inj q);rw[dB h];exact(Fb.mpr e).symm
theorem Y8(a b:Str):decide ((Sum.inr a:Key)=Sum.inr b)=decide (a=b):=by
 by_cases e:a=b
 .subst e;simp
 .have h:¬ (Sum.inr a:Key)=Sum.inr b:=λq=>e (sM q);rw[dB h,dB e]
theorem Y9(a:Int)(b:Str):decide ((Sum.inl a:Key)=Sum.inr b)=false:=dB (λq=>nomatch q)
theorem Y_(a:Str)(b:Int):decide ((Sum.inr a:Key)=Sum.inl b)=false:=dB (λq=>nomatch q)
def c8(prog:Program)(w:World):PySem.KeyKind prog w Key where
 is:=yI
 hash:=afJ w
 inj:=λv a b ha hb=>by
  rcases gR ha with⟨i,t,rfl,rfl⟩|⟨x,t,rfl,rfl⟩
  .rcases gR hb with⟨j,u,rfl,e⟩|⟨y,u,rfl,e⟩
   .injection e with e1 _;rw[e1]
   .exact nomatch e
  .rcases gR hb with⟨j,u,rfl,e⟩|⟨y,u,rfl,e⟩
   .exact nomatch e
   .injection e with e1 _;rw[e1]
 byValue:=λk v h=>by rcases gR h with⟨i,t,rfl,rfl⟩|⟨x,t,rfl,rfl⟩ <;> rfl
 pyHash:=λhv h=>by
  rcases gR hv with⟨i,t,rfl,rfl⟩|⟨x,t,rfl,rfl⟩
  .exact wpAny_pyHash_int h
  .exact wpAny_pyHash_str h
 eqBool:=λhu hv h=>by
  rcases gR hu with⟨i,t,rfl,rfl⟩|⟨x,t,rfl,rfl⟩
  .rcases gR hv with⟨j,u,rfl,rfl⟩|⟨y,u,rfl,rfl⟩
   .rw [Y7]at h;exact wpAny_eqBool_int h
   .rw [Y9]at h;exact SeqAt.EqAt.int_str i t y u _ _ _ _ h
  .rcases gR hv with⟨j,u,rfl,rfl⟩|⟨y,u,rfl,rfl⟩
   .rw [Y_]at h;exact SeqAt.EqAt.str_int x t j u _ _ _ _ h
   .rw [Y8]at h;exact wpAny_eqBool_str h
 «strs»:=λk x t v h=>by
  rcases gR h with⟨i,u,rfl,e⟩|⟨y,u,rfl,e⟩
  .exact nomatch e
  .injection e with e1 _;subst e1;cases v <;> rfl
theorem Qv(prog:Program)(w:World)(k:Key)(v:Value):(c8 prog w).is k v=yI k v:=rfl
theorem Nj(prog:Program)(w:World)(i:Int)(t:Tok):(c8 prog w).is (.inl i) (.int i t)=true:=RD i t
theorem Nk(prog:Program)(w:World)(x:Str)(t:Tok):(c8 prog w).is (.inr x) (.str x t)=true:=RE x t
inductive V where
 | cy|bl (b:Bool)|int (i:Int)|str (x:Str)|zK (b:Array UInt8)|J5 (b:UInt64)|ref (a:Addr)|ty (n:String)
 deriving DecidableEq
def RelV:V->Value->Prop
 | .cy,u=>u=Value.none
 | .bl b,u=>u=Value.bool b
 | .int i,u=>∃t,u=Value.int i t
 | .str x,u=>∃t,u=Value.str x t
 | .zK b,u=>∃t,u=Value.bytes b t
 | .J5 b,u=>∃t,u=Value.float b t
 | .ref a,u=>u=Value.ref a
 | .ty n,u=>u=Value.type n
abbrev Vals:List V->List Value->Prop:=Paired RelV
variable {xs:List V}{us:List Value}
theorem Vals.length(r:Vals xs us):xs.length=us.length:=Paired.length r
theorem Vals.get:∀{xs:List V}{us:List Value}{i:Nat}{x:V},Vals xs us->xs[i]?=some x->∃u,us[i]?=some u/\RelV x u
 | _,_,_,_,.nil,e=>by simp at e
 | _,_,0,_,.cons r _,e=>by simp at e;subst e;exact⟨_,Z,r⟩
 | _,_,i+1,x,.cons _ t,e=>by obtain⟨u,h1,h2⟩:=Vals.get (i:=i) (x:=x) t (by simpa using e);exact⟨u,by simpa using h1,h2⟩
theorem Vals.set{x:V}{u:Value}(r:RelV x u):∀{xs:List V}{us:List Value}(i:Nat),Vals xs us->Vals (xs.set i x) (us.set i u)
 | _,_,_,.nil=> .nil
 | _,_,0,.cons _ t=> .cons r t
 | _,_,i+1,.cons q t=> .cons q (Vals.set r i t)
theorem Vals.append:∀{xs ys:List V}{us ws:List Value},Vals xs us->Vals ys ws->Vals (xs++ys) (us++ws)
 | _,_,_,_,.nil,s=>s
 | _,_,_,_,.cons r t,s=> .cons r (Vals.append t s)
def nI:Option V->Option Value->Prop
 | some v,some u=>RelV v u
 | none,none=>True
 | _,_=>False
def KV{κ:Type}:List (κ×V)->List (κ×Value)->Prop:=Paired λ(p:κ×V)(q:κ×Value)=>p.1=q.1/\RelV p.2 q.2
def kV:Key->V
 | .inl i=> .int i
 | .inr x=> .str x
inductive HO where
 | lst (xs:List V)
 | tup (xs:List V)
 | dK (kvs:List (Key×V))|dT (kvs:List (List Key×V))
 | set (S:Int->Bool) (n:Nat)
 | ins (C dx:Addr) (fs:List (Str×V))
 | own (x:Addr)
 | xd (fs:List (Str×V))
 | met (f x:Addr)
 | x_ (lo hi:Int)
 | gh (o:Obj) (u:HO)
 | J6 (ps:Array Value)
 | ext (φ:Heap->Prop)
abbrev Hp:=Addr->Option HO
def upd(H:Hp)(a:Addr)(o:HO):Hp:=λb=>if b=a then some o else H b
variable {H:Hp}{a:Addr}{o:HO}
theorem ak:upd H a o a=some o:=by unfold upd;rw[ay rfl]
theorem az{b:Addr}(h:b≠a):upd H a o b=H b:=by unfold upd;rw[av h]
theorem pP{u:HO}:upd (upd H a o) a u=upd H a u:=by funext b;unfold upd;split <;> rfl
theorem jC{b:Addr}{u:HO}(h:H a=some o)(h':H b=some u)(d:o≠u):a≠b:=by intro e;subst e;rw[h]at h';exact d (gH h')
theorem aJ{b:Addr}(h:H a=some o)(h':H b=none):a≠b:=by intro e;subst e;rw[h]at h';cases h'
section
variable (P:Program)(w:World)
def e_(H:Hp)(h:Heap)(a:Addr):HO->Prop
 | .lst xs=>xs.length<=sizeLine/\∃(its:List Value)(n:Nat),Vals xs its/\h.get? a=some { cls:=.type "list",data:=.seq its.toArray n }
 | .tup xs=>xs.length<=sizeLine/\∃its:List Value,Vals xs its/\IsTup h a its.toArray
 | .dK kvs=>kvs.length<=sizeLine/\(a==sysModules)=false/\∃vs,KV kvs vs/\h.DictOf (c8 P w) a vs
 | .dT kvs=>kvs.length<=sizeLine/\(a==sysModules)=false/\∃xs:List (List Key×Addr×Value),
     Paired (λ(p:List Key×V)(q:List Key×Addr×Value)=>p.1=q.1/\H q.2.1=some (.tup (p.1.map kV))/\RelV p.2 q.2.2) kvs xs/\
     ∃o es ep,h.get? a=some o/\o.ExactDict/\o.data =.dict es ep/\es.toList=xs.map (entryOfKey (tupleKind (c8 P w)))/\(xs.map (·.1)).Nodup
 | .set S n=>h.SetOf (intKind P w) a S n
 | .ins C dx fs=>H dx=some (.own a)/\fs.length<=1000/\dx≠a/\h.get? a=some (PySem.W.instObj C dx)/\
     ∃mA,h.Ns1 dx mA/\(∀f,nI (fs.lookup f) (mA f))/\PySem.Within mA (fs.map (·.1))
 | .own _=>∃o,h.get? a=some o
 | .xd fs=>∃mA,h.Ns1 a mA/\∀f,nI (fs.lookup f) (mA f)
 | .x_ lo hi=>∃t u v,h.get? a=some { cls:=.type "range",data:=.fields #[.int lo t,.int hi u,.int 1 v] }
 | .gh o u=>h.get? a=some o/\e_ H h a u
 | .J6 ps=>h.get? a=some { cls:=.none,data:=.fields ps }
 | .met f x=>h.get? a=some (PySem.W.methodObj (.ref f) (.ref x))
 | .ext φ=>φ h/\(∃o,h.get? a=some o)/\∀h1 h2:Heap,φ h1->(∀o,h1.get? a=some o->h2.get? a=some o)->φ h2
def jk(H:Hp)(h:Heap):Prop:=∀a o,H a=some o->e_ P w H h a o
end
section
variable {P:Program}{w:World}{H H':Hp}{h h':Heap}{a:Addr}{o:HO}
theorem e_.lt(x:e_ P w H h a o):a<h.objs.size:=by
 cases o with
 | lst xs=>obtain⟨_,_,_,_,e⟩:=x;exact cu e
 | tup xs=>obtain⟨_,_,_,p⟩:=x;exact p.lt
 | dK kvs=>obtain⟨_,_,_,_,o,_,_,e,_⟩:=x;exact cu e
 | dT kvs=>obtain⟨_,_,_,_,o,_,_,e,_⟩:=x;exact cu e
 | set S n=>obtain⟨o,_,_,_,e,_⟩:=x;exact cu e
 | ins C dx fs=>obtain⟨_,_,_,e,_⟩:=x;exact cu e
 | own y=>obtain⟨_,e⟩:=x;exact cu e
 | xd fs=>obtain⟨_,⟨_,_,_,e,_⟩,_⟩:=x;exact cu e
 | x_ lo hi=>obtain⟨_,_,_,e⟩:=x;exact cu e
 | gh ob u=>obtain⟨e,_⟩:=x;exact cu e
 | J6 ps=>exact cu (show h.get? a=some _ from x)
 | met f y=>exact cu (show h.get? a=some _ from x)
 | ext φ=>obtain⟨_,⟨_,e⟩,_⟩:=x;exact cu e
theorem Paired.UM{α β:Type}{F G:α->β->Prop}:∀{l₁:List α}{l₂:List β},Paired F l₁ l₂->(∀a b,F a b->G a b)->Paired G l₁ l₂
 | _,_,.nil,_=> .nil
 | _,_,.cons r t,f=> .cons (f _ _ r) (Paired.UM t f)
theorem e_.stay(x:e_ P w H h a o)(k:∀b u,(b=a\/H b=some (.own a))->h.get? b=some u->h'.get? b=some u)(ho:∀b,H b=some (.own a)->H' b=some (.own a))(ht:∀b xs,H b=some (.tup xs)->H' b=some (.tup xs)):e_ P w H' h' a o:=by
 induction o with
 | lst xs=>obtain⟨z,its,n,r,e⟩:=x;exact⟨z,its,n,r,k _ _ (.inl rfl) e⟩
 | tup xs=>obtain⟨z,its,r,ob,e,c⟩:=x;exact⟨z,its,r,ob,k _ _ (.inl rfl) e,c⟩
 | dK kvs=>obtain⟨z,y,vs,r,ob,es,ep,e,c⟩:=x;exact⟨z,y,vs,r,ob,es,ep,k _ _ (.inl rfl) e,c⟩
 | dT kvs=>
   obtain⟨z,y,xs,r,ob,es,ep,e,c⟩:=x
   exact⟨z,y,xs,Paired.UM r λp q z=>⟨z.1,ht _ _ z.2.1,z.2.2⟩,ob,es,ep,k _ _ (.inl rfl) e,c⟩
 | set S n=>obtain⟨ob,es,ep,t,e,c⟩:=x;exact⟨ob,es,ep,t,k _ _ (.inl rfl) e,c⟩
 | ins C dx fs=>
   obtain⟨d,z,ne,e,mA,⟨od,es,ep,e2,c⟩,r⟩:=x
   exact⟨ho _ d,z,ne,k _ _ (.inl rfl) e,mA,⟨od,es,ep,k _ _ (.inr d) e2,c⟩,r⟩
 | own y=>obtain⟨ob,e⟩:=x;exact⟨ob,k _ _ (.inl rfl) e⟩
 | xd fs=>obtain⟨mA,⟨od,es,ep,e,c⟩,r⟩:=x;exact⟨mA,⟨od,es,ep,k _ _ (.inl rfl) e,c⟩,r⟩
 | x_ lo hi=>obtain⟨t,u,v,e⟩:=x;exact⟨t,u,v,k _ _ (.inl rfl) e⟩
 | gh ob u ih=>obtain⟨e,q⟩:=x;exact⟨k _ _ (.inl rfl) e,ih q⟩
 | J6 ps=>
   have e:h.get? a=some { cls:=.none,data:=.fields ps }:=x
   show h'.get? a=some { cls:=.none,data:=.fields ps }
   exact k a _ (.inl rfl) e
 | met f y=>
   have e:h.get? a=some (PySem.W.methodObj (.ref f) (.ref y)):=x
   show h'.get? a=some (PySem.W.methodObj (.ref f) (.ref y))
   exact k a _ (.inl rfl) e
 | ext φ=>obtain⟨p,⟨o,e⟩,st⟩:=x;exact⟨st _ _ p λo q=>k _ _ (.inl rfl) q,⟨o,k _ _ (.inl rfl) e⟩,st⟩
theorem jk.lt(x:jk P w H h)(e:H a=some o):a<h.objs.size:=(x a o e).lt
theorem jk.fresh(x:jk P w H h)(e:h.objs.size<=a):H a=none:=by
 cases q:H a with
 | none=>rfl
 | some u=>exact absurd (lN (x.lt q) e) (j_ _)
theorem jk.kept(x:jk P w H h)(k:∀b u,h.get? b=some u->h'.get? b=some u):jk P w H h':=λa o e=>
 (x a o e).stay (λb u _ q=>k b u q) (λ_ q=>q) λ_ _ q=>q
theorem jk.laid(x:jk P w H h)(k:∀b u,h.get? b=some u->h'.get? b=some u)(hp:h.objs.size<=a)(new:e_ P w (upd H a o) h' a o):jk P w (upd H a o) h':=λb u e=>by
 have hn:=x.fresh hp;by_cases hb:b=a
 .subst hb;rw[ak]at e;cases e;exact new
 .rw [az hb]at e;exact(x b u e).stay (λc v _ q=>k c v q) (λc q=>by rw[az (aJ q hn)];exact q) λc xs q=>by rw[az (aJ q hn)];exact q
end
def Rd(H:Hp)(a:Addr)(u:HO):Prop:=H a=some u\/∃o,H a=some (.gh o u)
variable {P:Program}{w:World}{h:Heap}
theorem Rd.ok{u:HO}(r:Rd H a u)(x:jk P w H h):e_ P w H h a u:=by
 rcases r with r|⟨o,r⟩
 .exact x a u r
 .obtain ⟨_,q⟩:=x a _ r;exact q
def RG:Option HO->Prop
 | some (.lst _)=>True
 | some (.dK _)=>True
 | some (.dT _)=>True
 | some (.set _ _)=>True
 | some (.ins _ _ _)=>True
 | some (.ext _)=>True
 | _=>False
section
variable {P:Program}{w:World}{H:Hp}{h h':Heap}{x e:Addr}{o':HO}
theorem jk.write(ok:jk P w H h)(mu:RG (H x))(he:e=x\/H e=some (.own x))(k:∀b u,b≠e->h.get? b=some u->h'.get? b=some u)(OH:∃u,h'.get? e=some u)(new:e_ P w (upd H x o') h' x o'):jk P w (upd H x o') h':=λb u q=>by
 have Za:∀c y,H c=some (.own y)->c≠x:=λc y r z=>by subst z;rw[r]at mu;exact mu
 have afK:∀c xs,H c=some (.tup xs)->c≠x:=λc xs r z=>by subst z;rw[r]at mu;exact mu
 by_cases hb:b=x
 . subst hb;rw[ak]at q;cases q;exact new
 . rw[az hb]at q
   by_cases J7:b=e
   . have q':H b=some (.own x):=by
      rcases he with z|z
      . exact absurd (J7.trans z) hb
      . rw[J7];exact z
     rw[q]at q';cases q'
     obtain⟨v,hv⟩:=OH
     exact⟨v,by rw[J7];exact hv⟩
   . refine(ok b u q).stay (λc v hc r=>k c v ?_ r) (λc r=>by rw[az (Za c b r)];exact r) λc xs r=>by rw[az (afK c xs r)];exact r
     rcases hc with rfl|hc
     . exact J7
     . rintro rfl
       rcases he with z|z
       . exact Za c b hc z
       . rw[hc]at z;cases z;exact hb rfl
end
structure Un(fs ex:List Addr)(H H':Hp)(h h':Heap):Prop where
 keep:∀b o,h.get? b=some o->H b=none->b∉fs->b∉ex->h'.get? b=some o
 slot:∀b o,h.get? b=some o->H b=none->b∈fs->b∉ex->∃sl,h'.get? b=some { o with slots:=sl }
 free:∀b o,h.get? b=some o->H b=none->b∉ex->H' b=none
 there:∀b o,h.get? b=some o->b∉ex->∃o',h'.get? b=some o'
 tups:∀b xs,H b=some (.tup xs)->H' b=some (.tup xs)
 t9:∀b o u,H b=some (.gh o u)->H' b=some (.gh o u)
 xK:∀b ps,H b=some (.J6 ps)->∃more,H' b=some (.J6 (ps++more))
section
variable {fs fs' ex ex':List Addr}{H H1 H2:Hp}{h h1 h2 h':Heap}{a x e:Addr}{o:HO}
theorem Un.any(u:Un fs ex H H1 h h1){b:Addr}(q:h.get? b=some ob)(n:H b=none)(hx:b∉ex):∃sl,h1.get? b=some { ob with slots:=sl }:=by
 by_cases hb:b∈fs
 .exact u.slot b ob q n hb hx
 .exact ⟨ob.slots,u.keep b ob q n hb hx⟩
theorem Un.kept(k:∀b u,h.get? b=some u->h'.get? b=some u):Un fs ex H H h h':=⟨λb ob q _ _ _=>k b ob q,λb ob q _ _ _=>⟨ob.slots,k b ob q⟩,λ_ _ _ n _=>n,λb ob q _=>⟨ob,k b ob q⟩,λ_ _ q=>q,λ_ _ _ q=>q,λ_ ps q=>⟨#[],by rw[q];simp⟩⟩
theorem Un.refl:Un fs ex H H h h:=Un.kept λ_ _ q=>q
theorem Un.laid(k:∀b u,h.get? b=some u->h'.get? b=some u)(hp:h.objs.size<=a)(hn:H a=none):Un fs ex H (upd H a o) h h' where
 keep:=λb u q _ _ _=>k b u q
 slot:=λb u q _ _ _=>⟨u.slots,k b u q⟩
 free:=λb u q n _=>by rw[az (fY (lN (cu q) hp))];exact n
 there:=λb u q _=>⟨u,k b u q⟩
 tups:=λb xs q=>by rw[az (aJ q hn)];exact q
 t9:=λb u xs q=>by rw[az (aJ q hn)];exact q
 xK:=λb ps q=>⟨#[],by rw[az (aJ q hn),q];simp⟩
theorem Un.write(mu:RG (H x))(he:e=x\/H e=some (.own x))(k:∀b u,b≠e->h.get? b=some u->h'.get? b=some u)(OH:∃u,h'.get? e=some u):Un fs ex H (upd H x o) h h':=by
 have hx:∀b,H b=none->b≠x:=λb n z=>by subst z;rw[n]at mu;exact mu
 have hb:∀b,H b=none->b≠e:=λb n z=>by
  subst z;rcases he with r|r
  .exact hx b n r
  .rw [n]at r;cases r
 have hm:∀b u,H b=some u->¬ RG (some u)->b≠x:=λb u q nm z=>by subst z;rw[q]at mu;exact nm mu
 refine⟨λb u q n _ _=>k b u (hb b n) q,λb u q n _ _=>⟨u.slots,k b u (hb b n) q⟩,λb u q n _=>by rw[az (hx b n)];exact n,λb u q _=>?_,
  λb xs q=>by rw[az (hm b _ q λz=>z)];exact q,λb u xs q=>by rw[az (hm b _ q λz=>z)];exact q,λb ps q=>⟨#[],by rw[az (hm b _ q λz=>z),q];simp⟩⟩
 by_cases J7:b=e
 .subst J7;exact OH
 .exact ⟨u,k b u J7 q⟩
end
def Wl(h:Heap)(H:Hp):List Addr:=(List.range h.objs.size).filter λa=>(H a).isSome
def yJ(h:Heap)(H:Hp):Heap:=PySem.W.hideAll h (Wl h H)
theorem RH(h:Heap)(H:Hp):(yJ h H).objs.size=h.objs.size:=PySem.W.hideAll_size _ _
theorem UN{b:Addr}{o:Obj}(e:h.get? b=some o)(n:H b=none):(yJ h H).get? b=some o:=PySem.W.hideAll_get _ e λhm=>by have q:(H b).isSome=true:=(iz.mp hm).2;rw[n]at q;simp at q
theorem Xn{b:Addr}{o:Obj}(e:(yJ h H).get? b=some o):h.get? b=some o/\H b=none:=by
 have e':h.get? b=some o:=PySem.W.of_hideAll (Wl h H) e;refine⟨e',?_⟩;cases q:H b with
 | none=>rfl
 | some x=>have hm:b∈Wl h H:=iz.mpr ⟨sL.mpr (cu e'),by simp[q]⟩;have z:(yJ h H).get? b=none:=PySem.W.hideAll_none (Wl h H) hm;rw[z]at e;cases e
structure Mod(K:Fg)(mg:SO)(base:Heap):Prop where
 RI:K.In base
 glob:base.Ns mainGlobals mg
 blt:∃mb,base.Ns builtinsNs mb/\∀x:Str,x ≠ "__name__"->mb x=bootBuiltins x
 nolimit:base.NoLimit
structure Cx where
 prog:Program
 w:World
 K:Fg
 mg:Str->Option Value
 base:Heap
 A:Around
 N:List Str
 s₀:Shared
 H₀:Hp
 env:Env
 outer:List Env
 stack:List Env
 ex:List Addr
 fn:Str->Bool
 calm:Bool
 pn:List (Addr×Obj)
 xe:Value->Shared->Prop
def frs(l:List Env):List Addr:=l.filterMap (·.frame)
abbrev Cx.fs(X:Cx):List Addr:=frs X.outer
def Wm(sc:Scope)(x:Str):Prop:=sc.names.lookup x=some .local\/sc.names.lookup x=some .cell\/sc.names.lookup x=some .free
def Loc(sc:Scope)(x:Str):Prop:=sc.names.lookup x=some .local\/sc.names.lookup x=some .cell
def Look(env:Env)(h:Heap)(m:SO)(x:Str)(u:Value):Prop:=(env.kindOf x=some .local/\m x=some u)\/((env.kindOf x=some .cell\/env.kindOf x=some .free)/\∃c,env.cells.lookup x=some c/\h.IsCell c (some u))
structure Cx.Ok(X:Cx):Prop where
 mod:Mod X.K X.mg X.base
 kind:X.env.scope.kind =.function
 glob:X.env.globals=mainGlobals
 blt:X.env.builtins=builtinsNs
 above:X.s₀.heap.objs.size<=X.env.locals
 inj:∀x y c,X.env.cells.lookup x=some c->X.env.cells.lookup y=some c->x=y
 has:∀x,(X.env.kindOf x=some .cell\/X.env.kindOf x=some .free)->∃c,X.env.cells.lookup x=some c
 gQ:∀x c,X.fn x=true->X.env.cells.lookup x=some c->X.s₀.heap.objs.size<=c
 hd:X.calm=true->X.A.handled=none
 frames:X.A.frames=some X.stack
 stk:X.stack=X.outer\/(X.stack=X.env::X.outer/\X.env.frame=some X.env.locals)
 OI:∀b∈X.ex,b≠X.env.locals/\∀x c,X.env.cells.lookup x=some c->c≠b
 bs:∀b o,X.base.get? b=some o->X.s₀.heap.get? b=some o/\X.H₀ b=none
 GR:X.base.objs.size<=X.s₀.heap.objs.size
 J8:∀b o,X.base.get? b=some o->b∉X.ex
 Fo:∀b∈X.ex,b∉X.fs
 t_:X.s₀.heap.FunFrames X.base X.outer
 J9:∀b∈X.fs,X.H₀ b=none
structure Inv(X:Cx)(pins:AO)(σ:List (Option V))(H:Hp)(s:Shared):Prop where
 ok:X.Ok
 os:s.os=X.s₀.os
 bare:AllBare s.gens
 base:Un X.fs X.ex X.H₀ H X.s₀.heap s.heap
 loc:∃m,s.heap.Ns X.env.locals m/\∀(i:Nat)(x:Str)(v:V),X.N[i]?=some x->σ[i]?=some (some v)->Wm X.env.scope x->∃u,RelV v u/\Look X.env s.heap m x u
 cell:∀x c,X.env.cells.lookup x=some c->∃v,s.heap.IsCell c v
 free:H X.env.locals=none
 oB:∀x c,X.env.cells.lookup x=some c->H c=none
 pin:∀p∈X.pn++pins,s.heap.get? p.1=some p.2/\H p.1=none/\p.1≠X.env.locals/\p.1∉X.fs/\∀v,p.2.data ≠ .cell v
 hok:jk X.prog X.w H s.heap
 len:σ.length=X.N.length
variable {g':Array GenState}{t' i j:Nat}{ch:List Addr}{it:Addr}{N:List Str}{x:Str}{M:Model}{E:VS}{u:Value}
section
variable {X:Cx}{pins:AO}{σ:List (Option V)}{H H':Hp}{s:Shared}{h':Heap}
theorem Cx.Ok.afL(ok:X.Ok){b:Addr}{o:Obj}(e:X.base.get? b=some o):b∉X.fs:=λhb=>by have:=(ok.t_.mem hb).1;rw[e]at this;cases this
theorem Inv.bs(I:Inv X pins σ H s):∀b o,X.base.get? b=some o->s.heap.get? b=some o/\H b=none:=λb o e=>
 ⟨I.base.keep b o (I.ok.bs b o e).1 (I.ok.bs b o e).2 (I.ok.afL e) (I.ok.J8 b o e),I.base.free b o (I.ok.bs b o e).1 (I.ok.bs b o e).2 (I.ok.J8 b o e)⟩
theorem Inv.bk(I:Inv X pins σ H s):∀b o,X.base.get? b=some o->s.heap.get? b=some o:=λb o e=>(I.bs b o e).1
theorem Inv.mod(I:Inv X pins σ H s):Mod X.K X.mg X.base:=I.ok.mod
theorem Inv.kK(I:Inv X pins σ H s):X.K.In s.heap:=I.ok.mod.RI.keeps I.bk
theorem Inv.lt(I:Inv X pins σ H s):X.env.locals<s.heap.objs.size:=let⟨_,hn,_⟩:=I.loc;hn.lt
theorem Inv.sz(I:Inv X pins σ H s):X.s₀.heap.objs.size<=s.heap.objs.size:=fZ I.ok.above (Bf I.lt)
theorem Inv.afM(I:Inv X pins σ H s)(h:s.heap.objs.size<=a):a∉X.fs:=λhb=>by obtain⟨_,o,ho,_⟩:=I.ok.t_.mem hb;exact absurd (lN (cu ho) (fZ I.sz h)) (j_ _)
theorem Inv.J_(I:Inv X pins σ H s):∀x c,X.env.cells.lookup x=some c->c≠X.env.locals:=λx c e z=>by obtain⟨v,o,ho,hd⟩:=I.cell x c e;obtain⟨m,⟨o',es,ep,ho',hd',_⟩,_⟩:=I.loc;rw[z,ho']at ho;cases ho;rw[hd']at hd;cases hd
theorem Inv.t_(I:Inv X pins σ H s):s.heap.FunFrames X.base X.outer:=by
 have all:∀(l:List Env),(∀b∈frs l,b∈X.fs)->X.s₀.heap.FunFrames X.base l->s.heap.FunFrames X.base l:=by
  intro l
  induction l with
  | nil=>intro _ _;trivial
  | cons env r ih=>intro hs hl;obtain⟨hk,⟨L,o,hf,hn,ho,hd⟩,hr⟩:=hl;have hL:L∈X.fs:=hs L (by unfold frs;rw[Cm,hf];exact cQ);obtain⟨sl,e⟩:=I.base.slot L o ho (I.ok.J9 L hL) hL λz=>I.ok.Fo L z hL;exact⟨hk,⟨L,_,hf,hn,e,hd⟩,ih (λb hb=>hs b (by unfold frs;rw[Cm,hf];exact cR _ hb)) hr⟩
 exact all X.outer (λ_ hb=>hb) I.ok.t_
theorem Inv.stack(I:Inv X pins σ H s):s.heap.FunFrames X.base X.stack:=by
 rcases I.ok.stk with e|⟨e,hf⟩
 .rw [e];exact I.t_
 .rw [e];obtain⟨m,hn,_⟩:=I.loc;refine .cons (by rw[I.ok.kind];decide) hf hn ?_ I.t_;exact Heap.get?_none_of_le (fZ I.ok.GR I.ok.above)
theorem Inv.Ka(I:Inv X pins σ H s):∀b∈frs X.stack,b∈X.env.locals::X.fs:=λb hb=>by
 rcases I.ok.stk with e|⟨e,hf⟩
 .rw [e]at hb;exact cR _ hb
 .rw [e]at hb;unfold frs at hb;rw[Cm,hf]at hb;exact hb
theorem Inv.OJ(I:Inv X pins σ H s):∀b∈frs X.stack,H b=none:=λb hb=>by
 rcases eZ.mp (I.Ka b hb)with e|hb
 .rw [e];exact I.free
 .obtain ⟨_,o,ho,_⟩:=I.ok.t_.mem hb;exact I.base.free b o ho (I.ok.J9 b hb) λz=>I.ok.Fo b z hb
theorem Inv.step{d':Drawn}(I:Inv X pins σ H s)(hch:∀b∈ch,(b∈X.ex\/X.s₀.heap.objs.size<=b)/\b≠X.env.locals/\(∀x c,X.env.cells.lookup x=some c->c≠b)/\∀p∈X.pn++pins,p.1≠b)(keep:∀b o,b≠X.env.locals->b∉X.fs->b∉ch->s.heap.get? b=some o->H b=none->h'.get? b=some o)(slot:∀b o,b≠X.env.locals->b∈X.fs->b∉ch->s.heap.get? b=some o->H b=none->∃sl,h'.get? b=some { o with slots:=sl })(free:∀b o,b∉ch->s.heap.get? b=some o->H b=none->H' b=none)(there:∀b o,b∉ch->s.heap.get? b=some o->∃o',h'.get? b=some o')(tups:∀b xs,H b=some (.tup xs)->H' b=some (.tup xs))(t9:∀b o u,H b=some (.gh o u)->H' b=some (.gh o u))(xK:∀b ps,H b=some (.J6 ps)->∃more,H' b=some (.J6 (ps++more)))(ns:∀m,s.heap.Ns X.env.locals m->h'.Ns X.env.locals m)(hok:jk X.prog X.w H' h')(hg:AllBare g'):
  Inv X pins σ H' { s with heap:=h',gens:=g',drawn:=d',toks:=t' }:=by
 have neL:∀b o,X.s₀.heap.get? b=some o->b≠X.env.locals:=λb o e=>fY (lN (cu e) I.ok.above)
 have Wn:∀b o,X.s₀.heap.get? b=some o->b∉X.ex->b∉ch:=λb o e hx hb=>by
  rcases(hch b hb).1 with z|z
  .exact hx z
  .exact absurd (lN (cu e) z) (j_ _)
 have cellK:∀x c,X.env.cells.lookup x=some c->∀v,s.heap.IsCell c v->h'.IsCell c v:=λx c e v ⟨o,ho,hd⟩=>by
  have ya:c∉ch:=λz=>(hch c z).2.2.1 x c e rfl;by_cases hc:c∈X.fs
  .obtain ⟨sl,q⟩:=slot c o (I.J_ x c e) hc ya ho (I.oB x c e);exact⟨_,q,hd⟩
  .exact ⟨o,keep c o (I.J_ x c e) hc ya ho (I.oB x c e),hd⟩
 refine⟨I.ok,I.os,hg,⟨λb o e n hb hx=>?_,λb o e n hb hx=>?_,λb o e n hx=>?_,λb o e hx=>?_,λb xs e=>tups b xs (I.base.tups b xs e),λb o xs e=>t9 b o xs (I.base.t9 b o xs e),λb ps e=>?_⟩,?_,λx c e=>?_,?_,λx c e=>?_,λp hp=>?_,hok,I.len⟩
 . exact keep b o (neL b o e) hb (Wn b o e hx) (I.base.keep b o e n hb hx) (I.base.free b o e n hx)
 . obtain⟨sl,e1⟩:=I.base.slot b o e n hb hx
   obtain⟨sl',e2⟩:=slot b _ (neL b o e) hb (Wn b o e hx) e1 (I.base.free b o e n hx)
   exact⟨sl',e2⟩
 . obtain⟨o',e1⟩:=I.base.there b o e hx
   exact free b o' (Wn b o e hx) e1 (I.base.free b o e n hx)
 . obtain⟨o',e1⟩:=I.base.there b o e hx
   exact there b o' (Wn b o e hx) e1
 . obtain⟨m1,e1⟩:=I.base.xK b ps e
   obtain⟨m2,e2⟩:=xK b _ e1
   exact⟨m1++m2,by rw[e2,Array.append_assoc]⟩
 . obtain⟨m,hn,hl⟩:=I.loc
   refine⟨m,ns m hn,λi x v e1 e2 e3=>?_⟩
   obtain⟨u,r,l⟩:=hl i x v e1 e2 e3
   refine⟨u,r,?_⟩
   rcases l with l|⟨k,c,e,z⟩
   . exact .inl l
   . exact .inr ⟨k,c,e,cellK x c e _ z⟩
 . obtain⟨v,z⟩:=I.cell x c e
   exact⟨v,cellK x c e v z⟩
 . obtain⟨m,⟨o,_,_,ho,_⟩,_⟩:=I.loc
   exact free _ o (λz=>(hch _ z).2.1 rfl) ho I.free
 . obtain⟨v,o,ho,hd⟩:=I.cell x c e
   exact free c o (λz=>(hch c z).2.2.1 x c e rfl) ho (I.oB x c e)
 . obtain⟨e,n,ne,nf,d⟩:=I.pin p hp
   have ya:p.1∉ch:=λz=>(hch p.1 z).2.2.2 p hp rfl
   exact⟨keep p.1 p.2 ne nf ya e n,free p.1 p.2 ya e n,ne,nf,d⟩
theorem Inv.un(I:Inv X pins σ H s)(u:Un X.fs [] H H' s.heap h')(hok:jk X.prog X.w H' h'):Inv X pins σ H' { s with heap:=h',toks:=t' }:=by obtain⟨m,⟨o,es,ep,ho,r⟩,_⟩:=id I.loc;obtain⟨sl,hL⟩:=u.any ho I.free (by simp);exact I.step (g':=s.gens) (d':=s.drawn) (ch:=[]) (λ_ z=>nomatch z) (λb o _ hb _ e n=>u.keep b o e n hb (by simp)) (λb o _ hb _ e n=>u.slot b o e n hb (by simp)) (λb o _ e n=>u.free b o e n (by simp)) (λb o _ e=>u.there b o e (by simp)) u.tups u.t9 u.xK (λm' hm=>by obtain⟨o',es',uJ,ho',r'⟩:=hm;rw[ho]at ho';cases ho';exact⟨_,es',uJ,hL,r'⟩) hok I.bare
theorem Inv.call{d':Drawn}(I:Inv X pins σ H s)(u:Un (frs X.stack) ch H H' s.heap h')(hok:jk X.prog X.w H' h')(hg:AllBare g')(hch:∀b∈ch,(b∈X.ex\/X.s₀.heap.objs.size<=b)/\b≠X.env.locals/\(∀x c,X.env.cells.lookup x=some c->c≠b)/\∀p∈X.pn++pins,p.1≠b):
  Inv X pins σ H' { s with heap:=h',gens:=g',drawn:=d',toks:=t' }:=by
 obtain⟨m,⟨o,es,ep,ho,r⟩,_⟩:=id I.loc
 obtain⟨sl,hL⟩:=u.any ho I.free λz=>(hch _ z).2.1 rfl
 exact I.step (ch:=ch) hch (λb o hL hb hc e n=>u.keep b o e n (λz=>(eZ.mp (I.Ka b z)).elim hL hb) hc) (λb o _ _ hc e n=>u.any e n hc) (λb o hc e n=>u.free b o e n hc) (λb o hc e=>u.there b o e hc) u.tups u.t9 u.xK (λm' hm=>by obtain⟨o',es',uJ,ho',r'⟩:=hm;rw[ho]at ho';cases ho';exact⟨_,es',uJ,hL,r'⟩) hok hg
theorem Inv.turned(I:Inv X pins σ H s)(k:∀b o,b≠it->s.heap.get? b=some o->h'.get? b=some o)(hn:H it=none)(hL:it≠X.env.locals)(h1:it∈X.ex\/X.s₀.heap.objs.size<=it)(h2:∀x c,X.env.cells.lookup x=some c->c≠it)(h3:∀p∈X.pn++pins,p.1≠it):Inv X pins σ H { s with heap:=h',toks:=t' }:=by
 have nit:∀b u,H b=some u->b≠it:=λb u e z=>by rw[z,hn]at e;cases e
 refine I.step (g':=s.gens) (d':=s.drawn) (ch:=[it]) (λb hb=>?_) (λb o _ _ hc e _=>k b o (λz=>hc (by simp[z])) e) (λb o _ _ hc e _=>⟨o.slots,k b o (λz=>hc (by simp[z])) e⟩) (λ_ _ _ _ n=>n)
  (λb o hc e=>⟨o,k b o (λz=>hc (by simp[z])) e⟩) (λ_ _ e=>e) (λ_ _ _ e=>e) (λb ps e=>⟨#[],by rw[e];simp⟩) (λm hm=>?_) (λb u e=>?_) I.bare
 . have e:b=it:=by simpa using hb
   subst e
   exact⟨h1,hL,h2,h3⟩
 . obtain⟨o,es,ep,ho,r⟩:=hm
   exact⟨o,es,ep,k _ o (cO hL) ho,r⟩
 . refine(I.hok b u e).stay (λc v hc q=>k c v ?_ q) (λ_ q=>q) λ_ _ q=>q
   rcases hc with z|z
   . rw[z];exact nit b u e
   . exact nit c _ z
theorem Inv.tok(I:Inv X pins σ H s)(t:Nat):Inv X pins σ H { s with toks:=t }:=I.un (h':=s.heap) (t':=t) Un.refl I.hok
theorem Inv.kept(I:Inv X pins σ H s)(k:∀b u,s.heap.get? b=some u->h'.get? b=some u):Inv X pins σ H { s with heap:=h',toks:=t' }:=I.un (Un.kept k) (I.hok.kept k)
theorem Inv.laid(I:Inv X pins σ H s)(k:∀b u,s.heap.get? b=some u->h'.get? b=some u)(hp:s.heap.objs.size<=a)(new:e_ X.prog X.w (upd H a o) h' a o):Inv X pins σ (upd H a o) { s with heap:=h',toks:=t' }:=I.un (Un.laid k hp (I.hok.fresh hp)) (I.hok.laid k hp new)
theorem Inv.write{x e:Addr}(I:Inv X pins σ H s)(mu:RG (H x))(he:e=x\/H e=some (.own x))(k:∀b u,b≠e->s.heap.get? b=some u->h'.get? b=some u)(OH:∃u,h'.get? e=some u)(new:e_ X.prog X.w (upd H x o) h' x o):Inv X pins σ (upd H x o) { s with heap:=h',toks:=t' }:=I.un (Un.write mu he k OH) (I.hok.write mu he k OH new)
theorem Inv.OL{Wo:AO}(I:Inv X pins σ H s)(h:∀p∈Wo,s.heap.get? p.1=some p.2/\H p.1=none/\p.1≠X.env.locals/\p.1∉X.fs/\∀v,p.2.data ≠ .cell v):Inv X Wo σ H s:=⟨I.ok,I.os,I.bare,I.base,I.loc,I.cell,I.free,I.oB,λp hp=>(dI.mp hp).elim (λz=>I.pin p (Ck _ z)) (h p),I.hok,I.len⟩
theorem Cp(hN:N.Nodup)(a:N[i]?=some x)(b:N[j]?=some x):i=j:=by obtain⟨h1,e1⟩:=dj.mp a;obtain⟨h2,e2⟩:=dj.mp b;exact(List.getElem_inj hN).mp (e1.trans e2.symm)
theorem GS{A:Around}{v:V}{Q:Unit->Shared->Prop}(I:Inv X pins σ H s)(hN:X.N.Nodup)(hi:X.N[i]?=some x)(hx:Loc X.env.scope x)(r:RelV v u)(h:∀s',Inv X pins (σ.set i (some v)) H s'->(∃a,Heap.SameBut a s.heap s'.heap/\(a=X.env.locals\/X.env.cells.lookup x=some a))->Q () s')(hf:X.fn x=true\/X.env.scope.names.lookup x=some .local:=by first|exact .inl rfl|exact .inr rfl|assumption):wpAny M A (storeName X.env x u) Q E s:=by
 obtain⟨m,hn,hl⟩:=id I.loc
 have hcls:(X.env.scope.kind ==.class || (X.env.scope.kind ==.module && X.env.locals != X.env.globals))=false:=by rw[I.ok.kind];rfl
 have hiσ:i<σ.length:=by rw[I.len];exact(dj.mp hi).1
 have J_:=I.J_
 have tracked:∀{a:Addr}{h':Heap},(∃o,s.heap.get? a=some o/\H a=none)->Heap.SameBut a s.heap h'->jk X.prog X.w H h':=λ{a h'} ha hs b ob e=>by
  obtain⟨_,_,hfree⟩:=ha;refine(I.hok b ob e).stay (λc w' hc q=>(hs.2 c ?_).trans q) (λ_ q=>q) λ_ _ q=>q;rintro rfl;rcases hc with rfl|hc
  .rw [hfree]at e;cases e
  .rw [hfree]at hc;cases hc
 rcases hx with hk|hk
 . refine wpAny_storeName_local hk hn (λh' hn' hs=>?_) hcls
   obtain⟨oL,_,_,hoL,_⟩:=id hn
   refine h _ ⟨I.ok,I.os,I.bare,⟨λb o e n hb hx=>?_,λb o e n hb hx=>?_,I.base.free,λb o e hx=>?_,I.base.tups,I.base.t9,I.base.xK⟩,⟨_,hn',λj y v' e1 e2 e3=>?_⟩,λy c e=>?_,I.free,I.oB,λp hp=>?_,tracked ⟨oL,hoL,I.free⟩ hs,by simpa using I.len⟩ ⟨_,hs,.inl rfl⟩
   . exact(hs.2 b (fY (lN (cu e) I.ok.above))).trans (I.base.keep b o e n hb hx)
   . obtain⟨sl,e1⟩:=I.base.slot b o e n hb hx
     exact⟨sl,(hs.2 b (fY (lN (cu e) I.ok.above))).trans e1⟩
   . obtain⟨o',e1⟩:=I.base.there b o e hx
     exact⟨o',(hs.2 b (fY (lN (cu e) I.ok.above))).trans e1⟩
   . by_cases hj:j=i
     . subst hj
       rw[hi]at e1;cases e1
       rw[h_ hiσ]at e2
       cases e2
       exact⟨u,r,.inl ⟨hk,by simp⟩⟩
     . rw[xJ (cO hj)]at e2
       obtain⟨u',r',q⟩:=hl j y v' e1 e2 e3
       refine⟨u',r',?_⟩
       rcases q with⟨k,e⟩|⟨k,c,e,z⟩
       . refine .inl ⟨k,?_⟩
         have:y≠x:=λe=>hj (Cp hN e1 (e▸hi))
         simp[this,e]
       . exact .inr ⟨k,c,e,z.sameBut hs (J_ y c e)⟩
   . obtain⟨w',z⟩:=I.cell y c e
     exact⟨w',z.sameBut hs (J_ y c e)⟩
   . obtain⟨e,n,ne,nf,d⟩:=I.pin p hp
     exact⟨(hs.2 p.1 ne).trans e,n,ne,nf,d⟩
 . have hfn:X.fn x=true:=by
    rcases hf with z|z
    . exact z
    . rw[z]at hk;cases hk
   obtain⟨c,hc⟩:=I.ok.has x (.inl hk)
   obtain⟨w',z⟩:=I.cell x c hc
   refine wpAny_storeName_cell I.ok.kind hk hc z (λh' hc' hs=>?_)
   obtain⟨oc,hoc,afN⟩:=id z
   refine h { s with heap:=h' } ⟨I.ok,I.os,I.bare,⟨λb o e n hb hx=>?_,λb o e n hb hx=>?_,I.base.free,λb o e hx=>?_,I.base.tups,I.base.t9,I.base.xK⟩,⟨m,hn.sameBut hs (cO (J_ x c hc)),λj y v' e1 e2 e3=>?_⟩,λy c' e=>?_,I.free,I.oB,λp hp=>?_,tracked ⟨oc,hoc,I.oB x c hc⟩ hs,by simpa using I.len⟩ ⟨c,hs,.inr hc⟩
   . exact(hs.2 b (fY (lN (cu e) (I.ok.gQ x c hfn hc)))).trans (I.base.keep b o e n hb hx)
   . obtain⟨sl,e1⟩:=I.base.slot b o e n hb hx
     exact⟨sl,(hs.2 b (fY (lN (cu e) (I.ok.gQ x c hfn hc)))).trans e1⟩
   . obtain⟨o',e1⟩:=I.base.there b o e hx
     exact⟨o',(hs.2 b (fY (lN (cu e) (I.ok.gQ x c hfn hc)))).trans e1⟩
   . by_cases hj:j=i
     . subst hj
       rw[hi]at e1;cases e1
       rw[h_ hiσ]at e2
       cases e2
       exact⟨u,r,.inr ⟨.inl hk,c,hc,hc'⟩⟩
     . rw[xJ (cO hj)]at e2
       obtain⟨u',r',q⟩:=hl j y v' e1 e2 e3
       refine⟨u',r',?_⟩
       rcases q with q|⟨k,c',e,z'⟩
       . exact .inl q
       . refine .inr ⟨k,c',e,z'.sameBut hs ?_⟩
         rintro rfl
         exact hj (Cp hN e1 (I.ok.inj _ _ _ e hc▸hi))
   . by_cases hcc:c'=c
     . subst hcc;exact⟨_,hc'⟩
     . obtain⟨w2,z2⟩:=I.cell y c' e
       exact⟨w2,z2.sameBut hs hcc⟩
   . obtain⟨e,n,ne,nf,d⟩:=I.pin p hp
     refine⟨(hs.2 p.1 ?_).trans e,n,ne,nf,d⟩
     intro q
     rw[q,hoc]at e
     have q':oc=p.2:=gH e
     exact d w' (by rw[<-q'];exact afN)
theorem yK{A:Around}{v:V}{Q:Unit->Shared->Prop}(I:Inv X pins σ H s)(hN:X.N.Nodup)(hi:X.N[i]?=some x)(hx:Loc X.env.scope x)(r:RelV v u)(h:∀s',Inv X pins (σ.set i (some v)) H s'->Q () s')(hf:X.fn x=true\/X.env.scope.names.lookup x=some .local:=by first|exact .inl rfl|exact .inr rfl|assumption):wpAny M A (storeName X.env x u) Q E s:=
 GS I hN hi hx r (λs' I' _=>h s' I') hf
theorem Inv.Wq{s':Shared}(I:Inv X pins σ H s)(ho:s'.os=s.os)(u:Un (frs X.stack) ch H H' s.heap s'.heap)(hok:jk X.prog X.w H' s'.heap)(hg:AllBare s'.gens)(hch:∀b∈ch,(b∈X.ex\/X.s₀.heap.objs.size<=b)/\b≠X.env.locals/\(∀x c,X.env.cells.lookup x=some c->c≠b)/\∀p∈X.pn++pins,p.1≠b):Inv X pins σ H' s':=by
 obtain⟨h',g',d',t',o'⟩:=s'
 have e:o'=s.os:=ho
 subst e
 exact I.call (g':=g') (t':=t') (d':=d') u hok hg hch
end
abbrev XK:=Value->Option Addr->Hp->Prop
abbrev St:=List (Option V)
abbrev VK:=V->Hp->Prop
abbrev TE:=St->Hp->VK->Prop
abbrev TT:=St->Hp->(Bool->Hp->Prop)->Prop
abbrev TA:=St->Hp->(List V->Hp->Prop)->Prop
structure Ends where
 nx:St->Hp->Prop
 rt:VK
 bk:St->Hp->Prop:=λ_ _=>False
 ct:St->Hp->Prop:=λ_ _=>False
abbrev TS:=Ends->St->Hp->Prop
def EP(X:Cx)(pins:AO)(σ:St)(Q:VK)(u:Value)(s':Shared):Prop:=∃v H',Inv X pins σ H' s'/\RelV v u/\Q v H'
def TP(X:Cx)(pins:AO)(σ:St)(Q:Bool->Hp->Prop)(b:Bool)(s':Shared):Prop:=∃H',Inv X pins σ H' s'/\Q b H'
def AP(X:Cx)(pins:AO)(σ:St)(Q:List V->Hp->Prop)(us:List Value)(s':Shared):Prop:=∃vs H',Inv X pins σ H' s'/\Vals vs us/\Q vs H'
def SP(X:Cx)(pins:AO)(D:Ends)(f:Flow)(s':Shared):Prop:=match f with
 | .next=>∃σ' H',Inv X pins σ' H' s'/\D.nx σ' H'
 | .brk=>∃σ' H',Inv X pins σ' H' s'/\D.bk σ' H'
 | .cont=>∃σ' H',Inv X pins σ' H' s'/\D.ct σ' H'
 | .ret u=>∃v σ' H',Inv X pins σ' H' s'/\RelV v u/\D.rt v H'
def PE(X:Cx)(e:Expr)(t:TE):Prop:=∀(pins:AO)(s:Shared)(σ:St)(H:Hp)(Q:VK),Inv X pins σ H s->t σ H Q->wpAny (model X.prog X.w) X.A (eval e X.env) (EP X pins σ Q) X.xe s
def PT(X:Cx)(e:Expr)(t:TT):Prop:=∀(pins:AO)(s:Shared)(σ:St)(H:Hp)(Q:Bool->Hp->Prop),Inv X pins σ H s->t σ H Q->wpAny (model X.prog X.w) X.A (isTrue e X.env (eval e X.env)) (TP X pins σ Q) X.xe s
def PW(X:Cx)(e:Expr)(t:TT):Prop:=∀(whole:Sem Value)(pins:AO)(s:Shared)(σ:St)(H:Hp)(Q:Bool->Hp->Prop),Inv X pins σ H s->t σ H Q->wpAny (model X.prog X.w) X.A (isTrue e X.env whole) (TP X pins σ Q) X.xe s
variable {X:Cx}{e:Expr}
theorem PW.pt{t:TT}(h:PW X e t):PT X e t:=h _
def PA(X:Cx)(es:List Expr)(t:TA):Prop:=∀(pos:Pos)(pins:AO)(s:Shared)(σ:St)(H:Hp)(Q:List V->Hp->Prop),Inv X pins σ H s->t σ H Q->wpAny (model X.prog X.w) X.A (spliced (backTo pos (starEach es X.env))) (AP X pins σ Q) X.xe s
def PS(X:Cx)(st:Stmt)(t:TS):Prop:=∀(pins:AO)(s:Shared)(σ:St)(H:Hp)(D:Ends),Inv X pins σ H s->t D σ H->wpAny (model X.prog X.w) X.A (exec st X.env) (SP X pins D) X.xe s
def wY(X:Cx)(st:List Stmt)(t:TS):Prop:=∀(pins:AO)(s:Shared)(σ:St)(H:Hp)(D:Ends),Inv X pins σ H s->t D σ H->wpAny (model X.prog X.w) X.A (execs st X.env) (SP X pins D) X.xe s
variable {s:Shared}
theorem bM{α:Type}{t:Sem α}{Q Q':α->Shared->Prop}{A:Around}(h:wpAny M A t Q E s)(hQ:∀a s,Q a s->Q' a s):wpAny M A t Q' E s:=jJ h hQ λ_ _ x=>x
variable {pos:Pos}{pins:AO}{σ:St}
section
variable {X:Cx}
inductive Fp(i:Nat)(σ:St)(H:Hp)(Q:VK):Prop
 |mk(v:_)(_:σ[i]?=some (some v))(_:Q v H)
def tC(v:V):TE:=λ_ H Q=>Q v H
theorem Zb(hN:X.N[i]?=some x)(hv:Wm X.env.scope x)(hd:(x==("__debug__":Str))=false:=by decide)(hcd:(x==("__classdict__":Str))=false:=by decide):PE X (.Name x pos) (Fp i):=by
 intro pins s σ H Q I h;obtain⟨v,e,h⟩:=h;obtain⟨m,hn,hl⟩:=I.loc;obtain⟨u,r,l⟩:=hl i x v hN e hv;have fin:EP X pins σ Q u s:=⟨v,H,I,r,h⟩
 rcases l with⟨hk,hm⟩|⟨hk,c,hc,hcell⟩
 .exact wpAny_Name (wpAny_loadName_local I.ok.kind hk hn hm fin) hd
 .rcases hk with hk|hk
  .exact wpAny_Name (wpAny_loadName_cell I.ok.kind hk hc hcell fin) hd
  .exact wpAny_Name (wpAny_loadName_free I.ok.kind hk hc hcell fin hcd) hd
def Gl(X:Cx)(x:Str):Prop:=X.env.kindOf x=some .globalImplicit
theorem Bk{Q:VS}(I:Inv X pins σ H s)(hg:Gl X x)(hm:X.mg x=some u)(h:Q u s)(hd:(x==("__debug__":Str))=false:=by decide):wpAny (model X.prog X.w) X.A (eval (.Name x pos) X.env) Q E s:=
 Calls.Name_function_global I.ok.kind hg (Calls.loadGlobal_global (by rw[I.ok.glob];exact I.mod.glob.keeps I.bk) hm h) hd
theorem ve{Q:VS}(I:Inv X pins σ H s)(hg:Gl X x)(hm:X.mg x=none)(hv:bootBuiltins x=some u)(h:Q u s)(hn:x ≠ "__name__":=by decide)(hd:(x==("__debug__":Str))=false:=by decide):wpAny (model X.prog X.w) X.A (eval (.Name x pos) X.env) Q E s:=by
 obtain⟨mb,h1,h2⟩:=I.mod.blt
 exact Calls.Name_function_global I.ok.kind hg (Calls.loadGlobal_builtin (by rw[I.ok.glob];exact I.mod.glob.keeps I.bk) hm (by rw[I.ok.blt];exact h1.keeps I.bk) ((h2 x hn).trans hv) h) hd
theorem Xo{v:V}(hg:Gl X x)(hm:X.mg x=none)(hv:bootBuiltins x=some u)(r:RelV v u)(hn:x ≠ "__name__":=by decide)(hd:(x==("__debug__":Str))=false:=by decide):PE X (.Name x pos) (tC v):=λ_ _ _ H _ I h=>ve I hg hm hv ⟨v,H,I,r,h⟩ hn hd
variable {a b:Expr}{ta tb:TE}{pos:Pos}
def PC(X:Cx)(op:CmpOp)(a b:Expr)(t:TE):Prop:=∀(pins:AO)(s:Shared)(σ:St)(H:Hp)(Q:VK),Inv X pins σ H s->t σ H Q->wpAny (model X.prog X.w) X.A (eval a X.env) (λv s₁=>wpAny (model X.prog X.w) X.A (eval b X.env) (λu s₂=>wpAny (model X.prog X.w) X.A (compareOp op v u) (EP X pins σ Q) X.xe s₂) X.xe s₁) X.xe s
inductive yTB(Q:Bool->Hp->Prop)(x:V)(H1:Hp):Prop
 |mk(c:_)(_:x =.bl c)(_:Q c H1)
def tB(t:TE):TT:=λσ H Q=>t σ H (yTB Q)
variable {tA Wr:TT}{rest:List Expr}
def acv(u:TT)(σ:St)(Q:Bool->Hp->Prop):Bool->Hp->Prop:=λc H1=>if c=true then u σ H1 Q else Q false H1
def afO(t u:TT):TT:=λσ H Q=>t σ H (acv u σ Q)
def afP(u:TT)(σ:St)(Q:Bool->Hp->Prop):Bool->Hp->Prop:=λc H1=>if c=true then Q true H1 else u σ H1 Q
def tOr(t u:TT):TT:=λσ H Q=>t σ H (afP u σ Q)
abbrev acw(Q:Bool->Hp->Prop):Bool->Hp->Prop:=λc H1=>Q (!c) H1
def afQ(t:TT):TT:=λσ H Q=>t σ H (acw Q)
inductive Zc(tb:TE)(σ:St)(Q:VK)(x:V)(H1:Hp):Prop
 |mk(c:_)(_:x =.bl c)(_:if c=true then tb σ H1 Q else Q (.bl false) H1)
def acy(ta tb:TE):TE:=λσ H Q=>ta σ H (Zc tb σ Q)
inductive Zd(Q:VK)(x:V)(H1:Hp):Prop
 |mk(c:_)(_:x =.bl c)(_:Q (.bl (!c)) H1)
def acz(ta:TE):TE:=λσ H Q=>ta σ H (Zd Q)
end
def aD(K:Fg)(H:Hp)(a:Addr)(xs:List V):Prop:=Rd H a (.lst xs)\/
  ∃(o:Obj)(its:Array Value)(n:Nat),K.lookup a=some o/\o.cls =.type "list"/\o.dict=none/\o.data =.seq its n/\its.size<=sizeLine/\Vals xs its.toList
def dU(K:Fg)(H:Hp)(a:Addr)(xs:List V):Prop:=Rd H a (.tup xs)\/
  ∃(o:Obj)(its:Array Value)(n:Nat),K.lookup a=some o/\o.cls =.type "tuple"/\o.data =.seq its n/\its.size<=sizeLine/\Vals xs its.toList
def afR:Value->Option V
 | .none=>some .cy
 | .bool b=>some (.bl b)
 | .int i _=>some (.int i)
 | .str x _=>some (.str x)
 | .bytes b _=>some (.zK b)
 | .float b _=>some (.J5 b)
 | .ref a=>some (.ref a)
 | .type n=>some (.ty n)
 | _=>none
theorem RelV.abs{x:V}(r:RelV x u):afR u=some x:=by
 cases x with
 | cy=>cases r;rfl
 | bl _=>cases r;rfl
 | int _=>obtain⟨t,rfl⟩:=r;rfl
 | str _=>obtain⟨t,rfl⟩:=r;rfl
 | zK _=>obtain⟨t,rfl⟩:=r;rfl
 | J5 _=>obtain⟨t,rfl⟩:=r;rfl
 | ref _=>cases r;rfl
 | ty _=>cases r;rfl
variable {y:V}
theorem RelV.inj{x:V}(r:RelV x u)(q:RelV y u):x=y:=gH (r.abs.symm.trans q.abs)
theorem Vals.inj:∀{xs ys:List V}{us:List Value},Vals xs us->Vals ys us->xs=ys
 | _,_,_,.nil,.nil=>rfl
 | _,_,_,.cons r t,.cons r' t'=>by rw[r.inj r',Vals.inj t t']
variable {K:Fg}
section
variable {X:Cx}{pins:AO}{σ:St}{H:Hp}{s:Shared}{a:Addr}{xs ys:List V}
theorem aD.of(h:H a=some (.lst xs)):aD K H a xs:=.inl (.inl h)
theorem dU.of(h:H a=some (.tup xs)):dU K H a xs:=.inl (.inl h)
theorem Inv.list(I:Inv X pins σ H s)(h:aD X.K H a xs):∃its:List Value,Vals xs its/\PlainL s.heap a its.toArray/\xs.length<=sizeLine:=by
 rcases h with h|⟨o,its,n,hk,hc,hd,hs,hz,r⟩
 .obtain ⟨z,its,n,r,e⟩:=h.ok I.hok;exact⟨its,r,⟨_,n,e,Z,Z,Z⟩,z⟩
 .refine ⟨its.toList,r,⟨o,n,I.kK a o hk,hc,hd,by simpa using hs⟩,?_⟩;have e:=r.length;simp only[Array.length_toList]at e;omega
theorem Inv.tuple(I:Inv X pins σ H s)(h:dU X.K H a xs):∃its:List Value,Vals xs its/\IsTup s.heap a its.toArray/\xs.length<=sizeLine:=by
 rcases h with h|⟨o,its,n,hk,hc,hs,hz,r⟩
 .obtain ⟨z,its,r,p⟩:=h.ok I.hok;exact⟨its,r,p,z⟩
 .refine ⟨its.toList,r,⟨o,I.kK a o hk,hc,n,by simpa using hs⟩,?_⟩;have e:=r.length;simp only[Array.length_toList]at e;omega
theorem Inv.UO(I:Inv X pins σ H s)(h:aD X.K H a xs)(h':aD X.K H a ys):xs=ys:=by
 obtain⟨its,r,⟨o,n,e,_,_,d⟩,_⟩:=I.list h;obtain⟨its',r',⟨o',n',e',_,_,d'⟩,_⟩:=I.list h';rw[e]at e';cases e';rw[d]at d';injection d' with d1 _;have:its=its':=by simpa using iZ Array.toList d1
 subst this;exact r.inj r'
end
abbrev Cx.xM(X:Cx)(E:VS):Cx:={ X with xe:=E }
abbrev Cx.BX(X:Cx):Cx:=X.xM λ_ _=>False
theorem Cx.Ok.xM(ok:X.Ok)(E:VS):(X.xM E).Ok:=⟨ok.mod,ok.kind,ok.glob,ok.blt,ok.above,ok.inj,ok.has,ok.gQ,ok.hd,ok.frames,ok.stk,ok.OI,ok.bs,ok.GR,ok.J8,ok.Fo,ok.t_,ok.J9⟩
theorem Cx.Ok.tG(ok:(X.xM E).Ok):X.Ok:=⟨ok.mod,ok.kind,ok.glob,ok.blt,ok.above,ok.inj,ok.has,ok.gQ,ok.hd,ok.frames,ok.stk,ok.OI,ok.bs,ok.GR,ok.J8,ok.Fo,ok.t_,ok.J9⟩
variable {D:Ends}
section
variable {X:Cx}{pins:AO}{σ:St}{H:Hp}{s:Shared}{E:VS}
theorem Inv.xM(I:Inv X pins σ H s)(E:VS):Inv (X.xM E) pins σ H s:=⟨I.ok.xM E,I.os,I.bare,I.base,I.loc,I.cell,I.free,I.oB,I.pin,I.hok,I.len⟩
theorem Inv.tG(I:Inv (X.xM E) pins σ H s):Inv X pins σ H s:=⟨I.ok.tG,I.os,I.bare,I.base,I.loc,I.cell,I.free,I.oB,I.pin,I.hok,I.len⟩
theorem SP.tG{f:Flow}(h:SP (X.xM E) pins D f s'):SP X pins D f s':=by
 cases f with
 | next=>obtain⟨σ',H',I,q⟩:=h;exact⟨σ',H',I.tG,q⟩
 | brk=>obtain⟨σ',H',I,q⟩:=h;exact⟨σ',H',I.tG,q⟩
 | cont=>obtain⟨σ',H',I,q⟩:=h;exact⟨σ',H',I.tG,q⟩
 | ret u=>obtain⟨v,σ',H',I,r,q⟩:=h;exact⟨v,σ',H',I.tG,r,q⟩
theorem wY.BX{st:List Stmt}{t:TS}(h:wY X.BX st t):wY X st t:=λpins s σ H D I hw=>
 jJ (h pins s σ H D (I.xM _) hw) (λ_ _ q=>q.tG) λ_ _ z=>False.elim z
end
variable {tc:TT}
section
variable {X:Cx}{st:Stmt}{rest:List Stmt}{t u:TS}{e:Expr}{te:TE}{pos:Pos}
def acA:TS:=λD σ H=>D.nx σ H
def Ends.sq(D:Ends)(u:TS):Ends:={ D with nx:=u D }
def Ends.lp(D:Ends)(N:St->Hp->Prop):Ends:={ D with nx:=N,ct:=N,bk:=D.nx }
def vf(t u:TS):TS:=λD σ H=>t (D.sq u) σ H
theorem Inv.quiet(I:Inv X pins σ H s):interactive X.env=false:=by simp[interactive,I.ok.kind]
def Ze(D:Ends)(σ:St):V->Hp->Prop:=λ_ H1=>D.nx σ H1
def acB(te:TE):TS:=λD σ H=>te σ H (Ze D σ)
def afS(te:TE):TS:=λD σ H=>te σ H D.rt
def acC:TS:=λD _ H=>D.rt .cy H
def acD(t:TS)(u:TS)(D:Ends)(σ:St):Bool->Hp->Prop:=λb H1=>if b=true then t D σ H1 else u D σ H1
def Zf(c:TT)(t u:TS):TS:=λD σ H=>c σ H (acD t u D σ)
theorem Ws{c:Expr}{a b:List Stmt}(hc:PT X c tc)(ha:wY X a t)(hb:wY X b u):PS X (.If c a b pos) (Zf tc t u):=by
 intro pins s σ H D I h;refine wpAny_If (bM (hc pins s σ H _ I h) λd s1 ⟨H1,I1,q1⟩=>?_);cases d with
 | true=>exact ha pins s1 σ H1 D I1 q1
 | false=>exact hb pins s1 σ H1 D I1 q1
def Zg:TS:=λ_ _ _=>False
end
abbrev TG:=V->St->Hp->(St->Hp->Prop)->Prop
abbrev Dq:=List V->St->Hp->(St->Hp->Prop)->Prop
def PG(X:Cx)(target:Expr)(t:TG):Prop:=∀(pins:AO)(s:Shared)(σ:St)(H:Hp)(v:V)(u:Value)(Q:St->Hp->Prop),Inv X pins σ H s->RelV v u->t v σ H Q->wpAny (model X.prog X.w) X.A (assign target X.env u) (λ_ s'=>∃σ' H',Inv X pins σ' H' s'/\Q σ' H') X.xe s
def PGs(X:Cx)(ts:List Expr)(t:Dq):Prop:=∀(pins:AO)(s:Shared)(σ:St)(H:Hp)(vs:List V)(us:List Value)(Q:St->Hp->Prop),Inv X pins σ H s->Vals vs us->t vs σ H Q->wpAny (model X.prog X.w) X.A (assignInOrder ((assignEach ts X.env).map (·.2)) us) (λ_ s'=>∃σ' H',Inv X pins σ' H' s'/\Q σ' H') X.xe s
abbrev ua:=V->V->V->Hp->(Hp->Prop)->Prop
def UP(X:Cx)(t:ua):Prop:=∀(pins:AO)(s:Shared)(σ:St)(H:Hp)(o i v:V)(ov iv u:Value)(Q:Hp->Prop),Inv X pins σ H s->RelV o ov->RelV i iv->RelV v u->t o i v H Q->wpAny (model X.prog X.w) X.A (setItem ov iv u) (λ_ s'=>∃H',Inv X pins σ H' s'/\Q H') X.xe s
abbrev Kc:=V->V->Hp->VK->Prop
def Zh(X:Cx)(op:Operator)(t:Kc):Prop:=∀(pins:AO)(s:Shared)(σ:St)(H:Hp)(x y:V)(v u:Value)(Q:VK),Inv X pins σ H s->RelV x v->RelV y u->t x y H Q->wpAny (model X.prog X.w) X.A (inplaceOp op v u) (EP X pins σ Q) X.xe s
variable {n:Nat}
section
variable {X:Cx}{pos:Pos}
def lU(i:Nat):TG:=λv σ H Q=>Q (σ.set i (some v)) H
inductive Zi(vs:List V)(σ:St)(H:Hp)(Q:St->Hp->Prop):Prop
 |mk(_:vs=[])(_:Q σ H)
def Zj(u:Dq)(Q:St->Hp->Prop)(r:List V):St->Hp->Prop:=λσ' H'=>u r σ' H' Q
inductive Wt(t:TG)(u:Dq)(vs:List V)(σ:St)(H:Hp)(Q:St->Hp->Prop):Prop
 |mk(v r:_)(_:vs=v::r)(_:t v σ H (Zj u Q r))
inductive Cq(K:Fg)(n:Nat)(t:Dq)(v:V)(σ:St)(H:Hp)(Q:St->Hp->Prop):Prop
 |mk(a xs:_)(_:v =.ref a)(_:dU K H a xs)(_:xs.length=n)(_:t xs σ H Q)
theorem Zk{es:List Expr}{k:Nat}{t:Dq}(hc:X.calm=true)(h:PGs X es t)(hn:(assignEach es X.env).length=n:=by rfl)(hst:(assignEach es X.env).findIdx? (·.1)=none:=by rfl):PG X (.Tuple es k pos) (Cq X.K n t):=by
 intro pins s σ H v u Q I r hw
 obtain⟨a,xs,e1,hq,hl,hw⟩:=hw
 subst e1
 cases r
 obtain⟨its,rv,ht,hz⟩:=I.tuple hq
 refine assign_Tuple_tuple (I.ok.hd hc) ht (by simp[hn,<-hl,rv.length]) hst λh' hx=>?_
 have I1:Inv X pins σ H { s with heap:=h' }:=I.kept (t':=s.toks) λb o e=>hx b o (fY (cu e)) e
 exact h pins _ σ H xs _ Q I1 (by simpa using rv) hw
def Xp(σ:St)(Q:St->Hp->Prop):Hp->Prop:=λH3=>Q σ H3
def Xq(t:ua)(v:V)(σ:St)(Q:St->Hp->Prop)(o:V):V->Hp->Prop:=λi H2=>t o i v H2 (Xp σ Q)
def acE(ti:TE)(t:ua)(v:V)(σ:St)(Q:St->Hp->Prop):V->Hp->Prop:=λo H1=>ti σ H1 (Xq t v σ Q o)
def afT(to ti:TE)(t:ua):TG:=λv σ H Q=>to σ H (acE ti t v σ Q)
def acF(g:TG)(D:Ends)(σ:St):V->Hp->Prop:=λx H1=>g x σ H1 D.nx
def UQ(te:TE)(g:TG):TS:=λD σ H=>te σ H (acF g D σ)
inductive acG(i:Nat)(j:Nat)(D:Ends)(σ:St)(vs:List V)(H1:Hp):Prop
 |mk(v w:_)(_:vs=[v,w])(_:D.nx ((σ.set i (some v)).set j (some w)) H1)
def afU(i j:Nat)(ta:TA):TS:=λD σ H=>ta σ H (acG i j D σ)
def UR(D:Ends)(σ:St):Hp->Prop:=λH6=>D.nx σ H6
def US(p_:ua)(D:Ends)(σ:St)(o:V)(i:V):V->Hp->Prop:=λz H5=>p_ o i z H5 (UR D σ)
def UT(zL:Kc)(p_:ua)(D:Ends)(σ:St)(o:V)(i:V)(x:V):V->Hp->Prop:=λy H4=>zL x y H4 (US p_ D σ o i)
def UU(te:TE)(zL:Kc)(p_:ua)(D:Ends)(σ:St)(o:V)(i:V):V->Hp->Prop:=λx H3=>te σ H3 (UT zL p_ D σ o i x)
def UW(te:TE)(z7:V->V->Hp->VK->Prop)(zL:Kc)(p_:ua)(D:Ends)(σ:St)(o:V):V->Hp->Prop:=λi H2=>z7 o i H2 (UU te zL p_ D σ o i)
def Zl(ti:TE)(te:TE)(z7:V->V->Hp->VK->Prop)(zL:Kc)(p_:ua)(D:Ends)(σ:St):V->Hp->Prop:=λo H1=>ti σ H1 (UW te z7 zL p_ D σ o)
def acH(to ti te:TE)(z7:V->V->Hp->VK->Prop)(zL:Kc)(p_:ua):TS:=λD σ H=>to σ H (Zl ti te z7 zL p_ D σ)
def Zm(X:Cx)(t:V->V->Hp->VK->Prop):Prop:=∀(pins:AO)(s:Shared)(σ:St)(H:Hp)(o i:V)(ov iv:Value)(Q:VK),Inv X pins σ H s->RelV o ov->RelV i iv->t o i H Q->wpAny (model X.prog X.w) X.A (getItem ov iv) (EP X pins σ Q) X.xe s
inductive ipI(f:Int->Int->Int)(x:V)(y:V)(H:Hp)(Q:VK):Prop
 |mk(i j:_)(_:x =.int i)(_:y =.int j)(_:Q (.int (f i j)) H)
theorem Zn:Zh X .Add (ipI λi j=>i+j):=by intro pins s σ H x y v u Q I r1 r2 h;obtain⟨i,j,e1,e2,q⟩:=h;subst e1;subst e2;obtain⟨t,rfl⟩:=r1;obtain⟨t',rfl⟩:=r2;exact iadd_int ⟨.int _,H,I.tok _,⟨_,Z⟩,q⟩
theorem Zo:Zh X .Sub (ipI λi j=>i-j):=by intro pins s σ H x y v u Q I r1 r2 h;obtain⟨i,j,e1,e2,q⟩:=h;subst e1;subst e2;obtain⟨t,rfl⟩:=r1;obtain⟨t',rfl⟩:=r2;exact isub_int ⟨.int _,H,I.tok _,⟨_,Z⟩,q⟩
end
section
variable {X:Cx}{pos:Pos}
def Zp(c:TT)(tb:TS):TS:=λD σ H=>∃W:Nat->St->Hp->Prop,(∃m,W m σ H)/\∀m σ H,W m σ H->c σ H λb H1=>if b=true then ∃N:St->Hp->Prop,(∀σ' H',N σ' H'->∃m',m'<m/\W m' σ' H')/\tb { D with nx:=N,ct:=N,bk:=D.nx } σ H1 else D.nx σ H1
end
structure It where
 go:Nat->Hp->Prop
 Dr:Nat->Hp->V->Hp->Prop
 stop:Nat->Hp->Prop
def qa(X:Cx)(pins:AO)(H:Hp)(b:Addr):Prop:=H b=none/\b≠X.env.locals/\b∉X.fs/\(b∈X.ex\/X.s₀.heap.objs.size<=b)/\(∀x c,X.env.cells.lookup x=some c->c≠b)/\∀p∈X.pn++pins,p.1≠b
variable {H':Hp}
theorem Inv.Cr{b:Addr}(I:Inv X pins σ H s)(hb:s.heap.objs.size<=b)(hn:H' b=none):qa X pins H' b:=by
 refine⟨hn,Bg (lN I.lt hb),I.afM hb,.inr (fZ I.sz hb),λx c e z=>?_,λp hp z=>?_⟩
 .obtain ⟨v,q⟩:=I.cell x c e;exact absurd (lN q.lt (by rw[z];exact hb)) (j_ _)
 .exact absurd (lN (cu (I.pin p hp).1) (by rw[z];exact hb)) (j_ _)
structure Turn(P:Program)(w:World)(K:Fg)(tg:Expr)(J:It)(fp:List Addr)(it:Addr)(tn:Nat->Heap->Prop):Prop where
 mem:it∈fp
 obj:∀i h,tn i h->∀b∈fp,∃o,h.get? b=some o/\∀v,o.data ≠ .cell v
 keep:∀i h h',tn i h->(∀b∈fp,∀o,h.get? b=some o->h'.get? b=some o)->tn i h'
 item:∀(X:Cx),X.prog=P->X.w=w->X.K=K->X.calm=true->∀(i:Nat)(pins:AO)(s:Shared)(σ:St)(H:Hp)(E:VS),Inv X pins σ H s->(∀b∈fp,qa X pins H b)->tn i s.heap->J.go i H->
  wpAny (model P w) X.A (pyNext (.ref it)) (λr s1=>∃u,r=some u/\
   wpAny (model P w) X.A (letOwnedTupleGo tg (.ref it) u) (λ_ s2=>∃x H',Inv X pins σ H' s2/\RelV x u/\J.Dr i H x H'/\tn (i+1) s2.heap/\∀b∈fp,H' b=none) E s1) E s
 done:∀(X:Cx),X.prog=P->X.w=w->X.K=K->X.calm=true->∀(i:Nat)(pins:AO)(s:Shared)(σ:St)(H:Hp)(E:VS),Inv X pins σ H s->(∀b∈fp,qa X pins H b)->tn i s.heap->J.stop i H->
  wpAny (model P w) X.A (pyNext (.ref it)) (λr s1=>r=none/\Inv X pins σ H s1) E s
 self:∀(A:Around)(i:Nat)(s:Shared)(Q:VS)(E:VS),tn i s.heap->Q (.ref it) s->wpAny (model P w) A (pyIter (.ref it)) Q E s
abbrev TI:=St->Hp->(It->Hp->Prop)->Prop
def PIE(X:Cx)(pins:AO)(σ:St)(tg:Expr)(R:It->Hp->Prop)(itv:Value)(s2:Shared):Prop:=∃(it:Addr)(fp:List Addr)(tn:Nat->Heap->Prop)(J:It)(H':Hp),itv =.ref it/\Inv X pins σ H' s2/\Turn X.prog X.w X.K tg J fp it tn/\tn 0 s2.heap/\(∀b∈fp,qa X pins H' b)/\R J H'
def PI(X:Cx)(tg iter:Expr)(wi:TI):Prop:=∀(pins:AO)(s:Shared)(σ:St)(H:Hp)(R:It->Hp->Prop),Inv X pins σ H s->wi σ H R->wpAny (model X.prog X.w) X.A (eval iter X.env) (λv s1=>wpAny (model X.prog X.w) X.A (pyIter v) (PIE X pins σ tg R) X.xe s1) X.xe s
variable {tg:Expr}
theorem Bl{A:Around}{o:Obj}{n:String}{vs:Array Value}{Q:Unit->Shared->Prop}(ho:s.heap.get? it=some o)(hc:o.cls =.type n)(hd:o.data =.fields vs)(hn:["enumerate","zip","dict_itemiterator","dict_reverseitemiterator","odict_iterator","itertools.zip_longest","itertools.pairwise"].contains n=false)(hQ:Q () s):wpAny M A (letOwnedTupleGo tg (.ref it) u) Q E s:=by
 unfold letOwnedTupleGo
 cases tg <;> first
  | exact bu hQ
  | (cases u <;> first
      | exact bu hQ
      | (refine aA (wpAny_load ho ?_)
         rw[hc,hd]
         show wpAny M A (if(["enumerate","zip","dict_itemiterator","dict_reverseitemiterator","odict_iterator","itertools.zip_longest","itertools.pairwise"].contains n && vs[0]?==some (rawInt _))=true then _ else _) Q E s
         rw[av (by intro h;rw[hn,Bool.false_and]at h;cases h)]
         exact bu hQ))
def uK(K:Fg)(a:Addr):It:=⟨λi H=>∃xs x,aD K H a xs/\xs[i]?=some x,λi H x H'=>H'=H/\∀xs,aD K H a xs->xs[i]?=some x,λi H=>∃xs,aD K H a xs/\xs.length<=i⟩
def OM(lo:Int)(n:Nat):It:=⟨λi _=>i<n,λi H x H'=>H'=H/\x =.int (lo+i),λi _=>n<=i⟩
theorem RJ(a it:Addr):Turn P w K tg (uK K a) [it] it (λi h=>h.IsListIter it a i) where
 mem:=by simp
 obj:=λi h st b hb=>by
  have e:b=it:=by simpa using hb
  subst e;obtain⟨o,e,c,d⟩:=st;exact⟨o,e,λv z=>by rw[d]at z;cases z⟩
 keep:=λi h h' st k=>st.at λo e=>k it (by simp) o e
 item:=by intro X hP hw hK hc i pins s σ H E I hf st hg;subst hP hw hK;obtain⟨xs,x,hq,hx⟩:=hg;obtain⟨its,rv,p,hz⟩:=I.list hq;obtain⟨u,hu,ru⟩:=rv.get hx;obtain⟨f0,f1,f2,f3,f4,f5⟩:=hf it (by simp);refine wpAny_pyNext_list_item st p.isList (x:=u) (by simpa using hu) λh' st' sb=>?_;have I1:Inv X pins σ H { s with heap:=h' }:=I.turned (t':=s.toks) (λb o hb e=>(sb.2 b hb).trans e) f0 f1 f3 f4 f5;obtain⟨o,e,c,d⟩:=id st';exact⟨u,Z,Bl (s:={ s with heap:=h' }) e c d (by decide) ⟨x,H,I1,ru,⟨Z,λys hy=>by rw[I.UO hy hq];exact hx⟩,st',λb hb=>(hf b hb).1⟩⟩
 done:=by intro X hP hw hK hc i pins s σ H E I hf st hg;subst hP hw hK;obtain⟨xs,hq,hx⟩:=hg;obtain⟨its,rv,p,hz⟩:=I.list hq;obtain⟨f0,f1,f2,f3,f4,f5⟩:=hf it (by simp);have hl:=rv.length;exact wpAny_pyNext_list_end (I.ok.hd hc) st p.isList (by simp;omega) λh' eb=>⟨Z,I.turned (t':=s.toks) (λb o hb e=>eb b o hb e) f0 f1 f3 f4 f5⟩
 self:=λ_ _ _ _ _ st h=>wpAny_pyIter_listiter st h
theorem Qw(it:Addr)(lo:Int)(n:Nat):Turn P w K tg (OM lo n) [it] it (λi h=>IsRangeIter h it (lo+(i:Nat)*1) ((n:Int)-(i:Nat)) 1) where
 mem:=by simp
 obj:=λi h st b hb=>by
  have e:b=it:=by simpa using hb
  subst e;exact⟨_,st,λv z=>by have z':Data.fields _=Data.cell v:=z;cases z'⟩
 keep:=λi h h' st k=>k it (by simp) _ st
 item:=by intro X hP hw hK hc i pins s σ H E I hf st hg;subst hP hw hK;obtain⟨f0,f1,f2,f3,f4,f5⟩:=hf it (by simp);have W:=Walks.range (prog:=X.prog) (w:=X.w) (I.ok.hd hc) it lo 1 n;refine W.item i s _ _ hg st λv h' tk hv st' kk=>?_;obtain⟨t,rfl⟩:=hv;have I1:Inv X pins σ H { s with heap:=h',toks:=tk }:=I.turned (λb o hb e=>kk b o (by simpa using hb) e) f0 f1 f3 f4 f5;refine⟨_,Z,Bl (s:={ s with heap:=h',toks:=tk }) (n:="range_iterator") st' rfl rfl (by decide) ⟨.int (lo+i),H,I1,⟨t,?_⟩,⟨Z,Z⟩,st',λb hb=>(hf b hb).1⟩⟩;rw[ou]
 done:=by intro X hP hw hK hc i pins s σ H E I hf st hg;subst hP hw hK;obtain⟨f0,f1,f2,f3,f4,f5⟩:=hf it (by simp);exact wpAny_pyNext_range_end (I.ok.hd hc) st (by have:n<=i:=hg;omega) λh' eb=>⟨Z,I.turned (t':=s.toks) (λb o hb e=>eb b o hb e) f0 f1 f3 f4 f5⟩
 self:=λ_ _ _ _ _ st h=>wpAny_pyIter_rangeiter st h
variable {tl:TE}{fp:List Addr}
section
variable {X:Cx}{tg:Expr}
inductive Zq(K:Fg)(R:It->Hp->Prop)(x:V)(H1:Hp):Prop
 |mk(a:_)(_:x =.ref a)(_:(∃xs,aD K H1 a xs))(_:R (uK K a:_) H1)
def Wu(K:Fg)(tl:TE):TI:=λσ H R=>tl σ H (Zq K R)
theorem Xr{l:Expr}(hl:PE X l tl):PI X tg l (Wu X.K tl):=by
 intro pins s σ H R I h;refine bM (hl pins s σ H _ I h) λv s1 ⟨x,H1,I1,r1,q1⟩=>?_;obtain⟨a,e,⟨xs,hq⟩,q⟩:=q1;subst e;cases r1;obtain⟨its,rv,p,hz⟩:=I1.list hq;refine Qp p.isList ?_;refine⟨s1.heap.objs.size,[s1.heap.objs.size],_,_,H1,Z,I1.kept (t':=s1.toks) λb o e=>cV _ e,RJ a _,⟨_,fC _ rfl,Z,Z⟩,λb hb=>?_,q⟩;have e:b=s1.heap.objs.size:=by simpa using hb
 subst e;exact I1.Cr (aL _) (I1.hok.fresh (aL _))
theorem UX{R:It->Hp->Prop}{lo hi:Int}{t u v:Tok}{tk:Nat}(I:Inv X pins σ H s)(h1:-(2 ^ 62)<=lo)(h2:lo<2 ^ 62)(h3:-(2 ^ 62)<=hi)(h4:hi<2 ^ 62)(q:R (OM lo (hi-lo).toNat) H):wpAny (model X.prog X.w) X.A (pyIter (.ref s.heap.objs.size)) (PIE X pins σ tg R) E { s with heap:=s.heap.push { cls:=.type "range",data:=.fields #[.int lo t,.int hi u,.int 1 v] },toks:=tk }:=by
 refine wpAny_pyIter_range (IsRange.new ..) (small_one h1 h2 h3 h4) ?_
 have I1:Inv X pins σ H { s with heap:=s.heap.push { cls:=.type "range",data:=.fields #[.int lo t,.int hi u,.int 1 v] },toks:=tk }:=I.kept λb o e=>cV _ e
 refine⟨(s.heap.push { cls:=.type "range",data:=.fields #[.int lo t,.int hi u,.int 1 v] }).objs.size,[(s.heap.push { cls:=.type "range",data:=.fields #[.int lo t,.int hi u,.int 1 v] }).objs.size],_,_,H,Z,
  I1.kept (t':=tk) λb o e=>cV _ e,Qw _ lo (hi-lo).toNat,?_,λb hb=>?_,q⟩
 . have e1:lo+((0:Nat):Int)*1=lo:=by simp
   have e2:(((hi-lo).toNat:Nat):Int)-((0:Nat):Int)=Builtin.Range.rangeSize lo hi 1:=by rw[rangeSize_one];split <;> omega
   show IsRangeIter _ _ (lo+((0:Nat):Int)*1) ((((hi-lo).toNat:Nat):Int)-((0:Nat):Int)) 1
   rw[e1,e2]
   exact fC _ rfl
 . have e:b=(s.heap.push { cls:=.type "range",data:=.fields #[.int lo t,.int hi u,.int 1 v] }).objs.size:=by simpa using hb
   subst e
   exact I1.Cr (aL _) (I1.hok.fresh (aL _))
inductive Zr(R:It->Hp->Prop)(vs:List V)(H1:Hp):Prop
 |mk(j:Int)(_:vs=[.int j])(_:-(2 ^ 62)<=j)(_:j<2 ^ 62)(_:R (OM 0 j.toNat) H1)
def acI(ta:TA):TI:=λσ H R=>ta σ H (Zr R)
def JK(g:TG)(tb:TS)(D:Ends)(σ:St):It->Hp->Prop:=λJ H1=>∃W:Nat->Nat->St->Hp->Prop,(∃m,W 0 m σ H1)/\∀i m σ H,W i m σ H->(J.stop i H/\D.nx σ H)\/(J.go i H/\∃N:St->Hp->Prop,(∀σ' H',N σ' H'->∃m',m'<m/\W (i+1) m' σ' H')/\∀x H',J.Dr i H x H'->g x σ H' (tb (D.lp N)))
def afV(wi:TI)(g:TG)(tb:TS):TS:=λD σ H=>wi σ H (JK g tb D σ)
def Ds(fp:List Addr)(h:Heap):List (Addr×Obj):=fp.filterMap λb=>(h.get? b).map λo=>(b,o)
theorem jK{b:Addr}{o:Obj}(hb:b∈fp)(e:h.get? b=some o):(b,o)∈Ds fp h:=List.mem_filterMap.mpr ⟨b,hb,by rw[e];rfl⟩
theorem RK{p:Addr×Obj}(hp:p∈Ds fp h):p.1∈fp/\h.get? p.1=some p.2:=by
 obtain⟨b,hb,e⟩:=List.mem_filterMap.mp hp;cases q:h.get? b with
 | none=>rw[q]at e;cases e
 | some o=>rw[q]at e;have e':(b,o)=p:=gH e;subst e';exact⟨hb,q⟩
theorem Inv.pinned(I:Inv X pins σ H s)(hf:∀b∈fp,qa X pins H b)(ho:∀b∈fp,∃o,s.heap.get? b=some o/\∀v,o.data ≠ .cell v):Inv X (pins++Ds fp s.heap) σ H s:=I.OL λp hp=>(dI.mp hp).elim (λz=>I.pin p (jW _ z)) λz=>by obtain⟨hb,e⟩:=RK z;obtain⟨f0,f1,f2,_⟩:=hf p.1 hb;obtain⟨o,e',d⟩:=ho p.1 hb;rw[e]at e';cases e';exact⟨e,f0,f1,f2,d⟩
theorem Inv.rC{pl:AO}(I:Inv X (pins++pl) σ H s):Inv X pins σ H s:=I.OL λp hp=>I.pin p (jW _ (Ck _ hp))
end
variable {tb:TS}
theorem jY{g:TG}(Pv:Nat->St->Hp->Prop)(h0:Pv 0 σ H)(hl:∀i σ H,i<=xs.length->Pv i σ H->aD K H a xs)(hs:∀i x σ H,xs[i]?=some x->Pv i σ H->g x σ H (tb (D.lp (Pv (i+1)))))(hd:∀σ H,Pv xs.length σ H->D.nx σ H):
  JK g tb D σ (uK K a) H:=by
 refine⟨λi m σ H=>m=xs.length-i/\i<=xs.length/\Pv i σ H,⟨xs.length,by simp,iA _,h0⟩,?_⟩
 rintro i m σ H ⟨rfl,hi,p⟩
 have q:=hl i σ H hi p
 by_cases hlt:i<xs.length
 . refine .inr ⟨⟨xs,xs[i],q,by simp[hlt]⟩,Pv (i+1),λσ' H' p'=>⟨xs.length-(i+1),by omega,Z,hlt,p'⟩,λx H' y=>?_⟩
   obtain⟨e,y⟩:=y
   subst e
   exact hs i x σ _ (y xs q) p
 . have e:i=xs.length:=by omega
   subst e
   exact .inl ⟨⟨xs,q,aL _⟩,hd σ H p⟩
theorem i9{lo:Int}{g:TG}(Pv:Nat->St->Hp->Prop)(h0:Pv 0 σ H)(hs:∀i σ H,i<n->Pv i σ H->g (.int (lo+i)) σ H (tb (D.lp (Pv (i+1)))))(hd:∀σ H,Pv n σ H->D.nx σ H):
  JK g tb D σ (OM lo n) H:=by
 refine⟨λi m σ H=>m=n-i/\i<=n/\Pv i σ H,⟨n,by simp,iA _,h0⟩,?_⟩
 rintro i m σ H ⟨rfl,hi,p⟩
 by_cases hlt:i<n
 . refine .inr ⟨hlt,Pv (i+1),λσ' H' p'=>⟨n-(i+1),by omega,Z,hlt,p'⟩,λx H' y=>?_⟩
   obtain⟨e,y⟩:=y
   subst e y
   exact hs i σ _ hlt p
 . have e:i=n:=by omega
   subst e
   exact .inl ⟨aL _,hd σ H p⟩
abbrev R2:=V->V->Hp->VK->Prop
def j7(X:Cx)(f:Value->Value->Sem Value)(r:R2):Prop:=∀(pins:AO)(s:Shared)(σ:St)(H:Hp)(x y:V)(v u:Value)(Q:VK),Inv X pins σ H s->RelV x v->RelV y u->r x y H Q->wpAny (model X.prog X.w) X.A (f v u) (EP X pins σ Q) X.xe s
def Zs(X:Cx)(f:Value->Sem Value)(r:V->Hp->VK->Prop):Prop:=∀(pins:AO)(s:Shared)(σ:St)(H:Hp)(x:V)(v:Value)(Q:VK),Inv X pins σ H s->RelV x v->r x H Q->wpAny (model X.prog X.w) X.A (f v) (EP X pins σ Q) X.xe s
def iH(X:Cx)(f:Value)(r:List V->Hp->VK->Prop):Prop:=∀(pins:AO)(s:Shared)(σ:St)(H:Hp)(xs:List V)(us:List Value)(Q:VK),Inv X pins σ H s->Vals xs us->r xs H Q->wpAny (model X.prog X.w) X.A (call f us) (EP X pins σ Q) X.xe s
def Zt(r:R2)(Q:VK)(x:V):V->Hp->Prop:=λy H2=>r x y H2 Q
def afW(r:R2)(tb:TE)(σ:St)(Q:VK):V->Hp->Prop:=λx H1=>tb σ H1 (Zt r Q x)
def GU(r:R2)(ta tb:TE):TE:=λσ H Q=>ta σ H (afW r tb σ Q)
def afX(r:V->Hp->VK->Prop)(Q:VK):V->Hp->Prop:=λx H1=>r x H1 Q
def tUn(r:V->Hp->VK->Prop)(ta:TE):TE:=λσ H Q=>ta σ H (afX r Q)
inductive rI(C:Int->Int->Prop)(g:Int->Int->V)(x:V)(y:V)(H:Hp)(Q:VK):Prop
 |mk(i j:_)(_:x =.int i)(_:y =.int j)(_:C i j)(_:Q (g i j:_) H)
inductive BY(g:Int->Int->V)(x:V)(y:V)(H:Hp)(Q:VK):Prop
 |mk(i j:_)(_:x =.int i)(_:y =.int j)(_:Q (g i j:_) H)
inductive rU(g:Int->V)(x:V)(H:Hp)(Q:VK):Prop
 |mk(i:_)(_:x =.int i)(_:Q (g i:_) H)
section
variable {X:Cx}{a b c:Expr}{ta tb tc:TE}{pos:Pos}
theorem UY(ha:PE X a ta)(hb:PE X b tb){R:V->V->Hp->Prop}(I:Inv X pins σ H s)(h:ta σ H λx H1=>tb σ H1 λy H2=>R x y H2){Q:VS}{f:Value->Value->Sem Value}(hf:∀v u s2 x y H2,Inv X pins σ H2 s2->RelV x v->RelV y u->R x y H2->wpAny (model X.prog X.w) X.A (f v u) Q X.xe s2):
  wpAny (model X.prog X.w) X.A (eval a X.env) (λv s₁=>wpAny (model X.prog X.w) X.A (eval b X.env) (λu s₂=>wpAny (model X.prog X.w) X.A (f v u) Q X.xe s₂) X.xe s₁) X.xe s:=by
 refine bM (ha pins s σ H _ I h) λv s1 ⟨x,H1,I1,r1,q1⟩=>?_
 refine bM (hb pins s1 σ H1 _ I1 q1) λu s2 ⟨y,H2,I2,r2,q2⟩=>?_
 exact hf v u s2 x y H2 I2 r1 r2 q2
theorem RL{f:Value->Value->Sem Value}{C:Int->Int->Prop}{g:Int->Int->Int}(rule:∀(i j:Int) (t u:Tok) (s:Shared) (Q:VS) (E:VS),C i j->Q (.int (g i j) s.toks) { s with toks:=s.toks+1 }->wpAny (model X.prog X.w) X.A (f (.int i t) (.int j u)) Q E s):
  j7 X f (rI C λi j=> .int (g i j)):=by
 intro pins s σ H x y v u Q I rx ry h
 obtain⟨i,j,rfl,rfl,hc,q⟩:=h
 obtain⟨t,rfl⟩:=rx
 obtain⟨t',rfl⟩:=ry
 exact rule i j t t' s _ _ hc ⟨.int (g i j),H,I.tok _,⟨_,Z⟩,q⟩
theorem Zu{f:Value->Value->Sem Value}{g:Int->Int->Int}(rule:∀(i j:Int) (t u:Tok) (s:Shared) (Q:VS) (E:VS),Q (.int (g i j) s.toks) { s with toks:=s.toks+1 }->wpAny (model X.prog X.w) X.A (f (.int i t) (.int j u)) Q E s):
  j7 X f (BY λi j=> .int (g i j)):=by
 intro pins s σ H x y v u Q I rx ry h
 obtain⟨i,j,rfl,rfl,q⟩:=h
 obtain⟨t,rfl⟩:=rx
 obtain⟨t',rfl⟩:=ry
 exact rule i j t t' s _ _ ⟨.int (g i j),H,I.tok _,⟨_,Z⟩,q⟩
theorem Qx{f:Value->Value->Sem Value}{g:Int->Int->Bool}(rule:∀(i j:Int) (t u:Tok) (s:Shared) (Q:VS) (E:VS),Q (.bool (g i j)) s->wpAny (model X.prog X.w) X.A (f (.int i t) (.int j u)) Q E s):
  j7 X f (BY λi j=> .bl (g i j)):=by
 intro pins s σ H x y v u Q I rx ry h
 obtain⟨i,j,rfl,rfl,q⟩:=h
 obtain⟨t,rfl⟩:=rx
 obtain⟨t',rfl⟩:=ry
 exact rule i j t t' s _ _ ⟨.bl (g i j),H,I,Z,q⟩
def UZ(i j:Int):Prop:=0<=j/\j<=1000000/\i.natAbs<2 ^ 64
def Kd(i j:Int):Prop:=(-(2 ^ 64)<i/\i<2 ^ 64)\/(-(2 ^ 64)<j/\j<2 ^ 64)
theorem Kd.ok{i j:Int}(h:Kd i j):IntMulOk i j:=by
 rcases h with⟨h1,h2⟩|⟨h1,h2⟩
 .exact .of_left (intBits_le_64 h1 h2)
 .exact .of_right (intBits_le_64 h1 h2)
theorem cE:j7 X (binaryOp .Add) (BY λi j=> .int (i+j)):=Zu λ_ _ _ _ _ _ _ q=>add_int q
theorem jL:j7 X (binaryOp .Sub) (BY λi j=> .int (i-j)):=Zu λ_ _ _ _ _ _ _ q=>sub_int q
theorem gM:j7 X (binaryOp .Mult) (rI Kd λi j=> .int (i*j)):=RL λ_ _ _ _ _ _ _ hc q=>mul_int q hc.ok
theorem ki:j7 X (binaryOp .Mod) (rI (λ_ j=>0<j) λi j=> .int (i % j)):=RL λi j _ _ _ _ _ hc q=>by have h1:(0:Int)<j:=hc;exact mod_int' (by omega) (by rw[Int.fmod_eq_emod_of_nonneg i (by omega)];exact q)
theorem nQ:j7 X (binaryOp .Pow) (rI UZ λi j=> .int (i ^ j.toNat)):=RL λ_ _ _ _ _ _ _ hc q=>pow_int_small hc.1 hc.2.1 hc.2.2 q
theorem unI{f:Value->Sem Value}{g:Int->Int}(rule:∀(i:Int) (t:Tok) (s:Shared) (Q:VS) (E:VS),Q (.int (g i) s.toks) { s with toks:=s.toks+1 }->wpAny (model X.prog X.w) X.A (f (.int i t)) Q E s):
  Zs X f (rU λi=> .int (g i)):=by
 intro pins s σ H x v Q I rx h
 obtain⟨i,rfl,q⟩:=h
 obtain⟨t,rfl⟩:=rx
 exact rule i t s _ _ ⟨.int (g i),H,I.tok _,⟨_,Z⟩,q⟩
theorem Ke:Zs X (unaryOp .USub) (rU λi=> .int (-i)):=unI λ_ _ _ _ _ q=>neg_int q
end
def Zv:V->V->Bool
 | .cy,.cy=>true | .cy,.int _=>true | .int _,.cy=>true | .cy,.bl _=>true | .bl _,.cy=>true | .cy,.str _=>true | .str _,.cy=>true
 | .int _,.int _=>true | .bl _,.bl _=>true | .str _,.str _=>true | .zK _,.zK _=>true
 | .int _,.str _=>true | .str _,.int _=>true | .bl _,.str _=>true | .str _,.bl _=>true
 | _,_=>false
inductive rEq(x:V)(y:V)(H:Hp)(Q:VK):Prop
 |mk(_:Zv x y=true)(_:Q (.bl (decide (x=y))) H)
inductive rNe(x:V)(y:V)(H:Hp)(Q:VK):Prop
 |mk(_:Zv x y=true)(_:Q (.bl (!decide (x=y))) H)
theorem ON{i j:Int}:decide (V.int i=V.int j)=(i==j):=by rw[Bc];simp
theorem RM{i j:Bool}:decide (V.bl i=V.bl j)=(i==j):=by rw[Bc];simp
theorem OO{i j:Str}:decide (V.str i=V.str j)=(i==j):=by rw[Bc];simp
theorem OP{i j:Array UInt8}:decide (V.zK i=V.zK j)=(i.toList==j.toList):=by rw[Bc];cases i;cases j;simp
variable {Q:VK}{op:CmpOp}
section
variable {X:Cx}{a b c:Expr}{ta tb tc:TE}{pos:Pos}
theorem dm{k k':Bool}(I:Inv X pins σ H s)(q:Q (.bl k) H)(e:k=k'):EP X pins σ Q (.bool k') s:=by subst e;exact⟨.bl k,H,I,Z,q⟩
theorem dJ:j7 X (compareOp .Eq) rEq:=by
 intro pins s σ H x y v u Q I rx ry h;obtain⟨hs,q⟩:=h;cases x with
 | cy=>
  cases rx;cases y with
  | cy=>cases ry;exact PySem.EqNone.eq_none_none (dm I q (by simp))
  | bl j=>cases ry;exact PySem.EqNone.eq_none_bool (dm I q (by simp))
  | int j=>obtain⟨t',rfl⟩:=ry;exact PySem.EqNone.eq_none_int (dm I q (by simp))
  | str j=>obtain⟨t',rfl⟩:=ry;exact PySem.EqNone.eq_none_str (dm I q (by simp))
  | _=>exact absurd (show false=true from hs) gC
 | bl i=>
  cases rx;cases y with
  | cy=>cases ry;exact PySem.EqNone.eq_bool_none (dm I q (by simp))
  | bl j=>cases ry;exact eq_bool (dm I q RM)
  | str j=>obtain⟨t',rfl⟩:=ry;exact PySem.EqMixed.eq_bool_str (dm I q (by simp))
  | _=>exact absurd (show false=true from hs) gC
 | int i=>
  obtain⟨t,rfl⟩:=rx;cases y with
  | cy=>cases ry;exact PySem.EqNone.eq_int_none (dm I q (by simp))
  | int j=>obtain⟨t',rfl⟩:=ry;exact eq_int (dm I q ON)
  | str j=>obtain⟨t',rfl⟩:=ry;exact PySem.EqMixed.eq_int_str (dm I q (by simp))
  | _=>exact absurd (show false=true from hs) gC
 | str i=>
  obtain⟨t,rfl⟩:=rx;cases y with
  | cy=>cases ry;exact PySem.EqNone.eq_str_none (dm I q (by simp))
  | bl j=>cases ry;exact PySem.EqMixed.eq_str_bool (dm I q (by simp))
  | int j=>obtain⟨t',rfl⟩:=ry;exact PySem.EqMixed.eq_str_int (dm I q (by simp))
  | str j=>obtain⟨t',rfl⟩:=ry;exact eq_str (dm I q OO)
  | _=>exact absurd (show false=true from hs) gC
 | zK i=>
  obtain⟨t,rfl⟩:=rx;cases y with
  | zK j=>obtain⟨t',rfl⟩:=ry;exact PySem.W.eq_bytes (dm I q OP)
  | _=>exact absurd (show false=true from hs) gC
 | _=>cases y <;> exact absurd (show false=true from hs) gC
theorem Wv:j7 X (compareOp .NotEq) rNe:=by
 intro pins s σ H x y v u Q I rx ry h;obtain⟨hs,q⟩:=h;cases x with
 | cy=>
  cases rx;cases y with
  | cy=>cases ry;exact PySem.EqNone.ne_none_none (dm I q (by simp))
  | bl j=>cases ry;exact PySem.EqNone.ne_none_bool (dm I q (by simp))
  | int j=>obtain⟨t',rfl⟩:=ry;exact PySem.EqNone.ne_none_int (dm I q (by simp))
  | str j=>obtain⟨t',rfl⟩:=ry;exact PySem.EqNone.ne_none_str (dm I q (by simp))
  | _=>exact absurd (show false=true from hs) gC
 | bl i=>
  cases rx;cases y with
  | cy=>cases ry;exact PySem.EqNone.ne_bool_none (dm I q (by simp))
  | bl j=>cases ry;exact ne_bool (dm I q (iZ not RM))
  | str j=>obtain⟨t',rfl⟩:=ry;exact PySem.EqMixed.ne_bool_str (dm I q (by simp))
  | _=>exact absurd (show false=true from hs) gC
 | int i=>
  obtain⟨t,rfl⟩:=rx;cases y with
  | cy=>cases ry;exact PySem.EqNone.ne_int_none (dm I q (by simp))
  | int j=>obtain⟨t',rfl⟩:=ry;exact ne_int (dm I q (iZ not ON))
  | str j=>obtain⟨t',rfl⟩:=ry;exact PySem.EqMixed.ne_int_str (dm I q (by simp))
  | _=>exact absurd (show false=true from hs) gC
 | str i=>
  obtain⟨t,rfl⟩:=rx;cases y with
  | cy=>cases ry;exact PySem.EqNone.ne_str_none (dm I q (by simp))
  | bl j=>cases ry;exact PySem.EqMixed.ne_str_bool (dm I q (by simp))
  | int j=>obtain⟨t',rfl⟩:=ry;exact PySem.EqMixed.ne_str_int (dm I q (by simp))
  | str j=>obtain⟨t',rfl⟩:=ry;exact ne_str (dm I q (iZ not OO))
  | _=>exact absurd (show false=true from hs) gC
 | zK i=>
  obtain⟨t,rfl⟩:=rx;cases y with
  | zK j=>obtain⟨t',rfl⟩:=ry;exact PySem.W.ne_bytes (dm I q (iZ not OP))
  | _=>exact absurd (show false=true from hs) gC
 | _=>cases y <;> exact absurd (show false=true from hs) gC
theorem sP:j7 X (compareOp .Lt) (BY λi j=> .bl (decide (i<j))):=Qx λ_ _ _ _ _ _ _ q=>lt_int q
theorem Ww:j7 X (compareOp .LtE) (BY λi j=> .bl (decide (i<=j))):=Qx λ_ _ _ _ _ _ _ q=>le_int q
theorem jM:j7 X (compareOp .Gt) (BY λi j=> .bl (decide (j<i))):=Qx λ_ _ _ _ _ _ _ q=>gt_int q
theorem JL:j7 X (compareOp .GtE) (BY λi j=> .bl (decide (j<=i))):=Qx λ_ _ _ _ _ _ _ q=>ge_int q
theorem RN:j7 X (compareOp .In) (λx y H Q=>∃i j,x =.str i/\y =.str j/\Q (.bl (!(Builtin.Str.occurrences j i 0 j.length 1).isEmpty)) H):=by intro pins s σ H x y v u Q I rx ry h;obtain⟨i,j,rfl,rfl,q⟩:=h;obtain⟨t,rfl⟩:=rx;obtain⟨t',rfl⟩:=ry;exact in_str (dm I q rfl)
theorem bq(b:Expr)(h:op ≠ .In:=by decide)(h2:op ≠ .NotIn:=by decide):behindInMarks op b=false:=by
 have e1:(op==CmpOp.In)=false:=by cases op <;> first|rfl|exact absurd rfl h
 have e2:(op==CmpOp.NotIn)=false:=by cases op <;> first|rfl|exact absurd rfl h2
 cases b <;> simp[behindInMarks,e1,e2]
inductive RO(Q:Bool->Hp->Prop)(x:V)(H':Hp):Prop
 |mk(k:_)(_:x =.bl k)(_:Q k H')
def JM(t:TE):TT:=λσ H Q=>t σ H (RO Q)
inductive RP(r':R2)(tc:TE)(σ:St)(Q:VK)(y:V)(z:V)(H3:Hp):Prop
 |mk(k:_)(_:z =.bl k)(_:(if k=true then tc σ H3 λw' H4=>r' y w' H4 Q else Q (.bl false) H3))
def RQ(r:R2)(r':R2)(tc:TE)(σ:St)(Q:VK)(x:V):V->Hp->Prop:=λy H2=>r x y H2 (RP r' tc σ Q y)
def Xs(r:R2)(r':R2)(tb:TE)(tc:TE)(σ:St)(Q:VK):V->Hp->Prop:=λx H1=>tb σ H1 (RQ r r' tc σ Q x)
def Zw(r r':R2)(ta tb tc:TE):TE:=λσ H Q=>ta σ H (Xs r r' tb tc σ Q)
theorem vg:(sizeLine:Nat)<2 ^ 63:=by rw[lT];decide
theorem Qy:j7 X (binaryOp .Add) (λx y H Q=>∃i j,x =.str i/\y =.str j/\i.length+j.length<=sizeLine/\Q (.str (i++j)) H):=by intro pins s σ H x y v u Q I rx ry h;obtain⟨i,j,rfl,rfl,hz,q⟩:=h;obtain⟨t,rfl⟩:=rx;obtain⟨t',rfl⟩:=ry;exact add_str (λt' tk=>⟨.str (i++j),H,I.tok _,⟨_,Z⟩,q⟩) hz
theorem vals1{x:V}(r:Vals [x] us):∃u,us=[u]/\RelV x u:=by
 cases r with
 | cons r1 r2=>cases r2;exact⟨_,Z,r1⟩
theorem vals2{x:V}(r:Vals [x,y] us):∃u w',us=[u,w']/\RelV x u/\RelV y w':=by
 cases r with
 | cons r1 r2=>
  cases r2 with
  | cons r3 r4=>cases r4;exact⟨_,_,Z,r1,r3⟩
theorem U0:iH X (.builtin "abs") (λxs H Q=>∃i,xs=[.int i]/\Q (.int (if i<0 then -i else i)) H):=by intro pins s σ H xs us Q I r h;obtain⟨i,rfl,q⟩:=h;obtain⟨u,rfl,t,rfl⟩:=vals1 r;exact call_abs_int λu tk=>⟨.int (if i<0 then -i else i),H,I.tok _,⟨_,Z⟩,q⟩
theorem wZ(hc:X.calm=true):iH X (.builtin "min") (λxs H Q=>∃i j,xs=[.int i,.int j]/\Q (.int (if j<i then j else i)) H):=by
 intro pins s σ H xs us Q I r h;obtain⟨i,j,rfl,q⟩:=h;obtain⟨u,w',rfl,⟨t,rfl⟩,⟨t',rfl⟩⟩:=vals2 r;refine min_two_ints (I.ok.hd hc) λh' tk k=>⟨_,H,I.kept k,?_,q⟩
 by_cases hj:j<i
 .rw [ay hj,ay hj];exact⟨_,Z⟩
 .rw [av hj,av hj];exact⟨_,Z⟩
end
structure Cs(h:Heap)(x dx C:Addr)(mA:SO):Prop where
 obj:h.get? x=some (PySem.W.instObj C dx)
 ns:h.Ns1 dx mA
 ne:dx≠x
theorem RS{mA:SO}(n:h.Ns1 dx mA):∃od,h.get? dx=some od/\∀name,PySem.W.lookIn name od=some (mA name):=by
 obtain⟨o,es,ep,ho,hd,hk,_,hm⟩:=n;refine⟨o,ho,λname=>?_⟩;have e:=hm name;unfold nsFind findBy at e;rw[<-Array.find?_toList]at e;unfold PySem.W.lookIn;rw[hd];dsimp only;split
 .rename_i y q;rw[q]at e;exact iZ some e
 .rename_i q;rw[q]at e;have a:es.toList.any (·.refKey)=false:=by rw[List.any_eq_false];intro y hy;obtain⟨z,t,hkey⟩:=hk y (Array.mem_toList_iff.mp hy);simp[DictEntry.refKey,hkey]
  have a':¬ es.toList.any (·.refKey)=true:=by rw[a];exact gC
  rw[av a'];exact iZ some e
variable {C:Addr}
theorem Cs.look{x dx:Addr}{mA:SO}(I:Cs h x dx C mA):∃od,PySem.W.InstAt h x (PySem.W.instObj C dx) C (some od)/\∀name,PySem.W.lookIn name od=some (mA name):=
 let⟨od,ho,hl⟩:=RS I.ns
 ⟨od,⟨I.obj,Z,Z,ho⟩,hl⟩
variable {kw:List (Str×Value)}
section
variable {prog:Program}{w:World}{A:Around}{E:VS}{s:Shared}{K:Fg}{x dx C f:Addr}{mA:SO}{name:Str}{v:Value}
theorem get_map{expr:Bool}{Q:VS}(X:K.In s.heap)(I:Cs s.heap x dx C mA)(hg:PySem.W.plainGet K C name=true)(hh:PySem.W.hasDictIn K C=true)(ha:PySem.W.findIn K (.ref C) name=some none)(hv:mA name=some v)(hv':PySem.W.handedIn v=true)(h:Q v { s with toks:=s.toks+1 }):
  wpAny (model prog w) A (getAttr (.ref x) name expr) Q E s:=by
 obtain⟨od,J,hl⟩:=I.look
 exact PySem.W.get_value X J (PySem.W.plainGet_of hg).1 (PySem.W.findObj_own hh ha rfl (by rw[hl,hv])) hv' h
theorem U1{pl:Sem Bool}{Q:Value×List Value->Shared->Prop}(X:K.In s.heap)(I:Cs s.heap x dx C mA)(hg:PySem.W.plainGet K C name=true)(hf:PySem.W.findIn K (.ref C) name=some (some (.ref f)))(ht:PySem.W.isFn K (.ref f)=true)(hv:mA name=none)(h:Q (.ref f,[.ref x]) s):
  wpAny (model prog w) A (getMethod (.ref x) name pl) Q E s:=by
 obtain⟨od,J,hl⟩:=I.look
 exact PySem.W.method_fn X J (PySem.W.plainGet_of hg).1 (PySem.W.plainGet_of hg).2 hf (uP.mp ht) (by show(PySem.W.lookIn name od).map (·.isSome)=some false;rw[hl,hv];rfl) h
theorem Xu{ns:List Str}{Q:Unit->Shared->Prop}(X:K.In s.heap)(I:Cs s.heap x dx C mA)(hs:PySem.W.findIn K (.ref C) "__setattr__"=some (some (.builtin "object.__setattr__")))(hp:PySem.W.plainOver K C=true)(ht:PySem.W.takerIn K C name=some none)(hh:PySem.W.hasDictIn K C=true)(hw:PySem.Within mA ns)(hsz:ns.length<=sizeLine)(h:∀h',Cs h' x dx C (λy=>if y=name then some v else mA y)->Heap.SameBut dx s.heap h'->Q () { s with heap:=h',toks:=s.toks+2 }):
  wpAny (model prog w) A (setAttr (.ref x) name v) Q E s:=by
 obtain⟨od,J,hl⟩:=I.look
 refine PySem.W.set_plain X J hs (PySem.W.osa_open (s:={ s with toks:=s.toks+1 }) (r:=none) X J hp ht λb=>?_)
 obtain⟨cd,hc,hd'⟩:=PySem.W.any_some hh
 have hx:s.heap.get? x=some ⟨.ref C,some dx,.plain,#[]⟩:=I.obj
 refine aA (bu (aA (aA (wpAny_loadPart hx (aA (PySem.W.Looks.here (s:={ s with toks:=s.toks+1 }) (PySem.W.looks_clsIn X hc) ?_))))))
 rw[hd']
 refine bu (a:=some dx) (aA (bu (aA ?_)))
 refine wpAny_nsSet1 (s:={ s with toks:=s.toks+1 }) I.ns λh' hn2 hs2=>?_
 obtain⟨oD,esD,epD,hoD,hdD,hcD⟩:=hn2.count (PySem.Within.cons name v hw)
 refine aA (wpAny_lookBehind hoD (by rw[hdD];exact pastItsLine_dict (fZ hcD (by rw[iY];omega))) ?_)
 exact bu (h _ ⟨(hs2.2 _ (cO I.ne)).trans I.obj,hn2,I.ne⟩ hs2)
theorem U3{R:Result->Shared->Prop}{vs:List Value}(X:K.In s.heap)(hm:PySem.W.makesIn K C=true)(hi:PySem.W.findIn K (.ref C) "__init__"=some (some (.ref f)))(hf:PySem.W.typeIn K (.ref f)=some (.type "function"))(h:codeAny (model prog w) (A.under (.builtin "type.__call__" ⟨.ref C::vs,kw⟩)) (.call (.ref f) ⟨.ref (s.heap.objs.size+1)::vs,kw⟩) (PySem.W.InitBack (s.heap.objs.size+1) R)
    { s with heap:=(s.heap.push PySem.W.emptyDict).push (PySem.W.instObj C s.heap.objs.size) }):
  codeAny (model prog w) A (.call (.ref C) ⟨vs,kw⟩) R s:=by
 obtain⟨hh,g,d,t,os⟩:=s
 exact PySem.W.make_core (PySem.W.makes_of X hm) (PySem.W.looks_findIn X hi) (λself=>PySem.W.bind_fn X self hf) (.inl rfl) h
end
def aZ(f:Str)(v:V):List (Str×V)->List (Str×V)
 | []=>[(f,v)]
 | (g,x)::r=>if g=f then(g,v)::r else(g,x)::aZ f v r
theorem BZ(f g:Str)(v:V):∀fs:List (Str×V),(aZ f v fs).lookup g=if g=f then some v else fs.lookup g
 | []=>by
  show List.lookup g [(f,v)]=_;by_cases h:g=f
  .have hb:(g==f)=true:=uP.mpr h;simp only[List.lookup,hb,ay h]
  .have hb:(g==f)=false:=Fb.mpr h;simp only[List.lookup,hb,av h]
 | (k,x)::r=>by
  have ih:=BZ f g v r;rw[show aZ f v ((k,x)::r)=(if k=f then(k,v)::r else(k,x)::aZ f v r)from rfl];by_cases hk:k=f
  .rw [ay hk];by_cases h:g=k
   .have hb:(g==k)=true:=uP.mpr h;simp only[List.lookup,hb,ay (h.trans hk)]
   .have hb:(g==k)=false:=Fb.mpr h;simp only[List.lookup,hb,av (λe:g=f=>h (e.trans hk.symm))]
  .rw [av hk];by_cases h:g=k
   .have hb:(g==k)=true:=uP.mpr h;simp only[List.lookup,hb,av (λe:g=f=>hk (h.symm.trans e))]
   .have hb:(g==k)=false:=Fb.mpr h;simp only[List.lookup,hb];exact ih
theorem z8(f:Str)(v:V):∀fs:List (Str×V),f∈(aZ f v fs).map (·.1)/\∀g,g∈fs.map (·.1)->g∈(aZ f v fs).map (·.1)
 | []=>⟨by simp[aZ],λg h=>by simp at h⟩
 | (k,x)::r=>by
  obtain⟨i1,i2⟩:=z8 f v r;rw[show aZ f v ((k,x)::r)=(if k=f then(k,v)::r else(k,x)::aZ f v r)from rfl];by_cases hk:k=f
  .rw [ay hk];subst hk;exact⟨by simp,λg h=>by simpa using h⟩
  .rw [av hk];refine⟨?_,λg h=>?_⟩
   .rw [bF];exact cR _ i1
   .rw [bF]at h ⊢;rcases eZ.mp h with e|e
    .exact eZ.mpr (.inl e)
    .exact cR _ (i2 g e)
theorem B0(f:Str)(v:V):∀fs:List (Str×V),(aZ f v fs).length<=fs.length+1
 | []=>by simp[aZ]
 | (k,x)::r=>by
  have ih:=B0 f v r;rw[show aZ f v ((k,x)::r)=(if k=f then(k,v)::r else(k,x)::aZ f v r)from rfl];by_cases hk:k=f
  .rw [ay hk,iY,iY];omega
  .rw [av hk,iY,iY];omega
theorem nI.some_of{v:V}{o:Option Value}(r:nI (some v) o):∃u,o=some u/\RelV v u:=by
 cases o with
 | none=>exact(show False from r).elim
 | some u=>exact⟨u,Z,r⟩
theorem nI.none_of{o:Option Value}(r:nI none o):o=none:=by
 cases o with
 | none=>rfl
 | some u=>exact(show False from r).elim
theorem RT{v:V}(r:RelV v u):PySem.W.handedIn u=true:=by
 cases v with
 | cy=>cases(show u=Value.none from r);rfl
 | bl b=>cases(show u=Value.bool b from r);rfl
 | int i=>obtain⟨t,e⟩:=(show ∃t,u=Value.int i t from r);cases e;rfl
 | str x=>obtain⟨t,e⟩:=(show ∃t,u=Value.str x t from r);cases e;rfl
 | zK b=>obtain⟨t,e⟩:=(show ∃t,u=Value.bytes b t from r);cases e;rfl
 | J5 b=>obtain⟨t,e⟩:=(show ∃t,u=Value.float b t from r);cases e;rfl
 | ref a=>cases(show u=Value.ref a from r);rfl
 | ty n=>cases(show u=Value.type n from r);rfl
section
variable {P:Program}{w:World}{H H':Hp}{h h':Heap}{a C dx:Addr}{fs fs':List (Str×V)}
theorem Bm(hok:jk P w H h)(e:H a=some (.ins C dx fs)):∃mA,Cs h a dx C mA/\(∀f,nI (fs.lookup f) (mA f))/\PySem.Within mA (fs.map (·.1))/\fs.length<=1000/\H dx=some (.own a):=by
 obtain⟨d,z,ne,ob,mA,n,r,q⟩:=(show e_ P w H h a (.ins C dx fs)from hok a _ e)
 exact⟨mA,⟨ob,n,ne⟩,r,q,z,d⟩
end
structure qb(K:Fg)(C:Addr):Prop where
 pg:PySem.W.plainGet K C Str.empty=true
 hd:PySem.W.hasDictIn K C=true
 po:PySem.W.plainOver K C=true
 sa:PySem.W.findIn K (.ref C) "__setattr__"=some (some (.builtin "object.__setattr__"))
theorem qb.get(c:qb K C)(f:Str):PySem.W.plainGet K C f=true:=c.pg
def fR(K:Fg)(C:Addr)(f:Str):Prop:=PySem.W.findIn K (.ref C) f=some none
theorem fR.taker{f:Str}(n:fR K C f):PySem.W.takerIn K C f=some none:=by unfold PySem.W.takerIn;rw[show PySem.W.findIn K (.ref C) f=some none from n];rfl
structure Meth(K:Fg)(C:Addr)(m:Str)(f:Addr):Prop where
 at_:PySem.W.findIn K (.ref C) m=some (some (.ref f))
 fn:PySem.W.isFn K (.ref f)=true
 kp:PySem.W.keepIn K (.ref f)=true
variable {env:Env}
section
variable {X:Cx}{pins:AO}{σ:St}{H:Hp}{s:Shared}{a C dx:Addr}{fs:List (Str×V)}{f:Str}{v:V}{A:Around}{E:VS}
theorem Du{b:Bool}{Q:VS}(I:Inv X pins σ H s)(e:H a=some (.ins C dx fs))(c:qb X.K C)(n:fR X.K C f)(l:fs.lookup f=some v)(h:∀u s',Inv X pins σ H s'->RelV v u->Q u s'):wpAny (model X.prog X.w) A (getAttr (.ref a) f b) Q E s:=by
 obtain⟨mA,O,r,_,_,_⟩:=Bm I.hok e
 obtain⟨u,hu,ru⟩:=nI.some_of (v:=v) (o:=mA f) (by rw[<-l];exact r f)
 exact get_map I.kK O (c.get f) c.hd n hu (RT ru) (h u _ (I.tok _) ru)
theorem Dv{m:Str}{g:Addr}{pl:Sem Bool}{Q:Value×List Value->Shared->Prop}(I:Inv X pins σ H s)(e:H a=some (.ins C dx fs))(c:qb X.K C)(k:Meth X.K C m g)(l:fs.lookup m=none)(h:Q (.ref g,[.ref a]) s):wpAny (model X.prog X.w) A (getMethod (.ref a) m pl) Q E s:=by
 obtain⟨mA,O,r,_,_,_⟩:=Bm I.hok e
 have hn:mA m=none:=nI.none_of (by rw[<-l];exact r m)
 exact U1 I.kK O (c.get m) k.at_ k.fn hn h
theorem Dw{Q:Unit->Shared->Prop}(I:Inv X pins σ H s)(e:H a=some (.ins C dx fs))(c:qb X.K C)(n:fR X.K C f)(hl:fs.length<1000)(ry:RelV y u)(h:∀s',Inv X pins σ (upd H a (.ins C dx (aZ f y fs))) s'->Q () s'):wpAny (model X.prog X.w) A (setAttr (.ref a) f u) Q E s:=by
 obtain⟨mA,O,r,wi,_,ho⟩:=Bm I.hok e
 have hz:(fs.map (·.1)).length<=sizeLine:=by rw[aE,lT];omega
 refine Xu I.kK O c.sa c.po n.taker c.hd wi hz λh' O' sb=>h _ ?_
 have hd:∃o,h'.get? dx=some o:=let⟨o,_,_,e',_⟩:=O'.ns;⟨o,e'⟩
 refine I.write (x:=a) (e:=dx) (by rw[e];exact True.intro) (.inr ho) (λb q hb z=>(sb.2 b hb).trans z) hd ?_
 refine⟨by rw[az O.ne];exact ho,?_,O.ne,O'.obj,_,O'.ns,λg=>?_,λg hg=>?_⟩
 . have:=B0 f y fs;omega
 . show nI ((aZ f y fs).lookup g) (if g=f then some u else mA g)
   rw[BZ]
   by_cases q:g=f
   . rw[ay q,ay q];exact ry
   . rw[av q,av q];exact r g
 . by_cases q:g=f
   . rw[q];exact(z8 f y fs).1
   . refine(z8 f y fs).2 g (wi g λz=>hg ?_)
     show(if g=f then some u else mA g)=none
     rw[av q];exact z
theorem Inv.made(I:Inv X pins σ H s):Inv X pins σ (upd (upd H s.heap.objs.size (.own (s.heap.objs.size+1))) (s.heap.objs.size+1) (.ins C s.heap.objs.size []))
  { s with heap:=(s.heap.push PySem.W.emptyDict).push (PySem.W.instObj C s.heap.objs.size) }:=by
 have e1:(s.heap.push PySem.W.emptyDict).get? s.heap.objs.size=some PySem.W.emptyDict:=fC s.heap rfl
 have e2:((s.heap.push PySem.W.emptyDict).push (PySem.W.instObj C s.heap.objs.size)).get? (s.heap.objs.size+1)=some (PySem.W.instObj C s.heap.objs.size):=by
  have:=fC (s.heap.push PySem.W.emptyDict) (o:=PySem.W.instObj C s.heap.objs.size) rfl
  rwa [mW]at this
 have e3:(s.heap.push PySem.W.emptyDict).Ns s.heap.objs.size (λ_=>none):=⟨PySem.W.emptyDict,#[],_,e1,Z,(λe he=>absurd he (by simp)),λ_=>rfl⟩
 have I1:=I.laid (a:=s.heap.objs.size) (o:=.own (s.heap.objs.size+1)) (h':=s.heap.push PySem.W.emptyDict) (t':=s.toks) (λb u q=>cV _ q) (aL _) ⟨_,e1⟩
 refine I1.laid (a:=s.heap.objs.size+1) (o:=.ins C s.heap.objs.size []) (t':=s.toks) (λb u q=>cV _ q) (Nat.le_of_eq (mW _ _)) ?_
 have ne:s.heap.objs.size≠s.heap.objs.size+1:=fY (Nat.lt_succ_self _)
 refine⟨by rw[az ne,ak],iA _,ne,e2,λ_=>none,(Heap.Ns1.of_empty e3).at λo q=>cV _ q,λ_=>True.intro,λy hy=>absurd rfl hy⟩
theorem Xv{prog:Program}{f:Str}{s:Shared}{Q:VS}(hb:attributeBase e f env (eval e env)=eval e env)(h:wpAny (model prog w) A (eval e env) (λo s₁=>wpAny (model prog w) A (getAttr o f true) Q E s₁) E s):wpAny (model prog w) A (eval (.Attribute e f pos) env) Q E s:=
 Attribute_any_ h (by rw[arm_eval_Attribute,hb])
end
inductive acJ(K:Fg)(f:Str)(Q:VK)(x:V)(H1:Hp):Prop
 |mk(a C dx fs v:_)(_:x =.ref a)(_:H1 a=some (.ins C dx fs))(_:qb K C)(_:fR K C f)(_:fs.lookup f=some v)(_:Q v H1)
def Zx(K:Fg)(ta:TE)(f:Str):TE:=λσ H Q=>ta σ H (acJ K f Q)
inductive Xw(K:Fg)(f:Str)(D:Ends)(σ:St)(y:V)(x:V)(H2:Hp):Prop
 |mk(a C dx fs:_)(_:x =.ref a)(_:H2 a=some (.ins C dx fs))(_:qb K C)(_:fR K C f)(_:fs.length<1000)(_:D.nx σ (upd H2 a (.ins C dx (aZ f y fs))))
def acK(K:Fg)(ta:TE)(f:Str)(D:Ends)(σ:St):V->Hp->Prop:=λy H1=>ta σ H1 (Xw K f D σ y)
def Zy(K:Fg)(ta tv:TE)(f:Str):TS:=λD σ H=>tv σ H (acK K ta f D σ)
def Kf(X:Cx)(op:Operator)(rd:V->V->Hp->VK->Prop):Prop:=∀(pins:AO)(s:Shared)(σ:St)(H:Hp)(x y:V)(u v:Value)(Q:VK),Inv X pins σ H s->RelV x u->RelV y v->rd x y H Q->wpAny (model X.prog X.w) X.A (inplaceOp op u v) (EP X pins σ Q) X.xe s
inductive Qz(f:Str)(D:Ends)(σ:St)(a:Addr)(C:Addr)(z:V)(H3:Hp):Prop
 |mk(Zz fs':_)(_:H3 a=some (.ins C Zz fs'))(_:fs'.length<1000)(_:D.nx σ (upd H3 a (.ins C Zz (aZ f z fs'))))
def QA(rd:V->V->Hp->VK->Prop)(f:Str)(D:Ends)(σ:St)(a:Addr)(C:Addr)(v:V):V->Hp->Prop:=λy H2=>rd v y H2 (Qz f D σ a C)
inductive U4(K:Fg)(tv:TE)(rd:V->V->Hp->VK->Prop)(f:Str)(D:Ends)(σ:St)(x:V)(H1:Hp):Prop
 |mk(a C dx fs v:_)(_:x =.ref a)(_:H1 a=some (.ins C dx fs))(_:qb K C)(_:fR K C f)(_:fs.lookup f=some v)(_:tv σ H1 (QA rd f D σ a C v))
def OQ(K:Fg)(ta tv:TE)(rd:V->V->Hp->VK->Prop)(f:Str):TS:=λD σ H=>ta σ H (U4 K tv rd f D σ)
variable {rd:V->V->Hp->VK->Prop}
section
variable {X:Cx}{o e value:Expr}{f:Str}{pos pos' tpos:Pos}{ta tv:TE}
theorem ZA(he:PE X e ta)(hb:attributeBase e f X.env (eval e X.env)=eval e X.env):PE X (.Attribute e f pos) (Zx X.K ta f):=by intro pins s σ H Q I h;refine Xv hb (bM (he pins s σ H _ I h) λu s1 ⟨x,H1,I1,rx,a,C,dx,fs,v,ex,ea,c,n,l,q⟩=>?_);subst ex;obtain rfl:u=Value.ref a:=rx;exact Du I1 ea c n l λu' s2 I2 ru=>⟨v,H1,I2,ru,q⟩
theorem ZC(ha:PE X o ta)(hv:PE X value tv)(hs:swapsWith value (some (.Attribute o f pos')) pos.line X.env=pure false):PS X (.Assign [.Attribute o f pos'] value pos) (Zy X.K ta tv f):=by intro pins s σ H D I h;refine plainObj_wpAny_Assign_Attribute (bM (hv pins s σ H _ I h) λu s1 ⟨y,H1,I1,ry,q⟩=>bM (ha pins s1 σ H1 _ I1 q) λov s2 ⟨x,H2,I2,rx,a,C,dx,fs,ex,ea,c,n,l,q2⟩=>?_) hs;subst ex;obtain rfl:ov=Value.ref a:=rx;exact Dw I2 ea c n l ry λs3 I3=>⟨σ,_,I3,q2⟩
theorem RU{op:Operator}(ha:PE X o ta)(hv:PE X value tv)(hop:Kf X op rd):PS X (.AugAssign (.Attribute o f tpos) op value pos) (OQ X.K ta tv rd f):=by intro pins s σ H D I h;refine wpAny_AugAssign_AttributeAny (bM (ha pins s σ H _ I h) λov s1 ⟨x,H1,I1,rx,a,C,dx,fs,v,ex,ea,c,n,l,q⟩=>?_);subst ex;obtain rfl:ov=Value.ref a:=rx;refine Du I1 ea c n l λu s2 I2 ru=>bM (hv pins s2 σ H1 _ I2 q) λw3 s3 ⟨y,H2,I3,ry,q3⟩=>bM (hop pins s3 σ H2 v y u w3 _ I3 ru ry q3) λw4 s4 ⟨z,H3,I4,rz,Zz,fs',ea',l',q4⟩=>?_;exact Dw I4 ea' c n l' rz λs5 I5=>⟨σ,_,I5,q4⟩
inductive afY(x:V)(y:V)(H:Hp)(Q:VK):Prop
 |mk(i j:_)(_:x =.int i)(_:y =.int j)(_:Q (.int (i+j)) H)
inductive afZ(x:V)(y:V)(H:Hp)(Q:VK):Prop
 |mk(i j:_)(_:x =.int i)(_:y =.int j)(_:Q (.int (i-j)) H)
theorem ZD:Kf X .Add afY:=by
 rintro pins s σ H x y u v Q I rx ry ⟨i,j,rfl,rfl,q⟩;obtain⟨t,rfl⟩:=(show ∃t,u=Value.int i t from rx)
 obtain⟨t',rfl⟩:=(show ∃t',v=Value.int j t' from ry)
 exact PyProof.Rows.iadd_int ⟨.int (i+j),H,I.tok _,⟨_,Z⟩,q⟩
theorem Kg:Kf X .Sub afZ:=by
 rintro pins s σ H x y u v Q I rx ry ⟨i,j,rfl,rfl,q⟩;obtain⟨t,rfl⟩:=(show ∃t,u=Value.int i t from rx)
 obtain⟨t',rfl⟩:=(show ∃t',v=Value.int j t' from ry)
 exact PyProof.Rows.isub_int ⟨.int (i-j),H,I.tok _,⟨_,Z⟩,q⟩
end
section
variable {X:Cx}{pins:AO}{σ:St}{H:Hp}{s:Shared}{A:Around}{E:VS}{Q:VS}{c:Value}{b:Bool}
inductive mq(K:Fg)(H:Hp):V->Value->Prop where
 | cy:mq K H .cy (.type "NoneType")
 | bl (x:Bool):mq K H (.bl x) (.type "bool")
 | int (i:Int):mq K H (.int i) (.type "int")
 | str (x:Str):mq K H (.str x) (.type "str")
 | J5 (x:UInt64):mq K H (.J5 x) (.type "float")
 | lst {a:Addr} {xs:List V} (e:H a=some (.lst xs)):mq K H (.ref a) (.type "list")
 | gh {a:Addr} {o:Obj} {xs:List V} (e:H a=some (.gh o (.lst xs))):mq K H (.ref a) (.type "list")
 | tup {a:Addr} {xs:List V} (e:H a=some (.tup xs)):mq K H (.ref a) (.type "tuple")
 | dK {a:Addr} {kvs:List (Key×V)} (e:H a=some (.dK kvs)):mq K H (.ref a) (.type "dict")
 | dT {a:Addr} {kvs:List (List Key×V)} (e:H a=some (.dT kvs)):mq K H (.ref a) (.type "dict")
 | ins {a C dx:Addr} {fs:List (Str×V)} (e:H a=some (.ins C dx fs)) (cl:qb K C) (ha:PySem.W.findIn K (.ref C) "__class__"=some (some (.builtin "object.__class__")))
    (hn:PySem.W.specialIn K (.builtin "object.__class__") "__get__"=some (some (.builtin "getset_descriptor.__get__"))) (htk:PySem.W.takesIn K (.builtin "object.__class__")=some true)
    (hm:PySem.W.mroIn K C (.type "object")=some true):mq K H (.ref a) (.ref C)
theorem RV{x:V}{t:Value}(I:Inv X pins σ H s)(rx:RelV x u)(ty:mq X.K H x t)(e:PySem.W.kitOne X.K t c=some b)(h:∀tk,Q (.bool b) { s with toks:=tk }):wpAny (model X.prog X.w) A (call (.builtin "isinstance") [u,c]) Q E s:=by
 cases ty with
 | cy=>cases(show u=Value.none from rx);exact p7 PySem.W.kitx_none I.kK True.intro e (λz=>nomatch z) h
 | bl y=>cases(show u=Value.bool y from rx);exact p7 PySem.W.kitx_bool I.kK True.intro e (λz=>nomatch z) h
 | int i=>obtain⟨t,q⟩:=(show ∃t,u=Value.int i t from rx);cases q;exact p7 PySem.W.kitx_int I.kK True.intro e (λz=>nomatch z) h
 | str y=>obtain⟨t,q⟩:=(show ∃t,u=Value.str y t from rx);cases q;exact p7 PySem.W.kitx_str I.kK True.intro e (λz=>nomatch z) h
 | J5 y=>obtain⟨t,q⟩:=(show ∃t,u=Value.float y t from rx);cases q;exact p7 PySem.W.kitx_float I.kK True.intro e (λz=>nomatch z) h
 | @lst a xs ea=>
  cases(show u=Value.ref a from rx);obtain⟨_,_,n,_,h1⟩:=(show e_ X.prog X.w H s.heap a (.lst xs)from I.hok a _ ea)
  exact p7 PySem.W.kitx_list I.kK ⟨_,h1,Z⟩ e (λz=>nomatch z) h
 | @gh a ob xs ea=>
  cases(show u=Value.ref a from rx);obtain⟨_,_,_,n,_,h1⟩:=(show e_ X.prog X.w H s.heap a (.gh ob (.lst xs))from I.hok a _ ea)
  exact p7 PySem.W.kitx_list I.kK ⟨_,h1,Z⟩ e (λz=>nomatch z) h
 | @tup a xs ea=>
  cases(show u=Value.ref a from rx);obtain⟨_,_,_,p⟩:=(show e_ X.prog X.w H s.heap a (.tup xs)from I.hok a _ ea)
  obtain⟨o,h1,h2,_⟩:=p;exact p7 PySem.W.kitx_tuple I.kK ⟨o,h1,h2⟩ e (λz=>nomatch z) h
 | @dK a kvs ea=>
  cases(show u=Value.ref a from rx);obtain⟨_,_,vs,_,p⟩:=(show e_ X.prog X.w H s.heap a (.dK kvs)from I.hok a _ ea)
  obtain⟨o,es,ep,h1,h2,_⟩:=p;exact p7 PySem.W.kitx_dict I.kK ⟨o,h1,h2.1⟩ e (λz=>nomatch z) h
 | @dT a kvs ea=>
  cases(show u=Value.ref a from rx);obtain⟨_,_,xs,_,o,es,ep,h1,h2,_⟩:=(show e_ X.prog X.w H s.heap a (.dT kvs)from I.hok a _ ea)
  exact p7 PySem.W.kitx_dict I.kK ⟨o,h1,h2.1⟩ e (λz=>nomatch z) h
 | @ins a C dx fs ea cl ha hn htk hm=>cases(show u=Value.ref a from rx);obtain⟨mA,O,_⟩:=Bm I.hok ea;obtain⟨od,J,_⟩:=O.look;exact p7 (PySem.W.kitx_own (cl.get _) cl.hd ha hn htk hm) I.kK J e (λz=>nomatch z) h
end
structure fD(k:Nat)(A:Around):Prop where
 hd:A.handled=none
 dp:A.depth+3*k+5<recursionLimit
 un:A.units+16*k+200<cLine
theorem fD.mono{k:Nat}{A:Around}(r:fD k A)(h:j<=k):fD j A:=⟨r.hd,by have:=r.dp;omega,by have:=r.un;omega⟩
theorem fD.deeper{k:Nat}{A:Around}(r:fD (k+1) A)(env:Env):fD k (A.deeper env):=⟨r.hd,by have:=r.dp;show A.depth+1+3*k+5<_;omega,by have:=r.un;show A.units+3+16*k+200<_;omega⟩
theorem QB{A:Around}:(A.under (.builtin "type.__call__" ⟨.ref C::us,kw⟩)).depth=A.depth+1:=by first|rfl|simp[Around.under,Code.weight,Code.isCreation,Code.isGuard,Code.isCaller,Code.frames,Code.isFrame,guardIds]
theorem QC{A:Around}:(A.under (.builtin "type.__call__" ⟨.ref C::us,kw⟩)).units=A.units+1:=by first|rfl|simp[Around.under,Code.cUnits,Code.frames,Code.isFrame]
theorem fD.make{k:Nat}{A:Around}(r:fD (k+1) A)(C:Addr)(us:List Value)(kw:List (Str×Value)):fD k (A.under (.builtin "type.__call__" ⟨.ref C::us,kw⟩)):=⟨r.hd,by have:=r.dp;rw[QB];omega,by have:=r.un;rw[QC];omega⟩
theorem fD.depth{k:Nat}{A:Around}(r:fD k A):A.depth<recursionLimit:=by have:=r.dp;omega
theorem fD.units{k:Nat}{A:Around}(r:fD k A):A.units+64<cLine:=by have:=r.un;omega
def rD:TA:=λ_ H Q=>Q [] H
def U5(Q:List V->Hp->Prop)(x:V):List V->Hp->Prop:=λxs H2=>Q (x::xs) H2
def ZE(tr:TA)(σ:St)(Q:List V->Hp->Prop):V->Hp->Prop:=λx H1=>tr σ H1 (U5 Q x)
def QD(ta:TE)(tr:TA):TA:=λσ H Q=>ta σ H (ZE tr σ Q)
section
variable {X:Cx}{e:Expr}{es:List Expr}{te:TE}{t:TA}{pos:Pos}
inductive acL(Q:VK)(xs:List V)(H1:Hp):Prop
 |mk(_:xs.length<=sizeLine)(_:∀p,H1 p=none->Q (.ref p) (upd H1 p (.tup xs)))
def af0(t:TA):TE:=λσ H Q=>t σ H (acL Q)
inductive acM(Q:VK)(xs:List V)(H1:Hp):Prop
 |mk(_:xs.length<=sizeLine)(_:∀p,H1 p=none->Q (.ref p) (upd H1 p (.lst xs)))
def af1(t:TA):TE:=λσ H Q=>t σ H (acM Q)
end
abbrev Sp:=List V->Hp->VK->XK->Prop
abbrev z9:=List Env->Hp->Shared->XK->Value->Shared->Prop
structure Ct(P:Program)(w:World)(K:Fg)(mg:SO)(base:Heap)(A:Around)(outer:List Env)(s:Shared)(H:Hp):Prop where
 frames:A.frames=some outer
 mod:Mod K mg base
 bs:∀b o,base.get? b=some o->s.heap.get? b=some o/\H b=none
 GR:base.objs.size<=s.heap.objs.size
 t_:s.heap.FunFrames base outer
 J9:∀b∈frs outer,H b=none
 hok:jk P w H s.heap
 bare:AllBare s.gens
def CE(outer:List Env)(P:Program)(w:World)(H:Hp)(s:Shared)(Q:VK)(u:Value)(s':Shared):Prop:=∃v H',s'.os=s.os/\AllBare s'.gens/\Un (frs outer) [] H H' s.heap s'.heap/\jk P w H' s'.heap/\RelV v u/\Q v H'
def CR(CX:z9)(outer:List Env)(P:Program)(w:World)(H:Hp)(s:Shared)(Q:VK)(E:XK)(r:Result)(s':Shared):Prop:=match r with
 | .ok (.ret u)=>CE outer P w H s Q u s'
 | .ok _=>False
 | .error e=>CX outer H s E e s'
structure kj(P:Program)(w:World)(K:Fg)(mg:SO)(base:Heap)(CX:z9)(k:Nat)(f:Addr)(fd:FuncData)(ps:List Str)(sp:Sp):Prop where
 len:∀vs H Q E,sp vs H Q E->vs.length=ps.length
 run:∀(A:Around)(outer:List Env)(s:Shared)(H:Hp)(args:Args)(us:List Value)(vs:List V)(Q:VK)(E:XK),fD k A->Ct P w K mg base A outer s H->BindsTo s fd args (ps.zip us)->Vals vs us->sp vs H Q E->
  codeAny (model P w) A (.call (.ref f) args) (CR CX outer P w H s Q E) s
variable {mg:SO}{base:Heap}{CX:z9}{f:Addr}{fd:FuncData}{ps:List Str}{sp:Sp}
theorem kj.imp{k:Nat}{RW:Sp}(F:kj P w K mg base CX k f fd ps sp)(h:∀vs H Q E,RW vs H Q E->sp vs H Q E):kj P w K mg base CX k f fd ps RW:=
 ⟨λvs H Q E q=>F.len vs H Q E (h _ _ _ _ q),λA outer s H args us vs Q E hr he hb hv hs=>F.run A outer s H args us vs Q E hr he hb hv (h _ _ _ _ hs)⟩
theorem Ct.make{A:Around}{outer:List Env}(e:Ct P w K mg base A outer s H)(C:Addr)(us:List Value)(kw:List (Str×Value)):Ct P w K mg base (A.under (.builtin "type.__call__" ⟨.ref C::us,kw⟩)) outer s H:=⟨by first|exact e.frames|(simpa[Around.under,Code.envs,Code.isFrame,pushEnvs]using e.frames),e.mod,e.bs,e.GR,e.t_,e.J9,e.hok,e.bare⟩
section
variable {X:Cx}{pins:AO}{σ:St}{H:Hp}{s s':Shared}
theorem Inv.ZF(I:Inv X pins σ H s):Ct X.prog X.w X.K X.mg X.base X.A X.stack s H:=⟨I.ok.frames,I.ok.mod,I.bs,fZ I.ok.GR I.sz,I.stack,I.OJ,I.hok,I.bare⟩
theorem Inv.after(I:Inv X pins σ H s)(h:CE X.stack X.prog X.w H s Q u s'):EP X pins σ Q u s':=by obtain⟨v,H',os,bare,un,hok,r,q⟩:=h;obtain⟨hh,g,d,t,os'⟩:=s';obtain rfl:os'=s.os:=os;exact⟨v,H',I.call (h':=hh) (g':=g) (d':=d) (t':=t) (ch:=[]) un hok bare (λb z=>absurd z (by simp)),r,q⟩
end
def ZG(sp:Sp)(jl:List V)(E:XK)(Q:VK):List V->Hp->Prop:=λvs H1=>sp (vs++jl) H1 Q E
def Wx(sp:Sp)(jl:List V)(E:XK)(t:TA):TE:=λσ H Q=>t σ H (ZG sp jl E Q)
def U6(sp:Sp)(jl:List V)(E:XK)(Q:VK)(x:V):List V->Hp->Prop:=λvs H2=>sp (x::(vs++jl)) H2 Q E
inductive ZH(C:Addr)(m:Str)(sp:Sp)(jl:List V)(E:XK)(t:TA)(σ:St)(Q:VK)(x:V)(H1:Hp):Prop
 |mk(a dx fs:_)(_:x =.ref a)(_:H1 a=some (.ins C dx fs))(_:fs.lookup m=none)(_:t σ H1 (U6 sp jl E Q x))
def JN(C:Addr)(m:Str)(sp:Sp)(jl:List V)(E:XK)(ta:TE)(t:TA):TE:=λσ H Q=>ta σ H (ZH C m sp jl E t σ Q)
def ZI(C:Addr)(sp:Sp)(jl:List V)(E:XK)(Q:VK):List V->Hp->Prop:=λvs H1=>∀x dx,H1 x=none->H1 dx=none->dx≠x->sp (.ref x::(vs++jl)) (upd (upd H1 dx (.own x)) x (.ins C dx [])) (λv H2=>v =.cy/\Q (.ref x) H2) E
def JO(C:Addr)(sp:Sp)(jl:List V)(E:XK)(t:TA):TE:=λσ H Q=>t σ H (ZI C sp jl E Q)
def Binds(K:Fg)(fd:FuncData)(ps:List Str)(ds:List Value):Prop:=∀(s:Shared)(us:List Value),K.In s.heap->(us++ds).length=ps.length->BindsTo s fd ⟨us,[]⟩ (ps.zip (us++ds))
theorem Binds.all(h:∀us:List Value,us.length=ps.length->bindArgs fd ⟨us,[]⟩=pure (ps.zip us)):Binds K fd ps [] :=λs us _ hl=>by rw[sJ]at hl ⊢;exact .of_eq (h us hl)
def Passes(CX:z9)(X:Cx)(E:XK):Prop:=∀(pins:AO)(σ:St)(H:Hp)(s:Shared)(e:Value)(s':Shared),Inv X pins σ H s->CX X.stack H s E e s'->X.xe e s'
variable {vs:List V}
section
variable {X:Cx}{CX:z9}{k:Nat}{f C:Addr}{fd:FuncData}{ps:List Str}{sp:Sp}{jl:List V}{ds:List Value}{E:XK}{x m:Str}{p pos apos:Pos}{e o:Expr}{es:List Expr}{ta:TE}{t:TA}
theorem Kh(F:kj X.prog X.w X.K X.mg X.base CX k f fd ps sp)(hr:fD k X.A)(hb:Binds X.K fd ps ds)(hd:Vals jl ds)(hx:Passes CX X E)(I:Inv X pins σ H s)(r:Vals vs us)(h:sp (vs++jl) H Q E):wpAny (model X.prog X.w) X.A (call (.ref f) us) (EP X pins σ Q) X.xe s:=by
 have r2:Vals (vs++jl) (us++ds):=r.append hd
 have hl:(us++ds).length=ps.length:=by rw[<-r2.length];exact F.len _ _ _ _ h
 refine wpAny_call (codeAny_mono (F.run X.A X.stack s H ⟨us,[]⟩ (us++ds) (vs++jl) Q E hr I.ZF (hb s us I.kK hl) r2 h) λr s' hq=>?_)
 cases r with
 | error e=>exact hx pins σ H s e s' I hq
 | ok fl=>
   cases fl with
   | ret u=>exact I.after hq
   | next=>exact False.elim hq
   | brk=>exact False.elim hq
   | cont=>exact False.elim hq
theorem Xx(F:kj X.prog X.w X.K X.mg X.base CX k f fd ps sp)(hr:fD k X.A)(hg:Gl X x)(hm:X.mg x=some (.ref f))(hk:PySem.W.keepIn X.K (.ref f)=true)(hb:Binds X.K fd ps ds)(hd:Vals jl ds)(hx:Passes CX X E)(ha:PA X (e::es) t)(hdb:(x==("__debug__":Str))=false:=by decide)(he:starEach (e::es) X.env=(false,eval e X.env)::starEach es X.env:=by rfl)(hpl:(backTo pos (starEach es X.env)).any (·.1)=false:=by rfl):
  PE X (.Call (.Name x p) (e::es) [] pos) (Wx sp jl E t):=by
 intro pins s σ H Q I h
 refine JZ (Bk I hg hm ?_ hdb)
 refine PySem.W.callWith_K (h₀:=X.base) I.ok.mod.RI hk (bM (ha pos pins s σ H _ I h) λus s1 ⟨vs,H1,I1,r,q⟩=>⟨I1.kK,?_⟩) he hpl
 exact Kh F hr hb hd hx I1 r q
theorem Xy{pl:Sem Bool}(he:PE X o ta)(c:qb X.K C)(hm:Meth X.K C m f)(F:kj X.prog X.w X.K X.mg X.base CX k f fd ps sp)(hr:fD k X.A)(hb:Binds X.K fd ps ds)(hd:Vals jl ds)(hx:Passes CX X E)(ha:PA X (e::es) t)(hst:starEach (e::es) X.env=(false,eval e X.env)::starEach es X.env:=by rfl)(hpl:(backTo pos (starEach es X.env)).any (·.1)=false:=by rfl)(ht:eval (.Call (.Attribute o m apos) (e::es) [] pos) X.env=(do
    let ov <-eval o X.env
    standAt apos.atName
    let(f,first) <-holding [ov] (getMethod ov m pl)
    callWith pos f first (backTo pos (starEach (e::es) X.env)) (backToKw pos (keywordEach [] X.env))):=by rfl):
  PE X (.Call (.Attribute o m apos) (e::es) [] pos) (JN C m sp jl E ta t):=by
 intro pins s σ H Q I h
 refine PySem.W.methodCall_KW (pl:=pl) (bM (he pins s σ H _ I h) λu s1 ⟨x,H1,I1,rx,a,dx,fs,ex,ea,l,q⟩=>?_) ht
 subst ex
 obtain rfl:u=Value.ref a:=rx
 refine Dv I1 ea c hm l ?_
 refine PySem.W.callWith_K (first:=[.ref a]) (h₀:=X.base) I.ok.mod.RI hm.kp (bM (ha pos pins s1 σ H1 _ I1 q) λus s2 ⟨vs,H2,I2,r,q2⟩=>⟨I2.kK,?_⟩) hst hpl
 exact Kh (us:=.ref a::us) (vs:=.ref a::vs) F hr hb hd hx I2 (.cons rfl r) q2
theorem U7{pl:Sem Bool}(he:PE X o ta)(c:qb X.K C)(hm:Meth X.K C m f)(F:kj X.prog X.w X.K X.mg X.base CX k f fd ps sp)(hr:fD k X.A)(hb:Binds X.K fd ps ds)(hd:Vals jl ds)(hx:Passes CX X E)(ht:eval (.Call (.Attribute o m apos) [] [] pos) X.env=(do
    let ov <-eval o X.env
    standAt apos.atName
    let(f,first) <-holding [ov] (getMethod ov m pl)
    callWith pos f first (backTo pos (starEach [] X.env)) (backToKw pos (keywordEach [] X.env))):=by rfl):
  PE X (.Call (.Attribute o m apos) [] [] pos) (JN C m sp jl E ta rD):=by
 intro pins s σ H Q I h
 refine PySem.W.methodCall_KW (pl:=pl) (bM (he pins s σ H _ I h) λu s1 ⟨x,H1,I1,rx,a,dx,fs,ex,ea,l,q⟩=>?_) ht
 subst ex
 obtain rfl:u=Value.ref a:=rx
 refine Dv I1 ea c hm l ?_
 exact PySem.W.callWith_K0 (first:=[.ref a]) I1.kK hm.kp (Kh (us:=[.ref a]) (vs:=[.ref a]) F hr hb hd hx I1 (.cons rfl .nil) q)
structure Mk(K:Fg)(C f:Addr):Prop where
 makes:PySem.W.makesIn K C=true
 init:PySem.W.findIn K (.ref C) "__init__"=some (some (.ref f))
 fn:PySem.W.isFn K (.ref f)=true
 kp:PySem.W.keepIn K (.ref C)=true
theorem Kl(M:Mk X.K C f)(F:kj X.prog X.w X.K X.mg X.base CX k f fd ps sp)(hr:fD (k+1) X.A)(hb:Binds X.K fd ps ds)(hd:Vals jl ds)(hx:Passes CX X E)(I:Inv X pins σ H s)(r:Vals vs us)(h:∀x dx,H x=none->H dx=none->dx≠x->sp (.ref x::(vs++jl)) (upd (upd H dx (.own x)) x (.ins C dx [])) (λv H2=>v =.cy/\Q (.ref x) H2) E):
  wpAny (model X.prog X.w) X.A (call (.ref C) us) (EP X pins σ Q) X.xe s:=by
 have hq:=h (s.heap.objs.size+1) s.heap.objs.size (I.hok.fresh (Nat.le_succ _)) (I.hok.fresh (aL _)) (fY (Nat.lt_succ_self _))
 have I2:=Inv.made (C:=C) I
 have r2:Vals (V.ref (s.heap.objs.size+1)::(vs++jl)) (Value.ref (s.heap.objs.size+1)::(us++ds)):=.cons rfl (r.append hd)
 have hl:(Value.ref (s.heap.objs.size+1)::us++ds).length=ps.length:=by have e:=r2.length;rw[F.len _ _ _ _ hq]at e;exact e.symm
 refine wpAny_call (U3 (f:=f) I.kK M.makes M.init (uP.mp M.fn) (codeAny_mono (F.run _ X.stack _ _ ⟨Value.ref (s.heap.objs.size+1)::us,[]⟩ (Value.ref (s.heap.objs.size+1)::(us++ds)) _ _ E (hr.make C us [])
  (I2.ZF.make C us []) (hb _ (Value.ref (s.heap.objs.size+1)::us) I2.kK hl) r2 hq) λr s' hq'=>?_))
 cases r with
 | error e=>exact hx pins σ _ _ e s' I2 hq'
 | ok fl=>
   cases fl with
   | ret u=>
     obtain⟨v,H',I3,rv,ev,q3⟩:=I2.after hq'
     subst ev
     exact⟨rv,⟨V.ref (s.heap.objs.size+1),H',I3,Z,q3⟩⟩
   | next=>exact False.elim hq'
   | brk=>exact False.elim hq'
   | cont=>exact False.elim hq'
theorem Xz(M:Mk X.K C f)(F:kj X.prog X.w X.K X.mg X.base CX k f fd ps sp)(hr:fD (k+1) X.A)(hg:Gl X x)(hm:X.mg x=some (.ref C))(hb:Binds X.K fd ps ds)(hd:Vals jl ds)(hx:Passes CX X E)(ha:PA X (e::es) t)(hdb:(x==("__debug__":Str))=false:=by decide)(he:starEach (e::es) X.env=(false,eval e X.env)::starEach es X.env:=by rfl)(hpl:(backTo pos (starEach es X.env)).any (·.1)=false:=by rfl):
  PE X (.Call (.Name x p) (e::es) [] pos) (JO C sp jl E t):=by
 intro pins s σ H Q I h
 refine JZ (Bk I hg hm ?_ hdb)
 refine PySem.W.callWith_K (h₀:=X.base) I.ok.mod.RI M.kp (bM (ha pos pins s σ H _ I h) λus s1 ⟨vs,H1,I1,r,q⟩=>⟨I1.kK,?_⟩) he hpl
 exact Kl M F hr hb hd hx I1 r q
theorem U8(M:Mk X.K C f)(F:kj X.prog X.w X.K X.mg X.base CX k f fd ps sp)(hr:fD (k+1) X.A)(hg:Gl X x)(hm:X.mg x=some (.ref C))(hb:Binds X.K fd ps ds)(hd:Vals jl ds)(hx:Passes CX X E)(hdb:(x==("__debug__":Str))=false:=by decide):PE X (.Call (.Name x p) [] [] pos) (JO C sp jl E rD):=by
 intro pins s σ H Q I h
 refine JZ (Bk I hg hm ?_ hdb)
 exact PySem.W.callWith_K0 I.kK M.kp (Kl (us:=[]) M F hr hb hd hx I .nil h)
end
section
variable {X:Cx}{CX:z9}{k:Nat}{f C:Addr}{fd:FuncData}{ps ks:List Str}{sp:Sp}{E:XK}{x m:Str}{p pos apos kpos:Pos}{e o:Expr}{es:List Expr}{kws:List Keyword}{te ta:TE}{t tk:TA}{nm:Option Str}
variable {g:List Value->List Value->List Value}{gV:List V->List V->List V}
end
structure aP(N P:List Str)(sc:Scope):Prop where
 kind:sc.kind =.function
 co:sc.isCoroutine=false
 gen:sc.isGenerator=false
 nd:N.Nodup
 pre:N.take P.length=P
 par:∀x∈P,sc.names.lookup x=some .local\/sc.names.lookup x=some .cell
 ZJ:∀y∈sc.names,y.2 ≠ .free
theorem GV{kindOf:Str->Option NameKind}{x:Str}:∀{binds:List (Str×Value)}{m:SO},(∀v,(x,v)∉binds)->bindL kindOf binds m x=m x
 | [],_,_=>rfl
 | (n,v)::r,m,h=>by
  unfold bindL;rw[GV λw hw=>h w (cR _ hw)];split
  .have:x≠n:=by rintro rfl;exact h v cQ
   simp[this]
  .rfl
theorem GX{kindOf:Str->Option NameKind}{x:Str}:∀{binds:List (Str×Value)}{m:SO},(∀v,(x,v)∉binds)->bindC kindOf binds m x=m x
 | [],_,_=>rfl
 | (n,v)::r,m,h=>by
  unfold bindC;rw[GX λw hw=>h w (cR _ hw)];split
  .rfl
  .have:x≠n:=by rintro rfl;exact h v cQ
   simp[this]
theorem GY{kindOf:Str->Option NameKind}{x:Str}{v:Value}:∀{P:List Str}{vs:List Value}{i:Nat}{m:SO},P.Nodup->P[i]?=some x->vs[i]?=some v->kindOf x=some .local->bindL kindOf (P.zip vs) m x=some v
 | [],_,_,_,_,h,_,_=>by simp at h
 | _::_,[],_,_,_,_,h,_=>by simp at h
 | p::P,w::vs,0,m,nd,h1,h2,hk=>by simp at h1 h2;subst h1;subst h2;show bindL kindOf ((p,w)::P.zip vs) m p=_;unfold bindL;rw[GV λv hv=>(gP.mp nd).1 (List.of_mem_zip hv).1,ay hk];simp
 | p::P,w::vs,i+1,m,nd,h1,h2,hk=>by show bindL kindOf ((p,w)::P.zip vs) m x=_;unfold bindL;exact GY (i:=i) (gP.mp nd).2 (by simpa using h1) (by simpa using h2) hk
theorem GZ{kindOf:Str->Option NameKind}{x:Str}{v:Value}:∀{P:List Str}{vs:List Value}{i:Nat}{m:SO},P.Nodup->P[i]?=some x->vs[i]?=some v->kindOf x≠some .local->bindC kindOf (P.zip vs) m x=some v
 | [],_,_,_,_,h,_,_=>by simp at h
 | _::_,[],_,_,_,_,h,_=>by simp at h
 | p::P,w::vs,0,m,nd,h1,h2,hk=>by simp at h1 h2;subst h1;subst h2;show bindC kindOf ((p,w)::P.zip vs) m p=_;unfold bindC;rw[GX λv hv=>(gP.mp nd).1 (List.of_mem_zip hv).1,av hk];simp
 | p::P,w::vs,i+1,m,nd,h1,h2,hk=>by show bindC kindOf ((p,w)::P.zip vs) m x=_;unfold bindC;exact GZ (i:=i) (gP.mp nd).2 (by simpa using h1) (by simpa using h2) hk
def start(N:List Str)(vs:List V):St:=vs.map some++List.replicate (N.length-vs.length) none
def uc(CX:z9)(P:Program)(w:World)(K:Fg)(mg:SO)(base:Heap)(N:List Str)(qual:Str)(scope:Scope)(f:Addr)(cd:Value)(A:Around)(outer:List Env)(s:Shared)(H:Hp)(E:XK):Cx where
 prog:=P
 w:=w
 K:=K
 mg:=mg
 base:=base
 A:=A.deeper (envOfC qual scope s.heap.objs.size f cd)
 N:=N
 s₀:=s
 H₀:=H
 env:=envOfC qual scope s.heap.objs.size f cd
 outer:=outer
 stack:=envOfC qual scope s.heap.objs.size f cd::outer
 ex:=[]
 calm:=true
 fn:=λ_=>true
 pn:=[]
 xe:=λe s'=>wpAny (model P w) (A.deeper (envOfC qual scope s.heap.objs.size f cd)) (leaving (envOfC qual scope s.heap.objs.size f cd) e) (λ_ s''=>CX outer H s E e s'') (λe' s''=>CX outer H s E e' s'') s'
theorem Km{sc:Scope}(h:sc.names.lookup x=some .cell):∃c,(cellsFrom n sc.names []).lookup x=some c:=by have q:=PySem.W.cellsFrom_some sc.names n [] (.inl h);exact Option.isSome_iff_exists.mp q
variable {qual:Str}{scope:Scope}
theorem RX{cd:Value}{A:Around}{outer:List Env}{s1:Shared}{E:XK}(S:aP N ps scope)(hd:A.handled=none)(e0:Ct P w K mg base A outer s H)(hl:vs.length=ps.length)(r:Vals vs us)(x:InCallC s s.heap.objs.size (bindL (envOfC qual scope s.heap.objs.size f cd).kindOf (ps.zip us) λ_=>none) (cellsFrom (s.heap.objs.size+1) scope.names []) (bindC (envOfC qual scope s.heap.objs.size f cd).kindOf (ps.zip us) λ_=>none) s1):
  Inv (uc CX P w K mg base N qual scope f cd A outer s H E) [] (start N vs) H s1:=by
 have hpl:ps.length<=N.length:=by have:=iZ List.length S.pre;rw[t8]at this;omega
 obtain⟨h1,tk,rfl,hk⟩:=x.done
 have RY:∀b:Addr,b∉(uc CX P w K mg base N qual scope f cd A outer s H E).ex:=λb z=>absurd (show b∈([] :List Addr)from z) (by simp)
 refine⟨⟨e0.mod,S.kind,Z,Z,aL _,λy z c h1 h2=>?_,λy hy=>?_,λy c _ h=>?_,λ_=>hd,Around.frames_deeper e0.frames,.inr ⟨Z,Z⟩,λb z=>absurd z (RY b),e0.bs,e0.GR,λb _ _=>RY b,λb z=>absurd z (RY b),e0.t_,e0.J9⟩,
  rfl,e0.bare,Un.kept hk,⟨_,x.toInCall.ns,λi y v h1 h2 h3=>?_⟩,λy c h=>⟨_,x.cell y c h⟩,e0.hok.fresh (aL _),λy c h=>?_,λp hp=>absurd (show p∈([] :AO)from hp) (by simp),e0.hok.kept hk,?_⟩
 . exact name_of_addr x.apart (yz h1) (yz h2)
 . have hy:scope.names.lookup y=some .cell\/scope.names.lookup y=some .free:=hy
   rcases hy with hy|hy
   . exact Km hy
   . exact absurd rfl (S.ZJ _ (yz hy))
 . exact Bf (x.above y c (yz h))
 . have hi:i<vs.length:=by
    unfold start at h2
    by_cases hi:i<vs.length
    . exact hi
    . rw[De (by simpa using hi)]at h2
      rw[Qe]at h2
      split at h2 <;> cases h2
   have ha:vs[i]?=some v:=by
    unfold start at h2;rw[E8 (by simpa using hi),bQ]at h2;cases e:vs[i]? with
    | none=>rw[e]at h2;cases h2
    | some a=>rw[e]at h2;cases h2;rfl
   obtain⟨u,hu,rv⟩:=r.get ha
   have hp:ps[i]?=some y:=by rw[<-S.pre,List.getElem?_take_of_lt (by omega)];exact h1
   have ndP:ps.Nodup:=by rw[<-S.pre];exact S.nd.sublist (List.take_sublist _ _)
   refine⟨u,rv,?_⟩
   rcases S.par y (aY hp)with k|k
   . exact .inl ⟨k,GY ndP hp hu k⟩
   . obtain⟨c,e⟩:=Km (n:=s.heap.objs.size+1) k
     refine .inr ⟨.inl k,c,e,?_⟩
     have q:=x.cell y c e
     rw[GZ ndP hp hu (by show scope.names.lookup y≠_;rw[k];decide)]at q
     exact q
 . exact e0.hok.fresh (Bf (x.above y c (yz h)))
 . unfold start
   show _=N.length
   rw[c7,aE,iW]
   omega
variable {body:List Stmt}{doc pm cdv ct oc:Value}{an od:Option Addr}
theorem acN{k:Nat}{name:Str}{params:Arguments}{dV kV:Value}{osl:Array (Option Value)}{N ps:List Str}{sp:Sp}(lk:K.lookup f=some ⟨oc,od,.func (PySem.W.fnOf name qual params body scope dV kV doc pm an cdv ct),osl⟩)(hcd:PySem.W.codeIn K cdv qual=true)(S:aP N ps scope)(len:∀vs H Q E,sp vs H Q E->vs.length=ps.length)(hbody:∀(A:Around) (outer:List Env) (s:Shared) (H:Hp) (vs:List V) (Q:VK) (E:XK),fD k (A.deeper (envOfC qual scope s.heap.objs.size f cdv))->sp vs H Q E->
    ∃t,wY (uc CX P w K mg base N qual scope f cdv A outer s H E) body t/\t { nx:=λ_ H'=>Q .cy H',rt:=Q } (start N vs) H):
  kj P w K mg base CX (k+1) f (PySem.W.fnOf name qual params body scope dV kV doc pm an cdv ct) ps sp:=by
 refine⟨len,λA outer s H args us vs Q E hr e0 hb r vh=>?_⟩
 have hl:=len _ _ _ _ vh
 have KX:K.In s.heap:=e0.mod.RI.keeps λb o e=>(e0.bs b o e).1
 have lim:s.heap.NoLimit:=e0.mod.nolimit.keeps λb o e=>(e0.bs b o e).1
 have hkind:∀y∈ps.zip us,scope.names.lookup y.1=some .local\/(scope.names.lookup y.1=some .cell/\((cellsFrom (s.heap.objs.size+1) scope.names []).lookup y.1).isSome=true):=λ⟨n,v⟩ hy=>by
  rcases S.par n (List.of_mem_zip hy).1 with q|q
  .exact .inl q
  .exact .inr ⟨q,PySem.W.cellsFrom_some _ _ _ (.inl q)⟩
 refine codeAny_call_function hr.depth (KX _ _ lk) rfl S.co S.gen rfl (PySem.W.codeRec_of KX hcd) (hb _ _ _ _ ?_)
 refine wpAny_newFunctionEnv_cells S.kind hkind λenv he s1 x=>?_
 subst he
 refine⟨lim.keeps x.toInCall.keep,codeAny_func ?_⟩
 obtain⟨t,ht,hq⟩:=hbody A outer s H vs Q E (hr.deeper _) vh
 have I:Inv (uc CX P w K mg base N qual scope f cdv A outer s H E) [] (start N vs) H s1:=RX S hr.hd e0 hl r x
 refine jJ (ht [] s1 (start N vs) H _ I hq) (λfl s' hs=>?_) λe s' hs=>hs
 have fin:∀{σ':St}{H':Hp}{v:V}{u:Value},Inv (uc CX P w K mg base N qual scope f cdv A outer s H E) [] σ' H' s'->RelV v u->Q v H'->CE outer P w H s Q u s':=
  λ{σ' H' v u} J rv q=>⟨v,H',J.os,J.bare,J.base,J.hok,rv,q⟩
 cases fl with
 | ret u=>
   obtain⟨v,σ',H',J,rv,q⟩:=hs
   exact fin J rv q
 | next=>
   obtain⟨σ',H',J,q⟩:=hs
   exact fin (v:=V.cy) (u:=Value.none) J rfl q
 | brk=>
   obtain⟨_,_,_,q⟩:=hs
   exact False.elim q
 | cont=>
   obtain⟨_,_,_,q⟩:=hs
   exact False.elim q
section
variable {X:Cx}{x:Str}{p pos:Pos}{e:Expr}{es:List Expr}{t:TA}{id T:String}{r:List V->Hp->VK->Prop}
def af2(r:List V->Hp->VK->Prop)(Q:VK):List V->Hp->Prop:=λvs H1=>r vs H1 Q
def Wy(r:List V->Hp->VK->Prop)(t:TA):TE:=λσ H Q=>t σ H (af2 r Q)
end
end L2
namespace HT
open PySem PyProof.Rows
section
open PySem.SeqAt
open PySem.AutoSeq1 (wpAny_loadPart')
open PySem.MeetsSeq PySem.MeetsSeq2 PySem.MeetsSeq3
end
section
variable {prog:Program}{w:World}{A:Around}{E:VS}{s:Shared}
end
end HT
namespace L2
open PySem PySem.Spec PyProof.Rows
variable {ns:List Int}
theorem intsAre_of:∀{us:List Value},Vals (ns.map V.int) us->IntsAre us ns:=by
 induction ns with
 | nil=>intro us r;rw[List.map_nil]at r;cases r;exact .nil
 | cons n ns ih=>
  intro us r;rw[bF]at r;cases r with
  | cons r1 r2=>obtain⟨t,e⟩:=r1;subst e;exact .cons n t (ih r2)
section
variable {X:Cx}{e:Expr}{te:TE}{lo hi:Option Expr}{tl th:TO}{pos p2:Pos}
end
def Dy(n:Nat)(i:Int):Option Nat:=if 0<=i then(if i<n then some i.toNat else none) else if -(n:Int)<=i then some (i+n).toNat else none
def kL{α:Type}(xs:List α)(i:Int):Option α:=(Dy xs.length i).bind λj=>xs[j]?
variable {n j:Nat}
theorem OR{i:Int}(h:Dy n i=some j):seqIndex? i n=some j/\j<n/\-(n:Int)<=i/\i<n:=by
 unfold Dy at h;by_cases h0:0<=i
 .rw [ay h0]at h;by_cases h1:i<n
  .rw [ay h1]at h;have e:i.toNat=j:=gH h;exact⟨by rw[seqIndex_of h0 h1,e],by omega,by omega,h1⟩
  .rw [av h1]at h;cases h
 .rw [av h0]at h;by_cases h1:-(n:Int)<=i
  .rw [ay h1]at h;have e:(i+n).toNat=j:=gH h;exact⟨by rw[seqIndex_neg (by omega) h1,e],by omega,h1,by omega⟩
  .rw [av h1]at h;cases h
theorem Bo{α:Type}{xs:List α}{i:Int}{v:α}(h:kL xs i=some v):∃j,seqIndex? i xs.length=some j/\xs[j]?=some v/\j<xs.length/\-(xs.length:Int)<=i/\i<xs.length:=by
 unfold kL at h;cases e:Dy xs.length i with
 | none=>rw[e]at h;cases h
 | some j=>rw[e]at h;obtain⟨h1,h2,h3,h4⟩:=OR e;exact⟨j,h1,h,h2,h3,h4⟩
theorem aB{α:Type}{xs:List α}{v:α}(h:xs[j]?=some v):kL xs (j:Int)=some v:=by
 have hj:j<xs.length:=(dj.mp h).1;have e:Dy xs.length (j:Int)=some j:=by unfold Dy;rw[ay (by omega),ay (by omega)];simp
 unfold kL;rw[e];exact h
def XA(b:Expr):Prop:=∀o i,subscripted b false o i=operate [o,i] (getItem o i)
def zM(X:Cx)(r:R2):Prop:=∀(value slice:Expr)(pins:AO)(s:Shared)(σ:St)(H:Hp)(x y:V)(v u:Value)(Q:VK),Inv X pins σ H s->RelV x v->RelV y u->r x y H Q->subscripted slice false v u=operate [v,u] (getItem v u)->wpAny (model X.prog X.w) X.A (subscriptTail value slice v u) (EP X pins σ Q) X.xe s
def MtR(X:Cx)(id:String)(r:V->List V->Hp->VK->Prop):Prop:=∀(pins:AO)(s:Shared)(σ:St)(H:Hp)(x:V)(xs:List V)(v:Value)(us:List Value)(Q:VK),Inv X pins σ H s->RelV x v->Vals xs us->r x xs H Q->wpAny (model X.prog X.w) X.A (call (.builtin id) (v::us)) (EP X pins σ Q) X.xe s
variable {pins:AO}{σ:St}{H:Hp}{s:Shared}{xs:List V}{its its':List Value}{y:V}{u:Value}
section
variable {X:Cx}{a b:Expr}{ta tb:TE}{pos:Pos}
theorem zM.or{r r':R2}(h:zM X r)(h':zM X r'):zM X (λx y H Q=>r x y H Q\/r' x y H Q):=by
 intro value slice pins s σ H x y v u Q I rx ry q hs;rcases q with q|q
 .exact h value slice pins s σ H x y v u Q I rx ry q hs
 .exact h' value slice pins s σ H x y v u Q I rx ry q hs
inductive QE(K:Fg)(x:V)(y:V)(H:Hp)(Q:VK):Prop
 |mk(p xs i v:_)(_:x =.ref p)(_:y =.int i)(_:aD K H p xs)(_:kL xs i=some v)(_:Q v H)
inductive QF(K:Fg)(x:V)(y:V)(H:Hp)(Q:VK):Prop
 |mk(p xs i v:_)(_:x =.ref p)(_:y =.int i)(_:dU K H p xs)(_:kL xs i=some v)(_:Q v H)
inductive ZK(x:V)(y:V)(H:Hp)(Q:VK):Prop
 |mk(z i c:_)(_:x =.str z)(_:y =.int i)(_:z.length<=sizeLine)(_:kL z.cps.toList i=some c)(_:Q (.str ⟨#[c]⟩) H)
theorem OS:zM X (QE X.K):=by
 intro value slice pins s σ H x y v u Q I rx ry h hs;obtain⟨p,xs,i,z,rfl,rfl,hq,he,q⟩:=h;cases rx;obtain⟨t,rfl⟩:=ry;obtain⟨its,r,pl,hz⟩:=I.list hq;obtain⟨j,h1,h2,h3,h4,h5⟩:=Bo he;obtain⟨w,ew,rw'⟩:=r.get h2;have hl:=r.length;have hn:=vg;have fin:EP X pins σ Q w s:=⟨z,H,I,rw',q⟩
 by_cases h0:0<=i
 .have hj:i.toNat=j:=by rw[seqIndex_of h0 h5]at h1;exact gH h1
  exact item_listR pl.isList h0 (by omega) (by rw[hj];simpa using ew) fin hs
 .have hj:(i+(its.toArray.size:Int)).toNat=j:=by rw[seqIndex_neg (by omega) h4]at h1;rw[iX,<-hl];exact gH h1
  exact subscriptTail_builtinR (x:=w) pl.isList.typeIs slot_list_getitem.lookup
   (wpAny_getItem_list_neg (Q:=λr s'=>r=w/\EP X pins σ Q r s') pl.isList (by omega) (by rw[iX] <;> omega) (by omega) (by rw[hj];simpa using ew) ⟨Z,fin⟩) hs
theorem RZ:zM X (QF X.K):=by
 intro value slice pins s σ H x y v u Q I rx ry h hs;obtain⟨p,xs,i,z,rfl,rfl,hq,he,q⟩:=h;cases rx;obtain⟨t,rfl⟩:=ry;obtain⟨its,r,pl,hz⟩:=I.tuple hq;obtain⟨j,h1,h2,h3,h4,h5⟩:=Bo he;obtain⟨w,ew,rw'⟩:=r.get h2;have hl:=r.length;have hn:=vg;have fin:EP X pins σ Q w s:=⟨z,H,I,rw',q⟩
 exact subscriptTail_builtinR (x:=w) pl.typeIs slot_tuple_getitem.lookup
  (getItem_tuple (j:=j) (Q:=λr s'=>r=w/\EP X pins σ Q r s') pl (by omega) (by omega) (by rw[iX,<-hl];exact h1) (by simpa using ew) ⟨Z,fin⟩) hs
theorem R0:zM X ZK:=by
 intro value slice pins s σ H x y v u Q I rx ry h hs;obtain⟨z,i,c,rfl,rfl,hz,he,q⟩:=h;obtain⟨t,rfl⟩:=rx;obtain⟨t',rfl⟩:=ry;obtain⟨j,h1,h2,h3,h4,h5⟩:=Bo he;have hl:z.cps.toList.length=z.length:=by simp[Str.length]
 rw[hl]at h1 h4 h5;have hn:=vg;exact tail_any (typeIs_str s z t) slot_str_getitem.lookup (getItem_str (c:=c) (by have e1:decide (i < -(2 ^ 63:Int))=false:=dB (by omega);have e2:decide (i≥2 ^ 63)=false:=dB (by omega);rw[e1,e2,Bool.or_false]) (by rw[h1];simpa using h2) ⟨.str ⟨#[c]⟩,H,I.tok _,⟨_,Z⟩,q⟩) hs
def ZL(K:Fg):R2:=λx y H Q=>QE K x y H Q\/QF K x y H Q\/ZK x y H Q
theorem ZM:zM X (ZL X.K):=OS.or (RZ.or R0)
theorem QG(its:List Value)(n j:Nat)(u:Value):Obj.mapSeq (·.setIfInBounds j u) { cls:=.type "list",data:=.seq its.toArray n }={ cls:=.type "list",data:=.seq (its.set j u).toArray n }:=by simp[Obj.mapSeq]
theorem Inv.lst{pins:AO}{σ:St}{H:Hp}{s:Shared}{p:Addr}{xs:List V}(I:Inv X pins σ H s)(h:H p=some (.lst xs)):∃(its:List Value)(n:Nat),Vals xs its/\s.heap.get? p=some { cls:=.type "list",data:=.seq its.toArray n }/\xs.length<=sizeLine:=by obtain⟨z,its,n,r,e⟩:=I.hok p _ h;exact⟨its,n,r,e,z⟩
theorem Inv.ZN{p:Addr}{ys:List V}{n':Nat}{f:Obj->Obj}(I:Inv X pins σ H s)(h:H p=some (.lst xs))(ho:s.heap.get? p=some { cls:=.type "list",data:=.seq its.toArray n })(hf:f { cls:=.type "list",data:=.seq its.toArray n }={ cls:=.type "list",data:=.seq its'.toArray n' })(r:Vals ys its')(hz:ys.length<=sizeLine)(t:Nat):
  Inv X pins σ (upd H p (.lst ys)) { s with heap:=s.heap.update p f,toks:=t }:=by
 have e:(s.heap.update p f).get? p=some { cls:=.type "list",data:=.seq its'.toArray n' }:=by rw[Qh f ho (by rw[hf] <;> rfl),hf]
 refine I.write (x:=p) (e:=p) (by rw[h];trivial) (.inl rfl) (λb u hb q=>(Heap.get?_update_other _ _ (cO hb)).trans q) ⟨_,e⟩ ?_
 exact⟨hz,its',n',r,e⟩
inductive acO(o:V)(i:V)(v:V)(H:Hp)(Q:Hp->Prop):Prop
 |mk(p xs k j:_)(_:o =.ref p)(_:i =.int k)(_:H p=some (.lst xs))(_:Dy xs.length k=some j)(_:Q (upd H p (.lst (xs.set j v))))
theorem set_list:UP X acO:=by
 intro pins s σ H o i v ov iv u Q I ro ri rv h;obtain⟨p,xs,k,j,rfl,rfl,hp,hj,q⟩:=h;cases ro;obtain⟨t,rfl⟩:=ri;obtain⟨its,n,r,ho,hz⟩:=I.lst hp;obtain⟨h1,h2,h3,h4⟩:=OR hj;have hl:=r.length;have hn:=vg;have I':Inv X pins σ (upd H p (.lst (xs.set j v))) { s with heap:=s.heap.update p (Obj.mapSeq (·.setIfInBounds j u)) }:=
  I.ZN hp ho (QG its n j u) (r.set rv j) (by rw[eX];exact hz) s.toks
 by_cases h0:0<=k
 .have hk:k.toNat=j:=by rw[seqIndex_of h0 h4]at h1;exact gH h1
  exact PySem.W.ki_setAt ho h0 (by omega) (by rw[iX,<-hl];exact h4) (by rw[hk];exact⟨_,I',q⟩)
 .have hk:(k+(its.toArray.size:Int)).toNat=j:=by rw[seqIndex_neg (by omega) h3]at h1;rw[iX,<-hl];exact gH h1
  exact PySem.W.ki_setBack ho (by omega) (by rw[iX,<-hl];exact h3) (by omega) (by rw[hk];exact⟨_,I',q⟩)
def uQ:V->Bool
 | .cy=>true
 | .bl _=>true
 | .int _=>true
 | .str _=>true
 | _=>false
def zN:V->V->Bool
 | .cy,.cy=>true
 | .bl a,.bl b=>a==b
 | .bl a,.int b=>(if a then 1 else 0)==b
 | .int a,.bl b=>a==(if b then 1 else 0)
 | .int a,.int b=>a==b
 | .str a,.str b=>a==b
 | _,_=>false
theorem ZO{A:Around}{x:V}{v:Value}(ry:RelV y u)(rx:RelV x v)(fy:uQ y=true)(fx:uQ x=true):SeqAt.EqAt A s u v (zN y x):=by
 cases y with
 | cy=>
  cases ry;cases x with
  | cy=>cases rx;exact SeqAt.EqAt.same _
  | bl b=>cases rx;exact SeqAt.EqAt.none_bool b
  | int b=>obtain⟨t,rfl⟩:=rx;exact SeqAt.EqAt.none_int b t
  | str b=>obtain⟨t,rfl⟩:=rx;exact SeqAt.EqAt.none_str b t
  | _=>exact absurd (show false=true from fx) gC
 | bl a=>
  cases ry;cases x with
  | cy=>cases rx;exact SeqAt.EqAt.bool_none a
  | bl b=>cases rx;exact SeqAt.EqAt.bool_bool a b
  | int b=>obtain⟨t,rfl⟩:=rx;exact SeqAt.EqAt.bool_int a b t
  | str b=>obtain⟨t,rfl⟩:=rx;exact SeqAt.EqAt.bool_str a b t
  | _=>exact absurd (show false=true from fx) gC
 | int a=>
  obtain⟨t',rfl⟩:=ry;cases x with
  | cy=>cases rx;exact SeqAt.EqAt.int_none a t'
  | bl b=>cases rx;exact SeqAt.EqAt.int_bool a t' b
  | int b=>obtain⟨t,rfl⟩:=rx;exact SeqAt.EqAt.int_int a t' b t
  | str b=>obtain⟨t,rfl⟩:=rx;exact SeqAt.EqAt.int_str a t' b t
  | _=>exact absurd (show false=true from fx) gC
 | str a=>
  obtain⟨t',rfl⟩:=ry;cases x with
  | cy=>cases rx;exact SeqAt.EqAt.str_none a t'
  | bl b=>cases rx;exact SeqAt.EqAt.str_bool a t' b
  | int b=>obtain⟨t,rfl⟩:=rx;exact SeqAt.EqAt.str_int a t' b t
  | str b=>obtain⟨t,rfl⟩:=rx;exact SeqAt.EqAt.str_str a t' b t
  | _=>exact absurd (show false=true from fx) gC
 | _=>exact absurd (show false=true from fy) gC
def Dz(x:V)(u:Value):Bool:=match u with
 | .none=>zN .cy x
 | .bool b=>zN (.bl b) x
 | .int i _=>zN (.int i) x
 | .str z _=>zN (.str z) x
 | _=>false
theorem R1{x:V}(r:RelV y u)(f:uQ y=true):Dz x u=zN y x:=by
 cases y with
 | cy=>cases r;rfl
 | bl b=>cases r;rfl
 | int i=>obtain⟨t,rfl⟩:=r;rfl
 | str z=>obtain⟨t,rfl⟩:=r;rfl
 | _=>exact absurd (show false=true from f) gC
theorem Fq{x:V}:∀{xs:List V}{us:List Value},Vals xs us->xs.all uQ=true->us.any (Dz x)=xs.any λy=>zN y x
 | _,_,.nil,_=>rfl
 | y::xs,u::us,.cons r t,f=>by rw[List.all_cons,Bool.and_eq_true]at f;rw[Di,Di,R1 r f.1,Fq t f.2]
theorem Cu{A:Around}{s:Shared}{x:V}{v:Value}(rx:RelV x v)(fx:uQ x=true):∀{xs:List V}{us:List Value},Vals xs us->xs.all uQ=true->∀u∈us,SeqAt.EqAt A s u v (Dz x u)
 | _,_,.nil,_=>λu hu=>by cases hu
 | y::xs,u::us,.cons r t,f=>λu' hu=>by
  rw[List.all_cons,Bool.and_eq_true]at f;rcases eZ.mp hu with rfl|hu
  .rw [R1 r f.1];exact ZO r rx f.1 fx
  .exact Cu rx fx t f.2 u' hu
def OT(x:V)(xs:List V):Bool:=xs.any λy=>zN y x
inductive rIn(K:Fg)(neg:Bool)(x:V)(y:V)(H:Hp)(Q:VK):Prop
 |mk(p xs:_)(_:y =.ref p)(_:(aD K H p xs\/dU K H p xs))(_:uQ x=true)(_:xs.all uQ=true)(_:Q (.bl (if neg then !OT x xs else OT x xs)) H)
theorem R3:j7 X (compareOp .In) (rIn X.K false):=by
 intro pins s σ H x y v u Q I rx ry h;obtain⟨p,xs,rfl,hq,fx,fs,q⟩:=h;cases ry;rcases hq with hq|hq
 .obtain ⟨its,r,pl,hz⟩:=I.list hq;refine SeqAt.in_listAt (Dz x) pl.isList (λw hw=>Cu rx fx r fs w (by simpa using hw)) ⟨.bl _,H,I,Z,?_⟩;rw[show its.toArray.any (Dz x)=its.any (Dz x) by simp,Fq r fs];exact q
 .obtain ⟨its,r,pl,hz⟩:=I.tuple hq;refine SeqAt.in_tupleAt (Dz x) pl (λw hw=>Cu rx fx r fs w (by simpa using hw)) ⟨.bl _,H,I,Z,?_⟩;rw[show its.toArray.any (Dz x)=its.any (Dz x) by simp,Fq r fs];exact q
theorem Kn:iH X (.builtin "len") (λxs H Q=>∃p ys,xs=[.ref p]/\(aD X.K H p ys\/dU X.K H p ys)/\Q (.int ys.length) H):=by
 intro pins s σ H xs us Q I r h;obtain⟨p,ys,rfl,hq,q⟩:=h;obtain⟨u,rfl,rx⟩:=vals1 r;cases rx;have hn:=vg;rcases hq with hq|hq
 .obtain ⟨its,r',pl,hz⟩:=I.list hq;have hlen:=r'.length;exact Calls.call_len_list pl.isList (by simp only[iX] <;> omega) ⟨.int ys.length,H,I.tok _,⟨s.toks+1,by rw[iX,hlen]⟩,q⟩
 .obtain ⟨its,r',pl,hz⟩:=I.tuple hq;have hlen:=r'.length;exact len_tuple pl (by simp only[iX] <;> omega) ⟨.int ys.length,H,I.tok _,⟨s.toks+1,by rw[iX,hlen]⟩,q⟩
theorem Ko:iH X (.builtin "len") (λxs H Q=>∃z,xs=[.str z]/\z.length<=sizeLine/\Q (.int z.length) H):=by intro pins s σ H xs us Q I r h;obtain⟨z,rfl,hz,q⟩:=h;obtain⟨u,rfl,t,rfl⟩:=vals1 r;have hn:=vg;exact len_str (by omega) ⟨.int z.length,H,I.tok _,⟨_,Z⟩,q⟩
theorem Kq:iH X (.type "list") (λxs H Q=>∃p ys,xs=[.ref p]/\(aD X.K H p ys\/dU X.K H p ys)/\∀l,H l=none->Q (.ref l) (upd H l (.lst ys))):=by
 intro pins s σ H xs us Q I r h;obtain⟨p,ys,rfl,hq,q⟩:=h;obtain⟨u,rfl,rx⟩:=vals1 r;cases rx;have fin:∀(its:List Value),Vals ys its->ys.length<=sizeLine->∀(h':Heap)(c':Nat),(∀b o',s.heap.get? b=some o'->h'.get? b=some o')->
   h'.get? s.heap.objs.size=some { cls:=.type "list",dict:=none,data:=.seq its.toArray c',slots:=#[] }->EP X pins σ Q (.ref s.heap.objs.size) { s with heap:=h' }:=λits r' hz h' c' kp e=>
  ⟨.ref s.heap.objs.size,_,I.laid (t':=s.toks) kp (aL _) (show e_ X.prog X.w _ h' _ (.lst ys)from⟨hz,its,c',r',e⟩),Z,q _ (I.hok.fresh (aL _))⟩
 rcases hq with hq|hq
 .obtain ⟨its,r',pl,hz⟩:=I.list hq;have hlen:=r'.length;obtain⟨o,ho,hc,n,hd⟩:=pl.isList;exact call_list_seq p (.inl rfl) ho hc hd (λh' c' kp e=>fin its r' hz h' c' kp e) (by simp only[iX] <;> omega)
 .obtain ⟨its,r',pl,hz⟩:=I.tuple hq;have hlen:=r'.length;obtain⟨o,ho,hc,n,hd⟩:=pl;exact call_list_seq p (.inr rfl) ho hc hd (λh' c' kp e=>fin its r' hz h' c' kp e) (by simp only[iX] <;> omega)
theorem Il:iH X (.type "tuple") (λxs H Q=>∃p ys,xs=[.ref p]/\((aD X.K H p ys/\∀l,H l=none->Q (.ref l) (upd H l (.tup ys)))\/(dU X.K H p ys/\Q (.ref p) H))):=by
 intro pins s σ H xs us Q I r h;obtain⟨p,ys,rfl,h⟩:=h;obtain⟨u,rfl,rx⟩:=vals1 r;cases rx;rcases h with⟨hq,q⟩|⟨hq,q⟩
 .obtain ⟨its,r',pl,hz⟩:=I.list hq;have hlen:=r'.length;refine call_tuple_list pl.isList (λh' kp=>?_) (by simp only[iX] <;> omega);have I1:Inv X pins σ H { s with heap:=h' }:=I.kept (t':=s.toks) kp;have I2:Inv X pins σ (upd H h'.objs.size (.tup ys)) { s with heap:=h'.push { cls:=.type "tuple",data:=.seq its.toArray } }:=
   I1.laid (t':=s.toks) (λb o e=>cV _ e) (aL _) (show e_ X.prog X.w _ _ _ (.tup ys)from⟨hz,its,r',IsTup.new _ _⟩)
  exact⟨.ref h'.objs.size,_,I2,Z,q _ (I1.hok.fresh (aL _))⟩
 .obtain ⟨its,r',pl,hz⟩:=I.tuple hq;exact call_tuple_same pl ⟨.ref p,H,I,Z,q⟩
def tyV(K:Fg)(T:String)(x:V)(H:Hp):Prop:=match x with
 | .str _=>T = "str"
 | .int _=>T = "int"
 | .ref p=>(T = "list"/\∃xs,aD K H p xs)\/(T = "tuple"/\∃o,K.lookup p=some o/\o.cls =.type "tuple"/\o.dict=none)\/
     (T = "dict"/\((∃kvs,H p=some (.dK kvs))\/∃kvs,H p=some (.dT kvs)))\/(T = "set"/\∃S n,H p=some (.set S n))
 | _=>False
theorem ZP{T:String}{x:V}{v:Value}(I:Inv X pins σ H s)(r:RelV x v)(ty:tyV X.K T x H):s.TypeIs v T/\∀a,v =.ref a->∃ob,s.heap.get? a=some ob/\ob.dict=none:=by
 cases x with
 | str z=>obtain⟨t,rfl⟩:=r;cases(show T = "str" from ty);exact⟨typeIs_str s z t,λ_ e=>nomatch e⟩
 | int i=>obtain⟨t,rfl⟩:=r;cases(show T = "int" from ty);exact⟨typeIs_int s i t,λ_ e=>nomatch e⟩
 | ref p=>
  cases r;rcases ty with⟨rfl,xs,hq⟩|⟨rfl,o,hk,hc,hd⟩|⟨rfl,hk⟩|⟨rfl,S,n,hk⟩
  .obtain ⟨its,_,pl,_⟩:=I.list hq;refine⟨pl.isList.typeIs,λa e=>?_⟩;cases e;obtain⟨o,n,e,c,hd,_⟩:=pl;exact⟨o,e,hd⟩
  .refine ⟨⟨o,I.kK p o hk,hc⟩,λa e=>?_⟩;cases e;exact⟨o,I.kK _ o hk,hd⟩
  .have z:∃o,s.heap.get? p=some o/\o.ExactDict:=by
    rcases hk with⟨kvs,hk⟩|⟨kvs,hk⟩
    .obtain ⟨_,_,_,_,o,_,_,e,ex,_⟩:=I.hok p _ hk;exact⟨o,e,ex⟩
    .obtain ⟨_,_,_,_,o,_,_,e,ex,_⟩:=I.hok p _ hk;exact⟨o,e,ex⟩
   obtain⟨o,e,ex⟩:=z;refine⟨⟨o,e,ex.1⟩,λa e2=>?_⟩;cases e2;exact⟨o,e,ex.2.1⟩
  .obtain ⟨o,_,_,_,e,ex,_⟩:=I.hok p _ hk;refine⟨⟨o,e,ex.1⟩,λa e2=>?_⟩;cases e2;exact⟨o,e,ex.2.1⟩
 | _=>exact False.elim ty
def ZQ(r:V->List V->Hp->VK->Prop)(Q:VK)(x:V):List V->Hp->Prop:=λxs H2=>r x xs H2 Q
inductive af3(K:Fg)(T:String)(r:V->List V->Hp->VK->Prop)(t:TA)(σ:St)(Q:VK)(x:V)(H1:Hp):Prop
 |mk(_:tyV K T x H1)(_:t σ H1 (ZQ r Q x))
def tBM(K:Fg)(T:String)(r:V->List V->Hp->VK->Prop)(to:TE)(t:TA):TE:=λσ H Q=>to σ H (af3 K T r t σ Q)
variable {o e:Expr}{es:List Expr}{to:TE}{t:TA}{name:Str}{apos cpos:Pos}{T id:String}{r:V->List V->Hp->VK->Prop}
end
def MtM(X:Cx)(id:String)(r:V->List V->Hp->VK->Prop):Prop:=∀(pins:AO)(s:Shared)(σ:St)(H:Hp)(x:V)(xs:List V)(v:Value)(us:List Value)(Q:VK),Inv X pins σ H s->RelV x v->Vals xs us->r x xs H Q->wpAny (model X.prog X.w) X.A (call (.builtin id) (v::us)) (EP X pins σ Q) X.xe s
theorem Vals.one:∀{x:V}{us:List Value},Vals [x] us->∃u,us=[u]/\RelV x u
 | _,_,.cons r .nil=>⟨_,Z,r⟩
variable {us:List Value}
theorem Vals.reverse(h:Vals xs us):Vals xs.reverse us.reverse:=by
 induction h with
 | nil=>exact .nil
 | cons r t ih=>rw[List.reverse_cons,List.reverse_cons];exact Vals.append ih (.cons r .nil)
theorem Vals.rep{xs:List V}{us:List Value}(h:Vals xs us):∀k:Nat,Vals (List.replicate k xs).flatten (List.replicate k us).flatten
 | 0=> .nil
 | k+1=>by rw[yC,yC,Qq,Qq];exact Vals.append h (Vals.rep h k)
theorem foldl_rep(its:List Value):∀(k:Nat)(acc:List Value),List.foldl (λx1 x2=>x1++x2) acc.toArray (List.replicate k its.toArray)=(acc++(List.replicate k its).flatten).toArray
 | 0,acc=>by simp
 | k+1,acc=>by
  have e:acc.toArray++its.toArray=(acc++its).toArray:=by simp
  have e2:(acc++its)++(List.replicate k its).flatten=acc++(List.replicate (k+1) its).flatten:=by rw[yC,Qq,J4]
  rw[<-e2,<-foldl_rep its k (acc++its),<-e,yC,j8]
variable {t':Nat}
section
variable {X:Cx}{pins:AO}{σ:St}{H:Hp}{s:Shared}{l b:Addr}{xs ys zs:List V}
theorem Inv.af4{f:Array Value->Array Value}(I:Inv X pins σ H s)(hH:H l=some (.lst xs))(e:s.heap.get? l=some { cls:=.type "list",data:=.seq its.toArray n })(hf:f its.toArray=its'.toArray)(hv:Vals ys its')(hz:ys.length<=sizeLine):
  Inv X pins σ (upd H l (.lst ys)) { s with heap:=s.heap.update l (Obj.mapSeq f),toks:=t' }:=by
 have q:=PySem.IsL.update e f
 rw[hf]at q
 refine I.write (x:=l) (e:=l) (by rw[hH];exact trivial) (.inl rfl) (λb' u hb hu=>(Heap.get?_update_other s.heap (Obj.mapSeq f) (cO hb)).trans hu) ⟨_,q⟩ ?_
 exact⟨hz,its',_,hv,q⟩
theorem Inv.ZR(I:Inv X pins σ H s)(hv:Vals ys its)(hz:ys.length<=sizeLine):Inv X pins σ (upd H s.heap.objs.size (.lst ys)) { s with heap:=s.heap.push { cls:=.type "list",data:=.seq its.toArray },toks:=t' }:=I.laid (λ_ _ q=>cV _ q) (aL _) ⟨hz,its,0,hv,fC _ rfl⟩
theorem Inv.fresh(I:Inv X pins σ H s):H s.heap.objs.size=none:=I.hok.fresh (aL _)
theorem Inv.QH(I:Inv X pins σ H s)(hH:H l=some (.lst xs)):xs.length<=sizeLine/\∃(its:List Value)(n:Nat),Vals xs its/\xs.length=its.length/\s.heap.get? l=some { cls:=.type "list",data:=.seq its.toArray n }:=by obtain⟨z,its,n,r,e⟩:=I.hok l _ hH;exact⟨z,its,n,r,r.length,e⟩
theorem U9(h:n<=sizeLine):Builtin.List.listTooLong n=false:=by unfold Builtin.List.listTooLong;exact dB (by omega)
end
section
variable {X:Cx}
inductive XC(x:V)(vs:List V)(H:Hp)(Q:VK):Prop
 |mk(l xs y:_)(_:x =.ref l)(_:vs=[y])(_:H l=some (.lst xs))(_:xs.length<sizeLine)(_:Q .cy (upd H l (.lst (xs++[y]))))
theorem eV:MtM X "list.append" XC:=by intro pins s σ H x vs v us Q I rx rv h;obtain⟨l,xs,y,rfl,rfl,hH,hz,q⟩:=h;cases rx;obtain⟨u,rfl,ru⟩:=rv.one;obtain⟨z,its,n,r,hl,e⟩:=I.QH hH;refine call_meets F.slot_list_append ⟨_,e,Z⟩ F.entry_list_append (F.args_list_append_2 _ _) (PySem.list_append l its.toArray n u (by rw[iX];omega)) ⟨e,?_⟩;refine⟨.cy,_,I.af4 (its':=its++[u]) hH e (by simp) (r.append (.cons ru .nil)) ?_,Z,q⟩;rw[c7,List.length_singleton];omega
inductive ZS(x:V)(y:V)(H:Hp)(Q:VK):Prop
 |mk(l b xs zs:_)(_:x =.ref l)(_:y =.ref b)(_:H l=some (.lst xs))(_:H b=some (.lst zs))(_:xs.length+zs.length<=sizeLine)(_:∀p,H p=none->Q (.ref p) (upd H p (.lst (xs++zs))))
theorem R4:j7 X (binaryOp .Add) ZS:=by
 intro pins s σ H x y v u Q I rx ry h;obtain⟨l,b,xs,zs,rfl,rfl,hH,hB,hz,q⟩:=h;cases rx;cases ry;obtain⟨z,its,n,r,hl,e⟩:=I.QH hH;obtain⟨z2,its2,n2,r2,hl2,e2⟩:=I.QH hB;refine PySem.P.add_list e e2 ?_ (by rw[iX,iX];omega);have ea:its.toArray++its2.toArray=(its++its2).toArray:=by simp
 rw[ea];exact⟨.ref _,_,I.ZR (t':=s.toks) (r.append r2) (by rw[c7];omega),Z,q _ I.fresh⟩
inductive af5(x:V)(y:V)(H:Hp)(Q:VK):Prop
 |mk(l k xs:_)(_:x =.ref l)(_:y =.int k)(_:H l=some (.lst xs))(_:-(2 ^ 63)<=k)(_:k<2 ^ 63)(_:xs.length*k.toNat<=sizeLine)(_:∀p,H p=none->Q (.ref p) (upd H p (.lst (List.replicate k.toNat xs).flatten)))
theorem len_rep{α:Type}(xs:List α)(k:Nat):(List.replicate k xs).flatten.length=k*xs.length:=by
 induction k with
 | zero=>simp
 | succ k ih=>rw[yC,Qq,c7,ih,Nat.succ_mul,Nat.add_comm]
theorem R5:j7 X (binaryOp .Mult) af5:=by
 intro pins s σ H x y v u Q I rx ry h;obtain⟨l,k,xs,rfl,rfl,hH,h1,h2,hz,q⟩:=h;cases rx;obtain⟨t,rfl⟩:=ry;obtain⟨z,its,n,r,hl,e⟩:=I.QH hH;have hlen:its.toArray.size*k.toNat<=sizeLine:=by rw[iX,<-hl];exact hz
 have hcap:¬ its.toArray.size*k.toNat>(2 ^ 63-1) / 8:=by
  have:(sizeLine:Nat)<=(2 ^ 63-1) / 8:=by decide
  omega
 have hfit:¬ (!Builtin.List.listFitsIndex k)=true:=by rw[fitsIndex_both h1 h2];exact gC
 have acP:¬ Builtin.List.listTooLong (its.toArray.size*k.toNat)=true:=by rw[U9 hlen];exact gC
 have hnew:List.foldl (λx1 x2=>x1++x2) #[] (List.replicate (if its.toArray.isEmpty=true then 0 else k.toNat) its.toArray)=(List.replicate k.toNat its).flatten.toArray:=by
  have f0:∀m:Nat,List.foldl (λx1 x2=>x1++x2) #[] (List.replicate m its.toArray)=(List.replicate m its).flatten.toArray:=λm=>by have:=foldl_rep its m [];rw[JC]at this;exact this
  rw[f0];cases its with
  | nil=>simp
  | cons a r'=>rw[av (by simp)]
 refine wpAny_binaryOp_repeat_ref (T:="list") (U:="int") (by decide) ⟨_,e,Z⟩ (λs'=>typeIs_int s' k t) noFill_list_mul F.fills_int_mul F.slot_int_rmul repeat_list F.slot_int_index.lookup
  (call_meets F.slot_int_rmul (typeIs_int s k t) F.entry_int_rmul (F.args_int_rmul_2 _ _) (int___rmul___int_list k t l its.toArray n)
    ⟨e,Z,⟨_,e,Z⟩,call_meets F.slot_list_mul ⟨_,e,Z⟩ F.entry_list_mul (F.args_list_mul_2 _ _) (AutoListH.list___mul___list_int_3 l its.toArray n k t hfit hcap acP) ⟨e,?_⟩⟩)
 rw[hnew];exact⟨.ref _,_,I.ZR (t':=s.toks) (r.rep k.toNat) (by rw[len_rep,Nat.mul_comm];exact hz),Z,q _ I.fresh⟩
end
section
variable {prog:Program}{w:World}{A:Around}{E:VS}{s:Shared}
set_option maxRecDepth 100000 in
end
section
variable {X:Cx}
end
section
variable {κ:Type}[DecidableEq κ]
def dY(kvs:List (κ×V))(k:κ):Option V:=(kvs.find? λkv=>decide (kv.1=k)).map (·.2)
def putK(kvs:List (κ×V))(k:κ)(v:V):List (κ×V):=if(kvs.any λkv=>decide (kv.1=k))=true then kvs.map (λkv=>if kv.1=k then(kv.1,v) else kv) else kvs++[(k,v)]
def mZ(kvs:List (κ×V))(k:κ):List (κ×V):=kvs.filter λkv=>decide (kv.1≠k)
theorem gT{p:κ×V}{r:List (κ×V)}{k:κ}(e:p.1=k):dY (p::r) k=some p.2:=by simp[dY,p8,e]
theorem fE{p:κ×V}{r:List (κ×V)}{k:κ}(e:¬ p.1=k):dY (p::r) k=dY r k:=by simp[dY,p8,e]
theorem rE(k:κ):∀kvs:List (κ×V),(kvs.any λkv=>decide (kv.1=k))=(dY kvs k).isSome
 | []=>rfl
 | p::r=>by
  rw[Di];by_cases e:p.1=k
  .simp only[gT e,br e,Bool.true_or,Option.isSome_some]
  .rw [fE e,dB e,Bool.false_or];exact rE k r
theorem Kr(k j:κ)(y:V):∀kvs:List (κ×V),dY (kvs.map λkv=>if kv.1=k then(kv.1,y) else kv) j=(dY kvs j).map λx=>if j=k then y else x
 | []=>rfl
 | p::r=>by
  have ih:=Kr k j y r;rw[bF];by_cases h:p.1=k
  .rw [ay h];by_cases e:p.1=j
   .rw [gT (p:=(p.1,y)) e,gT e,JD,ay (e.symm.trans h)]
   .rw [fE (p:=(p.1,y)) e,fE e,ih]
  .rw [av h];by_cases e:p.1=j
   .rw [gT (p:=p) e,gT e,JD,av (λz=>h (e.trans z))]
   .rw [fE (p:=p) e,fE e,ih]
theorem G0(k j:κ)(y:V):∀kvs:List (κ×V),dY kvs k=none->dY (kvs++[(k,y)]) j=if j=k then some y else dY kvs j
 | [],_=>by
  by_cases e:k=j
  .rw [ay e.symm];exact gT (p:=(k,y)) e
  .rw [av (λz=>e z.symm)];exact fE (p:=(k,y)) e
 | p::r,hn=>by
  rw[Jy];have hk:¬ p.1=k:=λz=>by rw[gT z]at hn;cases hn
  rw[fE hk]at hn;have ih:=G0 k j y r hn;by_cases e:p.1=j
  .rw [gT e,gT e,av (λz=>hk (e.trans z))]
  .rw [fE e,fE e,ih]
theorem U_(kvs:List (κ×V))(k j:κ)(y:V):dY (putK kvs k y) j=if j=k then some y else dY kvs j:=by
 unfold putK;by_cases a:(kvs.any λkv=>decide (kv.1=k))=true
 .rw [ay a,Kr];rw[rE]at a;by_cases e:j=k
  .obtain ⟨x,hx⟩:=Option.isSome_iff_exists.mp a;rw[ay e,e,hx,JD,ay rfl]
  .rw [av e];cases dY kvs j with
   | none=>rfl
   | some x=>rw[JD,av e]
 .rw [av a];refine G0 k j y kvs ?_;rw[rE]at a;cases q:dY kvs k with
  | none=>rfl
  | some x=>rw[q]at a;exact(a rfl).elim
theorem xN(kvs:List (κ×V))(k:κ)(v:V):(putK kvs k v).length<=kvs.length+1:=by
 unfold putK;split
 .rw [aE];omega
 .rw [c7,iY,List.length_nil];omega
theorem oX{kvs:List (κ×V)}{k:κ}(v:V)(h:dY kvs k=none):putK kvs k v=kvs++[(k,v)] :=by unfold putK;rw[rE,h];exact av (by decide)
theorem nI.pQ{o:Option V}{u:Option Value}(r:nI o u):o.isSome=u.isSome:=by
 cases o with
 | none=>cases u with
   | none=>rfl
   | some _=>exact(show False from r).elim
 | some _=>cases u with
   | none=>exact(show False from r).elim
   | some _=>rfl
theorem KV.val{kvs:List (κ×V)}{vs:List (κ×Value)}(r:KV kvs vs)(k:κ):nI (dY kvs k) (valueAt vs k):=by
 unfold KV at r
 induction r with
 | nil=>exact True.intro
 | @cons p q ps qs h t ih=>
  obtain⟨h1,h2⟩:=h;by_cases e:p.1=k
  .have e':q.1=k:=h1.symm.trans e;have b:valueAt (q::qs) k=some q.2:=by simp[valueAt,p8,e']
   rw[gT e,b];exact h2
  .have e':¬ q.1=k:=λz=>e (h1.trans z);have b:valueAt (q::qs) k=valueAt qs k:=by simp[valueAt,p8,e']
   rw[fE e,b];exact ih
theorem KV.any{kvs:List (κ×V)}{vs:List (κ×Value)}(r:KV kvs vs)(k:κ):(kvs.any λkv=>decide (kv.1=k))=vs.any λkv=>decide (kv.1=k):=by
 unfold KV at r
 induction r with
 | nil=>rfl
 | cons h t ih=>rw[Di,Di,ih,h.1]
theorem KV.repl{kvs:List (κ×V)}{vs:List (κ×Value)}(r:KV kvs vs)(k:κ)(ry:RelV y u):KV (kvs.map λkv=>if kv.1=k then(kv.1,y) else kv) (vs.map λkv=>if kv.1=k then(kv.1,u) else kv):=by
 unfold KV at r ⊢
 induction r with
 | nil=>exact .nil
 | @cons p q ps qs h t ih=>
  rw[bF,bF];refine .cons ?_ ih;obtain⟨h1,h2⟩:=h;by_cases e:p.1=k
  .rw [ay e,ay (h1.symm.trans e)];exact⟨h1,ry⟩
  .rw [av e,av (λz=>e (h1.trans z))];exact⟨h1,h2⟩
theorem KV.put{kvs:List (κ×V)}{vs:List (κ×Value)}(r:KV kvs vs)(k:κ)(ry:RelV y u):KV (putK kvs k y) (stored vs k u):=by
 unfold putK stored;rw[r.any k];by_cases e:(vs.any λkv=>decide (kv.1=k))=true
 .rw [ay e,ay e];exact r.repl k ry
 .rw [av e,av e];exact Paired.snoc r ⟨Z,ry⟩
theorem KV.drop{kvs:List (κ×V)}{vs:List (κ×Value)}(r:KV kvs vs)(k:κ):KV (mZ kvs k) (without vs k):=by
 unfold KV at r ⊢;unfold mZ without
 induction r with
 | nil=>exact .nil
 | @cons p q ps qs h t ih=>
  obtain⟨h1,h2⟩:=h;rw[fL,fL];by_cases e:p.1=k
  .have a:¬ decide (p.1≠k)=true:=by simp[e]
   have b:¬ decide (q.1≠k)=true:=by simp[h1.symm.trans e]
   rw[av a,av b];exact ih
  .have e':¬ q.1=k:=λz=>e (h1.trans z);have a:decide (p.1≠k)=true:=by simp[e]
   have b:decide (q.1≠k)=true:=by simp[e']
   rw[ay a,ay b];exact .cons ⟨h1,h2⟩ ih
theorem KV.length{kvs:List (κ×V)}{vs:List (κ×Value)}(r:KV kvs vs):kvs.length=vs.length:=Paired.length r
theorem Va(kvs:List (κ×V))(k:κ):(mZ kvs k).length<=kvs.length:=E_ _ _
end
variable {P:Program}{w:World}
theorem yL{k:Key}(r:RelV (kV k) u):(c8 P w).is k u=true:=by
 cases k with
 | inl i=>obtain⟨t,e⟩:=(show ∃t,u=Value.int i t from r);subst e;exact Nj P w i t
 | inr x=>obtain⟨t,e⟩:=(show ∃t,u=Value.str x t from r);subst e;exact Nk P w x t
theorem G_{P:Program}{w:World}:∀{ks:List Key}{us:List Value},Vals (ks.map kV) us->ItemsAre (c8 P w) ks us
 | [],_,r=>by rw[List.map_nil]at r;cases r;exact .nil
 | k::ks,_,r=>by
  rw[bF]at r;cases r with
  | cons h t=>exact .cons (yL h) (G_ t)
abbrev KT(H:Hp):List (List Key×V)->List (List Key×Addr×Value)->Prop:=Paired λp q=>p.1=q.1/\H q.2.1=some (.tup (p.1.map kV))/\RelV p.2 q.2.2
theorem KT.val{kvs:List (List Key×V)}{xs:List (List Key×Addr×Value)}(r:KT H kvs xs)(k:List Key):nI (dY kvs k) ((atKey xs k).map (·.2)):=by
 induction r with
 | nil=>exact True.intro
 | @cons p q ps qs h t ih=>
  obtain⟨h1,_,h2⟩:=h;by_cases e:p.1=k
  .have e':q.1=k:=h1.symm.trans e;have b:atKey (q::qs) k=some q.2:=by simp[atKey,p8,e']
   rw[gT e,b];exact h2
  .have e':¬ q.1=k:=λz=>e (h1.trans z);have b:atKey (q::qs) k=atKey qs k:=by simp[atKey,p8,e']
   rw[fE e,b];exact ih
theorem KT.repl{kvs:List (List Key×V)}{xs:List (List Key×Addr×Value)}(r:KT H kvs xs)(k:List Key)(ry:RelV y u):KT H (kvs.map λkv=>if kv.1=k then(kv.1,y) else kv) (xs.map (putAt k u)):=by
 induction r with
 | nil=>exact .nil
 | @cons p q ps qs h t ih=>
  rw[bF,bF];refine .cons ?_ ih;obtain⟨h1,h2,h3⟩:=h;unfold putAt;by_cases e:p.1=k
  .rw [ay e,ay (h1.symm.trans e)];exact⟨h1,h2,ry⟩
  .rw [av e,av (λz=>e (h1.trans z))];exact⟨h1,h2,h3⟩
theorem KT.put{kvs:List (List Key×V)}{xs:List (List Key×Addr×Value)}(r:KT H kvs xs)(k:List Key){b:Addr}(hb:H b=some (.tup (k.map kV)))(ry:RelV y u):KT H (putK kvs k y) (storedH xs k b u):=by
 have e:(kvs.any λkv=>decide (kv.1=k))=(atKey xs k).isSome:=by rw[rE,(r.val k).pQ,Option.isSome_map]
 unfold putK storedH;rw[e];by_cases q:(atKey xs k).isSome=true
 .rw [ay q,ay q];exact r.repl k ry
 .rw [av q,av q];exact Paired.snoc r ⟨Z,hb,ry⟩
variable {H':Hp}
theorem KT.keeps{kvs:List (List Key×V)}{xs:List (List Key×Addr×Value)}(r:KT H kvs xs)(ht:∀b ys,H b=some (.tup ys)->H' b=some (.tup ys)):KT H' kvs xs:=Paired.UM r λ_ _ z=>⟨z.1,ht _ _ z.2.1,z.2.2⟩
variable {kvs:List (Key×V)}
section
variable {P:Program}{w:World}{H:Hp}{h:Heap}{a:Addr}
theorem Wz{u:HO}(ok:jk P w H h)(e:Rd H a u):e_ P w H h a u:=e.ok ok
theorem uR(ok:jk P w H h)(e:Rd H a (.dK kvs)):kvs.length<=sizeLine/\(a==sysModules)=false/\∃vs,KV kvs vs/\h.DictOf (c8 P w) a vs:=
 show e_ P w H h a (.dK kvs)from Wz ok e
theorem DA(ok:jk P w H h)(e:H a=some (.dK kvs)):kvs.length<=sizeLine/\(a==sysModules)=false/\∃vs,KV kvs vs/\h.DictOf (c8 P w) a vs:=uR ok (.inl e)
theorem z_{ks:List Key}(ok:jk P w H h)(e:H a=some (.tup (ks.map kV))):(tupleKind (c8 P w)).is h ks a:=by
 obtain⟨_,its,r,o,h1,h2,n,h3⟩:=(show e_ P w H h a (.tup (ks.map kV))from ok a _ e)
 exact⟨o,its.toArray,n,h1,h2,h3,by simpa using G_ r⟩
theorem Bp{kvs:List (List Key×V)}(ok:jk P w H h)(e:Rd H a (.dT kvs)):kvs.length<=sizeLine/\(a==sysModules)=false/\∃xs,KT H kvs xs/\h.DictOfH (tupleKind (c8 P w)) a xs:=by
 obtain⟨z,y,xs,r,o,es,ep,h1,h2,h3,h4,h5⟩:=(show e_ P w H h a (.dT kvs)from Wz ok e)
 refine⟨z,y,xs,r,o,es,ep,h1,h2,h3,h4,λx hx=>?_,h5⟩;have all:∀{l:List (List Key×V)}{m:List (List Key×Addr×Value)},KT H l m->∀x∈m,(tupleKind (c8 P w)).is h x.1 x.2.1:=by
  intro l m q
  induction q with
  | nil=>intro x hx;exact nomatch hx
  | @cons p q ps qs hq t ih=>
   intro x hx;rcases eZ.mp hx with e|hx
   .subst e;exact z_ ok (by rw[<-hq.1];exact hq.2.1)
   .exact ih x hx
 exact all r x hx
theorem acQ{kvs:List (List Key×V)}(ok:jk P w H h)(e:H a=some (.dT kvs)):kvs.length<=sizeLine/\(a==sysModules)=false/\∃xs,KT H kvs xs/\h.DictOfH (tupleKind (c8 P w)) a xs:=Bp ok (.inl e)
end
def cJ(H:Hp)(a:Addr)(y:V)(r:Option V):Prop:=(∃kvs k,Rd H a (.dK kvs)/\y=kV k/\r=dY kvs k)\/∃kvs k b,Rd H a (.dT kvs)/\y =.ref b/\H b=some (.tup (k.map kV))/\r=dY kvs k
def ud(H:Hp)(a:Addr)(y v:V)(H':Hp):Prop:=(∃kvs k,H a=some (.dK kvs)/\y=kV k/\kvs.length<sizeLine/\H'=upd H a (.dK (putK kvs k v)))\/
 ∃kvs k b,H a=some (.dT kvs)/\y =.ref b/\H b=some (.tup (k.map kV))/\kvs.length<sizeLine/\H'=upd H a (.dT (putK kvs k v))
variable {a:Addr}
theorem cJ.k{k:Key}(e:H a=some (.dK kvs)):cJ H a (kV k) (dY kvs k):=.inl ⟨kvs,k,.inl e,Z,Z⟩
theorem ud.k{k:Key}{v:V}(e:H a=some (.dK kvs))(hl:kvs.length<sizeLine):ud H a (kV k) v (upd H a (.dK (putK kvs k v))):=.inl ⟨kvs,k,e,Z,hl,Z⟩
section
variable {X:Cx}{pins:AO}{σ:St}{H:Hp}{s:Shared}{a:Addr}{y v:V}{u r:Value}{o:Option V}{A:Around}{E:VS}
theorem Inv.big(I:Inv X pins σ H s):sysModules<s.heap.objs.size:=by have h:mainGlobals<s.heap.objs.size:=(I.mod.glob.keeps I.bk).lt;exact Nat.lt_trans (by decide) h
theorem R6{Q:VS}(hu:A.units+1<cLine)(I:Inv X pins σ H s)(g:cJ H a y (some v))(ry:RelV y u)(h:∀w' s',Inv X pins σ H s'->RelV v w'->Q w' s'):wpAny (model X.prog X.w) A (getItem (.ref a) u) Q E s:=by
 rcases g with⟨kvs,k,e,ey,l⟩|⟨kvs,k,b,e,ey,eb,l⟩
 .subst ey;obtain⟨z,hd,vs,rel,dd⟩:=uR I.hok e;obtain⟨w',hw,rw'⟩:=nI.some_of (v:=v) (o:=valueAt vs k) (by rw[l];exact rel.val k);exact wpAny_getItem_of (yL ry) dd.mapOf hw (h w' _ (I.tok _) rw')
 .subst ey;cases(show u=Value.ref b from ry);obtain⟨z,hd,xs,rel,dd⟩:=Bp I.hok e;obtain⟨w',hw,rw'⟩:=nI.some_of (v:=v) (o:=(atKey xs k).map (·.2)) (by rw[l];exact rel.val k);obtain⟨p,hp,hp2⟩:=mj.mp hw;refine wpAny_getItem_heap (Qm hu) (z_ I.hok eb) dd hp ?_;rw[hp2];exact h w' _ (I.tok _) rw'
theorem af6{Q:VS}(hu:A.units+1<cLine)(I:Inv X pins σ H s)(g:cJ H a y o)(ry:RelV y u)(h:∀s',Inv X pins σ H s'->Q (.bool o.isSome) s'):wpAny (model X.prog X.w) A (compareOp .In u (.ref a)) Q E s:=by
 rcases g with⟨kvs,k,e,ey,l⟩|⟨kvs,k,b,e,ey,eb,l⟩
 .subst ey;obtain⟨z,hd,vs,rel,dd⟩:=uR I.hok e;refine wpAny_in_of (yL ry) hd dd.mapOf ?_;rw[<-(rel.val k).pQ,<-l];exact h _ (I.tok _)
 .subst ey;cases(show u=Value.ref b from ry);obtain⟨z,hd,xs,rel,dd⟩:=Bp I.hok e;refine wpAny_in_heap (Qm hu) (z_ I.hok eb) hd dd ?_;have q:=(rel.val k).pQ;rw[Option.isSome_map]at q;rw[<-q,<-l];exact h _ (I.tok _)
theorem XD{Q:VS}(hu:A.units+1<cLine)(I:Inv X pins σ H s)(g:cJ H a y o)(ry:RelV y u)(h:∀s',Inv X pins σ H s'->Q (.bool (!o.isSome)) s'):wpAny (model X.prog X.w) A (compareOp .NotIn u (.ref a)) Q E s:=by
 rcases g with⟨kvs,k,e,ey,l⟩|⟨kvs,k,b,e,ey,eb,l⟩
 .subst ey;obtain⟨z,hd,vs,rel,dd⟩:=uR I.hok e;refine wpAny_notIn_of (yL ry) hd dd.mapOf ?_;rw[<-(rel.val k).pQ,<-l];exact h _ (I.tok _)
 .subst ey;cases(show u=Value.ref b from ry);obtain⟨z,hd,xs,rel,dd⟩:=Bp I.hok e;refine wpAny_notIn_heap (Qm hu) (z_ I.hok eb) hd dd ?_;have q:=(rel.val k).pQ;rw[Option.isSome_map]at q;rw[<-q,<-l];exact h _ (I.tok _)
theorem Bq(I:Inv X pins σ H s)(mu:RG (H a))(hs:Heap.SameBut a s.heap h')(he:∃q,h'.get? a=some q)(new:e_ X.prog X.w (upd H a ob) h' a ob):Inv X pins σ (upd H a ob) { s with heap:=h',toks:=t' }:=I.write (x:=a) (e:=a) mu (.inl rfl) (λb q hb z=>(hs.2 b hb).trans z) he new
theorem Ks{h':Heap}{vs:List (Key×Value)}(z:kvs.length<=sizeLine)(hd:(a==sysModules)=false)(rel:KV kvs vs)(dd:h'.DictOf (c8 P w) a vs):e_ P w H' h' a (.dK kvs):=⟨z,hd,vs,rel,dd⟩
theorem R7{Q:Unit->Shared->Prop}(hu:A.units+1<cLine)(I:Inv X pins σ H s)(g:ud H a y v H')(ry:RelV y u)(rv:RelV v r)(h:∀s',Inv X pins σ H' s'->Q () s'):wpAny (model X.prog X.w) A (setItem (.ref a) u r) Q E s:=by
 rcases g with⟨kvs,k,e,ey,l,eH⟩|⟨kvs,k,b,e,ey,eb,l,eH⟩
 .subst ey eH;obtain⟨z,hd,vs,rel,dd⟩:=DA I.hok e;have hz:vs.length<=sizeLine:=by rw[<-rel.length];exact z
  have hl:(putK kvs k v).length<=sizeLine:=by have:=xN kvs k v;omega
  refine wpAny_setItem_pairs (hsz:=hz) (yL ry) dd λh' B3 hs=>h _ ?_;have he:∃q,h'.get? a=some q:=let⟨q,_,_,hq,_⟩:=B3;⟨q,hq⟩;exact Bq I (by rw[e];exact True.intro) hs he (Ks hl hd (rel.put k rv) B3)
 .subst ey eH;cases(show u=Value.ref b from ry);obtain⟨z,hd,xs,rel,dd⟩:=acQ I.hok e;have hz:xs.length<=sizeLine:=by rw[<-Paired.length rel];exact z
  have hl:(putK kvs k v).length<=sizeLine:=by have:=xN kvs k v;omega
  refine wpAny_setItem_heap (hsz:=hz) (Qm hu) (z_ I.hok eb) dd λh' B3 hs=>h _ ?_;obtain⟨q,es,ep,hq,h2,h3,h4,_,h5⟩:=B3;refine Bq I (by rw[e];exact True.intro) hs ⟨q,hq⟩ ⟨hl,hd,_,(rel.put k eb rv).keeps λc ys ec=>?_,q,es,ep,hq,h2,h3,h4,h5⟩;rw[az (jC ec e (λz=>nomatch z))];exact ec
end
section
variable {X:Cx}{pins:AO}{σ:St}{H:Hp}{s:Shared}{a:Addr}{kvs:List (Key×V)}{k:Key}{u:Value}{A:Around}{E:VS}
theorem R8{Q:Unit->Shared->Prop}(I:Inv X pins σ H s)(e:H a=some (.dK kvs))(ry:RelV (kV k) u)(l:(dY kvs k).isSome=true)(h:∀s',Inv X pins σ (upd H a (.dK (mZ kvs k))) s'->Q () s'):wpAny (model X.prog X.w) A (delItem (.ref a) u) Q E s:=by
 obtain⟨z,hd,vs,rel,dd⟩:=DA I.hok e;refine wpAny_delItem_slot dd.typeIs (by decide) PySem.F.slot_dict_delitem
  (call_meetsIn PySem.F.slot_dict_delitem dd.typeIs PySem.F.entry_dict_delitem (PySem.F.args_dict_delitem_2 _ _) (meets_dict_delitem_pairs (c8 X.prog X.w) a (yL ry)) ⟨vs,dd,by rw[<-rel.length];exact z,by rw[<-(rel.val k).pQ];exact l,λh' B3 hs=>h _ ?_⟩)
 have he:∃q,h'.get? a=some q:=let⟨q,_,_,hq,_⟩:=B3;⟨q,hq⟩;exact Bq I (by rw[e];exact True.intro) hs he (Ks (fZ (Va kvs k) z) hd (rel.drop k) B3)
theorem acR{Q:VS}(I:Inv X pins σ H s)(e:Rd H a (.dK kvs))(h:∀t s',Inv X pins σ H s'->Q (.int kvs.length t) s'):wpAny (model X.prog X.w) A (call (.builtin "len") [.ref a]) Q E s:=by obtain⟨z,hd,vs,rel,dd⟩:=uR I.hok e;refine call_len_dict hd dd (by rw[<-rel.length];rw[lT]at z;omega) ?_;rw[<-rel.length];exact h _ _ (I.tok _)
end
def ZT(i:Expr):Prop:=∀ov iv,subscripted i false ov iv=operate [ov,iv] (getItem ov iv)
variable {E:VS}{env:Env}{value:Expr}{pos:Pos}
theorem XE{prog:Program}{A:Around}{slice:Expr}{T id:String}{Q:VS}(hl:typeLookup (.type T) "__getitem__"=pure (some (.builtin id)))(hs:ZT slice)(h:wpAny (model prog w) A (eval value env) (λo s₁=>wpAny (model prog w) A (eval slice env) (λi s₂=>s₂.TypeIs o T/\wpAny (model prog w) A (getItem o i) Q E s₂) E s₁) E s):
  wpAny (model prog w) A (eval (.Subscript value slice pos) env) Q E s:=by
 refine Subscript_ (jJ h (λo s₁ h₁=>jJ h₁ (λi s₂ h₂=>?_) λ_ _ x=>x) λ_ _ x=>x)
 obtain⟨hT,h₂⟩:=h₂
 unfold subscriptTail
 refine aA ?_
 rw[getitemInPython_of_ne hT.not_modules]
 refine aA (wpAny_specialOf hT hl ?_)
 have fin:wpAny (model prog w) A (subscripted slice false o i) (λr s₃=>wpAny (model prog w) A (letTemporaryGo value o r >>= λ_=>pure r) Q E s₃) E s₂:=by rw[hs o i];exact wpAny_operating (jJ h₂ (λr s₃ h₃=>aA (wpAny_letTemporaryGo (bu h₃))) λ_ _ x=>x)
 first
  | exact bu (aA fin)
  | exact aA (bu (aA fin))
  | exact aA fin
variable {X:Cx}
theorem Nl{o:Option V}(I:Inv X pins σ H s)(g:cJ H a y o):s.TypeIs (.ref a) "dict":=by
 rcases g with⟨kvs,k,e,_,_⟩|⟨kvs,k,b,e,_,_,_⟩
 .obtain ⟨_,_,vs,_,dd⟩:=uR I.hok e;exact dd.typeIs
 .obtain ⟨_,_,xs,_,dd⟩:=Bp I.hok e;exact dd.typeIs
inductive Vb(Q:VK)(x:V)(y:V)(H2:Hp):Prop
 |mk(a v:_)(_:x =.ref a)(_:cJ H2 a y (some v))(_:Q v H2)
def ZU(ty:TE)(σ:St)(Q:VK):V->Hp->Prop:=λx H1=>ty σ H1 (Vb Q x)
def QI(td ty:TE):TE:=λσ H Q=>td σ H (ZU ty σ Q)
inductive XF(Q:VK)(y:V)(x:V)(H2:Hp):Prop
 |mk(a o:_)(_:x =.ref a)(_:cJ H2 a y o)(_:Q (.bl o.isSome) H2)
def acS(td:TE)(σ:St)(Q:VK):V->Hp->Prop:=λy H1=>td σ H1 (XF Q y)
def af7(ty td:TE):TE:=λσ H Q=>ty σ H (acS td σ Q)
inductive QJ(Q:VK)(y:V)(x:V)(H2:Hp):Prop
 |mk(a o:_)(_:x =.ref a)(_:cJ H2 a y o)(_:Q (.bl (!o.isSome)) H2)
def Vc(td:TE)(σ:St)(Q:VK):V->Hp->Prop:=λy H1=>td σ H1 (QJ Q y)
def XG(ty td:TE):TE:=λσ H Q=>ty σ H (Vc td σ Q)
inductive Vd(D:Ends)(σ:St)(v:V)(x:V)(y:V)(H3:Hp):Prop
 |mk(a H4:_)(_:x =.ref a)(_:ud H3 a y v H4)(_:D.nx σ H4)
def Ve(ty:TE)(D:Ends)(σ:St)(v:V):V->Hp->Prop:=λx H2=>ty σ H2 (Vd D σ v x)
def ZV(td:TE)(ty:TE)(D:Ends)(σ:St):V->Hp->Prop:=λv H1=>td σ H1 (Ve ty D σ v)
def acT(td ty tv:TE):TS:=λD σ H=>tv σ H (ZV td ty D σ)
inductive Vf(D:Ends)(σ:St)(x:V)(y:V)(H2:Hp):Prop
 |mk(a kvs k:_)(_:x =.ref a)(_:H2 a=some (.dK kvs))(_:y=kV k)(_:(dY kvs k).isSome=true)(_:D.nx σ (upd H2 a (.dK (mZ kvs k))))
def ZW(ty:TE)(D:Ends)(σ:St):V->Hp->Prop:=λx H1=>ty σ H1 (Vf D σ x)
def acU(td ty:TE):TS:=λD σ H=>td σ H (ZW ty D σ)
section
variable {X:Cx}{o i e value:Expr}{pos pos' tpos:Pos}{td ty tv:TE}
end
theorem Ku(h:Heap)(hb:sysModules<h.objs.size):e_ P w H (h.push { cls:=.type "dict",data:=.dict #[] }) h.objs.size (.dK []):=⟨iA _,Fb.mpr (cO (fY hb)),[],.nil,Heap.DictOf.new h⟩
def ZX:TE:=λ_ H Q=>∀p,H p=none->Q (.ref p) (upd H p (.dK []))
section
variable {X:Cx}{pos:Pos}
end
def Aa:List (TE×TE)->St->Hp->(List (V×V)->Hp->Prop)->Prop
 | [],_,H,Q=>Q [] H
 | (tk,tv)::r,σ,H,Q=>tk σ H λx H1=>tv σ H1 λy H2=>Aa r σ H2 λps H3=>Q ((x,y)::ps) H3
abbrev VV:List (V×V)->List (Value×Value)->Prop:=Paired λp q=>RelV p.1 q.1/\RelV p.2 q.2
def PPs(X:Cx)(pos:Pos)(keys:List (Option Expr))(values:List Expr)(DB:List (TE×TE)):Prop:=∀(pins:AO)(s:Shared)(σ:St)(H:Hp)(Q:List (V×V)->Hp->Prop),Inv X pins σ H s->Aa DB σ H Q->wpAny (model X.prog X.w) X.A (evalPairs (pairTrees keys values X.env pos)) (λvs s'=>∃ps H',Inv X pins σ H' s'/\VV ps vs/\Q ps H') X.xe s
def yb(kvs more:List (Key×V)):List (Key×V):=more.foldl (λacc kv=>putK acc kv.1 kv.2) kvs
theorem KV.merge:∀{more:List (Key×V)}{rs:List (Key×Value)}{kvs:List (Key×V)}{vs:List (Key×Value)},KV more rs->KV kvs vs->KV (yb kvs more) (merged vs rs):=by
 intro more rs kvs vs r;unfold KV at r
 induction r generalizing kvs vs with
 | nil=>intro q;exact q
 | @cons p q ps qs h t ih=>
  intro r0;have e:KV (putK kvs p.1 p.2) (stored vs q.1 q.2):=by have:=r0.put p.1 h.2;rw[<-h.1];exact this
  exact ih e
theorem zO:∀(more kvs:List (Key×V)),(yb kvs more).length<=kvs.length+more.length
 | [],kvs=>by show kvs.length<=kvs.length+0;omega
 | p::r,kvs=>by have h1:=zO r (putK kvs p.1 p.2);have h2:=xN kvs p.1 p.2;show(yb (putK kvs p.1 p.2) r).length<=_;rw[iY];omega
theorem DC{P:Program}{w:World}:∀{kvs:List (Key×V)}{ws:List (Value×Value)},VV (kvs.map λkv=>(kV kv.1,kv.2)) ws->∃rs,Carries (c8 P w) ws rs/\KV kvs rs
 | [],_,r=>by rw[List.map_nil]at r;cases r;exact⟨[],True.intro,.nil⟩
 | p::kvs,_,r=>by
  rw[bF]at r;cases r with
  | @cons a b as bs h t=>obtain⟨rs,c,q⟩:=DC (P:=P) (w:=w) t;obtain⟨b1,b2⟩:=b;exact⟨(p.1,b2)::rs,⟨yL h.1,Z,c⟩,.cons ⟨Z,h.2⟩ q⟩
def acV(DB:List (TE×TE)):TE:=λσ H Q=>∀p,H p=none->Aa DB σ (upd H p (.dK [])) λps H2=>H2 p=some (.dK [])/\∃kvs:List (Key×V),ps=kvs.map (λkv=>(kV kv.1,kv.2))/\kvs.length<=15/\Q (.ref p) (upd H2 p (.dK (yb [] kvs)))
def IsD(H:Hp)(a:Addr):Prop:=(∃kvs,Rd H a (.dK kvs))\/∃kvs,Rd H a (.dT kvs)
theorem Kv(I:Inv X pins σ H s)(d:IsD H a):s.TypeIs (.ref a) "dict"/\(∀b,Value.ref a =.ref b->∃ob,s.heap.get? b=some ob/\ob.dict=none)/\(a==sysModules)=false:=by
 rcases d with⟨kvs,e⟩|⟨kvs,e⟩
 .obtain ⟨_,hd,vs,_,dd⟩:=uR I.hok e;refine⟨dd.typeIs,λb q=>?_,hd⟩;cases q;obtain⟨ob,_,_,h1,h2,_⟩:=dd;exact⟨ob,h1,h2.2.1⟩
 .obtain ⟨_,hd,xs,_,dd⟩:=Bp I.hok e;refine⟨dd.typeIs,λb q=>?_,hd⟩;cases q;obtain⟨ob,_,_,h1,h2,_⟩:=dd;exact⟨ob,h1,h2.2.1⟩
section
variable {X:Cx}{pins:AO}{σ:St}{H:Hp}{s:Shared}{a:Addr}{y d:V}{u r:Value}{o:Option V}{A:Around}{E:VS}
end
section
variable {X:Cx}{o e f:Expr}{apos cpos:Pos}{td ty tx:TE}
end
section
variable {X:Cx}{pins:AO}{σ:St}{H:Hp}{s:Shared}{a:Addr}{kvs:List (Key×V)}{A:Around}{E:VS}
end
section
variable {X:Cx}{pins:AO}{σ:St}{H:Hp}{s:Shared}{a:Addr}{y:V}{u:Value}{A:Around}{E:VS}
end
end L2
namespace Att
open PySem PySem.W PySem.Calls PyProof.Rows
theorem DE{P:Params}{h:Heap}:∀(ns:List Int)(vs:List Value),WellAll P h vs (ns.map WData.int)->IntsAre vs ns:=by
 intro ns
 induction ns with
 | nil=>intro vs w;rw[List.map_nil]at w;cases w;exact .nil
 | cons n ns ih=>
  intro vs w;rw[bF]at w;cases w with
  | cons a b=>cases a;exact .cons _ _ (ih _ b)
theorem R9{l:OpenLaw}{n:Nat}(hn:l.most=some n){P:Params}{h:Heap}{args:List WData}{vals:List Value}(hpre:l.row.toRowW.claim.pre args=true)(hwl:WellAll P h vals args):
  ∃a vs ns,vals=[Value.ref a]/\args=[WData.list (ns.map WData.int)]/\h.get? a=some { cls:=.type "list",data:=.seq vs.toArray }/\IntsAre vs ns/\ns.length<=n:=by
 have hsh:WShape.hasAll [] args [.list .int]=true:=(pre_splitW hpre).1
 have hc:l.pre.holds [] { args:=args }=true:=(pre_splitW hpre).2
 obtain⟨d,r,rfl,h1,h2⟩:=hasAllW_cons hsh
 obtain rfl:=hasAllW_nil h2
 obtain⟨xs,rfl,h3⟩:=hasW_list h1
 obtain⟨ns,rfl⟩:=items_int h3
 have hlen:ns.length<=n:=by
  unfold OpenLaw.pre at hc;have h4:(WTm.not (.lt (.lit (.int (n:Int))) (.len (.arg 0)))).holds [] { args:=[.list (ns.map .int)] }=true:=by have h4:=(holds_andW hc).1;rw[hn]at h4;exact h4
  have h5:=condW_of h4 (w_not (w_lt w_lit (w_len_list (w_arg rfl))));rw[aE]at h5;refine Nat.le_of_not_lt λq=>?_;have q':(n:Int)<((ns.length:Nat):Int):=by omega
  first
   | (rw[br q']at h5;exact absurd h5 (by decide))
   | (simp at h5;omega)
 cases hwl with
 | cons w1 w2=>
   cases w2
   cases w1 with
   | list ho hall=>exact⟨_,_,ns,Z,Z,ho,DE ns _ hall,hlen⟩
theorem R_(l:OpenLaw)(args:List WData):l.row.toRowW.claim.post args (.bool true) args=true:=postW_of (r:=l.row.toRowW) (X:=(true==true))
  (show WShape.has [] (.bool true) .bool=true by first|rfl|decide|simp[WShape.has,WShape.arms,WShape.armsAll])
  (show(WTm.eq .res (.lit (.bool true))).value [] { args:=args,res:=some (.bool true),after:=args }=some (.bool (true==true))from w_eq_bool (w_res rfl) w_lit) rfl
theorem Nm{l:OpenLaw}{n:Nat}{q:Program}{loose:List Str}{XP:(Str->Option Value)->Heap->Prop}{YP:World->Heap->Prop}{d:DefRec}(hn:l.most=some n)(hdf:d.params.defaults=[])(call:∀(w:World) (s₀ s₁:Shared) (mg mb:SO) (fa:Addr) (o:Obj) (pm cd doc:Value) (a:Addr) (vs:List Value) (ns:List Int),
    Ground q loose [] XP w s₀ mg mb s₁.heap->YP w s₁.heap->
    s₁.heap.get? fa=some o->o.data =.func (docDef d.name d.params d.body d.scope pm cd doc)->s₁.heap.CodeRec cd d.name->mg d.name=some (.ref fa)->
    s₁.heap.get? a=some { cls:=.type "list",data:=.seq vs.toArray }->IntsAre vs ns->ns.length<=n->s₁.gens=#[]->
    codeAny (model l.prog w) callerA (.call (.ref fa) ⟨[.ref a],[]⟩) (λr s'=>r =.ok (.ret (.bool true))/\OldK s₁.heap s'.heap/\s'.os=s₁.os/\AllBare s'.gens) s₁):
  WalkO q loose XP YP l.row.toRowW d [] (λf vs=>PySem.call f vs):=by
 intro w s₀ s₁ mg mb G Y fa o pm cd doc dV kV ho hd hcd hD hmg hg args vals as hpre hlay hrd hwl hlo
 obtain rfl:dV =.none:=Dflts.none hD hdf
 obtain rfl:kV =.none:=Dflts.noKw hD
 obtain⟨a,vs,ns,rfl,rfl,hobj,hints,hlen⟩:=R9 hn hpre hwl
 refine enter_call (codeAny_mono (call w s₀ s₁ mg mb fa o pm cd doc a vs ns G Y ho (fd_plain hd) hcd hmg hobj hints hlen hg) λr s' hq=>?_)
 obtain⟨rfl,h2,h3,h4⟩:=hq
 exact⟨.inl ⟨.bool true,.bool true,[],Z,λ_=>rfl,.bool true,R_ l _,λ_=>⟨List.Pairwise.nil,λ_ hm=>(nomatch hm)⟩⟩,h2,h3,h4⟩
section
variable {prog:Program}{w:World}{A:Around}{E:VS}{s:Shared}{K:Frag}
end
end Att
namespace L2
open PySem PySem.Spec PyProof.Rows
theorem Hf:∀{vs:List Value}{ns:List Int},IntsAre vs ns->Vals (ns.map V.int) vs
 | _,_,.nil=> .nil
 | _,_,.cons n t h=> .cons ⟨t,Z⟩ (Hf h)
def Vg(H:Hp):Prop:=∀b,H b=none\/∃o xs,H b=some (.gh o (.lst xs))
variable {P:Program}{w:World}{K:Fg}{mg:SO}{CX:z9}{a:Addr}{fd:FuncData}{x:Str}{sp:Sp}{ns:List Int}
theorem Vh{mb:SO}{k:Nat}{fa:Addr}{s₁:Shared}{vs:List Value}(KX:K.In s₁.heap)(hns:s₁.heap.Ns mainGlobals mg)(hb:s₁.heap.Ns builtinsNs mb)(hbb:∀x:Str,x ≠ "__name__"->mb x=bootBuiltins x)(hlim:s₁.heap.NoLimit)(hg:s₁.gens=#[])(ha:s₁.heap.get? a=some { cls:=.type "list",data:=.seq vs.toArray })(hi:IntsAre vs ns)(hl:ns.length<=sizeLine)(hr:fD k callerA)(F:∀base:Heap,K.In base->base.Ns mainGlobals mg->kj P w K mg base CX k fa fd [x] sp)(hbind:∀(s:Shared) (u:Value),BindsTo s fd ⟨[u],[]⟩ [(x,u)])(vh:∀H:Hp,Vg H->aD K H a (ns.map V.int)->sp [.ref a] H (λv _=>v =.bl true) λ_ _ _=>False)(ZY:∀H e s',CX [] H s₁ (λ_ _ _=>False) e s'->False):
  codeAny (model P w) callerA (.call (.ref fa) ⟨[.ref a],[]⟩) (λr s'=>r =.ok (.ret (.bool true))/\OldK s₁.heap s'.heap/\s'.os=s₁.os/\AllBare s'.gens) s₁:=by
 have rv:=Hf hi
 have af8:=hi.length
 have core:∀H:Hp,Vg H->aD K H a (ns.map V.int)->jk P w H s₁.heap->(∀b,H b≠none->b=a)->(H a≠none->K.lookup a=none)->
   codeAny (model P w) callerA (.call (.ref fa) ⟨[.ref a],[]⟩) (λr s'=>r =.ok (.ret (.bool true))/\OldK s₁.heap s'.heap/\s'.os=s₁.os/\AllBare s'.gens) s₁:=by
  intro H hO hS hok hA hK
  have OU:∀{b:Addr}{o:Obj},s₁.heap.get? b=some o->H b=none->(yJ s₁.heap H).get? b=some o:=λe n=>UN e n
  have RY:∀{b:Addr}{o:Obj}{es:Array DictEntry}{ep:Nat},s₁.heap.get? b=some o->o.data =.dict es ep->H b=none:=λ{b o es ep} e d=>by
   cases q:H b with
   | none=>rfl
   | some u=>have e':b=a:=hA b (by rw[q];simp);subst e';rw[ha]at e;cases e;have d':Data.seq vs.toArray _=Data.dict es ep:=d;cases d'
  have WA:∀{b:Addr}{m:SO},s₁.heap.Ns b m->(yJ s₁.heap H).Ns b m:=λ{b m} ⟨o,es,ep,e,d,r⟩=>⟨o,es,ep,OU e (RY e d),d,r⟩
  have hKb:K.In (yJ s₁.heap H):=λb o e=>OU (KX b o e) (by
   cases q:H b with
   | none=>rfl
   | some u=>have e':b=a:=hA b (by rw[q];simp);subst e';rw[hK (by rw[q];simp)]at e;cases e)
  have hM:Mod K mg (yJ s₁.heap H):=⟨hKb,WA hns,⟨mb,WA hb,hbb⟩,let⟨mc,h1,h2⟩:=hlim;⟨mc,WA h1,h2⟩⟩
  have e0:Ct P w K mg (yJ s₁.heap H) callerA [] s₁ H:=⟨Z,hM,λb o e=>Xn e,Nat.le_of_eq (RH _ _),trivial,λb hb=>absurd (show b∈([] :List Addr)from hb) (by simp),hok,.of_eq hg⟩
  refine codeAny_mono ((F _ hKb (WA hns)).run callerA [] s₁ H ⟨[.ref a],[]⟩ [.ref a] [.ref a] _ _ hr e0 (hbind s₁ (.ref a)) (.cons rfl .nil) (vh H hO hS)) λr s' h=>?_
  cases r with
  | error e=>exact(ZY H e s' h).elim
  | ok fl=>
    cases fl with
    | next=>exact False.elim h
    | brk=>exact False.elim h
    | cont=>exact False.elim h
    | ret u=>
      obtain⟨v,H',os,bare,un,af9,r',q⟩:=h
      have q':v =.bl true:=q
      subst q'
      obtain rfl:u=Value.bool true:=r'
      refine⟨Z,OldK.of_keep λb o e=>?_,os,bare⟩
      cases q:H b with
      | none=>exact un.keep b o e q (by intro z;exact absurd (show b∈([] :List Addr)from z) (by simp)) (by simp)
      | some u=>
        rcases hO b with z|⟨ob,xs,z⟩
        . rw[q]at z;cases z
        . have z2:=un.t9 b ob _ z
          obtain⟨e1,_⟩:=hok b _ z
          obtain⟨e2,_⟩:=af9 b _ z2
          rw[e]at e1;cases e1
          exact e2
 cases hk:K.lookup a with
 | some o=>
   have e:=KX a o hk
   rw[ha]at e
   cases e
   refine core (λ_=>none) (λ_=> .inl rfl) (.inr ⟨_,vs.toArray,_,hk,Z,Z,Z,by rw[iX,af8];exact hl,by simpa using rv⟩) (λb u z=>by have z':(none:Option HO)=some u:=z;cases z') (λb z=>absurd rfl z) λz=>absurd rfl z
 | none=>
   refine core (λb=>if b=a then some (.gh { cls:=.type "list",data:=.seq vs.toArray } (.lst (ns.map V.int))) else none) (λb=>?_) (.inl (.inr ⟨{ cls:=.type "list",data:=.seq vs.toArray },ay rfl⟩)) (λb u z=>?_) (λb z=>?_) λ_=>hk
   . by_cases hb:b=a
     . exact .inr ⟨_,_,ay hb⟩
     . exact .inl (av hb)
   . by_cases hb:b=a
     . have z':=(ay hb).symm.trans z
       cases z'
       subst hb
       exact⟨ha,by rw[aE];exact hl,vs,_,rv,ha⟩
     . have z':=(av hb).symm.trans z
       cases z'
   . by_cases hb:b=a
     . exact hb
     . exact absurd (av hb) z
variable {n:Nat}{XP:(Str->Option Value)->Heap->Prop}{YP:World->Heap->Prop}
theorem XH{l:PySem.W.OpenLaw}{k:Nat}{q:Program}{loose:List Str}{d:DefRec}{K:Params->Fg}{CX:World->z9}{sp:World->Sp}(hn:l.most=some n)(hn2:n<=sizeLine)(hdf:d.params.defaults=[])(hr:fD k callerA)(hY:∀(w:World) (h:Heap),YP w h->(K w.params).In h)(F:∀(w:World) (mg:SO) (fa:Addr) (h:Heap),(K w.params).In h->h.Ns mainGlobals mg->mg d.name=some (.ref fa)->
    ∃fd:FuncData,(∀(s:Shared) (u:Value),BindsTo s fd ⟨[u],[]⟩ [(x,u)])/\
     ∀base:Heap,(K w.params).In base->base.Ns mainGlobals mg->kj l.prog w (K w.params) mg base (CX w) k fa fd [x] (sp w))(vh:∀(w:World) (H:Hp) (a:Addr) (ns:List Int),ns.length<=n->Vg H->aD (K w.params) H a (ns.map V.int)->sp w [.ref a] H (λv _=>v =.bl true) λ_ _ _=>False)(ZY:∀(w:World) (H:Hp) (s:Shared) (e:Value) (s':Shared),CX w [] H s (λ_ _ _=>False) e s'->False):
  PySem.W.WalkO q loose XP YP l.row.toRowW d [] (λf vs=>PySem.call f vs):=by
 refine Att.Nm hn hdf λw s₀ s₁ mg mb fa o pm cd doc a vs ns G Y ho hd hcd hmg hobj hints hlen hg=>?_
 have KX:=hY w _ Y
 obtain⟨fd,hb,hF⟩:=F w mg fa _ KX G.T.g hmg
 exact Vh KX G.T.g G.T.b G.T.builtins G.T.nolimit hg hobj hints (fZ hlen hn2) hr hF hb (λH hO hS=>vh w H a ns hlen hO hS) λH e s'=>ZY w H s₁ e s'
def inClass(s:Stmt)(j:Nat):Stmt:=match s with
 | .ClassDef _ _ _ body _ _ _ _ _ _ _=>body.getD j (.Pass ⟨0,0,0,0⟩)
 | _=> .Pass ⟨0,0,0,0⟩
def gy(s:Stmt):Arguments:=match s with
 | .FunctionDef _ a _ _ _ _ _ _ _ _=>a
 | _=>{ posonlyargs:=[],args:=[],vararg:=none,kwonlyargs:=[],kw_defaults:=[],kwarg:=none,defaults:=[] }
def dP(s:Stmt):List Stmt:=match s with
 | .FunctionDef _ _ b _ _ _ _ _ _ _=>b
 | _=>[]
def aC(s:Stmt):Scope:=match s with
 | .FunctionDef _ _ _ _ _ _ sc _ _ _=>sc
 | _=>{ kind:=.function,names:=[],isGenerator:=false,isCoroutine:=false }
abbrev vj:z9:=λ_ _ _ _ _ _=>False
abbrev E0:XK:=λ_ _ _=>False
structure Hg(K:Fg)(x qual:Str)(st:Stmt)(f:Addr)(fd:FuncData):Prop where
 ex:∃(oc:Value)(od:Option Addr)(kV doc pm:Value)(an:Option Addr)(cdv ct:Value)(osl:Array (Option Value)),
  fd=PySem.W.fnOf x qual (gy st) (dP st) (aC st) .none kV doc pm an cdv ct/\K.lookup f=some ⟨oc,od,.func fd,osl⟩/\PySem.W.codeIn K cdv qual=true
 kp:PySem.W.keepIn K (.ref f)=true
variable {qual:Str}{f:Addr}{N ps:List Str}{oc doc pm cdv ct:Value}{od an:Option Addr}{osl:Array (Option Value)}
section
variable {P:Program}{w:World}{K:Fg}{mg:SO}{base:Heap}
theorem Hg.ok{st:Stmt}{k:Nat}(F:Hg K x qual st f fd)(S:aP N ps (aC st))(len:∀vs H Q E,sp vs H Q E->vs.length=ps.length)(hbody:∀(cdv:Value) (A:Around) (outer:List Env) (s:Shared) (H:Hp) (vs:List V) (Q:VK) (E:XK),fD k (A.deeper (envOfC qual (aC st) s.heap.objs.size f cdv))->sp vs H Q E->
    ∃t,wY (uc vj P w K mg base N qual (aC st) f cdv A outer s H E).BX (dP st) t/\t { nx:=λ_ H'=>Q .cy H',rt:=Q } (start N vs) H):kj P w K mg base vj (k+1) f fd ps sp:=by
 obtain⟨oc,od,kV,doc,pm,an,cdv,ct,osl,rfl,lk,hcd⟩:=F.ex
 refine acN lk hcd S len λA outer s H vs Q E hr vh=>?_
 obtain⟨t,h,q⟩:=hbody cdv A outer s H vs Q E hr vh
 exact⟨t,h.BX,q⟩
theorem Hg.binds{st:Stmt}(F:Hg K x qual st f fd)(h:∀(kV doc pm:Value) (an:Option Addr) (cdv ct:Value) (us:List Value),us.length=ps.length->bindArgs (PySem.W.fnOf x qual (gy st) (dP st) (aC st) .none kV doc pm an cdv ct) ⟨us,[]⟩=pure (ps.zip us)):Binds K fd ps [] :=by
 obtain⟨oc,od,kV,doc,pm,an,cdv,ct,osl,rfl,lk,hcd⟩:=F.ex
 exact .all (h kV doc pm an cdv ct)
theorem Kw{st:Stmt}{kV:Value}(l:K.lookup f=some ⟨oc,od,.func (PySem.W.fnOf x qual (gy st) (dP st) (aC st) .none kV doc pm an cdv ct),osl⟩)(c:PySem.W.codeIn K cdv qual=true)(k:PySem.W.keepIn K (.ref f)=true):Hg K x qual st f (PySem.W.fnOf x qual (gy st) (dP st) (aC st) .none kV doc pm an cdv ct):=⟨⟨oc,od,kV,doc,pm,an,cdv,ct,osl,Z,l,c⟩,k⟩
end
theorem bX{A:Around}{k:Nat}(hr:fD k A):A.units+1<cLine:=Fd (Nat.add_le_add_left (by decide:1<=64) _) hr.units
theorem dF(h:n<=1000):n<sizeLine:=Fd h (by decide)
section
variable {X:Cx}
end
theorem aW{A B:Prop}(h:B):if false=true then A else B:=by rw[av gC];exact h
theorem mw{A B:Prop}(h:A):if true=true then A else B:=by rw[ay rfl];exact h
theorem cI{c A B:Prop}[Decidable c](h1:c->A)(h2:¬ c->B):if c then A else B:=by
 by_cases h:c
 .rw [ay h];exact h1 h
 .rw [av h];exact h2 h
def aN(H H':Hp):Prop:=∀b o,H b=some o->H' b=some o
theorem aN.refl(H:Hp):aN H H:=λ_ _ h=>h
variable {H H1 H2:Hp}
theorem aN.trans(a:aN H H1)(b:aN H1 H2):aN H H2:=λc o h=>b c o (a c o h)
variable {H':Hp}
theorem aN.free(e:aN H H'){l:Addr}(h:H' l=Option.none):H l=Option.none:=by
 cases q:H l with
 | none=>rfl
 | some o=>rw[e l o q]at h;cases h
variable {xs:List V}
theorem aN.seq(e:aN H H')(h:aD K H a xs):aD K H' a xs:=by
 rcases h with(h|⟨o,h⟩)|h
 .exact .inl (.inl (e _ _ h))
 .exact .inl (.inr ⟨o,e _ _ h⟩)
 .exact .inr h
section
variable {X:Cx}
theorem w6:iH X (.builtin "len") (λxs H Q=>∃a kvs,xs=[V.ref a]/\H a=some (.dK kvs)/\Q (.int kvs.length) H):=by intro pins s σ H xs us Q I r h;obtain⟨a,kvs,rfl,ha,q⟩:=h;obtain⟨u,rfl,ru⟩:=vals1 r;cases ru;exact acR I (.inl ha) λt s' I'=>⟨.int kvs.length,H,I',⟨t,Z⟩,q⟩
end
section
variable {κ:Type}[DecidableEq κ]
theorem Vi{kvs:List (κ×V)}{k:κ}(h:dY kvs k=none):¬ k∈kvs.map (·.1):=by intro m;obtain⟨p,hp,e⟩:=aX.mp m;have q:(kvs.any λkv=>decide (kv.1=k))=true:=List.any_eq_true.mpr ⟨p,hp,br e⟩;rw[rE,h]at q;exact absurd q (by simp)
theorem m7:∀{l:List κ}{k:κ},l.Nodup->¬ k∈l->(l++[k]).Nodup
 | [],k,_,_=>by simp
 | a::r,k,h,hk=>by
  obtain⟨h1,h2⟩:=gP.mp h;show(a::(r++[k])).Nodup;refine gP.mpr ⟨λm=>?_,m7 h2 λm=>hk (eZ.mpr (Or.inr m))⟩;rcases dI.mp m with q|q
  .exact h1 q
  .exact hk (eZ.mpr (Or.inl (dS.mp q).symm))
theorem XI{kvs:List (κ×V)}{k:κ}(v:V)(hn:(kvs.map (·.1)).Nodup)(h:dY kvs k=none):((putK kvs k v).map (·.1)).Nodup:=by rw[oX v h,bL];exact m7 hn (Vi h)
end
end L2
set_option maxHeartbeats 4000000
namespace L2
open PySem PySem.Spec PyProof.Rows
variable {n:Nat}{K:Fg}
section
variable {X:Cx}
def Br(_ j:Int):Prop:=0<j/\j.natAbs.log2<9000
theorem ir:j7 X (binaryOp .FloorDiv) (rI Br λi j=> .int (i / j)):=RL λi j _ _ _ _ _ hc q=>by have h1:(0:Int)<j:=hc.1;exact floordiv_int (by omega) (by rw[Int.fdiv_eq_ediv_of_nonneg i (by omega)];exact q) (.inl (PyProof.noPylong_of_log2 hc.2))
theorem Ab{i j:Int}(h:(decide (0<j) && decide (j.natAbs.log2<9000))=true):Br i j:=by obtain⟨a,b⟩:=nH.mp h;exact⟨dW a,dW b⟩
theorem Vj{i j:Int}(h0:0<j)(h:j<2 ^ n)(hn:n<=9000):Br i j:=by
 refine⟨h0,?_⟩;have e:(j.natAbs:Int)=j:=by omega
 have h2:j.natAbs<2 ^ n:=by
  have:(j.natAbs:Int)<((2 ^ n:Nat):Int):=by rw[e];simpa using h
  exact Int.ofNat_lt.mp this
 have:=(Nat.log2_lt (n:=j.natAbs) (k:=n) (by omega)).mpr h2;omega
def QK(i j:Int):Prop:=∃m n:Nat,i.natAbs<2 ^ m/\j.natAbs<2 ^ n/\m+n<=134217728
theorem eW:j7 X (binaryOp .Mult) (rI QK λi j=> .int (i*j)):=RL λ_ _ _ _ _ _ _ hc q=>by obtain⟨m,n,h1,h2,h3⟩:=hc;exact mul_int q (IntMulOk.of_le (Ql.mpr h1) (Ql.mpr h2) h3)
theorem Nn:iH X (.builtin "isinstance") (λxs H Q=>∃x n t b,xs=[x,.ty n]/\mq X.K H x t/\PySem.W.kitOne X.K t (.type n)=some b/\Q (.bl b) H):=by intro pins s σ H xs us Q I r h;obtain⟨x,n,t,b,rfl,ty,e,q⟩:=h;obtain⟨u,w',rfl,ru,rw'⟩:=vals2 r;have rw2:w'=Value.type n:=rw';subst rw2;exact RV I ru ty e λtk=>⟨.bl b,H,I.tok _,Z,q⟩
theorem Ky{n:String}:PySem.W.kitOne K (.type n) (.type n)=some true:=by unfold PySem.W.kitOne;rw[ay (Jz _)]
theorem Kz:PySem.W.kitOne K (.type "int") (.type "bool")=some false:=by rfl
mutual
inductive Dt(K:Fg)(H:Hp):V->PyData->Prop
 | cy:Dt K H .cy .none
 | bl (b:Bool):Dt K H (.bl b) (.bool b)
 | int (i:Int):Dt K H (.int i) (.int i)
 | str (x:Str):Dt K H (.str x) (.str x)
 | lst {a:Addr} {xs:List V} {ds:List PyData}:aD K H a xs->B7 K H xs ds->Dt K H (.ref a) (.list ds)
 | tup {a:Addr} {xs:List V} {ds:List PyData}:dU K H a xs->B7 K H xs ds->Dt K H (.ref a) (.tuple ds)
inductive B7(K:Fg)(H:Hp):List V->List PyData->Prop
 | nil:B7 K H [] []
 | cons {x:V} {xs:List V} {d:PyData} {ds:List PyData}:Dt K H x d->B7 K H xs ds->B7 K H (x::xs) (d::ds)
end
section
variable {pins:AO}{σ:St}{H:Hp}{s:Shared}
mutual
theorem Dt.reads(I:Inv X pins σ H s):∀{x:V}{d:PyData}{u:Value},Dt X.K H x d->RelV x u->∃as,Reads s.heap u d as
 | _,_,u,.cy,r=>by cases(show u=Value.none from r);exact⟨_,.none⟩
 | _,_,u,.bl b,r=>by cases(show u=Value.bool b from r);exact⟨_,.bool b⟩
 | _,_,u,.int i,r=>by obtain⟨t,rfl⟩:=(show ∃t,u=Value.int i t from r);exact⟨_,.int i t⟩
 | _,_,u,.str x,r=>by obtain⟨t,rfl⟩:=(show ∃t,u=Value.str x t from r);exact⟨_,.str x t⟩
 | _,_,u,@Dt.lst _ _ a xs ds h hd,r=>by cases(show u=Value.ref a from r);obtain⟨its,rv,⟨o,n,e,c,_,d⟩,hz⟩:=I.list h;obtain⟨as,ra⟩:=B7.reads I hd rv;exact⟨_,.list e c d (by simpa using ra)⟩
 | _,_,u,@Dt.tup _ _ a xs ds h hd,r=>by cases(show u=Value.ref a from r);obtain⟨its,rv,⟨o,e,c,n,d⟩,hz⟩:=I.tuple h;obtain⟨as,ra⟩:=B7.reads I hd rv;exact⟨_,.tuple e c d (by simpa using ra)⟩
theorem B7.reads(I:Inv X pins σ H s):∀{xs:List V}{ds:List PyData}{us:List Value},B7 X.K H xs ds->Vals xs us->∃as,ReadsAll s.heap us ds as
 | _,_,_,.nil,.nil=>⟨_,.nil⟩
 | _,_,_,.cons h t,.cons r rs=>by obtain⟨as,ra⟩:=Dt.reads I h r;obtain⟨bs,rb⟩:=B7.reads I t rs;exact⟨_,.cons ra rb⟩
end
end
inductive ZZ(K:Fg)(x:V)(y:V)(H:Hp)(Q:VK):Prop
 |mk(d e:_)(_:Dt K H x d)(_:Dt K H y e)(_:SeqAt.shaped d=true)(_:SeqAt.shaped e=true)(_:Q (.bl (PyData.eqv d e)) H)
theorem Z0(hu:X.A.units+64<cLine):j7 X (compareOp .Eq) (ZZ X.K):=by intro pins s σ H x y v u Q I rx ry h;obtain⟨d,e,hd,he,sd,se,q⟩:=h;obtain⟨as,ra⟩:=hd.reads I rx;obtain⟨bs,rb⟩:=he.reads I ry;exact eq_dataH ra rb sd se hu ⟨.bl _,H,I,Z,q⟩
structure Bx(p:Prop):Prop where
 ex:p
def bx(f:Sp):Sp:=λvs H Q E=>Bx (f vs H Q E)
structure Dn(P:Program)(w:World)(K:Fg)(mg:SO)(base:Heap)(k:Nat)(x:Str)(ps:List Str)(sp:Sp):Prop where
 ex:∃f fd,kj P w K mg base vj k f fd ps sp/\Binds K fd ps []/\PySem.W.keepIn K (.ref f)=true/\mg x=some (.ref f)
end
structure At(K:Fg)(mg:SO)(x:Str)(st:Stmt)(f:Addr)(fd:FuncData):Prop where
 fn:Hg K x x st f fd
 name:mg x=some (.ref f)
variable {P:Program}{w:World}{mg:SO}{base:Heap}{x:Str}{f:Addr}{fd:FuncData}{N ps:List Str}{sp:Sp}
theorem At.ok{st:Stmt}{k:Nat}(F:At K mg x st f fd)(S:aP N ps (aC st))(len:∀vs H Q E,sp vs H Q E->vs.length=ps.length)(hbody:∀(cdv:Value) (A:Around) (outer:List Env) (s:Shared) (H:Hp) (vs:List V) (Q:VK) (E:XK),fD k (A.deeper (envOfC x (aC st) s.heap.objs.size f cdv))->sp vs H Q E->
    ∃t,wY (uc vj P w K mg base N x (aC st) f cdv A outer s H E).BX (dP st) t/\t { nx:=λ_ H'=>Q .cy H',rt:=Q } (start N vs) H)(h:∀(kV doc pm:Value) (an:Option Addr) (cdv ct:Value) (us:List Value),us.length=ps.length->bindArgs (PySem.W.fnOf x x (gy st) (dP st) (aC st) .none kV doc pm an cdv ct) ⟨us,[]⟩=pure (ps.zip us)):
  Dn P w K mg base (k+1) x ps sp:=⟨f,fd,F.fn.ok S len hbody,F.fn.binds h,F.fn.kp,F.name⟩
variable {h:Heap}{oc doc pm cdv ct:Value}{od an:Option Addr}{osl:Array (Option Value)}
theorem WB{st:Stmt}{kV:Value}(X:K.In h)(G:h.Ns mainGlobals mg)(a:PySem.W.nsIn K mainGlobals x=some (some (.ref f)))(l:K.lookup f=some ⟨oc,od,.func (PySem.W.fnOf x x (gy st) (dP st) (aC st) .none kV doc pm an cdv ct),osl⟩)(c:PySem.W.codeIn K cdv x=true)(k:PySem.W.keepIn K (.ref f)=true):At K mg x st f (PySem.W.fnOf x x (gy st) (dP st) (aC st) .none kV doc pm an cdv ct):=⟨Kw l c k,PySem.W.mg_of X G a⟩
theorem aN.tup{H H':Hp}{K:Fg}{a:Addr}{xs:List V}(e:aN H H')(h:dU K H a xs):dU K H' a xs:=by
 rcases h with(h|⟨o,h⟩)|h
 .exact .inl (.inl (e _ _ h))
 .exact .inl (.inr ⟨o,e _ _ h⟩)
 .exact .inr h
variable {H:Hp}
theorem aI{p:Addr}(h:H p=none)(o:HO):aN H (upd H p o):=λb u q=>by rw[az (aJ q h)];exact q
theorem small(h:n<=1000):n<=sizeLine:=Bf (dF h)
end L2
namespace Jm
def cf(a b:Int):Int:=(Int.gcd a b:Int)
theorem OV(a:Int)(h:0<=a):cf a 0=a:=by unfold cf;rw[Int.gcd_zero_right];omega
theorem Ft(a b:Int)(h:0<b):cf b (a % b)=cf a b:=by unfold cf;rw[Int.emod_def,Int.gcd_sub_mul_left_right,Int.gcd_comm]
theorem DF(a b:Int)(h:0<a\/0<b):0<cf a b:=by
 unfold cf;have:0<Int.gcd a b:=by
  rcases h with h|h
  .exact Int.gcd_pos_of_ne_zero_left _ (by omega)
  .exact Int.gcd_pos_of_ne_zero_right _ (by omega)
 omega
theorem OW(a b:Int):cf a b=cf b a:=by unfold cf;rw[Int.gcd_comm]
theorem Z1(a b:Int):cf a (if b<0 then -b else b)=cf a b:=by
 unfold cf;split
 .rw [Int.gcd_neg]
 .rfl
abbrev fr(t b:Int):Rat:=Rat.divInt t b
theorem Sa(t b:Int)(h:0<b):(fr t b).num=t / cf b t:=by unfold fr cf;rw[Rat.num_divInt,Int.sign_eq_one_of_pos h,Int.one_mul]
theorem Sb(t b:Int)(h:0<b):((fr t b).den:Int)=b / cf b t:=by unfold fr cf;rw[Rat.den_divInt,av (by omega)];rw[Int.natCast_ediv];congr 1;omega
theorem sQ(a b:Int):cf a b∣a:=Int.gcd_dvd_left ..
theorem qc(a b:Int):cf a b∣b:=Int.gcd_dvd_right ..
theorem DG{t b t' b':Int}(h:0<b)(h':0<b')(e:t*b'=t'*b):fr t b=fr t' b':=(Rat.divInt_eq_divInt_iff (by omega) (by omega)).mpr e
theorem Sd{n d:Int}(h:0<d)(c:cf n d=1):(fr n d).num=n/\((fr n d).den:Int)=d:=by rw[Sa n d h,Sb n d h,OW,c,Dm,Dm];exact⟨Z,Z⟩
def Sz(n:Nat)(x:Int):Prop:=x.natAbs<2 ^ n
theorem Sz.mono{m n:Nat}{x:Int}(h:Sz m x)(hn:m<=n):Sz n x:=lN h (Nat.pow_le_pow_right (by decide) hn)
theorem Sz.of_le{n:Nat}{x y:Int}(h:Sz n y)(hx:x.natAbs<=y.natAbs):Sz n x:=Fd hx h
theorem Sz.neg{n:Nat}{x:Int}(h:Sz n x):Sz n (-x):=h.of_le (by omega)
theorem Sz.mul{m n:Nat}{x y:Int}(hx:Sz m x)(hy:Sz n y):Sz (m+n) (x*y):=by unfold Sz at *;rw[Dg,Nat.pow_add];exact Nat.mul_lt_mul'' hx hy
theorem Sz.add{m n:Nat}{x y:Int}(hx:Sz m x)(hy:Sz n y):Sz (max m n+1) (x+y):=by have h1:=hx.mono (Nat.le_max_left m n);have h2:=hy.mono (Nat.le_max_right m n);unfold Sz at *;rw[Nat.pow_succ];omega
theorem Sz.ko{n:Nat}{x y:Int}(hx:Sz n x)(hy:Sz n y):Sz (n+1) (x+y):=by
 have:=hx.add hy
 rwa [Nat.max_self]at this
theorem Sz.k_{n:Nat}{x B:Int}(h0:-B<=x)(h1:x<=B)(hB:Sz n B):Sz n x:=hB.of_le (by omega)
theorem Sz.ediv{n:Nat}{x y:Int}(h:Sz n x)(hy:0<y):Sz n (x / y):=by
 refine h.of_le ?_;have e:=Int.emod_add_mul_ediv x y;have m0:=oj x (b:=y) (by omega);have m1:=yD x hy;rcases Dp x 0 with hx|hx
 .have q0:x / y<0:=Int.ediv_neg_of_neg_of_pos hx hy;have z:y*(x / y)<=1*(x / y):=Int.mul_le_mul_of_nonpos_right (by omega) (by omega);rcases Dp (x / y) x with k|k
  .exfalso;have z2:y*(x / y)<=y*(x-1):=GQ (by omega) (by omega);have z3:y*(x-1)<=1*(x-1)-(y-1):=by
    have z4:(y-1)*(x-1)<=(y-1)*(-2):=GQ (by omega) (by omega);have z5:y*(x-1)=(y-1)*(x-1)+(x-1):=by grind
    omega
   omega
  .omega
 .have q0:0<=x / y:=JE hx (by omega);have:=JA y hx;omega
theorem Sz.dvd{n:Nat}{x y:Int}(h:Sz n y)(hy:0<y)(hx:0<=x)(d:x∣y):Sz n x:=h.of_le (by have:=Dj hy d;omega)
theorem Se{n:Nat}:∀{ws:List Int},(∀m∈ws,Sz n m)->Sz (n+ws.length) ws.sum
 | [],_=>by unfold Sz;show 0<_;exact Nat.two_pow_pos _
 | x::r,h=>by have h1:=Se (ws:=r) λm hm=>h m (cR _ hm);have h2:=((h x cQ).mono (sy n r.length)).ko h1;rw[b8];exact h2.mono (by rw[iY];omega)
def DH(c:Int):Nat->Int
 | 0=>c
 | i+1=>DH c i / 10000000000
def cellOf(ns:List Int)(k:Int):Int:=if 0<(ns.length:Int) then ns.getD (k % ns.length).toNat 0 else 0
def Ac(ns:List Int)(k:Int):Int:=if 0<(ns.length:Int) then k / ns.length else 1
def mixed(c k j many:Int):Int:=
 let one:=(c*7919+k*104729+j*1299709+31) % 1000000007
 let two:=(one*48271+c / 1009) % 998244353
 let three:=(two*(one % 9973+1)+j) % 1000000009
 (one*69621+three*40692+three / 1013) % 2147483647 % many
def draw(ns:List Int)(k j many:Int):Int:=if Ac ns k=0/\1000000000000000000<=cellOf ns k/\0<DH (cellOf ns k) j.toNat then DH (cellOf ns k) j.toNat % 10000000000 % many
 else mixed (cellOf ns k) k j many
theorem XJ(ns:List Int)(k j many:Int)(h:0<many):0<=draw ns k j many:=by
 unfold draw;split
 .exact oj _ (by omega)
 .exact oj _ (by omega)
theorem XM(ns:List Int)(k j many:Int)(h:0<many):draw ns k j many<many:=by
 unfold draw;split
 .exact yD _ h
 .exact yD _ h
end Jm
namespace L2
open PySem PySem.Spec PyProof.Rows
inductive acW(K:Fg)(vs:List V)(H:Hp)(Q:VK)(E:XK):Prop
 |mk(a:Addr)(ns:List Int)(k j many:Int)(_:vs=[.ref a,.int k,.int j,.int many])(_:aD K H a (ns.map V.int))(_:ns.length<=63)(_:0<=k)(_:0<=j)(_:j<2 ^ 62)(_:0<many)(_:Q (.int (Jm.draw ns k j many)) H)
def tH(K:Fg):Sp:=bx (acW K)
variable {K:Fg}{H:Hp}{Q:VK}{a:Addr}{ns:List Int}
theorem dw{E:XK}{k j many:Int}(hS:aD K H a (ns.map V.int))(h63:ns.length<=63)(h1:0<=k)(h2:0<=j)(h3:j<2 ^ 62)(h4:0<many)(h:∀d:Int,d=Jm.draw ns k j many->0<=d->d<many->Q (.int d) H):tH K [.ref a,.int k,.int j,.int many] H Q E:=
 ⟨a,ns,k,j,many,Z,hS,h63,h1,h2,h3,h4,h _ rfl (Jm.XJ ns k j many h4) (Jm.XM ns k j many h4)⟩
def Vk:Sp:=λvs H Q _=>∃a b:Int,vs=[.int a,.int b]/\0<=a/\0<=b/\Q (.int (Jm.cf a b)) H
abbrev nJ(q:Rat):HO:=.tup [.int q.num,.int (q.den:Int)]
def WC:Sp:=λvs H Q _=>∃i:Int,vs=[.int i]/\Q (.bl true) H
def JP(K:Fg):Sp:=λvs H Q _=>∃(a:Addr)(ns:List Int),vs=[.ref a]/\aD K H a (ns.map V.int)/\ns.length<=63/\∀H',Q (.bl true) H'
section
variable {X:Cx}{pos:Pos}
def Ends.too(D:Ends)(J:St->Hp->Prop):Ends:={ D with nx:=J }
def acX(t u:TS)(D:Ends)(σ:St)(J:St->Hp->Prop):Bool->Hp->Prop:=λb H1=>if b=true then t (D.too J) σ H1 else u (D.too J) σ H1
inductive Z2(c:TT)(t u:TS)(D:Ends)(σ:St)(H:Hp):Prop
 |mk(J:St->Hp->Prop)(_:c σ H (acX t u D σ J))(_:∀σ' H',J σ' H'->D.nx σ' H')
end
theorem vm{i j:Int}(h0:0<j)(h:Jm.Sz 9000 j):Br i j:=by refine⟨h0,?_⟩;exact(Nat.log2_lt (by omega)).mpr h
variable {m n:Nat}
theorem d9{i j:Int}(hi:Jm.Sz m i)(hj:Jm.Sz n j)(h:m+n<=134217728:=by decide):QK i j:=⟨m,n,hi,hj,h⟩
theorem iC{x:Int}(h:decide (x.natAbs<2 ^ n)=true):Jm.Sz n x:=by unfold Jm.Sz;exact dW h
theorem XO{k:Int}(h0:0<=k)(h:k<(ns.length:Int)):kL (ns.map V.int) k=some (.int (ns.getD k.toNat 0)):=by
 have hk:k.toNat<ns.length:=by omega
 have ek:k=((k.toNat:Nat):Int):=by omega
 have q:kL (ns.map V.int) ((k.toNat:Nat):Int)=some (.int (ns.getD k.toNat 0)):=aB (by rw[bQ,dG,a_ hk] <;> rfl);rw[<-ek]at q;exact q
variable {elt iter:Expr}{scope:Scope}{pos:Pos}{env:Env}
section
variable {prog:Program}{w:World}{A:Around}{R:Result->Shared->Prop}{s:Shared}
theorem KA{target:Expr}{it acc:Value}(J:Nat->Shared->Prop)(turn:∀n s,J n s->wpAny (model prog w) A (pyNext it) (λr s₁=>match r with
    | none=>R (.ok .next) s₁
    | some v=>wpAny (model prog w) A (letOwnedTupleGo target it v) (λ_ s₂=>wpAny (model prog w) A (assign target env v) (λ_ s₃=>wpAny (model prog w) A (eval elt env) (λx s₄=>
            wpAny (model prog w) A (call (.builtin "list.append") [acc,x]) (λ_ s₅=>∃m,m<n/\J m s₅) (λ_ _=>False) s₄) (λ_ _=>False) s₃) (λ_ _=>False) s₂) (λ_ _=>False) s₁) (λ_ _=>False) s)(n:Nat)(h:J n s):codeAny (model prog w) A (.compLoop (.ListComp elt [⟨target,iter,[],0⟩] scope pos) 0 it acc env) R s:=by
 refine codeAny_loop rfl J (λn s hI=>?_) n h
 show wpAny _ A ((compTurn (.ListComp elt [⟨target,iter,[],0⟩] scope pos) 0 it acc env).onRaise (λx=>do noteFrame x env;theTreesLotGoes x)) _ _ s
 refine wpAny_noted ?_
 rw[compTurn_list1]
 refine aA (Dk (aA (jJ (turn n s hI) (λr s₁ h₁=>?_) λ_ _ h'=>h'.elim)))
 cases r with
 | none=>exact bu h₁
 | some v=>
   refine aA (jJ h₁ (λ_ s₂ h₂=>aA (jJ h₂ (λ_ s₃ h₃=>?_) λ_ _ h'=>h'.elim)) λ_ _ h'=>h'.elim)
   exact aA (aA (jJ h₃ (λx s₄ h₄=>aA (jJ h₄ (λ_ s₅ h₅=>bu (bu ⟨Z,h₅⟩)) λ_ _ h'=>h'.elim)) λ_ _ h'=>h'.elim))
end
theorem yM(h:∀y∈scope.names,y.2 =.free->∃c,env.cells.lookup y.1=some c):∃cl,closureFor scope env=pure cl/\(∀y c,(y,c)∈cl->env.cells.lookup y=some c/\(y,NameKind.free)∈scope.names)/\∀y,(y,NameKind.free)∈scope.names->∃c,(y,c)∈cl:=by
 have gen:∀(names:List (Str×NameKind))(acc:List (Str×Addr)),(∀y∈names,y.2 =.free->∃c,env.cells.lookup y.1=some c)->
   ∃cl,(forIn names acc λ(x:Str×NameKind)(cs:List (Str×Addr))=>(if(x.2==NameKind.free)=true then do let a <-cellOf env x.1;pure (ForInStep.yield ((x.1,a)::cs)) else pure (ForInStep.yield cs):Sem _))=pure cl/\
    (∀y c,(y,c)∈cl->(env.cells.lookup y=some c/\(y,NameKind.free)∈names)\/(y,c)∈acc)/\(∀p∈acc,p∈cl)/\∀y,(y,NameKind.free)∈names->∃c,(y,c)∈cl:=by
  intro names
  induction names with
  | nil=>intro acc _;exact⟨acc,by rw[Dh],λy c m=> .inr m,λp hp=>hp,λy m=>nomatch m⟩
  | cons x r ih=>
    intro acc hc
    obtain⟨n,k⟩:=x
    by_cases hk:k =.free
    . subst hk
      obtain⟨c,ec⟩:=hc (n,.free) cQ rfl
      obtain⟨cl,e,h1,h2,h3⟩:=ih ((n,c)::acc) λy hy=>hc y (cR _ hy)
      refine⟨cl,?_,λy d m=>?_,λp hp=>h2 p (cR _ hp),λy m=>?_⟩
      . rw[JF,<-e]
        have acY:cellOf env n=pure c:=by unfold cellOf;rw[ec]
        simp only[Jz,if_true,acY,pure_bind]
      . rcases h1 y d m with⟨a,b⟩|b
        . exact .inl ⟨a,cR _ b⟩
        . rcases eZ.mp b with z|z
          . cases z;exact .inl ⟨ec,cQ⟩
          . exact .inr z
      . rcases eZ.mp m with z|z
        . cases z;exact⟨c,h2 _ cQ⟩
        . exact h3 y z
    . obtain⟨cl,e,h1,h2,h3⟩:=ih acc λy hy=>hc y (cR _ hy)
      have hb:(k==NameKind.free)=false:=by simpa using hk
      refine⟨cl,?_,λy d m=>?_,h2,λy m=>?_⟩
      . rw[JF,<-e]
        simp only[hb,J0,sO,pure_bind]
      . rcases h1 y d m with⟨a,b⟩|b
        . exact .inl ⟨a,cR _ b⟩
        . exact .inr b
      . rcases eZ.mp m with z|z
        . cases z;exact absurd rfl hk
        . exact h3 y z
 obtain⟨cl,e,h1,_,h3⟩:=gen scope.names [] h;refine⟨cl,?_,λy c m=>(h1 y c m).elim id (λz=>nomatch z),h3⟩;have e2:closureFor scope env=((forIn scope.names ([] :List (Str×Addr)) λ(x:Str×NameKind)(cs:List (Str×Addr))=>(if(x.2==NameKind.free)=true then do let a <-cellOf env x.1;pure (ForInStep.yield ((x.1,a)::cs)) else pure (ForInStep.yield cs):Sem _)) >>= λr=>pure r):=rfl;rw[e2,e];rfl
theorem lookup_mem{α:Type}{l:List (Str×α)}{y:Str}{c:α}(h:(y,c)∈l):∃d,l.lookup y=some d:=by
 induction l with
 | nil=>cases h
 | cons p r ih=>
  obtain⟨k,v⟩:=p;rw[lS];cases hb:y==k with
  | true=>exact⟨v,Z⟩
  | false=>
   rcases eZ.mp h with z|z
   .cases z;simp at hb
   .exact ih z
theorem m8:∀(names:List (Str×NameKind))(n:Nat)(acc:List (Str×Addr)){x:Str}{c:Addr},(cellsFrom n names acc).lookup x=some c->n<=c\/acc.lookup x=some c
 | [],_,_,_,_,h=> .inr h
 | (name,kind)::r,n,acc,x,c,h=>by
  unfold cellsFrom at h;split at h
  .rcases m8 r (n+1) _ h with z|z
   .exact .inl (by omega)
   .rw [lS]at z;cases hb:x==name with
    | true=>rw[hb]at z;cases z;exact .inl (aL _)
    | false=>rw[hb]at z;exact .inr z
  .exact m8 r n acc h
theorem Im:∀(names:List (Str×NameKind))(n n0:Nat)(acc:List (Str×Addr)){x:Str}{c:Addr},n0<=n->(∀d,acc.lookup x=some d->n0<=d)->(cellsFrom n names acc).lookup x=some c->n0<=c:=by
 intro names n n0 acc x c hn ha h;rcases m8 names n acc h with z|z
 .omega
 .exact ha c z
theorem ue:∀(names:List (Str×NameKind))(n:Nat)(acc:List (Str×Addr)){x:Str}{c:Addr},(x,NameKind.cell)∈names->(cellsFrom n names acc).lookup x=some c->n<=c
 | [],_,_,_,_,m,_=>nomatch m
 | (name,kind)::r,n,acc,x,c,m,h=>by
  unfold cellsFrom at h;rcases eZ.mp m with z|z
  .cases z;rw[ay (by rfl)]at h;refine Im r (n+1) n _ (by omega) (λd hd=>?_) h;rw[lS,Jz]at hd;cases hd;exact aL _
  .split at h
   .exact fZ (Nat.le_succ _) (ue r (n+1) _ z h)
   .exact ue r n acc z h
theorem m9:∀(names:List (Str×NameKind))(n:Nat)(acc:List (Str×Addr)){x:Str},(∃c,acc.lookup x=some c)->∃c,(cellsFrom n names acc).lookup x=some c
 | [],_,_,_,h=>h
 | (name,kind)::r,n,acc,x,h=>by
  unfold cellsFrom;split
  .refine m9 r (n+1) _ ?_;rw[lS];cases x==name with
   | true=>exact⟨_,Z⟩
   | false=>exact h
  .exact m9 r n acc h
theorem uf:∀(names:List (Str×NameKind))(n:Nat)(acc:List (Str×Addr)){x:Str},(x,NameKind.cell)∈names->∃c,(cellsFrom n names acc).lookup x=some c
 | [],_,_,_,m=>nomatch m
 | (name,kind)::r,n,acc,x,m=>by
  unfold cellsFrom;rcases eZ.mp m with z|z
  .cases z;rw[ay (by rfl)];refine m9 r (n+1) _ ⟨n,?_⟩;rw[lS,Jz]
  .split
   .exact uf r (n+1) _ z
   .exact uf r n acc z
theorem ug:∀(names:List (Str×NameKind))(n:Nat)(acc:List (Str×Addr)){x:Str},(x,NameKind.cell)∉names->(cellsFrom n names acc).lookup x=acc.lookup x
 | [],_,_,_,_=>rfl
 | (name,kind)::r,n,acc,x,m=>by
  have m2:(x,NameKind.cell)∉r:=λz=>m (cR _ z);unfold cellsFrom;split
  .rename_i hk;rw[ug r (n+1) _ m2,lS];cases hb:x==name with
   | true=>
    have e1:=uP.mp hb;have e2:kind=NameKind.cell:=by simpa using hk
    subst e1 e2;exact absurd cQ m
   | false=>rfl
  .exact ug r n acc m2
theorem uh:∀(names:List (Str×NameKind))(n:Nat)(acc:List (Str×Addr)),(∀x y c,acc.lookup x=some c->acc.lookup y=some c->x=y)->(∀x c,acc.lookup x=some c->c<n)->∀x y c,(cellsFrom n names acc).lookup x=some c->(cellsFrom n names acc).lookup y=some c->x=y
 | [],_,_,h,_=>h
 | (name,kind)::r,n,acc,h,hlt=>by
  intro x y c hx hy;unfold cellsFrom at hx hy;split at hx
  .rename_i hk;rw[ay hk]at hy;refine uh r (n+1) _ (λx y c hx hy=>?_) (λx c hx=>?_) x y c hx hy
   .rw [lS]at hx hy;cases hb:x==name with
    | true=>
     cases hb2:y==name with
     | true=>rw[uP.mp hb,uP.mp hb2]
     | false=>rw[hb]at hx;rw[hb2]at hy;cases hx;exact absurd (hlt _ _ hy) (j_ _)
    | false=>
     cases hb2:y==name with
     | true=>rw[hb]at hx;rw[hb2]at hy;cases hy;exact absurd (hlt _ _ hx) (j_ _)
     | false=>rw[hb]at hx;rw[hb2]at hy;exact h x y c hx hy
   .rw [lS]at hx;cases hb:x==name with
    | true=>rw[hb]at hx;cases hx;exact Nat.lt_succ_self _
    | false=>rw[hb]at hx;exact Qs (hlt _ _ hx)
  .rename_i hk;rw[av hk]at hy;exact uh r n acc h hlt x y c hx hy
theorem xO:∀(names:List (Str×NameKind))(h:Heap)(acc:List (Str×Addr)),(∀x c,acc.lookup x=some c->∃v,h.IsCell c v)->∀x c,(cellsFrom h.objs.size names acc).lookup x=some c->∃v,(pushCells h names).IsCell c v
 | [],_,_,ha=>ha
 | (name,kind)::r,h,acc,ha=>by
  intro x c hx;unfold cellsFrom at hx;unfold pushCells;split at hx
  .rename_i hk;rw[ay hk];have q:=xO r (h.push { cls:=.type "cell",data:=.cell none }) ((name,h.objs.size)::acc) (λx c hx=>by
    rw[lS]at hx;cases hb:x==name with
    | true=>rw[hb]at hx;cases hx;exact⟨none,_,fC _ rfl,Z⟩
    | false=>rw[hb]at hx;obtain⟨v,z⟩:=ha x c hx;exact⟨v,z.keeps λb o e=>cV _ e⟩) x c
   rw[mW]at q;exact q hx
  .rename_i hk;rw[av hk];exact xO r h acc ha x c hx
def d_(X:Cx)(N2:List Str)(scope:Scope)(cl:List (Str×Addr))(s₂:Shared)(H₂:Hp)(fp:List Addr):Cx where
 prog:=X.prog
 w:=X.w
 K:=X.K
 mg:=X.mg
 base:=X.base
 A:=X.A
 N:=N2
 s₀:=s₂
 H₀:=H₂
 env:={ scope:=relabel scope X.env,locals:=s₂.heap.objs.size,globals:=X.env.globals,cells:=cellsFrom (s₂.heap.objs.size+1) scope.names cl,qual:=X.env.qual,func:=none,code:=X.env.code,frame:=X.env.frame,builtins:=X.env.builtins }
 outer:=X.stack
 stack:=X.stack
 ex:=fp
 fn:=λx=>decide (scope.names.lookup x=some .cell)
 calm:=X.calm
 pn:=[]
 xe:=λ_ _=>False
def tK(XN:List Str)(xn sn:List (Str×NameKind))(N2:List Str)(ix:List (Option Nat)):Bool:=(ix.length==N2.length) &&
 ((ix.zip N2).all λp=>match p.1 with
   | none=>true
   | some j=>XN[j]?==some p.2 && sn.lookup p.2==some .free && (xn.lookup p.2==some .cell || xn.lookup p.2==some .free)) &&
 (sn.all λy=>y.2 !=.free || (xn.lookup y.1==some .cell || xn.lookup y.1==some .free)) &&
 (sn.all λy=>y.2 !=.local || sn.lookup y.1==some .local) &&
 (sn.all λy=>y.2 !=.free || sn.all λz=>z.2 !=.cell || z.1 != y.1)
variable {x:Str}
theorem B8{k:NameKind}(h:(relabel scope env).names.lookup x=some k)(hk:k =.cell\/k =.free):(x,NameKind.cell)∈scope.names\/(x,NameKind.free)∈scope.names:=by
 have m:=yz h;obtain⟨y,hy,e⟩:=aX.mp m;obtain⟨n,k0⟩:=y;dsimp only at e;split at e
 .rename_i hc;cases e;have h1:k0=NameKind.free:=by have:=(nH.mp (nH.mp hc).1).1;simpa using this
  subst h1;exact .inr hy
 .cases e;rcases hk with rfl|rfl
  .exact .inl hy
  .exact .inr hy
theorem KC:∀{x:Str},scope.names.lookup x=some .free->(relabel scope env).names.lookup x=some .cell\/(relabel scope env).names.lookup x=some .free:=by
 intro x h;have gen:∀(l:List (Str×NameKind)),l.lookup x=some .free->(l.map λ(n,k)=>if(k==NameKind.free && env.scope.kind ==.function && env.kindOf n==some .cell) then(n,NameKind.cell) else(n,k)).lookup x=some .cell\/
   (l.map λ(n,k)=>if(k==NameKind.free && env.scope.kind ==.function && env.kindOf n==some .cell) then(n,NameKind.cell) else(n,k)).lookup x=some .free:=by
  intro l
  induction l with
  | nil=>intro h;cases h
  | cons p r ih=>
    intro h
    obtain⟨n,k⟩:=p
    rw[lS]at h
    rw[bF]
    dsimp only
    cases hb:x==n with
    | true=>
      rw[hb]at h
      cases h
      split
      . rw[lS,hb];exact .inl rfl
      . rw[lS,hb];exact .inr rfl
    | false=>
      rw[hb]at h
      split
      . rw[lS,hb];exact ih h
      . rw[lS,hb];exact ih h
 exact gen scope.names h
variable {X:Cx}{pins:AO}{σ σ2:St}{s:Shared}{N2:List Str}{cl:List (Str×Addr)}{fp:List Addr}
theorem DI(I:Inv X pins σ H s)(hk:scope.kind =.function)(KD:∀y c,(y,c)∈cl->X.env.cells.lookup y=some c)(Fv:∀y,(y,NameKind.free)∈scope.names->∃c,(y,c)∈cl)(hfp:∀b∈fp,qa X pins H b)(hfo:∀b∈fp,b<s.heap.objs.size)(hl:σ2.length=N2.length)(hσ:∀(i:Nat) (x:Str) (v:V),N2[i]?=some x->σ2[i]?=some (some v)->scope.names.lookup x=some .free/\(X.env.kindOf x=some .cell\/X.env.kindOf x=some .free)/\∃j:Nat,X.N[j]?=some x/\σ[j]?=some (some v))(hd:∀x,(x,NameKind.free)∈scope.names->(x,NameKind.cell)∉scope.names):
  Inv (d_ X N2 scope cl s H fp) [] σ2 H { s with heap:=pushCells (s.heap.push { cls:=.type "dict",data:=.dict #[] }) scope.names }:=by
 have keeps:∀b o,s.heap.get? b=some o->(pushCells (s.heap.push { cls:=.type "dict",data:=.dict #[] }) scope.names).get? b=some o:=λb o e=>JG _ _ b o (cV _ e)
 have hsz:(s.heap.push { cls:=.type "dict",data:=.dict #[] }).objs.size=s.heap.objs.size+1:=mW ..
 have Bs:∀x c,cl.lookup x=some c->X.env.cells.lookup x=some c:=λx c e=>KD x c (yz e)
 have clt:∀x c,cl.lookup x=some c->c<s.heap.objs.size:=λx c e=>by obtain⟨v,z⟩:=I.cell x c (Bs x c e);exact z.lt
 have there:=xO scope.names (s.heap.push { cls:=.type "dict",data:=.dict #[] }) cl (λx c e=>by obtain⟨v,z⟩:=I.cell x c (Bs x c e);exact⟨v,z.keeps λb o e=>cV _ e⟩)
 rw[hsz]at there
 have cells:∀x c,(cellsFrom (s.heap.objs.size+1) scope.names cl).lookup x=some c->s.heap.objs.size+1<=c\/X.env.cells.lookup x=some c:=λx c e=>by
  rcases m8 _ _ _ e with z|z
  .exact .inl z
  .exact .inr (Bs x c z)
 have okY:(d_ X N2 scope cl s H fp).Ok:=by
  refine⟨I.ok.mod,hk,I.ok.glob,I.ok.blt,aL _,?_,?_,?_,I.ok.hd,I.ok.frames,.inl rfl,?_,I.bs,fZ I.ok.GR I.sz,?_,?_,I.stack,I.OJ⟩
  .exact uh _ _ _ (λx y c hx hy=>I.ok.inj x y c (Bs x c hx) (Bs y c hy)) λx c e=>Qs (clt x c e)
  .intro x hx;have m:(x,NameKind.cell)∈scope.names\/(x,NameKind.free)∈scope.names:=by
    rcases hx with z|z
    .exact B8 z (.inl rfl)
    .exact B8 z (.inr rfl)
   rcases m with m|m
   .exact uf _ _ _ m
   .obtain ⟨c,mc⟩:=Fv x m;exact m9 _ _ _ (lookup_mem mc)
  .intro x c hf e;have hf':scope.names.lookup x=some .cell:=dW hf;exact fZ (Nat.le_succ _) (ue _ _ _ (yz hf') e)
  .intro b hb;refine⟨fY (hfo b hb),λx c e z=>?_⟩;have hlt:=hfo b hb;rcases cells x c e with k|k
   .exact absurd (lN hlt (fZ (Nat.le_succ _) (z▸k))) (j_ _)
   .exact (hfp b hb).2.2.2.2.1 x c k z
  .intro b o e hb;rcases(hfp b hb).2.2.2.1 with z|z
   .exact I.ok.J8 b o e z
   .exact absurd (lN (cu (I.ok.bs b o e).1) z) (j_ _)
  .intro b hb hbs;rcases eZ.mp (I.Ka b hbs)with z|z
   .exact (hfp b hb).2.1 z
   .exact (hfp b hb).2.2.1 z
 refine⟨okY,Z,I.bare,Un.kept keeps,?_,there,I.hok.fresh (aL _),?_,(λp hp=>nomatch hp),I.hok.kept keeps,hl⟩
 . refine⟨λ_=>none,(Heap.Ns.new s.heap (.type "dict")).keeps (JG _ _),λi x v e1 e2 _=>?_⟩
   obtain⟨hf,hx,j,j1,j2⟩:=hσ i x v e1 e2
   obtain⟨m,_,hloc⟩:=I.loc
   have hv:Wm X.env.scope x:=hx.elim (λz=> .inr (.inl z)) λz=> .inr (.inr z)
   obtain⟨u,r,lk⟩:=hloc j x v j1 j2 hv
   refine⟨u,r,.inr ⟨KC hf,?_⟩⟩
   rcases lk with⟨k,_⟩|⟨_,c,ec,ic⟩
   . rcases hx with z|z <;> rw[z]at k <;> cases k
   . refine⟨c,?_,ic.keeps keeps⟩
     have mf:=yz hf
     show(cellsFrom (s.heap.objs.size+1) scope.names cl).lookup x=some c
     rw[ug _ _ _ (hd x mf)]
     obtain⟨c',mc⟩:=Fv x mf
     obtain⟨d,ed⟩:=lookup_mem mc
     rw[ed]
     have:=Bs x d ed
     rw[ec]at this
     exact this.symm
 . intro x c e
   rcases cells x c e with k|k
   . exact I.hok.fresh (by omega)
   . exact I.oB x c k
variable {tg:Expr}{te:TE}{E:VS}
section
variable {X:Cx}
def DJ(J:It)(g:TG)(te:TE)(acc:Addr)(σ₀:St)(H:Hp)(Q:VK):Prop:=∃W:Nat->Nat->St->Hp->Prop,(∃m,W 0 m σ₀ (upd H acc (.lst [])))/\∀i m σ2 H2,W i m σ2 H2->(J.stop i H2/\Q (.ref acc) H2)\/(J.go i H2/\∃(S:St->Prop)(N:V->Hp->Prop),(∀σ3 v H4,S σ3->N v H4->∃xs,H4 acc=some (.lst xs)/\xs.length<sizeLine/\∃m',m'<m/\W (i+1) m' σ3 (upd H4 acc (.lst (xs++[v]))))/\∀x H',J.Dr i H2 x H'->g x σ2 H' λσ3 H3=>S σ3/\te σ3 H3 N)
inductive yN(Pv:Nat->List V->Hp->Prop)(i:Nat)(acc:Addr)(out:List V)(v:V)(H4:Hp):Prop
 |mk(_:H4 acc=some (.lst out))(_:Pv (i+1) (out++[v]) (upd H4 acc (.lst (out++[v]))))
def WD(te:TE)(σ:St)(Pv:Nat->List V->Hp->Prop)(i:Nat)(acc:Addr)(out:List V):Bool->Hp->Prop:=λb H2=>if b=true then te σ H2 (yN Pv i acc out) else H2 acc=some (.lst out)/\Pv (i+1) out H2
def pick(ix:List (Option Nat))(σ:St):St:=ix.map λo=>o.bind λj=>(σ[j]?).join
def Z3(ix:List (Option Nat))(g:TG)(te:TE)(σ:St)(Q:VK):It->Hp->Prop:=λJ H1=>∀acc,H1 acc=none->DJ J g te acc (pick ix σ) H1 Q
def WE(wi:TI)(ix:List (Option Nat))(g:TG)(te:TE):TE:=λσ H Q=>wi σ H (Z3 ix g te σ Q)
theorem qe{XN:List Str}{xn sn:List (Str×NameKind)}{ix:List (Option Nat)}(h:tK XN xn sn N2 ix=true):ix.length=N2.length/\(∀(i:Nat)(x:Str)(j:Nat),N2[i]?=some x->ix[i]?=some (some j)->XN[j]?=some x/\sn.lookup x=some .free/\(xn.lookup x=some .cell\/xn.lookup x=some .free))/\(∀y∈sn,y.2 =.free->xn.lookup y.1=some .cell\/xn.lookup y.1=some .free)/\(∀y∈sn,y.2 =.local->sn.lookup y.1=some .local)/\∀x,(x,NameKind.free)∈sn->(x,NameKind.cell)∉sn:=by
 unfold tK at h;obtain⟨h,h5⟩:=nH.mp h;obtain⟨h,h4⟩:=nH.mp h;obtain⟨h,h3⟩:=nH.mp h;obtain⟨h1,h2⟩:=nH.mp h;have e1:ix.length=N2.length:=by simpa using h1
 refine⟨e1,λi x j a b=>?_,λy hy e=>?_,λy hy e=>?_,λx m1 m2=>?_⟩
 .have m:(some j,x)∈ix.zip N2:=by refine aY (i:=i) ?_;rw[List.getElem?_zip_eq_some];exact⟨b,a⟩
  have q:=sH.mp h2 _ m;dsimp only at q;obtain⟨q,q3⟩:=nH.mp q;obtain⟨q1,q2⟩:=nH.mp q;exact⟨by simpa using q1,by simpa using q2,(JX.mp q3).imp (λz=>by simpa using z) λz=>by simpa using z⟩
 .have q:=sH.mp h3 y hy;rcases JX.mp q with z|z
  .rw [e]at z;simp at z
  .exact (JX.mp z).imp (λz=>by simpa using z) λz=>by simpa using z
 .have q:=sH.mp h4 y hy;rcases JX.mp q with z|z
  .rw [e]at z;simp at z
  .simpa using z
 .have q:=sH.mp h5 _ m1;rcases JX.mp q with z|z
  .simp at z
  .have q2:=sH.mp z _ m2;simp at q2
theorem DK{ix:List (Option Nat)}{g:TG}{RR:Value->Addr->Result->Shared->Prop}(hc:X.calm=true)(hg:∀cl s₂ H₂ fp,PG (d_ X N2 scope cl s₂ H₂ fp) tg g)(he:∀cl s₂ H₂ fp,PE (d_ X N2 scope cl s₂ H₂ fp) elt te)(hk:scope.kind =.function)(hn:tK X.N X.env.scope.names scope.names N2 ix=true)(KD:∀y c,(y,c)∈cl->X.env.cells.lookup y=some c)(Fv:∀y,(y,NameKind.free)∈scope.names->∃c,(y,c)∈cl){it:Addr}{fp:List Addr}{tn:Nat->Heap->Prop}{J:It}(I:Inv X pins σ H s)(T:Turn X.prog X.w X.K tg J fp it tn)(st:tn 0 s.heap)(f:∀b∈fp,qa X pins H b)(h:∀acc,H acc=none->DJ J g te acc (ix.map λo=>o.bind λj=>(σ[j]?).join) H Q)(hR:∀acc C H' s' m,Inv X pins σ H' s'->s'.heap.Ns C m->H' C=none->C≠X.env.locals->X.s₀.heap.objs.size<=C->(∀x c,X.env.cells.lookup x=some c->c≠C)->(∀p∈X.pn++pins,p.1≠C)->Q (.ref acc) H'->RR (.ref acc) C (.ok .next) s'):
  wpAny (model X.prog X.w) X.A (newList []) (λacc s₃=>wpAny (model X.prog X.w) X.A (newFunctionEnv scope X.env.globals cl [] X.env.qual none .none (some X.env)) (λcenv s₄=>
   codeAny (model X.prog X.w) X.A (.compStart (.ListComp elt [⟨tg,iter,[],0⟩] scope pos) 0 (.ref it) acc { cenv with scope:=relabel scope X.env }) (RR acc cenv.locals) s₄) E s₃) E s:=by
 obtain⟨k1,k2,k3,k4,k5⟩:=qe hn
 refine yE ?_
 have I3:Inv X pins σ (upd H s.heap.objs.size (.lst [])) { s with heap:=s.heap.push { cls:=.type "list",data:=.seq ([] :List Value).toArray } }:=
  I.laid (a:=s.heap.objs.size) (o:=.lst []) (t':=s.toks) (λ_ _ q=>cV _ q) (aL _) ⟨iA _,[],_,.nil,fC _ rfl⟩
 obtain⟨W,⟨m0,w0⟩,turn⟩:=h s.heap.objs.size I.fresh
 have fo:∀b∈fp,b<s.heap.objs.size:=λb hb=>by obtain⟨o,e,_⟩:=T.obj 0 _ st b hb;exact cu e
 have st3:tn 0 (s.heap.push { cls:=.type "list",data:=.seq ([] :List Value).toArray }):=T.keep _ _ _ st λb _ o e=>cV _ e
 have f3:∀b∈fp,qa X pins (upd H s.heap.objs.size (.lst [])) b:=λb hb=>⟨by rw[az (fY (fo b hb))];exact(f b hb).1,(f b hb).2⟩
 have Sf:∀b∈fp,b<(s.heap.push { cls:=.type "list",data:=.seq ([] :List Value).toArray }).objs.size:=λb hb=>by rw[mW];exact Qs (fo b hb)
 generalize Z4:({ s with heap:=s.heap.push { cls:=.type "list",data:=.seq ([] :List Value).toArray } }:Shared)=s3 at *
 have Z5:s3.heap=s.heap.push { cls:=.type "list",data:=.seq ([] :List Value).toArray }:=by rw[<-Z4]
 rw[<-Z5]at st3 Sf
 generalize s.heap.objs.size=acc at *
 generalize eH3:upd H acc (.lst [])=H3 at *
 have IY:=DI (N2:=N2) (scope:=scope) (cl:=cl) (fp:=fp) (σ2:=ix.map λo=>o.bind λj=>(σ[j]?).join) I3 hk KD Fv f3 Sf (by rw[aE];exact k1) (λi x v e1 e2=>by
  rw[bQ]at e2;cases ei:ix[i]? with
  | none=>rw[ei]at e2;cases e2
  | some o=>
   rw[ei]at e2;cases o with
   | none=>cases e2
   | some j=>
    obtain⟨a1,a2,a3⟩:=k2 i x j e1 ei;refine⟨a2,a3,j,a1,?_⟩;have e3:(σ[j]?).join=some v:=gH e2;cases ej:σ[j]? with
    | none=>rw[ej]at e3;cases e3
    | some z=>rw[ej]at e3;exact iZ some e3) k5
 have ne:wpAny (model X.prog X.w) X.A (newFunctionEnv scope X.env.globals cl [] X.env.qual none .none (some X.env)) (λcenv s₄=>
   cenv={ scope:=scope,locals:=s3.heap.objs.size,globals:=X.env.globals,cells:=cellsFrom (s3.heap.objs.size+1) scope.names cl,qual:=X.env.qual,func:=none,code:=X.env.code,frame:=X.env.frame,builtins:=X.env.builtins }/\
   s₄={ s3 with heap:=pushCells (s3.heap.push { cls:=.type "dict",data:=.dict #[] }) scope.names }) E s3:=by
  simp only[newFunctionEnv,Option.isSome_some,if_true]
  refine aA (wpAny_alloc ?_)
  refine aA (wpAny_layCells _ (λname kind cells=>by cases hkc:kind==NameKind.cell <;> simp[hkc]) _ _ _ _ ?_)
  rw[Dh]
  refine aA (bu (bu ⟨?_,Z⟩))
  rw[show({ s3 with heap:=s3.heap.push { cls:=.type "dict",data:=.dict #[] } }:Shared).heap.objs.size=s3.heap.objs.size+1 from mW ..]
 refine bM ne λcenv s4 ⟨e1,e2⟩=>?_
 subst e1 e2
 have Sg:tn 0 (pushCells (s3.heap.push { cls:=.type "dict",data:=.dict #[] }) scope.names):=T.keep _ _ _ st3 λb _ o e=>JG _ _ b o (cV _ e)
 have DL:s3.heap.objs.size≠X.env.locals:=Bg I3.lt
 have vn:∀{H':Hp},(∀b∈fp,H' b=none)->∀b∈fp,qa (d_ X N2 scope cl s3 H3 fp) [] H' b:=λ{H'} hn b hb=>
  ⟨hn b hb,(IY.ok.OI b hb).1,IY.ok.Fo b hb,.inl hb,(IY.ok.OI b hb).2,λp hp=>nomatch hp⟩
 have loop:codeAny (model X.prog X.w) X.A (.compLoop (.ListComp elt [⟨tg,iter,[],0⟩] scope pos) 0 (.ref it) (.ref acc) (d_ X N2 scope cl s3 H3 fp).env) (RR (.ref acc) s3.heap.objs.size)
   { s3 with heap:=pushCells (s3.heap.push { cls:=.type "dict",data:=.dict #[] }) scope.names }:=by
  refine KA (λn s'=>∃i σ' H',Inv (d_ X N2 scope cl s3 H3 fp) [] σ' H' s'/\tn i s'.heap/\(∀b∈fp,H' b=none)/\W i n σ' H') ?_ m0 ⟨0,_,H3,IY,Sg,λb hb=>(f3 b hb).1,w0⟩
  rintro n s5 ⟨i,σ5,H5,I5,Ad,KG,w5⟩
  rcases turn i n σ5 H5 w5 with⟨stop,qn⟩|⟨go,S,N,Z6,step⟩
  . refine bM (T.done (d_ X N2 scope cl s3 H3 fp) rfl rfl rfl hc i [] s5 σ5 H5 (λ_ _=>False) I5 (vn KG) Ad stop) λr s6 ⟨hr,I6⟩=>?_
    subst hr
    obtain⟨m6,Z7,_⟩:=id I6.loc
    have IX:Inv X pins σ H5 s6:=I3.Wq (ch:=fp) I6.os I6.base I6.hok I6.bare λb hb=>⟨(f3 b hb).2.2.2.1,(f3 b hb).2.1,(f3 b hb).2.2.2.2.1,(f3 b hb).2.2.2.2.2⟩
    refine hR acc s3.heap.objs.size H5 s6 m6 IX Z7 I6.free DL I3.sz (λx c e z=>?_) (λp hp z=>?_) qn
    . obtain⟨v,q⟩:=I3.cell x c e
      exact absurd q.lt (by rw[z];exact j_ _)
    . exact absurd (cu (I3.pin p hp).1) (by rw[z];exact j_ _)
  . refine bM (T.item (d_ X N2 scope cl s3 H3 fp) rfl rfl rfl hc i [] s5 σ5 H5 (λ_ _=>False) I5 (vn KG) Ad go) λr s6 ⟨u,hr,h6⟩=>?_
    subst hr
    refine bM h6 λ_ s7 ⟨x,H7,I7,r7,y7,DM,Sh⟩=>?_
    have Z8:=I7.pinned (vn Sh) (T.obj _ _ DM)
    refine bM (hg cl s3 H3 fp _ s7 σ5 H7 x u _ Z8 r7 (step x H7 y7)) λ_ s8 ⟨σ8,H8,I8,WG,q8⟩=>?_
    refine bM (he cl s3 H3 fp _ s8 σ8 H8 _ I8 q8) λy s9 ⟨v,H9,I9,r9,q9⟩=>?_
    obtain⟨xs,hxs,Z9,m',hm,w9⟩:=Z6 σ8 v H9 WG q9
    refine bM (eV _ s9 σ8 H9 (.ref acc) [v] (.ref acc) [y] (λz DN=>z =.cy/\DN=upd H9 acc (.lst (xs++[v]))) I9 rfl (.cons r9 .nil) ⟨acc,xs,v,Z,Z,hxs,Z9,Z,Z⟩) λz s10 ⟨zv,DN,KH,r10,ez,eH⟩=>?_
    subst eH
    refine⟨m',hm,i+1,σ8,_,KH.rC,T.keep _ _ _ DM λb hb o e=>(KH.pin (b,o) (jW _ (jW _ (jK hb e)))).1,λb hb=>?_,w9⟩
    obtain⟨o,e,d⟩:=T.obj _ _ DM b hb
    exact(KH.pin (b,o) (jW _ (jW _ (jK hb e)))).2.1
 exact codeAny_compStart_list loop (T.self _ 0 _ _ _ Sg loop)
end
variable {H':Hp}
theorem aN.cA{p:Addr}(e:aN H H')(h:H p=none)(o:HO):aN H (upd H' p o):=λb u q=>by rw[az (aJ q h)];exact e b u q
theorem B_(n d:Int):SeqAt.shaped (.tuple [.int n,.int d])=true:=rfl
theorem Vl(n d:Int):PyData.eqv (.tuple [.int n,.int d]) (.tuple [.int n,.int d])=true:=by simp[PyData.eqv,PyData.eqvAll]
theorem Si{p:Addr}{q:Rat}(h:H p=some (nJ q)):Dt K H (.ref p) (.tuple [.int q.num,.int (q.den:Int)]):=.tup (dU.of h) (.cons (.int _) (.cons (.int _) .nil))
inductive Z_(vs:List V)(H:Hp)(Q:VK)(E:XK):Prop
 |mk(t b:Int)(_:vs=[.int t,.int b])(_:0<b)(_:Jm.Sz 9000 b)(_:∀(r:Addr) (H':Hp),aN H H'->H' r=some (nJ (Jm.fr t b))->Q (.ref r) H')
def Fw:Sp:=bx (Z_)
theorem Sj{E:XK}{t b:Int}(h0:0<b)(h1:Jm.Sz 9000 b)(h:∀(r:Addr) (H':Hp),aN H H'->H' r=some (nJ (Jm.fr t b))->Q (.ref r) H'):Fw [.int t,.int b] H Q E:=⟨t,b,Z,h0,h1,h⟩
inductive xIs(vs:List V)(H:Hp)(Q:VK)(E:XK):Prop
 |mk(p:Addr)(q:Rat)(t b:Int)(_:vs=[.ref p,.int t,.int b])(_:H p=some (nJ q))(_:0<b)(_:Jm.Sz 9000 b)(_:q=Jm.fr t b)(_:∀H',aN H H'->Q (.bl true) H')
def QL:Sp:=bx (xIs)
theorem KI{E:XK}{p:Addr}{q:Rat}{t b:Int}(hp:H p=some (nJ q))(h0:0<b)(h1:Jm.Sz 9000 b)(e:q=Jm.fr t b)(h:∀H',aN H H'->Q (.bl true) H'):QL [.ref p,.int t,.int b] H Q E:=⟨p,q,t,b,Z,hp,h0,h1,e,h⟩
section
variable {X:Cx}
theorem Vm(hc:X.calm=true):iH X (.builtin "sum") (λxs H Q=>∃(a:Addr)(ns:List Int),xs=[.ref a]/\aD X.K H a (ns.map V.int)/\Q (.int ns.sum) H):=by
 intro pins s σ H xs us Q I r h;obtain⟨a,ns,rfl,hS,q⟩:=h;obtain⟨u,rfl,ru⟩:=vals1 r;cases ru;obtain⟨its,rv,p,hz⟩:=I.list hS;have hi:=intsAre_of rv;have hl:=p.isList;obtain⟨o,ho,_⟩:=id hl;have hne:a≠s.heap.objs.size:=fY (cu ho);have W:=(Walks.list (prog:=X.prog) (w:=X.w) (A:=X.A.in1) (I.ok.hd hc) s.heap.objs.size a hne its.toArray).toS;have DO:its.length=ns.length:=by rw[<-rv.length,aE]
 refine call_sum_walkAnyS (Qp hl ?_);refine⟨s.heap.objs.size,_,_,_,_,_,_,λi=>ns.getD i 0,Z,W,⟨⟨_,fC _ rfl,Z,Z⟩,hl.at λo e=>cV _ e⟩,λb hb=>?_,λi v hP=>?_,λs' t' hm=>?_⟩
 .rcases eZ.mp hb with rfl|hb
  .exact cu (fC _ rfl)
  .obtain rfl:=dS.mp hb;exact cu (cV _ ho)
 .have Sk:its[i]?=some v:=by simpa using hP
  have hil:i<ns.length:=by have:=(dj.mp Sk).1;omega
  obtain⟨u,hu,ru⟩:=rv.get (i:=i) (x:=V.int ns[i]) (by rw[bQ,a_ hil];rfl);rw[Sk]at hu;cases hu;obtain⟨t,e⟩:=ru;refine⟨t,?_⟩;rw[e];show Value.int ns[i] t=Value.int (ns.getD i 0) t;rw[dG,a_ hil];rfl
 .obtain ⟨h',g',d',tk',os'⟩:=s';have e1:g'=s.gens:=hm.gens;have e2:d'=s.drawn:=hm.drawn;have e3:os'=s.os:=hm.os;subst e1 e2 e3;have hsz:its.toArray.size=ns.length:=by rw[iX,DO]
  rw[hsz,preSum_getD,JU (aL _)];exact⟨.int ns.sum,H,I.kept (h':=h') (t':=tk') λb o e=>hm.heap b o (λhb=>absurd (cu e) ((dS.mp hb)▸j_ _)) (cV _ e),⟨t',Z⟩,q⟩
theorem Vn(hc:X.calm=true):iH X (.builtin "all") (λxs H Q=>∃(a:Addr)(bs:List Bool),xs=[.ref a]/\aD X.K H a (bs.map V.bl)/\Q (.bl (bs.all id)) H):=by
 intro pins s σ H xs us Q I r h;obtain⟨a,bs,rfl,hS,q⟩:=h;obtain⟨u,rfl,ru⟩:=vals1 r;cases ru;obtain⟨its,rv,p,hz⟩:=I.list hS;have hl:=p.isList;obtain⟨o,ho,_⟩:=id hl;have hne:a≠s.heap.objs.size:=fY (cu ho);have DO:its.length=bs.length:=by rw[<-rv.length,aE]
 refine call_all_walk (Qp hl ?_);refine⟨s.heap.objs.size,_,_,_,_,_,λi=>bs.getD i false,Z,Walks.list (prog:=X.prog) (w:=X.w) (A:=X.A.in1) (I.ok.hd hc) s.heap.objs.size a hne its.toArray,⟨⟨_,fC _ rfl,Z,Z⟩,hl.at λo e=>cV _ e⟩,λi v s' Q' E' hP hQ=>?_,λh' tk hk=>?_⟩
 .have Sk:its[i]?=some v:=by simpa using hP
  have hil:i<bs.length:=by have:=(dj.mp Sk).1;omega
  obtain⟨u,hu,ru⟩:=rv.get (i:=i) (x:=V.bl bs[i]) (by rw[bQ,a_ hil];rfl);rw[Sk]at hu;cases hu;have e:v=Value.bool bs[i] :=ru;subst e;refine Co ?_;have hQ2:Q' (bs.getD i false) s':=hQ;rw[dG,a_ hil]at hQ2;exact hQ2
 .have hsz:its.toArray.size=bs.length:=by rw[iX,DO]
  have e:(List.range its.toArray.size).all (λi=>bs.getD i false)=bs.all id:=by
   rw[hsz,Bc,sH,sH];refine⟨λz x hx=>?_,λz i hi=>?_⟩
   .obtain ⟨i,hi,e⟩:=List.mem_iff_getElem.mp hx;have:=z i (sL.mpr hi);rw[dG,a_ hi]at this;rw[<-e];exact this
   .have hi':=sL.mp hi;rw[dG,a_ hi'];exact z _ (yF hi')
  rw[e];exact⟨.bl (bs.all id),H,I.kept (h':=h') (t':=tk) λb o e=>hk b o (λhb=>absurd (cu e) ((dS.mp hb)▸j_ _)) (cV _ e),Z,q⟩
end
section
variable {X:Cx}(K:Fg)
theorem aV(hK:X.K=K:=by rfl):zM X (QF K):=hK▸RZ
theorem aO(hK:X.K=K:=by rfl):zM X (QE K):=hK▸OS
theorem XQ(hu:X.A.units+64<cLine)(hK:X.K=K:=by rfl):j7 X (compareOp .Eq) (ZZ K):=hK▸Z0 hu
theorem i_(hc:X.calm=true)(hK:X.K=K:=by rfl):iH X (.builtin "sum") (λxs H Q=>∃(a:Addr)(ns:List Int),xs=[.ref a]/\aD K H a (ns.map V.int)/\Q (.int ns.sum) H):=hK▸Vm hc
theorem Sl(hc:X.calm=true)(hK:X.K=K:=by rfl):iH X (.builtin "all") (λxs H Q=>∃(a:Addr)(bs:List Bool),xs=[.ref a]/\aD K H a (bs.map V.bl)/\Q (.bl (bs.all id)) H):=hK▸Vn hc
theorem cU(hK:X.K=K:=by rfl):iH X (.builtin "len") (λxs H Q=>∃p ys,xs=[.ref p]/\(aD K H p ys\/dU K H p ys)/\Q (.int ys.length) H):=hK▸Kn
theorem oE(hK:X.K=K:=by rfl):iH X (.type "list") (λxs H Q=>∃p ys,xs=[.ref p]/\(aD K H p ys\/dU K H p ys)/\∀l,H l=none->Q (.ref l) (upd H l (.lst ys))):=hK▸Kq
theorem vq(hK:X.K=K:=by rfl):iH X (.builtin "isinstance") (λxs H Q=>∃x n t b,xs=[x,.ty n]/\mq K H x t/\PySem.W.kitOne K t (.type n)=some b/\Q (.bl b) H):=hK▸Nn
end
theorem Np{l1 l2:Nat}(h1:l1<n)(h2:l2<n):ZipApart (n+4) (n+2) (n+3) n (n+1) l1 l2:=by
 have nn:∀i j:Nat,i≠j->n+i≠n+j:=λi j h e=>h (Nat.add_left_cancel e);have ne:∀(c k:Nat),c<n->c≠n+k:=λc k h=>by omega
 exact⟨nn 2 4 (by decide),nn 3 4 (by decide),nn 0 4 (by decide),nn 1 4 (by decide),nn 2 3 (by decide),nn 2 0 (by decide),nn 2 1 (by decide),nn 3 0 (by decide),nn 3 1 (by decide),nn 0 1 (by decide),ne _ 4 h1,ne _ 3 h1,ne _ 0 h1,ne _ 1 h1,ne _ 4 h2,ne _ 3 h2,ne _ 0 h2,ne _ 1 h2⟩
section
variable {X:Cx}{elts:List Expr}{kk:Nat}{tpos:Pos}
end
inductive acZ(K:Fg)(vs:List V)(H:Hp)(Q:VK)(E:XK):Prop
 |mk(a:Addr)(ns:List Int)(k j:Int)(_:vs=[.ref a,.int k,.int j])(_:aD K H a (ns.map V.int))(_:ns.length<=63)(_:0<=k)(_:0<=j)(_:j<2 ^ 61)(_:∀(m:Int) (H':Hp),1<=m->m<=1000000000->aN H H'->Q (.int m) H')
def DP(K:Fg):Sp:=bx (acZ K)
theorem KJ{E:XK}{k j:Int}(hS:aD K H a (ns.map V.int))(h63:ns.length<=63)(h1:0<=k)(h2:0<=j)(h3:j<2 ^ 61)(h:∀(m:Int) (H':Hp),1<=m->m<=1000000000->aN H H'->Q (.int m) H'):DP K [.ref a,.int k,.int j] H Q E:=⟨a,ns,k,j,Z,hS,h63,h1,h2,h3,h⟩
section
variable {X:Cx}
inductive ac0(Q:VK)(vs:List V)(H1:Hp):Prop
 |mk(j:Int)(_:vs=[.int j])(_:∀p,H1 p=none->Q (.ref p) (upd H1 p (.x_ 0 j)))
def af_(ta:TA):TE:=λσ H Q=>ta σ H (ac0 Q)
def upTo(n:Nat):List Int:=(List.range n).map λi=>((i:Nat):Int)
theorem Io(hc:X.calm=true):iH X (.type "list") (λxs H Q=>∃(r:Addr)(n:Nat),xs=[.ref r]/\H r=some (.x_ 0 (n:Int))/\n<=1000/\∀l,H l=none->Q (.ref l) (upd H l (.lst ((upTo n).map V.int)))):=by
 intro pins s σ H xs us Q I r h;obtain⟨a,n,rfl,hr,hn,q⟩:=h;obtain⟨u,rfl,ru⟩:=vals1 r;cases ru;obtain⟨t,t2,t3,e⟩:=(show e_ X.prog X.w H s.heap a (.x_ 0 (n:Int))from I.hok a _ hr)
 refine call_list_range (n:=n) (I.ok.hd hc) e (small_one (by decide) (by decide) (by omega) (by omega)) (by rw[rangeSize_one];split <;> omega) (by omega) λh' tk acc' c' hk hS hI=>?_;obtain⟨hsz,hit⟩:=hI;have hv:Vals ((upTo n).map V.int) acc'.toList:=by
  have gen:∀(m:Nat)(us:List Value)(k:Nat),us.length=m->(∀(j:Nat)(v:Value),us[j]?=some v->∃t,v =.int ((0:Int)+((k+j:Nat):Int)*1) t)->Vals (((List.range' k m).map λi=>((i:Nat):Int)).map V.int) us:=by
   intro m
   induction m with
   | zero=>intro us k hl _;rw[List.length_eq_zero_iff.mp hl];exact .nil
   | succ m ih=>
    intro us k hl hu;cases us with
    | nil=>cases hl
    | cons v r=>
     obtain⟨t,e⟩:=hu 0 v rfl;refine .cons ⟨t,?_⟩ (ih r (k+1) (by simpa using hl) λj v' hj=>?_)
     .rw [e];show Value.int _ t=Value.int ((k:Nat):Int) t;congr 1;omega
     .obtain ⟨t,e⟩:=hu (j+1) v' (by simpa using hj);exact⟨t,by rw[e];congr 1;omega⟩
  have:=gen n acc'.toList 0 (by simpa using hsz) λj v hj=>by obtain⟨t,e⟩:=hit j v (by simpa using hj);exact⟨t,by rw[e];congr 1;omega⟩
  unfold upTo;rw[List.range_eq_range'];exact this
 have hlen:((upTo n).map V.int).length<=sizeLine:=by unfold upTo;simp;exact small (by omega)
 exact⟨.ref s.heap.objs.size,_,I.laid (a:=s.heap.objs.size) (o:=.lst ((upTo n).map V.int)) (h':=h') (t':=tk) hk (aL _) ⟨hlen,acc'.toList,c',hv,by simpa using hS⟩,Z,q _ I.fresh⟩
inductive XR(K:Fg)(Q:VK)(x:V)(y:V)(H2:Hp):Prop
 |mk(_:y =.int (-1))(a xs:_)(_:x =.ref a)(_:aD K H2 a xs)(_:∀p,H2 p=none->Q (.ref p) (upd H2 p (.lst xs.reverse)))
def ac1(K:Fg)(ts:TE)(σ:St)(Q:VK):V->Hp->Prop:=λx H1=>ts σ H1 (XR K Q x)
def aga(K:Fg)(te ts:TE):TE:=λσ H Q=>te σ H (ac1 K ts σ Q)
end
theorem sum_set:∀(as:List Int)(j:Nat)(x:Int),j<as.length->(as.set j x).sum=as.sum-as.getD j 0+x
 | [],j,_,h=>absurd h (Nat.not_lt_zero _)
 | a::r,0,x,_=>by show(x::r).sum=(a::r).sum-a+x;rw[b8,b8];omega
 | a::r,j+1,x,h=>by show(a::r.set j x).sum=(a::r).sum-r.getD j 0+x;rw[b8,b8,sum_set r j x (by simpa using h)];omega
theorem oY(as:List Int)(j k:Nat)(x:Int)(h:j<as.length):(as.set j x).getD k 0=if k=j then x else as.getD k 0:=by
 rw[dG,Qt];by_cases e:j=k
 .subst e;rw[ay rfl,ay h,ay rfl];rfl
 .rw [av e,av (cO e),<-dG]
theorem lG{k:Nat}(h:k<n):Dy n (k:Int)=some k:=by unfold Dy;rw[ay (by omega),ay (by omega)];rfl
abbrev tx(cs:List Nat):Str:=⟨cs.toArray⟩
theorem Ae(cs:List Nat):(tx cs).length=cs.length:=by show cs.toArray.size=_;rw[iX]
theorem aaa(a b:List Nat):(tx a++tx b:Str)=tx (a++b):=by show(⟨a.toArray++b.toArray⟩:Str)=_;simp[tx]
def WH(cs:List Nat):It:=⟨λi _=>i<cs.length,λi H v H'=>H'=H/\∃c,cs[i]?=some c/\v =.str (tx [c]),λi _=>cs.length<=i⟩
theorem QM{P:Program}{w:World}{K:Fg}{tg:Expr}(x:Str)(t:Tok)(it:Addr):Turn P w K tg (WH x.cps.toList) [it] it (λi h=>h.IsStrIter it "str_ascii_iterator" x t i) where
 mem:=by simp
 obj:=λi h st b hb=>by
  have e:b=it:=by simpa using hb
  subst e;obtain⟨o,e,c,d⟩:=st;exact⟨o,e,λv z=>by rw[d]at z;cases z⟩
 keep:=λi h h' st k=>let⟨o,ho,r⟩:=st;⟨o,k it (by simp) o ho,r⟩
 item:=by
  intro X hP hw hK hc i pins s σ H E I hf st hg;subst hP hw hK;have hi:i<x.cps.size:=by have hg':i<x.cps.toList.length:=hg;simpa using hg'
  obtain⟨f0,f1,f2,f3,f4,f5⟩:=hf it (by simp);refine wpAny_pyNext_ascii_item st (c:=x.cps[i]) (by simp[hi]) λh' st' sb=>?_;have I1:Inv X pins σ H { s with heap:=h',toks:=s.toks+1 }:=I.turned (t':=s.toks+1) (λb o hb e=>sb.extBut b o hb e) f0 f1 f3 f4 f5;obtain⟨o,e,c,d⟩:=id st';exact⟨_,Z,Bl (s:={ s with heap:=h',toks:=s.toks+1 }) e c d (by decide) ⟨.str (tx [x.cps[i]]),H,I1,⟨_,Z⟩,⟨Z,x.cps[i],by simp[hi],Z⟩,st',λb hb=>(hf b hb).1⟩⟩
 done:=by
  intro X hP hw hK hc i pins s σ H E I hf st hg;subst hP hw hK;have hi:x.cps.size<=i:=by have hg':x.cps.toList.length<=i:=hg;simpa using hg'
  obtain⟨f0,f1,f2,f3,f4,f5⟩:=hf it (by simp);exact wpAny_pyNext_ascii_end (I.ok.hd hc) st (by simp;omega) λh' eb=>⟨Z,I.turned (t':=s.toks) (λb o hb e=>eb b o hb e) f0 f1 f3 f4 f5⟩
 self:=λ_ _ _ _ _ st h=>wpAny_pyIter_striter_ascii st h
theorem Sm{P:Program}{w:World}{K:Fg}{tg:Expr}(x:Str)(t:Tok)(it:Addr):Turn P w K tg (WH x.cps.toList) [it] it (λi h=>h.IsStrIter it "str_iterator" x t i) where
 mem:=by simp
 obj:=λi h st b hb=>by
  have e:b=it:=by simpa using hb
  subst e;obtain⟨o,e,c,d⟩:=st;exact⟨o,e,λv z=>by rw[d]at z;cases z⟩
 keep:=λi h h' st k=>let⟨o,ho,r⟩:=st;⟨o,k it (by simp) o ho,r⟩
 item:=by
  intro X hP hw hK hc i pins s σ H E I hf st hg;subst hP hw hK;have hi:i<x.cps.size:=by have hg':i<x.cps.toList.length:=hg;simpa using hg'
  obtain⟨f0,f1,f2,f3,f4,f5⟩:=hf it (by simp);refine wpAny_pyNext_wide_item st (c:=x.cps[i]) (by simp[hi]) λh' st' sb=>?_;have I1:Inv X pins σ H { s with heap:=h',toks:=s.toks+1 }:=I.turned (t':=s.toks+1) (λb o hb e=>sb.extBut b o hb e) f0 f1 f3 f4 f5;obtain⟨o,e,c,d⟩:=id st';exact⟨_,Z,Bl (s:={ s with heap:=h',toks:=s.toks+1 }) e c d (by decide) ⟨.str (tx [x.cps[i]]),H,I1,⟨_,Z⟩,⟨Z,x.cps[i],by simp[hi],Z⟩,st',λb hb=>(hf b hb).1⟩⟩
 done:=by
  intro X hP hw hK hc i pins s σ H E I hf st hg;subst hP hw hK;have hi:x.cps.size<=i:=by have hg':x.cps.toList.length<=i:=hg;simpa using hg'
  obtain⟨f0,f1,f2,f3,f4,f5⟩:=hf it (by simp);exact wpAny_pyNext_wide_end (I.ok.hd hc) st (by simp;omega) λh' eb=>⟨Z,I.turned (t':=s.toks) (λb o hb e=>eb b o hb e) f0 f1 f3 f4 f5⟩
 self:=λ_ _ _ _ _ st h=>wpAny_pyIter_striter_wide st h
variable {cs:List Nat}{acc:Addr}
section
variable {X:Cx}{tg:Expr}
inductive ac2(R:It->Hp->Prop)(x:V)(H1:Hp):Prop
 |mk(cs:List Nat)(_:x =.str (tx cs))(_:R (WH cs:_) H1)
def aab(te:TE):TI:=λσ H R=>te σ H (ac2 R)
theorem aac{l:Expr}{tl:TE}(hl:PE X l tl):PI X tg l (aab tl):=by
 intro pins s σ H R I h;refine bM (hl pins s σ H _ I h) λv s1 ⟨x,H1,I1,r1,q1⟩=>?_;obtain⟨cs,e,q⟩:=q1;subst e;obtain⟨t,rfl⟩:=r1;have fp:∀b∈[s1.heap.objs.size],qa X pins H1 b:=λb hb=>by
  have e:b=s1.heap.objs.size:=by simpa using hb
  subst e;exact I1.Cr (aL _) (I1.hok.fresh (aL _))
 have tw:=@Sm X.prog X.w X.K tg (tx cs) t s1.heap.objs.size;have ta:=@QM X.prog X.w X.K tg (tx cs) t s1.heap.objs.size;cases ha:(tx cs).cps.all (·<128)
 .exact wpAny_pyIter_wide ha ⟨s1.heap.objs.size,[s1.heap.objs.size],_,_,H1,Z,I1.kept (t':=s1.toks) λb o e=>cV _ e,tw,⟨_,fC _ rfl,Z,Z⟩,fp,q⟩
 .exact wpAny_pyIter_ascii ha ⟨s1.heap.objs.size,[s1.heap.objs.size],_,_,H1,Z,I1.kept (t':=s1.toks) λb o e=>cV _ e,ta,⟨_,fC _ rfl,Z,Z⟩,fp,q⟩
theorem Vo{k:Nat}(Pv:Nat->List V->Hp->Prop)(hn:cs.length<=100000)(h0:Pv 0 [] (upd H acc (.lst [])))(hs:∀(i:Nat) (c:Nat) (out:List V) (H1:Hp),cs[i]?=some c->out.length=i->H1 acc=some (.lst out)->Pv i out H1->te (σ2.set k (some (.str (tx [c])))) H1 (yN Pv i acc out))(hd:∀(out:List V) (H1:Hp),out.length=cs.length->H1 acc=some (.lst out)->Pv cs.length out H1->Q (.ref acc) H1):
  DJ (WH cs) (lU k) te acc σ2 H Q:=by
 refine⟨λi m σ' H'=>m=cs.length-i/\i<=cs.length/\(∀v,σ'.set k (some v)=σ2.set k (some v))/\∃out,out.length=i/\H' acc=some (.lst out)/\Pv i out H',⟨cs.length,by simp,iA _,λ_=>rfl,[],Z,ak,h0⟩,?_⟩
 rintro i m σ' H' ⟨rfl,hi,hσ,out,ho,ha,p⟩
 by_cases hlt:i<cs.length
 . refine .inr ⟨hlt,λσ3=>∀v,σ3.set k (some v)=σ2.set k (some v),(yN Pv i acc out),λσ3 v H4 hS ⟨a,b⟩=>?_,λx H1 y=>?_⟩
   . refine⟨out,a,?_,cs.length-(i+1),by omega,Z,hlt,hS,out++[v],by rw[c7,ho];rfl,ak,b⟩
     have:sizeLine=16777216:=lT
     omega
   . obtain⟨e,c,hc,ex⟩:=y
     subst e ex
     refine⟨λv=>by rw[oq];exact hσ v,?_⟩
     have q2:=hs i c out _ hc ho ha p
     rw[<-hσ]at q2
     exact q2
 . have e:i=cs.length:=by omega
   subst e
   exact .inl ⟨aL _,hd out H' ho ha p⟩
end
def DQ(signs:Str)(c:Nat):Bool:=!(Builtin.Str.occurrences signs (tx [c]) 0 signs.length 1).isEmpty
def lV(c:Int)(n:Nat):List Nat:=(List.range n).map λi=>97+((c / 26 ^ i) % 26).toNat
theorem yO(c:Int)(n:Nat):(lV c n).length=n:=by unfold lV;rw[aE,Fi]
theorem Vp(c:Int)(n:Nat):lV c (n+1)=lV c n++[97+((c / 26 ^ n) % 26).toNat] :=by unfold lV;rw[List.range_succ,bL];rfl
theorem Sn{k:Int}(h0:0<=k)(h1:k<26):kL (("abcdefghijklmnopqrstuvwxyz":Str).cps.toList) k=some (97+k.toNat):=by
 have h:∀n:Nat,n<26->("abcdefghijklmnopqrstuvwxyz":Str).cps.toList[n]?=some (97+n):=by decide +kernel
 have e:k=((k.toNat:Nat):Int):=by omega
 have:=aB (h k.toNat (by omega));rw[<-e]at this;exact this
structure Fx(vs:List V)(H:Hp)(Q:VK)(E:XK):Prop where
 ex:∃(c:Int)(n:Nat),vs=[.int c,.int (n:Int)]/\0<=c/\n<=1000/\Q (.str (tx (lV c n))) H
theorem KL{E:XK}{c ni:Int}(e:ni=(n:Int))(hc:0<=c)(hn:n<=1000)(q:Q (.str (tx (lV c n))) H):Fx [.int c,.int ni] H Q E:=by subst e;exact⟨c,n,Z,hc,hn,q⟩
inductive XS(vs:List V)(H:Hp)(Q:VK)(E:XK):Prop
 |mk(cs:List Nat)(signs:Str)(_:vs=[.str (tx cs),.str signs])(_:cs.length<=100000)(_:∀H',aN H H'->Q (.bl (cs.all (DQ signs))) H')
def Cv:Sp:=bx (XS)
theorem QN{H:Hp}{Q:VK}{E:XK}{cs:List Nat}{signs:Str}(hl:cs.length<=100000)(q:∀H',aN H H'->Q (.bl (cs.all (DQ signs))) H'):Cv [.str (tx cs),.str signs] H Q E:=⟨cs,signs,Z,hl,q⟩
def isName(cs:List Nat):Bool:=decide (1<=(cs.length:Int)) && decide ((cs.length:Int)<=8) && cs.all (DQ "abcdefghijklmnopqrstuvwxyz")
inductive XT(vs:List V)(H:Hp)(Q:VK)(E:XK):Prop
 |mk(cs:List Nat)(_:vs=[.str (tx cs)])(_:cs.length<=100000)(_:∀H',aN H H'->Q (.bl (isName cs)) H')
def yP:Sp:=bx (XT)
theorem DR{E:XK}(hl:cs.length<=100000)(q:∀H',aN H H'->Q (.bl (isName cs)) H'):yP [.str (tx cs)] H Q E:=⟨cs,Z,hl,q⟩
theorem DS{p q:Prop}(h:if true=true then p else q):p:=by rwa [ay rfl]at h
theorem DT{p q:Prop}(h:if false=true then p else q):q:=by rwa [av gC]at h
variable {cond:Expr}
section
variable {prog:Program}{w:World}{A:Around}{R:Result->Shared->Prop}{s:Shared}
theorem Ip{target:Expr}{it acc:Value}(J:Nat->Shared->Prop)(turn:∀n s,J n s->wpAny (model prog w) A (pyNext it) (λr s₁=>match r with
    | none=>R (.ok .next) s₁
    | some v=>wpAny (model prog w) A (letOwnedTupleGo target it v) (λ_ s₂=>wpAny (model prog w) A (assign target env v) (λ_ s₃=>wpAny (model prog w) A (isTrue cond env (eval cond env)) (λok s₃'=>if ok=true then
       wpAny (model prog w) A (eval elt env) (λx s₄=>wpAny (model prog w) A (call (.builtin "list.append") [acc,x]) (λ_ s₅=>∃m,m<n/\J m s₅) (λ_ _=>False) s₄) (λ_ _=>False) s₃'
       else ∃m,m<n/\J m s₃') (λ_ _=>False) s₃) (λ_ _=>False) s₂) (λ_ _=>False) s₁) (λ_ _=>False) s)(n:Nat)(h:J n s):codeAny (model prog w) A (.compLoop (.ListComp elt [⟨target,iter,[cond],0⟩] scope pos) 0 it acc env) R s:=by
 refine codeAny_loop rfl J (λn s hI=>?_) n h
 show wpAny _ A ((compTurn (.ListComp elt [⟨target,iter,[cond],0⟩] scope pos) 0 it acc env).onRaise (λx=>do noteFrame x env;theTreesLotGoes x)) _ _ s
 refine wpAny_noted ?_
 rw[compTurn_list]
 refine aA (Dk (aA (jJ (turn n s hI) (λr s₁ h₁=>?_) λ_ _ h'=>h'.elim)))
 cases r with
 | none=>exact bu h₁
 | some v=>
   refine aA (jJ h₁ (λ_ s₂ h₂=>aA (jJ h₂ (λ_ s₃ h₃=>?_) λ_ _ h'=>h'.elim)) λ_ _ h'=>h'.elim)
   refine aA (wpAny_tests_one (jJ h₃ (λok s₃' h₃'=>?_) λ_ _ h'=>h'.elim))
   cases ok with
   | false=>exact bu ⟨Z,DT h₃'⟩
   | true=>exact aA (aA (jJ (DS h₃') (λx s₄ h₄=>aA (jJ h₄ (λ_ s₅ h₅=>bu (bu ⟨Z,h₅⟩)) λ_ _ h'=>h'.elim)) λ_ _ h'=>h'.elim))
end
variable {tc:TT}{wi:TI}
section
variable {X:Cx}
def DU(J:It)(g:TG)(tc:TT)(te:TE)(acc:Addr)(σ₀:St)(H:Hp)(Q:VK):Prop:=∃W:Nat->Nat->St->Hp->Prop,(∃m,W 0 m σ₀ (upd H acc (.lst [])))/\∀i m σ2 H2,W i m σ2 H2->(J.stop i H2/\Q (.ref acc) H2)\/(J.go i H2/\∃(S:St->Prop)(N:V->Hp->Prop)(N0:Hp->Prop),(∀σ3 v H4,S σ3->N v H4->∃xs,H4 acc=some (.lst xs)/\xs.length<sizeLine/\∃m',m'<m/\W (i+1) m' σ3 (upd H4 acc (.lst (xs++[v]))))/\(∀σ3 H4,S σ3->N0 H4->∃m',m'<m/\W (i+1) m' σ3 H4)/\∀x H',J.Dr i H2 x H'->g x σ2 H' λσ3 H3=>S σ3/\tc σ3 H3 λb H4=>if b=true then te σ3 H4 N else N0 H4)
def XU(ix:List (Option Nat))(g:TG)(tc:TT)(te:TE)(σ:St)(Q:VK):It->Hp->Prop:=λJ H1=>∀acc,H1 acc=none->DU J g tc te acc (pick ix σ) H1 Q
def So(wi:TI)(ix:List (Option Nat))(g:TG)(tc:TT)(te:TE):TE:=λσ H Q=>wi σ H (XU ix g tc te σ Q)
theorem Nq{ix:List (Option Nat)}{g:TG}{RR:Value->Addr->Result->Shared->Prop}(hc:X.calm=true)(hg:∀cl s₂ H₂ fp,PG (d_ X N2 scope cl s₂ H₂ fp) tg g)(he:∀cl s₂ H₂ fp,PE (d_ X N2 scope cl s₂ H₂ fp) elt te)(ht:∀cl s₂ H₂ fp,PT (d_ X N2 scope cl s₂ H₂ fp) cond tc)(hk:scope.kind =.function)(hn:tK X.N X.env.scope.names scope.names N2 ix=true)(KD:∀y c,(y,c)∈cl->X.env.cells.lookup y=some c)(Fv:∀y,(y,NameKind.free)∈scope.names->∃c,(y,c)∈cl){it:Addr}{fp:List Addr}{tn:Nat->Heap->Prop}{J:It}(I:Inv X pins σ H s)(T:Turn X.prog X.w X.K tg J fp it tn)(st:tn 0 s.heap)(f:∀b∈fp,qa X pins H b)(h:∀acc,H acc=none->DU J g tc te acc (ix.map λo=>o.bind λj=>(σ[j]?).join) H Q)(hR:∀acc C H' s' m,Inv X pins σ H' s'->s'.heap.Ns C m->H' C=none->C≠X.env.locals->X.s₀.heap.objs.size<=C->(∀x c,X.env.cells.lookup x=some c->c≠C)->(∀p∈X.pn++pins,p.1≠C)->Q (.ref acc) H'->RR (.ref acc) C (.ok .next) s'):
  wpAny (model X.prog X.w) X.A (newList []) (λacc s₃=>wpAny (model X.prog X.w) X.A (newFunctionEnv scope X.env.globals cl [] X.env.qual none .none (some X.env)) (λcenv s₄=>
   codeAny (model X.prog X.w) X.A (.compStart (.ListComp elt [⟨tg,iter,[cond],0⟩] scope pos) 0 (.ref it) acc { cenv with scope:=relabel scope X.env }) (RR acc cenv.locals) s₄) E s₃) E s:=by
 obtain⟨k1,k2,k3,k4,k5⟩:=qe hn
 refine yE ?_
 have I3:Inv X pins σ (upd H s.heap.objs.size (.lst [])) { s with heap:=s.heap.push { cls:=.type "list",data:=.seq ([] :List Value).toArray } }:=
  I.laid (a:=s.heap.objs.size) (o:=.lst []) (t':=s.toks) (λ_ _ q=>cV _ q) (aL _) ⟨iA _,[],_,.nil,fC _ rfl⟩
 obtain⟨W,⟨m0,w0⟩,turn⟩:=h s.heap.objs.size I.fresh
 have fo:∀b∈fp,b<s.heap.objs.size:=λb hb=>by obtain⟨o,e,_⟩:=T.obj 0 _ st b hb;exact cu e
 have st3:tn 0 (s.heap.push { cls:=.type "list",data:=.seq ([] :List Value).toArray }):=T.keep _ _ _ st λb _ o e=>cV _ e
 have f3:∀b∈fp,qa X pins (upd H s.heap.objs.size (.lst [])) b:=λb hb=>⟨by rw[az (fY (fo b hb))];exact(f b hb).1,(f b hb).2⟩
 have Sf:∀b∈fp,b<(s.heap.push { cls:=.type "list",data:=.seq ([] :List Value).toArray }).objs.size:=λb hb=>by rw[mW];exact Qs (fo b hb)
 generalize Z4:({ s with heap:=s.heap.push { cls:=.type "list",data:=.seq ([] :List Value).toArray } }:Shared)=s3 at *
 have Z5:s3.heap=s.heap.push { cls:=.type "list",data:=.seq ([] :List Value).toArray }:=by rw[<-Z4]
 rw[<-Z5]at st3 Sf
 generalize s.heap.objs.size=acc at *
 generalize eH3:upd H acc (.lst [])=H3 at *
 have IY:=DI (N2:=N2) (scope:=scope) (cl:=cl) (fp:=fp) (σ2:=ix.map λo=>o.bind λj=>(σ[j]?).join) I3 hk KD Fv f3 Sf (by rw[aE];exact k1) (λi x v e1 e2=>by
  rw[bQ]at e2;cases ei:ix[i]? with
  | none=>rw[ei]at e2;cases e2
  | some o=>
   rw[ei]at e2;cases o with
   | none=>cases e2
   | some j=>
    obtain⟨a1,a2,a3⟩:=k2 i x j e1 ei;refine⟨a2,a3,j,a1,?_⟩;have e3:(σ[j]?).join=some v:=gH e2;cases ej:σ[j]? with
    | none=>rw[ej]at e3;cases e3
    | some z=>rw[ej]at e3;exact iZ some e3) k5
 have ne:wpAny (model X.prog X.w) X.A (newFunctionEnv scope X.env.globals cl [] X.env.qual none .none (some X.env)) (λcenv s₄=>
   cenv={ scope:=scope,locals:=s3.heap.objs.size,globals:=X.env.globals,cells:=cellsFrom (s3.heap.objs.size+1) scope.names cl,qual:=X.env.qual,func:=none,code:=X.env.code,frame:=X.env.frame,builtins:=X.env.builtins }/\
   s₄={ s3 with heap:=pushCells (s3.heap.push { cls:=.type "dict",data:=.dict #[] }) scope.names }) E s3:=by
  simp only[newFunctionEnv,Option.isSome_some,if_true]
  refine aA (wpAny_alloc ?_)
  refine aA (wpAny_layCells _ (λname kind cells=>by cases hkc:kind==NameKind.cell <;> simp[hkc]) _ _ _ _ ?_)
  rw[Dh]
  refine aA (bu (bu ⟨?_,Z⟩))
  rw[show({ s3 with heap:=s3.heap.push { cls:=.type "dict",data:=.dict #[] } }:Shared).heap.objs.size=s3.heap.objs.size+1 from mW ..]
 refine bM ne λcenv s4 ⟨e1,e2⟩=>?_
 subst e1 e2
 have Sg:tn 0 (pushCells (s3.heap.push { cls:=.type "dict",data:=.dict #[] }) scope.names):=T.keep _ _ _ st3 λb _ o e=>JG _ _ b o (cV _ e)
 have DL:s3.heap.objs.size≠X.env.locals:=Bg I3.lt
 have vn:∀{H':Hp},(∀b∈fp,H' b=none)->∀b∈fp,qa (d_ X N2 scope cl s3 H3 fp) [] H' b:=λ{H'} hn b hb=>
  ⟨hn b hb,(IY.ok.OI b hb).1,IY.ok.Fo b hb,.inl hb,(IY.ok.OI b hb).2,λp hp=>nomatch hp⟩
 have loop:codeAny (model X.prog X.w) X.A (.compLoop (.ListComp elt [⟨tg,iter,[cond],0⟩] scope pos) 0 (.ref it) (.ref acc) (d_ X N2 scope cl s3 H3 fp).env) (RR (.ref acc) s3.heap.objs.size)
   { s3 with heap:=pushCells (s3.heap.push { cls:=.type "dict",data:=.dict #[] }) scope.names }:=by
  refine Ip (λn s'=>∃i σ' H',Inv (d_ X N2 scope cl s3 H3 fp) [] σ' H' s'/\tn i s'.heap/\(∀b∈fp,H' b=none)/\W i n σ' H') ?_ m0 ⟨0,_,H3,IY,Sg,λb hb=>(f3 b hb).1,w0⟩
  rintro n s5 ⟨i,σ5,H5,I5,Ad,KG,w5⟩
  rcases turn i n σ5 H5 w5 with⟨stop,qn⟩|⟨go,S,N,N0,Z6,hS0,step⟩
  . refine bM (T.done (d_ X N2 scope cl s3 H3 fp) rfl rfl rfl hc i [] s5 σ5 H5 (λ_ _=>False) I5 (vn KG) Ad stop) λr s6 ⟨hr,I6⟩=>?_
    subst hr
    obtain⟨m6,Z7,_⟩:=id I6.loc
    have IX:Inv X pins σ H5 s6:=I3.Wq (ch:=fp) I6.os I6.base I6.hok I6.bare λb hb=>⟨(f3 b hb).2.2.2.1,(f3 b hb).2.1,(f3 b hb).2.2.2.2.1,(f3 b hb).2.2.2.2.2⟩
    refine hR acc s3.heap.objs.size H5 s6 m6 IX Z7 I6.free DL I3.sz (λx c e z=>?_) (λp hp z=>?_) qn
    . obtain⟨v,q⟩:=I3.cell x c e
      exact absurd q.lt (by rw[z];exact j_ _)
    . exact absurd (cu (I3.pin p hp).1) (by rw[z];exact j_ _)
  . refine bM (T.item (d_ X N2 scope cl s3 H3 fp) rfl rfl rfl hc i [] s5 σ5 H5 (λ_ _=>False) I5 (vn KG) Ad go) λr s6 ⟨u,hr,h6⟩=>?_
    subst hr
    refine bM h6 λ_ s7 ⟨x,H7,I7,r7,y7,DM,Sh⟩=>?_
    have Z8:=I7.pinned (vn Sh) (T.obj _ _ DM)
    refine bM (hg cl s3 H3 fp _ s7 σ5 H7 x u _ Z8 r7 (step x H7 y7)) λ_ s8 ⟨σ8,H8,I8,WG,q8⟩=>?_
    refine bM (ht cl s3 H3 fp _ s8 σ8 H8 _ I8 q8) λok s9' ⟨H9',WI,q9'⟩=>?_
    cases ok with
    | false=>
      obtain⟨m',hm,w9⟩:=hS0 σ8 H9' WG (DT q9')
      refine ite_ff ⟨m',hm,i+1,σ8,_,WI.rC,T.keep _ _ _ DM λb hb o e=>(WI.pin (b,o) (jW _ (jW _ (jK hb e)))).1,λb hb=>?_,w9⟩
      obtain⟨o,e,d⟩:=T.obj _ _ DM b hb
      exact(WI.pin (b,o) (jW _ (jW _ (jK hb e)))).2.1
    | true=>
      refine ite_tt ?_
      refine bM (he cl s3 H3 fp _ s9' σ8 H9' _ WI (DS q9')) λy s9 ⟨v,H9,I9,r9,q9⟩=>?_
      obtain⟨xs,hxs,Z9,m',hm,w9⟩:=Z6 σ8 v H9 WG q9
      refine bM (eV _ s9 σ8 H9 (.ref acc) [v] (.ref acc) [y] (λz DN=>z =.cy/\DN=upd H9 acc (.lst (xs++[v]))) I9 rfl (.cons r9 .nil) ⟨acc,xs,v,Z,Z,hxs,Z9,Z,Z⟩) λz s10 ⟨zv,DN,KH,r10,ez,eH⟩=>?_
      subst eH
      refine⟨m',hm,i+1,σ8,_,KH.rC,T.keep _ _ _ DM λb hb o e=>(KH.pin (b,o) (jW _ (jW _ (jK hb e)))).1,λb hb=>?_,w9⟩
      obtain⟨o,e,d⟩:=T.obj _ _ DM b hb
      exact(KH.pin (b,o) (jW _ (jW _ (jK hb e)))).2.1
 exact codeAny_compStart_list loop (T.self _ 0 _ _ _ Sg loop)
theorem Vq(N2:List Str)(ix:List (Option Nat)){g:TG}(hc:X.calm=true)(hi:PI X tg iter wi)(hg:∀cl s₂ H₂ fp,PG (d_ X N2 scope cl s₂ H₂ fp) tg g)(he:∀cl s₂ H₂ fp,PE (d_ X N2 scope cl s₂ H₂ fp) elt te)(ht:∀cl s₂ H₂ fp,PT (d_ X N2 scope cl s₂ H₂ fp) cond tc)(hk:scope.kind =.function)(hn:tK X.N X.env.scope.names scope.names N2 ix=true)(hs:∀x,foldedSetIterable iter X.env x=pure x:=by intro _;rfl):
  PE X (.ListComp elt [⟨tg,iter,[cond],0⟩] scope pos) (So wi ix g tc te):=by
 intro pins s σ H Q I h
 obtain⟨k1,k2,k3,k4,k5⟩:=qe hn
 obtain⟨cl,Ss,c1,c2⟩:=yM (scope:=scope) (env:=X.env) λy hy e=>I.ok.has y.1 (k3 y hy e)
 rw[eval_ListComp]
 refine wpAny_comprehension_free (use:=none) rfl hs Ss hk k4 (bM (hi pins s σ H _ I h) λv s1 h1=>bM h1 λitv s2 h2=>?_)
 obtain⟨it,fp,tn,J,H2,e,I2,T,st2,f2,h2⟩:=h2
 subst e
 refine Nq (RR:=λacc C=>compPost (model X.prog X.w) X.A X.xe none (EP X pins σ Q) acc C) (Q:=Q) hc hg he ht hk hn (λy c m=>(c1 y c m).1) c2 I2 T st2 f2 h2 ?_
 intro acc C H' s' m I' ns DL hL hsz yc DV q
 exact⟨m,ns,λh' hs'=>⟨.ref acc,H',I'.turned (it:=C) (t':=s'.toks) (λb o hb e=>(hs'.2 b hb).trans e) DL hL (.inr hsz) yc DV,Z,q⟩⟩
end
theorem yQ{α:Type}[DecidableEq α] :∀{l m:List α},l.Nodup->(∀x∈l,x∈m)->l.length<=m.length
 | [],_,_,_=>iA _
 | x::r,m,h,hs=>by
  have hn:=gP.mp h;have hx:=hs x cQ;have:=yQ (l:=r) (m:=m.erase x) hn.2 λy hy=>by have hne:y≠x:=λe=>hn.1 (e▸hy);exact(List.mem_erase_of_ne hne).mpr (hs y (cR _ hy))
  rw[List.length_erase_of_mem hx]at this;have hp:0<m.length:=List.length_pos_of_mem hx;rw[iY];omega
variable {i:Nat}
theorem Su(c:Int)(h:i<n):(lV c n)[i]?=some (97+((c / 26 ^ i) % 26).toNat):=by unfold lV;rw[bQ,List.getElem?_range h];rfl
theorem XW{c c':Int}{d:Nat}(h:d<n)(e:lV c n=lV c' n):(c / 26 ^ d) % 26=(c' / 26 ^ d) % 26:=by have h1:=Su c h;rw[e,Su c' h]at h1;have h2:=gH h1;have a0:0<=(c / 26 ^ d) % 26:=oj _ (by decide);have b0:0<=(c' / 26 ^ d) % 26:=oj _ (by decide);omega
structure qf(x:List Nat):Prop where
 lo:1<=x.length
 hi:x.length<=8
 XX:∀c∈x,97<=c/\c<123
theorem aae(c:Int)(h1:1<=n)(h2:n<=8):qf (lV c n):=by refine⟨by rw[yO];exact h1,by rw[yO];exact h2,λx hx=>?_⟩;obtain⟨i,_,rfl⟩:=aX.mp hx;have a0:0<=(c / 26 ^ i) % 26:=oj _ (by decide);have a1:(c / 26 ^ i) % 26<26:=yD _ (by decide);omega
def vt(nss:List (List Nat)):List V:=nss.map λx=>V.str (tx x)
theorem Vr(nss:List (List Nat)):(vt nss).all uQ=true:=by unfold vt;rw[List.all_map,sH];exact λ_ _=>rfl
theorem Sv{a b:List Nat}(h:tx a=tx b):a=b:=by
 have:a.toArray=b.toArray:=by injection h
 simpa using this
theorem XY(x:List Nat)(nss:List (List Nat)):OT (.str (tx x)) (vt nss)=decide (x∈nss):=by
 unfold OT vt;rw[List.any_map,Bc,List.any_eq_true,decide_eq_true_eq];constructor
 .rintro ⟨y,hy,e⟩;have e2:zN (.str (tx y)) (.str (tx x))=true:=e;have e3:tx y=tx x:=by unfold zN at e2;simpa using e2
  rw[<-Sv e3];exact hy
 .intro h;refine⟨x,h,?_⟩;show zN (.str (tx x)) (.str (tx x))=true;unfold zN;simp
open PySem.NumText
section
variable {X:Cx}
end
def QO(lo st:Int)(n:Nat):It:=⟨λi _=>i<n,λi H x H'=>H'=H/\x =.int (lo+i*st),λi _=>n<=i⟩
variable {P:Program}{w:World}
theorem Nr(it:Addr)(lo st:Int)(n:Nat):Turn P w K tg (QO lo st n) [it] it (λi h=>IsRangeIter h it (lo+(i:Nat)*st) ((n:Int)-(i:Nat)) st) where
 mem:=by simp
 obj:=λi h st b hb=>by
  have e:b=it:=by simpa using hb
  subst e;exact⟨_,st,λv z=>by have z':Data.fields _=Data.cell v:=z;cases z'⟩
 keep:=λi h h' st k=>k it (by simp) _ st
 item:=by intro X hP hw hK hc i pins s σ H E I hf st' hg;subst hP hw hK;obtain⟨f0,f1,f2,f3,f4,f5⟩:=hf it (by simp);have W:=Walks.range (prog:=X.prog) (w:=X.w) (I.ok.hd hc) it lo st n;refine W.item i s _ _ hg st' λv h' tk hv st2 kk=>?_;obtain⟨t,rfl⟩:=hv;have I1:Inv X pins σ H { s with heap:=h',toks:=tk }:=I.turned (λb o hb e=>kk b o (by simpa using hb) e) f0 f1 f3 f4 f5;exact⟨_,Z,Bl (s:={ s with heap:=h',toks:=tk }) (n:="range_iterator") st2 rfl rfl (by decide) ⟨.int (lo+i*st),H,I1,⟨t,Z⟩,⟨Z,Z⟩,st2,λb hb=>(hf b hb).1⟩⟩
 done:=by intro X hP hw hK hc i pins s σ H E I hf st' hg;subst hP hw hK;obtain⟨f0,f1,f2,f3,f4,f5⟩:=hf it (by simp);exact wpAny_pyNext_range_end (I.ok.hd hc) st' (by have:n<=i:=hg;omega) λh' eb=>⟨Z,I.turned (t':=s.toks) (λb o hb e=>eb b o hb e) f0 f1 f3 f4 f5⟩
 self:=λ_ _ _ _ _ st h=>wpAny_pyIter_rangeiter st h
section
variable {X:Cx}{tg:Expr}
def rF(lo hi st:Int):Nat:=(Builtin.Range.rangeSize lo hi st).toNat
inductive aaf(R:It->Hp->Prop)(vs:List V)(H1:Hp):Prop
 |mk(i j k:Int)(_:vs=[.int i,.int j,.int k])(_:(0<=i/\i<=1000000/\0<=j/\j<=1000000/\0<k/\k<=1000000))(_:R (QO i k (rF i j k)) H1)
def ac3(ta:TA):TI:=λσ H R=>ta σ H (aaf R)
theorem Nt{a b c:Int}(h1:0<=a)(h2:a<=1000000)(h3:0<=b)(h4:b<=1000000)(h5:0<c)(h6:c<=1000000):Builtin.Range.small a b c=true/\0<=Builtin.Range.rangeSize a b c:=by
 have hr:0<=Builtin.Range.rangeSize a b c/\Builtin.Range.rangeSize a b c<=1000001:=by
  unfold Builtin.Range.rangeSize;rw[ay (by omega)];split
  .have e0:0<=(b-a-1) / c:=JE (by omega) (by omega);have e1:(b-a-1) / c<=b-a-1:=JA _ (by omega);omega
  .omega
 refine⟨?_,hr.1⟩;unfold Builtin.Range.small;simp only[Builtin.Range.rangeFitsLong,Bool.and_eq_true,Bool.or_eq_true,decide_eq_true_eq,uP,show c>0 from h5,if_true];omega
end
theorem XZ(signs:Str)(c:Nat):DQ signs c=decide (c∈signs.cps.toList):=PySem.StrLaws.found_one signs c
open Builtin Builtin.Str
section
variable {X:Cx}
end
theorem OX(c:Int)(j d:Nat):(c+(j:Int)*26 ^ d) / 26 ^ d=c / 26 ^ d+(j:Int):=by have hp:(26:Int) ^ d≠0:=Int.ne_of_gt (Int.pow_pos (by decide));rw[Int.add_mul_ediv_right _ _ hp]
variable {nss:List (List Nat)}{t:Nat}
theorem Sw{c:Int}{d:Nat}(h2:d<n)(ht:t<=26)(h:∀j:Nat,j<t->lV (c+(j:Int)*26 ^ d) n∈nss):t<=nss.length:=by
 have hn:((List.range t).map λj=>lV (c+((j:Nat):Int)*26 ^ d) n).Nodup:=by have:(List.range t).Pairwise (λa b=>a<b):=List.pairwise_lt_range;refine List.Pairwise.map _ ?_ (List.Pairwise.and_mem.mp this);rintro a b ⟨ha,hb,hab⟩ e;have ha':=sL.mp ha;have hb':=sL.mp hb;have:=XW h2 e;rw[OX,OX]at this;omega
 have:=yQ hn λx hx=>by obtain⟨j,hj,rfl⟩:=aX.mp hx;exact h j (sL.mp hj)
 rw[aE,Fi]at this;exact this
inductive aag(K:Fg)(vs:List V)(H:Hp)(Q:VK)(E:XK):Prop
 |mk(a:Addr)(ms:List Int)(k:Int)(many:Nat)(_:vs=[.ref a,.int k,.int (many:Int)])(_:aD K H a (ms.map V.int))(_:ms.length<=63)(_:0<=k)(_:many<=25)(_:∀(z:Addr) (nss:List (List Nat)) (H':Hp),aN H H'->H' z=some (.lst (vt nss))->H z=none->nss.length=many->nss.Nodup->(∀x∈nss,qf x)->Q (.ref z) H')
def Fy(K:Fg):Sp:=bx (aag K)
theorem Hh{E:XK}{ms:List Int}{k mi:Int}{many:Nat}(hmi:mi=(many:Int))(hS:aD K H a (ms.map V.int))(h63:ms.length<=63)(h1:0<=k)(h2:many<=25)(h:∀(z:Addr) (nss:List (List Nat)) (H':Hp),aN H H'->H' z=some (.lst (vt nss))->H z=none->nss.length=many->nss.Nodup->(∀x∈nss,qf x)->Q (.ref z) H'):Fy K [.ref a,.int k,.int mi] H Q E:=by
 subst hmi
 exact⟨a,ms,k,many,Z,hS,h63,h1,h2,h⟩
theorem Af{a:List (Key×V)}{b:List (Key×Value)}(r:KV a b):∀{j:Nat}{p:Key×V},a[j]?=some p->∃q,b[j]?=some q/\p.1=q.1/\RelV p.2 q.2:=by
 induction r with
 | nil=>intro j p z;simp at z
 | cons r1 _ ih=>
  intro j p z;cases j with
  | zero=>simp at z;subst z;exact⟨_,Z,r1⟩
  | succ j=>simp at z;obtain⟨q,a1,a2⟩:=ih z;exact⟨q,by simpa using a1,a2⟩
abbrev pR(H:Hp)(d:Addr)(o:Obj)(kvs:List (Key×V)):Prop:=H d=some (.gh o (.dK kvs))
section
variable {X:Cx}{pins:AO}{σ σ':St}{H H':Hp}{s s':Shared}{d:Addr}{kvs:List (Key×V)}{o:Obj}
theorem Inv.freeze(I:Inv X pins σ H s)(e:H d=some (.dK kvs))(ho:s.heap.get? d=some o):Inv X pins σ (upd H d (.gh o (.dK kvs))) s:=by
 have nd:∀{b:Addr},H b=none->b≠d:=λh z=>by rw[z,e]at h;cases h
 have dn:∀{b:Addr},H b=none->upd H d (.gh o (.dK kvs)) b=none:=λh=>by rw[az (nd h)];exact h
 have un:∀{b:Addr}{u:HO},H b=some u->(∀k,u ≠ .dK k)->b≠d:=λh k z=>by rw[z,e]at h;cases h;exact k _ rfl
 refine⟨I.ok,I.os,I.bare,⟨I.base.keep,I.base.slot,λb ob q n x=>dn (I.base.free b ob q n x),I.base.there,λb xs q=>?_,λb ob u q=>?_,λb ps q=>?_⟩,I.loc,I.cell,dn I.free,λx c q=>dn (I.oB x c q),λp hp=>?_,λb ob q=>?_,I.len⟩
 .have:=I.base.tups b xs q;rw[az (un this λk z=>by cases z)];exact this
 .have:=I.base.t9 b ob u q;rw[az (un this λk z=>by cases z)];exact this
 .obtain ⟨more,this⟩:=I.base.xK b ps q;exact⟨more,by rw[az (un this λk z=>by cases z)];exact this⟩
 .obtain ⟨h1,h2,h3⟩:=I.pin p hp;exact⟨h1,dn h2,h3⟩
 .by_cases hb:b=d
  .subst hb;rw[ak]at q;cases q;have:=I.hok b _ e;exact⟨ho,this⟩
  .rw [az hb]at q;refine(I.hok b ob q).stay (λc u _ z=>z) (λc z=>?_) λc xs z=>?_
   .rw [az (un z λk z=>by cases z)];exact z
   .rw [az (un z λk z=>by cases z)];exact z
theorem Inv.Cw(I:Inv X pins σ H s)(e:pR H d o kvs)(h0:∀o u,X.H₀ d≠some (.gh o u)):Inv X pins σ (upd H d (.dK kvs)) s:=by
 have nd:∀{b:Addr},H b=none->b≠d:=λh z=>by rw[z]at h;exact absurd (h.symm.trans e) (by simp)
 have dn:∀{b:Addr},H b=none->upd H d (.dK kvs) b=none:=λh=>by rw[az (nd h)];exact h
 have un:∀{b:Addr}{u:HO},H b=some u->(∀o k,u ≠ .gh o k)->b≠d:=λh k z=>by rw[z]at h;have:=h.symm.trans e;cases this;exact k _ _ rfl
 refine⟨I.ok,I.os,I.bare,⟨I.base.keep,I.base.slot,λb ob q n x=>dn (I.base.free b ob q n x),I.base.there,λb xs q=>?_,λb ob u q=>?_,λb ps q=>?_⟩,I.loc,I.cell,dn I.free,λx c q=>dn (I.oB x c q),λp hp=>?_,λb ob q=>?_,I.len⟩
 .have:=I.base.tups b xs q;rw[az (un this λ_ k z=>by cases z)];exact this
 .have:=I.base.t9 b ob u q;rw[az (λ(z:b=d)=>h0 ob u (by rw[<-z];exact q))];exact this
 .obtain ⟨more,this⟩:=I.base.xK b ps q;exact⟨more,by rw[az (un this λ_ k z=>by cases z)];exact this⟩
 .obtain ⟨h1,h2,h3⟩:=I.pin p hp;exact⟨h1,dn h2,h3⟩
 .by_cases hb:b=d
  .subst hb;rw[ak]at q;cases q;exact(I.hok b _ e).2
  .rw [az hb]at q;refine(I.hok b ob q).stay (λc u _ z=>z) (λc z=>?_) λc xs z=>?_
   .rw [az (un z λ_ k z=>by cases z)];exact z
   .rw [az (un z λ_ k z=>by cases z)];exact z
theorem Inv.Sx(I:Inv X pins σ H s)(e:H d=some (.dK kvs)):∀o u,X.H₀ d≠some (.gh o u):=λo u z=>by have:=I.base.t9 d o u z;rw[e]at this;cases this
theorem Inv.sR(I:Inv X pins σ H s)(e:pR H d o kvs):s.heap.get? d=some o/\kvs.length<=sizeLine/\(d==sysModules)=false/\∃vs ep,KV kvs vs/\s.heap.DictAt (c8 X.prog X.w) d vs ep:=by
 obtain⟨ho,hz,hs,vs,r,dd⟩:=(show e_ X.prog X.w H s.heap d (.gh o (.dK kvs))from I.hok d _ e)
 obtain⟨ep,da⟩:=dd.dictAt;exact⟨ho,hz,hs,vs,ep,r,da⟩
end
def Ends.Cw(D:Ends)(d:Addr)(o:Obj)(kvs:List (Key×V)):Ends where
 nx:=λσ H=>pR H d o kvs/\D.nx σ (upd H d (.dK kvs))
 rt:=λv H=>pR H d o kvs/\D.rt v (upd H d (.dK kvs))
 bk:=λσ H=>pR H d o kvs/\D.bk σ (upd H d (.dK kvs))
 ct:=λσ H=>pR H d o kvs/\D.ct σ (upd H d (.dK kvs))
inductive agb(t:TS)(D:Ends)(σ:St)(H:Hp):Prop
 |mk(d kvs:_)(_:H d=some (.dK kvs))(_:∀o,t (D.Cw d o kvs) σ (upd H d (.gh o (.dK kvs))))
def agc(t:TE):TE:=λσ H Q=>∃d kvs,H d=some (.dK kvs)/\∀o,t σ (upd H d (.gh o (.dK kvs))) λv H'=>pR H' d o kvs/\Q v (upd H' d (.dK kvs))
def Itv(d:Addr)(o:Obj)(kvs:List (Key×V)):It:=⟨λi H=>pR H d o kvs/\i<kvs.length,λi H x H'=>H'=H/\∃p,kvs[i]?=some p/\x=p.2,λi H=>pR H d o kvs/\kvs.length<=i⟩
def Iti(d:Addr)(o:Obj)(kvs:List (Key×V)):It:=⟨λi H=>pR H d o kvs/\i<kvs.length,λi H x H'=>∃a p,H a=none/\kvs[i]?=some p/\x =.ref a/\H'=upd H a (.tup [kV p.1,p.2]),λi H=>pR H d o kvs/\kvs.length<=i⟩
variable {h:Heap}{d:Addr}{es:Array DictEntry}
theorem Bt{vs:List (Key×Value)}{e1 e2:Nat}{o:Obj}(da:h.DictAt (c8 P w) d vs e1)(ho:h.get? d=some o)(hd:o.data =.dict es e2):e1=e2:=by obtain⟨o',es',h1,_,h2,_⟩:=da;rw[ho]at h1;cases h1;rw[hd]at h2;cases h2;rfl
theorem Sy{k:Key}{v:Value}(h:(c8 P w).is k v=true):RelV (kV k) v:=by
 rw[Qv]at h;rcases gR h with⟨i,t,rfl,rfl⟩|⟨x,t,rfl,rfl⟩
 .exact ⟨t,Z⟩
 .exact ⟨t,Z⟩
variable {it:Addr}{kvs:List (Key×V)}{ep:Nat}
theorem SA{o:Obj}(hd:o.data =.dict es ep):Turn P w K tg (Itv d o kvs) [it] it (λi h=>h.IsValIter it d i kvs.length ep) where
 mem:=by simp
 obj:=λi h st b hb=>by
  have e:b=it:=by simpa using hb
  subst e;obtain⟨o,e,c,d⟩:=st;exact⟨o,e,λv z=>by rw[d]at z;cases z⟩
 keep:=λi h h' st k=>st.at λo e=>k it (by simp) o e
 item:=by intro X hP hw hK hc i pins s σ H E I hf st hg;subst hP hw hK;obtain⟨hz,hlt⟩:=hg;obtain⟨ho,_,_,vs,uJ,r,da⟩:=I.sR hz;cases Bt da ho hd;have hl:kvs.length=vs.length:=r.length;obtain⟨q,hq,_,rq⟩:=Af r (a_ hlt);obtain⟨qk,qv⟩:=q;rw[hl]at st;obtain⟨f0,f1,f2,f3,f4,f5⟩:=hf it (by simp);refine wpAny_pyNext_values_item st da hq λh' st' sb=>?_;have I1:Inv X pins σ H { s with heap:=h' }:=I.turned (t':=s.toks) (λb o hb e=>(sb.2 b hb).trans e) f0 f1 f3 f4 f5;obtain⟨oi,e,c,dd⟩:=id st';exact⟨_,Z,Bl (s:={ s with heap:=h' }) e c dd (by decide) ⟨kvs[i].2,H,I1,rq,⟨Z,kvs[i],a_ hlt,Z⟩,by rw[hl];exact st',λb hb=>(hf b hb).1⟩⟩
 done:=by intro X hP hw hK hc i pins s σ H E I hf st hg;subst hP hw hK;obtain⟨hz,hle⟩:=hg;obtain⟨ho,_,_,vs,uJ,r,da⟩:=I.sR hz;cases Bt da ho hd;have hl:kvs.length=vs.length:=r.length;rw[hl]at st;obtain⟨f0,f1,f2,f3,f4,f5⟩:=hf it (by simp);exact wpAny_pyNext_values_end (I.ok.hd hc) st da (by rw[rA];omega) λh' eb=>⟨Z,I.turned (t':=s.toks) (λb o hb e=>eb b o hb e) f0 f1 f3 f4 f5⟩
 self:=λ_ _ _ _ _ st h=>wpAny_pyIter_valiter st h
variable {elts:List Expr}
theorem QS{kk:Nat}{o:Obj}(hd:o.data =.dict es ep):Turn P w K (.Tuple elts kk pos) (Iti d o kvs) [it] it (λi h=>∃ok ov,IsItemIter h it d i kvs.length ep ok ov) where
 mem:=by simp
 obj:=λi h st b hb=>by
  have e:b=it:=by simpa using hb
  subst e;obtain⟨ok,ov,e⟩:=st;exact⟨_,e,λv z=>by cases z⟩
 keep:=λi h h' ⟨ok,ov,st⟩ k=>⟨ok,ov,k it (by simp) _ st⟩
 item:=by
  intro X hP hw hK hc i pins s σ H E I hf st hg;subst hP hw hK;obtain⟨hz,hlt⟩:=hg;obtain⟨ok,ov,st⟩:=st;obtain⟨ho,_,_,vs,uJ,r,da⟩:=I.sR hz;cases Bt da ho hd;have hl:kvs.length=vs.length:=r.length;obtain⟨q,hq,ek,rq⟩:=Af r (a_ hlt);obtain⟨qk,qv⟩:=q;rw[hl]at st;obtain⟨f0,f1,f2,f3,f4,f5⟩:=hf it (by simp);refine wpAny_pyNext_items_item st da hq λkey h1 hk st1 ht hsz hkeep=>?_;refine⟨_,Z,wpAny_letOwnedTupleGo_items (s:={ s with heap:=h1 }) st1 λh2 st2 sb=>?_⟩;have rk:RelV (kV kvs[i].1) key:=by rw[ek];exact Sy hk
  have hil:it≠s.heap.objs.size:=fY (cu st);have w_:∀b o,b≠it->s.heap.get? b=some o->h2.get? b=some o:=λb o hb e=>sb.extBut b o hb (hkeep b o hb e);have I1:Inv X pins σ (upd H s.heap.objs.size (.tup [kV kvs[i].1,kvs[i].2])) { s with heap:=h2 }:=by
   have J:Inv X pins σ H { s with heap:=h2 }:=I.turned (t':=s.toks) w_ f0 f1 f3 f4 f5;have hn:=I.fresh;have J2:Inv X pins σ (upd H s.heap.objs.size (.tup [kV kvs[i].1,kvs[i].2])) { s with heap:=h2,gens:=s.gens,drawn:=s.drawn,toks:=s.toks }:=by
    refine I.step (ch:=[it]) (λb hb=>⟨(hf b hb).2.2.2.1,(hf b hb).2.1,(hf b hb).2.2.2.2.1,(hf b hb).2.2.2.2.2⟩) (λb o _ _ hc' e _=>w_ b o (by simpa using hc') e) (λb o _ _ hc' e _=>⟨o.slots,w_ b o (by simpa using hc') e⟩) (λb o _ e n=>by rw[az (fY (cu e))];exact n) (λb o hc' e=>⟨o,w_ b o (by simpa using hc') e⟩)
     (λb zs q=>by rw[az (aJ q hn)];exact q) (λb o zs q=>by rw[az (aJ q hn)];exact q) (λb ps q=>⟨#[],by rw[az (aJ q hn),q];simp⟩) (λm hm=>?_) (λb ob e=>?_) I.bare
    .obtain ⟨o,es,ep,ho,r⟩:=hm;exact⟨o,es,ep,w_ _ o (λq=>f1 q.symm) ho,r⟩
    .by_cases hb:b=s.heap.objs.size
     .subst hb;rw[ak]at e;cases e;exact⟨by show 2<=sizeLine;decide,[key,qv],.cons rk (.cons rq .nil),_,sb.extBut _ _ hil.symm ht,Z,0,Z⟩
     .rw [az hb]at e;refine(I.hok b ob e).stay (λc v SD q=>?_) (λc q=>by rw[az (aJ q hn)];exact q) λc zs q=>by rw[az (aJ q hn)];exact q
      refine w_ c v (λz=>?_) q;rcases SD with r|r
      .rw [r]at z;rw[z,f0]at e;cases e
      .rw [z,f0]at r;cases r
   exact J2
  refine⟨.ref s.heap.objs.size,_,I1,Z,⟨_,kvs[i],I.fresh,a_ hlt,Z,Z⟩,⟨key,qv,by rw[hl];exact st2⟩,λb hb=>?_⟩;have eb:b=it:=by simpa using hb
  subst eb;rw[az hil];exact f0
 done:=by intro X hP hw hK hc i pins s σ H E I hf st hg;subst hP hw hK;obtain⟨hz,hle⟩:=hg;obtain⟨ok,ov,st⟩:=st;obtain⟨ho,_,_,vs,uJ,r,da⟩:=I.sR hz;cases Bt da ho hd;have hl:kvs.length=vs.length:=r.length;rw[hl]at st;obtain⟨f0,f1,f2,f3,f4,f5⟩:=hf it (by simp);exact wpAny_pyNext_items_end (I.ok.hd hc) st da (by rw[rA];omega) λh' eb=>⟨Z,I.turned (t':=s.toks) (λb o hb e=>eb b o hb e) f0 f1 f3 f4 f5⟩
 self:=λA i s Q E ⟨ok,ov,st⟩ h=>PySem.W.kcp_self st h
section
variable {X:Cx}{tg:Expr}
inductive aah(R:It->Hp->Prop)(x:V)(H1:Hp):Prop
 |mk(d o kvs:_)(_:x =.ref d)(_:pR H1 d o kvs)(_:R (Itv d o kvs:_) H1)
def ac4(td:TE):TI:=λσ H R=>td σ H (aah R)
inductive X0(R:It->Hp->Prop)(x:V)(H1:Hp):Prop
 |mk(d o kvs:_)(_:x =.ref d)(_:pR H1 d o kvs)(_:R (Iti d o kvs:_) H1)
def aai(td:TE):TI:=λσ H R=>td σ H (X0 R)
end
variable {J:It}{tb:TS}{D:Ends}
theorem vv{g:TG}(Pv:Nat->St->Hp->Prop)(h0:Pv 0 σ H)(hgo:∀i σ H,i<n->Pv i σ H->J.go i H)(hst:∀σ H,Pv n σ H->J.stop n H)(hs:∀i x σ H H',i<n->Pv i σ H->J.Dr i H x H'->g x σ H' (tb (D.lp (Pv (i+1)))))(hd:∀σ H,Pv n σ H->D.nx σ H):
  JK g tb D σ (J) H:=by
 refine⟨λi m σ H=>m=n-i/\i<=n/\Pv i σ H,⟨n,by simp,iA _,h0⟩,?_⟩
 rintro i m σ H ⟨rfl,hi,p⟩
 by_cases hlt:i<n
 . exact .inr ⟨hgo i σ H hlt p,Pv (i+1),λσ' H' p'=>⟨n-(i+1),by omega,Z,hlt,p'⟩,λx H' y=>hs i x σ H H' hlt p y⟩
 . have e:i=n:=by omega
   subst e
   exact .inl ⟨hst σ H p,hd σ H p⟩
section
variable {prog:Program}{w:World}{K:Type}[DecidableEq K]{knd:KeyKind prog w K}{A:Around}{E:VS}{s:Shared}
theorem Nu{kvs:List (K×Value)}{k:K}{v:Value}{Q:VS}(hit:s.heap.IsKeyIter it d i kvs.length ep)(hm:s.heap.DictAt knd d kvs ep)(hx:kvs[i]?=some (k,v))(hQ:∀key h',knd.is k key=true->h'.IsKeyIter it d (i+1) kvs.length ep->Heap.SameBut it s.heap h'->Q key { s with heap:=h' }):
  wpAny (model prog w) A (Builtin.SmallTypes.nextOf (.ref it)) Q E s:=by
 obtain⟨o,ho,hc,hd⟩:=id hit;obtain⟨od,es,hod,hcd,Ag,hk,hp,hn⟩:=id hm
 unfold Builtin.SmallTypes.nextOf
 refine aA (zZ (name:=Str.ofString "__next__") hit.typeIs Wi (wN Wi hit.typeIs F.entry_dict_keyiterator_next ?_ (F.args_dict_keyiterator_next_1 _)))
 refine aA (bu ?_);refine aA (aA ?_)
 first|(refine aA (Wg hit.typeIs (bu ?_));refine aA (wO ho hd ?_))|(refine aA (Qc hit.typeIs (bu ?_));refine aA (wO ho hd ?_))
 have own:Builtin.Dict_items.ownsTuple "dict_keyiterator"=false:=by decide
 simp only[own,J0,sO]
 show wpAny _ _ (if(Value.ref d==Value.none)=true then _ else _) _ _ _
 rw[av (λz=>gC z:¬ ((Value.ref d==Value.none)=true))];refine aA (bu ?_)
 have sz:es.size=kvs.length:=by have:=hp.length;simpa using this
 refine aA (Qu hod Ag ?_);rw[av (by rw[sz];simp)]
 refine aA (bu ?_);refine aA (JH hod Ag ?_)
 rw[av (by simp)];refine bu ?_
 have lt:i<kvs.length:=(dj.mp hx).1
 have lt':i<es.size:=by omega
 have kv:=hp.get? (e:=es[i]) (by simp[lt']) hx
 simp only[show ¬ ((i:Int)<0)from by omega,sO,t7,Array.getElem?_eq_getElem lt'];refine aA ?_
 first|(refine aA (Wg hit.typeIs (bu ?_));refine aA (wpAny_isOneOf_keyiter hit.typeIs ?_))|(refine aA (Qc hit.typeIs (bu ?_));refine aA (wpAny_isOneOf_keyiter hit.typeIs ?_))
 show wpAny _ _ (setField (.ref it) 1 (rawInt ((i:Int)+1)) >>= _) _ _ _
 refine aA (Bd ho hd (by simp) ?_)
 have Fz:(s.heap.update it (Obj.mapFields (·.setIfInBounds 1 (rawInt ((i:Int)+1))))).IsKeyIter it d (i+1) kvs.length ep:=⟨_,Qh _ ho (Obj.isFreed_of_fields (Fe hd _)),(Obj.cls_mapFields ..).trans hc,by rw[Fe hd];simp[rawInt]⟩
 refine aA (Dl (aA (wpAny_isOneOf_keyiter (s:={ s with heap:=s.heap.update it (Obj.mapFields (·.setIfInBounds 1 (rawInt ((i:Int)+1)))) }) Fz.typeIs ?_)))
 exact bu (bu ⟨_,Z,bu (hQ _ _ kv.1 Fz (Fc ..))⟩)
theorem QT{kvs:List (K×Value)}{Q:VS}(hh:A.handled=none)(hit:s.heap.IsKeyIter it d i kvs.length ep)(hm:s.heap.DictAt knd d kvs ep)(hx:kvs[i]?=none)(hE:∀h' e,Heap.ExtBut it s.heap h'->(∃o,h'.get? e=some o/\o.cls =.type "StopIteration")->E (.ref e) { s with heap:=h' }):
  wpAny (model prog w) A (Builtin.SmallTypes.nextOf (.ref it)) Q E s:=by
 obtain⟨o,ho,hc,hd⟩:=id hit;obtain⟨od,es,hod,hcd,Ag,hk,hp,hn⟩:=id hm
 unfold Builtin.SmallTypes.nextOf
 refine aA (zZ (name:=Str.ofString "__next__") hit.typeIs Wi (wN Wi hit.typeIs F.entry_dict_keyiterator_next ?_ (F.args_dict_keyiterator_next_1 _)))
 refine aA (bu ?_);refine aA (aA ?_)
 first|(refine aA (Wg hit.typeIs (bu ?_));refine aA (wO ho hd ?_))|(refine aA (Qc hit.typeIs (bu ?_));refine aA (wO ho hd ?_))
 have own:Builtin.Dict_items.ownsTuple "dict_keyiterator"=false:=by decide
 simp only[own,J0,sO]
 show wpAny _ _ (if(Value.ref d==Value.none)=true then _ else _) _ _ _
 rw[av (λz=>gC z:¬ ((Value.ref d==Value.none)=true))];refine aA (bu ?_)
 have sz:es.size=kvs.length:=by have:=hp.length;simpa using this
 refine aA (Qu hod Ag ?_);rw[av (by rw[sz];simp)]
 refine aA (bu ?_);refine aA (JH hod Ag ?_)
 rw[av (by simp)];refine bu ?_
 have ge:es.size<=i:=by rw[sz];simpa using hx
 simp only[show ¬ ((i:Int)<0)from by omega,sO,t7,Array.getElem?_eq_none ge];refine aA ?_
 first|(refine aA (Wg hit.typeIs (bu ?_));show wpAny _ _ (setField (.ref it) 0 .none >>= _) _ _ _)|(refine aA (Qc hit.typeIs (bu ?_));show wpAny _ _ (setField (.ref it) 0 .none >>= _) _ _ _)
 refine aA (Bd ho hd (by simp) ?_);show wpAny _ _ (newExc (.type "StopIteration") [] >>= _) _ _ _
 refine aA ?_;simp only[newExc,newTuple]
 refine aA (yE ?_ (by size_fits));refine aA (m:=firstArgMember _ _) (wpAny_of_eq (a:=Value.none) (by first|rfl|(simp only[firstArgMember];rfl)) ?_)
 refine yE ?_ (by size_fits);simp only[raiseNew]
 refine aA (wpAny_handled ?_);rw[show A.in1.handled=none from hh]
 exact aA (bu (wpAny_throw (hE _ _ (((Fc ..).extBut.push _).push _) ⟨_,fC _ rfl,Z⟩)))
theorem Nv{kvs:List (K×Value)}{k:K}{v:Value}{Q:VS}(hit:s.heap.IsValIter it d i kvs.length ep)(hm:s.heap.DictAt knd d kvs ep)(hx:kvs[i]?=some (k,v))(hQ:∀h',h'.IsValIter it d (i+1) kvs.length ep->Heap.SameBut it s.heap h'->Q v { s with heap:=h' }):
  wpAny (model prog w) A (Builtin.SmallTypes.nextOf (.ref it)) Q E s:=by
 obtain⟨o,ho,hc,hd⟩:=id hit;obtain⟨od,es,hod,hcd,Ag,hk,hp,hn⟩:=id hm
 unfold Builtin.SmallTypes.nextOf
 refine aA (zZ (name:=Str.ofString "__next__") hit.typeIs We (wN We hit.typeIs F.entry_dict_valueiterator_next ?_ (F.args_dict_valueiterator_next_1 _)))
 refine aA (bu ?_);refine aA (aA ?_)
 first|(refine aA (Wh hit.typeIs (bu ?_));refine aA (wO ho hd ?_))|(refine aA (Qd hit.typeIs (bu ?_));refine aA (wO ho hd ?_))
 have own:Builtin.Dict_items.ownsTuple "dict_valueiterator"=false:=by decide
 simp only[own,J0,sO]
 show wpAny _ _ (if(Value.ref d==Value.none)=true then _ else _) _ _ _
 rw[av (λz=>gC z:¬ ((Value.ref d==Value.none)=true))];refine aA (bu ?_)
 have sz:es.size=kvs.length:=by have:=hp.length;simpa using this
 refine aA (Qu hod Ag ?_);rw[av (by rw[sz];simp)]
 refine aA (bu ?_);refine aA (JH hod Ag ?_)
 rw[av (by simp)];refine bu ?_
 have lt:i<kvs.length:=(dj.mp hx).1
 have lt':i<es.size:=by omega
 have kv:=hp.get? (e:=es[i]) (by simp[lt']) hx
 simp only[show ¬ ((i:Int)<0)from by omega,sO,t7,Array.getElem?_eq_getElem lt'];refine aA ?_
 first|(refine aA (Wh hit.typeIs (bu ?_));refine aA (Qi hit.typeIs ?_))|(refine aA (Qd hit.typeIs (bu ?_));refine aA (Qi hit.typeIs ?_))
 show wpAny _ _ (setField (.ref it) 1 (rawInt ((i:Int)+1)) >>= _) _ _ _
 refine aA (Bd ho hd (by simp) ?_)
 have Fz:(s.heap.update it (Obj.mapFields (·.setIfInBounds 1 (rawInt ((i:Int)+1))))).IsValIter it d (i+1) kvs.length ep:=⟨_,Qh _ ho (Obj.isFreed_of_fields (Fe hd _)),(Obj.cls_mapFields ..).trans hc,by rw[Fe hd];simp[rawInt]⟩
 refine aA (Dl (aA (Qi (s:={ s with heap:=s.heap.update it (Obj.mapFields (·.setIfInBounds 1 (rawInt ((i:Int)+1)))) }) Fz.typeIs ?_)))
 refine aA (Qi (s:={ s with heap:=s.heap.update it (Obj.mapFields (·.setIfInBounds 1 (rawInt ((i:Int)+1)))) }) Fz.typeIs ?_)
 exact bu (bu ⟨_,Z,bu (kv.2▸hQ _ Fz (Fc ..))⟩)
theorem QU{kvs:List (K×Value)}{Q:VS}(hh:A.handled=none)(hit:s.heap.IsValIter it d i kvs.length ep)(hm:s.heap.DictAt knd d kvs ep)(hx:kvs[i]?=none)(hE:∀h' e,Heap.ExtBut it s.heap h'->(∃o,h'.get? e=some o/\o.cls =.type "StopIteration")->E (.ref e) { s with heap:=h' }):
  wpAny (model prog w) A (Builtin.SmallTypes.nextOf (.ref it)) Q E s:=by
 obtain⟨o,ho,hc,hd⟩:=id hit;obtain⟨od,es,hod,hcd,Ag,hk,hp,hn⟩:=id hm
 unfold Builtin.SmallTypes.nextOf
 refine aA (zZ (name:=Str.ofString "__next__") hit.typeIs We (wN We hit.typeIs F.entry_dict_valueiterator_next ?_ (F.args_dict_valueiterator_next_1 _)))
 refine aA (bu ?_);refine aA (aA ?_)
 first|(refine aA (Wh hit.typeIs (bu ?_));refine aA (wO ho hd ?_))|(refine aA (Qd hit.typeIs (bu ?_));refine aA (wO ho hd ?_))
 have own:Builtin.Dict_items.ownsTuple "dict_valueiterator"=false:=by decide
 simp only[own,J0,sO]
 show wpAny _ _ (if(Value.ref d==Value.none)=true then _ else _) _ _ _
 rw[av (λz=>gC z:¬ ((Value.ref d==Value.none)=true))];refine aA (bu ?_)
 have sz:es.size=kvs.length:=by have:=hp.length;simpa using this
 refine aA (Qu hod Ag ?_);rw[av (by rw[sz];simp)]
 refine aA (bu ?_);refine aA (JH hod Ag ?_)
 rw[av (by simp)];refine bu ?_
 have ge:es.size<=i:=by rw[sz];simpa using hx
 simp only[show ¬ ((i:Int)<0)from by omega,sO,t7,Array.getElem?_eq_none ge];refine aA ?_
 first|(refine aA (Wh hit.typeIs (bu ?_));show wpAny _ _ (setField (.ref it) 0 .none >>= _) _ _ _)|(refine aA (Qd hit.typeIs (bu ?_));show wpAny _ _ (setField (.ref it) 0 .none >>= _) _ _ _)
 refine aA (Bd ho hd (by simp) ?_);show wpAny _ _ (newExc (.type "StopIteration") [] >>= _) _ _ _
 refine aA ?_;simp only[newExc,newTuple]
 refine aA (yE ?_ (by size_fits));refine aA (m:=firstArgMember _ _) (wpAny_of_eq (a:=Value.none) (by first|rfl|(simp only[firstArgMember];rfl)) ?_)
 refine yE ?_ (by size_fits);simp only[raiseNew]
 refine aA (wpAny_handled ?_);rw[show A.in1.handled=none from hh]
 exact aA (bu (wpAny_throw (hE _ _ (((Fc ..).extBut.push _).push _) ⟨_,fC _ rfl,Z⟩)))
end
structure Ah(P:Program)(w:World)(K:Fg)(S:Hp->Prop)(xs:List V)(it l:Addr)(tn:Nat->Heap->Prop)(src:Heap->Prop):Prop where
 obj:∀i h,tn i h->∃o,h.get? it=some o/\∀v,o.data ≠ .cell v
 keep:∀i h h',tn i h->(∀o,h.get? it=some o->h'.get? it=some o)->tn i h'
 xg:∀h h',src h->(∀o,h.get? l=some o->h'.get? l=some o)->src h'
 Hi:∀(X:Cx),X.prog=P->X.w=w->X.K=K->∀(pins:AO)(σ:St)(H:Hp)(s:Shared),Inv X pins σ H s->S H->src s.heap
 item:∀(A:Around)(i:Nat)(x:V)(s:Shared)(Q:VS)(E:VS),tn i s.heap->src s.heap->xs[i]?=some x->(∀u h',RelV x u->tn (i+1) h'->Heap.SameBut it s.heap h'->Q u { s with heap:=h' })->wpAny (model P w) A (Builtin.SmallTypes.nextOf (.ref it)) Q E s
 done:∀(A:Around)(i:Nat)(s:Shared)(Q:VS)(E:VS),A.handled=none->tn i s.heap->src s.heap->xs.length<=i->(∀h' e,Heap.ExtBut it s.heap h'->(∃o,h'.get? e=some o/\o.cls =.type "StopIteration")->E (.ref e) { s with heap:=h' })->wpAny (model P w) A (Builtin.SmallTypes.nextOf (.ref it)) Q E s
variable {xs:List V}
theorem Vs{l:Addr}:Ah P w K (λH=>aD K H l xs) xs it l (λi h=>h.IsListIter it l i) (λh=>∃its:List Value,Vals xs its/\h.IsList l its.toArray) where
 obj:=λi h ⟨o,e,c,d⟩=>⟨o,e,λv z=>by rw[d]at z;cases z⟩
 keep:=λi h h' st k=>st.at k
 xg:=λh h' ⟨its,r,hl⟩ k=>⟨its,r,hl.at k⟩
 Hi:=λX hP hw hK pins σ H s I h=>by subst hP hw hK;obtain⟨its,rv,p,_⟩:=I.list h;exact⟨its,rv,p.isList⟩
 item:=λA i x s Q E st ⟨its,r,hl⟩ hx hQ=>by obtain⟨u,hu,ru⟩:=r.get hx;exact wpAny_nextOf_list_item st hl (by simpa using hu) λh' st' sb=>hQ u h' ru st' sb
 done:=λA i s Q E hh st ⟨its,r,hl⟩ hx hE=>wpAny_nextOf_list_end hh st hl (by have:=r.length;simp;omega) hE
theorem Vt{o:Obj}(hd:o.data =.dict es ep):Ah P w K (λH=>pR H d o kvs) (kvs.map λp=>kV p.1) it d (λi h=>h.IsKeyIter it d i kvs.length ep) (λh=>∃vs,KV kvs vs/\h.DictAt (c8 P w) d vs ep) where
 obj:=λi h ⟨o,e,c,d⟩=>⟨o,e,λv z=>by rw[d]at z;cases z⟩
 keep:=λi h h' st k=>st.at k
 xg:=λh h' ⟨vs,r,hl⟩ k=>⟨vs,r,hl.at' k⟩
 Hi:=λX hP hw hK pins σ H s I h=>by subst hP hw hK;obtain⟨ho,_,_,vs,uJ,r,da⟩:=I.sR h;cases Bt da ho hd;exact⟨vs,r,da⟩
 item:=λA i x s Q E st ⟨vs,r,da⟩ hx hQ=>by rw[bQ]at hx;obtain⟨p,hp,rfl⟩:=mj.mp hx;obtain⟨q,hq,ek,rq⟩:=Af r hp;obtain⟨qk,qv⟩:=q;have hl:kvs.length=vs.length:=r.length;rw[hl]at st;exact Nu st da hq λkey h' hk st' sb=>hQ key h' (by rw[ek];exact Sy hk) (by rw[hl];exact st') sb
 done:=λA i s Q E hh st ⟨vs,r,da⟩ hx hE=>by have hl:kvs.length=vs.length:=r.length;rw[aE]at hx;rw[hl]at st;exact QT hh st da (by rw[rA];omega) hE
theorem Vu{o:Obj}(hd:o.data =.dict es ep):Ah P w K (λH=>pR H d o kvs) (kvs.map λp=>p.2) it d (λi h=>h.IsValIter it d i kvs.length ep) (λh=>∃vs,KV kvs vs/\h.DictAt (c8 P w) d vs ep) where
 obj:=λi h ⟨o,e,c,d⟩=>⟨o,e,λv z=>by rw[d]at z;cases z⟩
 keep:=λi h h' st k=>st.at k
 xg:=λh h' ⟨vs,r,hl⟩ k=>⟨vs,r,hl.at' k⟩
 Hi:=λX hP hw hK pins σ H s I h=>by subst hP hw hK;obtain⟨ho,_,_,vs,uJ,r,da⟩:=I.sR h;cases Bt da ho hd;exact⟨vs,r,da⟩
 item:=λA i x s Q E st ⟨vs,r,da⟩ hx hQ=>by rw[bQ]at hx;obtain⟨p,hp,rfl⟩:=mj.mp hx;obtain⟨q,hq,ek,rq⟩:=Af r hp;obtain⟨qk,qv⟩:=q;have hl:kvs.length=vs.length:=r.length;rw[hl]at st;exact Nv st da hq λh' st' sb=>hQ qv h' rq (by rw[hl];exact st') sb
 done:=λA i s Q E hh st ⟨vs,r,da⟩ hx hE=>by have hl:kvs.length=vs.length:=r.length;rw[aE]at hx;rw[hl]at st;exact QU hh st da (by rw[rA];omega) hE
variable {y:V}
section
variable {P:Program}{w:World}{A:Around}{E:VS}{s:Shared}{K:Fg}{S1 S2:Hp->Prop}{xs ys:List V}{z TI TO i1 i2 l1 l2:Addr}{t1 t2:Nat->Heap->Prop}{c1 c2:Heap->Prop}{i:Nat}
theorem SE{x:V}{a b:Value}{Q:VS}(D:ZipApart z TI TO i1 i2 l1 l2)(C1:Ah P w K S1 xs i1 l1 t1 c1)(C2:Ah P w K S2 ys i2 l2 t2 c2)(hz:IsZip s.heap z TI TO .none)(hTI:IsPair s.heap TI (.ref i1) (.ref i2))(hTO:IsPair s.heap TO a b)(h1:t1 i s.heap)(h2:t2 i s.heap)(hc1:c1 s.heap)(hc2:c2 s.heap)(hx:xs[i]?=some x)(hy:ys[i]?=some y)(hQ:∀u v h',RelV x u->RelV y v->IsZip h' z TI TO (rawInt s.heap.objs.size)->IsPair h' TO u v->t1 (i+1) h'->t2 (i+1) h'->IsPair h' s.heap.objs.size u v->h'.objs.size=s.heap.objs.size+1->
    (∀c o,c≠z->c≠TO->c≠i1->c≠i2->s.heap.get? c=some o->h'.get? c=some o)->Q (.ref s.heap.objs.size) { s with heap:=h' }):
  wpAny (model P w) A (Builtin.«zip.__next__» ⟨[.ref z],[]⟩) (λfin s'=>∃v,fin =.done (.ret v)/\Q v s') E s:=by
 show wpAny _ _ (field (.ref z) 2 >>= _) _ _ _
 refine aA (oz hz rfl (x:=.bool false) rfl ?_);show wpAny _ _ (field (.ref z) 3 >>= _) _ _ _
 refine aA (oz hz rfl (x:=.ref TI) rfl ?_);refine aA (wQ hTI rfl ?_)
 show wpAny _ _ (Builtin.SmallTypes.ownedTupleIsFree (.ref z) >>= _) _ _ _
 refine aA ?_;unfold Builtin.SmallTypes.ownedTupleIsFree
 refine aA (oz hz rfl (x:=.none) rfl (bu ?_));simp only[if_true]
 refine aA (wpAny_rule ?_);refine aA (oz hz rfl (x:=.ref TO) rfl ?_)
 refine aA (Ff hz (by simp) λhA Hj sA=>?_)
 replace Hj:IsZip hA z TI TO .ellipsis:=Hj
 refine aA ?_;simp only[List.zipIdx_cons,List.zipIdx_nil,JF,Dh]
 refine aA (aA (wpAny_onRaise ?_));show wpAny _ _ (Builtin.SmallTypes.nextOf (.ref i1) >>= _) _ _ _
 refine aA (C1.item _ i x { s with heap:=hA } _ _ (C1.keep _ _ _ h1 λo e=>sA.extBut _ _ D.i1z e) (C1.xg _ _ hc1 λo e=>sA.extBut _ _ D.l1z e) hx λu hB ru h1B sB=>bu ?_)
 have SG:IsPair hB TO a b:=sB.extBut _ _ D.TOi1 (sA.extBut _ _ D.TOz hTO)
 refine aA (wQ SG rfl ?_);refine aA (wpAny_updateSeq_pair SG λhC WJ sC=>?_)
 replace WJ:IsPair hC TO u b:=WJ
 refine aA (wpAny_letGo (bu ?_));refine aA (aA (wpAny_onRaise ?_))
 show wpAny _ _ (Builtin.SmallTypes.nextOf (.ref i2) >>= _) _ _ _
 refine aA (C2.item _ i y { s with heap:=hC } _ _ (C2.keep _ _ _ h2 λo e=>sC.extBut _ _ D.TOi2.symm (sB.extBut _ _ D.i12.symm (sA.extBut _ _ D.i2z e))) (C2.xg _ _ hc2 λo e=>sC.extBut _ _ D.l2TO (sB.extBut _ _ D.l2i1 (sA.extBut _ _ D.l2z e))) hy λv hD rv h2D sD=>bu ?_)
 have TOD:IsPair hD TO u b:=sD.extBut _ _ D.TOi2 WJ
 refine aA (wQ TOD rfl ?_);refine aA (wpAny_updateSeq_pair TOD λhE WK sE=>?_)
 replace WK:IsPair hE TO u v:=WK
 refine aA (wpAny_letGo (bu (bu ?_)));refine aA (wQ WK rfl ?_)
 refine aA (wpAny_newTuple ?_)
 have sz:hE.objs.size=s.heap.objs.size:=by rw[sE.1,sD.1,sC.1,sB.1,sA.1]
 have zE:IsZip hE z TI TO .ellipsis:=sE.extBut _ _ D.TOz.symm (sD.extBut _ _ D.i2z.symm (sC.extBut _ _ D.TOz.symm (sB.extBut _ _ D.i1z.symm Hj)))
 have kE:∀c o,c≠z->c≠TO->c≠i1->c≠i2->s.heap.get? c=some o->hE.get? c=some o:=λc o c1 c2 c3 c4 e=>sE.extBut _ _ c2 (sD.extBut _ _ c4 (sC.extBut _ _ c2 (sB.extBut _ _ c3 (sA.extBut _ _ c1 e))))
 have t1E:t1 (i+1) hE:=C1.keep _ _ _ h1B λo e=>sE.extBut _ _ D.TOi1.symm (sD.extBut _ _ D.i12 (sC.extBut _ _ D.TOi1.symm e))
 have t2E:t2 (i+1) hE:=C2.keep _ _ _ h2D λo e=>sE.extBut _ _ D.TOi2.symm e
 have zlt:z<hE.objs.size:=cu zE
 show wpAny _ _ (Builtin.SmallTypes.ownedTupleHandOut (.ref z) (.ref hE.objs.size) >>= _) _ _ _
 refine aA ?_;unfold Builtin.SmallTypes.ownedTupleHandOut
 have zF:IsZip (hE.push { cls:=.type "tuple",data:=.seq #[u,v] }) z TI TO .ellipsis:=cV _ zE
 refine aA (Ff zF (by simp) λhG zG sG=>?_)
 replace zG:IsZip hG z TI TO (rawInt hE.objs.size):=zG
 refine Ff zG (by simp) λhI zI sI=>?_
 replace zI:IsZip hI z TI TO (rawInt hE.objs.size):=zI
 have up:∀c o,c≠z->hE.get? c=some o->hI.get? c=some o:=λc o c1 e=>sI.extBut _ _ c1 (sG.extBut _ _ c1 (cV _ e))
 have TI':IsPair hI hE.objs.size u v:=sI.extBut _ _ (Bg zlt) (sG.extBut _ _ (Bg zlt) (fC _ rfl))
 have szI:hI.objs.size=hE.objs.size+1:=by rw[sI.1,sG.1,mW]
 rw[sz]at zI TI' szI
 refine bu ⟨_,Z,?_⟩
 show Q (.ref hE.objs.size) _
 rw[sz]
 exact hQ u v hI ru rv zI (up _ _ D.TOz WK) (C1.keep _ _ _ t1E λo e=>up _ o D.i1z e) (C2.keep _ _ _ t2E λo e=>up _ o D.i2z e) TI' szI λc o c1 c2 c3 c4 e=>up c o c1 (kE c o c1 c2 c3 c4 e)
theorem Vv{a b:Value}{Q:Fin->Shared->Prop}(hh:A.handled=none)(D:ZipApart z TI TO i1 i2 l1 l2)(C1:Ah P w K S1 xs i1 l1 t1 c1)(C2:Ah P w K S2 ys i2 l2 t2 c2)(hz:IsZip s.heap z TI TO .none)(hTI:IsPair s.heap TI (.ref i1) (.ref i2))(hTO:IsPair s.heap TO a b)(h1:t1 i s.heap)(h2:t2 i s.heap)(hc1:c1 s.heap)(hc2:c2 s.heap)(hend:xs.length<=i\/ys.length<=i)(hE:∀h' e,(∀c o,c≠z->c≠TO->c≠i1->c≠i2->s.heap.get? c=some o->h'.get? c=some o)->(∃o,h'.get? e=some o/\o.cls =.type "StopIteration")->E (.ref e) { s with heap:=h' }):
  wpAny (model P w) A (Builtin.«zip.__next__» ⟨[.ref z],[]⟩) Q E s:=by
 show wpAny _ _ (field (.ref z) 2 >>= _) _ _ _
 refine aA (oz hz rfl (x:=.bool false) rfl ?_);show wpAny _ _ (field (.ref z) 3 >>= _) _ _ _
 refine aA (oz hz rfl (x:=.ref TI) rfl ?_);refine aA (wQ hTI rfl ?_)
 show wpAny _ _ (Builtin.SmallTypes.ownedTupleIsFree (.ref z) >>= _) _ _ _
 refine aA ?_;unfold Builtin.SmallTypes.ownedTupleIsFree
 refine aA (oz hz rfl (x:=.none) rfl (bu ?_));simp only[if_true]
 refine aA (wpAny_rule ?_);refine aA (oz hz rfl (x:=.ref TO) rfl ?_)
 refine aA (Ff hz (by simp) λhA Hj sA=>?_)
 replace Hj:IsZip hA z TI TO .ellipsis:=Hj
 refine aA ?_;simp only[List.zipIdx_cons,List.zipIdx_nil,JF,Dh]
 refine aA (aA (wpAny_onRaise ?_));show wpAny _ _ (Builtin.SmallTypes.nextOf (.ref i1) >>= _) _ _ _
 have k1:=C1.keep _ _ _ h1 λo e=>sA.extBut _ _ D.i1z e
 have k2:=C1.xg _ _ hc1 λo e=>sA.extBut _ _ D.l1z e
 by_cases hx:xs.length<=i
 . refine aA (C1.done _ i { s with heap:=hA } _ _ hh k1 k2 hx λhB e sB he=>?_)
   obtain⟨oe,DW,hce⟩:=he
   have zB:IsZip hB z TI TO .ellipsis:=sB _ _ D.i1z.symm Hj
   have ez:e≠z:=λx=>by subst x;rw[zB]at DW;cases DW;simp at hce
   exact Ff zB (by simp) λhC _ sC=>hE hC e (λc o c1 _ c3 _ x=>sC.extBut _ _ c1 (sB _ _ c3 (sA.extBut _ _ c1 x))) ⟨oe,sC.extBut _ _ ez DW,hce⟩
 . have hy:ys.length<=i:=hend.resolve_left hx
   refine aA (C1.item _ i xs[i] { s with heap:=hA } _ _ k1 k2 (a_ (by omega)) λu hB ru h1B sB=>bu ?_)
   have SG:IsPair hB TO a b:=sB.extBut _ _ D.TOi1 (sA.extBut _ _ D.TOz hTO)
   refine aA (wQ SG rfl ?_);refine aA (wpAny_updateSeq_pair SG λhC WJ sC=>?_)
   refine aA (wpAny_letGo (bu ?_));refine aA (aA (wpAny_onRaise ?_))
   show wpAny _ _ (Builtin.SmallTypes.nextOf (.ref i2) >>= _) _ _ _
   refine aA (C2.done _ i { s with heap:=hC } _ _ hh (C2.keep _ _ _ h2 λo e=>sC.extBut _ _ D.TOi2.symm (sB.extBut _ _ D.i12.symm (sA.extBut _ _ D.i2z e))) (C2.xg _ _ hc2 λo e=>sC.extBut _ _ D.l2TO (sB.extBut _ _ D.l2i1 (sA.extBut _ _ D.l2z e))) hy λhD e sD he=>?_)
   obtain⟨oe,DW,hce⟩:=he
   have zD:IsZip hD z TI TO .ellipsis:=sD _ _ D.i2z.symm (sC.extBut _ _ D.TOz.symm (sB.extBut _ _ D.i1z.symm Hj))
   have ez:e≠z:=λx=>by subst x;rw[zD]at DW;cases DW;simp at hce
   exact Ff zD (by simp) λhF _ sF=>hE hF e (λc o c1 c2 c3 c4 x=>sF.extBut _ _ c1 (sD _ _ c4 (sC.extBut _ _ c2 (sB.extBut _ _ c3 (sA.extBut _ _ c1 x))))) ⟨oe,sF.extBut _ _ ez DW,hce⟩
end
def aaj(S1 S2:Hp->Prop)(xs ys:List V):It:=⟨λi H=>S1 H/\S2 H/\i<xs.length/\i<ys.length,λi H v H'=>∃p x y,H p=none/\v =.ref p/\H'=upd H p (.tup [x,y])/\xs[i]?=some x/\ys[i]?=some y,λi H=>S1 H/\S2 H/\(xs.length<=i\/ys.length<=i)⟩
variable {z:Addr}
theorem SH{kk:Nat}{S1 S2:Hp->Prop}{ys:List V}{TI TO i1 i2 l1 l2:Addr}{t1 t2:Nat->Heap->Prop}{c1 c2:Heap->Prop}(D:ZipApart z TI TO i1 i2 l1 l2)(C1:Ah P w K S1 xs i1 l1 t1 c1)(C2:Ah P w K S2 ys i2 l2 t2 c2):
  Turn P w K (.Tuple elts kk pos) (aaj S1 S2 xs ys) [z,TI,TO,i1,i2] z (λi h=>IsZip h z TI TO .none/\IsPair h TI (.ref i1) (.ref i2)/\(∃a b,IsPair h TO a b)/\t1 i h/\t2 i h) where
 mem:=by simp
 obj:=λi h st b hb=>by
  obtain⟨hz,hTI,⟨a,b',hTO⟩,h1,h2⟩:=st;have hb':b=z\/b=TI\/b=TO\/b=i1\/b=i2:=by simpa using hb
  rcases hb' with rfl|rfl|rfl|rfl|rfl
  .exact ⟨_,hz,λv q=>by cases q⟩
  .exact ⟨_,hTI,λv q=>by cases q⟩
  .exact ⟨_,hTO,λv q=>by cases q⟩
  .exact C1.obj i h h1
  .exact C2.obj i h h2
 keep:=λi h h' st k=>by obtain⟨hz,hTI,⟨a,b',hTO⟩,h1,h2⟩:=st;exact⟨k z (by simp) _ hz,k TI (by simp) _ hTI,⟨a,b',k TO (by simp) _ hTO⟩,C1.keep _ _ _ h1 λo e=>k i1 (by simp) o e,C2.keep _ _ _ h2 λo e=>k i2 (by simp) o e⟩
 item:=by
  intro X hP hw hK hc i pins s σ H E I hf st hg;subst hP hw hK;obtain⟨hz,hTI,⟨a,b,hTO⟩,h1,h2⟩:=st;obtain⟨g1,g2,lx,ly⟩:=hg;have hT:s.TypeIs (.ref z) "zip":=⟨_,hz,Z⟩
  unfold pyNext;refine aA (wpAny_attempt (zZ (name:=Str.ofString "__next__") hT JI (wN JI hT F.entry_zip_next
   (SE D C1 C2 hz hTI hTO h1 h2 (C1.Hi X rfl rfl rfl pins σ H s I g1) (C2.Hi X rfl rfl rfl pins σ H s I g2) (a_ lx) (a_ ly) λu u2 h' ru ru2 a1 a2 a3 a4 a5 a6 hk=>bu ?_) (F.args_zip_next_1 _))))
  refine⟨_,Z,wpAny_letOwnedTupleGo_zip (s:={ s with heap:=h' }) a1 λh'' b1 hs=>?_⟩;have hTz:s.heap.objs.size≠z:=Bg (cu hz);have w_:∀c o,c≠z->c≠TO->c≠i1->c≠i2->s.heap.get? c=some o->h''.get? c=some o:=λc o c1 c2 c3 c4 e=>hs.extBut _ _ c1 (hk c o c1 c2 c3 c4 e);have hn:=I.fresh;have nf:∀b u,H b=some u->b≠z/\b≠TO/\b≠i1/\b≠i2:=λb u e=>by
   have g:∀c∈[z,TI,TO,i1,i2],b≠c:=λc hc q=>by have:=(hf c hc).1;rw[<-q,e]at this;cases this
   exact⟨g z (by simp),g TO (by simp),g i1 (by simp),g i2 (by simp)⟩
  have ya:∀c,c∉[z,TI,TO,i1,i2]->c≠z/\c≠TO/\c≠i1/\c≠i2:=λc hc=>⟨λq=>hc (by simp[q]),λq=>hc (by simp[q]),λq=>hc (by simp[q]),λq=>hc (by simp[q])⟩
  have agd:IsPair h'' s.heap.objs.size u u2:=hs.extBut _ _ hTz a5;have hok:jk X.prog X.w (upd H s.heap.objs.size (.tup [xs[i],ys[i]])) h'':=λb ob e=>by
   by_cases hb:b=s.heap.objs.size
   .subst hb;rw[ak]at e;cases e;exact⟨by show 2<=sizeLine;decide,[u,u2],.cons ru (.cons ru2 .nil),_,agd,Z,0,Z⟩
   .rw [az hb]at e;refine(I.hok b ob e).stay (λc v SD q=>?_) (λc q=>by rw[az (aJ q hn)];exact q) λc zs q=>by rw[az (aJ q hn)];exact q
    rcases SD with r|r
    .obtain ⟨n1,n2,n3,n4⟩:=nf b ob e;rw[r];rw[r]at q;exact w_ b v n1 n2 n3 n4 q
    .obtain ⟨n1,n2,n3,n4⟩:=nf c _ r;exact w_ c v n1 n2 n3 n4 q
  have I2:Inv X pins σ (upd H s.heap.objs.size (.tup [xs[i],ys[i]])) { s with heap:=h'',gens:=s.gens,drawn:=s.drawn,toks:=s.toks }:=by
   refine I.step (ch:=[z,TI,TO,i1,i2]) (λb hb=>⟨(hf b hb).2.2.2.1,(hf b hb).2.1,(hf b hb).2.2.2.2.1,(hf b hb).2.2.2.2.2⟩) (λb o _ _ hc' e _=>?_) (λb o _ _ hc' e _=>?_) (λb o _ e n=>?_) (λb o hc' e=>?_)
    (λb zs q=>by rw[az (aJ q hn)];exact q) (λb o zs q=>by rw[az (aJ q hn)];exact q) (λb ps q=>⟨#[],by rw[az (aJ q hn),q];simp⟩) (λm hm=>?_) hok I.bare
   .obtain ⟨n1,n2,n3,n4⟩:=ya b hc';exact w_ b o n1 n2 n3 n4 e
   .obtain ⟨n1,n2,n3,n4⟩:=ya b hc';exact⟨o.slots,w_ b o n1 n2 n3 n4 e⟩
   .rw [az (fY (cu e))];exact n
   .obtain ⟨n1,n2,n3,n4⟩:=ya b hc';exact⟨o,w_ b o n1 n2 n3 n4 e⟩
   .obtain ⟨o,es,ep,ho,r⟩:=hm;have nl:∀c∈[z,TI,TO,i1,i2],X.env.locals≠c:=λc hc' q=>(hf c hc').2.1 q.symm;exact⟨o,es,ep,w_ _ o (nl z (by simp)) (nl TO (by simp)) (nl i1 (by simp)) (nl i2 (by simp)) ho,r⟩
  refine⟨.ref s.heap.objs.size,_,I2,Z,⟨s.heap.objs.size,xs[i],ys[i],hn,Z,Z,a_ lx,a_ ly⟩,⟨b1,?_,⟨u,u2,?_⟩,?_,?_⟩,λb hb=>?_⟩
  .exact w_ _ _ D.TIz D.TITO D.TIi1 D.TIi2 hTI
  .exact hs.extBut _ _ D.TOz a2
  .exact C1.keep _ _ _ a3 λo e=>hs.extBut _ _ D.i1z e
  .exact C2.keep _ _ _ a4 λo e=>hs.extBut _ _ D.i2z e
  .have hlt:b≠s.heap.objs.size:=by
    have hb':b=z\/b=TI\/b=TO\/b=i1\/b=i2:=by simpa using hb
    obtain⟨_,e1,_⟩:=C1.obj _ _ h1;obtain⟨_,e2,_⟩:=C2.obj _ _ h2;rcases hb' with rfl|rfl|rfl|rfl|rfl
    .exact fY (cu hz)
    .exact fY (cu hTI)
    .exact fY (cu hTO)
    .exact fY (cu e1)
    .exact fY (cu e2)
   rw[az hlt];exact(hf b hb).1
 done:=by
  intro X hP hw hK hc i pins s σ H E I hf st hg;subst hP hw hK;obtain⟨hz,hTI,⟨a,b,hTO⟩,h1,h2⟩:=st;obtain⟨g1,g2,hend⟩:=hg;have hT:s.TypeIs (.ref z) "zip":=⟨_,hz,Z⟩
  unfold pyNext;refine aA (wpAny_attempt (zZ (name:=Str.ofString "__next__") hT JI (wN JI hT F.entry_zip_next
   (Vv (I.ok.hd hc) D C1 C2 hz hTI hTO h1 h2 (C1.Hi X rfl rfl rfl pins σ H s I g1) (C2.Hi X rfl rfl rfl pins σ H s I g2) hend λh' e hk he=>?_) (F.args_zip_next_1 _))))
  obtain⟨oe,DW,hce⟩:=he;refine aA (wpAny_isInstance (T:="StopIteration") (b:=true) ⟨oe,DW,hce⟩ isSubtype_stop (bu ⟨Z,?_⟩));have ya:∀c,c∉[z,TI,TO,i1,i2]->c≠z/\c≠TO/\c≠i1/\c≠i2:=λc hc=>⟨λq=>hc (by simp[q]),λq=>hc (by simp[q]),λq=>hc (by simp[q]),λq=>hc (by simp[q])⟩
  have nf:∀b u,H b=some u->b≠z/\b≠TO/\b≠i1/\b≠i2:=λb u e=>by
   have g:∀c∈[z,TI,TO,i1,i2],b≠c:=λc hc q=>by have:=(hf c hc).1;rw[<-q,e]at this;cases this
   exact⟨g z (by simp),g TO (by simp),g i1 (by simp),g i2 (by simp)⟩
  have I2:Inv X pins σ H { s with heap:=h',gens:=s.gens,drawn:=s.drawn,toks:=s.toks }:=by
   refine I.step (ch:=[z,TI,TO,i1,i2]) (λb hb=>⟨(hf b hb).2.2.2.1,(hf b hb).2.1,(hf b hb).2.2.2.2.1,(hf b hb).2.2.2.2.2⟩) (λb o _ _ hc' e _=>?_) (λb o _ _ hc' e _=>?_) (λb o _ e n=>n) (λb o hc' e=>?_)
    (λb zs q=>q) (λb o zs q=>q) (λb ps q=>⟨#[],by rw[q];simp⟩) (λm hm=>?_) (λb ob e=>?_) I.bare
   .obtain ⟨n1,n2,n3,n4⟩:=ya b hc';exact hk b o n1 n2 n3 n4 e
   .obtain ⟨n1,n2,n3,n4⟩:=ya b hc';exact⟨o.slots,hk b o n1 n2 n3 n4 e⟩
   .obtain ⟨n1,n2,n3,n4⟩:=ya b hc';exact⟨o,hk b o n1 n2 n3 n4 e⟩
   .obtain ⟨o,es,ep,ho,r⟩:=hm;have nl:∀c∈[z,TI,TO,i1,i2],X.env.locals≠c:=λc hc' q=>(hf c hc').2.1 q.symm;exact⟨o,es,ep,hk _ o (nl z (by simp)) (nl TO (by simp)) (nl i1 (by simp)) (nl i2 (by simp)) ho,r⟩
   .refine (I.hok b ob e).stay (λc v SD q=>?_) (λc q=>q) λc zs q=>q;rcases SD with r|r
    .obtain ⟨n1,n2,n3,n4⟩:=nf b ob e;rw[r];rw[r]at q;exact hk b v n1 n2 n3 n4 q
    .obtain ⟨n1,n2,n3,n4⟩:=nf c _ r;exact hk c v n1 n2 n3 n4 q
  exact I2
 self:=λ_ _ _ _ _ st h=>wpAny_pyIter_zip st.1 h
def KN(P:Program)(w:World)(u:Value)(o:Obj)(pre:Heap->Prop):Prop:=∀(A:Around)(E:VS)(s:Shared)(Q:VS),pre s.heap->Q (.ref s.heap.objs.size) { s with heap:=s.heap.push o }->wpAny (model P w) A (pyIter u) Q E s
theorem QV{p1 p2:Heap->Prop}(s1:KN P w u1 o1 p1)(s2:KN P w u2 o2 p2):MeetsIn P w (Builtin.«zip.__new__» ⟨[.type "zip",u1,u2],[]⟩) (λ_ R s=>p1 s.heap/\p2 (s.heap.push o1)/\R (.ok (.ret (.ref ((((s.heap.push o1).push o2).push { cls:=.type "tuple",data:=.seq #[.ref s.heap.objs.size,.ref (s.heap.push o1).objs.size] }).push { cls:=.type "tuple",data:=.seq #[.none,.none] }).objs.size)))
     { s with heap:=((((s.heap.push o1).push o2).push { cls:=.type "tuple",data:=.seq #[.ref s.heap.objs.size,.ref (s.heap.push o1).objs.size] }).push { cls:=.type "tuple",data:=.seq #[.none,.none] }).push { cls:=.type "zip",data:=.fields #[.none,.bool false,.bool false,.ref ((s.heap.push o1).push o2).objs.size,.ref (((s.heap.push o1).push o2).push { cls:=.type "tuple",data:=.seq #[.ref s.heap.objs.size,.ref (s.heap.push o1).objs.size] }).objs.size] } }):=
 .of_wp λA R s h=>by
  obtain⟨hp,g,d,tk,os⟩:=s;obtain⟨q1,q2,h⟩:=h;have hsub:=sub_zip;have i1:=λ(A:Around)(E:VS)(Q:VS)=>s1 A E ⟨hp,g,d,tk,os⟩ Q q1;have i2:=λ(A:Around)(E:VS)(Q:VS)=>s2 A E ⟨hp.push o1,g,d,tk,os⟩ Q q2
  wp_walk using i1 _ _ _,i2 _ _ _
  exact⟨_,Z,h⟩
section
variable {prog:Program}{w:World}{A:Around}{E:VS}{s:Shared}{it t:Addr}{i:Nat}{items:Array Value}{Q:VS}
theorem Ny{x:Value}(hit:s.heap.IsTupleIter it t i)(ht:s.heap.IsTuple t items)(hx:items[i]?=some x)(hQ:∀h',h'.IsTupleIter it t (i+1)->Heap.SameBut it s.heap h'->Q x { s with heap:=h' }):wpAny (model prog w) A (Builtin.SmallTypes.nextOf (.ref it)) Q E s:=by obtain⟨o,ho,hc,hd⟩:=id hit;obtain⟨ol,fh,_,nl,hdl⟩:=ht;unfold Builtin.SmallTypes.nextOf;refine aA (zZ (name:=Str.ofString "__next__") hit.typeIs PZ (wN PZ hit.typeIs F.entry_tuple_iterator_next ?_ (F.args_tuple_iterator_next_1 _)));show wpAny _ _ (field (.ref it) 0 >>= _) _ _ s;refine aA (oz ho hd (x:=.ref t) rfl ?_);show wpAny _ _ (if(Value.ref t==Value.none)=true then _ else _) _ _ s;rw[av (λz=>gC z:¬ ((Value.ref t==Value.none)=true))];show wpAny _ _ (field (.ref it) 1 >>= _) _ _ s;refine aA (oz ho hd (x:=.int i 0) rfl ?_);show wpAny _ _ (seqItems? (.ref t) >>= _) _ _ s;refine aA (wQ fh hdl ?_);simp only[t7,hx];refine aA (Bd ho hd (by simp) (bu ⟨x,Z,bu (hQ _ ?_ (Fc ..))⟩));refine⟨_,Qh _ ho (Obj.isFreed_of_fields (Fe hd _)),(Obj.cls_mapFields ..).trans hc,?_⟩;rw[Fe hd];simp[rawInt]
theorem QW(hh:A.handled=none)(hit:s.heap.IsTupleIter it t i)(ht:s.heap.IsTuple t items)(hx:items[i]?=none)(hE:∀h' e,Heap.ExtBut it s.heap h'->(∃o,h'.get? e=some o/\o.cls =.type "StopIteration")->E (.ref e) { s with heap:=h' }):wpAny (model prog w) A (Builtin.SmallTypes.nextOf (.ref it)) Q E s:=by
 obtain⟨o,ho,hc,hd⟩:=id hit;obtain⟨ol,fh,_,nl,hdl⟩:=ht;unfold Builtin.SmallTypes.nextOf;refine aA (zZ (name:=Str.ofString "__next__") hit.typeIs PZ (wN PZ hit.typeIs F.entry_tuple_iterator_next ?_ (F.args_tuple_iterator_next_1 _)));show wpAny _ _ (field (.ref it) 0 >>= _) _ _ s;refine aA (oz ho hd (x:=.ref t) rfl ?_);show wpAny _ _ (if(Value.ref t==Value.none)=true then _ else _) _ _ s;rw[av (λz=>gC z:¬ ((Value.ref t==Value.none)=true))];show wpAny _ _ (field (.ref it) 1 >>= _) _ _ s;refine aA (oz ho hd (x:=.int i 0) rfl ?_);show wpAny _ _ (seqItems? (.ref t) >>= _) _ _ s;refine aA (wQ fh hdl ?_);simp only[t7,hx];refine aA (wpAny_rule (aA (Bd ho hd (by simp) ?_)));show wpAny _ _ (newExc (.type "StopIteration") [] >>= _) _ _ _;refine aA ?_;simp only[newExc,newTuple];refine aA (yE ?_ (by size_fits));refine aA (m:=firstArgMember _ _) (wpAny_of_eq (a:=Value.none) (by first|rfl|(simp only[firstArgMember];rfl)) ?_);refine yE ?_ (by size_fits);simp only[raiseNew];refine aA (wpAny_handled ?_);first|rw[show A.in1.handled=none from hh]|rw[hh]
 refine aA (bu (wpAny_throw ?_));exact hE _ _ (((Fc ..).extBut.push _).push _) ⟨_,fC _ rfl,Z⟩
end
theorem X3{l:Addr}:Ah P w K (λH=>dU K H l xs) xs it l (λi h=>h.IsTupleIter it l i) (λh=>∃its:List Value,Vals xs its/\h.IsTuple l its.toArray) where
 obj:=λi h ⟨o,e,c,d⟩=>⟨o,e,λv z=>by rw[d]at z;cases z⟩
 keep:=λi h h' st k=>st.at k
 xg:=λh h' ⟨its,r,o,e,q⟩ k=>⟨its,r,o,k o e,q⟩
 Hi:=λX hP hw hK pins σ H s I h=>by subst hP hw hK;obtain⟨its,rv,p,_⟩:=I.tuple h;exact⟨its,rv,p⟩
 item:=λA i x s Q E st ⟨its,r,hl⟩ hx hQ=>by obtain⟨u,hu,ru⟩:=r.get hx;exact Ny st hl (by simpa using hu) λh' st' sb=>hQ u h' ru st' sb
 done:=λA i s Q E hh st ⟨its,r,hl⟩ hx hE=>QW hh st hl (by have:=r.length;simp;omega) hE
section
variable {prog:Program}{w:World}{A:Around}{E:VS}{s:Shared}{K:Type}[DecidableEq K]{knd:KeyKind prog w K}
end
def lW(v d:Addr):HO:=.ext λh=>h.IsValuesView v d
section
variable {X:Cx}
inductive aak(Q:VK)(x:V)(H1:Hp):Prop
 |mk(d kvs:_)(_:x =.ref d)(_:Rd H1 d (.dK kvs))(_:∀v,H1 v=none->Q (.ref v) (upd H1 v (lW v d)))
def ac5(td:TE):TE:=λσ H Q=>td σ H (aak Q)
inductive Wk(K:Fg)(H:Hp):V->(Hp->Prop)->List V->Prop
 | lst {l:Addr} {xs:List V}:aD K H l xs->Wk K H (.ref l) (λH=>aD K H l xs) xs
 | tup {l:Addr} {xs:List V}:dU K H l xs->Wk K H (.ref l) (λH=>dU K H l xs) xs
 | keys {d:Addr} {o:Obj} {kvs:List (Key×V)}:pR H d o kvs->Wk K H (.ref d) (λH=>pR H d o kvs) (kvs.map λp=>kV p.1)
 | vals {v d:Addr} {o:Obj} {kvs:List (Key×V)}:H v=some (lW v d)->pR H d o kvs->Wk K H (.ref v) (λH=>pR H d o kvs) (kvs.map λp=>p.2)
theorem Wk.ok{u:V}{S:Hp->Prop}(k:Wk X.K H u S xs)(I:Inv X pins σ H s)(r:RelV u uv):S H/\∃(l:Addr)(o:Obj)(p:Heap->Prop),l<s.heap.objs.size/\p s.heap/\(∀h (ob:Obj),p h->p (h.push ob))/\(∀h:Heap,(h.push o).get? h.objs.size=some o)/\KN X.prog X.w uv o p/\∀it:Addr,∃tn src,Ah X.prog X.w X.K S xs it l tn src/\∀h:Heap,h.get? it=some o->tn 0 h:=by
 cases k with
 | @lst l xs hS=>cases r;obtain⟨its,rv,p,_⟩:=I.list hS;obtain⟨ol,fh,_⟩:=id p.isList;refine⟨hS,l,_,λh=>h.IsList l its.toArray,cu fh,p.isList,λh ob q=>q.push ob,λh=>fC _ rfl,λA E s Q q h=>Qp q h,λit=>⟨_,_,Vs,λh e=>⟨_,e,Z,Z⟩⟩⟩
 | @tup l xs hS=>cases r;obtain⟨its,rv,p,_⟩:=I.tuple hS;obtain⟨ol,fh,q0⟩:=id p;refine⟨hS,l,_,λh=>h.IsTuple l its.toArray,cu fh,p,λh ob ⟨o1,a,b⟩=>⟨o1,cV _ a,b⟩,λh=>fC _ rfl,λA E s Q q h=>wpAny_pyIter_tuple q h,λit=>⟨_,_,X3,λh e=>⟨_,e,Z,Z⟩⟩⟩
 | @keys d o kvs hz=>cases r;obtain⟨ho,hl,hsys,vs,ep,rel,da⟩:=I.sR hz;obtain⟨o',es,h1,_,h2,_⟩:=id da;rw[ho]at h1;cases h1;have el:kvs.length=vs.length:=rel.length;refine⟨hz,d,_,λh=>h.DictAt (c8 X.prog X.w) d vs ep,cu ho,da,λh ob q=>q.push ob,λh=>fC _ rfl,λA E s Q q h=>wpAny_pyIter_dict hsys q h,λit=>⟨_,_,Vt h2,λh e=>?_⟩⟩;rw[el];exact⟨_,e,Z,Z⟩
 | @vals v d o kvs hv hz=>
  cases r;obtain⟨ho,hl,hsys,vs,ep,rel,da⟩:=I.sR hz;obtain⟨o',es,h1,_,h2,_⟩:=id da;rw[ho]at h1;cases h1;have el:kvs.length=vs.length:=rel.length;obtain⟨hv',_⟩:=(show e_ X.prog X.w H s.heap v (lW v d)from I.hok v _ hv)
  refine⟨hz,d,_,λh=>h.IsValuesView v d/\h.DictAt (c8 X.prog X.w) d vs ep,cu ho,⟨hv',da⟩,λh ob ⟨⟨o1,a,b⟩,q⟩=>⟨⟨o1,cV _ a,b⟩,q.push ob⟩,λh=>fC _ rfl,λA E s Q q h=>wpAny_pyIter_values q.1 q.2 h,λit=>⟨_,_,Vu h2,λh e=>?_⟩⟩;rw[el];exact⟨_,e,Z,Z⟩
variable {elts:List Expr}{kk:Nat}{tpos:Pos}
inductive aal(K:Fg)(R:It->Hp->Prop)(vs:List V)(H1:Hp):Prop
 |mk(u1 u2 S1 S2 xs ys:_)(_:vs=[u1,u2])(_:Wk K H1 u1 S1 xs)(_:Wk K H1 u2 S2 ys)(_:R (aaj S1 S2 xs ys:_) H1)
def ac6(K:Fg)(ta:TA):TI:=λσ H R=>ta σ H (aal K R)
theorem Hl(hc:X.calm=true):iH X (.builtin "sum") (λxs H Q=>∃(v d:Addr)(kvs:List (Key×V))(ns:List Int),xs=[.ref v]/\H v=some (lW v d)/\Rd H d (.dK kvs)/\kvs.map (·.2)=ns.map V.int/\Q (.int ns.sum) H):=by
 intro pins s σ H xs us Q I r h;obtain⟨v,d,kvs,ns,rfl,hv,hz,en,q⟩:=h;obtain⟨u,rfl,ru⟩:=vals1 r;cases ru;obtain⟨_,hsys,vs,rel,dd⟩:=uR I.hok hz;obtain⟨ep,da⟩:=dd.dictAt;obtain⟨hv',_⟩:=(show e_ X.prog X.w H s.heap v (lW v d)from I.hok v _ hv)
 have hl:kvs.length=vs.length:=rel.length;have hlt:=da.lt_size;have hne:d≠s.heap.objs.size:=fY hlt;have W:=(Walks.dictValues (prog:=X.prog) (w:=X.w) (A:=X.A.in1) (knd:=c8 X.prog X.w) (I.ok.hd hc) s.heap.objs.size d hne vs ep).toS;have DO:kvs.length=ns.length:=by have:=iZ List.length en;simpa using this
 refine call_sum_walkAnyS (wpAny_pyIter_values hv' da ?_);refine⟨s.heap.objs.size,_,_,_,_,_,_,λi=>ns.getD i 0,Z,W,⟨⟨_,fC _ rfl,Z,Z⟩,da.push _⟩,λb hb=>?_,λi x hP=>?_,λs' t' hm=>?_⟩
 .rcases eZ.mp hb with rfl|hb
  .exact cu (fC _ rfl)
  .obtain rfl:=dS.mp hb;exact(da.push _).lt_size
 .obtain ⟨k,hk⟩:=hP;have hil:i<ns.length:=by have:=(dj.mp hk).1;omega
  have hik:i<kvs.length:=by omega
  obtain⟨q',hq',_,rq⟩:=Af rel (a_ hik);rw[hk]at hq';cases hq';have e1:kvs[i].2=V.int (ns.getD i 0):=by have:=iZ (λl=>l[i]?) en;simp only[bQ,a_ hik,a_ hil]at this;rw[dG,a_ hil];exact gH this
  rw[e1]at rq;exact rq
 .obtain ⟨h',g',d',tk',os'⟩:=s';have e1:g'=s.gens:=hm.gens;have e2:d'=s.drawn:=hm.drawn;have e3:os'=s.os:=hm.os;subst e1 e2 e3;have hsz:vs.length=ns.length:=by omega
  rw[hsz,preSum_getD,JU (aL _)];exact⟨.int ns.sum,H,I.kept (h':=h') (t':=tk') λb o e=>hm.heap b o (λhb=>absurd (cu e) ((dS.mp hb)▸j_ _)) (cV _ e),⟨t',Z⟩,q⟩
end
def fm:St->List Nat->List V->St
 | σ,k::ks,v::vs=>fm (σ.set k (some v)) ks vs
 | σ,_,_=>σ
theorem DX{k:Nat}{v:Option V}:∀{ks:List Nat}{vs:List V}{σ:St},k∉ks->(fm σ ks vs).set k v=fm (σ.set k v) ks vs
 | [],_,_,_=>by unfold fm;rfl
 | _::_,[],_,_=>by unfold fm;rfl
 | j::ks,w::vs,σ,h=>by have hj:k≠j:=λe=>h (by rw[e];exact cQ);show(fm (σ.set j (some w)) ks vs).set k v=fm ((σ.set k v).set j (some w)) ks vs;rw[DX (λm=>h (cR _ m)),List.set_comm _ _ hj]
theorem vz:∀{ks:List Nat}{vs ws:List V}{σ:St},ks.Nodup->vs.length=ks.length->ws.length=ks.length->fm (fm σ ks vs) ks ws=fm σ ks ws
 | [],[],[],_,_,_,_=>rfl
 | k::ks,v::vs,w::ws,σ,nd,h1,h2=>by have nk:=(gP.mp nd).1;show fm ((fm (σ.set k (some v)) ks vs).set k (some w)) ks ws=fm (σ.set k (some w)) ks ws;rw[DX nk,oq,vz (gP.mp nd).2 (by simpa using h1) (by simpa using h2)]
def WL:List Nat->Dq
 | []=>Zi
 | k::ks=>Wt (lU k) (WL ks)
theorem KO{Q:St->Hp->Prop}{H:Hp}:∀{ks:List Nat}{vs:List V}{σ:St},vs.length=ks.length->Q (fm σ ks vs) H->WL ks vs σ H Q
 | [],[],_,_,q=>⟨Z,q⟩
 | k::ks,v::vs,σ,h,q=>⟨v,vs,Z,KO (by simpa using h) q⟩
theorem Ai(ks:List Nat)(Pv:Nat->List V->Hp->Prop)(nd:ks.Nodup)(hn:n<=100000)(h0:Pv 0 [] (upd H acc (.lst [])))(hgo:∀i out H1,i<n->H1 acc=some (.lst out)->Pv i out H1->J.go i H1)(hst:∀out H1,H1 acc=some (.lst out)->Pv n out H1->J.stop n H1)(hs:∀(i:Nat) (x:V) (out:List V) (H1 H2:Hp),i<n->out.length=i->H1 acc=some (.lst out)->Pv i out H1->J.Dr i H1 x H2->
    ∃t vs,x =.ref t/\dU K H2 t vs/\vs.length=ks.length/\te (fm σ2 ks vs) H2 (yN Pv i acc out))(hd:∀(out:List V) (H1:Hp),out.length=n->H1 acc=some (.lst out)->Pv n out H1->Q (.ref acc) H1):
  DJ J (Cq K ks.length (WL ks)) te acc σ2 H Q:=by
 refine⟨λi m σ' H'=>m=n-i/\i<=n/\(∀ws,ws.length=ks.length->fm σ' ks ws=fm σ2 ks ws)/\∃out,out.length=i/\H' acc=some (.lst out)/\Pv i out H',⟨n,by simp,iA _,λ_ _=>rfl,[],Z,ak,h0⟩,?_⟩
 rintro i m σ' H' ⟨rfl,hi,hσ,out,ho,ha,p⟩
 by_cases hlt:i<n
 . refine .inr ⟨hgo i out H' hlt ha p,λσ3=>∀ws,ws.length=ks.length->fm σ3 ks ws=fm σ2 ks ws,(yN Pv i acc out),λσ3 v H4 hS ⟨a,b⟩=>?_,λx H1 y=>?_⟩
   . refine⟨out,a,?_,n-(i+1),by omega,Z,hlt,hS,out++[v],by rw[c7,ho];rfl,ak,b⟩
     have:sizeLine=16777216:=lT
     omega
   . obtain⟨t,vs,rfl,sq,hl,q⟩:=hs i x out H' H1 hlt ho ha p y
     refine⟨t,vs,Z,sq,hl,KO hl ⟨λws hw=>?_,?_⟩⟩
     . rw[vz nd hl hw];exact hσ ws hw
     . rw[hσ vs hl];exact q
 . have e:i=n:=by omega
   subst e
   exact .inl ⟨hst out H' ha p,hd out H' ho ha p⟩
theorem OY(ks:List Nat)(Pv:Nat->List V->Hp->Prop)(nd:ks.Nodup)(hn:n<=100000)(h0:Pv 0 [] (upd H acc (.lst [])))(hgo:∀i out H1,i<n->H1 acc=some (.lst out)->Pv i out H1->J.go i H1)(hst:∀out H1,H1 acc=some (.lst out)->Pv n out H1->J.stop n H1)(hs:∀(i:Nat) (x:V) (out:List V) (H1 H2:Hp),i<n->out.length<=i->H1 acc=some (.lst out)->Pv i out H1->J.Dr i H1 x H2->
    ∃t vs,x =.ref t/\dU K H2 t vs/\vs.length=ks.length/\tc (fm σ2 ks vs) H2 (WD te (fm σ2 ks vs) Pv i acc out))(hd:∀(out:List V) (H1:Hp),out.length<=n->H1 acc=some (.lst out)->Pv n out H1->Q (.ref acc) H1):
  DU J (Cq K ks.length (WL ks)) tc te acc σ2 H Q:=by
 refine⟨λi m σ' H'=>m=n-i/\i<=n/\(∀ws,ws.length=ks.length->fm σ' ks ws=fm σ2 ks ws)/\∃out,out.length<=i/\H' acc=some (.lst out)/\Pv i out H',⟨n,by simp,iA _,λ_ _=>rfl,[],aL _,ak,h0⟩,?_⟩
 rintro i m σ' H' ⟨rfl,hi,hσ,out,ho,ha,p⟩
 by_cases hlt:i<n
 . refine .inr ⟨hgo i out H' hlt ha p,λσ3=>∀ws,ws.length=ks.length->fm σ3 ks ws=fm σ2 ks ws,(yN Pv i acc out),λH3=>H3 acc=some (.lst out)/\Pv (i+1) out H3,λσ3 v H4 hS ⟨a,b⟩=>?_,λσ3 H4 hS ⟨a,b⟩=>?_,λx H1 y=>?_⟩
   . refine⟨out,a,?_,n-(i+1),by omega,Z,hlt,hS,out++[v],by rw[c7];exact Nat.succ_le_succ ho,ak,b⟩
     have:sizeLine=16777216:=lT
     omega
   . exact⟨n-(i+1),by omega,Z,hlt,hS,out,by omega,a,b⟩
   . obtain⟨t,vs,rfl,sq,hl,q⟩:=hs i x out H' H1 hlt ho ha p y
     refine⟨t,vs,Z,sq,hl,KO hl ⟨λws hw=>?_,?_⟩⟩
     . rw[vz nd hl hw];exact hσ ws hw
     . rw[hσ vs hl];exact q
 . have e:i=n:=by omega
   subst e
   exact .inl ⟨hst out H' ha p,hd out H' ho ha p⟩
theorem iD(k:Nat)(Pv:Nat->List V->Hp->Prop)(hn:n<=100000)(h0:Pv 0 [] (upd H acc (.lst [])))(hgo:∀i out H1,i<n->H1 acc=some (.lst out)->Pv i out H1->J.go i H1)(hst:∀out H1,H1 acc=some (.lst out)->Pv n out H1->J.stop n H1)(hs:∀(i:Nat) (x:V) (out:List V) (H1 H2:Hp),i<n->out.length=i->H1 acc=some (.lst out)->Pv i out H1->J.Dr i H1 x H2->
    te (σ2.set k (some x)) H2 (yN Pv i acc out))(hd:∀(out:List V) (H1:Hp),out.length=n->H1 acc=some (.lst out)->Pv n out H1->Q (.ref acc) H1):
  DJ J (lU k) te acc σ2 H Q:=by
 refine⟨λi m σ' H'=>m=n-i/\i<=n/\(∀w:Option V,σ'.set k w=σ2.set k w)/\∃out,out.length=i/\H' acc=some (.lst out)/\Pv i out H',⟨n,by simp,iA _,λ_=>rfl,[],Z,ak,h0⟩,?_⟩
 rintro i m σ' H' ⟨rfl,hi,hσ,out,ho,ha,p⟩
 by_cases hlt:i<n
 . refine .inr ⟨hgo i out H' hlt ha p,λσ3=>∀w:Option V,σ3.set k w=σ2.set k w,(yN Pv i acc out),λσ3 v H4 hS ⟨a,b⟩=>?_,λx H1 y=>?_⟩
   . refine⟨out,a,?_,n-(i+1),by omega,Z,hlt,hS,out++[v],by rw[c7,ho];rfl,ak,b⟩
     have:sizeLine=16777216:=lT
     omega
   . refine⟨λw=>by rw[oq];exact hσ w,?_⟩
     rw[hσ]
     exact hs i x out H' H1 hlt ho ha p y
 . have e:i=n:=by omega
   subst e
   exact .inl ⟨hst out H' ha p,hd out H' ho ha p⟩
theorem FD(k:Nat)(Pv:Nat->List V->Hp->Prop)(hn:n<=100000)(h0:Pv 0 [] (upd H acc (.lst [])))(hgo:∀i out H1,i<n->H1 acc=some (.lst out)->Pv i out H1->J.go i H1)(hst:∀out H1,H1 acc=some (.lst out)->Pv n out H1->J.stop n H1)(hs:∀(i:Nat) (x:V) (out:List V) (H1 H2:Hp),i<n->out.length<=i->H1 acc=some (.lst out)->Pv i out H1->J.Dr i H1 x H2->
    tc (σ2.set k (some x)) H2 (WD te (σ2.set k (some x)) Pv i acc out))(hd:∀(out:List V) (H1:Hp),out.length<=n->H1 acc=some (.lst out)->Pv n out H1->Q (.ref acc) H1):
  DU J (lU k) tc te acc σ2 H Q:=by
 refine⟨λi m σ' H'=>m=n-i/\i<=n/\(∀w:Option V,σ'.set k w=σ2.set k w)/\∃out,out.length<=i/\H' acc=some (.lst out)/\Pv i out H',⟨n,by simp,iA _,λ_=>rfl,[],aL _,ak,h0⟩,?_⟩
 rintro i m σ' H' ⟨rfl,hi,hσ,out,ho,ha,p⟩
 by_cases hlt:i<n
 . refine .inr ⟨hgo i out H' hlt ha p,λσ3=>∀w:Option V,σ3.set k w=σ2.set k w,(yN Pv i acc out),λH3=>H3 acc=some (.lst out)/\Pv (i+1) out H3,λσ3 v H4 hS ⟨a,b⟩=>?_,λσ3 H4 hS ⟨a,b⟩=>?_,λx H1 y=>?_⟩
   . refine⟨out,a,?_,n-(i+1),by omega,Z,hlt,hS,out++[v],by rw[c7];exact Nat.succ_le_succ ho,ak,b⟩
     have:sizeLine=16777216:=lT
     omega
   . exact⟨n-(i+1),by omega,Z,hlt,hS,out,by omega,a,b⟩
   . refine⟨λw=>by rw[oq];exact hσ w,?_⟩
     rw[hσ]
     exact hs i x out H' H1 hlt ho ha p y
 . have e:i=n:=by omega
   subst e
   exact .inl ⟨hst out H' ha p,hd out H' ho ha p⟩
structure Mn(P:Program)(w:World)(K:Fg)(mg:SO)(base:Heap)(k:Nat)(C:Addr)(m:Str)(ps:List Str)(sp:Sp):Prop where
 ex:∃f fd,kj P w K mg base vj k f fd ps sp/\Binds K fd ps []/\Meth K C m f/\qb K C
structure Cn(P:Program)(w:World)(K:Fg)(mg:SO)(base:Heap)(k:Nat)(x:Str)(C:Addr)(ps:List Str)(sp:Sp):Prop where
 ex:∃f fd,kj P w K mg base vj k f fd ps sp/\Binds K fd ps []/\Mk K C f/\mg x=some (.ref C)
section
variable {X:Cx}
inductive ac7(x:V)(y:V)(H:Hp)(Q:VK):Prop
 |mk(i j:_)(_:x =.int i)(_:y =.int j)(_:QK i j)(_:Q (.int (i*j)) H)
theorem X4:Kf X .Mult ac7:=by
 rintro pins s σ H x y u v Q I rx ry ⟨i,j,rfl,rfl,⟨m,n,h1,h2,h3⟩,q⟩;obtain⟨t,rfl⟩:=(show ∃t,u=Value.int i t from rx)
 obtain⟨t',rfl⟩:=(show ∃t',v=Value.int j t' from ry)
 exact PyProof.Rows.imul_int ⟨.int (i*j),H,I.tok _,⟨_,Z⟩,q⟩ (IntMulOk.of_le (Ql.mpr h1) (Ql.mpr h2) h3)
end
structure ja(K:Fg)(C:Addr)(m qual:Str)(st:Stmt)(f:Addr)(fd:FuncData):Prop where
 fn:Hg K m qual st f fd
 me:Meth K C m f
 cl:qb K C
variable {mg:SO}{base:Heap}{C f:Addr}{qual:Str}{fd:FuncData}{N ps:List Str}{sp:Sp}
theorem ja.ok{m:Str}{st:Stmt}{k:Nat}(F:ja K C m qual st f fd)(S:aP N ps (aC st))(len:∀vs H Q E,sp vs H Q E->vs.length=ps.length)(hbody:∀(cdv:Value) (A:Around) (outer:List Env) (s:Shared) (H:Hp) (vs:List V) (Q:VK) (E:XK),fD k (A.deeper (envOfC qual (aC st) s.heap.objs.size f cdv))->sp vs H Q E->
    ∃t,wY (uc vj P w K mg base N qual (aC st) f cdv A outer s H E).BX (dP st) t/\t { nx:=λ_ H'=>Q .cy H',rt:=Q } (start N vs) H)(h:∀(kV doc pm:Value) (an:Option Addr) (cdv ct:Value) (us:List Value),us.length=ps.length->bindArgs (PySem.W.fnOf m qual (gy st) (dP st) (aC st) .none kV doc pm an cdv ct) ⟨us,[]⟩=pure (ps.zip us)):
  Mn P w K mg base (k+1) C m ps sp:=⟨f,fd,F.fn.ok S len hbody,F.fn.binds h,F.me,F.cl⟩
structure Ho(K:Fg)(mg:SO)(x:Str)(C:Addr)(qual:Str)(st:Stmt)(f:Addr)(fd:FuncData):Prop where
 fn:Hg K "__init__" qual st f fd
 mks:Mk K C f
 name:mg x=some (.ref C)
theorem Ho.ok{st:Stmt}{k:Nat}(F:Ho K mg x C qual st f fd)(S:aP N ps (aC st))(len:∀vs H Q E,sp vs H Q E->vs.length=ps.length)(hbody:∀(cdv:Value) (A:Around) (outer:List Env) (s:Shared) (H:Hp) (vs:List V) (Q:VK) (E:XK),fD k (A.deeper (envOfC qual (aC st) s.heap.objs.size f cdv))->sp vs H Q E->
    ∃t,wY (uc vj P w K mg base N qual (aC st) f cdv A outer s H E).BX (dP st) t/\t { nx:=λ_ H'=>Q .cy H',rt:=Q } (start N vs) H)(h:∀(kV doc pm:Value) (an:Option Addr) (cdv ct:Value) (us:List Value),us.length=ps.length->bindArgs (PySem.W.fnOf "__init__" qual (gy st) (dP st) (aC st) .none kV doc pm an cdv ct) ⟨us,[]⟩=pure (ps.zip us)):
  Cn P w K mg base (k+1) x C ps sp:=⟨f,fd,F.fn.ok S len hbody,F.fn.binds h,F.mks,F.name⟩
abbrev qg:=Nat×Nat×Str
abbrev fG:=Addr->Option qg
abbrev col(n t:Nat):Option qg:=some (n,t,(⟨#[]⟩:Str))
def isTup:HO->Bool
 | .tup _=>true
 | _=>false
def Gh(ρ:fG)(H:Hp):Prop:=∀b c,ρ b=some c->∃o,H b=some o/\isTup o=false
def Fr(n:Nat)(ρ:fG)(H:Hp)(ρ':fG)(H':Hp):Prop:=∀b o,H b=some o->(∀t x,ρ b≠some (n,t,x))->H' b=some o/\ρ' b=ρ b
def bO(ρ:fG)(a:Addr)(c:qg):fG:=λb=>if b=a then some c else ρ b
variable {ρ:fG}
theorem cY{c:qg}:bO ρ a c a=some c:=ay rfl
theorem b7{b:Addr}{c:qg}(h:b≠a):bO ρ a c b=ρ b:=av h
def out(ρ:fG)(H:Hp):Hp:=λb=>if ρ b=none then H b else none
variable {o:HO}
theorem DY{b:Addr}(h:H b=some o)(c:ρ b=none):out ρ H b=some o:=by unfold out;rw[ay c];exact h
theorem yR{b:Addr}(h:out ρ H b=some o):H b=some o/\ρ b=none:=by
 unfold out at h;split at h
 .next c=>exact⟨h,c⟩
 .cases h
theorem Gh.none(g:Gh ρ H){b:Addr}(h:H b=Option.none):ρ b=Option.none:=by
 cases e:ρ b with
 | none=>rfl
 | some c=>obtain⟨o,q,_⟩:=g b c e;rw[h]at q;cases q
theorem Gh.tup{ρ:fG}{H:Hp}(g:Gh ρ H){b:Addr}{xs:List V}(h:H b=some (.tup xs)):ρ b=Option.none:=by
 cases e:ρ b with
 | none=>rfl
 | some c=>obtain⟨o,q,t⟩:=g b c e;rw[h]at q;cases q;cases t
theorem Gh.same(g:Gh ρ H)(s:aN H H'):Gh ρ H':=λb c e=>let⟨o,h,t⟩:=g b c e;⟨o,s b o h,t⟩
theorem Gh.wr(g:Gh ρ H)(t:isTup o=false):Gh ρ (upd H a o):=λb c e=>by
 by_cases h:b=a
 .rw [h,ak];exact⟨o,Z,t⟩
 .rw [az h];exact g b c e
theorem Gh.alloc(g:Gh ρ H)(h:H a=Option.none):Gh ρ (upd H a o):=g.same (aI h o)
theorem Gh.color(g:Gh ρ H){c:qg}(h:H a=some o)(t:isTup o=false):Gh (bO ρ a c) H:=λb d e=>by
 by_cases z:b=a
 .rw [z];exact⟨o,h,t⟩
 .rw [b7 z]at e;exact g b d e
theorem Fr.refl:Fr n ρ H ρ H:=λ_ _ h _=>⟨h,Z⟩
variable {H1 H2:Hp}
theorem Fr.trans{ρ1 ρ2:fG}(a:Fr n ρ H ρ1 H1)(b:Fr n ρ1 H1 ρ2 H2):Fr n ρ H ρ2 H2:=λc o h k=>by obtain⟨h1,e1⟩:=a c o h k;obtain⟨h2,e2⟩:=b c o h1 (by rw[e1];exact k);exact⟨h2,e2.trans e1⟩
theorem Fr.of_same(s:aN H H'):Fr n ρ H ρ H':=λb o h _=>⟨s b o h,Z⟩
theorem Fr.write(c:ρ a=some (n,t,x)):Fr n ρ H ρ (upd H a o):=λb u h k=>by have:b≠a:=λe=>k t x (by rw[e];exact c);rw[az this];exact⟨h,Z⟩
theorem Fr.color{c:qg}(h:H a=none)(s:aN H H'):Fr n ρ H (bO ρ a c) H':=λb u e k=>by rw[b7 (aJ e h)];exact⟨s b u e,Z⟩
variable {ρ':fG}
theorem Fr.out(f:Fr n ρ H ρ' H'):aN (out ρ H) (out ρ' H'):=λb o h=>by obtain⟨h1,c⟩:=yR h;obtain⟨h2,e⟩:=f b o h1 (λt x=>by rw[c];intro z;cases z);exact DY h2 (e.trans c)
theorem rG(s:aN H H'):aN (out ρ H) (out ρ H'):=λb o h=>by obtain⟨h1,c⟩:=yR h;exact DY (s b o h1) c
structure Pt where
 nm:Str
 ow:Str
 wo:Int
 we:Int
 sc:Int
 row:List Int
structure lq where
 nm:Str
 ow:Str
 wo:Int
 sh:List (Str×Rat)
structure HS where
 own:List Str
 ah:List Pt
 bD:List lq
 nms:List Str
 stp:List Int
 prod:Int
 kn:Nat
 bU:List Int
 bK:List Int
structure HA where
 a:Addr
 dx:Addr
 pl:Addr
 ab:Addr
 as:Addr
 nm:Addr
 bt:Addr
 db:Addr
 cm:Addr
 pu:Addr
 sp:Addr
 kn:Addr
 qs:List (Addr×Addr×Addr)
structure TC where
 hold:Addr
 part:Addr
 bot:Addr
def gD:Nat->List Str->List (Key×V)
 | _,[]=>[]
 | i,o::r=>(Sum.inr o,.int i)::gD (i+1) r
def cZ(ps:List Pt)(qs:List (Addr×Addr×Addr)):List (Key×V):=List.zipWith (λp q=>((Sum.inr p.nm:Key),V.ref q.1)) ps qs
def Aj(l:List Str):List (Key×V):=l.map λx=>(Sum.inr x,.bl true)
def jZ(A:HA):List (Str×V):=[("places",.ref A.pl),("aboard",.ref A.ab),("ashore",.ref A.as),("names",.ref A.nm),("bottom",.ref A.bt),("common",.ref A.cm),("purses",.ref A.pu)]
def dg(p:Pt)(r:Addr):List (Str×V):=[("name",.str p.nm),("owner",.str p.ow),("worth",.int p.wo),("weight",.int p.we),("scale",.int p.sc),("row",.ref r)]
def yS(sp:Addr)(prod:Int)(kn:Addr):List (Str×V):=[("steps",.ref sp),("product",.int prod),("known",.ref kn)]
def KP(H:Hp)(kvs:List (Key×V))(prod:Int):Prop:=∀p∈kvs,∃(t:Int)(r:Addr),p=(Sum.inl t,V.ref r)/\H r=some (nJ (Jm.fr t prod))
inductive oZ(H:Hp):List V->List (Str×Rat)->Prop
 | nil:oZ H [] []
 | cons {r f:Addr} {x:Str} {q:Rat} {vs:List V} {l:List (Str×Rat)}:H r=some (.tup [.str x,.ref f])->H f=some (nJ q)->oZ H vs l->oZ H (.ref r::vs) ((x,q)::l)
inductive lX(n:Nat)(ρ:fG)(H:Hp):List V->List lq->Prop
 | nil:lX n ρ H [] []
 | cons {r l:Addr} {x:lq} {ss:List V} {vs:List V} {as:List lq}:H r=some (.tup [.str x.nm,.str x.ow,.int x.wo,.ref l])->H l=some (.lst ss)->ρ l=some (n,30,⟨#[]⟩)->oZ H ss x.sh->lX n ρ H vs as->lX n ρ H (.ref r::vs) (x::as)
structure aR(T:TC)(n:Nat)(ρ:fG)(A:HA)(H:Hp)(st:HS):Prop where
 oa:H A.a=some (.ins T.hold A.dx (jZ A))
 ca:ρ A.a=col n 0
 jb:H A.pl=some (.dK (gD 0 st.own))
 jc:ρ A.pl=col n 1
 fj:H A.ab=some (.dK (cZ st.ah A.qs))
 gQ:ρ A.ab=col n 2
 rm:∃vs,H A.as=some (.lst vs)/\lX n ρ H vs st.bD
 jm:ρ A.as=col n 3
 tL:H A.nm=some (.dK (Aj st.nms))
 jn:ρ A.nm=col n 4
 jq:H A.bt=some (.ins T.bot A.db (yS A.sp st.prod A.kn))
 jr:ρ A.bt=col n 5
 jD:H A.cm=some (.lst (st.bU.map V.int))
 jN:ρ A.cm=col n 6
 lu:H A.pu=some (.lst (st.bK.map V.int))
 cpu:ρ A.pu=col n 7
 nR:H A.sp=some (.lst (st.stp.map V.int))
 ju:ρ A.sp=col n 8
 okn:∃kvs,H A.kn=some (.dK kvs)/\KP H kvs st.prod/\kvs.length<=st.kn/\(kvs.map (·.1)).Nodup
 jv:ρ A.kn=col n 9
 ql:A.qs.length=st.ah.length
 opt:∀(i:Nat)(p:Pt)(q:Addr×Addr×Addr),st.ah[i]?=some p->A.qs[i]?=some q->H q.1=some (.ins T.part q.2.1 (dg p q.2.2))/\H q.2.2=some (.lst (p.row.map V.int))/\ρ q.1=some (n,20,p.nm)/\ρ q.2.2=some (n,21,p.nm)
theorem DZ{b:Addr}{c d:qg}(ha:ρ a=some c)(hb:ρ b=some d)(h:c≠d):a≠b:=λe=>by rw[e,hb]at ha;cases ha;exact h rfl
theorem Ca{b:Addr}{c:qg}(ha:ρ a=none)(hb:ρ b=some c):a≠b:=λe=>by rw[e,hb]at ha;cases ha
variable {vs:List V}
theorem oZ.mono{l:List (Str×Rat)}(h:oZ H vs l)(g:∀b xs,H b=some (.tup xs)->H' b=some (.tup xs)):oZ H' vs l:=by
 induction h with
 | nil=>exact .nil
 | cons a b _ ih=>exact .cons (g _ _ a) (g _ _ b) ih
def Kp(n:Nat)(ρ ρ':fG)(H H':Hp)(ts:Nat->Bool):Prop:=(∀b xs,H b=some (.tup xs)->H' b=some (.tup xs))/\∀b t x o,ts t=true->ρ b=some (n,t,x)->H b=some o->H' b=some o/\ρ' b=some (n,t,x)
variable {ts:Nat->Bool}
theorem lX.keep{l:List lq}(h:lX n ρ H vs l)(k:Kp n ρ ρ' H H' ts)(e:ts 30=true):lX n ρ' H' vs l:=by
 induction h with
 | nil=>exact .nil
 | cons a b c d _ ih=>exact .cons (k.1 _ _ a) (k.2 _ _ _ _ e c b).1 (k.2 _ _ _ _ e c b).2 (d.mono k.1) ih
theorem eE(g:Gh ρ H)(c:ρ a=some (n,t,x)):Kp n ρ ρ H (upd H a o) (λu=>decide (u≠t)):=by
 refine⟨λb xs h=>?_,λb u y w hu hc h=>⟨?_,hc⟩⟩
 .rw [az (Ca (g.tup h) c)];exact h
 .rw [az (DZ hc c (λe=>by cases e;exact absurd hu (by simp)))];exact h
theorem kz(k:Kp n ρ ρ' H H' ts){b:Addr}(c:ρ b=some (n,t,x))(e:H b=some o)(u:ts t=true:=by decide):H' b=some o:=(k.2 b t x o u c e).1
theorem OZ(s:aN H H'):Kp n ρ ρ H H' ts:=⟨λb xs h=>s _ _ h,λb u y w _ hc h=>⟨s _ _ h,hc⟩⟩
variable {T:TC}{A:HA}
theorem aR.same{st:HS}(h:aR T n ρ A H st)(k:Kp n ρ ρ' H H' λ_=>true):aR T n ρ' A H' st:=by
 have z:=λ{b:Addr}{t:Nat}{x:Str}{o:HO}(c:ρ b=some (n,t,x))(e:H b=some o)=>k.2 b t x o rfl c e;obtain⟨vs,h1,h2⟩:=h.rm;obtain⟨kvs,k1,k2,k3⟩:=h.okn;exact⟨(z h.ca h.oa).1,(z h.ca h.oa).2,(z h.jc h.jb).1,(z h.jc h.jb).2,(z h.gQ h.fj).1,(z h.gQ h.fj).2,⟨vs,(z h.jm h1).1,h2.keep k rfl⟩,(z h.jm h1).2,(z h.jn h.tL).1,(z h.jn h.tL).2,(z h.jr h.jq).1,(z h.jr h.jq).2,
  (z h.jN h.jD).1,(z h.jN h.jD).2,(z h.cpu h.lu).1,(z h.cpu h.lu).2,(z h.ju h.nR).1,(z h.ju h.nR).2,⟨kvs,(z h.jv k1).1,λp hp=>let⟨t,r,e,q⟩:=k2 p hp;⟨t,r,e,k.1 _ _ q⟩,k3⟩,(z h.jv k1).2,h.ql,
  λi p q e1 e2=>let⟨a,b,c,d⟩:=h.opt i p q e1 e2;⟨(z c a).1,(z d b).1,(z c a).2,(z d b).2⟩⟩
theorem aR.mono{st:HS}(h:aR T n ρ A H st)(s:aN H H'):aR T n ρ A H' st:=h.same (OZ s)
theorem aR.other{st:HS}(h:aR T m ρ A H st)(f:Fr n ρ H ρ' H')(g:Gh ρ H)(e:m≠n):aR T m ρ' A H' st:=h.same ⟨λb xs q=>(f b _ q λt x=>by rw[g.tup q];intro z;cases z).1,λb t x o _ c q=>by
 obtain⟨a,b'⟩:=f b o q λt' x'=>by rw[c];intro z;cases z;exact e rfl
 exact⟨a,b'.trans c⟩⟩
variable {r:Addr}
theorem lX.snoc{as:List lq}{l:Addr}{x:lq}{ss:List V}(h:lX n ρ H vs as)(e1:H r=some (.tup [.str x.nm,.str x.ow,.int x.wo,.ref l]))(e2:H l=some (.lst ss))(e3:ρ l=some (n,30,⟨#[]⟩))(e4:oZ H ss x.sh):lX n ρ H (vs++[.ref r]) (as++[x]):=by
 induction h with
 | nil=>exact .cons e1 e2 e3 e4 .nil
 | cons a b c d _ ih=>exact .cons a b c d ih
theorem Bu{p0 p1:Pt}:∀{ps:List Pt}{qs:List (Addr×Addr×Addr)}{i:Nat},ps[i]?=some p0->p1.nm=p0.nm->cZ (ps.set i p1) qs=cZ ps qs
 | [],_,_,h,_=>by simp at h
 | _::_,[],_,_,_=>by simp[cZ]
 | p::ps,q::qs,0,h,e=>by
  have:p=p0:=by simpa using h
  simp[cZ,e,this]
 | p::ps,q::qs,i+1,h,e=>by have:=Bu (qs:=qs) (by simpa using h:ps[i]?=some p0) e;simp only[cZ,J1,tY]at this ⊢;rw[this]
variable {j:Nat}{p:Pt}
theorem D0{ps:List Pt}(nd:(ps.map (·.nm)).Nodup){q:Pt}(h1:ps[i]?=some p)(h2:ps[j]?=some q)(e:p.nm=q.nm):i=j:=by
 have a:(ps.map (·.nm))[i]?=some p.nm:=by rw[bQ,h1];rfl
 have b:(ps.map (·.nm))[j]?=some p.nm:=by rw[bQ,h2,e];rfl
 exact Cp nd a b
variable {p0 p1:Pt}{q0:Addr×Addr×Addr}
theorem X5{st:HS}(h:aR T n ρ A H st)(k:Kp n ρ ρ H H' ts)(nd:(st.ah.map (·.nm)).Nodup)(ep:st.ah[i]?=some p0)(eq:A.qs[i]?=some q0)(e1:p1.nm=p0.nm)(hw:H' q0.1=some (.ins T.part q0.2.1 (dg p1 q0.2.2)))(hs:∀{b:Addr} {t:Nat} {x:Str} {o:HO},ρ b=some (n,t,x)->t≠20\/x≠p0.nm->H b=some o->H' b=some o)(er:(.lst (p0.row.map V.int):HO) =.lst (p1.row.map V.int)):
  ∀(j:Nat)(p:Pt)(q:Addr×Addr×Addr),(st.ah.set i p1)[j]?=some p->A.qs[j]?=some q->H' q.1=some (.ins T.part q.2.1 (dg p q.2.2))/\H' q.2.2=some (.lst (p.row.map V.int))/\ρ q.1=some (n,20,p.nm)/\ρ q.2.2=some (n,21,p.nm):=by
 intro j p q ej eq'
 by_cases hj:i=j
 . subst hj
   rw[eq]at eq';cases eq'
   rw[h_ (dj.mp ep).1]at ej
   cases ej
   obtain⟨a,b,c,d⟩:=h.opt i p0 q0 ep eq
   exact⟨hw,by rw[<-er];exact hs d (.inl (by decide)) b,by rw[e1];exact c,by rw[e1];exact d⟩
 . rw[xJ hj]at ej
   obtain⟨a,b,c,d⟩:=h.opt j p q ej eq'
   exact⟨hs c (.inr λe=>hj (D0 nd ep ej e.symm)) a,hs d (.inl (by decide)) b,c,d⟩
variable {l:List Int}
theorem Vw{st:HS}(h:aR T n ρ A H st)(nd:(st.ah.map (·.nm)).Nodup)(ep:st.ah[i]?=some p0)(eq:A.qs[i]?=some q0)(hw:H' q0.2.2=some (.lst (l.map V.int)))(hs:∀{b:Addr} {t:Nat} {x:Str} {o:HO},ρ b=some (n,t,x)->t≠21\/x≠p0.nm->H b=some o->H' b=some o):
  ∀(j:Nat)(p:Pt)(q:Addr×Addr×Addr),(st.ah.set i { p0 with row:=l })[j]?=some p->A.qs[j]?=some q->H' q.1=some (.ins T.part q.2.1 (dg p q.2.2))/\H' q.2.2=some (.lst (p.row.map V.int))/\ρ q.1=some (n,20,p.nm)/\ρ q.2.2=some (n,21,p.nm):=by
 intro j p q ej eq'
 by_cases hj:i=j
 . subst hj
   rw[eq]at eq';cases eq'
   rw[h_ (dj.mp ep).1]at ej
   cases ej
   obtain⟨a,b,c,d⟩:=h.opt i p0 q0 ep eq
   exact⟨hs c (.inl (by decide)) a,hw,c,d⟩
 . rw[xJ hj]at ej
   obtain⟨a,b,c,d⟩:=h.opt j p q ej eq'
   exact⟨hs c (.inl (by decide)) a,hs d (.inr λe=>hj (D0 nd ep ej e.symm)) b,c,d⟩
theorem Ak(c:ρ a=some (n,t,x)):∀{b:Addr}{u:Nat}{y:Str}{w:HO},ρ b=some (n,u,y)->u≠t\/y≠x->H b=some w->upd H a o b=some w:=λ{b u y w} hc hu h=>by rw[az (DZ hc c (λe=>by cases e;rcases hu with z|z <;> exact z rfl))];exact h
theorem aR.aam{st:HS}(h:aR T n ρ A H st)(g:Gh ρ H)(l:List Str):aR T n ρ A (upd H A.pl (.dK (gD 0 l))) { st with own:=l }:=by have k:=eE (o:=.dK (gD 0 l)) g h.jc;obtain⟨vs,h1,h2⟩:=h.rm;obtain⟨kvs,k1,k2,k3⟩:=h.okn;exact⟨kz k h.ca h.oa,h.ca,ak,h.jc,kz k h.gQ h.fj,h.gQ,⟨vs,kz k h.jm h1,h2.keep k (by decide)⟩,h.jm,kz k h.jn h.tL,h.jn,kz k h.jr h.jq,h.jr,kz k h.jN h.jD,h.jN,kz k h.cpu h.lu,h.cpu,kz k h.ju h.nR,h.ju,⟨kvs,kz k h.jv k1,λp hp=>let⟨t,r,e,q⟩:=k2 p hp;⟨t,r,e,k.1 _ _ q⟩,k3⟩,h.jv,h.ql,λi p q e1 e2=>let⟨a,b,c,d⟩:=h.opt i p q e1 e2;⟨kz k c a,kz k d b,c,d⟩⟩
theorem aR.KQ{st:HS}(h:aR T n ρ A H st)(g:Gh ρ H)(ps:List Pt)(qs:List (Addr×Addr×Addr))(el:qs.length=ps.length)(hp:∀(i:Nat) (p:Pt) (q:Addr×Addr×Addr),ps[i]?=some p->qs[i]?=some q->H q.1=some (.ins T.part q.2.1 (dg p q.2.2))/\H q.2.2=some (.lst (p.row.map V.int))/\ρ q.1=some (n,20,p.nm)/\ρ q.2.2=some (n,21,p.nm)):aR T n ρ { A with qs:=qs } (upd H A.ab (.dK (cZ ps qs))) { st with ah:=ps }:=by have k:=eE (o:=.dK (cZ ps qs)) g h.gQ;obtain⟨vs,h1,h2⟩:=h.rm;obtain⟨kvs,k1,k2,k3⟩:=h.okn;exact⟨kz k h.ca h.oa,h.ca,kz k h.jc h.jb,h.jc,ak,h.gQ,⟨vs,kz k h.jm h1,h2.keep k (by decide)⟩,h.jm,kz k h.jn h.tL,h.jn,kz k h.jr h.jq,h.jr,kz k h.jN h.jD,h.jN,kz k h.cpu h.lu,h.cpu,kz k h.ju h.nR,h.ju,⟨kvs,kz k h.jv k1,λp hp=>let⟨t,r,e,q⟩:=k2 p hp;⟨t,r,e,k.1 _ _ q⟩,k3⟩,h.jv,el,λi p q e1 e2=>let⟨a,b,c,d⟩:=hp i p q e1 e2;⟨kz k c a,kz k d b,c,d⟩⟩
theorem aR.aan{st:HS}(h:aR T n ρ A H st)(g:Gh ρ H){l:Addr}{x:lq}{ss SI:List V}(hv:H A.as=some (.lst SI))(e1:H r=some (.tup [.str x.nm,.str x.ow,.int x.wo,.ref l]))(e2:H l=some (.lst ss))(e3:ρ l=some (n,30,⟨#[]⟩))(e4:oZ H ss x.sh):aR T n ρ A (upd H A.as (.lst (SI++[.ref r]))) { st with bD:=st.bD++[x] }:=by have k:=eE (o:=.lst (SI++[.ref r])) g h.jm;obtain⟨vs,h1,h2⟩:=h.rm;obtain⟨kvs,k1,k2,k3⟩:=h.okn;exact⟨kz k h.ca h.oa,h.ca,kz k h.jc h.jb,h.jc,kz k h.gQ h.fj,h.gQ,⟨_,ak,by rw[hv]at h1;cases h1;exact(h2.keep k (by decide)).snoc (k.1 _ _ e1) (kz k e3 e2) e3 (e4.mono k.1)⟩,h.jm,kz k h.jn h.tL,h.jn,kz k h.jr h.jq,h.jr,kz k h.jN h.jD,h.jN,kz k h.cpu h.lu,h.cpu,kz k h.ju h.nR,h.ju,⟨kvs,kz k h.jv k1,λp hp=>let⟨t,r,e,q⟩:=k2 p hp;⟨t,r,e,k.1 _ _ q⟩,k3⟩,h.jv,h.ql,λi p q e1 e2=>let⟨a,b,c,d⟩:=h.opt i p q e1 e2;⟨kz k c a,kz k d b,c,d⟩⟩
theorem aR.aao{st:HS}(h:aR T n ρ A H st)(g:Gh ρ H)(l:List Str):aR T n ρ A (upd H A.nm (.dK (Aj l))) { st with nms:=l }:=by have k:=eE (o:=.dK (Aj l)) g h.jn;obtain⟨vs,h1,h2⟩:=h.rm;obtain⟨kvs,k1,k2,k3⟩:=h.okn;exact⟨kz k h.ca h.oa,h.ca,kz k h.jc h.jb,h.jc,kz k h.gQ h.fj,h.gQ,⟨vs,kz k h.jm h1,h2.keep k (by decide)⟩,h.jm,ak,h.jn,kz k h.jr h.jq,h.jr,kz k h.jN h.jD,h.jN,kz k h.cpu h.lu,h.cpu,kz k h.ju h.nR,h.ju,⟨kvs,kz k h.jv k1,λp hp=>let⟨t,r,e,q⟩:=k2 p hp;⟨t,r,e,k.1 _ _ q⟩,k3⟩,h.jv,h.ql,λi p q e1 e2=>let⟨a,b,c,d⟩:=h.opt i p q e1 e2;⟨kz k c a,kz k d b,c,d⟩⟩
theorem aR.aap{st:HS}(h:aR T n ρ A H st)(g:Gh ρ H)(l:List Int):aR T n ρ A (upd H A.cm (.lst (l.map V.int))) { st with bU:=l }:=by have k:=eE (o:=.lst (l.map V.int)) g h.jN;obtain⟨vs,h1,h2⟩:=h.rm;obtain⟨kvs,k1,k2,k3⟩:=h.okn;exact⟨kz k h.ca h.oa,h.ca,kz k h.jc h.jb,h.jc,kz k h.gQ h.fj,h.gQ,⟨vs,kz k h.jm h1,h2.keep k (by decide)⟩,h.jm,kz k h.jn h.tL,h.jn,kz k h.jr h.jq,h.jr,ak,h.jN,kz k h.cpu h.lu,h.cpu,kz k h.ju h.nR,h.ju,⟨kvs,kz k h.jv k1,λp hp=>let⟨t,r,e,q⟩:=k2 p hp;⟨t,r,e,k.1 _ _ q⟩,k3⟩,h.jv,h.ql,λi p q e1 e2=>let⟨a,b,c,d⟩:=h.opt i p q e1 e2;⟨kz k c a,kz k d b,c,d⟩⟩
theorem aR.aaq{st:HS}(h:aR T n ρ A H st)(g:Gh ρ H)(l:List Int):aR T n ρ A (upd H A.pu (.lst (l.map V.int))) { st with bK:=l }:=by have k:=eE (o:=.lst (l.map V.int)) g h.cpu;obtain⟨vs,h1,h2⟩:=h.rm;obtain⟨kvs,k1,k2,k3⟩:=h.okn;exact⟨kz k h.ca h.oa,h.ca,kz k h.jc h.jb,h.jc,kz k h.gQ h.fj,h.gQ,⟨vs,kz k h.jm h1,h2.keep k (by decide)⟩,h.jm,kz k h.jn h.tL,h.jn,kz k h.jr h.jq,h.jr,kz k h.jN h.jD,h.jN,ak,h.cpu,kz k h.ju h.nR,h.ju,⟨kvs,kz k h.jv k1,λp hp=>let⟨t,r,e,q⟩:=k2 p hp;⟨t,r,e,k.1 _ _ q⟩,k3⟩,h.jv,h.ql,λi p q e1 e2=>let⟨a,b,c,d⟩:=h.opt i p q e1 e2;⟨kz k c a,kz k d b,c,d⟩⟩
theorem aR.aar{st:HS}(h:aR T n ρ A H st)(g:Gh ρ H)(l:List Int):aR T n ρ A (upd H A.sp (.lst (l.map V.int))) { st with stp:=l }:=by have k:=eE (o:=.lst (l.map V.int)) g h.ju;obtain⟨vs,h1,h2⟩:=h.rm;obtain⟨kvs,k1,k2,k3⟩:=h.okn;exact⟨kz k h.ca h.oa,h.ca,kz k h.jc h.jb,h.jc,kz k h.gQ h.fj,h.gQ,⟨vs,kz k h.jm h1,h2.keep k (by decide)⟩,h.jm,kz k h.jn h.tL,h.jn,kz k h.jr h.jq,h.jr,kz k h.jN h.jD,h.jN,kz k h.cpu h.lu,h.cpu,ak,h.ju,⟨kvs,kz k h.jv k1,λp hp=>let⟨t,r,e,q⟩:=k2 p hp;⟨t,r,e,k.1 _ _ q⟩,k3⟩,h.jv,h.ql,λi p q e1 e2=>let⟨a,b,c,d⟩:=h.opt i p q e1 e2;⟨kz k c a,kz k d b,c,d⟩⟩
theorem aR.aas{st:HS}(h:aR T n ρ A H st)(g:Gh ρ H)(q:Addr)(l:List Int)(e:H q=some (.lst (l.map V.int)))(c:ρ q=col n 6):aR T n ρ { A with cm:=q } (upd H A.a (.ins T.hold A.dx (jZ { A with cm:=q }))) { st with bU:=l }:=by have k:=eE (o:=.ins T.hold A.dx (jZ { A with cm:=q })) g h.ca;obtain⟨vs,h1,h2⟩:=h.rm;obtain⟨kvs,k1,k2,k3⟩:=h.okn;exact⟨ak,h.ca,kz k h.jc h.jb,h.jc,kz k h.gQ h.fj,h.gQ,⟨vs,kz k h.jm h1,h2.keep k (by decide)⟩,h.jm,kz k h.jn h.tL,h.jn,kz k h.jr h.jq,h.jr,kz k c e,c,kz k h.cpu h.lu,h.cpu,kz k h.ju h.nR,h.ju,⟨kvs,kz k h.jv k1,λp hp=>let⟨t,r,e,q⟩:=k2 p hp;⟨t,r,e,k.1 _ _ q⟩,k3⟩,h.jv,h.ql,λi p q e1 e2=>let⟨a,b,c,d⟩:=h.opt i p q e1 e2;⟨kz k c a,kz k d b,c,d⟩⟩
theorem aR.SJ{st:HS}(h:aR T n ρ A H st)(g:Gh ρ H)(q:Addr)(l:List Int)(e:H q=some (.lst (l.map V.int)))(c:ρ q=col n 7):aR T n ρ { A with pu:=q } (upd H A.a (.ins T.hold A.dx (jZ { A with pu:=q }))) { st with bK:=l }:=by have k:=eE (o:=.ins T.hold A.dx (jZ { A with pu:=q })) g h.ca;obtain⟨vs,h1,h2⟩:=h.rm;obtain⟨kvs,k1,k2,k3⟩:=h.okn;exact⟨ak,h.ca,kz k h.jc h.jb,h.jc,kz k h.gQ h.fj,h.gQ,⟨vs,kz k h.jm h1,h2.keep k (by decide)⟩,h.jm,kz k h.jn h.tL,h.jn,kz k h.jr h.jq,h.jr,kz k h.jN h.jD,h.jN,kz k c e,c,kz k h.ju h.nR,h.ju,⟨kvs,kz k h.jv k1,λp hp=>let⟨t,r,e,q⟩:=k2 p hp;⟨t,r,e,k.1 _ _ q⟩,k3⟩,h.jv,h.ql,λi p q e1 e2=>let⟨a,b,c,d⟩:=h.opt i p q e1 e2;⟨kz k c a,kz k d b,c,d⟩⟩
theorem aR.aat{st:HS}(h:aR T n ρ A H st)(g:Gh ρ H)(m:Int)(q:Addr)(e:H q=some (.dK []))(c:ρ q=col n 9):aR T n ρ { A with kn:=q } (upd H A.bt (.ins T.bot A.db (yS A.sp m q))) { st with prod:=m,kn:=0 }:=by have k:=eE (o:=.ins T.bot A.db (yS A.sp m q)) g h.jr;obtain⟨vs,h1,h2⟩:=h.rm;obtain⟨kvs,k1,k2,k3⟩:=h.okn;exact⟨kz k h.ca h.oa,h.ca,kz k h.jc h.jb,h.jc,kz k h.gQ h.fj,h.gQ,⟨vs,kz k h.jm h1,h2.keep k (by decide)⟩,h.jm,kz k h.jn h.tL,h.jn,ak,h.jr,kz k h.jN h.jD,h.jN,kz k h.cpu h.lu,h.cpu,kz k h.ju h.nR,h.ju,⟨[],kz k c e,(λp hp=>absurd hp (by simp)),aL _,wR⟩,c,h.ql,λi p q e1 e2=>let⟨a,b,c,d⟩:=h.opt i p q e1 e2;⟨kz k c a,kz k d b,c,d⟩⟩
theorem aR.iR{st:HS}(h:aR T n ρ A H st)(g:Gh ρ H)(ep:st.ah[i]?=some p0)(eq:A.qs[i]?=some q0)(e1:p1.nm=p0.nm)(e2:p1.row=p0.row)(nd:(st.ah.map (·.nm)).Nodup):aR T n ρ A (upd H q0.1 (.ins T.part q0.2.1 (dg p1 q0.2.2))) { st with ah:=st.ah.set i p1 }:=by have k:=eE (o:=.ins T.part q0.2.1 (dg p1 q0.2.2)) g (h.opt i p0 q0 ep eq).2.2.1;obtain⟨vs,h1,h2⟩:=h.rm;obtain⟨kvs,k1,k2,k3⟩:=h.okn;exact⟨kz k h.ca h.oa,h.ca,kz k h.jc h.jb,h.jc,by rw[Bu ep e1];exact kz k h.gQ h.fj,h.gQ,⟨vs,kz k h.jm h1,h2.keep k (by decide)⟩,h.jm,kz k h.jn h.tL,h.jn,kz k h.jr h.jq,h.jr,kz k h.jN h.jD,h.jN,kz k h.cpu h.lu,h.cpu,kz k h.ju h.nR,h.ju,⟨kvs,kz k h.jv k1,λp hp=>let⟨t,r,e,q⟩:=k2 p hp;⟨t,r,e,k.1 _ _ q⟩,k3⟩,h.jv,by rw[eX];exact h.ql,X5 h k nd ep eq e1 ak (Ak (h.opt i p0 q0 ep eq).2.2.1) (by rw[e2])⟩
theorem aR.X6{st:HS}(h:aR T n ρ A H st)(g:Gh ρ H)(l:List Int)(ep:st.ah[i]?=some p0)(eq:A.qs[i]?=some q0)(nd:(st.ah.map (·.nm)).Nodup):aR T n ρ A (upd H q0.2.2 (.lst (l.map V.int))) { st with ah:=st.ah.set i { p0 with row:=l } }:=by have k:=eE (o:=.lst (l.map V.int)) g (h.opt i p0 q0 ep eq).2.2.2;obtain⟨vs,h1,h2⟩:=h.rm;obtain⟨kvs,k1,k2,k3⟩:=h.okn;exact⟨kz k h.ca h.oa,h.ca,kz k h.jc h.jb,h.jc,by show _=some (HO.dK (cZ (st.ah.set i { p0 with row:=l }) A.qs));rw[Bu (p1:={ p0 with row:=l }) ep rfl];exact kz k h.gQ h.fj,h.gQ,⟨vs,kz k h.jm h1,h2.keep k (by decide)⟩,h.jm,kz k h.jn h.tL,h.jn,kz k h.jr h.jq,h.jr,kz k h.jN h.jD,h.jN,kz k h.cpu h.lu,h.cpu,kz k h.ju h.nR,h.ju,⟨kvs,kz k h.jv k1,λp hp=>let⟨t,r,e,q⟩:=k2 p hp;⟨t,r,e,k.1 _ _ q⟩,k3⟩,h.jv,by rw[eX];exact h.ql,Vw h nd ep eq ak (Ak (h.opt i p0 q0 ep eq).2.2.2)⟩
structure Txt(K:Fg)(T:TC):Prop where
 cH:qb K T.hold
 cP:qb K T.part
 cB:qb K T.bot
 hpl:fR K T.hold "places"
 hab:fR K T.hold "aboard"
 has:fR K T.hold "ashore"
 hnm:fR K T.hold "names"
 vA:fR K T.hold "bottom"
 Al:fR K T.hold "common"
 Am:fR K T.hold "purses"
 WM:fR K T.part "name"
 pow:fR K T.part "owner"
 xh:fR K T.part "worth"
 WN:fR K T.part "weight"
 Hq:fR K T.part "scale"
 KR:fR K T.part "row"
 bst:fR K T.bot "steps"
 KS:fR K T.bot "product"
 SK:fR K T.bot "known"
structure Wf(st:HS):Prop where
 um:st.own.Nodup
 yT:st.nms.Nodup
 fF:(st.ah.map (·.nm)).Nodup
 sub:∀p∈st.ah,p.nm∈st.nms
 rows:∀p∈st.ah,p.row.length=st.own.length
 ow:∀p∈st.ah,p.ow∈st.own
 f7:st.bU.length=st.own.length
 mz:st.bK.length=st.own.length
 fH:1<=st.prod
 m_:st.prod=st.stp.foldl (·*·) 1
 rH:∀s∈st.stp,2<=s
 kP:st.own.length<=100
 yU:st.nms.length<=1000
 qh:st.ah.length<=1000
 An:st.stp.length<=100
 vB:st.bD.length<=1000
 Hr:st.kn<=1000000
 big:Jm.Sz 8000 st.prod
 o6:∀c∈st.bU,0<=c/\c<=st.prod
 qi:∀p∈st.ah,1<=p.sc/\p.sc<=st.prod
 nK:∀p∈st.ah,∀r∈p.row,-st.prod<=r/\r<=st.prod
 o7:∀p∈st.ah,∀t∈List.zipWith (λr c=>p.sc*r+c) p.row st.bU,0<=t/\t<=st.prod
 jE:∀p∈st.ah,1<=p.wo/\0<=p.we
 FE:∀u∈st.bK,Jm.Sz 9000 u
structure HH(T:TC)(n:Nat)(ρ:fG)(A:HA)(H:Hp)(st:HS):Prop where
 g:Gh ρ H
 h:aR T n ρ A H st
 wf:Wf st
def xj(T:TC)(n:Nat)(ρ:fG)(A:HA)(H:Hp)(st:HS)(Q:Hp->Prop):Prop:=∀ρ' A' H',HH T n ρ' A' H' st->A'.a=A.a->Fr n ρ H ρ' H'->Q H'
def hs0:HS:=⟨[],[],[],[],[],1,0,[],[]⟩
theorem wf0:Wf hs0:=by refine⟨wR,wR,wR,?_,?_,?_,Z,Z,?_,Z,?_,?_,?_,?_,?_,?_,?_,?_,?_,?_,?_,?_,?_,?_⟩ <;> first|(intro _ h;exact absurd h (by simp[hs0]))|decide|(show Jm.Sz 8000 1;exact iC (by decide +kernel))
theorem O0:∀{l:List Str}{i:Nat}{o:Str},o∈l->dY (gD i l) (Sum.inr o)=some (.int ((i+l.idxOf o:Nat):Int))
 | [],_,_,h=>by simp at h
 | x::l,i,o,h=>by
  by_cases e:x=o
  .subst e;rw[show gD i (x::l)=(Sum.inr x,.int i)::gD (i+1) l from rfl,gT rfl];simp
  .rw [show gD i (x::l)=(Sum.inr x,.int i)::gD (i+1) l from rfl,fE (by intro z;exact e (sM z))];have hm:o∈l:=by
    rcases eZ.mp h with z|z
    .exact absurd z.symm e
    .exact z
   rw[O0 hm];have eb:(x==o)=false:=by simpa using e
   have:(x::l).idxOf o=l.idxOf o+1:=by rw[List.idxOf_cons,eb];rfl
   rw[this];show some (V.int ((i+1+l.idxOf o:Nat):Int))=some (V.int ((i+(l.idxOf o+1):Nat):Int));rw[show i+1+l.idxOf o=i+(l.idxOf o+1)from by omega]
theorem qj:∀{l:List Str}{i:Nat}{o:Str},o∉l->dY (gD i l) (Sum.inr o)=none
 | [],_,_,_=>rfl
 | x::l,i,o,h=>by rw[show gD i (x::l)=(Sum.inr x,.int i)::gD (i+1) l from rfl,fE (λz=>h (by rw[<-sM z];exact cQ))];exact qj λm=>h (cR _ m)
theorem qm:∀(l:List Str)(i:Nat),(gD i l).length=l.length
 | [],_=>rfl
 | _::l,i=>by rw[show ∀x,gD i (x::l)=(Sum.inr x,.int i)::gD (i+1) l from λ_=>rfl,iY,iY,qm l]
theorem KU:∀(l:List Str)(i:Nat)(o:Str),gD i (l++[o])=gD i l++[(Sum.inr o,.int ((i+l.length:Nat):Int))]
 | [],i,o=>rfl
 | x::l,i,o=>by
  show(Sum.inr x,V.int i)::gD (i+1) (l++[o])=_;rw[KU l (i+1) o];show _=(Sum.inr x,V.int i)::(gD (i+1) l++_)
  rw[iY,show i+1+l.length=i+(l.length+1)from by omega]
theorem KW:∀(l:List Str)(i:Nat),(gD i l).map (λp=>kV p.1)=l.map V.str
 | [],_=>rfl
 | x::l,i=>by show kV (Sum.inr x)::(gD (i+1) l).map _=V.str x::l.map V.str;rw[KW l];rfl
variable {qs:List (Addr×Addr×Addr)}
theorem yd{ps:List Pt}{q:Addr×Addr×Addr}(h1:ps[i]?=some p)(h2:qs[i]?=some q):(cZ ps qs)[i]?=some (Sum.inr p.nm,.ref q.1):=by unfold cZ;rw[Qj,h1,h2]
theorem ye{ps:List Pt}(h:qs.length=ps.length):(cZ ps qs).length=ps.length:=by unfold cZ;rw[jX,h,yH]
theorem u9:∀{ps:List Pt}{qs:List (Addr×Addr×Addr)}{i:Nat}{p:Pt}{q:Addr×Addr×Addr},(ps.map (·.nm)).Nodup->ps[i]?=some p->qs[i]?=some q->dY (cZ ps qs) (Sum.inr p.nm)=some (.ref q.1)
 | [],_,_,_,_,_,h,_=>by simp at h
 | _::_,[],_,_,_,_,_,h=>by simp at h
 | a::ps,b::qs,0,p,q,_,h1,h2=>by
  have e1:a=p:=by simpa using h1
  have e2:b=q:=by simpa using h2
  subst e1 e2;exact gT rfl
 | a::ps,b::qs,i+1,p,q,nd,h1,h2=>by
  have nd':=gP.mp (show(a.nm::ps.map (·.nm)).Nodup from nd);have D3:ps[i]?=some p:=by simpa using h1
  rw[show cZ (a::ps) (b::qs)=(Sum.inr a.nm,.ref b.1)::cZ ps qs from rfl,fE (λz=>nd'.1 (aX.mpr ⟨p,aY D3,(sM z).symm⟩))];exact u9 nd'.2 D3 (by simpa using h2)
theorem vC:∀{ps:List Pt}{qs:List (Addr×Addr×Addr)}{x:Str},(∀p∈ps,p.nm≠x)->dY (cZ ps qs) (Sum.inr x)=none
 | [],_,_,_=>rfl
 | _::_,[],_,_=>rfl
 | a::ps,b::qs,x,h=>by rw[show cZ (a::ps) (b::qs)=(Sum.inr a.nm,.ref b.1)::cZ ps qs from rfl,fE (λz=>h a cQ (sM z))];exact vC λp hp=>h p (cR _ hp)
theorem Vx{ps:List Pt}(h:qs.length=ps.length)(p:Pt)(q:Addr×Addr×Addr):cZ (ps++[p]) (qs++[q])=cZ ps qs++[(Sum.inr p.nm,.ref q.1)] :=by unfold cZ;rw[List.zipWith_append h.symm];rfl
theorem Ao{l:List Str}(h:x∉l):dY (Aj l) (Sum.inr x)=none:=by
 unfold Aj
 induction l with
 | nil=>rfl
 | cons a l ih=>rw[bF,fE (λz=>h (by rw[<-sM z];exact cQ))];exact ih λm=>h (cR _ m)
theorem KY{l:List Str}(h:x∈l):dY (Aj l) (Sum.inr x)=some (.bl true):=by
 unfold Aj
 induction l with
 | nil=>simp at h
 | cons a l ih=>
  rw[bF];by_cases e:a=x
  .exact gT (by rw[e])
  .rw [fE (λz=>e (sM z))];exact ih ((eZ.mp h).resolve_left λz=>e z.symm)
theorem aR.find{st:HS}(h:aR T n ρ A H st)(e:st.ah[i]?=some p):∃q,A.qs[i]?=some q/\H q.1=some (.ins T.part q.2.1 (dg p q.2.2))/\H q.2.2=some (.lst (p.row.map V.int))/\ρ q.1=some (n,20,p.nm)/\ρ q.2.2=some (n,21,p.nm):=by
 have hi:i<A.qs.length:=by rw[h.ql];exact(dj.mp e).1
 exact⟨A.qs[i],a_ hi,h.opt i p _ e (a_ hi)⟩
def gI(st:HS)(o:Str):HS:={ st with own:=st.own++[o],bU:=st.bU++[0],bK:=st.bK++[0],ah:=st.ah.map λp=>{ p with row:=p.row++[0] } }
def aM(st:HS)(p:Pt):List Int:=List.zipWith (λr c=>p.sc*r+c) p.row st.bU
def lO(st:HS)(tops:List Int):List Int:=List.zipWith (λt c=>t-c) tops st.bU
def yV(st:HS)(p:Pt):HS:={ st with ah:=st.ah++[p],nms:=st.nms++[p.nm] }
def xm(st:HS)(x o:Str)(wo we:Int):HS:=yV st ⟨x,o,wo,we,1,lO st ((List.replicate st.own.length 0).set (st.own.idxOf o) st.prod)⟩
def aH(st:HS):Int:=(st.ah.map (·.wo)).sum
def mC(st:HS)(p:Pt):List (Str×Rat):=(List.zip st.own (aM st p)).filterMap λx=>if 0<x.2 then some (x.1,Jm.fr x.2 st.prod) else none
def KZ(n:Nat)(q1 q2:Addr)(ρ:fG)(H:Hp)(ρ':fG)(H':Hp):Prop:=∀b o,H b=some o->(∀t x,ρ b≠some (n,t,x))->b≠q1->b≠q2->H' b=some o/\ρ' b=ρ b
theorem KZ.trans{ρ1 ρ2:fG}(a:KZ n q1 q2 ρ H ρ1 H1)(b:Fr n ρ1 H1 ρ2 H2):KZ n q1 q2 ρ H ρ2 H2:=λc o h k x y=>by obtain⟨h1,e1⟩:=a c o h k x y;obtain⟨h2,e2⟩:=b c o h1 (by rw[e1];exact k);exact⟨h2,e2.trans e1⟩
theorem KZ.fr{ρ1 ρ2:fG}(b:KZ n q1 q2 ρ1 H1 ρ2 H2)(a:Fr n ρ H ρ1 H1)(h1:H q1=none)(h2:H q2=none):Fr n ρ H ρ2 H2:=λc o h k=>by obtain⟨e1,e2⟩:=a c o h k;obtain⟨e3,e4⟩:=b c o e1 (by rw[e2];exact k) (aJ h h1) (aJ h h2);exact⟨e3,e4.trans e2⟩
def isNm(o:Str):Bool:=isName o.cps.toList
inductive aav(T:TC)(vs:List V)(H:Hp)(Q:VK)(E:XK):Prop
 |mk(p dx:_)(_:vs=[.ref p])(_:H p=some (.ins T.bot dx []))(_:∀sp kn H',H sp=none->H kn=none->sp≠kn->(∀b o,H b=some o->b≠p->H' b=some o)->H' p=some (.ins T.bot dx (yS sp 1 kn))->H' sp=some (.lst [])->H' kn=some (.dK [])->Q .cy H')
def O1(T:TC):Sp:=bx (aav T)
inductive aaw(T:TC)(K:Fg)(vs:List V)(H:Hp)(Q:VK)(E:XK):Prop
 |mk(p dx l:Addr)(pt:Pt)(_:vs=[.ref p,.str pt.nm,.str pt.ow,.int pt.wo,.int pt.we,.int pt.sc,.ref l])(_:H p=some (.ins T.part dx []))(_:aD K H l (pt.row.map V.int))(_:∀r H',H r=none->(∀b o,H b=some o->b≠p->H' b=some o)->H' p=some (.ins T.part dx (dg pt r))->H' r=some (.lst (pt.row.map V.int))->Q .cy H')
def FF(T:TC)(K:Fg):Sp:=bx (aaw T K)
inductive aax(T:TC)(vs:List V)(H:Hp)(Q:VK)(E:XK):Prop
 |mk(p dx ρ n:_)(_:vs=[.ref p])(_:H p=some (.ins T.hold dx []))(_:Gh ρ H)(_:ρ p=none)(_:∀ρ' A H',A.a=p->HH T n ρ' A H' hs0->(∀b o,H b=some o->b≠p->H' b=some o/\ρ' b=ρ b)->Q .cy H')
def O2(T:TC):Sp:=bx (aax T)
inductive aay(T:TC)(vs:List V)(H:Hp)(Q:VK)(E:XK):Prop
 |mk(n ρ A st o:_)(_:vs=[.ref A.a,.str o])(_:aR T n ρ A H st)(_:o∈st.own)(_:Q (.int (st.own.idxOf o:Int)) H)
def u_(T:TC):Sp:=bx (aay T)
inductive X7(T:TC)(vs:List V)(H:Hp)(Q:VK)(E:XK):Prop
 |mk(n ρ A st:_)(i:Nat)(p:Pt)(q:Addr×Addr×Addr)(_:vs=[.ref A.a,.str p.nm])(_:aR T n ρ A H st)(_:(st.ah.map (·.nm)).Nodup)(_:st.ah[i]?=some p)(_:A.qs[i]?=some q)(_:Q (.ref q.1) H)
def Cy(T:TC):Sp:=bx (X7 T)
inductive SM(T:TC)(vs:List V)(H:Hp)(Q:VK)(E:XK):Prop
 |mk(n ρ A st x:_)(_:vs=[.ref A.a,.str x])(_:aR T n ρ A H st)(_:isNm x=true)(_:x∉st.nms)(_:∀H',aN H H'->Q .cy H')
def D4(T:TC):Sp:=bx (SM T)
inductive age(T:TC)(K:Fg)(vs:List V)(H:Hp)(Q:VK)(E:XK):Prop
 |mk(n ρ A st l:_)(tops:List Int)(_:vs=[.ref A.a,.ref l])(_:aR T n ρ A H st)(_:aD K H l (tops.map V.int))(_:tops.length=st.bU.length)(_:tops.length<=1000)(_:∀r H',aN H H'->H r=none->H' r=some (.lst ((lO st tops).map V.int))->Q (.ref r) H')
def QX(T:TC)(K:Fg):Sp:=bx (age T K)
inductive aaz(T:TC)(vs:List V)(H:Hp)(Q:VK)(E:XK):Prop
 |mk(n ρ A st:_)(i:Nat)(p:Pt)(q:Addr×Addr×Addr)(_:vs=[.ref A.a,.ref q.1])(_:aR T n ρ A H st)(_:Wf st)(_:st.ah[i]?=some p)(_:A.qs[i]?=some q)(_:∀r H',aN H H'->H r=none->H' r=some (.lst ((aM st p).map V.int))->Q (.ref r) H')
def Bv(T:TC):Sp:=bx (aaz T)
inductive ac8(T:TC)(vs:List V)(H:Hp)(Q:VK)(E:XK):Prop
 |mk(n ρ A st:_)(q:Addr×Addr×Addr)(p:Pt)(_:vs=[.ref A.a,.ref q.1])(_:HH T n ρ A H st)(_:H q.1=some (.ins T.part q.2.1 (dg p q.2.2)))(_:H q.2.2=some (.lst (p.row.map V.int)))(_:ρ q.1=none)(_:ρ q.2.2=none)(_:p.nm∉st.nms)(_:Wf (yV st p))(_:∀ρ' A' H',HH T n ρ' A' H' (yV st p:_)->A'.a=A.a->KZ n q.1 q.2.2 ρ H ρ' H'->Q .cy H')
def K0(T:TC):Sp:=bx (ac8 T)
inductive aaA(T:TC)(vs:List V)(H:Hp)(Q:VK)(E:XK):Prop
 |mk(n ρ A st o:_)(_:vs=[.ref A.a,.str o])(_:HH T n ρ A H st)(_:isNm o=true)(_:o∉st.own)(_:st.own.length<100)(_:xj T n ρ A H (gI st o:_) λH'=>Q .cy H')
def FG(T:TC):Sp:=bx (aaA T)
inductive ac9(T:TC)(vs:List V)(H:Hp)(Q:VK)(E:XK):Prop
 |mk(n ρ A st x o wo we:_)(_:vs=[.ref A.a,.str x,.str o,.int wo,.int we])(_:HH T n ρ A H st)(_:isNm x=true)(_:x∉st.nms)(_:o∈st.own)(_:1<=wo)(_:0<=we)(_:st.nms.length<1000)(_:st.ah.length<1000)(_:xj T n ρ A H (xm st x o wo we:_) λH'=>Q .cy H')
def SN(T:TC):Sp:=bx (ac9 T)
inductive aaB(T:TC)(vs:List V)(H:Hp)(Q:VK)(E:XK):Prop
 |mk(n ρ A st:_)(_:vs=[.ref A.a])(_:aR T n ρ A H st)(_:st.ah.length<=1000)(_:∀H',aN H H'->Q (.int (aH st)) H')
def Bw(T:TC):Sp:=bx (aaB T)
inductive aaC(T:TC)(vs:List V)(H:Hp)(Q:VK)(E:XK):Prop
 |mk(bt db sp kn:Addr)(stp:List Int)(prod top:Int)(_:vs=[.ref bt,.int top])(_:H bt=some (.ins T.bot db (yS sp prod kn)))(_:H sp=some (.lst (stp.map V.int)))(_:prod=stp.foldl (·*·) 1)(_:(∀s∈stp,2<=s))(_:Jm.Sz 8000 prod)(_:∀r H',aN H H'->H' r=some (nJ (Jm.fr top prod))->Q (.ref r) H')
def yf(T:TC):Sp:=bx (aaC T)
inductive X8(T:TC)(vs:List V)(H:Hp)(Q:VK)(E:XK):Prop
 |mk(bt db sp kn:Addr)(stp:List Int)(prod top:Int)(kvs:List (Key×V))(_:vs=[.ref bt,.int top])(_:H bt=some (.ins T.bot db (yS sp prod kn)))(_:H sp=some (.lst (stp.map V.int)))(_:prod=stp.foldl (·*·) 1)(_:(∀s∈stp,2<=s))(_:Jm.Sz 8000 prod)(_:H kn=some (.dK kvs))(_:KP H kvs prod)(_:kvs.length<10000000)(_:(kvs.map (·.1)).Nodup)(_:∀r H' kvs',(∀b o,H b=some o->b≠kn->H' b=some o)->H' kn=some (.dK kvs')->KP H' kvs' prod->kvs'.length<=kvs.length+1->(kvs'.map (·.1)).Nodup->H' r=some (nJ (Jm.fr top prod))->Q (.ref r) H')
def K1(T:TC):Sp:=bx (X8 T)
theorem oZ.snoc{l:List (Str×Rat)}{q:Rat}(h:oZ H vs l)(e:H r=some (.tup [.str x,.ref f]))(e2:H f=some (nJ q)):oZ H (vs++[.ref r]) (l++[(x,q)]):=by
 induction h with
 | nil=>exact .cons e e2 .nil
 | cons a b _ ih=>exact .cons a b ih
theorem rJ{p:Addr}(h:H p=none\/∃u,H p=some u/\isTup u=false):∀b xs,H b=some (.tup xs)->upd H p o b=some (.tup xs):=λb xs e=>by
 rw[az (λz=>?_)]
 .exact e
 .rw [z]at e;rcases h with h|⟨u,h,t⟩
  .rw [h]at e;cases e
  .rw [h]at e;cases e;cases t
theorem K2(h:isNm x=true):x.cps.toList.length<=100000:=by unfold isNm isName at h;have:=dW (nH.mp (nH.mp h).1).2;omega
theorem vD{o:Obj}(e:H d=some (.dK kvs))(s:aN (upd H d (.gh o (.dK kvs))) H1):aN H (upd H1 d (.dK kvs)):=λb u q=>by
 by_cases h:b=d
 .rw [h,e]at q;cases q;rw[h];exact ak
 .rw [az h];exact s b u (by rw[az h];exact q)
theorem fJ{b:Addr}{o:Obj}{u:HO}(e:H d=some (.dK kvs))(q:H b=some u)(h:∀k,u ≠ .dK k):upd H d (.gh o (.dK kvs)) b=some u:=by rw[az (λz=>by rw[z,e]at q;cases q;exact h _ rfl)];exact q
theorem rK{b:Addr}{o:Obj}(e:H d=some (.dK kvs))(q:upd H d (.gh o (.dK kvs)) b=none):H b=none:=by
 by_cases h:b=d
 .rw [h,ak]at q;cases q
 .rw [az h]at q;exact q
theorem aN.tups(s:aN H H'):∀b xs,H b=some (.tup xs)->H' b=some (.tup xs):=λb xs h=>s b _ h
theorem take_snoc{α:Type}{l:List α}{x:α}(h:l[i]?=some x):l.take (i+1)=l.take i++[x] :=by rw[List.take_add_one,h];rfl
theorem mD{α β γ:Type}(f:α->β->γ){xs:List α}{ys:List β}{x:α}{y:β}(h1:xs[i]?=some x)(h2:ys[i]?=some y):List.zipWith f (xs.take (i+1)) (ys.take (i+1))=List.zipWith f (xs.take i) (ys.take i)++[f x y] :=by have l1:=(dj.mp h1).1;have l2:=(dj.mp h2).1;rw[take_snoc h1,take_snoc h2,List.zipWith_append (by rw[t8,t8];omega)];rfl
theorem gO{v:V}(h:(l.map V.int)[i]?=some v):∃z,v =.int z/\l[i]?=some z:=by rw[bQ]at h;obtain⟨z,hz,rfl⟩:=mj.mp h;exact⟨z,Z,hz⟩
theorem HH.mono{st:HS}(h:HH T n ρ A H st)(s:aN H H'):HH T n ρ A H' st:=⟨h.g.same s,h.h.mono s,h.wf⟩
theorem K3{u:HO}(c:ρ a=none)(h:H a=some u)(t:isTup u=false):Kp n ρ ρ H (upd H a o) ts:=⟨rJ (.inr ⟨u,h,t⟩),λb x y w _ hc e=>⟨by rw[az (λz=>by rw[z,c]at hc;cases hc)];exact e,hc⟩⟩
theorem HH.D5{st:HS}{u:HO}(h:HH T n ρ A H st)(c:ρ a=none)(e:H a=some u)(t:isTup u=false)(t2:isTup o=false):HH T n ρ A (upd H a o) st:=⟨h.g.wr t2,h.h.same (K3 c e t),h.wf⟩
theorem Fr.new(f:Fr n ρ H ρ' H')(h:H a=none):Fr n ρ H ρ' (upd H' a o):=λb u e k=>by rw[az (aJ e h)];exact f b u e k
theorem Hs{α β γ:Type}(f:α->β->γ){xs:List α}{ys:List β}(h:xs.length=ys.length)(x:α)(y:β):List.zipWith f (xs++[x]) (ys++[y])=List.zipWith f xs ys++[f x y] :=by rw[List.zipWith_append h];rfl
theorem FH{st:HS}(w:Wf st){o:Str}(h:o∉st.own)(hl:st.own.length<100):Wf (gI st o):=by
 have P:∀p∈(gI st o).ah,∃p0∈st.ah,p={ p0 with row:=p0.row++[0] }:=λp hp=>by obtain⟨p0,h0,rfl⟩:=aX.mp (show p∈st.ah.map _ from hp);exact⟨p0,h0,Z⟩
 have p1:=w.fH;refine⟨?_,w.yT,?_,λp hp=>?_,λp hp=>?_,λp hp=>?_,?_,?_,w.fH,w.m_,w.rH,?_,w.yU,?_,w.An,w.vB,w.Hr,w.big,λc hc=>?_,λp hp=>?_,λp hp r hr=>?_,λp hp t ht=>?_,λp hp=>?_,λu hu=>?_⟩
 .exact m7 w.um h
 .show ((st.ah.map λp=>{ p with row:=p.row++[0] }).map (·.nm)).Nodup;rw[fu];exact w.fF
 .obtain ⟨p0,h0,rfl⟩:=P p hp;exact w.sub p0 h0
 .obtain ⟨p0,h0,rfl⟩:=P p hp;show(p0.row++[0]).length=(st.own++[o]).length;rw[c7,c7,w.rows p0 h0];rfl
 .obtain ⟨p0,h0,rfl⟩:=P p hp;exact Ck _ (w.ow p0 h0)
 .show (st.bU++[0]).length=(st.own++[o]).length;rw[c7,c7,w.f7];rfl
 .show (st.bK++[0]).length=(st.own++[o]).length;rw[c7,c7,w.mz];rfl
 .show (st.own++[o]).length<=100;rw[c7];exact hl
 .show (st.ah.map _).length<=1000;rw[aE];exact w.qh
 .rcases dI.mp (show c∈st.bU++[0]from hc)with z|z
  .exact w.o6 c z
  .rw [dS.mp z];exact⟨dZ _,by show(0:Int)<=st.prod;omega⟩
 .obtain ⟨p0,h0,rfl⟩:=P p hp;exact w.qi p0 h0
 .obtain ⟨p0,h0,rfl⟩:=P p hp;rcases dI.mp (show r∈p0.row++[0]from hr)with z|z
  .exact w.nK p0 h0 r z
  .rw [dS.mp z];show -st.prod<=0/\0<=st.prod;omega
 .obtain ⟨p0,h0,rfl⟩:=P p hp;have el:p0.row.length=st.bU.length:=by rw[w.rows p0 h0,w.f7]
  have ht:t∈List.zipWith (λr c=>p0.sc*r+c) (p0.row++[0]) (st.bU++[0]):=ht;rw[Hs _ el _ _]at ht;rcases dI.mp ht with z|z
  .exact w.o7 p0 h0 t z
  .rw [dS.mp z];show 0<=p0.sc*0+0/\p0.sc*0+0<=st.prod;omega
 .obtain ⟨p0,h0,rfl⟩:=P p hp;exact w.jE p0 h0
 .rcases dI.mp (show u∈st.bK++[0]from hu)with z|z
  .exact w.FE u z
  .rw [dS.mp z];exact iC (by decide +kernel)
theorem O3{st:HS}(w:Wf st)(h1:p.nm∉st.nms)(h2:st.nms.length<1000)(h3:st.ah.length<1000)(h4:p.row.length=st.own.length)(h5:p.ow∈st.own)(h6:1<=p.sc/\p.sc<=st.prod)(h7:∀r∈p.row,-st.prod<=r/\r<=st.prod)(h8:∀t∈List.zipWith (λr c=>p.sc*r+c) p.row st.bU,0<=t/\t<=st.prod)(h9:1<=p.wo/\0<=p.we):Wf (yV st p):=by
 have P:∀{M:Pt->Prop},(∀x∈st.ah,M x)->M p->∀x∈st.ah++[p],M x:=λa b x hx=>by
  rcases dI.mp hx with z|z
  .exact a x z
  .rw [dS.mp z];exact b
 refine⟨w.um,m7 w.yT h1,?_,P (λx hx=>Ck _ (w.sub x hx)) (jW _ (dS.mpr rfl)),P w.rows h4,P w.ow h5,w.f7,w.mz,w.fH,w.m_,w.rH,w.kP,?_,?_,w.An,w.vB,w.Hr,w.big,w.o6,P w.qi h6,P w.nK h7,P w.o7 h8,P w.jE h9,w.FE⟩
 . show((st.ah++[p]).map (·.nm)).Nodup
   rw[bL]
   refine m7 w.fF λm=>?_
   obtain⟨x,hx,e⟩:=aX.mp m
   have e:x.nm=p.nm:=e
   exact h1 (by rw[<-e];exact w.sub x hx)
 . show(st.nms++[p.nm]).length<=1000
   rw[c7];exact h2
 . show(st.ah++[p]).length<=1000
   rw[c7];exact h3
theorem vE{α β γ:Type}{f:α->β->γ}{t:γ}:∀{xs:List α}{ys:List β},t∈List.zipWith f xs ys->∃x∈xs,∃y∈ys,t=f x y
 | [],_,h=>by simp at h
 | _::_,[],h=>by simp at h
 | x::xs,y::ys,h=>by
  rcases eZ.mp (show t∈f x y::List.zipWith f xs ys from h)with e|m
  .exact ⟨x,cQ,y,cQ,e⟩
  .obtain ⟨a,ha,b,hb,e⟩:=vE m;exact⟨a,cR _ ha,b,cR _ hb,e⟩
theorem Cz:∀{ts cs:List Int},List.zipWith (λr c=>1*r+c) (List.zipWith (λt c=>t-c) ts cs) cs=ts.take cs.length
 | [],_=>by simp
 | _::_,[]=>by simp
 | t::ts,c::cs=>by show(1*(t-c)+c)::List.zipWith _ (List.zipWith _ ts cs) cs=t::ts.take cs.length;rw[Cz];congr 1;omega
theorem yW{b t:Int}(h:t∈(List.replicate n 0).set i b):t=0\/t=b:=by
 rcases JR h with z|z
 .exact .inl (JS z)
 .exact .inr z
variable {wo we:Int}
theorem O4{st:HS}(w:Wf st){o:Str}(h1:x∉st.nms)(h2:st.nms.length<1000)(h3:st.ah.length<1000)(ho:o∈st.own)(h4:1<=wo)(h5:0<=we):Wf (xm st x o wo we):=by
 have p1:=w.fH;refine O3 w h1 h2 h3 ?_ ho ⟨dZ 1,w.fH⟩ (λr hr=>?_) (λt ht=>?_) ⟨h4,h5⟩
 .show (List.zipWith _ ((List.replicate st.own.length 0).set _ _) st.bU).length=_;rw[jX,eX,iW,w.f7,yH]
 .obtain ⟨t,ht,c,hc,rfl⟩:=vE (show r∈List.zipWith _ _ st.bU from hr);have:=w.o6 c hc;rcases yW ht with rfl|rfl <;> omega
 .have e:List.zipWith (λr c=>1*r+c) (lO st ((List.replicate st.own.length 0).set (st.own.idxOf o) st.prod)) st.bU=_:=Cz;have ht:t∈List.zipWith (λr c=>1*r+c) (lO st ((List.replicate st.own.length 0).set (st.own.idxOf o) st.prod)) st.bU:=ht;rw[e]at ht;rcases yW (List.mem_of_mem_take ht)with rfl|rfl <;> omega
theorem kQ{b:Addr}{u:HO}(h:a≠b):upd (upd H a o) b u=upd (upd H b u) a o:=by
 funext c;unfold upd;by_cases e1:c=b
 .rw [ay e1,av (λz=>h (z.symm.trans e1)),ay e1]
 .rw [av e1];by_cases e2:c=a
  .rw [ay e2,ay e2]
  .rw [av e2,av e2,av e1]
theorem yX(h:H a=some o):upd H a o=H:=by
 funext c;unfold upd;by_cases e:c=a
 .rw [ay e,e,h]
 .rw [av e]
theorem K4{α:Type}(g:α->α){l:List α}{p:α}(h:l[i]?=some p):((l.take i).map g++l.drop i)[i]?=some p:=by
 have hi:=(dj.mp h).1;have e:((l.take i).map g).length=i:=by rw[aE,t8];omega
 rw[De (by omega),e,wU,List.getElem?_drop];exact h
theorem K5{α:Type}(g:α->α){l:List α}{p:α}(h:l[i]?=some p):((l.take i).map g++l.drop i).set i (g p)=(l.take (i+1)).map g++l.drop (i+1):=by
 have hi:=(dj.mp h).1;have e:((l.take i).map g).length=i:=by rw[aE,t8];omega
 have ep:l[i]=p:=by rw[a_ hi]at h;exact gH h
 rw[List.set_append_right _ _ (by omega),e,wU,Qa hi,J3,take_snoc h,bL,J4];rfl
theorem rL{α β:Type}(g:α->α)(f:α->β)(hf:∀x,f (g x)=f x)(l:List α)(i:Nat):((l.take i).map g++l.drop i).map f=l.map f:=by rw[bL,fu,show f ∘ g=f from funext hf,<-bL,List.take_append_drop]
theorem pS{ps ps':List Pt}(h:ps.map (·.nm)=ps'.map (·.nm)):cZ ps qs=cZ ps' qs:=by
 have:∀{ps:List Pt},cZ ps qs=List.zipWith (λ(x:Str) q=>((Sum.inr x:Key),V.ref q.1)) (ps.map (·.nm)) qs:=λ{ps}=>by unfold cZ;rw[List.zipWith_map_left]
 rw[this,this,h]
structure jO(p:Addr)(H:Hp)(ρ:fG)(H':Hp)(ρ':fG)(l:List (Addr×HO×qg)):Prop where
 m:∀e∈l,H' e.1=some e.2.1/\ρ' e.1=some e.2.2/\e.1≠p
 k:∀b o,H b=some o->b≠p->H' b=some o/\ρ' b=ρ b
 g:Gh ρ' H'
 pp:∃u,H' p=some u
theorem jO.new{p:Addr}{l:List (Addr×HO×qg)}{c:qg}(h:jO p H ρ H' ρ' l)(ha:H' a=none)(t:isTup o=false):jO p H ρ (upd H' a o) (bO ρ' a c) ((a,o,c)::l):=by
 obtain⟨u,hu⟩:=h.pp;refine⟨λe he=>?_,λb w hb hp=>?_,(h.g.alloc ha).color ak t,u,by rw[az (aJ hu ha)];exact hu⟩
 .rcases eZ.mp he with rfl|he
  .exact ⟨ak,cY,λz=>by rw[show a=p from z,hu]at ha;cases ha⟩
  .obtain ⟨x,y,z⟩:=h.m e he;have:e.1≠a:=aJ x ha;rw[az this,b7 this];exact⟨x,y,z⟩
 .obtain ⟨x,y⟩:=h.k b w hb hp;have:b≠a:=aJ x ha;rw[az this,b7 this];exact⟨x,y⟩
theorem jO.wr{p:Addr}{l:List (Addr×HO×qg)}{u:HO}(h:jO p H ρ H' ρ' l)(t:isTup u=false):jO p H ρ (upd H' p u) ρ' l:=by
 refine⟨λe he=>?_,λb w hb hp=>?_,h.g.wr t,u,ak⟩
 .obtain ⟨x,y,z⟩:=h.m e he;rw[az z];exact⟨x,y,z⟩
 .obtain ⟨x,y⟩:=h.k b w hb hp;rw[az hp];exact⟨x,y⟩
theorem jO.same{p:Addr}{D6:Hp}{l:List (Addr×HO×qg)}(h:jO p H ρ H' ρ' l)(s:aN H' D6):jO p H ρ D6 ρ' l:=by obtain⟨u,hu⟩:=h.pp;exact⟨λe he=>let⟨x,y,z⟩:=h.m e he;⟨s _ _ x,y,z⟩,λb w hb hp=>let⟨x,y⟩:=h.k b w hb hp;⟨s _ _ x,y⟩,h.g.same s,u,s _ _ hu⟩
theorem jO.add{p:Addr}{H0:Hp}{ρ0:fG}{l l0:List (Addr×HO×qg)}{c:qg}(h:jO p H ρ H' ρ' l)(ha:H' a=some o)(t:isTup o=false)(h0:jO p H ρ H0 ρ0 l0)(hn:H0 a=none)(hl:∀e∈l,e.1≠a):jO p H ρ H' (bO ρ' a c) ((a,o,c)::l):=by
 refine⟨λe he=>?_,λb w hb hp=>?_,h.g.color ha t,h.pp⟩
 .rcases eZ.mp he with rfl|he
  .obtain ⟨u,hu⟩:=h0.pp;exact⟨ha,cY,λz=>by rw[show a=p from z,hu]at hn;cases hn⟩
  .obtain ⟨x,y,z⟩:=h.m e he;rw[b7 (hl e he)];exact⟨x,y,z⟩
 .obtain ⟨x,y⟩:=h.k b w hb hp;obtain⟨x0,_⟩:=h0.k b w hb hp;rw[b7 (aJ x0 hn)];exact⟨x,y⟩
theorem K6:∀(l:List Int)(a:Int),l.foldl (·*·) a=a*l.foldl (·*·) 1
 | [],a=>by simp
 | s::l,a=>by rw[j8,K6 l (a*s),j8,K6 l (1*s),Int.one_mul,iG]
theorem FI(s:Int)(l:List Int):(s::l).foldl (·*·) 1=s*l.foldl (·*·) 1:=by rw[j8,K6,Int.one_mul]
theorem X_(s:Int)(l:List Int):(l++[s]).foldl (·*·) 1=l.foldl (·*·) 1*s:=by rw[Fj];rfl
theorem K7:∀{l:List Int},(∀s∈l,2<=s)->1<=l.foldl (·*·) 1
 | [],_=>by decide
 | s::l,h=>by rw[FI];have h1:=h s cQ;have h2:=K7 (l:=l) λx hx=>h x (cR _ hx);have:=Int.mul_le_mul (a:=1) (b:=1) (c:=s) (d:=l.foldl (·*·) 1) (by omega) h2 (by decide) (by omega);omega
theorem WO:∀{l:List Int}{s:Int},(∀s∈l,2<=s)->s∈l->s<=l.foldl (·*·) 1
 | [],_,_,h=>by simp at h
 | a::l,s,h,m=>by
  rw[FI];have h1:=h a cQ;have h2:=K7 (l:=l) λx hx=>h x (cR _ hx);rcases eZ.mp m with rfl|m
  .have:=GQ h2 (by omega:0<=s);omega
  .have h3:=WO (λx hx=>h x (cR _ hx)) m;have:=OG (by omega:1<=a) (by omega:0<=l.foldl (·*·) 1);omega
theorem SQ{t d s:Int}(hd:0<d)(hs:0<s)(c:Jm.cf t d=1):Jm.cf (t / Jm.cf t s) (d*(s / Jm.cf t s))=1/\0<d*(s / Jm.cf t s):=by
 have gp:0<Jm.cf t s:=Jm.DF t s (.inr hs);obtain⟨u,hu⟩:=Jm.sQ t s;obtain⟨v,hv⟩:=Jm.qc t s;generalize eg:Jm.cf t s=g at *;have e1:t / g=u:=by rw[hu,E9 _ (by omega)]
 have e2:s / g=v:=by rw[hv,E9 _ (by omega)]
 have vp:0<v:=by
  rcases Dp 0 v with z|z
  .exact z
  .have:=GQ z (by omega:0<=g);omega
 rw[e1,e2];have c0:Nat.Coprime t.natAbs d.natAbs:=by unfold Jm.cf at c;exact_mod_cast c
 have c1:Nat.Coprime u.natAbs d.natAbs:=Nat.Coprime.coprime_dvd_left ⟨g.natAbs,by rw[hu,Dg,Nat.mul_comm]⟩ c0;have c2:Nat.Coprime u.natAbs v.natAbs:=by
  have hg:Int.gcd t s=g.natAbs:=by unfold Jm.cf at eg;omega
  have WQ:Nat.gcd t.natAbs s.natAbs=g.natAbs:=hg;have:=Nat.coprime_div_gcd_div_gcd (m:=t.natAbs) (n:=s.natAbs) (by rw[WQ];omega);rw[WQ]at this;have gn:0<g.natAbs:=by omega
  rw[hu,hv,Dg,Dg,Nat.mul_div_cancel_left _ gn,Nat.mul_div_cancel_left _ gn]at this;exact this
 refine⟨?_,wX hd vp⟩;have:=Nat.Coprime.mul_right c1 c2;rw[<-Dg]at this;unfold Jm.cf;exact_mod_cast this
theorem Vy{κ:Type}[DecidableEq κ]{kvs:List (κ×V)}{k:κ}{v:V}(h:dY kvs k=some v):(k,v)∈kvs:=by unfold dY at h;obtain⟨p,hp,rfl⟩:=mj.mp h;have:=List.find?_some hp;have e:p.1=k:=dW this;rw[<-e];exact List.mem_of_find?_eq_some hp
theorem aR.Vz{st:HS}(h:aR T n ρ A H st)(k:∀b o,H b=some o->b≠A.kn->H' b=some o)(e1:H' A.kn=some (.dK kvs))(e2:KP H' kvs st.prod)(e3:kvs.length<=m)(e4:(kvs.map (·.1)).Nodup):aR T n ρ A H' { st with kn:=m }:=by
 obtain⟨kv0,k0,_⟩:=h.okn;have z:=λ{b:Addr}{t:Nat}{x:Str}{o:HO}(u:t≠9)(c:ρ b=some (n,t,x))(e:H b=some o)=>k b o e (DZ c h.jv (λw=>by cases w;exact u rfl));have tp:∀b xs,H b=some (.tup xs)->H' b=some (.tup xs):=λb xs e=>k b _ e (jC e k0 (by intro w;cases w));obtain⟨vs,h1,h2⟩:=h.rm;have kp:Kp n ρ ρ H H' λt=>decide (t≠9):=⟨tp,λb t x o u c e=>⟨z (dW u) c e,c⟩⟩
 exact⟨z (by decide) h.ca h.oa,h.ca,z (by decide) h.jc h.jb,h.jc,z (by decide) h.gQ h.fj,h.gQ,⟨vs,z (by decide) h.jm h1,h2.keep kp (by decide)⟩,h.jm,z (by decide) h.jn h.tL,h.jn,z (by decide) h.jr h.jq,h.jr,z (by decide) h.jN h.jD,h.jN,z (by decide) h.cpu h.lu,h.cpu,z (by decide) h.ju h.nR,h.ju,⟨kvs,e1,e2,e3,e4⟩,h.jv,h.ql,
  λi p q a b=>let⟨x,y,c,d⟩:=h.opt i p q a b;⟨z (by decide) c x,z (by decide) d y,c,d⟩⟩
theorem ac_{st:HS}(w:Wf st)(h:m<=1000000):Wf { st with kn:=m }:=⟨w.um,w.yT,w.fF,w.sub,w.rows,w.ow,w.f7,w.mz,w.fH,w.m_,w.rH,w.kP,w.yU,w.qh,w.An,w.vB,h,w.big,w.o6,w.qi,w.nK,w.o7,w.jE,w.FE⟩
theorem lX.length{l:List lq}(h:lX n ρ H vs l):vs.length=l.length:=by
 induction h with
 | nil=>rfl
 | cons _ _ _ _ _ ih=>simp[ih]
theorem lX.get{l:List lq}(h:lX n ρ H vs l):∀{i:Nat}{x:V},vs[i]?=some x->∃r q y ss,x =.ref r/\l[i]?=some y/\H r=some (.tup [.str y.nm,.str y.ow,.int y.wo,.ref q])/\H q=some (.lst ss)/\ρ q=some (n,30,⟨#[]⟩)/\oZ H ss y.sh:=by
 induction h with
 | nil=>intro i x e;simp at e
 | @cons r q y ss vs as a b c d _ ih=>
  intro i x e;cases i with
  | zero=>simp at e;subst e;exact⟨r,q,y,ss,Z,Z,a,b,c,d⟩
  | succ i=>simp at e;obtain⟨r',q',y',ss',e1,e2,e3⟩:=ih e;exact⟨r',q',y',ss',e1,by simpa using e2,e3⟩
def Sq(K:Fg)(H:Hp)(r:Addr)(xs:List V):Prop:=aD K H r xs\/dU K H r xs
theorem aN.sq(g:aN H H')(h:Sq K H r xs):Sq K H' r xs:=h.elim (λz=> .inl (g.seq z)) λz=> .inr (g.tup z)
structure yg(K:Fg)(H:Hp)(us:List V)(ps:List Pt):Prop where
 len:us.length=ps.length
 at_:∀(i:Nat)(p:Pt),ps[i]?=some p->∃r xs,us[i]?=some (.ref r)/\Sq K H r xs/\xs[0]?=some (.str p.nm)/\xs[1]?=some (.str p.ow)/\xs[2]?=some (.int p.wo)/\xs[3]?=some (.int p.we)
theorem yg.mono{us:List V}{ps:List Pt}(h:yg K H us ps)(g:aN H H'):yg K H' us ps:=⟨h.len,λi p e=>let⟨r,xs,a,b,c⟩:=h.at_ i p e;⟨r,xs,a,g.sq b,c⟩⟩
def pT(own:List Str)(tops:List Int)(b:Int):List (Str×Rat):=(List.zip own tops).filterMap λx=>if 0<x.2 then some (x.1,Jm.fr x.2 b) else none
def VA(x:Str):Prop:=qf x.cps.toList
theorem QY:∀i:Fin 26,DQ "abcdefghijklmnopqrstuvwxyz" (97+i.val)=true:=by decide +kernel
theorem VA.isNm(h:VA x):L2.isNm x=true:=by unfold L2.isNm isName;have h1:=h.lo;have h2:=h.hi;refine nH.mpr ⟨nH.mpr ⟨br (by omega),br (by omega)⟩,sH.mpr λc hc=>?_⟩;have h3:=h.XX c hc;have:=QY ⟨c-97,by omega⟩;rw[show 97+(c-97)=c from by omega]at this;exact this
inductive aaD(T:TC)(K:Fg)(vs:List V)(H:Hp)(Q:VK)(E:XK):Prop
 |mk(l:Addr)(own:List Str)(n:Nat)(ρ:fG)(_:vs=[.ref l])(_:aD K H l (own.map V.str))(_:ρ l=none)(_:own.Nodup)(_:(∀o∈own,isNm o=true))(_:own.length<=100)(_:Gh ρ H)(_:∀ρ' A H',HH T n ρ' A H' (own.foldl gI hs0)->Fr n ρ H ρ' H'->Q (.ref A.a) H')
def O5(T:TC)(K:Fg):Sp:=bx (aaD T K)
theorem tM:∀(l:List Str)(st:HS),(l.foldl gI st).own=st.own++l
 | [],st=>by simp
 | o::l,st=>by rw[j8,tM l];show(st.own++[o])++l=_;rw[J4];rfl
theorem iI(K:Fg)(hK:X.K=K:=by rfl):zM X (ZL K):=hK▸ZM
theorem Sq.ix{v:V}(h:Sq K H r xs)(e:xs[i]?=some v)(q:Q v H):ZL K (.ref r) (.int (i:Int)) H Q:=by
 rcases h with h|h
 .exact .inl ⟨r,xs,i,v,Z,Z,h,aB e,q⟩
 .exact .inr (.inl ⟨r,xs,i,v,Z,Z,h,aB e,q⟩)
theorem Fr.at(f:Fr n ρ H ρ' H'){b:Addr}(e:H b=some o)(c:ρ b=none):H' b=some o/\ρ' b=none:=by obtain⟨a,d⟩:=f b o e (λt x=>by rw[c];intro z;cases z);exact⟨a,d.trans c⟩
theorem Fr.seq(f:Fr n ρ H ρ' H'){l:Addr}(h:aD K H l xs)(c:ρ l=none):aD K H' l xs:=by
 rcases h with(h|⟨o,h⟩)|h
 .exact .inl (.inl (f.at h c).1)
 .exact .inl (.inr ⟨o,(f.at h c).1⟩)
 .exact .inr h
def D7(nss:List (List Nat)):List Str:=nss.map tx
theorem Yb(nss:List (List Nat)):vt nss=(D7 nss).map V.str:=by unfold vt D7;rw[fu];rfl
theorem Ht(h:nss.Nodup):(D7 nss).Nodup:=by unfold D7;exact List.Pairwise.map tx (λa b hab e=>hab (Sv e)) h
theorem SR(h:∀x∈nss,qf x):∀o∈D7 nss,VA o:=λo ho=>by obtain⟨x,hx,rfl⟩:=aX.mp ho;show qf (tx x).cps.toList;rw[show(tx x).cps.toList=x from by simp];exact h x hx
theorem O6(nss:List (List Nat)):(D7 nss).length=nss.length:=by unfold D7;rw[aE]
theorem K8{l:List Str}{d:Int}(h0:0<=d)(h1:d<(l.length:Int)):∃(j:Nat)(o:Str),d=(j:Int)/\l[j]?=some o/\kL (l.map V.str) d=some (.str o):=by
 obtain⟨j,rfl⟩:∃j:Nat,d=(j:Int):=⟨d.toNat,by omega⟩
 have hj:j<l.length:=by omega
 exact⟨j,l[j],Z,a_ hj,aB (by rw[bQ,a_ hj];rfl)⟩
section
variable {T:TC}{n:Nat}{L H:Hp}{x lp:Addr}{st:HS}{ps:List Pt}
end
theorem kq{α:Type}{l:List α}(nd:l.Nodup){x:α}(h:l[i]?=some x):x∉l.take i:=λm=>by have h2:(l.take (i+1)).Nodup:=nd.sublist (List.take_sublist _ _);rw[take_snoc h]at h2;exact(List.nodup_append.mp h2).2.2 x m x (dS.mpr rfl) rfl
abbrev Row:=Str×Int
def xP(r:Row):HO:=.tup [.str r.1,.int r.2]
inductive gi(H:Hp):List V->List Row->Prop
 | nil:gi H [] []
 | cons {a:Addr} {r:Row} {vs:List V} {rs:List Row}:H a=some (xP r)->gi H vs rs->gi H (.ref a::vs) (r::rs)
theorem gi.mono{l:List Row}(h:gi H vs l)(g:∀b xs,H b=some (.tup xs)->H' b=some (.tup xs)):gi H' vs l:=by
 induction h with
 | nil=>exact .nil
 | cons a _ ih=>exact .cons (g _ _ a) ih
theorem gi.length{l:List Row}(h:gi H vs l):vs.length=l.length:=by
 induction h with
 | nil=>rfl
 | cons _ _ ih=>simp[ih]
theorem gi.get{l:List Row}(h:gi H vs l):∀{i:Nat}{x:V},vs[i]?=some x->∃a r,x =.ref a/\l[i]?=some r/\H a=some (xP r):=by
 induction h with
 | nil=>intro i x e;simp at e
 | @cons a r vs rs e0 _ ih=>
  intro i x e;cases i with
  | zero=>simp at e;subst e;exact⟨a,r,Z,Z,e0⟩
  | succ i=>simp at e;obtain⟨a',r',e1,e2,e3⟩:=ih e;exact⟨a',r',e1,by simpa using e2,e3⟩
theorem gi.snoc{l:List Row}{r:Row}(h:gi H vs l)(e:H a=some (xP r)):gi H (vs++[.ref a]) (l++[r]):=by
 induction h with
 | nil=>exact .cons e .nil
 | cons a _ ih=>exact .cons a ih
def iE(rs:List Row):List (Key×V):=rs.map λr=>((Sum.inr r.1:Key),V.int r.2)
theorem yY(rs:List Row):(iE rs).length=rs.length:=by unfold iE;rw[aE]
variable {rs:List Row}
theorem Hu(h:x∉rs.map (·.1)):dY (iE rs) (Sum.inr x)=none:=by
 unfold iE
 induction rs with
 | nil=>rfl
 | cons a l ih=>rw[bF,fE (λz=>h (by rw[bF,<-sM z];exact cQ))];exact ih λm=>h (by rw[bF];exact cR _ m)
def bJ(rs:List Row):Int:=(rs.map (·.2)).sum
def cL(st:HS)(x:Str):Pt:=(st.ah.find? λp=>decide (p.nm=x)).getD ⟨x,x,0,0,1,[]⟩
theorem O7{st:HS}(nd:(st.ah.map (·.nm)).Nodup)(h:st.ah[i]?=some p):cL st p.nm=p:=by
 unfold cL;have:st.ah.find? (λq=>decide (q.nm=p.nm))=some p:=by
  generalize st.ah=ps at *
  induction ps generalizing i with
  | nil=>simp at h
  | cons a ps ih=>
   obtain⟨h1,h2⟩:=gP.mp (show(a.nm::ps.map (·.nm)).Nodup from nd);cases i with
   | zero=>
    have:a=p:=by simpa using h
    subst this;rw[p8,br rfl]
   | succ i=>
    have h':ps[i]?=some p:=by simpa using h
    rw[p8,dB (λe=>h1 (aX.mpr ⟨p,aY h',e.symm⟩))];exact ih h2 h'
 rw[this];rfl
def j0(st:HS)(sums:List Int)(r:Row):List Int:=List.zipWith (λold own=>old+(r.2*(cL st r.1).sc)*own) sums (cL st r.1).row
def gk(st:HS)(rs:List Row):List Int:=rs.foldl (j0 st) (st.bU.map λc=>bJ rs*c)
def qo(s:Int)(ts:List Int):Int:=ts.foldl (λs t=>Jm.cf t s) s
def jf(st:HS)(kept:Int):List Int:=st.ah.map λp=>p.sc*kept
def gE(st:HS)(kept:Int)(added:List Int):List Int:=List.zipWith (λt m=>t*kept+m) st.bU added
def b_(st:HS)(kept whole:Int)(added:List Int):Int:=qo whole (jf st kept++gE st kept added)
def fP(st:HS)(s:Int):HS:=if 1<s then{ st with stp:=st.stp++[s],prod:=st.prod*s,kn:=0 } else st
def bf(st:HS)(kept whole:Int)(added:List Int):HS:=fP { st with ah:=st.ah.map (λp=>{ p with sc:=p.sc*kept / b_ st kept whole added }),bU:=(gE st kept added).map (· / b_ st kept whole added),bK:=st.bK.map (·*(whole / b_ st kept whole added)) } (whole / b_ st kept whole added)
def jP(ps:List Pt)(x:Str)(a:Int):List Pt:=(ps.map λp=>if p.nm=x then{ p with wo:=p.wo-a } else p).filter λp=>decide (p.wo≠0)
def d7(st:HS)(r:Row):HS:={ st with ah:=jP st.ah r.1 r.2 }
def gJ(st:HS)(rs:List Row):HS:=rs.foldl d7 (bf st (aH st-bJ rs) (aH st) (gk st rs))
inductive agf(vs:List V)(H:Hp)(Q:VK)(E:XK):Prop
 |mk(a:Int)(_:vs=[.int a])(_:1<=a)(_:Q .cy H)
def ada:Sp:=bx (agf)
inductive agg(vs:List V)(H:Hp)(Q:VK)(E:XK):Prop
 |mk(m a:Int)(_:vs=[.int m,.int a])(_:1<=a)(_:a<=m)(_:Q .cy H)
def WR:Sp:=bx (agg)
inductive adb(K:Fg)(vs:List V)(H:Hp)(Q:VK)(E:XK):Prop
 |mk(l:Addr)(us:List V)(rs:List Row)(_:vs=[.ref l])(_:aD K H l us)(_:gi H us rs)(_:(rs.map (·.1)).Nodup)(_:rs≠[])(_:rs.length<=1000)(_:∀d H',aN H H'->H d=none->H' d=some (.dK (iE rs))->Q (.ref d) H')
def SS(K:Fg):Sp:=bx (adb K)
inductive ade(K:Fg)(vs:List V)(H:Hp)(Q:VK)(E:XK):Prop
 |mk(s:Int)(l:Addr)(ts:List Int)(_:vs=[.int s,.ref l])(_:aD K H l (ts.map V.int))(_:0<=s)(_:(∀t∈ts,0<=t))(_:Q (.int (qo s ts)) H)
def SV(K:Fg):Sp:=bx (ade K)
inductive adf(T:TC)(vs:List V)(H:Hp)(Q:VK)(E:XK):Prop
 |mk(n ρ A st s:_)(_:vs=[.ref A.bt,.int s])(_:Gh ρ H)(_:aR T n ρ A H st)(_:st.stp.length<=1000)(_:Jm.Sz 9000 st.prod)(_:Jm.Sz 9000 s)(_:∀ρ' A' H',Gh ρ' H'->aR T n ρ' A' H' (fP st s:_)->A'.a=A.a->Fr n ρ H ρ' H'->Q .cy H')
def SW(T:TC):Sp:=bx (adf T)
inductive aaE(T:TC)(vs:List V)(H:Hp)(Q:VK)(E:XK):Prop
 |mk(n ρ A st:_)(d:Addr)(rs:List Row)(_:vs=[.ref A.a,.ref d])(_:aR T n ρ A H st)(_:Wf st)(_:H d=some (.dK (iE rs)))(_:ρ d=none)(_:rs.length<=1000)(_:(∀r∈rs,Jm.Sz 60 r.2/\∃p∈st.ah,p.nm=r.1))(_:∀l H',aN H H'->H l=none->H' l=some (.lst ((gk st rs).map V.int))->Q (.ref l) H')
def O8(T:TC):Sp:=bx (aaE T)
inductive aaF(T:TC)(K:Fg)(vs:List V)(H:Hp)(Q:VK)(E:XK):Prop
 |mk(n ρ A st:_)(kept whole:Int)(l:Addr)(added:List Int)(_:vs=[.ref A.a,.int kept,.int whole,.ref l])(_:HH T n ρ A H st)(_:aD K H l (added.map V.int))(_:added.length=st.bU.length)(_:0<kept)(_:0<whole)(_:Jm.Sz 60 kept)(_:Jm.Sz 60 whole)(_:(∀m∈added,0<=m/\Jm.Sz 8900 m))(_:(∀u∈st.bK,Jm.Sz 8900 u))(_:st.stp.length<100)(_:Wf (bf st kept whole added))(_:xj T n ρ A H (bf st kept whole added:_) λH'=>Q .cy H')
def FJ(T:TC)(K:Fg):Sp:=bx (aaF T K)
inductive adg(T:TC)(vs:List V)(H:Hp)(Q:VK)(E:XK):Prop
 |mk(n ρ A st:_)(r:Row)(_:vs=[.ref A.a,.str r.1,.int r.2])(_:HH T n ρ A H st)(_:(∃p∈st.ah,p.nm=r.1/\r.2<=p.wo))(_:Wf (d7 st r))(_:xj T n ρ A H (d7 st r:_) λH'=>Q .cy H')
def K9(T:TC):Sp:=bx (adg T)
structure nT(st:HS)(rs:List Row):Prop where
 nd:(rs.map (·.1)).Nodup
 ne:rs≠[]
 len:rs.length<=1000
 row:∀r∈rs,1<=r.2/\Jm.Sz 60 r.2/\∃p∈st.ah,p.nm=r.1/\r.2<=p.wo
 lost:bJ rs<aH st
 big:Jm.Sz 60 (aH st)
 prod:Jm.Sz 7900 st.prod
 bK:∀u∈st.bK,Jm.Sz 8900 u
 stp:st.stp.length<100
inductive adh(T:TC)(K:Fg)(vs:List V)(H:Hp)(Q:VK)(E:XK):Prop
 |mk(n ρ A st:_)(l:Addr)(us:List V)(rs:List Row)(_:vs=[.ref A.a,.ref l])(_:HH T n ρ A H st)(_:aD K H l us)(_:gi H us rs)(_:nT st rs)(_:xj T n ρ A H (gJ st rs:_) λH'=>Q .cy H')
def SX(T:TC)(K:Fg):Sp:=bx (adh T K)
theorem CA:∀{ps:List Pt}{qs:List (Addr×Addr×Addr)}{i:Nat}{p:Pt},(ps.map (·.nm)).Nodup->qs.length=ps.length->ps[i]?=some p->mZ (cZ ps qs) (Sum.inr p.nm)=cZ (ps.eraseIdx i) (qs.eraseIdx i)
 | [],_,_,_,_,_,h=>by simp at h
 | _::_,[],_,_,_,hl,_=>by simp at hl
 | a::ps,b::qs,0,p,nd,hl,h=>by
  have e:a=p:=by simpa using h
  subst e;obtain⟨h1,h2⟩:=gP.mp (show(a.nm::ps.map (·.nm)).Nodup from nd);show mZ ((Sum.inr a.nm,V.ref b.1)::cZ ps qs) (Sum.inr a.nm)=cZ ps qs;unfold mZ;rw[fL,av (by simp)];refine z6.mpr λkv hkv=>?_;unfold cZ at hkv;obtain⟨x,hx,y,hy,rfl⟩:=vE hkv;exact br λz=>h1 (aX.mpr ⟨x,hx,sM z⟩)
 | a::ps,b::qs,i+1,p,nd,hl,h=>by
  obtain⟨h1,h2⟩:=gP.mp (show(a.nm::ps.map (·.nm)).Nodup from nd);have h':ps[i]?=some p:=by simpa using h
  have ih:=CA h2 (by simpa using hl) h';show mZ ((Sum.inr a.nm,V.ref b.1)::cZ ps qs) (Sum.inr p.nm)=(Sum.inr a.nm,V.ref b.1)::cZ (ps.eraseIdx i) (qs.eraseIdx i);rw[<-ih];unfold mZ;have hne:¬ (Sum.inr a.nm:Key)=Sum.inr p.nm:=λz=>h1 (aX.mpr ⟨p,aY h',(sM z).symm⟩);rw[fL,ay (by simpa using λe:a.nm=p.nm=>hne (by rw[e]))]
theorem K_:∀{ps:List Pt}{i:Nat}{p:Pt}{a:Int},(ps.map (·.nm)).Nodup->(∀q∈ps,q.wo≠0)->ps[i]?=some p->jP ps p.nm a=if p.wo-a=0 then ps.eraseIdx i else ps.set i { p with wo:=p.wo-a }
 | [],_,_,_,_,_,h=>by simp at h
 | x::ps,0,p,a,nd,hw,h=>by
  have e:x=p:=by simpa using h
  subst e;obtain⟨h1,h2⟩:=gP.mp (show(x.nm::ps.map (·.nm)).Nodup from nd);have rest:jP ps x.nm a=ps:=by
   unfold jP;rw[show(ps.map λp=>if p.nm=x.nm then{ p with wo:=p.wo-a } else p)=ps from by
    conv=>rhs;rw[<-List.map_id ps]
    exact p5 λy hy=>av λz=>h1 (aX.mpr ⟨y,hy,z⟩)]
   exact z6.mpr λy hy=>br (hw y (cR _ hy))
  show((x::ps).map λp=>if p.nm=x.nm then{ p with wo:=p.wo-a } else p).filter _=_;rw[bF,ay rfl,fL];by_cases c:x.wo-a=0
  .rw [ay c,av (by simp[c])];exact rest
  .rw [av c,ay (by simpa using c)];show _::jP ps x.nm a=_;rw[rest];rfl
 | x::ps,i+1,p,a,nd,hw,h=>by
  obtain⟨h1,h2⟩:=gP.mp (show(x.nm::ps.map (·.nm)).Nodup from nd);have h':ps[i]?=some p:=by simpa using h
  have ih:=K_ (a:=a) h2 (λq hq=>hw q (cR _ hq)) h';have xn:¬ x.nm=p.nm:=λz=>h1 (aX.mpr ⟨p,aY h',z.symm⟩);show((x::ps).map λq=>if q.nm=p.nm then{ q with wo:=q.wo-a } else q).filter _=_;rw[bF,av xn,fL,ay (br (hw x cQ))];show x::jP ps p.nm a=_;rw[ih];by_cases c:p.wo-a=0
  .rw [ay c,ay c];rfl
  .rw [av c,av c];rfl
theorem mE{α:Type}:∀{l:List α}{i:Nat}{x:α},l[i]?=some x->l.set i x=l
 | [],_,_,h=>by simp at h
 | a::l,0,x,h=>by
  have:a=x:=by simpa using h
  rw[this];rfl
 | a::l,i+1,x,h=>by rw[J1,mE (by simpa using h)]
theorem Aq{α β:Type}{l:List α}{m:List β}{x:α}{y:β}(h1:(l.eraseIdx i)[j]?=some x)(h2:(m.eraseIdx i)[j]?=some y):∃k:Nat,l[k]?=some x/\m[k]?=some y:=by
 rw[List.getElem?_eraseIdx]at h1 h2;by_cases c:j<i
 .rw [ay c]at h1 h2;exact⟨j,h1,h2⟩
 .rw [av c]at h1 h2;exact⟨j+1,h1,h2⟩
theorem Ar:∀(ts:List Int)(s:Int),qo s ts∣s/\∀t∈ts,qo s ts∣t
 | [],s=>⟨Int.dvd_refl _,λ_ h=>absurd h (by simp)⟩
 | t::ts,s=>by
  obtain⟨h1,h2⟩:=Ar ts (Jm.cf t s);refine⟨Int.dvd_trans h1 (Jm.qc t s),λu hu=>?_⟩;rcases eZ.mp hu with rfl|hu
  .exact Int.dvd_trans h1 (Jm.sQ u s)
  .exact h2 u hu
theorem As:∀(ts:List Int)(s:Int),0<s->0<qo s ts
 | [],_,h=>h
 | t::ts,s,h=>As ts _ (Jm.DF t s (.inr h))
theorem Au{st:HS}(h:aR T n ρ A H st)(g:Gh ρ H)(c:ρ a=none)(e:H a=some o)(ht:isTup o=false):aR T n (bO ρ a (n,t,⟨#[]⟩)) A H st/\Gh (bO ρ a (n,t,⟨#[]⟩)) H:=⟨h.same ⟨λ_ _ e=>e,λb u x w _ hc he=>⟨he,by rw[b7 (λz=>by rw[z,c]at hc;cases hc)];exact hc⟩⟩,g.color e ht⟩
theorem Fr.jw(f:Fr n ρ H ρ' H')(h:H a=none):Fr n ρ H (bO ρ' a (n,t,x)) H':=λb o e k=>by obtain⟨e1,e2⟩:=f b o e k;exact⟨e1,by rw[b7 (aJ e h)];exact e2⟩
theorem Hv{d a b:Int}(hd:0<d)(h:a<=d*b):a / d<=b:=by
 have:=Int.ediv_le_ediv hd h
 rwa [E9 _ (by omega)]at this
theorem uS{st:HS}{s:Int}(h:1<=s):(fP st s).prod=st.prod*s:=by
 unfold fP;by_cases c:1<s
 .rw [ay c]
 .rw [av c,show s=1 by omega,ou]
theorem kM(st:HS)(s:Int):(fP st s).ah=st.ah:=by unfold fP;split <;> rfl
theorem Hw(st:HS)(s:Int):(fP st s).bU=st.bU:=by unfold fP;split <;> rfl
theorem xo(st:HS)(s:Int):(fP st s).bK=st.bK:=by unfold fP;split <;> rfl
theorem tN(st:HS)(s:Int):(fP st s).own=st.own:=by unfold fP;split <;> rfl
theorem xq(st:HS)(s:Int):(fP st s).nms=st.nms:=by unfold fP;split <;> rfl
theorem xr(st:HS)(s:Int):(fP st s).bD=st.bD:=by unfold fP;split <;> rfl
theorem jd{α β γ:Type}{f:α->β->γ}{t:γ}:∀{xs:List α}{ys:List β},t∈List.zipWith f xs ys->∃(i:Nat)(x:α)(y:β),xs[i]?=some x/\ys[i]?=some y/\t=f x y:=λ{xs ys} h=>by
 obtain⟨i,hi,e⟩:=oV h;rw[jX]at hi;have h1:i<xs.length:=by omega
 have h2:i<ys.length:=by omega
 exact⟨i,xs[i],ys[i],a_ h1,a_ h2,by rw[<-e,List.getElem_zipWith]⟩
theorem O9{α β γ:Type}{f:α->β->γ}{xs:List α}{ys:List β}{x:α}{y:β}(h1:xs[i]?=some x)(h2:ys[i]?=some y):(List.zipWith f xs ys)[i]?=some (f x y):=by rw[Qj,h1,h2]
theorem CB{a b c:Int}(h:a<=b)(hc:0<=c):a*c<=b*c:=OG h hc
structure nc(st:HS)(kept whole lost:Int)(added:List Int):Prop where
 k:0<kept
 l:0<=lost
 w:whole=kept+lost
 len:added.length=st.bU.length
 add:∀m∈added,0<=m/\m<=lost*st.prod
 prod:Jm.Sz 7900 st.prod
 big:Jm.Sz 60 whole
 bK:∀u∈st.bK,Jm.Sz 8900 u
 stp:st.stp.length<100
variable {lost:Int}{added:List Int}
theorem nc.dvds{st:HS}{kept whole:Int}(b:nc st kept whole lost added):0<b_ st kept whole added/\b_ st kept whole added∣whole/\(∀p∈st.ah,b_ st kept whole added∣p.sc*kept)/\∀c∈gE st kept added,b_ st kept whole added∣c:=by
 have hw:0<whole:=by have:=b.k;have:=b.l;have:=b.w;omega
 have d:=Ar (jf st kept++gE st kept added) whole;exact⟨As _ _ hw,d.1,λp hp=>d.2 _ (Ck _ (aX.mpr ⟨p,hp,Z⟩)),λc hc=>d.2 _ (jW _ hc)⟩
theorem yZ{st:HS}{kept whole:Int}(wf:Wf st)(b:nc st kept whole lost added):Wf (bf st kept whole added):=by
 obtain⟨hs,hsw,vh,hsc⟩:=b.dvds;have hk:=b.k;have hl:=b.l;have hw:=b.w;have p1:=wf.fH;have eB:bf st kept whole added=fP { st with ah:=st.ah.map (λp=>{ p with sc:=p.sc*kept / b_ st kept whole added }),bU:=(gE st kept added).map (· / b_ st kept whole added),bK:=st.bK.map (·*(whole / b_ st kept whole added)) } (whole / b_ st kept whole added):=rfl;rw[eB];generalize b_ st kept whole added=d at *;obtain⟨s,es⟩:=hsw;have hs1:1<=s:=by
  rcases Int.lt_trichotomy s 0 with z|z|z
  .have:=Int.mul_neg_of_pos_of_neg hs z;omega
  .rw [z,Int.mul_zero]at es;omega
  .omega
 have ed:whole / d=s:=by rw[es,E9 _ (by omega)]
 rw[ed];have ai5:s<=whole:=by rw[es];have:=OG (show 1<=d by omega) (show 0<=s by omega);omega
 have zs:Jm.Sz 60 s:=b.big.of_le (by omega);have zp:Jm.Sz 8000 (st.prod*s):=(b.prod.mul zs).mono (by decide);have pp:st.prod<=st.prod*s:=by have:=GQ hs1 (show 0<=st.prod by omega);omega
 have VB:∀c∈(gE st kept added).map (· / d),0<=c/\c<=st.prod*s:=λc hc=>by
  obtain⟨x,hx,rfl⟩:=aX.mp hc;obtain⟨i,t,m,et,em,rfl⟩:=jd (show x∈List.zipWith (λt m=>t*kept+m) st.bU added from hx);have ht:=wf.o6 t (aY et);have hm:=b.add m (aY em);have a1:0<=t*kept:=j9 ht.1 (by omega);have a2:t*kept<=st.prod*kept:=CB ht.2 (by omega);have a3:st.prod*kept+lost*st.prod=d*(st.prod*s):=by rw[kN lost,<-kO,<-hw,es,<-iG,<-iG,kN st.prod d]
  exact⟨JE (by omega) (by omega),Hv hs (by omega)⟩
 have sc':∀p∈st.ah,1<=p.sc*kept / d/\p.sc*kept / d<=st.prod*s/\d*(p.sc*kept / d)=p.sc*kept:=λp hp=>by
  have h0:=wf.qi p hp;obtain⟨z,ez⟩:=vh p hp;have a1:0<p.sc*kept:=wX (by omega) hk;have ez':p.sc*kept / d=z:=by rw[ez,E9 _ (by omega)]
  have hz:1<=z:=by
   rcases Int.lt_trichotomy z 0 with y|y|y
   .have:=Int.mul_neg_of_pos_of_neg hs y;omega
   .rw [y,Int.mul_zero]at ez;omega
   .omega
  have a2:p.sc*kept<=st.prod*kept:=CB h0.2 (by omega);have a3:st.prod*kept<=st.prod*whole:=GQ (by omega) (by omega);have a4:st.prod*whole=d*(st.prod*s):=by rw[es,<-iG,<-iG,kN st.prod d]
  refine⟨by rw[ez'];exact hz,Hv hs (by omega),by rw[ez',ez]⟩
 have P:∀{M:Pt->Prop},(∀p∈st.ah,M { p with sc:=p.sc*kept / d })->∀p∈st.ah.map (λp=>{ p with sc:=p.sc*kept / d }),M p:=λh p hp=>by obtain⟨x,hx,rfl⟩:=aX.mp hp;exact h x hx
 have top':∀p∈st.ah,∀t∈List.zipWith (λr c=>(p.sc*kept / d)*r+c) p.row ((gE st kept added).map (· / d)),0<=t/\t<=st.prod*s:=λp hp t ht=>by
  obtain⟨i,r,c,er,ec,rfl⟩:=jd ht;rw[bQ]at ec;obtain⟨x,ex,rfl⟩:=mj.mp ec;obtain⟨y,ey⟩:=hsc x (aY ex);have eyd:x / d=y:=by rw[ey,E9 _ (by omega)]
  have ex':(List.zipWith (λt m=>t*kept+m) st.bU added)[i]?=some x:=ex;rw[Qj]at ex';cases e1:st.bU[i]? with
  | none=>rw[e1]at ex';simp at ex'
  | some t0=>
   cases e2:added[i]? with
   | none=>rw[e1,e2]at ex';simp at ex'
   | some m=>
    rw[e1,e2]at ex';have ex2:t0*kept+m=x:=by simpa using ex'
    have hm:=b.add m (aY e2);have hT:=wf.o7 p hp (p.sc*r+t0) (aY (O9 (f:=λr c=>p.sc*r+c) er e1));have hz:=(sc' p hp).2.2;have key:d*((p.sc*kept / d)*r+x / d)=(p.sc*r+t0)*kept+m:=by rw[kO,<-iG,hz,eyd,<-ey,<-ex2];rw[mY,iG,iG,kN kept r];omega
    have k1:0<=(p.sc*r+t0)*kept:=j9 hT.1 (by omega);have k2:(p.sc*r+t0)*kept<=st.prod*kept:=CB hT.2 (by omega);have a3:st.prod*kept+lost*st.prod=d*(st.prod*s):=by rw[kN lost,<-kO,<-hw,es,<-iG,<-iG,kN st.prod d]
    generalize (p.sc*kept / d)*r+x / d=W at *;constructor
    .rcases Dp W 0 with z|z
     .have:=Int.mul_neg_of_pos_of_neg hs z;omega
     .exact z
    .have:d*W<=d*(st.prod*s):=by omega
     exact Int.le_of_mul_le_mul_left this hs
 have nm':(st.ah.map (λp:Pt=>{ p with sc:=p.sc*kept / d })).map (λp:Pt=>p.nm)=st.ah.map (λp:Pt=>p.nm):=by rw[fu];rfl
 have e0:(gE st kept added).length=st.bU.length:=by unfold gE;rw[jX,b.len];omega
 have pu':∀u∈st.bK.map (·*s),Jm.Sz 9000 u:=λu hu=>by obtain⟨x,hx,rfl⟩:=aX.mp hu;exact((b.bK x hx).mul zs).mono (by decide)
 have aaG:∀p∈st.ah,∀r∈p.row,-(st.prod*s)<=r/\r<=st.prod*s:=λp hp r hr=>by have:=wf.nK p hp r hr;omega
 unfold fP;by_cases c:1<s
 .rw [ay c];refine⟨wf.um,wf.yT,by rw[nm'];exact wf.fF,P wf.sub,P wf.rows,P wf.ow,?_,?_,by show 1<=st.prod*s;omega,?_,λx hx=>?_,wf.kP,wf.yU,?_,?_,wf.vB,iA _,zp,VB,P λp hp=>⟨(sc' p hp).1,(sc' p hp).2.1⟩,P aaG,P top',P wf.jE,pu'⟩
  .show (List.map _ (gE st kept added)).length=_;rw[aE,e0,wf.f7]
  .show (List.map _ st.bK).length=_;rw[aE,wf.mz]
  .show st.prod*s=(st.stp++[s]).foldl (·*·) 1;rw[X_,<-wf.m_]
  .rcases dI.mp (show x∈st.stp++[s]from hx)with z|z
   .exact wf.rH x z
   .rw [dS.mp z];omega
  .show (List.map _ st.ah).length<=1000;rw[aE];exact wf.qh
  .show (st.stp++[s]).length<=100;rw[c7];exact b.stp
 .rw [av c];have e1:s=1:=by omega
  subst e1;rw[ou]at VB sc' aaG top';refine⟨wf.um,wf.yT,by rw[nm'];exact wf.fF,P wf.sub,P wf.rows,P wf.ow,?_,?_,wf.fH,wf.m_,wf.rH,wf.kP,wf.yU,?_,wf.An,wf.vB,wf.Hr,wf.big,VB,P λp hp=>⟨(sc' p hp).1,(sc' p hp).2.1⟩,P wf.nK,P λp hp t ht=>?_,P wf.jE,pu'⟩
  .show (List.map _ (gE st kept added)).length=_;rw[aE,e0,wf.f7]
  .show (List.map _ st.bK).length=_;rw[aE,wf.mz]
  .show (List.map _ st.ah).length<=1000;rw[aE];exact wf.qh
  .exact top' p hp t ht
def uT(st:HS)(acc:List Int)(rs:List Row):List Int:=rs.foldl (λs r=>List.zipWith (λx t=>x+r.2*t) s (aM st (cL st r.1))) acc
theorem Hx:∀(acc bU row:List Int)(a sc L:Int),List.zipWith (λold own=>old+(a*sc)*own) (List.zipWith (λs c=>s+(a+L)*c) acc bU) row=List.zipWith (λs c=>s+L*c) (List.zipWith (λx t=>x+a*t) acc (List.zipWith (λr c=>sc*r+c) row bU)) bU
 | [],_,_,_,_,_=>by simp
 | _::_,[],_,_,_,_=>by simp
 | _::_,_::_,[],_,_,_=>by simp
 | x::acc,c::bU,r::row,a,sc,L=>by
  simp only[tY];rw[Hx acc bU row a sc L];congr 1
  grind
theorem La{st:HS}:∀(rs:List Row)(acc:List Int),rs.foldl (j0 st) (List.zipWith (λs c=>s+bJ rs*c) acc st.bU)=List.zipWith (λs c=>s+0*c) (uT st acc rs) st.bU
 | [],acc=>by show List.zipWith _ acc st.bU=_;rfl
 | r::rs,acc=>by
  rw[j8];have e:j0 st (List.zipWith (λs c=>s+bJ (r::rs)*c) acc st.bU) r=List.zipWith (λs c=>s+bJ rs*c) (List.zipWith (λx t=>x+r.2*t) acc (aM st (cL st r.1))) st.bU:=by unfold j0;rw[show bJ (r::rs)=r.2+bJ rs from by unfold bJ;rw[bF,b8]];exact Hx acc st.bU (cL st r.1).row r.2 (cL st r.1).sc (bJ rs)
  rw[e,La rs];rfl
theorem Hy:∀(l:List Int)(L:Int),List.zipWith (λs c=>s+L*c) (List.replicate l.length 0) l=l.map λc=>L*c
 | [],_=>rfl
 | x::l,L=>by rw[iY,yC,tY,Hy l L,wV];rfl
theorem Lb:∀(s l:List Int),s.length<=l.length->List.zipWith (λs c=>s+0*c) s l=s
 | [],_,_=>by simp
 | _::_,[],h=>by simp at h
 | x::s,c::l,h=>by rw[tY,Lb s l (by simpa using h),mX,Int.add_zero]
theorem Av{st:HS}:∀(rs:List Row)(acc:List Int),(∀r∈rs,(aM st (cL st r.1)).length=acc.length)->(uT st acc rs).length=acc.length
 | [],_,_=>rfl
 | r::rs,acc,h=>by
  have e:(List.zipWith (λx t=>x+r.2*t) acc (aM st (cL st r.1))).length=acc.length:=by rw[jX,h r cQ];omega
  show(uT st (List.zipWith (λx t=>x+r.2*t) acc (aM st (cL st r.1))) rs).length=_;rw[Av rs _ (λx hx=>by rw[e];exact h x (cR _ hx)),e]
theorem Cb{st:HS}(hP:0<=st.prod):∀(rs:List Row)(acc:List Int)(B:Int),(∀r∈rs,0<=r.2/\∀t∈aM st (cL st r.1),0<=t/\t<=st.prod)->(∀x∈acc,0<=x/\x<=B)->∀x∈uT st acc rs,0<=x/\x<=B+bJ rs*st.prod
 | [],acc,B,_,ha,x,hx=>by have:=ha x hx;show 0<=x/\x<=B+0*st.prod;omega
 | r::rs,acc,B,h,ha,x,hx=>by
  have hr:=h r cQ;have:=Cb hP rs (List.zipWith (λx t=>x+r.2*t) acc (aM st (cL st r.1))) (B+r.2*st.prod) (λy hy=>h y (cR _ hy)) (λy hy=>by obtain⟨i,a,t,ea,et,rfl⟩:=jd hy;have h1:=ha a (aY ea);have h2:=hr.2 t (aY et);have h3:0<=r.2*t:=j9 hr.1 h2.1;have h4:r.2*t<=r.2*st.prod:=GQ h2.2 hr.1;omega) x hx
  rw[show bJ (r::rs)=r.2+bJ rs from by unfold bJ;rw[bF,b8],mY];omega
theorem rM{st:HS}(wf:Wf st)(h:p∈st.ah):(aM st p).length=st.bU.length:=by unfold aM;rw[jX,wf.rows p h,wf.f7];omega
theorem dN{st:HS}(wf:Wf st)(h:p∈st.ah)(e:p.nm=x):cL st x=p:=by obtain⟨i,hi,ei⟩:=oV h;rw[<-e];exact O7 wf.fF (i:=i) (by rw[a_ hi,ei])
theorem Aw{st:HS}(wf:Wf st)(h:∀r∈rs,∃p∈st.ah,p.nm=r.1):gk st rs=uT st (List.replicate st.bU.length 0) rs:=by
 unfold gk;rw[<-Hy st.bU (bJ rs),La];refine Lb _ _ ?_;rw[Av rs _ (λr hr=>by obtain⟨p,hp,e⟩:=h r hr;rw[dN wf hp e,iW,rM wf hp]),iW]
 exact aL _
theorem SY{st:HS}(wf:Wf st)(h:∀r∈rs,1<=r.2/\∃p∈st.ah,p.nm=r.1):(gk st rs).length=st.bU.length/\∀m∈gk st rs,0<=m/\m<=bJ rs*st.prod:=by
 rw[Aw wf (λr hr=>(h r hr).2)];have p1:=wf.fH;constructor
 .rw [Av rs _ (λr hr=>by obtain⟨p,hp,e⟩:=(h r hr).2;rw[dN wf hp e,iW,rM wf hp]),iW]
 .intro m hm;have:=Cb (st:=st) (by omega) rs (List.replicate st.bU.length 0) 0 (λr hr=>by obtain⟨h1,p,hp,e⟩:=h r hr;refine⟨by omega,?_⟩;rw[dN wf hp e];exact wf.o7 p hp) (λx hx=>by rw[(List.mem_replicate.mp hx).2];omega) m hm
  omega
theorem QZ{ps:List Pt}{a:Int}(h:p∈ps)(hn:p.nm≠x)(hw:p.wo≠0):p∈jP ps x a:=iz.mpr ⟨aX.mpr ⟨p,h,by rw[av hn]⟩,br hw⟩
theorem rN{ps:List Pt}{a:Int}(h:p∈jP ps x a):p.wo≠0/\∃q∈ps,p=if q.nm=x then{ q with wo:=q.wo-a } else q:=by obtain⟨h1,h2⟩:=iz.mp h;obtain⟨q,hq,e⟩:=aX.mp h1;exact⟨dW h2,q,hq,e.symm⟩
theorem uU{ps:List Pt}{a:Int}:((jP ps x a).map (λp:Pt=>p.nm)).Sublist (ps.map (λp:Pt=>p.nm)):=by
 unfold jP;have e:(ps.map λp=>if p.nm=x then{ p with wo:=p.wo-a } else p).map (λp:Pt=>p.nm)=ps.map (λp:Pt=>p.nm):=by rw[fu];exact p5 λp _=>by show(if p.nm=x then _ else p:Pt).nm=p.nm;split <;> rfl
 rw[<-e];exact JY.map _
theorem FL{st:HS}(wf:Wf st){r:Row}(h:∀p∈st.ah,p.nm=r.1->r.2<=p.wo):Wf (d7 st r):=by
 have P:∀{M:Pt->Prop},(∀p∈st.ah,M p)->(∀(p:Pt)(w:Int),M p->M { p with wo:=w })->∀p∈jP st.ah r.1 r.2,M p:=λh1 h2 p hp=>by
  obtain⟨_,q,hq,e⟩:=rN hp;rw[e];split
  .exact h2 _ _ (h1 q hq)
  .exact h1 q hq
 refine⟨wf.um,wf.yT,wf.fF.sublist uU,P wf.sub (λ_ _ z=>z),P wf.rows (λ_ _ z=>z),P wf.ow (λ_ _ z=>z),wf.f7,wf.mz,wf.fH,wf.m_,wf.rH,wf.kP,wf.yU,?_,wf.An,wf.vB,wf.Hr,wf.big,wf.o6,P wf.qi (λ_ _ z=>z),P wf.nK (λ_ _ z=>z),P wf.o7 (λ_ _ z=>z),λp hp=>?_,wf.FE⟩
 .have:=uU (ps:=st.ah) (x:=r.1) (a:=r.2) |>.length_le;rw[aE,aE]at this;exact fZ this wf.qh
 .obtain ⟨h0,q,hq,e⟩:=rN hp;have:=wf.jE q hq;by_cases c:q.nm=r.1
  .rw [ay c]at e;subst e;have:=h q hq c;have h0:q.wo-r.2≠0:=h0;exact⟨by show 1<=q.wo-r.2;omega,by show 0<=q.we;omega⟩
  .rw [av c]at e;rw[e];exact this
def Due(st:HS)(rs:List Row):Prop:=∀r∈rs,∃p∈st.ah,p.nm=r.1/\r.2<=p.wo
theorem ng{st:HS}(wf:Wf st){q:Pt}(hp:p∈st.ah)(hq:q∈st.ah)(e:p.nm=q.nm):p=q:=(dN wf hp rfl).symm.trans (by rw[e];exact dN wf hq rfl)
theorem S0{st:HS}(wf:Wf st){r:Row}(d:Due st (r::rs)):Wf (d7 st r):=by obtain⟨p,hp,e,hle⟩:=d r cQ;exact FL wf λq hq eq=>by rw[ng wf hq hp (eq.trans e.symm)];exact hle
theorem Lc{st:HS}(wf:Wf st){r:Row}(d:Due st (r::rs))(nd:((r::rs).map (λr:Row=>r.1)).Nodup):Due (d7 st r) rs:=λx hx=>by obtain⟨p,hp,e,hle⟩:=d x (cR _ hx);have hn:p.nm≠r.1:=λz=>(gP.mp nd).1 (aX.mpr ⟨x,hx,e.symm.trans z⟩);have:=wf.jE p hp;exact⟨p,QZ hp hn (by omega),e,hle⟩
theorem Ld:∀{rs:List Row}{st:HS},Wf st->Due st rs->(rs.map (λr:Row=>r.1)).Nodup->Wf (rs.foldl d7 st)
 | [],_,wf,_,_=>wf
 | r::rs,st,wf,d,nd=>show Wf (rs.foldl d7 (d7 st r))from Ld (S0 wf d) (Lc wf d nd) (gP.mp nd).2
theorem Hz{st:HS}{kept whole:Int}(d:Due st rs):Due (bf st kept whole added) rs:=λr hr=>by obtain⟨p,hp,e,hle⟩:=d r hr;refine⟨{ p with sc:=p.sc*kept / b_ st kept whole added },?_,e,hle⟩;unfold bf;rw[kM];exact aX.mpr ⟨p,hp,Z⟩
theorem nT.due{st:HS}(c:nT st rs):Due st rs:=λr hr=>(c.row r hr).2.2
theorem CC:∀{rs:List Row},(∀r∈rs,1<=r.2)->0<=bJ rs
 | [],_=>dZ _
 | r::rs,h=>by have:=h r cQ;have:=CC (rs:=rs) λx hx=>h x (cR _ hx);rw[show bJ (r::rs)=r.2+bJ rs from by unfold bJ;rw[bF,b8]];omega
theorem nT.blend{st:HS}(wf:Wf st)(c:nT st rs):nc st (aH st-bJ rs) (aH st) (bJ rs) (gk st rs):=by have g:=SY wf (rs:=rs) (λr hr=>⟨(c.row r hr).1,by obtain⟨p,hp,e,_⟩:=(c.row r hr).2.2;exact⟨p,hp,e⟩⟩);have l0:=CC (rs:=rs) λr hr=>(c.row r hr).1;have:=c.lost;exact⟨by omega,l0,by omega,g.1,g.2,c.prod,c.big,c.bK,c.stp⟩
theorem Yc{st:HS}(wf:Wf st)(c:nT st rs):Wf (gJ st rs):=Ld (yZ wf (c.blend wf)) (Hz c.due) c.nd
structure BP where
 nm:Str
 ow:Str
 wo:Int
 we:Int
 tops:List Int
structure BE where
 nm:Str
 ow:Str
 wo:Int
 tops:List Int
 bot:Int
structure BS where
 own:List Str
 ah:List BP
 bot:Int
 bD:List BE
 eF:List Str
structure BA where
 m:Addr
 lo:Addr
 lp:Addr
 la:Addr
 lk:Addr
 qs:List (Addr×Addr)
def f_(B:BA)(bot:Int):List (Key×V):=[(Sum.inr "owners",.ref B.lo),(Sum.inr "parts",.ref B.lp),(Sum.inr "bottom",.int bot),(Sum.inr "ashore",.ref B.la),(Sum.inr "known",.ref B.lk)]
def gq(p:BP)(t:Addr):HO:=.lst [.str p.nm,.str p.ow,.int p.wo,.int p.we,.ref t]
inductive o8(n:Nat)(ρ:fG)(H:Hp):List V->List BE->Prop
 | nil:o8 n ρ H [] []
 | cons {r t:Addr} {e:BE} {vs:List V} {es:List BE}:H r=some (.lst [.str e.nm,.str e.ow,.int e.wo,.ref t,.int e.bot])->ρ r=some (n,27,e.nm)->H t=some (.lst (e.tops.map V.int))->ρ t=some (n,28,e.nm)->o8 n ρ H vs es->o8 n ρ H (.ref r::vs) (e::es)
structure bg(n:Nat)(ρ:fG)(B:BA)(H:Hp)(b:BS):Prop where
 om:H B.m=some (.dK (f_ B b.bot))
 cm:ρ B.m=some (n,20,⟨#[]⟩)
 oo:H B.lo=some (.lst (b.own.map V.str))
 co:ρ B.lo=some (n,21,⟨#[]⟩)
 op:H B.lp=some (.lst (B.qs.map λq=>V.ref q.1))
 cp:ρ B.lp=some (n,22,⟨#[]⟩)
 oa:∃vs,H B.la=some (.lst vs)/\o8 n ρ H vs b.bD
 ca:ρ B.la=some (n,25,⟨#[]⟩)
 ok:H B.lk=some (.lst (b.eF.map V.str))
 ck:ρ B.lk=some (n,26,⟨#[]⟩)
 ql:B.qs.length=b.ah.length
 pt:∀(i:Nat)(p:BP)(q:Addr×Addr),b.ah[i]?=some p->B.qs[i]?=some q->H q.1=some (gq p q.2)/\H q.2=some (.lst (p.tops.map V.int))/\ρ q.1=some (n,23,p.nm)/\ρ q.2=some (n,24,p.nm)
theorem o8.keep{l:List BE}(h:o8 n ρ H vs l)(k:Kp n ρ ρ' H H' ts)(e1:ts 27=true)(e2:ts 28=true):o8 n ρ' H' vs l:=by
 induction h with
 | nil=>exact .nil
 | cons a b c d _ ih=>exact .cons (k.2 _ _ _ _ e1 b a).1 (k.2 _ _ _ _ e1 b a).2 (k.2 _ _ _ _ e2 d c).1 (k.2 _ _ _ _ e2 d c).2 ih
variable {B:BA}{b:BS}
theorem bg.same(h:bg n ρ B H b)(k:Kp n ρ ρ' H H' λ_=>true):bg n ρ' B H' b:=by
 have z:=λ{b:Addr}{t:Nat}{x:Str}{o:HO}(c:ρ b=some (n,t,x))(e:H b=some o)=>k.2 b t x o rfl c e;obtain⟨vs,h1,h2⟩:=h.oa;exact⟨(z h.cm h.om).1,(z h.cm h.om).2,(z h.co h.oo).1,(z h.co h.oo).2,(z h.cp h.op).1,(z h.cp h.op).2,⟨vs,(z h.ca h1).1,h2.keep k rfl rfl⟩,(z h.ca h1).2,(z h.ck h.ok).1,(z h.ck h.ok).2,h.ql,
  λi p q e1 e2=>let⟨a,b,c,d⟩:=h.pt i p q e1 e2;⟨(z c a).1,(z d b).1,(z c a).2,(z d b).2⟩⟩
theorem bg.mono(h:bg n ρ B H b)(s:aN H H'):bg n ρ B H' b:=h.same (OZ s)
theorem bg.other(h:bg m ρ B H b)(f:Fr n ρ H ρ' H')(g:Gh ρ H)(e:m≠n):bg m ρ' B H' b:=h.same ⟨λb xs q=>(f b _ q λt x=>by rw[g.tup q];intro z;cases z).1,λb t x o _ c q=>by
 obtain⟨a,b'⟩:=f b o q λt' x'=>by rw[c];intro z;cases z;exact e rfl
 exact⟨a,b'.trans c⟩⟩
theorem bg.col(h:bg n ρ B H b)(c:ρ a=none):bg n (bO ρ a (n,t,x)) B H b:=h.same ⟨λ_ _ e=>e,λb u y w _ hc he=>⟨he,by rw[b7 (λz=>by rw[z,c]at hc;cases hc)];exact hc⟩⟩
theorem bg.find(h:bg n ρ B H b){p:BP}(e:b.ah[i]?=some p):∃q,B.qs[i]?=some q/\H q.1=some (gq p q.2)/\H q.2=some (.lst (p.tops.map V.int))/\ρ q.1=some (n,23,p.nm)/\ρ q.2=some (n,24,p.nm):=by
 have hi:i<B.qs.length:=by rw[h.ql];exact(dj.mp e).1
 exact⟨B.qs[i],a_ hi,h.pt i p _ e (a_ hi)⟩
theorem bg.Yd(h:bg n ρ B H b)(g:Gh ρ H)(x:Int):bg n ρ B (upd H B.m (.dK (f_ B x))) { b with bot:=x }:=by
 have k:=eE (o:=.dK (f_ B x)) g h.cm;obtain⟨vs,h1,h2⟩:=h.oa;exact⟨ak,h.cm,kz k h.co h.oo,h.co,kz k h.cp h.op,h.cp,⟨vs,kz k h.ca h1,h2.keep k (by decide) (by decide)⟩,h.ca,kz k h.ck h.ok,h.ck,h.ql,
  λi p q e1 e2=>let⟨a,b,c,d⟩:=h.pt i p q e1 e2;⟨kz k c a,kz k d b,c,d⟩⟩
theorem bg.iR(h:bg n ρ B H b)(g:Gh ρ H){p0 p1:BP}{q0:Addr×Addr}{t1:Addr}(ep:b.ah[i]?=some p0)(eq:B.qs[i]?=some q0)(e1:p1.nm=p0.nm)(nd:(b.ah.map (λp:BP=>p.nm)).Nodup)(ht:H t1=some (.lst (p1.tops.map V.int)))(ct:ρ t1=some (n,24,p1.nm)):bg n ρ { B with qs:=B.qs.set i (q0.1,t1) } (upd H q0.1 (gq p1 t1)) { b with ah:=b.ah.set i p1 }:=by
 obtain⟨x1,x2,x3,x4⟩:=h.pt i p0 q0 ep eq
 have k:=eE (o:=gq p1 t1) g x3
 obtain⟨vs,h1,h2⟩:=h.oa
 have hi:i<B.qs.length:=(dj.mp eq).1
 have hi2:i<b.ah.length:=(dj.mp ep).1
 have em:(B.qs.set i (q0.1,t1)).map (λq=>V.ref q.1)=B.qs.map λq=>V.ref q.1:=by rw[jI];exact mE (by rw[bQ,eq];rfl)
 refine⟨kz k h.cm h.om,h.cm,kz k h.co h.oo,h.co,?_,h.cp,⟨vs,kz k h.ca h1,h2.keep k (by decide) (by decide)⟩,h.ca,kz k h.ck h.ok,h.ck,?_,λj p q qp Cc=>?_⟩
 . show upd H q0.1 _ B.lp=some (.lst ((B.qs.set i (q0.1,t1)).map _))
   rw[em];exact kz k h.cp h.op
 . show(B.qs.set i (q0.1,t1)).length=(b.ah.set i p1).length
   rw[eX,eX];exact h.ql
 . have qp:(b.ah.set i p1)[j]?=some p:=qp
   have Cc:(B.qs.set i (q0.1,t1))[j]?=some q:=Cc
   by_cases hj:i=j
   . subst hj
     rw[h_ hi2]at qp
     rw[h_ hi]at Cc
     cases qp;cases Cc
     exact⟨ak,kz k ct ht,by rw[e1];exact x3,ct⟩
   . rw[xJ hj]at qp Cc
     obtain⟨a1,a2,a3,a4⟩:=h.pt j p q qp Cc
     have hnm:p.nm≠p0.nm:=λe=>by
      have hj2:j<b.ah.length:=(dj.mp qp).1;have r1:(b.ah.map (λp:BP=>p.nm))[j]?=some p.nm:=by rw[bQ,qp];rfl
      have r2:(b.ah.map (λp:BP=>p.nm))[i]?=some p0.nm:=by rw[bQ,ep];rfl
      have hj3:j<(b.ah.map (λp:BP=>p.nm)).length:=by rw[aE];exact hj2
      exact hj ((Fl hj3 nd).mp (r1.trans (by rw[e];exact r2.symm))).symm
     have hq:q.1≠q0.1:=λe=>by rw[e,x3]at a3;exact hnm (iZ (λc:qg=>c.2.2) (gH a3)).symm
     exact⟨by rw[az hq];exact a1,kz k a4 a2,a3,a4⟩
theorem bg.S3(h:bg n ρ B H b)(g:Gh ρ H){lp:Addr}{qs:List (Addr×Addr)}{ps:List BP}(e:H lp=some (.lst (qs.map λq=>V.ref q.1)))(c:ρ lp=some (n,22,⟨#[]⟩))(hl:qs.length=ps.length)(hp:∀(i:Nat) (p:BP) (q:Addr×Addr),ps[i]?=some p->qs[i]?=some q->H q.1=some (gq p q.2)/\H q.2=some (.lst (p.tops.map V.int))/\ρ q.1=some (n,23,p.nm)/\ρ q.2=some (n,24,p.nm)):
  bg n ρ { { B with lp:=lp }with qs:=qs } (upd H B.m (.dK (f_ { B with lp:=lp } b.bot))) { b with ah:=ps }:=by
 have k:=eE (o:=.dK (f_ { B with lp:=lp } b.bot)) g h.cm
 obtain⟨vs,h1,h2⟩:=h.oa
 exact⟨ak,h.cm,kz k h.co h.oo,h.co,kz k c e,c,⟨vs,kz k h.ca h1,h2.keep k (by decide) (by decide)⟩,h.ca,kz k h.ck h.ok,h.ck,hl,
  λi p q e1 e2=>let⟨a,b,c,d⟩:=hp i p q e1 e2;⟨kz k c a,kz k d b,c,d⟩⟩
theorem bg.S4(h:bg n ρ B H b)(g:Gh ρ H){p:BP}{q:Addr×Addr}(e1:H q.1=some (gq p q.2))(e2:H q.2=some (.lst (p.tops.map V.int)))(c1:ρ q.1=some (n,23,p.nm))(c2:ρ q.2=some (n,24,p.nm)):bg n ρ { B with qs:=B.qs++[q] } (upd H B.lp (.lst ((B.qs++[q]).map λq=>V.ref q.1))) { b with ah:=b.ah++[p] }:=by
 have k:=eE (o:=.lst ((B.qs++[q]).map λq=>V.ref q.1)) g h.cp;obtain⟨vs,h1,h2⟩:=h.oa;refine⟨kz k h.cm h.om,h.cm,kz k h.co h.oo,h.co,ak,h.cp,⟨vs,kz k h.ca h1,h2.keep k (by decide) (by decide)⟩,h.ca,kz k h.ck h.ok,h.ck,?_,λi x y ex ey=>?_⟩
 .show (B.qs++[q]).length=(b.ah++[p]).length;rw[c7,c7,h.ql];rfl
 .have ex:(b.ah++[p])[i]?=some x:=ex;have ey:(B.qs++[q])[i]?=some y:=ey;by_cases c:i<b.ah.length
  .rw [E8 c]at ex;rw[E8 (by rw[h.ql];exact c)]at ey;obtain⟨a1,a2,a3,a4⟩:=h.pt i x y ex ey;exact⟨kz k a3 a1,kz k a4 a2,a3,a4⟩
  .have hi:i=b.ah.length:=by have:=(dj.mp ex).1;rw[c7]at this;have:i<b.ah.length+1:=this;omega
   subst hi;rw[De (aL _),wU]at ex;rw[De (by rw[h.ql];exact aL _),h.ql,wU]at ey;cases ex;cases ey;exact⟨kz k c1 e1,kz k c2 e2,c1,c2⟩
theorem bg.O_(h:bg n ρ B H b)(g:Gh ρ H)(l:List Str):bg n ρ B (upd H B.lk (.lst (l.map V.str))) { b with eF:=l }:=by
 have k:=eE (o:=.lst (l.map V.str)) g h.ck;obtain⟨vs,h1,h2⟩:=h.oa;exact⟨kz k h.cm h.om,h.cm,kz k h.co h.oo,h.co,kz k h.cp h.op,h.cp,⟨vs,kz k h.ca h1,h2.keep k (by decide) (by decide)⟩,h.ca,ak,h.ck,h.ql,
  λi p q e1 e2=>let⟨a,b,c,d⟩:=h.pt i p q e1 e2;⟨kz k c a,kz k d b,c,d⟩⟩
structure Le(K:Fg)(H:Hp)(us:List V)(ws:List Row):Prop where
 len:us.length=ws.length
 at_:∀(i:Nat)(r:Row),ws[i]?=some r->∃a xs,us[i]?=some (.ref a)/\Sq K H a xs/\xs[0]?=some (.str r.1)/\xs[2]?=some (.int r.2)
def uL(b:BS):List Row:=b.ah.map λp=>(p.nm,p.wo)
theorem bg.nw(h:bg n ρ B H b):Le K H (B.qs.map λq=>V.ref q.1) (uL b):=by refine⟨by unfold uL;rw[aE,aE];exact h.ql,λi r e=>?_⟩;unfold uL at e;rw[bQ]at e;obtain⟨p,ep,rfl⟩:=mj.mp e;obtain⟨q,eq,a1,_⟩:=h.find ep;exact⟨q.1,_,by rw[bQ,eq];rfl,.inl (aD.of a1),Z,Z⟩
def bN(b:BS):Int:=(b.ah.map λp=>p.wo).sum
theorem xu:∀{l:List Str}{o:Str},o∈l->l[l.idxOf o]?=some o
 | [],_,h=>by simp at h
 | x::l,o,h=>by
  by_cases e:x=o
  .subst e;simp
  .have ho:o∈l:=by
    rcases eZ.mp h with z|z
    .exact absurd z.symm e
    .exact z
   rw[List.idxOf_cons,show(x==o)=false from Fb.mpr e];simpa using xu ho
inductive aaI(K:Fg)(vs:List V)(H:Hp)(Q:VK)(E:XK):Prop
 |mk(l:Addr)(own:List Str)(n:Nat)(ρ:fG)(_:vs=[.ref l])(_:aD K H l (own.map V.str))(_:Gh ρ H)(_:own.length<=1000)(_:∀ρ' B H',Gh ρ' H'->bg n ρ' B H' ⟨own,[],1,[],[]⟩->(∀b o,H b=some o->H' b=some o/\ρ' b=ρ b)->Q (.ref B.m) H')
def Pa(K:Fg):Sp:=bx (aaI K)
inductive adi(K:Fg)(vs:List V)(H:Hp)(Q:VK)(E:XK):Prop
 |mk(l:Addr)(own:List Str)(o:Str)(_:vs=[.ref l,.str o])(_:aD K H l (own.map V.str))(_:o∈own)(_:own.length<=1000)(_:Q (.int (own.idxOf o:Int)) H)
def yh(K:Fg):Sp:=bx (adi K)
def y9(b:BS)(x o:Str)(wo we:Int):BS:={ b with ah:=b.ah++[⟨x,o,wo,we,(List.replicate b.own.length 0).set (b.own.idxOf o) b.bot⟩],eF:=b.eF++[x] }
inductive VC(vs:List V)(H:Hp)(Q:VK)(E:XK):Prop
 |mk(n ρ B b:_)(x o:Str)(wo we:Int)(_:vs=[.ref B.m,.str x,.str o,.int wo,.int we])(_:Gh ρ H)(_:bg n ρ B H b)(_:o∈b.own)(_:b.own.length<=1000)(_:b.ah.length<=1000)(_:b.eF.length<=1000)(_:∀ρ' B' H',Gh ρ' H'->bg n ρ' B' H' (y9 b x o wo we:_)->B'.m=B.m->Fr n ρ H ρ' H'->Q .cy H')
def HB:Sp:=bx (VC)
inductive agh(K:Fg)(vs:List V)(H:Hp)(Q:VK)(E:XK):Prop
 |mk(l:Addr)(us:List V)(ws:List Row)(i:Nat)(r:Row)(_:vs=[.ref l,.str r.1])(_:aD K H l us)(_:Le K H us ws)(_:(ws.map (λr:Row=>r.1)).Nodup)(_:ws.length<=1000)(_:ws[i]?=some r)(_:Q (.int (i:Int)) H)
def WS(K:Fg):Sp:=bx (agh K)
structure S7(ws rs:List Row):Prop where
 nd:(rs.map (λr:Row=>r.1)).Nodup
 row:∀r∈rs,1<=r.2/\r.2<=1000000000/\∃w∈ws,w.1=r.1/\r.2<=w.2
 lost:bJ rs<bJ ws\/rs=[]
 len:rs.length<=ws.length
inductive aaJ(K:Fg)(vs:List V)(H:Hp)(Q:VK)(E:XK):Prop
 |mk(a l:Addr)(ns:List Int)(k:Int)(us:List V)(ws:List Row)(_:vs=[.ref a,.int k,.ref l])(_:aD K H a (ns.map V.int))(_:ns.length<=63)(_:0<=k)(_:k<=1000000)(_:aD K H l us)(_:Le K H us ws)(_:(ws.map (λr:Row=>r.1)).Nodup)(_:ws.length<=1000)(_:(∀w∈ws,1<=w.2))(_:∀z zs rs H',aN H H'->H z=none->H' z=some (.lst zs)->gi H' zs rs->S7 ws rs->Q (.ref z) H')
def Pb(K:Fg):Sp:=bx (aaJ K)
section
variable {X:Cx}
def vF(i j k:Int):Int:=if j<i then(if k<j then k else j) else(if k<i then k else i)
theorem Ye(i j k:Int):vF i j k<=i/\vF i j k<=j/\vF i j k<=k:=by unfold vF;split <;> split <;> omega
theorem Yg{i j k m:Int}(h1:m<=i)(h2:m<=j)(h3:m<=k):m<=vF i j k:=by unfold vF;split <;> split <;> omega
theorem S9(hc:X.calm=true):iH X (.builtin "min") (λxs H Q=>∃i j k,xs=[.int i,.int j,.int k]/\Q (.int (vF i j k)) H):=by
 intro pins s σ H xs us Q I r h;obtain⟨i,j,k,rfl,q⟩:=h;obtain⟨u,us,rfl,⟨t,rfl⟩,r2⟩:∃u us',us=u::us'/\RelV (.int i) u/\Vals [.int j,.int k] us':=by cases r with|cons a b=>exact⟨_,_,rfl,a,b⟩
 obtain⟨u2,u3,rfl,⟨t',rfl⟩,⟨t'',rfl⟩⟩:=vals2 r2;refine min_three_ints (I.ok.hd hc) λh' tk kk=>⟨_,H,I.kept kk,?_,q⟩
 unfold vF;by_cases hj:j<i
 .rw [ay hj,ay hj];by_cases hk:k<j
  .rw [ay hk,ay hk];exact⟨_,Z⟩
  .rw [av hk,av hk];exact⟨_,Z⟩
 .rw [av hj,av hj];by_cases hk:k<i
  .rw [ay hk,ay hk];exact⟨_,Z⟩
  .rw [av hk,av hk];exact⟨_,Z⟩
end
def mF(given:List Int)(kept:Int)(p:BP)(a:Int):BP:={ p with tops:=List.zipWith (λt g=>t*kept+g) p.tops given,wo:=p.wo-a }
def iu(ps:List BP)(as:List Int)(i:Nat):Int:=(List.zipWith (λ(p:BP)(a:Int)=>p.tops.getD i 0*a) ps as).sum
def gF(b:BS)(as:List Int):List Int:=(List.range b.own.length).map (iu b.ah as)
def gU(b:BS)(as:List Int)(seat:Nat)(aw:Int):List Int:=if 0<aw then(gF b as).set seat ((gF b as).getD seat 0+aw*b.bot) else gF b as
def c6(b:BS)(as:List Int)(seat:Nat)(aw:Int):List BP:=List.zipWith (mF (gU b as seat aw) (bN b-aw-as.sum)) b.ah as
def i6(b:BS)(as:List Int)(seat:Nat)(aw:Int):BS:={ b with bot:=b.bot*bN b,ah:=(c6 b as seat aw).filter λp=>decide (0<p.wo) }
structure xw(b:BS):Prop where
 nd:(b.ah.map (λp:BP=>p.nm)).Nodup
 tl:∀p∈b.ah,p.tops.length=b.own.length
 t0:∀p∈b.ah,∀t∈p.tops,0<=t/\t<=b.bot
 b1:1<=b.bot
 bz:Jm.Sz 7000 b.bot
 w1:∀p∈b.ah,1<=p.wo
 ol:b.own.length<=100
 pl:b.ah.length<=1000
 kl:b.eF.length<=1000
structure lz(b:BS)(as:List Int)(seat:Nat)(aw:Int):Prop where
 len:as.length=b.ah.length
 a0:∀a∈as,0<=a
 seat:seat<b.own.length
 D8:0<=aw
 kept:0<bN b-aw-as.sum
 big:Jm.Sz 60 (bN b)
inductive adj(K:Fg)(vs:List V)(H:Hp)(Q:VK)(E:XK):Prop
 |mk(n ρ B b:_)(l:Addr)(as:List Int)(seat:Nat)(aw:Int)(_:vs=[.ref B.m,.ref l,.int (seat:Int),.int aw])(_:Gh ρ H)(_:bg n ρ B H b)(_:xw b)(_:aD K H l (as.map V.int))(_:ρ l=none)(_:lz b as seat aw)(_:∀ρ' B' H',Gh ρ' H'->bg n ρ' B' H' (i6 b as seat aw:_)->B'.m=B.m->Fr n ρ H ρ' H'->Q .cy H')
def Lf(K:Fg):Sp:=bx (adj K)
variable {as:List Int}{seat:Nat}
theorem xx{aw:Int}(h:as.length=b.ah.length):(c6 b as seat aw).length=b.ah.length:=by unfold c6;rw[jX,h];omega
theorem VD{aw:Int}{p:BP}{a:Int}(h1:b.ah[i]?=some p)(h2:as[i]?=some a):(c6 b as seat aw)[i]?=some (mF (gU b as seat aw) (bN b-aw-as.sum) p a):=O9 h1 h2
theorem xy(h:∀a∈as,0<=a):∀{x:Int},x∈as->x<=as.sum:=by
 induction as with
 | nil=>intro x hx;simp at hx
 | cons a l ih=>
  intro x hx;have h0:=h a cQ;have hl:0<=l.sum:=by
   clear ih hx;have:∀(l:List Int),(∀a∈l,0<=a)->0<=l.sum:=λl=>by
    induction l with
    | nil=>intro _;exact dZ _
    | cons a l ih=>intro h;rw[b8];have:=h a cQ;have:=ih λx hx=>h x (cR _ hx);omega
   exact this l λx hx=>h x (cR _ hx)
  rw[b8];rcases eZ.mp hx with e|e
  .omega
  .have:=ih (λy hy=>h y (cR _ hy)) e;omega
theorem kR(b:BS)(as:List Int):(gF b as).length=b.own.length:=by unfold gF;rw[aE,Fi]
theorem vG(b:BS)(as:List Int)(seat:Nat)(aw:Int):(gU b as seat aw).length=b.own.length:=by
 unfold gU;split
 .rw [eX,kR]
 .exact kR b as
theorem Lg{ps:List BP}{p:BP}{a:Int}(h1:ps[j]?=some p)(h2:as[j]?=some a):(List.zipWith (λ(p:BP)(a:Int)=>p.tops.getD i 0*a) (ps.take (j+1)) (as.take (j+1)))=List.zipWith (λ(p:BP)(a:Int)=>p.tops.getD i 0*a) (ps.take j) (as.take j)++[p.tops.getD i 0*a] :=mD _ h1 h2
theorem Yh{α:Type}{xs ys:List α}{p:α}(hx:i<=xs.length)(h:ys[i]?=some p):(xs.take i++ys.drop i)[i]?=some p:=by
 have hl:(xs.take i).length=i:=by rw[t8];omega
 rw[De (by omega),hl,wU,List.getElem?_drop];exact h
theorem Yi{α:Type}{xs ys:List α}{x:α}(hx:xs[i]?=some x)(hy:i<ys.length):(xs.take i++ys.drop i).set i x=xs.take (i+1)++ys.drop (i+1):=by
 have hi:=(dj.mp hx).1;have hl:(xs.take i).length=i:=by rw[t8];omega
 rw[List.set_append_right _ _ (by omega),hl,wU,Qa hy,J3,take_snoc hx,J4];rfl
theorem S_{b:BS}{as:List Int}{aw:Int}(h:as.length=b.ah.length)(i:Nat):((c6 b as seat aw).take i++b.ah.drop i).map (λp:BP=>p.nm)=b.ah.map (λp:BP=>p.nm):=by
 have e:(c6 b as seat aw).map (λp:BP=>p.nm)=b.ah.map (λp:BP=>p.nm):=by
  unfold c6;generalize gU b as seat aw=g;generalize bN b-aw-as.sum=k;generalize b.ah=ps at *;clear b
  induction ps generalizing as with
  | nil=>rfl
  | cons p ps ih=>
   cases as with
   | nil=>simp at h
   | cons a as=>rw[tY,bF,bF,ih (by simpa using h)];rfl
 rw[bL,Be,e,<-Be,<-bL,List.take_append_drop]
theorem Tc(B:BA)(x y:Int):putK (f_ B x) (Sum.inr "bottom") (.int y)=f_ B y:=rfl
theorem Lh(B:BA)(x:Int)(l:Addr):putK (f_ B x) (Sum.inr "parts") (.ref l)=f_ { B with lp:=l } x:=rfl
def jQ:List BP->List (Addr×Addr)->List (Addr×Addr)
 | p::ps,q::qs=>if 0<p.wo then q::jQ ps qs else jQ ps qs
 | _,_=>[]
theorem Ax:∀{ps:List BP}{qs:List (Addr×Addr)},qs.length=ps.length->(jQ ps qs).length=(ps.filter λp=>decide (0<p.wo)).length
 | [],[],_=>rfl
 | [],_::_,h=>by simp at h
 | _::_,[],h=>by simp at h
 | p::ps,q::qs,h=>by
  have ih:=Ax (ps:=ps) (qs:=qs) (by simpa using h);unfold jQ;by_cases c:0<p.wo
  .rw [ay c,fL,ay (br c),iY,iY,ih]
  .rw [av c,fL,av (by simpa using c),ih]
theorem y_:∀{ps:List BP}{qs:List (Addr×Addr)}{i:Nat}{p:BP}{q:Addr×Addr},(ps.filter λp=>decide (0<p.wo))[i]?=some p->(jQ ps qs)[i]?=some q->qs.length=ps.length->∃j:Nat,ps[j]?=some p/\qs[j]?=some q
 | [],_,_,_,_,h,_,_=>by simp at h
 | _::_,[],_,_,_,_,_,h=>by simp at h
 | x::ps,y::qs,i,p,q,h1,h2,hl=>by
  unfold jQ at h2;by_cases c:0<x.wo
  .rw [ay c]at h2;rw[fL,ay (br c)]at h1;cases i with
   | zero=>simp at h1 h2;exact⟨0,by simpa using h1,by simpa using h2⟩
   | succ i=>obtain⟨j,a,b⟩:=y_ (ps:=ps) (qs:=qs) (i:=i) (by simpa using h1) (by simpa using h2) (by simpa using hl);exact⟨j+1,by simpa using a,by simpa using b⟩
  .rw [av c]at h2;rw[fL,av (by simpa using c)]at h1;obtain⟨j,a,b⟩:=y_ (ps:=ps) (qs:=qs) (i:=i) h1 h2 (by simpa using hl);exact⟨j+1,by simpa using a,by simpa using b⟩
theorem ze:∀{ps:List BP}{qs:List (Addr×Addr)}{j:Nat}{p:BP}{q:Addr×Addr},ps[j]?=some p->qs[j]?=some q->jQ (ps.take (j+1)) (qs.take (j+1))=jQ (ps.take j) (qs.take j)++(if 0<p.wo then[q] else[])
 | [],_,_,_,_,h,_=>by simp at h
 | _::_,[],_,_,_,_,h=>by simp at h
 | x::ps,y::qs,0,p,q,h1,h2=>by
  have e1:x=p:=by simpa using h1
  have e2:y=q:=by simpa using h2
  subst e1 e2;show jQ (x::ps.take 0) (y::qs.take 0)=[]++_;unfold jQ;split <;> rfl
 | x::ps,y::qs,j+1,p,q,h1,h2=>by have ih:=ze (ps:=ps) (qs:=qs) (j:=j) (by simpa using h1) (by simpa using h2);show jQ (x::ps.take (j+1)) (y::qs.take (j+1))=jQ (x::ps.take j) (y::qs.take j)++_;unfold jQ;rw[ih];split <;> rfl
def dM(rs:List Row)(x:Str):Int:=((rs.find? λr=>decide (r.1=x)).map (λr:Row=>r.2)).getD 0
theorem HC(x:Str):dM [] x=0:=rfl
theorem nh(r:Row)(rs:List Row)(x:Str):dM (r::rs) x=if r.1=x then r.2 else dM rs x:=by
 unfold dM;rw[p8];by_cases c:r.1=x
 .rw [br c,ay c];rfl
 .rw [dB c,av c]
theorem uV:∀{rs:List Row}{x:Str},x∉rs.map (λr:Row=>r.1)->dM rs x=0
 | [],_,_=>rfl
 | r::rs,x,h=>by rw[nh,av (λe=>h (by rw[bF,e];exact cQ))];exact uV λm=>h (by rw[bF];exact cR _ m)
theorem nj:∀{rs:List Row}{r:Row}{x:Str},r.1∉rs.map (λr:Row=>r.1)->dM (rs++[r]) x=if r.1=x then r.2 else dM rs x
 | [],r,x,_=>by rw[JC,nh]
 | y::rs,r,x,h=>by
  rw[bF]at h;have h1:r.1≠y.1:=λe=>h (by rw[e];exact cQ);rw[Jy,nh,nj (λm=>h (cR _ m)),nh];by_cases c:y.1=x
  .rw [ay c,ay c,av (λe=>h1 (e.trans c.symm))]
  .rw [av c,av c]
theorem VE(h:∀r∈rs,1<=r.2)(x:Str):0<=dM rs x:=by
 induction rs with
 | nil=>exact dZ _
 | cons r rs ih=>
  rw[nh];split
  .have:=h r cQ;omega
  .exact ih λy hy=>h y (cR _ hy)
def c9(b:BS)(rs:List Row):List Int:=b.ah.map λp=>dM rs p.nm
theorem Ay(b:BS)(rs:List Row):(c9 b rs).length=b.ah.length:=by unfold c9;rw[aE]
theorem D9(nd:(b.ah.map (λp:BP=>p.nm)).Nodup){r:Row}{p:BP}(hp:b.ah[j]?=some p)(e:p.nm=r.1)(h:r.1∉rs.map (λr:Row=>r.1)):c9 b (rs++[r])=(c9 b rs).set j r.2/\(c9 b rs)[j]?=some 0:=by
 have hj:=(dj.mp hp).1;constructor
 .refine List.ext_getElem? λk=>?_;by_cases c:j=k
  .subst c;rw[h_ (by rw[Ay];exact hj)];unfold c9;rw[bQ,hp];show some (dM (rs++[r]) p.nm)=_;rw[nj h,ay e.symm]
  .rw [xJ c];unfold c9;rw[bQ,bQ];cases ek:b.ah[k]? with
   | none=>rfl
   | some x=>
    show some (dM (rs++[r]) x.nm)=some (dM rs x.nm);rw[nj h,av];intro z;have r1:(b.ah.map (λp:BP=>p.nm))[k]?=some x.nm:=by rw[bQ,ek];rfl
    have r2:(b.ah.map (λp:BP=>p.nm))[j]?=some p.nm:=by rw[bQ,hp];rfl
    exact c ((Fl (by rw[aE];exact hj) nd).mp (r2.trans (by rw[e,z];exact r1.symm)))
 .unfold c9;rw[bQ,hp];show some (dM rs p.nm)=_;rw[e,uV h]
theorem Li:∀{l:List Int}{j:Nat}{x:Int},l[j]?=some 0->(l.set j x).sum=l.sum+x
 | [],_,_,h=>by simp at h
 | a::l,0,x,h=>by
  have:a=0:=by simpa using h
  rw[J3,b8,b8];omega
 | a::l,j+1,x,h=>by rw[J1,b8,b8,Li (by simpa using h)];omega
structure uW(b:BS)(rs:List Row):Prop where
 nd:(rs.map (λr:Row=>r.1)).Nodup
 row:∀r∈rs,1<=r.2/\∃(j:Nat)(p:BP),b.ah[j]?=some p/\p.nm=r.1/\r.2<=p.wo
theorem HD(nd:(b.ah.map (λp:BP=>p.nm)).Nodup)(h:uW b rs):∀i≤rs.length,(c9 b (rs.take i)).sum=bJ (rs.take i):=by
 intro i
 induction i with
 | zero=>
  intro _;rw[List.take_zero];unfold c9;show(b.ah.map λp=>(0:Int)).sum=0;clear nd h;generalize b.ah=ps
  induction ps with
  | nil=>rfl
  | cons p ps ih=>rw[bF,b8,ih];rfl
 | succ i ih=>
  intro hi;have ei:=a_ (show i<rs.length by omega);rw[take_snoc ei];obtain⟨_,j,p,hp,e,_⟩:=h.row _ (aY ei);have hn:(rs[i]).1∉(rs.take i).map (λr:Row=>r.1):=by rw[Be];exact kq h.nd (by rw[bQ,ei];rfl)
  obtain⟨s1,s2⟩:=D9 nd hp e hn;rw[s1,Li s2,ih (by omega)];unfold bJ;rw[bL,Df];simp
abbrev Q4:=Str×Str×Int×Int
def ia(st:HS):List Q4:=st.ah.map λp=>(p.nm,p.ow,p.wo,p.we)
def nq(b:BS):List Q4:=b.ah.map λp=>(p.nm,p.ow,p.wo,p.we)
def oF(qs:List Q4)(r:Row):List Q4:=(qs.map λq=>if q.1=r.1 then(q.1,q.2.1,q.2.2.1-r.2,q.2.2.2) else q).filter λq=>decide (q.2.2.1≠0)
def nU(rs:List Row)(qs:List Q4):List Q4:=(qs.map λq=>(q.1,q.2.1,q.2.2.1-dM rs q.1,q.2.2.2)).filter λq=>decide (0<q.2.2.1)
theorem HE(st:HS)(r:Row):ia (d7 st r)=oF (ia st) r:=by
 unfold ia d7 jP oF;generalize st.ah=ps;show List.map _ (List.filter _ (List.map _ ps))=_
 induction ps with
 | nil=>rfl
 | cons p ps ih=>
  rw[bF,bF,bF];by_cases c:p.nm=r.1
  .rw [ay c,ay (show(p.nm,p.ow,p.wo,p.we).1=r.1 from c),fL,fL];by_cases d:p.wo-r.2=0
   .rw [av (by simpa using d),av (by simpa using d),ih]
   .rw [ay (by simpa using d),ay (by simpa using d),bF,ih]
  .rw [av c,av (show ¬ (p.nm,p.ow,p.wo,p.we).1=r.1 from c),fL,fL];by_cases d:p.wo=0
   .rw [av (by simpa using d),av (by simpa using d),ih]
   .rw [ay (by simpa using d),ay (by simpa using d),bF,ih]
theorem D_(st:HS)(kept whole:Int)(added:List Int):ia (bf st kept whole added)=ia st:=by unfold ia bf;rw[kM,fu];rfl
theorem Ea:∀(rs:List Row)(st:HS),ia (rs.foldl d7 st)=rs.foldl oF (ia st)
 | [],_=>rfl
 | r::rs,st=>by rw[j8,j8,Ea rs,HE]
theorem Eb:∀(qs:List Q4)(r:Row)(rs:List Row),r.1∉rs.map (λr:Row=>r.1)->(∀q∈qs,1<=q.2.2.1)->(∀q∈qs,q.1=r.1->r.2<=q.2.2.1)->nU rs (oF qs r)=nU (r::rs) qs
 | [],_,_,_,_,_=>rfl
 | q::qs,r,rs,hn,h1,h2=>by
  have ih:=Eb qs r rs hn (λx hx=>h1 x (cR _ hx)) (λx hx=>h2 x (cR _ hx));have w1:=h1 q cQ;have e1:oF (q::qs) r=(if q.1=r.1 then(if q.2.2.1-r.2=0 then[] else[(q.1,q.2.1,q.2.2.1-r.2,q.2.2.2)]) else[q])++oF qs r:=by
   unfold oF;rw[bF,fL];by_cases c:q.1=r.1
   .rw [ay c,ay c];by_cases d:q.2.2.1-r.2=0
    .rw [ay d,av (by simpa using d)];rfl
    .rw [av d,ay (by simpa using d)];rfl
   .rw [av c,av c,ay (br (show q.2.2.1≠0 by omega))];rfl
  have e2:∀(us:List Row)(x:Q4)(l:List Q4),nU us (x::l)=(if 0<x.2.2.1-dM us x.1 then[(x.1,x.2.1,x.2.2.1-dM us x.1,x.2.2.2)] else[])++nU us l:=λus x l=>by
   unfold nU;rw[bF,fL];by_cases c:0<x.2.2.1-dM us x.1
   .rw [ay c,ay (br c)];rfl
   .rw [av c,av (by simpa using c)];rfl
  rw[e1,e2 (r::rs),nh];by_cases c:q.1=r.1
  .have am:dM rs q.1=0:=by rw[c];exact uV hn
   have le:=h2 q cQ c;rw[ay c,ay c.symm];by_cases d:q.2.2.1-r.2=0
   .rw [ay d,av (by omega),<-ih];rfl
   .rw [av d,ay (by omega),<-ih,Jy,JC,e2 rs];show(if 0<q.2.2.1-r.2-dM rs q.1 then[(q.1,q.2.1,q.2.2.1-r.2-dM rs q.1,q.2.2.2)] else[])++_=_;rw[am,wW,ay (by omega)]
  .rw [av c,show(if r.1=q.1 then r.2 else dM rs q.1)=dM rs q.1 from av (λz=>c z.symm),<-ih,Jy,JC,e2 rs]
theorem HF{qs:List Q4}{r:Row}{x:Q4}(h:x∈oF qs r):x.2.2.1≠0/\∃q∈qs,x=if q.1=r.1 then(q.1,q.2.1,q.2.2.1-r.2,q.2.2.2) else q:=by obtain⟨h1,h2⟩:=iz.mp h;obtain⟨q,hq,e⟩:=aX.mp h1;exact⟨dW h2,q,hq,e.symm⟩
theorem HG:∀(rs:List Row)(qs:List Q4),(rs.map (λr:Row=>r.1)).Nodup->(∀q∈qs,1<=q.2.2.1)->(∀r∈rs,∀q∈qs,q.1=r.1->r.2<=q.2.2.1)->rs.foldl oF qs=nU rs qs
 | [],qs,_,h1,_=>by
  show qs=nU [] qs;unfold nU
  induction qs with
  | nil=>rfl
  | cons q qs ih=>have:=h1 q cQ;rw[bF,fL,ay (br (show 0<q.2.2.1-dM [] q.1 by rw[HC];omega)),<-ih (λx hx=>h1 x (cR _ hx)) (λr hr=>absurd hr (by simp)),HC,wW]
 | r::rs,qs,nd,h1,h2=>by
  obtain⟨n1,n2⟩:=gP.mp (show(r.1::rs.map (λr:Row=>r.1)).Nodup from nd);rw[j8,HG rs (oF qs r) n2 ?_ ?_]
  .exact Eb qs r rs n1 h1 (h2 r cQ)
  .intro x hx;obtain⟨a,q,hq,e⟩:=HF hx;have:=h1 q hq;by_cases c:q.1=r.1
   .rw [ay c]at e;have:=h2 r cQ q hq c;rw[e]at a ⊢;have a:q.2.2.1-r.2≠0:=a;show 1<=q.2.2.1-r.2;omega
   .rw [av c]at e;rw[e];exact this
  .intro y hy x hx ex;obtain⟨_,q,hq,e⟩:=HF hx;by_cases c:q.1=r.1
   .rw [ay c]at e;rw[e]at ex;exact absurd (aX.mpr ⟨y,hy,ex.symm.trans c⟩) n1
   .rw [av c]at e;rw[e]at ex ⊢;exact h2 y (cR _ hy) q hq ex
theorem Td(b:BS)(rs:List Row)(seat:Nat)(aw:Int):nq (i6 b (c9 b rs) seat aw)=nU rs (nq b):=by
 unfold nq i6 c6 nU;show List.map _ (List.filter _ (List.zipWith (mF (gU b (c9 b rs) seat aw) (bN b-aw-(c9 b rs).sum)) b.ah (c9 b rs)))=_;generalize gU b (c9 b rs) seat aw=g;generalize bN b-aw-(c9 b rs).sum=k;unfold c9;generalize b.ah=ps
 induction ps with
 | nil=>rfl
 | cons p ps ih=>
  rw[bF,tY,bF,bF,fL,fL];by_cases c:0<p.wo-dM rs p.nm
  .rw [ay (br (show 0<(mF g k p (dM rs p.nm)).wo from c)),ay (br (show 0<p.wo-dM rs p.nm from c)),bF,ih];rfl
  .rw [av (by simpa using(show ¬ 0<(mF g k p (dM rs p.nm)).wo from c)),av (by simpa using c),ih]
structure ku(st:HS)(b:BS):Prop where
 own:st.own=b.own
 qd:ia st=nq b
theorem Lj(st:HS)(rs:List Row):(gJ st rs).own=st.own:=by
 unfold gJ;have:∀(rs:List Row)(s:HS),(rs.foldl d7 s).own=s.own:=λrs=>by
  induction rs with
  | nil=>intro s;rfl
  | cons r rs ih=>intro s;rw[j8,ih];rfl
 rw[this];unfold bf;rw[tN]
theorem Te{st:HS}(r:ku st b)(wf:Wf st)(c:nT st rs):ku (gJ st rs) (i6 b (c9 b rs) 0 0):=by
 refine⟨by rw[Lj,r.own];rfl,?_⟩;rw[Td,<-r.qd];unfold gJ;rw[Ea,D_];refine HG rs (ia st) c.nd (λq hq=>?_) (λx hx q hq e=>?_)
 .obtain ⟨p,hp,rfl⟩:=aX.mp hq;exact(wf.jE p hp).1
 .obtain ⟨p,hp,rfl⟩:=aX.mp hq;obtain⟨_,_,p',eL,e',le⟩:=c.row x hx;have:p=p':=ng wf hp eL (e.trans e'.symm);rw[this];exact le
theorem Tf{st:HS}(r:ku st b)(x o:Str)(wo we:Int):ku (xm st x o wo we) (y9 b x o wo we):=by refine⟨r.own,?_⟩;unfold ia nq xm yV y9;show List.map _ (st.ah++[_])=List.map _ (b.ah++[_]);rw[bL,bL,show st.ah.map (λp=>(p.nm,p.ow,p.wo,p.we))=b.ah.map (λp=>(p.nm,p.ow,p.wo,p.we))from r.qd];rfl
theorem ku.whole{st:HS}(r:ku st b):aH st=bN b:=by unfold aH bN;have:=iZ (List.map λq:Q4=>q.2.2.1) r.qd;unfold ia nq at this;rw[fu,fu]at this;exact iZ List.sum this
theorem ku.len{st:HS}(r:ku st b):st.ah.length=b.ah.length:=by have:=iZ List.length r.qd;unfold ia nq at this;rw[aE,aE]at this;exact this
theorem ku.at{st:HS}(r:ku st b){q:BP}(h:b.ah[i]?=some q):∃p,st.ah[i]?=some p/\p.nm=q.nm/\p.ow=q.ow/\p.wo=q.wo/\p.we=q.we:=by have e:=iZ (λl:List Q4=>l[i]?) r.qd;unfold ia nq at e;have e:(st.ah.map λp=>(p.nm,p.ow,p.wo,p.we))[i]?=(b.ah.map λp=>(p.nm,p.ow,p.wo,p.we))[i]?:=e;rw[bQ,bQ,h]at e;obtain⟨p,ep,e2⟩:=mj.mp e;have e2:(p.nm,p.ow,p.wo,p.we)=(q.nm,q.ow,q.wo,q.we):=e2;simp only[Prod.mk.injEq]at e2;exact⟨p,ep,e2⟩
theorem ku.at'{st:HS}(r:ku st b)(h:st.ah[i]?=some p):∃q,b.ah[i]?=some q/\p.nm=q.nm/\p.ow=q.ow/\p.wo=q.wo/\p.we=q.we:=by
 have hi:i<b.ah.length:=by rw[<-r.len];exact(dj.mp h).1
 have eq:=a_ hi;obtain⟨p',e',z⟩:=r.at eq;rw[h]at e';cases e';exact⟨_,eq,z⟩
theorem HJ{B:Int}(hB:0<=B):∀{ps:List BP}{as:List Int},(∀p∈ps,∀t∈p.tops,0<=t/\t<=B)->(∀a∈as,0<=a)->∀i,0<=iu ps as i/\iu ps as i<=B*as.sum
 | [],as,_,ha,i=>by
  have:0<=as.sum:=by
   cases as with
   | nil=>exact dZ _
   | cons a l=>exact Bh (ha a cQ) (xy ha cQ)
  exact⟨by show(0:Int)<=0;omega,j9 hB this⟩
 | _::_,[],_,_,i=>by show 0<=(0:Int)/\(0:Int)<=B*0;omega
 | p::ps,a::as,h,ha,i=>by
  have ih:=HJ hB (ps:=ps) (as:=as) (λx hx=>h x (cR _ hx)) (λx hx=>ha x (cR _ hx)) i;have a0:=ha a cQ;have ht:0<=p.tops.getD i 0/\p.tops.getD i 0<=B:=by
   rw[dG];cases e:p.tops[i]? with
   | none=>exact⟨dZ _,hB⟩
   | some t=>exact h p cQ t (aY e)
  have e:iu (p::ps) (a::as) i=p.tops.getD i 0*a+iu ps as i:=by unfold iu;rw[tY,b8]
  have k1:0<=p.tops.getD i 0*a:=j9 ht.1 a0;have k2:p.tops.getD i 0*a<=B*a:=OG ht.2 a0;rw[e,b8,kO];omega
theorem Tg(wf:xw b){aw:Int}(ok:lz b as seat aw):∀g∈gU b as seat aw,0<=g/\g<=b.bot*(as.sum+aw):=by
 have b1:=wf.b1;have cb:=HJ (B:=b.bot) (by omega) wf.t0 ok.a0;have D8:=ok.D8;have m0:0<=b.bot*aw:=j9 (by omega) D8;have hg:∀g∈gF b as,0<=g/\g<=b.bot*as.sum:=λg h=>by obtain⟨i,_,rfl⟩:=aX.mp h;exact cb i
 intro g h;rw[kO];unfold gU at h;split at h
 .rcases JR h with z|z
  .have:=hg g z;omega
  .have hs:seat<(gF b as).length:=by rw[kR];exact ok.seat
   have e:(gF b as).getD seat 0=(gF b as)[seat] :=by rw[dG,a_ hs];rfl
   have:=hg _ (yF hs);rw[z,e,kN aw];omega
 .have:=hg g h;omega
theorem VF(wf:xw b){aw:Int}(ok:lz b as seat aw)(hz:Jm.Sz 7000 (b.bot*bN b)):xw (i6 b as seat aw):=by
 have b1:=wf.b1;have gb:=Tg wf ok;have kp:=ok.kept;have as0:0<=as.sum:=by
  cases has:as with
  | nil=>exact dZ _
  | cons a l=>exact Bh (ok.a0 a (by rw[has];exact cQ)) (by rw[<-has];exact xy ok.a0 (by rw[has];exact cQ))
 have D8:=ok.D8;have CD:∀p∈(c6 b as seat aw).filter (λp=>decide (0<p.wo)),0<p.wo/\∃p0∈b.ah,∃a,p=mF (gU b as seat aw) (bN b-aw-as.sum) p0 a:=λp hp=>by obtain⟨h1,h2⟩:=iz.mp hp;obtain⟨i,x,a,ex,_,e⟩:=jd (show p∈List.zipWith (mF (gU b as seat aw) (bN b-aw-as.sum)) b.ah as from h1);exact⟨dW h2,x,aY ex,a,e⟩
 have nmE:(c6 b as seat aw).map (λp:BP=>p.nm)=b.ah.map (λp:BP=>p.nm):=by have:=S_ (seat:=seat) (aw:=aw) ok.len b.ah.length;rw[JB,sJ,show(c6 b as seat aw).take b.ah.length=c6 b as seat aw from by rw[<-xx ok.len];exact cM]at this;exact this
 refine⟨?_,λp hp=>?_,λp hp t ht=>?_,?_,hz,λp hp=>?_,wf.ol,?_,wf.kl⟩
 .have:(((c6 b as seat aw).filter λp=>decide (0<p.wo)).map (λp:BP=>p.nm)).Sublist ((c6 b as seat aw).map (λp:BP=>p.nm)):=JY.map _;rw[nmE]at this;exact wf.nd.sublist this
 .obtain ⟨_,p0,h0,a,rfl⟩:=CD p hp;show(List.zipWith _ p0.tops (gU b as seat aw)).length=b.own.length;rw[jX,wf.tl p0 h0,vG];omega
 .obtain ⟨_,p0,h0,a,rfl⟩:=CD p hp;obtain⟨i,x,g,ex,eg,rfl⟩:=jd (show t∈List.zipWith (λt g=>t*(bN b-aw-as.sum)+g) p0.tops (gU b as seat aw)from ht);have hx:=wf.t0 p0 h0 x (aY ex);have hg:=gb g (aY eg);have k1:0<=x*(bN b-aw-as.sum):=j9 hx.1 (by omega);have k2:x*(bN b-aw-as.sum)<=b.bot*(bN b-aw-as.sum):=OG hx.2 (by omega);have k3:b.bot*(bN b-aw-as.sum)+b.bot*(as.sum+aw)=b.bot*bN b:=by rw[<-kO];congr 1;omega
  exact⟨by omega,by show _<=b.bot*bN b;omega⟩
 .show 1<=b.bot*bN b;have:b.bot*1<=b.bot*bN b:=GQ (by omega) (by omega);omega
 .exact (CD p hp).1
 .have:=E_ (λp:BP=>decide (0<p.wo)) (c6 b as seat aw);rw[xx ok.len]at this;exact fZ this wf.pl
theorem Pc(wf:xw b)(h:uW b rs)(hl:bJ rs<bN b)(ho:0<b.own.length)(hz:Jm.Sz 60 (bN b)):lz b (c9 b rs) 0 0:=by have hs:=HD wf.nd h rs.length (aL _);rw[cM]at hs;refine⟨Ay b rs,λa ha=>?_,ho,dZ _,by rw[hs];omega,hz⟩;obtain⟨p,_,rfl⟩:=aX.mp ha;exact VE (λr hr=>(h.row r hr).1) p.nm
inductive aaL(K:Fg)(vs:List V)(H:Hp)(Q:VK)(E:XK):Prop
 |mk(n ρ B b:_)(l:Addr)(us:List V)(rs:List Row)(_:vs=[.ref B.m,.ref l])(_:Gh ρ H)(_:bg n ρ B H b)(_:xw b)(_:aD K H l us)(_:gi H us rs)(_:ρ l=none)(_:uW b rs)(_:rs.length<=1000)(_:lz b (c9 b rs:_) 0 0)(_:∀ρ' B' H',Gh ρ' H'->bg n ρ' B' H' (i6 b (c9 b rs:_) 0 0)->B'.m=B.m->Fr n ρ H ρ' H'->Q .cy H')
def Pd(K:Fg):Sp:=bx (aaL K)
theorem Yj(wf:xw b){o:Str}(h1:x∉b.ah.map (λp:BP=>p.nm))(h2:1<=wo)(h3:b.ah.length<1000)(h4:b.eF.length<1000):xw (y9 b x o wo we):=by
 have P:∀{M:BP->Prop},(∀p∈b.ah,M p)->M ⟨x,o,wo,we,(List.replicate b.own.length 0).set (b.own.idxOf o) b.bot⟩->∀p∈(y9 b x o wo we).ah,M p:=λa c p hp=>by
  rcases dI.mp (show p∈b.ah++[_]from hp)with z|z
  .exact a p z
  .rw [dS.mp z];exact c
 have b1:=wf.b1;refine⟨?_,P wf.tl (by show((List.replicate b.own.length (0:Int)).set _ _).length=_;rw[eX,iW];rfl),P wf.t0 (λt ht=>?_),wf.b1,wf.bz,P wf.w1 h2,wf.ol,?_,?_⟩
 .show ((b.ah++[_]).map (λp:BP=>p.nm)).Nodup;rw[bL];exact m7 wf.nd h1
 .rcases yW ht with z|z
  .rw [z];show 0<=0/\0<=b.bot;omega
  .rw [z];show 0<=b.bot/\b.bot<=b.bot;omega
 .show (b.ah++[_]).length<=1000;rw[c7];show b.ah.length+1<=1000;omega
 .show (b.eF++[_]).length<=1000;rw[c7];show b.eF.length+1<=1000;omega
theorem jR:∀(rs:List Row)(s:HS),rs.foldl d7 s={ s with ah:=(rs.foldl d7 s).ah }
 | [],_=>rfl
 | r::rs,s=>by rw[j8,jR rs (d7 s r)];rfl
def CF(st:HS)(b:BS):Prop:=∀p∈st.ah,∀q∈b.ah,p.nm=q.nm->∀j,q.tops.getD j 0*st.prod=(aM st p).getD j 0*b.bot
theorem kT{f:Int->Int->Int}(hf:f 0 0=0){xs ys:List Int}(h:xs.length=ys.length)(j:Nat):(List.zipWith f xs ys).getD j 0=f (xs.getD j 0) (ys.getD j 0):=by
 rw[dG,dG,dG,Qj];by_cases c:j<xs.length
 .rw [a_ c,a_ (by omega)];rfl
 .rw [rA (by omega),rA (by omega)];exact hf.symm
def vH(rs:List Row)(f:Str->Int):Int:=(rs.map λr=>r.2*f r.1).sum
theorem Lk{st:HS}:∀(rs:List Row)(acc:List Int),(∀r∈rs,(aM st (cL st r.1)).length=acc.length)->∀j,(uT st acc rs).getD j 0=acc.getD j 0+vH rs λx=>(aM st (cL st x)).getD j 0
 | [],acc,_,j=>by show acc.getD j 0=_+0;omega
 | r::rs,acc,h,j=>by
  have hr:=h r cQ;have e:(List.zipWith (λx t=>x+r.2*t) acc (aM st (cL st r.1))).length=acc.length:=by rw[jX,hr];omega
  show(uT st (List.zipWith (λx t=>x+r.2*t) acc (aM st (cL st r.1))) rs).getD j 0=_;rw[Lk rs _ (λx hx=>by rw[e];exact h x (cR _ hx)),kT (f:=λx t=>x+r.2*t) (by show(0:Int)+r.2*0=0;omega) hr.symm];unfold vH;rw[bF,b8];show acc.getD j 0+r.2*(aM st (cL st r.1)).getD j 0+(rs.map λr=>r.2*(aM st (cL st r.1)).getD j 0).sum=acc.getD j 0+(r.2*(aM st (cL st r.1)).getD j 0+(rs.map λr=>r.2*(aM st (cL st r.1)).getD j 0).sum)
  omega
theorem Q0(nd:(b.ah.map (λp:BP=>p.nm)).Nodup)(h:uW b rs)(f:Str->Int):∀i≤rs.length,(b.ah.map λp=>f p.nm*dM (rs.take i) p.nm).sum=vH (rs.take i) f:=by
 intro i
 induction i with
 | zero=>
  intro _;rw[List.take_zero];show(b.ah.map λp=>f p.nm*0).sum=0;clear nd h;generalize b.ah=ps
  induction ps with
  | nil=>rfl
  | cons p ps ih=>rw[bF,b8,ih];omega
 | succ i ih=>
  intro hi;have ei:=a_ (show i<rs.length by omega);obtain⟨_,j,p,hp,e,_⟩:=h.row _ (aY ei);have hn:(rs[i]).1∉(rs.take i).map (λr:Row=>r.1):=by rw[Be];exact kq h.nd (by rw[bQ,ei];rfl)
  rw[take_snoc ei];generalize rs[i]=r at *;replace ih:=ih (by omega);generalize rs.take i=us at *;have:vH (us++[r]) f=vH us f+r.2*f r.1:=by unfold vH;rw[bL,Df];simp
  rw[this,<-ih];clear this ih hi ei;have hm:=aY hp;clear hp;generalize b.ah=ps at *;clear h
  induction ps with
  | nil=>simp at hm
  | cons x ps ihp=>
   obtain⟨n1,n2⟩:=gP.mp (show(x.nm::ps.map (λp:BP=>p.nm)).Nodup from nd);rw[bF,bF,b8,b8];rcases eZ.mp hm with z|z
   .subst z;have rest:(ps.map λp=>f p.nm*dM (us++[r]) p.nm)=ps.map λp=>f p.nm*dM us p.nm:=p5 λy hy=>by rw[nj hn,av (λz=>n1 (aX.mpr ⟨y,hy,z.symm.trans e.symm⟩))]
    rw[rest,nj hn,ay e.symm,e,uV hn,Int.mul_zero,kN r.2];omega
   .have ne:x.nm≠r.1:=λz'=>n1 (aX.mpr ⟨p,z,e.trans z'.symm⟩);rw[ihp n2 z,nj hn,av (λz=>ne z.symm)];omega
theorem Ll:∀(rs:List Row){s:HS}{p':Pt},p'∈(rs.foldl d7 s).ah->∃p∈s.ah,p'.nm=p.nm/\p'.row=p.row/\p'.sc=p.sc
 | [],_,p',h=>⟨p',h,Z,Z,Z⟩
 | r::rs,s,p',h=>by obtain⟨p,hp,e1,e2,e3⟩:=Ll rs (s:=d7 s r) h;obtain⟨_,q,hq,e⟩:=rN hp;refine⟨q,hq,?_⟩;rw[e1,e2,e3,e];split <;> exact⟨Z,Z,Z⟩
theorem Yk{ps:List BP}(j:Nat):iu ps (ps.map λp=>dM rs p.nm) j=(ps.map λp=>p.tops.getD j 0*dM rs p.nm).sum:=by
 unfold iu
 induction ps with
 | nil=>rfl
 | cons p ps ih=>rw[bF,tY,b8,bF,b8,ih]
theorem HK(k:Int){α:Type}(l:List α)(f g:α->Int)(h:∀x∈l,f x*k=g x):(l.map f).sum*k=(l.map g).sum:=by
 induction l with
 | nil=>show(0:Int)*k=0;omega
 | cons x l ih=>rw[bF,bF,b8,b8,mY,ih λy hy=>h y (cR _ hy),h x cQ]
theorem Az{st st':HS}{kept whole:Int}{added:List Int}(wf:Wf st)(bl:nc st kept whole lost added)(ec:st'.bU=(bf st kept whole added).bU)(ep:st'.prod=(bf st kept whole added).prod){p':Pt}(hp:p∈st.ah)(e2:p'.row=p.row)(e3:p'.sc=p.sc*kept / b_ st kept whole added){t0 gB B:Int}{j:Nat}(tj:t0*st.prod=(aM st p).getD j 0*B)(eB:gB*st.prod=added.getD j 0*B):(t0*kept+gB)*st'.prod=(aM st' p').getD j 0*(B*whole):=by
 obtain⟨hd,Th,hds,hdc⟩:=bl.dvds
 have agi:st'.bU=(gE st kept added).map (· / b_ st kept whole added):=by rw[ec];unfold bf;rw[Hw]
 have s1:1<=whole / b_ st kept whole added:=by
  have w1:0<whole:=by have:=bl.l;have:=bl.w;have:=bl.k;omega
  have:=Dj w1 Th;exact Qk hd (by omega)
 have WT:st'.prod=st.prod*(whole / b_ st kept whole added):=by rw[ep];unfold bf;rw[uS s1]
 have hds:=hds p hp
 have hrl:=wf.rows p hp
 have hcl:=wf.f7
 have gl:=bl.len
 have ewd:b_ st kept whole added*(whole / b_ st kept whole added)=whole:=Int.mul_ediv_cancel' Th
 have a5:b_ st kept whole added*p'.sc=p.sc*kept:=by rw[e3];exact Int.mul_ediv_cancel' hds
 rw[WT]
 clear ec ep WT e3 bl Th hds s1
 generalize b_ st kept whole added=d at *
 have etop:d*(aM st' p').getD j 0=(aM st p).getD j 0*kept+added.getD j 0:=by
  have a1:(aM st' p').getD j 0=p'.sc*p.row.getD j 0+((gE st kept added).map (· / d)).getD j 0:=by unfold aM;rw[agi,e2,kT (f:=λr c=>p'.sc*r+c) (by show p'.sc*0+0=0;omega)];rw[aE];unfold gE;rw[jX,gl,hrl,hcl];omega
  have a2:(aM st p).getD j 0=p.sc*p.row.getD j 0+st.bU.getD j 0:=by unfold aM;exact kT (f:=λr c=>p.sc*r+c) (by show p.sc*0+0=0;omega) (by rw[hrl,hcl]) j
  have a3:(gE st kept added).getD j 0=st.bU.getD j 0*kept+added.getD j 0:=by unfold gE;exact kT (f:=λt m=>t*kept+m) (by show(0:Int)*_+0=0;omega) gl.symm j
  have a4:d*((gE st kept added).map (· / d)).getD j 0=(gE st kept added).getD j 0:=by
   rw[dG,dG,bQ];cases ec:(gE st kept added)[j]? with
   | none=>show _*0=(0:Int);omega
   | some x=>exact Int.mul_ediv_cancel' (hdc x (aY ec))
  rw[a1,kO,<-iG,a5,a4,a3,a2]
  grind
 generalize whole / d=Ti at *
 generalize (aM st' p').getD j 0=T' at *
 generalize (aM st p).getD j 0=T at *
 generalize added.getD j 0=gS at *
 refine Int.eq_of_mul_eq_mul_left (a:=d) (by omega) ?_
 have l1:d*((t0*kept+gB)*(st.prod*Ti))=(t0*st.prod*kept+gB*st.prod)*(d*Ti):=by grind
 have l2:d*(T'*(B*whole))=(d*T')*(B*whole):=by grind
 rw[l1,l2,ewd,tj,eB,etop]
 grind
theorem Tj{st:HS}(t:CF st b)(rl:ku st b)(wf:Wf st)(wb:xw b)(c:nT st rs)(rb:uW b rs)(bo:lz b (c9 b rs) 0 0):CF (gJ st rs) (i6 b (c9 b rs) 0 0):=by
 intro p' eL q' hq' en j;have bl:=c.blend wf;have ew:=rl.whole;have vI:∀r∈rs,∃p∈st.ah,p.nm=r.1:=λr hr=>by obtain⟨p,hp,e,_⟩:=(c.row r hr).2.2;exact⟨p,hp,e⟩
 have eG:=Aw wf vI;have gl:(gk st rs).length=st.bU.length:=bl.len;obtain⟨p1,hp1,e1,e2,e3⟩:=Ll rs (s:=bf st (aH st-bJ rs) (aH st) (gk st rs)) eL;have eK:=jR rs (bf st (aH st-bJ rs) (aH st) (gk st rs));have agj:p1∈st.ah.map (λp:Pt=>{ p with sc:=p.sc*(aH st-bJ rs) / b_ st (aH st-bJ rs) (aH st) (gk st rs) }):=by have h:=hp1;unfold bf at h;rw[kM]at h;exact h
 obtain⟨p,hp,rfl⟩:=aX.mp agj;have e1:p'.nm=p.nm:=e1;have e2:p'.row=p.row:=e2;have e3:p'.sc=p.sc*(aH st-bJ rs) / b_ st (aH st-bJ rs) (aH st) (gk st rs):=e3;have hcl:=wf.f7;obtain⟨h1,_⟩:=iz.mp (show q'∈(c6 b (c9 b rs) 0 0).filter _ from hq');obtain⟨k,q,a,eq,_,qt⟩:=jd (show q'∈List.zipWith (mF (gU b (c9 b rs) 0 0) (bN b-0-(c9 b rs).sum)) b.ah (c9 b rs)from h1);have hq:=aY eq;have enq:p.nm=q.nm:=by rw[<-e1,en,qt];rfl
 have tj:=t p hp q hq enq j;have hs:=HD wb.nd rb rs.length (aL _);rw[cM]at hs;have eqt:q'.tops.getD j 0=q.tops.getD j 0*(bN b-bJ rs)+(gF b (c9 b rs)).getD j 0:=by rw[qt];show(List.zipWith _ q.tops (gU b (c9 b rs) 0 0)).getD j 0=_;rw[kT (f:=λt g=>t*(bN b-0-(c9 b rs).sum)+g) (by show(0:Int)*_+0=0;omega) (by rw[wb.tl q hq,vG]),hs,wW];rfl
 have eGj:(gk st rs).getD j 0=vH rs λx=>(aM st (cL st x)).getD j 0:=by
  rw[eG,Lk rs _ (λr hr=>by obtain⟨x,hx,e⟩:=vI r hr;rw[dN wf hx e,iW,rM wf hx])]
  have:(List.replicate st.bU.length (0:Int)).getD j 0=0:=by rw[dG,Qe];split <;> rfl
  omega
 have eBj:(gF b (c9 b rs)).getD j 0*st.prod=(gk st rs).getD j 0*b.bot:=by
  have pr:=Q0 wb.nd rb (λx=>(aM st (cL st x)).getD j 0) rs.length (aL _);rw[cM]at pr;rw[eGj,<-pr];by_cases cj:j<b.own.length
  .have e:(gF b (c9 b rs)).getD j 0=(b.ah.map λp=>p.tops.getD j 0*dM rs p.nm).sum:=by unfold gF;rw[dG,bQ,List.getElem?_range cj];exact Yk j
   rw[e,HK st.prod b.ah (λp=>p.tops.getD j 0*dM rs p.nm) (λp=>((aM st (cL st p.nm)).getD j 0*dM rs p.nm)*b.bot) (λx hx=>?_)]
   .exact (HK b.bot b.ah (λp=>(aM st (cL st p.nm)).getD j 0*dM rs p.nm) _ λx _=>rfl).symm
   .obtain ⟨i,hi,ei⟩:=oV hx;obtain⟨y,hy,ey,_⟩:=rl.at (i:=i) (q:=x) (by rw[a_ hi,ei])
    have hy:=aY hy;have:=t y hy x hx ey j;rw[dN wf hy ey,Int.mul_right_comm,this,Int.mul_right_comm]
  .have z1:(gF b (c9 b rs)).getD j 0=0:=by rw[dG,rA (by rw[kR];omega)];rfl
   have z2:(gk st rs).getD j 0=0:=by rw[dG,rA (by rw[gl,hcl,rl.own];omega)];rfl
   rw[z1,pr,<-eGj,z2];omega
 rw[eqt,<-ew];show _=(aM (gJ st rs) p').getD j 0*(b.bot*bN b);rw[<-ew];exact Az wf bl (by unfold gJ;rw[eK]) (by unfold gJ;rw[eK]) hp e2 e3 tj eBj
theorem Tn{st:HS}(t:CF st b)(rl:ku st b)(wf:Wf st)(wb:xw b){o:Str}(h1:x∉b.ah.map (λp:BP=>p.nm)):CF (xm st x o wo we) (y9 b x o wo we):=by
 intro p hp q hq en j;have nmE:∀y∈st.ah,y.nm∈b.ah.map (λp:BP=>p.nm):=λy hy=>by obtain⟨i,hi,ei⟩:=oV hy;obtain⟨z,hz,ez,_⟩:=rl.at' (i:=i) (p:=y) (by rw[a_ hi,ei]);rw[ez];exact aX.mpr ⟨z,aY hz,Z⟩
 show q.tops.getD j 0*st.prod=(aM st p).getD j 0*b.bot;rcases dI.mp (show p∈st.ah++[_]from hp)with zp|zp
 .rcases dI.mp (show q∈b.ah++[_]from hq)with zq|zq
  .exact t p zp q zq en j
  .rw [dS.mp zq]at en;have en:p.nm=x:=en;exact absurd (by rw[<-en];exact nmE p zp) h1
 .rcases dI.mp (show q∈b.ah++[_]from hq)with zq|zq
  .rw [dS.mp zp]at en;have en:x=q.nm:=en;exact absurd (by rw[en];exact aX.mpr ⟨q,zq,Z⟩) h1
  .rw [dS.mp zp,dS.mp zq];have e1:aM st ⟨x,o,wo,we,1,lO st ((List.replicate st.own.length 0).set (st.own.idxOf o) st.prod)⟩=(List.replicate st.own.length 0).set (st.own.idxOf o) st.prod:=by show List.zipWith (λr c=>1*r+c) (List.zipWith (λt c=>t-c) ((List.replicate st.own.length 0).set (st.own.idxOf o) st.prod) st.bU) st.bU=_;rw[Cz,wf.f7];exact JU (by rw[eX,iW];exact aL _)
   rw[e1,rl.own];show((List.replicate b.own.length 0).set (b.own.idxOf o) b.bot).getD j 0*st.prod=((List.replicate b.own.length 0).set (b.own.idxOf o) st.prod).getD j 0*b.bot;have key:∀v:Int,((List.replicate b.own.length 0).set (b.own.idxOf o) v).getD j 0=if b.own.idxOf o=j/\j<b.own.length then v else 0:=λv=>by
    rw[dG,Qt];by_cases c:b.own.idxOf o=j
    .rw [ay c];by_cases d:b.own.idxOf o<(List.replicate b.own.length (0:Int)).length
     .rw [ay d,ay ⟨c,by rw[iW]at d;omega⟩];rfl
     .rw [av d,av (λz=>d (by rw[iW];omega))];rfl
    .rw [av c,av (λz=>c z.1),Qe];split <;> rfl
   rw[key,key];split
   .exact kN _ _
   .omega
theorem Q2{st:HS}{b:BS}(t:CF st b)(rl:ku st b)(wf:Wf st)(wb:xw b){p:Pt}{q:BP}(hp:p∈st.ah)(hq:q∈b.ah)(e:p.nm=q.nm):mC st p=pT b.own q.tops b.bot:=by
 have p1:=wf.fH;have b1:=wb.b1;have l1:(aM st p).length=b.own.length:=by rw[rM wf hp,wf.f7,rl.own]
 have l2:q.tops.length=b.own.length:=wb.tl q hq;have tj:=t p hp q hq e;unfold mC pT;rw[rl.own];generalize aM st p=xs at *;generalize q.tops=ys at *;generalize b.own=own at *;have step:∀(own:List Str)(xs ys:List Int),xs.length=own.length->ys.length=own.length->(∀j,ys.getD j 0*st.prod=xs.getD j 0*b.bot)->(List.zip own xs).filterMap (λx=>if 0<x.2 then some (x.1,Jm.fr x.2 st.prod) else none)=(List.zip own ys).filterMap λx=>if 0<x.2 then some (x.1,Jm.fr x.2 b.bot) else none:=by
  intro own
  induction own with
  | nil=>intro xs ys _ _ _;simp
  | cons o own ih=>
   intro xs ys h1 h2 h3;cases xs with
   | nil=>simp at h1
   | cons x xs=>
    cases ys with
    | nil=>simp at h2
    | cons y ys=>
     have h0:y*st.prod=x*b.bot:=by simpa using h3 0
     have ih:=ih xs ys (by simpa using h1) (by simpa using h2) (λj=>by simpa using h3 (j+1));rw[List.zip_cons_cons,List.zip_cons_cons,Cm,Cm,ih];by_cases c:0<x
     .have c2:0<y:=by
       rcases Dp 0 y with z|z
       .exact z
       .have k1:y*st.prod<=0:=Int.mul_nonpos_of_nonpos_of_nonneg z (by omega);have k2:0<x*b.bot:=wX c (by omega);omega
      simp only[ay c,ay c2];rw[Jm.DG (t:=x) (b:=st.prod) (t':=y) (b':=b.bot) (by omega) (by omega) h0.symm]
     .have c2:¬ 0<y:=λz=>by have k1:0<y*st.prod:=wX z (by omega);have k2:x*b.bot<=0:=Int.mul_nonpos_of_nonpos_of_nonneg (by omega) (by omega);omega
      simp only[av c,av c2]
 exact step own xs ys l1 l2 tj
theorem xQ{α:Type}(f g:α->Int):∀l:List α,(l.map λx=>f x+g x).sum=(l.map f).sum+(l.map g).sum
 | []=>rfl
 | a::l=>by rw[bF,bF,bF,b8,b8,b8,xQ f g l];omega
theorem lH{α:Type}(f:α->Int)(k:Int):∀l:List α,(l.map λx=>f x*k).sum=(l.map f).sum*k
 | []=>by simp
 | a::l=>by rw[bF,bF,b8,b8,lH f k l,mY]
theorem Cd:∀(l:List Int)(n:Nat),l.length=n->(List.range n).map (λi=>l.getD i 0)=l:=λl n h=>by
 refine List.ext_getElem? λi=>?_;rw[bQ];by_cases hi:i<n
 .rw [List.getElem?_range hi,a_ (by omega)];show some (l.getD i 0)=_;rw[dG,a_ (by omega)];rfl
 .rw [rA (by rw[Fi];omega),rA (by omega)];rfl
theorem HL{B:Int}{n:Nat}:∀(ps:List BP)(as:List Int),(∀p∈ps,p.tops.length=n/\p.tops.sum=B)->as.length=ps.length->((List.range n).map (iu ps as)).sum=B*as.sum
 | [],[],_,_=>by
  have:(List.range n).map (iu [] [])=(List.range n).map λ_=>(0:Int)*0:=by congr 1
  rw[this,lH];simp
 | [],_::_,_,h=>by simp at h
 | _::_,[],_,h=>by simp at h
 | p::ps,a::as,hp,hl=>by
  have e:(List.range n).map (iu (p::ps) (a::as))=(List.range n).map λi=>p.tops.getD i 0*a+iu ps as i:=by congr 1
  obtain⟨h1,h2⟩:=hp p cQ;have ih:=HL ps as (λx hx=>hp x (cR _ hx)) (by simpa using hl);rw[e,xQ,lH,Cd _ _ h1,ih,h2,b8,kO]
theorem nV:∀{l:List Int}{i:Nat}{x:Int},i<l.length->(l.set i (l.getD i 0+x)).sum=l.sum+x
 | a::l,0,x,_=>by rw[J3,b8,b8];show a+x+_=_;omega
 | a::l,i+1,x,h=>by rw[J1,b8,b8];have:=nV (l:=l) (i:=i) (x:=x) (by simpa using h);have e:(a::l).getD (i+1) 0=l.getD i 0:=rfl;rw[e,this];omega
 | [],_,_,h=>by simp at h
theorem FN(k:Int):∀{ts gs:List Int},ts.length=gs.length->(List.zipWith (λt g=>t*k+g) ts gs).sum=ts.sum*k+gs.sum
 | [],[],_=>by simp
 | t::ts,g::gs,h=>by have:=FN k (ts:=ts) (gs:=gs) (by simpa using h);rw[tY,b8,b8,b8,this,mY];omega
 | [],_::_,h=>by simp at h
 | _::_,[],h=>by simp at h
theorem VG(wf:xw b){aw:Int}(ok:lz b as seat aw)(hs:∀p∈b.ah,p.tops.sum=b.bot):∀p∈(i6 b as seat aw).ah,p.tops.sum=(i6 b as seat aw).bot:=λp hp=>by
 obtain⟨h1,_⟩:=iz.mp (show p∈(c6 b as seat aw).filter _ from hp);obtain⟨i,x,a,ex,ea,rfl⟩:=jd (show p∈List.zipWith (mF (gU b as seat aw) (bN b-aw-as.sum)) b.ah as from h1);have hx:=aY ex;show(List.zipWith (λt g=>t*(bN b-aw-as.sum)+g) x.tops (gU b as seat aw)).sum=b.bot*bN b;rw[FN _ (by rw[wf.tl x hx,vG]),hs x hx];have eg:(gF b as).sum=b.bot*as.sum:=HL b.ah as (λp hp=>⟨wf.tl p hp,hs p hp⟩) ok.len;have e2:(gU b as seat aw).sum=b.bot*(as.sum+aw):=by
  unfold gU;by_cases h:0<aw
  .rw [ay h,nV (by rw[kR];exact ok.seat),eg,kO,kN aw]
  .have:aw=0:=by have:=ok.D8;omega
   rw[av h,eg,this,Int.add_zero]
 rw[e2,<-kO];congr 1;omega
inductive rO(own:List Str):List lq->List BE->Prop
 | nil:rO own [] []
 | cons {a:lq} {e:BE} {as:List lq} {es:List BE}:a.nm=e.nm->a.ow=e.ow->a.wo=e.wo->a.sh=pT own e.tops e.bot->e.tops.length<=own.length->0<e.bot->Jm.Sz 9000 e.bot->PyData.strOk e.nm=true->PyData.strOk e.ow=true->rO own as es->rO own (a::as) (e::es)
variable {own:List Str}
theorem rO.snoc{as:List lq}{es:List BE}(h:rO own as es){a:lq}{e:BE}(h1:a.nm=e.nm)(h2:a.ow=e.ow)(h3:a.wo=e.wo)(h4:a.sh=pT own e.tops e.bot)(h5:e.tops.length<=own.length)(h6:0<e.bot)(h7:Jm.Sz 9000 e.bot)(h8:PyData.strOk e.nm=true)(h9:PyData.strOk e.ow=true):rO own (as++[a]) (es++[e]):=by
 induction h with
 | nil=>exact .cons h1 h2 h3 h4 h5 h6 h7 h8 h9 .nil
 | cons a1 a2 a3 a4 a5 a6 a7 a8 a9 _ ih=>exact .cons a1 a2 a3 a4 a5 a6 a7 a8 a9 ih
structure fK(c:Nat)(st:HS)(b:BS):Prop where
 fT:xw b
 rel:ku st b
 qu:CF st b
 bK:∀u∈st.bK,Jm.Sz (60*c+60) u
 stp:st.stp.length<=c
 prod:Jm.Sz (60*c+1) st.prod
 bot:Jm.Sz (60*c+1) b.bot
 wo:∀p∈b.ah,p.wo<=1000000000*((c:Int)+1)
 we:∀p∈b.ah,p.we<=1000000000
 pl:b.ah.length<=50+c
 kl:b.eF.length<=900+c
 own:0<b.own.length
 nm:∀p∈b.ah,PyData.strOk p.nm=true/\PyData.strOk p.ow=true
 bD:rO b.own st.bD b.bD
 eF:st.nms=b.eF
 nk:∀x∈b.eF,isNm x=true
 on:∀o∈b.own,isNm o=true
 sum:∀p∈b.ah,p.tops.sum=b.bot
variable {c:Nat}
theorem fK.mono{st:HS}(g:fK c st b):fK (c+1) st b:=⟨g.fT,g.rel,g.qu,λu hu=>(g.bK u hu).mono (by omega),by have:=g.stp;omega,g.prod.mono (by omega),g.bot.mono (by omega),λp hp=>by have:=g.wo p hp;omega,g.we,by have:=g.pl;omega,by have:=g.kl;omega,g.own,g.nm,g.bD,g.eF,g.nk,g.on,g.sum⟩
theorem Ce:∀{ps:List BP}{m:Int},(∀p∈ps,1<=p.wo/\p.wo<=m)->0<=(ps.map λp=>p.wo).sum/\(ps.map λp=>p.wo).sum<=m*(ps.length:Int)
 | [],m,_=>by show 0<=(0:Int)/\(0:Int)<=m*0;omega
 | p::ps,m,h=>by have h0:=h p cQ;have ih:=Ce (ps:=ps) (m:=m) λx hx=>h x (cR _ hx);rw[bF,b8,iY,show(((ps.length+1:Nat)):Int)=(ps.length:Int)+1 from by omega,kO,ou];omega
theorem fK.whole{st:HS}(g:fK c st b)(hc:c<=100):0<=bN b/\Jm.Sz 60 (bN b):=by
 have h:=Ce (ps:=b.ah) (m:=101000000000) λp hp=>⟨g.fT.w1 p hp,by have:=g.wo p hp;omega⟩
 refine⟨h.1,?_⟩;have hl:=g.pl;have h2:(101000000000:Int)*(b.ah.length:Int)<=15150000000000:=by omega
 have h3:bN b<=15150000000000:=Bh h.2 h2;have h1:0<=bN b:=h.1;have:Jm.Sz 60 (15150000000000:Int):=iC (by decide +kernel);exact this.of_le (by omega)
variable {st':HS}
theorem Pe{st:HS}{aw kept:Int}(g:fK c st b)(bl:nc st kept (aH st) lost added)(bo:lz b as seat aw)(hc:c<=90)(eC:st'={ bf st kept (aH st) added with ah:=st'.ah })(rw':ku st' (i6 b as seat aw))(rt:CF st' (i6 b as seat aw)):fK (c+1) st' (i6 b as seat aw):=by
 have zw:=g.whole (by omega);have ew:=g.rel.whole;obtain⟨hs,hsw,_,_⟩:=bl.dvds;have w1:0<aH st:=by have:=bl.k;have:=bl.l;have:=bl.w;omega
 have s1:1<=aH st / b_ st kept (aH st) added:=by have:=Dj w1 hsw;exact Qk hs (by omega)
 have s2:aH st / b_ st kept (aH st) added<=aH st:=JA _ (by omega);have zs:Jm.Sz 60 (aH st / b_ st kept (aH st) added):=by have:=zw.2;rw[<-ew]at this;exact this.of_le (by omega)
 have CD:∀p∈(i6 b as seat aw).ah,∃p0∈b.ah,∃a,a∈as/\p=mF (gU b as seat aw) (bN b-aw-as.sum) p0 a:=λp hp=>by obtain⟨h1,_⟩:=iz.mp (show p∈(c6 b as seat aw).filter _ from hp);obtain⟨i,x,a,ex,ea,e⟩:=jd (show p∈List.zipWith (mF (gU b as seat aw) (bN b-aw-as.sum)) b.ah as from h1);exact⟨x,aY ex,a,aY ea,e⟩
 have zb:Jm.Sz (60*(c+1)+1) (b.bot*bN b):=(g.bot.mul zw.2).mono (by omega);refine⟨VF g.fT bo (zb.mono (by omega)),rw',rt,λu hu=>?_,?_,?_,zb,λp hp=>?_,(λp hp=>by obtain⟨p0,h0,a,_,rfl⟩:=CD p hp;exact g.we p0 h0),?_,(by show b.eF.length<=_;have:=g.kl;omega),g.own,λp hp=>?_,?_,?_,g.nk,g.on,VG g.fT bo g.sum⟩
 .rw [eC]at hu;have hu:u∈(bf st kept (aH st) added).bK:=hu;unfold bf at hu;rw[xo]at hu;obtain⟨x,hx,rfl⟩:=aX.mp hu;exact((g.bK x hx).mul zs).mono (by omega)
 .rw [eC];show(bf st kept (aH st) added).stp.length<=c+1;unfold bf fP;split
  .show (st.stp++[_]).length<=c+1;rw[c7];have:=g.stp;show st.stp.length+1<=c+1;omega
  .show st.stp.length<=c+1;have:=g.stp;omega
 .rw [eC];show Jm.Sz _ (bf st kept (aH st) added).prod;unfold bf;rw[uS s1];exact(g.prod.mul zs).mono (by omega)
 .obtain ⟨p0,h0,a,ha,rfl⟩:=CD p hp;have:=g.wo p0 h0;have:=bo.a0 a ha;show p0.wo-a<=1000000000*(((c+1:Nat):Int)+1);omega
 .have:=E_ (λp:BP=>decide (0<p.wo)) (c6 b as seat aw);rw[xx bo.len]at this;have:=g.pl;show(List.filter _ _).length<=_;omega
 .obtain ⟨p0,h0,a,_,rfl⟩:=CD p hp;exact g.nm p0 h0
 .rw [eC];show rO b.own (bf st kept (aH st) added).bD b.bD;unfold bf;rw[xr];exact g.bD
 .rw [eC];show(bf st kept (aH st) added).nms=b.eF;unfold bf;rw[xq];exact g.eF
theorem Yl{st:HS}(g:fK c st b)(wf:Wf st)(ok:nT st rs)(rb:uW b rs)(bo:lz b (c9 b rs) 0 0)(hc:c<=90):fK (c+1) (gJ st rs) (i6 b (c9 b rs) 0 0):=Pe g (ok.blend wf) bo hc (jR rs (bf st (aH st-bJ rs) (aH st) (gk st rs))) (Te g.rel wf ok) (Tj g.qu g.rel wf g.fT ok rb bo)
theorem Ym(st:HS)(rs:List Row):(gJ st rs).kn<=st.kn:=by
 unfold gJ;rw[jR];show(bf st (aH st-bJ rs) (aH st) (gk st rs)).kn<=st.kn;unfold bf fP;split
 .exact iA _
 .exact aL _
theorem By(h:isNm x=true):PyData.strOk x=true:=by
 unfold PyData.strOk;rw[Array.all_eq_true'];intro c hc;unfold isNm isName at h;have h1:=sH.mp (nH.mp h).2 c (by simpa using hc);rw[XZ]at h1;have hm:=dW h1;have:∀c∈("abcdefghijklmnopqrstuvwxyz":Str).cps.toList,c<1000:=by decide +kernel
 have:=this c hm;exact br (by omega)
theorem rP(n:Nat):(List.replicate n (0:Int)).sum=0:=by
 induction n with
 | zero=>rfl
 | succ n ih=>rw[yC,b8,ih];rfl
theorem Yn{st:HS}(g:fK c st b)(wf:Wf st){o:Str}(h1:x∉b.ah.map (λp:BP=>p.nm))(h2:1<=wo)(h2':wo<=1000000000)(h3:b.ah.length<50)(h4:b.eF.length<900)(hx:isNm x=true)(ho:o∈b.own)(h5:we<=1000000000):fK c (xm st x o wo we) (y9 b x o wo we):=by
 have P:∀{M:BP->Prop},(∀p∈b.ah,M p)->M ⟨x,o,wo,we,(List.replicate b.own.length 0).set (b.own.idxOf o) b.bot⟩->∀p∈(y9 b x o wo we).ah,M p:=λa c p hp=>by
  rcases dI.mp (show p∈b.ah++[_]from hp)with z|z
  .exact a p z
  .rw [dS.mp z];exact c
 refine⟨Yj g.fT h1 h2 (by omega) (by omega),Tf g.rel x o wo we,Tn g.qu g.rel wf g.fT h1,g.bK,g.stp,g.prod,g.bot,P g.wo (by show wo<=_;omega),P g.we h5,by show(b.ah++[_]).length<=50+c;rw[c7];show b.ah.length+1<=50+c;omega,by show(b.eF++[_]).length<=900+c;rw[c7];show b.eF.length+1<=900+c;omega,g.own,P g.nm ⟨By hx,By (g.on o ho)⟩,g.bD,?_,?_,g.on,P g.sum ?_⟩
 .show st.nms++[x]=b.eF++[x];rw[g.eF]
 .intro y hy;rcases dI.mp (show y∈b.eF++[x]from hy)with z|z
  .exact g.nk y z
  .rw [dS.mp z];exact hx
 .show ((List.replicate b.own.length 0).set (b.own.idxOf o) b.bot).sum=b.bot;have hi:b.own.idxOf o<(List.replicate b.own.length (0:Int)).length:=by rw[iW];exact JT.mpr ho
  have:=nV (x:=b.bot) hi;rw[show(List.replicate b.own.length (0:Int)).getD (b.own.idxOf o) 0=0 from by rw[dG,a_ hi,List.getElem_replicate];rfl,wV,rP,wV]at this;exact this
theorem nt:∀(l:List Str)(st:HS),st.ah=[]->(∀u∈st.bK,u=0)->(l.foldl gI st).ah=[]/\(l.foldl gI st).nms=st.nms/\(l.foldl gI st).stp=st.stp/\(l.foldl gI st).prod=st.prod/\(l.foldl gI st).bD=st.bD/\∀u∈(l.foldl gI st).bK,u=0
 | [],_,h,hp=>⟨h,Z,Z,Z,Z,hp⟩
 | o::l,st,h,hp=>by
  rw[j8];exact nt l (gI st o) (by show st.ah.map _=[];rw[h];rfl) (λu hu=>by
   rcases dI.mp (show u∈st.bK++[0]from hu)with z|z
   .exact hp u z
   .exact dS.mp z)
theorem gd0(h0:0<own.length)(h1:own.length<=100)(hon:∀o∈own,isNm o=true):fK 0 (own.foldl gI hs0) ⟨own,[],1,[],[]⟩/\(own.foldl gI hs0).nms=[] :=by obtain⟨k1,k2,k3,k4,k5,k6⟩:=nt own hs0 rfl (λu hu=>absurd hu (by simp[hs0]));refine⟨⟨⟨wR,λp hp=>absurd hp (by simp),λp hp=>absurd hp (by simp),dZ _,(by show Jm.Sz 7000 1;exact iC (by decide +kernel)),λp hp=>absurd hp (by simp),h1,iA _,iA _⟩,⟨by rw[tM];rfl,by unfold ia nq;rw[k1];rfl⟩,(λp hp=>by rw[k1]at hp;exact absurd hp (by simp)),(λu hu=>by rw[k6 u hu];exact iC (by decide +kernel)),by rw[k3];exact aL _,(by rw[k4];show Jm.Sz (60*0+1) 1;exact iC (by decide +kernel)),(by show Jm.Sz (60*0+1) 1;exact iC (by decide +kernel)),λp hp=>absurd hp (by simp),λp hp=>absurd hp (by simp),iA _,iA _,h0,λp hp=>absurd hp (by simp),(by rw[k5];exact .nil),k2,(λx hx=>nomatch hx),hon,λp hp=>absurd hp (by simp)⟩,k2⟩
def yi(K:Fg)(ρ:fG)(H:Hp)(z:Addr)(xs:List V):Prop:=∀(ρ':fG)(H':Hp),aN (out ρ H) (out ρ' H')->aD K H' z xs
theorem yi.of(h:aD K H z xs):yi K (λ_=>none) H z xs:=λρ' H' s=>by
 rcases h with(h|⟨o,h⟩)|h
 .exact .inl (.inl (yR (s _ _ (DY h rfl))).1)
 .exact .inl (.inr ⟨o,(yR (s _ _ (DY h rfl))).1⟩)
 .exact .inr h
theorem yi.go(h:yi K ρ H z xs)(s:aN (out ρ H) (out ρ' H')):yi K ρ' H' z xs:=λ_ _ s'=>h _ _ (s.trans s')
theorem HH.other{st:HS}(h:HH T n ρ A H st)(f:Fr m ρ H ρ' H')(g:Gh ρ' H')(e:n≠m):HH T n ρ' A H' st:=⟨g,h.h.other f h.g e,h.wf⟩
theorem Lm:∀(l:List Str)(st:HS),(l.foldl gI st).kn=st.kn
 | [],_=>rfl
 | o::l,st=>by rw[j8,Lm l];rfl
structure dh(K:Fg)(x:Str)(st:Stmt):Prop where
 ex:∃(f:Addr)(oc:Value)(od an:Option Addr)(sl:Array (Option Value))(kV dc pm cd ct:Value),PySem.W.nsIn K mainGlobals x=some (some (.ref f))/\K.lookup f=some ⟨oc,od,.func (PySem.W.fnOf x x (gy st) (dP st) (aC st) .none kV dc pm an cd ct),sl⟩/\PySem.W.codeIn K cd x=true/\PySem.W.keepIn K (.ref f)=true
theorem dh.at{st:Stmt}(d:dh K x st)(X:K.In h)(G:h.Ns mainGlobals mg):∃f fd,At K mg x st f fd:=by obtain⟨f,oc,od,an,sl,kV,dc,pm,cd,ct,a,l,c,k⟩:=d.ex;exact⟨f,_,WB X G a l c k⟩
structure dD(K:Fg)(C:Addr)(n qual:Str)(st:Stmt):Prop where
 ex:∃(f:Addr)(oc:Value)(od an:Option Addr)(sl:Array (Option Value))(kV dc pm cd ct:Value),PySem.W.findIn K (.ref C) n=some (some (.ref f))/\PySem.W.isFn K (.ref f)=true/\K.lookup f=some ⟨oc,od,.func (PySem.W.fnOf n qual (gy st) (dP st) (aC st) .none kV dc pm an cd ct),sl⟩/\PySem.W.codeIn K cd qual=true/\PySem.W.keepIn K (.ref f)=true
theorem dD.at{n:Str}{st:Stmt}(d:dD K C n qual st)(cl:qb K C):∃f fd,ja K C n qual st f fd:=by obtain⟨f,oc,od,an,sl,kV,dc,pm,cd,ct,a,i,l,c,k⟩:=d.ex;exact⟨f,_,Kw l c k,⟨a,i,k⟩,cl⟩
theorem dD.made{st:Stmt}(d:dD K C "__init__" qual st)(X:K.In h)(G:h.Ns mainGlobals mg)(a0:PySem.W.nsIn K mainGlobals x=some (some (.ref C)))(m:PySem.W.makesIn K C=true)(kc:PySem.W.keepIn K (.ref C)=true):∃f fd,Ho K mg x C qual st f fd:=by obtain⟨f,oc,od,an,sl,kV,dc,pm,cd,ct,a,i,l,c,k⟩:=d.ex;exact⟨f,_,Kw l c k,⟨m,a,i,kc⟩,PySem.W.mg_of X G a0⟩
variable {oc pm ct:Value}{od an:Option Addr}{sl:Array (Option Value)}
theorem dh.of{st:Stmt}{kV dc cd:Value}(a:PySem.W.nsIn K mainGlobals x=some (some (.ref f)))(l:K.lookup f=some ⟨oc,od,.func (PySem.W.fnOf x x (gy st) (dP st) (aC st) .none kV dc pm an cd ct),sl⟩)(c:PySem.W.codeIn K cd x=true)(k:PySem.W.keepIn K (.ref f)=true):dh K x st:=⟨⟨_,_,_,_,_,_,_,_,_,_,a,l,c,k⟩⟩
theorem dD.of{n:Str}{st:Stmt}{kV dc cd:Value}(a:PySem.W.findIn K (.ref C) n=some (some (.ref f)))(i:PySem.W.isFn K (.ref f)=true)(l:K.lookup f=some ⟨oc,od,.func (PySem.W.fnOf n qual (gy st) (dP st) (aC st) .none kV dc pm an cd ct),sl⟩)(c:PySem.W.codeIn K cd qual=true)(k:PySem.W.keepIn K (.ref f)=true):dD K C n qual st:=⟨⟨_,_,_,_,_,_,_,_,_,_,a,i,l,c,k⟩⟩
section
variable {X:Cx}
variable {o i:Expr}{pos:Pos}{td ty:TE}
end
section
variable {a b:List Nat}{m v:Int}(ha:qf a)(hb:qf b)(hm:1<=m)(hm2:m<=1000000000)(hv:0<=v)(hv2:v<=1000000000)
include ha hb hm hm2 hv hv2 in
end
section
variable {X:Cx}
end
section
variable {X:Cx}
end
section
variable {P:Program}{w:World}{K:Fg}{mg:SO}{base:Heap}{N:List Str}{qual:Str}{scope:Scope}{f:Addr}{cd:Value}{A:Around}{outer:List Env}{s0:Shared}{H0:Hp}{E:XK}{CX:z9}
end
section
variable {P:Program}{w:World}{K:Fg}{mg:SO}{base:Heap}{N:List Str}{qual:Str}{scope:Scope}{f:Addr}{cd:Value}{A:Around}{outer:List Env}{s0:Shared}{H0:Hp}{E:XK}
end
section
variable {X:Cx}{pins:AO}{σ:St}{Hc H:Hp}{sc s:Shared}{x C:Addr}{fl:Value}
end
section
variable {X:Cx}{pins:AO}{σ:St}{Hc H:Hp}{sc s:Shared}{x C:Addr}{fl:Value}
end
section
variable {X:Cx}{pins:AO}{σ:St}{Hc H:Hp}{sc s:Shared}{x C:Addr}{fl:Value}
end
open PySem.W PySem.Calls Builtin.ObjectAttr Builtin.Getset_descriptor
section
variable {prog:Program}{w:World}{A:Around}{E:VS}{h:Heap}{g:Array GenState}{d:Drawn}{t:Nat}{os:OsState}{x C:Addr}{o:Obj}{K:Frag}{R:Result->Shared->Prop}
end
section
variable {X:Cx}
end
structure Ec where
 (bad twice adk aaN adl aaO agk rows agl adm ai6:Addr)
section
end
section
variable {P:Program}{w:World}{K:Fg}{mg:SO}{base:Heap}{N:List Str}{qual:Str}{scope:Scope}{f:Addr}{cd:Value}{A:Around}{outer:List Env}{s0:Shared}{H0:Hp}{E:XK}
end
section
variable {X:Cx}
end
def Ec.at(e:Ec):Nat->Addr
 | 0=>e.bad|1=>e.twice|2=>e.adk|3=>e.aaN|4=>e.adl|5=>e.aaO|6=>e.agk|7=>e.rows|8=>e.agl|_=>e.adm
def Rf(e:Ec)(E:XK)(H:Hp)(i:Nat):Prop:=∀x H',aN H H'->E (.ref x) (some (e.at i)) H'
structure HM(T:TC)(e:Ec)(n:Nat)(ρ:fG)(A:HA)(H:Hp)(r:Option Nat)(st':HS)(Q:VK)(E:XK):Prop where
 no:∀i,r=some i->Rf e E H i
 ok:r=none->xj T n ρ A H st' λH'=>Q .cy H'
def newR(st:HS)(x:Str):Option Nat:=if isNm x=true then(if x∈st.nms then some 1 else none) else some 0
def zf(st:HS)(o:Str):Option Nat:=if isNm o=true then(if o∈st.own then some 1 else none) else some 0
def Ed(st:HS)(x o:Str)(wo we:Int):Option Nat:=match newR st x with
 | some i=>some i
 | none=>if o∈st.own then(if wo<1\/we<0 then some 5 else none) else some 2
inductive Yo(T:TC)(e:Ec)(vs:List V)(H:Hp)(Q:VK)(E:XK):Prop
 |mk(n ρ A st o:_)(_:vs=[.ref A.a,.str o])(_:aR T n ρ A H st)(_:(o∉st.own->Rf e E H 2))(_:(o∈st.own->Q (.int (st.own.idxOf o:Int)) H))
def zg(T:TC)(e:Ec):Sp:=bx (Yo T e)
inductive VH(T:TC)(e:Ec)(vs:List V)(H:Hp)(Q:VK)(E:XK):Prop
 |mk(n ρ A st x:_)(_:vs=[.ref A.a,.str x])(_:aR T n ρ A H st)(_:(st.ah.map (·.nm)).Nodup)(_:((∀p∈st.ah,p.nm≠x)->Rf e E H 3))(_:∀(i:Nat) (p:Pt) (q:Addr×Addr×Addr),p.nm=x->st.ah[i]?=some p->A.qs[i]?=some q->Q (.ref q.1) H)
def mG(T:TC)(e:Ec):Sp:=bx (VH T e)
inductive Q3(T:TC)(e:Ec)(vs:List V)(H:Hp)(Q:VK)(E:XK):Prop
 |mk(n ρ A st x:_)(_:vs=[.ref A.a,.str x])(_:aR T n ρ A H st)(_:x.cps.toList.length<=100000)(_:(∀i,newR st x=some i->Rf e E H i))(_:(newR st x=none->∀H',aN H H'->Q .cy H'))
def xR(T:TC)(e:Ec):Sp:=bx (Q3 T e)
theorem AA{st:HS}(h1:isNm x=true)(h2:x∉st.nms):newR st x=none:=by unfold newR;rw[ay h1,av h2]
theorem Q5{st:HS}{o:Str}(h1:isNm x=true)(h2:x∉st.nms)(h3:o∈st.own)(h4:1<=wo)(h5:0<=we):Ed st x o wo we=none:=by unfold Ed;rw[AA h1 h2];show(if o∈st.own then _ else _)=_;rw[ay h3,av (by omega)]
theorem HM.of{e:Ec}{r:Option Nat}(h:r=none)(q:xj T n ρ A H st' λH'=>Q .cy H'):HM T e n ρ A H r st' Q E0:=⟨(λi z=>by rw[h]at z;cases z),λ_=>q⟩
inductive Dd where
 | sign (o:Str)|load (x o:Str) (wo we:Int)|cast (rs:List Row)|award (o:Str) (a:Int)|mishap (x:Str) (a:Int)|rise (x:Str) (a:Int)|hand (x o:Str)|land (x:Str)|sever (x y:Str) (a we:Int)|still
def jS:List Row->List V
 | []=>[]
 | r::rs=> .str r.1 :: .int r.2::jS rs
def Dd.v:Dd->List V
 | .sign o=>[.str "sign",.str o]
 | .load x o wo we=>[.str "load",.str x,.str o,.int wo,.int we]
 | .cast rs=> .str "cast"::jS rs
 | .award o a=>[.str "award",.str o,.int a]
 | .mishap x a=>[.str "mishap",.str x,.int a]
 | .rise x a=>[.str "rise",.str x,.int a]
 | .hand x o=>[.str "hand",.str x,.str o]
 | .land x=>[.str "land",.str x]
 | .sever x y a we=>[.str "sever",.str x,.str y,.int a,.int we]
 | .still=>[.str "still"]
def fQ(st:HS):List Str:=st.ah.map λp=>p.nm
def lP(st:HS)(r:Row):Option Nat:=if r.1∈fQ st then(if r.2<1 then some 5 else if(cL st r.1).wo<r.2 then some 6 else none) else some 3
def xA(st:HS)(rs:List Row):Option Nat:=if rs≠[]/\(rs.map λr:Row=>r.1).Nodup then(match rs.findSome? (lP st)with
 | some i=>some i
 | none=>if aH st<=bJ rs then some 6 else none) else some 7
def mH(st:HS)(o:Str)(a:Int):Option Nat:=if o∈st.own then(if a<1 then some 5 else if aH st<=a then some 6 else none) else some 2
def sS(st:HS)(x:Str)(a:Int):Option Nat:=if x∈fQ st then(if a<1 then some 5 else none) else some 3
def oG(st:HS)(x o:Str):Option Nat:=if x∈fQ st then(if o∈st.own then none else some 2) else some 3
def uX(st:HS)(x:Str):Option Nat:=if x∈fQ st then none else some 3
def kC(st:HS)(x y:Str)(a we:Int):Option Nat:=if x∈fQ st then(match newR st y with
 | some i=>some i
 | none=>if a<1\/we<0 then some 5 else if(cL st x).wo<=a\/(cL st x).we<we then some 6 else none) else some 3
def vJ(st:HS):Dd->Option Nat
 | .sign o=>zf st o
 | .load x o wo we=>Ed st x o wo we
 | .cast rs=>xA st rs
 | .award o a=>mH st o a
 | .mishap x a=>lP st (x,a)
 | .rise x a=>sS st x a
 | .hand x o=>oG st x o
 | .land x=>uX st x
 | .sever x y a we=>kC st x y a we
 | .still=>none
def AB(st:HS)(o:Str)(a:Int):HS:=bf st (aH st-a) (aH st) ((List.replicate st.own.length 0).set (st.own.idxOf o) (a*st.prod))
def nW(st:HS)(x:Str)(f:Pt->Pt):HS:={ st with ah:=st.ah.map λp=>if p.nm=x then f p else p }
def Ef(st:HS)(x:Str)(a:Int):HS:=nW st x λp=>{ p with wo:=p.wo+a }
def nu(st:HS)(p:Pt)(o:Str):List Int:=((aM st p).set (st.own.idxOf o) ((aM st p).getD (st.own.idxOf o) 0+(aM st p).getD (st.own.idxOf p.ow) 0)).set (st.own.idxOf p.ow) 0
def iJ(st:HS)(x o:Str):HS:=if st.own.idxOf o=st.own.idxOf (cL st x).ow then st else nW st x λp=>{ p with ow:=o,sc:=1,row:=lO st (nu st p o) }
def gx(st:HS)(p:Pt):List Int:=List.zipWith (λu t=>u+p.wo*t) st.bK (aM st p)
def qw(st:HS)(x:Str):HS:={ st with ah:=st.ah.filter (λp=>decide (p.nm≠x)),bD:=st.bD++[⟨x,(cL st x).ow,(cL st x).wo,mC st (cL st x)⟩],kn:=st.kn+100,bK:=(gx st (cL st x)).set (st.own.idxOf (cL st x).ow) ((gx st (cL st x)).getD (st.own.idxOf (cL st x).ow) 0-(cL st x).wo*st.prod) }
def qx(st:HS)(x y:Str)(a we:Int):HS:=yV (nW st x λp=>{ p with wo:=p.wo-a,we:=p.we-we }) ⟨y,(cL st x).ow,a,we,(cL st x).sc,(cL st x).row⟩
def kg(st:HS):Dd->HS
 | .sign o=>gI st o
 | .load x o wo we=>xm st x o wo we
 | .cast rs=>gJ st rs
 | .award o a=>AB st o a
 | .mishap x a=>d7 st (x,a)
 | .rise x a=>Ef st x a
 | .hand x o=>iJ st x o
 | .land x=>qw st x
 | .sever x y a we=>qx st x y a we
 | .still=>st
def wl(s:Str):Nat:=s.cps.toList.length
section
variable {X:Cx}
end
section
variable {P:Program}{w:World}{K:Fg}{mg:SO}{base:Heap}{k:Nat}{T:TC}{e:Ec}{ps:List Str}
end
def nB(i:Int):Prop:=-1000000000<=i/\i<=1000000000
def Pf:Dd->Prop
 | .sign o=>wl o<=20
 | .load x o wo we=>wl x<=20/\wl o<=20/\nB wo/\nB we
 | .cast rs=>rs.length<=60/\∀r∈rs,wl r.1<=20/\nB r.2
 | .award o a=>wl o<=20/\nB a
 | .mishap x a=>wl x<=20/\nB a
 | .rise x a=>wl x<=20/\nB a
 | .hand x o=>wl x<=20/\wl o<=20
 | .land x=>wl x<=20
 | .sever x y a we=>wl x<=20/\wl y<=20/\nB a/\nB we
 | .still=>True
def Dd.k:Dd->Nat
 | .sign _=>0 | .load .. =>1 | .cast _=>2 | .award .. =>3 | .mishap .. =>4 | .rise .. =>5 | .hand .. =>6 | .land _=>7 | .sever .. =>8 | .still=>9
theorem To:∀{l:List Int},(∀x∈l,0<=x)->0<=l.sum
 | [],_=>dZ _
 | a::l,h=>by rw[b8];have:=h a cQ;have:=To (l:=l) λx hx=>h x (cR _ hx);omega
theorem AD:∀(l m:List Row),jS (l++m)=jS l++jS m
 | [],_=>rfl
 | r::l,m=>by
  show V.str r.1::V.int r.2::jS (l++m)=V.str r.1::V.int r.2::(jS l++jS m)
  rw[AD l m]
theorem AE:∀l:List Row,(jS l).length=2*l.length
 | []=>rfl
 | r::l=>by show(jS l).length+1+1=_;rw[AE l,iY];omega
theorem rQ(h:isNm x=true):wl x<=20:=by unfold isNm isName at h;have:=dW (nH.mp (nH.mp h).1).2;unfold wl;omega
theorem tO{st:HS}{o:Str}(h:Ed st x o wo we=none):isNm x=true/\x∉st.nms/\o∈st.own/\1<=wo/\0<=we:=by
 unfold Ed at h;cases hn:newR st x with
 | some j=>rw[hn]at h;cases h
 | none=>
  rw[hn]at h;have h':(if o∈st.own then(if wo<1\/we<0 then some 5 else none) else some 2)=none:=h;have hx:isNm x=true/\x∉st.nms:=by
   unfold newR at hn;by_cases c:isNm x=true
   .rw [ay c]at hn;by_cases m:x∈st.nms
    .rw [ay m]at hn;cases hn
    .exact ⟨c,m⟩
   .rw [av c]at hn;cases hn
  by_cases ho:o∈st.own
  .rw [ay ho]at h';by_cases hb:wo<1\/we<0
   .rw [ay hb]at h';cases h'
   .exact ⟨hx.1,hx.2,ho,by omega,by omega⟩
  .rw [av ho]at h';cases h'
end L2
set_option autoImplicit true
namespace L2
open PySem PySem.Spec PyProof.Rows
structure bE(X:Cx)(e:Expr)(t:TE):Prop where h:PE X e t
structure bT(X:Cx)(e:Expr)(t:TT):Prop where h:PT X e t
structure bW(X:Cx)(e:Expr)(t:TT):Prop where h:PW X e t
structure bA(X:Cx)(es:List Expr)(t:TA):Prop where h:PA X es t
structure bS(X:Cx)(s:Stmt)(t:TS):Prop where h:PS X s t
structure c5(X:Cx)(s:List Stmt)(t:TS):Prop where h:wY X s t
structure bC(X:Cx)(op:CmpOp)(a b:Expr)(t:TE):Prop where h:PC X op a b t
structure bG(X:Cx)(e:Expr)(t:TG):Prop where h:PG X e t
structure WU(X:Cx)(e:List Expr)(t:Dq):Prop where h:PGs X e t
structure bI(X:Cx)(tg iter:Expr)(wi:TI):Prop where h:PI X tg iter wi
structure WV(X:Cx)(pos:Pos)(ks:List (Option Expr))(vs:List Expr)(t:List (TE×TE)):Prop where h:PPs X pos ks vs t
theorem bW.pt{X:Cx}{e:Expr}{t:TT}(h:bW X e t):bT X e t:=⟨h.h.pt⟩
theorem Tp{op}{t:TE}(h:bE X a t):bE X (.BoolOp op [a] pos) t:=by have h:=h.h;exact⟨λpins s σ H Q I hw=>BoolOp_one (h pins s σ H Q I hw)⟩
theorem lC{e:Expr}{t:TE}(h:bE X e t)(he:∀whole,isTrue e X.env whole=(do let v <-whole;standAt e.pos;holding [v] (truthy v)):=by intro _;rfl):bT X e (tB t):=by have h:=h.h;constructor;intro pins s σ H Q I hw;refine isTrue_plain (bM (h pins s σ H _ I hw) λv s1 ⟨x,H1,I1,r1,q1⟩=>?_) (he _);obtain⟨d,rfl,q⟩:=q1;cases r1;exact Co ⟨H1,I1,q⟩
theorem aF{r:R2}(hr:zM X r)(ha:bE X a ta)(hb:bE X b tb)(hs:XA b:=by exact λ_ _=>rfl):bE X (.Subscript a b pos) (GU r ta tb):=by have ha:=ha.h;have hb:=hb.h;constructor;intro pins s σ H Q I h;exact Subscript_ (UY ha hb I h λv u s2 x y H2 I2 rx ry q=>hr a b pins s2 σ H2 x y v u Q I2 rx ry q (hs _ _))
theorem iK:WU X [] Zi:=by constructor;intro pins s σ H vs us Q I r h;obtain⟨e,h⟩:=h;subst e;cases r;exact assignInOrder_nil ⟨σ,H,I,h⟩
theorem Q6{x:Str}{n:String}{pos:Pos}(hv:bootBuiltins x=some (.type n))(hg:Gl X x)(hm:X.mg x=none)(hn:x ≠ "__name__":=by decide)(hd:(x==("__debug__":Str))=false:=by decide):bE X (.Name x pos) (tC (.ty n)):=by exact⟨Xo hg hm hv rfl hn hd⟩
theorem aS{i:Nat}{x:Str}(hN:X.N.Nodup)(hi:X.N[i]?=some x:=by rfl)(hx:Loc X.env.scope x:=by first|exact Or.inl rfl|exact Or.inr rfl)(hf:X.fn x=true\/X.env.scope.names.lookup x=some .local:=by first|exact .inl rfl|exact .inr rfl|assumption):bG X (.Name x pos) (lU i):=by constructor;intro pins s σ H v u Q I r h;exact wpAny_assign_Name (yK I hN hi hx r (λs' I'=>⟨_,H,I',h⟩) hf)
theorem CG{c:Expr}{body:List Stmt}{tc:TT}{tb:TS}(hp:PassesOwn (model X.prog X.w) X.A X.env X.xe)(hc:bT X c tc)(hb:c5 X body tb):bS X (.While c body [] pos) (Zp tc tb):=by
 have hc:=hc.h;have hb:=hb.h;constructor;intro pins s σ H D I h;obtain⟨W,⟨m0,w0⟩,turn⟩:=h;refine wpAny_While (codeAny_whileLoop (λn s'=>∃σ' H',Inv X pins σ' H' s'/\W n σ' H') ?_ m0 ⟨σ,H,I,w0⟩);rintro n s1 ⟨σ1,H1,I1,w1⟩;refine yG hp (bM (hc pins s1 σ1 H1 _ I1 (turn n σ1 H1 w1)) λb s2 ⟨H2,I2,q2⟩=>?_);cases b with
 | true=>
  obtain⟨N,hN,q2⟩:=q2;rw[ay rfl];refine yG hp (bM (hb pins s2 σ1 H2 _ I2 q2) λf s3 q3=>?_);cases f with
  | next=>obtain⟨σ3,H3,I3,n3⟩:=q3;obtain⟨m',hm,w3⟩:=hN σ3 H3 n3;exact⟨m',hm,σ3,H3,I3,w3⟩
  | cont=>obtain⟨σ3,H3,I3,n3⟩:=q3;obtain⟨m',hm,w3⟩:=hN σ3 H3 n3;exact⟨m',hm,σ3,H3,I3,w3⟩
  | brk=>exact q3
  | ret v=>exact q3
 | false=>rw[av gC];exact JJ ⟨σ1,H2,I2,q2⟩
theorem BB{tg:Expr}{ob:Expr}{td:TE}{apos cpos:Pos}(hob:bE X ob td)(hbase:attributeBase ob "values" X.env (eval ob X.env)=eval ob X.env:=by rfl)(hline:(apos.endLine==cpos.line)=true:=by rfl):bI X tg (.Call (.Attribute ob "values" apos) [] [] cpos) (ac4 td):=by
 have hob:=hob.h;constructor;intro pins s σ H R I h;refine wpAny_Call_method0_late hbase hline (bM (hob pins s σ H _ I h) λv s1 ⟨x,H1,I1,r1,q1⟩=>?_);obtain⟨d,o,kvs,rfl,e,fin⟩:=q1;cases r1;obtain⟨ho,hz,hsys,vs,ep,rel,da⟩:=I1.sR e;obtain⟨t1,t2,_⟩:=Kv I1 (.inl ⟨kvs,.inr ⟨o,e⟩⟩);have dd:=da.dictOf;refine⟨"dict",_,F.plainAttrs_dict,Qn,F.type_dict_values,t1,t2,Qg rfl (PySem.evalArgs_none ?_)⟩;refine call_meetsIn Qn dd.typeIs F.entry_dict_values (F.args_dict_values_1 _) (meets_dict_values (c8 X.prog X.w) d hsys) ⟨⟨vs,dd⟩,?_⟩;refine wpAny_pyIter_values (s:={ s1 with heap:=s1.heap.push { cls:=.type "dict_values",data:=.fields #[.ref d] } }) ⟨_,fC _ rfl,Z,Z⟩ (da.push _) ?_;have Iv:Inv X pins σ H1 { s1 with heap:=s1.heap.push { cls:=.type "dict_values",data:=.fields #[.ref d] } }:=I1.kept (t':=s1.toks) λb o e=>cV _ e;generalize ({ s1 with heap:=s1.heap.push { cls:=.type "dict_values",data:=.fields #[.ref d] } }:Shared)=sv at *;have I2:Inv X pins σ H1 { sv with heap:=sv.heap.push { cls:=.type "dict_valueiterator",data:=.fields #[.ref d,.int 0 0,.int vs.length 0,.int ep 0] } }:=Iv.kept (t':=sv.toks) λb o e=>cV _ e;have hl:kvs.length=vs.length:=rel.length;obtain⟨o',es,h1,_,h2,_⟩:=id da;rw[ho]at h1;cases h1;refine⟨sv.heap.objs.size,[sv.heap.objs.size],_,_,H1,Z,I2,SA h2,?_,λb hb=>?_,fin⟩
 .rw [hl];exact⟨_,fC _ rfl,Z,Z⟩
 .have eb:b=sv.heap.objs.size:=by simpa using hb
  subst eb;exact Iv.Cr (aL _) (Iv.hok.fresh (aL _))
theorem Pg{o i e:Expr}{to ti te:TE}{z7:V->V->Hp->VK->Prop}{zL:Kc}{p_:ua}{op:Operator}{tpos:Pos}(ho:bE X o to)(hi:bE X i ti)(hg:Zm X z7)(he:bE X e te)(hp:Zh X op zL)(hs:UP X p_)(ha:∀ov iv new,augStore i ov iv new=(do holding [new,ov,iv] (setItem ov iv new);release [new,ov,iv] [];pure .next):=by intros;rfl):bS X (.AugAssign (.Subscript o i tpos) op e pos) (acH to ti te z7 zL p_):=by have ho:=ho.h;have hi:=hi.h;have he:=he.h;constructor;intro pins s σ H D I h;refine wpAny_AugAssign_SubscriptAny (bM (ho pins s σ H _ I h) λov s1 ⟨x1,H1,I1,r1,q1⟩=>?_) ha;refine bM (hi pins s1 σ H1 _ I1 q1) λiv s2 ⟨x2,H2,I2,r2,q2⟩=>?_;refine bM (hg pins s2 σ H2 x1 x2 ov iv _ I2 r1 r2 q2) λold s3 ⟨x3,H3,I3,r3,q3⟩=>?_;refine bM (he pins s3 σ H3 _ I3 q3) λv s4 ⟨x4,H4,I4,r4,q4⟩=>?_;refine bM (hp pins s4 σ H4 x3 x4 old v _ I4 r3 r4 q4) λnew s5 ⟨x5,H5,I5,r5,q5⟩=>?_;exact bM (hs pins s5 σ H5 x1 x2 x5 ov iv new _ I5 r1 r2 r5 q5) λ_ s6 ⟨H6,I6,q6⟩=>⟨σ,H6,I6,q6⟩
theorem kU{id:String}(pa:PlainAttrs T)(slot:Slot T name id)(hty:typeOf (.builtin id)=pure (.type "method_descriptor"))(hm:MtR X id r)(ho:bE X o to)(ha:bA X (e::es) t)(hbase:attributeBase o name X.env (eval o X.env)=eval o X.env:=by rfl)(hfew:((backTo cpos (starEach (e::es) X.env)).all (λx=>!x.1) && (backToKw cpos (keywordEach [] X.env)).all (λx=>x.1.isSome)
   && decide ((e::es).length+([] :List Keyword).length+(if([] :List Keyword).isEmpty then 0 else 1)<30))=true:=by rfl)(hline:(apos.endLine==cpos.line)=true:=by rfl)(hs:starEach (e::es) X.env=(false,eval e X.env)::starEach es X.env:=by rfl)(hplain:(backTo cpos (starEach es X.env)).any (·.1)=false:=by rfl):bE X (.Call (.Attribute o name apos) (e::es) [] cpos) (tBM X.K T r to t):=by
 have ho:=ho.h;have ha:=ha.h;constructor
 intro pins s σ H Q I h
 refine wpAny_Call_method_late hbase hfew hline rfl (bM (ho pins s σ H _ I h) λv s1 ⟨x,H1,I1,r1,ty,q1⟩=>?_)
 obtain⟨h1,h2⟩:=ZP I1 r1 ty
 refine⟨T,id,pa,slot,hty,h1,h2,?_⟩
 have hA:=ha cpos pins s1 σ H1 _ I1 q1
 rw[hs]at hA ⊢
 refine Qg (by show(false || (backTo cpos (starEach es X.env)).any (·.1))=false;rw[hplain] <;> rfl) (Calls.evalArgs_plain ?_)
 exact bM hA λus s2 ⟨vs,H2,I2,r2,q2⟩=>hm pins s2 σ H2 x vs v us Q I2 r1 r2 q2
theorem Yp{X:Cx}{pos:Pos}:WV X pos [] [] [] :=by exact⟨λpins s σ H Q I h=>pairTrees_nil_walk ⟨[],H,I,.nil,h⟩⟩
theorem Ln{X:Cx}{e:Expr}{t:TE}(h:bE X e t):bE X e (agc t):=by have h:=h.h;constructor;intro pins s σ H Q I hw;obtain⟨d,kvs,e,hw⟩:=hw;obtain⟨ho,es,ep,h1,_⟩:=(DA I.hok e).2.2.choose_spec.2;have h0:=I.Sx e;exact bM (h pins s σ _ _ (I.freeze e h1) (hw ho)) λu s' ⟨v,H',I',r,q1,q2⟩=>⟨v,_,I'.Cw q1 h0,r,q2⟩
theorem VI{op op':CmpOp}{r r':R2}(ho:j7 X (compareOp op) r)(ho':j7 X (compareOp op') r')(ha:bE X a ta)(hb:bE X b tb)(hc:bE X c tc)(hm:lastMarks [op,op'] [b,c]=false:=by with_unfolding_all rfl):bE X (.Compare a [op,op'] [b,c] pos) (Zw r r' ta tb tc):=by
 have ha:=ha.h;have hb:=hb.h;have hc:=hc.h;constructor;intro pins s σ H Q I h;refine Compare_chain (bM (ha pins s σ H _ I h) λv s1 ⟨x,H1,I1,r1,q1⟩=>chain_link (bM (hb pins s1 σ H1 _ I1 q1) λu s2 ⟨y,H2,I2,r2,q2⟩=>
  bM (ho pins s2 σ H2 x y v u _ I2 r1 r2 q2) λd s3 ⟨z,H3,I3,r3,k,e,q3⟩=>?_)) hm
 subst e;cases r3;refine Co ?_;cases k with
 | false=>exact ite_ff ⟨.bl false,H3,I3,Z,q3⟩
 | true=>exact ite_tt (chain_last (bM (hc pins s3 σ H3 _ I3 q3) λw' s4 ⟨z',H4,I4,r4,q4⟩=>ho' pins s4 σ H4 y z' u w' Q I4 r2 r4 q4))
theorem iS{x1}(h:bA X es t):bE X (.Tuple es x1 pos) (af0 t):=by have h:=h.h;constructor;intro pins s σ H Q I hq;refine wpAny_Tuple_spliced (bM (h pos pins s σ H _ I hq) λus s1 ⟨xs,H1,I1,r,z,q⟩=>⟨by rw[<-r.length];exact z,?_⟩);have hf:H1 s1.heap.objs.size=none:=I1.hok.fresh (aL _);refine⟨.ref s1.heap.objs.size,upd H1 s1.heap.objs.size (.tup xs),I1.laid (t':=s1.toks) (λb u e=>cV _ e) (aL _) ?_,Z,q _ hf⟩;exact⟨z,us,r,⟨_,fC _ rfl,Z,_,Z⟩⟩
theorem vK{tg iter elt cond:Expr}{scope:Scope}{pos:Pos}(N2:List Str)(ix:List (Option Nat)){wi:TI}{g:TG}{tc:TT}{te:TE}(hc:X.calm=true)(hi:bI X tg iter wi)(hg:∀cl s₂ H₂ fp,bG (d_ X N2 scope cl s₂ H₂ fp) tg g)(he:∀cl s₂ H₂ fp,bE (d_ X N2 scope cl s₂ H₂ fp) elt te)(ht:∀cl s₂ H₂ fp,bT (d_ X N2 scope cl s₂ H₂ fp) cond tc)(hk:scope.kind =.function)(hn:tK X.N X.env.scope.names scope.names N2 ix=true)(hs:∀x,foldedSetIterable iter X.env x=pure x:=by intro _;rfl):bE X (.ListComp elt [⟨tg,iter,[cond],0⟩] scope pos) (So wi ix g tc te):=⟨Vq N2 ix hc hi.h (λcl s₂ H₂ fp=>(hg cl s₂ H₂ fp).h) (λcl s₂ H₂ fp=>(he cl s₂ H₂ fp).h) (λcl s₂ H₂ fp=>(ht cl s₂ H₂ fp).h) hk hn hs⟩
theorem aG{op:Operator}{r:R2}(ho:j7 X (binaryOp op) r)(ha:bE X a ta)(hb:bE X b tb):bE X (.BinOp a op b pos) (GU r ta tb):=by have ha:=ha.h;have hb:=hb.h;constructor;intro pins s σ H Q I h;exact wpAny_BinOp (UY ha hb I h λv u s2 x y H2 I2 rx ry q=>ho pins s2 σ H2 x y v u Q I2 rx ry q)
theorem yj{op:CmpOp}{t:TE}(h:bC X op a b t)(h1:behindInMarks op b=false:=by first|exact agm _ (by decide) (by decide)|rfl):bT X (.Compare a [op] [b] pos) (tB t):=by have h:=h.h;constructor;intro pins s σ H Q I hw;refine wpAny_isTrue_Compare1 (bM (h pins s σ H _ I hw) λv s1 h1=>bM h1 λu s2 h2=>bM h2 λc s3 ⟨x,H1,I1,r1,q1⟩=>?_) h1;obtain⟨d,rfl,q⟩:=q1;cases r1;exact Co ⟨H1,I1,q⟩
theorem fq{tg:Expr}{iter:Expr}{body:List Stmt}{wi:TI}{g:TG}{tb:TS}{pos:Pos}(hp:PassesOwn (model X.prog X.w) X.A X.env X.xe)(hc:X.calm=true)(hi:bI X tg iter wi)(hg:bG X tg g)(hb:c5 X body tb)(hs:∀x,foldedSetIterable iter X.env x=pure x:=by intro _;rfl):bS X (.For tg iter body [] pos) (afV wi g tb):=by
 have hi:=hi.h;have hg:=hg.h;have hb:=hb.h;constructor;intro pins s σ H D I h;refine wpAny_For (bM (hi pins s σ H _ I h) λv s1 h1=>bM h1 λitv s2 h2=>?_) hs;obtain⟨it,fp,tn,J,H2,e,I2,T,st2,f2,W,⟨m0,w0⟩,turn⟩:=h2;subst e;have vn:∀{H':Hp},(∀b∈fp,H' b=none)->∀b∈fp,qa X pins H' b:=λhn b hb=>⟨hn b hb,(f2 b hb).2⟩
 refine codeAny_forLoop_any (λn s'=>∃i σ' H',Inv X pins σ' H' s'/\tn i s'.heap/\(∀b∈fp,H' b=none)/\W i n σ' H') ?_ m0 ⟨0,σ,H2,I2,st2,λb hb=>(f2 b hb).1,w0⟩;rintro n s3 ⟨i,σ3,H3,I3,st3,WW,w3⟩;rcases turn i n σ3 H3 w3 with⟨stop,qn⟩|⟨go,N,hN,step⟩
 .refine yG hp (bM (T.done X rfl rfl rfl hc i pins s3 σ3 H3 X.xe I3 (vn WW) st3 stop) λr s4 ⟨hr,I4⟩=>?_);subst hr;exact JJ ⟨σ3,H3,I4,qn⟩
 .refine yG hp (bM (T.item X rfl rfl rfl hc i pins s3 σ3 H3 X.xe I3 (vn WW) st3 go) λr s4 ⟨u,hr,h4⟩=>?_);subst hr;refine yG hp (bM h4 λ_ s5 ⟨x,H5,I5,r5,y5,Ad,KG⟩=>?_);have I5':=I5.pinned (vn KG) (T.obj _ _ Ad);refine yG hp (bM (hg _ s5 σ3 H5 x u _ I5' r5 (step x H5 y5)) λ_ s6 ⟨σ6,H6,I6,q6⟩=>?_);refine yG hp (bM (hb _ s6 σ6 H6 _ I6 q6) λf s7 q7=>?_);have again:∀{σ7:St}{H7:Hp},Inv X (pins++Ds fp s5.heap) σ7 H7 s7->N σ7 H7->∃m,m<n/\∃i σ' H',Inv X pins σ' H' s7/\tn i s7.heap/\(∀b∈fp,H' b=none)/\W i m σ' H':=λ{σ7 H7} I7 n7=>by obtain⟨m',hm,w7⟩:=hN σ7 H7 n7;refine⟨m',hm,i+1,σ7,H7,I7.rC,T.keep _ _ _ Ad λb hb o e=>(I7.pin (b,o) (jW _ (jW _ (jK hb e)))).1,λb hb=>?_,w7⟩;obtain⟨o,e,d⟩:=T.obj _ _ Ad b hb;exact(I7.pin (b,o) (jW _ (jW _ (jK hb e)))).2.1
  cases f with
  | next=>obtain⟨σ7,H7,I7,n7⟩:=q7;exact again I7 n7
  | cont=>obtain⟨σ7,H7,I7,n7⟩:=q7;exact again I7 n7
  | brk=>obtain⟨σ7,H7,I7,q7⟩:=q7;exact⟨σ7,H7,I7.rC,q7⟩
  | ret v=>obtain⟨x7,σ7,H7,I7,r7,q7⟩:=q7;exact⟨x7,σ7,H7,I7.rC,r7,q7⟩
theorem Ph:bS X (.Return none pos) acC:=by exact⟨λ_ _ σ H _ I h=>wpAny_Return_none ⟨.cy,σ,H,I,Z,h⟩⟩
theorem iw{tg iter elt:Expr}{scope:Scope}{pos:Pos}(N2:List Str)(ix:List (Option Nat)){wi:TI}{g:TG}{te:TE}(hc:X.calm=true)(hi:bI X tg iter wi)(hg:∀cl s₂ H₂ fp,bG (d_ X N2 scope cl s₂ H₂ fp) tg g)(he:∀cl s₂ H₂ fp,bE (d_ X N2 scope cl s₂ H₂ fp) elt te)(hk:scope.kind =.function)(hn:tK X.N X.env.scope.names scope.names N2 ix=true)(hs:∀x,foldedSetIterable iter X.env x=pure x:=by intro _;rfl):bE X (.ListComp elt [⟨tg,iter,[],0⟩] scope pos) (WE wi ix g te):=by have hi:=hi.h;have hg:=λcl s₂ H₂ fp=>(hg cl s₂ H₂ fp).h;have he:=λcl s₂ H₂ fp=>(he cl s₂ H₂ fp).h;constructor;intro pins s σ H Q I h;obtain⟨k1,k2,k3,k4,k5⟩:=qe hn;obtain⟨cl,Ss,c1,c2⟩:=yM (scope:=scope) (env:=X.env) λy hy e=>I.ok.has y.1 (k3 y hy e);rw[eval_ListComp];refine wpAny_comprehension_free (use:=none) rfl hs Ss hk k4 (bM (hi pins s σ H _ I h) λv s1 h1=>bM h1 λitv s2 h2=>?_);obtain⟨it,fp,tn,J,H2,e,I2,T,st2,f2,h2⟩:=h2;subst e;refine DK (RR:=λacc C=>compPost (model X.prog X.w) X.A X.xe none (EP X pins σ Q) acc C) (Q:=Q) hc hg he hk hn (λy c m=>(c1 y c m).1) c2 I2 T st2 f2 h2 ?_;intro acc C H' s' m I' ns DL hL hsz yc DV q;exact⟨m,ns,λh' hs'=>⟨.ref acc,H',I'.turned (it:=C) (t':=s'.toks) (λb o hb e=>(hs'.2 b hb).trans e) DL hL (.inr hsz) yc DV,Z,q⟩⟩
theorem Lo(hu:X.A.units+1<cLine)(hi:bE X i ty)(ho:bE X o td):bC X .In i o (af7 ty td):=by have hi:=hi.h;have ho:=ho.h;constructor;intro pins s σ H Q I h;refine bM (hi pins s σ H _ I h) λiv s1 ⟨y,H1,I1,ry,q1⟩=>bM (ho pins s1 σ H1 _ I1 q1) λu s2 ⟨x,H2,I2,rx,a,ov,ex,g,q2⟩=>?_;subst ex;obtain rfl:u=Value.ref a:=rx;exact af6 hu I2 g ry λs3 I3=>⟨.bl ov.isSome,H2,I3,Z,q2⟩
theorem aaP(ha:bE X a ta):bE X (.UnaryOp .Not a pos) (acz ta):=by have ha:=ha.h;constructor;intro pins s σ H Q I h;refine UnaryOp_ (bM (ha pins s σ H _ I h) λv s1 ⟨x,H1,I1,r1,q1⟩=>?_);obtain⟨c,rfl,q1⟩:=q1;cases r1;exact not_of (Co ⟨.bl (!c),H1,I1,Z,q1⟩)
theorem aT{x j pos}:bE X (.Constant (.str x) j pos) (tC (.str x)):=by exact⟨λ_ _ _ H _ I h=>Calls.Constant_str ⟨.str x,H,I.tok _,⟨_,Z⟩,h⟩⟩
theorem Q7{op:UnaryOp}{r:V->Hp->VK->Prop}(ho:Zs X (unaryOp op) r)(ha:bE X a ta):bE X (.UnaryOp op a pos) (tUn r ta):=by have ha:=ha.h;constructor;intro pins s σ H Q I h;exact UnaryOp_ (bM (ha pins s σ H _ I h) λv s1 ⟨x,H1,I1,r1,q1⟩=>ho pins s1 σ H1 x v Q I1 r1 q1)
theorem rR(K:Fg){a b:Expr}{ta:TA}{p pos:Pos}(hg:Gl X "zip")(hm:X.mg "zip"=none)(ha:bA X [a,b] ta)(hK:X.K=K:=by rfl)(hs:starEach [a,b] X.env=[(false,eval a X.env),(false,eval b X.env)] :=by rfl)(hs2:starEach [b] X.env=[(false,eval b X.env)] :=by rfl):bI X (.Tuple elts kk tpos) (.Call (.Name "zip" p) [a,b] [] pos) (ac6 K ta):=by
 have ha:=ha.h;constructor;subst hK;intro pins s σ H R I h;refine Call_ (ve I hg hm boot_zip (RC (bM (ha pos pins s σ H _ I h) λus s1 ⟨vs,H1,I1,r1,q1⟩=>?_) (by rw[hs,hs2]) (by rw[hs2];rfl)));obtain⟨u1,u2,S1,S2,xs,ys,e,k1,k2,q⟩:=q1;subst e;obtain⟨u,w',rfl,ru,rw'⟩:=vals2 r1;obtain⟨g1,l1,o1,p1,lt1,b1,ai3,at1,st1,c1⟩:=k1.ok I1 ru;obtain⟨g2,l2,o2,p2,lt2,b2,adn,at2,st2,c2⟩:=k2.ok I1 rw';refine callType_newIn F.called_zip (by decide) (F.typeCall_zip_2 _ _) (F.newCall_zip_2 _ _) (λobj=>F.args_object_init_3 obj _ _) F.entry_zip_new (QV st1 st2) ⟨b1,adn _ _ b2,?_⟩;have z1:(s1.heap.push o1).objs.size=s1.heap.objs.size+1:=mW ..;have z2:((s1.heap.push o1).push o2).objs.size=s1.heap.objs.size+2:=by rw[mW,z1]
 generalize e3:({ cls:=.type "tuple",data:=.seq #[.ref s1.heap.objs.size,.ref (s1.heap.push o1).objs.size] }:Obj)=o3;have z3:(((s1.heap.push o1).push o2).push o3).objs.size=s1.heap.objs.size+3:=by rw[mW,z2]
 generalize e4:({ cls:=.type "tuple",data:=.seq #[.none,.none] }:Obj)=o4;have z4:((((s1.heap.push o1).push o2).push o3).push o4).objs.size=s1.heap.objs.size+4:=by rw[mW,z3]
 generalize e5:({ cls:=.type "zip",data:=.fields #[.none,.bool false,.bool false,.ref ((s1.heap.push o1).push o2).objs.size,.ref (((s1.heap.push o1).push o2).push o3).objs.size] }:Obj)=o5;have g5:(((((s1.heap.push o1).push o2).push o3).push o4).push o5).get? ((((s1.heap.push o1).push o2).push o3).push o4).objs.size=some o5:=fC _ (by rw[<-e5];rfl);have g4:(((((s1.heap.push o1).push o2).push o3).push o4).push o5).get? (((s1.heap.push o1).push o2).push o3).objs.size=some o4:=cV _ (fC _ (by rw[<-e4];rfl));have g3:(((((s1.heap.push o1).push o2).push o3).push o4).push o5).get? ((s1.heap.push o1).push o2).objs.size=some o3:=cV _ (cV _ (fC _ (by rw[<-e3];rfl)));have g2':(((((s1.heap.push o1).push o2).push o3).push o4).push o5).get? (s1.heap.push o1).objs.size=some o2:=cV _ (cV _ (cV _ (at2 _)));have g1':(((((s1.heap.push o1).push o2).push o3).push o4).push o5).get? s1.heap.objs.size=some o1:=cV _ (cV _ (cV _ (cV _ (at1 _))));have kp:∀c o,s1.heap.get? c=some o->(((((s1.heap.push o1).push o2).push o3).push o4).push o5).get? c=some o:=λc o x=>cV _ (cV _ (cV _ (cV _ (cV _ x))));rw[z4]at g5 ⊢;rw[z3]at g4 e5;rw[z2]at g3 e5;rw[z1]at g2' e3;generalize (((((s1.heap.push o1).push o2).push o3).push o4).push o5)=hN at *;show _/\_;subst e3 e4 e5;refine⟨⟨_,g5,Z⟩,wpAny_pyIter_zip (s:={ s1 with heap:=hN }) g5 ?_⟩;have I2:Inv X pins σ H1 { s1 with heap:=hN }:=I1.kept (t':=s1.toks) kp;obtain⟨t1,ai7,C1,n1⟩:=c1 s1.heap.objs.size;obtain⟨t2,ai8,C2,n2⟩:=c2 (s1.heap.objs.size+1);refine⟨s1.heap.objs.size+4,[s1.heap.objs.size+4,s1.heap.objs.size+2,s1.heap.objs.size+3,s1.heap.objs.size,s1.heap.objs.size+1],_,_,H1,Z,I2,SH (Np lt1 lt2) C1 C2,⟨g5,g3,⟨_,_,g4⟩,n1 _ g1',n2 _ g2'⟩,λb hb=>?_,q⟩;have hb':b=s1.heap.objs.size+4\/b=s1.heap.objs.size+2\/b=s1.heap.objs.size+3\/b=s1.heap.objs.size\/b=s1.heap.objs.size+1:=by simpa using hb
 have le:s1.heap.objs.size<=b:=by
  rcases hb' with r|r|r|r|r
  .rw [r];exact sy _ _
  .rw [r];exact sy _ _
  .rw [r];exact sy _ _
  .rw [r];exact aL _
  .rw [r];exact sy _ _
 exact I1.Cr le (I1.hok.fresh le)
theorem aU{op:CmpOp}{r:R2}(ho:j7 X (compareOp op) r)(ha:bE X a ta)(hb:bE X b tb)(hm:behindInMarks op b=false):bT X (.Compare a [op] [b] pos) (JM (GU r ta tb)):=by
 have ha:=ha.h;have hb:=hb.h;constructor;intro pins s σ H Q I h;refine wpAny_isTrue_Compare1 (bM (ha pins s σ H _ I h) λv s1 ⟨x,H1,I1,r1,q1⟩=>bM (hb pins s1 σ H1 _ I1 q1) λu s2 ⟨y,H2,I2,r2,q2⟩=>
  bM (ho pins s2 σ H2 x y v u _ I2 r1 r2 q2) λc s3 ⟨z,H3,I3,r3,k,e,q3⟩=>?_) hm
 subst e;cases r3;exact Co ⟨H3,I3,q3⟩
theorem aQ{i:Nat}{x:Str}{e:Expr}{te:TE}{pos':Pos}(hN:X.N.Nodup)(he:bE X e te)(hi:X.N[i]?=some x:=by rfl)(hx:Loc X.env.scope x:=by first|exact Or.inl rfl|exact Or.inr rfl)(hs:swapsWith e (some (.Name x pos')) pos.line X.env=pure false:=by rfl)(hf:X.fn x=true\/X.env.scope.names.lookup x=some .local:=by first|exact .inl rfl|exact .inr rfl|assumption):bS X (.Assign [.Name x pos'] e pos) (UQ te (lU i)):=by have he:=he.h;constructor;intro pins s σ H D I h;refine wpAny_Assign_Name (bM (he pins s σ H _ I h) λv s1 ⟨y,H1,I1,r1,q1⟩=>?_) hs;exact yK I1 hN hi hx r1 (λs2 I2=>⟨_,H1,I2,q1⟩) hf
theorem Yq{X:Cx}{pos:Pos}{keys:List (Option Expr)}{values:List Expr}{DB:List (TE×TE)}(h:WV X pos keys values DB)(hall:keys.all (·.isSome)=true)(hl:keys.length=values.length)(h0:keys≠[])(h15:keys.length<=15):bE X (.Dict keys values pos) (acV DB):=by
 have h:=h.h;constructor;intro pins s σ H Q I q;have hn:=I.hok.fresh (aL s.heap.objs.size);have I1:=I.laid (a:=s.heap.objs.size) (o:=.dK []) (h':=s.heap.push { cls:=.type "dict",data:=.dict #[] }) (t':=s.toks) (λ_ _ q=>cV _ q) (aL _) (Ku s.heap I.big);refine wpAny_Dict_walk (knd:=c8 X.prog X.w) hall hl h0 h15 (bM (h pins _ σ _ _ I1 (q _ hn)) λws s2 ⟨ps,H2,I2,rel,e,kvs,ep,lk,q2⟩=>?_);subst ep;obtain⟨rs,c,rk⟩:=DC (P:=X.prog) (w:=X.w) rel;obtain⟨z,hd,SI,r0,dd⟩:=DA I2.hok e;cases r0;refine⟨rs,c,dd,λh' B3 hs=>⟨.ref s.heap.objs.size,_,?_,Z,q2⟩⟩;have hz:(yb [] kvs).length<=sizeLine:=by have h1:=zO kvs [];rw[List.length_nil]at h1;rw[lT];omega
 have he:∃q,h'.get? s.heap.objs.size=some q:=let⟨q,_,_,hq,_⟩:=B3;⟨q,hq⟩;exact Bq I2 (by rw[e];exact True.intro) hs he (Ks hz hd (rk.merge .nil) B3)
theorem c_(K:Fg){tg l:Expr}{tl:TE}(hl:bE X l tl)(hK:X.K=K:=by rfl):bI X tg l (Wu K tl):=by have hl:=hl.h;exact⟨hK▸Xr hl⟩
theorem jF{X:Cx}{e:Expr}{t:TT}(h:bT X e t):bT X e (λσ H Q=>∃b:Bool,t σ H (λb' H'=>b'=b/\H'=H)/\Q b H):=by have h:=h.h;constructor;intro pins s σ H Q I hw;obtain⟨b,hb,q⟩:=hw;refine bM (h pins s σ H _ I hb) λb' s' ⟨H',I',e1,e2⟩=>?_;subst e1 e2;exact⟨_,I',q⟩
theorem au{st:Stmt}(h1:bS X st t):c5 X [st] t:=by
 have h1:=h1.h;constructor;intro pins s σ H D I h;refine wpAny_execs_cons (bM (h1 pins s σ H D I h) λf s1 q=>?_);cases f with
 | next=>exact JJ q
 | ret v=>exact q
 | brk=>exact q
 | cont=>exact q
theorem Pj(ho:bE X o td)(hi:bE X i ty):bS X (.Delete [.Subscript o i tpos] pos) (acU td ty):=by have ho:=ho.h;have hi:=hi.h;constructor;intro pins s σ H D I h;refine wpAny_Delete (wpAny_deleteEach_cons (wpAny_delete_Subscript (bM (ho pins s σ H _ I h) λu s1 ⟨x,H1,I1,rx,q1⟩=>bM (hi pins s1 σ H1 _ I1 q1) λiv s2 ⟨y,H2,I2,ry,a,kvs,k,ex,e,ey,l,q2⟩=>?_)));subst ex ey;obtain rfl:u=Value.ref a:=rx;exact R8 I2 e ry l λs3 I3=>wpAny_deleteEach_nil ⟨σ,_,I3,q2⟩
theorem nX(ha:bT X a tA):bT X (.UnaryOp .Not a pos) (afQ tA):=by have ha:=ha.h;constructor;intro pins s σ H Q I h;exact isTrue_not (ha pins s σ H (λc H1=>Q (!c) H1) I h)
theorem cg(he:bE X e te)(hs:swapsWith e none pos.line X.env=pure false:=by rfl):bS X (.Expr e pos) (acB te):=by have he:=he.h;constructor;intro pins s σ H D I h;exact wpAny_Expr_any (bM (he pins s σ H _ I h) λv s1 ⟨x,H1,I1,r1,q1⟩=>⟨σ,H1,I1,q1⟩) I.quiet hs
theorem bZ{pl:Sem Bool}{j k:Nat}{C:Addr}{m:Str}{ps:List Str}{sp:Sp}{o e:Expr}{es:List Expr}{ta:TE}{t:TA}{apos pos:Pos}(D:Mn X.prog X.w X.K X.mg X.base j C m ps sp)(hr:fD k X.A)(ho:bE X o ta)(ha:bA X (e::es) t)(hj:j<=k:=by decide)(hst:starEach (e::es) X.env=(false,eval e X.env)::starEach es X.env:=by rfl)(hpl:(backTo pos (starEach es X.env)).any (·.1)=false:=by rfl)(ht:eval (.Call (.Attribute o m apos) (e::es) [] pos) X.env=(do
   let ov <-eval o X.env
   standAt apos.atName
   let(f,first) <-holding [ov] (getMethod ov m pl)
   callWith pos f first (backTo pos (starEach (e::es) X.env)) (backToKw pos (keywordEach [] X.env))):=by rfl):bE X (.Call (.Attribute o m apos) (e::es) [] pos) (JN C m sp [] E0 ta t):=by
 have ho:=ho.h;have ha:=ha.h;constructor
 obtain⟨f,fd,F,b,hm,c⟩:=D.ex
 exact Xy (pl:=pl) ho c hm F (hr.mono hj) b .nil (λ_ _ _ _ _ _ _ h=>h.elim) ha hst hpl ht
theorem cS{e:Expr}{es:List Expr}{t:TG}{u:Dq}(h1:bG X e t)(h2:WU X es u)(hs:(assignEach (e::es) X.env).map (·.2)=assign e X.env::(assignEach es X.env).map (·.2):=by rfl):WU X (e::es) (Wt t u):=by
 have h1:=h1.h;have h2:=h2.h;constructor;intro pins s σ H vs us Q I r h;obtain⟨v,vr,e1,h⟩:=h;subst e1;cases r with
 | cons r rr=>rw[hs];refine assignInOrder_cons (bM (h1 pins s σ H _ _ _ I r h) λ_ s1 ⟨σ1,H1,I1,q1⟩=>?_);exact h2 pins s1 σ1 H1 _ _ Q I1 rr q1
theorem pU{i:Nat}{x:Str}{px pos':Pos}{tg iter elt:Expr}{scope:Scope}{pos:Pos}(N2:List Str)(ix:List (Option Nat)){wi:TI}{g:TG}{te:TE}(hN:X.N.Nodup)(hi:X.N[i]?=some x)(hx:X.env.scope.names.lookup x=some .local)(hc:X.calm=true)(hit:bI X tg iter wi)(hg:∀cl s₂ H₂ fp,bG (d_ X N2 scope cl s₂ H₂ fp) tg g)(he:∀cl s₂ H₂ fp,bE (d_ X N2 scope cl s₂ H₂ fp) elt te)(hk:scope.kind =.function)(hn:tK X.N X.env.scope.names scope.names N2 ix=true)(hw:swapsWith (.ListComp elt [⟨tg,iter,[],0⟩] scope pos) (some (.Name x px)) pos'.line X.env=pure true)(hs:∀x,foldedSetIterable iter X.env x=pure x:=by intro _;rfl):bS X (.Assign [.Name x px] (.ListComp elt [⟨tg,iter,[],0⟩] scope pos) pos') (UQ (WE wi ix g te) (lU i)):=by
 have hit:=hit.h;have hg:=λcl s₂ H₂ fp=>(hg cl s₂ H₂ fp).h;have he:=λcl s₂ H₂ fp=>(he cl s₂ H₂ fp).h;constructor;intro pins s σ H D I h;obtain⟨k1,k2,k3,k4,k5⟩:=qe hn;obtain⟨cl,Ss,c1,c2⟩:=yM (scope:=scope) (env:=X.env) λy hy e=>I.ok.has y.1 (k3 y hy e);rw[exec_Assign_Name_used _ _ _ _ hw];refine aA (Dk (aA ?_));show wpAny _ X.A (do let _ <-comprehension (.ListComp elt [⟨tg,iter,[],0⟩] scope pos) scope X.env _ (newList []) false (eval iter X.env) (some (assign (.Name x px) X.env))) _ _ s;refine aA (bM (wpAny_comprehension_free (use:=some (assign (.Name x px) X.env)) (Q:=λ_ s'=>SP X pins D .next s') rfl hs Ss hk k4 (bM (hit pins s σ H _ I h) λv s1 h1=>bM h1 λitv s2 h2=>?_)) λ_ s' hq=>bu (bu hq));obtain⟨it,fp,tn,J,H2,e,I2,T,st2,f2,h2⟩:=h2;subst e;refine DK (RR:=λacc C=>compPost (model X.prog X.w) X.A X.xe (some (assign (.Name x px) X.env)) (λ_ s'=>SP X pins D .next s') acc C) (Q:=λv H'=>D.nx (σ.set i (some v)) H') hc hg he hk hn (λy c m=>(c1 y c m).1) c2 I2 T st2 f2 h2 ?_;intro acc C H' s' m I' ns DL hL hsz yc DV q;show wpAny _ X.A (assign (.Name x px) X.env (.ref acc)) _ _ _;refine wpAny_assign_Name (GS I' hN hi (.inl hx) (v:=.ref acc) rfl (λs3 I3 ⟨a,sb,ha⟩=>?_) (.inr hx));have ca:C≠a:=by
  rcases ha with z|z
  .rw [z];exact hL
  .exact λe=>yc x a z e.symm
 exact⟨m,ns.sameBut sb ca,λh' hs'=>⟨_,H',I3.turned (it:=C) (t':=s3.toks) (λb o hb e=>(hs'.2 b hb).trans e) DL hL (.inr hsz) yc DV,q⟩⟩
theorem vL{X:Cx}{pos:Pos}{k v:Expr}{ks:List (Option Expr)}{vs:List Expr}{tk tv:TE}{DB:List (TE×TE)}(hk:bE X k tk)(hv:bE X v tv)(hr:WV X pos ks vs DB):WV X pos (some k::ks) (v::vs) ((tk,tv)::DB):=by
 have hk:=hk.h;have hv:=hv.h;have hr:=hr.h;exact⟨λpins s σ H Q I h=>
 pairTrees_cons_walk (bM (hk pins s σ H _ I h) λu s1 ⟨x,H1,I1,rx,q1⟩=>bM (hv pins s1 σ H1 _ I1 q1) λw2 s2 ⟨y,H2,I2,ry,q2⟩=>
  bM (hr pins s2 σ H2 _ I2 q2) λws s3 ⟨ps,H3,I3,rel,q3⟩=>⟨(x,y)::ps,H3,I3,.cons ⟨rx,ry⟩ rel,q3⟩)⟩
theorem AF(hu:X.A.units+1<cLine)(hi:bE X i ty)(ho:bE X o td):bC X .NotIn i o (XG ty td):=by have hi:=hi.h;have ho:=ho.h;constructor;intro pins s σ H Q I h;refine bM (hi pins s σ H _ I h) λiv s1 ⟨y,H1,I1,ry,q1⟩=>bM (ho pins s1 σ H1 _ I1 q1) λu s2 ⟨x,H2,I2,rx,a,ov,ex,g,q2⟩=>?_;subst ex;obtain rfl:u=Value.ref a:=rx;exact XD hu I2 g ry λs3 I3=>⟨.bl (!ov.isSome),H2,I3,Z,q2⟩
theorem uY{b j pos}:bE X (.Constant (.bool b) j pos) (tC (.bl b)):=by exact⟨λ_ _ _ H _ I h=>Constant_bool ⟨.bl b,H,I,Z,h⟩⟩
theorem FO{pl:Sem Bool}{j k:Nat}{C:Addr}{m:Str}{ps:List Str}{sp:Sp}{o:Expr}{ta:TE}{apos pos:Pos}(D:Mn X.prog X.w X.K X.mg X.base j C m ps sp)(hr:fD k X.A)(ho:bE X o ta)(hj:j<=k:=by decide)(ht:eval (.Call (.Attribute o m apos) [] [] pos) X.env=(do
   let ov <-eval o X.env
   standAt apos.atName
   let(f,first) <-holding [ov] (getMethod ov m pl)
   callWith pos f first (backTo pos (starEach [] X.env)) (backToKw pos (keywordEach [] X.env))):=by rfl):bE X (.Call (.Attribute o m apos) [] [] pos) (JN C m sp [] E0 ta rD):=by
 have ho:=ho.h;constructor
 obtain⟨f,fd,F,b,hm,c⟩:=D.ex
 exact U7 (pl:=pl) ho c hm F (hr.mono hj) b .nil (λ_ _ _ _ _ _ _ h=>h.elim) ht
theorem bw(he:bE X e te):bS X (.Return (some e) pos) (afS te):=by have he:=he.h;constructor;intro pins s σ H D I h;exact wpAny_Return_some (bM (he pins s σ H _ I h) λv s1 ⟨x,H1,I1,r1,q1⟩=>⟨x,σ,H1,I1,r1,q1⟩)
theorem gZ{tg:Expr}{a:Expr}{ta:TA}{p pos:Pos}(hg:Gl X "range")(hm:X.mg "range"=none)(ha:bA X [a] ta)(hs:starEach [a] X.env=[(false,eval a X.env)] :=by rfl):bI X tg (.Call (.Name "range" p) [a] [] pos) (acI ta):=by
 have ha:=ha.h;constructor;intro pins s σ H R I h;refine Call_ (ve I hg hm boot_range (RC (bM (ha pos pins s σ H _ I h) λus s1 ⟨vs,H1,I1,r1,q1⟩=>?_) hs rfl));obtain⟨j,e,q1,q2,q⟩:=q1;subst e;cases r1 with
 | cons r rr=>cases rr;obtain⟨t,rfl⟩:=r;exact call_range_1 (UX I1 (by omega) (by omega) q1 q2 (by simpa using q))
theorem bP:c5 X [] acA:=by exact⟨λ_ _ σ H _ I h=>JJ ⟨σ,H,I,h⟩⟩
theorem dX(K:Fg){o value:Expr}{f:Str}{ta tv:TE}{pos pos':Pos}(ha:bE X o ta)(hv:bE X value tv)(hs:swapsWith value (some (.Attribute o f pos')) pos.line X.env=pure false:=by rfl)(hK:X.K=K:=by rfl):bS X (.Assign [.Attribute o f pos'] value pos) (Zy K ta tv f):=by have ha:=ha.h;have hv:=hv.h;exact⟨hK▸ZC ha hv hs⟩
theorem HN{tg:Expr}{a b c:Expr}{ta:TA}{p pos:Pos}(hg:Gl X "range")(hm:X.mg "range"=none)(ha:bA X [a,b,c] ta)(hs:starEach [a,b,c] X.env=[(false,eval a X.env),(false,eval b X.env),(false,eval c X.env)] :=by rfl)(hs2:starEach [b,c] X.env=[(false,eval b X.env),(false,eval c X.env)] :=by rfl):bI X tg (.Call (.Name "range" p) [a,b,c] [] pos) (ac3 ta):=by
 have ha:=ha.h;constructor;intro pins s σ H R I h;refine Call_ (ve I hg hm boot_range (RC (bM (ha pos pins s σ H _ I h) λus s1 ⟨vs,H1,I1,r1,q1⟩=>?_) (by rw[hs,hs2]) (by rw[hs2];rfl)));obtain⟨i,j,k,e,⟨q1,q2,q3,q4,q5,q6⟩,q⟩:=q1;subst e;cases r1 with
 | cons r rr=>
  cases rr with
  | cons r' rr=>
   cases rr with
   | cons r'' rr=>
    cases rr;obtain⟨t,rfl⟩:=r;obtain⟨t',rfl⟩:=r';obtain⟨t'',rfl⟩:=r'';obtain⟨sm,sz⟩:=Nt q1 q2 q3 q4 q5 q6;refine call_range_3 (by omega) ?_ (Or.inl (PyProof.noPylong_small (by omega)));refine wpAny_pyIter_range (IsRange.new ..) sm ?_;have I2:Inv X pins σ H1 { s1 with heap:=s1.heap.push { cls:=.type "range",data:=.fields #[.int i t,.int j t',.int k t''] },toks:=s1.toks }:=I1.kept λb o e=>cV _ e;refine⟨(s1.heap.push { cls:=.type "range",data:=.fields #[.int i t,.int j t',.int k t''] }).objs.size,[(s1.heap.push { cls:=.type "range",data:=.fields #[.int i t,.int j t',.int k t''] }).objs.size],_,_,H1,Z,
     I2.kept (t':=s1.toks) λb o e=>cV _ e,Nr _ i k (rF i j k),?_,λb hb=>?_,q⟩
    .have e1:i+((0:Nat):Int)*k=i:=by simp
     have e2:((rF i j k:Nat):Int)-((0:Nat):Int)=Builtin.Range.rangeSize i j k:=by unfold rF;omega
     show IsRangeIter _ _ (i+((0:Nat):Int)*k) (((rF i j k:Nat):Int)-((0:Nat):Int)) k;rw[e1,e2];exact fC _ rfl
    .have e:b=(s1.heap.push { cls:=.type "range",data:=.fields #[.int i t,.int j t',.int k t''] }).objs.size:=by simpa using hb
     subst e;exact I2.Cr (aL _) (I2.hok.fresh (aL _))
theorem Tq{a:Expr}{ta:TA}{p pos:Pos}(hg:Gl X "range")(hm:X.mg "range"=none)(ha:bA X [a] ta)(hs:starEach [a] X.env=[(false,eval a X.env)] :=by rfl):bE X (.Call (.Name "range" p) [a] [] pos) (af_ ta):=by have ha:=ha.h;constructor;intro pins s σ H Q I h;refine Call_ (ve I hg hm boot_range (RC (bM (ha pos pins s σ H _ I h) λus s1 ⟨vs,H1,I1,r1,q1⟩=>?_) hs rfl));obtain⟨j,e,q⟩:=q1;subst e;obtain⟨u,rfl,ru⟩:=vals1 r1;obtain⟨t,rfl⟩:=ru;exact call_range_1 ⟨.ref s1.heap.objs.size,_,I1.laid (a:=s1.heap.objs.size) (o:=.x_ 0 j) (λb o e=>cV _ e) (aL _) ⟨_,_,_,fC _ rfl⟩,Z,q _ I1.fresh⟩
theorem ie(h:bA X es t):bE X (.List es pos) (af1 t):=by have h:=h.h;constructor;intro pins s σ H Q I hq;refine wpAny_List_spliced (bM (h pos pins s σ H _ I hq) λus s1 ⟨xs,H1,I1,r,z,q⟩=>⟨by rw[<-r.length];exact z,?_⟩);have hf:H1 s1.heap.objs.size=none:=I1.hok.fresh (aL _);refine⟨.ref s1.heap.objs.size,upd H1 s1.heap.objs.size (.lst xs),I1.laid (t':=s1.toks) (λb u e=>cV _ e) (aL _) ?_,Z,q _ hf⟩;exact⟨z,us,0,r,fC _ rfl⟩
theorem qy(K:Fg){o value:Expr}{f:Str}{ta tv:TE}{pos tpos:Pos}{op:Operator}{rd:V->V->Hp->VK->Prop}(ha:bE X o ta)(hv:bE X value tv)(hop:Kf X op rd)(hK:X.K=K:=by rfl):bS X (.AugAssign (.Attribute o f tpos) op value pos) (OQ K ta tv rd f):=by have ha:=ha.h;have hv:=hv.h;exact⟨hK▸RU ha hv hop⟩
theorem aaQ{j pos}:bE X (.Constant .none j pos) (tC .cy):=by exact⟨λ_ _ _ H _ I h=>Constant_none ⟨.cy,H,I,Z,h⟩⟩
theorem FP{ob:Expr}{td:TE}{apos cpos:Pos}(hob:bE X ob td)(hbase:attributeBase ob "values" X.env (eval ob X.env)=eval ob X.env:=by rfl)(hline:(apos.endLine==cpos.line)=true:=by rfl):bE X (.Call (.Attribute ob "values" apos) [] [] cpos) (ac5 td):=by have hob:=hob.h;constructor;intro pins s σ H Q I h;refine wpAny_Call_method0_late hbase hline (bM (hob pins s σ H _ I h) λv s1 ⟨x,H1,I1,r1,q1⟩=>?_);obtain⟨d,kvs,rfl,e,fin⟩:=q1;cases r1;obtain⟨t1,t2,hsys⟩:=Kv I1 (.inl ⟨kvs,e⟩);obtain⟨hz,_,vs,rel,dd⟩:=uR I1.hok e;refine⟨"dict",_,F.plainAttrs_dict,Qn,F.type_dict_values,t1,t2,Qg rfl (PySem.evalArgs_none ?_)⟩;refine call_meetsIn Qn dd.typeIs F.entry_dict_values (F.args_dict_values_1 _) (meets_dict_values (c8 X.prog X.w) d hsys) ⟨⟨vs,dd⟩,?_⟩;refine⟨.ref s1.heap.objs.size,_,I1.laid (t':=s1.toks) (o:=lW s1.heap.objs.size d) (λb u e=>cV _ e) (aL _) ?_,Z,fin _ I1.fresh⟩;refine⟨⟨_,fC _ rfl,Z,Z⟩,⟨_,fC _ rfl⟩,λh1 h2 ⟨o,a,b⟩ k=>⟨o,k o a,b⟩⟩
theorem WX{j k:Nat}{x:Str}{C:Addr}{ps:List Str}{sp:Sp}{e:Expr}{es:List Expr}{t:TA}{p pos:Pos}(D:Cn X.prog X.w X.K X.mg X.base j x C ps sp)(hr:fD k X.A)(ha:bA X (e::es) t)(hj:j+1<=k:=by decide)(hg:Gl X x:=by rfl)(hdb:(x==("__debug__":Str))=false:=by decide)(he:starEach (e::es) X.env=(false,eval e X.env)::starEach es X.env:=by rfl)(hpl:(backTo pos (starEach es X.env)).any (·.1)=false:=by rfl):bE X (.Call (.Name x p) (e::es) [] pos) (JO C sp [] E0 t):=by have ha:=ha.h;constructor;obtain⟨f,fd,F,b,M,m⟩:=D.ex;exact Xz M F (hr.mono hj) hg m b .nil (λ_ _ _ _ _ _ _ h=>h.elim) ha hdb he hpl
theorem Yr{x:Str}{v:V}{u:Value}{pos:Pos}(hg:Gl X x)(hm:X.mg x=some u)(r:RelV v u)(hd:(x==("__debug__":Str))=false:=by decide):bE X (.Name x pos) (tC v):=by exact⟨λ_ _ _ H _ I h=>Bk I hg hm ⟨v,H,I,r,h⟩ hd⟩
theorem pV(hc:iH X (.type T) r)(hg:Gl X x)(hm:X.mg x=none)(hv:bootBuiltins x=some (.type T))(ha:bA X (e::es) t)(hn:x ≠ "__name__":=by decide)(hdb:(x==("__debug__":Str))=false:=by decide)(he:starEach (e::es) X.env=(false,eval e X.env)::starEach es X.env:=by rfl)(hpl:(backTo pos (starEach es X.env)).any (·.1)=false:=by rfl):bE X (.Call (.Name x p) (e::es) [] pos) (Wy r t):=by have ha:=ha.h;constructor;intro pins s σ H Q I h;refine JZ (ve I hg hm hv ?_ hn hdb);exact RC (bM (ha pos pins s σ H _ I h) λus s1 ⟨vs,H1,I1,r1,q1⟩=>hc pins s1 σ H1 vs us Q I1 r1 q1) he hpl
theorem BC{rest:List Expr}(ha:bT X a tA)(hb:bW X (.BoolOp .Or (b::rest) pos) Wr):bW X (.BoolOp .Or (a::b::rest) pos) (tOr tA Wr):=by
 have ha:=ha.h;have hb:=hb.h;constructor;intro wh pins s σ H Q I h;refine isTrue_or (bM (ha pins s σ H _ I h) λc s1 ⟨H1,I1,q1⟩=>?_);cases c with
 | true=>exact⟨H1,I1,q1⟩
 | false=>exact hb wh pins s1 σ H1 Q I1 q1
theorem vc(ha:bT X a tA):bW X (.BoolOp .And [a] pos) tA:=by
 have ha:=ha.h;constructor;intro wh pins s σ H Q I h;refine isTrue_and (bM (ha pins s σ H Q I h) λc s1 e=>?_);cases c with
 | true=>exact isTrue_and_nil e
 | false=>exact e
theorem cX{c:Expr}{a b:List Stmt}{tc:TT}(hc:bT X c tc)(ha:c5 X a t)(hb:c5 X b u):bS X (.If c a b pos) (Zf tc t u):=⟨Ws hc.h ha.h hb.h⟩
theorem Tr{i j:Nat}{x y:Str}{a b:Expr}{ta:TA}{px py pt:Pos}{kt k2 pt2}(hc:X.calm=true)(hN:X.N.Nodup)(hi:X.N[i]?=some x)(hj:X.N[j]?=some y)(hij:i≠j)(hx:X.env.scope.names.lookup x=some .local)(hy:X.env.scope.names.lookup y=some .local)(ha:bA X [a,b] ta)(hw:swappedStores [.Tuple [.Name x px,.Name y py] kt pt] (.Tuple [a,b] k2 pt2) X.env=pure (some [x,y]))(hs:swapsWithSole [.Tuple [.Name x px,.Name y py] kt pt] (.Tuple [a,b] k2 pt2) pos.line X.env=pure false:=by rfl):bS X (.Assign [.Tuple [.Name x px,.Name y py] kt pt] (.Tuple [a,b] k2 pt2) pos) (afU i j ta):=by
 have ha:=ha.h;constructor;intro pins s σ H D I h;rw[exec_Assign_arm];refine aA (Dk ?_);rw[hs];refine aA (bu ?_);rw[av (by decide)];refine aA (Tuple_ (bM (ha _ pins s σ H _ I h) λus s1 ⟨vs,H1,I1,r1,q1⟩=>?_));obtain⟨v,w,e1,q1⟩:=q1;subst e1;obtain⟨u1,u2,rfl,rv,rw'⟩:∃u1 u2,us=[u1,u2]/\RelV v u1/\RelV w u2:=by
  cases r1 with
  | cons p q=>
   cases q with
   | cons p' q'=>cases q';exact⟨_,_,Z,p,p'⟩
 refine yE ?_ (by show 2<=sizeLine;decide);have I2:Inv X pins σ H1 { s1 with heap:=s1.heap.push { cls:=.type "tuple",data:=.seq [u1,u2].toArray } }:=I1.kept (t':=s1.toks) λb o e=>cV _ e;rw[hw];refine aA (bu ?_);show wpAny (model X.prog X.w) X.A (do rule "assign.swapped-stores";let items <-unpackItems (.ref s1.heap.objs.size) 2 none;assignInOrder [λv=>bindName X.env y v,λv=>bindName X.env x v] items.reverse;pure Flow.next) _ _ _;refine aA (wpAny_rule (aA (unpackItems_tuple (items:=#[u1,u2]) (I.ok.hd hc) (IsTup.new s1.heap _) λh' hx'=>?_)));have I3:=I2.kept (h':=h') (t':=s1.toks) λb o e=>hx' b o (fY (cu e)) e;show wpAny _ _ (assignInOrder [λv=>bindName X.env y v,λv=>bindName X.env x v] [u2,u1] >>= λ_=>pure Flow.next) _ _ _;refine aA (assignInOrder_cons (wpAny_bindName (yK I3 hN hj (.inl hy) rw' (λs2 I4=>?_) (.inr hy))));refine assignInOrder_cons (wpAny_bindName (yK I4 hN hi (.inl hx) rv (λs3 I5=>assignInOrder_nil (bu ?_)) (.inr hx)));rw[List.set_comm _ _ (cO hij)]at I5;exact⟨_,H1,I5,q1⟩
theorem ig{c:Expr}{a b:List Stmt}{tc:TT}{t u:TS}(hc:bT X c tc)(ha:c5 X a t)(hb:c5 X b u):bS X (.If c a b pos) (Z2 tc t u):=by
 have hc:=hc.h;have ha:=ha.h;have hb:=hb.h;constructor;intro pins s σ H D I h;obtain⟨J,h,hJ⟩:=h;refine bM (Ws hc ha hb pins s σ H { D with nx:=J } I h) λf s' q=>?_;cases f with
 | next=>obtain⟨σ',H',I',q⟩:=q;exact⟨σ',H',I',hJ _ _ q⟩
 | cont=>exact q
 | brk=>exact q
 | ret v=>exact q
theorem aj{st:Stmt}{rest:List Stmt}(h1:bS X st t)(h2:c5 X rest u):c5 X (st::rest) (vf t u):=by
 have h1:=h1.h;have h2:=h2.h;constructor;intro pins s σ H D I h;refine wpAny_execs_cons (bM (h1 pins s σ H { D with nx:=u D } I h) λf s1 q=>?_);cases f with
 | next=>obtain⟨σ',H',I',q⟩:=q;exact h2 pins s1 σ' H' D I' q
 | ret v=>exact q
 | brk=>exact q
 | cont=>exact q
theorem aaS(K:Fg){e st:Expr}{te ts:TE}{pos p2:Pos}(he:bE X e te)(hst:bE X st ts)(hK:X.K=K:=by rfl):bE X (.Subscript e (.Slice none none (some st) p2) pos) (aga K te ts):=by have he:=he.h;have hst:=hst.h;constructor;subst hK;intro pins s σ H Q I h;refine Subscript_ (bM (he pins s σ H _ I h) λv s1 ⟨x,H1,I1,r1,q1⟩=>?_);refine wpAny_Slice ?_;rw[evalPart_none];refine bu (bu ?_);rw[evalPart_some];refine bM (hst pins s1 σ H1 _ I1 q1) λw3 s3 ⟨y,H3,I3,r3,q3⟩=>?_;obtain⟨ey,a,xs,rfl,hx,q⟩:=q3;subst ey;obtain⟨t,rfl⟩:=r3;cases r1;have I4:Inv X pins σ H3 { s3 with heap:=s3.heap.push { cls:=.type "slice",data:=.fields #[.none,.none,.int (-1) t] } }:=I3.kept (t':=s3.toks) λb ob q=>cV _ q;obtain⟨its,r,ht,hz⟩:=I4.list hx;have hlen:=r.length;refine tail_any (ops:=[.ref a,.ref s3.heap.objs.size]) ht.isList.typeIs slot_list_getitem.lookup ?_ (by with_unfolding_all rfl);refine wpAny_getItem_list_slice ht.isList (Heap.IsSliceOf.new ..) .none .none (.int (-1) t) (by decide) ?_ (by rw[iX] <;> omega);rw[PySem.W.krv_pick];refine⟨.ref _,_,I4.laid (t':=s3.toks) (o:=.lst xs.reverse) (λb ob q=>cV _ q) (aL _) ?_,Z,q _ I4.fresh⟩;exact⟨by rw[List.length_reverse];exact hz,its.reverse,0,r.reverse,fC _ rfl⟩
theorem iL(K:Fg){X:Cx}{es:List Expr}{k:Nat}{t:Dq}{n:Nat}{pos:Pos}(hc:X.calm=true)(h:WU X es t)(hK:X.K=K:=by rfl)(hn:(assignEach es X.env).length=n:=by rfl)(hst:(assignEach es X.env).findIdx? (·.1)=none:=by rfl):bG X (.Tuple es k pos) (Cq K n t):=by have h:=h.h;exact⟨hK▸Zk hc h hn hst⟩
theorem bR(hu:X.A.units+1<cLine)(ho:bE X o td)(hi:bE X i ty)(hs:ZT i:=by exact λ_ _=>rfl):bE X (.Subscript o i pos) (QI td ty):=by have ho:=ho.h;have hi:=hi.h;constructor;intro pins s σ H Q I h;refine XE PySem.F.slot_dict_getitem.lookup hs (bM (ho pins s σ H _ I h) λu s1 ⟨x,H1,I1,rx,q1⟩=>bM (hi pins s1 σ H1 _ I1 q1) λiv s2 ⟨y,H2,I2,ry,a,v,ex,g,q2⟩=>?_);subst ex;obtain rfl:u=Value.ref a:=rx;exact⟨Nl I2 g,R6 hu I2 g ry λw' s3 I3 rw'=>⟨v,H2,I3,rw',q2⟩⟩
theorem aq:bA X [] rD:=by exact⟨λ_ _ _ _ H Q I h=>Calls.spliced_nil ⟨[],H,I,.nil,h⟩⟩
theorem ai{i j pos}:bE X (.Constant (.int i) j pos) (tC (.int i)):=by exact⟨λ_ _ _ H _ I h=>wpAny_Constant_int ⟨.int i,H,I.tok _,⟨_,Z⟩,h⟩⟩
theorem Tt{rest:List Expr}(ha:bE X a ta)(hb:bE X (.BoolOp .And (b::rest) pos) tb):bE X (.BoolOp .And (a::b::rest) pos) (acy ta tb):=by
 have ha:=ha.h;have hb:=hb.h;constructor;intro pins s σ H Q I h;refine BoolOp_and (bM (ha pins s σ H _ I h) λv s1 ⟨x,H1,I1,r1,q1⟩=>?_);obtain⟨c,rfl,q1⟩:=q1;cases r1;refine Co ?_;cases c with
 | true=>exact hb pins s1 σ H1 Q I1 q1
 | false=>exact⟨.bl false,H1,I1,Z,q1⟩
theorem rS:bE X (.Dict [] [] pos) ZX:=by
 exact⟨λpins s σ H Q I h=>
 wpAny_Dict_empty ⟨.ref s.heap.objs.size,_,I.laid (a:=s.heap.objs.size) (o:=.dK []) (t':=s.toks) (λ_ _ q=>cV _ q) (aL _) (Ku s.heap I.big),Z,h _ (I.hok.fresh (aL _))⟩⟩
theorem iT{tg e:Expr}{te:TE}{g:TG}(he:bE X e te)(hg:bG X tg g)(hs:swapsWithSole [tg] e pos.line X.env=pure false:=by rfl)(hw:swappedStores [tg] e X.env=pure none:=by rfl)(h1:(assignEach [tg] X.env).map (·.2)=[assign tg X.env] :=by rfl):bS X (.Assign [tg] e pos) (UQ te g):=by have he:=he.h;have hg:=hg.h;constructor;intro pins s σ H D I h;refine wpAny_Assign_stores (bM (he pins s σ H _ I h) λv s1 ⟨x,H1,I1,r1,q1⟩=>?_) hs hw;rw[h1];exact bM (hg pins s1 σ H1 x v _ I1 r1 q1) λ_ s2 q=>q
theorem CH{elts:List Expr}{kk:Nat}{tpos:Pos}{ob:Expr}{td:TE}{apos cpos:Pos}(hob:bE X ob td)(hbase:attributeBase ob "items" X.env (eval ob X.env)=eval ob X.env:=by rfl)(hline:(apos.endLine==cpos.line)=true:=by rfl):bI X (.Tuple elts kk tpos) (.Call (.Attribute ob "items" apos) [] [] cpos) (aai td):=by
 have hob:=hob.h;constructor;intro pins s σ H R I h;refine wpAny_Call_method0_late hbase hline (bM (hob pins s σ H _ I h) λv s1 ⟨x,H1,I1,r1,q1⟩=>?_);obtain⟨d,o,kvs,rfl,e,fin⟩:=q1;cases r1;obtain⟨ho,hz,hsys,vs,ep,rel,da⟩:=I1.sR e;obtain⟨t1,t2,_⟩:=Kv I1 (.inl ⟨kvs,.inr ⟨o,e⟩⟩);have dd:=da.dictOf;refine⟨"dict",_,F.plainAttrs_dict,F.slot_dict_items,F.type_dict_items,t1,t2,Qg rfl (PySem.evalArgs_none ?_)⟩;refine call_meetsIn F.slot_dict_items dd.typeIs F.entry_dict_items (F.args_dict_items_1 _) (meets_dict_items (c8 X.prog X.w) d hsys) ⟨⟨vs,dd⟩,?_⟩;refine wpAny_pyIter_items (s:={ s1 with heap:=s1.heap.push { cls:=.type "dict_items",data:=.fields #[.ref d] } }) ⟨_,fC _ rfl,Z,Z⟩ (da.push _) ?_;have Iv:Inv X pins σ H1 { s1 with heap:=s1.heap.push { cls:=.type "dict_items",data:=.fields #[.ref d] } }:=I1.kept (t':=s1.toks) λb o e=>cV _ e;generalize ({ s1 with heap:=s1.heap.push { cls:=.type "dict_items",data:=.fields #[.ref d] } }:Shared)=sv at *;have I2:Inv X pins σ H1 { sv with heap:=sv.heap.push { cls:=.type "dict_itemiterator",data:=.fields #[.none,.bool false,.ref d,.int 0 0,.int vs.length 0,.int ep 0,.none,.none] } }:=Iv.kept (t':=sv.toks) λb o e=>cV _ e;have hl:kvs.length=vs.length:=rel.length;obtain⟨o',es,h1,_,h2,_⟩:=id da;rw[ho]at h1;cases h1;refine⟨sv.heap.objs.size,[sv.heap.objs.size],_,_,H1,Z,I2,QS h2,?_,λb hb=>?_,fin⟩
 .rw [hl];exact⟨_,_,fC _ rfl⟩
 .have eb:b=sv.heap.objs.size:=by simpa using hb
  subst eb;exact Iv.Cr (aL _) (Iv.hok.fresh (aL _))
theorem aaT{tg:Expr}{l:Expr}{tl:TE}(hl:bE X l tl):bI X tg l (aab tl):=⟨aac hl.h⟩
theorem yk(ha:bT X a tA):bW X (.BoolOp .Or [a] pos) tA:=by
 have ha:=ha.h;constructor;intro wh pins s σ H Q I h;refine isTrue_or (bM (ha pins s σ H Q I h) λc s1 e=>?_);cases c with
 | false=>exact isTrue_or_nil e
 | true=>exact e
theorem yl{X:Cx}{st:Stmt}{t:TS}(h:bS X st t):bS X st (agb t):=by
 have h:=h.h;constructor;intro pins s σ H D I hw;obtain⟨d,kvs,e,hw⟩:=hw;obtain⟨ho,es,ep,h1,_⟩:=(DA I.hok e).2.2.choose_spec.2;have h0:=I.Sx e;refine bM (h pins s σ _ _ (I.freeze e h1) (hw ho)) λf s' q=>?_;cases f with
 | next=>obtain⟨σ',H',I',q1,q2⟩:=q;exact⟨σ',_,I'.Cw q1 h0,q2⟩
 | brk=>obtain⟨σ',H',I',q1,q2⟩:=q;exact⟨σ',_,I'.Cw q1 h0,q2⟩
 | cont=>obtain⟨σ',H',I',q1,q2⟩:=q;exact⟨σ',_,I'.Cw q1 h0,q2⟩
 | ret u=>obtain⟨v,σ',H',I',r,q1,q2⟩:=q;exact⟨v,σ',_,I'.Cw q1 h0,r,q2⟩
theorem pW(hu:X.A.units+1<cLine)(ho:bE X o td)(hi:bE X i ty)(hv:bE X value tv)(hs:swapsWith value (some (.Subscript o i pos')) pos.line X.env=pure false):bS X (.Assign [.Subscript o i pos'] value pos) (acT td ty tv):=by have ho:=ho.h;have hi:=hi.h;have hv:=hv.h;constructor;intro pins s σ H D I h;refine wpAny_Assign_Subscript (bM (hv pins s σ H _ I h) λr s1 ⟨v,H1,I1,rv,q1⟩=>bM (ho pins s1 σ H1 _ I1 q1) λu s2 ⟨x,H2,I2,rx,q2⟩=>bM (hi pins s2 σ H2 _ I2 q2) λiv s3 ⟨y,H3,I3,ry,a,H4,ex,g,q3⟩=>?_) hs;subst ex;obtain rfl:u=Value.ref a:=rx;exact R7 hu I3 g ry rv λs4 I4=>⟨σ,H4,I4,q3⟩
theorem qv(i:Nat){x:Str}{pos:Pos}(hN:X.N[i]?=some x:=by rfl)(hv:Wm X.env.scope x:=by first|exact Or.inl rfl|exact Or.inr (Or.inl rfl)|exact Or.inr (Or.inr rfl))(hd:(x==("__debug__":Str))=false:=by decide)(hcd:(x==("__classdict__":Str))=false:=by decide):bE X (.Name x pos) (Fp i):=by exact⟨Zb hN hv hd hcd⟩
theorem bh{id:String}(hc:iH X (.builtin id) r)(hg:Gl X x)(hm:X.mg x=none)(hv:bootBuiltins x=some (.builtin id))(ha:bA X (e::es) t)(hn:x ≠ "__name__":=by decide)(hdb:(x==("__debug__":Str))=false:=by decide)(he:starEach (e::es) X.env=(false,eval e X.env)::starEach es X.env:=by rfl)(hpl:(backTo pos (starEach es X.env)).any (·.1)=false:=by rfl):bE X (.Call (.Name x p) (e::es) [] pos) (Wy r t):=by have ha:=ha.h;constructor;intro pins s σ H Q I h;refine JZ (ve I hg hm hv ?_ hn hdb);exact PyProof.Rows.callWith_builtin1 (bM (ha pos pins s σ H _ I h) λus s1 ⟨vs,H1,I1,r1,q1⟩=>hc pins s1 σ H1 vs us Q I1 r1 q1) he hpl
theorem iU{o i:Expr}{to ti:TE}{t:ua}(ho:bE X o to)(hi:bE X i ti)(hs:UP X t)(ha:∀v,assign (.Subscript o i pos) X.env v=(do
   let ov <-holding [v] (eval o X.env)
   let iv <-holding [v,ov] (eval i X.env)
   standAt pos
   holding [v,ov,iv] (setItem ov iv v)
   release [v,ov,iv] []):=by intro _;rfl):bG X (.Subscript o i pos) (afT to ti t):=by
 have ho:=ho.h;have hi:=hi.h;constructor
 intro pins s σ H v u Q I r h
 rw[ha]
 refine aA (Dl (bM (ho pins s σ H _ I h) λov s1 ⟨x,H1,I1,r1,q1⟩=>?_))
 refine aA (Dl (bM (hi pins s1 σ H1 _ I1 q1) λiv s2 ⟨y,H2,I2,r2,q2⟩=>?_))
 refine aA (Dk (aA (Dl (bM (hs pins s2 σ H2 x y v ov iv u _ I2 r1 r2 r q2) λ_ s3 ⟨H3,I3,q3⟩=>?_))))
 exact wpAny_release ⟨σ,H3,I3,q3⟩
theorem gK{st:Stmt}:bS X st Zg:=by exact⟨λ_ _ _ _ _ _ h=>h.elim⟩
theorem Tu{j k:Nat}{x:Str}{C:Addr}{ps:List Str}{sp:Sp}{p pos:Pos}(D:Cn X.prog X.w X.K X.mg X.base j x C ps sp)(hr:fD k X.A)(hj:j+1<=k:=by decide)(hg:Gl X x:=by rfl)(hdb:(x==("__debug__":Str))=false:=by decide):bE X (.Call (.Name x p) [] [] pos) (JO C sp [] E0 rD):=by constructor;obtain⟨f,fd,F,b,M,m⟩:=D.ex;exact U8 M F (hr.mono hj) hg m b .nil (λ_ _ _ _ _ _ _ h=>h.elim) hdb
theorem af(ha:bE X e te)(hr:bA X es t)(hs:starEach (e::es) X.env=(false,eval e X.env)::starEach es X.env:=by rfl):bA X (e::es) (QD te t):=by have ha:=ha.h;have hr:=hr.h;constructor;intro pos pins s σ H Q I h;rw[hs];show wpAny _ _ (spliced ((false,eval e X.env)::backTo pos (starEach es X.env))) _ _ s;refine Calls.spliced_cons (bM (ha pins s σ H _ I h) λu s1 ⟨x,H1,I1,r1,q1⟩=>?_);exact bM (hr pos pins s1 σ H1 _ I1 q1) λus s2 ⟨xs,H2,I2,r2,q2⟩=>⟨x::xs,H2,I2,.cons r1 r2,q2⟩
theorem aK(K:Fg){e:Expr}{f:Str}{ta:TE}{pos:Pos}(he:bE X e ta)(hb:attributeBase e f X.env (eval e X.env)=eval e X.env:=by rfl)(hK:X.K=K:=by rfl):bE X (.Attribute e f pos) (Zx K ta f):=by have he:=he.h;exact⟨hK▸ZA he hb⟩
theorem BD{op:CmpOp}{r:R2}(ho:j7 X (compareOp op) r)(ha:bE X a ta)(hb:bE X b tb)(hm:behindInMarks op b=false):bE X (.Compare a [op] [b] pos) (GU r ta tb):=by have ha:=ha.h;have hb:=hb.h;constructor;intro pins s σ H Q I h;exact wpAny_Compare1 (UY ha hb I h λv u s2 x y H2 I2 rx ry q=>ho pins s2 σ H2 x y v u Q I2 rx ry q) hm
theorem bH{j k:Nat}{x:Str}{ps:List Str}{sp:Sp}{e:Expr}{es:List Expr}{t:TA}{p pos:Pos}(D:Dn X.prog X.w X.K X.mg X.base j x ps sp)(hr:fD k X.A)(ha:bA X (e::es) t)(hj:j<=k:=by decide)(hg:Gl X x:=by rfl)(hdb:(x==("__debug__":Str))=false:=by decide)(he:starEach (e::es) X.env=(false,eval e X.env)::starEach es X.env:=by rfl)(hpl:(backTo pos (starEach es X.env)).any (·.1)=false:=by rfl):bE X (.Call (.Name x p) (e::es) [] pos) (Wx sp [] E0 t):=by have ha:=ha.h;constructor;obtain⟨f,fd,F,b,kp,m⟩:=D.ex;exact Xx F (hr.mono hj) hg m kp b .nil (λ_ _ _ _ _ _ _ h=>h.elim) ha hdb he hpl
theorem tP{rest:List Expr}(ha:bT X a tA)(hb:bW X (.BoolOp .And (b::rest) pos) Wr):bW X (.BoolOp .And (a::b::rest) pos) (afO tA Wr):=by
 have ha:=ha.h;have hb:=hb.h;constructor;intro wh pins s σ H Q I h;refine isTrue_and (bM (ha pins s σ H _ I h) λc s1 ⟨H1,I1,q1⟩=>?_);cases c with
 | true=>exact hb wh pins s1 σ H1 Q I1 q1
 | false=>exact⟨H1,I1,q1⟩
section
variable {P:Program}{w:World}{K:Fg}{mg:SO}{base:Heap}{f C:Addr}{fd:FuncData}{N ps:List Str}{k:Nat}{sp:Sp}{x m qual:Str}{st:Stmt}
theorem di{N P:List Str}{sc:Scope}(a:sc.kind =.function:=by rfl)(b:sc.isCoroutine=false:=by rfl)(c:sc.isGenerator=false:=by rfl)(d:N.Nodup:=by decide +kernel)(e:N.take P.length=P:=by rfl)(f:∀x∈P,sc.names.lookup x=some .local\/sc.names.lookup x=some .cell:=by decide +kernel)(g:∀y∈sc.names,y.2 ≠ .free:=by decide +kernel):aP N P sc:=⟨a,b,c,d,e,f,g⟩
theorem At.oA(F:At K mg x st f fd)(S:aP N ps (aC st))(hbody:∀(cdv:Value) (A:Around) (outer:List Env) (s:Shared) (H:Hp) (vs:List V) (Q:VK) (E:XK),fD k (A.deeper (envOfC x (aC st) s.heap.objs.size f cdv))->sp vs H Q E->
    ∃t,wY (uc vj P w K mg base N x (aC st) f cdv A outer s H E).BX (dP st) t/\t { nx:=λ_ H'=>Q .cy H',rt:=Q } (start N vs) H)(len:∀vs H Q E,sp vs H Q E->vs.length=ps.length:=by intro vs H Q E h;first|(cases h.ex;subst_vars;rfl)|(have h:=h.ex;(repeat first|(obtain⟨rfl,_⟩:=h;rfl)|(obtain⟨_,h⟩:=h));done)|(repeat first|(obtain⟨rfl,_⟩:=h;rfl)|(obtain⟨_,h⟩:=h)))(h:∀(kV doc pm:Value) (an:Option Addr) (cdv ct:Value) (us:List Value),us.length=ps.length->bindArgs (PySem.W.fnOf x x (gy st) (dP st) (aC st) .none kV doc pm an cdv ct) ⟨us,[]⟩=pure (ps.zip us):=by intro _ _ _ _ _ _ us hl;repeat' (first|rfl|(simp at hl;done)|(rcases us with _|⟨_,us⟩))):Dn P w K mg base (k+1) x ps sp:=F.ok S len hbody h
theorem ja.oA(F:ja K C m qual st f fd)(S:aP N ps (aC st))(hbody:∀(cdv:Value) (A:Around) (outer:List Env) (s:Shared) (H:Hp) (vs:List V) (Q:VK) (E:XK),fD k (A.deeper (envOfC qual (aC st) s.heap.objs.size f cdv))->sp vs H Q E->
    ∃t,wY (uc vj P w K mg base N qual (aC st) f cdv A outer s H E).BX (dP st) t/\t { nx:=λ_ H'=>Q .cy H',rt:=Q } (start N vs) H)(len:∀vs H Q E,sp vs H Q E->vs.length=ps.length:=by intro vs H Q E h;first|(cases h.ex;subst_vars;rfl)|(have h:=h.ex;(repeat first|(obtain⟨rfl,_⟩:=h;rfl)|(obtain⟨_,h⟩:=h));done)|(repeat first|(obtain⟨rfl,_⟩:=h;rfl)|(obtain⟨_,h⟩:=h)))(h:∀(kV doc pm:Value) (an:Option Addr) (cdv ct:Value) (us:List Value),us.length=ps.length->bindArgs (PySem.W.fnOf m qual (gy st) (dP st) (aC st) .none kV doc pm an cdv ct) ⟨us,[]⟩=pure (ps.zip us):=by intro _ _ _ _ _ _ us hl;repeat' (first|rfl|(simp at hl;done)|(rcases us with _|⟨_,us⟩))):Mn P w K mg base (k+1) C m ps sp:=F.ok S len hbody h
theorem Ho.oA(F:Ho K mg x C qual st f fd)(S:aP N ps (aC st))(hbody:∀(cdv:Value) (A:Around) (outer:List Env) (s:Shared) (H:Hp) (vs:List V) (Q:VK) (E:XK),fD k (A.deeper (envOfC qual (aC st) s.heap.objs.size f cdv))->sp vs H Q E->
    ∃t,wY (uc vj P w K mg base N qual (aC st) f cdv A outer s H E).BX (dP st) t/\t { nx:=λ_ H'=>Q .cy H',rt:=Q } (start N vs) H)(len:∀vs H Q E,sp vs H Q E->vs.length=ps.length:=by intro vs H Q E h;first|(cases h.ex;subst_vars;rfl)|(have h:=h.ex;(repeat first|(obtain⟨rfl,_⟩:=h;rfl)|(obtain⟨_,h⟩:=h));done)|(repeat first|(obtain⟨rfl,_⟩:=h;rfl)|(obtain⟨_,h⟩:=h)))(h:∀(kV doc pm:Value) (an:Option Addr) (cdv ct:Value) (us:List Value),us.length=ps.length->bindArgs (PySem.W.fnOf "__init__" qual (gy st) (dP st) (aC st) .none kV doc pm an cdv ct) ⟨us,[]⟩=pure (ps.zip us):=by intro _ _ _ _ _ _ us hl;repeat' (first|rfl|(simp at hl;done)|(rcases us with _|⟨_,us⟩))):Cn P w K mg base (k+1) x C ps sp:=F.ok S len hbody h
end
def mJ(b:BS)(x:Str)(F:BP->BP):BS:={ b with ah:=(b.ah.map λp=>if p.nm=x then F p else p).filter λp=>decide (0<p.wo) }
def o_(b:BS)(x:Str):BP:=(b.ah.find? λp=>decide (p.nm=x)).getD ⟨x,x,0,0,[]⟩
def i7(b:BS)(o:Str)(p:BP):BP:={ p with ow:=o,tops:=(p.tops.set (b.own.idxOf p.ow) 0).set (b.own.idxOf o) ((p.tops.set (b.own.idxOf p.ow) 0).getD (b.own.idxOf o) 0+p.tops.getD (b.own.idxOf p.ow) 0) }
def AG(b:BS)(x y:Str)(a we:Int):BS:={ b with
 ah:=((b.ah.map λp:BP=>if p.nm=x then{ p with wo:=p.wo-a,we:=p.we-we } else p)++[BP.mk y (o_ b x).ow a we (o_ b x).tops]).filter λp=>decide (0<p.wo)
 eF:=b.eF++[y] }
def xB(b:BS)(x:Str):BS:={ mJ b x λp=>{ p with wo:=0 }with bD:=b.bD++[⟨x,(o_ b x).ow,(o_ b x).wo,(o_ b x).tops,b.bot⟩] }
def qz(b:BS):Dd->BS
 | .sign _=>b
 | .load x o wo we=>y9 b x o wo we
 | .cast rs=>i6 b (c9 b rs) 0 0
 | .award o a=>i6 b (List.replicate b.ah.length 0) (b.own.idxOf o) a
 | .mishap x a=>mJ b x λp=>{ p with wo:=p.wo-a }
 | .rise x a=>mJ b x λp=>{ p with wo:=p.wo+a }
 | .hand x o=>mJ b x (i7 b o)
 | .land x=>xB b x
 | .sever x y a we=>AG b x y a we
 | .still=>b
theorem Tv(b:BS)(d:Dd):(qz b d).own=b.own:=by cases d <;> rfl
inductive ado(e:Ec)(vs:List V)(H:Hp)(Q:VK)(E:XK):Prop
 |mk(a:Int)(_:vs=[.int a])(_:(a<1->Rf e E H 5))(_:(1<=a->Q .cy H))
def AH(e:Ec):Sp:=bx (ado e)
inductive adp(e:Ec)(vs:List V)(H:Hp)(Q:VK)(E:XK):Prop
 |mk(m a:Int)(_:vs=[.int m,.int a])(_:(a<1->Rf e E H 5))(_:(1<=a->m<a->Rf e E H 6))(_:(1<=a->a<=m->Q .cy H))
def Lp(e:Ec):Sp:=bx (adp e)
inductive VJ(T:TC)(e:Ec)(vs:List V)(H:Hp)(Q:VK)(E:XK):Prop
 |mk(n ρ A st x a:_)(_:vs=[.ref A.a,.str x,.int a])(_:HH T n ρ A H st)(_:HM T e n ρ A H (lP st (x,a)) (d7 st (x,a)) Q E)
def HP(T:TC)(e:Ec):Sp:=bx (VJ T e)
inductive aaU(T:TC)(e:Ec)(vs:List V)(H:Hp)(Q:VK)(E:XK):Prop
 |mk(n ρ A st x a:_)(_:vs=[.ref A.a,.str x,.int a])(_:HH T n ρ A H st)(_:HM T e n ρ A H (sS st x a:_) (Ef st x a:_) Q E)
def Pk(T:TC)(e:Ec):Sp:=bx (aaU T e)
inductive adq(K:Fg)(vs:List V)(H:Hp)(Q:VK)(E:XK):Prop
 |mk(l:Addr)(us:List V)(ws:List Row)(x:Str)(_:vs=[.ref l,.str x])(_:aD K H l us)(_:Le K H us ws)(_:(ws.map (λr:Row=>r.1)).Nodup)(_:ws.length<=1000)(_:(∀(i:Nat) (r:Row),ws[i]?=some r->r.1=x->Q (.int (i:Int)) H))(_:((∀r∈ws,r.1≠x)->Q (.int (-1)) H))
def Eg(K:Fg):Sp:=bx (adq K)
inductive Lq(al:HS->Dd->Prop)(K:Fg)(vs:List V)(H:Hp)(Q:VK)(E:XK):Prop
 |mk(n c:Nat)(ρ:fG)(B:BA)(b:BS)(st:HS)(z:Addr)(d:Dd)(_:vs=[.ref B.m,.ref z])(_:H z=some (.tup d.v))(_:Gh ρ H)(_:bg n ρ B H b)(_:fK c st b)(_:c<=90)(_:Wf st)(_:al st d)(_:Pf d)(_:vJ st d=none)(_:∀ρ' B' H',Gh ρ' H'->bg n ρ' B' H' (qz b d:_)->B'.m=B.m->Fr n ρ H ρ' H'->Q .cy H')
def xC(al:HS->Dd->Prop)(K:Fg):Sp:=bx (Lq al K)
theorem Dn.imp{P:Program}{w:World}{K:Fg}{mg:SO}{base:Heap}{k:Nat}{x:Str}{ps:List Str}{sp RW:Sp}(D:Dn P w K mg base k x ps sp)(h:∀vs H Q E,RW vs H Q E->sp vs H Q E):Dn P w K mg base k x ps RW:=by obtain⟨f,fd,F,b,kp,m⟩:=D.ex;exact⟨f,fd,F.imp h,b,kp,m⟩
theorem aaV{P:Program}{w:World}{K:Fg}{mg:SO}{base:Heap}{k:Nat}{ps:List Str}(D:Dn P w K mg base k "_law_at" ps (Eg K)):Dn P w K mg base k "_law_at" ps (WS K):=D.imp λvs H Q E h=>by
 obtain⟨⟨l,us,ws,j,r,rfl,hl,hW,nd,hle,ej,q⟩⟩:=h;refine⟨l,us,ws,r.1,Z,hl,hW,nd,hle,λi r' e1 e2=>?_,λz=>absurd rfl (z r (aY ej))⟩;have hi:i<ws.length:=(dj.mp e1).1;have r1:(ws.map (λr:Row=>r.1))[i]?=some r'.1:=by rw[bQ,e1];rfl
 have r2:(ws.map (λr:Row=>r.1))[j]?=some r.1:=by rw[bQ,ej];rfl
 have:i=j:=(Fl (by rw[aE];exact hi) nd).mp (r1.trans (by rw[e2];exact r2.symm));rw[this];exact q
theorem nv{st:HS}{x:Str}(h:x∈fQ st):∃(i:Nat)(p:Pt),st.ah[i]?=some p/\p.nm=x:=by obtain⟨p,hp,e⟩:=aX.mp h;obtain⟨i,hi,ei⟩:=oV hp;exact⟨i,p,by rw[a_ hi,ei],e⟩
theorem BF{st:HS}{i:Nat}{p:Pt}(h:st.ah[i]?=some p):p.nm∈fQ st:=aX.mpr ⟨p,aY h,Z⟩
theorem kW{α:Type}{nm:α->Str}{f:α->α}:∀{l:List α}{i:Nat}{p:α},(l.map nm).Nodup->l[i]?=some p->(l.map λq=>if nm q=nm p then f q else q)=l.set i (f p)
 | [],_,_,_,h=>by simp at h
 | a::l,0,p,nd,h=>by
  have e:a=p:=by simpa using h
  subst e;obtain⟨h1,_⟩:=gP.mp (show(nm a::l.map nm).Nodup from nd);rw[bF,ay rfl,J3];congr 1;refine(p5 (g:=id) (λq hq=>av λz=>h1 (aX.mpr ⟨q,hq,z⟩))).trans (List.map_id l)
 | a::l,i+1,p,nd,h=>by
  obtain⟨h1,h2⟩:=gP.mp (show(nm a::l.map nm).Nodup from nd);have h':l[i]?=some p:=by simpa using h
  rw[bF,av (λz=>h1 (aX.mpr ⟨p,aY h',z.symm⟩)),J1,kW h2 h']
theorem BG{st:HS}(nd:(st.ah.map (·.nm)).Nodup){i:Nat}{p:Pt}(h:st.ah[i]?=some p)(f:Pt->Pt):nW st p.nm f={ st with ah:=st.ah.set i (f p) }:=by unfold nW;rw[kW (nm:=λp:Pt=>p.nm) nd h]
theorem ym{st:HS}(wf:Wf st){x:Str}{f:Pt->Pt}(h:∀p∈st.ah,p.nm=x->(f p).nm=p.nm/\(f p).ow=p.ow/\(f p).sc=p.sc/\(f p).row=p.row/\1<=(f p).wo/\0<=(f p).we):Wf (nW st x f):=by
 have P:∀{M:Pt->Prop},(∀p∈st.ah,p.nm=x->M (f p))->(∀p∈st.ah,M p)->∀p∈(nW st x f).ah,M p:=λa c p hp=>by
  obtain⟨q,hq,rfl⟩:=aX.mp (show p∈st.ah.map _ from hp);by_cases e:q.nm=x
  .rw [ay e];exact a q hq e
  .rw [av e];exact c q hq
 have en:(nW st x f).ah.map (λp:Pt=>p.nm)=st.ah.map (λp:Pt=>p.nm):=by
  show(st.ah.map _).map _=_;rw[fu];refine p5 λp hp=>?_;show(if p.nm=x then f p else p).nm=p.nm;by_cases e:p.nm=x
  .rw [ay e];exact(h p hp e).1
  .rw [av e]
 refine⟨wf.um,wf.yT,?_,P (λp hp e=>?_) wf.sub,P (λp hp e=>?_) wf.rows,P (λp hp e=>?_) wf.ow,wf.f7,wf.mz,wf.fH,wf.m_,wf.rH,wf.kP,wf.yU,?_,wf.An,wf.vB,wf.Hr,wf.big,wf.o6,P (λp hp e=>?_) wf.qi,P (λp hp e=>?_) wf.nK,P (λp hp e=>?_) wf.o7,P (λp hp e=>?_) wf.jE,wf.FE⟩
 .show ((nW st x f).ah.map (λp:Pt=>p.nm)).Nodup;rw[en];exact wf.fF
 .show (f p).nm∈st.nms;rw[(h p hp e).1];exact wf.sub p hp
 .rw [(h p hp e).2.2.2.1];exact wf.rows p hp
 .show (f p).ow∈st.own;rw[(h p hp e).2.1];exact wf.ow p hp
 .show (st.ah.map _).length<=1000;rw[aE];exact wf.qh
 .rw [(h p hp e).2.2.1];exact wf.qi p hp
 .rw [(h p hp e).2.2.2.1];exact wf.nK p hp
 .rw [(h p hp e).2.2.2.1,(h p hp e).2.2.1];exact wf.o7 p hp
 .exact (h p hp e).2.2.2.2
def pe(p:BP):Q4:=(p.nm,p.ow,p.wo,p.we)
theorem BH{l:List BP}{F:BP->BP}{f:Q4->Q4}(h:∀p∈l,pe (F p)=f (pe p)):((l.map F).filter λp=>decide (0<p.wo)).map pe=((l.map pe).map f).filter λq=>decide (0<q.2.2.1):=by
 induction l with
 | nil=>rfl
 | cons p l ih=>
  have ih:=ih λq hq=>h q (cR _ hq);have e:=h p cQ;rw[bF,bF,bF,<-e];by_cases c:0<(F p).wo
  .rw [Qf (p:=λp:BP=>decide (0<p.wo)) (br c),Qf (p:=λq:Q4=>decide (0<q.2.2.1)) (br (show 0<(pe (F p)).2.2.1 from c)),bF,ih]
  .rw [List.filter_cons_of_neg (p:=λp:BP=>decide (0<p.wo)) (by simpa using c),List.filter_cons_of_neg (p:=λq:Q4=>decide (0<q.2.2.1)) (by simpa using(show ¬ 0<(pe (F p)).2.2.1 from c)),ih]
theorem JQ{c:Nat}{st:HS}{b:BS}(g:fK c st b){ps:List Pt}{bs:List BP}(qd:ia { st with ah:=ps }=nq { b with ah:=bs })(hp:∀p'∈ps,∃p∈st.ah,p'.nm=p.nm/\p'.sc=p.sc/\p'.row=p.row)(hb:∀q'∈bs,∃q∈b.ah,q'.nm=q.nm/\q'.ow=q.ow/\q'.tops=q.tops/\1<=q'.wo/\q'.wo<=q.wo+1000000000/\q'.we<=q.we)(sb:(bs.map λp:BP=>p.nm).Sublist (b.ah.map λp:BP=>p.nm)):fK (c+1) { st with ah:=ps } { b with ah:=bs }:=by
 have hl:bs.length<=b.ah.length:=by have:=sb.length_le;rwa [aE,aE]at this
 have wb:=g.fT
 refine⟨⟨wb.nd.sublist sb,λq hq=>?_,λq hq=>?_,wb.b1,wb.bz,λq hq=>?_,wb.ol,fZ hl wb.pl,wb.kl⟩,⟨g.rel.own,qd⟩,λp eL q hq e j=>?_,λu hu=>(g.bK u hu).mono (by omega),fZ g.stp (by omega),g.prod.mono (by omega),g.bot.mono (by omega),λq hq=>?_,(λq hq=>by obtain⟨q0,h0,e1,e2,e3,e4,e5,e6⟩:=hb q hq;have:=g.we q0 h0;omega),(by have:=g.pl;show bs.length<=_;omega),(by have:=g.kl;show b.eF.length<=_;omega),g.own,λq hq=>?_,g.bD,g.eF,g.nk,g.on,λq hq=>?_⟩
 . obtain⟨q0,h0,e1,e2,e3,e4,e5⟩:=hb q hq;rw[e3];exact wb.tl q0 h0
 . obtain⟨q0,h0,e1,e2,e3,e4,e5⟩:=hb q hq;rw[e3];exact wb.t0 q0 h0
 . obtain⟨q0,h0,e1,e2,e3,e4,e5⟩:=hb q hq;exact e4
 . obtain⟨q0,h0,e1,e2,e3,e4,e5⟩:=hb q hq
   obtain⟨p0,k0,k1,k2,k3⟩:=hp p eL
   have:=g.qu p0 k0 q0 h0 (by rw[<-k1,<-e1];exact e) j
   rw[e3]
   show _=(aM { st with ah:=ps } p).getD j 0*b.bot
   have et:aM { st with ah:=ps } p=aM st p0:=by unfold aM;rw[k2,k3]
   rw[et];exact this
 . obtain⟨q0,h0,e1,e2,e3,e4,e5⟩:=hb q hq
   have:=g.wo q0 h0
   omega
 . obtain⟨q0,h0,e1,e2,e3,e4,e5⟩:=hb q hq;rw[e1,e2];exact g.nm q0 h0
 . obtain⟨q0,h0,e1,e2,e3,e4,e5⟩:=hb q hq;rw[e3];exact g.sum q0 h0
theorem BI(b:BS)(x:Str)(F:BP->BP)(h:∀p∈b.ah,(F p).nm=p.nm):(((b.ah.map λp=>if p.nm=x then F p else p).filter λp=>decide (0<p.wo)).map λp:BP=>p.nm).Sublist (b.ah.map λp:BP=>p.nm):=by
 have e:(b.ah.map λp=>if p.nm=x then F p else p).map (λp:BP=>p.nm)=b.ah.map λp:BP=>p.nm:=by
  rw[fu];refine p5 λp hp=>?_;show(if p.nm=x then F p else p).nm=p.nm;by_cases c:p.nm=x
  .rw [ay c];exact h p hp
  .rw [av c]
 rw[<-e];exact(JY).map _
theorem vM{c:Nat}{st:HS}{b:BS}(g:fK c st b):st.ah.map (λp=>((p.nm,p.ow,p.wo,p.we):Q4))=b.ah.map pe:=g.rel.qd
theorem Tw{c:Nat}{st:HS}{b:BS}{x:Str}{a:Int}(g:fK c st b)(wf:Wf st)(h:lP st (x,a)=none):fK (c+1) (d7 st (x,a)) (mJ b x λp=>{ p with wo:=p.wo-a }):=by
 have hr:x∈fQ st/\1<=a/\a<=(cL st x).wo:=by
  unfold lP at h;by_cases c1:x∈fQ st
  .rw [ay c1]at h;by_cases c2:a<1
   .rw [ay c2]at h;cases h
   .rw [av c2]at h;by_cases c3:(cL st x).wo<a
    .rw [ay c3]at h;cases h
    .exact ⟨c1,by omega,by omega⟩
  .rw [av c1]at h;cases h
 obtain⟨hm,h1,h2⟩:=hr;have le:∀p∈st.ah,p.nm=x->a<=p.wo:=λp hp e=>by rw[dN wf hp e]at h2;exact h2
 have leB:∀q∈b.ah,q.nm=x->a<=q.wo:=λq hq e=>by
  obtain⟨j,hj,ej⟩:=oV hq;obtain⟨p,hp,k1,_,k3,_⟩:=g.rel.at (i:=j) (q:=q) (by rw[a_ hj,ej])
  rw[<-k3];exact le p (aY hp) (k1.trans e)
 refine JQ g ?_ (λp hp=>?_) (λq hq=>?_) (BI b x _ λ_ _=>rfl)
 .show (jP st.ah x a).map _=List.map pe ((b.ah.map _).filter _);rw[BH (f:=λq:Q4=>if q.1=x then(q.1,q.2.1,q.2.2.1-a,q.2.2.2) else q) (λp hp=>by
   show pe (if p.nm=x then _ else _)=if p.nm=x then _ else _;by_cases e:p.nm=x
   .rw [ay e,ay e];rfl
   .rw [av e,av e]),<-vM g]
  show(jP st.ah x a).map _=_;have:=HE st (x,a);rw[show(jP st.ah x a).map (λp:Pt=>((p.nm,p.ow,p.wo,p.we):Q4))=oF (ia st) (x,a)from this];unfold oF ia;refine List.filter_congr λq hq=>decide_eq_decide.mpr ?_;obtain⟨q0,mK,rfl⟩:=aX.mp hq;obtain⟨p,hp,rfl⟩:=aX.mp mK;have w1:=(wf.jE p hp).1;show(if p.nm=x then _ else _:Q4).2.2.1≠0↔0<(if p.nm=x then _ else _:Q4).2.2.1;by_cases e:p.nm=x
  .have:=le p hp e;rw[ay e];show p.wo-a≠0↔0<p.wo-a;omega
  .rw [av e];show p.wo≠0↔0<p.wo;omega
 .obtain ⟨_,q,hq,rfl⟩:=rN (show p∈jP st.ah x a from hp);refine⟨q,hq,?_⟩;by_cases e:q.nm=x
  .rw [ay e];exact⟨Z,Z,Z⟩
  .rw [av e];exact⟨Z,Z,Z⟩
 .obtain ⟨h3,h4⟩:=iz.mp hq;obtain⟨q0,mK,rfl⟩:=aX.mp h3;have w1:=g.fT.w1 q0 mK;have h4:=dW h4;refine⟨q0,mK,?_⟩;by_cases e:q0.nm=x
  .rw [ay e]at h4 ⊢;have h4:0<q0.wo-a:=h4;exact⟨Z,Z,Z,by show 1<=q0.wo-a;omega,by show q0.wo-a<=_;omega,dZ _⟩
  .rw [av e];exact⟨Z,Z,Z,w1,by omega,dZ _⟩
theorem Ys{c:Nat}{st:HS}{b:BS}{x:Str}{a:Int}(g:fK c st b)(wf:Wf st)(h1:1<=a)(h2:a<=1000000000):fK (c+1) (Ef st x a) (mJ b x λp=>{ p with wo:=p.wo+a }):=by
 refine JQ g ?_ (λp hp=>?_) (λq hq=>?_) (BI b x _ λ_ _=>rfl)
 .show (st.ah.map _).map _=List.map pe ((b.ah.map _).filter _);rw[BH (f:=λq:Q4=>if q.1=x then(q.1,q.2.1,q.2.2.1+a,q.2.2.2) else q) (λp hp=>by
   show pe (if p.nm=x then _ else _)=if p.nm=x then _ else _;by_cases e:p.nm=x
   .rw [ay e,ay e];rfl
   .rw [av e,av e]),<-vM g,z6.mpr (λq hq=>by
    obtain⟨q0,mK,rfl⟩:=aX.mp hq;obtain⟨p,hp,rfl⟩:=aX.mp mK;have w1:=(wf.jE p hp).1;refine br ?_;show 0<(if p.nm=x then _ else _:Q4).2.2.1;by_cases e:p.nm=x
    .rw [ay e];show 0<p.wo+a;omega
    .rw [av e];show 0<p.wo;omega),fu,fu]
  refine p5 λp hp=>?_;show(λp:Pt=>((p.nm,p.ow,p.wo,p.we):Q4)) (if p.nm=x then _ else _)=if p.nm=x then _ else _;by_cases e:p.nm=x
  .rw [ay e,ay e]
  .rw [av e,av e]
 .obtain ⟨q,hq,rfl⟩:=aX.mp hp;refine⟨q,hq,?_⟩;by_cases e:q.nm=x
  .rw [ay e];exact⟨Z,Z,Z⟩
  .rw [av e];exact⟨Z,Z,Z⟩
 .obtain ⟨h3,h4⟩:=iz.mp hq;obtain⟨q0,mK,rfl⟩:=aX.mp h3;have w1:=g.fT.w1 q0 mK;refine⟨q0,mK,?_⟩;by_cases e:q0.nm=x
  .rw [ay e];exact⟨Z,Z,Z,by show 1<=q0.wo+a;omega,by show q0.wo+a<=_;omega,dZ _⟩
  .rw [av e];exact⟨Z,Z,Z,w1,by omega,dZ _⟩
theorem pA{st:HS}{b:BS}(r:ku st b)(wf:Wf st){x:Str}(h:x∈fQ st):∃(i:Nat)(p:Pt)(q:BP),st.ah[i]?=some p/\b.ah[i]?=some q/\p.nm=x/\q.nm=x/\q.ow=p.ow/\q.wo=p.wo/\q.we=p.we/\cL st x=p:=by obtain⟨i,p,h1,h2⟩:=nv h;obtain⟨q,k1,k2,k3,k4,k5⟩:=r.at' h1;exact⟨i,p,q,h1,k1,h2,k2.symm.trans h2,k3.symm,k4.symm,k5.symm,dN wf (aY h1) h2⟩
theorem Lr{st:HS}{b:BS}(r:ku st b):(uL b).map (λr:Row=>r.1)=fQ st:=by
 have:(ia st).map (λq:Q4=>q.1)=(nq b).map (λq:Q4=>q.1):=by rw[r.qd]
 unfold ia nq at this;rw[fu,fu]at this;unfold uL fQ;rw[fu];exact this.symm
theorem Yt{K:Fg}{H:Hp}{Q:VK}{E:XK}{n:Nat}{ρ:fG}{B:BA}{b:BS}{st:HS}{x:Str}(hb:bg n ρ B H b)(r:ku st b)(wf:Wf st)(wb:xw b)(q:∀(i:Nat) (p:Pt) (q:BP),st.ah[i]?=some p->b.ah[i]?=some q->p.nm=x->q.nm=x->q.ow=p.ow->q.wo=p.wo->q.we=p.we->cL st x=p->x∈fQ st->Q (.int (i:Int)) H)(q2:x∉fQ st->Q (.int (-1)) H):Eg K [.ref B.lp,.str x] H Q E:=by
 have nd:((uL b).map (λr:Row=>r.1)).Nodup:=by unfold uL;rw[fu];exact wb.nd
 refine⟨B.lp,_,uL b,x,Z,aD.of hb.op,hb.nw,nd,by unfold uL;rw[aE];exact wb.pl,λi r' e1 e2=>?_,λh=>q2 λz=>?_⟩
 . have hm:x∈fQ st:=by rw[<-Lr r];exact aX.mpr ⟨r',aY e1,e2⟩
   obtain⟨j,p,q',k1,k2,k3,k4,k5,k6,k7,k8⟩:=pA r wf hm
   have r1:((uL b).map (λr:Row=>r.1))[i]?=some x:=by rw[bQ,e1];show some r'.1=_;rw[e2]
   have r2:((uL b).map (λr:Row=>r.1))[j]?=some x:=by unfold uL;rw[fu,bQ,k2];show some q'.nm=_;rw[k4]
   have:i=j:=(Fl (dj.mp r1).1 nd).mp (r1.trans r2.symm)
   subst this
   exact q i p q' k1 k2 k3 k4 k5 k6 k7 k8 hm
 . rw[<-Lr r]at z
   obtain⟨r',hr',e⟩:=aX.mp z
   exact h r' hr' e
theorem AI{st:HS}{x:Str}{a:Int}(h:sS st x a=none):x∈fQ st/\1<=a:=by
 unfold sS at h;by_cases hm:x∈fQ st
 .rw [ay hm]at h;by_cases c:a<1
  .rw [ay c]at h;cases h
  .exact ⟨hm,by omega⟩
 .rw [av hm]at h;cases h
structure FQ(st:HS):Prop where
 big:Jm.Sz 60 (aH st)
 prod:Jm.Sz 7900 st.prod
 bK:∀u∈st.bK,Jm.Sz 8900 u
 stp:st.stp.length<100
def ko(st:HS)(o:Str)(a:Int):List Int:=(List.replicate st.own.length 0).set (st.own.idxOf o) (a*st.prod)
inductive Yu(T:TC)(e:Ec)(vs:List V)(H:Hp)(Q:VK)(E:XK):Prop
 |mk(n ρ A st o a:_)(_:vs=[.ref A.a,.str o,.int a])(_:HH T n ρ A H st)(_:FQ st)(_:HM T e n ρ A H (mH st o a:_) (AB st o a:_) Q E)
def Ls(T:TC)(e:Ec):Sp:=bx (Yu T e)
theorem qA{st:HS}{o:Str}{a:Int}(h:mH st o a=none):o∈st.own/\1<=a/\a<aH st:=by
 unfold mH at h;split at h
 .split at h
  .cases h
  .split at h
   .cases h
   .exact ⟨by assumption,by omega,by omega⟩
 .cases h
theorem VL{st:HS}{o:Str}{a m:Int}(h:m∈ko st o a):m=0\/m=a*st.prod:=by
 rcases JR h with z|z
 .exact .inl (JS z)
 .exact .inr z
theorem VM(st:HS)(o:Str)(a:Int):(ko st o a).length=st.own.length:=by unfold ko;rw[eX,iW]
theorem FQ.blend{st:HS}{o:Str}{a:Int}(w:FQ st)(wf:Wf st)(h1:1<=a)(h2:a<aH st):nc st (aH st-a) (aH st) a (ko st o a):=by have p1:=wf.fH;refine⟨by omega,by omega,by omega,by rw[VM,wf.f7],λm hm=>?_,w.prod,w.big,w.bK,w.stp⟩;have:0<=a*st.prod:=j9 (by omega) (by omega);rcases VL hm with z|z <;> omega
theorem Lu{l:List Int}{i j:Nat}{x:Int}(h:i<l.length):(l.set i x).getD j 0=if i=j then x else l.getD j 0:=by
 rw[dG,Qt];by_cases e:i=j
 .subst e;rw[ay rfl,ay rfl,ay h];rfl
 .rw [av e,av e,dG]
theorem Lv(n j:Nat):(List.replicate n (0:Int)).getD j 0=0:=by rw[dG,Qe];split <;> rfl
theorem Lw:∀(ps:List BP)(i:Nat),iu ps (List.replicate ps.length 0) i=0
 | [],_=>rfl
 | p::ps,i=>by have:=Lw ps i;unfold iu at this ⊢;rw[iY,yC,tY,b8,this,Int.mul_zero];rfl
theorem Eh(b:BS)(j:Nat):(gF b (List.replicate b.ah.length 0)).getD j 0=0:=by
 unfold gF;rw[dG,bQ];cases(List.range b.own.length)[j]? with
 | none=>rfl
 | some i=>exact Lw b.ah i
theorem aaW{b:BS}{seat:Nat}{a:Int}{p:BP}(h:p∈(i6 b (List.replicate b.ah.length 0) seat a).ah):∃q∈b.ah,p=mF (gU b (List.replicate b.ah.length 0) seat a) (bN b-a) q 0:=by obtain⟨h1,_⟩:=iz.mp (show p∈(c6 b (List.replicate b.ah.length 0) seat a).filter _ from h);obtain⟨i,x,y,ex,ey,e⟩:=jd (show p∈List.zipWith (mF (gU b (List.replicate b.ah.length 0) seat a) (bN b-a-(List.replicate b.ah.length (0:Int)).sum)) b.ah (List.replicate b.ah.length 0)from h1);rw[rP,wW,JS (aY ey)]at e;exact⟨x,aY ex,e⟩
theorem Pn{k:BP->Int->BP}:∀(ps:List BP),List.zipWith k ps (List.replicate ps.length 0)=ps.map λp=>k p 0
 | []=>rfl
 | p::ps=>by rw[iY,yC,tY,bF,Pn ps]
theorem VN{c:Nat}{st:HS}{b:BS}{o:Str}{a:Int}(g:fK c st b)(wf:Wf st)(w:FQ st)(hc:c<=90)(ho:o∈st.own)(h1:1<=a)(h2:a<aH st):fK (c+1) (AB st o a) (i6 b (List.replicate b.ah.length 0) (b.own.idxOf o) a):=by
 have ew:=g.rel.whole;have eo:=g.rel.own;have bl:=w.blend (o:=o) wf h1 h2;have hi:b.own.idxOf o<b.own.length:=JT.mpr (by rw[<-eo];exact ho);have bo:lz b (List.replicate b.ah.length 0) (b.own.idxOf o) a:=⟨iW,λx hx=>by rw[JS hx];exact dZ _,hi,by omega,by rw[rP];omega,by rw[<-ew];exact w.big⟩
 refine Pe g bl bo hc rfl ⟨?_,?_⟩ ?_
 .show (bf st _ _ _).own=b.own;unfold bf;rw[tN];exact eo
 .rw [show ia (AB st o a)=ia st from D_ _ _ _ _,g.rel.qd];unfold nq i6 c6;rw[Pn];show _=List.map _ (List.filter _ (List.map _ b.ah));rw[z6.mpr (λq hq=>by obtain⟨p,hp,rfl⟩:=aX.mp hq;exact br (by show 0<p.wo-0;have:=g.fT.w1 p hp;omega)),fu]
  refine p5 λp _=>?_;show(p.nm,p.ow,p.wo,p.we)=(p.nm,p.ow,p.wo-0,p.we)
  rw[wW]
 .intro p' eL q' hq' en j;obtain⟨q,hq,rfl⟩:=aaW hq';have hp1:p'∈st.ah.map (λp:Pt=>{ p with sc:=p.sc*(aH st-a) / b_ st (aH st-a) (aH st) (ko st o a) }):=by have h:p'∈(bf st (aH st-a) (aH st) (ko st o a)).ah:=eL;unfold bf at h;rw[kM]at h;exact h
  obtain⟨p,hp,rfl⟩:=aX.mp hp1;have tj:=g.qu p hp q hq en j;show(List.zipWith _ q.tops (gU b _ _ a)).getD j 0*_=_*(b.bot*bN b);rw[kT (f:=λt g=>t*(bN b-a)+g) (by show(0:Int)*_+0=0;omega) (by rw[g.fT.tl q hq,vG]),<-ew];refine Az (p':={ p with sc:=p.sc*(aH st-a) / b_ st (aH st-a) (aH st) (ko st o a) }) wf bl rfl rfl hp rfl rfl tj ?_;unfold gU ko;rw[ay (by omega),Lu (by rw[kR];exact hi),Lu (by rw[iW,eo];exact hi),Eh,Eh,Lv,eo];by_cases e:b.own.idxOf o=j
  .rw [ay e,ay e,wV,iG,iG,kN b.bot]
  .rw [av e,av e,mX,mX]
inductive Yv(T:TC)(e:Ec)(vs:List V)(H:Hp)(Q:VK)(E:XK):Prop
 |mk(n ρ A st x y a we:_)(_:vs=[.ref A.a,.str x,.str y,.int a,.int we])(_:HH T n ρ A H st)(_:y.cps.toList.length<=100000)(_:st.nms.length<1000)(_:st.ah.length<1000)(_:HM T e n ρ A H (kC st x y a we:_) (qx st x y a we:_) Q E)
def Lx(T:TC)(e:Ec):Sp:=bx (Yv T e)
theorem j6{H:Hp}{a b:Addr}{o:HO}(h:upd H a o b=none):H b=none:=by
 by_cases z:b=a
 .rw [z,ak]at h;cases h
 .rw [az z]at h;exact h
theorem VO{st:HS}{y:Str}(h:newR st y=none):isNm y=true/\y∉st.nms:=by
 unfold newR at h;split at h
 .split at h
  .cases h
  .exact ⟨by assumption,by assumption⟩
 .cases h
theorem kX{st:HS}{x y:Str}{a we:Int}(h:kC st x y a we=none):x∈fQ st/\(isNm y=true/\y∉st.nms)/\1<=a/\0<=we/\a<(cL st x).wo/\we<=(cL st x).we:=by
 unfold kC at h;split at h
 .cases hf:newR st y with
  | some j=>rw[hf]at h;cases h
  | none=>
   rw[hf]at h;have h':(if a<1\/we<0 then some 5 else if(cL st x).wo<=a\/(cL st x).we<we then some 6 else none)=none:=h;split at h'
   .cases h'
   .split at h'
    .cases h'
    .exact ⟨by assumption,VO hf,by omega,by omega,by omega,by omega⟩
 .cases h
theorem Ly{st:HS}{x y:Str}{a we:Int}(wf:Wf st)(h:kC st x y a we=none)(h2:st.nms.length<1000)(h3:st.ah.length<1000):Wf (qx st x y a we):=by
 obtain⟨hx,⟨_,hy⟩,h4,h5,h6,h7⟩:=kX h;obtain⟨i,p0,ei,e0⟩:=nv hx;have hp:=aY ei;have eg:=dN wf hp e0;have w1:Wf (nW st x λp=>{ p with wo:=p.wo-a,we:=p.we-we }):=ym wf λp eL e=>by rw[ng wf eL hp (e.trans e0.symm)];rw[eg]at h6 h7;exact⟨Z,Z,Z,Z,by show 1<=p0.wo-a;omega,by show 0<=p0.we-we;omega⟩
 unfold qx;rw[eg];exact O3 w1 hy h2 (by show(st.ah.map _).length<1000;rw[aE];exact h3) (wf.rows p0 hp) (wf.ow p0 hp) (wf.qi p0 hp) (wf.nK p0 hp) (wf.o7 p0 hp) ⟨h4,h5⟩
theorem aaX{c:Nat}{st:HS}{b:BS}(g:fK c st b)(wf:Wf st){p0:Pt}{q0:BP}(hp0:p0∈st.ah)(mK:q0∈b.ah)(en:p0.nm=q0.nm)(eo:p0.ow=q0.ow){y:Str}{a we:Int}(hy:y∉st.nms)(hn:isNm y=true)(h1:1<=a)(h2:a<=1000000000)(h2w:we<=1000000000)(h3:b.ah.length<50+c)(h4:b.eF.length<900+c)(hc:c<=91):fK c (yV st ⟨y,p0.ow,a,we,p0.sc,p0.row⟩) { b with ah:=b.ah++[⟨y,q0.ow,a,we,q0.tops⟩],eF:=b.eF++[y] }:=by
 have wb:=g.fT;have P:∀{M:BP->Prop},(∀p∈b.ah,M p)->M ⟨y,q0.ow,a,we,q0.tops⟩->∀p∈b.ah++[BP.mk y q0.ow a we q0.tops],M p:=λa c p hp=>by
  rcases dI.mp hp with z|z
  .exact a p z
  .rw [dS.mp z];exact c
 have nB:∀q∈b.ah,q.nm≠y:=λq hq e=>by
  obtain⟨i,hi,ei⟩:=oV hq;obtain⟨p,hp,k1,_⟩:=g.rel.at (i:=i) (q:=q) (by rw[a_ hi,ei])
  exact hy (by rw[<-e,<-k1];exact wf.sub p (aY hp))
 have nS:∀p∈st.ah,p.nm≠y:=λp hp e=>hy (by rw[<-e];exact wf.sub p hp);refine⟨⟨?_,P wb.tl (wb.tl q0 mK),P wb.t0 (wb.t0 q0 mK),wb.b1,wb.bz,P wb.w1 h1,wb.ol,?_,?_⟩,⟨g.rel.own,?_⟩,?_,g.bK,g.stp,g.prod,g.bot,P g.wo (by show a<=_;omega),P g.we h2w,?_,?_,g.own,P g.nm ⟨By hn,(g.nm q0 mK).2⟩,g.bD,?_,?_,g.on,P g.sum (g.sum q0 mK)⟩
 .show ((b.ah++[_]).map (λp:BP=>p.nm)).Nodup;rw[bL];refine m7 wb.nd λm=>?_;obtain⟨q,hq,e⟩:=aX.mp m;exact nB q hq e
 .show (b.ah++[_]).length<=1000;rw[c7];show b.ah.length+1<=1000;omega
 .show (b.eF++[_]).length<=1000;rw[c7];show b.eF.length+1<=1000;omega
 .show (st.ah++[_]).map _=(b.ah++[_]).map _;rw[bL,bL,show st.ah.map (λp=>((p.nm,p.ow,p.wo,p.we):Q4))=b.ah.map (λp=>((p.nm,p.ow,p.wo,p.we):Q4))from g.rel.qd];show _++[((y,p0.ow,a,we):Q4)]=_++[((y,q0.ow,a,we):Q4)]
  rw[eo]
 .intro p hp q hq e j;show q.tops.getD j 0*st.prod=(aM st p).getD j 0*b.bot;rcases dI.mp (show p∈st.ah++[_]from hp)with zp|zp
  .rcases dI.mp (show q∈b.ah++[_]from hq)with zq|zq
   .exact g.qu p zp q zq e j
   .rw [dS.mp zq]at e;exact absurd e (nS p zp)
  .rcases dI.mp (show q∈b.ah++[_]from hq)with zq|zq
   .rw [dS.mp zp]at e;exact absurd e.symm (nB q zq)
   .rw [dS.mp zp,dS.mp zq];exact g.qu p0 hp0 q0 mK en j
 .show (b.ah++[_]).length<=50+c;rw[c7];show b.ah.length+1<=50+c;omega
 .show (b.eF++[_]).length<=900+c;rw[c7];show b.eF.length+1<=900+c;omega
 .show st.nms++[y]=b.eF++[y];rw[g.eF]
 .intro z hz;rcases dI.mp (show z∈b.eF++[y]from hz)with k|k
  .exact g.nk z k
  .rw [dS.mp k];exact hn
theorem aaY{c:Nat}{st:HS}{b:BS}{x:Str}{a we:Int}(g:fK c st b)(wf:Wf st)(h0:1<=a)(h00:0<=we)(le:∀p∈st.ah,p.nm=x->a<p.wo):fK (c+1) (nW st x λp=>{ p with wo:=p.wo-a,we:=p.we-we }) (mJ b x λp=>{ p with wo:=p.wo-a,we:=p.we-we }):=by
 have leB:∀q∈b.ah,q.nm=x->a<q.wo:=λq hq e=>by
  obtain⟨j,hj,ej⟩:=oV hq;obtain⟨p,hp,k1,_,k3,_⟩:=g.rel.at (i:=j) (q:=q) (by rw[a_ hj,ej])
  rw[<-k3];exact le p (aY hp) (k1.trans e)
 refine JQ g ?_ (λp hp=>?_) (λq hq=>?_) (BI b x _ λ_ _=>rfl)
 .show (st.ah.map _).map _=List.map pe ((b.ah.map _).filter _);rw[BH (f:=λq:Q4=>if q.1=x then(q.1,q.2.1,q.2.2.1-a,q.2.2.2-we) else q) (λp hp=>by
   show pe (if p.nm=x then _ else _)=if p.nm=x then _ else _;by_cases e:p.nm=x
   .rw [ay e,ay e];rfl
   .rw [av e,av e]),<-vM g,z6.mpr (λq hq=>by
    obtain⟨q0,mK,rfl⟩:=aX.mp hq;obtain⟨p,hp,rfl⟩:=aX.mp mK;have w1:=(wf.jE p hp).1;refine br ?_;show 0<(if p.nm=x then _ else _:Q4).2.2.1;by_cases e:p.nm=x
    .have:=le p hp e;rw[ay e];show 0<p.wo-a;omega
    .rw [av e];show 0<p.wo;omega),fu,fu]
  refine p5 λp hp=>?_;show(λp:Pt=>((p.nm,p.ow,p.wo,p.we):Q4)) (if p.nm=x then _ else _)=if p.nm=x then _ else _;by_cases e:p.nm=x
  .rw [ay e,ay e]
  .rw [av e,av e]
 .obtain ⟨q,hq,rfl⟩:=aX.mp hp;refine⟨q,hq,?_⟩;by_cases e:q.nm=x
  .rw [ay e];exact⟨Z,Z,Z⟩
  .rw [av e];exact⟨Z,Z,Z⟩
 .obtain ⟨h3,h4⟩:=iz.mp hq;obtain⟨q0,mK,rfl⟩:=aX.mp h3;have w1:=g.fT.w1 q0 mK;refine⟨q0,mK,?_⟩;by_cases e:q0.nm=x
  .have:=leB q0 mK e;rw[ay e];exact⟨Z,Z,Z,by show 1<=q0.wo-a;omega,by show q0.wo-a<=_;omega,by show q0.we-we<=_;omega⟩
  .rw [av e];exact⟨Z,Z,Z,w1,by omega,dZ _⟩
theorem pX:∀{l:List BP}{i:Nat}{q:BP},(l.map λp:BP=>p.nm).Nodup->l[i]?=some q->(l.find? λp=>decide (p.nm=q.nm))=some q
 | [],_,_,_,h=>by simp at h
 | p::l,0,q,_,h=>by
  have e:p=q:=by simpa using h
  subst e;rw[p8,br rfl]
 | p::l,i+1,q,nd,h=>by
  obtain⟨h1,h2⟩:=gP.mp (show(p.nm::l.map λp:BP=>p.nm).Nodup from nd);have h':l[i]?=some q:=by simpa using h
  rw[p8,dB (λe=>h1 (aX.mpr ⟨q,aY h',e.symm⟩))];exact pX h2 h'
theorem VP{c:Nat}{st:HS}{b:BS}{x y:Str}{a we:Int}(g:fK c st b)(wf:Wf st)(hc:c<=90)(h:kC st x y a we=none)(h9:a<=1000000000)(zP:we<=1000000000)(h3:st.ah.length<1000):fK (c+1) (qx st x y a we) (AG b x y a we):=by
 obtain⟨hx,⟨hn,hy⟩,h4,h5,h6,h7⟩:=kX h;obtain⟨i,p0,q0,e1,e2,k1,k2,k3,k4,k5,k6⟩:=pA g.rel wf hx;have hp:=aY e1;have hq:=aY e2;rw[k6]at h6 h7;have uq:∀p∈st.ah,p.nm=x->p=p0:=λp eL e=>ng wf eL hp (e.trans k1.symm);have g1:=aaY (we:=we) g wf h4 h5 λp eL e=>by rw[uq p eL e];exact h6
 have w1:Wf (nW st x λp=>{ p with wo:=p.wo-a,we:=p.we-we }):=ym wf λp eL e=>by rw[uq p eL e];exact⟨Z,Z,Z,Z,by show 1<=p0.wo-a;omega,by show 0<=p0.we-we;omega⟩
 have hp1:({ p0 with wo:=p0.wo-a,we:=p0.we-we }:Pt)∈(nW st x λp=>{ p with wo:=p.wo-a,we:=p.we-we }).ah:=aX.mpr ⟨p0,hp,ay k1⟩;have hq1:({ q0 with wo:=q0.wo-a,we:=q0.we-we }:BP)∈(mJ b x λp=>{ p with wo:=p.wo-a,we:=p.we-we }).ah:=iz.mpr ⟨aX.mpr ⟨q0,hq,ay k2⟩,br (by show 0<q0.wo-a;omega)⟩;have pl:=g.pl;have kl:=g.kl;have l1:=(E_ (λp:BP=>decide (0<p.wo)) (b.ah.map λp=>if p.nm=x then{ p with wo:=p.wo-a,we:=p.we-we } else p))
 rw[aE]at l1;have g2:=aaX g1 w1 (y:=y) (a:=a) (we:=we) hp1 hq1 (k1.trans k2.symm) k3.symm hy hn h4 h9 zP (Fd l1 (by omega)) (by show b.eF.length<_;omega) (by omega);have eb:o_ b x=q0:=by unfold o_;rw[<-k2,pX g.fT.nd e2];rfl
 unfold qx AG;rw[k6,eb,Qo,Qf (p:=λp:BP=>decide (0<p.wo)) (br (by show 0<a;omega)),List.filter_nil];exact g2
theorem AJ{α β:Type}{f:α->β}{l:List α}{i:Nat}{x:α}(h:l[i]?=some x):(l.map f).set i (f x)=l.map f:=mE (by rw[bQ,h];rfl)
inductive aaZ(T:TC)(e:Ec)(vs:List V)(H:Hp)(Q:VK)(E:XK):Prop
 |mk(n ρ A st x o:_)(_:vs=[.ref A.a,.str x,.str o])(_:HH T n ρ A H st)(_:∀p∈st.ah,(aM st p).sum=st.prod)(_:HM T e n ρ A H (oG st x o:_) (iJ st x o:_) Q E)
def Po(T:TC)(e:Ec):Sp:=bx (aaZ T e)
theorem tQ{st:HS}{x o:Str}(h:oG st x o=none):x∈fQ st/\o∈st.own:=by
 unfold oG at h;split at h
 .split at h
  .exact ⟨by assumption,by assumption⟩
  .cases h
 .cases h
theorem yo:∀{l:List Int},(∀t∈l,0<=t)->0<=l.sum/\∀t∈l,t<=l.sum
 | [],_=>⟨dZ _,λt h=>by cases h⟩
 | a::l,h=>by
  obtain⟨h1,h2⟩:=yo (l:=l) λt ht=>h t (cR _ ht);have h0:=h a cQ;refine⟨by show 0<=a+l.sum;omega,λt ht=>?_⟩;show t<=a+l.sum;rcases eZ.mp ht with rfl|ht
  .omega
  .have:=h2 t ht;omega
theorem Ei{l:List Int}{i:Nat}{v:Int}(h:∀t∈l,0<=t)(hv:0<=v):∀t∈l.set i v,0<=t:=λt ht=>by
 rcases JR ht with z|z
 .exact h t z
 .rw [z];exact hv
theorem vN{l:List Int}(h:∀t∈l,0<=t)(i:Nat):0<=l.getD i 0:=by
 rw[dG];cases e:l[i]? with
 | none=>exact dZ _
 | some v=>exact h v (aY e)
def HQ(l:List Int)(i j:Nat):List Int:=(l.set j (l.getD j 0+l.getD i 0)).set i 0
def lD(l:List Int)(i j:Nat):List Int:=(l.set i 0).set j ((l.set i 0).getD j 0+l.getD i 0)
theorem Yw(l:List Int)(i j:Nat):(lD l i j).length=l.length:=by unfold lD;rw[eX,eX]
theorem FT(l:List Int)(i j:Nat):(HQ l i j).length=l.length:=by unfold HQ;rw[eX,eX]
theorem aa0{l:List Int}{i j:Nat}(hi:i<l.length)(hj:j<l.length)(k:Nat):(HQ l i j).getD k 0=if k=i then 0 else if k=j then l.getD j 0+l.getD i 0 else l.getD k 0:=by unfold HQ;rw[oY _ _ _ _ (by rw[eX];exact hi),oY _ _ _ _ hj]
theorem aa1{l:List Int}{i j:Nat}(hi:i<l.length)(hj:j<l.length)(ne:i≠j)(k:Nat):(lD l i j).getD k 0=if k=i then 0 else if k=j then l.getD j 0+l.getD i 0 else l.getD k 0:=by
 unfold lD;rw[oY _ _ _ _ (by rw[eX];exact hj),oY _ _ _ _ hi,oY _ _ _ _ hi,av (cO ne)];by_cases e:k=j
 .rw [ay e,ay e,av (by rw[e];exact cO ne)]
 .rw [av e,av e]
theorem Yx{l:List Int}{i j:Nat}(hi:i<l.length)(hj:j<l.length):(lD l i j).sum=l.sum:=by unfold lD;rw[sum_set _ _ _ (by rw[eX];exact hj),sum_set _ _ _ hi];omega
theorem Yy{l:List Int}{i j:Nat}(hi:i<l.length)(hj:j<l.length)(ne:i≠j):(HQ l i j).sum=l.sum:=by unfold HQ;rw[sum_set _ _ _ (by rw[eX];exact hi),sum_set _ _ _ hj,oY _ _ _ _ hj,av ne];omega
theorem Yz{l:List Int}{i j:Nat}(h:∀t∈l,0<=t):∀t∈lD l i j,0<=t:=Ei (Ei h (dZ _)) (Int.add_nonneg (vN (Ei h (dZ _)) _) (vN h _))
theorem YA{l:List Int}{i j:Nat}(h:∀t∈l,0<=t):∀t∈HQ l i j,0<=t:=Ei (Ei h (Int.add_nonneg (vN h _) (vN h _))) (dZ _)
theorem VQ{l:List Int}{i:Nat}(hi:i<l.length):lD l i i=l:=by
 unfold lD;rw[oY _ _ _ _ hi,ay rfl,wV,oq];apply List.ext_getElem?;intro k;rw[Qt];by_cases e:i=k
 .subst e;rw[ay rfl,ay hi,dG,a_ hi];rfl
 .rw [av e]
theorem Lz{st:HS}{tops:List Int}(h:tops.length=st.bU.length):List.zipWith (λr c=>(1:Int)*r+c) (lO st tops) st.bU=tops:=by
 unfold lO;generalize st.bU=cs at h
 induction tops generalizing cs with
 | nil=>rfl
 | cons t ts ih=>
  cases cs with
  | nil=>cases h
  | cons c cs=>have:=ih cs (Nat.succ.inj h);show(1*(t-c)+c)::_=t::ts;rw[this];congr 1;omega
theorem zQ{st:HS}(wf:Wf st){p:Pt}(hp:p∈st.ah):(aM st p).length=st.own.length:=by unfold aM;rw[jX,wf.rows p hp,wf.f7,yH]
def zh(st:HS)(o:Str)(p:Pt):Pt:={ p with ow:=o,sc:=1,row:=lO st (nu st p o) }
theorem vO(st:HS)(p:Pt)(o:Str):nu st p o=HQ (aM st p) (st.own.idxOf p.ow) (st.own.idxOf o):=rfl
theorem AK{st:HS}(wf:Wf st){p:Pt}(hp:p∈st.ah)(o:Str):aM st (zh st o p)=nu st p o:=by
 have:(nu st p o).length=st.bU.length:=by rw[vO,FT,zQ wf hp,wf.f7]
 exact Lz this
theorem LA{st:HS}(wf:Wf st){p:Pt}(hp:p∈st.ah){o:Str}(ho:o∈st.own)(ne:st.own.idxOf o≠st.own.idxOf p.ow)(hs:(aM st p).sum=st.prod):(∀t∈nu st p o,0<=t/\t<=st.prod)/\(nu st p o).sum=st.prod:=by
 have hl:=zQ wf hp;have h1:st.own.idxOf p.ow<(aM st p).length:=by rw[hl];exact lR (wf.ow p hp)
 have h2:st.own.idxOf o<(aM st p).length:=by rw[hl];exact lR ho
 have hp0:=YA (i:=st.own.idxOf p.ow) (j:=st.own.idxOf o) λt ht=>(wf.o7 p hp t ht).1;have hsum:=(Yy h1 h2 (cO ne)).trans hs;rw[vO];exact⟨λt ht=>⟨hp0 t ht,by rw[<-hsum];exact(yo hp0).2 t ht⟩,hsum⟩
theorem Pp{st:HS}{x o:Str}(wf:Wf st)(h:oG st x o=none)(hs:∀p∈st.ah,(aM st p).sum=st.prod):Wf (iJ st x o):=by
 obtain⟨hx,ho⟩:=tQ h;obtain⟨i,p0,ei,e0⟩:=nv hx;have hp:=aY ei;have eg:=dN wf hp e0;unfold iJ;by_cases ne:st.own.idxOf o=st.own.idxOf (cL st x).ow
 .rw [ay ne];exact wf
 rw[av ne];rw[eg]at ne;obtain⟨ft,_⟩:=LA wf hp ho ne (hs p0 hp);have uq:∀p∈st.ah,p.nm=x->p=p0:=λp eL e=>ng wf eL hp (e.trans e0.symm);have P:∀{M:Pt->Prop},M (zh st o p0)->(∀p∈st.ah,M p)->∀p∈(nW st x (zh st o)).ah,M p:=λa c p eL=>by
  obtain⟨q,hq,rfl⟩:=aX.mp (show p∈st.ah.map _ from eL);by_cases e:q.nm=x
  .rw [ay e,uq q hq e];exact a
  .rw [av e];exact c q hq
 have hl:(nu st p0 o).length=st.own.length:=by rw[vO,FT,zQ wf hp]
 have en:(nW st x (zh st o)).ah.map (λp:Pt=>p.nm)=st.ah.map λp:Pt=>p.nm:=by
  show(st.ah.map _).map _=_;rw[fu];refine p5 λp _=>?_;show(if p.nm=x then zh st o p else p).nm=p.nm;by_cases e:p.nm=x
  .rw [ay e];rfl
  .rw [av e]
 have p1:=wf.fH;refine⟨wf.um,wf.yT,?_,P (wf.sub p0 hp) wf.sub,P ?_ wf.rows,P ho wf.ow,wf.f7,wf.mz,wf.fH,wf.m_,wf.rH,wf.kP,wf.yU,?_,wf.An,wf.vB,wf.Hr,wf.big,wf.o6,P ⟨dZ _,p1⟩ wf.qi,P ?_ wf.nK,P ?_ wf.o7,P (wf.jE p0 hp) wf.jE,wf.FE⟩
 .show ((nW st x (zh st o)).ah.map (λp:Pt=>p.nm)).Nodup;rw[en];exact wf.fF
 .show (lO st (nu st p0 o)).length=st.own.length;unfold lO;rw[jX,hl,wf.f7,yH]
 .show (st.ah.map _).length<=1000;rw[aE];exact wf.qh
 .intro r hr;obtain⟨t,ht,c,hc,rfl⟩:=vE (show r∈List.zipWith (λt c=>t-c) (nu st p0 o) st.bU from hr);have a1:=ft t ht;have a2:=wf.o6 c hc;exact⟨by show -st.prod<=t-c;omega,by show t-c<=st.prod;omega⟩
 .intro t ht;have:t∈nu st p0 o:=by rw[<-AK wf hp];exact ht
  exact ft t this
theorem FU:∀{l m:List Int}{a b:Int},l.length=m.length->(∀j,l.getD j 0*a=m.getD j 0*b)->l.sum*a=m.sum*b
 | [],[],_,_,_,_=>by show(0:Int)*_=0*_;rw[mX,mX]
 | x::l,y::m,a,b,e,h=>by have h0:x*a=y*b:=h 0;have:=FU (l:=l) (m:=m) (Nat.succ.inj e) λj=>h (j+1);show(x+l.sum)*a=(y+m.sum)*b;rw[mY,mY,h0,this]
theorem aa2{c:Nat}{st:HS}{b:BS}(g:fK c st b)(wf:Wf st):∀p∈st.ah,(aM st p).sum=st.prod:=λp hp=>by obtain⟨i,hi,e⟩:=oV hp;obtain⟨q,eq,e1,_⟩:=g.rel.at' (i:=i) (p:=p) (by rw[a_ hi,e]);have hq:=aY eq;have h:=FU (l:=q.tops) (m:=aM st p) (by rw[g.fT.tl q hq,zQ wf hp,g.rel.own]) (g.qu p hp q hq e1);rw[g.sum q hq,kN]at h;exact(Int.eq_of_mul_eq_mul_right (by have:=g.fT.b1;omega) h).symm
theorem YB{c:Nat}{st:HS}{b:BS}{x o:Str}(g:fK c st b)(wf:Wf st)(h:oG st x o=none)(hs:∀p∈st.ah,(aM st p).sum=st.prod):fK (c+1) (iJ st x o) (mJ b x (i7 b o)):=by
 obtain⟨hx,ho⟩:=tQ h;obtain⟨i,p0,q0,e1,e2,k1,k2,k3,k4,k5,k6⟩:=pA g.rel wf hx;have hp:=aY e1;have hq:=aY e2;have eo:=g.rel.own;have wb:=g.fT;have uq:∀q∈b.ah,q.nm=x->q=q0:=λq hq' e=>by
  obtain⟨j,hj,ej⟩:=oV hq';have hj':b.ah[j]?=some q:=by rw[a_ hj,ej]
  have:=pX wb.nd hj';rw[e,<-k2,pX wb.nd e2]at this;exact(gH this).symm
 have up:∀p∈st.ah,p.nm=x->p=p0:=λp eL e=>ng wf eL hp (e.trans k1.symm);have hl:=wb.tl q0 hq;have hiB:b.own.idxOf q0.ow<q0.tops.length:=by rw[hl,k3,<-eo];exact lR (wf.ow p0 hp)
 have hjB:b.own.idxOf o<q0.tops.length:=by rw[hl,<-eo];exact lR ho
 have PB:∀{M:BP->Prop},M (i7 b o q0)->(∀q∈b.ah,M q)->∀q∈(mJ b x (i7 b o)).ah,M q:=λa c q hq'=>by
  obtain⟨h3,_⟩:=iz.mp (show q∈List.filter _ _ from hq');obtain⟨q1,hq1,rfl⟩:=aX.mp h3;by_cases e:q1.nm=x
  .rw [ay e,uq q1 hq1 e];exact a
  .rw [av e];exact c q1 hq1
 unfold iJ;rw[k6];by_cases ne:st.own.idxOf o=st.own.idxOf p0.ow
 .rw [ay ne];have oo:o=p0.ow:=by have a1:=xu ho;rw[ne,xu (wf.ow p0 hp)]at a1;exact(gH a1).symm
  have hb:i7 b o q0=q0:=by
   have:lD q0.tops (b.own.idxOf q0.ow) (b.own.idxOf o)=q0.tops:=by rw[oo,<-k3];exact VQ hiB
   show BP.mk q0.nm o q0.wo q0.we (lD q0.tops (b.own.idxOf q0.ow) (b.own.idxOf o))=q0;rw[this,oo,<-k3]
  have:mJ b x (i7 b o)=b:=by
   have e3:(b.ah.map λp=>if p.nm=x then i7 b o p else p)=b.ah:=by
    refine(p5 λq hq'=>?_).trans (List.map_id' _);by_cases e:q.nm=x
    .rw [ay e,uq q hq' e];exact hb
    .rw [av e]
   unfold mJ;rw[e3,z6.mpr λq hq'=>br (by have:=wb.w1 q hq';omega)]
  rw[this];exact g.mono
 rw[av ne];have nb:b.own.idxOf q0.ow≠b.own.idxOf o:=by rw[<-eo,k3];exact cO ne
 have t0:=Yz (i:=b.own.idxOf q0.ow) (j:=b.own.idxOf o) λt ht=>(wb.t0 q0 hq t ht).1;have sm:(lD q0.tops (b.own.idxOf q0.ow) (b.own.idxOf o)).sum=b.bot:=(Yx hiB hjB).trans (g.sum q0 hq);have sb:=BI b x (i7 b o) λ_ _=>rfl;have hlB:(mJ b x (i7 b o)).ah.length<=b.ah.length:=by have:=sb.length_le;rwa [aE,aE]at this
 refine⟨⟨wb.nd.sublist sb,PB ?_ wb.tl,PB ?_ wb.t0,wb.b1,wb.bz,PB (wb.w1 q0 hq) wb.w1,wb.ol,fZ hlB wb.pl,wb.kl⟩,⟨eo,?_⟩,?_,λu hu=>(g.bK u hu).mono (by omega),fZ g.stp (by omega),g.prod.mono (by omega),g.bot.mono (by omega),PB ?_ ?_,PB (g.we q0 hq) g.we,?_,?_,g.own,PB ⟨(g.nm q0 hq).1,By (g.on o (by rw[<-eo];exact ho))⟩ g.nm,g.bD,g.eF,g.nk,g.on,PB sm g.sum⟩
 .show (lD _ _ _).length=_;rw[Yw];exact hl
 .intro t ht;exact⟨t0 t ht,by rw[show(mJ b x (i7 b o)).bot=b.bot from rfl,<-sm];exact(yo t0).2 t ht⟩
 .show (st.ah.map _).map _=List.map pe ((b.ah.map _).filter _);rw[BH (f:=λq:Q4=>if q.1=x then(q.1,o,q.2.2.1,q.2.2.2) else q) (λp hp=>by
   show pe (if p.nm=x then _ else _)=if p.nm=x then _ else _;by_cases e:p.nm=x
   .rw [ay e,ay e];rfl
   .rw [av e,av e]),<-vM g,z6.mpr (λq hq=>by
    obtain⟨q0,mK,rfl⟩:=aX.mp hq;obtain⟨p,hp,rfl⟩:=aX.mp mK;have w1:=(wf.jE p hp).1;refine br ?_;show 0<(if p.nm=x then _ else _:Q4).2.2.1;by_cases e:p.nm=x
    .rw [ay e];show 0<p.wo;omega
    .rw [av e];show 0<p.wo;omega),fu,fu]
  refine p5 λp hp=>?_;show(λp:Pt=>((p.nm,p.ow,p.wo,p.we):Q4)) (if p.nm=x then _ else _)=if p.nm=x then _ else _;by_cases e:p.nm=x
  .rw [ay e,ay e]
  .rw [av e,av e]
 .intro p eL q hq' e j;obtain⟨p1,hp1,rfl⟩:=aX.mp (show p∈st.ah.map _ from eL);obtain⟨h3,_⟩:=iz.mp (show q∈List.filter _ _ from hq');obtain⟨q1,hq1,rfl⟩:=aX.mp h3;by_cases ep:p1.nm=x
  .have eq:q1.nm=x:=by
    rw[ay ep]at e;by_cases z:q1.nm=x
    .exact z
    .rw [av z]at e;exact e.symm.trans ep
   rw[ay ep,ay eq,uq q1 hq1 eq,up p1 hp1 ep];have et:=AK wf hp o;show(lD q0.tops (b.own.idxOf q0.ow) (b.own.idxOf o)).getD j 0*st.prod=(aM st (zh st o p0)).getD j 0*b.bot;have hl2:=zQ wf hp;rw[et,vO,aa1 hiB hjB nb,aa0 (by rw[hl2];exact lR (wf.ow p0 hp)) (by rw[hl2];exact lR ho),<-eo,k3];have r:=g.qu p0 hp q0 hq (k1.trans k2.symm);by_cases z1:j=st.own.idxOf p0.ow
   .rw [ay z1,ay z1,mX,mX]
   rw[av z1,av z1];by_cases z2:j=st.own.idxOf o
   .rw [ay z2,ay z2,mY,mY,r,r]
   rw[av z2,av z2];exact r j
  .have eq:q1.nm≠x:=λz=>by rw[av ep,ay z]at e;exact ep (e.trans z)
   rw[av ep,av eq]at e;rw[av ep,av eq];exact g.qu p1 hp1 q1 hq1 e j
 .have:=g.wo q0 hq;show q0.wo<=_;omega
 .intro q hq';have:=g.wo q hq';omega
 .have:=g.pl;omega
 .have:=g.kl;show b.eF.length<=_;omega
theorem LB{q0 q1:Addr×Addr×Addr}:∀{ps:List Pt}{qs:List (Addr×Addr×Addr)}{i:Nat},qs[i]?=some q0->q1.1=q0.1->cZ ps (qs.set i q1)=cZ ps qs
 | [],_,_,_,_=>by simp[cZ]
 | _::_,[],_,h,_=>by simp at h
 | p::ps,q::qs,0,h,e=>by
  have:q=q0:=by simpa using h
  subst this;show(_,V.ref q1.1)::_=(_,V.ref q.1)::_;rw[e]
 | p::ps,q::qs,i+1,h,e=>by have:=LB (ps:=ps) (qs:=qs) (i:=i) (q1:=q1) (by simpa using h) e;show _::cZ ps (qs.set i q1)=_::cZ ps qs;rw[this]
theorem aR.VR{T:TC}{n:Nat}{ρ:fG}{A:HA}{H:Hp}{st:HS}(h:aR T n ρ A H st)(g:Gh ρ H){i:Nat}{p0 p1:Pt}{q0:Addr×Addr×Addr}{r:Addr}(ep:st.ah[i]?=some p0)(eq:A.qs[i]?=some q0)(e1:p1.nm=p0.nm)(cr:ρ r=some (n,21,p0.nm))(hr:H r=some (.lst (p1.row.map V.int)))(nd:(st.ah.map (·.nm)).Nodup):aR T n ρ { A with qs:=A.qs.set i (q0.1,q0.2.1,r) } (upd H q0.1 (.ins T.part q0.2.1 (dg p1 r))) { st with ah:=st.ah.set i p1 }:=by
 have c0:=(h.opt i p0 q0 ep eq).2.2.1;have k:=eE (o:=.ins T.part q0.2.1 (dg p1 r)) g c0;have k2':=λ{b:Addr}{u:Nat}{y:Str}{w:HO}=>Ak (H:=H) (o:=.ins T.part q0.2.1 (dg p1 r)) c0 (b:=b) (u:=u) (y:=y) (w:=w);obtain⟨vs,h1,h2⟩:=h.rm;obtain⟨kvs,k1,k2,k3⟩:=h.okn;refine⟨kz k h.ca h.oa,h.ca,kz k h.jc h.jb,h.jc,?_,h.gQ,⟨vs,kz k h.jm h1,h2.keep k (by decide)⟩,h.jm,kz k h.jn h.tL,h.jn,kz k h.jr h.jq,h.jr,kz k h.jN h.jD,h.jN,kz k h.cpu h.lu,h.cpu,kz k h.ju h.nR,h.ju,⟨kvs,kz k h.jv k1,λp hp=>let⟨t,r,e,q⟩:=k2 p hp;⟨t,r,e,k.1 _ _ q⟩,k3⟩,h.jv,?_,?_⟩
 .show _=some (HO.dK (cZ (st.ah.set i p1) (A.qs.set i (q0.1,q0.2.1,r))));rw[LB (q1:=(q0.1,q0.2.1,r)) eq rfl,Bu ep e1];exact kz k h.gQ h.fj
 .show (A.qs.set i _).length=(st.ah.set i _).length;rw[eX,eX];exact h.ql
 .intro j p q hp hq;have hi:=(dj.mp ep).1;have hi':=(dj.mp eq).1;by_cases e:i=j
  .subst e;rw[show({ st with ah:=st.ah.set i p1 }:HS).ah=st.ah.set i p1 from rfl,h_ hi]at hp;rw[show({ A with qs:=A.qs.set i (q0.1,q0.2.1,r) }:HA).qs=A.qs.set i (q0.1,q0.2.1,r)from rfl,h_ hi']at hq;cases hp;cases hq;exact⟨ak,k2' cr (.inl (by decide)) hr,by rw[e1];exact c0,by rw[e1];exact cr⟩
  .rw [show({ st with ah:=st.ah.set i p1 }:HS).ah=st.ah.set i p1 from rfl,xJ e]at hp;rw[show({ A with qs:=A.qs.set i (q0.1,q0.2.1,r) }:HA).qs=A.qs.set i (q0.1,q0.2.1,r)from rfl,xJ e]at hq;obtain⟨a1,a2,a3,a4⟩:=h.opt j p q hp hq;exact⟨k2' a3 (.inr λz=>e (D0 nd ep hp z.symm)) a1,k2' a4 (.inl (by decide)) a2,a3,a4⟩
theorem LC{X:Cx}:Zm X (QE X.K):=by
 intro pins s σ H x y v u Q I rx ry h;obtain⟨p,xs,i,z,rfl,rfl,hq,he,q⟩:=h;cases rx;obtain⟨t,rfl⟩:=ry;obtain⟨its,r,pl,hz⟩:=I.list hq;obtain⟨j,h1,h2,h3,h4,h5⟩:=Bo he;obtain⟨w,ew,rw'⟩:=r.get h2;have hl:=r.length;have hn:=vg;have fin:EP X pins σ Q w s:=⟨z,H,I,rw',q⟩
 by_cases h0:0<=i
 .have hj:i.toNat=j:=by rw[seqIndex_of h0 h5]at h1;exact gH h1
  exact wpAny_getItem_list pl.isList h0 (by omega) (by rw[hj];simpa using ew) fin
 .have hj:(i+(its.toArray.size:Int)).toNat=j:=by rw[seqIndex_neg (by omega) h4]at h1;rw[iX,<-hl];exact gH h1
  exact wpAny_getItem_list_neg pl.isList (by omega) (by rw[iX] <;> omega) (by omega) (by rw[hj];simpa using ew) fin
theorem bg.LD{n:Nat}{ρ:fG}{B:BA}{H:Hp}{b:BS}(h:bg n ρ B H b)(g:Gh ρ H){i:Nat}{p0:BP}{q0:Addr×Addr}(l:List Int)(ep:b.ah[i]?=some p0)(eq:B.qs[i]?=some q0)(nd:(b.ah.map (λp:BP=>p.nm)).Nodup):bg n ρ B (upd H q0.2 (.lst (l.map V.int))) { b with ah:=b.ah.set i { p0 with tops:=l } }:=by
 obtain⟨x1,x2,x3,x4⟩:=h.pt i p0 q0 ep eq;have k:=eE (o:=.lst (l.map V.int)) g x4;obtain⟨vs,h1,h2⟩:=h.oa;have hi2:i<b.ah.length:=(dj.mp ep).1;refine⟨kz k h.cm h.om,h.cm,kz k h.co h.oo,h.co,kz k h.cp h.op,h.cp,⟨vs,kz k h.ca h1,h2.keep k (by decide) (by decide)⟩,h.ca,kz k h.ck h.ok,h.ck,?_,λj p q qp Cc=>?_⟩
 .show B.qs.length=(b.ah.set i _).length;rw[eX];exact h.ql
 .have qp:(b.ah.set i { p0 with tops:=l })[j]?=some p:=qp;by_cases hj:i=j
  .subst hj;rw[h_ hi2]at qp;rw[eq]at Cc;cases qp;cases Cc;exact⟨kz k x3 x1,ak,x3,x4⟩
  .rw [xJ hj]at qp;obtain⟨a1,a2,a3,a4⟩:=h.pt j p q qp Cc;have hnm:p.nm≠p0.nm:=λe=>by
    have hj2:j<b.ah.length:=(dj.mp qp).1;have r1:(b.ah.map (λp:BP=>p.nm))[j]?=some p.nm:=by rw[bQ,qp];rfl
    have r2:(b.ah.map (λp:BP=>p.nm))[i]?=some p0.nm:=by rw[bQ,ep];rfl
    have hj3:j<(b.ah.map (λp:BP=>p.nm)).length:=by rw[aE];exact hj2
    exact hj ((Fl hj3 nd).mp (r1.trans (by rw[e];exact r2.symm))).symm
   have hq:q.2≠q0.2:=λe=>by rw[e,x4]at a4;exact hnm (iZ (λc:qg=>c.2.2) (gH a4)).symm
   exact⟨kz k a3 a1,by rw[az hq];exact a2,a3,a4⟩
inductive Tz(T:TC)(vs:List V)(H:Hp)(Q:VK)(E:XK):Prop
 |mk(n ρ A st:_)(i:Nat)(p:Pt)(_:vs=[.ref A.a,.str p.nm])(_:HH T n ρ A H st)(_:st.ah[i]?=some p)(_:st.kn+100<=1000000)(_:∀r ws H',HH T n ρ A H' { st with kn:=st.kn+100 }->Fr n ρ H ρ H'->H r=none->H' r=some (.lst ws)->ρ r=none->oZ H' ws (mC st p:_)->Q (.ref r) H')
def Ej(T:TC):Sp:=bx (Tz T)
theorem Mn.imp{P:Program}{w:World}{K:Fg}{mg:SO}{base:Heap}{k:Nat}{C:Addr}{m:Str}{ps:List Str}{sp sp0:Sp}(D:Mn P w K mg base k C m ps sp)(h:∀vs H Q E,sp0 vs H Q E->sp vs H Q E):Mn P w K mg base k C m ps sp0:=by obtain⟨f,fd,F,r⟩:=D.ex;exact⟨f,fd,F.imp h,r⟩
structure VT(st:HS):Prop where
 kn:st.kn+100<=1000000
 bD:st.bD.length<1000
 wo:∀p∈st.ah,Jm.Sz 60 p.wo
 prod:Jm.Sz 7900 st.prod
 bK:∀u∈st.bK,Jm.Sz 8900 u
inductive aa5(T:TC)(e:Ec)(vs:List V)(H:Hp)(Q:VK)(E:XK):Prop
 |mk(n ρ A st x:_)(_:vs=[.ref A.a,.str x])(_:HH T n ρ A H st)(_:VT st)(_:HM T e n ρ A H (uX st x:_) (qw st x:_) Q E)
def Pq(T:TC)(e:Ec):Sp:=bx (aa5 T e)
theorem pY{st:HS}{x:Str}(h:uX st x=none):x∈fQ st:=by
 unfold uX at h;split at h
 .assumption
 .cases h
theorem Fr.ads{n:Nat}{ρ:fG}{H H':Hp}(f:Fr n ρ H ρ H')(g:Gh ρ H'){b:Addr}(h:H' b=none):H b=none:=by
 cases e:H b with
 | none=>rfl
 | some o=>have:=(f b o e λt x z=>by rw[g.none h]at z;cases z).1;rw[h]at this;cases this
theorem AL:∀{l:List Pt}{i:Nat}{p:Pt},(l.map (·.nm)).Nodup->l[i]?=some p->l.filter (λq=>decide (q.nm≠p.nm))=l.eraseIdx i
 | [],_,_,_,h=>by simp at h
 | x::l,0,p,nd,h=>by
  obtain⟨h1,h2⟩:=gP.mp (show(x.nm::l.map (·.nm)).Nodup from nd);have e:x=p:=by simpa using h
  subst e;rw[fL,av (by simp)];exact z6.mpr λy hy=>br λz=>h1 (aX.mpr ⟨y,hy,z⟩)
 | x::l,i+1,p,nd,h=>by
  obtain⟨h1,h2⟩:=gP.mp (show(x.nm::l.map (·.nm)).Nodup from nd);have h':l[i]?=some p:=by simpa using h
  rw[fL,ay (by simpa using λz:x.nm=p.nm=>h1 (aX.mpr ⟨p,aY h',z.symm⟩)),AL h2 h'];rfl
def lQ(st:HS)(p:Pt):List Int:=(gx st p).set (st.own.idxOf p.ow) ((gx st p).getD (st.own.idxOf p.ow) 0-p.wo*st.prod)
theorem VU{st:HS}(wf:Wf st){p:Pt}(hp:p∈st.ah){m:Nat}(h1:Jm.Sz 60 p.wo)(h2:Jm.Sz m st.prod)(h3:∀u∈st.bK,Jm.Sz (m+60) u):∀u∈gx st p,Jm.Sz (m+61) u:=λu hu=>by obtain⟨i,a,t,ea,et,rfl⟩:=jd (show u∈List.zipWith (λu t=>u+p.wo*t) st.bK (aM st p)from hu);have ht:=wf.o7 p hp t (aY et);have zt:Jm.Sz m t:=h2.of_le (by omega);exact(h3 a (aY ea)).ko ((h1.mul zt).mono (by omega))
theorem FW{st:HS}(wf:Wf st){p:Pt}(hp:p∈st.ah){m:Nat}(h1:Jm.Sz 60 p.wo)(h2:Jm.Sz m st.prod)(h3:∀u∈st.bK,Jm.Sz (m+60) u):∀u∈lQ st p,Jm.Sz (m+62) u:=λu hu=>by
 have g:=VU wf hp h1 h2 h3;rcases JR (show u∈(gx st p).set _ _ from hu)with z|z
 .exact (g u z).mono (by omega)
 .rw [z];have z0:Jm.Sz (m+61) ((gx st p).getD (st.own.idxOf p.ow) 0):=by
   rw[dG];cases e:(gx st p)[st.own.idxOf p.ow]? with
   | none=>exact(by show Jm.Sz (m+61) 0;unfold Jm.Sz;exact Nat.pow_pos (by decide))
   | some y=>exact g y (aY e)
  have:=z0.ko (((h1.mul h2).mono (by omega:60+m<=m+61)).neg);rw[Int.sub_eq_add_neg];exact this
theorem AM{st:HS}(wf:Wf st){p:Pt}(hp:p∈st.ah):(gx st p).length=st.own.length:=by unfold gx;rw[jX,zQ wf hp,wf.mz,yH]
theorem rT{st:HS}(wf:Wf st){p:Pt}(hp:p∈st.ah):qw st p.nm={ st with ah:=st.ah.filter (λq=>decide (q.nm≠p.nm)),bD:=st.bD++[⟨p.nm,p.ow,p.wo,mC st p⟩],kn:=st.kn+100,bK:=lQ st p }:=by unfold qw lQ;rw[dN wf hp rfl]
theorem Pr{st:HS}{x:Str}(wf:Wf st)(h:uX st x=none)(l:VT st):Wf (qw st x):=by
 obtain⟨i,p,e1,rfl⟩:=nv (pY h);have hp:=aY e1;rw[rT wf hp];have S:∀{M:Pt->Prop},(∀x∈st.ah,M x)->∀x∈st.ah.filter (λq=>decide (q.nm≠p.nm)),M x:=λh x hx=>h x (iz.mp hx).1;have hf:=E_ (λq:Pt=>decide (q.nm≠p.nm)) st.ah;refine⟨wf.um,wf.yT,List.Nodup.sublist (List.Sublist.map _ JY) wf.fF,S wf.sub,S wf.rows,S wf.ow,wf.f7,?_,wf.fH,wf.m_,wf.rH,wf.kP,wf.yU,?_,wf.An,?_,l.kn,wf.big,wf.o6,S wf.qi,S wf.nK,S wf.o7,S wf.jE,?_⟩
 .show (lQ st p).length=_;unfold lQ;rw[eX,AM wf hp]
 .have:=wf.qh;show(List.filter _ _).length<=1000;omega
 .show (st.bD++[_]).length<=1000;rw[c7];exact l.bD
 .exact λu hu=>(FW wf hp (m:=8840) (l.wo p hp) (l.prod.mono (by decide)) (λu hu=>(l.bK u hu).mono (by decide)) u hu).mono (by decide)
inductive TF(c:Nat)(own:List Str)(sh:List (Str×Rat)):Prop
 |mk(VW:List Str)(tops:List Int)(b:Int)(_:VW <+:own)(_:VW.length=tops.length)(_:sh=pT VW tops b)(_:∀t∈tops,0<=t)(_:tops.sum=b)(_:1<=b)(_:Jm.Sz (64*c+1) b)
theorem TF.mono{c c':Nat}{own own':List Str}{sh:List (Str×Rat)}(h:TF c own sh)(hc:c<=c')(ho:own <+:own'):TF c' own' sh:=by obtain⟨o0,ts,b,h1,h2,h3,h4,h5,h6,h7⟩:=h;exact⟨o0,ts,b,h1.trans ho,h2,h3,h4,h5,h6,h7.mono (by omega)⟩
structure Go(c:Nat)(st:HS):Prop where
 bK:∀u∈st.bK,Jm.Sz (64*c+61) u
 stp:st.stp.length<=c
 prod:Jm.Sz (64*c+1) st.prod
 wo:∀p∈st.ah,p.wo<=1000000000000*((c:Int)+1)
 we:∀p∈st.ah,p.we<=1000000000
 pl:st.ah.length<=c
 kl:st.nms.length<=c
 ol:0<st.own.length
 nk:∀x∈st.nms,isNm x=true
 on:∀o∈st.own,isNm o=true
 sum:∀p∈st.ah,(aM st p).sum=st.prod
 al:st.bD.length<=c
 bD:∀a∈st.bD,TF c st.own a.sh
theorem Go.mono{c:Nat}{st:HS}(g:Go c st):Go (c+1) st:=⟨λu hu=>(g.bK u hu).mono (by omega),by have:=g.stp;omega,g.prod.mono (by omega),λp hp=>by have:=g.wo p hp;omega,g.we,by have:=g.pl;omega,by have:=g.kl;omega,g.ol,g.nk,g.on,g.sum,by have:=g.al;omega,λa ha=>(g.bD a ha).mono (by omega) (List.prefix_refl _)⟩
theorem Pu:∀{ps:List Pt}{m:Int},(∀p∈ps,1<=p.wo/\p.wo<=m)->0<=(ps.map (·.wo)).sum/\(ps.map (·.wo)).sum<=m*(ps.length:Int)
 | [],m,_=>by show 0<=(0:Int)/\(0:Int)<=m*0;omega
 | p::ps,m,h=>by have h0:=h p cQ;have ih:=Pu (ps:=ps) (m:=m) λx hx=>h x (cR _ hx);rw[bF,b8,iY,show(((ps.length+1:Nat)):Int)=(ps.length:Int)+1 from by omega,kO,ou];omega
theorem Go.whole{c:Nat}{st:HS}(g:Go c st)(wf:Wf st)(hc:c<=91):0<=aH st/\Jm.Sz 60 (aH st):=by
 have h:=Pu (ps:=st.ah) (m:=92000000000000) λp hp=>⟨(wf.jE p hp).1,by have:=g.wo p hp;omega⟩
 have hl:=g.pl;have h2:(92000000000000:Int)*(st.ah.length:Int)<=92000000000000*91:=by omega
 have h3:aH st<=92000000000000*91:=Bh h.2 h2;have h1:0<=aH st:=h.1;exact⟨h1,(show Jm.Sz 60 (92000000000000*91:Int)from iC (by decide +kernel)).of_le (by omega)⟩
theorem Go.aw{c:Nat}{st:HS}(g:Go c st)(wf:Wf st)(hc:c<=91):FQ st:=⟨(g.whole wf hc).2,g.prod.mono (by omega),λu hu=>(g.bK u hu).mono (by omega),by have:=g.stp;omega⟩
theorem Go.sz{c:Nat}{st:HS}(g:Go c st)(wf:Wf st)(hc:c<=91):∀p∈st.ah,Jm.Sz 60 p.wo:=λp hp=>by have h:=g.wo p hp;have h1:=(wf.jE p hp).1;exact(show Jm.Sz 60 (92000000000000:Int)from iC (by decide +kernel)).of_le (by omega)
theorem Go.ld{c:Nat}{st:HS}(g:Go c st)(wf:Wf st)(hc:c<=91)(hk:st.kn+100<=1000000):VT st:=⟨hk,by have:=g.al;omega,g.sz wf hc,g.prod.mono (by omega),λu hu=>(g.bK u hu).mono (by omega)⟩
theorem Ek{c:Nat}{st:HS}(g:Go c st){ps:List Pt}{ns:List Str}(h:∀p∈ps,(aM st p).sum=st.prod/\p.wo<=1000000000000*((c:Int)+2)/\p.we<=1000000000)(hl:ps.length<=c+1)(hn:ns.length<=c+1)(hk:∀x∈ns,isNm x=true):Go (c+1) { st with ah:=ps,nms:=ns }:=⟨g.mono.bK,g.mono.stp,g.mono.prod,λp hp=>by have:=(h p hp).2.1;omega,λp hp=>(h p hp).2.2,hl,hn,g.ol,hk,g.on,λp hp=>(h p hp).1,g.mono.al,g.mono.bD⟩
theorem Go.same{c:Nat}{st:HS}(g:Go c st){ps:List Pt}(h:∀p'∈ps,∃p∈st.ah,p'.row=p.row/\p'.sc=p.sc/\p'.wo<=p.wo+1000000000000/\p'.we<=p.we)(hl:ps.length<=c+1):Go (c+1) { st with ah:=ps }:=Ek g (ns:=st.nms) (λp' eL=>by obtain⟨p,hp,e1,e2,e3,e4⟩:=h p' eL;have w:=g.wo p hp;have v:=g.we p hp;exact⟨by have:=g.sum p hp;unfold aM at this ⊢;rw[e1,e2];exact this,by omega,by omega⟩) hl g.mono.kl g.nk
theorem LF{c:Nat}{st st':HS}{kept lost:Int}{added:List Int}(g:Go c st)(wf:Wf st)(bl:nc st kept (aH st) lost added)(hs:added.sum=lost*st.prod)(hc:c<=90)(eC:st'={ bf st kept (aH st) added with ah:=st'.ah })(hp:∀p'∈st'.ah,∃p∈st.ah,p'.row=p.row/\p'.sc=p.sc*kept / b_ st kept (aH st) added/\p'.wo<=p.wo/\p'.we=p.we)(hl:st'.ah.length<=st.ah.length):Go (c+1) st':=by
 have zw:=g.whole wf (by omega)
 obtain⟨hd,hsw,_,_⟩:=bl.dvds
 have w1:0<aH st:=by have:=bl.k;have:=bl.l;have:=bl.w;omega
 have s1:1<=aH st / b_ st kept (aH st) added:=by have:=Dj w1 hsw;exact Qk hd (by omega)
 have s2:aH st / b_ st kept (aH st) added<=aH st:=JA _ (by omega)
 have zs:Jm.Sz 60 (aH st / b_ st kept (aH st) added):=zw.2.of_le (by omega)
 have ep:st'.prod=(bf st kept (aH st) added).prod:=by rw[eC]
 have ec:st'.bU=(bf st kept (aH st) added).bU:=by rw[eC]
 have epr:st'.prod=st.prod*(aH st / b_ st kept (aH st) added):=by rw[ep];unfold bf;rw[uS s1]
 have en:st'.nms=st.nms:=by rw[eC];show(bf st kept (aH st) added).nms=_;unfold bf;rw[xq]
 have eo:st'.own=st.own:=by rw[eC];show(bf st kept (aH st) added).own=_;unfold bf;rw[tN]
 have ea:st'.bD=st.bD:=by rw[eC];show(bf st kept (aH st) added).bD=_;unfold bf;rw[xr]
 have p1:=wf.fH
 have gm:=g.mono
 refine⟨λu hu=>?_,?_,?_,λp' eL=>?_,λp' eL=>?_,by have:=g.pl;omega,by rw[en];exact gm.kl,by rw[eo];exact g.ol,by rw[en];exact g.nk,by rw[eo];exact g.on,λp' eL=>?_,by rw[ea];exact gm.al,by rw[ea,eo];exact gm.bD⟩
 . rw[eC]at hu
   have hu:u∈(bf st kept (aH st) added).bK:=hu
   unfold bf at hu
   rw[xo]at hu
   obtain⟨x,hx,rfl⟩:=aX.mp hu
   exact((g.bK x hx).mul zs).mono (by omega)
 . rw[eC]
   show(bf st kept (aH st) added).stp.length<=c+1
   unfold bf fP
   split
   . show(st.stp++[_]).length<=c+1
     rw[c7];have:=g.stp;show st.stp.length+1<=c+1;omega
   . exact gm.stp
 . rw[epr];exact(g.prod.mul zs).mono (by omega)
 . obtain⟨p,h0,_,_,e3,_⟩:=hp p' eL
   have:=gm.wo p h0
   omega
 . obtain⟨p,h0,_,_,_,e4⟩:=hp p' eL
   rw[e4];exact g.we p h0
 . obtain⟨p,h0,e1,e2,_,_⟩:=hp p' eL
   have tl:=rM wf h0
   have tl':(aM st' p').length=st.bU.length:=by unfold aM;rw[jX,e1,wf.rows p h0,<-wf.f7,ec];unfold bf gE;rw[Hw,aE,jX,bl.len];omega
   have r:=FU (l:=List.zipWith (λt m=>t*kept+m) (aM st p) added) (m:=aM st' p') (a:=st'.prod) (b:=st.prod*aH st) (by rw[jX,tl,tl',bl.len];omega) λj=>by rw[kT (f:=λt m=>t*kept+m) (by show(0:Int)*_+0=0;omega) (by rw[tl,bl.len])];exact Az wf bl ec ep h0 e1 e2 (B:=st.prod) rfl rfl
   rw[FN _ (by rw[tl,bl.len]),g.sum p h0,hs,kN lost,<-kO,<-bl.w,kN _ st'.prod]at r
   exact(Int.eq_of_mul_eq_mul_right (Int.ne_of_gt (wX (by omega) w1)) r).symm
theorem HR:∀(rs:List Row)(s:HS),(∀r∈rs,1<=r.2)->∀p'∈(rs.foldl d7 s).ah,∃p∈s.ah,∃w,p'={ p with wo:=w }/\w<=p.wo
 | [],s,_,p',h=>⟨p',h,p'.wo,Z,dZ _⟩
 | r::rs,s,h1,p',h=>by
  obtain⟨p,hp,w,e,le⟩:=HR rs (d7 s r) (λx hx=>h1 x (cR _ hx)) p' h;obtain⟨_,q,hq,e2⟩:=rN hp;have:=h1 r cQ;split at e2
  .subst e2;have le:w<=q.wo-r.2:=le;exact⟨q,hq,w,e,by omega⟩
  .subst e2;exact⟨p,hq,w,e,le⟩
theorem HU:∀(rs:List Row)(s:HS),(rs.foldl d7 s).ah.length<=s.ah.length
 | [],s=>aL _
 | r::rs,s=>by have:=HU rs (d7 s r);have h:=uU (ps:=s.ah) (x:=r.1) (a:=r.2) |>.length_le;rw[aE,aE]at h;exact fZ this h
theorem CI(k:Int):∀{xs ts:List Int},xs.length=ts.length->(List.zipWith (λx t=>x+k*t) xs ts).sum=xs.sum+k*ts.sum
 | [],[],_=>by simp
 | x::xs,t::ts,h=>by rw[tY,b8,b8,b8,CI k (by simpa using h),kO];omega
 | [],_::_,h=>by simp at h
 | _::_,[],h=>by simp at h
theorem HV{st:HS}:∀(rs:List Row)(acc:List Int),(∀r∈rs,(aM st (cL st r.1)).length=acc.length/\(aM st (cL st r.1)).sum=st.prod)->(uT st acc rs).sum=acc.sum+bJ rs*st.prod
 | [],acc,_=>by show acc.sum=acc.sum+0*_;omega
 | r::rs,acc,h=>by
  obtain⟨h1,h2⟩:=h r cQ;have e:(List.zipWith (λx t=>x+r.2*t) acc (aM st (cL st r.1))).length=acc.length:=by rw[jX,h1];omega
  show(uT st (List.zipWith (λx t=>x+r.2*t) acc (aM st (cL st r.1))) rs).sum=_;rw[HV rs _ (λx hx=>by rw[e];exact h x (cR _ hx)),CI _ h1.symm,h2,show bJ (r::rs)=r.2+bJ rs from by unfold bJ;rw[bF,b8],mY];omega
theorem pB{st:HS}{r:Row}(h:lP st r=none):r.1∈fQ st/\1<=r.2/\r.2<=(cL st r.1).wo:=by
 unfold lP at h;split at h
 .split at h
  .cases h
  .split at h
   .cases h
   .exact ⟨by assumption,by omega,by omega⟩
 .cases h
theorem AN{st:HS}{rs:List Row}(h:xA st rs=none):rs≠[]/\(rs.map λr:Row=>r.1).Nodup/\(∀r∈rs,lP st r=none)/\bJ rs<aH st:=by
 unfold xA at h;split at h
 .next c=>
  split at h
  .cases h
  .next e=>
   split at h
   .cases h
   .exact ⟨c.1,c.2,λr hr=>List.findSome?_eq_none_iff.mp e r hr,by omega⟩
 .cases h
theorem Go.yp{c:Nat}{st:HS}(g:Go c st)(wf:Wf st)(hc:c<=91){rs:List Row}(h:xA st rs=none):nT st rs:=by
 obtain⟨h1,h2,h3,h4⟩:=AN h;have aw:=g.aw wf hc;refine⟨h2,h1,?_,λr hr=>?_,h4,aw.big,aw.prod,aw.bK,aw.stp⟩
 .have:=yQ h2 (m:=fQ st) (λx hx=>by obtain⟨r,hr,rfl⟩:=aX.mp hx;exact(pB (h3 r hr)).1);rw[aE]at this;unfold fQ at this;rw[aE]at this;have:=g.pl;omega
 .obtain ⟨a1,a2,a3⟩:=pB (h3 r hr);obtain⟨i,p,e1,e2⟩:=nv a1;have hp:=aY e1;rw[dN wf hp e2]at a3;have:=g.sz wf hc p hp;exact⟨a2,this.of_le (by omega),p,hp,e2,a3⟩
def DdG:Dd->Prop
 | .load _ _ wo we=>wo<=1000000000000/\we<=1000000000
 | .rise _ a=>a<=1000000000000
 | _=>True
theorem Pw{n i:Nat}{b:Int}(h:i<n):((List.replicate n (0:Int)).set i b).sum=b:=by
 have:=nV (l:=List.replicate n (0:Int)) (x:=b) (by rw[iW];exact h)
 rwa [Lv,wV,rP,wV]at this
theorem YC{c:Nat}{st:HS}(g:Go c st)(wf:Wf st){x o:Str}{wo we:Int}(hx:isNm x=true)(ho:o∈st.own)(h1:wo<=1000000000000)(h2:we<=1000000000):Go (c+1) (xm st x o wo we):=by
 refine Ek g (λp hp=>?_) (by rw[c7];have:=g.pl;show st.ah.length+1<=_;omega) (by rw[c7];have:=g.kl;show st.nms.length+1<=_;omega) (λy hy=>?_)
 .rcases dI.mp hp with z|z
  .have:=g.wo p z;exact⟨g.sum p z,by omega,g.we p z⟩
  .rw [dS.mp z];refine⟨?_,by show wo<=_;omega,h2⟩;unfold aM;show(List.zipWith (λr c=>(1:Int)*r+c) (lO st _) st.bU).sum=_;rw[Lz (by rw[eX,iW,wf.f7])];exact Pw (lR ho)
 .rcases dI.mp hy with z|z
  .exact g.nk y z
  .rw [dS.mp z];exact hx
theorem YD{c:Nat}{st:HS}(g:Go c st)(wf:Wf st)(hc:c<=90){rs:List Row}(h:xA st rs=none):Go (c+1) (gJ st rs):=by
 have ok:=g.yp wf (by omega) h;have h1:∀r∈rs,1<=r.2:=λr hr=>(ok.row r hr).1;refine LF g wf (ok.blend wf) ?_ hc (jR rs _) (λp' eL=>?_) ?_
 .have ex:∀r∈rs,∃p∈st.ah,p.nm=r.1:=λr hr=>by obtain⟨p,hp,e,_⟩:=(ok.row r hr).2.2;exact⟨p,hp,e⟩
  rw[Aw wf ex,HV,rP,wV];intro r hr;obtain⟨p,hp,e⟩:=ex r hr;rw[dN wf hp e,iW];exact⟨rM wf hp,g.sum p hp⟩
 .obtain ⟨p1,hp1,w,rfl,le⟩:=HR rs _ h1 p' eL;unfold bf at hp1;rw[kM]at hp1;obtain⟨p,hp,rfl⟩:=aX.mp hp1;exact⟨p,hp,Z,Z,le,Z⟩
 .refine fZ (HU rs _) ?_;unfold bf;rw[kM,aE];exact aL _
theorem VX{c:Nat}{st:HS}(g:Go c st)(wf:Wf st)(hc:c<=90){o:Str}{a:Int}(h:mH st o a=none):Go (c+1) (AB st o a):=by
 obtain⟨ho,h1,h2⟩:=qA h;refine LF g wf ((g.aw wf (by omega)).blend (o:=o) wf h1 h2) (Pw (lR ho)) hc rfl (λp' eL=>?_) ?_
 .have eL:p'∈(bf st _ _ _).ah:=eL;unfold bf at eL;rw[kM]at eL;obtain⟨p,hp,rfl⟩:=aX.mp eL;exact⟨p,hp,Z,Z,dZ _,Z⟩
 .show (bf st _ _ _).ah.length<=_;unfold bf;rw[kM,aE];exact aL _
theorem TH{st:HS}(wf:Wf st){c:Nat}(g:Go c st){p:Pt}(hp:p∈st.ah):TF c st.own (mC st p):=⟨st.own,aM st p,st.prod,List.prefix_refl _,(zQ wf hp).symm,Z,λt ht=>(wf.o7 p hp t ht).1,g.sum p hp,wf.fH,g.prod⟩
theorem YE{c:Nat}{st:HS}(g:Go c st)(wf:Wf st)(hc:c<=91){x:Str}(h:uX st x=none):Go (c+1) (qw st x):=by
 obtain⟨i,p,e1,rfl⟩:=nv (pY h);have hp:=aY e1;rw[rT wf hp];have S:∀{M:Pt->Prop},(∀x∈st.ah,M x)->∀x∈st.ah.filter (λq=>decide (q.nm≠p.nm)),M x:=λh x hx=>h x (iz.mp hx).1;have hf:=E_ (λq:Pt=>decide (q.nm≠p.nm)) st.ah;have gm:=g.mono;refine⟨λu hu=>?_,gm.stp,gm.prod,S gm.wo,S g.we,fZ hf gm.pl,gm.kl,g.ol,g.nk,g.on,S g.sum,?_,λa ha=>?_⟩
 .exact (FW wf hp (m:=64*c+1) (g.sz wf hc p hp) g.prod (λu hu=>(g.bK u hu).mono (by omega)) u hu).mono (by omega)
 .show (st.bD++[_]).length<=_;rw[c7];have:=g.al;show st.bD.length+1<=_;omega
 .rcases dI.mp (show a∈st.bD++[_]from ha)with z|z
  .exact gm.bD a z
  .rw [dS.mp z];exact(TH wf g hp).mono (by omega) (List.prefix_refl _)
theorem YF{c:Nat}{st:HS}(g:Go c st)(wf:Wf st){o:Str}(h:isNm o=true):Go (c+1) (gI st o):=by
 have gm:=g.mono;have P:∀p∈(gI st o).ah,∃p0∈st.ah,p={ p0 with row:=p0.row++[0] }:=λp hp=>by obtain⟨p0,h0,rfl⟩:=aX.mp (show p∈st.ah.map _ from hp);exact⟨p0,h0,Z⟩
 refine⟨λu hu=>?_,gm.stp,gm.prod,λp hp=>?_,λp hp=>?_,?_,gm.kl,?_,g.nk,λx hx=>?_,λp hp=>?_,gm.al,λa ha=>(gm.bD a ha).mono (aL _) (List.prefix_append _ _)⟩
 .rcases dI.mp (show u∈st.bK++[0]from hu)with z|z
  .exact gm.bK u z
  .rw [dS.mp z];exact(show Jm.Sz 1 (0:Int)from iC (by decide +kernel)).mono (by omega)
 .obtain ⟨p0,h0,rfl⟩:=P p hp;exact gm.wo p0 h0
 .obtain ⟨p0,h0,rfl⟩:=P p hp;exact g.we p0 h0
 .show (st.ah.map _).length<=_;rw[aE];exact gm.pl
 .show 0<(st.own++[o]).length;rw[c7];exact lN g.ol (sy _ _)
 .rcases dI.mp (show x∈st.own++[o]from hx)with z|z
  .exact g.on x z
  .rw [dS.mp z];exact h
 .obtain ⟨p0,h0,rfl⟩:=P p hp;show(List.zipWith (λr c=>p0.sc*r+c) (p0.row++[0]) (st.bU++[0])).sum=st.prod;rw[Hs _ (by rw[wf.rows p0 h0,wf.f7]),Df,show(List.zipWith (λr c=>p0.sc*r+c) p0.row st.bU).sum=st.prod from g.sum p0 h0];simp
theorem zj{l:List Pt}{x:Str}{f:Pt->Pt}{p':Pt}(h:p'∈l.map λp=>if p.nm=x then f p else p):∃p∈l,(p.nm=x/\p'=f p)\/p'=p:=by
 obtain⟨p,hp,e⟩:=aX.mp h;by_cases c:p.nm=x
 .exact ⟨p,hp,.inl ⟨c,by rw[ay c]at e;exact e.symm⟩⟩
 .exact ⟨p,hp,.inr (by rw[av c]at e;exact e.symm)⟩
theorem adt{c:Nat}{st:HS}(g:Go c st)(wf:Wf st)(hc:c<=90){d:Dd}(hr:vJ st d=none)(db:DdG d):Go (c+1) (kg st d):=by
 have hl:=g.pl;cases d with
 | sign o=>
  have:zf st o=none:=hr;unfold zf at this;split at this
  .exact YF g wf (by assumption)
  .cases this
 | load x o wo we=>obtain⟨h1,_,h3,_,_⟩:=tO hr;exact YC g wf h1 h3 db.1 db.2
 | cast rs=>exact YD g wf hc hr
 | award o a=>exact VX g wf hc hr
 | mishap x a=>
  obtain⟨_,h1,_⟩:=pB (show lP st (x,a)=none from hr);have h1:1<=a:=h1;refine g.same (ps:=jP st.ah x a) (λp' eL=>?_) ?_
  .obtain ⟨_,p,hp,e⟩:=rN eL;split at e
   .exact ⟨p,hp,by rw[e],by rw[e],by rw[e];show p.wo-a<=_;omega,by rw[e];exact dZ _⟩
   .exact ⟨p,hp,by rw[e],by rw[e],by rw[e];omega,by rw[e];exact dZ _⟩
  .have h:=uU (ps:=st.ah) (x:=x) (a:=a) |>.length_le;rw[aE,aE]at h;omega
 | rise x a=>
  have ha:a<=1000000000000:=db;refine g.same (λp' eL=>?_) (by rw[aE];omega);obtain⟨p,hp,⟨_,e⟩|e⟩:=zj eL
  .exact ⟨p,hp,by rw[e],by rw[e],by rw[e];show p.wo+a<=_;omega,by rw[e];exact dZ _⟩
  .exact ⟨p,hp,by rw[e],by rw[e],by rw[e];omega,by rw[e];exact dZ _⟩
 | hand x o=>
  obtain⟨hx,ho⟩:=tQ hr;show Go (c+1) (iJ st x o);unfold iJ;split
  .exact g.mono
  .next ne=>
   refine Ek g (ns:=st.nms) (λp' eL=>?_) (by rw[aE];omega) g.mono.kl g.nk;obtain⟨p,hp,⟨en,e⟩|e⟩:=zj eL
   .rw [dN wf hp en]at ne;have:=g.wo p hp;refine⟨?_,by rw[e];show p.wo<=_;omega,by rw[e];exact g.we p hp⟩;rw[e,show aM st { p with ow:=o,sc:=1,row:=lO st (nu st p o) }=_ from AK wf hp o];exact(LA wf hp ho ne (g.sum p hp)).2
   .rw [e];have:=g.wo p hp;exact⟨g.sum p hp,by omega,g.we p hp⟩
 | land x=>exact YE g wf (by omega) hr
 | sever x y a we=>
  obtain⟨hx,hy,h1,h2,h3,h4⟩:=kX hr;obtain⟨i,p0,e1,en⟩:=nv hx;have hp0:=aY e1;have w0:=g.wo p0 hp0;have v0:=g.we p0 hp0;show Go (c+1) (qx st x y a we);unfold qx;rw[dN wf hp0 en]at h3 h4 ⊢;refine Ek g (λp' eL=>?_) (by rw[c7];show(List.map _ st.ah).length+1<=_;rw[aE];omega) (by rw[c7];have:=g.kl;show st.nms.length+1<=_;omega) (λz hz=>?_)
  .rcases dI.mp eL with z|z
   .obtain ⟨p,hp,⟨_,e⟩|e⟩:=zj z
    .rw [e];have:=g.wo p hp;have:=g.we p hp;exact⟨g.sum p hp,by show p.wo-a<=_;omega,by show p.we-we<=_;omega⟩
    .rw [e];have:=g.wo p hp;exact⟨g.sum p hp,by omega,g.we p hp⟩
   .rw [dS.mp z];exact⟨g.sum p0 hp0,by show a<=_;omega,by show we<=_;omega⟩
  .rcases dI.mp hz with w|w
   .exact g.nk z w
   .rw [dS.mp w];exact hy.1
 | still=>exact g.mono
theorem adu{c:Nat}{st:HS}(g:Go c st)(wf:Wf st)(hc:c<=90)(hk:st.kn+100<=1000000)(ho:st.own.length<100){d:Dd}(hr:vJ st d=none):Wf (kg st d):=by
 have hl:=g.pl;have hn:=g.kl;cases d with
 | sign o=>
  have:zf st o=none:=hr;unfold zf at this;split at this
  .split at this
   .cases this
   .exact FH wf (by assumption) ho
  .cases this
 | load x o wo we=>obtain⟨_,h2,h3,h4,h5⟩:=tO hr;exact O4 wf h2 (by omega) (by omega) h3 h4 h5
 | cast rs=>exact Yc wf (g.yp wf (by omega) hr)
 | award o a=>obtain⟨h0,h1,h2⟩:=qA hr;exact yZ wf ((g.aw wf (by omega)).blend (o:=o) wf h1 h2)
 | mishap x a=>obtain⟨_,_,h1⟩:=pB (show lP st (x,a)=none from hr);exact FL wf λp hp e=>by rw[dN wf hp e]at h1;exact h1
 | rise x a=>have h1:=(AI (show sS st x a=none from hr)).2;exact ym wf λq hq _=>⟨Z,Z,Z,Z,by have:=(wf.jE q hq).1;show 1<=q.wo+a;omega,(wf.jE q hq).2⟩
 | hand x o=>exact Pp wf hr g.sum
 | land x=>exact Pr wf hr (g.ld wf (by omega) hk)
 | sever x y a we=>exact Ly wf hr (by omega) (by omega)
 | still=>exact wf
theorem YG(st:HS)(s:Int):(fP st s).kn<=st.kn:=by
 unfold fP;split
 .exact iA _
 .exact aL _
theorem adv(st:HS)(d:Dd):(kg st d).kn<=st.kn+100:=by
 cases d with
 | cast rs=>exact fZ (Ym st rs) (sy _ _)
 | award o a=>exact fZ (YG _ _) (sy _ _)
 | hand x o=>show(iJ st x o).kn<=_;unfold iJ;split <;> exact sy _ _
 | land x=>exact aL _
 | _=>exact sy _ _
inductive QAt(K:Fg)(H:Hp)(m:Addr)(st:HS):Prop
 |mk(kvs:List (Key×V))(lo lp lk:Addr)(us:List V)(_:H m=some (.dK kvs))(_:dY kvs (Sum.inr "owners")=some (.ref lo))(_:dY kvs (Sum.inr "parts")=some (.ref lp))(_:dY kvs (Sum.inr "known")=some (.ref lk))(_:aD K H lo (st.own.map V.str))(_:aD K H lp us)(_:yg K H us st.ah)(_:aD K H lk (st.nms.map V.str))
def zR(st:HS):List Row:=st.ah.map λp=>(p.nm,p.wo)
theorem yg.nw{K:Fg}{H:Hp}{us:List V}{st:HS}(h:yg K H us st.ah):Le K H us (zR st):=by refine⟨by unfold zR;rw[aE];exact h.len,λi r e=>?_⟩;unfold zR at e;rw[bQ]at e;obtain⟨p,ep,rfl⟩:=mj.mp e;obtain⟨a,xs,e1,e2,e3,_,e5,_⟩:=h.at_ i p ep;exact⟨a,xs,e1,e2,e3,e5⟩
structure Nx(nms:List Str)(st:HS):Prop where
 t:st.nms=nms.take st.nms.length
 nd:nms.Nodup
 ok:∀x∈nms,isNm x=true
theorem Nx.next{nms:List Str}{st:HS}(h:Nx nms st){x:Str}(e:nms[st.nms.length]?=some x):isNm x=true/\x∉st.nms/\∀st':HS,st'.nms=st.nms++[x]->Nx nms st':=by
 refine⟨h.ok x (aY e),?_,λst' e'=>⟨?_,h.nd,h.ok⟩⟩
 .rw [h.t];exact kq h.nd e
 .rw [e',c7,show st.nms.length+[x].length=st.nms.length+1 from rfl,take_snoc e,<-h.t]
theorem Nx.keep{nms:List Str}{st st':HS}(h:Nx nms st)(e:st'.nms=st.nms):Nx nms st':=⟨by rw[e];exact h.t,h.nd,h.ok⟩
theorem aa8{st:HS}{d:Dd}(h:d.k≠1)(h':d.k≠8):(kg st d).nms=st.nms:=by
 cases d with
 | load=>exact absurd rfl h
 | sever=>exact absurd rfl h'
 | cast rs=>show(gJ st rs).nms=_;unfold gJ;rw[jR];show(bf st _ _ _).nms=_;unfold bf;rw[xq]
 | award o a=>show(bf st _ _ _).nms=_;unfold bf;rw[xq]
 | hand x o=>show(iJ st x o).nms=_;unfold iJ;split <;> rfl
 | _=>rfl
def Dd.pl:Dd->Bool
 | .sign _=>false | .load .. =>false | .sever .. =>false|_=>true
theorem Dd.VY{d:Dd}(h:d.pl=true):d.k≠1/\d.k≠8/\d.k≠0:=by cases d <;> first|(exact Bool.noConfusion h)|(refine⟨?_,?_,?_⟩ <;> simp[Dd.k])
theorem Q8{st:HS}(wf:Wf st){rs:List Row}(h:S7 (zR st) rs)(hne:rs≠[]):xA st rs=none:=by
 have hl:bJ rs<aH st:=by
  rcases h.lost with z|z
  .have e:bJ (zR st)=aH st:=by unfold bJ zR aH;rw[fu];rfl
   rw[<-e];exact z
  .exact absurd z hne
 have hr:∀r∈rs,lP st r=none:=λr hr=>by obtain⟨r1,_,w,hw,e,le⟩:=h.row r hr;obtain⟨p,hp,rfl⟩:=aX.mp hw;have e:p.nm=r.1:=e;have le:r.2<=p.wo:=le;unfold lP;rw[ay (show r.1∈fQ st from aX.mpr ⟨p,hp,e⟩),av (by omega),dN wf hp e,av (by omega)]
 unfold xA;rw[ay ⟨hne,h.nd⟩,List.findSome?_eq_none_iff.mpr hr];exact av (by omega)
theorem Nx.pl{nms:List Str}{st:HS}(h:Nx nms st)(wf:Wf st):st.ah.length<=nms.length:=by
 have a:=yQ (l:=st.ah.map (·.nm)) (m:=nms) wf.fF (λx hx=>by obtain⟨p,hp,rfl⟩:=aX.mp hx;have:=wf.sub p hp;rw[h.t]at this;exact List.mem_of_mem_take this)
 rwa [aE]at a
inductive adw(K:Fg)(vs:List V)(H:Hp)(Q:VK)(E:XK):Prop
 |mk(l:Addr)(us:List V)(rs:List Row)(_:vs=[.ref l])(_:aD K H l us)(_:gi H us rs)(_:rs.length<=1000)(_:∀z H',aN H H'->H' z=some (.tup (Dd.v (.cast rs)))->Q (.ref z) H')
def TJ(K:Fg):Sp:=bx (adw K)
inductive BJ(nms:List Str)(st:HS)(d:Dd):Prop
 |mk(_:vJ st d=none)(_:Pf d)(_:Nx nms (kg st d))(_:d.k≠0)
inductive adx(K:Fg)(vs:List V)(H:Hp)(Q:VK)(E:XK):Prop
 |mk(a m ln:Addr)(ns:List Int)(k:Int)(nms:List Str)(c:Nat)(st:HS)(_:vs=[.ref a,.int k,.ref m,.ref ln])(_:aD K H a (ns.map V.int))(_:ns.length<=63)(_:0<=k)(_:k<=1000000)(_:QAt K H m st)(_:aD K H ln (nms.map V.str))(_:Nx nms st)(_:nms.length<=50)(_:Wf st)(_:Go c st)(_:c<=90)(_:∀z d H',aN H H'->H' z=some (.tup (Dd.v d))->BJ nms st d->Q (.ref z) H')
def TL(K:Fg):Sp:=bx (adx K)
inductive TM(K:Fg)(vs:List V)(H:Hp)(Q:VK)(E:XK):Prop
 |mk(a m ln:Addr)(ns:List Int)(k way:Int)(nms:List Str)(c:Nat)(st:HS)(_:vs=[.ref a,.int k,.ref m,.ref ln,.int way])(_:aD K H a (ns.map V.int))(_:ns.length<=63)(_:0<=k)(_:k<=1000000)(_:QAt K H m st)(_:aD K H ln (nms.map V.str))(_:Nx nms st)(_:nms.length<=50)(_:Wf st)(_:Go c st)(_:c<=90)(_:0<st.ah.length)(_:∀z d H',aN H H'->H' z=some (.tup (Dd.v d))->BJ nms st d->Q (.ref z) H')
def El(K:Fg):Sp:=bx (TM K)
inductive YH(T:TC)(K:Fg)(vs:List V)(H:Hp)(Q:VK)(E:XK):Prop
 |mk(n c:Nat)(ρ:fG)(A:HA)(st:HS)(z:Addr)(d:Dd)(_:vs=[.ref A.a,.ref z])(_:dU K H z d.v)(_:HH T n ρ A H st)(_:Go c st)(_:c<=90)(_:st.kn+100<=1000000)(_:st.own.length<100)(_:vJ st d=none)(_:xj T n ρ A H (kg st d:_) λH'=>Q .cy H')
def LG(T:TC)(K:Fg):Sp:=bx (YH T K)
theorem Px:∀{rs:List Row}{i:Nat}{r:Row},rs[i]?=some r->(jS rs)[2*i]?=some (.str r.1)/\(jS rs)[2*i+1]?=some (.int r.2)
 | [],_,_,h=>by simp at h
 | x::rs,0,r,h=>by
  have e:x=r:=by simpa using h
  subst e;exact⟨Z,Z⟩
 | x::rs,i+1,r,h=>by obtain⟨a,b⟩:=Px (rs:=rs) (i:=i) (by simpa using h);rw[show 2*(i+1)=2*i+1+1 by omega];exact⟨a,b⟩
theorem Py{rs:List Row}{i:Nat}{r:Row}(h:rs[i]?=some r):(Dd.v (.cast rs))[1+2*i]?=some (.str r.1)/\(Dd.v (.cast rs))[2+2*i]?=some (.int r.2):=by obtain⟨a,b⟩:=Px h;rw[show 1+2*i=2*i+1 by omega,show 2+2*i=2*i+1+1 by omega];exact⟨a,b⟩
theorem zm(rs:List Row):(Dd.v (.cast rs)).length=2*rs.length+1:=by show(jS rs).length+1=_;rw[AE]
theorem TN(m:Nat):rF 1 ((2*m+1:Nat):Int) 2=m:=by unfold rF Builtin.Range.rangeSize;rw[ay (by decide)];split <;> omega
theorem Pf.g{d:Dd}(h:Pf d):DdG d:=by
 cases d with
 | load x o wo we=>obtain⟨_,_,⟨_,h1⟩,⟨_,h2⟩⟩:=h;exact⟨by omega,h2⟩
 | rise x a=>obtain⟨_,⟨_,h1⟩⟩:=h;show a<=_;omega
 | _=>exact True.intro
structure GW(c m:Nat)(st:HS):Prop where
 g:Go c st
 wf:Wf st
 kn:st.kn<=m
theorem GW.do{c m:Nat}{st:HS}(h:GW c m st)(hc:c<=90)(hm:m+100<=1000000)(ho:st.own.length<100){d:Dd}(hr:vJ st d=none)(hb:DdG d):GW (c+1) (m+100) (kg st d):=⟨adt h.g h.wf hc hr hb,adu h.g h.wf hc (by have:=h.kn;omega) ho hr,by have:=h.kn;have:=adv st d;omega⟩
def sN(sp:Sp):Sp:=λvs H Q _=>sp vs H Q E0
theorem TQ{st:HS}{o:Str}(h:zf st o=none):isNm o=true/\o∉st.own:=by
 unfold zf at h;split at h
 .split at h
  .cases h
  .exact ⟨by assumption,by assumption⟩
 .cases h
def kD(own:List Str):HS:=own.foldl gI hs0
theorem HW:∀(l:List Str)(st:HS),Wf st->(st.own++l).Nodup->st.own.length+l.length<=100->Wf (l.foldl gI st)
 | [],_,w,_,_=>w
 | o::l,st,w,nd,hl=>by
  rw[j8];rw[iY]at hl;have h1:o∉st.own:=λm=>(List.nodup_append.mp nd).2.2 o m o cQ rfl;refine HW l (gI st o) (FH w h1 (by omega)) ?_ ?_
  .show ((st.own++[o])++l).Nodup;rw[J4];exact nd
  .show (st.own++[o]).length+l.length<=100;rw[c7];show st.own.length+1+l.length<=100;omega
theorem gw0{own:List Str}(nd:own.Nodup)(h0:0<own.length)(h1:own.length<=100)(hon:∀o∈own,isNm o=true):GW 0 0 (kD own):=by
 obtain⟨k1,k2,k3,k4,k5,k6⟩:=nt own hs0 rfl (λu hu=>absurd hu (by simp[hs0]));have eo:(kD own).own=own:=by unfold kD;rw[tM];rfl
 have k1:(kD own).ah=[] :=k1;have k2:(kD own).nms=[] :=k2;have k3:(kD own).stp=[] :=k3;have k4:(kD own).prod=1:=k4;have k5:(kD own).bD=[] :=k5;have k6:∀u∈(kD own).bK,u=0:=k6;refine⟨⟨λu hu=>?_,by rw[k3];exact aL _,?_,λp hp=>?_,λp hp=>?_,by rw[k1];exact aL _,by rw[k2];exact aL _,by rw[eo];exact h0,λx hx=>?_,by rw[eo];exact hon,λp hp=>?_,by rw[k5];exact aL _,λa ha=>?_⟩,HW own hs0 wf0 nd (by show 0+_<=_;omega),?_⟩
 .rw [k6 u hu];exact iC (by decide +kernel)
 .rw [k4];exact iC (by decide +kernel)
 .rw [k1]at hp;cases hp
 .rw [k1]at hp;cases hp
 .rw [k2]at hx;cases hx
 .rw [k1]at hp;cases hp
 .rw [k5]at ha;cases ha
 .rw [show(kD own).kn=0 from Lm own hs0];exact aL _
theorem YI(own:List Str):(kD own).own=own:=by unfold kD;rw[tM];rfl
theorem aa9{own nms:List Str}(nd:nms.Nodup)(h:∀x∈nms,isNm x=true):Nx nms (kD own):=by obtain⟨_,k2,_⟩:=nt own hs0 rfl (λu hu=>absurd hu (by simp[hs0]));have k2:(kD own).nms=[] :=k2;exact⟨by rw[k2];rfl,nd,h⟩
def lE(st:HS)(i:Nat):Int:=(st.ah.map λp=>p.wo*p.sc*p.row.getD i 0).sum+aH st*st.bU.getD i 0
def yq(st:HS)(o:Str):Int:=((st.bD.filter λa=>decide (a.ow=o)).map λa=>a.wo).sum
def TR(st:HS)(o:Str):Rat:=Jm.fr (lE st (st.own.idxOf o)) st.prod
def LH(st:HS)(o:Str):Rat:=Jm.fr (st.bK.getD (st.own.idxOf o) 0) st.prod
def Q9(st:HS)(o:Str):Rat:=Jm.fr (lE st (st.own.idxOf o)+st.bK.getD (st.own.idxOf o) 0+yq st o*st.prod) st.prod
structure Q_(st:HS):Prop where
 wf:Wf st
 wo:∀p∈st.ah,Jm.Sz 60 p.wo
 wh:Jm.Sz 60 (aH st)
 la:∀o,Jm.Sz 60 (yq st o)
inductive TU(T:TC)(vs:List V)(H:Hp)(Q:VK)(E:XK):Prop
 |mk(n ρ A st:_)(i:Nat)(_:vs=[.ref A.a,.int (i:Int)])(_:aR T n ρ A H st)(_:Q_ st)(_:i<st.own.length)(_:∀H',aN H H'->Q (.int (lE st i)) H')
def zu(T:TC):Sp:=bx (TU T)
inductive YJ(T:TC)(vs:List V)(H:Hp)(Q:VK)(E:XK):Prop
 |mk(n ρ A st o:_)(_:vs=[.ref A.a,.str o])(_:aR T n ρ A H st)(_:Q_ st)(_:o∈st.own)(_:∀r H',aN H H'->H' r=some (nJ (TR st o))->Q (.ref r) H')
def LI(T:TC):Sp:=bx (YJ T)
inductive aa_(T:TC)(vs:List V)(H:Hp)(Q:VK)(E:XK):Prop
 |mk(n ρ A st o:_)(_:vs=[.ref A.a,.str o])(_:aR T n ρ A H st)(_:Wf st)(_:o∈st.own)(_:∀r H',aN H H'->H' r=some (nJ (LH st o))->Q (.ref r) H')
def Pz(T:TC):Sp:=bx (aa_ T)
inductive ady(T:TC)(vs:List V)(H:Hp)(Q:VK)(E:XK):Prop
 |mk(n ρ A st o:_)(_:vs=[.ref A.a,.str o])(_:aR T n ρ A H st)(_:Q_ st)(_:o∈st.own)(_:∀r H',aN H H'->H' r=some (nJ (Q9 st o))->Q (.ref r) H')
def TV(T:TC):Sp:=bx (ady T)
theorem getD_at{l:List Int}{i:Nat}(h:i<l.length):kL (l.map V.int) (i:Int)=some (.int (l.getD i 0)):=aB (by rw[bQ,dG,a_ h];rfl)
theorem HX{l:List Int}{i:Nat}(h:i<l.length):l.getD i 0∈l:=by rw[dG,a_ h];exact yF h
section
variable {X:Cx}
end
theorem AQ{st:HS}(wf:Wf st){i:Nat}(hi:i<st.own.length):lE st i=(st.ah.map λp=>p.wo*(aM st p).getD i 0).sum:=by
 unfold lE aH;have hc:=wf.f7;have h:∀p∈st.ah,(aM st p).getD i 0=p.sc*p.row.getD i 0+st.bU.getD i 0:=λp hp=>by unfold aM;exact kT (f:=λr c=>p.sc*r+c) (by show p.sc*0+0=0;omega) (by rw[wf.rows p hp,hc]) i
 generalize st.bU.getD i 0=k at *;revert h;generalize st.ah=ps;intro h
 induction ps with
 | nil=>show(0:Int)+0*k=0;omega
 | cons p ps ih=>
  have e:=h p cQ;have:=ih λx hx=>h x (cR _ hx);rw[bF,bF,bF,b8,b8,b8,e,<-this]
  grind
theorem HY{st:HS}(wf:Wf st){i:Nat}(hi:i<st.own.length):0<=lE st i:=by rw[AQ wf hi];refine To λx hx=>?_;obtain⟨p,hp,rfl⟩:=aX.mp hx;have h1:=(wf.jE p hp).1;have h2:=vN (λt ht=>(wf.o7 p hp t ht).1) i;exact j9 (by omega) h2
theorem sum_rows{f:Pt->List Int}{n:Nat}{b:Int}:∀(ps:List Pt),(∀p∈ps,(f p).length=n/\(f p).sum=b)->((List.range n).map λi=>(ps.map λp=>p.wo*(f p).getD i 0).sum).sum=(ps.map λp=>p.wo).sum*b
 | [],_=>by
  have:(List.range n).map (λi=>(([] :List Pt).map λp=>p.wo*(f p).getD i 0).sum)=(List.range n).map λ_=>(0:Int)*0:=by congr 1
  rw[this,lH];simp
 | p::ps,h=>by
  obtain⟨h1,h2⟩:=h p cQ;have ih:=sum_rows ps λx hx=>h x (cR _ hx);have e:(List.range n).map (λi=>((p::ps).map λp=>p.wo*(f p).getD i 0).sum)=(List.range n).map λi=>(f p).getD i 0*p.wo+(ps.map λp=>p.wo*(f p).getD i 0).sum:=by refine p5 λi _=>?_;rw[bF,b8,kN]
  rw[e,xQ,lH,Cd _ _ h1,ih,h2,bF,b8]
  grind
theorem TY{st:HS}(wf:Wf st)(hs:∀p∈st.ah,(aM st p).sum=st.prod):((List.range st.own.length).map (lE st)).sum=aH st*st.prod:=by have e:(List.range st.own.length).map (lE st)=(List.range st.own.length).map λi=>(st.ah.map λp=>p.wo*(aM st p).getD i 0).sum:=p5 λi hi=>AQ wf (sL.mp hi);rw[e];exact sum_rows st.ah λp hp=>⟨zQ wf hp,hs p hp⟩
structure Mo(c:Nat)(st:HS):Prop where
 pz:st.bK.sum=0
 ao:∀a∈st.bD,a.ow∈st.own
 aw:∀a∈st.bD,1<=a.wo/\a.wo<=1000000000000*((c:Int)+1)
theorem Mo.mono{c:Nat}{st:HS}(m:Mo c st):Mo (c+1) st:=⟨m.pz,m.ao,λa ha=>by have:=m.aw a ha;omega⟩
theorem LJ{c:Nat}{st:HS}(m:Mo c st)(kept whole:Int)(added:List Int):Mo (c+1) (bf st kept whole added):=by
 unfold bf;refine⟨?_,?_,?_⟩
 .rw [xo];show(st.bK.map λx=>x*_).sum=0;rw[lH (λx=>x),List.map_id',m.pz,mX]
 .rw [xr,tN];exact m.ao
 .rw [xr];exact m.mono.aw
theorem VZ{st:HS}(wf:Wf st){p:Pt}(hp:p∈st.ah)(hs:(aM st p).sum=st.prod):(lQ st p).sum=st.bK.sum:=by
 have e:=nV (l:=gx st p) (i:=st.own.idxOf p.ow) (x:=-(p.wo*st.prod)) (by rw[AM wf hp];exact lR (wf.ow p hp));have e2:(gx st p).sum=st.bK.sum+p.wo*st.prod:=by unfold gx;rw[CI _ (by rw[zQ wf hp,wf.mz]),hs]
 unfold lQ;rw[Int.sub_eq_add_neg,e,e2];omega
theorem adz{c:Nat}{st:HS}(m:Mo c st)(g:Go c st)(wf:Wf st){d:Dd}(hr:vJ st d=none):Mo (c+1) (kg st d):=by
 cases d with
 | sign o=>refine⟨?_,λa ha=>Ck _ (m.ao a ha),m.mono.aw⟩;show(st.bK++[0]).sum=0;rw[Df,m.pz];rfl
 | cast rs=>show Mo (c+1) (gJ st rs);unfold gJ;rw[jR];have:=LJ m (aH st-bJ rs) (aH st) (gk st rs);exact⟨this.pz,this.ao,this.aw⟩
 | award o a=>exact LJ m _ _ _
 | hand x o=>show Mo (c+1) (iJ st x o);unfold iJ;split <;> exact⟨m.pz,m.ao,m.mono.aw⟩
 | land x=>
  obtain⟨i,p,e1,rfl⟩:=nv (pY hr);have hp:=aY e1;show Mo (c+1) (qw st p.nm);rw[rT wf hp];have S:∀{M:lq->Prop},(∀a∈st.bD,M a)->M ⟨p.nm,p.ow,p.wo,mC st p⟩->∀a∈st.bD++[⟨p.nm,p.ow,p.wo,mC st p⟩],M a:=λh1 h2 a ha=>by
   rcases dI.mp ha with z|z
   .exact h1 a z
   .rw [dS.mp z];exact h2
  have w:=g.wo p hp;exact⟨by show(lQ st p).sum=0;rw[VZ wf hp (g.sum p hp),m.pz],S m.ao (wf.ow p hp),S m.mono.aw ⟨(wf.jE p hp).1,by show p.wo<=_;omega⟩⟩
 | _=>exact⟨m.pz,m.ao,m.mono.aw⟩
theorem zS:∀{l:List lq}{m:Int}(f:lq->Bool),(∀a∈l,1<=a.wo/\a.wo<=m)->0<=((l.filter f).map λa=>a.wo).sum/\((l.filter f).map λa=>a.wo).sum<=m*(l.length:Int)
 | [],m,_,_=>by show 0<=(0:Int)/\(0:Int)<=m*0;omega
 | a::l,m,f,h=>by
  have h0:=h a cQ;have ih:=zS (l:=l) (m:=m) f λx hx=>h x (cR _ hx);rw[fL,iY,show(((l.length+1:Nat)):Int)=(l.length:Int)+1 from by omega,kO,ou];by_cases c:f a=true
  .rw [ay c,bF,b8];omega
  .rw [av c];omega
theorem Go.st{c:Nat}{st:HS}(g:Go c st)(m:Mo c st)(wf:Wf st)(hc:c<=91):Q_ st:=by
 refine⟨wf,g.sz wf hc,(g.whole wf hc).2,λo=>?_⟩;have h:=zS (m:=92000000000000) (λa:lq=>decide (a.ow=o)) λa ha=>by have:=m.aw a ha;omega
 have hl:=g.al;have h2:(92000000000000:Int)*(st.bD.length:Int)<=92000000000000*91:=by omega
 have h3:yq st o<=92000000000000*91:=Bh h.2 h2;have h1:0<=yq st o:=h.1;exact(show Jm.Sz 60 (92000000000000*91:Int)from iC (by decide +kernel)).of_le (by omega)
theorem V0{st:HS}(wf:Wf st)(hs:∀p∈st.ah,(aM st p).sum=st.prod){i:Nat}(hi:i<st.own.length):lE st i<=aH st*st.prod:=by rw[<-TY wf hs];exact(yo (l:=(List.range st.own.length).map (lE st)) λt ht=>by obtain⟨j,hj,rfl⟩:=aX.mp ht;exact HY wf (sL.mp hj)).2 _ (aX.mpr ⟨i,sL.mpr hi,Z⟩)
theorem mo0{own:List Str}:Mo 0 (kD own):=by
 obtain⟨_,_,_,_,k5,k6⟩:=nt own hs0 rfl (λu hu=>absurd hu (by simp[hs0]));have k5:(kD own).bD=[] :=k5;have k6:∀u∈(kD own).bK,u=0:=k6;refine⟨?_,(λa ha=>by rw[k5]at ha;cases ha),λa ha=>by rw[k5]at ha;cases ha⟩;generalize (kD own).bK=l at *
 induction l with
 | nil=>rfl
 | cons a l ih=>rw[b8,k6 a cQ,ih λu hu=>k6 u (cR _ hu)];rfl
section
variable {prog:Program}{w:World}{A:Around}{R:Result->Shared->Prop}{s:Shared}
end
section
variable {X:Cx}
end
section
variable {X:Cx}
end
section
variable {T:TC}{n m:Nat}{ρ ρ1:fG}{H H1:Hp}{A B:HA}{st s1:HS}{x:Addr}
end
section
variable {T:TC}{n m:Nat}{ρ ρ1:fG}{H H1:Hp}{A B:HA}{st s1:HS}{x:Addr}
end
section
variable {K:Fg}{H:Hp}
end
theorem LK{a:HS}{kept whole lost:Int}{ga:List Int}(ba:nc a kept whole lost ga):(bf a kept whole ga).bK=a.bK.map (·*(whole / b_ a kept whole ga))/\(bf a kept whole ga).prod=a.prod*(whole / b_ a kept whole ga):=by
 obtain⟨hd,Th,_⟩:=ba.dvds;have w1:0<whole:=by have:=ba.l;have:=ba.w;have:=ba.k;omega
 have s1:1<=whole / b_ a kept whole ga:=Qk hd (by have:=Dj w1 Th;omega);unfold bf;rw[xo,uS s1];exact⟨Z,Z⟩
section
variable {a:Addr}{ρ:fG}{H:Hp}
end
theorem GW.up{c m:Nat}{st:HS}(h:GW c m st)(n:Nat){m':Nat}(hm:m<=m'):GW (c+n) m' st:=by
 refine⟨?_,h.wf,by have:=h.kn;omega⟩
 induction n with
 | zero=>exact h.g
 | succ n ih=>exact ih.mono
section
variable {P:Program}{w:World}{K:Fg}{mg:SO}{base:Heap}{k:Nat}{T:TC}{e:Ec}{ps:List Str}
theorem V1(D:Mn P w K mg base k T.hold "place_of" ps (sN (zg T e))):Mn P w K mg base k T.hold "place_of" ps (u_ T):=D.imp λvs H Q E h=>by obtain⟨⟨n,ρ,A,st,o,rfl,hx,ho,q⟩⟩:=h;exact⟨n,ρ,A,st,o,Z,hx,λz=>absurd ho z,λ_=>q⟩
theorem TZ(D:Mn P w K mg base k T.hold "part_of" ps (sN (mG T e))):Mn P w K mg base k T.hold "part_of" ps (Cy T):=D.imp λvs H Q E h=>by obtain⟨⟨n,ρ,A,st,i,p,qq,rfl,hx,nd,ep,eq,q⟩⟩:=h;refine⟨n,ρ,A,st,p.nm,Z,hx,nd,λz=>absurd rfl (z p (aY ep)),λj p' q' e1 e2 e3=>?_⟩;have:j=i:=D0 nd e2 ep e1;subst this;rw[eq]at e3;cases e3;exact q
theorem aba(D:Mn P w K mg base k T.hold "check_new" ps (sN (xR T e))):Mn P w K mg base k T.hold "check_new" ps (D4 T):=D.imp λvs H Q E h=>by
 obtain⟨⟨n,ρ,A,st,x,rfl,h,h1,h2,q⟩⟩:=h;have hn:newR st x=none:=by unfold newR;rw[ay h1,av h2]
 refine⟨n,ρ,A,st,x,Z,h,fZ (rQ h1) (by decide),λi hi=>?_,λ_=>q⟩;rw[hn]at hi;cases hi
theorem abb(D:Dn P w K mg base k "check_amount" ps (sN (AH e))):Dn P w K mg base k "check_amount" ps ada:=D.imp λvs H Q E h=>by obtain⟨⟨a,rfl,h1,q⟩⟩:=h;exact⟨a,Z,λz=>absurd z (by omega),λ_=>q⟩
theorem abc(D:Dn P w K mg base k "check_loss" ps (sN (Lp e))):Dn P w K mg base k "check_loss" ps WR:=D.imp λvs H Q E h=>by obtain⟨⟨m,a,rfl,h1,h2,q⟩⟩:=h;exact⟨m,a,Z,λz=>absurd z (by omega),λ_ z=>absurd z (by omega),λ_ _=>q⟩
end
theorem cT{K:Fg}{σ:St}{H:Hp}{j:Nat}{z:Addr}{xs:List V}{w x:Str}{Q:Bool->Hp->Prop}(hz:dU K H z xs)(e:xs[0]?=some (.str w))(hx:w≠x)(hj:σ[j]?=some (some (.ref z)))(q:Q false H):JM (GU rEq (GU (QF K) (Fp j) (tC (.int 0))) (tC (.str x))) σ H Q:=by have f:decide (V.str w=V.str x)=false:=dB λz=>hx (V.str.inj z);refine⟨_,hj,z,_,_,_,Z,Z,hz,aB (j:=0) e,Z,_,Z,?_⟩;rw[f];exact q
theorem T3{c:Nat}{st:HS}{b:BS}(g:fK c st b)(x:Str):(mJ b x λp=>{ p with wo:=0 }).ah=b.ah.filter λp=>decide (p.nm≠x):=by
 unfold mJ;show List.filter _ (b.ah.map _)=_;have w:=g.fT.w1;generalize b.ah=ps at w
 induction ps with
 | nil=>rfl
 | cons p ps ih=>
  have w1:=w p cQ;have ih:=ih λq hq=>w q (cR _ hq);rw[bF,fL,fL,ih];by_cases e:p.nm=x
  .rw [ay e];simp[e]
  .rw [av e];simp[e];omega
theorem YK{c:Nat}{st:HS}{b:BS}{x:Str}(g:fK c st b)(wf:Wf st)(hc:c<=90)(h:uX st x=none):fK (c+1) (qw st x) (xB b x):=by
 obtain⟨i,p0,q0,e1,e2,k1,k2,k3,k4,k5,k6⟩:=pA g.rel wf (pY h);have hp:=aY e1;have hq:=aY e2;have z0:Jm.Sz 60 p0.wo:=by
  have:=(g.whole (by omega)).2;have w0:=(wf.jE p0 hp).1;have le:p0.wo<=bN b:=by rw[<-g.rel.whole];unfold aH;exact(yo λx hx=>by obtain⟨q,hq,rfl⟩:=aX.mp hx;have:=(wf.jE q hq).1;omega).2 _ (aX.mpr ⟨p0,hp,Z⟩)
  exact this.of_le (by omega)
 have eb:o_ b x=q0:=by unfold o_;rw[<-k2,pX g.fT.nd e2];rfl
 have eB:xB b x={ b with ah:=b.ah.filter (λp=>decide (p.nm≠x)),bD:=b.bD++[⟨x,q0.ow,q0.wo,q0.tops,b.bot⟩] }:=by unfold xB;rw[eb,<-T3 g x];rfl
 have eS:=rT wf hp;rw[k1]at eS;rw[eB,eS];have g1:fK (c+1) { st with ah:=st.ah.filter λq=>decide (q.nm≠x) } { b with ah:=b.ah.filter λp=>decide (p.nm≠x) }:=by refine JQ g ?_ (λp hp=>⟨p,(iz.mp hp).1,Z,Z,Z⟩) (λq hq=>⟨q,(iz.mp hq).1,Z,Z,Z,g.fT.w1 q (iz.mp hq).1,by omega,dZ _⟩) ((JY).map _);have e:=iZ (List.filter λq:Q4=>decide (q.1≠x)) (vM g);rw[List.filter_map,List.filter_map]at e;exact e
 have hs:=Q2 g.qu g.rel wf g.fT hp hq (k1.trans k2.symm);have nm0:=g.nm q0 hq;rw[k2]at nm0;refine⟨⟨g1.fT.nd,g1.fT.tl,g1.fT.t0,g1.fT.b1,g1.fT.bz,g1.fT.w1,g1.fT.ol,g1.fT.pl,g1.fT.kl⟩,⟨g1.rel.own,g1.rel.qd⟩,g1.qu,λu hu=>?_,g1.stp,g1.prod,g1.bot,g1.wo,g1.we,g1.pl,g1.kl,g1.own,g1.nm,?_,g1.eF,g1.nk,g1.on,g1.sum⟩
 .exact (FW wf hp (m:=60*c+1) z0 g.prod (λu hu=>(g.bK u hu).mono (by omega)) u hu).mono (by omega)
 .exact g.bD.snoc rfl k3.symm k4.symm (by rw[<-hs]) (by show q0.tops.length<=b.own.length;rw[g.fT.tl q0 hq];exact aL _) (by have:=g.fT.b1;show 0<b.bot;omega) (g.fT.bz.mono (by omega)) nm0.1 nm0.2
theorem adA{c c':Nat}{st:HS}{b:BS}{d:Dd}(g:fK c st b)(gg:Go c' st)(wf:Wf st)(hc:c<=90)(hc':c'<=90)(hr:vJ st d=none)(hb:Pf d)(hk:d.k≠0)(h3:b.ah.length<50)(h4:b.eF.length<900):fK (c+1) (kg st d) (qz b d):=by
 have eo:=g.rel.own;cases d with
 | sign o=>exact absurd rfl hk
 | load x o wo we=>
  obtain⟨l1,l2,l3,l4,l5⟩:=tO hr;refine(Yn g wf (λm=>l2 ?_) l4 hb.2.2.1.2 h3 h4 l1 (by rw[<-eo];exact l3) hb.2.2.2.2).mono;obtain⟨q,hq,e⟩:=aX.mp m;obtain⟨j,hj,ej⟩:=oV hq;obtain⟨p,hp,k1,_⟩:=g.rel.at (i:=j) (q:=q) (by rw[a_ hj,ej])
  have e:q.nm=x:=e;rw[<-e,<-k1];exact wf.sub p (aY hp)
 | cast rs=>
  have ok:=gg.yp wf (by omega) hr;obtain⟨_,nd,vP,hl⟩:=AN hr;have rb:uW b rs:=⟨nd,λr hr=>by obtain⟨m,r1,r2⟩:=pB (vP r hr);obtain⟨i,p0,q0,e1,e2,k1,k2,k3,k4,k5,k6⟩:=pA g.rel wf m;exact⟨r1,i,q0,e2,k2,by rw[k4,<-k6];exact r2⟩⟩
  exact Yl g wf ok rb (Pc g.fT rb (by rw[<-g.rel.whole];exact hl) g.own (g.whole (by omega)).2) hc
 | award o a=>obtain⟨ho,h1,h2⟩:=qA hr;exact VN g wf (gg.aw wf (by omega)) hc ho h1 h2
 | mishap x a=>exact Tw g wf hr
 | rise x a=>exact Ys g wf (AI hr).2 hb.2.2
 | hand x o=>exact YB g wf hr (aa2 g wf)
 | land x=>exact YK g wf hc hr
 | sever x y a we=>exact VP g wf hc hr hb.2.2.1.2 hb.2.2.2.2 (by rw[show st.ah.length=b.ah.length from g.rel.len];omega)
 | still=>exact g.mono
theorem o8.snoc{n:Nat}{ρ:fG}{H:Hp}{vs:List V}{l:List BE}(h:o8 n ρ H vs l){r t:Addr}{e:BE}(a:H r=some (.lst [.str e.nm,.str e.ow,.int e.wo,.ref t,.int e.bot]))(b:ρ r=some (n,27,e.nm))(c:H t=some (.lst (e.tops.map V.int)))(d:ρ t=some (n,28,e.nm)):o8 n ρ H (vs++[.ref r]) (l++[e]):=by
 induction h with
 | nil=>exact .cons a b c d .nil
 | cons a1 a2 a3 a4 _ ih=>exact .cons a1 a2 a3 a4 ih
theorem o8.length{n:Nat}{ρ:fG}{H:Hp}{vs:List V}{l:List BE}(h:o8 n ρ H vs l):vs.length=l.length:=by
 induction h with
 | nil=>rfl
 | cons _ _ _ _ _ ih=>simp[ih]
theorem o8.get{n:Nat}{ρ:fG}{H:Hp}{vs:List V}{l:List BE}(h:o8 n ρ H vs l):∀{i:Nat}{v:V},vs[i]?=some v->∃r t e,v =.ref r/\l[i]?=some e/\H r=some (.lst [.str e.nm,.str e.ow,.int e.wo,.ref t,.int e.bot])/\H t=some (.lst (e.tops.map V.int)):=by
 induction h with
 | nil=>intro i v e;simp at e
 | @cons r t e vs es a1 a2 a3 a4 _ ih=>
  intro i v h;cases i with
  | zero=>simp at h;subst h;exact⟨r,t,e,Z,Z,a1,a3⟩
  | succ i=>simp at h;obtain⟨r',t',e',f1,f2,f3⟩:=ih h;exact⟨r',t',e',f1,by simpa using f2,f3⟩
theorem bg.YL{n:Nat}{ρ:fG}{B:BA}{H:Hp}{b:BS}{vs:List V}(h:bg n ρ B H b)(g:Gh ρ H)(h1:H B.la=some (.lst vs))(h2:o8 n ρ H vs b.bD){r t:Addr}{e:BE}(a:H r=some (.lst [.str e.nm,.str e.ow,.int e.wo,.ref t,.int e.bot]))(b':ρ r=some (n,27,e.nm))(c:H t=some (.lst (e.tops.map V.int)))(d:ρ t=some (n,28,e.nm)):bg n ρ B (upd H B.la (.lst (vs++[.ref r]))) { b with bD:=b.bD++[e] }:=by
 have k:=eE (o:=.lst (vs++[.ref r])) g h.ca;exact⟨kz k h.cm h.om,h.cm,kz k h.co h.oo,h.co,kz k h.cp h.op,h.cp,⟨_,ak,(h2.snoc a b' c d).keep k (by decide) (by decide)⟩,h.ca,kz k h.ck h.ok,h.ck,h.ql,
  λi p q e1 e2=>let⟨a,b,c,d⟩:=h.pt i p q e1 e2;⟨kz k c a,kz k d b,c,d⟩⟩
theorem bg.q{K:Fg}{n:Nat}{ρ:fG}{B:BA}{H:Hp}{b:BS}{c:Nat}{st:HS}(h:bg n ρ B H b)(g:fK c st b):QAt K H B.m st:=by
 refine⟨_,B.lo,B.lp,B.lk,_,h.om,Z,Z,Z,by rw[g.rel.own];exact aD.of h.oo,aD.of h.op,⟨?_,λi p e=>?_⟩,by rw[g.eF];exact aD.of h.ok⟩
 .rw [aE,h.ql];exact g.rel.len.symm
 .obtain ⟨q,eq,e1,e2,e3,e4⟩:=g.rel.at' e;obtain⟨qq,qt,r1,_,_,_⟩:=h.find eq;exact⟨qq.1,_,by rw[bQ,qt];rfl,.inl (aD.of r1),by rw[e1];rfl,by rw[e2];rfl,by rw[e3];rfl,by rw[e4];rfl⟩
def abe:Dd->Prop
 | .mishap .. =>True
 | .rise .. =>True
 | .hand .. =>True
 | .land _=>True
 | .sever .. =>True
 | _=>False
structure AlO(st:HS)(d:Dd):Prop where
 one:abe d
 pl:st.ah.length<50
 kl:st.nms.length<900
 al:st.bD.length<900
theorem rO.length{own:List Str}{as:List lq}{es:List BE}(h:rO own as es):as.length=es.length:=by
 induction h with
 | nil=>rfl
 | cons _ _ _ _ _ _ _ _ _ _ ih=>simp[ih]
structure AlL(st:HS)(d:Dd):Prop where
 nk:d.k≠0
 go:∃c',Go c' st/\c'<=90
 pl:st.ah.length<50
 kl:st.nms.length<900
 al:st.bD.length<900
theorem V2{c:Nat}{st:HS}{b:BS}{rs:List Row}(g:fK c st b)(wf:Wf st)(hc:c<=90)(hr:xA st rs=none):uW b rs/\lz b (c9 b rs) 0 0:=by
 obtain⟨_,nd,vP,hl⟩:=AN hr;have rb:uW b rs:=⟨nd,λr hr=>by obtain⟨m,r1,r2⟩:=pB (vP r hr);obtain⟨i,p0,q0,e1,e2,k1,k2,k3,k4,k5,k6⟩:=pA g.rel wf m;exact⟨r1,i,q0,e2,k2,by rw[k4,<-k6];exact r2⟩⟩
 exact⟨rb,Pc g.fT rb (by rw[<-g.rel.whole];exact hl) g.own (g.whole (by omega)).2⟩
theorem rO.get{own:List Str}{as:List lq}{es:List BE}(h:rO own as es):∀{i:Nat}{a:lq}{e:BE},as[i]?=some a->es[i]?=some e->a.nm=e.nm/\a.ow=e.ow/\a.wo=e.wo/\a.sh=pT own e.tops e.bot/\e.tops.length<=own.length/\0<e.bot/\Jm.Sz 9000 e.bot/\PyData.strOk e.nm=true/\PyData.strOk e.ow=true:=by
 induction h with
 | nil=>intro i a e h1;simp at h1
 | cons a1 a2 a3 a4 a5 a6 a7 a8 a9 _ ih=>
  intro i a e h1 h2;cases i with
  | zero=>simp at h1 h2;subst h1;subst h2;exact⟨a1,a2,a3,a4,a5,a6,a7,a8,a9⟩
  | succ i=>simp at h1 h2;exact ih h1 h2
def xD(o:Str)(j:Nat)(e:BE):Int:=e.wo*e.tops.getD j 0-(if e.ow=o then e.wo*e.bot else 0)
def ny(o:Str)(j:Nat)(t:Int×Int)(e:BE):Int×Int:=(t.1*e.bot+xD o j e*t.2,t.2*e.bot)
def gr(es:List BE)(o:Str)(j:Nat):Int×Int:=es.foldl (ny o j) (0,1)
theorem HZ(es:List BE)(e:BE)(o:Str)(j:Nat):gr (es++[e]) o j=ny o j (gr es o j) e:=by unfold gr;rw[Fj];rfl
structure Em(c:Nat)(st:HS)(b:BS):Prop where
 rel:∀o∈st.own,st.bK.getD (st.own.idxOf o) 0*(gr b.bD o (st.own.idxOf o)).2=(gr b.bD o (st.own.idxOf o)).1*st.prod
 bz:∀e∈b.bD,Jm.Sz (60*c+1) e.bot/\0<e.bot
 tz:∀e∈b.bD,(∀t∈e.tops,0<=t/\t<=e.bot)/\0<=e.wo/\Jm.Sz 60 e.wo
 al:b.bD.length<=c
 oo:∀e∈b.bD,e.ow∈st.own
 mo:Mo c st
theorem adB{c:Nat}{st:HS}(g:Go c st)(wf:Wf st)(hc:c<=90){d:Dd}(hr:vJ st d=none)(h0:d.k≠0)(h7:d.k≠7):∃f:Int,(kg st d).bK=st.bK.map (·*f)/\(kg st d).prod=st.prod*f/\(kg st d).own=st.own:=by
 have one:∀{l:List Int},l=l.map (·*(1:Int)):=λ{l}=>by have:(λx:Int=>x*1)=id:=funext ou;rw[this,List.map_id]
 cases d with
 | sign o=>exact absurd rfl h0
 | land x=>exact absurd rfl h7
 | cast rs=>
  have:=LK ((g.yp wf (by omega) hr).blend wf);obtain⟨f,hf⟩:∃f,f=aH st / b_ st (aH st-bJ rs) (aH st) (gk st rs):=⟨_,rfl⟩
  rw[<-hf]at this;refine⟨f,?_,?_,Lj _ _⟩
  .show (gJ st rs).bK=_;unfold gJ;rw[jR];exact this.1
  .show (gJ st rs).prod=_;unfold gJ;rw[jR];exact this.2
 | award o a=>obtain⟨ho,h1,h2⟩:=qA hr;have:=LK ((g.aw wf (by omega)).blend (o:=o) wf h1 h2);exact⟨_,this.1,this.2,by show(bf _ _ _ _).own=_;unfold bf;rw[tN]⟩
 | hand x o=>
  show ∃f:Int,(iJ st x o).bK=st.bK.map (·*f)/\(iJ st x o).prod=st.prod*f/\(iJ st x o).own=st.own;unfold iJ;split
  .exact ⟨1,one,(ou _).symm,Z⟩
  .exact ⟨1,one,(ou _).symm,Z⟩
 | _=>exact⟨1,one,(ou _).symm,Z⟩
theorem Nz(l:List Int)(f:Int)(j:Nat):(l.map (·*f)).getD j 0=l.getD j 0*f:=by
 rw[dG,dG,bQ];cases l[j]? with
 | none=>show(0:Int)=0*f;rw[mX]
 | some x=>rfl
theorem abg(b:BS){d:Dd}(h7:d.k≠7):(qz b d).bD=b.bD:=by
 cases d with
 | land x=>exact absurd rfl h7
 | _=>rfl
theorem adC{c:Nat}{st:HS}{b:BS}{d:Dd}(p:Em c st b)(gd:fK c st b)(g:Go c st)(wf:Wf st)(hc:c<=90)(hr:vJ st d=none)(h0:d.k≠0):Em (c+1) (kg st d) (qz b d):=by
 have mo:=adz p.mo g wf hr;by_cases h7:d.k=7
 .obtain ⟨x,rfl⟩:∃x,d =.land x:=by
   cases d with
   | land x=>exact⟨x,Z⟩
   | _=>exact absurd h7 (by first|(show ¬ (0:Nat)=7;decide)|(show ¬ (1:Nat)=7;decide)|(show ¬ (2:Nat)=7;decide)|(show ¬ (3:Nat)=7;decide)|(show ¬ (4:Nat)=7;decide)|(show ¬ (5:Nat)=7;decide)|(show ¬ (6:Nat)=7;decide)|(show ¬ (8:Nat)=7;decide)|(show ¬ (9:Nat)=7;decide))
  obtain⟨i,p0,q0,e1,e2,k1,k2,k3,k4,k5,k6⟩:=pA gd.rel wf (pY hr);have hp:=aY e1;have hq:=aY e2;have eb:o_ b x=q0:=by unfold o_;rw[<-k2,pX gd.fT.nd e2];rfl
  have eA:(qz b (.land x)).bD=b.bD++[⟨x,q0.ow,q0.wo,q0.tops,b.bot⟩] :=by show(xB b x).bD=_;unfold xB;rw[eb]
  have eS:=rT wf hp;rw[k1]at eS;have S:∀{M:BE->Prop},(∀e∈b.bD,M e)->M ⟨x,q0.ow,q0.wo,q0.tops,b.bot⟩->∀e∈(qz b (.land x)).bD,M e:=λh1 h2 e he=>by
   rw[eA]at he;rcases dI.mp he with z|z
   .exact h1 e z
   .rw [dS.mp z];exact h2
  have b1:=gd.fT.b1;have eo:(kg st (.land x)).own=st.own:=by show(qw st x).own=_;rw[eS]
  refine⟨λo ho=>?_,S (λe he=>⟨(p.bz e he).1.mono (by omega),(p.bz e he).2⟩) ⟨gd.bot.mono (by omega),by show 0<b.bot;omega⟩,S p.tz ⟨gd.fT.t0 q0 hq,by have:=gd.fT.w1 q0 hq;show 0<=q0.wo;omega,by show Jm.Sz 60 q0.wo;rw[k4];exact g.sz wf (by omega) p0 hp⟩,by rw[eA,c7];have:=p.al;show _+1<=_;omega,S (λe he=>by rw[eo];exact p.oo e he) (by rw[eo];show q0.ow∈_;rw[k3];exact wf.ow p0 hp),mo⟩;rw[eo]at ho ⊢;have ep:(kg st (.land x)).prod=st.prod:=by show(qw st x).prod=_;rw[eS]
  have eu:(kg st (.land x)).bK=lQ st p0:=by show(qw st x).bK=_;rw[eS]
  rw[eA,HZ,ep,eu];have R:=p.rel o ho;have T:=gd.qu p0 hp q0 hq (k1.trans k2.symm) (st.own.idxOf o);have hj:=lR ho;have pl:st.bK.length=st.own.length:=wf.mz;have tl:(aM st p0).length=st.own.length:=zQ wf hp;have lg:(gx st p0).length=st.own.length:=by unfold gx;rw[jX,pl,tl];omega
  have gj:(gx st p0).getD (st.own.idxOf o) 0=st.bK.getD (st.own.idxOf o) 0+p0.wo*(aM st p0).getD (st.own.idxOf o) 0:=by unfold gx;exact kT (f:=λu t=>u+p0.wo*t) (by show(0:Int)+p0.wo*0=0;omega) (by rw[pl,tl]) _
  have pj:(lQ st p0).getD (st.own.idxOf o) 0=st.bK.getD (st.own.idxOf o) 0+p0.wo*(aM st p0).getD (st.own.idxOf o) 0-(if p0.ow=o then p0.wo*st.prod else 0):=by
   unfold lQ;by_cases H_:p0.ow=o
   .rw [H_,ay rfl,dG,h_ (by rw[lg];exact hj)];show(gx st p0).getD _ 0-_=_;rw[gj]
   .have ne:st.own.idxOf p0.ow≠st.own.idxOf o:=λe=>H_ (by
     have a:st.own[st.own.idxOf o]?=some o:=by rw[a_ hj,List.getElem_idxOf]
     have b:st.own[st.own.idxOf p0.ow]?=some p0.ow:=by rw[a_ (lR (wf.ow p0 hp)),List.getElem_idxOf]
     rw[e,a]at b;exact(gH b).symm)
    rw[av H_,wW,dG,xJ ne,<-dG,gj]
  rw[pj];unfold ny xD;show _*((gr b.bD o (st.own.idxOf o)).2*b.bot)=((gr b.bD o (st.own.idxOf o)).1*b.bot+(q0.wo*q0.tops.getD (st.own.idxOf o) 0-(if q0.ow=o then q0.wo*b.bot else 0))*(gr b.bD o (st.own.idxOf o)).2)*st.prod;rw[k4,k3];generalize st.bK.getD (st.own.idxOf o) 0=u at *;generalize (aM st p0).getD (st.own.idxOf o) 0=t at *;generalize q0.tops.getD (st.own.idxOf o) 0=s at *;generalize (gr b.bD o (st.own.idxOf o)).2=B2 at *;generalize (gr b.bD o (st.own.idxOf o)).1=B1 at *;generalize p0.wo=w at *;split
  .have a1:(u+w*t-w*st.prod)*(B2*b.bot)=(u*B2)*b.bot+w*B2*(t*b.bot)-w*st.prod*(B2*b.bot):=by grind
   rw[a1,R,<-T];grind
  .have a1:(u+w*t-0)*(B2*b.bot)=(u*B2)*b.bot+w*B2*(t*b.bot):=by grind
   rw[a1,R,<-T];grind
 .obtain ⟨f,f1,f2,f3⟩:=adB g wf hc hr h0 h7;have eA:=abg b h7;refine⟨λo ho=>?_,λe he=>?_,λe he=>by rw[eA]at he;exact p.tz e he,by rw[eA];have:=p.al;omega,λe he=>by rw[eA]at he;rw[f3];exact p.oo e he,mo⟩
  .rw [f3]at ho ⊢;have R:=p.rel o ho;rw[eA,f1,f2,Nz];generalize st.bK.getD (st.own.idxOf o) 0=u at *;generalize gr b.bD o (st.own.idxOf o)=B at *;have:u*f*B.2=(u*B.2)*f:=by grind
   rw[this,R];grind
  .rw [eA]at he;exact⟨(p.bz e he).1.mono (by omega),(p.bz e he).2⟩
theorem LL{es:List BE}{o:Str}{j m:Nat}(h:∀e∈es,Jm.Sz m e.bot/\0<e.bot):Jm.Sz (es.length*m+1) (gr es o j).2/\0<(gr es o j).2:=by
 unfold gr;have:∀(es:List BE)(t:Int×Int)(k:Nat),(∀e∈es,Jm.Sz m e.bot/\0<e.bot)->Jm.Sz k t.2->0<t.2->Jm.Sz (k+es.length*m) (es.foldl (ny o j) t).2/\0<(es.foldl (ny o j) t).2:=λes=>by
  induction es with
  | nil=>intro t k _ h1 h2;exact⟨h1.mono (by omega),h2⟩
  | cons e es ih=>intro t k h h1 h2;obtain⟨z,p⟩:=h e cQ;have:=ih (ny o j t e) (k+m) (λx hx=>h x (cR _ hx)) (h1.mul z) (wX h2 p);rw[j8,iY];exact⟨this.1.mono (by rw[Nat.add_mul];omega),this.2⟩
 have:=this es (0,1) 1 h (iC (by decide +kernel)) (by decide);exact⟨this.1.mono (by omega),this.2⟩
def tR(b:BS)(j:Nat):Int:=(b.ah.map λp:BP=>p.wo*p.tops.getD j 0).sum
def BK(b:BS)(o:Str):Int:=((b.bD.filter λe:BE=>decide (e.ow=o)).map λe:BE=>e.wo).sum
theorem LM{α β:Type}{f:α->Int}{g:β->Int}{x y:Int}:∀(ps:List α)(qs:List β),ps.length=qs.length->(∀(i:Nat)(p:α)(q:β),ps[i]?=some p->qs[i]?=some q->f p*x=g q*y)->(ps.map f).sum*x=(qs.map g).sum*y
 | [],[],_,_=>by show(0:Int)*x=0*y;rw[mX,mX]
 | p::ps,q::qs,h,r=>by rw[bF,bF,b8,b8,mY,mY,r 0 p q rfl rfl,LM ps qs (by simpa using h) λi a b ha hb=>r (i+1) a b (by simpa using ha) (by simpa using hb)]
 | [],q::qs,h,_=>by simp at h
 | p::ps,[],h,_=>by simp at h
theorem AR{c:Nat}{st:HS}{b:BS}(g:fK c st b)(wf:Wf st){j:Nat}(hj:j<st.own.length):lE st j*b.bot=tR b j*st.prod:=by rw[AQ wf hj];refine LM _ _ g.rel.len λi p q ep eq=>?_;obtain⟨p',uJ,e1,e2,e3,e4⟩:=g.rel.at eq;rw[ep]at uJ;cases uJ;have:=g.qu p (aY ep) q (aY eq) e1 j;rw[e3,iG,iG,this]
theorem V3{own:List Str}{as:List lq}{es:List BE}(h:rO own as es)(o:Str):((as.filter λa=>decide (a.ow=o)).map λa=>a.wo).sum=((es.filter λe:BE=>decide (e.ow=o)).map λe:BE=>e.wo).sum:=by
 induction h with
 | nil=>rfl
 | cons a1 a2 a3 _ _ _ _ _ _ _ ih=>
  rw[fL,fL,a2];split
  .rw [bF,bF,b8,b8,ih,a3]
  .exact ih
theorem PD{e:BE}{o:Str}{j m:Nat}(h1:Jm.Sz m e.bot)(h0:0<e.bot)(h2:∀t∈e.tops,0<=t/\t<=e.bot)(h3:0<=e.wo/\Jm.Sz 60 e.wo):Jm.Sz m (e.tops.getD j 0)/\Jm.Sz (m+61) (xD o j e):=by
 have t:0<=e.tops.getD j 0/\e.tops.getD j 0<=e.bot:=by
  rw[dG];cases hj:e.tops[j]? with
  | none=>exact⟨dZ 0,by show 0<=e.bot;omega⟩
  | some x=>exact h2 x (aY hj)
 have tz:Jm.Sz m (e.tops.getD j 0):=h1.of_le (by omega);refine⟨tz,?_⟩;unfold xD;split
 .rw [Int.sub_eq_add_neg];exact((h3.2.mul tz).add ((h3.2.mul h1).of_le (y:=e.wo*e.bot) (x:=-(e.wo*e.bot)) (by rw[Int.natAbs_neg];exact aL _))).mono (by omega)
 .rw [wW];exact(h3.2.mul tz).mono (by omega)
theorem LN{es:List BE}{o:Str}{j m:Nat}(h:∀e∈es,Jm.Sz m e.bot/\0<e.bot)(h2:∀e∈es,(∀t∈e.tops,0<=t/\t<=e.bot)/\0<=e.wo/\Jm.Sz 60 e.wo):Jm.Sz (1+es.length*(m+63)) (gr es o j).1:=by
 unfold gr;have:∀(es:List BE)(t:Int×Int)(k:Nat),(∀e∈es,Jm.Sz m e.bot/\0<e.bot)->(∀e∈es,(∀t∈e.tops,0<=t/\t<=e.bot)/\0<=e.wo/\Jm.Sz 60 e.wo)->Jm.Sz k t.2->Jm.Sz k t.1->Jm.Sz (k+es.length*(m+63)) (es.foldl (ny o j) t).1:=λes=>by
  induction es with
  | nil=>intro t k _ _ _ h1;exact h1.mono (by omega)
  | cons e es ih=>intro t k h h2 h3 h4;obtain⟨z,p⟩:=h e cQ;obtain⟨y1,y2⟩:=h2 e cQ;have gz:=(PD (o:=o) (j:=j) z p y1 y2).2;have:=ih (ny o j t e) (k+(m+63)) (λx hx=>h x (cR _ hx)) (λx hx=>h2 x (cR _ hx)) ((h3.mul z).mono (by omega)) (((h4.mul z).mono (show _<=m+61+k by omega)).add (gz.mul h3) |>.mono (by omega));rw[j8,iY];exact this.mono (by rw[Nat.add_mul];omega)
 exact this es (0,1) 1 h h2 (iC (by decide +kernel)) (iC (by decide +kernel))
theorem abh{l:List Int}{j:Nat}:kL ((l++[0]).map V.int) (if((l.length:Nat):Int)<(j:Int) then((l.length:Nat):Int) else(j:Int))=some (.int (l.getD j 0)):=by
 split
 .rename_i c;rw[dG,rA (by omega)];refine aB (j:=l.length) ?_;rw[bQ,De (aL _),wU];rfl
 .rename_i c;refine aB (j:=j) ?_;rw[bQ];rcases Nat.lt_or_ge j l.length with h|h
  .rw [E8 h,dG,a_ h];rfl
  .have:j=l.length:=by omega
   subst this;rw[De (aL _),wU,dG,rA (aL _)];rfl
inductive V4(K:Fg)(vs:List V)(H:Hp)(Q:VK)(E:XK):Prop
 |mk(n c:Nat)(ρ:fG)(B:BA)(b:BS)(st:HS)(o:Str)(_:vs=[.ref B.m,.str o])(_:bg n ρ B H b)(_:fK c st b)(_:c<=90)(_:o∈b.own)(_:∀H',aN H H'->Q (.int (tR b (b.own.idxOf o))) H')
def AS(K:Fg):Sp:=bx (V4 K)
inductive YM(K:Fg)(vs:List V)(H:Hp)(Q:VK)(E:XK):Prop
 |mk(n:Nat)(ρ:fG)(B:BA)(b:BS)(o:Str)(_:vs=[.ref B.m,.str o])(_:bg n ρ B H b)(_:b.bD.length<=1000)(_:∀H',aN H H'->Q (.int (BK b o)) H')
def LO(K:Fg):Sp:=bx (YM K)
inductive V5(K:Fg)(vs:List V)(H:Hp)(Q:VK)(E:XK):Prop
 |mk(n m:Nat)(ρ:fG)(B:BA)(b:BS)(o:Str)(_:vs=[.ref B.m,.str o])(_:bg n ρ B H b)(_:o∈b.own)(_:b.own.length<=100)(_:b.bD.length<=100)(_:m<=10000)(_:∀e∈b.bD,Jm.Sz m e.bot/\0<e.bot)(_:∀e∈b.bD,(∀t∈e.tops,0<=t/\t<=e.bot)/\0<=e.wo/\Jm.Sz 60 e.wo)(_:∀e∈b.bD,e.tops.length<=b.own.length)(_:∀r H',aN H H'->H' r=some (.tup [.int (gr b.bD o (b.own.idxOf o)).1,.int (gr b.bD o (b.own.idxOf o)).2])->Q (.ref r) H')
def Ia(K:Fg):Sp:=bx (V5 K)
inductive YN(T:TC)(K:Fg)(vs:List V)(H:Hp)(Q:VK)(E:XK):Prop
 |mk(n m c:Nat)(ρ:fG)(A:HA)(B:BA)(st:HS)(b:BS)(_:vs=[.ref A.a,.ref B.m])(_:HH T n ρ A H st)(_:bg m ρ B H b)(_:fK c st b)(_:Em c st b)(_:Go c st)(_:c<=11)(_:∀H',aN H H'->Q (.bl true) H')
def LP(T:TC)(K:Fg):Sp:=bx (YN T K)
inductive adD(T:TC)(K:Fg)(vs:List V)(H:Hp)(Q:VK)(E:XK):Prop
 |mk(n m c kn:Nat)(ρ:fG)(A:HA)(B:BA)(st:HS)(b:BS)(a ln:Addr)(ns:List Int)(k:Int)(nms:List Str)(many:Nat)(_:vs=[.ref a,.int k,.ref A.a,.ref B.m,.ref ln,.int (many:Int)])(_:n≠m)(_:HH T n ρ A H st)(_:bg m ρ B H b)(_:fK c st b)(_:GW c kn st)(_:Em c st b)(_:c+many<=90)(_:kn+100*many<=900000)(_:st.own.length<100)(_:yi K ρ H a (ns.map V.int))(_:ns.length<=63)(_:0<=k)(_:k<=100000)(_:yi K ρ H ln (nms.map V.str))(_:Nx nms st)(_:nms.length<50)(_:∀ρ' A' B' st' b' H',HH T n ρ' A' H' st'->bg m ρ' B' H' b'->fK (c+many) st' b'->GW (c+many) (kn+100*many) st'->Em (c+many) st' b'->A'.a=A.a->B'.m=B.m->b'.own=b.own->Nx nms st'->aN (out ρ H) (out ρ' H')->Q .cy H')
def T4(T:TC)(K:Fg):Sp:=bx (adD T K)
theorem pu0(own:List Str):Em 0 (kD own) ⟨own,[],1,[],[]⟩:=by
 obtain⟨k1,k2,k3,k4,k5,k6⟩:=nt own hs0 rfl (λu hu=>absurd hu (by simp[hs0]));refine⟨λo ho=>?_,λe he=>absurd he (by simp),λe he=>absurd he (by simp),aL _,λe he=>absurd he (by simp),mo0⟩;show(kD own).bK.getD _ 0*1=0*_;rw[mX,ou,dG];cases h:(kD own).bK[(kD own).own.idxOf o]? with
 | none=>rfl
 | some u=>exact k6 u (aY h)
theorem T5{c:Nat}{st:HS}{b:BS}(g:fK c st b)(gg:Go c st)(wf:Wf st)(hc:c<=90){j:Nat}(hj:j<st.own.length):Jm.Sz (60*c+61) (tR b j):=by
 have S:=AR g wf hj;have l:=V0 wf gg.sum hj;have p0:=HY wf hj;have P:0<st.prod:=by have:=wf.fH;omega
 have b1:=g.fT.b1;have w:=g.whole (c:=c) (by omega);rw[g.rel.whole]at l;have u:tR b j<=bN b*b.bot:=Int.le_of_mul_le_mul_right (by rw[<-S,show bN b*b.bot*st.prod=bN b*st.prod*b.bot by grind];exact OG l (by omega)) P
 have v:0<=tR b j:=by refine Int.le_of_mul_le_mul_right (a:=st.prod) ?_ P;rw[mX,<-S];exact j9 p0 (by omega)
 exact((w.2.mul g.bot).of_le (by omega)).mono (by omega)
end L2
set_option autoImplicit false
namespace Law
open PySem L2
theorem iM(n:Nat)(h:n<=1000:=by decide):n<=sizeLine:=by rw[lT];omega
def top(i:Nat):Stmt:=PySem.Challenge.pw_jettison_k27_stakes_told.main.body.getD i (.Pass ⟨0,0,0,0⟩)
section
variable {P:Program}{w:World}{K:Fg}{mg:SO}{base:Heap}{f:Addr}{fd:FuncData}
abbrev pC:Stmt:=top 2
abbrev jT:List Str:=["one","other"]
abbrev En:List Str:=jT
theorem vQ:aP En jT (aC pC):=di
theorem CJ(F:At K mg "common_factor" pC f fd):Dn P w K mg base 1 "common_factor" jT Vk:=by
 refine F.oA vQ λcdv A outer s H vs Q E hr h=>?_;obtain⟨a,b,rfl,ha,hb,q⟩:=h;refine⟨_,(@c5.h _ _ _ (aj (CG fM (aU jM (qv 1) ai (bq _)) (au (Tr (i:=0) (j:=1) rfl vQ.nd rfl rfl (by decide) rfl rfl (af (qv 1) (af (aG ki (qv 0) (qv 1)) aq)) (by rfl))))
  (au (bw (qv 0))))),?_⟩
 refine⟨λm σ H'=>∃x y:Int,m=y.toNat/\σ=[some (.int x),some (.int y)]/\H'=H/\0<=x/\0<=y/\Jm.cf x y=Jm.cf a b,⟨_,a,b,Z,Z,Z,ha,hb,Z⟩,?_⟩;rintro m σ H' ⟨x,y,rfl,rfl,rfl,hx,hy,e⟩;refine⟨_,Z,_,_,Z,Z,_,Z,?_⟩;refine cI (λc=>?_) (λc=>?_)
 .have c':0<y:=dW c;refine⟨_,λ_ _ z=>z,?_⟩;refine⟨_,Z,_,Z,_,Z,_,_,Z,Z,c',_,_,Z,?_⟩;have h1:0<=x % y:=oj _ (by omega);have h2:x % y<y:=yD _ c';exact⟨_,(by omega:(x % y).toNat<y.toNat),y,x % y,Z,Z,Z,hy,h1,(Jm.Ft x y c').trans e⟩
 .have c':¬ 0<y:=p6 (oW.mpr c);have ey:y=0:=by omega
  subst ey;rw[Jm.OV x hx]at e;refine⟨_,Z,?_⟩;rw[e];exact q
abbrev zx:Stmt:=top 18
abbrev xE:List Str:=["text","signs"]
abbrev T6:List Str:=xE
theorem Ra:aP T6 xE (aC zx):=di
theorem Rb(F:At K mg "made_of" zx f fd)(Rc:mg "all"=none):Dn P w K mg base 1 "made_of" xE Cv:=by
 refine F.oA Ra λcdv A outer s H vs Q E hr h=>?_;obtain⟨⟨cs,signs,rfl,hl,q⟩⟩:=h;refine⟨_,(@c5.h _ _ _ (au (bw (bh (Sl K rfl) (by rfl) Rc PyProof.Rows.boot_all (af (iw ["sign","signs"] [none,some 1] rfl (aaT (qv 0)) (λ_ _ _ _=>(aS (i:=0) (show List.Nodup (["sign","signs"] :List Str)from by decide +kernel))) (λ_ _ _ _=>(BD RN (qv 0) (qv 1) (by with_unfolding_all rfl))) rfl (by rfl)) aq))))),?_⟩;refine⟨_,Z,cs,Z,λacc hacc=>?_⟩;refine Vo (λi out H1=>aN H H1/\out=((cs.take i).map (DQ signs)).map V.bl) hl ⟨aI hacc _,Z⟩ ?_ ?_
 .rintro i c out H1 hx fh ha ⟨g,e⟩;refine⟨_,Z,_,Z,_,_,Z,Z,ha,g.cA hacc _,?_⟩;rw[e,List.take_add_one,hx,bL,bL];rfl
 rintro out H1 fh ha ⟨g,e⟩;rw[cM]at e;refine⟨acc,cs.map (DQ signs),Z,aD.of (by rw[ha,e]),?_⟩;have e2:(cs.map (DQ signs)).all id=cs.all (DQ signs):=by rw[List.all_map];rfl
 rw[e2];exact q H1 g
abbrev zy:Stmt:=top 17
abbrev tS:List Str:=["text"]
abbrev T7:List Str:=tS
theorem Rg:aP T7 tS (aC zy):=di
theorem Rh{tk:Tok}(F:At K mg "is_name" zy f fd)(AU:Dn P w K mg base 1 "made_of" xE Cv)(bV:mg "len"=none)(AV:mg "LETTERS"=some (.str "abcdefghijklmnopqrstuvwxyz" tk)):Dn P w K mg base 2 "is_name" tS yP:=by
 refine F.oA Rg λcdv A outer s H vs Q E hr h=>?_;obtain⟨⟨cs,rfl,hl,q⟩⟩:=h;refine⟨_,(@c5.h _ _ _ (au (bw (Tt (VI Ww Ww ai (bh Ko (by rfl) bV eY (af (qv 0) aq)) ai) (Tp (bH AU hr (af (qv 0) (af (Yr (v:=.str "abcdefghijklmnopqrstuvwxyz") (by rfl) AV ⟨_,Z⟩) aq)))))))),?_⟩;have hz:(tx cs).length<=sizeLine:=by rw[Ae,lT];omega
 refine⟨_,Z,_,Z,hz,_,_,Z,Z,_,Z,?_⟩;rw[Ae];refine cI (λc=>?_) (λc=>?_)
 .refine ⟨_,_,Z,Z,_,Z,cI (λc2=>?_) (λc2=>?_)⟩
  .refine ⟨_,Z,QN hl λH' g=>?_⟩;have:=q H' g;unfold isName at this;rw[c,c2,Bool.true_and,Bool.true_and]at this;exact this
  .have:=q H (aN.refl _);unfold isName at this;rw[c,oW.mpr c2,Bool.true_and,Bool.false_and]at this;exact this
 .have:=q H (aN.refl _);unfold isName at this;rw[oW.mpr c,Bool.false_and,Bool.false_and]at this;exact⟨_,Z,aW this⟩
abbrev qB:Stmt:=top 23
abbrev jg:List Str:=["amount"]
abbrev FY:List Str:=jg
theorem Eo:aP FY jg (aC qB):=di
theorem CK{e:Ec}(F:At K mg "check_amount" qB f fd):Dn P w K mg base 1 "check_amount" jg (sN (AH e)):=by refine F.oA Eo λcdv A outer s H vs Q E hr h=>?_;obtain⟨⟨a,rfl,h5,q⟩⟩:=h;refine⟨_,(@c5.h _ _ _ (au (cX (aU sP (qv 0) ai (bq _)) (au gK) bP))),?_⟩;exact⟨_,Z,_,_,Z,Z,_,Z,cI (λc=>h5 (dW c) 0 H (aN.refl _)) λc=>q (by have:=p6 (oW.mpr c);omega)⟩
abbrev uo:Stmt:=top 24
abbrev mL:List Str:=["most","amount"]
abbrev LQ:List Str:=mL
theorem Iq:aP LQ mL (aC uo):=di
theorem FZ{e:Ec}(F:At K mg "check_loss" uo f fd)(jh:Dn P w K mg base 1 "check_amount" jg (sN (AH e))):Dn P w K mg base 2 "check_loss" mL (sN (Lp e)):=by
 refine F.oA Iq λcdv A outer s H vs Q E hr h=>?_;obtain⟨⟨m,a,rfl,h5,h6,q⟩⟩:=h;refine⟨_,(@c5.h _ _ _ (aj (cg (bH jh hr (af (qv 1) aq)))
  (au (cX (aU jM (qv 1) (qv 0) (bq _)) (au gK) bP)))),?_⟩
 exact⟨_,Z,⟨⟨a,Z,h5,λh1=>⟨_,Z,_,Z,_,_,Z,Z,_,Z,cI (λc=>h6 h1 (dW c) 0 H (aN.refl _)) λc=>q h1 (by have:=p6 (oW.mpr c);omega)⟩⟩⟩⟩
abbrev ur:Stmt:=top 22
abbrev qC:List Str:=["rows"]
abbrev LR:List Str:=qC.append ["amounts","name","amount"]
theorem oH:aP LR qC (aC ur):=di
theorem Ir(F:At K mg "amounts_of" ur f fd)(bV:mg "len"=none):Dn P w K mg base 1 "amounts_of" qC (SS K):=by
 refine F.oA oH λcdv A outer s H vs Q E hr h=>?_;obtain⟨⟨l,us,rs,rfl,hl,hR,nd,hne,hle,q⟩⟩:=h;refine⟨_,(@c5.h _ _ _ (aj (aQ (i:=1) oH.nd rS)
  (aj (fq fM rfl (c_ K (qv 0)) (iL K (n:=2) rfl (cS (aS (i:=2) oH.nd) (cS (aS (i:=3) oH.nd) iK))) (aj (cX (yj (Lo (bX hr) (qv 2) (qv 1))) (au gK) bP)
  (au (pW (bX hr) (qv 1) (qv 2) (qv 3) rfl))))
  (aj (cX (aU dJ (bh w6 (by rfl) bV eY (af (qv 1) aq)) ai (bq _)) (au gK) bP)
  (au (bw (qv 1))))))),?_⟩
 intro d hd;have g0:=aI hd (.dK []);have hd0:upd H d (.dK []) d=some (.dK (iE (rs.take 0))):=ak;generalize upd H d (.dK [])=H0 at *;have T8:=hR.length;refine⟨_,Z,l,Z,⟨us,g0.seq hl⟩,?_⟩;refine jY (K:=K) (xs:=us) (λi σ H'=>aN H H'/\H' d=some (.dK (iE (rs.take i)))/\∃s2 s3,σ=[some (.ref l),some (.ref d),s2,s3]) ⟨g0,hd0,_,_,Z⟩ (λi σ H' _ hp=>hp.1.seq hl) ?_ ?_
 .rintro i x σ H' hx ⟨g,hd',s2,s3,rfl⟩;obtain⟨a,r,rfl,er,ha⟩:=hR.get hx;have hnot:r.1∉(rs.take i).map (·.1):=by rw[Be];exact kq nd (by rw[bQ,er];rfl)
  have hlt:(iE (rs.take i)).length<sizeLine:=by rw[yY,t8];exact dF (by omega)
  refine⟨a,_,Z,dU.of (g _ _ ha),Z,_,_,Z,_,_,Z,Z,?_⟩;refine⟨_,Z,_,Z,d,_,Z,cJ.k (k:=Sum.inr r.1) hd',_,Z,?_⟩;rw[Hu hnot];refine aW ?_;refine⟨_,Z,_,Z,_,Z,d,_,Z,ud.k (k:=Sum.inr r.1) hd' hlt,g.cA hd _,?_,_,_,Z⟩;rw[ak,oX _ (Hu hnot),take_snoc er];unfold iE;rw[bL];rfl
 rintro σ H' ⟨g,hd',s2,s3,rfl⟩;rw[T8,cM]at hd';refine⟨_,Z,d,_,Z,hd',Z,_,Z,?_⟩;rw[yY];have hpos:0<rs.length:=List.length_pos_iff.mpr hne;rw[dB (λe=>by have:=V.int.inj e;omega)];exact aW ⟨_,Z,q d H' g hd hd'⟩
abbrev pD:Stmt:=top 5
abbrev lY:List Str:=["step","tops"]
abbrev Ep:List Str:=lY.append ["top"]
theorem pF:aP Ep lY (aC pD):=di
theorem CL(F:At K mg "factor_of_all" pD f fd)(iN:Dn P w K mg base 1 "common_factor" jT Vk):Dn P w K mg base 2 "factor_of_all" lY (SV K):=by
 refine F.oA pF λcdv A outer s H vs Q E hr h=>?_;obtain⟨⟨s,l,ts,rfl,hl,h0,h1,q⟩⟩:=h;refine⟨_,(@c5.h _ _ _ (aj (fq fM rfl (c_ K (qv 1)) (aS (i:=2) pF.nd) (au (aQ (i:=0) pF.nd (bH iN hr (af (qv 2) (af (qv 0) aq))))))
  (au (bw (qv 0))))),?_⟩
 refine⟨_,Z,l,Z,⟨_,hl⟩,?_⟩;refine jY (K:=K) (xs:=ts.map V.int) (λi σ H'=>H'=H/\0<=qo s (ts.take i)/\∃s2,σ=[some (.int (qo s (ts.take i))),some (.ref l),s2]) ⟨Z,h0,_,Z⟩ (λi σ H' _ hp=>by rw[hp.1];exact hl) ?_ ?_
 .rintro i x σ H' hx ⟨rfl,hf,s2,rfl⟩;obtain⟨t,rfl,et⟩:=gO hx;have e1:qo s (ts.take (i+1))=Jm.cf t (qo s (ts.take i)):=by unfold qo;rw[take_snoc et,Fj];rfl
  refine⟨_,Z,_,Z,t,_,Z,h1 t (aY et),hf,Z,?_,some (.int t),?_⟩
  .rw [e1];unfold Jm.cf;omega
  .rw [e1];rfl
 rintro σ H' ⟨rfl,hf,s2,rfl⟩;rw[aE,cM];exact⟨_,Z,q⟩
abbrev rV:Stmt:=inClass (top 4) 0
abbrev uu:List Str:=["self"]
abbrev Iu:List Str:=uu
theorem F0:aP Iu uu (aC rV):=di
theorem F_{T:TC}(F:Ho K mg "Bottom" T.bot "Bottom.__init__" rV f fd)(X:Txt K T):Cn P w K mg base 1 "Bottom" T.bot uu (O1 T):=by
 refine F.oA F0 λcdv A outer s H vs Q E hr h=>?_;obtain⟨⟨p,dx,rfl,hp,q⟩⟩:=h;refine⟨_,(@c5.h _ _ _ (aj (dX K (qv 0) (ie aq))
  (aj (dX K (qv 0) ai)
  (au (dX K (qv 0) rS))))),?_⟩
 refine⟨(iM 0),λl hl=>?_⟩;have n1:p≠l:=aJ hp hl;refine⟨_,Z,p,T.bot,dx,_,Z,by rw[az n1];exact hp,X.cB,X.bst,by show 0<1000;decide,?_⟩;refine⟨_,Z,p,T.bot,dx,_,Z,ak,X.cB,X.KS,by show 1<1000;decide,?_⟩;intro d hd;have n2:d≠p:=λe=>by rw[e,ak]at hd;cases hd
 have n3:d≠l:=λe=>by rw[e,az (cO n1),az (cO n1),ak]at hd;cases hd
 have hd0:H d=none:=by rw[az n2,az n2,az n3]at hd;exact hd
 refine⟨_,Z,p,T.bot,dx,_,Z,by rw[az (cO n2)];exact ak,X.cB,X.SK,by show 2<1000;decide,?_⟩;refine q l d _ hl hd0 (cO n3) (λb o e hb=>?_) ak ?_ ?_
 .rw [az hb,az (aJ e hd0),az hb,az hb,az (aJ e hl)];exact e
 .rw [az (cO n1),az (cO n3),az (cO n1),az (cO n1)];exact ak
 .rw [az n2];exact ak
abbrev vR:Stmt:=inClass (top 20) 0
abbrev xS:List Str:=["self","name","owner","worth","weight","scale","row"]
abbrev NB:List Str:=xS
theorem LS:aP NB xS (aC vR):=di
theorem LU{T:TC}(F:Ho K mg "Part" T.part "Part.__init__" vR f fd)(X:Txt K T)(kF:mg "list"=none):Cn P w K mg base 1 "Part" T.part xS (FF T K):=by
 refine F.oA LS λcdv A outer s H vs Q E hr h=>?_;obtain⟨⟨p,dx,l,pt,rfl,hp,hl,q⟩⟩:=h;refine⟨_,(@c5.h _ _ _ (aj (dX K (qv 0) (qv 1))
  (aj (dX K (qv 0) (qv 2))
  (aj (dX K (qv 0) (qv 3))
  (aj (dX K (qv 0) (qv 4))
  (aj (dX K (qv 0) (qv 5))
  (au (dX K (qv 0) (pV (oE K) (by rfl) kF JV (af (qv 6) aq)))))))))),?_⟩
 refine⟨_,Z,_,Z,p,T.part,dx,_,Z,hp,X.cP,X.WM,by show 0<1000;decide,?_⟩;refine⟨_,Z,_,Z,p,T.part,dx,_,Z,ak,X.cP,X.pow,by show 1<1000;decide,?_⟩;refine⟨_,Z,_,Z,p,T.part,dx,_,Z,ak,X.cP,X.xh,by show 2<1000;decide,?_⟩;refine⟨_,Z,_,Z,p,T.part,dx,_,Z,ak,X.cP,X.WN,by show 3<1000;decide,?_⟩;refine⟨_,Z,_,Z,p,T.part,dx,_,Z,ak,X.cP,X.Hq,by show 4<1000;decide,?_⟩;simp only[pP];have hl1:∀o,aD K (upd H p o) l (pt.row.map V.int):=λo=>by
  rcases hl with(h|⟨ob,h⟩)|h
  .exact .inl (.inl (by rw[az (jC h hp (by intro z;cases z))];exact h))
  .exact .inl (.inr ⟨ob,by rw[az (jC h hp (by intro z;cases z))];exact h⟩)
  .exact .inr h
 refine⟨_,Z,l,_,Z,.inl (hl1 _),λr hr2=>?_⟩;have n1:r≠p:=λe=>by rw[e,ak]at hr2;cases hr2
 refine⟨_,Z,p,T.part,dx,_,Z,by rw[az (cO n1)];exact ak,X.cP,X.KR,by show 5<1000;decide,?_⟩;have hr0:H r=none:=by rw[az n1]at hr2;exact hr2
 refine q r _ hr0 (λb o e hb=>?_) ak ?_
 .rw [az hb,az (aJ e hr0),az hb];exact e
 .rw [az n1];exact ak
abbrev rW:Stmt:=inClass (top 4) 1
abbrev oJ:List Str:=["self","step"]
abbrev Iw:List Str:=oJ
theorem Ga:aP Iw oJ (aC rW):=di
theorem Gb{T:TC}(F:ja K T.bot "grow" "Bottom.grow" rW f fd)(X:Txt K T):Mn P w K mg base 1 T.bot "grow" oJ (SW T):=by
 refine F.oA Ga λcdv A outer s H vs Q E hr h=>?_;obtain⟨⟨n,ρ,A,st,s,rfl,g,h,hl,z1,z2,q⟩⟩:=h;refine⟨_,(@c5.h _ _ _ (au (ig (aU jM (qv 1) ai (bq _)) (aj (cg (kU oU oR oS eV (aK K (qv 0)) (af (qv 1) aq)))
  (aj (qy K (qv 0) (qv 1) X4)
  (au (dX K (qv 0) rS)))) bP))),?_⟩
 refine⟨λσ' H'=>Q .cy H',⟨_,Z,_,_,Z,Z,_,Z,cI (λc=>?_) (λc=>?_)⟩,λ_ _ z=>z⟩
 .have c':1<s:=dW c;refine⟨_,Z,A.bt,T.bot,A.db,_,_,Z,h.jq,X.cB,X.bst,Z,.inl ⟨Z,_,aD.of h.nR⟩,_,Z,A.sp,_,_,Z,Z,h.nR,by rw[aE];exact dF hl,?_⟩;rw[show st.stp.map V.int++[V.int s]=(st.stp++[s]).map V.int from by rw[bL];rfl];have h1:=h.aar g (st.stp++[s]);have g1:=g.wr (a:=A.sp) (o:=.lst ((st.stp++[s]).map V.int)) rfl;have F1:Fr n ρ H ρ (upd H A.sp (.lst ((st.stp++[s]).map V.int))):=Fr.write h.ju;generalize upd H A.sp (.lst ((st.stp++[s]).map V.int))=H1 at *;refine⟨_,Z,A.bt,T.bot,A.db,_,_,Z,h1.jq,X.cB,X.KS,Z,_,Z,_,_,Z,Z,d9 z1 z2,A.db,_,h1.jq,by show 3<1000;decide,?_⟩;intro kn hkn;have nb:kn≠A.bt:=λe=>by rw[e,ak]at hkn;cases hkn
  have CM:H1 kn=none:=by rw[az nb]at hkn;exact hkn
  have jv:ρ kn=none:=g1.none CM;refine⟨_,Z,A.bt,T.bot,A.db,_,Z,by rw[az (cO nb)];exact ak,X.cB,X.SK,by show 3<1000;decide,?_⟩;have eH:upd (upd (upd H1 A.bt (.ins T.bot A.db (aZ "product" (.int (st.prod*s)) (yS A.sp st.prod A.kn)))) kn (.dK [])) A.bt (.ins T.bot A.db (aZ "known" (.ref kn) (aZ "product" (.int (st.prod*s)) (yS A.sp st.prod A.kn))))=upd (upd H1 kn (.dK [])) A.bt (.ins T.bot A.db (yS A.sp (st.prod*s) kn)):=by rw[kQ (cO nb),pP];rfl
  have k2:Kp n ρ (bO ρ kn (n,9,⟨#[]⟩)) H1 (upd H1 kn (.dK [])) (λ_=>true):=⟨(aI CM _).tups,λb t x o _ c e=>⟨aI CM _ _ _ e,by rw[b7 (aJ e CM)];exact c⟩⟩
  have h2:=h1.same k2;have g2:Gh (bO ρ kn (n,9,⟨#[]⟩)) (upd H1 kn (.dK [])):=(g1.alloc CM).color ak rfl;have F2:Fr n ρ H1 (bO ρ kn (n,9,⟨#[]⟩)) (upd H1 kn (.dK [])):=Fr.color CM (aI CM _);have h3:=h2.aat g2 (st.prod*s) kn ak cY;have es:fP st s={ { st with stp:=st.stp++[s] }with prod:=st.prod*s,kn:=0 }:=by unfold fP;rw[ay c']
  rw[es]at q;show Q .cy _;refine(show _=_ from eH)▸?_;exact q _ _ _ (g2.wr rfl) h3 rfl (F1.trans (F2.trans (Fr.write h2.jr)))
 .have c':¬ 1<s:=p6 (oW.mpr c);have es:fP st s=st:=by unfold fP;rw[av c']
  rw[es]at q;exact q ρ A H g h rfl Fr.refl
abbrev pG:Stmt:=inClass (top 21) 19
abbrev eO:List Str:=["self","owner"]
abbrev Er:List Str:=eO
theorem CN:aP Er eO (aC pG):=di
theorem BL{T:TC}{e:Ec}(F:ja K T.hold "place_of" "Hold.place_of" pG f fd)(X:Txt K T):Mn P w K mg base 1 T.hold "place_of" eO (sN (zg T e)):=by
 refine F.oA CN λcdv A outer s H vs Q E hr h=>?_;obtain⟨⟨n,ρ,A,st,o,rfl,h,q2,q⟩⟩:=h;refine⟨_,(@c5.h _ _ _ (aj (cX (yj (AF (bX hr) (qv 1) (aK K (qv 0)))) (au gK) bP)
  (au (bw (bR (bX hr) (aK K (qv 0)) (qv 1)))))),?_⟩
 refine⟨_,Z,_,Z,A.a,T.hold,A.dx,_,_,Z,h.oa,X.cH,X.hpl,Z,A.pl,_,Z,cJ.k (k:=Sum.inr o) h.jb,_,Z,?_⟩;by_cases ho:o∈st.own
 .have hv:=O0 (i:=0) ho;rw[hv];refine aW ?_;refine⟨_,Z,A.a,T.hold,A.dx,_,_,Z,h.oa,X.cH,X.hpl,Z,_,Z,A.pl,_,Z,hv▸cJ.k (k:=Sum.inr o) h.jb,?_⟩;rw[Nat.zero_add];exact q ho
 .rw [qj ho];exact mw <| q2 ho 0 H (aN.refl _)
abbrev qD:Stmt:=inClass (top 21) 20
abbrev fB:List Str:=["self","name"]
abbrev Gd:List Str:=fB
theorem Es:aP Gd fB (aC qD):=di
theorem CO{T:TC}{e:Ec}(F:ja K T.hold "part_of" "Hold.part_of" qD f fd)(X:Txt K T):Mn P w K mg base 1 T.hold "part_of" fB (sN (mG T e)):=by
 refine F.oA Es λcdv A outer s H vs Q E hr h=>?_;obtain⟨⟨n,ρ,A,st,x,rfl,hA,nd,q2,k⟩⟩:=h;refine⟨_,(@c5.h _ _ _ (aj (cX (yj (AF (bX hr) (qv 1) (aK K (qv 0)))) (au gK) bP)
  (au (bw (bR (bX hr) (aK K (qv 0)) (qv 1)))))),?_⟩
 refine⟨_,Z,_,Z,A.a,T.hold,A.dx,_,_,Z,hA.oa,X.cH,X.hab,Z,A.ab,_,Z,cJ.k (k:=Sum.inr x) hA.fj,_,Z,?_⟩;by_cases hx:∃p∈st.ah,p.nm=x
 .obtain ⟨p,hp,rfl⟩:=hx;obtain⟨i,hi,ep⟩:=List.mem_iff_getElem.mp hp;have uJ:st.ah[i]?=some p:=by rw[a_ hi,ep]
  obtain⟨qq,eq,_⟩:=hA.find uJ;have hv:=u9 nd uJ eq;rw[hv];refine aW ?_;exact⟨_,Z,A.a,T.hold,A.dx,_,_,Z,hA.oa,X.cH,X.hab,Z,_,Z,A.ab,_,Z,hv▸cJ.k (k:=Sum.inr p.nm) hA.fj,k i p qq rfl uJ eq⟩
 .have hn:∀p∈st.ah,p.nm≠x:=λp hp z=>hx ⟨p,hp,z⟩;rw[vC hn];exact mw <| q2 hn 0 H (aN.refl _)
abbrev nL:Stmt:=inClass (top 21) 21
abbrev jx:List Str:=["self","name"]
abbrev CP:List Str:=jx
theorem BN:aP CP jx (aC nL):=di
theorem AW{T:TC}{e:Ec}(F:ja K T.hold "check_new" "Hold.check_new" nL f fd)(X:Txt K T)(pZ:Dn P w K mg base 2 "is_name" tS yP):Mn P w K mg base 3 T.hold "check_new" jx (sN (xR T e)):=by
 refine F.oA BN λcdv A outer s H vs Q E hr h=>?_;obtain⟨⟨n,ρ,A,st,x,rfl,h,hx,q2,q⟩⟩:=h;refine⟨_,(@c5.h _ _ _ (aj (cX (nX (lC (bH pZ hr (af (qv 1) aq)))) (au gK) bP)
  (au (cX (yj (Lo (bX hr) (qv 1) (aK K (qv 0)))) (au gK) bP)))),?_⟩
 refine⟨_,Z,DR (cs:=x.cps.toList) hx λH1 g1=>⟨_,Z,?_⟩⟩;cases hn:isName x.cps.toList with
 | false=>exact mw <| q2 0 (by unfold newR isNm;rw[hn];rfl) 0 H1 g1
 | true=>
  refine aW ?_;have h1:=h.mono g1;refine⟨_,Z,_,Z,A.a,T.hold,A.dx,_,_,Z,h1.oa,X.cH,X.hnm,Z,A.nm,_,Z,cJ.k (k:=Sum.inr x) h1.tL,_,Z,?_⟩;by_cases hm:x∈st.nms
  .rw [KY hm];exact mw <| q2 1 (by unfold newR isNm;rw[hn,ay rfl,ay hm]) 0 H1 g1
  .rw [Ao hm];exact aW (q (AA hn hm) H1 g1)
abbrev uw:Stmt:=inClass (top 21) 13
abbrev kG:List Str:=["self"]
abbrev LV:List Str:=kG
theorem Iz:aP LV kG (aC uw):=di
theorem IA{T:TC}(F:ja K T.hold "whole" "Hold.whole" uw f fd)(X:Txt K T)(eU:mg "sum"=none):Mn P w K mg base 1 T.hold "whole" kG (Bw T):=by
 refine F.oA Iz λcdv A outer s H vs Q E hr h=>?_;obtain⟨⟨n,ρ,A,st,rfl,h,hl,q⟩⟩:=h;refine⟨_,(@c5.h _ _ _ (au (bw (bh (i_ K rfl) (by rfl) eU tZ (af (Ln (iw ["part"] [none] rfl (BB (aK K (qv 0))) (λ_ _ _ _=>(aS (i:=0) (show List.Nodup (["part"] :List Str)from by decide +kernel))) (λ_ _ _ _=>(aK K (qv 0))) rfl (by rfl))) aq))))),?_⟩;refine⟨A.ab,_,h.fj,λo=>?_⟩;refine⟨_,Z,A.a,T.hold,A.dx,_,_,Z,fJ h.fj h.oa (λk z=>by cases z),X.cH,X.hab,Z,A.ab,o,_,Z,ak,λacc hacc=>?_⟩;have el:=ye h.ql;refine iD (n:=st.ah.length) 0 (λi out H1=>aN (upd H A.ab (.gh o (.dK (cZ st.ah A.qs)))) H1/\out=((st.ah.take i).map (·.wo)).map V.int) (by omega) ⟨aI hacc _,Z⟩ (λi out H1 hi _ hp=>⟨hp.1 _ _ ak,by rw[el];exact hi⟩) (λout H1 _ hp=>⟨hp.1 _ _ ak,by rw[el];exact aL _⟩) ?_ ?_
 .rintro i x out H1 H2 hi fh ha ⟨g,e⟩ ⟨rfl,kv,hkv,rfl⟩;have ep:=a_ hi;obtain⟨qq,eq,h1,h2,_⟩:=h.find ep;rw[yd ep eq]at hkv;cases hkv;have hq:=g _ _ (fJ h.fj h1 (λk z=>by cases z));refine⟨_,Z,qq.1,T.part,qq.2.1,_,_,Z,hq,X.cP,X.xh,Z,ha,g.cA hacc _,?_⟩;rw[take_snoc ep,e,bL,bL];rfl
 rintro out H1 fh ha ⟨g,e⟩;rw[cM]at e;have hz:=g _ _ (ak (H:=H) (a:=A.ab) (o:=.gh o (.dK (cZ st.ah A.qs))));have na:acc≠A.ab:=λe=>by rw[e,hz]at ha;cases ha
 exact⟨hz,acc,st.ah.map (λp:Pt=>p.wo),Z,aD.of (by rw[az na,ha,e]),q _ (vD h.fj g)⟩
abbrev kH:Stmt:=inClass (top 21) 25
abbrev gW:List Str:=["self","tops"]
abbrev zz:List Str:=gW
theorem yr:aP zz gW (aC kH):=di
theorem yt{T:TC}(F:ja K T.hold "beyond_common" "Hold.beyond_common" kH f fd)(X:Txt K T)(i8:mg "zip"=none):Mn P w K mg base 1 T.hold "beyond_common" gW (QX T K):=by
 refine F.oA yr λcdv A outer s H vs Q E hr h=>?_;obtain⟨⟨n,ρ,A,st,l,tops,rfl,h,hS,WY,hle,q⟩⟩:=h;refine⟨_,(@c5.h _ _ _ (au (bw (iw ["top","common"] [none,none] rfl (rR K (by rfl) i8 (af (qv 1) (af (aK K (qv 0)) aq))) (λ_ _ _ _=>(iL K (n:=2) rfl (cS (aS (i:=0) (show List.Nodup (["top","common"] :List Str)from by decide +kernel)) (cS (aS (i:=1) (show List.Nodup (["top","common"] :List Str)from by decide +kernel)) iK)))) (λ_ _ _ _=>(aG jL (qv 0) (qv 1))) rfl (by rfl))))),?_⟩;refine⟨_,Z,_,Z,A.a,T.hold,A.dx,_,_,Z,h.oa,X.cH,X.Al,Z,_,_,_,_,_,_,Z,.lst hS,.lst (aD.of h.jD),λacc hacc=>?_⟩;refine Ai (K:=K) (n:=tops.length) [0,1] (λi out H1=>aN H H1/\out=(List.zipWith (λt c=>t-c) (tops.take i) (st.bU.take i)).map V.int) (by decide) (by omega) ⟨aI hacc _,Z⟩ (λi out H1 hi _ hp=>⟨hp.1.seq hS,hp.1.seq (aD.of h.jD),by rw[aE];exact hi,by rw[aE];omega⟩)
  (λout H1 _ hp=>⟨hp.1.seq hS,hp.1.seq (aD.of h.jD),.inl (by rw[aE];exact aL _)⟩) ?_ ?_
 .rintro i x out H1 H2 hi fh ha ⟨g,e⟩ ⟨p,x1,y1,hp,rfl,rfl,e1,e2⟩;obtain⟨t,rfl,et⟩:=gO e1;obtain⟨c,rfl,ec⟩:=gO e2;have g1:=aI hp (.tup [.int t,.int c]);refine⟨p,_,Z,dU.of ak,Z,_,Z,_,Z,_,_,Z,Z,g1 _ _ ha,(g.trans g1).cA hacc _,?_⟩;rw[mD _ et ec,e,bL];rfl
 rintro out H1 fh ha ⟨g,e⟩;rw[cM,WY,cM]at e;exact q acc H1 g hacc (by rw[ha,e];rfl)
abbrev qE:Stmt:=inClass (top 21) 24
abbrev ji:List Str:=["self","part"]
abbrev Ge:List Str:=ji
theorem Et:aP Ge ji (aC qE):=di
theorem Eu{T:TC}(F:ja K T.hold "tops_of" "Hold.tops_of" qE f fd)(X:Txt K T)(i8:mg "zip"=none):Mn P w K mg base 1 T.hold "tops_of" ji (Bv T):=by
 refine F.oA Et λcdv A outer s H vs Q E hr h=>?_;obtain⟨⟨n,ρ,A,st,ip,pt,qq,rfl,h,wf,ep,eq,q⟩⟩:=h;obtain⟨h1,h2,_⟩:=h.opt ip pt qq ep eq;have fk:=aY ep;refine⟨_,(@c5.h _ _ _ (au (bw (iw ["own","common","part"] [none,none,some 1] rfl (rR K (by rfl) i8 (af (aK K (qv 1)) (af (aK K (qv 0)) aq))) (λ_ _ _ _=>(iL K (n:=2) rfl (cS (aS (i:=0) (show List.Nodup (["own","common","part"] :List Str)from by decide +kernel)) (cS (aS (i:=1) (show List.Nodup (["own","common","part"] :List Str)from by decide +kernel)) iK)))) (λ_ _ _ _=>(aG cE (aG eW (aK K (qv 2)) (qv 0)) (qv 1))) rfl (by rfl))))),?_⟩;have erl:pt.row.length=st.bU.length:=by rw[wf.rows pt fk,wf.f7]
 have hcl:st.bU.length<=100:=by rw[wf.f7];exact wf.kP
 refine⟨_,Z,qq.1,T.part,qq.2.1,_,_,Z,h1,X.cP,X.KR,Z,_,Z,A.a,T.hold,A.dx,_,_,Z,h.oa,X.cH,X.Al,Z,_,_,_,_,_,_,Z,.lst (aD.of h2),.lst (aD.of h.jD),λacc hacc=>?_⟩;refine Ai (K:=K) (n:=pt.row.length) [0,1] (λi out H1=>aN H H1/\out=(List.zipWith (λr c=>pt.sc*r+c) (pt.row.take i) (st.bU.take i)).map V.int) (by decide) (by omega) ⟨aI hacc _,Z⟩ (λi out H1 hi _ hp=>⟨hp.1.seq (aD.of h2),hp.1.seq (aD.of h.jD),by rw[aE];exact hi,by rw[aE];omega⟩)
  (λout H1 _ hp=>⟨hp.1.seq (aD.of h2),hp.1.seq (aD.of h.jD),.inl (by rw[aE];exact aL _)⟩) ?_ ?_
 .rintro i x out H1 H2 hi fh ha ⟨g,e⟩ ⟨p,x1,y1,hp,rfl,rfl,e1,e2⟩;obtain⟨t,rfl,et⟩:=gO e1;obtain⟨c,rfl,ec⟩:=gO e2;have g1:=aI hp (.tup [.int t,.int c]);have s1:Jm.Sz 8000 pt.sc:=Jm.Sz.k_ (by have:=wf.qi pt fk;have:=wf.fH;omega) (wf.qi pt fk).2 wf.big;have s2:Jm.Sz 8000 t:=Jm.Sz.k_ (wf.nK pt fk t (aY et)).1 (wf.nK pt fk t (aY et)).2 wf.big;refine⟨p,_,Z,dU.of ak,Z,_,Z,qq.1,T.part,qq.2.1,_,_,Z,(g.trans g1) _ _ h1,X.cP,X.Hq,Z,_,Z,_,_,Z,Z,d9 s1 s2,_,Z,_,_,Z,Z,g1 _ _ ha,(g.trans g1).cA hacc _,?_⟩;rw[mD _ et ec,e,bL];rfl
 rintro out H1 fh ha ⟨g,e⟩;rw[cM,erl,cM]at e;exact q acc H1 g hacc (by rw[ha,e];rfl)
abbrev vS:Stmt:=inClass (top 21) 22
abbrev nY:List Str:=["self","part"]
abbrev NC:List Str:=nY
theorem LW:aP NC nY (aC vS):=di
theorem LX{T:TC}(F:ja K T.hold "stow" "Hold.stow" vS f fd)(X:Txt K T):Mn P w K mg base 1 T.hold "stow" nY (K0 T):=by
 refine F.oA LW λcdv A outer s H vs Q E hr h=>?_;obtain⟨⟨n,ρ,A,st,qq,p,rfl,hh,h1,h2,c1,c2,hn,wf',q⟩⟩:=h;have h:=hh.h;refine⟨_,(@c5.h _ _ _ (aj (pW (bX hr) (aK K (qv 0)) (aK K (qv 1)) (qv 1) rfl)
  (au (pW (bX hr) (aK K (qv 0)) (aK K (qv 1)) uY rfl)))),?_⟩
 have AX:∀x∈st.ah,x.nm≠p.nm:=λx hx e=>hn (by rw[<-e];exact hh.wf.sub x hx);have lab:(cZ st.ah A.qs).length<sizeLine:=by rw[ye h.ql];exact dF hh.wf.qh
 refine⟨_,Z,_,Z,A.a,T.hold,A.dx,_,_,Z,h.oa,X.cH,X.hab,Z,_,Z,qq.1,T.part,qq.2.1,_,_,Z,h1,X.cP,X.WM,Z,A.ab,_,Z,ud.k (k:=Sum.inr p.nm) h.fj lab,?_⟩;rw[oX _ (vC AX),<-Vx h.ql p qq];have k1:qq.1≠qq.2.2:=jC h1 h2 (by intro z;cases z);have f1:Kp n ρ (bO (bO ρ qq.1 (n,20,p.nm)) qq.2.2 (n,21,p.nm)) H H (λ_=>true):=⟨λ_ _ e=>e,λb t x o _ c e=>⟨e,by rw[b7 (λz=>by rw[z,c2]at c;cases c),b7 (λz=>by rw[z,c1]at c;cases c)];exact c⟩⟩
 have hc:=h.same f1;have g1:Gh (bO (bO ρ qq.1 (n,20,p.nm)) qq.2.2 (n,21,p.nm)) H:=(hh.g.color h1 rfl).color h2 rfl;have fr1:KZ n qq.1 qq.2.2 ρ H (bO (bO ρ qq.1 (n,20,p.nm)) qq.2.2 (n,21,p.nm)) H:=λb o e k n1 n2=>⟨e,by rw[b7 n2,b7 n1]⟩
 have hs:=hc.KQ g1 (st.ah++[p]) (A.qs++[qq]) (by rw[c7,c7,h.ql];rfl) (λi x y ex ey=>by
  by_cases hi:i<st.ah.length
  .rw [E8 hi]at ex;rw[E8 (by rw[h.ql];exact hi)]at ey;exact hc.opt i x y ex ey
  .rw [De (by omega)]at ex;rw[De (by rw[h.ql];omega),h.ql]at ey;have e0:i-st.ah.length=0:=by
    rcases Nat.eq_zero_or_pos (i-st.ah.length)with z|z
    .exact z
    .rw [rA (by show 1<=_;exact z)]at ex;cases ex
   rw[e0]at ex ey;cases ex;cases ey;exact⟨h1,h2,by rw[b7 k1];exact cY,cY⟩)
 have g2:=g1.wr (a:=A.ab) (o:=.dK (cZ (st.ah++[p]) (A.qs++[qq]))) rfl;have fr2:Fr n _ H _ (upd H A.ab (.dK (cZ (st.ah++[p]) (A.qs++[qq])))):=Fr.write hc.gQ;have D3:upd H A.ab (.dK (cZ (st.ah++[p]) (A.qs++[qq]))) qq.1=some (.ins T.part qq.2.1 (dg p qq.2.2)):=by rw[az (jC h1 h.fj (by intro z;cases z))];exact h1
 refine⟨_,Z,A.a,T.hold,A.dx,_,_,Z,hs.oa,X.cH,X.hnm,Z,_,Z,qq.1,T.part,qq.2.1,_,_,Z,D3,X.cP,X.WM,Z,A.nm,_,Z,ud.k (k:=Sum.inr p.nm) hs.tL (by unfold Aj;rw[aE];exact dF hh.wf.yU),?_⟩;rw[oX _ (Ao hn),show Aj st.nms++[(Sum.inr p.nm,V.bl true)]=Aj (st.nms++[p.nm])from by unfold Aj;rw[bL];rfl];have hs2:=hs.aao g2 (st.nms++[p.nm]);exact q _ _ _ ⟨g2.wr rfl,hs2,wf'⟩ rfl (fr1.trans (fr2.trans (Fr.write hs.jn)))
abbrev vU:Stmt:=inClass (top 21) 1
abbrev nZ:List Str:=["self","owner"]
abbrev ND:List Str:=nZ.append ["part"]
theorem AY:aP ND nZ (aC vU):=di
theorem LY{T:TC}(F:ja K T.hold "sign" "Hold.sign" vU f fd)(X:Txt K T)(pZ:Dn P w K mg base 2 "is_name" tS yP)(bV:mg "len"=none):Mn P w K mg base 3 T.hold "sign" nZ (FG T):=by
 refine F.oA AY λcdv A outer s H vs Q E hr h=>?_;obtain⟨⟨n,ρ,A,st,o,rfl,hh,hx,hn,hl,q⟩⟩:=h;refine⟨_,(@c5.h _ _ _ (aj (cX (nX (lC (bH pZ hr (af (qv 1) aq)))) (au gK) bP)
  (aj (cX (yj (Lo (bX hr) (qv 1) (aK K (qv 0)))) (au gK) bP)
  (aj (pW (bX hr) (aK K (qv 0)) (qv 1) (bh w6 (by rfl) bV eY (af (aK K (qv 0)) aq)) rfl)
  (aj (cg (kU oU oR oS eV (aK K (qv 0)) (af ai aq)))
  (aj (cg (kU oU oR oS eV (aK K (qv 0)) (af ai aq)))
  (au (yl (fq fM rfl (BB (aK K (qv 0))) (aS (i:=2) AY.nd) (au (cg (kU oU oR oS eV (aK K (qv 2)) (af ai aq))))))))))))),?_⟩
 refine⟨_,Z,DR (cs:=o.cps.toList) (K2 hx) λH1 g1=>⟨_,Z,?_⟩⟩;rw[show isName o.cps.toList=true from hx];refine aW ?_;have g_:=hh.mono g1;have h1:=g_.h;have F1:Fr n ρ H ρ H1:=Fr.of_same g1;refine⟨_,Z,_,Z,A.a,T.hold,A.dx,_,_,Z,h1.oa,X.cH,X.hpl,Z,A.pl,_,Z,cJ.k (k:=Sum.inr o) h1.jb,_,Z,?_⟩;rw[qj hn];refine aW ?_;have Cf:=qm st.own 0;refine⟨_,Z,A.a,T.hold,A.dx,_,_,Z,h1.oa,X.cH,X.hpl,Z,A.pl,_,Z,h1.jb,_,Z,A.a,T.hold,A.dx,_,_,Z,h1.oa,X.cH,X.hpl,Z,_,Z,A.pl,_,Z,ud.k (k:=Sum.inr o) h1.jb (dF (by rw[Cf];omega)),?_⟩;rw[oX _ (qj hn),Cf,show gD 0 st.own++[(Sum.inr o,V.int (st.own.length:Int))]=gD 0 (st.own++[o])from by rw[KU,Nat.zero_add]];have h2:=h1.aam g_.g (st.own++[o]);have G2:=g_.g.wr (a:=A.pl) (o:=.dK (gD 0 (st.own++[o]))) rfl;have F2:=F1.trans (Fr.write (o:=.dK (gD 0 (st.own++[o]))) h1.jc);generalize upd H1 A.pl (.dK (gD 0 (st.own++[o])))=H2 at *;have lcm:(st.bU.map V.int).length<sizeLine:=by rw[aE,hh.wf.f7];exact dF (by omega)
 refine⟨_,Z,A.a,T.hold,A.dx,_,_,Z,h2.oa,X.cH,X.Al,Z,.inl ⟨Z,_,aD.of h2.jD⟩,A.cm,_,_,Z,Z,h2.jD,lcm,?_⟩;rw[show st.bU.map V.int++[V.int 0]=(st.bU++[0]).map V.int from by rw[bL];rfl];have h3:=h2.aap G2 (st.bU++[0]);have G3:=G2.wr (a:=A.cm) (o:=.lst ((st.bU++[0]).map V.int)) rfl;have F3:=F2.trans (Fr.write (o:=.lst ((st.bU++[0]).map V.int)) h2.jN);generalize upd H2 A.cm (.lst ((st.bU++[0]).map V.int))=H3 at *;have lpu:(st.bK.map V.int).length<sizeLine:=by rw[aE,hh.wf.mz];exact dF (by omega)
 refine⟨_,Z,A.a,T.hold,A.dx,_,_,Z,h3.oa,X.cH,X.Am,Z,.inl ⟨Z,_,aD.of h3.lu⟩,A.pu,_,_,Z,Z,h3.lu,lpu,?_⟩;rw[show st.bK.map V.int++[V.int 0]=(st.bK++[0]).map V.int from by rw[bL];rfl];have h4:=h3.aaq G3 (st.bK++[0]);have G4:=G3.wr (a:=A.pu) (o:=.lst ((st.bK++[0]).map V.int)) rfl;have F4:=F3.trans (Fr.write (o:=.lst ((st.bK++[0]).map V.int)) h3.cpu);generalize upd H3 A.pu (.lst ((st.bK++[0]).map V.int))=H4 at *;clear h1 h2 h3 G2 G3 F2 F3 g_;have hpl:=hh.wf.qh;refine⟨A.ab,_,h4.fj,λob=>?_⟩;refine⟨_,Z,A.a,T.hold,A.dx,_,_,Z,fJ h4.fj h4.oa (λk z=>by cases z),X.cH,X.hab,Z,A.ab,ob,_,Z,ak,?_⟩;have el:=ye h4.ql;have el0:(cZ st.ah A.qs).length=st.ah.length:=el;refine vv (n:=st.ah.length) (λi σ H'=>(∃s2,σ=[some (.ref A.a),some (.str o),s2])/\pR H' A.ab ob (cZ st.ah A.qs)/\∃H5,H'=upd H5 A.ab (.gh ob (.dK (cZ st.ah A.qs)))/\Gh ρ H5/\Fr n ρ H ρ H5/\
   aR T n ρ A H5 { st with own:=st.own++[o],bU:=st.bU++[0],bK:=st.bK++[0],ah:=(st.ah.take i).map (λp=>{ p with row:=p.row++[0] })++st.ah.drop i })
  ⟨⟨_,Z⟩,ak,H4,Z,G4,F4,h4⟩ (λi σ H' hi hp=>⟨hp.2.1,by rw[el0];exact hi⟩) (λσ H' hp=>⟨hp.2.1,by rw[el0];exact aL _⟩) ?_ ?_
 .rintro i x σ H' D6 hi ⟨⟨s2,rfl⟩,hz,H5,rfl,G5,F5,h5⟩ ⟨rfl,kv,hkv,rfl⟩;have ep:=a_ hi;have Cg:=K4 (λp:Pt=>{ p with row:=p.row++[0] }) ep;obtain⟨qq,eq,k1,k2,k3,k4⟩:=h5.find Cg;rw[yd ep eq]at hkv;cases hkv;have WZ:=rL (λp:Pt=>{ p with row:=p.row++[0] }) (λp:Pt=>p.nm) (λ_=>rfl) st.ah i;have nd5:(((st.ah.take i).map (λp:Pt=>{ p with row:=p.row++[0] })++st.ah.drop i).map (λp:Pt=>p.nm)).Nodup:=by rw[WZ];exact hh.wf.fF
  have z1:=fJ (o:=ob) h5.fj k1 (λk z=>by cases z);have z2:=fJ (o:=ob) h5.fj k2 (λk z=>by cases z);rw[show cZ ({ st with own:=st.own++[o],bU:=st.bU++[0],bK:=st.bK++[0],ah:=(st.ah.take i).map (λp:Pt=>{ p with row:=p.row++[0] })++st.ah.drop i }:HS).ah A.qs=cZ st.ah A.qs from pS WZ]at z1 z2;have hrl:((st.ah[i]).row.map V.int).length<sizeLine:=by rw[aE,hh.wf.rows _ (yF hi)];exact dF (by omega)
  refine⟨_,Z,qq.1,T.part,qq.2.1,_,_,Z,z1,X.cP,X.KR,Z,.inl ⟨Z,_,aD.of z2⟩,qq.2.2,_,_,Z,Z,z2,hrl,?_⟩;have na:A.ab≠qq.2.2:=(jC k2 h5.fj (by intro z;cases z)).symm;rw[show(st.ah[i]).row.map V.int++[V.int 0]=((st.ah[i]).row++[0]).map V.int from by rw[bL];rfl];have h6:=h5.X6 G5 ((st.ah[i]).row++[0]) Cg eq nd5;rw[show({ st with own:=st.own++[o],bU:=st.bU++[0],bK:=st.bK++[0],ah:=(st.ah.take i).map (λp:Pt=>{ p with row:=p.row++[0] })++st.ah.drop i }:HS).ah.set i { st.ah[i]with row:=(st.ah[i]).row++[0] }=_ from K5 (λp:Pt=>{ p with row:=p.row++[0] }) ep]at h6;exact⟨⟨_,Z⟩,(az na).trans hz,_,kQ na,G5.wr rfl,F5.trans (Fr.write k4),h6⟩
 .rintro σ H' ⟨_,hz,H5,rfl,G5,F5,h5⟩;have WZ:=rL (λp:Pt=>{ p with row:=p.row++[0] }) (λp:Pt=>p.nm) (λ_=>rfl) st.ah st.ah.length;have e5:cZ ({ st with own:=st.own++[o],bU:=st.bU++[0],bK:=st.bK++[0],ah:=(st.ah.take st.ah.length).map (λp:Pt=>{ p with row:=p.row++[0] })++st.ah.drop st.ah.length }:HS).ah A.qs=cZ st.ah A.qs:=pS WZ;have h5':=h5.fj;rw[e5]at h5';refine⟨hz,?_⟩;rw[pP,yX h5'];have es:({ st with own:=st.own++[o],bU:=st.bU++[0],bK:=st.bK++[0],ah:=(st.ah.take st.ah.length).map (λp:Pt=>{ p with row:=p.row++[0] })++st.ah.drop st.ah.length }:HS)=gI st o:=by unfold gI;rw[cM,JB,sJ]
  rw[es]at h5;exact q ρ A H5 ⟨G5,h5,FH hh.wf hn hl⟩ rfl F5
abbrev vV:Stmt:=inClass (top 21) 2
abbrev sU:List Str:=["self","part","owner","worth","weight"]
abbrev NF:List Str:=sU.append ["place","tops"]
theorem vW:aP NF sU (aC vV):=di
theorem LZ{T:TC}(F:ja K T.hold "load" "Hold.load" vV f fd)(X:Txt K T)(jy:Mn P w K mg base 3 T.hold "check_new" jx (D4 T))(bY:Mn P w K mg base 1 T.hold "place_of" eO (u_ T))(gc:Mn P w K mg base 1 T.hold "beyond_common" gW (QX T K))(lI:Mn P w K mg base 1 T.hold "stow" nY (K0 T))(yu:Cn P w K mg base 1 "Part" T.part ["self","name","owner","worth","weight","scale","row"] (FF T K))(bV:mg "len"=none):Mn P w K mg base 4 T.hold "load" sU (SN T):=by
 refine F.oA vW λcdv A outer s H vs Q E hr h=>?_
 obtain⟨⟨n,ρ,A,st,x,o,wo,we,rfl,hh,hx,hn,ho,h4,h5,h6,h7,q⟩⟩:=h
 refine⟨_,(@c5.h _ _ _ (aj (cg (bZ jy hr (qv 0) (af (qv 1) aq)))
  (aj (aQ (i:=5) vW.nd (bZ bY hr (qv 0) (af (qv 2) aq)))
  (aj (cX (jF (bW.pt (BC (aU sP (qv 3) ai (bq _)) (yk (aU sP (qv 4) ai (bq _)))))) (au gK) bP)
  (aj (aQ (i:=6) vW.nd (aG R5 (ie (af ai aq)) (bh w6 (by rfl) bV eY (af (aK K (qv 0)) aq))))
  (aj (iT (aK K (aK K (qv 0))) (iU (qv 6) (qv 5) set_list))
  (au (cg (bZ lI hr (qv 0) (af (WX yu hr (af (qv 1) (af (qv 2) (af (qv 3) (af (qv 4) (af ai (af (bZ gc hr (qv 0) (af (qv 6) aq)) aq))))))) aq)))))))))),?_⟩
 refine⟨_,Z,A.a,A.dx,_,Z,hh.h.oa,Z,_,Z,⟨⟨n,ρ,A,st,x,Z,hh.h,hx,hn,λH1 g1=>?_⟩⟩⟩
 have g_:=hh.mono g1
 have F1:Fr n ρ H ρ H1:=Fr.of_same g1
 clear hh
 refine⟨_,Z,A.a,A.dx,_,Z,g_.h.oa,Z,_,Z,⟨⟨n,ρ,A,st,o,Z,g_.h,ho,?_⟩⟩⟩
 refine⟨false,⟨_,Z,_,_,Z,Z,_,Z,cI (λc=>absurd (dW c) (by omega)) λ_=>⟨_,Z,_,_,Z,Z,_,Z,dB (by omega),Z⟩⟩,aW ?_⟩
 refine⟨(iM 1),λp0 hp0=>?_⟩
 have g2:=aI hp0 (.lst [.int 0])
 have mO:=g_.mono g2
 have F2:=F1.trans (Fr.of_same (ρ:=ρ) g2)
 have V6:upd H1 p0 (.lst [.int 0]) p0=some (.lst [.int 0]):=ak
 generalize upd H1 p0 (.lst [.int 0])=H2 at *
 clear g_ F1
 have Cf:=qm st.own 0
 have fh:=mO.wf.kP
 refine⟨_,Z,A.a,T.hold,A.dx,_,_,Z,mO.h.oa,X.cH,X.hpl,Z,A.pl,_,Z,mO.h.jb,p0,_,_,Z,Z,V6,by omega,by rw[Cf];omega,by rw[Cf];show 1*_<=_;rw[t7,Nat.one_mul];exact small (by omega),λp1 hp1=>?_⟩
 rw[Cf,t7,show(List.replicate st.own.length [V.int 0]).flatten=(List.replicate st.own.length (0:Int)).map V.int from by rw[List.map_replicate,List.flatten_replicate_singleton]]
 have g3:=aI hp1 (.lst ((List.replicate st.own.length (0:Int)).map V.int))
 have kI:=mO.mono g3
 have F3:=F2.trans (Fr.of_same (ρ:=ρ) g3)
 have n1:H p1=none:=(g1.trans g2).free hp1
 have c1:ρ p1=none:=mO.g.none hp1
 have AZ:upd H2 p1 (.lst ((List.replicate st.own.length (0:Int)).map V.int)) p1=_:=ak
 generalize upd H2 p1 (.lst ((List.replicate st.own.length (0:Int)).map V.int))=H3 at *
 have hi:=JT.mpr ho
 refine⟨_,Z,A.a,T.hold,A.dx,_,_,Z,kI.h.oa,X.cH,X.vA,Z,A.bt,T.bot,A.db,_,_,Z,kI.h.jq,X.cB,X.KS,Z,_,Z,_,Z,p1,_,_,st.own.idxOf o,Z,Z,AZ,by rw[aE,iW];exact lG hi,?_⟩
 rw[show((List.replicate st.own.length (0:Int)).map V.int).set (st.own.idxOf o) (V.int st.prod)=((List.replicate st.own.length (0:Int)).set (st.own.idxOf o) st.prod).map V.int from by rw[jI]]
 have qF:=kI.D5 (o:=.lst (((List.replicate st.own.length (0:Int)).set (st.own.idxOf o) st.prod).map V.int)) c1 AZ rfl rfl
 have F4:=F3.new (o:=.lst (((List.replicate st.own.length (0:Int)).set (st.own.idxOf o) st.prod).map V.int)) n1
 have V7:upd H3 p1 (.lst (((List.replicate st.own.length (0:Int)).set (st.own.idxOf o) st.prod).map V.int)) p1=_:=ak
 have s4:aN H (upd H3 p1 (.lst (((List.replicate st.own.length (0:Int)).set (st.own.idxOf o) st.prod).map V.int))):=((g1.trans g2).trans g3).cA n1 _
 generalize upd H3 p1 (.lst (((List.replicate st.own.length (0:Int)).set (st.own.idxOf o) st.prod).map V.int))=H4 at *
 clear mO kI F2 F3
 refine⟨_,Z,A.a,A.dx,_,Z,qF.h.oa,Z,_,Z,_,Z,_,Z,_,Z,_,Z,A.a,A.dx,_,Z,qF.h.oa,Z,_,Z,⟨⟨n,ρ,A,st,p1,_,Z,qF.h,aD.of V7,by rw[eX,iW,qF.wf.f7],by rw[eX,iW];omega,λr H5 g5 hr5 V8=>?_⟩⟩⟩
 intro y dy hy hdy hyd
 have PF:upd (upd H5 dy (.own y)) y (.ins T.part dy []) r=some (.lst ((lO st ((List.replicate st.own.length 0).set (st.own.idxOf o) st.prod)).map V.int)):=by rw[az (aJ V8 hy),az (aJ V8 hdy)];exact V8
 refine⟨⟨y,dy,r,⟨x,o,wo,we,1,lO st ((List.replicate st.own.length 0).set (st.own.idxOf o) st.prod)⟩,Z,ak,aD.of PF,λrr H6 hrr k6 hy6 V9=>⟨Z,?_⟩⟩⟩
 have L0:H5 rr=none:=by
  have e1:rr≠y:=λe=>by rw[e,ak]at hrr;cases hrr
  have e2:rr≠dy:=λe=>by rw[e,az hyd,ak]at hrr;cases hrr
  rw[az e1,az e2]at hrr;exact hrr
 have g6:aN H5 H6:=λb u e=>k6 b u (by rw[az (aJ e hy),az (aJ e hdy)];exact e) (aJ e hy)
 have Ib:=qF.mono g5
 have tT:=Ib.mono g6
 have F6:=F4.trans (Fr.of_same (ρ:=ρ) (g5.trans g6))
 exact⟨⟨n,ρ,A,st,(y,dy,rr),_,Z,tT,hy6,V9,Ib.g.none hy,Ib.g.none L0,hn,O4 qF.wf hn h6 h7 ho h4 h5,λρ' A' H' a1 a2 a3=>q ρ' A' H' a1 a2 (a3.fr F6 ((s4.trans g5).free hy) ((s4.trans g5).free L0))⟩⟩
abbrev vX:Stmt:=inClass (top 21) 0
abbrev xT:List Str:=["self"]
abbrev NG:List Str:=xT
theorem L1:aP NG xT (aC vX):=di
theorem L3{T:TC}(F:Ho K mg "Hold" T.hold "Hold.__init__" vX f fd)(X:Txt K T)(CQ:Cn P w K mg base 1 "Bottom" T.bot ["self"] (O1 T)):Cn P w K mg base 3 "Hold" T.hold xT (O2 T):=by
 refine F.oA L1 λcdv A outer s H vs Q E hr h=>?_;obtain⟨⟨p,dx,ρ,n,rfl,hp,g,hρ,q⟩⟩:=h;refine⟨_,(@c5.h _ _ _ (aj (dX K (qv 0) rS)
  (aj (dX K (qv 0) rS)
  (aj (dX K (qv 0) (ie aq))
  (aj (dX K (qv 0) rS)
  (aj (dX K (qv 0) (Tu CQ hr))
  (aj (dX K (qv 0) (ie aq))
  (au (dX K (qv 0) (ie aq)))))))))),?_⟩
 have M0:jO p H ρ H ρ [] :=⟨(λ_ m=>absurd m (by simp)),λb o e _=>⟨e,Z⟩,g,_,hp⟩
 intro pl hpl;have M1:=(M0.new (o:=.dK []) (c:=(n,1,⟨#[]⟩)) hpl rfl)
 refine⟨_,Z,p,T.hold,dx,_,Z,by rw[az (aJ hp hpl)];exact hp,X.cH,X.hpl,by show 0<1000;decide,?_⟩;have M2:=M1.wr (u:=.ins T.hold dx (aZ "places" (.ref pl) [])) rfl;have hp2:upd (upd H pl (.dK [])) p (.ins T.hold dx (aZ "places" (.ref pl) [])) p=_:=ak;generalize upd (upd H pl (.dK [])) p (.ins T.hold dx (aZ "places" (.ref pl) []))=H2 at *;clear M0 M1;intro ab hab;have M3:=(M2.new (o:=.dK []) (c:=(n,2,⟨#[]⟩)) hab rfl)
 refine⟨_,Z,p,T.hold,dx,_,Z,by rw[az (aJ hp2 hab)];exact hp2,X.cH,X.hab,by show 1<1000;decide,?_⟩;have M4:=M3.wr (u:=.ins T.hold dx (aZ "aboard" (.ref ab) (aZ "places" (.ref pl) []))) rfl;have hp4:upd (upd H2 ab (.dK [])) p (.ins T.hold dx (aZ "aboard" (.ref ab) (aZ "places" (.ref pl) []))) p=_:=ak;generalize upd (upd H2 ab (.dK [])) p (.ins T.hold dx (aZ "aboard" (.ref ab) (aZ "places" (.ref pl) [])))=H4 at *;clear M2 M3;refine⟨(iM 0),λas has=>?_⟩;have M5:=(M4.new (o:=.lst []) (c:=(n,3,⟨#[]⟩)) has rfl)
 refine⟨_,Z,p,T.hold,dx,_,Z,by rw[az (aJ hp4 has)];exact hp4,X.cH,X.has,by show 2<1000;decide,?_⟩;have M6:=M5.wr (u:=.ins T.hold dx (aZ "ashore" (.ref as) (aZ "aboard" (.ref ab) (aZ "places" (.ref pl) [])))) rfl;have W0:upd (upd H4 as (.lst [])) p (.ins T.hold dx (aZ "ashore" (.ref as) (aZ "aboard" (.ref ab) (aZ "places" (.ref pl) [])))) p=_:=ak;generalize upd (upd H4 as (.lst [])) p (.ins T.hold dx (aZ "ashore" (.ref as) (aZ "aboard" (.ref ab) (aZ "places" (.ref pl) []))))=H6 at *;clear M4 M5;intro nm hnm;have M7:=(M6.new (o:=.dK []) (c:=(n,4,⟨#[]⟩)) hnm rfl)
 refine⟨_,Z,p,T.hold,dx,_,Z,by rw[az (aJ W0 hnm)];exact W0,X.cH,X.hnm,by show 3<1000;decide,?_⟩;have M8:=M7.wr (u:=.ins T.hold dx (aZ "names" (.ref nm) (aZ "ashore" (.ref as) (aZ "aboard" (.ref ab) (aZ "places" (.ref pl) []))))) rfl;have hp8:upd (upd H6 nm (.dK [])) p (.ins T.hold dx (aZ "names" (.ref nm) (aZ "ashore" (.ref as) (aZ "aboard" (.ref ab) (aZ "places" (.ref pl) []))))) p=_:=ak;generalize upd (upd H6 nm (.dK [])) p (.ins T.hold dx (aZ "names" (.ref nm) (aZ "ashore" (.ref as) (aZ "aboard" (.ref ab) (aZ "places" (.ref pl) [])))))=H8 at *;clear M6 M7;intro bt db vA hdb hne;refine⟨⟨bt,db,Z,ak,λsp kn H9 vh hkn hsk k9 Ic hs9 hk9=>⟨Z,?_⟩⟩⟩;have s9:aN H8 H9:=λb o e=>k9 b o (by rw[az (aJ e vA),az (aJ e hdb)];exact e) (aJ e vA);have fr:∀{c:Addr},upd (upd H8 db (.own bt)) bt (.ins T.bot db []) c=none->H8 c=none:=λ{c} e=>by
  have e1:c≠bt:=λz=>by rw[z,ak]at e;cases e
  have e2:c≠db:=λz=>by rw[z,az hne,ak]at e;cases e
  rw[az e1,az e2]at e;exact e
 have abq:=fr vh;have abr:=fr hkn;have M9:=M8.same s9;have M10:=M9.add (c:=(n,5,⟨#[]⟩)) Ic rfl M8 vA (λe he=>aJ (M8.m e he).1 vA);have M11:=M10.add (c:=(n,8,⟨#[]⟩)) hs9 rfl M8 abq (λe he=>by
  rcases eZ.mp he with rfl|he
  .exact jC Ic hs9 (by intro z;cases z)
  .exact aJ (M8.m e he).1 abq)
 have M12:=M11.add (c:=(n,9,⟨#[]⟩)) hk9 rfl M8 abr (λe he=>by
  rcases eZ.mp he with rfl|he
  .exact jC hs9 hk9 (by intro z;cases z)
  rcases eZ.mp he with rfl|he
  .exact jC Ic hk9 (by intro z;cases z)
  .exact aJ (M8.m e he).1 abr)
 have hp9:=s9 _ _ hp8;refine⟨_,Z,p,T.hold,dx,_,Z,hp9,X.cH,X.vA,by show 4<1000;decide,?_⟩;have M13:=M12.wr (u:=.ins T.hold dx (aZ "bottom" (.ref bt) (aZ "names" (.ref nm) (aZ "ashore" (.ref as) (aZ "aboard" (.ref ab) (aZ "places" (.ref pl) [])))))) rfl;have AZ:upd H9 p (.ins T.hold dx (aZ "bottom" (.ref bt) (aZ "names" (.ref nm) (aZ "ashore" (.ref as) (aZ "aboard" (.ref ab) (aZ "places" (.ref pl) [])))))) p=_:=ak;generalize upd H9 p (.ins T.hold dx (aZ "bottom" (.ref bt) (aZ "names" (.ref nm) (aZ "ashore" (.ref as) (aZ "aboard" (.ref ab) (aZ "places" (.ref pl) []))))))=H13 at *;clear M8 M9 M10 M11 M12;refine⟨(iM 0),λcm Al=>?_⟩;have M14:=(M13.new (o:=.lst []) (c:=(n,6,⟨#[]⟩)) Al rfl)
 refine⟨_,Z,p,T.hold,dx,_,Z,by rw[az (aJ AZ Al)];exact AZ,X.cH,X.Al,by show 5<1000;decide,?_⟩;have M15:=M14.wr (u:=.ins T.hold dx (aZ "common" (.ref cm) (aZ "bottom" (.ref bt) (aZ "names" (.ref nm) (aZ "ashore" (.ref as) (aZ "aboard" (.ref ab) (aZ "places" (.ref pl) []))))))) rfl;have abu:upd (upd H13 cm (.lst [])) p (.ins T.hold dx (aZ "common" (.ref cm) (aZ "bottom" (.ref bt) (aZ "names" (.ref nm) (aZ "ashore" (.ref as) (aZ "aboard" (.ref ab) (aZ "places" (.ref pl) []))))))) p=_:=ak;generalize upd (upd H13 cm (.lst [])) p (.ins T.hold dx (aZ "common" (.ref cm) (aZ "bottom" (.ref bt) (aZ "names" (.ref nm) (aZ "ashore" (.ref as) (aZ "aboard" (.ref ab) (aZ "places" (.ref pl) [])))))))=H15 at *;clear M13 M14;refine⟨(iM 0),λpu Am=>?_⟩;have M16:=(M15.new (o:=.lst []) (c:=(n,7,⟨#[]⟩)) Am rfl)
 refine⟨_,Z,p,T.hold,dx,_,Z,by rw[az (aJ abu Am)];exact abu,X.cH,X.Am,by show 6<1000;decide,?_⟩;have M17:=M16.wr (u:=.ins T.hold dx (aZ "purses" (.ref pu) (aZ "common" (.ref cm) (aZ "bottom" (.ref bt) (aZ "names" (.ref nm) (aZ "ashore" (.ref as) (aZ "aboard" (.ref ab) (aZ "places" (.ref pl) [])))))))) rfl;have abw:upd (upd H15 pu (.lst [])) p (.ins T.hold dx (aZ "purses" (.ref pu) (aZ "common" (.ref cm) (aZ "bottom" (.ref bt) (aZ "names" (.ref nm) (aZ "ashore" (.ref as) (aZ "aboard" (.ref ab) (aZ "places" (.ref pl) [])))))))) p=_:=ak;generalize upd (upd H15 pu (.lst [])) p (.ins T.hold dx (aZ "purses" (.ref pu) (aZ "common" (.ref cm) (aZ "bottom" (.ref bt) (aZ "names" (.ref nm) (aZ "ashore" (.ref as) (aZ "aboard" (.ref ab) (aZ "places" (.ref pl) []))))))))=H17 at *;clear M15 M16;have m:=M17.m;have AX:∀{a:Addr}{o:HO}{c:qg}{ρ2:fG},(H17 a=some o/\ρ2 a=some c/\a≠p)->H17 a=some o/\bO ρ2 p (n,0,⟨#[]⟩) a=some c:=λh=>⟨h.1,by rw[b7 h.2.2];exact h.2.1⟩
 have a1:=AX (m _ (.head _));have a2:=AX (m _ (.tail _ (.head _)));have a3:=AX (m _ (.tail _ (.tail _ (.head _))));have a4:=AX (m _ (.tail _ (.tail _ (.tail _ (.head _)))));have a5:=AX (m _ (.tail _ (.tail _ (.tail _ (.tail _ (.head _))))));have a6:=AX (m _ (.tail _ (.tail _ (.tail _ (.tail _ (.tail _ (.head _)))))));have a7:=AX (m _ (.tail _ (.tail _ (.tail _ (.tail _ (.tail _ (.tail _ (.head _))))))));have a8:=AX (m _ (.tail _ (.tail _ (.tail _ (.tail _ (.tail _ (.tail _ (.tail _ (.head _)))))))));have a9:=AX (m _ (.tail _ (.tail _ (.tail _ (.tail _ (.tail _ (.tail _ (.tail _ (.tail _ (.head _))))))))));refine q (bO _ p (n,0,⟨#[]⟩)) ⟨p,dx,pl,ab,as,nm,bt,db,cm,pu,sp,kn,[]⟩ H17 rfl ⟨M17.g.color abw rfl,⟨abw,cY,a9.1,a9.2,a8.1,a8.2,⟨[],a7.1,.nil⟩,a7.2,a6.1,a6.2,a5.1,a5.2,a2.1,a2.2,a1.1,a1.2,a4.1,a4.2,⟨[],a3.1,(λx hx=>absurd hx (by simp)),aL _,wR⟩,a3.2,Z,λi x y ex=>by simp[hs0]at ex⟩,wf0⟩ (λb o e hb=>?_);obtain⟨x,y⟩:=M17.k b o e hb;exact⟨x,by rw[b7 hb];exact y⟩
abbrev pH:Stmt:=inClass (top 21) 27
abbrev lZ:List Str:=["self","amounts"]
abbrev Ew:List Str:=lZ.append ["lost","sums","name","amount","part","many"]
theorem fU:aP Ew lZ (aC pH):=di
theorem CS{T:TC}(F:ja K T.hold "given_up" "Hold.given_up" pH f fd)(X:Txt K T)(eU:mg "sum"=none)(i8:mg "zip"=none):Mn P w K mg base 1 T.hold "given_up" lZ (O8 T):=by
 refine F.oA fU λcdv A outer s H vs Q E hr h=>?_;obtain⟨⟨n,ρ,A,st,d,rs,rfl,h,wf,hd,cd,hle,vP,q⟩⟩:=h;refine⟨_,(@c5.h _ _ _ (aj (aQ (i:=2) fU.nd (bh (Hl rfl) (by rfl) eU tZ (af (FP (qv 1)) aq)))
  (aj (pU (i:=3) ["common","lost"] [none,some 2] fU.nd rfl rfl rfl (c_ K (aK K (qv 0))) (λ_ _ _ _=>(aS (i:=0) (show List.Nodup (["common","lost"] :List Str)from by decide +kernel))) (λ_ _ _ _=>(aG eW (qv 1) (qv 0))) rfl (by rfl) (by rfl))
  (aj (yl (fq fM rfl (CH (qv 1)) (iL K (n:=2) rfl (cS (aS (i:=4) fU.nd) (cS (aS (i:=5) fU.nd) iK))) (aj (aQ (i:=6) fU.nd (bR (bX hr) (aK K (qv 0)) (qv 4)))
  (aj (aQ (i:=7) fU.nd (aG eW (qv 5) (aK K (qv 6))))
  (au (pU (i:=3) ["old","own","many"] [none,none,some 7] fU.nd rfl rfl rfl (rR K (by rfl) i8 (af (qv 3) (af (aK K (qv 6)) aq))) (λ_ _ _ _=>(iL K (n:=2) rfl (cS (aS (i:=0) (show List.Nodup (["old","own","many"] :List Str)from by decide +kernel)) (cS (aS (i:=1) (show List.Nodup (["old","own","many"] :List Str)from by decide +kernel)) iK)))) (λ_ _ _ _=>(aG cE (qv 0) (aG eW (qv 2) (qv 1)))) rfl (by rfl) (by rfl)))))))
  (au (bw (qv 3))))))),?_⟩
 have hcl:st.bU.length<=100:=by rw[wf.f7];exact wf.kP
 have zl:Jm.Sz 1100 (bJ rs):=by have:=Jm.Se (n:=60) (ws:=rs.map (·.2)) (λm hm=>by obtain⟨r,hr,rfl⟩:=aX.mp hm;exact(vP r hr).1);exact this.mono (by rw[aE];omega)
 have zc:∀c∈st.bU,Jm.Sz 8000 c:=λc hc=>Jm.Sz.k_ (by have:=wf.o6 c hc;have:=wf.fH;omega) (wf.o6 c hc).2 wf.big;refine⟨_,Z,d,_,Z,.inl hd,λv hv=>⟨v,d,_,rs.map (·.2),Z,ak,.inl (by rw[az (aJ hd hv)];exact hd),by unfold iE;rw[fu,fu];rfl,?_⟩⟩;have g1:=aI hv (lW v d);have hd1:=g1 _ _ hd;have h1:=h.mono g1;generalize upd H v (lW v d)=H1 at *;refine⟨_,Z,A.a,T.hold,A.dx,_,_,Z,h1.oa,X.cH,X.Al,Z,A.cm,Z,⟨_,aD.of h1.jD⟩,λl0 fV=>?_⟩;refine iD (J:=uK K A.cm) (n:=(st.bU.map V.int).length) 0 (λi o H'=>aN H1 H'/\o=((st.bU.take i).map λc=>bJ rs*c).map V.int) (by rw[aE];omega) ⟨aI fV _,Z⟩ (λi o H' hi _ hp=>⟨_,_,aD.of (hp.1 _ _ h1.jD),a_ hi⟩) (λo H' _ hp=>⟨_,aD.of (hp.1 _ _ h1.jD),aL _⟩) ?_ ?_
 .rintro i y o H2 H3 hi fh ha ⟨g,e⟩ ⟨rfl,hy⟩;obtain⟨c,rfl,ec⟩:=gO (hy _ (aD.of (g _ _ h1.jD)));refine⟨_,Z,_,Z,_,_,Z,Z,d9 zl (zc c (aY ec)),ha,g.cA fV _,?_⟩;subst e;rw[take_snoc ec,bL,bL];rfl
 rintro o H2 fh ha ⟨g2,e⟩;rw[aE,cM]at e;subst e;have Ie:=g1.trans g2;have hd2:=g2 _ _ hd1;have h2:=h1.mono g2;have hn0:H l0=none:=g1.free fV;refine⟨d,_,hd2,λob=>⟨_,Z,d,ob,_,Z,ak,?_⟩⟩;have al:=yY rs;refine vv (n:=(iE rs).length) (λi σ H'=>aN (upd H2 d (.gh ob (.dK (iE rs)))) H'/\∃l s4 s5 s6 s7,σ=[some (.ref A.a),some (.ref d),some (.int (bJ rs)),some (.ref l),s4,s5,s6,s7]/\H l=none/\H' l=some (.lst (((rs.take i).foldl (j0 st) (st.bU.map λc=>bJ rs*c)).map V.int))/\((rs.take i).foldl (j0 st) (st.bU.map λc=>bJ rs*c)).length=st.bU.length)
  ⟨aN.refl _,l0,_,_,_,_,Z,hn0,fJ hd2 ha (λk z=>by cases z),by rw[List.take_zero,List.foldl_nil,aE]⟩ (λi σ H' hi hp=>⟨hp.1 _ _ ak,hi⟩) (λσ H' hp=>⟨hp.1 _ _ ak,aL _⟩) ?_ ?_
 .rintro i x σ H3 H4 hi ⟨g,l,s4,s5,s6,s7,rfl,DO,hl,hsl⟩ ⟨pp,kv,hpp,hkv,rfl,rfl⟩;unfold iE at hkv;rw[bQ]at hkv;obtain⟨r,er,rfl⟩:=mj.mp hkv;have hrm:=aY er;obtain⟨zr,p,fk,Ex⟩:=vP r hrm;obtain⟨ip,zT,T9⟩:=oV fk;have ep:st.ah[ip]?=some p:=by rw[a_ zT,T9]
  have epg:cL st r.1=p:=by rw[<-Ex];exact O7 wf.fF ep
  have g4:=aI hpp (.tup [.str r.1,.int r.2]);have gg:=g.trans g4;have h2z:∀{b:Addr}{u:HO},H2 b=some u->(∀k,u ≠ .dK k)->upd H3 pp (.tup [.str r.1,.int r.2]) b=some u:=λe k=>gg _ _ (fJ hd2 e k);have nab:A.ab≠d:=(Ca cd h.gQ).symm;obtain⟨qq,eq,k1,k2,_,_⟩:=h2.find ep;have hab:upd H3 pp (.tup [.str r.1,.int r.2]) A.ab=some (.dK (cZ st.ah A.qs)):=gg _ _ (by rw[az nab];exact h2.fj);have hv:=u9 wf.fF ep eq;have hq1:=h2z k1 (λk z=>by cases z);have hq2:=h2z k2 (λk z=>by cases z);have L4:upd H3 pp (.tup [.str r.1,.int r.2]) pp=some (.tup [.str r.1,.int r.2]):=ak;have Ig:=g4 _ _ hl;have hno:∀{b:Addr},upd H3 pp (.tup [.str r.1,.int r.2]) b=none->H b=none:=λ{b} e=>by have e1:=rK hd2 (gg.free e);exact Ie.free e1
  have T_:upd H3 pp (.tup [.str r.1,.int r.2]) A.a=some (.ins T.hold A.dx (jZ A)):=h2z h2.oa (λk z=>by cases z);show Cq K 2 _ _ _ (upd H3 pp (.tup [.str r.1,.int r.2])) _;generalize upd H3 pp (.tup [.str r.1,.int r.2])=H4 at *;refine⟨pp,_,Z,dU.of L4,Z,_,_,Z,_,_,Z,Z,?_⟩;refine⟨_,Z,A.a,T.hold,A.dx,_,_,Z,T_,X.cH,X.hab,Z,_,Z,A.ab,_,Z,by rw[<-Ex];exact hv▸cJ.k (k:=Sum.inr p.nm) hab,?_⟩;have zs:Jm.Sz 8000 p.sc:=Jm.Sz.k_ (by have:=wf.qi p fk;have:=wf.fH;omega) (wf.qi p fk).2 wf.big;refine⟨_,Z,_,Z,qq.1,T.part,qq.2.1,_,_,Z,hq1,X.cP,X.Hq,Z,_,_,Z,Z,d9 zr zs,?_⟩;have erl:p.row.length=st.bU.length:=by rw[wf.rows p fk,wf.f7]
  generalize eS:(rs.take i).foldl (j0 st) (st.bU.map λc=>bJ rs*c)=S at *;refine⟨_,Z,_,Z,qq.1,T.part,qq.2.1,_,_,Z,hq1,X.cP,X.KR,Z,_,_,_,_,_,_,Z,.lst (aD.of Ig),.lst (aD.of hq2),λacc hacc=>?_⟩;refine Ai (K:=K) (n:=S.length) [0,1] (λj out H5=>aN H4 H5/\out=(List.zipWith (λold own=>old+(r.2*p.sc)*own) (S.take j) (p.row.take j)).map V.int) (by decide) (by omega) ⟨aI hacc _,Z⟩ (λj out H5 hj _ hp=>⟨aD.of (hp.1 _ _ Ig),aD.of (hp.1 _ _ hq2),by rw[aE];exact hj,by rw[aE];omega⟩)
   (λout H5 _ hp=>⟨aD.of (hp.1 _ _ Ig),aD.of (hp.1 _ _ hq2),.inl (by rw[aE];exact aL _)⟩) ?_ ?_
  .rintro j x out H5 H6 hj Gf ha2 ⟨g5,e5⟩ ⟨p2,x1,y1,hp2,rfl,rfl,e1,e2⟩;obtain⟨t,rfl,et⟩:=gO e1;obtain⟨c,rfl,ec⟩:=gO e2;have g6:=aI hp2 (.tup [.int t,.int c]);have zw:Jm.Sz 8000 c:=Jm.Sz.k_ (wf.nK p fk c (aY ec)).1 (wf.nK p fk c (aY ec)).2 wf.big;refine⟨p2,_,Z,dU.of ak,Z,_,Z,_,Z,_,Z,_,_,Z,Z,d9 (zr.mul zs) zw,_,_,Z,Z,g6 _ _ ha2,(g5.trans g6).cA hacc _,?_⟩;rw[mD _ et ec,e5,bL];rfl
  rintro out H5 Gf ha2 ⟨g5,e5⟩;rw[cM,hsl,<-erl,cM]at e5;have eN:(rs.take (i+1)).foldl (j0 st) (st.bU.map λc=>bJ rs*c)=List.zipWith (λold own=>old+(r.2*p.sc)*own) S p.row:=by rw[take_snoc er,Fj,eS];show j0 st S r=_;unfold j0;rw[epg]
  refine⟨gg.trans g5,acc,_,_,_,_,Z,hno hacc,?_,?_⟩
  .rw [eN,ha2,e5]
  .rw [eN,jX];omega
 rintro σ H3 ⟨g,l,s4,s5,s6,s7,rfl,DO,hl,hsl⟩;rw[al,cM]at hl;refine⟨g _ _ ak,_,Z,?_⟩;have nl:l≠d:=λe=>by rw[e,hd]at DO;cases DO
 exact q l _ (Ie.trans (vD hd2 g)) DO (by rw[az nl];exact hl)
abbrev rX:Stmt:=inClass (top 21) 23
abbrev lF:List Str:=["self","name","amount"]
abbrev IB:List Str:=lF.append ["part"]
theorem yv:aP IB lF (aC rX):=di
theorem Gg{T:TC}(F:ja K T.hold "lessen" "Hold.lessen" rX f fd)(X:Txt K T):Mn P w K mg base 1 T.hold "lessen" lF (K9 T):=by
 refine F.oA yv λcdv A outer s H vs Q E hr h=>?_;obtain⟨⟨n,ρ,A,st,r,rfl,hh,⟨p,fk,Ex,hle⟩,wf',q⟩⟩:=h;have h:=hh.h;have nd:=hh.wf.fF;refine⟨_,(@c5.h _ _ _ (aj (aQ (i:=3) yv.nd (bR (bX hr) (aK K (qv 0)) (qv 1)))
  (aj (qy K (qv 3) (qv 2) Kg)
  (au (ig (aU dJ (aK K (qv 3)) ai (bq _)) (au (Pj (aK K (qv 0)) (qv 1))) bP))))),?_⟩
 obtain⟨ip,zT,T9⟩:=oV fk;have ep:st.ah[ip]?=some p:=by rw[a_ zT,T9]
 obtain⟨qq,eq,k1,k2,k3,k4⟩:=h.find ep;have hv:=u9 nd ep eq;refine⟨_,Z,A.a,T.hold,A.dx,_,_,Z,h.oa,X.cH,X.hab,Z,_,Z,A.ab,_,Z,by rw[<-Ex];exact hv▸cJ.k (k:=Sum.inr p.nm) h.fj,?_⟩;refine⟨_,Z,qq.1,T.part,qq.2.1,_,_,Z,k1,X.cP,X.xh,Z,_,Z,_,_,Z,Z,qq.2.1,_,k1,by show 6<1000;decide,?_⟩;have h1:=h.iR (p1:={ p with wo:=p.wo-r.2 }) hh.g ep eq rfl rfl nd;have g1:=hh.g.wr (a:=qq.1) (o:=.ins T.part qq.2.1 (dg { p with wo:=p.wo-r.2 } qq.2.2)) rfl;have F1:Fr n ρ H ρ (upd H qq.1 (.ins T.part qq.2.1 (dg { p with wo:=p.wo-r.2 } qq.2.2))):=Fr.write k3;show Z2 _ _ _ _ _ (upd H qq.1 (.ins T.part qq.2.1 (dg { p with wo:=p.wo-r.2 } qq.2.2)));have PJ:upd H qq.1 (.ins T.part qq.2.1 (dg { p with wo:=p.wo-r.2 } qq.2.2)) qq.1=some (.ins T.part qq.2.1 (dg { p with wo:=p.wo-r.2 } qq.2.2)):=ak;generalize upd H qq.1 (.ins T.part qq.2.1 (dg { p with wo:=p.wo-r.2 } qq.2.2))=H1 at *;have el:d7 st r={ st with ah:=if p.wo-r.2=0 then st.ah.eraseIdx ip else st.ah.set ip { p with wo:=p.wo-r.2 } }:=by unfold d7;rw[<-Ex,K_ nd (λx hx=>by have:=hh.wf.jE x hx;omega) ep]
 rw[el]at wf' q;refine⟨λσ' H'=>Q .cy H',?_,λ_ _ z=>z⟩;refine⟨_,Z,qq.1,T.part,qq.2.1,_,_,Z,PJ,X.cP,X.xh,Z,Z,_,Z,cI (λc=>?_) (λc=>?_)⟩
 .have c':p.wo-r.2=0:=V.int.inj (dW c);rw[ay c']at wf' q;have L5:((st.ah.set ip { p with wo:=p.wo-r.2 }).map (λx:Pt=>x.nm)).Nodup:=by rw[jI,show({ p with wo:=p.wo-r.2 }:Pt).nm=p.nm from rfl,mE (by rw[bQ,ep];rfl)];exact nd
  have ep1:(st.ah.set ip { p with wo:=p.wo-r.2 })[ip]?=some { p with wo:=p.wo-r.2 }:=h_ zT;have dk:=CA L5 h1.ql ep1;rw[List.eraseIdx_set_eq]at dk;have hv1:=u9 L5 ep1 eq;refine⟨_,Z,A.a,T.hold,A.dx,_,_,Z,h1.oa,X.cH,X.hab,Z,_,Z,A.ab,_,Sum.inr r.1,Z,h1.fj,Z,?_,?_⟩
  .rw [<-Ex];show(dY (cZ (st.ah.set ip { p with wo:=p.wo-r.2 }) A.qs) (Sum.inr p.nm)).isSome=true;rw[show dY (cZ (st.ah.set ip { p with wo:=p.wo-r.2 }) A.qs) (Sum.inr p.nm)=_ from hv1];rfl
  .show Q .cy (upd H1 A.ab (.dK (mZ (cZ (st.ah.set ip { p with wo:=p.wo-r.2 }) A.qs) (Sum.inr r.1))));rw[<-Ex,show mZ (cZ (st.ah.set ip { p with wo:=p.wo-r.2 }) A.qs) (Sum.inr p.nm)=_ from dk];have hi2:ip<A.qs.length:=by rw[h.ql];exact zT
   have h2:=h1.KQ g1 (st.ah.eraseIdx ip) (A.qs.eraseIdx ip) (by rw[P_ zT,P_ hi2,h.ql]) (λj x y ex ey=>by rw[<-List.eraseIdx_set_eq (l:=st.ah) (i:=ip) (a:={ p with wo:=p.wo-r.2 })]at ex;obtain⟨k,a1,a2⟩:=Aq ex ey;exact h1.opt k x y a1 a2)
   exact q ρ _ _ ⟨g1.wr rfl,h2,wf'⟩ rfl (F1.trans (Fr.write h1.gQ))
 .have c':¬ p.wo-r.2=0:=λe=>c (br (by rw[e]));rw[av c']at wf' q;exact q ρ A H1 ⟨g1,h1,wf'⟩ rfl F1
abbrev ux:Stmt:=inClass (top 21) 28
abbrev mP:List Str:=["self","kept","whole","added"]
abbrev L6:List Str:=mP.append ["scales","common","shared","part","scale"]
theorem jG:aP L6 mP (aC ux):=di
theorem IC{T:TC}(F:ja K T.hold "blend" "Hold.blend" ux f fd)(X:Txt K T)(qG:Dn P w K mg base 2 "factor_of_all" lY (SV K))(uy:Mn P w K mg base 1 T.bot "grow" oJ (SW T))(i8:mg "zip"=none):Mn P w K mg base 3 T.hold "blend" mP (FJ T K):=by
 refine F.oA jG λcdv A outer s H vs Q E hr h=>?_;obtain⟨⟨n,ρ,A,st,kept,whole,la,added,rfl,hh,hla,hal,k0,w0,kz,wz,haz,hpz,hsl,wf',q⟩⟩:=h;refine⟨_,(@c5.h _ _ _ (aj (yl (pU (i:=4) ["part","kept"] [none,some 1] jG.nd rfl rfl rfl (BB (aK K (qv 0))) (λ_ _ _ _=>(aS (i:=0) (show List.Nodup (["part","kept"] :List Str)from by decide +kernel))) (λ_ _ _ _=>(aG eW (aK K (qv 0)) (qv 1))) rfl (by rfl) (by rfl)))
  (aj (pU (i:=5) ["top","more","kept"] [none,none,some 1] jG.nd rfl rfl rfl (rR K (by rfl) i8 (af (aK K (qv 0)) (af (qv 3) aq))) (λ_ _ _ _=>(iL K (n:=2) rfl (cS (aS (i:=0) (show List.Nodup (["top","more","kept"] :List Str)from by decide +kernel)) (cS (aS (i:=1) (show List.Nodup (["top","more","kept"] :List Str)from by decide +kernel)) iK)))) (λ_ _ _ _=>(aG cE (aG eW (qv 0) (qv 2)) (qv 1))) rfl (by rfl) (by rfl))
  (aj (aQ (i:=6) jG.nd (bH qG hr (af (qv 2) (af (aG R4 (qv 4) (qv 5)) aq))))
  (aj (yl (fq fM rfl (rR K (by rfl) i8 (af (FP (aK K (qv 0))) (af (qv 4) aq))) (iL K (n:=2) rfl (cS (aS (i:=7) jG.nd) (cS (aS (i:=8) jG.nd) iK))) (au (dX K (qv 7) (aG ir (qv 8) (qv 6))))))
  (aj (dX K (qv 0) (iw ["top","shared"] [none,some 6] rfl (c_ K (qv 5)) (λ_ _ _ _=>(aS (i:=0) (show List.Nodup (["top","shared"] :List Str)from by decide +kernel))) (λ_ _ _ _=>(aG ir (qv 0) (qv 1))) rfl (by rfl)))
  (aj (dX K (qv 0) (iw ["purse","whole","shared"] [none,some 2,some 6] rfl (c_ K (aK K (qv 0))) (λ_ _ _ _=>(aS (i:=0) (show List.Nodup (["purse","whole","shared"] :List Str)from by decide +kernel))) (λ_ _ _ _=>(aG eW (qv 0) (aG ir (qv 1) (qv 2)))) rfl (by rfl)))
  (au (cg (bZ uy hr (aK K (qv 0)) (af (aG ir (qv 2) (qv 6)) aq))))))))))),?_⟩
 have hpl:=hh.wf.qh;have nd:=hh.wf.fF;have hcl:st.bU.length<=100:=by rw[hh.wf.f7];exact hh.wf.kP
 have zsc:∀p∈st.ah,Jm.Sz 8000 p.sc:=λp hp=>Jm.Sz.k_ (by have:=hh.wf.qi p hp;have:=hh.wf.fH;omega) (hh.wf.qi p hp).2 hh.wf.big;have zcm:∀c∈st.bU,Jm.Sz 8000 c:=λc hc=>Jm.Sz.k_ (by have:=hh.wf.o6 c hc;have:=hh.wf.fH;omega) (hh.wf.o6 c hc).2 hh.wf.big;have h:=hh.h;refine⟨A.ab,_,h.fj,λob=>?_⟩;refine⟨_,Z,A.a,T.hold,A.dx,_,_,Z,fJ h.fj h.oa (λk z=>by cases z),X.cH,X.hab,Z,A.ab,ob,_,Z,ak,λl1 hl1=>?_⟩;have el:=ye h.ql;refine iD (n:=st.ah.length) 0 (λi out H1=>aN (upd H A.ab (.gh ob (.dK (cZ st.ah A.qs)))) H1/\out=((st.ah.take i).map λp:Pt=>p.sc*kept).map V.int) (by omega) ⟨aI hl1 _,Z⟩ (λi out H1 hi _ hp=>⟨hp.1 _ _ ak,by rw[el];exact hi⟩) (λout H1 _ hp=>⟨hp.1 _ _ ak,by rw[el];exact aL _⟩) ?_ ?_
 .rintro i x out H1 H2 hi fh ha ⟨g,e⟩ ⟨rfl,kv,hkv,rfl⟩;have ep:=a_ hi;obtain⟨qq,eq,k1,k2,_⟩:=h.find ep;rw[yd ep eq]at hkv;cases hkv;have hq:=g _ _ (fJ h.fj k1 (λk z=>by cases z));refine⟨_,Z,qq.1,T.part,qq.2.1,_,_,Z,hq,X.cP,X.Hq,Z,_,Z,_,_,Z,Z,d9 (zsc _ (yF hi)) kz,ha,g.cA hl1 _,?_⟩;subst e;rw[take_snoc ep,bL,bL];rfl
 rintro o1 H1 ai9 ha1 ⟨g1,e1⟩;rw[cM]at e1;have hz1:=g1 _ _ (ak (H:=H) (a:=A.ab) (o:=.gh ob (.dK (cZ st.ah A.qs))));have na1:l1≠A.ab:=λe=>by rw[e,hz1]at ha1;cases ha1
 refine⟨hz1,?_⟩;have s2:aN H (upd H1 A.ab (.dK (cZ st.ah A.qs))):=vD h.fj g1;have ai_:H l1=none:=rK h.fj hl1;have ha2:upd H1 A.ab (.dK (cZ st.ah A.qs)) l1=some (.lst ((jf st kept).map V.int)):=by rw[az na1,ha1,e1];rfl
 generalize upd H1 A.ab (.dK (cZ st.ah A.qs))=H2 at *;clear g1 hz1 ha1 e1;have h2:=h.mono s2;have Ri:=s2.seq hla;refine⟨_,Z,A.a,T.hold,A.dx,_,_,Z,h2.oa,X.cH,X.Al,Z,_,Z,_,_,_,_,_,_,Z,.lst (aD.of h2.jD),.lst Ri,λl2 hl2=>?_⟩;refine Ai (K:=K) (n:=st.bU.length) [0,1] (λi out H3=>aN H2 H3/\out=(List.zipWith (λt m=>t*kept+m) (st.bU.take i) (added.take i)).map V.int) (by decide) (by omega) ⟨aI hl2 _,Z⟩ (λi out H3 hi _ hp=>⟨aD.of (hp.1 _ _ h2.jD),hp.1.seq Ri,by rw[aE];exact hi,by rw[aE];omega⟩)
  (λout H3 _ hp=>⟨aD.of (hp.1 _ _ h2.jD),hp.1.seq Ri,.inl (by rw[aE];exact aL _)⟩) ?_ ?_
 .rintro i x out H3 H4 hi fh ha ⟨g,e⟩ ⟨p,x1,y1,hp,rfl,rfl,e1,e2⟩;obtain⟨t,rfl,et⟩:=gO e1;obtain⟨c,rfl,ec⟩:=gO e2;have g1:=aI hp (.tup [.int t,.int c]);refine⟨p,_,Z,dU.of ak,Z,_,Z,_,Z,_,_,Z,Z,d9 (zcm t (aY et)) kz,_,Z,_,_,Z,Z,g1 _ _ ha,(g.trans g1).cA hl2 _,?_⟩;rw[mD _ et ec,e,bL];rfl
 rintro o2 H3 Gf L7 ⟨g3,e3⟩;rw[cM,<-hal,cM]at e3;have ec3:o2=(gE st kept added).map V.int:=e3;subst ec3;have s3:=s2.trans g3;have h3:=h.mono s3;have V_:=g3 _ _ ha2;have aja:H l2=none:=s2.free hl2;have n12:l1≠l2:=λe=>by rw[e,hl2]at ha2;cases ha2
 clear e3 h2 Ri g3 ha2 s2;have lsc:(jf st kept).length=st.ah.length:=by unfold jf;rw[aE]
 have lcm:(gE st kept added).length=st.bU.length:=by unfold gE;rw[jX,hal,yH]
 refine⟨_,Z,_,Z,_,Z,l1,l2,_,_,Z,Z,V_,L7,by rw[aE,aE,lsc,lcm];exact fZ (Nat.add_le_add hpl hcl) (by rw[lT];decide),λp3 hp3=>?_⟩;rw[<-bL];have g4:=aI hp3 (.lst ((jf st kept++gE st kept added).map V.int));refine⟨⟨whole,p3,_,Z,aD.of ak,by omega,?_,?_⟩⟩
 .intro t ht;rcases dI.mp ht with z|z
  .unfold jf at z;obtain⟨p,hp,rfl⟩:=aX.mp z;exact j9 (by have:=hh.wf.qi p hp;omega) (by omega)
  .obtain ⟨c,hc,m,hm,rfl⟩:=vE (show t∈List.zipWith _ st.bU added from z);have a1:=j9 (hh.wf.o6 c hc).1 (by omega:0<=kept);have a2:=(haz m hm).1;omega
 have s4:=s3.trans g4;have h4:=h.mono s4;have G4:=hh.g.same s4;have F4:Fr n ρ H ρ (upd H3 p3 (.lst ((jf st kept++gE st kept added).map V.int))):=Fr.of_same s4;have b1:=g4 _ _ V_;have b2:=g4 _ _ L7;generalize upd H3 p3 (.lst ((jf st kept++gE st kept added).map V.int))=H4 at *;clear V_ L7 s3 h3 g4;obtain⟨sd,W2⟩:∃sd,sd=b_ st kept whole added:=⟨_,rfl⟩
 rw[show qo whole (jf st kept++gE st kept added)=sd from W2.symm];have sp:0<sd:=by rw[W2];exact As _ _ w0
 have Ti:sd∣whole:=by rw[W2];exact(Ar _ _).1
 have sz:Jm.Sz 60 sd:=wz.dvd w0 (by omega) Ti;have wq:0<whole / sd:=Int.ediv_pos_of_pos_of_dvd w0 (by omega) Ti;have wqz:Jm.Sz 60 (whole / sd):=wz.ediv sp;have W3:∀{i:Int},Br i sd:=λ{i}=>vm sp (sz.mono (by decide));refine⟨A.ab,_,h4.fj,λUa=>?_⟩;refine⟨_,Z,A.a,T.hold,A.dx,_,_,Z,fJ h4.fj h4.oa (λk z=>by cases z),X.cH,X.hab,Z,A.ab,_,Z,.inr ⟨Ua,ak⟩,λv hv=>?_⟩;have nva:v≠A.ab:=λe=>by rw[e,ak]at hv;cases hv
 have W4:H4 v=none:=rK h4.fj hv;have g5:=aI W4 (lW v A.ab);have hv5:upd H4 v (lW v A.ab) v=some (lW v A.ab):=ak;rw[kQ (cO nva)];have h5:=h4.mono g5;have G5:=G4.same g5;have F5:=F4.trans (Fr.of_same (ρ:=ρ) g5);have s5:=s4.trans g5;have c1:=g5 _ _ b1;have c2:=g5 _ _ b2;generalize upd H4 v (lW v A.ab)=H5 at *;clear h4 G4 F4 s4 b1 b2 g5;refine⟨_,Z,_,_,_,_,_,_,Z,.vals (fJ h5.fj hv5 (λk z=>by cases z)) ak,.lst (aD.of (fJ h5.fj c1 (λk z=>by cases z))),?_⟩;have exl:((cZ st.ah A.qs).map λp=>p.2).length=st.ah.length:=by rw[aE];exact el
 have eyl:((jf st kept).map V.int).length=st.ah.length:=by rw[aE];exact lsc
 refine vv (n:=st.ah.length) (λi σ H'=>(∃s7 s8,σ=[some (.ref A.a),some (.int kept),some (.int whole),some (.ref la),some (.ref l1),some (.ref l2),some (.int sd),s7,s8])/\∃H6,H'=upd H6 A.ab (.gh Ua (.dK (cZ st.ah A.qs)))/\Gh ρ H6/\Fr n ρ H ρ H6/\aR T n ρ A H6 { st with ah:=(st.ah.take i).map (λp=>{ p with sc:=p.sc*kept / sd })++st.ah.drop i }/\H6 l1=some (.lst ((jf st kept).map V.int))/\H6 l2=some (.lst ((gE st kept added).map V.int))/\(∀b,H6 b=none->H b=none))
  ⟨⟨_,_,Z⟩,H5,Z,G5,F5,h5,c1,c2,λb e=>s5.free e⟩ ?_ ?_ ?_ ?_
 .rintro i σ H' hi ⟨_,H6,rfl,G6,F6,h6,d1,d2,fr⟩;have e6:cZ ({ st with ah:=(st.ah.take i).map (λp:Pt=>{ p with sc:=p.sc*kept / sd })++st.ah.drop i }:HS).ah A.qs=cZ st.ah A.qs:=pS (rL (λp:Pt=>{ p with sc:=p.sc*kept / sd }) (λp:Pt=>p.nm) (λ_=>rfl) st.ah i);have rY:=h6.fj;rw[e6]at rY;exact⟨ak,aD.of (fJ rY d1 (λk z=>by cases z)),by rw[exl];exact hi,by rw[eyl];exact hi⟩
 .rintro σ H' ⟨_,H6,rfl,G6,F6,h6,d1,d2,fr⟩;have e6:cZ ({ st with ah:=(st.ah.take st.ah.length).map (λp:Pt=>{ p with sc:=p.sc*kept / sd })++st.ah.drop st.ah.length }:HS).ah A.qs=cZ st.ah A.qs:=pS (rL (λp:Pt=>{ p with sc:=p.sc*kept / sd }) (λp:Pt=>p.nm) (λ_=>rfl) st.ah _);have rY:=h6.fj;rw[e6]at rY;exact⟨ak,aD.of (fJ rY d1 (λk z=>by cases z)),.inl (by rw[exl];exact aL _)⟩
 .rintro i x σ H' D6 hi ⟨⟨s7,s8,rfl⟩,H6,rfl,G6,F6,h6,d1,d2,fr⟩ ⟨pp,x1,y1,hpp,rfl,rfl,ex,ey⟩;have ep:=a_ hi;have ep6:=K4 (λp:Pt=>{ p with sc:=p.sc*kept / sd }) ep;obtain⟨qq,eq,k1,k2,k3,k4⟩:=h6.find ep6;have nm6:=rL (λp:Pt=>{ p with sc:=p.sc*kept / sd }) (λp:Pt=>p.nm) (λ_=>rfl) st.ah i;have e6:cZ ({ st with ah:=(st.ah.take i).map (λp:Pt=>{ p with sc:=p.sc*kept / sd })++st.ah.drop i }:HS).ah A.qs=cZ st.ah A.qs:=pS nm6;have rY:=h6.fj;rw[e6]at rY;rw[bQ,yd ep eq]at ex;cases ex;obtain⟨sc,rfl,esc⟩:=gO ey;have agn:sc=(st.ah[i]).sc*kept:=by unfold jf at esc;rw[bQ,ep]at esc;exact(gH esc).symm
  subst agn;have npa:pp≠A.ab:=λe=>by rw[e,ak]at hpp;cases hpp
  have ago:H6 pp=none:=rK rY hpp;have g7:=aI ago (.tup [.ref qq.1,.int ((st.ah[i]).sc*kept)]);rw[kQ (cO npa)];have L4:upd H6 pp (.tup [.ref qq.1,.int ((st.ah[i]).sc*kept)]) pp=some (.tup [.ref qq.1,.int ((st.ah[i]).sc*kept)]):=ak;have h7:=h6.mono g7;have G7:=G6.same g7;have F7:=F6.trans (Fr.of_same (ρ:=ρ) g7);have Wa:=g7 _ _ rY;have f1:=g7 _ _ d1;have f2:=g7 _ _ d2;have Sh:∀b,upd H6 pp (.tup [.ref qq.1,.int ((st.ah[i]).sc*kept)]) b=none->H b=none:=λb e=>fr b (g7.free e);have PJ:=g7 _ _ k1;generalize upd H6 pp (.tup [.ref qq.1,.int ((st.ah[i]).sc*kept)])=H7 at *;refine⟨pp,_,Z,dU.of (fJ Wa L4 (λk z=>by cases z)),Z,_,_,Z,_,_,Z,Z,?_⟩;refine⟨_,Z,_,Z,_,_,Z,Z,W3,_,Z,qq.1,T.part,qq.2.1,_,Z,fJ Wa PJ (λk z=>by cases z),X.cP,X.Hq,by show 6<1000;decide,?_⟩;have nd7:(((st.ah.take i).map (λp:Pt=>{ p with sc:=p.sc*kept / sd })++st.ah.drop i).map (λp:Pt=>p.nm)).Nodup:=by rw[nm6];exact nd
  have h8:=h7.iR (p1:={ st.ah[i]with sc:=(st.ah[i]).sc*kept / sd }) G7 ep6 eq rfl rfl nd7;rw[show({ st with ah:=(st.ah.take i).map (λp:Pt=>{ p with sc:=p.sc*kept / sd })++st.ah.drop i }:HS).ah.set i { st.ah[i]with sc:=(st.ah[i]).sc*kept / sd }=_ from K5 (λp:Pt=>{ p with sc:=p.sc*kept / sd }) ep]at h8;have nqa:A.ab≠qq.1:=(jC PJ Wa (by intro z;cases z)).symm;have nq1:l1≠qq.1:=jC f1 PJ (by intro z;cases z);have nq2:l2≠qq.1:=jC f2 PJ (by intro z;cases z);refine⟨⟨_,_,Z⟩,_,kQ nqa,G7.wr rfl,F7.trans (Fr.write k3),h8,by rw[az nq1];exact f1,by rw[az nq2];exact f2,λb e=>Sh b ?_⟩;by_cases z:b=qq.1
  .rw [z,ak]at e;cases e
  .rw [az z]at e;exact e
 rintro σ H' ⟨⟨s7,s8,rfl⟩,H6,rfl,G6,F6,h6,d1,d2,fr⟩;have e6:cZ ({ st with ah:=(st.ah.take st.ah.length).map (λp:Pt=>{ p with sc:=p.sc*kept / sd })++st.ah.drop st.ah.length }:HS).ah A.qs=cZ st.ah A.qs:=pS (rL (λp:Pt=>{ p with sc:=p.sc*kept / sd }) (λp:Pt=>p.nm) (λ_=>rfl) st.ah _);have rY:=h6.fj;rw[e6]at rY;refine⟨ak,?_⟩;rw[pP,yX rY];rw[show({ st with ah:=(st.ah.take st.ah.length).map (λp:Pt=>{ p with sc:=p.sc*kept / sd })++st.ah.drop st.ah.length }:HS)={ st with ah:=st.ah.map λp:Pt=>{ p with sc:=p.sc*kept / sd } }from by rw[cM,JB,sJ]]at h6;clear e6 rY h5 G5 F5 s5 c1 c2 hv5;refine⟨_,Z,l2,Z,⟨_,aD.of d2⟩,λl3 hl3=>?_⟩;refine iD (J:=uK K l2) (n:=((gE st kept added).map V.int).length) 0 (λi o H'=>aN H6 H'/\o=(((gE st kept added).take i).map (· / sd)).map V.int) (by rw[aE];omega) ⟨aI hl3 _,Z⟩ (λi o H' hi _ hp=>⟨_,_,aD.of (hp.1 _ _ d2),a_ hi⟩) (λo H' _ hp=>⟨_,aD.of (hp.1 _ _ d2),aL _⟩) ?_ ?_
 .rintro i y o Ha Hb hi fh ha ⟨g,e⟩ ⟨rfl,hy⟩;obtain⟨c,rfl,ec⟩:=gO (hy _ (aD.of (g _ _ d2)));refine⟨_,Z,_,Z,_,_,Z,Z,W3,ha,g.cA hl3 _,?_⟩;subst e;rw[take_snoc ec,bL,bL];rfl
 rintro o3 H8 ajb L8 ⟨g8,e8⟩;rw[aE,cM]at e8;subst e8;have h8:=h6.mono g8;have G8:=G6.same g8;have F8:=F6.trans (Fr.of_same (ρ:=ρ) g8);have fr8:∀b,H8 b=none->H b=none:=λb e=>fr b (g8.free e);have c3:ρ l3=none:=G6.none hl3;have n3:H l3=none:=fr l3 hl3;refine⟨_,Z,A.a,T.hold,A.dx,_,Z,h8.oa,X.cH,X.Al,by show 7<1000;decide,?_⟩;obtain⟨h9,G9⟩:=Au (t:=6) h8 G8 c3 L8 rfl;have F9:Fr n ρ H (bO ρ l3 (n,6,⟨#[]⟩)) H8:=F8.jw n3;have zP:=h9.aas G9 l3 _ L8 cY;have G10:=G9.wr (a:=A.a) (o:=.ins T.hold A.dx (jZ { A with cm:=l3 })) rfl;have F10:=F9.trans (Fr.write (o:=.ins T.hold A.dx (jZ { A with cm:=l3 })) h9.ca);show vf _ _ _ _ (upd H8 A.a (.ins T.hold A.dx (jZ { A with cm:=l3 })));have agp:∀b,upd H8 A.a (.ins T.hold A.dx (jZ { A with cm:=l3 })) b=none->H b=none:=λb e=>fr8 b (by
  by_cases z:b=A.a
  .rw [z,ak]at e;cases e
  .rw [az z]at e;exact e)
 generalize upd H8 A.a (.ins T.hold A.dx (jZ { A with cm:=l3 }))=DN at *;clear h6 G6 F6 h8 G8 F8 h9 G9 F9 L8 g8 fr8 fr d1 d2;refine⟨_,Z,A.a,T.hold,A.dx,_,_,Z,zP.oa,X.cH,X.Am,Z,A.pu,Z,⟨_,aD.of zP.lu⟩,λl4 Ig=>?_⟩;have ajc:st.bK.length<=100:=by rw[hh.wf.mz];exact hh.wf.kP
 refine iD (J:=uK K A.pu) (n:=(st.bK.map V.int).length) 0 (λi o H'=>aN DN H'/\o=((st.bK.take i).map (·*(whole / sd))).map V.int) (by rw[aE];omega) ⟨aI Ig _,Z⟩ (λi o H' hi _ hp=>⟨_,_,aD.of (hp.1 _ _ zP.lu),a_ hi⟩) (λo H' _ hp=>⟨_,aD.of (hp.1 _ _ zP.lu),aL _⟩) ?_ ?_
 .rintro i y o Ha Hb hi fh ha ⟨g,e⟩ ⟨rfl,hy⟩;obtain⟨c,rfl,ec⟩:=gO (hy _ (aD.of (g _ _ zP.lu)));refine⟨_,Z,_,Z,_,Z,_,_,Z,Z,W3,_,_,Z,Z,d9 (hpz c (aY ec)) wqz,ha,g.cA Ig _,?_⟩;subst e;rw[take_snoc ec,bL,bL];rfl
 rintro o4 H11 ajd abC ⟨Ub,e11⟩;rw[aE,cM]at e11;subst e11;have h11:=zP.mono Ub;have G11:=G10.same Ub;have F11:=F10.trans (Fr.of_same (ρ:=bO ρ l3 (n,6,⟨#[]⟩)) Ub);have c4:bO ρ l3 (n,6,⟨#[]⟩) l4=none:=G10.none Ig;have n4:H l4=none:=agp l4 Ig;refine⟨_,Z,A.a,T.hold,A.dx,_,Z,h11.oa,X.cH,X.Am,by show 7<1000;decide,?_⟩;obtain⟨h12,G12⟩:=Au (t:=7) h11 G11 c4 abC rfl;have F12:Fr n ρ H (bO (bO ρ l3 (n,6,⟨#[]⟩)) l4 (n,7,⟨#[]⟩)) H11:=F11.jw n4;have h13:=h12.SJ G12 l4 _ abC cY;have G13:=G12.wr (a:=A.a) (o:=.ins T.hold A.dx (jZ { { A with cm:=l3 }with pu:=l4 })) rfl;have F13:=F12.trans (Fr.write (o:=.ins T.hold A.dx (jZ { { A with cm:=l3 }with pu:=l4 })) h12.ca);rw[show aZ "purses" (V.ref l4) (jZ { A with cm:=l3 })=jZ { { A with cm:=l3 }with pu:=l4 }from rfl];generalize upd H11 A.a (.ins T.hold A.dx (jZ { { A with cm:=l3 }with pu:=l4 }))=H13 at *;refine⟨_,Z,A.a,T.hold,A.dx,_,_,Z,h13.oa,X.cH,X.vA,Z,A.bt,A.db,_,Z,h13.jq,Z,_,Z,_,Z,_,_,Z,Z,W3,?_⟩;refine⟨⟨n,_,{ { A with cm:=l3 }with pu:=l4 },{ st with ah:=st.ah.map (λp:Pt=>{ p with sc:=p.sc*kept / sd }),bU:=(gE st kept added).map (· / sd),bK:=st.bK.map (·*(whole / sd)) },whole / sd,Z,G13,h13,by show st.stp.length<=1000;omega,hh.wf.big.mono (by decide),wqz.mono (by decide),λρ' A' H' a1 a2 a3 a4=>?_⟩⟩;have eb:bf st kept whole added=fP { st with ah:=st.ah.map (λp:Pt=>{ p with sc:=p.sc*kept / sd }),bU:=(gE st kept added).map (· / sd),bK:=st.bK.map (·*(whole / sd)) } (whole / sd):=by unfold bf;rw[W2]
 rw[eb]at wf' q;exact q ρ' A' H' ⟨a1,a2,wf'⟩ a3 (F13.trans a4)
abbrev vY:Stmt:=inClass (top 21) 3
abbrev sV:List Str:=["self","rows"]
abbrev NH:List Str:=sV.append ["amounts","name","amount","whole","lost"]
theorem iF:aP NH sV (aC vY):=di
theorem L_{T:TC}(F:ja K T.hold "cast" "Hold.cast" vY f fd)(X:Txt K T)(vZ:Dn P w K mg base 1 "amounts_of" qC (SS K))(mQ:Dn P w K mg base 2 "check_loss" mL WR)(cW:Mn P w K mg base 1 T.hold "part_of" fB (Cy T))(gX:Mn P w K mg base 1 T.hold "whole" kG (Bw T))(kJ:Mn P w K mg base 3 T.hold "blend" mP (FJ T K))(qH:Mn P w K mg base 1 T.hold "given_up" lZ (O8 T))(jH:Mn P w K mg base 1 T.hold "lessen" lF (K9 T))(eU:mg "sum"=none):Mn P w K mg base 4 T.hold "cast" sV (SX T K):=by
 refine F.oA iF λcdv A outer s H vs Q E hr h=>?_;obtain⟨⟨n,ρ,A,st,l,us,rs,rfl,hh,hl,hR,ok,q⟩⟩:=h;have wf:=hh.wf;have nd:=ok.nd;refine⟨_,(@c5.h _ _ _ (aj (aQ (i:=2) iF.nd (bH vZ hr (af (qv 1) aq)))
  (aj (yl (fq fM rfl (CH (qv 2)) (iL K (n:=2) rfl (cS (aS (i:=3) iF.nd) (cS (aS (i:=4) iF.nd) iK))) (au (cg (bH mQ hr (af (aK K (bZ cW hr (qv 0) (af (qv 3) aq))) (af (qv 4) aq)))))))
  (aj (aQ (i:=5) iF.nd (FO gX hr (qv 0)))
  (aj (aQ (i:=6) iF.nd (bh (Hl rfl) (by rfl) eU tZ (af (FP (qv 2)) aq)))
  (aj (cX (aU JL (qv 6) (qv 5) (bq _)) (au gK) bP)
  (aj (cg (bZ kJ hr (qv 0) (af (aG jL (qv 5) (qv 6)) (af (qv 5) (af (bZ qH hr (qv 0) (af (qv 2) aq)) aq)))))
  (au (yl (fq fM rfl (CH (qv 2)) (iL K (n:=2) rfl (cS (aS (i:=3) iF.nd) (cS (aS (i:=4) iF.nd) iK))) (au (cg (bZ jH hr (qv 0) (af (qv 3) (af (qv 4) aq))))))))))))))),?_⟩
 refine⟨_,Z,⟨⟨l,us,rs,Z,hl,hR,nd,ok.ne,ok.len,λd H1 g1 hdn hd1=>?_⟩⟩⟩;have g_:=hh.mono g1;have F1:Fr n ρ H ρ H1:=Fr.of_same g1;have cd:ρ d=none:=hh.g.none hdn;have al:=yY rs;refine⟨d,_,hd1,λob=>⟨_,Z,d,ob,_,Z,ak,?_⟩⟩;refine vv (n:=(iE rs).length) (λi σ H'=>aN (upd H1 d (.gh ob (.dK (iE rs)))) H'/\∃s3 s4 s5 s6,σ=[some (.ref A.a),some (.ref l),some (.ref d),s3,s4,s5,s6])
  ⟨aN.refl _,_,_,_,_,Z⟩ (λi σ H' hi hp=>⟨hp.1 _ _ ak,hi⟩) (λσ H' hp=>⟨hp.1 _ _ ak,aL _⟩) ?_ ?_
 .rintro i x σ H3 H4 hi ⟨g,s3,s4,s5,s6,rfl⟩ ⟨pp,kv,hpp,hkv,rfl,rfl⟩;unfold iE at hkv;rw[bQ]at hkv;obtain⟨r,er,rfl⟩:=mj.mp hkv;have hrm:=aY er;obtain⟨r1,zr,p,fk,Ex,hle⟩:=ok.row r hrm;obtain⟨ip,zT,T9⟩:=oV fk;have ep:st.ah[ip]?=some p:=by rw[a_ zT,T9]
  have g4:=aI hpp (.tup [.str r.1,.int r.2]);have gg:=g.trans g4;have hf:HH T n ρ A (upd H1 d (.gh ob (.dK (iE rs)))) st:=g_.D5 cd hd1 rfl rfl;have h4:=hf.mono gg;have L4:upd H3 pp (.tup [.str r.1,.int r.2]) pp=some (.tup [.str r.1,.int r.2]):=ak;show Cq K 2 _ _ _ (upd H3 pp (.tup [.str r.1,.int r.2])) _;generalize upd H3 pp (.tup [.str r.1,.int r.2])=H4 at *;obtain⟨qq,eq,k1,k2,_,_⟩:=h4.h.find ep;refine⟨pp,_,Z,dU.of L4,Z,_,_,Z,_,_,Z,Z,?_⟩;refine⟨_,Z,A.a,A.dx,_,Z,h4.h.oa,Z,_,Z,⟨⟨n,ρ,A,st,ip,p,qq,by rw[<-Ex];rfl,h4.h,wf.fF,ep,eq,?_⟩⟩⟩;refine⟨qq.1,T.part,qq.2.1,_,_,Z,k1,X.cP,X.xh,Z,_,Z,⟨⟨p.wo,r.2,Z,r1,hle,?_⟩⟩⟩;exact⟨gg,_,_,_,_,Z⟩
 rintro σ H2 ⟨g2,s3,s4,s5,s6,rfl⟩;refine⟨g2 _ _ ak,?_⟩;have gB:=vD hd1 g2;have mO:=g_.mono gB;have F2:Fr n ρ H ρ (upd H2 d (.dK (iE rs))):=F1.trans (Fr.of_same gB);have hd2:upd H2 d (.dK (iE rs)) d=some (.dK (iE rs)):=ak;generalize upd H2 d (.dK (iE rs))=H2' at *;refine⟨_,Z,A.a,A.dx,_,Z,mO.h.oa,Z,⟨⟨n,ρ,A,st,Z,mO.h,wf.qh,λH3 g3=>?_⟩⟩⟩;have kI:=mO.mono g3;have W5:=g3 _ _ hd2;have F3:=F2.trans (Fr.of_same (ρ:=ρ) g3);refine⟨_,Z,d,_,Z,.inl W5,λv hv=>⟨v,d,_,rs.map (·.2),Z,ak,.inl (by rw[az (aJ W5 hv)];exact W5),by unfold iE;rw[fu,fu];rfl,?_⟩⟩;have g4:=aI hv (lW v d);have qF:=kI.mono g4;have hd4:=g4 _ _ W5;have F4:=F3.trans (Fr.of_same (ρ:=ρ) g4);generalize upd H3 v (lW v d)=H4 at *;have bo:=ok.blend wf;refine⟨_,Z,_,Z,_,_,Z,Z,_,Z,cI (λc=>absurd (dW c) (by have:=ok.lost;show ¬ aH st<=bJ rs;omega)) λ_=>?_⟩;refine⟨_,Z,A.a,A.dx,_,Z,qF.h.oa,Z,_,Z,_,Z,_,_,Z,Z,_,Z,_,Z,A.a,A.dx,_,Z,qF.h.oa,Z,_,Z,⟨⟨n,ρ,A,st,d,rs,Z,qF.h,wf,hd4,cd,ok.len,λr hr=>⟨(ok.row r hr).2.1,by obtain⟨p,hp,e,_⟩:=(ok.row r hr).2.2;exact⟨p,hp,e⟩⟩,λl5 H5 g5 hn5 hl5=>?_⟩⟩⟩;have Ib:=qF.mono g5;have hd5:=g5 _ _ hd4;have F5:=F4.trans (Fr.of_same (ρ:=ρ) g5);have zk:Jm.Sz 60 (aH st-bJ rs):=bo.big.of_le (by have:=bo.k;have:=bo.l;omega);have zG:∀m∈gk st rs,0<=m/\Jm.Sz 8900 m:=λm hm=>by have h1:=bo.add m hm;have h2:=wf.fH;have zl:Jm.Sz 60 (bJ rs):=bo.big.of_le (by have:=bo.k;have:=bo.l;omega);exact⟨h1.1,Jm.Sz.k_ (by have:=j9 bo.l (show 0<=st.prod by omega);omega) h1.2 ((zl.mul bo.prod).mono (by decide))⟩
 refine⟨⟨n,ρ,A,st,aH st-bJ rs,aH st,l5,gk st rs,Z,Ib,aD.of hl5,bo.len,bo.k,by have:=bo.k;have:=bo.l;omega,zk,bo.big,zG,ok.bK,ok.stp,yZ wf bo,λρ6 A6 H6 tT e6 f6=>?_⟩⟩;obtain⟨hd6,cd6⟩:=f6 d _ hd5 (λt x=>by rw[cd];intro z;cases z);rw[cd]at cd6;have F6:=F5.trans f6;refine⟨d,_,hd6,λUa=>⟨_,Z,d,Ua,_,Z,ak,?_⟩⟩;generalize eB:bf st (aH st-bJ rs) (aH st) (gk st rs)=PK at *;have agq:Due PK rs:=by rw[<-eB];exact Hz ok.due
 have adE:gJ st rs=rs.foldl d7 PK:=by unfold gJ;rw[eB]
 refine vv (n:=(iE rs).length) (λi σ H'=>∃ρ' A',HH T n ρ' A' H' ((rs.take i).foldl d7 PK)/\A'.a=A.a/\H' d=some (.gh Ua (.dK (iE rs)))/\ρ' d=none/\Fr n ρ H ρ' H'/\Due ((rs.take i).foldl d7 PK) (rs.drop i)/\∃s3 s4 s5 s6,σ=[some (.ref A.a),some (.ref l),some (.ref d),s3,s4,s5,s6])
  ⟨ρ6,A6,tT.D5 cd6 hd6 rfl rfl,e6,ak,cd6,F6.new hdn,agq,_,_,_,_,Z⟩ (λi σ H' hi hp=>by obtain⟨_,_,_,_,e,_⟩:=hp;exact⟨e,hi⟩) (λσ H' hp=>by obtain⟨_,_,_,_,e,_⟩:=hp;exact⟨e,aL _⟩) ?_ ?_
 .rintro i x σ H7 H8 hi ⟨ρ7,A7,PL,e7,W6,W7,F7,due,s3,s4,s5,s6,rfl⟩ ⟨pp,kv,hpp,hkv,rfl,rfl⟩;unfold iE at hkv;rw[bQ]at hkv;obtain⟨r,er,rfl⟩:=mj.mp hkv;have hir:i<rs.length:=by rw[<-al];exact hi
  have edr:rs.drop i=r::rs.drop (i+1):=by rw[Qa hir];rw[a_ hir]at er;rw[gH er]
  rw[edr]at due;have g4:=aI hpp (.tup [.str r.1,.int r.2]);have Uc:=PL.mono g4;have hd8:=g4 _ _ W6;have F8:=F7.trans (Fr.of_same (ρ:=ρ7) g4);have L4:upd H7 pp (.tup [.str r.1,.int r.2]) pp=some (.tup [.str r.1,.int r.2]):=ak;show Cq K 2 _ _ _ (upd H7 pp (.tup [.str r.1,.int r.2])) _;generalize upd H7 pp (.tup [.str r.1,.int r.2])=H8 at *;refine⟨pp,_,Z,dU.of L4,Z,_,_,Z,_,_,Z,Z,?_⟩;have eN:(rs.take (i+1)).foldl d7 PK=d7 ((rs.take i).foldl d7 PK) r:=by rw[take_snoc er,Fj];rfl
  have ndr:((r::rs.drop (i+1)).map (λr:Row=>r.1)).Nodup:=by rw[<-edr,List.map_drop];exact nd.sublist (List.drop_sublist _ _)
  refine⟨_,Z,A.a,A7.dx,_,Z,by rw[<-e7];exact Uc.h.oa,Z,_,Z,_,Z,⟨⟨n,ρ7,A7,_,r,by rw[e7];rfl,Uc,due r cQ,S0 PL.wf due,λρ9 A9 H9 W8 e9 f9=>?_⟩⟩⟩;obtain⟨hd9,cd9⟩:=f9 d _ hd8 (λt x=>by rw[W7];intro z;cases z);rw[W7]at cd9;rw[<-eN]at W8;exact⟨ρ9,A9,W8,e9.trans e7,hd9,cd9,F8.trans f9,by rw[eN];exact Lc PL.wf due ndr,_,_,_,_,Z⟩
 rintro σ H7 ⟨ρ7,A7,PL,e7,W6,W7,F7,due,s3,s4,s5,s6,rfl⟩;rw[al,cM,<-adE]at PL;exact⟨W6,q ρ7 A7 _ (PL.D5 W7 W6 rfl rfl) e7 (F7.new hdn)⟩
abbrev rZ:Stmt:=inClass (top 4) 2
abbrev iQ:List Str:=["self","top"]
abbrev ID:List Str:=iQ.append ["rest","step","shared"]
theorem jj:aP ID iQ (aC rZ):=di
theorem Gi{T:TC}(F:ja K T.bot "over" "Bottom.over" rZ f fd)(X:Txt K T)(iN:Dn P w K mg base 1 "common_factor" jT Vk):Mn P w K mg base 2 T.bot "over" iQ (yf T):=by
 refine F.oA jj λcdv A outer s H vs Q E hr h=>?_;obtain⟨⟨bt,db,sp,kn,stp,prod,top,rfl,hb,hs,ep,h2,hz,q⟩⟩:=h;refine⟨_,(@c5.h _ _ _ (aj (aQ (i:=2) jj.nd (aK K (qv 0)))
  (aj (fq fM rfl (c_ K (aK K (qv 0))) (aS (i:=3) jj.nd) (aj (aQ (i:=4) jj.nd (bH iN hr (af (qv 3) (af (aG ki (qv 1) (qv 3)) aq))))
  (au (ig (aU jM (qv 4) ai (bq _)) (aj (aQ (i:=1) jj.nd (aG ir (qv 1) (qv 4)))
  (au (aQ (i:=2) jj.nd (aG ir (qv 2) (qv 4))))) bP))))
  (au (bw (iS (af (qv 1) (af (qv 2) aq)))))))),?_⟩
 have p1:1<=prod:=by rw[ep];exact K7 h2
 refine⟨_,Z,bt,T.bot,db,_,_,Z,hb,X.cB,X.KS,Z,?_⟩;refine⟨_,Z,bt,T.bot,db,_,_,Z,hb,X.cB,X.bst,Z,sp,Z,⟨_,aD.of hs⟩,?_⟩;refine jY (K:=K) (xs:=stp.map V.int) (λi σ H'=>H'=H/\∃(t r d:Int)(s3 s4:Option V),σ=[some (.ref bt),some (.int t),some (.int r),s3,s4]/\t*prod=top*r/\r=d*(stp.drop i).foldl (·*·) 1/\0<d/\Jm.cf t d=1)
  ⟨Z,top,prod,1,none,none,Z,Z,by rw[List.drop_zero,Int.one_mul];exact ep,by decide,by unfold Jm.cf;rw[Int.gcd_one];rfl⟩ (λi σ H' _ hp=>by rw[hp.1];exact aD.of hs) ?_ ?_
 .rintro i x σ H' hx ⟨rfl,t,r,d,s3,s4,rfl,e1,e2,d0,c⟩;obtain⟨st,rfl,es⟩:=gO hx;have hm:=aY es;have s2:=h2 st hm;have hi:=(dj.mp es).1;have hdr:stp.drop i=st::stp.drop (i+1):=by rw[Qa hi];congr 1;rw[a_ hi]at es;exact gH es
  rw[hdr,FI]at e2;have r0:0<=t % st:=oj _ (by omega);refine⟨_,Z,_,Z,_,Z,_,_,Z,Z,(by show 0<st;omega),st,t % st,Z,by omega,r0,?_⟩;rw[Jm.Ft t st (by omega)];obtain⟨o1,o2⟩:=SQ d0 (by omega:0<st) c;have gp:0<Jm.cf t st:=Jm.DF t st (.inr (by omega));have gz:Jm.Sz 9000 (Jm.cf t st):=((hz.of_le (by have:=WO h2 hm;rw[<-ep]at this;omega)).dvd (by omega:0<st) (by omega) (Jm.qc t st)).mono (by decide);obtain⟨u,hu⟩:=Jm.sQ t st;obtain⟨v,hv⟩:=Jm.qc t st;have e3:t / Jm.cf t st*prod=top*(r / Jm.cf t st):=by
   have a1:t / Jm.cf t st=u:=by rw[Wj (by omega) hu]
   have a2:r=Jm.cf t st*(d*v*(stp.drop (i+1)).foldl (·*·) 1):=by
    rw[e2]
    conv=>lhs;rw[hv]
    rw[iG (Jm.cf t st),Int.mul_left_comm,iG d]
   have a3:r / Jm.cf t st=d*v*(stp.drop (i+1)).foldl (·*·) 1:=by rw[Wj (by omega) a2]
   rw[a1,a3];have qp:Jm.cf t st*(u*prod)=Jm.cf t st*(top*(d*v*(stp.drop (i+1)).foldl (·*·) 1)):=by
    rw[<-iG,<-hu,e1]
    conv=>lhs;rw[a2]
    rw[Int.mul_left_comm]
   exact Int.eq_of_mul_eq_mul_left (by omega) qp
  have e4:r / Jm.cf t st=d*(st / Jm.cf t st)*(stp.drop (i+1)).foldl (·*·) 1:=by
   have a4:st / Jm.cf t st=v:=by rw[Wj (by omega) hv]
   have a2:r=Jm.cf t st*(d*v*(stp.drop (i+1)).foldl (·*·) 1):=by
    rw[e2]
    conv=>lhs;rw[hv]
    rw[iG (Jm.cf t st),Int.mul_left_comm,iG d]
   rw[a4,Wj (by omega) a2]
  refine⟨λσ' H2=>H2=H'/\σ'=[some (.ref bt),some (.int (t / Jm.cf t st)),some (.int (r / Jm.cf t st)),some (.int st),some (.int (Jm.cf t st))],?_,?_⟩
  .refine ⟨_,Z,_,_,Z,Z,_,Z,cI (λc=>?_) (λc=>?_)⟩
   .exact ⟨_,Z,_,Z,_,_,Z,Z,vm gp gz,_,Z,_,Z,_,_,Z,Z,vm gp gz,Z,Z⟩
   .have c':¬ 1<Jm.cf t st:=p6 (oW.mpr c);have g1:Jm.cf t st=1:=by omega
    refine⟨Z,?_⟩;rw[g1,Dm,Dm];rfl
  rintro σ' H2 ⟨rfl,rfl⟩;exact⟨Z,_,_,_,_,_,Z,e3,e4,o2,o1⟩
 rintro σ H' ⟨rfl,t,r,d,s3,s4,rfl,e1,e2,d0,c⟩;rw[List.drop_of_length_le (by rw[aE];exact aL _),List.foldl_nil,ou]at e2;subst e2;refine⟨_,Z,_,Z,(iM 2),λp hp=>?_⟩;refine q p _ (aI hp _) ?_;rw[ak];obtain⟨a1,a2⟩:=Jm.Sd d0 c;have:Jm.fr top prod=Jm.fr t r:=Jm.DG (by omega) d0 e1.symm;unfold nJ;rw[this,a1,a2]
abbrev qI:Stmt:=inClass (top 4) 3
abbrev nC:List Str:=["self","top"]
abbrev Gj:List Str:=nC
theorem Ey:aP Gj nC (aC qI):=di
theorem Ez{T:TC}(F:ja K T.bot "share" "Bottom.share" qI f fd)(X:Txt K T)(d8:Mn P w K mg base 2 T.bot "over" iQ (yf T)):Mn P w K mg base 3 T.bot "share" nC (K1 T):=by
 refine F.oA Ey λcdv A outer s H vs Q E hr h=>?_;obtain⟨⟨bt,db,sp,kn,stp,prod,top,kvs,rfl,hb,hs,ep,h2,hz,hk,kat,kl,knd,q⟩⟩:=h;refine⟨_,(@c5.h _ _ _ (aj (ig (yj (AF (bX hr) (qv 1) (aK K (qv 0)))) (au (pW (bX hr) (aK K (qv 0)) (qv 1) (bZ d8 hr (qv 0) (af (qv 1) aq)) rfl)) bP)
  (au (bw (bR (bX hr) (aK K (qv 0)) (qv 1)))))),?_⟩
 refine⟨λσ' H'=>σ'=[some (.ref bt),some (.int top)]/\(∀b o,H b=some o->b≠kn->H' b=some o)/\∃kvs' r,H' kn=some (.dK kvs')/\KP H' kvs' prod/\kvs'.length<=kvs.length+1/\(kvs'.map (·.1)).Nodup/\dY kvs' (Sum.inl top)=some (.ref r)/\H' r=some (nJ (Jm.fr top prod)),?_,?_⟩
 .refine ⟨_,Z,_,Z,bt,T.bot,db,_,_,Z,hb,X.cB,X.SK,Z,kn,_,Z,cJ.k (k:=Sum.inl top) hk,_,Z,?_⟩;cases e:dY kvs (Sum.inl top)with
  | some v=>refine aW ⟨Z,λb o e _=>e,kvs,?_⟩;obtain⟨t,r,e2,hr2⟩:=kat _ (Vy e);cases e2;exact⟨r,hk,kat,Nat.le_succ _,knd,e,hr2⟩
  | none=>
   refine mw ?_;refine⟨_,Z,bt,db,_,Z,hb,Z,_,Z,⟨⟨bt,db,sp,kn,stp,prod,top,Z,hb,hs,ep,h2,hz,λr H1 g1 hr1=>?_⟩⟩⟩;have sl:kvs.length<sizeLine:=by rw[lT];omega
   refine⟨_,Z,bt,T.bot,db,_,_,Z,g1 _ _ hb,X.cB,X.SK,Z,_,Z,kn,_,Z,ud.k (k:=Sum.inl top) (g1 _ _ hk) sl,Z,λb o e hb=>by rw[az hb];exact g1 _ _ e,_,r,ak,?_,?_,XI _ knd e,by rw[U_,ay rfl],by rw[az (jC hr1 (g1 _ _ hk) (by intro z;cases z))];exact hr1⟩
   .rw [oX _ e];intro p hp;rcases dI.mp hp with z|z
    .obtain ⟨t,r',e2,hr2⟩:=kat p z;exact⟨t,r',e2,by rw[az (jC (g1 _ _ hr2) (g1 _ _ hk) (by intro z;cases z))];exact g1 _ _ hr2⟩
    .rw [dS.mp z];exact⟨top,r,Z,by rw[az (jC hr1 (g1 _ _ hk) (by intro z;cases z))];exact hr1⟩
   .rw [oX _ e,c7];exact aL _
 rintro σ' H' ⟨rfl,k1,kvs',r,e1,e2,e3,e4,e5,e6⟩;exact⟨_,Z,bt,T.bot,db,_,_,Z,k1 _ _ hb (jC hb hk (by intro z;cases z)),X.cB,X.SK,Z,_,Z,kn,_,Z,e5▸cJ.k (k:=Sum.inl top) e1,q r H' kvs' k1 e1 e2 e3 e4 e6⟩
abbrev r6:Stmt:=inClass (top 21) 12
abbrev oK:List Str:=["self","part"]
abbrev IE:List Str:=oK.append ["tops"]
theorem yw:aP IE oK (aC r6):=di
theorem Gk{T:TC}(F:ja K T.hold "shares" "Hold.shares" r6 f fd)(X:Txt K T)(cW:Mn P w K mg base 1 T.hold "part_of" fB (Cy T))(gf:Mn P w K mg base 1 T.hold "tops_of" ji (Bv T))(r8:Mn P w K mg base 3 T.bot "share" nC (K1 T))(i8:mg "zip"=none):Mn P w K mg base 4 T.hold "shares" oK (Ej T):=by
 refine F.oA yw λcdv A outer s H vs Q E hr h=>?_;obtain⟨⟨n,ρ,A,st,ip,pt,rfl,hh,ep,hkn,q⟩⟩:=h;obtain⟨qq,eq,k1,k2,k3,k4⟩:=hh.h.find ep;have fk:=aY ep;refine⟨_,(@c5.h _ _ _ (aj (aQ (i:=2) yw.nd (bZ gf hr (qv 0) (af (bZ cW hr (qv 0) (af (qv 1) aq)) aq)))
  (au (bw (Ln (vK ["owner","top","self"] [none,none,some 0] rfl (rR K (by rfl) i8 (af (aK K (qv 0)) (af (qv 2) aq))) (λ_ _ _ _=>(iL K (n:=2) rfl (cS (aS (i:=0) (show List.Nodup (["owner","top","self"] :List Str)from by decide +kernel)) (cS (aS (i:=1) (show List.Nodup (["owner","top","self"] :List Str)from by decide +kernel)) iK)))) (λ_ _ _ _=>(iS (af (qv 0) (af (bZ r8 hr (aK K (qv 2)) (af (qv 1) aq)) aq)))) (λ_ _ _ _=>(aU jM (qv 1) ai (bq _))) rfl (by rfl))))))),?_⟩
 refine⟨_,Z,A.a,A.dx,_,Z,hh.h.oa,Z,_,Z,A.a,A.dx,_,Z,hh.h.oa,Z,_,Z,⟨⟨n,ρ,A,st,ip,pt,qq,Z,hh.h,hh.wf.fF,ep,eq,?_⟩⟩⟩;refine⟨⟨n,ρ,A,st,ip,pt,qq,Z,hh.h,hh.wf,ep,eq,λl H1 g1 hl hl1=>?_⟩⟩;have g_:=hh.mono g1;have cl:ρ l=none:=hh.g.none hl;have tl:(aM st pt).length=st.own.length:=by unfold aM;rw[jX,hh.wf.rows pt fk,hh.wf.f7,yH]
 have fh:=hh.wf.kP;refine⟨A.pl,_,g_.h.jb,λob=>?_⟩;have hl2:upd H1 A.pl (.gh ob (.dK (gD 0 st.own))) l=some (.lst ((aM st pt).map V.int)):=fJ g_.h.jb hl1 (λk z=>by cases z);refine⟨_,Z,A.a,T.hold,A.dx,_,_,Z,fJ g_.h.jb g_.h.oa (λk z=>by cases z),X.cH,X.hpl,Z,_,Z,_,_,_,_,_,_,Z,.keys ak,.lst (aD.of hl2),λacc hacc=>?_⟩;have xF:H1 acc=none:=rK g_.h.jb hacc;have ca:ρ acc=none:=g_.g.none xF;have PM:acc≠A.pl:=λe=>by rw[e,ak]at hacc;cases hacc
 have nal:acc≠l:=λe=>by rw[e,hl1]at xF;cases xF
 refine OY (K:=K) (n:=st.own.length) [0,1] (λi out Hc=>∃H5,Hc=upd H5 A.pl (.gh ob (.dK (gD 0 st.own)))/\Gh ρ H5/\Fr n ρ H ρ H5/\aR T n ρ A H5 { st with kn:=st.kn+i }/\H5 l=some (.lst ((aM st pt).map V.int))/\oZ H5 out (((List.zip st.own (aM st pt)).take i).filterMap λx=>if 0<x.2 then some (x.1,Jm.fr x.2 st.prod) else none))
  (by decide) (by omega) ⟨upd H1 acc (.lst []),kQ (cO PM),g_.g.alloc xF,(Fr.of_same (ρ:=ρ) g1).trans (Fr.of_same (aI xF _)),g_.h.mono (aI xF _),by rw[az (cO nal)];exact hl1,.nil⟩ ?_ ?_ ?_ ?_
 .rintro i out Hc hi ha ⟨H5,rfl,G5,F5,h5,l5,S5⟩;exact⟨ak,aD.of (fJ h5.jb l5 (λk z=>by cases z)),by rw[aE,qm];exact hi,by rw[aE,tl];exact hi⟩
 .rintro out Hc ha ⟨H5,rfl,G5,F5,h5,l5,S5⟩;exact⟨ak,aD.of (fJ h5.jb l5 (λk z=>by cases z)),.inr (by rw[aE,tl];exact aL _)⟩
 .rintro i x out Hc H2 hi Gf ha ⟨H5,rfl,G5,F5,h5,l5,S5⟩ ⟨pp,x1,y1,hpp,rfl,rfl,e1,e2⟩;obtain⟨t,rfl,et⟩:=gO e2;rw[KW,bQ]at e1;obtain⟨o,eo,rfl⟩:=mj.mp e1;have npl:pp≠A.pl:=λe=>by rw[e,ak]at hpp;cases hpp
  have agr:H5 pp=none:=rK h5.jb hpp;have ez:(List.zip st.own (aM st pt))[i]?=some (o,t):=by rw[List.getElem?_zip_eq_some];exact⟨eo,et⟩
  have g6:=aI agr (.tup [.str o,.int t]);have e6:upd (upd H5 A.pl (.gh ob (.dK (gD 0 st.own)))) pp (.tup [.str o,.int t])=upd (upd H5 pp (.tup [.str o,.int t])) A.pl (.gh ob (.dK (gD 0 st.own))):=kQ (cO npl);rw[e6];have G6:=G5.same g6;have F6:=F5.trans (Fr.of_same (ρ:=ρ) g6);have h6:=h5.mono g6;have l6:=g6 _ _ l5;have S6:=S5.mono g6.tups;have t6:upd H5 pp (.tup [.str o,.int t]) pp=some (.tup [.str o,.int t]):=ak;have yx:upd H5 pp (.tup [.str o,.int t]) acc=some (.lst out):=by rw[az PM]at ha;exact g6 _ _ ha
  generalize upd H5 pp (.tup [.str o,.int t])=H6 at *;have fz:∀{b:Addr}{u:HO},H6 b=some u->(∀k,u ≠ .dK k)->upd H6 A.pl (.gh ob (.dK (gD 0 st.own))) b=some u:=λe k=>fJ h6.jb e k;refine⟨pp,_,Z,dU.of (fz t6 (λk z=>by cases z)),Z,_,Z,_,_,Z,Z,_,Z,?_⟩;refine cI (λc=>?_) (λc=>?_)
  .have c':0<t:=dW c;obtain⟨kvs,j1,j2,j3,j4⟩:=h6.okn;have W9:A.kn≠A.pl:=DZ h6.jv h6.jc (by intro z;cases z);refine⟨_,Z,_,Z,A.a,T.hold,A.dx,_,_,Z,fz h6.oa (λk z=>by cases z),X.cH,X.vA,Z,A.bt,A.db,_,Z,fz h6.jq (λk z=>by cases z),Z,_,Z,
    ⟨⟨A.bt,A.db,A.sp,A.kn,st.stp,st.prod,t,kvs,Z,fz h6.jq (λk z=>by cases z),fz h6.nR (λk z=>by cases z),hh.wf.m_,hh.wf.rH,hh.wf.big,by rw[az W9];exact j1,(λp hp=>let⟨t,r,e,w⟩:=j2 p hp;⟨t,r,e,fz w (λk z=>by cases z)⟩),Fd j3 (by show st.kn+i<_;omega),j4,λr H7 kvs' b1 b2 b3 b4 b5 b6=>?_⟩⟩⟩
   have W_:H7 A.pl=some (.gh ob (.dK (gD 0 st.own))):=b1 _ _ ak (cO W9);refine⟨(iM 2),λtt Xa=>?_⟩;have ntp:tt≠A.pl:=λe=>by rw[e,W_]at Xa;cases Xa
   have k8:∀b u,H6 b=some u->b≠A.kn->upd H7 A.pl (.dK (gD 0 st.own)) b=some u:=λb u e hb=>by
    by_cases z:b=A.pl
    .rw [z]at e ⊢;rw[show H6 A.pl=some (.dK (gD 0 st.own))from h6.jb]at e;cases e;exact ak
    .rw [az z];exact b1 _ _ (by rw[az z];exact e) hb
   have h8:=h6.Vz (m:=st.kn+i+1) k8 (by rw[az W9];exact b2) (λp hp=>let⟨t,r,e,w⟩:=b3 p hp;⟨t,r,e,rJ (.inr ⟨_,W_,Z⟩) _ _ w⟩) (fZ b4 (Nat.succ_le_succ j3)) b5;have G8:Gh ρ (upd H7 A.pl (.dK (gD 0 st.own))):=λb cc e=>by
    by_cases z:b=A.pl
    .rw [z];exact⟨_,ak,Z⟩
    by_cases z2:b=A.kn
    .rw [z2,az W9];exact⟨_,b2,Z⟩
    obtain⟨u,a1,a2⟩:=G6 b cc e;exact⟨u,k8 b u a1 z2,a2⟩
   have F8:Fr n ρ H6 ρ (upd H7 A.pl (.dK (gD 0 st.own))):=λb u e k=>⟨k8 b u e (λz=>k 9 ⟨#[]⟩ (by rw[z];exact h6.jv)),Z⟩
   have tp8:∀b xs,H6 b=some (.tup xs)->upd H7 A.pl (.dK (gD 0 st.own)) b=some (.tup xs):=λb xs e=>k8 b _ e (jC e j1 (by intro z;cases z));have ags:upd H7 A.pl (.dK (gD 0 st.own)) tt=none:=by rw[az ntp];exact Xa
   have back:H7=upd (upd H7 A.pl (.dK (gD 0 st.own))) A.pl (.gh ob (.dK (gD 0 st.own))):=by rw[pP,yX W_]
   have hr8:upd H7 A.pl (.dK (gD 0 st.own)) r=some (nJ (Jm.fr t st.prod)):=rJ (.inr ⟨_,W_,Z⟩) _ _ b6;have l8:=k8 _ _ l6 (λz=>by rw[z,j1]at l6;cases l6);have L8:=k8 _ _ yx (λz=>by rw[z,j1]at yx;cases yx);have S8:=S6.mono tp8;have F08:=F6.trans F8;rw[back]at Xa ⊢;generalize upd H7 A.pl (.dK (gD 0 st.own))=H8 at *;have g9:=aI ags (.tup [.str o,.ref r]);rw[kQ (cO ntp)];refine⟨by rw[az PM];exact g9 _ _ L8,_,kQ (cO PM),(G8.same g9).wr rfl,(F08.trans (Fr.of_same (ρ:=ρ) g9)).new (g1.free xF),?_,?_,?_⟩
   .exact (h8.mono g9).same (K3 ca (g9 _ _ L8) rfl)
   .rw [az (cO nal)];exact g9 _ _ l8
   .rw [take_snoc ez,List.filterMap_append,Cm];simp only[c',if_true,List.filterMap_nil];exact((S8.mono g9.tups).snoc ak (g9 _ _ hr8)).mono (rJ (.inr ⟨_,g9 _ _ L8,Z⟩))
  .have c':¬ 0<t:=p6 (oW.mpr c);refine⟨by rw[az PM];exact yx,H6,Z,G6,F6,?_,l6,?_⟩
   .obtain ⟨kvs,j1,j2,j3,j4⟩:=h6.okn;exact h6.Vz (m:=st.kn+i+1) (λb u e _=>e) j1 j2 (Nat.le_succ_of_le j3) j4
   .rw [take_snoc ez,List.filterMap_append,Cm];simp only[c',sO,List.filterMap_nil,sJ];exact S6
 .rintro out Hc Gf ha ⟨H5,rfl,G5,F5,h5,l5,S5⟩;rw[JU (by rw[List.length_zip,tl];omega)]at S5;refine⟨ak,?_⟩;rw[pP,yX (show H5 A.pl=some (.dK (gD 0 st.own))from h5.jb)];rw[az PM]at ha;obtain⟨kvs,j1,j2,j3,j4⟩:=h5.okn;have h9:=h5.Vz (m:=st.kn+100) (λb u e _=>e) j1 j2 (fZ j3 (by show st.kn+st.own.length<=st.kn+100;omega)) j4;exact q acc out H5 ⟨G5,h9,ac_ hh.wf hkn⟩ F5 (g1.free xF) ha ca S5
abbrev uz:Stmt:=inClass (top 21) 4
abbrev qJ:List Str:=["self","owner","amount"]
abbrev Ma:List Str:=qJ.append ["place","whole","added"]
theorem oM:aP Ma qJ (aC uz):=di
theorem Gm{T:TC}{e:Ec}(F:ja K T.hold "award" "Hold.award" uz f fd)(X:Txt K T)(bY:Mn P w K mg base 1 T.hold "place_of" eO (sN (zg T e)))(jh:Dn P w K mg base 1 "check_amount" jg (sN (AH e)))(gX:Mn P w K mg base 1 T.hold "whole" kG (Bw T))(kJ:Mn P w K mg base 3 T.hold "blend" mP (FJ T K))(bV:mg "len"=none):Mn P w K mg base 4 T.hold "award" qJ (sN (Ls T e)):=by
 refine F.oA oM λcdv A outer s H vs Q E hr h=>?_;obtain⟨⟨n,ρ,A,st,o,a,rfl,hh,aw,dq⟩⟩:=h;refine⟨_,(@c5.h _ _ _ (aj (aQ (i:=3) oM.nd (bZ bY hr (qv 0) (af (qv 1) aq)))
  (aj (cg (bH jh hr (af (qv 2) aq)))
  (aj (aQ (i:=4) oM.nd (FO gX hr (qv 0)))
  (aj (cX (aU JL (qv 2) (qv 4) (bq _)) (au gK) bP)
  (aj (aQ (i:=5) oM.nd (aG R5 (ie (af ai aq)) (bh w6 (by rfl) bV eY (af (aK K (qv 0)) aq))))
  (aj (iT (aG gM (qv 2) (aK K (aK K (qv 0)))) (iU (qv 5) (qv 3) set_list))
  (au (cg (bZ kJ hr (qv 0) (af (aG jL (qv 4) (qv 2)) (af (qv 4) (af (qv 5) aq))))))))))))),?_⟩
 have wf:=hh.wf;refine⟨_,Z,A.a,A.dx,_,Z,hh.h.oa,Z,_,Z,⟨⟨n,ρ,A,st,o,Z,hh.h,λho=>dq.no 2 (by unfold mH;exact av ho),λho=>?_⟩⟩⟩;refine⟨_,Z,⟨⟨a,Z,λh5=>dq.no 5 (by unfold mH;rw[ay ho,ay h5]),λh1=>?_⟩⟩⟩;refine⟨_,Z,A.a,A.dx,_,Z,hh.h.oa,Z,⟨⟨n,ρ,A,st,Z,hh.h,wf.qh,λH1 g1=>?_⟩⟩⟩;refine⟨_,Z,_,Z,_,_,Z,Z,_,Z,cI (λc=>?_) (λc=>?_)⟩
 .have c':aH st<=a:=dW c;exact dq.no 6 (by unfold mH;rw[ay ho,av (show ¬ a<1 by omega),ay c']) 0 H1 g1
 have c':¬ aH st<=a:=p6 (oW.mpr c);have q:=dq.ok (by unfold mH;rw[ay ho,av (show ¬ a<1 by omega),av c']);have g_:=hh.mono g1;have F1:Fr n ρ H ρ H1:=Fr.of_same g1;clear hh;refine⟨(iM 1),λp0 hp0=>?_⟩;have g2:=aI hp0 (.lst [.int 0]);have mO:=g_.mono g2;have F2:=F1.trans (Fr.of_same (ρ:=ρ) g2);have V6:upd H1 p0 (.lst [.int 0]) p0=some (.lst [.int 0]):=ak;generalize upd H1 p0 (.lst [.int 0])=H2 at *;clear g_ F1;have Cf:=qm st.own 0;have fh:=mO.wf.kP;refine⟨_,Z,A.a,T.hold,A.dx,_,_,Z,mO.h.oa,X.cH,X.hpl,Z,A.pl,_,Z,mO.h.jb,p0,_,_,Z,Z,V6,by omega,by rw[Cf];omega,by rw[Cf];show 1*_<=_;rw[t7,Nat.one_mul];exact small (by omega),λp1 hp1=>?_⟩;rw[Cf,t7,show(List.replicate st.own.length [V.int 0]).flatten=(List.replicate st.own.length (0:Int)).map V.int from by rw[List.map_replicate,List.flatten_replicate_singleton]];have g3:=aI hp1 (.lst ((List.replicate st.own.length (0:Int)).map V.int));have kI:=mO.mono g3;have F3:=F2.trans (Fr.of_same (ρ:=ρ) g3);have n1:H p1=none:=(g1.trans g2).free hp1;have c1:ρ p1=none:=mO.g.none hp1;have AZ:upd H2 p1 (.lst ((List.replicate st.own.length (0:Int)).map V.int)) p1=_:=ak;generalize upd H2 p1 (.lst ((List.replicate st.own.length (0:Int)).map V.int))=H3 at *;have hi:=JT.mpr ho;have bo:=aw.blend (o:=o) wf h1 (by omega);have za:Kd a st.prod:=.inl (by have:(aH st).natAbs<2 ^ 60:=aw.big;omega);refine⟨_,Z,_,Z,A.a,T.hold,A.dx,_,_,Z,kI.h.oa,X.cH,X.vA,Z,A.bt,T.bot,A.db,_,_,Z,kI.h.jq,X.cB,X.KS,Z,_,_,Z,Z,za,_,Z,_,Z,p1,_,_,st.own.idxOf o,Z,Z,AZ,by rw[aE,iW];exact lG hi,?_⟩;rw[show((List.replicate st.own.length (0:Int)).map V.int).set (st.own.idxOf o) (V.int (a*st.prod))=(ko st o a).map V.int from by unfold ko;rw[jI]];have qF:=kI.D5 (o:=.lst ((ko st o a).map V.int)) c1 AZ rfl rfl;have F4:=F3.new (o:=.lst ((ko st o a).map V.int)) n1;have V7:upd H3 p1 (.lst ((ko st o a).map V.int)) p1=_:=ak;generalize upd H3 p1 (.lst ((ko st o a).map V.int))=H4 at *;have zk:Jm.Sz 60 (aH st-a):=bo.big.of_le (by omega);have zG:∀m∈ko st o a,0<=m/\Jm.Sz 8900 m:=λm hm=>by have D3:=bo.add m hm;have h2:=wf.fH;have zl:Jm.Sz 60 a:=bo.big.of_le (by omega);exact⟨D3.1,Jm.Sz.k_ (by have:=j9 bo.l (show 0<=st.prod by omega);omega) D3.2 ((zl.mul bo.prod).mono (by decide))⟩
 exact⟨_,Z,A.a,A.dx,_,Z,qF.h.oa,Z,_,Z,_,Z,_,_,Z,Z,_,Z,_,Z,⟨⟨n,ρ,A,st,aH st-a,aH st,p1,ko st o a,Z,qF,aD.of V7,bo.len,bo.k,by omega,zk,bo.big,zG,aw.bK,aw.stp,yZ wf bo,λρ6 A6 H6 tT e6 f6=>q ρ6 A6 H6 tT e6 (F4.trans f6)⟩⟩⟩
abbrev r_:Stmt:=inClass (top 21) 5
abbrev oN:List Str:=["self","part","amount"]
abbrev IF:List Str:=oN
theorem Gn:aP IF oN (aC r_):=di
theorem EA{T:TC}{e:Ec}(F:ja K T.hold "mishap" "Hold.mishap" r_ f fd)(X:Txt K T)(cW:Mn P w K mg base 1 T.hold "part_of" fB (sN (mG T e)))(mQ:Dn P w K mg base 2 "check_loss" mL (sN (Lp e)))(jH:Mn P w K mg base 1 T.hold "lessen" lF (K9 T)):Mn P w K mg base 3 T.hold "mishap" oN (sN (HP T e)):=by
 refine F.oA Gn λcdv A outer s H vs Q E hr h=>?_;obtain⟨⟨n,ρ,A,st,x,a,rfl,hh,dq⟩⟩:=h;refine⟨_,(@c5.h _ _ _ (aj (cg (bH mQ hr (af (aK K (bZ cW hr (qv 0) (af (qv 1) aq))) (af (qv 2) aq))))
  (au (cg (bZ jH hr (qv 0) (af (qv 1) (af (qv 2) aq))))))),?_⟩
 refine⟨_,Z,A.a,A.dx,_,Z,hh.h.oa,Z,_,Z,⟨⟨n,ρ,A,st,x,Z,hh.h,hh.wf.fF,λhn=>dq.no 3 ?_,λi p qq e1 e2 e3=>?_⟩⟩⟩
 .unfold lP;rw[av (λz=>?_)];obtain⟨j,p,h1,h2⟩:=nv z;exact hn p (aY h1) h2
 obtain⟨k1,_⟩:=hh.h.opt i p qq e2 e3;have hm:x∈fQ st:=by rw[<-e1];exact BF e2
 have fk:=aY e2;have ew:(cL st x).wo=p.wo:=by rw[dN hh.wf fk e1]
 refine⟨qq.1,T.part,qq.2.1,_,_,Z,k1,X.cP,X.xh,Z,_,Z,⟨⟨p.wo,a,Z,λh5=>dq.no 5 ?_,λh1 h6=>dq.no 6 ?_,λh1 h2=>?_⟩⟩⟩
 .unfold lP;rw[ay hm,ay h5]
 .unfold lP;rw[ay hm,av (show ¬ a<1 by omega)];show(if(cL st x).wo<a then _ else _)=_;rw[ew,ay h6]
 have ho:=dq.ok (by unfold lP;rw[ay hm,av (show ¬ a<1 by omega)];show(if(cL st x).wo<a then _ else _)=_;rw[ew,av (by omega)]);exact⟨_,Z,A.a,A.dx,_,Z,hh.h.oa,Z,_,Z,_,Z,⟨⟨n,ρ,A,st,(x,a),Z,hh,⟨p,fk,e1,h2⟩,FL hh.wf (λp' eL e'=>by rw[ng hh.wf eL fk (e'.trans e1.symm)];exact h2),ho⟩⟩⟩
abbrev v5:Stmt:=inClass (top 21) 6
abbrev sW:List Str:=["self","part","amount"]
abbrev NI:List Str:=sW.append ["risen"]
theorem A0:aP NI sW (aC v5):=di
theorem IG{T:TC}{e:Ec}(F:ja K T.hold "rise" "Hold.rise" v5 f fd)(X:Txt K T)(cW:Mn P w K mg base 1 T.hold "part_of" fB (sN (mG T e)))(jh:Dn P w K mg base 1 "check_amount" jg (sN (AH e))):Mn P w K mg base 2 T.hold "rise" sW (sN (Pk T e)):=by
 refine F.oA A0 λcdv A outer s H vs Q E hr h=>?_;obtain⟨⟨n,ρ,A,st,x,a,rfl,hh,dq⟩⟩:=h;refine⟨_,(@c5.h _ _ _ (aj (aQ (i:=3) A0.nd (bZ cW hr (qv 0) (af (qv 1) aq)))
  (aj (cg (bH jh hr (af (qv 2) aq)))
  (au (qy K (qv 3) (qv 2) ZD))))),?_⟩
 refine⟨_,Z,A.a,A.dx,_,Z,hh.h.oa,Z,_,Z,⟨⟨n,ρ,A,st,x,Z,hh.h,hh.wf.fF,λhn=>dq.no 3 ?_,λi p qq e1 e2 e3=>?_⟩⟩⟩
 .unfold sS;rw[av (λz=>?_)];obtain⟨j,p,h1,h2⟩:=nv z;exact hn p (aY h1) h2
 subst e1;obtain⟨k1,k2,k3,k4⟩:=hh.h.opt i p qq e2 e3;have hm:=BF e2;refine⟨_,Z,⟨⟨a,Z,λh5=>dq.no 5 ?_,λh1=>?_⟩⟩⟩
 .unfold sS;rw[ay hm,ay h5]
 have ho:=dq.ok (by unfold sS;rw[ay hm,av (show ¬ a<1 by omega)]);refine⟨_,Z,qq.1,T.part,qq.2.1,_,_,Z,k1,X.cP,X.xh,Z,_,Z,_,_,Z,Z,qq.2.1,_,k1,by show 6<1000;decide,?_⟩;have D3:=hh.h.iR (p1:={ p with wo:=p.wo+a }) hh.g e2 e3 rfl rfl hh.wf.fF;have hw:Wf (Ef st p.nm a):=ym hh.wf λq hq _=>⟨Z,Z,Z,Z,by have:=(hh.wf.jE q hq).1;show 1<=q.wo+a;omega,(hh.wf.jE q hq).2⟩
 have es:Ef st p.nm a={ st with ah:=st.ah.set i { p with wo:=p.wo+a } }:=BG hh.wf.fF e2 _;rw[es]at ho hw;exact ho ρ A _ ⟨hh.g.wr rfl,D3,hw⟩ rfl (Fr.write k3)
abbrev v7:Stmt:=inClass (top 21) 7
abbrev sX:List Str:=["self","part","taker"]
abbrev NJ:List Str:=sX.append ["handed","to","at","tops"]
theorem mR:aP NJ sX (aC v7):=di
theorem II{T:TC}{e:Ec}(F:ja K T.hold "hand" "Hold.hand" v7 f fd)(X:Txt K T)(cW:Mn P w K mg base 1 T.hold "part_of" fB (sN (mG T e)))(bY:Mn P w K mg base 1 T.hold "place_of" eO (sN (zg T e)))(gf:Mn P w K mg base 1 T.hold "tops_of" ji (Bv T))(gc:Mn P w K mg base 1 T.hold "beyond_common" gW (QX T K)):Mn P w K mg base 2 T.hold "hand" sX (sN (Po T e)):=by
 refine F.oA mR λcdv A outer s H vs Q E hr h=>?_;obtain⟨⟨n,ρ,A,st,x,o,rfl,hh,hs,dq⟩⟩:=h;refine⟨_,(@c5.h _ _ _ (aj (aQ (i:=3) mR.nd (bZ cW hr (qv 0) (af (qv 1) aq)))
  (aj (aQ (i:=4) mR.nd (bZ bY hr (qv 0) (af (qv 2) aq)))
  (aj (aQ (i:=5) mR.nd (bZ bY hr (qv 0) (af (aK K (qv 3)) aq)))
  (aj (cX (aU dJ (qv 4) (qv 5) (bq _)) (au Ph) bP)
  (aj (aQ (i:=6) mR.nd (bZ gf hr (qv 0) (af (qv 3) aq)))
  (aj (Pg (qv 6) (qv 4) LC (aF (aO K) (qv 6) (qv 5)) Zn set_list)
  (aj (iT ai (iU (qv 6) (qv 5) set_list))
  (aj (dX K (qv 3) (qv 2))
  (aj (dX K (qv 3) ai)
  (au (dX K (qv 3) (bZ gc hr (qv 0) (af (qv 6) aq)))))))))))))),?_⟩
 have wf:=hh.wf;refine⟨_,Z,A.a,A.dx,_,Z,hh.h.oa,Z,_,Z,⟨⟨n,ρ,A,st,x,Z,hh.h,wf.fF,λhn=>dq.no 3 ?_,λi p qq e1 e2 e3=>?_⟩⟩⟩
 .unfold oG;rw[av (λz=>?_)];obtain⟨j,p,h1,h2⟩:=nv z;exact hn p (aY h1) h2
 have fk:=aY e2;have eg:cL st x=p:=dN wf fk e1;subst e1;have hm:=BF e2;refine⟨_,Z,A.a,A.dx,_,Z,hh.h.oa,Z,_,Z,⟨⟨n,ρ,A,st,o,Z,hh.h,λho=>dq.no 2 (by unfold oG;rw[ay hm,av ho]),λho=>?_⟩⟩⟩;have eR:oG st p.nm o=none:=by unfold oG;rw[ay hm,ay ho]
 have q:=dq.ok eR;have wS:=Pp wf eR hs;obtain⟨k1,k2,k3,k4⟩:=hh.h.opt i p qq e2 e3;have Xb:=wf.ow p fk;refine⟨_,Z,A.a,A.dx,_,Z,hh.h.oa,Z,_,Z,qq.1,T.part,qq.2.1,_,_,Z,k1,X.cP,X.pow,Z,⟨⟨n,ρ,A,st,p.ow,Z,hh.h,λz=>absurd Xb z,λ_=>?_⟩⟩⟩;refine⟨_,Z,_,Z,Z,_,Z,cI (λc=>?_) (λc=>?_)⟩
 .have c':st.own.idxOf o=st.own.idxOf p.ow:=by have:=V.int.inj (dW c);omega
  unfold iJ at q;rw[eg,ay c']at q;exact q ρ A H hh rfl Fr.refl
 have ne:st.own.idxOf o≠st.own.idxOf p.ow:=λz=>c (br (by rw[z]));have hl:=zQ wf fk;have ha:st.own.idxOf p.ow<(aM st p).length:=by rw[hl];exact lR Xb
 have hb:st.own.idxOf o<(aM st p).length:=by rw[hl];exact lR ho
 have at':∀{l:List Int}{j:Nat},j<l.length->kL (l.map V.int) (j:Int)=some (.int (l.getD j 0)):=λ{l j} h=>aB (by rw[bQ,dG,a_ h];rfl);unfold iJ at q wS;rw[eg,av ne,BG wf.fF e2]at q wS;generalize hTT:nu st p o=TT at *;rw[vO]at hTT;refine⟨_,Z,A.a,A.dx,_,Z,hh.h.oa,Z,_,Z,⟨⟨n,ρ,A,st,i,p,qq,Z,hh.h,wf,e2,e3,λl H1 g1 fV hl1=>?_⟩⟩⟩;have cl:ρ l=none:=hh.g.none fV;refine⟨_,Z,_,Z,l,_,_,_,Z,Z,aD.of hl1,at' hb,_,Z,_,Z,l,_,_,_,Z,Z,aD.of hl1,at' ha,_,_,Z,Z,l,_,_,st.own.idxOf o,Z,Z,hl1,by rw[aE];exact lG hb,?_⟩;have m1:(List.map V.int (aM st p)).set (st.own.idxOf o) (.int ((aM st p).getD (st.own.idxOf o) 0+(aM st p).getD (st.own.idxOf p.ow) 0))=((aM st p).set (st.own.idxOf o) ((aM st p).getD (st.own.idxOf o) 0+(aM st p).getD (st.own.idxOf p.ow) 0)).map V.int:=jI.symm;rw[m1];refine⟨_,Z,_,Z,l,_,_,st.own.idxOf p.ow,Z,Z,ak,by rw[aE,eX];exact lG ha,?_⟩;have m2:(((aM st p).set (st.own.idxOf o) ((aM st p).getD (st.own.idxOf o) 0+(aM st p).getD (st.own.idxOf p.ow) 0)).map V.int).set (st.own.idxOf p.ow) (.int 0)=TT.map V.int:=by rw[<-hTT];exact jI.symm
 rw[m2,pP];have g3:aN H (upd H1 l (.lst (TT.map V.int))):=g1.cA fV _;have hl3:upd H1 l (.lst (TT.map V.int)) l=some (.lst (TT.map V.int)):=ak;generalize upd H1 l (.lst (TT.map V.int))=H3 at *;have kI:=hh.mono g3;have c3:=g3 _ _ k1;have hi:i<st.ah.length:=(dj.mp e2).1;have tl:TT.length=st.own.length:=by rw[<-hTT,FT,hl]
 clear hl1 g1 m1 m2;refine⟨_,Z,_,Z,qq.1,T.part,qq.2.1,_,Z,c3,X.cP,X.pow,by show 6<1000;decide,?_⟩;have hA:=kI.h.iR (p1:={ p with ow:=o }) kI.g e2 e3 rfl rfl wf.fF;have gA:Gh ρ (upd H3 qq.1 (.ins T.part qq.2.1 (dg { p with ow:=o } qq.2.2))):=kI.g.wr rfl;have FA:Fr n ρ H ρ (upd H3 qq.1 (.ins T.part qq.2.1 (dg { p with ow:=o } qq.2.2))):=(Fr.of_same g3).trans (Fr.write k3);have kA:upd H3 qq.1 (.ins T.part qq.2.1 (dg { p with ow:=o } qq.2.2)) qq.1=some (.ins T.part qq.2.1 (dg { p with ow:=o } qq.2.2)):=ak;have nA:∀b,upd H3 qq.1 (.ins T.part qq.2.1 (dg { p with ow:=o } qq.2.2)) b=none->H b=none:=λb h=>g3.free (j6 h);have lA:upd H3 qq.1 (.ins T.part qq.2.1 (dg { p with ow:=o } qq.2.2)) l=some (.lst (TT.map V.int)):=by rw[az (λz=>by rw[z,k3]at cl;cases cl)];exact hl3
 show vf _ _ _ _ (upd H3 qq.1 (.ins T.part qq.2.1 (dg { p with ow:=o } qq.2.2)));generalize upd H3 qq.1 (.ins T.part qq.2.1 (dg { p with ow:=o } qq.2.2))=H4 at *;refine⟨_,Z,qq.1,T.part,qq.2.1,_,Z,kA,X.cP,X.Hq,by show 6<1000;decide,?_⟩;have ndA:((st.ah.set i { p with ow:=o }).map (·.nm)).Nodup:=by rw[jI,mE (by rw[bQ,e2];rfl)];exact wf.fF
 have hB:=hA.iR (i:=i) (p1:={ p with ow:=o,sc:=1 }) gA (h_ hi) e3 rfl rfl ndA;have gB:Gh ρ (upd H4 qq.1 (.ins T.part qq.2.1 (dg { p with ow:=o,sc:=1 } qq.2.2))):=gA.wr rfl;have FB:Fr n ρ H ρ (upd H4 qq.1 (.ins T.part qq.2.1 (dg { p with ow:=o,sc:=1 } qq.2.2))):=FA.trans (Fr.write k3);have kB:upd H4 qq.1 (.ins T.part qq.2.1 (dg { p with ow:=o,sc:=1 } qq.2.2)) qq.1=some (.ins T.part qq.2.1 (dg { p with ow:=o,sc:=1 } qq.2.2)):=ak;have lB:upd H4 qq.1 (.ins T.part qq.2.1 (dg { p with ow:=o,sc:=1 } qq.2.2)) l=some (.lst (TT.map V.int)):=by rw[az (λz=>by rw[z,k3]at cl;cases cl)];exact lA
 have nB:∀b,upd H4 qq.1 (.ins T.part qq.2.1 (dg { p with ow:=o,sc:=1 } qq.2.2)) b=none->H b=none:=λb h=>nA b (j6 h);have Xc:(st.ah.set i { p with ow:=o }).set i { p with ow:=o,sc:=1 }=st.ah.set i { p with ow:=o,sc:=1 }:=oq ..;have hB:aR T n ρ A (upd H4 qq.1 (.ins T.part qq.2.1 (dg { p with ow:=o,sc:=1 } qq.2.2))) { st with ah:=st.ah.set i { p with ow:=o,sc:=1 } }:=by rw[<-Xc];exact hB
 generalize hH5:upd H4 qq.1 (HO.ins T.part qq.2.1 (aZ _ _ _))=H5;have agt:upd H4 qq.1 (.ins T.part qq.2.1 (dg { p with ow:=o,sc:=1 } qq.2.2))=H5:=hH5;rw[agt]at hB gB FB kB lB nB;clear hA gA FA kA nA lA;have ol:=wf.kP;refine⟨_,Z,A.a,A.dx,_,Z,hB.oa,Z,_,Z,⟨⟨n,ρ,A,_,l,TT,Z,hB,aD.of lB,by show _=st.bU.length;rw[tl,wf.f7],by omega,λr H6 g6 hr0 hr1=>?_⟩⟩⟩;have cr:ρ r=none:=gB.none hr0;have h6:=hB.mono g6;have G6:=gB.same g6;have F6:Fr n ρ H (bO ρ r (n,21,p.nm)) H6:=(FB.trans (Fr.of_same (ρ:=ρ) g6)).jw (nB _ hr0);have hC:aR T n (bO ρ r (n,21,p.nm)) A H6 _:=h6.same ⟨λ_ _ e=>e,λb u x w _ hc he=>⟨he,by rw[b7 (λz=>by rw[z,cr]at hc;cases hc)];exact hc⟩⟩;have GC:Gh (bO ρ r (n,21,p.nm)) H6:=G6.color hr1 rfl;have ndB:((st.ah.set i { p with ow:=o,sc:=1 }).map (·.nm)).Nodup:=by rw[jI,mE (by rw[bQ,e2];rfl)];exact wf.fF
 have hD:=hC.VR (p1:={ p with ow:=o,sc:=1,row:=lO st TT }) GC (h_ hi) e3 rfl cY hr1 ndB;refine⟨_,Z,qq.1,T.part,qq.2.1,_,Z,g6 _ _ kB,X.cP,X.KR,by show 6<1000;decide,?_⟩;refine q _ { A with qs:=A.qs.set i (qq.1,qq.2.1,r) } _ ⟨GC.wr rfl,?_,wS⟩ rfl (F6.trans (Fr.write (t:=20) (x:=p.nm) (by rw[b7 (λz=>by rw[<-z,k3]at cr;cases cr)];exact k3)));have eS2:(st.ah.set i { p with ow:=o,sc:=1 }).set i { p with ow:=o,sc:=1,row:=lO st TT }=st.ah.set i { p with ow:=o,sc:=1,row:=lO st TT }:=oq ..;rw[<-eS2];exact hD
abbrev v8:Stmt:=inClass (top 21) 8
abbrev sY:List Str:=["self","part"]
abbrev NK:List Str:=sY.append ["leaving","gains"]
theorem v9:aP NK sY (aC v8):=di
theorem IJ{T:TC}{e:Ec}(F:ja K T.hold "land" "Hold.land" v8 f fd)(X:Txt K T)(cW:Mn P w K mg base 1 T.hold "part_of" fB (sN (mG T e)))(bY:Mn P w K mg base 1 T.hold "place_of" eO (u_ T))(gf:Mn P w K mg base 1 T.hold "tops_of" ji (Bv T))(IK:Mn P w K mg base 4 T.hold "shares" oK (Ej T))(i8:mg "zip"=none):Mn P w K mg base 5 T.hold "land" sY (sN (Pq T e)):=by
 refine F.oA v9 λcdv A outer s H vs Q E hr h=>?_;obtain⟨⟨n,ρ,A,st,x,rfl,hh,ld,dq⟩⟩:=h;refine⟨_,(@c5.h _ _ _ (aj (aQ (i:=2) v9.nd (bZ cW hr (qv 0) (af (qv 1) aq)))
  (aj (cg (kU oU oR oS eV (aK K (qv 0)) (af (iS (af (aK K (qv 2)) (af (aK K (qv 2)) (af (aK K (qv 2)) (af (bZ IK hr (qv 0) (af (qv 1) aq)) aq))))) aq)))
  (aj (pU (i:=3) ["purse","top","leaving"] [none,none,some 2] v9.nd rfl rfl rfl (rR K (by rfl) i8 (af (aK K (qv 0)) (af (bZ gf hr (qv 0) (af (qv 2) aq)) aq))) (λ_ _ _ _=>(iL K (n:=2) rfl (cS (aS (i:=0) (show List.Nodup (["purse","top","leaving"] :List Str)from by decide +kernel)) (cS (aS (i:=1) (show List.Nodup (["purse","top","leaving"] :List Str)from by decide +kernel)) iK)))) (λ_ _ _ _=>(aG cE (qv 0) (aG gM (aK K (qv 2)) (qv 1)))) rfl (by rfl) (by rfl))
  (aj (Pg (qv 3) (bZ bY hr (qv 0) (af (aK K (qv 2)) aq)) LC (aG gM (aK K (qv 2)) (aK K (aK K (qv 0)))) Zo set_list)
  (aj (dX K (qv 0) (qv 3))
  (au (Pj (aK K (qv 0)) (qv 1))))))))),?_⟩
 refine⟨_,Z,A.a,A.dx,_,Z,hh.h.oa,Z,_,Z,⟨⟨n,ρ,A,st,x,Z,hh.h,hh.wf.fF,λhn=>dq.no 3 ?_,λi p qq e1 e2 e3=>?_⟩⟩⟩
 .unfold uX;rw[av (λz=>?_)];obtain⟨j,p,h1,h2⟩:=nv z;exact hn p (aY h1) h2
 subst e1;have wf:=hh.wf;have fk:=aY e2;have eR:uX st p.nm=none:=ay (BF e2);have q:=dq.ok eR;have wS:=Pr wf eR ld;rw[rT wf fk]at q wS;obtain⟨k1,k2,k3,k4⟩:=hh.h.opt i p qq e2 e3;obtain⟨SI,hv0,hA0⟩:=hh.h.rm;refine⟨_,Z,A.a,T.hold,A.dx,_,_,Z,hh.h.oa,X.cH,X.has,Z,.inl ⟨Z,_,aD.of hv0⟩,_,Z,qq.1,T.part,qq.2.1,_,_,Z,k1,X.cP,X.WM,Z,_,Z,qq.1,T.part,qq.2.1,_,_,Z,k1,X.cP,X.pow,Z,_,Z,qq.1,T.part,qq.2.1,_,_,Z,k1,X.cP,X.xh,Z,_,Z,A.a,A.dx,_,Z,hh.h.oa,Z,_,Z,⟨⟨n,ρ,A,st,i,p,Z,hh,e2,ld.kn,λr ws H1 g_ F1 hr0 hr1 cr1 sh1=>?_⟩⟩⟩;have hi:i<st.ah.length:=(dj.mp e2).1;refine⟨(iM 4),λt ht=>?_⟩;have g2:=aI ht (.tup [.str p.nm,.str p.ow,.int p.wo,.ref r]);have fr1:∀b,H1 b=none->H b=none:=λb hb=>F1.ads g_.g hb;have fr2:∀b,upd H1 t (.tup [.str p.nm,.str p.ow,.int p.wo,.ref r]) b=none->H b=none:=λb hb=>fr1 b (j6 hb);have mO:=g_.mono g2;have F2:=F1.trans (Fr.of_same (ρ:=ρ) g2);have hr2:=g2 _ _ hr1;have sh2:=sh1.mono g2.tups;have ht2:upd H1 t (.tup [.str p.nm,.str p.ow,.int p.wo,.ref r]) t=some (.tup [.str p.nm,.str p.ow,.int p.wo,.ref r]):=ak;show rD _ (upd H1 t (.tup [.str p.nm,.str p.ow,.int p.wo,.ref r])) _;generalize upd H1 t (.tup [.str p.nm,.str p.ow,.int p.wo,.ref r])=H2 at *;clear g2 sh1 hr1 F1;have cH:aR T n (bO ρ r (n,30,⟨#[]⟩)) A H2 { st with kn:=st.kn+100 }:=mO.h.same ⟨λ_ _ e=>e,λb u x w _ hc he=>⟨he,by rw[b7 (λz=>by rw[z,cr1]at hc;cases hc)];exact hc⟩⟩;have cG:Gh (bO ρ r (n,30,⟨#[]⟩)) H2:=mO.g.color hr2 rfl;have cF:Fr n ρ H (bO ρ r (n,30,⟨#[]⟩)) H2:=F2.jw hr0;have cr2:bO ρ r (n,30,⟨#[]⟩) r=some (n,30,⟨#[]⟩):=cY;generalize bO ρ r (n,30,⟨#[]⟩)=ρ2 at *;clear mO F2;obtain⟨Ih,hv2,hA2⟩:=cH.rm;have hal:Ih.length<1000:=by rw[show Ih.length=st.bD.length from hA2.length];exact ld.bD
 refine⟨A.as,Ih,_,Z,Z,hv2,dF (by omega),?_⟩;have h3:aR T n ρ2 A (upd H2 A.as (.lst (Ih++[.ref t]))) { st with bD:=st.bD++[⟨p.nm,p.ow,p.wo,mC st p⟩],kn:=st.kn+100 }:=cH.aan (x:=⟨p.nm,p.ow,p.wo,mC st p⟩) cG hv2 ht2 hr2 cr2 sh2;have G3:=cG.wr (a:=A.as) (o:=.lst (Ih++[.ref t])) rfl;have F3:=cF.trans (Fr.write (o:=.lst (Ih++[.ref t])) cH.jm);have WW:∀b,upd H2 A.as (.lst (Ih++[.ref t])) b=none->H b=none:=λb hb=>fr2 b (j6 hb);have wf3:Wf { st with bD:=st.bD++[⟨p.nm,p.ow,p.wo,mC st p⟩],kn:=st.kn+100 }:={ wf with vB:=wS.vB,Hr:=wS.Hr }
 generalize upd H2 A.as (.lst (Ih++[.ref t]))=H3 at *;clear cH cG cF hv2 hA2 ht2 hr2 sh2;obtain⟨j1,j2,_,_⟩:=h3.opt i p qq e2 e3;refine⟨_,Z,A.a,T.hold,A.dx,_,_,Z,h3.oa,X.cH,X.Am,Z,_,Z,A.a,A.dx,_,Z,h3.oa,Z,_,Z,⟨⟨n,ρ2,A,_,i,p,qq,Z,h3,wf3,e2,e3,λl H4 g4 fV hl1=>?_⟩⟩⟩;have hl1:H4 l=some (.lst ((aM st p).map V.int)):=hl1;have tl:=zQ wf fk;have fh:=wf.kP;have mz:=wf.mz;have j4:=g4 _ _ j1;have zw:=ld.wo p fk;refine⟨_,_,_,_,_,_,Z,.lst (aD.of (g4 _ _ h3.lu)),.lst (aD.of hl1),λacc hacc=>?_⟩;refine Ai (K:=K) (n:=st.bK.length) [0,1] (λi out H5=>aN H4 H5/\out=(List.zipWith (λu t=>u+p.wo*t) (st.bK.take i) ((aM st p).take i)).map V.int) (by decide) (by omega) ⟨aI hacc _,Z⟩ (λi out H5 hi _ hp=>⟨aD.of (hp.1 _ _ (g4 _ _ h3.lu)),aD.of (hp.1 _ _ hl1),by rw[aE];exact hi,by rw[aE,tl];omega⟩)
  (λout H5 _ hp=>⟨aD.of (hp.1 _ _ (g4 _ _ h3.lu)),aD.of (hp.1 _ _ hl1),.inl (by rw[aE];exact aL _)⟩) ?_ ?_
 .rintro k x out H5 H6 hk agu ha ⟨g5,e5⟩ ⟨pp,x1,y1,hpp,rfl,rfl,e6,e7⟩;obtain⟨u,rfl,eu⟩:=gO e6;obtain⟨c,rfl,ec⟩:=gO e7;have g6:=aI hpp (.tup [.int u,.int c]);refine⟨pp,_,Z,dU.of ak,Z,_,Z,_,Z,qq.1,T.part,qq.2.1,_,_,Z,(g5.trans g6) _ _ j4,X.cP,X.xh,Z,_,Z,_,_,Z,Z,.inl (by have:p.wo.natAbs<2 ^ 60:=zw;omega),_,_,Z,Z,g6 _ _ ha,(g5.trans g6).cA hacc _,?_⟩;rw[mD _ eu ec,e5,bL];rfl
 rintro out H5 agu ha5 ⟨g5,e5⟩;rw[cM,show st.bK.length=(aM st p).length by omega,cM]at e5;have e5:out=(gx st p).map V.int:=e5;subst e5;have abH:H3 acc=none:=g4.free hacc;have g35:=g4.trans g5;have h5:=h3.mono g35;have G5:=G3.same g35;have F5:=F3.trans (Fr.of_same (ρ:=ρ2) g35);have ca:ρ2 acc=none:=G3.none abH;have j5:=g5 _ _ j4;have hown:=wf.ow p fk;have gl:=AM wf fk;have hix:st.own.idxOf p.ow<(gx st p).length:=by rw[gl];exact lR hown
 refine⟨_,Z,_,Z,A.a,A.dx,_,Z,h5.oa,Z,_,Z,qq.1,T.part,qq.2.1,_,_,Z,j5,X.cP,X.pow,Z,⟨⟨n,ρ2,A,_,p.ow,Z,h5,hown,?_⟩⟩⟩;have at':kL ((gx st p).map V.int) ((st.own.idxOf p.ow:Nat):Int)=some (.int ((gx st p).getD (st.own.idxOf p.ow) 0)):=aB (by rw[bQ,dG,a_ hix];rfl);refine⟨acc,_,_,_,Z,Z,aD.of ha5,at',_,Z,qq.1,T.part,qq.2.1,_,_,Z,j5,X.cP,X.xh,Z,_,Z,A.a,T.hold,A.dx,_,_,Z,h5.oa,X.cH,X.vA,Z,A.bt,T.bot,A.db,_,_,Z,h5.jq,X.cB,X.KS,Z,_,_,Z,Z,.inl (by have:p.wo.natAbs<2 ^ 60:=zw;omega),_,_,Z,Z,acc,_,_,st.own.idxOf p.ow,Z,Z,ha5,by rw[aE];exact lG hix,?_⟩;have m1:((gx st p).map V.int).set (st.own.idxOf p.ow) (.int ((gx st p).getD (st.own.idxOf p.ow) 0-p.wo*st.prod))=(lQ st p).map V.int:=jI.symm;have G6:=G5.wr (a:=acc) (o:=.lst ((lQ st p).map V.int)) rfl;have h6:=h5.same (K3 (o:=.lst ((lQ st p).map V.int)) ca ha5 rfl);have n6:H acc=none:=WW acc abH;have F6:=F5.new (o:=.lst ((lQ st p).map V.int)) n6;show vf _ _ _ _ (upd H5 acc (.lst (((gx st p).map V.int).set (st.own.idxOf p.ow) (.int ((gx st p).getD (st.own.idxOf p.ow) 0-p.wo*st.prod)))));rw[m1];have yx:upd H5 acc (.lst ((lQ st p).map V.int)) acc=some (.lst ((lQ st p).map V.int)):=ak;generalize upd H5 acc (.lst ((lQ st p).map V.int))=H6 at *;refine⟨_,Z,_,Z,A.a,T.hold,A.dx,_,Z,h6.oa,X.cH,X.Am,by show 7<1000;decide,?_⟩;obtain⟨h7,G7⟩:=Au (t:=7) h6 G6 ca yx rfl;have F7:Fr n ρ H (bO ρ2 acc (n,7,⟨#[]⟩)) H6:=F6.jw n6;have h8:=h7.SJ G7 acc _ yx cY;have G8:=G7.wr (a:=A.a) (o:=.ins T.hold A.dx (jZ { A with pu:=acc })) rfl;have F8:=F7.trans (Fr.write (o:=.ins T.hold A.dx (jZ { A with pu:=acc })) h7.ca);rw[show aZ "purses" (V.ref acc) (jZ A)=jZ { A with pu:=acc }from rfl];generalize upd H6 A.a (.ins T.hold A.dx (jZ { A with pu:=acc }))=H8 at *;have hv8:=u9 wf.fF e2 e3;have dk:=CA wf.fF hh.h.ql e2;refine⟨_,Z,A.a,T.hold,A.dx,_,_,Z,h8.oa,X.cH,X.hab,Z,_,Z,A.ab,_,Sum.inr p.nm,Z,h8.fj,Z,?_,?_⟩
 .show (dY (cZ st.ah A.qs) (Sum.inr p.nm)).isSome=true;rw[hv8];rfl
 show Q .cy (upd H8 A.ab (.dK (mZ (cZ st.ah A.qs) (Sum.inr p.nm))));rw[dk];have hi2:i<A.qs.length:=by rw[hh.h.ql];exact hi
 have h9:=h8.KQ G8 (st.ah.eraseIdx i) (A.qs.eraseIdx i) (by rw[P_ hi,P_ hi2,hh.h.ql]) (λj x y ex ey=>by obtain⟨k,a1,a2⟩:=Aq ex ey;exact h8.opt k x y a1 a2)
 rw[AL wf.fF e2]at q wS;exact q _ { { A with pu:=acc }with qs:=A.qs.eraseIdx i } _ ⟨G8.wr rfl,h9,wS⟩ rfl (F8.trans (Fr.write h8.gQ))
abbrev uA:Stmt:=inClass (top 21) 9
abbrev qK:List Str:=["self","part","name","amount","weight"]
abbrev Mb:List Str:=qK.append ["source"]
theorem zU:aP Mb qK (aC uA):=di
theorem Gp{T:TC}{e:Ec}(F:ja K T.hold "sever" "Hold.sever" uA f fd)(X:Txt K T)(cW:Mn P w K mg base 1 T.hold "part_of" fB (sN (mG T e)))(jy:Mn P w K mg base 3 T.hold "check_new" jx (sN (xR T e)))(lI:Mn P w K mg base 1 T.hold "stow" nY (K0 T))(yu:Cn P w K mg base 1 "Part" T.part ["self","name","owner","worth","weight","scale","row"] (FF T K)):Mn P w K mg base 4 T.hold "sever" qK (sN (Lx T e)):=by
 refine F.oA zU λcdv A outer s H vs Q E hr h=>?_;obtain⟨⟨n,ρ,A,st,x,y,a,we,rfl,Mc,hy0,hl1,hl2,dq⟩⟩:=h;refine⟨_,(@c5.h _ _ _ (aj (aQ (i:=5) zU.nd (bZ cW hr (qv 0) (af (qv 1) aq)))
  (aj (cg (bZ jy hr (qv 0) (af (qv 2) aq)))
  (aj (cX (jF (bW.pt (BC (aU sP (qv 3) ai (bq _)) (yk (aU sP (qv 4) ai (bq _)))))) (au gK) bP)
  (aj (cX (jF (bW.pt (BC (aU JL (qv 3) (aK K (qv 5)) (bq _)) (yk (aU jM (qv 4) (aK K (qv 5)) (bq _)))))) (au gK) bP)
  (aj (qy K (qv 5) (qv 3) Kg)
  (aj (qy K (qv 5) (qv 4) Kg)
  (au (cg (bZ lI hr (qv 0) (af (WX yu hr (af (qv 2) (af (aK K (qv 5)) (af (qv 3) (af (qv 4) (af (aK K (qv 5)) (af (aK K (qv 5)) aq))))))) aq))))))))))),?_⟩
 refine⟨_,Z,A.a,A.dx,_,Z,Mc.h.oa,Z,_,Z,⟨⟨n,ρ,A,st,x,Z,Mc.h,Mc.wf.fF,λhn=>dq.no 3 ?_,λi p qq e1 e2 e3=>?_⟩⟩⟩
 .unfold kC;rw[av (λz=>?_)];obtain⟨j,p,h1,h2⟩:=nv z;exact hn p (aY h1) h2
 have fk:=aY e2;have eg:cL st x=p:=dN Mc.wf fk e1;subst e1;have hm:=BF e2;have eR:kC st p.nm y a we=match newR st y with
  | some i=>some i
  | none=>if a<1\/we<0 then some 5 else if p.wo<=a\/p.we<we then some 6 else none:=by unfold kC;rw[ay hm,eg];first|done|(cases newR st y <;> rfl)
 refine⟨_,Z,A.a,A.dx,_,Z,Mc.h.oa,Z,_,Z,⟨⟨n,ρ,A,st,y,Z,Mc.h,hy0,λi hi=>dq.no i (by rw[eR,hi]),λhnew H1 g1=>?_⟩⟩⟩;rw[hnew]at eR;have eR:kC st p.nm y a we=if a<1\/we<0 then some 5 else if p.wo<=a\/p.we<we then some 6 else none:=eR;have hh:=Mc.mono g1;obtain⟨k1,k2,k3,k4⟩:=hh.h.opt i p qq e2 e3;by_cases hb:a<1\/we<0
 .have rq:=dq.no 5 (by rw[eR,ay hb]);refine⟨true,⟨_,Z,_,_,Z,Z,_,Z,cI (λc=>⟨Z,Z⟩) λc=>⟨_,Z,_,_,Z,Z,_,Z,br (hb.resolve_left λz=>c (br z)),Z⟩⟩,mw (rq 0 H1 g1)⟩
 rw[av hb]at eR;refine⟨false,⟨_,Z,_,_,Z,Z,_,Z,cI (λc=>absurd (dW c) (by omega)) λ_=>⟨_,Z,_,_,Z,Z,_,Z,dB (by omega),Z⟩⟩,aW ?_⟩;by_cases hb2:p.wo<=a\/p.we<we
 .have rq:=dq.no 6 (by rw[eR,ay hb2]);refine⟨true,⟨_,Z,_,Z,qq.1,T.part,qq.2.1,_,_,Z,k1,X.cP,X.xh,Z,_,_,Z,Z,_,Z,cI (λc=>⟨Z,Z⟩) λc=>⟨_,Z,_,Z,qq.1,T.part,qq.2.1,_,_,Z,k1,X.cP,X.WN,Z,_,_,Z,Z,_,Z,br (hb2.resolve_left λz=>c (br z)),Z⟩⟩,mw (rq 0 H1 g1)⟩
 rw[av hb2]at eR;have q:=dq.ok eR;refine⟨false,⟨_,Z,_,Z,qq.1,T.part,qq.2.1,_,_,Z,k1,X.cP,X.xh,Z,_,_,Z,Z,_,Z,cI (λc=>absurd (dW c) (by show ¬ p.wo<=a;omega)) λ_=>⟨_,Z,_,Z,qq.1,T.part,qq.2.1,_,_,Z,k1,X.cP,X.WN,Z,_,_,Z,Z,_,Z,dB (by show ¬ p.we<we;omega),Z⟩⟩,aW ?_⟩;refine⟨_,Z,qq.1,T.part,qq.2.1,_,_,Z,k1,X.cP,X.xh,Z,_,Z,_,_,Z,Z,qq.2.1,_,k1,by show 6<1000;decide,?_⟩;have wA:Wf (nW st p.nm λp=>{ p with wo:=p.wo-a }):=ym hh.wf λp' eL e=>by rw[ng hh.wf eL fk e];exact⟨Z,Z,Z,Z,by show 1<=p.wo-a;omega,(hh.wf.jE p fk).2⟩
 have wB:Wf (nW st p.nm λp=>{ p with wo:=p.wo-a,we:=p.we-we }):=ym hh.wf λp' eL e=>by rw[ng hh.wf eL fk e];exact⟨Z,Z,Z,Z,by show 1<=p.wo-a;omega,by show 0<=p.we-we;omega⟩
 have wS:=Ly hh.wf eR hl1 hl2;have esA:nW st p.nm (λp=>{ p with wo:=p.wo-a })={ st with ah:=st.ah.set i { p with wo:=p.wo-a } }:=BG hh.wf.fF e2 _;have esB:nW st p.nm (λp=>{ p with wo:=p.wo-a,we:=p.we-we })={ st with ah:=st.ah.set i { p with wo:=p.wo-a,we:=p.we-we } }:=BG hh.wf.fF e2 _;have hi:i<st.ah.length:=(dj.mp e2).1;have hA:=hh.h.iR (p1:={ p with wo:=p.wo-a }) hh.g e2 e3 rfl rfl hh.wf.fF;have gA:Gh ρ (upd H1 qq.1 (.ins T.part qq.2.1 (dg { p with wo:=p.wo-a } qq.2.2))):=hh.g.wr rfl;have FA:Fr n ρ H ρ (upd H1 qq.1 (.ins T.part qq.2.1 (dg { p with wo:=p.wo-a } qq.2.2))):=(Fr.of_same g1).trans (Fr.write k3);have kA:upd H1 qq.1 (.ins T.part qq.2.1 (dg { p with wo:=p.wo-a } qq.2.2)) qq.1=some (.ins T.part qq.2.1 (dg { p with wo:=p.wo-a } qq.2.2)):=ak;have nA:∀b,upd H1 qq.1 (.ins T.part qq.2.1 (dg { p with wo:=p.wo-a } qq.2.2)) b=none->H b=none:=λb h=>g1.free (j6 h);show vf _ _ _ _ (upd H1 qq.1 (.ins T.part qq.2.1 (dg { p with wo:=p.wo-a } qq.2.2)));generalize upd H1 qq.1 (.ins T.part qq.2.1 (dg { p with wo:=p.wo-a } qq.2.2))=H2 at *;refine⟨_,Z,qq.1,T.part,qq.2.1,_,_,Z,kA,X.cP,X.WN,Z,_,Z,_,_,Z,Z,qq.2.1,_,kA,by show 6<1000;decide,?_⟩;have hB:=hA.iR (i:=i) (p1:={ p with wo:=p.wo-a,we:=p.we-we }) gA (h_ hi) e3 rfl rfl (by have:=wA.fF;rw[esA]at this;exact this);have Xc:(st.ah.set i { p with wo:=p.wo-a }).set i { p with wo:=p.wo-a,we:=p.we-we }=st.ah.set i { p with wo:=p.wo-a,we:=p.we-we }:=oq ..;have gB:Gh ρ (upd H2 qq.1 (.ins T.part qq.2.1 (dg { p with wo:=p.wo-a,we:=p.we-we } qq.2.2))):=gA.wr rfl;have FB:Fr n ρ H ρ (upd H2 qq.1 (.ins T.part qq.2.1 (dg { p with wo:=p.wo-a,we:=p.we-we } qq.2.2))):=FA.trans (Fr.write k3);have kB:upd H2 qq.1 (.ins T.part qq.2.1 (dg { p with wo:=p.wo-a,we:=p.we-we } qq.2.2)) qq.1=some (.ins T.part qq.2.1 (dg { p with wo:=p.wo-a,we:=p.we-we } qq.2.2)):=ak;generalize hH3:upd H2 qq.1 (HO.ins T.part qq.2.1 (aZ _ _ _))=H3;have Wb:upd H2 qq.1 (.ins T.part qq.2.1 (dg { p with wo:=p.wo-a,we:=p.we-we } qq.2.2))=H3:=hH3;have nB:∀b,H3 b=none->H b=none:=λb h=>nA b (j6 (by rw[Wb];exact h));rw[Wb]at hB gB FB kB;have kI:HH T n ρ A H3 (nW st p.nm λp=>{ p with wo:=p.wo-a,we:=p.we-we }):=⟨gB,by rw[esB,<-Xc];exact hB,wB⟩
 obtain⟨_,r3,_,_⟩:=hB.opt i { p with wo:=p.wo-a,we:=p.we-we } qq (by show((st.ah.set i _).set i _)[i]?=_;rw[Xc];exact h_ hi) e3;clear hA hB gA FA kA hH3 Wb;refine⟨_,Z,A.a,A.dx,_,Z,kI.h.oa,Z,_,Z,_,Z,qq.1,T.part,qq.2.1,_,_,Z,kB,X.cP,X.pow,Z,_,Z,_,Z,_,Z,qq.1,T.part,qq.2.1,_,_,Z,kB,X.cP,X.Hq,Z,_,Z,qq.1,T.part,qq.2.1,_,_,Z,kB,X.cP,X.KR,Z,?_⟩;intro v dv hv hdv hvd;have PF:upd (upd H3 dv (.own v)) v (.ins T.part dv []) qq.2.2=some (.lst (p.row.map V.int)):=by rw[az (aJ r3 hv),az (aJ r3 hdv)];exact r3
 refine⟨⟨v,dv,qq.2.2,⟨y,p.ow,a,we,p.sc,p.row⟩,Z,ak,aD.of PF,λrr H6 hrr k6 hy6 V9=>⟨Z,?_⟩⟩⟩;have L0:H3 rr=none:=j6 (j6 hrr);have g6:aN H3 H6:=λb u e=>k6 b u (by rw[az (aJ e hv),az (aJ e hdv)];exact e) (aJ e hv);have tT:=kI.mono g6;have F6:=FB.trans (Fr.of_same (ρ:=ρ) g6);unfold qx at wS q;rw[eg]at wS q;exact⟨⟨n,ρ,A,_,(v,dv,rr),_,Z,tT,hy6,V9,kI.g.none hv,kI.g.none L0,(kX eR).2.1.2,wS,λρ' A' H' a1 a2 a3=>q ρ' A' H' a1 a2 (a3.fr F6 (nB _ hv) (nB _ L0))⟩⟩
abbrev nM:Stmt:=inClass (top 21) 26
abbrev jz:List Str:=["self","place"]
abbrev CT:List Str:=jz.append ["own"]
theorem uM:aP CT jz (aC nM):=di
theorem BO{T:TC}(F:ja K T.hold "stake_top" "Hold.stake_top" nM f fd)(X:Txt K T)(gX:Mn P w K mg base 1 T.hold "whole" kG (Bw T))(eU:mg "sum"=none):Mn P w K mg base 2 T.hold "stake_top" jz (zu T):=by
 refine F.oA uM λcdv A outer s H vs Q E hr h=>?_;obtain⟨⟨n,ρ,A,st,k,rfl,h,ok,hk,q⟩⟩:=h;refine⟨_,(@c5.h _ _ _ (aj (aQ (i:=2) uM.nd (bh (i_ K rfl) (by rfl) eU tZ (af (Ln (iw ["part","place"] [none,some 1] rfl (BB (aK K (qv 0))) (λ_ _ _ _=>(aS (i:=0) (show List.Nodup (["part","place"] :List Str)from by decide +kernel))) (λ_ _ _ _=>(aG eW (aG gM (aK K (qv 0)) (aK K (qv 0))) (aF (aO K) (aK K (qv 0)) (qv 1)))) rfl (by rfl))) aq)))
  (au (bw (aG cE (qv 2) (aG gM (FO gX hr (qv 0)) (aF (aO K) (aK K (qv 0)) (qv 1)))))))),?_⟩
 have wf:=ok.wf;have hl:=wf.qh;refine⟨A.ab,_,h.fj,λo=>?_⟩;refine⟨_,Z,A.a,T.hold,A.dx,_,_,Z,fJ h.fj h.oa (λk z=>by cases z),X.cH,X.hab,Z,A.ab,o,_,Z,ak,λacc hacc=>?_⟩;have el:=ye h.ql;refine iD (n:=st.ah.length) 0 (λi out H1=>aN (upd H A.ab (.gh o (.dK (cZ st.ah A.qs)))) H1/\out=((st.ah.take i).map λp:Pt=>p.wo*p.sc*p.row.getD k 0).map V.int) (by omega) ⟨aI hacc _,Z⟩ (λi out H1 hi _ hp=>⟨hp.1 _ _ ak,by rw[el];exact hi⟩) (λout H1 _ hp=>⟨hp.1 _ _ ak,by rw[el];exact aL _⟩) ?_ ?_
 .rintro i x out H1 H2 hi fh ha ⟨g,e⟩ ⟨rfl,kv,hkv,rfl⟩;have ep:=a_ hi;have fk:=yF hi;obtain⟨qq,eq,h1,h2,_⟩:=h.find ep;rw[yd ep eq]at hkv;cases hkv;generalize st.ah[i]=p at *;have hq:=g _ _ (fJ h.fj h1 (λk z=>by cases z));have hrw:=g _ _ (fJ h.fj h2 (λk z=>by cases z));have hkr:k<p.row.length:=by rw[wf.rows p fk];exact hk
  have s1:Jm.Sz 8000 p.sc:=Jm.Sz.k_ (by have:=wf.qi p fk;have:=wf.fH;omega) (wf.qi p fk).2 wf.big;have hr0:=wf.nK p fk _ (HX hkr);have s2:Jm.Sz 8000 (p.row.getD k 0):=Jm.Sz.k_ hr0.1 hr0.2 wf.big;have s3:=(ok.wo p fk).mul s1;have cm:Kd p.wo p.sc:=.inl (by have:p.wo.natAbs<2 ^ 60:=ok.wo p fk;omega);refine⟨_,Z,qq.1,T.part,qq.2.1,_,_,Z,hq,X.cP,X.xh,Z,_,Z,qq.1,T.part,qq.2.1,_,_,Z,hq,X.cP,X.Hq,Z,_,_,Z,Z,cm,_,Z,qq.1,T.part,qq.2.1,_,_,Z,hq,X.cP,X.KR,Z,_,Z,qq.2.2,_,_,_,Z,Z,aD.of hrw,getD_at hkr,_,_,Z,Z,d9 s3 s2,ha,g.cA hacc _,?_⟩;rw[take_snoc ep,e,bL,bL];rfl
 rintro out H1 fh ha ⟨g,e⟩;rw[cM]at e;have hz:=g _ _ (ak (H:=H) (a:=A.ab) (o:=.gh o (.dK (cZ st.ah A.qs))));have na:acc≠A.ab:=λe=>by rw[e,hz]at ha;cases ha
 refine⟨hz,acc,st.ah.map (λp:Pt=>p.wo*p.sc*p.row.getD k 0),Z,aD.of (by rw[az na,ha,e]),?_⟩;have g2:=vD h.fj g;generalize upd H1 A.ab (.dK (cZ st.ah A.qs))=H2 at *;have h2:=h.mono g2;have hkc:k<st.bU.length:=by rw[wf.f7];exact hk
 refine⟨_,Z,_,Z,A.a,A.dx,_,Z,h2.oa,Z,⟨⟨n,ρ,A,st,Z,h2,hl,λH3 g3=>?_⟩⟩⟩;have h3:=h2.mono g3;exact⟨_,Z,A.a,T.hold,A.dx,_,_,Z,h3.oa,X.cH,X.Al,Z,_,Z,A.cm,_,_,_,Z,Z,aD.of h3.jD,getD_at hkc,_,_,Z,Z,.inl (by have:(aH st).natAbs<2 ^ 60:=ok.wh;omega),_,_,Z,Z,q H3 (g2.trans g3)⟩
abbrev uB:Stmt:=inClass (top 21) 14
abbrev qL:List Str:=["self","owner"]
abbrev Me:List Str:=qL
theorem IL:aP Me qL (aC uB):=di
theorem IM{T:TC}(F:ja K T.hold "stake" "Hold.stake" uB f fd)(X:Txt K T)(d8:Mn P w K mg base 2 T.bot "over" iQ (yf T))(iy:Mn P w K mg base 2 T.hold "stake_top" jz (zu T))(bY:Mn P w K mg base 1 T.hold "place_of" eO (u_ T)):Mn P w K mg base 3 T.hold "stake" qL (LI T):=by refine F.oA IL λcdv A outer s H vs Q E hr h=>?_;obtain⟨⟨n,ρ,A,st,o,rfl,h,ok,ho,q⟩⟩:=h;refine⟨_,(@c5.h _ _ _ (au (bw (bZ d8 hr (aK K (qv 0)) (af (bZ iy hr (qv 0) (af (bZ bY hr (qv 0) (af (qv 1) aq)) aq)) aq))))),?_⟩;have wf:=ok.wf;refine⟨_,Z,A.a,T.hold,A.dx,_,_,Z,h.oa,X.cH,X.vA,Z,A.bt,A.db,_,Z,h.jq,Z,_,Z,A.a,A.dx,_,Z,h.oa,Z,_,Z,A.a,A.dx,_,Z,h.oa,Z,_,Z,⟨⟨n,ρ,A,st,o,Z,h,ho,?_⟩⟩⟩;refine⟨⟨n,ρ,A,st,st.own.idxOf o,Z,h,ok,lR ho,λH1 g1=>?_⟩⟩;have h1:=h.mono g1;exact⟨⟨A.bt,A.db,A.sp,A.kn,st.stp,st.prod,_,Z,h1.jq,h1.nR,wf.m_,wf.rH,wf.big,λr H2 g2 hr2=>q r H2 (g1.trans g2) hr2⟩⟩
abbrev uC:Stmt:=inClass (top 21) 15
abbrev qM:List Str:=["self","owner"]
abbrev Mf:List Str:=qM
theorem IP:aP Mf qM (aC uC):=di
theorem IQ{T:TC}(F:ja K T.hold "purse" "Hold.purse" uC f fd)(X:Txt K T)(d8:Mn P w K mg base 2 T.bot "over" iQ (yf T))(bY:Mn P w K mg base 1 T.hold "place_of" eO (u_ T)):Mn P w K mg base 3 T.hold "purse" qM (Pz T):=by
 refine F.oA IP λcdv A outer s H vs Q E hr h=>?_;obtain⟨⟨n,ρ,A,st,o,rfl,h,wf,ho,q⟩⟩:=h;refine⟨_,(@c5.h _ _ _ (au (bw (bZ d8 hr (aK K (qv 0)) (af (aF (aO K) (aK K (qv 0)) (bZ bY hr (qv 0) (af (qv 1) aq))) aq))))),?_⟩;have hk:st.own.idxOf o<st.bK.length:=by rw[wf.mz];exact lR ho
 refine⟨_,Z,A.a,T.hold,A.dx,_,_,Z,h.oa,X.cH,X.vA,Z,A.bt,A.db,_,Z,h.jq,Z,_,Z,A.a,T.hold,A.dx,_,_,Z,h.oa,X.cH,X.Am,Z,_,Z,A.a,A.dx,_,Z,h.oa,Z,_,Z,⟨⟨n,ρ,A,st,o,Z,h,ho,?_⟩⟩⟩;refine⟨A.pu,_,_,_,Z,Z,aD.of h.lu,getD_at hk,?_⟩;exact⟨⟨A.bt,A.db,A.sp,A.kn,st.stp,st.prod,_,Z,h.jq,h.nR,wf.m_,wf.rH,wf.big,λr H2 g2 hr2=>q r H2 g2 hr2⟩⟩
abbrev qN:Stmt:=inClass (top 21) 16
abbrev nD:List Str:=["self","owner"]
abbrev Gq:List Str:=nD.append ["place","landed"]
theorem qO:aP Gq nD (aC qN):=di
theorem EB{T:TC}(F:ja K T.hold "fortune" "Hold.fortune" qN f fd)(X:Txt K T)(d8:Mn P w K mg base 2 T.bot "over" iQ (yf T))(iy:Mn P w K mg base 2 T.hold "stake_top" jz (zu T))(bY:Mn P w K mg base 1 T.hold "place_of" eO (u_ T))(eU:mg "sum"=none):Mn P w K mg base 3 T.hold "fortune" nD (TV T):=by
 refine F.oA qO λcdv A outer s H vs Q E hr h=>?_;obtain⟨⟨n,ρ,A,st,o,rfl,h,ok,ho,q⟩⟩:=h;refine⟨_,(@c5.h _ _ _ (aj (aQ (i:=2) qO.nd (bZ bY hr (qv 0) (af (qv 1) aq)))
  (aj (aQ (i:=3) qO.nd (bh (i_ K rfl) (by rfl) eU tZ (af (vK ["name","holder","worth","shares","owner"] [none,none,none,none,some 1] rfl (c_ K (aK K (qv 0))) (λ_ _ _ _=>(iL K (n:=4) rfl (cS (aS (i:=0) (show List.Nodup (["name","holder","worth","shares","owner"] :List Str)from by decide +kernel)) (cS (aS (i:=1) (show List.Nodup (["name","holder","worth","shares","owner"] :List Str)from by decide +kernel)) (cS (aS (i:=2) (show List.Nodup (["name","holder","worth","shares","owner"] :List Str)from by decide +kernel)) (cS (aS (i:=3) (show List.Nodup (["name","holder","worth","shares","owner"] :List Str)from by decide +kernel)) iK)))))) (λ_ _ _ _=>(qv 2)) (λ_ _ _ _=>(aU dJ (qv 1) (qv 4) (bq _))) rfl (by rfl)) aq)))
  (au (bw (bZ d8 hr (aK K (qv 0)) (af (aG cE (aG cE (bZ iy hr (qv 0) (af (qv 2) aq)) (aF (aO K) (aK K (qv 0)) (qv 2))) (aG gM (qv 3) (aK K (aK K (qv 0))))) aq))))))),?_⟩
 have wf:=ok.wf;refine⟨_,Z,A.a,A.dx,_,Z,h.oa,Z,_,Z,⟨⟨n,ρ,A,st,o,Z,h,ho,?_⟩⟩⟩;obtain⟨ws,hw,hA⟩:=h.rm;have hl:=hA.length;have hal:=wf.vB;refine⟨_,Z,A.a,T.hold,A.dx,_,_,Z,h.oa,X.cH,X.has,Z,A.as,Z,⟨_,aD.of hw⟩,λacc hacc=>?_⟩;refine OY (K:=K) (n:=ws.length) [0,1,2,3] (λi out H1=>aN H H1/\out=(((st.bD.take i).filter λa=>decide (a.ow=o)).map λa:lq=>a.wo).map V.int) (by decide) (by omega) ⟨aI hacc _,Z⟩ (λi out H1 hi _ hp=>⟨ws,_,aD.of (hp.1 _ _ hw),a_ hi⟩) (λout H1 _ hp=>⟨ws,aD.of (hp.1 _ _ hw),aL _⟩) ?_ ?_
 .rintro i x out H1 H2 hi fh ha ⟨g,e⟩ ⟨rfl,hy⟩;have ex:=hy ws (aD.of (g _ _ hw));obtain⟨r,l,y,ss,rfl,ey,a1,_⟩:=hA.get ex;refine⟨r,_,Z,dU.of (g _ _ a1),Z,_,Z,_,Z,Z,_,Z,cI (λc=>?_) (λc=>?_)⟩
  .have c':y.ow=o:=V.str.inj (dW c);refine⟨_,Z,ha,g.cA hacc _,?_⟩;rw[take_snoc ey,Qo,fL,ay (br c'),bL,bL,<-e];rfl
  .have c':¬ y.ow=o:=λz=>c (br (by rw[z]));refine⟨ha,g,?_⟩;rw[take_snoc ey,Qo,fL,av (by simpa using c'),List.filter_nil,sJ];exact e
 rintro out H1 fh ha ⟨g1,e⟩;rw[hl,cM]at e;subst e;have h1:=h.mono g1;have hk:st.own.idxOf o<st.bK.length:=by rw[wf.mz];exact lR ho
 refine⟨acc,_,Z,aD.of ha,?_⟩;refine⟨_,Z,A.a,T.hold,A.dx,_,_,Z,h1.oa,X.cH,X.vA,Z,A.bt,A.db,_,Z,h1.jq,Z,_,Z,A.a,A.dx,_,Z,h1.oa,Z,_,Z,⟨⟨n,ρ,A,st,st.own.idxOf o,Z,h1,ok,lR ho,λH2 g2=>?_⟩⟩⟩;have h2:=h1.mono g2;refine⟨_,Z,A.a,T.hold,A.dx,_,_,Z,h2.oa,X.cH,X.Am,Z,_,Z,A.pu,_,_,_,Z,Z,aD.of h2.lu,getD_at hk,_,_,Z,Z,_,Z,_,Z,A.a,T.hold,A.dx,_,_,Z,h2.oa,X.cH,X.vA,Z,A.bt,T.bot,A.db,_,_,Z,h2.jq,X.cB,X.KS,Z,_,_,Z,Z,.inl (by have:(((st.bD.filter λa=>decide (a.ow=o)).map λa:lq=>a.wo).sum).natAbs<2 ^ 60:=ok.la o;omega),_,_,Z,Z,?_⟩;exact⟨⟨A.bt,A.db,A.sp,A.kn,st.stp,st.prod,_,Z,h2.jq,h2.nR,wf.m_,wf.rH,wf.big,λr H3 g3 Ud=>q r H3 ((g1.trans g2).trans g3) Ud⟩⟩
abbrev v_:Stmt:=top 26
abbrev iB:List Str:=["_law_script","_law_k","_law_j","_law_many"]
abbrev NL:List Str:=iB.append ["_law_cell","_law_turn","_law_rest","_law_step","_law_one","_law_two"]
theorem fW:aP NL iB (aC v_):=di
theorem Mg(F:At K mg "_law_draw" v_ f fd)(bV:mg "len"=none)(cC:mg "range"=none):Dn P w K mg base 1 "_law_draw" iB (tH K):=by
 refine F.oA fW λcdv A outer s H vs Q E hr h=>?_;obtain⟨⟨a,ns,k,j,many,rfl,hS,h63,hk,hj,hj2,hm,q⟩⟩:=h;refine⟨_,(@c5.h _ _ _ (aj (aQ (i:=4) fW.nd ai)
  (aj (aQ (i:=5) fW.nd ai)
  (aj (ig (aU jM (bh (cU K) (by rfl) bV eY (af (qv 0) aq)) ai (bq _)) (aj (aQ (i:=4) fW.nd (aF (aO K) (qv 0) (aG ki (qv 1) (bh (cU K) (by rfl) bV eY (af (qv 0) aq)))))
  (au (aQ (i:=5) fW.nd (aG ir (qv 1) (bh (cU K) (by rfl) bV eY (af (qv 0) aq)))))) bP)
  (aj (aQ (i:=6) fW.nd (qv 4))
  (aj (fq fM rfl (gZ (by rfl) cC (af (qv 2) aq)) (aS (i:=7) fW.nd) (au (aQ (i:=6) fW.nd (aG ir (qv 6) (aG nQ ai ai)))))
  (aj (cX (jF (bW.pt (tP (aU dJ (qv 5) ai (bq _)) (tP (aU JL (qv 4) (aG nQ ai ai) (bq _)) (vc (aU jM (qv 6) ai (bq _))))))) (au (bw (aG ki (aG ki (qv 6) (aG nQ ai ai)) (qv 3)))) bP)
  (aj (aQ (i:=8) fW.nd (aG ki (aG cE (aG cE (aG cE (aG gM (qv 4) ai) (aG gM (qv 1) ai)) (aG gM (qv 2) ai)) ai) ai))
  (aj (aQ (i:=9) fW.nd (aG ki (aG cE (aG gM (qv 8) ai) (aG ir (qv 4) ai)) ai))
  (aj (aQ (i:=9) fW.nd (aG ki (aG cE (aG gM (qv 9) (aG cE (aG ki (qv 8) ai) ai)) (qv 2)) ai))
  (au (bw (aG ki (aG ki (aG cE (aG cE (aG gM (qv 8) ai) (aG gM (qv 9) ai)) (aG ir (qv 9) ai)) ai) (qv 3)))))))))))))),?_⟩
 have hl:(ns.map V.int).length=ns.length:=aE _;refine⟨λσ H'=>H'=H/\σ=[some (.ref a),some (.int k),some (.int j),some (.int many),some (.int (Jm.cellOf ns k)),some (.int (Jm.Ac ns k)),none,none,none,none],?_,?_⟩
 .refine ⟨_,Z,a,_,Z,.inl hS,_,_,Z,Z,_,Z,?_⟩;refine cI (λc=>?_) (λc=>?_)
  .have c':0<(((ns.map V.int).length:Nat):Int):=dW c;rw[hl]at c';have i0:0<=k % (ns.length:Int):=oj _ (by omega);have i1:k % (ns.length:Int)<(ns.length:Int):=yD _ c';refine⟨_,Z,_,Z,_,Z,a,_,Z,.inl hS,_,_,Z,Z,(by show(0:Int)<_;rw[hl];exact c'),a,_,_,.int (ns.getD (k % ns.length).toNat 0),Z,Z,hS,?_,?_⟩
   .rw [hl];exact XO i0 i1
   refine⟨_,Z,_,Z,a,_,Z,.inl hS,_,_,Z,Z,Vj (n:=10) (by rw[hl];exact c') (by rw[hl];omega) (by decide),Z,?_⟩;unfold Jm.cellOf Jm.Ac;rw[ay c',ay c',hl];rfl
  .have c':¬ 0<(((ns.map V.int).length:Nat):Int):=p6 (oW.mpr c);rw[hl]at c';refine⟨Z,?_⟩;unfold Jm.cellOf Jm.Ac;rw[av c',av c'];rfl
 rintro σ H' ⟨rfl,rfl⟩;generalize ec:Jm.cellOf ns k=cell at *;generalize et:Jm.Ac ns k=turn at *;refine⟨_,Z,_,Z,j,Z,by omega,hj2,?_⟩;refine i9 (lo:=0) (n:=j.toNat) (λi σ D6=>D6=H'/\∃st:Option V,σ=[some (.ref a),some (.int k),some (.int j),some (.int many),some (.int cell),some (.int turn),some (.int (Jm.DH cell i)),st,none,none]) ⟨Z,none,Z⟩ ?_ ?_
 .rintro i σ D6 hi ⟨rfl,st,rfl⟩;refine⟨_,Z,_,_,Z,Z,⟨by decide,by decide,by decide⟩,_,_,Z,Z,Ab (by decide +kernel),Z,?_⟩;exact⟨_,Z⟩
 rintro σ D6 ⟨rfl,st,rfl⟩;have full:Q (.int (Jm.draw ns k j many)) D6:=q;unfold Jm.draw at full;rw[ec,et]at full;generalize er:Jm.DH cell j.toNat=rest at *;refine⟨decide (turn=0/\1000000000000000000<=cell/\0<rest),?_,?_⟩
 .refine ⟨_,Z,Z,_,Z,?_⟩;by_cases h1:turn=0
  .rw [br (by rw[h1] :V.int turn=V.int 0)];refine mw ⟨_,Z,_,_,Z,Z,⟨by decide,by decide,by decide⟩,_,_,Z,Z,_,Z,?_⟩;by_cases h2:1000000000000000000<=cell
   .rw [br (show(10:Int) ^ (18:Int).toNat<=cell from h2)];refine mw ⟨_,Z,_,_,Z,Z,_,Z,?_,Z⟩;by_cases h3:0<rest
    .rw [br h3,br ⟨h1,h2,h3⟩]
    .rw [dB h3,dB λz=>h3 z.2.2]
   .rw [dB (show ¬ (10:Int) ^ (18:Int).toNat<=cell from h2)];exact aW ⟨(dB λz=>h2 z.2.1).symm,Z⟩
  .rw [dB (λz=>h1 (V.int.inj z))];exact aW ⟨(dB λz=>h1 z.1).symm,Z⟩
 by_cases h:turn=0/\1000000000000000000<=cell/\0<rest
 .rw [br h];rw[ay h]at full;refine mw ⟨_,Z,_,_,Z,Z,⟨by decide,by decide,by decide⟩,_,_,Z,Z,(by show(0:Int)<_;decide),_,Z,_,_,Z,Z,hm,?_⟩;exact full
 .rw [dB h];rw[av h]at full;refine aW ?_;refine⟨_,Z,_,_,Z,Z,.inr ⟨by decide,by decide⟩,_,Z,_,_,Z,Z,.inr ⟨by decide,by decide⟩,_,_,Z,Z,_,Z,_,_,Z,Z,.inr ⟨by decide,by decide⟩,_,_,Z,Z,_,_,Z,Z,_,_,Z,Z,(by show(0:Int)<_;decide),?_⟩;refine⟨_,Z,_,_,Z,Z,.inr ⟨by decide,by decide⟩,_,Z,_,_,Z,Z,Ab (by decide +kernel),_,_,Z,Z,_,_,Z,Z,(by show(0:Int)<_;decide),?_⟩;unfold Jm.mixed at full;dsimp only at full ⊢;generalize e1:(cell*7919+k*104729+j*1299709+31) % 1000000007=one at *;generalize e2:(one*48271+cell / 1009) % 998244353=two at *;have b1:0<=one % 9973:=oj _ (by decide);have b2:one % 9973<9973:=yD _ (by decide);refine⟨_,Z,_,Z,_,_,Z,Z,(by show(0:Int)<_;decide),_,_,Z,Z,_,_,Z,Z,.inr ⟨by omega,by omega⟩,_,Z,_,_,Z,Z,_,_,Z,Z,(by show(0:Int)<_;decide),?_⟩;refine⟨_,Z,_,_,Z,Z,.inr ⟨by decide,by decide⟩,_,Z,_,_,Z,Z,.inr ⟨by decide,by decide⟩,_,_,Z,Z,_,Z,_,_,Z,Z,Ab (by decide +kernel),_,_,Z,Z,_,_,Z,Z,(by show(0:Int)<_;decide),_,Z,_,_,Z,Z,hm,?_⟩;exact full
abbrev wc:Stmt:=top 27
abbrev sZ:List Str:=["_law_code","_law_size"]
abbrev NN:List Str:=sZ.append ["_law_word","_law_at_here"]
theorem mS:aP NN sZ (aC wc):=di
theorem Mh(F:At K mg "_law_name" wc f fd)(cC:mg "range"=none):Dn P w K mg base 1 "_law_name" sZ Fx:=by
 refine F.oA mS λcdv A outer s H vs Q E hr h=>?_;obtain⟨⟨c,n,rfl,hc,hn,q⟩⟩:=h;refine⟨_,(@c5.h _ _ _ (aj (aQ (i:=2) mS.nd aT)
  (aj (fq fM rfl (gZ (by rfl) cC (af (qv 1) aq)) (aS (i:=3) mS.nd) (aj (aQ (i:=2) mS.nd (aG Qy (qv 2) (aF R0 aT (aG ki (qv 0) ai))))
  (au (aQ (i:=0) mS.nd (aG ir (qv 0) ai)))))
  (au (bw (qv 2)))))),?_⟩
 refine⟨_,Z,_,Z,by omega,by omega,?_⟩;refine i9 (lo:=0) (n:=(n:Int).toNat) (λi σ H'=>H'=H/\∃(s1:Option V),σ=[some (.int (c / 26 ^ i)),some (.int n),some (.str (tx (lV c i))),s1]) ⟨Z,none,by rw[Int.pow_zero,Dm];rfl⟩ ?_ ?_
 .rintro i σ H' hi ⟨rfl,s1,rfl⟩;have hp:(0:Int)<26 ^ i:=Int.pow_pos (by decide);have hd0:0<=c / 26 ^ i:=JE hc (Bj hp);have hm0:0<=c / 26 ^ i % 26:=oj _ (by decide);have hm1:c / 26 ^ i % 26<26:=yD _ (by decide);refine⟨_,Z,_,Z,_,_,Z,Z,(by show(0:Int)<26;decide),_,_,_,Z,Z,(by decide +kernel),Sn hm0 hm1,?_⟩;refine⟨_,_,Z,Z,?_,?_⟩
  .rw [Ae,yO];show i+1<=sizeLine;exact Bf (dF (by omega))
  refine⟨_,Z,_,_,Z,Z,vm (by decide) (iC (by decide +kernel)),Z,some (.int ((0:Int)+(i:Int))),?_⟩;have e1:c / 26 ^ i / 26=c / 26 ^ (i+1):=by rw[Int.ediv_ediv_of_nonneg (Bj hp),Int.pow_succ]
  have e2:(tx (lV c i)++tx [97+(c / 26 ^ i % 26).toNat] :Str)=tx (lV c (i+1)):=by rw[aaa,Vp]
  rw[<-e1,<-e2];rfl
 rintro σ H' ⟨rfl,s1,rfl⟩;refine⟨_,Z,?_⟩;rw[t7];exact q
abbrev uD:Stmt:=top 28
abbrev qP:List Str:=["_law_script","_law_k","_law_many"]
abbrev Mi:List Str:=qP.append ["_law_alike","_law_size","_law_first","_law_shift","_law_at_here","_law_names_here","_law_code"]
theorem dQ:aP Mi qP (aC uD):=di
theorem IS(F:At K mg "_law_names" uD f fd)(bB:Dn P w K mg base 1 "_law_draw" iB (tH K))(s_:Dn P w K mg base 1 "_law_name" sZ Fx)(cC:mg "range"=none):Dn P w K mg base 2 "_law_names" qP (Fy K):=by
 refine F.oA dQ λcdv A outer s H vs Q E hr h=>?_;obtain⟨⟨a,ms,k,many,rfl,hS,h63,hk,hm,q⟩⟩:=h;refine⟨_,(@c5.h _ _ _ (aj (aQ (i:=3) dQ.nd (BD dJ (bH bB hr (af (qv 0) (af (qv 1) (af ai (af ai aq))))) ai (bq _)))
  (aj (aQ (i:=4) dQ.nd (aG cE ai (bH bB hr (af (qv 0) (af (qv 1) (af ai (af ai aq)))))))
  (aj (aQ (i:=5) dQ.nd (bH bB hr (af (qv 0) (af (qv 1) (af ai (af (aG nQ ai ai) aq))))))
  (aj (aQ (i:=6) dQ.nd ai)
  (aj (ig (lC (qv 3)) (au (fq fM rfl (gZ (by rfl) cC (af (bH bB hr (af (qv 0) (af (qv 1) (af ai (af (qv 4) aq))))) aq)) (aS (i:=7) dQ.nd) (au (aQ (i:=6) dQ.nd (aG gM (qv 6) ai))))) bP)
  (aj (aQ (i:=8) dQ.nd (ie aq))
  (aj (fq fM rfl (gZ (by rfl) cC (af (qv 2) aq)) (aS (i:=7) dQ.nd) (aj (aQ (i:=9) dQ.nd (aG cE (qv 5) (aG gM (qv 6) (bH bB hr (af (qv 0) (af (qv 1) (af (aG cE ai (aG gM ai (qv 7))) (af ai aq))))))))
  (aj (ig (nX (lC (qv 3))) (aj (aQ (i:=4) dQ.nd (aG cE ai (bH bB hr (af (qv 0) (af (qv 1) (af (aG cE ai (aG gM ai (qv 7))) (af ai aq)))))))
  (au (aQ (i:=9) dQ.nd (bH bB hr (af (qv 0) (af (qv 1) (af (aG cE ai (aG gM ai (qv 7))) (af (aG nQ ai ai) aq)))))))) bP)
  (aj (CG fM (aU R3 (bH s_ hr (af (qv 9) (af (qv 4) aq))) (qv 8) (by with_unfolding_all rfl)) (au (aQ (i:=9) dQ.nd (aG cE (qv 9) (qv 6)))))
  (au (cg (kU oU oR oS eV (qv 8) (af (bH s_ hr (af (qv 9) (af (qv 4) aq))) aq))))))))
  (au (bw (qv 8))))))))))),?_⟩
 have P10:UZ 10 10:=⟨by decide,by decide,by decide +kernel⟩
 refine⟨_,Z,_,Z,dw hS h63 hk (by decide) (by decide) (by decide) λal _ _ _=>⟨Z,?_⟩⟩;refine⟨_,Z,_,Z,dw hS h63 hk (by decide) (by decide) (by decide) λsd _ s0 s1=>⟨_,_,Z,Z,?_⟩⟩;refine⟨_,Z,_,Z,_,_,Z,Z,P10,dw hS h63 hk (by decide) (by decide) (by decide +kernel) λfc _ f0 f1=>?_⟩;generalize hal:decide (V.int al=V.int 0)=alike;obtain⟨n0,en0⟩:∃n:Nat,1+sd=(n:Int):=⟨(1+sd).toNat,by omega⟩
 refine⟨λσ H'=>H'=H/\∃(d:Nat)(s7:Option V),(alike=true->d<n0)/\(alike=false->d=0)/\d<8/\σ=[some (.ref a),some (.int k),some (.int many),some (.bl alike),some (.int (1+sd)),some (.int fc),some (.int ((26:Int) ^ d)),s7,none,none],?_,?_⟩
 .refine ⟨_,Z,_,Z,cI (λc=>?_) (λc=>?_)⟩
  .refine ⟨_,Z,_,Z,_,Z,dw hS h63 hk (by decide) (by decide) (by omega) λdd _ d0 d1=>⟨dd,Z,by omega,by omega,?_⟩⟩;refine i9 (lo:=0) (n:=dd.toNat) (λi σ H'=>H'=H/\∃s7:Option V,σ=[some (.ref a),some (.int k),some (.int many),some (.bl alike),some (.int (1+sd)),some (.int fc),some (.int ((26:Int) ^ i)),s7,none,none]) ⟨Z,none,Z⟩ ?_ ?_
   .rintro i σ H' hi ⟨rfl,s7,rfl⟩;refine⟨_,Z,_,_,Z,Z,.inr ⟨by decide,by decide⟩,Z,some (.int ((0:Int)+(i:Int))),?_⟩;rw[Int.pow_succ];rfl
   .rintro σ H' ⟨rfl,s7,rfl⟩;exact⟨Z,dd.toNat,s7,λ_=>by omega,λz=>absurd c (by rw[z];exact gC),by omega,Z⟩
  .exact ⟨Z,0,none,λz=>absurd z c,λ_=>rfl,by decide,Z⟩
 rintro σ H' ⟨rfl,d,s7,hd1,hd2,hd8,rfl⟩;refine⟨(iM 0),λpn vI=>?_⟩;have g0:=aI vI (.lst []);refine⟨_,Z,(many:Int),Z,by omega,by omega,?_⟩;refine i9 (lo:=0) (n:=(many:Int).toNat) (λi σ H2=>aN H' H2/\∃(nss:List (List Nat))(n:Nat)(s1 s2:Option V),d<n/\n<=8/\σ=[some (.ref a),some (.int k),some (.int many),some (.bl alike),some (.int (n:Int)),some (.int fc),some (.int ((26:Int) ^ d)),s1,some (.ref pn),s2]/\H2 pn=some (.lst (vt nss))/\nss.length=i/\nss.Nodup/\∀x∈nss,qf x)
  ⟨g0,[],n0,s7,none,?_,by omega,by rw[<-en0];rfl,ak,Z,wR,λ_ m=>nomatch m⟩ ?_ ?_
 .cases alike with
  | true=>exact hd1 rfl
  | false=>rw[hd2 rfl];omega
 .rintro i σ H2 hi ⟨g,nss,n,s1,s2,hdn,PN,rfl,hn,hnl,hnd,hok⟩;have hsl:(vt nss).length=i:=by unfold vt;rw[aE];exact hnl
  have hSg:=g.seq hS;have hp:(0:Int)<26 ^ d:=Int.pow_pos (by decide);have hp8:(26:Int) ^ d<2 ^ 64:=by rcases(by omega:d=0\/d=1\/d=2\/d=3\/d=4\/d=5\/d=6\/d=7)with e|e|e|e|e|e|e|e <;> (rw[e];decide +kernel)
  refine⟨_,Z,_,Z,_,Z,_,Z,_,Z,_,_,Z,Z,.inl ⟨by decide,by decide⟩,_,_,Z,Z,dw hSg h63 hk (by omega) (by omega) (by decide) λcd _ c0 c1=>⟨_,_,Z,Z,.inl ⟨by omega,hp8⟩,_,_,Z,Z,?_⟩⟩;have hcode:0<=fc+26 ^ d*cd:=Int.add_nonneg f0 (j9 (Bj hp) c0);refine⟨λσ H3=>H3=H2/\∃(n:Nat)(c:Int),0<=c/\d<n/\n<=8/\σ=[some (.ref a),some (.int k),some (.int many),some (.bl alike),some (.int (n:Int)),some (.int fc),some (.int ((26:Int) ^ d)),some (.int ((0:Int)+(i:Int))),some (.ref pn),some (.int c)],?_,?_⟩
  .refine ⟨_,Z,_,Z,?_⟩;cases hb:alike with
   | true=>exact aW ⟨Z,n,_,hcode,hdn,PN,Z⟩
   | false=>refine mw ?_;have hd0:=hd2 hb;refine⟨_,Z,_,Z,_,Z,_,_,Z,Z,.inl ⟨by decide,by decide⟩,_,_,Z,Z,dw hSg h63 hk (by omega) (by omega) (by decide) λzd _ z0 z1=>⟨_,_,Z,Z,?_⟩⟩;refine⟨_,Z,_,Z,_,Z,_,_,Z,Z,.inl ⟨by decide,by decide⟩,_,_,Z,Z,_,_,Z,Z,P10,dw hSg h63 hk (by omega) (by omega) (by decide +kernel) λcd2 _ e0 _=>?_⟩;refine⟨Z,(1+zd).toNat,cd2,e0,by omega,by omega,?_⟩;rw[show(((1+zd).toNat:Nat):Int)=1+zd from by omega];rfl
  clear hdn PN hcode;rintro σ H3 ⟨rfl,n,xG,cc0,hdn,PN,rfl⟩;refine⟨λm σ H4=>H4=H3/\∃t:Nat,m=nss.length+1-t/\t<=nss.length/\σ=[some (.ref a),some (.int k),some (.int many),some (.bl alike),some (.int (n:Int)),some (.int fc),some (.int ((26:Int) ^ d)),some (.int ((0:Int)+(i:Int))),some (.ref pn),some (.int (xG+(t:Int)*26 ^ d))]/\∀j:Nat,j<t->lV (xG+(j:Int)*26 ^ d) n∈nss,
   ⟨_,Z,0,Z,iA _,by rw[show xG+((0:Nat):Int)*26 ^ d=xG from by simp],λj hj=>absurd hj (Nat.not_lt_zero _)⟩,?_⟩
  rintro m σ H4 ⟨rfl,t,rfl,ht,rfl,htr⟩;have hct:0<=xG+(t:Int)*26 ^ d:=Int.add_nonneg cc0 (j9 (by omega) (Bj hp));refine⟨_,Z,_,Z,KL rfl hct (by omega) ?_⟩;refine⟨_,Z,pn,_,Z,.inl (aD.of hn),Z,Vr nss,?_⟩;show RO _ (V.bl (if false=true then !OT (.str (tx (lV (xG+(t:Int)*26 ^ d) n))) (vt nss) else OT (.str (tx (lV (xG+(t:Int)*26 ^ d) n))) (vt nss))) _;rw[av gC,XY];refine⟨_,Z,cI (λc=>?_) (λc=>?_)⟩
  .have hmem:lV (xG+(t:Int)*26 ^ d) n∈nss:=dW c;have abL:∀j:Nat,j<t+1->lV (xG+(j:Int)*26 ^ d) n∈nss:=λj hj=>by
    rcases Nat.lt_succ_iff_lt_or_eq.mp hj with z|z
    .exact htr j z
    .rw [z];exact hmem
   have hle:=Sw (c:=xG) (n:=n) (t:=t+1) hdn (by omega) abL;refine⟨_,λ_ _ z=>z,?_⟩;refine⟨_,Z,_,Z,_,_,Z,Z,?_⟩;refine⟨_,(by omega:nss.length+1-(t+1)<nss.length+1-t),Z,t+1,Z,hle,?_,abL⟩;rw[show xG+((t+1:Nat):Int)*26 ^ d=xG+(t:Int)*26 ^ d+26 ^ d from by rw[Int.natCast_add,mY];show _+(_+1*_)=_;rw[Int.one_mul,Int.add_assoc]];rfl
  .have hnm:lV (xG+(t:Int)*26 ^ d) n∉nss:=p6 (oW.mpr c);refine⟨_,Z,.inl ⟨Z,_,aD.of hn⟩,?_⟩;refine⟨_,Z,_,Z,KL rfl hct (by omega) ?_⟩;refine⟨pn,vt nss,_,Z,Z,hn,dF (by omega),g.cA vI _,nss++[lV (xG+(t:Int)*26 ^ d) n],n,_,_,hdn,PN,Z,?_,?_,m7 hnd hnm,λx hx=>?_⟩
   .rw [ak];unfold vt;rw[bL];rfl
   .rw [c7,hnl];rfl
   .rcases dI.mp hx with z|z
    .exact hok x z
    .rw [dS.mp z];exact aae _ (by omega) PN
 rintro σ H2 ⟨g,nss,n,s1,s2,hdn,PN,rfl,hn,hnl,hnd,hok⟩;exact⟨_,Z,q pn nss H2 g hn vI (by omega) hnd hok⟩
abbrev wg:Stmt:=top 30
abbrev n_:List Str:=["_law_script","_law_k","_law_j"]
abbrev NO:List Str:=n_.append ["_law_size"]
theorem A4:aP NO n_ (aC wg):=di
theorem Mj(F:At K mg "_law_much" wg f fd)(bB:Dn P w K mg base 1 "_law_draw" iB (tH K)):Dn P w K mg base 2 "_law_much" n_ (DP K):=by
 refine F.oA A4 λcdv A outer s H vs Q E hr h=>?_;obtain⟨⟨a,ns,k,j,rfl,hS,h63,hk,hj,hj2,q⟩⟩:=h;refine⟨_,(@c5.h _ _ _ (aj (aQ (i:=3) A4.nd (aF (aO K) (ie (af ai (af ai (af ai (af (aG nQ ai ai) aq))))) (bH bB hr (af (qv 0) (af (qv 1) (af (qv 2) (af ai aq)))))))
  (au (bw (aG cE ai (bH bB hr (af (qv 0) (af (qv 1) (af (aG cE (qv 2) ai) (af (qv 3) aq)))))))))),?_⟩
 refine⟨_,_,Z,Z,⟨by decide,by decide,by decide⟩,(iM 4),λp1 hp1=>?_⟩;have g1:=aI hp1 (.lst [V.int 9,V.int 40,V.int 1000,V.int (10 ^ (9:Int).toNat)]);refine⟨_,Z,_,Z,_,Z,dw (g1.seq hS) h63 hk hj (by omega) (by decide) λd _ d0 d1=>?_⟩;obtain⟨B,hB,hB0,hB1⟩:∃B:Int,kL [V.int 9,V.int 40,V.int 1000,V.int (10 ^ (9:Int).toNat)] d=some (.int B)/\0<B/\B<=1000000000:=by
  rcases(by omega:d=0\/d=1\/d=2\/d=3)with e|e|e|e
  .exact ⟨9,by rw[e];rfl,by decide,by decide⟩
  .exact ⟨40,by rw[e];rfl,by decide,by decide⟩
  .exact ⟨1000,by rw[e];rfl,by decide,by decide⟩
  .exact ⟨10 ^ (9:Int).toNat,by rw[e];rfl,by decide,by decide⟩
 refine⟨p1,_,_,_,Z,Z,aD.of ak,hB,?_⟩;refine⟨_,Z,_,Z,_,Z,_,_,Z,Z,_,Z,dw (g1.seq hS) h63 hk (by omega) (by omega) hB0 λe _ e0 e1=>⟨_,_,Z,Z,?_⟩⟩;exact q (1+e) _ (by omega) (by omega) g1
abbrev xU:Stmt:=top 46
abbrev uZ:List Str:=["_law_found"]
abbrev Rj:List Str:=uZ
theorem NP:aP Rj uZ (aC xU):=di
theorem NQ(F:At K mg "_law_int" xU f fd)(jA:mg "isinstance"=none)(Rk:mg "int"=none)(Ml:mg "bool"=none):Dn P w K mg base 1 "_law_int" uZ WC:=by refine F.oA NP λcdv A outer s H vs Q E hr h=>?_;obtain⟨i,rfl,q⟩:=h;refine⟨_,(@c5.h _ _ _ (au (bw (Tt (bh (vq K) (by rfl) jA PyProof.Rows.boot_isinstance (af (qv 0) (af (Q6 PyProof.Rows.boot_int rfl Rk) aq))) (Tp (aaP (bh (vq K) (by rfl) jA PyProof.Rows.boot_isinstance (af (qv 0) (af (Q6 PyProof.Rows.boot_bool rfl Ml) aq))))))))),?_⟩;refine⟨_,Z,_,_,_,_,Z,mq.int i,Ky,_,Z,mw ?_⟩;refine⟨_,Z,_,_,_,_,Z,mq.int i,Kz,_,Z,?_⟩;exact q
abbrev uE:Stmt:=top 47
abbrev qQ:List Str:=["_law_top","_law_bottom"]
abbrev Mm:List Str:=qQ.append ["_law_one","_law_other"]
theorem oO:aP Mm qQ (aC uE):=di
theorem IT(F:At K mg "_law_least" uE f fd)(Rl:mg "abs"=none):Dn P w K mg base 1 "_law_least" qQ Fw:=by
 refine F.oA oO λcdv A outer s H vs Q E hr h=>?_;obtain⟨⟨t,b,rfl,hb,hb2,q⟩⟩:=h;refine⟨_,(@c5.h _ _ _ (aj (aQ (i:=2) oO.nd (bh U0 (by rfl) Rl PyProof.Rows.boot_abs (af (qv 0) aq)))
  (aj (aQ (i:=3) oO.nd (qv 1))
  (aj (CG fM (aU Wv (qv 3) ai (bq _)) (au (Tr (i:=2) (j:=3) rfl oO.nd rfl rfl (by decide) rfl rfl (af (qv 3) (af (aG ki (qv 2) (qv 3)) aq)) (by rfl))))
  (au (bw (iS (af (aG ir (qv 0) (qv 2)) (af (aG ir (qv 1) (qv 2)) aq))))))))),?_⟩
 refine⟨_,Z,_,Z,_,Z,?_⟩;refine⟨λm σ H'=>∃x y:Int,m=y.toNat/\σ=[some (.int t),some (.int b),some (.int x),some (.int y)]/\H'=H/\0<=x/\0<=y/\Jm.cf x y=Jm.cf b t,
  ⟨_,(if t<0 then -t else t),b,Z,Z,Z,(by split <;> omega),Bj hb,(by rw[Jm.OW,Jm.Z1])⟩,?_⟩
 rintro m σ H' ⟨x,y,rfl,rfl,rfl,hx,hy,e⟩;refine⟨_,Z,Z,_,Z,cI (λc=>?_) (λc=>?_)⟩
 .have c1:¬ V.int y=V.int 0:=p6 (by simpa using c);have c':0<y:=by have:y≠0:=λz=>c1 (by rw[z]);omega
  refine⟨_,λ_ _ z=>z,?_⟩;refine⟨_,Z,_,Z,_,Z,_,_,Z,Z,c',_,_,Z,?_⟩;have h1:0<=x % y:=oj _ (by omega);have h2:x % y<y:=yD _ c';exact⟨_,(by omega:(x % y).toNat<y.toNat),y,x % y,Z,Z,Z,hy,h1,(Jm.Ft x y c').trans e⟩
 .have c1:V.int y=V.int 0:=by simpa using c
  have ey:y=0:=V.int.inj c1;subst ey;rw[Jm.OV x hx]at e;subst e;have g0:0<Jm.cf b t:=Jm.DF _ _ (.inl hb);have g1:Jm.Sz 9000 (Jm.cf b t):=hb2.dvd hb (Bj g0) (Jm.sQ b t);have gd:∀i,Br i (Jm.cf b t):=λi=>vm g0 g1;refine⟨_,Z,_,Z,_,_,Z,Z,gd _,_,Z,_,Z,_,_,Z,Z,gd _,(iM 2),λp hp=>?_⟩;refine q p _ (aI hp _) ?_;rw[ak];show some (HO.tup [V.int (t / Jm.cf b t),V.int (b / Jm.cf b t)])=some (HO.tup [V.int (Jm.fr t b).num,V.int ((Jm.fr t b).den:Int)]);rw[Jm.Sa t b hb,Jm.Sb t b hb]
abbrev zA:Stmt:=top 48
abbrev tU:List Str:=["_law_found","_law_top","_law_bottom"]
abbrev Ue:List Str:=tU
theorem Rm:aP Ue tU (aC zA):=di
theorem Rn(F:At K mg "_law_is" zA f fd)(u0:Dn P w K mg base 1 "_law_int" uZ WC)(wk:Dn P w K mg base 1 "_law_least" qQ Fw)(jA:mg "isinstance"=none)(vd:mg "tuple"=none)(bV:mg "len"=none):Dn P w K mg base 2 "_law_is" tU QL:=by
 refine F.oA Rm λcdv A outer s H vs Q E hr h=>?_
 obtain⟨⟨p,q,t,b,rfl,hp,h0,h1,e,hq⟩⟩:=h
 refine⟨_,(@c5.h _ _ _ (aj (cX (jF (bW.pt (BC (nX (lC (bh (vq K) (by rfl) jA PyProof.Rows.boot_isinstance (af (qv 0) (af (Q6 PyProof.Rows.boot_tuple rfl vd) aq))))) (yk (aU Wv (bh (cU K) (by rfl) bV eY (af (qv 0) aq)) ai (bq _)))))) (au (bw uY)) bP)
  (aj (cX (jF (bW.pt (BC (nX (lC (bH u0 hr (af (aF (aV K) (qv 0) ai) aq)))) (yk (nX (lC (bH u0 hr (af (aF (aV K) (qv 0) ai) aq)))))))) (au (bw uY)) bP)
  (au (bw (BD (XQ K hr.units) (qv 0) (bH wk hr (af (qv 1) (af (qv 2) aq))) (bq _))))))),?_⟩
 refine⟨false,?_,aW ?_⟩
 . refine⟨_,Z,_,_,_,_,Z,mq.tup hp,Ky,_,Z,aW ?_⟩
   exact⟨_,Z,_,_,Z,.inr (dU.of hp),Z,_,Z,Z,Z⟩
 refine⟨false,?_,aW ?_⟩
 . refine⟨_,Z,p,_,_,_,Z,Z,dU.of hp,Z,_,Z,_,Z,aW ?_⟩
   exact⟨_,Z,p,_,_,_,Z,Z,dU.of hp,Z,_,Z,_,Z,Z,Z⟩
 refine⟨_,Z,_,Z,_,Z,Sj h0 h1 λr H1 g1 hr1=>?_⟩
 rw[<-e]at hr1
 refine⟨_,_,Si (g1 _ _ hp),Si hr1,B_ _ _,B_ _ _,?_⟩
 rw[Vl]
 exact hq H1 g1
abbrev uF:Stmt:=top 29
abbrev qR:List Str:=["_law_owners"]
abbrev Mp:List Str:=qR
theorem IU:aP Mp qR (aC uF):=di
theorem IV(F:At K mg "_law_model" uF f fd)(kF:mg "list"=none):Dn P w K mg base 1 "_law_model" qR (Pa K):=by
 refine F.oA IU λcdv A outer s H vs Q E hr h=>?_;obtain⟨⟨l,own,n,ρ,rfl,hl,G,hle,q⟩⟩:=h;refine⟨_,(@c5.h _ _ _ (au (bw (Yq (vL aT (pV (oE K) (by rfl) kF JV (af (qv 0) aq)) (vL aT (ie aq) (vL aT ai (vL aT (ie aq) (vL aT (ie aq) Yp))))) (by rfl) (by rfl) (λz=>nomatch z) (by with_unfolding_all decide))))),?_⟩;intro m hm;have g0:=aI hm (.dK []);have em0:upd H m (.dK []) m=some (.dK []):=ak;have fV:=g0.seq hl;generalize upd H m (.dK [])=H0 at *;refine⟨_,Z,l,_,Z,.inl fV,λlo hlo=>?_⟩;have g1:=aI hlo (.lst (own.map V.str));have Ug:upd H0 lo (.lst (own.map V.str)) lo=some (.lst (own.map V.str)):=ak;have em1:=g1 _ _ em0;generalize upd H0 lo (.lst (own.map V.str))=H1 at *;refine⟨(iM 0),λlp uN=>?_⟩;have g2:=aI uN (.lst []);have ep2:upd H1 lp (.lst []) lp=some (.lst []):=ak;have eo2:=g2 _ _ Ug;have PO:=g2 _ _ em1;show Aa _ _ (upd H1 lp (.lst [])) _;generalize upd H1 lp (.lst [])=H2 at *;refine⟨(iM 0),λla hla=>?_⟩;have g3:=aI hla (.lst []);have Xd:upd H2 la (.lst []) la=some (.lst []):=ak;have ep3:=g3 _ _ ep2;have eo3:=g3 _ _ eo2;have em3:=g3 _ _ PO;show Aa _ _ (upd H2 la (.lst [])) _;generalize upd H2 la (.lst [])=H3 at *;refine⟨(iM 0),λlk hlk=>?_⟩;have g4:=aI hlk (.lst []);have ek4:upd H3 lk (.lst []) lk=some (.lst []):=ak;have ea4:=g4 _ _ Xd;have ep4:=g4 _ _ ep3;have eo4:=g4 _ _ eo3;have em4:=g4 _ _ em3;show upd H3 lk (.lst []) m=_/\_;generalize upd H3 lk (.lst [])=H4 at *;have gA:=((g0.trans g1).trans g2).trans (g3.trans g4);have n1:lo≠m:=λe=>by rw[e,em0]at hlo;cases hlo
 have n2:lp≠m:=λe=>by rw[e,em1]at uN;cases uN
 have n3:lp≠lo:=λe=>by rw[e,Ug]at uN;cases uN
 have n4:la≠m:=λe=>by rw[e,PO]at hla;cases hla
 have n5:la≠lo:=λe=>by rw[e,eo2]at hla;cases hla
 have n6:la≠lp:=λe=>by rw[e,ep2]at hla;cases hla
 have n7:lk≠m:=λe=>by rw[e,em3]at hlk;cases hlk
 have n8:lk≠lo:=λe=>by rw[e,eo3]at hlk;cases hlk
 have n9:lk≠lp:=λe=>by rw[e,ep3]at hlk;cases hlk
 have nA:lk≠la:=λe=>by rw[e,Xd]at hlk;cases hlk
 refine⟨em4,[(Sum.inr "owners",.ref lo),(Sum.inr "parts",.ref lp),(Sum.inr "bottom",.int 1),(Sum.inr "ashore",.ref la),(Sum.inr "known",.ref lk)],Z,by show 5<=15;decide,?_⟩;have eK:yb [] [(Sum.inr "owners",.ref lo),(Sum.inr "parts",.ref lp),(Sum.inr "bottom",.int 1),(Sum.inr "ashore",.ref la),(Sum.inr "known",.ref lk)]=f_ ⟨m,lo,lp,la,lk,[]⟩ 1:=rfl;rw[eK];have u1:upd H4 m (.dK (f_ ⟨m,lo,lp,la,lk,[]⟩ 1)) m=some (.dK (f_ ⟨m,lo,lp,la,lk,[]⟩ 1)):=ak;have u2:upd H4 m (.dK (f_ ⟨m,lo,lp,la,lk,[]⟩ 1)) lo=some (.lst (own.map V.str)):=by rw[az n1];exact eo4
 have u3:upd H4 m (.dK (f_ ⟨m,lo,lp,la,lk,[]⟩ 1)) lp=some (.lst []):=by rw[az n2];exact ep4
 have u4:upd H4 m (.dK (f_ ⟨m,lo,lp,la,lk,[]⟩ 1)) la=some (.lst []):=by rw[az n4];exact ea4
 have u5:upd H4 m (.dK (f_ ⟨m,lo,lp,la,lk,[]⟩ 1)) lk=some (.lst []):=by rw[az n7];exact ek4
 have G4:=(G.same gA).wr (a:=m) (o:=.dK (f_ ⟨m,lo,lp,la,lk,[]⟩ 1)) rfl;have hz:∀b o,H b=some o->upd H4 m (.dK (f_ ⟨m,lo,lp,la,lk,[]⟩ 1)) b=some o:=λb o e=>by rw[az (λz=>by rw[z,hm]at e;cases e)];exact gA _ _ e
 have y1:H lo=none:=g0.free hlo;have y2:H lp=none:=(g0.trans g1).free uN;have y3:H la=none:=((g0.trans g1).trans g2).free hla;have y4:H lk=none:=(((g0.trans g1).trans g2).trans g3).free hlk;generalize upd H4 m (.dK (f_ ⟨m,lo,lp,la,lk,[]⟩ 1))=H5 at *;refine q (bO (bO (bO (bO (bO ρ m (n,20,⟨#[]⟩)) lo (n,21,⟨#[]⟩)) lp (n,22,⟨#[]⟩)) la (n,25,⟨#[]⟩)) lk (n,26,⟨#[]⟩)) ⟨m,lo,lp,la,lk,[]⟩ H5 (((((G4.color u1 rfl).color u2 rfl).color u3 rfl).color u4 rfl).color u5 rfl) ⟨u1,?_,u2,?_,u3,?_,⟨[],u4,.nil⟩,?_,u5,cY,Z,λi p q e=>by simp at e⟩ (λb o e=>⟨hz b o e,?_⟩)
 .show bO _ lk _ m=_;rw[b7 (cO n7),b7 (cO n4),b7 (cO n2),b7 (cO n1),cY]
 .show bO _ lk _ lo=_;rw[b7 (cO n8),b7 (cO n5),b7 (cO n3),cY]
 .show bO _ lk _ lp=_;rw[b7 (cO n9),b7 (cO n6),cY]
 .show bO _ lk _ la=_;rw[b7 (cO nA),cY]
 .rw [b7 (aJ e y4),b7 (aJ e y3),b7 (aJ e y2),b7 (aJ e y1),b7 (aJ e hm)]
abbrev wm:Stmt:=top 36
abbrev je:List Str:=["_law_owners","_law_name_here"]
abbrev NR:List Str:=je.append ["_law_at_here"]
theorem A8:aP NR je (aC wm):=di
theorem Mq(F:At K mg "_law_seat" wm f fd)(bV:mg "len"=none)(cC:mg "range"=none):Dn P w K mg base 1 "_law_seat" je (yh K):=by
 refine F.oA A8 λcdv A outer s H vs Q E hr h=>?_;obtain⟨⟨l,own,o,rfl,hl,ho,hle,q⟩⟩:=h;refine⟨_,(@c5.h _ _ _ (aj (fq fM rfl (gZ (by rfl) cC (af (bh (cU K) (by rfl) bV eY (af (qv 0) aq)) aq)) (aS (i:=2) A8.nd) (au (cX (aU dJ (aF (aO K) (qv 0) (qv 2)) (qv 1) (bq _)) (au (bw (qv 2))) bP)))
  (au (bw (Q7 Ke ai))))),?_⟩
 have ll:(own.map V.str).length=own.length:=aE _;refine⟨_,Z,l,_,Z,.inl hl,_,Z,by omega,by omega,?_⟩;refine i9 (lo:=0) (n:=(((own.map V.str).length:Nat):Int).toNat) (λi σ H'=>H'=H/\o∉own.take i/\∃s2,σ=[some (.ref l),some (.str o),s2]) ⟨Z,by simp,_,Z⟩ ?_ ?_
 .rintro i σ H' hi ⟨rfl,hn,s2,rfl⟩;have e0:(0:Int)+(i:Int)=((i:Nat):Int):=by omega
  rw[e0];have hio:i<own.length:=by omega
  have ei:=a_ hio;refine⟨_,Z,_,Z,l,_,_,_,Z,Z,hl,aB (by rw[bQ,ei];rfl),_,Z,Z,_,Z,cI (λc=>?_) (λc=>?_)⟩
  .have c':own[i]=o:=V.str.inj (dW c);refine⟨_,Z,?_⟩;have:own.idxOf o=i:=by
    have h1:own.idxOf o<=i:=by
     rcases Nat.lt_or_ge i (own.idxOf o)with z|z
     .exact absurd c' (by simpa using List.not_of_lt_findIdx z)
     .exact z
    rcases Nat.lt_or_ge (own.idxOf o) i with z|z
    .exact absurd (aY (i:=own.idxOf o) (by rw[List.getElem?_take,ay z];exact xu ho)) hn
    .omega
   rw[<-this];exact q
  .refine ⟨Z,λm=>?_,_,Z⟩;rw[take_snoc ei]at m;rcases dI.mp m with z|z
   .exact hn z
   .exact c (br (by rw[dS.mp z]))
 rintro σ H' ⟨rfl,hn,s2,rfl⟩;rw[show(((own.map V.str).length:Nat):Int).toNat=own.length from by omega,cM]at hn;exact absurd ho hn
abbrev pI:Stmt:=top 37
abbrev l7:List Str:=["_law_model_here","_law_name_here","_law_owner","_law_worth","_law_weight"]
abbrev EC:List Str:=l7.append ["_law_tops"]
theorem wu:aP EC l7 (aC pI):=di
theorem CU(F:At K mg "_law_new_part" pI f fd)(dH:Dn P w K mg base 1 "_law_seat" je (yh K)):Dn P w K mg base 2 "_law_new_part" l7 HB:=by
 refine F.oA wu λcdv A outer s H vs Q E hr h=>?_;obtain⟨⟨n,ρ,B,b,x,o,wo,we,rfl,G,h,ho,fh,hpl,hkl,q⟩⟩:=h;refine⟨_,(@c5.h _ _ _ (aj (pU (i:=5) ["_law_one"] [none] wu.nd rfl rfl rfl (c_ K (bR (bX hr) (qv 0) aT)) (λ_ _ _ _=>(aS (i:=0) (show List.Nodup (["_law_one"] :List Str)from by decide +kernel))) (λ_ _ _ _=>ai) rfl (by rfl) (by rfl))
  (aj (iT (bR (bX hr) (qv 0) aT) (iU (qv 5) (bH dH hr (af (bR (bX hr) (qv 0) aT) (af (qv 2) aq))) set_list))
  (aj (cg (kU oU oR oS eV (bR (bX hr) (qv 0) aT) (af (ie (af (qv 1) (af (qv 2) (af (qv 3) (af (qv 4) (af (qv 5) aq)))))) aq)))
  (au (cg (kU oU oR oS eV (bR (bX hr) (qv 0) aT) (af (qv 1) aq)))))))),?_⟩
 refine⟨_,Z,B.m,_,Z,cJ.k (k:=Sum.inr "owners") h.om,B.lo,Z,⟨_,aD.of h.oo⟩,λl0 fV=>?_⟩;have Gf:(b.own.map V.str).length=b.own.length:=aE _;refine iD (J:=uK K B.lo) (n:=(b.own.map V.str).length) 0 (λi o H'=>aN H H'/\o=(List.replicate i (0:Int)).map V.int) (by omega) ⟨aI fV _,Z⟩ (λi o H' hi _ hp=>⟨_,_,aD.of (hp.1 _ _ h.oo),a_ hi⟩) (λo H' _ hp=>⟨_,aD.of (hp.1 _ _ h.oo),aL _⟩) ?_ ?_
 .rintro i y o H2 H3 hi fh ha ⟨g,e⟩ ⟨rfl,hy⟩;refine⟨ha,g.cA fV _,?_⟩;subst e;rw[List.replicate_succ',bL];rfl
 rintro o1 H1 _ ha ⟨g1,e⟩;subst e;rw[Gf]at ha;have h1:=h.mono g1;have il:b.own.idxOf o<b.own.length:=lR ho;have rl:((List.replicate b.own.length (0:Int)).map V.int).length=b.own.length:=by rw[aE,iW]
 refine⟨_,Z,B.m,_,Z,cJ.k (k:=Sum.inr "bottom") h1.om,_,Z,_,Z,B.m,_,Z,cJ.k (k:=Sum.inr "owners") h1.om,_,Z,⟨⟨B.lo,b.own,o,Z,aD.of h1.oo,ho,fh,?_⟩⟩⟩;refine⟨l0,_,_,_,Z,Z,ha,by rw[rl];exact lG il,?_⟩;rw[<-jI];have g2:=g1.cA fV (.lst (((List.replicate b.own.length (0:Int)).set (b.own.idxOf o) b.bot).map V.int));have ha2:upd H1 l0 (.lst (((List.replicate b.own.length (0:Int)).set (b.own.idxOf o) b.bot).map V.int)) l0=some (.lst (((List.replicate b.own.length (0:Int)).set (b.own.idxOf o) b.bot).map V.int)):=ak;show vf _ _ _ _ (upd H1 l0 (.lst (((List.replicate b.own.length (0:Int)).set (b.own.idxOf o) b.bot).map V.int)));generalize upd H1 l0 (.lst (((List.replicate b.own.length (0:Int)).set (b.own.idxOf o) b.bot).map V.int))=H2 at *;have h2:=h.mono g2;refine⟨_,Z,B.m,_,Z,cJ.k (k:=Sum.inr "parts") h2.om,.inl ⟨Z,_,aD.of h2.op⟩,_,Z,_,Z,_,Z,_,Z,_,Z,(iM 5),λp hp=>?_⟩;have g3:=aI hp (gq ⟨x,o,wo,we,(List.replicate b.own.length (0:Int)).set (b.own.idxOf o) b.bot⟩ l0);have hp3:upd H2 p (gq ⟨x,o,wo,we,(List.replicate b.own.length (0:Int)).set (b.own.idxOf o) b.bot⟩ l0) p=some (gq ⟨x,o,wo,we,(List.replicate b.own.length (0:Int)).set (b.own.idxOf o) b.bot⟩ l0):=ak;show rD _ (upd H2 p (gq ⟨x,o,wo,we,(List.replicate b.own.length (0:Int)).set (b.own.idxOf o) b.bot⟩ l0)) _;generalize upd H2 p (gq ⟨x,o,wo,we,(List.replicate b.own.length (0:Int)).set (b.own.idxOf o) b.bot⟩ l0)=H3 at *;have vI:H p=none:=g2.free hp;have yy:=g2.trans g3;have Uh:ρ l0=none:=G.none fV;have np:p≠l0:=λe=>by rw[e,ha2]at hp;cases hp
 have cp:bO ρ l0 (n,24,x) p=none:=by rw[b7 np];exact G.none vI
 have h3:bg n (bO (bO ρ l0 (n,24,x)) p (n,23,x)) B H3 b:=((h.mono yy).col Uh).col cp;have G3:Gh (bO (bO ρ l0 (n,24,x)) p (n,23,x)) H3:=((G.same yy).color (g3 _ _ ha2) rfl).color hp3 rfl;have F3:Fr n ρ H (bO (bO ρ l0 (n,24,x)) p (n,23,x)) H3:=((Fr.of_same yy).jw fV).jw vI;have c1:bO (bO ρ l0 (n,24,x)) p (n,23,x) p=some (n,23,x):=cY;have c2:bO (bO ρ l0 (n,24,x)) p (n,23,x) l0=some (n,24,x):=by rw[b7 (cO np),cY]
 have L7:=g3 _ _ ha2;refine⟨B.lp,_,_,Z,Z,h3.op,by rw[aE,h.ql];exact dF hpl,?_⟩;rw[show B.qs.map (λq=>V.ref q.1)++[V.ref p]=(B.qs++[(p,l0)]).map (λq=>V.ref q.1)from by rw[bL];rfl];have h4:=h3.S4 G3 (p:=⟨x,o,wo,we,(List.replicate b.own.length (0:Int)).set (b.own.idxOf o) b.bot⟩) (q:=(p,l0)) hp3 L7 c1 c2;have G4:=G3.wr (a:=B.lp) (o:=.lst ((B.qs++[(p,l0)]).map λq=>V.ref q.1)) rfl;have F4:=F3.trans (Fr.write (o:=.lst ((B.qs++[(p,l0)]).map λq=>V.ref q.1)) h3.cp);generalize upd H3 B.lp (.lst ((B.qs++[(p,l0)]).map λq=>V.ref q.1))=H4 at *;refine⟨_,Z,B.m,_,Z,cJ.k (k:=Sum.inr "known") h4.om,.inl ⟨Z,_,aD.of h4.ok⟩,_,Z,B.lk,_,_,Z,Z,h4.ok,by rw[aE];exact dF hkl,?_⟩;rw[show b.eF.map V.str++[V.str x]=(b.eF++[x]).map V.str from by rw[bL];rfl];exact q _ _ _ (G4.wr rfl) (h4.O_ G4 (b.eF++[x])) rfl (F4.trans (Fr.write h4.ck))
abbrev uG:Stmt:=top 44
abbrev qS:List Str:=["_law_owners"]
abbrev Mr:List Str:=qS.append ["_law_hold","_law_owner"]
theorem uH:aP Mr qS (aC uG):=di
theorem IW{T:TC}(F:At K mg "_law_begin" uG f fd)(Ms:Cn P w K mg base 3 "Hold" T.hold ["self"] (O2 T))(lJ:Mn P w K mg base 3 T.hold "sign" nZ (FG T)):Dn P w K mg base 5 "_law_begin" qS (O5 T K):=by
 refine F.oA uH λcdv A outer s H vs Q E hr h=>?_;obtain⟨⟨l,own,n,ρ,rfl,hl,cl,nd,hnm,hle,g,q⟩⟩:=h;refine⟨_,(@c5.h _ _ _ (aj (aQ (i:=1) uH.nd (Tu Ms hr))
  (aj (fq fM rfl (c_ K (qv 0)) (aS (i:=2) uH.nd) (au (cg (bZ lJ hr (qv 1) (af (qv 2) aq)))))
  (au (bw (qv 1)))))),?_⟩
 intro x dx hx hdx hne;refine⟨⟨x,dx,ρ,n,Z,ak,(g.alloc hdx).alloc (by rw[az (cO hne)];exact hx),g.none hx,λρ1 A H1 ea hh k=>⟨Z,?_⟩⟩⟩;have F1:Fr n ρ H ρ1 H1:=λb o e _=>k b o (by rw[az (aJ e hx),az (aJ e hdx)];exact e) (aJ e hx);refine⟨_,Z,l,Z,⟨_,F1.seq hl cl⟩,?_⟩;refine jY (K:=K) (xs:=own.map V.str) (λi σ H'=>∃ρ' A' s2,σ=[some (.ref l),some (.ref x),s2]/\A'.a=x/\HH T n ρ' A' H' ((own.take i).foldl gI hs0)/\Fr n ρ H ρ' H')
  ⟨ρ1,A,none,Z,ea,hh,F1⟩ (λi σ H' _ hp=>by obtain⟨_,_,_,_,_,_,f⟩:=hp;exact f.seq hl cl) ?_ ?_
 .rintro i y σ H' hy ⟨ρ',A',s2,rfl,ea',Ui,F'⟩;rw[bQ]at hy;obtain⟨o,eo,rfl⟩:=mj.mp hy;have hi:=(dj.mp eo).1;have hos:=tM (own.take i) hs0;have abO:((own.take i).foldl gI hs0).own=own.take i:=by rw[hos];rfl
  refine⟨_,Z,x,A'.dx,_,Z,ea'▸Ui.h.oa,Z,_,Z,⟨⟨n,ρ',A',_,o,by rw[ea'];rfl,Ui,hnm o (aY eo),?_,?_,λρ2 A2 H2 h2 e2 F2=>?_⟩⟩⟩
  .rw [abO];intro m;have h2:(own.take (i+1)).Nodup:=nd.sublist (List.take_sublist _ _);rw[take_snoc eo]at h2;exact(List.nodup_append.mp h2).2.2 o m o (dS.mpr rfl) rfl
  .rw [abO,t8];omega
  .rw [take_snoc eo,Fj];exact⟨ρ2,A2,_,Z,e2.trans ea',h2,F'.trans F2⟩
 rintro σ H' ⟨ρ',A',s2,rfl,ea',Ui,F'⟩;rw[aE,cM]at Ui;have:=q ρ' A' H' Ui F';rw[ea']at this;exact⟨_,Z,this⟩
abbrev zC:Stmt:=top 38
abbrev tV:List Str:=["_law_parts","_law_name_here"]
abbrev Uj:List Str:=tV.append ["_law_at_here"]
theorem ED:aP Uj tV (aC zC):=di
theorem Ro(F:At K mg "_law_at" zC f fd)(bV:mg "len"=none)(cC:mg "range"=none):Dn P w K mg base 1 "_law_at" tV (Eg K):=by
 refine F.oA ED λcdv A outer s H vs Q E hr h=>?_;obtain⟨⟨l,us,ws,x,rfl,hl,hW,nd,hle,q,q2⟩⟩:=h;refine⟨_,(@c5.h _ _ _ (aj (fq fM rfl (gZ (by rfl) cC (af (bh (cU K) (by rfl) bV eY (af (qv 0) aq)) aq)) (aS (i:=2) ED.nd) (au (cX (aU dJ (aF (iI K) (aF (aO K) (qv 0) (qv 2)) ai) (qv 1) (bq _)) (au (bw (qv 2))) bP)))
  (au (bw (Q7 Ke ai))))),?_⟩
 have ll:=hW.len;refine⟨_,Z,l,_,Z,.inl hl,_,Z,by omega,by omega,?_⟩;refine i9 (lo:=0) (n:=((us.length:Nat):Int).toNat) (λi σ H'=>H'=H/\(∀r∈ws.take i,r.1≠x)/\∃s2,σ=[some (.ref l),some (.str x),s2]) ⟨Z,(λ_ m=>nomatch m),_,Z⟩ ?_ ?_
 .rintro i σ H' hi ⟨rfl,hn,s2,rfl⟩;have e0:(0:Int)+(i:Int)=((i:Nat):Int):=by omega
  rw[e0];have hio:i<ws.length:=by omega
  have ei:=a_ hio;obtain⟨a,xs,ea,Ci,x0,_⟩:=hW.at_ i _ ei;refine⟨_,Z,_,Z,l,_,_,_,Z,Z,hl,aB ea,Ci.ix (i:=0) x0 ?_⟩;refine⟨_,Z,Z,_,Z,cI (λc=>?_) (λc=>?_)⟩
  .exact ⟨_,Z,q i _ ei (V.str.inj (dW c))⟩
  .refine ⟨Z,λr hr=>?_,_,Z⟩;rw[take_snoc ei]at hr;rcases dI.mp hr with z|z
   .exact hn r z
   .rw [dS.mp z];intro e;exact c (br (by rw[e]))
 rintro σ H' ⟨rfl,hn,s2,rfl⟩;refine⟨1,Z,q2 λr hr=>hn r ?_⟩;rw[JU (by omega)];exact hr
abbrev wC:Stmt:=top 31
abbrev tD:List Str:=["_law_script","_law_k","_law_parts"]
abbrev NS:List Str:=tD.append ["_law_spare","_law_order","_law_rows_here","_law_at_here","_law_way","_law_amount"]
theorem gG:aP NS tD (aC wC):=di
theorem Mt(F:At K mg "_law_rows" wC f fd)(bB:Dn P w K mg base 1 "_law_draw" iB (tH K))(bV:mg "len"=none)(cC:mg "range"=none)(kF:mg "list"=none)(eU:mg "sum"=none)(qT:mg "min"=none):Dn P w K mg base 2 "_law_rows" tD (Pb K):=by
 refine F.oA gG λcdv A outer s H vs Q E hr h=>?_;obtain⟨⟨a,l,ns,k,us,ws,rfl,hS,h63,hk0,hk1,hl,hW,nd,hle,hw1,q⟩⟩:=h;refine⟨_,(@c5.h _ _ _ (aj (aQ (i:=3) gG.nd (aG jL (bh (i_ K rfl) (by rfl) eU tZ (af (iw ["_law_part"] [none] rfl (c_ K (qv 2)) (λ_ _ _ _=>(aS (i:=0) (show List.Nodup (["_law_part"] :List Str)from by decide +kernel))) (λ_ _ _ _=>(aF (iI K) (qv 0) ai)) rfl (by rfl)) aq)) ai))
  (aj (aQ (i:=4) gG.nd (pV (Io rfl) (by rfl) kF JV (af (Tq (by rfl) cC (af (bh (cU K) (by rfl) bV eY (af (qv 2) aq)) aq)) aq)))
  (aj (ig (aU dJ (bH bB hr (af (qv 0) (af (qv 1) (af ai (af ai aq))))) ai (bq _)) (au (aQ (i:=4) gG.nd (aaS K (qv 4) (Q7 Ke ai)))) bP)
  (aj (aQ (i:=5) gG.nd (ie aq))
  (aj (fq fM rfl (c_ K (qv 4)) (aS (i:=6) gG.nd) (aj (aQ (i:=7) gG.nd (bH bB hr (af (qv 0) (af (qv 1) (af (aG cE ai (aG gM ai (qv 6))) (af ai aq))))))
  (aj (aQ (i:=8) gG.nd (bh (S9 rfl) (by rfl) qT JW (af (aF (iI K) (aF (aO K) (qv 2) (qv 6)) ai) (af (qv 3) (af (aG nQ ai ai) aq)))))
  (aj (ig (jF (bW.pt (tP (aU dJ (qv 7) ai (bq _)) (vc (aU jM (qv 8) ai (bq _)))))) (au (aQ (i:=8) gG.nd (aG cE ai (bH bB hr (af (qv 0) (af (qv 1) (af (aG cE ai (aG gM ai (qv 6))) (af (qv 8) aq)))))))) bP)
  (au (ig (jF (bW.pt (tP (aU jM (qv 7) ai (bq _)) (vc (aU jM (qv 8) ai (bq _)))))) (aj (cg (kU oU oR oS eV (qv 5) (af (iS (af (aF (iI K) (aF (aO K) (qv 2) (qv 6)) ai) (af (qv 8) aq))) aq)))
  (au (aQ (i:=3) gG.nd (aG jL (qv 3) (qv 8))))) bP))))))
  (au (bw (qv 5))))))))),?_⟩
 have ll:=hW.len;refine⟨_,Z,l,Z,⟨_,hl⟩,λl0 fV=>?_⟩;refine iD (J:=uK K l) (n:=us.length) 0 (λi o H'=>aN H H'/\o=((ws.take i).map (λr:Row=>r.2)).map V.int) (by omega) ⟨aI fV _,Z⟩ (λi o H' hi _ hp=>⟨_,_,hp.1.seq hl,a_ hi⟩) (λo H' _ hp=>⟨_,hp.1.seq hl,aL _⟩) ?_ ?_
 .rintro i y o H2 H3 hi fh ha ⟨g,e⟩ ⟨rfl,hy⟩;have hiw:i<ws.length:=by omega
  have ei:=a_ hiw;obtain⟨ar,xs,ea,Ci,x0,x2⟩:=hW.at_ i _ ei;have ey:=hy _ (g.seq hl);rw[ea]at ey;cases ey;refine⟨_,Z,(g.sq Ci).ix (i:=2) x2 ?_⟩;refine⟨ha,g.cA fV _,?_⟩;subst e;rw[take_snoc ei,bL,bL];rfl
 rintro o1 H1 _ ha ⟨g1,e⟩;rw[ll,cM]at e;subst e;refine⟨l0,ws.map (λr:Row=>r.2),Z,aD.of ha,_,_,Z,Z,?_⟩;show lU 3 (.int (bJ ws-1)) _ _ _;refine⟨_,Z,l,_,Z,.inl (g1.seq hl),_,Z,λpr hpr=>?_⟩;refine⟨pr,ws.length,Z,?_,by omega,λpo Xb=>?_⟩
 .rw [ak,ll]
 have gA:=(aI hpr (.x_ 0 ((us.length:Nat):Int))).trans (aI Xb (.lst ((L2.upTo ws.length).map V.int)));have gB:=g1.trans gA;have hord:upd (upd H1 pr (.x_ 0 ((us.length:Nat):Int))) po (.lst ((L2.upTo ws.length).map V.int)) po=some (.lst ((L2.upTo ws.length).map V.int)):=ak;generalize upd (upd H1 pr (.x_ 0 ((us.length:Nat):Int))) po (.lst ((L2.upTo ws.length).map V.int))=H2 at *;have ndo:(L2.upTo ws.length).Nodup:=by unfold L2.upTo;refine List.Pairwise.map _ (λx y h e=>h (by omega)) List.nodup_range
 have x_:∀x∈L2.upTo ws.length,0<=x/\x<(ws.length:Int):=λx hx=>by unfold L2.upTo at hx;obtain⟨i,hi,rfl⟩:=aX.mp hx;have:=sL.mp hi;omega
 have lup:(L2.upTo ws.length).length=ws.length:=by unfold L2.upTo;rw[aE,Fi]
 refine⟨λσ H3=>aN H H3/\∃(pq:Addr)(os:List Int),σ=[some (.ref a),some (.int k),some (.ref l),some (.int (bJ ws-1)),some (.ref pq),none,none,none,none]/\H3 pq=some (.lst (os.map V.int))/\os.Nodup/\os.length=ws.length/\∀x∈os,0<=x/\x<(ws.length:Int),?_,?_⟩
 .refine ⟨_,Z,_,Z,dw (gB.seq hS) h63 hk0 (by decide) (by decide) (by decide) λd _ d0 d1=>⟨Z,_,Z,cI (λc=>?_) (λc=>?_)⟩⟩
  .refine ⟨_,Z,_,Z,Z,po,_,Z,aD.of hord,λpz hpz=>?_⟩;have g3:=aI hpz (.lst ((L2.upTo ws.length).map V.int).reverse);exact⟨gB.trans g3,pz,(L2.upTo ws.length).reverse,Z,by rw[ak,List.map_reverse],List.pairwise_reverse.mpr (List.Pairwise.imp (λh=>cO h) ndo),by rw[List.length_reverse,lup],λx hx=>x_ x (List.mem_reverse.mp hx)⟩
  .exact ⟨gB,po,L2.upTo ws.length,Z,hord,ndo,lup,x_⟩
 rintro σ H3 ⟨g3,pq,os,rfl,hos,hnd,fh,hrg⟩;refine⟨(iM 0),λz hz=>?_⟩;have g4:=aI hz (.lst []);have hzz:upd H3 z (.lst []) z=some (.lst []):=ak;have abQ:=g4 _ _ hos;have nz:pq≠z:=λe=>by rw[e,hz]at hos;cases hos
 have hzH:H z=none:=g3.free hz;have g34:=g3.trans g4;show vf _ _ _ _ (upd H3 z (.lst []));generalize upd H3 z (.lst [])=H4 at *;have w1:ws≠[]->1<=bJ ws:=λhne=>by
  cases ws with
  | nil=>exact absurd rfl hne
  | cons r rs=>have h1:=hw1 r cQ;have h2:=CC (rs:=rs) λx hx=>hw1 x (cR _ hx);rw[show bJ (r::rs)=r.2+bJ rs from by unfold bJ;rw[bF,b8]];omega
 refine⟨_,Z,pq,Z,⟨_,aD.of abQ⟩,?_⟩;refine jY (K:=K) (xs:=os.map V.int) (λi σ H'=>aN H H'/\H' pq=some (.lst (os.map V.int))/\∃(zs:List V)(rs:List Row)(sp:Int)(s6 s7 s8:Option V),σ=[some (.ref a),some (.int k),some (.ref l),some (.int sp),some (.ref pq),some (.ref z),s6,s7,s8]/\H' z=some (.lst zs)/\gi H' zs rs/\rs.length<=i/\(rs.map (λr:Row=>r.1)).Nodup/\
   sp=bJ ws-1-bJ rs/\(ws≠[]->0<=sp)/\∀r∈rs,1<=r.2/\r.2<=1000000000/\∃j:Nat,((j:Nat):Int)∈os.take i/\∃w,ws[j]?=some w/\w.1=r.1/\r.2<=w.2)
  ⟨g34,abQ,[],[],bJ ws-1,none,none,none,Z,hzz,.nil,aL _,wR,by show _=bJ ws-1-0;omega,λhne=>by have:=w1 hne;omega,λr hr=>absurd hr (by simp)⟩ ?_ ?_ ?_
 .rintro i σ H' _ ⟨_,h,_⟩;exact aD.of h
 .rintro i x σ H5 hx ⟨g5,hq5,zs,rs,sp,s6,s7,s8,rfl,Ii,hR,hrl,Xe,vh,Rp,vP⟩;rw[bQ]at hx;obtain⟨at',hat,rfl⟩:=mj.mp hx;have hio:=(dj.mp hat).1;obtain⟨t0,t1⟩:=hrg at' (aY hat);obtain⟨jt,hjt⟩:∃jt:Nat,((jt:Nat):Int)=at':=⟨at'.toNat,by omega⟩
  subst hjt;have hjl:jt<ws.length:=by omega
  have hne:ws≠[] :=λe=>by rw[e]at hjl;simp at hjl
  have agv:=Rp hne;have hnot:((jt:Nat):Int)∉os.take i:=λm=>by obtain⟨j,hj,ej⟩:=List.mem_iff_getElem.mp m;rw[List.getElem_take]at ej;rw[t8]at hj;have e2:=(dj.mp hat).2;have:=(List.getElem_inj hnd).mp (ej.trans e2.symm);omega
  have ej:=a_ hjl;have hwj:=hw1 _ (aY ej);generalize ws[jt]=wj at *;obtain⟨ar,xs,ea,Ci,x0,x2⟩:=hW.at_ jt _ ej;refine⟨_,Z,_,Z,_,Z,_,_,Z,Z,.inl ⟨by decide,by decide⟩,_,_,Z,Z,dw (g5.seq hS) h63 hk0 (by omega) (by omega) (by decide) λway _ v0 v1=>?_⟩;refine⟨_,Z,_,Z,l,_,_,_,Z,Z,g5.seq hl,aB ea,(g5.sq Ci).ix (i:=2) x2 ?_⟩;refine⟨_,Z,_,_,Z,Z,⟨by decide,by decide,by decide⟩,_,_,_,Z,?_⟩;obtain⟨m1,m2,m3⟩:=Ye wj.2 sp ((10:Int) ^ (9:Int).toNat);have m0:0<=vF wj.2 sp ((10:Int) ^ (9:Int).toNat):=Yg (by omega) agv (by decide);have m3:vF wj.2 sp ((10:Int) ^ (9:Int).toNat)<=1000000000:=m3;generalize vF wj.2 sp ((10:Int) ^ (9:Int).toNat)=m at *;refine⟨λσ H6=>H5=H6/\∃m:Int,0<=m/\m<=sp/\m<=wj.2/\m<=1000000000/\σ=[some (.ref a),some (.int k),some (.ref l),some (.int sp),some (.ref pq),some (.ref z),some (.int (jt:Int)),some (.int way),some (.int m)],?_,?_⟩
  .refine ⟨decide (way=2/\0<m),?_,?_⟩
   .refine ⟨_,Z,Z,_,Z,?_⟩;by_cases h1:way=2
    .rw [br (by rw[h1] :V.int way=V.int 2)];refine mw ⟨_,Z,_,_,Z,Z,_,Z,?_,Z⟩;by_cases h2:0<m
     .rw [br h2,br ⟨h1,h2⟩]
     .rw [dB h2,dB λz=>h2 z.2]
    .rw [dB (λz=>h1 (V.int.inj z))];exact aW ⟨(dB λz=>h1 z.1).symm,Z⟩
   refine cI (λc=>?_) (λc=>?_)
   .obtain ⟨_,c2⟩:=dW c;refine⟨_,Z,_,Z,_,Z,_,_,Z,Z,.inl ⟨by decide,by decide⟩,_,_,Z,Z,_,Z,dw (g5.seq hS) h63 hk0 (by omega) (by omega) c2 λd _ d0 d1=>⟨_,_,Z,Z,Z,1+d,by omega,by omega,by omega,by omega,Z⟩⟩
   .exact ⟨Z,m,m0,m2,m1,m3,Z⟩
  rintro σ H6 ⟨rfl,o,o0,o1,o2,o3,rfl⟩;have grow:∀r∈rs,1<=r.2/\r.2<=1000000000/\∃j:Nat,((j:Nat):Int)∈os.take (i+1)/\∃w,ws[j]?=some w/\w.1=r.1/\r.2<=w.2:=λr hr=>by obtain⟨a1,a2,j,a3,a4⟩:=vP r hr;exact⟨a1,a2,j,by rw[take_snoc hat];exact Ck _ a3,a4⟩
  refine⟨λσ H6=>aN H H6/\H6 pq=some (.lst (os.map V.int))/\∃(zs:List V)(rs:List Row)(sp:Int)(s6 s7 s8:Option V),σ=[some (.ref a),some (.int k),some (.ref l),some (.int sp),some (.ref pq),some (.ref z),s6,s7,s8]/\H6 z=some (.lst zs)/\gi H6 zs rs/\rs.length<=i+1/\(rs.map (λr:Row=>r.1)).Nodup/\
   sp=bJ ws-1-bJ rs/\(ws≠[]->0<=sp)/\∀r∈rs,1<=r.2/\r.2<=1000000000/\∃j:Nat,((j:Nat):Int)∈os.take (i+1)/\∃w,ws[j]?=some w/\w.1=r.1/\r.2<=w.2,?_,λ_ _ h=>h⟩
  refine⟨decide (0<way/\0<o),?_,?_⟩
  .refine ⟨_,Z,_,_,Z,Z,_,Z,?_⟩;by_cases h1:0<way
   .rw [br h1];refine mw ⟨_,Z,_,_,Z,Z,_,Z,?_,Z⟩;by_cases h2:0<o
    .rw [br h2,br ⟨h1,h2⟩]
    .rw [dB h2,dB λz=>h2 z.2]
   .rw [dB h1];exact aW ⟨(dB λz=>h1 z.1).symm,Z⟩
  refine cI (λc=>?_) (λc=>?_)
  .obtain ⟨_,c2⟩:=dW c;refine⟨_,Z,.inl ⟨Z,_,aD.of Ii⟩,_,Z,_,Z,l,_,_,_,Z,Z,g5.seq hl,aB ea,(g5.sq Ci).ix (i:=0) x0 ?_⟩;refine⟨_,Z,(iM 2),λp hp=>?_⟩;have g6:=aI hp (xP (wj.1,o));have hz6:=g6 _ _ Ii;have hq6:=g6 _ _ hq5;have W0:upd H5 p (xP (wj.1,o)) p=some (xP (wj.1,o)):=ak;have agw:=hR.length;show rD _ (upd H5 p (xP (wj.1,o))) _;generalize upd H5 p (xP (wj.1,o))=H6 at *;refine⟨z,_,_,Z,Z,hz6,by rw[agw];exact dF (by omega),?_⟩;have np:p≠z:=λe=>by rw[e,Ii]at hp;cases hp
   have tu:∀b ys,H6 b=some (.tup ys)->upd H6 z (.lst (zs++[.ref p])) b=some (.tup ys):=rJ (.inr ⟨_,hz6,Z⟩);refine⟨_,Z,_,Z,_,_,Z,Z,(g5.trans g6).cA hzH _,by rw[az nz];exact hq6,zs++[.ref p],rs++[(wj.1,o)],sp-o,_,_,_,Z,ak,((hR.mono g6.tups).snoc W0).mono tu,by rw[c7];show rs.length+1<=i+1;omega,?_,?_,λ_=>by omega,?_⟩
   .rw [bL];refine m7 Xe λhm=>?_;obtain⟨r,hr,er⟩:=aX.mp hm;obtain⟨_,_,j,hj,w,abS,e1,_⟩:=vP r hr;have hj2:j<ws.length:=(dj.mp abS).1;have r1:(ws.map (λr:Row=>r.1))[j]?=some w.1:=by rw[bQ,abS];rfl
    have r2:(ws.map (λr:Row=>r.1))[jt]?=some wj.1:=by rw[bQ,ej];rfl
    have er:r.1=wj.1:=er;have:j=jt:=(Fl (by rw[aE];exact hj2) nd).mp (r1.trans (by rw[e1,er];exact r2.symm));rw[this]at hj;exact hnot hj
   .rw [show bJ (rs++[(wj.1,o)])=bJ rs+o from by unfold bJ;rw[bL,Df];simp];omega
   .intro r hr;rcases dI.mp hr with h1|h1
    .exact grow r h1
    .rw [dS.mp h1];exact⟨by show 1<=o;omega,o3,jt,by rw[take_snoc hat];exact jW _ (dS.mpr rfl),wj,ej,Z,o2⟩
  .exact ⟨g5,hq5,zs,rs,sp,_,_,_,Z,Ii,hR,by omega,Xe,vh,Rp,grow⟩
 rintro σ H5 ⟨g5,hq5,zs,rs,sp,s6,s7,s8,rfl,Ii,hR,hrl,Xe,vh,Rp,vP⟩;rw[aE,fh]at hrl;refine⟨_,Z,q z zs rs H5 g5 hzH Ii hR ⟨Xe,λr hr=>?_,?_,hrl⟩⟩
 .obtain ⟨a1,a2,j,_,w,hw,e1,e2⟩:=vP r hr;exact⟨a1,a2,w,aY hw,e1,e2⟩
 .by_cases c:ws=[]
  .right;rw[c]at hrl;exact List.length_eq_zero_iff.mp (by simpa using hrl)
  .left;have:=Rp c;omega
abbrev wD:Stmt:=top 32
abbrev tE:List Str:=["_law_rows_here"]
abbrev NT:List Str:=tE.append ["_law_things","_law_name_here","_law_amount"]
theorem qU:aP NT tE (aC wD):=di
theorem Mu(F:At K mg "_law_flat" wD f fd)(vd:mg "tuple"=none):Dn P w K mg base 1 "_law_flat" tE (TJ K):=by
 refine F.oA qU λcdv A outer s H vs Q E hr h=>?_;obtain⟨⟨l,us,rs,rfl,hl,hR,hle,q⟩⟩:=h;refine⟨_,(@c5.h _ _ _ (aj (aQ (i:=1) qU.nd (ie (af aT aq)))
  (aj (fq fM rfl (c_ K (qv 0)) (iL K (n:=2) rfl (cS (aS (i:=2) qU.nd) (cS (aS (i:=3) qU.nd) iK))) (aj (cg (kU oU oR oS eV (qv 1) (af (qv 2) aq)))
  (au (cg (kU oU oR oS eV (qv 1) (af (qv 3) aq))))))
  (au (bw (pV Il (by rfl) vd PyProof.Rows.boot_tuple (af (qv 1) aq))))))),?_⟩
 have T8:=hR.length;refine⟨(iM 1),λt ht=>?_⟩;have g0:=aI ht (.lst [.str "cast"]);have h0:upd H t (.lst [.str "cast"]) t=some (.lst (Dd.v (.cast (rs.take 0)))):=ak;show vf _ _ _ _ (upd H t (.lst [.str "cast"]));generalize upd H t (.lst [.str "cast"])=H0 at *;refine⟨_,Z,l,Z,⟨us,g0.seq hl⟩,?_⟩;refine jY (K:=K) (xs:=us) (λi σ H'=>aN H H'/\H' t=some (.lst (Dd.v (.cast (rs.take i))))/\∃s2 s3,σ=[some (.ref l),some (.ref t),s2,s3]) ⟨g0,h0,_,_,Z⟩ (λi σ H' _ hp=>hp.1.seq hl) ?_ ?_
 .rintro i x σ H' hx ⟨g,hd',s2,s3,rfl⟩;obtain⟨a,r,rfl,er,ha⟩:=hR.get hx;have hlt:(Dd.v (.cast (rs.take i))).length+1<sizeLine:=by show(jS (rs.take i)).length+1+1<_;rw[AE,t8,lT];exact Fd (show _<=3000 by omega) (by decide)
  refine⟨a,_,Z,dU.of (g _ _ ha),Z,_,_,Z,_,_,Z,Z,?_⟩;refine⟨_,Z,.inl ⟨Z,_,aD.of hd'⟩,_,Z,t,_,_,Z,Z,hd',by omega,?_⟩;refine⟨_,Z,.inl ⟨Z,_,aD.of ak⟩,_,Z,t,_,_,Z,Z,ak,by rw[c7];exact hlt,?_⟩;refine⟨?_,?_,_,_,Z⟩
  .rw [pP];exact g.cA ht _
  .rw [ak,take_snoc er];show some (HO.lst ((V.str "cast"::jS (rs.take i)++[V.str r.1])++[V.int r.2]))=some (HO.lst (V.str "cast"::jS (rs.take i++[r])));rw[AD];simp[jS]
 rintro σ H' ⟨g,hd',s2,s3,rfl⟩;rw[T8,cM]at hd';refine⟨_,Z,t,_,Z,.inl ⟨aD.of hd',λz hz=>q z _ (g.trans (aI hz _)) ak⟩⟩
abbrev nN:Stmt:=top 33
abbrev kY:List Str:=["_law_script","_law_k","_law_model_here","_law_names_here","_law_way"]
abbrev CV:List Str:=kY.append ["_law_parts","_law_part","_law_owner","_law_whole","_law_rows_here","_law_amount"]
theorem gu:aP CV kY (aC nN):=di
theorem BQ(F:At K mg "_law_part_deed" nN f fd)(bB:Dn P w K mg base 1 "_law_draw" iB (tH K))(lK:Dn P w K mg base 2 "_law_much" n_ (DP K))(xV:Dn P w K mg base 2 "_law_rows" tD (Pb K))(xW:Dn P w K mg base 1 "_law_flat" tE (TJ K))(bV:mg "len"=none)(eU:mg "sum"=none)(qT:mg "min"=none):Dn P w K mg base 3 "_law_part_deed" kY (El K):=by
 refine F.oA gu λcdv A outer s H vs Q E hr h=>?_;obtain⟨⟨a,m,ln,ns,k,way,nms,c,st,rfl,hS,h63,hk0,hk1,hq,hN,nx,hnl,wf,g,hc,hp0,q⟩⟩:=h;refine⟨_,(@c5.h _ _ _ (aj (aQ (i:=5) gu.nd (bR (bX hr) (qv 2) aT))
  (aj (aQ (i:=6) gu.nd (aF (aO K) (qv 5) (bH bB hr (af (qv 0) (af (qv 1) (af ai (af (bh (cU K) (by rfl) bV eY (af (qv 5) aq)) aq)))))))
  (aj (aQ (i:=7) gu.nd (aF (aO K) (bR (bX hr) (qv 2) aT) (bH bB hr (af (qv 0) (af (qv 1) (af ai (af (bh (cU K) (by rfl) bV eY (af (bR (bX hr) (qv 2) aT) aq)) aq)))))))
  (aj (aQ (i:=8) gu.nd (bh (i_ K rfl) (by rfl) eU tZ (af (iw ["_law_one"] [none] rfl (c_ K (qv 5)) (λ_ _ _ _=>(aS (i:=0) (show List.Nodup (["_law_one"] :List Str)from by decide +kernel))) (λ_ _ _ _=>(aF (iI K) (qv 0) ai)) rfl (by rfl)) aq)))
  (aj (ig (aU sP (qv 4) ai (bq _)) (aj (aQ (i:=9) gu.nd (bH xV hr (af (qv 0) (af (qv 1) (af (qv 5) aq)))))
  (au (cX (aU jM (bh (cU K) (by rfl) bV eY (af (qv 9) aq)) ai (bq _)) (au (bw (bH xW hr (af (qv 9) aq)))) bP))) bP)
  (aj (cX (aU dJ (qv 4) ai (bq _)) (au (bw (iS (af aT (af (aF (iI K) (qv 6) ai) (af (qv 7) aq)))))) bP)
  (aj (cX (aU dJ (qv 4) ai (bq _)) (au (bw (iS (af aT (af (aF (iI K) (qv 6) ai) aq))))) bP)
  (aj (cX (jF (bW.pt (tP (aU dJ (qv 4) ai (bq _)) (vc (aU jM (qv 8) ai (bq _)))))) (au (bw (iS (af aT (af (qv 7) (af (aG cE ai (bH bB hr (af (qv 0) (af (qv 1) (af ai (af (bh (wZ rfl) (by rfl) qT JW (af (aG jL (qv 8) ai) (af (aG nQ ai ai) aq))) aq)))))) aq)))))) bP)
  (aj (cX (jF (bW.pt (tP (aU dJ (qv 4) ai (bq _)) (tP (aU jM (aF (iI K) (qv 6) ai) ai (bq _)) (vc (aU sP (bh (cU K) (by rfl) bV eY (af (bR (bX hr) (qv 2) aT) aq)) (bh (cU K) (by rfl) bV eY (af (qv 3) aq)) (bq _))))))) (aj (aQ (i:=10) gu.nd (aG cE ai (bH bB hr (af (qv 0) (af (qv 1) (af ai (af (bh (wZ rfl) (by rfl) qT JW (af (aG jL (aF (iI K) (qv 6) ai) ai) (af (aG nQ ai ai) aq))) aq)))))))
  (au (bw (iS (af aT (af (aF (iI K) (qv 6) ai) (af (aF (aO K) (qv 3) (bh (cU K) (by rfl) bV eY (af (bR (bX hr) (qv 2) aT) aq))) (af (qv 10) (af (bH bB hr (af (qv 0) (af (qv 1) (af ai (af (aG cE (aF (iI K) (qv 6) ai) ai) aq))))) aq))))))))) bP)
  (aj (cX (aU dJ (qv 4) ai (bq _)) (au (bw (iS (af aT (af (aF (iI K) (qv 6) ai) (af (aG cE ai (bH bB hr (af (qv 0) (af (qv 1) (af ai (af (bh (wZ rfl) (by rfl) qT JW (af (aF (iI K) (qv 6) ai) (af (aG nQ ai ai) aq))) aq)))))) aq)))))) bP)
  (au (bw (iS (af aT (af (aF (iI K) (qv 6) ai) (af (bH lK hr (af (qv 0) (af (qv 1) (af ai aq)))) aq))))))))))))))))),?_⟩
 obtain⟨kvs,lo,lp,lk,us,om,vo,vp,vk,oo,op,rw',ok⟩:=hq;have ll:=rw'.len;have hpl:=g.pl;have fh:=wf.kP;have agx:=g.ol;refine⟨_,Z,m,_,Z,vp▸cJ.k (k:=Sum.inr "parts") om,?_⟩;refine⟨_,Z,_,Z,_,Z,_,Z,_,us,Z,.inl op,dw hS h63 hk0 (by decide) (by decide) (by omega) λd _ d0 d1=>?_⟩;obtain⟨j,rfl⟩:∃j:Nat,d=(j:Int):=⟨d.toNat,by omega⟩
 have hj:j<st.ah.length:=by omega
 have ep:=a_ hj;have fk:=yF hj;generalize st.ah[j]=p at *;obtain⟨ap,xs,ea,Ci,x0,x1,x2,x3⟩:=rw'.at_ j p ep;refine⟨lp,_,_,_,Z,Z,op,aB ea,?_⟩;refine⟨_,Z,m,_,Z,vo▸cJ.k (k:=Sum.inr "owners") om,_,Z,_,Z,_,Z,m,_,Z,vo▸cJ.k (k:=Sum.inr "owners") om,lo,_,Z,.inl oo,dw hS h63 hk0 (by decide) (by decide) (by rw[aE];omega) λwd _ w0 w1=>?_⟩;rw[aE]at w1;obtain⟨jo,o,ejo,eo,eat⟩:=K8 (l:=st.own) (d:=wd) w0 w1;refine⟨lo,_,_,_,Z,Z,oo,eat,?_⟩;have how:=aY eo;have wol:wl o<=20:=rQ (g.on o how);have Uk:wl p.nm<=20:=rQ (g.nk _ (wf.sub p fk));have hw0:=wf.jE p fk;have eg:cL st p.nm=p:=dN wf fk rfl;have hin:p.nm∈fQ st:=BF ep;refine⟨_,Z,lp,Z,⟨_,op⟩,λl0 fV=>?_⟩;refine iD (J:=uK K lp) (n:=us.length) 0 (λi o H'=>aN H H'/\o=((st.ah.take i).map (λp:Pt=>p.wo)).map V.int) (by omega) ⟨aI fV _,Z⟩ (λi o H' hi _ hp=>⟨_,_,hp.1.seq op,a_ hi⟩) (λo H' _ hp=>⟨_,hp.1.seq op,aL _⟩) ?_ ?_
 .rintro i y o H2 H3 hi fh ha ⟨g,e⟩ ⟨rfl,hy⟩;have hiw:i<st.ah.length:=by omega
  have ei:=a_ hiw;obtain⟨ar,xs,ea,Ci,_,_,x2,_⟩:=rw'.at_ i _ ei;have ey:=hy _ (g.seq op);rw[ea]at ey;cases ey;refine⟨_,Z,(g.sq Ci).ix (i:=2) x2 ?_⟩;refine⟨ha,g.cA fV _,?_⟩;subst e;rw[take_snoc ei,bL,bL];rfl
 rintro o1 H1 _ ha ⟨g1,e⟩;rw[ll,cM]at e;subst e;refine⟨l0,st.ah.map (λp:Pt=>p.wo),Z,aD.of ha,?_⟩;show lU 8 (.int (aH st)) _ _ _;have ret:∀(t:Addr)(d:Dd)(H2:Hp),aN H H2->H2 t=none->BJ nms st d->Q (.ref t) (upd H2 t (.tup (Dd.v d))):=λt d H2 g2 ht hd=>q t d _ (g2.trans (aI ht _)) ak hd;have keep:∀d:Dd,vJ st d=none->Pf d->d.pl=true->BJ nms st d:=λd h1 h2 h3=>⟨h1,h2,nx.keep (aa8 (Dd.VY h3).1 (Dd.VY h3).2.1),(Dd.VY h3).2.2⟩
 refine⟨λσ' H'=>aN H H'/\∃s9,σ'=[some (.ref a),some (.int k),some (.ref m),some (.ref ln),some (.int way),some (.ref lp),some (.ref ap),some (.str o),some (.int (aH st)),s9,none],?_,?_⟩
 .refine ⟨_,Z,_,_,Z,Z,_,Z,cI (λ_=>?_) (λ_=>⟨g1,_,Z⟩)⟩;have hw1:∀w∈zR st,1<=w.2:=λw hw=>by obtain⟨p,hp,rfl⟩:=aX.mp hw;exact(wf.jE p hp).1
  have nwN:((zR st).map (λr:Row=>r.1)).Nodup:=by unfold zR;rw[fu];exact wf.fF
  have nwL:(zR st).length=st.ah.length:=by unfold zR;rw[aE]
  refine⟨_,Z,_,Z,_,Z,⟨⟨a,lp,ns,k,us,zR st,Z,g1.seq hS,h63,hk0,hk1,g1.seq op,(rw'.mono g1).nw,nwN,by omega,hw1,λz zs rs H2 g2 hz0 hz1 hR hro=>?_⟩⟩⟩;have zl:=hR.length;refine⟨_,Z,z,zs,Z,.inl (aD.of hz1),_,_,Z,Z,_,Z,cI (λc=>?_) (λc=>⟨g1.trans g2,_,Z⟩)⟩;have c':(0:Int)<(zs.length:Int):=dW c;have hne:rs≠[] :=λe=>by rw[zl,e]at c';simp at c'
  have rl:=hro.len;have:=nx.pl wf;refine⟨_,Z,⟨⟨z,zs,rs,Z,aD.of hz1,hR,by omega,λt H3 g3 ht=>q t (.cast rs) H3 ((g1.trans g2).trans g3) ht (keep _ (Q8 wf hro hne) ⟨by omega,λr hr=>?_⟩ rfl)⟩⟩⟩;obtain⟨r1,r2,w,hw,e,_⟩:=hro.row r hr;obtain⟨p',eL,rfl⟩:=aX.mp hw;have e:p'.nm=r.1:=e;exact⟨by rw[<-e];exact rQ (g.nk _ (wf.sub p' eL)),by omega,r2⟩
 rintro σ H2 ⟨g2,s9,rfl⟩;have xX:=g2.sq Ci;have Ij:=g2.seq hS;have P9:UZ 10 9:=⟨by decide,by decide,by decide +kernel⟩
 have p9:(10:Int) ^ (9:Int).toNat=1000000000:=by decide +kernel
 have mn:∀w:Int,0<w->0<(if(10:Int) ^ (9:Int).toNat<w then(10:Int) ^ (9:Int).toNat else w)/\(if(10:Int) ^ (9:Int).toNat<w then(10:Int) ^ (9:Int).toNat else w)<=w/\(if(10:Int) ^ (9:Int).toNat<w then(10:Int) ^ (9:Int).toNat else w)<=1000000000:=λw h=>by rw[p9];split <;> omega
 refine⟨_,Z,Z,_,Z,cI (λ_=>?_) (λ_=>?_)⟩
 .exact ⟨_,Z,xX.ix (i:=0) x0 ⟨_,Z,(iM 3),λt ht=>ret t (.hand p.nm o) H2 g2 ht (keep _ (by show oG st p.nm o=none;unfold oG;rw[ay hin,ay how]) ⟨Uk,wol⟩ rfl)⟩⟩
 refine⟨_,Z,Z,_,Z,cI (λ_=>?_) (λ_=>?_)⟩
 .exact ⟨_,Z,xX.ix (i:=0) x0 ⟨(iM 2),λt ht=>ret t (.land p.nm) H2 g2 ht (keep _ (ay hin) Uk rfl)⟩⟩
 by_cases zP:way=10/\1<aH st
 .refine ⟨true,⟨_,Z,Z,_,Z,cI (λ_=>⟨_,Z,_,_,Z,Z,_,Z,br zP.2,Z⟩) (λc=>absurd (br (by rw[zP.1])) c)⟩,mw ?_⟩;obtain⟨m0,m1,m2⟩:=mn (aH st-1) (by omega);refine⟨_,Z,_,Z,_,Z,_,Z,_,_,Z,Z,_,_,Z,Z,P9,_,_,Z,dw Ij h63 hk0 (by decide) (by decide) m0 λd _ d0 d1=>⟨_,_,Z,Z,(iM 3),λt ht=>ret t (.award o (1+d)) H2 g2 ht (keep _ ?_ ⟨wol,by omega,by omega⟩ rfl)⟩⟩;show mH st o (1+d)=none;unfold mH;rw[ay how,av (by omega),av (by omega)]
 refine⟨false,⟨_,Z,Z,_,Z,cI (λc=>⟨_,Z,_,_,Z,Z,_,Z,dB (λz=>zP ⟨V.int.inj (dW c),z⟩),Z⟩) (λc=>⟨Z,Z⟩)⟩,aW ?_⟩;have Rq:((nms.map V.str).length:Int)=(nms.length:Int):=by rw[aE]
 have Rr:((st.nms.map V.str).length:Int)=(st.nms.length:Int):=by rw[aE]
 by_cases h11:way=11/\1<p.wo/\st.nms.length<nms.length
 .refine ⟨true,⟨_,Z,Z,_,Z,cI (λ_=>⟨_,Z,xX.ix (i:=2) x2 ⟨_,_,Z,Z,_,Z,cI (λ_=>⟨_,Z,m,_,Z,vk▸cJ.k (k:=Sum.inr "known") (g2 _ _ om),lk,_,Z,.inl (g2.seq ok),_,Z,ln,_,Z,.inl (g2.seq hN),_,_,Z,Z,_,Z,br (by rw[Rq,Rr];omega),Z⟩) (λc=>absurd (br h11.2.1) c)⟩⟩) (λc=>absurd (br (by rw[h11.1])) c)⟩,mw ?_⟩;obtain⟨m0,m1,m2⟩:=mn (p.wo-1) (by omega);have ey:=a_ h11.2.2;obtain⟨y1,y2,y3⟩:=nx.next ey;generalize nms[st.nms.length]=y at *;have eyv:kL (nms.map V.str) ((st.nms.length:Nat):Int)=some (.str y):=aB (by rw[bQ,ey];rfl);refine⟨_,Z,_,Z,_,Z,xX.ix (i:=2) x2 ⟨_,_,Z,Z,_,_,Z,Z,P9,_,_,Z,dw Ij h63 hk0 (by decide) (by decide) m0 λd _ d0 d1=>⟨_,_,Z,Z,?_⟩⟩⟩;refine⟨_,Z,xX.ix (i:=0) x0 ⟨_,Z,_,Z,m,_,Z,vk▸cJ.k (k:=Sum.inr "known") (g2 _ _ om),lk,_,Z,.inl (g2.seq ok),ln,_,_,_,Z,Z,g2.seq hN,by rw[aE];exact eyv,_,Z,_,Z,_,Z,_,Z,xX.ix (i:=3) x3 ⟨_,_,Z,Z,dw Ij h63 hk0 (by decide) (by decide) (by omega) λv _ v0 v1=>⟨(iM 5),λt ht=>ret t (.sever p.nm y (1+d) v) H2 g2 ht ⟨?_,⟨Uk,rQ y1,⟨by omega,by omega⟩,⟨by omega,?_⟩⟩,y3 _ rfl,by show(8:Nat)≠0;decide⟩⟩⟩⟩⟩
  .show kC st p.nm y (1+d) v=none;unfold kC;rw[ay hin,AA y1 y2,eg];show(if _ then _ else _)=none;rw[av (by omega),av (by omega)]
  .have:=g.we p fk;omega
 refine⟨false,⟨_,Z,Z,_,Z,cI (λc=>⟨_,Z,xX.ix (i:=2) x2 ⟨_,_,Z,Z,_,Z,cI (λc2=>⟨_,Z,m,_,Z,vk▸cJ.k (k:=Sum.inr "known") (g2 _ _ om),lk,_,Z,.inl (g2.seq ok),_,Z,ln,_,Z,.inl (g2.seq hN),_,_,Z,Z,_,Z,dB (λz=>h11 ⟨V.int.inj (dW c),dW c2,by rw[Rq,Rr]at z;omega⟩),Z⟩) (λc=>⟨Z,Z⟩)⟩⟩) (λc=>⟨Z,Z⟩)⟩,aW ?_⟩;refine⟨_,Z,Z,_,Z,cI (λ_=>?_) (λ_=>?_)⟩
 .obtain ⟨m0,m1,m2⟩:=mn p.wo (by omega);refine⟨_,Z,xX.ix (i:=0) x0 ⟨_,Z,_,Z,_,Z,xX.ix (i:=2) x2 ⟨_,_,Z,Z,P9,_,_,Z,dw Ij h63 hk0 (by decide) (by decide) m0 λd _ d0 d1=>⟨_,_,Z,Z,(iM 3),λt ht=>ret t (.mishap p.nm (1+d)) H2 g2 ht (keep _ ?_ ⟨Uk,by omega,by omega⟩ rfl)⟩⟩⟩⟩;show lP st (p.nm,1+d)=none;unfold lP;show(if p.nm∈fQ st then(if 1+d<1 then _ else if(cL st p.nm).wo<1+d then _ else _) else _)=none;rw[ay hin,av (by omega),eg,av (by omega)]
 refine⟨_,Z,xX.ix (i:=0) x0 ⟨_,Z,_,Z,KJ Ij h63 hk0 (by decide) (by decide) λw H3 w1 w2 g3=>⟨(iM 3),λt ht=>ret t (.rise p.nm w) H3 (g2.trans g3) ht (keep _ ?_ ⟨Uk,by omega,by omega⟩ rfl)⟩⟩⟩;show sS st p.nm w=none;unfold sS;rw[ay hin,av (by omega)]
abbrev wF:Stmt:=top 34
abbrev tF:List Str:=["_law_script","_law_k","_law_model_here","_law_names_here"]
abbrev NU:List Str:=tF.append ["_law_way","_law_more","_law_owner","_law_worth"]
theorem mT:aP NU tF (aC wF):=di
theorem Mv(F:At K mg "_law_deed" wF f fd)(bB:Dn P w K mg base 1 "_law_draw" iB (tH K))(lK:Dn P w K mg base 2 "_law_much" n_ (DP K))(pJ:Dn P w K mg base 3 "_law_part_deed" kY (El K))(bV:mg "len"=none):Dn P w K mg base 4 "_law_deed" tF (TL K):=by
 refine F.oA mT λcdv A outer s H vs Q E hr h=>?_;obtain⟨⟨a,m,ln,ns,k,nms,c,st,rfl,hS,h63,hk0,hk1,hq,hN,nx,hnl,wf,g,hc,q⟩⟩:=h;refine⟨_,(@c5.h _ _ _ (aj (aQ (i:=4) mT.nd (bH bB hr (af (qv 0) (af (qv 1) (af ai (af ai aq))))))
  (aj (aQ (i:=5) mT.nd (BD sP (bh (cU K) (by rfl) bV eY (af (bR (bX hr) (qv 2) aT) aq)) (bh (cU K) (by rfl) bV eY (af (qv 3) aq)) (bq _)))
  (aj (cX (jF (bW.pt (tP (lC (qv 5)) (vc (jF (bW.pt (BC (aU sP (qv 4) ai (bq _)) (yk (aU sP (bh (cU K) (by rfl) bV eY (af (bR (bX hr) (qv 2) aT) aq)) ai (bq _)))))))))) (aj (aQ (i:=6) mT.nd (aF (aO K) (bR (bX hr) (qv 2) aT) (bH bB hr (af (qv 0) (af (qv 1) (af ai (af (bh (cU K) (by rfl) bV eY (af (bR (bX hr) (qv 2) aT) aq)) aq)))))))
  (aj (aQ (i:=7) mT.nd (bH lK hr (af (qv 0) (af (qv 1) (af ai aq)))))
  (au (bw (iS (af aT (af (aF (aO K) (qv 3) (bh (cU K) (by rfl) bV eY (af (bR (bX hr) (qv 2) aT) aq))) (af (qv 6) (af (qv 7) (af (bH bB hr (af (qv 0) (af (qv 1) (af ai (af ai aq))))) aq)))))))))) bP)
  (aj (cX (aU dJ (bh (cU K) (by rfl) bV eY (af (bR (bX hr) (qv 2) aT) aq)) ai (bq _)) (au (bw (iS (af aT aq)))) bP)
  (au (bw (bH pJ hr (af (qv 0) (af (qv 1) (af (qv 2) (af (qv 3) (af (qv 4) aq))))))))))))),?_⟩
 obtain⟨kvs,lo,lp,lk,us,om,vo,vp,vk,oo,op,rw',ok⟩:=id hq;have ll:=rw'.len;have hpl:=g.pl;have fh:=wf.kP;have agx:=g.ol;have Rq:((nms.map V.str).length:Int)=(nms.length:Int):=by rw[aE]
 have Rr:((st.nms.map V.str).length:Int)=(st.nms.length:Int):=by rw[aE]
 refine⟨_,Z,_,Z,dw hS h63 hk0 (by decide) (by decide) (by decide) λway _ v0 v1=>?_⟩;refine⟨_,Z,m,_,Z,vk▸cJ.k (k:=Sum.inr "known") om,lk,_,Z,.inl ok,_,Z,ln,_,Z,.inl hN,_,_,Z,Z,?_⟩;rw[Rq,Rr];have orR:∀b:Bool,b=decide (way<3\/st.ah.length<2)->(tOr (JM (GU (BY λi j=>V.bl (decide (i<j))) (Fp 4) (tC (V.int 3)))) (JM (GU (BY λi j=>V.bl (decide (i<j))) (Wy (λxs H Q=>∃p ys,xs=[V.ref p]/\(aD K H p ys\/dU K H p ys)/\Q (V.int ↑ys.length) H) (QD (QI (Fp 2) (tC (V.str "parts"))) rD)) (tC (V.int 2))))) [some (.ref a),some (.int k),some (.ref m),some (.ref ln),some (.int way),some (.bl (decide ((st.nms.length:Int)<(nms.length:Int)))),none,none] H (λb' H'=>b'=b/\H'=H):=λb eb=>by
  refine⟨_,Z,_,_,Z,Z,_,Z,cI (λc=>⟨?_,Z⟩) (λc=>⟨_,Z,m,_,Z,vp▸cJ.k (k:=Sum.inr "parts") om,lp,_,Z,.inl op,_,_,Z,Z,_,Z,?_,Z⟩)⟩
  .rw [eb];exact(br (.inl (dW c))).symm
  .have c':¬ way<3:=p6 (oW.mpr c);rw[eb];by_cases h2:st.ah.length<2
   .rw [br (.inr h2:way<3\/st.ah.length<2)];exact br (by omega)
   .rw [dB (λz=>z.elim c' h2:¬ (way<3\/st.ah.length<2))];exact dB (by omega)
 by_cases hL:st.nms.length<nms.length/\(way<3\/st.ah.length<2)
 .refine ⟨true,⟨_,Z,_,Z,cI (λ_=>⟨true,orR true (br hL.2).symm,Z,Z⟩) (λc=>absurd (br (by omega)) c)⟩,mw ?_⟩;have ey:=a_ hL.1;obtain⟨y1,y2,y3⟩:=nx.next ey;generalize nms[st.nms.length]=y at *;have eyv:kL (nms.map V.str) ((st.nms.length:Nat):Int)=some (.str y):=aB (by rw[bQ,ey];rfl);refine⟨_,Z,m,_,Z,vo▸cJ.k (k:=Sum.inr "owners") om,_,Z,_,Z,_,Z,m,_,Z,vo▸cJ.k (k:=Sum.inr "owners") om,lo,_,Z,.inl oo,dw hS h63 hk0 (by decide) (by decide) (by rw[aE];omega) λwd _ w0 w1=>?_⟩;rw[aE]at w1;obtain⟨jo,o,ejo,eo,eat⟩:=K8 (l:=st.own) (d:=wd) w0 w1;have how:=aY eo;refine⟨lo,_,_,_,Z,Z,oo,eat,?_⟩;refine⟨_,Z,_,Z,KJ hS h63 hk0 (by decide) (by decide) λw H1 w1 w2 g1=>?_⟩;refine⟨_,Z,_,Z,m,_,Z,vk▸cJ.k (k:=Sum.inr "known") (g1 _ _ om),lk,_,Z,.inl (g1.seq ok),ln,_,_,_,Z,Z,g1.seq hN,by rw[aE];exact eyv,_,Z,_,Z,_,Z,_,Z,dw (g1.seq hS) h63 hk0 (by decide) (by decide) (by decide) λv _ v0 v1=>⟨(iM 5),λt ht=>q t (.load y o w v) _ (g1.trans (aI ht _)) ak ⟨Q5 y1 y2 how w1 v0,⟨rQ y1,rQ (g.on o how),⟨by omega,by omega⟩,⟨by omega,by omega⟩⟩,y3 _ rfl,by show(1:Nat)≠0;decide⟩⟩⟩
 refine⟨false,⟨_,Z,_,Z,cI (λc=>⟨false,orR false (dB (λz=>hL ⟨by have:=dW c;omega,z⟩)).symm,Z,Z⟩) (λc=>⟨Z,Z⟩)⟩,aW ?_⟩;refine⟨_,Z,m,_,Z,vp▸cJ.k (k:=Sum.inr "parts") om,lp,_,Z,.inl op,Z,_,Z,cI (λc=>?_) (λcz=>?_)⟩
 .exact ⟨(iM 1),λt ht=>q t .still _ (aI ht _) ak ⟨Z,True.intro,nx,by show(9:Nat)≠0;decide⟩⟩
 have c':0<st.ah.length:=Nat.pos_of_ne_zero λz=>cz (br (by rw[ll,z];rfl));exact⟨_,Z,_,Z,_,Z,_,Z,_,Z,⟨⟨a,m,ln,ns,k,way,nms,c,st,Z,hS,h63,hk0,hk1,hq,hN,nx,hnl,wf,g,hc,c',q⟩⟩⟩
abbrev wG:Stmt:=top 39
abbrev oh:List Str:=["_law_model_here","_law_amounts","_law_seat_here","_law_award"]
abbrev NV:List Str:=oh.append ["_law_parts","_law_whole","_law_kept","_law_given","_law_at_here","_law_k"]
theorem jB:aP NV oh (aC wG):=di
theorem Mw(F:At K mg "_law_bear" wG f fd)(bV:mg "len"=none)(cC:mg "range"=none)(eU:mg "sum"=none):Dn P w K mg base 1 "_law_bear" oh (Lf K):=by
 refine F.oA jB λcdv A outer s H vs Q E hr h=>?_;obtain⟨⟨n,ρ,B,b,l,as,seat,aw,rfl,G,h,wf,hl,cl,ok,q⟩⟩:=h;refine⟨_,(@c5.h _ _ _ (aj (aQ (i:=4) jB.nd (bR (bX hr) (qv 0) aT))
  (aj (aQ (i:=5) jB.nd (bh (i_ K rfl) (by rfl) eU tZ (af (iw ["_law_part"] [none] rfl (c_ K (qv 4)) (λ_ _ _ _=>(aS (i:=0) (show List.Nodup (["_law_part"] :List Str)from by decide +kernel))) (λ_ _ _ _=>(aF (aO K) (qv 0) ai)) rfl (by rfl)) aq)))
  (aj (aQ (i:=6) jB.nd (aG jL (aG jL (qv 5) (qv 3)) (bh (i_ K rfl) (by rfl) eU tZ (af (qv 1) aq))))
  (aj (aQ (i:=7) jB.nd (ie aq))
  (aj (fq fM rfl (gZ (by rfl) cC (af (bh (cU K) (by rfl) bV eY (af (bR (bX hr) (qv 0) aT) aq)) aq)) (aS (i:=8) jB.nd) (au (cg (kU oU oR oS eV (qv 7) (af (bh (i_ K rfl) (by rfl) eU tZ (af (iw ["_law_k","_law_parts","_law_at_here","_law_amounts"] [none,some 4,some 8,some 1] rfl (gZ (by rfl) cC (af (bh (cU K) (by rfl) bV eY (af (qv 4) aq)) aq)) (λ_ _ _ _=>(aS (i:=0) (show List.Nodup (["_law_k","_law_parts","_law_at_here","_law_amounts"] :List Str)from by decide +kernel))) (λ_ _ _ _=>(aG eW (aF (aO K) (aF (aO K) (aF (aO K) (qv 1) (qv 0)) ai) (qv 2)) (aF (aO K) (qv 3) (qv 0)))) rfl (by rfl)) aq)) aq)))))
  (aj (ig (aU jM (qv 3) ai (bq _)) (au (iT (aG cE (aF (aO K) (qv 7) (qv 2)) (aG eW (qv 3) (bR (bX hr) (qv 0) aT))) (iU (qv 7) (qv 2) set_list))) bP)
  (aj (fq fM rfl (gZ (by rfl) cC (af (bh (cU K) (by rfl) bV eY (af (qv 4) aq)) aq)) (aS (i:=9) jB.nd) (aj (iT (iw ["_law_at_here","_law_parts","_law_k","_law_kept","_law_given"] [none,some 4,some 9,some 6,some 7] rfl (gZ (by rfl) cC (af (bh (cU K) (by rfl) bV eY (af (qv 7) aq)) aq)) (λ_ _ _ _=>(aS (i:=0) (show List.Nodup (["_law_at_here","_law_parts","_law_k","_law_kept","_law_given"] :List Str)from by decide +kernel))) (λ_ _ _ _=>(aG cE (aG eW (aF (aO K) (aF (aO K) (aF (aO K) (qv 1) (qv 2)) ai) (qv 0)) (qv 3)) (aF (aO K) (qv 4) (qv 0)))) rfl (by rfl)) (iU (aF (aO K) (qv 4) (qv 9)) ai set_list))
  (au (iT (aG jL (aF (aO K) (aF (aO K) (qv 4) (qv 9)) ai) (aF (aO K) (qv 1) (qv 9))) (iU (aF (aO K) (qv 4) (qv 9)) ai set_list)))))
  (aj (pW (bX hr) (qv 0) aT (aG eW (bR (bX hr) (qv 0) aT) (qv 5)) rfl)
  (au (pW (bX hr) (qv 0) aT (vK ["_law_part"] [none] rfl (c_ K (qv 4)) (λ_ _ _ _=>(aS (i:=0) (show List.Nodup (["_law_part"] :List Str)from by decide +kernel))) (λ_ _ _ _=>(qv 0)) (λ_ _ _ _=>(aU jM (aF (aO K) (qv 0) ai) ai (bq _))) rfl (by rfl)) rfl))))))))))),?_⟩
 have pl:=wf.pl;have A_:(B.qs.map λq=>V.ref q.1).length=b.ah.length:=by rw[aE];exact h.ql
 refine⟨_,Z,B.m,_,Z,cJ.k (k:=Sum.inr "parts") h.om,?_⟩;refine⟨_,Z,B.lp,Z,⟨_,aD.of h.op⟩,λl0 fV=>?_⟩;refine iD (J:=uK K B.lp) (n:=b.ah.length) 0 (λi o H'=>aN H H'/\o=((b.ah.take i).map (λp:BP=>p.wo)).map V.int) (by omega) ⟨aI fV _,Z⟩ (λi o H' hi _ hp=>⟨_,_,aD.of (hp.1 _ _ h.op),a_ (by rw[A_];exact hi)⟩) (λo H' _ hp=>⟨_,aD.of (hp.1 _ _ h.op),by rw[A_];exact aL _⟩) ?_ ?_
 .rintro i y o H2 H3 hi fh ha ⟨g,e⟩ ⟨rfl,hy⟩;have ei:=a_ hi;obtain⟨qq,eq,k1,k2,_,_⟩:=h.find ei;have ey:=hy _ (aD.of (g _ _ h.op));rw[bQ,eq]at ey;cases ey;refine⟨_,Z,qq.1,_,_,_,Z,Z,aD.of (g _ _ k1),aB (j:=2) rfl,ha,g.cA fV _,?_⟩;subst e;rw[take_snoc ei,bL,bL];rfl
 rintro o1 H1 _ ha ⟨g1,e⟩;rw[cM]at e;subst e;refine⟨l0,b.ah.map (λp:BP=>p.wo),Z,aD.of ha,?_⟩;show lU 5 (.int (bN b)) _ _ _;refine⟨_,Z,_,Z,_,_,Z,Z,_,Z,l,as,Z,g1.seq hl,_,_,Z,Z,?_⟩;show lU 6 (.int (bN b-aw-as.sum)) _ _ _;generalize ekp:bN b-aw-as.sum=kept at *;have hkp:0<kept:=by rw[<-ekp];exact ok.kept
 have zw:=ok.big;have as0:0<=as.sum:=by
  cases has:as with
  | nil=>exact dZ _
  | cons a l=>exact Bh (ok.a0 a (by rw[has];exact cQ)) (by rw[<-has];exact xy ok.a0 (by rw[has];exact cQ))
 have zk:Jm.Sz 60 kept:=zw.of_le (by have:=ok.D8;omega);have za:∀a∈as,Jm.Sz 60 a:=λa hm=>zw.of_le (by have:=ok.a0 a hm;have:=xy ok.a0 hm;have:=ok.D8;omega);have zaw:Jm.Sz 60 aw:=zw.of_le (by have:=ok.D8;omega);have zt:∀p∈b.ah,∀t∈p.tops,Jm.Sz 7000 t:=λp hp t ht=>Jm.Sz.k_ (by have:=wf.t0 p hp t ht;have:=wf.b1;omega) (wf.t0 p hp t ht).2 wf.bz;have h1:=h.mono g1;have hl1:=g1.seq hl;refine⟨(iM 0),λgv hgv=>?_⟩;have g2:=aI hgv (.lst []);have WQ:upd H1 gv (.lst []) gv=some (.lst []):=ak;have Wc:H gv=none:=g1.free hgv;have Ie:=g1.trans g2;show vf _ _ _ _ (upd H1 gv (.lst []));generalize upd H1 gv (.lst [])=H2 at *;have h2:=h.mono Ie;have ol:=wf.ol;have oml:(b.own.map V.str).length=b.own.length:=aE _;refine⟨_,Z,B.m,_,Z,cJ.k (k:=Sum.inr "owners") h2.om,B.lo,_,Z,.inl (aD.of h2.oo),_,Z,by omega,by omega,?_⟩;refine i9 (lo:=0) (n:=(((b.own.map V.str).length:Nat):Int).toNat) (λi σ H'=>aN H H'/\H' gv=some (.lst (((List.range i).map (iu b.ah as)).map V.int))/\∃s8,σ=[some (.ref B.m),some (.ref l),some (.int (seat:Int)),some (.int aw),some (.ref B.lp),some (.int (bN b)),some (.int kept),some (.ref gv),s8,none])
  ⟨Ie,WQ,_,Z⟩ ?_ ?_
 .rintro i σ H3 hi ⟨g3,EE,s8,rfl⟩;have e0:(0:Int)+(i:Int)=((i:Nat):Int):=by omega
  rw[e0];have hio:i<b.own.length:=by omega
  refine⟨_,Z,.inl ⟨Z,_,aD.of EE⟩,_,Z,B.lp,_,Z,.inl (aD.of (g3 _ _ h.op)),_,Z,by omega,by omega,λc hc=>?_⟩;refine iD (J:=OM 0 _) (n:=b.ah.length) 0 (λj o H'=>aN H3 H'/\o=(List.zipWith (λ(p:BP)(a:Int)=>p.tops.getD i 0*a) (b.ah.take j) (as.take j)).map V.int) (by omega) ⟨aI hc _,Z⟩ (λj o H' hj _ _=>by show j<(((B.qs.map λq=>V.ref q.1).length:Nat):Int).toNat;omega) (λo H' _ _=>by show(((B.qs.map λq=>V.ref q.1).length:Nat):Int).toNat<=b.ah.length;omega) ?_ ?_
  .rintro j x o H4 H5 hj fh T_ ⟨g4,e4⟩ ⟨rfl,rfl⟩;have e0:(0:Int)+(j:Int)=((j:Nat):Int):=by omega
   rw[e0];have ej:=a_ hj;have hja:j<as.length:=by rw[ok.len];exact hj
   have ea:=a_ hja;obtain⟨qq,eq,k1,k2,_,_⟩:=h.find ej;have gg:=g3.trans g4;have hti:i<(b.ah[j]).tops.length:=by rw[wf.tl _ (aY ej)];exact hio
   have et:=a_ hti;have eD:(b.ah[j]).tops.getD i 0=(b.ah[j]).tops[i] :=by rw[dG,et];rfl
   refine⟨_,Z,_,Z,B.lp,_,_,_,Z,Z,aD.of (gg _ _ h.op),aB (by rw[bQ,eq];rfl),qq.1,_,_,_,Z,Z,aD.of (gg _ _ k1),aB (j:=4) rfl,_,Z,qq.2,_,_,_,Z,Z,aD.of (gg _ _ k2),aB (by rw[bQ,et];rfl),?_⟩;refine⟨_,Z,_,Z,l,_,_,_,Z,Z,gg.seq hl,aB (by rw[bQ,ea];rfl),_,_,Z,Z,d9 (zt _ (aY ej) _ (aY et)) (za _ (aY ea)),T_,g4.cA hc _,?_⟩;rw[Lg ej ea,e4,bL,eD];rfl
  rintro o H4 _ T_ ⟨g4,e4⟩;have e5:List.zipWith (λ(p:BP)(a:Int)=>p.tops.getD i 0*a) (b.ah.take b.ah.length) (as.take b.ah.length)=List.zipWith (λ(p:BP)(a:Int)=>p.tops.getD i 0*a) b.ah as:=by rw[cM,<-ok.len,cM]
  rw[e5]at e4;subst e4;refine⟨c,_,Z,aD.of T_,gv,_,_,Z,Z,g4 _ _ EE,by rw[aE,aE,Fi];exact dF (by omega),(g3.trans g4).cA Wc _,?_,_,Z⟩;rw[ak,List.range_succ,bL,bL];rfl
 rintro σ H3 ⟨g3,EE,s8,rfl⟩;rw[show(((b.own.map V.str).length:Nat):Int).toNat=b.own.length from by omega]at EE;have EE:H3 gv=some (.lst ((gF b as).map V.int)):=EE;have h3:=h.mono g3;have gl:=kR b as;refine⟨λσ H'=>aN H H'/\H' gv=some (.lst ((gU b as seat aw).map V.int))/\σ=[some (.ref B.m),some (.ref l),some (.int (seat:Int)),some (.int aw),some (.ref B.lp),some (.int (bN b)),some (.int kept),some (.ref gv),s8,none],?_,?_⟩
 .refine ⟨_,Z,_,_,Z,Z,_,Z,cI (λc=>?_) (λc=>?_)⟩
  .have c':0<aw:=dW c;have hsl:seat<(gF b as).length:=by rw[gl];exact ok.seat
   have es:=a_ hsl;have eD:(gF b as).getD seat 0=(gF b as)[seat] :=by rw[dG,es];rfl
   refine⟨_,Z,_,Z,gv,_,_,_,Z,Z,aD.of EE,aB (by rw[bQ,es];rfl),_,Z,_,Z,B.m,_,Z,cJ.k (k:=Sum.inr "bottom") h3.om,_,_,Z,Z,d9 zaw wf.bz,_,_,Z,Z,_,Z,_,Z,gv,_,_,_,Z,Z,EE,by rw[aE];exact lG hsl,g3.cA Wc _,?_,Z⟩;rw[ak];unfold gU;rw[ay c',jI,eD]
  .have c':¬ 0<aw:=p6 (oW.mpr c);refine⟨g3,?_,Z⟩;unfold gU;rw[av c'];exact EE
 rintro σ H4 ⟨g4,hg4,rfl⟩;have gvl:=vG b as seat aw;generalize egv:gU b as seat aw=given at *;have h4:=h.mono g4;have gmn:(given.map V.int).length=b.own.length:=by rw[aE];exact gvl
 have cgv:ρ gv=none:=G.none Wc;have bl:(c6 b as seat aw).length=b.ah.length:=xx ok.len;refine⟨_,Z,B.lp,_,Z,.inl (aD.of h4.op),_,Z,by omega,by omega,?_⟩;refine i9 (lo:=0) (n:=(((B.qs.map λq=>V.ref q.1).length:Nat):Int).toNat) (λi σ H'=>∃ρ' B' s8 s9,σ=[some (.ref B.m),some (.ref l),some (.int (seat:Int)),some (.int aw),some (.ref B.lp),some (.int (bN b)),some (.int kept),some (.ref gv),s8,s9]/\Gh ρ' H'/\bg n ρ' B' H' { b with ah:=(c6 b as seat aw).take i++b.ah.drop i }/\B'.m=B.m/\B'.lp=B.lp/\Fr n ρ H ρ' H'/\H' gv=some (.lst (given.map V.int))/\ρ' gv=none)
  ⟨ρ,B,_,_,Z,G.same g4,h4,Z,Z,Fr.of_same g4,hg4,cgv⟩ ?_ ?_
 .rintro i σ H5 hi ⟨ρ5,B5,s8,s9,rfl,G5,h5,zV,Cg,F5,PR,cg5⟩;have e0:(0:Int)+(i:Int)=((i:Nat):Int):=by omega
  rw[e0];have zT:i<b.ah.length:=by omega
  have ei:=a_ zT;have fk:=aY ei;have hia:i<as.length:=by rw[ok.len];exact zT
  have ea:=a_ hia;have em:((c6 b as seat aw).take i++b.ah.drop i)[i]?=some b.ah[i] :=Yh (by omega) ei;have ebp:=VD (seat:=seat) (aw:=aw) ei ea;rw[egv,ekp]at ebp;have WY:=wf.tl _ fk;have dO:=zt _ fk;generalize b.ah[i]=p at *;have hza:=za _ (aY ea);generalize as[i]=a at *;obtain⟨qq,eq,k1,k2,c1,c2⟩:=h5.find em;have op5:H5 B.lp=some (.lst (B5.qs.map λq=>V.ref q.1)):=by rw[<-Cg];exact h5.op
  have PU:(B5.qs.map λq=>V.ref q.1)[i]?=some (.ref qq.1):=by rw[bQ,eq];rfl
  refine⟨_,Z,gv,_,Z,.inl (aD.of PR),_,Z,by omega,by omega,λt1 ht1=>?_⟩;refine iD (J:=OM 0 _) (n:=b.own.length) 0 (λj o H'=>aN H5 H'/\o=(List.zipWith (λt g=>t*kept+g) (p.tops.take j) (given.take j)).map V.int) (by omega) ⟨aI ht1 _,Z⟩ (λj o H' hj _ _=>by show j<(((given.map V.int).length:Nat):Int).toNat;omega) (λo H' _ _=>by show(((given.map V.int).length:Nat):Int).toNat<=b.own.length;omega) ?_ ?_
  .rintro j x o H6 H7 hj fh yx ⟨g6,e6⟩ ⟨rfl,rfl⟩;have e0:(0:Int)+(j:Int)=((j:Nat):Int):=by omega
   rw[e0];have et:=a_ (show j<p.tops.length by rw[WY];exact hj);have eg:=a_ (show j<given.length by rw[gvl];exact hj);refine⟨_,Z,_,Z,B.lp,_,_,_,Z,Z,aD.of (g6 _ _ op5),aB PU,qq.1,_,_,_,Z,Z,aD.of (g6 _ _ k1),aB (j:=4) rfl,_,Z,qq.2,_,_,_,Z,Z,aD.of (g6 _ _ k2),aB (by rw[bQ,et];rfl),?_⟩;refine⟨_,Z,_,_,Z,Z,d9 (dO _ (aY et)) zk,_,Z,_,Z,gv,_,_,_,Z,Z,aD.of (g6 _ _ PR),aB (by rw[bQ,eg];rfl),_,_,Z,Z,yx,g6.cA ht1 _,?_⟩;rw[mD _ et eg,e6,bL];rfl
  rintro o H6 _ yx ⟨g6,e6⟩;rw[show p.tops.take b.own.length=p.tops from by rw[<-WY];exact cM,show given.take b.own.length=given from by rw[<-gvl];exact cM]at e6;subst e6;have h6:=h5.mono g6;have G6:=G5.same g6;have ct1:ρ5 t1=none:=G5.none ht1;have h7:bg n (bO ρ5 t1 (n,24,p.nm)) B5 H6 { b with ah:=(c6 b as seat aw).take i++b.ah.drop i }:=h6.col ct1;have G7:Gh (bO ρ5 t1 (n,24,p.nm)) H6:=G6.color yx rfl;have F7:Fr n ρ H (bO ρ5 t1 (n,24,p.nm)) H6:=F5.trans (Fr.color ht1 g6);have ct:bO ρ5 t1 (n,24,p.nm) t1=some (n,24,p.nm):=cY;have cg7:bO ρ5 t1 (n,24,p.nm) gv=none:=by rw[b7 (λz=>by rw[z]at PR;rw[PR]at ht1;cases ht1)];exact cg5
  have hg6:=g6 _ _ PR;have zW:=g6 _ _ op5;have k16:=g6 _ _ k1;have Ul:bO ρ5 t1 (n,24,p.nm) qq.1=some (n,23,p.nm):=by rw[b7 (aJ k1 ht1)];exact c1
  generalize bO ρ5 t1 (n,24,p.nm)=ρ7 at *;have ndm:(((c6 b as seat aw).take i++b.ah.drop i).map (λp:BP=>p.nm)).Nodup:=by rw[S_ ok.len];exact wf.nd
  have nqg:gv≠qq.1:=λz=>by rw[z,Ul]at cg7;cases cg7
  generalize eT:List.zipWith (λt g=>t*kept+g) p.tops given=T at *;refine⟨_,Z,_,Z,B.lp,_,_,_,Z,Z,aD.of zW,aB PU,qq.1,_,_,4,Z,Z,k16,Z,?_⟩;have h8:=h7.iR G7 (p1:={ p with tops:=T }) (t1:=t1) em eq rfl ndm yx ct;have G8:=G7.wr (a:=qq.1) (o:=gq { p with tops:=T } t1) rfl;have F8:=F7.trans (Fr.write (o:=gq { p with tops:=T } t1) Ul);have k18:upd H6 qq.1 (gq { p with tops:=T } t1) qq.1=some (gq { p with tops:=T } t1):=ak;have hg8:upd H6 qq.1 (gq { p with tops:=T } t1) gv=some (.lst (given.map V.int)):=by rw[az nqg];exact hg6
  have nlp:B.lp≠qq.1:=λz=>by have:=h7.cp;rw[Cg,z,Ul]at this;cases this
  have op8:upd H6 qq.1 (gq { p with tops:=T } t1) B.lp=some (.lst (B5.qs.map λq=>V.ref q.1)):=by rw[az nlp];exact zW
  have ntq:t1≠qq.1:=λz=>by rw[z,Ul]at ct;cases ct
  have ht8:upd H6 qq.1 (gq { p with tops:=T } t1) t1=some (.lst (T.map V.int)):=by rw[az ntq];exact yx
  generalize hH8:upd H6 qq.1 (HO.lst _)=H8;have ab0:upd H6 qq.1 (gq { p with tops:=T } t1)=H8:=hH8;rw[ab0]at h8 G8 F8 k18 hg8 op8 ht8;clear hH8 ab0;refine⟨_,Z,_,Z,B.lp,_,_,_,Z,Z,aD.of op8,aB PU,qq.1,_,_,_,Z,Z,aD.of k18,aB (j:=2) rfl,?_⟩;refine⟨_,Z,_,Z,l,_,_,_,Z,Z,F8.seq hl cl,aB (by rw[bQ,ea];rfl),_,_,Z,Z,?_⟩;refine⟨_,Z,_,Z,B.lp,_,_,_,Z,Z,aD.of op8,aB PU,qq.1,_,_,2,Z,Z,k18,Z,?_⟩;have Mx:i<B5.qs.length:=(dj.mp eq).1;have him:i<((c6 b as seat aw).take i++b.ah.drop i).length:=(dj.mp em).1;have h9:=h8.iR G8 (i:=i) (p0:={ p with tops:=T }) (p1:=mF given kept p a) (q0:=(qq.1,t1)) (t1:=t1) (h_ him) (h_ Mx) rfl (by show((((c6 b as seat aw).take i++b.ah.drop i).set i { p with tops:=T }).map (λp:BP=>p.nm)).Nodup;rw[jI,mE (by rw[bQ,em];rfl)];exact ndm) (by show H8 t1=some (.lst ((List.zipWith (λt g=>t*kept+g) p.tops given).map V.int));rw[eT];exact ht8) ct
  have e9:(((c6 b as seat aw).take i++b.ah.drop i).set i { p with tops:=T }).set i (mF given kept p a)=(c6 b as seat aw).take (i+1)++b.ah.drop (i+1):=by rw[oq];exact Yi ebp zT
  have h9':bg n ρ7 { B5 with qs:=(B5.qs.set i (qq.1,t1)).set i (qq.1,t1) } (upd H8 qq.1 (gq (mF given kept p a) t1)) { b with ah:=(((c6 b as seat aw).take i++b.ah.drop i).set i { p with tops:=T }).set i (mF given kept p a) }:=h9;rw[e9]at h9';exact⟨ρ7,{ B5 with qs:=(B5.qs.set i (qq.1,t1)).set i (qq.1,t1) },_,_,Z,G8.wr rfl,h9',zV,Cg,F8.trans (Fr.write Ul),by rw[az nqg];exact hg8,cg7⟩
 rintro σ H5 ⟨ρ5,B5,s8,s9,rfl,G5,h5,zV,Cg,F5,PR,cg5⟩;rw[show(((B.qs.map λq=>V.ref q.1).length:Nat):Int).toNat=b.ah.length from by omega,show(c6 b as seat aw).take b.ah.length=c6 b as seat aw from by rw[<-bl];exact cM,JB,sJ]at h5;obtain⟨m5,Um,lp5,Uo,Up,Ba⟩:=B5;have zV:m5=B.m:=zV;have Cg:lp5=B.lp:=Cg;subst zV Cg;refine⟨_,Z,B.m,_,Z,cJ.k (k:=Sum.inr "bottom") h5.om,_,Z,_,_,Z,Z,d9 wf.bz zw,_,Z,B.m,_,Z,ud.k (k:=Sum.inr "bottom") h5.om (by show 5<sizeLine;decide),?_⟩;rw[Tc];have h6:=h5.Yd G5 (b.bot*bN b);have G6:=G5.wr (a:=B.m) (o:=.dK (f_ ⟨B.m,Um,B.lp,Uo,Up,Ba⟩ (b.bot*bN b))) rfl;have F6:=F5.trans (Fr.write (o:=.dK (f_ ⟨B.m,Um,B.lp,Uo,Up,Ba⟩ (b.bot*bN b))) h5.cm);generalize hH6:upd H5 B.m (HO.dK _)=H6;have ab1:upd H5 B.m (.dK (f_ ⟨B.m,Um,B.lp,Uo,Up,Ba⟩ (b.bot*bN b)))=H6:=hH6;have h6:bg n ρ5 ⟨B.m,Um,B.lp,Uo,Up,Ba⟩ (upd H5 B.m (.dK (f_ ⟨B.m,Um,B.lp,Uo,Up,Ba⟩ (b.bot*bN b)))) { b with ah:=c6 b as seat aw,bot:=b.bot*bN b }:=h6;rw[ab1]at h6 G6 F6;clear hH6 ab1;have EF:Ba.length=(c6 b as seat aw).length:=h5.ql;have Uq:(Ba.map λq=>V.ref q.1).length=(c6 b as seat aw).length:=by rw[aE];exact EF
 have zW:H6 B.lp=some (.lst (Ba.map λq=>V.ref q.1)):=h6.op;refine⟨_,Z,B.lp,Z,⟨_,aD.of zW⟩,λlp uN=>?_⟩;refine FD (J:=uK K B.lp) (n:=(c6 b as seat aw).length) 0 (λi o H'=>aN H6 H'/\o=(jQ ((c6 b as seat aw).take i) (Ba.take i)).map λq=>V.ref q.1) (by omega) ⟨aI uN _,Z⟩ (λi o H' hi _ hp=>⟨_,_,aD.of (hp.1 _ _ zW),a_ (by rw[Uq];exact hi)⟩) (λo H' _ hp=>⟨_,aD.of (hp.1 _ _ zW),by rw[Uq];exact aL _⟩) ?_ ?_
 .rintro i y o H7 H8 hi fh ha ⟨g,e⟩ ⟨rfl,hy⟩;have ei:=a_ hi;obtain⟨qq,eq,k1,k2,_,_⟩:=h6.find ei;have eq:Ba[i]?=some qq:=eq;have ey:=hy _ (aD.of (g _ _ zW));rw[bQ,eq]at ey;cases ey;have es:=ze ei eq;refine⟨_,Z,qq.1,_,_,_,Z,Z,aD.of (g _ _ k1),aB (j:=2) rfl,_,_,Z,Z,_,Z,cI (λc=>?_) (λc=>?_)⟩
  .rw [ay (dW c)]at es;refine⟨_,Z,ha,g.cA uN _,?_⟩;rw[es,e,bL];rfl
  .rw [av (p6 (oW.mpr c))]at es;exact⟨ha,g,by rw[es,e,sJ]⟩
 rintro o H7 _ ha ⟨g7,e⟩;rw[cM,<-EF,cM]at e;subst e;have h7:=h6.mono g7;have G7:=G6.same g7;have clp:ρ5 lp=none:=G6.none uN;have h8:=h7.col (t:=22) (x:=⟨#[]⟩) clp;have G8:Gh (bO ρ5 lp (n,22,⟨#[]⟩)) H7:=G7.color ha rfl;have F8:Fr n ρ H (bO ρ5 lp (n,22,⟨#[]⟩)) H7:=F6.trans (Fr.color uN g7);have h9:=h8.S3 G8 (lp:=lp) (qs:=jQ (c6 b as seat aw) Ba) (ps:=(c6 b as seat aw).filter λp=>decide (0<p.wo)) ha cY (Ax EF) (λi x y ex ey=>by obtain⟨j,a1,a2⟩:=y_ ex ey EF;exact h8.pt j x y a1 a2)
 refine⟨_,Z,B.m,_,Z,ud.k (k:=Sum.inr "parts") h7.om (by show 5<sizeLine;decide),?_⟩;rw[Lh];exact q _ _ _ (G8.wr rfl) h9 rfl (F8.trans (Fr.write h8.cm))
abbrev mU:Stmt:=top 40
abbrev kh:List Str:=["_law_model_here","_law_rows_here"]
abbrev BR:List Str:=kh.append ["_law_amounts","_law_name_here","_law_amount"]
theorem jU:aP BR kh (aC mU):=di
theorem Bb(F:At K mg "_law_model_cast" mU f fd)(tW:Dn P w K mg base 1 "_law_at" tV (WS K))(lM:Dn P w K mg base 1 "_law_bear" oh (Lf K)):Dn P w K mg base 2 "_law_model_cast" kh (Pd K):=by
 refine F.oA jU λcdv A outer s H vs Q E hr h=>?_;obtain⟨⟨n,ρ,B,b,l,us,rs,rfl,G,h,wf,hl,hR,cl,rb,hle,bo,q⟩⟩:=h;refine⟨_,(@c5.h _ _ _ (aj (pU (i:=2) ["_law_part"] [none] jU.nd rfl rfl rfl (c_ K (bR (bX hr) (qv 0) aT)) (λ_ _ _ _=>(aS (i:=0) (show List.Nodup (["_law_part"] :List Str)from by decide +kernel))) (λ_ _ _ _=>ai) rfl (by rfl) (by rfl))
  (aj (fq fM rfl (c_ K (qv 1)) (iL K (n:=2) rfl (cS (aS (i:=3) jU.nd) (cS (aS (i:=4) jU.nd) iK))) (au (iT (qv 4) (iU (qv 2) (bH tW hr (af (bR (bX hr) (qv 0) aT) (af (qv 3) aq))) set_list))))
  (au (cg (bH lM hr (af (qv 0) (af (qv 2) (af ai (af ai aq)))))))))),?_⟩
 have pl:=wf.pl;have A_:(B.qs.map λq=>V.ref q.1).length=b.ah.length:=by rw[aE];exact h.ql
 refine⟨_,Z,B.m,_,Z,cJ.k (k:=Sum.inr "parts") h.om,B.lp,Z,⟨_,aD.of h.op⟩,λl0 fV=>?_⟩;refine iD (J:=uK K B.lp) (n:=b.ah.length) 0 (λi o H'=>aN H H'/\o=((b.ah.take i).map λ_=>(0:Int)).map V.int) (by omega) ⟨aI fV _,Z⟩ (λi o H' hi _ hp=>⟨_,_,aD.of (hp.1 _ _ h.op),a_ (by rw[A_];exact hi)⟩) (λo H' _ hp=>⟨_,aD.of (hp.1 _ _ h.op),by rw[A_];exact aL _⟩) ?_ ?_
 .rintro i y o H2 H3 hi fh ha ⟨g,e⟩ ⟨rfl,hy⟩;refine⟨ha,g.cA fV _,?_⟩;subst e;rw[take_snoc (a_ hi),bL,bL];rfl
 rintro o1 H1 _ ha ⟨g1,e⟩;rw[cM]at e;subst e;have T8:=hR.length;refine⟨_,Z,l,Z,⟨us,g1.seq hl⟩,?_⟩;refine jY (K:=K) (xs:=us) (λi σ H'=>aN H H'/\H' l0=some (.lst ((c9 b (rs.take i)).map V.int))/\∃s3 s4,σ=[some (.ref B.m),some (.ref l),some (.ref l0),s3,s4]) ⟨g1,ha,_,_,Z⟩ (λi σ H' _ hp=>hp.1.seq hl) ?_ ?_
 .rintro i x σ H2 hx ⟨g2,ha2,s3,s4,rfl⟩;obtain⟨a,r,rfl,er,har⟩:=hR.get hx;obtain⟨r1,j,p,hp,e,le⟩:=rb.row r (aY er);have hj:=(dj.mp hp).1;have hn:r.1∉(rs.take i).map (λr:Row=>r.1):=by rw[Be];exact kq rb.nd (by rw[bQ,er];rfl)
  obtain⟨s1,s2⟩:=D9 wf.nd hp e hn;have h2:=h.mono g2;refine⟨a,_,Z,dU.of (g2 _ _ har),Z,_,_,Z,_,_,Z,Z,?_⟩;refine⟨_,Z,_,Z,_,Z,B.m,_,Z,cJ.k (k:=Sum.inr "parts") h2.om,_,Z,⟨⟨B.lp,_,uL b,j,(p.nm,p.wo),by rw[<-e];rfl,aD.of h2.op,h2.nw,?_,by unfold uL;rw[aE];exact pl,by unfold uL;rw[bQ,hp];rfl,?_⟩⟩⟩
  .unfold uL;rw[fu];exact wf.nd
  .refine ⟨l0,_,_,j,Z,Z,ha2,by rw[aE,Ay];exact lG hj,g2.cA fV _,?_,_,_,Z⟩;rw[ak,take_snoc er,s1,jI]
 rintro σ H2 ⟨g2,ha2,s3,s4,rfl⟩;rw[T8,cM]at ha2;refine⟨_,Z,_,Z,⟨⟨n,ρ,B,b,l0,c9 b rs,0,0,Z,G.same g2,h.mono g2,wf,aD.of ha2,G.none fV,bo,λρ' B' H' a1 a2 a3 a4=>q ρ' B' H' a1 a2 a3 ((Fr.of_same g2).trans a4)⟩⟩⟩
abbrev nO:Stmt:=top 41
abbrev kZ:List Str:=["_law_model_here","_law_deed_here"]
abbrev CW:List Str:=kZ.append ["_law_at_here","_law_part","_law_old","_law_new","_law_moved"]
theorem gY:aP CW kZ (aC nO):=di
theorem BU(F:At K mg "_law_model_one" nO f fd)(tW:Dn P w K mg base 1 "_law_at" tV (Eg K))(dH:Dn P w K mg base 1 "_law_seat" je (yh K))(kF:mg "list"=none):Dn P w K mg base 4 "_law_model_one" kZ (xC AlO K):=by
 refine F.oA gY λcdv A outer s H vs Q E hr h=>?_;obtain⟨⟨n,c,ρ,B,b,st,z,d,rfl,hz,G,hb,gd,hc,wf,al,db,hr0,q⟩⟩:=h;refine⟨_,(@c5.h _ _ _ (aj (aQ (i:=2) gY.nd (bH tW hr (af (bR (bX hr) (qv 0) aT) (af (aF (aV K) (qv 1) ai) aq))))
  (aj (aQ (i:=3) gY.nd (aF (aO K) (bR (bX hr) (qv 0) aT) (qv 2)))
  (aj (ig (aU dJ (aF (aV K) (qv 1) ai) aT (bq _)) (au (iT (aG jL (aF (aO K) (qv 3) ai) (aF (aV K) (qv 1) ai)) (iU (qv 3) ai set_list))) (au (ig (aU dJ (aF (aV K) (qv 1) ai) aT (bq _)) (au (iT (aG cE (aF (aO K) (qv 3) ai) (aF (aV K) (qv 1) ai)) (iU (qv 3) ai set_list))) (au (ig (aU dJ (aF (aV K) (qv 1) ai) aT (bq _)) (aj (aQ (i:=4) gY.nd (bH dH hr (af (bR (bX hr) (qv 0) aT) (af (aF (aO K) (qv 3) ai) aq))))
  (aj (aQ (i:=5) gY.nd (bH dH hr (af (bR (bX hr) (qv 0) aT) (af (aF (aV K) (qv 1) ai) aq))))
  (aj (aQ (i:=6) gY.nd (aF (aO K) (aF (aO K) (qv 3) ai) (qv 4)))
  (aj (iT ai (iU (aF (aO K) (qv 3) ai) (qv 4) set_list))
  (aj (iT (aG cE (aF (aO K) (aF (aO K) (qv 3) ai) (qv 5)) (qv 6)) (iU (aF (aO K) (qv 3) ai) (qv 5) set_list))
  (au (iT (aF (aV K) (qv 1) ai) (iU (qv 3) ai set_list)))))))) (au (ig (aU dJ (aF (aV K) (qv 1) ai) aT (bq _)) (aj (iT (aG jL (aF (aO K) (qv 3) ai) (aF (aV K) (qv 1) ai)) (iU (qv 3) ai set_list))
  (aj (iT (aG jL (aF (aO K) (qv 3) ai) (aF (aV K) (qv 1) ai)) (iU (qv 3) ai set_list))
  (aj (cg (kU oU oR oS eV (bR (bX hr) (qv 0) aT) (af (ie (af (aF (aV K) (qv 1) ai) (af (aF (aO K) (qv 3) ai) (af (aF (aV K) (qv 1) ai) (af (aF (aV K) (qv 1) ai) (af (pV (oE K) (by rfl) kF JV (af (aF (aO K) (qv 3) ai) aq)) aq)))))) aq)))
  (au (cg (kU oU oR oS eV (bR (bX hr) (qv 0) aT) (af (aF (aV K) (qv 1) ai) aq))))))) (au (ig (aU dJ (aF (aV K) (qv 1) ai) aT (bq _)) (aj (cg (kU oU oR oS eV (bR (bX hr) (qv 0) aT) (af (ie (af (aF (aO K) (qv 3) ai) (af (aF (aO K) (qv 3) ai) (af (aF (aO K) (qv 3) ai) (af (pV (oE K) (by rfl) kF JV (af (aF (aO K) (qv 3) ai) aq)) (af (bR (bX hr) (qv 0) aT) aq)))))) aq)))
  (au (iT ai (iU (qv 3) ai set_list)))) bP)))))))))
  (au (pW (bX hr) (qv 0) aT (vK ["_law_one"] [none] rfl (c_ K (bR (bX hr) (qv 0) aT)) (λ_ _ _ _=>(aS (i:=0) (show List.Nodup (["_law_one"] :List Str)from by decide +kernel))) (λ_ _ _ _=>(qv 0)) (λ_ _ _ _=>(aU jM (aF (aO K) (qv 0) ai) ai (bq _))) rfl (by rfl)) rfl)))))),?_⟩
 have rl:=gd.rel;have wb:=gd.fT;have dO:dU K H z (Dd.v d):=dU.of hz;obtain⟨x,e1,hm⟩:∃x,kL (Dd.v d) 1=some (.str x)/\x∈fQ st:=by
  have a1:=al.one;cases d with
  | mishap x a=>exact⟨x,aB (j:=1) rfl,(pB (r:=(x,a)) hr0).1⟩
  | rise x a=>exact⟨x,aB (j:=1) rfl,(AI hr0).1⟩
  | hand x o=>exact⟨x,aB (j:=1) rfl,(tQ hr0).1⟩
  | land x=>exact⟨x,aB (j:=1) rfl,pY hr0⟩
  | sever x y a we=>exact⟨x,aB (j:=1) rfl,(kX hr0).1⟩
  | _=>exact a1.elim
 refine⟨_,Z,B.m,_,Z,cJ.k (k:=Sum.inr "parts") hb.om,_,Z,z,_,_,_,Z,Z,dO,e1,Yt hb rl wf wb (λi p q' k1 k2 k3 k4 k5 k6 k7 k8 _=>?_) λhn=>absurd hm hn⟩;obtain⟨qq,qt,r1,r2,c1,c2⟩:=hb.find k2;have PU:kL (B.qs.map λq=>V.ref q.1) (i:Int)=some (.ref qq.1):=aB (by rw[bQ,qt];rfl);refine⟨_,Z,B.m,_,Z,cJ.k (k:=Sum.inr "parts") hb.om,_,Z,B.lp,_,_,_,Z,Z,aD.of hb.op,PU,?_⟩;have bl:b.ah.length<50:=by rw[<-gd.rel.len];exact al.pl
 have kl:b.eF.length<900:=by rw[<-gd.eF];exact al.kl
 have Ur:∀y:BP,(b.ah.set i y).length<=1000:=λy=>by rw[eX];omega
 have hi:i<b.ah.length:=(dj.mp k2).1;have Mx:i<B.qs.length:=(dj.mp qt).1;refine⟨λσ' H'=>∃ρ5 B5 bb s4 s5 s6,σ'=[some (.ref B.m),some (.ref z),some (.int (i:Int)),some (.ref qq.1),s4,s5,s6]/\qz b d={ bb with ah:=bb.ah.filter λp=>decide (0<p.wo) }/\bb.ah.length<=1000/\Gh ρ5 H'/\bg n ρ5 B5 H' bb/\B5.m=B.m/\Fr n ρ H ρ5 H',?_,?_⟩
 .cases d with
  | mishap x' a=>
   cases e1.symm.trans (show kL (Dd.v (.mishap x' a)) 1=some (.str x')from aB (j:=1) rfl);refine⟨_,Z,z,_,_,_,Z,Z,dO,aB (j:=0) rfl,Z,_,Z,cI (λ_=>?_) (λc=>absurd (br rfl) c)⟩;have eS:(b.ah.map λp=>if p.nm=x then({ p with wo:=p.wo-a }:BP) else p)=b.ah.set i { q' with wo:=q'.wo-a }:=by rw[<-k4];exact kW (nm:=λp:BP=>p.nm) (f:=λp:BP=>{ p with wo:=p.wo-a }) wb.nd k2
   have st1:bg n ρ { B with qs:=B.qs.set i (qq.1,qq.2) } (upd H qq.1 (gq { q' with wo:=q'.wo-a } qq.2)) { b with ah:=b.ah.set i { q' with wo:=q'.wo-a } }:=hb.iR G k2 qt rfl wb.nd r2 c2;refine⟨_,Z,qq.1,_,_,_,Z,Z,aD.of r1,aB (j:=2) rfl,_,Z,z,_,_,_,Z,Z,dO,aB (j:=2) rfl,_,_,Z,Z,_,Z,qq.1,_,_,2,Z,Z,r1,Z,?_⟩;exact⟨ρ,_,_,_,_,_,Z,(by show mJ b x _=_;unfold mJ;rw[eS]),Ur _,G.wr rfl,st1,Z,Fr.write c1⟩
  | rise x' a=>
   cases e1.symm.trans (show kL (Dd.v (.rise x' a)) 1=some (.str x')from aB (j:=1) rfl);refine cT dO rfl (by decide) rfl (aW ?_);refine⟨_,?_,λ_ _ y=>y⟩;refine⟨_,Z,z,_,_,_,Z,Z,dO,aB (j:=0) rfl,Z,_,Z,cI (λ_=>?_) (λc=>absurd (br rfl) c)⟩;have eS:(b.ah.map λp=>if p.nm=x then({ p with wo:=p.wo+a }:BP) else p)=b.ah.set i { q' with wo:=q'.wo+a }:=by rw[<-k4];exact kW (nm:=λp:BP=>p.nm) (f:=λp:BP=>{ p with wo:=p.wo+a }) wb.nd k2
   have st1:bg n ρ { B with qs:=B.qs.set i (qq.1,qq.2) } (upd H qq.1 (gq { q' with wo:=q'.wo+a } qq.2)) { b with ah:=b.ah.set i { q' with wo:=q'.wo+a } }:=hb.iR G k2 qt rfl wb.nd r2 c2;refine⟨_,Z,qq.1,_,_,_,Z,Z,aD.of r1,aB (j:=2) rfl,_,Z,z,_,_,_,Z,Z,dO,aB (j:=2) rfl,_,_,Z,Z,_,Z,qq.1,_,_,2,Z,Z,r1,Z,?_⟩;exact⟨ρ,_,_,_,_,_,Z,(by show mJ b x _=_;unfold mJ;rw[eS]),Ur _,G.wr rfl,st1,Z,Fr.write c1⟩
  | hand x' o=>
   cases e1.symm.trans (show kL (Dd.v (.hand x' o)) 1=some (.str x')from aB (j:=1) rfl);refine cT dO rfl (by decide) rfl (aW ?_);refine⟨_,?_,λ_ _ y=>y⟩;refine cT dO rfl (by decide) rfl (aW ?_);refine⟨_,?_,λ_ _ y=>y⟩;obtain⟨_,ho⟩:=tQ hr0;have pl:=gd.pl;have hi:i<b.ah.length:=(dj.mp k2).1;have Mx:i<B.qs.length:=(dj.mp qt).1;have hqm:=aY k2;have hto:=wb.tl q' hqm;have ol:=wb.ol;have how:q'.ow∈b.own:=by rw[<-rl.own,k5];exact wf.ow p (aY k1)
   have hoo:o∈b.own:=by rw[<-rl.own];exact ho
   have h1:b.own.idxOf q'.ow<q'.tops.length:=by rw[hto];exact lR how
   have h2:b.own.idxOf o<q'.tops.length:=by rw[hto];exact lR hoo
   obtain⟨bb,My⟩:∃bb:BS,bb={ b with ah:=b.ah.set i (i7 b o q') }:=⟨_,rfl⟩
   have eS:(b.ah.map λp=>if p.nm=x then i7 b o p else p)=b.ah.set i (i7 b o q'):=by rw[<-k4];exact kW (nm:=λp:BP=>p.nm) (f:=i7 b o) wb.nd k2
   have Mz:qz b (.hand x o)={ bb with ah:=bb.ah.filter λp=>decide (0<p.wo) }:=by show mJ b x (i7 b o)=_;unfold mJ;rw[eS,My]
   have at':∀{l:List Int}{j:Nat},j<l.length->kL (l.map V.int) (j:Int)=some (.int (l.getD j 0)):=λ{l j} h=>aB (by rw[bQ,dG,a_ h];rfl);refine⟨_,Z,z,_,_,_,Z,Z,dO,aB (j:=0) rfl,Z,_,Z,cI (λ_=>?_) (λc=>absurd (br rfl) c)⟩;refine⟨_,Z,B.m,_,Z,cJ.k (k:=Sum.inr "owners") hb.om,_,Z,qq.1,_,_,_,Z,Z,aD.of r1,aB (j:=1) rfl,⟨⟨B.lo,b.own,q'.ow,Z,aD.of hb.oo,how,by omega,?_⟩⟩⟩;refine⟨_,Z,B.m,_,Z,cJ.k (k:=Sum.inr "owners") hb.om,_,Z,z,_,_,_,Z,Z,dO,aB (j:=2) rfl,⟨⟨B.lo,b.own,o,Z,aD.of hb.oo,hoo,by omega,?_⟩⟩⟩;refine⟨_,Z,qq.1,_,_,_,Z,Z,aD.of r1,aB (j:=4) rfl,_,Z,qq.2,_,_,_,Z,Z,aD.of r2,at' h1,?_⟩;refine⟨_,Z,qq.1,_,_,_,Z,Z,aD.of r1,aB (j:=4) rfl,_,Z,qq.2,_,_,b.own.idxOf q'.ow,Z,Z,r2,by rw[aE];exact lG h1,?_⟩;have m1:(q'.tops.map V.int).set (b.own.idxOf q'.ow) (.int 0)=(q'.tops.set (b.own.idxOf q'.ow) 0).map V.int:=jI.symm;rw[m1];have s1:=hb.LD G (q'.tops.set (b.own.idxOf q'.ow) 0) k2 qt wb.nd;have G1:=G.wr (a:=qq.2) (o:=.lst ((q'.tops.set (b.own.idxOf q'.ow) 0).map V.int)) rfl;have F1:Fr n ρ H ρ (upd H qq.2 (.lst ((q'.tops.set (b.own.idxOf q'.ow) 0).map V.int))):=Fr.write c2;have EG:z≠qq.2:=λe=>by rw[e,r2]at hz;cases hz
   have hz1:upd H qq.2 (.lst ((q'.tops.set (b.own.idxOf q'.ow) 0).map V.int)) z=some (.tup (Dd.v (.hand x o))):=by rw[az EG];exact hz
   obtain⟨Us,Xf,_,_⟩:=s1.pt i _ _ (h_ hi) qt;have L5:∀y:BP,y.nm=q'.nm->((b.ah.set i y).map λp:BP=>p.nm).Nodup:=λy e=>by
    have:(b.ah.set i y).map (λp:BP=>p.nm)=b.ah.map (λp:BP=>p.nm):=by rw[jI,e];exact AJ (f:=λp:BP=>p.nm) (x:=q') k2
    rw[this];exact wb.nd
   generalize upd H qq.2 (.lst ((q'.tops.set (b.own.idxOf q'.ow) 0).map V.int))=H1 at *;have h2':b.own.idxOf o<(q'.tops.set (b.own.idxOf q'.ow) 0).length:=by rw[eX];exact h2
   refine⟨_,Z,qq.1,_,_,_,Z,Z,aD.of Us,aB (j:=4) rfl,_,Z,qq.2,_,_,_,Z,Z,aD.of Xf,at' h2',_,Z,_,_,Z,Z,_,Z,qq.1,_,_,_,Z,Z,aD.of Us,aB (j:=4) rfl,_,Z,qq.2,_,_,b.own.idxOf o,Z,Z,Xf,by rw[aE];exact lG h2',?_⟩;have m2:((q'.tops.set (b.own.idxOf q'.ow) 0).map V.int).set (b.own.idxOf o) (.int ((q'.tops.set (b.own.idxOf q'.ow) 0).getD (b.own.idxOf o) 0+q'.tops.getD (b.own.idxOf q'.ow) 0))=(lD q'.tops (b.own.idxOf q'.ow) (b.own.idxOf o)).map V.int:=jI.symm;rw[m2];have s2:=s1.LD G1 (lD q'.tops (b.own.idxOf q'.ow) (b.own.idxOf o)) (h_ hi) qt (L5 _ rfl);have G2:=G1.wr (a:=qq.2) (o:=.lst ((lD q'.tops (b.own.idxOf q'.ow) (b.own.idxOf o)).map V.int)) rfl;have F2:Fr n ρ H ρ (upd H1 qq.2 (.lst ((lD q'.tops (b.own.idxOf q'.ow) (b.own.idxOf o)).map V.int))):=F1.trans (Fr.write c2);have hz2:upd H1 qq.2 (.lst ((lD q'.tops (b.own.idxOf q'.ow) (b.own.idxOf o)).map V.int)) z=some (.tup (Dd.v (.hand x o))):=by rw[az EG];exact hz1
   have Xg:(b.ah.set i { q' with tops:=q'.tops.set (b.own.idxOf q'.ow) 0 }).set i { q' with tops:=lD q'.tops (b.own.idxOf q'.ow) (b.own.idxOf o) }=b.ah.set i { q' with tops:=lD q'.tops (b.own.idxOf q'.ow) (b.own.idxOf o) }:=oq ..;have s2:bg n ρ B (upd H1 qq.2 (.lst ((lD q'.tops (b.own.idxOf q'.ow) (b.own.idxOf o)).map V.int))) { b with ah:=b.ah.set i { q' with tops:=lD q'.tops (b.own.idxOf q'.ow) (b.own.idxOf o) } }:=by rw[<-Xg];exact s2
   generalize upd H1 qq.2 (.lst ((lD q'.tops (b.own.idxOf q'.ow) (b.own.idxOf o)).map V.int))=H2 at *;obtain⟨Xh,r22,c21,c22⟩:=s2.pt i _ _ (h_ hi) qt;refine⟨_,Z,z,_,_,_,Z,Z,dU.of hz2,aB (j:=2) rfl,_,Z,qq.1,_,_,1,Z,Z,Xh,Z,?_⟩;have s3:=s2.iR (i:=i) (p1:=i7 b o q') (t1:=qq.2) G2 (h_ hi) qt rfl (L5 _ rfl) r22 c22;have e3s:(b.ah.set i { q' with tops:=lD q'.tops (b.own.idxOf q'.ow) (b.own.idxOf o) }).set i (i7 b o q')=b.ah.set i (i7 b o q'):=oq ..;have s4:bg n ρ { B with qs:=B.qs.set i (qq.1,qq.2) } (upd H2 qq.1 (gq (i7 b o q') qq.2)) bb:=by rw[My,<-e3s];exact s3
   exact⟨_,{ B with qs:=B.qs.set i (qq.1,qq.2) },bb,_,_,_,Z,Mz,(by rw[My];exact Ur _),G2.wr rfl,s4,Z,F2.trans (Fr.write c21)⟩
  | sever x' y a we=>
   cases e1.symm.trans (show kL (Dd.v (.sever x' y a we)) 1=some (.str x')from aB (j:=1) rfl);refine cT dO rfl (by decide) rfl (aW ?_);refine⟨_,?_,λ_ _ y=>y⟩;refine cT dO rfl (by decide) rfl (aW ?_);refine⟨_,?_,λ_ _ y=>y⟩;refine cT dO rfl (by decide) rfl (aW ?_);refine⟨_,?_,λ_ _ y=>y⟩;obtain⟨_,⟨_,hy⟩,s4,s5,s6,s7⟩:=kX hr0;have pl:=gd.pl;have kl:=gd.kl;have eb:o_ b x=q':=by unfold o_;rw[<-k4,pX wb.nd k2];rfl
   have hi:i<b.ah.length:=(dj.mp k2).1;have Mx:i<B.qs.length:=(dj.mp qt).1;obtain⟨bb,My⟩:∃bb:BS,bb={ b with ah:=b.ah.set i { q' with wo:=q'.wo-a,we:=q'.we-we }++[⟨y,q'.ow,a,we,q'.tops⟩],eF:=b.eF++[y] }:=⟨_,rfl⟩
   have eS:(b.ah.map λp=>if p.nm=x then{ p with wo:=p.wo-a,we:=p.we-we } else p)=b.ah.set i { q' with wo:=q'.wo-a,we:=q'.we-we }:=by rw[<-k4];exact kW (nm:=λp:BP=>p.nm) (f:=λp:BP=>{ p with wo:=p.wo-a,we:=p.we-we }) wb.nd k2
   have Mz:qz b (.sever x y a we)={ bb with ah:=bb.ah.filter λp=>decide (0<p.wo) }:=by show AG b x y a we=_;unfold AG;rw[eb,eS,My]
   refine⟨_,Z,z,_,_,_,Z,Z,dO,aB (j:=0) rfl,Z,_,Z,cI (λ_=>?_) (λc=>absurd (br rfl) c)⟩;refine⟨_,Z,qq.1,_,_,_,Z,Z,aD.of r1,aB (j:=2) rfl,_,Z,z,_,_,_,Z,Z,dO,aB (j:=3) rfl,_,_,Z,Z,_,Z,qq.1,_,_,2,Z,Z,r1,Z,?_⟩;have st1:bg n ρ { B with qs:=B.qs.set i (qq.1,qq.2) } (upd H qq.1 (gq { q' with wo:=q'.wo-a } qq.2)) { b with ah:=b.ah.set i { q' with wo:=q'.wo-a } }:=hb.iR G k2 qt rfl wb.nd r2 c2;have G1:=G.wr (a:=qq.1) (o:=gq { q' with wo:=q'.wo-a } qq.2) rfl;have F1:Fr n ρ H ρ (upd H qq.1 (gq { q' with wo:=q'.wo-a } qq.2)):=Fr.write c1;have Us:upd H qq.1 (gq { q' with wo:=q'.wo-a } qq.2) qq.1=some (gq { q' with wo:=q'.wo-a } qq.2):=ak;have EG:z≠qq.1:=λe=>by rw[e,r1]at hz;cases hz
   have hz1:upd H qq.1 (gq { q' with wo:=q'.wo-a } qq.2) z=some (.tup (Dd.v (.sever x y a we))):=by rw[az EG];exact hz
   have hn1:∀b,upd H qq.1 (gq { q' with wo:=q'.wo-a } qq.2) b=none->H b=none:=λb h=>j6 h;have L5:((b.ah.set i { q' with wo:=q'.wo-a }).map λp:BP=>p.nm).Nodup:=by
    have:(b.ah.set i { q' with wo:=q'.wo-a }).map (λp:BP=>p.nm)=b.ah.map (λp:BP=>p.nm):=by rw[jI];exact AJ (f:=λp:BP=>p.nm) (x:=q') k2
    rw[this];exact wb.nd
   show vf _ _ _ _ (upd H qq.1 (gq { q' with wo:=q'.wo-a } qq.2));generalize upd H qq.1 (gq { q' with wo:=q'.wo-a } qq.2)=H1 at *;obtain⟨aje,Xf,_,_⟩:=st1.pt i _ _ (h_ hi) (h_ Mx);refine⟨_,Z,qq.1,_,_,_,Z,Z,aD.of Us,aB (j:=3) rfl,_,Z,z,_,_,_,Z,Z,dU.of hz1,aB (j:=4) rfl,_,_,Z,Z,_,Z,qq.1,_,_,3,Z,Z,Us,Z,?_⟩;have st2:=st1.iR (i:=i) (p1:={ q' with wo:=q'.wo-a,we:=q'.we-we }) (q0:=(qq.1,qq.2)) (t1:=qq.2) G1 (h_ hi) (h_ Mx) rfl L5 Xf c2;have Xg:(b.ah.set i { q' with wo:=q'.wo-a }).set i { q' with wo:=q'.wo-a,we:=q'.we-we }=b.ah.set i { q' with wo:=q'.wo-a,we:=q'.we-we }:=oq ..;have G2:=G1.wr (a:=qq.1) (o:=gq { q' with wo:=q'.wo-a,we:=q'.we-we } qq.2) rfl;have F2:Fr n ρ H ρ (upd H1 qq.1 (gq { q' with wo:=q'.wo-a,we:=q'.we-we } qq.2)):=F1.trans (Fr.write c1);have Xh:upd H1 qq.1 (gq { q' with wo:=q'.wo-a,we:=q'.we-we } qq.2) qq.1=some (gq { q' with wo:=q'.wo-a,we:=q'.we-we } qq.2):=ak;have hz2:upd H1 qq.1 (gq { q' with wo:=q'.wo-a,we:=q'.we-we } qq.2) z=some (.tup (Dd.v (.sever x y a we))):=by rw[az EG];exact hz1
   have hn2:∀b,upd H1 qq.1 (gq { q' with wo:=q'.wo-a,we:=q'.we-we } qq.2) b=none->H b=none:=λb h=>hn1 b (j6 h);show vf _ _ _ _ (upd H1 qq.1 (gq { q' with wo:=q'.wo-a,we:=q'.we-we } qq.2));generalize upd H1 qq.1 (gq { q' with wo:=q'.wo-a,we:=q'.we-we } qq.2)=H2 at *;obtain⟨B2,eB2⟩:∃B2:BA,B2={ B with qs:=(B.qs.set i (qq.1,qq.2)).set i (qq.1,qq.2) }:=⟨_,rfl⟩
   have h2:bg n ρ B2 H2 { b with ah:=b.ah.set i { q' with wo:=q'.wo-a,we:=q'.we-we } }:=by rw[eB2,<-Xg];exact st2
   have PO:B2.m=B.m:=by rw[eB2]
   have l2:(b.ah.set i { q' with wo:=q'.wo-a,we:=q'.we-we }).length=b.ah.length:=eX;obtain⟨_,r22,_,_⟩:=st2.pt i _ _ (by show((b.ah.set i _).set i _)[i]?=_;rw[Xg];exact h_ hi) (h_ (by rw[eX];exact Mx));clear st1 st2 eB2 G1 F1;have Rt:dU K H2 z (Dd.v (.sever x y a we)):=dU.of hz2;have om2:H2 B.m=some (.dK (f_ B2 b.bot)):=by rw[<-PO];exact h2.om
   refine⟨_,Z,B.m,_,Z,cJ.k (k:=Sum.inr "parts") om2,.inl ⟨Z,_,aD.of h2.op⟩,_,Z,z,_,_,_,Z,Z,Rt,aB (j:=2) rfl,_,Z,qq.1,_,_,_,Z,Z,aD.of Xh,aB (j:=1) rfl,_,Z,z,_,_,_,Z,Z,Rt,aB (j:=3) rfl,_,Z,z,_,_,_,Z,Z,Rt,aB (j:=4) rfl,_,Z,qq.1,_,_,_,Z,Z,aD.of Xh,aB (j:=4) rfl,qq.2,_,Z,.inl (aD.of r22),λl0 fV=>?_⟩;have g3:=aI fV (.lst (q'.tops.map V.int));have ha2:upd H2 l0 (.lst (q'.tops.map V.int)) l0=some (.lst (q'.tops.map V.int)):=ak;show rD _ (upd H2 l0 (.lst (q'.tops.map V.int))) _;generalize upd H2 l0 (.lst (q'.tops.map V.int))=H3 at *;refine⟨(iM 5),λp hp=>?_⟩;have g4:=aI hp (gq ⟨y,q'.ow,a,we,q'.tops⟩ l0);have hp3:upd H3 p (gq ⟨y,q'.ow,a,we,q'.tops⟩ l0) p=some (gq ⟨y,q'.ow,a,we,q'.tops⟩ l0):=ak;show rD _ (upd H3 p (gq ⟨y,q'.ow,a,we,q'.tops⟩ l0)) _;generalize upd H3 p (gq ⟨y,q'.ow,a,we,q'.tops⟩ l0)=H4 at *;have vI:H2 p=none:=g3.free hp;have yy:=g3.trans g4;have Uh:ρ l0=none:=G2.none fV;have np:p≠l0:=λe=>by rw[e,ha2]at hp;cases hp
   have cp:bO ρ l0 (n,24,y) p=none:=by rw[b7 np];exact G2.none vI
   have h3:bg n (bO (bO ρ l0 (n,24,y)) p (n,23,y)) B2 H4 { b with ah:=b.ah.set i { q' with wo:=q'.wo-a,we:=q'.we-we } }:=((h2.mono yy).col Uh).col cp;have G3:Gh (bO (bO ρ l0 (n,24,y)) p (n,23,y)) H4:=((G2.same yy).color (g4 _ _ ha2) rfl).color hp3 rfl;have F3:Fr n ρ H (bO (bO ρ l0 (n,24,y)) p (n,23,y)) H4:=((F2.trans (Fr.of_same yy)).jw (hn2 _ fV)).jw (hn2 _ vI);have cc1:bO (bO ρ l0 (n,24,y)) p (n,23,y) p=some (n,23,y):=cY;have cc2:bO (bO ρ l0 (n,24,y)) p (n,23,y) l0=some (n,24,y):=by rw[b7 (cO np),cY]
   have L7:=g4 _ _ ha2;have ajf:dU K H4 z (Dd.v (.sever x y a we)):=yy.tup Rt;refine⟨B2.lp,_,_,Z,Z,h3.op,by rw[aE,h3.ql];show _;exact dF (by rw[l2];omega),?_⟩;rw[show B2.qs.map (λq=>V.ref q.1)++[V.ref p]=(B2.qs++[(p,l0)]).map (λq=>V.ref q.1)from by rw[bL];rfl];have h4:=h3.S4 G3 (p:=⟨y,q'.ow,a,we,q'.tops⟩) (q:=(p,l0)) hp3 L7 cc1 cc2;have G4:=G3.wr (a:=B2.lp) (o:=.lst ((B2.qs++[(p,l0)]).map λq=>V.ref q.1)) rfl;have F4:=F3.trans (Fr.write (o:=.lst ((B2.qs++[(p,l0)]).map λq=>V.ref q.1)) h3.cp);have hz4:H4 z=some (.tup (Dd.v (.sever x y a we))):=yy _ _ hz2;have Ii:upd H4 B2.lp (.lst ((B2.qs++[(p,l0)]).map λq=>V.ref q.1)) z=some (.tup (Dd.v (.sever x y a we))):=by rw[az (λe=>by rw[e,h3.op]at hz4;cases hz4)];exact hz4
   generalize upd H4 B2.lp (.lst ((B2.qs++[(p,l0)]).map λq=>V.ref q.1))=H5 at *;have om5:H5 B.m=some (.dK (f_ { B2 with qs:=B2.qs++[(p,l0)] } b.bot)):=by rw[<-PO];exact h4.om
   refine⟨_,Z,B.m,_,Z,cJ.k (k:=Sum.inr "known") om5,.inl ⟨Z,_,aD.of h4.ok⟩,_,Z,z,_,_,_,Z,Z,dU.of Ii,aB (j:=2) rfl,B2.lk,_,_,Z,Z,h4.ok,by rw[aE];exact dF (by show b.eF.length<=_;omega),?_⟩;rw[show b.eF.map V.str++[V.str y]=(b.eF++[y]).map V.str from by rw[bL];rfl];exact⟨_,{ B2 with qs:=B2.qs++[(p,l0)] },bb,_,_,_,Z,Mz,(by rw[My];show(b.ah.set i _++[_]).length<=1000;rw[c7,eX];show b.ah.length+1<=1000;omega),G4.wr rfl,by rw[My];exact h4.O_ G4 (b.eF++[y]),PO,F4.trans (Fr.write h4.ck)⟩
  | land x'=>
   cases e1.symm.trans (show kL (Dd.v (.land x')) 1=some (.str x')from aB (j:=1) rfl);refine cT dO rfl (by decide) rfl (aW ?_);refine⟨_,?_,λ_ _ y=>y⟩;refine cT dO rfl (by decide) rfl (aW ?_);refine⟨_,?_,λ_ _ y=>y⟩;refine cT dO rfl (by decide) rfl (aW ?_);refine⟨_,?_,λ_ _ y=>y⟩;refine cT dO rfl (by decide) rfl (aW ?_);refine⟨_,?_,λ_ _ y=>y⟩;refine⟨_,Z,z,_,_,_,Z,Z,dO,aB (j:=0) rfl,Z,_,Z,cI (λ_=>?_) (λc=>absurd (br rfl) c)⟩;have eb:o_ b x=q':=by unfold o_;rw[<-k4,pX wb.nd k2];rfl
   have eS:(b.ah.map λp=>if p.nm=x then({ p with wo:=0 }:BP) else p)=b.ah.set i { q' with wo:=0 }:=by rw[<-k4];exact kW (nm:=λp:BP=>p.nm) (f:=λp:BP=>{ p with wo:=0 }) wb.nd k2
   have Mz:qz b (.land x)={ ({ b with bD:=b.bD++[⟨q'.nm,q'.ow,q'.wo,q'.tops,b.bot⟩],ah:=b.ah.set i { q' with wo:=0 } }:BS)with ah:=(b.ah.set i { q' with wo:=0 }).filter λp=>decide (0<p.wo) }:=by show xB b x=_;unfold xB mJ;rw[eb,eS,k4]
   obtain⟨vs,hv,hA⟩:=hb.oa;refine⟨_,Z,B.m,_,Z,cJ.k (k:=Sum.inr "ashore") hb.om,.inl ⟨Z,_,aD.of hv⟩,_,Z,qq.1,_,_,_,Z,Z,aD.of r1,aB (j:=0) rfl,_,Z,qq.1,_,_,_,Z,Z,aD.of r1,aB (j:=1) rfl,_,Z,qq.1,_,_,_,Z,Z,aD.of r1,aB (j:=2) rfl,_,Z,qq.1,_,_,_,Z,Z,aD.of r1,aB (j:=4) rfl,qq.2,_,Z,.inl (aD.of r2),λl0 fV=>?_⟩;have g3:=aI fV (.lst (q'.tops.map V.int));have ha2:upd H l0 (.lst (q'.tops.map V.int)) l0=some (.lst (q'.tops.map V.int)):=ak;show QD (QI (Fp 0) (tC (.str "bottom"))) rD _ (upd H l0 (.lst (q'.tops.map V.int))) _;generalize upd H l0 (.lst (q'.tops.map V.int))=H3 at *;refine⟨_,Z,B.m,_,Z,cJ.k (k:=Sum.inr "bottom") (g3 _ _ hb.om),(iM 5),λp hp=>?_⟩;have g4:=aI hp (.lst [.str q'.nm,.str q'.ow,.int q'.wo,.ref l0,.int b.bot]);have hp3:upd H3 p (.lst [.str q'.nm,.str q'.ow,.int q'.wo,.ref l0,.int b.bot]) p=some (.lst [.str q'.nm,.str q'.ow,.int q'.wo,.ref l0,.int b.bot]):=ak;show rD _ (upd H3 p (.lst [.str q'.nm,.str q'.ow,.int q'.wo,.ref l0,.int b.bot])) _;generalize upd H3 p (.lst [.str q'.nm,.str q'.ow,.int q'.wo,.ref l0,.int b.bot])=H4 at *;have vI:H p=none:=g3.free hp;have yy:=g3.trans g4;have Uh:ρ l0=none:=G.none fV;have np:p≠l0:=λe=>by rw[e,ha2]at hp;cases hp
   have cp:bO ρ l0 (n,28,q'.nm) p=none:=by rw[b7 np];exact G.none vI
   have h3:bg n (bO (bO ρ l0 (n,28,q'.nm)) p (n,27,q'.nm)) B H4 b:=((hb.mono yy).col Uh).col cp;have G3:Gh (bO (bO ρ l0 (n,28,q'.nm)) p (n,27,q'.nm)) H4:=((G.same yy).color (g4 _ _ ha2) rfl).color hp3 rfl;have F3:Fr n ρ H (bO (bO ρ l0 (n,28,q'.nm)) p (n,27,q'.nm)) H4:=((Fr.of_same yy).jw fV).jw vI;have cc1:bO (bO ρ l0 (n,28,q'.nm)) p (n,27,q'.nm) p=some (n,27,q'.nm):=cY;have cc2:bO (bO ρ l0 (n,28,q'.nm)) p (n,27,q'.nm) l0=some (n,28,q'.nm):=by rw[b7 (cO np),cY]
   obtain⟨Xi,W4,hA4⟩:=h3.oa;have al9:Xi.length<900:=by rw[hA4.length,<-gd.bD.length];exact al.al
   refine⟨B.la,_,_,Z,Z,W4,dF (by omega),?_⟩;have h4:=h3.YL G3 W4 hA4 (e:=⟨q'.nm,q'.ow,q'.wo,q'.tops,b.bot⟩) hp3 cc1 (g4 _ _ ha2) cc2;have G4:=G3.wr (a:=B.la) (o:=.lst (Xi++[.ref p])) rfl;have F4:=F3.trans (Fr.write (o:=.lst (Xi++[.ref p])) h3.ca);obtain⟨r41,r42,c41,c42⟩:=h4.pt i q' qq k2 qt;generalize upd H4 B.la (.lst (Xi++[.ref p]))=H5 at *;refine⟨_,Z,qq.1,_,_,2,Z,Z,r41,Z,?_⟩;have h5:=h4.iR (i:=i) (p1:={ q' with wo:=0 }) (t1:=qq.2) G4 k2 qt rfl wb.nd r42 c42;exact⟨_,{ B with qs:=B.qs.set i (qq.1,qq.2) },{ b with bD:=b.bD++[⟨q'.nm,q'.ow,q'.wo,q'.tops,b.bot⟩],ah:=b.ah.set i { q' with wo:=0 } },_,_,_,Z,Mz,Ur _,G4.wr rfl,h5,Z,F4.trans (Fr.write c41)⟩
  | _=>exact al.one.elim
 rintro σ H5 ⟨ρ5,B5,bb,s4,s5,s6,rfl,Mz,Ur,G5,h5,zV,F5⟩;rw[Mz]at q;have EF:B5.qs.length=bb.ah.length:=h5.ql;have Uq:(B5.qs.map λq=>V.ref q.1).length=bb.ah.length:=by rw[aE];exact EF
 have zW:H5 B5.lp=some (.lst (B5.qs.map λq=>V.ref q.1)):=h5.op;have om6:H5 B.m=some (.dK (f_ B5 bb.bot)):=by rw[<-zV];exact h5.om
 refine⟨_,Z,B.m,_,Z,cJ.k (k:=Sum.inr "parts") om6,B5.lp,Z,⟨_,aD.of zW⟩,λlp uN=>?_⟩;refine FD (J:=uK K B5.lp) (n:=bb.ah.length) 0 (λi o H'=>aN H5 H'/\o=(jQ (bb.ah.take i) (B5.qs.take i)).map λq=>V.ref q.1) (by omega) ⟨aI uN _,Z⟩ (λi o H' hi _ hp=>⟨_,_,aD.of (hp.1 _ _ zW),a_ (by rw[Uq];exact hi)⟩) (λo H' _ hp=>⟨_,aD.of (hp.1 _ _ zW),by rw[Uq];exact aL _⟩) ?_ ?_
 .rintro i y o H7 H8 hi fh ha ⟨g,e⟩ ⟨rfl,hy⟩;have ei:=a_ hi;obtain⟨qq,eq,k1,k2,_,_⟩:=h5.find ei;have ey:=hy _ (aD.of (g _ _ zW));rw[bQ,eq]at ey;cases ey;have es:=ze ei eq;refine⟨_,Z,qq.1,_,_,_,Z,Z,aD.of (g _ _ k1),aB (j:=2) rfl,_,_,Z,Z,_,Z,cI (λc=>?_) (λc=>?_)⟩
  .rw [ay (dW c)]at es;refine⟨_,Z,ha,g.cA uN _,?_⟩;rw[es,e,bL];rfl
  .rw [av (p6 (oW.mpr c))]at es;exact⟨ha,g,by rw[es,e,sJ]⟩
 rintro o H7 _ ha ⟨g7,e⟩;rw[cM,<-EF,cM]at e;subst e;have h7:=h5.mono g7;have G7:=G5.same g7;have clp:ρ5 lp=none:=G5.none uN;have h8:=h7.col (t:=22) (x:=⟨#[]⟩) clp;have G8:Gh (bO ρ5 lp (n,22,⟨#[]⟩)) H7:=G7.color ha rfl;have F8:Fr n ρ H (bO ρ5 lp (n,22,⟨#[]⟩)) H7:=F5.trans (Fr.color uN g7);have h9:=h8.S3 G8 (lp:=lp) (qs:=jQ bb.ah B5.qs) (ps:=bb.ah.filter λp=>decide (0<p.wo)) ha cY (Ax EF) (λi x y ex ey=>by obtain⟨j,a1,a2⟩:=y_ ex ey EF;exact h8.pt j x y a1 a2)
 have cm8:=h8.cm;rw[zV]at h9 cm8;refine⟨_,Z,B.m,_,Z,ud.k (k:=Sum.inr "parts") (by rw[<-zV];exact h7.om) (by show 5<sizeLine;decide),?_⟩;rw[Lh];exact q _ _ _ (G8.wr rfl) h9 rfl (F8.trans (Fr.write cm8))
abbrev pK:Stmt:=top 42
abbrev l9:List Str:=["_law_model_here","_law_deed_here"]
abbrev EH:List Str:=l9.append ["_law_nought"]
theorem wH:aP EH l9 (aC pK):=di
theorem CY(F:At K mg "_law_model_do" pK f fd)(pL:Dn P w K mg base 4 "_law_model_one" kZ (xC AlO K))(qV:Dn P w K mg base 2 "_law_new_part" l7 HB)(nP:Dn P w K mg base 2 "_law_model_cast" kh (Pd K))(lM:Dn P w K mg base 1 "_law_bear" oh (Lf K))(dH:Dn P w K mg base 1 "_law_seat" je (yh K))(bV:mg "len"=none)(cC:mg "range"=none):Dn P w K mg base 5 "_law_model_do" l9 (xC AlL K):=by
 refine F.oA wH λcdv A outer s H vs Q E hr h=>?_;obtain⟨⟨n,c,ρ,B,b,st,z,d,rfl,hz,G,hb,gd,hc,wf,al,db,hr0,q⟩⟩:=h;refine⟨_,(@c5.h _ _ _ (aj (cX (aU dJ (aF (aV K) (qv 1) ai) aT (bq _)) (au Ph) bP)
  (au (cX (aU dJ (aF (aV K) (qv 1) ai) aT (bq _)) (au (cg (bH qV hr (af (qv 0) (af (aF (aV K) (qv 1) ai) (af (aF (aV K) (qv 1) ai) (af (aF (aV K) (qv 1) ai) (af (aF (aV K) (qv 1) ai) aq)))))))) (au (cX (aU dJ (aF (aV K) (qv 1) ai) aT (bq _)) (au (cg (bH nP hr (af (qv 0) (af (iw ["_law_k","_law_deed_here"] [none,some 1] rfl (HN (by rfl) cC (af ai (af (bh (cU K) (by rfl) bV eY (af (qv 1) aq)) (af ai aq)))) (λ_ _ _ _=>(aS (i:=0) (show List.Nodup (["_law_k","_law_deed_here"] :List Str)from by decide +kernel))) (λ_ _ _ _=>(iS (af (aF (aV K) (qv 1) (qv 0)) (af (aF (aV K) (qv 1) (aG cE (qv 0) ai)) aq)))) rfl (by rfl)) aq))))) (au (cX (aU dJ (aF (aV K) (qv 1) ai) aT (bq _)) (aj (pU (i:=2) ["_law_part"] [none] wH.nd rfl rfl rfl (c_ K (bR (bX hr) (qv 0) aT)) (λ_ _ _ _=>(aS (i:=0) (show List.Nodup (["_law_part"] :List Str)from by decide +kernel))) (λ_ _ _ _=>ai) rfl (by rfl) (by rfl))
  (au (cg (bH lM hr (af (qv 0) (af (qv 2) (af (bH dH hr (af (bR (bX hr) (qv 0) aT) (af (aF (aV K) (qv 1) ai) aq))) (af (aF (aV K) (qv 1) ai) aq)))))))) (au (cg (bH pL hr (af (qv 0) (af (qv 1) aq))))))))))))),?_⟩
 have wb:=gd.fT;have dO:dU K H z (Dd.v d):=dU.of hz;have one:abe d->∀{Q':VK}{E':XK},(∀H',Q .cy H'->Q' .cy H')->Lq AlO K [.ref B.m,.ref z] H Q' E':=λh1 Q' E' kk=>⟨n,c,ρ,B,b,st,z,d,Z,hz,G,hb,gd,hc,wf,⟨h1,al.pl,al.kl,al.al⟩,db,hr0,λρ' B' H' a1 a2 a3 a4=>kk H' (q ρ' B' H' a1 a2 a3 a4)⟩
 cases d with
 | sign o=>exact absurd rfl al.nk
 | still=>refine⟨_,Z,z,_,_,_,Z,Z,dO,aB (j:=0) rfl,Z,_,Z,cI (λ_=>?_) (λc=>absurd (br rfl) c)⟩;exact q ρ B H G hb rfl (Fr.refl)
 | load x o wo we=>refine cT dO rfl (by decide) rfl (aW ?_);refine⟨_,Z,z,_,_,_,Z,Z,dO,aB (j:=0) rfl,Z,_,Z,cI (λ_=>?_) (λc=>absurd (br rfl) c)⟩;obtain⟨l1,l2,l3,l4,l5⟩:=tO hr0;rw[gd.rel.own]at l3;exact⟨_,Z,_,Z,z,_,_,_,Z,Z,dO,aB (j:=1) rfl,_,Z,z,_,_,_,Z,Z,dO,aB (j:=2) rfl,_,Z,z,_,_,_,Z,Z,dO,aB (j:=3) rfl,_,Z,z,_,_,_,Z,Z,dO,aB (j:=4) rfl,⟨⟨n,ρ,B,b,x,o,wo,we,Z,G,hb,l3,by have:=wb.ol;omega,wb.pl,wb.kl,q⟩⟩⟩
 | cast rs=>
  refine cT dO rfl (by decide) rfl (aW ?_);refine cT dO rfl (by decide) rfl (aW ?_);refine⟨_,Z,z,_,_,_,Z,Z,dO,aB (j:=0) rfl,Z,_,Z,cI (λ_=>?_) (λc=>absurd (br rfl) c)⟩;obtain⟨c',gg,hc'⟩:=al.go;have ok:=gg.yp wf (by omega) hr0;have hrl:rs.length<=1000:=ok.len;obtain⟨rb,bo⟩:=V2 gd wf hc hr0;refine⟨_,Z,_,Z,z,_,Z,.inr dO,_,_,_,Z,⟨by decide,by decide,by omega,by rw[zm];omega,by decide,by decide⟩,?_⟩;rw[zm,TN];intro acc hacc;refine iD (J:=QO 1 2 rs.length) (n:=rs.length) 0 (λi out H1=>aN H H1/\gi H1 out (rs.take i)) (by omega) ⟨aI hacc _,.nil⟩ (λi o H' hi _ _=>hi) (λo H' _ _=>aL _) ?_ ?_
  .rintro i x out H1 H2 hi fh ha ⟨g,R⟩ ⟨rfl,rfl⟩;have ei:=a_ hi;generalize rs[i]=r at *;obtain⟨c1,c2⟩:=Py ei;have e1:(1:Int)+(i:Int)*2=((1+2*i:Nat):Int):=by omega
   have e2:((1+2*i:Nat):Int)+1=((2+2*i:Nat):Int):=by omega
   rw[e1];refine⟨_,Z,_,Z,z,_,_,_,Z,Z,g.tup dO,aB c1,_,Z,_,Z,_,_,Z,Z,z,_,_,_,Z,Z,g.tup dO,by rw[e2];exact aB c2,(iM 2),λp hp=>?_⟩;have g6:=aI hp (xP r);refine⟨g6 _ _ ha,(g.trans g6).cA hacc _,?_⟩;rw[take_snoc ei];exact((R.mono g6.tups).snoc ak).mono (rJ (.inr ⟨_,g6 _ _ ha,Z⟩))
  rintro out H1 fh ha ⟨g,R⟩;rw[cM]at R;exact⟨⟨n,ρ,B,b,acc,out,rs,Z,G.same g,hb.mono g,wb,aD.of ha,R,G.none hacc,rb,hrl,bo,λρ' B' H' a1 a2 a3 a4=>q ρ' B' H' a1 a2 a3 ((Fr.of_same g).trans a4)⟩⟩
 | award o a=>
  refine cT dO rfl (by decide) rfl (aW ?_);refine cT dO rfl (by decide) rfl (aW ?_);refine cT dO rfl (by decide) rfl (aW ?_);refine⟨_,Z,z,_,_,_,Z,Z,dO,aB (j:=0) rfl,Z,_,Z,cI (λ_=>?_) (λc=>absurd (br rfl) c)⟩;obtain⟨ho,h1,h2⟩:=qA hr0;obtain⟨c',gg,hc'⟩:=al.go;have ha:FQ st:=gg.aw wf (by omega);have pl:=wb.pl;have ew:=gd.rel.whole;have eo:=gd.rel.own;rw[eo]at ho;have hi:b.own.idxOf o<b.own.length:=JT.mpr ho;have A_:(B.qs.map λq=>V.ref q.1).length=b.ah.length:=by rw[aE];exact hb.ql
  refine⟨_,Z,B.m,_,Z,cJ.k (k:=Sum.inr "parts") hb.om,B.lp,Z,⟨_,aD.of hb.op⟩,λl0 fV=>?_⟩;refine iD (J:=uK K B.lp) (n:=b.ah.length) 0 (λi o H'=>aN H H'/\o=(List.replicate i (0:Int)).map V.int) (by omega) ⟨aI fV _,Z⟩ (λi o H' hi _ hp=>⟨_,_,aD.of (hp.1 _ _ hb.op),a_ (by rw[A_];exact hi)⟩) (λo H' _ hp=>⟨_,aD.of (hp.1 _ _ hb.op),by rw[A_];exact aL _⟩) ?_ ?_
  .rintro i y o H2 H3 hi fh ha ⟨g,e⟩ ⟨rfl,hy⟩;refine⟨ha,g.cA fV _,?_⟩;subst e;rw[List.replicate_succ',bL];rfl
  rintro o1 H1 _ ha1 ⟨g1,e⟩;subst e;have hb1:=hb.mono g1;have hz1:dU K H1 z (Dd.v (.award o a)):=dU.of (g1 _ _ hz);have bo:lz b (List.replicate b.ah.length 0) (b.own.idxOf o) a:=⟨iW,λx hx=>by rw[JS hx];exact dZ _,hi,by omega,by rw[rP];omega,by rw[<-ew];exact ha.big⟩
  exact⟨_,Z,_,Z,_,Z,B.m,_,Z,cJ.k (k:=Sum.inr "owners") hb1.om,_,Z,z,_,_,_,Z,Z,hz1,aB (j:=1) rfl,⟨⟨B.lo,b.own,o,Z,aD.of hb1.oo,ho,by have:=wb.ol;omega,_,Z,z,_,_,_,Z,Z,hz1,aB (j:=2) rfl,⟨⟨n,ρ,B,b,l0,List.replicate b.ah.length 0,b.own.idxOf o,a,Z,G.same g1,hb1,wb,aD.of ha1,G.none fV,bo,λρ' B' H' a1 a2 a3 a4=>q ρ' B' H' a1 a2 a3 ((Fr.of_same g1).trans a4)⟩⟩⟩⟩⟩
 | mishap x a=>refine cT dO rfl (by decide) rfl (aW ?_);refine cT dO rfl (by decide) rfl (aW ?_);refine cT dO rfl (by decide) rfl (aW ?_);refine cT dO rfl (by decide) rfl (aW ?_);exact⟨_,Z,_,Z,⟨one True.intro λ_ y=>y⟩⟩
 | rise x a=>refine cT dO rfl (by decide) rfl (aW ?_);refine cT dO rfl (by decide) rfl (aW ?_);refine cT dO rfl (by decide) rfl (aW ?_);refine cT dO rfl (by decide) rfl (aW ?_);exact⟨_,Z,_,Z,⟨one True.intro λ_ y=>y⟩⟩
 | hand x o=>refine cT dO rfl (by decide) rfl (aW ?_);refine cT dO rfl (by decide) rfl (aW ?_);refine cT dO rfl (by decide) rfl (aW ?_);refine cT dO rfl (by decide) rfl (aW ?_);exact⟨_,Z,_,Z,⟨one True.intro λ_ y=>y⟩⟩
 | land x=>refine cT dO rfl (by decide) rfl (aW ?_);refine cT dO rfl (by decide) rfl (aW ?_);refine cT dO rfl (by decide) rfl (aW ?_);refine cT dO rfl (by decide) rfl (aW ?_);exact⟨_,Z,_,Z,⟨one True.intro λ_ y=>y⟩⟩
 | sever x y a we=>refine cT dO rfl (by decide) rfl (aW ?_);refine cT dO rfl (by decide) rfl (aW ?_);refine cT dO rfl (by decide) rfl (aW ?_);refine cT dO rfl (by decide) rfl (aW ?_);exact⟨_,Z,_,Z,⟨one True.intro λ_ y=>y⟩⟩
abbrev qW:Stmt:=top 35
abbrev nE:List Str:=["_law_hold","_law_deed_here"]
abbrev Gr:List Str:=nE
theorem EI:aP Gr nE (aC qW):=di
theorem EJ{T:TC}{e:Ec}(F:At K mg "_law_hold_do" qW f fd)(lJ:Mn P w K mg base 3 T.hold "sign" nZ (FG T))(xY:Mn P w K mg base 4 T.hold "load" sU (SN T))(xZ:Mn P w K mg base 4 T.hold "cast" sV (SX T K))(MA:Mn P w K mg base 4 T.hold "award" qJ (sN (Ls T e)))(IZ:Mn P w K mg base 3 T.hold "mishap" oN (sN (HP T e)))(NW:Mn P w K mg base 2 T.hold "rise" sW (sN (Pk T e)))(NX:Mn P w K mg base 2 T.hold "hand" sX (sN (Po T e)))(NY:Mn P w K mg base 5 T.hold "land" sY (sN (Pq T e)))(MB:Mn P w K mg base 4 T.hold "sever" qK (sN (Lx T e)))(bV:mg "len"=none)(cC:mg "range"=none):Dn P w K mg base 6 "_law_hold_do" nE (LG T K):=by
 refine F.oA EI λcdv A outer s H vs Q E hr h=>?_;obtain⟨⟨n,c,ρ,A,st,z,d,rfl,hz,hh,gg,hc,hk,ho,hr0,q⟩⟩:=h;refine⟨_,(@c5.h _ _ _ (aj (cX (aU dJ (aF (aV K) (qv 1) ai) aT (bq _)) (au (bw (bZ lJ hr (qv 0) (af (aF (aV K) (qv 1) ai) aq)))) (au (cX (aU dJ (aF (aV K) (qv 1) ai) aT (bq _)) (au (bw (bZ xY hr (qv 0) (af (aF (aV K) (qv 1) ai) (af (aF (aV K) (qv 1) ai) (af (aF (aV K) (qv 1) ai) (af (aF (aV K) (qv 1) ai) aq))))))) (au (cX (aU dJ (aF (aV K) (qv 1) ai) aT (bq _)) (au (bw (bZ xZ hr (qv 0) (af (iw ["_law_k","_law_deed_here"] [none,some 1] rfl (HN (by rfl) cC (af ai (af (bh (cU K) (by rfl) bV eY (af (qv 1) aq)) (af ai aq)))) (λ_ _ _ _=>(aS (i:=0) (show List.Nodup (["_law_k","_law_deed_here"] :List Str)from by decide +kernel))) (λ_ _ _ _=>(iS (af (aF (aV K) (qv 1) (qv 0)) (af (aF (aV K) (qv 1) (aG cE (qv 0) ai)) aq)))) rfl (by rfl)) aq)))) (au (cX (aU dJ (aF (aV K) (qv 1) ai) aT (bq _)) (au (bw (bZ MA hr (qv 0) (af (aF (aV K) (qv 1) ai) (af (aF (aV K) (qv 1) ai) aq))))) (au (cX (aU dJ (aF (aV K) (qv 1) ai) aT (bq _)) (au (bw (bZ IZ hr (qv 0) (af (aF (aV K) (qv 1) ai) (af (aF (aV K) (qv 1) ai) aq))))) (au (cX (aU dJ (aF (aV K) (qv 1) ai) aT (bq _)) (au (bw (bZ NW hr (qv 0) (af (aF (aV K) (qv 1) ai) (af (aF (aV K) (qv 1) ai) aq))))) (au (cX (aU dJ (aF (aV K) (qv 1) ai) aT (bq _)) (au (bw (bZ NX hr (qv 0) (af (aF (aV K) (qv 1) ai) (af (aF (aV K) (qv 1) ai) aq))))) (au (cX (aU dJ (aF (aV K) (qv 1) ai) aT (bq _)) (au (bw (bZ NY hr (qv 0) (af (aF (aV K) (qv 1) ai) aq)))) (au (cX (aU dJ (aF (aV K) (qv 1) ai) aT (bq _)) (au (bw (bZ MB hr (qv 0) (af (aF (aV K) (qv 1) ai) (af (aF (aV K) (qv 1) ai) (af (aF (aV K) (qv 1) ai) (af (aF (aV K) (qv 1) ai) aq))))))) bP)))))))))))))))))
  (au (bw aaQ)))),?_⟩
 have wf:=hh.wf;have hpl:=gg.pl;have hkl:=gg.kl;cases d with
 | sign o=>obtain⟨s1,s2⟩:=TQ hr0;refine⟨_,Z,z,_,_,_,Z,Z,hz,aB (j:=0) rfl,Z,_,Z,cI (λ_=>?_) (λc=>absurd (br rfl) c)⟩;refine⟨_,Z,A.a,A.dx,_,Z,hh.h.oa,Z,_,Z,z,_,_,_,Z,Z,hz,aB (j:=1) rfl,⟨⟨n,ρ,A,st,o,Z,hh,s1,s2,ho,q⟩⟩⟩
 | load x o wo we=>obtain⟨l1,l2,l3,l4,l5⟩:=tO hr0;refine cT hz rfl (by decide) rfl (aW ?_);refine⟨_,Z,z,_,_,_,Z,Z,hz,aB (j:=0) rfl,Z,_,Z,cI (λ_=>?_) (λc=>absurd (br rfl) c)⟩;refine⟨_,Z,A.a,A.dx,_,Z,hh.h.oa,Z,_,Z,z,_,_,_,Z,Z,hz,aB (j:=1) rfl,_,Z,z,_,_,_,Z,Z,hz,aB (j:=2) rfl,_,Z,z,_,_,_,Z,Z,hz,aB (j:=3) rfl,_,Z,z,_,_,_,Z,Z,hz,aB (j:=4) rfl,⟨⟨n,ρ,A,st,x,o,wo,we,Z,hh,l1,l2,l3,l4,l5,by omega,by omega,q⟩⟩⟩
 | cast rs=>
  refine cT hz rfl (by decide) rfl (aW ?_);refine cT hz rfl (by decide) rfl (aW ?_);refine⟨_,Z,z,_,_,_,Z,Z,hz,aB (j:=0) rfl,Z,_,Z,cI (λ_=>?_) (λc=>absurd (br rfl) c)⟩;have ok:=gg.yp wf (by omega) hr0;have hrl:rs.length<=1000:=ok.len;refine⟨_,Z,A.a,A.dx,_,Z,hh.h.oa,Z,_,Z,z,_,Z,.inr hz,_,_,_,Z,⟨by decide,by decide,by omega,by rw[zm];omega,by decide,by decide⟩,?_⟩;rw[zm,TN];intro acc hacc;refine iD (J:=QO 1 2 rs.length) (n:=rs.length) 0 (λi out H1=>aN H H1/\gi H1 out (rs.take i)) (by omega) ⟨aI hacc _,.nil⟩ (λi o H' hi _ _=>hi) (λo H' _ _=>aL _) ?_ ?_
  .rintro i x out H1 H2 hi fh ha ⟨g,R⟩ ⟨rfl,rfl⟩;have ei:=a_ hi;generalize rs[i]=r at *;obtain⟨c1,c2⟩:=Py ei;have e1:(1:Int)+(i:Int)*2=((1+2*i:Nat):Int):=by omega
   have e2:((1+2*i:Nat):Int)+1=((2+2*i:Nat):Int):=by omega
   rw[e1];refine⟨_,Z,_,Z,z,_,_,_,Z,Z,g.tup hz,aB c1,_,Z,_,Z,_,_,Z,Z,z,_,_,_,Z,Z,g.tup hz,by rw[e2];exact aB c2,(iM 2),λp hp=>?_⟩;have g6:=aI hp (xP r);refine⟨g6 _ _ ha,(g.trans g6).cA hacc _,?_⟩;rw[take_snoc ei];exact((R.mono g6.tups).snoc ak).mono (rJ (.inr ⟨_,g6 _ _ ha,Z⟩))
  rintro out H1 fh ha ⟨g,R⟩;rw[cM]at R;exact⟨⟨n,ρ,A,st,acc,out,rs,Z,hh.mono g,aD.of ha,R,ok,λρ' A' H' a1 a2 a3=>q ρ' A' H' a1 a2 ((Fr.of_same g).trans a3)⟩⟩
 | award o a=>refine cT hz rfl (by decide) rfl (aW ?_);refine cT hz rfl (by decide) rfl (aW ?_);refine cT hz rfl (by decide) rfl (aW ?_);refine⟨_,Z,z,_,_,_,Z,Z,hz,aB (j:=0) rfl,Z,_,Z,cI (λ_=>?_) (λc=>absurd (br rfl) c)⟩;refine⟨_,Z,A.a,A.dx,_,Z,hh.h.oa,Z,_,Z,z,_,_,_,Z,Z,hz,aB (j:=1) rfl,_,Z,z,_,_,_,Z,Z,hz,aB (j:=2) rfl,⟨⟨n,ρ,A,st,o,a,Z,hh,gg.aw wf (by omega),.of hr0 q⟩⟩⟩
 | mishap x a=>refine cT hz rfl (by decide) rfl (aW ?_);refine cT hz rfl (by decide) rfl (aW ?_);refine cT hz rfl (by decide) rfl (aW ?_);refine cT hz rfl (by decide) rfl (aW ?_);refine⟨_,Z,z,_,_,_,Z,Z,hz,aB (j:=0) rfl,Z,_,Z,cI (λ_=>?_) (λc=>absurd (br rfl) c)⟩;refine⟨_,Z,A.a,A.dx,_,Z,hh.h.oa,Z,_,Z,z,_,_,_,Z,Z,hz,aB (j:=1) rfl,_,Z,z,_,_,_,Z,Z,hz,aB (j:=2) rfl,⟨⟨n,ρ,A,st,x,a,Z,hh,.of hr0 q⟩⟩⟩
 | rise x a=>refine cT hz rfl (by decide) rfl (aW ?_);refine cT hz rfl (by decide) rfl (aW ?_);refine cT hz rfl (by decide) rfl (aW ?_);refine cT hz rfl (by decide) rfl (aW ?_);refine cT hz rfl (by decide) rfl (aW ?_);refine⟨_,Z,z,_,_,_,Z,Z,hz,aB (j:=0) rfl,Z,_,Z,cI (λ_=>?_) (λc=>absurd (br rfl) c)⟩;refine⟨_,Z,A.a,A.dx,_,Z,hh.h.oa,Z,_,Z,z,_,_,_,Z,Z,hz,aB (j:=1) rfl,_,Z,z,_,_,_,Z,Z,hz,aB (j:=2) rfl,⟨⟨n,ρ,A,st,x,a,Z,hh,.of hr0 q⟩⟩⟩
 | hand x o=>refine cT hz rfl (by decide) rfl (aW ?_);refine cT hz rfl (by decide) rfl (aW ?_);refine cT hz rfl (by decide) rfl (aW ?_);refine cT hz rfl (by decide) rfl (aW ?_);refine cT hz rfl (by decide) rfl (aW ?_);refine cT hz rfl (by decide) rfl (aW ?_);refine⟨_,Z,z,_,_,_,Z,Z,hz,aB (j:=0) rfl,Z,_,Z,cI (λ_=>?_) (λc=>absurd (br rfl) c)⟩;refine⟨_,Z,A.a,A.dx,_,Z,hh.h.oa,Z,_,Z,z,_,_,_,Z,Z,hz,aB (j:=1) rfl,_,Z,z,_,_,_,Z,Z,hz,aB (j:=2) rfl,⟨⟨n,ρ,A,st,x,o,Z,hh,gg.sum,.of hr0 q⟩⟩⟩
 | land x=>refine cT hz rfl (by decide) rfl (aW ?_);refine cT hz rfl (by decide) rfl (aW ?_);refine cT hz rfl (by decide) rfl (aW ?_);refine cT hz rfl (by decide) rfl (aW ?_);refine cT hz rfl (by decide) rfl (aW ?_);refine cT hz rfl (by decide) rfl (aW ?_);refine cT hz rfl (by decide) rfl (aW ?_);refine⟨_,Z,z,_,_,_,Z,Z,hz,aB (j:=0) rfl,Z,_,Z,cI (λ_=>?_) (λc=>absurd (br rfl) c)⟩;refine⟨_,Z,A.a,A.dx,_,Z,hh.h.oa,Z,_,Z,z,_,_,_,Z,Z,hz,aB (j:=1) rfl,⟨⟨n,ρ,A,st,x,Z,hh,gg.ld wf (by omega) hk,.of hr0 q⟩⟩⟩
 | sever x y a we=>refine cT hz rfl (by decide) rfl (aW ?_);refine cT hz rfl (by decide) rfl (aW ?_);refine cT hz rfl (by decide) rfl (aW ?_);refine cT hz rfl (by decide) rfl (aW ?_);refine cT hz rfl (by decide) rfl (aW ?_);refine cT hz rfl (by decide) rfl (aW ?_);refine cT hz rfl (by decide) rfl (aW ?_);refine cT hz rfl (by decide) rfl (aW ?_);refine⟨_,Z,z,_,_,_,Z,Z,hz,aB (j:=0) rfl,Z,_,Z,cI (λ_=>?_) (λc=>absurd (br rfl) c)⟩;refine⟨_,Z,A.a,A.dx,_,Z,hh.h.oa,Z,_,Z,z,_,_,_,Z,Z,hz,aB (j:=1) rfl,_,Z,z,_,_,_,Z,Z,hz,aB (j:=2) rfl,_,Z,z,_,_,_,Z,Z,hz,aB (j:=3) rfl,_,Z,z,_,_,_,Z,Z,hz,aB (j:=4) rfl,⟨⟨n,ρ,A,st,x,y,a,we,Z,hh,K2 (kX (show kC st x y a we=none from hr0)).2.1.1,by omega,by omega,.of hr0 q⟩⟩⟩
 | still=>refine cT hz rfl (by decide) rfl (aW ?_);refine cT hz rfl (by decide) rfl (aW ?_);refine cT hz rfl (by decide) rfl (aW ?_);refine cT hz rfl (by decide) rfl (aW ?_);refine cT hz rfl (by decide) rfl (aW ?_);refine cT hz rfl (by decide) rfl (aW ?_);refine cT hz rfl (by decide) rfl (aW ?_);refine cT hz rfl (by decide) rfl (aW ?_);refine cT hz rfl (by decide) rfl (aW ?_);exact q ρ A H hh rfl Fr.refl
abbrev x6:Stmt:=top 43
abbrev u6:List Str:=["_law_script","_law_k","_law_hold","_law_model_here","_law_names_here","_law_many"]
abbrev Ru:List Str:=u6.append ["_law_at_here","_law_deed_here"]
theorem x8:aP Ru u6 (aC x6):=di
theorem NZ{T:TC}(F:At K mg "_law_run" x6 f fd)(x9:Dn P w K mg base 4 "_law_deed" tF (TL K))(sf:Dn P w K mg base 6 "_law_hold_do" nE (LG T K))(qX:Dn P w K mg base 5 "_law_model_do" l9 (xC AlL K))(cC:mg "range"=none):Dn P w K mg base 7 "_law_run" u6 (T4 T K):=by
 refine F.oA x8 λcdv A outer s H vs Q E hr h=>?_;obtain⟨⟨n,m,c,kn,ρ,A,B,st,b,a,ln,ns,k,nms,many,rfl,nm,hh,hb,gd,gw,pu,hc,hm,ho,fS,h63,hk0,hk1,fN,nx,hnl,q⟩⟩:=h;refine⟨_,(@c5.h _ _ _ (au (fq fM rfl (gZ (by rfl) cC (af (qv 5) aq)) (aS (i:=6) x8.nd) (aj (aQ (i:=7) x8.nd (bH x9 hr (af (qv 0) (af (aG cE (qv 1) (qv 6)) (af (qv 3) (af (qv 4) aq))))))
  (aj (cg (bH sf hr (af (qv 2) (af (qv 7) aq))))
  (au (cg (bH qX hr (af (qv 3) (af (qv 7) aq)))))))))),?_⟩
 refine⟨_,Z,_,Z,by omega,by omega,?_⟩;refine i9 (lo:=0) (n:=((many:Nat):Int).toNat) (λi σ H'=>∃ρ' A' B' st' b' s6 s7,σ=[some (.ref a),some (.int k),some (.ref A.a),some (.ref B.m),some (.ref ln),some (.int (many:Int)),s6,s7]/\HH T n ρ' A' H' st'/\bg m ρ' B' H' b'/\fK (c+i) st' b'/\GW (c+i) (kn+100*i) st'/\Em (c+i) st' b'/\A'.a=A.a/\B'.m=B.m/\b'.own=b.own/\Nx nms st'/\aN (out ρ H) (out ρ' H'))
  ⟨ρ,A,B,st,b,_,_,Z,hh,hb,gd,gw,pu,Z,Z,Z,nx,aN.refl _⟩ ?_ ?_
 .rintro i σ H1 hi ⟨ρ1,A1,B1,st1,b1,s6,s7,rfl,g_,hb1,Cj,zX,pu1,ea,em,eo,Xj,o1⟩;have hi:i<many:=by omega
  have e0:(0:Int)+(i:Int)=((i:Nat):Int):=by omega
  rw[e0];have Ug:st1.own.length<100:=by rw[Cj.rel.own,eo,<-gd.rel.own];exact ho
  have kn1:=zX.kn;have pl1:=Xj.pl g_.wf;have kl1:=zX.g.kl;have al1:=zX.g.al;refine⟨_,Z,_,Z,_,Z,_,_,Z,Z,_,Z,_,Z,⟨⟨a,B.m,ln,ns,k+i,nms,c+i,st1,Z,fS _ _ o1,h63,by omega,by omega,by rw[<-em];exact hb1.q Cj,fN _ _ o1,Xj,by omega,g_.wf,zX.g,by omega,λz d H2 g2 hz hd=>?_⟩⟩⟩;obtain⟨d1,d2,d3,d4⟩:=hd;refine⟨_,Z,_,Z,⟨⟨n,c+i,ρ1,A1,st1,z,d,by rw[ea];rfl,dU.of hz,g_.mono g2,zX.g,by omega,by omega,Ug,d1,λρ3 A3 H3 kI Xd F3=>?_⟩⟩⟩;have hb3:=(hb1.mono g2).other F3 (g_.g.same g2) (cO nm);have hz3:H3 z=some (.tup d.v):=(F3 z _ hz (λt w e=>by rw[(g_.g.same g2).tup hz]at e;cases e)).1;have gd2:=adA Cj zX.g g_.wf (by omega) (by omega) d1 d2 d4 (by rw[<-Cj.rel.len];omega) (by rw[<-Cj.eF];omega);refine⟨_,Z,_,Z,⟨⟨m,c+i,ρ3,B1,b1,st1,z,d,by rw[em];rfl,hz3,kI.g,hb3,Cj,by omega,g_.wf,⟨d4,⟨c+i,zX.g,by omega⟩,by omega,by omega,by omega⟩,d2,d1,λρ4 B4 H4 G4 Xk em4 F4=>?_⟩⟩⟩;exact⟨ρ4,A3,B4,_,_,_,_,Z,kI.other F4 G4 nm,Xk,gd2,zX.do (by omega) (by omega) Ug d1 d2.g,adC (c:=c+i) pu1 Cj zX.g g_.wf (by omega) d1 d4,Xd.trans ea,em4.trans em,(Tv _ _).trans eo,d3,((o1.trans (rG g2)).trans F3.out).trans F4.out⟩
 rintro σ H1 ⟨ρ1,A1,B1,st1,b1,s6,s7,rfl,g_,hb1,Cj,zX,pu1,ea,em,eo,Xj,o1⟩;rw[t7]at Cj zX pu1;exact q ρ1 A1 B1 st1 b1 H1 g_ hb1 Cj zX pu1 ea em eo Xj o1
abbrev pM:Stmt:=top 45
abbrev jV:List Str:=["_law_model_here","_law_owner"]
abbrev EK:List Str:=jV.append ["_law_seat_here"]
theorem wI:aP EK jV (aC pM):=di
theorem CZ(F:At K mg "_law_stake_of" pM f fd)(dH:Dn P w K mg base 1 "_law_seat" je (yh K))(eU:mg "sum"=none):Dn P w K mg base 2 "_law_stake_of" jV (AS K):=by
 refine F.oA wI λcdv A outer s H vs Q E hr h=>?_;obtain⟨⟨n,c,ρ,B,b,st,o,rfl,h,gd,hc,ho,q⟩⟩:=h;refine⟨_,(@c5.h _ _ _ (aj (aQ (i:=2) wI.nd (bH dH hr (af (bR (bX hr) (qv 0) aT) (af (qv 1) aq))))
  (au (bw (bh (i_ K rfl) (by rfl) eU tZ (af (iw ["_law_part","_law_seat_here"] [none,some 2] rfl (c_ K (bR (bX hr) (qv 0) aT)) (λ_ _ _ _=>(aS (i:=0) (show List.Nodup (["_law_part","_law_seat_here"] :List Str)from by decide +kernel))) (λ_ _ _ _=>(aG eW (aF (aO K) (qv 0) ai) (aF (aO K) (aF (aO K) (qv 0) ai) (qv 1)))) rfl (by rfl)) aq)))))),?_⟩
 have wb:=gd.fT;have ol:=wb.ol;have pl:=wb.pl;have A_:(B.qs.map λq=>V.ref q.1).length=b.ah.length:=by rw[aE];exact h.ql
 have hj:=lR ho;refine⟨_,Z,B.m,_,Z,cJ.k (k:=Sum.inr "owners") h.om,_,Z,⟨⟨B.lo,b.own,o,Z,aD.of h.oo,ho,by omega,?_⟩⟩⟩;generalize b.own.idxOf o=j at *;refine⟨_,Z,B.m,_,Z,cJ.k (k:=Sum.inr "parts") h.om,B.lp,Z,⟨_,aD.of h.op⟩,λl0 fV=>?_⟩;refine iD (J:=uK K B.lp) (n:=b.ah.length) 0 (λi o H'=>aN H H'/\o=((b.ah.take i).map (λp:BP=>p.wo*p.tops.getD j 0)).map V.int) (by omega) ⟨aI fV _,Z⟩ (λi o H' hi _ hp=>⟨_,_,aD.of (hp.1 _ _ h.op),a_ (by rw[A_];exact hi)⟩) (λo H' _ hp=>⟨_,aD.of (hp.1 _ _ h.op),by rw[A_];exact aL _⟩) ?_ ?_
 .rintro i y o H2 H3 hi fh ha ⟨g,e⟩ ⟨rfl,hy⟩;have ei:=a_ hi;generalize b.ah[i]=p at ei;have pm:=aY ei;obtain⟨qq,eq,k1,k2,_,_⟩:=h.find ei;have ey:=hy _ (aD.of (g _ _ h.op));rw[bQ,eq]at ey;cases ey;have tj:j<p.tops.length:=by rw[wb.tl p pm];exact hj
  have t0:=wb.t0 p pm _ (HX tj);have zw:Jm.Sz 60 p.wo:=by have w1:=wb.w1 p pm;exact((gd.whole (by omega)).2).of_le (by have:p.wo<=bN b:=(yo λx hx=>by obtain⟨q,hq,rfl⟩:=aX.mp hx;have:=wb.w1 q hq;omega).2 _ (aX.mpr ⟨p,pm,Z⟩);omega)
  refine⟨_,Z,qq.1,_,_,_,Z,Z,aD.of (g _ _ k1),aB (j:=2) rfl,_,Z,qq.1,_,_,_,Z,Z,aD.of (g _ _ k1),aB (j:=4) rfl,_,Z,qq.2,_,_,_,Z,Z,aD.of (g _ _ k2),getD_at tj,_,_,Z,Z,d9 zw (wb.bz.of_le (by omega)),ha,g.cA fV _,?_⟩;subst e;rw[take_snoc ei,bL,bL];rfl
 rintro o1 H1 _ ha ⟨g1,e⟩;rw[cM]at e;subst e;exact⟨l0,_,Z,aD.of ha,q H1 g1⟩
abbrev qY:Stmt:=top 50
abbrev nF:List Str:=["_law_model_here","_law_owner"]
abbrev Gs:List Str:=nF
theorem EL:aP Gs nF (aC qY):=di
theorem EM(F:At K mg "_law_kept_of" qY f fd)(eU:mg "sum"=none):Dn P w K mg base 1 "_law_kept_of" nF (LO K):=by
 refine F.oA EL λcdv A outer s H vs Q E hr h=>?_;obtain⟨⟨n,ρ,B,b,o,rfl,h,al,q⟩⟩:=h;refine⟨_,(@c5.h _ _ _ (au (bw (bh (i_ K rfl) (by rfl) eU tZ (af (vK ["_law_part","_law_owner"] [none,some 1] rfl (c_ K (bR (bX hr) (qv 0) aT)) (λ_ _ _ _=>(aS (i:=0) (show List.Nodup (["_law_part","_law_owner"] :List Str)from by decide +kernel))) (λ_ _ _ _=>(aF (aO K) (qv 0) ai)) (λ_ _ _ _=>(aU dJ (aF (aO K) (qv 0) ai) (qv 1) (bq _))) rfl (by rfl)) aq))))),?_⟩;obtain⟨vs,hv,hA⟩:=h.oa;have vl:=hA.length;refine⟨_,Z,B.m,_,Z,cJ.k (k:=Sum.inr "ashore") h.om,B.la,Z,⟨_,aD.of hv⟩,λl0 fV=>?_⟩;refine FD (J:=uK K B.la) (n:=vs.length) 0 (λi out H'=>aN H H'/\out=(((b.bD.take i).filter λe:BE=>decide (e.ow=o)).map λe:BE=>e.wo).map V.int) (by omega) ⟨aI fV _,Z⟩ (λi o H' hi _ hp=>⟨_,_,aD.of (hp.1 _ _ hv),a_ hi⟩) (λo H' _ hp=>⟨_,aD.of (hp.1 _ _ hv),aL _⟩) ?_ ?_
 .rintro i y out H2 H3 hi fh ha ⟨g,e⟩ ⟨rfl,hy⟩;obtain⟨r,t,x,rfl,ex,r1,_⟩:=hA.get (hy _ (aD.of (g _ _ hv)));have r1:=g _ _ r1;have es:(b.bD.take (i+1)).filter (λe:BE=>decide (e.ow=o))=(b.bD.take i).filter (λe:BE=>decide (e.ow=o))++(if x.ow=o then[x] else[]):=by
   rw[take_snoc ex,Qo];by_cases c:x.ow=o
   .rw [ay c,Qf (by exact br c)];rfl
   .rw [av c,List.filter_cons_of_neg (by simpa using c)];rfl
  refine⟨_,Z,r,_,_,_,Z,Z,aD.of r1,aB (j:=1) rfl,_,Z,Z,_,Z,cI (λc=>?_) (λc=>?_)⟩
  .have c':x.ow=o:=V.str.inj (dW c);rw[ay c']at es;refine⟨_,Z,r,_,_,_,Z,Z,aD.of r1,aB (j:=2) rfl,ha,g.cA fV _,?_⟩;rw[es,e,bL,bL];rfl
  .have c':x.ow≠o:=λz=>c (br (by rw[z]));rw[av c',sJ]at es;exact⟨ha,g,by rw[es,e]⟩
 rintro o1 H1 _ ha ⟨g1,e⟩;rw[vl,cM]at e;subst e;exact⟨l0,_,Z,aD.of ha,q H1 g1⟩
abbrev pN:Stmt:=top 49
abbrev l_:List Str:=["_law_model_here","_law_owner"]
abbrev EN:List Str:=l_.append ["_law_seat_here","_law_top","_law_bottom","_law_part","_law_gets"]
theorem ff:aP EN l_ (aC pN):=di
theorem C0(F:At K mg "_law_purse_of" pN f fd)(dH:Dn P w K mg base 1 "_law_seat" je (yh K))(bV:mg "len"=none)(qT:mg "min"=none):Dn P w K mg base 2 "_law_purse_of" l_ (Ia K):=by
 refine F.oA ff λcdv A outer s H vs Q E hr h=>?_;obtain⟨⟨n,m,ρ,B,b,o,rfl,h,ho,ol,al,hm,bz,tz,tl,q⟩⟩:=h;refine⟨_,(@c5.h _ _ _ (aj (aQ (i:=2) ff.nd (bH dH hr (af (bR (bX hr) (qv 0) aT) (af (qv 1) aq))))
  (aj (aQ (i:=3) ff.nd ai)
  (aj (aQ (i:=4) ff.nd ai)
  (aj (fq fM rfl (c_ K (bR (bX hr) (qv 0) aT)) (aS (i:=5) ff.nd) (aj (aQ (i:=6) ff.nd (aG eW (aF (aO K) (qv 5) ai) (aF (aO K) (aG R4 (aF (aO K) (qv 5) ai) (ie (af ai aq))) (bh (wZ rfl) (by rfl) qT JW (af (qv 2) (af (bh (cU K) (by rfl) bV eY (af (aF (aO K) (qv 5) ai) aq)) aq))))))
  (aj (ig (aU dJ (aF (aO K) (qv 5) ai) (qv 1) (bq _)) (au (aQ (i:=6) ff.nd (aG jL (qv 6) (aG eW (aF (aO K) (qv 5) ai) (aF (aO K) (qv 5) ai))))) bP)
  (aj (aQ (i:=3) ff.nd (aG cE (aG eW (qv 3) (aF (aO K) (qv 5) ai)) (aG eW (qv 6) (qv 4))))
  (au (aQ (i:=4) ff.nd (aG eW (qv 4) (aF (aO K) (qv 5) ai))))))))
  (au (bw (iS (af (qv 3) (af (qv 4) aq)))))))))),?_⟩
 obtain⟨vs,hv,hA⟩:=h.oa;have vl:=hA.length;refine⟨_,Z,B.m,_,Z,cJ.k (k:=Sum.inr "owners") h.om,_,Z,⟨⟨B.lo,b.own,o,Z,aD.of h.oo,ho,by omega,?_⟩⟩⟩;generalize b.own.idxOf o=j at *;refine⟨_,Z,B.m,_,Z,cJ.k (k:=Sum.inr "ashore") h.om,B.la,Z,⟨_,aD.of hv⟩,?_⟩;refine jY (K:=K) (xs:=vs) (λi σ H'=>aN H H'/\∃s5 s6,σ=[some (.ref B.m),some (.str o),some (.int (j:Int)),some (.int (gr (b.bD.take i) o j).1),some (.int (gr (b.bD.take i) o j).2),s5,s6]) ⟨aN.refl _,_,_,Z⟩ (λi σ H' _ hp=>aD.of (hp.1 _ _ hv)) ?_ ?_
 .rintro i y σ H1 hy ⟨g1,s5,s6,rfl⟩;obtain⟨r,t,e,rfl,ee,r1,r2⟩:=hA.get hy;have em:=aY ee;obtain⟨z1,z2⟩:=bz e em;obtain⟨y1,y2⟩:=tz e em;have lt:=tl e em;have r1:=g1 _ _ r1;have r2:=g1 _ _ r2;have sub:∀x∈b.bD.take i,x∈b.bD:=λx hx=>List.mem_of_mem_take hx;have nz:=LN (o:=o) (j:=j) (λx hx=>bz x (sub x hx)) (λx hx=>tz x (sub x hx));have dz:=(LL (o:=o) (j:=j) (λx hx=>bz x (sub x hx))).1;have il:(b.bD.take i).length<=100:=by rw[t8];omega
  have nz:Jm.Sz 1100000 (gr (b.bD.take i) o j).1:=nz.mono (by have:=Nat.mul_le_mul il (show m+63<=10063 by omega);omega);have dz:Jm.Sz 1100000 (gr (b.bD.take i) o j).2:=dz.mono (by have:=Nat.mul_le_mul il hm;omega);have es:gr (b.bD.take (i+1)) o j=ny o j (gr (b.bD.take i) o j) e:=by rw[take_snoc ee];exact HZ _ _ _ _
  rw[es];generalize gr (b.bD.take i) o j=tb at *;obtain⟨tz1,gz⟩:=PD (o:=o) (j:=j) z1 z2 y1 y2;refine⟨_,Z,r,_,_,_,Z,Z,aD.of r1,aB (j:=2) rfl,_,Z,r,_,_,_,Z,Z,aD.of r1,aB (j:=3) rfl,(iM 1),λp1 hp1=>?_⟩;have g2:=aI hp1 (.lst [.int 0]);have h2:upd H1 p1 (.lst [.int 0]) p1=some (.lst [.int 0]):=ak;show ZS _ _ (upd H1 p1 (.lst [.int 0])) _;generalize upd H1 p1 (.lst [.int 0])=H2 at *;refine⟨t,p1,_,_,Z,Z,g2 _ _ r2,h2,(by rw[aE];exact Bf (dF (by show e.tops.length+1<=1000;omega))),λp3 hp3=>?_⟩;have ec:e.tops.map V.int++[V.int 0]=(e.tops++[0]).map V.int:=by rw[bL];rfl
  rw[ec];have g3:=aI hp3 (.lst ((e.tops++[0]).map V.int));have h3:upd H2 p3 (.lst ((e.tops++[0]).map V.int)) p3=some (.lst ((e.tops++[0]).map V.int)):=ak;have g13:=(g1.trans g2).trans g3;have PV:=g3 _ _ (g2 _ _ r1);have r23:=g3 _ _ (g2 _ _ r2);show Wy _ _ _ (upd H2 p3 (.lst ((e.tops++[0]).map V.int))) _;generalize upd H2 p3 (.lst ((e.tops++[0]).map V.int))=H3 at *;refine⟨_,Z,_,Z,r,_,_,_,Z,Z,aD.of PV,aB (j:=3) rfl,t,_,Z,.inl (aD.of r23),_,_,Z,p3,_,_,_,Z,Z,aD.of h3,(by rw[aE];exact abh),_,_,Z,Z,d9 (y2.2.mono (show 60<=100 by omega)) (tz1.mono hm),?_⟩;show lU 6 (.int (e.wo*e.tops.getD j 0)) _ _ _;refine⟨λσ H'=>H'=H3/\σ=[some (.ref B.m),some (.str o),some (.int (j:Int)),some (.int tb.1),some (.int tb.2),some (.ref r),some (.int (xD o j e))],?_,?_⟩
  .refine ⟨_,Z,r,_,_,_,Z,Z,aD.of PV,aB (j:=1) rfl,_,Z,Z,_,Z,cI (λc=>?_) (λc=>?_)⟩
   .have c':e.ow=o:=V.str.inj (dW c);refine⟨_,Z,_,Z,r,_,_,_,Z,Z,aD.of PV,aB (j:=2) rfl,_,Z,r,_,_,_,Z,Z,aD.of PV,aB (j:=4) rfl,_,_,Z,Z,d9 (y2.2.mono (show 60<=100 by omega)) (z1.mono hm),_,_,Z,Z,Z,?_⟩;unfold xD;rw[ay c'];rfl
   .have c':e.ow≠o:=λz=>c (br (by rw[z]));refine⟨Z,?_⟩;unfold xD;rw[av c',wW];rfl
  rintro σ H4 ⟨rfl,rfl⟩;refine⟨_,Z,_,Z,r,_,_,_,Z,Z,aD.of PV,aB (j:=4) rfl,_,_,Z,Z,d9 nz (z1.mono hm),_,Z,_,Z,_,_,Z,Z,d9 (gz.mono (show m+61<=10061 by omega)) dz,_,_,Z,Z,?_⟩;show lU 3 (.int (tb.1*e.bot+xD o j e*tb.2)) _ _ _;exact⟨_,Z,_,Z,r,_,_,_,Z,Z,aD.of PV,aB (j:=4) rfl,_,_,Z,Z,d9 dz (z1.mono hm),g13,_,_,Z⟩
 rintro σ H1 ⟨g1,s5,s6,rfl⟩;rw[vl,cM];refine⟨_,Z,_,Z,(iM 2),λp hp=>q p _ (g1.trans (aI hp _)) ak⟩
abbrev sj:Stmt:=top 51
abbrev oQ:List Str:=["_law_hold","_law_model_here"]
abbrev I0:List Str:=oQ.append ["_law_owner","_law_due","_law_top"]
theorem nG:aP I0 oQ (aC sj):=di
theorem Gu{T:TC}(F:At K mg "_law_purses" sj f fd)(mV:Dn P w K mg base 2 "_law_is" tU QL)(qZ:Dn P w K mg base 2 "_law_purse_of" l_ (Ia K))(iO:Dn P w K mg base 2 "_law_stake_of" jV (AS K))(sr:Dn P w K mg base 1 "_law_kept_of" nF (LO K))(wJ:Mn P w K mg base 3 T.hold "purse" qM (Pz T))(su:Mn P w K mg base 3 T.hold "fortune" nD (TV T)):Dn P w K mg base 5 "_law_purses" oQ (LP T K):=by
 refine F.oA nG λcdv A outer s H vs Q E hr h=>?_;obtain⟨⟨n,m,c,ρ,A,B,st,b,rfl,hh,hb,gd,pu,gg,hc,q⟩⟩:=h;refine⟨_,(@c5.h _ _ _ (aj (fq fM rfl (c_ K (bR (bX hr) (qv 1) aT)) (aS (i:=2) nG.nd) (aj (aQ (i:=3) nG.nd (bH qZ hr (af (qv 1) (af (qv 2) aq))))
  (aj (cX (nX (lC (bH mV hr (af (bZ wJ hr (qv 0) (af (qv 2) aq)) (af (aF (aV K) (qv 3) ai) (af (aF (aV K) (qv 3) ai) aq)))))) (au (bw uY)) bP)
  (aj (aQ (i:=4) nG.nd (aG eW (aG cE (bH iO hr (af (qv 1) (af (qv 2) aq))) (aG eW (bH sr hr (af (qv 1) (af (qv 2) aq))) (bR (bX hr) (qv 1) aT))) (aF (aV K) (qv 3) ai)))
  (au (cX (nX (lC (bH mV hr (af (bZ su hr (qv 0) (af (qv 2) aq)) (af (aG cE (qv 4) (aG eW (aF (aV K) (qv 3) ai) (bR (bX hr) (qv 1) aT))) (af (aG eW (aF (aV K) (qv 3) ai) (bR (bX hr) (qv 1) aT)) aq)))))) (au (bw uY)) bP))))))
  (au (bw uY)))),?_⟩
 have wb:=gd.fT;have wf:=hh.wf;have H_:=gd.rel.own;have ok:=gg.st pu.mo wf (by omega);have P0:0<st.prod:=by have:=wf.fH;omega
 have b0:0<b.bot:=by have:=wb.b1;omega
 have tl:∀e∈b.bD,e.tops.length<=b.own.length:=λe he=>by obtain⟨i,hi,ei⟩:=oV he;have l:=gd.bD.length;exact(gd.bD.get (a_ (show i<st.bD.length by omega)) (by rw[a_ hi,ei])).2.2.2.2.1
 have al:=pu.al;refine⟨_,Z,B.m,_,Z,cJ.k (k:=Sum.inr "owners") hb.om,B.lo,Z,⟨_,aD.of hb.oo⟩,?_⟩;refine jY (K:=K) (xs:=b.own.map V.str) (λi σ H'=>aN H H'/\∃s2 s3 s4,σ=[some (.ref A.a),some (.ref B.m),s2,s3,s4]) ⟨aN.refl _,_,_,_,Z⟩ (λi σ H' _ hp=>aD.of (hp.1 _ _ hb.oo)) ?_ ?_
 .rintro i y σ H1 hy ⟨g1,s2,s3,s4,rfl⟩;rw[bQ]at hy;obtain⟨o,eo,rfl⟩:=mj.mp hy;have ho:=aY eo;have hoS:o∈st.own:=by rw[H_];exact ho
  have hj:=lR hoS;have R:=pu.rel o hoS;have S:=AR gd wf hj;have zs:=T5 gd gg wf (by omega) hj;have zl:=ok.la o;have kr:=V3 gd.bD o;have ef:yq st o=BK b o:=kr;rw[ef]at zl;obtain⟨dz,d0⟩:=LL (o:=o) (j:=b.own.idxOf o) pu.bz;have nz:=LN (o:=o) (j:=b.own.idxOf o) pu.bz pu.tz;have c1:=Nat.mul_le_mul al (show 60*c+1<=661 by omega);have c2:=Nat.mul_le_mul al (show 60*c+1+63<=724 by omega);refine⟨_,Z,_,Z,⟨⟨m,60*c+1,ρ,B,b,o,Z,hb.mono g1,ho,wb.ol,by omega,by omega,pu.bz,pu.tz,tl,λr H2 g2 hr=>?_⟩⟩⟩;have e1:LH st o=Jm.fr (gr b.bD o (b.own.idxOf o)).1 (gr b.bD o (b.own.idxOf o)).2:=by unfold LH;rw[H_]at R ⊢;exact Jm.DG P0 d0 R
  have e2:Q9 st o=Jm.fr ((tR b (b.own.idxOf o)+BK b o*b.bot)*(gr b.bD o (b.own.idxOf o)).2+(gr b.bD o (b.own.idxOf o)).1*b.bot) ((gr b.bD o (b.own.idxOf o)).2*b.bot):=by
   unfold Q9;refine Jm.DG P0 (wX d0 b0) ?_;rw[ef];rw[H_]at R S ⊢;generalize lE st (b.own.idxOf o)=x at *;generalize st.bK.getD (b.own.idxOf o) 0=u at *;generalize (gr b.bD o (b.own.idxOf o)).2=B2 at *;generalize (gr b.bD o (b.own.idxOf o)).1=B1 at *;generalize tR b (b.own.idxOf o)=sb at *;generalize BK b o=kb at *;have a1:(x+u+kb*st.prod)*(B2*b.bot)=B2*(x*b.bot)+b.bot*(u*B2)+kb*st.prod*B2*b.bot:=by grind
   rw[a1,S,R];grind
  rw[H_]at zs;generalize gr b.bD o (b.own.idxOf o)=tb at *;have Ie:=g1.trans g2;have mO:=hh.mono Ie;refine⟨_,Z,A.a,A.dx,_,Z,mO.h.oa,Z,_,Z,⟨⟨n,ρ,A,st,o,Z,mO.h,wf,hoS,λr3 H3 g3 h3=>?_⟩⟩⟩;have Ud:=g3 _ _ hr;refine⟨_,Z,r,_,_,_,Z,Z,dU.of Ud,aB (j:=0) rfl,_,Z,r,_,_,_,Z,Z,dU.of Ud,aB (j:=1) rfl,KI h3 d0 (dz.mono (by omega)) e1 λH4 g4=>⟨_,Z,aW ?_⟩⟩;have g14:=(Ie.trans g3).trans g4;refine⟨_,Z,_,Z,⟨⟨m,c,ρ,B,b,st,o,Z,hb.mono g14,gd,by omega,ho,λH5 g5=>⟨_,Z,_,Z,⟨⟨m,ρ,B,b,o,Z,hb.mono (g14.trans g5),by omega,λH6 g6=>?_⟩⟩⟩⟩⟩⟩;have g46:=g5.trans g6;have g16:=g14.trans g46;have PX:=hb.mono g16;have PF:=g46 _ _ (g4 _ _ Ud);have zk:Jm.Sz (60*c+61) (BK b o*b.bot):=(zl.mul gd.bot).mono (by omega);have cB:Jm.Sz 1000 b.bot:=gd.bot.mono (by omega);have cN:Jm.Sz 9000 tb.1:=nz.mono (by omega);have cD:Jm.Sz 9000 tb.2:=dz.mono (by omega);refine⟨_,Z,B.m,_,Z,cJ.k (k:=Sum.inr "bottom") PX.om,_,_,Z,Z,d9 zl cB,_,_,Z,Z,_,Z,r,_,_,_,Z,Z,dU.of PF,aB (j:=1) rfl,_,_,Z,Z,d9 ((zs.add zk).mono (show _<=1000 by omega)) cD,?_⟩;show lU 4 (.int ((tR b (b.own.idxOf o)+BK b o*b.bot)*tb.2)) _ _ _;have tT:=hh.mono g16;refine⟨_,Z,A.a,A.dx,_,Z,tT.h.oa,Z,_,Z,⟨⟨n,ρ,A,st,o,Z,tT.h,ok,hoS,λr7 H7 g7 h7=>?_⟩⟩⟩;have hr7:=g7 _ _ PF;have hb7:=PX.mono g7;refine⟨_,Z,_,Z,r,_,_,_,Z,Z,dU.of hr7,aB (j:=0) rfl,_,Z,B.m,_,Z,cJ.k (k:=Sum.inr "bottom") hb7.om,_,_,Z,Z,d9 cN cB,_,_,Z,Z,_,Z,r,_,_,_,Z,Z,dU.of hr7,aB (j:=1) rfl,_,Z,B.m,_,Z,cJ.k (k:=Sum.inr "bottom") hb7.om,_,_,Z,Z,d9 cD cB,?_⟩;exact KI h7 (wX d0 b0) ((dz.mul gd.bot).mono (by omega)) e2 λH8 g8=>⟨_,Z,aW ⟨(g16.trans g7).trans g8,_,_,_,Z⟩⟩
 rintro σ H1 ⟨g1,s2,s3,s4,rfl⟩;exact q H1 g1
abbrev q_:Stmt:=top 52
abbrev Rv:List Str:=["_law_script"]
abbrev adF:List Str:=Rv.append ["_law_owners","_law_names_here","_law_hold","_law_model_here","_law_many","_law_again","_law_owner"]
theorem tX:aP adF Rv (aC q_):=di
theorem ab_{T:TC}(F:At K mg "law" q_ f fd)(bB:Dn P w K mg base 1 "_law_draw" iB (tH K))(rj:Dn P w K mg base 2 "_law_names" qP (Fy K))(wK:Dn P w K mg base 5 "_law_begin" qS (O5 T K))(wL:Dn P w K mg base 1 "_law_model" qR (Pa K))(u7:Dn P w K mg base 7 "_law_run" u6 (T4 T K))(uI:Dn P w K mg base 5 "_law_purses" oQ (LP T K))(mV:Dn P w K mg base 2 "_law_is" tU QL)(iO:Dn P w K mg base 2 "_law_stake_of" jV (AS K))(wM:Mn P w K mg base 3 T.hold "stake" qL (LI T))(cC:mg "range"=none):kj P w K mg base vj 8 f fd Rv (JP K):=by
 refine F.fn.ok tX (λvs H Q E h=>?_) (λcdv A outer s H vs Q E hr h=>?_)
 .obtain ⟨a,ns,rfl,_⟩:=h;rfl
 obtain⟨a,ns,rfl,hS,h63,q⟩:=h;refine⟨_,(@c5.h _ _ _ (aj (aQ (i:=1) tX.nd (bH rj hr (af (qv 0) (af ai (af (aG cE ai (bH bB hr (af (qv 0) (af ai (af ai (af ai aq)))))) aq)))))
  (aj (aQ (i:=2) tX.nd (bH rj hr (af (qv 0) (af ai (af ai aq)))))
  (aj (aQ (i:=3) tX.nd (bH wK hr (af (qv 1) aq)))
  (aj (aQ (i:=4) tX.nd (bH wL hr (af (qv 1) aq)))
  (aj (aQ (i:=5) tX.nd (bH bB hr (af (qv 0) (af ai (af ai (af ai aq))))))
  (aj (cg (bH u7 hr (af (qv 0) (af ai (af (qv 3) (af (qv 4) (af (qv 2) (af (qv 5) aq))))))))
  (aj (fq fM rfl (gZ (by rfl) cC (af ai aq)) (aS (i:=6) tX.nd) (aj (cX (nX (lC (bH uI hr (af (qv 3) (af (qv 4) aq))))) (au (bw uY)) bP)
  (aj (fq fM rfl (c_ K (qv 1)) (aS (i:=7) tX.nd) (au (cX (nX (lC (bH mV hr (af (bZ wM hr (qv 3) (af (qv 7) aq)) (af (bH iO hr (af (qv 4) (af (qv 7) aq))) (af (bR (bX hr) (qv 4) aT) aq)))))) (au (bw uY)) bP)))
  (au (cg (bH u7 hr (af (qv 0) (af (aG cE ai (qv 5)) (af (qv 3) (af (qv 4) (af (qv 2) (af ai aq))))))))))))
  (au (bw uY)))))))))),?_⟩
 refine⟨_,Z,_,Z,dw hS h63 (by decide) (by decide) (by decide) (by decide) λod _ o0 o1=>⟨_,_,Z,Z,?_⟩⟩;obtain⟨no,hno⟩:∃no:Nat,1+od=(no:Int):=⟨(1+od).toNat,by omega⟩
 refine Hh hno hS h63 (by decide) (by omega) λzo nso H1 g1 hzo _ ajg acd ace=>?_;have hS1:=g1.seq hS;refine⟨_,Z,Hh (show(6:Int)=((6:Nat):Int)from rfl) hS1 h63 (by decide) (by decide) λzn nsn H2 g2 EG _ ajh acg ach=>?_⟩;have Ij:=g2.seq hS1;have MC:=g2 _ _ hzo;rw[Yb]at MC EG;have fh:=O6 nso;have hnl:=O6 nsn;have um:=Ht acd;have Wd:=SR ace;have nmN:=Ht acg;have agy:=SR ach;generalize D7 nso=own at *;generalize D7 nsn=nms at *;clear acd ace acg ach hzo;refine⟨_,Z,⟨⟨zo,own,0,λ_=>none,Z,aD.of MC,Z,um,λo ho=>(Wd o ho).isNm,by omega,(λb c e=>by cases e),λρ3 A3 H3 kI F3=>?_⟩⟩⟩;have o3:aN (out (λ_=>none) H2) (out ρ3 H3):=F3.out;have hx3:=kI;refine⟨_,Z,⟨⟨zo,own,1,ρ3,Z,F3.seq (aD.of MC) rfl,kI.g,by omega,λρ4 B4 H4 G4 Xk k4=>?_⟩⟩⟩;have F4:Fr 1 ρ3 H3 ρ4 H4:=λb o e _=>k4 b o e;have qF:=kI.other F4 G4 (by decide);have o4:=o3.trans F4.out;have fS:=(yi.of Ij).go o4;have fN:=(yi.of (aD.of (K:=K) EG)).go o4;have hS4:=fS _ _ (aN.refl _);obtain⟨Xl,en4⟩:=gd0 (own:=own) (by omega) (by omega) (λo ho=>(Wd o ho).isNm);have gw4:=gw0 um (by omega) (by omega) (λo ho=>(Wd o ho).isNm);have nx4:Nx nms (kD own):=aa9 nmN (λx hx=>(agy x hx).isNm);have eo4:=YI own;have qF:HH T 0 ρ4 A3 H4 (kD own):=qF;have Xl:fK 0 (kD own) ⟨own,[],1,[],[]⟩:=Xl;have fO:=(yi.of (aD.of (K:=K) MC)).go o4;have pu4:Em 0 (kD own) ⟨own,[],1,[],[]⟩:=pu0 own;generalize kD own=st4 at *;obtain⟨x,eA⟩:∃x,A3.a=x:=⟨_,rfl⟩
 rw[eA];refine⟨_,Z,dw hS4 h63 (by decide) (by decide) (by decide) (by decide) λmd _ m0 m1=>?_⟩;obtain⟨many,adG⟩:∃many:Nat,md=(many:Int):=⟨md.toNat,by omega⟩
 subst adG;refine⟨_,Z,_,Z,_,Z,_,Z,_,Z,⟨⟨0,1,0,0,ρ4,A3,B4,st4,_,a,zn,ns,4,nms,many,by rw[eA];rfl,by decide,qF,Xk,Xl,gw4,pu4,by omega,by omega,by rw[eo4];omega,fS,h63,by decide,by decide,fN,nx4,by omega,λρ5 A5 B5 Ad b5 H5 Ib hb5 gd5 gw5 pu5 ea5 zV Xm nx5 o5=>?_⟩⟩⟩;rw[Nat.zero_add]at gd5 gw5 pu5;have fS5:=fS.go o5;have fN5:=fN.go o5;have fO5:=fO.go o5;have Xm:b5.own=own:=Xm;rw[eA]at ea5;generalize B4.m=mm at *;clear qF Xk Xl gw4 pu4 kI k4 F4 F3 o3 o4 EG MC Ij hS1 hS hS4 fN fS fO o5 G4 g1 g2 eA nx4;refine⟨_,Z,by omega,by omega,?_⟩;refine i9 (lo:=0) (n:=((2:Int)).toNat) (λi σ H'=>∃ρ' A' B' st' b' s6 s7,σ=[some (.ref a),some (.ref zo),some (.ref zn),some (.ref x),some (.ref mm),some (.int (many:Int)),s6,s7]/\HH T 0 ρ' A' H' st'/\bg 1 ρ' B' H' b'/\fK (many+i) st' b'/\GW (many+i) (1000+100*i) st'/\Em (many+i) st' b'/\A'.a=x/\B'.m=mm/\b'.own=own/\Nx nms st'/\yi K ρ' H' a (ns.map V.int)/\yi K ρ' H' zn (nms.map V.str)/\yi K ρ' H' zo (own.map V.str))
  ⟨ρ5,A5,B5,Ad,b5,_,_,Z,Ib,hb5,gd5,gw5.up 0 (by omega),pu5,ea5,zV,Xm,nx5,fS5,fN5,fO5⟩ ?_ ?_
 .clear Ib hb5 gd5 gw5 pu5 ea5 zV Xm nx5 fS5 fN5 fO5;rintro i σ H6 hi ⟨ρ6,A6,B6,PY,b6,s6,s7,rfl,tT,PX,Ik,gw6,pu6,Ut,Uu,eb6,nx6,fS6,fN6,fO6⟩;have hi:i<2:=by omega
  have e0:(0:Int)+(i:Int)=((i:Nat):Int):=by omega
  rw[e0];have es6:=Ik.rel.own.trans eb6;refine⟨_,Z,_,Z,⟨⟨0,1,many+i,ρ6,A6,B6,PY,b6,by rw[Ut,Uu];rfl,tT,PX,Ik,pu6,gw6.g,by omega,λH7 g7=>⟨_,Z,aW ?_⟩⟩⟩⟩;refine⟨_,Z,zo,Z,⟨_,fO6 _ _ (rG g7)⟩,?_⟩;refine jY (K:=K) (xs:=own.map V.str) (λk σ H'=>aN H6 H'/\∃s7,σ=[some (.ref a),some (.ref zo),some (.ref zn),some (.ref x),some (.ref mm),some (.int (many:Int)),some (.int (i:Int)),s7]) ⟨g7,_,Z⟩ (λk σ H' _ hp=>fO6 _ _ (rG hp.1)) ?_ ?_
  .rintro k y σ H8 hy ⟨g8,s7,rfl⟩;rw[bQ]at hy;obtain⟨o,eo,rfl⟩:=mj.mp hy;have ho:=aY eo;have hoS:o∈PY.own:=by rw[es6];exact ho
   have hoB:o∈b6.own:=by rw[eb6];exact ho
   have hj:=lR hoS;have Uc:=tT.mono g8;have ok:=gw6.g.st pu6.mo tT.wf (by omega);refine⟨_,Z,x,A6.dx,_,Z,by rw[<-Ut];exact Uc.h.oa,Z,_,Z,⟨⟨0,ρ6,A6,PY,o,by rw[Ut];rfl,Uc.h,ok,hoS,λr H9 g9 hr=>?_⟩⟩⟩;have Ic:=PX.mono (g8.trans g9);refine⟨_,Z,_,Z,⟨⟨1,many+i,ρ6,B6,b6,PY,o,by rw[Uu];rfl,Ic,Ik,by omega,hoB,λDN g10=>?_⟩⟩⟩;have om:DN mm=some (.dK (f_ B6 b6.bot)):=by rw[<-Uu];exact(Ic.mono g10).om
   refine⟨_,Z,mm,_,Z,cJ.k (k:=Sum.inr "bottom") om,?_⟩;have P0:0<PY.prod:=by have:=tT.wf.fH;omega
   have b0:0<b6.bot:=by have:=Ik.fT.b1;omega
   refine KI (g10 _ _ hr) b0 (Ik.fT.bz.mono (by omega)) ?_ λH11 Ub=>⟨_,Z,aW ⟨((g8.trans g9).trans g10).trans Ub,_,Z⟩⟩
   unfold TR;rw[<-Ik.rel.own];exact Jm.DG P0 b0 (AR Ik tT.wf hj)
  rintro σ H8 ⟨g8,s7,rfl⟩;have fS8:=fS6.go (rG g8);have fN8:=fN6.go (rG g8);have fO8:=fO6.go (rG g8);refine⟨_,Z,_,Z,_,_,Z,Z,_,Z,_,Z,_,Z,⟨⟨0,1,many+i,1000+100*i,ρ6,A6,B6,PY,b6,a,zn,ns,4+many,nms,1,by rw[Ut,Uu];rfl,by decide,tT.mono g8,PX.mono g8,Ik,gw6,pu6,by omega,by omega,by rw[es6];omega,fS8,h63,by omega,by omega,fN8,nx6,by omega,λρ9 A9 B9 st9 b9 H9 W8 Ic gd9 gw9 pu9 ea9 em9 eb9 nx9 o9=>?_⟩⟩⟩;exact⟨ρ9,A9,B9,st9,b9,_,_,Z,W8,Ic,gd9,gw9,pu9,ea9.trans Ut,em9.trans Uu,eb9.trans eb6,nx9,fS8.go o9,fN8.go o9,fO8.go o9⟩
 rintro σ H6 _;exact q H6
end
theorem all_mk{l:PySem.W.OpenLaw}{w:World}{K:Fg}{h:Heap}{mg:SO}{fa:Addr}(X:K.In h)(G:h.Ns mainGlobals mg)(hfa:mg "law"=some (.ref fa)){f:Addr}{od an:Option Addr}{sl:Array (Option Value)}{oc kV dc pm cd ct:Value}(a:PySem.W.nsIn K mainGlobals "law"=some (some (.ref f)))(l1:K.lookup f=some ⟨oc,od,.func (PySem.W.fnOf "law" "law" (gy q_) (dP q_) (aC q_) .none kV dc pm an cd ct),sl⟩)(c:PySem.W.codeIn K cd "law"=true)(k:PySem.W.keepIn K (.ref f)=true)(EO:dh K "common_factor" pC)(Uv:dh K "made_of" zx)(Uw:dh K "is_name" zy)(Gv:dh K "check_amount" qB)(MD:dh K "check_loss" uo)(ME:dh K "amounts_of" ur)(ER:dh K "factor_of_all" pD)(N1:dh K "_law_draw" v_)(N3:dh K "_law_name" wc)(MF:dh K "_law_names" uD)(N4:dh K "_law_much" wg)(Rw:dh K "_law_int" xU)(MG:dh K "_law_least" uE)(Ux:dh K "_law_is" zA)(MH:dh K "_law_model" uF)(N5:dh K "_law_seat" wm)(ES:dh K "_law_new_part" pI)(MI:dh K "_law_begin" uG)(Uy:dh K "_law_at" zC)(N6:dh K "_law_rows" wC)(N7:dh K "_law_flat" wD)(C3:dh K "_law_part_deed" nN)(N8:dh K "_law_deed" wF)(N9:dh K "_law_bear" wG)(BV:dh K "_law_model_cast" mU)(C4:dh K "_law_model_one" nO)(ET:dh K "_law_model_do" pK)(Gw:dh K "_law_hold_do" qW)(Rx:dh K "_law_run" x6)(EU:dh K "_law_stake_of" pM)(Gx:dh K "_law_kept_of" qY)(EV:dh K "_law_purse_of" pN)(I_:dh K "_law_purses" sj)(adH:PySem.W.nsIn K mainGlobals "len"=some none)(YO:PySem.W.nsIn K mainGlobals "range"=some none)(adI:PySem.W.nsIn K mainGlobals "sum"=some none)(acs:PySem.W.nsIn K mainGlobals "list"=some none)(adJ:PySem.W.nsIn K mainGlobals "zip"=some none)(adK:PySem.W.nsIn K mainGlobals "all"=some none)(adL:PySem.W.nsIn K mainGlobals "int"=some none)(acu:PySem.W.nsIn K mainGlobals "bool"=some none)(adM:PySem.W.nsIn K mainGlobals "str"=some none)(YQ:PySem.W.nsIn K mainGlobals "tuple"=some none)(adN:PySem.W.nsIn K mainGlobals "abs"=some none)(MJ:PySem.W.nsIn K mainGlobals "isinstance"=some none)(adO:PySem.W.nsIn K mainGlobals "min"=some none){Ry:Tok}(Uz:PySem.W.nsIn K mainGlobals "LETTERS"=some (some (.str "abcdefghijklmnopqrstuvwxyz" Ry))){cK:Addr}(YR:PySem.W.nsIn K mainGlobals "Hold"=some (some (.ref cK)))(YS:PySem.W.plainGet K cK Str.empty=true)(YT:PySem.W.hasDictIn K cK=true)(YU:PySem.W.plainOver K cK=true)(YV:PySem.W.findIn K (.ref cK) "__setattr__"=some (some (.builtin "object.__setattr__")))(YW:PySem.W.makesIn K cK=true)(YX:PySem.W.keepIn K (.ref cK)=true)(N_:dD K cK "__init__" "Hold.__init__" vX)(EW:dD K cK "place_of" "Hold.place_of" pG)(Gy:dD K cK "part_of" "Hold.part_of" qD)(C5:dD K cK "check_new" "Hold.check_new" nL)(MK:dD K cK "whole" "Hold.whole" uw)(zH:dD K cK "beyond_common" "Hold.beyond_common" kH)(Gz:dD K cK "tops_of" "Hold.tops_of" qE)(Oa:dD K cK "stow" "Hold.stow" vS)(Ob:dD K cK "sign" "Hold.sign" vU)(Oc:dD K cK "load" "Hold.load" vV)(Ja:dD K cK "shares" "Hold.shares" r6)(EX:dD K cK "given_up" "Hold.given_up" pH)(Jb:dD K cK "lessen" "Hold.lessen" rX)(ML:dD K cK "blend" "Hold.blend" ux)(Od:dD K cK "cast" "Hold.cast" vY)(MM:dD K cK "award" "Hold.award" uz)(Jc:dD K cK "mishap" "Hold.mishap" r_)(Oe:dD K cK "rise" "Hold.rise" v5)(Of:dD K cK "hand" "Hold.hand" v7)(Og:dD K cK "land" "Hold.land" v8)(MN:dD K cK "sever" "Hold.sever" uA)(C6:dD K cK "stake_top" "Hold.stake_top" nM)(MO:dD K cK "stake" "Hold.stake" uB)(MP:dD K cK "purse" "Hold.purse" uC)(GA:dD K cK "fortune" "Hold.fortune" qN)(Jd:PySem.W.findIn K (.ref cK) "places"=some none)(Je:PySem.W.findIn K (.ref cK) "aboard"=some none)(Jf:PySem.W.findIn K (.ref cK) "ashore"=some none)(MQ:PySem.W.findIn K (.ref cK) "names"=some none)(Jg:PySem.W.findIn K (.ref cK) "bottom"=some none)(Jh:PySem.W.findIn K (.ref cK) "common"=some none)(Ji:PySem.W.findIn K (.ref cK) "purses"=some none){iV:Addr}(YY:PySem.W.nsIn K mainGlobals "Part"=some (some (.ref iV)))(YZ:PySem.W.plainGet K iV Str.empty=true)(Y0:PySem.W.hasDictIn K iV=true)(Y3:PySem.W.plainOver K iV=true)(Y4:PySem.W.findIn K (.ref iV) "__setattr__"=some (some (.builtin "object.__setattr__")))(Y5:PySem.W.makesIn K iV=true)(Y6:PySem.W.keepIn K (.ref iV)=true)(Oh:dD K iV "__init__" "Part.__init__" vR)(Oi:PySem.W.findIn K (.ref iV) "name"=some none)(MR:PySem.W.findIn K (.ref iV) "owner"=some none)(MS:PySem.W.findIn K (.ref iV) "worth"=some none)(Jj:PySem.W.findIn K (.ref iV) "weight"=some none)(MT:PySem.W.findIn K (.ref iV) "scale"=some none)(Rz:PySem.W.findIn K (.ref iV) "row"=some none){fX:Addr}(UA:PySem.W.nsIn K mainGlobals "Bottom"=some (some (.ref fX)))(UB:PySem.W.plainGet K fX Str.empty=true)(UC:PySem.W.hasDictIn K fX=true)(UD:PySem.W.plainOver K fX=true)(UE:PySem.W.findIn K (.ref fX) "__setattr__"=some (some (.builtin "object.__setattr__")))(UG:PySem.W.makesIn K fX=true)(UH:PySem.W.keepIn K (.ref fX)=true)(Jk:dD K fX "__init__" "Bottom.__init__" rV)(Jl:dD K fX "over" "Bottom.over" rZ)(GB:dD K fX "share" "Bottom.share" qI)(Jo:dD K fX "grow" "Bottom.grow" rW)(GD:PySem.W.findIn K (.ref fX) "steps"=some none)(C7:PySem.W.findIn K (.ref fX) "product"=some none)(GF:PySem.W.findIn K (.ref fX) "known"=some none)
  :∃fd:FuncData,(∀(s:Shared)(v:Value),BindsTo s fd ⟨[v],[]⟩ [("_law_script",v)])/\∀base:Heap,K.In base->base.Ns mainGlobals mg->kj l.prog w K mg base vj 8 fa fd ["_law_script"] (JP K):=by
 have e:=hfa.symm.trans (PySem.W.mg_of X G a)
 cases e
 have adP:=WB (st:=q_) X G a l1 c k
 have xH:qb K fX:=⟨UB,UC,UD,UE⟩
 have dR:qb K cK:=⟨YS,YT,YU,YV⟩
 obtain⟨_,_,EY⟩:=EO.at X G
 obtain⟨_,_,UI⟩:=Uv.at X G
 obtain⟨_,_,UJ⟩:=Uw.at X G
 obtain⟨_,_,GG⟩:=Gv.at X G
 obtain⟨_,_,MU⟩:=MD.at X G
 obtain⟨_,_,MV⟩:=ME.at X G
 obtain⟨_,_,EZ⟩:=ER.at X G
 obtain⟨_,_,Oj⟩:=N1.at X G
 obtain⟨_,_,Ol⟩:=N3.at X G
 obtain⟨_,_,MW⟩:=MF.at X G
 obtain⟨_,_,Om⟩:=N4.at X G
 obtain⟨_,_,RA⟩:=Rw.at X G
 obtain⟨_,_,MX⟩:=MG.at X G
 obtain⟨_,_,UK⟩:=Ux.at X G
 obtain⟨_,_,MY⟩:=MH.at X G
 obtain⟨_,_,Oo⟩:=N5.at X G
 obtain⟨_,_,E1⟩:=ES.at X G
 obtain⟨_,_,MZ⟩:=MI.at X G
 obtain⟨_,_,UL⟩:=Uy.at X G
 obtain⟨_,_,Oq⟩:=N6.at X G
 obtain⟨_,_,Ot⟩:=N7.at X G
 obtain⟨_,_,C8⟩:=C3.at X G
 obtain⟨_,_,Ou⟩:=N8.at X G
 obtain⟨_,_,Ov⟩:=N9.at X G
 obtain⟨_,_,BW⟩:=BV.at X G
 obtain⟨_,_,C9⟩:=C4.at X G
 obtain⟨_,_,E2⟩:=ET.at X G
 obtain⟨_,_,GH⟩:=Gw.at X G
 obtain⟨_,_,RB⟩:=Rx.at X G
 obtain⟨_,_,E3⟩:=EU.at X G
 obtain⟨_,_,GI⟩:=Gx.at X G
 obtain⟨_,_,E4⟩:=EV.at X G
 obtain⟨_,_,Jp⟩:=I_.at X G
 have bV:=rB X G adH
 have cC:=rB X G YO
 have eU:=rB X G adI
 have kF:=rB X G acs
 have i8:=rB X G adJ
 have Rc:=rB X G adK
 have Rk:=rB X G adL
 have Ml:=rB X G acu
 have ai4:=rB X G adM
 have vd:=rB X G YQ
 have Rl:=rB X G adN
 have jA:=rB X G MJ
 have qT:=rB X G adO
 have AV:=PySem.W.mg_of X G Uz
 obtain⟨_,_,Ow⟩:=N_.made X G YR YW YX
 obtain⟨_,_,E5⟩:=EW.at dR
 obtain⟨_,_,GJ⟩:=Gy.at dR
 obtain⟨_,_,C_⟩:=C5.at dR
 obtain⟨_,_,M_⟩:=MK.at dR
 obtain⟨_,_,zJ⟩:=zH.at dR
 obtain⟨_,_,GK⟩:=Gz.at dR
 obtain⟨_,_,Ox⟩:=Oa.at dR
 obtain⟨_,_,Oz⟩:=Ob.at dR
 obtain⟨_,_,OA⟩:=Oc.at dR
 obtain⟨_,_,Jq⟩:=Ja.at dR
 obtain⟨_,_,E6⟩:=EX.at dR
 obtain⟨_,_,Jr⟩:=Jb.at dR
 obtain⟨_,_,Na⟩:=ML.at dR
 obtain⟨_,_,OB⟩:=Od.at dR
 obtain⟨_,_,Nb⟩:=MM.at dR
 obtain⟨_,_,Js⟩:=Jc.at dR
 obtain⟨_,_,OC⟩:=Oe.at dR
 obtain⟨_,_,OD⟩:=Of.at dR
 obtain⟨_,_,OE⟩:=Og.at dR
 obtain⟨_,_,Nc⟩:=MN.at dR
 obtain⟨_,_,Dc⟩:=C6.at dR
 obtain⟨_,_,Nd⟩:=MO.at dR
 obtain⟨_,_,Nf⟩:=MP.at dR
 obtain⟨_,_,GL⟩:=GA.at dR
 obtain⟨_,_,OF⟩:=Oh.made X G YY Y5 Y6
 obtain⟨_,_,Jt⟩:=Jk.made X G UA UG UH
 obtain⟨_,_,Ju⟩:=Jl.at xH
 obtain⟨_,_,GN⟩:=GB.at xH
 obtain⟨_,_,Jv⟩:=Jo.at xH
 have TX:Txt K ⟨cK,iV,fX⟩:=⟨dR,⟨YZ,Y0,Y3,Y4⟩,xH,Jd,Je,Jf,MQ,Jg,Jh,Ji,Oi,MR,MS,Jj,MT,Rz,GD,C7,GF⟩
 refine⟨PySem.W.fnOf "law" "law" (gy q_) (dP q_) (aC q_) .none kV dc pm an cd ct,λs v=> .of_eq rfl,λbase _ _=>?_⟩
 have iN:=CJ (P:=l.prog) (w:=w) (base:=base) (mg:=mg) EY
 have AU:=Rb (P:=l.prog) (w:=w) (base:=base) (mg:=mg) UI Rc
 have pZ:=Rh UJ AU bV AV
 have mh:=CK (P:=l.prog) (w:=w) (base:=base) (mg:=mg) (e:=⟨0,0,0,0,0,0,0,0,0,0,0⟩) GG
 have zY:=FZ MU mh
 have jh:=abb mh
 have mQ:=abc zY
 have vZ:=Ir (P:=l.prog) (w:=w) (base:=base) (mg:=mg) MV bV
 have qG:=CL EZ iN
 have CQ:=F_ (P:=l.prog) (w:=w) (base:=base) (mg:=mg) Jt TX
 have yu:=LU (P:=l.prog) (w:=w) (base:=base) (mg:=mg) OF TX kF
 have Ms:=L3 Ow TX CQ
 have uy:=Gb (P:=l.prog) (w:=w) (base:=base) (mg:=mg) Jv TX
 have d8:=Gi Ju TX iN
 have r8:=Ez GN TX d8
 have pO:=BL (P:=l.prog) (w:=w) (base:=base) (mg:=mg) (e:=⟨0,0,0,0,0,0,0,0,0,0,0⟩) E5 TX
 have bY:=V1 pO
 have iP:=CO (P:=l.prog) (w:=w) (base:=base) (mg:=mg) (e:=⟨0,0,0,0,0,0,0,0,0,0,0⟩) GJ TX
 have cW:=TZ iP
 have uO:=AW (e:=⟨0,0,0,0,0,0,0,0,0,0,0⟩) C_ TX pZ
 have jy:=aba uO
 have gX:=IA (P:=l.prog) (w:=w) (base:=base) (mg:=mg) M_ TX eU
 have gc:=yt (P:=l.prog) (w:=w) (base:=base) (mg:=mg) zJ TX i8
 have gf:=Eu (P:=l.prog) (w:=w) (base:=base) (mg:=mg) GK TX i8
 have lI:=LX (P:=l.prog) (w:=w) (base:=base) (mg:=mg) Ox TX
 have lJ:=LY Oz TX pZ bV
 have xY:=LZ OA TX jy bY gc lI yu bV
 have qH:=CS (P:=l.prog) (w:=w) (base:=base) (mg:=mg) E6 TX eU i8
 have jH:=Gg (P:=l.prog) (w:=w) (base:=base) (mg:=mg) Jr TX
 have kJ:=IC Na TX qG uy i8
 have xZ:=L_ OB TX vZ mQ cW gX kJ qH jH eU
 have GO:=Gk Jq TX cW gf r8 i8
 have Jw:=Gm (e:=⟨0,0,0,0,0,0,0,0,0,0,0⟩) Nb TX pO mh gX kJ bV
 have GP:=EA (e:=⟨0,0,0,0,0,0,0,0,0,0,0⟩) Js TX iP zY jH
 have Ng:=IG (e:=⟨0,0,0,0,0,0,0,0,0,0,0⟩) OC TX iP mh
 have Nh:=II (e:=⟨0,0,0,0,0,0,0,0,0,0,0⟩) OD TX iP pO gf gc
 have Ni:=IJ (e:=⟨0,0,0,0,0,0,0,0,0,0,0⟩) OE TX iP bY gf GO i8
 have Jx:=Gp (e:=⟨0,0,0,0,0,0,0,0,0,0,0⟩) Nc TX iP uO lI yu
 have iy:=BO Dc TX gX eU
 have wM:=IM Nd TX d8 iy bY
 have wJ:=IQ Nf TX d8 bY
 have su:=EB GL TX d8 iy bY eU
 have bB:=Mg (P:=l.prog) (w:=w) (base:=base) (mg:=mg) Oj bV cC
 have s_:=Mh (P:=l.prog) (w:=w) (base:=base) (mg:=mg) Ol cC
 have rj:=IS MW bB s_ cC
 have lK:=Mj Om bB
 have u0:=NQ (P:=l.prog) (w:=w) (base:=base) (mg:=mg) RA jA Rk Ml
 have wk:=IT (P:=l.prog) (w:=w) (base:=base) (mg:=mg) MX Rl
 have mV:=Rn UK u0 wk jA vd bV
 have wL:=IV (P:=l.prog) (w:=w) (base:=base) (mg:=mg) MY kF
 have dH:=Mq (P:=l.prog) (w:=w) (base:=base) (mg:=mg) Oo bV cC
 have qV:=CU E1 dH
 have wK:=IW (T:=⟨cK,iV,fX⟩) MZ Ms lJ
 have E7:=Ro (P:=l.prog) (w:=w) (base:=base) (mg:=mg) UL bV cC
 have tW:=aaV E7
 have xV:=Mt Oq bB bV cC kF eU qT
 have xW:=Mu (P:=l.prog) (w:=w) (base:=base) (mg:=mg) Ot vd
 have pJ:=BQ C8 bB lK xV xW bV eU qT
 have x9:=Mv Ou bB lK pJ bV
 have lM:=Mw (P:=l.prog) (w:=w) (base:=base) (mg:=mg) Ov bV cC eU
 have nP:=Bb BW tW lM
 have pL:=BU C9 E7 dH kF
 have qX:=CY E2 pL qV nP lM dH bV cC
 have sf:=EJ GH lJ xY xZ Jw GP Ng Nh Ni Jx bV cC
 have u7:=NZ RB x9 sf qX cC
 have iO:=CZ E3 dH eU
 have sr:=EM (P:=l.prog) (w:=w) (base:=base) (mg:=mg) GI eU
 have qZ:=C0 E4 dH bV qT
 have uI:=Gu Jp mV qZ iO sr wJ su
 exact ab_ adP bB rj wK wL u7 uI mV iO wM cC
theorem walk{l:PySem.W.OpenLaw}{q:Program}{loose:List Str}{XP:(Str->Option Value)->Heap->Prop}{YP:World->Heap->Prop}{d:DefRec}{K:Params->Fg}(hn:l.most=some 63)(hdf:d.params.defaults=[])(hY:∀(w:World) (h:Heap),YP w h->(K w.params).In h)(F:∀(w:World) (mg:SO) (fa:Addr) (h:Heap),(K w.params).In h->h.Ns mainGlobals mg->mg d.name=some (.ref fa)->
    ∃fd:FuncData,(∀(s:Shared) (u:Value),BindsTo s fd ⟨[u],[]⟩ [("_law_script",u)])/\∀base:Heap,(K w.params).In base->base.Ns mainGlobals mg->kj l.prog w (K w.params) mg base vj 8 fa fd ["_law_script"] (JP (K w.params))):
  PySem.W.WalkO q loose XP YP l.row.toRowW d [] (λf vs=>PySem.call f vs):=
 L2.XH (n:=63) (k:=8) (x:="_law_script") (CX:=λ_=>vj) (sp:=λw=>JP (K w.params)) hn (by decide) hdf ⟨Z,by decide,by decide⟩ hY F (λ_ _ a ns hl _ hS=>⟨a,ns,Z,hS,hl,λ_=>rfl⟩) λ_ _ _ _ _ z=>z
end Law
namespace PySem.W.Fast
abbrev A:=True
theorem a:A:=⟨⟩
theorem tw13631437385598635481:A:=a
theorem tw5267727001800729881:A:=a
theorem tw442996303015601929:A:=a
theorem tw620891727240810811:A:=a
theorem tw12297531799212921648:A:=a
theorem tw16245318474997676692:A:=a
theorem tw1997074274393764915:A:=a
theorem tw15079603693074148452:A:=a
theorem tw15137610296590125388:A:=a
theorem tw15563294827246052027:A:=a
theorem tw13119540901705255398:A:=a
theorem tw4057758821968681202:A:=a
theorem tw3051047711089502146:A:=a
theorem tw2681567149145830379:A:=a
theorem tw13941908834204102028:A:=a
theorem tw7292483499836537170:A:=a
theorem tw13388605840229525103:A:=a
theorem tw7293179028060447180:A:=a
theorem tw10510784345550365251:A:=a
theorem tw10634982975951270193:A:=a
theorem tw17272487818852574947:A:=a
theorem tw17821662331148454398:A:=a
theorem tw4748393265218275780:A:=a
theorem tw3724310307876189245:A:=a
theorem tw14388329903694965581:A:=a
theorem tw12092411139052092282:A:=a
theorem tw1206501513677565594:A:=a
theorem tw13625482786339018309:A:=a
theorem tw8786749812260524153:A:=a
theorem tw9751546531083833311:A:=a
theorem tw8886171939645079721:A:=a
theorem tw2717343076486761979:A:=a
theorem tw9914261751399821237:A:=a
theorem tw5869790950601612105:A:=a
theorem tw3475298393793296398:A:=a
theorem tw6876093715208108433:A:=a
theorem tw2436119622093380112:A:=a
theorem tw14538675645933702045:A:=a
theorem tw17138518797659959888:A:=a
theorem tw16924763558520997503:A:=a
theorem tw8310402655873172228:A:=a
theorem tw2020318298850415702:A:=a
theorem tw11706647305280143540:A:=a
theorem tw12655065825446186422:A:=a
theorem tw1461249477165589490:A:=a
theorem tw1978018940469520970:A:=a
theorem tw669745340335460320:A:=a
theorem tw228143324558983106:A:=a
theorem tw16139977688608714487:A:=a
theorem tw203921121875292339:A:=a
theorem tw13484882241717666485:A:=a
theorem tw1644525834717387621:A:=a
theorem tw3153181570097507919:A:=a
theorem tw86492959928288537:A:=a
theorem tw6402525177958351204:A:=a
theorem tw278616305527142543:A:=a
theorem tw18233158850358267488:A:=a
theorem tw5140979424567707400:A:=a
theorem tw18122444796315985442:A:=a
theorem tw15048198639551419166:A:=a
theorem tw11240779724069407068:A:=a
theorem tw15687617061772561776:A:=a
theorem tw11055658461697022689:A:=a
theorem tw10163700304678619284:A:=a
theorem tw11598823865271593493:A:=a
theorem tw11871220903846349326:A:=a
theorem tw5679710017477557575:A:=a
theorem tw17737685377712268932:A:=a
theorem tw11569330564369038996:A:=a
theorem tw13166593554760202536:A:=a
theorem tw7302659679203424768:A:=a
theorem tw1462920859702830115:A:=a
theorem tw4123964603439224842:A:=a
theorem tw12649483542604830435:A:=a
theorem tw15452286270832432636:A:=a
theorem tw4803178942363633356:A:=a
theorem tw12355735640385530487:A:=a
theorem tw6944432578160631396:A:=a
theorem tw10969974593623029204:A:=a
theorem tw4240028253356691739:A:=a
theorem tw13907402752432466527:A:=a
theorem tw5206097738911685006:A:=a
theorem tw6181011551707979918:A:=a
theorem tw17666692963876697141:A:=a
theorem tw5408595315130019689:A:=a
theorem tw8870087398238103291:A:=a
theorem tw16907970056868671620:A:=a
theorem tw10450311551721524565:A:=a
theorem tw6515343810806979361:A:=a
theorem tw10197585738323745426:A:=a
theorem tw1988132626778917898:A:=a
theorem tw8461156922588070219:A:=a
theorem tw7260057275275270130:A:=a
theorem tw758851020577081860:A:=a
theorem tw18421261986726929484:A:=a
theorem tw10950581994339966763:A:=a
theorem tw6651618368900276979:A:=a
theorem tw9264714729590620734:A:=a
theorem tw5659465420772330445:A:=a
theorem tw9777787170115728114:A:=a
theorem tw17267008459905079628:A:=a
theorem tw16033471968064893601:A:=a
theorem tw5744184093525296690:A:=a
theorem tw6689317407236754491:A:=a
theorem tw10136866781277400810:A:=a
theorem tw15490103833667263059:A:=a
theorem tw8505128746837444340:A:=a
theorem tw6386591291729573721:A:=a
theorem tw9461080658625005988:A:=a
theorem tw11551541065870068262:A:=a
theorem tw11729947432552977274:A:=a
theorem tw91719118383008092:A:=a
theorem tw7171918409790556736:A:=a
theorem tw3998355473566727084:A:=a
theorem tw1715910738152363929:A:=a
theorem tw11503688105974493451:A:=a
theorem tw416871533124101033:A:=a
theorem tw4394864202649263678:A:=a
theorem tw5202239660880004956:A:=a
theorem tw13269868191490744210:A:=a
theorem tw13394432345017679364:A:=a
theorem tw16883883982538056337:A:=a
theorem tw1513774259524320395:A:=a
theorem tw3121854375320666827:A:=a
theorem tw12587319639606280260:A:=a
theorem tw7048611273002654618:A:=a
theorem tw8519233243656283023:A:=a
theorem tw6333285916820382521:A:=a
theorem tw1517692692723421243:A:=a
theorem tw17764807244663507108:A:=a
theorem tw3515807110204813768:A:=a
theorem tw14555564922089718712:A:=a
theorem tw9205765061222670735:A:=a
theorem tw4962023911150296042:A:=a
theorem tw5042581219439216801:A:=a
theorem tw6989012167023682085:A:=a
theorem tw3888670425901114489:A:=a
theorem tw16771143019094871397:A:=a
theorem tw16138741685020052977:A:=a
theorem tw6768521585705434777:A:=a
theorem tw6716931595910930537:A:=a
theorem tw16897588131427284328:A:=a
theorem tw17666930484733914175:A:=a
theorem tw15903975625937655894:A:=a
theorem tw13324937982415335298:A:=a
theorem tw1724708399541745907:A:=a
theorem tw14242562756400625849:A:=a
theorem tw6491941203517171246:A:=a
theorem tw8760628397074929095:A:=a
theorem tw9101008662986367509:A:=a
theorem tw11083824052917045168:A:=a
theorem tw6574685650754149273:A:=a
theorem tw15325132860412042475:A:=a
theorem tw9149672421418138920:A:=a
theorem tw13573340642833117327:A:=a
theorem tw7159725045960286453:A:=a
theorem tw272871017475149244:A:=a
theorem tw9294623832605871880:A:=a
theorem tw253435766918168711:A:=a
theorem tw14787547948379222483:A:=a
theorem tw18431400160252924046:A:=a
theorem tw18109714839008376667:A:=a
theorem tw4970936348899144744:A:=a
theorem tw7615619953654311859:A:=a
theorem tw14470819659747023753:A:=a
theorem tw15486548700246391893:A:=a
theorem tw16548477138582983992:A:=a
theorem tw13707044831609958248:A:=a
theorem tw9152277180904011065:A:=a
theorem tw5062894630181692730:A:=a
theorem tw14617895011028477:A:=a
theorem tw12577471992466354533:A:=a
theorem tw5852279599033927813:A:=a
theorem tw9813801468329340027:A:=a
theorem tw3991179846398277580:A:=a
theorem tw15500415675536435974:A:=a
theorem tw4839806305277357607:A:=a
theorem tw12754427071062349132:A:=a
theorem tw2180241649533491944:A:=a
theorem tw17309722730647685085:A:=a
theorem tw6596027334890648196:A:=a
theorem tw1507564280875357015:A:=a
theorem tw2677677552665970302:A:=a
theorem tw11941566721983986144:A:=a
theorem tw15384685967410393050:A:=a
theorem tw5087945924613799428:A:=a
theorem tw11684302957799569725:A:=a
theorem tw12493878266981750792:A:=a
theorem tw13634477426883117459:A:=a
theorem tw16241604848282024494:A:=a
theorem tw7729478637634747796:A:=a
theorem tw11687367100429999651:A:=a
theorem tw2270282276889634244:A:=a
theorem tw8354656352356318005:A:=a
theorem tw8036907277101428999:A:=a
theorem tw3372834465651326445:A:=a
theorem tw17798387915223210380:A:=a
theorem tw758438728058028598:A:=a
theorem tw5229689015254973857:A:=a
theorem tw12435705839064176568:A:=a
theorem tw10612659798459035448:A:=a
theorem tw7820675605454771981:A:=a
theorem tw12203583588247687401:A:=a
theorem tw16758234288205568636:A:=a
theorem tw11103700814104917059:A:=a
theorem tw9636073207534873568:A:=a
theorem tw2810653532282138981:A:=a
theorem tw13499333814361223085:A:=a
theorem tw14387066264321574874:A:=a
theorem tw10476213788934997110:A:=a
theorem tw16295488183344412276:A:=a
theorem tw9064739319444611416:A:=a
theorem tw2437471348235379018:A:=a
theorem tw13153579613329612299:A:=a
theorem tw2764235916088712869:A:=a
theorem tw16462164407061229336:A:=a
theorem tw14480967485102472365:A:=a
theorem tw5207290436644323242:A:=a
theorem tw13788336094658398617:A:=a
theorem tw8855971557132591847:A:=a
theorem tw12807105778832332034:A:=a
theorem tw2014712850717932802:A:=a
theorem tw7829285246703029582:A:=a
theorem tw14760184995179718438:A:=a
theorem tw6992367034178883223:A:=a
theorem tw16832547620762623332:A:=a
theorem tw3156449155869739590:A:=a
theorem tw3307597946409734255:A:=a
theorem tw15210483427339987926:A:=a
theorem tw12636705063830708631:A:=a
theorem tw4912146966383467500:A:=a
theorem tw2710819361951014171:A:=a
theorem tw1491727307143763707:A:=a
theorem tw12330941137169814736:A:=a
theorem tw3012818265760406441:A:=a
theorem tw4028594333923406205:A:=a
theorem tw1913215959651339468:A:=a
theorem tw11779159738582722927:A:=a
theorem tw15203874038680869214:A:=a
theorem tw5810574612216022629:A:=a
theorem tw10534562192221269619:A:=a
theorem tw132489879602539787:A:=a
theorem tw8939479885839355825:A:=a
theorem tw5813864322431062430:A:=a
theorem tw4210976919075073021:A:=a
theorem tw13928046546829952718:A:=a
theorem tw4400757960486784291:A:=a
theorem tw15323163477218368928:A:=a
theorem tw15911045479203393239:A:=a
theorem tw9537891326982177775:A:=a
theorem tw1788330221773628847:A:=a
theorem tw14289651848874010376:A:=a
theorem tw9315275066304897491:A:=a
theorem tw6694854388395096493:A:=a
theorem tw8568567313468224289:A:=a
theorem tw12245431169849755911:A:=a
theorem tw5462766900553725348:A:=a
theorem tw16506304204681463793:A:=a
theorem tw14373361317508729413:A:=a
theorem tw12285021274717396059:A:=a
theorem tw161893042829112742:A:=a
theorem tw227531247602929346:A:=a
theorem tw18032416564513712305:A:=a
theorem tw17976795975771625388:A:=a
theorem tw10010301989994757839:A:=a
theorem tw342808017300251104:A:=a
theorem tw12509325982036080041:A:=a
theorem tw17113200533640309329:A:=a
theorem tw2237105756289481164:A:=a
theorem tw18041253183811511599:A:=a
theorem tw17286644865404143802:A:=a
theorem tw13470855725317060425:A:=a
theorem tw15794660453829452101:A:=a
theorem tw10377093717611524944:A:=a
theorem tw9917710184983186495:A:=a
theorem tw4976373887126037590:A:=a
theorem tw14106045104671502788:A:=a
theorem tw15323626276533889352:A:=a
theorem tw7855298580544348163:A:=a
theorem tw1666187253719614541:A:=a
theorem tw1581633046837364376:A:=a
theorem tw11167432312179403804:A:=a
theorem tw11663289968851196860:A:=a
theorem tw18378805756005444017:A:=a
theorem tw15842690063609099504:A:=a
theorem tw13737577818616992270:A:=a
theorem tw4523992246693761116:A:=a
theorem tw11038034502071213869:A:=a
theorem tw17922530482505044201:A:=a
theorem tw210170585409679687:A:=a
theorem tw2483950301050102480:A:=a
theorem tw14141305388923732852:A:=a
theorem tw17666465787204493665:A:=a
theorem tw1569066537017823994:A:=a
theorem tw12813169591236148170:A:=a
theorem tw17562643133038045330:A:=a
theorem tw17859841832321830933:A:=a
theorem tw3229141280421340326:A:=a
theorem tw3319548328160725632:A:=a
theorem tw4112687012053379475:A:=a
theorem tw18193900956323834296:A:=a
theorem tw16006563853710152953:A:=a
theorem tw11498056846910347809:A:=a
theorem tw17769311935514290313:A:=a
theorem tw2229282659194549847:A:=a
theorem tw11038574699921510384:A:=a
theorem tw15404100901080742117:A:=a
theorem tw8365104613520564741:A:=a
theorem tw9403881597113880833:A:=a
theorem tw7356815331678542040:A:=a
theorem tw2032813680434767426:A:=a
theorem tw12666019265857551195:A:=a
theorem tw3182595737615926090:A:=a
theorem tw11371311933900234937:A:=a
theorem tw8155478387303218072:A:=a
theorem tw8859756250363617907:A:=a
theorem tw16504312386236384600:A:=a
theorem tw17756683299950340903:A:=a
theorem tw16756700526184514885:A:=a
theorem tw18382566245559903229:A:=a
theorem tw1375018819156036589:A:=a
theorem tw5738364071230383732:A:=a
theorem tw11611784301589767897:A:=a
theorem tw15415769505513726120:A:=a
theorem tw7631047554520943344:A:=a
theorem tw4715318270779350737:A:=a
theorem tw10566797280872138649:A:=a
theorem tw13630765713342242317:A:=a
theorem tw9970424007405914713:A:=a
theorem tw16043105401198764938:A:=a
theorem tw3227289526704465516:A:=a
theorem tw8901153963746390126:A:=a
theorem tw12368589867029129673:A:=a
theorem tw15848793747859886749:A:=a
theorem tw10752308231339837146:A:=a
theorem tw13899682448642779757:A:=a
theorem tw32054605263372338:A:=a
theorem tw6991589844859754884:A:=a
theorem tw16194837088405779302:A:=a
theorem tw14416297964781967129:A:=a
theorem tw5375609222447080572:A:=a
theorem tw1721508843224252174:A:=a
theorem tw11943328813511448053:A:=a
theorem tw15244808814791010534:A:=a
theorem tw9509434527703460890:A:=a
theorem tw8296288970610764264:A:=a
theorem tw5618066390218190571:A:=a
theorem tw7884827628530005197:A:=a
theorem tw6872103500735684267:A:=a
theorem tw11290502995951077939:A:=a
theorem tw11193325286088491205:A:=a
theorem tw10924539481875407976:A:=a
theorem tw3196063797999257609:A:=a
theorem tw9916926602306499300:A:=a
theorem tw9818943800745065713:A:=a
theorem tw16644360712645615534:A:=a
theorem tw16865979578834131291:A:=a
theorem tw15538477631347442857:A:=a
theorem tw9928787017357112999:A:=a
theorem tw1493874257787233626:A:=a
theorem tw2801873438900330930:A:=a
theorem tw14763018374305617646:A:=a
theorem tw15578373355759864272:A:=a
theorem tw15175913712610982278:A:=a
theorem tw17734059916160551957:A:=a
theorem tw15990052079241359243:A:=a
theorem tw6552198486687470446:A:=a
theorem tw3792313021265864349:A:=a
theorem tw1840524888722187857:A:=a
theorem tw10065067963691081287:A:=a
theorem tw13791982728441669153:A:=a
theorem tw138980807538202742:A:=a
theorem tw7913237217564156893:A:=a
theorem tw17228681007356825430:A:=a
theorem tw14798406310917598567:A:=a
theorem tw11631966685226549055:A:=a
theorem tw14724934048042902052:A:=a
theorem tw5834981958226440103:A:=a
theorem tw18402632869158781966:A:=a
theorem tw3096721900110404996:A:=a
theorem tw3546787895557811121:A:=a
theorem tw17885097373743224048:A:=a
theorem tw2432593623446684632:A:=a
theorem tw13435628407420324260:A:=a
theorem tw14795228084027482809:A:=a
theorem tw9302091028609325542:A:=a
theorem tw8921648692814505967:A:=a
theorem tw15284497265433345928:A:=a
theorem tw6149786830525009870:A:=a
theorem tw13212776204124630962:A:=a
theorem tw13639252476674700190:A:=a
theorem tw3723051869234605542:A:=a
theorem tw9740503208232144340:A:=a
theorem tw17651485495141873357:A:=a
theorem tw5733518644563881982:A:=a
theorem tw5235396525259571743:A:=a
theorem tw2871508198258154425:A:=a
theorem tw13242313500923041764:A:=a
theorem tw210319716749210614:A:=a
theorem tw7658369871281768587:A:=a
theorem tw9295829540963225006:A:=a
theorem tw8012373979508271571:A:=a
theorem tw3282067413977448697:A:=a
theorem tw2048932060015157885:A:=a
theorem tw14329149116965833679:A:=a
theorem tw11178143743755562388:A:=a
theorem tw11000613591785189348:A:=a
theorem tw14573564416138455425:A:=a
theorem tw5750017871685045510:A:=a
theorem tw10059988681846754386:A:=a
theorem tw4036327569135419964:A:=a
theorem tw330040336668359847:A:=a
theorem tw2439514258626679443:A:=a
theorem tw17179803947311815553:A:=a
theorem tw10696956084307979214:A:=a
theorem tw10193637709591699778:A:=a
theorem tw5054041633994502781:A:=a
theorem tw7259733377427552257:A:=a
theorem tw2075166916537004550:A:=a
theorem tw11357458039515251583:A:=a
theorem tw15840992859639517847:A:=a
theorem tw696332052056942255:A:=a
theorem tw11318344449630190763:A:=a
theorem tw4566436646998763996:A:=a
theorem tw13673199947858095522:A:=a
theorem tw16616113566721979397:A:=a
theorem tw7828565628092940362:A:=a
theorem tw12286227932242180959:A:=a
theorem tw4233406634968046346:A:=a
theorem tw9820394885210899358:A:=a
theorem tw10177499608887824604:A:=a
theorem tw17432326918007569014:A:=a
theorem tw16108069239978814502:A:=a
theorem tw14320956320990482871:A:=a
theorem tw9244452207367758906:A:=a
theorem tw12572778144337711958:A:=a
theorem tw12235985033326115290:A:=a
theorem tw16933111411380324906:A:=a
theorem tw13319910080180074414:A:=a
theorem tw5351394468579826300:A:=a
theorem tw470886798095531205:A:=a
theorem tw18232292713871638057:A:=a
theorem tw11073468880100726387:A:=a
theorem tw8023324254571091687:A:=a
theorem tw1996103079989230753:A:=a
theorem tw5091211722448652292:A:=a
theorem tw12213769586756551580:A:=a
theorem tw13444784476337450522:A:=a
theorem tw6491066268764723775:A:=a
theorem tw10315780048235889433:A:=a
theorem tw10450430800320709807:A:=a
theorem tw8938254715375270699:A:=a
theorem tw16006585341223916695:A:=a
theorem tw6130896045519332347:A:=a
theorem tw18427202013838767840:A:=a
theorem tw407756533366991213:A:=a
theorem tw13454635203741346105:A:=a
theorem tw2756165346233283615:A:=a
theorem tw8242135876424591968:A:=a
theorem tw17632089413096327852:A:=a
theorem tw12899034976943311136:A:=a
theorem tw6583430068684146853:A:=a
theorem tw13839016639497421638:A:=a
theorem tw5216118309288029253:A:=a
theorem tw2073478650621367930:A:=a
theorem tw2912815727768509099:A:=a
theorem tw12272750225340828897:A:=a
theorem tw13894997880517700887:A:=a
theorem tw9773697070346923466:A:=a
theorem tw11097008999517618822:A:=a
theorem tw14074755397608706788:A:=a
theorem tw9595942780513272969:A:=a
theorem tw8186528682437405963:A:=a
theorem tw12168540791128678832:A:=a
theorem tw520966216560439778:A:=a
theorem tw2712654587076759850:A:=a
theorem tw9828419393730915084:A:=a
theorem tw13722904327720901540:A:=a
theorem tw8685350413495933305:A:=a
theorem tw10652699030062764207:A:=a
theorem tw4660902213336144784:A:=a
theorem tw11830997767095067928:A:=a
theorem tw15768893277507415977:A:=a
theorem tw8375122560202113713:A:=a
theorem tw11552138170503476069:A:=a
theorem tw233226159132264949:A:=a
theorem tw15264088210790015561:A:=a
theorem tw13367779971669902673:A:=a
theorem tw2296485780471342912:A:=a
theorem tw13566183849427643846:A:=a
theorem tw10682022244948995208:A:=a
theorem tw2831847642496842363:A:=a
theorem tw5701688693510811756:A:=a
theorem tw1031299826939046838:A:=a
theorem tw14076854210171043762:A:=a
theorem tw12923649715138060501:A:=a
theorem tw761106754690961810:A:=a
theorem tw13075445285249499373:A:=a
theorem tw4023152060651013570:A:=a
theorem tw6434708708177716898:A:=a
theorem tw2793107210805144068:A:=a
theorem tw4846536367087385629:A:=a
theorem tw12474518763995333875:A:=a
theorem tw1551491412709330180:A:=a
theorem tw10464254280490468575:A:=a
theorem tw2825757733868567204:A:=a
theorem tw11980047831523996061:A:=a
theorem tw9469408460665983520:A:=a
theorem tw6586414284431475824:A:=a
theorem tw12963918663388511258:A:=a
theorem tw7973449941568315651:A:=a
theorem tw15608049420180785639:A:=a
theorem tw5379805735282158492:A:=a
theorem tw10963220163048827885:A:=a
theorem tw401434107386413407:A:=a
theorem tw16287558780582372542:A:=a
theorem tw1335350544877437613:A:=a
theorem tw13574531620061131568:A:=a
theorem tw14634927173595629236:A:=a
theorem tw301600330973294759:A:=a
theorem tw6388192171603046323:A:=a
theorem tw4288501113094708009:A:=a
theorem tw15640186732907139166:A:=a
theorem tw4436433674299104710:A:=a
theorem tw298492284860800652:A:=a
theorem tw2769525380712043003:A:=a
theorem tw9097672886745633609:A:=a
theorem tw8208604959079428424:A:=a
theorem tw6703561321522627455:A:=a
theorem tw13708987904436845704:A:=a
theorem tw11002247741237989525:A:=a
theorem tw13437931584887285915:A:=a
theorem tw8442564631804669579:A:=a
theorem tw9348586201488984499:A:=a
theorem tw5216637549109309118:A:=a
theorem tw8500422109728355151:A:=a
theorem tw9611740271421852786:A:=a
theorem tw14350747791419498716:A:=a
theorem tw3309000236867124144:A:=a
theorem tw8327337336713623920:A:=a
theorem tw8734616812158149932:A:=a
theorem tw13056173423091508459:A:=a
theorem tw5396049588339037956:A:=a
theorem tw18279939134417318288:A:=a
theorem tw5120288801044050652:A:=a
theorem tw13483255061787581142:A:=a
theorem tw4158965260960543745:A:=a
theorem tw10608158074066029514:A:=a
theorem tw13979742912388349236:A:=a
theorem tw1877132091588375548:A:=a
theorem tw13911415728376939610:A:=a
theorem tw10538839805323266623:A:=a
theorem tw9337971979044703702:A:=a
theorem tw6621779968706704944:A:=a
theorem tw3091657089216933984:A:=a
theorem tw4752292179327668483:A:=a
theorem tw1776881713695713026:A:=a
theorem tw14181426156334686792:A:=a
theorem tw10059044917785249016:A:=a
theorem tw8429133031915656207:A:=a
theorem tw12266526111416010414:A:=a
theorem tw6509311689917414264:A:=a
theorem tw16550405783264088178:A:=a
theorem tw1904989376829380897:A:=a
theorem tw11318482139856439664:A:=a
theorem tw8596778862787117627:A:=a
theorem tw10941758783534521482:A:=a
theorem tw2127117930390212990:A:=a
theorem tw205153971146691930:A:=a
theorem tw5737615454770070847:A:=a
theorem tw17069653545706910162:A:=a
theorem tw10709657308542798826:A:=a
theorem tw1735746434750665147:A:=a
theorem tw1880908831196286289:A:=a
theorem tw9790710092049387194:A:=a
theorem tw16260616461776289983:A:=a
theorem tw11948174981514974383:A:=a
theorem tw9823742054864364793:A:=a
theorem tw5914216233715037683:A:=a
theorem tw13983532376703344553:A:=a
theorem tw3360392355781562054:A:=a
theorem tw8973748690794882806:A:=a
theorem tw8139365631450881958:A:=a
theorem tw2699358384374420124:A:=a
theorem tw8500417584561251459:A:=a
theorem tw421664129140570701:A:=a
theorem tw1907515393509542344:A:=a
theorem tw9704294577180126122:A:=a
theorem tw14462716048628630777:A:=a
theorem tw3145092314543818993:A:=a
theorem tw14830661152276813191:A:=a
theorem tw17753907009095060039:A:=a
theorem tw12807907797038777523:A:=a
theorem tw10610362831517222677:A:=a
theorem tw6329133288894922136:A:=a
theorem tw7339971993390181575:A:=a
theorem tw8456351485368878404:A:=a
theorem tw17448720669497434532:A:=a
theorem tw13399162100474085130:A:=a
theorem tw14616372850453117785:A:=a
theorem tw11728003684769040011:A:=a
theorem tw14220829457672491833:A:=a
theorem tw12402735002360726778:A:=a
theorem tw16819848702574596764:A:=a
theorem tw5612240866094742215:A:=a
theorem tw9051556339479282776:A:=a
theorem tw11059290666131465723:A:=a
theorem tw12161289299189496415:A:=a
theorem tw11632880981995794191:A:=a
theorem tw12154711368027942626:A:=a
theorem tw1891980648065688397:A:=a
theorem tw7793880614464375875:A:=a
theorem tw17743834469782884103:A:=a
theorem tw9193752350228288799:A:=a
theorem tw6421487216987647602:A:=a
theorem tw10479018562581944812:A:=a
theorem tw3041547528719651459:A:=a
theorem tw11920826036087503395:A:=a
theorem tw9656712157558996334:A:=a
theorem tw9637694169999480957:A:=a
theorem tw10216668291812815484:A:=a
theorem tw11252679318426607149:A:=a
theorem tw17396509090261884005:A:=a
theorem tw15461579479339206362:A:=a
theorem tw2917575924690048005:A:=a
theorem tw10262455958945466017:A:=a
theorem tw10223619463629052861:A:=a
theorem tw6687534003611987145:A:=a
theorem tw7251508332438085450:A:=a
theorem tw1911994862531203160:A:=a
theorem tw9091808693622323489:A:=a
theorem tw1874907442235075253:A:=a
theorem tw112038995493806793:A:=a
theorem tw15184314409047533590:A:=a
theorem tw8838683219407136678:A:=a
theorem tw7993246381068707737:A:=a
theorem tw3486325901702336011:A:=a
theorem tw12545294655102815508:A:=a
theorem tw2451274990375339241:A:=a
theorem tw13335509513805148679:A:=a
theorem tw2261817857700518939:A:=a
theorem tw10325429508011264170:A:=a
theorem tw4188239031547543103:A:=a
theorem tw2626355923632034180:A:=a
theorem tw8354819448291606242:A:=a
theorem tw16510770383876920873:A:=a
theorem tw159952376434731703:A:=a
theorem tw3282731758298363765:A:=a
theorem tw11938311695962609958:A:=a
theorem tw874756339672294399:A:=a
theorem tw7825296979175309797:A:=a
theorem tw14524714338669673945:A:=a
theorem tw980595354957814628:A:=a
theorem tw17589431799496252314:A:=a
theorem tw14646649556744032351:A:=a
theorem tw7367860683411162517:A:=a
theorem tw6525718062514122957:A:=a
theorem tw14817399795271513792:A:=a
theorem tw1211506233167557903:A:=a
theorem tw9897290522595797287:A:=a
theorem tw3500658469811781785:A:=a
theorem tw13871241294707363745:A:=a
theorem tw9369199769279292734:A:=a
theorem tw13592248165942066285:A:=a
theorem tw11355853222390864714:A:=a
theorem tw18365582810999424766:A:=a
theorem tw688950271296791952:A:=a
theorem tw17419028499388160899:A:=a
theorem tw7445080518208454517:A:=a
theorem tw17899684984158173542:A:=a
theorem tw9606221013001569340:A:=a
theorem tw13169614657661713938:A:=a
theorem tw6859123086826731067:A:=a
theorem tw14040677977910547315:A:=a
theorem tw6681646279940363522:A:=a
theorem tw15199112761897441753:A:=a
theorem tw16558189125144795871:A:=a
theorem tw5797996226856573772:A:=a
theorem tw11876170018565236553:A:=a
theorem tw1773743962157521346:A:=a
theorem tw3686598763883304549:A:=a
theorem tw3673525245749044369:A:=a
theorem tw1512528045459579851:A:=a
theorem tw8717641851189252267:A:=a
theorem tw1292667848124645683:A:=a
theorem tw1113405172643706171:A:=a
theorem tw11862095698450339366:A:=a
theorem tw10694088435311945335:A:=a
theorem tw16583319257640999221:A:=a
theorem tw1885498465433873061:A:=a
theorem tw10517215208638016654:A:=a
theorem tw10384424174088532246:A:=a
theorem tw6335515171619598326:A:=a
end PySem.W.Fast
open PySem PySem.W PyProof.Rows
set_option maxRecDepth 100000 in
set_option maxHeartbeats 0 in
theorem PySem.Challenge.cw_jettison_k27_stakes_told_holds : PySem.Challenge.rw_jettison_k27_stakes_told.Holds := by
 w_on;o_law;k_head;(case hw=>w_witness2)
 k_fill
 refine Law.walk (l:=PySem.Challenge.rw_jettison_k27_stakes_told) rfl rfl (fun w h Y=>PySem.W.kIn_of Y) ?F
 case F=>
  intro w mg fa h KX G hmg
  refine' Law.all_mk KX G hmg ?_ ?_ ?_ ?_ ?_ ?_ ?_ ?_ ?_ ?_ ?_ ?_ ?_ ?_ ?_ ?_ ?_ ?_ ?_ ?_ ?_ ?_ ?_ ?_ ?_ ?_ ?_ ?_ ?_ ?_ ?_ ?_ ?_ ?_ ?_ ?_ ?_ ?_ ?_ ?_ ?_ ?_ ?_ ?_ ?_ ?_ ?_ ?_ ?_ ?_ ?_ ?_ ?_ ?_ ?_ ?_ ?_ ?_ ?_ ?_ ?_ ?_ ?_ ?_ ?_ ?_ ?_ ?_ ?_ ?_ ?_ ?_ ?_ ?_ ?_ ?_ ?_ ?_ ?_ ?_ ?_ ?_ ?_ ?_ ?_ ?_ ?_ ?_ ?_ ?_ ?_ ?_ ?_ ?_ ?_ ?_ ?_ ?_ ?_ ?_ ?_ ?_ ?_ ?_ ?_ ?_ ?_ ?_ ?_ ?_ ?_ ?_ ?_ ?_ ?_ ?_ ?_ ?_
  any_goals first|(refine' L2.dh.of ?a ?l ?c ?k;(case a=>k_is);(case l=>k_is);(case c=>k_is);(case k=>k_is))|(refine' L2.dD.of ?a ?i ?l ?c ?k;(case a=>k_is);(case i=>k_is);(case l=>k_is);(case c=>k_is);(case k=>k_is))|k_is
